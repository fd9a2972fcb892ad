import PyProof.Rows.All
import Wide.All
import OpenK.AllK
import Wide.FinOn
import Lean
import PyProof.EqAt
import PyProof.EqKinds
import PyProof.TupleCall
import PyProof.NeKinds
import PyProof.ListMulRoad
import PyProof.AttrMissHeap
import KE.KDictOf
import KE.KRevIter
import PyProof.ListRange
import KE.KSortTup
import KE.KMinKey
import PyProof.MinMaxWalk
import PyProof.Rows.CallKwBuiltin
import PyProof.Rows.SetFrom
import PyProof.Rows.SeqMore
import PySem.Challenge.RW_turnweave_k56_whole_to_rest
open Option renaming some→aa,isSome_iff_exists→dy,getD_some→eJ,map_some→gQ,isSome_map→ie,getD_none→ke,some→kq,isSome_some→mh
open PySem renaming Str→ah,Addr→ai,Value→aj,Shared→am,wpAny_bind→au,wpAny→av,starEach→ax,model→aB,Heap→aE,Obj→aG,eval→aH,wpAny_pure→aM,Paired→aN,World→aS,Stmt→aW,backTo→aZ,Program→bh,mainGlobals→bj,Around→br,Pos→bw,compareOp→bB,Env→bP,wpAny_field→bT,NameKind→bZ,Keyword→b6,IsPair→b8,binaryOp→ca,assignEach→cb,wpAny_mono→cf,Sem→cg,IsZip→cA,pyNext→cB,Builtin→cC,bootBuiltins→cH,attributeBase→cK,rawInt→cM,wpAny_setField_rec→cR,tupleKind→cS,IsEnum→cX,IsPart→c8,PassesOwn→db,FuncData→dc,wpAny_seqItems→dg,bindC→dw,foldedSetIterable→dA,atKey→dE,bindL→dF,wpAny_call_entry→dJ,keywordEach→dM,backToKw→dN,wpAny_callSpecial?_slot→dO,pyIter→dR,getItem→dY,swapsWith→d6,wpAny_passesOwn→d8,sizeLine_eq→d_,codeAny→ef,sliceBounds→eB,callerA→eG,wpAny_truthy_bool→eH,valueAt→eM,BindsTo→eR,call_meets→eU,wpAny_rule→eV,mem_of_lookup→eW,wpAny_newObj_type→eY,typeOf→fe,wpAny_pyIter_list→fi,sysModules→fB,behindInMarks→fK,wpAny_execs_nil→fT,storedH→fV,wpAny_typeOf→ge,PlainAttrs→gi,wpAny_holding→gm,preSum→gn,wpAny_Call_Name_kw→gp,wpAny_attempt→gv,letOwnedTupleGo→gA,wpAny_getItem_str_slice→gC,Comprehension→gH,wpAny_onRaise→gV,lastMarks→gY,wpAny_letGo→h_,post_val_or_str→ic,codeAny_mono→il,noteFrame→iu,setFlight→ix,ZipApart→iz,wpAny_updateSeq_pair→iL,typeLookup→iN,sliceRange_one→iP,swappedStores→iQ,tupleKind_room_in1→iR,bindArgs→iV,typeIs_str→ja,typeIs_int→jb,seq_tuple_add→jm,concat_meets→jn,noFill_tuple_add→jo,wpAny_Name→jB,storeName→jE,pick_run→jF,IsEnumOut→jI,builtinsNs→jM,cellsFrom→jO,call→jQ,swapsWithSole→jR,wpAny_pyIter_enum→j3,slot_list_getitem→j8,isSubtype_stop→j_,wpAny_loadName_local→kf,wpAny_pyIter_zip→km,codeAny_builtin→kK,wpAny_pyIter_tuple→kL,wpAny_setFlight_noneW→kN,wpAny_newTuple→lj,wpAny_execs_cons→lx,firstArgMember→lA,wpAny_assign_Name→lC,wpAny_loadName_cell→lF,wpAny_sequenceKey→lT,wpAny_isInstance→l6,wpAny_setField→mf,getattributeRaised→mo
open PySem.W renaming Frag→ao,nsIn→bS,kia_one→cN,hideAll→du,fnOf→dH,hideAll_none→eD,mg_of→eX,exmOne→e_,keepIn→fD,findIn→fF,kitOne→fP,hideAll_get→fQ,of_hideAll→gd,codeIn→gq,OpenLaw→gU,mroIn→iq,excIn→iE,methodObj→iZ,lookIn→i8,instObj→i_,kitx_list→ko,plainGet→kr,cellsFrom_some→lE,kitx_dict→lR,callWith_K→lW,WalkO→mn
open List renaming length_map→ay,mem_cons→az,map_cons→aC,mem_cons_of_mem→aI,mem_of_getElem?→aJ,mem_cons_self→aK,getElem?_eq_getElem→aR,length_cons→aT,getElem?_map→aU,mem_map→aV,nil_append→aX,length_append→a_,size_toArray→bf,append_nil→bg,mem_singleton→bi,replicate→bn,mem_append→bp,not_mem_nil→bq,map_map→bu,getD_eq_getElem?_getD→bv,range→bx,append_assoc→bD,map_append→bM,getElem?_cons_succ→bU,mem_of_find?_eq_some→bX,getElem?_eq_some_iff→b7,find?_cons→b_,cons_append→cj,mem_append_right→cp,flatMap_cons→cq,map_nil→cr,lookup_cons→cu,length_singleton→cw,isEmpty_iff→cy,length_drop→cI,replicate_succ→cL,all_eq_true→cO,length_take→cY,flatMap_nil→da,length_nil→di,map_congr_left→dt,take_of_length_le→dD,mem_filter→dG,drop_zero→dS,length→dU,mem_flatMap→dX,nodup_cons→d5,isPrefixOf_iff_prefix→d7,mem_append_left→d9,getElem_mem→eE,findSome?_cons→eF,flatten_cons→eI,any_cons→eK,find?_some→eN,foldl_cons→eZ,filter_cons→fh,all_cons→fo,getElem_of_mem→fx,all_map→fA,mem_range→fI,getElem?_range→fN,drop_of_length_le→fO,of_mem_zip→fS,range'→f9,drop_eq_getElem_cons→gh,contains_iff_mem→gy,find?_eq_none→gB,filterMap_cons→gE,range_succ_eq_map→gI,length_filter_le→gJ,take_append_drop→gM,range'_succ→gP,range_eq_range'→gR,getElem?_set_self→gZ,range_succ→g9,zip_cons_cons→ii,take_length→io,getElem?_of_mem→ir,foldl→iy,lookup→iD,mem_of_mem_take→iH,getElem?_set_ne→iT,isEmpty_cons→iW,Nodup→i0,mem_filterMap→i7,getElem?_cons_zero→jc,map_drop→je,getElem?_append_right→jh,forIn_cons→jp,getElem?_eq_none→jq,map_take→jx,length_replicate→jG,isEmpty_nil→jH,mem_of_mem_drop→jJ,filter_cons_of_neg→jX,ext_getElem?→j4,findSome?_eq_none_iff→kg,length_pos_iff→ki,append_eq_nil_iff→kx,length_range→kz,eq_nil_of_length_eq_zero→kB,getElem?_replicate→kD,pairwise_map→kE,filter_append→kH,take_sublist→kI,sum_cons→kR,take_succ_cons→kS,flatMap_def→kU,getElem?_set→kW,take_zero→kZ,take_add→lm,forIn_nil→lp,flatMap_append→lr,zipIdx_nil→lz,set_cons_succ→lB,countP_cons→lD,getElem?_append_left→lJ,drop_drop→lK,drop_left→lL,take_succ→lP,mem_or_eq_of_mem_set→l9,Pairwise→l_,getElem?_drop→mi,zipIdx_cons→mj,set_cons_zero→ml
open Nat renaming le_refl→aA,zero_le→aO,le_trans→aY,zero_add→bE,le_of_ble_eq_true→bF,ne_of_lt→bQ,lt_of_lt_of_le→bY,add_mul→ck,lt_irrefl→cJ,one_mul→cZ,ne_of_gt→c5,pow_le_pow_right→dj,add_zero→dL,mul_le_mul_right→dP,add_comm→dW,sub_zero→eT,mul_add→fj,one_le_two_pow→fG,mul_le_mul_left→fM,le_of_eq→gf,pow_add→gD,lt_or_ge→gK,add_le_add_left→gL,eq_zero_or_pos→gO,sub_self→gT,le_add_right→ib,le_of_lt→iv,mul_assoc→jL,min_eq_left→jN,min_eq_right→j5,one_le_pow→kj,le_mul_of_pos_left→kA,reduceAdd→ln,le_of_not_lt→lN,le_mul_of_pos_right→lO
open Option.some renaming inj→aL,injEq→bH
open PySem.Heap renaming lt_size→aP,get?_push_of_some→aQ,get?_push_size→bI,SameBut→cQ,size_push→c_,ExtBut→jD,Left→jV
open Int renaming toNat_natCast→bb,toNat_of_nonneg→cm,emod_nonneg→c7,emod_lt_of_pos→dh
open PySem.NameKind renaming free→bc,cell→ci
open Ne renaming symm→bz
open PySem.Str renaming ofString→bG,join→dq,empty→f_,length→iJ
open PySem.Value renaming ref→bK,none→cP,bool→eO,str→fU,int→gF,type→jC,isStrOf→lI
open Bool renaming and_eq_true→bV,false_eq_true→cF,false_ne_true→cV,not_eq_true'→fJ,eq_iff_iff→fZ,and_false→gb,true_and→iF,or_eq_true→jP,not_true→jU,not_false→kF,or_false→lU,false_or→ma
open PyProof.Rows renaming AllBare→ce,envOfC→cD,IsTup→eS,slot_tuple_getitem→fu,IntsAre→fY,callWith_type1→g_,UnaryOp_→ik,boot_tuple→jY,args_tuple_getitem→kG,slicePart_none→kO,subscriptTail_builtinR→kX,entry_tuple_getitem→k_
open False renaming elim→cE
open PySem.Builtin.Str renaming occurrences→cU,strSliceIndices→hU
open PySem.Txt renaming slice→cW,upper→dZ
open PySem.Builtin.SmallTypes renaming nextOf→c9,ownedTupleIsFree→fy,ownedTupleHandOut→gu
open True renaming intro→dv
open Sum renaming inr→dB
open Prod.mk renaming injEq→dC
open PySem.SeqAt renaming EqAt→eP,RcAt→fH,RcNeAt→fW
open ForInStep renaming yield→eQ
open PySem.Builtin.List renaming listTooLong→fv
open Or renaming inr→fE,inl→gw
open List.cons renaming injEq→fX
open PySem.Paired renaming length→gc
open Eq renaming trans→gj
open PySem.Builtin.Tuple renaming tupleExact→gr,tupleItemsOf→kT
open LawfulBEq renaming eq_of_beq→gG
open LawfulMonad renaming pure_bind→gN
open PySem.F renaming slot_enumerate_next→gS,slot_tuple_iterator_next→gX,slot_zip_next→hZ,args_tuple_add_2→ip,plainAttrs_list→iw,entry_tuple_add→jf,slot_list_getattribute→ju,slot_tuple_add→jT,slot_list_extend→jZ,excBase_ValueError→j6,slot_int_rmul→j7,entry_enumerate_next→j9,args_zip_next_1→ku,entry_tuple_iterator_next→kJ,entry_zip_next→kQ,type_list_extend→lg,slot_list_extend→lq,args_enumerate_next_1→lH,entry_list_extend→lM,args_list_extend_2→lQ,plainAttrs_str→lY,args_tuple_iterator_next_1→md
open PySem.Builtin.Slice renaming slicePlaces→ig,sliceAdjust→jS,sliceApplied→ly
open Lean.Syntax renaming Term→iS
open Array renaming toList_append→iY,length_toList→jr,getElem?_eq_getElem→lG,getElem?_eq_some_iff→lV
open PyProof.Rows.IsTup renaming new→i9
open Lean renaming mkIdent→jd
open PySem.Obj renaming mapSeq→jg,data_mapFields→kC
open PySem.Walks renaming list→jj
open Prod renaming snd→jk
open PySem.Heap.SameBut renaming update→jW
open Classical renaming choose_spec→kc
open PySem.Around renaming under_plainId→kh
open PySem.PassesOwn renaming never→kl
open PySem.Builtin.Dict renaming updateFrom→kw
open PySem.Calls renaming evalArgs_plain→ky,Name_function_global→kP,callWith_builtin→lZ
open Function renaming comp→kM
open PySem.AutoSeq1 renaming wpAny_loadPart'→lS
set_option Elab.async false
set_option compiler.extract_closed false
set_option linter.all false
set_option maxRecDepth 100000
set_option maxHeartbeats 4000000
local macro_rules | `(tactic| lia) => `(tactic| first | exact (Nat.sub_add_cancel (Nat.le_trans (by decide) ‹_›)).symm | exact Nat.le_trans ‹_› (by decide) | exact Nat.le_trans (by decide) ‹_› | lia (config := {}) | omega)
namespace L2
open PySem PySem.Spec PyProof.Rows
abbrev Key:=Sum Int ah
def wN:Key→aj→Bool
 | .inl k,v=>aj.isInt k v
 | .inr x,v=>lI x v
def TY (w:aS):Key→Int
 | .inl k=>hashInt k
 | .inr x=>hashStr w x
theorem uB:∀{k:Key}{v:aj},wN k v=true→(∃i t,k=Sum.inl i∧v=gF i t)∨(∃x t,k=dB x∧v=fU x t)
 | .inl i,v,h=>by
  obtain⟨t,e⟩:=aj.isInt_shape (k:=i) (v:=v) h;exact .inl ⟨i,t,rfl,e⟩
 | .inr x,v,h=>by
  obtain⟨t,e⟩:=aj.isStrOf_shape (x:=x) (v:=v) h;exact .inr ⟨x,t,rfl,e⟩
def XX (i:Int) (t:Tok):wN (.inl i) (.int i t)=true:=by simp [wN,aj.isInt]
def SY (x:ah) (t:Tok):wN (.inr x) (.str x t)=true:=by simp [wN,lI]
def VY (a b:Int):decide ((Sum.inl a:Key)=Sum.inl b)=(a == b):=by
 by_cases e:a=b
 ·subst e;simp
 ·have h:¬(Sum.inl a:Key)=Sum.inl b:=λq=>e (Sum.inl.inj q);rw[decide_eq_false h];exact(beq_eq_false_iff_ne.mpr e).symm
def XH (a b:ah):decide ((dB a:Key)=dB b)=decide (a=b):=by
 by_cases e:a=b
 ·subst e;simp
 ·have h:¬(dB a:Key)=dB b:=λq=>e (dB.inj q);rw[decide_eq_false h,decide_eq_false e]
def Zt (a:Int) (b:ah):decide ((Sum.inl a:Key)=dB b)=false:=decide_eq_false (λq=>nomatch q)
def Qo (a:ah) (b:Int):decide ((dB a:Key)=Sum.inl b)=false:=decide_eq_false (λq=>nomatch q)
def qE (prog:bh) (w:aS):PySem.KeyKind prog w Key where
  is:=wN
  hash:=TY w
  inj:=λv a b ha hb=>by
    obtain ⟨i,t,rfl,rfl⟩ |⟨x,t,rfl,rfl⟩:=uB ha
    · obtain ⟨j,u,rfl,e⟩ |⟨y,u,rfl,e⟩:=uB hb
      · injection e with e1 _;rw[e1]
      · exact nomatch e
    · obtain ⟨j,u,rfl,e⟩ |⟨y,u,rfl,e⟩:=uB hb
      · exact nomatch e
      · injection e with e1 _;rw[e1]
  byValue:=λk v h=>by
    rcases uB h with⟨i,t,rfl,rfl⟩ |⟨x,t,rfl,rfl⟩<;>rfl
  pyHash:=λhv h=>by
    obtain ⟨i,t,rfl,rfl⟩ |⟨x,t,rfl,rfl⟩:=uB hv
    · exact wpAny_pyHash_int h
    · exact wpAny_pyHash_str h
  eqBool:=λhu hv h=>by
    obtain ⟨i,t,rfl,rfl⟩ |⟨x,t,rfl,rfl⟩:=uB hu
    · obtain ⟨j,u,rfl,rfl⟩ |⟨y,u,rfl,rfl⟩:=uB hv
      · rw[VY]at h;exact wpAny_eqBool_int h
      · rw[Zt]at h;exact eP.int_str i t y u _ _ _ _ h
    · obtain ⟨j,u,rfl,rfl⟩ |⟨y,u,rfl,rfl⟩:=uB hv
      · rw[Qo]at h;exact eP.str_int x t j u _ _ _ _ h
      · rw[XH]at h;exact wpAny_eqBool_str h
  «strs» :=λk x t v h=>by
    obtain ⟨i,u,rfl,e⟩ |⟨y,u,rfl,e⟩:=uB h
    · exact nomatch e
    · injection e with e1 _;subst e1;cases v<;>rfl
def V_ (prog:bh) (w:aS) (i:Int) (t:Tok):(qE prog w).is (.inl i) (.int i t)=true:=XX i t
def Sx (prog:bh) (w:aS) (x:ah) (t:Tok):(qE prog w).is (.inr x) (.str x t)=true:=SY x t
inductive V where
  |cc |bl (b:Bool) |int (i:Int) |str (x:ah) |byt (b:Array UInt8) |flt (b:UInt64) |ref (a:ai) |ty (n:String)
  deriving DecidableEq
def mV:V→aj→Prop
 | .cc,u=>u=cP
 | .bl b,u=>u=eO b
 | .int i,u=>∃t,u=gF i t
 | .str x,u=>∃t,u=fU x t
 | .byt b,u=>∃t,u=aj.bytes b t
 | .flt b,u=>∃t,u=aj.float b t
 | .ref a,u=>u=bK a
 | .ty n,u=>u=jC n
abbrev mM:List V→List aj→Prop:=aN mV
def mM.length{xs:List V}{us:List aj}(r:mM xs us):xs.length=us.length:=gc r
theorem mM.get:∀{xs:List V}{us:List aj}{i:Nat}{x:V},mM xs us→xs[i]? =aa x→ ∃u,us[i]? =aa u∧mV x u
 |_,_,_,_, .nil,e=>by simp at e
 |_,_,0,_, .cons r _,e=>by simp at e;subst e;exact⟨_,rfl,r⟩
 |_,_,i+1,x, .cons _ t,e=>by
  obtain⟨u,h1,h2⟩:=mM.get (i:=i) (x:=x) t (by simpa using e);exact⟨u,by simpa using h1,h2⟩
theorem mM.append:∀{xs ys:List V}{us ws:List aj},mM xs us→mM ys ws→mM (xs++ys) (us++ws)
 |_,_,_,_, .nil,s=>s
 |_,_,_,_, .cons r t,s=> .cons r (mM.append t s)
theorem mM.take:∀{xs:List V}{us:List aj}(n:Nat),mM xs us→mM (xs.take n) (us.take n)
 |_,_,0,_=> .nil
 |_,_,_+1, .nil=> .nil
 |_,_,n+1, .cons r t=> .cons r (mM.take n t)
theorem mM.drop:∀{xs:List V}{us:List aj}(n:Nat),mM xs us→mM (xs.drop n) (us.drop n)
 |_,_,0,r=>r
 |_,_,_+1, .nil=> .nil
 |_,_,n+1, .cons _ t=>mM.drop n t
def qr:Option V→Option aj→Prop
 |some v,aa u=>mV v u
 |none,none=>True
 |_,_=>False
def KV {κ:Type}:List (κ×V)→List (κ×aj)→Prop:=aN λ(p:κ×V) (q:κ×aj)=>p.1=q.1∧mV p.2 q.2
def kV:Key→V
 | .inl i=> .int i
 | .inr x=> .str x
inductive HO where
    |bO (xs:List V)
    |bW (xs:List V)
    |dK (hV:List (Key×V)) |dT (hV:List (List Key×V))
    |set (S:Int→Bool) (n:Nat)
    |ins (C dx:ai) (fs:List (ah×V))
    |own (x:ai)
    |xd (fs:List (ah×V))
    |met (f x:ai)
    |rng (lo hi:Int)
    |frz (o:aG) (u:HO)
    |tbl (ps:Array aj)
    |ext (φ:aE→Prop)
abbrev Hp:=ai→Option HO
def nH (H:Hp) (a:ai) (o:HO):Hp:=λb=>if b=a then aa o else H b
def pE:nH H a o a=aa o:=by unfold nH;rw[if_pos rfl]
def og (h:b≠a):nH H a o b=H b:=by unfold nH;rw[if_neg h]
def BT{H:Hp}{a b:ai}{o u:HO}(h:H a=aa o) (h':H b=aa u) (d:o≠u):a≠b:=by
 intro e;subst e;rw[h]at h';exact d (aL h')
def pR{H:Hp}{a b:ai}{o:HO}(h:H a=aa o) (h':H b=none):a≠b:=by
 intro e;subst e;rw[h]at h';cases h'
section
variable (P:bh) (w:aS)
def nc (H:Hp) (h:aE) (a:ai):HO→Prop
 | .bO xs=>xs.length≤sizeLine∧ ∃(eA:List aj) (n:Nat),mM xs eA∧h.get? a=aa { cls:= .type "list",data:= .seq eA.toArray n }
 | .bW xs=>xs.length≤sizeLine∧ ∃eA:List aj,mM xs eA∧eS h a eA.toArray
 | .dK hV=>hV.length≤sizeLine∧(a == fB)=false∧ ∃vs,KV hV vs∧h.DictOf (qE P w) a vs
 | .dT hV=>hV.length≤sizeLine∧(a == fB)=false∧ ∃xs:List (List Key×ai×aj),
   aN (λ(p:List Key×V) (q:List Key×ai×aj)=>p.1=q.1∧H q.2.1=aa (.bW (p.1.map kV))∧mV p.2 q.2.2) hV xs∧
   ∃o es ep,h.get? a=aa o∧o.ExactDict∧o.data= .dict es ep∧es.toList=xs.map (entryOfKey (cS (qE P w)))∧(xs.map (·.1)).Nodup
 | .set S n=>h.SetOf (intKind P w) a S n
 | .ins C dx fs=>H dx=aa (.own a)∧fs.length≤1000∧dx≠a∧h.get? a=aa (i_ C dx)∧
   ∃mA,h.Ns1 dx mA∧(∀f,qr (fs.lookup f) (mA f))∧PySem.Within mA (fs.map (·.1))
 | .own _=>∃o,h.get? a=aa o
 | .xd fs=>∃mA,h.Ns1 a mA∧ ∀f,qr (fs.lookup f) (mA f)
 | .rng lo hi=>∃t u v,h.get? a=aa { cls:= .type "range",data:= .fields #[.int lo t, .int hi u, .int 1 v] }
 | .frz o u=>h.get? a=aa o∧nc H h a u
 | .tbl ps=>h.get? a=aa { cls:= .none,data:= .fields ps }
 | .met f x=>h.get? a=aa (iZ (.ref f) (.ref x))
 | .ext φ=>φ h∧(∃o,h.get? a=aa o)∧ ∀h1 h2:aE,φ h1→(∀o,h1.get? a=aa o→h2.get? a=aa o)→φ h2
def nZ (H:Hp) (h:aE):Prop:=∀a o,H a=aa o→nc P w H h a o
end
def nc.lt (x:nc P w H h a o):a<h.objs.size:=by
 cases o with
 |bO xs=>obtain⟨_,_,_,_,e⟩:=x;exact aP e
 |bW xs=>obtain⟨_,_,_,p⟩:=x;exact p.lt
 |dK hV=>obtain⟨_,_,_,_,o,_,_,e,_⟩:=x;exact aP e
 |dT hV=>obtain⟨_,_,_,_,o,_,_,e,_⟩:=x;exact aP e
 |set S n=>obtain⟨o,_,_,_,e,_⟩:=x;exact aP e
 |ins C dx fs=>obtain⟨_,_,_,e,_⟩:=x;exact aP e
 |own y=>obtain⟨_,e⟩:=x;exact aP e
 |xd fs=>obtain⟨_,⟨_,_,_,e,_⟩,_⟩:=x;exact aP e
 |rng lo hi=>obtain⟨_,_,_,e⟩:=x;exact aP e
 |frz ob u=>obtain⟨e,_⟩:=x;exact aP e
 |tbl ps=>exact aP (show h.get? a=aa _ from x)
 |met f y=>exact aP (show h.get? a=aa _ from x)
 |ext φ=>obtain⟨_,⟨_,e⟩,_⟩:=x;exact aP e
theorem Paired.mapP{α β:Type}{F G:α→β→Prop}:∀{l₁:List α}{l₂:List β},aN F l₁ l₂→(∀a b,F a b→G a b)→aN G l₁ l₂
 |_,_, .nil,_=> .nil
 |_,_, .cons r t,f=> .cons (f _ _ r) (Paired.mapP t f)
def nc.stay (x:nc P w H h a o) (k:∀b u,(b=a∨H b=aa (.own a))→h.get? b=aa u→h'.get? b=aa u)
  (ho:∀b,H b=aa (.own a)→H' b=aa (.own a)) (ht:∀b xs,H b=aa (.bW xs)→H' b=aa (.bW xs)):nc P w H' h' a o:=by
 induction o with
 |bO xs=>obtain⟨z,eA,n,r,e⟩:=x;exact⟨z,eA,n,r,k _ _ (.inl rfl) e⟩
 |bW xs=>obtain⟨z,eA,r,ob,e,c⟩:=x;exact⟨z,eA,r,ob,k _ _ (.inl rfl) e,c⟩
 |dK hV=>obtain⟨z,y,vs,r,ob,es,ep,e,c⟩:=x;exact⟨z,y,vs,r,ob,es,ep,k _ _ (.inl rfl) e,c⟩
 |dT hV=>
  obtain⟨z,y,xs,r,ob,es,ep,e,c⟩:=x;exact⟨z,y,xs,Paired.mapP r λp q z=>⟨z.1,ht _ _ z.2.1,z.2.2⟩,ob,es,ep,k _ _ (.inl rfl) e,c⟩
 |set S n=>obtain⟨ob,es,ep,t,e,c⟩:=x;exact⟨ob,es,ep,t,k _ _ (.inl rfl) e,c⟩
 |ins C dx fs=>
  obtain⟨d,z,ne,e,mA,⟨od,es,ep,e2,c⟩,r⟩:=x;exact⟨ho _ d,z,ne,k _ _ (.inl rfl) e,mA,⟨od,es,ep,k _ _ (.inr d) e2,c⟩,r⟩
 |own y=>obtain⟨ob,e⟩:=x;exact⟨ob,k _ _ (.inl rfl) e⟩
 |xd fs=>obtain⟨mA,⟨od,es,ep,e,c⟩,r⟩:=x;exact⟨mA,⟨od,es,ep,k _ _ (.inl rfl) e,c⟩,r⟩
 |rng lo hi=>obtain⟨t,u,v,e⟩:=x;exact⟨t,u,v,k _ _ (.inl rfl) e⟩
 |frz ob u ih=>obtain⟨e,q⟩:=x;exact⟨k _ _ (.inl rfl) e,ih q⟩
 |tbl ps=>
  have e:h.get? a=aa { cls:= .none,data:= .fields ps }:=x;show h'.get? a=aa { cls:= .none,data:= .fields ps };exact k a _ (.inl rfl) e
 |met f y=>
  have e:h.get? a=aa (iZ (.ref f) (.ref y)):=x;show h'.get? a=aa (iZ (.ref f) (.ref y));exact k a _ (.inl rfl) e
 |ext φ=>obtain⟨p,⟨o,e⟩,st⟩:=x;exact⟨st _ _ p λo q=>k _ _ (.inl rfl) q,⟨o,k _ _ (.inl rfl) e⟩,st⟩
def nZ.lt (x:nZ P w H h) (e:H a=aa o):a<h.objs.size:=(x a o e).lt
def nZ.fresh (x:nZ P w H h) (e:h.objs.size≤a):H a=none:=by
 cases q:H a with
 |none=>rfl
 |some u=>exact absurd (bY (x.lt q) e) (cJ _)
def nZ.kept (x:nZ P w H h) (k:∀b u,h.get? b=aa u→h'.get? b=aa u):nZ P w H h':=λa o e=>
 (x a o e).stay (λb u _ q=>k b u q) (λ_ q=>q) λ_ _ q=>q
def nZ.laid (x:nZ P w H h) (k:∀b u,h.get? b=aa u→h'.get? b=aa u) (hp:h.objs.size≤a) (new:nc P w (nH H a o) h' a o):nZ P w (nH H a o) h':=λb u e=>by
 have hn:=x.fresh hp;by_cases hb:b=a
 ·subst hb;rw[pE]at e;cases e;exact new
 ·rw[og hb]at e;exact(x b u e).stay (λc v _ q=>k c v q) (λc q=>by rw[og (pR q hn)];exact q) λc xs q=>by rw[og (pR q hn)];exact q
def Rd (H:Hp) (a:ai) (u:HO):Prop:=H a=aa u∨ ∃o,H a=aa (.frz o u)
def Rd.ok (r:Rd H a u) (x:nZ P w H h):nc P w H h a u:=by
 obtain r |⟨o,r⟩:=r
 ·exact x a u r
 ·obtain⟨_,q⟩:=x a _ r;exact q
def BG:Option HO→Prop
 |some (.bO _)=>True
 |some (.dK _)=>True
 |some (.dT _)=>True
 |some (.set _ _)=>True
 |some (.ins _ _ _)=>True
 |some (.ext _)=>True
 |_=>False
def nZ.write (ok:nZ P w H h) (mu:BG (H x)) (he:e=x∨H e=aa (.own x)) (k:∀b u,b≠e→h.get? b=aa u→h'.get? b=aa u) (heo:∃u,h'.get? e=aa u)
  (new:nc P w (nH H x o') h' x o'):nZ P w (nH H x o') h':=λb u q=>by
 have nown:∀c y,H c=aa (.own y)→c≠x:=λc y r z=>by subst z;rw[r]at mu;exact mu
 have ntup:∀c xs,H c=aa (.bW xs)→c≠x:=λc xs r z=>by subst z;rw[r]at mu;exact mu
 by_cases hb:b=x
 ·subst hb;rw[pE]at q;cases q;exact new
 ·rw[og hb]at q;by_cases hbe:b=e
  ·have q':H b=aa (.own x):=by
    obtain z |z:=he
    ·exact absurd (hbe.trans z) hb
    ·rw[hbe];exact z
   rw[q]at q';cases q';obtain⟨v,hv⟩:=heo;exact⟨v,by rw[hbe];exact hv⟩
  ·refine(ok b u q).stay (λc v hc r=>k c v ?_ r) (λc r=>by rw[og (nown c b r)];exact r) λc xs r=>by rw[og (ntup c xs r)];exact r
   obtain rfl |hc:=hc
   ·exact hbe
   ·rintro rfl;obtain z |z:=he
    ·exact nown c b hc z
    ·rw[hc]at z;cases z;exact hb rfl
structure Un (fs ex:List ai) (H H':Hp) (h h':aE):Prop where
  keep:∀b o,h.get? b=aa o→H b=none→b∉fs→b∉ex→h'.get? b=aa o
  slot:∀b o,h.get? b=aa o→H b=none→b∈fs→b∉ex→ ∃sl,h'.get? b=aa { o with slots:=sl }
  free:∀b o,h.get? b=aa o→H b=none→b∉ex→H' b=none
  there:∀b o,h.get? b=aa o→b∉ex→ ∃o',h'.get? b=aa o'
  tups:∀b xs,H b=aa (.bW xs)→H' b=aa (.bW xs)
  frzs:∀b o u,H b=aa (.frz o u)→H' b=aa (.frz o u)
  tbls:∀b ps,H b=aa (.tbl ps)→ ∃more,H' b=aa (.tbl (ps++more))
def Un.any (u:Un fs ex H H1 h h1) {b:ai}{ob:aG}(q:h.get? b=aa ob) (n:H b=none) (hx:b∉ex):∃sl,h1.get? b=aa { ob with slots:=sl }:=by
 by_cases hb:b∈fs
 ·exact u.slot b ob q n hb hx
 ·exact⟨ob.slots,u.keep b ob q n hb hx⟩
def Un.kept (k:∀b u,h.get? b=aa u→h'.get? b=aa u):Un fs ex H H h h':=
 ⟨λb ob q _ _ _=>k b ob q,λb ob q _ _ _=>⟨ob.slots,k b ob q⟩,λ_ _ _ n _=>n,λb ob q _=>⟨ob,k b ob q⟩,λ_ _ q=>q,λ_ _ _ q=>q,λ_ ps q=>⟨#[],by rw[q];simp⟩⟩
def Un.refl:Un fs ex H H h h:=Un.kept λ_ _ q=>q
def Un.laid (k:∀b u,h.get? b=aa u→h'.get? b=aa u) (hp:h.objs.size≤a) (hn:H a=none):Un fs ex H (nH H a o) h h' where
  keep:=λb u q _ _ _=>k b u q
  slot:=λb u q _ _ _=>⟨u.slots,k b u q⟩
  free:=λb u q n _=>by rw[og (bQ (bY (aP q) hp))];exact n
  there:=λb u q _=>⟨u,k b u q⟩
  tups:=λb xs q=>by rw[og (pR q hn)];exact q
  frzs:=λb u xs q=>by rw[og (pR q hn)];exact q
  tbls:=λb ps q=>⟨#[],by rw[og (pR q hn),q];simp⟩
def Un.write (mu:BG (H x)) (he:e=x∨H e=aa (.own x)) (k:∀b u,b≠e→h.get? b=aa u→h'.get? b=aa u) (heo:∃u,h'.get? e=aa u):Un fs ex H (nH H x o) h h':=by
 have hx:∀b,H b=none→b≠x:=λb n z=>by subst z;rw[n]at mu;exact mu
 have hb:∀b,H b=none→b≠e:=λb n z=>by
  subst z;obtain r |r:=he
  ·exact hx b n r
  ·rw[n]at r;cases r
 have hm:∀b u,H b=aa u→ ¬BG (aa u)→b≠x:=λb u q nm z=>by subst z;rw[q]at mu;exact nm mu
 refine⟨λb u q n _ _=>k b u (hb b n) q,λb u q n _ _=>⟨u.slots,k b u (hb b n) q⟩,λb u q n _=>by rw[og (hx b n)];exact n,λb u q _=>?_,
  λb xs q=>by rw[og (hm b _ q λz=>z)];exact q,λb u xs q=>by rw[og (hm b _ q λz=>z)];exact q,λb ps q=>⟨#[],by rw[og (hm b _ q λz=>z),q];simp⟩⟩
 by_cases hbe:b=e
 ·subst hbe;exact heo
 ·exact⟨u,k b u hbe q⟩
def Bw (h:aE) (H:Hp):List ai:=(bx h.objs.size).filter λa=>(H a).isSome
def uy (h:aE) (H:Hp):aE:=du h (Bw h H)
def Rv (h:aE) (H:Hp):(uy h H).objs.size=h.objs.size:=PySem.W.hideAll_size _ _
def WQ (e:h.get? b=aa o) (n:H b=none):(uy h H).get? b=aa o:=
 fQ _ e λhm=>by
  have q:(H b).isSome=true:=(dG.mp hm).2;rw[n]at q;simp at q
def Tx (e:(uy h H).get? b=aa o):h.get? b=aa o∧H b=none:=by
 have e':h.get? b=aa o:=gd (Bw h H) e;refine⟨e',?_⟩;cases q:H b with
 |none=>rfl
 |some x=>
  have hm:b∈Bw h H:=dG.mpr ⟨fI.mpr (aP e'),by simp [q]⟩
  have z:(uy h H).get? b=none:=eD (Bw h H) hm;rw[z]at e;cases e
def Uj (g h:aE) (L:ai):List (ai×aG):=(bx h.objs.size).filterMap λa=>if a=L∨(g.get? a).isSome=true then none else(h.get? a).map λo=>(a,o)
def rest (g h:aE) (L d:ai):List (ai×aG):=(Uj g h L).filter λp=>decide (p.1≠d)
structure Mod (K:ao) (mg:ah→Option aj) (base:aE):Prop where
  kin:K.In base
  glob:base.Ns bj mg
  blt:∃mb,base.Ns jM mb∧ ∀x:ah,x≠ "__name__" →mb x=cH x
  nolimit:base.NoLimit
structure Cx where
  prog:bh
  w:aS
  K:ao
  mg:ah→Option aj
  base:aE
  A:br
  N:List ah
  s₀:am
  H₀:Hp
  env:bP
  outer:List bP
  stack:List bP
  ex:List ai
  fn:ah→Bool
  calm:Bool
  pn:List (ai×aG)
  xe:aj→am→Prop
def frs (l:List bP):List ai:=l.filterMap (·.frame)
abbrev Cx.fs (X:Cx):List ai:=frs X.outer
def wo (sc:Scope) (x:ah):Prop:=sc.names.lookup x=aa .local∨sc.names.lookup x=aa .cell∨sc.names.lookup x=aa .free
def tp (sc:Scope) (x:ah):Prop:=sc.names.lookup x=aa .local∨sc.names.lookup x=aa .cell
def VQ (env:bP) (h:aE) (m:ah→Option aj) (x:ah) (u:aj):Prop:=
 (env.kindOf x=aa .local∧m x=aa u)∨((env.kindOf x=aa .cell∨env.kindOf x=aa .free)∧ ∃c,env.cells.lookup x=aa c∧h.IsCell c (aa u))
structure Cx.Ok (X:Cx):Prop where
  mod:Mod X.K X.mg X.base
  kind:X.env.scope.kind= .function
  glob:X.env.globals=bj
  blt:X.env.builtins=jM
  above:X.s₀.heap.objs.size≤X.env.locals
  inj:∀x y c,X.env.cells.lookup x=aa c→X.env.cells.lookup y=aa c→x=y
  has:∀x,(X.env.kindOf x=aa .cell∨X.env.kindOf x=aa .free)→ ∃c,X.env.cells.lookup x=aa c
  cab:∀x c,X.fn x=true→X.env.cells.lookup x=aa c→X.s₀.heap.objs.size≤c
  hd:X.calm=true→X.A.handled=none
  frames:X.A.frames=aa X.stack
  stk:X.stack=X.outer∨(X.stack=X.env::X.outer∧X.env.frame=aa X.env.locals)
  exf:∀b∈X.ex,b≠X.env.locals∧ ∀x c,X.env.cells.lookup x=aa c→c≠b
  bs:∀b o,X.base.get? b=aa o→X.s₀.heap.get? b=aa o∧X.H₀ b=none
  bsz:X.base.objs.size≤X.s₀.heap.objs.size
  noex:∀b o,X.base.get? b=aa o→b∉X.ex
  exfs:∀b∈X.ex,b∉X.fs
  funs:X.s₀.heap.FunFrames X.base X.outer
  frf:∀b∈X.fs,X.H₀ b=none
structure my (X:Cx) (ag:List (ai×aG)) (σ:List (Option V)) (H:Hp) (s:am):Prop where
  ok:X.Ok
  os:s.os=X.s₀.os
  bare:ce s.gens
  base:Un X.fs X.ex X.H₀ H X.s₀.heap s.heap
  loc:∃m,s.heap.Ns X.env.locals m∧ ∀(i:Nat) (x:ah) (v:V),X.N[i]? =aa x→σ[i]? =aa (aa v)→wo X.env.scope x→ ∃u,mV v u∧VQ X.env s.heap m x u
  cell:∀x c,X.env.cells.lookup x=aa c→ ∃v,s.heap.IsCell c v
  free:H X.env.locals=none
  freeC:∀x c,X.env.cells.lookup x=aa c→H c=none
  pin:∀p∈X.pn++ag,s.heap.get? p.1=aa p.2∧H p.1=none∧p.1≠X.env.locals∧p.1∉X.fs∧ ∀v,p.2.data≠ .cell v
  cG:nZ X.prog X.w H s.heap
  len:σ.length=X.N.length
def Cx.Ok.nofr{X:Cx}(ok:X.Ok) (e:X.base.get? b=aa o):b∉X.fs:=λhb=>by
 have:=(ok.funs.mem hb).1;rw[e]at this;cases this
def my.bs{X:Cx}{ag:List (ai×aG)}{σ:List (Option V)}{H:Hp}{s:am}(I:my X ag σ H s):∀b o,X.base.get? b=aa o→s.heap.get? b=aa o∧H b=none:=λb o e=>
 ⟨I.base.keep b o (I.ok.bs b o e).1 (I.ok.bs b o e).2 (I.ok.nofr e) (I.ok.noex b o e),I.base.free b o (I.ok.bs b o e).1 (I.ok.bs b o e).2 (I.ok.noex b o e)⟩
def my.bk (I:my X ag σ H s):∀b o,X.base.get? b=aa o→s.heap.get? b=aa o:=λb o e=>(I.bs b o e).1
def my.mod (I:my X ag σ H s):Mod X.K X.mg X.base:=I.ok.mod
def my.kIn (I:my X ag σ H s):X.K.In s.heap:=I.ok.mod.kin.keeps I.bk
def my.lt (I:my X ag σ H s):X.env.locals<s.heap.objs.size:=let ⟨_,hn,_⟩:=I.loc;hn.lt
def my.sz (I:my X ag σ H s):X.s₀.heap.objs.size≤s.heap.objs.size:=aY I.ok.above (iv I.lt)
def my.nofs (I:my X ag σ H s) (h:s.heap.objs.size≤a):a∉X.fs:=λhb=>by
 obtain⟨_,o,ho,_⟩:=I.ok.funs.mem hb;exact absurd (bY (aP ho) (aY I.sz h)) (cJ _)
def my.cne (I:my X ag σ H s):∀x c,X.env.cells.lookup x=aa c→c≠X.env.locals:=λx c e z=>by
 obtain⟨v,o,ho,hd⟩:=I.cell x c e;obtain⟨m,⟨o',es,ep,ho',hd',_⟩,_⟩:=I.loc;rw[z,ho']at ho;cases ho;rw[hd']at hd;cases hd
def my.funs (I:my X ag σ H s):s.heap.FunFrames X.base X.outer:=by
 have all:∀(l:List bP),(∀b∈frs l,b∈X.fs)→X.s₀.heap.FunFrames X.base l→s.heap.FunFrames X.base l:=by
  intro l
  induction l with
  |nil=>intro _ _;trivial
  |cons env r ih=>
   intro hs hl;obtain⟨hk,⟨L,o,hf,hn,ho,hd⟩,hr⟩:=hl;have hL:L∈X.fs:=hs L (by unfold frs;rw[gE,hf];exact aK);obtain⟨sl,e⟩:=I.base.slot L o ho (I.ok.frf L hL) hL λz=>I.ok.exfs L z hL;exact⟨hk,⟨L,_,hf,hn,e,hd⟩,ih (λb hb=>hs b (by unfold frs;rw[gE,hf];exact aI _ hb)) hr⟩
 exact all X.outer (λ_ hb=>hb) I.ok.funs
def my.stack (I:my X ag σ H s):s.heap.FunFrames X.base X.stack:=by
 obtain e |⟨e,hf⟩:=I.ok.stk
 ·rw[e];exact I.funs
 ·rw[e];obtain⟨m,hn,_⟩:=I.loc;refine .cons (by rw[I.ok.kind];decide) hf hn ?_ I.funs;exact aE.get?_none_of_le (aY I.ok.bsz I.ok.above)
def my.stkSub (I:my X ag σ H s):∀b∈frs X.stack,b∈X.env.locals::X.fs:=λb hb=>by
 obtain e |⟨e,hf⟩:=I.ok.stk
 ·rw[e]at hb;exact aI _ hb
 ·rw[e]at hb;unfold frs at hb;rw[gE,hf]at hb;exact hb
def my.stkFree (I:my X ag σ H s):∀b∈frs X.stack,H b=none:=λb hb=>by
 obtain e |hb:=az.mp (I.stkSub b hb)
 ·rw[e];exact I.free
 ·obtain⟨_,o,ho,_⟩:=I.ok.funs.mem hb;exact I.base.free b o ho (I.ok.frf b hb) λz=>I.ok.exfs b z hb
def my.step{g':Array GenState}{t':Nat}{d':Drawn}{ch:List ai}(I:my X ag σ H s)
  (hch:∀b∈ch,(b∈X.ex∨X.s₀.heap.objs.size≤b)∧b≠X.env.locals∧(∀x c,X.env.cells.lookup x=aa c→c≠b)∧ ∀p∈X.pn++ag,p.1≠b)
  (keep:∀b o,b≠X.env.locals→b∉X.fs→b∉ch→s.heap.get? b=aa o→H b=none→h'.get? b=aa o)
  (slot:∀b o,b≠X.env.locals→b∈X.fs→b∉ch→s.heap.get? b=aa o→H b=none→ ∃sl,h'.get? b=aa { o with slots:=sl }) (free:∀b o,b∉ch→s.heap.get? b=aa o→H b=none→H' b=none)
  (there:∀b o,b∉ch→s.heap.get? b=aa o→ ∃o',h'.get? b=aa o')
  (tups:∀b xs,H b=aa (.bW xs)→H' b=aa (.bW xs)) (frzs:∀b o u,H b=aa (.frz o u)→H' b=aa (.frz o u)) (tbls:∀b ps,H b=aa (.tbl ps)→ ∃more,H' b=aa (.tbl (ps++more)))
  (ns:∀m,s.heap.Ns X.env.locals m→h'.Ns X.env.locals m) (cG:nZ X.prog X.w H' h') (hg:ce g') :
  my X ag σ H' { s with heap:=h',gens:=g',drawn:=d',toks:=t' }:=by
 have neL:∀b o,X.s₀.heap.get? b=aa o→b≠X.env.locals:=λb o e=>bQ (bY (aP e) I.ok.above);have neC:∀b o,X.s₀.heap.get? b=aa o→b∉X.ex→b∉ch:=λb o e hx hb=>by
  rcases(hch b hb).1 with z |z
  ·exact hx z
  ·exact absurd (bY (aP e) z) (cJ _)
 have cellK:∀x c,X.env.cells.lookup x=aa c→ ∀v,s.heap.IsCell c v→h'.IsCell c v:=λx c e v ⟨o,ho,hd⟩=>by
  have nch:c∉ch:=λz=>(hch c z).2.2.1 x c e rfl;by_cases hc:c∈X.fs
  ·obtain⟨sl,q⟩:=slot c o (I.cne x c e) hc nch ho (I.freeC x c e);exact⟨_,q,hd⟩
  ·exact⟨o,keep c o (I.cne x c e) hc nch ho (I.freeC x c e),hd⟩
 refine⟨I.ok,I.os,hg,⟨λb o e n hb hx=>?_,λb o e n hb hx=>?_,λb o e n hx=>?_,λb o e hx=>?_,λb xs e=>tups b xs (I.base.tups b xs e),λb o xs e=>frzs b o xs (I.base.frzs b o xs e),λb ps e=>?_⟩,?_,λx c e=>?_,?_,λx c e=>?_,λp hp=>?_,cG,I.len⟩
 ·exact keep b o (neL b o e) hb (neC b o e hx) (I.base.keep b o e n hb hx) (I.base.free b o e n hx)
 ·obtain⟨sl,e1⟩:=I.base.slot b o e n hb hx;obtain⟨sl',e2⟩:=slot b _ (neL b o e) hb (neC b o e hx) e1 (I.base.free b o e n hx);exact⟨sl',e2⟩
 ·obtain⟨o',e1⟩:=I.base.there b o e hx;exact free b o' (neC b o e hx) e1 (I.base.free b o e n hx)
 ·obtain⟨o',e1⟩:=I.base.there b o e hx;exact there b o' (neC b o e hx) e1
 ·obtain⟨m1,e1⟩:=I.base.tbls b ps e;obtain⟨m2,e2⟩:=tbls b _ e1;exact⟨m1++m2,by rw[e2,Array.append_assoc]⟩
 ·obtain⟨m,hn,hl⟩:=I.loc;refine⟨m,ns m hn,λi x v e1 e2 e3=>?_⟩;obtain⟨u,r,l⟩:=hl i x v e1 e2 e3;refine⟨u,r,?_⟩;obtain l |⟨k,c,e,z⟩:=l
  ·exact .inl l
  ·exact .inr ⟨k,c,e,cellK x c e _ z⟩
 ·obtain⟨v,z⟩:=I.cell x c e;exact⟨v,cellK x c e v z⟩
 ·obtain⟨m,⟨o,_,_,ho,_⟩,_⟩:=I.loc;exact free _ o (λz=>(hch _ z).2.1 rfl) ho I.free
 ·obtain⟨v,o,ho,hd⟩:=I.cell x c e;exact free c o (λz=>(hch c z).2.2.1 x c e rfl) ho (I.freeC x c e)
 ·obtain⟨e,n,ne,nf,d⟩:=I.pin p hp;have nch:p.1∉ch:=λz=>(hch p.1 z).2.2.2 p hp rfl;exact⟨keep p.1 p.2 ne nf nch e n,free p.1 p.2 nch e n,ne,nf,d⟩
def my.un{t':Nat}(I:my X ag σ H s) (u:Un X.fs [] H H' s.heap h') (cG:nZ X.prog X.w H' h'):my X ag σ H' { s with heap:=h',toks:=t' }:=by
 obtain⟨m,⟨o,es,ep,ho,r⟩,_⟩:=id I.loc;obtain⟨sl,hL⟩:=u.any ho I.free (by simp);exact I.step (g':=s.gens) (d':=s.drawn) (ch:=[]) (λ_ z=>nomatch z) (λb o _ hb _ e n=>u.keep b o e n hb (by simp)) (λb o _ hb _ e n=>u.slot b o e n hb (by simp)) (λb o _ e n=>u.free b o e n (by simp)) (λb o _ e=>u.there b o e (by simp)) u.tups u.frzs u.tbls (λm' hm=>by
  obtain⟨o',es',ep',ho',r'⟩:=hm;rw[ho]at ho';cases ho';exact⟨_,es',ep',hL,r'⟩) cG I.bare
def my.call{g':Array GenState}{t':Nat}{d':Drawn}{ch:List ai}(I:my X ag σ H s) (u:Un (frs X.stack) ch H H' s.heap h') (cG:nZ X.prog X.w H' h') (hg:ce g')
  (hch:∀b∈ch,(b∈X.ex∨X.s₀.heap.objs.size≤b)∧b≠X.env.locals∧(∀x c,X.env.cells.lookup x=aa c→c≠b)∧ ∀p∈X.pn++ag,p.1≠b) :
  my X ag σ H' { s with heap:=h',gens:=g',drawn:=d',toks:=t' }:=by
 obtain⟨m,⟨o,es,ep,ho,r⟩,_⟩:=id I.loc;obtain⟨sl,hL⟩:=u.any ho I.free λz=>(hch _ z).2.1 rfl;exact I.step (ch:=ch) hch (λb o hL hb hc e n=>u.keep b o e n (λz=>(az.mp (I.stkSub b z)).elim hL hb) hc) (λb o _ _ hc e n=>u.any e n hc) (λb o hc e n=>u.free b o e n hc) (λb o hc e=>u.there b o e hc) u.tups u.frzs u.tbls (λm' hm=>by
  obtain⟨o',es',ep',ho',r'⟩:=hm;rw[ho]at ho';cases ho';exact⟨_,es',ep',hL,r'⟩) cG hg
def my.turned{t':Nat}(I:my X ag σ H s) (k:∀b o,b≠it→s.heap.get? b=aa o→h'.get? b=aa o) (hn:H it=none) (hL:it≠X.env.locals)
  (h1:it∈X.ex∨X.s₀.heap.objs.size≤it) (h2:∀x c,X.env.cells.lookup x=aa c→c≠it) (h3:∀p∈X.pn++ag,p.1≠it):my X ag σ H { s with heap:=h',toks:=t' }:=by
 have nit:∀b u,H b=aa u→b≠it:=λb u e z=>by rw[z,hn]at e;cases e
 refine I.step (g':=s.gens) (d':=s.drawn) (ch:=[it]) (λb hb=>?_) (λb o _ _ hc e _=>k b o (λz=>hc (by simp [z])) e) (λb o _ _ hc e _=>⟨o.slots,k b o (λz=>hc (by simp [z])) e⟩) (λ_ _ _ _ n=>n)
  (λb o hc e=>⟨o,k b o (λz=>hc (by simp [z])) e⟩) (λ_ _ e=>e) (λ_ _ _ e=>e) (λb ps e=>⟨#[],by rw[e];simp⟩) (λm hm=>?_) (λb u e=>?_) I.bare
 ·have e:b=it:=by simpa using hb
  subst e;exact⟨h1,hL,h2,h3⟩
 ·obtain⟨o,es,ep,ho,r⟩:=hm;exact⟨o,es,ep,k _ o (bz hL) ho,r⟩
 ·refine(I.cG b u e).stay (λc v hc q=>k c v ?_ q) (λ_ q=>q) λ_ _ q=>q;obtain z |z:=hc
  ·rw[z];exact nit b u e
  ·exact nit c _ z
def my.tok (I:my X ag σ H s) (t:Nat):my X ag σ H { s with toks:=t }:=I.un (h':=s.heap) (t':=t) Un.refl I.cG
def my.kept{t':Nat}(I:my X ag σ H s) (k:∀b u,s.heap.get? b=aa u→h'.get? b=aa u):my X ag σ H { s with heap:=h',toks:=t' }:=I.un (Un.kept k) (I.cG.kept k)
def my.laid{t':Nat}(I:my X ag σ H s) (k:∀b u,s.heap.get? b=aa u→h'.get? b=aa u) (hp:s.heap.objs.size≤a) (new:nc X.prog X.w (nH H a o) h' a o) :
  my X ag σ (nH H a o) { s with heap:=h',toks:=t' }:=I.un (Un.laid k hp (I.cG.fresh hp)) (I.cG.laid k hp new)
def my.write{t':Nat}(I:my X ag σ H s) (mu:BG (H x)) (he:e=x∨H e=aa (.own x)) (k:∀b u,b≠e→s.heap.get? b=aa u→h'.get? b=aa u) (heo:∃u,h'.get? e=aa u)
  (new:nc X.prog X.w (nH H x o) h' x o):my X ag σ (nH H x o) { s with heap:=h',toks:=t' }:=I.un (Un.write mu he k heo) (I.cG.write mu he k heo new)
def my.pins_of (I:my X ag σ H s) (h:∀p∈pins',s.heap.get? p.1=aa p.2∧H p.1=none∧p.1≠X.env.locals∧p.1∉X.fs∧ ∀v,p.2.data≠ .cell v):my X pins' σ H s:=
 ⟨I.ok,I.os,I.bare,I.base,I.loc,I.cell,I.free,I.freeC,λp hp=>(bp.mp hp).elim (λz=>I.pin p (d9 _ z)) (h p),I.cG,I.len⟩
def HD{N:List ah}(hN:N.Nodup) {i j:Nat}{x:ah}(a:N[i]? =aa x) (b:N[j]? =aa x):i=j:=by
 obtain⟨h1,e1⟩:=b7.mp a;obtain⟨h2,e2⟩:=b7.mp b;exact(List.getElem_inj hN).mp (e1.trans e2.symm)
def II{E:aj→am→Prop}{Q:Unit→am→Prop}(I:my X ag σ H s) (hN:X.N.Nodup) (hi:X.N[i]? =aa x) (hx:tp X.env.scope x) (r:mV v u)
  (h:∀s',my X ag (σ.set i (aa v)) H s'→(∃a,cQ a s.heap s'.heap∧(a=X.env.locals∨X.env.cells.lookup x=aa a))→Q () s') (hf:X.fn x=true∨X.env.scope.names.lookup x=aa .local:=by first |exact .inl rfl |exact .inr rfl |assumption):av M A (jE X.env x u) Q E s:=by
 obtain⟨m,hn,hl⟩:=id I.loc;have hcls:(X.env.scope.kind == .class || (X.env.scope.kind == .module&&X.env.locals != X.env.globals))=false:=by rw[I.ok.kind];rfl
 have hiσ:i<σ.length:=by rw[I.len];exact(b7.mp hi).1
 have cne:=I.cne;have tracked:∀{a:ai}{h':aE},(∃o,s.heap.get? a=aa o∧H a=none)→cQ a s.heap h'→nZ X.prog X.w H h':=λ{a h'} ha hs b ob e=>by
  obtain⟨_,_,hfree⟩:=ha;refine(I.cG b ob e).stay (λc w' hc q=>(hs.2 c ?_).trans q) (λ_ q=>q) λ_ _ q=>q;rintro rfl;obtain rfl |hc:=hc
  ·rw[hfree]at e;cases e
  ·rw[hfree]at hc;cases hc
 obtain hk |hk:=hx
 ·refine wpAny_storeName_local hk hn (λh' hn' hs=>?_) hcls;obtain⟨oL,_,_,hoL,_⟩:=id hn;refine h _ ⟨I.ok,I.os,I.bare,⟨λb o e n hb hx=>?_,λb o e n hb hx=>?_,I.base.free,λb o e hx=>?_,I.base.tups,I.base.frzs,I.base.tbls⟩,⟨_,hn',λj y v' e1 e2 e3=>?_⟩,λy c e=>?_,I.free,I.freeC,λp hp=>?_,tracked ⟨oL,hoL,I.free⟩ hs,by simpa using I.len⟩ ⟨_,hs, .inl rfl⟩
  ·exact(hs.2 b (bQ (bY (aP e) I.ok.above))).trans (I.base.keep b o e n hb hx)
  ·obtain⟨sl,e1⟩:=I.base.slot b o e n hb hx;exact⟨sl,(hs.2 b (bQ (bY (aP e) I.ok.above))).trans e1⟩
  ·obtain⟨o',e1⟩:=I.base.there b o e hx;exact⟨o',(hs.2 b (bQ (bY (aP e) I.ok.above))).trans e1⟩
  ·by_cases hj:j=i
   ·subst hj;rw[hi]at e1;cases e1;rw[gZ hiσ]at e2;cases e2;exact⟨u,r, .inl ⟨hk,by simp⟩⟩
   ·rw[iT (bz hj)]at e2;obtain⟨u',r',q⟩:=hl j y v' e1 e2 e3;refine⟨u',r',?_⟩;obtain ⟨k,e⟩ |⟨k,c,e,z⟩:=q
    ·refine .inl ⟨k,?_⟩;have:y≠x:=λe=>hj (HD hN e1 (e▸hi));simp [this,e]
    ·exact .inr ⟨k,c,e,z.sameBut hs (cne y c e)⟩
  ·obtain⟨w',z⟩:=I.cell y c e;exact⟨w',z.sameBut hs (cne y c e)⟩
  ·obtain⟨e,n,ne,nf,d⟩:=I.pin p hp;exact⟨(hs.2 p.1 ne).trans e,n,ne,nf,d⟩
 ·have hfn:X.fn x=true:=by
   obtain z |z:=hf
   ·exact z
   ·rw[z]at hk;cases hk
  obtain⟨c,hc⟩:=I.ok.has x (.inl hk);obtain⟨w',z⟩:=I.cell x c hc;refine wpAny_storeName_cell I.ok.kind hk hc z (λh' hc' hs=>?_);obtain⟨oc,hoc,hocd⟩:=id z;refine h { s with heap:=h' } ⟨I.ok,I.os,I.bare,⟨λb o e n hb hx=>?_,λb o e n hb hx=>?_,I.base.free,λb o e hx=>?_,I.base.tups,I.base.frzs,I.base.tbls⟩,⟨m,hn.sameBut hs (bz (cne x c hc)),λj y v' e1 e2 e3=>?_⟩,λy c' e=>?_,I.free,I.freeC,λp hp=>?_,tracked ⟨oc,hoc,I.freeC x c hc⟩ hs,by simpa using I.len⟩ ⟨c,hs, .inr hc⟩
  ·exact(hs.2 b (bQ (bY (aP e) (I.ok.cab x c hfn hc)))).trans (I.base.keep b o e n hb hx)
  ·obtain⟨sl,e1⟩:=I.base.slot b o e n hb hx;exact⟨sl,(hs.2 b (bQ (bY (aP e) (I.ok.cab x c hfn hc)))).trans e1⟩
  ·obtain⟨o',e1⟩:=I.base.there b o e hx;exact⟨o',(hs.2 b (bQ (bY (aP e) (I.ok.cab x c hfn hc)))).trans e1⟩
  ·by_cases hj:j=i
   ·subst hj;rw[hi]at e1;cases e1;rw[gZ hiσ]at e2;cases e2;exact⟨u,r, .inr ⟨.inl hk,c,hc,hc'⟩⟩
   ·rw[iT (bz hj)]at e2;obtain⟨u',r',q⟩:=hl j y v' e1 e2 e3;refine⟨u',r',?_⟩;obtain q |⟨k,c',e,z'⟩:=q
    ·exact .inl q
    ·refine .inr ⟨k,c',e,z'.sameBut hs ?_⟩;rintro rfl;exact hj (HD hN e1 (I.ok.inj _ _ _ e hc▸hi))
  ·by_cases hcc:c'=c
   ·subst hcc;exact⟨_,hc'⟩
   ·obtain⟨w2,z2⟩:=I.cell y c' e;exact⟨w2,z2.sameBut hs hcc⟩
  ·obtain⟨e,n,ne,nf,d⟩:=I.pin p hp;refine⟨(hs.2 p.1 ?_).trans e,n,ne,nf,d⟩;intro q;rw[q,hoc]at e;have q':oc=p.2:=aL e;exact d w' (by rw[←q'];exact hocd)
def Dw{E:aj→am→Prop}{Q:Unit→am→Prop}(I:my X ag σ H s) (hN:X.N.Nodup) (hi:X.N[i]? =aa x) (hx:tp X.env.scope x) (r:mV v u)
  (h:∀s',my X ag (σ.set i (aa v)) H s'→Q () s') (hf:X.fn x=true∨X.env.scope.names.lookup x=aa .local:=by first |exact .inl rfl |exact .inr rfl |assumption):av M A (jE X.env x u) Q E s:=
 II I hN hi hx r (λs' I' _=>h s' I') hf
def my.call' (I:my X ag σ H s) (ho:s'.os=s.os) (u:Un (frs X.stack) ch H H' s.heap s'.heap) (cG:nZ X.prog X.w H' s'.heap) (hg:ce s'.gens)
  (hch:∀b∈ch,(b∈X.ex∨X.s₀.heap.objs.size≤b)∧b≠X.env.locals∧(∀x c,X.env.cells.lookup x=aa c→c≠b)∧ ∀p∈X.pn++ag,p.1≠b):my X ag σ H' s':=by
 obtain⟨h',g',d',t',o'⟩:=s';have e:o'=s.os:=ho;subst e;exact I.call (g':=g') (t':=t') (d':=d') u cG hg hch
abbrev XK:=aj→Option ai→Hp→Prop
abbrev St:=List (Option V)
abbrev VK:=V→Hp→Prop
abbrev TE:=St→Hp→VK→Prop
abbrev TT:=St→Hp→(Bool→Hp→Prop)→Prop
abbrev TA:=St→Hp→(List V→Hp→Prop)→Prop
structure rR where
  nx:St→Hp→Prop
  rt:VK
  bk:St→Hp→Prop:=λ_ _=>False
  ct:St→Hp→Prop:=λ_ _=>False
abbrev TS:=rR→St→Hp→Prop
def EP (X:Cx) (ag:List (ai×aG)) (σ:St) (Q:VK) (u:aj) (s':am):Prop:=∃v H',my X ag σ H' s'∧mV v u∧Q v H'
def TP (X:Cx) (ag:List (ai×aG)) (σ:St) (Q:Bool→Hp→Prop) (b:Bool) (s':am):Prop:=∃H',my X ag σ H' s'∧Q b H'
def AP (X:Cx) (ag:List (ai×aG)) (σ:St) (Q:List V→Hp→Prop) (us:List aj) (s':am):Prop:=∃vs H',my X ag σ H' s'∧mM vs us∧Q vs H'
def SP (X:Cx) (ag:List (ai×aG)) (D:rR) (f:Flow) (s':am):Prop:=
 match f with
 | .next=>∃σ' H',my X ag σ' H' s'∧D.nx σ' H'
 | .brk=>∃σ' H',my X ag σ' H' s'∧D.bk σ' H'
 | .cont=>∃σ' H',my X ag σ' H' s'∧D.ct σ' H'
 | .ret u=>∃v σ' H',my X ag σ' H' s'∧mV v u∧D.rt v H'
def PE (X:Cx) (e:Expr) (t:TE):Prop:=
 ∀(ag:List (ai×aG)) (s:am) (σ:St) (H:Hp) (Q:VK),my X ag σ H s→t σ H Q→av (aB X.prog X.w) X.A (aH e X.env) (EP X ag σ Q) X.xe s
def PT (X:Cx) (e:Expr) (t:TT):Prop:=
 ∀(ag:List (ai×aG)) (s:am) (σ:St) (H:Hp) (Q:Bool→Hp→Prop),my X ag σ H s→t σ H Q→av (aB X.prog X.w) X.A (isTrue e X.env (aH e X.env)) (TP X ag σ Q) X.xe s
def PW (X:Cx) (e:Expr) (t:TT):Prop:=
 ∀(whole:cg aj) (ag:List (ai×aG)) (s:am) (σ:St) (H:Hp) (Q:Bool→Hp→Prop),my X ag σ H s→t σ H Q→av (aB X.prog X.w) X.A (isTrue e X.env whole) (TP X ag σ Q) X.xe s
def PW.pt (h:PW X e t):PT X e t:=h _
def PA (X:Cx) (es:List Expr) (t:TA):Prop:=
 ∀(pos:bw) (ag:List (ai×aG)) (s:am) (σ:St) (H:Hp) (Q:List V→Hp→Prop),my X ag σ H s→t σ H Q→av (aB X.prog X.w) X.A (spliced (aZ pos (ax es X.env))) (AP X ag σ Q) X.xe s
def PS (X:Cx) (st:aW) (t:TS):Prop:=
 ∀(ag:List (ai×aG)) (s:am) (σ:St) (H:Hp) (D:rR),my X ag σ H s→t D σ H→av (aB X.prog X.w) X.A (exec st X.env) (SP X ag D) X.xe s
def qH (X:Cx) (st:List aW) (t:TS):Prop:=
 ∀(ag:List (ai×aG)) (s:am) (σ:St) (H:Hp) (D:rR),my X ag σ H s→t D σ H→av (aB X.prog X.w) X.A (execs st X.env) (SP X ag D) X.xe s
def nD{α:Type}{t:cg α}{Q Q':α→am→Prop}{M:Model}{A:br}{E:aj→am→Prop}{s:am}(h:av M A t Q E s) (hQ:∀a s,Q a s→Q' a s):av M A t Q' E s:=cf h hQ λ_ _ x=>x
def KG (i:Nat):TE:=λσ H Q=>∃v,σ[i]? =aa (aa v)∧Q v H
def tC (v:V):TE:=λ_ H Q=>Q v H
def HB (hN:X.N[i]? =aa x) (hv:wo X.env.scope x) (hd:(x == ("__debug__" :ah))=false:=by decide) (hcd:(x == ("__classdict__" :ah))=false:=by decide):PE X (.Name x pos) (KG i):=by
 intro ag s σ H Q I h;obtain⟨v,e,h⟩:=h;obtain⟨m,hn,hl⟩:=I.loc;obtain⟨u,r,l⟩:=hl i x v hN e hv;have fin:EP X ag σ Q u s:=⟨v,H,I,r,h⟩;obtain ⟨hk,hm⟩ |⟨hk,c,hc,hcell⟩:=l
 ·exact jB (kf I.ok.kind hk hn hm fin) hd
 ·obtain hk |hk:=hk
  ·exact jB (lF I.ok.kind hk hc hcell fin) hd
  ·exact jB (wpAny_loadName_free I.ok.kind hk hc hcell fin hcd) hd
def Y'{i j pos}:PE X (.Constant (.int i) j pos) (tC (.int i)):=λ_ _ _ H _ I h=>wpAny_Constant_int ⟨.int i,H,I.tok _,⟨_,rfl⟩,h⟩
def UN{b j pos}:PE X (.Constant (.bool b) j pos) (tC (.bl b)):=λ_ _ _ H _ I h=>Constant_bool ⟨.bl b,H,I,rfl,h⟩
def Ts{j pos}:PE X (.Constant .none j pos) (tC .cc):=λ_ _ _ H _ I h=>Constant_none ⟨.cc,H,I,rfl,h⟩
def Wp{x j pos}:PE X (.Constant (.str x) j pos) (tC (.str x)):=λ_ _ _ H _ I h=>Calls.Constant_str ⟨.str x,H,I.tok _,⟨_,rfl⟩,h⟩
def Gl (X:Cx) (x:ah):Prop:=X.env.kindOf x=aa .globalImplicit
def yy{E:aj→am→Prop}{Q:aj→am→Prop}(I:my X ag σ H s) (hg:Gl X x) (hm:X.mg x=aa u) (h:Q u s)
  (hd:(x == ("__debug__" :ah))=false:=by decide):av (aB X.prog X.w) X.A (aH (.Name x pos) X.env) Q E s:=
 kP I.ok.kind hg (Calls.loadGlobal_global (by rw[I.ok.glob];exact I.mod.glob.keeps I.bk) hm h) hd
def xu{E:aj→am→Prop}{Q:aj→am→Prop}(I:my X ag σ H s) (hg:Gl X x) (hm:X.mg x=none) (hv:cH x=aa u) (h:Q u s)
  (hn:x≠ "__name__" :=by decide) (hd:(x == ("__debug__" :ah))=false:=by decide):av (aB X.prog X.w) X.A (aH (.Name x pos) X.env) Q E s:=by
 obtain⟨mb,h1,h2⟩:=I.mod.blt;exact kP I.ok.kind hg (Calls.loadGlobal_builtin (by rw[I.ok.glob];exact I.mod.glob.keeps I.bk) hm (by rw[I.ok.blt];exact h1.keeps I.bk) ((h2 x hn).trans hv) h) hd
def Iw (hg:Gl X x) (hm:X.mg x=aa u) (r:mV v u) (hd:(x == ("__debug__" :ah))=false:=by decide):PE X (.Name x pos) (tC v):=
 λ_ _ _ H _ I h=>yy I hg hm ⟨v,H,I,r,h⟩ hd
def Pw (hg:Gl X x) (hm:X.mg x=none) (hv:cH x=aa u) (r:mV v u) (hn:x≠ "__name__" :=by decide) (hd:(x == ("__debug__" :ah))=false:=by decide):PE X (.Name x pos) (tC v):=
 λ_ _ _ H _ I h=>xu I hg hm hv ⟨v,H,I,r,h⟩ hn hd
def Wm (t u:TT):TT:=λσ H Q=>t σ H λc H1=>if c=true then u σ H1 Q else Q false H1
def TB (t u:TT):TT:=λσ H Q=>t σ H λc H1=>if c=true then Q true H1 else u σ H1 Q
def QV (t:TT):TT:=λσ H Q=>t σ H λc H1=>Q (!c) H1
def Y3 (ha:PT X a tA):PW X (.BoolOp .And [a] pos) tA:=by
 intro wh ag s σ H Q I h;refine isTrue_and (nD (ha ag s σ H Q I h) λc s1 e=>?_);cases c with
 |true=>exact isTrue_and_nil e
 |false=>exact e
def QF (ha:PT X a tA):PW X (.BoolOp .Or [a] pos) tA:=by
 intro wh ag s σ H Q I h;refine isTrue_or (nD (ha ag s σ H Q I h) λc s1 e=>?_);cases c with
 |false=>exact isTrue_or_nil e
 |true=>exact e
def S9{X:Cx}{a b:Expr}{pos:bw}{tA tB':TT}{rest:List Expr}(ha:PT X a tA) (hb:PW X (.BoolOp .And (b::rest) pos) tB'):PW X (.BoolOp .And (a::b::rest) pos) (Wm tA tB'):=by
 intro wh ag s σ H Q I h;refine isTrue_and (nD (ha ag s σ H _ I h) λc s1 ⟨H1,I1,q1⟩=>?_);cases c with
 |true=>exact hb wh ag s1 σ H1 Q I1 q1
 |false=>exact⟨H1,I1,q1⟩
def Yf{X:Cx}{a b:Expr}{pos:bw}{tA tB':TT}{rest:List Expr}(ha:PT X a tA) (hb:PW X (.BoolOp .Or (b::rest) pos) tB'):PW X (.BoolOp .Or (a::b::rest) pos) (TB tA tB'):=by
 intro wh ag s σ H Q I h;refine isTrue_or (nD (ha ag s σ H _ I h) λc s1 ⟨H1,I1,q1⟩=>?_);cases c with
 |true=>exact⟨H1,I1,q1⟩
 |false=>exact hb wh ag s1 σ H1 Q I1 q1
def Sw (ha:PT X a tA):PT X (.UnaryOp .Not a pos) (QV tA):=by
 intro ag s σ H Q I h;exact isTrue_not (ha ag s σ H (λc H1=>Q (!c) H1) I h)
def SI (ta tb:TE):TE:=λσ H Q=>ta σ H λx H1=>∃c,x= .bl c∧if c=true then tb σ H1 Q else Q (.bl false) H1
def Yj (ta tb:TE):TE:=λσ H Q=>ta σ H λx H1=>∃c,x= .bl c∧if c=true then Q (.bl true) H1 else tb σ H1 Q
def Ud (ta:TE):TE:=λσ H Q=>ta σ H λx H1=>∃c,x= .bl c∧Q (.bl (!c)) H1
def Td{op}(h:PE X a t):PE X (.BoolOp op [a] pos) t:=λag s σ H Q I hw=>BoolOp_one (h ag s σ H Q I hw)
def YF{X:Cx}{a b:Expr}{ta tb:TE}{pos:bw}{rest:List Expr}(ha:PE X a ta) (hb:PE X (.BoolOp .And (b::rest) pos) tb):PE X (.BoolOp .And (a::b::rest) pos) (SI ta tb):=by
 intro ag s σ H Q I h;refine BoolOp_and (nD (ha ag s σ H _ I h) λv s1 ⟨x,H1,I1,r1,q1⟩=>?_);obtain⟨c,rfl,q1⟩:=q1;cases r1;refine eH ?_;cases c with
 |true=>exact hb ag s1 σ H1 Q I1 q1
 |false=>exact⟨.bl false,H1,I1,rfl,q1⟩
def SR{X:Cx}{a b:Expr}{ta tb:TE}{pos:bw}{rest:List Expr}(ha:PE X a ta) (hb:PE X (.BoolOp .Or (b::rest) pos) tb):PE X (.BoolOp .Or (a::b::rest) pos) (Yj ta tb):=by
 intro ag s σ H Q I h;refine BoolOp_or (nD (ha ag s σ H _ I h) λv s1 ⟨x,H1,I1,r1,q1⟩=>?_);obtain⟨c,rfl,q1⟩:=q1;cases r1;refine eH ?_;cases c with
 |false=>exact hb ag s1 σ H1 Q I1 q1
 |true=>exact⟨.bl true,H1,I1,rfl,q1⟩
def Yz (ha:PE X a ta):PE X (.UnaryOp .Not a pos) (Ud ta):=by
 intro ag s σ H Q I h;refine ik (nD (ha ag s σ H _ I h) λv s1 ⟨x,H1,I1,r1,q1⟩=>?_);obtain⟨c,rfl,q1⟩:=q1;cases r1;exact not_of (eH ⟨.bl (!c),H1,I1,rfl,q1⟩)
def R5 (t:TT) (ta tb:TE):TE:=λσ H Q=>t σ H λc H1=>if c=true then ta σ H1 Q else tb σ H1 Q
def R_ (hc:PT X c tA) (ha:PE X a ta) (hb:PE X b tb):PE X (.IfExp c a b pos) (R5 tA ta tb):=by
 intro ag s σ H Q I h;refine wpAny_IfExp (nD (hc ag s σ H _ I h) λd s1 ⟨H1,I1,q1⟩=>?_);cases d with
 |true=>exact ha ag s1 σ H1 Q I1 q1
 |false=>exact hb ag s1 σ H1 Q I1 q1
def oE (K:ao) (H:Hp) (a:ai) (xs:List V):Prop:=
 Rd H a (.bO xs)∨
  ∃(o:aG) (eA:Array aj) (n:Nat),K.lookup a=aa o∧o.cls= .type "list" ∧o.dict=none∧o.data= .seq eA n∧eA.size≤sizeLine∧mM xs eA.toList
def oX (K:ao) (H:Hp) (a:ai) (xs:List V):Prop:=
 Rd H a (.bW xs)∨
  ∃(o:aG) (eA:Array aj) (n:Nat),K.lookup a=aa o∧o.cls= .type "tuple" ∧o.data= .seq eA n∧eA.size≤sizeLine∧mM xs eA.toList
def Xr:aj→Option V
 | .none=>aa .cc
 | .bool b=>aa (.bl b)
 | .int i _=>aa (.int i)
 | .str x _=>aa (.str x)
 | .bytes b _=>aa (.byt b)
 | .float b _=>aa (.flt b)
 | .ref a=>aa (.ref a)
 | .type n=>aa (.ty n)
 |_=>none
def mV.abs (r:mV x u):Xr u=aa x:=by
 cases x with
 |cc=>cases r;rfl
 |bl _=>cases r;rfl
 |int _=>obtain⟨t,rfl⟩:=r;rfl
 |str _=>obtain⟨t,rfl⟩:=r;rfl
 |byt _=>obtain⟨t,rfl⟩:=r;rfl
 |flt _=>obtain⟨t,rfl⟩:=r;rfl
 |ref _=>cases r;rfl
 |ty _=>cases r;rfl
def mV.inj{x y:V}{u:aj}(r:mV x u) (q:mV y u):x=y:=aL (r.abs.symm.trans q.abs)
theorem mM.inj:∀{xs ys:List V}{us:List aj},mM xs us→mM ys us→xs=ys
 |_,_,_, .nil, .nil=>rfl
 |_,_,_, .cons r t, .cons r' t'=>by rw[r.inj r',mM.inj t t']
def oE.of{K:ao}(h:H a=aa (.bO xs)):oE K H a xs:= .inl (.inl h)
def oX.of{K:ao}(h:H a=aa (.bW xs)):oX K H a xs:= .inl (.inl h)
def my.list (I:my X ag σ H s) (h:oE X.K H a xs):∃eA:List aj,mM xs eA∧PlainL s.heap a eA.toArray∧xs.length≤sizeLine:=by
 obtain h |⟨o,eA,n,hk,hc,hd,hs,hz,r⟩:=h
 ·obtain⟨z,eA,n,r,e⟩:=h.ok I.cG;exact⟨eA,r,⟨_,n,e,rfl,rfl,rfl⟩,z⟩
 ·refine⟨eA.toList,r,⟨o,n,I.kIn a o hk,hc,hd,by simpa using hs⟩,?_⟩
  have e:=r.length;simp only[jr]at e;lia
def my.tuple (I:my X ag σ H s) (h:oX X.K H a xs):∃eA:List aj,mM xs eA∧eS s.heap a eA.toArray∧xs.length≤sizeLine:=by
 obtain h |⟨o,eA,n,hk,hc,hs,hz,r⟩:=h
 ·obtain⟨z,eA,r,p⟩:=h.ok I.cG;exact⟨eA,r,p,z⟩
 ·refine⟨eA.toList,r,⟨o,I.kIn a o hk,hc,n,by simpa using hs⟩,?_⟩
  have e:=r.length;simp only[jr]at e;lia
def my.list_inj (I:my X ag σ H s) (h:oE X.K H a xs) (h':oE X.K H a ys):xs=ys:=by
 obtain⟨eA,r,⟨o,n,e,_,_,d⟩,_⟩:=I.list h;obtain⟨its',r',⟨o',n',e',_,_,d'⟩,_⟩:=I.list h';rw[e]at e';cases e';rw[d]at d';injection d' with d1 _;have:eA=its':=by simpa using congrArg Array.toList d1
 subst this;exact r.inj r'
def my.tuple_inj (I:my X ag σ H s) (h:oX X.K H a xs) (h':oX X.K H a ys):xs=ys:=by
 obtain⟨eA,r,⟨o,e,_,n,d⟩,_⟩:=I.tuple h;obtain⟨its',r',⟨o',e',_,n',d'⟩,_⟩:=I.tuple h';rw[e]at e';cases e';rw[d]at d';injection d' with d1 _;have:eA=its':=by simpa using congrArg Array.toList d1
 subst this;exact r.inj r'
abbrev Cx.wish (X:Cx) (E:aj→am→Prop):Cx:={ X with xe:=E }
abbrev Cx.nox (X:Cx):Cx:=X.wish λ_ _=>False
def Cx.Ok.wish{X:Cx}(ok:X.Ok) (E:aj→am→Prop):(X.wish E).Ok:=
 ⟨ok.mod,ok.kind,ok.glob,ok.blt,ok.above,ok.inj,ok.has,ok.cab,ok.hd,ok.frames,ok.stk,ok.exf,ok.bs,ok.bsz,ok.noex,ok.exfs,ok.funs,ok.frf⟩
def Cx.Ok.unwish{X:Cx}{E:aj→am→Prop}(ok:(X.wish E).Ok):X.Ok:=
 ⟨ok.mod,ok.kind,ok.glob,ok.blt,ok.above,ok.inj,ok.has,ok.cab,ok.hd,ok.frames,ok.stk,ok.exf,ok.bs,ok.bsz,ok.noex,ok.exfs,ok.funs,ok.frf⟩
section
variable {X:Cx}{ag:List (ai×aG)}{σ:St}{H:Hp}{s:am}{E:aj→am→Prop}
def my.wish (I:my X ag σ H s) (E:aj→am→Prop):my (X.wish E) ag σ H s:=⟨I.ok.wish E,I.os,I.bare,I.base,I.loc,I.cell,I.free,I.freeC,I.pin,I.cG,I.len⟩
def my.unwish (I:my (X.wish E) ag σ H s):my X ag σ H s:=⟨I.ok.unwish,I.os,I.bare,I.base,I.loc,I.cell,I.free,I.freeC,I.pin,I.cG,I.len⟩
def SP.unwish (h:SP (X.wish E) ag D f s'):SP X ag D f s':=by
 cases f with
 |next=>obtain⟨σ',H',I,q⟩:=h;exact⟨σ',H',I.unwish,q⟩
 |brk=>obtain⟨σ',H',I,q⟩:=h;exact⟨σ',H',I.unwish,q⟩
 |cont=>obtain⟨σ',H',I,q⟩:=h;exact⟨σ',H',I.unwish,q⟩
 |ret u=>obtain⟨v,σ',H',I,r,q⟩:=h;exact⟨v,σ',H',I.unwish,r,q⟩
def PE.nox (h:PE X.nox e t):PE X e t:=λag s σ H Q I hw=>
 cf (h ag s σ H Q (I.wish _) hw) (λ_ _ ⟨v,H',I',r,q⟩=>⟨v,H',I'.unwish,r,q⟩) λ_ _ z=>cE z
def qH.nox{st:List aW}(h:qH X.nox st t):qH X st t:=λag s σ H D I hw=>
 cf (h ag s σ H D (I.wish _) hw) (λ_ _ q=>q.unwish) λ_ _ z=>cE z
end
def Lq:TS:=λD σ H=>D.nx σ H
def Vz (t u:TS):TS:=λD σ H=>t { D with nx:=u D } σ H
def ui:qH X [] Lq:=λ_ _ σ H _ I h=>fT ⟨σ,H,I,h⟩
def V4{X:Cx}{st:aW}{rest:List aW}{t u:TS}(h1:PS X st t) (h2:qH X rest u):qH X (st::rest) (Vz t u):=by
 intro ag s σ H D I h;refine lx (nD (h1 ag s σ H { D with nx:=u D } I h) λf s1 q=>?_);cases f with
 |next=>
  obtain⟨σ',H',I',q⟩:=q;exact h2 ag s1 σ' H' D I' q
 |ret v=>exact q
 |brk=>exact q
 |cont=>exact q
def Iy{X:Cx}{st:aW}{t:TS}(h1:PS X st t):qH X [st] t:=by
 intro ag s σ H D I h;refine lx (nD (h1 ag s σ H D I h) λf s1 q=>?_);cases f with
 |next=>exact fT q
 |ret v=>exact q
 |brk=>exact q
 |cont=>exact q
def uG:PS X (.Pass pos) Lq:=λ_ _ σ H _ I h=>wpAny_Pass ⟨σ,H,I,h⟩
def my.dQ (I:my X ag σ H s):interactive X.env=false:=by simp [interactive,I.ok.kind]
def WM (te:TE):TS:=λD σ H=>te σ H λ_ H1=>D.nx σ H1
def VW (he:PE X e te) (hs:d6 e none pos.line X.env=pure false:=by rfl):PS X (.Expr e pos) (WM te):=by
 intro ag s σ H D I h;exact wpAny_Expr_any (nD (he ag s σ H _ I h) λv s1 ⟨x,H1,I1,r1,q1⟩=>⟨σ,H1,I1,q1⟩) I.dQ hs
def Wr (te:TE):TS:=λD σ H=>te σ H D.rt
def Kp (he:PE X e te):PS X (.Return (aa e) pos) (Wr te):=by
 intro ag s σ H D I h;exact wpAny_Return_some (nD (he ag s σ H _ I h) λv s1 ⟨x,H1,I1,r1,q1⟩=>⟨x,σ,H1,I1,r1,q1⟩)
def Qu:TS:=λD _ H=>D.rt .cc H
def uH:PS X (.Return none pos) Qu:=λ_ _ σ H _ I h=>wpAny_Return_none ⟨.cc,σ,H,I,rfl,h⟩
def Xs (c:TT) (t u:TS):TS:=λD σ H=>c σ H λb H1=>if b=true then t D σ H1 else u D σ H1
def UM (hc:PT X c tc) (ha:qH X a t) (hb:qH X b u):PS X (.If c a b pos) (Xs tc t u):=by
 intro ag s σ H D I h;refine wpAny_If (nD (hc ag s σ H _ I h) λd s1 ⟨H1,I1,q1⟩=>?_);cases d with
 |true=>exact ha ag s1 σ H1 D I1 q1
 |false=>exact hb ag s1 σ H1 D I1 q1
def Vd:TS:=λ_ _ _=>False
def sQ{X:Cx}{st:aW}:PS X st Vd:=λ_ _ _ _ _ _ h=>h.elim
abbrev TG:=V→St→Hp→(St→Hp→Prop)→Prop
abbrev z9:=List V→St→Hp→(St→Hp→Prop)→Prop
def PG (X:Cx) (target:Expr) (t:TG):Prop:=
 ∀(ag:List (ai×aG)) (s:am) (σ:St) (H:Hp) (v:V) (u:aj) (Q:St→Hp→Prop),my X ag σ H s→mV v u→t v σ H Q→
  av (aB X.prog X.w) X.A (assign target X.env u) (λ_ s'=>∃σ' H',my X ag σ' H' s'∧Q σ' H') X.xe s
def yP (X:Cx) (ts:List Expr) (t:z9):Prop:=
 ∀(ag:List (ai×aG)) (s:am) (σ:St) (H:Hp) (vs:List V) (us:List aj) (Q:St→Hp→Prop),my X ag σ H s→mM vs us→t vs σ H Q→
  av (aB X.prog X.w) X.A (assignInOrder ((cb ts X.env).map (·.2)) us) (λ_ s'=>∃σ' H',my X ag σ' H' s'∧Q σ' H') X.xe s
abbrev Ec:=V→V→Hp→VK→Prop
def Ol (X:Cx) (op:Operator) (t:Ec):Prop:=
 ∀(ag:List (ai×aG)) (s:am) (σ:St) (H:Hp) (x y:V) (v u:aj) (Q:VK),my X ag σ H s→mV x v→mV y u→t x y H Q→
  av (aB X.prog X.w) X.A (inplaceOp op v u) (EP X ag σ Q) X.xe s
def C1 (i:Nat):TG:=λv σ H Q=>Q (σ.set i (aa v)) H
def Te (hN:X.N.Nodup) (hi:X.N[i]? =aa x) (hx:tp X.env.scope x) (hf:X.fn x=true∨X.env.scope.names.lookup x=aa .local:=by first |exact .inl rfl |exact .inr rfl |assumption):PG X (.Name x pos) (C1 i):=by
 intro ag s σ H v u Q I r h;exact lC (Dw I hN hi hx r (λs' I'=>⟨_,H,I',h⟩) hf)
def S8:z9:=λvs σ H Q=>vs=[]∧Q σ H
def RM (t:TG) (u:z9):z9:=λvs σ H Q=>∃v r,vs=v::r∧t v σ H λσ' H'=>u r σ' H' Q
def QJ:yP X [] S8:=by
 intro ag s σ H vs us Q I r h;obtain⟨e,h⟩:=h;subst e;cases r;exact assignInOrder_nil ⟨σ,H,I,h⟩
def Zg (h1:PG X e t) (h2:yP X es u)
  (hs:(cb (e::es) X.env).map (·.2)=assign e X.env::(cb es X.env).map (·.2):=by rfl):yP X (e::es) (RM t u):=by
 intro ag s σ H vs us Q I r h;obtain⟨v,vr,e1,h⟩:=h;subst e1;cases r with
 |cons r rr=>
  rw[hs];refine assignInOrder_cons (nD (h1 ag s σ H _ _ _ I r h) λ_ s1 ⟨σ1,H1,I1,q1⟩=>?_);exact h2 ag s1 σ1 H1 _ _ Q I1 rr q1
def YW (K:ao) (n:Nat) (t:z9):TG:=λv σ H Q=>∃a xs,v= .ref a∧oX K H a xs∧xs.length=n∧t xs σ H Q
def SN (hc:X.calm=true) (h:yP X es t)
  (hn:(cb es X.env).length=n:=by rfl) (hst:(cb es X.env).findIdx? (·.1)=none:=by rfl):PG X (.Tuple es k pos) (YW X.K n t):=by
 intro ag s σ H v u Q I r hw;obtain⟨a,xs,e1,hq,hl,hw⟩:=hw;subst e1;cases r;obtain⟨eA,rv,ht,hz⟩:=I.tuple hq;refine assign_Tuple_tuple (I.ok.hd hc) ht (by simp [hn,←hl,rv.length]) hst λh' hx=>?_;have I1:my X ag σ H { s with heap:=h' }:=I.kept (t':=s.toks) λb o e=>hx b o (bQ (aP e)) e;exact h ag _ σ H xs _ Q I1 (by simpa using rv) hw
def Fv (te:TE) (g:TG):TS:=λD σ H=>te σ H λx H1=>g x σ H1 D.nx
def QD (he:PE X e te) (hg:PG X tg g) (hs:jR [tg] e pos.line X.env=pure false:=by rfl) (hw:iQ [tg] e X.env=pure none:=by rfl)
  (h1:(cb [tg] X.env).map (·.2)=[assign tg X.env]:=by rfl):PS X (.Assign [tg] e pos) (Fv te g):=by
 intro ag s σ H D I h;refine wpAny_Assign_stores (nD (he ag s σ H _ I h) λv s1 ⟨x,H1,I1,r1,q1⟩=>?_) hs hw;rw[h1];exact nD (hg ag s1 σ H1 x v _ I1 r1 q1) λ_ s2 q=>q
def Zs (hN:X.N.Nodup) (hi:X.N[i]? =aa x) (hx:tp X.env.scope x) (he:PE X e te) (hs:d6 e (aa (.Name x pos')) pos.line X.env=pure false:=by rfl) (hf:X.fn x=true∨X.env.scope.names.lookup x=aa .local:=by first |exact .inl rfl |exact .inr rfl |assumption) :
  PS X (.Assign [.Name x pos'] e pos) (Fv te (C1 i)):=by
 intro ag s σ H D I h;refine wpAny_Assign_Name (nD (he ag s σ H _ I h) λv s1 ⟨y,H1,I1,r1,q1⟩=>?_) hs;exact Dw I1 hN hi hx r1 (λs2 I2=>⟨_,H1,I2,q1⟩) hf
def WH (i:Nat) (te:TE) (ti:Ec):TS:=λD σ H=>∃x,σ[i]? =aa (aa x)∧te σ H λy H1=>ti x y H1 λz H2=>D.nx (σ.set i (aa z)) H2
def TC (hN:X.N.Nodup) (hi:X.N[i]? =aa x) (hx:tp X.env.scope x) (he:PE X e te) (ho:Ol X op ti) (hf:X.fn x=true∨X.env.scope.names.lookup x=aa .local:=by first |exact .inl rfl |exact .inr rfl |assumption) :
  PS X (.AugAssign (.Name x pos') op e pos) (WH i te ti):=by
 intro ag s σ H D I h;obtain⟨v,e1,h⟩:=h;obtain⟨m,hn,hl⟩:=I.loc;have vis:wo X.env.scope x:=by obtain k |k:=hx;exact .inl k;exact .inr (.inl k)
 obtain⟨u,r,l⟩:=hl i x v hi e1 vis;refine wpAny_AugAssign_Name ?_;have go:av (aB X.prog X.w) X.A (aH e X.env) (λw s₂=>av (aB X.prog X.w) X.A (inplaceOp op u w) (λr s₃=>av (aB X.prog X.w) X.A (jE X.env x r) (λ_=>SP X ag D .next) X.xe s₃) X.xe s₂) X.xe s:=by
  refine nD (he ag s σ H _ I h) λw s1 ⟨y,H1,I1,r1,q1⟩=>?_;refine nD (ho ag s1 σ H1 v y u w _ I1 r r1 q1) λz s2 ⟨zv,H2,I2,r2,q2⟩=>?_;exact Dw I2 hN hi hx r2 (λs3 I3=>⟨_,H2,I3,q2⟩) hf
 obtain ⟨hk,hm⟩ |⟨hk,c,hc,hcell⟩:=l
 ·exact kf I.ok.kind hk hn hm go
 ·obtain hk |hk:=hk
  ·exact lF I.ok.kind hk hc hcell go
  ·obtain k |k:=hx
   ·have:X.env.scope.names.lookup x=aa .free:=hk;rw[k]at this;cases this
   ·have:X.env.scope.names.lookup x=aa .free:=hk;rw[k]at this;cases this
def T_ (f:Int→Int→Int):Ec:=λx y H Q=>∃i j,x= .int i∧y= .int j∧Q (.int (f i j)) H
def Sa:Ol X .Add (T_ λi j=>i+j):=by
 intro ag s σ H x y v u Q I r1 r2 h;obtain⟨i,j,e1,e2,q⟩:=h;subst e1;subst e2;obtain⟨t,rfl⟩:=r1;obtain⟨t',rfl⟩:=r2;exact iadd_int ⟨.int _,H,I.tok _,⟨_,rfl⟩,q⟩
def UW (c:TT) (tb:TS):TS:=λD σ H=>∃W:Nat→St→Hp→Prop,(∃m,W m σ H)∧ ∀m σ H,W m σ H→
 c σ H λb H1=>if b=true then ∃N:St→Hp→Prop,(∀σ' H',N σ' H'→ ∃m',m'<m∧W m' σ' H')∧tb { D with nx:=N,ct:=N,bk:=D.nx } σ H1 else D.nx σ H1
def ZA (hp:db (aB X.prog X.w) X.A X.env X.xe) (hc:PT X c tc) (hb:qH X body tb):PS X (.While c body [] pos) (UW tc tb):=by
 intro ag s σ H D I h;obtain⟨W,⟨m0,w0⟩,turn⟩:=h;refine wpAny_While (codeAny_whileLoop (λn s'=>∃σ' H',my X ag σ' H' s'∧W n σ' H') ?_ m0 ⟨σ,H,I,w0⟩);rintro n s1 ⟨σ1,H1,I1,w1⟩;refine d8 hp (nD (hc ag s1 σ1 H1 _ I1 (turn n σ1 H1 w1)) λb s2 ⟨H2,I2,q2⟩=>?_);cases b with
 |true=>
  obtain⟨N,hN,q2⟩:=q2;rw[if_pos rfl];refine d8 hp (nD (hb ag s2 σ1 H2 _ I2 q2) λf s3 q3=>?_);cases f with
  |next=>
   obtain⟨σ3,H3,I3,n3⟩:=q3;obtain⟨m',hm,w3⟩:=hN σ3 H3 n3;exact⟨m',hm,σ3,H3,I3,w3⟩
  |cont=>
   obtain⟨σ3,H3,I3,n3⟩:=q3;obtain⟨m',hm,w3⟩:=hN σ3 H3 n3;exact⟨m',hm,σ3,H3,I3,w3⟩
  |brk=>exact q3
  |ret v=>exact q3
 |false=>
  rw[if_neg cV];exact fT ⟨σ1,H2,I2,q2⟩
structure It where
  go:Nat→Hp→Prop
  yld:Nat→Hp→V→Hp→Prop
  stop:Nat→Hp→Prop
def qI (X:Cx) (ag:List (ai×aG)) (H:Hp) (b:ai):Prop:=
 H b=none∧b≠X.env.locals∧b∉X.fs∧(b∈X.ex∨X.s₀.heap.objs.size≤b)∧(∀x c,X.env.cells.lookup x=aa c→c≠b)∧ ∀p∈X.pn++ag,p.1≠b
def my.fpOk (I:my X ag σ H s) (hb:s.heap.objs.size≤b) (hn:H' b=none):qI X ag H' b:=by
 refine⟨hn,c5 (bY I.lt hb),I.nofs hb, .inr (aY I.sz hb),λx c e z=>?_,λp hp z=>?_⟩
 ·obtain⟨v,q⟩:=I.cell x c e;exact absurd (bY q.lt (by rw[z];exact hb)) (cJ _)
 ·exact absurd (bY (aP (I.pin p hp).1) (by rw[z];exact hb)) (cJ _)
structure rC (P:bh) (w:aS) (K:ao) (tg:Expr) (J:It) (fp:List ai) (it:ai) (tn:Nat→aE→Prop):Prop where
  mem:it∈fp
  obj:∀i h,tn i h→ ∀b∈fp,∃o,h.get? b=aa o∧ ∀v,o.data≠ .cell v
  keep:∀i h h',tn i h→(∀b∈fp,∀o,h.get? b=aa o→h'.get? b=aa o)→tn i h'
  item:∀(X:Cx),X.prog=P→X.w=w→X.K=K→X.calm=true→ ∀(i:Nat) (ag:List (ai×aG)) (s:am) (σ:St) (H:Hp) (E:aj→am→Prop),my X ag σ H s→(∀b∈fp,qI X ag H b)→tn i s.heap→J.go i H→
    av (aB P w) X.A (cB (.ref it)) (λr s1=>∃u,r=aa u∧
      av (aB P w) X.A (gA tg (.ref it) u) (λ_ s2=>∃x H',my X ag σ H' s2∧mV x u∧J.yld i H x H'∧tn (i+1) s2.heap∧ ∀b∈fp,H' b=none) E s1) E s
  done:∀(X:Cx),X.prog=P→X.w=w→X.K=K→X.calm=true→ ∀(i:Nat) (ag:List (ai×aG)) (s:am) (σ:St) (H:Hp) (E:aj→am→Prop),my X ag σ H s→(∀b∈fp,qI X ag H b)→tn i s.heap→J.stop i H→
    av (aB P w) X.A (cB (.ref it)) (λr s1=>r=none∧my X ag σ H s1) E s
  self:∀(A:br) (i:Nat) (s:am) (Q:aj→am→Prop) (E:aj→am→Prop),tn i s.heap→Q (.ref it) s→av (aB P w) A (dR (.ref it)) Q E s
abbrev TI:=St→Hp→(It→Hp→Prop)→Prop
def JK (X:Cx) (ag:List (ai×aG)) (σ:St) (tg:Expr) (R:It→Hp→Prop) (itv:aj) (s2:am):Prop:=
 ∃(it:ai) (fp:List ai) (tn:Nat→aE→Prop) (J:It) (H':Hp),itv= .ref it∧my X ag σ H' s2∧rC X.prog X.w X.K tg J fp it tn∧tn 0 s2.heap∧(∀b∈fp,qI X ag H' b)∧R J H'
def PI (X:Cx) (tg iter:Expr) (wi:TI):Prop:=
 ∀(ag:List (ai×aG)) (s:am) (σ:St) (H:Hp) (R:It→Hp→Prop),my X ag σ H s→wi σ H R→
  av (aB X.prog X.w) X.A (aH iter X.env) (λv s1=>av (aB X.prog X.w) X.A (dR v) (JK X ag σ tg R) X.xe s1) X.xe s
def Bv{E:aj→am→Prop}{Q:Unit→am→Prop}(ho:s.heap.get? it=aa o) (hc:o.cls= .type n) (hd:o.data= .fields vs)
    (hn: ["enumerate", "zip", "dict_itemiterator", "dict_reverseitemiterator", "odict_iterator", "itertools.zip_longest", "itertools.pairwise"].contains n=false) (hQ:Q () s):av M A (gA tg (.ref it) u) Q E s:=by
  unfold gA;cases tg<;>first
    |exact aM hQ
    | (cases u<;>first
        |exact aM hQ
        | (refine au (wpAny_load ho ?_)
           rw[hc,hd];show av M A (if(["enumerate", "zip", "dict_itemiterator", "dict_reverseitemiterator", "odict_iterator", "itertools.zip_longest", "itertools.pairwise"].contains n&&vs[0]? == aa (cM _))=true then _ else _) Q E s;rw[if_neg (by intro h;rw[hn,Bool.false_and]at h;cases h)];exact aM hQ))
def Ap (K:ao) (a:ai):It:=
 ⟨λi H=>∃xs x,oE K H a xs∧xs[i]? =aa x,λi H x H'=>H'=H∧ ∀xs,oE K H a xs→xs[i]? =aa x,λi H=>∃xs,oE K H a xs∧xs.length≤i⟩
def EJ (K:ao) (a:ai):It:=
 ⟨λi H=>∃xs x,oX K H a xs∧xs[i]? =aa x,λi H x H'=>H'=H∧ ∀xs,oX K H a xs→xs[i]? =aa x,λi H=>∃xs,oX K H a xs∧xs.length≤i⟩
def Bl (lo:Int) (n:Nat):It:=⟨λi _=>i<n,λi H x H'=>H'=H∧x= .int (lo+i),λi _=>n≤i⟩
def MU{K:ao}(a it:ai):rC P w K tg (Ap K a) [it] it (λi h=>h.IsListIter it a i) where
  mem:=by simp
  obj:=λi h st b hb=>by
    have e:b=it:=by simpa using hb
    subst e;obtain⟨o,e,c,d⟩:=st;exact⟨o,e,λv z=>by rw[d]at z;cases z⟩
  keep:=λi h h' st k=>st.at λo e=>k it (by simp) o e
  item:=by
    intro X hP hw hK hc i ag s σ H E I hf st hg;subst hP hw hK;obtain⟨xs,x,hq,hx⟩:=hg;obtain⟨eA,rv,p,hz⟩:=I.list hq;obtain⟨u,hu,ru⟩:=rv.get hx;obtain⟨f0,f1,f2,f3,f4,f5⟩:=hf it (by simp);refine wpAny_pyNext_list_item st p.isList (x:=u) (by simpa using hu) λh' st' sb=>?_;have I1:my X ag σ H { s with heap:=h' }:=I.turned (t':=s.toks) (λb o hb e=>(sb.2 b hb).trans e) f0 f1 f3 f4 f5;obtain⟨o,e,c,d⟩:=id st';exact⟨u,rfl,Bv (s:={ s with heap:=h' }) e c d (by decide) ⟨x,H,I1,ru,⟨rfl,λys hy=>by rw[I.list_inj hy hq];exact hx⟩,st',λb hb=>(hf b hb).1⟩⟩
  done:=by
    intro X hP hw hK hc i ag s σ H E I hf st hg;subst hP hw hK;obtain⟨xs,hq,hx⟩:=hg;obtain⟨eA,rv,p,hz⟩:=I.list hq;obtain⟨f0,f1,f2,f3,f4,f5⟩:=hf it (by simp);have hl:=rv.length;exact wpAny_pyNext_list_end (I.ok.hd hc) st p.isList (by simp;lia) λh' eb=>⟨rfl,I.turned (t':=s.toks) (λb o hb e=>eb b o hb e) f0 f1 f3 f4 f5⟩
  self:=λ_ _ _ _ _ st h=>wpAny_pyIter_listiter st h
def Rc{K:ao}(a it:ai):rC P w K tg (EJ K a) [it] it (λi h=>h.IsTupleIter it a i) where
  mem:=by simp
  obj:=λi h st b hb=>by
    have e:b=it:=by simpa using hb
    subst e;obtain⟨o,e,c,d⟩:=st;exact⟨o,e,λv z=>by rw[d]at z;cases z⟩
  keep:=λi h h' st k=>st.at λo e=>k it (by simp) o e
  item:=by
    intro X hP hw hK hc i ag s σ H E I hf st hg;subst hP hw hK;obtain⟨xs,x,hq,hx⟩:=hg;obtain⟨eA,rv,p,hz⟩:=I.tuple hq;obtain⟨u,hu,ru⟩:=rv.get hx;obtain⟨f0,f1,f2,f3,f4,f5⟩:=hf it (by simp);refine wpAny_pyNext_tuple_item st (show s.heap.IsTuple a eA.toArray from p) (x:=u) (by simpa using hu) λh' st' sb=>?_;have I1:my X ag σ H { s with heap:=h' }:=I.turned (t':=s.toks) (λb o hb e=>(sb.2 b hb).trans e) f0 f1 f3 f4 f5;obtain⟨o,e,c,d⟩:=id st';exact⟨u,rfl,Bv (s:={ s with heap:=h' }) e c d (by decide) ⟨x,H,I1,ru,⟨rfl,λys hy=>by rw[I.tuple_inj hy hq];exact hx⟩,st',λb hb=>(hf b hb).1⟩⟩
  done:=by
    intro X hP hw hK hc i ag s σ H E I hf st hg;subst hP hw hK;obtain⟨xs,hq,hx⟩:=hg;obtain⟨eA,rv,p,hz⟩:=I.tuple hq;obtain⟨f0,f1,f2,f3,f4,f5⟩:=hf it (by simp);have hl:=rv.length;exact wpAny_pyNext_tuple_end (I.ok.hd hc) st (show s.heap.IsTuple a eA.toArray from p) (by simp;lia) λh' eb=>⟨rfl,I.turned (t':=s.toks) (λb o hb e=>eb b o hb e) f0 f1 f3 f4 f5⟩
  self:=λ_ _ _ _ _ st h=>wpAny_pyIter_tupleiter st h
def Yp{K:ao}(it:ai) (lo:Int) (n:Nat):rC P w K tg (Bl lo n) [it] it (λi h=>IsRangeIter h it (lo+(i:Nat)*1) ((n:Int) - (i:Nat)) 1) where
  mem:=by simp
  obj:=λi h st b hb=>by
    have e:b=it:=by simpa using hb
    subst e;exact⟨_,st,λv z=>by
      have z':Data.fields _=Data.cell v:=z;cases z'⟩
  keep:=λi h h' st k=>k it (by simp) _ st
  item:=by
    intro X hP hw hK hc i ag s σ H E I hf st hg;subst hP hw hK;obtain⟨f0,f1,f2,f3,f4,f5⟩:=hf it (by simp);have W:=Walks.range (prog:=X.prog) (w:=X.w) (I.ok.hd hc) it lo 1 n;refine W.item i s _ _ hg st λv h' tk hv st' kk=>?_;obtain⟨t,rfl⟩:=hv;have I1:my X ag σ H { s with heap:=h',toks:=tk }:=I.turned (λb o hb e=>kk b o (by simpa using hb) e) f0 f1 f3 f4 f5;refine⟨_,rfl,Bv (s:={ s with heap:=h',toks:=tk }) (n:= "range_iterator") st' rfl rfl (by decide) ⟨.int (lo+i),H,I1,⟨t,?_⟩,⟨rfl,rfl⟩,st',λb hb=>(hf b hb).1⟩⟩;rw[Int.mul_one]
  done:=by
    intro X hP hw hK hc i ag s σ H E I hf st hg;subst hP hw hK;obtain⟨f0,f1,f2,f3,f4,f5⟩:=hf it (by simp);exact wpAny_pyNext_range_end (I.ok.hd hc) st (by have:n≤i:=hg;lia) λh' eb=>⟨rfl,I.turned (t':=s.toks) (λb o hb e=>eb b o hb e) f0 f1 f3 f4 f5⟩
  self:=λ_ _ _ _ _ st h=>wpAny_pyIter_rangeiter st h
def Q7 (K:ao) (tl:TE):TI:=λσ H R=>tl σ H λx H1=>∃a,x= .ref a∧(∃xs,oE K H1 a xs)∧R (Ap K a) H1
def RC (hl:PE X l tl):PI X tg l (Q7 X.K tl):=by
 intro ag s σ H R I h;refine nD (hl ag s σ H _ I h) λv s1 ⟨x,H1,I1,r1,q1⟩=>?_;obtain⟨a,e,⟨xs,hq⟩,q⟩:=q1;subst e;cases r1;obtain⟨eA,rv,p,hz⟩:=I1.list hq;refine fi p.isList ?_;refine⟨s1.heap.objs.size,[s1.heap.objs.size],_,_,H1,rfl,I1.kept (t':=s1.toks) λb o e=>aQ _ e,MU a _,⟨_,bI _ rfl,rfl,rfl⟩,λb hb=>?_,q⟩;have e:b=s1.heap.objs.size:=by simpa using hb
 subst e;exact I1.fpOk (aA _) (I1.cG.fresh (aA _))
def Um{R:It→Hp→Prop}{E:aj→am→Prop}{lo hi:Int}{t u v:Tok}{tk:Nat}(I:my X ag σ H s) (h1: -(2 ^ 62)≤lo) (h2:lo<2 ^ 62) (h3: -(2 ^ 62)≤hi) (h4:hi<2 ^ 62)
  (q:R (Bl lo (hi - lo).toNat) H):av (aB X.prog X.w) X.A (dR (.ref s.heap.objs.size)) (JK X ag σ tg R) E { s with heap:=s.heap.push { cls:= .type "range",data:= .fields #[.int lo t, .int hi u, .int 1 v] },toks:=tk }:=by
 refine wpAny_pyIter_range (IsRange.new ..) (small_one h1 h2 h3 h4) ?_;have I1:my X ag σ H { s with heap:=s.heap.push { cls:= .type "range",data:= .fields #[.int lo t, .int hi u, .int 1 v] },toks:=tk }:=I.kept λb o e=>aQ _ e;refine⟨(s.heap.push { cls:= .type "range",data:= .fields #[.int lo t, .int hi u, .int 1 v] }).objs.size,[(s.heap.push { cls:= .type "range",data:= .fields #[.int lo t, .int hi u, .int 1 v] }).objs.size],_,_,H,rfl,
  I1.kept (t':=tk) λb o e=>aQ _ e,Yp _ lo (hi - lo).toNat,?_,λb hb=>?_,q⟩
 ·have e1:lo+((0:Nat):Int)*1=lo:=by simp
  have e2:(((hi - lo).toNat:Nat):Int) - ((0:Nat):Int)=cC.Range.rangeSize lo hi 1:=by rw[rangeSize_one];split<;>lia
  show IsRangeIter _ _ (lo+((0:Nat):Int)*1) ((((hi - lo).toNat:Nat):Int) - ((0:Nat):Int)) 1;rw[e1,e2];exact bI _ rfl
 ·have e:b=(s.heap.push { cls:= .type "range",data:= .fields #[.int lo t, .int hi u, .int 1 v] }).objs.size:=by simpa using hb
  subst e;exact I1.fpOk (aA _) (I1.cG.fresh (aA _))
def So (ta:TA):TI:=λσ H R=>ta σ H λvs H1=>∃j:Int,vs=[.int j]∧ -(2 ^ 62)≤j∧j<2 ^ 62∧R (Bl 0 j.toNat) H1
def RJ (hg:Gl X "range") (hm:X.mg "range" =none) (ha:PA X [a] ta) (hs:ax [a] X.env=[(false,aH a X.env)]:=by rfl):PI X tg (.Call (.Name "range" p) [a] [] pos) (So ta):=by
 intro ag s σ H R I h;refine Call_ (xu I hg hm boot_range (g_ (nD (ha pos ag s σ H _ I h) λus s1 ⟨vs,H1,I1,r1,q1⟩=>?_) hs rfl));obtain⟨j,e,q1,q2,q⟩:=q1;subst e;cases r1 with
 |cons r rr=>
  cases rr;obtain⟨t,rfl⟩:=r;exact call_range_1 (Um I1 (by lia) (by lia) q1 q2 (by simpa using q))
def Uv (wi:TI) (g:TG) (tb:TS):TS:=λD σ H=>wi σ H λJ H1=>∃W:Nat→Nat→St→Hp→Prop,(∃m,W 0 m σ H1)∧ ∀i m σ H,W i m σ H→
 (J.stop i H∧D.nx σ H)∨(J.go i H∧ ∃N:St→Hp→Prop,(∀σ' H',N σ' H'→ ∃m',m'<m∧W (i+1) m' σ' H')∧ ∀x H',J.yld i H x H'→g x σ H' λσ2 H2=>tb { D with nx:=N,ct:=N,bk:=D.nx } σ2 H2)
def yM (fp:List ai) (h:aE):List (ai×aG):=fp.filterMap λb=>(h.get? b).map λo=>(b,o)
def CK (hb:b∈fp) (e:h.get? b=aa o):(b,o)∈yM fp h:=i7.mpr ⟨b,hb,by rw[e];rfl⟩
def VC (hp:p∈yM fp h):p.1∈fp∧h.get? p.1=aa p.2:=by
 obtain⟨b,hb,e⟩:=i7.mp hp;cases q:h.get? b with
 |none=>rw[q]at e;cases e
 |some o=>
  rw[q]at e;have e':(b,o)=p:=aL e;subst e';exact⟨hb,q⟩
def my.pinned (I:my X ag σ H s) (hf:∀b∈fp,qI X ag H b) (ho:∀b∈fp,∃o,s.heap.get? b=aa o∧ ∀v,o.data≠ .cell v):my X (ag++yM fp s.heap) σ H s:=
 I.pins_of λp hp=>(bp.mp hp).elim (λz=>I.pin p (cp _ z)) λz=>by
  obtain⟨hb,e⟩:=VC z;obtain⟨f0,f1,f2,_⟩:=hf p.1 hb;obtain⟨o,e',d⟩:=ho p.1 hb;rw[e]at e';cases e';exact⟨e,f0,f1,f2,d⟩
def my.unpinned (I:my X (ag++pl) σ H s):my X ag σ H s:=I.pins_of λp hp=>I.pin p (cp _ (d9 _ hp))
def W9 (hp:db (aB X.prog X.w) X.A X.env X.xe) (hc:X.calm=true) (hi:PI X tg iter wi) (hg:PG X tg g) (hb:qH X body tb)
  (hs:∀x,dA iter X.env x=pure x:=by intro _;rfl):PS X (.For tg iter body [] pos) (Uv wi g tb):=by
 intro ag s σ H D I h;refine wpAny_For (nD (hi ag s σ H _ I h) λv s1 h1=>nD h1 λitv s2 h2=>?_) hs;obtain⟨it,fp,tn,J,H2,e,I2,T,st2,f2,W,⟨m0,w0⟩,turn⟩:=h2;subst e;have stat:∀{H':Hp},(∀b∈fp,H' b=none)→ ∀b∈fp,qI X ag H' b:=λhn b hb=>⟨hn b hb,(f2 b hb).2⟩;refine codeAny_forLoop_any (λn s'=>∃i σ' H',my X ag σ' H' s'∧tn i s'.heap∧(∀b∈fp,H' b=none)∧W i n σ' H') ?_ m0 ⟨0,σ,H2,I2,st2,λb hb=>(f2 b hb).1,w0⟩;rintro n s3 ⟨i,σ3,H3,I3,st3,fr3,w3⟩;obtain ⟨stop,qn⟩ |⟨go,N,hN,step⟩:=turn i n σ3 H3 w3
 ·refine d8 hp (nD (T.done X rfl rfl rfl hc i ag s3 σ3 H3 X.xe I3 (stat fr3) st3 stop) λr s4 ⟨hr,I4⟩=>?_);subst hr;exact fT ⟨σ3,H3,I4,qn⟩
 ·refine d8 hp (nD (T.item X rfl rfl rfl hc i ag s3 σ3 H3 X.xe I3 (stat fr3) st3 go) λr s4 ⟨u,hr,h4⟩=>?_);subst hr;refine d8 hp (nD h4 λ_ s5 ⟨x,H5,I5,r5,y5,st5,fr5⟩=>?_);have I5':=I5.pinned (stat fr5) (T.obj _ _ st5);refine d8 hp (nD (hg _ s5 σ3 H5 x u _ I5' r5 (step x H5 y5)) λ_ s6 ⟨σ6,H6,I6,q6⟩=>?_);refine d8 hp (nD (hb _ s6 σ6 H6 _ I6 q6) λf s7 q7=>?_);have again:∀{σ7:St}{H7:Hp},my X (ag++yM fp s5.heap) σ7 H7 s7→N σ7 H7→ ∃m,m<n∧ ∃i σ' H',my X ag σ' H' s7∧tn i s7.heap∧(∀b∈fp,H' b=none)∧W i m σ' H':=λ{σ7 H7} I7 n7=>by
   obtain⟨m',hm,w7⟩:=hN σ7 H7 n7;refine⟨m',hm,i+1,σ7,H7,I7.unpinned,T.keep _ _ _ st5 λb hb o e=>(I7.pin (b,o) (cp _ (cp _ (CK hb e)))).1,λb hb=>?_,w7⟩;obtain⟨o,e,d⟩:=T.obj _ _ st5 b hb;exact(I7.pin (b,o) (cp _ (cp _ (CK hb e)))).2.1
  cases f with
  |next=>obtain⟨σ7,H7,I7,n7⟩:=q7;exact again I7 n7
  |cont=>obtain⟨σ7,H7,I7,n7⟩:=q7;exact again I7 n7
  |brk=>obtain⟨σ7,H7,I7,q7⟩:=q7;exact⟨σ7,H7,I7.unpinned,q7⟩
  |ret v=>obtain⟨x7,σ7,H7,I7,r7,q7⟩:=q7;exact⟨x7,σ7,H7,I7.unpinned,r7,q7⟩
abbrev R2:=V→V→Hp→VK→Prop
def n_ (X:Cx) (f:aj→aj→cg aj) (r:R2):Prop:=
 ∀(ag:List (ai×aG)) (s:am) (σ:St) (H:Hp) (x y:V) (v u:aj) (Q:VK),my X ag σ H s→mV x v→mV y u→r x y H Q→
  av (aB X.prog X.w) X.A (f v u) (EP X ag σ Q) X.xe s
def E9 (X:Cx) (f:aj→cg aj) (r:V→Hp→VK→Prop):Prop:=
 ∀(ag:List (ai×aG)) (s:am) (σ:St) (H:Hp) (x:V) (v:aj) (Q:VK),my X ag σ H s→mV x v→r x H Q→
  av (aB X.prog X.w) X.A (f v) (EP X ag σ Q) X.xe s
def nL (X:Cx) (f:aj) (r:List V→Hp→VK→Prop):Prop:=
 ∀(ag:List (ai×aG)) (s:am) (σ:St) (H:Hp) (xs:List V) (us:List aj) (Q:VK),my X ag σ H s→mM xs us→r xs H Q→
  av (aB X.prog X.w) X.A (call f us) (EP X ag σ Q) X.xe s
def Vn (X:Cx) (r:V→Hp→(Bool→Hp→Prop)→Prop):Prop:=
 ∀(ag:List (ai×aG)) (s:am) (σ:St) (H:Hp) (x:V) (v:aj) (Q:Bool→Hp→Prop),my X ag σ H s→mV x v→r x H Q→
  av (aB X.prog X.w) X.A (truthy v) (TP X ag σ Q) X.xe s
def AJ (r:R2) (ta tb:TE):TE:=λσ H Q=>ta σ H λx H1=>tb σ H1 λy H2=>r x y H2 Q
def PP (r:V→Hp→VK→Prop) (ta:TE):TE:=λσ H Q=>ta σ H λx H1=>r x H1 Q
def rI (C:Int→Int→Prop) (g:Int→Int→V):R2:=λx y H Q=>∃i j,x= .int i∧y= .int j∧C i j∧Q (g i j) H
def se (g:Int→Int→V):R2:=λx y H Q=>∃i j,x= .int i∧y= .int j∧Q (g i j) H
def rU (g:Int→V):V→Hp→VK→Prop:=λx H Q=>∃i,x= .int i∧Q (g i) H
def EY (ha:PE X a ta) (hb:PE X b tb) {R:V→V→Hp→Prop}(I:my X ag σ H s)
  (h:ta σ H λx H1=>tb σ H1 λy H2=>R x y H2) {Q:aj→am→Prop}{f:aj→aj→cg aj}
  (hf:∀v u s2 x y H2,my X ag σ H2 s2→mV x v→mV y u→R x y H2→av (aB X.prog X.w) X.A (f v u) Q X.xe s2) :
  av (aB X.prog X.w) X.A (aH a X.env) (λv s₁=>av (aB X.prog X.w) X.A (aH b X.env) (λu s₂=>av (aB X.prog X.w) X.A (f v u) Q X.xe s₂) X.xe s₁) X.xe s:=by
 refine nD (ha ag s σ H _ I h) λv s1 ⟨x,H1,I1,r1,q1⟩=>?_;refine nD (hb ag s1 σ H1 _ I1 q1) λu s2 ⟨y,H2,I2,r2,q2⟩=>?_;exact hf v u s2 x y H2 I2 r1 r2 q2
def zE (ho:n_ X (ca op) r) (ha:PE X a ta) (hb:PE X b tb):PE X (.BinOp a op b pos) (AJ r ta tb):=by
 intro ag s σ H Q I h;exact wpAny_BinOp (EY ha hb I h λv u s2 x y H2 I2 rx ry q=>ho ag s2 σ H2 x y v u Q I2 rx ry q)
def QU{r:V→Hp→VK→Prop}(ho:E9 X (unaryOp op) r) (ha:PE X a ta):PE X (.UnaryOp op a pos) (PP r ta):=by
 intro ag s σ H Q I h;exact ik (nD (ha ag s σ H _ I h) λv s1 ⟨x,H1,I1,r1,q1⟩=>ho ag s1 σ H1 x v Q I1 r1 q1)
def Cd{f:aj→aj→cg aj}{C:Int→Int→Prop}{g:Int→Int→Int}
  (rule:∀(i j:Int) (t u:Tok) (s:am) (Q:aj→am→Prop) (E:aj→am→Prop),C i j→Q (.int (g i j) s.toks) { s with toks:=s.toks+1 }→av (aB X.prog X.w) X.A (f (.int i t) (.int j u)) Q E s) :
  n_ X f (rI C λi j=> .int (g i j)):=by
 intro ag s σ H x y v u Q I rx ry h;obtain⟨i,j,rfl,rfl,hc,q⟩:=h;obtain⟨t,rfl⟩:=rx;obtain⟨t',rfl⟩:=ry;exact rule i j t t' s _ _ hc ⟨.int (g i j),H,I.tok _,⟨_,rfl⟩,q⟩
def JP{f:aj→aj→cg aj}{g:Int→Int→Int}
  (rule:∀(i j:Int) (t u:Tok) (s:am) (Q:aj→am→Prop) (E:aj→am→Prop),Q (.int (g i j) s.toks) { s with toks:=s.toks+1 }→av (aB X.prog X.w) X.A (f (.int i t) (.int j u)) Q E s) :
  n_ X f (se λi j=> .int (g i j)):=by
 intro ag s σ H x y v u Q I rx ry h;obtain⟨i,j,rfl,rfl,q⟩:=h;obtain⟨t,rfl⟩:=rx;obtain⟨t',rfl⟩:=ry;exact rule i j t t' s _ _ ⟨.int (g i j),H,I.tok _,⟨_,rfl⟩,q⟩
def B'{f:aj→aj→cg aj}{g:Int→Int→Bool}
  (rule:∀(i j:Int) (t u:Tok) (s:am) (Q:aj→am→Prop) (E:aj→am→Prop),Q (.bool (g i j)) s→av (aB X.prog X.w) X.A (f (.int i t) (.int j u)) Q E s) :
  n_ X f (se λi j=> .bl (g i j)):=by
 intro ag s σ H x y v u Q I rx ry h;obtain⟨i,j,rfl,rfl,q⟩:=h;obtain⟨t,rfl⟩:=rx;obtain⟨t',rfl⟩:=ry;exact rule i j t t' s _ _ ⟨.bl (g i j),H,I,rfl,q⟩
def su (i j:Int):Prop:=0<j∧j<1073741824
def Ba (i j:Int):Prop:=0≤j∧j≤1000000∧i.natAbs<2 ^ 64
def rD (i j:Int):Prop:=(-(2 ^ 64)<i∧i<2 ^ 64)∨(-(2 ^ 64)<j∧j<2 ^ 64)
def rD.ok (h:rD i j):IntMulOk i j:=by
 obtain ⟨h1,h2⟩ |⟨h1,h2⟩:=h
 ·exact .of_left (intBits_le_64 h1 h2)
 ·exact .of_right (intBits_le_64 h1 h2)
def vw:n_ X (ca .Add) (se λi j=> .int (i+j)):=JP λ_ _ _ _ _ _ _ q=>add_int q
def T3:n_ X (ca .Sub) (se λi j=> .int (i - j)):=JP λ_ _ _ _ _ _ _ q=>sub_int q
def ZV:n_ X (ca .Mult) (rI rD λi j=> .int (i*j)):=Cd λ_ _ _ _ _ _ _ hc q=>mul_int q hc.ok
def Pt:n_ X (ca .FloorDiv) (rI su λi j=> .int (i / j)):=Cd λi j _ _ _ _ _ hc q=>by
 have h1:(0:Int)<j:=hc.1;have h2:j<1073741824:=hc.2;exact floordiv_int (by lia) (by rw[Int.fdiv_eq_ediv_of_nonneg i (by lia)];exact q) (.inl (PyProof.noPylong_small (by lia)))
def YC:n_ X (ca .Mod) (rI (λ_ j=>0<j) λi j=> .int (i % j)):=Cd λi j _ _ _ _ _ hc q=>by
 have h1:(0:Int)<j:=hc;exact mod_int' (by lia) (by rw[Int.fmod_eq_emod_of_nonneg i (by lia)];exact q)
def TJ:n_ X (ca .Pow) (rI Ba λi j=> .int (i ^ j.toNat)):=Cd λ_ _ _ _ _ _ _ hc q=>pow_int_small hc.1 hc.2.1 hc.2.2 q
def QY{f:aj→cg aj}{g:Int→Int}
  (rule:∀(i:Int) (t:Tok) (s:am) (Q:aj→am→Prop) (E:aj→am→Prop),Q (.int (g i) s.toks) { s with toks:=s.toks+1 }→av (aB X.prog X.w) X.A (f (.int i t)) Q E s) :
  E9 X f (rU λi=> .int (g i)):=by
 intro ag s σ H x v Q I rx h;obtain⟨i,rfl,q⟩:=h;obtain⟨t,rfl⟩:=rx;exact rule i t s _ _ ⟨.int (g i),H,I.tok _,⟨_,rfl⟩,q⟩
def YD:E9 X (unaryOp .USub) (rU λi=> .int (-i)):=QY λ_ _ _ _ _ q=>neg_int q
def xX (I:my X ag σ H s) (q:Q (.bl k) H) (e:k=k'):EP X ag σ Q (.bool k') s:=by
 subst e;exact⟨.bl k,H,I,rfl,q⟩
def Px:n_ X (bB .Lt) (se λi j=> .bl (decide (i<j))):=B' λ_ _ _ _ _ _ _ q=>lt_int q
def tf:n_ X (bB .LtE) (se λi j=> .bl (decide (i≤j))):=B' λ_ _ _ _ _ _ _ q=>le_int q
def QR:n_ X (bB .Gt) (se λi j=> .bl (decide (j<i))):=B' λ_ _ _ _ _ _ _ q=>gt_int q
def Qw:n_ X (bB .GtE) (se λi j=> .bl (decide (j≤i))):=B' λ_ _ _ _ _ _ _ q=>ge_int q
def sf:n_ X (bB .In) (λx y H Q=>∃i j,x= .str i∧y= .str j∧Q (.bl (!(cU j i 0 j.length 1).isEmpty)) H):=by
 intro ag s σ H x y v u Q I rx ry h;obtain⟨i,j,rfl,rfl,q⟩:=h;obtain⟨t,rfl⟩:=rx;obtain⟨t',rfl⟩:=ry;exact in_str (xX I q rfl)
def vx:n_ X (bB .Is) (λx y H Q=>y= .cc∧Q (.bl (decide (x= .cc))) H):=by
 intro ag s σ H x y v u Q I rx ry h;obtain⟨rfl,q⟩:=h;cases ry;refine is_none_gen (xX I q ?_);cases x<;>first
  | (cases rx;rfl)
  | (obtain⟨t,rfl⟩:=rx;rfl)
def t6:n_ X (bB .IsNot) (λx y H Q=>y= .cc∧Q (.bl (!decide (x= .cc))) H):=by
 intro ag s σ H x y v u Q I rx ry h;obtain⟨rfl,q⟩:=h;cases ry;refine isnot_none_gen (xX I q ?_);cases x<;>first
  | (cases rx;rfl)
  | (obtain⟨t,rfl⟩:=rx;rfl)
def qx:n_ X (bB .NotIn) (λx y H Q=>∃i j,x= .str i∧y= .str j∧Q (.bl (!(!(cU j i 0 j.length 1).isEmpty))) H):=by
 intro ag s σ H x y v u Q I rx ry h;obtain⟨i,j,rfl,rfl,q⟩:=h;obtain⟨t,rfl⟩:=rx;obtain⟨t',rfl⟩:=ry;exact notIn_str (xX I q rfl)
def n_.or{f:aj→aj→cg aj}{r r':R2}(h:n_ X f r) (h':n_ X f r'):n_ X f (λx y H Q=>r x y H Q∨r' x y H Q):=by
 intro ag s σ H x y v u Q I rx ry q;obtain q |q:=q
 ·exact h ag s σ H x y v u Q I rx ry q
 ·exact h' ag s σ H x y v u Q I rx ry q
def Wc (ho:n_ X (bB op) r) (ha:PE X a ta) (hb:PE X b tb) (hm:fK op b=false):PE X (.Compare a [op] [b] pos) (AJ r ta tb):=by
 intro ag s σ H Q I h;exact wpAny_Compare1 (EY ha hb I h λv u s2 x y H2 I2 rx ry q=>ho ag s2 σ H2 x y v u Q I2 rx ry q) hm
def Zi (t:TE):TT:=λσ H Q=>t σ H λx H'=>∃k,x= .bl k∧Q k H'
def Ww (ho:n_ X (bB op) r) (ha:PE X a ta) (hb:PE X b tb) (hm:fK op b=false):PT X (.Compare a [op] [b] pos) (Zi (AJ r ta tb)):=by
 intro ag s σ H Q I h;refine wpAny_isTrue_Compare1 (nD (ha ag s σ H _ I h) λv s1 ⟨x,H1,I1,r1,q1⟩=>nD (hb ag s1 σ H1 _ I1 q1) λu s2 ⟨y,H2,I2,r2,q2⟩=>
  nD (ho ag s2 σ H2 x y v u _ I2 r1 r2 q2) λc s3 ⟨z,H3,I3,r3,k,e,q3⟩=>?_) hm
 subst e;cases r3;exact eH ⟨H3,I3,q3⟩
def U_ (r r':R2) (ta tb tc:TE):TE:=λσ H Q=>ta σ H λx H1=>tb σ H1 λy H2=>r x y H2 λz H3=>∃k,z= .bl k∧
 (if k=true then tc σ H3 λw' H4=>r' y w' H4 Q else Q (.bl false) H3)
def PD (ho:n_ X (bB op) r) (ho':n_ X (bB op') r') (ha:PE X a ta) (hb:PE X b tb) (hc:PE X c tc)
  (hm:gY [op,op'] [b,c]=false:=by with_unfolding_all rfl):PE X (.Compare a [op,op'] [b,c] pos) (U_ r r' ta tb tc):=by
 intro ag s σ H Q I h;refine Compare_chain (nD (ha ag s σ H _ I h) λv s1 ⟨x,H1,I1,r1,q1⟩=>chain_link (nD (hb ag s1 σ H1 _ I1 q1) λu s2 ⟨y,H2,I2,r2,q2⟩=>
  nD (ho ag s2 σ H2 x y v u _ I2 r1 r2 q2) λd s3 ⟨z,H3,I3,r3,k,e,q3⟩=>?_)) hm
 subst e;cases r3;refine eH ?_;cases k with
 |false=>exact ite_ff ⟨.bl false,H3,I3,rfl,q3⟩
 |true=>exact ite_tt (chain_last (nD (hc ag s3 σ H3 _ I3 q3) λw' s4 ⟨z',H4,I4,r4,q4⟩=>ho' ag s4 σ H4 y z' u w' Q I4 r2 r4 q4))
def AE (K:ao) (x:V) (H:Hp) (k:Bool):Prop:=
 match x with
 | .cc=>k=false
 | .bl b=>k=b
 | .int i=>k=(i != 0)
 | .str y=>y.length≤sizeLine∧k=((y.length:Int) != 0)
 | .byt y=>y.size≤sizeLine∧k=((y.size:Int) != 0)
 | .ref p=>(∃xs,oE K H p xs∧k= !xs.isEmpty)∨(∃xs,oX K H p xs∧k= !xs.isEmpty)∨ ∃hV,H p=aa (.dK hV)∧k= !hV.isEmpty
 |_=>False
def X7{κ:Type}{hV:List (κ×V)}{vs:List (κ×aj)}(r:KV hV vs):(!vs.isEmpty)= !hV.isEmpty:=by
 cases r<;>rfl
def Ha{xs:List V}{eA:List aj}(r:mM xs eA):(!eA.toArray.isEmpty)= !xs.isEmpty:=by
 cases r<;>simp
def xG:(sizeLine:Nat)<2 ^ 63:=by rw[d_];decide
def Nr:Vn X (λx H Q=>∃k,AE X.K x H k∧Q k H):=by
 intro ag s σ H x v Q I rx h;obtain⟨k,e,q⟩:=h;have hl:=xG;have hs:sizeLine=16777216:=d_;cases x with
 |cc=>
  cases rx;have e':k=false:=e;subst e';exact truthy_none ⟨H,I,q⟩
 |bl b=>
  cases rx;have e':k=b:=e;subst e';exact eH ⟨H,I,q⟩
 |int i=>
  obtain⟨t,rfl⟩:=rx;have e':k=(i != 0):=e;subst e';exact PySem.P.truthy_int ⟨H,I,q⟩
 |str y=>
  obtain⟨t,rfl⟩:=rx;obtain⟨hy,e'⟩:y.length≤sizeLine∧k=((y.length:Int) != 0):=e;subst e';exact PySem.P.truthy_str (by lia) ⟨H,I.tok _,q⟩
 |byt y=>
  obtain⟨t,rfl⟩:=rx;obtain⟨hy,e'⟩:y.size≤sizeLine∧k=((y.size:Int) != 0):=e;subst e';exact PySem.W.truthy_bytes (by lia) ⟨H,I.tok _,q⟩
 |ref p=>
  cases rx;have e':(∃xs,oE X.K H p xs∧k= !xs.isEmpty)∨(∃xs,oX X.K H p xs∧k= !xs.isEmpty)∨ ∃hV,H p=aa (.dK hV)∧k= !hV.isEmpty:=e;obtain ⟨xs,hx,e'⟩ |⟨xs,hx,e'⟩ |⟨hV,hx,e'⟩:=e'
  ·subst e';obtain⟨eA,r,pl,hz⟩:=I.list hx;have hlen:=r.length;exact wpAny_truthy_list pl.isList (by simp only[bf];lia) ⟨H,I.tok _,by rw[Ha r];exact q⟩
  ·subst e';obtain⟨eA,r,pl,hz⟩:=I.tuple hx;have hlen:=r.length;exact truthy_tuple pl (by simp only[bf];lia) ⟨H,I.tok _,by rw[Ha r];exact q⟩
  ·subst e';obtain⟨hz,hS,vs,r,m⟩:hV.length≤sizeLine∧(p == fB)=false∧ ∃vs,KV hV vs∧s.heap.DictOf (qE X.prog X.w) p vs:=I.cG p _ hx;have hlen:hV.length=vs.length:=gc r;exact wpAny_truthy_dict hS m (by lia) ⟨H,I.tok _,by rw[X7 r];exact q⟩
 |_=>exact(show False from e).elim
def Yh (ha:PE X a ta) (he:∀whole,isTrue a X.env whole=(do let v ←whole;standAt a.pos;holding [v] (truthy v))) :
  PT X a (λσ H Q=>ta σ H λx H'=>∃k,AE X.K x H' k∧Q k H'):=by
 intro ag s σ H Q I h;exact isTrue_plain (nD (ha ag s σ H _ I h) λv s1 ⟨x,H1,I1,r1,q1⟩=>Nr ag s1 σ H1 x v Q I1 r1 q1) (he _)
def rk:n_ X (ca .Add) (λx y H Q=>∃i j,x= .str i∧y= .str j∧i.length+j.length≤sizeLine∧Q (.str (i++j)) H):=by
 intro ag s σ H x y v u Q I rx ry h;obtain⟨i,j,rfl,rfl,hz,q⟩:=h;obtain⟨t,rfl⟩:=rx;obtain⟨t',rfl⟩:=ry;exact add_str (λt' tk=>⟨.str (i++j),H,I.tok _,⟨_,rfl⟩,q⟩) hz
def ub (r:mM [x] us):∃u,us=[u]∧mV x u:=by
 cases r with
 |cons r1 r2=>cases r2;exact⟨_,rfl,r1⟩
def MI (r:mM [x,y] us):∃u w',us=[u,w']∧mV x u∧mV y w':=by
 cases r with
 |cons r1 r2=>
  cases r2 with
  |cons r3 r4=>cases r4;exact⟨_,_,rfl,r1,r3⟩
def X5 (hc:X.calm=true):nL X (.builtin "min") (λxs H Q=>∃i j,xs=[.int i, .int j]∧Q (.int (if j<i then j else i)) H):=by
 intro ag s σ H xs us Q I r h;obtain⟨i,j,rfl,q⟩:=h;obtain⟨u,w',rfl,⟨t,rfl⟩,⟨t',rfl⟩⟩:=MI r;refine min_two_ints (I.ok.hd hc) λh' tk k=>⟨_,H,I.kept k,?_,q⟩;by_cases hj:j<i
 ·rw[if_pos hj,if_pos hj];exact⟨_,rfl⟩
 ·rw[if_neg hj,if_neg hj];exact⟨_,rfl⟩
def OG:nL X (.type "int") (λxs H Q=>(∃i,xs=[.int i]∧Q (.int i) H)∨ ∃k,xs=[.bl k]∧Q (.int (if k then 1 else 0)) H):=by
 intro ag s σ H xs us Q I r h;obtain ⟨i,rfl,q⟩ |⟨k,rfl,q⟩:=h
 ·obtain⟨u,rfl,t,rfl⟩:=ub r;exact call_int_int ⟨.int i,H,I,⟨_,rfl⟩,q⟩
 ·obtain⟨u,rfl,r1⟩:=ub r;cases r1;exact call_int_bool ⟨.int (if k then 1 else 0),H,I.tok _,⟨_,rfl⟩,q⟩
structure vJ (h:aE) (x dx C:ai) (mA:ah→Option aj):Prop where
  obj:h.get? x=aa (i_ C dx)
  ns:h.Ns1 dx mA
  ne:dx≠x
def SC{h:aE}{dx:ai}{mA:ah→Option aj}(n:h.Ns1 dx mA):∃od,h.get? dx=aa od∧ ∀name,i8 name od=aa (mA name):=by
 obtain⟨o,es,ep,ho,hd,hk,_,hm⟩:=n;refine⟨o,ho,λname=>?_⟩;have e:=hm name;unfold nsFind findBy at e;rw[←Array.find?_toList]at e;unfold i8;rw[hd];dsimp only;split
 ·rename_i y q;rw[q]at e;exact congrArg aa e
 ·rename_i q;rw[q]at e;have a:es.toList.any (·.refKey)=false:=by
   rw[List.any_eq_false];intro y hy;obtain⟨z,t,hkey⟩:=hk y (Array.mem_toList_iff.mp hy);simp [DictEntry.refKey,hkey]
  have a':¬es.toList.any (·.refKey)=true:=by rw[a];exact cV
  rw[if_neg a'];exact congrArg aa e
def vJ.look{mA:ah→Option aj}(I:vJ h x dx C mA):∃od,PySem.W.InstAt h x (i_ C dx) C (aa od)∧ ∀name,i8 name od=aa (mA name):=
 let ⟨od,ho,hl⟩:=SC I.ns
 ⟨od,⟨I.obj,rfl,rfl,ho⟩,hl⟩
def Sq (cG:nZ P w H h) (e:H a=aa (.ins C dx fs)):∃mA,vJ h a dx C mA∧(∀f,qr (fs.lookup f) (mA f))∧PySem.Within mA (fs.map (·.1))∧fs.length≤1000∧H dx=aa (.own a):=by
 obtain⟨d,z,ne,ob,mA,n,r,q⟩:=(show nc P w H h a (.ins C dx fs) from cG a _ e);exact⟨mA,⟨ob,n,ne⟩,r,q,z,d⟩
structure Ff (K:ao) (C:ai):Prop where
  pg:kr K C f_=true
  hd:PySem.W.hasDictIn K C=true
  po:PySem.W.plainOver K C=true
  sa:fF K (.ref C) "__setattr__" =aa (aa (.builtin "object.__setattr__"))
def Ff.get{K:ao}{C:ai}(c:Ff K C) (f:ah):kr K C f=true:=c.pg
section
variable {X:Cx}{ag:List (ai×aG)}{σ:St}{H:Hp}{s:am}{A:br}{E:aj→am→Prop}{Q:aj→am→Prop}{c:aj}{b:Bool}
inductive o7 (K:ao) (H:Hp):V→aj→Prop where
  |cc:o7 K H .cc (.type "NoneType")
  |bl (x:Bool):o7 K H (.bl x) (.type "bool")
  |int (i:Int):o7 K H (.int i) (.type "int")
  |str (x:ah):o7 K H (.str x) (.type "str")
  |flt (x:UInt64):o7 K H (.flt x) (.type "float")
  |bO {a:ai}{xs:List V}(e:H a=aa (.bO xs)):o7 K H (.ref a) (.type "list")
  |frz {a:ai}{o:aG}{xs:List V}(e:H a=aa (.frz o (.bO xs))):o7 K H (.ref a) (.type "list")
  |bW {a:ai}{xs:List V}(e:H a=aa (.bW xs)):o7 K H (.ref a) (.type "tuple")
  |dK {a:ai}{hV:List (Key×V)}(e:H a=aa (.dK hV)):o7 K H (.ref a) (.type "dict")
  |dT {a:ai}{hV:List (List Key×V)}(e:H a=aa (.dT hV)):o7 K H (.ref a) (.type "dict")
  |ins {a C dx:ai}{fs:List (ah×V)}(e:H a=aa (.ins C dx fs)) (cl:Ff K C) (ha:fF K (.ref C) "__class__" =aa (aa (.builtin "object.__class__")))
      (hn:PySem.W.specialIn K (.builtin "object.__class__") "__get__" =aa (aa (.builtin "getset_descriptor.__get__"))) (htk:PySem.W.takesIn K (.builtin "object.__class__")=aa true)
      (hm:iq K C (.type "object")=aa true):o7 K H (.ref a) (.ref C)
def VN (I:my X ag σ H s) (rx:mV x u) (ty:o7 X.K H x t) (e:fP X.K t c=aa b) (h:∀tk,Q (.bool b) { s with toks:=tk }) :
  av (aB X.prog X.w) A (call (.builtin "isinstance") [u,c]) Q E s:=by
 cases ty with
 |cc=>cases(show u=cP from rx);exact cN PySem.W.kitx_none I.kIn dv e (λz=>nomatch z) h
 |bl y=>cases(show u=eO y from rx);exact cN PySem.W.kitx_bool I.kIn dv e (λz=>nomatch z) h
 |int i=>obtain⟨t,q⟩:=(show ∃t,u=gF i t from rx);cases q;exact cN PySem.W.kitx_int I.kIn dv e (λz=>nomatch z) h
 |str y=>obtain⟨t,q⟩:=(show ∃t,u=fU y t from rx);cases q;exact cN PySem.W.kitx_str I.kIn dv e (λz=>nomatch z) h
 |flt y=>obtain⟨t,q⟩:=(show ∃t,u=aj.float y t from rx);cases q;exact cN PySem.W.kitx_float I.kIn dv e (λz=>nomatch z) h
 | @bO a xs ea=>
  cases(show u=bK a from rx);obtain⟨_,_,n,_,h1⟩:=(show nc X.prog X.w H s.heap a (.bO xs) from I.cG a _ ea);exact cN ko I.kIn ⟨_,h1,rfl⟩ e (λz=>nomatch z) h
 | @frz a ob xs ea=>
  cases(show u=bK a from rx);obtain⟨_,_,_,n,_,h1⟩:=(show nc X.prog X.w H s.heap a (.frz ob (.bO xs)) from I.cG a _ ea);exact cN ko I.kIn ⟨_,h1,rfl⟩ e (λz=>nomatch z) h
 | @bW a xs ea=>
  cases(show u=bK a from rx);obtain⟨_,_,_,p⟩:=(show nc X.prog X.w H s.heap a (.bW xs) from I.cG a _ ea);obtain⟨o,h1,h2,_⟩:=p;exact cN PySem.W.kitx_tuple I.kIn ⟨o,h1,h2⟩ e (λz=>nomatch z) h
 | @dK a hV ea=>
  cases(show u=bK a from rx);obtain⟨_,_,vs,_,p⟩:=(show nc X.prog X.w H s.heap a (.dK hV) from I.cG a _ ea);obtain⟨o,es,ep,h1,h2,_⟩:=p;exact cN lR I.kIn ⟨o,h1,h2.1⟩ e (λz=>nomatch z) h
 | @dT a hV ea=>
  cases(show u=bK a from rx);obtain⟨_,_,xs,_,o,es,ep,h1,h2,_⟩:=(show nc X.prog X.w H s.heap a (.dT hV) from I.cG a _ ea);exact cN lR I.kIn ⟨o,h1,h2.1⟩ e (λz=>nomatch z) h
 | @ins a C dx fs ea cl ha hn htk hm=>
  cases(show u=bK a from rx);obtain⟨mA,O,_⟩:=Sq I.cG ea;obtain⟨od,J,_⟩:=O.look;exact cN (PySem.W.kitx_own (cl.get _) cl.hd ha hn htk hm) I.kIn J e (λz=>nomatch z) h
end
structure oj (k:Nat) (A:br):Prop where
  hd:A.handled=none
  dp:A.depth+3*k+5<recursionLimit
  un:A.units+16*k+200<cLine
def oj.mono (r:oj k A) (h:j≤k):oj j A:=⟨r.hd,by have:=r.dp;lia,by have:=r.un;lia⟩
def oj.deeper (r:oj (k+1) A) (env:bP):oj k (A.deeper env):=
 ⟨r.hd,by have:=r.dp;show A.depth+1+3*k+5<_;lia,by have:=r.un;show A.units+3+16*k+200<_;lia⟩
def oj.depth (r:oj k A):A.depth<recursionLimit:=by have:=r.dp;lia
def oj.units (r:oj k A):A.units+64<cLine:=by have:=r.un;lia
def Wl:TA:=λ_ H Q=>Q [] H
def ZI (ta:TE) (tr:TA):TA:=λσ H Q=>ta σ H λx H1=>tr σ H1 λxs H2=>Q (x::xs) H2
def oR:PA X [] Wl:=λ_ _ _ _ H Q I h=>Calls.spliced_nil ⟨[],H,I, .nil,h⟩
def tL (ha:PE X e te) (hr:PA X es t) (hs:ax (e::es) X.env=(false,aH e X.env)::ax es X.env:=by rfl):PA X (e::es) (ZI te t):=by
 intro pos ag s σ H Q I h;rw[hs];show av _ _ (spliced ((false,aH e X.env)::aZ pos (ax es X.env))) _ _ s;refine Calls.spliced_cons (nD (ha ag s σ H _ I h) λu s1 ⟨x,H1,I1,r1,q1⟩=>?_);exact nD (hr pos ag s1 σ H1 _ I1 q1) λus s2 ⟨xs,H2,I2,r2,q2⟩=>⟨x::xs,H2,I2, .cons r1 r2,q2⟩
def Wu (t:TA):TE:=λσ H Q=>t σ H λxs H1=>xs.length≤sizeLine∧ ∀p,H1 p=none→Q (.ref p) (nH H1 p (.bW xs))
def PR (t:TA):TE:=λσ H Q=>t σ H λxs H1=>xs.length≤sizeLine∧ ∀p,H1 p=none→Q (.ref p) (nH H1 p (.bO xs))
def Zf{x1}(h:PA X es t):PE X (.Tuple es x1 pos) (Wu t):=by
 intro ag s σ H Q I hq;refine wpAny_Tuple_spliced (nD (h pos ag s σ H _ I hq) λus s1 ⟨xs,H1,I1,r,z,q⟩=>⟨by rw[←r.length];exact z,?_⟩);have hf:H1 s1.heap.objs.size=none:=I1.cG.fresh (aA _);refine⟨.ref s1.heap.objs.size,nH H1 s1.heap.objs.size (.bW xs),I1.laid (t':=s1.toks) (λb u e=>aQ _ e) (aA _) ?_,rfl,q _ hf⟩;exact⟨z,us,r,⟨_,bI _ rfl,rfl,_,rfl⟩⟩
def XS (h:PA X es t):PE X (.List es pos) (PR t):=by
 intro ag s σ H Q I hq;refine wpAny_List_spliced (nD (h pos ag s σ H _ I hq) λus s1 ⟨xs,H1,I1,r,z,q⟩=>⟨by rw[←r.length];exact z,?_⟩);have hf:H1 s1.heap.objs.size=none:=I1.cG.fresh (aA _);refine⟨.ref s1.heap.objs.size,nH H1 s1.heap.objs.size (.bO xs),I1.laid (t':=s1.toks) (λb u e=>aQ _ e) (aA _) ?_,rfl,q _ hf⟩;exact⟨z,us,0,r,bI _ rfl⟩
abbrev Sp:=List V→Hp→VK→XK→Prop
abbrev xP:=List bP→Hp→am→XK→aj→am→Prop
structure sS (P:bh) (w:aS) (K:ao) (mg:ah→Option aj) (base:aE) (A:br) (outer:List bP) (s:am) (H:Hp):Prop where
  frames:A.frames=aa outer
  mod:Mod K mg base
  bs:∀b o,base.get? b=aa o→s.heap.get? b=aa o∧H b=none
  bsz:base.objs.size≤s.heap.objs.size
  funs:s.heap.FunFrames base outer
  frf:∀b∈frs outer,H b=none
  cG:nZ P w H s.heap
  bare:ce s.gens
def CE (outer:List bP) (P:bh) (w:aS) (H:Hp) (s:am) (Q:VK) (u:aj) (s':am):Prop:=
 ∃v H',s'.os=s.os∧ce s'.gens∧Un (frs outer) [] H H' s.heap s'.heap∧nZ P w H' s'.heap∧mV v u∧Q v H'
def CR (CX:xP) (outer:List bP) (P:bh) (w:aS) (H:Hp) (s:am) (Q:VK) (E:XK) (r:Result) (s':am):Prop:=
 match r with
 | .ok (.ret u)=>CE outer P w H s Q u s'
 | .ok _=>False
 | .error e=>CX outer H s E e s'
structure oU (P:bh) (w:aS) (K:ao) (mg:ah→Option aj) (base:aE) (CX:xP) (k:Nat) (f:ai) (fd:dc) (ps:List ah) (sp:Sp):Prop where
  len:∀vs H Q E,sp vs H Q E→vs.length=ps.length
  run:∀(A:br) (outer:List bP) (s:am) (H:Hp) (args:Args) (us:List aj) (vs:List V) (Q:VK) (E:XK),oj k A→sS P w K mg base A outer s H→eR s fd args (ps.zip us)→mM vs us→sp vs H Q E→
    ef (aB P w) A (.call (.ref f) args) (CR CX outer P w H s Q E) s
def oU.mono{K:ao}{mg:ah→Option aj}(F:oU P w K mg base CX j f fd ps sp) (h:j≤k) :
  oU P w K mg base CX k f fd ps sp:=⟨F.len,λA outer s H args us vs Q E hr=>F.run A outer s H args us vs Q E (hr.mono h)⟩
def my.env0 (I:my X ag σ H s):sS X.prog X.w X.K X.mg X.base X.A X.stack s H:=
 ⟨I.ok.frames,I.ok.mod,I.bs,aY I.ok.bsz I.sz,I.stack,I.stkFree,I.cG,I.bare⟩
def pj (K:ao) (fd:dc) (ps:List ah) (ds:List aj):Prop:=
 ∀(s:am) (us:List aj),K.In s.heap→(us++ds).length=ps.length→eR s fd ⟨us,[]⟩ (ps.zip (us++ds))
def pj.all{K:ao}(h:∀us:List aj,us.length=ps.length→iV fd ⟨us,[]⟩=pure (ps.zip us)):pj K fd ps []:=λs us _ hl=>by
 rw[bg]at hl⊢;exact .of_eq (h us hl)
structure pi (N P:List ah) (sc:Scope):Prop where
  kind:sc.kind= .function
  co:sc.isCoroutine=false
  gen:sc.isGenerator=false
  nd:N.Nodup
  pre:N.take P.length=P
  par:∀x∈P,sc.names.lookup x=aa .local∨sc.names.lookup x=aa .cell
  nofree:∀y∈sc.names,y.2≠ .free
theorem Nb{kindOf:ah→Option bZ}:∀{binds:List (ah×aj)}{m:ah→Option aj},(∀v,(x,v)∉binds)→dF kindOf binds m x=m x
 | [],_,_=>rfl
 | (n,v)::r,m,h=>by
  unfold dF;rw[Nb λw hw=>h w (aI _ hw)];split
  ·have:x≠n:=by rintro rfl;exact h v aK
   simp [this]
  ·rfl
theorem KS{kindOf:ah→Option bZ}:∀{binds:List (ah×aj)}{m:ah→Option aj},(∀v,(x,v)∉binds)→dw kindOf binds m x=m x
 | [],_,_=>rfl
 | (n,v)::r,m,h=>by
  unfold dw;rw[KS λw hw=>h w (aI _ hw)];split
  ·rfl
  ·have:x≠n:=by rintro rfl;exact h v aK
   simp [this]
theorem JR{kindOf:ah→Option bZ}:∀{P:List ah}{vs:List aj}{i:Nat}{m:ah→Option aj},P.Nodup→P[i]? =aa x→vs[i]? =aa v→kindOf x=aa .local→
  dF kindOf (P.zip vs) m x=aa v
 | [],_,_,_,_,h,_,_=>by simp at h
 |_::_,[],_,_,_,_,h,_=>by simp at h
 |p::P,w::vs,0,m,nd,h1,h2,hk=>by
  simp at h1 h2;subst h1;subst h2;show dF kindOf ((p,w)::P.zip vs) m p=_;unfold dF;rw[Nb λv hv=>(d5.mp nd).1 (fS hv).1,if_pos hk];simp
 |p::P,w::vs,i+1,m,nd,h1,h2,hk=>by
  show dF kindOf ((p,w)::P.zip vs) m x=_;unfold dF;exact JR (i:=i) (d5.mp nd).2 (by simpa using h1) (by simpa using h2) hk
theorem Gb{kindOf:ah→Option bZ}:∀{P:List ah}{vs:List aj}{i:Nat}{m:ah→Option aj},P.Nodup→P[i]? =aa x→vs[i]? =aa v→kindOf x≠aa .local→
  dw kindOf (P.zip vs) m x=aa v
 | [],_,_,_,_,h,_,_=>by simp at h
 |_::_,[],_,_,_,_,h,_=>by simp at h
 |p::P,w::vs,0,m,nd,h1,h2,hk=>by
  simp at h1 h2;subst h1;subst h2;show dw kindOf ((p,w)::P.zip vs) m p=_;unfold dw;rw[KS λv hv=>(d5.mp nd).1 (fS hv).1,if_neg hk];simp
 |p::P,w::vs,i+1,m,nd,h1,h2,hk=>by
  show dw kindOf ((p,w)::P.zip vs) m x=_;unfold dw;exact Gb (i:=i) (d5.mp nd).2 (by simpa using h1) (by simpa using h2) hk
def start (N:List ah) (vs:List V):St:=vs.map aa++bn (N.length - vs.length) none
def vh (CX:xP) (P:bh) (w:aS) (K:ao) (mg:ah→Option aj) (base:aE) (N:List ah) (qual:ah) (scope:Scope) (f:ai) (cd:aj) (A:br) (outer:List bP) (s:am) (H:Hp) (E:XK):Cx where
  prog:=P
  w:=w
  K:=K
  mg:=mg
  base:=base
  A:=A.deeper (cD qual scope s.heap.objs.size f cd)
  N:=N
  s₀:=s
  H₀:=H
  env:=cD qual scope s.heap.objs.size f cd
  outer:=outer
  stack:=cD qual scope s.heap.objs.size f cd::outer
  ex:=[]
  calm:=true
  fn:=λ_=>true
  pn:=[]
  xe:=λe s'=>av (aB P w) (A.deeper (cD qual scope s.heap.objs.size f cd)) (leaving (cD qual scope s.heap.objs.size f cd) e) (λ_ s''=>CX outer H s E e s'') (λe' s''=>CX outer H s E e' s'') s'
def IU{sc:Scope}{n:Nat}{x:ah}(h:sc.names.lookup x=aa .cell):∃c,(jO n sc.names []).lookup x=aa c:=by
 have q:=lE sc.names n [] (.inl h);exact dy.mp q
def Y8{K:ao}{mg:ah→Option aj} 
  (S:pi N ps scope) (hd:A.handled=none) (e0:sS P w K mg base A outer s H) (hl:vs.length=ps.length) (r:mM vs us)
  (x:InCallC s s.heap.objs.size (dF (cD qual scope s.heap.objs.size f cd).kindOf (ps.zip us) λ_=>none) (jO (s.heap.objs.size+1) scope.names []) (dw (cD qual scope s.heap.objs.size f cd).kindOf (ps.zip us) λ_=>none) s1) :
  my (vh CX P w K mg base N qual scope f cd A outer s H E) [] (start N vs) H s1:=by
 have hpl:ps.length≤N.length:=by have:=congrArg dU S.pre;rw[cY]at this;lia
 obtain⟨h1,tk,rfl,hk⟩:=x.done;have noA:∀b:ai,b∉(vh CX P w K mg base N qual scope f cd A outer s H E).ex:=λb z=>absurd (show b∈([]:List ai) from z) (by simp);refine⟨⟨e0.mod,S.kind,rfl,rfl,aA _,λy z c h1 h2=>?_,λy hy=>?_,λy c _ h=>?_,λ_=>hd,br.frames_deeper e0.frames, .inr ⟨rfl,rfl⟩,λb z=>absurd z (noA b),e0.bs,e0.bsz,λb _ _=>noA b,λb z=>absurd z (noA b),e0.funs,e0.frf⟩,
  rfl,e0.bare,Un.kept hk,⟨_,x.toInCall.ns,λi y v h1 h2 h3=>?_⟩,λy c h=>⟨_,x.cell y c h⟩,e0.cG.fresh (aA _),λy c h=>?_,λp hp=>absurd (show p∈([]:List (ai×aG)) from hp) (by simp),e0.cG.kept hk,?_⟩
 ·exact name_of_addr x.apart (eW h1) (eW h2)
 ·have hy:scope.names.lookup y=aa .cell∨scope.names.lookup y=aa .free:=hy;obtain hy |hy:=hy
  ·exact IU hy
  ·exact absurd rfl (S.nofree _ (eW hy))
 ·exact iv (x.above y c (eW h))
 ·have hi:i<vs.length:=by
   unfold start at h2;by_cases hi:i<vs.length
   ·exact hi
   ·rw[jh (by simpa using hi)]at h2;rw[kD]at h2;split at h2<;>cases h2
  have ha:vs[i]? =aa v:=by
   unfold start at h2;rw[lJ (by simpa using hi),aU]at h2;cases e:vs[i]? with
   |none=>rw[e]at h2;cases h2
   |some a=>rw[e]at h2;cases h2;rfl
  obtain⟨u,hu,rv⟩:=r.get ha;have hp:ps[i]? =aa y:=by
   rw[←S.pre,List.getElem?_take_of_lt (by lia)];exact h1
  have ndP:ps.Nodup:=by rw[←S.pre];exact S.nd.sublist (kI _ _)
  refine⟨u,rv,?_⟩;obtain k |k:=S.par y (aJ hp)
  ·exact .inl ⟨k,JR ndP hp hu k⟩
  ·obtain⟨c,e⟩:=IU (n:=s.heap.objs.size+1) k;refine .inr ⟨.inl k,c,e,?_⟩;have q:=x.cell y c e;rw[Gb ndP hp hu (by show scope.names.lookup y≠_;rw[k];decide)]at q;exact q
 ·exact e0.cG.fresh (iv (x.above y c (eW h)))
 ·unfold start;show _=N.length;rw[a_,ay,jG];lia
def MF{K:ao}{mg:ah→Option aj}{dV kV doc pm cdv ct oc:aj} 
  (lk:K.lookup f=aa ⟨oc,od, .func (dH name qual params body scope dV kV doc pm an cdv ct),osl⟩) (hcd:gq K cdv qual=true) (S:pi N ps scope)
  (len:∀vs H Q E,sp vs H Q E→vs.length=ps.length)
  (hbody:∀(A:br) (outer:List bP) (s:am) (H:Hp) (vs:List V) (Q:VK) (E:XK),oj k (A.deeper (cD qual scope s.heap.objs.size f cdv))→sp vs H Q E→
   ∃t,qH (vh CX P w K mg base N qual scope f cdv A outer s H E) body t∧t { nx:=λ_ H'=>Q .cc H',rt:=Q } (start N vs) H) :
  oU P w K mg base CX (k+1) f (dH name qual params body scope dV kV doc pm an cdv ct) ps sp:=by
 refine⟨len,λA outer s H args us vs Q E hr e0 hb r hsp=>?_⟩;have hl:=len _ _ _ _ hsp;have KX:K.In s.heap:=e0.mod.kin.keeps λb o e=>(e0.bs b o e).1;have lim:s.heap.NoLimit:=e0.mod.nolimit.keeps λb o e=>(e0.bs b o e).1;have hkind:∀y∈ps.zip us,scope.names.lookup y.1=aa .local∨(scope.names.lookup y.1=aa .cell∧((jO (s.heap.objs.size+1) scope.names []).lookup y.1).isSome=true):=λ⟨n,v⟩ hy=>by
  obtain q |q:=S.par n (fS hy).1
  ·exact .inl q
  ·exact .inr ⟨q,lE _ _ _ (.inl q)⟩
 refine codeAny_call_function hr.depth (KX _ _ lk) rfl S.co S.gen rfl (PySem.W.codeRec_of KX hcd) (hb _ _ _ _ ?_);refine wpAny_newFunctionEnv_cells S.kind hkind λenv he s1 x=>?_;subst he;refine⟨lim.keeps x.toInCall.keep,codeAny_func ?_⟩;obtain⟨t,ht,hq⟩:=hbody A outer s H vs Q E (hr.deeper _) hsp;have I:my (vh CX P w K mg base N qual scope f cdv A outer s H E) [] (start N vs) H s1:=Y8 S hr.hd e0 hl r x;refine cf (ht [] s1 (start N vs) H _ I hq) (λfl s' hs=>?_) λe s' hs=>hs;have fin:∀{σ':St}{H':Hp}{v:V}{u:aj},my (vh CX P w K mg base N qual scope f cdv A outer s H E) [] σ' H' s'→mV v u→Q v H'→CE outer P w H s Q u s':=
  λ{σ' H' v u} J rv q=>⟨v,H',J.os,J.bare,J.base,J.cG,rv,q⟩
 cases fl with
 |ret u=>
  obtain⟨v,σ',H',J,rv,q⟩:=hs;exact fin J rv q
 |next=>
  obtain⟨σ',H',J,q⟩:=hs;exact fin (v:=V.cc) (u:=cP) J rfl q
 |brk=>
  obtain⟨_,_,_,q⟩:=hs;exact cE q
 |cont=>
  obtain⟨_,_,_,q⟩:=hs;exact cE q
section
variable {X:Cx}{x:ah}{p pos:bw}{e:Expr}{es:List Expr}{t:TA}{id T:String}{r:List V→Hp→VK→Prop}
def M6 (r:List V→Hp→VK→Prop) (t:TA):TE:=λσ H Q=>t σ H λvs H1=>r vs H1 Q
def DL (hc:nL X (.builtin id) r) (hg:Gl X x) (hm:X.mg x=none) (hv:cH x=aa (.builtin id)) (ha:PA X (e::es) t) (hn:x≠ "__name__" :=by decide) (hdb:(x == ("__debug__" :ah))=false:=by decide)
  (he:ax (e::es) X.env=(false,aH e X.env)::ax es X.env:=by rfl) (hpl:(aZ pos (ax es X.env)).any (·.1)=false:=by rfl):PE X (.Call (.Name x p) (e::es) [] pos) (M6 r t):=by
 intro ag s σ H Q I h;refine gp (xu I hg hm hv ?_ hn hdb);exact PyProof.Rows.callWith_builtin1 (nD (ha pos ag s σ H _ I h) λus s1 ⟨vs,H1,I1,r1,q1⟩=>hc ag s1 σ H1 vs us Q I1 r1 q1) he hpl
def FN (hc:nL X (.type T) r) (hg:Gl X x) (hm:X.mg x=none) (hv:cH x=aa (.type T)) (ha:PA X (e::es) t) (hn:x≠ "__name__" :=by decide) (hdb:(x == ("__debug__" :ah))=false:=by decide)
  (he:ax (e::es) X.env=(false,aH e X.env)::ax es X.env:=by rfl) (hpl:(aZ pos (ax es X.env)).any (·.1)=false:=by rfl):PE X (.Call (.Name x p) (e::es) [] pos) (M6 r t):=by
 intro ag s σ H Q I h;refine gp (xu I hg hm hv ?_ hn hdb);exact g_ (nD (ha pos ag s σ H _ I h) λus s1 ⟨vs,H1,I1,r1,q1⟩=>hc ag s1 σ H1 vs us Q I1 r1 q1) he hpl
end
end L2
namespace HT
open PySem PyProof.Rows
section
variable {prog:bh}{w:aS}{A:br}{E:aj→am→Prop}{s:am}
def cat_tup{Q:aj→am→Prop}(ht:eS s.heap t vs.toArray) (hb:eS s.heap b ws.toArray) (hv:vs≠ [])
  (h1:ws=[]→Q (.ref t) s) (h2:ws≠ []→Q (.ref s.heap.objs.size) { s with heap:=s.heap.push { cls:= .type "tuple",data:= .seq (vs++ws).toArray } })
  (hsz:vs.length+ws.length≤sizeLine):av (aB prog w) A (ca .Add (.ref t) (.ref b)) Q E s:=by
 obtain⟨⟨cls,dd,data,sl⟩,ho,hc,n,hd⟩:=id ht;obtain⟨⟨cls2,dd2,data2,sl2⟩,ho2,hc2,n2,hd2⟩:=id hb;simp only at hc hd hc2 hd2;subst hc hd hc2 hd2;have e:vs.toArray++ws.toArray=(vs++ws).toArray:=by simp
 by_cases hw:ws=[]
 ·exact jn ⟨_,ho,rfl⟩ ⟨_,ho2,rfl⟩ jo jm jT jf (ip _ _)
   (tuple_addW1 t b vs.toArray ws.toArray n n2 dd dd2 sl sl2 (by simpa using hv) (by simp [hw])) ⟨ho,ho2,h1 hw⟩
 ·refine jn ⟨_,ho,rfl⟩ ⟨_,ho2,rfl⟩ jo jm jT jf (ip _ _)
   (tuple_addW2 t b vs.toArray ws.toArray n n2 dd dd2 sl sl2 (by simpa using hv) (by simpa using hw) (by rw[bf,bf];exact hsz)) ⟨ho,ho2,?_⟩
  rw[e];exact h2 hw
def sIx (n d:Nat):Option Int→Nat
 |none=>d
 |some v=>if v<0 then(v+(n:Int)).toNat else min v.toNat n
theorem sIx_none (n d:Nat):sIx n d none=d:=rfl
def sIx_nat (n d k:Nat):sIx n d (aa (k:Int))=min k n:=by
 show(if(k:Int)<0 then((k:Int)+(n:Int)).toNat else min (k:Int).toNat n)=min k n;rw[if_neg (by lia),bb]
def sIx_le (n d:Nat) (hd:d≤n) (o:Option Int):sIx n d o≤n:=by
 cases o with
 |none=>exact hd
 |some v=>
  show(if v<0 then(v+(n:Int)).toNat else min v.toNat n)≤n;by_cases hv:v<0
  ·rw[if_pos hv];lia
  ·rw[if_neg hv];exact Nat.min_le_right _ _
def N_ (v:Int) (n d:Nat):(if v<0 then max (v+(n:Int)) 0 else min v (n:Int))=((sIx n d (aa v):Nat):Int):=by
 show(if v<0 then max (v+(n:Int)) 0 else min v (n:Int))=(((if v<0 then(v+(n:Int)).toNat else min v.toNat n):Nat):Int);by_cases hv:v<0
 ·simp only[if_pos hv];lia
 ·simp only[if_neg hv];lia
def QK (lo hi:Option Int) (n:Nat):jS lo hi 1 (n:Int)=(((sIx n 0 lo:Nat):Int),((sIx n n hi:Nat):Int)):=by
 have h1:¬((1:Int)<0):=by lia
 unfold jS;simp only[h1,if_false];refine Prod.ext ?_ ?_
 ·cases lo with
  |none=>rfl
  |some v=>exact N_ v n 0
 ·cases hi with
  |none=>rfl
  |some v=>exact N_ v n n
def Pg (i j:Nat):ig (i:Int) (j:Int) 1=j - i:=by
 unfold ig;have h1:(1:Int) > 0:=by lia
 simp only[h1,if_true,Int.ediv_one];split<;>lia
def Jp{Q:Option Int→am→Prop}(p:c8 v o) (h:Q o s):av (aB prog w) A (cC.Slice.slicePartIndex v) Q E s:=by
 cases p with
 |none=>exact kO h
 |int i t=>exact slicePart_int h
def sliceApplied_gen{lo hi:Option Int}{Q:Int×Int×Nat→am→Prop}(hs:s.heap.IsSliceOf sl vl vu .none) (pl:c8 vl lo) (pu:c8 vu hi)
  (h:Q (((sIx n 0 lo:Nat):Int),1,sIx n n hi - sIx n 0 lo) s):av (aB prog w) A (ly (.ref sl) (pure (n:Int))) Q E s:=by
 obtain⟨os,hos,hcs,hds⟩:=id hs;unfold ly cC.Slice.sliceFields;refine au (au (bT hos hds (x:=vl) rfl (au (bT hos hds (x:=vu) rfl (au (bT hos hds (x:= .none) rfl (aM ?_)))))));refine au (kO ?_);show av _ _ (if((1:Int) == 0)=true then _ else _) _ _ s;rw[if_neg (by decide)];refine au (Jp pl (au (Jp pu (au (aM ?_)))));show av _ _ (match jS lo hi 1 (n:Int) with | (lo,hi)=>pure (lo,(1:Int),ig lo hi 1)) _ _ s;rw[QK lo hi n];show av _ _ (pure (((sIx n 0 lo:Nat):Int),(1:Int),ig ((sIx n 0 lo:Nat):Int) ((sIx n n hi:Nat):Int) 1)) _ _ s;rw[Pg];exact aM h
def YL (xs:Array aj) (i k:Nat):((bx k).filterMap λ(m:Nat)=>xs[((i:Int)+(m:Int)*1).toNat]?).toArray=((xs.toList.drop i).take k).toArray:=by
 have e:(λ(m:Nat)=>xs[((i:Int)+(m:Int)*1).toNat]?)=λm=>xs[i+m]? :=by
  funext m;have:((i:Int)+(m:Int)*1).toNat=i+m:=by lia
  rw[this]
 rw[e];have:=jF xs i k;rw[List.filterMap_map]at this;have e2:((λx=>xs[x]?)∘λx=>i+x)=λm=>xs[i+m]? :=rfl;rw[e2]at this;rw[this]
def getItem_tuple_cut{lo hi:Option Int}{Q:aj→am→Prop}(ht:eS s.heap t items) (hs:s.heap.IsSliceOf sl vl vu .none) (pl:c8 vl lo) (pu:c8 vu hi)
  (hw:¬(sIx items.size 0 lo=0∧sIx items.size items.size hi=items.size))
  (h:Q (.ref s.heap.objs.size) { s with heap:=s.heap.push { cls:= .type "tuple",data:= .seq ((items.toList.drop (sIx items.size 0 lo)).take (sIx items.size items.size hi - sIx items.size 0 lo)).toArray } })
  (hsz:items.size≤sizeLine):av (aB prog w) A (dY (.ref t) (.ref sl)) Q E s:=by
 have htake:sizeOk (.seq ((items.toList.drop (sIx items.size 0 lo)).take (sIx items.size items.size hi - sIx items.size 0 lo)).toArray):=by
  show((items.toList.drop (sIx items.size 0 lo)).take (sIx items.size items.size hi - sIx items.size 0 lo)).toArray.size≤sizeLine;rw[bf,cY,cI,jr];lia
 have hj:sIx items.size items.size hi≤items.size:=sIx_le _ _ (aA _) hi;obtain⟨os,hos,hcs,hds⟩:=id hs;have hTs:s.TypeIs (.ref sl) "slice" :=⟨os,hos,hcs⟩;unfold dY
 try with_reducible refine gm ?_
 first |refine au (aM ?_) |skip
 refine au (lT ht.typeIs (by decide) ?_);refine au (dO (name:=bG "__getitem__") ht.typeIs fu
  (dJ fu ht.typeIs k_ ?_ (kG _ _)))
 show av _ _ (kT (.ref t) >>= _) _ _ s;refine au (tupleItemsOf_ ht ?_);refine au (ge hTs ?_);rw[if_pos (by decide)];refine au (sliceApplied_gen hs pl pu ?_);have hno:¬((((sIx items.size 0 lo:Nat):Int) == 0&&(1:Int) == 1&&(sIx items.size items.size hi - sIx items.size 0 lo) == items.size)=true):=by
  intro q;rw[bV,bV]at q;have q1:((sIx items.size 0 lo:Nat):Int)=0:=gG q.1.1;have q2:sIx items.size items.size hi - sIx items.size 0 lo=items.size:=gG q.2;exact hw ⟨by lia,by lia⟩
 show av _ _ (if(((sIx items.size 0 lo:Nat):Int) == 0&&(1:Int) == 1&&(sIx items.size items.size hi - sIx items.size 0 lo) == items.size)=true then _ else _) _ _ s;rw[if_neg hno,YL]
 first
  |exact au (m:=gr _) (eY (aM ⟨_,rfl,aM h⟩) htake)
  |exact au (m:=gr _) (eY (au (aM (aM ⟨_,rfl,aM h⟩))) htake)
  |exact au (au (m:=gr _) (eY (aM (aM ⟨_,rfl,aM h⟩)) htake))
  |exact au (au (m:=gr _) (eY (aM ⟨_,rfl,aM h⟩) htake))
end
end HT
namespace L2
open PySem PySem.Spec PyProof.Rows
abbrev TO:=St→Hp→(Option Int→Hp→Prop)→Prop
def PO (X:Cx) (e:Option Expr) (t:TO):Prop:=
 ∀(ag:List (ai×aG)) (s:am) (σ:St) (H:Hp) (Q:Option Int→Hp→Prop),my X ag σ H s→t σ H Q→
  av (aB X.prog X.w) X.A (evalPart e X.env) (λu s'=>∃o H',my X ag σ H' s'∧c8 u o∧Q o H') X.xe s
def ZE:TO:=λ_ H Q=>Q none H
def Vu (t:TE):TO:=λσ H Q=>t σ H λx H1=>∃i,x= .int i∧Q (aa i) H1
def uo:PO X none ZE:=by
 intro ag s σ H Q I h;rw[evalPart_none];exact aM ⟨none,H,I, .none,h⟩
def Xt (h:PE X e te):PO X (aa e) (Vu te):=by
 intro ag s σ H Q I hw;rw[evalPart_some];refine nD (h ag s σ H _ I hw) λu s1 ⟨x,H1,I1,r1,q1⟩=>?_;obtain⟨i,rfl,q⟩:=q1;obtain⟨t,rfl⟩:=r1;exact⟨aa i,H1,I1, .int i t,q⟩
def uC (X:Cx) (r:V→Option Int→Option Int→Hp→VK→Prop):Prop:=
 ∀(ag:List (ai×aG)) (s:am) (σ:St) (H:Hp) (x:V) (v vl vu:aj) (lo hi:Option Int) (sl:ai) (Q:VK),my X ag σ H s→mV x v→s.heap.IsSliceOf sl vl vu .none→c8 vl lo→c8 vu hi→r x lo hi H Q→
  ∃T id,iN (.type T) "__getitem__" =pure (aa (.builtin id))∧s.TypeIs v T∧av (aB X.prog X.w) X.A (dY v (.ref sl)) (EP X ag σ Q) X.xe s
def uC.or{r r':V→Option Int→Option Int→Hp→VK→Prop}(h:uC X r) (h':uC X r'):uC X (λx lo hi H Q=>r x lo hi H Q∨r' x lo hi H Q):=by
 intro ag s σ H x v vl vu lo hi sl Q I rx hs pl pu q;obtain q |q:=q
 ·exact h ag s σ H x v vl vu lo hi sl Q I rx hs pl pu q
 ·exact h' ag s σ H x v vl vu lo hi sl Q I rx hs pl pu q
def X4 (r:V→Option Int→Option Int→Hp→VK→Prop) (te:TE) (tl th:TO):TE:=λσ H Q=>te σ H λx H1=>tl σ H1 λl H2=>th σ H2 λu H3=>r x l u H3 Q
def Hr{X:Cx}{e:Expr}{te:TE}{lo hi:Option Expr}{tl th:TO}{pos p2:bw}{r:V→Option Int→Option Int→Hp→VK→Prop}(hr:uC X r) (he:PE X e te) (hl:PO X lo tl) (hu:PO X hi th):PE X (.Subscript e (.Slice lo hi none p2) pos) (X4 r te tl th):=by
 intro ag s σ H Q I h;refine Subscript_ (nD (he ag s σ H _ I h) λv s1 ⟨x,H1,I1,r1,q1⟩=>?_);refine wpAny_Slice (nD (hl ag s1 σ H1 _ I1 q1) λvl s2 ⟨l,H2,I2,pl,q2⟩=>nD (hu ag s2 σ H2 _ I2 q2) λvu s3 ⟨u,H3,I3,pu,q3⟩=>?_);rw[evalPart_none];refine aM ?_;have I4:my X ag σ H3 { s3 with heap:=s3.heap.push { cls:= .type "slice",data:= .fields #[vl,vu, .none] } }:=I3.kept (t':=s3.toks) λb ob q=>aQ _ q;obtain⟨T,id,hT,ht,hg⟩:=hr ag { s3 with heap:=s3.heap.push { cls:= .type "slice",data:= .fields #[vl,vu, .none] } } σ H3 x v vl vu l u s3.heap.objs.size Q I4 r1 (aE.IsSliceOf.new ..) pl pu q3;show av (aB X.prog X.w) X.A (subscriptTail e (.Slice lo hi none p2) v (.ref s3.heap.objs.size)) (EP X ag σ Q) X.xe { s3 with heap:=s3.heap.push { cls:= .type "slice",data:= .fields #[vl,vu, .none] } };exact tail_any (ops:=[.ref s3.heap.objs.size,v]) ht hT hg (by with_unfolding_all rfl)
def sV (xs:List V) (lo hi:Option Int):List V:=(xs.drop (HT.sIx xs.length 0 lo)).take (HT.sIx xs.length xs.length hi - HT.sIx xs.length 0 lo)
def GD (xs:List V) (lo hi:Option Int):(sV xs lo hi).length≤xs.length:=by
 unfold sV;rw[cY,cI];lia
def Yk (K:ao):V→Option Int→Option Int→Hp→VK→Prop:=λx lo hi H Q=>∃a xs,x= .ref a∧oX K H a xs∧
 ¬(HT.sIx xs.length 0 lo=0∧HT.sIx xs.length xs.length hi=xs.length)∧ ∀p,H p=none→Q (.ref p) (nH H p (.bW (sV xs lo hi)))
def Vm:uC X (Yk X.K):=by
 intro ag s σ H x v vl vu lo hi sl Q I rx hs pl pu h;obtain⟨a,xs,rfl,hx,hw,q⟩:=h;cases rx;obtain⟨eA,r,ht,hz⟩:=I.tuple hx;have hlen:eA.toArray.size=xs.length:=by rw[bf];exact r.length.symm
 refine⟨"tuple",_,fu.lookup,ht.typeIs,?_⟩;refine HT.getItem_tuple_cut ht hs pl pu (by rw[hlen];exact hw) ?_ (by rw[hlen];exact hz);rw[hlen];refine⟨.ref s.heap.objs.size,_,I.laid (t':=s.toks) (o:= .bW (sV xs lo hi)) (λb ob q=>aQ _ q) (aA _) ?_,rfl,q _ (I.cG.fresh (aA _))⟩;exact⟨aY (GD xs lo hi) hz,_,(r.drop (HT.sIx xs.length 0 lo)).take (HT.sIx xs.length xs.length hi - HT.sIx xs.length 0 lo),i9 _ _⟩
def DH (K:ao):R2:=λx y H Q=>∃a b xs ys,x= .ref a∧y= .ref b∧oX K H a xs∧oX K H b ys∧xs≠ []∧xs.length+ys.length≤sizeLine∧
 (ys=[]→Q (.ref a) H)∧(ys≠ []→ ∀p,H p=none→Q (.ref p) (nH H p (.bW (xs++ys))))
def mM.nil_iff (r:mM xs us):us=[]↔xs=[]:=by
 cases r with
 |nil=>simp
 |cons _ _=>simp
def uz:n_ X (ca .Add) (DH X.K):=by
 intro ag s σ H x y v u Q I rx ry h;obtain⟨a,b,xs,ys,rfl,rfl,ha,hb,hx,hz,q1,q2⟩:=h;cases rx;cases ry;obtain⟨eA,r1,p1,_⟩:=I.tuple ha;obtain⟨its2,r2,p2,_⟩:=I.tuple hb;refine HT.cat_tup p1 p2 (λz=>hx (r1.nil_iff.mp z)) (λz=>⟨.ref a,H,I,rfl,q1 (r2.nil_iff.mp z)⟩) (λz=>?_) (by rw[←r1.length,←r2.length];exact hz);refine⟨.ref s.heap.objs.size,_,I.laid (t':=s.toks) (o:= .bW (xs++ys)) (λb ob q=>aQ _ q) (aA _) ?_,rfl,q2 (λw=>z (r2.nil_iff.mpr w)) _ (I.cG.fresh (aA _))⟩;exact⟨by rw[a_];exact hz,_,r1.append r2,i9 _ _⟩
def tK (n:Nat) (i:Int):Option Nat:=if 0≤i then(if i<n then aa i.toNat else none) else if -(n:Int)≤i then aa (i+n).toNat else none
def nC {α:Type}(xs:List α) (i:Int):Option α:=(tK xs.length i).bind λj=>xs[j]?
def Rh (h:tK n i=aa j):seqIndex? i n=aa j∧j<n∧ -(n:Int)≤i∧i<n:=by
 unfold tK at h;by_cases h0:0≤i
 ·rw[if_pos h0]at h;by_cases h1:i<n
  ·rw[if_pos h1]at h;have e:i.toNat=j:=aL h;exact⟨by rw[seqIndex_of h0 h1,e],by lia,by lia,h1⟩
  ·rw[if_neg h1]at h;cases h
 ·rw[if_neg h0]at h;by_cases h1: -(n:Int)≤i
  ·rw[if_pos h1]at h;have e:(i+n).toNat=j:=aL h;exact⟨by rw[seqIndex_neg (by lia) h1,e],by lia,h1,by lia⟩
  ·rw[if_neg h1]at h;cases h
def D6{α:Type}{xs:List α}{i:Int}{v:α}(h:nC xs i=aa v):∃j,seqIndex? i xs.length=aa j∧xs[j]? =aa v∧j<xs.length∧ -(xs.length:Int)≤i∧i<xs.length:=by
 unfold nC at h;cases e:tK xs.length i with
 |none=>rw[e]at h;cases h
 |some j=>
  rw[e]at h;obtain⟨h1,h2,h3,h4⟩:=Rh e;exact⟨j,h1,h,h2,h3,h4⟩
def Lu{α:Type}{xs:List α}{j:Nat}{v:α}(h:xs[j]? =aa v):nC xs (j:Int)=aa v:=by
 have hj:j<xs.length:=(b7.mp h).1;have e:tK xs.length (j:Int)=aa j:=by
  unfold tK;rw[if_pos (by lia),if_pos (by lia)];simp
 unfold nC;rw[e];exact h
def BU (b:Expr):Prop:=∀o i,subscripted b false o i=operate [o,i] (dY o i)
def ux (X:Cx) (r:R2):Prop:=
 ∀(value slice:Expr) (ag:List (ai×aG)) (s:am) (σ:St) (H:Hp) (x y:V) (v u:aj) (Q:VK),my X ag σ H s→mV x v→mV y u→r x y H Q→
  subscripted slice false v u=operate [v,u] (dY v u)→av (aB X.prog X.w) X.A (subscriptTail value slice v u) (EP X ag σ Q) X.xe s
def sU (X:Cx) (id:String) (r:V→List V→Hp→VK→Prop):Prop:=
 ∀(ag:List (ai×aG)) (s:am) (σ:St) (H:Hp) (x:V) (xs:List V) (v:aj) (us:List aj) (Q:VK),my X ag σ H s→mV x v→mM xs us→r x xs H Q→
  av (aB X.prog X.w) X.A (call (.builtin id) (v::us)) (EP X ag σ Q) X.xe s
section
def ux.or{r r':R2}(h:ux X r) (h':ux X r'):ux X (λx y H Q=>r x y H Q∨r' x y H Q):=by
 intro value slice ag s σ H x y v u Q I rx ry q hs;obtain q |q:=q
 ·exact h value slice ag s σ H x y v u Q I rx ry q hs
 ·exact h' value slice ag s σ H x y v u Q I rx ry q hs
def sU.or{id:String}{r r':V→List V→Hp→VK→Prop}(h:sU X id r) (h':sU X id r'):sU X id (λx xs H Q=>r x xs H Q∨r' x xs H Q):=by
 intro ag s σ H x xs v us Q I rx rs q;obtain q |q:=q
 ·exact h ag s σ H x xs v us Q I rx rs q
 ·exact h' ag s σ H x xs v us Q I rx rs q
def K_ (hr:ux X r) (ha:PE X a ta) (hb:PE X b tb) (hs:BU b):PE X (.Subscript a b pos) (AJ r ta tb):=by
 intro ag s σ H Q I h;exact Subscript_ (EY ha hb I h λv u s2 x y H2 I2 rx ry q=>hr a b ag s2 σ H2 x y v u Q I2 rx ry q (hs _ _))
def GG (K:ao):R2:=λx y H Q=>∃p xs i v,x= .ref p∧y= .int i∧oE K H p xs∧nC xs i=aa v∧Q v H
def IT (K:ao):R2:=λx y H Q=>∃p xs i v,x= .ref p∧y= .int i∧oX K H p xs∧nC xs i=aa v∧Q v H
def Ja:R2:=λx y H Q=>∃z i c,x= .str z∧y= .int i∧z.length≤sizeLine∧nC z.cps.toList i=aa c∧Q (.str ⟨#[c]⟩) H
def t_:ux X (GG X.K):=by
 intro value slice ag s σ H x y v u Q I rx ry h hs;obtain⟨p,xs,i,z,rfl,rfl,hq,he,q⟩:=h;cases rx;obtain⟨t,rfl⟩:=ry;obtain⟨eA,r,pl,hz⟩:=I.list hq;obtain⟨j,h1,h2,h3,h4,h5⟩:=D6 he;obtain⟨w,ew,rw'⟩:=r.get h2;have hl:=r.length;have hn:=xG;have fin:EP X ag σ Q w s:=⟨z,H,I,rw',q⟩;by_cases h0:0≤i
 ·have hj:i.toNat=j:=by
   rw[seqIndex_of h0 h5]at h1;exact aL h1
  exact item_listR pl.isList h0 (by lia) (by rw[hj];simpa using ew) fin hs
 ·have hj:(i+(eA.toArray.size:Int)).toNat=j:=by
   rw[seqIndex_neg (by lia) h4]at h1;rw[bf,←hl];exact aL h1
  exact kX (x:=w) pl.isList.typeIs j8.lookup
   (wpAny_getItem_list_neg (Q:=λr s'=>r=w∧EP X ag σ Q r s') pl.isList (by lia) (by rw[bf]<;>lia) (by lia) (by rw[hj];simpa using ew) ⟨rfl,fin⟩) hs
def wm:ux X (IT X.K):=by
 intro value slice ag s σ H x y v u Q I rx ry h hs;obtain⟨p,xs,i,z,rfl,rfl,hq,he,q⟩:=h;cases rx;obtain⟨t,rfl⟩:=ry;obtain⟨eA,r,pl,hz⟩:=I.tuple hq;obtain⟨j,h1,h2,h3,h4,h5⟩:=D6 he;obtain⟨w,ew,rw'⟩:=r.get h2;have hl:=r.length;have hn:=xG;have fin:EP X ag σ Q w s:=⟨z,H,I,rw',q⟩;exact kX (x:=w) pl.typeIs slot_tuple_getitem.lookup
  (getItem_tuple (j:=j) (Q:=λr s'=>r=w∧EP X ag σ Q r s') pl (by lia) (by lia) (by rw[bf,←hl];exact h1) (by simpa using ew) ⟨rfl,fin⟩) hs
def Tc:ux X Ja:=by
 intro value slice ag s σ H x y v u Q I rx ry h hs;obtain⟨z,i,c,rfl,rfl,hz,he,q⟩:=h;obtain⟨t,rfl⟩:=rx;obtain⟨t',rfl⟩:=ry;obtain⟨j,h1,h2,h3,h4,h5⟩:=D6 he;have hl:z.cps.toList.length=z.length:=by simp [iJ]
 rw[hl]at h1 h4 h5;have hn:=xG;exact tail_any (ja s z t) slot_str_getitem.lookup (getItem_str (c:=c) (by
  have e1:decide (i< -(2 ^ 63:Int))=false:=decide_eq_false (by lia);have e2:decide (i≥2 ^ 63)=false:=decide_eq_false (by lia);rw[e1,e2,lU]) (by rw[h1];simpa using h2) ⟨.str ⟨#[c]⟩,H,I.tok _,⟨_,rfl⟩,q⟩) hs
def NN (K:ao):R2:=λx y H Q=>GG K x y H Q∨IT K x y H Q∨Ja x y H Q
def Hw:ux X (NN X.K):=t_.or (wm.or Tc)
def ZN (lo hi:Option Int) (n:Nat):(eB lo hi none n).1=((HT.sIx n 0 lo:Nat):Int)∧(eB lo hi none n).2.1=((HT.sIx n n hi:Nat):Int)∧(eB lo hi none n).2.2=1:=by
 refine⟨?_,?_,rfl⟩
 ·cases lo with
  |none=>simp [eB,HT.sIx]
  |some i=>
   simp only[eB,HT.sIx,ke,show(1:Int) > 0 by decide,if_true]
   by_cases h:i<0
   ·simp only[h,if_true]<;>lia
   ·simp only[h,if_false]<;>lia
 ·cases hi with
  |none=>simp [eB,HT.sIx]
  |some i=>
   simp only[eB,HT.sIx,ke,show(1:Int) > 0 by decide,if_true]
   by_cases h:i<0
   ·simp only[h,if_true]<;>lia
   ·simp only[h,if_false]<;>lia
def SO (eA:List aj) (lo hi:Option Int):slicePick eA.toArray lo hi none=((eA.drop (HT.sIx eA.length 0 lo)).take (HT.sIx eA.length eA.length hi - HT.sIx eA.length 0 lo)).toArray:=by
 obtain⟨h1,h2,h3⟩:=ZN lo hi eA.toArray.size;unfold slicePick;rw[h1,h2,h3];simp only[iP,jF,bf]<;>rfl
def Xn (K:ao):V→Option Int→Option Int→Hp→VK→Prop:=λx lo hi H Q=>∃a xs,x= .ref a∧oE K H a xs∧ ∀p,H p=none→Q (.ref p) (nH H p (.bO (sV xs lo hi)))
def LJ:uC X (Xn X.K):=by
 intro ag s σ H x v vl vu lo hi sl Q I rx hs pl pu h;obtain⟨a,xs,rfl,hx,q⟩:=h;cases rx;obtain⟨eA,r,ht,hz⟩:=I.list hx;have hlen:=r.length;refine⟨"list",_,j8.lookup,ht.isList.typeIs,?_⟩;refine wpAny_getItem_list_slice ht.isList hs pl pu .none (by simp) ?_ (by rw[bf]<;>lia);rw[SO,←hlen];refine⟨.ref s.heap.objs.size,_,I.laid (t':=s.toks) (o:= .bO (sV xs lo hi)) (λb ob q=>aQ _ q) (aA _) ?_,rfl,q _ (I.cG.fresh (aA _))⟩;exact⟨aY (GD xs lo hi) hz,_,0,(r.drop (HT.sIx xs.length 0 lo)).take (HT.sIx xs.length xs.length hi - HT.sIx xs.length 0 lo),bI _ rfl⟩
def qy:nL X (.builtin "len") (λxs H Q=>∃p ys,xs=[.ref p]∧(oE X.K H p ys∨oX X.K H p ys)∧Q (.int ys.length) H):=by
 intro ag s σ H xs us Q I r h;obtain⟨p,ys,rfl,hq,q⟩:=h;obtain⟨u,rfl,rx⟩:=ub r;cases rx;have hn:=xG;obtain hq |hq:=hq
 ·obtain⟨eA,r',pl,hz⟩:=I.list hq;have hlen:=r'.length;exact Calls.call_len_list pl.isList (by simp only[bf]<;>lia) ⟨.int ys.length,H,I.tok _,⟨s.toks+1,by rw[bf,hlen]⟩,q⟩
 ·obtain⟨eA,r',pl,hz⟩:=I.tuple hq;have hlen:=r'.length;exact len_tuple pl (by simp only[bf]<;>lia) ⟨.int ys.length,H,I.tok _,⟨s.toks+1,by rw[bf,hlen]⟩,q⟩
def Uy:nL X (.builtin "len") (λxs H Q=>∃z,xs=[.str z]∧z.length≤sizeLine∧Q (.int z.length) H):=by
 intro ag s σ H xs us Q I r h;obtain⟨z,rfl,hz,q⟩:=h;obtain⟨u,rfl,t,rfl⟩:=ub r;have hn:=xG;exact len_str (by lia) ⟨.int z.length,H,I.tok _,⟨_,rfl⟩,q⟩
def nL.or{f:aj}{r r':List V→Hp→VK→Prop}(h:nL X f r) (h':nL X f r'):nL X f (λxs H Q=>r xs H Q∨r' xs H Q):=by
 intro ag s σ H xs us Q I rs q;obtain q |q:=q
 ·exact h ag s σ H xs us Q I rs q
 ·exact h' ag s σ H xs us Q I rs q
def Se:nL X (.type "list") (λxs H Q=>∃p ys,xs=[.ref p]∧(oE X.K H p ys∨oX X.K H p ys)∧ ∀l,H l=none→Q (.ref l) (nH H l (.bO ys))):=by
 intro ag s σ H xs us Q I r h;obtain⟨p,ys,rfl,hq,q⟩:=h;obtain⟨u,rfl,rx⟩:=ub r;cases rx;have fin:∀(eA:List aj),mM ys eA→ys.length≤sizeLine→ ∀(h':aE) (c':Nat),(∀b o',s.heap.get? b=aa o'→h'.get? b=aa o')→
   h'.get? s.heap.objs.size=aa { cls:= .type "list",dict:=none,data:= .seq eA.toArray c',slots:= #[] }→EP X ag σ Q (.ref s.heap.objs.size) { s with heap:=h' }:=λeA r' hz h' c' kp e=>
  ⟨.ref s.heap.objs.size,_,I.laid (t':=s.toks) kp (aA _) (show nc X.prog X.w _ h' _ (.bO ys) from⟨hz,eA,c',r',e⟩),rfl,q _ (I.cG.fresh (aA _))⟩
 obtain hq |hq:=hq
 ·obtain⟨eA,r',pl,hz⟩:=I.list hq;have hlen:=r'.length;obtain⟨o,ho,hc,n,hd⟩:=pl.isList;exact call_list_seq p (.inl rfl) ho hc hd (λh' c' kp e=>fin eA r' hz h' c' kp e) (by simp only[bf]<;>lia)
 ·obtain⟨eA,r',pl,hz⟩:=I.tuple hq;have hlen:=r'.length;obtain⟨o,ho,hc,n,hd⟩:=pl;exact call_list_seq p (.inr rfl) ho hc hd (λh' c' kp e=>fin eA r' hz h' c' kp e) (by simp only[bf]<;>lia)
def G4:nL X (.type "tuple") (λxs H Q=>∃p ys,xs=[.ref p]∧((oE X.K H p ys∧ ∀l,H l=none→Q (.ref l) (nH H l (.bW ys)))∨(oX X.K H p ys∧Q (.ref p) H))):=by
 intro ag s σ H xs us Q I r h;obtain⟨p,ys,rfl,h⟩:=h;obtain⟨u,rfl,rx⟩:=ub r;cases rx;obtain ⟨hq,q⟩ |⟨hq,q⟩:=h
 ·obtain⟨eA,r',pl,hz⟩:=I.list hq;have hlen:=r'.length;refine call_tuple_list pl.isList (λh' kp=>?_) (by simp only[bf]<;>lia);have I1:my X ag σ H { s with heap:=h' }:=I.kept (t':=s.toks) kp;have I2:my X ag σ (nH H h'.objs.size (.bW ys)) { s with heap:=h'.push { cls:= .type "tuple",data:= .seq eA.toArray } }:=
   I1.laid (t':=s.toks) (λb o e=>aQ _ e) (aA _) (show nc X.prog X.w _ _ _ (.bW ys) from⟨hz,eA,r',i9 _ _⟩)
  exact⟨.ref h'.objs.size,_,I2,rfl,q _ (I1.cG.fresh (aA _))⟩
 ·obtain⟨eA,r',pl,hz⟩:=I.tuple hq;exact call_tuple_same pl ⟨.ref p,H,I,rfl,q⟩
def B5 (K:ao) (T:String) (x:V) (H:Hp):Prop:=match x with
 | .str _=>T= "str"
 | .int _=>T= "int"
 | .ref p=>(T= "list" ∧ ∃xs,oE K H p xs)∨(T= "tuple" ∧ ∃o,K.lookup p=aa o∧o.cls= .type "tuple" ∧o.dict=none)∨
   (T= "dict" ∧((∃hV,H p=aa (.dK hV))∨ ∃hV,H p=aa (.dT hV)))∨(T= "set" ∧ ∃S n,H p=aa (.set S n))
 |_=>False
def Lz (I:my X ag σ H s) (r:mV x v) (ty:B5 X.K T x H) :
  s.TypeIs v T∧ ∀a,v= .ref a→ ∃ob,s.heap.get? a=aa ob∧ob.dict=none:=by
 cases x with
 |str z=>
  obtain⟨t,rfl⟩:=r;cases(show T= "str" from ty);exact⟨ja s z t,λ_ e=>nomatch e⟩
 |int i=>
  obtain⟨t,rfl⟩:=r;cases(show T= "int" from ty);exact⟨jb s i t,λ_ e=>nomatch e⟩
 |ref p=>
  cases r;obtain ⟨rfl,xs,hq⟩ |⟨rfl,o,hk,hc,hd⟩ |⟨rfl,hk⟩ |⟨rfl,S,n,hk⟩:=ty
  ·obtain⟨eA,_,pl,_⟩:=I.list hq;refine⟨pl.isList.typeIs,λa e=>?_⟩;cases e;obtain⟨o,n,e,c,hd,_⟩:=pl;exact⟨o,e,hd⟩
  ·refine⟨⟨o,I.kIn p o hk,hc⟩,λa e=>?_⟩;cases e;exact⟨o,I.kIn _ o hk,hd⟩
  ·have z:∃o,s.heap.get? p=aa o∧o.ExactDict:=by
    obtain ⟨hV,hk⟩ |⟨hV,hk⟩:=hk
    ·obtain⟨_,_,_,_,o,_,_,e,ex,_⟩:=I.cG p _ hk;exact⟨o,e,ex⟩
    ·obtain⟨_,_,_,_,o,_,_,e,ex,_⟩:=I.cG p _ hk;exact⟨o,e,ex⟩
   obtain⟨o,e,ex⟩:=z;refine⟨⟨o,e,ex.1⟩,λa e2=>?_⟩;cases e2;exact⟨o,e,ex.2.1⟩
  ·obtain⟨o,_,_,_,e,ex,_⟩:=I.cG p _ hk;refine⟨⟨o,e,ex.1⟩,λa e2=>?_⟩;cases e2;exact⟨o,e,ex.2.1⟩
 |_=>exact cE ty
def WU (K:ao) (T:String) (r:V→List V→Hp→VK→Prop) (to:TE):TE:=λσ H Q=>to σ H λx H1=>B5 K T x H1∧r x [] H1 Q
def Rb (K:ao) (T:String) (r:V→List V→Hp→VK→Prop) (to:TE) (t:TA):TE:=λσ H Q=>to σ H λx H1=>B5 K T x H1∧t σ H1 λxs H2=>r x xs H2 Q
variable {o e:Expr}{es:List Expr}{to:TE}{t:TA}{name:ah}{apos cpos:bw}{T id:String}{r:V→List V→Hp→VK→Prop}
def Y9 (pa:gi T) (slot:Slot T name id) (hty:fe (.builtin id)=pure (.type "method_descriptor")) (hm:sU X id r) (ho:PE X o to)
  (hbase:cK o name X.env (aH o X.env)=aH o X.env:=by rfl) (hline:(apos.endLine == cpos.line)=true:=by rfl):PE X (.Call (.Attribute o name apos) [] [] cpos) (WU X.K T r to):=by
 intro ag s σ H Q I h;refine wpAny_Call_method0_late hbase hline (nD (ho ag s σ H _ I h) λv s1 ⟨x,H1,I1,r1,ty,q1⟩=>?_);obtain⟨h1,h2⟩:=Lz I1 r1 ty;exact⟨T,id,pa,slot,hty,h1,h2,lZ rfl (PySem.evalArgs_none (hm ag s1 σ H1 x [] v [] Q I1 r1 .nil q1))⟩
def Gg (pa:gi T) (slot:Slot T name id) (hty:fe (.builtin id)=pure (.type "method_descriptor")) (hm:sU X id r) (ho:PE X o to) (ha:PA X (e::es) t)
  (hbase:cK o name X.env (aH o X.env)=aH o X.env:=by rfl)
  (hfew:((aZ cpos (ax (e::es) X.env)).all (λx=> !x.1)&&(dN cpos (dM [] X.env)).all (λx=>x.1.isSome)
   &&decide ((e::es).length+([]:List b6).length+(if([]:List b6).isEmpty then 0 else 1)<30))=true:=by rfl)
  (hline:(apos.endLine == cpos.line)=true:=by rfl) (hs:ax (e::es) X.env=(false,aH e X.env)::ax es X.env:=by rfl) (hplain:(aZ cpos (ax es X.env)).any (·.1)=false:=by rfl) :
  PE X (.Call (.Attribute o name apos) (e::es) [] cpos) (Rb X.K T r to t):=by
 intro ag s σ H Q I h;refine wpAny_Call_method_late hbase hfew hline rfl (nD (ho ag s σ H _ I h) λv s1 ⟨x,H1,I1,r1,ty,q1⟩=>?_);obtain⟨h1,h2⟩:=Lz I1 r1 ty;refine⟨T,id,pa,slot,hty,h1,h2,?_⟩;have hA:=ha cpos ag s1 σ H1 _ I1 q1;rw[hs]at hA⊢;refine lZ (by show(false || (aZ cpos (ax es X.env)).any (·.1))=false;rw[hplain]<;>rfl) (ky ?_)
 exact nD hA λus s2 ⟨vs,H2,I2,r2,q2⟩=>hm ag s2 σ H2 x vs v us Q I2 r1 r2 q2
end
def Bb (X:Cx) (id:String) (r:V→List V→Hp→VK→Prop):Prop:=
 ∀(ag:List (ai×aG)) (s:am) (σ:St) (H:Hp) (x:V) (xs:List V) (v:aj) (us:List aj) (Q:VK),my X ag σ H s→mV x v→mM xs us→r x xs H Q→
  av (aB X.prog X.w) X.A (call (.builtin id) (v::us)) (EP X ag σ Q) X.xe s
theorem mM.one:∀{x:V}{us:List aj},mM [x] us→ ∃u,us=[u]∧mV x u
 |_,_, .cons r .nil=>⟨_,rfl,r⟩
theorem mM.rep (h:mM xs us):∀k:Nat,mM (bn k xs).flatten (bn k us).flatten
 |0=> .nil
 |k+1=>by
  rw[cL,cL,eI,eI];exact mM.append h (mM.rep h k)
theorem Kw (eA:List aj):∀(k:Nat) (acc:List aj),
  iy (λx1 x2=>x1++x2) acc.toArray (bn k eA.toArray)=(acc++(bn k eA).flatten).toArray
 |0,acc=>by simp
 |k+1,acc=>by
  have e:acc.toArray++eA.toArray=(acc++eA).toArray:=by simp
  have e2:(acc++eA)++(bn k eA).flatten=acc++(bn (k+1) eA).flatten:=by
   rw[cL,eI,bD]
  rw[←e2,←Kw eA k (acc++eA),←e,cL,eZ]
def my.lset{eA its':List aj}{n:Nat}{f:Array aj→Array aj}{t':Nat}(I:my X ag σ H s) (hH:H l=aa (.bO xs))
  (e:s.heap.get? l=aa { cls:= .type "list",data:= .seq eA.toArray n }) (hf:f eA.toArray=its'.toArray) (hv:mM ys its') (hz:ys.length≤sizeLine) :
  my X ag σ (nH H l (.bO ys)) { s with heap:=s.heap.update l (jg f),toks:=t' }:=by
 have q:=PySem.IsL.update e f;rw[hf]at q;refine I.write (x:=l) (e:=l) (by rw[hH];exact trivial) (.inl rfl) (λb' u hb hu=>(aE.get?_update_other s.heap (jg f) (bz hb)).trans hu) ⟨_,q⟩ ?_;exact⟨hz,its',_,hv,q⟩
def my.lnew{t':Nat}(I:my X ag σ H s) (hv:mM ys eA) (hz:ys.length≤sizeLine) :
  my X ag σ (nH H s.heap.objs.size (.bO ys)) { s with heap:=s.heap.push { cls:= .type "list",data:= .seq eA.toArray },toks:=t' }:=
 I.laid (λ_ _ q=>aQ _ q) (aA _) ⟨hz,eA,0,hv,bI _ rfl⟩
def my.fresh (I:my X ag σ H s):H s.heap.objs.size=none:=I.cG.fresh (aA _)
def my.lstM (I:my X ag σ H s) (hH:H l=aa (.bO xs)):xs.length≤sizeLine∧ ∃(eA:List aj) (n:Nat),mM xs eA∧xs.length=eA.length∧s.heap.get? l=aa { cls:= .type "list",data:= .seq eA.toArray n }:=by
 obtain⟨z,eA,n,r,e⟩:=I.cG l _ hH;exact⟨z,eA,n,r,r.length,e⟩
def D7 (h:n≤sizeLine):fv n=false:=by
 unfold fv;exact decide_eq_false (by lia)
def LC:V→List V→Hp→VK→Prop:=λx vs H Q=>∃l xs y,x= .ref l∧vs=[y]∧H l=aa (.bO xs)∧xs.length<sizeLine∧Q .cc (nH H l (.bO (xs++[y])))
def HW:Bb X "list.append" LC:=by
 intro ag s σ H x vs v us Q I rx rv h;obtain⟨l,xs,y,rfl,rfl,hH,hz,q⟩:=h;cases rx;obtain⟨u,rfl,ru⟩:=rv.one;obtain⟨z,eA,n,r,hl,e⟩:=I.lstM hH;refine eU F.slot_list_append ⟨_,e,rfl⟩ F.entry_list_append (F.args_list_append_2 _ _) (PySem.list_append l eA.toArray n u (by rw[bf];lia)) ⟨e,?_⟩;refine⟨.cc,_,I.lset (its':=eA++[u]) hH e (by simp) (r.append (.cons ru .nil)) ?_,rfl,q⟩;rw[a_,cw];lia
def DR:V→List V→Hp→VK→Prop:=λx vs H Q=>∃l b xs zs,x= .ref l∧vs=[.ref b]∧H l=aa (.bO xs)∧H b=aa (.bO zs)∧xs.length+zs.length≤sizeLine∧Q .cc (nH H l (.bO (xs++zs)))
def Gx:Bb X "list.extend" DR:=by
 intro ag s σ H x vs v us Q I rx rv h;obtain⟨l,b,xs,zs,rfl,rfl,hH,hB,hz,q⟩:=h;cases rx;obtain⟨u,rfl,ru⟩:=rv.one;cases ru;obtain⟨z,eA,n,r,hl,e⟩:=I.lstM hH;obtain⟨z2,its2,n2,r2,hl2,e2⟩:=I.lstM hB;have hsz:eA.toArray.size+its2.toArray.size≤sizeLine:=by rw[bf,bf];lia
 have hlong:¬(!eA.toArray.isEmpty&&fv (eA.toArray.size+its2.toArray.size))=true:=by
  rw[D7 hsz,gb];exact cV
 refine eU lq ⟨_,e,rfl⟩ lM (lQ _ _)
  (AutoSeq1.list_extend_list_list_0 l eA.toArray n b its2.toArray n2 hlong (by rw[bf];lia) (by lia)) ⟨e,e2,?_⟩
 refine⟨.cc,_,I.lset (its':=eA++its2) hH e (by simp) (r.append r2) ?_,rfl,q⟩;rw[a_];lia
def EN:R2:=λx y H Q=>∃l b xs zs,x= .ref l∧y= .ref b∧H l=aa (.bO xs)∧H b=aa (.bO zs)∧xs.length+zs.length≤sizeLine∧ ∀p,H p=none→Q (.ref p) (nH H p (.bO (xs++zs)))
def BW:n_ X (ca .Add) EN:=by
 intro ag s σ H x y v u Q I rx ry h;obtain⟨l,b,xs,zs,rfl,rfl,hH,hB,hz,q⟩:=h;cases rx;cases ry;obtain⟨z,eA,n,r,hl,e⟩:=I.lstM hH;obtain⟨z2,its2,n2,r2,hl2,e2⟩:=I.lstM hB;refine PySem.P.add_list e e2 ?_ (by rw[bf,bf];lia);have ea:eA.toArray++its2.toArray=(eA++its2).toArray:=by simp
 rw[ea];exact⟨.ref _,_,I.lnew (t':=s.toks) (r.append r2) (by rw[a_];lia),rfl,q _ I.fresh⟩
def PJ:R2:=λx y H Q=>∃l k xs,x= .ref l∧y= .int k∧H l=aa (.bO xs)∧ -(2 ^ 63)≤k∧k<2 ^ 63∧xs.length*k.toNat≤sizeLine∧
 ∀p,H p=none→Q (.ref p) (nH H p (.bO (bn k.toNat xs).flatten))
def SD{α:Type}(xs:List α) (k:Nat):(bn k xs).flatten.length=k*xs.length:=by
 induction k with
 |zero=>simp
 |succ k ih=>rw[cL,eI,a_,ih,Nat.succ_mul,dW]
def OT:n_ X (ca .Mult) PJ:=by
 intro ag s σ H x y v u Q I rx ry h;obtain⟨l,k,xs,rfl,rfl,hH,h1,h2,hz,q⟩:=h;cases rx;obtain⟨t,rfl⟩:=ry;obtain⟨z,eA,n,r,hl,e⟩:=I.lstM hH;have hlen:eA.toArray.size*k.toNat≤sizeLine:=by rw[bf,←hl];exact hz
 have hcap:¬eA.toArray.size*k.toNat > (2 ^ 63 - 1) / 8:=by
  have:(sizeLine:Nat)≤(2 ^ 63 - 1) / 8:=by decide
  lia
 have hfit:¬(!Builtin.List.listFitsIndex k)=true:=by
  rw[fitsIndex_both h1 h2];exact cV
 have hlong:¬fv (eA.toArray.size*k.toNat)=true:=by
  rw[D7 hlen];exact cV
 have hnew:iy (λx1 x2=>x1++x2) #[] (bn (if eA.toArray.isEmpty=true then 0 else k.toNat) eA.toArray)=(bn k.toNat eA).flatten.toArray:=by
  have f0:∀m:Nat,iy (λx1 x2=>x1++x2) #[] (bn m eA.toArray)=(bn m eA).flatten.toArray:=λm=>by
   have:=Kw eA m [];rw[aX]at this;exact this
  rw[f0];cases eA with
  |nil=>simp
  |cons a r'=>rw[if_neg (by simp)]
 refine wpAny_binaryOp_repeat_ref (T:= "list") (U:= "int") (by decide) ⟨_,e,rfl⟩ (λs'=>jb s' k t) noFill_list_mul F.fills_int_mul j7 repeat_list F.slot_int_index.lookup
  (eU j7 (jb s k t) F.entry_int_rmul (F.args_int_rmul_2 _ _) (int___rmul___int_list k t l eA.toArray n)
   ⟨e,rfl,⟨_,e,rfl⟩,eU F.slot_list_mul ⟨_,e,rfl⟩ F.entry_list_mul (F.args_list_mul_2 _ _) (AutoListH.list___mul___list_int_3 l eA.toArray n k t hfit hcap hlong) ⟨e,?_⟩⟩)
 rw[hnew];exact⟨.ref _,_,I.lnew (t':=s.toks) (r.rep k.toNat) (by rw[SD,Nat.mul_comm];exact hz),rfl,q _ I.fresh⟩
end L2
namespace Att
open PySem PySem.W PySem.Calls PyProof.Rows
def Vi:∀(ns:List Int) (vs:List aj),WellAll P h vs (ns.map WData.int)→fY vs ns:=by
 intro ns
 induction ns with
 |nil=>
  intro vs w;rw[cr]at w;cases w;exact .nil
 |cons n ns ih=>
  intro vs w;rw[aC]at w;cases w with
  |cons a b=>
   cases a;exact .cons _ _ (ih _ b)
def WV{l:OpenLaw}{n:Nat}(hn:l.most=aa n) {P:Params}{h:aE}{args:List WData}{vals:List aj}
  (hpre:l.row.toRowW.claim.pre args=true) (hwl:WellAll P h vals args) :
  ∃a vs ns,vals=[bK a]∧args=[WData.list (ns.map WData.int)]∧h.get? a=aa { cls:= .type "list",data:= .seq vs.toArray }∧fY vs ns∧ns.length≤n:=by
 have hsh:WShape.hasAll [] args [.list .int]=true:=(pre_splitW hpre).1;have hc:l.pre.holds [] { args:=args }=true:=(pre_splitW hpre).2;obtain⟨d,r,rfl,h1,h2⟩:=hasAllW_cons hsh;obtain rfl:=hasAllW_nil h2;obtain⟨xs,rfl,h3⟩:=hasW_list h1;obtain⟨ns,rfl⟩:=items_int h3;have hlen:ns.length≤n:=by
  unfold OpenLaw.pre at hc;have h4:(WTm.not (.lt (.lit (.int (n:Int))) (.len (.arg 0)))).holds [] { args:=[.list (ns.map .int)] }=true:=by
   have h4:=(holds_andW hc).1;rw[hn]at h4;exact h4
  have h5:=condW_of h4 (w_not (w_lt w_lit (w_len_list (w_arg rfl))));rw[ay]at h5;refine lN λq=>?_;have q':(n:Int)<((ns.length:Nat):Int):=by lia
  first
   | (rw[decide_eq_true q']at h5;exact absurd h5 (by decide))
   | (simp at h5;lia)
 cases hwl with
 |cons w1 w2=>
  cases w2;cases w1 with
  |list ho hall=>exact⟨_,_,ns,rfl,rfl,ho,Vi ns _ hall,hlen⟩
def Ym (l:OpenLaw) (args:List WData):l.row.toRowW.claim.post args (.bool true) args=true:=
 postW_of (r:=l.row.toRowW) (X:=(true == true))
  (show WShape.has [] (.bool true) .bool=true by first |rfl |decide |simp [WShape.has,WShape.arms,WShape.armsAll])
  (show(WTm.eq .res (.lit (.bool true))).value [] { args:=args,res:=aa (.bool true),after:=args }=aa (.bool (true == true)) from w_eq_bool (w_res rfl) w_lit) rfl
def attach_call{l:OpenLaw}{n:Nat}{q:bh}{loose:List ah}{XP:(ah→Option aj)→aE→Prop}{YP:aS→aE→Prop}{d:DefRec}
  (hn:l.most=aa n) (hdf:d.params.defaults=[])
  (call:∀(w:aS) (s₀ s₁:am) (mg mb:ah→Option aj) (fa:ai) (o:aG) (pm cd doc:aj) (a:ai) (vs:List aj) (ns:List Int),
   Ground q loose [] XP w s₀ mg mb s₁.heap→YP w s₁.heap→
   s₁.heap.get? fa=aa o→o.data= .func (docDef d.name d.params d.body d.scope pm cd doc)→s₁.heap.CodeRec cd d.name→mg d.name=aa (.ref fa)→
   s₁.heap.get? a=aa { cls:= .type "list",data:= .seq vs.toArray }→fY vs ns→ns.length≤n→s₁.gens= #[]→
   ef (aB l.prog w) eG (.call (.ref fa) ⟨[.ref a],[]⟩) (λr s'=>r= .ok (.ret (.bool true))∧OldK s₁.heap s'.heap∧s'.os=s₁.os∧ce s'.gens) s₁) :
  WalkO q loose XP YP l.row.toRowW d [] (λf vs=>jQ f vs):=by
 intro w s₀ s₁ mg mb G Y fa o pm cd doc dV kV ho hd hcd hD hmg hg args vals as hpre hlay hrd hwl hlo;obtain rfl:dV= .none:=Dflts.none hD hdf;obtain rfl:kV= .none:=Dflts.noKw hD;obtain⟨a,vs,ns,rfl,rfl,hobj,hints,hlen⟩:=WV hn hpre hwl;refine enter_call (il (call w s₀ s₁ mg mb fa o pm cd doc a vs ns G Y ho (fd_plain hd) hcd hmg hobj hints hlen hg) λr s' hq=>?_);obtain⟨rfl,h2,h3,h4⟩:=hq;exact⟨.inl ⟨.bool true, .bool true,[],rfl,λ_=>rfl, .bool true,Ym l _,λ_=>⟨l_.nil,λ_ hm=>(nomatch hm)⟩⟩,h2,h3,h4⟩
end Att
namespace L2
open PySem PySem.Spec PyProof.Rows
theorem Ma:∀{vs:List aj}{ns:List Int},fY vs ns→mM (ns.map V.int) vs
 |_,_, .nil=> .nil
 |_,_, .cons n t h=> .cons ⟨t,rfl⟩ (Ma h)
def AT (H:Hp):Prop:=∀b,H b=none∨ ∃o xs,H b=aa (.frz o (.bO xs))
def YI{K:ao}{mg mb:ah→Option aj} 
  (KX:K.In s₁.heap) (hns:s₁.heap.Ns bj mg) (hb:s₁.heap.Ns jM mb) (hbb:∀x:ah,x≠ "__name__" →mb x=cH x) (hlim:s₁.heap.NoLimit) (hg:s₁.gens= #[])
  (ha:s₁.heap.get? a=aa { cls:= .type "list",data:= .seq vs.toArray }) (hi:fY vs ns) (hl:ns.length≤sizeLine) (hr:oj k eG)
  (F:∀base:aE,K.In base→base.Ns bj mg→oU P w K mg base CX k fa fd [x] sp) (hbind:∀(s:am) (u:aj),eR s fd ⟨[u],[]⟩ [(x,u)])
  (hsp:∀H:Hp,AT H→oE K H a (ns.map V.int)→sp [.ref a] H (λv _=>v= .bl true) λ_ _ _=>False)
  (hCX:∀H e s',CX [] H s₁ (λ_ _ _=>False) e s'→False) :
  ef (aB P w) eG (.call (.ref fa) ⟨[.ref a],[]⟩) (λr s'=>r= .ok (.ret (.bool true))∧OldK s₁.heap s'.heap∧s'.os=s₁.os∧ce s'.gens) s₁:=by
 have rv:=Ma hi;have lenV:=hi.length;have core:∀H:Hp,AT H→oE K H a (ns.map V.int)→nZ P w H s₁.heap→(∀b,H b≠none→b=a)→(H a≠none→K.lookup a=none)→
   ef (aB P w) eG (.call (.ref fa) ⟨[.ref a],[]⟩) (λr s'=>r= .ok (.ret (.bool true))∧OldK s₁.heap s'.heap∧s'.os=s₁.os∧ce s'.gens) s₁:=by
  intro H hO hS cG hA hK;have base_of:∀{b:ai}{o:aG},s₁.heap.get? b=aa o→H b=none→(uy s₁.heap H).get? b=aa o:=λe n=>WQ e n;have noA:∀{b:ai}{o:aG}{es:Array DictEntry}{ep:Nat},s₁.heap.get? b=aa o→o.data= .dict es ep→H b=none:=λ{b o es ep} e d=>by
   cases q:H b with
   |none=>rfl
   |some u=>
    have e':b=a:=hA b (by rw[q];simp);subst e';rw[ha]at e;cases e;have d':Data.seq vs.toArray _=Data.dict es ep:=d;cases d'
  have nsK:∀{b:ai}{m:ah→Option aj},s₁.heap.Ns b m→(uy s₁.heap H).Ns b m:=λ{b m} ⟨o,es,ep,e,d,r⟩=>⟨o,es,ep,base_of e (noA e d),d,r⟩;have hKb:K.In (uy s₁.heap H):=λb o e=>base_of (KX b o e) (by
   cases q:H b with
   |none=>rfl
   |some u=>
    have e':b=a:=hA b (by rw[q];simp);subst e';rw[hK (by rw[q];simp)]at e;cases e)
  have hM:Mod K mg (uy s₁.heap H):=⟨hKb,nsK hns,⟨mb,nsK hb,hbb⟩,let ⟨mc,h1,h2⟩:=hlim;⟨mc,nsK h1,h2⟩⟩;have e0:sS P w K mg (uy s₁.heap H) eG [] s₁ H:=⟨rfl,hM,λb o e=>Tx e,gf (Rv _ _),trivial,λb hb=>absurd (show b∈([]:List ai) from hb) (by simp),cG, .of_eq hg⟩;refine il ((F _ hKb (nsK hns)).run eG [] s₁ H ⟨[.ref a],[]⟩ [.ref a] [.ref a] _ _ hr e0 (hbind s₁ (.ref a)) (.cons rfl .nil) (hsp H hO hS)) λr s' h=>?_;cases r with
  |error e=>exact(hCX H e s' h).elim
  |ok fl=>
   cases fl with
   |next=>exact cE h
   |brk=>exact cE h
   |cont=>exact cE h
   |ret u=>
    obtain⟨v,H',os,bare,un,hok',r',q⟩:=h;have q':v= .bl true:=q;subst q';obtain rfl:u=eO true:=r';refine⟨rfl,OldK.of_keep λb o e=>?_,os,bare⟩;cases q:H b with
    |none=>exact un.keep b o e q (by intro z;exact absurd (show b∈([]:List ai) from z) (by simp)) (by simp)
    |some u=>
     obtain z |⟨ob,xs,z⟩:=hO b
     ·rw[q]at z;cases z
     ·have z2:=un.frzs b ob _ z;obtain⟨e1,_⟩:=cG b _ z;obtain⟨e2,_⟩:=hok' b _ z2;rw[e]at e1;cases e1;exact e2
 cases hk:K.lookup a with
 |some o=>
  have e:=KX a o hk;rw[ha]at e;cases e;refine core (λ_=>none) (λ_=> .inl rfl) (.inr ⟨_,vs.toArray,_,hk,rfl,rfl,rfl,by rw[bf,lenV];exact hl,by simpa using rv⟩) (λb u z=>by have z':(none:Option HO)=aa u:=z;cases z') (λb z=>absurd rfl z) λz=>absurd rfl z
 |none=>
  refine core (λb=>if b=a then aa (.frz { cls:= .type "list",data:= .seq vs.toArray } (.bO (ns.map V.int))) else none) (λb=>?_) (.inl (.inr ⟨{ cls:= .type "list",data:= .seq vs.toArray },if_pos rfl⟩)) (λb u z=>?_) (λb z=>?_) λ_=>hk
  ·by_cases hb:b=a
   ·exact .inr ⟨_,_,if_pos hb⟩
   ·exact .inl (if_neg hb)
  ·by_cases hb:b=a
   ·have z':=(if_pos hb).symm.trans z;cases z';subst hb;exact⟨ha,by rw[ay];exact hl,vs,_,rv,ha⟩
   ·have z':=(if_neg hb).symm.trans z;cases z'
  ·by_cases hb:b=a
   ·exact hb
   ·exact absurd (if_neg hb) z
def YG{l:gU}{n k:Nat}{q:bh}{loose:List ah}{XP:(ah→Option aj)→aE→Prop}{YP:aS→aE→Prop}{d:DefRec}{K:Params→ao}{CX:aS→xP}{sp:aS→Sp}{x:ah}
  (hn:l.most=aa n) (hn2:n≤sizeLine) (hdf:d.params.defaults=[]) (hr:oj k eG)
  (hY:∀(w:aS) (h:aE),YP w h→(K w.params).In h)
  (F:∀(w:aS) (mg:ah→Option aj) (fa:ai) (h:aE),(K w.params).In h→h.Ns bj mg→mg d.name=aa (.ref fa)→
   ∃fd:dc,(∀(s:am) (u:aj),eR s fd ⟨[u],[]⟩ [(x,u)])∧
    ∀base:aE,(K w.params).In base→base.Ns bj mg→oU l.prog w (K w.params) mg base (CX w) k fa fd [x] (sp w))
  (hsp:∀(w:aS) (H:Hp) (a:ai) (ns:List Int),ns.length≤n→AT H→oE (K w.params) H a (ns.map V.int)→sp w [.ref a] H (λv _=>v= .bl true) λ_ _ _=>False)
  (hCX:∀(w:aS) (H:Hp) (s:am) (e:aj) (s':am),CX w [] H s (λ_ _ _=>False) e s'→False) :
  mn q loose XP YP l.row.toRowW d [] (λf vs=>jQ f vs):=by
 refine Att.attach_call hn hdf λw s₀ s₁ mg mb fa o pm cd doc a vs ns G Y ho hd hcd hmg hobj hints hlen hg=>?_;have KX:=hY w _ Y;obtain⟨fd,hb,hF⟩:=F w mg fa _ KX G.T.g hmg;exact YI KX G.T.g G.T.b G.T.builtins G.T.nolimit hg hobj hints (aY hlen hn2) hr hF hb (λH hO hS=>hsp w H a ns hlen hO hS) λH e s'=>hCX w H s₁ e s'
def xp (s:aW):Arguments:=match s with
 | .FunctionDef _ a _ _ _ _ _ _ _ _=>a
 |_=>{ posonlyargs:=[],args:=[],vararg:=none,kwonlyargs:=[],kw_defaults:=[],kwarg:=none,defaults:=[] }
def ue (s:aW):List aW:=match s with
 | .FunctionDef _ _ b _ _ _ _ _ _ _=>b
 |_=>[]
def qq (s:aW):Scope:=match s with
 | .FunctionDef _ _ _ _ _ _ sc _ _ _=>sc
 |_=>{ kind:= .function,names:=[],isGenerator:=false,isCoroutine:=false }
abbrev No:xP:=λ_ _ _ _ _ _=>False
structure tF (K:ao) (x qual:ah) (st:aW) (f:ai) (fd:dc):Prop where
  ex:∃(oc:aj) (od:Option ai) (kV doc pm:aj) (an:Option ai) (cdv ct:aj) (osl:Array (Option aj)),
    fd=dH x qual (xp st) (ue st) (qq st) .none kV doc pm an cdv ct∧K.lookup f=aa ⟨oc,od, .func fd,osl⟩∧gq K cdv qual=true
  kp:fD K (.ref f)=true
section
variable {P:bh}{w:aS}{K:ao}{mg:ah→Option aj}{base:aE}
def tF.ok{st:aW}(F:tF K x qual st f fd) (S:pi N ps (qq st)) (len:∀vs H Q E,sp vs H Q E→vs.length=ps.length)
  (hbody:∀(cdv:aj) (A:br) (outer:List bP) (s:am) (H:Hp) (vs:List V) (Q:VK) (E:XK),oj k (A.deeper (cD qual (qq st) s.heap.objs.size f cdv))→sp vs H Q E→
   ∃t,qH (vh No P w K mg base N qual (qq st) f cdv A outer s H E).nox (ue st) t∧t { nx:=λ_ H'=>Q .cc H',rt:=Q } (start N vs) H):oU P w K mg base No (k+1) f fd ps sp:=by
 obtain⟨oc,od,kV,doc,pm,an,cdv,ct,osl,rfl,lk,hcd⟩:=F.ex;refine MF lk hcd S len λA outer s H vs Q E hr hsp=>?_;obtain⟨t,h,q⟩:=hbody cdv A outer s H vs Q E hr hsp;exact⟨t,h.nox,q⟩
def tF.binds{st:aW}(F:tF K x qual st f fd)
  (h:∀(kV doc pm:aj) (an:Option ai) (cdv ct:aj) (us:List aj),us.length=ps.length→iV (dH x qual (xp st) (ue st) (qq st) .none kV doc pm an cdv ct) ⟨us,[]⟩=pure (ps.zip us)):pj K fd ps []:=by
 obtain⟨oc,od,kV,doc,pm,an,cdv,ct,osl,rfl,lk,hcd⟩:=F.ex;exact .all (h kV doc pm an cdv ct)
def XT{st:aW}{kV doc pm cdv ct:aj}(l:K.lookup f=aa ⟨oc,od, .func (dH x qual (xp st) (ue st) (qq st) .none kV doc pm an cdv ct),osl⟩)
  (c:gq K cdv qual=true) (k:fD K (.ref f)=true):tF K x qual st f (dH x qual (xp st) (ue st) (qq st) .none kV doc pm an cdv ct):=⟨⟨oc,od,kV,doc,pm,an,cdv,ct,osl,rfl,l,c⟩,k⟩
end
def pv (i:Nat) (hN:X.N[i]? =aa x:=by rfl) (hv:wo X.env.scope x:=by first |exact gw rfl |exact fE (gw rfl) |exact fE (fE rfl)) (hd:(x == ("__debug__" :ah))=false:=by decide)
  (hcd:(x == ("__classdict__" :ah))=false:=by decide):PE X (.Name x pos) (KG i):=HB hN hv hd hcd
def Si{A B:Prop}(h:B):if false=true then A else B:=by
 rw[if_neg cV];exact h
def Uf{A B:Prop}(h:A):if true=true then A else B:=by
 rw[if_pos rfl];exact h
section
variable {κ:Type} [DecidableEq κ]
def rJ (hV:List (κ×V)) (k:κ):Option V:=(hV.find? λkv=>decide (kv.1=k)).map (·.2)
def sN (hV:List (κ×V)) (k:κ) (v:V):List (κ×V):=
 if(hV.any λkv=>decide (kv.1=k))=true then hV.map (λkv=>if kv.1=k then(kv.1,v) else kv) else hV++[(k,v)]
def A1{p:κ×V}{r:List (κ×V)}{k:κ}(e:p.1=k):rJ (p::r) k=aa p.2:=by simp [rJ,b_,e]
def AB{p:κ×V}{r:List (κ×V)}{k:κ}(e:¬p.1=k):rJ (p::r) k=rJ r k:=by simp [rJ,b_,e]
theorem IH (k:κ):∀hV:List (κ×V),(hV.any λkv=>decide (kv.1=k))=(rJ hV k).isSome
 | []=>rfl
 |p::r=>by
  rw[eK];by_cases e:p.1=k
  ·simp only[A1 e,decide_eq_true e,Bool.true_or,mh]
  ·rw[AB e,decide_eq_false e,ma];exact IH k r
def Tl (hV:List (κ×V)) (k:κ) (v:V):(sN hV k v).length≤hV.length+1:=by
 unfold sN;split
 ·rw[ay];lia
 ·rw[a_,aT,di];lia
def qr.isSome_eq{o:Option V}{u:Option aj}(r:qr o u):o.isSome=u.isSome:=by
 cases o with
 |none=>cases u with
  |none=>rfl
  |some _=>exact(show False from r).elim
 |some _=>cases u with
  |none=>exact(show False from r).elim
  |some _=>rfl
def qr.getD{o:Option V}{u:Option aj}{d:V}{d':aj}(r:qr o u) (rd:mV d d'):mV (o.getD d) (u.getD d'):=by
 cases o with
 |none=>cases u with
  |none=>exact rd
  |some _=>exact(show False from r).elim
 |some _=>cases u with
  |none=>exact(show False from r).elim
  |some _=>exact r
def KV.val{hV:List (κ×V)}{vs:List (κ×aj)}(r:KV hV vs) (k:κ):qr (rJ hV k) (eM vs k):=by
 unfold KV at r
 induction r with
 |nil=>exact dv
 | @cons p q ps qs h t ih=>
  obtain⟨h1,h2⟩:=h;by_cases e:p.1=k
  ·have e':q.1=k:=h1.symm.trans e;have b:eM (q::qs) k=aa q.2:=by simp [eM,b_,e']
   rw[A1 e,b];exact h2
  ·have e':¬q.1=k:=λz=>e (h1.trans z);have b:eM (q::qs) k=eM qs k:=by simp [eM,b_,e']
   rw[AB e,b];exact ih
def KV.length{hV:List (κ×V)}{vs:List (κ×aj)}(r:KV hV vs):hV.length=vs.length:=gc r
end
def DK{P:bh}{w:aS}{k:Key}{u:aj}(r:mV (kV k) u):(qE P w).is k u=true:=by
 cases k with
 |inl i=>obtain⟨t,e⟩:=(show ∃t,u=gF i t from r);subst e;exact V_ P w i t
 |inr x=>obtain⟨t,e⟩:=(show ∃t,u=fU x t from r);subst e;exact Sx P w x t
theorem Mz{P:bh}{w:aS}:∀{ks:List Key}{us:List aj},mM (ks.map kV) us→ItemsAre (qE P w) ks us
 | [],_,r=>by rw[cr]at r;cases r;exact .nil
 |k::ks,_,r=>by
  rw[aC]at r;cases r with
  |cons h t=>exact .cons (DK h) (Mz t)
abbrev KT (H:Hp):List (List Key×V)→List (List Key×ai×aj)→Prop:=aN λp q=>p.1=q.1∧H q.2.1=aa (.bW (p.1.map kV))∧mV p.2 q.2.2
def KT.val{H:Hp}{hV:List (List Key×V)}{xs:List (List Key×ai×aj)}(r:KT H hV xs) (k:List Key):qr (rJ hV k) ((dE xs k).map (·.2)):=by
 induction r with
 |nil=>exact dv
 | @cons p q ps qs h t ih=>
  obtain⟨h1,_,h2⟩:=h;by_cases e:p.1=k
  ·have e':q.1=k:=h1.symm.trans e;have b:dE (q::qs) k=aa q.2:=by simp [dE,b_,e']
   rw[A1 e,b];exact h2
  ·have e':¬q.1=k:=λz=>e (h1.trans z);have b:dE (q::qs) k=dE qs k:=by simp [dE,b_,e']
   rw[AB e,b];exact ih
def KT.repl{H:Hp}{hV:List (List Key×V)}{xs:List (List Key×ai×aj)}(r:KT H hV xs) (k:List Key) {y:V}{u:aj}(ry:mV y u) :
  KT H (hV.map λkv=>if kv.1=k then(kv.1,y) else kv) (xs.map (putAt k u)):=by
 induction r with
 |nil=>exact .nil
 | @cons p q ps qs h t ih=>
  rw[aC,aC];refine .cons ?_ ih;obtain⟨h1,h2,h3⟩:=h;unfold putAt;by_cases e:p.1=k
  ·rw[if_pos e,if_pos (h1.symm.trans e)];exact⟨h1,h2,ry⟩
  ·rw[if_neg e,if_neg (λz=>e (h1.trans z))];exact⟨h1,h2,h3⟩
def KT.bR{H:Hp}{hV:List (List Key×V)}{xs:List (List Key×ai×aj)}(r:KT H hV xs) (k:List Key) {b:ai}{y:V}{u:aj}(hb:H b=aa (.bW (k.map kV))) (ry:mV y u) :
  KT H (sN hV k y) (fV xs k b u):=by
 have e:(hV.any λkv=>decide (kv.1=k))=(dE xs k).isSome:=by
  rw[IH,(r.val k).isSome_eq,ie]
 unfold sN fV;rw[e];by_cases q:(dE xs k).isSome=true
 ·rw[if_pos q,if_pos q];exact r.repl k ry
 ·rw[if_neg q,if_neg q];exact aN.snoc r ⟨rfl,hb,ry⟩
def KT.keeps{H H':Hp}{hV:List (List Key×V)}{xs:List (List Key×ai×aj)}(r:KT H hV xs) (ht:∀b ys,H b=aa (.bW ys)→H' b=aa (.bW ys)):KT H' hV xs:=
 Paired.mapP r λ_ _ z=>⟨z.1,ht _ _ z.2.1,z.2.2⟩
def KB{u:HO}(ok:nZ P w H h) (e:Rd H a u):nc P w H h a u:=e.ok ok
def H_{hV:List (Key×V)}(ok:nZ P w H h) (e:Rd H a (.dK hV)):hV.length≤sizeLine∧(a == fB)=false∧ ∃vs,KV hV vs∧h.DictOf (qE P w) a vs:=
 show nc P w H h a (.dK hV) from KB ok e
def BE{ks:List Key}(ok:nZ P w H h) (e:H a=aa (.bW (ks.map kV))):(cS (qE P w)).is h ks a:=by
 obtain⟨_,eA,r,o,h1,h2,n,h3⟩:=(show nc P w H h a (.bW (ks.map kV)) from ok a _ e);exact⟨o,eA.toArray,n,h1,h2,h3,by simpa using Mz r⟩
def Mq{hV:List (List Key×V)}(ok:nZ P w H h) (e:Rd H a (.dT hV)):hV.length≤sizeLine∧(a == fB)=false∧
  ∃xs,KT H hV xs∧h.DictOfH (cS (qE P w)) a xs:=by
 obtain⟨z,y,xs,r,o,es,ep,h1,h2,h3,h4,h5⟩:=(show nc P w H h a (.dT hV) from KB ok e);refine⟨z,y,xs,r,o,es,ep,h1,h2,h3,h4,λx hx=>?_,h5⟩;have all:∀{l:List (List Key×V)}{m:List (List Key×ai×aj)},KT H l m→ ∀x∈m,(cS (qE P w)).is h x.1 x.2.1:=by
  intro l m q
  induction q with
  |nil=>intro x hx;exact nomatch hx
  | @cons p q ps qs hq t ih=>
   intro x hx;obtain e |hx:=az.mp hx
   ·subst e;exact BE ok (by rw[←hq.1];exact hq.2.1)
   ·exact ih x hx
 exact all r x hx
def rM (H:Hp) (a:ai) (y:V) (r:Option V):Prop:=
 (∃hV k,Rd H a (.dK hV)∧y=kV k∧r=rJ hV k)∨ ∃hV k b,Rd H a (.dT hV)∧y= .ref b∧H b=aa (.bW (k.map kV))∧r=rJ hV k
def rM.t{H:Hp}{a b:ai}{hV:List (List Key×V)}{k:List Key}(e:H a=aa (.dT hV)) (eb:H b=aa (.bW (k.map kV))):rM H a (.ref b) (rJ hV k):= .inr ⟨hV,k,b, .inl e,rfl,eb,rfl⟩
section
variable {X:Cx}{ag:List (ai×aG)}{σ:St}{H:Hp}{s:am}{a:ai}{y:V}{u:aj}{o:Option V}{A:br}{E:aj→am→Prop}
def my.big (I:my X ag σ H s):fB<s.heap.objs.size:=by
 have h:bj<s.heap.objs.size:=(I.mod.glob.keeps I.bk).lt;exact Nat.lt_trans (by decide) h
def P1{Q:aj→am→Prop}(hu:A.units+1<cLine) (I:my X ag σ H s) (g:rM H a y o) (ry:mV y u) (h:∀s',my X ag σ H s'→Q (.bool o.isSome) s') :
  av (aB X.prog X.w) A (bB .In u (.ref a)) Q E s:=by
 obtain ⟨hV,k,e,ey,l⟩ |⟨hV,k,b,e,ey,eb,l⟩:=g
 ·subst ey;obtain⟨z,hd,vs,rel,dd⟩:=H_ I.cG e;refine wpAny_in_of (DK ry) hd dd.mapOf ?_;rw[←(rel.val k).isSome_eq,←l];exact h _ (I.tok _)
 ·subst ey;cases(show u=bK b from ry);obtain⟨z,hd,xs,rel,dd⟩:=Mq I.cG e;refine wpAny_in_heap (iR hu) (BE I.cG eb) hd dd ?_;have q:=(rel.val k).isSome_eq;rw[ie]at q;rw[←q,←l];exact h _ (I.tok _)
def We{Q:aj→am→Prop}(hu:A.units+1<cLine) (I:my X ag σ H s) (g:rM H a y o) (ry:mV y u) (h:∀s',my X ag σ H s'→Q (.bool (!o.isSome)) s') :
  av (aB X.prog X.w) A (bB .NotIn u (.ref a)) Q E s:=by
 obtain ⟨hV,k,e,ey,l⟩ |⟨hV,k,b,e,ey,eb,l⟩:=g
 ·subst ey;obtain⟨z,hd,vs,rel,dd⟩:=H_ I.cG e;refine wpAny_notIn_of (DK ry) hd dd.mapOf ?_;rw[←(rel.val k).isSome_eq,←l];exact h _ (I.tok _)
 ·subst ey;cases(show u=bK b from ry);obtain⟨z,hd,xs,rel,dd⟩:=Mq I.cG e;refine wpAny_notIn_heap (iR hu) (BE I.cG eb) hd dd ?_;have q:=(rel.val k).isSome_eq;rw[ie]at q;rw[←q,←l];exact h _ (I.tok _)
end
end L2
namespace Att
open PySem PySem.W PySem.Calls PyProof.Rows
end Att
namespace L2
open PySem PySem.Spec PyProof.Rows
section
variable {prog:bh}{w:aS}{A:br}{R:Result→am→Prop}{s:am}
def YJ (I:Nat→am→Prop)
  (turn:∀n s,I n s→av (aB prog w) A (cB it) (λr s₁=>match r with
   |none=>R (.ok .next) s₁
   |some v=>av (aB prog w) A (gA target it v) (λ_ s₀=>av (aB prog w) A (assign target env v) (λ_ s₂=>
     av (aB prog w) A (forIn ifs true λc r=>if r=true then do let ok ←isTrue c env (aH c env);pure (eQ ok) else pure (eQ r)) (λok s₃=>
      if ok=true then av (aB prog w) A (aH elt env) (λx s₄=>
       av (aB prog w) A (call (.builtin "list.append") [acc,x]) (λ_ s₅=>∃m,m<n∧I m s₅) (λ_ _=>False) s₄) (λ_ _=>False) s₃
      else ∃m,m<n∧I m s₃) (λ_ _=>False) s₂) (λ_ _=>False) s₀) (λ_ _=>False) s₁) (λ_ _=>False) s)
  (n:Nat) (h:I n s) :
  ef (aB prog w) A (.compLoop (.ListComp elt [⟨target,iter,ifs,0⟩] scope pos) 0 it acc env) R s:=by
 refine codeAny_loop rfl I (λn s hI=>?_) n h;show av _ A ((compTurn (.ListComp elt [⟨target,iter,ifs,0⟩] scope pos) 0 it acc env).onRaise (λx=>do iu x env;theTreesLotGoes x)) _ _ s;refine wpAny_noted ?_;rw[compTurn_list];refine au (wpAny_standAt (au (cf (turn n s hI) (λr s₁ h₁=>?_) λ_ _ h'=>h'.elim)));cases r with
 |none=>exact aM h₁
 |some v=>
  refine au (cf h₁ (λ_ s₀ h₀=>?_) λ_ _ h'=>h'.elim);refine au (cf h₀ (λ_ s₂ h₂=>au (cf h₂ (λok s₃ h₃=>?_) λ_ _ h'=>h'.elim)) λ_ _ h'=>h'.elim);cases ok with
  |false=>exact aM ⟨rfl,h₃⟩
  |true=>
   exact au (au (cf h₃ (λx s₄ h₄=>au (cf h₄ (λ_ s₅ h₅=>aM (aM ⟨rfl,h₅⟩)) λ_ _ h'=>h'.elim)) λ_ _ h'=>h'.elim))
end
def qh (cells:List (ah×ai)):List (ah×bZ)→List (ah×ai)→List (ah×ai)
 | [],acc=>acc
 | (n,k)::r,acc=>if(k == bc)=true then qh cells r ((n,(cells.lookup n).getD 0)::acc) else qh cells r acc
def Y0 (h:∀y∈scope.names,y.2= .free→ ∃c,env.cells.lookup y.1=aa c) :
  closureFor scope env=pure (qh env.cells scope.names []):=by
 have go:∀(l:List (ah×bZ)) (acc:List (ah×ai)),(∀y∈l,y.2= .free→ ∃c,env.cells.lookup y.1=aa c)→
   (forIn l acc λ(x:ah×bZ) (cs:List (ah×ai))=>(if(x.2 == bc)=true then(do let a ←cellOf env x.1;pure (eQ ((x.1,a)::cs))) else pure (eQ cs):cg (ForInStep (List (ah×ai)))))=(pure (qh env.cells l acc):cg (List (ah×ai))):=by
  intro l
  induction l with
  |nil=>intro acc _;rfl
  |cons x l ih=>
   intro acc hl;obtain⟨n,k⟩:=x;have hr:=λy hy=>hl y (aI _ hy);rw[jp];by_cases hk:k= .free
   ·subst hk;obtain⟨c,hc⟩:=hl (n, .free) aK rfl;have hc':env.cells.lookup n=aa c:=hc;have e:cellOf env n=pure c:=by unfold cellOf;rw[hc']
    have e2:qh env.cells ((n,bc)::l) acc=qh env.cells l ((n,c)::acc):=by
     show(if(bc == bc)=true then qh env.cells l ((n,(env.cells.lookup n).getD 0)::acc) else qh env.cells l acc)=_;rw[if_pos (by rfl),hc'];rfl
    dsimp only;rw[if_pos (by rfl),e,gN,gN,e2];exact ih _ hr
   ·have hb:¬(k == bc)=true:=by simpa using hk
    have e2:qh env.cells ((n,k)::l) acc=qh env.cells l acc:=by
     show(if(k == bc)=true then qh env.cells l ((n,(env.cells.lookup n).getD 0)::acc) else qh env.cells l acc)=_;rw[if_neg hb]
    dsimp only;rw[if_neg hb,gN,e2];exact ih _ hr
 have q:=go scope.names [] h;unfold closureFor
 first
  |exact(bind_pure _).trans q
  | (simp only[bind_pure];exact q)
  | (simp only[gN,bind_assoc,bind_pure];exact q)
theorem C6:∀(l:List (ah×bZ)) (acc:List (ah×ai)),(∀y∈l,y.2= .free→ ∃c,cells.lookup y.1=aa c)→
  (qh cells l acc).lookup x=aa c→acc.lookup x=aa c∨cells.lookup x=aa c
 | [],acc,_,h=> .inl h
 | (n,k)::r,acc,hl,h=>by
  have hr:=λy hy=>hl y (aI (n,k) hy);by_cases hk:k= .free
  ·subst hk;have h':(qh cells r ((n,(cells.lookup n).getD 0)::acc)).lookup x=aa c:=h;obtain q |q:=C6 r _ hr h'
   ·rw[cu]at q;cases e:x == n with
    |true=>
     rw[e]at q;obtain⟨d,hd⟩:=hl (n, .free) aK rfl;have hd':cells.lookup n=aa d:=hd;have e1:x=n:=gG e;rw[hd']at q;have q':d=c:=aL q;exact .inr (by rw[e1,hd',q'])
    |false=>
     rw[e]at q;exact .inl q
   ·exact .inr q
  ·have hb:¬(k == bc)=true:=by simpa using hk
   have h':(if(k == bc)=true then qh cells r ((n,(cells.lookup n).getD 0)::acc) else qh cells r acc).lookup x=aa c:=h;rw[if_neg hb]at h';exact C6 r acc hr h'
theorem Bp:∀(l:List (ah×bZ)) (acc:List (ah×ai)),((x,bc)∈l∨ ∃c,acc.lookup x=aa c)→ ∃c,(qh cells l acc).lookup x=aa c
 | [],acc,h=>by
  obtain h |h:=h
  ·cases h
  ·exact h
 | (n,k)::r,acc,h=>by
  by_cases hk:k= .free
  ·subst hk;refine Bp r ((n,(cells.lookup n).getD 0)::acc) ?_;cases e:x == n with
   |true=>exact .inr ⟨_,by rw[cu,e]⟩
   |false=>
    obtain h |⟨c,h⟩:=h
    ·obtain q |q:=az.mp h
     ·have:x=n:=congrArg Prod.fst q;rw[this]at e;simp at e
     ·exact .inl q
    ·exact .inr ⟨c,by rw[cu,e];exact h⟩
  ·have hb:¬(k == bc)=true:=by simpa using hk
   show ∃c,(if(k == bc)=true then qh cells r ((n,(cells.lookup n).getD 0)::acc) else qh cells r acc).lookup x=aa c;rw[if_neg hb];refine Bp r acc ?_;obtain h |h:=h
   ·obtain q |q:=az.mp h
    ·exact absurd (congrArg jk q).symm hk
    ·exact .inl q
   ·exact .inr h
theorem CN{env:bP}{x:ah}{k:bZ}:∀{names:List (ah×bZ)},(∀y∈names,y.2≠ .cell)→
  (names.map λ(n,k)=>if(k == bc&&env.scope.kind == .function&&env.kindOf n == aa .cell) then(n,ci) else(n,k)).lookup x=aa k→(k= .cell∨k= .free)→(x,bc)∈names
 | [],_,h,_=>by simp at h
 | (n,j)::r,hc,h,hk=>by
  have h':iD x ((if(j == bc&&env.scope.kind == .function&&env.kindOf n == aa .cell)=true then(n,ci) else(n,j)) ::
   (r.map λ(n,k)=>if(k == bc&&env.scope.kind == .function&&env.kindOf n == aa .cell) then(n,ci) else(n,k)))=aa k:=h
  have hr:=λy hy=>hc y (aI (n,j) hy);have hj:j≠ .cell:=hc (n,j) aK;cases e:x == n with
  |true=>
   have e1:x=n:=gG e;subst e1;by_cases c:(j == bc&&env.scope.kind == .function&&env.kindOf x == aa .cell)=true
   ·have c1:(j == bc)=true:=by
     cases q:(j == bc) with
     |true=>rfl
     |false=>rw[q]at c;simp at c
    have c2:j= .free:=by simpa using c1
    rw[c2];exact aK
   ·rw[if_neg c]at h';simp only[cu,beq_self_eq_true]at h';have h2:j=k:=aL h';obtain z |z:=hk
    ·exact absurd (h2.trans z) hj
    ·rw[h2,z];exact aK
  |false=>
   by_cases c:(j == bc&&env.scope.kind == .function&&env.kindOf n == aa .cell)=true
   ·rw[if_pos c]at h';simp only[cu,e]at h';exact aI _ (CN hr h' hk)
   ·rw[if_neg c]at h';simp only[cu,e]at h';exact aI _ (CN hr h' hk)
theorem E0{env:bP}{x:ah}:∀{names:List (ah×bZ)},names.lookup x=aa .free→
  (names.map λ(n,k)=>if(k == bc&&env.scope.kind == .function&&env.kindOf n == aa .cell) then(n,ci) else(n,k)).lookup x=aa .cell∨
  (names.map λ(n,k)=>if(k == bc&&env.scope.kind == .function&&env.kindOf n == aa .cell) then(n,ci) else(n,k)).lookup x=aa .free
 | [],h=>by simp at h
 | (n,j)::r,h=>by
  show iD x ((if(j == bc&&env.scope.kind == .function&&env.kindOf n == aa .cell)=true then(n,ci) else(n,j)) ::
   (r.map λ(n,k)=>if(k == bc&&env.scope.kind == .function&&env.kindOf n == aa .cell) then(n,ci) else(n,k)))=_∨
   iD x ((if(j == bc&&env.scope.kind == .function&&env.kindOf n == aa .cell)=true then(n,ci) else(n,j)) ::
   (r.map λ(n,k)=>if(k == bc&&env.scope.kind == .function&&env.kindOf n == aa .cell) then(n,ci) else(n,k)))=_
  cases e:x == n with
  |true=>
   simp only[cu,e]at h;have h2:j= .free:=aL h;subst h2;by_cases c:(bc == bc&&env.scope.kind == .function&&env.kindOf n == aa .cell)=true
   ·rw[if_pos c];simp only[cu,e];exact .inl trivial
   ·rw[if_neg c];simp only[cu,e];exact .inr trivial
  |false=>
   simp only[cu,e]at h;by_cases c:(j == bc&&env.scope.kind == .function&&env.kindOf n == aa .cell)=true
   ·rw[if_pos c];simp only[cu,e];exact E0 h
   ·rw[if_neg c];simp only[cu,e];exact E0 h
def pQ (X:Cx) (scope:Scope) (N:List ah) (s:am) (H:Hp) (fp:List ai) (ag:List (ai×aG)):Cx:=
 { X with N:=N,s₀:=s,H₀:=H,env:=compEnvC scope (qh X.env.cells scope.names []) s.heap.objs.size X.env,outer:=X.stack,stack:=X.stack,ex:=fp,fn:=λ_=>false,pn:=X.pn++ag,xe:=λ_ _=>False }
structure ny (X:Cx) (scope:Scope) (N:List ah) (k:Nat) (fr:List Nat):Prop where
  kind:scope.kind= .function
  nd:N.Nodup
  len:N.length=k+fr.length
  cell:(scope.names.all λy=>y.2 != ci)=true
  loc:(scope.names.all λy=>y.2 != bZ.local || scope.names.lookup y.1 == aa bZ.local)=true
  free:(scope.names.all λy=>y.2 != bc || X.env.kindOf y.1 == aa ci || X.env.kindOf y.1 == aa bc)=true
  frs:((N.drop k).all λx=>scope.names.lookup x == aa bc)=true
  pl:N.drop k=fr.map λj=>X.N.getD j f_
  plen:(fr.all λj=>decide (j<X.N.length))=true
def wj (σ:St) (fr:List Nat):St:=fr.map λj=>(σ[j]?).join
def Av (σ:St) (k:Nat) (fr:List Nat):St:=bn k none++wj σ fr
def ny.cell' (S:ny X scope N k fr):∀y∈scope.names,y.2≠ .cell:=λy hy=>by
 have q:=cO.mp S.cell y hy;simpa using q
def ny.loc' (S:ny X scope N k fr):∀y∈scope.names,y.2= .local→scope.names.lookup y.1=aa .local:=λy hy e=>by
 have q:=cO.mp S.loc y hy;rw[e]at q;simpa using q
def ny.kinds (S:ny X scope N k fr):∀y∈scope.names,y.2= .free→X.env.kindOf y.1=aa .cell∨X.env.kindOf y.1=aa .free:=λy hy e=>by
 have q:=cO.mp S.free y hy;rw[e]at q;simpa using q
def ny.hasCell (S:ny X scope N k fr) (ok:X.Ok):∀y∈scope.names,y.2= .free→ ∃c,X.env.cells.lookup y.1=aa c:=λy hy e=>ok.has y.1 (S.kinds y hy e)
def ny.sub (S:ny X scope N k fr) (ok:X.Ok) (h:(qh X.env.cells scope.names []).lookup x=aa c):X.env.cells.lookup x=aa c:=by
 obtain q |q:=C6 scope.names [] (S.hasCell ok) h
 ·simp at q
 ·exact q
def Vc (I:my X ag σ H s) (S:ny X scope N k fr) (hfp:∀b∈fp,qI X ag H b) (hob:∀b∈fp,∃o,s.heap.get? b=aa o):(pQ X scope N s H fp ag).Ok where
  mod:=I.ok.mod
  kind:=S.kind
  glob:=I.ok.glob
  blt:=I.ok.blt
  above:=aA _
  inj:=λx y c h1 h2=>I.ok.inj x y c (S.sub I.ok h1) (S.sub I.ok h2)
  has:=λx hx=>Bp scope.names [] (.inl (by
    obtain hx |hx:=hx
    · exact CN S.cell' hx (.inl rfl)
    · exact CN S.cell' hx (.inr rfl)))
  cab:=λx c h _=>absurd h (by show ¬(false=true);decide)
  hd:=I.ok.hd
  frames:=I.ok.frames
  stk:= .inl rfl
  exf:=λb hb=>⟨by
    obtain⟨o,e⟩:=hob b hb;exact bQ (aP e),λx c h=>(hfp b hb).2.2.2.2.1 x c (S.sub I.ok h)⟩
  bs:=I.bs
  bsz:=aY I.ok.bsz I.sz
  noex:=λb o e hb=>by
    rcases(hfp b hb).2.2.2.1 with z |z
    · exact I.ok.noex b o e z
    · exact absurd (bY (aP (I.ok.bs b o e).1) z) (cJ _)
  exfs:=λb hb z=>by
    obtain q |q:=az.mp (I.stkSub b z)
    · exact(hfp b hb).2.1 q
    · exact(hfp b hb).2.2.1 q
  funs:=I.stack
  frf:=I.stkFree
def YV (I:my X ag σ H s) (S:ny X scope N k fr) (hb:b∈fp) (hf:qI X ag H b) (hob:∃o,s.heap.get? b=aa o) (hn:H' b=none):qI (pQ X scope N s H fp ag) [] H' b:=by
 refine⟨hn,?_,λz=>?_, .inl hb,λx c h=>hf.2.2.2.2.1 x c (S.sub I.ok h),λp hp=>?_⟩
 ·obtain⟨o,e⟩:=hob;exact bQ (aP e)
 ·obtain q |q:=az.mp (I.stkSub b z)
  ·exact hf.2.1 q
  ·exact hf.2.2.1 q
 ·obtain z |z:=bp.mp hp
  ·exact hf.2.2.2.2.2 p z
  ·cases z
def Tq{j:Nat}{v:V}(h:(wj σ fr)[j]? =aa (aa v)):∃i,fr[j]? =aa i∧σ[i]? =aa (aa v):=by
 unfold wj at h;rw[aU]at h;cases e:fr[j]? with
 |none=>rw[e]at h;cases h
 |some i=>
  rw[e]at h;have h':(σ[i]?).join=aa v:=aL h;refine⟨i,rfl,?_⟩;cases q:σ[i]? with
  |none=>rw[q]at h';cases h'
  |some o=>
   rw[q]at h';have h2:o=aa v:=h';rw[h2]
def YS (I:my X ag σ H s) (S:ny X scope N k fr) (hfp:∀b∈fp,qI X ag H b) (hob:∀b∈fp,∃o,s.heap.get? b=aa o) {h1:aE}{tk:Nat}{m:ah→Option aj}
    (hns:h1.Ns s.heap.objs.size m) (hk:∀b o,s.heap.get? b=aa o→h1.get? b=aa o):my (pQ X scope N s H fp ag) [] (Av σ k fr) H { s with heap:=h1,toks:=tk } where
  ok:=Vc I S hfp hob
  os:=rfl
  bare:=I.bare
  base:=Un.kept hk
  loc:=⟨m,hns,λi x v e1 e2 e3=>by
    have e2':(bn k (none:Option V)++wj σ fr)[i]? =aa (aa v):=e2;have hi:k≤i:=by
      refine lN λz=>?_;rw[lJ (by simpa using z),kD]at e2';split at e2'<;>cases e2'
    rw[jh (by simpa using hi),jG]at e2';obtain⟨j,f1,f2⟩:=Tq e2';have e1':N[i]? =aa x:=e1;have d1:(N.drop k)[i - k]? =aa x:=by
      rw[mi];have:k+(i - k)=i:=by lia
      rw[this];exact e1'
    have d2:=d1;rw[S.pl,aU,f1]at d2;have d3:X.N.getD j f_=x:=aL d2;have jl:j<X.N.length:=of_decide_eq_true (cO.mp S.plen j (aJ f1));have d4:X.N[j]? =aa x:=by
      rw[bv,aR jl]at d3;rw[aR jl];exact congrArg aa d3
    have fk:scope.names.lookup x=aa .free:=by
      have q:=cO.mp S.frs x (aJ d1);simpa using q
    have hmem:(x,bc)∈scope.names:=eW fk;have kd:=S.kinds _ hmem rfl;have vis:wo X.env.scope x:=by
      obtain z |z:=kd
      · exact .inr (.inl z)
      · exact .inr (.inr z)
    obtain⟨m0,_,hl⟩:=I.loc;obtain⟨u,ru,lk⟩:=hl j x v d4 f2 vis;refine⟨u,ru, .inr ⟨E0 fk,?_⟩⟩;have kd':X.env.kindOf x=aa .cell∨X.env.kindOf x=aa .free:=kd;obtain ⟨z,_⟩ |⟨_,c,hc,hcell⟩:=lk
    · rcases kd' with q |q<;>(rw[z]at q;cases q)
    · obtain⟨c',hc'⟩:=Bp (cells:=X.env.cells) scope.names [] (.inl hmem);have e:=S.sub I.ok hc';rw[hc]at e;cases e;exact⟨c,hc',hcell.keeps hk⟩⟩
  cell:=λx c h=>by
    obtain⟨v,z⟩:=I.cell x c (S.sub I.ok h);exact⟨v,z.keeps hk⟩
  free:=I.cG.fresh (aA _)
  freeC:=λx c h=>I.freeC x c (S.sub I.ok h)
  pin:=λp hp=>by
    have hp':p∈X.pn++ag:=by
      obtain z |z:=bp.mp hp
      · exact z
      · cases z
    obtain⟨e,n,ne,nf,d⟩:=I.pin p hp';refine⟨hk _ _ e,n,bQ (aP e),λz=>?_,d⟩;obtain q |q:=az.mp (I.stkSub p.1 z)
    · exact ne q
    · exact nf q
  cG:=I.cG.kept hk
  len:=by
    show(bn k (none:Option V)++wj σ fr).length=N.length;rw[a_,jG,S.len];unfold wj;rw[ay]
def Og (I:my X ag σ H s) (hfp:∀b∈fp,qI X ag H b) (J:my (pQ X scope N s H fp ag) [] σ' H' s') (sb:cQ s.heap.objs.size s'.heap h'):my X ag σ H' { s' with heap:=h' }:=by
 have neC:∀b o,s.heap.get? b=aa o→b≠s.heap.objs.size:=λb o e=>bQ (aP e);have frC:H' s.heap.objs.size=none:=J.free;refine my.call' (s':={ s' with heap:=h' }) (ch:=fp) I J.os ⟨λb o e n hf hx=>?_,λb o e n hf hx=>?_,λb o e n hx=>J.base.free b o e n hx,λb o e hx=>?_,J.base.tups,J.base.frzs,J.base.tbls⟩ (λb o e=>?_) J.bare λb hb=>⟨(hfp b hb).2.2.2.1,(hfp b hb).2.1,(hfp b hb).2.2.2.2.1,(hfp b hb).2.2.2.2.2⟩
 ·exact(sb.2 b (neC b o e)).trans (J.base.keep b o e n hf hx)
 ·obtain⟨sl,q⟩:=J.base.slot b o e n hf hx;exact⟨sl,(sb.2 b (neC b o e)).trans q⟩
 ·obtain⟨o',q⟩:=J.base.there b o e hx;exact⟨o',(sb.2 b (neC b o e)).trans q⟩
 ·refine(J.cG b o e).stay (λc v hc q=>(sb.2 c ?_).trans q) (λ_ q=>q) λ_ _ q=>q;rintro rfl;obtain rfl |hc:=hc
  ·rw[frC]at e;cases e
  ·rw[frC]at hc;cases hc
def Cw (X:Cx) (ifs:List Expr) (t:TT):Prop:=
 ∀(ag:List (ai×aG)) (s:am) (σ:St) (H:Hp) (Q:Bool→Hp→Prop),my X ag σ H s→t σ H Q→
  av (aB X.prog X.w) X.A (forIn ifs true λc r=>if r=true then do let ok ←isTrue c X.env (aH c X.env);pure (eQ ok) else pure (eQ r)) (TP X ag σ Q) X.xe s
def QP:TT:=λ_ H Q=>Q true H
def Xi:Cw X [] QP:=λ_ _ _ H _ I h=>wpAny_tests_nil ⟨H,I,h⟩
def YH (h:PT X c t):Cw X [c] t:=λag s σ H Q I q=>wpAny_tests_one (h ag s σ H Q I q)
def Xy (X:Cx) (scope:Scope) (N:List ah) (tg:Expr) (ifs:List Expr) (elt:Expr) (l:ai) (x:V) (σ:St) (H:Hp) (M:St→Hp→Prop):Prop:=
 ∀(s₀:am) (H₀:Hp) (fp:List ai) (pn:List (ai×aG)),∃(g:TG) (tt:TT) (te:TE),PG (pQ X scope N s₀ H₀ fp pn) tg g∧Cw (pQ X scope N s₀ H₀ fp pn) ifs tt∧PE (pQ X scope N s₀ H₀ fp pn) elt te∧
  g x σ H λσ2 H2=>tt σ2 H2 λb H3=>if b=true then te σ2 H3 λy H4=>∃ys,H4 l=aa (.bO ys)∧ys.length<sizeLine∧M σ2 (nH H4 l (.bO (ys++[y]))) else M σ2 H3
def Qj (X:Cx) (scope:Scope) (N:List ah) (k:Nat) (fr:List Nat) (tg:Expr) (ifs:List Expr) (elt:Expr) (σ:St) (Q:VK) (J:It) (H1:Hp):Prop:=∀l,H1 l=none→
 ∃W:Nat→Nat→St→Hp→Prop,(∃m,W 0 m (Av σ k fr) (nH H1 l (.bO [])))∧ ∀i m σ' H',W i m σ' H'→
  (J.stop i H'∧Q (.ref l) H')∨(J.go i H'∧ ∃M:St→Hp→Prop,(∀σ'' H'',M σ'' H''→ ∃m',m'<m∧W (i+1) m' σ'' H'')∧ ∀x H2,J.yld i H' x H2→Xy X scope N tg ifs elt l x σ' H2 M)
def AF (X:Cx) (scope:Scope) (N:List ah) (k:Nat) (fr:List Nat) (tg:Expr) (ifs:List Expr) (elt:Expr) (wi:TI):TE:=λσ H Q=>wi σ H λJ H1=>Qj X scope N k fr tg ifs elt σ Q J H1
def M1{use:Option (aj→cg Unit)}{Qf:aj→am→Prop}(hx:X.xe=λ_ _=>False) (hc:X.calm=true) (S:ny X scope N k fr) (hi:PI X tg iter wi) (I:my X ag σ H s)
  (fin:∀{s3 s6:am}{H3 H5:Hp}{fp:List ai}{σ5:St}{l:ai}{a:Flow},my X ag σ H3 s3→(∀b∈fp,qI X ag H3 b)→my (pQ X scope N s3 H3 fp ag) [] σ5 H5 s6→Q (.ref l) H5→compPost (aB X.prog X.w) X.A X.xe use Qf (.ref l) s3.heap.objs.size (.ok a) s6)
  (h:AF X scope N k fr tg ifs elt wi σ H Q)
  (hs:∀x,dA iter X.env x=pure x:=by intro _;rfl):av (aB X.prog X.w) X.A (comprehension (.ListComp elt [⟨tg,iter,ifs,0⟩] scope pos) scope X.env (firstIterPos [⟨tg,iter,ifs,0⟩] pos) (newList []) (firstAsync [⟨tg,iter,ifs,0⟩]) (firstIter [⟨tg,iter,ifs,0⟩] X.env) use) Qf X.xe s:=by
 refine wpAny_comprehension_free (use:=use) rfl hs (Y0 (S.hasCell I.ok)) S.kind S.loc' (nD (hi ag s σ H _ I h) λv s1 h1=>nD h1 λitv s2 h2=>?_);obtain⟨it,fp,tn,J,H2,e,I2,T,st2,f2,h2⟩:=h2;subst e;have fr2:H2 s2.heap.objs.size=none:=I2.cG.fresh (aA _);obtain⟨W,⟨m0,w0⟩,turn⟩:=h2 s2.heap.objs.size fr2;refine wpAny_newList ?_ (by show 0≤sizeLine;exact aO _);have I3:my X ag σ (nH H2 s2.heap.objs.size (.bO [])) { s2 with heap:=s2.heap.push { cls:= .type "list",data:= .seq ([]:List aj).toArray } }:=I2.lnew (t':=s2.toks) (ys:=[]) .nil (aO _);have old:∀b o,s2.heap.get? b=aa o→(s2.heap.push { cls:= .type "list",data:= .seq ([]:List aj).toArray }).get? b=aa o:=λb o e=>aQ _ e;have fpo2:∀b∈fp,∃o,s2.heap.get? b=aa o:=λb hb=>by
  obtain⟨o,e,_⟩:=T.obj _ _ st2 b hb;exact⟨o,e⟩
 have fpo:∀b∈fp,∃o,(s2.heap.push { cls:= .type "list",data:= .seq ([]:List aj).toArray }).get? b=aa o:=λb hb=>by
  obtain⟨o,e⟩:=fpo2 b hb;exact⟨o,old b o e⟩
 have f3:∀b∈fp,qI X ag (nH H2 s2.heap.objs.size (.bO [])) b:=λb hb=>by
  obtain⟨o,e⟩:=fpo2 b hb;refine⟨?_,(f2 b hb).2⟩;rw[og (bQ (aP e))];exact(f2 b hb).1
 generalize hs3:({ s2 with heap:=s2.heap.push { cls:= .type "list",data:= .seq ([]:List aj).toArray } }:am)=s3 at I3⊢;have st3:tn 0 s3.heap:=by
  rw[←hs3];exact T.keep _ _ _ st2 λb _ o e=>old b o e
 have fpo3:∀b∈fp,∃o,s3.heap.get? b=aa o:=by rw[←hs3];exact fpo
 clear fpo old hs3;refine wpAny_newFunctionEnv S.cell' (by intro y hy;simp at hy) (λh1 hns1 hsb1=>?_) S.kind;have hk1:∀b o,s3.heap.get? b=aa o→h1.get? b=aa o:=λb o e=>hsb1.extBut b o (bQ (aP e)) (aQ _ e);have I4:=YS (tk:=s3.toks+([]:List (ah×aj)).length) I3 S f3 fpo3 hns1 hk1;have st4:tn 0 h1:=T.keep _ _ _ st3 λb _ o e=>hk1 b o e;have stat:∀{H':Hp},(∀b∈fp,H' b=none)→ ∀b∈fp,qI (pQ X scope N s3 (nH H2 s2.heap.objs.size (.bO [])) fp ag) [] H' b:=λhn b hb=>YV I3 S hb (f3 b hb) (fpo3 b hb) (hn b hb);have loop:∀s4:am,s4={ s3 with heap:=h1,toks:=s3.toks+([]:List (ah×aj)).length }→
   ef (aB X.prog X.w) X.A (.compLoop (.ListComp elt [⟨tg,iter,ifs,0⟩] scope pos) 0 (.ref it) (.ref s2.heap.objs.size) (compEnvC scope (qh X.env.cells scope.names []) s3.heap.objs.size X.env))
    (compPost (aB X.prog X.w) X.A X.xe use Qf (.ref s2.heap.objs.size) s3.heap.objs.size) s4:=by
  rintro s4 rfl;refine YJ (λn s'=>∃i σ' H',my (pQ X scope N s3 (nH H2 s2.heap.objs.size (.bO [])) fp ag) [] σ' H' s'∧tn i s'.heap∧(∀b∈fp,H' b=none)∧W i n σ' H') ?_ m0 ⟨0,_,_,I4,st4,λb hb=>(f3 b hb).1,w0⟩;rintro n s5 ⟨i,σ5,H5,I5,st5,fr5,w5⟩;obtain ⟨stop,qn⟩ |⟨go,M,hM,step⟩:=turn i n σ5 H5 w5
  ·refine nD (T.done (pQ X scope N s3 (nH H2 s2.heap.objs.size (.bO [])) fp ag) rfl rfl rfl hc i [] s5 σ5 H5 _ I5 (stat fr5) st5 stop) λr s6 ⟨hr,I6⟩=>?_;subst hr;exact fin I3 f3 I6 qn
  ·refine nD (T.item (pQ X scope N s3 (nH H2 s2.heap.objs.size (.bO [])) fp ag) rfl rfl rfl hc i [] s5 σ5 H5 _ I5 (stat fr5) st5 go) λr s6 ⟨u,hr,h6⟩=>?_;subst hr;refine nD h6 λ_ s7 ⟨x,H7,I7,r7,y7,st7,fr7⟩=>?_;have I7':=I7.pinned (stat fr7) (T.obj _ _ st7);obtain⟨g,tt,te,hg,ht,he,q⟩:=step x H7 y7 s3 (nH H2 s2.heap.objs.size (.bO [])) fp ag;have again:∀{s8:am}{σ8:St}{H8:Hp},my (pQ X scope N s3 (nH H2 s2.heap.objs.size (.bO [])) fp ag) ([]++yM fp s7.heap) σ8 H8 s8→M σ8 H8→
     ∃m,m<n∧ ∃i σ' H',my (pQ X scope N s3 (nH H2 s2.heap.objs.size (.bO [])) fp ag) [] σ' H' s8∧tn i s8.heap∧(∀b∈fp,H' b=none)∧W i m σ' H':=λ{s8 σ8 H8} I8 n8=>by
    obtain⟨m',hm,w8⟩:=hM σ8 H8 n8;refine⟨m',hm,i+1,σ8,H8,I8.unpinned,T.keep _ _ _ st7 λb hb o e=>(I8.pin (b,o) (cp _ (cp _ (CK hb e)))).1,λb hb=>?_,w8⟩;obtain⟨o,e,d⟩:=T.obj _ _ st7 b hb;exact(I8.pin (b,o) (cp _ (cp _ (CK hb e)))).2.1
   refine nD (hg _ s7 σ5 H7 x u _ I7' r7 q) λ_ s8 ⟨σ8,H8,I8,q8⟩=>?_;refine nD (ht _ s8 σ8 H8 _ I8 q8) λb s9 ⟨H9,I9,q9⟩=>?_;cases b with
   |false=>exact again I9 q9
   |true=>
    refine nD (he _ s9 σ8 H9 _ I9 q9) λy s10 ⟨yv,H10,I10,r10,ys,hl,hz,qM⟩=>?_;exact nD (HW _ s10 σ8 H10 (.ref s2.heap.objs.size) [yv] (.ref s2.heap.objs.size) [y] (λ_ H'=>M σ8 H') I10 rfl (.cons r10 .nil) ⟨_,ys,yv,rfl,rfl,hl,hz,qM⟩) λ_ s11 ⟨_,H11,I11,_,q11⟩=>again I11 q11
 exact codeAny_compStart_list (loop _ rfl) (T.self _ 0 _ _ _ st4 (loop _ rfl))
def Xp (hx:X.xe=λ_ _=>False) (hc:X.calm=true) (S:ny X scope N k fr) (hi:PI X tg iter wi)
  (hs:∀x,dA iter X.env x=pure x:=by intro _;rfl):PE X (.ListComp elt [⟨tg,iter,ifs,0⟩] scope pos) (AF X scope N k fr tg ifs elt wi):=by
 intro ag s σ H Q I h;rw[eval_ListComp];refine M1 hx hc S hi I (λ{s3 s6 H3 H5 fp σ5 l a} I3 f3 I6 qn=>?_) h hs;obtain⟨m6,ns6,_⟩:=I6.loc;exact⟨m6,ns6,λh' sb=>⟨.ref l,H5,Og I3 f3 I6 sb,rfl,qn⟩⟩
def U4 (hx:X.xe=λ_ _=>False) (hc:X.calm=true) (S:ny X scope N k fr) (hi:PI X tg iter wi)
  (hN:X.N.Nodup) (hxi:X.N[i]? =aa x) (hxl:tp X.env.scope x) (hw:d6 (.ListComp elt [⟨tg,iter,ifs,0⟩] scope pos) (aa (.Name x pos')) spos.line X.env=pure true) (hf:X.fn x=true∨X.env.scope.names.lookup x=aa .local)
  (hs:∀x,dA iter X.env x=pure x:=by intro _;rfl):PS X (.Assign [.Name x pos'] (.ListComp elt [⟨tg,iter,ifs,0⟩] scope pos) spos) (Fv (AF X scope N k fr tg ifs elt wi) (C1 i)):=by
 intro ag s σ H D I h;rw[exec_Assign_Name_used x pos' _ spos hw];refine au (wpAny_standAt (au ?_));rw[arm_evalThenUse_ListComp];refine au ?_;refine M1 (Qf:=λ_ s'=>av (aB X.prog X.w) X.A (pure ()) (λ_ s2=>av (aB X.prog X.w) X.A (pure Flow.next) (SP X ag D) X.xe s2) X.xe s') hx hc S hi I (λ{s3 s6 H3 H5 fp σ5 l a} I3 f3 I6 qn=>?_) h hs;have IX:my X ag σ H5 s6:=Og (h':=s6.heap) I3 f3 I6 ⟨rfl,λ_ _=>rfl⟩;obtain⟨m6,ns6,_⟩:=I6.loc;have ns6:s6.heap.Ns s3.heap.objs.size m6:=ns6;have frC:H5 s3.heap.objs.size=none:=I6.free;have fC:qI X ag H5 s3.heap.objs.size:=I3.fpOk (aA _) frC;refine lC (II IX hN hxi hxl (v:= .ref l) rfl (λs7 I7 ⟨b,sb,hb⟩=>?_) hf);have hbC:s3.heap.objs.size≠b:=by
  obtain rfl |hb:=hb
  ·exact fC.2.1
  ·exact bz (fC.2.2.2.2.1 _ _ hb)
 refine⟨m6,ns6.sameBut sb hbC,λh' sb2=>aM (aM ⟨_,H5,?_,qn⟩)⟩;refine my.call' (s':={ s7 with heap:=h' }) (ch:=[s3.heap.objs.size]) I7 rfl ⟨λc o e n hfs hex=>?_,λc o e n hfs hex=>?_,λc o e n _=>n,λc o e hex=>?_,λ_ _ q=>q,λ_ _ _ q=>q,λ_ ps q=>⟨#[],by simpa using q⟩⟩ (λc o e=>?_) I7.bare λc hcm=>?_
 ·exact(sb2.2 c (λz=>hex (by simp [z]))).trans e
 ·exact⟨o.slots,(sb2.2 c (λz=>hex (by simp [z]))).trans e⟩
 ·exact⟨o,(sb2.2 c (λz=>hex (by simp [z]))).trans e⟩
 ·refine(I7.cG c o e).stay (λd v hd q=>(sb2.2 d ?_).trans q) (λ_ q=>q) λ_ _ q=>q;rintro rfl;obtain rfl |hd:=hd
  ·rw[frC]at e;cases e
  ·rw[frC]at hd;cases hd
 ·rw[bi.mp hcm];exact⟨fC.2.2.2.1,fC.2.1,fC.2.2.2.2.1,fC.2.2.2.2.2⟩
def Dc (x:ah):It:=⟨λi _=>i<x.cps.size,λi H v H'=>H'=H∧ ∃c,x.cps[i]? =aa c∧v= .str ⟨#[c]⟩,λi _=>i=x.cps.size⟩
def KA{P:bh}{w:aS}{K:ao}{tg:Expr}(it:ai) (x:ah) (t:Tok) (ty:String)
    (hn: ["enumerate", "zip", "dict_itemiterator", "dict_reverseitemiterator", "odict_iterator", "itertools.zip_longest", "itertools.pairwise"].contains ty=false)
    (hW:∀A':br,A'.handled=none→Walks P w A' it [it] [it] x.cps.size (SignAt x) (λi h=>h.IsStrIter it ty x t i))
    (hself:∀(A:br) (i:Nat) (s:am) (Q:aj→am→Prop) (E:aj→am→Prop),s.heap.IsStrIter it ty x t i→Q (.ref it) s→av (aB P w) A (dR (.ref it)) Q E s) :
    rC P w K tg (Dc x) [it] it (λi h=>h.IsStrIter it ty x t i) where
  mem:=by simp
  obj:=λi h st b hb=>by
    have e:b=it:=by simpa using hb
    subst e;obtain⟨o,e,c,d⟩:=st;exact⟨o,e,λv z=>by rw[d]at z;cases z⟩
  keep:=λi h h' st k=>by
    obtain⟨o,e,r⟩:=st;exact⟨o,k it (by simp) o e,r⟩
  item:=by
    intro X hP hw hK hc i ag s σ H E I hf st hg;subst hP hw hK;obtain⟨f0,f1,f2,f3,f4,f5⟩:=hf it (by simp);refine(hW X.A (I.ok.hd hc)).item i s _ _ hg st λv h' tk hv st' kk=>?_;obtain⟨c,u,hc',rfl⟩:=hv;have I1:my X ag σ H { s with heap:=h',toks:=tk }:=I.turned (λb o hb e=>kk b o (by simpa using hb) e) f0 f1 f3 f4 f5;obtain⟨o,e,c',d⟩:=id st';exact⟨_,rfl,Bv (s:={ s with heap:=h',toks:=tk }) e c' d hn ⟨.str ⟨#[c]⟩,H,I1,⟨u,rfl⟩,⟨rfl,c,hc',rfl⟩,st',λb hb=>(hf b hb).1⟩⟩
  done:=by
    intro X hP hw hK hc i ag s σ H E I hf st hg;subst hP hw hK;obtain⟨f0,f1,f2,f3,f4,f5⟩:=hf it (by simp);have hi:i=x.cps.size:=hg;subst hi;exact(hW X.A (I.ok.hd hc)).done s _ _ st λh' tk kk=>⟨rfl,I.turned (λb o hb e=>kk b o (by simpa using hb) e) f0 f1 f3 f4 f5⟩
  self:=hself
def FF:n_ X (bB .LtE) (λx y H Q=>∃i j,x= .str i∧y= .str j∧Q (.bl (!decide (j.cps.toList<i.cps.toList))) H):=by
 intro ag s σ H x y v u Q I rx ry h;obtain⟨i,j,rfl,rfl,q⟩:=h;obtain⟨t,rfl⟩:=rx;obtain⟨t',rfl⟩:=ry;exact PySem.P.le_str (xX I q rfl)
def BB (a b:Nat):(([a]:List Nat)< [b])↔a<b:=by
 rw[List.cons_lt_cons_iff];constructor
 ·rintro(h |⟨_,h⟩)
  ·exact h
  ·exact absurd h (List.lt_irrefl _)
 ·exact .inl
def EV:V→Option Int→Option Int→Hp→VK→Prop:=λx lo hi H Q=>∃z,x= .str z∧z.length≤sizeLine∧Q (.str (cW z lo hi)) H
def ww:uC X EV:=by
 intro ag s σ H x v vl vu lo hi sl Q I rx hs pl pu h;obtain⟨z,rfl,hz,q⟩:=h;obtain⟨t,rfl⟩:=rx;refine⟨"str",_,F.slot_str_getitem.lookup,ja _ _ _,?_⟩;obtain⟨o,ho,hc,hd⟩:=hs;have fin:∀t' k,EP X ag σ Q (.str (cW z lo hi) t') { s with toks:=k }:=λt' k=>⟨.str _,H,I.tok _,⟨t',rfl⟩,q⟩;have le:=aY (Txt.slice_le z lo hi) hz;cases pl with
 |none=>
  cases pu with
  |none=>exact gC (l:=none) (u:=none) (st:=none) ⟨o,ho,hc,hd⟩ rfl (ic ⟨le,fin⟩)
  |int j u=>exact gC (l:=none) (u:=aa (j,u)) (st:=none) ⟨o,ho,hc,hd⟩ rfl (ic ⟨le,fin⟩)
 |int i w=>
  cases pu with
  |none=>exact gC (l:=aa (i,w)) (u:=none) (st:=none) ⟨o,ho,hc,hd⟩ rfl (ic ⟨le,fin⟩)
  |int j u=>exact gC (l:=aa (i,w)) (u:=aa (j,u)) (st:=none) ⟨o,ho,hc,hd⟩ rfl (ic ⟨le,fin⟩)
def Bg (xs:List Nat) (lo hi:Option Int):List Nat:=(xs.drop (HT.sIx xs.length 0 lo)).take (HT.sIx xs.length xs.length hi - HT.sIx xs.length 0 lo)
def L1 (lo hi:Option Int) (n:Nat):hU lo hi 1 n=sliceRange ((HT.sIx n 0 lo:Nat):Int) ((HT.sIx n n hi:Nat):Int) 1:=by
 have one:(1:Int) > 0:=by decide
 have a:∀(v:Option Int) (d:Nat),(match v with |none=>(d:Int) |some i=>(if(1:Int) > 0 then max 0 (min (if i<0 then i+(n:Int) else i) (n:Int)) else max (-1) (min (if i<0 then i+(n:Int) else i) ((n:Int) - 1))))=((HT.sIx n d v:Nat):Int):=by
  intro v d;cases v with
  |none=>rfl
  |some i=>
   simp only[HT.sIx,one,if_true];by_cases h:i<0
   ·simp only[h,if_true];lia
   ·simp only[h,if_false];lia
 have l:=a lo 0;have u:=a hi n;unfold hU;simp only[one,if_true]at l u⊢
 first
  |rw[l,u]
  | (cases lo<;>cases hi<;>simp_all)
def Pa (z:ah) (lo hi:Option Int):(cW z lo hi).cps.toList=Bg z.cps.toList lo hi:=by
 have hn:z.length=z.cps.toList.length:=by simp [iJ]
 have hp:(hU lo hi 1 z.length).filterMap (z.cps[·]?)=Bg z.cps.toList lo hi:=by
  rw[L1,iP,jF,hn];rfl
 unfold cW;split
 ·rename_i h;have h1:(hU lo hi 1 z.length).length=z.length:=by simpa using h
  rw[L1,iP,ay,kz]at h1;have le1:=HT.sIx_le z.length z.length (aA _) hi;unfold Bg;rw[←hn];have e0:HT.sIx z.length 0 lo=0∨z.length=0:=by lia
  have hz:z.cps.toList.length=z.length:=hn.symm;obtain e0 |e0:=e0
  ·rw[e0,dS,dD (by lia)]
  ·have:z.cps.toList=[]:=kB (by lia);rw[this];simp
 ·show(List.filterMap _ _).toArray.toList=_;rw[hp]
def U0 (hc:X.calm=true):nL X (.builtin "all") (λxs H Q=>∃(p:ai) (bs:List Bool),xs=[.ref p]∧oE X.K H p (bs.map V.bl)∧Q (.bl (bs.all id)) H):=by
 intro ag s σ H xs us Q I r h;obtain⟨p,bs,rfl,hq,q⟩:=h;obtain⟨u,rfl,rx⟩:=ub r;cases rx;obtain⟨eA,r',pl,hz⟩:=I.list hq;have hlen:bs.length=eA.length:=by have:=r'.length;rw[ay]at this;exact this
 have hp:p<s.heap.objs.size:=by obtain⟨o,n,e,_⟩:=pl;exact aP e
 have hd:X.A.in1.handled=none:=I.ok.hd hc;have get:∀(i:Nat) (v:aj),eA.toArray[i]? =aa v→v= .bool (bs.getD i false):=λi v e=>by
  have e':eA[i]? =aa v:=by simpa using e
  have hi:i<bs.length:=by rw[hlen];exact(b7.mp e').1
  obtain⟨u,hu,ru⟩:=r'.get (i:=i) (x:= .bl (bs.getD i false)) (by rw[aU,aR hi,bv,aR hi];rfl);rw[e']at hu;cases hu;exact ru
 refine call_all_walk (fi pl.isList ?_);refine⟨s.heap.objs.size,_,_,_,_,_,λi=>bs.getD i false,rfl,jj hd _ p (bQ hp) eA.toArray,⟨⟨_,bI _ rfl,rfl,rfl⟩,pl.isList.push _⟩,λi v s' Q' E' hP hQ=>?_,λh' tk hk=>?_⟩
 ·rw[get i v hP];exact eH hQ
 ·have e:(bx eA.toArray.size).all (λi=>bs.getD i false)=bs.all id:=by
   rw[bf,←hlen];have:bs=(bx bs.length).map λi=>bs.getD i false:=by
    apply j4;intro i;rw[aU];by_cases hi:i<bs.length
    ·rw[fN hi,aR hi];show aa bs[i]=aa (bs.getD i false);rw[bv,aR hi];rfl
    ·rw[jq (by lia),jq (by simpa using hi)];rfl
   conv=>rhs;rw[this]
   rw[fA];rfl
  have I1:my X ag σ H { s with heap:=h',toks:=tk }:=I.kept λb o e=>hk b o (λz=>by
   have z':b=s.heap.objs.size:=by simpa using z
   rw[z']at e;exact absurd (aP e) (cJ _)) (aQ _ e)
  exact⟨.bl _,H,I1,by rw[e];exact rfl,q⟩
def Q5:nL X (.builtin "isinstance") (λxs H Q=>∃x t c b,xs=[x, .ty c]∧o7 X.K H x t∧fP X.K t (.type c)=aa b∧Q (.bl b) H):=by
 intro ag s σ H xs us Q I r h;obtain⟨x,t,c,b,rfl,ty,e,q⟩:=h;obtain⟨u,v,rfl,rx,ry⟩:=MI r;cases(show v=jC c from ry);exact VN I rx ty e λtk=>⟨.bl b,H,I.tok _,rfl,q⟩
def Ze (l:ai) (items:Array aj) (n:Nat) (b:ai) (items2:Array aj) (n2:Nat) (dd:Option ai) (sl:Array (Option aj)) (hs0:¬(!items.isEmpty&&fv (items.size+items2.size))=true) (hs1:items.size≤sizeLine) (hs2:items.size+items2.size≤sizeLine+1) :
  Meets (cC.«list.extend» ⟨[.ref l, .ref b],[]⟩) (λ_ R s=>s.heap.get? l=aa { cls:= .type "list",dict:=none,data:= .seq items n,slots:= #[] }∧s.heap.get? b=aa { cls:= .type "tuple",dict:=dd,data:= .seq items2 n2,slots:=sl }∧R (.ok (.ret cP)) { s with heap:=s.heap.update l (jg λx=>x++items2),toks:=s.toks }):=
 .of_wp λprog w A R s h=>by
  obtain⟨hp,g,d,tk,os⟩:=s;obtain⟨hl,hb,h⟩:=h;have f1:=AutoSeq1.idx_int;have f2:=AutoSeq1.sub_tuple_tuple;have f3:=AutoSeq1.sub_list_list;have f4:=AutoSeq1.sub_tuple_list;have f5:=AutoSeq1.sub_list_tuple;have hz':(items++items2).size≤sizeLine+1:=by rw[Array.size_append];exact hs2
  wp_walk using(wpAny_updateSeq hl rfl (hz:=hs1) (_hz':=hz')),lS hl,lS hb;exact⟨_,rfl,h⟩
def MP (K:ao):V→List V→Hp→VK→Prop:=λx vs H Q=>∃l b xs zs,x= .ref l∧vs=[.ref b]∧H l=aa (.bO xs)∧oX K H b zs∧xs.length+zs.length≤sizeLine∧Q .cc (nH H l (.bO (xs++zs)))
def XE:Bb X "list.extend" (MP X.K):=by
 intro ag s σ H x vs v us Q I rx rv h;obtain⟨l,b,xs,zs,rfl,rfl,hH,hB,hz,q⟩:=h;cases rx;obtain⟨u,rfl,ru⟩:=rv.one;cases ru;obtain⟨z,eA,n,r,hl,e⟩:=I.lstM hH;obtain⟨its2,r2,ht,hz2⟩:=I.tuple hB;obtain⟨⟨cls,dd,data,sl⟩,e2,hc,n2,hd⟩:=ht;simp only at hc hd;subst hc hd;have hl2:=r2.length;have hsz:eA.toArray.size+its2.toArray.size≤sizeLine:=by rw[bf,bf];lia
 have hlong:¬(!eA.toArray.isEmpty&&fv (eA.toArray.size+its2.toArray.size))=true:=by
  rw[D7 hsz,gb];exact cV
 refine eU lq ⟨_,e,rfl⟩ lM (lQ _ _)
  (Ze l eA.toArray n b its2.toArray n2 dd sl hlong (by rw[bf];lia) (by lia)) ⟨e,e2,?_⟩
 refine⟨.cc,_,I.lset (its':=eA++its2) hH e (by simp) (r.append r2) ?_,rfl,q⟩;rw[a_];lia
def KR (K:ao):V→List V→Hp→VK→Prop:=λx vs H Q=>∃(z:ah) (b:ai) (ys:List ah),x= .str z∧vs=[.ref b]∧oE K H b (ys.map V.str)∧(ys.map (·.length)).sum+ys.length*z.length≤16777216∧Q (.str (dq z ys)) H
def RW:∀{us:List aj},mM (ys.map V.str) us→StrsAre us ys:=by
 induction ys with
 |nil=>
  intro us r;cases r;exact .nil
 |cons y ys ih=>
  intro us r;cases r with
  |cons a b=>
   obtain⟨t,rfl⟩:=a;exact .cons y t (ih b)
def Xl:Bb X "str.join" (KR X.K):=by
 intro ag s σ H x vs v us Q I rx rv h;obtain⟨z,b,ys,rfl,rfl,hB,hz,q⟩:=h;obtain⟨t,rfl⟩:=rx;obtain⟨u,rfl,ru⟩:=rv.one;cases ru;obtain⟨eA,r,pl,_⟩:=I.list hB;refine join_list pl.isList (by simpa using RW r) hz λt' k=>⟨.str (dq z ys),H,I.tok _,⟨t',?_⟩,q⟩;show fU (cC.Str.glued z ys) t'=_;rw[StrLaws.glued_eq_join]
inductive W where
  |cc |bl (b:Bool) |int (i:Int) |str (x:ah) |bW (ws:List W) |ref (a:ai) |c6 (ns:List Int)
inductive Ob where
  |bO (ws:List W)
  |dct (hV:List (List Int×W))
  |dk (hV:List (Key×W))
  |ins (cl:ah) (fs:List (ah×W))
abbrev li:=ai→Option Ob
def bR (S:li) (a:ai) (o:Ob):li:=λb=>if b=a then aa o else S b
def xJ (K:ao) (H:Hp) (a:ai) (xs:List V):Prop:=
 (∃o,H a=aa (.frz o (.bO xs)))∨
  ∃(o:aG) (eA:Array aj) (n:Nat),K.lookup a=aa o∧o.cls= .type "list" ∧o.dict=none∧o.data= .seq eA n∧eA.size≤sizeLine∧mM xs eA.toList
mutual
inductive nK (K:ao) (H:Hp):W→V→Prop
 |cc:nK K H .cc .cc
 |bl (b:Bool):nK K H (.bl b) (.bl b)
 |int (i:Int):nK K H (.int i) (.int i)
 |str (x:ah):nK K H (.str x) (.str x)
 |ref (a:ai):nK K H (.ref a) (.ref a)
 |c6 {a:ai}{ns:List Int}:xJ K H a (ns.map V.int)→nK K H (.c6 ns) (.ref a)
 |bW {a:ai}{vs:List V}{ws:List W}:H a=aa (.bW vs)→mC K H ws vs→nK K H (.bW ws) (.ref a)
inductive mC (K:ao) (H:Hp):List W→List V→Prop
 |nil:mC K H [] []
 |cons {w:W}{v:V}{ws:List W}{vs:List V}:nK K H w v→mC K H ws vs→mC K H (w::ws) (v::vs)
end
structure nG (H:Hp) (S:li) (H':Hp) (S':li):Prop where
  bW:∀b xs,H b=aa (.bW xs)→H' b=aa (.bW xs)
  frz:∀b o u,H b=aa (.frz o u)→H' b=aa (.frz o u)
  fr:∀b xs,H b=aa (.bO xs)→S b=none→H' b=aa (.bO xs)∧S' b=none
  all:∀b o,H b=aa o→ ∃o',H' b=aa o'
def Sub (S S':li):Prop:=∀a o,S a=aa o→S' a=aa o
section
variable {K:ao}{H H' H1 H2:Hp}{S S' S1 S2:li}
def mR:bR S a o a=aa o:=by unfold bR;rw[if_pos rfl]
def nO (h:b≠a):bR S a o b=S b:=by unfold bR;rw[if_neg h]
def pN:bR (bR S a o) a o'=bR S a o':=by funext b;unfold bR;split<;>rfl
def nG.refl:nG H S H S:=⟨λ_ _ h=>h,λ_ _ _ h=>h,λ_ _ h g=>⟨h,g⟩,λ_ o h=>⟨o,h⟩⟩
def nG.trans (a:nG H S H1 S1) (b:nG H1 S1 H2 S2):nG H S H2 S2:=⟨λc xs h=>b.bW c xs (a.bW c xs h),λc o u h=>b.frz c o u (a.frz c o u h),
 λc o h g=>by
  obtain⟨h1,g1⟩:=a.fr c o h g;exact b.fr c o h1 g1,λc o h=>by
  obtain⟨o1,h1⟩:=a.all c o h;exact b.all c o1 h1⟩
def nG.new (h:H p=none):nG H S (nH H p o) S:=
  ⟨λb xs e=>by rw[og (pR e h)];exact e,λb ob u e=>by rw[og (pR e h)];exact e,
   λb ob e g=>⟨by rw[og (pR e h)];exact e,g⟩,λb ob e=>⟨ob,by rw[og (pR e h)];exact e⟩⟩
def nG.newS (h:H p=none):nG H S (nH H p o) (bR S p ob):=
  ⟨λb xs e=>by rw[og (pR e h)];exact e,λb ob u e=>by rw[og (pR e h)];exact e,
   λb ob e g=>⟨by rw[og (pR e h)];exact e,by rw[nO (pR e h)];exact g⟩,λb ob e=>⟨ob,by rw[og (pR e h)];exact e⟩⟩
def nG.mut (h:H p=aa u) (hs:S p=aa ob0) (ht:∀xs,u≠ .bW xs) (hf:∀ob q,u≠ .frz ob q):nG H S (nH H p o) (bR S p ob):=
  ⟨λb xs e=>by rw[og (BT e h λz=>ht xs z.symm)];exact e,λb ob q e=>by rw[og (BT e h λz=>hf ob q z.symm)];exact e,
   λb ob e g=>by
     have hb:b≠p:=by rintro rfl;rw[hs]at g;cases g
     exact⟨by rw[og hb];exact e,by rw[nO hb];exact g⟩,λb ob e=>by
     by_cases hb:b=p
     · subst hb;exact⟨o,pE⟩
     · exact⟨ob,by rw[og hb];exact e⟩⟩
def nG.bO (h:H p=aa (.bO xs)) (hs:S p=aa ob0):nG H S (nH H p o) (bR S p ob):= .mut h hs (λ_ z=>nomatch z) λ_ _ z=>nomatch z
def nG.drop (h:Sub S' S):nG H S H S':=⟨λ_ _ h=>h,λ_ _ _ h=>h,λb o e g=>⟨e,by
 cases q:S' b with
 |none=>rfl
 |some z=>rw[h b z q]at g;cases g⟩,λ_ o h=>⟨o,h⟩⟩
def nG.free (e:nG H S H' S') (h:H' p=none):H p=none:=by
 cases q:H p with
 |none=>rfl
 |some o=>obtain⟨o',z⟩:=e.all p o q;rw[h]at z;cases z
def nG.fz (e:nG H S H' S') (h:xJ K H a xs):xJ K H' a xs:=by
 obtain ⟨o,h⟩ |h:=h
 ·exact .inl ⟨o,e.frz _ _ _ h⟩
 ·exact .inr h
def xJ.sq (h:xJ K H a xs):oE K H a xs:=by
 obtain ⟨o,h⟩ |h:=h
 ·exact .inl (.inr ⟨o,h⟩)
 ·exact .inr h
mutual
theorem nK.ext (e:nG H S H' S'):nK K H w v→nK K H' w v
 | .cc=> .cc
 | .bl b=> .bl b
 | .int i=> .int i
 | .str x=> .str x
 | .ref a=> .ref a
 | .c6 h=> .c6 (e.fz h)
 | .bW h hs=> .bW (e.bW _ _ h) (mC.ext e hs)
theorem mC.ext (e:nG H S H' S'):mC K H ws vs→mC K H' ws vs
 | .nil=> .nil
 | .cons h hs=> .cons (nK.ext e h) (mC.ext e hs)
end
theorem mC.length:∀{ws:List W}{vs:List V},mC K H ws vs→ws.length=vs.length
 |_,_, .nil=>rfl
 |_,_, .cons _ hs=>congrArg (· +1) (mC.length hs)
theorem mC.get:∀{ws:List W}{vs:List V}{i:Nat}{w:W},mC K H ws vs→ws[i]? =aa w→ ∃v,vs[i]? =aa v∧nK K H w v
 |_,_,_,_, .nil,e=>by simp at e
 |_,_,0,_, .cons h _,e=>by simp at e;subst e;exact⟨_,rfl,h⟩
 |_,_,i+1,w, .cons _ hs,e=>by
  obtain⟨v,h1,h2⟩:=mC.get (i:=i) (w:=w) hs (by simpa using e);exact⟨v,by simpa using h1,h2⟩
theorem mC.append:∀{ws us:List W}{vs xs:List V},mC K H ws vs→mC K H us xs→mC K H (ws++us) (vs++xs)
 |_,_,_,_, .nil,h=>h
 |_,_,_,_, .cons r t,h=> .cons r (mC.append t h)
theorem mC.take:∀{ws:List W}{vs:List V}(n:Nat),mC K H ws vs→mC K H (ws.take n) (vs.take n)
 |_,_,0,_=> .nil
 |_,_,_+1, .nil=> .nil
 |_,_,n+1, .cons r t=> .cons r (mC.take n t)
theorem mC.drop:∀{ws:List W}{vs:List V}(n:Nat),mC K H ws vs→mC K H (ws.drop n) (vs.drop n)
 |_,_,0,r=>r
 |_,_,_+1, .nil=> .nil
 |_,_,n+1, .cons _ t=>mC.drop n t
def mC.one (h:nK K H w v):mC K H [w] [v]:= .cons h .nil
theorem mC.ofInts:∀(ns:List Int),mC K H (ns.map W.int) (ns.map V.int)
 | []=> .nil
 |n::ns=> .cons (.int n) (mC.ofInts ns)
end
def rT (K:ao) (H:Hp) (a:ai):Ob→Prop
 | .bO ws=>∃vs,H a=aa (.bO vs)∧mC K H ws vs
 | .dct hV=>∃ps:List (List Key×V),H a=aa (.dT ps)∧aN (λq p=>p.1=q.1.map Sum.inl∧nK K H q.2 p.2) hV ps
 | .dk hV=>∃ps:List (Key×V),H a=aa (.dK ps)∧aN (λq p=>p.1=q.1∧nK K H q.2 p.2) hV ps
 | .ins cl fs=>∃(C dx:ai) (ps:List (ah×V)),bS K bj cl=aa (aa (.ref C))∧H a=aa (.ins C dx ps)∧aN (λq p=>p.1=q.1∧nK K H q.2 p.2) fs ps
def mD (K:ao) (H:Hp) (S:li):Prop:=∀a o,S a=aa o→rT K H a o
section
variable {K:ao}{H H':Hp}{S S' S0 S0':li}{a b p:ai}{o:Ob}
def Sub.refl:Sub S S:=λ_ _ h=>h
def Sub.trans (h:Sub S1 S2) (g:Sub S2 S3):Sub S1 S3:=λa o e=>g a o (h a o e)
def Sub.new (h:S a=none):Sub S (bR S a o):=λb u e=>by rw[nO (by rintro rfl;rw[h]at e;cases e)];exact e
def mD.sub (h:mD K H S') (q:Sub S S'):mD K H S:=λa o e=>h a o (q a o e)
def rT.some (h:rT K H a o):∃u,H a=aa u:=by
 cases o with
 |bO ws=>obtain⟨vs,e,_⟩:=h;exact⟨_,e⟩
 |dct hV=>obtain⟨vs,e,_⟩:=h;exact⟨_,e⟩
 |dk hV=>obtain⟨vs,e,_⟩:=h;exact⟨_,e⟩
 |ins C fs=>obtain⟨_,_,vs,_,e,_⟩:=h;exact⟨_,e⟩
def mD.free (h:mD K H S) (e:H p=none):S p=none:=by
 cases q:S p with
 |none=>rfl
 |some o=>obtain⟨u,z⟩:=(h p o q).some;rw[e]at z;cases z
def rT.keep (e:nG H S0 H' S0') (k:∀u,H a=kq u→H' a=kq u) (h:rT K H a o):rT K H' a o:=by
 cases o with
 |bO ws=>obtain⟨vs,e1,r⟩:=h;exact⟨vs,k _ e1,r.ext e⟩
 |dct hV=>obtain⟨vs,e1,r⟩:=h;exact⟨vs,k _ e1,Paired.mapP r λ_ _ z=>⟨z.1,z.2.ext e⟩⟩
 |dk hV=>obtain⟨vs,e1,r⟩:=h;exact⟨vs,k _ e1,Paired.mapP r λ_ _ z=>⟨z.1,z.2.ext e⟩⟩
 |ins C fs=>obtain⟨C,dx,vs,e0,e1,r⟩:=h;exact⟨C,dx,vs,e0,k _ e1,Paired.mapP r λ_ _ z=>⟨z.1,z.2.ext e⟩⟩
def mD.new (h:mD K H S) (e:H p=none):mD K (nH H p u) S:=λa o q=>
 (h a o q).keep (.new (S:=S) e) λv z=>by rw[og (pR z e)];exact z
def mD.put_lst (h:mD K H S) (e:H p=none) (r:mC K (nH H p (.bO vs)) ws vs):mD K (nH H p (.bO vs)) (bR S p (.bO ws)):=λa o q=>by
 by_cases ha:a=p
 ·subst ha;rw[mR]at q;cases q;exact⟨vs,pE,r⟩
 ·rw[nO ha]at q;exact h.new e a o q
def mD.set_lst (h:mD K H S) (e:S a=aa (.bO ws0)) (r:mC K H ws vs):nG H S (nH H a (.bO vs)) (bR S a (.bO ws))∧mD K (nH H a (.bO vs)) (bR S a (.bO ws)):=by
 obtain⟨vs0,e0,_⟩:=h a _ e;have x:nG H S (nH H a (.bO vs)) (bR S a (.bO ws)):= .bO e0 e;refine⟨x,λb o q=>?_⟩;by_cases hb:b=a
 ·subst hb;rw[mR]at q;cases q;exact⟨vs,pE,r.ext x⟩
 ·rw[nO hb]at q;exact(h b o q).keep x λu z=>by rw[og hb];exact z
end
abbrev mS:=List (Option W)
abbrev WK:=W→li→Prop
abbrev WX:=ah→mS→li→Prop
abbrev WE:=WX→mS→li→WK→Prop
abbrev WT:=WX→mS→li→(Bool→li→Prop)→Prop
abbrev WA:=WX→mS→li→(List W→li→Prop)→Prop
structure mY where
  nx:mS→li→Prop
  rt:WK
  bk:mS→li→Prop:=λ_ _=>False
  ct:mS→li→Prop:=λ_ _=>False
abbrev WS:=WX→mY→mS→li→Prop
abbrev WG:=W→mS→li→(mS→li→Prop)→Prop
abbrev mI:=List W→li→WK→(ah→li→Prop)→Prop
abbrev WI:=WX→mS→li→(List W→(li→Prop)→li→Prop)→Prop
abbrev WL:=WX→mS→li→(List W→li→Prop)→Prop
def wA (K:ao) (H:Hp):Option W→Option V→Prop
 |none,_=>True
 |some w,aa v=>nK K H w v
 |some _,none=>False
def nj (K:ao) (H:Hp) (σW:mS) (σ:St):Prop:=aN (wA K H) σW σ
section
variable {K:ao}{H H':Hp}{S S':li}
theorem wA.ext (e:nG H S H' S'):∀{w:Option W}{v:Option V},wA K H w v→wA K H' w v
 |none,_,_=>trivial
 |some _,aa _,h=>nK.ext e h
 |some _,none,h=>h.elim
def nj.ext (e:nG H S H' S') (h:nj K H σW σ):nj K H' σW σ:=Paired.mapP h λ_ _ r=>wA.ext e r
theorem nj.get:∀{σW:mS}{σ:St}{i:Nat}{w:W},nj K H σW σ→σW[i]? =aa (aa w)→ ∃v,σ[i]? =aa (aa v)∧nK K H w v
 |_,_,_,_, .nil,e=>by simp at e
 |_,_,0,_, .cons (b:=b) h _,e=>by
  simp at e;subst e;cases b with
  |none=>exact(show False from h).elim
  |some v=>exact⟨v,rfl,h⟩
 |_,_,i+1,w, .cons _ hs,e=>by
  obtain⟨v,h1,h2⟩:=nj.get (i:=i) (w:=w) hs (by simpa using e);exact⟨v,by simpa using h1,h2⟩
theorem nj.set (h:nK K H w v):∀{σW:mS}{σ:St}(i:Nat),nj K H σW σ→nj K H (σW.set i (aa w)) (σ.set i (aa v))
 |_,_,_, .nil=> .nil
 |_,_,0, .cons _ t=> .cons h t
 |_,_,i+1, .cons q t=> .cons q (nj.set h i t)
end
def oF (K:ao) (H:Hp) (S:li) (QW:WK) (Q:VK):Prop:=∀w S' v H',nG H S H' S'→nK K H' w v→mD K H' S'→QW w S'→Q v H'
def BD (K:ao) (t:mS→li→WK→Prop):TE:=λσ H Q=>∃σW S QW,nj K H σW σ∧mD K H S∧t σW S QW∧oF K H S QW Q
def C8 (K:ao) (t:mS→li→(Bool→li→Prop)→Prop):TT:=λσ H Q=>∃σW S QW,nj K H σW σ∧mD K H S∧t σW S QW∧ ∀b S' H',nG H S H' S'→mD K H' S'→QW b S'→Q b H'
def T0 (K:ao) (t:mS→li→(List W→li→Prop)→Prop):TA:=λσ H Q=>∃σW S QW,nj K H σW σ∧mD K H S∧t σW S QW∧ ∀ws S' vs H',nG H S H' S'→mC K H' ws vs→mD K H' S'→QW ws S'→Q vs H'
def qk (K:ao) (H:Hp) (S:li) (P:mS→li→Prop) (Q:St→Hp→Prop):Prop:=∀σW S' σ H',nG H S H' S'→nj K H' σW σ→mD K H' S'→P σW S'→Q σ H'
structure Meets (K:ao) (H:Hp) (S:li) (DW:mY) (D:rR):Prop where
  nx:qk K H S DW.nx D.nx
  rt:oF K H S DW.rt D.rt
  bk:qk K H S DW.bk D.bk
  ct:qk K H S DW.ct D.ct
def Of (K:ao) (t:mY→mS→li→Prop):TS:=λD σ H=>∃σW S DW,nj K H σW σ∧mD K H S∧t DW σW S∧Meets K H S DW D
def ZQ (K:ao) (t:WG):TG:=λv σ H Q=>∃w σW S P,nK K H w v∧nj K H σW σ∧mD K H S∧t w σW S P∧qk K H S P Q
def wz (K:ao) (J:It) (ws:List W) (G:li→Prop) (H0:Hp) (S0:li):Prop:=∀i S H,nG H0 S0 H S→mD K H S→G S→
 (∀w,ws[i]? =aa w→J.go i H∧ ∀x H',J.yld i H x H'→nG H S H' S∧mD K H' S∧nK K H' w x)∧(i=ws.length→J.stop i H)
def JU (K:ao) (t:mS→li→(List W→(li→Prop)→li→Prop)→Prop):TI:=λσ H R=>∃σW S QW,nj K H σW σ∧mD K H S∧t σW S QW∧
 ∀ws G S' J H',nG H S H' S'→mD K H' S'→G S'→wz K J ws G H' S'→QW ws G S'→R J H'
def Jf (K:ao) (t:mS→li→(List W→li→Prop)→Prop):TE:=λσ H Q=>∃σW S QW,nj K H σW σ∧mD K H S∧t σW S QW∧
 ∀ws S' vs a H',nG H S H' S'→H a=none→H' a=aa (.bO vs)→S' a=none→mC K H' ws vs→mD K H' S'→QW ws S'→Q (.ref a) H'
def rL (K:ao) (sp:mI):Sp:=λvs H Q E=>∃ws S QW EW,mC K H ws vs∧mD K H S∧sp ws S QW EW∧oF K H S QW Q∧
 ∀cl C S' H',bS K bj cl=aa (aa (.ref C))→mD K H' S'→EW cl S'→E (.ref C) none H'
def tJ (g h:aE) (H:Hp) (a C:ai):Prop:=g.get? a=none∧H a=none∧ ∃oe vs T oT ts,h.get? a=aa oe∧oe.cls= .ref C∧oe.data= .fields vs∧vs[1]? =aa (.ref T)∧
 g.get? T=none∧H T=none∧T≠a∧h.get? T=aa oT∧oT.data= .fields ts∧ts[3]? =aa .none
def si (P:bh) (w:aS):xP:=λouter H s E e s'=>∃a C H',e= .ref a∧s'.os=s.os∧ce s'.gens∧Un (frs outer) [] H H' s.heap s'.heap∧nZ P w H' s'.heap∧tJ s.heap s'.heap H' a C∧E (.ref C) none H'
structure oM (X:Cx) (E:WX):Prop where
  own:db (aB X.prog X.w) X.A X.env X.xe
  far:∀(ag:List (ai×aG)) (σ:St) (H:Hp) (s:am) (σW:mS) (cl:ah) (C a:ai) (H':Hp) (S':li) (s':am),my X ag σ H s→nj X.K H σW σ→bS X.K bj cl=aa (aa (.ref C))→
    s'.os=s.os→ce s'.gens→Un (frs X.stack) [] H H' s.heap s'.heap→nZ X.prog X.w H' s'.heap→tJ s.heap s'.heap H' a C→mD X.K H' S'→E cl σW S'→X.xe (.ref a) s'
  near:∀(ag:List (ai×aG)) (σ:St) (H:Hp) (s:am) (σW:mS) (cl:ah) (C a:ai) (S:li) (h':aE) (args:List aj),my X ag σ H s→nj X.K H σW σ→bS X.K bj cl=aa (aa (.ref C))→
    aE.MadeExcOf s.heap h' a (.ref C) args→mD X.K H S→E cl σW S→X.xe (.ref a) { s with heap:=h' }
def JE (X:Cx) (e:Expr) (t:WE):Prop:=∀E,oM X E→PE X e (BD X.K (t E))
def JT (X:Cx) (e:Expr) (t:WT):Prop:=∀E,oM X E→PT X e (C8 X.K (t E))
def JW (X:Cx) (e:Expr) (t:WT):Prop:=∀E,oM X E→PW X e (C8 X.K (t E))
def JA (X:Cx) (es:List Expr) (t:WA):Prop:=∀E,oM X E→PA X es (T0 X.K (t E))
def JS (X:Cx) (st:aW) (t:WS):Prop:=∀E,oM X E→PS X st (Of X.K (t E))
def sy (X:Cx) (st:List aW) (t:WS):Prop:=∀E,oM X E→qH X st (Of X.K (t E))
def JG (X:Cx) (tg:Expr) (t:WG):Prop:=∀E,oM X E→PG X tg (ZQ X.K t)
def JI (X:Cx) (tg iter:Expr) (t:WI):Prop:=∀E,oM X E→PI X tg iter (JU X.K (t E))
def JL (X:Cx) (e:Expr) (t:WL):Prop:=∀E,oM X E→PE X e (Jf X.K (t E))
def PE.mono (h:PE X e t) (q:∀σ H Q,t' σ H Q→t σ H Q):PE X e t':=λag s σ H Q I z=>h ag s σ H Q I (q σ H Q z)
def PT.mono (h:PT X e t) (q:∀σ H Q,t' σ H Q→t σ H Q):PT X e t':=λag s σ H Q I z=>h ag s σ H Q I (q σ H Q z)
def PW.mono (h:PW X e t) (q:∀σ H Q,t' σ H Q→t σ H Q):PW X e t':=λwh ag s σ H Q I z=>h wh ag s σ H Q I (q σ H Q z)
def PA.mono (h:PA X e t) (q:∀σ H Q,t' σ H Q→t σ H Q):PA X e t':=λpos ag s σ H Q I z=>h pos ag s σ H Q I (q σ H Q z)
def PS.mono (h:PS X e t) (q:∀D σ H,t' D σ H→t D σ H):PS X e t':=λag s σ H D I z=>h ag s σ H D I (q D σ H z)
def qH.mono (h:qH X e t) (q:∀D σ H,t' D σ H→t D σ H):qH X e t':=λag s σ H D I z=>h ag s σ H D I (q D σ H z)
def PG.mono (h:PG X e t) (q:∀v σ H Q,t' v σ H Q→t v σ H Q):PG X e t':=λag s σ H v u Q I r z=>h ag s σ H v u Q I r (q v σ H Q z)
def PI.mono (h:PI X tg e t) (q:∀σ H R,t' σ H R→t σ H R):PI X tg e t':=λag s σ H R I z=>h ag s σ H R I (q σ H R z)
def jA (i:Nat) (_:WX) (σ:mS) (S:li) (Q:WK):Prop:=match σ[i]? with
 |some (aa w)=>Q w S
 |_=>False
def wC (w:W) (_:WX) (_:mS) (S:li) (Q:WK):Prop:=Q w S
section
variable {X:Cx}
def jv (i:Nat) (hN:X.N[i]? =aa x:=by rfl) (hv:wo X.env.scope x:=by first |exact gw rfl |exact fE (gw rfl) |exact fE (fE rfl)) (hd:(x == ("__debug__" :ah))=false:=by decide)
  (hcd:(x == ("__classdict__" :ah))=false:=by decide):JE X (.Name x pos) (jA i):=λE hE=>(HB hN hv hd hcd).mono λσ H Q ⟨σW,S,QW,hσ,hS,ht,hQ⟩=>by
 unfold jA at ht;split at ht
 ·rename_i w e;obtain⟨v,e',r⟩:=hσ.get e;exact⟨v,e',hQ w S v H .refl r hS ht⟩
 ·exact ht.elim
def wL (h:PE X e (tC v)) (r:∀K H,nK K H w v):JE X e (wC w):=λE hE=>h.mono λσ H Q ⟨σW,S,QW,hσ,hS,ht,hQ⟩=>hQ w S v H .refl (r _ _) hS ht
def Tv{i j pos}:JE X (.Constant (.int i) j pos) (wC (.int i)):=wL Y' λ_ _=> .int i
def Q0{b j pos}:JE X (.Constant (.bool b) j pos) (wC (.bl b)):=wL UN λ_ _=> .bl b
def SH{j pos}:JE X (.Constant .none j pos) (wC .cc):=wL Ts λ_ _=> .cc
def Yw{x j pos}:JE X (.Constant (.str x) j pos) (wC (.str x)):=wL Wp λ_ _=> .str x
def Us (hg:Gl X x) (hm:X.mg x=aa (.int i u)) (hd:(x == ("__debug__" :ah))=false:=by decide):JE X (.Name x pos) (wC (.int i)):=wL (v:= .int i) (Iw hg hm ⟨u,rfl⟩ hd) λ_ _=> .int i
def UD (hg:Gl X x) (hm:X.mg x=aa (.str i u)) (hd:(x == ("__debug__" :ah))=false:=by decide):JE X (.Name x pos) (wC (.str i)):=wL (v:= .str i) (Iw hg hm ⟨u,rfl⟩ hd) λ_ _=> .str i
end
abbrev W2:=W→W→li→WK→Prop
def mq (r:W2) (a b:WE) (E:WX) (σ:mS) (S:li) (Q:WK):Prop:=a E σ S λx S1=>b E σ S1 λy S2=>r x y S2 Q
def qZ (K:ao) (r:R2) (wr:W2):Prop:=∀H x y wx wy S (Q:VK) (QW:WK),nK K H wx x→nK K H wy y→mD K H S→wr wx wy S QW→oF K H S QW Q→r x y H Q
def oF.from{K:ao}{H H':Hp}{S S':li}{QW:WK}{Q:VK}(h:oF K H S QW Q) (e:nG H S H' S'):oF K H' S' QW Q:=λw S v H'' e' r hS q=>h w S v H'' (e.trans e') r hS q
def qk.from{K:ao}{H H':Hp}{S S':li}{P:mS→li→Prop}{Q:St→Hp→Prop}(h:qk K H S P Q) (e:nG H S H' S'):qk K H' S' P Q:=λσW S σ H'' e' r hS q=>h σW S σ H'' (e.trans e') r hS q
def Meets.from{K:ao}{H H':Hp}{S S':li}{DW:mY}{D:rR}(h:Meets K H S DW D) (e:nG H S H' S'):Meets K H' S' DW D:=⟨h.nx.from e,h.rt.from e,h.bk.from e,h.ct.from e⟩
section
variable {X:Cx}{a b:Expr}{pos:bw}
def Ct{K:ao}{ta tb:mS→li→WK→Prop}{wr:W→W→li→WK→Prop}{σ:St}{H:Hp}{Q:VK}{R:V→V→Hp→Prop}
  (h:BD K (λσ S Q=>ta σ S λx S1=>tb σ S1 λy S2=>wr x y S2 Q) σ H Q)
  (hR:∀H2 x y wx wy S (QW:WK),nK K H2 wx x→nK K H2 wy y→mD K H2 S→wr wx wy S QW→oF K H2 S QW Q→R x y H2) :
  BD K ta σ H λx H1=>BD K tb σ H1 λy H2=>R x y H2:=by
 obtain⟨σW,S,QW,hσ,hS,ht,hQ⟩:=h;refine⟨σW,S,_,hσ,hS,ht,λw1 S1 v1 H1 e1 r1 iU h1=>?_⟩;refine⟨σW,S1,_,hσ.ext e1,iU,h1,λw2 S2 v2 H2 e2 r2 hS2 h2=>?_⟩;exact hR H2 v1 v2 w1 w2 S2 QW (r1.ext e2) r2 hS2 h2 (hQ.from (e1.trans e2))
def xK (ho:n_ X (ca op) r) (hw:qZ X.K r wr) (ha:JE X a ta) (hb:JE X b tb):JE X (.BinOp a op b pos) (mq wr ta tb):=λE hE=>
 (zE ho (ha E hE) (hb E hE)).mono λσ H Q h=>Ct h λH2 x y wx wy S QW rx ry hS q hQ=>hw H2 x y wx wy S Q QW rx ry hS q hQ
def WJ (ho:n_ X (bB op) r) (hw:qZ X.K r wr) (ha:JE X a ta) (hb:JE X b tb) (hm:fK op b=false):JE X (.Compare a [op] [b] pos) (mq wr ta tb):=λE hE=>
 (Wc ho (ha E hE) (hb E hE) hm).mono λσ H Q h=>Ct h λH2 x y wx wy S QW rx ry hS q hQ=>hw H2 x y wx wy S Q QW rx ry hS q hQ
end
def nc.ex (x:nc P w H h a o):∃u,h.get? a=aa u:=by
 cases o with
 |bO xs=>obtain⟨_,_,_,_,e⟩:=x;exact⟨_,e⟩
 |bW xs=>obtain⟨_,_,_,o,e,_⟩:=x;exact⟨_,e⟩
 |dK hV=>obtain⟨_,_,_,_,o,_,_,e,_⟩:=x;exact⟨_,e⟩
 |dT hV=>obtain⟨_,_,_,_,o,_,_,e,_⟩:=x;exact⟨_,e⟩
 |set S n=>obtain⟨o,_,_,_,e,_⟩:=x;exact⟨_,e⟩
 |ins C dx fs=>obtain⟨_,_,_,e,_⟩:=x;exact⟨_,e⟩
 |own y=>exact x
 |xd fs=>obtain⟨_,⟨_,_,_,e,_⟩,_⟩:=x;exact⟨_,e⟩
 |rng lo hi=>obtain⟨_,_,_,e⟩:=x;exact⟨_,e⟩
 |frz ob u=>obtain⟨e,_⟩:=x;exact⟨_,e⟩
 |tbl ps=>exact⟨_,show h.get? a=aa _ from x⟩
 |met f y=>exact⟨_,show h.get? a=aa _ from x⟩
 |ext φ=>exact x.2.1
def unt (H:Hp) (S:li):Hp:=λb=>match H b with
 |some (.bO xs)=>match S b with
  |none=>none
  |some _=>aa (.bO xs)
 |o=>o
def qN (H:Hp) (S:li) (H':Hp):Hp:=λb=>match unt H S b with
 |none=>match H b with
  |some o=>aa o
  |none=>H' b
 |some _=>match H' b with
  |some o=>aa o
  |none=>aa (.ext λh=>∃o,h.get? b=aa o)
section
variable {w:aS}{K:ao}{H:Hp}{S:li}{h:aE}{b:ai}{o:HO}
def GM (e:unt H S b=aa o):H b=aa o:=by
 unfold unt at e;split at e
 ·rename_i xs q;split at e
  ·cases e
  ·rw[q];exact e
 ·exact e
def vQ (e:H b=none):unt H S b=none:=by unfold unt;rw[e]
def Cv (e:H b=aa o) (n:∀xs,o≠ .bO xs):unt H S b=aa o:=by
 unfold unt;rw[e];cases o<;>first |rfl |exact absurd rfl (n _)
def Ao (e:H b=aa o) (hs:S b=aa u):unt H S b=aa o:=by
 unfold unt;rw[e];cases o<;>first |rfl | (dsimp only;rw[hs])
def MS (e:H b=aa (.bO xs)) (hs:S b=none):unt H S b=none:=by
 unfold unt;rw[e];dsimp only;rw[hs]
def Sz (e:unt H S b=none) (q:H b=aa o):(∃xs,o= .bO xs)∧S b=none:=by
 unfold unt at e;rw[q]at e;cases o<;>first |cases e |skip;rename_i xs;dsimp only at e;split at e
 ·exact⟨⟨xs,rfl⟩, ‹_›⟩
 ·cases e
mutual
theorem nK.mv{H1:Hp}(t:∀b xs,H b=aa (.bW xs)→H1 b=aa (.bW xs)) (f:∀b o u,H b=aa (.frz o u)→H1 b=aa (.frz o u)) {w:W}{v:V}:nK K H w v→nK K H1 w v
 | .cc=> .cc
 | .bl b=> .bl b
 | .int i=> .int i
 | .str x=> .str x
 | .ref a=> .ref a
 | .c6 h=> .c6 (by
  obtain ⟨o,h⟩ |h:=h
  ·exact .inl ⟨o,f _ _ _ h⟩
  ·exact .inr h)
 | .bW h hs=> .bW (t _ _ h) (mC.mv t f hs)
theorem mC.mv (t:∀b xs,H b=aa (.bW xs)→H1 b=aa (.bW xs)) (f:∀b o u,H b=aa (.frz o u)→H1 b=aa (.frz o u)):mC K H ws vs→mC K H1 ws vs
 | .nil=> .nil
 | .cons h hs=> .cons (nK.mv t f h) (mC.mv t f hs)
end
def vT:∀b xs,H b=aa (.bW xs)→unt H S b=aa (.bW xs):=λb xs e=>Cv e λ_ z=>nomatch z
def wP:∀b o u,H b=aa (.frz o u)→unt H S b=aa (.frz o u):=λb o u e=>Cv e λ_ z=>nomatch z
def mD.unt (r:mD K H S):mD K (unt H S) S:=λa o e=>by
 have q:=r a o e;cases o with
 |bO ws=>obtain⟨vs,z,rs⟩:=q;exact⟨vs,Ao z e,mC.mv vT wP rs⟩
 |dct hV=>obtain⟨ps,z,rs⟩:=q;exact⟨ps,Ao z e,Paired.mapP rs λ_ _ z=>⟨z.1,nK.mv vT wP z.2⟩⟩
 |dk hV=>obtain⟨ps,z,rs⟩:=q;exact⟨ps,Ao z e,Paired.mapP rs λ_ _ z=>⟨z.1,nK.mv vT wP z.2⟩⟩
 |ins C fs=>obtain⟨C,dx,ps,z0,z,rs⟩:=q;exact⟨C,dx,ps,z0,Ao z e,Paired.mapP rs λ_ _ z=>⟨z.1,nK.mv vT wP z.2⟩⟩
def nZ.unt (x:nZ P w H h):nZ P w (unt H S) h:=λa o e=>
 (x a o (GM e)).stay (λ_ _ _ q=>q) (λb q=>Cv q λ_ z=>nomatch z) λb xs q=>vT b xs q
def tR (ok:nZ P w H h) (un:Un fs [] (unt H S) H' h h') (e:H' b=aa o):qN H S H' b=aa o:=by
 unfold qN;split
 ·rename_i q;split
  ·rename_i u z;obtain⟨ob,eo⟩:=(ok b u z).ex;rw[un.free b ob eo q (by simp)]at e;cases e
  ·exact e
 ·rw[e]
def AH (un:Un fs [] (unt H S) H' h h') (ok:nZ P w H h):Un fs [] H (qN H S H') h h' where
  keep:=λb o e n hb hx=>un.keep b o e (vQ n) hb hx
  slot:=λb o e n hb hx=>un.slot b o e (vQ n) hb hx
  free:=λb o e n hx=>by
    unfold qN;rw[vQ n,n];exact un.free b o e (vQ n) hx
  there:=un.there
  tups:=λb xs e=>tR ok un (un.tups b xs (vT b xs e))
  frzs:=λb o u e=>tR ok un (un.frzs b o u (wP b o u e))
  tbls:=λb ps e=>by
    obtain⟨m,z⟩:=un.tbls b ps (Cv e λ_ z=>nomatch z);exact⟨m,tR ok un z⟩
def Ld (un:Un fs [] (unt H S) H' h h') (ok:nZ P w H h) (ok':nZ P w H' h') (hf:∀b∈fs,H b=none):nZ P w (qN H S H') h':=λb o e=>by
 have back:∀{o},H' b=aa o→nc P w (qN H S H') h' b o:=λ{o} q=>(ok' b o q).stay (λ_ _ _ z=>z) (λc z=>tR ok un z) λc xs z=>tR ok un z;unfold qN at e;split at e
 ·rename_i q;split at e
  ·rename_i u z;cases e;obtain⟨⟨xs,rfl⟩,_⟩:=Sz q z;obtain⟨l,eA,n,r,g⟩:=ok b _ z;exact⟨l,eA,n,r,un.keep b _ g q (λhb=>by rw[hf b hb]at z;cases z) (by simp)⟩
  ·exact back e
 ·rename_i u q;split at e
  ·rename_i u' z;cases e;exact back z
  ·rename_i z;cases e;obtain⟨ob,eo⟩:=(ok b u (GM q)).ex;obtain⟨ob',eo'⟩:=un.there b ob eo (by simp);exact⟨⟨ob',eo'⟩,⟨ob',eo'⟩,λh1 h2 ⟨o,z⟩ k=>⟨o,k o z⟩⟩
def UG (e:H b=aa o):∃o',qN H S H' b=aa o':=by
 unfold qN;split
 ·rw[e];exact⟨_,rfl⟩
 ·split
  ·exact⟨_,rfl⟩
  ·exact⟨_,rfl⟩
def N9 (un:Un fs [] (unt H S) H' h h') (ok:nZ P w H h) (r:mD K H' S'):nG H S (qN H S H') S' where
  bW:=λb xs e=>(AH un ok).tups b xs e
  frz:=λb o u e=>(AH un ok).frzs b o u e
  fr:=λb xs e hs=>by
    refine⟨?_,?_⟩
    · unfold qN;rw[MS e hs,e]
    · cases q:S' b with
      |none=>rfl
      |some u=>
        obtain⟨v,z⟩:=(r b u q).some;obtain⟨ob,eo⟩:=(ok b _ e).ex;rw[un.free b ob eo (MS e hs) (by simp)]at z;cases z
  all:=λb o e=>UG e
def Gc (un:Un fs [] (unt H S) H' h h') (ok:nZ P w H h):nG H' S' (qN H S H') S' where
  bW:=λb xs e=>tR ok un e
  frz:=λb o u e=>tR ok un e
  fr:=λb xs e hs=>⟨tR ok un e,hs⟩
  all:=λb o e=>⟨o,tR ok un e⟩
def HE (un:Un fs [] (unt H S) H' h h') (ok:nZ P w H h) (r:mD K H' S'):mD K (qN H S H') S':=λa o e=>(r a o e).keep (Gc (S':=S') un ok) λu z=>tR ok un z
end
def Ip{X:Cx}{k:Nat}{f:ai}{fd:dc}{ps:List ah}{c:mI}{E:WX}{ag:List (ai×aG)}{σ:St}{σW:mS}{H:Hp}{S:li}{s:am}{Q:VK}{QW:WK}{us:List aj}{vs:List V}{ws:List W}
  (F:oU X.prog X.w X.K X.mg X.base (si X.prog X.w) k f fd ps (rL X.K c)) (hr:oj k X.A) (hb:pj X.K fd ps []) (I:my X ag σ H s) (r:mM vs us) (rs:mC X.K H ws vs) (hσ:nj X.K H σW σ) (hS:mD X.K H S)
  (h:c ws S QW λcl S'=>E cl σW S') (hQ:oF X.K H S QW Q)
  (hx:∀(cl:ah) (C a:ai) (H':Hp) (S':li) (s':am),bS X.K bj cl=aa (aa (.ref C))→s'.os=s.os→ce s'.gens→Un (frs X.stack) [] H H' s.heap s'.heap→nZ X.prog X.w H' s'.heap→tJ s.heap s'.heap H' a C→nG H S H' S'→mD X.K H' S'→E cl σW S'→X.xe (.ref a) s'):av (aB X.prog X.w) X.A (call (.ref f) us) (EP X ag σ Q) X.xe s:=by
 have e0:=I.env0;have sp:rL X.K c vs (unt H S) (λv H'=>∃w S',nK X.K H' w v∧mD X.K H' S'∧QW w S') (λcv _ H'=>∃cl C S',cv= .ref C∧bS X.K bj cl=aa (aa (.ref C))∧mD X.K H' S'∧E cl σW S'):=
  ⟨ws,S,QW,_,mC.mv vT wP rs,hS.unt,h,λw S' v H' _ r1 r2 q=>⟨w,S',r1,r2,q⟩,λcl C S' H' hn hS' q=>⟨cl,C,S',rfl,hn,hS',q⟩⟩
 have e1:sS X.prog X.w X.K X.mg X.base X.A X.stack s (unt H S):=⟨e0.frames,e0.mod,λb o e=>⟨(e0.bs b o e).1,vQ (e0.bs b o e).2⟩,e0.bsz,e0.funs,λb hb=>vQ (e0.frf b hb),e0.cG.unt,e0.bare⟩;have hl:us.length=ps.length:=by rw[←r.length];exact F.len _ _ _ _ sp
 have hb':=hb s us I.kIn (by rw[bg];exact hl);rw[bg]at hb';refine wpAny_call (il (F.run X.A X.stack s (unt H S) ⟨us,[]⟩ us vs _ _ hr e1 hb' r sp) λrr s' hq=>?_);cases rr with
 |error e=>
  obtain⟨a,C,H',rfl,os,bare,un,ok',fly,cl,C',S',ec,hn,hS',q⟩:=hq;cases ec;refine hx cl C a (qN H S H') S' s' hn os bare (AH un I.cG) (Ld un I.cG ok' e0.frf) ?_ (N9 un I.cG hS') (HE un I.cG hS') q;obtain⟨g1,g2,oe,vs',T,oT,ts,a1,a2,a3,a4,a5,a6,a7⟩:=fly;have free:∀{b:ai},s.heap.get? b=none→H' b=none→qN H S H' b=none:=λ{b} q1 q2=>by
   have hn:H b=none:=by
    cases z:H b with
    |none=>rfl
    |some u=>obtain⟨ob,eo⟩:=(I.cG b u z).ex;rw[q1]at eo;cases eo
   unfold qN;rw[vQ hn,hn];exact q2
  exact⟨g1,free g1 g2,oe,vs',T,oT,ts,a1,a2,a3,a4,a5,free a5 a6,a7⟩
 |ok fl=>
  cases fl with
  |ret u=>
   obtain⟨v,H',os,bare,un,ok',rv,w,S',r1,r2,q⟩:=hq;exact⟨v,qN H S H',I.call' os (AH un I.cG) (Ld un I.cG ok' e0.frf) bare (λ_ z=>nomatch z),rv,hQ w S' v _ (N9 un I.cG r2) (r1.ext (Gc (S':=S') un I.cG)) (HE un I.cG r2) q⟩
  |next=>exact cE hq
  |brk=>exact cE hq
  |cont=>exact cE hq
def VS 
  (F:oU X.prog X.w X.K X.mg X.base (si X.prog X.w) k f fd ps (rL X.K c)) (hr:oj k X.A) (hb:pj X.K fd ps []) (hE:oM X E) (I:my X ag σ H s) (r:mM vs us) (rs:mC X.K H ws vs) (hσ:nj X.K H σW σ) (hS:mD X.K H S)
  (h:c ws S QW λcl S'=>E cl σW S') (hQ:oF X.K H S QW Q):av (aB X.prog X.w) X.A (call (.ref f) us) (EP X ag σ Q) X.xe s:=
 Ip (E:=E) F hr hb I r rs hσ hS h hQ λcl C a H' S' s' hn os bare un ok fly _ hS' q=>hE.far ag σ H s σW cl C a H' S' s' I hσ hn os bare un ok fly hS' q
def IA (I:my X ag σ H' s') (hst:X.stack=X.env::X.outer) (hf:X.env.frame=aa X.env.locals) (hex:X.ex=[])
  (h0:∀b∈hid,X.s₀.heap.get? b=none∧H' b=none) (ha:a∈hid) (L:jV (du s'.heap (hid++frs X.stack)) X.stack a (.ref C) s'.heap h') :
  Un X.fs [] X.H₀ H' X.s₀.heap h'∧nZ X.prog X.w H' h'∧tJ X.s₀.heap h' H' a C:=by
 obtain⟨st,ff,tr,sl⟩:=L;have keepB:∀b o,s'.heap.get? b=aa o→b∉hid→b∉frs X.stack→h'.get? b=aa o:=λb o e h1 h2=>st b o (fQ _ e λz=>(bp.mp z).elim h1 h2);have nh:∀b o,X.s₀.heap.get? b=aa o→b∉hid:=λb o e hb=>by rw[(h0 b hb).1]at e;cases e
 have slotB:∀b o,b∈frs X.stack→s'.heap.get? b=aa o→ ∃sl,h'.get? b=aa { o with slots:=sl }:=λb o hb e=>by
  obtain⟨_,o',eo',nf⟩:=I.stack.mem hb;rw[e]at eo';cases eo';exact sl b o e nf
 have nx:∀b:ai,b∉X.ex:=λb=>by rw[hex];simp
 have fsS:∀b∈X.fs,b∈frs X.stack:=λb hb=>by
  rw[hst];unfold frs;rw[gE,hf];exact aI _ hb
 refine⟨⟨λb o e n hb _=>?_,λb o e n hb _=>?_,λb o e n _=>I.base.free b o e n (nx b),λb o e _=>?_,I.base.tups,I.base.frzs,I.base.tbls⟩,λb o e=>?_,(h0 a ha).1,(h0 a ha).2,?_⟩
 ·refine keepB b o (I.base.keep b o e n hb (nx b)) (nh b o e) λz=>?_;obtain q |q:=az.mp (I.stkSub b z)
  ·exact absurd (bY (aP e) I.ok.above) (by rw[q];exact cJ _)
  ·exact hb q
 ·obtain⟨sl1,e1⟩:=I.base.slot b o e n hb (nx b);obtain⟨sl2,e2⟩:=slotB b _ (fsS b hb) e1;exact⟨sl2,e2⟩
 ·obtain⟨o',e1⟩:=I.base.there b o e (nx b);by_cases hb:b∈frs X.stack
  ·obtain⟨sl2,e2⟩:=slotB b _ hb e1;exact⟨_,e2⟩
  ·exact⟨o',keepB b o' e1 (nh b o e) hb⟩
 ·refine(I.cG b o e).stay (λc u hc q=>?_) (λ_ q=>q) λ_ _ q=>q;have tk:∃v,H' c=aa v:=by
   obtain z |z:=hc
   ·exact⟨o,by rw[z];exact e⟩
   ·exact⟨_,z⟩
  obtain⟨v,tk⟩:=tk;exact keepB c u q (λz=>by rw[(h0 c z).2]at tk;cases tk) λz=>by rw[I.stkFree c z]at tk;cases tk
 ·obtain⟨oe,vs,T,oT,ts,e1,e2,e3,e4,e5,e6,e7,e8,e9⟩:=tr;have nf:T∉frs X.stack:=λhb=>by
   obtain⟨_,o,eo,nf⟩:=ff.mem hb;rw[e7]at eo;cases eo;exact nf ts e8
  have both:X.s₀.heap.get? T=none∧H' T=none:=by
   by_cases hT:T∈hid
   ·exact h0 T hT
   ·have z:s'.heap.get? T=none:=by
     cases q:s'.heap.get? T with
     |none=>rfl
     |some o=>
      rw[fQ _ q λz=>(bp.mp z).elim hT nf]at e5;cases e5
    constructor
    ·cases q:X.s₀.heap.get? T with
     |none=>rfl
     |some o=>obtain⟨o',q'⟩:=I.base.there T o q (nx T);rw[z]at q';cases q'
    ·cases q:H' T with
     |none=>rfl
     |some u=>obtain⟨o',q'⟩:=(I.cG T u q).ex;rw[z]at q';cases q'
  exact⟨oe,vs,T,oT,ts,e1,e2,e3,e4,both.1,both.2,e6,e7,e8,e9⟩
def Aw{h base:aE}{l:List bP}{hid:List ai}(hl:h.FunFrames base l):h.FunFrames (du h (hid++frs l)) l:=
 PySem.W.funFrames_hide hl λenv he a ha=>cp _ (i7.mpr ⟨env,he,ha⟩)
def Ux{P:bh}{w:aS}{K:ao}{mg:ah→Option aj}{base:aE}{N:List ah}{qual:ah}{scope:Scope}{f:ai}{cdv:aj}{A:br}{outer:List bP}{s:am}{H:Hp}{E:XK}{EW:ah→li→Prop}
    (hEW:∀cl C S' H',bS K bj cl=aa (aa (.ref C))→mD K H' S'→EW cl S'→E (.ref C) none H'):oM (vh (si P w) P w K mg base N qual scope f cdv A outer s H E) (λc _ S'=>EW c S') where
  own:=db.leaving
  far:=λag σ H1 s1 σW cl C a H' S' s' I hσ hn os bare un ok fly hS q=>by
    have I':=I.call' os un ok bare (λ_ z=>nomatch z);obtain⟨g1,g2,oe,vs,T,oT,ts,e1,e2,e3,e4,g3,g4,e5,e6,e7,e8⟩:=fly;have s0:∀{b:ai},s1.heap.get? b=none→s.heap.get? b=none:=λ{b} z=>by
      cases q:s.heap.get? b with
      |none=>rfl
      |some o=>obtain⟨o',q'⟩:=I.base.there b o q (by exact λz=>nomatch z);rw[z]at q';cases q'
    refine wpAny_leaving_next (base:=du s'.heap ([a,T]++frs (cD qual scope s.heap.objs.size f cdv::outer))) I'.ok.frames (Aw I'.stack) rfl ⟨oe,vs,T,oT,ts,e1,e2,e3,e4,eD _ (by simp),e5,e6,e7,e8⟩ (λb o z=>gd _ z) (eD _ (by simp)) λh' L=>?_;obtain⟨u1,u2,u3⟩:=IA (hid:=[a,T]) I' rfl rfl rfl (λb hb=>by
      obtain rfl |hb:=az.mp hb
      · exact⟨s0 g1,g2⟩
      · rw[bi.mp hb];exact⟨s0 g3,g4⟩) (by simp) L
    exact⟨a,C,H',rfl,I'.os,I'.bare,u1,u2,u3,hEW cl C S' H' hn hS q⟩
  near:=λag σ H1 s1 σW cl C a S h' args I hσ hn me hS q=>by
    have I':=I.kept (t':=s1.toks) me.keeps;obtain⟨t,e1,_,_⟩:=me.there;have s0:s.heap.get? a=none:=by
      cases q:s.heap.get? a with
      |none=>rfl
      |some o=>obtain⟨o',q'⟩:=I.base.there a o q (by exact λz=>nomatch z);rw[me.new]at q';cases q'
    have h1:H1 a=none:=by
      cases q:H1 a with
      |none=>rfl
      |some u=>obtain⟨o',q'⟩:=(I.cG a u q).ex;rw[me.new]at q';cases q'
    refine wpAny_leaving_first (base:=du h' ([a]++frs (cD qual scope s.heap.objs.size f cdv::outer))) (s:={ s1 with heap:=h' }) I'.ok.frames (Aw I'.stack) rfl e1 (λb o z=>gd _ z) (eD _ (by simp)) rfl rfl λh'' L=>?_;obtain⟨u1,u2,u3⟩:=IA (hid:=[a]) I' rfl rfl rfl (λb hb=>by rw[bi.mp hb];exact⟨s0,h1⟩) (by simp) L
    exact⟨a,C,H1,rfl,I'.os,I'.bare,u1,u2,u3,hEW cl C S H1 hn hS q⟩
def n9 (S:li) (a:ai) (Q:List W→Prop):Prop:=match S a with
 |some (.bO ws)=>Q ws
 |_=>False
def m8{Q:List W→Prop}(h:S a=aa (.bO ws)):n9 S a Q=Q ws:=by unfold n9;rw[h]
def qi{Q:List W→Prop}(h:n9 S a Q):∃ws,S a=aa (.bO ws)∧Q ws:=by
 unfold n9 at h;split at h
 ·exact⟨_, ‹_›,h⟩
 ·exact h.elim
def ur:W→li→(Bool→li→Prop)→Prop
 | .cc,S,Q=>Q false S
 | .bl b,S,Q=>Q b S
 | .int i,S,Q=>Q (i != 0) S
 | .str x,S,Q=>x.length≤sizeLine∧Q ((x.length:Int) != 0) S
 | .bW ws,S,Q=>Q (!ws.isEmpty) S
 | .ref a,S,Q=>n9 S a λws=>Q (!ws.isEmpty) S
 | .c6 ns,S,Q=>Q (!ns.isEmpty) S
def oY (t:WE) (E:WX) (σ:mS) (S:li) (Q:Bool→li→Prop):Prop:=t E σ S λw S'=>ur w S' Q
def nA (t:WE) (E:WX) (σ:mS) (S:li) (Q:Bool→li→Prop):Prop:=t E σ S λw S'=>match w with
 | .bl b=>Q b S'
 |_=>False
def rH (t u:WT) (E:WX) (σ:mS) (S:li) (Q:Bool→li→Prop):Prop:=t E σ S λc S1=>if c=true then u E σ S1 Q else Q false S1
def tI (t u:WT) (E:WX) (σ:mS) (S:li) (Q:Bool→li→Prop):Prop:=t E σ S λc S1=>if c=true then Q true S1 else u E σ S1 Q
def tm (t:WT) (E:WX) (σ:mS) (S:li) (Q:Bool→li→Prop):Prop:=t E σ S λc S1=>Q (!c) S1
def vI (t u:WE) (E:WX) (σ:mS) (S:li) (Q:WK):Prop:=t E σ S λw S1=>match w with
 | .bl true=>u E σ S1 Q
 | .bl false=>Q (.bl false) S1
 |_=>False
def MD (t u:WE):WE:=λE σ S Q=>t E σ S λw S1=>match w with
 | .bl false=>u E σ S1 Q
 | .bl true=>Q (.bl true) S1
 |_=>False
def KW (t:WE):WE:=λE σ S Q=>t E σ S λw S1=>match w with
 | .bl b=>Q (.bl !b) S1
 |_=>False
def yX (c:WT) (t u:WE) (E:WX) (σ:mS) (S:li) (Q:WK):Prop:=c E σ S λb S1=>if b=true then t E σ S1 Q else u E σ S1 Q
def nE (c:WT) (t u:WS) (E:WX) (D:mY) (σ:mS) (S:li):Prop:=c E σ S λb S1=>if b=true then t E D σ S1 else u E D σ S1
def nB (_:WX) (D:mY) (σ:mS) (S:li):Prop:=D.nx σ S
def mz (t u:WS) (E:WX) (D:mY) (σ:mS) (S:li):Prop:=t E { D with nx:=u E D } σ S
def mU (e:WE) (E:WX) (D:mY) (σ:mS) (S:li):Prop:=e E σ S D.rt
def HZ:WS:=λ_ D _ S=>D.rt .cc S
def oZ (e:WE) (E:WX) (D:mY) (σ:mS) (S:li):Prop:=e E σ S λ_ S1=>D.nx σ S1
def PX:WS:=λ_ _ _ _=>False
def mx (i:Nat) (w:W) (σ:mS) (S:li) (Q:mS→li→Prop):Prop:=Q (σ.set i (aa w)) S
def mr (e:WE) (g:WG) (E:WX) (D:mY) (σ:mS) (S:li):Prop:=e E σ S λw S1=>g w σ S1 D.nx
abbrev WGs:=List W→mS→li→(mS→li→Prop)→Prop
def o6 (ws:List W) (σ:mS) (S:li) (Q:mS→li→Prop):Prop:=match ws with
 | []=>Q σ S
 |_=>False
def nP (g:WG) (u:WGs) (ws:List W) (σ:mS) (S:li) (Q:mS→li→Prop):Prop:=match ws with
 | []=>False
 |w::r=>g w σ S λσ' S'=>u r σ' S' Q
def pC (u:WGs) (w:W) (σ:mS) (S:li) (Q:mS→li→Prop):Prop:=match w with
 | .bW ws=>u ws σ S Q
 |_=>False
def Mp{K:ao}{H:Hp}{w:W}{v:V}{S:li}{QW:Bool→li→Prop}(r:nK K H w v) (hS:mD K H S) (h:ur w S QW):∃k,AE K v H k∧QW k S:=by
 cases r with
 |cc=>exact⟨false,rfl,h⟩
 |bl b=>exact⟨b,rfl,h⟩
 |int i=>exact⟨_,rfl,h⟩
 |str x=>exact⟨_,⟨h.1,rfl⟩,h.2⟩
 |ref a=>
  obtain⟨ws,e,h⟩:=qi h;obtain⟨vs,e1,r1⟩:=hS a _ e;refine⟨_, .inl ⟨vs, .of e1,rfl⟩,?_⟩;have q:vs.isEmpty=ws.isEmpty:=by cases r1<;>rfl
  rw[q];exact h
 | @c6 a ns f=>
  refine⟨_, .inl ⟨_,f.sq,rfl⟩,?_⟩;have q:(ns.map V.int).isEmpty=ns.isEmpty:=by cases ns<;>rfl
  rw[q];exact h
 | @bW a vs ws f hs=>
  refine⟨_, .inr (.inl ⟨vs, .of f,rfl⟩),?_⟩;have q:vs.isEmpty=ws.isEmpty:=by cases hs<;>rfl
  rw[q];exact h
def OS (ha:JE X a ta) (he:∀whole,isTrue a X.env whole=(do let v ←whole;standAt a.pos;holding [v] (truthy v)):=by intro _;rfl):JT X a (oY ta):=λE hE=>
 (Yh (ha E hE) he).mono λσ H Q ⟨σW,S,QW,hσ,hS,ht,hQ⟩=>⟨σW,S,_,hσ,hS,ht,λw S1 v H1 e1 r1 iU h1=>by
  obtain⟨k,hk,q⟩:=Mp r1 iU h1;exact⟨k,hk,hQ k S1 H1 e1 iU q⟩⟩
def W7 (ho:n_ X (bB op) r) (hw:qZ X.K r wr) (ha:JE X a ta) (hb:JE X b tb) (hm:fK op b=false):JT X (.Compare a [op] [b] pos) (nA (mq wr ta tb)):=λE hE=>
 (Ww ho (ha E hE) (hb E hE) hm).mono λσ H Q ⟨σW,S,QW,hσ,hS,ht,hQ⟩=>by
  refine Ct (Q:=λv H1=>∃k,v= .bl k∧Q k H1) ⟨σW,S,λw S'=>match w with
   | .bl b=>QW b S'
   |_=>False,hσ,hS,ht,λw S1 v H1 e1 r1 iU h1=>?_⟩ λH2 x y wx wy S QW rx ry hS q hQ=>hw H2 x y wx wy S _ QW rx ry hS q hQ
  cases r1 with
  |bl k=>exact⟨k,rfl,hQ k S1 H1 e1 iU h1⟩
  |_=>exact h1.elim
def Sl (ha:JT X a tA):JT X (.UnaryOp .Not a pos) (tm tA):=λE hE=>
 (Sw (ha E hE)).mono λσ H Q ⟨σW,S,QW,hσ,hS,ht,hQ⟩=>⟨σW,S,_,hσ,hS,ht,λb S1 H1 e1 iU h1=>hQ _ S1 H1 e1 iU h1⟩
def JW.jt (h:JW X a tA):JT X a tA:=λE hE=>(h E hE).pt
def YM (ha:JT X a tA):JW X (.BoolOp .And [a] pos) tA:=λE hE=>Y3 (ha E hE)
def OF (ha:JT X a tA):JW X (.BoolOp .Or [a] pos) tA:=λE hE=>QF (ha E hE)
def UA{rest:List Expr}(ha:JT X a tA) (hb:JW X (.BoolOp .And (b::rest) pos) tB'):JW X (.BoolOp .And (a::b::rest) pos) (rH tA tB'):=λE hE=>
 (S9 (ha E hE) (hb E hE)).mono λσ H Q ⟨σW,S,QW,hσ,hS,ht,hQ⟩=>⟨σW,S,_,hσ,hS,ht,λb S1 H1 e1 iU h1=>by
  cases b with
  |true=>exact⟨σW,S1,_,hσ.ext e1,iU,h1,λb S2 H2 e2 hS2 h2=>hQ b S2 H2 (e1.trans e2) hS2 h2⟩
  |false=>exact hQ _ S1 H1 e1 iU h1⟩
def UF{rest:List Expr}(ha:JT X a tA) (hb:JW X (.BoolOp .Or (b::rest) pos) tB'):JW X (.BoolOp .Or (a::b::rest) pos) (tI tA tB'):=λE hE=>
 (Yf (ha E hE) (hb E hE)).mono λσ H Q ⟨σW,S,QW,hσ,hS,ht,hQ⟩=>⟨σW,S,_,hσ,hS,ht,λb S1 H1 e1 iU h1=>by
  cases b with
  |false=>exact⟨σW,S1,_,hσ.ext e1,iU,h1,λb S2 H2 e2 hS2 h2=>hQ b S2 H2 (e1.trans e2) hS2 h2⟩
  |true=>exact hQ _ S1 H1 e1 iU h1⟩
def U'{op}(h:JE X a ta):JE X (.BoolOp op [a] pos) ta:=λE hE=>Td (h E hE)
def VZ{rest:List Expr}(ha:JE X a ta) (hb:JE X (.BoolOp .And (b::rest) pos) tb):JE X (.BoolOp .And (a::b::rest) pos) (vI ta tb):=λE hE=>
 (YF (ha E hE) (hb E hE)).mono λσ H Q ⟨σW,S,QW,hσ,hS,ht,hQ⟩=>⟨σW,S,_,hσ,hS,ht,λw S1 v H1 e1 r1 iU h1=>by
  cases r1 with
  |bl k=>
   refine⟨k,rfl,?_⟩;cases k with
   |true=>exact⟨σW,S1,_,hσ.ext e1,iU,h1,hQ.from e1⟩
   |false=>exact hQ _ S1 _ H1 e1 (.bl false) iU h1
  |_=>exact h1.elim⟩
def VJ{rest:List Expr}(ha:JE X a ta) (hb:JE X (.BoolOp .Or (b::rest) pos) tb):JE X (.BoolOp .Or (a::b::rest) pos) (MD ta tb):=λE hE=>
 (SR (ha E hE) (hb E hE)).mono λσ H Q ⟨σW,S,QW,hσ,hS,ht,hQ⟩=>⟨σW,S,_,hσ,hS,ht,λw S1 v H1 e1 r1 iU h1=>by
  cases r1 with
  |bl k=>
   refine⟨k,rfl,?_⟩;cases k with
   |false=>exact⟨σW,S1,_,hσ.ext e1,iU,h1,hQ.from e1⟩
   |true=>exact hQ _ S1 _ H1 e1 (.bl true) iU h1
  |_=>exact h1.elim⟩
def VA (ha:JE X a ta):JE X (.UnaryOp .Not a pos) (KW ta):=λE hE=>
 (Yz (ha E hE)).mono λσ H Q ⟨σW,S,QW,hσ,hS,ht,hQ⟩=>⟨σW,S,_,hσ,hS,ht,λw S1 v H1 e1 r1 iU h1=>by
  cases r1 with
  |bl k=>exact⟨k,rfl,hQ _ S1 _ H1 e1 (.bl _) iU h1⟩
  |_=>exact h1.elim⟩
def Tz (hc:JT X c tc) (ha:JE X a ta) (hb:JE X b tb):JE X (.IfExp c a b pos) (yX tc ta tb):=λE hE=>
 (R_ (hc E hE) (ha E hE) (hb E hE)).mono λσ H Q ⟨σW,S,QW,hσ,hS,ht,hQ⟩=>⟨σW,S,_,hσ,hS,ht,λk S1 H1 e1 iU h1=>by
  cases k with
  |true=>exact⟨σW,S1,_,hσ.ext e1,iU,h1,hQ.from e1⟩
  |false=>exact⟨σW,S1,_,hσ.ext e1,iU,h1,hQ.from e1⟩⟩
def UI:sy X [] nB:=λE hE=>ui.mono λD σ H ⟨σW,S,DW,hσ,hS,ht,hD⟩=>hD.nx σW S σ H .refl hσ hS ht
def OV{X:Cx}{st:aW}{rest:List aW}{t u:WS}(h1:JS X st t) (h2:sy X rest u):sy X (st::rest) (mz t u):=λE hE=>
 (V4 (h1 E hE) (h2 E hE)).mono λD σ H ⟨σW,S,DW,hσ,hS,ht,hD⟩=>
  ⟨σW,S,{ DW with nx:=u E DW },hσ,hS,ht,⟨λσW' S' σ' H' e r hS' q=>⟨σW',S',DW,r,hS',q,hD.from e⟩,hD.rt,hD.bk,hD.ct⟩⟩
def Zo{X:Cx}{st:aW}{t:WS}(h1:JS X st t):sy X [st] t:=λE hE=>Iy (h1 E hE)
def Zm:JS X (.Pass pos) nB:=λE hE=>uG.mono λD σ H ⟨σW,S,DW,hσ,hS,ht,hD⟩=>hD.nx σW S σ H .refl hσ hS ht
def P9{X:Cx}{st:aW}:JS X st PX:=λE hE=>sQ.mono λD σ H ⟨σW,S,DW,hσ,hS,ht,hD⟩=>ht
def Vt (he:JE X e ta) (hs:d6 e none pos.line X.env=pure false:=by rfl):JS X (.Expr e pos) (oZ ta):=λE hE=>
 (VW (he E hE) hs).mono λD σ H ⟨σW,S,DW,hσ,hS,ht,hD⟩=>⟨σW,S,_,hσ,hS,ht,λw S1 v H1 e1 r1 iU h1=>hD.nx σW S1 σ H1 e1 (hσ.ext e1) iU h1⟩
def Q3 (he:JE X e ta):JS X (.Return (aa e) pos) (mU ta):=λE hE=>
 (Kp (he E hE)).mono λD σ H ⟨σW,S,DW,hσ,hS,ht,hD⟩=>⟨σW,S,_,hσ,hS,ht,hD.rt⟩
def RT:JS X (.Return none pos) HZ:=λE hE=>uH.mono λD σ H ⟨σW,S,DW,hσ,hS,ht,hD⟩=>hD.rt .cc S .cc H .refl .cc hS ht
def PC{a b:List aW}(hc:JT X c tc) (ha:sy X a t) (hb:sy X b u):JS X (.If c a b pos) (nE tc t u):=λE hE=>
 (UM (hc E hE) (ha E hE) (hb E hE)).mono λD σ H ⟨σW,S,DW,hσ,hS,ht,hD⟩=>⟨σW,S,_,hσ,hS,ht,λk S1 H1 e1 iU h1=>by
  cases k with
  |true=>exact⟨σW,S1,DW,hσ.ext e1,iU,h1,hD.from e1⟩
  |false=>exact⟨σW,S1,DW,hσ.ext e1,iU,h1,hD.from e1⟩⟩
def SG (hN:X.N.Nodup) (hi:X.N[i]? =aa x) (hx:tp X.env.scope x) (hf:X.fn x=true∨X.env.scope.names.lookup x=aa .local:=by first |exact .inl rfl |exact .inr rfl |assumption):JG X (.Name x pos) (mx i):=λE hE=>
 (Te hN hi hx hf).mono λv σ H Q ⟨w,σW,S,P,r,hσ,hS,ht,hP⟩=>hP _ S _ H .refl (hσ.set r i) hS ht
def vF (X:Cx) (tgs:List Expr) (t:WGs):Prop:=∀E,oM X E→yP X tgs (λvs σ H Q=>∃ws σW S P,mC X.K H ws vs∧nj X.K H σW σ∧mD X.K H S∧t ws σW S P∧qk X.K H S P Q)
def Z':vF X [] o6:=λE hE ag s σ H vs us Q I r h=>by
 obtain⟨ws,σW,S,P,rs,hσ,hS,ht,hP⟩:=h;unfold o6 at ht;split at ht
 ·cases rs;exact QJ ag s σ H [] us Q I r ⟨rfl,hP σW S σ H .refl hσ hS ht⟩
 ·exact ht.elim
def Vk (h1:JG X e g) (h2:vF X es gs)
  (hs:(cb (e::es) X.env).map (·.2)=assign e X.env::(cb es X.env).map (·.2):=by rfl):vF X (e::es) (nP g gs):=λE hE ag s σ H vs us Q I r h=>by
 obtain⟨ws,σW,S,P,rs,hσ,hS,ht,hP⟩:=h;unfold nP at ht;split at ht
 ·exact ht.elim
 ·cases rs with
  |cons r1 r2=>
   refine Zg (h1 E hE) (h2 E hE) hs ag s σ H _ us Q I r ⟨_,_,rfl,⟨_,σW,S,_,r1,hσ,hS,ht,λσW' S' σ' H' e' rr hS' q=>?_⟩⟩;exact⟨_,σW',S',P,r2.ext e',rr,hS',q,hP.from e'⟩
def Rm (h:vF X es gs) (hlen:∀ws σ S P,gs ws σ S P→ws.length=n)
  (hn:(cb es X.env).length=n:=by rfl) (hst:(cb es X.env).findIdx? (·.1)=none:=by rfl) (hcl:X.calm=true:=by rfl):JG X (.Tuple es k pos) (pC gs):=λE hE=>
 (SN hcl (h E hE) hn hst).mono λv σ H Q ⟨w,σW,S,P,r,hσ,hS,ht,hP⟩=>by
  cases r with
  |bW f hs=>exact⟨_,_,rfl, .of f,by rw[←hs.length];exact hlen _ _ _ _ ht,⟨_,σW,S,P,hs,hσ,hS,ht,hP⟩⟩
  |_=>exact ht.elim
def Sd (he:JE X e ta) (hg:JG X tg g) (hs:jR [tg] e pos.line X.env=pure false:=by rfl) (hw:iQ [tg] e X.env=pure none:=by rfl)
  (h1:(cb [tg] X.env).map (·.2)=[assign tg X.env]:=by rfl):JS X (.Assign [tg] e pos) (mr ta g):=λE hE=>
 (QD (he E hE) (hg E hE) hs hw h1).mono λD σ H ⟨σW,S,DW,hσ,hS,ht,hD⟩=>⟨σW,S,_,hσ,hS,ht,λw S1 v H1 e1 r1 iU h1=>⟨w,σW,S1,_,r1,hσ.ext e1,iU,h1,hD.nx.from e1⟩⟩
def M9 (hN:X.N.Nodup) (hi:X.N[i]? =aa x) (hx:tp X.env.scope x) (he:JE X e ta) (hs:d6 e (aa (.Name x pos')) pos.line X.env=pure false:=by rfl)
  (hf:X.fn x=true∨X.env.scope.names.lookup x=aa .local:=by first |exact .inl rfl |exact .inr rfl |assumption):JS X (.Assign [.Name x pos'] e pos) (mr ta (mx i)):=λE hE=>
 (Zs hN hi hx (he E hE) hs hf).mono λD σ H ⟨σW,S,DW,hσ,hS,ht,hD⟩=>⟨σW,S,_,hσ,hS,ht,λw S1 v H1 e1 r1 iU h1=>hD.nx _ S1 _ H1 e1 ((hσ.ext e1).set r1 i) iU h1⟩
def ae (_:WX) (_:mS) (S:li) (Q:List W→li→Prop):Prop:=Q [] S
def jK (t:WE) (u:WA) (E:WX) (σ:mS) (S:li) (Q:List W→li→Prop):Prop:=t E σ S λw S1=>u E σ S1 λws S2=>Q (w::ws) S2
def m5 (t:WA) (E:WX) (σ:mS) (S:li) (Q:WK):Prop:=t E σ S λws S1=>ws.length≤sizeLine∧Q (.bW ws) S1
def nI (t:WA) (E:WX) (σ:mS) (S:li) (Q:List W→li→Prop):Prop:=t E σ S λws S1=>ws.length≤sizeLine∧Q ws S1
def nw (t:WL) (E:WX) (σ:mS) (S:li) (Q:WK):Prop:=t E σ S λws S1=>∀a,S1 a=none→Q (.ref a) (bR S1 a (.bO ws))
def VL:JA X [] ae:=λE hE=>oR.mono λσ H Q ⟨σW,S,QW,hσ,hS,ht,hQ⟩=>hQ [] S [] H .refl .nil hS ht
def X_ (ha:JE X e te) (hr:JA X es ta) (hs:ax (e::es) X.env=(false,aH e X.env)::ax es X.env:=by rfl):JA X (e::es) (jK te ta):=λE hE=>
 (tL (ha E hE) (hr E hE) hs).mono λσ H Q ⟨σW,S,QW,hσ,hS,ht,hQ⟩=>⟨σW,S,_,hσ,hS,ht,λw S1 v H1 e1 r1 iU h1=>⟨σW,S1,_,hσ.ext e1,iU,h1,λws S2 vs H2 e2 r2 hS2 h2=>
  hQ (w::ws) S2 (v::vs) H2 (e1.trans e2) (.cons (r1.ext e2) r2) hS2 h2⟩⟩
def Y6{x1}(h:JA X es ta):JE X (.Tuple es x1 pos) (m5 ta):=λE hE=>
 (Zf (h E hE)).mono λσ H Q ⟨σW,S,QW,hσ,hS,ht,hQ⟩=>⟨σW,S,_,hσ,hS,ht,λws S1 vs H1 e1 r1 iU h1=>by
  refine⟨by rw[←r1.length];exact h1.1,λp hp=>hQ (.bW ws) S1 _ _ (e1.trans (.new hp)) (.bW pE (r1.ext (.new (S:=S1) hp))) (iU.new hp) h1.2⟩⟩
def T1 (h:JA X es ta):JL X (.List es pos) (nI ta):=λE hE=>
 (XS (h E hE)).mono λσ H Q ⟨σW,S,QW,hσ,hS,ht,hQ⟩=>⟨σW,S,_,hσ,hS,ht,λws S1 vs H1 e1 r1 iU h1=>by
  refine⟨by rw[←r1.length];exact h1.1,λp hp=>hQ ws S1 vs p _ (e1.trans (.new hp)) (e1.free hp) pE (iU.free hp) (r1.ext (.new (S:=S1) hp)) (iU.new hp) h1.2⟩⟩
def Oh (h:JL X e tl):JE X e (nw tl):=λE hE=>
 (h E hE).mono λσ H Q ⟨σW,S,QW,hσ,hS,ht,hQ⟩=>⟨σW,S,_,hσ,hS,ht,λws S1 vs a H1 e1 fa ea na r1 iU h1=>by
  refine hQ (.ref a) (bR S1 a (.bO ws)) (.ref a) H1 ⟨e1.bW,e1.frz,λb o q g=>by
   have hb:b≠a:=by rintro rfl;rw[fa]at q;cases q
   rw[nO hb];exact e1.fr b o q g,e1.all⟩ (.ref a) (λb o q=>?_) (h1 a na)
  by_cases hb:b=a
  ·subst hb;rw[mR]at q;cases q;exact⟨vs,ea,r1⟩
  ·rw[nO hb]at q;exact iU b o q⟩
def mG (c:mI) (t:WA) (E:WX) (σ:mS) (S:li) (Q:WK):Prop:=t E σ S λws S1=>c ws S1 Q λcl S2=>E cl σ S2
def nz (n k:Nat) (body:WS) (ws:List W) (S:li) (Q:WK) (E:ah→li→Prop):Prop:=ws.length=k∧body (λc _ S'=>E c S') { nx:=λ_ S'=>∃S'',Sub S'' S'∧Q .cc S'',rt:=λw S'=>∃S'',Sub S'' S'∧Q w S'' } (ws.map aa++bn (n - k) none) S
def ZZ (F:oU X.prog X.w X.K X.mg X.base (si X.prog X.w) k f fd ps (rL X.K c)) (hr:oj k X.A) (hg:Gl X x) (hm:X.mg x=aa (.ref f)) (hk:fD X.K (.ref f)=true) (hb:pj X.K fd ps [])
  (ha:JA X (e::es) t) (hdb:(x == ("__debug__" :ah))=false:=by decide) (he:ax (e::es) X.env=(false,aH e X.env)::ax es X.env:=by rfl) (hpl:(aZ pos (ax es X.env)).any (·.1)=false:=by rfl) :
  JE X (.Call (.Name x p) (e::es) [] pos) (mG c t):=λE hE ag s σ H Q I h=>by
 obtain⟨σW,S,QW,hσ,hS,ht,hQ⟩:=h;refine gp (yy I hg hm ?_ hdb);refine lW (h₀:=X.base) I.ok.mod.kin hk (nD (ha E hE pos ag s σ H (λvs H1=>∃ws S1,mC X.K H1 ws vs∧nj X.K H1 σW σ∧mD X.K H1 S1∧c ws S1 QW (λcl S'=>E cl σW S')∧oF X.K H1 S1 QW Q) I
  ⟨σW,S,_,hσ,hS,ht,λws S1 vs H1 e1 r1 iU h1=>⟨ws,S1,r1,hσ.ext e1,iU,h1,hQ.from e1⟩⟩) λus s1 ⟨vs,H1,I1,r,ws,S1,r1,hσ1,iU,h1,hQ1⟩=>⟨I1.kIn,?_⟩) he hpl
 exact VS F hr hb hE I1 r r1 hσ1 iU h1 hQ1
def ZC{K:ao}{H:Hp}{N:List ah}{ws:List W}{vs:List V}(h:mC K H ws vs):nj K H (ws.map aa++bn (N.length - ws.length) none) (start N vs):=by
 have go:∀{ws:List W}{vs:List V}(m:Nat),mC K H ws vs→nj K H (ws.map aa++bn m none) (vs.map aa++bn m none):=by
  intro ws
  induction ws with
  |nil=>
   intro vs m h;cases h
   induction m with
   |zero=>exact .nil
   |succ m ih=>exact .cons trivial ih
  |cons w ws ih=>
   intro vs m h;cases h with
   |cons r rs=>exact .cons r (ih m rs)
 unfold start;rw[←h.length];exact go _ h
def SW{P:bh}{w:aS}{K:ao}{mg:ah→Option aj}{base:aE}{x qual:ah}{st:aW}{f:ai}{fd:dc}{N ps:List ah}{r n k:Nat}{body:WS}(F:tF K x qual st f fd) (S:pi N ps (qq st)) (hn:N.length=n) (hk:ps.length=k)
  (hbody:∀(cdv:aj) (A:br) (outer:List bP) (s:am) (H:Hp) (E:XK),oj r (A.deeper (cD qual (qq st) s.heap.objs.size f cdv))→
   sy (vh (si P w) P w K mg base N qual (qq st) f cdv A outer s H E) (ue st) body):oU P w K mg base (si P w) (r+1) f fd ps (rL K (nz n k body)):=by
 obtain⟨oc,od,kV,doc,pm,an,cdv,ct,osl,rfl,lk,hcd⟩:=F.ex;refine MF lk hcd S (λvs H Q E h=>?_) λA outer s H vs Q E hr h=>?_
 ·obtain⟨ws,S,QW,EW,rs,_,h,_⟩:=h;rw[←rs.length,h.1,hk]
 ·obtain⟨ws,S',QW,EW,rs,hS,h,hQ,hEW⟩:=h;refine⟨_,hbody cdv A outer s H E hr (λc _ S'=>EW c S') (Ux hEW),?_⟩;refine⟨_,S',{ nx:=λ_ S'=>∃S'',Sub S'' S'∧QW .cc S'',rt:=λw S'=>∃S'',Sub S'' S'∧QW w S'' },ZC (N:=N) rs,hS,by rw[hn,h.1];exact h.2,⟨λσW S1 σ H1 e1 rr iU q=>?_,λw S1 v H1 e1 rr iU q=>?_,λ_ _ _ _ _ _ _ q=>q,λ_ _ _ _ _ _ _ q=>q⟩⟩
  ·obtain⟨S2,sb,q⟩:=q;exact hQ .cc S2 .cc H1 (e1.trans (.drop sb)) .cc (iU.sub sb) q
  ·obtain⟨S2,sb,q⟩:=q;exact hQ w S2 v H1 (e1.trans (.drop sb)) rr (iU.sub sb) q
def oK (C:Int→Int→Prop) (g:Int→Int→W):W2
 | .int i, .int j,S,Q=>C i j∧Q (g i j) S
 |_,_,_,_=>False
def rA (g:Int→Int→W):W2
 | .int i, .int j,S,Q=>Q (g i j) S
 |_,_,_,_=>False
def Bn{K:ao}{C:Int→Int→Prop}{g:Int→Int→Int}:qZ K (rI C λi j=> .int (g i j)) (oK C λi j=> .int (g i j)):=λH x y wx wy S Q QW rx ry hS h hQ=>by
 cases rx<;>cases ry<;>first |exact⟨_,_,rfl,rfl,h.1,hQ _ S _ H .refl (.int _) hS h.2⟩ |exact h.elim
def T9{K:ao}{g:Int→Int→Int}:qZ K (se λi j=> .int (g i j)) (rA λi j=> .int (g i j)):=λH x y wx wy S Q QW rx ry hS h hQ=>by
 cases rx<;>cases ry<;>first |exact⟨_,_,rfl,rfl,hQ _ S _ H .refl (.int _) hS h⟩ |exact h.elim
def EG{K:ao}{g:Int→Int→Bool}:qZ K (se λi j=> .bl (g i j)) (rA λi j=> .bl (g i j)):=λH x y wx wy S Q QW rx ry hS h hQ=>by
 cases rx<;>cases ry<;>first |exact⟨_,_,rfl,rfl,hQ _ S _ H .refl (.bl _) hS h⟩ |exact h.elim
def om:W2
 | .int i, .int j,S,Q=>Q (.int (i+j)) S
 | .str x, .str y,S,Q=>x.length+y.length≤sizeLine∧Q (.str (x++y)) S
 | .bW xs, .bW ys,S,Q=>xs.length+ys.length≤sizeLine∧Q (.bW (xs++ys)) S
 | .ref a, .ref b,S,Q=>n9 S a λxs=>n9 S b λys=>xs.length+ys.length≤sizeLine∧ ∀p,S p=none→Q (.ref p) (bR S p (.bO (xs++ys)))
 |_,_,_,_=>False
def mC.nil_r{K:ao}{H:Hp}{ws:List W}(h:mC K H ws []):ws=[]:=by cases h;rfl
def sT:n_ X (ca .Add) (λx y H Q=>∃a b ys,x= .ref a∧y= .ref b∧oX X.K H a []∧oX X.K H b ys∧Q (.ref b) H):=by
 intro ag s σ H x y v u Q I rx ry h;obtain⟨a,b,ys,rfl,rfl,ha,hb,q⟩:=h;cases rx;cases ry;obtain⟨eA,r1,p1,_⟩:=I.tuple ha;obtain⟨its2,r2,p2,_⟩:=I.tuple hb;cases r1;obtain⟨⟨cls,dd,data,sl⟩,ho,hc,n,hd⟩:=id p1;obtain⟨⟨cls2,dd2,data2,sl2⟩,ho2,hc2,n2,hd2⟩:=id p2;simp only at hc hd hc2 hd2;subst hc hd hc2 hd2;exact jn ⟨_,ho,rfl⟩ ⟨_,ho2,rfl⟩ jo jm jT jf (ip _ _)
   (tuple_addW0 a b _ _ n n2 dd dd2 sl sl2 (by simp)) ⟨ho,ho2,⟨.ref b,H,I,rfl,q⟩⟩
def O3:n_ X (ca .Add) (λx y H Q=>(se λi j=> .int (i+j)) x y H Q∨(∃i j,x= .str i∧y= .str j∧i.length+j.length≤sizeLine∧Q (.str (i++j)) H)∨
  (∃a b ys,x= .ref a∧y= .ref b∧oX X.K H a []∧oX X.K H b ys∧Q (.ref b) H)∨DH X.K x y H Q∨EN x y H Q):=vw.or (rk.or (sT.or (uz.or BW)))
def Q6{K:ao}:qZ K (λx y H Q=>(se λi j=> .int (i+j)) x y H Q∨(∃i j,x= .str i∧y= .str j∧i.length+j.length≤sizeLine∧Q (.str (i++j)) H)∨
  (∃a b ys,x= .ref a∧y= .ref b∧oX K H a []∧oX K H b ys∧Q (.ref b) H)∨DH K x y H Q∨EN x y H Q) om:=λH x y wx wy S Q QW rx ry hS h hQ=>by
 cases rx with
 |int i=>
  cases ry with
  |int j=>exact .inl ⟨i,j,rfl,rfl,hQ _ S _ H .refl (.int _) hS h⟩
  |_=>exact h.elim
 |str i=>
  cases ry with
  |str j=>exact .inr (.inl ⟨i,j,rfl,rfl,h.1,hQ _ S _ H .refl (.str _) hS h.2⟩)
  |_=>exact h.elim
 | @bW a vs ws f hs=>
  cases ry with
  | @bW b us zs g ks=>
   cases hs with
   |nil=>exact .inr (.inr (.inl ⟨a,b,us,rfl,rfl, .of f, .of g,hQ (.bW zs) S _ H .refl (.bW g ks) hS h.2⟩))
   |cons h1 h2=>
    refine .inr (.inr (.inr (.inl ⟨a,b,_,us,rfl,rfl, .of f, .of g,by simp,?_,λe=>?_,λe p hp=>?_⟩)))
    ·rw[←(mC.cons h1 h2).length,←ks.length];exact h.1
    ·subst e;have e':=ks.nil_r;subst e';have q:=h.2;rw[bg]at q;exact hQ _ S _ H .refl (.bW f (.cons h1 h2)) hS q
    ·exact hQ _ S _ _ (.new hp) (.bW pE (((mC.cons h1 h2).append ks).ext (.new (S:=S) hp))) (hS.new hp) h.2
  |_=>exact h.elim
 |ref a=>
  cases ry with
  |ref b=>
   obtain⟨xs,ea,h⟩:=qi h;obtain⟨ys,eb,h⟩:=qi h;obtain⟨vs,e1,r1⟩:=hS a _ ea;obtain⟨us,e2,r2⟩:=hS b _ eb;refine .inr (.inr (.inr (.inr ⟨a,b,vs,us,rfl,rfl,e1,e2,by rw[←r1.length,←r2.length];exact h.1,λp hp=>?_⟩)))
   exact hQ _ _ _ _ (.newS hp) (.ref p) (hS.put_lst hp ((r1.append r2).ext (.new (S:=S) hp))) (h.2 p (hS.free hp))
  |_=>exact h.elim
 |_=>exact h.elim
def U9 (ha:JE X a ta) (hb:JE X b tb):JE X (.BinOp a .Add b pos) (mq om ta tb):=xK O3 Q6 ha hb
def Wo (ha:JE X a ta) (hb:JE X b tb):JE X (.BinOp a .Sub b pos) (mq (rA λi j=> .int (i - j)) ta tb):=xK T3 T9 ha hb
def SF (ha:JE X a ta) (hb:JE X b tb):JE X (.BinOp a .Mult b pos) (mq (oK rD λi j=> .int (i*j)) ta tb):=xK ZV Bn ha hb
def PV (ha:JE X a ta) (hb:JE X b tb):JE X (.BinOp a .FloorDiv b pos) (mq (oK su λi j=> .int (i / j)) ta tb):=xK Pt Bn ha hb
def Xf (ha:JE X a ta) (hb:JE X b tb):JE X (.BinOp a .Mod b pos) (mq (oK (λ_ j=>0<j) λi j=> .int (i % j)) ta tb):=xK YC Bn ha hb
def Tk (ha:JE X a ta) (hb:JE X b tb):JE X (.BinOp a .Pow b pos) (mq (oK Ba λi j=> .int (i ^ j.toNat)) ta tb):=xK TJ Bn ha hb
def qY (t:WE) (E:WX) (σ:mS) (S:li) (Q:WK):Prop:=t E σ S λw S1=>match w with
 | .int i=>Q (.int (-i)) S1
 |_=>False
def O_ (ha:JE X a ta):JE X (.UnaryOp .USub a pos) (qY ta):=λE hE=>
 (QU YD (ha E hE)).mono λσ H Q ⟨σW,S,QW,hσ,hS,ht,hQ⟩=>⟨σW,S,_,hσ,hS,ht,λw S1 v H1 e1 r1 iU h1=>by
  cases r1 with
  |int i=>exact⟨i,rfl,hQ _ S1 _ H1 e1 (.int _) iU h1⟩
  |_=>exact h1.elim⟩
def Ve (t u:WE):WL:=λE σ S Q=>t E σ S λx S1=>u E σ S1 λy S2=>match x,y with
 | .ref a, .ref b=>n9 S2 a λxs=>n9 S2 b λys=>xs.length+ys.length≤sizeLine∧Q (xs++ys) S2
 |_,_=>False
def oV (f:W→W→Option Bool):List W→List W→Option Bool
 | [],[]=>aa true
 | [],_=>aa false
 |_,[]=>aa false
 |x::xs,y::ys=>match f x y,oV f xs ys with
  |some a,aa b=>aa (a&&b)
  |_,_=>none
def nY (S:li):Nat→W→W→Option Bool
 |0,_,_=>none
 |n+1,w,u=>match w,u with
  | .cc, .cc=>aa true
  | .bl a, .bl b=>aa (a == b)
  | .int a, .int b=>aa (a == b)
  | .str a, .str b=>aa (a == b)
  | .bW _, .int _=>aa false
  | .int _, .bW _=>aa false
  | .bW xs, .bW ys=>oV (nY S n) xs ys
  | .ref a, .ref b=>match S a with
   |some (.bO xs)=>match S b with
    |some (.bO ys)=>oV (nY S n) xs ys
    |_=>none
   |_=>none
  |_,_=>none
theorem LV{f:W→W→Option Bool}:∀{xs ys:List W}{b:Bool},oV f xs ys=aa b→
  (∀j,j<xs.length→j<ys.length→ ∃c,f (xs.getD j .cc) (ys.getD j .cc)=aa c)∧
  ((bx (min xs.length ys.length)).all (λj=>(f (xs.getD j .cc) (ys.getD j .cc)).getD true)&&xs.length == ys.length)=b
 | [],[],b,h=>by
  have:true=b:=aL h;subst this;exact⟨λj h=>absurd h (by simp),by simp⟩
 | [],y::ys,b,h=>by
  have:false=b:=aL h;subst this;exact⟨λj h=>absurd h (by simp),by simp⟩
 |x::xs,[],b,h=>by
  have:false=b:=aL h;subst this;exact⟨λj _ h=>absurd h (by simp),by simp⟩
 |x::xs,y::ys,b,h=>by
  unfold oV at h;split at h
  ·rename_i c d e1 e2;have hb:(c&&d)=b:=aL h;obtain⟨h1,h2⟩:=LV e2;refine⟨λj j1 j2=>?_,?_⟩
   ·cases j with
    |zero=>exact⟨c,by simpa using e1⟩
    |succ j=>simpa using h1 j (by simpa using j1) (by simpa using j2)
   ·have hm:min (xs.length+1) (ys.length+1)=min xs.length ys.length+1:=by lia
    have hl:(xs.length+1 == ys.length+1)=(xs.length == ys.length):=by simp
    rw[aT,aT,hm,gI,fo,fA,hl];have q:((λj=>(f ((x::xs).getD j .cc) ((y::ys).getD j .cc)).getD true)∘Nat.succ)=λj=>(f (xs.getD j .cc) (ys.getD j .cc)).getD true:=by
     funext j;simp
    rw[q,Bool.and_assoc,h2];have q0:(f ((x::xs).getD 0 .cc) ((y::ys).getD 0 .cc)).getD true=c:=by simp [e1]
    rw[q0,hb]
  ·cases h
theorem Dp (I:my X ag σ H s):∀(n:Nat) {wx wy:W}{v:V}{b:Bool},nK X.K H wx v→nK X.K H wy v→mD X.K H S→nY S n wx wy=aa b→b=true
 |0,_,_,_,_,_,_,_,h=>by cases h
 |n+1,wx,wy,v,b,rx,ry,hS,h=>by
  have list:∀{ws us:List W}{vs:List V}{b:Bool},mC X.K H ws vs→mC X.K H us vs→oV (nY S n) ws us=aa b→b=true:=by
   intro ws
   induction ws with
   |nil=>
    intro us vs b r1 r2 e;cases r1;cases r2;exact(aL e).symm
   |cons w ws ih=>
    intro us vs b r1 r2 e;cases r1 with
    |cons a1 a2=>
     cases r2 with
     |cons c1 c2=>
      unfold oV at e;split at e
      ·rename_i c d e1 e2;have q1:=Dp I n a1 c1 hS e1;have q2:=ih a2 c2 e2;have:=aL e;rw[q1,q2]at this;exact this.symm
      ·cases e
  cases rx with
  |cc=>cases ry;exact(aL h).symm
  |bl k=>cases ry;have:=aL h;simpa using this.symm
  |int k=>cases ry;have:=aL h;simpa using this.symm
  |str k=>cases ry;have:=aL h;simpa using this.symm
  |ref a=>
   cases ry with
   |ref _=>
    have h':(match S a with
     |some (.bO xs)=>match S a with
      |some (.bO ys)=>oV (nY S n) xs ys
      |_=>none
     |_=>none)=aa b:=h
    cases e:S a with
    |none=>rw[e]at h';cases h'
    |some o=>
     rw[e]at h';cases o with
     |bO ws=>
      obtain⟨vs,_,r⟩:=hS a _ e;exact list r r h'
     |dct _=>cases h'
     |dk _=>cases h'
     |ins _ _=>cases h'
   |c6 _=>cases h
   |bW _ _=>cases h
  |c6 f=>cases ry<;>cases h
  |bW f hs=>
   cases ry with
   |ref _=>cases h
   |c6 _=>cases h
   |bW g ks=>
    have e:=I.tuple_inj (.of f) (.of g);subst e;exact list hs ks h
theorem On{A:br}:A.in1.units=A.units+1:=rfl
theorem BA (I:my X ag σ H s) (hS:mD X.K H S):∀(n:Nat) {A:br}{wx wy:W}{x y:V}{u v:aj}{b:Bool},A.units+n<cLine→nK X.K H wx x→nK X.K H wy y→mV x u→mV y v→nY S n wx wy=aa b→
  eP A s u v b∧fH A s u v b∧fW A s u v (!b)
 |0,_,_,_,_,_,_,_,_,_,_,_,_,_,h=>by cases h
 |n+1,A,wx,wy,x,y,u,v,b,hu,rx,ry,ru,rv,h=>by
  have hu0:A.units<cLine:=by lia
  have items:∀{ws zs:List W}{xs ys:List V}{us vs:List aj}{b:Bool},mC X.K H ws xs→mC X.K H zs ys→mM xs us→mM ys vs→oV (nY S n) ws zs=aa b→
    (∀j (h1:j<us.toArray.size) (h2:j<vs.toArray.size),eP A.in1 s us.toArray[j] vs.toArray[j] ((nY S n (ws.getD j .cc) (zs.getD j .cc)).getD true))∧
    ((bx (min us.toArray.size vs.toArray.size)).all (λj=>(nY S n (ws.getD j .cc) (zs.getD j .cc)).getD true)&&us.toArray.size == vs.toArray.size)=b:=by
   intro ws zs xs ys us vs b r1 r2 q1 q2 e;obtain⟨h1,h2⟩:=LV e;have l1:=r1.length;have l2:=r2.length;have l3:=q1.length;have l4:=q2.length;refine⟨λj j1 j2=>?_,?_⟩
   ·rw[bf]at j1 j2;obtain⟨c,hc⟩:=h1 j (by lia) (by lia);have jw:j<ws.length:=by lia
    have jz:j<zs.length:=by lia
    obtain⟨x',ex,rx'⟩:=r1.get (aR jw);obtain⟨y',ey,ry'⟩:=r2.get (aR jz);obtain⟨u',eu,ru'⟩:=q1.get ex;obtain⟨v',ev,rv'⟩:=q2.get ey;have e1:us.toArray[j]=u':=by
     obtain⟨_,e⟩:=b7.mp eu;simpa using e
    have e2:vs.toArray[j]=v':=by
     obtain⟨_,e⟩:=b7.mp ev;simpa using e
    have g1:ws.getD j .cc=ws[j]:=by rw[bv,aR jw];rfl
    have g2:zs.getD j .cc=zs[j]:=by rw[bv,aR jz];rfl
    rw[e1,e2,hc];rw[g1,g2]at hc;exact(BA I hS n (by rw[On];lia) rx' ry' ru' rv' hc).1
   ·rw[bf,bf,←l3,←l4,←l1,←l2];exact h2
  cases rx with
  |cc=>
   cases(show u=cP from ru);cases ry with
   |cc=>cases(show v=cP from rv);cases h;exact⟨.same _, .none_none, .none_none⟩
   |_=>cases h
  |bl k=>
   cases(show u=eO k from ru);cases ry with
   |bl j=>cases(show v=eO j from rv);cases h;exact⟨.bool_bool _ _, .bool_bool _ _, .bool_bool _ _⟩
   |_=>cases h
  |int k=>
   obtain⟨t0,rfl⟩:=ru;cases ry with
   |int j=>obtain⟨t,rfl⟩:=rv;cases h;exact⟨.int_int _ _ _ _, .int_int _ _ _ _, .int_int _ _ _ _⟩
   |bW f hs=>cases(show v=bK _ from rv);cases h;obtain⟨eA,_,p,_⟩:=I.tuple (.of f);exact⟨.int_tuple _ _ p hu0, .int_tuple _ _ p hu0, .int_tuple _ _ p hu0⟩
   |_=>cases h
  |str k=>
   obtain⟨t0,rfl⟩:=ru;cases ry with
   |str j=>obtain⟨t,rfl⟩:=rv;cases h;exact⟨.str_str _ _ _ _, .str_str _ _ _ _, .str_str _ _ _ _⟩
   |_=>cases h
  | @bW a xs ws f hs=>
   cases(show u=bK a from ru);obtain⟨eA,q1,p,_⟩:=I.tuple (.of f);cases ry with
   |int j=>obtain⟨t,rfl⟩:=rv;cases h;exact⟨.tuple_int _ _ p hu0, .tuple_int _ _ p hu0, .tuple_int _ _ p hu0⟩
   | @bW c ys zs g ks=>
    cases(show v=bK c from rv);obtain⟨its2,q2,p2,_⟩:=I.tuple (.of g);obtain⟨h1,h2⟩:=items hs ks q1 q2 h;have rc:fH A s (.ref a) (.ref c) b:=by
     have:=fH.tuples p p2 hu0 h1;rw[h2]at this;exact this
    have rn:fW A s (.ref a) (.ref c) (!b):=by
     have:=fW.tuples p p2 hu0 h1;rw[h2]at this;exact this
    refine⟨?_,rc,rn⟩;by_cases e:a=c
    ·subst e;have:=Dp I (n+1) (.bW f hs) (.bW g ks) hS h;rw[this];exact .same _
    ·exact .of_refs e rc
   |_=>cases h
  |ref a=>
   cases(show u=bK a from ru);cases ry with
   |ref c=>
    cases(show v=bK c from rv);have h':(match S a with
     |some (.bO xs)=>match S c with
      |some (.bO ys)=>oV (nY S n) xs ys
      |_=>none
     |_=>none)=aa b:=h
    cases e:S a with
    |none=>rw[e]at h';cases h'
    |some o=>
     rw[e]at h';cases o with
     |dct _=>cases h'
     |dk _=>cases h'
     |ins _ _=>cases h'
     |bO ws=>
      cases e2:S c with
      |none=>rw[e2]at h';cases h'
      |some o2=>
       rw[e2]at h';cases o2 with
       |dct _=>cases h'
       |dk _=>cases h'
       |ins _ _=>cases h'
       |bO zs=>
        obtain⟨xs,f,hs⟩:=hS a _ e;obtain⟨ys,g,ks⟩:=hS c _ e2;obtain⟨eA,q1,p,_⟩:=I.list (.of f);obtain⟨its2,q2,p2,_⟩:=I.list (.of g);obtain⟨h1,h2⟩:=items hs ks q1 q2 h';have both:fH A s (.ref a) (.ref c) b∧fW A s (.ref a) (.ref c) (!b):=by
         by_cases hz:eA.toArray.size=its2.toArray.size
         ·have t1:=fH.lists p.isList p2.isList hz hu0 h1;have t2:=fW.lists p.isList p2.isList hz hu0 h1;rw[←hz,Nat.min_self,beq_self_eq_true,Bool.and_true]at h2;rw[h2]at t1 t2;exact⟨t1,t2⟩
         ·have hz':(eA.toArray.size != its2.toArray.size)=true:=by simpa using hz
          have hz2:(eA.toArray.size == its2.toArray.size)=false:=by simpa using hz
          rw[hz2,gb]at h2;subst h2;exact⟨.lists_lengths p.isList p2.isList hz' hu0, .lists_lengths p.isList p2.isList hz' hu0⟩
        refine⟨?_,both.1,both.2⟩;by_cases ee:a=c
        ·subst ee;have:=Dp I (n+1) (.ref a) (.ref a) hS h;rw[this];exact .same _
        ·exact .of_refs ee both.1
   |_=>cases h
  |c6 f=>cases ry<;>cases h
def oG (neg:Bool) (x:W) (y:W) (S:li) (Q:WK):Prop:=match nY S 60 x y with
 |some b=>Q (.bl (if neg then !b else b)) S
 |none=>False
def Ex (K:ao) (neg:Bool):R2:=λx y H Q=>∃wx wy S b,nK K H wx x∧nK K H wy y∧mD K H S∧nY S 60 wx wy=aa b∧Q (.bl (if neg then !b else b)) H
def Zv (hu:X.A.units+60<cLine):n_ X (bB .Eq) (Ex X.K false):=by
 intro ag s σ H x y v u Q I rx ry h;obtain⟨wx,wy,S,b,r1,r2,hS,e,q⟩:=h;exact(BA I hS 60 hu r1 r2 rx ry e).2.1 _ _ _ _ ⟨.bl b,H,I,rfl,q⟩
def QX (hu:X.A.units+60<cLine):n_ X (bB .NotEq) (Ex X.K true):=by
 intro ag s σ H x y v u Q I rx ry h;obtain⟨wx,wy,S,b,r1,r2,hS,e,q⟩:=h;exact(BA I hS 60 hu r1 r2 rx ry e).2.2 _ _ _ _ ⟨.bl (!b),H,I,rfl,q⟩
def M8{K:ao}{neg:Bool}:qZ K (Ex K neg) (oG neg):=λH x y wx wy S Q QW rx ry hS h hQ=>by
 unfold oG at h;split at h
 ·rename_i b e;exact⟨wx,wy,S,b,rx,ry,hS,e,hQ _ S _ H .refl (.bl _) hS h⟩
 ·exact h.elim
abbrev uM:W2:=rA λi j=> .bl (decide (i<j))
abbrev uA:W2:=rA λi j=> .bl (decide (j<i))
abbrev Lk:W2:=rA λi j=> .bl (decide (j≤i))
def sC:W2
 | .int i, .int j,S,Q=>Q (.bl (decide (i≤j))) S
 | .str i, .str j,S,Q=>Q (.bl (!decide (j.cps.toList<i.cps.toList))) S
 |_,_,_,_=>False
def FW{K:ao}:qZ K (λx y H Q=>se (λi j=> .bl (decide (i≤j))) x y H Q∨(∃i j,x= .str i∧y= .str j∧Q (.bl (!decide (j.cps.toList<i.cps.toList))) H)) sC:=λH x y wx wy S Q QW rx ry hS h hQ=>by
 cases rx with
 |int i=>
  cases ry with
  |int j=>exact .inl ⟨i,j,rfl,rfl,hQ _ S _ H .refl (.bl _) hS h⟩
  |_=>exact h.elim
 |str i=>
  cases ry with
  |str j=>exact .inr ⟨i,j,rfl,rfl,hQ _ S _ H .refl (.bl _) hS h⟩
  |_=>exact h.elim
 |_=>exact h.elim
def v5 (r r':W2) (a b c:WE) (E:WX) (σ:mS) (S:li) (Q:WK):Prop:=a E σ S λx S1=>b E σ S1 λy S2=>r x y S2 λz S3=>match z with
 | .bl true=>c E σ S3 λu S4=>r' y u S4 Q
 | .bl false=>Q (.bl false) S3
 |_=>False
def pk (neg:Bool):W2
 | .cc, .cc,S,Q=>Q (.bl (!neg)) S
 | .bl a, .bl b,S,Q=>Q (.bl (if neg then a != b else a == b)) S
 | .bl _, .cc,S,Q=>Q (.bl neg) S
 | .int _, .cc,S,Q=>Q (.bl neg) S
 | .str _, .cc,S,Q=>Q (.bl neg) S
 | .bW _, .cc,S,Q=>Q (.bl neg) S
 | .ref _, .cc,S,Q=>Q (.bl neg) S
 |_,_,_,_=>False
def Ro:n_ X (bB .Is) (λx y H Q=>(y= .cc∧Q (.bl (decide (x= .cc))) H)∨ ∃a b,x= .bl a∧y= .bl b∧Q (.bl (a == b)) H):=vx.or (by
 intro ag s σ H x y v u Q I rx ry h;obtain⟨a,b,rfl,rfl,q⟩:=h;cases rx;cases ry;exact is_bool ⟨.bl _,H,I,rfl,q⟩)
def Pq:n_ X (bB .IsNot) (λx y H Q=>(y= .cc∧Q (.bl (!decide (x= .cc))) H)∨ ∃a b,x= .bl a∧y= .bl b∧Q (.bl (a != b)) H):=t6.or (by
 intro ag s σ H x y v u Q I rx ry h;obtain⟨a,b,rfl,rfl,q⟩:=h;cases rx;cases ry;exact isnot_bool ⟨.bl _,H,I,rfl,q⟩)
def SS{K:ao}:qZ K (λx y H Q=>(y= .cc∧Q (.bl (decide (x= .cc))) H)∨ ∃a b,x= .bl a∧y= .bl b∧Q (.bl (a == b)) H) (pk false):=λH x y wx wy S Q QW rx ry hS h hQ=>by
 cases ry with
 |cc=>cases rx<;>first |exact .inl ⟨rfl,by simpa using hQ _ S _ H .refl (.bl _) hS h⟩ |exact h.elim
 |bl b=>
  cases rx with
  |bl a=>exact .inr ⟨a,b,rfl,rfl,hQ _ S _ H .refl (.bl _) hS h⟩
  |_=>exact h.elim
 |_=>cases rx<;>exact h.elim
def Vp{K:ao}:qZ K (λx y H Q=>(y= .cc∧Q (.bl (!decide (x= .cc))) H)∨ ∃a b,x= .bl a∧y= .bl b∧Q (.bl (a != b)) H) (pk true):=λH x y wx wy S Q QW rx ry hS h hQ=>by
 cases ry with
 |cc=>cases rx<;>first |exact .inl ⟨rfl,by simpa using hQ _ S _ H .refl (.bl _) hS h⟩ |exact h.elim
 |bl b=>
  cases rx with
  |bl a=>exact .inr ⟨a,b,rfl,rfl,hQ _ S _ H .refl (.bl _) hS h⟩
  |_=>exact h.elim
 |_=>cases rx<;>exact h.elim
def rF (S:li) (x:W):List W→Option Bool
 | []=>aa false
 |w::ws=>match nY S 59 w x with
  |some a=>match rF S x ws with
   |some b=>aa (a || b)
   |none=>none
  |none=>none
section
theorem D4 (I:my X ag σ H s) (hS:mD X.K H S):∀(n:Nat) {w w' u:W}{v:V}{b b':Bool},nK X.K H w v→nK X.K H w' v→nY S n w u=aa b→nY S n w' u=aa b'→b=b'
 |0,_,_,_,_,_,_,_,_,h,_=>by cases h
 |n+1,w,w',u,v,b,b',r,r',h,h'=>by
  have list:∀{us ws zs:List W}{vs:List V}{b b':Bool},mC X.K H ws vs→mC X.K H zs vs→oV (nY S n) ws us=aa b→oV (nY S n) zs us=aa b'→b=b':=by
   intro us
   induction us with
   |nil=>
    intro ws zs vs b b' r1 r2 e1 e2;cases r1 with
    |nil=>cases r2;rw[e1]at e2;exact aL e2
    |cons _ _=>cases r2 with
     |cons _ _=>have:=aL e1;have:=aL e2;subst_vars;rfl
   |cons u us ih=>
    intro ws zs vs b b' r1 r2 e1 e2;cases r1 with
    |nil=>cases r2;rw[e1]at e2;exact aL e2
    |cons a1 a2=>
     cases r2 with
     |cons c1 c2=>
      unfold oV at e1 e2;split at e1
      ·rename_i p q f1 f2;split at e2
       ·rename_i p' q' g1 g2;have h1:=D4 I hS n a1 c1 f1 g1;have h2:=ih a2 c2 f2 g2;rw[←aL e1,←aL e2,h1,h2]
       ·cases e2
      ·cases e1
  have nolist:∀{a:ai}{vs:List V}{ws:List W},H a=aa (.bW vs)→S a=aa (.bO ws)→False:=λf e=>by
   obtain⟨_,g,_⟩:=hS _ _ e;rw[f]at g;cases g
  cases r with
  |cc=>cases r';rw[h]at h';exact aL h'
  |bl k=>cases r';rw[h]at h';exact aL h'
  |int k=>cases r';rw[h]at h';exact aL h'
  |str k=>cases r';rw[h]at h';exact aL h'
  |c6 f=>cases u<;>cases h
  | @bW a vs ws f hs=>
   cases r' with
   | @bW _ us zs g ks=>
    rw[f]at g;cases g;cases u with
    |bW us=>exact list hs ks h h'
    |int _=>have:=aL h;have:=aL h';subst_vars;rfl
    |_=>cases h
   |c6 _=>cases u<;>cases h'
   |ref _=>
    exfalso;cases u with
    |ref c=>
     have h2:(match S a with
      |some (.bO xs)=>match S c with
       |some (.bO ys)=>oV (nY S n) xs ys
       |_=>none
      |_=>none)=aa b':=h'
     split at h2
     ·exact nolist f ‹_›
     ·cases h2
    |_=>cases h'
  |ref a=>
   cases r' with
   |ref _=>rw[h]at h';exact aL h'
   |c6 _=>cases u<;>cases h'
   |bW f hs=>
    exfalso;cases u with
    |ref c=>
     have h2:(match S a with
      |some (.bO xs)=>match S c with
       |some (.bO ys)=>oV (nY S n) xs ys
       |_=>none
      |_=>none)=aa b:=h
     split at h2
     ·exact nolist f ‹_›
     ·cases h2
    |_=>cases h
open Classical in
def As (I:my X ag σ H s) (hS:mD X.K H S) {A:br}{ws:List W}{vs:List V}{us:List aj}{wx:W}{x:V}{u:aj}{b:Bool}(hu:A.units+60<cLine) (r:mC X.K H ws vs) (rv:mM vs us) (rx:nK X.K H wx x) (ru:mV x u) (h:rF S wx ws=aa b) :
  ∃e:aj→Bool,(∀y,y∈us.toArray→eP A.in1 s y u (e y))∧us.toArray.any e=b:=by
 refine⟨λy=>decide (∃w v,nK X.K H w v∧mV v y∧nY S 59 w wx=aa true),?_,?_⟩
 ·have go:∀{ws:List W}{vs:List V}{us:List aj}{b:Bool},mC X.K H ws vs→mM vs us→rF S wx ws=aa b→ ∀y∈us,eP A.in1 s y u (decide (∃w v,nK X.K H w v∧mV v y∧nY S 59 w wx=aa true)):=by
   intro ws
   induction ws with
   |nil=>intro vs us b r rv h y hy;cases r;cases rv;cases hy
   |cons w ws ih=>
    intro vs us b r rv h y hy;cases r with
    |cons r1 r2=>
     cases rv with
     |cons q1 q2=>
      unfold rF at h;split at h
      ·rename_i c e1;split at h
       ·rename_i d e2;obtain rfl |hy:=az.mp hy
        ·have ok:=(BA I hS 59 (A:=A.in1) (by rw[On];lia) r1 rx q1 ru e1).1;have ec:c=decide (∃w v,nK X.K H w v∧mV v y∧nY S 59 w wx=aa true):=by
          cases c with
          |true=>exact(decide_eq_true ⟨w,_,r1,q1,e1⟩).symm
          |false=>
           symm;refine decide_eq_false λ⟨w',v',r',q',e'⟩=>?_;have:=mV.inj q' q1;subst this;exact absurd (D4 I hS 59 r1 r' e1 e') (by simp)
         rw[←ec];exact ok
        ·exact ih r2 q2 e2 y hy
       ·cases h
      ·cases h
  intro y hy;exact go r rv h y (by simpa using hy)
 ·have go:∀{ws:List W}{vs:List V}{us:List aj}{b:Bool},mC X.K H ws vs→mM vs us→rF S wx ws=aa b→us.any (λy=>decide (∃w v,nK X.K H w v∧mV v y∧nY S 59 w wx=aa true))=b:=by
   intro ws
   induction ws with
   |nil=>intro vs us b r rv h;cases r;cases rv;exact aL h
   |cons w ws ih=>
    intro vs us b r rv h;cases r with
    |cons r1 r2=>
     cases rv with
     | @cons _ _ _ _ q1 q2=>
      rename_i y _;unfold rF at h;split at h
      ·rename_i c e1;split at h
       ·rename_i d e2;have ec:decide (∃w v,nK X.K H w v∧mV v y∧nY S 59 w wx=aa true)=c:=by
          cases c with
          |true=>exact decide_eq_true ⟨w,_,r1,q1,e1⟩
          |false=>
           refine decide_eq_false λ⟨w',v',r',q',e'⟩=>?_;have:=mV.inj q' q1;subst this;exact absurd (D4 I hS 59 r1 r' e1 e') (by simp)
        rw[eK,ih r2 q2 e2,ec];exact aL h
       ·cases h
      ·cases h
  have:=go r rv h;simpa using this
end
def uD (neg:Bool):W2:=λx y S Q=>match y with
 | .str j=>match x with
  | .str i=>Q (.bl (if neg then !(!(cU j i 0 j.length 1).isEmpty) else !(cU j i 0 j.length 1).isEmpty)) S
  |_=>False
 | .bW ws=>match rF S x ws with
  |some b=>Q (.bl (if neg then !b else b)) S
  |none=>False
 | .ref a=>n9 S a λws=>match rF S x ws with
  |some b=>Q (.bl (if neg then !b else b)) S
  |none=>False
 |_=>False
def F0 (K:ao) (neg:Bool):R2:=λx y H Q=>∃wx ws vs S p b,y= .ref p∧(oE K H p vs∨oX K H p vs)∧mC K H ws vs∧nK K H wx x∧mD K H S∧rF S wx ws=aa b∧Q (.bl (if neg then !b else b)) H
def SV (hu:X.A.units+60<cLine):n_ X (bB .In) (F0 X.K false):=by
 intro ag s σ H x y v u Q I rx ry h;obtain⟨wx,ws,vs,S,p,b,rfl,hq,rs,r,hS,e,q⟩:=h;cases ry;obtain hq |hq:=hq
 ·obtain⟨eA,rv,p,_⟩:=I.list hq;obtain⟨f,h1,h2⟩:=As I hS hu rs rv r rx e;exact SeqAt.in_listAt f p.isList h1 (by rw[h2];exact⟨.bl b,H,I,rfl,q⟩)
 ·obtain⟨eA,rv,p,_⟩:=I.tuple hq;obtain⟨f,h1,h2⟩:=As I hS hu rs rv r rx e;exact SeqAt.in_tupleAt f p h1 (by rw[h2];exact⟨.bl b,H,I,rfl,q⟩)
def PL (hu:X.A.units+60<cLine):n_ X (bB .NotIn) (F0 X.K true):=by
 intro ag s σ H x y v u Q I rx ry h;obtain⟨wx,ws,vs,S,p,b,rfl,hq,rs,r,hS,e,q⟩:=h;cases ry;obtain hq |hq:=hq
 ·obtain⟨eA,rv,p,_⟩:=I.list hq;obtain⟨f,h1,h2⟩:=As I hS hu rs rv r rx e;exact SeqAt.notIn_listAt f p.isList h1 (by rw[h2];exact⟨.bl (!b),H,I,rfl,q⟩)
 ·obtain⟨eA,rv,p,_⟩:=I.tuple hq;obtain⟨f,h1,h2⟩:=As I hS hu rs rv r rx e;exact SeqAt.notIn_tupleAt f p h1 (by rw[h2];exact⟨.bl (!b),H,I,rfl,q⟩)
def MY{K:ao}{neg:Bool}{H:Hp}{x y:V}{wx wy:W}{S:li}{Q:VK}{QW:WK}(rx:nK K H wx x) (ry:nK K H wy y) (hS:mD K H S) (h:uD neg wx wy S QW) (hQ:oF K H S QW Q) :
  (∃i j,x= .str i∧y= .str j∧Q (.bl (if neg then !(!(cU j i 0 j.length 1).isEmpty) else !(cU j i 0 j.length 1).isEmpty)) H)∨F0 K neg x y H Q:=by
 cases ry with
 |str j=>
  cases rx with
  |str i=>exact .inl ⟨i,j,rfl,rfl,hQ _ S _ H .refl (.bl _) hS h⟩
  |_=>exact h.elim
 |bW f hs=>
  refine .inr ?_;unfold uD at h;dsimp only at h;split at h
  ·exact⟨wx,_,_,S,_,_,rfl, .inr (.of f),hs,rx,hS, ‹_›,hQ _ S _ H .refl (.bl _) hS h⟩
  ·exact h.elim
 |ref a=>
  refine .inr ?_;obtain⟨ws,e,h⟩:=qi h;obtain⟨vs,f,hs⟩:=hS a _ e;split at h
  ·exact⟨wx,_,_,S,_,_,rfl, .inl (.of f),hs,rx,hS, ‹_›,hQ _ S _ H .refl (.bl _) hS h⟩
  ·exact h.elim
 |_=>exact h.elim
def mE:W2:=λx y S Q=>match y with
 | .int i=>match x with
  | .bW ws=>match nC ws i with
   |some w=>Q w S
   |none=>False
  | .ref a=>n9 S a λws=>match nC ws i with
   |some w=>Q w S
   |none=>False
  | .c6 ns=>match nC ns i with
   |some n=>Q (.int n) S
   |none=>False
  | .str x=>x.length≤sizeLine∧match nC x.cps.toList i with
   |some c=>Q (.str ⟨#[c]⟩) S
   |none=>False
  |_=>False
 |_=>False
def Ee{K:ao}{H:Hp}{ws:List W}{vs:List V}{i:Int}{w:W}(r:mC K H ws vs) (e:nC ws i=aa w):∃v,nC vs i=aa v∧nK K H w v:=by
 unfold nC at e⊢;rw[←r.length];cases q:tK ws.length i with
 |none=>rw[q]at e;cases e
 |some j=>rw[q]at e;exact r.get e
def Pb{α β:Type}{f:α→β}{xs:List α}{i:Int}{x:α}(e:nC xs i=aa x):nC (xs.map f) i=aa (f x):=by
 unfold nC at e⊢;rw[ay];cases q:tK xs.length i with
 |none=>rw[q]at e;cases e
 |some j=>
  rw[q]at e;show(xs.map f)[j]? =_;rw[aU,show xs[j]? =aa x from e];rfl
def PZ{K:ao}:qZ K (NN K) mE:=λH x y wx wy S Q QW rx ry hS h hQ=>by
 cases ry with
 |int i=>
  cases rx with
  |bW f hs=>
   unfold mE at h;dsimp only at h;split at h
   ·obtain⟨v,ev,r⟩:=Ee hs ‹_›;exact .inr (.inl ⟨_,_,i,v,rfl,rfl, .of f,ev,hQ _ S _ H .refl r hS h⟩)
   ·exact h.elim
  |ref a=>
   obtain⟨ws,e,h⟩:=qi h;obtain⟨vs,f,hs⟩:=hS a _ e;split at h
   ·obtain⟨v,ev,r⟩:=Ee hs ‹_›;exact .inl ⟨_,_,i,v,rfl,rfl, .of f,ev,hQ _ S _ H .refl r hS h⟩
   ·exact h.elim
  |c6 f=>
   unfold mE at h;dsimp only at h;split at h
   ·exact .inl ⟨_,_,i,_,rfl,rfl,f.sq,Pb ‹_›,hQ _ S _ H .refl (.int _) hS h⟩
   ·exact h.elim
  |str z=>
   unfold mE at h;dsimp only at h;obtain⟨hz,h⟩:=h;split at h
   ·exact .inr (.inr ⟨z,i,_,rfl,rfl,hz, ‹_›,hQ _ S _ H .refl (.str _) hS h⟩)
   ·exact h.elim
  |_=>exact h.elim
 |_=>exact h.elim
section
variable {X:Cx}{a b e:Expr}{pos p2:bw}{ta tb te:WE}{lo hi:Option Expr}
def U7 (ha:JE X a ta) (hb:JE X b tb) (hs:BU b:=by intro _ _;rfl):JE X (.Subscript a b pos) (mq mE ta tb):=λE hE=>
 (K_ Hw (ha E hE) (hb E hE) hs).mono λσ H Q h=>Ct h λH2 x y wx wy S QW rx ry hS q hQ=>PZ H2 x y wx wy S Q QW rx ry hS q hQ
abbrev WO:=WX→mS→li→(Option Int→li→Prop)→Prop
def SE (K:ao) (t:mS→li→(Option Int→li→Prop)→Prop):TO:=λσ H Q=>∃σW S QW,nj K H σW σ∧mD K H S∧t σW S QW∧ ∀b S' H',nG H S H' S'→mD K H' S'→QW b S'→Q b H'
def JO (X:Cx) (e:Option Expr) (t:WO):Prop:=∀E,oM X E→PO X e (SE X.K (t E))
def oz (_:WX) (_:mS) (S:li) (Q:Option Int→li→Prop):Prop:=Q none S
def ou (t:WE) (E:WX) (σ:mS) (S:li) (Q:Option Int→li→Prop):Prop:=t E σ S λw S1=>match w with
 | .int i=>Q (aa i) S1
 |_=>False
def PO.mono{X:Cx}{e:Option Expr}{t t':TO}(h:PO X e t) (q:∀σ H Q,t' σ H Q→t σ H Q):PO X e t':=λag s σ H Q I z=>h ag s σ H Q I (q σ H Q z)
def ZL:JO X none oz:=λE hE=>uo.mono λσ H Q ⟨σW,S,QW,hσ,hS,ht,hQ⟩=>hQ none S H .refl hS ht
def SJ (h:JE X e te):JO X (aa e) (ou te):=λE hE=>(Xt (h E hE)).mono λσ H Q ⟨σW,S,QW,hσ,hS,ht,hQ⟩=>⟨σW,S,_,hσ,hS,ht,λw S1 v H1 e1 r1 iU h1=>by
 cases r1 with
 |int i=>exact⟨i,rfl,hQ _ S1 H1 e1 iU h1⟩
 |_=>exact h1.elim⟩
def o8 {α:Type}(xs:List α) (lo hi:Option Int):List α:=(xs.drop (HT.sIx xs.length 0 lo)).take (HT.sIx xs.length xs.length hi - HT.sIx xs.length 0 lo)
def Eg{K:ao}{H:Hp}{ws:List W}{vs:List V}{lo hi:Option Int}(r:mC K H ws vs):mC K H (o8 ws lo hi) (sV vs lo hi):=by
 unfold o8 sV;rw[r.length];exact(r.drop _).take _
def Iu{α β:Type}{f:α→β}{xs:List α}{lo hi:Option Int}:o8 (xs.map f) lo hi=(o8 xs lo hi).map f:=by
 unfold o8;rw[ay,jx,je]
def Qq{prog:bh}{w:aS}{A:br}{E:aj→am→Prop}{s:am}{t sl:ai}{items:Array aj}{vl vu:aj}{lo hi:Option Int}{Q:aj→am→Prop}(ht:eS s.heap t items) (hs:s.heap.IsSliceOf sl vl vu .none) (pl:c8 vl lo) (pu:c8 vu hi)
  (hw:HT.sIx items.size 0 lo=0∧HT.sIx items.size items.size hi=items.size) (h:Q (.ref t) s):av (aB prog w) A (dY (.ref t) (.ref sl)) Q E s:=by
 obtain⟨os,hos,hcs,hds⟩:=id hs;have hTs:s.TypeIs (.ref sl) "slice" :=⟨os,hos,hcs⟩;unfold dY
 try with_reducible refine gm ?_
 first |refine au (aM ?_) |skip
 refine au (lT ht.typeIs (by decide) ?_);refine au (dO (name:=bG "__getitem__") ht.typeIs fu
  (dJ fu ht.typeIs k_ ?_ (kG _ _)))
 show av _ _ (kT (.ref t) >>= _) _ _ s;refine au (tupleItemsOf_ ht ?_);refine au (ge hTs ?_);rw[if_pos (by decide)];refine au (HT.sliceApplied_gen hs pl pu ?_);show av _ _ (if(((HT.sIx items.size 0 lo:Nat):Int) == 0&&(1:Int) == 1&&(HT.sIx items.size items.size hi - HT.sIx items.size 0 lo) == items.size)=true then _ else _) _ _ s;rw[hw.1,hw.2,if_pos (by simp)];unfold cC.Tuple.tupleIsExact;refine au (au (ge ht.typeIs (aM ?_)));rw[if_pos (by decide)];exact au (eV (aM ⟨_,rfl,aM h⟩))
def uc:uC X (λx lo hi H Q=>∃a xs,x= .ref a∧oX X.K H a xs∧((HT.sIx xs.length 0 lo=0∧HT.sIx xs.length xs.length hi=xs.length)∧Q (.ref a) H∨ ¬(HT.sIx xs.length 0 lo=0∧HT.sIx xs.length xs.length hi=xs.length)∧ ∀p,H p=none→Q (.ref p) (nH H p (.bW (sV xs lo hi))))):=by
 intro ag s σ H x v vl vu lo hi sl Q I rx hs pl pu h;obtain⟨a,xs,rfl,hx,⟨hw,q⟩ |⟨hw,q⟩⟩:=h
 ·cases rx;obtain⟨eA,r,ht,hz⟩:=I.tuple hx;have hlen:eA.toArray.size=xs.length:=by rw[bf];exact r.length.symm
  refine⟨"tuple",_,fu.lookup,ht.typeIs,?_⟩;exact Qq ht hs pl pu (by rw[hlen];exact hw) ⟨.ref a,H,I,rfl,q⟩
 ·exact Vm ag s σ H _ v vl vu lo hi sl Q I rx hs pl pu ⟨a,xs,rfl,hx,hw,q⟩
def yz:W→Option Int→Option Int→li→WK→Prop
 | .bW ws,lo,hi,S,Q=>Q (.bW (o8 ws lo hi)) S
 | .str z,lo,hi,S,Q=>z.length≤sizeLine∧Q (.str (cW z lo hi)) S
 | .ref a,lo,hi,S,Q=>n9 S a λws=>∀p,S p=none→Q (.ref p) (bR S p (.bO (o8 ws lo hi)))
 | .c6 ns,lo,hi,S,Q=>∀p,S p=none→Q (.ref p) (bR S p (.bO ((o8 ns lo hi).map W.int)))
 |_,_,_,_,_=>False
def oB (t:WE) (l h:WO) (E:WX) (σ:mS) (S:li) (Q:WK):Prop:=t E σ S λx S1=>l E σ S1 λlo S2=>h E σ S2 λhi S3=>yz x lo hi S3 Q
def Xb{α:Type}{xs:List α}{lo hi:Option Int}(h:HT.sIx xs.length 0 lo=0∧HT.sIx xs.length xs.length hi=xs.length):o8 xs lo hi=xs:=by
 unfold o8;rw[h.1,h.2,dS,eT,io]
def Py{tl th:WO}(he:JE X e te) (hl:JO X lo tl) (hh:JO X hi th):JE X (.Subscript e (.Slice lo hi none p2) pos) (oB te tl th):=λE hE=>
 (Hr (uc.or (ww.or LJ)) (he E hE) (hl E hE) (hh E hE)).mono λσ H Q ⟨σW,S,QW,hσ,hS,ht,hQ⟩=>
  ⟨σW,S,_,hσ,hS,ht,λw S1 v H1 e1 r1 iU h1=>⟨σW,S1,_,hσ.ext e1,iU,h1,λlo S2 H2 e2 hS2 h2=>⟨σW,S2,_,(hσ.ext e1).ext e2,hS2,h2,λhi S3 H3 e3 hS3 h3=>by
   have hQ':=hQ.from (e1.trans (e2.trans e3));have r3:=(r1.ext e2).ext e3;cases r3 with
   | @bW a vs ws f hs=>
    refine .inl ⟨a,vs,rfl, .of f,?_⟩;by_cases hw:HT.sIx vs.length 0 lo=0∧HT.sIx vs.length vs.length hi=vs.length
    ·refine .inl ⟨hw,hQ' (.bW ws) S3 _ H3 .refl (.bW f hs) hS3 ?_⟩;have:=Xb (xs:=ws) (lo:=lo) (hi:=hi) (by rw[hs.length];exact hw);have h3':QW (.bW (o8 ws lo hi)) S3:=h3;rw[this]at h3';exact h3'
    ·exact .inr ⟨hw,λp hp=>hQ' _ S3 _ _ (.new hp) (.bW pE ((Eg hs).ext (.new (S:=S3) hp))) (hS3.new hp) h3⟩
   |str z=>exact .inr (.inl ⟨z,rfl,h3.1,hQ' _ S3 _ H3 .refl (.str _) hS3 h3.2⟩)
   |ref a=>
    obtain⟨ws,ea,h⟩:=qi h3;obtain⟨vs,f,hs⟩:=hS3 a _ ea;exact .inr (.inr ⟨a,vs,rfl, .of f,λp hp=>hQ' _ _ _ _ (.newS hp) (.ref p) (hS3.put_lst hp ((Eg hs).ext (.new (S:=S3) hp))) (h p (hS3.free hp))⟩)
   | @c6 a ns f=>
    refine .inr (.inr ⟨a,_,rfl,f.sq,λp hp=>hQ' _ _ _ _ (.newS hp) (.ref p) (hS3.put_lst hp ?_) (h3 p (hS3.free hp))⟩);have q:sV (ns.map V.int) lo hi=(o8 ns lo hi).map V.int:=Iu;rw[q];exact mC.ofInts _
   |_=>exact h3.elim⟩⟩⟩
def vc (t:WE) (l h:WO) (E:WX) (σ:mS) (S:li) (Q:List W→li→Prop):Prop:=t E σ S λx S1=>l E σ S1 λlo S2=>h E σ S2 λhi S3=>match x with
 | .ref a=>n9 S3 a λws=>Q (o8 ws lo hi) S3
 | .c6 ns=>Q ((o8 ns lo hi).map W.int) S3
 |_=>False
def Wk{tl th:WO}(he:JE X e te) (hl:JO X lo tl) (hh:JO X hi th):JL X (.Subscript e (.Slice lo hi none p2) pos) (vc te tl th):=λE hE=>
 (Hr LJ (he E hE) (hl E hE) (hh E hE)).mono λσ H Q ⟨σW,S,QW,hσ,hS,ht,hQ⟩=>
  ⟨σW,S,_,hσ,hS,ht,λw S1 v H1 e1 r1 iU h1=>⟨σW,S1,_,hσ.ext e1,iU,h1,λlo S2 H2 e2 hS2 h2=>⟨σW,S2,_,(hσ.ext e1).ext e2,hS2,h2,λhi S3 H3 e3 hS3 h3=>by
   have e':=e1.trans (e2.trans e3);have r3:=(r1.ext e2).ext e3;cases r3 with
   |ref a=>
    obtain⟨ws,ea,h⟩:=qi h3;obtain⟨vs,f,hs⟩:=hS3 a _ ea;exact⟨a,vs,rfl, .of f,λp hp=>hQ _ S3 _ p _ (e'.trans (.new hp)) (e'.free hp) pE (hS3.free hp) ((Eg hs).ext (.new (S:=S3) hp)) (hS3.new hp) h⟩
   | @c6 a ns f=>
    refine⟨a,_,rfl,f.sq,λp hp=>hQ _ S3 _ p _ (e'.trans (.new hp)) (e'.free hp) pE (hS3.free hp) ?_ (hS3.new hp) h3⟩;have q:sV (ns.map V.int) lo hi=(o8 ns lo hi).map V.int:=Iu;rw[q];exact mC.ofInts _
   |_=>exact h3.elim⟩⟩⟩
end
abbrev WF:=List W→li→WK→Prop
def wB (f:WF) (t:WA) (E:WX) (σ:mS) (S:li) (Q:WK):Prop:=t E σ S λws S1=>f ws S1 Q
def vW (K:ao) (r:List V→Hp→VK→Prop) (f:WF):Prop:=∀H vs ws S (Q:VK) (QW:WK),mC K H ws vs→mD K H S→f ws S QW→oF K H S QW Q→r vs H Q
def qL (f:WF) (t:WL) (E:WX) (σ:mS) (S:li) (Q:WK):Prop:=t E σ S λws S1=>f ws S1 Q
def xM (K:ao) (r:List V→Hp→VK→Prop) (f:WF):Prop:=∀H a vs ws S (Q:VK) (QW:WK),H a=aa (.bO vs)→S a=none→mC K H ws vs→mD K H S→f ws S QW→oF K H S QW Q→r [.ref a] H Q
section
variable {X:Cx}{x:ah}{p pos:bw}{e:Expr}{es:List Expr}{t:WA}{tl:WL}{id T:String}{r:List V→Hp→VK→Prop}{f:WF}
def Oa (hc:nL X (.builtin id) r) (hw:vW X.K r f) (hg:Gl X x) (hm:X.mg x=none) (hv:cH x=aa (.builtin id)) (ha:JA X (e::es) t) (hn:x≠ "__name__" :=by decide) (hdb:(x == ("__debug__" :ah))=false:=by decide)
  (he:ax (e::es) X.env=(false,aH e X.env)::ax es X.env:=by rfl) (hpl:(aZ pos (ax es X.env)).any (·.1)=false:=by rfl):JE X (.Call (.Name x p) (e::es) [] pos) (wB f t):=λE hE=>
 (DL hc hg hm hv (ha E hE) hn hdb he hpl).mono λσ H Q ⟨σW,S,QW,hσ,hS,ht,hQ⟩=>⟨σW,S,_,hσ,hS,ht,λws S1 vs H1 e1 r1 iU h1=>hw H1 vs ws S1 Q QW r1 iU h1 (hQ.from e1)⟩
def Hc (hc:nL X (.type T) r) (hw:vW X.K r f) (hg:Gl X x) (hm:X.mg x=none) (hv:cH x=aa (.type T)) (ha:JA X (e::es) t) (hn:x≠ "__name__" :=by decide) (hdb:(x == ("__debug__" :ah))=false:=by decide)
  (he:ax (e::es) X.env=(false,aH e X.env)::ax es X.env:=by rfl) (hpl:(aZ pos (ax es X.env)).any (·.1)=false:=by rfl):JE X (.Call (.Name x p) (e::es) [] pos) (wB f t):=λE hE=>
 (FN hc hg hm hv (ha E hE) hn hdb he hpl).mono λσ H Q ⟨σW,S,QW,hσ,hS,ht,hQ⟩=>⟨σW,S,_,hσ,hS,ht,λws S1 vs H1 e1 r1 iU h1=>hw H1 vs ws S1 Q QW r1 iU h1 (hQ.from e1)⟩
def NF (hc:nL X (.builtin id) r) (hw:xM X.K r f) (hg:Gl X x) (hm:X.mg x=none) (hv:cH x=aa (.builtin id)) (ha:JL X e tl) (hn:x≠ "__name__" :=by decide) (hdb:(x == ("__debug__" :ah))=false:=by decide)
  (he:ax [e] X.env=(false,aH e X.env)::ax [] X.env:=by rfl) (hpl:(aZ pos (ax [] X.env)).any (·.1)=false:=by rfl):JE X (.Call (.Name x p) [e] [] pos) (qL f tl):=λE hE=>
 (DL hc hg hm hv (tL (ha E hE) oR he) hn hdb he hpl).mono λσ H Q ⟨σW,S,QW,hσ,hS,ht,hQ⟩=>⟨σW,S,_,hσ,hS,ht,λws S1 vs a H1 e1 fa ea na r1 iU h1=>hw H1 a vs ws S1 Q QW ea na r1 iU h1 (hQ.from e1)⟩
def HJ (hc:nL X (.type T) r) (hw:xM X.K r f) (hg:Gl X x) (hm:X.mg x=none) (hv:cH x=aa (.type T)) (ha:JL X e tl) (hn:x≠ "__name__" :=by decide) (hdb:(x == ("__debug__" :ah))=false:=by decide)
  (he:ax [e] X.env=(false,aH e X.env)::ax [] X.env:=by rfl) (hpl:(aZ pos (ax [] X.env)).any (·.1)=false:=by rfl):JE X (.Call (.Name x p) [e] [] pos) (qL f tl):=λE hE=>
 (FN hc hg hm hv (tL (ha E hE) oR he) hn hdb he hpl).mono λσ H Q ⟨σW,S,QW,hσ,hS,ht,hQ⟩=>⟨σW,S,_,hσ,hS,ht,λws S1 vs a H1 e1 fa ea na r1 iU h1=>hw H1 a vs ws S1 Q QW ea na r1 iU h1 (hQ.from e1)⟩
def oQ:WF:=λws S Q=>match ws with
 | [.bW us]=>Q (.int us.length) S
 | [.ref a]=>n9 S a λus=>Q (.int us.length) S
 | [.c6 ns]=>Q (.int ns.length) S
 | [.str z]=>z.length≤sizeLine∧Q (.int z.length) S
 |_=>False
def Yy{K:ao}:vW K (λxs H Q=>(∃p ys,xs=[.ref p]∧(oE K H p ys∨oX K H p ys)∧Q (.int ys.length) H)∨ ∃z,xs=[.str z]∧z.length≤sizeLine∧Q (.int z.length) H) oQ:=λH vs ws S Q QW r hS h hQ=>by
 cases r with
 |nil=>exact h.elim
 |cons r1 r2=>
  cases r2 with
  |cons _ _=>cases r1<;>exact h.elim
  |nil=>
   cases r1 with
   |bW f hs=>exact .inl ⟨_,_,rfl, .inr (.of f),by rw[←hs.length];exact hQ _ S _ H .refl (.int _) hS h⟩
   |ref a=>
    obtain⟨us,e,h⟩:=qi h;obtain⟨vs,f,hs⟩:=hS a _ e;exact .inl ⟨_,_,rfl, .inl (.of f),by rw[←hs.length];exact hQ _ S _ H .refl (.int _) hS h⟩
   |c6 f=>exact .inl ⟨_,_,rfl, .inl f.sq,by rw[ay];exact hQ _ S _ H .refl (.int _) hS h⟩
   |str z=>exact .inr ⟨z,rfl,h.1,hQ _ S _ H .refl (.int _) hS h.2⟩
   |_=>exact h.elim
def T7 (hg:Gl X "len") (hm:X.mg "len" =none) (ha:JA X (e::es) t) 
  (he:ax (e::es) X.env=(false,aH e X.env)::ax es X.env:=by rfl) (hpl:(aZ pos (ax es X.env)).any (·.1)=false:=by rfl):JE X (.Call (.Name "len" p) (e::es) [] pos) (wB oQ t):=
 Oa (qy.or Uy) Yy hg hm PySem.boot_len ha (by decide) (by decide) he hpl
def rE:WF:=λws S Q=>match ws with
 | [.bW us]=>Q (.bW us) S
 | [.ref a]=>n9 S a λus=>Q (.bW us) S
 |_=>False
def PM{K:ao}:vW K (λxs H Q=>∃p ys,xs=[.ref p]∧((oE K H p ys∧ ∀l,H l=none→Q (.ref l) (nH H l (.bW ys)))∨(oX K H p ys∧Q (.ref p) H))) rE:=λH vs ws S Q QW r hS h hQ=>by
 cases r with
 |nil=>exact h.elim
 |cons r1 r2=>
  cases r2 with
  |cons _ _=>cases r1<;>exact h.elim
  |nil=>
   cases r1 with
   |bW f hs=>exact⟨_,_,rfl, .inr ⟨.of f,hQ _ S _ H .refl (.bW f hs) hS h⟩⟩
   |ref a=>
    obtain⟨us,e,h⟩:=qi h;obtain⟨vs,f,hs⟩:=hS a _ e;exact⟨_,_,rfl, .inl ⟨.of f,λl hl=>hQ _ S _ _ (.new hl) (.bW pE (hs.ext (.new (S:=S) hl))) (hS.new hl) h⟩⟩
   |_=>exact h.elim
def wk (ws:List W) (S:li) (Q:WK):Prop:=Q (.bW ws) S
def Sk{K:ao}:xM K (λxs H Q=>∃p ys,xs=[.ref p]∧((oE K H p ys∧ ∀l,H l=none→Q (.ref l) (nH H l (.bW ys)))∨(oX K H p ys∧Q (.ref p) H))) wk:=λH a vs ws S Q QW ea na r hS h hQ=>
 ⟨a,vs,rfl, .inl ⟨.of ea,λl hl=>hQ _ S _ _ (.new hl) (.bW pE (r.ext (.new (S:=S) hl))) (hS.new hl) h⟩⟩
def Al (t:WE) (E:WX) (σ:mS) (S:li) (Q:List W→li→Prop):Prop:=t E σ S λw S1=>match w with
 | .bW ws=>Q ws S1
 | .ref a=>n9 S1 a λws=>Q ws S1
 | .c6 ns=>Q (ns.map W.int) S1
 |_=>False
def Uu{te:WE}(hg:Gl X "list") (hm:X.mg "list" =none) (ha:JE X e te)
  (he:ax [e] X.env=(false,aH e X.env)::ax [] X.env:=by rfl) (hpl:(aZ pos (ax [] X.env)).any (·.1)=false:=by rfl):JL X (.Call (.Name "list" p) [e] [] pos) (Al te):=λE hE=>
 (FN Se hg hm PyProof.Rows.boot_list (tL (ha E hE) oR he) (by decide) (by decide) he hpl).mono λσ H Q ⟨σW,S,QW,hσ,hS,ht,hQ⟩=>⟨σW,S,_,hσ,hS,ht,λw S1 v H1 e1 r1 iU h1=>by
  cases r1 with
  |bW f hs=>exact⟨_,_,rfl, .inr (.of f),λl hl=>hQ _ S1 _ l _ (e1.trans (.new hl)) (e1.free hl) pE (iU.free hl) (hs.ext (.new (S:=S1) hl)) (iU.new hl) h1⟩
  |ref a=>
   obtain⟨ws,ea,h⟩:=qi h1;obtain⟨vs,f,hs⟩:=iU a _ ea;exact⟨_,_,rfl, .inl (.of f),λl hl=>hQ _ S1 _ l _ (e1.trans (.new hl)) (e1.free hl) pE (iU.free hl) (hs.ext (.new (S:=S1) hl)) (iU.new hl) h⟩
  |c6 f=>exact⟨_,_,rfl, .inl f.sq,λl hl=>hQ _ S1 _ l _ (e1.trans (.new hl)) (e1.free hl) pE (iU.free hl) (mC.ofInts _) (iU.new hl) h1⟩
  |_=>exact h1.elim⟩
def sE:List W→Option (List Bool)
 | []=>aa []
 | .bl b::ws=>(sE ws).map (b:: ·)
 |_=>none
theorem Ka{K:ao}{H:Hp}:∀{ws:List W}{vs:List V}{bs:List Bool},mC K H ws vs→sE ws=aa bs→vs=bs.map V.bl
 | [],_,_, .nil,e=>by have:=aL e;subst this;rfl
 |w::ws,_,_, .cons r rs,e=>by
  cases r with
  |bl b=>
   have e':(sE ws).map (b:: ·)=aa _:=e;cases q:sE ws with
   |none=>rw[q]at e';cases e'
   |some cs=>
    rw[q]at e';have:=aL e';subst this;rw[aC,Ka rs q]
  |_=>cases e
def tT (ws:List W) (S:li) (Q:WK):Prop:=match sE ws with
 |some bs=>Q (.bl (bs.all _root_.id)) S
 |none=>False
def OQ{K:ao}:xM K (λxs H Q=>∃(p:ai) (bs:List Bool),xs=[.ref p]∧oE K H p (bs.map V.bl)∧Q (.bl (bs.all _root_.id)) H) tT:=λH a vs ws S Q QW ea na r hS h hQ=>by
 unfold tT at h;split at h
 ·rename_i bs e;have:=Ka r e;subst this;exact⟨a,bs,rfl, .of ea,hQ _ S _ H .refl (.bl _) hS h⟩
 ·exact h.elim
def v9:W→li→(String→Prop)→Prop
 | .cc,_,Q=>Q "NoneType"
 | .bl _,_,Q=>Q "bool"
 | .int _,_,Q=>Q "int"
 | .str _,_,Q=>Q "str"
 | .bW _,_,Q=>Q "tuple"
 | .ref a,S,Q=>n9 S a λ_=>Q "list"
 | .c6 _,_,_=>False
def pe (A B:String):Bool:=A == B || (A == "bool" &&B == "int")
def r8 (T:String) (t:WE) (E:WX) (σ:mS) (S:li) (Q:WK):Prop:=t E σ S λw S1=>v9 w S1 λA=>Q (.bl (pe A T)) S1
def VH{a:Expr}{ta:WE}{p2:bw}{T:ah}{T':String}(hg:Gl X "isinstance") (hm:X.mg "isinstance" =none) (hgT:Gl X T) (hmT:X.mg T=none) (hv:cH T=aa (.type T')) (ha:JE X a ta) (hn:T≠ "__name__") (hd:(T == ("__debug__" :ah))=false)
  (hk:∀A∈ ["NoneType", "bool", "int", "str", "tuple", "list"],fP X.K (.type A) (.type T')=aa (pe A T'))
  (he:ax [a, .Name T p2] X.env=(false,aH a X.env)::ax [.Name T p2] X.env:=by rfl) (he2:ax [.Name T p2] X.env=(false,aH (.Name T p2) X.env)::ax [] X.env:=by rfl) (hpl:(aZ pos (ax [.Name T p2] X.env)).any (·.1)=false:=by rfl) :
  JE X (.Call (.Name "isinstance" p) [a, .Name T p2] [] pos) (r8 T' ta):=λE hE=>
 (DL Q5 hg hm PyProof.Rows.boot_isinstance (tL (ha E hE) (tL (Pw (v:= .ty T') hgT hmT hv rfl hn hd) oR he2) he) (by decide) (by decide) he hpl).mono λσ H Q ⟨σW,S,QW,hσ,hS,ht,hQ⟩=>⟨σW,S,_,hσ,hS,ht,λw S1 v H1 e1 r1 iU h1=>by
  have fin:∀{t:aj}(A:String),t= .type A→A∈ ["NoneType", "bool", "int", "str", "tuple", "list"]→o7 X.K H1 v t→QW (.bl (pe A T')) S1→ ∃x t c b,[v,V.ty T']=[x, .ty c]∧o7 X.K H1 x t∧fP X.K t (.type c)=aa b∧Q (.bl b) H1:=λA e hA ty q=>by
   subst e;exact⟨v,_,T',_,rfl,ty,hk A hA,hQ _ S1 _ H1 e1 (.bl _) iU q⟩
  cases r1 with
  |cc=>exact fin _ rfl (by simp) .cc h1
  |bl b=>exact fin _ rfl (by simp) (.bl b) h1
  |int i=>exact fin _ rfl (by simp) (.int i) h1
  |str z=>exact fin _ rfl (by simp) (.str z) h1
  |bW f hs=>exact fin _ rfl (by simp) (.bW f) h1
  |ref a=>
   obtain⟨ws,ea,h⟩:=qi h1;obtain⟨vs,f,hs⟩:=iU a _ ea;exact fin _ rfl (by simp) (.bO f) h
  |c6 f=>exact h1.elim⟩
end
abbrev rB:=W→List W→li→WK→Prop
def pJ:W→li→Prop
 | .ref a,S=>n9 S a λ_=>True
 |_,_=>False
def u0:W→li→Prop
 | .str _,_=>True
 |_,_=>False
def wM (rv:W→li→Prop) (f:rB) (to:WE) (t:WA) (E:WX) (σ:mS) (S:li) (Q:WK):Prop:=to E σ S λw S1=>rv w S1∧t E σ S1 λws S2=>f w ws S2 Q
def uX (rv:W→li→Prop) (f:rB) (to:WE) (t:WL) (E:WX) (σ:mS) (S:li) (Q:WK):Prop:=to E σ S λw S1=>rv w S1∧t E σ S1 λws S2=>f w ws S2 Q
def zW (K:ao) (r:V→List V→Hp→VK→Prop) (f:rB):Prop:=∀H x w vs ws S (Q:VK) (QW:WK),nK K H w x→mC K H ws vs→mD K H S→f w ws S QW→oF K H S QW Q→r x vs H Q
def Fl (K:ao) (r:V→List V→Hp→VK→Prop) (f:rB):Prop:=∀H x w a vs ws S (Q:VK) (QW:WK),nK K H w x→H a=aa (.bO vs)→S a=none→mC K H ws vs→mD K H S→f w ws S QW→oF K H S QW Q→r x [.ref a] H Q
def zD (K:ao) (T:String) (rv:W→li→Prop):Prop:=∀H w v S,nK K H w v→mD K H S→rv w S→B5 K T v H
def DM{K:ao}:zD K "list" pJ:=λH w v S r hS h=>by
 cases r with
 |ref a=>
  obtain⟨ws,e,_⟩:=qi h;obtain⟨vs,f,_⟩:=hS a _ e;exact .inl ⟨rfl,vs, .of f⟩
 |_=>exact h.elim
def HH{K:ao}:zD K "str" u0:=λH w v S r hS h=>by
 cases r with
 |str x=>exact rfl
 |_=>exact h.elim
section
variable {X:Cx}{o e:Expr}{es:List Expr}{to:WE}{t:WA}{tl:WL}{name:ah}{apos cpos:bw}{id T:String}{r:V→List V→Hp→VK→Prop}{f:rB}{rv:W→li→Prop}
def MX (pa:gi T) (slot:Slot T name id) (hty:fe (.builtin id)=pure (.type "method_descriptor")) (hrv:zD X.K T rv) (hm:sU X id r) (hw:zW X.K r f) (ho:JE X o to) (ha:JA X (e::es) t)
  (hbase:cK o name X.env (aH o X.env)=aH o X.env:=by rfl)
  (hfew:((aZ cpos (ax (e::es) X.env)).all (λx=> !x.1)&&(dN cpos (dM [] X.env)).all (λx=>x.1.isSome)
   &&decide ((e::es).length+([]:List b6).length+(if([]:List b6).isEmpty then 0 else 1)<30))=true:=by rfl)
  (hline:(apos.endLine == cpos.line)=true:=by rfl) (hs:ax (e::es) X.env=(false,aH e X.env)::ax es X.env:=by rfl) (hplain:(aZ cpos (ax es X.env)).any (·.1)=false:=by rfl) :
  JE X (.Call (.Attribute o name apos) (e::es) [] cpos) (wM rv f to t):=λE hE=>
 (Gg pa slot hty hm (ho E hE) (ha E hE) hbase hfew hline hs hplain).mono λσ H Q ⟨σW,S,QW,hσ,hS,ht,hQ⟩=>⟨σW,S,_,hσ,hS,ht,λw S1 v H1 e1 r1 iU h1=>
  ⟨hrv H1 w v S1 r1 iU h1.1,σW,S1,_,hσ.ext e1,iU,h1.2,λws S2 vs H2 e2 r2 hS2 h2=>hw H2 v w vs ws S2 Q QW (r1.ext e2) r2 hS2 h2 (hQ.from (e1.trans e2))⟩⟩
def Oc (pa:gi T) (slot:Slot T name id) (hty:fe (.builtin id)=pure (.type "method_descriptor")) (hrv:zD X.K T rv) (hm:sU X id r) (hw:Fl X.K r f) (ho:JE X o to) (ha:JL X e tl)
  (hbase:cK o name X.env (aH o X.env)=aH o X.env:=by rfl)
  (hfew:((aZ cpos (ax [e] X.env)).all (λx=> !x.1)&&(dN cpos (dM [] X.env)).all (λx=>x.1.isSome)
   &&decide ([e].length+([]:List b6).length+(if([]:List b6).isEmpty then 0 else 1)<30))=true:=by rfl)
  (hline:(apos.endLine == cpos.line)=true:=by rfl) (hs:ax [e] X.env=(false,aH e X.env)::ax [] X.env:=by rfl) (hplain:(aZ cpos (ax [] X.env)).any (·.1)=false:=by rfl) :
  JE X (.Call (.Attribute o name apos) [e] [] cpos) (uX rv f to tl):=λE hE=>
 (Gg pa slot hty hm (ho E hE) (tL (ha E hE) oR hs) hbase hfew hline hs hplain).mono λσ H Q ⟨σW,S,QW,hσ,hS,ht,hQ⟩=>⟨σW,S,_,hσ,hS,ht,λw S1 v H1 e1 r1 iU h1=>
  ⟨hrv H1 w v S1 r1 iU h1.1,σW,S1,_,hσ.ext e1,iU,h1.2,λws S2 vs a H2 e2 fa ea na r2 hS2 h2=>hw H2 v w a vs ws S2 Q QW (r1.ext e2) ea na r2 hS2 h2 (hQ.from (e1.trans e2))⟩⟩
def R8 (pa:gi T) (slot:Slot T name id) (hty:fe (.builtin id)=pure (.type "method_descriptor")) (hrv:zD X.K T rv) (hm:sU X id r) (hw:zW X.K r f) (ho:JE X o to)
  (hbase:cK o name X.env (aH o X.env)=aH o X.env:=by rfl) (hline:(apos.endLine == cpos.line)=true:=by rfl):JE X (.Call (.Attribute o name apos) [] [] cpos) (wM rv f to ae):=λE hE=>
 (Y9 pa slot hty hm (ho E hE) hbase hline).mono λσ H Q ⟨σW,S,QW,hσ,hS,ht,hQ⟩=>⟨σW,S,_,hσ,hS,ht,λw S1 v H1 e1 r1 iU h1=>
  ⟨hrv H1 w v S1 r1 iU h1.1,hw H1 v w [] [] S1 Q QW r1 .nil iU h1.2 (hQ.from e1)⟩⟩
def qz:rB:=λw ws S Q=>match w with
 | .ref a=>n9 S a λxs=>match ws with
  | [y]=>xs.length<sizeLine∧Q .cc (bR S a (.bO (xs++[y])))
  |_=>False
 |_=>False
def Ug{K:ao}:zW K LC qz:=λH x w vs ws S Q QW r rs hS h hQ=>by
 cases r with
 |ref a=>
  obtain⟨xs,ea,h⟩:=qi h;obtain⟨us,f,hs⟩:=hS a _ ea;cases rs with
  |nil=>exact h.elim
  |cons r1 r2=>
   cases r2 with
   |cons _ _=>exact h.elim
   |nil=>
    obtain⟨e,hS'⟩:=hS.set_lst ea (hs.append (.one r1));exact⟨a,us,_,rfl,rfl,f,by rw[←hs.length];exact h.1,hQ _ _ _ _ e .cc hS' h.2⟩
 |_=>exact h.elim
def XO (ho:JE X o to) (ha:JA X (e::es) t)
  (hbase:cK o "append" X.env (aH o X.env)=aH o X.env:=by rfl)
  (hfew:((aZ cpos (ax (e::es) X.env)).all (λx=> !x.1)&&(dN cpos (dM [] X.env)).all (λx=>x.1.isSome)
   &&decide ((e::es).length+([]:List b6).length+(if([]:List b6).isEmpty then 0 else 1)<30))=true:=by rfl)
  (hline:(apos.endLine == cpos.line)=true:=by rfl) (hs:ax (e::es) X.env=(false,aH e X.env)::ax es X.env:=by rfl) (hplain:(aZ cpos (ax es X.env)).any (·.1)=false:=by rfl) :
  JE X (.Call (.Attribute o "append" apos) (e::es) [] cpos) (wM pJ qz to t):=MX iw PySem.F.slot_list_append PySem.F.type_list_append DM HW Ug ho ha hbase hfew hline hs hplain
def RG:rB:=λw ws S Q=>match w with
 | .ref a=>n9 S a λxs=>match ws with
  | []=>match xs[xs.length - 1]? with
   |some y=>Q y (bR S a (.bO xs.dropLast))
   |none=>False
  |_=>False
 |_=>False
def wc:rB:=λw ws S Q=>match w with
 | .ref a=>n9 S a λxs=>match ws with
  | [.bW ys]=>xs.length+ys.length≤sizeLine∧Q .cc (bR S a (.bO (xs++ys)))
  | [.ref b]=>n9 S b λys=>xs.length+ys.length≤sizeLine∧Q .cc (bR S a (.bO (xs++ys)))
  |_=>False
 |_=>False
def T5{K:ao}:zW K (λx vs H Q=>DR x vs H Q∨MP K x vs H Q) wc:=λH x w vs ws S Q QW r rs hS h hQ=>by
 cases r with
 |ref a=>
  obtain⟨xs,ea,h⟩:=qi h;obtain⟨us,f,hs⟩:=hS a _ ea;cases rs with
  |nil=>exact h.elim
  |cons r1 r2=>
   cases r2 with
   |cons _ _=>cases r1<;>exact h.elim
   |nil=>
    cases r1 with
    |bW g ks=>
     obtain⟨e,hS'⟩:=hS.set_lst ea (hs.append ks);exact .inr ⟨a,_,us,_,rfl,rfl,f, .of g,by rw[←hs.length,←ks.length];exact h.1,hQ _ _ _ _ e .cc hS' h.2⟩
    |ref b=>
     obtain⟨ys,eb,h⟩:=qi h;obtain⟨zs,g,ks⟩:=hS b _ eb;obtain⟨e,hS'⟩:=hS.set_lst ea (hs.append ks);exact .inl ⟨a,b,us,zs,rfl,rfl,f,g,by rw[←hs.length,←ks.length];exact h.1,hQ _ _ _ _ e .cc hS' h.2⟩
    |_=>exact h.elim
 |_=>exact h.elim
def X1 (ho:JE X o to) (ha:JA X (e::es) t)
  (hbase:cK o "extend" X.env (aH o X.env)=aH o X.env:=by rfl)
  (hfew:((aZ cpos (ax (e::es) X.env)).all (λx=> !x.1)&&(dN cpos (dM [] X.env)).all (λx=>x.1.isSome)
   &&decide ((e::es).length+([]:List b6).length+(if([]:List b6).isEmpty then 0 else 1)<30))=true:=by rfl)
  (hline:(apos.endLine == cpos.line)=true:=by rfl) (hs:ax (e::es) X.env=(false,aH e X.env)::ax es X.env:=by rfl) (hplain:(aZ cpos (ax es X.env)).any (·.1)=false:=by rfl) :
  JE X (.Call (.Attribute o "extend" apos) (e::es) [] cpos) (wM pJ wc to t):=MX iw jZ lg DM (sU.or Gx XE) T5 ho ha hbase hfew hline hs hplain
def zj:rB:=λw ws S Q=>match w with
 | .ref a=>n9 S a λxs=>xs.length+ws.length≤sizeLine∧Q .cc (bR S a (.bO (xs++ws)))
 |_=>False
def XR{K:ao}:Fl K DR zj:=λH x w a vs ws S Q QW r ea na rs hS h hQ=>by
 cases r with
 |ref b=>
  obtain⟨xs,eb,h⟩:=qi h;obtain⟨us,f,hs⟩:=hS b _ eb;obtain⟨e,hS'⟩:=hS.set_lst eb (hs.append rs);exact⟨b,a,us,vs,rfl,rfl,f,ea,by rw[←hs.length,←rs.length];exact h.1,hQ _ _ _ _ e .cc hS' h.2⟩
 |_=>exact h.elim
def Qt (ho:JE X o to) (ha:JL X e tl)
  (hbase:cK o "extend" X.env (aH o X.env)=aH o X.env:=by rfl)
  (hfew:((aZ cpos (ax [e] X.env)).all (λx=> !x.1)&&(dN cpos (dM [] X.env)).all (λx=>x.1.isSome)
   &&decide ([e].length+([]:List b6).length+(if([]:List b6).isEmpty then 0 else 1)<30))=true:=by rfl)
  (hline:(apos.endLine == cpos.line)=true:=by rfl) (hs:ax [e] X.env=(false,aH e X.env)::ax [] X.env:=by rfl) (hplain:(aZ cpos (ax [] X.env)).any (·.1)=false:=by rfl) :
  JE X (.Call (.Attribute o "extend" apos) [e] [] cpos) (uX pJ zj to tl):=Oc iw jZ lg DM Gx XR ho ha hbase hfew hline hs hplain
def u6:List W→Option (List ah)
 | []=>aa []
 | .str b::ws=>(u6 ws).map (b:: ·)
 |_=>none
theorem Oo{K:ao}{H:Hp}:∀{ws:List W}{vs:List V}{bs:List ah},mC K H ws vs→u6 ws=aa bs→vs=bs.map V.str
 | [],_,_, .nil,e=>by have:=aL e;subst this;rfl
 |w::ws,_,_, .cons r rs,e=>by
  cases r with
  |str b=>
   have e':(u6 ws).map (b:: ·)=aa _:=e;cases q:u6 ws with
   |none=>rw[q]at e';cases e'
   |some cs=>
    rw[q]at e';have:=aL e';subst this;rw[aC,Oo rs q]
  |_=>cases e
def xh:rB:=λw ws S Q=>match w with
 | .str z=>match u6 ws with
  |some ys=>(ys.map (·.length)).sum+ys.length*z.length≤16777216∧Q (.str (dq z ys)) S
  |none=>False
 |_=>False
def Pn{K:ao}:Fl K (KR K) xh:=λH x w a vs ws S Q QW r ea na rs hS h hQ=>by
 cases r with
 |str z=>
  unfold xh at h;dsimp only at h;split at h
  ·rename_i ys e;have:=Oo rs e;subst this;exact⟨z,a,ys,rfl,rfl, .of ea,h.1,hQ _ S _ H .refl (.str _) hS h.2⟩
  ·exact h.elim
 |_=>exact h.elim
def Yt (ho:JE X o to) (ha:JL X e tl)
  (hbase:cK o "join" X.env (aH o X.env)=aH o X.env:=by rfl)
  (hfew:((aZ cpos (ax [e] X.env)).all (λx=> !x.1)&&(dN cpos (dM [] X.env)).all (λx=>x.1.isSome)
   &&decide ([e].length+([]:List b6).length+(if([]:List b6).isEmpty then 0 else 1)<30))=true:=by rfl)
  (hline:(apos.endLine == cpos.line)=true:=by rfl) (hs:ax [e] X.env=(false,aH e X.env)::ax [] X.env:=by rfl) (hplain:(aZ cpos (ax [] X.env)).any (·.1)=false:=by rfl) :
  JE X (.Call (.Attribute o "join" apos) [e] [] cpos) (uX u0 xh to tl):=Oc lY PySem.F.slot_str_join PySem.F.type_str_join HH Xl Pn ho ha hbase hfew hline hs hplain
def VV:rB:=λw ws S Q=>match w with
 | .str z=>match ws with
  | [.str y]=>match cU z y 0 z.length 1 with
   |i::_=>Q (.int i) S
   | []=>False
  |_=>False
 |_=>False
end
def wu (i:Nat) (g:Int→Int→Int) (e:WE) (E:WX) (D:mY) (σ:mS) (S:li):Prop:=match σ[i]? with
 |some (aa (.int a))=>e E σ S λw S1=>match w with
  | .int b=>D.nx (σ.set i (aa (.int (g a b)))) S1
  |_=>False
 |_=>False
def Ra (hN:X.N.Nodup) (hi:X.N[i]? =aa x) (hx:tp X.env.scope x) (he:JE X e te) (hf:X.fn x=true∨X.env.scope.names.lookup x=aa .local:=by first |exact .inl rfl |exact .inr rfl |assumption) :
  JS X (.AugAssign (.Name x pos') .Add e pos) (wu i (λa b=>a+b) te):=λE hE=>
 (TC hN hi hx (he E hE) Sa hf).mono λD σ H ⟨σW,S,DW,hσ,hS,ht,hD⟩=>by
  unfold wu at ht;split at ht
  ·rename_i a ea;obtain⟨v,ev,rv⟩:=hσ.get ea;cases rv;refine⟨_,ev,σW,S,_,hσ,hS,ht,λw S1 v H1 e1 r1 iU h1=>?_⟩;cases r1 with
   |int b=>exact⟨a,b,rfl,rfl,hD.nx _ S1 _ H1 e1 ((hσ.ext e1).set (.int _) i) iU h1⟩
   |_=>exact h1.elim
  ·exact ht.elim
def wE (c:WT) (b:WS):WS:=λE D σ S=>∃I:Nat→mS→li→Prop,(∃m,I m σ S)∧ ∀m σ S,I m σ S→c E σ S λk S1=>if k=true then
 b E { D with nx:=λσ' S'=>∃m' S'',m'<m∧Sub S'' S'∧I m' σ' S'',ct:=λσ' S'=>∃m' S'',m'<m∧Sub S'' S'∧I m' σ' S'',bk:=D.nx } σ S1 else D.nx σ S1
def ZS (hc:JT X c tc) (hb:sy X body tb):JS X (.While c body [] pos) (wE tc tb):=λE hE=>
 (ZA hE.own (hc E hE) (hb E hE)).mono λD σ H ⟨σW,S,DW,hσ,hS,⟨J,⟨n,ht⟩,step⟩,hD⟩=>by
  refine⟨λm σ1 H1=>∃σW1 S1,nG H S H1 S1∧nj X.K H1 σW1 σ1∧mD X.K H1 S1∧J m σW1 S1,⟨n,σW,S, .refl,hσ,hS,ht⟩,?_⟩;rintro m σ1 H1 ⟨σW1,S1,e1,hσ1,iU,h1⟩;refine⟨σW1,S1,_,hσ1,iU,step m σW1 S1 h1,λk S2 H2 e2 hS2 h2=>?_⟩;cases k with
  |false=>exact hD.nx σW1 S2 σ1 H2 (e1.trans e2) (hσ1.ext e2) hS2 h2
  |true=>
   rw[if_pos rfl]at h2⊢;refine⟨λσ' H'=>∃m',m'<m∧ ∃σW1 S1,nG H S H' S1∧nj X.K H' σW1 σ'∧mD X.K H' S1∧J m' σW1 S1,λσ' H' n'=>n',σW1,S2,_,hσ1.ext e2,hS2,h2,?_⟩;have e12:=e1.trans e2;have go:qk X.K H2 S2 (λσ' S'=>∃m' S'',m'<m∧Sub S'' S'∧J m' σ' S'') (λσ' H'=>∃m',m'<m∧ ∃σW1 S1,nG H S H' S1∧nj X.K H' σW1 σ'∧mD X.K H' S1∧J m' σW1 S1):=λσW3 S3 σ3 H3 e3 hσ3 hS3 ⟨m',S4,hm,sb,q⟩=>
    ⟨m',hm,σW3,S4,(e12.trans e3).trans (.drop sb),hσ3,hS3.sub sb,q⟩
   exact⟨go,hD.rt.from e12,hD.nx.from e12,go⟩
def mO (g:WG) (b:WS) (E:WX) (D:mY) (G:li→Prop):List W→mS→li→Prop
 | [],σ,S=>D.nx σ S
 |w::ws,σ,S=>g w σ S λσ1 S1=>b E { D with nx:=λσ' S'=>∃S'',Sub S'' S'∧G S''∧mO g b E D G ws σ' S'',ct:=λσ' S'=>∃S'',Sub S'' S'∧G S''∧mO g b E D G ws σ' S'',bk:=D.nx } σ1 S1
def oC (q:WI) (g:WG) (b:WS) (E:WX) (D:mY) (σ:mS) (S:li):Prop:=q E σ S λws G S1=>mO g b E D G ws σ S1
def Rz (hi:JI X tg iter q) (hg:JG X tg g) (hb:sy X body tb) (hcl:X.calm=true:=by rfl)
  (hs:∀x,dA iter X.env x=pure x:=by intro _;rfl):JS X (.For tg iter body [] pos) (oC q g tb):=λE hE=>
 (W9 hE.own hcl (hi E hE) (hg E hE) (hb E hE) hs).mono λD σ H ⟨σW,S,DW,hσ,hS,ht,hD⟩=>by
  refine⟨σW,S,_,hσ,hS,ht,λws G S1 J H1 e1 iU hG1 hJ h1=>?_⟩;refine⟨λi m σ2 H2=>∃σW2 S2,nG H1 S1 H2 S2∧nj X.K H2 σW2 σ2∧mD X.K H2 S2∧G S2∧m=ws.length - i∧i≤ws.length∧mO g tb E DW G (ws.drop i) σW2 S2,
   ⟨ws.length,σW,S1, .refl,hσ.ext e1,iU,hG1,rfl,aO _,h1⟩,?_⟩
  rintro i m σ2 H2 ⟨σW2,S2,e2,hσ2,hS2,hG2,rfl,hi2,h2⟩;obtain⟨ji,js⟩:=hJ i S2 H2 e2 hS2 hG2;by_cases hlt:i<ws.length
  ·obtain⟨jgo,jy⟩:=ji ws[i] (aR hlt);refine .inr ⟨jgo,λσ' H'=>∃σW2 S2,nG H1 S1 H' S2∧nj X.K H' σW2 σ'∧mD X.K H' S2∧G S2∧ws.length - (i+1)=ws.length - (i+1)∧i+1≤ws.length∧mO g tb E DW G (ws.drop (i+1)) σW2 S2,λσ' H' z=>⟨_,by lia,z⟩,λx H3 y3=>?_⟩
   obtain⟨e3,hS3,r3⟩:=jy x H3 y3;rw[gh hlt]at h2;refine⟨_,σW2,S2,_,r3,hσ2.ext e3,hS3,h2,λσW4 S4 σ4 H4 e4 hσ4 hS4 h4=>?_⟩;have e14:nG H1 S1 H4 S4:=(e2.trans e3).trans e4;refine⟨σW4,S4,_,hσ4,hS4,h4,?_⟩;have go:qk X.K H4 S4 (λσ' S'=>∃S'',Sub S'' S'∧G S''∧mO g tb E DW G (ws.drop (i+1)) σ' S'') (λσ' H'=>∃σW2 S2,nG H1 S1 H' S2∧nj X.K H' σW2 σ'∧mD X.K H' S2∧G S2∧ws.length - (i+1)=ws.length - (i+1)∧i+1≤ws.length∧mO g tb E DW G (ws.drop (i+1)) σW2 S2):=
    λσW5 S5 σ5 H5 e5 hσ5 hS5 ⟨S6,sb,hG6,q⟩=>⟨σW5,S6,(e14.trans e5).trans (.drop sb),hσ5,hS5.sub sb,hG6,rfl,hlt,q⟩
   exact⟨go,hD.rt.from (e1.trans e14),hD.nx.from (e1.trans e14),go⟩
  ·have hl:i=ws.length:=by lia
   rw[fO (gf hl.symm)]at h2;exact .inl ⟨js hl,hD.nx σW2 S2 σ2 H2 (e1.trans e2) hσ2 hS2 h2⟩
def PQ (K:ao) (tl:TE):TI:=λσ H R=>tl σ H λx H1=>(∃a,x= .ref a∧(∃xs,oE K H1 a xs)∧R (Ap K a) H1)∨(∃a,x= .ref a∧(∃xs,oX K H1 a xs)∧R (EJ K a) H1)∨ ∃z,x= .str z∧R (Dc z) H1
def XN (hl:PE X l tl):PI X tg l (PQ X.K tl):=by
 intro ag s σ H R I h;refine nD (hl ag s σ H _ I h) λv s1 ⟨x,H1,I1,r1,q1⟩=>?_;have fp:∀b∈ [s1.heap.objs.size],qI X ag H1 b:=λb hb=>by
  have e:b=s1.heap.objs.size:=by simpa using hb
  subst e;exact I1.fpOk (aA _) (I1.cG.fresh (aA _))
 obtain ⟨a,e,⟨xs,hq⟩,q⟩ |⟨a,e,⟨xs,hq⟩,q⟩ |⟨z,e,q⟩:=q1
 ·subst e;cases r1;obtain⟨eA,rv,p,hz⟩:=I1.list hq;refine fi p.isList ?_;exact⟨s1.heap.objs.size,[s1.heap.objs.size],_,_,H1,rfl,I1.kept (t':=s1.toks) λb o e=>aQ _ e,MU a _,⟨_,bI _ rfl,rfl,rfl⟩,fp,q⟩
 ·subst e;cases r1;obtain⟨eA,rv,p,hz⟩:=I1.tuple hq;refine kL (show s1.heap.IsTuple a eA.toArray from p) ?_;exact⟨s1.heap.objs.size,[s1.heap.objs.size],_,_,H1,rfl,I1.kept (t':=s1.toks) λb o e=>aQ _ e,Rc a _,⟨_,bI _ rfl,rfl,rfl⟩,fp,q⟩
 ·subst e;obtain⟨t,rfl⟩:=r1;cases ha:z.cps.all (· <128)
  ·refine wpAny_pyIter_wide ha ?_;exact⟨s1.heap.objs.size,[s1.heap.objs.size],_,_,H1,rfl,I1.kept (t':=s1.toks) λb o e=>aQ _ e,
    KA _ z t "str_iterator" (by decide) (λA' hA=>Walks.strWide hA _ z t) (λ_ _ _ _ _ st h=>wpAny_pyIter_striter_wide st h),⟨_,bI _ rfl,rfl,rfl⟩,fp,q⟩
  ·refine wpAny_pyIter_ascii ha ?_;exact⟨s1.heap.objs.size,[s1.heap.objs.size],_,_,H1,rfl,I1.kept (t':=s1.toks) λb o e=>aQ _ e,
    KA _ z t "str_ascii_iterator" (by decide) (λA' hA=>Walks.strAscii hA _ z t) (λ_ _ _ _ _ st h=>wpAny_pyIter_striter_ascii st h),⟨_,bI _ rfl,rfl,rfl⟩,fp,q⟩
def AY (z:ah):List W:=z.cps.toList.map λc=> .str ⟨#[c]⟩
def oq (t:WE) (E:WX) (σ:mS) (S:li) (Q:List W→(li→Prop)→li→Prop):Prop:=t E σ S λw S1=>match w with
 | .bW ws=>Q ws (λ_=>True) S1
 | .ref a=>n9 S1 a λws=>Q ws (λS'=>S' a=aa (.bO ws)) S1
 | .c6 ns=>Q (ns.map W.int) (λ_=>True) S1
 | .str z=>Q (AY z) (λ_=>True) S1
 |_=>False
def DI{K:ao}{a:ai}{ws:List W}{G:li→Prop}{H0:Hp}{S0:li}(h:∀S H,nG H0 S0 H S→mD K H S→G S→ ∃vs,oE K H a vs∧mC K H ws vs):wz K (Ap K a) ws G H0 S0:=λi S H e hS hG=>by
 obtain⟨vs,hq,r⟩:=h S H e hS hG;refine⟨λw ew=>?_,λhl=>⟨vs,hq,by rw[←r.length,hl];exact aA _⟩⟩
 obtain⟨v,ev,rv⟩:=r.get ew;refine⟨⟨vs,v,hq,ev⟩,λx H' ⟨e1,e2⟩=>?_⟩;subst e1;have e3:=e2 vs hq;rw[ev]at e3;cases e3;exact⟨.refl,hS,rv⟩
def Yg{K:ao}{a:ai}{ws:List W}{vs:List V}{H0:Hp}{S0:li}(f:H0 a=aa (.bW vs)) (r:mC K H0 ws vs):wz K (EJ K a) ws (λ_=>True) H0 S0:=λi S H e hS hG=>by
 have f':=e.bW _ _ f;have r':=r.ext e;refine⟨λw ew=>?_,λhl=>⟨vs, .of f',by rw[←r'.length,hl];exact aA _⟩⟩
 obtain⟨v,ev,rv⟩:=r'.get ew;refine⟨⟨vs,v, .of f',ev⟩,λx H' ⟨e1,e2⟩=>?_⟩;subst e1;have e3:=e2 vs (.of f');rw[ev]at e3;cases e3;exact⟨.refl,hS,rv⟩
def TD{K:ao}{z:ah}{H0:Hp}{S0:li}:wz K (Dc z) (AY z) (λ_=>True) H0 S0:=λi S H e hS hG=>by
 unfold AY;refine⟨λw ew=>?_,λhl=>?_⟩
 ·rw[aU]at ew;cases ec:z.cps.toList[i]? with
  |none=>rw[ec]at ew;cases ew
  |some c=>
   rw[ec]at ew;have ew':=aL ew;subst ew';have hi:i<z.cps.size:=by
    have:=(b7.mp ec).1;simpa using this
   refine⟨hi,λx H' ⟨e1,c',e2,e3⟩=>?_⟩;subst e1 e3;have:c'=c:=by
    have q:z.cps.toList[i]? =aa c':=by rw[←e2];simp
    rw[ec]at q;exact(aL q).symm
   subst this;exact⟨.refl,hS, .str _⟩
 ·show i=z.cps.size;simpa using hl
def WB{l:Expr}{tl:WE}(hl:JE X l tl):JI X tg l (oq tl):=λE hE=>
 (XN (hl E hE)).mono λσ H R ⟨σW,S,QW,hσ,hS,ht,hR⟩=>⟨σW,S,_,hσ,hS,ht,λw S1 v H1 e1 r1 iU h1=>by
  cases r1 with
  |bW f hs=>exact .inr (.inl ⟨_,rfl,⟨_, .of f⟩,hR _ _ S1 _ H1 e1 iU trivial (Yg f hs) h1⟩)
  |ref a=>
   obtain⟨ws,ea,h⟩:=qi h1;obtain⟨vs,f,hs⟩:=iU a _ ea;refine .inl ⟨_,rfl,⟨_, .of f⟩,hR _ _ S1 _ H1 e1 iU ea (DI λS2 H2 e2 hS2 g2=>?_) h⟩;obtain⟨vs2,f2,hs2⟩:=hS2 a _ g2;exact⟨vs2, .of f2,hs2⟩
  |c6 f=>exact .inl ⟨_,rfl,⟨_,f.sq⟩,hR _ _ S1 _ H1 e1 iU trivial (DI λS2 H2 e2 hS2 g2=>⟨_,(e2.fz f).sq,mC.ofInts _⟩) h1⟩
  |str z=>exact .inr (.inr ⟨z,rfl,hR _ _ S1 _ H1 e1 iU trivial TD h1⟩)
  |_=>exact h1.elim⟩
def NO (t:WL):WI:=λE σ S Q=>t E σ S λws S1=>Q ws (λ_=>True) S1
def Q8 (hl:JL X l tl):JI X tg l (NO tl):=λE hE=>
 (RC (hl E hE)).mono λσ H R ⟨σW,S,QW,hσ,hS,ht,hR⟩=>⟨σW,S,_,hσ,hS,ht,λws S1 vs a H1 e1 fa ea na r1 iU h1=>
  ⟨a,rfl,⟨vs, .of ea⟩,hR _ _ S1 _ H1 e1 iU trivial (DI λS2 H2 e2 hS2 g2=>⟨vs, .of (e2.fr a _ ea na).1,r1.ext e2⟩) h1⟩⟩
def sG (lo:Int) (n:Nat):List W:=(bx n).map λ(i:Nat)=> .int (lo+(i:Int))
def VP{K:ao}{lo:Int}{n:Nat}{H0:Hp}{S0:li}:wz K (Bl lo n) (sG lo n) (λ_=>True) H0 S0:=λi S H e hS hG=>by
 unfold sG;refine⟨λw ew=>?_,λhl=>by
  have:i=n:=by simpa using hl
  exact gf this.symm⟩
 rw[aU]at ew;by_cases hi:i<n
 ·rw[fN hi]at ew;have ew':=aL ew;subst ew';refine⟨hi,λx H' ⟨e1,e2⟩=>?_⟩;subst e1 e2;exact⟨.refl,hS, .int _⟩
 ·rw[jq (by simpa using hi)]at ew;cases ew
def t7 (t:WA) (E:WX) (σ:mS) (S:li) (Q:List W→(li→Prop)→li→Prop):Prop:=t E σ S λws S1=>match ws with
 | [.int j]=>(-(2 ^ 62)≤j∧j<2 ^ 62)∧Q (sG 0 j.toNat) (λ_=>True) S1
 |_=>False
def W6 (hg:Gl X "range") (hm:X.mg "range" =none) (ha:JA X [a] ta) (hs:ax [a] X.env=[(false,aH a X.env)]:=by rfl):JI X tg (.Call (.Name "range" p) [a] [] pos) (t7 ta):=λE hE=>
 (RJ hg hm (ha E hE) hs).mono λσ H R ⟨σW,S,QW,hσ,hS,ht,hR⟩=>⟨σW,S,_,hσ,hS,ht,λws S1 vs H1 e1 r1 iU h1=>by
  cases r1 with
  |nil=>exact h1.elim
  |cons r2 r3=>
   cases r3 with
   |cons _ _=>cases r2<;>exact h1.elim
   |nil=>
    cases r2 with
    |int j=>exact⟨j,rfl,h1.1.1,h1.1.2,hR _ _ S1 _ H1 e1 iU trivial VP h1.2⟩
    |_=>exact h1.elim⟩
def py (_:WX) (_:mS) (S:li) (Q:Bool→li→Prop):Prop:=Q true S
def vq (X:Cx) (ifs:List Expr) (t:WT):Prop:=∀E,oM X E→Cw X ifs (C8 X.K (t E))
def QN:vq X [] py:=λE hE ag s σ H Q I ⟨σW,S,QW,hσ,hS,ht,hQ⟩=>Xi ag s σ H Q I (hQ true S H .refl hS ht)
def RV (h:JT X c t):vq X [c] t:=λE hE=>YH (h E hE)
def sI (g:WG) (c:WT) (e:WE) (E:WX) (G:li→Prop) (Q:List W→li→Prop):List W→List W→mS→li→Prop
 | [],acc,_,S=>Q acc S
 |w::ws,acc,σ,S=>g w σ S λσ1 S1=>c E σ1 S1 λb S2=>if b=true then e E σ1 S2 λy S3=>acc.length<sizeLine∧ ∃S4,Sub S4 S3∧G S4∧sI g c e E G Q ws (acc++[y]) σ1 S4
   else ∃S4,Sub S4 S2∧G S4∧sI g c e E G Q ws acc σ1 S4
abbrev rY:WX:=λ_ _ _=>False
def Fi (h:X.xe=λ_ _=>False):oM X rY:=⟨by rw[h];exact kl,λ_ _ _ _ _ _ _ _ _ _ _ _ _ _ _ _ _ _ _ _ z=>z.elim,λ_ _ _ _ _ _ _ _ _ _ _ _ _ _ _ _ z=>z.elim⟩
def PS.nox{X:Cx}{st:aW}{t:TS}(h:PS X.nox st t):PS X st t:=λag s σ H D I hw=>
 cf (h ag s σ H D (I.wish _) hw) (λ_ _ q=>q.unwish) λ_ _ z=>cE z
def o9 (k:Nat) (fr:List Nat) (q:WI) (g:WG) (c:WT) (e:WE) (_:WX) (σ:mS) (S:li) (Q:List W→li→Prop):Prop:=q rY σ S λws G S1=>sI g c e rY G Q ws [] (bn k none++fr.map λj=>(σ[j]?).join) S1
def Zj{K:ao}{H:Hp}{σW:mS}{σ:St}{k:Nat}{fr:List Nat}(h:nj K H σW σ):nj K H (bn k none++fr.map λj=>(σW[j]?).join) (Av σ k fr):=by
 have one:∀j:Nat,wA K H (σW[j]?).join (σ[j]?).join:=λj=>by
  cases e:σW[j]? with
  |none=>exact trivial
  |some w=>
   cases w with
   |none=>exact trivial
   |some w=>
    obtain⟨v,ev,r⟩:=h.get e;rw[ev];exact r
 have go:∀fr:List Nat,nj K H (fr.map λj=>(σW[j]?).join) (wj σ fr):=by
  intro fr
  induction fr with
  |nil=>exact .nil
  |cons j fr ih=>exact .cons (one j) ih
 unfold Av
 induction k with
 |zero=>exact go fr
 |succ k ih=>exact .cons trivial ih
def nG.loose (a:∀b xs,H b=aa (.bW xs)→H' b=aa (.bW xs)) (b:∀c o u,H c=aa (.frz o u)→H' c=aa (.frz o u)) (d:∀b o,H b=aa o→ ∃o',H' b=aa o'):nG H (λ_=>aa (.bO [])) H' (λ_=>aa (.bO [])):=
 ⟨a,b,(λ_ _ _ g=>nomatch g),d⟩
def nG.over (e:nG H S H' S') (h:H l=none):nG H S (nH H' l o) S':=
 ⟨λb xs q=>by rw[og (pR q h)];exact e.bW b xs q,λb ob u q=>by rw[og (pR q h)];exact e.frz b ob u q,λb ob q z=>by rw[og (pR q h)];exact e.fr b ob q z,λb ob q=>by rw[og (pR q h)];exact e.all b ob q⟩
def Mx (hg:∀s₀ H₀ fp pn,JG (pQ X scope N s₀ H₀ fp pn) tg g) (hc:∀s₀ H₀ fp pn,vq (pQ X scope N s₀ H₀ fp pn) ifs c) (he:∀s₀ H₀ fp pn,JE (pQ X scope N s₀ H₀ fp pn) elt e)
  (σ:St) (H:Hp) (Q:VK):Jf X.K (o9 k fr q g c e E) σ H Q→AF X scope N k fr tg ifs elt (JU X.K (q rY)) σ H Q:=λ⟨σW,S0,QW,hσ,hS,ht,hQ⟩=>by
  refine⟨σW,S0,_,hσ,hS,ht,λws G S1 J H1 e1 iU hG1 hJ h1 l hl=>?_⟩;have upl:∀{H':Hp}{vs us:List V}{S':li},H' l=aa (.bO vs)→S' l=none→mD X.K H' S'→nG H' (λ_=>aa (.bO [])) (nH H' l (.bO us)) (λ_=>aa (.bO []))∧mD X.K (nH H' l (.bO us)) S':=λ{H' vs us S'} f n hS'=>by
   have x:nG H' (λ_=>aa (.bO [])) (nH H' l (.bO us)) (λ_=>aa (.bO [])):= .loose (λb xs q=>by rw[og (BT q f λz=>nomatch z)];exact q) (λb o u q=>by rw[og (BT q f λz=>nomatch z)];exact q) λb o q=>by
    by_cases hb:b=l
    ·subst hb;exact⟨_,pE⟩
    ·exact⟨o,by rw[og hb];exact q⟩
   refine⟨x,λa o q=>(hS' a o q).keep x λu z=>?_⟩;have ha:a≠l:=by rintro rfl;rw[n]at q;cases q
   rw[og ha];exact z
  refine⟨λi m σ' H'=>∃σW' S' acc vs,nG H1 S1 H' S'∧H' l=aa (.bO vs)∧S' l=none∧mC X.K H' acc vs∧nj X.K H' σW' σ'∧mD X.K H' S'∧G S'∧m=ws.length - i∧i≤ws.length∧sI g c e rY G QW (ws.drop i) acc σW' S',
   ⟨ws.length,_,S1,[],[], .new hl,pE,iU.free hl, .nil,Zj (hσ.ext (e1.trans (.new (S:=S1) hl))),iU.new hl,hG1,rfl,aO _,h1⟩,?_⟩
  rintro i m σ' H' ⟨σW',S',acc,vs,e2,f2,n2,ra,hσ2,hS2,hG2,rfl,hi2,h2⟩;obtain⟨ji,js⟩:=hJ i S' H' e2 hS2 hG2;by_cases hlt:i<ws.length
  ·obtain⟨jgo,jy⟩:=ji ws[i] (aR hlt);refine .inr ⟨jgo,λσ'' H''=>∃σW' S' acc vs,nG H1 S1 H'' S'∧H'' l=aa (.bO vs)∧S' l=none∧mC X.K H'' acc vs∧nj X.K H'' σW' σ''∧mD X.K H'' S'∧G S'∧ws.length - (i+1)=ws.length - (i+1)∧i+1≤ws.length∧sI g c e rY G QW (ws.drop (i+1)) acc σW' S',
    λσ'' H'' z=>⟨_,by lia,z⟩,λx H3 y3=>?_⟩
   obtain⟨e3,hS3,r3⟩:=jy x H3 y3;rw[gh hlt]at h2;intro s₀ H₀ fp pn;have hk:oM (pQ X scope N s₀ H₀ fp pn) rY:=Fi rfl;refine⟨_,_,_,hg s₀ H₀ fp pn rY hk,hc s₀ H₀ fp pn rY hk,he s₀ H₀ fp pn rY hk,?_⟩;refine⟨_,σW',S',_,r3,hσ2.ext e3,hS3,h2,λσW4 S4 σ4 H4 e4 hσ4 hS4 h4=>?_⟩;refine⟨σW4,S4,_,hσ4,hS4,h4,λb S5 H5 e5 hS5 h5=>?_⟩;have e15:nG H' S' H5 S5:=(e3.trans e4).trans e5;have hσ5:=hσ4.ext e5;obtain⟨f5,n5⟩:=e15.fr l _ f2 n2;cases b with
   |false=>
    have h5:∃S4,Sub S4 S5∧G S4∧sI g c e rY G QW (ws.drop (i+1)) acc σW4 S4:=h5;refine Si ?_;obtain⟨S6,sb,hG6,h6⟩:=h5;have e16:=e15.trans (.drop sb);exact⟨σW4,S6,acc,vs,e2.trans e16,f5,(e16.fr l _ f2 n2).2,ra.ext e15,hσ5,hS5.sub sb,hG6,rfl,hlt,h6⟩
   |true=>
    rw[if_pos rfl]at h5;refine Uf ?_;refine⟨σW4,S5,_,hσ5,hS5,h5,λy S6 v H6 e6 r6 hS6 h6=>?_⟩;have e17:=e15.trans e6;obtain⟨f6,n6⟩:=e17.fr l _ f2 n2;obtain⟨hz,S7,sb,hG7,h7⟩:=h6;obtain⟨x6,hS6'⟩:=upl (us:=vs++[v]) f6 n6 hS6;have ra6:mC X.K H6 (acc++[y]) (vs++[v]):=(ra.ext e17).append (.one r6);refine⟨vs,f6,by rw[←ra.length];exact hz,σW4,S7,acc++[y],vs++[v],?_,pE,((e17.trans (.drop sb)).fr l _ f2 n2).2,ra6.ext x6,(hσ5.ext e6).ext x6,hS6'.sub sb,hG7,rfl,hlt,h7⟩
    exact(e2.trans (e17.trans (.drop sb))).over hl
  ·have hll:i=ws.length:=by lia
   rw[fO (gf hll.symm)]at h2;exact .inl ⟨js hll,hQ acc S' vs l H' (e1.trans e2) (e1.free hl) f2 n2 ra hS2 h2⟩
def Y4 (S:ny X.nox scope N k fr) (hi:JI X.nox tg iter q) (hg:∀s₀ H₀ fp pn,JG (pQ X.nox scope N s₀ H₀ fp pn) tg g) (hc:∀s₀ H₀ fp pn,vq (pQ X.nox scope N s₀ H₀ fp pn) ifs c) (he:∀s₀ H₀ fp pn,JE (pQ X.nox scope N s₀ H₀ fp pn) elt e)
  (hs:∀x,dA iter X.env x=pure x:=by intro _;rfl) (hcl:X.calm=true:=by rfl):JL X (.ListComp elt [⟨tg,iter,ifs,0⟩] scope pos) (o9 k fr q g c e):=λE hE=>
 (PE.nox (Xp rfl hcl S (hi rY (Fi rfl)) hs)).mono (Mx (X:=X.nox) hg hc he)
def P6{i:Nat}{x:ah}{pos' spos:bw}(hN:X.N.Nodup) (hxi:X.N[i]? =aa x) (hxl:tp X.env.scope x) (S:ny X.nox scope N k fr) (hi:JI X.nox tg iter q) (hg:∀s₀ H₀ fp pn,JG (pQ X.nox scope N s₀ H₀ fp pn) tg g) (hc:∀s₀ H₀ fp pn,vq (pQ X.nox scope N s₀ H₀ fp pn) ifs c) (he:∀s₀ H₀ fp pn,JE (pQ X.nox scope N s₀ H₀ fp pn) elt e)
  (hw:d6 (.ListComp elt [⟨tg,iter,ifs,0⟩] scope pos) (aa (.Name x pos')) spos.line X.env=pure true:=by rfl) (hf:X.fn x=true∨X.env.scope.names.lookup x=aa .local:=by first |exact .inl rfl |exact .inr rfl |assumption)
  (hs:∀x,dA iter X.env x=pure x:=by intro _;rfl) (hcl:X.calm=true:=by rfl):JS X (.Assign [.Name x pos'] (.ListComp elt [⟨tg,iter,ifs,0⟩] scope pos) spos) (mr (nw (o9 k fr q g c e)) (mx i)):=λE hE=>
 (PS.nox (U4 (X:=X.nox) rfl hcl S (hi rY (Fi rfl)) hN hxi hxl hw hf hs)).mono λD σ H ⟨σW,S0,DW,hσ,hS,ht,hD⟩=>
  Mx (X:=X.nox) (E:=E) hg hc he σ H _ ⟨σW,S0,_,hσ,hS,ht,λws S1 vs a H1 e1 fa ea na r1 iU h1=>by
   have ex:nG H S0 H1 (bR S1 a (.bO ws)):=⟨e1.bW,e1.frz,λb o q g=>by
    have hb:b≠a:=by rintro rfl;rw[fa]at q;cases q
    rw[nO hb];exact e1.fr b o q g,e1.all⟩
   refine hD.nx _ (bR S1 a (.bO ws)) _ H1 ex ((hσ.ext ex).set (.ref a) i) (λb o q=>?_) (h1 a na);by_cases hb:b=a
   ·subst hb;rw[mR]at q;cases q;exact⟨vs,ea,r1⟩
   ·rw[nO hb]at q;exact iU b o q⟩
def nu (k:Bool) (h:aE) (it a:ai) (i:Nat):Prop:=if k=true then h.IsListIter it a i else h.IsTupleIter it a i
def ni (k:Bool) (h:aE) (a:ai) (eA:Array aj):Prop:=if k=true then h.IsList a eA else h.IsTuple a eA
def nu.at (x:nu k h it a i) (e:∀o,h.get? it=aa o→h'.get? it=aa o):nu k h' it a i:=by
 cases k with
 |true=>exact aE.IsListIter.at (show h.IsListIter it a i from x) e
 |false=>exact aE.IsTupleIter.at (show h.IsTupleIter it a i from x) e
def ni.at (x:ni k h a eA) (e:∀o,h.get? a=aa o→h'.get? a=aa o):ni k h' a eA:=by
 cases k with
 |true=>exact aE.IsList.at (show h.IsList a eA from x) e
 |false=>obtain⟨o,ho,r⟩:=(show h.IsTuple a eA from x);exact⟨o,e o ho,r⟩
def nu.ob (x:nu k h it a i):∃o vs,h.get? it=aa o∧o.data= .fields vs:=by
 cases k with
 |true=>obtain⟨o,ho,_,hd⟩:=(show h.IsListIter it a i from x);exact⟨o,_,ho,hd⟩
 |false=>obtain⟨o,ho,_,hd⟩:=(show h.IsTupleIter it a i from x);exact⟨o,_,ho,hd⟩
section
variable {prog:bh}{w:aS}{A:br}{E:aj→am→Prop}{s:am}
def Ps{Q:aj→am→Prop}(hit:s.heap.IsTupleIter it t i) (ht:s.heap.IsTuple t eA) (hx:eA[i]? =aa x)
  (hQ:∀g,g.IsTupleIter it t (i+1)→cQ it s.heap g→Q x { s with heap:=g }):av (aB prog w) A (c9 (.ref it)) Q E s:=by
 obtain⟨o,ho,hc,hd⟩:=id hit;obtain⟨ot,hot,_,nt,hdt⟩:=ht;unfold c9;refine au (dO (name:=bG "__next__") hit.typeIs gX (dJ gX hit.typeIs kJ ?_ (md _)));show av _ _ (field (.ref it) 0 >>= _) _ _ s;refine au (bT ho hd (x:= .ref t) rfl ?_);show av _ _ (if(bK t == cP)=true then _ else _) _ _ s;rw[if_neg (show ¬((bK t == cP)=true) from cV)];show av _ _ (field (.ref it) 1 >>= _) _ _ s;refine au (bT ho hd (x:= .int i 0) rfl ?_);show av _ _ (seqItems? (.ref t) >>= _) _ _ s;refine au (dg hot hdt ?_);simp only[bb,hx];refine au (mf ho hd (by simp) (aM ⟨x,rfl,aM (hQ _ ?_ (jW ..))⟩));exact⟨_,aE.get?_update_self _ ho (aG.isFreed_of_fields (kC hd _)),(aG.cls_mapFields ..).trans hc,by rw[kC hd];simp [cM]⟩
def YT{Q:aj→am→Prop}(hh:A.handled=none) (hit:s.heap.IsTupleIter it t i) (ht:s.heap.IsTuple t eA) (hx:eA[i]? =none)
  (hE:∀g e,jD it s.heap g→(∃o,g.get? e=aa o∧o.cls= .type "StopIteration")→E (.ref e) { s with heap:=g }):av (aB prog w) A (c9 (.ref it)) Q E s:=by
 obtain⟨o,ho,hc,hd⟩:=id hit;obtain⟨ot,hot,_,nt,hdt⟩:=ht;unfold c9;refine au (dO (name:=bG "__next__") hit.typeIs gX (dJ gX hit.typeIs kJ ?_ (md _)));show av _ _ (field (.ref it) 0 >>= _) _ _ s;refine au (bT ho hd (x:= .ref t) rfl ?_);show av _ _ (if(bK t == cP)=true then _ else _) _ _ s;rw[if_neg (show ¬((bK t == cP)=true) from cV)];show av _ _ (field (.ref it) 1 >>= _) _ _ s;refine au (bT ho hd (x:= .int i 0) rfl ?_);show av _ _ (seqItems? (.ref t) >>= _) _ _ s;refine au (dg hot hdt ?_);simp only[bb,hx];refine au (eV (au (mf ho hd (by simp) ?_)));show av _ _ (newExc (.type "StopIteration") [] >>= _) _ _ _;refine au ?_;simp only[newExc,newTuple];refine au (eY ?_ (by size_fits));refine au (m:=lA _ _) (wpAny_of_eq (a:=cP) (by first |rfl | (simp only[lA];rfl)) ?_);refine eY ?_ (by size_fits);simp only[raiseNew];refine au (wpAny_handled ?_)
 first |rw[show A.in1.handled=none from hh] |rw[hh]
 refine au (aM (wpAny_throw ?_));exact hE _ _ (((jW ..).extBut.push _).push _) ⟨_,bI _ rfl,rfl⟩
def CD{Q:aj→am→Prop}(hit:nu k s.heap it t i) (ht:ni k s.heap t eA) (hx:eA[i]? =aa x)
  (hQ:∀g,nu k g it t (i+1)→cQ it s.heap g→Q x { s with heap:=g }):av (aB prog w) A (c9 (.ref it)) Q E s:=by
 cases k with
 |true=>exact wpAny_nextOf_list_item hit ht hx hQ
 |false=>exact Ps hit ht hx hQ
def E2{Q:aj→am→Prop}(hh:A.handled=none) (hit:nu k s.heap it t i) (ht:ni k s.heap t eA) (hx:eA[i]? =none)
  (hE:∀g e,jD it s.heap g→(∃o,g.get? e=aa o∧o.cls= .type "StopIteration")→E (.ref e) { s with heap:=g }):av (aB prog w) A (c9 (.ref it)) Q E s:=by
 cases k with
 |true=>exact wpAny_nextOf_list_end hh hit ht hx hE
 |false=>exact YT hh hit ht hx hE
def XF{k:Bool}{e it l:ai}{i:Nat}{eA:Array aj}{x old:aj}{Q:Option aj→am→Prop}
  (he:cX s.heap e it i old) (hit:nu k s.heap it l i) (hl:ni k s.heap l eA) (hx:eA[i]? =aa x) (hne:e≠it)
  (hQ:∀g,jI g e it ((i:Int)+1) x s.heap.objs.size→nu k g it l (i+1)→g.get? s.heap.objs.size=aa { cls:= .type "tuple",data:= .seq #[.int i s.toks,x] }→g.objs.size=s.heap.objs.size+1→
   (∀b o,b≠e→b≠it→s.heap.get? b=aa o→g.get? b=aa o)→Q (aa (.ref s.heap.objs.size)) { s with heap:=g,toks:=s.toks+1 }):av (aB prog w) A (cB (.ref e)) Q E s:=by
 have hT:s.TypeIs (.ref e) "enumerate" :=⟨_,he,rfl⟩;unfold cB;refine au (gv (dO (name:=bG "__next__") hT gS (dJ gS hT j9 ?_ (lH _))));obtain⟨hp,g,d,tk,os⟩:=s;show av _ _ (field (.ref e) 2 >>= _) _ _ _;refine au (bT he rfl (x:= .ref it) rfl ?_);refine au (CD hit hl hx λg1 hit1 hs1=>?_);replace hs1:cQ it hp g1:=hs1;have he1:cX g1 e it i old:=(hs1.2 e hne).trans he;show av _ _ (field (.ref e) 3 >>= _) _ _ ⟨g1,g,d,tk,os⟩;refine au (bT he1 rfl (x:=cM i) rfl ?_);show av _ _ (field (.ref e) 4 >>= _) _ _ ⟨g1,g,d,tk,os⟩;refine au (bT he1 rfl (x:= .none) rfl ?_);show av _ _ (mkInt i >>= _) _ _ ⟨g1,g,d,tk,os⟩;refine au (wpAny_mkInt ?_);show av _ _ (setField (.ref e) 3 (cM ((i:Int)+1)) >>= _) _ _ ⟨g1,g,d,tk+1,os⟩;refine au (cR he1 (by simp) λg2 he2 hs2=>?_);replace hs2:cQ e g1 g2:=hs2;replace he2:cX g2 e it ((i:Int)+1) old:=he2;show av _ _ (setField (.ref e) 4 .none >>= _) _ _ ⟨g2,g,d,tk+1,os⟩;refine au (cR he2 (by simp) λg3 he3 hs3=>?_);replace hs3:cQ e g2 g3:=hs3;replace he3:cX g3 e it ((i:Int)+1) old:=he3;show av _ _ (newTuple [.int i tk,x] >>= _) _ _ ⟨g3,g,d,tk+1,os⟩;refine au (lj ?_);have he4:cX (g3.push { cls:= .type "tuple",data:= .seq #[.int i tk,x] }) e it ((i:Int)+1) old:=aQ _ he3;generalize hg4:g3.push { cls:= .type "tuple",data:= .seq #[.int i tk,x] }=g4 at he4;have hsz:g3.objs.size=hp.objs.size:=by rw[hs3.1,hs2.1,hs1.1]
 have hel:e<hp.objs.size:=aP he;have ht4:g4.get? hp.objs.size=aa { cls:= .type "tuple",data:= .seq #[.int i tk,x] }:=by rw[←hg4,←hsz];exact bI _ rfl
 have hz4:g4.objs.size=hp.objs.size+1:=by rw[←hg4,c_,hsz]
 have hk4:∀b o,b≠e→b≠it→hp.get? b=aa o→g4.get? b=aa o:=λb o hbe hbi hb=>by rw[←hg4];exact aQ _ (hs3.extBut b o hbe (hs2.extBut b o hbe (hs1.extBut b o hbi hb)))
 have hit4:nu k g4 it l (i+1):=by rw[←hg4];exact hit1.at λo ho=>aQ _ (hs3.extBut it o (bz hne) (hs2.extBut it o (bz hne) ho))
 show av _ _ (fy (.ref e) >>= _) _ _ ⟨g4,g,d,tk+1,os⟩;rw[hsz];clear hg4 he3 hs3 he2 hs2 he1 hs1 hit1 hsz g3 g2 g1;refine au ?_;unfold fy;refine au (bT he4 rfl (x:= .none) rfl (aM ?_));simp only[if_true];refine au (eV ?_);refine au (bT he4 rfl (x:=old) rfl ?_);refine au (cR he4 (by simp) λg5 he5 hs5=>?_);replace hs5:cQ e g4 g5:=hs5;replace he5:cX g5 e it ((i:Int)+1) x:=he5;show av _ _ (gu (.ref e) (.ref hp.objs.size) >>= _) _ _ ⟨g5,g,d,tk+1,os⟩;refine au ?_;unfold gu;refine au (cR he5 (by simp) λg6 he6 hs6=>?_);replace hs6:cQ e g5 g6:=hs6;replace he6:jI g6 e it ((i:Int)+1) x hp.objs.size:=he6;refine cR he6 (by simp) λg7 he7 hs7=>?_;replace hs7:cQ e g6 g7:=hs7;replace he7:jI g7 e it ((i:Int)+1) x hp.objs.size:=he7;refine au (h_ (aM ⟨_,rfl,aM (hQ g7 he7 ?_ ?_ ?_ ?_)⟩))
 ·exact hit4.at λo ho=>hs7.extBut it o (bz hne) (hs6.extBut it o (bz hne) (hs5.extBut it o (bz hne) ho))
 ·exact hs7.extBut _ _ (c5 hel) (hs6.extBut _ _ (c5 hel) (hs5.extBut _ _ (c5 hel) ht4))
 ·rw[hs7.1,hs6.1,hs5.1,hz4]
 ·exact λb o hbe hbi hb=>hs7.extBut b o hbe (hs6.extBut b o hbe (hs5.extBut b o hbe (hk4 b o hbe hbi hb)))
def Rq{k:Bool}{e it l:ai}{i:Nat}{eA:Array aj}{old:aj}{Q:Option aj→am→Prop}(hh:A.handled=none)
  (he:cX s.heap e it i old) (hit:nu k s.heap it l i) (hl:ni k s.heap l eA) (hx:eA[i]? =none) (hQ:∀g,jD it s.heap g→Q none { s with heap:=g }):av (aB prog w) A (cB (.ref e)) Q E s:=by
 have hT:s.TypeIs (.ref e) "enumerate" :=⟨_,he,rfl⟩;unfold cB;refine au (gv (dO (name:=bG "__next__") hT gS (dJ gS hT j9 ?_ (lH _))));show av _ _ (field (.ref e) 2 >>= _) _ _ _;refine au (bT he rfl (x:= .ref it) rfl ?_);refine au (E2 hh hit hl hx λg x he' hx'=>?_);obtain⟨o,ho,hc⟩:=hx';refine au (l6 (T:= "StopIteration") (b:=true) ⟨o,ho,hc⟩ j_ ?_);exact aM (hQ _ he')
end
def qO (k:Bool) (a:ai):aG:={ cls:= .type (if k=true then "list_iterator" else "tuple_iterator"),data:= .fields #[.ref a, .int 0 0] }
def Et (e:h.get? it=aa (qO k a)):nu k h it a 0:=by
 cases k with
 |true=>exact⟨_,e,rfl,rfl⟩
 |false=>exact⟨_,e,rfl,rfl⟩
def E6:(qO k a).isFreed=false:=by cases k<;>rfl
section
variable {prog:bh}{w:aS}{A:br}{E:aj→am→Prop}{s:am}
def FL{Q:aj→am→Prop}(ha:ni k s.heap a eA) (hQ:Q (.ref s.heap.objs.size) { s with heap:=s.heap.push (qO k a) }):av (aB prog w) A (dR (.ref a)) Q E s:=by
 cases k with
 |true=>exact fi ha hQ
 |false=>exact kL ha hQ
end
def ni.push (x:ni k h a eA) (o:aG):ni k (h.push o) a eA:=x.at λ_ e=>aQ _ e
def O6 (l:ai) (eA:Array aj) :
  PySem.Meets (cC.«enumerate.__new__» ⟨[.type "enumerate", .ref l],[]⟩) (λ_ R s=>ni k s.heap l eA∧
   R (.ok (.ret (.ref (s.heap.push (qO k l)).objs.size))) { s with heap:=(s.heap.push (qO k l)).push { cls:= .type "enumerate",data:= .fields #[.none, .bool false, .ref s.heap.objs.size,cM 0, .none, .none] } }):=
 .of_wp λprog w A R s h=>by
  obtain⟨hp,g,d,tk,os⟩:=s;obtain⟨hl,h⟩:=h;have hsub:=sub_enumerate;have hL:ni k (am.heap ⟨hp,g,d,tk,os⟩) l eA:=hl;have fin:∀{A:br}{E:aj→am→Prop}{Q:aj→am→Prop},Q (.ref hp.objs.size) ⟨hp.push (qO k l),g,d,tk,os⟩→av (aB prog w) A (dR (.ref l)) Q E ⟨hp,g,d,tk,os⟩:=λq=>FL hL q
  wp_walk
  refine wpAny_stack_any λst=>aM ?_;split
  ·rename_i c _ _ _ _ _;cases(c == jC "enumerate")
   ·wp_walk using fin
    exact⟨_,rfl,h⟩
   ·wp_walk using fin
    exact⟨_,rfl,h⟩
  ·wp_walk using fin
   exact⟨_,rfl,h⟩
section
variable {prog:bh}{w:aS}{A:br}{E:aj→am→Prop}{s:am}
def S_{Q:aj→am→Prop}(hL:ni k s.heap l eA)
  (h:∀g,cX g (s.heap.objs.size+1) s.heap.objs.size 0 .none→nu k g s.heap.objs.size l 0→g.objs.size=s.heap.objs.size+2→(∀b o,s.heap.get? b=aa o→g.get? b=aa o)→Q (.ref (s.heap.objs.size+1)) { s with heap:=g }) :
  av (aB prog w) A (call (.type "enumerate") [.ref l]) Q E s:=by
 refine callType_new PySem.F.called_enumerate (by decide) (PySem.F.typeCall_enumerate_1 _) (PySem.F.newCall_enumerate_1 _) (λobj=>PySem.F.args_object_init_2 obj _) PySem.F.entry_enumerate_new (O6 (k:=k) l eA) ⟨hL,?_⟩;have hz:(s.heap.push (qO k l)).objs.size=s.heap.objs.size+1:=c_ ..;show _∧_;rw[hz];have he:cX ((s.heap.push (qO k l)).push { cls:= .type "enumerate",data:= .fields #[.none, .bool false, .ref s.heap.objs.size,cM 0, .none, .none] }) (s.heap.objs.size+1) s.heap.objs.size 0 .none:=by
  have:=bI (s.heap.push (qO k l)) (o:={ cls:= .type "enumerate",data:= .fields #[.none, .bool false, .ref s.heap.objs.size,cM 0, .none, .none] }) rfl;rw[hz]at this;exact this
 exact⟨⟨_,he,rfl⟩,h _ he (Et (aQ _ (bI _ E6))) (by rw[c_,hz]) λb o x=>aQ _ (aQ _ x)⟩
end
section
variable {X:Cx}{ag:List (ai×aG)}{σ:St}{H:Hp}{s:am}{g:aE}{fp:List ai}
def my.turnNew{t':Nat}(I:my X ag σ H s) (hp:s.heap.objs.size≤p) (k:∀b u,b∉fp→s.heap.get? b=aa u→g.get? b=aa u) (hf:∀b∈fp,qI X ag H b) (new:nc X.prog X.w (nH H p o) g p o) :
  my X ag σ (nH H p o) { s with heap:=g,toks:=t' }:=by
 have hn:=I.cG.fresh hp;have lt:∀{b u},s.heap.get? b=aa u→b≠p:=λe=>bQ (bY (aP e) hp);have nfp:∀{b u},H b=aa u→b∉fp:=λe z=>by rw[(hf _ z).1]at e;cases e
 refine I.call (g':=s.gens) (d':=s.drawn) (ch:=fp) ⟨λb u e _ _ hx=>k b u hx e,λb u e _ _ hx=>⟨u.slots,k b u hx e⟩,λb u e n _=>by rw[og (lt e)];exact n,λb u e hx=>⟨u,k b u hx e⟩,
  λb xs e=>by rw[og (pR e hn)];exact e,λb u xs e=>by rw[og (pR e hn)];exact e,λb ps e=>⟨#[],by rw[og (pR e hn),e];simp⟩⟩ (λb u e=>?_) I.bare λb hb=>⟨(hf b hb).2.2.2.1,(hf b hb).2.1,(hf b hb).2.2.2.2.1,(hf b hb).2.2.2.2.2⟩
 by_cases hb:b=p
 ·subst hb;rw[pE]at e;cases e;exact new
 ·rw[og hb]at e;refine(I.cG b u e).stay (λc v hc q=>k c v ?_ q) (λc q=>by rw[og (pR q hn)];exact q) λc xs q=>by rw[og (pR q hn)];exact q
  obtain rfl |hc:=hc
  ·exact nfp e
  ·exact nfp hc
def my.turnedL{t':Nat}(I:my X ag σ H s) (k:∀b u,b∉fp→s.heap.get? b=aa u→g.get? b=aa u) (hf:∀b∈fp,qI X ag H b):my X ag σ H { s with heap:=g,toks:=t' }:=by
 have nfp:∀{b u},H b=aa u→b∉fp:=λe z=>by rw[(hf _ z).1]at e;cases e
 refine I.call (g':=s.gens) (d':=s.drawn) (ch:=fp) ⟨λb u e _ _ hx=>k b u hx e,λb u e _ _ hx=>⟨u.slots,k b u hx e⟩,λb u e n _=>n,λb u e hx=>⟨u,k b u hx e⟩,
  λb xs e=>e,λb u xs e=>e,λb ps e=>⟨#[],by rw[e];simp⟩⟩ (λb u e=>?_) I.bare λb hb=>⟨(hf b hb).2.2.2.1,(hf b hb).2.1,(hf b hb).2.2.2.2.1,(hf b hb).2.2.2.2.2⟩
 refine(I.cG b u e).stay (λc v hc q=>k c v ?_ q) (λc q=>q) λc xs q=>q;obtain rfl |hc:=hc
 ·exact nfp e
 ·exact nfp hc
def tH (k:Bool) (K:ao) (H:Hp) (a:ai) (xs:List V):Prop:=if k=true then oE K H a xs else oX K H a xs
def my.seq (I:my X ag σ H s) (h:tH k X.K H a xs):∃eA:List aj,mM xs eA∧ni k s.heap a eA.toArray∧xs.length≤sizeLine:=by
 cases k with
 |true=>obtain⟨eA,r,p,z⟩:=I.list h;exact⟨eA,r,p.isList,z⟩
 |false=>obtain⟨eA,r,p,z⟩:=I.tuple h;exact⟨eA,r,p,z⟩
def my.seq_inj (I:my X ag σ H s) (h:tH k X.K H a xs) (h':tH k X.K H a ys):xs=ys:=by
 cases k with
 |true=>exact I.list_inj h h'
 |false=>exact I.tuple_inj h h'
end
def EC (k:Bool) (K:ao) (a:ai):It:=
 ⟨λi H=>∃xs x,tH k K H a xs∧xs[i]? =aa x,λi H v H'=>∃p x,H p=none∧v= .ref p∧H'=nH H p (.bW [.int i,x])∧ ∀xs,tH k K H a xs→xs[i]? =aa x,λi H=>∃xs,tH k K H a xs∧xs.length≤i⟩
def YN{P:bh}{w:aS}{K:ao}{es:List Expr}{x1:Nat}{pos:bw}(k:Bool) (a e it:ai) (hne:e≠it):rC P w K (.Tuple es x1 pos) (EC k K a) [e,it] e (λi h=>(∃old,cX h e it (i:Nat) old)∧nu k h it a i) where
  mem:=by simp
  obj:=λi h ⟨⟨old,he⟩,hit⟩ b hb=>by
    obtain rfl |hb:=az.mp hb
    · exact⟨_,he,λv z=>by cases z⟩
    · have q:b=it:=by simpa using hb
      subst q;obtain⟨o,vs,e,d⟩:=hit.ob;exact⟨o,e,λv z=>by rw[d]at z;cases z⟩
  keep:=λi h h' ⟨⟨old,he⟩,hit⟩ kk=>⟨⟨old,kk e (by simp) _ he⟩,hit.at λo q=>kk it (by simp) o q⟩
  item:=by
    intro X hP hw hK hc i ag s σ H E I hf st hg;subst hP hw hK;obtain⟨xs,x,hq,hx⟩:=hg;obtain⟨⟨old,he⟩,hit⟩:=st;obtain⟨eA,rv,p,hz⟩:=I.seq hq;obtain⟨u,hu,ru⟩:=rv.get hx;refine XF he hit p (x:=u) (by simpa using hu) hne λg ho hit' ht hz' kk=>⟨_,rfl,?_⟩;refine wpAny_letOwnedTupleGo_enum ho λg2 he2 hs2=>?_;have hlt:s.heap.objs.size≠e:=c5 (aP he);have kk2:∀b o,b∉ [e,it]→s.heap.get? b=aa o→g2.get? b=aa o:=λb o hb q=>by
      have h1:b≠e:=λz=>hb (by simp [z]);have h2:b≠it:=λz=>hb (by simp [z]);exact(hs2.2 b h1).trans (kk b o h1 h2 q)
    have hn:=I.cG.fresh (aA s.heap.objs.size);have ht2:g2.get? s.heap.objs.size=aa { cls:= .type "tuple",data:= .seq #[.int i s.toks,u] }:=(hs2.2 _ hlt).trans ht;refine⟨.ref s.heap.objs.size,nH H s.heap.objs.size (.bW [.int i,x]),I.turnNew (fp:=[e,it]) (t':=s.toks+1) (aA _) kk2 hf ⟨by show 2≤sizeLine;rw[d_];decide,[.int i s.toks,u], .cons ⟨_,rfl⟩ (.cons ru .nil),⟨_,ht2,rfl,_,rfl⟩⟩,rfl,
      ⟨_,x,hn,rfl,rfl,λys hy=>by rw[I.seq_inj hy hq];exact hx⟩,⟨⟨u,by simpa using he2⟩,hit'.at λo q=>(hs2.2 it (bz hne)).trans q⟩,λb hb=>?_⟩
    have hb':=(hf b hb).1;have:b≠s.heap.objs.size:=by
      obtain rfl |hb:=az.mp hb
      · exact bz hlt
      · have q:b=it:=by simpa using hb
        subst q;obtain⟨o,vs,e,d⟩:=hit.ob;exact bQ (aP e)
    rw[og this];exact hb'
  done:=by
    intro X hP hw hK hc i ag s σ H E I hf st hg;subst hP hw hK;obtain⟨xs,hq,hx⟩:=hg;obtain⟨⟨old,he⟩,hit⟩:=st;obtain⟨eA,rv,p,hz⟩:=I.seq hq;have hl:=rv.length;exact Rq (I.ok.hd hc) he hit p (by simp;lia) λg eb=>⟨rfl,I.turnedL (fp:=[e,it]) (t':=s.toks) (λb o hb q=>eb b o (λz=>hb (by simp [z])) q) hf⟩
  self:=λA i s Q E ⟨⟨old,he⟩,hit⟩ h=>j3 he h
section
variable {X:Cx}{es:List Expr}{x1:Nat}{tpos:bw}
def Xx (K:ao) (ta:TA):TI:=λσ H R=>ta σ H λvs H1=>∃k a xs,vs=[.ref a]∧tH k K H1 a xs∧R (EC k K a) H1
def T2{a:Expr}{ta:TA}{p pos:bw}(hg:Gl X "enumerate") (hm:X.mg "enumerate" =none) (ha:PA X [a] ta) (hs:ax [a] X.env=[(false,aH a X.env)]:=by rfl):PI X (.Tuple es x1 tpos) (.Call (.Name "enumerate" p) [a] [] pos) (Xx X.K ta):=by
 intro ag s σ H R I h;refine Call_ (xu I hg hm boot_enumerate (g_ (nD (ha pos ag s σ H _ I h) λus s1 ⟨vs,H1,I1,r1,q1⟩=>?_) hs rfl));obtain⟨k,a,xs,e,hq,q⟩:=q1;subst e;cases r1 with
 |cons r rr=>
  cases rr;cases(show _=bK a from r);obtain⟨eA,rv,pl,hz⟩:=I1.seq hq;refine S_ pl λg he hit hz' kk=>j3 he ?_;have I2:my X ag σ H1 { s1 with heap:=g }:=I1.kept (t':=s1.toks) kk;refine⟨s1.heap.objs.size+1,[s1.heap.objs.size+1,s1.heap.objs.size],_,_,H1,rfl,I2,YN k a _ _ (Nat.succ_ne_self _),⟨⟨.none,he⟩,hit⟩,λb hb=>?_,q⟩;have hb':s1.heap.objs.size≤b:=by
   obtain rfl |hb:=az.mp hb
   ·exact Nat.le_succ _
   ·have q:b=s1.heap.objs.size:=by simpa using hb
    exact gf q.symm
  exact I1.fpOk hb' (I1.cG.fresh hb')
def pL:Nat→List W→List W
 |_,[]=>[]
 |n,w::ws=> .bW [.int n,w]::pL (n+1) ws
theorem LS:∀{ws:List W}{n i:Nat}{u:W},(pL n ws)[i]? =aa u→ ∃w,ws[i]? =aa w∧u= .bW [.int ((n+i:Nat):Int),w]
 | [],_,_,_,h=>by simp [pL]at h
 |w::ws,n,0,u,h=>by
  simp [pL]at h;exact⟨w,rfl,by rw[←h];rfl⟩
 |w::ws,n,i+1,u,h=>by
  obtain⟨w',e,q⟩:=LS (ws:=ws) (n:=n+1) (i:=i) (u:=u) (by simpa [pL]using h);refine⟨w',by simpa using e,?_⟩
  rw[q,show n+1+i=n+(i+1) by lia]
theorem J8:∀{ws:List W}{n:Nat},(pL n ws).length=ws.length
 | [],_=>rfl
 |w::ws,n=>by simp [pL,J8 (ws:=ws)]
def TH{K:ao}{k:Bool}{a:ai}{ws:List W}{G:li→Prop}{H0:Hp}{S0:li}(h:∀S H,nG H0 S0 H S→mD K H S→G S→ ∃vs,tH k K H a vs∧mC K H ws vs):wz K (EC k K a) (pL 0 ws) G H0 S0:=λi S H e hS hG=>by
 obtain⟨vs,hq,r⟩:=h S H e hS hG;refine⟨λu eu=>?_,λhl=>⟨vs,hq,by rw[←r.length,hl,J8];exact aA _⟩⟩
 obtain⟨w,ew,rfl⟩:=LS eu;obtain⟨v,ev,rv⟩:=r.get ew;refine⟨⟨vs,v,hq,ev⟩,λx H' ⟨p,y,hp,e1,e2,e3⟩=>?_⟩;subst e1 e2;have e4:=e3 vs hq;rw[ev]at e4;cases e4;rw[bE];exact⟨.new hp,hS.new hp, .bW pE (.cons (.int _) (.cons (rv.ext (.new (S:=S) hp)) .nil))⟩
def uw:W→li→(List W→(li→Prop)→Prop)→Prop
 | .bW ws,_,Q=>Q ws λ_=>True
 | .ref a,S,Q=>n9 S a λws=>Q ws λS'=>S' a=aa (.bO ws)
 | .c6 ns,_,Q=>Q (ns.map W.int) λ_=>True
 |_,_,_=>False
def UK{K:ao}{H:Hp}{S:li}{w:W}{v:V}{Q:List W→(li→Prop)→Prop}(r:nK K H w v) (hS:mD K H S) (h:uw w S Q) :
  ∃k a ws G,v= .ref a∧G S∧(∀S' H',nG H S H' S'→mD K H' S'→G S'→ ∃vs,tH k K H' a vs∧mC K H' ws vs)∧Q ws G:=by
 cases r with
 |bW f hs=>exact⟨false,_,_,_,rfl,trivial,λS' H' e hS' _=>⟨_, .of (e.bW _ _ f),hs.ext e⟩,h⟩
 |ref a=>
  obtain⟨ws,ea,h⟩:=qi h;exact⟨true,_,ws,_,rfl,ea,λS' H' e hS' g=>by
   obtain⟨vs,f,hs⟩:=hS' a _ g;exact⟨vs, .of f,hs⟩,h⟩
 |c6 f=>exact⟨true,_,_,_,rfl,trivial,λS' H' e hS' _=>⟨_,(e.fz f).sq,mC.ofInts _⟩,h⟩
 |_=>exact h.elim
def ut (t:WE) (E:WX) (σ:mS) (S:li) (Q:List W→(li→Prop)→li→Prop):Prop:=t E σ S λw S1=>uw w S1 λws G=>Q (pL 0 ws) G S1
def X8{a:Expr}{ta:WE}{p pos:bw}(hg:Gl X "enumerate") (hm:X.mg "enumerate" =none) (ha:JE X a ta) (hs:ax [a] X.env=[(false,aH a X.env)]:=by rfl) (hs2:ax [a] X.env=(false,aH a X.env)::ax [] X.env:=by rfl):JI X (.Tuple es x1 tpos) (.Call (.Name "enumerate" p) [a] [] pos) (ut ta):=λE hE=>
 (T2 hg hm (tL (ha E hE) oR hs2) hs).mono λσ H R ⟨σW,S,QW,hσ,hS,ht,hR⟩=>⟨σW,S,_,hσ,hS,ht,λw S1 v H1 e1 r1 iU h1=>by
  obtain⟨k,a,ws,G,rfl,hG,hq,h⟩:=UK r1 iU h1;obtain⟨vs,hv,_⟩:=hq S1 H1 .refl iU hG;exact⟨k,a,vs,rfl,hv,hR _ _ S1 _ H1 e1 iU hG (TH hq) h⟩⟩
end
section
variable {prog:bh}{w:aS}{A:br}{E:aj→am→Prop}{s:am}
def Wx{z TI TO i1 i2 l1 l2:ai}{n1 n2:Nat}{Q:Option aj→am→Prop}(D:iz z TI TO i1 i2 l1 l2)
  (hz:cA s.heap z TI TO .none) (hTI:b8 s.heap TI (.ref i1) (.ref i2)) (hTO:b8 s.heap TO a b) (h1:nu k1 s.heap i1 l1 n1) (h2:nu k2 s.heap i2 l2 n2) (hl1:ni k1 s.heap l1 xs) (hl2:ni k2 s.heap l2 ys) (hx:xs[n1]? =aa x) (hy:ys[n2]? =aa y)
  (hQ:∀g,cA g z TI TO (cM s.heap.objs.size)→b8 g TO x y→nu k1 g i1 l1 (n1+1)→nu k2 g i2 l2 (n2+1)→b8 g s.heap.objs.size x y→g.objs.size=s.heap.objs.size+1→
   (∀c o,c≠z→c≠TO→c≠i1→c≠i2→s.heap.get? c=aa o→g.get? c=aa o)→Q (aa (.ref s.heap.objs.size)) { s with heap:=g }):av (aB prog w) A (cB (.ref z)) Q E s:=by
 have hT:s.TypeIs (.ref z) "zip" :=⟨_,hz,rfl⟩;unfold cB;refine au (gv (dO (name:=bG "__next__") hT hZ (dJ hZ hT kQ ?_ (ku _))));show av _ _ (field (.ref z) 2 >>= _) _ _ _;refine au (bT hz rfl (x:= .bool false) rfl ?_);show av _ _ (field (.ref z) 3 >>= _) _ _ _;refine au (bT hz rfl (x:= .ref TI) rfl ?_);refine au (dg hTI rfl ?_);show av _ _ (fy (.ref z) >>= _) _ _ _;refine au ?_;unfold fy;refine au (bT hz rfl (x:= .none) rfl (aM ?_));simp only[if_true];refine au (eV ?_);refine au (bT hz rfl (x:= .ref TO) rfl ?_);refine au (cR hz (by simp) λg1 hz1 hs1=>?_);replace hz1:cA g1 z TI TO .ellipsis:=hz1;refine au ?_;simp only[mj,lz,jp,lp];refine au (au (gV ?_));show av _ _ (c9 (.ref i1) >>= _) _ _ _;refine au (CD (h1.at λo e=>hs1.extBut _ o D.i1z e) (hl1.at λo e=>hs1.extBut _ o D.l1z e) hx λg2 h12 hs2=>aM ?_);have hTO2:b8 g2 TO a b:=hs2.extBut _ _ D.TOi1 (hs1.extBut _ _ D.TOz hTO);refine au (dg hTO2 rfl ?_);refine au (iL hTO2 λg3 hTO3 hs3=>?_);replace hTO3:b8 g3 TO x b:=hTO3;refine au (h_ (aM ?_));refine au (au (gV ?_));show av _ _ (c9 (.ref i2) >>= _) _ _ _;refine au (CD (h2.at λo e=>hs3.extBut _ o D.TOi2.symm (hs2.extBut _ o D.i12.symm (hs1.extBut _ o D.i2z e))) (hl2.at λo e=>hs3.extBut _ o D.l2TO (hs2.extBut _ o D.l2i1 (hs1.extBut _ o D.l2z e))) hy λg4 h24 hs4=>aM ?_);have hTO4:b8 g4 TO x b:=hs4.extBut _ _ D.TOi2 hTO3;refine au (dg hTO4 rfl ?_);refine au (iL hTO4 λg5 hTO5 hs5=>?_);replace hTO5:b8 g5 TO x y:=hTO5;refine au (h_ (aM (aM ?_)));refine au (dg hTO5 rfl ?_);refine au (lj ?_);have hsz:g5.objs.size=s.heap.objs.size:=by rw[hs5.1,hs4.1,hs3.1,hs2.1,hs1.1]
 have hz5:cA g5 z TI TO .ellipsis:=hs5.extBut _ _ D.TOz.symm (hs4.extBut _ _ D.i2z.symm (hs3.extBut _ _ D.TOz.symm (hs2.extBut _ _ D.i1z.symm hz1)));have hk5:∀c o,c≠z→c≠TO→c≠i1→c≠i2→s.heap.get? c=aa o→g5.get? c=aa o:=λc o c1 c2 c3 c4 e=>hs5.extBut _ _ c2 (hs4.extBut _ _ c4 (hs3.extBut _ _ c2 (hs2.extBut _ _ c3 (hs1.extBut _ _ c1 e))));have h15:nu k1 g5 i1 l1 (n1+1):=h12.at λo e=>hs5.extBut _ o D.TOi1.symm (hs4.extBut _ o D.i12 (hs3.extBut _ o D.TOi1.symm e));have h25:nu k2 g5 i2 l2 (n2+1):=h24.at λo e=>hs5.extBut _ o D.TOi2.symm e;have hzlt:z<g5.objs.size:=aP hz5;show av _ _ (gu (.ref z) (.ref g5.objs.size) >>= _) _ _ _;refine au ?_;unfold gu;have hz6:cA (g5.push { cls:= .type "tuple",data:= .seq #[x,y] }) z TI TO .ellipsis:=aQ _ hz5;refine au (cR hz6 (by simp) λg7 hz7 hs7=>?_);replace hz7:cA g7 z TI TO (cM g5.objs.size):=hz7;refine cR hz7 (by simp) λg8 hz8 hs8=>?_;replace hz8:cA g8 z TI TO (cM g5.objs.size):=hz8;have up:∀c o,c≠z→g5.get? c=aa o→g8.get? c=aa o:=λc o c1 e=>hs8.extBut _ _ c1 (hs7.extBut _ _ c1 (aQ _ e));have hT8:b8 g8 g5.objs.size x y:=hs8.extBut _ _ (c5 hzlt) (hs7.extBut _ _ (c5 hzlt) (bI _ rfl));have hzz:g8.objs.size=g5.objs.size+1:=by rw[hs8.1,hs7.1,c_]
 rw[hsz]at hz8 hT8 hzz;refine aM ⟨_,rfl,aM ?_⟩;show Q (aa (.ref g5.objs.size)) _;rw[hsz];exact hQ g8 hz8 (up _ _ D.TOz hTO5) (h15.at λo e=>up _ o D.i1z e) (h25.at λo e=>up _ o D.i2z e) hT8 hzz λc o c1 c2 c3 c4 e=>up c o c1 (hk5 c o c1 c2 c3 c4 e)
def WY{z TI TO i1 i2 l1 l2:ai}{n1 n2:Nat}{Q:Option aj→am→Prop}(hh:A.handled=none) (D:iz z TI TO i1 i2 l1 l2)
  (hz:cA s.heap z TI TO .none) (hTI:b8 s.heap TI (.ref i1) (.ref i2)) (hTO:b8 s.heap TO a b) (h1:nu k1 s.heap i1 l1 n1) (h2:nu k2 s.heap i2 l2 n2) (hl1:ni k1 s.heap l1 xs) (hl2:ni k2 s.heap l2 ys) (hend:xs[n1]? =none∨ys[n2]? =none)
  (hQ:∀g,(∀c o,c≠z→c≠TO→c≠i1→c≠i2→s.heap.get? c=aa o→g.get? c=aa o)→Q none { s with heap:=g }):av (aB prog w) A (cB (.ref z)) Q E s:=by
 have hT:s.TypeIs (.ref z) "zip" :=⟨_,hz,rfl⟩;have fin:∀(g:aE) (e:ai),(∀c o,c≠z→c≠TO→c≠i1→c≠i2→s.heap.get? c=aa o→g.get? c=aa o)→(∃o,g.get? e=aa o∧o.cls= .type "StopIteration")→
   av (aB prog w) A (do if(←isInstance (.ref e) (.type "StopIteration")) then pure none else throw (.ref e)) Q E { s with heap:=g }:=λg e hk ⟨o,ho,hc⟩=>
  au (l6 (T:= "StopIteration") (b:=true) ⟨o,ho,hc⟩ j_ (aM (hQ _ hk)))
 unfold cB;refine au (gv (dO (name:=bG "__next__") hT hZ (dJ hZ hT kQ ?_ (ku _))));show av _ _ (field (.ref z) 2 >>= _) _ _ _;refine au (bT hz rfl (x:= .bool false) rfl ?_);show av _ _ (field (.ref z) 3 >>= _) _ _ _;refine au (bT hz rfl (x:= .ref TI) rfl ?_);refine au (dg hTI rfl ?_);show av _ _ (fy (.ref z) >>= _) _ _ _;refine au ?_;unfold fy;refine au (bT hz rfl (x:= .none) rfl (aM ?_));simp only[if_true];refine au (eV ?_);refine au (bT hz rfl (x:= .ref TO) rfl ?_);refine au (cR hz (by simp) λg1 hz1 hs1=>?_);replace hz1:cA g1 z TI TO .ellipsis:=hz1;refine au ?_;simp only[mj,lz,jp,lp];refine au (au (gV ?_));show av _ _ (c9 (.ref i1) >>= _) _ _ _;cases hx:xs[n1]? with
 |none=>
  refine au (E2 hh (h1.at λo e=>hs1.extBut _ o D.i1z e) (hl1.at λo e=>hs1.extBut _ o D.l1z e) hx λg2 e hs2 he=>?_);obtain⟨oe,hoe,hce⟩:=he;have hz2:cA g2 z TI TO .ellipsis:=hs2 _ _ D.i1z.symm hz1;have hez:e≠z:=λx=>by subst x;rw[hz2]at hoe;cases hoe;simp at hce
  refine cR hz2 (by simp) λg3 _ hs3=>fin g3 e (λc o c1 _ c3 _ x=>hs3.extBut _ _ c1 (hs2 _ _ c3 (hs1.extBut _ _ c1 x))) ⟨oe,hs3.extBut _ _ hez hoe,hce⟩
 |some x=>
  have hy:ys[n2]? =none:=by obtain h |h:=hend;rw[hx]at h;cases h;exact h
  refine au (CD (h1.at λo e=>hs1.extBut _ o D.i1z e) (hl1.at λo e=>hs1.extBut _ o D.l1z e) hx λg2 h12 hs2=>aM ?_);have hTO2:b8 g2 TO a b:=hs2.extBut _ _ D.TOi1 (hs1.extBut _ _ D.TOz hTO);refine au (dg hTO2 rfl ?_);refine au (iL hTO2 λg3 hTO3 hs3=>?_);refine au (h_ (aM ?_));refine au (au (gV ?_));show av _ _ (c9 (.ref i2) >>= _) _ _ _;refine au (E2 hh (h2.at λo e=>hs3.extBut _ o D.TOi2.symm (hs2.extBut _ o D.i12.symm (hs1.extBut _ o D.i2z e))) (hl2.at λo e=>hs3.extBut _ o D.l2TO (hs2.extBut _ o D.l2i1 (hs1.extBut _ o D.l2z e))) hy λg4 e hs4 he=>?_);obtain⟨oe,hoe,hce⟩:=he;have hz4:cA g4 z TI TO .ellipsis:=hs4 _ _ D.i2z.symm (hs3.extBut _ _ D.TOz.symm (hs2.extBut _ _ D.i1z.symm hz1));have hez:e≠z:=λx=>by subst x;rw[hz4]at hoe;cases hoe;simp at hce
  refine cR hz4 (by simp) λg5 _ hs5=>fin g5 e (λc o c1 c2 c3 c4 x=>hs5.extBut _ _ c1 (hs4 _ _ c4 (hs3.extBut _ _ c2 (hs2.extBut _ _ c3 (hs1.extBut _ _ c1 x))))) ⟨oe,hs5.extBut _ _ hez hoe,hce⟩
end
abbrev A9 (k1:Bool) (h:aE) (l1:ai):aE:=h.push (qO k1 l1)
abbrev Cp (k1 k2:Bool) (h:aE) (l1 l2:ai):aE:=(A9 k1 h l1).push (qO k2 l2)
abbrev BX (k1 k2:Bool) (h:aE) (l1 l2:ai):aE:=(Cp k1 k2 h l1 l2).push { cls:= .type "tuple",data:= .seq #[.ref h.objs.size, .ref (A9 k1 h l1).objs.size] }
abbrev Au (k1 k2:Bool) (h:aE) (l1 l2:ai):aE:=(BX k1 k2 h l1 l2).push { cls:= .type "tuple",data:= .seq #[.none, .none] }
abbrev vz (k1 k2:Bool) (h:aE) (l1 l2:ai):aE:=(Au k1 k2 h l1 l2).push { cls:= .type "zip",data:= .fields #[.none, .bool false, .bool false, .ref (Cp k1 k2 h l1 l2).objs.size, .ref (BX k1 k2 h l1 l2).objs.size] }
def X3 (l1 l2:ai) (xs ys:Array aj) :
  PySem.Meets (cC.«zip.__new__» ⟨[.type "zip", .ref l1, .ref l2],[]⟩) (λ_ R s=>ni k1 s.heap l1 xs∧ni k2 s.heap l2 ys∧R (.ok (.ret (.ref (Au k1 k2 s.heap l1 l2).objs.size))) { s with heap:=vz k1 k2 s.heap l1 l2 }):=
 .of_wp λprog w A R s h=>by
  obtain⟨hp,g,d,tk,os⟩:=s;obtain⟨hl1,hl2,h⟩:=h;have hsub:=sub_zip;have f1:∀{A:br}{E:aj→am→Prop}{Q:aj→am→Prop},Q (.ref hp.objs.size) ⟨hp.push (qO k1 l1),g,d,tk,os⟩→av (aB prog w) A (dR (.ref l1)) Q E ⟨hp,g,d,tk,os⟩:=λq=>FL (s:=⟨hp,g,d,tk,os⟩) hl1 q;have f2:∀{A:br}{E:aj→am→Prop}{Q:aj→am→Prop},Q (.ref (hp.push (qO k1 l1)).objs.size) ⟨(hp.push (qO k1 l1)).push (qO k2 l2),g,d,tk,os⟩→av (aB prog w) A (dR (.ref l2)) Q E ⟨hp.push (qO k1 l1),g,d,tk,os⟩:=λq=>FL (s:=⟨hp.push (qO k1 l1),g,d,tk,os⟩) (hl2.push _) q
  wp_walk using f1,f2
  exact⟨_,rfl,h⟩
section
variable {prog:bh}{w:aS}{A:br}{E:aj→am→Prop}{s:am}
def R4{Q:aj→am→Prop}(hl1:ni k1 s.heap l1 xs) (hl2:ni k2 s.heap l2 ys)
  (h:∀g,cA g (s.heap.objs.size+4) (s.heap.objs.size+2) (s.heap.objs.size+3) .none→b8 g (s.heap.objs.size+2) (.ref s.heap.objs.size) (.ref (s.heap.objs.size+1))→
   b8 g (s.heap.objs.size+3) .none .none→nu k1 g s.heap.objs.size l1 0→nu k2 g (s.heap.objs.size+1) l2 0→g.objs.size=s.heap.objs.size+5→
   (∀c o,s.heap.get? c=aa o→g.get? c=aa o)→Q (.ref (s.heap.objs.size+4)) { s with heap:=g }):av (aB prog w) A (call (.type "zip") [.ref l1, .ref l2]) Q E s:=by
 refine callType_new PySem.F.called_zip (by decide) (PySem.F.typeCall_zip_2 _ _) (PySem.F.newCall_zip_2 _ _) (λobj=>PySem.F.args_object_init_3 obj _ _) PySem.F.entry_zip_new (X3 (k1:=k1) (k2:=k2) l1 l2 xs ys) ⟨hl1,hl2,?_⟩;have z1:(A9 k1 s.heap l1).objs.size=s.heap.objs.size+1:=c_ ..;have z2:(Cp k1 k2 s.heap l1 l2).objs.size=s.heap.objs.size+2:=by rw[c_,z1]
 have z3:(BX k1 k2 s.heap l1 l2).objs.size=s.heap.objs.size+3:=by rw[c_,z2]
 have z4:(Au k1 k2 s.heap l1 l2).objs.size=s.heap.objs.size+4:=by rw[c_,z3]
 have z5:(vz k1 k2 s.heap l1 l2).objs.size=s.heap.objs.size+5:=by rw[c_,z4]
 have g5:(vz k1 k2 s.heap l1 l2).get? (Au k1 k2 s.heap l1 l2).objs.size=aa _:=bI _ rfl;have g4:(vz k1 k2 s.heap l1 l2).get? (BX k1 k2 s.heap l1 l2).objs.size=aa _:=aQ _ (bI _ rfl);have g3:(vz k1 k2 s.heap l1 l2).get? (Cp k1 k2 s.heap l1 l2).objs.size=aa _:=aQ _ (aQ _ (bI _ rfl));have g2:(vz k1 k2 s.heap l1 l2).get? (A9 k1 s.heap l1).objs.size=aa _:=aQ _ (aQ _ (aQ _ (bI _ E6)));have g1:(vz k1 k2 s.heap l1 l2).get? s.heap.objs.size=aa _:=aQ _ (aQ _ (aQ _ (aQ _ (bI _ E6))));show _∧_;rw[z2,z3,z4]at g5;rw[z1,z2]at g3;rw[z3]at g4;rw[z1]at g2;rw[z4];exact⟨⟨_,g5,rfl⟩,h _ g5 g3 g4 (Et g1) (Et g2) z5 λc o x=>aQ _ (aQ _ (aQ _ (aQ _ (aQ _ x))))⟩
end
def qV (k:Bool) (K:ao) (H:Hp) (a:ai) (xs:List V):Prop:=if k=true then oE K H a xs else H a=aa (.bW xs)
def qV.sq{k:Bool}{K:ao}{H:Hp}{a:ai}{xs:List V}(h:qV k K H a xs):tH k K H a xs:=by
 cases k with
 |true=>exact h
 |false=>exact .of h
def ni.ob (x:ni k h a eA):∃o n,h.get? a=aa o∧o.data= .seq eA n∧(k=true→o.cls= .type "list"):=by
 cases k with
 |true=>obtain⟨o,ho,hc,n,hd⟩:=(show h.IsList a eA from x);exact⟨o,n,ho,hd,λ_=>hc⟩
 |false=>obtain⟨o,ho,hc,n,hd⟩:=(show h.IsTuple a eA from x);exact⟨o,n,ho,hd,λz=>by cases z⟩
def ni.ne_fields (x:ni k h a eA) (e:h.get? b=aa o) (d:o.data= .fields vs):a≠b:=λz=>by
 subst z;obtain⟨o',n,ho,hd,_⟩:=x.ob;rw[ho]at e;cases e;rw[hd]at d;cases d
def EQ (k1 k2:Bool) (K:ao) (a b:ai):It:=
  ⟨λi H=>∃xs ys x y,qV k1 K H a xs∧qV k2 K H b ys∧xs[i]? =aa x∧ys[i]? =aa y,
   λi H v H'=>∃p x y,H p=none∧v= .ref p∧H'=nH H p (.bW [x,y])∧(∀xs,qV k1 K H a xs→xs[i]? =aa x)∧ ∀ys,qV k2 K H b ys→ys[i]? =aa y,
   λi H=>∃xs ys,qV k1 K H a xs∧qV k2 K H b ys∧(xs.length≤i∨ys.length≤i)⟩
structure rj (z TI TO i1 i2:ai):Prop where
  TIz:TI≠z
  TOz:TO≠z
  i1z:i1≠z
  i2z:i2≠z
  TITO:TI≠TO
  TIi1:TI≠i1
  TIi2:TI≠i2
  TOi1:TO≠i1
  TOi2:TO≠i2
  i12:i1≠i2
def LA (k1 k2:Bool) (z TI TO i1 i2 a b:ai) (i:Nat) (h:aE):Prop:=cA h z TI TO .none∧b8 h TI (.ref i1) (.ref i2)∧(∃u v,b8 h TO u v)∧nu k1 h i1 a i∧nu k2 h i2 b i
def J2{z TI TO i1 i2 a b:ai}(I:my X ag σ H s) (hTO:H TO=none) (D:rj z TI TO i1 i2) (st:LA k1 k2 z TI TO i1 i2 a b i s.heap) (ha:qV k1 X.K H a xs) (hb:qV k2 X.K H b ys):iz z TI TO i1 i2 a b:=by
 obtain⟨hz,hTI,⟨u,v,hTOo⟩,h1,h2⟩:=st;obtain⟨o1,v1,e1,d1⟩:=h1.ob;obtain⟨o2,v2,e2,d2⟩:=h2.ob;obtain⟨eA,_,pa,_⟩:=I.seq ha.sq;obtain⟨its2,_,pb,_⟩:=I.seq hb.sq;have nTO:∀{k:Bool}{c:ai}{zs:List V}{eA:Array aj},qV k X.K H c zs→ni k s.heap c eA→c≠TO:=λ{k c zs eA} hc pc e=>by
  subst e;cases k with
  |false=>rw[show H c=aa (.bW zs) from hc]at hTO;cases hTO
  |true=>
   obtain⟨o,n,ho,_,hcl⟩:=pc.ob;rw[hTOo]at ho;cases ho;have:=hcl rfl;simp at this
 exact⟨D.TIz,D.TOz,D.i1z,D.i2z,D.TITO,D.TIi1,D.TIi2,D.TOi1,D.TOi2,D.i12,pa.ne_fields hz rfl,nTO ha pa,pa.ne_fields e1 d1,pa.ne_fields e2 d2,pb.ne_fields hz rfl,nTO hb pb,pb.ne_fields e1 d1,pb.ne_fields e2 d2⟩
def Ru{P:bh}{w:aS}{K:ao}{es:List Expr}{x1:Nat}{pos:bw}(k1 k2:Bool) (a b z TI TO i1 i2:ai) (D:rj z TI TO i1 i2):rC P w K (.Tuple es x1 pos) (EQ k1 k2 K a b) [z,TI,TO,i1,i2] z (LA k1 k2 z TI TO i1 i2 a b) where
  mem:=by simp
  obj:=λi h ⟨hz,hTI,⟨u,v,hTO⟩,h1,h2⟩ c hc=>by
    obtain⟨o1,v1,e1,d1⟩:=h1.ob;obtain⟨o2,v2,e2,d2⟩:=h2.ob;simp only[az,bq,or_false]at hc;obtain rfl |rfl |rfl |rfl |rfl:=hc
    · exact⟨_,hz,λv z=>by cases z⟩
    · exact⟨_,hTI,λv z=>by cases z⟩
    · exact⟨_,hTO,λv z=>by cases z⟩
    · exact⟨_,e1,λv z=>by rw[d1]at z;cases z⟩
    · exact⟨_,e2,λv z=>by rw[d2]at z;cases z⟩
  keep:=λi h h' ⟨hz,hTI,⟨u,v,hTO⟩,h1,h2⟩ kk=>⟨kk z (by simp) _ hz,kk TI (by simp) _ hTI,⟨u,v,kk TO (by simp) _ hTO⟩,h1.at λo q=>kk i1 (by simp) o q,h2.at λo q=>kk i2 (by simp) o q⟩
  item:=by
    intro X hP hw hK hc i ag s σ H E I hf st hg;subst hP hw hK;obtain⟨xs,ys,x,y,ha,hb,hx,hy⟩:=hg;have Z:=J2 I (hf TO (by simp)).1 D st ha hb;obtain⟨hz,hTI,⟨c0,d0,hTO⟩,h1,h2⟩:=st;obtain⟨eA,rv,pa,_⟩:=I.seq ha.sq;obtain⟨its2,rv2,pb,_⟩:=I.seq hb.sq;obtain⟨u,hu,ru⟩:=rv.get hx;obtain⟨u2,hu2,ru2⟩:=rv2.get hy;refine Wx Z hz hTI hTO h1 h2 pa pb (x:=u) (y:=u2) (by simpa using hu) (by simpa using hu2) λg hz1 hTO1 h11 h21 hp hz' kk=>⟨_,rfl,?_⟩;refine wpAny_letOwnedTupleGo_zip hz1 λg2 hz2 hs2=>?_;have hs2':∀c o,c≠z→g.get? c=aa o→g2.get? c=aa o:=λc o hc e=>(hs2.2 c hc).trans e;have kk2:∀c o,c∉ [z,TI,TO,i1,i2]→s.heap.get? c=aa o→g2.get? c=aa o:=λc o hc q=>by
      simp only[az,bq,or_false,not_or]at hc;exact hs2' c o hc.1 (kk c o hc.1 hc.2.2.1 hc.2.2.2.1 hc.2.2.2.2 q)
    have hn:=I.cG.fresh (aA s.heap.objs.size);have hpz:s.heap.objs.size≠z:=c5 (aP hz);have ht2:g2.get? s.heap.objs.size=aa { cls:= .type "tuple",data:= .seq #[u,u2] }:=hs2' _ _ hpz hp;refine⟨.ref s.heap.objs.size,nH H s.heap.objs.size (.bW [x,y]),I.turnNew (fp:=[z,TI,TO,i1,i2]) (t':=s.toks) (aA _) kk2 hf ⟨by show 2≤sizeLine;rw[d_];decide,[u,u2], .cons ru (.cons ru2 .nil),⟨_,ht2,rfl,_,rfl⟩⟩,rfl,
      ⟨_,x,y,hn,rfl,rfl,λzs hy=>by rw[I.seq_inj hy.sq ha.sq];exact hx,λzs hy'=>by rw[I.seq_inj hy'.sq hb.sq];exact hy⟩,
      ⟨hz2,hs2' _ _ D.TIz (kk _ _ D.TIz D.TITO D.TIi1 D.TIi2 hTI),⟨u,u2,hs2' _ _ D.TOz hTO1⟩,h11.at λo q=>hs2' _ o D.i1z q,h21.at λo q=>hs2' _ o D.i2z q⟩,λc hc=>?_⟩
    have hlt:∃o,s.heap.get? c=aa o:=by
      obtain⟨o1,v1,e1,d1⟩:=h1.ob;obtain⟨o2,v2,e2,d2⟩:=h2.ob;simp only[az,bq,or_false]at hc;obtain rfl |rfl |rfl |rfl |rfl:=hc
      · exact⟨_,hz⟩
      · exact⟨_,hTI⟩
      · exact⟨_,hTO⟩
      · exact⟨_,e1⟩
      · exact⟨_,e2⟩
    obtain⟨o,ho⟩:=hlt;rw[og (bQ (aP ho))];exact(hf c hc).1
  done:=by
    intro X hP hw hK hc i ag s σ H E I hf st hg;subst hP hw hK;obtain⟨xs,ys,ha,hb,hx⟩:=hg;have Z:=J2 I (hf TO (by simp)).1 D st ha hb;obtain⟨hz,hTI,⟨c0,d0,hTO⟩,h1,h2⟩:=st;obtain⟨eA,rv,pa,_⟩:=I.seq ha.sq;obtain⟨its2,rv2,pb,_⟩:=I.seq hb.sq;have hl:=rv.length;have hl2:=rv2.length;refine WY (I.ok.hd hc) Z hz hTI hTO h1 h2 pa pb ?_ λg eb=>⟨rfl,I.turnedL (fp:=[z,TI,TO,i1,i2]) (t':=s.toks) (λc o hc q=>?_) hf⟩
    · obtain hx |hx:=hx
      · exact .inl (by simp;lia)
      · exact .inr (by simp;lia)
    · simp only[az,bq,or_false,not_or]at hc;exact eb c o hc.1 hc.2.2.1 hc.2.2.2.1 hc.2.2.2.2 q
  self:=λA i s Q E st h=>km st.1 h
def P2 (K:ao) (ta:TA):TI:=λσ H R=>ta σ H λvs H1=>∃k1 k2 a b xs ys,vs=[.ref a, .ref b]∧qV k1 K H1 a xs∧qV k2 K H1 b ys∧R (EQ k1 k2 K a b) H1
def V5 (hg:Gl X "zip") (hm:X.mg "zip" =none) (ha:PA X [a,b] ta) (hs:ax [a,b] X.env=[(false,aH a X.env),(false,aH b X.env)]:=by rfl) (hs2:ax [b] X.env=[(false,aH b X.env)]:=by rfl):PI X (.Tuple es x1 tpos) (.Call (.Name "zip" p) [a,b] [] pos) (P2 X.K ta):=by
 intro ag s σ H R I h;refine Call_ (xu I hg hm boot_zip (g_ (nD (ha pos ag s σ H _ I h) λus s1 ⟨vs,H1,I1,r1,q1⟩=>?_) (by rw[hs,hs2]) (by rw[hs2];rfl)));obtain⟨k1,k2,a,b,xs,ys,e,hq1,hq2,q⟩:=q1;subst e;cases r1 with
 |cons r rr=>
  cases rr with
  |cons r' rr=>
   cases rr;cases(show _=bK a from r);cases(show _=bK b from r');obtain⟨eA,rv,pl,_⟩:=I1.seq hq1.sq;obtain⟨its2,rv2,pl2,_⟩:=I1.seq hq2.sq;refine R4 pl pl2 λg hz hTI hTO h1 h2 hz' kk=>km hz ?_;have I2:my X ag σ H1 { s1 with heap:=g }:=I1.kept (t':=s1.toks) kk;have ne:∀(n i j:Nat),i≠j→n+i≠n+j:=λn i j h e=>h (Nat.add_left_cancel e);have D:rj (s1.heap.objs.size+4) (s1.heap.objs.size+2) (s1.heap.objs.size+3) s1.heap.objs.size (s1.heap.objs.size+1):=
    ⟨ne _ 2 4 (by decide),ne _ 3 4 (by decide),ne _ 0 4 (by decide),ne _ 1 4 (by decide),ne _ 2 3 (by decide),ne _ 2 0 (by decide),ne _ 2 1 (by decide),ne _ 3 0 (by decide),ne _ 3 1 (by decide),ne _ 0 1 (by decide)⟩
   refine⟨_,_,_,_,H1,rfl,I2,Ru k1 k2 a b _ _ _ _ _ D,⟨hz,hTI,⟨_,_,hTO⟩,h1,h2⟩,λc hc=>?_,q⟩;have hb':s1.heap.objs.size≤c:=by
    simp only[az,bq,or_false]at hc;obtain rfl |rfl |rfl |rfl |rfl:=hc
    ·exact ib _ _
    ·exact ib _ _
    ·exact ib _ _
    ·exact aA _
    ·exact ib _ _
   exact I1.fpOk hb' (I1.cG.fresh hb')
def m4:List W→List W→List W
 |x::xs,y::ys=> .bW [x,y]::m4 xs ys
 |_,_=>[]
theorem Hf:∀{xs ys:List W}{i:Nat}{u:W},(m4 xs ys)[i]? =aa u→ ∃x y,xs[i]? =aa x∧ys[i]? =aa y∧u= .bW [x,y]
 | [],_,_,_,h=>by simp [m4]at h
 |_::_,[],_,_,h=>by simp [m4]at h
 |x::xs,y::ys,0,u,h=>by
  simp [m4]at h;exact⟨x,y,rfl,rfl,h.symm⟩
 |x::xs,y::ys,i+1,u,h=>by simpa using Hf (xs:=xs) (ys:=ys) (i:=i) (u:=u) (by simpa [m4]using h)
theorem HF:∀{xs ys:List W},(m4 xs ys).length=min xs.length ys.length
 | [],_=>by simp [m4]
 |_::_,[]=>by simp [m4]
 |x::xs,y::ys=>by simp [m4,HF (xs:=xs) (ys:=ys)]
def XC{K:ao}{k1 k2:Bool}{a b:ai}{ws us:List W}{G:li→Prop}{H0:Hp}{S0:li}(h:∀S H,nG H0 S0 H S→mD K H S→G S→(∃vs,qV k1 K H a vs∧mC K H ws vs)∧ ∃vs,qV k2 K H b vs∧mC K H us vs):wz K (EQ k1 k2 K a b) (m4 ws us) G H0 S0:=λi S H e hS hG=>by
 obtain⟨⟨xs,hq,r⟩,⟨ys,hq2,r2⟩⟩:=h S H e hS hG;refine⟨λu eu=>?_,λhl=>⟨xs,ys,hq,hq2,?_⟩⟩
 ·obtain⟨x,y,ex,ey,rfl⟩:=Hf eu;obtain⟨v,ev,rv⟩:=r.get ex;obtain⟨v2,ev2,rv2⟩:=r2.get ey;refine⟨⟨xs,ys,v,v2,hq,hq2,ev,ev2⟩,λx H' ⟨p,y1,y2,hp,e1,e2,e3,e4⟩=>?_⟩;subst e1 e2;have f1:=e3 xs hq;have f2:=e4 ys hq2;rw[ev]at f1;cases f1;rw[ev2]at f2;cases f2;exact⟨.new hp,hS.new hp, .bW pE (.cons (rv.ext (.new (S:=S) hp)) (.cons (rv2.ext (.new (S:=S) hp)) .nil))⟩
 ·rw[HF]at hl;rw[←r.length,←r2.length];lia
def Mu{K:ao}{H:Hp}{S:li}{w:W}{v:V}{Q:List W→(li→Prop)→Prop}(r:nK K H w v) (hS:mD K H S) (h:uw w S Q) :
  ∃k a ws G,v= .ref a∧G S∧(∀S' H',nG H S H' S'→mD K H' S'→G S'→ ∃vs,qV k K H' a vs∧mC K H' ws vs)∧Q ws G:=by
 cases r with
 |bW f hs=>exact⟨false,_,_,_,rfl,trivial,λS' H' e hS' _=>⟨_,e.bW _ _ f,hs.ext e⟩,h⟩
 |ref a=>
  obtain⟨ws,ea,h⟩:=qi h;exact⟨true,_,ws,_,rfl,ea,λS' H' e hS' g=>by
   obtain⟨vs,f,hs⟩:=hS' a _ g;exact⟨vs, .of f,hs⟩,h⟩
 |c6 f=>exact⟨true,_,_,_,rfl,trivial,λS' H' e hS' _=>⟨_,(e.fz f).sq,mC.ofInts _⟩,h⟩
 |_=>exact h.elim
def td (t u:WE) (E:WX) (σ:mS) (S:li) (Q:List W→(li→Prop)→li→Prop):Prop:=t E σ S λx S1=>u E σ S1 λy S2=>uw x S2 λxs G=>uw y S2 λys G'=>Q (m4 xs ys) (λS'=>G S'∧G' S') S2
def Pk{a b:Expr}{ta tb:WE}{p pos:bw}(hg:Gl X "zip") (hm:X.mg "zip" =none) (ha:JE X a ta) (hb:JE X b tb) (hs:ax [a,b] X.env=[(false,aH a X.env),(false,aH b X.env)]:=by rfl) (hs2:ax [b] X.env=[(false,aH b X.env)]:=by rfl)
  (h3:ax [a,b] X.env=(false,aH a X.env)::ax [b] X.env:=by rfl) (h4:ax [b] X.env=(false,aH b X.env)::ax [] X.env:=by rfl):JI X (.Tuple es x1 tpos) (.Call (.Name "zip" p) [a,b] [] pos) (td ta tb):=λE hE=>
 (V5 hg hm (tL (ha E hE) (tL (hb E hE) oR h4) h3) hs hs2).mono λσ H R ⟨σW,S,QW,hσ,hS,ht,hR⟩=>⟨σW,S,_,hσ,hS,ht,λx S1 v H1 e1 r1 iU h1=>⟨σW,S1,_,hσ.ext e1,iU,h1,λy S2 v2 H2 e2 r2 hS2 h2=>by
  obtain⟨k1,a,ws,G,rfl,hG,hq,h⟩:=Mu (r1.ext e2) hS2 h2;obtain⟨k2,b,us,G',rfl,hG',hq',h⟩:=Mu r2 hS2 h;obtain⟨vs,hv,_⟩:=hq S2 H2 .refl hS2 hG;obtain⟨vs',hv',_⟩:=hq' S2 H2 .refl hS2 hG';exact⟨k1,k2,a,b,vs,vs',rfl,hv,hv',hR _ _ S2 _ H2 (e1.trans e2) hS2 ⟨hG,hG'⟩ (XC λS' H' e hS' g=>⟨hq S' H' e hS' g.1,hq' S' H' e hS' g.2⟩) h⟩⟩⟩
def Ue (hi:Int) (n:Nat):List W:=(bx n).map λ(i:Nat)=> .int (hi - (i:Int))
def Z2 (t:WA):WI:=λE σ S Q=>t E σ S λws S1=>match ws with
 | [.int i, .int j, .int c]=>c= -1∧(-(2 ^ 62)≤i∧i<2 ^ 62∧ -(2 ^ 62)≤j∧j<2 ^ 62)∧Q (Ue i (i - j).toNat) (λ_=>True) S1
 |_=>False
def W0 (ho:n_ X (bB op) r) (hw:qZ X.K r wr) (ho':n_ X (bB op') r') (hw':qZ X.K r' wr') (ha:JE X a ta) (hb:JE X b tb) (hc:JE X c tc)
  (hm:gY [op,op'] [b,c]=false:=by with_unfolding_all rfl):JE X (.Compare a [op,op'] [b,c] pos) (v5 wr wr' ta tb tc):=λE hE=>
 (PD ho ho' (ha E hE) (hb E hE) (hc E hE) hm).mono λσ H Q ⟨σW,S,QW,hσ,hS,ht,hQ⟩=>by
  refine⟨σW,S,_,hσ,hS,ht,λx S1 v1 H1 e1 r1 iU h1=>⟨σW,S1,_,hσ.ext e1,iU,h1,λy S2 v2 H2 e2 r2 hS2 h2=>?_⟩⟩;refine hw H2 v1 v2 x y S2 _ _ (r1.ext e2) r2 hS2 h2 λz S3 v3 H3 e3 r3 hS3 h3=>?_;cases r3 with
  |bl k=>
   refine⟨k,rfl,?_⟩;cases k with
   |true=>
    refine⟨σW,S3,_,((hσ.ext e1).ext e2).ext e3,hS3,h3,λu S4 v4 H4 e4 r4 hS4 h4=>?_⟩;exact hw' H4 v2 v4 y u S4 Q QW ((r2.ext e3).ext e4) r4 hS4 h4 (hQ.from (((e1.trans e2).trans e3).trans e4))
   |false=>exact hQ _ S3 _ H3 ((e1.trans e2).trans e3) (.bl false) hS3 h3
  |_=>exact h3.elim
def Pv (ha:JE X a ta) (hb:JE X b tb) (hc:JE X c tc) (hm:gY [.LtE, .LtE] [b,c]=false:=by with_unfolding_all rfl):JE X (.Compare a [.LtE, .LtE] [b,c] pos) (v5 sC sC ta tb tc):=W0 (tf.or FF) FW (tf.or FF) FW ha hb hc hm
def xz:WF:=λws S Q=>match ws with
 | [.int i]=>Q (.int i) S
 | [.bl b]=>Q (.int (if b then 1 else 0)) S
 |_=>False
def ZP{K:ao}:vW K (λxs H Q=>(∃i,xs=[.int i]∧Q (.int i) H)∨ ∃k,xs=[.bl k]∧Q (.int (if k then 1 else 0)) H) xz:=λH vs ws S Q QW r hS h hQ=>by
 cases r with
 |nil=>exact h.elim
 |cons r1 r2=>
  cases r2 with
  |cons _ _=>cases r1<;>exact h.elim
  |nil=>
   cases r1 with
   |int i=>exact .inl ⟨i,rfl,hQ _ S _ H .refl (.int _) hS h⟩
   |bl b=>exact .inr ⟨b,rfl,hQ _ S _ H .refl (.int _) hS h⟩
   |_=>exact h.elim
def Yv (hg:Gl X "int") (hm:X.mg "int" =none) (ha:JA X (e::es) t)
  (he:ax (e::es) X.env=(false,aH e X.env)::ax es X.env:=by rfl) (hpl:(aZ pos (ax es X.env)).any (·.1)=false:=by rfl):JE X (.Call (.Name "int" p) (e::es) [] pos) (wB xz t):=
 Hc OG ZP hg hm PyProof.Rows.boot_int ha (by decide) (by decide) he hpl
def Vl:WF:=λws S Q=>match ws with
 | [.int i, .int j]=>Q (.int (if j > i then j else i)) S
 |_=>False
def ud:WF:=λws S Q=>match ws with
 | [.int i, .int j]=>Q (.int (if j<i then j else i)) S
 |_=>False
def XB{K:ao}:vW K (λxs H Q=>∃i j,xs=[.int i, .int j]∧Q (.int (if j<i then j else i)) H) ud:=λH vs ws S Q QW r hS h hQ=>by
 unfold ud at h;split at h
 ·cases r with
  |cons r1 r2=>cases r2 with
   |cons r2 r3=>cases r3;cases r1;cases r2;exact⟨_,_,rfl,hQ _ S _ H .refl (.int _) hS h⟩
 ·exact h.elim
def OH{id:String}{r:List V→Hp→VK→Prop}{f:WF}{x:ah}(hc:X.calm=true→nL X (.builtin id) r) (hw:vW X.K r f) (hg:Gl X x) (hm:X.mg x=none) (hv:cH x=aa (.builtin id)) (ha:JA X (e::es) t) (hn:x≠ "__name__" :=by decide) (hdb:(x == ("__debug__" :ah))=false:=by decide)
  (he:ax (e::es) X.env=(false,aH e X.env)::ax es X.env:=by rfl) (hpl:(aZ pos (ax es X.env)).any (·.1)=false:=by rfl) (hcl:X.calm=true:=by rfl):JE X (.Call (.Name x p) (e::es) [] pos) (wB f t):=λE hE=>Oa (hc hcl) hw hg hm hv ha hn hdb he hpl E hE
def SQ (hg:Gl X "min") (hm:X.mg "min" =none) (ha:JA X (e::es) t)
  (he:ax (e::es) X.env=(false,aH e X.env)::ax es X.env:=by rfl) (hpl:(aZ pos (ax es X.env)).any (·.1)=false:=by rfl) (hcl:X.calm=true:=by rfl):JE X (.Call (.Name "min" p) (e::es) [] pos) (wB ud t):=OH X5 XB hg hm PyProof.Rows.boot_min ha (by decide) (by decide) he hpl hcl
def Ri (hg:Gl X "all") (hm:X.mg "all" =none) (ha:JL X e tl)
  (he:ax [e] X.env=(false,aH e X.env)::ax [] X.env:=by rfl) (hpl:(aZ pos (ax [] X.env)).any (·.1)=false:=by rfl) (hcl:X.calm=true:=by rfl):JE X (.Call (.Name "all" p) [e] [] pos) (qL tT tl):=λE hE=>NF (U0 hcl) OQ hg hm PyProof.Rows.boot_all ha (by decide) (by decide) he hpl E hE
def OW (hg:Gl X "tuple") (hm:X.mg "tuple" =none) (ha:JL X e tl)
  (he:ax [e] X.env=(false,aH e X.env)::ax [] X.env:=by rfl) (hpl:(aZ pos (ax [] X.env)).any (·.1)=false:=by rfl):JE X (.Call (.Name "tuple" p) [e] [] pos) (qL wk tl):=HJ G4 Sk hg hm jY ha (by decide) (by decide) he hpl
def R7 (hg:Gl X "tuple") (hm:X.mg "tuple" =none) (ha:JA X (e::es) t)
  (he:ax (e::es) X.env=(false,aH e X.env)::ax es X.env:=by rfl) (hpl:(aZ pos (ax es X.env)).any (·.1)=false:=by rfl):JE X (.Call (.Name "tuple" p) (e::es) [] pos) (wB rE t):=Hc G4 PM hg hm jY ha (by decide) (by decide) he hpl
def zq{K:ao}:∀T∈ ["int", "bool", "str", "tuple", "list"],∀A∈ ["NoneType", "bool", "int", "str", "tuple", "list"],fP K (.type A) (.type T)=aa (pe A T):=by
 intro T hT A hA;simp only[az,bq,or_false]at hT hA;rcases hT with rfl |rfl |rfl |rfl |rfl<;>rcases hA with rfl |rfl |rfl |rfl |rfl |rfl<;>rfl
def mH:mI:=λ_ _ _ _=>False
def G_{P:bh}{w:aS}{K:ao}{mg:ah→Option aj}{base:aE}{f:ai}{fd:dc}{ps:List ah}{k:Nat}:oU P w K mg base (si P w) k f fd ps (rL K mH):=
 ⟨λvs H Q E ⟨_,_,_,_,_,_,h,_⟩=>h.elim,λA outer s H args us vs Q E _ _ _ _ ⟨_,_,_,_,_,_,h,_⟩=>h.elim⟩
def tY (t:WL) (u:WE) (E:WX) (σ:mS) (S:li) (Q:WK):Prop:=t E σ S λws S1=>u E σ S1 λy S2=>match y with
 | .int i=>match nC ws i with
  |some w=>Q w S2
  |none=>False
 |_=>False
def Sn (ha:JL X a la) (hb:JE X b tb) (hs:BU b:=by intro _ _;rfl):JE X (.Subscript a b pos) (tY la tb):=λE hE=>
 (K_ Hw (ha E hE) (hb E hE) hs).mono λσ H Q ⟨σW,S,QW,hσ,hS,ht,hQ⟩=>⟨σW,S,_,hσ,hS,ht,λws S1 vs p H1 e1 fp ep np r1 iU h1=>⟨σW,S1,_,hσ.ext e1,iU,h1,λy S2 v2 H2 e2 r2 hS2 h2=>by
  cases r2 with
  |int i=>
   dsimp only at h2;split at h2
   ·obtain⟨v,ev,r⟩:=Ee (r1.ext e2) ‹_›;exact .inl ⟨p,vs,i,v,rfl,rfl, .of (e2.fr p _ ep np).1,ev,hQ _ S2 _ H2 (e1.trans e2) r hS2 h2⟩
   ·exact h2.elim
  |_=>exact h2.elim⟩⟩
def rK (t:WE) (u:WL) (E:WX) (σ:mS) (S:li) (Q:List W→li→Prop):Prop:=t E σ S λx S1=>u E σ S1 λys S2=>match x with
 | .ref a=>n9 S2 a λxs=>xs.length+ys.length≤sizeLine∧Q (xs++ys) S2
 |_=>False
def ug (t u:WL) (E:WX) (σ:mS) (S:li) (Q:List W→li→Prop):Prop:=t E σ S λxs S1=>u E σ S1 λys S2=>xs.length+ys.length≤sizeLine∧Q (xs++ys) S2
def wU (t:WL) (u:WE) (E:WX) (σ:mS) (S:li) (Q:List W→li→Prop):Prop:=t E σ S λxs S1=>u E σ S1 λy S2=>match y with
 | .ref a=>n9 S2 a λys=>xs.length+ys.length≤sizeLine∧Q (xs++ys) S2
 |_=>False
def Vr (ha:JE X a ta) (hb:JL X b lb):JL X (.BinOp a .Add b pos) (rK ta lb):=λE hE=>
 (zE BW (ha E hE) (hb E hE)).mono λσ H Q ⟨σW,S,QW,hσ,hS,ht,hQ⟩=>⟨σW,S,_,hσ,hS,ht,λw1 S1 v1 H1 e1 r1 iU h1=>⟨σW,S1,_,hσ.ext e1,iU,h1,λys S2 us q H2 e2 fq eq nq r2 hS2 h2=>by
  cases r1 with
  |ref p=>
   obtain⟨xs,ea,h⟩:=qi h2;obtain⟨vs,f1,q1⟩:=hS2 p _ ea;exact⟨p,q,vs,us,rfl,rfl,f1,eq,by rw[←q1.length,←r2.length];exact h.1,λp hp=>hQ _ S2 _ p _ ((e1.trans e2).trans (.new hp)) ((e1.trans e2).free hp) pE (hS2.free hp) ((q1.append r2).ext (.new (S:=S2) hp)) (hS2.new hp) h.2⟩
  |_=>exact h2.elim⟩⟩
def GE (ha:JL X a la) (hb:JL X b lb):JL X (.BinOp a .Add b pos) (ug la lb):=λE hE=>
 (zE BW (ha E hE) (hb E hE)).mono λσ H Q ⟨σW,S,QW,hσ,hS,ht,hQ⟩=>⟨σW,S,_,hσ,hS,ht,λxs S1 vs p H1 e1 fp ep np r1 iU h1=>⟨σW,S1,_,hσ.ext e1,iU,h1,λys S2 us q H2 e2 fq eq nq r2 hS2 h2=>
  ⟨p,q,vs,us,rfl,rfl,(e2.fr p _ ep np).1,eq,by rw[←r1.length,←r2.length];exact h2.1,λz hz=>hQ _ S2 _ z _ ((e1.trans e2).trans (.new hz)) ((e1.trans e2).free hz) pE (hS2.free hz) (((r1.ext e2).append r2).ext (.new (S:=S2) hz)) (hS2.new hz) h2.2⟩⟩⟩
def Tj (ha:JL X a la) (hb:JE X b tb):JL X (.BinOp a .Add b pos) (wU la tb):=λE hE=>
 (zE BW (ha E hE) (hb E hE)).mono λσ H Q ⟨σW,S,QW,hσ,hS,ht,hQ⟩=>⟨σW,S,_,hσ,hS,ht,λxs S1 vs p H1 e1 fp ep np r1 iU h1=>⟨σW,S1,_,hσ.ext e1,iU,h1,λy S2 v2 H2 e2 r2 hS2 h2=>by
  cases r2 with
  |ref q=>
   obtain⟨ys,ea,h⟩:=qi h2;obtain⟨us,f2,q2⟩:=hS2 q _ ea;exact⟨p,q,vs,us,rfl,rfl,(e2.fr p _ ep np).1,f2,by rw[←r1.length,←q2.length];exact h.1,λz hz=>hQ _ S2 _ z _ ((e1.trans e2).trans (.new hz)) ((e1.trans e2).free hz) pE (hS2.free hz) (((r1.ext e2).append q2).ext (.new (S:=S2) hz)) (hS2.new hz) h.2⟩
  |_=>exact h2.elim⟩⟩
def xw (t:WL) (u:WE) (E:WX) (σ:mS) (S:li) (Q:List W→li→Prop):Prop:=t E σ S λxs S1=>u E σ S1 λy S2=>match y with
 | .int k=>(-(2 ^ 63)≤k∧k<2 ^ 63∧xs.length*k.toNat≤sizeLine)∧Q (bn k.toNat xs).flatten S2
 |_=>False
theorem mC.rep{K:ao}{H:Hp}{ws:List W}{vs:List V}(h:mC K H ws vs):∀k:Nat,mC K H (bn k ws).flatten (bn k vs).flatten
 |0=> .nil
 |k+1=>by
  rw[cL,cL,eI,eI];exact h.append (mC.rep h k)
def Yx (ha:JL X a la) (hb:JE X b tb):JL X (.BinOp a .Mult b pos) (xw la tb):=λE hE=>
 (zE OT (ha E hE) (hb E hE)).mono λσ H Q ⟨σW,S,QW,hσ,hS,ht,hQ⟩=>⟨σW,S,_,hσ,hS,ht,λxs S1 vs p H1 e1 fp ep np r1 iU h1=>⟨σW,S1,_,hσ.ext e1,iU,h1,λy S2 v2 H2 e2 r2 hS2 h2=>by
  cases r2 with
  |int k=>
   obtain⟨⟨k1,k2,k3⟩,h⟩:=h2;exact⟨p,k,vs,rfl,rfl,(e2.fr p _ ep np).1,k1,k2,by rw[←r1.length];exact k3,λz hz=>hQ _ S2 _ z _ ((e1.trans e2).trans (.new hz)) ((e1.trans e2).free hz) pE (hS2.free hz) (((r1.ext e2).rep k.toNat).ext (.new (S:=S2) hz)) (hS2.new hz) h⟩
  |_=>exact h2.elim⟩⟩
def RY{K:ao}{H:Hp}{a:ai}{ns:List Int}{c:mI}{E:XK}(hO:AT H) (hS:oE K H a (ns.map V.int)) (h:c [.c6 ns] (λ_=>none) (λw _=>w= .bl true) (λ_ _=>False)):rL K c [.ref a] H (λv _=>v= .bl true) E:=by
 have fz:xJ K H a (ns.map V.int):=by
  obtain (hS |⟨o,hS⟩) |hS:=hS
  ·obtain z |⟨o,xs,z⟩:=hO a
   ·rw[hS]at z;cases z
   ·rw[hS]at z;cases z
  ·exact .inl ⟨o,hS⟩
  ·exact .inr hS
 refine⟨[.c6 ns],λ_=>none,_,λ_ _=>False, .one (.c6 fz),(λa o e=>by cases e),h,λw S v H' e r hS' q=>?_,λ_ _ _ _ _ _ z=>z.elim⟩
 subst q;cases r;rfl
def YR:W2
 | .bW xs, .int k,S,Q=>(xs≠ []∧ -(2 ^ 63)≤k∧k<2 ^ 63∧xs.length*k.toNat≤sizeLine)∧Q (.bW (bn k.toNat xs).flatten) S
 |_,_,_,_=>False
def pM (hV:List (List Int×W)) (k:List Int):Option W:=(hV.find? λkv=>decide (kv.1=k)).map (·.2)
def vN (hV:List (List Int×W)) (k:List Int) (v:W):List (List Int×W):=
 if(hV.any λkv=>decide (kv.1=k))=true then hV.map (λkv=>if kv.1=k then(kv.1,v) else kv) else hV++[(k,v)]
def qG:List W→Option (List Int)
 | []=>aa []
 | .int i::ws=>(qG ws).map (i:: ·)
 |_=>none
def sM:W→Option (List Int)
 | .bW ws=>qG ws
 |_=>none
def tX (S:li) (a:ai) (P:List (List Int×W)→Prop):Prop:=match S a with
 |some (.dct hV)=>P hV
 |_=>False
def Rx{P:List (List Int×W)→Prop}(h:tX S a P):∃hV,S a=aa (.dct hV)∧P hV:=by
 unfold tX at h;split at h
 ·exact⟨_, ‹_›,h⟩
 ·exact h.elim
def Er{P:List (List Int×W)→Prop}(e:S a=aa (.dct hV)):tX S a P=P hV:=by unfold tX;rw[e]
section
variable {K:ao}{H:Hp}
abbrev px (K:ao) (H:Hp):List (List Int×W)→List (List Key×V)→Prop:=aN λq p=>p.1=q.1.map Sum.inl∧nK K H q.2 p.2
theorem CC:∀{a b:List Int},a.map (Sum.inl:Int→Key)=b.map Sum.inl→a=b
 | [],[],_=>rfl
 | [],_::_,h=>by simp at h
 |_::_,[],h=>by simp at h
 |x::xs,y::ys,h=>by
  simp only[aC,fX,Sum.inl.injEq]at h;rw[h.1,CC h.2]
def px.val (r:px K H hV ps) (k:List Int):(∀w,pM hV k=aa w→ ∃v,rJ ps (k.map Sum.inl)=aa v∧nK K H w v)∧(pM hV k=none→rJ ps (k.map Sum.inl)=none):=by
 induction r with
 |nil=>exact⟨λw h=>by simp [pM]at h,λ_=>rfl⟩
 | @cons q p hV ps h t ih=>
  by_cases hk:q.1=k
  ·have e:p.1=k.map Sum.inl:=by rw[h.1,hk]
   rw[A1 e];have ew:pM (q::hV) k=aa q.2:=by simp [pM,b_,hk]
   rw[ew];exact⟨λw z=>by cases z;exact⟨_,rfl,h.2⟩,λz=>by cases z⟩
  ·have e:¬p.1=k.map Sum.inl:=by rw[h.1];exact λz=>hk (CC z)
   rw[AB e];have ew:pM (q::hV) k=pM hV k:=by simp [pM,b_,hk]
   rw[ew];exact ih
def px.any (r:px K H hV ps) (k:List Int):(ps.any λkv=>decide (kv.1=k.map Sum.inl))=hV.any λkv=>decide (kv.1=k):=by
 induction r with
 |nil=>rfl
 | @cons q p hV ps h t ih=>
  rw[eK,eK,ih];congr 1;apply decide_eq_decide.mpr;rw[h.1];exact⟨CC,λz=>by rw[z]⟩
def px.bR (r:px K H hV ps) (k:List Int) (rw':nK K H w v):px K H (vN hV k w) (sN ps (k.map Sum.inl) v):=by
 unfold vN sN;rw[r.any k];split
 ·rename_i hany;clear hany
  induction r with
  |nil=>exact .nil
  | @cons q p hV ps h t ih=>
   rw[aC,aC];refine .cons ?_ ih;by_cases hk:q.1=k
   ·rw[if_pos hk,if_pos (by rw[h.1,hk])];exact⟨h.1,rw'⟩
   ·rw[if_neg hk,if_neg (by rw[h.1];exact λz=>hk (CC z))];exact h
 ·rename_i hany;clear hany
  induction r with
  |nil=>exact .cons ⟨rfl,rw'⟩ .nil
  |cons h t ih=>exact .cons h ih
def px.length (r:px K H hV ps):hV.length=ps.length:=gc r
theorem Kl:∀{ws:List W}{vs:List V}{k:List Int},mC K H ws vs→qG ws=aa k→vs=(k.map (Sum.inl:Int→Key)).map kV
 | [],_,_, .nil,e=>by cases e;rfl
 |w::ws,_,k, .cons r rs,e=>by
  cases r with
  |int i=>
   cases q:qG ws with
   |none=>simp [qG,q]at e
   |some ks=>
    simp only[qG,q,gQ,bH]at e;subst e;rw[Kl rs q];rfl
  |_=>simp [qG]at e
def Ho (r:nK K H w v) (e:sM w=aa k):∃b,v= .ref b∧H b=aa (.bW ((k.map (Sum.inl:Int→Key)).map kV)):=by
 cases r with
 |bW f hs=>exact⟨_,rfl,by rw[f,Kl hs e]⟩
 |_=>simp [sM]at e
def RO (hS:mD K H S) (e:S a=aa (.dct hV)) (ry:nK K H wy y) (ek:sM wy=aa k):∃o,rM H a y o∧(pM hV k=none→o=none)∧ ∀w,pM hV k=aa w→ ∃v,o=aa v∧nK K H w v:=by
 obtain⟨ps,e1,r⟩:=hS a _ e;obtain⟨b,rfl,eb⟩:=Ho ry ek;have rv:=px.val r k;exact⟨rJ ps (k.map Sum.inl), .t e1 eb,rv.2,rv.1⟩
end
def wK (neg:Bool):W2:=λy x S Q=>match x with
 | .ref a=>match sM y with
  |some k=>tX S a λhV=>Q (.bl (if neg then !(pM hV k).isSome else(pM hV k).isSome)) S
  |none=>False
 |_=>False
def P7:W2:=λx y S Q=>match x with
 | .ref a=>match sM y with
  |some k=>tX S a λhV=>match pM hV k with
   |some w=>Q w S
   |none=>False
  |none=>False
 |_=>False
section
variable {X:Cx}{a o:Expr}
def F6 (neg:Bool):R2:=λy x H Q=>∃a o,x= .ref a∧rM H a y o∧Q (.bl (if neg then !o.isSome else o.isSome)) H
def RF (hu:X.A.units+1<cLine):n_ X (bB .In) (F6 false):=by
 intro ag s σ H x y v u Q I rx ry h;obtain⟨a,o,rfl,g,q⟩:=h;cases ry;exact P1 hu I g rx λs3 I3=>⟨.bl o.isSome,H,I3,rfl,q⟩
def Rl (hu:X.A.units+1<cLine):n_ X (bB .NotIn) (F6 true):=by
 intro ag s σ H x y v u Q I rx ry h;obtain⟨a,o,rfl,g,q⟩:=h;cases ry;exact We hu I g rx λs3 I3=>⟨.bl (!o.isSome),H,I3,rfl,q⟩
def OE{K:ao}{neg:Bool}:qZ K (F6 neg) (wK neg):=λH x y wx wy S Q QW rx ry hS h hQ=>by
 unfold wK at h;split at h
 ·split at h
  ·rename_i k ek;obtain⟨hV,ea,h⟩:=Rx h;cases ry;obtain⟨o,g,g0,g1⟩:=RO hS ea rx ek;have eo:o.isSome=(pM hV k).isSome:=by
    cases q:pM hV k with
    |none=>rw[g0 q];rfl
    |some w=>obtain⟨v,ev,_⟩:=g1 w q;rw[ev];rfl
   exact⟨_,o,rfl,g,by rw[eo];exact hQ _ S _ H .refl (.bl _) hS h⟩
  ·exact h.elim
 ·exact h.elim
end
def Le:V→List V→Hp→VK→Prop:=λx vs H Q=>∃z:ah,x= .str z∧vs=[]∧z.length≤5592405∧Q (.str (dZ z)) H
def XU:sU X "str.upper" Le:=by
 intro ag s σ H x vs v us Q I rx rv h;obtain⟨z,rfl,rfl,hz,q⟩:=h;obtain⟨t,rfl⟩:=rx;cases rv;exact SCL.upper hz λ_=>⟨.str (dZ z),H,I.tok _,⟨_,rfl⟩,q⟩
def yN:rB:=λw ws S Q=>match w,ws with
 | .str z,[]=>z.length≤5592405∧Q (.str (dZ z)) S
 |_,_=>False
def Zp{K:ao}:zW K Le yN:=λH x w vs ws S Q QW r rs hS h hQ=>by
 cases r with
 |str z=>
  cases rs with
  |nil=>exact⟨z,rfl,rfl,h.1,hQ _ S _ H .refl (.str _) hS h.2⟩
  |cons _ _=>exact h.elim
 |_=>exact h.elim
def Wf (ho:JE X o to) (hbase:cK o "upper" X.env (aH o X.env)=aH o X.env:=by rfl) (hline:(apos.endLine == cpos.line)=true:=by rfl):JE X (.Call (.Attribute o "upper" apos) [] [] cpos) (wM u0 yN to ae):=
 R8 lY PySem.F.slot_str_upper PySem.F.type_str_upper HH XU Zp ho hbase hline
theorem Om:∀(ns:List Int) (n:Nat),n≤ns.length→gn (λi=>ns.getD i 0) n=(ns.take n).sum
 |ns,0,_=>by simp [gn]
 |ns,n+1,h=>by
  rw[gn,Om ns n (by lia),lP,List.sum_append];congr 1;rw[bv,aR (by lia)];simp
def Qk (hc:X.calm=true):nL X (.builtin "sum") (λxs H Q=>∃(p:ai) (ns:List Int),xs=[.ref p]∧oE X.K H p (ns.map V.int)∧Q (.int ns.sum) H):=by
 intro ag s σ H xs us Q I r h;obtain⟨p,ns,rfl,hq,q⟩:=h;obtain⟨u,rfl,rx⟩:=ub r;cases rx;obtain⟨eA,r',pl,hz⟩:=I.list hq;have hlen:ns.length=eA.length:=by have:=r'.length;rw[ay]at this;exact this
 have hp:p<s.heap.objs.size:=by obtain⟨o,n,e,_⟩:=pl;exact aP e
 have hd:X.A.in1.handled=none:=I.ok.hd hc;have get:∀(i:Nat) (v:aj),eA.toArray[i]? =aa v→ ∃t,v= .int (ns.getD i 0) t:=λi v e=>by
  have e':eA[i]? =aa v:=by simpa using e
  have hi:i<ns.length:=by rw[hlen];exact(b7.mp e').1
  obtain⟨u,hu,ru⟩:=r'.get (i:=i) (x:= .int (ns.getD i 0)) (by rw[aU,aR hi,bv,aR hi];rfl);rw[e']at hu;cases hu;exact ru
 refine call_sum_walkG (fi pl.isList ?_);refine⟨s.heap.objs.size,_,_,_,_,_,λi=>ns.getD i 0,rfl,jj hd _ p (bQ hp) eA.toArray,⟨⟨_,bI _ rfl,rfl,rfl⟩,pl.isList.push _⟩,?_,λi v hP=>get i v hP,λh' tk t' hk=>?_⟩
 ·intro b hb;have hsz:∀o:aG,(s.heap.push o).objs.size=s.heap.objs.size+1:=λo=>c_ ..;simp only[az,bq,or_false]at hb;show b<(s.heap.push _).objs.size;rw[hsz];obtain rfl |rfl:=hb
  ·exact Nat.lt_succ_self _
  ·exact Nat.lt_succ_of_lt hp
 ·have e:gn (λi=>ns.getD i 0) eA.toArray.size=ns.sum:=by
   rw[bf,←hlen,Om ns _ (aA _),io]
  have I1:my X ag σ H { s with heap:=h',toks:=tk }:=I.kept λb o e=>hk b o (λz=>by
   have z':b=s.heap.objs.size:=by simpa using z
   rw[z']at e;exact absurd (aP e) (cJ _)) (aQ _ e)
  exact⟨.int _,H,I1,⟨t',by rw[e]⟩,q⟩
def v_ (ws:List W) (S:li) (Q:WK):Prop:=match qG ws with
 |some ns=>Q (.int ns.sum) S
 |none=>False
theorem Hn{K:ao}{H:Hp}:∀{ws:List W}{vs:List V}{ns:List Int},mC K H ws vs→qG ws=aa ns→vs=ns.map V.int
 | [],_,_, .nil,e=>by cases e;rfl
 |w::ws,_,ns, .cons r rs,e=>by
  cases r with
  |int i=>
   cases q:qG ws with
   |none=>simp [qG,q]at e
   |some ks=>
    simp only[qG,q,gQ,bH]at e;subst e;rw[Hn rs q];rfl
  |_=>simp [qG]at e
def TX{K:ao}:xM K (λxs H Q=>∃(p:ai) (ns:List Int),xs=[.ref p]∧oE K H p (ns.map V.int)∧Q (.int ns.sum) H) v_:=λH a vs ws S Q QW ea na r hS h hQ=>by
 unfold v_ at h;split at h
 ·rename_i ns e;have:=Hn r e;subst this;exact⟨a,ns,rfl, .of ea,hQ _ S _ H .refl (.int _) hS h⟩
 ·exact h.elim
def ZR (hg:Gl X "sum") (hm:X.mg "sum" =none) (ha:JL X e tl)
  (he:ax [e] X.env=(false,aH e X.env)::ax [] X.env:=by rfl) (hpl:(aZ pos (ax [] X.env)).any (·.1)=false:=by rfl) (hcl:X.calm=true:=by rfl):JE X (.Call (.Name "sum" p) [e] [] pos) (qL v_ tl):=λE hE=>
 NF (Qk hcl) TX hg hm PyProof.Rows.boot_sum ha (by decide) (by decide) he hpl E hE
def Pm:iN (.type "list") "keys" =pure none:=by rw[typeLookup_type,builtinLookup_eq_fast];kernel_rfl
def IS:entryFor table "dict.update.loop" =aa cC.«dict.update.loop» :=entryFor_of_tree (by kernel_rfl)
def Bc:plainId "dict.update.loop" =true:=by decide +kernel
section
variable {prog:bh}{w:aS}{A:br}{E:aj→am→Prop}{s:am}
def XI{Q:Option aj→am→Prop}
  (hx : s.heap.get? a = aa o) (hc : o.cls = .type "list") (hdat : o.data = .seq xs k) (hd : o.dict = none) (hmiss : iN (.type "list") name = pure none) (hname : (["__module__", "__name__", "__qualname__", "__doc__", "__annotations__"] : List ah).contains name = false) (hA : A.handled = none)
  (h:∀h' tk,(∀b o,s.heap.get? b=aa o→h'.get? b=aa o)→Q none { s with heap:=h',toks:=tk }) (hsz:name.length+100≤sizeLine:=by size_fits) :
  av (aB prog w) A (getAttr? (.ref a) name) Q E s:=by
 obtain⟨c,dct,dat,sl⟩:=o;simp only at hc hdat hd;subst hc hdat hd;obtain⟨hp,g,d,tk,os⟩:=s;have hT:∀tk',(⟨hp,g,d,tk',os⟩:am).TypeIs (.ref a) "list" :=λ_=>⟨_,hx,rfl⟩;have f1:=sub_AttributeError;have f3:=ju.lookup;have f4:=ju.bind (.ref a);have f5:=am_list_getattr_none;unfold getAttr? getAttrBy? getAttrBy
 repeat (any_goals (first |assumption |exact hT _ | ((with_reducible show av _ _ (call (aj.builtin "list.__getattribute__") _ _) _ _ _);refine eU ju (hT _) am_entry_list_getattribute (F.args_list_getattribute_2 _ _) (meets_getattribute_miss_list a xs k sl name _ hmiss hname hsz) ⟨hx,hA,λh' tk' e hx'=>?_⟩) |wp_step))
 obtain⟨t',u',he⟩:=hx'.there;have hTe:∀tk',(⟨h',g,d,tk',os⟩:am).TypeIs (.ref e) "AttributeError" :=λ_=>⟨_,he,rfl⟩;show av _ _ (mo _ _ _ _ _ _ _) _ _ _;unfold mo
 repeat (any_goals (first |assumption |exact hTe _ |wp_step))
 exact h h' tk' hx'.keeps
end
section
variable {prog:bh}{w:aS}{A:br}{R:Result→am→Prop}{I l d:ai}{items:Array aj}
def DD (xs:List (List Key×ai×aj)) (ps:List (List Key×ai)):List (List Key×ai×aj):=ps.foldl (λxs p=>fV xs p.1 p.2 (.bool true)) xs
def YO (hu:(cS (qE prog w)).room A.in1) (hh:A.in1.handled=none) (hne:l≠I) (hdI:d≠I) (hdl:d≠l) (h0:aE) (hd0:h0.get? d=none) (hI0:h0.get? I=none) (ps:List (List Key×ai)) (hps:ps.length=items.size)
  (hp:∀(i:Nat) (p:List Key×ai) (v:aj),ps[i]? =aa p→items[i]? =aa v→ ∃(t:ai) (o:aG) (n:Nat),v= .ref t∧h0.get? t=aa o∧o.cls= .type "tuple" ∧o.data= .seq #[.ref p.2, .bool true] n)
  (hk:∀p∈ps,(cS (qE prog w)).is h0 p.1 p.2) :
  ∀(k i:Nat) (s:am) (xs:List (List Key×ai×aj)),items.size - i=k→i≤items.size→s.heap.IsListIter I l i→s.heap.IsList l items→(∀b o,h0.get? b=aa o→s.heap.get? b=aa o)→s.heap.DictOfH (cS (qE prog w)) d xs→xs.length+(items.size - i)≤sizeLine→
  (∀h' tk,(∀b o,h0.get? b=aa o→h'.get? b=aa o)→h'.DictOfH (cS (qE prog w)) d (DD xs (ps.drop i))→R (.ok (.ret .none)) { s with heap:=h',toks:=tk })→
  ef (aB prog w) A (.builtin "dict.update.loop" ⟨[.ref d, .ref I,cM i, .none],[]⟩) R s:=by
 have W:=jj (prog:=prog) (w:=w) (A:=A.in1) hh I l hne items;intro k
 induction k with
 |zero=>
  intro i s xs hki hi hit hl hold hd hsz hR;have hin:i=items.size:=by lia
  subst hin;refine kK IS ?_;rw[kh Bc _];show av _ A.in1 (cB (.ref I) >>= _) _ _ s;refine au (W.done s _ _ ⟨hit,hl⟩ λh' tk hk'=>?_);have hd':h'.DictOfH (cS (qE prog w)) d xs:=by
   obtain⟨q,es,ep,q1,q2,q3,q4,q5,q6⟩:=hd;refine⟨q,es,ep,hk' d q (λz=>hdI (bi.mp z)) q1,q2,q3,q4,λx hx=>?_,q6⟩;obtain⟨ob,eA,m,k1,k2,k3,k4⟩:=q5 x hx;refine⟨ob,eA,m,hk' _ _ (λz=>?_) k1,k2,k3,k4⟩;obtain⟨oi,hi1,hi2,_⟩:=hit;rw[bi.mp z,hi1]at k1;cases k1;rw[k2]at hi2;exact absurd hi2 (by decide)
  show av _ A.in1 (cC.Dict.addKeywords d [] >>= _) _ _ _;refine au (aM (aM (hR h' tk (λb o e=>hk' b o (λz=>by rw[bi.mp z,hI0]at e;cases e) (hold b o e)) ?_)))
  rw[fO (by lia)];exact hd'
 |succ k ih=>
  intro i s xs hki hi hit hl hold hd hsz hR;have hlt:i<items.size:=by lia
  refine kK IS ?_;rw[kh Bc _];show av _ A.in1 (cB (.ref I) >>= _) _ _ s;refine au (W.item i s _ _ hlt ⟨hit,hl⟩ λv h' tk hP hst' hk'=>?_);obtain⟨p,hpi⟩:∃p,ps[i]? =aa p:=⟨ps[i],aR (by lia)⟩;obtain⟨t,o,n,rfl,ho,hc,hdat⟩:=hp i p v hpi hP;have ho':=hk' t o (λz=>by rw[bi.mp z]at ho;rw[hI0]at ho;cases ho) (hold t o ho)
  have hkey:(cS (qE prog w)).is h' p.1 p.2:=by
   obtain⟨ob,eA,m,k1,k2,k3,k4⟩:=hk p (aJ hpi);exact⟨ob,eA,m,hk' _ _ (λz=>by rw[bi.mp z]at k1;rw[hI0]at k1;cases k1) (hold _ _ k1),k2,k3,k4⟩
  have hd':h'.DictOfH (cS (qE prog w)) d xs:=by
   obtain⟨q,es,ep,q1,q2,q3,q4,q5,q6⟩:=hd;refine⟨q,es,ep,hk' d q (λz=>hdI (bi.mp z)) q1,q2,q3,q4,λx hx=>?_,q6⟩;obtain⟨ob,eA,m,k1,k2,k3,k4⟩:=q5 x hx;refine⟨ob,eA,m,hk' _ _ (λz=>?_) k1,k2,k3,k4⟩;obtain⟨oi,hi1,hi2,_⟩:=hit;rw[bi.mp z,hi1]at k1;cases k1;rw[k2]at hi2;exact absurd hi2 (by decide)
  show av _ A.in1 (holding [.ref t] _ >>= _) _ _ _;refine au (gm ?_);refine au (wpAny_tryCatch ?_);unfold cC.Dict.pairItems;refine au (ge (T:= "tuple") ⟨o,ho',hc⟩ ?_);rw[if_pos (by decide)];refine au (dg ho' hdat ?_);refine aM ?_;show av _ A.in1 (holding [.ref p.2, .bool true] (dictSet d (.ref p.2) (.bool true))) _ _ _;refine gm (wpAny_dictSet_heap (hsz:=by lia) hu hkey hd' λh2 hd2 hs2=>?_)
  refine aM ⟨plainId_quiet Bc _,?_⟩;have ei:((i:Int)+1)=((i+1:Nat):Int):=by lia
  rw[ei];have hln:(fV xs p.1 p.2 (eO true)).length≤xs.length+1:=by
   unfold fV;split<;>simp
  have hst2:=W.frame (i+1) h' h2 hst' λb hb o e=>by
   have hbd:b≠d:=by
    obtain z |z:=az.mp hb
    ·rw[z];exact bz hdI
    ·rw[bi.mp z];exact bz hdl
   exact(hs2.2 b hbd).trans e
  refine ih (i+1) _ _ (by lia) (by lia) hst2.1 hst2.2 (λb o e=>?_) hd2 (by lia) λh3 tk3 old3 hd3=>?_
  ·have hbd:b≠d:=λz=>by rw[z,hd0]at e;cases e
   have hbI:b∉ [I]:=λz=>by rw[bi.mp z,hI0]at e;cases e
   exact(hs2.2 b hbd).trans (hk' b o hbI (hold b o e))
  ·refine hR h3 tk3 old3 ?_;have ed:ps.drop i=p::ps.drop (i+1):=by
    have hi':i<ps.length:=by lia
    rw[gh hi'];rw[aR hi']at hpi;cases hpi;rfl
   rw[ed];exact hd3
end
def Ar (H:Hp) (q:List Key) (v:V):Prop:=∃t b,v= .ref t∧H t=aa (.bW [.ref b, .bl true])∧H b=aa (.bW (q.map kV))
def wG (qs:List (List Key)):List (List Key×V):=qs.foldl (λhV q=>sN hV q (.bl true)) []
theorem L_:∀(qs:List (List Key)) (hV:List (List Key×V)),(qs.foldl (λhV q=>sN hV q (V.bl true)) hV).length≤hV.length+qs.length
 | [],hV=>by simp
 |q::qs,hV=>by
  have h1:=Tl hV q (V.bl true);have h2:=L_ qs (sN hV q (.bl true));rw[eZ,aT];lia
theorem KT.fold:∀(ps:List (List Key×ai)) {hV:List (List Key×V)}{xs:List (List Key×ai×aj)},KT H hV xs→(∀p∈ps,H p.2=aa (.bW (p.1.map kV)))→KT H ((ps.map λp=>p.1).foldl (λhV q=>sN hV q (.bl true)) hV) (DD xs ps)
 | [],_,_,r,_=>r
 |p::ps,hV,xs,r,h=>by
  rw[aC,eZ];exact KT.fold ps (r.bR p.1 (h p aK) rfl) λp' hp'=>h p' (aI _ hp')
theorem Kc (ok:nZ P w H h):∀{qs:List (List Key)}{vs:List V}{eA:List aj},aN (Ar H) qs vs→mM vs eA→ ∃ps:List (List Key×ai),(ps.map λp=>p.1)=qs∧
  (∀(i:Nat) (p:List Key×ai) (v:aj),ps[i]? =aa p→eA[i]? =aa v→ ∃(t:ai) (o:aG) (n:Nat),v= .ref t∧h.get? t=aa o∧o.cls= .type "tuple" ∧o.data= .seq #[.ref p.2, .bool true] n)∧ ∀p∈ps,H p.2=aa (.bW (p.1.map kV))
 |_,_,_, .nil, .nil=>⟨[],rfl,(λi p v h=>by simp at h),λ_ h=>nomatch h⟩
 |_,_,_, .cons (a:=q) hq hs, .cons hv hvs=>by
  obtain⟨ps,e,h1,h2⟩:=Kc ok hs hvs;obtain⟨t,b,rfl,ht,hb⟩:=hq;refine⟨(q,b)::ps,by rw[aC,e],λi p v hp hv'=>?_,λp hp=>?_⟩
  ·cases i with
   |zero=>
    simp only[jc,bH]at hp hv';subst hp hv';obtain⟨_,eA,r,o,g1,g2,n,g3⟩:=(show nc P w H h t (.bW [.ref b, .bl true]) from ok t _ ht);cases r with
    |cons r1 r2=>
     cases r2 with
     |cons r3 r4=>
      cases r4;cases r1;cases r3;exact⟨t,o,n,hv,g1,g2,by simpa using g3⟩
   |succ i=>
    simp only[bU]at hp hv';exact h1 i p v hp hv'
  ·obtain rfl |hp:=az.mp hp
   ·exact hb
   ·exact h2 p hp
def Yn (hc:X.calm=true) (hu:X.A.units+2<cLine):nL X (.type "dict") (λxs H Q=>∃(l:ai) (vs:List V) (qs:List (List Key)),xs=[.ref l]∧oE X.K H l vs∧aN (Ar H) qs vs∧qs.length≤sizeLine∧ ∀d,H d=none→Q (.ref d) (nH H d (.dT (wG qs)))):=by
 intro ag s σ H xs us Q I r h;obtain⟨l,vs,qs,rfl,hq,hp,hlen,q⟩:=h;obtain⟨u,rfl,rx⟩:=ub r;cases rx;obtain⟨eA,r',pl,hz⟩:=I.list hq;have hd:X.A.in1.handled=none:=I.ok.hd hc;have hl:l<s.heap.objs.size:=by obtain⟨o,n,e,_⟩:=pl;exact aP e
 refine callType_codes (Q₁:=λobj s₁=>obj= .ref s.heap.objs.size∧s₁={ s with heap:=s.heap.push { cls:= .type "dict",data:= .dict #[] } }) F.kt_called_dict (F.kt_typeCall_dict_1 _) F.entry_dict_init (kt_code_dict_new _ ⟨rfl,rfl⟩) ?_;rintro obj s₁ ⟨rfl,rfl⟩;have hT:({ s with heap:=s.heap.push { cls:= .type "dict",data:= .dict #[] } }:am).TypeIs (.ref s.heap.objs.size) "dict" :=⟨_,bI _ rfl,rfl⟩;refine⟨hT,F.args_dict_init_2 _ _,?_⟩;unfold cC.«dict.__init__»;refine au ?_;unfold cC.Dict.selfAndRest;refine au (wpAny_notOrdered_dict hT ?_);show av _ _ (pure (s.heap.objs.size,[bK l])) _ _ _;refine aM ?_;show av _ _ (kw "dict.__init__" s.heap.objs.size (.ref l) [] .none) _ _ _;unfold kw;obtain⟨ol,nl,hol,hcl,hdl,hnl⟩:=pl;have hol1:=aQ { cls:= .type "dict",data:= .dict #[] } hol;obtain⟨ps,eqs,hps,hks⟩:=Kc I.cG hp r';have hplen:ps.length=eA.toArray.size:=by
  have h1:=congrArg dU eqs;have h2:=gc hp;have h3:=r'.length;rw[ay]at h1;rw[bf];lia
 refine au (ge (T:= "list") ⟨ol,hol1,hcl⟩ ?_);dsimp only;rw[if_pos (by decide)];refine au (XI hol1 hcl hnl hdl Pm (by decide +kernel) hd λh1 tk1 kp1=>?_);rw[if_pos (show(none:Option aj).isNone=true from rfl)];refine au (eV ?_);have hl1:h1.IsList l eA.toArray:=⟨ol,kp1 _ _ hol1,hcl,nl,hnl⟩;refine au (fi hl1 ?_);refine aM ⟨plainId_quiet Bc _,?_⟩;have hd1:h1.get? s.heap.objs.size=aa { cls:= .type "dict",data:= .dict #[] }:=kp1 _ _ (bI _ rfl);have hdlt:=aP hd1;have hI0:s.heap.get? h1.objs.size=none:=by
  cases z:s.heap.get? h1.objs.size with
  |none=>rfl
  |some ob=>exact absurd (aP (kp1 _ _ (aQ _ z))) (cJ _)
 have hd0:s.heap.get? s.heap.objs.size=none:=by
  cases z:s.heap.get? s.heap.objs.size with
  |none=>rfl
  |some ob=>exact absurd (aP z) (cJ _)
 refine YO (A:=X.A.in1) (I:=h1.objs.size) (l:=l) (d:=s.heap.objs.size) (items:=eA.toArray) ?_ hd (bQ (Nat.lt_trans hl hdlt)) (bQ hdlt) (c5 hl) s.heap hd0 hI0 ps hplen (λi p v h1 h2=>hps i p v h1 (by simpa using h2)) (λp hp=>BE I.cG (hks p hp)) _ 0 _ [] rfl (aO _) ?_ ?_ ?_ ?_ ?_ λh' tk' old' hd'=>?_
 ·exact iR (A:=X.A.in1) (show X.A.in1.units+1<cLine from by have:X.A.in1.units=X.A.units+1:=rfl;lia)
 ·exact⟨_,bI _ rfl,rfl,rfl⟩
 ·exact hl1.push _
 ·exact λb o e=>aQ _ (kp1 _ _ (aQ _ e))
 ·refine⟨_, #[],0,aQ _ hd1,?_,rfl,rfl,(λx hx=>nomatch hx),List.nodup_nil⟩
  first |exact⟨rfl,rfl⟩ |exact rfl |exact .inl rfl | (unfold aG.ExactDict;simp)
 ·rw[di,←hplen];have h1:=congrArg dU eqs;rw[ay]at h1;lia
 ·rw[dS]at hd';obtain⟨o',es,ep,g1,g2,g3,g4,g5,g6⟩:=hd';have hl0:=L_ qs [];have kt:KT H (wG qs) (DD [] ps):=by
   have:=KT.fold ps (show KT H [] [] from .nil) hks;rw[eqs]at this;exact this
  refine⟨rfl, .ref s.heap.objs.size,_,I.laid (t':=tk') (o:= .dT (wG qs)) old' (aA _) ⟨?_,?_,_,kt.keeps λb ys eb=>?_,o',es,ep,g1,g2,g3,g4,g6⟩,rfl,q _ (I.cG.fresh (aA _))⟩
  ·simp only[di,bE]at hl0;exact aY hl0 hlen
  ·have:=I.big;exact beq_eq_false_iff_ne.mpr (c5 this)
  ·rw[og (pR eb (I.cG.fresh (aA _)))];exact eb
def rq:List W→Option (List (List Int))
 | []=>aa []
 | .bW [k, .bl true]::ws=>match sM k,rq ws with
  |some q,aa qs=>aa (q::qs)
  |_,_=>none
 |_=>none
def uu (qs:List (List Int)):List (List Int×W):=qs.foldl (λhV k=>vN hV k (.bl true)) []
def vC (ws:List W) (S:li) (Q:WK):Prop:=match rq ws with
 |some qs=>qs.length≤1000000∧ ∀a,S a=none→Q (.ref a) (bR S a (.dct (uu qs)))
 |none=>False
theorem GL{K:ao}{H:Hp}:∀{ws:List W}{vs:List V}{qs:List (List Int)},mC K H ws vs→rq ws=aa qs→aN (Ar H) (qs.map λq=>q.map Sum.inl) vs
 | [],_,_, .nil,e=>by
  simp only[rq,bH]at e;subst e;exact .nil
 |w::ws,_,qs, .cons r rs,e=>by
  cases w with
  |bW us=>
   obtain _ |⟨k,_ |⟨b,_ |⟨x,us⟩⟩⟩:=us
   ·simp [rq]at e
   ·simp [rq]at e
   ·cases b with
    |bl b=>
     cases b with
     |true=>
      simp only[rq]at e;cases e1:sM k with
      |none=>rw[e1]at e;simp at e
      |some q=>
       cases e2:rq ws with
       |none=>rw[e1,e2]at e;simp at e
       |some qs'=>
        rw[e1,e2]at e;simp only[bH]at e;subst e;cases r with
        | @bW t vs' _ ft hs=>
         cases hs with
         |cons r1 r2=>
          cases r2 with
          |cons r3 r4=>
           cases r4;cases r3;obtain⟨b,rfl,eb⟩:=Ho r1 e1;exact .cons ⟨t,b,rfl,ft,eb⟩ (GL rs e2)
     |false=>simp [rq]at e
    |_=>simp [rq]at e
   ·cases b<;>simp [rq]at e
  |_=>simp [rq]at e
theorem Nt{K:ao}{H:Hp}:∀(qs:List (List Int)) {hV:List (List Int×W)}{ps:List (List Key×V)},px K H hV ps→px K H (qs.foldl (λhV k=>vN hV k (.bl true)) hV) ((qs.map λq=>q.map Sum.inl).foldl (λhV q=>sN hV q (.bl true)) ps)
 | [],_,_,r=>r
 |q::qs,_,_,r=>by
  rw[aC,eZ,eZ];exact Nt qs (r.bR q (.bl true))
def VU{K:ao}:xM K (λxs H Q=>∃(l:ai) (vs:List V) (qs:List (List Key)),xs=[.ref l]∧oE K H l vs∧aN (Ar H) qs vs∧qs.length≤sizeLine∧ ∀d,H d=none→Q (.ref d) (nH H d (.dT (wG qs)))) vC:=λH a vs ws S Q QW ea na r hS h hQ=>by
 unfold vC at h;split at h
 ·rename_i qs e;have hp:=GL r e;refine⟨a,vs,_,rfl, .of ea,hp,?_,λd hd=>?_⟩
  ·rw[ay,d_];lia
  ·have rd:px K H (uu qs) (wG (qs.map λq=>q.map Sum.inl)):=Nt qs (show px K H [] [] from .nil);have x:nG H S (nH H d (.dT (wG (qs.map λq=>q.map Sum.inl)))) (bR S d (.dct (uu qs))):= .newS hd;refine hQ (.ref d) (bR S d (.dct (uu qs))) (.ref d) _ x (.ref d) (λb o q=>?_) (h.2 d (hS.free hd));by_cases hb:b=d
   ·subst hb;rw[mR]at q;cases q;exact⟨_,pE,Paired.mapP rd λ_ _ z=>⟨z.1,z.2.ext x⟩⟩
   ·rw[nO hb]at q;exact hS.new hd b o q
 ·exact h.elim
def UZ (hr:oj k X.A) (hg:Gl X "dict") (hm:X.mg "dict" =none) (ha:JL X e tl)
  (he:ax [e] X.env=(false,aH e X.env)::ax [] X.env:=by rfl) (hpl:(aZ pos (ax [] X.env)).any (·.1)=false:=by rfl) (hcl:X.calm=true:=by rfl):JE X (.Call (.Name "dict" p) [e] [] pos) (qL vC tl):=λE hE=>
 HJ (Yn hcl (by have:=hr.units;lia)) VU hg hm PyProof.Rows.boot_dict ha (by decide) (by decide) he hpl E hE
def _root_.pz{a b:Prop}(h:a→b) (g:b→a):a=b:=propext ⟨h,g⟩
def Q9:=@vC.eq_def
theorem Jr:∀ps:List (List Int),rq (ps.map λp=>W.bW [.bW (p.map W.int), .bl true])=aa ps
 | []=>rfl
 |p::ps=>by
  have e:sM (.bW (p.map W.int))=aa p:=by
   show qG (p.map W.int)=aa p
   induction p with
   |nil=>rfl
   |cons i p ih=>rw[aC,qG,ih];rfl
  rw[aC,rq,e,Jr ps]
def UB (hV:List (List Int×W)) (q k:List Int) (v:W):(pM (vN hV q v) k).isSome=(decide (k=q) || (pM hV k).isSome):=by
 have e:∀hV:List (List Int×W),(pM hV k).isSome=hV.any λkv=>decide (kv.1=k):=λhV=>by
  unfold pM;rw[ie]
  induction hV with
  |nil=>rfl
  |cons a hV ih=>
   rw[b_,eK];cases decide (a.1=k) with
   |true=>rfl
   |false=>simpa using ih
 rw[e,e];unfold vN;split
 ·rename_i h;have:(hV.map λkv=>if kv.1=q then(kv.1,v) else kv).any (λkv=>decide (kv.1=k))=hV.any λkv=>decide (kv.1=k):=by
   rw[List.any_map];congr 1;funext kv;simp only[kM];split<;>rfl
  rw[this];by_cases hk:k=q
  ·subst hk;rw[h];simp
  ·rw[decide_eq_false hk,ma]
 ·rw[List.any_append];simp only[eK,List.any_nil,lU];rw[Bool.or_comm];congr 1;apply decide_eq_decide.mpr;exact eq_comm
theorem Hh:∀(qs:List (List Int)) (hV:List (List Int×W)) (k:List Int),(pM (qs.foldl (λhV k=>vN hV k (.bl true)) hV) k).isSome=(decide (k∈qs) || (pM hV k).isSome)
 | [],hV,k=>by simp
 |q::qs,hV,k=>by
  rw[eZ,Hh qs,UB,←Bool.or_assoc];congr 1;rw[fZ];simp only[jP,decide_eq_true_eq,az];exact or_comm
def Hq (qs:List (List Int)) (k:List Int):(pM (uu qs) k).isSome=decide (k∈qs):=by
 unfold uu;rw[Hh];simp [pM]
end L2
namespace L2
open PySem PySem.Spec PyProof.Rows PySem.W PySem.Calls Builtin Builtin.ObjectAttr Builtin.Getset_descriptor
structure DS (K:Frag) (C:ai):Prop where
  ga:findIn K (.ref C) "__getattribute__" =aa (aa (.builtin "BaseException.__getattribute__"))
  gt:findIn K (.ref C) "__getattr__" =aa none
  cl:findIn K (.ref C) "__class__" =aa (aa (.builtin "object.__class__"))
  ob:mroIn K C (.type "object")=aa true
  be:mroIn K C (.type "BaseException")=aa true
section
variable {h:aE}{a C:ai}{o:aG}
def TZ (hx:h.get? a=aa o) (hc:o.cls= .ref C):Looks M h (fe (.ref a)) (.ref C):=hc▸(Looks.ld hx).andThen .now
end
abbrev AI:List aj:=[.type "ValueError", .type "Exception", .type "BaseException", .type "object"]
structure qm (K:ao) (x:ah) (C:ai):Prop where
  nm:bS K bj x=aa (aa (.ref C))
  ex:iE K C AI "ValueError.__new__" =true
  xc:DS K C
def qm.own{K:ao}{x:ah}{C:ai}{h:aE}{mg:ah→Option aj}(O:qm K x C) (X:K.In h) (G:h.Ns bj mg):OwnCls x C AI "ValueError.__new__" mg h:=by
 have q:=O.ex;refine⟨eX X G O.nm,?_⟩;unfold iE at q;split at q
 ·rename_i dd cd sl ho;split at q
  ·rename_i C' bm k0 k1 k2 k3 n k5 hm hs;simp only[bV,beq_iff_eq,fJ]at q;obtain⟨⟨⟨⟨⟨rfl,hnn⟩,hdel⟩,ht⟩,cG⟩,hni⟩:=q;obtain⟨nm,bs,mro,ns,qn,hd,sn,sub,ab,col,del⟩:=cd;dsimp only at hm hdel cG hni;subst hm hdel;have hsl:sl= #[k0,k1,k2,k3,aa (.builtin n),k5]:=by
    obtain⟨l⟩:=sl;simp only at hs;rw[hs]
   subst hsl;subst hnn;exact⟨bm,ns,nm,qn,bs,hd,sn,sub,ab,col,dd,k0,k1,k2,k3,k5,_,X _ _ ho, .of_isNs (PySem.W.isNs_of_in X cG),PySem.W.nsMap_none_of_in X cG hni,PySem.W.tail_of_in X ht⟩
  ·cases q
 ·cases q
def uR (x:ah) (t:WA):WS:=λE _ σ S=>t E σ S λws S1=>ws.length≤sizeLine∧E x σ S1
def Ui{X:Cx}{x:ah}{C:ai}{e:Expr}{es:List Expr}{t:WA}{np cpos pos:bw}(O:qm X.K x C) (hg:Gl X x) (hm:X.mg x=aa (.ref C)) (ha:JA X (e::es) t) (hcl:X.calm=true:=by rfl) (hdb:(x == ("__debug__" :ah))=false:=by decide)
  (he:ax (e::es) X.env=(false,aH e X.env)::ax es X.env:=by rfl) (hpl:(aZ cpos (ax es X.env)).any (·.1)=false:=by rfl) :
  JS X (.Raise (aa (.Call (.Name x np) (e::es) [] cpos)) none pos) (uR x t):=λE hE ag s σ H D I z=>by
 obtain⟨σW,S,DW,hσ,hS,ht,hD⟩:=z;have OC:=(O.own I.mod.kin I.mod.glob).keeps I.bk;obtain⟨tl,N,nm,q,bs,hdct,sn,sub,ab,col,dd,k0,k1,k2,k3,k5,mN,hC,hN,hni,T⟩:=(O.own I.mod.kin I.mod.glob).obj;refine wpAny_Raise_call_subT (C:=C) (nm:=nm) (q:=q) (N:=N) (bs:=bs) (bm:=tl) (hdct:=hdct) (sn:=sn) (sub:=sub) (ab:=ab) (col:=col) (dd:=dd) (k0:=k0) (k1:=k1) (k2:=k2) (k3:=k3) (k5:=k5)
  j6 (mN:=mN) (T.hasType j6.hasBase) (I.ok.hd hcl) (by rw[he];show(false || (aZ cpos (ax es X.env)).any (·.1))=false;rw[hpl];rfl) hni (yy I hg hm ⟨rfl,?_⟩ hdb)
 have go:=ha E hE cpos ag s σ H (λvs H1=>∃ws S1,mC X.K H1 ws vs∧nj X.K H1 σW σ∧mD X.K H1 S1∧ws.length≤sizeLine∧E x σW S1) I ⟨σW,S,_,hσ,hS,ht,λws S1 vs H1 e1 r1 iU h1=>⟨ws,S1,r1,hσ.ext e1,iU,h1.1,h1.2⟩⟩;rw[he]at go⊢;refine ky (cf go (λus s2 ⟨vs,H1,I1,r,ws,S1,r1,hσ1,iU,hl,h1⟩=>?_) λ_ _ y=>y);refine⟨rfl,by rw[←r.length,←r1.length];exact hl,I1.bk _ _ hC,hN.keeps I1.bk,T.keeps I1.bk,λh' a me=>?_⟩
 exact hE.near ag σ H1 s2 σW x C a S1 h' us I1 hσ1 O.nm me iU h1
abbrev uW:WX:=λ_ _ _=>False
def Gk (h:db (aB X.prog X.w) X.A X.env X.xe):oM X uW:=⟨h,λ_ _ _ _ _ _ _ _ _ _ _ _ _ _ _ _ _ _ _ _ z=>z.elim,λ_ _ _ _ _ _ _ _ _ _ _ _ _ _ _ _ z=>z.elim⟩
abbrev Cx.at (X:Cx) (pn:List (ai×aG)) (E:aj→am→Prop):Cx:={ X with pn:=pn,xe:=E }
section
variable {X:Cx}{ag pins':List (ai×aG)}{σ:St}{H:Hp}{s:am}{E:aj→am→Prop}
def Cx.Ok.at (ok:X.Ok) (pn:List (ai×aG)) (E:aj→am→Prop):(X.at pn E).Ok:=
 ⟨ok.mod,ok.kind,ok.glob,ok.blt,ok.above,ok.inj,ok.has,ok.cab,ok.hd,ok.frames,ok.stk,ok.exf,ok.bs,ok.bsz,ok.noex,ok.exfs,ok.funs,ok.frf⟩
def Cx.Ok.unat{pn:List (ai×aG)}(ok:(X.at pn E).Ok):X.Ok:=
 ⟨ok.mod,ok.kind,ok.glob,ok.blt,ok.above,ok.inj,ok.has,ok.cab,ok.hd,ok.frames,ok.stk,ok.exf,ok.bs,ok.bsz,ok.noex,ok.exfs,ok.funs,ok.frf⟩
def my.at (I:my X ag σ H s) (E:aj→am→Prop):my (X.at (X.pn++ag) E) [] σ H s:=⟨I.ok.at _ E,I.os,I.bare,I.base,I.loc,I.cell,I.free,I.freeC,λp hp=>I.pin p (by simpa using hp),I.cG,I.len⟩
def my.unat (I:my (X.at (X.pn++ag) E) pins' σ H s):my X ag σ H s:=⟨I.ok.unat,I.os,I.bare,I.base,I.loc,I.cell,I.free,I.freeC,λp hp=>I.pin p (d9 _ hp),I.cG,I.len⟩
def SP.unat (h:SP (X.at (X.pn++ag) E) [] D f s'):SP X ag D f s':=by
 cases f with
 |next=>obtain⟨σ',H',I,q⟩:=h;exact⟨σ',H',I.unat,q⟩
 |brk=>obtain⟨σ',H',I,q⟩:=h;exact⟨σ',H',I.unat,q⟩
 |cont=>obtain⟨σ',H',I,q⟩:=h;exact⟨σ',H',I.unat,q⟩
 |ret u=>obtain⟨v,σ',H',I,r,q⟩:=h;exact⟨v,σ',H',I.unat,r,q⟩
end
def IL (X:Cx) (ag:List (ai×aG)) (σ:St) (σW:mS) (H:Hp) (S:li) (E:WX) (e:aj) (s':am):Prop:=∃(cl:ah) (C a:ai) (H1:Hp) (s1:am) (H':Hp) (S':li),e= .ref a∧bS X.K bj cl=aa (aa (.ref C))∧my X ag σ H1 s1∧
 s'.os=s1.os∧ce s'.gens∧Un (frs X.stack) [] H1 H' s1.heap s'.heap∧nZ X.prog X.w H' s'.heap∧tJ s1.heap s'.heap H' a C∧nG H S H' S'∧mD X.K H' S'∧E cl σW S'
def T6 (X:Cx) (E:WX) (t:WE):TE:=λσ H Q=>∃σW S QW,nj X.K H σW σ∧mD X.K H S∧t E σW S QW∧oF X.K H S QW Q∧ ∀ag e s',IL X ag σ σW H S E e s'→X.xe e s'
def Jc (X:Cx) (E:WX) (t:WS):TS:=λD σ H=>∃σW S DW,nj X.K H σW σ∧mD X.K H S∧t E DW σW S∧Meets X.K H S DW D∧ ∀ag e s',IL X ag σ σW H S E e s'→X.xe e s'
def HL (X:Cx) (e:Expr) (t:WE):Prop:=∀E,db (aB X.prog X.w) X.A X.env X.xe→PE X e (T6 X E t)
def HP (X:Cx) (st:aW) (t:WS):Prop:=∀E,db (aB X.prog X.w) X.A X.env X.xe→PS X st (Jc X E t)
def wf (X:Cx) (st:List aW) (t:WS):Prop:=∀E,db (aB X.prog X.w) X.A X.env X.xe→qH X st (Jc X E t)
def Cb (c:mI) (t:WA):WE:=λE σ S Q=>t uW σ S λws S1=>c ws S1 Q λcl S2=>E cl σ S2
def Zh (F:oU X.prog X.w X.K X.mg X.base (si X.prog X.w) k f fd ps (rL X.K c)) (hr:oj k X.A) (hg:Gl X x) (hm:X.mg x=aa (.ref f)) (hk:fD X.K (.ref f)=true) (hb:pj X.K fd ps [])
  (ha:JA X (e::es) t) (hdb:(x == ("__debug__" :ah))=false:=by decide) (he:ax (e::es) X.env=(false,aH e X.env)::ax es X.env:=by rfl) (hpl:(aZ pos (ax es X.env)).any (·.1)=false:=by rfl) :
  HL X (.Call (.Name x p) (e::es) [] pos) (Cb c t):=λE hp ag s σ H Q I h=>by
 obtain⟨σW,S,QW,hσ,hS,ht,hQ,hF⟩:=h;refine gp (yy I hg hm ?_ hdb);refine lW (h₀:=X.base) I.ok.mod.kin hk (nD (ha uW (Gk hp) pos ag s σ H (λvs H1=>∃ws S1,mC X.K H1 ws vs∧nj X.K H1 σW σ∧mD X.K H1 S1∧c ws S1 QW (λcl S'=>E cl σW S')∧oF X.K H1 S1 QW Q∧nG H S H1 S1) I
  ⟨σW,S,_,hσ,hS,ht,λws S1 vs H1 e1 r1 iU h1=>⟨ws,S1,r1,hσ.ext e1,iU,h1,hQ.from e1,e1⟩⟩) λus s1 ⟨vs,H1,I1,r,ws,S1,r1,hσ1,iU,h1,hQ1,e1⟩=>⟨I1.kIn,?_⟩) he hpl
 exact Ip (E:=E) F hr hb I1 r r1 hσ1 iU h1 hQ1 λcl C a H' S' s' hn os bare un ok fly ex hS' q=>hF ag _ s' ⟨cl,C,a,H1,s1,H',S',rfl,hn,I1,os,bare,un,ok,fly,e1.trans ex,hS',q⟩
def OK (he:HL X e te):HP X (.Return (aa e) pos) (mU te):=λE hp=>
 (Kp (he E hp)).mono λD σ H ⟨σW,S,DW,hσ,hS,ht,hD,hF⟩=>⟨σW,S,_,hσ,hS,ht,hD.rt,hF⟩
def Xo{X:Cx}{st:aW}{ta:WS}(h:HP X st ta):wf X [st] ta:=λE hp=>Iy (h E hp)
def Gw (un:Un (frs l) [] H1 H' g h) (ok:nZ P w H' h) (ff0:h.FunFrames base l) (fr:∀b∈frs l,H' b=none)
  (h0:∀b∈hid,g.get? b=none∧H' b=none) (ha:a∈hid) (L:jV (du h (hid++frs l)) l a (.ref C) h h3):Un (frs l) [] H1 H' g h3∧nZ P w H' h3∧tJ g h3 H' a C:=by
 obtain⟨st,ff,tr,sl⟩:=L;have keepB:∀b o,h.get? b=aa o→b∉hid→b∉frs l→h3.get? b=aa o:=λb o e h1 h2=>st b o (fQ _ e λz=>(bp.mp z).elim h1 h2);have nh:∀b o,g.get? b=aa o→b∉hid:=λb o e hb=>by rw[(h0 b hb).1]at e;cases e
 have slotB:∀b o,b∈frs l→h.get? b=aa o→ ∃sl,h3.get? b=aa { o with slots:=sl }:=λb o hb e=>by
  obtain⟨_,o',eo',nf⟩:=ff0.mem hb;rw[e]at eo';cases eo';exact sl b o e nf
 have nx:∀b:ai,b∉([]:List ai):=λb=>by simp
 refine⟨⟨λb o e n hb _=>keepB b o (un.keep b o e n hb (nx b)) (nh b o e) hb,λb o e n hb _=>?_,λb o e n _=>un.free b o e n (nx b),λb o e _=>?_,un.tups,un.frzs,un.tbls⟩,λb o e=>?_,(h0 a ha).1,(h0 a ha).2,?_⟩
 ·obtain⟨sl1,e1⟩:=un.slot b o e n hb (nx b);obtain⟨sl2,e2⟩:=slotB b _ hb e1;exact⟨sl2,e2⟩
 ·obtain⟨o',e1⟩:=un.there b o e (nx b);by_cases hb:b∈frs l
  ·obtain⟨sl2,e2⟩:=slotB b _ hb e1;exact⟨_,e2⟩
  ·exact⟨o',keepB b o' e1 (nh b o e) hb⟩
 ·refine(ok b o e).stay (λc u hc q=>?_) (λ_ q=>q) λ_ _ q=>q;have tk:∃v,H' c=aa v:=by
   obtain z |z:=hc
   ·exact⟨o,by rw[z];exact e⟩
   ·exact⟨_,z⟩
  obtain⟨v,tk⟩:=tk;exact keepB c u q (λz=>by rw[(h0 c z).2]at tk;cases tk) λz=>by rw[fr c z]at tk;cases tk
 ·obtain⟨oe,vs,T,oT,ts,e1,e2,e3,e4,e5,e6,e7,e8,e9⟩:=tr;have nf:T∉frs l:=λhb=>by
   obtain⟨_,o,eo,nf⟩:=ff.mem hb;rw[e7]at eo;cases eo;exact nf ts e8
  have both:g.get? T=none∧H' T=none:=by
   by_cases hT:T∈hid
   ·exact h0 T hT
   ·have z:h.get? T=none:=by
     cases q:h.get? T with
     |none=>rfl
     |some o=>
      rw[fQ _ q λz=>(bp.mp z).elim hT nf]at e5;cases e5
    constructor
    ·cases q:g.get? T with
     |none=>rfl
     |some o=>obtain⟨o',q'⟩:=un.there T o q (nx T);rw[z]at q';cases q'
    ·cases q:H' T with
     |none=>rfl
     |some u=>obtain⟨o',q'⟩:=(ok T u q).ex;rw[z]at q';cases q'
  exact⟨oe,vs,T,oT,ts,e1,e2,e3,e4,both.1,both.2,e6,e7,e8,e9⟩
def Heap.TracedW.tr (x:aE.TracedW h base e cls a0):aE.Traced h base e cls:=by
 obtain⟨oe,vs,T,oT,ts,he,⟨hcls,h0⟩,r⟩:=x;exact⟨oe,vs,T,oT,ts,he,hcls,r⟩
section
variable {X:Cx}{ag:List (ai×aG)}{σ:St}{H1 H':Hp}{s1 s':am}{a C:ai}{M:Model}{A:br}{E:aj→am→Prop}{R:am→Prop}
def VD (I1:my X ag σ H1 s1) (hst:X.stack=X.env::X.outer) (hf:X.env.frame=aa X.env.locals) (os:s'.os=s1.os) (bare:ce s'.gens) (un:Un (frs X.stack) [] H1 H' s1.heap s'.heap) (ok:nZ X.prog X.w H' s'.heap) (fly:tJ s1.heap s'.heap H' a C) (hA:A.frames=aa X.stack)
  (k:∀h3,my X ag σ H' { s' with heap:=h3 }→Un (frs X.stack) [] H1 H' s1.heap h3→nZ X.prog X.w H' h3→tJ s1.heap h3 H' a C→R { s' with heap:=h3 }) :
  av M A (iu (.ref a) X.env) (λ_ s₂=>av M A (ix (.ref a) none) (λ_ s₃=>R s₃) E s₂) E s':=by
 have I2:my X ag σ H' s':=I1.call' os un ok bare (λ_ z=>nomatch z);have ff:=I2.stack;have fr:=I2.stkFree;obtain⟨g1,g2,oe,vs,T,oT,ts,e1,e2,e3,e4,g3,g4,e5,e6,e7,e8⟩:=fly;have sz:1<vs.size:=(lV.mp e4).1;have hid:∀b∈ [a,T],s1.heap.get? b=none∧H' b=none:=λb hb=>by
  obtain rfl |hb:=az.mp hb
  ·exact⟨g1,g2⟩
  ·rw[bi.mp hb];exact⟨g3,g4⟩
 have st:∀h3,jV (du s'.heap ([a,T]++frs X.stack)) X.stack a (.ref C) s'.heap h3→R { s' with heap:=h3 }:=λh3 L=>by
  obtain⟨u1,u2,u3⟩:=Gw un ok ff fr hid (by simp) L;exact k h3 (I1.call' (s':={ s' with heap:=h3 }) os u1 u2 bare (λ_ z=>nomatch z)) u1 u2 u3
 rw[hst]at hA ff st;refine wpAny_noteFrame_onW (base:=du s'.heap ([a,T]++frs (X.env::X.outer))) (cls:= .ref C) (a0:=vs[0]) hA (Aw ff) hf ⟨oe,vs,T,oT,ts,e1,⟨e2,lG _⟩,e3,e4,eD _ (by simp),e5,e6,e7,e8⟩ (λb o z=>gd _ z) (eD _ (by simp)) λh2 N=>?_;obtain⟨n1,n2,n3,n4⟩:=N;refine kN (s:={ s' with heap:=h2 }) n1 n2 n3 λh3 k1 k2 k3 k4=>?_;exact st h3 ⟨k1,k2,Heap.TracedW.tr k3,λb o e nf=>by
  obtain⟨sl,z⟩:=n4 b o e nf;exact⟨sl,k4 b _ z nf⟩⟩
def Xj (I1:my X ag σ H1 s1) (os:s'.os=s1.os) (bare:ce s'.gens) (un:Un (frs X.stack) [] H1 H' s1.heap s'.heap) (ok:nZ X.prog X.w H' s'.heap) (fly:tJ s1.heap s'.heap H' a C)
  (k:∀h3,my X ag σ H' { s' with heap:=h3 }→tJ s1.heap h3 H' a C→R { s' with heap:=h3 }):av M A (ix (.ref a) none) (λ_ s₃=>R s₃) E s':=by
 have I2:my X ag σ H' s':=I1.call' os un ok bare (λ_ z=>nomatch z);have ff:=I2.stack;have fr:=I2.stkFree;obtain⟨g1,g2,oe,vs,T,oT,ts,e1,e2,e3,e4,g3,g4,e5,e6,e7,e8⟩:=fly;have sz:1<vs.size:=(lV.mp e4).1;have hid:∀b∈ [a,T],s1.heap.get? b=none∧H' b=none:=λb hb=>by
  obtain rfl |hb:=az.mp hb
  ·exact⟨g1,g2⟩
  ·rw[bi.mp hb];exact⟨g3,g4⟩
 refine kN (base:=du s'.heap ([a,T]++frs X.stack)) (l:=X.stack) (cls:= .ref C) (a0:=vs[0]) (fl:= .none) (λb o z=>gd _ z) (Aw ff) ⟨oe,vs,T,oT,ts,e1,⟨e2,lG _⟩,e3,e4,eD _ (by simp),e5,e6,e7,e8⟩ λh3 k1 k2 k3 k4=>?_;obtain⟨u1,u2,u3⟩:=Gw un ok ff fr hid (by simp) ⟨k1,k2,Heap.TracedW.tr k3,λb o e nf=>⟨o.slots,k4 b o e nf⟩⟩;exact k h3 (I1.call' (s':={ s' with heap:=h3 }) os u1 u2 bare (λ_ z=>nomatch z)) u3
end
abbrev Cx.hot (X:Cx) (a:ai) (pn:List (ai×aG)):Cx:={ X with A:=X.A.mark (aa (.ref a)),calm:=false,pn:=pn,xe:=λ_ _=>False }
section
variable {X:Cx}{ag pins':List (ai×aG)}{σ:St}{H:Hp}{s:am}{a:ai}{oa:aG}
def Cx.Ok.hot (ok:X.Ok) (a:ai) (pn:List (ai×aG)):(X.hot a pn).Ok:=
 ⟨ok.mod,ok.kind,ok.glob,ok.blt,ok.above,ok.inj,ok.has,ok.cab,(λz=>nomatch z),ok.frames,ok.stk,ok.exf,ok.bs,ok.bsz,ok.noex,ok.exfs,ok.funs,ok.frf⟩
def my.hot (I:my X ag σ H s) (e:s.heap.get? a=aa oa) (n:H a=none) (d:oa.data= .fields vs):my (X.hot a (X.pn++ag++[(a,oa)])) [] σ H s:=
 ⟨I.ok.hot a _,I.os,I.bare,I.base,I.loc,I.cell,I.free,I.freeC,(λp hp=>by
  rw[bg]at hp;obtain hp |hp:=bp.mp hp
  ·exact I.pin p hp
  ·rw[bi.mp hp];refine⟨e,n,λz=>?_,λz=>?_,λv z=>?_⟩
   ·obtain⟨m,⟨o,es,ep,ho,hd,_⟩,_⟩:=I.loc;have e':s.heap.get? X.env.locals=aa oa:=by rw[←show a=X.env.locals from z];exact e
    rw[ho]at e';cases e';rw[hd]at d;cases d
   ·obtain⟨_,o,ho,nf⟩:=I.funs.mem z;have e':s.heap.get? a=aa o:=ho;rw[e]at e';cases e';exact nf vs d
   ·have z':oa.data= .cell v:=z;rw[d]at z';cases z'),I.cG,I.len⟩
def my.unhot (I0:X.Ok) (I:my (X.hot a (X.pn++ag++[(a,oa)])) pins' σ H s):my X ag σ H s:=
 ⟨I0,I.os,I.bare,I.base,I.loc,I.cell,I.free,I.freeC,λp hp=>I.pin p (d9 _ (d9 _ hp)),I.cG,I.len⟩
end
def BV (al:List ah) (t u:WS):WS:=λ_ D σ S=>t (λcl σ' S'=>cl∈al∧u uW D σ' S') D σ S
section
variable {X:Cx}{b:List aW}{x:ah}{CT:ai}{b₀:aW}{suite:List aW}{np hpos pos:bw}{t:WS}{v:WS}{al:List ah}
def Qr (h:X.xe=λ_ _=>False):oM X uW:=Gk (by rw[h];exact kl)
def ZX (hb:∀pn xe,wf (X.at pn xe) b t)
  (hal:∀cl∈al,∃C,qm X.K cl C∧e_ X.K (.ref C) (.ref CT)=aa true) (hs:∀(a:ai) (pn:List (ai×aG)),sy (X.hot a pn) (b₀::suite) v)
  (hg:Gl X x) (hm:X.mg x=aa (.ref CT)) (hst:X.stack=X.env::X.outer:=by rfl) (hf:X.env.frame=aa X.env.locals:=by rfl) (hdb:(x == ("__debug__" :ah))=false:=by decide) :
  JS X (.Try b [.ExceptHandler (aa (.Name x np)) none (b₀::suite) hpos] [] [] pos) (BV al t v):=λE hE ag s σ H D I z=>by
 obtain⟨σW,S,DW,hσ,hS,ht,hD⟩:=z;refine wpAny_Try_except ?_;refine cf (hb (X.pn++ag) (λe s₁=>av (aB X.prog X.w) X.A (iu e X.env) (λ_ s₂=>av (aB X.prog X.w) X.A (ix e none) (λ_ s₃=>av (aB X.prog X.w) X.A (handleBy e X.env [.ExceptHandler (aa (.Name x np)) none (b₀::suite) hpos]) (SP X ag D) X.xe s₃) X.xe s₂) X.xe s₁)
  _ db.looking [] s σ H D (I.at _) ⟨σW,S,DW,hσ,hS,ht,hD,λpins' e s' F=>?_⟩) (λf s1 q=>?_) λe s1 q=>q
 ·obtain⟨cl,C,a,H1,s1,H',S',rfl,hn,I1,os,bare,un,ok,fly,ex,hS',hcl,hu⟩:=F;obtain⟨C',O,hx⟩:=hal cl hcl;have hn':bS X.K bj cl=aa (aa (.ref C)):=hn;have eC:C'=C:=by
   have:=O.nm;rw[hn']at this;exact(bK.inj (aL (aL this))).symm
  subst eC;refine VD (X:=X) (ag:=ag) I1.unat hst hf os bare un ok fly I.ok.frames λh3 I3 u3 ok3 fly3=>?_;obtain⟨g1,g2,oe,vs,_,_,_,e1,e2,e3,_⟩:=id fly3;refine wpAny_handleBy_cons (codeAny_handlers_test ?_) (by intro q;cases q);refine yy (X:=X.hot a (X.pn++ag++[(a,oe)])) (I3.hot e1 g2 e3) hg hm ?_ hdb;refine(PySem.W.exm_one I3.kIn (TZ e1 e2) hx).here ?_;refine codeAny_handlers_suite ?_;refine Xj (X:=X) (ag:=ag) (s':={ s' with heap:=h3 }) I1.unat os bare u3 ok3 fly3 λh4 I4 fly4=>?_;obtain⟨g1',g2',oe4,vs4,_,_,_,e1',e2',e3',_⟩:=id fly4;refine cf (hs a (X.pn++ag++[(a,oe4)]) uW (Qr rfl) [] { s' with heap:=h4 } σ H' D (I4.hot e1' g2' e3') ⟨_,S',_,hσ.ext ex,hS',hu,hD.from ex⟩) (λf s6 q=>?_) λ_ _ z=>z.elim;cases f with
  |next=>obtain⟨σ',H'',I6,q⟩:=q;exact⟨_,H'',I6.unhot I.ok,q⟩
  |brk=>obtain⟨σ',H'',I6,q⟩:=q;exact⟨_,H'',I6.unhot I.ok,q⟩
  |cont=>obtain⟨σ',H'',I6,q⟩:=q;exact⟨_,H'',I6.unhot I.ok,q⟩
  |ret w=>obtain⟨v,σ',H'',I6,r,q⟩:=q;exact⟨v,_,H'',I6.unhot I.ok,r,q⟩
 ·cases f with
  |next=>exact fT q.unat
  |ret v=>exact q.unat
  |brk=>exact q.unat
  |cont=>exact q.unat
end
def OY (ha:PE X a ta):PE X (.UnaryOp .Not a pos) (λσ H Q=>ta σ H λx H1=>∃k,AE X.K x H1 k∧Q (.bl (!k)) H1):=by
 intro ag s σ H Q I h;refine ik (nD (ha ag s σ H _ I h) λv s1 ⟨x,H1,I1,r1,q1⟩=>?_);obtain⟨k,hk,q1⟩:=q1;exact not_of (nD (Nr ag s1 σ H1 x v (λc H2=>Q (.bl (!c)) H2) I1 r1 ⟨k,hk,q1⟩) λc s2 ⟨H2,I2,q2⟩=>⟨.bl (!c),H2,I2,rfl,q2⟩)
def xV (t:WE):WE:=λE σ S Q=>t E σ S λw S1=>ur w S1 λb S2=>Q (.bl !b) S2
def Xq (ha:JE X a ta):JE X (.UnaryOp .Not a pos) (xV ta):=λE hE=>
 (OY (ha E hE)).mono λσ H Q ⟨σW,S,QW,hσ,hS,ht,hQ⟩=>⟨σW,S,_,hσ,hS,ht,λw S1 v H1 e1 r1 iU h1=>by
  obtain⟨k,hk,q⟩:=Mp r1 iU h1;exact⟨k,hk,hQ _ S1 _ H1 e1 (.bl _) iU q⟩⟩
def VI:(xV t E σ S Q)=(t E σ S λw S1=>ur w S1 λb S2=>Q (.bl !b) S2):=pz id id
inductive Tr where
  |bl (n:Int)
  |nd (s:ah) (ts:List Tr)
def Tr.dI:Tr→List Tr
 | .bl _=>[]
 | .nd _ ts=>ts
mutual
def Tr.aq:Tr→Nat
 | .bl _=>1
 | .nd _ ts=>1+mJ ts
def mJ:List Tr→Nat
 | []=>0
 |t::ts=>t.aq+mJ ts
end
mutual
def Tr.depth:Tr→Nat
 | .bl _=>1
 | .nd _ ts=>1+m_ ts
def m_:List Tr→Nat
 | []=>0
 |t::ts=>max t.depth (m_ ts)
end
def Oe:mJ []=0:=by unfold mJ;rfl
def tB (t:Tr) (ts:List Tr):mJ (t::ts)=t.aq+mJ ts:=by
 conv=>lhs;unfold mJ
theorem AO:∀(ts us:List Tr),mJ (ts++us)=mJ ts+mJ us
 | [],us=>by
  show mJ us=mJ []+mJ us;rw[Oe];lia
 |t::ts,us=>by
  show mJ (t::(ts++us))=_;rw[tB,tB,AO ts us];lia
def DQ:m_ []=0:=by unfold m_;rfl
def zQ (t:Tr) (ts:List Tr):m_ (t::ts)=max t.depth (m_ ts):=by
 conv=>lhs;unfold m_
def CL (t:Tr):t.aq=1+mJ t.dI:=by
 cases t with
 |bl n=>
  show Tr.aq (.bl n)=1+mJ [];unfold Tr.aq mJ;rfl
 |nd s ts=>
  show Tr.aq (.nd s ts)=1+mJ ts
  conv=>lhs;unfold Tr.aq
def AX (t:Tr):t.depth=1+m_ t.dI:=by
 cases t with
 |bl n=>
  show Tr.depth (.bl n)=1+m_ [];unfold Tr.depth m_;rfl
 |nd s ts=>
  show Tr.depth (.nd s ts)=1+m_ ts
  conv=>lhs;unfold Tr.depth
def rN (t:Tr):1≤t.aq:=by rw[CL];lia
def qB (t:Tr):1≤t.depth:=by rw[AX];lia
theorem N5:∀(ts us:List Tr),m_ (ts++us)=max (m_ ts) (m_ us)
 | [],us=>by
  show m_ us=max (m_ []) (m_ us);rw[DQ];lia
 |t::ts,us=>by
  show m_ (t::(ts++us))=_;rw[zQ,zQ,N5 ts us];exact(Nat.max_assoc _ _ _).symm
theorem qF:∀(ts:List Tr),ts.length≤mJ ts
 | []=>aO _
 |t::ts=>by
  have:=qF ts;have:=rN t;rw[tB,aT];lia
theorem pf:∀{ts:List Tr},t∈ts→t.aq≤mJ ts
 | [],h=>by cases h
 |u::ts,h=>by
  rw[tB];obtain e |h:=az.mp h
  ·rw[e];lia
  ·have:=pf h;lia
theorem DT:∀{ts:List Tr},ts≠ []→m_ ts=1+m_ (ts.flatMap Tr.dI)
 | [],h=>absurd rfl h
 | [t],_=>by
  rw[cq,da,bg,zQ,DQ,AX];lia
 |t::u::r,_=>by
  have ih:=DT (ts:=u::r) (by simp);have e:(t::u::r).flatMap Tr.dI=t.dI++(u::r).flatMap Tr.dI:=cq ..;rw[zQ,ih,e,N5,AX];lia
theorem Fx:∀(ts:List Tr),mJ (ts.flatMap Tr.dI)+ts.length=mJ ts
 | []=>by rw[da,Oe];rfl
 |t::ts=>by
  have ih:=Fx ts;rw[cq,AO,tB,aT,CL];lia
mutual
theorem Mw:∀t:Tr,t.depth≤t.aq
 | .bl n=>by unfold Tr.depth Tr.aq;exact aA _
 | .nd s ts=>by
  have:=Nj ts;rw[AX,CL];show 1+m_ ts≤1+mJ ts;lia
theorem Nj:∀ts:List Tr,m_ ts≤mJ ts
 | []=>by rw[DQ];exact aO _
 |t::ts=>by
  have:=Mw t;have:=Nj ts;rw[zQ,tB];lia
end
mutual
def kY:Tr→W
 | .bl n=> .int n
 | .nd s ts=> .bW (.str s::af ts)
def af:List Tr→List W
 | []=>[]
 |t::ts=>kY t::af ts
end
theorem o5:∀ts:List Tr,af ts=ts.map kY
 | []=>by simp [af]
 |t::ts=>by simp [af,o5 ts]
def pH (ts:List Tr):(af ts).length=ts.length:=by rw[o5,ay]
def mB (p:List Int):W:= .bW (p.map W.int)
def MH:pe "int" "int" =true:=by decide +kernel
def NV:pe "int" "bool" =false:=by decide +kernel
def Lc:pe "int" "str" =false:=by decide +kernel
def Kz:pe "int" "tuple" =false:=by decide +kernel
def LO:pe "int" "list" =false:=by decide +kernel
def JN:pe "bool" "int" =true:=by decide +kernel
def Ju:pe "bool" "bool" =true:=by decide +kernel
def Oz:pe "bool" "str" =false:=by decide +kernel
def Mj:pe "bool" "tuple" =false:=by decide +kernel
def K4:pe "bool" "list" =false:=by decide +kernel
def J_:pe "str" "int" =false:=by decide +kernel
def Hk:pe "str" "bool" =false:=by decide +kernel
def GO:pe "str" "str" =true:=by decide +kernel
def O':pe "str" "tuple" =false:=by decide +kernel
def Ir:pe "str" "list" =false:=by decide +kernel
def Jy:pe "tuple" "int" =false:=by decide +kernel
def L8:pe "tuple" "bool" =false:=by decide +kernel
def KC:pe "tuple" "str" =false:=by decide +kernel
def oD:pe "tuple" "tuple" =true:=by decide +kernel
def oP:pe "tuple" "list" =false:=by decide +kernel
def Ig:pe "list" "int" =false:=by decide +kernel
def LP:pe "list" "bool" =false:=by decide +kernel
def Nu:pe "list" "str" =false:=by decide +kernel
def oO:pe "list" "tuple" =false:=by decide +kernel
def oW:pe "list" "list" =true:=by decide +kernel
section
variable {α:Type}{x:α}{xs:List α}
def AV (n:Nat):o8 xs (aa (n:Int)) none=xs.drop n:=by
 unfold o8;rw[HT.sIx_nat,HT.sIx_none];by_cases h:n≤xs.length
 ·rw[jN h,dD (by rw[cI];lia)]
 ·rw[j5 (by lia),fO (aA _),fO (by lia),List.take_nil]
def CH (n:Nat):o8 xs none (aa (n:Int))=xs.take n:=by
 unfold o8;rw[HT.sIx_nat,HT.sIx_none,dS,eT];by_cases h:n≤xs.length
 ·rw[jN h]
 ·rw[j5 (by lia),io,dD (by lia)]
def Kf:o8 (x::xs) (aa 1) none=xs:=by rw[show(1:Int)=((1:Nat):Int) from rfl,AV];rfl
def MA{n d k:Nat}(h:0<k):HT.sIx n d (aa (-(k:Int)))=n - k:=by
 show(if(-(k:Int))<0 then(-(k:Int)+(n:Int)).toNat else min (-(k:Int)).toNat n)=n - k;rw[if_pos (by lia)];lia
def Ti (k:Nat) (h:0<k):o8 xs none (aa (-(k:Int)))=xs.take (xs.length - k):=by
 unfold o8;rw[MA h,HT.sIx_none,dS,eT]
def ZU (k:Nat) (h:0<k):o8 xs (aa (-(k:Int))) none=xs.drop (xs.length - k):=by
 unfold o8;rw[MA h,HT.sIx_none,dD (by rw[cI];lia)]
def sk{n:Nat}:nC xs (n:Int)=xs[n]? :=by
 unfold nC tK;rw[if_pos (by lia)];by_cases h:n<xs.length
 ·rw[if_pos (by lia)];simp
 ·rw[if_neg (by lia)];simp;lia
def Cj:nC (x::xs) 0=aa x:=sk (n:=0)
end
section
variable {S S':li}{a b:ai}{o:Ob}{Q:List W→Prop}{ws:List W}
def Jj (h:b≠a):bR (bR S a o) b u=bR (bR S b u) a o:=by
 funext c;unfold bR;by_cases h1:c=b
 ·rw[if_pos h1,if_pos h1,if_neg (by rw[h1];exact h)]
 ·rw[if_neg h1,if_neg h1]
def IP (h:b≠a):bR (bR (bR S a o) b u) a o'=bR (bR S a o') b u:=by rw[Jj h,pN,Jj h]
def yY:n9 (bR S a (.bO ws)) a Q=Q ws:=m8 mR
def rh (h:bR S a o b=none):S b=none∧b≠a:=by
 have hb:b≠a:=by rintro rfl;rw[mR]at h;cases h
 rw[nO hb]at h;exact⟨h,hb⟩
def Bd (h:S a=aa u) (n:S b=none):a≠b:=by rintro rfl;rw[h]at n;cases n
def Sub.bR (h:Sub S S') (n:S a=none):Sub S (L2.bR S' a o):=λb u e=>by rw[nO (Bd e n)];exact h b u e
def Sub.put2 (h:Sub S S'):Sub (L2.bR S a u) (L2.bR S' a u):=λb w e=>by
 by_cases hb:b=a
 ·subst hb;rw[mR]at e⊢;exact e
 ·rw[nO hb]at e⊢;exact h b w e
end
def Fb (S:li) (a b:Int):nY S 60 (.int a) (.int b)=aa (a == b):=by have h:nY S 60 (.int a) (.int b)=aa (a == b):=rfl;exact h
def Ib (S:li) (a b:ah):nY S 60 (.str a) (.str b)=aa (a == b):=by have h:nY S 60 (.str a) (.str b)=aa (a == b):=rfl;exact h
def Oq (S:li) (a b:Bool):nY S 60 (.bl a) (.bl b)=aa (a == b):=by have h:nY S 60 (.bl a) (.bl b)=aa (a == b):=rfl;exact h
def m7 (h:n≤16777216):n≤sizeLine:=by rw[d_];exact h
def qC (h:n<16777216):n<sizeLine:=by rw[d_];exact h
section
variable {S:li}{Q:WK}{QB:Bool→li→Prop}{QS:List W→(li→Prop)→Prop}{QT:String→Prop}
def sH (h:S a=aa o):bR S a o=S:=by
 funext b;unfold bR;split
 ·rename_i e;rw[e,h]
 ·rfl
theorem zM:ur (.bl b) S QB=QB b S:=rfl
def Lb:=@zM
theorem zu:ur (.int i) S QB=QB (i != 0) S:=rfl
def Wq:=@zu
theorem yT:ur (.bW ws) S QB=QB (!ws.isEmpty) S:=rfl
def RD:=@yT
theorem yn:ur (.ref a) S QB=n9 S a λws=>QB (!ws.isEmpty) S:=rfl
def Re:=@yn
theorem yo:ur .cc S QB=QB false S:=rfl
def TR:=@yo
theorem yW:uw (.bW ws) S QS=QS ws λ_=>True:=rfl
def Ky:=@yW
theorem zg:uw (.ref a) S QS=n9 S a λws=>QS ws λS'=>S' a=aa (.bO ws):=rfl
def BZ:=@zg
theorem An:v9 (.bl b) S QT=QT "bool" :=rfl
def Ut:=@An
theorem xY:v9 (.int i) S QT=QT "int" :=rfl
def X9:=@xY
theorem yB:v9 (.str i) S QT=QT "str" :=rfl
def UO:=@yB
theorem z_:v9 (.bW i) S QT=QT "tuple" :=rfl
def Xw:=@z_
theorem zJ:v9 .cc S QT=QT "NoneType" :=rfl
def ZY:=@zJ
theorem yf:v9 (.ref a) S QT=n9 S a λ_=>QT "list" :=rfl
def Wh:=@yf
theorem zR:om (.int i) (.int j) S Q=Q (.int (i+j)) S:=rfl
def UR:=@zR
theorem zU:om (.str i) (.str j) S Q=(i.length+j.length≤sizeLine∧Q (.str (i++j)) S):=rfl
def Qy:=@zU
theorem zm:om (.bW i) (.bW j) S Q=(i.length+j.length≤sizeLine∧Q (.bW (i++j)) S):=rfl
def Fs:=@zm
theorem zp:om (.ref a) (.ref b) S Q=n9 S a λxs=>n9 S b λys=>xs.length+ys.length≤sizeLine∧ ∀p,S p=none→Q (.ref p) (bR S p (.bO (xs++ys))):=rfl
def KD:=@zp
theorem zS{C:Int→Int→Prop}{g:Int→Int→W}:oK C g (.int i) (.int j) S Q=(C i j∧Q (g i j) S):=rfl
def O1:=@zS
theorem zh{g:Int→Int→W}:rA g (.int i) (.int j) S Q=Q (g i j) S:=rfl
def Tt:=@zh
theorem zA:sC (.int i) (.int j) S Q=Q (.bl (decide (i≤j))) S:=rfl
def RZ:=@zA
theorem x_:sC (.str i) (.str j) S Q=Q (.bl (!decide (j.cps.toList<i.cps.toList))) S:=rfl
def Pu:=@x_
theorem zd:oQ [.bW us] S Q=Q (.int us.length) S:=rfl
def Rj:=@zd
theorem yO:oQ [.ref a] S Q=n9 S a λus=>Q (.int us.length) S:=rfl
def ZM:=@yO
theorem zI:oQ [.c6 ns] S Q=Q (.int ns.length) S:=rfl
def SB:=@zI
theorem yF:oQ [.str z] S Q=(z.length≤sizeLine∧Q (.int z.length) S):=rfl
def SA:=@yF
theorem yr:mE (.bW ws) (.int i) S Q=match nC ws i with
 |some w=>Q w S
 |none=>False:=rfl
def Bo:=@yr
theorem zw:mE (.ref a) (.int i) S Q=n9 S a λws=>match nC ws i with
 |some w=>Q w S
 |none=>False:=rfl
def Ku:=@zw
theorem Ag:mE (.c6 ns) (.int i) S Q=match nC ns i with
 |some n=>Q (.int n) S
 |none=>False:=rfl
def Xe:=@Ag
theorem yc:mE (.str x) (.int i) S Q=(x.length≤sizeLine∧match nC x.cps.toList i with
 |some c=>Q (.str ⟨#[c]⟩) S
 |none=>False):=rfl
def Th:=@yc
theorem zi{ws:List W}{lo hi:Option Int}:yz (.bW ws) lo hi S Q=Q (.bW (o8 ws lo hi)) S:=rfl
def Pc:=@zi
theorem zt{z:ah}{lo hi:Option Int}:yz (.str z) lo hi S Q=(z.length≤sizeLine∧Q (.str (cW z lo hi)) S):=rfl
def Yc:=@zt
theorem y9{a:ai}{lo hi:Option Int}:yz (.ref a) lo hi S Q=n9 S a λws=>∀p,S p=none→Q (.ref p) (bR S p (.bO (o8 ws lo hi))):=rfl
def OP:=@y9
theorem Aa{ns:List Int}{lo hi:Option Int}:yz (.c6 ns) lo hi S Q= ∀p,S p=none→Q (.ref p) (bR S p (.bO ((o8 ns lo hi).map W.int))):=rfl
def R6:=@Aa
theorem yC:rE [.bW us] S Q=Q (.bW us) S:=rfl
def ZT:=@yC
theorem zN:rE [.ref a] S Q=n9 S a λus=>Q (.bW us) S:=rfl
def VM:=@zN
theorem yQ:qz (.ref a) [y] S Q=n9 S a λxs=>xs.length<sizeLine∧Q .cc (bR S a (.bO (xs++[y]))):=rfl
def Wv:=@yQ
theorem y_:RG (.ref a) [] S Q=n9 S a λxs=>match xs[xs.length - 1]? with
 |some y=>Q y (bR S a (.bO xs.dropLast))
 |none=>False:=rfl
def PF:=@y_
theorem yS:wc (.ref a) [.bW ys] S Q=n9 S a λxs=>xs.length+ys.length≤sizeLine∧Q .cc (bR S a (.bO (xs++ys))):=rfl
def V1:=@yS
theorem zB:wc (.ref a) [.ref b] S Q=n9 S a λxs=>n9 S b λys=>xs.length+ys.length≤sizeLine∧Q .cc (bR S a (.bO (xs++ys))):=rfl
def QM:=@zB
theorem yR:zj (.ref a) ws S Q=n9 S a λxs=>xs.length+ws.length≤sizeLine∧Q .cc (bR S a (.bO (xs++ws))):=rfl
def Ry:=@yR
theorem zc:pJ (.ref a) S=n9 S a λ_=>True:=rfl
def UX:=@zc
theorem zG:u0 (.str x) S=True:=rfl
def VT:=@zG
theorem zX:xz [.bl b] S Q=Q (.int (if b then 1 else 0)) S:=rfl
def U3:=@zX
theorem zF:xz [.int i] S Q=Q (.int i) S:=rfl
def Qp:=@zF
theorem zn:Vl [.int i, .int j] S Q=Q (.int (if j > i then j else i)) S:=rfl
def ZH:=@zn
theorem ya:ud [.int i, .int j] S Q=Q (.int (if j<i then j else i)) S:=rfl
def ZO:=@ya
theorem zf:xh (.str z) ws S Q=match u6 ws with
 |some ys=>(ys.map (·.length)).sum+ys.length*z.length≤16777216∧Q (.str (dq z ys)) S
 |none=>False:=rfl
def Wg:=@zf
theorem Ai:VV (.str z) [.str y] S Q=match cU z y 0 z.length 1 with
 |i::_=>Q (.int i) S
 | []=>False:=rfl
def Qc:=@Ai
theorem zY:pk neg .cc .cc S Q=Q (.bl (!neg)) S:=rfl
def SZ:=@zY
theorem yi:pk neg (.bl a) (.bl b) S Q=Q (.bl (if neg then a != b else a == b)) S:=rfl
def Wj:=@yi
theorem Ah:pk neg (.bl a) .cc S Q=Q (.bl neg) S:=rfl
def Tf:=@Ah
theorem zV:pk neg (.bW ws) .cc S Q=Q (.bl neg) S:=rfl
def Lr:=@zV
theorem Ad:pk neg (.ref a) .cc S Q=Q (.bl neg) S:=rfl
def QC:=@Ad
theorem yg:pk neg (.int a) .cc S Q=Q (.bl neg) S:=rfl
def XV:=@yg
theorem xZ:uD neg x (.bW ws) S Q=match rF S x ws with
 |some b=>Q (.bl (if neg then !b else b)) S
 |none=>False:=rfl
def Ua:=@xZ
theorem zk:uD neg x (.ref a) S Q=n9 S a λws=>match rF S x ws with
 |some b=>Q (.bl (if neg then !b else b)) S
 |none=>False:=rfl
def Qi:=@zk
theorem zy:uD neg (.str i) (.str j) S Q=Q (.bl (if neg then !(!(cU j i 0 j.length 1).isEmpty) else !(cU j i 0 j.length 1).isEmpty)) S:=rfl
def QH:=@zy
end
theorem ED{G:li→Prop}(I:List W→mS→li→Prop)
  (step:∀w ws σ S (N:mS→li→Prop),I (w::ws) σ S→(∀σ' S' S'',Sub S'' S'→G S''→I ws σ' S''→N σ' S')→g w σ S λσ1 S1=>b E { D with nx:=N,ct:=N,bk:=D.nx } σ1 S1)
  (done:∀σ S,I [] σ S→D.nx σ S):∀(ws:List W) (σ:mS) (S:li),I ws σ S→mO g b E D G ws σ S
 | [],σ,S,h=>done σ S h
 |w::ws,σ,S,h=>step w ws σ S _ h λσ' S' S'' sb hG hI=>⟨S'',sb,hG,ED I step done ws σ' S'' hI⟩
section
variable {E:WX}{σ:mS}{S:li}{Q:WK}{QB:Bool→li→Prop}{QA:List W→li→Prop}{QI:List W→(li→Prop)→li→Prop}{QO:Option Int→li→Prop}{P:mS→li→Prop}{D:mY}{w x y:W}{ws:List W}{EX:ah→li→Prop}
def yA:=@jA.eq_def
def Df:=@wC.eq_def
def F_:=@mq.eq_def
def Hs:=@oY.eq_def
def G6:=@nA.eq_def
def XZ:=@rH.eq_def
def Zl:=@tI.eq_def
def SU:=@tm.eq_def
def Sv:=@vI.eq_def
def Y7:=@yX.eq_def
def Zk:=@nE.eq_def
def Vv:=@nB.eq_def
def RK:=@mz.eq_def
def NY:=@mU.eq_def
def OU:=@oZ.eq_def
def rm:=@mx.eq_def
def R3:=@mr.eq_def
def CO:=@o6.eq_def
def yw:=@nP.eq_def
def FU:=@pC.eq_def
def Tu:=@ae.eq_def
def Wb:=@jK.eq_def
def Vf:=@m5.eq_def
def Op:=@nI.eq_def
def N7:=@nw.eq_def
def VR:=@mG.eq_def
def t4:=@nz.eq_def
def Va:=@qY.eq_def
def Z0:(Ve t u E σ S QA)=(t E σ S λx S1=>u E σ S1 λy S2=>match x,y with
 | .ref a, .ref b=>n9 S2 a λxs=>n9 S2 b λys=>xs.length+ys.length≤sizeLine∧QA (xs++ys) S2
 |_,_=>False):=pz id id
def L3:=@oG.eq_def
def V0:=@v5.eq_def
def Ws:=@oz.eq_def
def V7:=@ou.eq_def
def P5:=@oB.eq_def
def Ub:=@wB.eq_def
def TU:=@qL.eq_def
def ON:=@wk.eq_def
def SX:=@Al.eq_def
def YQ:=@tT.eq_def
def UH:=@r8.eq_def
def ZD:=@wM.eq_def
def VO:=@uX.eq_def
def Pf:=@wu.eq_def
def WR:=@oC.eq_def
def TK:=@oq.eq_def
def Qx:=@t7.eq_def
def OI:=@py.eq_def
def ZB:=@o9.eq_def
def Qz:=@ut.eq_def
def Sj:=@td.eq_def
def Pp:=@vc.eq_def
def TW:=@tY.eq_def
def Gi:=@rK.eq_def
def Zq:=@ug.eq_def
def XL:=@wU.eq_def
def Zr:=@xw.eq_def
end
section
variable {S:li}{Q:WK}
theorem Ak:YR (.bW xs) (.int k) S Q=((xs≠ []∧ -(2 ^ 63)≤k∧k<2 ^ 63∧xs.length*k.toNat≤sizeLine)∧Q (.bW (bn k.toNat xs).flatten) S):=rfl
def Sg:=@Ak
theorem ym:wK neg y (.ref a) S Q=(match sM y with
 |some k=>tX S a λhV=>Q (.bl (if neg then !(pM hV k).isSome else(pM hV k).isSome)) S
 |none=>False):=rfl
def Sm:=@ym
theorem zz:P7 (.ref a) y S Q=(match sM y with
 |some k=>tX S a λhV=>match pM hV k with
  |some w=>Q w S
  |none=>False
 |none=>False):=rfl
def U8:=@zz
def T4:=@v_.eq_def
theorem zC:yN (.str z) [] S Q=(z.length≤5592405∧Q (.str (dZ z)) S):=rfl
def SL:=@zC
theorem FI:∀p:List Int,qG (p.map W.int)=aa p
 | []=>rfl
 |i::p=>by rw[aC,qG,FI p];rfl
def G9 (p:List Int):sM (mB p)=aa p:=FI p
def LU{P:List (List Int×W)→Prop}:tX (bR S a (.dct hV)) a P=P hV:=Er mR
end
end L2
section
def L2.wZ (d:String):Lean.MacroM (Lean.TSyntax `tactic):=do
  let a:Array iS:=(("L2.yA L2.Df L2.F_ L2.Hs L2.G6 L2.XZ L2.Zl L2.SU L2.Sv L2.Y7 L2.Zk L2.Vv L2.RK L2.NY L2.OU L2.rm L2.R3 L2.CO L2.yw L2.FU L2.Tu L2.Wb L2.Vf L2.Op L2.N7 L2.VR L2.t4 L2.Va L2.L3 L2.V0 L2.Ws L2.V7 L2.P5 L2.Ub L2.TU L2.ON L2.SX L2.YQ L2.UH L2.ZD L2.VO L2.Pf L2.WR L2.TK L2.Qx L2.OI L2.ZB L2.Qz L2.Sj L2.Pp L2.TW L2.Gi L2.Zq L2.XL L2.Zr N' M' L2.Sg L2.Sm L2.U8 L2.T4 L2.Q9 L2.SL L2.G9 L2.LU L2.yY L2.pN L2.Fb L2.Ib L2.Oq L2.Kf L2.Cj L2.MH L2.NV L2.Lc L2.Kz L2.LO L2.JN L2.Ju L2.Oz L2.Mj L2.K4 L2.J_ L2.Hk L2.GO L2.O' L2.Ir L2.Jy L2.L8 L2.KC L2.oD L2.oP L2.Ig L2.LP L2.Nu L2.oO L2.oW L2.Lb L2.Wq L2.RD L2.Re L2.TR L2.Ky L2.BZ L2.Ut L2.X9 L2.UO L2.Xw L2.ZY L2.Wh L2.UR L2.Qy L2.Fs L2.KD L2.O1 L2.Tt L2.RZ L2.Pu L2.Rj L2.ZM L2.SB L2.SA L2.Bo L2.Ku L2.Xe L2.Th L2.Pc L2.Yc L2.OP L2.R6 L2.ZT L2.VM L2.Wv L2.PF L2.V1 L2.QM L2.Ry L2.UX L2.VT L2.U3 L2.Qp L2.ZH L2.ZO L2.Wg L2.Qc L2.SZ L2.Wj L2.Tf L2.Lr L2.QC L2.XV L2.Ua L2.Qi L2.QH List.map_cons List.map_nil List.length_cons List.length_nil List.cons_append List.nil_append List.append_nil List.replicate List.getElem?_cons_zero List.getElem?_cons_succ List.getElem?_nil List.set_cons_zero List.set_cons_succ Nat.reduceAdd Nat.reduceSub true_and and_true if_true if_false Bool.false_eq_true reduceIte Bool.not_true Bool.not_false Option.join_some Option.join_none decide_eq_true_eq and_self".splitOn " ").filter (· != d)).toArray.map λs=>jd s.toName
  `(tactic| simp only [$[$a:term],*])
local macro_rules | `(tactic| walk_at "wp") => L2.wZ ""
def L2.wY:Lean.MacroM (Lean.TSyntax `tactic):=do
  let a:Array iS:=("L2.jA L2.wC L2.mq L2.oY L2.nA L2.rH L2.tI L2.tm L2.vI L2.yX L2.nE L2.nB L2.mz L2.mU L2.oZ L2.mx L2.mr L2.o6 L2.nP L2.pC L2.ae L2.jK L2.m5 L2.nI L2.nw L2.mG L2.nz L2.qY L2.oG L2.v5 L2.oz L2.ou L2.oB L2.wB L2.qL L2.wk L2.Al L2.tT L2.r8 L2.wM L2.uX L2.wu L2.oC L2.oq L2.t7 L2.py L2.o9 L2.ut L2.td L2.vc L2.tY L2.rK L2.ug L2.wU L2.xw L2.Ak L2.ym L2.zz L2.v_ L2.vC L2.zC L2.zM L2.zu L2.yT L2.yn L2.yo L2.yW L2.zg L2.An L2.xY L2.yB L2.z_ L2.zJ L2.yf L2.zR L2.zU L2.zm L2.zp L2.zS L2.zh L2.zA L2.x_ L2.zd L2.yO L2.zI L2.yF L2.yr L2.zw L2.Ag L2.yc L2.zi L2.zt L2.y9 L2.Aa L2.yC L2.zN L2.yQ L2.y_ L2.yS L2.zB L2.yR L2.zc L2.zG L2.zX L2.zF L2.zn L2.ya L2.zf L2.Ai L2.zY L2.yi L2.Ah L2.zV L2.Ad L2.yg L2.xZ L2.zk L2.zy List.map_cons List.map_nil List.length_cons List.length_nil List.cons_append List.nil_append List.append_nil List.replicate List.getElem?_cons_zero List.getElem?_cons_succ List.getElem?_nil List.set_cons_zero List.set_cons_succ Nat.reduceAdd Nat.reduceSub Option.join_some Option.join_none Bool.not_true Bool.not_false".splitOn " ").toArray.map λs=>jd s.toName
  let b:Array iS:=("N' M' L2.G9 L2.LU L2.yY L2.pN L2.Fb L2.Ib L2.Oq L2.Kf L2.Cj L2.MH L2.NV L2.Lc L2.Kz L2.LO L2.JN L2.Ju L2.Oz L2.Mj L2.K4 L2.J_ L2.Hk L2.GO L2.O' L2.Ir L2.Jy L2.L8 L2.KC L2.oD L2.oP L2.Ig L2.LP L2.Nu L2.oO L2.oW List.map_cons List.map_nil List.length_cons List.length_nil List.cons_append List.nil_append List.append_nil List.replicate List.getElem?_cons_zero List.getElem?_cons_succ List.getElem?_nil List.set_cons_zero List.set_cons_succ Nat.reduceAdd Nat.reduceSub true_and and_true if_true if_false Bool.false_eq_true reduceIte Bool.not_true Bool.not_false Option.join_some Option.join_none decide_eq_true_eq and_self".splitOn " ").toArray.map λs=>jd s.toName
  `(tactic| (first | (dsimp only [$[$a:term],*]; (try simp only [$[$b:term],*]); (try dsimp only [$[$a:term],*]); (try simp only [$[$b:term],*])) | (simp only [$[$b:term],*]; (try dsimp only [$[$a:term],*]); (try simp only [$[$b:term],*]))))
local macro_rules | `(tactic| ext) => L2.wY
namespace L2
open PySem PySem.Spec PyProof.Rows
def N':(Cb c t E σ S Q)=(t uW σ S λws S1=>c ws S1 Q λcl S2=>E cl σ S2):=pz id id
def Dy:(uR x t E D σ S)=(t E σ S λws S1=>ws.length≤sizeLine∧E x σ S1):=pz id id
def M':(BV al t u E D σ S)=(t (λcl σ' S'=>cl∈al∧u uW D σ' S') D σ S):=pz id id
def wW:Expr→Bool
 | .Starred .. =>false
 |_=>true
def qU (es:List Expr):Bool:=es.all wW
def zT:Expr→Bool
 | .ListComp .. =>false
 | .SetComp .. =>false
 | .DictComp .. =>false
 |_=>true
def vS:Expr→Bool
 | .Set .. =>false
 |_=>true
def qD {α:Type}:List α→Option α
 | []=>none
 |a::r=>bif r.isEmpty then aa a else none
def eNm:Expr→Option ah
 | .Name x _=>aa x
 |_=>none
def Af:Expr→Option (ah×List Expr)
 | .Call f es ks _=>(eNm f).bind λx=>bif ks.isEmpty&&es.all wW&& !es.isEmpty then aa (x,es) else none
 |_=>none
def Ew:Expr→Option (Option Expr×Option Expr)
 | .Slice lo hi st _=>bif st.isNone then aa (lo,hi) else none
 |_=>none
def Da:Expr→Option (Expr×Scope×bw×gH)
 | .ListComp e gs s p=>(qD gs).bind λg=>if g.is_async=0 then aa (e,s,p,g) else none
 |_=>none
def NX:List ExceptHandler→Option (ah×List aW)
 | []=>none
 | .ExceptHandler t n b _::r=>bif r.isEmpty&&n.isNone&& !b.isEmpty then t.bind λe=>(eNm e).map λx=>(x,b) else none
def JM:Expr→Bool
 | .Slice .. =>false
 |_=>true
def CY:Expr→Bool
 | .Call _ [] _ _=>false
 |_=>true
section
variable {e:Expr}{es:List Expr}{env:bP}{pos:bw}
def qc (h:wW e=true):ax (e::es) env=(false,aH e env)::ax es env:=by
 cases e<;>first |rfl |cases h
def BL (h:qU es=true):(aZ pos (ax es env)).any (·.1)=false:=by
 induction es with
 |nil=>rfl
 |cons e es ih=>
  simp only[qU,fo,bV]at h;rw[qc h.1];exact ih h.2
def E_ (h:zT e=true):d6 e tg n env=pure false:=by
 cases e<;>first |rfl |cases h
def FA (h:vS e=true):fK op e=false:=by
 cases e<;>first |rfl |cases h
def C4 (h:vS e=true) (x:aj):dA e env x=pure x:=by
 cases e<;>first |rfl |cases h
def KQ (h:JM e=true):BU e:=λo i=>by
 cases e<;>first |rfl |cases h
def ye (h:CY e=true):cK e m env t=t:=by
 cases e with
 |Call f as ks p=>
  cases as with
  |nil=>cases h
  |cons a as=>cases f<;>rfl
 |_=>rfl
end
structure Tb where
  fn:ah→Option mI
  gl:ah→Option W
  bl:List ah
  xs:List ah
  ex:List (ah×ah)
  cn:bw→List ah
  dn:ah→Bool
  nt:ah→Bool
structure Cn where
  N:List ah
  sc:Scope
  fn:Bool
  calm:Bool
structure Rg where
  e:Cn→Expr→WE
  t:Cn→Expr→WT
  l:Cn→Expr→Option WL
  s:Cn→aW→WS
def nW {α β γ δ:Type}:α→β→γ→δ→Prop:=λ_ _ _ _=>False
def uh (x:ah):List ah→Nat→Option Nat
 | [],_=>none
 |y::r,i=>if x=y then aa i else uh x r (i+1)
theorem Mo:∀{N:List ah}{j i:Nat},uh x N j=aa i→j≤i∧N[i - j]? =aa x
 | [],_,_,h=>nomatch h
 |y::r,j,i,h=>by
  unfold uh at h;split at h
  ·cases h;subst x;exact⟨aA _,by simp⟩
  ·obtain⟨h1,h2⟩:=Mo h;refine⟨by lia,?_⟩;rw[show i - j=(i - (j+1))+1 by lia]
   exact h2
def Cn.vis (c:Cn) (x:ah):Bool:=(match c.sc.names.lookup x with
 |some .local |some .cell |some .free=>true
 |_=>false)&& !(x == ("__debug__" :ah))&& !(x == ("__classdict__" :ah))
def Cn.loc (c:Cn) (x:ah):Bool:=match c.sc.names.lookup x with
 |some .local=>true
 |some .cell=>c.fn
 |_=>false
def Cn.glo (c:Cn) (x:ah):Bool:=(match c.sc.names.lookup x with
 |some .globalImplicit=>true
 |_=>false)&& !(x == ("__debug__" :ah))
def oN {α β γ δ:Type}(b:Bool) (t:α→β→γ→δ→Prop):α→β→γ→δ→Prop:=bif b then t else nW
def iA (f:Expr→WE):List Expr→WA
 | []=>ae
 |e::es=>jK (f e) (iA f es)
def iO (f:Expr→WE) (o:Option Expr):WO:=o.elim oz λe=>ou (f e)
def vj (f:aW→WS):List aW→WS
 | []=>nB
 |s::r=>bif r.isEmpty then f s else mz (f s) (vj f r)
def AL (o:BoolOp) (f:Expr→WE):List Expr→WE
 | []=>nW
 |e::r=>bif r.isEmpty then f e else match o with
  | .And=>vI (f e) (AL o f r)
  | .Or=>MD (f e) (AL o f r)
def A4 (o:BoolOp) (f:Expr→WT):List Expr→WT
 | []=>nW
 |e::r=>bif r.isEmpty then f e else match o with
  | .And=>rH (f e) (A4 o f r)
  | .Or=>tI (f e) (A4 o f r)
def Cf (c:Cn) (x:ah):WG:=(uh x c.N 0).elim nW λk=>oN (c.loc x) (mx k)
def Ay (c:Cn):List Expr→WGs
 | []=>o6
 |e::r=>(eNm e).elim nW λx=>nP (Cf c x) (Ay c r)
def iG (c:Cn) (e:Expr):WG:=match e with
 | .Name x _=>Cf c x
 | .Tuple es _ _=>oN (qU es&&c.calm) (pC (Ay c es))
 |_=>nW
def Rf (T:Tb) (e:Expr):Bool:=(eNm e).elim false T.dn
def Pi (T:Tb):Expr→Bool
 | .Call f _ _ _=>(eNm f).elim false T.nt
 |_=>false
def isT:Expr→Bool
 | .Tuple .. =>true
 |_=>false
def DJ:Expr→Bool
 | .Compare .. =>false
 | .UnaryOp o _ _=>decide (o≠ .Not)
 | .BoolOp .. =>false
 | .IfExp .. =>false
 |_=>true
def iK:Const→Option W
 | .int n=>aa (.int n)
 | .bool b=>aa (.bl b)
 | .none=>aa .cc
 | .str x=>aa (.str x)
 |_=>none
def HI:Operator→Option W2
 | .Add=>aa om
 | .Sub=>aa (rA λi j=> .int (i - j))
 | .Mult=>aa (oK rD λi j=> .int (i*j))
 | .FloorDiv=>aa (oK su λi j=> .int (i / j))
 | .Mod=>aa (oK (λ_ j=>0<j) λi j=> .int (i % j))
 | .Pow=>aa (oK Ba λi j=> .int (i ^ j.toNat))
 |_=>none
def KL (d:Bool):CmpOp→Option W2
 | .Eq=>aa (oG false)
 | .NotEq=>aa (oG true)
 | .Lt=>aa uM
 | .LtE=>aa sC
 | .Gt=>aa uA
 | .GtE=>aa Lk
 | .Is=>aa (pk false)
 | .IsNot=>aa (pk true)
 | .In=>aa (if d then wK false else uD false)
 | .NotIn=>aa (if d then wK true else uD true)
def bA:List (ah×WF):=[("len",oQ),("tuple",rE),("int",xz),("min",ud)]
def bL:List (ah×WF):=[("tuple",wk),("all",tT),("sum",v_),("dict",vC)]
def mA:List (ah×(W→li→Prop)×rB):=[("append",pJ,qz),("extend",pJ,wc)]
def mL:List (ah×(W→li→Prop)×rB):=[("extend",pJ,zj),("join",u0,xh)]
def m0:List (ah×(W→li→Prop)×rB):=[("upper",u0,yN)]
def Mn:List (ah×String):=[("int", "int"),("bool", "bool"),("str", "str"),("tuple", "tuple"),("list", "list")]
section
variable (T:Tb) (i:Rg) (c:Cn)
def CM:Expr→Option WL
 | .Subscript a b _=>(Ew b).map λq=>vc (i.e c a) (iO (i.e c) q.1) (iO (i.e c) q.2)
 |_=>none
def B1 (a:Expr) (os:List CmpOp) (bs:List Expr):WE:=(qD os).elim (match bs with
 | []=>nW
 |b::r=>(qD r).elim nW λd=>oN (decide (os=[.LtE, .LtE])&&vS d) (v5 sC sC (i.e c a) (i.e c b) (i.e c d))) λo=>(qD bs).elim nW λb=>(KL (Rf T b) o).elim nW λw=>oN (vS b&&c.calm) (mq w (i.e c a) (i.e c b))
def IR (x:ah) (es:List Expr):Option WL:=(qD es).bind λa=>(i.l c a).elim (bif decide (x= "tuple") then CM i c a else none) aa
def Kd:List Expr→WE
 | []=>nW
 |a::r=>((qD r).bind eNm).elim nW λt=>(Mn.lookup t).elim nW λs=>oN (c.glo t&&T.bl.contains t) (r8 s (i.e c a))
def iB (x:ah) (es:List Expr):WE:=bif decide (x= "isinstance") then Kd T i c es else((IR i c x es).bind λl=>(bL.lookup x).map λf=>qL f l).elim ((bA.lookup x).elim nW λf=>oN (!es.isEmpty) (wB f (iA (i.e c) es))) id
def iM (m:ah) (o:Expr):List Expr→WE
 | []=>(m0.lookup m).elim nW λq=>wM q.1 q.2 (i.e c o) ae
 |a::r=>oN r.isEmpty (((i.l c a).bind λl=>(mL.lookup m).map λq=>uX q.1 q.2 (i.e c o) l).elim ((mA.lookup m).elim nW λq=>wM q.1 q.2 (i.e c o) (iA (i.e c) [a])) id)
def NP (f:Expr) (es:List Expr) (p:bw):WE:=match f with
 | .Name x _=>oN (c.glo x&&qU es&&c.calm) ((T.fn x).elim (oN (T.bl.contains x) (iB T i c x es)) λs=>oN (!es.isEmpty) (mG s (iA (i.e c) es)))
 | .Attribute o m ap=>oN (CY o&&qU es&&(ap.endLine == p.line)) (iM i c m o es)
 |_=>nW
def G8 (e:Expr):WE:=(i.l c e).elim (match e with
  | .Name x _=>(uh x c.N 0).elim ((T.gl x).elim nW λw=>oN (c.glo x) (wC w)) λk=>oN (c.vis x) (jA k)
  | .Constant v _ _=>(iK v).elim nW wC
  | .UnaryOp o a _=>(match o with
   | .Not=>bif Pi T a then xV (i.e c a) else KW (i.e c a)
   | .USub=>qY (i.e c a)
   |_=>nW)
  | .BinOp a o b _=>(HI o).elim nW λw=>mq w (i.e c a) (i.e c b)
  | .Compare a os bs _=>B1 T i c a os bs
  | .BoolOp o es _=>AL o (i.e c) es
  | .IfExp t a b _=>yX (i.t c t) (i.e c a) (i.e c b)
  | .Tuple es _ _=>oN (qU es) (m5 (iA (i.e c) es))
  | .Subscript a b _=>(Ew b).elim (oN (JM b) ((i.l c a).elim (mq mE (i.e c a) (i.e c b)) λl=>tY l (i.e c b))) λq=>oB (i.e c a) (iO (i.e c) q.1) (iO (i.e c) q.2)
  | .Call f es ks p=>oN ks.isEmpty (NP T i c f es p)
  |_=>nW) nw
def Ko (e:Expr):WT:=match e with
 | .Compare a os bs _=>(qD os).elim nW λ_=>nA (B1 T i c a os bs)
 | .UnaryOp o a _=>bif decide (o= .Not) then tm (i.t c a) else oN (DJ e) (oY (i.e c e))
 | .BoolOp o es _=>A4 o (i.t c) es
 |e=>oN (DJ e) (oY (i.e c e))
def Kg (tg:Expr) (x:ah) (es:List Expr):Option WI:=bif decide (x= "range") then(qD es).map λa=>t7 (iA (i.e c) [a]) else bif decide (x= "enumerate")&&isT tg then(qD es).map λa=>ut (i.e c a) else bif decide (x= "zip")&&isT tg then(match es with
 | []=>none
 |a::r=>(qD r).map λb=>td (i.e c a) (i.e c b)) else none
def iI (tg e:Expr):WI:=((Af e).bind λq=>bif c.glo q.1&&T.bl.contains q.1 then Kg i c tg q.1 q.2 else none).elim ((i.l c e).elim (oq (i.e c e)) NO) id
def FB (s:Scope) (c:Cn):Scope:={ s with names:=s.names.map λ(n,k)=>if(k == .free&&c.sc.kind == .function&&c.sc.names.lookup n == aa .cell) then(n, .cell) else(n,k) }
def Fz (s:Scope) (N:List ah) (k:Nat) (fr:List Nat):Bool:=decide (s.kind= .function)&&decide N.Nodup&&decide (N.length=k+fr.length)&&(s.names.all λy=>y.2 != ci)
 &&(s.names.all λy=>y.2 != bZ.local || s.names.lookup y.1 == aa bZ.local)&&(s.names.all λy=>y.2 != bc || c.sc.names.lookup y.1 == aa ci || c.sc.names.lookup y.1 == aa bc)
 &&((N.drop k).all λx=>s.names.lookup x == aa bc)&&decide (N.drop k=fr.map λj=>c.N.getD j f_)&&(fr.all λj=>decide (j<c.N.length))
def iC (q:Expr×Scope×bw×gH):WL:=
 let N:=T.cn q.2.2.1
 let fr:=(N.filter λx=>q.2.1.names.lookup x == aa bc).filterMap λx=>uh x c.N 0
 let d:Cn:=⟨N,FB q.2.1 c,false,true⟩
 oN (Fz c q.2.1 N (N.length - fr.length) fr&&vS q.2.2.2.iter&&c.calm) (o9 (N.length - fr.length) fr (iI T i c q.2.2.2.target q.2.2.2.iter) (iG d q.2.2.2.target) (match q.2.2.2.ifs with
  | []=>py
  |t::r=>oN r.isEmpty (i.t d t)) (i.e d q.1))
def GP (e:Expr):Option WL:=match e with
 | .List es _=>bif qU es then aa (nI (iA (i.e c) es)) else none
 | .ListComp .. =>(Da e).map (iC T i c)
 | .BinOp a o b _=>(match o with
  | .Mult=>(i.l c a).map λl=>xw l (i.e c b)
  | .Add=>(i.l c a).elim ((i.l c b).map λm=>(CM i c a).elim (rK (i.e c a) m) λl=>ug l m) λl=>aa (((i.l c b).elim (CM i c b) aa).elim (wU l (i.e c b)) λm=>ug l m)
  |_=>none)
 | .Call .. =>(Af e).bind λq=>bif decide (q.1= "list")&&c.glo q.1&&T.bl.contains q.1 then(qD q.2).map λa=>Al (i.e c a) else none
 |_=>none
def iX:List aW→WS
 | []=>nW
 |s::r=>match s with
  | .Return v _=>(v.bind Af).elim nW λq=>(T.fn q.1).elim nW λs=>oN (r.isEmpty&&c.glo q.1) (mU (Cb s (iA (i.e c) q.2)))
  |_=>nW
def GN (tg e:Expr):WS:=match tg with
 | .Name x _=>(uh x c.N 0).elim nW λk=>oN (c.loc x) ((Da e).elim (oN (zT e) (mr (i.e c e) (mx k))) λq=>mr (nw (iC T i c q)) (mx k))
 | .Tuple .. =>oN (zT e&& !isT e) (mr (i.e c e) (iG c tg))
 |_=>nW
def Ic (s:aW):WS:=match s with
 | .Return v _=>v.elim HZ λe=>mU (i.e c e)
 | .Pass _=>nB
 | .Expr e _=>oN (zT e) (oZ (i.e c e))
 | .If t a b _=>nE (i.t c t) (vj (i.s c) a) (vj (i.s c) b)
 | .While t b os _=>oN os.isEmpty (wE (i.t c t) (vj (i.s c) b))
 | .For tg it b os _=>oN (os.isEmpty&&vS it&&c.calm) (oC (iI T i c tg it) (iG c tg) (vj (i.s c) b))
 | .AugAssign t o e _=>oN (decide (o= .Add)) ((eNm t).elim nW λx=>(uh x c.N 0).elim nW λk=>oN (c.loc x) (wu k (λa b=>a+b) (i.e c e)))
 | .Assign ts e _=>(qD ts).elim nW λtg=>GN T i c tg e
 | .Raise v cs _=>(v.bind Af).elim nW λq=>oN (cs.isNone&&T.xs.contains q.1&&c.glo q.1&&c.calm) (uR q.1 (iA (i.e c) q.2))
 | .Try b hs os fs p=>(NX hs).elim nW λq=>oN (os.isEmpty&&fs.isEmpty&&c.fn&&c.calm&&c.glo q.1&&((T.cn p).all λy=>T.ex.contains (y,q.1))&& !(T.cn p).isEmpty) (BV (T.cn p) (iX T i c b) (vj (i.s ⟨c.N,c.sc,true,false⟩) q.2))
 |_=>nW
end
def X2 (T:Tb) (i:Rg):Rg:=⟨G8 T i,Ko T i,GP T i,Ic T i⟩
def Uh:Rg:=⟨λ_ _=>nW,λ_ _=>nW,λ_ _=>none,λ_ _=>nW⟩
def CU (T:Tb):Nat→Rg
 |0=>Uh
 |n+1=>X2 T (CU T n)
def QL (T:Tb) (n k:Nat) (N:List ah) (st:aW):mI:=nz n k (vj ((CU T 40).s ⟨N,qq st,true,true⟩) (ue st))
structure En where
  eNm:ah
  st:aW
  N:List ah
  k:Nat
  c:Nat→mI
def En.ps (e:En):List ah:=e.N.take e.k
def En.ok (e:En):Bool:=decide ((qq e.st).kind= .function)&& !(qq e.st).isCoroutine&& !(qq e.st).isGenerator&&decide e.N.Nodup&&decide (e.N.take e.ps.length=e.ps)&&decide (e.ps.length=e.k)&&decide (e.k≤6)
 &&(e.ps.all λx=>decide ((qq e.st).names.lookup x=aa .local) || decide ((qq e.st).names.lookup x=aa .cell))&&(qq e.st).names.all λy=>y.2 != .free
def En.bd (e:En) (kV doc pm:aj) (an:Option ai) (cdv ct:aj) (vs:List aj):cg (List (ah×aj)):=iV (dH e.eNm e.eNm (xp e.st) (ue e.st) (qq e.st) .none kV doc pm an cdv ct) ⟨vs.take e.k,[]⟩
def En.rd (e:En) (T:Tb):mI:=QL T e.N.length e.k e.N e.st
def lkT (tab:List En) (r:Nat) (x:ah):Option mI:=(tab.map λe=>(e.eNm,e.c r)).lookup x
structure V2 (T:Tb) (r:Nat) (X:Cx):Prop where
  fn:∀x s,T.fn x=aa s→ ∃f fd ps,oU X.prog X.w X.K X.mg X.base (si X.prog X.w) r f fd ps (rL X.K s)∧X.mg x=aa (.ref f)∧fD X.K (.ref f)=true∧pj X.K fd ps []
  gl:∀x w,T.gl x=aa w→(∃i u,w= .int i∧X.mg x=aa (.int i u))∨ ∃i u,w= .str i∧X.mg x=aa (.str i u)
  bl:∀x∈T.bl,X.mg x=none
  xs:∀x∈T.xs,∃C,qm X.K x C∧X.mg x=aa (.ref C)
  ex:∀p∈T.ex,∃C D,qm X.K p.1 C∧X.mg p.2=aa (.ref D)∧e_ X.K (.ref C) (.ref D)=aa true
structure nT (T:Tb) (r:Nat) (X:Cx) (c:Cn):Prop where
  g:V2 T r X
  N:X.N=c.N
  sc:X.env.scope=c.sc
  nd:c.N.Nodup
  fn:X.fn=λ_=>c.fn
  hr:c.calm=true→oj r X.A
  calm:X.calm=c.calm
  st:c.fn=true→X.stack=X.env::X.outer∧X.env.frame=aa X.env.locals
structure Rg.Ok (T:Tb) (r:Nat) (i:Rg):Prop where
  e:∀{X c e},nT T r X c→JE X e (i.e c e)
  t:∀{X c e},nT T r X c→JT X e (i.t c e)
  l:∀{X c e l},nT T r X c→i.l c e=aa l→JL X e l
  s:∀{X c s},nT T r X c→JS X s (i.s c s)
section
variable {T:Tb}{r:Nat}{X:Cx}{c:Cn}{i:Rg}{e a b:Expr}{es:List Expr}{x:ah}{pos p:bw}{k:Nat}
def sj:JE X e nW:=λ_ _ _ _ _ _ _ _ ⟨_,_,_,_,_,h,_⟩=>h.elim
def D0:JT X e nW:=λ_ _ _ _ _ _ _ _ ⟨_,_,_,_,_,h,_⟩=>h.elim
def Uz:JL X e nW:=λ_ _ _ _ _ _ _ _ ⟨_,_,_,_,_,h,_⟩=>h.elim
def Bi:JG X e nW:=λ_ _ _ _ _ _ _ _ _ _ _ ⟨_,_,_,_,_,_,_,h,_⟩=>h.elim
def yJ:JS X s nW:=P9
def Zw:vq X es nW:=λ_ _ _ _ _ _ _ _ ⟨_,_,_,_,_,h,_⟩=>h.elim
def yq:wf X ss nW:=λ_ _ _ _ _ _ _ _ ⟨_,_,_,_,_,h,_⟩=>h.elim
def nT.at_ (F:nT T r X c) (h:uh x c.N 0=aa k):X.N[k]? =aa x:=by rw[F.N];exact(Mo h).2
def nT.ndX (F:nT T r X c):X.N.Nodup:=by rw[F.N];exact F.nd
def nT.vis (F:nT T r X c) (h:c.vis x=true):wo X.env.scope x∧(x == ("__debug__" :ah))=false∧(x == ("__classdict__" :ah))=false:=by
 unfold Cn.vis at h;rw[bV,bV,fJ,fJ]at h;obtain⟨⟨h1,h2⟩,h3⟩:=h;refine⟨?_,h2,h3⟩;rw[F.sc];split at h1
 ·exact .inl ‹_›
 ·exact .inr (.inl ‹_›)
 ·exact .inr (.inr ‹_›)
 ·cases h1
def nT.loc (F:nT T r X c) (h:c.loc x=true):tp X.env.scope x∧(X.fn x=true∨X.env.scope.names.lookup x=aa .local):=by
 unfold Cn.loc at h;rw[F.sc,F.fn];split at h
 ·exact⟨.inl ‹_›, .inr ‹_›⟩
 ·exact⟨.inr ‹_›, .inl h⟩
 ·cases h
def nT.glo (F:nT T r X c) (h:c.glo x=true):Gl X x∧(x == ("__debug__" :ah))=false:=by
 unfold Cn.glo at h;rw[bV,fJ]at h;refine⟨?_,h.2⟩;unfold Gl bP.kindOf;rw[F.sc];have h1:=h.1;split at h1
 ·assumption
 ·cases h1
def nT.blt (F:nT T r X c) (h:T.bl.contains x=true):X.mg x=none:=F.g.bl x (gy.mp h)
def rb (h:qU (e::es)=true):wW e=true∧qU es=true:=by
 simpa [qU]using h
section
variable {α β γ δ:Type}{b:Bool}
def sO{t:α→β→γ→δ→Prop}{P:(α→β→γ→δ→Prop)→Prop}(h0:P nW) (h:b=true→P t):P (oN b t):=by
 cases b with
 |true=>exact h rfl
 |false=>exact h0
def pI{f:α→β}{P:β→Prop}(h0:o=none→P d) (h:∀a,o=aa a→P (f a)):P (o.elim d f):=by
 cases o with
 |none=>exact h0 rfl
 |some a=>exact h a rfl
def xR{P:α→Prop}(h0:b=false→P u) (h:b=true→P t):P (bif b then t else u):=by
 cases b with
 |true=>exact h rfl
 |false=>exact h0 rfl
def uJ{t:Option α}{a:α}(h:(bif b then t else none)=aa a):b=true∧t=aa a:=by
 cases b with
 |true=>exact⟨rfl,h⟩
 |false=>cases h
def s_{f:α→β}(h:o.map f=aa y):∃a,o=aa a∧f a=y:=Option.map_eq_some_iff.mp h
def sK{o:Option α}{f:α→Option β}{y:β}(h:o.bind f=aa y):∃a,o=aa a∧f a=aa y:=Option.bind_eq_some_iff.mp h
def tu{l:List α}{a:α}(h:qD l=aa a):l=[a]:=by
 cases l with
 |nil=>cases h
 |cons x r=>
  obtain⟨h1,h2⟩:=uJ h;cases h2;rw[cy.mp h1]
end
def vn{α:Type}{o:Option α}{f:α→WE}(h:∀a,o=aa a→JE X e (f a)):JE X e (o.elim nW f):=pI (P:=JE X e) (λ_=>sj) h
def rW{b:Bool}{t:WE}(h:b=true→JE X e t):JE X e (oN b t):=sO (P:=JE X e) sj h
def xI{α:Type}{s:aW}{o:Option α}{f:α→WS}(h:∀a,o=aa a→JS X s (f a)):JS X s (o.elim nW f):=pI (P:=JS X s) (λ_=>yJ) h
def tO{b:Bool}{s:aW}{t:WS}(h:b=true→JS X s t):JS X s (oN b t):=sO (P:=JS X s) yJ h
def v7{α:Type}{a:α}{P:Prop}(h:none=aa a):P:=nomatch h
def MT (h:isT e=true):∃es k p,e= .Tuple es k p:=by
 cases e with
 |Tuple es k p=>exact⟨es,k,p,rfl⟩
 |_=>exact absurd h cV
def nS{a b:Bool}(h:(a&&b)=true):a=true∧b=true:=bV _ _▸h
def yU (h:eNm e=aa x):∃p,e= .Name x p:=by
 cases e with
 |Name y p=>cases h;exact⟨_,rfl⟩
 |_=>exact v7 h
def BR{q:ah×List Expr}(h:Af e=aa q):∃p p' a r,e= .Call (.Name q.1 p) (a::r) [] p'∧q.2=a::r∧qU (a::r)=true:=by
 cases e with
 |Call f es ks p'=>
  obtain⟨x,h1,h2⟩:=sK h;obtain⟨g2,h3⟩:=uJ h2;obtain⟨g3,h4⟩:=nS g2;obtain⟨p,rfl⟩:=yU h1;cases h3;cases es with
  |nil=>cases h4
  |cons a r=>exact⟨p,p',a,r,by rw[cy.mp (nS g3).1],rfl,(nS g3).2⟩
 |_=>exact v7 h
def KN{q:Option Expr×Option Expr}(h:Ew e=aa q):∃p,e= .Slice q.1 q.2 none p:=by
 cases e with
 |Slice lo hi st p=>
  obtain⟨h1,h2⟩:=uJ h;cases h2;cases st with
  |none=>exact⟨p,rfl⟩
  |some=>cases h1
 |_=>exact v7 h
def Ik{q:Expr×Scope×bw×gH}(h:Da e=aa q):e= .ListComp q.1 [⟨q.2.2.2.target,q.2.2.2.iter,q.2.2.2.ifs,0⟩] q.2.1 q.2.2.1:=by
 cases e with
 |ListComp e gs s p=>
  obtain⟨g,h1,h2⟩:=sK h;rw[tu h1];obtain⟨t,it,fs,n⟩:=g;dsimp only at h2;split at h2
  ·cases h2;subst n;rfl
  ·cases h2
 |_=>exact v7 h
def VG (h:NX hs=aa q):∃p p' a r,hs=[.ExceptHandler (aa (.Name q.1 p)) none (a::r) p']∧q.2=a::r:=by
 cases hs with
 |nil=>cases h
 |cons z r=>
  obtain⟨t,n,b,p'⟩:=z;obtain⟨h1,h2⟩:=uJ h;obtain⟨g1,h3⟩:=nS h1;obtain⟨e,rfl,g2⟩:=sK h2;obtain⟨x,h5,h6⟩:=s_ g2;obtain⟨p,rfl⟩:=yU h5;cases h6;cases b with
  |nil=>cases h3
  |cons a b=>
   cases n with
   |none=>exact⟨p,p',a,b,by rw[cy.mp (nS g1).1],rfl⟩
   |some=>cases(nS g1).2
theorem tz (ok:i.Ok T r) (F:nT T r X c):∀{es:List Expr},qU es=true→JA X es (iA (i.e c) es)
 | [],_=>VL
 |_::_,h=>X_ (ok.e F) (tz ok F (rb h).2) (qc (rb h).1)
def AA (ok:i.Ok T r) (F:nT T r X c):JO X o (iO (i.e c) o):=by
 cases o with
 |none=>exact ZL
 |some=>exact SJ (ok.e F)
theorem vE (ok:i.Ok T r) (F:nT T r X c):∀{ss:List aW},sy X ss (vj (i.s c) ss)
 | []=>UI
 |s::ss=>xR (P:=sy X (s::ss)) (λ_=>OV (ok.s F) (vE ok F)) λh=>by rw[cy.mp h];exact Zo (ok.s F)
theorem Es (ok:i.Ok T r) (F:nT T r X c):∀{es:List Expr},JE X (.BoolOp o es pos) (AL o (i.e c) es)
 | []=>sj
 | [_]=>U' (ok.e F)
 |a::b::es=>by
  cases o
  ·exact VZ (ok.e F) (Es ok F)
  ·exact VJ (ok.e F) (Es ok F)
theorem F1 (ok:i.Ok T r) (F:nT T r X c):∀{o:BoolOp}{es:List Expr},JW X (.BoolOp o es pos) (A4 o (i.t c) es)
 |_,[]=>λ_ _ _ _ _ _ _ _ _ ⟨_,_,_,_,_,h,_⟩=>h.elim
 | .And,[_]=>YM (ok.t F)
 | .Or,[_]=>OF (ok.t F)
 | .And,_::_::_=>UA (ok.t F) (F1 ok F)
 | .Or,_::_::_=>UF (ok.t F) (F1 ok F)
def BM (h:wW e=true):cb (e::es) env=(false,assign e env)::cb es env:=by
 cases e<;>first |rfl |cases h
def NW (F:nT T r X c):JG X (.Name x pos) (Cf c x):=pI (P:=JG X (.Name x pos)) (λ_=>Bi) λk h=>sO Bi λq=>SG F.ndX (F.at_ h) (F.loc q).1 (F.loc q).2
def Tp{P:mS→li→Prop}:Cf c x w σ S P→ ∃σ' S',P σ' S':=pI (P:=λ(t:WG)=>t w σ S P→ ∃σ' S',P σ' S') (λ_ h=>h.elim) λk _=>sO (P:=λ(t:WG)=>t w σ S P→ ∃σ' S',P σ' S') (λh=>h.elim) λ_ h=>⟨_,_,h⟩
def TV:vF X es nW:=λ_ _ _ _ _ _ _ _ _ _ _ ⟨_,_,_,_,_,_,_,h,_⟩=>h.elim
theorem IJ (F:nT T r X c):∀{es:List Expr},qU es=true→vF X es (Ay c es)∧(cb es X.env).length=es.length∧(cb es X.env).findIdx? (·.1)=none∧ ∀ws σ S P,Ay c es ws σ S P→ws.length=es.length
 | [],_=>⟨Z',rfl,rfl,λws _ _ _ h=>by cases ws with |nil=>rfl |cons=>exact h.elim⟩
 |e::es,h=>by
  obtain⟨h1,h2⟩:=rb h;obtain⟨g1,g2,g3,g4⟩:=IJ F h2;refine⟨pI (P:=vF X (e::es)) (λ_=>TV) λx q=>?_,by rw[BM h1,aT,g2];rfl,by rw[BM h1,List.findIdx?_cons,g3];rfl,λws σ S P=>pI (P:=λ(t:WGs)=>t ws σ S P→ws.length=es.length+1) (λ_ h=>h.elim) λx q h=>?_⟩
  ·obtain⟨p,rfl⟩:=yU q;exact Vk (NW F) g1 (by rw[BM h1];rfl)
  ·cases ws with
   |nil=>exact h.elim
   |cons w ws=>obtain⟨σ',S',q⟩:=Tp h;rw[aT,g4 _ _ _ _ q]
def B3 (F:nT T r X c):JG X e (iG c e):=by
 cases e with
 |Name=>exact NW F
 |Tuple es k p=>
  refine sO (P:=JG X (.Tuple es k p)) Bi λh=>?_;obtain⟨g1,g2,g3,g4⟩:=IJ F (nS h).1;exact Rm g1 g4 g2 g3 (F.calm.trans (nS h).2)
 |_=>exact Bi
def Pr (h:HI o=aa w) (ha:JE X a ta) (hb:JE X b tb):JE X (.BinOp a o b pos) (mq w ta tb):=by
 cases o<;>cases h
 ·exact U9 ha hb
 ·exact Wo ha hb
 ·exact SF ha hb
 ·exact Xf ha hb
 ·exact Tk ha hb
 ·exact PV ha hb
def Yl (F:nT T r X c) (hc:c.calm=true) (h:KL d o=aa w):∃R,n_ X (bB o) R∧qZ X.K R w:=by
 have hu:=(F.hr hc).units;cases o<;>cases h
 ·exact⟨_,Zv (by lia),M8⟩
 ·exact⟨_,QX (by lia),M8⟩
 ·exact⟨_,Px,EG⟩
 ·exact⟨_,tf.or FF,FW⟩
 ·exact⟨_,QR,EG⟩
 ·exact⟨_,Qw,EG⟩
 ·exact⟨_,Ro,SS⟩
 ·exact⟨_,Pq,Vp⟩
 ·cases d
  ·exact⟨_,sf.or (SV (by lia)),λH x y wx wy S Q QW rx ry hS h hQ=>MY rx ry hS h hQ⟩
  ·exact⟨_,RF (by lia),OE⟩
 ·cases d
  ·exact⟨_,qx.or (PL (by lia)),λH x y wx wy S Q QW rx ry hS h hQ=>MY rx ry hS h hQ⟩
  ·exact⟨_,Rl (by lia),OE⟩
def QZ (h:vS b=true):gY [.LtE, .LtE] [a,b]=false:=FA (op:= .LtE) h
def JX (ok:i.Ok T r) (F:nT T r X c) {os:List CmpOp}:JE X (.Compare a os bs pos) (B1 T i c a os bs)∧ ∀o,qD os=aa o→JT X (.Compare a os bs pos) (nA (B1 T i c a os bs)):=by
 have no:JT X (.Compare a os bs pos) (nA nW):=λ_ _ _ _ _ _ _ _ ⟨_,_,_,_,_,h,_⟩=>h.elim;refine pI (P:=λt=>JE X (.Compare a os bs pos) t∧ ∀o,qD os=aa o→JT X (.Compare a os bs pos) (nA t)) (λh=>⟨?_,λo q=>by rw[h]at q;cases q⟩) λo h=>?_
 ·cases bs with
  |nil=>exact sj
  |cons b s=>
   refine vn λd q=>rW λz=>?_;rw[tu q,of_decide_eq_true (nS z).1];exact Pv (ok.e F) (ok.e F) (ok.e F) (QZ (nS z).2)
 ·refine pI (P:=λt=>JE X (.Compare a os bs pos) t∧ ∀o,qD os=aa o→JT X (.Compare a os bs pos) (nA t)) (λ_=>⟨sj,λ_ _=>no⟩) λb q=>pI (P:=λt=>JE X (.Compare a os bs pos) t∧ ∀o,qD os=aa o→JT X (.Compare a os bs pos) (nA t)) (λ_=>⟨sj,λ_ _=>no⟩) λw z=>sO (P:=λt=>JE X (.Compare a os bs pos) t∧ ∀o,qD os=aa o→JT X (.Compare a os bs pos) (nA t)) ⟨sj,λ_ _=>no⟩ λy=>?_;obtain⟨R,h1,h2⟩:=Yl F (nS y).2 z;rw[tu h,tu q];exact⟨WJ h1 h2 (ok.e F) (ok.e F) (FA (nS y).1),λ_ _=>W7 h1 h2 (ok.e F) (ok.e F) (FA (nS y).1)⟩
def EE (ok:i.Ok T r) (F:nT T r X c) (h:CM i c e=aa l):JL X e l:=by
 cases e with
 |Subscript a b p=>
  obtain⟨q,h1,rfl⟩:=s_ h;obtain⟨p',rfl⟩:=KN h1;exact Wk (ok.e F) (AA ok F) (AA ok F)
 |_=>exact v7 h
def QQ (ok:i.Ok T r) (F:nT T r X c) (h:IR i c x es=aa l):∃a,es=[a]∧JL X a l:=by
 obtain⟨a,h1,h2⟩:=sK h;refine⟨a,tu h1,?_⟩;cases q:i.l c a with
 |none=>rw[q]at h2;exact EE ok F (uJ h2).2
 |some m=>rw[q]at h2;cases h2;exact ok.l F q
def u8{α:Type}{l:List (ah×α)}{y:α}(h:l.lookup x=aa y):(x,y)∈l:=by
 induction l with
 |nil=>cases h
 |cons p l ih=>
  obtain⟨z,w⟩:=p;rw[cu]at h;split at h
  ·cases h;rename_i e;rw[beq_iff_eq]at e;subst e;exact aK
  ·exact aI _ (ih h)
def Uw (ok:i.Ok T r) (F:nT T r X c) (hg:Gl X "isinstance") (hm:X.mg "isinstance" =none) (hs:qU es=true):JE X (.Call (.Name "isinstance" p) es [] pos) (Kd T i c es):=by
 cases es with
 |nil=>exact sj
 |cons a s=>
  refine vn λt q=>vn λs h1=>rW λh=>?_;obtain⟨b,q1,q2⟩:=sK q;obtain⟨p2,rfl⟩:=yU q2;rw[tu q1];have ha:=(rb hs).1;have hh:=u8 h1;have k:=λT' hv hn hd hk=>VH (T':=T') (p:=p) (pos:=pos) hg hm (F.glo (nS h).1).1 (F.blt (nS h).2) hv (ok.e F (e:=a)) hn hd hk (qc ha) (p2:=p2);simp only[Mn,az,dC,bq,or_false]at hh;obtain ⟨rfl,rfl⟩ |⟨rfl,rfl⟩ |⟨rfl,rfl⟩ |⟨rfl,rfl⟩ |⟨rfl,rfl⟩:=hh
  ·exact k _ boot_int (by decide) (by decide) (zq _ (by simp))
  ·exact k _ boot_bool (by decide) (by decide) (zq _ (by simp))
  ·exact k _ boot_str (by decide) (by decide) (zq _ (by simp))
  ·exact k _ boot_tuple (by decide) (by decide) (zq _ (by simp))
  ·exact k _ boot_list (by decide) (by decide) (zq _ (by simp))
def Yo (ok:i.Ok T r) (F:nT T r X c) (hg:Gl X x) (hm:X.mg x=none) (hs:qU es=true) (hc:c.calm=true):JE X (.Call (.Name x p) es [] pos) (iB T i c x es):=by
 have cl:=F.calm.trans hc;refine xR (P:=JE X _) (λ_=>pI (P:=JE X _) (λ_=>vn λf h2=>rW λq=>?_) λt h=>?_) λh=>?_
 ·cases es with
  |nil=>cases q
  |cons a as=>
   obtain⟨ha,hb⟩:=rb hs;have hh:=u8 h2;have ia:=tz ok F hs;have sa:=qc (es:=as) (env:=X.env) ha;have sb:=BL (pos:=pos) (env:=X.env) hb;simp only[bA,az,dC,bq,or_false]at hh;obtain ⟨rfl,rfl⟩ |⟨rfl,rfl⟩ |⟨rfl,rfl⟩ |⟨rfl,rfl⟩:=hh
   ·exact T7 hg hm ia sa sb
   ·exact R7 hg hm ia sa sb
   ·exact Yv hg hm ia sa sb
   ·exact SQ hg hm ia sa sb cl
 ·obtain⟨l,h1,h3⟩:=sK h;obtain⟨f,h2,rfl⟩:=s_ h3;obtain⟨a,rfl,hl⟩:=QQ ok F h1;have sa:=qc (es:=[]) (env:=X.env) (rb hs).1;have hh:=u8 h2;simp only[bL,az,dC,bq,or_false]at hh;obtain ⟨rfl,rfl⟩ |⟨rfl,rfl⟩ |⟨rfl,rfl⟩ |⟨rfl,rfl⟩:=hh
  ·exact OW hg hm hl sa
  ·exact Ri hg hm hl sa rfl cl
  ·exact ZR hg hm hl sa rfl cl
  ·exact UZ (F.hr hc) hg hm hl sa rfl cl
 ·cases of_decide_eq_true h;exact Uw ok F hg hm hs
def Ck (h:wW a=true):((aZ pos (ax [a] env)).all (λx=> !x.1)&&(dN pos (dM [] env)).all (λx=>x.1.isSome)&&decide ([a].length+([]:List b6).length+(if([]:List b6).isEmpty then 0 else 1)<30))=true:=by
 rw[qc h];rfl
def Xz (ok:i.Ok T r) (F:nT T r X c) (hz:CY o=true) (hs:qU es=true) (hl:(ap.endLine == pos.line)=true):JE X (.Call (.Attribute o m ap) es [] pos) (iM i c m o es):=by
 cases es with
 |nil=>
  refine vn λq h=>?_;have hh:=u8 h;simp only[m0,az,dC,bq,or_false]at hh;obtain⟨rfl,rfl⟩:=hh;exact Wf (ok.e F) (ye hz) hl
 |cons a as=>
  have ha:=(rb hs).1;refine rW λz=>?_;rw[cy.mp z]at hs⊢;refine pI (P:=JE X _) (λ_=>vn λq h=>?_) λt h=>?_
  ·have hh:=u8 h;simp only[mA,az,dC,bq,or_false]at hh;obtain ⟨rfl,rfl⟩ |⟨rfl,rfl⟩:=hh
   ·exact XO (ok.e F) (tz ok F hs) (ye hz) (Ck ha) hl (qc ha)
   ·exact X1 (ok.e F) (tz ok F hs) (ye hz) (Ck ha) hl (qc ha)
  ·obtain⟨l,h1,h2⟩:=sK h;obtain⟨q,h3,rfl⟩:=s_ h2;have hh:=u8 h3;simp only[mL,az,dC,bq,or_false]at hh;obtain ⟨rfl,rfl⟩ |⟨rfl,rfl⟩:=hh
   ·exact Qt (ok.e F) (ok.l F h1) (ye hz) (Ck ha) hl (qc ha)
   ·exact Yt (ok.e F) (ok.l F h1) (ye hz) (Ck ha) hl (qc ha)
def Vh (ok:i.Ok T r) (F:nT T r X c):JE X (.Call f es [] pos) (NP T i c f es pos):=by
 cases f with
 |Name x p=>
  refine rW λh=>?_;obtain⟨h,h3⟩:=nS h;obtain⟨h1,h2⟩:=nS h;obtain⟨g1,g2⟩:=F.glo h1;refine pI (P:=JE X _) (λ_=>rW λh=>Yo ok F g1 (F.blt h) h2 h3) λs q=>rW λh=>?_;obtain⟨f,fd,ps,k1,k2,k3,k4⟩:=F.g.fn _ _ q;cases es with
  |nil=>cases h
  |cons a as=>exact ZZ k1 (F.hr h3) g1 k2 k3 k4 (tz ok F h2) g2 (qc (rb h2).1) (BL (rb h2).2)
 |Attribute o m ap=>exact rW λh=>Xz ok F (nS (nS h).1).1 (nS (nS h).1).2 (nS h).2
 |_=>exact sj
def Q1 (ok:i.Ok T r) (F:nT T r X c):JE X e (G8 T i c e):=by
 refine pI (P:=JE X e) (λ_=>?_) λl h=>Oh (ok.l F h);cases e with
 |Name x p=>
  refine pI (P:=JE X _) (λ_=>vn λw h=>rW λq=>?_) λk h=>rW λq=>?_
  ·obtain⟨h1,h2⟩:=F.glo q;obtain ⟨n,u,rfl,h3⟩ |⟨n,u,rfl,h3⟩:=F.g.gl _ _ h
   ·exact Us h1 h3 h2
   ·exact UD h1 h3 h2
  ·obtain⟨h1,h2,h3⟩:=F.vis q;exact jv _ (F.at_ h) h1 h2 h3
 |Constant v k p=>
  cases v with
  |int=>exact Tv
  |bool=>exact Q0
  |none=>exact SH
  |str=>exact Yw
  |_=>exact sj
 |UnaryOp o a p=>
  cases o with
  |Not=>exact xR (P:=JE X _) (λ_=>VA (ok.e F)) λ_=>Xq (ok.e F)
  |USub=>exact O_ (ok.e F)
  |_=>exact sj
 |BinOp a o b p=>exact vn λw h=>Pr h (ok.e F) (ok.e F)
 |Compare=>exact(JX ok F).1
 |BoolOp=>exact Es ok F
 |IfExp=>exact Tz (ok.t F) (ok.e F) (ok.e F)
 |Tuple es k p=>exact rW λh=>Y6 (tz ok F h)
 |Subscript a b p=>
  refine pI (P:=JE X _) (λ_=>rW λh=>pI (P:=JE X _) (λ_=>U7 (ok.e F) (ok.e F) (KQ h)) λl q=>Sn (ok.l F q) (ok.e F) (KQ h)) λq h=>?_;obtain⟨p',rfl⟩:=KN h;exact Py (ok.e F) (AA ok F) (AA ok F)
 |Call f es ks p=>exact rW λh=>by rw[cy.mp h];exact Vh ok F
 |_=>exact sj
def MQ (ok:i.Ok T r) (F:nT T r X c):JT X e (oN (DJ e) (oY (i.e c e))):=sO (P:=JT X e) D0 λh=>OS (ok.e F) λw=>by
 cases e with
 |UnaryOp o a p=>cases o<;>first |rfl |cases h
 |_=>first |rfl |cases h
def OZ (ok:i.Ok T r) (F:nT T r X c):JT X e (Ko T i c e):=by
 cases e with
 |Compare a os bs p=>exact pI (P:=JT X _) (λ_=>D0) λo h=>(JX ok F).2 o h
 |UnaryOp o a p=>exact xR (P:=JT X _) (λ_=>MQ ok F) λh=>by cases of_decide_eq_true h;exact Sl (ok.t F)
 |BoolOp=>exact(F1 ok F).jt
 |_=>exact MQ ok F
def C7 (ok:i.Ok T r) (F:nT T r X c):JI X tg e (iI T i c tg e):=by
 refine pI (P:=JI X tg e) (λ_=>pI (P:=JI X tg e) (λ_=>WB (ok.e F)) λl h=>Q8 (ok.l F h)) λt h=>?_;obtain⟨⟨x,es⟩,h1,h2⟩:=sK h;obtain⟨p,p',a,s,rfl,rfl,h3⟩:=BR h1;obtain⟨h2,h4⟩:=uJ h2;obtain⟨q1,q2⟩:=nS h2;obtain⟨q3,q5⟩:=rb h3;have g1:=(F.glo q1).1;have g2:=F.blt q2;unfold Kg at h4
 revert h4
 refine xR (P:=λo=>o=aa t→JI X tg _ t) (λ_=>xR (P:=λo=>o=aa t→JI X tg _ t) (λ_ h=>?_) λz h=>?_) λz h=>?_
 ·obtain⟨z,h⟩:=uJ h;obtain⟨z,z2⟩:=nS z;cases of_decide_eq_true z;obtain⟨b,y,rfl⟩:=s_ h;cases tu y;have q4:=(rb q5).1;obtain⟨_,_,_,rfl⟩:=MT z2;exact Pk g1 g2 (ok.e F) (ok.e F) (by rw[qc q3,qc q4];rfl) (qc q4) (qc q3) (qc q4)
 ·obtain⟨z,z2⟩:=nS z;cases of_decide_eq_true z;obtain⟨b,y,rfl⟩:=s_ h;cases tu y;obtain⟨_,_,_,rfl⟩:=MT z2;exact X8 g1 g2 (ok.e F) (qc q3) (qc q3)
 ·cases of_decide_eq_true z;obtain⟨b,y,rfl⟩:=s_ h;cases tu y;exact W6 g1 g2 (tz ok F h3) (qc q3)
def Jh (F:nT T r X c) (h:Fz c s N k fr=true):ny X.nox s N k fr:=by
 simp only[Fz,bV,decide_eq_true_eq]at h;obtain⟨⟨⟨⟨⟨⟨⟨⟨h1,h2⟩,h3⟩,h4⟩,h5⟩,h6⟩,h7⟩,h8⟩,h9⟩:=h;refine⟨h1,h2,h3,h4,h5,?_,h7,?_,?_⟩
 ·show(s.names.all λy=>y.2 != bc || X.env.scope.names.lookup y.1 == aa ci || X.env.scope.names.lookup y.1 == aa bc)=true;rw[F.sc];exact h6
 ·show N.drop k=fr.map λj=>X.N.getD j f_;rw[F.N];exact h8
 ·show(fr.all λj=>decide (j<X.N.length))=true;rw[F.N];exact h9
def nT.nox (F:nT T r X c):nT T r X.nox c:=⟨⟨F.g.fn,F.g.gl,F.g.bl,F.g.xs,F.g.ex⟩,F.N,F.sc,F.nd,F.fn,F.hr,F.calm,F.st⟩
def nT.comp (F:nT T r X c) {s:Scope}{N:List ah}(hN:N.Nodup) (hc:c.calm=true) (s₀:am) (H₀:Hp) (fp:List ai) (pn:List (ai×aG)):nT T r (pQ X.nox s N s₀ H₀ fp pn) ⟨N,FB s c,false,true⟩:=
 ⟨⟨F.g.fn,F.g.gl,F.g.bl,F.g.xs,F.g.ex⟩,rfl,(by show relabel s X.env=_;unfold relabel FB bP.kindOf;rw[F.sc]),hN,rfl,λ_=>F.hr hc,F.calm.trans hc,λh=>nomatch h⟩
def Hl (ok:i.Ok T r) (F:nT T r X c):vq X ifs (match ifs with
  | []=>py
  |t::r=>oN r.isEmpty (i.t c t)):=by
 cases ifs with
 |nil=>exact QN
 |cons t s=>exact sO (P:=vq X _) Zw λh=>by rw[cy.mp h];exact RV (ok.t F)
def NG (ok:i.Ok T r) (F:nT T r X c) (q:Expr×Scope×bw×gH):JL X (.ListComp q.1 [⟨q.2.2.2.target,q.2.2.2.iter,q.2.2.2.ifs,0⟩] q.2.1 q.2.2.1) (iC T i c q):=by
 refine sO (P:=JL X _) Uz λh=>?_;have S:=Jh F (nS (nS h).1).1;have F':=F.comp (s:=q.2.1) S.nd (nS h).2;exact Y4 S (C7 ok F.nox) (λ_ _ _ _=>B3 (F' _ _ _ _)) (λ_ _ _ _=>Hl ok (F' _ _ _ _)) (λ_ _ _ _=>ok.e (F' _ _ _ _)) (C4 (nS (nS h).1).2) (F.calm.trans (nS h).2)
def V9 (ok:i.Ok T r) (F:nT T r X c) (h:GP T i c e=aa l):JL X e l:=by
 cases e with
 |List es p=>obtain⟨h1,h2⟩:=uJ h;cases h2;exact T1 (tz ok F h1)
 |ListComp=>obtain⟨q,h1,rfl⟩:=s_ h;rw[Ik h1];exact NG ok F q
 |BinOp a o b p=>
  cases o with
  |Mult=>obtain⟨m,h1,rfl⟩:=s_ h;exact Yx (ok.l F h1) (ok.e F)
  |Add=>
   revert h
   refine pI (P:=λo=>o=aa l→JL X _ l) (λ_ h=>?_) λm q h=>?_
   ·obtain⟨m,h1,rfl⟩:=s_ h;exact pI (P:=JL X _) (λ_=>Vr (ok.e F) (ok.l F h1)) λn z=>GE (EE ok F z) (ok.l F h1)
   ·cases h;refine pI (P:=JL X _) (λ_=>Tj (ok.l F q) (ok.e F)) λn z=>GE (ok.l F q) ?_
    revert z
    exact pI (P:=λo=>o=aa n→JL X b n) (λ_ h=>EE ok F h) λk y h=>by cases h;exact ok.l F y
  |_=>exact v7 h
 |Call f es ks p=>
  obtain⟨⟨x,as⟩,h1,h2⟩:=sK h;obtain⟨p,p',a,s,e,rfl,h3⟩:=BR h1;obtain⟨h2,h4⟩:=uJ h2;obtain⟨y,q2⟩:=nS h2;obtain⟨y,q1⟩:=nS y;cases of_decide_eq_true y;obtain⟨b,z,rfl⟩:=s_ h4;cases tu z;rw[e];exact Uu (F.glo q1).1 (F.blt q2) (ok.e F) (qc (rb h3).1)
 |_=>exact v7 h
def nT.atX (F:nT T r X c) (pn:List (ai×aG)) (xe:aj→am→Prop):nT T r (X.at pn xe) c:=⟨⟨F.g.fn,F.g.gl,F.g.bl,F.g.xs,F.g.ex⟩,F.N,F.sc,F.nd,F.fn,F.hr,F.calm,F.st⟩
def nT.hot (F:nT T r X c) (a:ai) (pn:List (ai×aG)):nT T r (X.hot a pn) ⟨c.N,c.sc,c.fn,false⟩:=⟨⟨F.g.fn,F.g.gl,F.g.bl,F.g.xs,F.g.ex⟩,F.N,F.sc,F.nd,F.fn,(λh=>nomatch h),rfl,F.st⟩
def Y1 (ok:i.Ok T r) (F:nT T r X c) (hc:c.calm=true):wf X ss (iX T i c ss):=by
 cases ss with
 |nil=>exact yq
 |cons s ss=>
  cases s with
  |Return v p=>
   refine pI (P:=wf X _) (λ_=>yq) λq h=>pI (P:=wf X _) (λ_=>yq) λs y=>sO (P:=wf X _) yq λz=>?_;obtain⟨e,rfl,h⟩:=sK h;obtain⟨p,p',a,s,rfl,h2,h3⟩:=BR h;obtain⟨f,fd,ps,k1,k2,k3,k4⟩:=F.g.fn _ _ y;obtain⟨g1,g2⟩:=F.glo (nS z).2;rw[cy.mp (nS z).1,h2];exact Xo (OK (Zh k1 (F.hr hc) g1 k2 k3 k4 (tz ok F h3) g2 (qc (rb h3).1) (BL (rb h3).2)))
  |_=>exact yq
def ZK (h:zT e=true):jR [tg] e n env=pure false:=E_ h
def Za (h:isT e=false):iQ [.Tuple ts n p] e env=pure none:=by
 cases e<;>first |rfl |cases h
def VX:JS X s (mr (nw nW) g):=λ_ _ _ _ _ _ _ _ ⟨_,_,_,_,_,h,_⟩=>h.elim
def XA (ok:i.Ok T r) (F:nT T r X c):JS X (.Assign [tg] e pos) (GN T i c tg e):=by
 cases tg with
 |Name x p=>
  refine xI λk l0=>tO λl=>pI (P:=JS X _) (λ_=>tO λh=>?_) λq h=>?_
  ·exact M9 F.ndX (F.at_ l0) (F.loc l).1 (ok.e F) (E_ h) (F.loc l).2
  ·rw[Ik h];cases b:(X.env.blockKind == .function&&X.env.kindOf x == aa .local&&p.line == q.2.2.1.line&& !(q.2.1.names.any λ(n,k)=>n == x&&(k == .local || k == .cell))) with
   |false=>exact M9 F.ndX (F.at_ l0) (F.loc l).1 (Oh (NG ok F q)) (congrArg pure b) (F.loc l).2
   |true=>
    refine sO (P:=λt=>JS X _ (mr (nw t) (mx k))) VX λh=>?_;have S:=Jh F (nS (nS h).1).1;have F':=F.comp (s:=q.2.1) S.nd (nS h).2;exact P6 F.ndX (F.at_ l0) (F.loc l).1 S (C7 ok F.nox) (λ_ _ _ _=>B3 (F' _ _ _ _)) (λ_ _ _ _=>Hl ok (F' _ _ _ _)) (λ_ _ _ _=>ok.e (F' _ _ _ _)) (congrArg pure b) (F.loc l).2 (C4 (nS (nS h).1).2) (F.calm.trans (nS h).2)
 |Tuple es n p=>exact tO λh=>Sd (ok.e F) (B3 F) (ZK (nS h).1) (Za (by have:=(nS h).2;simpa using this)) (by rw[BM rfl];rfl)
 |_=>exact yJ
def O5 (ok:i.Ok T r) (F:nT T r X c):JS X s (Ic T i c s):=by
 cases s with
 |Return v p=>
  cases v with
  |none=>exact RT
  |some=>exact Q3 (ok.e F)
 |Pass=>exact Zm
 |Expr e p=>exact tO λh=>Vt (ok.e F) (E_ h)
 |If=>exact PC (ok.t F) (vE ok F) (vE ok F)
 |While t b os p=>exact tO λh=>by rw[cy.mp h];exact ZS (ok.t F) (vE ok F)
 |For tg it b os p=>exact tO λh=>by rw[cy.mp (nS (nS h).1).1];exact Rz (C7 ok F) (B3 F) (vE ok F) (F.calm.trans (nS h).2) (C4 (nS (nS h).1).2)
 |AugAssign t o e p=>
  refine tO λh=>xI λx q=>xI λk l0=>tO λl=>?_;obtain⟨p',rfl⟩:=yU q;cases of_decide_eq_true h;exact Ra F.ndX (F.at_ l0) (F.loc l).1 (ok.e F) (F.loc l).2
 |Assign ts e p=>exact xI λtg h=>by rw[tu h];exact XA ok F
 |Raise v cs p=>
  refine xI λq h=>tO λz=>?_;obtain⟨e,rfl,h⟩:=sK h;obtain⟨p1,p2,a,s,rfl,h2,h3⟩:=BR h;obtain⟨z,z4⟩:=nS z;obtain⟨z,z3⟩:=nS z;obtain⟨z,z2⟩:=nS z;obtain⟨C,x1,x2⟩:=F.g.xs _ (gy.mp z2);rw[h2,Option.isNone_iff_eq_none.mp z];exact Ui x1 (F.glo z3).1 x2 (tz ok F h3) (F.calm.trans z4) (F.glo z3).2 (qc (rb h3).1) (BL (rb h3).2)
 |Try b hs os fs q=>
  refine xI λu h=>tO λz=>?_;obtain⟨p1,p2,a,s,rfl,h2⟩:=VG h;obtain⟨z,z7⟩:=nS z;obtain⟨z,z6⟩:=nS z;obtain⟨z,z5⟩:=nS z;obtain⟨z,z4⟩:=nS z;obtain⟨z,z3⟩:=nS z;obtain⟨z1,z2⟩:=nS z;rw[cO]at z6;obtain⟨D,hD,al⟩:∃D,X.mg u.1=aa (.ref D)∧ ∀y∈T.cn q,∃C,qm X.K y C∧e_ X.K (.ref C) (.ref D)=aa true:=by
   obtain⟨y,hy⟩:=List.exists_mem_of_ne_nil (T.cn q) (by intro z;rw[z]at z7;cases z7);obtain⟨C,D,_,x2,_⟩:=F.g.ex (y,u.1) (gy.mp (z6 y hy));refine⟨D,x2,λz hz=>?_⟩;obtain⟨C',D',y1,y2,y3⟩:=F.g.ex (z,u.1) (gy.mp (z6 z hz));rw[x2]at y2;cases y2;exact⟨C',y1,y3⟩
  have F':∀a pn,nT T r (X.hot a pn) ⟨c.N,c.sc,true,false⟩:=λa pn=>z3▸F.hot a pn;rw[h2,cy.mp z1,cy.mp z2];exact ZX (λpn xe=>Y1 ok (F.atX pn xe) z4) al (λa pn=>vE ok (F' a pn)) (F.glo z5).1 hD (F.st z3).1 (F.st z3).2 (F.glo z5).2
 |_=>exact yJ
theorem J9:∀n,(CU T n).Ok T r
 |0=>⟨λ_=>sj,λ_=>D0,(λ_ h=>nomatch h),λ_=>yJ⟩
 |n+1=>have ok:=J9 n;⟨Q1 ok,OZ ok,λF h=>V9 ok F h,λF=>O5 ok F⟩
end
def En.sc{e:En}(h:e.ok=true):pi e.N e.ps (qq e.st)∧e.ps.length=e.k∧e.k≤6:=by
 simp only[En.ok,bV,decide_eq_true_eq,fJ,cO,jP,bne_iff_ne]at h;obtain⟨⟨⟨⟨⟨⟨⟨⟨h1,h2⟩,h3⟩,h4⟩,h5⟩,h6⟩,h7⟩,h8⟩,h9⟩:=h;exact⟨⟨h1,h2,h3,h4,h5,h8,h9⟩,h6,h7⟩
def Rp (us:List aj) (h:us.length≤6):∃a b c d e f:aj,us=[a,b,c,d,e,f].take us.length:=by
 match us,h with
 | [],_=>exact⟨.none, .none, .none, .none, .none, .none,rfl⟩
 | [a],_=>exact⟨a, .none, .none, .none, .none, .none,rfl⟩
 | [a,b],_=>exact⟨a,b, .none, .none, .none, .none,rfl⟩
 | [a,b,c],_=>exact⟨a,b,c, .none, .none, .none,rfl⟩
 | [a,b,c,d],_=>exact⟨a,b,c,d, .none, .none,rfl⟩
 | [a,b,c,d,e],_=>exact⟨a,b,c,d,e, .none,rfl⟩
 | [a,b,c,d,e,f],_=>exact⟨a,b,c,d,e,f,rfl⟩
 |_::_::_::_::_::_::_::_,h=>simp at h
theorem NZ{α β:Type}:∀(a:List α) (b:List β),a.zip (b.take a.length)=a.zip b
 | [],_=>rfl
 |_::_,[]=>rfl
 |_::a,_::b=>congrArg (_:: ·) (NZ a b)
def E8{α β:Type}{l:List α}{f g:α→β}(h:l.map f=l.map g):∀e∈l,f e=g e:=by
 induction l with
 |nil=>intro e h;cases h
 |cons a l ih=>
  rw[aC,aC,fX]at h;intro e he;obtain rfl |he:=az.mp he
  ·exact h.1
  ·exact ih h.2 e he
def Jo (h:lkT tab r x=aa s):∃e∈tab,e.eNm=x∧s=e.c r:=by
 have:=u8 h;obtain⟨e,he,q⟩:=aV.mp this;cases q;exact⟨e,he,rfl,rfl⟩
def F5 (K:ao) (eNm:ah) (st:aW):Prop:=∃f d,bS K bj eNm=aa (aa (.ref f))∧tF K eNm eNm st f d
def dfn{K:ao}{st:aW}{kV doc pm cdv ct:aj}(a:bS K bj x=aa (aa (.ref f))) (l:K.lookup f=aa ⟨oc,od, .func (dH x x (xp st) (ue st) (qq st) .none kV doc pm an cdv ct),osl⟩) (c:gq K cdv x=true) (k:fD K (.ref f)=true):F5 K x st:=⟨f,_,a,XT l c k⟩
section
variable {P:bh}{w:aS}{K:ao}{mg:ah→Option aj}{base:aE}{tab:List En}{B:Tb}
structure qR (K:ao) (mg:ah→Option aj) (tab:List En) (B:Tb):Prop where
  df:∀e∈tab,∃f d,mg e.eNm=aa (.ref f)∧tF K e.eNm e.eNm e.st f d
  ok:∀e∈tab,e.ok=true
  bd:∀kV doc pm an cdv ct a b c d e' f,∀e∈tab,e.bd kV doc pm an cdv ct [a,b,c,d,e',f]=pure (e.ps.zip [a,b,c,d,e',f])
  c0:∀e∈tab,e.c 0=mH
  rd:∀r,∀e∈tab,e.c (r+1)=mH∨ ∃F,(∀x s,F x=aa s→ ∃e∈tab,e.eNm=x∧ ∃j,j≤r∧s=e.c j)∧e.c (r+1)=e.rd { B with fn:=F }
  gl:∀x w,B.gl x=aa w→(∃i u,w= .int i∧mg x=aa (.int i u))∨ ∃i u,w= .str i∧mg x=aa (.str i u)
  bl:∀x∈B.bl,mg x=none
  xs:∀x∈B.xs,∃C,qm K x C∧mg x=aa (.ref C)
  ex:∀p∈B.ex,∃C D,qm K p.1 C∧mg p.2=aa (.ref D)∧e_ K (.ref C) (.ref D)=aa true
def qR.binds (h:qR K mg tab B) (he:e∈tab) (F:tF K e.eNm e.eNm e.st f d):pj K d e.ps []:=F.binds λkV doc pm an cdv ct us hl=>by
 obtain⟨_,h1,h2⟩:=En.sc (h.ok e he);obtain⟨a,b,c,d,e',f,q⟩:=Rp us (by lia);have:=h.bd kV doc pm an cdv ct a b c d e' f e he;unfold En.bd at this;rw[←h1,←hl,←q]at this;rw[this,show e.ps.zip us=_ by rw[q,hl,NZ]]
theorem qR.fn (h:qR K mg tab B):∀r,∀e∈tab,∀f d,mg e.eNm=aa (.ref f)→tF K e.eNm e.eNm e.st f d→oU P w K mg base (si P w) r f d e.ps (rL K (e.c r)):=by
 intro r
 induction r using Nat.strongRecOn with
 |_ r ih=>
  intro e he f d hm F;cases r with
  |zero=>rw[h.c0 e he];exact G_
  |succ r=>
   obtain q |⟨G,hG,q⟩:=h.rd r e he
   ·rw[q];exact G_
   ·rw[q];obtain⟨S,h1,_⟩:=En.sc (h.ok e he);refine SW F S rfl h1 λcdv A outer s H E hr=>vE (T:={ B with fn:=G }) (r:=r) (J9 40) ⟨⟨λx s hx=>?_,h.gl,h.bl,h.xs,h.ex⟩,rfl,rfl,S.nd,rfl,λ_=>hr,rfl,λ_=>⟨rfl,rfl⟩⟩;obtain⟨e',he',rfl,j,hj,rfl⟩:=hG x s hx;obtain⟨f',d',m',F'⟩:=h.df e' he';exact⟨f',d',e'.ps,(ih j (by lia) e' he' f' d' m' F').mono hj,m',F'.kp,h.binds he' F'⟩
def wq (K:ao):List En→Prop
 | []=>True
 |e::r=>F5 K e.eNm e.st∧wq K r
def vO (K:ao):List ah→Prop
 | []=>True
 |x::r=>bS K bj x=aa none∧vO K r
def DO (K:ao) (x:ah) (w:W):Prop:=(∃i u,w= .int i∧bS K bj x=aa (aa (.int i u)))∨ ∃i u,w= .str i∧bS K bj x=aa (aa (.str i u))
def gln (h:bS K bj x=aa (aa (.int i u))):DO K x (.int i):= .inl ⟨i,u,rfl,h⟩
def vD (K:ao):List (ah×W)→Prop
 | []=>True
 |p::r=>DO K p.1 p.2∧vD K r
def FQ (K:ao) (x:ah):Prop:=∃C,qm K x C
def xch (a:bS K bj x=aa (aa (.ref C))) (b:iE K C AI "ValueError.__new__" =true) (c:fF K (.ref C) "__getattribute__" =aa (aa (.builtin "BaseException.__getattribute__"))) (d:fF K (.ref C) "__getattr__" =aa none) (e:fF K (.ref C) "__class__" =aa (aa (.builtin "object.__class__"))) (f:iq K C (.type "object")=aa true) (g:iq K C (.type "BaseException")=aa true):FQ K x:=⟨C,a,b,c,d,e,f,g⟩
def vB (K:ao):List ah→Prop
 | []=>True
 |x::r=>FQ K x∧vB K r
def De (K:ao) (x y:ah):Prop:=∃C D,bS K bj x=aa (aa (.ref C))∧bS K bj y=aa (aa (.ref D))∧e_ K (.ref C) (.ref D)=aa true
def exh (a:bS K bj x=aa (aa (.ref C))) (b:bS K bj y=aa (aa (.ref D))) (c:e_ K (.ref C) (.ref D)=aa true):De K x y:=⟨C,D,a,b,c⟩
def v0 (K:ao):List (ah×ah)→Prop
 | []=>True
 |p::r=>De K p.1 p.2∧v0 K r
theorem wq.at_:∀{tab:List En},wq K tab→ ∀e∈tab,F5 K e.eNm e.st
 |e::_,h,z,m=>(az.mp m).elim (λq=>q▸h.1) (wq.at_ h.2 z)
theorem vO.at_:∀{l:List ah},vO K l→ ∀x∈l,bS K bj x=aa none
 |e::_,h,z,m=>(az.mp m).elim (λq=>q▸h.1) (vO.at_ h.2 z)
theorem vD.at_:∀{l:List (ah×W)},vD K l→ ∀p∈l,DO K p.1 p.2
 |e::_,h,z,m=>(az.mp m).elim (λq=>q▸h.1) (vD.at_ h.2 z)
theorem vB.at_:∀{l:List ah},vB K l→ ∀x∈l,FQ K x
 |e::_,h,z,m=>(az.mp m).elim (λq=>q▸h.1) (vB.at_ h.2 z)
theorem v0.at_:∀{l:List (ah×ah)},v0 K l→ ∀p∈l,De K p.1 p.2
 |e::_,h,z,m=>(az.mp m).elim (λq=>q▸h.1) (v0.at_ h.2 z)
def U5{l:gU}{h:aE}{fa:ai}{gs:List (ah×W)}{e0:En}{cl:Nat→mI}{room:Nat}(X:K.In h) (G:h.Ns bj mg) (hfa:mg "law" =aa (.ref fa)) (h0:e0∈tab) (hn:e0.eNm= "law") (hp:e0.ps=([("script" :ah)]:List ah)) (hc:e0.c=cl)
  (ok:tab.all En.ok=true) (bd:∀kV doc pm an cdv ct a b c d e' f,(tab.map λe=>e.bd kV doc pm an cdv ct [a,b,c,d,e',f])=tab.map λe=>pure (e.ps.zip [a,b,c,d,e',f]))
  (c0:(tab.map λe=>e.c 0)=tab.map λ_=>mH) (rd:∀r,∀e∈tab,e.c (r+1)=mH∨ ∃F,(∀x s,F x=aa s→ ∃e∈tab,e.eNm=x∧ ∃j,j≤r∧s=e.c j)∧e.c (r+1)=e.rd { B with fn:=F })
  (hg:B.gl=λx=>gs.lookup x) (hx:∀p∈B.ex,p.1∈B.xs) (df:wq K tab) (bl:vO K B.bl) (gl:vD K gs) (xs:vB K B.xs) (ex:v0 K B.ex) :
  ∃fd:dc,(∀(s:am) (v:aj),eR s fd ⟨[v],[]⟩ [("script",v)])∧ ∀base:aE,K.In base→base.Ns bj mg→oU l.prog w K mg base (si l.prog w) room fa fd ["script"] (rL K (cl room)):=by
 have wh:qR K mg tab B:=by
  refine⟨λe he=>?_,λe he=>cO.mp ok e he,λkV doc pm an cdv ct a b c d e' f=>E8 (bd kV doc pm an cdv ct a b c d e' f),E8 c0,rd,λx v e=>?_,λx m=>PySem.W.mg_none_of X G (bl.at_ x m),λx m=>?_,λp m=>?_⟩
  ·obtain⟨f,d,a,F⟩:=df.at_ e he;exact⟨f,d,eX X G a,F⟩
  ·rw[hg]at e;obtain ⟨i,u,q,a⟩ |⟨i,u,q,a⟩:=gl.at_ _ (u8 e)
   ·exact .inl ⟨i,u,q,eX X G a⟩
   ·exact .inr ⟨i,u,q,eX X G a⟩
  ·obtain⟨C,a⟩:=xs.at_ x m;exact⟨C,a,eX X G a.nm⟩
  ·obtain⟨C,a⟩:=xs.at_ _ (hx p m);obtain⟨C',D,b,c,d⟩:=ex.at_ p m;have:=a.nm.symm.trans b;cases this;exact⟨C,D,a,eX X G c,d⟩
 obtain⟨f,d,m,F⟩:=wh.df e0 h0;rw[hn]at m;cases hfa.symm.trans m;refine⟨d,λs v=>?_,λbase _ _=>?_⟩
 ·obtain⟨oc,od,kV,doc,pm,an,cdv,ct,osl,rfl,lkT,hcd⟩:=F.ex;have z:=wh.bd kV doc pm an cdv ct v v v v v v e0 h0;have k1:e0.k=1:=by have:=(En.sc (wh.ok e0 h0)).2.1;rw[hp]at this;exact this.symm
  unfold En.bd at z;rw[k1,hp]at z;exact .of_eq z
 ·have:=wh.fn (P:=l.prog) (w:=w) (base:=base) room e0 h0 fa d (by rw[hn];exact m) F;rw[hp,hc]at this;exact this
def O4{t u:List En}(r:Nat) (h:(u.map λe=>e.c (r+1))=u.map λe=>e.rd { B with fn:=lkT t r }):∀e∈u,e.c (r+1)=mH∨ ∃F,(∀x s,F x=aa s→ ∃e∈t,e.eNm=x∧ ∃j,j≤r∧s=e.c j)∧e.c (r+1)=e.rd { B with fn:=F }:=λe he=>
 .inr ⟨_,λx s q=>let ⟨a,b,c,d⟩:=Jo q;⟨a,b,c,r,aA _,d⟩,E8 h e he⟩
def U6 (he:e∈t) (hn:e.eNm=n):∀x s,(if x=n then aa (e.c r) else lkT t (r+1) x)=aa s→ ∃e∈t,e.eNm=x∧ ∃j,j≤r+1∧s=e.c j:=λx s h=>by
 split at h
 ·cases h;exact⟨e,he,hn.trans (Eq.symm ‹_›),r,Nat.le_succ r,rfl⟩
 ·obtain⟨a,b,c,d⟩:=Jo h;exact⟨a,b,c,r+1,aA _,d⟩
end
def xj:Nat→mI
 |0=>mH
 |r+1=>nz 1 1 (mz (nE (oY (r8 "int" (jA 0))) (mU (m5 ae)) nB)
  (mU (oB (jA 0) (ou (wC (.int 1))) oz)))
def yE (r:Nat) (self:mI):WS:=(oZ (wM pJ wc (jA 1) (jK (mG (xj r) (jK (jA 2) ae)) ae)))
def xQ:Nat→mI
 |0=>mH
 |r+1=>nz 3 1 (mz (mr (nw (nI ae)) (mx 1))
  (mz (oC (oq (jA 0)) (mx 2) (yE r mH))
  (mU (jA 1))))
def DN (r:Nat) (self:mI):WS:=(mz (wu 1 (λa b=>a+b) (wB oQ (jK (jA 3) ae)))
  (mz (wu 2 (λa b=>a+b) (wC (.int 1)))
  (mz (nE (tI (nA (mq uA (jA 1) (wC (.int 400)))) (nA (mq uA (jA 2) (wC (.int 40))))) (mU (wC (.bl false))) nB)
  (mr (mG (xQ r) (jK (jA 3) ae)) (mx 3)))))
def wF:Nat→mI
 |0=>mH
 |r+1=>nz 4 1 (mz (mr (wC (.int 0)) (mx 1))
  (mz (mr (wC (.int 0)) (mx 2))
  (mz (mr (nw (nI (jK (jA 0) ae))) (mx 3))
  (mz (wE (oY (jA 3)) (DN r mH))
  (mU (wC (.bl true)))))))
def Dv (r:Nat) (self:mI):WS:=(oZ (mG self (jK (jA 4) (jK (mq om (jA 1) (m5 (jK (jA 3) ae))) (jK (jA 2) ae)))))
def v8:Nat→mI
 |0=>mH
 |r+1=>nz 5 3 (mz (oZ (wM pJ qz (jA 2) (jK (jA 1) ae)))
  (oC (ut (mG (xj r) (jK (jA 0) ae))) (pC (nP (mx 3) (nP (mx 4) o6))) (Dv r (v8 r))))
def AU:Nat→mI
 |0=>mH
 |r+1=>nz 2 1 (mz (mr (nw (nI ae)) (mx 1))
  (mz (oZ (mG (v8 r) (jK (jA 0) (jK (m5 ae) (jK (jA 1) ae)))))
  (mU (jA 1))))
def Cm:Nat→mI
 |0=>mH
 |r+1=>nz 3 2 (mz (mr (mG (xj r) (jK (jA 0) ae)) (mx 2))
  (mz (nE (tI (nA (mq uM (jA 1) (wC (.int 0)))) (nA (mq Lk (jA 1) (wB oQ (jK (jA 2) ae))))) (uR "NoPlace" (jK (wC (.str "there is no such place")) ae)) nB)
  (mU (mq mE (jA 2) (jA 1)))))
def Eh (r:Nat) (self:mI):WS:=(mr (mG (Cm r) (jK (jA 2) (jK (jA 3) ae))) (mx 2))
def Aj:Nat→mI
 |0=>mH
 |r+1=>nz 4 2 (mz (mr (jA 0) (mx 2))
  (mz (oC (oq (jA 1)) (mx 3) (Eh r mH))
  (mU (jA 2))))
def YA (r:Nat) (self:mI):WE:=(jA 0)
def xx:Nat→mI
 |0=>mH
 |r+1=>nz 1 1 (mU (nw (o9 1 [0] (oq (mG (AU r) (jK (jA 0) ae))) (mx 0) (oY (r8 "int" (mG (Aj r) (jK (jA 1) (jK (jA 0) ae))))) (YA r mH))))
def Kh (r:Nat) (self:mI):WE:=(jA 0)
def Cq:Nat→mI
 |0=>mH
 |r+1=>nz 2 2 (mU (nw (o9 1 [1,0] (oq (mG (xx r) (jK (jA 0) ae))) (mx 0) (nA (mq (oG false) (mG (Aj r) (jK (jA 2) (jK (jA 0) ae))) (jA 1))) (Kh r mH))))
def Li (r:Nat) (self:mI):WE:=(mG self (jK (jA 0) (jK (jA 1) ae)))
def uK:Nat→mI
 |0=>mH
 |r+1=>nz 2 2 (mz (nE (oY (r8 "int" (jA 0))) (mU (mq mE (jA 1) (jA 0))) nB)
  (mU (mq om (m5 (jK (mq mE (jA 0) (wC (.int 0))) ae)) (qL wk (o9 1 [1] (oq (oB (jA 0) (ou (wC (.int 1))) oz)) (mx 0) py (Li r (uK r)))))))
def BH:Nat→mI
 |0=>mH
 |r+1=>nz 2 2 (mU (vI (mq (oG false) (mq mE (jA 0) (wC (.int 0))) (mq mE (jA 1) (wC (.int 0)))) (mq (oG false) (wB oQ (jK (jA 0) ae)) (wB oQ (jK (jA 1) ae)))))
def EU (r:Nat) (self:mI):WS:=(nE (tm (oY (mG self (jK (jA 3) (jK (jA 4) (jK (jA 2) ae)))))) (mU (wC (.bl false))) nB)
def u_:Nat→mI
 |0=>mH
 |r+1=>nz 5 3 (mz (nE (oY (r8 "int" (jA 0))) (mz (oZ (wM pJ qz (jA 2) (jK (jA 1) ae)))
  (mU (wC (.bl true)))) nB)
  (mz (nE (tm (oY (mG (BH r) (jK (jA 0) (jK (jA 1) ae))))) (mU (wC (.bl false))) nB)
  (mz (oC (td (oB (jA 0) (ou (wC (.int 1))) oz) (oB (jA 1) (ou (wC (.int 1))) oz)) (pC (nP (mx 3) (nP (mx 4) o6))) (EU r (u_ r)))
  (mU (wC (.bl true))))))
def uf:Nat→mI
 |0=>mH
 |r+1=>nz 3 2 (mz (mr (nw (nI ae)) (mx 2))
  (mz (nE (oY (mG (u_ r) (jK (jA 0) (jK (jA 1) (jK (jA 2) ae))))) (mU (jA 2)) nB)
  (mU (wC .cc))))
def GI (r:Nat) (self:mI):WE:=(v5 sC sC (wC (.str "a")) (jA 0) (wC (.str "z")))
def BK:Nat→mI
 |0=>mH
 |r+1=>nz 1 1 (mU (qL tT (o9 1 [] (oq (jA 0)) (mx 0) py (GI r mH))))
def CA:Nat→mI
 |0=>mH
 |r+1=>nz 1 1 (mU (vI (v5 sC sC (wC (.int 1)) (wB oQ (jK (jA 0) ae)) (wC (.int 8))) (mG (BK r) (jK (jA 0) ae))))
def Ie (r:Nat) (self:mI):WS:=(nE (nA (mq (oG false) (mq mE (jA 2) (wC (.int 0))) (jA 1))) (mU (jA 2)) nB)
def tS:Nat→mI
 |0=>mH
 |r+1=>nz 3 2 (mz (oC (oq (jA 0)) (mx 2) (Ie r mH))
  (mU (wC .cc)))
def HU (r:Nat) (self:mI):WE:=(mG self (jK (jA 0) ae))
def yH:Nat→mI
 |0=>mH
 |r+1=>nz 1 1 (mU (vI (mG (CA r) (jK (mq mE (jA 0) (wC (.int 0))) ae)) (qL tT (o9 1 [] (oq (oB (jA 0) (ou (wC (.int 1))) oz)) (mx 0) py (HU r (yH r))))))
def sB:Nat→mI
 |0=>mH
 |r+1=>nz 1 1 (mz (nE (tm (oY (mG (wF r) (jK (jA 0) ae)))) (uR "TooGreat" (jK (wC (.str "the shape is not small")) ae)) nB)
  (mU (jA 0)))
def Js (r:Nat) (self:mI):WE:=(mG self (jK (jA 1) (jK (jA 0) (jK (jA 2) ae))))
def wI:Nat→mI
 |0=>mH
 |r+1=>nz 5 3 (mz (mr (nw (o9 1 [0,2] (oq (oB (jA 1) (ou (wC (.int 1))) oz)) (mx 0) py (Js r (wI r)))) (mx 3))
  (mz (mr (mG (tS r) (jK (jA 0) (jK (mq mE (jA 1) (wC (.int 0))) ae))) (mx 4))
  (mz (nE (nA (mq (pk false) (jA 4) (wC .cc))) (mU (mq om (m5 (jK (mq mE (jA 1) (wC (.int 0))) ae)) (wB rE (jK (jA 3) ae)))) nB)
  (mU (mG (uK r) (jK (mq mE (jA 4) (jA 2)) (jK (jA 3) ae)))))))
def Cc:Nat→mI
 |0=>mH
 |r+1=>nz 2 2 (mU (mG (sB r) (jK (mG (wI r) (jK (jA 0) (jK (jA 1) (jK (wC (.int 1)) ae)))) ae)))
def t8:Nat→mI
 |0=>mH
 |r+1=>nz 2 2 (mU (mG (sB r) (jK (mG (wI r) (jK (jA 0) (jK (jA 1) (jK (wC (.int 2)) ae)))) ae)))
def LX (r:Nat) (self:mI):WE:=(m5 (jK (jA 0) ae))
def za:Nat→mI
 |0=>mH
 |r+1=>nz 3 2 (mz (mr (mG (tS r) (jK (jA 0) (jK (mq mE (jA 1) (wC (.int 0))) ae))) (mx 2))
  (mz (nE (nA (mq (pk false) (jA 2) (wC .cc))) (mU (nw (o9 1 [] (t7 (jK (mq (rA λi j=> .int (i - j)) (wB oQ (jK (jA 1) ae)) (wC (.int 1))) ae)) (mx 0) py (LX r mH)))) nB)
  (mU (mG (xx r) (jK (mq mE (jA 2) (wC (.int 1))) ae)))))
def GW (r:Nat) (self:mI):WS:=(nE (nA (mq (pk true) (mG (uf r) (jK (mq mE (jA 2) (wC (.int 1))) (jK (jA 1) ae))) (wC .cc))) (mU (jA 2)) nB)
def yk:Nat→mI
 |0=>mH
 |r+1=>nz 3 2 (mz (oC (oq (jA 0)) (mx 2) (GW r mH))
  (mU (wC .cc)))
def CS (r:Nat) (self:mI):WS:=(oZ (mG self (jK (jA 0) (jK (jA 6) (jK (mq om (jA 2) (m5 (jK (jA 5) ae))) (jK (jA 3) ae))))))
def xE:Nat→mI
 |0=>mH
 |r+1=>nz 7 4 (mz (mr (mG (yk r) (jK (jA 0) (jK (jA 1) ae))) (mx 4))
  (mz (nE (nA (mq (pk true) (jA 4) (wC .cc))) (oZ (wM pJ qz (jA 3) (jK (m5 (jK (jA 2) (jK (mq mE (jA 4) (wC (.int 0))) ae))) ae))) nB)
  (oC (ut (oB (jA 1) (ou (wC (.int 1))) oz)) (pC (nP (mx 5) (nP (mx 6) o6))) (CS r (xE r)))))
def tV:Nat→mI
 |0=>mH
 |r+1=>nz 3 2 (mz (mr (nw (nI ae)) (mx 2))
  (mz (oZ (mG (xE r) (jK (jA 0) (jK (jA 1) (jK (m5 ae) (jK (jA 2) ae))))))
  (mU (jA 2))))
def Ks (r:Nat) (self:mI):WE:=(mq mE (jA 0) (wC (.int 0)))
def wH:Nat→mI
 |0=>mH
 |r+1=>nz 1 1 (mU (nw (o9 1 [] (oq (jA 0)) (mx 0) py (Ks r mH))))
def A3:Nat→mI
 |0=>mH
 |r+1=>nz 3 2 (mz (mr (mG (yk r) (jK (jA 0) (jK (jA 1) ae))) (mx 2))
  (mU (mq om (m5 (jK (mq mE (jA 2) (wC (.int 0))) ae)) (wB rE (jK (mG (uf r) (jK (mq mE (jA 2) (wC (.int 1))) (jK (jA 1) ae))) ae)))))
def Cs (r:Nat) (self:mI):WS:=(oZ (wM pJ qz (jA 5) (jK (mG self (jK (jA 0) (jK (jA 7) (jK (mq om (jA 2) (jA 6)) (jK (jA 3) ae))))) ae)))
def tZ:Nat→mI
 |0=>mH
 |r+1=>nz 8 4 (mz (mr (yX (nA (mq (wK false) (jA 2) (jA 3))) (mG (A3 r) (jK (jA 0) (jK (jA 1) ae))) (jA 1)) (mx 4))
  (mz (mr (nw (nI ae)) (mx 5))
  (mz (oC (td (mG (za r) (jK (jA 0) (jK (jA 4) ae))) (oB (jA 4) (ou (wC (.int 1))) oz)) (pC (nP (mx 6) (nP (mx 7) o6))) (Cs r (tZ r)))
  (mU (mq om (m5 (jK (mq mE (jA 4) (wC (.int 0))) ae)) (wB rE (jK (jA 5) ae)))))))
def Ls (r:Nat) (self:mI):WE:=(m5 (jK (jA 0) (jK (wC (.bl true)) ae)))
def xS:Nat→mI
 |0=>mH
 |r+1=>nz 3 3 (mU (mG (tZ r) (jK (jA 0) (jK (jA 1) (jK (m5 ae) (jK (qL vC (o9 1 [] (oq (jA 2)) (mx 0) py (Ls r mH))) ae))))))
def Hu (r:Nat) (self:mI):WS:=(nE (nA (mq (uD true) (jA 4) (jA 3))) (uR "NoUse" (jK (wC (.str "no use is open at one of the places")) ae)) nB)
def A2:Nat→mI
 |0=>mH
 |r+1=>nz 5 3 (mz (mr (mG (wH r) (jK (mG (tV r) (jK (jA 0) (jK (jA 1) ae))) ae)) (mx 3))
  (mz (oC (oq (jA 2)) (mx 4) (Hu r mH))
  (mU (mG (xS r) (jK (jA 0) (jK (jA 1) (jK (jA 2) ae)))))))
def Ca:Nat→mI
 |0=>mH
 |r+1=>nz 2 2 (mU (mG (xS r) (jK (jA 0) (jK (jA 1) (jK (mG (wH r) (jK (mG (tV r) (jK (jA 0) (jK (jA 1) ae))) ae)) ae)))))
def Jn (r:Nat) (self:mI):WS:=(mz (mr (mG (Ca r) (jK (jA 0) (jK (jA 4) ae))) (mx 5))
  (mz (mr (mG (t8 r) (jK (jA 0) (jK (jA 5) ae))) (mx 4))
  (oZ (wM pJ qz (jA 3) (jK (jA 5) ae)))))
def B2:Nat→mI
 |0=>mH
 |r+1=>nz 6 3 (mz (mr (nw (nI ae)) (mx 3))
  (mz (mr (jA 1) (mx 4))
  (mz (wE (rH (nA (mq uM (wB oQ (jK (jA 3) ae)) (jA 2))) (oY (mG (tV r) (jK (jA 0) (jK (jA 4) ae))))) (Jn r mH))
  (mU (m5 (jK (m5 (jK (jA 1) (jK (jA 3) ae))) (jK (xV (mG (tV r) (jK (jA 0) (jK (jA 4) ae)))) ae)))))))
def DE (r:Nat) (self:mI):WE:=(mG self (jK (jA 2) (jK (jA 0) (jK (jA 1) ae))))
def tw:Nat→mI
 |0=>mH
 |r+1=>nz 8 3 (mz (mr (mG (tS r) (jK (jA 0) (jK (mq mE (jA 1) (wC (.int 0))) ae))) (mx 3))
  (mz (mr (mG (tS r) (jK (jA 0) (jK (mq mE (jA 2) (wC (.int 0))) ae))) (mx 4))
  (mz (mr (oB (jA 1) (ou (wC (.int 1))) oz) (mx 5))
  (mz (mr (oB (jA 2) (ou (wC (.int 1))) oz) (mx 6))
  (mz (nE (rH (nA (mq (pk false) (jA 3) (wC .cc))) (nA (mq (pk true) (jA 4) (wC .cc)))) (mr (mG (uf r) (jK (mq mE (jA 4) (wC (.int 1))) (jK (jA 1) ae))) (mx 5)) nB)
  (mz (nE (rH (nA (mq (pk true) (jA 3) (wC .cc))) (nA (mq (pk false) (jA 4) (wC .cc)))) (mr (mG (uf r) (jK (mq mE (jA 3) (wC (.int 1))) (jK (jA 2) ae))) (mx 6)) nB)
  (mz (mr (nw (o9 2 [0] (td (jA 5) (jA 6)) (pC (nP (mx 0) (nP (mx 1) o6))) py (DE r (tw r)))) (mx 7))
  (mz (nE (nA (mq (pk false) (jA 4) (wC .cc))) (mU (mq om (m5 (jK (mq mE (jA 1) (wC (.int 0))) ae)) (wB rE (jK (jA 7) ae)))) nB)
  (mU (mG (uK r) (jK (mq mE (jA 4) (wC (.int 2))) (jK (jA 7) ae))))))))))))
def Ac (r:Nat) (self:mI):WS:=(mz (nE (nA (mq (oG true) (mG (Cc r) (jK (jA 0) (jK (jA 3) ae))) (jA 2))) (mU (wC (.bl false))) nB)
  (mr (mG (t8 r) (jK (jA 0) (jK (jA 3) ae))) (mx 2)))
def xD:Nat→mI
 |0=>mH
 |r+1=>nz 4 2 (mz (mr (mG (sB r) (jK (mq mE (jA 1) (wC (.int 0))) ae)) (mx 2))
  (mz (oC (oq (mq mE (jA 1) (wC (.int 1)))) (mx 3) (Ac r mH))
  (mU (wC (.bl true)))))
def Be:Nat→mI
 |0=>mH
 |r+1=>nz 2 2 (BV ["TooGreat"] (mU (Cb (xD r) (jK (jA 0) (jK (jA 1) ae)))) (mU (wC (.bl false))))
def Ml (r:Nat):WS:=(mU (mG (t8 r) (jK (jA 0) (jK (mq mE (mq mE (jA 1) (wC (.int 1))) (qY (wC (.int 1)))) ae))))
def K8 (r:Nat) (T:WS):WS:=(mz (nE (tm (oY (mq mE (jA 1) (wC (.int 1))))) (mU (mq mE (jA 1) (wC (.int 0)))) nB) T)
def zo:Nat→mI
 |0=>mH
 |r+1=>nz 2 2 (K8 r (Ml r))
def Eu (r:Nat) (self:mI):WS:=(oZ (mG (t8 r) (jK (jA 0) (jK (jA 2) ae))))
def uV:Nat→mI
 |0=>mH
 |r+1=>nz 3 2 (oC (oq (jA 1)) (mx 2) (Eu r mH))
def Na (r:Nat):WS:=(mU (jA 3))
def GS (r:Nat):WS:=(oZ (wM pJ qz (jA 3) (jK (jA 5) ae)))
def KM (r:Nat) (T:WS):WS:=(mz (oZ (mG (uV r) (jK (jA 0) (jK (nw (nI (jK (jA 5) ae))) ae)))) T)
def JV (r:Nat) (T:WS):WS:=(mz (mr (mG (tw r) (jK (jA 0) (jK (mq mE (jA 3) (qY (wC (.int 1)))) (jK (jA 4) ae)))) (mx 5)) T)
def F9 (r:Nat) (self:mI):WS:=(JV r (KM r (GS r)))
def G0 (r:Nat) (T:WS):WS:=(mz (oC (oq (jA 2)) (mx 4) (F9 r mH)) T)
def Nn (r:Nat) (T:WS):WS:=(mz (mr (nw (nI (jK (jA 1) ae))) (mx 3)) T)
def xv:Nat→mI
 |0=>mH
 |r+1=>nz 6 3 (Nn r (G0 r (Na r)))
def LW (r:Nat):WS:=(mU (m5 (jK (jA 3) (jK (jA 5) ae))))
def KU (r:Nat) (self:mI):WE:=(mG (tw r) (jK (jA 2) (jK (jA 0) (jK (jA 1) ae))))
def C5 (r:Nat):WS:=(oZ (wM pJ qz (jA 5) (jK (jA 4) ae)))
def Fu (r:Nat) (T:WS):WS:=(mz (oZ (wM pJ qz (jA 3) (jK (jA 7) ae))) T)
def Fn (r:Nat) (T:WS):WS:=(mz (mr (nw (o9 2 [0] (td (jA 4) (jA 7)) (pC (nP (mx 0) (nP (mx 1) o6))) py (KU r mH))) (mx 4)) T)
def M_ (r:Nat) (T:WS):WS:=(mz (mr (mG (xv r) (jK (jA 0) (jK (jA 6) (jK (jA 4) ae)))) (mx 7)) T)
def Ed (r:Nat) (self:mI):WS:=(M_ r (Fn r (Fu r (C5 r))))
def Ox (r:Nat) (T:WS):WS:=(mz (oC (oq (mq mE (jA 1) (wC (.int 1)))) (mx 6) (Ed r mH)) T)
def DZ (r:Nat) (T:WS):WS:=(mz (mr (nw (nI (jK (jA 4) ae))) (mx 5)) T)
def EB (r:Nat) (T:WS):WS:=(mz (mr (nw (Al (mq mE (jA 2) (wC (.int 1))))) (mx 4)) T)
def ES (r:Nat) (T:WS):WS:=(mz (mr (nw (nI ae)) (mx 3)) T)
def NT (r:Nat) (T:WS):WS:=(mz (oZ (mG (uV r) (jK (jA 0) (jK (mq mE (jA 2) (wC (.int 1))) ae)))) T)
def Hb (r:Nat) (T:WS):WS:=(mz (oZ (mG (uV r) (jK (jA 0) (jK (mq mE (jA 1) (wC (.int 1))) ae)))) T)
def FZ (r:Nat) (T:WS):WS:=(mz (oZ (mG (sB r) (jK (mq mE (jA 1) (wC (.int 0))) ae))) T)
def IQ (r:Nat) (T:WS):WS:=(mz (nE (nA (mq (oG true) (mq mE (jA 1) (wC (.int 0))) (mq mE (jA 2) (wC (.int 0))))) (uR "Apart" (jK (wC (.str "the roads are not from one shape")) ae)) nB) T)
def zP:Nat→mI
 |0=>mH
 |r+1=>nz 8 3 (IQ r (FZ r (Hb r (NT r (ES r (EB r (DZ r (Ox r (LW r)))))))))
def Hy (r:Nat) (self:mI):WE:=(mq mE (jA 0) (qY (wC (.int 1))))
def yh:Nat→mI
 |0=>mH
 |r+1=>nz 1 1 (mU (nw (o9 1 [] (oq (mq mE (jA 0) (wC (.int 0)))) (mx 0) py (Hy r mH))))
def Iv (r:Nat):WS:=(mU (m5 (jK (mG (zo r) (jK (jA 0) (jK (jA 2) ae))) (jK (jA 3) ae))))
def GQ (r:Nat) (T:WS):WS:=(mz (mr (mG (yh r) (jK (mG (zP r) (jK (jA 0) (jK (jA 1) (jK (jA 2) ae)))) ae)) (mx 3)) T)
def Bf:Nat→mI
 |0=>mH
 |r+1=>nz 4 3 (GQ r (Iv r))
def KH (r:Nat) (self:mI):WE:=(mG (yH r) (jK (jA 0) ae))
def vL:Nat→mI
 |0=>mH
 |r+1=>nz 1 1 (mU (qL tT (o9 1 [] (oq (jA 0)) (mx 0) py (KH r mH))))
def Az:Nat→mI
 |0=>mH
 |r+1=>nz 3 3 (mU (mG (vL r) (jK (mG (yh r) (jK (mG (zP r) (jK (jA 0) (jK (jA 1) (jK (jA 2) ae)))) ae)) ae)))
def BS (r:Nat) (self:mI):WS:=(mz (mr (mG (A2 r) (jK (jA 0) (jK (jA 4) (jK (nw (nI (jK (jA 5) ae))) ae)))) (mx 6))
  (mz (mr (mG (t8 r) (jK (jA 0) (jK (jA 6) ae))) (mx 4))
  (oZ (wM pJ qz (jA 3) (jK (jA 6) ae)))))
def A8:Nat→mI
 |0=>mH
 |r+1=>nz 7 3 (mz (mr (nw (nI ae)) (mx 3))
  (mz (mr (jA 1) (mx 4))
  (mz (oC (oq (jA 2)) (mx 5) (BS r mH))
  (mU (m5 (jK (jA 1) (jK (jA 3) ae)))))))
def MN (r:Nat) (self:mI):WE:=(mq om (jA 1) (jA 0))
def D9 (r:Nat) (self:mI):WS:=(oZ (uX pJ zj (jA 4) (o9 1 [8] (oq (jA 7)) (mx 0) py (MN r mH))))
def yl (r:Nat) (self:mI):WS:=(nE (nA (mq (oG false) (oB (jA 2) oz (ou (wB oQ (jK (jA 6) ae)))) (jA 6))) (mz (mr (mG self (jK (jA 0) (jK (mq mE (jA 1) (mq om (jA 5) (wC (.int 1)))) (jK (oB (jA 2) (ou (wB oQ (jK (jA 6) ae))) oz) ae)))) (mx 7))
  (oC (oq (mG (Cq r) (jK (mq mE (jA 3) (wC (.int 2))) (jK (jA 5) ae)))) (mx 8) (D9 r mH))) nB)
def Ci (cT:mI):Nat→mI
 |0=>mH
 |r+1=>nz 9 4 (mz (mr (nw (nI ae)) (mx 4))
  (mz (oC (ut (mG (xx r) (jK (mq mE (jA 3) (wC (.int 1))) ae))) (pC (nP (mx 5) (nP (mx 6) o6))) (yl r cT))
  (mU (jA 4))))
def JD (r:Nat) (self:mI):WE:=(mq om (m5 (jK (jA 1) ae)) (jA 0))
def q_:Nat→mI
 |0=>mH
 |1=>mH
 |r+2=>nz 5 3 (mz (mr (mG (tS (r+1)) (jK (jA 0) (jK (mq mE (jA 1) (wC (.int 0))) ae))) (mx 3))
  (mz (nE (nA (mq (pk true) (jA 3) (wC .cc))) (mU (mG (Ci (q_ r) (r+1)) (jK (jA 0) (jK (jA 1) (jK (jA 2) (jK (jA 3) ae)))))) nB)
  (mz (nE (nA (mq (oG false) (jA 2) (m5 ae))) (mU (nw (nI (jK (m5 ae) ae)))) nB)
  (mz (mr (mq mE (jA 2) (wC (.int 0))) (mx 4))
  (mU (nw (o9 1 [4] (oq (mG (q_ r) (jK (jA 0) (jK (mq mE (jA 1) (mq om (jA 4) (wC (.int 1)))) (jK (oB (jA 2) (ou (wC (.int 1))) oz) ae))))) (mx 0) py (JD r mH))))))))
def Ek (r:Nat) (self:mI):WS:=(oZ (wM pJ wc (jA 3) (jK (mG (q_ r) (jK (jA 0) (jK (jA 1) (jK (jA 4) ae)))) ae)))
def xo:Nat→mI
 |0=>mH
 |r+1=>nz 5 3 (mz (mr (nw (nI ae)) (mx 3))
  (mz (oC (oq (jA 2)) (mx 4) (Ek r mH))
  (mU (jA 3))))
def Dn (r:Nat) (self:mI):WS:=(mr (mG (xo r) (jK (jA 0) (jK (jA 4) (jK (jA 3) ae)))) (mx 3))
def B_:Nat→mI
 |0=>mH
 |r+1=>nz 5 3 (mz (mr (nw (nI (jK (jA 1) ae))) (mx 3))
  (mz (oC (oq (jA 2)) (mx 4) (Dn r mH))
  (mU (mq (oG false) (jA 3) (nw (nI ae))))))
def Nw (r:Nat) (self:mI):WS:=(nE (oY (mG (B_ r) (jK (jA 0) (jK (jA 2) (jK (mq mE (jA 1) (wC (.int 1))) ae))))) (mU (jA 2)) nB)
def BC:Nat→mI
 |0=>mH
 |r+1=>nz 3 2 (mz (oC (oq (mG (wH r) (jK (mG (tV r) (jK (jA 0) (jK (mq mE (jA 1) (wC (.int 0))) ae))) ae))) (mx 2) (Nw r mH))
  (mU (wC .cc)))
def IZ (r:Nat):WS:=(mU (jA 2))
def Fh (r:Nat):WS:=(mr (mG (Bf r) (jK (jA 0) (jK (jA 3) (jK (m5 (jK (mq mE (jA 3) (wC (.int 0))) (jK (nw (nI (jK (mG (xS r) (jK (jA 0) (jK (mq mE (jA 3) (wC (.int 0))) (jK (nw (nI (jK (jA 4) ae))) ae)))) ae))) ae))) ae)))) (mx 3))
def Dl (r:Nat) (T:WS):WS:=(mz (oZ (wM pJ qz (jA 2) (jK (jA 4) ae))) T)
def Do (r:Nat) (T:WS):WS:=(mz (mr (mG (BC r) (jK (jA 0) (jK (jA 3) ae))) (mx 4)) T)
def Ef (r:Nat) (T:WS):WS:=(mz (nE (nA (mq (oG false) (wB oQ (jK (jA 2) ae)) (wC (.int 60)))) (uR "TooGreat" (jK (wC (.str "the standard row is too long")) ae)) nB) T)
def LN (r:Nat) (self:mI):WS:=(Ef r (Do r (Dl r (Fh r))))
def Kx (r:Nat) (T:WS):WS:=(mz (wE (tm (oY (mG (vL r) (jK (mq mE (jA 3) (wC (.int 1))) ae)))) (LN r mH)) T)
def Kj (r:Nat) (T:WS):WS:=(mz (mr (jA 1) (mx 3)) T)
def MB (r:Nat) (T:WS):WS:=(mz (mr (nw (nI ae)) (mx 2)) T)
def AZ:Nat→mI
 |0=>mH
 |r+1=>nz 5 2 (MB r (Kj r (Kx r (IZ r))))
def uI:Nat→mI
 |0=>mH
 |r+1=>nz 2 2 (mz (nE (nA (mq uM (jA 1) (wB oQ (jK (jA 0) ae)))) (mU (mq mE (jA 0) (jA 1))) nB)
  (mU (wC (.int 0))))
def Gp (r:Nat) (self:mI):WE:=(mq mE (jA 1) (mq (oK (λ_ j=>0<j) λi j=> .int (i % j)) (mq om (mq mE (jA 2) (jA 0)) (mq (oK rD λi j=> .int (i*j)) (jA 3) (wB xz (jK (mq (oG false) (jA 0) (jA 4)) ae)))) (wC (.int 26))))
def Hz (r:Nat) (self:mI):WS:=(mz (mr (uX u0 xh (wC (.str "")) (o9 1 [3,5,6,7] (t7 (jK (wB oQ (jK (jA 5) ae)) ae)) (mx 0) py (Gp r mH))) (mx 9))
  (mz (nE (oY (jA 2)) (mr (mq om (wM u0 yN (mq mE (jA 9) (wC (.int 0))) ae) (oB (jA 9) (ou (wC (.int 1))) oz)) (mx 9)) nB)
  (oZ (wM pJ qz (jA 8) (jK (jA 9) ae)))))
def Fa (r:Nat) (self:mI):WS:=(mz (oZ (wM pJ qz (jA 5) (jK (mq (oK (λ_ j=>0<j) λi j=> .int (i % j)) (jA 4) (wC (.int 26))) ae)))
  (mr (mq (oK su λi j=> .int (i / j)) (jA 4) (wC (.int 26))) (mx 4)))
def xU:Nat→mI
 |0=>mH
 |r+1=>nz 10 3 (mz (mr (wC (.str "abcdefghijklmnopqrstuvwxyz")) (mx 3))
  (mz (mr (mq (oK (λ_ j=>0<j) λi j=> .int (i % j)) (jA 1) (mq (oK Ba λi j=> .int (i ^ j.toNat)) (wC (.int 26)) (wC (.int 8)))) (mx 4))
  (mz (mr (nw (nI ae)) (mx 5))
  (mz (oC (t7 (jK (mq om (wC (.int 1)) (mq (oK (λ_ j=>0<j) λi j=> .int (i % j)) (jA 0) (wC (.int 8)))) ae)) (mx 6) (Fa r mH))
  (mz (mr (mq (oK (λ_ j=>0<j) λi j=> .int (i % j)) (mq (oK su λi j=> .int (i / j)) (jA 0) (wC (.int 8))) (wB oQ (jK (jA 5) ae))) (mx 7))
  (mz (mr (nw (nI ae)) (mx 8))
  (mz (oC (t7 (jK (wC (.int 6)) ae)) (mx 6) (Hz r mH))
  (mz (nE (rH (nA (mq (oG false) (mq (oK (λ_ j=>0<j) λi j=> .int (i % j)) (mq (oK su λi j=> .int (i / j)) (jA 0) (wC (.int 64))) (wC (.int 2))) (wC (.int 1)))) (tm (oY (jA 2)))) (mr (nw (ug (vc (jA 8) oz (ou (wC (.int 3)))) (nI (jK (mq mE (jA 8) (wC (.int 2))) (jK (mq mE (jA 8) (wC (.int 2))) (jK (mq mE (jA 8) (wC (.int 5))) ae)))))) (mx 8)) nB)
  (mU (jA 8))))))))))
def MK (r:Nat) (self:mI):WE:=(mG self (jK (jA 0) ae))
def uN:Nat→mI
 |0=>mH
 |r+1=>nz 1 1 (mz (nE (oY (r8 "int" (jA 0))) (mU (wC (.int 1))) nB)
  (mU (qL v_ (o9 1 [] (oq (oB (jA 0) (ou (wC (.int 1))) oz)) (mx 0) py (MK r (uN r))))))
def GR (r:Nat) (self:mI):WE:=(mG self (jK (jA 0) (jK (jA 1) ae)))
def vg:Nat→mI
 |0=>mH
 |r+1=>nz 2 2 (mz (nE (oY (r8 "int" (jA 0))) (mU (mq mE (jA 1) (jA 0))) nB)
  (mU (mq om (oB (jA 0) oz (ou (wC (.int 1)))) (qL wk (o9 1 [1] (oq (oB (jA 0) (ou (wC (.int 1))) oz)) (mx 0) py (GR r (vg r)))))))
def BY:Nat→mI
 |0=>mH
 |r+1=>nz 4 4 (mz (nE (nA (mq (oG false) (jA 0) (wC (.int 0)))) (mU (nw (nI (jK (m5 (jK (jA 1) (jK (wC (.int 0)) ae))) ae)))) nB)
  (mz (nE (nA (mq (oG false) (jA 0) (wC (.int 1)))) (mU (nw (nI (jK (m5 (jK (jA 1) (jK (wC (.int 0)) (jK (wC (.int 1)) ae)))) ae)))) nB)
  (mz (nE (nA (mq (oG false) (jA 0) (wC (.int 2)))) (mU (nw (nI (jK (m5 (jK (jA 1) (jK (m5 (jK (jA 2) ae)) ae))) (jK (m5 (jK (jA 1) (jK (m5 (jK (jA 3) (jK (wC (.int 0)) ae))) ae))) ae))))) nB)
  (mz (nE (nA (mq (oG false) (jA 0) (wC (.int 3)))) (mU (nw (nI (jK (m5 (jK (jA 1) (jK (m5 (jK (jA 2) ae)) (jK (wC (.int 0)) ae)))) (jK (m5 (jK (jA 1) (jK (m5 (jK (jA 3) (jK (wC (.int 0)) ae))) (jK (wC (.int 1)) ae)))) ae))))) nB)
  (mz (nE (nA (mq (oG false) (jA 0) (wC (.int 4)))) (mU (nw (nI (jK (m5 (jK (jA 1) (jK (m5 (jK (jA 3) (jK (m5 (jK (jA 3) (jK (wC (.int 0)) ae))) ae))) (jK (wC (.int 1)) (jK (wC (.int 2)) ae))))) (jK (m5 (jK (jA 1) (jK (m5 (jK (jA 3) (jK (m5 (jK (jA 2) ae)) ae))) (jK (wC (.int 0)) (jK (wC (.int 1)) ae))))) ae))))) nB)
  (mU (nw (nI (jK (m5 (jK (jA 1) ae)) ae)))))))))
def A7:Nat→mI
 |0=>mH
 |r+1=>nz 4 3 (mz (nE (nA (mq (oG false) (jA 0) (wC (.int 0)))) (mU (nw (nI (jK (m5 (jK (mq mE (jA 1) (wC (.int 2))) ae)) (jK (m5 (jK (mq mE (jA 1) (wC (.int 5))) ae)) (jK (m5 (jK (mq mE (jA 1) (wC (.int 3))) (jK (m5 (jK (mq mE (jA 1) (wC (.int 5))) ae)) ae))) ae)))))) nB)
  (mz (nE (nA (mq (oG false) (jA 0) (wC (.int 1)))) (mz (mr (nw (nI (jK (wC (.int 0)) (jK (m5 (jK (mq mE (jA 1) (wC (.int 3))) (jK (wC (.int 0)) ae))) (jK (m5 (jK (mq mE (jA 1) (wC (.int 4))) (jK (wC (.int 0)) (jK (wC (.int 0)) ae)))) (jK (m5 (jK (mq mE (jA 1) (wC (.int 4))) (jK (m5 (jK (mq mE (jA 1) (wC (.int 3))) (jK (wC (.int 0)) ae))) (jK (m5 (jK (mq mE (jA 1) (wC (.int 2))) ae)) ae)))) ae)))))) (mx 3))
  (mz (nE (oY (jA 2)) (mU (nw (rK (jA 3) (nI (jK (m5 (jK (mq mE (jA 1) (wC (.int 0))) (jK (wC (.int 0)) ae))) (jK (m5 (jK (mq mE (jA 1) (wC (.int 1))) (jK (m5 (jK (mq mE (jA 1) (wC (.int 3))) (jK (wC (.int 0)) ae))) (jK (wC (.int 0)) ae)))) (jK (m5 (jK (mq mE (jA 1) (wC (.int 3))) (jK (m5 (jK (mq mE (jA 1) (wC (.int 0))) (jK (wC (.int 0)) ae))) ae))) ae))))))) nB)
  (mU (nw (rK (jA 3) (nI (jK (m5 (jK (mq mE (jA 1) (wC (.int 2))) ae)) (jK (m5 (jK (mq mE (jA 1) (wC (.int 3))) (jK (m5 (jK (mq mE (jA 1) (wC (.int 5))) ae)) ae))) ae)))))))) nB)
  (mz (nE (nA (mq (oG false) (jA 0) (wC (.int 3)))) (mz (mr (nw (nI (jK (m5 (jK (mq mE (jA 1) (wC (.int 4))) (jK (m5 (jK (mq mE (jA 1) (wC (.int 4))) (jK (wC (.int 0)) (jK (wC (.int 1)) ae)))) (jK (wC (.int 2)) ae)))) (jK (m5 (jK (mq mE (jA 1) (wC (.int 4))) (jK (wC (.int 2)) (jK (m5 (jK (mq mE (jA 1) (wC (.int 4))) (jK (wC (.int 1)) (jK (wC (.int 0)) ae)))) ae)))) (jK (m5 (jK (mq mE (jA 1) (wC (.int 4))) (jK (m5 (jK (mq mE (jA 1) (wC (.int 4))) (jK (wC (.int 0)) (jK (wC (.int 0)) ae)))) (jK (m5 (jK (mq mE (jA 1) (wC (.int 4))) (jK (wC (.int 1)) (jK (wC (.int 2)) ae)))) ae)))) ae))))) (mx 3))
  (mz (nE (oY (jA 2)) (mU (nw (rK (jA 3) (nI (jK (m5 (jK (mq mE (jA 1) (wC (.int 0))) (jK (m5 (jK (mq mE (jA 1) (wC (.int 4))) (jK (m5 (jK (mq mE (jA 1) (wC (.int 4))) (jK (wC (.int 2)) (jK (wC (.int 0)) ae)))) (jK (wC (.int 1)) ae)))) ae))) (jK (m5 (jK (mq mE (jA 1) (wC (.int 1))) (jK (wC (.int 1)) (jK (m5 (jK (mq mE (jA 1) (wC (.int 4))) (jK (wC (.int 0)) (jK (wC (.int 2)) ae)))) ae)))) ae)))))) nB)
  (mU (nw (rK (jA 3) (nI (jK (wC (.int 0)) (jK (wC (.int 2)) (jK (m5 (jK (mq mE (jA 1) (wC (.int 4))) (jK (wC (.int 1)) (jK (wC (.int 1)) ae)))) (jK (m5 (jK (mq mE (jA 1) (wC (.int 5))) ae)) ae)))))))))) nB)
  (mz (mr (nw (nI (jK (m5 (jK (mq mE (jA 1) (wC (.int 4))) (jK (wC (.int 0)) (jK (wC (.int 1)) ae)))) (jK (m5 (jK (mq mE (jA 1) (wC (.int 4))) (jK (wC (.int 1)) (jK (wC (.int 0)) ae)))) (jK (m5 (jK (mq mE (jA 1) (wC (.int 4))) (jK (m5 (jK (mq mE (jA 1) (wC (.int 3))) (jK (wC (.int 0)) ae))) (jK (wC (.int 1)) ae)))) (jK (m5 (jK (mq mE (jA 1) (wC (.int 4))) (jK (m5 (jK (mq mE (jA 1) (wC (.int 4))) (jK (wC (.int 0)) (jK (wC (.int 0)) ae)))) (jK (wC (.int 1)) ae)))) ae)))))) (mx 3))
  (mz (nE (oY (jA 2)) (mU (nw (rK (jA 3) (nI (jK (m5 (jK (mq mE (jA 1) (wC (.int 1))) (jK (wC (.int 1)) (jK (wC (.int 0)) ae)))) (jK (m5 (jK (mq mE (jA 1) (wC (.int 0))) (jK (m5 (jK (mq mE (jA 1) (wC (.int 4))) (jK (wC (.int 0)) (jK (wC (.int 1)) ae)))) ae))) ae)))))) nB)
  (mU (nw (rK (jA 3) (nI (jK (wC (.int 0)) (jK (wC (.int 1)) (jK (m5 (jK (mq mE (jA 1) (wC (.int 3))) (jK (wC (.int 1)) ae))) (jK (m5 (jK (mq mE (jA 1) (wC (.int 5))) ae)) ae)))))))))))))
def F3 (r:Nat) (self:mI):WS:=(mz (mr (mG (A7 r) (jK (mG (uN r) (jK (jA 9) ae)) (jK (jA 2) (jK (jA 4) ae)))) (mx 10))
  (mz (mr (mG (uI r) (jK (jA 0) (jK (mq om (mq om (mq om (jA 1) (wC (.int 2))) (mq (oK rD λi j=> .int (i*j)) (wC (.int 2)) (jA 6))) (jA 8)) ae))) (mx 11))
  (oZ (wM pJ qz (jA 5) (jK (m5 (jK (mq mE (jA 3) (wB oQ (jK (jA 5) ae))) (jK (jA 9) (jK (mq mE (jA 10) (mq (oK (λ_ j=>0<j) λi j=> .int (i % j)) (jA 11) (wB oQ (jK (jA 10) ae)))) ae)))) ae)))))
def Gh (r:Nat) (self:mI):WS:=(mz (mr (mG (BY r) (jK (mq (oK (λ_ j=>0<j) λi j=> .int (i % j)) (mG (uI r) (jK (jA 0) (jK (mq om (jA 1) (jA 6)) ae))) (wC (.int 6))) (jK (mq mE (jA 2) (jA 6)) (jK (mq mE (jA 2) (wC (.int 2))) (jK (mq mE (jA 2) (wC (.int 3))) ae))))) (mx 7))
  (oC (ut (jA 7)) (pC (nP (mx 8) (nP (mx 9) o6))) (F3 r mH)))
def Bh:Nat→mI
 |0=>mH
 |r+1=>nz 12 5 (mz (mr (nw (nI ae)) (mx 5))
  (mz (oC (t7 (jK (wC (.int 2)) ae)) (mx 6) (Gh r mH))
  (mU (jA 5))))
def MO (r:Nat) (self:mI):WS:=(mr (nw (ug (vc (jA 4) oz (ou (qY (wC (.int 2))))) (nI (jK (m5 (jK (qY (wC (.int 1))) (jK (wC (.int 0)) (jK (mq mE (jA 2) (wC (.int 4))) (jK (oB (jA 4) (ou (qY (wC (.int 2)))) oz) ae))))) ae)))) (mx 4))
def Mf (r:Nat) (self:mI):WS:=(mz (mr (mq (oK (λ_ j=>0<j) λi j=> .int (i % j)) (jA 6) (wC (.int 8))) (mx 7))
  (mz (mr (tY (nI (jK (wC (.int 0)) (jK (wC (.int 0)) (jK (wC (.int 1)) (jK (wC (.int 2)) ae))))) (wB ud (jK (jA 7) (jK (wC (.int 3)) ae)))) (mx 8))
  (mz (mr (m5 (jK (qY (wC (.int 1))) (jK (wC (.int 0)) (jK (mq mE (jA 2) (tY (nI (jK (wC (.int 2)) (jK (wC (.int 5)) (jK (wC (.int 3)) (jK (wC (.int 4)) ae))))) (wB ud (jK (jA 7) (jK (wC (.int 3)) ae))))) ae)))) (mx 9))
  (mz (nE (nA (mq uA (jA 7) (wC (.int 3)))) (mz (mr (mq (oK (λ_ j=>0<j) λi j=> .int (i % j)) (mq (oK su λi j=> .int (i / j)) (jA 6) (wC (.int 8))) (wB oQ (jK (jA 1) ae))) (mx 10))
  (mz (mr (mG (uN r) (jK (mq mE (mq mE (jA 1) (jA 10)) (wC (.int 1))) ae)) (mx 8))
  (mz (mr (m5 (jK (jA 10) (jK (mq (oK (λ_ j=>0<j) λi j=> .int (i % j)) (mq (oK su λi j=> .int (i / j)) (jA 6) (wC (.int 64))) (wC (.int 8))) (jK (wC (.str "")) ae)))) (mx 9))
  (mr (mq om (jA 5) (wC (.int 1))) (mx 5))))) nB)
  (nE (rH (nA (mq uA (jA 3) (wC (.int 0)))) (nA (mq uM (jA 5) (wC (.int 5))))) (mz (mr (mq (rA λi j=> .int (i - j)) (jA 3) (wC (.int 1))) (mx 3))
  (mz (mr (nw (wU (xw (nI (jK (m5 (jK (qY (wC (.int 1))) (jK (wC (.int 0)) (jK (mq mE (jA 2) (wC (.int 2))) (jK (nw (nI ae)) ae))))) ae)) (mq (rA λi j=> .int (i - j)) (jA 8) (wB oQ (jK (jA 4) ae)))) (jA 4))) (mx 4))
  (mz (mr (mq (rA λi j=> .int (i - j)) (wB oQ (jK (jA 4) ae)) (jA 8)) (mx 11))
  (mr (nw (ug (vc (jA 4) oz (ou (jA 11))) (nI (jK (mq om (jA 9) (m5 (jK (oB (jA 4) (ou (jA 11)) oz) ae))) ae)))) (mx 4))))) nB)))))
def Bj:Nat→mI
 |0=>mH
 |r+1=>nz 12 4 (mz (mr (nw (nI ae)) (mx 4))
  (mz (mr (wC (.int 0)) (mx 5))
  (mz (oC (oq (jA 0)) (mx 6) (Mf r mH))
  (mz (wE (nA (mq uA (wB oQ (jK (jA 4) ae)) (wC (.int 1)))) (MO r mH))
  (mU (tY (rK (jA 4) (nI (jK (m5 (jK (qY (wC (.int 1))) (jK (wC (.int 0)) (jK (mq mE (jA 2) (wC (.int 5))) (jK (nw (nI ae)) ae))))) ae))) (wC (.int 0))))))))
def Ia (r:Nat) (self:mI):WE:=(mG self (jK (jA 0) (jK (jA 1) (jK (jA 2) ae))))
def yu:Nat→mI
 |0=>mH
 |r+1=>nz 8 3 (mz (mr (jA 0) (pC (nP (mx 3) (nP (mx 4) (nP (mx 5) (nP (mx 6) o6))))))
  (mz (mr (nw (o9 1 [1,2] (oq (jA 6)) (mx 0) py (Ia r (yu r)))) (mx 7))
  (mz (nE (nA (mq uM (jA 3) (wC (.int 0)))) (mU (mq om (m5 (jK (jA 5) ae)) (wB rE (jK (jA 7) ae)))) nB)
  (mz (nE (nA (mq (oG false) (mq (oK (λ_ j=>0<j) λi j=> .int (i % j)) (mq (oK su λi j=> .int (i / j)) (jA 4) (jA 2)) (wC (.int 2))) (wC (.int 1)))) (mU (mq om (m5 (jK (mq mE (mq mE (jA 1) (jA 3)) (wC (.int 0))) ae)) (wB rE (jK (jA 7) ae)))) nB)
  (mU (mG (vg r) (jK (mq mE (mq mE (jA 1) (jA 3)) (wC (.int 1))) (jK (jA 7) ae))))))))
def GC (r:Nat) (self:mI):WS:=(nE (nA (mq (oG false) (mq mE (jA 4) (wC (.int 0))) (mq mE (jA 1) (wC (.int 0))))) (mU (mG (vg r) (jK (mq mE (jA 4) (jA 2)) (jK (jA 3) ae)))) nB)
def Mr (r:Nat) (self:mI):WE:=(mG self (jK (jA 1) (jK (jA 0) (jK (jA 2) ae))))
def ze:Nat→mI
 |0=>mH
 |r+1=>nz 5 3 (mz (mr (nw (o9 1 [0,2] (oq (oB (jA 1) (ou (wC (.int 1))) oz)) (mx 0) py (Mr r (ze r)))) (mx 3))
  (mz (oC (oq (jA 0)) (mx 4) (GC r mH))
  (mU (mq om (oB (jA 1) oz (ou (wC (.int 1)))) (wB rE (jK (jA 3) ae))))))
def Hj (r:Nat) (self:mI):WE:=(mq om (m5 (jK (jA 1) ae)) (jA 0))
def Ey (r:Nat) (self:mI):WS:=(mr (nw (rK (jA 1) (o9 1 [2] (oq (mG self (jK (jA 3) ae))) (mx 0) py (Hj r mH)))) (mx 1))
def uZ:Nat→mI
 |0=>mH
 |r+1=>nz 4 1 (mz (mr (nw (nI (jK (m5 ae) ae))) (mx 1))
  (mz (nE (tm (oY (r8 "int" (jA 0)))) (oC (ut (oB (jA 0) (ou (wC (.int 1))) oz)) (pC (nP (mx 2) (nP (mx 3) o6))) (Ey r (uZ r))) nB)
  (mU (jA 1))))
def FH (r:Nat) (self:mI):WS:=(mr (mq mE (jA 0) (mq om (jA 2) (wC (.int 1)))) (mx 0))
def yV:Nat→mI
 |0=>mH
 |r+1=>nz 3 2 (mz (oC (oq (jA 1)) (mx 2) (FH r mH))
  (mU (jA 0)))
def Hm (r:Nat) (self:mI):WE:=(mG self (jK (jA 0) (jK (jA 1) ae)))
def wa:Nat→mI
 |0=>mH
 |r+1=>nz 2 2 (mz (nE (oY (r8 "int" (jA 0))) (mU (wC (.bl true))) nB)
  (mz (nE (tI (nA (mq (oG true) (mq mE (jA 0) (wC (.int 0))) (mq mE (jA 1) (wC (.int 0))))) (nA (mq (oG true) (wB oQ (jK (jA 0) ae)) (wB oQ (jK (jA 1) ae))))) (mU (wC (.bl false))) nB)
  (mU (qL tT (o9 2 [] (td (oB (jA 0) (ou (wC (.int 1))) oz) (oB (jA 1) (ou (wC (.int 1))) oz)) (pC (nP (mx 0) (nP (mx 1) o6))) py (Hm r (wa r)))))))
def FM (r:Nat) (self:mI):WS:=(nE (oY (mG (wa r) (jK (mq mE (jA 4) (wC (.int 1))) (jK (mG (yV r) (jK (jA 1) (jK (jA 3) ae))) ae)))) (oZ (wM pJ qz (jA 2) (jK (m5 (jK (jA 3) (jK (mq mE (jA 4) (wC (.int 0))) ae))) ae))) nB)
def Dt (r:Nat) (self:mI):WS:=(oC (oq (jA 0)) (mx 4) (FM r mH))
def uS:Nat→mI
 |0=>mH
 |r+1=>nz 5 2 (mz (mr (nw (nI ae)) (mx 2))
  (mz (oC (oq (mG (uZ r) (jK (jA 1) ae))) (mx 3) (Dt r mH))
  (mU (jA 2))))
def C0 (r:Nat) (self:mI):WS:=(mr (mq om (jA 2) (mG self (jK (jA 3) (jK (jA 4) ae)))) (mx 2))
def u9:Nat→mI
 |0=>mH
 |r+1=>nz 5 2 (mz (nE (oY (r8 "int" (jA 0))) (mU (nw (nI (jK (jA 1) ae)))) nB)
  (mz (mr (nw (nI ae)) (mx 2))
  (mz (oC (td (oB (jA 0) (ou (wC (.int 1))) oz) (oB (jA 1) (ou (wC (.int 1))) oz)) (pC (nP (mx 3) (nP (mx 4) o6))) (C0 r (u9 r)))
  (mU (jA 2)))))
def xm:Nat→mI
 |0=>mH
 |r+1=>nz 4 3 (mz (nE (nA (mq (oG false) (jA 1) (m5 ae))) (mU (jA 2)) nB)
  (mz (mr (mq om (mq mE (jA 1) (wC (.int 0))) (wC (.int 1))) (mx 3))
  (mU (mq om (mq om (oB (jA 0) oz (ou (jA 3))) (m5 (jK (mG (xm r) (jK (mq mE (jA 0) (jA 3)) (jK (oB (jA 1) (ou (wC (.int 1))) oz) (jK (jA 2) ae)))) ae))) (oB (jA 0) (ou (mq om (jA 3) (wC (.int 1)))) oz)))))
def Mc (r:Nat) (self:mI):WS:=(nE (oY (mG (wa r) (jK (mq mE (jA 4) (wC (.int 1))) (jK (jA 3) ae)))) (mU (mG (xm r) (jK (jA 1) (jK (jA 2) (jK (mG (vg r) (jK (mq mE (jA 4) (wC (.int 2))) (jK (mG (u9 r) (jK (mq mE (jA 4) (wC (.int 1))) (jK (jA 3) ae))) ae))) ae))))) nB)
def xO:Nat→mI
 |0=>mH
 |r+1=>nz 5 3 (mz (mr (mG (yV r) (jK (jA 1) (jK (jA 2) ae))) (mx 3))
  (mz (oC (oq (jA 0)) (mx 4) (Mc r mH))
  (mU (jA 1))))
def Ea (r:Nat) (self:mI):WS:=(mz (mr (mG (uS r) (jK (jA 0) (jK (jA 3) ae))) (mx 6))
  (nE (rH (nA (mq uA (wB oQ (jK (jA 6) ae)) (wC (.int 0)))) (nA (mq uM (wB oQ (jK (jA 4) ae)) (wC (.int 7))))) (mz (oZ (wM pJ qz (jA 4) (jK (mq mE (mq mE (jA 6) (mq (oK (λ_ j=>0<j) λi j=> .int (i % j)) (jA 5) (wB oQ (jK (jA 6) ae)))) (wC (.int 0))) ae)))
  (mr (mG (xO r) (jK (jA 0) (jK (jA 3) (jK (mq mE (jA 4) (qY (wC (.int 1)))) ae)))) (mx 3))) nB))
def B8:Nat→mI
 |0=>mH
 |r+1=>nz 7 3 (mz (mr (jA 1) (mx 3))
  (mz (mr (nw (nI ae)) (mx 4))
  (mz (oC (oq (jA 2)) (mx 5) (Ea r mH))
  (mU (m5 (jK (jA 4) (jK (jA 3) ae)))))))
def K' (r:Nat) (self:mI):WE:=(mq mE (jA 0) (wC (.int 0)))
def Ft (r:Nat) (self:mI):WS:=(mz (nE (nA (mq (uD true) (jA 3) (nw (o9 1 [] (oq (mG (uS r) (jK (jA 0) (jK (jA 1) ae)))) (mx 0) py (K' r mH))))) (mU (wC .cc)) nB)
  (mr (mG (xO r) (jK (jA 0) (jK (jA 1) (jK (jA 3) ae)))) (mx 1)))
def A5:Nat→mI
 |0=>mH
 |r+1=>nz 4 3 (mz (oC (oq (jA 2)) (mx 3) (Ft r mH))
  (mU (jA 1)))
def Dd (r:Nat):WS:=(mU (mq (oG false) (mG (A5 r) (jK (jA 3) (jK (jA 4) (jK (mG (AZ r) (jK (jA 3) (jK (jA 7) ae))) ae)))) (jA 6)))
def D8 (r:Nat) (T:WS):WS:=(mz (nE (rH (nA (mq (oG false) (wB oQ (jK (mG (uS r) (jK (jA 3) (jK (jA 6) ae))) ae)) (wC (.int 0)))) (nA (mq (oG true) (jA 6) (jA 10)))) (mU (wC (.bl false))) nB) T)
def Db (r:Nat) (T:WS):WS:=(mz (nE (tI (nA (mq (oG true) (mG (zo r) (jK (jA 3) (jK (jA 8) ae))) (jA 10))) (nA (mq (oG true) (mG (uS r) (jK (jA 3) (jK (jA 10) ae))) (nw (nI ae))))) (mU (wC (.bl false))) nB) T)
def C3 (r:Nat) (self:mI):WS:=(mr (mG (ze r) (jK (jA 3) (jK (jA 11) (jK (wC (.int 2)) ae)))) (mx 10))
def D2 (r:Nat) (T:WS):WS:=(mz (oC (oq (mq mE (jA 8) (wC (.int 1)))) (mx 11) (C3 r mH)) T)
def CW (r:Nat) (T:WS):WS:=(mz (mr (jA 4) (mx 10)) T)
def E5 (r:Nat) (T:WS):WS:=(mz (nE (tI (nA (mq (pk true) (jA 9) (wC (.bl true)))) (tI (nA (mq (pk true) (mG (Be r) (jK (jA 3) (jK (jA 8) ae))) (wC (.bl true)))) (nA (mq (pk true) (mG (Az r) (jK (jA 3) (jK (jA 7) (jK (jA 8) ae)))) (wC (.bl true)))))) (mU (wC (.bl false))) nB) T)
def Dm (r:Nat) (T:WS):WS:=(mz (mr (mG (B2 r) (jK (jA 3) (jK (jA 4) (jK (wC (.int 9)) ae)))) (pC (nP (mx 8) (nP (mx 9) o6)))) T)
def Eb (r:Nat) (T:WS):WS:=(mz (mr (mG (A8 r) (jK (jA 3) (jK (jA 4) (jK (jA 5) ae)))) (mx 7)) T)
def Ez (r:Nat) (T:WS):WS:=(mz (mr (mG (B8 r) (jK (jA 3) (jK (jA 4) (jK (oB (jA 0) (ou (wC (.int 25))) (ou (wC (.int 63)))) ae)))) (pC (nP (mx 5) (nP (mx 6) o6)))) T)
def EI (r:Nat) (T:WS):WS:=(mz (mr (mG (yu r) (jK (mG (Bj r) (jK (oB (jA 0) (ou (wC (.int 10))) (ou (wC (.int 25)))) (jK (jA 3) (jK (jA 1) (jK (wC (.int 7)) ae))))) (jK (jA 3) (jK (wC (.int 8)) ae)))) (mx 4)) T)
def CZ (r:Nat) (T:WS):WS:=(mz (mr (mG (Bh r) (jK (jA 0) (jK (wC (.int 4)) (jK (jA 1) (jK (jA 2) (jK (wC (.bl false)) ae)))))) (mx 3)) T)
def Fo (r:Nat) (T:WS):WS:=(mz (mr (mG (xU r) (jK (mG (uI r) (jK (jA 0) (jK (wC (.int 2)) ae))) (jK (mG (uI r) (jK (jA 0) (jK (wC (.int 3)) ae))) (jK (wC (.bl true)) ae)))) (mx 2)) T)
def Fc (r:Nat) (T:WS):WS:=(mz (mr (mG (xU r) (jK (mG (uI r) (jK (jA 0) (jK (wC (.int 0)) ae))) (jK (mG (uI r) (jK (jA 0) (jK (wC (.int 1)) ae))) (jK (wC (.bl false)) ae)))) (mx 1)) T)
def wQ:Nat→mI
 |0=>mH
 |r+1=>nz 12 1 (Fc r (Fo r (CZ r (EI r (Ez r (Eb r (Dm r (E5 r (CW r (D2 r (Db r (D8 r (Dd r)))))))))))))
def yG{E:ah→li→Prop}(h:Q (.bW (af t.dI)) S):xj (r+1) [kY t] S Q E:=by
 rw[xj];cases t with
 |bl n=>
  simp only[kY];ext;exact⟨aO _,S, .refl,h⟩
 |nd s ts=>
  simp only[kY];ext;exact⟨S, .refl,h⟩
mutual
def Tr.pl (p:List Int):Tr→List (List Int)
 | .bl _=>[p]
 | .nd _ ts=>p::qv p 0 ts
def qv (p:List Int) (i:Nat):List Tr→List (List Int)
 | []=>[]
 |t::ts=>t.pl (p++[(i:Int)])++qv p (i+1) ts
end
mutual
theorem Ln:∀(t:Tr) (p:List Int),(t.pl p).length=t.aq
 | .bl _,p=>by simp [Tr.pl,Tr.aq]
 | .nd _ ts,p=>by simp [Tr.pl,Tr.aq,M3 ts p 0];lia
theorem M3:∀(ts:List Tr) (p:List Int) (i:Nat),(qv p i ts).length=mJ ts
 | [],p,i=>by simp [qv,mJ]
 |t::ts,p,i=>by simp [qv,mJ,Ln t,M3 ts p (i+1)]
end
def Kv:om (mB p) (.bW [.int i]) S Q=(p.length+1≤sizeLine∧Q (mB (p++[i])) S):=by
 unfold mB;rw[Fs];simp
mutual
theorem LF:∀(t:Tr) {r:Nat}{p:List Int}{a:ai}{xs:List W}{S:li}{Q:WK}{E:ah→li→Prop},t.depth≤r→S a=aa (.bO xs)→xs.length+t.aq≤1000000→p.length+t.depth≤1000000→
  Q .cc (bR S a (.bO (xs++(t.pl p).map mB)))→v8 (r+1) [kY t,mB p, .ref a] S Q E
 | .bl n,r,p,a,xs,S,Q,E,hr,ha,hx,hp,h=>by
  obtain⟨r,rfl⟩:∃r',r=r'+1:=⟨r - 1,by simp [Tr.depth]at hr;lia⟩
  rw[v8];ext;simp only[m8 ha,true_and];simp [Tr.aq]at hx;refine⟨qC (by lia),?_⟩;refine yG ?_;simp only[Tr.dI,af,pL,mO];simp only[Tr.pl,aC,cr]at h;exact⟨_, .refl,h⟩
 | .nd s ts,r,p,a,xs,S,Q,E,hr,ha,hx,hp,h=>by
  simp only[Tr.depth]at hr hp;simp only[Tr.aq]at hx;obtain⟨r,rfl⟩:∃r',r=r'+1:=⟨r - 1,by lia⟩
  rw[v8];ext;simp only[m8 ha,true_and];refine⟨qC (by lia),?_⟩;refine yG ?_;dsimp only[Tr.dI];refine HV ts (xs:=xs++[mB p]) (by lia) mR (by simp;lia) (by lia) λx y=>?_;rw[pN];refine⟨_, .refl,?_⟩;simpa [Tr.pl,bD]using h
theorem HV:∀(ts:List Tr) {r:Nat}{p:List Int}{i:Nat}{a:ai}{xs:List W}{S:li}{E:WX}{D:mY}{t0 x y:Option W},m_ ts≤r→S a=aa (.bO xs)→xs.length+mJ ts≤1000000→p.length+1+m_ ts≤1000000→
  (∀x y,D.nx [t0,aa (mB p),aa (.ref a),x,y] (bR S a (.bO (xs++(qv p i ts).map mB))))→
  mO (pC (nP (mx 3) (nP (mx 4) o6))) (Dv (r+1) (v8 (r+1))) E D (λ_=>True) (pL i (af ts)) [t0,aa (mB p),aa (.ref a),x,y] S
 | [],r,p,i,a,xs,S,E,D,t0,x,y,hr,ha,hx,hp,h=>by
  simp only[af,pL,mO];have:=h x y;simp only[qv,cr,bg,sH ha]at this;exact this
 |t::ts,r,p,i,a,xs,S,E,D,t0,x,y,hr,ha,hx,hp,h=>by
  simp only[m_]at hr hp;simp only[mJ]at hx;simp only[af,pL,mO,Dv];ext;rw[Kv];refine⟨m7 (by lia),m7 (by lia),LF t (p:=p++[(i:Int)]) (by lia) ha (by lia) (by simp;lia) ?_⟩;refine⟨_, .refl,HV ts (by lia) mR (by simp [Ln];lia) (by lia) λx y=>?_⟩;rw[pN];simpa [qv,bD]using h x y
end
def UC{E:ah→li→Prop}(hr:t.depth+1≤r) (hw:t.aq≤100000) (hd:t.depth≤100000) (h:∀a,S a=none→Q (.ref a) (bR S a (.bO ((t.pl []).map mB)))):AU (r+1) [kY t] S Q E:=by
 obtain⟨r,rfl⟩:∃r',r=r'+1:=⟨r - 1,by lia⟩
 rw[AU];ext;refine⟨aO _,λa ha=>⟨aO _,LF t (p:=[]) (xs:=[]) (by lia) mR (by simp;lia) (by simp;lia) ?_⟩⟩;rw[pN,aX];exact⟨_, .refl,h a ha⟩
def Tr.at:Tr→List Int→Option Tr
 |t,[]=>aa t
 | .bl _,_::_=>none
 | .nd _ ts,i::p=>if i<0 then none else match ts[i.toNat]? with
  |some u=>u.at p
  |none=>none
def Sb{E:ah→li→Prop}(hi:0≤i) (hu:t.dI[i.toNat]? =aa u) (h:Q (kY u) S):Cm (r+2) [kY t, .int i] S Q E:=by
 rw[Cm];ext;refine yG ?_;have hl:i.toNat<t.dI.length:=(b7.mp hu).1;ext;rw[pH];rw[if_neg (by lia),if_neg (by lia)];have e:nC (af t.dI) i=aa (kY u):=by
  have q:=sk (xs:=af t.dI) (n:=i.toNat);rw[cm hi]at q;rw[q,o5,aU,hu];rfl
 rw[e];exact⟨S, .refl,h⟩
def VB:∀{t u:Tr}{r:Nat}{S:li}{E:WX}{D:mY}{x y z:Option W},t.at p=aa u→(∀z,D.nx [x,y,aa (kY u),z] S)→
  mO (mx 3) (Eh (r+2) mH) E D (λ_=>True) (p.map W.int) [x,y,aa (kY t),z] S:=by
 induction p with
 |nil=>
  intro t u r S E D x y z e h;unfold Tr.at at e;cases e;exact h z
 |cons i p ih=>
  intro t u r S E D x y z e h;cases t with
  |bl n=>cases e
  |nd s ts=>
   unfold Tr.at at e;split at e
   ·cases e
   ·rename_i hi;split at e
    ·rename_i v ev;simp only[aC,mO,Eh];ext;refine Sb (t:= .nd s ts) (u:=v) (by lia) ev ⟨S, .refl,?_⟩;exact ih e h
    ·cases e
def GJ{E:ah→li→Prop}(e:t.at p=aa u) (h:Q (kY u) S):Aj (r+3) [kY t,mB p] S Q E:=by
 rw[Aj];ext;unfold mB;dsimp only;exact VB e λz=>⟨S, .refl,h⟩
def sF (c:Nat):Prop:=97≤c∧c≤122
def ow (x:ah):Prop:=1≤x.cps.toList.length∧x.cps.toList.length≤8∧ ∀c∈x.cps.toList,sF c
def p7 (x:ah):Prop:=∃c r,x.cps.toList=c::r∧65≤c∧c≤90∧r.length≤7∧ ∀d∈r,sF d
def TL:(bG "abcdefghijklmnopqrstuvwxyz").cps.toList=f9 97 26:=by decide +kernel
def Vj:(bG "abcdefghijklmnopqrstuvwxyz").length=26:=by decide +kernel
theorem Oy:∀cs:List Nat,(dq (bG "") (cs.map λc=>(⟨#[c]⟩:ah))).cps.toList=cs
 | []=>rfl
 | [c]=>rfl
 |c::d::r=>by
  have ih:=Oy (d::r);show((⟨#[c]⟩:ah)++bG "" ++dq (bG "") ((d::r).map λc=>(⟨#[c]⟩:ah))).cps.toList=_;show(#[c]++(bG "").cps++(dq (bG "") ((d::r).map λc=>(⟨#[c]⟩:ah))).cps).toList=_;rw[iY,iY,ih];rfl
def TQ (cs:List Nat):((cs.map λc=>(⟨#[c]⟩:ah)).map (·.length)).sum=cs.length:=by
 induction cs with
 |nil=>rfl
 |cons c r ih=>
  rw[aC,aC,kR,ih,aT];show 1+r.length=r.length+1;lia
theorem JF:∀cs:List Nat,u6 (cs.map λc=>W.str ⟨#[c]⟩)=aa (cs.map λc=>(⟨#[c]⟩:ah))
 | []=>rfl
 |c::cs=>by rw[aC,u6,JF cs];rfl
def Qn (cs:List Nat) (h:cs.length≤1000):(List.map (λx=>x.length) (cs.map λc=>(⟨#[c]⟩:ah))).sum+(cs.map λc=>(⟨#[c]⟩:ah)).length*(bG "").length≤16777216:=by
 have e:=TQ cs;have z:(bG "").length=0:=by decide +kernel
 rw[e,z];lia
def Jm{lo:Int}{n:Nat}:(sG lo n).length=n:=by simp [sG]
def Ya{α:Type}{xs:List α}(n:Int) (h:xs≠ []):∃(i:Nat) (x:α),xs[i]? =aa x∧nC xs (n % (xs.length:Int))=aa x:=by
 have hp:0<xs.length:=ki.mpr h;have h0:0≤n % (xs.length:Int):=c7 _ (by lia);have h1:n % (xs.length:Int)<(xs.length:Int):=dh _ (by lia);have hlt:(n % (xs.length:Int)).toNat<xs.length:=by lia
 refine⟨(n % (xs.length:Int)).toNat,xs[(n % (xs.length:Int)).toNat],aR hlt,?_⟩;have e:=Lu (xs:=xs) (j:=(n % (xs.length:Int)).toNat) (v:=xs[(n % (xs.length:Int)).toNat]) (aR hlt);rw[cm h0]at e;exact e
def xA (ts us:List Tr):af (ts++us)=af ts++af us:=by rw[o5,o5,o5,bM]
def P0 (ts:List Tr) (n:Nat):(af ts).take n=af (ts.take n):=by rw[o5,o5,jx]
def Sc (ts:List Tr) (n:Nat):(af ts).drop n=af (ts.drop n):=by rw[o5,o5,je]
mutual
def Tr.plt (p:List Int):Tr→List (List Int×Tr)
 | .bl n=>[(p, .bl n)]
 | .nd s ts=>(p, .nd s ts)::oJ p 0 ts
def oJ (p:List Int) (i:Nat):List Tr→List (List Int×Tr)
 | []=>[]
 |t::ts=>t.plt (p++[(i:Int)])++oJ p (i+1) ts
end
mutual
theorem w_:∀(t:Tr) (p:List Int),(t.plt p).map (·.1)=t.pl p
 | .bl _,p=>by simp [Tr.plt,Tr.pl]
 | .nd _ ts,p=>by simp [Tr.plt,Tr.pl,LM ts p 0]
theorem LM:∀(ts:List Tr) (p:List Int) (i:Nat),(oJ p i ts).map (·.1)=qv p i ts
 | [],p,i=>by simp [oJ,qv]
 |t::ts,p,i=>by simp [oJ,qv,w_ t,LM ts p (i+1)]
end
mutual
theorem vA:∀(t:Tr) (p:List Int),(t.plt p).length=t.aq
 | .bl _,p=>by simp [Tr.plt,Tr.aq]
 | .nd _ ts,p=>by simp [Tr.plt,Tr.aq,Os ts p 0];lia
theorem Os:∀(ts:List Tr) (p:List Int) (i:Nat),(oJ p i ts).length=mJ ts
 | [],p,i=>by simp [oJ,mJ]
 |t::ts,p,i=>by simp [oJ,mJ,vA t,Os ts p (i+1)]
end
def Ng{s:ah}{ts:List Tr}{i:Nat}{q:List Int}{u:Tr}(h:ts[i]? =aa u):(Tr.nd s ts).at ((i:Int)::q)=u.at q:=by
 rw[Tr.at,if_neg (by lia)];simp [h]
mutual
theorem xg:∀(t:Tr) (p q:List Int) (u:Tr),(q,u)∈t.plt p→ ∃r,q=p++r∧t.at r=aa u∧r.length<t.depth
 | .bl n,p,q,u,h=>by
  simp only[Tr.plt,bi,dC]at h;obtain⟨rfl,rfl⟩:=h;exact⟨[],by simp,by simp [Tr.at],by simp [Tr.depth]⟩
 | .nd s ts,p,q,u,h=>by
  simp only[Tr.plt,az,dC]at h;obtain ⟨rfl,rfl⟩ |h:=h
  ·exact⟨[],by simp,by simp [Tr.at],by simp [Tr.depth];lia⟩
  ·obtain⟨j,v,r,h1,h2,h3,h4⟩:=Mk ts p 0 q u h;refine⟨(j:Int)::r,by rw[h2];simp,by rw[Ng h1];exact h3,by simp [Tr.depth];lia⟩
theorem Mk:∀(ts:List Tr) (p:List Int) (i:Nat) (q:List Int) (u:Tr),(q,u)∈oJ p i ts→ ∃(j:Nat) (v:Tr) (r:List Int),ts[j]? =aa v∧q=p++[((i+j:Nat):Int)]++r∧v.at r=aa u∧r.length<m_ ts
 | [],p,i,q,u,h=>by simp [oJ]at h
 |t::ts,p,i,q,u,h=>by
  simp only[oJ,bp]at h;obtain h |h:=h
  ·obtain⟨r,h1,h2,h3⟩:=xg t _ q u h;exact⟨0,t,r,rfl,by simpa using h1,h2,by simp [m_];lia⟩
  ·obtain⟨j,v,r,h1,h2,h3,h4⟩:=Mk ts p (i+1) q u h;refine⟨j+1,v,r,by simpa using h1,?_,h3,by simp [m_];lia⟩
   rw[h2,show i+1+j=i+(j+1) by lia]
end
def keep (f:S a=aa o) (h:S p=none):bR S p x a=aa o:=by rw[nO (Bd f h)];exact f
def sw:List (List Int×Tr)→Nat
 | []=>0
 |x::xs=>x.2.aq+sw xs
theorem p5:∀{ts:List Tr},u∈ts→u.depth≤m_ ts
 |t::ts,h=>by
  obtain rfl |h:=az.mp h
  ·simp [m_];lia
  ·have:=p5 h;simp [m_];lia
theorem p9{α:Type}{G:li→Prop}{Q:List W→li→Prop}(I:mS→Prop) (k f:α→W) (hG:G S):∀(xs:List α) (acc:List W) (σ:mS),I σ→acc.length+xs.length≤1000000→
  (∀x∈xs,∀σ (R:mS→W→li→Prop),I σ→(∀σ1 S3,I σ1→Sub S S3→R σ1 (f x) S3)→g (k x) σ S λσ1 S1=>e E σ1 S1 λy S3=>R σ1 y S3)→
  Q (acc++xs.map f) S→sI g py e E G Q (xs.map k) acc σ S
 | [],acc,σ,hI,hl,step,hQ=>by simpa [sI]using hQ
 |x::xs,acc,σ,hI,hl,step,hQ=>by
  simp only[aC,sI,py,if_true];simp only[aT]at hl;refine step x aK σ _ hI λσ1 S3 hI1 sb=>⟨qC (by lia),S,sb,hG,p9 I k f hG xs (acc++[f x]) σ1 hI1 (by simp;lia) (λy hy=>step y (aI _ hy)) ?_⟩;simpa using hQ
theorem CB{α:Type}{G:li→Prop}{Q:List W→li→Prop}(I:mS→Prop) (k f:α→W) (P:α→Bool) (hG:G S):∀(xs:List α) (acc:List W) (σ:mS),I σ→acc.length+xs.length≤1000000→
  (∀x∈xs,∀σ (R1:mS→W→li→Prop) (R0:mS→li→Prop),I σ→(P x=true→ ∀σ1 S3,I σ1→Sub S S3→R1 σ1 (f x) S3)→(P x=false→ ∀σ1 S3,I σ1→Sub S S3→R0 σ1 S3)→
   g (k x) σ S λσ1 S1=>c E σ1 S1 λb S2=>if b=true then e E σ1 S2 λy S3=>R1 σ1 y S3 else R0 σ1 S2)→
  Q (acc++(xs.filter P).map f) S→sI g c e E G Q (xs.map k) acc σ S
 | [],acc,σ,hI,hl,step,hQ=>by simpa [sI]using hQ
 |x::xs,acc,σ,hI,hl,step,hQ=>by
  simp only[aC,sI];simp only[aT]at hl;refine step x aK σ _ _ hI (λhp σ1 S3 hI1 sb=>⟨qC (by lia),S,sb,hG,CB I k f P hG xs (acc++[f x]) σ1 hI1 (by simp;lia) (λy hy=>step y (aI _ hy)) ?_⟩)
   λhp σ1 S3 hI1 sb=>⟨S,sb,hG,CB I k f P hG xs acc σ1 hI1 (by lia) (λy hy=>step y (aI _ hy)) ?_⟩
  ·rw[List.filter_cons_of_pos hp]at hQ;simpa using hQ
  ·rw[jX (by rw[hp];simp)]at hQ;exact hQ
def Tr.isBl:Tr→Bool
 | .bl _=>true
 | .nd _ _=>false
def Tr.num:Tr→Int
 | .bl n=>n
 | .nd _ _=>0
def Tr.bls (t:Tr):List (List Int×Tr):=(t.plt []).filter λx=>x.2.isBl
def wR{t:Tr}{x:List Int×Tr}(h:x∈t.bls):t.at x.1=aa x.2∧x.2= .bl x.2.num∧x.1.length<t.depth:=by
 obtain⟨h1,h2⟩:=dG.mp h;obtain⟨r,h3,h4,h5⟩:=xg t [] x.1 x.2 h1;simp at h3;subst h3;refine⟨h4,?_,h5⟩;obtain⟨p,u⟩:=x;cases u with
 |bl n=>rfl
 |nd s ts=>simp [Tr.isBl]at h2
def yb (t:Tr):t.bls.length≤t.aq:=by
 unfold Tr.bls;exact aY (gJ ..) (by rw[vA];exact aA _)
def F8{E:ah→li→Prop}(hr:t.depth+4≤r) (hw:t.aq≤90000) (h:∀a,S a=none→Q (.ref a) (bR S a (.bO (t.bls.map λx=>mB x.1)))):xx (r+1) [kY t] S Q E:=by
 have hd:=Mw t;obtain⟨r,rfl⟩:∃r',r=r'+3:=⟨r - 3,by lia⟩
 rw[xx];ext;refine UC (by lia) (by lia) (by lia) λa ha=>?_;ext;rw[←w_,bu];refine CB (λσ=>∃x,σ=[x,aa (kY t)]) (λx=>mB x.1) (λx=>mB x.1) (λx=>x.2.isBl) ?_ (t.plt []) [] _ ⟨none,rfl⟩ (by simp [vA];lia) (λx hx σ R1 R0 hI h1 h0=>?_) ?_
 ·exact mR
 ·obtain⟨y,rfl⟩:=hI;obtain⟨q,h3,h4,h5⟩:=xg t [] x.1 x.2 hx;simp at h3;subst h3;ext;refine GJ h4 ?_;obtain⟨p,u⟩:=x;cases u with
  |bl n=>
   simp only[kY];ext;exact h1 rfl _ _ ⟨_,rfl⟩ .refl
  |nd s ts=>
   simp only[kY];ext;exact h0 rfl _ _ ⟨_,rfl⟩ .refl
 ·rw[aX];intro b hb;obtain⟨hb1,hb2⟩:=rh hb;exact⟨_, .put2 (.bR .refl ha),h b hb1⟩
mutual
def Tr.aD (us:List Tr):Tr→Tr
 | .bl n=>us.getD n.toNat (.bl n)
 | .nd s ts=> .nd s (aF us ts)
def aF (us:List Tr):List Tr→List Tr
 | []=>[]
 |t::ts=>t.aD us::aF us ts
end
mutual
def Tr.bt (m:Nat):Tr→Prop
 | .bl n=>0≤n∧n<m
 | .nd _ ts=>m3 m ts
def m3 (m:Nat):List Tr→Prop
 | []=>True
 |t::ts=>t.bt m∧m3 m ts
end
theorem vp (us:List Tr):∀ts:List Tr,aF us ts=ts.map (Tr.aD us)
 | []=>by simp [aF]
 |t::ts=>by simp [aF,vp us ts]
theorem wb:∀{ts:List Tr},m3 m ts→t∈ts→t.bt m
 |u::ts,h,hm=>by
  simp only[m3]at h;obtain rfl |hm:=az.mp hm
  ·exact h.1
  ·exact wb h.2 hm
theorem C_:∀(d:Nat) {t:Tr}{r:Nat}{S:li}{Q:WK}{E:ah→li→Prop},t.depth≤d→d≤r+1→S a=aa (.bO (af us))→t.bt us.length→t.aq≤90000→Q (kY (t.aD us)) S→uK (r+1) [kY t, .ref a] S Q E
 |0,t,r,S,Q,E,hd,hr,ha,hf,hw,h=>by have:=qB t;lia
 |d+1, .bl n,r,S,Q,E,hd,hr,ha,hf,hw,h=>by
  simp only[Tr.bt]at hf;simp only[Tr.aD]at h;rw[uK];simp only[kY];ext;have e:nC (af us) n=aa (kY (us.getD n.toNat (.bl n))):=by
   have q:=sk (xs:=af us) (n:=n.toNat);rw[cm hf.1]at q;rw[q,o5,aU,bv,aR (by lia)];rfl
  rw[m8 ha,e];exact⟨S, .refl,h⟩
 |d+1, .nd s ts,r,S,Q,E,hd,hr,ha,hf,hw,h=>by
  simp only[Tr.bt]at hf;simp only[Tr.aD]at h;simp only[Tr.depth]at hd;simp only[Tr.aq]at hw;have hk:=qF ts;rw[uK];simp only[kY]at h⊢;ext;refine⟨m7 (by decide),?_⟩;rw[o5];refine p9 (λσ=>∃x,σ=[x,aa (.ref a)]) kY (λt=>kY (t.aD us)) trivial ts [] _ ⟨none,rfl⟩ (by simp;lia) (λx hx σ R hI hR=>?_) ?_
  ·obtain⟨y,rfl⟩:=hI;have hdx:=p5 hx;have hwx:=pf hx;have:=qB x;obtain⟨r,rfl⟩:∃r',r=r'+1:=⟨r - 1,by lia⟩
   simp only[Li];ext;exact C_ d (t:=x) (r:=r) (by lia) (by lia) ha (wb hf hx) (by lia) (hR _ _ ⟨_,rfl⟩ .refl)
  ·rw[aX];refine⟨m7 (by simp;lia),S, .refl,?_⟩;have e:af (aF us ts)=ts.map λt=>kY (t.aD us):=by rw[o5,vp,bu];rfl
   rw[e]at h;exact h
def Tr.bR:Tr→List Int→Tr→Tr
 |_,[],u=>u
 | .bl n,_::_,_=> .bl n
 | .nd s ts,i::p,u=>match ts[i.toNat]? with
  |some v=> .nd s (ts.set i.toNat (v.bR p u))
  |none=> .nd s ts
def pq (t:Tr):t.at []=aa t:=by cases t<;>rfl
def tq (t u:Tr):t.bR [] u=u:=by cases t<;>rfl
def pP (h:(Tr.nd s ts).at (i::p)=aa u):∃v,0≤i∧ts[i.toNat]? =aa v∧v.at p=aa u:=by
 unfold Tr.at at h;split at h
 ·cases h
 ·split at h
  ·exact⟨_,by lia, ‹_›,h⟩
  ·cases h
theorem vi:∀(q:List Int) {D t:Tr}(r:List Int),D.at q=aa t→D.at (q++r)=t.at r
 | [],D,t,r,h=>by rw[pq]at h;cases h;rfl
 |i::q, .bl n,t,r,h=>by cases h
 |i::q, .nd s ts,t,r,h=>by
  obtain⟨v,h0,h1,h2⟩:=pP h;rw[cj];have e:(i:Int)=((i.toNat:Nat):Int):=(cm h0).symm;rw[e,Ng h1];exact vi q r h2
def tD (h:ts[i.toNat]? =aa v):(Tr.nd s ts).bR (i::p) u= .nd s (ts.set i.toNat (v.bR p u)):=by
 rw[Tr.bR,h]
def Dx:nY S 60 (mB p) (.bW [])=aa p.isEmpty:=by
 cases p<;>rfl
theorem Ov:∀(p:List Int) {t v:Tr}{r:Nat}{S:li}{Q:WK}{E:ah→li→Prop},t.at p=aa v→p.length≤r→t.aq≤90000→p.length≤90000→Q (kY (t.bR p u)) S→xm (r+1) [kY t,mB p,kY u] S Q E
 | [],t,v,r,S,Q,E,h,hr,hw,hp,q=>by
  rw[tq]at q;rw[xm];ext;rw[Dx];exact⟨aO _,S, .refl,q⟩
 |i::p, .bl n,v,r,S,Q,E,h,hr,hw,hp,q=>by cases h
 |i::p, .nd s ts,v,r,S,Q,E,h,hr,hw,hp,q=>by
  obtain⟨w,h0,h1,h2⟩:=pP h;obtain⟨j,rfl⟩:∃j:Nat,i=j:=⟨i.toNat,(cm h0).symm⟩;rw[bb]at h1;rw[tD (by rw[bb];exact h1),bb]at q;simp only[aT]at hr hp;simp only[Tr.aq]at hw;have hk:=qF ts;have hl:=(b7.mp h1).1;have hm:=pf (aJ h1);obtain⟨r,rfl⟩:∃r',r=r'+1:=⟨r - 1,by lia⟩
  rw[xm];ext;rw[Dx];simp only[iW,cF,if_false];have ep:mB ((j:Int)::p)= .bW (.int j::p.map W.int):=rfl;simp only[ep,kY];ext;rw[show((j:Int)+1)=((j+1:Nat):Int) by lia,sk,bU,o5,aU,h1]
  dsimp only[Option.map];rw[show((j+1:Nat):Int)+1=((j+2:Nat):Int) by lia,CH,AV]
  refine⟨aO _,Ov p (r:=r) h2 (by lia) (by lia) (by lia) ?_⟩;simp only[kS,List.drop_succ_cons,←o5,P0,Sc];ext;simp only[pH,cY,cI];refine⟨m7 (by decide),m7 (by lia),m7 (by simp only[a_,pH,cY,aT,di,cI];lia),S, .refl,?_⟩;have e:kY (.nd s (ts.set j (w.bR p u)))= .bW (.str s::(af (ts.take j)++[kY (w.bR p u)]++af (ts.drop (j+1)))):=by
   simp only[kY];rw[List.set_eq_take_append_cons_drop,if_pos hl,xA];simp [af]
  rw[e]at q;simpa using q
mutual
def Tr.same:Tr→Tr→Bool
 | .bl n, .bl m=>n == m
 | .nd s ts, .nd z us=>s == z&&sD ts us
 |_,_=>false
def sD:List Tr→List Tr→Bool
 | [],[]=>true
 |t::ts,u::us=>t.same u&&sD ts us
 |_,_=>false
end
mutual
theorem ET:∀(t u:Tr),t.same u=true↔t=u
 | .bl n, .bl m=>by simp [Tr.same]
 | .nd s ts, .nd z us=>by simp [Tr.same,LQ ts us]
 | .bl n, .nd z us=>by simp [Tr.same]
 | .nd s ts, .bl m=>by simp [Tr.same]
theorem LQ:∀(ts us:List Tr),sD ts us=true↔ts=us
 | [],[]=>by simp [sD]
 |t::ts,u::us=>by simp [sD,ET t u,LQ ts us]
 | [],u::us=>by simp [sD]
 |t::ts,[]=>by simp [sD]
end
def yD (t:Tr):t.same t=true:=(ET t t).mpr rfl
def Nl{S:li}{n:Nat}{xs ys:List W}:nY S (n+1) (.bW xs) (.bW ys)=oV (nY S n) xs ys:=gj (b:=oV (nY S n) xs ys) rfl rfl
def Xu{S:li}{n:Nat}{x y:ah}:nY S (n+1) (.str x) (.str y)=aa (x == y):=gj (b:=aa (x == y)) rfl rfl
def Ly{S:li}{n:Nat}{x y:Int}:nY S (n+1) (.int x) (.int y)=aa (x == y):=gj (b:=aa (x == y)) rfl rfl
def Zz{S:li}{n:Nat}{x:Int}{ys:List W}:nY S (n+1) (.int x) (.bW ys)=aa false:=gj (b:=aa false) rfl rfl
def UQ{S:li}{n:Nat}{x:Int}{ys:List W}:nY S (n+1) (.bW ys) (.int x)=aa false:=gj (b:=aa false) rfl rfl
mutual
theorem wT{S:li}:∀(n:Nat) (t u:Tr),t.depth<n→nY S n (kY t) (kY u)=aa (t.same u)
 |0,t,u,h=>by lia
 |n+1, .bl k, .bl m,h=>by simp only[kY,Ly,Tr.same]
 |n+1, .nd s ts, .nd z us,h=>by
  simp only[Tr.depth]at h;obtain⟨n,rfl⟩:∃m,n=m+1:=⟨n - 1,by lia⟩
  simp only[kY,Nl,oV,Xu,Tr.same];rw[KO (n+1) ts us (by lia)]
 |n+1, .bl k, .nd z us,h=>by simp only[kY,Zz,Tr.same]
 |n+1, .nd s ts, .bl m,h=>by simp only[kY,UQ,Tr.same]
theorem KO{S:li}:∀(n:Nat) (ts us:List Tr),m_ ts<n→oV (nY S n) (af ts) (af us)=aa (sD ts us)
 |n,[],[],h=>by simp only[af,oV,sD]
 |n,[],u::us,h=>by simp only[af,oV,sD]
 |n,t::ts,[],h=>by simp only[af,oV,sD]
 |n,t::ts,u::us,h=>by
  simp only[m_]at h;simp only[af,oV,sD,wT n t u (by lia),KO n ts us (by lia)]
end
def KF (j:Int) (m:Nat):sG j (m+1)= .int j::sG (j+1) m:=by
 unfold sG;rw[gI,aC,bu];congr 1
 ·simp
 ·apply dt;intro i _;simp only[kM,W.int.injEq];lia
def EK{α:Type}{xs:List α}{i:Int}(h0:0≤i) (h1:i<xs.length):∃x,nC xs i=aa x∧x∈xs:=by
 have q:=sk (xs:=xs) (n:=i.toNat);rw[cm h0,aR (by lia)]at q;exact⟨_,q,eE ..⟩
def PK{ss:List ah}{i:Int}(h0:0≤i) (h1:i<ss.length):∃x,nC (ss.map W.str) i=aa (.str x)∧x∈ss:=by
 obtain⟨w,h,m⟩:=EK (xs:=ss.map W.str) h0 (by simpa using h1);obtain⟨x,hx,rfl⟩:=aV.mp m;exact⟨x,h,hx⟩
def LY{g:WG}{b:WS}{E:WX}{D:mY}(I:Nat→mS→li→Prop) (n:Nat)
  (step:∀i,i<n→ ∀σ S (N:mS→li→Prop),I i σ S→(∀σ' S' S'',Sub S'' S'→I (i+1) σ' S''→N σ' S')→g (.int i) σ S λσ1 S1=>b E { D with nx:=N,ct:=N,bk:=D.nx } σ1 S1)
  (done:∀σ S,I n σ S→D.nx σ S) {σ:mS}{S:li}(h:I 0 σ S):mO g b E D (λ_=>True) (sG 0 n) σ S:=by
 refine ED (λws σ S=>∃i,i≤n∧ws=sG (i:Int) (n - i)∧I i σ S) ?_ ?_ _ _ _ ⟨0,aO _,rfl,h⟩
 ·rintro w ws σ S N ⟨i,hi,e,hI⟩ hN;obtain⟨m,hm⟩:∃m,n - i=m+1:=by
   obtain z |z:=gO (n - i)
   ·rw[z]at e;cases e
   ·exact⟨n - i - 1,by lia⟩
  rw[hm,KF]at e;cases e;exact step i (by lia) σ S N hI λσ' S' S'' sb h'=>hN σ' S' S'' sb trivial ⟨i+1,by lia,by rw[show n - (i+1)=m by lia];push_cast;rfl,h'⟩
 ·rintro σ S ⟨i,hi,e,hI⟩;have:n - i=0:=by
   obtain z |z:=gO (n - i)
   ·exact z
   ·obtain⟨m,hm⟩:∃m,n - i=m+1:=⟨n - i - 1,by lia⟩
    rw[hm,KF]at e;cases e
  rw[show i=n by lia]at hI
  exact done σ S hI
theorem Lw:∀{ts:List Tr}{i:Nat}{v u:Tr},ts[i]? =aa v→mJ (ts.set i u)+v.aq=mJ ts+u.aq
 | [],i,v,u,h=>by simp at h
 |t::ts,0,v,u,h=>by
  simp at h;subst h;rw[ml,tB,tB];lia
 |t::ts,i+1,v,u,h=>by
  have:=Lw (ts:=ts) (i:=i) (v:=v) (u:=u) (by simpa using h);rw[lB,tB,tB];lia
theorem Gz:∀(p:List Int) {D u v:Tr},D.at p=aa v→(D.bR p u).aq+v.aq=D.aq+u.aq
 | [],D,u,v,h=>by rw[pq]at h;cases h;rw[tq];lia
 |i::p, .bl n,u,v,h=>by cases h
 |i::p, .nd s ts,u,v,h=>by
  obtain⟨w,h0,e1,e2⟩:=pP h;rw[tD e1];have h1:=Gz p (u:=u) e2;have h2:=Lw (u:=w.bR p u) e1;simp only[Tr.aq];lia
mutual
theorem M5{us:List Tr}{k:Nat}(hk:1≤k) (hu:∀u∈us,u.aq≤k):∀t:Tr,(t.aD us).aq≤t.aq*k
 | .bl n=>by
  simp only[Tr.aD,Tr.aq,cZ];rw[bv];cases e:us[n.toNat]? with
  |none=>simpa [Tr.aq]using hk
  |some u=>exact hu u (aJ e)
 | .nd s ts=>by
  have:=LI hk hu ts;simp only[Tr.aD,Tr.aq];rw[ck];lia
theorem LI{us:List Tr}{k:Nat}(hk:1≤k) (hu:∀u∈us,u.aq≤k):∀ts:List Tr,mJ (aF us ts)≤mJ ts*k
 | []=>by simp [aF,mJ]
 |t::ts=>by
  have:=M5 hk hu t;have:=LI hk hu ts;simp only[aF,mJ];rw[ck];lia
end
theorem MV{k:Nat}:∀{ts:List Tr},(∀t∈ts,t.depth≤k)→m_ ts≤k
 | [],_=>by simp [m_]
 |t::ts,h=>by
  have:=h t aK;have:=MV (ts:=ts) λu hu=>h u (aI _ hu);simp only[m_];lia
def pT{G:li→Prop}(h:∀N:mS→li→Prop,(∀σ S S',Sub S' S→G S'→mO g b E D G ws σ S'→N σ S)→g w σ S λσ1 S1=>b E { D with nx:=N,ct:=N,bk:=D.nx } σ1 S1):mO g b E D G (w::ws) σ S:=h _ λσ S S' a c d=>⟨S',a,c,d⟩
mutual
def Tr.mt:Tr→Tr→Option (List Tr)
 | .bl _,t=>aa [t]
 | .nd s ls, .nd z us=>if s == z&&ls.length == us.length then nM ls us else none
 | .nd _ _, .bl _=>none
def nM:List Tr→List Tr→Option (List Tr)
 | [],_=>aa []
 |_::_,[]=>aa []
 |l::ls,u::us=>match l.mt u with
  |none=>none
  |some xs=>match nM ls us with
   |none=>none
   |some ys=>aa (xs++ys)
end
def Xg{E:ah→li→Prop}(h:Q (.bl (s == z&&ls.length == us.length)) S):BH (r+1) [kY (.nd s ls),kY (.nd z us)] S Q E:=by
 rw[BH];simp only[kY];ext;cases e:s == z with
 |false=>
  rw[e]at h;exact⟨_, .refl,h⟩
 |true=>
  rw[e]at h;ext;refine⟨_, .refl,?_⟩;have:(((af ls).length+1:Nat):Int)=((af us).length+1:Nat)↔ls.length=us.length:=by rw[pH,pH];lia
  have e2:((((af ls).length+1:Nat):Int) == ((af us).length+1:Nat))=(ls.length == us.length):=by
   rw[fZ,beq_iff_eq,beq_iff_eq];exact this
  rw[e2];simpa using h
mutual
theorem F4:∀(l t:Tr) (ys:List Tr),l.mt t=aa ys→ys.length≤l.aq
 | .bl _,t,ys,h=>by simp only[Tr.mt,bH]at h;subst h;simp [Tr.aq]
 | .nd s ls, .nd z us,ys,h=>by
  simp only[Tr.mt]at h;split at h
  ·have:=Lx ls us ys h;simp only[Tr.aq];lia
  ·cases h
 | .nd _ _, .bl _,ys,h=>by simp [Tr.mt]at h
theorem Lx:∀(ls us ys:List Tr),nM ls us=aa ys→ys.length≤mJ ls
 | [],us,ys,h=>by simp only[nM,bH]at h;subst h;simp
 |l::ls,[],ys,h=>by simp only[nM,bH]at h;subst h;simp
 |l::ls,u::us,ys,h=>by
  simp only[nM]at h;split at h
  ·cases h
  ·rename_i xs e1;split at h
   ·cases h
   ·rename_i zs e2;cases h;have:=F4 l u xs e1;have:=Lx ls us zs e2;simp only[a_,mJ];lia
end
theorem Jz:∀(ls us:List Tr)
  (one:∀l∈ls,∀{t:Tr}{S:li}{xs:List W}{Q:WK}{E:ah→li→Prop},t.bt 0→S a=aa (.bO xs)→xs.length+l.aq≤100000→(∀ys,l.mt t=aa ys→Q (.bl true) (bR S a (.bO (xs++af ys))))→(l.mt t=none→ ∀ys,Q (.bl false) (bR S a (.bO (xs++ys))))→u_ r [kY l,kY t, .ref a] S Q E)
  {S:li}{xs:List W}{x3 x4:Option W},m3 0 us→S a=aa (.bO xs)→xs.length+mJ ls≤100000→
  (∀ys x3 x4,nM ls us=aa ys→D.nx [x0,x1,aa (.ref a),x3,x4] (bR S a (.bO (xs++af ys))))→(nM ls us=none→ ∀ys,D.rt (.bl false) (bR S a (.bO (xs++ys))))→
  mO (pC (nP (mx 3) (nP (mx 4) o6))) (EU r (u_ r)) E D (λ_=>True) (m4 (af ls) (af us)) [x0,x1,aa (.ref a),x3,x4] S
 | [],us,one,S,xs,x3,x4,hf,ha,hl,h1,h0=>by
  have q:=h1 [] x3 x4 (by simp [nM]);simp only[af,bg,sH ha]at q;simpa [af,m4,mO]using q
 |l::ls,[],one,S,xs,x3,x4,hf,ha,hl,h1,h0=>by
  have q:=h1 [] x3 x4 (by simp [nM]);simp only[af,bg,sH ha]at q;simpa [af,m4,mO]using q
 |l::ls,u::us,one,S,xs,x3,x4,hf,ha,hl,h1,h0=>by
  simp only[m3]at hf;simp only[mJ]at hl;simp only[af,m4];refine pT λN hN=>?_;simp only[EU];ext;refine one l aK hf.1 ha (by lia) (λys e=>?_) λe ys=>?_
  ·ext;have hyl:=F4 l u ys e;refine hN _ _ _ .refl trivial (Jz ls us (λl' hl'=>one l' (aI _ hl')) hf.2 mR (by rw[a_,pH];lia) (λzs x3 x4 e2=>?_) λe2 zs=>?_)
   ·rw[pN,bD,←xA];exact h1 _ _ _ (by simp only[nM,e,e2])
   ·rw[pN,bD];exact h0 (by simp only[nM,e,e2]) _
  ·ext;exact h0 (by simp only[nM,e]) ys
theorem NJ:∀(d:Nat) {l t:Tr}{r:Nat}{S:li}{xs:List W}{Q:WK}{E:ah→li→Prop},l.depth≤d→d≤r→t.bt 0→S a=aa (.bO xs)→xs.length+l.aq≤100000→
  (∀ys,l.mt t=aa ys→Q (.bl true) (bR S a (.bO (xs++af ys))))→(l.mt t=none→ ∀ys,Q (.bl false) (bR S a (.bO (xs++ys))))→u_ (r+1) [kY l,kY t, .ref a] S Q E
 |0,l,t,r,S,xs,Q,E,hd,hr,hf,ha,hl,h1,h0=>by have:=qB l;lia
 |d+1, .bl n,t,r,S,xs,Q,E,hd,hr,hf,ha,hl,h1,h0=>by
  have hw:=rN (.bl n);rw[u_];simp only[kY];ext;simp only[m8 ha,true_and];refine⟨qC (by lia),_, .refl,?_⟩;have:=h1 [t] (by simp [Tr.mt]);simpa only[af]using this
 |d+1, .nd s ls, .bl n,r,S,xs,Q,E,hd,hr,hf,ha,hl,h1,h0=>by
  simp only[Tr.bt]at hf;lia
 |d+1, .nd s ls, .nd z us,r,S,xs,Q,E,hd,hr,hf,ha,hl,h1,h0=>by
  simp only[Tr.bt]at hf;simp only[Tr.depth]at hd;simp only[Tr.aq]at hl;obtain⟨r,rfl⟩:∃r',r=r'+1:=⟨r - 1,by lia⟩
  have en:∀s ts,kY (.nd s ts)= .bW (.str s::af ts):=λs ts=>by simp [kY]
  rw[u_];ext;rw[en,en];ext;rw[←en,←en];refine Xg ?_;rw[en,en];ext;simp only[Tr.mt]at h1 h0;cases e:(s == z&&ls.length == us.length) with
  |false=>
   rw[e]at h0;have:=h0 (by simp) [];rw[bg,sH ha]at this;exact⟨_, .refl,this⟩
  |true=>
   rw[e]at h0 h1;simp only[if_true]at h0 h1;ext;refine Jz ls us (λl hl' {t S xs Q E} f1 f2 f3 f4 f5=>NJ d (by have:=p5 hl';lia) (by lia) f1 f2 f3 f4 f5) hf ha (by lia) (λys x3 x4 e=>?_) λe ys=>?_
   ·ext;exact⟨_, .refl,h1 ys e⟩
   ·exact⟨_, .refl,h0 e ys⟩
def AN{E:ah→li→Prop}(hr:l.depth<r) (hf:t.bt 0) (hw:l.aq≤90000) (h1:∀ys,l.mt t=aa ys→ ∀a,S a=none→Q (.ref a) (bR S a (.bO (af ys)))) (h0:l.mt t=none→Q .cc S):uf (r+1) [kY l,kY t] S Q E:=by
 obtain⟨r,rfl⟩:∃r',r=r'+1:=⟨r - 1,by lia⟩
 rw[uf];ext;refine⟨aO _,λa ha=>NJ l.depth (aA _) (by lia) hf mR (by simpa using(by lia:l.aq≤100000)) (λys e=>?_) λe ys=>?_⟩
 ·ext;exact⟨_, .refl,h1 ys e a ha⟩
 ·ext;exact⟨_, .bR .refl ha,h0 e⟩
mutual
theorem JZ:∀(l t:Tr) (ys:List Tr),l.mt t=aa ys→mJ ys≤t.aq
 | .bl _,t,ys,h=>by simp only[Tr.mt,bH]at h;subst h;simp [mJ]
 | .nd s ls, .nd z us,ys,h=>by
  simp only[Tr.mt]at h;split at h
  ·have:=Jk ls us ys h;simp only[Tr.aq];lia
  ·cases h
 | .nd _ _, .bl _,ys,h=>by simp [Tr.mt]at h
theorem Jk:∀(ls us ys:List Tr),nM ls us=aa ys→mJ ys≤mJ us
 | [],us,ys,h=>by simp only[nM,bH]at h;subst h;simp [mJ]
 |l::ls,[],ys,h=>by simp only[nM,bH]at h;subst h;simp [mJ]
 |l::ls,u::us,ys,h=>by
  simp only[nM]at h;split at h
  ·cases h
  ·rename_i xs e1;split at h
   ·cases h
   ·rename_i zs e2;cases h;have:=JZ l u xs e1;have:=Jk ls us zs e2;simp only[AO,mJ];lia
end
def w6 (c:Nat):Bool:=decide (97≤c)&&decide (c≤122)
def bo (xs:List Nat):Bool:=xs.all w6
def Vb{s:ah}{a:Nat}(hs:s.cps.toList=[a]) (c:Nat):(!decide ((⟨#[c]⟩:ah).cps.toList<s.cps.toList))=decide (a≤c):=by
 rw[hs];show(!decide (([c]:List Nat)< [a]))=_;by_cases h:a≤c
 ·rw[decide_eq_true h,decide_eq_false (λz=>by have:=(BB c a).mp z;lia)];rfl
 ·rw[decide_eq_false h,decide_eq_true ((BB c a).mpr (by lia))];rfl
def Zx{s:ah}{a:Nat}(hs:s.cps.toList=[a]) (c:Nat):(!decide (s.cps.toList<(⟨#[c]⟩:ah).cps.toList))=decide (c≤a):=by
 rw[hs];show(!decide (([a]:List Nat)< [c]))=_;by_cases h:c≤a
 ·rw[decide_eq_true h,decide_eq_false (λz=>by have:=(BB a c).mp z;lia)];rfl
 ·rw[decide_eq_false h,decide_eq_true ((BB a c).mpr (by lia))];rfl
def Yb:(bG "a").cps.toList=[97]:=by decide +kernel
def Vq:(bG "z").cps.toList=[122]:=by decide +kernel
def Hd (x:ah):(cW x (aa 1) none).cps.toList=x.cps.toList.drop 1:=by
 rw[Pa];unfold Bg;rw[HT.sIx_none];have ez:HT.sIx x.cps.toList.length 0 (aa 1)=min 1 x.cps.toList.length:=HT.sIx_nat x.cps.toList.length 0 1;rw[ez];by_cases h:1≤x.cps.toList.length
 ·rw[jN h,dD (by rw[cI];exact aA _)]
 ·have:x.cps.toList=[]:=kB (by lia);rw[this];rfl
def vM (x:ah):x.length=x.cps.toList.length:=by simp [iJ]
def NH (bs:List Bool):sE (bs.map W.bl)=aa bs:=by
 induction bs with
 |nil=>rfl
 |cons b bs ih=>rw[aC,sE,ih];rfl
def Gy{α:Type}(xs:List α) (f:α→Bool):((xs.map f).all _root_.id)=xs.all f:=by rw[fA];rfl
def Uo{E:ah→li→Prop}(hx:x.length≤1000) (h:Q (.bl (bo x.cps.toList)) S):BK (r+1) [.str x] S Q E:=by
 rw[vM]at hx;rw[BK];walk_at "wp";unfold AY;refine p9 (λσ=>∃x,σ=[x]) (λc=> .str ⟨#[c]⟩) (λc=> .bl (w6 c)) ?_ x.cps.toList [] _ ⟨none,rfl⟩ (by rw[di];lia) (λc hc σ R hI hR=>?_) ?_
 ·exact trivial
 ·obtain⟨y,rfl⟩:=hI;simp only[GI];walk_at "wp";rw[Vb Yb,Zx Vq];unfold w6 at hR;cases e:decide (97≤c) with
  |false=>rw[e]at hR;exact hR _ _ ⟨_,rfl⟩ .refl
  |true=>rw[e]at hR;exact hR _ _ ⟨_,rfl⟩ .refl
 ·have e:x.cps.toList.map (λc=>W.bl (w6 c))=(x.cps.toList.map w6).map W.bl:=by rw[bu];rfl
  rw[aX,e,NH];dsimp only;rw[Gy];exact⟨_, .refl,h⟩
mutual
theorem CI:∀(t:Tr) (p q:List Int) (u:Tr),t.at q=aa u→(p++q,u)∈t.plt p
 | .bl n,p,[],u,h=>by rw[pq]at h;cases h;simp [Tr.plt]
 | .bl n,p,i::q,u,h=>by cases h
 | .nd s ts,p,[],u,h=>by rw[pq]at h;cases h;simp [Tr.plt]
 | .nd s ts,p,i::q,u,h=>by
  obtain⟨v,h0,e1,e2⟩:=pP h;simp only[Tr.plt,az];refine .inr ?_;have:=Nx ts p 0 i.toNat q u v e1 e2;rw[bE,cm h0]at this;simpa using this
theorem Nx:∀(ts:List Tr) (p:List Int) (i j:Nat) (q:List Int) (u v:Tr),ts[j]? =aa v→v.at q=aa u→(p++((i+j:Nat):Int)::q,u)∈oJ p i ts
 | [],p,i,j,q,u,v,h1,h2=>by simp at h1
 |t::ts,p,i,0,q,u,v,h1,h2=>by
  simp at h1;subst h1;simp only[oJ,bp];refine .inl ?_;have:=CI t (p++[(i:Int)]) q u h2;simpa using this
 |t::ts,p,i,j+1,q,u,v,h1,h2=>by
  simp only[oJ,bp];refine .inr ?_;have:=Nx ts p (i+1) j q u v (by simpa using h1) h2;rw[show i+1+j=i+(j+1) by lia]at this
  exact this
end
def LR{t:Tr}{x:List Int×Tr}(h:x∈t.plt []):t.at x.1=aa x.2∧x.1.length<t.depth:=by
 obtain⟨q,h3,h4,h5⟩:=xg t [] x.1 x.2 h;simp at h3;subst h3;exact⟨h4,h5⟩
theorem v6{α:Type}{G:li→Prop}(hG:G S) (I:mS→Prop) (key:α→W) (f:α→Option W):∀(xs:List α) (σ:mS),I σ→
  (∀x∈xs,∀σ (N:mS→li→Prop),I σ→(f x=none→ ∀σ' S',I σ'→Sub S S'→N σ' S')→(∀w,f x=aa w→ ∀S',Sub S S'→D.rt w S')→g (key x) σ S λσ1 S1=>b E { D with nx:=N,ct:=N,bk:=D.nx } σ1 S1)→
  (xs.findSome? f=none→ ∀σ,I σ→D.nx σ S)→(∀w,xs.findSome? f=aa w→ ∀S',Sub S S'→D.rt w S')→mO g b E D G (xs.map key) σ S
 | [],σ,hI,step,done,ret=>by
  have:=done rfl σ hI;simpa [mO]using this
 |x::xs,σ,hI,step,done,ret=>by
  rw[aC];refine pT λN hN=>?_;refine step x aK σ N hI (λe σ' S' hI' sb=>?_) λw e S' sb=>ret w (by rw[eF,e]) S' sb;refine hN _ _ S sb hG (v6 hG I key f xs σ' hI' (λy hy=>step y (aI _ hy)) (λe2=>done (by rw[eF,e];exact e2)) λw e2=>ret w (by rw[eF,e];exact e2))
abbrev Tn:=ah×Tr×Tr
def mK (t:Tn):W:= .bW [.str t.1,kY t.2.1,kY t.2.2]
def Y5:Tn:=("", .bl 0, .bl 0)
def lf (ts:List Tn) (j:Nat):Tr:=(ts.getD j Y5).2.1
def Vs (n:Nat):sG 0 n=(bx n).map λ(i:Nat)=>W.int i:=by
 unfold sG;apply dt;intro i _;simp
theorem HS (hba:b≠a):∀(ts:List Tr) {S:li}{us:List Tr}{x2:Option W},S a=aa (.bO (af us))→S b=aa (.bO ps)→us.length+mJ ts≤200000→
  (∀x2,D.nx [x0,aa (.ref a),x2] (bR S a (.bO (af (us++ts.flatMap Tr.dI)))))→
  mO (mx 2) (yE (r+1) mH) E D (λS'=>S' b=aa (.bO ps)) (af ts) [x0,aa (.ref a),x2] S
 | [],S,us,x2,ha,hb,hl,h=>by
  have:=h x2;simp only[da,bg,sH ha]at this;simpa [af,mO]using this
 |t::ts,S,us,x2,ha,hb,hl,h=>by
  simp only[mJ]at hl;have hk:=qF t.dI;have hw:=CL t;simp only[af];refine pT λN hN=>?_;simp only[yE];ext;simp only[m8 ha,true_and];refine yG ?_;ext;rw[m8 ha];refine⟨m7 (by rw[pH,pH];lia),hN _ _ _ .refl (by rw[nO hba];exact hb) ?_⟩;rw[←xA];refine HS hba ts mR (by rw[nO hba];exact hb) (by rw[a_];lia) λx2=>?_;rw[pN];have:=h x2;rw[cq,←bD]at this;exact this
def YE{E:ah→li→Prop}(hb:S b=aa (.bO (af ts))) (hw:mJ ts≤100000) (h:∀a,S a=none→Q (.ref a) (bR S a (.bO (af (ts.flatMap Tr.dI))))):xQ (r+2) [.ref b] S Q E:=by
 rw[xQ];ext;refine⟨aO _,λa ha=>?_⟩;have hba:=Bd hb ha;rw[m8 (keep hb ha)];refine HS (us:=[]) hba ts (by simp [mR,af]) (keep hb ha) (by simpa using(by lia:mJ ts≤200000)) λx2=>?_;rw[pN];ext;exact⟨_, .refl,h a ha⟩
def Tr.bo (t:Tr):Bool:=decide (t.aq≤400)&&decide (t.depth≤40)
def Xa{E:ah→li→Prop}(hw:t.aq≤90000) (h:Q (.bl t.bo) S):wF (r+3) [kY t] S Q E:=by
 rw[wF];ext;refine⟨m7 (by decide),λa ha=>?_⟩;refine⟨λm σ S'=>∃(ts:List Tr) (k d:Nat) (b:ai),m=mJ ts∧k+mJ ts=t.aq∧d+m_ ts=t.depth∧k≤400∧d≤40∧S b=none∧S'=bR S b (.bO (af ts))∧σ=[aa (kY t),aa (.int k),aa (.int d),aa (.ref b)],⟨_,[t],0,0,a,rfl,by simp [mJ],by simp [m_],by decide,by decide,ha,by simp [af],rfl⟩,?_⟩
 rintro m σ S' ⟨ts,k,d,b,rfl,hwt,hk,hk4,hd4,hb,rfl,rfl⟩;ext;cases ts with
 |nil=>
  simp only[af,jH];ext;simp only[m_,mJ,dL]at hk hwt;have e:t.bo=true:=by unfold Tr.bo;rw[decide_eq_true (by lia),decide_eq_true (by lia)];rfl
  rw[e]at h;exact⟨_, .bR .refl hb,h⟩
 |cons u us=>
  have hne:(af (u::us)).isEmpty=false:=by simp [af]
  rw[hne];have hfl:=Fx (u::us);have hdf:=DT (ts:=u::us) (by simp);have hlw:=qF (u::us);simp only[DN];ext;rw[pH];have no:400<t.aq∨40<t.depth→ ∃S'',Sub S'' (bR S b (Ob.bO (af (u::us))))∧Q (W.bl false) S'':=λz=>by
   have e:t.bo=false:=by
    unfold Tr.bo;obtain z |z:=z
    ·rw[decide_eq_false (by lia)];rfl
    ·rw[decide_eq_false (p:=t.depth≤40) (by lia),gb]
   rw[e]at h;exact⟨_, .bR .refl hb,h⟩
  split
  ·exact no (.inl (by lia))
  ·split
   ·exact no (.inr (by lia))
   ·refine YE mR (by lia) λc hc=>?_;obtain⟨hc1,hc2⟩:=rh hc;refine⟨mJ ((u::us).flatMap Tr.dI),bR S c (.bO (af ((u::us).flatMap Tr.dI))),by simp only[aT]at hfl;lia, .put2 (.bR .refl hb),_,k+(u::us).length,d+1,c,rfl,by lia,by lia,by lia,by lia,hc1,rfl,?_⟩
    push_cast
    rfl
def xn{E:ah→li→Prop}(h0:0≤k) (h:∀n:Int,Q (.int n) S):uI (r+1) [.c6 ns, .int k] S Q E:=by
 rw[uI];ext;split
 ·obtain⟨x,e,_⟩:=EK (xs:=ns) (i:=k) h0 (by lia);rw[e];exact⟨S, .refl,h _⟩
 ·exact⟨S, .refl,h _⟩
def lt (rs:List Int) (pos:Int) (k j:Nat):Nat:=97+((rs.getD j 0+(k:Int)*(if(0+(j:Int) == pos)=true then 1 else 0)) % 26).toNat
def rG (rs:List Int) (pos:Int) (k:Nat):List Nat:=(bx rs.length).map (lt rs pos k)
def oo (rs:List Int) (pos:Int) (k:Nat):ah:=dq (bG "") ((rG rs pos k).map λc=>(⟨#[c]⟩:ah))
def Cu (rs:List Int) (pos:Int) (k:Nat):ah:=dZ ⟨#[lt rs pos k 0]⟩++cW (oo rs pos k) (aa 1) none
def wd (great:Bool) (rs:List Int) (pos:Int) (k:Nat):ah:=if great then Cu rs pos k else oo rs pos k
def xq (rs:List Int) (pos:Int) (k j:Nat):sF (lt rs pos k j):=by
 have h0:=c7 (rs.getD j 0+(k:Int)*(if(0+(j:Int) == pos)=true then 1 else 0)) (show(26:Int)≠0 by decide)
 have h1:=dh (rs.getD j 0+(k:Int)*(if(0+(j:Int) == pos)=true then 1 else 0)) (show(0:Int)<26 by decide)
 unfold lt sF;lia
def O7 (h0:0≤n) (h1:n<26):nC (bG "abcdefghijklmnopqrstuvwxyz").cps.toList n=aa (97+n.toNat):=by
 have e:=sk (xs:=(bG "abcdefghijklmnopqrstuvwxyz").cps.toList) (n:=n.toNat);rw[cm h0]at e;rw[e,TL,List.getElem?_range' (by lia)];simp
def BQ (rs:List Int) (pos:Int) (k:Nat):(oo rs pos k).cps.toList=rG rs pos k:=Oy _
def EH (rs:List Int) (pos:Int) (k:Nat):(rG rs pos k).length=rs.length:=by simp [rG]
def Jt (h:c∈rG rs pos k):sF c:=by
 obtain⟨j,_,rfl⟩:=aV.mp h;exact xq rs pos k j
def Xc (pos:Int) (k:Nat) (h:1≤rs.length):rG rs pos k=lt rs pos k 0::(rG rs pos k).drop 1:=by
 unfold rG;obtain⟨n,hn⟩:∃n,rs.length=n+1:=⟨rs.length - 1,by lia⟩
 rw[hn,gI];simp
def NS (h:sF c):dZ ⟨#[c]⟩=⟨#[c - 32]⟩:=by
 unfold sF at h;rw[PySem.W.KOpn.upper_one (by lia),if_pos h]
def JB (pos:Int) (k:Nat):(Cu rs pos k).cps.toList=(lt rs pos k 0 - 32)::(rG rs pos k).drop 1:=by
 unfold Cu;rw[NS (xq _ _ _ _)];show((#[lt rs pos k 0 - 32]:Array Nat)++(cW (oo rs pos k) (aa 1) none).cps).toList=_;rw[iY,Hd,BQ];rfl
structure rS (rs:List Int) (pos:Int):Prop where
  l1:1≤rs.length
  l8:rs.length≤8
  p0:0≤pos
  p1:pos<rs.length
def N2 (b:rS rs pos) (k:Nat):ow (oo rs pos k):=by
 unfold ow;rw[BQ,EH];exact⟨b.l1,b.l8,λc hc=>Jt hc⟩
def To (b:rS rs pos) (k:Nat):p7 (Cu rs pos k):=by
 have:=xq rs pos k 0;have hl:=b.l8;unfold sF at this;refine⟨_,_,JB pos k,by lia,by lia,by rw[cI,EH];lia,λd hd=>Jt (jJ hd)⟩
def W_ (b:rS rs pos) (hk:k<26) (hm:m<26) (h:k≠m):lt rs pos k pos.toNat≠lt rs pos m pos.toNat:=by
 have p0:=b.p0;have e:(0+((pos.toNat:Nat):Int) == pos)=true:=by rw[beq_iff_eq];lia
 unfold lt;rw[e,if_pos rfl];lia
def HA (b:rS rs pos) (hk:k<26) (hm:m<26) (h:k≠m):wd great rs pos k≠wd great rs pos m:=by
 have hn:=W_ b hk hm h;have p0:=b.p0;have p1:=b.p1;intro e;have e':=congrArg (λx:ah=>x.cps.toList) e;cases great with
 |false=>
  simp only[wd,cF,if_false,BQ]at e';have e2:=congrArg (λl=>l[pos.toNat]?) e';simp only[rG,aU,fN (show pos.toNat<rs.length by lia),gQ,bH]at e2
  exact hn e2
 |true=>
  simp only[wd,if_true,JB]at e';have e2:=congrArg (λl=>l[pos.toNat]?) e';cases hp:pos.toNat with
  |zero=>
   rw[hp]at hn;have h1:=xq rs pos k 0;have h2:=xq rs pos m 0;unfold sF at h1 h2;simp only[hp,jc,bH]at e2;lia
  |succ n=>
   rw[hp]at hn;simp only[hp,bU,mi,rG,aU]at e2;rw[show 1+n=n+1 by lia,fN (show n+1<rs.length by lia)]at e2
   simp only[gQ,bH]at e2;exact hn e2
def C9 (great:Bool) (ws:List ah):Prop:=∃rs pos,rS rs pos∧(ws=(bx 6).map (wd great rs pos)∨(great=false∧ws=[oo rs pos 0,oo rs pos 1,oo rs pos 2,oo rs pos 2,oo rs pos 2,oo rs pos 5]))
structure nU (w0 w1 w2 w3 w4 w5:ah):Prop where
  ok:∀x∈ [w0,w1,w2,w3,w4,w5],ow x
  n0:∀x∈ [w1,w2,w3,w4,w5],w0≠x
  n1:∀x∈ [w2,w3,w4,w5],w1≠x
  n5:∀x∈ [w2,w3,w4],w5≠x
def V8 (h:C9 false ws):∃w0 w1 w2 w3 w4 w5,ws=[w0,w1,w2,w3,w4,w5]∧nU w0 w1 w2 w3 w4 w5:=by
 obtain⟨rs,pos,b,h⟩:=h;have hs:=λk=>N2 b k;have hn:∀k m:Nat,k<26→m<26→k≠m→oo rs pos k≠oo rs pos m:=λk m h1 h2 h3=>HA (great:=false) b h1 h2 h3;obtain rfl |⟨_,rfl⟩:=h
 ·refine⟨_,_,_,_,_,_,rfl,⟨?_,?_,?_,?_⟩⟩
  ·simp only[az,bq,or_false,forall_eq_or_imp,forall_eq];exact⟨hs 0,hs 1,hs 2,hs 3,hs 4,hs 5⟩
  ·simp only[az,bq,or_false,forall_eq_or_imp,forall_eq];exact⟨hn 0 1 (by decide) (by decide) (by decide),hn 0 2 (by decide) (by decide) (by decide),hn 0 3 (by decide) (by decide) (by decide),hn 0 4 (by decide) (by decide) (by decide),hn 0 5 (by decide) (by decide) (by decide)⟩
  ·simp only[az,bq,or_false,forall_eq_or_imp,forall_eq];exact⟨hn 1 2 (by decide) (by decide) (by decide),hn 1 3 (by decide) (by decide) (by decide),hn 1 4 (by decide) (by decide) (by decide),hn 1 5 (by decide) (by decide) (by decide)⟩
  ·simp only[az,bq,or_false,forall_eq_or_imp,forall_eq];exact⟨hn 5 2 (by decide) (by decide) (by decide),hn 5 3 (by decide) (by decide) (by decide),hn 5 4 (by decide) (by decide) (by decide)⟩
 ·refine⟨_,_,_,_,_,_,rfl,⟨?_,?_,?_,?_⟩⟩
  ·simp only[az,bq,or_false,forall_eq_or_imp,forall_eq];exact⟨hs 0,hs 1,hs 2,hs 2,hs 2,hs 5⟩
  ·simp only[az,bq,or_false,forall_eq_or_imp,forall_eq];exact⟨hn 0 1 (by decide) (by decide) (by decide),hn 0 2 (by decide) (by decide) (by decide),hn 0 2 (by decide) (by decide) (by decide),hn 0 2 (by decide) (by decide) (by decide),hn 0 5 (by decide) (by decide) (by decide)⟩
  ·simp only[az,bq,or_false,forall_eq_or_imp,forall_eq];exact⟨hn 1 2 (by decide) (by decide) (by decide),hn 1 2 (by decide) (by decide) (by decide),hn 1 2 (by decide) (by decide) (by decide),hn 1 5 (by decide) (by decide) (by decide)⟩
  ·simp only[az,bq,or_false,forall_eq_or_imp,forall_eq];exact⟨hn 5 2 (by decide) (by decide) (by decide),hn 5 2 (by decide) (by decide) (by decide),hn 5 2 (by decide) (by decide) (by decide)⟩
structure pG (ts:List ah):Prop where
  len:ts.length=6
  ok:∀x∈ts,p7 x
  nd:ts.Nodup
def RU (h:C9 true ws):pG ws:=by
 obtain⟨rs,pos,b,h⟩:=h;obtain rfl |⟨e,_⟩:=h
 ·refine⟨by simp,λx hx=>?_,?_⟩
  ·obtain⟨k,_,rfl⟩:=aV.mp hx;exact To b k
  ·rw[i0,kE];refine l_.imp_of_mem (λ{a c} ha hc hne=>?_) (List.nodup_range (n:=6));have ha:=fI.mp ha;have hc:=fI.mp hc;exact HA b (by lia) (by lia) hne
 ·cases e
theorem LB:∀(ws:List W) {rs:List Int}{sp:Int}{a:ai}{r:Nat}{S:li}{E:WX}{D:mY}{x0 x1 x2 x3 x6 x7 x8 x9:Option W},S a=aa (.bO (rs.map W.int))→rs.length+ws.length≤1000→
  (∀(rs':List Int) sp' x6',rs'.length=rs.length+ws.length→D.nx [x0,x1,x2,x3,aa (.int sp'),aa (.ref a),x6',x7,x8,x9] (bR S a (.bO (rs'.map W.int))))→
  mO (mx 6) (Fa r mH) E D (λ_=>True) ws [x0,x1,x2,x3,aa (.int sp),aa (.ref a),x6,x7,x8,x9] S
 | [],rs,sp,a,r,S,E,D,x0,x1,x2,x3,x6,x7,x8,x9,ha,hl,h=>by
  simp only[mO];have:=h rs sp x6 (by simp);rw[sH ha]at this;exact this
 |w::ws,rs,sp,a,r,S,E,D,x0,x1,x2,x3,x6,x7,x8,x9,ha,hl,h=>by
  simp only[mO,Fa];ext;simp only[aT]at hl h;simp only[m8 ha,true_and];refine⟨by decide,qC (by simp;lia),⟨by decide,by decide⟩,_, .refl,?_⟩
  refine LB (r:=r) ws (rs:=rs++[sp % 26]) (by rw[mR];simp) (by simp;lia) λrs' sp' x6' h1=>?_;rw[pN];exact h rs' sp' x6' (by simp at h1;lia)
def zl{c:Prop} [Decidable c] {a b:Prop}(h1:c→a) (h2:¬c→b):if c then a else b:=by split<;>simp_all
def zb (h:∀T',T'=T→mz A T' E D σ S):mz A T E D σ S:=h T rfl
def Gr{E:ah→li→Prop}(h:∀(a:ai) (ws:List ah),S a=none→C9 great ws→Q (.ref a) (bR S a (.bO (ws.map W.str)))):xU (r+1) [.int one, .int two, .bl great] S Q E:=by
 rw[xU];ext;have o0:0≤one % 8:=c7 _ (by decide);have o1:one % 8<8:=dh _ (by decide);refine⟨⟨by decide,by decide,by decide⟩,by decide,aO _,λa ha=>⟨by decide,⟨by lia,by lia⟩,?_⟩⟩
 refine LB _ (rs:=[]) mR (by simp [Jm];lia) λrs sp x6 hl=>?_;rw[pN];simp only[di,Jm,bE]at hl;have hl':(rs.length:Int)=1+one % 8:=by rw[hl];lia
 have p0:0≤one / 8 % (rs.length:Int):=c7 _ (by lia);have p1:one / 8 % (rs.length:Int)<(rs.length:Int):=dh _ (by lia);have B:rS rs (one / 8 % (rs.length:Int)):=⟨by lia,by lia,p0,p1⟩
 ext;simp only[ay];refine⟨⟨by decide,by decide⟩,by lia,aO _,λb hb=>⟨⟨by decide,by decide⟩,?_⟩⟩
 obtain⟨hb1,hb2⟩:=rh hb;generalize hpos:one / 8 % (rs.length:Int)=pos at B p0 p1⊢;refine LY (λi σ S'=>∃x6 x9,S'=bR (bR S a (.bO (rs.map W.int))) b (.bO (((bx i).map (wd great rs pos)).map W.str))∧σ=[aa (.int one),aa (.int two),aa (.bl great),aa (.str (bG "abcdefghijklmnopqrstuvwxyz")),aa (.int sp),aa (.ref a),x6,aa (.int pos),aa (.ref b),x9]) 6 ?_ ?_ ⟨x6,none,rfl,rfl⟩
 ·rintro k hk σ S' N ⟨x6,x9,rfl,rfl⟩ hN;have ea:bR (bR S a (Ob.bO (rs.map W.int))) b (Ob.bO (((bx k).map (wd great rs pos)).map W.str)) a=aa (.bO (rs.map W.int)):=by rw[nO (bz hb2),mR]
  simp only[Hz];ext;rw[m8 ea];simp only[ay];refine⟨⟨by lia,by lia⟩,?_⟩
  rw[bb];refine p9 (λσ=>∃x,σ=[x,aa (.str (bG "abcdefghijklmnopqrstuvwxyz")),aa (.ref a),aa (.int (k:Int)),aa (.int pos)]) (λi:Nat=>W.int (0+(i:Int))) (λi=>W.str ⟨#[lt rs pos k i]⟩) trivial (bx rs.length) [] _ ⟨none,rfl⟩ (by simp;lia) (λi hi σ R hI hR=>?_) ?_
  ·obtain⟨x,rfl⟩:=hI;have hi:=fI.mp hi;simp only[Gp];ext;have e:=sk (xs:=rs.map W.int) (n:=i);rw[show(i:Int)=0+(i:Int) by lia,aU,aR hi]at e
   rw[m8 ea,e];dsimp only[Option.map];ext;have ec:=O7 (n:=(rs[i]+(k:Int)*(if(0+(i:Int) == pos)=true then 1 else 0)) % 26) (c7 _ (by decide)) (dh _ (by decide));rw[ec];have el:lt rs pos k i=97+((rs[i]+(k:Int)*(if(0+(i:Int) == pos)=true then 1 else 0)) % 26).toNat:=by
    unfold lt;rw[bv,aR hi];rfl
   rw[←el];exact⟨.inl ⟨by lia,by lia⟩,by decide,m7 (by rw[Vj];decide),hR _ _ ⟨_,rfl⟩ .refl⟩
  ·have es:(bx rs.length).map (λi=>W.str ⟨#[lt rs pos k i]⟩)=(rG rs pos k).map λc=>W.str ⟨#[c]⟩:=by
    unfold rG;rw[bu];rfl
   have hw:=N2 B k;rw[aX,es,JF];refine⟨Qn _ (by rw[EH];lia),?_⟩;show _;have ew:dq (bG "") ((rG rs pos k).map λc=>(⟨#[c]⟩:ah))=oo rs pos k:=rfl;rw[ew];have hl8:(oo rs pos k).length≤8:=by rw[vM];exact hw.2.1
   have fin:∀z:ah,z=wd great rs pos k→ ∀x9:Option W,N [aa (.int one),aa (.int two),aa (.bl great),aa (.str (bG "abcdefghijklmnopqrstuvwxyz")),aa (.int sp),aa (.ref a),aa (.int (k:Int)),aa (.int pos),aa (.ref b),x9] (bR (bR S a (.bO (rs.map W.int))) b (.bO (((bx k).map (wd great rs pos)).map W.str++[.str z]))):=λz hz x9=>by
    subst hz;refine hN _ _ _ .refl ⟨_,_,?_,rfl⟩;rw[g9,bM,bM];rfl
   have hxl:(((bx k).map (wd great rs pos)).map W.str).length<sizeLine:=qC (by simp;lia);cases great with
   |false=>
    try ext
    try simp only[yY,pN,true_and]
    exact⟨hxl,fin _ rfl _⟩
   |true=>
    ext;rw[BQ,Xc pos k B.l1,Cj];dsimp only
    try ext
    try simp only[yY,pN,true_and]
    refine⟨m7 (by lia),?_⟩;have h1:(⟨#[lt rs pos k 0]⟩:ah).length=1:=rfl;have h2:(dZ ⟨#[lt rs pos k 0]⟩).length=1:=by rw[NS (xq _ _ _ _)];rfl
    have h3:(cW (oo rs pos k) (aa 1) none).length≤8:=by
     rw[vM,Hd,cI,←vM];lia
    exact⟨by lia,m7 (by lia),m7 (by lia),hxl,fin _ rfl _⟩
 ·rintro σ S' ⟨x6,x9,rfl,rfl⟩;have eb:bR (bR S a (Ob.bO (rs.map W.int))) b (Ob.bO (((bx 6).map (wd great rs pos)).map W.str)) b=aa (.bO (((bx 6).map (wd great rs pos)).map W.str)):=mR;ext;cases great with
  |true=>
   ext;refine⟨⟨by decide,by decide⟩,by decide,?_⟩
   split
   ·exact⟨_, .put2 (.bR .refl ha),h b _ hb1 ⟨rs,pos,B, .inl rfl⟩⟩
   ·exact⟨_, .put2 (.bR .refl ha),h b _ hb1 ⟨rs,pos,B, .inl rfl⟩⟩
  |false=>
   ext;refine⟨⟨by decide,by decide⟩,by decide,?_⟩
   split
   ·have e6:((bx 6).map (wd false rs pos)).map W.str=[.str (oo rs pos 0), .str (oo rs pos 1), .str (oo rs pos 2), .str (oo rs pos 3), .str (oo rs pos 4), .str (oo rs pos 5)]:=rfl;simp only[e6]
    try ext
    have c3:o8 [W.str (oo rs pos 0), .str (oo rs pos 1), .str (oo rs pos 2), .str (oo rs pos 3), .str (oo rs pos 4), .str (oo rs pos 5)] none (aa 3)=[.str (oo rs pos 0), .str (oo rs pos 1), .str (oo rs pos 2)]:=rfl;have a2:nC [W.str (oo rs pos 0), .str (oo rs pos 1), .str (oo rs pos 2), .str (oo rs pos 3), .str (oo rs pos 4), .str (oo rs pos 5)] 2=aa (.str (oo rs pos 2)):=rfl;have a5:nC [W.str (oo rs pos 0), .str (oo rs pos 1), .str (oo rs pos 2), .str (oo rs pos 3), .str (oo rs pos 4), .str (oo rs pos 5)] 5=aa (.str (oo rs pos 5)):=rfl;simp only[c3,a2,a5]
    try ext
    refine⟨m7 (by decide),m7 (by decide),λc hc=>?_⟩;obtain⟨hc1,hc2⟩:=rh hc;obtain⟨hc1,hc3⟩:=rh hc1;exact⟨_, .put2 (.bR (.bR .refl ha) hb1),h c _ hc1 ⟨rs,pos,B, .inr ⟨rfl,rfl⟩⟩⟩
   ·exact⟨_, .put2 (.bR .refl ha),h b _ hb1 ⟨rs,pos,B, .inl rfl⟩⟩
mutual
def Tr.nb:Tr→Nat
 | .bl _=>1
 | .nd _ ts=>nbs ts
def nbs:List Tr→Nat
 | []=>0
 |t::ts=>t.nb+nbs ts
end
mutual
theorem Lp:∀(t:Tr) (p:List Int),((t.plt p).filter λx=>x.2.isBl).length=t.nb
 | .bl n,p=>by simp [Tr.plt,Tr.isBl,Tr.nb]
 | .nd s ts,p=>by
  have:=IB ts p 0;simpa [Tr.plt,Tr.isBl,Tr.nb]using this
theorem IB:∀(ts:List Tr) (p:List Int) (i:Nat),((oJ p i ts).filter λx=>x.2.isBl).length=nbs ts
 | [],p,i=>by simp [oJ,nbs]
 |t::ts,p,i=>by
  have h1:=Lp t (p++[(i:Int)]);have h2:=IB ts p (i+1);rw[oJ,kH,a_,h1,h2,nbs]
end
def Fg (t:Tr):t.bls.length=t.nb:=Lp t []
theorem NM:∀ts:List Tr,(ts.map λt=>(t.nb:Int)).sum=(nbs ts:Int)
 | []=>by simp [nbs]
 |t::ts=>by
  rw[aC,kR,NM ts,nbs];lia
def YX (ts:List Tr):qG (ts.map λt=>W.int (t.nb:Int))=aa (ts.map λt=>(t.nb:Int)):=by
 have:=FI (ts.map λt=>(t.nb:Int));rw[bu]at this;exact this
theorem EL:∀(d:Nat) {t:Tr}{r:Nat}{S:li}{Q:WK}{E:ah→li→Prop},t.depth≤d→d≤r+1→t.aq≤90000→Q (.int t.nb) S→uN (r+1) [kY t] S Q E
 |0,t,r,S,Q,E,hd,hr,hw,h=>by have:=qB t;lia
 |d+1, .bl n,r,S,Q,E,hd,hr,hw,h=>by
  rw[uN];simp only[kY];ext;simp only[Tr.nb]at h;exact⟨S, .refl,h⟩
 |d+1, .nd s ts,r,S,Q,E,hd,hr,hw,h=>by
  simp only[Tr.depth]at hd;simp only[Tr.aq]at hw;have hk:=qF ts;rw[uN];simp only[kY];ext;rw[o5];refine p9 (λσ=>∃x,σ=[x]) kY (λt=> .int (t.nb:Int)) trivial ts [] _ ⟨none,rfl⟩ (by simp;lia) (λx hx σ R hI hR=>?_) ?_
  ·obtain⟨y,rfl⟩:=hI;have hdx:=p5 hx;have hwx:=pf hx;have:=qB x;obtain⟨r,rfl⟩:∃r',r=r'+1:=⟨r - 1,by lia⟩
   simp only[MK];ext;exact EL d (t:=x) (r:=r) (by lia) (by lia) (by lia) (hR _ _ ⟨_,rfl⟩ .refl)
  ·rw[aX,YX];dsimp only;rw[NM];simp only[Tr.nb]at h;exact⟨S, .refl,h⟩
def OD{w:W}{ws:List W}:o8 (w::ws) none (aa 1)=[w]:=by
 rw[show(1:Int)=((1:Nat):Int) from rfl,CH];rfl
theorem A_{us:List Tr}{a:ai}:∀(d:Nat) {t:Tr}{r:Nat}{S:li}{Q:WK}{E:ah→li→Prop},t.depth≤d→d≤r+1→S a=aa (.bO (af us))→t.bt us.length→t.aq≤90000→Q (kY (t.aD us)) S→vg (r+1) [kY t, .ref a] S Q E
 |0,t,r,S,Q,E,hd,hr,ha,hf,hw,h=>by have:=qB t;lia
 |d+1, .bl n,r,S,Q,E,hd,hr,ha,hf,hw,h=>by
  simp only[Tr.bt]at hf;simp only[Tr.aD]at h;rw[vg];simp only[kY];ext;have e:nC (af us) n=aa (kY (us.getD n.toNat (.bl n))):=by
   have q:=sk (xs:=af us) (n:=n.toNat);rw[cm hf.1]at q;rw[q,o5,aU,bv,aR (by lia)];rfl
  rw[m8 ha,e];exact⟨S, .refl,h⟩
 |d+1, .nd s ts,r,S,Q,E,hd,hr,ha,hf,hw,h=>by
  simp only[Tr.bt]at hf;simp only[Tr.aD]at h;simp only[Tr.depth]at hd;simp only[Tr.aq]at hw;have hk:=qF ts;rw[vg];simp only[kY]at h⊢;ext;rw[OD];rw[o5];refine p9 (λσ=>∃x,σ=[x,aa (.ref a)]) kY (λt=>kY (t.aD us)) trivial ts [] _ ⟨none,rfl⟩ (by simp;lia) (λx hx σ R hI hR=>?_) ?_
  ·obtain⟨y,rfl⟩:=hI;have hdx:=p5 hx;have hwx:=pf hx;have:=qB x;obtain⟨r,rfl⟩:∃r',r=r'+1:=⟨r - 1,by lia⟩
   simp only[GR];ext;exact A_ d (t:=x) (r:=r) (by lia) (by lia) ha (wb hf hx) (by lia) (hR _ _ ⟨_,rfl⟩ .refl)
  ·rw[aX];ext;refine⟨m7 (by simp;lia),S, .refl,?_⟩;have e:af (aF us ts)=ts.map λt=>kY (t.aD us):=by rw[o5,vp,bu];rfl
   rw[e]at h;exact h
def bN (n:Nat) (h c d:ah):List Tr:=
 match n with
 |0=>[.nd h [.bl 0]]
 |1=>[.nd h [.bl 0, .bl 1]]
 |2=>[.nd h [.nd c []], .nd h [.nd d [.bl 0]]]
 |3=>[.nd h [.nd c [], .bl 0], .nd h [.nd d [.bl 0], .bl 1]]
 |4=>[.nd h [.nd d [.nd d [.bl 0]], .bl 1, .bl 2], .nd h [.nd d [.nd c []], .bl 0, .bl 1]]
 |_=>[.nd h []]
section
variable {w0 w1 w2 w3 w4 w5:ah}{r:Nat}{S:li}{Q:WK}{E:ah→li→Prop}
abbrev qp (w0 w1 w2 w3 w4 w5:ah):List W:=[.str w0, .str w1, .str w2, .str w3, .str w4, .str w5]
theorem ql:nC (qp w0 w1 w2 w3 w4 w5) 0=aa (.str w0):=rfl
theorem qj:nC (qp w0 w1 w2 w3 w4 w5) 1=aa (.str w1):=rfl
theorem pS:nC (qp w0 w1 w2 w3 w4 w5) 2=aa (.str w2):=rfl
theorem p4:nC (qp w0 w1 w2 w3 w4 w5) 3=aa (.str w3):=rfl
theorem p6:nC (qp w0 w1 w2 w3 w4 w5) 4=aa (.str w4):=rfl
theorem pW:nC (qp w0 w1 w2 w3 w4 w5) 5=aa (.str w5):=rfl
def Qg{n:Int}{h c d:ah}(H:∀(p:ai) (k:Nat),S p=none→Q (.ref p) (bR S p (.bO (af (bN k h c d))))):BY (r+1) [.int n, .str h, .str c, .str d] S Q E:=by
 rw[BY,t4];refine⟨rfl,?_⟩;have l1:1≤sizeLine:=m7 (by decide);have l2:2≤sizeLine:=m7 (by decide);have l3:3≤sizeLine:=m7 (by decide);have l4:4≤sizeLine:=m7 (by decide);refine zb λT hT=>?_;ext;refine zl (λ_=>⟨l2,l1,λp hp=>⟨_, .refl,by simpa only[bN,kY,af]using H p 0 hp⟩⟩) λ_=>?_
 subst hT;refine zb λT hT=>?_;ext;refine zl (λ_=>⟨l3,l1,λp hp=>⟨_, .refl,by simpa only[bN,kY,af]using H p 1 hp⟩⟩) λ_=>?_
 subst hT;refine zb λT hT=>?_;ext;refine zl (λ_=>⟨l1,l2,l2,l2,l2,λp hp=>⟨_, .refl,by simpa only[bN,kY,af]using H p 2 hp⟩⟩) λ_=>?_
 subst hT;refine zb λT hT=>?_;ext;refine zl (λ_=>⟨l1,l3,l2,l3,l2,λp hp=>⟨_, .refl,by simpa only[bN,kY,af]using H p 3 hp⟩⟩) λ_=>?_
 subst hT;refine zb λT hT=>?_;ext;refine zl (λ_=>⟨l2,l2,l4,l1,l2,l4,l2,λp hp=>⟨_, .refl,by simpa only[bN,kY,af]using H p 4 hp⟩⟩) λ_=>?_
 subst hT;ext;exact⟨l1,l1,λp hp=>⟨_, .refl,by simpa only[bN,kY,af]using H p 5 hp⟩⟩
end
section
variable {w0 w1:ah}{j:Int}
def Cz (n:Nat) (h c d:ah):1≤(bN n h c d).length∧(bN n h c d).length≤2:=by
 unfold bN;split<;>simp
def rZ (w0 w1:ah) (j:Nat):ah:=if j=0 then w0 else w1
end
def we (x:ah):Bool:=decide (1≤x.cps.toList.length)&&(decide (x.cps.toList.length≤8)&&bo x.cps.toList)
def Ql (xs:List Nat):bo xs=true↔ ∀c∈xs,sF c:=by
 unfold bo;rw[cO];simp only[w6,sF,bV,decide_eq_true_eq]
def Ax (x:ah):we x=true↔ow x:=by
 unfold we ow;rw[bV,bV,decide_eq_true_eq,decide_eq_true_eq,Ql]
def AK (h:ow x) (g:p7 y):x≠y:=by
 rintro rfl;obtain⟨c,r,e,h1,h2,_⟩:=g;have:=h.2.2 c (by rw[e];exact aK);unfold sF at this;lia
def Zu (g:p7 y):1≤y.cps.toList.length∧y.cps.toList.length≤8:=by
 obtain⟨c,r,e,h1,h2,h3,_⟩:=g;rw[e,aT];lia
mutual
def Tr.hd (P:ah→Prop):Tr→Prop
 | .bl _=>False
 | .nd s ts=>P s∧hds P ts
def hds (P:ah→Prop):List Tr→Prop
 | []=>True
 |t::ts=>t.hd P∧hds P ts
end
mutual
def Tr.hb (P:ah→Prop):Tr→Prop
 | .bl _=>True
 | .nd s ts=>P s∧oy P ts
def oy (P:ah→Prop):List Tr→Prop
 | []=>True
 |t::ts=>t.hb P∧oy P ts
end
theorem mW{P:ah→Prop}:∀{ts:List Tr},hds P ts↔ ∀t∈ts,t.hd P
 | []=>by simp [hds]
 |t::ts=>by simp [hds,mW (ts:=ts)]
mutual
theorem vR{P P':ah→Prop}(h:∀s,P s→P' s):∀(t:Tr),t.hd P→t.hd P'
 | .bl _,q=>by simp [Tr.hd]at q
 | .nd s ts,q=>by
  simp only[Tr.hd]at q⊢;exact⟨h s q.1,ML h ts q.2⟩
theorem ML{P P':ah→Prop}(h:∀s,P s→P' s):∀(ts:List Tr),hds P ts→hds P' ts
 | [],_=>by simp [hds]
 |t::ts,q=>by
  simp only[hds]at q⊢;exact⟨vR h t q.1,ML h ts q.2⟩
end
mutual
theorem Kt{P P':ah→Prop}(h:∀s,P s→P' s):∀(t:Tr),t.hb P→t.hb P'
 | .bl _,q=>by simp [Tr.hb]
 | .nd s ts,q=>by
  simp only[Tr.hb]at q⊢;exact⟨h s q.1,N0 h ts q.2⟩
theorem N0{P P':ah→Prop}(h:∀s,P s→P' s):∀(ts:List Tr),oy P ts→oy P' ts
 | [],_=>by simp [oy]
 |t::ts,q=>by
  simp only[oy]at q⊢;exact⟨Kt h t q.1,N0 h ts q.2⟩
end
mutual
theorem yL{P:ah→Prop}(hu:∀u∈us,u.hd P):∀(t:Tr),t.hb P→t.bt us.length→(t.aD us).hd P
 | .bl n,h,f=>by
  simp only[Tr.bt]at f;simp only[Tr.aD];rw[bv,aR (show n.toNat<us.length by lia)]
  exact hu _ (eE ..)
 | .nd s ts,h,f=>by
  simp only[Tr.bt]at f;simp only[Tr.hb]at h;simp only[Tr.aD,Tr.hd];exact⟨h.1,Jq hu ts h.2 f⟩
theorem Jq{P:ah→Prop}(hu:∀u∈us,u.hd P):∀(ts:List Tr),oy P ts→m3 us.length ts→hds P (aF us ts)
 | [],h,f=>by simp [aF,hds]
 |t::ts,h,f=>by
  simp only[m3]at f;simp only[oy]at h;simp only[aF,hds];exact⟨yL hu t h.1 f.1,Jq hu ts h.2 f.2⟩
end
structure qt (ws:List ah) (m:Nat) (t:Tr):Prop where
  dp:t.depth≤4
  bt:t.bt m
  hb:∀{P:ah→Prop},(∀x∈ws,P x)→t.hb P
  wt:t.aq≤7
def R9 (B:List Tn):Prop:=∀t∈B,∀(us:List Tr) (M:Nat),us.length=t.2.1.nb→1≤M→(∀u∈us,u.aq≤M)→(t.2.2.aD us).aq≤2+2*M∧(t.2.1.nb=0→(t.2.2.aD us).aq≤1+M)
structure mF (w0 w1 w2 w3 w4 w5:ah) (tt:List ah) (B:List Tn):Prop where
  lf:∃n m:Nat,B.map (λt=>t.2.1)=bN n w0 w2 w3++bN m w1 w2 w3
  ti:B.map (λt=>t.1)=tt.take B.length
  ri:∀t∈B,qt [w0,w1,w2,w3,w4,w5] t.2.1.nb t.2.2
structure sP (P:ah→Prop) (L:Tr):Prop where
  hb:L.hb P
  bt:L.bt L.nb
  wt:L.aq≤L.nb+3
  dp:L.depth≤4
  nb:L.nb≤3
  nd:∃s ts,L= .nd s ts
  fw:∀us:List Tr,us.length=L.nb→(L.aD us).aq≤3+mJ us
  fw0:L.nb=0→(L.aD []).aq≤2
def Cy{P:ah→Prop}(hh:P h) (hc:P c) (hd:P d):∀L∈bN n h c d,sP P L:=by
 unfold bN;intro L hL;split at hL<;>simp only[az,bq,or_false]at hL
 all_goals first
  | (subst hL;exact⟨by simp [Tr.hb,oy,hh,hc,hd],by simp [Tr.bt,m3,Tr.nb,nbs],by simp [Tr.aq,mJ,Tr.nb,nbs],by simp [Tr.depth,m_],by simp [Tr.nb,nbs],⟨_,_,rfl⟩,λus hu=>by rcases us with _ |⟨u,_ |⟨v,_ |⟨x,_ |⟨y,us⟩⟩⟩⟩<;>simp [Tr.nb,nbs,Tr.aD,aF,Tr.aq,mJ]at hu⊢ <;>lia,λh0=>by simp [Tr.nb,nbs,Tr.aD,aF,Tr.aq,mJ]at h0⊢⟩)
  | (rcases hL with rfl |rfl<;>exact⟨by simp [Tr.hb,oy,hh,hc,hd],by simp [Tr.bt,m3,Tr.nb,nbs],by simp [Tr.aq,mJ,Tr.nb,nbs],by simp [Tr.depth,m_],by simp [Tr.nb,nbs],⟨_,_,rfl⟩,λus hu=>by rcases us with _ |⟨u,_ |⟨v,_ |⟨x,_ |⟨y,us⟩⟩⟩⟩<;>simp [Tr.nb,nbs,Tr.aD,aF,Tr.aq,mJ]at hu⊢ <;>lia,λh0=>by simp [Tr.nb,nbs,Tr.aD,aF,Tr.aq,mJ]at h0⊢⟩)
def mF.len (b:mF w0 w1 w2 w3 w4 w5 tt B):2≤B.length∧B.length≤4:=by
 obtain⟨n,m,e⟩:=b.lf;have h1:=Cz n w0 w2 w3;have h2:=Cz m w1 w2 w3;have e':=congrArg dU e;rw[ay,a_]at e';lia
def mF.left (b:mF w0 w1 w2 w3 w4 w5 tt B) {P:ah→Prop}(h0:P w0) (h1:P w1) (h2:P w2) (h3:P w3) (ht:t∈B):sP P t.2.1:=by
 obtain⟨n,m,e⟩:=b.lf;have:t.2.1∈bN n w0 w2 w3++bN m w1 w2 w3:=by rw[←e];exact aV.mpr ⟨t,ht,rfl⟩
 obtain z |z:=bp.mp this
 ·exact Cy h0 h2 h3 _ z
 ·exact Cy h1 h2 h3 _ z
def mF.nodup (b:mF w0 w1 w2 w3 w4 w5 tt B) (T:pG tt):(B.map λt=>t.1).Nodup:=by
 rw[b.ti];exact i0.sublist (kI ..) T.nd
def mF.mem (b:mF w0 w1 w2 w3 w4 w5 tt B) (ht:t∈B):t.1∈tt:=by
 have:t.1∈B.map λt=>t.1:=aV.mpr ⟨t,ht,rfl⟩;rw[b.ti]at this;exact iH this
def m9 (B:List Tn) (s:ah):Option Tn:=B.find? λt=>t.1 == s
theorem rg:∀{B:List Tn}{t:Tn},(B.map λt=>t.1).Nodup→t∈B→m9 B t.1=aa t
 |u::B,t,hn,ht=>by
  unfold m9;rw[aC,d5]at hn;rw[b_];obtain rfl |ht:=az.mp ht
  ·simp
  ·have hne:u.1≠t.1:=λz=>hn.1 (by rw[z];exact aV.mpr ⟨t,ht,rfl⟩);have:(u.1 == t.1)=false:=by simpa using hne
   rw[this];exact rg hn.2 ht
def D3 (h:∀t∈B,t.1≠s):m9 B s=none:=by
 unfold m9;rw[gB];intro t ht;simpa using h t ht
def tj (B:List Tn) (s:ah) (n:Nat):Bool:=match m9 B s with
 |none=>we s
 |some t=>n == t.2.1.nb
mutual
def Tr.way (B:List Tn):Tr→Bool
 | .bl _=>false
 | .nd s ts=>tj B s ts.length&&tG B ts
def tG (B:List Tn):List Tr→Bool
 | []=>true
 |t::ts=>t.way B&&tG B ts
end
mutual
def Tr.dQ:Tr→Bool
 | .bl _=>false
 | .nd s ts=>we s&&tv ts
def tv:List Tr→Bool
 | []=>true
 |t::ts=>t.dQ&&tv ts
end
theorem EM (B:List Tn):∀ts:List Tr,tG B ts=ts.all (Tr.way B)
 | []=>by simp [tG]
 |t::ts=>by simp [tG,EM B ts]
theorem J3:∀ts:List Tr,tv ts=ts.all Tr.dQ
 | []=>by simp [tv]
 |t::ts=>by simp [tv,J3 ts]
mutual
theorem Dj:∀t:Tr,t.hd ow→t.dQ=true
 | .bl n,h=>by simp [Tr.hd]at h
 | .nd s ts,h=>by
  simp only[Tr.hd]at h;rw[Tr.dQ,(Ax s).mpr h.1,M7 ts h.2];rfl
theorem M7:∀ts:List Tr,hds ow ts→tv ts=true
 | [],h=>by simp [tv]
 |t::ts,h=>by
  simp only[hds]at h;rw[tv,Dj t h.1,M7 ts h.2];rfl
end
mutual
theorem FX (hB:∀t∈B,p7 t.1) (hu:∀u∈us,u.way B=true):∀(t:Tr),t.hb ow→t.bt us.length→(t.aD us).way B=true
 | .bl n,h,f=>by
  simp only[Tr.bt]at f;simp only[Tr.aD];rw[bv,aR (show n.toNat<us.length by lia)]
  exact hu _ (eE ..)
 | .nd s ts,h,f=>by
  simp only[Tr.bt]at f;simp only[Tr.hb]at h;simp only[Tr.aD,Tr.way];rw[Jx hB hu ts h.2 f,tj,D3 λt ht=>(AK h.1 (hB t ht)).symm,(Ax s).mpr h.1];rfl
theorem Jx (hB:∀t∈B,p7 t.1) (hu:∀u∈us,u.way B=true):∀(ts:List Tr),oy ow ts→m3 us.length ts→tG B (aF us ts)=true
 | [],h,f=>by simp [aF,tG]
 |t::ts,h,f=>by
  simp only[m3]at f;simp only[oy]at h;rw[aF,tG,FX hB hu t h.1 f.1,Jx hB hu ts h.2 f.2];rfl
end
inductive Pl where
  |nd (k bits:Int) (head:ah) (ps:List Pl)
mutual
def Pl.wt:Pl→Nat
 | .nd _ _ _ ps=>1+bJ ps
def bJ:List Pl→Nat
 | []=>0
 |p::ps=>p.wt+bJ ps
end
mutual
def Pl.dp:Pl→Nat
 | .nd _ _ _ ps=>1+r_ ps
def r_:List Pl→Nat
 | []=>0
 |p::ps=>max p.dp (r_ ps)
end
mutual
def Pl.nt:Pl→Nat
 | .nd k _ _ ps=>(if k<0 then 0 else 1)+bC ps
def bC:List Pl→Nat
 | []=>0
 |p::ps=>p.nt+bC ps
end
inductive nF (ws:List ah) (B:List Tn):Pl→Prop
 |sign {b:Int}{h:ah}{ps:List Pl}:h∈ws→(∀p∈ps,nF ws B p)→nF ws B (.nd (-1) b h ps)
 |turn {k:Nat}{b:Int}{h:ah}{ps:List Pl}{t:Tn}:B[k]? =aa t→ps.length=t.2.1.nb→0≤b→b<8→(∀p∈ps,nF ws B p)→nF ws B (.nd k b h ps)
mutual
def Pl.ev (B:List Tn) (c:Int→Nat):Pl→Tr
 | .nd k b h ps=>if k<0 then .nd h (uQ B c ps) else match c b with
  |0=>(B.getD k.toNat (h, .bl 0, .bl 0)).2.1.aD (uQ B c ps)
  |1=> .nd (B.getD k.toNat (h, .bl 0, .bl 0)).1 (uQ B c ps)
  |_=>(B.getD k.toNat (h, .bl 0, .bl 0)).2.2.aD (uQ B c ps)
def uQ (B:List Tn) (c:Int→Nat):List Pl→List Tr
 | []=>[]
 |p::ps=>p.ev B c::uQ B c ps
end
theorem DY (B:List Tn) (c:Int→Nat):∀ps:List Pl,uQ B c ps=ps.map (Pl.ev B c)
 | []=>by simp [uQ]
 |p::ps=>by simp [uQ,DY B c ps]
theorem wD:∀ps qs:List Pl,bJ (ps++qs)=bJ ps+bJ qs
 | [],qs=>by simp [bJ]
 |p::ps,qs=>by simp [bJ,wD ps qs];lia
theorem vG:∀ps qs:List Pl,bC (ps++qs)=bC ps+bC qs
 | [],qs=>by simp [bC]
 |p::ps,qs=>by simp [bC,vG ps qs];lia
theorem CJ:∀{ps:List Pl},p∈ps→p.dp≤r_ ps
 |q::ps,h=>by
  obtain rfl |h:=az.mp h
  ·simp [r_];lia
  ·have:=CJ h;simp [r_];lia
mutual
theorem Lm:∀p:Pl,p.dp≤p.wt
 | .nd k b h ps=>by have:=MR ps;simp [Pl.dp,Pl.wt];lia
theorem MR:∀ps:List Pl,r_ ps≤bJ ps
 | []=>by simp [r_]
 |p::ps=>by have:=Lm p;have:=MR ps;simp [r_,bJ];lia
end
def YY (p:Pl):1≤p.dp:=by cases p;simp [Pl.dp]
def US (p:Pl):1≤p.wt:=by cases p;simp [Pl.wt]
def qg{c:Int→Nat}:(Pl.nd (-1) b h ps).ev B c= .nd h (ps.map (Pl.ev B c)):=by
 rw[Pl.ev,if_pos (by decide),DY]
def qW (t:Tn) (n:Nat) (us:List Tr):Tr:=match n with
 |0=>t.2.1.aD us
 |1=> .nd t.1 us
 |_=>t.2.2.aD us
def p8{B:List Tn}{c:Int→Nat}{b:Int}{h:ah}{ps:List Pl}{k:Nat}{t:Tn}(e:B[k]? =aa t):(Pl.nd k b h ps).ev B c=qW t (c b) (ps.map (Pl.ev B c)):=by
 rw[Pl.ev,if_neg (by lia),DY,bb,bv,e];rfl
structure ox (ws hs:List ah) (B:List Tn):Prop where
  ti:∀t∈B,p7 t.1
  nd:(B.map λt=>t.1).Nodup
  sg:∀x∈ws,ow x
  sb:∀x∈hs,x∈ws
  lf:∀t∈B,sP ow t.2.1
  ri:∀t∈B,qt ws t.2.1.nb t.2.2
def mF.bk (b:mF w0 w1 w2 w3 w4 w5 tt B) (T:pG tt) (G:nU w0 w1 w2 w3 w4 w5):ox [w0,w1,w2,w3,w4,w5] [w2,w3,w4,w5] B:=
 ⟨λt ht=>T.ok _ (b.mem ht),b.nodup T,G.ok,λx hx=>aI _ (aI _ hx),λt ht=>b.left (G.ok _ (by simp)) (G.ok _ (by simp)) (G.ok _ (by simp)) (G.ok _ (by simp)) ht,b.ri⟩
section
variable {ws hs:List ah}{B:List Tn}{c:Int→Nat}
def Yq (b:ox ws hs B) {p:Pl}(h:nF hs B p):(p.ev B c).way B=true:=by
 induction h with
 | @sign b' h ps hh hp ih=>
  rw[qg,Tr.way,tj,D3 λt ht=>(AK (b.sg h (b.sb h hh)) (b.ti t ht)).symm,EM,(Ax h).mpr (b.sg h (b.sb h hh))];simp only[fA,iF,cO];exact λp hp=>ih p hp
 | @turn k b' h ps t e hl b0 b1 hp ih=>
  have ht:t∈B:=aJ e;have hu:∀u∈ps.map (Pl.ev B c),u.way B=true:=λu hu=>by
   obtain⟨p,hp,rfl⟩:=aV.mp hu;exact ih p hp
  rw[p8 e];unfold qW;split
  ·exact FX b.ti hu _ (b.lf t ht).hb (by rw[ay,hl];exact(b.lf t ht).bt)
  ·rw[Tr.way,tj,rg b.nd ht,EM];simp only[ay,hl,beq_self_eq_true,iF,cO];exact hu
  ·exact FX b.ti hu _ ((b.ri t ht).hb b.sg) (by rw[ay,hl];exact(b.ri t ht).bt)
theorem C2:∀{ps:List Pl},p∈ps→p.nt≤bC ps
 |q::ps,h=>by
  obtain rfl |h:=az.mp h
  ·simp [bC]
  ·have:=C2 h;simp [bC];lia
theorem GX:∀{ps:List Pl},p∈ps→p.wt≤bJ ps
 |q::ps,h=>by
  obtain rfl |h:=az.mp h
  ·simp [bJ]
  ·have:=GX h;simp [bJ];lia
end
mutual
def Tr.mk (B:List Tn) (g:Tn→Tr):Tr→Tr
 | .bl n=> .bl n
 | .nd s ts=>match m9 B s with
  |none=> .nd s (rp B g ts)
  |some t=>(g t).aD (rp B g ts)
def rp (B:List Tn) (g:Tn→Tr):List Tr→List Tr
 | []=>[]
 |t::ts=>t.mk B g::rp B g ts
end
theorem wS (B:List Tn) (g:Tn→Tr):∀ts:List Tr,rp B g ts=ts.map (Tr.mk B g)
 | []=>by simp [rp]
 |t::ts=>by simp [rp,wS B g ts]
def B7{g:Tn→Tr}(h:m9 B s=none):(Tr.nd s ts).mk B g= .nd s (ts.map (Tr.mk B g)):=by
 rw[Tr.mk,h,wS]
def BF{g:Tn→Tr}(h:m9 B s=aa t):(Tr.nd s ts).mk B g=(g t).aD (ts.map (Tr.mk B g)):=by
 rw[Tr.mk,h,wS]
def qb (hB:∀t∈B,p7 t.1) (h:ow s):m9 B s=none:=D3 λt ht=>(AK h (hB t ht)).symm
mutual
theorem rP{g:Tn→Tr}(hB:∀t∈B,p7 t.1):∀t:Tr,t.hd ow→t.mk B g=t
 | .bl n,h=>by simp [Tr.hd]at h
 | .nd s ts,h=>by
  simp only[Tr.hd]at h;rw[Tr.mk,qb hB h.1,Md hB ts h.2]
theorem Md{g:Tn→Tr}(hB:∀t∈B,p7 t.1):∀ts:List Tr,hds ow ts→rp B g ts=ts
 | [],h=>by simp [rp]
 |t::ts,h=>by
  simp only[hds]at h;rw[rp,rP hB t h.1,Md hB ts h.2]
end
mutual
theorem B0{g:Tn→Tr}(hB:∀t∈B,p7 t.1):∀t:Tr,t.hb ow→t.bt us.length→(t.aD us).mk B g=t.aD (us.map (Tr.mk B g))
 | .bl n,h,f=>by
  simp only[Tr.bt]at f;simp only[Tr.aD];rw[bv,bv,aU,aR (show n.toNat<us.length by lia)]
  rfl
 | .nd s ts,h,f=>by
  simp only[Tr.hb]at h;simp only[Tr.bt]at f;simp only[Tr.aD];rw[Tr.mk,qb hB h.1];simp only[];rw[NR hB ts h.2 f]
theorem NR{g:Tn→Tr}(hB:∀t∈B,p7 t.1):∀ts:List Tr,oy ow ts→m3 us.length ts→rp B g (aF us ts)=aF (us.map (Tr.mk B g)) ts
 | [],h,f=>by simp [aF,rp]
 |t::ts,h,f=>by
  simp only[oy]at h;simp only[m3]at f;rw[aF,rp,aF,B0 hB t h.1 f.1,NR hB ts h.2 f.2]
end
section
variable {ws hs:List ah}{B:List Tn}{c d:Int→Nat}
def IV (b:ox ws hs B) {g:Tn→Tr}(hg:∀t∈B,∀x:Int,0≤x→x<8→c x=1→ ∀us,(g t).aD us=qW t (d x) us) (h0:∀x:Int,0≤x→x<8→c x≠1→d x=c x) {p:Pl}(h:nF hs B p):(p.ev B c).mk B g=p.ev B d:=by
 induction h with
 | @sign b' h ps hh hp ih=>
  rw[qg,qg,B7 (qb b.ti (b.sg h (b.sb h hh))),bu];congr 1;exact dt λp hp=>ih p hp
 | @turn k b' h ps t e hl b0 b1 hp ih=>
  have ht:t∈B:=aJ e;have em:(ps.map (Pl.ev B c)).map (Tr.mk B g)=ps.map (Pl.ev B d):=by
   rw[bu];exact dt λp hp=>ih p hp
  rw[p8 e,p8 e];by_cases hc:c b'=1
  ·rw[←hg t ht b' b0 b1 hc,hc];show(Tr.nd t.1 _).mk B g=_;rw[BF (rg b.nd ht),em]
  ·rw[h0 b' b0 b1 hc];unfold qW;split
   ·rw[B0 b.ti _ (b.lf t ht).hb (by rw[ay,hl];exact(b.lf t ht).bt),em]
   ·rename_i z;exact absurd z hc
   ·rw[B0 b.ti _ ((b.ri t ht).hb b.sg) (by rw[ay,hl];exact(b.ri t ht).bt),em]
def uL (c:Int→Nat):Int→Nat:=λx=>if c x=1 then 0 else c x
def sA (c:Int→Nat):Int→Nat:=λx=>if c x=1 then 2 else c x
def xi (b:ox ws hs B) (h:nF hs B p):(p.ev B c).mk B (λt=>t.2.1)=p.ev B (uL c):=
 IV b (λt ht x _ _ hx us=>by rw[uL,if_pos hx];rfl) (λx _ _ hx=>by rw[uL,if_neg hx]) h
def zL (b:ox ws hs B) (h:nF hs B p):(p.ev B c).mk B (λt=>t.2.2)=p.ev B (sA c):=
 IV b (λt ht x _ _ hx us=>by rw[sA,if_pos hx];rfl) (λx _ _ hx=>by rw[sA,if_neg hx]) h
def vt{p:Pl}(h:nF hs B p) (hc:∀x:Int,0≤x→x<8→c x=d x):p.ev B c=p.ev B d:=by
 induction h with
 | @sign b' h ps hh hp ih=>
  rw[qg,qg];congr 1;exact dt λp hp=>ih p hp
 | @turn k b' h ps t e hl b0 b1 hp ih=>
  rw[p8 e,p8 e,hc b' b0 b1];congr 1;exact dt λp hp=>ih p hp
end
def Io (hL:L∈bN n h c d) (hu:us.length=L.nb):L.mt (L.aD us)=aa us:=by
 unfold bN at hL;split at hL<;>simp only[az,bq,or_false]at hL
 all_goals first
  | (subst hL;rcases us with _ |⟨u,_ |⟨v,_ |⟨x,_ |⟨y,us⟩⟩⟩⟩<;>simp [Tr.nb,nbs,Tr.aD,aF,Tr.mt,nM]at hu⊢ <;>lia)
  | (rcases hL with rfl |rfl<;>rcases us with _ |⟨u,_ |⟨v,_ |⟨x,_ |⟨y,us⟩⟩⟩⟩<;>simp [Tr.nb,nbs,Tr.aD,aF,Tr.mt,nM]at hu⊢ <;>lia)
def DG (B:List Tn):Prop:=∀t∈B,∀us:List Tr,us.length=t.2.1.nb→t.2.1.mt (t.2.1.aD us)=aa us
def mF.mt (b:mF w0 w1 w2 w3 w4 w5 tt B):DG B:=λt ht us hu=>by
 obtain⟨n,m,e⟩:=b.lf;have:t.2.1∈bN n w0 w2 w3++bN m w1 w2 w3:=by rw[←e];exact aV.mpr ⟨t,ht,rfl⟩
 obtain z |z:=bp.mp this
 ·exact Io z hu
 ·exact Io z hu
mutual
inductive Mv (B:List Tn):Nat→Tr→Tr→Tr→Prop
 |nn {n:Nat}{s z:ah}{ts us cs:List Tr}:m9 B s=none→m9 B z=none→nV B n ts us cs→Mv B (n+1) (.nd s ts) (.nd z us) (.nd s cs)
 |ns {n:Nat}{s z:ah}{ts us cs ms:List Tr}{t:Tn}:m9 B s=none→m9 B z=aa t→t.2.1.mt (.nd s ts)=aa ms→cs.length=t.2.1.nb→nV B n ms us cs→Mv B (n+1) (.nd s ts) (.nd z us) (t.2.2.aD cs)
 |sn {n:Nat}{s z:ah}{ts us cs ms:List Tr}{t:Tn}:m9 B s=aa t→m9 B z=none→t.2.1.mt (.nd z us)=aa ms→nV B n ts ms cs→Mv B (n+1) (.nd s ts) (.nd z us) (.nd s cs)
 |ss {n:Nat}{s z:ah}{ts us cs:List Tr}{t t':Tn}:m9 B s=aa t'→m9 B z=aa t→cs.length=t.2.1.nb→nV B n ts us cs→Mv B (n+1) (.nd s ts) (.nd z us) (t.2.2.aD cs)
inductive nV (B:List Tn):Nat→List Tr→List Tr→List Tr→Prop
 |nil {n:Nat}:nV B n [] [] []
 |cons {n:Nat}{a b c:Tr}{as bs cs:List Tr}:Mv B n a b c→nV B n as bs cs→nV B n (a::as) (b::bs) (c::cs)
end
mutual
theorem Mv.monoA:∀{n:Nat}{a b c:Tr},Mv B n a b c→ ∀m,n≤m→Mv B m a b c
 |_,_,_,_, .nn h1 h2 h3=>λm h=>by
  obtain⟨m,rfl⟩:∃m',m=m'+1:=⟨m - 1,by lia⟩
  exact .nn h1 h2 (nV.monoA h3 m (by lia))
 |_,_,_,_, .ns h1 h2 h3 h4 h5=>λm h=>by
  obtain⟨m,rfl⟩:∃m',m=m'+1:=⟨m - 1,by lia⟩
  exact .ns h1 h2 h3 h4 (nV.monoA h5 m (by lia))
 |_,_,_,_, .sn h1 h2 h3 h4=>λm h=>by
  obtain⟨m,rfl⟩:∃m',m=m'+1:=⟨m - 1,by lia⟩
  exact .sn h1 h2 h3 (nV.monoA h4 m (by lia))
 |_,_,_,_, .ss h1 h2 h3 h4=>λm h=>by
  obtain⟨m,rfl⟩:∃m',m=m'+1:=⟨m - 1,by lia⟩
  exact .ss h1 h2 h3 (nV.monoA h4 m (by lia))
theorem nV.monoA:∀{n:Nat}{a b c:List Tr},nV B n a b c→ ∀m,n≤m→nV B m a b c
 |_,_,_,_, .nil=>λ_ _=> .nil
 |_,_,_,_, .cons h1 h2=>λm h=> .cons (Mv.monoA h1 m h) (nV.monoA h2 m h)
end
def Mv.mono (h:n≤m) (M:Mv B n a b c):Mv B m a b c:=Mv.monoA M m h
def nV.mono (h:n≤m) (M:nV B n a b c):nV B m a b c:=nV.monoA M m h
theorem nV.get:∀{as bs cs:List Tr}{i:Nat},nV B n as bs cs→i<cs.length→ ∃a b c,as[i]? =aa a∧bs[i]? =aa b∧cs[i]? =aa c∧Mv B n a b c
 |_,_,_,i, .nil,h=>by simp at h
 |_,_,_,0, .cons h1 _,h=>⟨_,_,_,rfl,rfl,rfl,h1⟩
 |_,_,_,i+1, .cons _ h2,h=>by
  obtain⟨a,b,c,e1,e2,e3,q⟩:=nV.get (i:=i) h2 (by simpa using h);exact⟨a,b,c,by simpa using e1,by simpa using e2,by simpa using e3,q⟩
theorem nV.of{α:Type}{f g h:α→Tr}:∀(xs:List α),(∀x∈xs,Mv B n (f x) (g x) (h x))→nV B n (xs.map f) (xs.map g) (xs.map h)
 | [],_=> .nil
 |x::xs,q=> .cons (q x aK) (nV.of xs λy hy=>q y (aI _ hy))
mutual
theorem E4 (hB:∀t∈B,p7 t.1) (h:nV B n us vs cs):∀t:Tr,t.hb ow→t.bt cs.length→Mv B (n+t.depth) (t.aD us) (t.aD vs) (t.aD cs)
 | .bl k,q,f=>by
  simp only[Tr.bt]at f;obtain⟨a,b,c,e1,e2,e3,m⟩:=h.get (i:=k.toNat) (by lia);simp only[Tr.aD,bv,e1,e2,e3,eJ];exact m.mono (by lia)
 | .nd s ts,q,f=>by
  simp only[Tr.hb]at q;simp only[Tr.bt]at f;have:=Iq hB h ts q.2 f;simp only[Tr.aD,Tr.depth];rw[show n+(1+m_ ts)=n+m_ ts+1 by lia]
  exact .nn (qb hB q.1) (qb hB q.1) this
theorem Iq (hB:∀t∈B,p7 t.1) (h:nV B n us vs cs):∀ts:List Tr,oy ow ts→m3 cs.length ts→nV B (n+m_ ts) (aF us ts) (aF vs ts) (aF cs ts)
 | [],q,f=>by simp only[aF];exact .nil
 |t::ts,q,f=>by
  simp only[oy]at q;simp only[m3]at f;have h1:=E4 hB h t q.1 f.1;have h2:=Iq hB h ts q.2 f.2;simp only[aF,m_];exact .cons (h1.mono (by lia)) (h2.mono (by lia))
end
def pK (c d:Int→Nat):Int→Nat:=λx=>if d x=1 then 2 else c x
def By{ws hs:List ah}{B:List Tn}{c d:Int→Nat}(b:ox ws hs B) (hm:DG B) (hc:∀x:Int,0≤x→x<8→(c x≤1∧d x≤1)∨(c x=2∧d x=2)) {p:Pl}(h:nF hs B p):Mv B (p.dp+3*p.nt) (p.ev B c) (p.ev B d) (p.ev B (pK c d)):=by
 induction h with
 | @sign b' h ps hh hp ih=>
  rw[qg,qg,qg,Pl.dp,Pl.nt,if_pos (by decide),show 1+r_ ps+3*(0+bC ps)=r_ ps+3*bC ps+1 by lia]
  refine .nn (qb b.ti (b.sg h (b.sb h hh))) (qb b.ti (b.sg h (b.sb h hh))) (.of ps λp hp=>(ih p hp).mono ?_);have:=CJ hp;have:=C2 hp;lia
 | @turn k b' h ps t e hl b0 b1 hp ih=>
  have ht:t∈B:=aJ e;have en:(Pl.nd k b' h ps).nt=1+bC ps:=by rw[Pl.nt,if_neg (by lia)]
  have M:nV B (r_ ps+3*bC ps) (ps.map (Pl.ev B c)) (ps.map (Pl.ev B d)) (ps.map (Pl.ev B (pK c d))):= .of ps λp hp=>(ih p hp).mono (by
   have:=CJ hp;have:=C2 hp;lia)
  have lc:(ps.map (Pl.ev B (pK c d))).length=t.2.1.nb:=by rw[ay,hl]
  have l1:(ps.map (Pl.ev B c)).length=t.2.1.nb:=by rw[ay,hl]
  have l2:(ps.map (Pl.ev B d)).length=t.2.1.nb:=by rw[ay,hl]
  have tt:=rg b.nd ht;have L:=b.lf t ht;have R:=b.ri t ht;have hd:=L.dp;rw[p8 e,p8 e,p8 e,Pl.dp,en,show 1+r_ ps+3*(1+bC ps)=r_ ps+3*bC ps+3+1 by lia]
  have lsign:∀us,∃s ts,t.2.1.aD us= .nd s ts∧m9 B s=none:=λus=>by
   obtain⟨s,ts,el⟩:=L.nd;have hb:=L.hb;rw[el,Tr.hb]at hb;exact⟨s,aF us ts,by rw[el,Tr.aD],qb b.ti hb.1⟩
  have hp:pK c d b'=if d b'=1 then 2 else c b':=rfl;rw[hp];obtain ⟨c1,d1⟩ |⟨c2,d2⟩:=hc b' b0 b1
  ·by_cases dz:d b'=1
   ·rw[if_pos dz,dz];by_cases cz:c b'=1
    ·rw[cz];exact .ss tt tt lc (M.mono (by lia))
    ·rw[show c b'=0 by lia]
     obtain⟨s,ts,es,hs⟩:=lsign (ps.map (Pl.ev B c));have:=hm t ht _ l1;simp only[qW];rw[es]at this⊢;exact .ns hs tt this lc (M.mono (by lia))
   ·rw[if_neg dz,show d b'=0 by lia]
    by_cases cz:c b'=1
    ·rw[cz];obtain⟨s,ts,es,hs⟩:=lsign (ps.map (Pl.ev B d));have:=hm t ht _ l2;simp only[qW];rw[es]at this⊢;exact .sn tt hs this (M.mono (by lia))
    ·rw[show c b'=0 by lia]
     simp only[qW];exact(E4 b.ti M _ L.hb (by rw[lc];exact L.bt)).mono (by lia)
  ·rw[d2,if_neg (by decide),c2];simp only[qW];have:=R.dp;exact(E4 b.ti M _ (R.hb b.sg) (by rw[lc];exact R.bt)).mono (by lia)
theorem NK{P:ah→Prop}(hu:u.hd P):∀{ts:List Tr}(i:Nat),hds P ts→hds P (ts.set i u)
 | [],_,h=>by simpa using h
 |t::ts,0,h=>by
  simp only[hds,ml]at h⊢;exact⟨hu,h.2⟩
 |t::ts,i+1,h=>by
  simp only[hds,lB]at h⊢;exact⟨h.1,NK hu i h.2⟩
theorem N6{P:ah→Prop}:∀{ts us:List Tr},hds P ts→hds P us→hds P (ts++us)
 | [],us,_,h=>h
 |t::ts,us,h,g=>by
  simp only[hds,cj]at h⊢;exact⟨h.1,N6 h.2 g⟩
mutual
inductive pZ (S:li):Pl→W→Prop
 |nd {k b:Int}{h:ah}{ps:List Pl}{a:ai}{vs:List W}:S a=aa (.bO vs)→mQ S ps vs→pZ S (.nd k b h ps) (.bW [.int k, .int b, .str h, .ref a])
inductive mQ (S:li):List Pl→List W→Prop
 |nil:mQ S [] []
 |cons {p:Pl}{v:W}{ps:List Pl}{vs:List W}:pZ S p v→mQ S ps vs→mQ S (p::ps) (v::vs)
end
mutual
theorem pZ.sub (h:Sub S S'):∀{p:Pl}{v:W},pZ S p v→pZ S' p v
 |_,_, .nd e q=> .nd (h _ _ e) (mQ.sub h q)
theorem mQ.sub (h:Sub S S'):∀{ps:List Pl}{vs:List W},mQ S ps vs→mQ S' ps vs
 |_,_, .nil=> .nil
 |_,_, .cons a b=> .cons (pZ.sub h a) (mQ.sub h b)
end
theorem mQ.len:∀{ps:List Pl}{vs:List W},mQ S ps vs→ps.length=vs.length
 |_,_, .nil=>rfl
 |_,_, .cons _ h=>congrArg (· +1) (mQ.len h)
theorem mQ.app:∀{ps qs:List Pl}{vs us:List W},mQ S ps vs→mQ S qs us→mQ S (ps++qs) (vs++us)
 |_,_,_,_, .nil,h=>h
 |_,_,_,_, .cons a b,h=> .cons a (mQ.app b h)
theorem mQ.take:∀(n:Nat) {ps:List Pl}{vs:List W},mQ S ps vs→mQ S (ps.take n) (vs.take n)
 |0,_,_,_=> .nil
 |_+1,_,_, .nil=> .nil
 |n+1,_,_, .cons a b=> .cons a (mQ.take n b)
theorem mQ.drop:∀(n:Nat) {ps:List Pl}{vs:List W},mQ S ps vs→mQ S (ps.drop n) (vs.drop n)
 |0,_,_,h=>h
 |_+1,_,_, .nil=> .nil
 |n+1,_,_, .cons _ b=>mQ.drop n b
theorem mQ.rep (h:pZ S p v):∀n:Nat,mQ S (bn n p) (bn n [v]).flatten
 |0=> .nil
 |n+1=>by
  rw[cL,cL,eI];exact .cons h (mQ.rep h n)
def uk (w:ah):Pl:= .nd (-1) 0 w []
def qf (need:Nat) (w:ah) (ps:List Pl):List Pl:=bn (need - ps.length) (uk w)++ps
def push (need:Nat) (w:ah) (k b:Int) (h:ah) (ps:List Pl):List Pl:=
 (qf need w ps).take ((qf need w ps).length - need)++[.nd k b h ((qf need w ps).drop ((qf need w ps).length - need))]
theorem Lj (w:ah):∀n:Nat,bJ (bn n (uk w))=n
 |0=>by simp [bJ]
 |n+1=>by rw[cL,bJ,Lj w n];simp [uk,Pl.wt,bJ];lia
theorem HC (w:ah):∀n:Nat,bC (bn n (uk w))=0
 |0=>by simp [bC]
 |n+1=>by rw[cL,bC,HC w n];simp [uk,Pl.nt,bC]
theorem Co:∀ps:List Pl,ps.length≤bJ ps
 | []=>by simp
 |p::ps=>by have:=Co ps;have:=US p;simp [bJ];lia
def BP (need:Nat) (w:ah) (ps:List Pl):(qf need w ps).length=need - ps.length+ps.length:=by simp [qf]
def Wz:bJ (push need w k b h ps)=need - ps.length+bJ ps+1∧bC (push need w k b h ps)=bC ps+(if k<0 then 0 else 1)∧(push need w k b h ps).length=need - ps.length+ps.length - need+1:=by
 have hl:=BP need w ps;have h1:bJ (qf need w ps)=need - ps.length+bJ ps:=by rw[qf,wD,Lj]
 have h2:bC (qf need w ps)=bC ps:=by rw[qf,vG,HC];lia
 have h3:=wD ((qf need w ps).take ((qf need w ps).length - need)) ((qf need w ps).drop ((qf need w ps).length - need));have h4:=vG ((qf need w ps).take ((qf need w ps).length - need)) ((qf need w ps).drop ((qf need w ps).length - need));rw[gM]at h3 h4;unfold push;refine⟨?_,?_,?_⟩
 ·rw[wD,bJ,bJ,Pl.wt];lia
 ·rw[vG,bC,bC,Pl.nt];lia
 ·rw[a_,cY,cw,hl];lia
def V6 (ps:List Pl):((qf need w ps).drop ((qf need w ps).length - need)).length=need:=by
 have hl:=BP need w ps;rw[cI,hl];lia
def Gu (hw:w∈ws) (h:∀p∈ps,nF ws B p):∀p∈qf need w ps,nF ws B p:=λp hp=>by
 obtain z |z:=bp.mp hp
 ·rw[(List.mem_replicate.mp z).2];exact .sign hw λq hq=>by cases hq
 ·exact h p z
def Sy (hw:w∈ws) (hp:∀p∈ps,nF ws B p) (hn:∀qs:List Pl,qs.length=need→(∀q∈qs,nF ws B q)→nF ws B (.nd k b h qs)):∀p∈push need w k b h ps,nF ws B p:=λp hq=>by
 obtain z |z:=bp.mp hq
 ·exact Gu hw hp p (iH z)
 ·rw[bi.mp z];exact hn _ (V6 ps) λq hq=>Gu hw hp q (jJ hq)
def BN:WS:=(nE (rH (nA (mq uA (jA 3) (wC (.int 0)))) (nA (mq uM (jA 5) (wC (.int 5))))) (mz (mr (mq (rA λi j=> .int (i - j)) (jA 3) (wC (.int 1))) (mx 3))
  (mz (mr (nw (wU (xw (nI (jK (m5 (jK (qY (wC (.int 1))) (jK (wC (.int 0)) (jK (mq mE (jA 2) (wC (.int 2))) (jK (nw (nI ae)) ae))))) ae)) (mq (rA λi j=> .int (i - j)) (jA 8) (wB oQ (jK (jA 4) ae)))) (jA 4))) (mx 4))
  (mz (mr (mq (rA λi j=> .int (i - j)) (wB oQ (jK (jA 4) ae)) (jA 8)) (mx 11))
  (mr (nw (ug (vc (jA 4) oz (ou (jA 11))) (nI (jK (mq om (jA 9) (m5 (jK (oB (jA 4) (ou (jA 11)) oz) ae))) ae)))) (mx 4))))) nB)
theorem Tg:Mf r mH=(mz (mr (mq (oK (λ_ j=>0<j) λi j=> .int (i % j)) (jA 6) (wC (.int 8))) (mx 7))
  (mz (mr (tY (nI (jK (wC (.int 0)) (jK (wC (.int 0)) (jK (wC (.int 1)) (jK (wC (.int 2)) ae))))) (wB ud (jK (jA 7) (jK (wC (.int 3)) ae)))) (mx 8))
  (mz (mr (m5 (jK (qY (wC (.int 1))) (jK (wC (.int 0)) (jK (mq mE (jA 2) (tY (nI (jK (wC (.int 2)) (jK (wC (.int 5)) (jK (wC (.int 3)) (jK (wC (.int 4)) ae))))) (wB ud (jK (jA 7) (jK (wC (.int 3)) ae))))) ae)))) (mx 9))
  (mz (nE (nA (mq uA (jA 7) (wC (.int 3)))) (mz (mr (mq (oK (λ_ j=>0<j) λi j=> .int (i % j)) (mq (oK su λi j=> .int (i / j)) (jA 6) (wC (.int 8))) (wB oQ (jK (jA 1) ae))) (mx 10))
  (mz (mr (mG (uN r) (jK (mq mE (mq mE (jA 1) (jA 10)) (wC (.int 1))) ae)) (mx 8))
  (mz (mr (m5 (jK (jA 10) (jK (mq (oK (λ_ j=>0<j) λi j=> .int (i % j)) (mq (oK su λi j=> .int (i / j)) (jA 6) (wC (.int 64))) (wC (.int 8))) (jK (wC (.str "")) ae)))) (mx 9))
  (mr (mq om (jA 5) (wC (.int 1))) (mx 5))))) nB)
  BN)))):=rfl
def TN{w0 w1 w2 w3 w4 w5:ah}{S:li}{aw st:ai}{E:WX}{D:mY}{need:Nat}{k b room spent:Int}{h:ah}{ps:List Pl}{vs:List W}{x0 x1 x6 x7 x10 x11:Option W}(hw:S aw=aa (.bO (qp w0 w1 w2 w3 w4 w5))) (hst:S st=aa (.bO vs)) (hp:mQ S ps vs) (hn:need≤3) (hl:ps.length≤100)
  (h1:D.nx [x0,x1,aa (.ref aw),aa (.int room),aa (.ref st),aa (.int spent),x6,x7,aa (.int need),aa (.bW [.int k, .int b, .str h]),x10,x11] S)
  (h2:0<room→spent<5→ ∀(st':ai) (S':li) (vs':List W) (x11:Option W),Sub S S'→S' st'=aa (.bO vs')→mQ S' (push need w2 k b h ps) vs'→D.nx [x0,x1,aa (.ref aw),aa (.int (room - 1)),aa (.ref st'),aa (.int spent),x6,x7,aa (.int need),aa (.bW [.int k, .int b, .str h]),x10,x11] S') :
  BN E D [x0,x1,aa (.ref aw),aa (.int room),aa (.ref st),aa (.int spent),x6,x7,aa (.int need),aa (.bW [.int k, .int b, .str h]),x10,x11] S:=by
 unfold BN;ext;split
 ·rename_i c1;split
  ·rename_i c2;simp only[m8 hw,pS];have f1:=λ(a:ai) (ha:S a=none)=>keep (x:=Ob.bO []) hst ha;refine⟨aO _,λa ha=>⟨m7 (by decide),m7 (by decide),?_⟩⟩;rw[m8 (f1 a ha),m8 (f1 a ha)];have hlen:=hp.len;have en:((need:Int) - (vs.length:Int)).toNat=need - ps.length:=by lia
   rw[en];have pa:pZ (bR S a (Ob.bO [])) (uk w2) (.bW [.int (-1), .int 0, .str w2, .ref a]):= .nd mR .nil;have pp:mQ (bR S a (Ob.bO [])) (qf need w2 ps) ((bn (need - ps.length) [W.bW [.int (-1), .int 0, .str w2, .ref a]]).flatten++vs):=(mQ.rep pa _).app (hp.sub (.bR .refl ha));have pl:=pp.len;have sub1:Sub S (bR S a (Ob.bO [])):= .bR .refl ha;have hfl:((bn (need - ps.length) [W.bW [.int (-1), .int 0, .str w2, .ref a]]).flatten).length≤3:=by
    rw[a_,BP]at pl;lia
   have e0:(1*(need - ps.length))≤sizeLine:=m7 (by lia);refine⟨⟨by lia,by lia,e0⟩,m7 (by lia),?_⟩
   generalize (bn (need - ps.length) [W.bW [.int (-1), .int 0, .str w2, .ref a]]).flatten++vs=ys at pp pl⊢;generalize bR S a (Ob.bO [])=S1 at pp sub1⊢;intro b2 hb2;have sub2:Sub S1 (bR S1 b2 (.bO ys)):= .bR .refl hb2;generalize bR S1 b2 (Ob.bO ys)=S2 at sub2⊢;have hpl:=BP need w2 ps;have ea:((ys.length:Nat):Int) - (need:Int)=((ys.length - need:Nat):Int):=by lia
   rw[ea,CH,AV];intro p hp3;have sub3:Sub S2 (bR S2 p (.bO (ys.drop (ys.length - need)))):= .bR .refl hp3;have fp:bR S2 p (Ob.bO (ys.drop (ys.length - need))) p=aa (.bO (ys.drop (ys.length - need))):=mR;generalize bR S2 p (Ob.bO (ys.drop (ys.length - need)))=S3 at sub3 fp⊢;refine⟨m7 (by decide),m7 (by decide),m7 (by decide),m7 (by rw[cY];lia),λq hq=>?_⟩;have sub4:Sub S3 (bR S3 q (.bO (ys.take (ys.length - need)++[.bW [.int k, .int b, .str h, .ref p]]))):= .bR .refl hq;refine h2 c1 c2 q _ _ _ (((sub1.trans sub2).trans sub3).trans sub4) mR ?_;unfold push;have pp3:=pp.sub ((sub2.trans sub3).trans sub4);rw[←pl]at *;exact(pp3.take _).app (.cons (.nd (sub4 _ _ fp) (pp3.drop _)) .nil)
  ·exact h1
 ·exact h1
def Wn (n:Int) (h0:0≤n) (h1:n<8):∃m:Nat,m≤2∧nC [W.int 0,W.int 0,W.int 1,W.int 2] (if 3<n then 3 else n)=aa (.int (m:Int)):=by
 rcases(show n=0∨n=1∨n=2∨(3≤n) by lia) with rfl |rfl |rfl |h
 ·exact⟨0,by decide,rfl⟩
 ·exact⟨0,by decide,rfl⟩
 ·exact⟨1,by decide,rfl⟩
 ·have:(if 3<n then 3 else n)=3:=by split<;>lia
  rw[this];exact⟨2,by decide,rfl⟩
def TM (n:Int) (h0:0≤n) (h1:n<8):∃(i:Int) (x:ah),x∈ [w2,w3,w4,w5]∧nC [W.int 2,W.int 5,W.int 3,W.int 4] (if 3<n then 3 else n)=aa (.int i)∧nC (qp w0 w1 w2 w3 w4 w5) i=aa (.str x):=by
 rcases(show n=0∨n=1∨n=2∨(3≤n) by lia) with rfl |rfl |rfl |h
 ·exact⟨2,w2,by simp,rfl,rfl⟩
 ·exact⟨5,w5,by simp,rfl,rfl⟩
 ·exact⟨3,w3,by simp,rfl,rfl⟩
 ·have:(if 3<n then 3 else n)=3:=by split<;>lia
  rw[this];exact⟨4,w4,by simp,rfl,rfl⟩
inductive Nm (S:li) (ac ab aw:ai) (hs:List ah) (B:List Tn) (m:Nat) (ws:List W) (σ:mS) (S':li):Prop
 |mk (ns:List Int) (ps:List Pl) (vs:List W) (st:ai) (room spent:Int) (x6 x7 x8 x9 x10 x11:Option W):ws=ns.map W.int→Sub S S'→S' st=aa (.bO vs)→mQ S' ps vs→(∀p∈ps,nF hs B p)→0≤room→room≤m→(bC ps:Int)≤spent→bC ps≤4→(bJ ps:Int)+ps.length≤2*(m - room)+bC ps+2→
  σ=[aa (.ref ac),aa (.ref ab),aa (.ref aw),aa (.int room),aa (.ref st),aa (.int spent),x6,x7,x8,x9,x10,x11]→Nm S ac ab aw hs B m ws σ S'
inductive MC (S:li) (hs:List ah) (B:List Tn) (m:Nat) (f:ai→mS) (mm:Nat) (σ:mS) (S2:li):Prop
 |mk (ps:List Pl) (vs:List W) (st:ai):mm=ps.length→Sub S S2→S2 st=aa (.bO vs)→mQ S2 ps vs→(∀p∈ps,nF hs B p)→bC ps≤4→bJ ps+ps.length≤2*m+bC ps+2→σ=f st→MC S hs B m f mm σ S2
def Q4{m:Nat}(hm9:m≤9) {Q:WK}{X:ah→li→Prop}{ac ab:ai}{cells:List Int}{B:List Tn}(hc:S ac=aa (.bO (cells.map W.int))) (hb:S ab=aa (.bO (B.map mK))) (hw:S aw=aa (.bO (qp w0 w1 w2 w3 w4 w5))) (bk:ox [w0,w1,w2,w3,w4,w5] [w2,w3,w4,w5] B) (hB:B≠ [])
  (h:∀(p:Pl) (v:W) (S':li),Sub S S'→pZ S' p v→nF [w2,w3,w4,w5] B p→p.wt≤2*m+1+p.nt→p.nt≤4→Q v S'):Bj (r+10) [.ref ac, .ref ab, .ref aw, .int m] S Q X:=by
 rw[show r+10=r+9+1 from rfl,Bj];ext;refine⟨aO _,λst0 hst0=>?_⟩;rw[m8 (keep hc hst0)];refine ED (Nm S ac ab aw [w2,w3,w4,w5] B m) ?_ ?_ _ _ _ ⟨cells,[],[],st0,m,0,none,none,none,none,none,none,rfl, .bR .refl hst0,mR, .nil,(λ_ h=>nomatch h),by lia,by lia,by simp [bC],by simp [bC],by simp [bC,bJ],rfl⟩
 ·rintro w ws σ S' N ⟨ns,ps,vs,st,room,spent,x6,x7,x8,x9,x10,x11,ew,sub,hst,hp,ok,r0,r1,p0,p1,p2,rfl⟩ hN;cases ns with
  |nil=>cases ew
  |cons n ns=>
  cases ew;have fw:=sub _ _ hw;have fb:=sub _ _ hb;have fc:=sub _ _ hc;have m0:0≤n % 8:=c7 _ (by decide);have m1:n % 8<8:=dh _ (by decide);have hpl:=Co ps;obtain⟨need,hneed,en⟩:=Wn (n % 8) m0 m1;obtain⟨i,hd,hhd,e1,e2⟩:=TM (w0:=w0) (w1:=w1) (w2:=w2) (w3:=w3) (w4:=w4) (w5:=w5) (n % 8) m0 m1;have go:∀(need:Nat) (k b:Int) (hh:ah) (sp:Int) (x10:Option W),need≤3→(∀qs:List Pl,qs.length=need→(∀q∈qs,nF [w2,w3,w4,w5] B q)→nF [w2,w3,w4,w5] B (.nd k b hh qs))→(k<0∧need≤2∧sp=spent∨ ¬k<0∧sp=spent+1)→
    ∀(E:WX) (D:mY),D.nx=N→BN E D [aa (.ref ac),aa (.ref ab),aa (.ref aw),aa (.int room),aa (.ref st),aa (.int sp),aa (.int n),aa (.int (n % 8)),aa (.int need),aa (.bW [.int k, .int b, .str hh]),x10,x11] S':=λneed k b hh sp x10 hn cG hk E D hD=>by
   subst hD;refine TN fw hst hp hn (by lia) ?_ λc1 c2 st' S2 vs' x11 sub2 hst2 hp2=>?_
   ·refine hN _ _ S' .refl fc ⟨ns,ps,vs,st,room,sp,_,_,_,_,_,_,rfl,sub,hst,hp,ok,r0,r1,by lia,p1,p2,rfl⟩
   ·obtain⟨s1,s2,s3⟩:=Wz (need:=need) (w:=w2) (k:=k) (b:=b) (h:=hh) (ps:=ps);have hz:ps.length=0→bJ ps=0∧bC ps=0:=λz=>by
     cases ps with
     |nil=>exact⟨rfl,rfl⟩
     |cons _ _=>simp at z
    have fin:(bC (push need w2 k b hh ps):Int)≤sp→bC (push need w2 k b hh ps)≤4→(bJ (push need w2 k b hh ps):Int)+(push need w2 k b hh ps).length≤2*(m - (room - 1))+bC (push need w2 k b hh ps)+2→D.nx [aa (.ref ac),aa (.ref ab),aa (.ref aw),aa (.int (room - 1)),aa (.ref st'),aa (.int sp),aa (.int n),aa (.int (n % 8)),aa (.int need),aa (.bW [.int k, .int b, .str hh]),x10,x11] S2:=λf1 f2 f3=>
     hN _ _ S2 .refl (sub2 _ _ fc) ⟨ns,_,vs',st',room - 1,sp,_,_,_,_,_,_,rfl,sub.trans sub2,hst2,hp2,Sy (by simp) ok cG,by lia,by lia,f1,f2,f3,rfl⟩
    obtain ⟨kn,n2,es⟩ |⟨kp,es⟩:=hk
    ·rw[if_pos kn]at s2;refine fin (by lia) (by lia) ?_;obtain z |z:=gO ps.length
     ·have:=hz z;lia
     ·lia
    ·rw[if_neg kp]at s2;refine fin (by lia) (by lia) ?_;obtain z |z:=gO ps.length
     ·have:=hz z;lia
     ·lia
  rw[Tg];ext;simp only[en,e1];ext;simp only[m8 fw,e2];refine⟨by decide,m7 (by decide),m7 (by decide),m7 (by decide),?_⟩;split
  ·have hbl:(B.map mK)≠ []:=by simpa using hB
   obtain⟨j,x,ej,ex⟩:=Ya (n / 8) hbl;have hlt:0<(B.map mK).length:=ki.mpr hbl;have ek:n / 8 % ((B.map mK).length:Int)=(((n / 8 % ((B.map mK).length:Int)).toNat:Nat):Int):=by
    have:=c7 (n / 8) (show((B.map mK).length:Int)≠0 by lia)
    lia
   have ek2:=sk (xs:=B.map mK) (n:=(n / 8 % ((B.map mK).length:Int)).toNat);rw[←ek,ex,aU]at ek2;cases et:B[(n / 8 % ((B.map mK).length:Int)).toNat]? with
   |none=>rw[et]at ek2;cases ek2
   |some t=>
    rw[et]at ek2;have ext:x= .bW [.str t.1,kY t.2.1,kY t.2.2]:=by cases ek2;rfl
    have ht:t∈B:=aJ et;have LT:=bk.lf t ht;have hLd:=LT.dp;have hLw:=LT.wt;have hLn:=LT.nb;simp only[m8 fb,ex,ext];ext;rw[show nC [W.str t.1,kY t.2.1,kY t.2.2] 1=aa (kY t.2.1) from rfl];refine⟨⟨by decide,by decide⟩,by lia,?_⟩
    refine EL 4 hLd (by lia) (by lia) ⟨⟨by decide,by decide⟩,by decide,m7 (by decide),?_⟩
    have b0:0≤n / 64 % 8:=c7 _ (by decide);have b1:n / 64 % 8<8:=dh _ (by decide);refine go t.2.1.nb _ _ _ _ _ hLn (λqs hq hqs=>?_) (.inr ⟨by lia,rfl⟩) _ _ rfl;rw[ek];exact .turn et hq b0 b1 hqs
  ·exact go need (-1) 0 hd spent _ (by lia) (λqs hq hqs=> .sign hhd hqs) (.inl ⟨by decide,hneed,rfl⟩) _ _ rfl
 ·rintro σ S' ⟨ns,ps,vs,st,room,spent,x6,x7,x8,x9,x10,x11,ew,sub,hst,hp,ok,r0,r1,p0,p1,p2,rfl⟩;have hpl:=Co ps;refine⟨MC S [w2,w3,w4,w5] B m (λst=>[aa (.ref ac),aa (.ref ab),aa (.ref aw),aa (.int room),aa (.ref st),aa (.int spent),x6,x7,x8,x9,x10,x11]),⟨_,ps,vs,st,rfl,sub,hst,hp,ok,p1,by lia,rfl⟩,?_⟩
  rintro mm σ S2 ⟨ps,vs,st,rfl,sub,hst,hp,ok,p1,p2,rfl⟩;have hlen:=hp.len;have fw:=sub _ _ hw;ext;rw[m8 hst];split
  ·rename_i hgt;simp only[MO];ext;simp only[m8 hst,m8 fw,p6];have c1:o8 vs none (aa (-2))=vs.take (vs.length - 2):=Ti 2 (by decide);have c2:o8 vs (aa (-2)) none=vs.drop (vs.length - 2):=ZU 2 (by decide);rw[c1,c2];intro p hp3;have sub3:Sub S2 (bR S2 p (.bO (vs.drop (vs.length - 2)))):= .bR .refl hp3;have fp:bR S2 p (Ob.bO (vs.drop (vs.length - 2))) p=aa (.bO (vs.drop (vs.length - 2))):=mR;generalize bR S2 p (Ob.bO (vs.drop (vs.length - 2)))=S3 at sub3 fp⊢;refine⟨m7 (by decide),m7 (by decide),m7 (by rw[cY];lia),λq hq=>?_⟩;have sub4:Sub S3 (bR S3 q (.bO (vs.take (vs.length - 2)++[.bW [.int (-1), .int 0, .str w4, .ref p]]))):= .bR .refl hq;have hp4:=hp.sub (sub3.trans sub4);have hw3:=wD (ps.take (vs.length - 2)) (ps.drop (vs.length - 2));have hn3:=vG (ps.take (vs.length - 2)) (ps.drop (vs.length - 2));rw[gM]at hw3 hn3;refine⟨_,_,?_, .refl,ps.take (vs.length - 2)++[.nd (-1) 0 w4 (ps.drop (vs.length - 2))],_,q,rfl,(sub.trans sub3).trans sub4,mR,(hp4.take _).app (.cons (.nd (sub4 _ _ fp) (hp4.drop _)) .nil),λx hx=>?_,?_,?_,rfl⟩
   ·rw[a_,cY,cw];lia
   ·obtain z |z:=bp.mp hx
    ·exact ok x (iH z)
    ·rw[bi.mp z];exact .sign (by simp) λy hy=>ok y (jJ hy)
   ·rw[vG,bC,bC,Pl.nt,if_pos (by decide)];lia
   ·rw[wD,bJ,bJ,Pl.wt,a_,cY,cw,vG,bC,bC,Pl.nt,if_pos (by decide)];lia
  ·rename_i hle
   try ext
   simp only[m8 fw,pW];refine⟨aO _,λa ha=>⟨m7 (by decide),m7 (by decide),?_⟩⟩;rw[m8 (keep hst ha)];refine⟨m7 (by lia),?_⟩;cases hp with
   |nil=>
    exact⟨_, .refl,h (uk w5) _ _ (sub.trans (.bR .refl ha)) (.nd mR .nil) (.sign (by simp) λ_ z=>nomatch z) (by simp [uk,Pl.wt,bJ];lia) (by simp [uk,Pl.nt,bC])⟩
   | @cons p v ps vs h1 h2=>
    rw[cj,Cj];have e0:ps=[]:=by
     cases ps with
     |nil=>rfl
     |cons q qs=>
      have:=h2.len;simp only[aT]at this hle;lia
    subst e0;simp only[bJ,bC,aT,di]at p1 p2;exact⟨_, .refl,h p v _ (sub.trans (.bR .refl ha)) (h1.sub (.bR .refl ha)) (ok p aK) (by lia) (by lia)⟩
section
variable {r:Nat}{S:li}{Q:WK}{E:ah→li→Prop}{a:ai}{B:List Tn}
def UP (hx:x.length≤1000) (h:Q (.bl (we x)) S):CA (r+2) [.str x] S Q E:=by
 have hxl:=vM x;rw[CA];ext;unfold we at h;rw[←hxl]at h;cases e1:decide (1≤x.length) with
 |false=>
  rw[e1]at h;have:¬1≤x.length:=by simpa using e1
  have e1':decide ((1:Int)≤(x.length:Int))=false:=by simp;lia
  rw[e1'];ext;exact⟨m7 (by lia),_, .refl,h⟩
 |true=>
  rw[e1]at h;have h1:1≤x.length:=by simpa using e1
  have e1':decide ((1:Int)≤(x.length:Int))=true:=by simp;lia
  rw[e1'];refine⟨m7 (by lia),?_⟩;ext;cases e2:decide (x.length≤8) with
  |false=>
   rw[e2]at h;have:¬x.length≤8:=by simpa using e2
   have e2':decide ((x.length:Int)≤8)=false:=by simp;lia
   rw[e2'];exact⟨_, .refl,h⟩
  |true=>
   rw[e2]at h;have h2:x.length≤8:=by simpa using e2
   have e2':decide ((x.length:Int)≤8)=true:=by simp;lia
   rw[e2'];ext;exact Uo (by lia) ⟨_, .refl,h⟩
def oH:Option Tn→W
 |some t=>mK t
 |none=> .cc
def IW (B:List Tn) (s:ah):B.findSome? (λt=>if t.1 == s then aa (mK t) else none)=(m9 B s).map mK:=by
 unfold m9
 induction B with
 |nil=>rfl
 |cons t B ih=>
  rw[eF,b_];cases e:t.1 == s with
  |true=>rfl
  |false=>simpa using ih
def xH (ha:S a=aa (.bO (B.map mK))) (h:Q (oH (m9 B s)) S):tS (r+1) [.ref a, .str s] S Q E:=by
 rw[tS];ext;rw[m8 ha];refine v6 (S:=S) ?_ (λσ=>∃x,σ=[aa (.ref a),aa (.str s),x]) mK (λt=>if t.1 == s then aa (mK t) else none) B _ ⟨_,rfl⟩ (λt ht σ N hI hno hret=>?_) (λe σ hI=>?_) λw e S' sb=>?_
 ·exact ha
 ·obtain⟨x,rfl⟩:=hI;simp only[Ie];have ee:mK t= .bW [.str t.1,kY t.2.1,kY t.2.2]:=rfl;rw[ee];ext;cases e:t.1 == s with
  |true=>
   rw[e]at hret;exact hret _ rfl _ .refl
  |false=>
   rw[e]at hno;exact hno rfl _ _ ⟨_,rfl⟩ .refl
 ·obtain⟨x,rfl⟩:=hI;ext;rw[IW]at e;have:m9 B s=none:=by
   cases q:m9 B s with
   |none=>rfl
   |some t=>rw[q]at e;cases e
  rw[this]at h;exact⟨_, .refl,h⟩
 ·rw[IW]at e;cases q:m9 B s with
  |none=>rw[q]at e;cases e
  |some t=>
   rw[q]at e h;cases e;exact⟨_,sb,h⟩
def O9 (ts:List Tr):sE (ts.map λt=>W.bl t.dQ)=aa (ts.map Tr.dQ):=by
 have:=NH (ts.map Tr.dQ);rw[bu]at this;exact this
theorem Ge:∀(d:Nat) {t:Tr}{r:Nat}{Q:WK}{E:ah→li→Prop},t.depth≤d→d+5≤r→t.hd (λs=>s.length≤1000)→t.aq≤90000→Q (.bl t.dQ) S→yH (r+1) [kY t] S Q E
 |0,t,r,Q,E,hd,hr,hh,hw,h=>by have:=qB t;lia
 |d+1, .bl n,r,Q,E,hd,hr,hh,hw,h=>by simp [Tr.hd]at hh
 |d+1, .nd s ts,r,Q,E,hd,hr,hh,hw,h=>by
  simp only[Tr.depth]at hd;simp only[Tr.aq]at hw;simp only[Tr.hd]at hh;have hk:=qF ts;obtain⟨r,rfl⟩:∃r',r=r'+2:=⟨r - 2,by lia⟩
  rw[yH];simp only[kY];ext;refine UP hh.1 ?_;rw[Tr.dQ]at h;cases e:we s with
  |false=>
   rw[e]at h;ext;exact⟨_, .refl,h⟩
  |true=>
   rw[e]at h;ext;rw[o5];refine p9 (λσ=>∃x,σ=[x]) kY (λt=> .bl t.dQ) trivial ts [] _ ⟨none,rfl⟩ (by simp;lia) (λx hx σ R hI hR=>?_) ?_
   ·obtain⟨y,rfl⟩:=hI;have hdx:=p5 hx;have hwx:=pf hx;have:=qB x;simp only[HU];ext;exact Ge d (t:=x) (r:=r+1) (by lia) (by lia) (mW.mp hh.2 x hx) (by lia) (hR _ _ ⟨_,rfl⟩ .refl)
   ·rw[aX,O9];dsimp only;rw[J3]at h;rw[Gy];exact⟨S, .refl,h⟩
end
def nJ (f:Int):Int→Nat:=λb=>if b / f % 2=1 then 1 else 0
theorem mQ.zip:∀{ps:List Pl}{vs:List W},mQ S ps vs→ ∀x∈ps.zip vs,pZ S x.1 x.2∧x.1∈ps
 |_,_, .nil,x,h=>by simp at h
 |_,_, .cons a b,x,h=>by
  rw[ii]at h;obtain rfl |h:=az.mp h
  ·exact⟨a,aK⟩
  ·have:=mQ.zip b x h;exact⟨this.1,aI _ this.2⟩
def mQ.snd (h:mQ S ps vs):(ps.zip vs).map jk=vs:=List.map_snd_zip (by rw[h.len];exact aA _)
def mQ.fst (h:mQ S ps vs) {α:Type}(f:Pl→α):(ps.zip vs).map (λx=>f x.1)=ps.map f:=by
 have:(ps.zip vs).map Prod.fst=ps:=List.map_fst_zip (by rw[h.len];exact aA _)
 conv=>rhs;rw[←this,bu]
 rfl
theorem NB (hf:f=1∨f=2∨f=4∨f=8) (ha:S a=aa (.bO (B.map mK))) (b:ox ws hs B):∀(d:Nat) {p:Pl}{v:W}{r:Nat}{Q:WK}{E:ah→li→Prop},p.dp≤d→d+8≤r→pZ S p v→nF hs B p→p.wt≤1000→Q (kY (p.ev B (nJ f))) S→yu (r+1) [v, .ref a, .int f] S Q E
 |0,p,v,r,Q,E,hd,hr,hp,ok,hw,h=>by have:=YY p;lia
 |d+1, .nd k b' hh ps,v,r,Q,E,hd,hr,hp,ok,hw,h=>by
  cases hp with
  | @nd _ _ _ _ c vs hc hps=>
  simp only[Pl.dp]at hd;simp only[Pl.wt]at hw;have hlen:=Co ps;obtain⟨r,rfl⟩:∃r',r=r'+1:=⟨r - 1,by lia⟩
  rw[yu];ext;rw[m8 hc];rw[←hps.snd];have okp:∀x∈ps,nF hs B x:=by
   cases ok with
   |sign _ h=>exact h
   |turn _ _ _ _ h=>exact h
  refine p9 (λσ=>∃x,σ=[x,aa (.ref a),aa (.int f)]) jk (λx=>kY (x.1.ev B (nJ f))) ?_ (ps.zip vs) [] _ ⟨none,rfl⟩ (by simp;lia) (λx hx σ R hI hR=>?_) ?_
  ·rw[hps.snd];exact hc
  ·obtain⟨y,rfl⟩:=hI;obtain⟨h1,h2⟩:=hps.zip x hx;have:=CJ h2;have:=GX h2;simp only[Ia];ext;exact NB hf ha b d (by lia) (by lia) h1 (okp _ h2) (by lia) (hR _ _ ⟨_,rfl⟩ .refl)
  ·rw[aX,hps.fst λp=>kY (p.ev B (nJ f))];intro q hq;have eu:(ps.map λp=>kY (p.ev B (nJ f)))=af (ps.map (Pl.ev B (nJ f))):=by rw[o5,bu];rfl
   rw[eu];have fq:bR S q (Ob.bO (af (ps.map (Pl.ev B (nJ f))))) q=aa (.bO (af (ps.map (Pl.ev B (nJ f))))):=mR;have fa:=keep (x:=Ob.bO (af (ps.map (Pl.ev B (nJ f))))) ha hq;have sub:Sub S (bR S q (Ob.bO (af (ps.map (Pl.ev B (nJ f)))))):= .bR .refl hq;generalize bR S q (Ob.bO (af (ps.map (Pl.ev B (nJ f)))))=S1 at fq fa sub⊢
   try ext
   cases ok with
   |sign hs' _=>
    rw[if_pos (by decide)]
    try rw[m8 fq]
    rw[qg]at h;rw[pH,ay];simp only[kY]at h;exact⟨m7 (by decide),m7 (by lia),_,sub,h⟩
   | @turn k _ _ _ t e hl b0 b1 _=>
    have ek:nC (B.map mK) (k:Int)=aa (.bW [.str t.1,kY t.2.1,kY t.2.2]):=by
     rw[sk,aU,e];rfl
    have hdiv:su b' f:=by rcases hf with rfl |rfl |rfl |rfl<;>exact⟨by decide,by decide⟩
    have ht:t∈B:=aJ e;rw[p8 e]at h;rw[if_neg (by lia)];refine⟨hdiv,by decide,?_⟩
    simp only[m8 fa,ek];by_cases e1:b' / f % 2=1
    ·rw[e1];have:nJ f b'=1:=by unfold nJ;rw[if_pos e1]
     rw[this]at h;simp only[qW,kY]at h
     try ext
     try rw[m8 fq]
     rw[pH,ay];exact⟨m7 (by decide),m7 (by lia),_,sub,h⟩
    ·have e2:(b' / f % 2 == 1)=false:=by simpa using e1
     rw[e2];have:nJ f b'=0:=by unfold nJ;rw[if_neg e1]
     rw[this]at h;simp only[qW]at h;ext;rw[show nC [W.str t.1,kY t.2.1,kY t.2.2] 1=aa (kY t.2.1) from rfl];dsimp only;have hLd:=(b.lf t ht).dp;have hLw:=(b.lf t ht).wt;have hLn:=(b.lf t ht).nb;exact A_ 4 hLd (by lia) fq (by rw[ay,hl];exact(b.lf t ht).bt) (by lia) ⟨_,sub,h⟩
def V' (h:ow x):x.length≤1000:=by rw[vM];have:=h.2.1;lia
def QG (h:p7 x):x.length≤1000:=by rw[vM];have:=(Zu h).2;lia
def oh (n:Int) (t:Tn):Tr:=if n=1 then t.2.1 else t.2.2
structure vm (g:Tn→Tr) (B:List Tn):Prop where
  bt:∀t∈B,(g t).bt t.2.1.nb
  dp:∀t∈B,(g t).depth≤4
  wt:∀t∈B,(g t).aq≤10
mutual
def Tr.ar (B:List Tn):Tr→Prop
 | .bl _=>False
 | .nd s ts=>(∀t,m9 B s=aa t→ts.length=t.2.1.nb)∧r9 B ts
def r9 (B:List Tn):List Tr→Prop
 | []=>True
 |t::ts=>t.ar B∧r9 B ts
end
theorem oA:∀{ts:List Tr},r9 B ts↔ ∀t∈ts,t.ar B
 | []=>by simp [r9]
 |t::ts=>by simp [r9,oA (ts:=ts)]
mutual
theorem JH:∀t:Tr,t.way B=true→t.ar B
 | .bl n,h=>by simp [Tr.way]at h
 | .nd s ts,h=>by
  simp only[Tr.way,bV]at h;simp only[Tr.ar];refine⟨λt ht=>?_,Jb ts h.2⟩;have:=h.1;rw[tj,ht]at this;simpa using this
theorem Jb:∀ts:List Tr,tG B ts=true→r9 B ts
 | [],h=>by simp [r9]
 |t::ts,h=>by
  simp only[tG,bV]at h;simp only[r9];exact⟨JH t h.1,Jb ts h.2⟩
end
section
variable {n:Int}
def KI (t:Tn) (h:n=1∨n=2):nC [W.str t.1,kY t.2.1,kY t.2.2] n=aa (kY (oh n t)):=by
 rcases h with rfl |rfl<;>rfl
def Em{t:Tr}(h1:t.aq≤400) (h2:t.depth≤40):t.bo=true:=by
 unfold Tr.bo;rw[decide_eq_true h1,decide_eq_true h2];rfl
end
def Bz (r:Nat):WS:=(mz (mr (nw (o9 2 [0] (td (jA 5) (jA 6)) (pC (nP (mx 0) (nP (mx 1) o6))) py (DE r (tw r)))) (mx 7))
  (mz (nE (nA (mq (pk false) (jA 4) (wC .cc))) (mU (mq om (m5 (jK (mq mE (jA 1) (wC (.int 0))) ae)) (wB rE (jK (jA 7) ae)))) nB)
  (mU (mG (uK r) (jK (mq mE (jA 4) (wC (.int 2))) (jK (jA 7) ae))))))
def uv (r:Nat) (T:WS):WS:=(mz (nE (rH (nA (mq (pk false) (jA 3) (wC .cc))) (nA (mq (pk true) (jA 4) (wC .cc)))) (mr (mG (uf r) (jK (mq mE (jA 4) (wC (.int 1))) (jK (jA 1) ae))) (mx 5)) nB)
  (mz (nE (rH (nA (mq (pk true) (jA 3) (wC .cc))) (nA (mq (pk false) (jA 4) (wC .cc)))) (mr (mG (uf r) (jK (mq mE (jA 3) (wC (.int 1))) (jK (jA 2) ae))) (mx 6)) nB)
  T))
theorem Ta:tw (r+1)=nz 8 3 (mz (mr (mG (tS r) (jK (jA 0) (jK (mq mE (jA 1) (wC (.int 0))) ae))) (mx 3))
  (mz (mr (mG (tS r) (jK (jA 0) (jK (mq mE (jA 2) (wC (.int 0))) ae))) (mx 4))
  (mz (mr (oB (jA 1) (ou (wC (.int 1))) oz) (mx 5))
  (mz (mr (oB (jA 2) (ou (wC (.int 1))) oz) (mx 6))
  (uv r (Bz r)))))):=rfl
mutual
theorem xr{P:ah→Prop}:∀(l t:Tr) (ys:List Tr),l.mt t=aa ys→t.hd P→hds P ys∧mJ ys≤t.aq
 | .bl _,t,ys,h,q=>by
  simp only[Tr.mt,bH]at h;subst h;simp only[hds,mJ];exact⟨⟨q,trivial⟩,by lia⟩
 | .nd s ls, .nd z us,ys,h,q=>by
  simp only[Tr.mt]at h;simp only[Tr.hd]at q;split at h
  ·have:=NQ ls us ys h q.2;simp only[Tr.aq];exact⟨this.1,by lia⟩
  ·cases h
 | .nd _ _, .bl _,ys,h,q=>by simp [Tr.mt]at h
theorem NQ{P:ah→Prop}:∀(ls us ys:List Tr),nM ls us=aa ys→hds P us→hds P ys∧mJ ys≤mJ us
 | [],us,ys,h,q=>by simp only[nM,bH]at h;subst h;simp [hds,mJ]
 |l::ls,[],ys,h,q=>by simp only[nM,bH]at h;subst h;simp [hds,mJ]
 |l::ls,u::us,ys,h,q=>by
  simp only[nM]at h;simp only[hds]at q;split at h
  ·cases h
  ·rename_i xs ex;split at h
   ·cases h
   ·rename_i zs ez;simp only[bH]at h;subst h;have h1:=xr l u xs ex q.1;have h2:=NQ ls us zs ez q.2;rw[AO,mJ];exact⟨N6 h1.1 h2.1,by lia⟩
end
mutual
theorem ul{P:ah→Prop}:∀t:Tr,t.hd P→t.bt m
 | .bl n,h=>by simp [Tr.hd]at h
 | .nd s ts,h=>by
  simp only[Tr.hd]at h;simp only[Tr.bt];exact HK ts h.2
theorem HK{P:ah→Prop}:∀ts:List Tr,hds P ts→m3 m ts
 | [],h=>by simp [m3]
 |t::ts,h=>by
  simp only[hds]at h;simp only[m3];exact⟨ul t h.1,HK ts h.2⟩
end
theorem nV.triples:∀{as bs cs:List Tr},nV B n as bs cs→ ∃zs:List (Tr×Tr×Tr),as=zs.map (λz=>z.1)∧bs=zs.map (λz=>z.2.1)∧cs=zs.map (λz=>z.2.2)∧ ∀z∈zs,Mv B n z.1 z.2.1 z.2.2
 |_,_,_, .nil=>⟨[],rfl,rfl,rfl,λ_ h=>nomatch h⟩
 |_,_,_, .cons (a:=a) (b:=b) (c:=c) h1 h2=>by
  obtain⟨zs,e1,e2,e3,h⟩:=nV.triples h2;exact⟨(a,b,c)::zs,by rw[e1];rfl,by rw[e2];rfl,by rw[e3];rfl,λz hz=>(az.mp hz).elim (λe=>by rw[e];exact h1) (h z)⟩
theorem LL:∀zs:List (Tr×Tr×Tr),m4 (af (zs.map λz=>z.1)) (af (zs.map λz=>z.2.1))=zs.map λz=>W.bW [kY z.1,kY z.2.1]
 | []=>by simp [af,m4]
 |z::zs=>by simp [af,m4,LL zs]
def DU (f:Option Tn) (s:ah) (cs:List Tr):Tr:=match f with
 |none=> .nd s cs
 |some t=>t.2.2.aD cs
def yt (S:li) (v:W) (ws:List W):Prop:=v= .bW ws∨ ∃q,v= .ref q∧S q=aa (.bO ws)
def Iz{Q:List W→(li→Prop)→Prop}(h:yt S v ws) (hq:∀G:li→Prop,G S→(∀S',Sub S S'→G S')→Q ws G):uw v S Q:=by
 obtain rfl |⟨q,rfl,e⟩:=h
 ·rw[Ky];exact hq _ trivial λ_ _=>trivial
 ·rw[BZ,m8 e];exact hq _ e λS' sb=>sb _ _ e
def Ph (hx:x= .nd s ts) (ha:S a=aa (.bO (B.map mK))) (h1:yt S va (af as)) (h2:yt S vb (af bs)) (M:nV B n as bs cs) (hl:as.length≤1000)
  (hR:∀t,f=aa t→t.2.2.depth≤4∧t.2.2.aq≤100∧t.2.2.bt cs.length) (hr:5≤r)
  (one:∀{a' b' c':Tr}{Q:WK}{E:ah→li→Prop},a'∈as→b'∈bs→Mv B n a' b' c'→Q (kY c') S→tw r [.ref a,kY a',kY b'] S Q E) 
  (hQ:∀S',Sub S S'→D.rt (kY (DU f s cs)) S') :
  Bz r E D [aa (.ref a),aa (kY x),aa (kY y),aa vf,aa (oH f),aa va,aa vb,x7] S:=by
 obtain⟨zs,rfl,rfl,rfl,hz⟩:=M.triples;unfold Bz;ext;refine Iz h1 λG1 g1 k1=>Iz h2 λG2 g2 k2=>?_;rw[LL];rw[ay]at hl;refine p9 (λσ=>∃x y,σ=[x,y,aa (.ref a)]) (λz=>W.bW [kY z.1,kY z.2.1]) (λz=>kY z.2.2) ?_ zs [] _ ⟨none,none,rfl⟩ (by simp;lia) (λz hz' σ R hI hR=>?_) ?_
 ·exact⟨g1,g2⟩
 ·obtain⟨u,v,rfl⟩:=hI;simp only[DE];ext;refine one (a':=z.1) (b':=z.2.1) (c':=z.2.2) (aV.mpr ⟨z,hz',rfl⟩) (aV.mpr ⟨z,hz',rfl⟩) (hz z hz') ?_;exact hR _ _ ⟨_,_,rfl⟩ .refl
 ·rw[aX];intro q hq;have eu:(zs.map λz=>kY z.2.2)=af (zs.map λz=>z.2.2):=by rw[o5,bu];rfl
  rw[eu];have fq:bR S q (Ob.bO (af (zs.map λz=>z.2.2))) q=aa (.bO (af (zs.map λz=>z.2.2))):=mR;have sub:Sub S (bR S q (Ob.bO (af (zs.map λz=>z.2.2)))):= .bR .refl hq;generalize bR S q (Ob.bO (af (zs.map λz=>z.2.2)))=S1 at fq sub⊢;obtain⟨r,rfl⟩:∃r',r=r'+1:=⟨r - 1,by lia⟩
  cases f with
  |none=>
   subst hx;simp only[oH,kY,DU]at hQ⊢
   try ext
   try rw[m8 fq]
   rw[pH,ay];exact⟨m7 (by decide),m7 (by lia),hQ _ sub⟩
  |some t=>
   have ee:oH (aa t)= .bW [.str t.1,kY t.2.1,kY t.2.2]:=rfl;rw[ee]
   try ext
   rw[show nC [W.str t.1,kY t.2.1,kY t.2.2] 2=aa (kY t.2.2) from rfl];dsimp only;obtain⟨g1,g2,g3⟩:=hR t rfl;exact C_ 4 g1 (by lia) fq (by rw[ay];rw[ay]at g3;exact g3) (by lia) (hQ _ sub)
theorem Mv.nd:Mv B n x y z→ ∃s ts z' us,x= .nd s ts∧y= .nd z' us
 | .nn _ _ _=>⟨_,_,_,_,rfl,rfl⟩
 | .ns _ _ _ _ _=>⟨_,_,_,_,rfl,rfl⟩
 | .sn _ _ _ _=>⟨_,_,_,_,rfl,rfl⟩
 | .ss _ _ _ _=>⟨_,_,_,_,rfl,rfl⟩
def Uc (h:T E D [x0,x1,x2,aa (oH none),aa (oH none),x5,x6,x7] S):uv r T E D [x0,x1,x2,aa (oH none),aa (oH none),x5,x6,x7] S:=by
 rw[show oH none=W.cc from rfl]at h⊢;unfold uv;ext;exact h
def Vw (h:T E D [x0,x1,x2,aa (oH (aa t')),aa (oH (aa t)),x5,x6,x7] S):uv r T E D [x0,x1,x2,aa (oH (aa t')),aa (oH (aa t)),x5,x6,x7] S:=by
 have ee:∀t:Tn,oH (aa t)= .bW [.str t.1,kY t.2.1,kY t.2.2]:=λ_=>rfl;rw[ee,ee]at h⊢;unfold uv;ext;exact h
def PH (e:t.2.1.mt x=aa ms) (hr:t.2.1.depth<r) (ft:x.bt 0) (hw:t.2.1.aq≤90000) (h:∀q,S q=none→T E D [x0,aa (kY x),x2,aa (oH none),aa (oH (aa t)),aa (.ref q),x6,x7] (bR S q (.bO (af ms)))):uv (r+1) T E D [x0,aa (kY x),x2,aa (oH none),aa (oH (aa t)),x5,x6,x7] S:=by
 have ee:∀t:Tn,oH (aa t)= .bW [.str t.1,kY t.2.1,kY t.2.2]:=λ_=>rfl;have a1:∀t:Tn,nC [W.str t.1,kY t.2.1,kY t.2.2] 1=aa (kY t.2.1):=λ_=>rfl;rw[ee,show oH none=W.cc from rfl]at *;unfold uv;ext;rw[a1];dsimp only;refine AN hr ft hw (λys hys q hq=>?_) λh0=>by rw[e]at h0;cases h0
 rw[e]at hys;cases hys
 try ext
 exact h q hq
def RB (e:t.2.1.mt y=aa ms) (hr:t.2.1.depth<r) (ft:y.bt 0) (hw:t.2.1.aq≤90000) (h:∀q,S q=none→T E D [x0,x1,aa (kY y),aa (oH (aa t)),aa (oH none),x5,aa (.ref q),x7] (bR S q (.bO (af ms)))):uv (r+1) T E D [x0,x1,aa (kY y),aa (oH (aa t)),aa (oH none),x5,x6,x7] S:=by
 have ee:∀t:Tn,oH (aa t)= .bW [.str t.1,kY t.2.1,kY t.2.2]:=λ_=>rfl;have a1:∀t:Tn,nC [W.str t.1,kY t.2.1,kY t.2.2] 1=aa (kY t.2.1):=λ_=>rfl;rw[ee,show oH none=W.cc from rfl]at *;unfold uv;ext;rw[a1];dsimp only;refine AN hr ft hw (λys hys q hq=>?_) λh0=>by rw[e]at h0;cases h0
 rw[e]at hys;cases hys
 try ext
 exact h q hq
theorem Km (hB:∀t∈B,t.2.1.depth≤4∧t.2.1.aq≤100∧t.2.2.depth≤4∧t.2.2.aq≤100∧t.2.2.bt t.2.1.nb):∀(n:Nat) {S:li}{x y z:Tr}{r:Nat}{Q:WK}{E:ah→li→Prop},S a=aa (.bO (B.map mK))→Mv B n x y z→n+12≤r→x.hd (λ_=>True)→y.hd (λ_=>True)→x.aq≤1000→y.aq≤1000→Q (kY z) S→tw (r+1) [.ref a,kY x,kY y] S Q E
 |0,S,x,y,z,r,Q,E,ha,M,hr,hx,hy,wx,wy,h=>by cases M
 |n+1,S,x,y,z,r,Q,E,ha,M,hr,hx,hy,wx,wy,h=>by
  obtain⟨r,rfl⟩:∃r',r=r'+1:=⟨r - 1,by lia⟩
  have one:∀{as bs:List Tr},hds (λ_=>True) as→hds (λ_=>True) bs→mJ as≤1000→mJ bs≤1000→ ∀(S1:li),Sub S S1→ ∀{a' b' c':Tr}{Q:WK}{E:ah→li→Prop},a'∈as→b'∈bs→Mv B n a' b' c'→Q (kY c') S1→tw (r+1) [.ref a,kY a',kY b'] S1 Q E:=λ{as bs} h1 h2 h3 h4 S1 sb {a' b' c' Q E} m1 m2 M q=>
   Km hB n (sb _ _ ha) M (by lia) (mW.mp h1 _ m1) (mW.mp h2 _ m2) (by have:=pf m1;lia) (by have:=pf m2;lia) q
  have start:∀{s z:ah}{ts us:List Tr}{E':WX}{D:mY}{S1:li}{va vb vf:W}{f:Option Tn}{as bs cs:List Tr},S1 a=aa (.bO (B.map mK))→Sub S S1→yt S1 va (af as)→yt S1 vb (af bs)→nV B n as bs cs→hds (λ_=>True) as→hds (λ_=>True) bs→mJ as≤1000→mJ bs≤1000→(∀t,f=aa t→t∈B∧cs.length=t.2.1.nb)→(∀S',Sub S S'→D.rt (kY (DU f s cs)) S')→
    Bz (r+1) E' D [aa (.ref a),aa (W.bW (W.str s::af ts)),aa (W.bW (W.str z::af us)),aa vf,aa (oH f),aa va,aa vb,none] S1:=λ{s z ts us E' D S1 va vb vf f as bs cs} iU sb q1 q2 M h1 h2 h3 h4 hf hQ=>by
   have hl:=qF as;have:=Ph (x:= .nd s ts) (y:= .nd z us) (vf:=vf) (f:=f) (x7:=none) (E:=E') (D:=D) rfl iU q1 q2 M (by lia) (λt ht=>by
    obtain⟨m,e⟩:=hf t ht;obtain⟨g1,g2,g3,g4,g5⟩:=hB t m;exact⟨g3,g4,by rw[e];exact g5⟩) (by lia) (one h1 h2 h3 h4 S1 sb) λS' sb'=>hQ S' (sb.trans sb')
   simpa only[kY]using this
  obtain⟨s,ts,z',us,rfl,rfl⟩:=M.nd;have ex:kY (.nd s ts)= .bW (.str s::af ts):=by simp only[kY]
  have ey:kY (.nd z' us)= .bW (.str z'::af us):=by simp only[kY]
  have hx':=hx;have hy':=hy;have wx':=wx;have wy':=wy;simp only[Tr.hd]at hx' hy';simp only[Tr.aq]at wx' wy';rw[Ta,ex,ey];ext;refine xH ha (xH ha ?_);cases M with
  | @nn _ _ _ _ _ cs e1 e2 M=>
   rw[e1,e2];exact Uc (start (f:=none) ha .refl (.inl rfl) (.inl rfl) M hx'.2 hy'.2 (by lia) (by lia) (λ_ h=>nomatch h) λS' sb=>⟨_,sb,h⟩)
  | @ns _ _ _ _ _ cs ms t e1 e2 e3 e4 M=>
   have ht:t∈B:=bX e2;have hm:=xr t.2.1 _ _ e3 hx;have ft:=ul (m:=0) _ hx;obtain⟨g1,g2,g3,g4,g5⟩:=hB t ht;rw[e1,e2,←ex];refine PH e3 (by lia) ft (by lia) λq hq=>?_;rw[ex];exact start (f:=aa t) (keep ha hq) (.bR .refl hq) (.inr ⟨q,rfl,mR⟩) (.inl rfl) M hm.1 hy'.2 (by lia) (by lia) (λ_ h=>by cases h;exact⟨ht,e4⟩) λS' sb=>⟨_,sb,h⟩
  | @sn _ _ _ _ _ cs ms t e1 e2 e3 M=>
   have ht:t∈B:=bX e1;have hm:=xr t.2.1 _ _ e3 hy;have ft:=ul (m:=0) _ hy;obtain⟨g1,g2,g3,g4,g5⟩:=hB t ht;rw[e1,e2,←ey];refine RB e3 (by lia) ft (by lia) λq hq=>?_;rw[ey];exact start (f:=none) (keep ha hq) (.bR .refl hq) (.inl rfl) (.inr ⟨q,rfl,mR⟩) M hx'.2 hm.1 (by lia) (by lia) (λ_ h=>nomatch h) λS' sb=>⟨_,sb,h⟩
  | @ss _ _ _ _ _ cs t t' e1 e2 e3 M=>
   have ht:t∈B:=bX e2;rw[e1,e2];exact Vw (start (f:=aa t) ha .refl (.inl rfl) (.inl rfl) M hx'.2 hy'.2 (by lia) (by lia) (λ_ h=>by cases h;exact⟨ht,e3⟩) λS' sb=>⟨_,sb,h⟩)
def P8:oh 1=λt=>t.2.1:=by funext t;exact if_pos rfl
def AG:oh 2=λt=>t.2.2:=by funext t;exact if_neg (by decide)
section
variable {ws hs:List ah}{B:List Tn}
def ox.s2 (b:ox ws hs B):vm (oh 2) B:=by
 rw[AG];refine⟨λt ht=>(b.ri t ht).bt,λt ht=>?_,λt ht=>?_⟩
 ·have:=(b.ri t ht).dp;show t.2.2.depth≤4;lia
 ·have:=(b.ri t ht).wt;show t.2.2.aq≤10;lia
mutual
theorem OO:∀(L t:Tr) (ys:List Tr),L.mt t=aa ys→ ∀y∈ys,y.depth≤t.depth
 | .bl n,t,ys,e,y,hy=>by
  rw[Tr.mt]at e;cases e;rw[bi]at hy;rw[hy];exact aA _
 | .nd s ls, .bl n,ys,e,y,hy=>by rw[Tr.mt]at e;cases e
 | .nd s ls, .nd z us,ys,e,y,hy=>by
  rw[Tr.mt]at e;split at e
  ·have:=B6 ls us ys e y hy;rw[Tr.depth];lia
  ·cases e
theorem B6:∀(ls us ys:List Tr),nM ls us=aa ys→ ∀y∈ys,y.depth≤m_ us
 | [],us,ys,e,y,hy=>by rw[nM]at e;cases e;cases hy
 |l::ls,[],ys,e,y,hy=>by rw[nM]at e;cases e;cases hy
 |l::ls,u::us,ys,e,y,hy=>by
  rw[nM]at e;cases q1:l.mt u with
  |none=>rw[q1]at e;cases e
  |some xs=>
   rw[q1]at e;cases q2:nM ls us with
   |none=>rw[q2]at e;cases e
   |some zs=>
    rw[q2]at e;cases e;rw[m_];obtain hy |hy:=bp.mp hy
    ·have:=OO l u xs q1 y hy;lia
    ·have:=B6 ls us zs q2 y hy;lia
end
def XW (c d:Int→Nat):Prop:=∀x:Int,0≤x→x<8→(c x≤1∧d x≤1)∨(c x=2∧d x=2)
end
def xl (f x:Int):nJ f x≤1:=by unfold nJ;split<;>lia
def Jv (B:List Tn) (s:ah) (g:Tn→W):B.findSome? (λt=>if t.1 == s then aa (g t) else none)=(m9 B s).map g:=by
 unfold m9
 induction B with
 |nil=>rfl
 |cons t B ih=>
  rw[eF,b_];cases e:t.1 == s with
  |true=>rfl
  |false=>simpa using ih
theorem Hg (hnd:(B.map λt=>t.1).Nodup) (ha:S a=aa (.bO (B.map mK))) (hn:n=1∨n=2) (hg:vm (oh n) B):∀(d:Nat) {t:Tr}{r:Nat}{Q:WK}{E:ah→li→Prop},t.depth≤d→d+10≤r→t.ar B→t.aq≤1000→Q (kY (t.mk B (oh n))) S→ze (r+1) [.ref a,kY t, .int n] S Q E
 |0,t,r,Q,E,hd,hr,hh,hw,h=>by have:=qB t;lia
 |d+1, .bl k,r,Q,E,hd,hr,hh,hw,h=>by simp [Tr.ar]at hh
 |d+1, .nd s ts,r,Q,E,hd,hr,hh,hw,h=>by
  simp only[Tr.depth]at hd;simp only[Tr.aq]at hw;simp only[Tr.ar]at hh;have hk:=qF ts;obtain⟨r,rfl⟩:∃r',r=r'+1:=⟨r - 1,by lia⟩
  rw[ze];simp only[kY];walk_at "wp";rw[o5];refine p9 (λσ=>∃x,σ=[x,aa (.ref a),aa (.int n)]) kY (λt=>kY (t.mk B (oh n))) trivial ts [] _ ⟨none,rfl⟩ (by simp;lia) (λx hx σ R hI hR=>?_) ?_
  ·obtain⟨y,rfl⟩:=hI;have hdx:=p5 hx;have hwx:=pf hx;simp only[Mr];walk_at "wp";exact Hg hnd ha hn hg d (by lia) (by lia) (oA.mp hh.2 x hx) (by lia) (hR _ _ ⟨_,rfl⟩ .refl)
  ·rw[aX];intro q hq;have eu:(ts.map λt=>kY (t.mk B (oh n)))=af (ts.map (Tr.mk B (oh n))):=by rw[o5,bu];rfl
   rw[eu,←o5];have fq:bR S q (Ob.bO (af (ts.map (Tr.mk B (oh n))))) q=aa (.bO (af (ts.map (Tr.mk B (oh n))))):=mR;have fa:=keep (x:=Ob.bO (af (ts.map (Tr.mk B (oh n))))) ha hq;have sub:Sub S (bR S q (Ob.bO (af (ts.map (Tr.mk B (oh n)))))):= .bR .refl hq;generalize bR S q (Ob.bO (af (ts.map (Tr.mk B (oh n)))))=S1 at fq fa sub⊢
   try walk_at "wp"
   rw[m8 fa];refine v6 (S:=S1) ?_ (λσ=>∃x,σ=[aa (.ref a),aa (.bW (.str s::af ts)),aa (.int n),aa (.ref q),x]) mK (λt=>if t.1 == s then aa (kY ((oh n t).aD (ts.map (Tr.mk B (oh n))))) else none) B _ ⟨_,rfl⟩ (λt ht σ N hI hno hret=>?_) (λe σ hI=>?_) λw e S' sb=>?_
   ·exact fa
   ·obtain⟨x,rfl⟩:=hI;simp only[GC];have ee:mK t= .bW [.str t.1,kY t.2.1,kY t.2.2]:=rfl;rw[ee];walk_at "wp";cases e:t.1 == s with
    |true=>
     rw[e]at hret
     try walk_at "wp"
     rw[KI t hn];dsimp only;have et:t.1=s:=by simpa using e
     have hgw:=hg.wt t ht;refine A_ 4 (hg.dp t ht) (by lia) fq ?_ (by lia) (hret _ rfl _ .refl);rw[ay,hh.1 t (by rw[←et];exact rg hnd ht)];exact hg.bt t ht
    |false=>
     rw[e]at hno;exact hno rfl _ _ ⟨_,rfl⟩ .refl
   ·obtain⟨x,rfl⟩:=hI;rw[Jv]at e;have e0:m9 B s=none:=by
     cases z:m9 B s with
     |none=>rfl
     |some t=>rw[z]at e;cases e
    rw[B7 e0]at h
    try walk_at "wp"
    rw[OD]
    try rw[m8 fq]
    try walk_at "wp"
    simp only[kY]at h;refine⟨m7 ?_,_,sub,h⟩;rw[pH,ay];lia
   ·rw[Jv]at e;cases z:m9 B s with
    |none=>rw[z]at e;cases e
    |some t=>
     rw[z]at e;rw[BF z]at h;cases e;exact⟨_,sub.trans sb,h⟩
def sJ (B:List Tn) (s:ah) (n:Nat):List (List Int):=match m9 B s with
 |none=>(bx n).map λ(i:Nat)=>[(i:Int)]
 |some t=>t.2.1.bls.map λx=>x.1
mutual
def Tr.us (B:List Tn) (p:List Int):Tr→List (List Int×ah)
 | .bl _=>[]
 | .nd s ts=>(match m9 B s with
  |none=>[]
  |some _=>[(p,s)])++vH B p (sJ B s ts.length) ts
def vH (B:List Tn) (p:List Int):List (List Int)→List Tr→List (List Int×ah)
 |q::qs,t::ts=>t.us B (p++q)++vH B p qs ts
 |_,_=>[]
end
def VF (B:List Tn) (k:Int) (n:Nat):List (List Int):=if k<0 then(bx n).map λ(i:Nat)=>[(i:Int)] else(B.getD k.toNat (⟨#[]⟩, .bl 0, .bl 0)).2.1.bls.map λx=>x.1
mutual
def Pl.ns (B:List Tn) (p:List Int):Pl→List (List Int×Int×ah)
 | .nd k b h ps=>(if k<0 then [] else [(p,b,(B.getD k.toNat (⟨#[]⟩, .bl 0, .bl 0)).1)])++My B p (VF B k ps.length) ps
def My (B:List Tn) (p:List Int):List (List Int)→List Pl→List (List Int×Int×ah)
 |q::qs,t::ts=>t.ns B (p++q)++My B p qs ts
 |_,_=>[]
end
def Xd (h:m9 B s=none):(Tr.nd s ts).us B p=vH B p ((bx ts.length).map λ(i:Nat)=>[(i:Int)]) ts:=by
 rw[Tr.us,sJ,h];rfl
def Vg (h:m9 B s=aa t):(Tr.nd s ts).us B p=(p,s)::vH B p (t.2.1.bls.map λx=>x.1) ts:=by
 rw[Tr.us,sJ,h];rfl
def HY (c:Int→Nat) (xs:List (List Int×Int×ah)):List (List Int×ah):=(xs.filter λx=>c x.2.1 == 1).map λx=>(x.1,x.2.2)
def o4 (B:List Tn) (t:Tr):Option Tn:=B.find? λu=>(u.2.1.mt t).isSome
mutual
def Tr.op (B:List Tn) (p:List Int):Tr→List (List Int×ah)
 | .bl _=>[]
 | .nd s ts=>(match o4 B (.nd s ts) with
  |none=>[]
  |some t=>[(p,t.1)])++pB B p 0 ts
def pB (B:List Tn) (p:List Int) (i:Nat):List Tr→List (List Int×ah)
 | []=>[]
 |t::ts=>t.op B (p++[(i:Int)])++pB B p (i+1) ts
end
def vd (hL:L∈bN n h c d):∃ts,L= .nd h ts:=by
 unfold bN at hL;split at hL<;>simp only[az,bq,or_false]at hL
 all_goals first
  | (subst hL;exact⟨_,rfl⟩)
  | (rcases hL with rfl |rfl<;>exact⟨_,rfl⟩)
def yI (h:((Tr.nd s ls).mt (.nd z us)).isSome=true):s=z:=by
 simp only[Tr.mt]at h;split at h
 ·rename_i q;simp only[bV,beq_iff_eq]at q;exact q.1
 ·cases h
def J1 (hL:L∈bN n h c d) (hM:M∈bN n h c d) (h1:(L.mt x).isSome=true) (h2:(M.mt x).isSome=true):L=M:=by
  cases x with
  |bl k=>
    obtain⟨ts,rfl⟩:=vd hL;simp [Tr.mt]at h1
  |nd s ts=>
    unfold bN at hL hM;split at hL<;>simp only[az,bq,or_false]at hL hM
    all_goals first
      | (rw[hL,hM])
      | (rcases hL with rfl |rfl<;>rcases hM with rfl |rfl<;>first
          |rfl
          | (exfalso
             obtain _ |⟨u,us⟩:=ts
             · simp [Tr.mt]at h1
             · cases u with
               |bl k=>simp [Tr.mt,nM]at h1 h2
               |nd z vs=>
                 obtain _ |⟨v,vs⟩:=vs
                 · simp [Tr.mt,nM]at h1 h2
                 · obtain _ |⟨v',vs⟩:=vs
                   · cases v with
                     |bl k=>simp [Tr.mt,nM]at h1 h2
                     |nd z' xs=>
                       obtain _ |⟨x',xs⟩:=xs
                       · simp [Tr.mt,nM]at h1 h2
                       · simp [Tr.mt,nM]at h1 h2
                   · simp [Tr.mt,nM]at h1 h2))
def mF.one (b:mF w0 w1 w2 w3 w4 w5 tt B) (G:nU w0 w1 w2 w3 w4 w5) (hu:u∈B) (hv:v∈B) (h1:(u.2.1.mt x).isSome=true) (h2:(v.2.1.mt x).isSome=true):u.2.1=v.2.1:=by
 obtain⟨n,m,e⟩:=b.lf;have mu:u.2.1∈bN n w0 w2 w3++bN m w1 w2 w3:=by rw[←e];exact aV.mpr ⟨u,hu,rfl⟩
 have mv:v.2.1∈bN n w0 w2 w3++bN m w1 w2 w3:=by rw[←e];exact aV.mpr ⟨v,hv,rfl⟩
 have key:∀{L M:Tr},L∈bN n w0 w2 w3→M∈bN m w1 w2 w3→(L.mt x).isSome=true→(M.mt x).isSome=true→False:=λ{L M} hL hM k1 k2=>by
  obtain⟨ts,rfl⟩:=vd hL;obtain⟨us,rfl⟩:=vd hM;cases x with
  |bl k=>simp [Tr.mt]at k1
  |nd s vs=>exact G.n0 w1 (by simp) ((yI k1).trans (yI k2).symm)
 rcases bp.mp mu with z |z<;>obtain y |y:=bp.mp mv
 ·exact J1 z y h1 h2
 ·exact(key z y h1 h2).elim
 ·exact(key y z h2 h1).elim
 ·exact J1 z y h1 h2
def Nz (n:Nat) (h c d:ah):(bN n h c d).Nodup:=by
 unfold bN;split<;>simp
def mF.inj (b:mF w0 w1 w2 w3 w4 w5 tt B) (G:nU w0 w1 w2 w3 w4 w5):(B.map λt=>t.2.1).Nodup:=by
 obtain⟨n,m,e⟩:=b.lf;rw[e,List.nodup_append];refine⟨Nz ..,Nz ..,λx hx y hy=>?_⟩;obtain⟨ts,rfl⟩:=vd hx;obtain⟨us,rfl⟩:=vd hy;intro z;cases z;exact G.n0 _ (by simp) rfl
theorem Ch{α β:Type}{f:α→β}:∀{xs:List α}{x y:α},(xs.map f).Nodup→x∈xs→y∈xs→f x=f y→x=y
 |z::xs,x,y,h,hx,hy,e=>by
  rw[aC,d5]at h;obtain h1 |h1:=az.mp hx
  ·obtain h2 |h2:=az.mp hy
   ·rw[h1,h2]
   ·exact(h.1 (aV.mpr ⟨y,h2,by rw[←e,h1]⟩)).elim
  ·obtain h2 |h2:=az.mp hy
   ·exact(h.1 (aV.mpr ⟨x,h1,by rw[e,h2]⟩)).elim
   ·exact Ch h.2 h1 h2 e
def mF.open_some (b:mF w0 w1 w2 w3 w4 w5 tt B) (G:nU w0 w1 w2 w3 w4 w5) (ht:t∈B) (hu:us.length=t.2.1.nb):o4 B (t.2.1.aD us)=aa t:=by
 have hm:=b.mt t ht us hu;unfold o4;cases e:B.find? λu=>(u.2.1.mt (t.2.1.aD us)).isSome with
 |none=>
  rw[gB]at e;have:=e t ht;rw[hm]at this;simp at this
 |some u=>
  have hu':=eN e;have mu:=bX e;have:=b.one G mu ht hu' (by rw[hm];rfl);rw[Ch (b.inj G) mu ht this]
def mF.open_none (b:mF w0 w1 w2 w3 w4 w5 tt B) (h0:w0≠s) (h1:w1≠s):o4 B (.nd s ts)=none:=by
 obtain⟨n,m,e⟩:=b.lf;unfold o4;rw[gB];intro u hu hz;have mu:u.2.1∈bN n w0 w2 w3++bN m w1 w2 w3:=by rw[←e];exact aV.mpr ⟨u,hu,rfl⟩
 rcases bp.mp mu with z |z<;>obtain⟨ls,el⟩:=vd z<;>rw[el]at hz
 ·exact h0 (yI hz)
 ·exact h1 (yI hz)
def tW (B:List Tn) (p:List Int):List (List Int)→List Tr→List (List Int×ah)
 |q::qs,t::ts=>t.op B (p++q)++tW B p qs ts
 |_,_=>[]
def Nk (hL:L∈bN n h c d) (h2:∀xs,o4 B (.nd c xs)=none) (h3:∀xs,o4 B (.nd d xs)=none) (hu:us.length=L.nb) (hk:L= .nd h ks) (p:List Int):pB B p 0 (aF us ks)=tW B p (L.bls.map λx=>x.1) us:=by
 unfold bN at hL;split at hL<;>simp only[az,bq,or_false]at hL
 all_goals first
  | (subst hL;cases hk;rcases us with _ |⟨u,_ |⟨v,_ |⟨x,_ |⟨y,us⟩⟩⟩⟩<;>simp [Tr.nb,nbs,Tr.aD,aF,Tr.op,pB,h2,h3,tW,Tr.bls,Tr.plt,oJ,Tr.isBl,fh]at hu⊢ <;>lia)
  | (rcases hL with rfl |rfl<;>cases hk<;>rcases us with _ |⟨u,_ |⟨v,_ |⟨x,_ |⟨y,us⟩⟩⟩⟩<;>simp [Tr.nb,nbs,Tr.aD,aF,Tr.op,pB,h2,h3,tW,Tr.bls,Tr.plt,oJ,Tr.isBl,fh]at hu⊢ <;>lia)
theorem La:∀(ts:List Tr) (i:Nat),pB B p i ts=tW B p ((f9 i ts.length).map λ(i:Nat)=>[(i:Int)]) ts
 | [],i=>by simp [pB,tW]
 |t::ts,i=>by
  rw[pB,La ts (i+1),aT,gP,aC,tW]
mutual
inductive Wi (B:List Tn) (wn:List (List Int)):Nat→List Int→Tr→Tr→Prop
 |no {n:Nat}{p:List Int}{s:ah}{ts us:List Tr}:p∉wn→m9 B s=none→pA B wn n p ((bx ts.length).map λ(i:Nat)=>[(i:Int)]) ts us→Wi B wn (n+1) p (.nd s ts) (.nd s us)
 |yes {n:Nat}{p:List Int}{s:ah}{ts us ms:List Tr}{t:Tn}:p∈wn→o4 B (.nd s ts)=aa t→t.2.1.mt (.nd s ts)=aa ms→m9 B t.1=aa t→pA B wn n p (t.2.1.bls.map λx=>x.1) ms us→Wi B wn (n+1) p (.nd s ts) (.nd t.1 us)
inductive pA (B:List Tn) (wn:List (List Int)):Nat→List Int→List (List Int)→List Tr→List Tr→Prop
 |nil {n:Nat}{p:List Int}:pA B wn n p [] [] []
 |cons {n:Nat}{p q:List Int}{qs:List (List Int)}{t u:Tr}{ts us:List Tr}:Wi B wn n (p++q) t u→pA B wn n p qs ts us→pA B wn n p (q::qs) (t::ts) (u::us)
end
mutual
theorem Wi.mono:∀{n m:Nat}{p:List Int}{t u:Tr},n≤m→Wi B wn n p t u→Wi B wn m p t u
 |_+1,m,_,_,_,h, .no h1 h2 h3=>by
  obtain⟨m,rfl⟩:∃m',m=m'+1:=⟨m - 1,by lia⟩
  exact .no h1 h2 (pA.mono (by lia) h3)
 |_+1,m,_,_,_,h, .yes h1 h2 h3 h4 h5=>by
  obtain⟨m,rfl⟩:∃m',m=m'+1:=⟨m - 1,by lia⟩
  exact .yes h1 h2 h3 h4 (pA.mono (by lia) h5)
theorem pA.mono:∀{n m:Nat}{p:List Int}{qs:List (List Int)}{ts us:List Tr},n≤m→pA B wn n p qs ts us→pA B wn m p qs ts us
 |_,_,_,_,_,_,_, .nil=> .nil
 |_,_,_,_,_,_,h, .cons h1 h2=> .cons (Wi.mono h h1) (pA.mono h h2)
end
def Z1 (c:Int→Nat) (xs:List (List Int×Int×ah)):List (List Int):=(HY c xs).map λx=>x.1
def Z3 (qs:List (List Int)):Prop:=qs.Pairwise λa b=>¬a <+:b∧ ¬b <+:a
def WP:(Tr.nd h [.bl 0]).bls.map (λx=>x.1)=[[0]]:=by simp [Tr.bls,Tr.plt,oJ,Tr.isBl]
def Xk:(Tr.nd h [.bl 0, .bl 1]).bls.map (λx=>x.1)=[[0],[1]]:=by simp [Tr.bls,Tr.plt,oJ,Tr.isBl]
def Sr:(Tr.nd h [.nd c []]).bls.map (λx=>x.1)=[]:=by simp [Tr.bls,Tr.plt,oJ,Tr.isBl]
def Zc:(Tr.nd h [.nd d [.bl 0]]).bls.map (λx=>x.1)=[[0,0]]:=by simp [Tr.bls,Tr.plt,oJ,Tr.isBl]
def Pz:(Tr.nd h [.nd c [], .bl 0]).bls.map (λx=>x.1)=[[1]]:=by simp [Tr.bls,Tr.plt,oJ,Tr.isBl]
def Su:(Tr.nd h [.nd d [.bl 0], .bl 1]).bls.map (λx=>x.1)=[[0,0],[1]]:=by simp [Tr.bls,Tr.plt,oJ,Tr.isBl]
def Yu:(Tr.nd h [.nd d [.nd d [.bl 0]], .bl 1, .bl 2]).bls.map (λx=>x.1)=[[0,0,0],[1],[2]]:=by simp [Tr.bls,Tr.plt,oJ,Tr.isBl]
def RN:(Tr.nd h [.nd d [.nd c []], .bl 0, .bl 1]).bls.map (λx=>x.1)=[[1],[2]]:=by simp [Tr.bls,Tr.plt,oJ,Tr.isBl]
def Qh:(Tr.nd h []).bls.map (λx=>x.1)=[]:=by simp [Tr.bls,Tr.plt,oJ,Tr.isBl]
def encX (x:List Int×ah):W:= .bW [mB x.1, .str x.2]
structure rz (B:List Tn):Prop where
  d:∀t∈B,t.2.1.depth≤4
  w:∀t∈B,t.2.1.aq≤20
def ZW{E:ah→li→Prop}(L:rz B) (ha:S a=aa (.bO (B.map mK))) (hl:ts.length≤1000) (hr:20≤r) (h:∀q,S q=none→Q (.ref q) (bR S q (.bO ((sJ B s ts.length).map mB)))):za (r+1) [.ref a,kY (.nd s ts)] S Q E:=by
 obtain⟨r,rfl⟩:∃r',r=r'+1:=⟨r - 1,by lia⟩
 rw[za];simp only[kY];ext;refine xH ha ?_;unfold sJ at h;cases e:m9 B s with
 |none=>
  rw[e]at h;simp only[oH]
  try ext
  rw[pH];have e1:(((ts.length+1:Nat):Int) - 1).toNat=ts.length:=by lia
  rw[e1];refine⟨⟨by lia,by lia⟩,?_⟩
  rw[Vs];refine p9 (λσ=>∃x,σ=[x]) (λi:Nat=>W.int i) (λi=>mB [(i:Int)]) trivial (bx ts.length) [] _ ⟨none,rfl⟩ (by simp;lia) (λx hx σ R hI hR=>?_) ?_
  ·obtain⟨y,rfl⟩:=hI;simp only[LX];ext;exact⟨m7 (by decide),hR _ _ ⟨_,rfl⟩ .refl⟩
  ·rw[aX];intro q hq;have:=h q hq;simp only[bu]at this;exact⟨_, .refl,this⟩
 |some t=>
  rw[e]at h;have ht:t∈B:=bX e;have ee:oH (aa t)= .bW [.str t.1,kY t.2.1,kY t.2.2]:=rfl;rw[ee]
  try ext
  rw[show nC [W.str t.1,kY t.2.1,kY t.2.2] 1=aa (kY t.2.1) from rfl];dsimp only;have h1:=L.d t ht;have h2:=L.w t ht;refine F8 (by lia) (by lia) λq hq=>?_;have:=h q hq;simp only[bu]at this;exact⟨_, .refl,this⟩
def I_ (B:List Tn) (x:Tr):B.findSome? (λt=>if(t.2.1.mt x).isSome then aa (mK t) else none)=(o4 B x).map mK:=by
 unfold o4
 induction B with
 |nil=>rfl
 |cons t B ih=>
  rw[eF,b_];cases e:(t.2.1.mt x).isSome with
  |true=>rfl
  |false=>simpa using ih
def G5{E:ah→li→Prop}(L:rz B) (ha:S a=aa (.bO (B.map mK))) (hf:x.bt 0) (hr:20≤r) (h:Q (oH (o4 B x)) S):yk (r+1) [.ref a,kY x] S Q E:=by
 obtain⟨r,rfl⟩:∃r',r=r'+1:=⟨r - 1,by lia⟩
 rw[yk];ext;rw[m8 ha];refine v6 (S:=S) ?_ (λσ=>∃y,σ=[aa (.ref a),aa (kY x),y]) mK (λt=>if(t.2.1.mt x).isSome then aa (mK t) else none) B _ ⟨_,rfl⟩ (λt ht σ N hI hno hret=>?_) (λe σ hI=>?_) λw e S' sb=>?_
 ·exact ha
 ·obtain⟨y,rfl⟩:=hI;simp only[GW];have ee:mK t= .bW [.str t.1,kY t.2.1,kY t.2.2]:=rfl;rw[ee];ext;rw[show nC [W.str t.1,kY t.2.1,kY t.2.2] 1=aa (kY t.2.1) from rfl];dsimp only;have h1:=L.d t ht;have h2:=L.w t ht;refine AN (by lia) hf (by lia) (λys hys q hq=>?_) λh0=>?_
  ·try ext
   rw[hys]at hret;exact hret _ rfl _ (.bR .refl hq)
  ·try ext
   rw[h0]at hno;exact hno rfl _ _ ⟨_,rfl⟩ .refl
 ·obtain⟨y,rfl⟩:=hI;ext;rw[I_]at e;have:o4 B x=none:=by
   cases q:o4 B x with
   |none=>rfl
   |some t=>rw[q]at e;cases e
  rw[this]at h;exact⟨_, .refl,h⟩
 ·rw[I_]at e;cases q:o4 B x with
  |none=>rw[q]at e;cases e
  |some t=>
   rw[q]at e h;cases e;exact⟨_,sb,h⟩
mutual
theorem xL (B:List Tn):∀(t:Tr) (p:List Int),(t.op B p).length≤t.aq
 | .bl n,p=>by simp [Tr.op]
 | .nd s ts,p=>by
  have:=Nq B ts p 0;rw[Tr.op,a_,Tr.aq];split<;>simp<;>lia
theorem Nq (B:List Tn):∀(ts:List Tr) (p:List Int) (i:Nat),(pB B p i ts).length≤mJ ts
 | [],p,i=>by simp [pB]
 |t::ts,p,i=>by
  have h1:=xL B t (p++[(i:Int)]);have h2:=Nq B ts p (i+1);rw[pB,a_,mJ];lia
end
mutual
theorem L4 (L:rz B) (haf:f≠a):∀(t:Tr) {r:Nat}{p:List Int}{xs:List W}{S:li}{Q:WK}{E:ah→li→Prop},t.depth+25≤r→S a=aa (.bO (B.map mK))→S f=aa (.bO xs)→xs.length+t.aq≤100000→p.length+t.depth≤1000→t.hd (λ_=>True)→
  Q .cc (bR S f (.bO (xs++(t.op B p).map encX)))→xE (r+1) [.ref a,kY t,mB p, .ref f] S Q E
 | .bl n,r,p,xs,S,Q,E,hr,ha,hf,hx,hp,hh,h=>by simp [Tr.hd]at hh
 | .nd s ts,r,p,xs,S,Q,E,hr,ha,hf,hx,hp,hh,h=>by
  have ft:=ul (m:=0) _ hh;simp only[Tr.depth]at hr hp;simp only[Tr.aq]at hx;simp only[Tr.hd]at hh;obtain⟨r,rfl⟩:∃r',r=r'+1:=⟨r - 1,by lia⟩
  rw[xE];have ee:kY (.nd s ts)= .bW (.str s::af ts):=by simp only[kY]
  ext;refine G5 L ha ft (by lia) ?_;rw[Tr.op]at h;cases e:o4 B (.nd s ts) with
  |none=>
   rw[e]at h;simp only[aX]at h;simp only[oH];rw[ee]
   try ext
   exact E7 L haf ts (by lia) ha hf (by lia) (by lia) hh.2 λx5 x6=>⟨_, .refl,h⟩
  |some t=>
   rw[e]at h;have et:oH (aa t)= .bW [.str t.1,kY t.2.1,kY t.2.2]:=rfl;rw[et,ee]
   try ext
   simp only[m8 hf,true_and];refine⟨m7 (by decide),qC (by lia),?_⟩;refine E7 L haf ts (xs:=xs++[encX (p,t.1)]) (by lia) (by rw[nO (bz haf)];exact ha) mR (by simp;lia) (by lia) hh.2 λx5 x6=>⟨_, .refl,?_⟩;rw[pN];simpa using h
theorem E7 (L:rz B) (haf:f≠a):∀(ts:List Tr) {r:Nat}{p:List Int}{i:Nat}{xs:List W}{S:li}{E:WX}{D:mY}{t0 x4 x5 x6:Option W},m_ ts+25≤r→S a=aa (.bO (B.map mK))→S f=aa (.bO xs)→xs.length+mJ ts≤100000→p.length+1+m_ ts≤1000→hds (λ_=>True) ts→
  (∀x5 x6,D.nx [aa (.ref a),t0,aa (mB p),aa (.ref f),x4,x5,x6] (bR S f (.bO (xs++(pB B p i ts).map encX))))→
  mO (pC (nP (mx 5) (nP (mx 6) o6))) (CS (r+1) (xE (r+1))) E D (λ_=>True) (pL i (af ts)) [aa (.ref a),t0,aa (mB p),aa (.ref f),x4,x5,x6] S
 | [],r,p,i,xs,S,E,D,t0,x4,x5,x6,hr,ha,hf,hx,hp,hh,h=>by
  simp only[af,pL,mO];have:=h x5 x6;rw[pB,cr,bg,sH hf]at this;exact this
 |t::ts,r,p,i,xs,S,E,D,t0,x4,x5,x6,hr,ha,hf,hx,hp,hh,h=>by
  simp only[m_]at hr hp;simp only[mJ]at hx;simp only[hds]at hh;simp only[af,pL];refine pT λN hN=>?_;simp only[CS];ext;rw[Kv];refine⟨m7 (by decide),m7 (by lia),?_⟩;have ol:=xL B t (p++[(i:Int)]);refine L4 L haf t (by lia) ha hf (by lia) (by simp;lia) hh.1 ?_;refine hN _ _ _ .refl trivial (E7 L haf ts (xs:=xs++(t.op B (p++[(i:Int)])).map encX) (by lia) (by rw[nO (bz haf)];exact ha) mR (by simp;lia) (by lia) hh.2 λx5 x6=>?_);rw[pN];have:=h x5 x6;rw[pB,bM]at this;simpa using this
end
def Lv:om (mB p) (mB q) S Q=(p.length+q.length≤sizeLine∧Q (mB (p++q)) S):=by
 unfold mB;rw[Fs,ay,ay,bM]
def PB (B:List Tn):Prop:=∀t∈B,∀x∈t.2.1.bls,x.1.length≤4
def YZ (h:PB B):∀q∈sJ B s n,q.length≤4:=λq hq=>by
 unfold sJ at hq;cases e:m9 B s with
 |none=>
  rw[e]at hq;obtain⟨i,_,rfl⟩:=aV.mp hq;simp
 |some t=>
  rw[e]at hq;obtain⟨x,hx,rfl⟩:=aV.mp hq;exact h t (bX e) x hx
section
variable {a:ai}{B:List Tn}{S:li}{r:Nat}{Q:WK}{E:ah→li→Prop}{t:Tr}
def zK (L:rz B) (ha:S a=aa (.bO (B.map mK))) (hd:t.depth≤60) (hr:t.depth+30≤r) (hw:t.aq≤1000) (hh:t.hd (λ_=>True)) (h:∀q,S q=none→Q (.ref q) (bR S q (.bO ((t.op B []).map encX)))):tV (r+1) [.ref a,kY t] S Q E:=by
 obtain⟨r,rfl⟩:∃r',r=r'+1:=⟨r - 1,by lia⟩
 rw[tV];ext;refine⟨aO _,λq hq=>⟨aO _,?_⟩⟩;have hqa:q≠a:=λz=>by rw[z,ha]at hq;cases hq
 refine L4 L hqa t (p:=[]) (xs:=[]) (by lia) (keep ha hq) mR (by simp;lia) (by simp;lia) hh ?_;rw[pN,aX];exact⟨_, .refl,h q hq⟩
def FC{f:ai}{xs:List (List Int×ah)}(hf:S f=aa (.bO (xs.map encX))) (hl:xs.length≤10000) (h:∀q,S q=none→Q (.ref q) (bR S q (.bO ((xs.map λx=>x.1).map mB)))):wH (r+1) [.ref f] S Q E:=by
 rw[wH];ext;rw[m8 hf];refine p9 (λσ=>∃y,σ=[y]) encX (λx=>mB x.1) ?_ xs [] _ ⟨none,rfl⟩ (by simp;lia) (λx hx σ R hI hR=>?_) ?_
 ·exact hf
 ·obtain⟨y,rfl⟩:=hI;simp only[Ks,encX];ext;exact hR _ _ ⟨_,rfl⟩ .refl
 ·rw[aX];intro q hq;have:=h q hq;rw[bu]at this;exact⟨_, .refl,this⟩
def OL (L:rz B) (ha:S a=aa (.bO (B.map mK))) (hh:(Tr.nd s ts).hd (λ_=>True)) (hw:(Tr.nd s ts).aq≤1000) (hr:25≤r) (h1:o4 B (.nd s ts)=aa u) (h2:u.2.1.mt (.nd s ts)=aa ms) (h:Q (kY (.nd u.1 ms)) S):A3 (r+1) [.ref a,kY (.nd s ts)] S Q E:=by
 obtain⟨r,rfl⟩:∃r',r=r'+1:=⟨r - 1,by lia⟩
 have ht:u∈B:=bX h1;have ft:=ul (m:=0) _ hh;have hm:=xr u.2.1 _ _ h2 hh;have hl:=qF ms;rw[A3];ext;refine G5 L ha ft (by lia) ?_;rw[h1];have et:oH (aa u)= .bW [.str u.1,kY u.2.1,kY u.2.2]:=rfl;rw[et]
 try ext
 rw[show nC [W.str u.1,kY u.2.1,kY u.2.2] 1=aa (kY u.2.1) from rfl];have g1:=L.d u ht;have g2:=L.w u ht;refine⟨m7 (by decide),AN (by lia) ft (by lia) (λys hys q hq=>?_) λh0=>by rw[h2]at h0;cases h0⟩
 rw[h2]at hys;cases hys
 try ext
 rw[pH];simp only[kY]at h;exact⟨m7 (by lia),_, .bR .refl hq,h⟩
end
def PY (h:m9 B s=none):sJ B s n=(bx n).map λ(i:Nat)=>[(i:Int)]:=by unfold sJ;rw[h]
def YK (h:m9 B s=aa t):sJ B s n=t.2.1.bls.map λx=>x.1:=by unfold sJ;rw[h]
theorem pA.len:∀{qs:List (List Int)}{ts us:List Tr},pA B wn n p qs ts us→us.length=ts.length
 |_,_,_, .nil=>rfl
 |_,_,_, .cons _ h=>by rw[aT,aT,pA.len h]
theorem ID (n:Nat) (hP4:∀{t u:Tr}{p:List Int}{r:Nat}{S:li}{Q:WK}{E:ah→li→Prop},Wi B wn n p t u→n+40≤r+1→S a=aa (.bO (B.map mK))→S w=aa (.dct (uu wn))→t.hd (λ_=>True)→t.aq≤1000→p.length+4*n≤1000→Q (kY u) S→tZ (r+1) [.ref a,kY t,mB p, .ref w] S Q E) :
  ∀{ts us:List Tr}{qs:List (List Int)}{p:List Int},pA B wn n p qs ts us→ ∀{r:Nat}{xs:List W}{f:ai}{S:li}{G:li→Prop}{E:WX}{D:mY}{t0 x4 x6 x7:Option W},(∀q∈qs,q.length≤4)→n+40≤r+1→S a=aa (.bO (B.map mK))→S w=aa (.dct (uu wn))→S f=aa (.bO xs)→f≠a→f≠w→xs.length+ts.length≤10000→mJ ts≤1000→hds (λ_=>True) ts→p.length+4+4*n≤1000→(∀o,G (bR S f o))→
  (∀x6 x7,D.nx [aa (.ref a),t0,aa (mB p),aa (.ref w),x4,aa (.ref f),x6,x7] (bR S f (.bO (xs++af us))))→
  mO (pC (nP (mx 6) (nP (mx 7) o6))) (Cs (r+1) (tZ (r+1))) E D G (m4 (qs.map mB) (af ts)) [aa (.ref a),t0,aa (mB p),aa (.ref w),x4,aa (.ref f),x6,x7] S
 |_,_,_,p, .nil=>by
  rename_i r xs f S G E D t0 x4 x6 x7;intro hq hr ha hw hf n1 n2 hx hwt hh hp hG h;simp only[cr,af,m4,mO];have:=h x6 x7;simp only[af,bg,sH hf]at this;exact this
 |_,_,_,p, .cons (q:=q) (t:=t) (u:=u) (ts:=ts) (us:=us) h1 h2=>by
  rename_i r xs f S G E D t0 x4 x6 x7 qs;intro hq hr ha hw hf n1 n2 hx hwt hh hp hG h;simp only[mJ]at hwt;simp only[hds]at hh;simp only[aT]at hx;have hq4:=hq q aK;simp only[aC,af,m4];refine pT λN hN=>?_;simp only[Cs];ext;simp only[m8 hf,true_and];rw[Lv];refine⟨m7 (by lia),hP4 h1 hr ha hw hh.1 (by lia) (by simp;lia) ?_⟩
  try ext
  rw[m8 hf];refine⟨qC (by lia),?_⟩;refine hN _ _ _ .refl (hG _) (ID n hP4 h2 (xs:=xs++[kY u]) (λq' hq'=>hq q' (aI _ hq')) hr (by rw[nO (bz n1)];exact ha) (by rw[nO (bz n2)];exact hw) mR n1 n2 (by simp;lia) (by lia) hh.2 hp (λo=>by rw[pN];exact hG o) λx6 x7=>?_)
  rw[pN];have:=h x6 x7;simpa [af]using this
theorem L6 (L:rz B) (hP:PB B):∀(n:Nat) {t u:Tr}{p:List Int}{r:Nat}{S:li}{Q:WK}{E:ah→li→Prop},Wi B wn n p t u→n+40≤r+1→S a=aa (.bO (B.map mK))→S w=aa (.dct (uu wn))→t.hd (λ_=>True)→t.aq≤1000→p.length+4*n≤1000→Q (kY u) S→tZ (r+1) [.ref a,kY t,mB p, .ref w] S Q E
 |0,t,u,p,r,S,Q,E,M,hr,ha,hw,hh,hwt,hp,h=>by cases M
 |n+1,t,u,p,r,S,Q,E,M,hr,ha,hw,hh,hwt,hp,h=>by
  obtain⟨r,rfl⟩:∃r',r=r'+1:=⟨r - 1,by lia⟩
  have tail:∀{s:ah}{ts us:List Tr}{t0:Option W}{E':WX},pA B wn n p (sJ B s ts.length) ts us→hds (λ_=>True) ts→mJ ts≤1000→Q (kY (.nd s us)) S→
    (1:Nat)=1→ ∀f,S f=none→za (r+1) [.ref a, .bW (.str s::af ts)] (bR S f (.bO [])) (λx S1=>uw x S1 λxs G=>mO (pC (nP (mx 6) (nP (mx 7) o6))) (Cs (r+1) (tZ (r+1))) E' { nx:=mU (mq om (m5 (jK (mq mE (jA 4) (wC (W.int 0))) ae)) (wB rE (jK (jA 5) ae))) E' { nx:=λx S'=>∃S'',Sub S'' S'∧Q W.cc S'',rt:=λw S'=>∃S'',Sub S'' S'∧Q w S'' },rt:=λw S'=>∃S'',Sub S'' S'∧Q w S'' } (λS'=>G S'∧True) (m4 xs (af ts)) [aa (.ref a),t0,aa (mB p),aa (.ref w),aa (.bW (.str s::af ts)),aa (.ref f),none,none] S1) E:=λ{s ts us t0 E'} WW hd hw' hQ _ f hf=>by
   have hk:=qF ts;have n1:f≠a:=λz=>by rw[z,ha]at hf;cases hf
   have n2:f≠w:=λz=>by rw[z,hw]at hf;cases hf
   have ee:W.bW (W.str s::af ts)=kY (.nd s ts):=by simp only[kY]
   rw[ee];refine ZW L (keep ha hf) (by lia) (by lia) λq hq=>?_;rw[BZ,yY,←ee];obtain⟨hq1,hq2⟩:=rh hq;refine ID n (L6 L hP n) WW (YZ hP) (by lia) (keep (keep ha hf) hq) (keep (keep hw hf) hq) (keep mR hq) n1 n2 (by simp;lia) hw' hd (by lia) (λo=>⟨?_,trivial⟩) λx6 x7=>?_
   ·show bR _ f o q=_;rw[nO hq2];exact mR
   ·have hlu:us.length≤1000:=by
     have:=pA.len WW;lia
    ext;rw[pH];simp only[kY]at hQ;refine⟨m7 (by decide),m7 (by lia),S,?_,hQ⟩;rw[IP hq2];exact .bR (.bR .refl hf) hq1
  cases M with
  | @no _ _ s ts us h1 h2 h3=>
   simp only[Tr.hd]at hh;simp only[Tr.aq]at hwt;rw[tZ];simp only[kY];ext;rw[Er hw,Hq,decide_eq_false h1]
   try ext
   refine⟨aO _,λf hf=>?_⟩;have:=tail (t0:=aa (.bW (.str s::af ts))) (E':=λc x S'=>E c S') (by rw[PY h2];exact h3) hh.2 (by lia) h rfl f hf;simpa only[and_true]using this
  | @yes _ _ s ts us ms t h1 h2 h3 h4 h5=>
   have hm:=xr t.2.1 _ _ h3 hh;rw[tZ];ext;rw[Er hw,Hq,decide_eq_true h1]
   try ext
   refine OL L ha hh hwt (by lia) h2 h3 ?_;simp only[kY]
   try ext
   refine⟨aO _,λf hf=>?_⟩;have:=tail (t0:=aa (.bW (.str s::af ts))) (E':=λc x S'=>E c S') (by rw[YK h4];exact h5) hm.1 (by lia) h rfl f hf;simpa only[and_true]using this
theorem J5:∀(p q:List Int),oV (nY S (n+1)) (p.map W.int) (q.map W.int)=aa (decide (p=q))
 | [],[]=>by simp [oV]
 | [],j::q=>by simp [oV]
 |i::p,[]=>by simp [oV]
 |i::p,j::q=>by
  rw[aC,aC,oV,Ly,J5 p q];simp only[bH];rw[fZ];simp
def Dh (p q:List Int):nY S (n+2) (mB p) (mB q)=aa (decide (p=q)):=by
 unfold mB;rw[Nl,J5]
theorem CV:∀ys:List (List Int),rF S (mB x) (ys.map mB)=aa (decide (x∈ys))
 | []=>by simp [rF]
 |y::ys=>by
  rw[aC,rF,Dh (n:=57),CV ys];simp only[bH];rw[fZ];simp only[jP,decide_eq_true_eq,az];exact⟨λh=>h.elim (λe=> .inl e.symm) .inr,λh=>h.elim (λe=> .inl e.symm) .inr⟩
section
variable {a:ai}{B:List Tn}{wn:List (List Int)}{S:li}{r n:Nat}{Q:WK}{E:ah→li→Prop}{t u:Tr}{f:ai}
def DF (L:rz B) (hP:PB B) (M:Wi B wn n [] t u) (hn:n≤60) (hr:110≤r) (ha:S a=aa (.bO (B.map mK))) (hf:S f=aa (.bO (wn.map mB))) (hh:t.hd (λ_=>True)) (hw:t.aq≤1000) (hl:wn.length≤10000) (h:Q (kY u) S):xS (r+1) [.ref a,kY t, .ref f] S Q E:=by
 obtain⟨r,rfl⟩:∃r',r=r'+1:=⟨r - 1,by lia⟩
 rw[xS];ext;refine⟨aO _,?_⟩;rw[m8 hf];refine p9 (λσ=>∃y,σ=[y]) mB (λp=>W.bW [mB p, .bl true]) ?_ wn [] _ ⟨none,rfl⟩ (by simp;lia) (λx hx σ R hI hR=>?_) ?_
 ·exact hf
 ·obtain⟨y,rfl⟩:=hI;simp only[Ls];ext;exact⟨m7 (by decide),hR _ _ ⟨_,rfl⟩ .refl⟩
 ·rw[aX];have e:rq (wn.map λp=>W.bW [mB p, .bl true])=aa wn:=Jr wn;rw[e];refine⟨by lia,λd hd=>?_⟩;have e0:W.bW []=mB []:=rfl;rw[e0];exact L6 L hP n M (by lia) (keep ha hd) mR hh hw (by simp;lia) ⟨_, .bR .refl hd,h⟩
def Pe (L:rz B) (hP:PB B) (M:Wi B wn n [] t u) (hn:n≤60) (hr:115≤r) (ha:S a=aa (.bO (B.map mK))) (hf:S f=aa (.bO (wn.map mB))) (hh:t.hd (λ_=>True)) (hw:t.aq≤1000) (hd:t.depth≤60) (hl:wn.length≤10000) (hks:((t.op B []).map λx=>x.1)=ks) (hin:∀x∈wn,x∈ks) (h:Q (kY u) S):A2 (r+1) [.ref a,kY t, .ref f] S Q E:=by
 obtain⟨r,rfl⟩:∃r',r=r'+1:=⟨r - 1,by lia⟩
 have ol:=xL B t [];rw[A2];ext;refine zK L ha hd (by lia) hw hh λq hq=>?_;refine FC mR (by lia) λq2 hq2=>?_;rw[hks];have f2:bR (bR S q (Ob.bO ((t.op B []).map encX))) q2 (Ob.bO (ks.map mB)) q2=aa (.bO (ks.map mB)):=mR;have ff:=keep (x:=Ob.bO (ks.map mB)) (keep (x:=Ob.bO ((t.op B []).map encX)) hf hq) hq2;have fa:=keep (x:=Ob.bO (ks.map mB)) (keep (x:=Ob.bO ((t.op B []).map encX)) ha hq) hq2;have sub:Sub S (bR (bR S q (Ob.bO ((t.op B []).map encX))) q2 (Ob.bO (ks.map mB))):= .trans (.bR .refl hq) (.bR .refl hq2);generalize bR (bR S q (Ob.bO ((t.op B []).map encX))) q2 (Ob.bO (ks.map mB))=S2 at f2 ff fa sub⊢
 try ext
 rw[m8 ff];refine v6 (S:=S2) ?_ (λσ=>∃x,σ=[aa (.ref a),aa (kY t),aa (.ref f),aa (.ref q2),x]) mB (λ_=>none) wn _ ⟨_,rfl⟩ (λx hx σ N hI hno hret=>?_) (λe σ hI=>?_) λw e S' sb=>?_
 ·exact ff
 ·obtain⟨y,rfl⟩:=hI;unfold Hu;ext;rw[m8 f2,CV,decide_eq_true (hin x hx)]
  try ext
  exact hno rfl _ _ ⟨_,rfl⟩ .refl
 ·obtain⟨y,rfl⟩:=hI
  try ext
  exact DF L hP M hn (by lia) fa ff hh hw hl ⟨_,sub,h⟩
 ·rw[kg.mpr (λ_ _=>rfl)]at e;cases e
end
theorem Jl:∀(ls us:List Tr),(nM ls us).isSome=(ls.zip us).all λx=>(x.1.mt x.2).isSome
 | [],us=>by simp [nM]
 |l::ls,[]=>by simp [nM]
 |l::ls,u::us=>by
  rw[nM,ii,fo,←Jl ls us];cases l.mt u with
  |none=>rfl
  |some xs=>cases nM ls us<;>rfl
theorem Kb:∀(ls us:List Tr),m4 (af ls) (af us)=(ls.zip us).map λx=>W.bW [kY x.1,kY x.2]
 | [],us=>by simp [af,m4]
 |l::ls,[]=>by simp [af,m4]
 |l::ls,u::us=>by
  simp [af,m4,Kb ls us]
theorem J4{α:Type}(g:α→Bool):∀xs:List α,sE (xs.map λx=>W.bl (g x))=aa (xs.map g)
 | []=>rfl
 |x::xs=>by rw[aC,sE,J4 g xs];rfl
theorem Dq:∀(d:Nat) {l t:Tr}{r:Nat}{Q:WK}{E:ah→li→Prop},l.depth≤d→d≤r→t.bt 0→l.aq≤1000→Q (.bl (l.mt t).isSome) S→wa (r+1) [kY l,kY t] S Q E
 |0,l,t,r,Q,E,hd,hr,hf,hw,h=>by have:=qB l;lia
 |d+1, .bl n,t,r,Q,E,hd,hr,hf,hw,h=>by
  rw[wa];simp only[kY];ext;simp only[Tr.mt,mh]at h;exact⟨_, .refl,h⟩
 |d+1, .nd s ls, .bl n,r,Q,E,hd,hr,hf,hw,h=>by
  simp only[Tr.bt]at hf;lia
 |d+1, .nd s ls, .nd z us,r,Q,E,hd,hr,hf,hw,h=>by
  simp only[Tr.bt]at hf;simp only[Tr.depth]at hd;simp only[Tr.aq]at hw;obtain⟨r,rfl⟩:∃r',r=r'+1:=⟨r - 1,by lia⟩
  have en:∀s ts,kY (.nd s ts)= .bW (.str s::af ts):=λs ts=>by simp [kY]
  rw[wa];rw[en,en];ext;rw[pH,pH];have en2:(((ls.length+1:Nat):Int) == ((us.length+1:Nat):Int))=(ls.length == us.length):=by
   rw[fZ,beq_iff_eq,beq_iff_eq];lia
  rw[en2];simp only[Tr.mt]at h;cases e1:(s == z) with
  |false=>
   rw[e1]at h;exact⟨_, .refl,h⟩
  |true=>
   rw[e1]at h;rw[if_neg (by decide)];cases e2:(ls.length == us.length) with
   |false=>
    rw[e2]at h;exact⟨_, .refl,h⟩
   |true=>
    rw[e2]at h;rw[if_neg (by decide)];simp only[Bool.and_self,if_true]at h;have hk:=qF ls;rw[Kb];refine p9 (λσ=>∃x y,σ=[x,y]) (λx:Tr×Tr=> .bW [kY x.1,kY x.2]) (λx=> .bl (x.1.mt x.2).isSome) trivial (ls.zip us) [] _ ⟨none,none,rfl⟩ (by simp;lia) (λx hx σ R hI hR=>?_) ?_
    ·obtain⟨x1,x2,rfl⟩:=hI;simp only[Hm];ext;have m1:=(fS hx).1;have m2:=(fS hx).2;have hdd:=p5 m1;have hww:=pf m1;exact Dq d (by lia) (by lia) (wb hf m2) (by lia) (hR _ _ ⟨_,_,rfl⟩ .refl)
    ·rw[aX,J4];refine⟨_, .refl,?_⟩;rw[Jl]at h;rw[fA];exact h
theorem GZ:∀(q:List Int) {t u:Tr}{x2:Option W},t.at q=aa u→(∀x2,D.nx [aa (kY u),x1,x2] S)→mO (mx 2) (FH r mH) E D (λ_=>True) (q.map W.int) [aa (kY t),x1,x2] S
 | [],t,u,x2,h,hD=>by
  cases t<;>simp only[Tr.at,bH]at h<;>subst h<;>simpa [mO]using hD x2
 |i::q, .bl n,u,x2,h,hD=>by simp [Tr.at]at h
 |i::q, .nd s ts,u,x2,h,hD=>by
  obtain⟨a,h2,e1,e2⟩:=pP h;rw[aC];refine pT λN hN=>?_;simp only[FH,kY];ext;have ei:(i:Int)+1=((i.toNat+1:Nat):Int):=by lia
  rw[ei,sk,bU,o5,aU,e1];exact hN _ _ _ .refl trivial (GZ q e2 hD)
def IM{E:ah→li→Prop}(ha:t.at q=aa u) (h:Q (kY u) S):yV (r+1) [kY t,mB q] S Q E:=by
 rw[yV];simp only[mB];ext;refine GZ q ha λx2=>?_;ext;exact⟨_, .refl,h⟩
def Vy{x:List Int}{t:Tr}{p:List Int}(h:x∈t.pl p):x.length<p.length+t.depth:=by
 rw[←w_,aV]at h;obtain⟨⟨q,u⟩,hm,rfl⟩:=h;obtain⟨r,rfl,_,hr⟩:=xg t p q u hm;simp;lia
mutual
theorem Ij (p:List Int):∀(t:Tr) (q:List Int),t.pl (p++q)=(t.pl q).map (p++ ·)
 | .bl _,q=>by simp [Tr.pl]
 | .nd _ ts,q=>by simp [Tr.pl,HG p ts q 0]
theorem HG (p:List Int):∀(ts:List Tr) (q:List Int) (i:Nat),qv (p++q) i ts=(qv q i ts).map (p++ ·)
 | [],q,i=>by simp [qv]
 |t::ts,q,i=>by rw[qv,qv,bM,←Ij p t,HG p ts q (i+1),bD]
end
theorem HQ{E:WX}{D:mY}{x0:Option W}{r:Nat}:∀(ts:List Tr) (one:∀u∈ts,∀{S:li}{Q:WK}{E:ah→li→Prop},(∀S' b,Sub S S'→S' b=aa (.bO ((u.pl []).map mB))→Q (.ref b) S')→uZ r [kY u] S Q E) (i:Nat) {acc:List (List Int)}{f:ai}{S:li}{x2 x3:Option W},S f=aa (.bO (acc.map mB))→acc.length+mJ ts≤100000→m_ ts≤1000→
  (∀S' g x2 x3,Sub S S'→S' g=aa (.bO ((acc++qv [] i ts).map mB))→D.nx [x0,aa (.ref g),x2,x3] S')→mO (pC (nP (mx 2) (nP (mx 3) o6))) (Ey r (uZ r)) E D (λ_=>True) (pL i (af ts)) [x0,aa (.ref f),x2,x3] S
 | [],one,i,acc,f,S,x2,x3,hf,hl,hd,h=>by
  have:=h S f x2 x3 .refl (by simpa [qv]using hf);simpa [mO,pL,af]using this
 |t::ts,one,i,acc,f,S,x2,x3,hf,hl,hd,h=>by
  simp only[m_]at hd;simp only[mJ]at hl;simp only[af,pL];refine pT λN hN=>?_;simp only[Ey];ext;refine one t aK λS1 b sb hb=>?_;dsimp only;rw[m8 hb];have hpl:(t.pl []).length=t.aq:=by rw[←w_,ay,vA]
  refine p9 (λσ=>∃x,σ=[x,aa (.int i)]) mB (λq=>mB ((i:Int)::q)) hb (t.pl []) [] _ ⟨none,rfl⟩ (by simp;lia) (λq hq σ R hI hR=>?_) ?_
  ·obtain⟨x,rfl⟩:=hI;have hq2:=Vy hq;simp only[Hj];ext;have e1:W.bW [.int (i:Int)]=mB [(i:Int)]:=rfl;rw[e1,Lv];refine⟨m7 (by decide),m7 (by simp at hq2⊢;lia),hR _ _ ⟨_,rfl⟩ .refl⟩
  ·rw[aX,m8 (sb _ _ hf)];refine⟨m7 (by simp;lia),λa ha=>?_⟩;have e:acc.map mB++(t.pl []).map (λq=>mB ((i:Int)::q))=(acc++t.pl [(i:Int)]).map mB:=by
    have:=Ij [(i:Int)] t [];rw[bg]at this;rw[bM,this,bu];rfl
   rw[e];have hpl2:(t.pl [(i:Int)]).length=t.aq:=by rw[←w_,ay,vA]
   refine hN _ _ _ .refl trivial (HQ ts (λu hu=>one u (aI _ hu)) (i+1) mR (by simp;lia) (by lia) λS' g x2 x3 sb' hg=>?_);exact h S' g x2 x3 ((sb.trans (.new ha)).trans sb') (by rw[qv,←bD];exact hg)
theorem IY:∀(d:Nat) {t:Tr}{r:Nat}{S:li}{Q:WK}{E:ah→li→Prop},t.depth≤d→d≤r→t.aq≤1000→t.depth≤1000→(∀S' b,Sub S S'→S' b=aa (.bO ((t.pl []).map mB))→Q (.ref b) S')→uZ (r+1) [kY t] S Q E
 |0,t,r,S,Q,E,hd,hr,hw,hz,h=>by have:=qB t;lia
 |d+1, .bl n,r,S,Q,E,hd,hr,hw,hz,h=>by
  rw[uZ];simp only[kY];ext;refine⟨m7 (by decide),m7 (by decide),λa ha=>⟨_, .refl,h _ a (.new ha) mR⟩⟩
 |d+1, .nd s ts,r,S,Q,E,hd,hr,hw,hz,h=>by
  simp only[Tr.depth]at hd hz;simp only[Tr.aq]at hw;obtain⟨r,rfl⟩:∃r',r=r'+1:=⟨r - 1,by lia⟩
  rw[uZ];simp only[kY];ext;refine⟨m7 (by decide),m7 (by decide),λa ha=>?_⟩;have en:W.bW (.str s::af ts)=kY (.nd s ts):=by simp [kY]
  try ext
  refine HQ ts (λu hu {S Q E} q=>IY d (by have:=p5 hu;lia) (by lia) (by have:=pf hu;lia) (by have:=p5 hu;lia) q) 0 (acc:=[[]]) mR (by simp;lia) (by lia) λS' g x2 x3 sb hg=>?_;ext;exact⟨_, .refl,h _ g ((Sub.new ha).trans sb) (by rw[Tr.pl];exact hg)⟩
theorem Gd{α:Type}(P:α→Bool):∀(bs:List α),bs.Nodup→(∀u∈bs,∀v∈bs,P u=true→P v=true→u=v)→bs.filter P=(bs.find? P).toList
 | [],_,_=>rfl
 |b::bs,hn,hu=>by
  rw[d5]at hn;rw[fh,b_];cases e:P b with
  |false=>simpa using Gd P bs hn.2 λu h1 v h2=>hu u (aI _ h1) v (aI _ h2)
  |true=>
   simp only[if_true,Option.toList_some,fX,true_and];rw[List.filter_eq_nil_iff];intro v hv pv;have:=hu b aK v (aI _ hv) e pv;subst this;exact hn.1 hv
def sY (B:List Tn) (x:List Int×Tr):List (List Int×ah):=(o4 B x.2).toList.map λb=>(x.1,b.1)
mutual
theorem B9 (B:List Tn):∀(t:Tr) (p:List Int),t.bt 0→(t.plt p).flatMap (sY B)=t.op B p
 | .bl n,p,h=>by
  simp only[Tr.bt]at h;lia
 | .nd s ts,p,h=>by
  simp only[Tr.bt]at h;rw[Tr.plt,cq,N8 B ts p 0 h,Tr.op,sY];cases o4 B (.nd s ts)<;>rfl
theorem N8 (B:List Tn):∀(ts:List Tr) (p:List Int) (i:Nat),m3 0 ts→(oJ p i ts).flatMap (sY B)=pB B p i ts
 | [],p,i,h=>by simp [oJ,pB]
 |t::ts,p,i,h=>by
  simp only[m3]at h;rw[oJ,pB,lr,B9 B t _ h.1,N8 B ts p (i+1) h.2]
end
theorem Ep (L:rz B) (hfa:f≠a) (hu:u.bt 0) (hat:t.at q=aa u) (hr:10≤r):∀(bs:List Tn) {xs:List W}{S:li}{x4:Option W},(∀b∈bs,b∈B)→S a=aa (.bO (B.map mK))→S f=aa (.bO xs)→xs.length+bs.length≤100000→
  (∀x4,D.nx [aa (.ref a),aa (kY t),aa (.ref f),aa (mB q),x4] (bR S f (.bO (xs++((bs.filter λb=>(b.2.1.mt u).isSome).map λb=>(q,b.1)).map encX))))→
  mO (mx 4) (FM (r+1) mH) E D (λS'=>S' a=aa (.bO (B.map mK))) (bs.map mK) [aa (.ref a),aa (kY t),aa (.ref f),aa (mB q),x4] S
 | [],xs,S,x4,hb,ha,hf,hl,h=>by
  have:=h x4;simp only[List.filter_nil,cr,bg,sH hf]at this;simpa [mO]using this
 |b::bs,xs,S,x4,hb,ha,hf,hl,h=>by
  simp only[aT]at hl;rw[aC];refine pT λN hN=>?_;simp only[FM];have eb:mK b= .bW [.str b.1,kY b.2.1,kY b.2.2]:=rfl;rw[eb];ext;refine IM hat ?_;have hm:=hb b aK;have h1:=L.d b hm;have h2:=L.w b hm;refine Dq 4 h1 (by lia) hu (by lia) ?_;rw[←eb];ext;cases e:(b.2.1.mt u).isSome with
  |false=>
   simp only[cF,if_false];refine hN _ _ _ .refl ha (Ep L hfa hu hat hr bs (λy hy=>hb y (aI _ hy)) ha hf (by lia) λx4=>?_);have:=h x4;rw[fh,e]at this;simpa using this
  |true=>
   simp only[if_true,m8 hf];refine⟨trivial,m7 (by decide),qC (by lia),?_⟩;have ha':bR S f (Ob.bO (xs++[W.bW [mB q,W.str b.1]])) a=aa (.bO (B.map mK)):=by rw[nO (bz hfa)];exact ha
   refine hN _ _ _ .refl ha' (Ep L hfa hu hat hr bs (λy hy=>hb y (aI _ hy)) ha' mR (by simp;lia) λx4=>?_);have:=h x4;rw[fh,e]at this;rw[pN];simpa [encX]using this
theorem N3 (L:rz B) (hfa:f≠a) (hfc:f≠c) (hr:10≤r) (hn:B.Nodup) (hB:B.length≤100) (U:∀x:Tr,∀u∈B,∀v∈B,(u.2.1.mt x).isSome=true→(v.2.1.mt x).isSome=true→u=v):∀(ys:List (List Int×Tr)) {xs:List W}{S:li}{x3 x4:Option W},(∀y∈ys,t.at y.1=aa y.2∧y.2.bt 0)→S a=aa (.bO (B.map mK))→S c=aa (.bO ps)→S f=aa (.bO xs)→xs.length+100*ys.length+100≤100000→
  (∀x3 x4,D.nx [aa (.ref a),aa (kY t),aa (.ref f),x3,x4] (bR S f (.bO (xs++(ys.flatMap (sY B)).map encX))))→
  mO (mx 3) (Dt (r+1) mH) E D (λS'=>S' c=aa (.bO ps)) (ys.map λy=>mB y.1) [aa (.ref a),aa (kY t),aa (.ref f),x3,x4] S
 | [],xs,S,x3,x4,hy,ha,hc,hf,hl,h=>by
  have:=h x3 x4;simp only[da,cr,bg,sH hf]at this;simpa [mO]using this
 |y::ys,xs,S,x3,x4,hy,ha,hc,hf,hl,h=>by
  simp only[aT]at hl;rw[aC];refine pT λN hN=>?_;simp only[Dt];ext;rw[m8 ha];have hy0:=hy y aK;have eo:(B.filter λb=>(b.2.1.mt y.2).isSome).map (λb=>(y.1,b.1))=sY B y:=by
   rw[Gd _ B hn (U y.2)];rfl
  have ol:(sY B y).length≤1:=by
   unfold sY;cases o4 B y.2<;>simp
  refine Ep L hfa hy0.2 hy0.1 hr B (λb hb=>hb) ha hf (by lia) λx4=>?_;rw[eo];have hc':bR S f (Ob.bO (xs++(sY B y).map encX)) c=aa (.bO ps):=by rw[nO (bz hfc)];exact hc
  have ha':bR S f (Ob.bO (xs++(sY B y).map encX)) a=aa (.bO (B.map mK)):=by rw[nO (bz hfa)];exact ha
  refine hN _ _ _ .refl hc' (N3 L hfa hfc hr hn hB U ys (λz hz=>hy z (aI _ hz)) ha' hc' mR (by simp;lia) λx3 x4=>?_);have:=h x3 x4;rw[cq,bM]at this;rw[pN];simpa using this
mutual
theorem MJ:∀(t:Tr) (p:List Int),t.bt 0→ ∀y∈t.plt p,y.2.bt 0
 | .bl n,p,h,y,hy=>by
  simp only[Tr.bt]at h;lia
 | .nd s ts,p,h,y,hy=>by
  have h':=h;simp only[Tr.bt]at h';rw[Tr.plt,az]at hy;obtain rfl |hy:=hy
  ·exact h
  ·exact Gs ts p 0 h' y hy
theorem Gs:∀(ts:List Tr) (p:List Int) (i:Nat),m3 0 ts→ ∀y∈oJ p i ts,y.2.bt 0
 | [],p,i,h,y,hy=>by simp [oJ]at hy
 |t::ts,p,i,h,y,hy=>by
  simp only[m3]at h;rw[oJ,bp]at hy;obtain hy |hy:=hy
  ·exact MJ t _ h.1 y hy
  ·exact Gs ts p (i+1) h.2 y hy
end
def OM{E:ah→li→Prop}(L:rz B) (hn:B.Nodup) (hB:B.length≤100) (U:∀x:Tr,∀u∈B,∀v∈B,(u.2.1.mt x).isSome=true→(v.2.1.mt x).isSome=true→u=v) (ha:S a=aa (.bO (B.map mK))) (hd:t.depth≤60) (hr:t.depth+20≤r) (hw:t.aq≤900) (ht:t.bt 0)
  (h:∀S' b,Sub S S'→S' b=aa (.bO ((t.op B []).map encX))→Q (.ref b) S'):uS (r+1) [.ref a,kY t] S Q E:=by
 obtain⟨r,rfl⟩:∃r',r=r'+1:=⟨r - 1,by lia⟩
 rw[uS];ext;refine⟨aO _,λf hf=>?_⟩;refine IY t.depth (aA _) (by lia) (by lia) (by lia) λS1 c sb hc=>?_;have ff:S1 f=aa (.bO []):=sb _ _ mR;have fa:S1 a=aa (.bO (B.map mK)):=sb _ _ (keep ha hf);have hfa:f≠a:=by
  rintro rfl;rw[hf]at ha;cases ha
 have ep:(t.pl []).map mB=(t.plt []).map λy=>mB y.1:=by rw[←w_,bu];rfl
 have hfc:f≠c:=by
  rintro rfl;rw[ff]at hc;have e:=congrArg dU (Ob.bO.inj (aL hc));rw[ep,ay,vA]at e;have:=rN t;simp at e;lia
 try ext
 rw[m8 hc,ep];rw[ep]at hc;have hpl:=vA t [];refine N3 L hfa hfc (by lia) hn hB U (t.plt []) (λy hy=>⟨(LR hy).1,MJ t [] ht y hy⟩) fa hc ff (by simp;lia) λx3 x4=>?_;ext;rw[B9 B t [] ht];exact⟨_, .refl,h _ f (Sub.bR ((Sub.new hf).trans sb) hf) mR⟩
section
variable {c:Int→Nat}
def vy (c:Int→Nat):Prop:=∀x:Int,0≤x→x<8→c x≤1
def vy.ak (hc:vy c):∀x:Int,0≤x→x<8→uL c x=0:=λx h0 h1=>by
 have:=hc x h0 h1;unfold uL;split<;>lia
end
def UE (ha:S a=aa (.bO xs)) (hb:S b=aa (.bO xs)) (h:oV (nY S n) xs xs=aa true):nY S (n+1) (.ref a) (.ref b)=aa true:=by
 show(match S a with
  |some (.bO xs)=>match S b with
   |some (.bO ys)=>oV (nY S n) xs ys
   |_=>none
  |_=>none)=aa true
 rw[ha,hb];exact h
def sZ (f:Int):vy (nJ f):=λx _ _=>xl f x
section
variable {c d:Int→Nat}
def Ab{c d:Int→Nat}(hc:vy c) (hd:vy d):XW c d:=λx h0 h1=> .inl ⟨hc x h0 h1,hd x h0 h1⟩
end
def u1 (B:List Tn) (p:Pl):List (List Int×ah):=HY (nJ 1) (p.ns B [])
theorem NL:∀(ls us:List Tr) (one:∀l∈ls,∀{u:Tr}{ms:List Tr}{S:li}{Q:WK}{E:ah→li→Prop},l.mt u=aa ms→(∀S' b,Sub S S'→S' b=aa (.bO (af ms))→Q (.ref b) S')→u9 r [kY l,kY u] S Q E) {ms acc:List Tr}{f:ai}{S:li}{x3 x4:Option W},nM ls us=aa ms→S f=aa (.bO (af acc))→acc.length+mJ ls≤100000→
  (∀S' g x3 x4,Sub S S'→S' g=aa (.bO (af (acc++ms)))→D.nx [x0,x1,aa (.ref g),x3,x4] S')→mO (pC (nP (mx 3) (nP (mx 4) o6))) (C0 r (u9 r)) E D (λ_=>True) (m4 (af ls) (af us)) [x0,x1,aa (.ref f),x3,x4] S
 | [],us,one,ms,acc,f,S,x3,x4,hm,hf,hl,h=>by
  simp only[nM,bH]at hm;subst hm;have:=h S f x3 x4 .refl (by simpa using hf);simpa [mO,m4,af]using this
 |l::ls,[],one,ms,acc,f,S,x3,x4,hm,hf,hl,h=>by
  simp only[nM,bH]at hm;subst hm;have:=h S f x3 x4 .refl (by simpa using hf);simpa [mO,m4,af]using this
 |l::ls,u::us,one,ms,acc,f,S,x3,x4,hm,hf,hl,h=>by
  simp only[nM]at hm;cases e1:l.mt u with
  |none=>rw[e1]at hm;cases hm
  |some xs=>
   cases e2:nM ls us with
   |none=>rw[e1,e2]at hm;cases hm
   |some ys=>
    rw[e1,e2]at hm;cases hm;have l1:=F4 l u xs e1;simp only[mJ]at hl;simp only[af,m4];refine pT λN hN=>?_;simp only[C0];ext;refine one l aK e1 λS1 b sb hb=>?_
    try rw[KD]
    rw[m8 (sb _ _ hf),m8 hb,pH,pH,←xA];refine⟨m7 (by lia),λa ha=>?_⟩;refine hN _ _ _ .refl trivial (NL ls us (λu hu=>one u (aI _ hu)) e2 mR (by simp;lia) λS' g x3 x4 sb' hg=>?_);exact h S' g x3 x4 ((sb.trans (.new ha)).trans sb') (by rw[←bD];exact hg)
theorem K9:∀(d:Nat) {l t:Tr}{ms:List Tr}{r:Nat}{S:li}{Q:WK}{E:ah→li→Prop},l.depth≤d→d≤r→l.aq≤1000→l.mt t=aa ms→(∀S' b,Sub S S'→S' b=aa (.bO (af ms))→Q (.ref b) S')→u9 (r+1) [kY l,kY t] S Q E
 |0,l,t,ms,r,S,Q,E,hd,hr,hw,hm,h=>by have:=qB l;lia
 |d+1, .bl n,t,ms,r,S,Q,E,hd,hr,hw,hm,h=>by
  simp only[Tr.mt,bH]at hm;subst hm;rw[u9];have e0:kY (.bl n)= .int n:=by simp only[kY]
  rw[e0];ext;refine⟨m7 (by decide),λa ha=>⟨_, .refl,h _ a (.new ha) (by simpa [af]using mR)⟩⟩
 |d+1, .nd s ls, .bl n,ms,r,S,Q,E,hd,hr,hw,hm,h=>by simp [Tr.mt]at hm
 |d+1, .nd s ls, .nd z us,ms,r,S,Q,E,hd,hr,hw,hm,h=>by
  simp only[Tr.depth]at hd;simp only[Tr.aq]at hw;simp only[Tr.mt]at hm;split at hm
  ·obtain⟨r,rfl⟩:∃r',r=r'+1:=⟨r - 1,by lia⟩
   have en:∀s ts,kY (.nd s ts)= .bW (.str s::af ts):=λs ts=>by simp [kY]
   rw[u9,en,en];ext;refine⟨m7 (by decide),λa ha=>?_⟩
   try ext
   refine NL ls us (λu hu {t ms S Q E} e q=>K9 d (by have:=p5 hu;lia) (by lia) (by have:=pf hu;lia) e q) hm (acc:=[]) mR (by simp;lia) λS' g x3 x4 sb hg=>?_;ext;exact⟨_, .refl,h _ g ((Sub.new ha).trans sb) hg⟩
  ·cases hm
section
variable {S:li}{a:ai}{B:List Tn}{w0 w1 w2 w3 w4 w5:ah}{tt:List ah}{r:Nat}{Q:WK}{E:ah→li→Prop}
def Qm (b:mF w0 w1 w2 w3 w4 w5 tt B) (G:nU w0 w1 w2 w3 w4 w5) (L:rz B) (ha:S a=aa (.bO (B.map mK))) (ht:t∈B) (hu:us.length=t.2.1.nb) (hX:X.at q=aa (t.2.1.aD us)) (hq:q.length≤100) (hw:X.aq≤90000) (hf:(t.2.1.aD us).bt 0) (hr:120≤r)
  (h:∀S',Sub S S'→Q (kY (X.bR q (t.2.2.aD us))) S'):xO (r+1) [.ref a,kY X,mB q] S Q E:=by
 obtain⟨r,rfl⟩:∃r',r=r'+1:=⟨r - 1,by lia⟩
 have ho:=b.open_some G ht hu;have hm:=b.mt t ht us hu;rw[xO];ext;refine IM hX ?_
 try ext
 rw[m8 ha];refine v6 ha (λσ=>∃y,σ=[aa (.ref a),aa (kY X),aa (mB q),aa (kY (t.2.1.aD us)),y]) mK (λu:Tn=>if(u.2.1.mt (t.2.1.aD us)).isSome then aa (kY (X.bR q (t.2.2.aD us))) else none) B _ ⟨none,rfl⟩ (λu hu' σ N hI h0 h1=>?_) ?_ ?_
 ·obtain⟨y,rfl⟩:=hI;simp only[Mc,mK];ext;rw[show nC [W.str u.1,kY u.2.1,kY u.2.2] 1=aa (kY u.2.1) from rfl];dsimp only;refine Dq 4 (L.d u hu') (by lia) hf (by have:=L.w u hu';lia) ?_;cases e:(u.2.1.mt (t.2.1.aD us)).isSome with
  |false=>
   ext;exact h0 (by rw[e];rfl) _ _ ⟨_,rfl⟩ .refl
  |true=>
   ext;have eu:u=t:=by
    have:=b.one G hu' ht e (by rw[hm];rfl);exact Ch (b.inj G) hu' ht this
   subst eu;rw[show nC [W.str u.1,kY u.2.1,kY u.2.2] 2=aa (kY u.2.2) from rfl];dsimp only;refine K9 4 (L.d u hu') (by lia) (by have:=L.w u hu';lia) hm λS1 g sb hg=>?_;have hri:=b.ri u hu';refine A_ 4 hri.dp (by lia) hg (by rw[hu];exact hri.bt) (by have:=hri.wt;lia) ?_;refine Ov q hX (by lia) hw (by lia) ?_;exact h1 _ (by rw[e];rfl) _ sb
 ·intro hn σ hI;exfalso;rw[kg]at hn;have:=hn t ht;rw[hm]at this;simp at this
 ·intro w e S' sb;obtain⟨u,_,hw'⟩:=List.exists_of_findSome?_eq_some e;split at hw'
  ·cases hw';exact⟨_, .refl,h S' sb⟩
  ·cases hw'
end
mutual
def Tr.sg:Tr→Nat
 | .bl _=>0
 | .nd _ ts=>1+um ts
def um:List Tr→Nat
 | []=>0
 |t::ts=>t.sg+um ts
end
mutual
def Tr.sd:Tr→Nat
 | .bl _=>0
 | .nd _ ts=>1+rV ts
def rV:List Tr→Nat
 | []=>0
 |t::ts=>max t.sd (rV ts)
end
mutual
def Tr.nm:Tr→List Int
 | .bl n=>[n]
 | .nd _ ts=>pO ts
def pO:List Tr→List Int
 | []=>[]
 |t::ts=>t.nm++pO ts
end
structure RX (t:Tr):Prop where
  sg:t.sg≤3
  sd:t.sd≤3
  ct:∀n,t.nm.count n≤2
def RQ{l:List Int}(h:∀n∈l,l.count n≤2):∀n,l.count n≤2:=λn=>by
 by_cases m:n∈l
 ·exact h n m
 ·rw[List.count_eq_zero_of_not_mem m];lia
section
variable {w0 w1 w2 w3 w4 w5:ah}{a:ai}{r:Nat}{S:li}{Q:WK}{E:ah→li→Prop}
def U2 (h1:t.depth≤4) (h2:t.bt m) (h3:∀{P:ah→Prop},(∀x∈ws,P x)→t.hb P) (h4:t.aq≤7):qt ws m t:=⟨h1,h2,h3,h4⟩
def qa (w0 w1 w2 w3 w4 w5:ah):Nat→Bool→List Tr
 |0,_=>[.nd w2 [], .nd w5 [], .nd w3 [.nd w5 []]]
 |1,g=>[.bl 0, .nd w3 [.bl 0], .nd w4 [.bl 0, .bl 0], .nd w4 [.nd w3 [.bl 0], .nd w2 []]]++(if g then [.nd w0 [.bl 0], .nd w1 [.nd w3 [.bl 0], .bl 0], .nd w3 [.nd w0 [.bl 0]]] else [.nd w2 [], .nd w3 [.nd w5 []]])
 |3,g=>[.nd w4 [.nd w4 [.bl 0, .bl 1], .bl 2], .nd w4 [.bl 2, .nd w4 [.bl 1, .bl 0]], .nd w4 [.nd w4 [.bl 0, .bl 0], .nd w4 [.bl 1, .bl 2]]]++(if g then [.nd w0 [.nd w4 [.nd w4 [.bl 2, .bl 0], .bl 1]], .nd w1 [.bl 1, .nd w4 [.bl 0, .bl 2]]] else [.bl 0, .bl 2, .nd w4 [.bl 1, .bl 1], .nd w5 []])
 |_,g=>[.nd w4 [.bl 0, .bl 1], .nd w4 [.bl 1, .bl 0], .nd w4 [.nd w3 [.bl 0], .bl 1], .nd w4 [.nd w4 [.bl 0, .bl 0], .bl 1]]++(if g then [.nd w1 [.bl 1, .bl 0], .nd w0 [.nd w4 [.bl 0, .bl 1]]] else [.bl 0, .bl 1, .nd w3 [.bl 1], .nd w5 []])
def UL (hm:m≤3) (g:Bool):∀t∈qa w0 w1 w2 w3 w4 w5 m g,qt [w0,w1,w2,w3,w4,w5] m t:=by
 intro t ht;obtain _ |_ |_ |_ |m:=m
 all_goals first
  |lia
  | (cases g<;>simp only[qa,cj,aX,if_true,if_false,cF,az,bq,or_false]at ht<;>(try rcases ht with rfl |rfl |rfl |rfl |rfl |rfl |rfl |rfl)<;>(try rcases ht with rfl |rfl |rfl |rfl |rfl |rfl |rfl)<;>(try rcases ht with rfl |rfl |rfl |rfl |rfl |rfl)<;>(try rcases ht with rfl |rfl |rfl |rfl |rfl)<;>(try rcases ht with rfl |rfl |rfl)<;>exact U2 (by simp [Tr.depth,m_]) (by simp [Tr.bt,m3]) (λ{P} h=>by simp [Tr.hb,oy]<;>simp [h]) (by simp [Tr.aq,mJ]))
def O2{m:Nat}(hm:m≤3) (g:Bool):∀t∈qa w0 w1 w2 w3 w4 w5 m g,RX t:=by
 intro t ht;obtain _ |_ |_ |_ |m:=m
 all_goals first
  |lia
  | (cases g<;>simp only[qa,cj,aX,if_true,if_false,cF,az,bq,or_false]at ht<;>(try rcases ht with rfl |rfl |rfl |rfl |rfl |rfl |rfl |rfl)<;>(try rcases ht with rfl |rfl |rfl |rfl |rfl |rfl |rfl)<;>(try rcases ht with rfl |rfl |rfl |rfl |rfl |rfl)<;>(try rcases ht with rfl |rfl |rfl |rfl |rfl)<;>(try rcases ht with rfl |rfl |rfl)<;>exact⟨by simp [Tr.sg,um],by simp [Tr.sd,rV],RQ (by simp only[Tr.nm,pO,aX,bg,cj]<;>decide)⟩)
def O0 (g:Bool):1≤(qa w0 w1 w2 w3 w4 w5 m g).length∧(qa w0 w1 w2 w3 w4 w5 m g).length≤8:=by
 rcases m with _ |_ |_ |_ |m<;>cases g<;>simp [qa]
def AS (e:WE) (σ:mS) (S:li) (w:W):Prop:=∀(E:WX) (Q:WK),Q w S→e E σ S Q
def vZ (t:WA) (σ:mS) (S:li) (ws:List W):Prop:=∀(E:WX) (Q:List W→li→Prop),Q ws S→t E σ S Q
def tN:AS (wC w) σ S w:=λ_ _ q=>q
def tE (h1:σ[1]? =aa (aa (.ref a))) (ha:S a=aa (.bO xs)) (hi:nC xs i=aa w):AS (mq mE (jA 1) (wC (.int i))) σ S w:=λE Q q=>by
 rw[F_,yA,h1];dsimp only;rw[Df,Ku,m8 ha,hi];exact q
def tP:vZ ae σ S []:=λ_ _ q=>q
def tQ (h1:AS e σ S w) (h2:vZ t σ S ws):vZ (jK e t) σ S (w::ws):=λE Q q=>h1 E _ (h2 E _ q)
def tM (h:vZ t σ S ws) (hl:ws.length≤sizeLine):AS (m5 t) σ S (.bW ws):=λE Q q=>h E _ ⟨hl,q⟩
def t5{E:WX}{D:mY}{σ:mS}{c:WT}{A T:WS}(hc:∀Q:Bool→li→Prop,Q false S→c E σ S Q) (k:T E D σ S):mz (nE c A nB) T E D σ S:=hc _ k
def wJ{E:WX}{D:mY}{σ:mS}{c:WT}{A A' T:WS}(hc:∀Q:Bool→li→Prop,Q true S→c E σ S Q) (k:A E { D with nx:=T E D } σ S):mz (nE c A A') T E D σ S:=hc _ k
def uj{E:WX}{σ:mS}{m k:Int}{b:Bool}(h0:σ[0]? =aa (aa (.int m))) (e:(m == k)=b):∀Q:Bool→li→Prop,Q b S→nA (mq (oG false) (jA 0) (wC (.int k))) E σ S Q:=λQ q=>by
 rw[G6,F_,yA,h0];dsimp only;rw[Df,L3,Fb,e];cases b<;>exact q
def xF{E:WX}{σ:mS}{b:Bool}(h2:σ[2]? =aa (aa (.bl b))):∀Q:Bool→li→Prop,Q b S→oY (jA 2) E σ S Q:=λQ q=>by
 rw[Hs,yA,h2];dsimp only;rw[Lb];exact q
def FS{E:WX}{D:mY}{σ:mS}{t:WA}{T:WS}{ws:List W}(h:vZ t σ S ws) (hl:ws.length≤sizeLine) (k:∀q,S q=none→T E D (σ.set 3 (aa (.ref q))) (bR S q (.bO ws))):mz (mr (nw (nI t)) (mx 3)) T E D σ S:=h E _ ⟨hl,k⟩
def RH{E:WX}{D:mY}{σ:mS}{t:WA}{ws:List W}(h:vZ t σ S ws) (hl:ws.length≤sizeLine) (k:∀q,S q=none→D.rt (.ref q) (bR S q (.bO ws))):mU (nw (nI t)) E D σ S:=h E _ ⟨hl,k⟩
def xC{E:WX}{D:mY}{σ:mS}{t:WA}{ws xs:List W}{q:ai}(h3:σ[3]? =aa (aa (.ref q))) (hq:S q=aa (.bO xs)) (h:vZ t σ S ws) (hl:ws.length≤sizeLine) (hx:xs.length+ws.length≤sizeLine) (k:∀q2,S q2=none→D.rt (.ref q2) (bR S q2 (.bO (xs++ws)))):mU (nw (rK (jA 3) (nI t))) E D σ S:=by
 rw[NY,N7,Gi,yA,h3];dsimp only;rw[Op];refine h E _ ⟨hl,?_⟩;rw[m8 hq];exact⟨hx,k⟩
def Uk{m:Nat}(hm:m≤3) (g:Bool) (ha:S a=aa (.bO (qp w0 w1 w2 w3 w4 w5))) (h:∀S' b,Sub S S'→S' b=aa (.bO (af (qa w0 w1 w2 w3 w4 w5 m g)))→Q (.ref b) S'):A7 (r+1) [.int m, .ref a, .bl g] S Q E:=by
 rw[A7,t4];refine⟨rfl,?_⟩;obtain _ |_ |_ |_ |m:=m
 ·exact wJ (uj rfl (by decide)) (RH (ws:=[W.bW [W.str w2],W.bW [W.str w5],W.bW [W.str w3,W.bW [W.str w5]]]) (by repeat' first |exact tP |refine tQ ?_ ?_ |exact tN |exact tE rfl ha (by first |exact ql |exact qj |exact pS |exact p4 |exact p6 |exact pW) |refine tM ?_ (m7 (bF rfl))) (m7 (bF rfl)) λq hq=>⟨_, .refl,h _ q (.bR .refl hq) (by rw[mR];simp [qa,af,kY])⟩)
 ·refine t5 (uj rfl (by decide)) (wJ (uj rfl (by decide)) (FS (ws:=[W.int 0,W.bW [W.str w3,W.int 0],W.bW [W.str w4,W.int 0,W.int 0],W.bW [W.str w4,W.bW [W.str w3,W.int 0],W.bW [W.str w2]]]) (by repeat' first |exact tP |refine tQ ?_ ?_ |exact tN |exact tE rfl ha (by first |exact ql |exact qj |exact pS |exact p4 |exact p6 |exact pW) |refine tM ?_ (m7 (bF rfl))) (m7 (bF rfl)) λq hq=>?_))
  have fa:bR S q (.bO [W.int 0,W.bW [W.str w3,W.int 0],W.bW [W.str w4,W.int 0,W.int 0],W.bW [W.str w4,W.bW [W.str w3,W.int 0],W.bW [W.str w2]]]) a=aa (.bO (qp w0 w1 w2 w3 w4 w5)):=keep ha hq;cases g
  ·exact t5 (xF rfl) (xC (ws:=[W.bW [W.str w2],W.bW [W.str w3,W.bW [W.str w5]]]) rfl mR (by repeat' first |exact tP |refine tQ ?_ ?_ |exact tN |exact tE rfl fa (by first |exact ql |exact qj |exact pS |exact p4 |exact p6 |exact pW) |refine tM ?_ (m7 (bF rfl))) (m7 (bF rfl)) (m7 (bF rfl)) λq2 hq2=>⟨_, .refl,h _ q2 ((Sub.bR .refl hq).trans (.bR .refl hq2)) (by rw[mR];simp [qa,af,kY])⟩)
  ·exact wJ (xF rfl) (xC (ws:=[W.bW [W.str w0,W.int 0],W.bW [W.str w1,W.bW [W.str w3,W.int 0],W.int 0],W.bW [W.str w3,W.bW [W.str w0,W.int 0]]]) rfl mR (by repeat' first |exact tP |refine tQ ?_ ?_ |exact tN |exact tE rfl fa (by first |exact ql |exact qj |exact pS |exact p4 |exact p6 |exact pW) |refine tM ?_ (m7 (bF rfl))) (m7 (bF rfl)) (m7 (bF rfl)) λq2 hq2=>⟨_, .refl,h _ q2 ((Sub.bR .refl hq).trans (.bR .refl hq2)) (by rw[mR];simp [qa,af,kY])⟩)
 ·refine t5 (uj rfl (by decide)) (t5 (uj rfl (by decide)) (t5 (uj rfl (by decide)) (FS (ws:=[W.bW [W.str w4,W.int 0,W.int 1],W.bW [W.str w4,W.int 1,W.int 0],W.bW [W.str w4,W.bW [W.str w3,W.int 0],W.int 1],W.bW [W.str w4,W.bW [W.str w4,W.int 0,W.int 0],W.int 1]]) (by repeat' first |exact tP |refine tQ ?_ ?_ |exact tN |exact tE rfl ha (by first |exact ql |exact qj |exact pS |exact p4 |exact p6 |exact pW) |refine tM ?_ (m7 (bF rfl))) (m7 (bF rfl)) λq hq=>?_)))
  have fa:bR S q (.bO [W.bW [W.str w4,W.int 0,W.int 1],W.bW [W.str w4,W.int 1,W.int 0],W.bW [W.str w4,W.bW [W.str w3,W.int 0],W.int 1],W.bW [W.str w4,W.bW [W.str w4,W.int 0,W.int 0],W.int 1]]) a=aa (.bO (qp w0 w1 w2 w3 w4 w5)):=keep ha hq;cases g
  ·exact t5 (xF rfl) (xC (ws:=[W.int 0,W.int 1,W.bW [W.str w3,W.int 1],W.bW [W.str w5]]) rfl mR (by repeat' first |exact tP |refine tQ ?_ ?_ |exact tN |exact tE rfl fa (by first |exact ql |exact qj |exact pS |exact p4 |exact p6 |exact pW) |refine tM ?_ (m7 (bF rfl))) (m7 (bF rfl)) (m7 (bF rfl)) λq2 hq2=>⟨_, .refl,h _ q2 ((Sub.bR .refl hq).trans (.bR .refl hq2)) (by rw[mR];simp [qa,af,kY])⟩)
  ·exact wJ (xF rfl) (xC (ws:=[W.bW [W.str w1,W.int 1,W.int 0],W.bW [W.str w0,W.bW [W.str w4,W.int 0,W.int 1]]]) rfl mR (by repeat' first |exact tP |refine tQ ?_ ?_ |exact tN |exact tE rfl fa (by first |exact ql |exact qj |exact pS |exact p4 |exact p6 |exact pW) |refine tM ?_ (m7 (bF rfl))) (m7 (bF rfl)) (m7 (bF rfl)) λq2 hq2=>⟨_, .refl,h _ q2 ((Sub.bR .refl hq).trans (.bR .refl hq2)) (by rw[mR];simp [qa,af,kY])⟩)
 ·refine t5 (uj rfl (by decide)) (t5 (uj rfl (by decide)) (wJ (uj rfl (by decide)) (FS (ws:=[W.bW [W.str w4,W.bW [W.str w4,W.int 0,W.int 1],W.int 2],W.bW [W.str w4,W.int 2,W.bW [W.str w4,W.int 1,W.int 0]],W.bW [W.str w4,W.bW [W.str w4,W.int 0,W.int 0],W.bW [W.str w4,W.int 1,W.int 2]]]) (by repeat' first |exact tP |refine tQ ?_ ?_ |exact tN |exact tE rfl ha (by first |exact ql |exact qj |exact pS |exact p4 |exact p6 |exact pW) |refine tM ?_ (m7 (bF rfl))) (m7 (bF rfl)) λq hq=>?_)))
  have fa:bR S q (.bO [W.bW [W.str w4,W.bW [W.str w4,W.int 0,W.int 1],W.int 2],W.bW [W.str w4,W.int 2,W.bW [W.str w4,W.int 1,W.int 0]],W.bW [W.str w4,W.bW [W.str w4,W.int 0,W.int 0],W.bW [W.str w4,W.int 1,W.int 2]]]) a=aa (.bO (qp w0 w1 w2 w3 w4 w5)):=keep ha hq;cases g
  ·exact t5 (xF rfl) (xC (ws:=[W.int 0,W.int 2,W.bW [W.str w4,W.int 1,W.int 1],W.bW [W.str w5]]) rfl mR (by repeat' first |exact tP |refine tQ ?_ ?_ |exact tN |exact tE rfl fa (by first |exact ql |exact qj |exact pS |exact p4 |exact p6 |exact pW) |refine tM ?_ (m7 (bF rfl))) (m7 (bF rfl)) (m7 (bF rfl)) λq2 hq2=>⟨_, .refl,h _ q2 ((Sub.bR .refl hq).trans (.bR .refl hq2)) (by rw[mR];simp [qa,af,kY])⟩)
  ·exact wJ (xF rfl) (xC (ws:=[W.bW [W.str w0,W.bW [W.str w4,W.bW [W.str w4,W.int 2,W.int 0],W.int 1]],W.bW [W.str w1,W.int 1,W.bW [W.str w4,W.int 0,W.int 2]]]) rfl mR (by repeat' first |exact tP |refine tQ ?_ ?_ |exact tN |exact tE rfl fa (by first |exact ql |exact qj |exact pS |exact p4 |exact p6 |exact pW) |refine tM ?_ (m7 (bF rfl))) (m7 (bF rfl)) (m7 (bF rfl)) λq2 hq2=>⟨_, .refl,h _ q2 ((Sub.bR .refl hq).trans (.bR .refl hq2)) (by rw[mR];simp [qa,af,kY])⟩)
 ·lia
end
def SM (h:0<Rs.length):∃R∈Rs,nC (af Rs) (d % (Rs.length:Int))=aa (kY R):=by
 have h0:(0:Int)<Rs.length:=by lia
 have h1:=c7 d (Int.ne_of_gt h0);have h2:=dh d h0;obtain⟨n,hn⟩:=Int.eq_ofNat_of_zero_le h1;rw[hn]at h2⊢;have hl:n<Rs.length:=by lia
 refine⟨Rs[n],eE hl,?_⟩;rw[sk,o5,aU,aR hl];rfl
def BJ (h:Sub S S'):Sub (bR S a o) (bR S' a o):=λb x e=>by
 by_cases z:b=a
 ·subst z;rw[mR]at e⊢;exact e
 ·rw[nO z]at e⊢;exact h b x e
def E3 (n:Nat) (h c d:ah):∀L∈bN n h c d,L.depth≤4∧L.aq≤7∧L.nb≤3:=by
 intro L hL;unfold bN at hL;split at hL<;>simp only[az,bq,or_false]at hL
 all_goals first
  | (subst hL;simp [Tr.depth,m_,Tr.aq,mJ,Tr.nb,nbs])
  | (rcases hL with rfl |rfl<;>simp [Tr.depth,m_,Tr.aq,mJ,Tr.nb,nbs])
section
variable {w0 w1 w2 w3 w4 w5:ah}{tt:List ah}{ns:List Int}{aw at' ab al:ai}{r:Nat}{E:WX}{D:mY}{k j:Int}{g:Bool}
theorem Gf (h6:tt.length=6) (k0:0≤k) (j0:0≤j):∀(ls:List Tr) {i:Nat}{C:List Tn}{S:li}{G:li→Prop}{x7 x8 x9 x10:Option W},(∀L∈ls,L.depth≤4∧L.aq≤7∧L.nb≤3)→C.length+ls.length≤6→S ab=aa (.bO (C.map mK))→S aw=aa (.bO (qp w0 w1 w2 w3 w4 w5))→S at'=aa (.bO (tt.map W.str))→ab≠aw→ab≠at'→
  (∀o,G (bR S ab o))→
  (∀(C':List Tn) (x7 x8 x9 x10:Option W),C'.map (λt=>t.2.1)=ls→(C.map (λt=>t.1)=tt.take C.length→(C++C').map (λt=>t.1)=tt.take (C++C').length)→(∀t∈C',t.2.2∈qa w0 w1 w2 w3 w4 w5 t.2.1.nb g)→D.nx [aa (.c6 ns),aa (.int k),aa (.ref aw),aa (.ref at'),aa (.bl g),aa (.ref ab),aa (.int j),aa (.ref al),x7,x8,x9,x10] (bR S ab (.bO ((C++C').map mK))))→
  mO (pC (nP (mx 8) (nP (mx 9) o6))) (F3 (r+6) mH) E D G (pL i (af ls)) [aa (.c6 ns),aa (.int k),aa (.ref aw),aa (.ref at'),aa (.bl g),aa (.ref ab),aa (.int j),aa (.ref al),x7,x8,x9,x10] S
 | [],i,C,S,G,x7,x8,x9,x10,hL,hl,hb,hw,ht,n1,n2,hG,h=>by
  simp only[af,pL,mO];have:=h [] x7 x8 x9 x10 rfl (λz=>by simpa using z) (λ_ h=>nomatch h)
  rw[bg,sH hb]at this;exact this
 |L::ls,i,C,S,G,x7,x8,x9,x10,hL,hl,hb,hw,ht,n1,n2,hG,h=>by
  have hLd:=hL L aK;simp only[aT]at hl;simp only[af,pL];refine pT λN hN=>?_;simp only[F3];ext;refine EL (r:=r+5) 4 hLd.1 (by lia) (by lia) ?_
  try dsimp only
  refine Uk (r:=r+5) hLd.2.2 g hw λS1 rr sb hrr=>?_
  try ext
  refine⟨.inl ⟨by decide,by decide⟩,xn (r:=r+5) (by lia) λdraw=>?_⟩
  try ext
  obtain⟨ti,eti,_⟩:=PK (ss:=tt) (i:=(C.length:Int)) (by lia) (by lia);simp only[m8 (sb _ _ hb),m8 (sb _ _ ht),ay,eti,true_and,m8 hrr,pH];have rl:=O0 (w0:=w0) (w1:=w1) (w2:=w2) (w3:=w3) (w4:=w4) (w5:=w5) (m:=L.nb) g;obtain⟨R,hRm,hRe⟩:=SM (Rs:=qa w0 w1 w2 w3 w4 w5 L.nb g) (d:=draw) (by lia);have hR:=hRm
  try ext
  refine⟨by lia,?_⟩
  try simp only[m8 hrr,hRe]
  try ext
  try simp only[m8 (sb _ _ hb),ay]
  refine⟨m7 (by decide),qC (by lia),?_⟩;refine hN _ _ (bR S ab (.bO ((C++[(ti,L,R)]).map mK))) (by rw[bM];exact BJ sb) (hG _) ?_;refine Gf h6 k0 j0 ls (C:=C++[(ti,L,R)]) (λM hM=>hL M (aI _ hM)) (by simp;lia) mR (by rw[nO (bz n1)];exact hw) (by rw[nO (bz n2)];exact ht) n1 n2 (λo=>by rw[pN];exact hG o) λC' x7 x8 x9 x10 e1 e2 e3=>?_
  rw[pN];have:=h ((ti,L,R)::C') x7 x8 x9 x10 (by rw[aC,e1]) (λz=>?_) (λt ht'=>?_)
  ·simpa using this
  ·have e:C++[(ti,L,R)]++C'=C++(ti,L,R)::C':=by simp
   rw[e]at e2;refine e2 ?_;rw[bM,z,a_,cw,lP];congr 1;have e4:(tt.map W.str)[C.length]? =aa (.str ti):=by rw[←sk];exact eti
   rw[aU]at e4;cases q:tt[C.length]? with
   |none=>rw[q]at e4;cases e4
   |some y=>rw[q]at e4;cases e4;rfl
  ·obtain rfl |z:=az.mp ht'
   ·exact hR
   ·exact e3 t z
def RR{E:ah→li→Prop}(h6:tt.length=6) (k0:0≤k) (hw:S aw=aa (.bO (qp w0 w1 w2 w3 w4 w5))) (ht:S at'=aa (.bO (tt.map W.str)))
  (h:∀(p:ai) (B:List Tn) (n m:Nat),S p=none→B.map (λt=>t.2.1)=bN n w0 w2 w3++bN m w1 w2 w3→B.map (λt=>t.1)=tt.take B.length→(∀t∈B,t.2.2∈qa w0 w1 w2 w3 w4 w5 t.2.1.nb g)→Q (.ref p) (bR S p (.bO (B.map mK)))):Bh (r+7) [.c6 ns, .int k, .ref aw, .ref at', .bl g] S Q E:=by
 rw[show r+7=r+6+1 from rfl,Bh];ext;refine⟨aO _,λab hb=>⟨⟨by decide,by decide⟩,?_⟩⟩
 refine LY (λi σ S'=>∃(B:List Tn) (f:Nat→Nat) (x5 x6 x7 x8 x9 x10:Option W),B.map (λt=>t.2.1)=(bx i).flatMap (λj=>bN (f j) (rZ w0 w1 j) w2 w3)∧B.map (λt=>t.1)=tt.take B.length∧(∀t∈B,t.2.2∈qa w0 w1 w2 w3 w4 w5 t.2.1.nb g)∧S'=bR S ab (.bO (B.map mK))∧
  σ=[aa (.c6 ns),aa (.int k),aa (.ref aw),aa (.ref at'),aa (.bl g),aa (.ref ab),x5,x6,x7,x8,x9,x10]) 2 ?_ ?_ ⟨[],λ_=>0,none,none,none,none,none,none,rfl,rfl,(λ_ h=>nomatch h),rfl,rfl⟩
 ·rintro j hj σ S' N ⟨B,f,x5,x6,x7,x8,x9,x10,e1,e2,e3,rfl,rfl⟩ hN;have fw:bR S ab (Ob.bO (B.map mK)) aw=aa (.bO (qp w0 w1 w2 w3 w4 w5)):=keep hw hb;have ft:bR S ab (Ob.bO (B.map mK)) at'=aa (.bO (tt.map W.str)):=keep ht hb;have fb:bR S ab (Ob.bO (B.map mK)) ab=aa (.bO (B.map mK)):=mR;have n1:ab≠aw:=λz=>by rw[z,hw]at hb;cases hb
  have n2:ab≠at':=λz=>by rw[z,ht]at hb;cases hb
  have eh:nC (qp w0 w1 w2 w3 w4 w5) (j:Int)=aa (.str (rZ w0 w1 j)):=by
   rcases(show j=0∨j=1 by lia) with rfl |rfl<;>rfl
  simp only[Gh];ext;refine xn (by lia) λdraw=>?_;ext;simp only[m8 fw,eh,pS,p4];refine⟨by decide,Qg λal n hal=>?_⟩;have hl:=Cz n (rZ w0 w1 j) w2 w3;have hB:B.length≤4:=by
   have:=congrArg dU e1;rw[ay]at this;rcases(show j=0∨j=1 by lia) with rfl |rfl
   ·simp at this;rw[this];simp
   ·simp at this;have:=Cz (f 0) (rZ w0 w1 0) w2 w3;lia
  have nal:al≠ab:=λz=>by rw[z,fb]at hal;cases hal
  try ext
  refine Gf (g:=g) h6 k0 (by lia) (bN n (rZ w0 w1 j) w2 w3) (E3 _ _ _ _) (by lia) (keep fb hal) (keep fw hal) (keep ft hal) n1 n2 (λo=>?_) λC' x7 x8 x9 x10 g1 g2 g3=>?_
  ·rw[nO nal,mR]
  ·refine hN _ _ (bR S ab (.bO ((B++C').map mK))) ?_ ⟨B++C',λi=>if i=j then n else f i,_,_,_,_,_,_,?_,g2 e2,λt ht'=>?_,rfl,rfl⟩
   ·rw[IP nal];exact .bR .refl (by rw[nO nal];exact(rh hal).1)
   ·rw[bM,e1,g1,g9,lr];congr 1
    ·rw[kU,kU];congr 1;refine dt λi hi=>?_;have:=fI.mp hi;dsimp only;rw[if_neg (by lia)]
    ·simp
   ·obtain z |z:=bp.mp ht'
    ·exact e3 t z
    ·exact g3 t z
 ·rintro σ S' ⟨B,f,x5,x6,x7,x8,x9,x10,e1,e2,e3,rfl,rfl⟩;ext;refine⟨_, .refl,h ab B (f 0) (f 1) hb ?_ e2 e3⟩;rw[e1];simp [g9,rZ]
end
mutual
def Tr.ord (k:Nat):Tr→Option Nat
 | .bl n=>if n=(k:Int) then aa (k+1) else none
 | .nd _ ts=>rQ k ts
def rQ (k:Nat):List Tr→Option Nat
 | []=>aa k
 |t::ts=>match t.ord k with
  |some m=>rQ m ts
  |none=>none
end
def Bu (B:List Tn) (z:ah):Prop:=∀u∈B,∀s ls,u.2.1= .nd s ls→s≠z
structure qX (B:List Tn):Prop where
  inn:∀t∈B,∃s ls,t.2.1= .nd s ls∧oy (Bu B) ls
  mt:DG B
  fm:∀t∈B,∀x ys,t.2.1.mt x=aa ys→x=t.2.1.aD ys∧ys.length=t.2.1.nb
  one:∀u∈B,∀v∈B,∀x:Tr,(u.2.1.mt x).isSome=true→(v.2.1.mt x).isSome=true→u=v
  od:∀t∈B,t.2.1.ord 0=aa t.2.1.nb
mutual
theorem KJ:∀(L x:Tr) (ys:List Tr) (k m:Nat),L.ord k=aa m→L.mt x=aa ys→ys.length+k=m∧ ∀pre post:List Tr,pre.length=k→L.aD (pre++ys++post)=x
 | .bl n,x,ys,k,m,h,e=>by
  rw[Tr.ord]at h;split at h
  ·rename_i hn;cases h;rw[Tr.mt]at e;cases e;refine⟨by simp;lia,λpre post hp=>?_⟩;rw[Tr.aD,hn,bb,bv,bD,jh (by lia),hp,gT];rfl
  ·cases h
 | .nd s ls, .bl n,ys,k,m,h,e=>by rw[Tr.mt]at e;cases e
 | .nd s ls, .nd z us,ys,k,m,h,e=>by
  rw[Tr.mt]at e;split at e
  ·rename_i hc;rw[bV,beq_iff_eq,beq_iff_eq]at hc;rw[Tr.ord]at h;obtain⟨h1,h2⟩:=Nf ls us ys k m hc.2 h e;exact⟨h1,λpre post hp=>by rw[Tr.aD,h2 pre post hp,hc.1]⟩
  ·cases e
theorem Nf:∀(ls us ys:List Tr) (k m:Nat),ls.length=us.length→rQ k ls=aa m→nM ls us=aa ys→ys.length+k=m∧ ∀pre post:List Tr,pre.length=k→aF (pre++ys++post) ls=us
 | [],us,ys,k,m,hl,h,e=>by
  rw[rQ]at h;cases h;rw[nM]at e;cases e;cases us with
  |nil=>exact⟨by simp,λ_ _ _=>by rw[aF]⟩
  |cons _ _=>cases hl
 |l::ls,[],ys,k,m,hl,h,e=>by cases hl
 |l::ls,u::us,ys,k,m,hl,h,e=>by
  rw[rQ]at h;rw[nM]at e;cases q:l.ord k with
  |none=>rw[q]at h;cases h
  |some j=>
   rw[q]at h;cases q1:l.mt u with
   |none=>rw[q1]at e;cases e
   |some xs=>
    rw[q1]at e;cases q2:nM ls us with
    |none=>rw[q2]at e;cases e
    |some zs=>
     rw[q2]at e;cases e;obtain⟨h1,h2⟩:=KJ l u xs k j q q1;obtain⟨h3,h4⟩:=Nf ls us zs j m (by simpa using hl) h q2;refine⟨by rw[a_];lia,λpre post hp=>?_⟩;rw[aF];have e1:=h2 pre (zs++post) hp;have e2:=h4 (pre++xs) post (by rw[a_];lia);have a1:pre++(xs++zs)++post=pre++xs++(zs++post):=by simp
     have a2:pre++(xs++zs)++post=pre++xs++zs++post:=by simp
     rw[a1,e1,←a1,a2,e2]
end
def JY (hL:L∈bN n h c d):L.ord 0=aa L.nb:=by
 unfold bN at hL;split at hL<;>simp only[az,bq,or_false]at hL
 all_goals first
  | (subst hL;simp [Tr.ord,rQ,Tr.nb,nbs])
  | (rcases hL with rfl |rfl<;>simp [Tr.ord,rQ,Tr.nb,nbs])
def CF{P:ah→Prop}(hc:P c) (hd:P d) (hL:L∈bN n h c d):∃ls,L= .nd h ls∧oy P ls:=by
 unfold bN at hL;split at hL<;>simp only[az,bq,or_false]at hL
 all_goals first
  | (subst hL;exact⟨_,rfl,by simp [oy,Tr.hb,hc,hd]⟩)
  | (rcases hL with rfl |rfl<;>exact⟨_,rfl,by simp [oy,Tr.hb,hc,hd]⟩)
def mF.mem_lefts (b:mF w0 w1 w2 w3 w4 w5 tt B) (ht:t∈B):∃n,t.2.1∈bN n w0 w2 w3∨t.2.1∈bN n w1 w2 w3:=by
 obtain⟨n,m,e⟩:=b.lf;have:t.2.1∈bN n w0 w2 w3++bN m w1 w2 w3:=by rw[←e];exact aV.mpr ⟨t,ht,rfl⟩
 obtain z |z:=bp.mp this
 ·exact⟨n, .inl z⟩
 ·exact⟨m, .inr z⟩
def mF.ort (b:mF w0 w1 w2 w3 w4 w5 tt B) (G:nU w0 w1 w2 w3 w4 w5):qX B:=by
 have top:∀z,z≠w0→z≠w1→Bu B z:=λz h0 h1 u hu s ls e=>by
  obtain⟨n,z |z⟩:=b.mem_lefts hu
  ·obtain⟨l,e',_⟩:=CF (P:=λ_=>True) trivial trivial z;rw[e]at e';cases e';exact h0.symm
  ·obtain⟨l,e',_⟩:=CF (P:=λ_=>True) trivial trivial z;rw[e]at e';cases e';exact h1.symm
 have t2:=top w2 (G.n0 w2 (by simp)).symm (G.n1 w2 (by simp)).symm;have t3:=top w3 (G.n0 w3 (by simp)).symm (G.n1 w3 (by simp)).symm;have od:∀t∈B,t.2.1.ord 0=aa t.2.1.nb:=λt ht=>by
  obtain⟨n,z |z⟩:=b.mem_lefts ht
  ·exact JY z
  ·exact JY z
 refine⟨λt ht=>?_,b.mt,λt ht x ys e=>?_,λu hu v hv x h1 h2=>Ch (b.inj G) hu hv (b.one G hu hv h1 h2),od⟩
 ·obtain⟨n,z |z⟩:=b.mem_lefts ht
  ·obtain⟨l,e',h⟩:=CF t2 t3 z;exact⟨_,_,e',h⟩
  ·obtain⟨l,e',h⟩:=CF t2 t3 z;exact⟨_,_,e',h⟩
 ·have ho:=od t ht;obtain⟨h1,h2⟩:=KJ _ _ _ _ _ ho e;have:=h2 [] [] rfl;simp only[aX,bg]at this;exact⟨this.symm,by lia⟩
structure Wy (ws:List ah) (B:List Tn) (a:Tr):Prop where
  hd:a.hd λs=>s∈ws∨ ∃t∈B,t.1=s
  ar:a.ar B
abbrev ak (B:List Tn) (a:Tr):Tr:=a.mk B λt=>t.2.1
abbrev b9 (B:List Tn) (a:Tr):Tr:=a.mk B λt=>t.2.2
theorem F7{P:ah→Prop}:∀{ts:List Tr}{t:Tr},hds P ts→t∈ts→t.hd P
 |u::ts,t,h,ht=>by
  rw[hds]at h;obtain rfl |ht:=az.mp ht
  ·exact h.1
  ·exact F7 h.2 ht
theorem Fm:∀{ts:List Tr}{t:Tr},r9 B ts→t∈ts→t.ar B
 |u::ts,t,h,ht=>by
  rw[r9]at h;obtain rfl |ht:=az.mp ht
  ·exact h.1
  ·exact Fm h.2 ht
theorem Wy.cases (b:ox ws ws B) (h:Wy ws B a):(∃s as,a= .nd s as∧s∈ws∧m9 B s=none∧ ∀x∈as,Wy ws B x)∨(∃t as,t∈B∧a= .nd t.1 as∧m9 B t.1=aa t∧as.length=t.2.1.nb∧ ∀x∈as,Wy ws B x):=by
 obtain⟨h1,h2⟩:=h;cases a with
 |bl n=>rw[Tr.hd]at h1;exact h1.elim
 |nd s as=>
  rw[Tr.hd]at h1;rw[Tr.ar]at h2;have dI:∀x∈as,Wy ws B x:=λx hx=>⟨F7 h1.2 hx,Fm h2.2 hx⟩;obtain h |⟨t,ht,rfl⟩:=h1.1
  ·exact .inl ⟨s,as,rfl,h,qb b.ti (b.sg s h),dI⟩
  ·have e:=rg b.nd ht;exact .inr ⟨t,as,ht,rfl,e,h2.1 t e,dI⟩
def qe{g:Tn→Tr}(h:m9 B s=none):(Tr.nd s as).mk B g= .nd s (as.map (Tr.mk B g)):=by
 rw[Tr.mk,h,wS]
def pY{g:Tn→Tr}(h:m9 B t.1=aa t):(Tr.nd t.1 as).mk B g=(g t).aD (as.map (Tr.mk B g)):=by
 rw[Tr.mk,h,wS]
mutual
theorem Qd (b:ox ws ws B) (O:qX B):∀(L a:Tr),L.hb (Bu B)→Wy ws B a→(L.mt (ak B a)).isSome=true→(L.mt a).isSome=true
 | .bl n,a,_,_,_=>by rw[Tr.mt];rfl
 | .nd z ls,a,hL,ha,h=>by
  rw[Tr.hb]at hL;obtain ⟨s,as,rfl,hs,e,dI⟩ |⟨t,as,ht,rfl,e,hl,dI⟩:=ha.cases b
  ·rw[show ak B (.nd s as)= .nd s (as.map (ak B)) from qe e,Tr.mt,ay]at h;rw[Tr.mt];split at h
   ·rename_i hc;rw[if_pos hc];exact Ev b O ls as hL.2 dI h
   ·cases h
  ·obtain⟨s0,l0,e0,_⟩:=O.inn t ht;rw[show ak B (.nd t.1 as)=t.2.1.aD (as.map (ak B)) from pY e,e0,Tr.aD]at h;exact absurd (yI h).symm (hL.1 t ht s0 l0 e0)
theorem Ev (b:ox ws ws B) (O:qX B):∀(ls as:List Tr),oy (Bu B) ls→(∀x∈as,Wy ws B x)→(nM ls (as.map (ak B))).isSome=true→(nM ls as).isSome=true
 | [],as,_,_,_=>by rw[nM];rfl
 |l::ls,[],_,_,_=>by rw[nM];rfl
 |l::ls,a::as,hL,ha,h=>by
  rw[oy]at hL;rw[aC,nM]at h;cases q1:l.mt (ak B a) with
  |none=>rw[q1]at h;cases h
  |some xs=>
   rw[q1]at h;cases q2:nM ls (as.map (ak B)) with
   |none=>rw[q2]at h;cases h
   |some zs=>
    have h1:=Qd b O l a hL.1 (ha a (by simp)) (by rw[q1];rfl);have h2:=Ev b O ls as hL.2 (λx hx=>ha x (aI _ hx)) (by rw[q2];rfl);obtain⟨x1,h1⟩:=dy.mp h1;obtain⟨x2,h2⟩:=dy.mp h2;rw[nM,h1,h2];rfl
end
def Wy.dI (h:Wy ws B (.nd s as)):∀x∈as,Wy ws B x:=λx hx=>by
 obtain⟨h1,h2⟩:=h;rw[Tr.hd]at h1;rw[Tr.ar]at h2;exact⟨F7 h1.2 hx,Fm h2.2 hx⟩
mutual
theorem D5:∀(L a:Tr) (ys:List Tr),L.mt a=aa ys→Wy ws B a→ ∀y∈ys,Wy ws B y
 | .bl n,a,ys,e,h,y,hy=>by
  rw[Tr.mt]at e;cases e;rw[bi]at hy;rw[hy];exact h
 | .nd s ls, .bl n,ys,e,h,y,hy=>by rw[Tr.mt]at e;cases e
 | .nd s ls, .nd z us,ys,e,h,y,hy=>by
  rw[Tr.mt]at e;split at e
  ·exact JQ ls us ys e h.dI y hy
  ·cases e
theorem JQ:∀(ls us ys:List Tr),nM ls us=aa ys→(∀x∈us,Wy ws B x)→ ∀y∈ys,Wy ws B y
 | [],us,ys,e,h,y,hy=>by rw[nM]at e;cases e;cases hy
 |l::ls,[],ys,e,h,y,hy=>by rw[nM]at e;cases e;cases hy
 |l::ls,u::us,ys,e,h,y,hy=>by
  rw[nM]at e;cases q1:l.mt u with
  |none=>rw[q1]at e;cases e
  |some xs=>
   rw[q1]at e;cases q2:nM ls us with
   |none=>rw[q2]at e;cases e
   |some zs=>
    rw[q2]at e;cases e;obtain hy |hy:=bp.mp hy
    ·exact D5 l u xs q1 (h u (by simp)) y hy
    ·exact JQ ls us zs q2 (λx hx=>h x (aI _ hx)) y hy
end
def Mb (b:ox ws ws B) (ht:t∈B) (hl:vs.length=t.2.1.nb) (g:Tn→Tr):(t.2.1.aD vs).mk B g=t.2.1.aD (vs.map (Tr.mk B g)):=
 B0 b.ti _ (b.lf t ht).hb (by rw[hl];exact(b.lf t ht).bt)
def Fj (b:ox ws ws B) (O:qX B) (ht:t∈B) (e:m9 B s=none) (hw:Wy ws B (.nd s bs)) (hl:us.length=t.2.1.nb) (h:ak B (.nd s bs)=t.2.1.aD us) :
  ∃vs, .nd s bs=t.2.1.aD vs∧vs.length=t.2.1.nb∧vs.map (ak B)=us∧(∀x∈vs,Wy ws B x)∧mJ vs≤(Tr.nd s bs).aq:=by
 obtain⟨s0,ls,e0,hin⟩:=O.inn t ht;have hm:t.2.1.mt (ak B (.nd s bs))=aa us:=by rw[h];exact O.mt t ht us hl
 have h1:(t.2.1.mt (.nd s bs)).isSome=true:=by
  have hm':=hm;rw[show ak B (.nd s bs)= .nd s (bs.map (ak B)) from qe e,e0,Tr.mt,ay]at hm';rw[e0,Tr.mt];split at hm'
  ·rename_i hc;rw[if_pos hc];exact Ev b O ls bs hin hw.dI (by rw[hm'];rfl)
  ·cases hm'
 obtain⟨vs,hv⟩:=dy.mp h1;obtain⟨h2,h3⟩:=O.fm t ht _ _ hv;refine⟨vs,h2,h3,?_,D5 _ _ _ hv hw,JZ _ _ _ hv⟩;rw[h2,show ak B (t.2.1.aD vs)=_ from Mb b ht h3 _,O.mt t ht _ (by rw[ay,h3])]at hm;exact aL hm
def wg:(Tr.nd s as).aq=1+mJ as:=by rw[Tr.aq]
inductive xy (P:Int→Prop):Pl→Prop
 |sign {b:Int}{h:ah}{ps:List Pl}:(∀p∈ps,xy P p)→xy P (.nd (-1) b h ps)
 |turn {k:Nat}{b:Int}{h:ah}{ps:List Pl}:P b→(∀p∈ps,xy P p)→xy P (.nd k b h ps)
def zZ (x:Int):Prop:=x=1∨x=2∨x=3
theorem Bt (b:ox ws ws B) (O:qX B):∀(n:Nat) (x y:Tr),x.aq+y.aq≤n→Wy ws B x→Wy ws B y→ak B x=ak B y→ ∃p,nF ws B p∧xy zZ p∧p.ev B (nJ 1)=x∧p.ev B (nJ 2)=y
 |0,x,y,hn,hx,hy,e=>by
  rcases hx.cases b with⟨s,as,rfl,_⟩ |⟨t,as,_,rfl,_⟩<;>rw[wg]at hn<;>lia
 |n+1,x,y,hn,hx,hy,e=>by
  have lists:∀(xs ys:List Tr),mJ xs+mJ ys≤n→(∀x∈xs,Wy ws B x)→(∀y∈ys,Wy ws B y)→xs.map (ak B)=ys.map (ak B)→ ∃ps:List Pl,(∀p∈ps,nF ws B p)∧(∀p∈ps,xy zZ p)∧ps.map (Pl.ev B (nJ 1))=xs∧ps.map (Pl.ev B (nJ 2))=ys:=by
   intro xs
   induction xs with
   |nil=>
    intro ys _ _ _ e;cases ys with
    |nil=>exact⟨[],by simp,by simp,rfl,rfl⟩
    |cons y ys=>cases e
   |cons x xs ih=>
    intro ys hw h1 h2 e;cases ys with
    |nil=>cases e
    |cons y ys=>
     rw[aC,aC,fX]at e;rw[mJ,mJ]at hw;obtain⟨p,hp,hq,e1,e2⟩:=Bt b O n x y (by lia) (h1 x (by simp)) (h2 y (by simp)) e.1;obtain⟨ps,hps,hqs,e3,e4⟩:=ih ys (by lia) (λz hz=>h1 z (aI _ hz)) (λz hz=>h2 z (aI _ hz)) e.2;exact⟨p::ps,λq hq=>by
      obtain rfl |hq:=az.mp hq
      ·exact hp
      ·exact hps q hq,λq hz=>by
      obtain rfl |hz:=az.mp hz
      ·exact hq
      ·exact hqs q hz,by rw[aC,e1,e3],by rw[aC,e2,e4]⟩
  obtain ⟨s,as,rfl,hs,es,ka⟩ |⟨t,as,ht,rfl,et,la,ka⟩:=hx.cases b
  ·obtain ⟨s',bs,rfl,hs',es',kb⟩ |⟨t,bs,ht,rfl,et,lb,kb⟩:=hy.cases b
   ·rw[show ak B (.nd s as)=_ from qe es,show ak B (.nd s' bs)=_ from qe es']at e;injection e with e1 e2;subst e1;rw[wg,wg]at hn;obtain⟨ps,hps,hqs,e3,e4⟩:=lists as bs (by lia) ka kb e2;exact⟨.nd (-1) 0 s ps, .sign hs hps, .sign hqs,by rw[qg,e3],by rw[qg,e4]⟩
   ·rw[show ak B (.nd t.1 bs)=_ from pY et]at e;obtain⟨vs,ev,lv,ms,kv,wv⟩:=Fj b O ht es hx (by rw[ay,lb]) e;rw[wg (s:=t.1)]at hn;obtain⟨ps,hps,hqs,e3,e4⟩:=lists vs bs (by lia) kv kb ms;obtain⟨k,hk⟩:=ir ht;refine⟨.nd k 2 t.1 ps, .turn hk (by rw[←lb,←e4,ay]) (by decide) (by decide) hps, .turn (by unfold zZ;decide) hqs,?_,?_⟩
    ·rw[p8 hk,e3,ev,show nJ 1 2=0 by decide];rfl
    ·rw[p8 hk,e4,show nJ 2 2=1 by decide];rfl
  ·obtain ⟨s,bs,rfl,hs,es,kb⟩ |⟨u,bs,hu,rfl,eu,lb,kb⟩:=hy.cases b
   ·rw[show ak B (.nd t.1 as)=_ from pY et]at e;obtain⟨vs,ev,lv,ms,kv,wv⟩:=Fj b O ht es hy (by rw[ay,la]) e.symm;rw[wg (s:=t.1)]at hn;obtain⟨ps,hps,hqs,e3,e4⟩:=lists as vs (by lia) ka kv ms.symm;obtain⟨k,hk⟩:=ir ht;refine⟨.nd k 1 t.1 ps, .turn hk (by rw[←la,←e3,ay]) (by decide) (by decide) hps, .turn (by unfold zZ;decide) hqs,?_,?_⟩
    ·rw[p8 hk,e3,show nJ 1 1=1 by decide];rfl
    ·rw[p8 hk,e4,ev,show nJ 2 1=0 by decide];rfl
   ·rw[show ak B (.nd t.1 as)=_ from pY et,show ak B (.nd u.1 bs)=_ from pY eu]at e;have m1:=O.mt t ht (as.map (ak B)) (by rw[ay,la]);have m2:=O.mt u hu (bs.map (ak B)) (by rw[ay,lb]);have:t=u:=O.one t ht u hu _ (by rw[m1];rfl) (by rw[show(t.2.1.aD (as.map (ak B)))=_ from e,m2];rfl)
    subst this;have e2:as.map (ak B)=bs.map (ak B):=by
     rw[show(t.2.1.aD (as.map (ak B)))=_ from e,m2]at m1;exact(aL m1).symm
    rw[wg,wg]at hn;obtain⟨ps,hps,hqs,e3,e4⟩:=lists as bs (by lia) ka kb e2;obtain⟨k,hk⟩:=ir ht;refine⟨.nd k 3 t.1 ps, .turn hk (by rw[←la,←e3,ay]) (by decide) (by decide) hps, .turn (by unfold zZ;decide) hqs,?_,?_⟩
    ·rw[p8 hk,e3,show nJ 1 3=1 by decide];rfl
    ·rw[p8 hk,e4,show nJ 2 3=1 by decide];rfl
theorem GB:∀xs ys:List Tr,mJ (xs++ys)=mJ xs+mJ ys
 | [],ys=>by rw[aX,mJ,bE]
 |x::xs,ys=>by rw[cj,mJ,mJ,GB xs ys,Nat.add_assoc]
mutual
theorem FP:∀(L:Tr) (k m:Nat),L.ord k=aa m→k≤m∧L.nb+k=m∧ ∀(us:List Tr),m≤us.length→(L.aD us).aq+(m - k)=L.aq+mJ ((us.drop k).take (m - k))∧ ∀u∈(us.drop k).take (m - k),u.depth≤(L.aD us).depth
 | .bl n,k,m,h=>by
  rw[Tr.ord]at h;split at h
  ·rename_i hn;cases h;refine⟨by lia,by rw[Tr.nb];lia,λus hu=>?_⟩
   have hk:k<us.length:=by lia
   have e:(us.drop k).take (k+1 - k)=[us[k]]:=by
    rw[show k+1 - k=1 by lia,gh hk]
    rfl
   have f:(Tr.bl n).aD us=us[k]:=by
    rw[Tr.aD,hn,bb,bv,aR hk];rfl
   rw[e,f];refine⟨?_,λu hu=>?_⟩
   ·simp only[Tr.aq,mJ];lia
   ·rw[bi]at hu;rw[hu];exact aA _
  ·cases h
 | .nd s ls,k,m,h=>by
  rw[Tr.ord]at h;obtain⟨h1,h2,h3⟩:=BO ls k m h;refine⟨h1,by rw[Tr.nb];exact h2,λus hu=>?_⟩
  obtain⟨h4,h5⟩:=h3 us hu;rw[Tr.aD,Tr.aq,Tr.aq,Tr.depth];exact⟨by lia,λu hu'=>aY (h5 u hu') (by lia)⟩
theorem BO:∀(ls:List Tr) (k m:Nat),rQ k ls=aa m→k≤m∧nbs ls+k=m∧ ∀(us:List Tr),m≤us.length→mJ (aF us ls)+(m - k)=mJ ls+mJ ((us.drop k).take (m - k))∧ ∀u∈(us.drop k).take (m - k),u.depth≤m_ (aF us ls)
 | [],k,m,h=>by
  rw[rQ]at h;cases h;refine⟨aA _,by rw[nbs];lia,λus _=>?_⟩
  rw[gT,kZ,aF];exact⟨rfl,λu hu=>by cases hu⟩
 |l::ls,k,m,h=>by
  rw[rQ]at h;cases q:l.ord k with
  |none=>rw[q]at h;cases h
  |some j=>
   rw[q]at h;obtain⟨h1,h2,h3⟩:=FP l k j q;obtain⟨g1,g2,g3⟩:=BO ls j m h;refine⟨by lia,by rw[nbs];lia,λus hu=>?_⟩
   obtain⟨h4,h5⟩:=h3 us (by lia);obtain⟨g4,g5⟩:=g3 us hu;have e:(us.drop k).take (m - k)=(us.drop k).take (j - k)++(us.drop j).take (m - j):=by
    rw[show m - k=(j - k)+(m - j) by lia,lm,lK,show k+(j - k)=j by lia]
   rw[e,GB,aF,mJ,mJ,m_];refine⟨by lia,λu hu=>?_⟩;obtain hu |hu:=bp.mp hu
   ·have:=h5 u hu;lia
   ·have:=g5 u hu;lia
end
def U1:∀(L:Tr),L.nb≤L.aq:=λL=>by rw[←Fg];exact yb L
theorem Ht:∀ls:List Tr,nbs ls≤mJ ls
 | []=>by rw[nbs,mJ];exact aA _
 |l::ls=>by rw[nbs,mJ];have:=U1 l;have:=Ht ls;lia
def qX.aD (O:qX B) (ht:t∈B) (hl:us.length=t.2.1.nb):(t.2.1.aD us).aq+t.2.1.nb=t.2.1.aq+mJ us∧1+mJ us≤(t.2.1.aD us).aq∧1+m_ us≤(t.2.1.aD us).depth:=by
 obtain⟨s,ls,e,_⟩:=O.inn t ht;have ho:=O.od t ht;obtain⟨_,h2,h3⟩:=FP _ _ _ ho;obtain⟨h4,_⟩:=h3 us (by lia);rw[eT,dS,dD (by lia)]at h4;have hw:1+t.2.1.nb≤t.2.1.aq:=by
  rw[e,Tr.nb,Tr.aq];have:=Ht ls;lia
 refine⟨h4,by lia,?_⟩
 rw[e]at ho hl⊢;rw[Tr.ord]at ho;obtain⟨_,_,g3⟩:=BO _ _ _ ho;obtain⟨_,g5⟩:=g3 us (by lia);rw[eT,dS,dD (by lia)]at g5;rw[Tr.aD,Tr.depth];have:=MV g5;lia
def zr:Int→Nat:=λ_=>0
section
variable {B:List Tn}
mutual
def Tr.ne (B:List Tn):Tr→Nat
 | .bl _=>0
 | .nd s ts=>(match m9 B s with
  |none=>0
  |some _=>1)+ov B ts
def ov (B:List Tn):List Tr→Nat
 | []=>0
 |t::ts=>max (t.ne B) (ov B ts)
end
theorem wV:∀{ts:List Tr},t∈ts→t.ne B≤ov B ts
 |u::ts,h=>by
  rw[ov];obtain rfl |h:=az.mp h
  ·lia
  ·have:=wV h;lia
theorem uE:∀{ts:List Tr},(∀t∈ts,t.ne B≤n)→ov B ts≤n
 | [],_=>by rw[ov];lia
 |t::ts,h=>by
  rw[ov];have:=h t (by simp);have:=uE λu hu=>h u (aI _ hu);lia
mutual
theorem BI (hB:∀t∈B,p7 t.1):∀t:Tr,t.hb ow→(t.aD us).ne B≤ov B us
 | .bl n,_=>by
  rw[Tr.aD,bv];cases e:us[n.toNat]? with
  |none=>simp [Tr.ne]
  |some u=>exact wV (aJ e)
 | .nd s ts,h=>by
  rw[Tr.hb]at h;rw[Tr.aD,Tr.ne,qb hB h.1];have:=Nv hB (us:=us) ts h.2;simpa using this
theorem Nv (hB:∀t∈B,p7 t.1):∀ts:List Tr,oy ow ts→ov B (aF us ts)≤ov B us
 | [],_=>by rw[aF,ov];lia
 |t::ts,h=>by
  rw[oy]at h;rw[aF,ov];have:=BI hB (us:=us) t h.1;have:=Nv hB (us:=us) ts h.2;lia
end
mutual
theorem NC:∀(L:Tr) (k m:Nat),L.ord k=aa m→ ∀(us:List Tr),m≤us.length→ ∀u∈(us.drop k).take (m - k),u.ne B≤(L.aD us).ne B
 | .bl n,k,m,h,us,hu,u,hm=>by
  rw[Tr.ord]at h;split at h
  ·rename_i hn;cases h;have hk:k<us.length:=by lia
   have e:(us.drop k).take (k+1 - k)=[us[k]]:=by
    rw[show k+1 - k=1 by lia,gh hk]
    rfl
   have f:(Tr.bl n).aD us=us[k]:=by
    rw[Tr.aD,hn,bb,bv,aR hk];rfl
   rw[e,bi]at hm;rw[f,hm];exact aA _
  ·cases h
 | .nd s ls,k,m,h,us,hu,u,hm=>by
  rw[Tr.ord]at h;have:=J7 ls k m h us hu u hm;rw[Tr.aD,Tr.ne];lia
theorem J7:∀(ls:List Tr) (k m:Nat),rQ k ls=aa m→ ∀(us:List Tr),m≤us.length→ ∀u∈(us.drop k).take (m - k),u.ne B≤ov B (aF us ls)
 | [],k,m,h,us,hu,u,hm=>by
  rw[rQ]at h;cases h;rw[gT,kZ]at hm;cases hm
 |l::ls,k,m,h,us,hu,u,hm=>by
  rw[rQ]at h;cases q:l.ord k with
  |none=>rw[q]at h;cases h
  |some j=>
   rw[q]at h;obtain⟨h1,_,_⟩:=FP l k j q;obtain⟨g1,_,_⟩:=BO ls j m h;have e:(us.drop k).take (m - k)=(us.drop k).take (j - k)++(us.drop j).take (m - j):=by
    rw[show m - k=(j - k)+(m - j) by lia,lm,lK,show k+(j - k)=j by lia]
   rw[e]at hm;rw[aF,ov];obtain hm |hm:=bp.mp hm
   ·have:=NC l k j q us (by lia) u hm;lia
   ·have:=J7 ls j m h us hu u hm;lia
end
def qX.ne (O:qX B) (ht:t∈B) (hl:us.length=t.2.1.nb):ov B us≤(t.2.1.aD us).ne B:=uE λu hu=>by
 refine NC _ _ _ (O.od t ht) us (by lia) u ?_;rw[eT,dS,dD (by lia)];exact hu
def OB{c:Int→Nat}{p:Pl}{ps:List Pl}(hp:p∈ps):(p.ev B c).ne B≤ov B (ps.map (Pl.ev B c)):=wV (aV.mpr ⟨p,hp,rfl⟩)
def PN{c d:Int→Nat}(b:ox ws ws B) (O:qX B) (hc:vy c) (hd:vy d) {p:Pl}(h:nF ws B p):(p.ev B (pK c d)).ne B≤(p.ev B c).ne B:=by
 induction h with
 | @sign b' h ps hh hp ih=>
  have:ov B (ps.map (Pl.ev B (pK c d)))≤ov B (ps.map (Pl.ev B c)):=uE λu hu=>by
   obtain⟨p,hp,rfl⟩:=aV.mp hu;exact aY (ih p hp) (OB hp)
  have e:=qb b.ti (b.sg h hh);rw[qg,qg,Tr.ne,Tr.ne,e];simpa using this
 | @turn k b' h ps t e hl b0 b1 hp ih=>
  have ht:t∈B:=aJ e;have key:ov B (ps.map (Pl.ev B (pK c d)))≤ov B (ps.map (Pl.ev B c)):=uE λu hu=>by
   obtain⟨p,hp,rfl⟩:=aV.mp hu;exact aY (ih p hp) (OB hp)
  have l1:(ps.map (Pl.ev B c)).length=t.2.1.nb:=by rw[ay,hl]
  have low:ov B (ps.map (Pl.ev B c))+c b'≤(qW t (c b') (ps.map (Pl.ev B c))).ne B:=by
   have:=hc b' b0 b1;by_cases h1:c b'=1
   ·rw[h1];show _≤(Tr.nd t.1 _).ne B;rw[Tr.ne,rg b.nd ht];show _≤1+_;lia
   ·rw[show c b'=0 by lia]
    exact O.ne ht l1
  rw[p8 e,p8 e];refine aY ?_ low;have hp:pK c d b'=if d b'=1 then 2 else c b':=rfl;rw[hp];by_cases dz:d b'=1
  ·rw[if_pos dz];have:=BI b.ti (us:=ps.map (Pl.ev B (pK c d))) t.2.2 ((b.ri t ht).hb b.sg);show(t.2.2.aD _).ne B≤_;lia
  ·rw[if_neg dz];have:=hc b' b0 b1;by_cases h1:c b'=1
   ·rw[h1];show(Tr.nd t.1 _).ne B≤_;rw[Tr.ne,rg b.nd ht];show 1+_≤_;lia
   ·rw[show c b'=0 by lia]
    have:=BI b.ti (us:=ps.map (Pl.ev B (pK c d))) t.2.1 (b.lf t ht).hb;show(t.2.1.aD _).ne B≤_;lia
end
mutual
theorem Mv.one:∀{n m:Nat}{a b c d:Tr},Mv B n a b c→Mv B m a b d→c=d
 |_,_,_,_,_,_, .nn h1 h2 h3,g=>by
  cases g with
  |nn g1 g2 g3=>rw[nV.one h3 g3]
  |ns g1 g2 g3 g4 g5=>rw[h2]at g2;cases g2
  |sn g1 g2 g3 g4=>rw[h1]at g1;cases g1
  |ss g1 g2 g3 g4=>rw[h1]at g1;cases g1
 |_,_,_,_,_,_, .ns h1 h2 h3 h4 h5,g=>by
  cases g with
  |nn g1 g2 g3=>rw[h2]at g2;cases g2
  |ns g1 g2 g3 g4 g5=>
   rw[h2]at g2;cases g2;rw[h3]at g3;cases g3;rw[nV.one h5 g5]
  |sn g1 g2 g3 g4=>rw[h1]at g1;cases g1
  |ss g1 g2 g3 g4=>rw[h1]at g1;cases g1
 |_,_,_,_,_,_, .sn h1 h2 h3 h4,g=>by
  cases g with
  |nn g1 g2 g3=>rw[h1]at g1;cases g1
  |ns g1 g2 g3 g4 g5=>rw[h1]at g1;cases g1
  |sn g1 g2 g3 g4=>
   rw[h1]at g1;cases g1;rw[h3]at g3;cases g3;rw[nV.one h4 g4]
  |ss g1 g2 g3 g4=>rw[h2]at g2;cases g2
 |_,_,_,_,_,_, .ss h1 h2 h3 h4,g=>by
  cases g with
  |nn g1 g2 g3=>rw[h1]at g1;cases g1
  |ns g1 g2 g3 g4 g5=>rw[h1]at g1;cases g1
  |sn g1 g2 g3 g4=>rw[h2]at g2;cases g2
  |ss g1 g2 g3 g4=>
   rw[h2]at g2;cases g2;rw[nV.one h4 g4]
theorem nV.one:∀{n m:Nat}{a b c d:List Tr},nV B n a b c→nV B m a b d→c=d
 |_,_,_,_,_,_, .nil,g=>by
  cases g;rfl
 |_,_,_,_,_,_, .cons h1 h2,g=>by
  cases g with
  |cons g1 g2=>rw[Mv.one h1 g1,nV.one h2 g2]
end
open Classical in
noncomputable def res (B:List Tn) (x y:Tr):Tr:=if h:∃z n,Mv B n x y z then choose h else x
def Mv.res (h:Mv B n x y z):res B x y=z:=by
 unfold L2.res;have e:∃z n,Mv B n x y z:=⟨z,n,h⟩;rw[dif_pos e];obtain⟨m,h'⟩:=kc e;exact Mv.one h' h
structure Bk3 (ws:List ah) (B:List Tn):Prop where
  b:ox ws ws B
  O:qX B
  lw:∀t∈B,t.2.1.hb λs=>s∈ws
structure Ii (ws:List ah) (B:List Tn):Prop extends Bk3 ws B where
  sl:R9 B
instance {ws:List ah}{B:List Tn}:Coe (Ii ws B) (Bk3 ws B):=⟨Ii.toBk3⟩
def Bk3.wy (K:Bk3 ws B) {c:Int→Nat}(h:nF ws B p):Wy ws B (p.ev B c):=by
 refine⟨?_,JH _ (Yq K.b h)⟩
 induction h with
 | @sign b' h ps hh hp ih=>
  rw[qg,Tr.hd,mW];refine⟨.inl hh,λu hu=>?_⟩;obtain⟨p,hp,rfl⟩:=aV.mp hu;exact ih p hp
 | @turn k b' h ps t e hl b0 b1 hp ih=>
  have ht:t∈B:=aJ e;have hu:∀u∈ps.map (Pl.ev B c),u.hd λs=>s∈ws∨ ∃t∈B,t.1=s:=λu hu=>by
   obtain⟨p,hp,rfl⟩:=aV.mp hu;exact ih p hp
  rw[p8 e];unfold qW;split
  ·exact yL hu _ (Kt (λs hs=> .inl hs) _ (K.lw t ht)) (by rw[ay,hl];exact(K.b.lf t ht).bt)
  ·rw[Tr.hd,mW];exact⟨.inr ⟨t,ht,rfl⟩,hu⟩
  ·exact yL hu _ ((K.b.ri t ht).hb (λs hs=> .inl hs)) (by rw[ay,hl];exact(K.b.ri t ht).bt)
structure zH (ws:List ah) (B:List Tn) (x y z:Tr):Prop where
  wy:Wy ws B z
  sr:ak B z=b9 B y
  go:b9 B z=b9 B (res B y x)
  ne:z.ne B≤x.ne B
def Pd (b:ox ws ws B) (h:nF ws B p):(p.ev B zr).ne B=0:=by
 induction h with
 | @sign b' h ps hh hp ih=>
  have:ov B (ps.map (Pl.ev B zr))≤0:=uE λu hu=>by
   obtain⟨p,hp,rfl⟩:=aV.mp hu;rw[ih p hp];exact aA _
  have e:=qb b.ti (b.sg h hh);rw[qg,Tr.ne,e];show 0+_=0;lia
 | @turn k b' h ps t e hl b0 b1 hp ih=>
  have ht:t∈B:=aJ e;have:ov B (ps.map (Pl.ev B zr))≤0:=uE λu hu=>by
   obtain⟨p,hp,rfl⟩:=aV.mp hu;rw[ih p hp];exact aA _
  have:=BI b.ti (us:=ps.map (Pl.ev B zr)) t.2.1 (b.lf t ht).hb;rw[p8 e];show(t.2.1.aD _).ne B=0;lia
def Bk3.ak (K:Bk3 ws B) (h:Wy ws B x):Wy ws B (ak B x)∧L2.ak B (ak B x)=L2.ak B x∧(L2.ak B x).ne B=0∧b9 B (L2.ak B x)=L2.ak B x:=by
 obtain⟨p,hp,_,rfl,_⟩:=Bt K.b K.O _ x x (aA _) h h rfl;have e:L2.ak B (p.ev B (nJ 1))=p.ev B zr:=by
  show(p.ev B (nJ 1)).mk B (λt=>t.2.1)=_;rw[xi K.b hp];exact vt hp (sZ 1).ak
 rw[e];refine⟨K.wy hp,?_,Pd K.b hp,?_⟩
 ·show(p.ev B zr).mk B (λt=>t.2.1)=_;rw[xi K.b hp];rfl
 ·show(p.ev B zr).mk B (λt=>t.2.2)=_;rw[zL K.b hp];rfl
def Bk3.b9 (K:Bk3 ws B) (h:Wy ws B x):Wy ws B (b9 B x)∧L2.ak B (L2.b9 B x)=L2.b9 B x∧(L2.b9 B x).ne B=0∧L2.b9 B (L2.b9 B x)=L2.b9 B x:=by
 obtain⟨p,hp,_,rfl,_⟩:=Bt K.b K.O _ x x (aA _) h h rfl;have e:L2.b9 B (p.ev B (nJ 1))=p.ev B (sA (nJ 1)):=zL K.b hp;have tg:∀x,sA (nJ 1) x≠1:=λx=>by unfold sA;split<;>lia
 have s:L2.ak B (p.ev B (sA (nJ 1)))=p.ev B (sA (nJ 1)):=by
  show(p.ev B (sA (nJ 1))).mk B (λt=>t.2.1)=_;rw[xi K.b hp];exact vt hp λb _ _=>by rw[uL,if_neg (tg b)]
 have w:Wy ws B (p.ev B (sA (nJ 1))):=K.wy hp;rw[e];refine⟨w,s,?_,?_⟩
 ·have:=(K.ak w).2.2.1;rwa [s]at this
 ·have:=(K.ak w).2.2.2;rwa [s]at this
def on (B:List Tn):Tr→List Tr→Tr
 |t,[]=>t
 |_,x::xs=>on B (b9 B x) xs
def nN (ws:List ah) (B:List Tn):Tr→List Tr→Prop
 |_,[]=>True
 |t,x::xs=>Wy ws B x∧ak B x=t∧nN ws B (b9 B x) xs
def nR (B:List Tn):List Tr→Nat
 | []=>0
 |x::xs=>x.ne B+nR B xs
noncomputable def qu (B:List Tn):Tr→List Tr→List Tr
 |x,[]=>[x]
 |x,o::os=>x::qu B (res B x o) os
noncomputable def pD (B:List Tn):Tr→List Tr→List Tr
 |_,[]=>[]
 |x,o::os=>res B o x::pD B (res B x o) os
noncomputable def qA (B:List Tn):Tr→List Tr→Tr
 |x,[]=>x
 |x,o::os=>qA B (res B x o) os
noncomputable def vY (B:List Tn):List Tr→List Tr→List (List Tr)
 | [],_=>[]
 |x::xs,os=>qu B x os::vY B xs (pD B x os)
noncomputable def zO (B:List Tn):List Tr→List Tr→List (List Tr)
 | [],os=>[os]
 |x::xs,os=>os::zO B xs (pD B x os)
noncomputable def oI (B:List Tn):List Tr→List Tr→List Tr
 | [],_=>[]
 |x::xs,os=>qA B x os::oI B xs (pD B x os)
noncomputable def UU (B:List Tn):List Tr→List Tr→List Tr
 | [],os=>os
 |x::xs,os=>UU B xs (pD B x os)
theorem L':∀(os:List Tr) (x:Tr),(qu B x os).length=os.length+1
 | [],x=>rfl
 |o::os,x=>by rw[qu,aT,L' os];rfl
theorem Nh:∀(os:List Tr) (x:Tr),(pD B x os).length=os.length
 | [],x=>rfl
 |o::os,x=>by rw[pD,aT,Nh os];rfl
theorem Oi:∀(os:List Tr) (x:Tr),(qu B x os).getLast? =aa (qA B x os)
 | [],x=>rfl
 |o::os,x=>by
  rw[qu,List.getLast?_cons,Oi os,qA];rfl
theorem AC:∀(xs os:List Tr),(oI B xs os).length=xs.length
 | [],os=>rfl
 |x::xs,os=>by rw[oI,aT,AC xs];rfl
theorem Fw{α β:Type}{R:α→β→Prop}:∀{xs:List α}{ys:List β}{xs':List α}{ys':List β},aN R xs ys→aN R xs' ys'→aN R (xs++xs') (ys++ys')
 |_,_,_,_, .nil,h=>h
 |_,_,_,_, .cons h1 h2,h=> .cons h1 (Fw h2 h)
theorem uT{α β:Type}{R R':α→β→Prop}(f:∀x y,R x y→R' x y):∀{xs:List α}{ys:List β},aN R xs ys→aN R' xs ys
 |_,_, .nil=> .nil
 |_,_, .cons h1 h2=> .cons (f _ _ h1) (uT f h2)
mutual
theorem GY:∀(L t:Tr) (ms:List Tr) (p:List Int),L.mt t=aa ms→aN (λ(x:List Int×Tr) m=>∃e,x.1=p++e∧t.at e=aa m) ((L.plt p).filter λx=>x.2.isBl) ms
 | .bl n,t,ms,p,e=>by
  rw[Tr.mt]at e;cases e;rw[Tr.plt];exact .cons ⟨[],by simp,by rw[Tr.at]⟩ .nil
 | .nd s ls, .bl n,ms,p,e=>by rw[Tr.mt]at e;cases e
 | .nd s ls, .nd z us,ms,p,e=>by
  rw[Tr.mt]at e;split at e
  ·rename_i hc;rw[bV,beq_iff_eq,beq_iff_eq]at hc;rw[Tr.plt,jX (by simp [Tr.isBl])];refine uT ?_ (Np ls us ms p 0 hc.2 e);rintro x m ⟨j,e,u,h1,h2,h3⟩;refine⟨(j:Int)::e,by rw[h1,bE],?_⟩
   rw[Tr.at,if_neg (by lia),bb,h2];exact h3
  ·cases e
theorem Np:∀(ls us ms:List Tr) (p:List Int) (i:Nat),ls.length=us.length→nM ls us=aa ms→aN (λ(x:List Int×Tr) m=>∃(j:Nat) (e:List Int) (u:Tr),x.1=p++((i+j:Nat):Int)::e∧us[j]? =aa u∧u.at e=aa m) ((oJ p i ls).filter λx=>x.2.isBl) ms
 | [],us,ms,p,i,hl,e=>by
  rw[nM]at e;cases e;rw[oJ];exact .nil
 |l::ls,[],ms,p,i,hl,e=>by cases hl
 |l::ls,u::us,ms,p,i,hl,e=>by
  rw[nM]at e;cases q1:l.mt u with
  |none=>rw[q1]at e;cases e
  |some xs=>
   rw[q1]at e;cases q2:nM ls us with
   |none=>rw[q2]at e;cases e
   |some zs=>
    rw[q2]at e;cases e;rw[oJ,kH];refine Fw (uT ?_ (GY l u xs _ q1)) (uT ?_ (Np ls us zs p (i+1) (by simpa using hl) q2))
    ·rintro x m ⟨e,h1,h2⟩;exact⟨0,e,u,by rw[h1];simp,rfl,h2⟩
    ·rintro x m ⟨j,e,v,h1,h2,h3⟩;exact⟨j+1,e,v,by rw[h1,show i+1+j=i+(j+1) by lia],by rw[bU];exact h2,h3⟩
end
def FD{L t:Tr}{ms:List Tr}(h:L.mt t=aa ms):aN (λq m=>t.at q=aa m) (L.bls.map λx=>x.1) ms:=by
 have:=GY L t ms [] h;clear h;unfold Tr.bls;generalize (L.plt []).filter (λx=>x.2.isBl)=xs at this⊢
 induction this with
 |nil=>exact .nil
 |cons h1 h2 ih=>
  obtain⟨e,h3,h4⟩:=h1;rw[aC];rw[aX]at h3;exact .cons (by rw[h3];exact h4) ih
def qQ (wn:List (List Int)) (p:List Int):Nat:=wn.countP λq=>p.isPrefixOf q
def J0 (wn:List (List Int)) (p q:List Int):qQ wn (p++q)≤qQ wn p:=by
 unfold qQ;refine List.countP_mono_left λx _ h=>?_;obtain⟨e,rfl⟩:=d7.mp h;exact d7.mpr ⟨q++e,by simp⟩
theorem Kn:∀(wn:List (List Int)) (p:List Int) (i:Int) (q:List Int),p∈wn→qQ wn (p++i::q)+1≤qQ wn p
 |w::wn,p,i,q,h=>by
  unfold qQ;rw[lD,lD];have hs:=J0 wn p (i::q);unfold qQ at hs;obtain rfl |h:=az.mp h
  ·have h1:(p++i::q).isPrefixOf p=false:=by
    rw[Bool.eq_false_iff];intro z;obtain⟨e,z⟩:=d7.mp z;have:=congrArg dU z;simp at this
   have h2:p.isPrefixOf p=true:=d7.mpr ⟨[],by simp⟩
   rw[h1,h2];simp;lia
  ·have ih:=Kn wn p i q h;unfold qQ at ih;have h3:(p++i::q).isPrefixOf w=true→p.isPrefixOf w=true:=λz=>by
    obtain⟨e,rfl⟩:=d7.mp z;exact d7.mpr ⟨i::q++e,by simp⟩
   by_cases z:(p++i::q).isPrefixOf w=true
   ·rw[if_pos z,if_pos (h3 z)];lia
   ·rw[if_neg z];lia
theorem Dg:∀{ts:List Tr},(∀t∈ts,t.ar B)→r9 B ts
 | [],_=>by rw[r9];trivial
 |t::ts,h=>by rw[r9];exact⟨h t (by simp),Dg λu hu=>h u (aI _ hu)⟩
structure Sh (ws:List ah) (B:List Tn) (t:Tr):Prop where
  wy:Wy ws B t
  q:ak B t=t
def Sh.cases (K:Bk3 ws B) (h:Sh ws B t):∃s ts,t= .nd s ts∧s∈ws∧m9 B s=none∧ ∀x∈ts,Sh ws B x:=by
 obtain ⟨s,ts,rfl,hs,e,k⟩ |⟨u,ts,hu,rfl,e,hl,k⟩:=h.wy.cases K.b
 ·have q:=h.q;rw[show ak B (.nd s ts)=_ from qe e]at q;injection q with _ q;refine⟨s,ts,rfl,hs,e,λx hx=>⟨k x hx,?_⟩⟩;obtain⟨i,hi,rfl⟩:=fx hx;have:=congrArg (λl=>l[i]?) q;simp only[aU,aR hi]at this;exact aL this
 ·have q:=h.q;rw[show ak B (.nd u.1 ts)=_ from pY e]at q;obtain⟨s0,l0,e0,_⟩:=K.O.inn u hu;have hb:=(K.b.lf u hu).hb;rw[e0,Tr.hb]at hb;rw[e0,Tr.aD]at q;injection q with q _;exact absurd q (AK hb.1 (K.b.ti u hu))
def Sh.parts (K:Bk3 ws B) (h:Sh ws B t) (hu:u∈B) (e:u.2.1.mt t=aa ms):t=u.2.1.aD ms∧ms.length=u.2.1.nb∧ ∀x∈ms,Sh ws B x:=by
 obtain⟨h1,h2⟩:=K.O.fm u hu _ _ e;refine⟨h1,h2,λx hx=>⟨D5 _ _ _ e h.wy x hx,?_⟩⟩;have q:=h.q;rw[h1,show ak B (u.2.1.aD ms)=_ from Mb K.b hu h2 _]at q;have m1:=K.O.mt u hu ms h2;have m2:=K.O.mt u hu (ms.map (ak B)) (by rw[ay,h2]);rw[show u.2.1.aD (ms.map (ak B))=_ from q,m1]at m2;have q:=aL m2;obtain⟨i,hi,rfl⟩:=fx hx;have:=congrArg (λl=>l[i]?) q;simp only[aU,aR hi]at this;exact(aL this).symm
def wO (B:List Tn) (wn:List (List Int)) (p:List Int) (t:Tr):Prop:=∀q∈wn,∀e v,q=p++e→t.at e=aa v→(o4 B v).isSome=true
def rO{s:ah}{ts:List Tr}{i:Nat}{u:Tr}(h:ts[i]? =aa u) (e:List Int):(Tr.nd s ts).at ((i:Int)::e)=u.at e:=by
 rw[Tr.at,if_neg (by lia),bb,h]
theorem ER (ih:∀(t:Tr) (p:List Int),t.depth≤n→Sh ws B t→wO B wn p t→ ∃u,Wi B wn n p t u∧ak B u=t∧Wy ws B u∧u.ne B≤qQ wn p) :
  ∀{qs:List (List Int)}{ts:List Tr},aN (λq t=>t.depth≤n∧Sh ws B t∧wO B wn (p++q) t∧qQ wn (p++q)≤c) qs ts→ ∃us,pA B wn n p qs ts us∧us.map (ak B)=ts∧(∀u∈us,Wy ws B u)∧ov B us≤c
 |_,_, .nil=>⟨[], .nil,rfl,by simp,by rw[ov];lia⟩
 |_,_, .cons ⟨h1,h2,h3,h4⟩ h=>by
  obtain⟨u,w,e,y,k⟩:=ih _ _ h1 h2 h3;obtain⟨us,ws',es,ys,ks⟩:=ER ih h;refine⟨u::us, .cons w ws',by rw[aC,e,es],λv hv=>?_,by rw[ov];lia⟩
  obtain rfl |hv:=az.mp hv
  ·exact y
  ·exact ys v hv
theorem Fe (K:Bk3 ws B) {wn:List (List Int)}:∀(n:Nat) (t:Tr) (p:List Int),t.depth≤n→Sh ws B t→wO B wn p t→ ∃u,Wi B wn n p t u∧ak B u=t∧Wy ws B u∧u.ne B≤qQ wn p
 |0,t,p,hd,h,_=>by
  obtain⟨s,ts,rfl,_⟩:=h.cases K;rw[Tr.depth]at hd;lia
 |n+1,t,p,hd,h,hw=>by
  obtain⟨s,ts,rfl,hs,e,k⟩:=h.cases K;rw[Tr.depth]at hd;by_cases hp:p∈wn
  ·have ho:=hw p hp [] (.nd s ts) (by simp) (by rw[Tr.at]);obtain⟨u,ho⟩:=dy.mp ho;have hu:u∈B:=bX ho;have hm:(u.2.1.mt (.nd s ts)).isSome=true:=by simpa using eN ho
   obtain⟨ms,hm⟩:=dy.mp hm;obtain⟨f1,f2,f3⟩:=h.parts K hu hm;have ba:=FD hm;have hdm:∀y∈ms,y.depth≤n:=λy hy=>by
    obtain⟨s0,l0,e0,_⟩:=K.O.inn u hu;rw[e0,Tr.mt]at hm;split at hm
    ·have:=B6 _ _ _ hm y hy;lia
    ·cases hm
   have hne:∀q∈u.2.1.bls.map (λx=>x.1),∃i e,q=i::e:=λq hq=>by
    obtain⟨z,hz,rfl⟩:=aV.mp hq;obtain⟨h1,h2,_⟩:=wR hz;cases hq:z.1 with
    |nil=>
     rw[hq,Tr.at]at h1;have h3:u.2.1=z.2:=aL h1;obtain⟨s0,l0,e0,_⟩:=K.O.inn u hu;rw[←h3,e0]at h2;cases h2
    |cons i is=>exact⟨i,is,rfl⟩
   have pr:∀{qs:List (List Int)}{xs:List Tr},(∀q∈qs,∃i e,q=i::e)→(∀x∈xs,x.depth≤n∧Sh ws B x)→aN (λq m=>(Tr.nd s ts).at q=aa m) qs xs→aN (λq t=>t.depth≤n∧Sh ws B t∧wO B wn (p++q) t∧qQ wn (p++q)≤qQ wn p - 1) qs xs:=by
    intro qs xs h1 h2 h3
    induction h3 with
    |nil=>exact .nil
    | @cons q m qs xs h4 _ ih=>
     obtain⟨i,e,rfl⟩:=h1 q (by simp);obtain⟨g1,g2⟩:=h2 m (by simp);refine .cons ⟨g1,g2,λq' hq' e' v' h5 h6=>hw q' hq' (i::e++e') v' (by rw[h5];simp) (by rw[vi _ e' h4];exact h6),?_⟩ (ih (λq hq=>h1 q (aI _ hq)) λx hx=>h2 x (aI _ hx));have:=Kn wn p i e hp;lia
   obtain⟨us,wi,es,ys,ks⟩:=ER (Fe K n) (pr hne (λx hx=>⟨hdm x hx,f3 x hx⟩) ba);have et:=rg K.b.nd hu;have lu:us.length=u.2.1.nb:=by rw[←f2,←es,ay]
   refine⟨.nd u.1 us, .yes hp ho hm et wi,?_,⟨?_,?_⟩,?_⟩
   ·rw[show ak B (.nd u.1 us)=_ from pY et,es,f1]
   ·rw[Tr.hd,mW];exact⟨.inr ⟨u,hu,rfl⟩,λx hx=>(ys x hx).hd⟩
   ·rw[Tr.ar];refine⟨λt ht=>?_,Dg λx hx=>(ys x hx).ar⟩;rw[et]at ht;cases ht;exact lu
   ·rw[Tr.ne,et];have h1:1≤qQ wn p:=by
     unfold qQ;exact List.countP_pos_iff.mpr ⟨p,hp,d7.mpr ⟨[],by simp⟩⟩
    show 1+_≤_;lia
  ·have pr:∀(i:Nat) (xs:List Tr),(∀(j:Nat) x,xs[j]? =aa x→ts[i+j]? =aa x)→aN (λq t=>t.depth≤n∧Sh ws B t∧wO B wn (p++q) t∧qQ wn (p++q)≤qQ wn p) ((f9 i xs.length).map λ(i:Nat)=>[(i:Int)]) xs:=by
    intro i xs
    induction xs generalizing i with
    |nil=>intro _;exact .nil
    |cons x xs ih=>
     intro hx;have hi:=hx 0 x rfl;rw[dL]at hi;have hm:x∈ts:=aJ hi;have hdx:=p5 hm;rw[aT,gP,aC];refine .cons ⟨by lia,k x hm,λq' hq' e' v' h5 h6=>hw q' hq' ((i:Int)::e') v' (by rw[h5];simp) (by rw[rO hi];exact h6),J0 wn p _⟩ (ih (i+1) λj y hy=>?_);have:=hx (j+1) y (by rw[bU];exact hy);rw[show i+1+j=i+(j+1) by lia]
     exact this
   have pr0:=pr 0 ts λj x h=>by rw[bE];exact h
   rw[←gR]at pr0;obtain⟨us,wi,es,ys,ks⟩:=ER (Fe K n) pr0;refine⟨.nd s us, .no hp e wi,?_,⟨?_,?_⟩,?_⟩
   ·rw[show ak B (.nd s us)=_ from qe e,es]
   ·rw[Tr.hd,mW];exact⟨.inl hs,λx hx=>(ys x hx).hd⟩
   ·rw[Tr.ar];exact⟨λt ht=>(by rw[e]at ht;cases ht),Dg λx hx=>(ys x hx).ar⟩
   ·rw[Tr.ne,e];show 0+_≤_;lia
def Br{α:Type}(xs:List α) (x:α):nC (xs++[x]) (-1)=aa x:=by
 unfold nC tK;rw[if_neg (by decide),a_,cw];rw[if_pos (by lia)];show(xs++[x])[_]? =aa x;rw[show((-1+((xs.length+1:Nat):Int)).toNat)=xs.length by lia,List.getElem?_concat_length]
structure At (S0 S:li) (d o b:ai) (xs:List Tr):Prop where
  d:b≠d
  o:b≠o
  e:S b=aa (.bO (xs.map kY))
  z:S0 b=none
def AM (s:Sub S0 S) (h:S q=none):S0 q=none:=by
 cases e:S0 q with
 |none=>rfl
 |some v=>rw[s _ _ e]at h;cases h
def At.sub{S0 S S':li}{d o b:ai}{xs:List Tr}(h:At S0 S d o b xs) (s:Sub S S'):At S0 S' d o b xs:=⟨h.d,h.o,s _ _ h.e,h.z⟩
def At.pd{S0 S:li}{d o b:ai}{xs:List Tr}{v:Ob}(h:At S0 S d o b xs):At S0 (bR S d v) d o b xs:=⟨h.d,h.o,by rw[nO h.d];exact h.e,h.z⟩
def At.po{S0 S:li}{d o b:ai}{xs:List Tr}{v:Ob}(h:At S0 S d o b xs):At S0 (bR S o v) d o b xs:=⟨h.d,h.o,by rw[nO h.o];exact h.e,h.z⟩
abbrev vK (S0 S:li) (d o:ai) (bs:List ai) (xss:List (List Tr)):Prop:=aN (At S0 S d o) bs xss
def Du{α β:Type}{R:α→β→Prop}{xs:List α}{ys:List β}{x:α}{y:β}(h:aN R xs ys) (g:R x y):aN R (xs++[x]) (ys++[y]):=Fw h (.cons g .nil)
def VE{X:ah→li→Prop}(hw:t.aq≤400) (hd:t.depth≤40) (h:Q (kY t) S):sB (r+5) [kY t] S Q X:=by
 rw[show r+5=r+4+1 from rfl,sB];ext;refine Xa (r:=r+3) (by lia) ?_;rw[Em hw hd]
 try ext
 exact⟨_, .refl,h⟩
theorem MW{α β:Type}(f:α→W) (g:β→W):∀(xs:List α) (ys:List β),m4 (xs.map f) (ys.map g)=(xs.zip ys).map λp=> .bW [f p.1,g p.2]
 | [],ys=>by simp [m4]
 |x::xs,[]=>by simp [m4]
 |x::xs,y::ys=>by rw[aC,aC,m4,MW f g xs ys];rfl
theorem L0:∀(os:List Tr) (x:Tr),(os.zip (qu B x os)).map (λp=>res B p.1 p.2)=pD B x os
 | [],x=>rfl
 |o::os,x=>by rw[qu,ii,aC,L0 os,pD]
section
variable {ws:List ah}{B:List Tn}{l2 d o ρ:ai}{r:Nat}{E:WX}{D:mY}{T:WS}{t:Tr}{xs os:List Tr}{S:li}{y0 y1 y2 y3 y4 y5 y6 y7:Option W}
def XG (h:∀d,S d=none→T E D [y0,y1,y2,aa (.ref d),y4,y5,y6,y7] (bR S d (.bO []))):ES r T E D [y0,y1,y2,y3,y4,y5,y6,y7] S:=by
 rw[ES];ext;exact⟨aO _,h⟩
def Qa (hl:S l2=aa (.bO vs)) (h:∀ρ,S ρ=none→T E D [y0,y1,aa (.bW [kY t, .ref l2]),y3,aa (.ref ρ),y5,y6,y7] (bR S ρ (.bO vs))):EB r T E D [y0,y1,aa (.bW [kY t, .ref l2]),y3,y4,y5,y6,y7] S:=by
 rw[EB];ext;show n9 S l2 λws=>∀ρ,S ρ=none→T E D [y0,y1,aa (.bW [kY t, .ref l2]),y3,aa (.ref ρ),y5,y6,y7] (bR S ρ (.bO ws));rw[m8 hl];exact h
def P_ (h:∀o,S o=none→T E D [y0,y1,y2,y3,aa (.ref ρ),aa (.ref o),y6,y7] (bR S o (.bO [.ref ρ]))):DZ r T E D [y0,y1,y2,y3,aa (.ref ρ),y5,y6,y7] S:=by
 rw[DZ];ext;exact⟨by decide,h⟩
def Ss (hd:S d=aa (.bO vs)) (hn:vs.length≤1000) (h:T E D [y0,y1,y2,aa (.ref d),y4,y5,y6,aa (.ref q)] (bR S d (.bO (vs++[.ref q])))) :
  Fu r T E D [y0,y1,y2,aa (.ref d),y4,y5,y6,aa (.ref q)] S:=by
 rw[Fu];ext;rw[m8 hd,m8 hd];exact⟨trivial,qC (by lia),h⟩
def XY (hd:S o=aa (.bO vs)) (hn:vs.length≤1000) (h:D.nx [y0,y1,y2,y3,aa (.ref ρ),aa (.ref o),y6,y7] (bR S o (.bO (vs++[.ref ρ])))) :
  C5 r E D [y0,y1,y2,y3,aa (.ref ρ),aa (.ref o),y6,y7] S:=by
 rw[C5];ext;rw[m8 hd,m8 hd];exact⟨trivial,qC (by lia),h⟩
structure Q2 (S0 S:li) (B:List Tn) (xs os:List Tr) (d o:ai):Prop where
  sub:Sub S0 S
  d0:S0 d=none
  o0:S0 o=none
  ne:d≠o
  ex:∃ds rs,S d=aa (.bO (ds.map W.ref))∧S o=aa (.bO (rs.map W.ref))∧vK S0 S d o ds (vY B xs os)∧vK S0 S d o rs (zO B xs os)
end
def yx (B:List Tn) (t:Tr):List (List Int):=(t.op B []).map λx=>x.1
def Sh.hdT (h:Sh ws B t):t.hd λ_=>True:=vR (λ_ _=>trivial) _ h.wy.hd
def Sh.wn{ws:List ah}{B:List Tn}{t:Tr}(h:Sh ws B t) {wn:List (List Int)}(hw:∀q∈wn,q∈yx B t):wO B wn [] t:=by
 intro q hq e v he hv;rw[aX]at he;subst he;obtain⟨x,hx,rfl⟩:=aV.mp (hw q hq);rw[←B9 B t [] (ul _ h.hdT)]at hx;obtain⟨y,hy,hx⟩:=dX.mp hx;unfold sY at hx;obtain⟨u,hu,rfl⟩:=aV.mp hx;have:=(LR hy).1;rw[this]at hv;cases hv;cases e:o4 B y.2 with
 |none=>rw[e]at hu;cases hu
 |some _=>rfl
section
variable {B:List Tn}{t:Tr}{xs:List Tr}
theorem KY:∀(xs:List Tr) (t u:Tr),on B t (xs++[u])=b9 B u
 | [],t,u=>rfl
 |x::xs,t,u=>KY xs (b9 B x) u
end
theorem K6{α β:Type}{R:α→β→Prop}:∀{xs:List α}{ys:List β},aN R xs ys→ ∃zs:List (α×β),zs.map (λz=>z.1)=xs∧zs.map (λz=>z.2)=ys∧ ∀z∈zs,R z.1 z.2
 |_,_, .nil=>⟨[],rfl,rfl,by simp⟩
 |_,_, .cons h1 h2=>by
  obtain⟨zs,e1,e2,h3⟩:=K6 h2;exact⟨(_,_)::zs,by rw[aC,e1],by rw[aC,e2],λz hz=>by
   obtain rfl |hz:=az.mp hz
   ·exact h1
   ·exact h3 z hz⟩
theorem MM{α β γ:Type}{R:α→β→Prop}{R':β→γ→Prop}:∀{xs:List α}{ys:List β}{zs:List γ},aN R xs ys→aN R' ys zs→aN (λx z=>∃y,R x y∧R' y z) xs zs
 |_,_,_, .nil, .nil=> .nil
 |_,_,_, .cons h1 h2, .cons g1 g2=> .cons ⟨_,h1,g1⟩ (MM h2 g2)
def O8 (os:List Tr) (x:Tr):∃l,qu B x os=l++[qA B x os]:=by
 have:=Oi (B:=B) os x;rw[List.getLast?_eq_some_iff]at this;exact this
theorem Lh:∀(xs os:List Tr),aN (λline u=>∃l,line=l++[u]) (vY B xs os) (oI B xs os)
 | [],os=> .nil
 |x::xs,os=> .cons (O8 os x) (Lh xs _)
theorem He:∀(os:List Tr) (x:Tr) (xs:List Tr),oI B os (x::xs)=oI B (pD B x os) xs
 | [],x,xs=>by rw[oI,pD,oI]
 |o::os,x,xs=>by rw[oI,pD,pD,qA,oI,He os]
theorem OA:∀(os:List Tr),oI B os []=os
 | []=>by rw[oI]
 |o::os=>by rw[oI,pD,qA,OA os]
section
variable {B:List Tn}{l d o:ai}{r:Nat}{xs os:List Tr}{S:li}{Q:WK}{X:ah→li→Prop}
def L9 (hd:S d=aa (.bO (ds.map W.ref))) (hn:xs.length≤700) (AD:vK S0 S d o ds (vY B xs os)) (h:∀q,S q=none→Q (.ref q) (bR S q (.bO ((oI B xs os).map kY)))):yh (r+1) [.bW [.ref d, .ref o]] S Q X:=by
 obtain⟨zs,e1,e2,h3⟩:=K6 (MM AD (Lh xs os));rw[yh];ext;rw[m8 hd];have e3:ds.map W.ref=zs.map λz=>W.ref z.1:=by rw[←e1,bu];rfl
 have hz:zs.length=xs.length:=by rw[←AC (B:=B) xs os,←e2,ay]
 rw[e3];refine p9 (λσ=>∃y,σ=[y]) (λz:ai×Tr=>W.ref z.1) (λz=>kY z.2) (by rw[←e3];exact hd) zs [] _ ⟨none,rfl⟩ (by simp;lia) (λz hz σ R hI hR=>?_) ?_
 ·obtain⟨y,rfl⟩:=hI;obtain⟨line,A,l,rfl⟩:=h3 z hz;rw[Hy];ext;have Ae:=A.e;rw[bM]at Ae;rw[m8 Ae,show [z.2].map kY=[kY z.2] from rfl,Br];exact hR _ _ ⟨_,rfl⟩ .refl
 ·intro q hq;have:=h q hq;rw[←e2,bu]at this;exact⟨_, .refl,this⟩
end
mutual
def Tr.wd:Tr→Prop
 | .bl _=>True
 | .nd _ ts=>ts.length≤1000∧uO ts
def uO:List Tr→Prop
 | []=>True
 |t::ts=>t.wd∧uO ts
end
theorem qw:∀{ts:List Tr},uO ts↔ ∀t∈ts,t.wd
 | []=>by simp [uO]
 |t::ts=>by simp [uO,qw (ts:=ts)]
def Vx{t:Tr}(h:t.wd):t.dI.length≤1000:=by
 cases t with
 |bl n=>simp [Tr.dI]
 |nd s ts=>simpa [Tr.dI]using h.1
def Xv{ts:List Tr}(h:∀x∈ts,x.wd):∀x∈ts.flatMap Tr.dI,x.wd:=λx hx=>by
 obtain⟨t,ht,hk⟩:=dX.mp hx;have:=h t ht;cases t with
 |bl n=>simp [Tr.dI]at hk
 |nd s us=>exact qw.mp this.2 x (by simpa [Tr.dI]using hk)
theorem LH (hba:b≠a):∀(ts:List Tr) {S:li}{us:List Tr}{x2:Option W},S a=aa (.bO (af us))→S b=aa (.bO ps)→(∀t∈ts,t.dI.length≤1000)→us.length+1000*ts.length≤500000→
  (∀x2,D.nx [x0,aa (.ref a),x2] (bR S a (.bO (af (us++ts.flatMap Tr.dI)))))→
  mO (mx 2) (yE (r+1) mH) E D (λS'=>S' b=aa (.bO ps)) (af ts) [x0,aa (.ref a),x2] S
 | [],S,us,x2,ha,hb,hA,hl,h=>by
  have:=h x2;simp only[da,bg,sH ha]at this;simpa [af,mO]using this
 |t::ts,S,us,x2,ha,hb,hA,hl,h=>by
  simp only[aT]at hl;have hk:=hA t aK;simp only[af];refine pT λN hN=>?_;simp only[yE];ext;simp only[m8 ha,true_and];refine yG ?_;ext;rw[m8 ha];refine⟨m7 (by rw[pH,pH];lia),hN _ _ _ .refl (by rw[nO hba];exact hb) ?_⟩;rw[←xA];refine LH hba ts mR (by rw[nO hba];exact hb) (λu hu=>hA u (aI _ hu)) (by rw[a_];lia) λx2=>?_;rw[pN];have:=h x2;rw[cq,←bD]at this;exact this
def W8{E:ah→li→Prop}(hb:S b=aa (.bO (af ts))) (hA:∀t∈ts,t.dI.length≤1000) (hw:ts.length≤400) (h:∀a,S a=none→Q (.ref a) (bR S a (.bO (af (ts.flatMap Tr.dI))))):xQ (r+2) [.ref b] S Q E:=by
 rw[xQ];ext;refine⟨aO _,λa ha=>?_⟩;have hba:=Bd hb ha;rw[m8 (keep hb ha)];refine LH (us:=[]) hba ts (by simp [mR,af]) (keep hb ha) hA (by simp;lia) λx2=>?_;rw[pN];ext;exact⟨_, .refl,h a ha⟩
def E1{t:Tr}{r:Nat}{S:li}{Q:WK}{E:ah→li→Prop}(hA:t.wd) (h:Q (.bl t.bo) S):wF (r+3) [kY t] S Q E:=by
 rw[wF];ext;refine⟨m7 (by decide),λa ha=>?_⟩;refine⟨λm σ S'=>∃(ts:List Tr) (k d:Nat) (b:ai),m=mJ ts∧(∀x∈ts,x.wd)∧k+mJ ts=t.aq∧d+m_ ts=t.depth∧k≤400∧d≤40∧S b=none∧S'=bR S b (.bO (af ts))∧σ=[aa (kY t),aa (.int k),aa (.int d),aa (.ref b)],⟨_,[t],0,0,a,rfl,(λx hx=>by rw[bi.mp hx];exact hA),by simp [mJ],by simp [m_],by decide,by decide,ha,by simp [af],rfl⟩,?_⟩
 rintro m σ S' ⟨ts,k,d,b,rfl,hds,hwt,hk,hk4,hd4,hb,rfl,rfl⟩;ext;cases ts with
 |nil=>
  simp only[af,jH];ext;simp only[m_,mJ,dL]at hk hwt;have e:t.bo=true:=by unfold Tr.bo;rw[decide_eq_true (by lia),decide_eq_true (by lia)];rfl
  rw[e]at h;exact⟨_, .bR .refl hb,h⟩
 |cons u us=>
  have hne:(af (u::us)).isEmpty=false:=by simp [af]
  rw[hne];have hfl:=Fx (u::us);have hdf:=DT (ts:=u::us) (by simp);have hlw:=qF (u::us);simp only[DN];ext;rw[pH];have no:400<t.aq∨40<t.depth→ ∃S'',Sub S'' (bR S b (Ob.bO (af (u::us))))∧Q (W.bl false) S'':=λz=>by
   have e:t.bo=false:=by
    unfold Tr.bo;obtain z |z:=z
    ·rw[decide_eq_false (by lia)];rfl
    ·rw[decide_eq_false (p:=t.depth≤40) (by lia),gb]
   rw[e]at h;exact⟨_, .bR .refl hb,h⟩
  split
  ·exact no (.inl (by lia))
  ·split
   ·exact no (.inr (by lia))
   ·refine W8 mR (λx hx=>Vx (hds x hx)) (by lia) λc hc=>?_;obtain⟨hc1,hc2⟩:=rh hc;refine⟨mJ ((u::us).flatMap Tr.dI),bR S c (.bO (af ((u::us).flatMap Tr.dI))),by simp only[aT]at hfl;lia, .put2 (.bR .refl hb),_,k+(u::us).length,d+1,c,rfl,Xv hds,by lia,by lia,by lia,by lia,hc1,rfl,?_⟩
    push_cast
    rfl
structure pF (g:Tn→Tr) (B:List Tn):Prop where
  bt:∀t∈B,(g t).bt t.2.1.nb
  dp:∀t∈B,(g t).depth≤4
  wt:∀t∈B,(g t).aq≤20
section
variable {S:li}{a:ai}{B:List Tn}{n:Int}
theorem EO (ha:S a=aa (.bO (B.map mK))) (hn:n=1∨n=2) (hg:pF (oh n) B):∀(d:Nat) {t:Tr}{r:Nat}{Q:WK}{E:ah→li→Prop},t.depth≤d→d+10≤r→t.ar B→t.aq≤1000→Q (kY (t.mk B (oh n))) S→wI (r+1) [.ref a,kY t, .int n] S Q E
 |0,t,r,Q,E,hd,hr,hh,hw,h=>by have:=qB t;lia
 |d+1, .bl k,r,Q,E,hd,hr,hh,hw,h=>by simp [Tr.ar]at hh
 |d+1, .nd s ts,r,Q,E,hd,hr,hh,hw,h=>by
  simp only[Tr.depth]at hd;simp only[Tr.aq]at hw;simp only[Tr.ar]at hh;have hk:=qF ts;obtain⟨r,rfl⟩:∃r',r=r'+1:=⟨r - 1,by lia⟩
  rw[wI];simp only[kY];ext;rw[o5];refine p9 (λσ=>∃x,σ=[x,aa (.ref a),aa (.int n)]) kY (λt=>kY (t.mk B (oh n))) trivial ts [] _ ⟨none,rfl⟩ (by simp;lia) (λx hx σ R hI hR=>?_) ?_
  ·obtain⟨y,rfl⟩:=hI;have hdx:=p5 hx;have hwx:=pf hx;simp only[Js];ext;exact EO ha hn hg d (by lia) (by lia) (oA.mp hh.2 x hx) (by lia) (hR _ _ ⟨_,rfl⟩ .refl)
  ·rw[aX];intro q hq;have eu:(ts.map λt=>kY (t.mk B (oh n)))=af (ts.map (Tr.mk B (oh n))):=by rw[o5,bu];rfl
   rw[eu];have fq:bR S q (Ob.bO (af (ts.map (Tr.mk B (oh n))))) q=aa (.bO (af (ts.map (Tr.mk B (oh n))))):=mR;have fa:=keep (x:=Ob.bO (af (ts.map (Tr.mk B (oh n))))) ha hq;have sub:Sub S (bR S q (Ob.bO (af (ts.map (Tr.mk B (oh n)))))):= .bR .refl hq;generalize bR S q (Ob.bO (af (ts.map (Tr.mk B (oh n)))))=S1 at fq fa sub⊢;refine xH fa ?_;cases e:m9 B s with
   |none=>
    rw[B7 e]at h;simp only[oH]
    try ext
    try rw[m8 fq]
    rw[pH,ay];simp only[kY]at h;exact⟨m7 (by decide),m7 (by lia),_,sub,h⟩
   |some t=>
    have ht:t∈B:=bX e;have ee:oH (aa t)= .bW [.str t.1,kY t.2.1,kY t.2.2]:=rfl;rw[BF e]at h;rw[ee]
    try ext
    rw[KI t hn];dsimp only;have hgw:=hg.wt t ht;exact C_ 4 (hg.dp t ht) (by lia) fq (by rw[ay,hh.1 t e];exact hg.bt t ht) (by lia) ⟨_,sub,h⟩
def TF{E:ah→li→Prop}(ha:S a=aa (.bO (B.map mK))) (hg:pF (oh 1) B) (hd:t.depth≤40) (hr:60≤r) (hh:t.ar B) (hw:t.aq≤1000) (hwd:(t.mk B (oh 1)).wd)
  (h1:(t.mk B (oh 1)).bo=true→Q (kY (t.mk B (oh 1))) S) (h2:(t.mk B (oh 1)).bo=false→E "TooGreat" S):Cc (r+1) [.ref a,kY t] S Q E:=by
 obtain⟨r,rfl⟩:∃r',r=r'+5:=⟨r - 5,by lia⟩
 rw[Cc];ext;refine EO ha (.inl rfl) hg 40 (r:=r+4) hd (by lia) hh hw ?_;rw[sB];ext;refine E1 (r:=r+1) hwd ?_;cases e:(t.mk B (oh 1)).bo with
 |true=>
  try ext
  exact⟨_, .refl,_, .refl,h1 e⟩
 |false=>
  try ext
  try rw[Dy]
  try ext
  exact⟨m7 (by decide),h2 e⟩
def Hx{E:ah→li→Prop}(ha:S a=aa (.bO (B.map mK))) (hg:pF (oh 2) B) (hd:t.depth≤40) (hr:60≤r) (hh:t.ar B) (hw:t.aq≤1000) (hwd:(t.mk B (oh 2)).wd)
  (h1:(t.mk B (oh 2)).bo=true→Q (kY (t.mk B (oh 2))) S) (h2:(t.mk B (oh 2)).bo=false→E "TooGreat" S):t8 (r+1) [.ref a,kY t] S Q E:=by
 obtain⟨r,rfl⟩:∃r',r=r'+5:=⟨r - 5,by lia⟩
 rw[t8];ext;refine EO ha (.inr rfl) hg 40 (r:=r+4) hd (by lia) hh hw ?_;rw[sB];ext;refine E1 (r:=r+1) hwd ?_;cases e:(t.mk B (oh 2)).bo with
 |true=>
  try ext
  exact⟨_, .refl,_, .refl,h1 e⟩
 |false=>
  try ext
  try rw[Dy]
  try ext
  exact⟨m7 (by decide),h2 e⟩
end
theorem JC (us:List Tr):∀ts:List Tr,aF us ts=ts.map (Tr.aD us)
 | []=>by simp [aF]
 |t::ts=>by rw[aF,JC us ts];rfl
def Gv (t:Tr):t.bo=false↔((400:Int)<t.aq∨(40:Int)<t.depth):=by
 unfold Tr.bo;rw[Bool.and_eq_false_iff,decide_eq_false_iff_not,decide_eq_false_iff_not];lia
def stk (x:Tr):List ah→Tr
 | []=>x
 |h::hs=> .nd h [stk x hs]
mutual
theorem N4 (hu:∀u∈us,u.wd):∀t:Tr,t.aq≤1000→(t.aD us).wd
 | .bl n,h=>by
  rw[Tr.aD,bv];cases e:us[n.toNat]? with
  |none=>exact trivial
  |some u=>exact hu u (aJ e)
 | .nd s ts,h=>by
  rw[Tr.aq]at h;have:=qF ts;rw[Tr.aD];refine⟨?_,HX hu ts (by lia)⟩;rw[JC,ay];lia
theorem HX (hu:∀u∈us,u.wd):∀ts:List Tr,mJ ts≤1000→uO (aF us ts)
 | [],h=>by rw[aF];exact trivial
 |t::ts,h=>by
  rw[mJ]at h;rw[aF];exact⟨N4 hu t (by lia),HX hu ts (by lia)⟩
end
mutual
theorem Bk{g:Tn→Tr}(hg:∀t∈B,(g t).aq≤1000):∀t:Tr,t.aq≤1000→(t.mk B g).wd
 | .bl n,h=>by rw[Tr.mk];exact trivial
 | .nd s ts,h=>by
  rw[Tr.aq]at h;have hl:=qF ts;have ih:=GV hg ts (by lia);rw[wS]at ih;cases e:m9 B s with
  |none=>
   rw[B7 e];exact⟨by rw[ay];lia,ih⟩
  |some u=>
   rw[BF e];exact N4 (qw.mp ih) _ (hg u (bX e))
theorem GV{g:Tn→Tr}(hg:∀t∈B,(g t).aq≤1000):∀ts:List Tr,mJ ts≤1000→uO (rp B g ts)
 | [],h=>by rw[rp];exact trivial
 |t::ts,h=>by
  rw[mJ]at h;rw[rp];exact⟨Bk hg t (by lia),GV hg ts (by lia)⟩
end
theorem Fq{f:Tr→Tr}:∀as:List Tr,(∀x∈as,x.aq≤(f x).aq)→mJ as≤mJ (as.map f)
 | [],h=>by simp [mJ]
 |x::as,h=>by
  have:=Fq as λy hy=>h y (aI _ hy);have:=h x aK;rw[aC,mJ,mJ];lia
theorem EA{f:Tr→Tr}:∀as:List Tr,(∀x∈as,x.depth≤(f x).depth)→m_ as≤m_ (as.map f)
 | [],h=>by simp [m_]
 |x::as,h=>by
  have:=EA as λy hy=>h y (aI _ hy);have:=h x aK;rw[aC,m_,m_];lia
section
theorem A6 (K:Bk3 ws B):∀(n:Nat) (x:Tr),x.aq≤n→Wy ws B x→x.aq≤(ak B x).aq∧x.depth≤(ak B x).depth
 |0,x,hn,h=>by have:=rN x;lia
 |n+1,x,hn,h=>by
  obtain ⟨s,as,rfl,hs,e,hk⟩ |⟨t,as,ht,rfl,e,hl,hk⟩:=h.cases K.b
  ·rw[Tr.aq]at hn;have ih:∀y∈as,y.aq≤(ak B y).aq∧y.depth≤(ak B y).depth:=λy hy=>A6 K n y (by have:=pf hy;lia) (hk y hy);have h1:=Fq (f:=ak B) as λy hy=>(ih y hy).1;have h2:=EA (f:=ak B) as λy hy=>(ih y hy).2;show _≤(Tr.mk B _ (Tr.nd s as)).aq∧_≤(Tr.mk B _ (Tr.nd s as)).depth;rw[qe e,Tr.aq,Tr.aq,Tr.depth,Tr.depth];exact⟨gL h1 1,gL h2 1⟩
  ·rw[Tr.aq]at hn;have ih:∀y∈as,y.aq≤(ak B y).aq∧y.depth≤(ak B y).depth:=λy hy=>A6 K n y (by have:=pf hy;lia) (hk y hy);have h1:=Fq (f:=ak B) as λy hy=>(ih y hy).1;have h2:=EA (f:=ak B) as λy hy=>(ih y hy).2;obtain⟨_,g1,g2⟩:=K.O.aD ht (us:=as.map (ak B)) (by rw[ay,hl]);show _≤(Tr.mk B _ (Tr.nd t.1 as)).aq∧_≤(Tr.mk B _ (Tr.nd t.1 as)).depth;rw[pY e,Tr.aq,Tr.depth];exact⟨aY (gL h1 1) g1,aY (gL h2 1) g2⟩
def sW (B:List Tn) (wn:List (List Int)) (p:List Int) (t:Tr):Prop:=∀e v,t.at e=aa v→(p++e∈wn↔(o4 B v).isSome=true)
theorem D1 (ih:∀{t u:Tr}{p:List Int},Wi B wn n p t u→Sh ws B t→sW B wn p t→u.us B p=t.op B p):∀{qs:List (List Int)}{ts us:List Tr},pA B wn n p qs ts us→aN (λq t=>Sh ws B t∧sW B wn (p++q) t) qs ts→vH B p qs us=tW B p qs ts
 |_,_,_, .nil,_=>rfl
 |_,_,_, .cons a b,h=>by
  cases h with
  |cons c d=>
   simp only[vH,tW];rw[ih a c.1 c.2,D1 ih b d]
theorem FG (b:mF w0 w1 w2 w3 w4 w5 tt B) (G:nU w0 w1 w2 w3 w4 w5) (K:Bk3 ws B):∀(n:Nat) {t u:Tr}{p:List Int},Wi B wn n p t u→Sh ws B t→sW B wn p t→u.us B p=t.op B p
 |0,t,u,p,W,h,hw=>nomatch W
 |n+1,t,u,p,W,h,hw=>by
  have at0:∀(s:ah) (ts:List Tr),(Tr.nd s ts).at []=aa (.nd s ts):=λs ts=>by rw[Tr.at]
  cases W with
  | @no _ _ s ts us hp e W=>
   have ho:o4 B (.nd s ts)=none:=by
    cases k:o4 B (.nd s ts) with
    |none=>rfl
    |some v=>
     have:=(hw [] _ (at0 s ts)).mpr (by rw[k];rfl);rw[bg]at this;exact absurd this hp
   obtain⟨s',ts',e0,hs,_,k⟩:=h.cases K;cases e0;have pr:∀(i:Nat) (xs:List Tr),(∀(j:Nat) x,xs[j]? =aa x→ts[i+j]? =aa x)→aN (λq t=>Sh ws B t∧sW B wn (p++q) t) ((f9 i xs.length).map λ(i:Nat)=>[(i:Int)]) xs:=by
    intro i xs
    induction xs generalizing i with
    |nil=>intro _;exact .nil
    |cons x xs ih=>
     intro hx;have hi:=hx 0 x rfl;rw[dL]at hi;have hm:x∈ts:=aJ hi;rw[aT,gP,aC];refine .cons ⟨k x hm,λe' v' h6=>?_⟩ (ih (i+1) λj y hy=>?_)
     ·have:=hw ((i:Int)::e') v' (by rw[rO hi];exact h6);rw[bD];exact this
     ·have:=hx (j+1) y (by rw[bU];exact hy);rw[show i+1+j=i+(j+1) by lia]
      exact this
   have pr0:=pr 0 ts λj x h=>by rw[bE];exact h
   have wl:us.length=ts.length:=W.len;rw[Xd e,wl,Tr.op,ho];show vH B p _ us=[]++pB B p 0 ts;rw[aX,La,gR];rw[gR]at W;exact D1 (FG b G K n) W pr0
  | @yes _ _ s ts us ms u hp ho hm et W=>
   have hu:u∈B:=bX ho;obtain⟨f1,f2,f3⟩:=h.parts K hu hm;have pr:∀{qs:List (List Int)}{xs:List Tr},(∀x∈xs,Sh ws B x)→aN (λq m=>(Tr.nd s ts).at q=aa m) qs xs→aN (λq t=>Sh ws B t∧sW B wn (p++q) t) qs xs:=by
    intro qs xs h2 h3
    induction h3 with
    |nil=>exact .nil
    | @cons q m qs xs h4 _ ih=>
     refine .cons ⟨h2 m (by simp),λe' v' h6=>?_⟩ (ih λx hx=>h2 x (aI _ hx));have:=hw (q++e') v' (by rw[vi _ e' h4];exact h6);rw[bD];exact this
   have z:=D1 (FG b G K n) W (pr f3 (FD hm));rw[Vg et,z,Tr.op,ho];show _=[(p,u.1)]++pB B p 0 ts;rw[List.singleton_append];congr 1;obtain⟨m,hL⟩:=b.mem_lefts hu;have o2:∀xs,o4 B (.nd w2 xs)=none:=λxs=>b.open_none (G.n0 w2 (by simp)) (G.n1 w2 (by simp));have o3:∀xs,o4 B (.nd w3 xs)=none:=λxs=>b.open_none (G.n0 w3 (by simp)) (G.n1 w3 (by simp));obtain hL |hL:=hL
   ·obtain⟨ks,ek⟩:=vd hL;have:=Nk hL o2 o3 f2 ek p;rw[ek,Tr.aD]at f1;injection f1 with _ f1;rw[f1];exact this.symm
   ·obtain⟨ks,ek⟩:=vd hL;have:=Nk hL o2 o3 f2 ek p;rw[ek,Tr.aD]at f1;injection f1 with _ f1;rw[f1];exact this.symm
def Sh.all (h:Sh ws B t):sW B (yx B t) [] t:=λe v hv=>by
 have ft:=ul (m:=0) _ h.hdT;rw[aX];constructor
 ·intro he;exact h.wn (λq hq=>hq) e he e v (by simp) hv
 ·intro ho;obtain⟨u,ho⟩:=dy.mp ho;have m:=CI t [] e v hv;rw[aX]at m;unfold yx;rw[←B9 B t [] ft];refine aV.mpr ⟨(e,u.1),dX.mpr ⟨(e,v),m,?_⟩,rfl⟩;unfold sY;rw[ho];simp
structure AW (ws:List ah) (B:List Tn) (t u:Tr):Prop where
  wi:Wi B (yx B t) t.depth [] t u
  sr:ak B u=t
  wy:Wy ws B u
  us:u.us B []=t.op B []
def Sf (b:mF w0 w1 w2 w3 w4 w5 tt B) (G:nU w0 w1 w2 w3 w4 w5) (K:Bk3 ws B) (h:Sh ws B t):∃u,AW ws B t u:=by
 obtain⟨u,wi,e,y,_⟩:=Fe K t.depth t [] (aA _) h (h.wn λq hq=>hq);exact⟨u,wi,e,y,FG b G K _ wi h h.all⟩
open Classical in
noncomputable def fw (ws:List ah) (B:List Tn) (t:Tr):Tr:=if h:∃u,AW ws B t u then choose h else t
def w9 (b:mF w0 w1 w2 w3 w4 w5 tt B) (G:nU w0 w1 w2 w3 w4 w5) (K:Bk3 ws B) (h:Sh ws B t):AW ws B t (fw ws B t):=by
 have e:=Sf b G K h;unfold fw;rw[dif_pos e];exact kc e
noncomputable def hh (ws:List ah) (B:List Tn) (t:Tr):Nat→Tr
 |0=>t
 |k+1=>b9 B (fw ws B (hh ws B t k))
noncomputable def wys (ws:List ah) (B:List Tn) (t:Tr) (k:Nat):List Tr:=(bx k).map λi=>fw ws B (hh ws B t i)
def Go (ws:List ah) (B:List Tn) (t:Tr) (l:Nat) (i:Nat):Prop:=i<l∧(hh ws B t i).op B []≠ []∧(hh ws B t (i+1)).bo=true
def Jg (ws:List ah) (B:List Tn) (t:Tr) (l:Nat) (k:Nat) (z:Bool):Prop:=(∀i,i<k→Go ws B t l i)∧match z with
 |false=>l≤k∨(hh ws B t k).op B []=[]
 |true=>k<l∧(hh ws B t k).op B []≠ []∧(hh ws B t (k+1)).bo=false
theorem yj (b:mF w0 w1 w2 w3 w4 w5 tt B) (G:nU w0 w1 w2 w3 w4 w5) (K:Bk3 ws B) (h:Sh ws B t):∀k,Sh ws B (hh ws B t k)
 |0=>h
 |k+1=>by
  have f:=w9 b G K (yj b G K h k);obtain⟨g1,g2,_,_⟩:=K.b9 f.wy;exact⟨g1,g2⟩
def XQ (h0:t.bo=true) (h:∀i,i<k→Go ws B t l i):(hh ws B t k).bo=true:=by
 cases k with
 |zero=>exact h0
 |succ k=>exact(h k (by lia)).2.2
def Ih (k:Nat):wys ws B t (k+1)=wys ws B t k++[fw ws B (hh ws B t k)]:=by
 unfold wys;rw[g9,bM];rfl
def Ny (k:Nat):(wys ws B t k).length=k:=by
 unfold wys;rw[ay,kz]
end
def Zb (h:Sub (bR S a x) S1):Sub (bR S a y) (bR S1 a y):=λb o e=>by
 by_cases z:b=a
 ·subst z;rw[mR]at e⊢;exact e
 ·rw[nO z]at e⊢;exact h b o (by rw[nO z];exact e)
def qS{t:Tr}(h:t.bo=true):t.aq≤400∧t.depth≤40:=by
 have no:¬t.bo=false:=by rw[h];simp
 constructor
 ·obtain z |z:=gK 400 t.aq
  ·exact absurd ((Gv t).mpr (.inl (by lia))) no
  ·exact z
 ·obtain z |z:=gK 40 t.depth
  ·exact absurd ((Gv t).mpr (.inr (by lia))) no
  ·exact z
structure mZ (w0 w1 w2 w3 w4 w5:ah) (tt:List ah) (B:List Tn):Prop where
  b:mF w0 w1 w2 w3 w4 w5 tt B
  T:pG tt
  G:nU w0 w1 w2 w3 w4 w5
structure UJ (ws:List ah) (B:List Tn) (x u:Tr):Prop where
  f:AW ws B x u
  wt:u.aq≤400
  dp:u.depth≤40
  ar:u.ar B
  hd:u.hd λ_=>True
  wd:(u.mk B (oh 2)).wd
section
variable {w0 w1 w2 w3 w4 w5:ah}{tt:List ah}{B:List Tn}{t:Tr}{S:li}{a:ai}{r:Nat}{Q:WK}{E:ah→li→Prop}
def mZ.bk (c:mZ w0 w1 w2 w3 w4 w5 tt B):ox [w0,w1,w2,w3,w4,w5] [w2,w3,w4,w5] B:=c.b.bk c.T c.G
def mF.bk3 (b:mF w0 w1 w2 w3 w4 w5 tt B) (T:pG tt) (G:nU w0 w1 w2 w3 w4 w5):Bk3 [w0,w1,w2,w3,w4,w5] B:=by
 have k:=b.bk T G;refine⟨⟨k.ti,k.nd,k.sg,λx hx=>hx,k.lf,k.ri⟩,b.ort G,λt ht=>?_⟩;obtain⟨n,z |z⟩:=b.mem_lefts ht
 ·exact(Cy (P:=λs=>s∈ [w0,w1,w2,w3,w4,w5]) (by simp) (by simp) (by simp) _ z).hb
 ·exact(Cy (P:=λs=>s∈ [w0,w1,w2,w3,w4,w5]) (by simp) (by simp) (by simp) _ z).hb
def mZ.K (c:mZ w0 w1 w2 w3 w4 w5 tt B):Bk3 [w0,w1,w2,w3,w4,w5] B:=c.b.bk3 c.T c.G
def mZ.L (c:mZ w0 w1 w2 w3 w4 w5 tt B):rz B:=⟨λt ht=>(c.bk.lf t ht).dp,λt ht=>by
 have h1:=(c.bk.lf t ht).wt;have h2:=(c.bk.lf t ht).nb;lia⟩
def mZ.P (c:mZ w0 w1 w2 w3 w4 w5 tt B):PB B:=λt ht x hx=>by
 have h1:=(wR hx).2.2;have h2:=c.L.d t ht;lia
def mZ.g2 (c:mZ w0 w1 w2 w3 w4 w5 tt B):pF (oh 2) B:=⟨λt ht=>(c.b.ri t ht).bt,λt ht=>(c.b.ri t ht).dp,λt ht=>aY (c.b.ri t ht).wt (by decide)⟩
def mZ.way (c:mZ w0 w1 w2 w3 w4 w5 tt B) (h:Sh [w0,w1,w2,w3,w4,w5] B x) (hs:x.bo=true):UJ [w0,w1,w2,w3,w4,w5] B x (fw [w0,w1,w2,w3,w4,w5] B x):=by
 have f:=w9 c.b c.G c.K h;obtain⟨h1,h2⟩:=A6 c.K _ _ (aA _) f.wy;rw[f.sr]at h1 h2;obtain⟨h3,h4⟩:=qS hs;exact⟨f,by lia,by lia,f.wy.ar,vR (λ_ _=>trivial) _ f.wy.hd,Bk (λt ht=>aY (c.g2.wt t ht) (by decide)) _ (by lia)⟩
def X6 (c:mZ w0 w1 w2 w3 w4 w5 tt B) (ha:S a=aa (.bO (B.map mK))) (h:Sh [w0,w1,w2,w3,w4,w5] B x) (hs:x.bo=true) (hr:120≤r) (q:Q (kY (fw [w0,w1,w2,w3,w4,w5] B x)) S):Ca (r+1) [.ref a,kY x] S Q E:=by
 have w:=c.way h hs;obtain⟨h3,h4⟩:=qS hs;have hl:=xL B x [];obtain⟨r,rfl⟩:∃r',r=r'+1:=⟨r - 1,by lia⟩
 rw[Ca];ext;refine zK c.L ha (by lia) (by lia) (by lia) h.hdT λq1 hq1=>?_;refine FC mR (by lia) λq2 hq2=>?_;exact DF c.L c.P w.f.wi (by lia) (by lia) (keep (keep ha hq1) hq2) mR h.hdT (by lia) (by unfold yx;rw[ay];lia) ⟨_, .trans (.bR .refl hq1) (.bR .refl hq2),q⟩
def Rk (c:mZ w0 w1 w2 w3 w4 w5 tt B) (ha:S a=aa (.bO (B.map mK))) (h:Sh [w0,w1,w2,w3,w4,w5] B t) (hs:t.bo=true) (hl:l≤10) (hr:130≤r)
  (h1:∀k,Jg [w0,w1,w2,w3,w4,w5] B t l k false→ ∀S' q,Sub S S'→S' q=aa (.bO (af (wys [w0,w1,w2,w3,w4,w5] B t k)))→Q (.bW [.bW [kY t, .ref q], .bl ((hh [w0,w1,w2,w3,w4,w5] B t k).op B []).isEmpty]) S')
  (h2:∀k,Jg [w0,w1,w2,w3,w4,w5] B t l k true→ ∀S',Sub S S'→E "TooGreat" S'):B2 (r+1) [.ref a,kY t, .int l] S Q E:=by
 obtain⟨r,rfl⟩:∃r',r=r'+1:=⟨r - 1,by lia⟩
 rw[B2];ext;refine⟨aO _,λq hq=>?_⟩;refine⟨λm σ S'=>∃k x5,m=l - k∧(∀i,i<k→Go [w0,w1,w2,w3,w4,w5] B t l i)∧S'=bR S q (.bO (af (wys [w0,w1,w2,w3,w4,w5] B t k)))∧σ=[aa (.ref a),aa (kY t),aa (.int l),aa (.ref q),aa (kY (hh [w0,w1,w2,w3,w4,w5] B t k)),x5],⟨_,0,none,rfl,λi hi=>absurd hi (Nat.not_lt_zero i),by simp [wys,af],rfl⟩,?_⟩
 rintro m σ S' ⟨k,x5,rfl,hg,rfl,rfl⟩;have sh:=yj c.b c.G c.K h k;have sm:=XQ hs hg;obtain⟨b1,b2⟩:=qS sm;have sb:Sub S (bR S q (Ob.bO (af (wys [w0,w1,w2,w3,w4,w5] B t k)))):= .bR .refl hq;have fa:=sb _ _ ha;have fq:bR S q (Ob.bO (af (wys [w0,w1,w2,w3,w4,w5] B t k))) q=aa (.bO (af (wys [w0,w1,w2,w3,w4,w5] B t k))):=mR;have fin:∀S1,Sub (bR S q (Ob.bO (af (wys [w0,w1,w2,w3,w4,w5] B t k)))) S1→(l≤k∨(hh [w0,w1,w2,w3,w4,w5] B t k).op B []=[])→2≤sizeLine∧xV (mG (tV (r+1)) (jK (jA 0) (jK (jA 4) ae))) (λc x S'=>E c S') [aa (.ref a),aa (kY t),aa (.int l),aa (.ref q),aa (kY (hh [w0,w1,w2,w3,w4,w5] B t k)),x5] S1 λw S1=>2≤sizeLine∧ ∃S'',Sub S'' S1∧Q (.bW [.bW [kY t, .ref q],w]) S'':=λS1 s1 hk=>by
  rw[VI];ext;refine⟨m7 (by decide),zK c.L (s1 _ _ fa) (by lia) (by lia) (by lia) sh.hdT λq2 hq2=>?_⟩;ext;have ee:(((hh [w0,w1,w2,w3,w4,w5] B t k).op B []).map encX).isEmpty=((hh [w0,w1,w2,w3,w4,w5] B t k).op B []).isEmpty:=by cases(hh [w0,w1,w2,w3,w4,w5] B t k).op B []<;>rfl
  rw[ee,Bool.not_not];exact⟨m7 (by decide),_, .refl,h1 k ⟨hg,hk⟩ _ q ((sb.trans s1).trans (.bR .refl hq2)) (keep (s1 _ _ fq) hq2)⟩
 have w:=c.way sh sm;have eg:(fw [w0,w1,w2,w3,w4,w5] B (hh [w0,w1,w2,w3,w4,w5] B t k)).mk B (oh 2)=hh [w0,w1,w2,w3,w4,w5] B t (k+1):=by rw[AG];rfl
 have el:(af (wys [w0,w1,w2,w3,w4,w5] B t k)).length=k:=by rw[pH,Ny]
 ext;rw[el];split
 ·rename_i lt;refine zK c.L fa (by lia) (by lia) (by lia) sh.hdT λq2 hq2=>?_;have s2:Sub (bR S q (Ob.bO (af (wys [w0,w1,w2,w3,w4,w5] B t k)))) (bR (bR S q (Ob.bO (af (wys [w0,w1,w2,w3,w4,w5] B t k)))) q2 (Ob.bO (((hh [w0,w1,w2,w3,w4,w5] B t k).op B []).map encX))):= .bR .refl hq2;ext;cases e:(hh [w0,w1,w2,w3,w4,w5] B t k).op B []with
  |nil=>
   rw[e]at s2;simp only[cr,jH,jU,cF,if_false];exact fin _ s2 (.inr e)
  |cons x xs=>
   rw[e]at s2;simp only[aC,iW,kF,if_true]at s2⊢;generalize bR (bR S q (Ob.bO (af (wys [w0,w1,w2,w3,w4,w5] B t k)))) q2 (Ob.bO (encX x::xs.map encX))=S2 at s2⊢;have ne:(hh [w0,w1,w2,w3,w4,w5] B t k).op B []≠ []:=by rw[e];simp
   simp only[Jn];ext;refine X6 c (s2 _ _ fa) sh sm (by lia) ?_;refine Hx (s2 _ _ fa) c.g2 w.dp (by lia) w.ar (by have:=w.wt;lia) w.wd (λz=>?_) λz=>?_
   ·rw[eg]at z⊢
    try ext
    rw[m8 (s2 _ _ fq)];refine⟨trivial,?_⟩;rw[m8 (s2 _ _ fq)];refine⟨qC (by rw[el];lia),l - (k+1),bR S q (.bO (af (wys [w0,w1,w2,w3,w4,w5] B t (k+1)))),by lia,?_,k+1,_,rfl,λi hi=>?_,rfl,rfl⟩
    ·rw[Ih,xA];exact Zb s2
    ·obtain y |y:=gK i k
     ·exact hg i y
     ·rw[show i=k by lia]
      exact⟨by lia,ne,z⟩
   ·rw[eg]at z;exact h2 k ⟨hg,by lia,ne,z⟩ _ (sb.trans s2)
 ·exact fin _ .refl (.inl (by lia))
end
def Po{α β:Type}{f:α→β}{xs:List α}(h:(xs.map f).Nodup):xs.Nodup:=by
 unfold i0 at h⊢;rw[kE]at h;exact h.imp λ{a b} n e=>n (by rw[e])
section
variable {w0 w1 w2 w3 w4 w5:ah}{tt:List ah}{B:List Tn}{S:li}{a:ai}{r:Nat}{Q:WK}{E:ah→li→Prop}
def mZ.ok_open (c:mZ w0 w1 w2 w3 w4 w5 tt B) (ha:S a=aa (.bO (B.map mK))) {x:Tr}(h:Sh [w0,w1,w2,w3,w4,w5] B x) (hs:x.bo=true) (hr:80≤r) (k:∀S' b,Sub S S'→S' b=aa (.bO ((x.op B []).map encX))→Q (.ref b) S'):uS (r+1) [.ref a,kY x] S Q E:=by
 obtain⟨b1,b2⟩:=qS hs;have hl:=c.b.len;exact OM c.L (Po c.bk.nd) (by lia) (λx u hu v hv h1 h2=>c.K.O.one u hu v hv x h1 h2) ha (by lia) (by lia) (by lia) (ul _ h.hdT) k
end
theorem Il:∀{ts:List Tr},(∀x∈ts,x.depth≤d)→m_ ts≤d
 | [],_=>by simp [m_]
 |t::ts,h=>by
  have h1:=h t aK;have h2:=Il (ts:=ts) λx hx=>h x (aI _ hx);rw[m_];lia
def FJ (K:Bk3 ws B) (hx:Wy ws B x) (hy:Wy ws B y) (e:ak B x=ak B y):∃p,nF ws B p∧p.ev B (nJ 1)=x∧p.ev B (nJ 2)=y∧p.ev B zr=ak B x:=by
 obtain⟨p,hp,_,e1,e2⟩:=Bt K.b K.O _ x y (aA _) hx hy e;refine⟨p,hp,e1,e2,?_⟩;rw[←e1];show _=(p.ev B (nJ 1)).mk B λt=>t.2.1;rw[xi K.b hp];exact vt hp λb h0 h1=>((sZ 1).ak b h0 h1).symm
section
variable {ws:List ah}{B:List Tn}{x t:Tr}{xs:List Tr}
def Sh.dQ (K:Bk3 ws B) (h:Sh ws B x):x.dQ=true:=by
 refine Dj x ?_;have:∀(n:Nat) (x:Tr),x.depth≤n→Sh ws B x→x.hd ow:=by
  intro n
  induction n with
  |zero=>
   intro x hd h;have:=qB x;lia
  |succ n ih=>
   intro x hd h;obtain⟨s,ts,rfl,hs,_,k⟩:=h.cases K;rw[Tr.depth]at hd;rw[Tr.hd,mW];exact⟨K.b.sg s hs,λu hu=>ih u (by have:=p5 hu;lia) (k u hu)⟩
 exact this _ x (aA _) h
def Wy.len (K:Bk3 ws B) (h:Wy ws B x):x.hd λs=>s.length≤1000:=vR (λs hs=>by
 obtain hs |⟨t,ht,rfl⟩:=hs
 ·exact V' (K.b.sg s hs)
 ·exact QG (K.b.ti t ht)) _ h.hd
theorem G3{α:Type}(f:α→Bool):∀(xs:List α),sE (xs.map λx=>W.bl (f x))=aa (xs.map f)
 | []=>rfl
 |x::xs=>by rw[aC,sE,G3 f xs];rfl
end
def Bk3.moved (K:Bk3 ws B) (hx:Wy ws B x) (hy:Wy ws B y) (e:L2.ak B x=L2.ak B y):zH ws B x y (res B x y):=by
 obtain⟨p,hp,rfl,rfl,_⟩:=FJ K hx hy e;have o1:=sZ 1;have o2:=sZ 2;have m1:=(By (c:=nJ 1) (d:=nJ 2) K.b K.O.mt (Ab o1 o2) hp).res;have m2:=(By (c:=nJ 2) (d:=nJ 1) K.b K.O.mt (Ab o2 o1) hp).res;rw[m1];refine⟨K.wy hp,?_,?_,PN K.b K.O o1 o2 hp⟩
 ·show(p.ev B (pK (nJ 1) (nJ 2))).mk B (λt=>t.2.1)=(p.ev B (nJ 2)).mk B λt=>t.2.2;rw[xi K.b hp,zL K.b hp];refine vt hp λx h0 h1=>?_;have a:=xl 1 x;have b:=xl 2 x;unfold uL sA pK;generalize nJ 1 x=m at a⊢;generalize nJ 2 x=n at b⊢;obtain rfl |rfl:m=0∨m=1:=by lia
  all_goals obtain rfl |rfl:n=0∨n=1:=by lia
  all_goals rfl
 ·rw[m2];show(p.ev B (pK (nJ 1) (nJ 2))).mk B (λt=>t.2.2)=(p.ev B (pK (nJ 2) (nJ 1))).mk B λt=>t.2.2;rw[zL K.b hp,zL K.b hp];refine vt hp λx h0 h1=>?_;have a:=xl 1 x;have b:=xl 2 x;unfold sA pK;generalize nJ 1 x=m at a⊢;generalize nJ 2 x=n at b⊢;obtain rfl |rfl:m=0∨m=1:=by lia
  all_goals obtain rfl |rfl:n=0∨n=1:=by lia
  all_goals rfl
theorem uY (K:Bk3 ws B):∀(os:List Tr) {x t:Tr},Wy ws B x→L2.ak B x=t→nN ws B t os→nN ws B (b9 B x) (pD B x os)∧Wy ws B (qA B x os)∧L2.ak B (qA B x os)=on B t os∧on B (b9 B x) (pD B x os)=b9 B (qA B x os)
 | [],x,t,hx,ex,_=>⟨trivial,hx,ex,rfl⟩
 |o::os,x,t,hx,ex,⟨ho,eo,hr⟩=>by
  have m:=K.moved hx ho (ex.trans eo.symm);have m':=K.moved ho hx (eo.trans ex.symm);obtain⟨h1,h2,h3,h4⟩:=uY K os m.wy m.sr hr;refine⟨?_,h2,h3,?_⟩
  ·rw[pD];refine⟨m'.wy,m'.sr,?_⟩;rw[m'.go];exact h1
  ·rw[pD,on,qA,m'.go];exact h4
theorem Am (K:Bk3 ws B):∀(xs os:List Tr) {t:Tr},nN ws B t xs→nN ws B t os→nN ws B (on B t os) (oI B xs os)
 | [],os,t,_,_=>trivial
 |x::xs,os,t,⟨hx,ex,hr⟩,ho=>by
  obtain⟨h1,h2,h3,h4⟩:=uY K os hx ex ho;rw[oI];refine⟨h2,h3,?_⟩;rw[←h4];exact Am K xs _ hr h1
theorem ND (K:Bk3 ws B):∀(xs os:List Tr) {t:Tr},nN ws B t xs→nN ws B t os→on B (on B t os) (oI B xs os)=on B (on B t xs) (oI B os xs)
 | [],os,t,_,_=>by rw[OA,oI];rfl
 |x::xs,os,t,⟨hx,ex,hr⟩,ho=>by
  obtain⟨h1,h2,h3,h4⟩:=uY K os hx ex ho;rw[oI,on,←h4,ND K xs _ hr h1,on,He]
theorem Bs (ih:∀{t u:Tr}{p:List Int},Wi B wn n p t u→Sh ws B t→sW B wn p t→ ∀y,Wy ws B y→ak B y=t→ ∃z,Mv B n y u z∧z.hd ow):∀{qs:List (List Int)}{ts us:List Tr},pA B wn n p qs ts us→aN (λq t=>Sh ws B t∧sW B wn (p++q) t) qs ts→ ∀ys:List Tr,(∀y∈ys,Wy ws B y)→ys.map (ak B)=ts→ ∃zs,nV B n ys us zs∧hds ow zs∧zs.length=ts.length
 |_,_,_, .nil,_,ys,hy,e=>by
  have:ys=[]:=by cases ys<;>simp at e⊢
  subst this;exact⟨[], .nil,trivial,rfl⟩
 |_,_,_, .cons a b,h,ys,hy,e=>by
  cases h with
  |cons c d=>
   cases ys with
   |nil=>simp at e
   |cons y ys=>
    rw[aC]at e;injection e with e1 e2;obtain⟨z,M,hz⟩:=ih a c.1 c.2 y (hy y aK) e1;obtain⟨zs,Ms,hzs,hl⟩:=Bs ih b d ys (λx hx=>hy x (aI _ hx)) e2;exact⟨z::zs, .cons M Ms,⟨hz,hzs⟩,by simp [hl]⟩
theorem Cr (b:mF w0 w1 w2 w3 w4 w5 tt B) (G:nU w0 w1 w2 w3 w4 w5) (K:Bk3 [w0,w1,w2,w3,w4,w5] B):∀(n:Nat) {t u:Tr}{p:List Int},Wi B wn n p t u→Sh [w0,w1,w2,w3,w4,w5] B t→sW B wn p t→ ∀y,Wy [w0,w1,w2,w3,w4,w5] B y→ak B y=t→ ∃z,Mv B n y u z∧z.hd ow
 |0,t,u,p,W,h,hw,y,hy,ey=>nomatch W
 |n+1,t,u,p,W,h,hw,y,hy,ey=>by
  have at0:∀(s:ah) (ts:List Tr),(Tr.nd s ts).at []=aa (.nd s ts):=λs ts=>by rw[Tr.at]
  cases W with
  | @no _ _ s ts us hp e W=>
   have ho:o4 B (.nd s ts)=none:=by
    cases k:o4 B (.nd s ts) with
    |none=>rfl
    |some v=>
     have:=(hw [] _ (at0 s ts)).mpr (by rw[k];rfl);rw[bg]at this;exact absurd this hp
   obtain⟨s',ts',e0,hs,_,k⟩:=h.cases K;cases e0;obtain ⟨s1,as,rfl,hs1,e1,hk⟩ |⟨v,as,hv,rfl,e1,hl,hk⟩:=hy.cases K.b
   ·have q:=ey;rw[show ak B (.nd s1 as)=_ from qe e1]at q;injection q with q1 q2;subst q1;have pr:∀(i:Nat) (xs:List Tr),(∀(j:Nat) x,xs[j]? =aa x→ts[i+j]? =aa x)→aN (λq t=>Sh [w0,w1,w2,w3,w4,w5] B t∧sW B wn (p++q) t) ((f9 i xs.length).map λ(i:Nat)=>[(i:Int)]) xs:=by
     intro i xs
     induction xs generalizing i with
     |nil=>intro _;exact .nil
     |cons x xs ih=>
      intro hx;have hi:=hx 0 x rfl;rw[dL]at hi;have hm:x∈ts:=aJ hi;rw[aT,gP,aC];refine .cons ⟨k x hm,λe' v' h6=>?_⟩ (ih (i+1) λj y hy=>?_)
      ·have:=hw ((i:Int)::e') v' (by rw[rO hi];exact h6);rw[bD];exact this
      ·have:=hx (j+1) y (by rw[bU];exact hy);rw[show i+1+j=i+(j+1) by lia]
       exact this
    have pr0:=pr 0 ts λj x h=>by rw[bE];exact h
    rw[gR]at W;obtain⟨zs,Ms,hz,_⟩:=Bs (Cr b G K n) W pr0 as hk q2;exact⟨.nd s1 zs, .nn e1 e Ms,K.b.sg s1 hs1,hz⟩
   ·exfalso;have q:=ey;rw[show ak B (.nd v.1 as)=_ from pY e1]at q;have o:=b.open_some G hv (us:=as.map (ak B)) (by rw[ay,hl]);rw[show v.2.1.aD (as.map (ak B))=_ from q,ho]at o;cases o
  | @yes _ _ s ts us ms v hp ho hm et W=>
   have hv:v∈B:=bX ho;obtain⟨f1,f2,f3⟩:=h.parts K hv hm;have pr:∀{qs:List (List Int)}{xs:List Tr},(∀x∈xs,Sh [w0,w1,w2,w3,w4,w5] B x)→aN (λq m=>(Tr.nd s ts).at q=aa m) qs xs→aN (λq t=>Sh [w0,w1,w2,w3,w4,w5] B t∧sW B wn (p++q) t) qs xs:=by
    intro qs xs h2 h3
    induction h3 with
    |nil=>exact .nil
    | @cons q m qs xs h4 _ ih=>
     refine .cons ⟨h2 m (by simp),λe' v' h6=>?_⟩ (ih λx hx=>h2 x (aI _ hx));have:=hw (q++e') v' (by rw[vi _ e' h4];exact h6);rw[bD];exact this
   have prm:=pr f3 (FD hm);have fin:∀zs:List Tr,hds ow zs→zs.length=v.2.1.nb→(v.2.2.aD zs).hd ow:=λzs hz hl=>yL (mW.mp hz) _ ((b.ri v hv).hb λx hx=>K.b.sg x hx) (by rw[hl];exact(b.ri v hv).bt);obtain ⟨s1,as,rfl,hs1,e1,hk⟩ |⟨v',as,hv',rfl,e1,hl,hk⟩:=hy.cases K.b
   ·rw[f1]at ey;obtain⟨vs,g1,g2,g3,g4,_⟩:=Fj K.b K.O hv e1 hy f2 ey;obtain⟨zs,Ms,hz,hl⟩:=Bs (Cr b G K n) W prm vs g4 g3;refine⟨v.2.2.aD zs, .ns e1 et ?_ (by rw[hl,f2]) Ms,fin zs hz (by rw[hl,f2])⟩;rw[g1];exact K.O.mt v hv vs g2
   ·have q:=ey;rw[show ak B (.nd v'.1 as)=_ from pY e1]at q;have o:=b.open_some G hv' (us:=as.map (ak B)) (by rw[ay,hl]);rw[show v'.2.1.aD (as.map (ak B))=_ from q,ho]at o;cases o;have m1:=K.O.mt v hv (as.map (ak B)) (by rw[ay,hl]);rw[show v.2.1.aD (as.map (ak B))=_ from q,hm]at m1;have m2:as.map (ak B)=ms:=(aL m1).symm;obtain⟨zs,Ms,hz,hl'⟩:=Bs (Cr b G K n) W prm as hk m2;exact⟨v.2.2.aD zs, .ss e1 et (by rw[hl',f2]) Ms,fin zs hz (by rw[hl',f2])⟩
def T8 (c:mZ w0 w1 w2 w3 w4 w5 tt B) (h:Sh [w0,w1,w2,w3,w4,w5] B t) (hy:Wy [w0,w1,w2,w3,w4,w5] B y) (e:ak B y=t):res B y (fw [w0,w1,w2,w3,w4,w5] B t)=b9 B (fw [w0,w1,w2,w3,w4,w5] B t):=by
 have f:=w9 c.b c.G c.K h;obtain⟨z,M,hz⟩:=Cr c.b c.G c.K _ f.wi h h.all y hy e;have er:res B y (fw [w0,w1,w2,w3,w4,w5] B t)=z:=M.res;have m:=c.K.moved hy f.wy (by rw[e,f.sr]);have s:=m.sr;rw[er]at s⊢;rw[←s];exact(rP c.K.b.ti z hz).symm
theorem EZ (c:mZ w0 w1 w2 w3 w4 w5 tt B):∀(n:Nat) (y:Tr) (p:List Int),y.aq≤n→Wy [w0,w1,w2,w3,w4,w5] B y→(ak B y).op B p=[]→y.hd ow
 |0,y,p,hn,h,_=>by have:=rN y;lia
 |n+1,y,p,hn,h,ho=>by
  obtain ⟨s,as,rfl,hs,e,hk⟩ |⟨v,as,hv,rfl,e,hl,hk⟩:=h.cases c.K.b
  ·rw[Tr.aq]at hn;refine⟨c.K.b.sg s hs,?_⟩;rw[show ak B (.nd s as)=_ from qe e,Tr.op]at ho;have ho2:=(kx.mp ho).2;have all:∀(i:Nat) (xs:List Tr),(∀x∈xs,x∈as)→pB B p i (xs.map (ak B))=[]→hds ow xs:=by
    intro i xs
    induction xs generalizing i with
    |nil=>intro _ _;exact trivial
    |cons x xs ih=>
     intro hx z;rw[aC,pB]at z;obtain⟨z1,z2⟩:=kx.mp z;have hm:=hx x aK;exact⟨EZ c n x _ (by have:=pf hm;lia) (hk x hm) z1,ih (i+1) (λy hy=>hx y (aI _ hy)) z2⟩
   exact all 0 as (λx hx=>hx) ho2
  ·exfalso;have o:=c.b.open_some c.G hv (us:=as.map (ak B)) (by rw[ay,hl]);obtain⟨s0,l0,e0,_⟩:=c.K.O.inn v hv;rw[show ak B (.nd v.1 as)=_ from pY e]at ho;rw[e0,Tr.aD]at ho o;rw[Tr.op,o]at ho;simp at ho
theorem DV (c:mZ w0 w1 w2 w3 w4 w5 tt B) (h:Sh [w0,w1,w2,w3,w4,w5] B t) (hr:(hh [w0,w1,w2,w3,w4,w5] B t k).op B []=[]):∀j,hh [w0,w1,w2,w3,w4,w5] B t (k+j)=hh [w0,w1,w2,w3,w4,w5] B t k
 |0=>rfl
 |j+1=>by
  have ih:=DV c h hr j;show b9 B (fw [w0,w1,w2,w3,w4,w5] B (hh [w0,w1,w2,w3,w4,w5] B t (k+j)))=_;have f:=w9 c.b c.G c.K (yj c.b c.G c.K h k);have q:=EZ c _ _ [] (aA _) f.wy (by rw[f.sr];exact hr);rw[ih,show b9 B (fw [w0,w1,w2,w3,w4,w5] B (hh [w0,w1,w2,w3,w4,w5] B t k))=_ from rP c.K.b.ti _ q];have s:=f.sr;rwa [show ak B (fw [w0,w1,w2,w3,w4,w5] B (hh [w0,w1,w2,w3,w4,w5] B t k))=_ from rP c.K.b.ti _ q]at s
def Wy.re (w:Wy ws B (.nd h ts)) (hl:us.length=ts.length) (hu:∀x∈us,Wy ws B x):Wy ws B (.nd h us):=by
 obtain⟨h1,h2⟩:=w;rw[Tr.hd,mW]at h1;rw[Tr.ar,oA]at h2;refine⟨?_,?_⟩
 ·rw[Tr.hd,mW];exact⟨h1.1,λu hm=>(hu u hm).hd⟩
 ·rw[Tr.ar,oA];exact⟨λt e=>by rw[hl];exact h2.1 t e,λu hm=>(hu u hm).ar⟩
def LK (h:(Tr.nd s ts).at (i::p)=aa v):∃w,ts[i.toNat]? =aa w∧w.at p=aa v:=by
 simp only[Tr.at]at h;cases e:ts[i.toNat]? with
 |none=>rw[e]at h;simp at h
 |some w=>
  rw[e]at h;have h':0≤i∧w.at p=aa v:=by simpa using h
  exact⟨w,rfl,h'.2⟩
theorem KP{P:ah→Prop}:∀(q:List Int) {X v:Tr},X.hd P→X.at q=aa v→v.hd P∧v.aq≤X.aq
 | [],X,v,hX,h=>by
  cases X<;>(simp only[Tr.at,bH]at h;subst h;exact⟨hX,aA _⟩)
 |i::p, .bl n,v,hX,h=>by simp [Tr.at]at h
 |i::p, .nd s ts,v,hX,h=>by
  obtain⟨w,hw,hv⟩:=LK h;have hm:w∈ts:=aJ hw;simp only[Tr.hd]at hX;have:=KP p (mW.mp hX.2 w hm) hv;have hwt:=pf hm;exact⟨this.1,by rw[Tr.aq];lia⟩
theorem Nd{P:ah→Prop}(hu:u.hd P):∀(q:List Int) {X v:Tr},X.hd P→X.at q=aa v→(X.bR q u).hd P
 | [],X,v,hX,h=>by rw[tq];exact hu
 |i::p, .bl n,v,hX,h=>by simp [Tr.at]at h
 |i::p, .nd s ts,v,hX,h=>by
  obtain⟨w,hw,hv⟩:=LK h;have hm:w∈ts:=aJ hw;rw[tD hw];simp only[Tr.hd]at hX⊢;exact⟨hX.1,NK (Nd hu p (mW.mp hX.2 w hm) hv) _ hX.2⟩
theorem MZ{f:W→W→Option Bool}(h:∀x:List Int,f (mB x) (mB x)=aa true):∀xs:List (List Int),oV f (xs.map mB) (xs.map mB)=aa true
 | []=>rfl
 |x::xs=>by rw[aC,oV,h,MZ h xs];rfl
def Uq{S:li}{a b:ai}{xs:List (List Int)}(ha:S a=aa (.bO (xs.map mB))) (hb:S b=aa (.bO (xs.map mB))):nY S 60 (.ref a) (.ref b)=aa true:=UE (n:=59) ha hb (MZ (λx=>by rw[Dh (n:=57)];simp) xs)
def Yi (b:mF w0 w1 w2 w3 w4 w5 tt B) {X:Tr}{q:List Int}{t:Tn}{us:List Tr}(ht:t∈B) (hu:us.length=t.2.1.nb) (hX:X.at q=aa (t.2.1.aD us)) (hh:X.hd λ_=>True):(X.bR q (t.2.2.aD us)).hd (λ_=>True)∧(X.bR q (t.2.2.aD us)).aq≤7*X.aq∧(t.2.1.aD us).bt 0:=by
 have h1:=KP q hh hX;have h2:=xr _ _ _ (b.mt t ht us hu) h1.1;have ri:=b.ri t ht;have hr:(t.2.2.aD us).hd λ_=>True:=yL (mW.mp h2.1) t.2.2 (ri.hb λ_ _=>trivial) (by rw[hu];exact ri.bt);have hv:1≤(t.2.1.aD us).aq:=rN _;have fw:=M5 hv (λu hu'=>aY (pf hu') h2.2) t.2.2;have pw:=Gz q (u:=t.2.2.aD us) hX;have rw7:t.2.2.aq*(t.2.1.aD us).aq≤7*(t.2.1.aD us).aq:=dP _ ri.wt;refine⟨Nd hr q hh hX,?_,ul _ h1.1⟩;lia
def IN (O:qX B) (ht:t∈B) (h:t.2.1.mt (.nd s ts)=aa ms):m_ ms≤m_ ts:=by
 obtain⟨s0,l0,e0,_⟩:=O.inn t ht;rw[e0,Tr.mt]at h;split at h
 ·exact Il (B6 _ _ _ h)
 ·cases h
mutual
theorem Mv.bd (O:qX B):∀{n:Nat}{x y z:Tr},Mv B n x y z→Mv B x.depth x y z
 |_,_,_,_, .nn a b m=>by
  rw[Tr.depth,dW];exact .nn a b (nV.bd O m)
 |_,_,_,_, .ns a b c d m=>by
  rw[Tr.depth,dW];exact .ns a b c d ((nV.bd O m).monoA _ (IN O (bX b) c))
 |_,_,_,_, .sn a b c m=>by
  rw[Tr.depth,dW];exact .sn a b c (nV.bd O m)
 |_,_,_,_, .ss a b c m=>by
  rw[Tr.depth,dW];exact .ss a b c (nV.bd O m)
theorem nV.bd (O:qX B):∀{n:Nat}{xs ys zs:List Tr},nV B n xs ys zs→nV B (m_ xs) xs ys zs
 |_,_,_,_, .nil=> .nil
 |_,_,_,_, .cons a b=>by
  rw[m_];exact .cons ((Mv.bd O a).monoA _ (by lia)) ((nV.bd O b).monoA _ (by lia))
end
section
variable {ws:List ah}{B:List Tn}{x y:Tr}{a:ai}{r:Nat}{S:li}{Q:WK}{E:ah→li→Prop}
def Bk3.mv (K:Bk3 ws B) (hx:Wy ws B x) (hy:Wy ws B y) (e:L2.ak B x=L2.ak B y):Mv B x.depth x y (res B x y):=by
 obtain⟨p,hp,rfl,rfl,_⟩:=FJ K hx hy e;have m:=By (c:=nJ 1) (d:=nJ 2) K.b K.O.mt (Ab (sZ 1) (sZ 2)) hp;have m1:=m.res;rw[m1];exact m.bd K.O
def Bk3.fitw (K:Bk3 ws B) (hx:Wy ws B x) (hs:(L2.ak B x).bo=true):x.depth≤40∧x.aq≤400∧x.ar B∧x.hd λ_=>True:=by
 obtain⟨g1,g2⟩:=A6 K _ _ (aA _) hx;obtain⟨h1,h2⟩:=qS hs;exact⟨by lia,by lia,hx.ar,vR (λ_ _=>trivial) _ hx.hd⟩
def Bk3.gW (K:Bk3 ws B):pF (oh 2) B:=⟨λt ht=>(K.b.ri t ht).bt,λt ht=>(K.b.ri t ht).dp,λt ht=>aY (K.b.ri t ht).wt (by decide)⟩
def Bk3.okmv (K:Bk3 ws B):∀t∈B,t.2.1.depth≤4∧t.2.1.aq≤100∧t.2.2.depth≤4∧t.2.2.aq≤100∧t.2.2.bt t.2.1.nb:=λt ht=>by
 have h1:=K.b.lf t ht;have h2:=K.b.ri t ht;have h3:=h1.wt;have h4:=h1.nb;have h5:=h2.wt;exact⟨h1.dp,by lia,h2.dp,by lia,h2.bt⟩
structure t9 (ws:List ah) (B:List Tn) (x y:Tr):Prop where
  K:Bk3 ws B
  wx:Wy ws B x
  wy:Wy ws B y
  e:ak B x=ak B y
  sm:(ak B y).bo=true
def t9.symm (h:t9 ws B x y):t9 ws B y x:=⟨h.K,h.wy,h.wx,h.e.symm,by rw[h.e];exact h.sm⟩
def t9.ok_move (h:t9 ws B x y) (ha:S a=aa (.bO (B.map mK))) (hr:60≤r) (q:Q (kY (res B x y)) S):tw (r+1) [.ref a,kY x,kY y] S Q E:=by
 obtain⟨d1,w1,_,h1⟩:=h.K.fitw h.wx (by rw[h.e];exact h.sm);obtain⟨d2,w2,_,h2⟩:=h.K.fitw h.wy h.sm;exact Km h.K.okmv x.depth ha (h.K.mv h.wx h.wy h.e) (by lia) h1 h2 (by lia) (by lia) q
def Bk3.ok_goalX (K:Bk3 ws B) (hx:Wy ws B x) (hs:(L2.ak B x).bo=true) (ha:S a=aa (.bO (B.map mK))) (hr:60≤r) (h1:(L2.b9 B x).bo=true→Q (kY (L2.b9 B x)) S) (h2:(L2.b9 B x).bo=false→E "TooGreat" S):t8 (r+1) [.ref a,kY x] S Q E:=by
 obtain⟨d1,w1,a1,_⟩:=K.fitw hx hs;have e2:x.mk B (oh 2)=L2.b9 B x:=by rw[AG]
 refine Hx ha K.gW d1 hr a1 (by lia) (Bk (λt ht=>aY (K.gW.wt t ht) (by decide)) _ (by lia)) (λz=>?_) λz=>?_
 ·rw[e2]at z⊢;exact h1 z
 ·rw[e2]at z;exact h2 z
end
theorem Im{G:li→Prop}(K:Bk3 ws B) (hG:G S) (ha:S a=aa (.bO (B.map mK))) (hr:60≤r):∀(xs:List Tr) {t:Tr}(y1 y2:Option W),nN ws B t xs→t.bo=true→((∀x∈xs,(b9 B x).bo=true)→ ∀z,D.nx [aa (.ref a),y1,z] S)→((∃x∈xs,(b9 B x).bo=false)→ ∀σ,E "TooGreat" σ S)→mO (mx 2) (Eu (r+1) mH) E D G (xs.map kY) [aa (.ref a),y1,y2] S
 | [],t,y1,y2,_,_,h,_=>h (λ_ hx=>nomatch hx) y2
 |x::xs,t,y1,y2,⟨h1,h2,h3⟩,hs,h,hE=>by
  rw[aC];refine pT λN hN=>?_;rw[rm,Eu];ext;refine K.ok_goalX h1 (by rw[h2];exact hs) ha (by lia) (λz=>?_) λz=>hE ⟨x,aK,z⟩ _;refine hN _ _ _ .refl hG (Im K hG ha hr xs y1 _ h3 z (λk=>h λu hu=>?_) λ⟨u,hu,e⟩=>hE ⟨u,aI _ hu,e⟩);obtain e |e:=az.mp hu
  ·rw[e];exact z
  ·exact k u e
def CP{X:ah→li→Prop}(K:Bk3 ws B) (ha:S a=aa (.bO (B.map mK))) (hl:S l=aa (.bO (xs.map kY))) (hx:nN ws B t xs) (hs:t.bo=true) (hr:60≤r) (h:(∀x∈xs,(b9 B x).bo=true)→Q .cc S) (hX:(∃x∈xs,(b9 B x).bo=false)→X "TooGreat" S):uV (r+2) [.ref a, .ref l] S Q X:=by
 rw[show r+2=r+1+1 from rfl,uV];ext;rw[m8 hl];exact Im K hl ha hr xs _ _ hx hs (λk z=>⟨_, .refl,h k⟩) λk σ=>hX k
def ua (B:List Tn):Tr→List Tr→Prop
 |_,[]=>True
 |x,o::os=>(b9 B (res B x o)).bo=true∧ua B (res B x o) os
theorem Me{G:li→Prop}(K:Bk3 ws B) (ha:S0 a=aa (.bO (B.map mK))) (h0:S0 q=none) (hG:∀S,Sub S0 S→G S) (hr:64≤r):∀(os:List Tr) {x t:Tr},Wy ws B x→ak B x=t→nN ws B t os→t.bo=true→(∀o∈os,(b9 B o).bo=true)→ ∀(xs:List W) {S:li}{y1 y2 y4 y5:Option W},xs.length+os.length≤900→Sub S0 S→S q=aa (.bO (xs++[kY x]))→
  (ua B x os→ ∀S' y4 y5,Sub S0 S'→S' q=aa (.bO (xs++(qu B x os).map kY))→D.nx [aa (.ref a),y1,y2,aa (.ref q),y4,y5] S')→(¬ua B x os→ ∀σ S',Sub S0 S'→E "TooGreat" σ S')→
  mO (mx 4) (F9 r mH) E D G (os.map kY) [aa (.ref a),y1,y2,aa (.ref q),y4,y5] S
 | [],x,t,hx,ex,hR,hs,hg=>λxs S y1 y2 y4 y5 hl sb hq h _=>h trivial S _ _ sb hq
 |o::os,x,t,hx,ex,⟨r1,r2,r3⟩,hs,hg=>by
  intro xs S y1 y2 y4 y5 hl sb hq h hE;have cl:t9 ws B x o:=⟨K,hx,r1,by rw[ex,r2],by rw[r2];exact hs⟩
  have m:=K.moved hx r1 cl.e;have go:=hg o aK;rw[aC];rw[aT]at hl;refine pT λN hN=>?_;rw[rm,F9];rw[JV];ext;rw[m8 hq,Br];dsimp only;obtain⟨r',er⟩:∃r',r=r'+2:=⟨r - 2,by lia⟩
  rw[er];refine cl.ok_move (r:=r'+1) (sb _ _ ha) (by lia) ?_;rw[KM];ext;refine⟨by decide,λv hv=>?_⟩;have sv:Sub S0 (bR S v (Ob.bO [kY (res B x o)])):=sb.trans (.bR .refl hv);refine CP (xs:=[res B x o]) (t:=b9 B o) K (sv _ _ ha) mR ⟨m.wy,m.sr,trivial⟩ go (by lia) (λk=>?_) λ⟨u,hu,e⟩=>?_
  ·have k0:=k _ aK;rw[GS];ext;have fq:=keep (x:=Ob.bO [kY (res B x o)]) hq hv;rw[m8 fq,m8 fq];refine⟨trivial,qC (by rw[a_,cw];lia),?_⟩;have sb2:Sub S0 (bR (bR S v (Ob.bO [kY (res B x o)])) q (.bO (xs++[kY x]++[kY (res B x o)]))):= .bR sv h0;refine hN _ _ _ .refl (hG _ sb2) (Me K ha h0 hG hr os m.wy m.sr r3 go (λu hu=>hg u (aI _ hu)) (xs++[kY x]) (by rw[a_,cw];lia) sb2 mR (λlk S' z4 z5 s' hq'=>?_) λnk=>hE λlk=>nk lk.2);refine h ⟨k0,lk⟩ S' z4 z5 s' ?_;rw[hq',qu,aC];simp
  ·rw[bi.mp hu]at e;exact hE (λlk=>by rw[lk.1]at e;cases e) _ _ sv
def Qb{S:li}{x t:Tr}{os:List Tr}{Q:WK}{X:ah→li→Prop}(K:Bk3 ws B) (ha:S a=aa (.bO (B.map mK))) (hl:S l=aa (.bO (os.map kY))) (hx:Wy ws B x) (ex:ak B x=t) (hR:nN ws B t os) (hs:t.bo=true) (hg:∀o∈os,(b9 B o).bo=true) (hn:os.length≤800) (hr:64≤r)
  (h:ua B x os→ ∀S' q,Sub S S'→S q=none→S' q=aa (.bO ((qu B x os).map kY))→Q (.ref q) S') (hX:¬ua B x os→ ∀S',Sub S S'→X "TooGreat" S'):xv (r+1) [.ref a,kY x, .ref l] S Q X:=by
 rw[xv,t4];refine⟨rfl,?_⟩;rw[Nn];ext;refine⟨by decide,λq hq=>?_⟩;rw[G0];ext;rw[m8 (keep hl hq)];refine Me K ha hq (λS' sb=>sb _ _ hl) hr os hx ex hR hs hg [] (by simp;lia) (.bR .refl hq) mR (λlk S' y4 y5 sb hq'=>?_) λnk σ S' sb=>hX nk S' sb;rw[Na];ext;exact⟨_, .refl,h lk S' q sb hq (by rw[hq',aX])⟩
def Sh.of (K:Bk3 ws B) (h:Wy ws B x):Sh ws B (ak B x):=⟨(K.ak h).1,(K.ak h).2.1⟩
theorem Di:∀{qs:List (List Int)}{ts:List Tr},qs.length=ts.length→(∀(i:Nat) q t,qs[i]? =aa q→ts[i]? =aa t→Wi B wn n (p++q) t t)→pA B wn n p qs ts ts
 | [],[],_,_=> .nil
 |q::qs,t::ts,h,f=> .cons (f 0 q t rfl rfl) (Di (by simpa using h) λi q t h1 h2=>f (i+1) q t (by simpa using h1) (by simpa using h2))
 | [],t::ts,h,f=>by simp at h
 |q::qs,[],h,f=>by simp at h
theorem DX (K:Bk3 ws B):∀(n:Nat) (v:Tr) (p:List Int),v.depth≤n→Sh ws B v→(∀r,p++r∉wn)→Wi B wn n p v v
 |0,v,p,hd,h,hn=>by have:=qB v;lia
 |n+1,v,p,hd,h,hn=>by
  obtain⟨s,ts,rfl,_,e,k⟩:=h.cases K;rw[Tr.depth]at hd;refine .no (by simpa using hn []) e (Di (by simp) λi q t h1 h2=>?_);have hm:t∈ts:=aJ h2;have:=p5 hm;exact DX K n t (p++q) (by lia) (k t hm) λr=>by rw[bD];exact hn _
theorem LZ:∀{qs:List (List Int)}{ts us:List Tr},qs.length=ts.length→us.length=ts.length→(∀(i:Nat) q t u,qs[i]? =aa q→ts[i]? =aa t→us[i]? =aa u→Wi B wn n (p++q) t u)→pA B wn n p qs ts us
 | [],[],[],_,_,_=> .nil
 |q::qs,t::ts,u::us,h,h',f=> .cons (f 0 q t u rfl rfl rfl) (LZ (by simpa using h) (by simpa using h') λi q t u h1 h2 h3=>f (i+1) q t u (by simpa using h1) (by simpa using h2) (by simpa using h3))
 | [],t::ts,_,h,_,f=>by simp at h
 |q::qs,[],_,h,_,f=>by simp at h
 |_,t::ts,[],_,h,f=>by simp at h
 |_,[],u::us,_,h,f=>by simp at h
structure vo (B:List Tn):Prop where
  op:∀t∈B,∀us:List Tr,us.length=t.2.1.nb→o4 B (t.2.1.aD us)=aa t
  lf:∀t∈B,∃n h c d,t.2.1∈bN n h c d
mutual
theorem Wi.bd (O:qX B):∀{n:Nat}{p:List Int}{t u:Tr},Wi B wn n p t u→Wi B wn t.depth p t u
 |_,_,_,_, .no (ts:=ts) h1 h2 h3=>by
  rw[Tr.depth,dW];exact .no h1 h2 (pA.bd O h3)
 |_,_,_,_, .yes (ts:=ts) (ms:=ms) h1 h2 h3 h4 h5=>by
  rw[Tr.depth,dW];exact .yes h1 h2 h3 h4 ((pA.bd O h5).mono (IN O (bX h2) h3))
theorem pA.bd (O:qX B):∀{n:Nat}{p:List Int}{qs:List (List Int)}{ts us:List Tr},pA B wn n p qs ts us→pA B wn (m_ ts) p qs ts us
 |_,_,_,_,_, .nil=> .nil
 |_,_,_,_,_, .cons a b=>by
  rw[m_];exact .cons ((Wi.bd O a).mono (by lia)) ((pA.bd O b).mono (by lia))
end
structure Ms where
  c0:Nat
  c1:Nat
  k:Tn→Nat→Nat
mutual
def Tr.ms (B:List Tn) (m:Ms):Tr→Nat
 | .bl _=>0
 | .nd s ts=>match m9 B s with
  |none=>m.c0+nv B m (λ_=>1) 0 ts
  |some t=>m.c1+nv B m (m.k t) 0 ts
def nv (B:List Tn) (m:Ms) (f:Nat→Nat) (i:Nat):List Tr→Nat
 | []=>0
 |t::ts=>f i*t.ms B m+nv B m f (i+1) ts
end
section
variable {B:List Tn}{m:Ms}{f g:Nat→Nat}
def ve (h:m9 B s=none):(Tr.nd s ts).ms B m=m.c0+nv B m (λ_=>1) 0 ts:=by rw[Tr.ms,h]
def uq (h:m9 B s=aa t):(Tr.nd s ts).ms B m=m.c1+nv B m (m.k t) 0 ts:=by rw[Tr.ms,h]
theorem DB:∀(ts:List Tr) (i:Nat),(∀j,f j≤g j)→nv B m f i ts≤nv B m g i ts
 | [],i,h=>by rw[nv,nv];exact aA _
 |t::ts,i,h=>by
  rw[nv,nv];have h1:=dP (t.ms B m) (h i);have h2:=DB ts (i+1) h;lia
theorem Fy:∀(ts:List Tr) (i:Nat),nv B m (λj=>f j+g j) i ts=nv B m f i ts+nv B m g i ts
 | [],i=>by rw[nv,nv,nv]
 |t::ts,i=>by
  rw[nv,nv,nv,Fy ts (i+1),ck];lia
theorem Je:∀(ts:List Tr) (i:Nat),nv B m (λ_=>0) i ts=0
 | [],i=>by rw[nv]
 |t::ts,i=>by rw[nv,Je ts (i+1),Nat.zero_mul]
theorem GH:∀(ts:List Tr) (i:Nat) {t:Tr},i≤n→ts[n - i]? =aa t→nv B m (λj=>if(j:Int)=(n:Int) then 1 else 0) i ts=t.ms B m
 | [],i,t,hi,h=>by simp at h
 |u::ts,i,t,hi,h=>by
  rw[nv];by_cases e:i=n
  ·subst e;rw[gT]at h;cases h;have z:nv B m (λj=>if(j:Int)=(i:Int) then 1 else 0) (i+1) ts=0:=by
    have:∀(ts:List Tr) (k:Nat),i<k→nv B m (λj=>if(j:Int)=(i:Int) then 1 else 0) k ts=0:=by
     intro ts
     induction ts with
     |nil=>intro k _;rw[nv]
     |cons u ts ih=>
      intro k hk;rw[nv,ih (k+1) (by lia)];rw[if_neg (by lia),Nat.zero_mul]
    exact this ts _ (by lia)
   rw[z];simp
  ·have:=GH (n:=n) ts (i+1) (t:=t) (by lia) (by
    rw[show n - i=n - (i+1)+1 by lia,bU]at h
    exact h)
   rw[this,if_neg (by lia)];simp
def cn (t:Tr) (j:Nat):Nat:=t.nm.count (j:Int)
mutual
theorem Lf{P:ah→Prop}(hP:∀s,P s→m9 B s=none):∀t:Tr,t.hb P→t.bt us.length→(t.aD us).ms B m=m.c0*t.sg+nv B m (cn t) 0 us
 | .bl n,h,ft=>by
  rw[Tr.bt]at ft;have hl:n.toNat<us.length:=by lia
  rw[Tr.aD,bv,aR hl,eJ,Tr.sg,Nat.mul_zero,bE];rw[←GH (m:=m) (B:=B) (n:=n.toNat) us 0 (aO _) (aR hl)];congr 1;funext j;unfold cn;rw[Tr.nm,List.count_singleton,cm ft.1];by_cases e:(j:Int)=n
  ·rw[if_pos e,if_pos (by rw[e];exact beq_self_eq_true _)]
  ·rw[if_neg e,if_neg (λz=>e (by rw[beq_iff_eq]at z;lia))]
 | .nd s ts,h,ft=>by
  rw[Tr.bt]at ft;rw[Tr.hb]at h;rw[Tr.aD,ve (hP s h.1),B4 hP ts h.2 ft 0,Tr.sg];have:cn (.nd s ts)=λ(j:Nat)=>(pO ts).count (j:Int):=by
   funext j;unfold cn;rw[Tr.nm]
  rw[this,fj,Nat.mul_one];lia
theorem B4{P:ah→Prop}(hP:∀s,P s→m9 B s=none):∀ts:List Tr,oy P ts→m3 us.length ts→ ∀i,nv B m (λ_=>1) i (aF us ts)=m.c0*um ts+nv B m (λj=>(pO ts).count (j:Int)) 0 us
 | [],h,ft,i=>by
  have:(λj:Nat=>(pO []).count (j:Int))=λ_=>0:=by
   funext j;rw[pO];rfl
  rw[aF,nv,um,this,Je];rfl
 |t::ts,h,ft,i=>by
  rw[m3]at ft;rw[oy]at h;have:(λj:Nat=>(pO (t::ts)).count (j:Int))=λj=>cn t j+(pO ts).count (j:Int):=by
   funext j;unfold cn;rw[pO,List.count_append]
  rw[aF,nv,Lf hP t h.1 ft.1,B4 hP ts h.2 ft.2 (i+1),um,this,Fy,cZ,fj m.c0 t.sg];lia
end
end
def mP:Ms:=⟨1,3,λ_ _=>2⟩
mutual
def Tr.dm (B:List Tn):Tr→Nat
 | .bl _=>0
 | .nd s ts=>match m9 B s with
  |none=>1+o_ B ts
  |some _=>3+o_ B ts
def o_ (B:List Tn):List Tr→Nat
 | []=>0
 |t::ts=>max (t.dm B) (o_ B ts)
end
section
variable {B:List Tn}
def zx (h:m9 B s=none):(Tr.nd s ts).dm B=1+o_ B ts:=by rw[Tr.dm,h]
def xW (h:m9 B s=aa t):(Tr.nd s ts).dm B=3+o_ B ts:=by rw[Tr.dm,h]
theorem Ji:∀{ts:List Tr},x∈ts→x.dm B≤o_ B ts
 |t::ts,h=>by
  rw[o_];obtain rfl |h:=az.mp h
  ·lia
  ·have:=Ji h;lia
mutual
theorem J6{P:ah→Prop}(hP:∀s,P s→m9 B s=none):∀t:Tr,t.hb P→t.bt us.length→(t.aD us).dm B≤t.sd+o_ B us
 | .bl n,h,ft=>by
  rw[Tr.bt]at ft;have hl:n.toNat<us.length:=by lia
  rw[Tr.aD,bv,aR hl,eJ,Tr.sd,bE];exact Ji (eE ..)
 | .nd s ts,h,ft=>by
  rw[Tr.bt]at ft;rw[Tr.hb]at h;have:=FY hP ts h.2 ft;rw[Tr.aD,zx (hP s h.1),Tr.sd];lia
theorem FY{P:ah→Prop}(hP:∀s,P s→m9 B s=none):∀ts:List Tr,oy P ts→m3 us.length ts→o_ B (aF us ts)≤rV ts+o_ B us
 | [],h,ft=>by rw[aF,o_];lia
 |t::ts,h,ft=>by
  rw[m3]at ft;rw[oy]at h;have h1:=J6 hP t h.1 ft.1;have h2:=FY hP ts h.2 ft.2;rw[aF,o_,rV];lia
end
mutual
theorem Mg:∀t:Tr,t.bt us.length→(t.aD us).depth≤t.sd+m_ us
 | .bl n,ft=>by
  rw[Tr.bt]at ft;have hl:n.toNat<us.length:=by lia
  rw[Tr.aD,bv,aR hl,eJ,Tr.sd,bE];exact p5 (eE ..)
 | .nd s ts,ft=>by
  rw[Tr.bt]at ft;have:=Gn ts ft;rw[Tr.aD,Tr.depth,Tr.sd];lia
theorem Gn:∀ts:List Tr,m3 us.length ts→m_ (aF us ts)≤rV ts+m_ us
 | [],ft=>by rw[aF,m_];lia
 |t::ts,ft=>by
  rw[m3]at ft;have h1:=Mg t ft.1;have h2:=Gn ts ft.2;rw[aF,m_,rV];lia
end
end
section
variable {B:List Tn}
def xt:nv B m (λ_=>2) i ts=2*nv B m (λ_=>1) i ts:=by
 have:=Fy (B:=B) (m:=m) (f:=λ_=>1) (g:=λ_=>1) ts i;rw[show(λ_:Nat=>2)=λ_=>1+1 from rfl,this];lia
def mF.lfs (b:mF w0 w1 w2 w3 w4 w5 tt B) (G:nU w0 w1 w2 w3 w4 w5):vo B:=⟨λt ht us hu=>b.open_some G ht hu,λt ht=>by
 obtain⟨n,m,e⟩:=b.lf;have:t.2.1∈bN n w0 w2 w3++bN m w1 w2 w3:=by rw[←e];exact aV.mpr ⟨t,ht,rfl⟩
 obtain z |z:=bp.mp this
 ·exact⟨_,_,_,_,z⟩
 ·exact⟨_,_,_,_,z⟩⟩
end
theorem L7:∀(ts:List Tr) (k i:Nat) {w:Tr},ts[i]? =aa w→y∈w.op B (p++[((k+i:Nat):Int)])→y∈pB B p k ts
 | [],k,i,w,e,h=>by simp at e
 |t::ts,k,0,w,e,h=>by
  rw[jc]at e;cases e;rw[pB];exact d9 _ h
 |t::ts,k,i+1,w,e,h=>by
  rw[bU]at e;rw[pB];refine cp _ (L7 ts (k+1) i e ?_);rw[show k+1+i=k+(i+1) by lia]
  exact h
theorem M2:∀(q:List Int) {t v:Tr}{p:List Int}{u:Tn},t.at q=aa v→o4 B v=aa u→v.isBl=false→(p++q,u.1)∈t.op B p
 | [],t,v,p,u,h,ho,hb=>by
  rw[pq]at h;cases h;cases t with
  |bl n=>cases hb
  |nd s ts=>
   rw[Tr.op,ho,bg];exact d9 _ aK
 |i::q, .bl n,v,p,u,h,ho,hb=>by cases h
 |i::q, .nd s ts,v,p,u,h,ho,hb=>by
  obtain⟨w,h0,h1,h2⟩:=pP h;obtain⟨j,rfl⟩:∃j:Nat,i=j:=⟨i.toNat,(cm h0).symm⟩;rw[bb]at h1;rw[Tr.op];refine cp _ (L7 ts 0 j h1 ?_);have:=M2 q (p:=p++[(j:Int)]) h2 ho hb;rw[bE];rw[bD]at this;exact this
mutual
theorem xk:∀x:Tr,x.dQ=true→x.hd ow
 | .bl n,h=>by rw[Tr.dQ]at h;cases h
 | .nd s ts,h=>by
  rw[Tr.dQ,bV]at h;rw[Tr.hd];exact⟨(Ax s).mp h.1,Gq ts h.2⟩
theorem Gq:∀ts:List Tr,tv ts=true→hds ow ts
 | [],h=>by rw[hds];trivial
 |t::ts,h=>by
  rw[tv,bV]at h;rw[hds];exact⟨xk t h.1,Gq ts h.2⟩
end
def nF.up (hv:∀x∈vs,x∈ws) (h:nF vs B p):nF ws B p:=by
 induction h with
 |sign hh _ ih=>exact .sign (hv _ hh) ih
 |turn e hl b0 b1 _ ih=>exact .turn e hl b0 b1 ih
section
variable {ws:List ah}{B:List Tn}
def Pj (K:Bk3 ws B) {t:Tn}(ht:t∈B) {i:Nat}{e:List Int}(h:(t.2.1.bls.map λx=>x.1)[i]? =aa e):e≠ []:=by
 rintro rfl;obtain⟨b,hb,h0⟩:=aV.mp (aJ h);have ha:=(wR hb).1;rw[h0,pq,(wR hb).2.1]at ha;obtain⟨z0,ls,ez,_⟩:=K.O.inn t ht;rw[ez]at ha;cases ha
end
def K7{n:Nat}{h c d:ah}{L:Tr}(hL:L∈bN n h c d) {i:Nat}{e:List Int}(he:(L.bls.map λx=>x.1)[i]? =aa e):L.at e=aa (.bl i):=by
 unfold bN at hL;split at hL<;>simp only[az,bq,or_false]at hL
 ·subst hL;rw[WP]at he;obtain _ |i:=i
  ·cases he;rfl
  ·cases he
 ·subst hL;rw[Xk]at he;obtain _ |_ |i:=i
  ·cases he;rfl
  ·cases he;rfl
  ·cases he
 ·obtain rfl |rfl:=hL
  ·rw[Sr]at he;cases he
  ·rw[Zc]at he;obtain _ |i:=i
   ·cases he;rfl
   ·cases he
 ·obtain rfl |rfl:=hL
  ·rw[Pz]at he;obtain _ |i:=i
   ·cases he;rfl
   ·cases he
  ·rw[Su]at he;obtain _ |_ |i:=i
   ·cases he;rfl
   ·cases he;rfl
   ·cases he
 ·obtain rfl |rfl:=hL
  ·rw[Yu]at he;obtain _ |_ |_ |i:=i
   ·cases he;rfl
   ·cases he;rfl
   ·cases he;rfl
   ·cases he
  ·rw[RN]at he;obtain _ |_ |i:=i
   ·cases he;rfl
   ·cases he;rfl
   ·cases he
 ·subst hL;rw[Qh]at he;cases he
theorem xa:∀(e:List Int) {L:Tr}{n:Int},L.at e=aa (.bl n)→L.bt us.length→(L.aD us).at e=us[n.toNat]?
 | [],L,n,h,ft=>by
  rw[pq]at h;cases h;rw[Tr.bt]at ft;rw[Tr.aD,pq,bv,aR (show n.toNat<us.length by lia)]
  rfl
 |i::e, .bl k,n,h,ft=>by cases h
 |i::e, .nd s ls,n,h,ft=>by
  obtain⟨w,h0,h1,h2⟩:=pP h;rw[Tr.bt]at ft;obtain⟨j,rfl⟩:∃j:Nat,i=j:=⟨i.toNat,(cm h0).symm⟩;rw[bb]at h1;have e1:(aF us ls)[j]? =aa (w.aD us):=by rw[vp,aU,h1];rfl
  rw[Tr.aD,rO e1];exact xa e h2 (wb ft (aJ h1))
theorem Ow:∀(q:List Int) {X v:Tr},X.at q=aa v→X.bR q v=X
 | [],X,v,h=>by
  rw[pq]at h;cases h;exact tq _ _
 |i::q, .bl n,v,h=>by cases h
 |i::q, .nd s ts,v,h=>by
  obtain⟨w,h0,h1,h2⟩:=pP h;rw[tD h1,Ow q h2];congr 1;exact j4 λj=>by
   rw[kW];split
   ·rename_i e;rw[←e,h1];simp [(b7.mp h1).1]
   ·rfl
theorem uP:∀(q:List Int) {X v:Tr},X.at q=aa v→q.length+v.depth≤X.depth
 | [],X,v,h=>by
  rw[pq]at h;cases h;simp
 |i::q, .bl n,v,h=>by cases h
 |i::q, .nd s ts,v,h=>by
  obtain⟨w,h0,h1,h2⟩:=pP h;have:=uP q h2;have:=p5 (aJ h1);rw[Tr.depth,aT];lia
def Sh.sig (K:Bk3 ws B) (h:Sh ws B X):X.hd ow:=xk _ (h.dQ K)
def Sh.mkq (K:Bk3 ws B) (h:Sh ws B X) (g:Tn→Tr):X.mk B g=X:=rP K.b.ti _ (h.sig K)
def Ce (K:Bk3 ws B) {ts:List Tr}(h:∀t∈ts,Sh ws B t) (g:Tn→Tr):ts.map (Tr.mk B g)=ts:=by
 rw[dt (g:=id) λt ht=>(h t ht).mkq K g,List.map_id]
theorem FE (K:Bk3 ws B) (g:Tn→Tr) {u:Tr}:∀(q:List Int) {X v:Tr},Sh ws B X→X.at q=aa v→(X.bR q u).mk B g=X.bR q (u.mk B g)
 | [],X,v,hs,h=>by rw[tq,tq]
 |i::q, .bl n,v,hs,h=>by cases h
 |i::q, .nd s ts,v,hs,h=>by
  obtain⟨w,h0,h1,h2⟩:=pP h;obtain⟨s',ts',e,_,e2,k⟩:=hs.cases K;cases e;rw[tD h1,tD h1,qe e2,List.map_set,Ce K k,FE K g q (k w (aJ h1)) h2]
theorem K0 (hu:Wy ws B u):∀(q:List Int) {X v:Tr},Wy ws B X→X.at q=aa v→Wy ws B (X.bR q u)
 | [],X,v,hs,h=>by rw[tq];exact hu
 |i::q, .bl n,v,hs,h=>by cases h
 |i::q, .nd s ts,v,hs,h=>by
  obtain⟨w,h0,h1,h2⟩:=pP h;rw[tD h1];refine hs.re (by simp) λz hz=>?_;obtain q' |rfl:=l9 hz
  ·exact hs.dI z q'
  ·exact K0 hu q (hs.dI w (aJ h1)) h2
structure Ou (ws:List ah) (B:List Tn) (X:Tr) (q:List Int) (t:Tn) (us:List Tr):Prop where
  ht:t∈B
  hl:us.length=t.2.1.nb
  hat:X.at q=aa (t.2.1.aD us)
  sh:∀u∈us,Sh ws B u
def Ou.tt (K:Bk3 ws B) (o:Ou ws B X q t us):m9 B t.1=aa t:=rg K.b.nd o.ht
def Ou.wys (K:Bk3 ws B) (o:Ou ws B X q t us):Wy ws B (.nd t.1 us):=by
 refine⟨?_,?_⟩
 ·rw[Tr.hd,mW];exact⟨.inr ⟨t,o.ht,rfl⟩,λu hu=>(o.sh u hu).wy.hd⟩
 ·rw[Tr.ar,oA];refine⟨λt' e=>?_,λu hu=>(o.sh u hu).wy.ar⟩;rw[o.tt K]at e;cases e;exact o.hl
theorem Jw (K:Bk3 ws B) (F:vo B) (ht:t∈B) (hl:us.length=t.2.1.nb) (hu:∀u∈us,Sh ws B u):∀(q:List Int) {X:Tr}(p:List Int),Sh ws B X→X.at q=aa (t.2.1.aD us)→ ∃n,Wi B [p++q] n p X (X.bR q (.nd t.1 us))
 | [],X,p,hs,h=>by
  rw[pq]at h;cases h;obtain⟨s0,ts0,e3,_⟩:=hs.cases K;have ho:=F.op t ht _ hl;have hm:=K.O.mt t ht _ hl;rw[tq,e3];rw[e3]at ho hm;refine⟨m_ us+1, .yes (by simp) ho hm (rg K.b.nd ht) (Di (by rw[ay,hl,Fg]) λi q v h1 h2=>?_)⟩;have hv:v∈us:=aJ h2;refine DX K _ _ _ (p5 hv) (hu v hv) λr hr=>?_;have h0:=Pj K ht h1;rw[bg,bi,bD]at hr;have:=congrArg dU hr;simp at this;exact h0 this.1
 |i::q, .bl n,p,hs,h=>by cases h
 |i::q, .nd s ts,p,hs,h=>by
  obtain⟨w,h0,h1,h2⟩:=pP h;obtain⟨s',ts',e,_,e2,k⟩:=hs.cases K;cases e;obtain⟨j,rfl⟩:∃j:Nat,i=j:=⟨i.toNat,(cm h0).symm⟩;rw[bb]at h1;obtain⟨n,hn⟩:=Jw K F ht hl hu q (p++[(j:Int)]) (k w (aJ h1)) h2;rw[tD (by rw[bb];exact h1),bb];refine⟨(n+m_ ts)+1, .no (by simp) e2 (LZ (by simp) (by simp) λi' q' t' u' g1 g2 g3=>?_)⟩;have g1':q'=[(i':Int)]:=by
   have hi:=(b7.mp g2).1;rw[aU,fN hi]at g1;cases g1;rfl
  subst g1';have hd:=p5 (aJ g2);rw[kW]at g3;by_cases e:j=i'
  ·subst e;rw[h1]at g2;cases g2;rw[if_pos rfl,if_pos (b7.mp h1).1]at g3;cases g3;have:=hn.mono (m:=n+m_ ts) (by lia);rw[bD]at this;exact this
  ·rw[if_neg e,g2]at g3;cases g3;refine DX K _ _ _ (by lia) (k _ (aJ g2)) λr hr=>?_;rw[bi,bD,List.append_cancel_left_eq]at hr;simp at hr;lia
theorem Mm:∀(ts:List Tr) (k:Nat),y∈pB B p k ts→ ∃(j:Nat) (w:Tr),ts[j]? =aa w∧y∈w.op B (p++[((k+j:Nat):Int)])
 | [],k,h=>by rw[pB]at h;cases h
 |t::ts,k,h=>by
  rw[pB]at h;obtain h |h:=bp.mp h
  ·exact⟨0,t,rfl,h⟩
  ·obtain⟨j,w,e,h'⟩:=Mm ts (k+1) h;refine⟨j+1,w,by simpa using e,?_⟩
   rw[show k+(j+1)=k+1+j by lia]
   exact h'
theorem yp (K:Bk3 ws B):∀(n:Nat) {X:Tr}{p:List Int}{y:List Int×ah},X.depth≤n→Sh ws B X→y∈X.op B p→ ∃q t us,y.1=p++q∧Ou ws B X q t us
 |0,X,p,y,hn,h,hy=>by have:=qB X;lia
 |n+1,X,p,y,hn,h,hy=>by
  obtain⟨s,ts,rfl,_,e,k⟩:=h.cases K;rw[Tr.depth]at hn;rw[Tr.op]at hy;obtain hy |hy:=bp.mp hy
  ·cases eo:o4 B (.nd s ts) with
   |none=>rw[eo]at hy;cases hy
   |some t=>
    rw[eo]at hy;rw[bi]at hy;subst hy;have ht:t∈B:=bX eo;have hm:=eN eo;obtain⟨ms,em⟩:=dy.mp hm;obtain⟨p1,p2,p3⟩:=h.parts K ht em;exact⟨[],t,ms,by simp,ht,p2,by rw[pq,p1],p3⟩
  ·obtain⟨j,w,ew,hw⟩:=Mm ts 0 hy;have hm:=aJ ew;obtain⟨q,t,us,e1,o⟩:=yp K n (by have:=p5 hm;lia) (k w hm) hw;refine⟨(j:Int)::q,t,us,by rw[e1,bE,bD];rfl,o.ht,o.hl,?_,o.sh⟩
   rw[rO ew];exact o.hat
def wyO (X:Tr) (q:List Int) (t:Tn) (us:List Tr):Tr:=X.bR q (.nd t.1 us)
def toO (X:Tr) (q:List Int) (t:Tn) (us:List Tr):Tr:=X.bR q (t.2.2.aD us)
def Ou.ak (K:Bk3 ws B) (h:Sh ws B X) (o:Ou ws B X q t us):ak B (wyO X q t us)=X:=by
 show(X.bR q (.nd t.1 us)).mk B _=X;rw[FE K _ q h o.hat,pY (o.tt K),Ce K o.sh];exact Ow q o.hat
def Ou.b9 (K:Bk3 ws B) (h:Sh ws B X) (o:Ou ws B X q t us):b9 B (wyO X q t us)=toO X q t us:=by
 show(X.bR q (.nd t.1 us)).mk B _=_;rw[FE K _ q h o.hat,pY (o.tt K),Ce K o.sh];rfl
def Ou.wy (K:Bk3 ws B) (h:Sh ws B X) (o:Ou ws B X q t us):Wy ws B (wyO X q t us):=K0 (o.wys K) q h.wy o.hat
def Ou.to (K:Bk3 ws B) (h:Sh ws B X) (o:Ou ws B X q t us):Sh ws B (toO X q t us):=by
 have g:=K.b9 (o.wy K h);rw[o.b9 K h]at g;exact⟨g.1,g.2.1⟩
def Ou.wi (K:Bk3 ws B) (F:vo B) (h:Sh ws B X) (o:Ou ws B X q t us):Wi B [q] X.depth [] X (wyO X q t us):=by
 obtain⟨n,hn⟩:=Jw K F o.ht o.hl o.sh q [] h o.hat;exact hn.bd K.O
def Ou.op (K:Bk3 ws B) (F:vo B) (o:Ou ws B X q t us):q∈(X.op B []).map λx=>x.1:=by
 obtain⟨z,ls,ez,_⟩:=K.O.inn t o.ht;have:=M2 (B:=B) q (p:=[]) o.hat (F.op t o.ht us o.hl) (by rw[ez,Tr.aD];rfl);exact aV.mpr ⟨_,this,by simp⟩
inductive qK (ws:List ah) (B:List Tn):Tr→List (List Int)→List Tr→List Tr→Prop
 |nil {X:Tr}:Sh ws B X→X.bo=true→qK ws B X [] [] []
 |cons {X:Tr}{q:List Int}{t:Tn}{us:List Tr}{qs:List (List Int)}{ss Ys:List Tr}:Sh ws B X→X.bo=true→Ou ws B X q t us→qK ws B (toO X q t us) qs ss Ys→qK ws B X (q::qs) (wyO X q t us::ss) (toO X q t us::Ys)
def pU (X:Tr):List Tr→Tr
 | []=>X
 |Y::Ys=>pU Y Ys
theorem FK:∀(X:Tr) (Ys:List Tr),pU X (Ys++[Z])=Z
 |X,[]=>rfl
 |X,Y::Ys=>FK Y Ys
def qK.head (P:qK ws B X qs ss Ys):Sh ws B X∧X.bo=true:=by cases P with
 |nil h s=>exact⟨h,s⟩
 |cons h s _ _=>exact⟨h,s⟩
def qK.len (P:qK ws B X qs ss Ys):ss.length=qs.length∧Ys.length=qs.length:=by
 induction P with
 |nil _ _=>exact⟨rfl,rfl⟩
 |cons _ _ _ _ ih=>exact⟨by simp [ih.1],by simp [ih.2]⟩
def qK.snoc (K:Bk3 ws B) (P:qK ws B X qs ss Ys) (o:Ou ws B (pU X Ys) q t us) (hs:(toO (pU X Ys) q t us).bo=true):qK ws B X (qs++[q]) (ss++[wyO (pU X Ys) q t us]) (Ys++[toO (pU X Ys) q t us]):=by
 induction P with
 |nil h s=>exact .cons h s o (.nil (o.to K h) hs)
 |cons h s o' _ ih=>exact .cons h s o' (ih o hs)
structure Bx (w0 w1 w2 w3 w4 w5:ah) (tt:List ah) (B:List Tn):Prop where
  b:mF w0 w1 w2 w3 w4 w5 tt B
  T:pG tt
  G:nU w0 w1 w2 w3 w4 w5
  rx:∀t∈B,RX t.2.2
def Bx.k (c:Bx w0 w1 w2 w3 w4 w5 tt B):Bk3 [w0,w1,w2,w3,w4,w5] B:=c.b.bk3 c.T c.G
def Bx.fs (c:Bx w0 w1 w2 w3 w4 w5 tt B):vo B:=c.b.lfs c.G
def Bx.lf (c:Bx w0 w1 w2 w3 w4 w5 tt B):rz B:=⟨λt ht=>(c.k.b.lf t ht).dp,λt ht=>by
 have h1:=(c.k.b.lf t ht).wt;have h2:=(c.k.b.lf t ht).nb;lia⟩
def Bx.pb (c:Bx w0 w1 w2 w3 w4 w5 tt B):PB B:=λt ht y hy=>by
 have h1:=(wR hy).2.2;have h2:=(c.k.b.lf t ht).dp;lia
def Rt{rest:List (List Int)}(c:Bx w0 w1 w2 w3 w4 w5 tt B) (fb:S0 a=aa (.bO (B.map mK))) (fl:S0 l=aa (.bO F)) (h0:S0 f=none) (hr:120≤r) (P:qK [w0,w1,w2,w3,w4,w5] B X qs ss Ys):∀{S:li}{zs:List Tr}{x5 x6:Option W},Sub S0 S→S f=aa (.bO (zs.map kY))→zs.length+ss.length≤1000→
  (∀S' x5 x6,Sub S0 S'→S' f=aa (.bO ((zs++ss).map kY))→mO (mx 5) (BS (r+1) mH) E D (λS'=>S' l=aa (.bO F)) (rest.map mB) [aa (.ref a),aa (kY X0),aa (.ref l),aa (.ref f),aa (kY (pU X Ys)),x5,x6] S')→
  mO (mx 5) (BS (r+1) mH) E D (λS'=>S' l=aa (.bO F)) ((qs++rest).map mB) [aa (.ref a),aa (kY X0),aa (.ref l),aa (.ref f),aa (kY X),x5,x6] S:=by
 induction P with
 | @nil X h s=>
  intro S zs x5 x6 sb ff hl k;have:=k S x5 x6 sb (by rw[bg];exact ff);exact this
 | @cons X q t us qs ss Ys h sm o P ih=>
  intro S zs x5 x6 sb ff hl k;obtain⟨s1,s2⟩:=qS sm;rw[aT]at hl;rw[cj,aC];refine pT λN hN=>?_;simp only[BS];ext;refine⟨by decide,λg hg=>?_⟩;have fg:bR S g (Ob.bO [mB q]) g=aa (.bO ([q].map mB)):=mR;replace ff:=keep (x:=Ob.bO [mB q]) ff hg;replace sb:=sb.trans (.bR .refl hg:Sub S (bR S g (Ob.bO [mB q])));generalize bR S g (Ob.bO [mB q])=S1 at fg ff sb⊢;have fb1:=sb _ _ fb;refine Pe (r:=r) (wn:=[q]) c.lf c.pb (o.wi c.k c.fs h) (by lia) (by lia) fb1 fg (vR (λ_ _=>trivial) _ h.wy.hd) (by lia) (by lia) (by simp) rfl (λy hy=>by rw[bi]at hy;rw[hy];exact o.op c.k c.fs) ?_
  try ext
  refine c.k.ok_goalX (r:=r) (o.wy c.k h) (by rw[o.ak c.k h];exact sm) fb1 (by lia) (λ_=>?_) λz=>?_
  ·rw[o.b9 c.k h]
   try ext
   simp only[m8 ff,ay];refine⟨trivial,qC (by lia),?_⟩;have e:zs.map kY++[kY (wyO X q t us)]=(zs++[wyO X q t us]).map kY:=by rw[bM];rfl
   rw[e];have fl1:bR S1 f (Ob.bO ((zs++[wyO X q t us]).map kY)) l=aa (.bO F):=by
    rw[nO (by rintro rfl;rw[fl]at h0;cases h0)];exact sb _ _ fl
   refine hN _ _ _ .refl fl1 (ih (zs:=zs++[wyO X q t us]) (λd ob ed=>?_) mR (by simp;lia) λS' x5 x6 sb' ff'=>k S' x5 x6 sb' (by rw[List.append_cons];exact ff'));by_cases hd:d=f
   ·rw[hd,h0]at ed;cases ed
   ·rw[nO hd];exact sb d ob ed
  ·have:=P.head.2;rw[o.b9 c.k h]at z;rw[z]at this;cases this
def Wt{E:ah→li→Prop}(c:Bx w0 w1 w2 w3 w4 w5 tt B) (P:qK [w0,w1,w2,w3,w4,w5] B X qs ss Ys) (fb:S a=aa (.bO (B.map mK))) (fl:S l=aa (.bO (qs.map mB))) (hl:ss.length≤1000) (hr:122≤r) (h:∀S' k,Sub S S'→S k=none→S' k=aa (.bO (ss.map kY))→Q (.bW [kY X, .ref k]) S'):A8 (r+1) [.ref a,kY X, .ref l] S Q E:=by
 obtain⟨r,rfl⟩:∃r',r=r'+1:=⟨r - 1,by lia⟩
 rw[A8];ext;refine⟨aO _,λk hk=>?_⟩
 try ext
 rw[m8 (keep fl hk)];have:=Rt (E:=λc _ S'=>E c S') (D:={ nx:=mU (m5 (jK (jA 1) (jK (jA 3) ae))) (λc _ S'=>E c S') { nx:=λ_ S'=>∃S'',Sub S'' S'∧Q W.cc S'',rt:=λw S'=>∃S'',Sub S'' S'∧Q w S'' },rt:=λw S'=>∃S'',Sub S'' S'∧Q w S'' }) (S0:=S) (X0:=X) (rest:=[]) (r:=r) c fb fl hk (by lia) P (S:=bR S k (Ob.bO [])) (zs:=[]) (x5:=none) (x6:=none) (.bR .refl hk) mR (by simp;lia) λS' x5 x6 sb ff=>?_
 ·rw[bg]at this;exact this
 ·simp only[cr,mO];ext;exact⟨by decide,S', .refl,h S' k sb hk ff⟩
def hk (w0 w1:ah):List Tn:=[(w0, .bl 0, .bl 0),(w1, .bl 0, .bl 0)]
structure Dr (w0 w1 w2 w3 w4 w5:ah) (tt:List ah) (B:List Tn):Prop where
  c:mZ w0 w1 w2 w3 w4 w5 tt B
  ri:∀t∈B,t.2.2∈qa w0 w1 w2 w3 w4 w5 t.2.1.nb false
def OX (h0:w0≠s) (h1:w1≠s):m9 (hk w0 w1) s=none:=by
 unfold m9 hk;simp [h0,h1]
def HN:∃t,m9 (hk w0 w1) w0=aa t:=⟨(w0, .bl 0, .bl 0),by unfold m9 hk;simp⟩
def UT:∃t,m9 (hk w0 w1) w1=aa t:=by
 by_cases e:w0=w1
 ·subst e;exact HN
 ·exact⟨(w1, .bl 0, .bl 0),by unfold m9 hk;simp [e]⟩
def nU.no (G:nU w0 w1 w2 w3 w4 w5):∀s∈ [w2,w3,w4,w5],m9 (hk w0 w1) s=none:=λs hs=>OX (G.n0 s (aI _ hs)) (G.n1 s hs)
def RA (hm:m≤3) {P:ah→Prop}(hP:∀s∈ [w2,w3,w4,w5],P s):∀t∈qa w0 w1 w2 w3 w4 w5 m false,t.hb P:=by
 intro t ht;have h2:=hP w2 (by simp);have h3:=hP w3 (by simp);have h4:=hP w4 (by simp);have h5:=hP w5 (by simp);obtain _ |_ |_ |_ |m:=m
 all_goals first
  |lia
  | (simp only[qa,cj,aX,if_false,cF,az,bq,or_false]at ht<;>(try rcases ht with rfl |rfl |rfl |rfl |rfl |rfl |rfl |rfl)<;>(try rcases ht with rfl |rfl |rfl |rfl |rfl |rfl |rfl)<;>(try rcases ht with rfl |rfl |rfl |rfl |rfl |rfl)<;>(try rcases ht with rfl |rfl |rfl |rfl |rfl)<;>(try rcases ht with rfl |rfl |rfl)<;>simp [Tr.hb,oy,h2,h3,h4,h5])
structure Ot (w0 w1:ah) (L:Tr):Prop where
  ex:∃h ls t,L= .nd h ls∧m9 (hk w0 w1) h=aa t∧oy (λs=>m9 (hk w0 w1) s=none) ls∧um ls≤2∧rV ls≤2∧(pO ls).Nodup∧ ∀i:Nat,i<L.nb→(i:Int)∈pO ls
def ME (ht:m9 (hk w0 w1) h=aa t) (h2:m9 (hk w0 w1) w2=none) (h3:m9 (hk w0 w1) w3=none):∀L∈bN n h w2 w3,Ot w0 w1 L:=by
 intro L hL;have one:∀i:Nat,i<1→(i:Int)∈ [(0:Int)]:=λi hi=>by
  have:i=0:=by lia
  subst this;simp
 have two:∀i:Nat,i<2→(i:Int)∈ [(0:Int),1]:=λi hi=>by
  obtain rfl |rfl:i=0∨i=1:=by lia
  ·simp
  ·simp
 have three:∀i:Nat,i<3→(i:Int)∈ [(0:Int),1,2]:=λi hi=>by
  obtain rfl |rfl |rfl:i=0∨i=1∨i=2:=by lia
  ·simp
  ·simp
  ·simp
 unfold bN at hL;split at hL<;>simp only[az,bq,or_false]at hL
 all_goals first
  | (subst hL;exact⟨_,_,t,rfl,ht,by simp [oy,Tr.hb,h2,h3],by simp [um,Tr.sg],by simp [rV,Tr.sd],by simp [pO,Tr.nm],by simp only[Tr.nb,nbs,pO,Tr.nm,cj,aX,bg,dL,bE,ln];first |exact one |exact two |exact three | (intro i hi;lia)⟩)
  | (rcases hL with rfl |rfl<;>exact⟨_,_,t,rfl,ht,by simp [oy,Tr.hb,h2,h3],by simp [um,Tr.sg],by simp [rV,Tr.sd],by simp [pO,Tr.nm],by simp only[Tr.nb,nbs,pO,Tr.nm,cj,aX,bg,dL,bE,ln];first |exact one |exact two |exact three | (intro i hi;lia)⟩)
def mZ.lh (c:mZ w0 w1 w2 w3 w4 w5 tt B) (ht:t∈B):Ot w0 w1 t.2.1:=by
 have h2:=c.G.no w2 (by simp);have h3:=c.G.no w3 (by simp);obtain⟨n,z |z⟩:=c.b.mem_lefts ht
 ·obtain⟨u,hu⟩:=HN (w0:=w0) (w1:=w1);exact ME hu h2 h3 _ z
 ·obtain⟨u,hu⟩:=UT (w0:=w0) (w1:=w1);exact ME hu h2 h3 _ z
def mZ.nb3 (c:mZ w0 w1 w2 w3 w4 w5 tt B) (ht:t∈B):t.2.1.nb≤3:=(c.bk.lf t ht).nb
def Dr.no (d:Dr w0 w1 w2 w3 w4 w5 tt B) (ht:t∈B):t.2.2.hb λs=>m9 (hk w0 w1) s=none:=RA (d.c.nb3 ht) d.c.G.no _ (d.ri t ht)
def Dr.rx (d:Dr w0 w1 w2 w3 w4 w5 tt B):∀t∈B,RX t.2.2:=λt ht=>O2 (d.c.nb3 ht) false _ (d.ri t ht)
mutual
theorem Q_:∀(t:Tr) {i:Nat},(i:Int)∈t.nm→us[i]? =aa u→u.dm H≤(t.aD us).dm H
 | .bl n,i,hi,hu=>by
  rw[Tr.nm,bi]at hi;subst hi;rw[Tr.aD,bb,bv,hu];exact aA _
 | .nd s ts,i,hi,hu=>by
  rw[Tr.nm]at hi;have:=FV (H:=H) ts hi hu;rw[Tr.aD,Tr.dm];split<;>lia
theorem FV:∀(ts:List Tr) {i:Nat},(i:Int)∈pO ts→us[i]? =aa u→u.dm H≤o_ H (aF us ts)
 | [],i,hi,hu=>by rw[pO]at hi;cases hi
 |t::ts,i,hi,hu=>by
  rw[pO]at hi;rw[aF,o_];obtain z |z:=bp.mp hi
  ·have:=Q_ (H:=H) t z hu;lia
  ·have:=FV (H:=H) ts z hu;lia
end
theorem Jd:∀(us:List Tr),(∀u∈us,u.dm H≤n)→o_ H us≤n
 | [],h=>by rw[o_];lia
 |u::us,h=>by
  have:=h u aK;have:=Jd us λv hv=>h v (aI _ hv);rw[o_];lia
def mN:Ms:=⟨0,1,λ_ _=>1⟩
structure Mh (m:Ms):Prop where
  k:m.k=λ_ _=>2
  c:3*m.c0≤m.c1
theorem Mi{f g:Nat→Nat}:∀(ts:List Tr) (i:Nat),(∀j,i≤j→j<i+ts.length→f j≤g j)→nv H m f i ts≤nv H m g i ts
 | [],i,h=>by rw[nv,nv];exact aA _
 |t::ts,i,h=>by
  rw[aT]at h;rw[nv,nv];have h1:=dP (t.ms H m) (h i (aA _) (by lia));have h2:=Mi (m:=m) (H:=H) ts (i+1) λj h3 h4=>h j (by lia) (by lia);lia
theorem DA:∀(ts:List Tr) (i:Nat),(∀x∈ts,(b9 B x).ms H m+d*x.ms B mN≤(ak B x).ms H m)→nv H m (λ_=>1) i (ts.map (b9 B))+d*nv B mN (λ_=>1) i ts≤nv H m (λ_=>1) i (ts.map (ak B))
 | [],i,h=>by simp [nv]
 |x::ts,i,h=>by
  have h1:=h x aK;have h2:=DA ts (i+1) λy hy=>h y (aI _ hy);rw[aC,aC,nv,nv,nv,cZ,cZ,cZ,fj];lia
theorem Dr.ms (d:Dr w0 w1 w2 w3 w4 w5 tt B) (M:Mh m):∀(n:Nat) {x:Tr},x.aq≤n→Wy [w0,w1,w2,w3,w4,w5] B x→(b9 B x).ms (hk w0 w1) m+(m.c1 - 3*m.c0)*x.ms B mN≤(ak B x).ms (hk w0 w1) m
 |0,x,hn,hx=>by have:=rN x;lia
 |n+1,x,hn,hx=>by
  have b:=d.c.K.b;obtain ⟨h,ts,rfl,_,e,k⟩ |⟨t,ts,ht,rfl,e,hl,k⟩:=Wy.cases b hx
  ·rw[Tr.aq]at hn;have ih:=DA (B:=B) (m:=m) (d:=m.c1 - 3*m.c0) (H:=hk w0 w1) ts 0 λy hy=>Dr.ms d M n (by have:=pf hy;lia) (k y hy);have e0:(mN.c0)=0:=rfl;rw[b9,ak,qe e,qe e,ve e,e0,bE];show(Tr.nd h (ts.map (b9 B))).ms (hk w0 w1) m+_≤(Tr.nd h (ts.map (ak B))).ms (hk w0 w1) m;cases eh:m9 (hk w0 w1) h with
   |none=>rw[ve eh,ve eh];lia
   |some u=>
    rw[uq eh,uq eh,M.k];show m.c1+nv _ m (λ_=>2) 0 _+_≤m.c1+nv _ m (λ_=>2) 0 _;rw[xt,xt];have:(m.c1 - 3*m.c0)*nv B mN (λ_=>1) 0 ts≤2*((m.c1 - 3*m.c0)*nv B mN (λ_=>1) 0 ts):=by lia
    lia
  ·rw[Tr.aq]at hn;have ih:=DA (B:=B) (m:=m) (d:=m.c1 - 3*m.c0) (H:=hk w0 w1) ts 0 λy hy=>Dr.ms d M n (by have:=pf hy;lia) (k y hy);have e1:mN.c1=1:=rfl;have rx:=d.rx t ht;have hls:(ts.map (ak B)).length=t.2.1.nb:=by rw[ay,hl]
   have hlg:(ts.map (b9 B)).length=t.2.1.nb:=by rw[ay,hl]
   obtain⟨h,ls,u,eL,eh,hb,_,_,_,nm⟩:=(d.c.lh ht).ex;have fl:=(b.lf t ht).bt;have q1:=Lf (B:=hk w0 w1) (m:=m) (λ_ z=>z) (us:=ts.map (b9 B)) t.2.2 (d.no ht) (by rw[hlg];exact(b.ri t ht).bt);have q2:nv (hk w0 w1) m (cn t.2.2) 0 (ts.map (b9 B))≤nv (hk w0 w1) m (λ_=>2) 0 (ts.map (b9 B)):=DB _ 0 λj=>rx.ct _;rw[xt]at q2;have q3:=rx.sg;have q4:(ak B (.nd t.1 ts)).ms (hk w0 w1) m≥m.c1+2*nv (hk w0 w1) m (λ_=>1) 0 (ts.map (ak B)):=by
    rw[ak,pY e];show(t.2.1.aD (ts.map (ak B))).ms (hk w0 w1) m≥_;rw[eL,Tr.bt]at fl;rw[eL,Tr.aD,uq eh,M.k];show m.c1+nv _ m (λ_=>2) 0 _≥_;rw[xt,B4 (B:=hk w0 w1) (m:=m) (λ_ z=>z) ls hb (by rw[hls,eL];exact fl) 0];have:nv (hk w0 w1) m (λ_=>1) 0 (ts.map (ak B))≤nv (hk w0 w1) m (λj=>(pO ls).count (j:Int)) 0 (ts.map (ak B)):=by
     refine Mi _ 0 λj _ hj=>List.one_le_count_iff.mpr (nm j ?_);rw[bE,hls]at hj;exact hj
    lia
   have q5:(b9 B (.nd t.1 ts)).ms (hk w0 w1) m=m.c0*t.2.2.sg+nv (hk w0 w1) m (cn t.2.2) 0 (ts.map (b9 B)):=by
    rw[←q1,b9,pY e]
   have q6:m.c0*t.2.2.sg≤m.c0*3:=fM _ q3;have q7:(Tr.nd t.1 ts).ms B mN=1+nv B mN (λ_=>1) 0 ts:=by rw[uq e];rfl
   have q8:=M.c;rw[q5,q7,fj,Nat.mul_one];have:(m.c1 - 3*m.c0)*nv B mN (λ_=>1) 0 ts≤2*((m.c1 - 3*m.c0)*nv B mN (λ_=>1) 0 ts):=by lia
   lia
theorem Dz:∀(ts:List Tr),(∀x∈ts,(b9 B x).dm H≤(ak B x).dm H)→o_ H (ts.map (b9 B))≤o_ H (ts.map (ak B))
 | [],h=>by simp
 |x::ts,h=>by
  have h1:=h x aK;have h2:=Dz ts λy hy=>h y (aI _ hy);rw[aC,aC,o_,o_];lia
theorem Dr.dm (d:Dr w0 w1 w2 w3 w4 w5 tt B):∀(n:Nat) {x:Tr},x.aq≤n→Wy [w0,w1,w2,w3,w4,w5] B x→(b9 B x).dm (hk w0 w1)≤(ak B x).dm (hk w0 w1)
 |0,x,hn,hx=>by have:=rN x;lia
 |n+1,x,hn,hx=>by
  have b:=d.c.K.b;obtain ⟨h,ts,rfl,_,e,k⟩ |⟨t,ts,ht,rfl,e,hl,k⟩:=Wy.cases b hx
  ·rw[Tr.aq]at hn;have ih:=Dz (B:=B) (H:=hk w0 w1) ts λy hy=>Dr.dm d n (by have:=pf hy;lia) (k y hy);rw[b9,ak,qe e,qe e];show(Tr.nd h (ts.map (b9 B))).dm (hk w0 w1)≤(Tr.nd h (ts.map (ak B))).dm (hk w0 w1);cases eh:m9 (hk w0 w1) h with
   |none=>rw[zx eh,zx eh];lia
   |some u=>rw[xW eh,xW eh];lia
  ·rw[Tr.aq]at hn;have ih:=Dz (B:=B) (H:=hk w0 w1) ts λy hy=>Dr.dm d n (by have:=pf hy;lia) (k y hy);have rx:=d.rx t ht;have hls:(ts.map (ak B)).length=t.2.1.nb:=by rw[ay,hl]
   have hlg:(ts.map (b9 B)).length=t.2.1.nb:=by rw[ay,hl]
   obtain⟨h,ls,u,eL,eh,hb,_,_,_,nm⟩:=(d.c.lh ht).ex;have q1:=J6 (B:=hk w0 w1) (λ_ z=>z) (us:=ts.map (b9 B)) t.2.2 (d.no ht) (by rw[hlg];exact(b.ri t ht).bt);have q3:=rx.sd;have q4:(ak B (.nd t.1 ts)).dm (hk w0 w1)≥3+o_ (hk w0 w1) (ts.map (ak B)):=by
    rw[ak,pY e];show(t.2.1.aD (ts.map (ak B))).dm (hk w0 w1)≥_;rw[eL,Tr.aD,xW eh];have:o_ (hk w0 w1) (ts.map (ak B))≤o_ (hk w0 w1) (aF (ts.map (ak B)) ls):=Jd _ λv hv=>by
     obtain⟨i,hi,ei⟩:=fx hv;exact FV ls (nm i (by rw[←hls];exact hi)) (by rw[aR hi,ei])
    lia
   have q5:(b9 B (.nd t.1 ts)).dm (hk w0 w1)=(t.2.2.aD (ts.map (b9 B))).dm (hk w0 w1):=by
    rw[b9,pY e]
   rw[q5];lia
mutual
theorem IG:∀{t:Tr},(t.hd λ_=>True)→t.aq≤t.ms H mP∧t.depth≤t.dm H
 | .bl n,h=>by rw[Tr.hd]at h;exact h.elim
 | .nd s ts,h=>by
  rw[Tr.hd]at h;obtain⟨h1,h2⟩:=DP (H:=H) (f:=λ_=>1) (λ_=>aA _) h.2 0;obtain⟨h3,h4⟩:=DP (H:=H) (f:=λ_=>2) (λ_=>by lia) h.2 0
  cases e:m9 H s with
  |none=>
   rw[ve e,zx e,Tr.aq,Tr.depth];have:mP.c0=1:=rfl;lia
  |some t=>
   rw[uq e,xW e,Tr.aq,Tr.depth];have:mP.c1=3:=rfl;have e2:nv H mP (mP.k t) 0 ts=nv H mP (λ_=>2) 0 ts:=rfl;lia
theorem DP{f:Nat→Nat}(hf:∀j,1≤f j):∀{ts:List Tr},hds (λ_=>True) ts→ ∀i,mJ ts≤nv H mP f i ts∧m_ ts≤o_ H ts
 | [],h,i=>by rw[mJ,nv,m_,o_];lia
 |t::ts,h,i=>by
  rw[hds]at h;obtain⟨h1,h2⟩:=IG (H:=H) h.1;obtain⟨h3,h4⟩:=DP (H:=H) hf h.2 (i+1);have:=kA (t.ms H mP) (hf i);rw[mJ,nv,m_,o_];lia
end
structure Cl (w0 w1 w2 w3 w4 w5:ah) (B:List Tn) (X:Tr):Prop where
  sh:Sh [w0,w1,w2,w3,w4,w5] B X
  p:X.ms (hk w0 w1) mP≤400
  q:X.dm (hk w0 w1)≤40
def Cl.sm (h:Cl w0 w1 w2 w3 w4 w5 B X):X.bo=true:=by
 obtain⟨h1,h2⟩:=IG (H:=hk w0 w1) (vR (λ_ _=>trivial) _ h.sh.wy.hd);have:=h.p;have:=h.q;exact Em (by lia) (by lia)
def Dr.cl (d:Dr w0 w1 w2 w3 w4 w5 tt B) (hx:Wy [w0,w1,w2,w3,w4,w5] B x) (h:Cl w0 w1 w2 w3 w4 w5 B (ak B x)):Cl w0 w1 w2 w3 w4 w5 B (b9 B x):=by
 have h1:=d.ms (m:=mP) ⟨rfl,by decide⟩ _ (aA _) hx
 have h2:=d.dm _ (aA _) hx;have h3:=h.p;have h4:=h.q;have:=d.c.K.b9 hx;exact⟨⟨this.1,this.2.1⟩,by lia,by lia⟩
def mT:Ms:=⟨0,1,λ_ _=>2⟩
mutual
def Tr.hn (H:List Tn):Tr→Nat
 | .bl _=>0
 | .nd s ts=>match m9 H s with
  |none=>hns H ts
  |some _=>1+hns H ts
def hns (H:List Tn):List Tr→Nat
 | []=>0
 |t::ts=>max (t.hn H) (hns H ts)
end
def Fd (h:m9 H s=none):(Tr.nd s ts).hn H=hns H ts:=by rw[Tr.hn,h]
def Gj (h:m9 H s=aa t):(Tr.nd s ts).hn H=1+hns H ts:=by rw[Tr.hn,h]
theorem Dk:∀{ts:List Tr},x∈ts→x.hn H≤hns H ts
 |t::ts,h=>by
  rw[hns];obtain rfl |h:=az.mp h
  ·lia
  ·have:=Dk (H:=H) h;lia
mutual
theorem RL{P:ah→Prop}(hP:∀s,P s→m9 H s=none):∀t:Tr,t.hb P→t.bt us.length→(t.aD us).hn H≤hns H us
 | .bl n,h,ft=>by
  rw[Tr.bt]at ft;have hl:n.toNat<us.length:=by lia
  rw[Tr.aD,bv,aR hl,eJ];exact Dk (eE ..)
 | .nd s ts,h,ft=>by
  rw[Tr.bt]at ft;rw[Tr.hb]at h;rw[Tr.aD,Fd (hP s h.1)];exact Fp hP ts h.2 ft
theorem Fp{P:ah→Prop}(hP:∀s,P s→m9 H s=none):∀ts:List Tr,oy P ts→m3 us.length ts→hns H (aF us ts)≤hns H us
 | [],h,ft=>by rw[aF,hns];lia
 |t::ts,h,ft=>by
  rw[m3]at ft;rw[oy]at h;have h1:=RL hP t h.1 ft.1;have h2:=Fp hP ts h.2 ft.2;rw[aF,hns];lia
end
def Y2{m1 m2 s1 s2 a b:Nat}(ha:1≤a) (hb:1≤b) (h1:m1+7≤(s1+7)*a) (h2:m2+7≤(s2+7)*b):m1+m2+7≤(s1+s2+7)*(a*b):=by
 have e1:s1*a≤s1*(a*b):=fM _ (lO _ hb);have e2:s2*b≤s2*(a*b):=fM _ (kA _ ha);have e3:a+b≤a*b+1:=by
  obtain⟨a,rfl⟩:∃a',a=a'+1:=⟨a - 1,by lia⟩
  obtain⟨b,rfl⟩:∃b',b=b'+1:=⟨b - 1,by lia⟩
  rw[fj,ck];lia
 rw[ck]at h1 h2;rw[ck,ck];lia
def WZ (ha:1≤a) (hb:1≤b) (h1:m1+1≤a) (h2:m2+1≤b):m1+m2+1≤a*b:=by
 have e3:a+b≤a*b+1:=by
  obtain⟨a,rfl⟩:∃a',a=a'+1:=⟨a - 1,by lia⟩
  obtain⟨b,rfl⟩:∃b',b=b'+1:=⟨b - 1,by lia⟩
  rw[fj,ck];lia
 lia
structure IK (H:List Tn) (B:List Tn) (p:Pl):Prop where
  n:p.nt≤p.wt
  a:(p.ev B zr).ms H mP+7≤(p.wt - p.nt+7)*2 ^ p.nt
  b:(p.ev B zr).ms H mT+1≤2 ^ p.nt
  c:(p.ev B zr).dm H≤p.wt+4*p.nt
  d:(p.ev B zr).hn H≤p.nt
theorem F2:∀(ps:List Pl),(∀p∈ps,IK H B p)→ ∀i,bC ps≤bJ ps∧nv H mP (λ_=>1) i (ps.map (Pl.ev B zr))+7≤(bJ ps - bC ps+7)*2 ^ bC ps∧nv H mT (λ_=>1) i (ps.map (Pl.ev B zr))+1≤2 ^ bC ps∧o_ H (ps.map (Pl.ev B zr))≤bJ ps+4*bC ps∧hns H (ps.map (Pl.ev B zr))≤bC ps
 | [],_,i=>by simp [bC,bJ,nv,o_,hns]
 |p::ps,h,i=>by
  have q:=h p aK;obtain⟨b1,b2,b3,b4,b5⟩:=F2 ps (λq hq=>h q (aI _ hq)) (i+1);have:=Y2 (fG (n:=p.nt)) (fG (n:=bC ps)) q.a b2;have t2:=WZ (fG (n:=p.nt)) (fG (n:=bC ps)) q.b b3;rw[←gD]at this t2;have h1:=q.n;have h2:=q.c;have h3:=q.d;rw[bC,bJ,aC,nv,nv,o_,hns,cZ,cZ];refine⟨by lia,?_,t2,by lia,by lia⟩
  rw[show p.wt+bJ ps - (p.nt+bC ps)=p.wt - p.nt+(bJ ps - bC ps) by lia]
  exact this
def mZ.plh (c:mZ w0 w1 w2 w3 w4 w5 tt B) (h:nF [w2,w3,w4,w5] B p):IK (hk w0 w1) B p:=by
 have b:=c.bk
 induction h with
 | @sign b' h ps hh hp ih=>
  obtain⟨b1,b2,b3,b4,b5⟩:=F2 ps ih 0;have e:=c.G.no h hh;have h1:mP.c0=1:=rfl;have h2:mT.c0=0:=rfl;have h3:=fG (n:=bC ps);have n1:(Pl.nd (-1) b' h ps).nt=bC ps:=by rw[Pl.nt,if_pos (by decide),bE]
  have n2:(Pl.nd (-1) b' h ps).wt=1+bJ ps:=by rw[Pl.wt]
  refine⟨by rw[n1,n2];lia,?_,?_,?_,?_⟩
  ·rw[n1,n2,qg,ve e,h1,show 1+bJ ps - bC ps+7=(bJ ps - bC ps+7)+1 by lia,ck]
   lia
  ·rw[n1,qg,ve e,h2];lia
  ·rw[n1,n2,qg,zx e];lia
  ·rw[n1,qg,Fd e];exact b5
 | @turn k b' h ps t e hl b0 b1 hp ih=>
  obtain⟨i1,i2,i3,i4,i5⟩:=F2 ps ih 0;have ht:t∈B:=aJ e;have hl':(ps.map (Pl.ev B zr)).length=t.2.1.nb:=by rw[ay,hl]
  obtain⟨z,ls,u,eL,eh,hb,s2,d2,nd,nm⟩:=(c.lh ht).ex;have fl:=(b.lf t ht).bt;rw[eL,Tr.bt]at fl;have fl':m3 (ps.map (Pl.ev B zr)).length ls:=by rw[hl',eL];exact fl
  have ez:qW t (zr b') (ps.map (Pl.ev B zr))= .nd z (aF (ps.map (Pl.ev B zr)) ls):=by
   have:qW t (zr b') (ps.map (Pl.ev B zr))=t.2.1.aD (ps.map (Pl.ev B zr)):=rfl;rw[this,eL,Tr.aD]
  have ct:∀j,(pO ls).count ((j:Nat):Int)≤1:=λj=>List.nodup_iff_count.mp nd _;have q:∀m:Ms,nv (hk w0 w1) m (λ_=>1) 0 (aF (ps.map (Pl.ev B zr)) ls)≤m.c0*2+nv (hk w0 w1) m (λ_=>1) 0 (ps.map (Pl.ev B zr)):=λm=>by
   rw[B4 (B:=hk w0 w1) (m:=m) (λ_ z=>z) ls hb fl' 0];have h1:=fM m.c0 s2;have h2:nv (hk w0 w1) m (λj=>(pO ls).count (j:Int)) 0 (ps.map (Pl.ev B zr))≤nv (hk w0 w1) m (λ_=>1) 0 (ps.map (Pl.ev B zr)):=DB _ 0 ct;lia
  have qP:=q mP;have qT:=q mT;have c1:mP.c0=1:=rfl;have c2:mT.c0=0:=rfl;rw[c1]at qP;rw[c2]at qT;have n1:(Pl.nd k b' h ps).nt=1+bC ps:=by rw[Pl.nt,if_neg (by lia)]
  have n2:(Pl.nd k b' h ps).wt=1+bJ ps:=by rw[Pl.wt]
  have ev:(Pl.nd k b' h ps).ev B zr= .nd z (aF (ps.map (Pl.ev B zr)) ls):=by rw[p8 e,ez]
  have p2:2 ^ (1+bC ps)=2*2 ^ bC ps:=by rw[gD,Nat.pow_one]
  refine⟨by rw[n1,n2];lia,?_,?_,?_,?_⟩
  ·rw[n1,n2,ev,uq eh];show 3+nv _ mP (λ_=>2) 0 _+7≤_;rw[xt,show 1+bJ ps - (1+bC ps)+7=bJ ps - bC ps+7 by lia,p2,←jL,Nat.mul_comm _ 2,jL]
   lia
  ·rw[n1,ev,uq eh];show 1+nv _ mT (λ_=>2) 0 _+1≤_;rw[xt,p2];lia
  ·have:=FY (B:=hk w0 w1) (λ_ z=>z) ls hb fl';rw[n1,n2,ev,xW eh];lia
  ·have:=Fp (H:=hk w0 w1) (λ_ z=>z) ls hb fl';rw[n1,ev,Gj eh];lia
inductive Lo (B:List Tn):Tr→List Int→Tr→Tr→Prop
 |top {t:Tn}{vs:List Tr}:t∈B→vs.length=t.2.1.nb→Lo B (t.2.1.aD vs) [] (.nd t.1 (vs.map (ak B))) (.nd t.1 (vs.map (b9 B)))
 |sgn {h:ah}{as bs:List Tr}{x s y:Tr}{q:List Int}:m9 B h=none→Lo B x q s y→Lo B (.nd h (as++x::bs)) ((as.length:Int)::q) (.nd h (as.map (ak B)++s::bs.map (ak B))) (.nd h (as.map (b9 B)++y::bs.map (b9 B)))
 |here {h:ah}{ts:List Tr}{t:Tn}:m9 B h=aa t→Lo B (.nd h ts) [] (.nd h (ts.map (ak B))) (t.2.2.aD (ts.map (b9 B)))
 |tit {h:ah}{t:Tn}{as bs:List Tr}{x s y:Tr}{q e:List Int}:m9 B h=aa t→(t.2.1.bls.map λx=>x.1)[as.length]? =aa e→Lo B x q s y→Lo B (.nd h (as++x::bs)) (e++q) (t.2.1.aD (as.map (ak B)++s::bs.map (ak B))) (t.2.2.aD (as.map (b9 B)++y::bs.map (b9 B)))
theorem M4:∀(q:List Int) {L v:Tr},L.bt us.length→(L.aD us).at q=aa v→(∃e r n w,q=e++r∧L.at e=aa (.bl n)∧us[n.toNat]? =aa w∧w.at r=aa v)∨ ∃s ls,L.at q=aa (.nd s ls)∧v=(Tr.nd s ls).aD us
 |q, .bl n,v,ft,h=>by
  rw[Tr.bt]at ft;have hl:n.toNat<us.length:=by lia
  rw[Tr.aD,bv,aR hl,eJ]at h;exact .inl ⟨[],q,n,_,rfl,pq _,aR hl,h⟩
 | [], .nd s ls,v,ft,h=>by
  rw[pq]at h;cases h;exact .inr ⟨s,ls,pq _,rfl⟩
 |i::q, .nd s ls,v,ft,h=>by
  rw[Tr.bt]at ft;rw[Tr.aD]at h;obtain⟨w,h0,h1,h2⟩:=pP h;obtain⟨j,rfl⟩:∃j:Nat,i=j:=⟨i.toNat,(cm h0).symm⟩;rw[bb,vp,aU]at h1;cases e:ls[j]? with
  |none=>rw[e]at h1;cases h1
  |some l=>
   rw[e]at h1;cases h1;obtain ⟨e',r,n,w,rfl,g2,g3,g4⟩ |⟨s',ls',g1,g2⟩:=M4 q (wb ft (aJ e)) h2
   ·exact .inl ⟨(j:Int)::e',r,n,w,rfl,by rw[rO e];exact g2,g3,g4⟩
   ·exact .inr ⟨s',ls',by rw[rO e];exact g1,g2⟩
theorem CQ{P:ah→Prop}:∀{ls:List Tr},oy P ls→l∈ls→l.hb P
 |t::ts,h,m=>by
  rw[oy]at h;obtain rfl |m:=az.mp m
  ·exact h.1
  ·exact CQ h.2 m
theorem HM{P:ah→Prop}:∀(q:List Int) {L:Tr}{s:ah}{ls:List Tr},L.hb P→L.at q=aa (.nd s ls)→P s
 | [],L,s,ls,h,e=>by
  rw[pq]at e;cases e;rw[Tr.hb]at h;exact h.1
 |i::q, .bl n,s,ls,h,e=>by cases e
 |i::q, .nd z ts,s,ls,h,e=>by
  obtain⟨w,h0,h1,h2⟩:=pP e;rw[Tr.hb]at h;exact HM q (CQ h.2 (aJ h1)) h2
def RS (F:vo B) {t:Tn}(ht:t∈B) {e:List Int}{n:Int}(h:t.2.1.at e=aa (.bl n)) (ft:t.2.1.bt t.2.1.nb):(t.2.1.bls.map λx=>x.1)[n.toNat]? =aa e∧0≤n:=by
 have hm:(e,Tr.bl n)∈t.2.1.bls:=dG.mpr ⟨by have:=CI t.2.1 [] e _ h;simpa using this,rfl⟩;obtain⟨i,hi,ei⟩:=fx hm;have hs:(t.2.1.bls.map λx=>x.1)[i]? =aa e:=by rw[aU,aR hi,ei];rfl
 obtain⟨_,_,_,_,hL⟩:=F.lf t ht;have:=K7 hL hs;rw[h]at this;cases this;exact⟨by rw[bb];exact hs,by lia⟩
def qJ (R:Tr) (i:Nat):List (List Int):=(R.bls.filter λz=>z.2.num == (i:Int)).map λz=>z.1
mutual
def Tr.lou (B:List Tn):Tr→List Int→List (List Int)
 | .bl _,_=>[]
 | .nd s ts,q=>match m9 B s with
  |some t=>rf B t 0 ts q
  |none=>match q with
   | []=>[[]]
   |i::q'=>(uF B i.toNat ts q').map (i:: ·)
def rf (B:List Tn) (t:Tn) (i:Nat):List Tr→List Int→List (List Int)
 | [],_=>[]
 |x::xs,q=>(match(t.2.1.bls.map λz=>z.1)[i]? with
  |some e=>if q.take e.length=e then(qJ t.2.2 i).flatMap λb=>(x.lou B (q.drop e.length)).map (b++ ·) else []
  |none=>[])++rf B t (i+1) xs q
def uF (B:List Tn):Nat→List Tr→List Int→List (List Int)
 |_,[],_=>[]
 |0,x::_,q=>x.lou B q
 |n+1,_::xs,q=>uF B n xs q
end
inductive Rn (ws:List ah) (B:List Tn):Nat→Tr→Tr→Prop
 |z {X:Tr}:Rn ws B 0 X X
 |s {n:Nat}{x Z:Tr}:Wy ws B x→Rn ws B n (b9 B x) Z→Rn ws B (n+1) (ak B x) Z
def pX (ws:List ah) (B:List Tn) (X:Tr):Prop:=∀q t us,¬Ou ws B X q t us
theorem Hi:∀{us zs:List Tr},aN (Rn ws B (n+1)) us zs→ ∃xs:List Tr,(∀x∈xs,Wy ws B x)∧us=xs.map (ak B)∧aN (Rn ws B n) (xs.map (b9 B)) zs
 |_,_, .nil=>⟨[],(λ_ h=>nomatch h),rfl, .nil⟩
 |_,_, .cons a b=>by
  obtain⟨xs,h1,h2,h3⟩:=Hi b;cases a with
  | @s _ x Z hx hr=>
   refine⟨x::xs,λy hy=>?_,by rw[aC,←h2], .cons hr h3⟩
   obtain rfl |hy:=az.mp hy
   ·exact hx
   ·exact h1 y hy
theorem M0:∀{us zs:List Tr},aN (Rn ws B 0) us zs→us=zs
 |_,_, .nil=>rfl
 |_,_, .cons a b=>by
  cases a;rw[M0 b]
def NE (hh:h∈ws) (e:m9 B h=none) (k:∀x∈ts,Wy ws B x):Wy ws B (.nd h ts):=by
 refine⟨?_,?_⟩
 ·rw[Tr.hd,mW];exact⟨.inl hh,λx hx=>(k x hx).hd⟩
 ·rw[Tr.ar,oA];exact⟨(λt ht=>by rw[e]at ht;cases ht),λx hx=>(k x hx).ar⟩
theorem Ej (hh:h∈ws) (e:m9 B h=none):∀(n:Nat) {us zs:List Tr},aN (Rn ws B n) us zs→Rn ws B n (.nd h us) (.nd h zs)
 |0,us,zs,p=>by
  rw[M0 p];exact .z
 |n+1,us,zs,p=>by
  obtain⟨xs,h1,h2,h3⟩:=Hi p;have:=Ej hh e n h3;have g:b9 B (.nd h xs)= .nd h (xs.map (b9 B)):=by rw[b9,qe e]
  have s:ak B (.nd h xs)= .nd h (xs.map (ak B)):=by rw[ak,qe e]
  rw[h2,←s];rw[←g]at this;exact .s (NE hh e h1) this
def Rn.snoc (h:Rn ws B n X Y) (hx:Wy ws B x) (e:ak B x=Y):Rn ws B (n+1) X (b9 B x):=by
 induction h with
 |z=>rw[←e];exact .s hx .z
 |s hy _ ih=>exact .s hy (ih e)
def pX.kid{s:ah}{ts:List Tr}{i:Nat}{v:Tr}(h:pX ws B (.nd s ts)) (e:ts[i]? =aa v):pX ws B v:=λq t us o=>h ((i:Int)::q) t us ⟨o.ht,o.hl,by rw[rO e];exact o.hat,o.sh⟩
theorem pX.at:∀(q:List Int) {X v:Tr},pX ws B X→X.at q=aa v→pX ws B v
 | [],X,v,h,e=>by
  rw[pq]at e;cases e;exact h
 |i::q, .bl n,v,h,e=>by cases e
 |i::q, .nd s ts,v,h,e=>by
  obtain⟨w,h0,h1,h2⟩:=pP e;exact pX.at q (h.kid h1) h2
def pX.op (K:Bk3 ws B) (h:pX ws B X) (hs:Sh ws B X) (p:List Int):X.op B p=[]:=by
 cases e:X.op B p with
 |nil=>rfl
 |cons y ys=>
  obtain⟨q,t,us,_,o⟩:=yp K _ (aA _) hs (y:=y) (by rw[e];exact aK);exact absurd o (h q t us)
def El (K:Bk3 ws B) (F:vo B) (h:X.op B []=[]):pX ws B X:=λq t us o=>by
 have:=o.op K F;rw[h]at this;cases this
mutual
theorem ZF:∀(t:Tr) {i:Int},i∈t.nm→ ∃q,t.at q=aa (.bl i)
 | .bl n,i,h=>by
  rw[Tr.nm,bi]at h;subst h;exact⟨[],pq _⟩
 | .nd s ts,i,h=>by
  rw[Tr.nm]at h;obtain⟨j,t,q,h1,h2⟩:=Bm ts h;exact⟨(j:Int)::q,by rw[rO h1];exact h2⟩
theorem Bm:∀(ts:List Tr) {i:Int},i∈pO ts→ ∃(j:Nat) (t:Tr) (q:List Int),ts[j]? =aa t∧t.at q=aa (.bl i)
 | [],i,h=>by rw[pO]at h;cases h
 |t::ts,i,h=>by
  rw[pO]at h;obtain z |z:=bp.mp h
  ·obtain⟨q,hq⟩:=ZF t z;exact⟨0,t,q,rfl,hq⟩
  ·obtain⟨j,u,q,h1,h2⟩:=Bm ts z;exact⟨j+1,u,q,by rw[bU];exact h1,h2⟩
end
def Ou.head{w0 w1 w2 w3 w4 w5:ah}{tt:List ah}{B:List Tn}{X:Tr}(c:mZ w0 w1 w2 w3 w4 w5 tt B) (ht:t∈B) (e:Tr.nd s ts=t.2.1.aD us):m9 (hk w0 w1) s≠none:=by
 obtain⟨h,ls,u,eL,eh,_⟩:=(c.lh ht).ex;rw[eL,Tr.aD]at e;cases e;rw[eh];exact λz=>nomatch z
def Dr.rst_fill (d:Dr w0 w1 w2 w3 w4 w5 tt B) (ht:t∈B) (hl:us.length=t.2.1.nb) (hu:∀u∈us,pX [w0,w1,w2,w3,w4,w5] B u):pX [w0,w1,w2,w3,w4,w5] B (t.2.2.aD us):=λq v vs o=>by
 rcases M4 q (by rw[hl];exact(d.c.K.b.ri t ht).bt) o.hat with⟨e,r,n,w,rfl,g2,g3,g4⟩ |⟨s',ls',g1,g2⟩
 ·exact hu w (aJ g3) r v vs ⟨o.ht,o.hl,g4,o.sh⟩
 ·rw[Tr.aD]at g2;exact Ou.head (X:= .bl 0) d.c o.ht g2.symm (HM q (d.no ht) g1)
theorem Dr.nest (d:Dr w0 w1 w2 w3 w4 w5 tt B):∀(w n:Nat) {X:Tr},X.aq≤w→Sh [w0,w1,w2,w3,w4,w5] B X→X.hn (hk w0 w1)≤n→ ∃Z,Rn [w0,w1,w2,w3,w4,w5] B n X Z∧Sh [w0,w1,w2,w3,w4,w5] B Z∧pX [w0,w1,w2,w3,w4,w5] B Z
 |0,n,X,hw,hX,hn=>by have:=rN X;lia
 |w+1,n,X,hw,hX,hn=>by
  have K:=d.c.K;obtain⟨s,ts,rfl,hs,e,k⟩:=hX.cases K;rw[Tr.aq]at hw;have dI:∀m,hns (hk w0 w1) ts≤m→ ∃zs,aN (Rn [w0,w1,w2,w3,w4,w5] B m) ts zs∧ ∀z∈zs,Sh [w0,w1,w2,w3,w4,w5] B z∧pX [w0,w1,w2,w3,w4,w5] B z:=λm hm=>by
   have go:∀us:List Tr,(∀u∈us,u∈ts)→ ∃zs,aN (Rn [w0,w1,w2,w3,w4,w5] B m) us zs∧ ∀z∈zs,Sh [w0,w1,w2,w3,w4,w5] B z∧pX [w0,w1,w2,w3,w4,w5] B z:=λus=>by
    induction us with
    |nil=>exact λ_=>⟨[], .nil,(λ_ h=>nomatch h)⟩
    |cons u us ih=>
     intro h;obtain⟨zs,h1,h2⟩:=ih λv hv=>h v (aI _ hv);have hu:=h u aK;obtain⟨z,g1,g2,g3⟩:=Dr.nest d w m (X:=u) (by have:=pf hu;lia) (k u hu) (by have:=Dk (H:=hk w0 w1) hu;lia);refine⟨z::zs, .cons g1 h1,λy hy=>?_⟩;obtain rfl |hy:=az.mp hy
     ·exact⟨g2,g3⟩
     ·exact h2 y hy
   exact go ts λ_ h=>h
  have shz:∀zs:List Tr,(∀z∈zs,Sh [w0,w1,w2,w3,w4,w5] B z∧pX [w0,w1,w2,w3,w4,w5] B z)→Sh [w0,w1,w2,w3,w4,w5] B (.nd s zs):=λzs h=>⟨NE hs e λz hz=>(h z hz).1.wy,by
   rw[ak,qe e,Ce K λz hz=>(h z hz).1]⟩
  have deep:∀zs:List Tr,(∀z∈zs,Sh [w0,w1,w2,w3,w4,w5] B z∧pX [w0,w1,w2,w3,w4,w5] B z)→ ∀i q t us,¬Ou [w0,w1,w2,w3,w4,w5] B (.nd s zs) (i::q) t us:=λzs h i q t us o=>by
   obtain⟨v,_,h1,h2⟩:=pP o.hat;exact(h v (aJ h1)).2 q t us ⟨o.ht,o.hl,h2,o.sh⟩
  cases eh:m9 (hk w0 w1) s with
  |none=>
   rw[Fd eh]at hn;obtain⟨zs,h1,h2⟩:=dI n hn;refine⟨.nd s zs,Ej hs e n h1,shz zs h2,λq t us o=>?_⟩;cases q with
   |nil=>
    have:=o.hat;rw[pq]at this;exact Ou.head (X:= .bl 0) d.c o.ht (aL this) eh
   |cons i q=>exact deep zs h2 i q t us o
  |some th=>
   rw[Gj eh]at hn;obtain⟨n,rfl⟩:∃n',n=n'+1:=⟨n - 1,by lia⟩
   obtain⟨zs,h1,h2⟩:=dI n (by lia);have r1:=Ej hs e n h1;have s1:=shz zs h2;by_cases ho:∃t us,Ou [w0,w1,w2,w3,w4,w5] B (.nd s zs) [] t us
   ·obtain⟨t,us,o⟩:=ho;have e1:=o.ak K s1;have e2:=o.b9 K s1;have e3:toO (.nd s zs) [] t us=t.2.2.aD us:=by unfold toO;rw[tq]
    rw[e3]at e2;have ha:=o.hat;rw[pq]at ha;have ha:=aL ha;refine⟨t.2.2.aD us,by rw[←e2];exact r1.snoc (o.wy K s1) e1,by rw[←e3];exact o.to K s1,d.rst_fill o.ht o.hl λu hu=>?_⟩
    obtain⟨i,hi,ei⟩:=fx hu;obtain⟨z,ls,v,eL,_,_,_,_,_,nm⟩:=(d.c.lh o.ht).ex;obtain⟨j,l,q,g1,g2⟩:=Bm ls (nm i (by rw[←o.hl];exact hi));have fl:=(K.b.lf t o.ht).bt;rw[eL,Tr.bt]at fl;rw[eL,Tr.aD]at ha;cases ha;have g3:(aF us ls)[j]? =aa (l.aD us):=by rw[vp,aU,g1];rfl
    have g4:(l.aD us).at q=aa u:=by
     rw[xa q g2 (by rw[o.hl,eL];exact wb fl (aJ g1)),bb,aR hi,ei]
    exact pX.at q (h2 _ (aJ g3)).2 g4
   ·refine⟨.nd s zs,?_,s1,λq t us o=>?_⟩
    ·have:=r1.snoc s1.wy s1.q;rw[show b9 B (.nd s zs)= .nd s zs from s1.mkq K _]at this;exact this
    ·cases q with
     |nil=>exact ho ⟨t,us,o⟩
     |cons i q=>exact deep zs h2 i q t us o
def Rn.strip (K:Bk3 ws B) (h:Rn ws B m t Y):∀{x:Tr},Wy ws B x→ak B x=t→ ∃y,Wy ws B y∧ak B y=Y∧ ∃m',Rn ws B m' (b9 B x) (b9 B y):=by
 induction h with
 |z=>exact λ{x} hx e=>⟨x,hx,e,0, .z⟩
 | @s n z Z hz _ ih=>
  intro x hx e;have m1:=K.moved hx hz e;have m2:=K.moved hz hx e.symm;obtain⟨y,h1,h2,m',h3⟩:=ih m1.wy m1.sr;refine⟨y,h1,h2,m'+1,?_⟩;rw[←m2.sr];refine .s m2.wy ?_;rw[m2.go];exact h3
def mZ.stay (c:mZ w0 w1 w2 w3 w4 w5 tt B) (hy:Wy [w0,w1,w2,w3,w4,w5] B y) (h:pX [w0,w1,w2,w3,w4,w5] B (ak B y)):y=ak B y∧b9 B y=ak B y:=by
 have hs:Sh [w0,w1,w2,w3,w4,w5] B (ak B y):=⟨(c.K.ak hy).1,(c.K.ak hy).2.1⟩;have q:=EZ c _ y [] (aA _) hy (h.op c.K hs []);have e1:=rP (g:=λt=>t.2.1) c.K.b.ti y q;have e2:=rP (g:=λt=>t.2.2) c.K.b.ti y q;exact⟨e1.symm,e2.trans e1.symm⟩
def mZ.stays (c:mZ w0 w1 w2 w3 w4 w5 tt B) (h:Rn [w0,w1,w2,w3,w4,w5] B n X Y):pX [w0,w1,w2,w3,w4,w5] B X→Y=X:=by
 induction h with
 |z=>exact λ_=>rfl
 | @s n x Z hx _ ih=>
  intro r;have e:=(c.stay hx r).2;rw[e]at ih;exact ih r
theorem mZ.catch (c:mZ w0 w1 w2 w3 w4 w5 tt B) (hX:Sh [w0,w1,w2,w3,w4,w5] B X):∀{n:Nat}{t Z:Tr},Rn [w0,w1,w2,w3,w4,w5] B n t Z→ ∀i,(∃m,Rn [w0,w1,w2,w3,w4,w5] B m t (hh [w0,w1,w2,w3,w4,w5] B X i))→ ∃m,Rn [w0,w1,w2,w3,w4,w5] B m Z (hh [w0,w1,w2,w3,w4,w5] B X (i+n))
 |_,_,_, .z,i,h=>h
 |_,_,_, .s (n:=n) (x:=x) hx hr,i,⟨m,h⟩=>by
  obtain⟨y,h1,h2,m',h3⟩:=h.strip c.K hx rfl;have hs:=yj c.b c.G c.K hX i;have f:=w9 c.b c.G c.K hs;have m1:=c.K.moved f.wy h1 (by rw[f.sr,h2]);have e:=T8 c hs h1 h2;have g:b9 B (res B (fw [w0,w1,w2,w3,w4,w5] B (hh [w0,w1,w2,w3,w4,w5] B X i)) y)=hh [w0,w1,w2,w3,w4,w5] B X (i+1):=by
   rw[m1.go,e];exact(yj c.b c.G c.K hX (i+1)).mkq c.K _
  have r2:=Rn.snoc h3 m1.wy m1.sr;rw[g]at r2;have:=mZ.catch c hX hr (i+1) ⟨_,r2⟩;rw[show i+(n+1)=i+1+n by lia]
  exact this
def mZ.rest (c:mZ w0 w1 w2 w3 w4 w5 tt B) (hX:Sh [w0,w1,w2,w3,w4,w5] B X) (h:Rn [w0,w1,w2,w3,w4,w5] B n X Z) (r:pX [w0,w1,w2,w3,w4,w5] B Z):hh [w0,w1,w2,w3,w4,w5] B X n=Z:=by
 obtain⟨m,h1⟩:=c.catch hX h 0 ⟨0, .z⟩;rw[bE]at h1;exact c.stays h1 r
def Dr.rest (d:Dr w0 w1 w2 w3 w4 w5 tt B) (hX:Sh [w0,w1,w2,w3,w4,w5] B X) (hn:X.hn (hk w0 w1)≤n):(hh [w0,w1,w2,w3,w4,w5] B X n).op B []=[]:=by
 obtain⟨Z,h1,h2,h3⟩:=d.nest _ n (aA _) hX hn;rw[d.c.rest hX h1 h3];exact h3.op d.c.K h2 []
inductive Up (B:List Tn):Tr→List Int→Prop
 |here {h:ah}{ts:List Tr}{t:Tn}:m9 B h=aa t→Up B (.nd h ts) []
 |sgn {h:ah}{ts:List Tr}{i:Nat}{x:Tr}{q:List Int}:m9 B h=none→ts[i]? =aa x→Up B x q→Up B (.nd h ts) ((i:Int)::q)
 |tit {h:ah}{ts:List Tr}{t:Tn}{i:Nat}{x:Tr}{e q:List Int}:m9 B h=aa t→t.2.1.at e=aa (.bl (i:Int))→ts[i]? =aa x→Up B x q→Up B (.nd h ts) (e++q)
def uU (B:List Tn) (L:Tr) (us:List Tr) (q:List Int):Prop:=∃(e:List Int) (i:Nat) (u:Tr) (r:List Int),L.at e=aa (.bl (i:Int))∧us[i]? =aa u∧Up B u r∧q=e++r
def yK (e:m9 B h=none):Up B (.nd h ts) q↔ ∃(i:Nat) (x:Tr) (r:List Int),ts[i]? =aa x∧Up B x r∧q=(i:Int)::r:=by
 constructor
 ·intro u;cases u with
  |here e'=>rw[e]at e';cases e'
  |sgn _ h1 h2=>exact⟨_,_,_,h1,h2,rfl⟩
  |tit e'=>rw[e]at e';cases e'
 ·rintro⟨i,x,r,h1,h2,rfl⟩;exact .sgn e h1 h2
def xb (e:m9 B h=aa t):Up B (.nd h ts) q↔q=[]∨uU B t.2.1 ts q:=by
 constructor
 ·intro u;cases u with
  |here _=>exact .inl rfl
  |sgn e'=>rw[e]at e';cases e'
  |tit e' h1 h2 h3=>rw[e]at e';cases e';exact .inr ⟨_,_,_,_,h1,h2,h3,rfl⟩
 ·rintro(rfl |⟨e',i,u,r,h1,h2,h3,rfl⟩)
  ·exact .here e
  ·exact .tit e h1 h2 h3
mutual
theorem vP (hB:∀t∈B,p7 t.1):∀(R:Tr) (q:List Int),R.hb ow→R.bt us.length→(Up B (R.aD us) q↔uU B R us q)
 | .bl n,q,h,ft=>by
  rw[Tr.bt]at ft;have hl:n.toNat<us.length:=by lia
  obtain⟨k,rfl⟩:∃k:Nat,n=k:=⟨n.toNat,by lia⟩
  rw[bb]at hl;rw[Tr.aD,bb,bv,aR hl,eJ];constructor
  ·exact λu=>⟨[],k,_,q,pq _,aR hl,u,rfl⟩
  ·rintro⟨e,i,u,r,h1,h2,h3,rfl⟩;cases e with
   |nil=>
    rw[pq]at h1;have:(k:Int)=i:=by simpa using h1
    have:k=i:=by lia
    subst this;rw[aR hl]at h2;cases h2;exact h3
   |cons j e=>cases h1
 | .nd s ts,q,h,ft=>by
  rw[Tr.bt]at ft;rw[Tr.hb]at h;have e:=qb hB h.1;rw[Tr.aD,yK e];constructor
  ·rintro⟨i,x,r,h1,h2,rfl⟩;obtain⟨l,e1,e2,h3⟩:=(DC hB ts h.2 ft i x h1).1;subst e2;obtain⟨e',j,u,r',g1,g2,g3,rfl⟩:=(h3 r).mp h2;exact⟨(i:Int)::e',j,u,r',by rw[rO e1];exact g1,g2,g3,rfl⟩
  ·rintro⟨e',j,u,r,h1,h2,h3,rfl⟩;cases e' with
   |nil=>rw[pq]at h1;cases h1
   |cons i e'=>
    obtain⟨l,h0,g1,g2⟩:=pP h1;obtain⟨i,rfl⟩:∃i':Nat,i=i':=⟨i.toNat,by lia⟩
    rw[bb]at g1;have g3:(aF us ts)[i]? =aa (l.aD us):=by rw[vp,aU,g1];rfl
    obtain⟨l',e1,e2,h4⟩:=(DC hB ts h.2 ft i _ g3).1;rw[g1]at e1;cases e1;exact⟨i,_,e'++r,g3,(h4 _).mpr ⟨e',j,u,r,g2,h2,h3,rfl⟩,rfl⟩
theorem DC (hB:∀t∈B,p7 t.1):∀(ts:List Tr),oy ow ts→m3 us.length ts→ ∀(i:Nat) (x:Tr),(aF us ts)[i]? =aa x→(∃l,ts[i]? =aa l∧x=l.aD us∧ ∀r,(Up B (l.aD us) r↔uU B l us r))∧True
 | [],h,ft,i,x,hx=>by rw[aF]at hx;cases hx
 |t::ts,h,ft,0,x,hx=>by
  rw[m3]at ft;rw[oy]at h;rw[aF]at hx;cases hx;exact⟨⟨t,rfl,rfl,λr=>vP hB t r h.1 ft.1⟩,trivial⟩
 |t::ts,h,ft,i+1,x,hx=>by
  rw[m3]at ft;rw[oy]at h;rw[aF,bU]at hx;obtain⟨⟨l,h1,h2,h3⟩,_⟩:=DC hB ts h.2 ft.2 i x hx;exact⟨⟨l,by rw[bU];exact h1,h2,h3⟩,trivial⟩
end
def Bq (e:m9 B h=none):(Tr.nd h ts).lou B []=[[]]:=by rw[Tr.lou,e]
def xT (e:m9 B h=aa t):(Tr.nd h ts).lou B q=rf B t 0 ts q:=by
 rw[Tr.lou.eq_def];dsimp only;rw[e]
theorem Mt:∀{ts:List Tr}{i:Nat}{x:Tr}{q:List Int},ts[i]? =aa x→uF B i ts q=x.lou B q
 |x::ts,0,y,q,h=>by cases h;rw[uF]
 |x::ts,i+1,y,q,h=>by
  rw[bU]at h;rw[uF];exact Mt h
def vU{h:ah}{ts:List Tr}{i:Nat}{x:Tr}{q:List Int}(e:m9 B h=none) (hx:ts[i]? =aa x):(Tr.nd h ts).lou B ((i:Int)::q)=(x.lou B q).map ((i:Int):: ·):=by
 rw[Tr.lou,e];dsimp only;rw[bb,Mt hx]
theorem Ga (hB:∀t∈B,p7 t.1) {us:List Tr}:∀(b:List Int) {R u:Tr}{i:Nat}{r:List Int},R.hb ow→R.at b=aa (.bl (i:Int))→us[i]? =aa u→(R.aD us).lou B (b++r)=(u.lou B r).map (b++ ·)
 | [],R,u,i,r,h,e,hu=>by
  rw[pq]at e;cases e;rw[Tr.aD,bb,bv,hu];simp
 |j::b, .bl n,u,i,r,h,e,hu=>by cases e
 |j::b, .nd s ts,u,i,r,h,e,hu=>by
  obtain⟨l,h0,h1,h2⟩:=pP e;obtain⟨j,rfl⟩:∃j':Nat,j=j':=⟨j.toNat,by lia⟩
  rw[bb]at h1;rw[Tr.hb]at h;have g3:(aF us ts)[j]? =aa (l.aD us):=by rw[vp,aU,h1];rfl
  rw[Tr.aD,cj,vU (qb hB h.1) g3,Ga hB b (CQ h.2 (aJ h1)) h2 hu,bu];rfl
theorem AQ:∀{xs:List Tr}{i:Nat},q'∈rf B t i xs q↔ ∃(j:Nat) (x:Tr) (e b r':List Int),xs[j]? =aa x∧(t.2.1.bls.map λz=>z.1)[i+j]? =aa e∧q.take e.length=e∧b∈qJ t.2.2 (i+j)∧r'∈x.lou B (q.drop e.length)∧q'=b++r'
 | [],i=>by
  rw[rf];constructor
  ·intro h;cases h
  ·rintro⟨j,x,e,b,r',h1,_⟩;cases h1
 |y::xs,i=>by
  rw[rf,bp,AQ (xs:=xs) (i:=i+1)];constructor
  ·rintro(h |⟨j,x,e,b,r',h1,h2,h3⟩)
   ·cases he:(t.2.1.bls.map λz=>z.1)[i]? with
    |none=>rw[he]at h;cases h
    |some e=>
     rw[he]at h;dsimp only at h;split at h
     ·rename_i hq;obtain⟨b,hb,h⟩:=dX.mp h;obtain⟨r',hr,rfl⟩:=aV.mp h;exact⟨0,y,e,b,r',rfl,he,hq,hb,hr,rfl⟩
     ·cases h
   ·exact⟨j+1,x,e,b,r',by rw[bU];exact h1,by rw[←h2];congr 1;lia,by rw[show i+(j+1)=i+1+j by lia];exact h3⟩
  ·rintro⟨j,x,e,b,r',h1,h2,h3,h4,h5,rfl⟩;cases j with
   |zero=>
    cases h1;refine .inl ?_;rw[dL]at h2 h4;rw[h2];dsimp only;rw[if_pos h3];exact dX.mpr ⟨b,h4,aV.mpr ⟨r',h5,rfl⟩⟩
   |succ j=>
    rw[bU]at h1;exact .inr ⟨j,x,e,b,r',h1,by rw[←h2];congr 1;lia,h3,by rw[show i+1+j=i+(j+1) by lia];exact h4,h5,rfl⟩
def pV:b∈qJ R i↔R.at b=aa (.bl (i:Int)):=by
 unfold qJ;rw[aV];constructor
 ·rintro⟨⟨p,v⟩,h,rfl⟩;obtain⟨h1,h2⟩:=dG.mp h;obtain⟨h3,h4⟩:=dG.mp h1;obtain⟨r,e1,e2,_⟩:=xg R [] _ _ h3;simp at e1;subst e1;cases v with
  |nd s ts=>cases h4
  |bl n=>
   have:n=i:=by simpa [Tr.num]using h2
   subst this;exact e2
 ·intro h;refine⟨(b, .bl i),dG.mpr ⟨dG.mpr ⟨by have:=CI R [] b _ h;simpa using this,rfl⟩,?_⟩,rfl⟩;simp [Tr.num]
theorem Gm:∀(e e':List Int) {t:Tr}{n n':Int}{r:List Int},t.at e=aa (.bl n)→t.at e'=aa (.bl n')→(e++r).take e'.length=e'→e'=e
 | [],e',t,n,n',r,h,h',hr=>by
  rw[pq]at h;cases h;cases e' with
  |nil=>rfl
  |cons i e'=>cases h'
 |i::e,[],t,n,n',r,h,h',hr=>by
  rw[pq]at h';cases h';cases h
 |i::e,i'::e', .bl m,n,n',r,h,h',hr=>by cases h
 |i::e,i'::e', .nd s ts,n,n',r,h,h',hr=>by
  rw[cj,aT,kS]at hr;simp only[fX]at hr;obtain⟨rfl,hr⟩:=hr;obtain⟨l,h0,h1,h2⟩:=pP h;obtain⟨l',_,h1',h2'⟩:=pP h';rw[h1]at h1';cases h1';rw[Gm e e' h2 h2' hr]
def mZ.F (c:mZ w0 w1 w2 w3 w4 w5 tt B):vo B:=c.b.lfs c.G
def mZ.bl (c:mZ w0 w1 w2 w3 w4 w5 tt B) {t:Tn}(ht:t∈B) {e:List Int}{i:Nat}:t.2.1.at e=aa (.bl (i:Int))↔(t.2.1.bls.map λz=>z.1)[i]? =aa e:=by
 constructor
 ·intro h;have:=(RS c.F ht h (c.bk.lf t ht).bt).1;rwa [bb]at this
 ·intro h;obtain⟨_,_,_,_,hL⟩:=c.F.lf t ht;exact K7 hL h
def mZ.bl_ex (c:mZ w0 w1 w2 w3 w4 w5 tt B) (ht:t∈B) (hi:i<t.2.1.nb):∃e,t.2.1.at e=aa (.bl (i:Int)):=by
 obtain⟨h,ls,u,eL,_,_,_,_,_,nm⟩:=(c.lh ht).ex;obtain⟨j,l,q,g1,g2⟩:=Bm ls (nm i hi);exact⟨(j:Int)::q,by rw[eL,rO g1];exact g2⟩
def mZ.lou_tit (c:mZ w0 w1 w2 w3 w4 w5 tt B) {t:Tn}(ht:t∈B) {xs:List Tr}{i:Nat}{x:Tr}{e r q':List Int}(he:t.2.1.at e=aa (.bl (i:Int))) (hx:xs[i]? =aa x):q'∈(Tr.nd t.1 xs).lou B (e++r)↔ ∃b r',t.2.2.at b=aa (.bl (i:Int))∧r'∈x.lou B r∧q'=b++r':=by
 rw[xT (rg c.K.b.nd ht),AQ];constructor
 ·rintro⟨j,y,e',b,r',h1,h2,h3,h4,h5,rfl⟩;rw[bE]at h2 h4;have g:=(c.bl ht).mpr h2;have:=Gm e e' he g h3;subst this;rw[he]at g;have:(i:Int)=j:=by simpa using g
  have:i=j:=by lia
  subst this;rw[hx]at h1;cases h1;rw[lL]at h5;exact⟨b,r',pV.mp h4,h5,rfl⟩
 ·rintro⟨b,r',h1,h2,rfl⟩;exact⟨i,x,e,b,r',hx,by rw[bE];exact(c.bl ht).mp he,by simp,by rw[bE];exact pV.mpr h1,by rw[lL];exact h2,rfl⟩
def mZ.lou_top (c:mZ w0 w1 w2 w3 w4 w5 tt B) {t:Tn}(ht:t∈B) {xs:List Tr}{q':List Int}:¬q'∈(Tr.nd t.1 xs).lou B []:=λh=>by
 rw[xT (rg c.K.b.nd ht),AQ]at h;obtain⟨j,y,e',b,r',h1,h2,h3,_⟩:=h;have g:=(c.bl ht).mpr h2;have:e'=[]:=by rw[←h3];simp
 subst this;rw[pq]at g;obtain⟨h,ls,u,eL,_⟩:=(c.lh ht).ex;rw[eL]at g;cases g
def yZ{p:Pl}{ps:List Pl}{i:Nat}{u:Tr}{f:Pl→Tr}(h:(ps.map f)[i]? =aa u):∃p,ps[i]? =aa p∧u=f p:=by
 rw[aU]at h;cases e:ps[i]? with
 |none=>rw[e]at h;cases h
 |some p=>rw[e]at h;cases h;exact⟨p,rfl,rfl⟩
def mZ.up_ev (c:mZ w0 w1 w2 w3 w4 w5 tt B) {f g:Int→Nat}(hc:∀x:Int,0≤x→x<8→f x≤1∧g x≤1) {p:Pl}(h:nF [w0,w1,w2,w3,w4,w5] B p):∀q',Up B (p.ev B (pK f g)) q'↔ ∃q,Up B (p.ev B f) q∧q'∈(p.ev B g).lou B q:=by
 have ti:=c.K.b.ti
 induction h with
 | @sign b' h ps hh hp ih=>
  intro q';have e:=qb ti (c.K.b.sg h hh);rw[qg,qg,qg,yK e];constructor
  ·rintro⟨i,x,r,h1,h2,rfl⟩;obtain⟨p,ep,rfl⟩:=yZ (p:= .nd 0 0 h []) h1;obtain⟨q,g1,g2⟩:=(ih p (aJ ep) r).mp h2;refine⟨(i:Int)::q,(yK e).mpr ⟨i,_,q,by rw[aU,ep];rfl,g1,rfl⟩,?_⟩
   rw[vU e (show(ps.map (Pl.ev B g))[i]? =aa (p.ev B g) by rw[aU,ep];rfl)]
   exact aV.mpr ⟨r,g2,rfl⟩
  ·rintro⟨q,h1,h2⟩;obtain⟨i,x,r,h4,h3,rfl⟩:=(yK e).mp h1;obtain⟨p,ep,rfl⟩:=yZ (p:= .nd 0 0 h []) h4;rw[vU e (show(ps.map (Pl.ev B g))[i]? =aa (p.ev B g) by rw[aU,ep];rfl)]at h2
   obtain⟨r',g1,rfl⟩:=aV.mp h2;exact⟨i,p.ev B (pK f g),r',by rw[aU,ep];rfl,(ih p (aJ ep) r').mpr ⟨r,h3,g1⟩,rfl⟩
 | @turn k b' h ps t e hl b0 b1 hp ih=>
  intro q';have ht:t∈B:=aJ e;have et:=rg c.K.b.nd ht;obtain⟨f1,g1⟩:=hc b' b0 b1;have len:∀z:Int→Nat,(ps.map (Pl.ev B z)).length=t.2.1.nb:=λz=>by rw[ay,hl]
  have sL:=(c.K.b.lf t ht).hb;have fL:∀z:Int→Nat,t.2.1.bt (ps.map (Pl.ev B z)).length:=λz=>by rw[len];exact(c.K.b.lf t ht).bt
  have sR:t.2.2.hb ow:=(c.K.b.ri t ht).hb c.K.b.sg;have fR:∀z:Int→Nat,t.2.2.bt (ps.map (Pl.ev B z)).length:=λz=>by rw[len];exact(c.K.b.ri t ht).bt
  have at':∀(z:Int→Nat) {i:Nat}{p:Pl},ps[i]? =aa p→(ps.map (Pl.ev B z))[i]? =aa (p.ev B z):=λz i p ep=>by rw[aU,ep];rfl
  have lower:∀q,uU B t.2.1 (ps.map (Pl.ev B f)) q→ ∃(e:List Int) (i:Nat) (p:Pl) (r:List Int),t.2.1.at e=aa (.bl (i:Int))∧ps[i]? =aa p∧Up B (p.ev B f) r∧q=e++r:=λq ⟨e,i,u,r,h1,h2,h3,h4⟩=>by
   obtain⟨p,ep,rfl⟩:=yZ (p:= .nd 0 0 h []) h2;exact⟨e,i,p,r,h1,ep,h3,h4⟩
  rw[p8 e,p8 e,p8 e];have fz:f b'=0∨f b'=1:=by lia
  have gz:g b'=0∨g b'=1:=by lia
  obtain gz |gz:=gz
  ·-- the other has no use here
   have pz:pK f g b'=f b':=by unfold pK;rw[if_neg (by lia)]
   have ex:qW t (g b') (ps.map (Pl.ev B g))=t.2.1.aD (ps.map (Pl.ev B g)):=by rw[gz];rfl
   have below:uU B t.2.1 (ps.map (Pl.ev B (pK f g))) q'↔ ∃q,uU B t.2.1 (ps.map (Pl.ev B f)) q∧q'∈(t.2.1.aD (ps.map (Pl.ev B g))).lou B q:=by
    constructor
    ·rintro⟨e',i,u,r,h1,h2,h3,rfl⟩;obtain⟨p,ep,rfl⟩:=yZ (p:= .nd 0 0 h []) h2;obtain⟨q,k1,k2⟩:=(ih p (aJ ep) r).mp h3;refine⟨e'++q,⟨e',i,_,q,h1,at' f ep,k1,rfl⟩,?_⟩;rw[Ga ti e' sL h1 (at' g ep)];exact aV.mpr ⟨r,k2,rfl⟩
    ·rintro⟨q,hq,h2⟩;obtain⟨e',i,p,r,h1,ep,h3,rfl⟩:=lower q hq;rw[Ga ti e' sL h1 (at' g ep)]at h2;obtain⟨r',k1,rfl⟩:=aV.mp h2;exact⟨e',i,_,r',h1,at' _ ep,(ih p (aJ ep) r').mpr ⟨r,h3,k1⟩,rfl⟩
   rw[pz,ex];obtain fz |fz:=fz
   ·rw[fz];show Up B (t.2.1.aD (ps.map (Pl.ev B (pK f g)))) q'↔ ∃q,Up B (t.2.1.aD (ps.map (Pl.ev B f))) q∧_;rw[vP ti _ _ sL (fL _),below];constructor
    ·rintro⟨q,h1,h2⟩;exact⟨q,(vP ti _ _ sL (fL _)).mpr h1,h2⟩
    ·rintro⟨q,h1,h2⟩;exact⟨q,(vP ti _ _ sL (fL _)).mp h1,h2⟩
   ·rw[fz];show Up B (.nd t.1 (ps.map (Pl.ev B (pK f g)))) q'↔ ∃q,Up B (.nd t.1 (ps.map (Pl.ev B f))) q∧_;obtain⟨z,ls,u,eL,_⟩:=(c.lh ht).ex;have top:(t.2.1.aD (ps.map (Pl.ev B g))).lou B []=[[]]:=by
     rw[eL,Tr.hb]at sL;rw[eL,Tr.aD,Bq (qb ti sL.1)]
    rw[xb et,below];constructor
    ·rintro(rfl |⟨q,h1,h2⟩)
     ·exact⟨[], .here et,by rw[top];exact bi.mpr rfl⟩
     ·exact⟨q,(xb et).mpr (.inr h1),h2⟩
    ·rintro⟨q,h1,h2⟩;rcases(xb et).mp h1 with rfl |h1
     ·rw[top]at h2;exact .inl (bi.mp h2)
     ·exact .inr ⟨q,h1,h2⟩
  ·-- the other has it
   have pz:pK f g b'=2:=by unfold pK;rw[if_pos gz]
   have ex:qW t (g b') (ps.map (Pl.ev B g))= .nd t.1 (ps.map (Pl.ev B g)):=by rw[gz];rfl
   rw[pz,ex];show Up B (t.2.2.aD (ps.map (Pl.ev B (pK f g)))) q'↔_;rw[vP ti _ _ sR (fR _)];have below:uU B t.2.2 (ps.map (Pl.ev B (pK f g))) q'↔ ∃q,uU B t.2.1 (ps.map (Pl.ev B f)) q∧q'∈(Tr.nd t.1 (ps.map (Pl.ev B g))).lou B q:=by
    constructor
    ·rintro⟨b,i,u,r,h1,h2,h3,rfl⟩;obtain⟨p,ep,rfl⟩:=yZ (p:= .nd 0 0 h []) h2;obtain⟨q,k1,k2⟩:=(ih p (aJ ep) r).mp h3;obtain⟨e',he'⟩:=c.bl_ex ht (i:=i) (by rw[←hl];exact(b7.mp ep).1);exact⟨e'++q,⟨e',i,_,q,he',at' f ep,k1,rfl⟩,(c.lou_tit ht he' (at' g ep)).mpr ⟨b,r,h1,k2,rfl⟩⟩
    ·rintro⟨q,hq,h2⟩;obtain⟨e',i,p,r,h1,ep,h3,rfl⟩:=lower q hq;obtain⟨b,r',k1,k2,rfl⟩:=(c.lou_tit ht h1 (at' g ep)).mp h2;exact⟨b,i,_,r',k1,at' _ ep,(ih p (aJ ep) r').mpr ⟨r,h3,k2⟩,rfl⟩
   rw[below];obtain fz |fz:=fz
   ·rw[fz];show _↔ ∃q,Up B (t.2.1.aD (ps.map (Pl.ev B f))) q∧_;constructor
    ·rintro⟨q,h1,h2⟩;exact⟨q,(vP ti _ _ sL (fL _)).mpr h1,h2⟩
    ·rintro⟨q,h1,h2⟩;exact⟨q,(vP ti _ _ sL (fL _)).mp h1,h2⟩
   ·rw[fz];show _↔ ∃q,Up B (.nd t.1 (ps.map (Pl.ev B f))) q∧_;constructor
    ·rintro⟨q,h1,h2⟩;exact⟨q,(xb et).mpr (.inr h1),h2⟩
    ·rintro⟨q,h1,h2⟩;rcases(xb et).mp h1 with rfl |h1
     ·exact absurd h2 (c.lou_top ht)
     ·exact⟨q,h1,h2⟩
def mZ.up_res (c:mZ w0 w1 w2 w3 w4 w5 tt B) (hs:Wy [w0,w1,w2,w3,w4,w5] B s) (hx:Wy [w0,w1,w2,w3,w4,w5] B x) (e:ak B s=ak B x) (q':List Int):Up B (res B s x) q'↔ ∃q,Up B s q∧q'∈x.lou B q:=by
 obtain⟨p,hp,rfl,rfl,_⟩:=FJ c.K hs hx e;have m:=By (c:=nJ 1) (d:=nJ 2) c.K.b c.K.O.mt (Ab (sZ 1) (sZ 2)) hp;rw[m.res];refine c.up_ev (λz z0 z1=>?_) hp q';obtain h |h:=Ab (sZ 1) (sZ 2) z z0 z1
 ·exact h
 ·have:=sZ 1 z;lia
theorem Oj{α:Type}{P Q R:α→Bool}:∀(l:List α),(∀x,P x=true→R x=true∧Q x=false)→(∀x,Q x=true→R x=true)→(l.filter P).length+(l.filter Q).length≤(l.filter R).length
 | [],_,_=>by simp
 |x::l,h1,h2=>by
  have:=Oj l h1 h2;have a:=h1 x;have b:=h2 x;cases ep:P x<;>cases eq:Q x<;>cases er:R x<;>simp [fh,ep,eq,er]at a b⊢ <;>lia
def Cg (h:m9 B s=none):(Tr.nd s ts).ne B=ov B ts:=by rw[Tr.ne,h];simp
def D_ (h:m9 B s=aa t):(Tr.nd s ts).ne B=1+ov B ts:=by rw[Tr.ne,h]
mutual
theorem xN (hR:∀t∈B,t.2.2.bls.length≤7):∀(x:Tr) (q:List Int),(x.lou B q).length≤7 ^ x.ne B
 | .bl n,q=>by rw[Tr.lou];exact aO _
 | .nd s ts,q=>by
  cases e:m9 B s with
  |some t=>
   have ht:t∈B:=bX e;rw[xT e,D_ e];have h1:=Nc hR t ts 0 q;have h2:(t.2.2.bls.filter λz=>decide (((0:Nat):Int)≤z.2.num)).length≤7:=aY (gJ _ _) (hR t ht);rw[gD,Nat.pow_one];exact aY h1 (dP _ h2)
  |none=>
   rw[Cg e,Tr.lou.eq_def];dsimp only;rw[e];cases q with
   |nil=>exact kj _ _ (by decide)
   |cons i q=>
    dsimp only;rw[ay];exact K5 hR ts i.toNat q
theorem Nc (hR:∀t∈B,t.2.2.bls.length≤7):∀(t:Tn) (xs:List Tr) (i:Nat) (q:List Int),(rf B t i xs q).length≤(t.2.2.bls.filter λz=>decide ((i:Int)≤z.2.num)).length*7 ^ ov B xs
 |t,[],i,q=>by rw[rf];exact aO _
 |t,x::xs,i,q=>by
  have h1:=Nc hR t xs (i+1) q;have h3:∀r,(x.lou B r).length≤7 ^ ov B (x::xs):=λr=>aY (xN hR x r) (dj (by decide) (by rw[ov];lia));have h4:7 ^ ov B xs≤7 ^ ov B (x::xs):=dj (by decide) (by rw[ov];lia);have hs:=Oj (P:=λz:List Int×Tr=>z.2.num == (i:Int)) (Q:=λz=>decide (((i+1:Nat):Int)≤z.2.num)) (R:=λz=>decide ((i:Int)≤z.2.num)) t.2.2.bls (λz hz=>by
   rw[beq_iff_eq]at hz;exact⟨decide_eq_true (by lia),decide_eq_false (by lia)⟩) λz hz=>decide_eq_true (by have:=of_decide_eq_true hz;lia)
  have h5:∀(bs:List (List Int)) (l:List (List Int)),l.length≤7 ^ ov B (x::xs)→(bs.flatMap λb=>l.map (b++ ·)).length≤bs.length*7 ^ ov B (x::xs):=λbs l hl=>by
   induction bs with
   |nil=>simp
   |cons b bs ih=>
    rw[cq,a_,ay,aT,ck];lia
  have h6:(rf B t (i+1) xs q).length≤(t.2.2.bls.filter λz=>decide (((i+1:Nat):Int)≤z.2.num)).length*7 ^ ov B (x::xs):=aY h1 (fM _ h4);have h7:(qJ t.2.2 i).length=(t.2.2.bls.filter λz=>z.2.num == (i:Int)).length:=by unfold qJ;rw[ay]
  have h8:=dP (7 ^ ov B (x::xs)) hs;rw[ck]at h8;rw[rf,a_];have h9:(match(t.2.1.bls.map λz:List Int×Tr=>z.1)[i]? with
   |some e=>if q.take e.length=e then(qJ t.2.2 i).flatMap λb=>(x.lou B (q.drop e.length)).map (b++ ·) else []
   |none=>[]).length≤(qJ t.2.2 i).length*7 ^ ov B (x::xs):=by
   split
   ·split
    ·exact h5 _ _ (h3 _)
    ·exact aO _
   ·exact aO _
  rw[h7]at h9;exact aY (Nat.add_le_add h9 h6) h8
theorem K5 (hR:∀t∈B,t.2.2.bls.length≤7):∀(xs:List Tr) (i:Nat) (q:List Int),(uF B i xs q).length≤7 ^ ov B xs
 | [],i,q=>by rw[uF];exact aO _
 |x::xs,0,q=>by
  rw[uF];exact aY (xN hR x q) (dj (by decide) (by rw[ov];lia))
 |x::xs,i+1,q=>by
  rw[uF];exact aY (K5 hR xs i q) (dj (by decide) (by rw[ov];lia))
end
def p_ (B:List Tn):List Tr→List (List Int)→List (List Int)
 | [],ps=>ps
 |x::xs,ps=>p_ B xs (ps.flatMap (x.lou B))
theorem FT{f:List Int→List (List Int)}:∀(ps:List (List Int)),(∀p∈ps,(f p).length≤k)→(ps.flatMap f).length≤ps.length*k
 | [],h=>by simp
 |p::ps,h=>by
  have h1:=h p aK;have h2:=FT ps λq hq=>h q (aI _ hq);rw[cq,a_,aT,ck];lia
theorem mZ.dn_mem (c:mZ w0 w1 w2 w3 w4 w5 tt B):∀(xs:List Tr) {t s:Tr}{ps:List (List Int)},nN [w0,w1,w2,w3,w4,w5] B t xs→Wy [w0,w1,w2,w3,w4,w5] B s→ak B s=t→(∀q,q∈ps↔Up B s q)→ ∀q,q∈p_ B xs ps↔Up B (qA B s xs) q
 | [],t,s,ps,_,_,_,h,q=>h q
 |x::xs,t,s,ps,⟨x1,x2,x3⟩,hs,es,h,q=>by
  have m:=c.K.moved hs x1 (by rw[es,x2]);refine mZ.dn_mem c xs x3 m.wy m.sr (λq'=>?_) q;rw[c.up_res hs x1 (by rw[es,x2]),dX];constructor
  ·rintro⟨r,h1,h2⟩;exact⟨r,(h r).mp h1,h2⟩
  ·rintro⟨r,h1,h2⟩;exact⟨r,(h r).mpr h1,h2⟩
def mZ.no_up (c:mZ w0 w1 w2 w3 w4 w5 tt B) (u:Up B x q):x.hd ow→False:=by
 induction u with
 |here e=>intro h;rw[Tr.hd]at h;rw[qb c.K.b.ti h.1]at e;cases e
 |sgn e hx _ ih=>intro h;rw[Tr.hd,mW]at h;exact ih (h.2 _ (aJ hx))
 |tit e _ _ _ ih=>intro h;rw[Tr.hd]at h;rw[qb c.K.b.ti h.1]at e;cases e
theorem mZ.up_hd (c:mZ w0 w1 w2 w3 w4 w5 tt B):∀(n:Nat) {x:Tr},x.aq≤n→Wy [w0,w1,w2,w3,w4,w5] B x→(∀q,¬Up B x q)→x.hd ow
 |0,x,hn,hx,h=>by have:=rN x;lia
 |n+1,x,hn,hx,h=>by
  obtain ⟨s,ts,rfl,hh,e,k⟩ |⟨t,ts,ht,rfl,e,hl,k⟩:=Wy.cases c.K.b hx
  ·rw[Tr.aq]at hn;rw[Tr.hd,mW];refine⟨c.K.b.sg s hh,λy hy=>mZ.up_hd c n (by have:=pf hy;lia) (k y hy) λq u=>?_⟩;obtain⟨i,hi,ei⟩:=fx hy;exact h _ (.sgn e (by rw[aR hi,ei]) u)
  ·exact absurd (.here e) (h [])
def mZ.up_quiet (c:mZ w0 w1 w2 w3 w4 w5 tt B) (hx:Wy [w0,w1,w2,w3,w4,w5] B x):x.dQ=true↔ ∀q,¬Up B x q:=
 ⟨λh q u=>c.no_up u (xk x h),λh=>Dj x (c.up_hd _ (aA _) hx h)⟩
theorem Ou.up{w0 w1 w2 w3 w4 w5:ah}{tt:List ah}{B:List Tn}(c:mZ w0 w1 w2 w3 w4 w5 tt B) (et:m9 B t.1=aa t) (hu:∀u∈us,Sh [w0,w1,w2,w3,w4,w5] B u):∀(q:List Int) {X v:Tr},Sh [w0,w1,w2,w3,w4,w5] B X→X.at q=aa v→ ∀q',Up B (X.bR q (.nd t.1 us)) q'↔q'=q
 | [],X,v,hX,e,q'=>by
  rw[tq,xb et];constructor
  ·rintro(h |⟨e',i,u,r,_,h2,h3,_⟩)
   ·exact h
   ·exact(c.no_up h3 ((hu u (aJ h2)).sig c.K)).elim
  ·exact .inl
 |i::q, .bl n,v,hX,e,q'=>by cases e
 |i::q, .nd s ts,v,hX,e,q'=>by
  obtain⟨w,h0,h1,h2⟩:=pP e;obtain⟨i,rfl⟩:∃i':Nat,i=i':=⟨i.toNat,by lia⟩
  rw[bb]at h1;obtain⟨s',ts',e1,_,e2,k⟩:=hX.cases c.K;cases e1;rw[tD (by rw[bb];exact h1),bb,yK e2];have hi:=(b7.mp h1).1;constructor
  ·rintro⟨j,x,r,g1,g2,rfl⟩;by_cases ij:i=j
   ·subst ij;rw[gZ hi]at g1;cases g1;rw[(Ou.up c et hu q (k w (aJ h1)) h2 r).mp g2]
   ·rw[iT ij]at g1;exact(c.no_up g2 ((k x (aJ g1)).sig c.K)).elim
  ·rintro rfl;exact⟨i,_,q,gZ hi,(Ou.up c et hu q (k w (aJ h1)) h2 q).mpr rfl,rfl⟩
def mZ.done (c:mZ w0 w1 w2 w3 w4 w5 tt B) (hX:Sh [w0,w1,w2,w3,w4,w5] B X) (o:Ou [w0,w1,w2,w3,w4,w5] B X q t us) (hr:nN [w0,w1,w2,w3,w4,w5] B X xs) (hw:Wy [w0,w1,w2,w3,w4,w5] B (qA B (wyO X q t us) xs)):p_ B xs [q]=[]↔(qA B (wyO X q t us) xs).dQ=true:=by
 have h:=c.dn_mem xs (ps:=[q]) hr (o.wy c.K hX) (o.ak c.K hX) λq'=>by
  rw[bi];exact(Ou.up c (o.tt c.K) o.sh q hX o.hat q').symm
 rw[c.up_quiet hw];constructor
 ·intro e q' u;have:=(h q').mpr u;rw[e]at this;cases this
 ·intro e;cases d:p_ B xs [q]with
  |nil=>rfl
  |cons p ps=>exact absurd ((h p).mp (by rw[d];exact aK)) (e p)
theorem mZ.lou_at (c:mZ w0 w1 w2 w3 w4 w5 tt B):∀(n:Nat) {x:Tr}{q q':List Int}{v:Tr},x.aq≤n→Wy [w0,w1,w2,w3,w4,w5] B x→(ak B x).at q=aa v→q'∈x.lou B q→ ∃v',(b9 B x).at q'=aa v'
 |0,x,q,q',v,hn,hx,hv,h=>by have:=rN x;lia
 |n+1,x,q,q',v,hn,hx,hv,h=>by
  obtain ⟨s,ts,rfl,hh,e,k⟩ |⟨t,ts,ht,rfl,e,hl,k⟩:=Wy.cases c.K.b hx
  ·rw[Tr.aq]at hn;have es:ak B (.nd s ts)= .nd s (ts.map (ak B)):=by rw[ak,qe e]
   have eg:b9 B (.nd s ts)= .nd s (ts.map (b9 B)):=by rw[b9,qe e]
   cases q with
   |nil=>
    rw[Bq e]at h;rw[bi.mp h];exact⟨_,pq _⟩
   |cons i q=>
    rw[es]at hv;obtain⟨w,h0,h1,h2⟩:=pP hv;obtain⟨i,rfl⟩:∃i':Nat,i=i':=⟨i.toNat,by lia⟩
    rw[bb,aU]at h1;cases ei:ts[i]? with
    |none=>rw[ei]at h1;cases h1
    |some y=>
     rw[ei]at h1;cases h1;rw[vU e ei]at h;obtain⟨r,hr,rfl⟩:=aV.mp h;have hy:=aJ ei;obtain⟨v',g⟩:=mZ.lou_at c n (by have:=pf hy;lia) (k y hy) h2 hr;exact⟨v',by rw[eg,rO (show(ts.map (b9 B))[i]? =aa (b9 B y) by rw[aU,ei];rfl)];exact g⟩
  ·rw[Tr.aq]at hn;have es:ak B (.nd t.1 ts)=t.2.1.aD (ts.map (ak B)):=by rw[ak,pY e]
   have eg:b9 B (.nd t.1 ts)=t.2.2.aD (ts.map (b9 B)):=by rw[b9,pY e]
   rw[xT e,AQ]at h;obtain⟨j,y,e',b,r',h1,h2,h3,h4,h5,rfl⟩:=h;rw[bE]at h2 h4;have g:=(c.bl ht).mpr h2;have hq:q=e'++q.drop e'.length:=by
    have:=gM e'.length q;rw[h3]at this;exact this.symm
   have hy:=aJ h1;have a1:(ak B (.nd t.1 ts)).at e'=aa (ak B y):=by
    rw[es,xa e' g (by rw[ay,hl];exact(c.K.b.lf t ht).bt),bb,aU,h1];rfl
   have a2:(b9 B (.nd t.1 ts)).at b=aa (b9 B y):=by
    rw[eg,xa b (pV.mp h4) (by rw[ay,hl];exact(c.K.b.ri t ht).bt),bb,aU,h1];rfl
   rw[hq,vi e' _ a1]at hv;obtain⟨v',g'⟩:=mZ.lou_at c n (by have:=pf hy;lia) (k y hy) hv h5;exact⟨v',by rw[vi b _ a2];exact g'⟩
mutual
theorem GK:∀t:Tr,t.aq≤1000→t.wd
 | .bl _,_=>trivial
 | .nd s ts,h=>by
  rw[Tr.aq]at h;have:=qF ts;exact⟨by lia,G7 ts (by lia)⟩
theorem G7:∀ts:List Tr,mJ ts≤1000→uO ts
 | [],_=>trivial
 |t::ts,h=>by
  rw[mJ]at h;exact⟨GK t (by lia),G7 ts (by lia)⟩
end
def Y_ (hw:t.aq≤400) (hd:t.depth≤40) (hr:60≤r) (h:T E D [y0,aa (.bW [kY t, .ref l1]),y2,y3,y4,y5,y6,y7] S) :
  FZ r T E D [y0,aa (.bW [kY t, .ref l1]),y2,y3,y4,y5,y6,y7] S:=by
 rw[FZ];ext;obtain⟨r,rfl⟩:∃r',r=r'+5:=⟨r - 5,by lia⟩
 rw[show r+5=r+4+1 from rfl,sB];ext;refine E1 (r:=r+3) (GK t (by lia)) ?_;rw[Em hw hd]
 try ext
 exact⟨_, .refl,h⟩
def xB (B:List Tn):List Tr→List Tr→Prop
 | [],_=>True
 |x::xs,os=>ua B x os∧xB B xs (pD B x os)
section
variable {ws:List ah}{B:List Tn}
theorem Ni (K:Bk3 ws B):∀(os:List Tr) {x t:Tr},Wy ws B x→ak B x=t→nN ws B t os→ua B x os→ ∀u∈pD B x os,(b9 B u).bo=true
 | [],x,t,_,_,_,_,u,hu=>by cases hu
 |o::os,x,t,hx,ex,⟨r1,r2,r3⟩,⟨l1,l2⟩,u,hu=>by
  have m:=K.moved hx r1 (by rw[ex,r2]);rw[pD]at hu;obtain e |e:=az.mp hu
  ·rw[e,←m.go];exact l1
  ·exact Ni K os m.wy m.sr r3 l2 u e
theorem GU (K:Bk3 ws B):∀(os:List Tr) {x t:Tr},Wy ws B x→ak B x=t→nN ws B t os→t.bo=true→(∀o∈os,(b9 B o).bo=true)→ ∀p∈os.zip (qu B x os),t9 ws B p.1 p.2
 | [],x,t,_,_,_,_,_,p,hp=>by cases hp
 |o::os,x,t,hx,ex,⟨r1,r2,r3⟩,hs,hg,p,hp=>by
  have cl:t9 ws B x o:=⟨K,hx,r1,by rw[ex,r2],by rw[r2];exact hs⟩
  have m:=K.moved hx r1 cl.e;rw[qu,ii]at hp;obtain rfl |hp:=az.mp hp
  ·exact cl.symm
  ·exact GU K os m.wy m.sr r3 (hg o aK) (λu hu=>hg u (aI _ hu)) p hp
end
section
variable {ws:List ah}{B:List Tn}{a l1 l2 d o ρ:ai}{r:Nat}{E:WX}{D:mY}{T:WS}{t t':Tr}{xs os:List Tr}{S:li}{y1 y2 y3 y4 y5 y6 y7:Option W}
def Qe (ha:S a=aa (.bO (B.map mK))) (hl:S ρ=aa (.bO (os.map kY))) (hq:S q=aa (.bO ((qu B x os).map kY))) (hc:∀p∈os.zip (qu B x os),t9 ws B p.1 p.2) (hn:os.length≤800) (hr:63≤r)
  (h:∀ρ',S ρ'=none→T E D [aa (.ref a),y1,y2,y3,aa (.ref ρ'),y5,y6,aa (.ref q)] (bR S ρ' (.bO ((pD B x os).map kY)))) :
  Fn r T E D [aa (.ref a),y1,y2,y3,aa (.ref ρ),y5,y6,aa (.ref q)] S:=by
 rw[Fn];ext;rw[m8 hl,m8 hq,MW];refine p9 (λσ=>∃u v,σ=[u,v,aa (.ref a)]) (λp:Tr×Tr=> .bW [kY p.1,kY p.2]) (λp=>kY (res B p.1 p.2)) ⟨hl,hq⟩ (os.zip (qu B x os)) [] _ ⟨none,none,rfl⟩ (by rw[List.length_zip,L'];simp;lia) (λp hp σ R hI hR=>?_) ?_
 ·obtain⟨u,v,rfl⟩:=hI;have h2:=hc p hp;rw[FU];show nP (mx 0) (nP (mx 1) o6) [kY p.1,kY p.2] _ S _;rw[yw];show mx 0 _ _ _ _;rw[rm,yw];show mx 1 _ _ _ _;rw[rm,CO,KU];show mG _ _ _ [aa (kY p.1),aa (kY p.2),aa (.ref a)] _ _;ext;obtain⟨r,rfl⟩:∃r',r=r'+1:=⟨r - 1,by lia⟩
  exact h2.ok_move ha (by lia) (hR _ _ ⟨_,_,rfl⟩ .refl)
 ·intro ρ' hρ;have:=h ρ' hρ;rw[←L0,bu]at this;exact this
theorem N1{G:li→Prop}(K:Bk3 ws B) (ha:S0 a=aa (.bO (B.map mK))) (hd0:S0 d=none) (ho0:S0 o=none) (hdo:d≠o) (hG:∀S,Sub S0 S→G S) (hr:66≤r):∀(xs:List Tr) {os:List Tr}{t:Tr},nN ws B t xs→nN ws B t os→t.bo=true→(∀x∈xs,(b9 B x).bo=true)→(∀x∈os,(b9 B x).bo=true)→ ∀{S:li}{ρ:ai}{ds rs:List ai}{Ds Rs:List (List Tr)}{y1 y2 y6 y7:Option W},os.length≤800→ds.length+xs.length≤800→rs.length+xs.length≤800→Sub S0 S→S d=aa (.bO (ds.map W.ref))→S o=aa (.bO (rs.map W.ref++[.ref ρ]))→vK S0 S d o ds Ds→vK S0 S d o rs Rs→At S0 S d o ρ os→
  (xB B xs os→ ∀S' ds' rs' y4 y6 y7,Sub S0 S'→S' d=aa (.bO (ds'.map W.ref))→S' o=aa (.bO (rs'.map W.ref))→vK S0 S' d o ds' (Ds++vY B xs os)→vK S0 S' d o rs' (Rs++zO B xs os)→D.nx [aa (.ref a),y1,y2,aa (.ref d),y4,aa (.ref o),y6,y7] S')→(¬xB B xs os→ ∀σ S',Sub S0 S'→E "TooGreat" σ S')→
  mO (mx 6) (Ed r mH) E D G (xs.map kY) [aa (.ref a),y1,y2,aa (.ref d),aa (.ref ρ),aa (.ref o),y6,y7] S
 | [],os,t,u1,u2,u3,u4,u5=>by
  rename_i S ρ ds rs Ds Rs y1 y2 y6 y7;intro _ _ _ sb hd ho AD AR Aρ h _;refine h trivial S ds (rs++[ρ]) _ _ _ sb hd ?_ ?_ ?_
  ·rw[ho,bM];rfl
  ·rw[vY,bg];exact AD
  ·rw[zO];exact Du AR Aρ
 |x::xs,os,t,⟨x1,x2,x3⟩,hRo,hs,gx,go=>by
  rename_i S ρ ds rs Ds Rs y1 y2 y6 y7;intro n1 n2 n3 sb hd ho AD AR Aρ h hE;rw[aT]at n2 n3;rw[aC];refine pT λN hN=>?_;rw[rm,Ed];rw[M_];ext;obtain⟨r',er⟩:∃r',r=r'+1:=⟨r - 1,by lia⟩
  have er2:xv r=xv (r'+1):=by rw[er]
  rw[er2];refine Qb K (sb _ _ ha) Aρ.e x1 x2 hRo hs go n1 (by lia) (λlk S1 q s1 hq0 hq=>?_) λnk S1 s1=>hE (λgk=>nk gk.1) _ _ (sb.trans s1);refine Qe (s1 _ _ (sb _ _ ha)) (s1 _ _ Aρ.e) hq (GU K os x1 x2 hRo hs go) n1 (by lia) λρ' hρ=>?_;have s2:Sub S (bR S1 ρ' (.bO ((pD B x os).map kY))):=s1.trans (.bR .refl hρ);have qd:q≠d:=by rintro rfl;rw[hd]at hq0;cases hq0
  have qo:q≠o:=by rintro rfl;rw[ho]at hq0;cases hq0
  have ρd:ρ'≠d:=by rintro rfl;rw[s1 _ _ hd]at hρ;cases hρ
  have ρo:ρ'≠o:=by rintro rfl;rw[s1 _ _ ho]at hρ;cases hρ
  have Aq:At S0 (bR S1 ρ' (.bO ((pD B x os).map kY))) d o q (qu B x os):=⟨qd,qo,keep hq hρ,AM sb hq0⟩;have Aρ':At S0 (bR S1 ρ' (.bO ((pD B x os).map kY))) d o ρ' (pD B x os):=⟨ρd,ρo,mR,AM (sb.trans s1) hρ⟩;have AD':=uT (λ_ _ z=>At.sub z s2) AD;have AR':=uT (λ_ _ z=>At.sub z s2) AR;have A0:=Aρ.sub s2;have hd2:=s2 _ _ hd;have ho2:=s2 _ _ ho;have sb2:=sb.trans s2;generalize bR S1 ρ' (.bO ((pD B x os).map kY))=S2 at Aq Aρ' AD' AR' A0 hd2 ho2 sb2⊢;have ld:(ds.map W.ref).length≤1000:=by rw[ay];lia
  have lo:(rs.map W.ref++[W.ref ρ]).length≤1000:=by rw[a_,ay,cw];lia
  refine Ss hd2 ld ?_;refine XY (vs:=rs.map W.ref++[.ref ρ]) (by rw[nO hdo.symm];exact ho2) lo ?_;have sb3:Sub S0 (bR (bR S2 d (.bO (ds.map W.ref++[.ref q]))) o (.bO (rs.map W.ref++[.ref ρ]++[.ref ρ']))):= .bR (.bR sb2 hd0) ho0;refine hN _ _ _ .refl (hG _ sb3) (N1 K ha hd0 ho0 hdo hG hr xs (ds:=ds++[q]) (rs:=rs++[ρ]) (Ds:=Ds++[qu B x os]) (Rs:=Rs++[os]) x3 (uY K os x1 x2 hRo).1 (gx x aK) (λu hu=>gx u (aI _ hu)) (Ni K os x1 x2 hRo lk) (by rw[Nh];exact n1) (by rw[a_,cw];lia) (by rw[a_,cw];lia) sb3 ?_ ?_ ?_ ?_ Aρ'.pd.po (λgk S' ds' rs' z4 z6 z7 s' h1 h2 h3 h4=>?_) λng=>hE λgk=>ng gk.2)
  ·rw[nO hdo,mR,bM];rfl
  ·rw[mR,bM];rfl
  ·exact Du (uT (λ_ _ z=>At.po (At.pd z)) AD') Aq.pd.po
  ·exact Du (uT (λ_ _ z=>At.po (At.pd z)) AR') A0.pd.po
  ·refine h ⟨lk,gk⟩ S' ds' rs' z4 z6 z7 s' h1 h2 ?_ ?_
   ·rw[vY];rw[bD]at h3;exact h3
   ·rw[zO];rw[bD]at h4;exact h4
structure ph (B:List Tn) (xs os:List Tr):Prop where
  gx:∀x∈xs,(b9 B x).bo=true
  go:∀x∈os,(b9 B x).bo=true
  ok:xB B xs os
def IC{X:ah→li→Prop}(K:Bk3 ws B) (ha:S a=aa (.bO (B.map mK))) (h1:S l1=aa (.bO (xs.map kY))) (h2:S l2=aa (.bO (os.map kY))) (hx:nN ws B t xs) (ho:nN ws B t' os) (hs:t.bo=true) (nx:xs.length≤700) (no:os.length≤700) (hr:70≤r)
  (hA:t≠t'→X "Apart" S) (hX:t=t'→ ¬ph B xs os→ ∀S',Sub S S'→X "TooGreat" S')
  (h:t=t'→ph B xs os→ ∀S' d o,Q2 S S' B xs os d o→Q (.bW [.ref d, .ref o]) S'):zP (r+1) [.ref a, .bW [kY t, .ref l1], .bW [kY t', .ref l2]] S Q X:=by
 obtain⟨b1,b2⟩:=qS hs;rw[zP,t4];refine⟨rfl,?_⟩;rw[IQ];ext;rw[wT 60 _ _ (by lia)];cases e:t.same t' with
 |false=>
  try ext
  try rw[Dy]
  try ext
  refine⟨m7 (by decide),hA λk=>?_⟩;rw[k,yD]at e;cases e
 |true=>
  have et:t=t':=(ET _ _).mp e;subst et
  try ext
  refine Y_ b1 b2 (by lia) ?_;rw[Hb];ext;obtain⟨r',er⟩:∃r',r=r'+2:=⟨r - 2,by lia⟩
  have er2:uV r=uV (r'+2):=by rw[er]
  rw[er2];refine CP K ha h1 hx hs (by lia) (λgx=>?_) λ⟨u,hu,eu⟩=>hX rfl (λg=>by have:=g.gx u hu;rw[eu]at this;cases this) _ .refl
  rw[NT];ext;rw[er2];refine CP K ha h2 ho hs (by lia) (λgo=>?_) λ⟨u,hu,eu⟩=>hX rfl (λg=>by have:=g.go u hu;rw[eu]at this;cases this) _ .refl
  refine XG λd hd=>Qa (keep h2 hd) λρ hρ=>P_ λo h0=>?_;have ρd:ρ≠d:=by rintro rfl;rw[mR]at hρ;cases hρ
  have od:o≠d:=by rintro rfl;rw[nO ρd.symm,mR]at h0;cases h0
  have oρ:o≠ρ:=by rintro rfl;rw[mR]at h0;cases h0
  have oS:S o=none:=by rw[nO oρ,nO od]at h0;exact h0
  have sb:Sub S (bR (bR (bR S d (.bO [])) ρ (.bO (os.map kY))) o (.bO [.ref ρ])):=(Sub.bR .refl hd).trans ((Sub.bR .refl hρ).trans (.bR .refl h0));rw[Ox];ext;show n9 _ l1 _;rw[m8 (sb _ _ h1)];refine N1 K ha hd oS od.symm (λS' s'=>s' _ _ h1) (by lia) xs (ds:=[]) (rs:=[]) (Ds:=[]) (Rs:=[]) hx ho hs gx go (by lia) (by simp;lia) (by simp;lia) sb ?_ mR .nil .nil ⟨ρd,oρ.symm,?_,by rw[nO ρd]at hρ;exact hρ⟩ (λgk S' ds rs y4 y6 y7 s' g1 g2 g3 g4=>?_) λng σ S' s'=>hX rfl (λg=>ng g.ok) _ s'
  ·rw[nO od.symm,nO ρd.symm,mR];rfl
  ·rw[nO oρ.symm,mR]
  ·rw[LW];ext;exact⟨by decide,_, .refl,h rfl ⟨gx,go,gk⟩ S' d o ⟨s',hd,oS,od.symm,ds,rs,g1,g2,g3,g4⟩⟩
end
theorem Ix:∀(os:List Tr) {x:Tr},ua B x os→(b9 B x).bo=true→(b9 B (qA B x os)).bo=true
 | [],x,_,h=>h
 |o::os,x,⟨l1,l2⟩,h=>Ix os l2 l1
theorem NI (K:Bk3 ws B):∀(xs os:List Tr) {t:Tr},nN ws B t xs→nN ws B t os→xB B xs os→(∀x∈xs,(b9 B x).bo=true)→ ∀u∈oI B xs os,(b9 B u).bo=true
 | [],os,t,_,_,_,_,u,hu=>by cases hu
 |x::xs,os,t,⟨x1,x2,x3⟩,ho,⟨g1,g2⟩,gx,u,hu=>by
  rw[oI]at hu;obtain e |e:=az.mp hu
  ·rw[e];exact Ix os g1 (gx x aK)
  ·exact NI K xs _ x3 (uY K os x1 x2 ho).1 g2 (λv hv=>gx v (aI _ hv)) u e
theorem Ei:∀(us:List Tr) {t:Tr},nN ws B t us→t.bo=true→(∀x∈us,(b9 B x).bo=true)→ ∀u∈us,Wy ws B u∧(ak B u).bo=true
 | [],t,_,_,_,u,hu=>by cases hu
 |x::us,t,⟨x1,x2,x3⟩,hs,g,u,hu=>by
  obtain e |e:=az.mp hu
  ·rw[e];exact⟨x1,by rw[x2];exact hs⟩
  ·exact Ei us x3 (g x aK) (λv hv=>g v (aI _ hv)) u e
theorem KZ:∀(us:List Tr) {t:Tr},t.bo=true→(∀x∈us,(b9 B x).bo=true)→(on B t us).bo=true
 | [],t,hs,_=>hs
 |x::us,t,hs,g=>KZ us (g x aK) λv hv=>g v (aI _ hv)
section
variable {ws:List ah}{B:List Tn}{x t t':Tr}{a l l1 l2:ai}{r:Nat}{xs os:List Tr}{S:li}{Q:WK}{X:ah→li→Prop}
def NA (K:Bk3 ws B) (hl:S l=aa (.bO (xs.map kY))) (tx:∀x∈xs,Wy ws B x∧(ak B x).bo=true) (hn:xs.length≤1000) (hr:62≤r) (h:Q (.bl (xs.all Tr.dQ)) S):vL (r+1) [.ref l] S Q X:=by
 rw[vL];ext;rw[m8 hl];obtain⟨r,rfl⟩:∃r',r=r'+1:=⟨r - 1,by lia⟩
 refine p9 (λσ=>∃y,σ=[y]) kY (λx=>W.bl x.dQ) hl xs [] _ ⟨none,rfl⟩ (by simp;lia) (λx hx σ R hI hR=>?_) ?_
 ·obtain⟨y,rfl⟩:=hI;obtain⟨h1,h2⟩:=tx x hx;obtain⟨d1,w1,_,_⟩:=K.fitw h1 h2;rw[KH];ext;exact L2.Ge 40 d1 (by lia) (h1.len K) (by lia) (hR _ _ ⟨_,rfl⟩ .refl)
 ·rw[aX,G3];refine⟨_, .refl,?_⟩;rw[fA];exact h
def MG (K:Bk3 ws B) (ha:S a=aa (.bO (B.map mK))) (hl:S l=aa (.bO (xs.map kY))) (tx:∀x∈xs,Wy ws B x∧(ak B x).bo=true) (gx:∀x∈xs,(b9 B x).bo=true) (hr:64≤r) (h:Q (kY (on B t xs)) S):zo (r+1) [.ref a, .bW [kY t, .ref l]] S Q X:=by
 rw[zo,t4];refine⟨rfl,?_⟩;rw[K8];ext;rw[show nC [kY t,W.ref l] 1=aa (.ref l) from rfl];ext;rw[m8 hl];obtain rfl |⟨ys,u,rfl⟩:=List.eq_nil_or_concat xs
 ·exact⟨_, .refl,h⟩
 ·rw[List.concat_eq_append]at *;have hne:((ys++[u]).map kY).isEmpty=false:=by simp
  obtain⟨h1,h2⟩:=tx u (by simp);have h3:=gx u (by simp);rw[KY]at h
  try rw[hne]
  rw[if_neg (by decide),Ml];ext;rw[show nC [kY t,W.ref l] 1=aa (.ref l) from rfl];ext;rw[bM]at hl;rw[m8 hl,show [u].map kY=[kY u] from rfl,Br];obtain⟨r,rfl⟩:∃r',r=r'+1:=⟨r - 1,by lia⟩
  exact K.ok_goalX h1 h2 ha (by lia) (λ_=>⟨_, .refl,h⟩) λz=>by rw[h3]at z;cases z
def WC (K:Bk3 ws B) (ha:S a=aa (.bO (B.map mK))) (h1:S l1=aa (.bO (xs.map kY))) (h2:S l2=aa (.bO (os.map kY))) (hx:nN ws B t xs) (ho:nN ws B t' os) (hs:t.bo=true) (nx:xs.length≤700) (no:os.length≤700) (hr:75≤r)
  (hA:t≠t'→X "Apart" S) (hX:t=t'→ ¬ph B xs os→ ∀S',Sub S S'→X "TooGreat" S')
  (h:t=t'→ph B xs os→ ∀S',Sub S S'→Q (.bl ((oI B xs os).all Tr.dQ)) S'):Az (r+1) [.ref a, .bW [kY t, .ref l1], .bW [kY t', .ref l2]] S Q X:=by
 obtain⟨r,rfl⟩:∃r',r=r'+1:=⟨r - 1,by lia⟩
 rw[Az];ext;refine IC K ha h1 h2 hx ho hs nx no (by lia) hA hX λet gg S1 d o g=>?_;subst et;obtain⟨ds,rs,g1,g2,g3,g4⟩:=g.ex;refine L9 g1 nx g3 λq hq=>?_;refine NA K mR (Ei _ (Am K xs os hx ho) (KZ os hs gg.go) (NI K xs os hx ho gg.ok gg.gx)) (by rw[AC];lia) (by lia) ?_;exact⟨_, .refl,h rfl gg _ (g.sub.trans (.bR .refl hq))⟩
def YB (K:Bk3 ws B) (ha:S a=aa (.bO (B.map mK))) (h1:S l1=aa (.bO (xs.map kY))) (h2:S l2=aa (.bO (os.map kY))) (hx:nN ws B t xs) (ho:nN ws B t' os) (hs:t.bo=true) (nx:xs.length≤700) (no:os.length≤700) (hr:75≤r)
  (hA:t≠t'→X "Apart" S) (hX:t=t'→ ¬ph B xs os→ ∀S',Sub S S'→X "TooGreat" S')
  (h:t=t'→ph B xs os→ ∀S' q,Sub S S'→S q=none→S' q=aa (.bO ((oI B xs os).map kY))→Q (.bW [kY (on B t os), .ref q]) S'):Bf (r+1) [.ref a, .bW [kY t, .ref l1], .bW [kY t', .ref l2]] S Q X:=by
 obtain⟨r,rfl⟩:∃r',r=r'+1:=⟨r - 1,by lia⟩
 rw[Bf,t4];refine⟨rfl,?_⟩;rw[GQ];ext;refine IC K ha h1 h2 hx ho hs nx no (by lia) hA hX λet gg S1 d o g=>?_;subst et;obtain⟨ds,rs,g1,g2,g3,g4⟩:=g.ex;refine L9 g1 nx g3 λq hq=>?_;have sb:Sub S (bR S1 q (.bO ((oI B xs os).map kY))):=g.sub.trans (.bR .refl hq);have q0:S q=none:=AM g.sub hq;have fq:bR S1 q (.bO ((oI B xs os).map kY)) q=aa (.bO ((oI B xs os).map kY)):=mR;generalize bR S1 q (.bO ((oI B xs os).map kY))=S2 at sb fq⊢;rw[Iv];ext;refine MG K (sb _ _ ha) (sb _ _ h2) (Ei os ho hs gg.go) gg.go (by lia) ?_;exact⟨by decide,_, .refl,h rfl gg _ q sb q0 fq⟩
end
section
variable {B:List Tn}{S:li}{Q:WK}{E:ah→li→Prop}{a:ai}{r:Nat}
def Yr (hr:R.depth+6≤r) (hw:R.aq≤1000) (h:∀a,S a=none→Q (.ref a) (bR S a (.bO ((qJ R i).map mB)))):Cq (r+1) [kY R, .int i] S Q E:=by
 obtain⟨r,rfl⟩:∃r',r=r'+3:=⟨r - 3,by lia⟩
 rw[Cq];ext;refine F8 (by lia) (by lia) λb hb=>?_;ext;have hl:=yb R;refine CB (λσ=>∃x,σ=[x,aa (.int i),aa (kY R)]) (λx:List Int×Tr=>mB x.1) (λx=>mB x.1) (λx=>x.2.num == (i:Int)) mR R.bls [] _ ⟨none,rfl⟩ (by simp;lia) (λx hx σ R1 R0 hI h1 h0=>?_) ?_
 ·obtain⟨y,rfl⟩:=hI;obtain⟨g1,g2,_⟩:=wR hx;ext;refine GJ g1 ?_;rw[g2];simp only[kY];ext;cases e:(x.2.num == (i:Int)) with
  |true=>
   have g3:(Tr.bl x.2.num).num=x.2.num:=rfl
   try simp only[if_true]
   rw[Kh]
   try ext
   exact h1 e _ _ ⟨_,rfl⟩ .refl
  |false=>
   try simp only[cF,if_false]
   exact h0 e _ _ ⟨_,rfl⟩ .refl
 ·rw[aX];intro c hc;obtain⟨hb1,hb2⟩:=rh hc;have:=h c hb1;unfold qJ at this;rw[bu]at this;exact⟨_, .put2 (.bR .refl hb),this⟩
def vk (B:List Tn) (a:ai) (x:Tr) (c:mI):Prop:=∀{S:li}{Q:WK}{E:ah→li→Prop}{q:List Int}{v:Tr},S a=aa (.bO (B.map mK))→(ak B x).at q=aa v→q.length≤1000→(∀f,S f=none→Q (.ref f) (bR S f (.bO ((x.lou B q).map mB))))→c [.ref a,kY x,mB q] S Q E
theorem NU{f g:ai}{l:List (List Int)}{EX:WX}{D:mY}{G:li→Prop}{S1:li}{y0 y1 y2 y3 y5 y6:Option W}(hg:S1 g=aa (.bO (l.map mB))) (hf:S1 f=none) (hG:∀o,G (bR S1 f o)) (hl:∀p∈l,p.length≤1000):∀(bs:List (List Int)) {L:List (List Int)}{y8:Option W},(∀b∈bs,b.length≤1000)→L.length+bs.length*l.length≤900000→
  (∀z8,D.nx [y0,y1,y2,y3,aa (.ref f),y5,y6,aa (.ref g),z8] (bR S1 f (.bO ((L++bs.flatMap λb=>l.map (b++ ·)).map mB))))→
  mO (mx 8) (D9 r mH) EX D G (bs.map mB) [y0,y1,y2,y3,aa (.ref f),y5,y6,aa (.ref g),y8] (bR S1 f (.bO (L.map mB)))
 | [],L,y8,_,hn,h=>by
  have:=h y8;rw[da,bg]at this;exact this
 |b::bs,L,y8,hb,hn,h=>by
  rw[aT,ck,cZ]at hn;have fg:f≠g:=by rintro rfl;rw[hg]at hf;cases hf
  have hg':∀o,bR S1 f o g=aa (.bO (l.map mB)):=λo=>by rw[nO (bz fg)];exact hg
  rw[aC];refine pT λN hN=>?_;rw[rm,D9];ext;rw[m8 (hg' _)];refine p9 (λσ=>∃z,σ=[z,aa (mB b)]) mB (λp=>mB (b++p)) (hg' _) l [] _ ⟨none,rfl⟩ (by simp;lia) (λp hp σ R hI hR=>?_) ?_
  ·obtain⟨z,rfl⟩:=hI;rw[rm,MN];ext;have h1:=hb b aK;have h2:=hl p hp;unfold mB;ext;have:=hR _ _ ⟨aa (mB p),rfl⟩ .refl;unfold mB at this;rw[bM]at this;exact⟨m7 (by simp;lia),this⟩
  ·rw[aX]
   try ext
   have e1:L.map mB++l.map (λp=>mB (b++p))=(L++l.map (b++ ·)).map mB:=by rw[bM,bu];rfl
   rw[e1];refine⟨m7 (by simp;lia),hN _ _ _ .refl (hG _) ?_⟩;refine NU hg hf hG hl bs (λc hc=>hb c (aI _ hc)) (by rw[a_,ay];lia) λz8=>?_;have:=h z8;rw[cq,←bD]at this;exact this
def CG (h:a≠b):bR (bR S a o) b o'=bR (bR S b o') a o:=by
 funext c;unfold bR;by_cases h1:c=b
 ·subst h1;rw[if_pos rfl,if_neg (bz h),if_pos rfl]
 ·rw[if_neg h1];by_cases h2:c=a
  ·rw[if_pos h2,if_pos h2]
  ·rw[if_neg h2,if_neg h2,if_neg h1]
def GF{s:ah}{ts:List Tr}{i:Nat}{x:Tr}(h:ts[i]? =aa x):nC (W.str s::af ts) ((i:Int)+1)=aa (kY x):=by
 rw[show((i:Int)+1)=((i+1:Nat):Int) by lia]
 refine Lu ?_;rw[bU,o5,aU,h];rfl
def WN{s:ah}{ts:List Tr}{i:Nat}{x:Tr}(h:ts[i]? =aa x) (q:Q (kY x) S):mE (kY (.nd s ts)) (.int ((i:Int)+1)) S Q:=by
 rw[show kY (.nd s ts)= .bW (.str s::af ts) by simp [kY],Bo,GF h]
 exact q
def QE (q:Q (kY t.2.2) S):mE (mK t) (.int 2) S Q:=by
 unfold mK;rw[Bo,show nC [W.str t.1,kY t.2.1,kY t.2.2] 2=aa (kY t.2.2) from rfl];exact q
def XD (q:Q (kY t.2.1) S):mE (mK t) (.int 1) S Q:=by
 unfold mK;rw[Bo,show nC [W.str t.1,kY t.2.1,kY t.2.2] 1=aa (kY t.2.1) from rfl];exact q
def xf (B:List Tn) (t:Tn) (i:Nat) (x:Tr) (e q:List Int):List (List Int):=if q.take e.length=e then(qJ t.2.2 i).flatMap λb=>(x.lou B (q.drop e.length)).map (b++ ·) else []
def Wa{t:Tn}{ts:List Tr}{x:Tr}{cT:mI}{i:Nat}{e q:List Int}{f:ai}{L:List (List Int)}{EX:WX}{D:mY}{S1:li}{y7 y8:Option W}(hx:ts[i]? =aa x) (hc:vk B a x cT) (ha:S1 a=aa (.bO (B.map mK))) (hf:S1 f=none)
  (hv:q.take e.length=e→(∃v,(ak B x).at (q.drop e.length)=aa v)∧ ∀p∈x.lou B (q.drop e.length),p.length≤1000) (he:e.length≤1000) (hq:q.length≤1000) (hR:t.2.2.depth≤4∧t.2.2.aq≤7) (hr:12≤r) (hn:L.length+7*(x.lou B (q.drop e.length)).length≤900000)
  (h:∀S' z7 z8,Sub (bR S1 f (.bO ((L++xf B t i x e q).map mB))) S'→D.nx [aa (.ref a),aa (kY (.nd t.1 ts)),aa (mB q),aa (mK t),aa (.ref f),aa (.int i),aa (mB e),z7,z8] S') :
  yl r cT EX D [aa (.ref a),aa (kY (.nd t.1 ts)),aa (mB q),aa (mK t),aa (.ref f),aa (.int i),aa (mB e),y7,y8] (bR S1 f (.bO (L.map mB))):=by
 have fa:f≠a:=by rintro rfl;rw[ha]at hf;cases hf
 rw[yl];have eq1:mB q= .bW (q.map W.int):=rfl;have ee1:mB e= .bW (e.map W.int):=rfl;simp only[eq1,ee1];ext;have et:nC [W.str t.1,kY t.2.1,kY t.2.2] 2=aa (kY t.2.2):=rfl;have ct:(q.map W.int).take e.length=(q.take e.length).map W.int:=by rw[jx]
 have cd:(q.map W.int).drop e.length=(q.drop e.length).map W.int:=by rw[je]
 rw[ay,CH,ct];rw[show nY (bR S1 f (.bO (L.map mB))) 60 (.bW ((q.take e.length).map W.int)) (.bW (e.map W.int))=aa (decide (q.take e.length=e)) from Dh (n:=58) _ _];by_cases hq':q.take e.length=e
 ·obtain⟨⟨v,hv⟩,hp⟩:=hv hq';rw[decide_eq_true hq']
  try simp only[if_true]
  refine WN hx ?_;rw[AV,cd];refine hc (q:=q.drop e.length) (by rw[nO (bz fa)];exact ha) hv (by rw[cI];lia) λg hg=>?_;obtain⟨hg1,hg2⟩:=rh hg;refine QE ?_;obtain⟨r,rfl⟩:∃r',r=r'+1:=⟨r - 1,by lia⟩
  refine Yr (by lia) (by lia) λk hk=>?_;obtain⟨hk1,hk2⟩:=rh hk;obtain⟨hk3,hk4⟩:=rh hk1;dsimp only;rw[m8 mR];have sb:Sub S1 (bR (bR S1 g (.bO ((x.lou B (q.drop e.length)).map mB))) k (.bO ((qJ t.2.2 i).map mB))):=(Sub.bR .refl hg1).trans (.bR .refl (by rw[nO hk2];exact hk3));rw[CG (S:=S1) hg2.symm,CG hk4.symm];have pl:(qJ t.2.2 i).length≤7:=by
   unfold qJ;rw[ay];have:=yb t.2.2;exact aY (gJ _ _) (by lia)
  refine NU (by rw[nO hk2.symm,mR]) (by rw[nO hk4.symm,nO hg2.symm];exact hf) (λo=>by rw[nO hk4,mR]) hp (qJ t.2.2 i) (λb hb=>?_) ?_ λz8=>?_
  ·have:=uP b (pV.mp hb);lia
  ·have:=dP (x.lou B (q.drop e.length)).length pl;lia
  ·refine h _ _ _ ?_;unfold xf;rw[if_pos hq'];exact BJ sb
 ·rw[decide_eq_false hq'];have:=h (bR S1 f (.bO (L.map mB))) y7 y8;unfold xf at this;rw[if_neg hq',bg]at this;exact this .refl
theorem GT{G:li→Prop}(ha:S1 a=aa (.bO (B.map mK))) (hf:S1 f=none) (hG:∀o,G (bR S1 f o)) (hq:q.length≤1000) (hR:t.2.2.depth≤4∧t.2.2.aq≤7) (hr:12≤r) :
  ∀(xs:List Tr) (es:List (List Int)) (i:Nat) {L:List (List Int)}{y5 y6 y7 y8:Option W},xs.length=es.length→(∀j,(t.2.1.bls.map λz=>z.1)[i+j]? =es[j]?)→(∀j x,xs[j]? =aa x→ts[i+j]? =aa x∧vk B a x cT∧ ∀e,es[j]? =aa e→e.length≤1000∧(q.take e.length=e→(∃v,(ak B x).at (q.drop e.length)=aa v)∧ ∀p∈x.lou B (q.drop e.length),p.length≤1000)∧(x.lou B (q.drop e.length)).length≤20000)→L.length+xs.length*140000≤500000→
  (∀S' z5 z6 z7 z8,Sub (bR S1 f (.bO ((L++rf B t i xs q).map mB))) S'→D.nx [aa (.ref a),aa (kY (.nd t.1 ts)),aa (mB q),aa (mK t),aa (.ref f),z5,z6,z7,z8] S')→
  mO (pC (nP (mx 5) (nP (mx 6) o6))) (yl r cT) EX D G (pL i (es.map mB)) [aa (.ref a),aa (kY (.nd t.1 ts)),aa (mB q),aa (mK t),aa (.ref f),y5,y6,y7,y8] (bR S1 f (.bO (L.map mB)))
 | [],[],i,L,y5,y6,y7,y8,_,_,_,_,h=>by
  rw[rf,bg]at h;exact h _ _ _ _ _ .refl
 |x::xs,e::es,i,L,y5,y6,y7,y8,hl,hb,hx,n1,h=>by
  obtain⟨g1,g2,g3⟩:=hx 0 x rfl;obtain⟨g4,g5,g7⟩:=g3 e rfl;have he:(t.2.1.bls.map λz=>z.1)[i]? =aa e:=hb 0;rw[aT]at n1;rw[aC,pL];refine pT λN hN=>?_;rw[FU];show nP (mx 5) (nP (mx 6) o6) [.int i,mB e] _ _ _;rw[yw];show mx 5 _ _ _ _;rw[rm,yw];show mx 6 _ _ _ _;rw[rm,CO];show yl r cT _ _ [aa (.ref a),aa (kY (.nd t.1 ts)),aa (mB q),aa (mK t),aa (.ref f),aa (.int i),aa (mB e),y7,y8] _;refine Wa g1 g2 ha hf g5 g4 hq hR hr (by lia) λS' z7 z8 s'=>?_;refine hN _ _ _ s' (hG _) ?_;have el:rf B t i (x::xs) q=xf B t i x e q++rf B t (i+1) xs q:=by
   rw[rf,he];rfl
  have ll:(xf B t i x e q).length≤140000:=by
   unfold xf;split
   ·have h1:=FT (f:=λb=>(x.lou B (q.drop e.length)).map (b++ ·)) (k:=20000) (qJ t.2.2 i) λb _=>by rw[ay];exact g7
    have h2:(qJ t.2.2 i).length≤7:=by
     unfold qJ;rw[ay];have:=yb t.2.2;exact aY (gJ _ _) (by lia)
    have:=dP 20000 h2;lia
   ·exact aO _
  refine GT ha hf hG hq hR hr xs es (i+1) (by simpa using hl) (λj=>?_) (λj y hy=>?_) (by rw[a_];lia) λS2 z5 z6 z7 z8 s2=>h S2 z5 z6 z7 z8 ?_
  ·have:=hb (j+1);rw[bU]at this;rw[←this];congr 1;lia
  ·have:=hx (j+1) y (by rw[bU];exact hy);rw[bU]at this;rw[show i+1+j=i+(j+1) by lia]
   exact this
  ·rw[el,←bD];exact s2
end
mutual
theorem Ki:∀t:Tr,t.sd≤t.depth
 | .bl n=>by rw[Tr.sd];exact aO _
 | .nd s ts=>by
  have:=Od ts;rw[Tr.sd,Tr.depth];lia
theorem Od:∀ts:List Tr,rV ts≤m_ ts
 | []=>by rw[rV];exact aO _
 |t::ts=>by
  have h1:=Ki t;have h2:=Od ts;rw[rV,m_];lia
end
theorem Bk3.gol_dp (K:Bk3 ws B):∀(n:Nat) {x:Tr},x.aq≤n→Wy ws B x→(L2.b9 B x).depth≤4*x.depth
 |0,x,hn,hx=>by have:=rN x;lia
 |n+1,x,hn,hx=>by
  have sup:∀(ts:List Tr),(∀y∈ts,(L2.b9 B y).depth≤4*y.depth)→m_ (ts.map (L2.b9 B))≤4*m_ ts:=λts=>by
   induction ts with
   |nil=>intro _;simp [m_]
   |cons y ts ih=>
    intro h;have h1:=h y aK;have h2:=ih λz hz=>h z (aI _ hz);rw[aC,m_,m_];lia
  obtain ⟨s,ts,rfl,hh,e,k⟩ |⟨t,ts,ht,rfl,e,hl,k⟩:=Wy.cases K.b hx
  ·rw[Tr.aq]at hn;have:=sup ts λy hy=>Bk3.gol_dp K n (by have:=pf hy;lia) (k y hy);rw[L2.b9,qe e,Tr.depth,Tr.depth];show 1+m_ (ts.map (L2.b9 B))≤_;lia
  ·rw[Tr.aq]at hn;have h1:=sup ts λy hy=>Bk3.gol_dp K n (by have:=pf hy;lia) (k y hy);have h2:=Mg (us:=ts.map (L2.b9 B)) t.2.2 (by rw[ay,hl];exact(K.b.ri t ht).bt);have h3:=Ki t.2.2;have h4:=(K.b.ri t ht).dp;rw[L2.b9,pY e,Tr.depth];show(t.2.2.aD (ts.map (L2.b9 B))).depth≤_;lia
def mZ.bls7 (c:mZ w0 w1 w2 w3 w4 w5 tt B):∀t∈B,t.2.2.bls.length≤7:=λt ht=>aY (yb _) (c.b.ri t ht).wt
def mZ.ok_lbelow (c:mZ w0 w1 w2 w3 w4 w5 tt B) (ht:t∈B) (hl:ts.length=t.2.1.nb) (hx:∀x∈ts,Wy [w0,w1,w2,w3,w4,w5] B x∧vk B a x cT∧x.ne B≤5∧x.depth≤100) (ha:S a=aa (.bO (B.map mK))) (hv:(ak B (.nd t.1 ts)).at q=aa v) (hq:q.length≤1000) (hr:20≤r)
  (h:∀f,S f=none→Q (.ref f) (bR S f (.bO ((rf B t 0 ts q).map mB)))):Ci cT (r+1) [.ref a,kY (.nd t.1 ts),mB q,mK t] S Q E:=by
 have et:=rg c.K.b.nd ht;have es:ak B (.nd t.1 ts)=t.2.1.aD (ts.map (ak B)):=by rw[ak,pY et]
 have hL:=c.K.b.lf t ht;have K1:=hL.wt;have K2:=hL.nb;have K3:=hL.dp;have R1:=(c.b.ri t ht).wt;have R2:=(c.b.ri t ht).dp;rw[Ci];ext;refine⟨aO _,λf hf=>?_⟩;refine XD ?_;obtain⟨r,rfl⟩:∃r',r=r'+1:=⟨r - 1,by lia⟩
 refine F8 (by lia) (by lia) λz hz=>?_;obtain⟨hz1,hz2⟩:=rh hz;rw[BZ,m8 mR,CG hz2.symm];have sb:Sub S (bR S z (.bO (t.2.1.bls.map λx=>mB x.1))):= .bR .refl hz1;have fa:f≠a:=by rintro rfl;rw[ha]at hf;cases hf
 have e0:(t.2.1.bls.map λx=>mB x.1)=(t.2.1.bls.map λx=>x.1).map mB:=by rw[bu];rfl
 have bl:ts.length=(t.2.1.bls.map λx=>x.1).length:=by rw[ay,Fg,hl]
 generalize hzs:(t.2.1.bls.map λx=>mB x.1)=zs at *;rw[show pL 0 zs=pL 0 ((t.2.1.bls.map λx=>x.1).map mB) by rw[e0]]
 refine GT (B:=B) (a:=a) (r:=r+1) (t:=t) (ts:=ts) (cT:=cT) (q:=q) (f:=f) (S1:=bR S z (.bO zs)) (G:=λS'=>S' z=aa (.bO zs)) (L:=[]) (y5:=none) (y6:=none) (y7:=none) (y8:=none) (sb _ _ ha) (by rw[nO hz2.symm];exact hf) (λo=>by rw[nO hz2,mR]) hq ⟨R2,R1⟩ (by lia) ts (t.2.1.bls.map λx=>x.1) 0 bl (λj=>by rw[bE]) (λj x hj=>?_) (by rw[di,hl];lia) λS' z5 z6 z7 z8 s'=>?_
 rotate_left
 ·rw[aX]at s';ext;exact⟨_,(BJ sb).trans s',h f hf⟩
 ·have hm:=aJ hj;obtain⟨g1,g2,g3,g4⟩:=hx x hm;refine⟨by rw[bE];exact hj,g2,λe he=>?_⟩;have hat:=(c.bl ht).mpr he;have hel:=uP e hat;have hsr:∀q',q=e++q'→(ak B x).at q'=aa v:=λq' hq'=>by
   have a1:(ak B (.nd t.1 ts)).at e=aa (ak B x):=by
    rw[es,xa e hat (by rw[ay,hl];exact hL.bt),bb,aU,hj];rfl
   rw[hq',vi e _ a1]at hv;exact hv
  refine⟨by lia,λhq'=>?_,?_⟩
  ·have h1:=hsr (q.drop e.length) (by conv=>lhs;rw[←gM e.length q,hq']);refine⟨⟨v,h1⟩,λp hp=>?_⟩;obtain⟨v',h2⟩:=c.lou_at _ (aA _) g1 h1 hp;have h3:=uP p h2;have h4:=c.K.gol_dp _ (aA _) g1;lia
  ·exact aY (xN c.bls7 x _) (aY (dj (by decide) g3) (by decide))
def mZ.lou_s (c:mZ w0 w1 w2 w3 w4 w5 tt B) (e:m9 B s=none) (hc:∀x∈ts,vk B a x (q_ r)) (hl:∀x∈ts,∀q,(x.lou B q).length≤20000) (hp:∀x∈ts,∀q v,(ak B x).at q=aa v→ ∀p∈x.lou B q,p.length≤1000):vk B a (.nd s ts) (q_ (r+2)):=λ{S Q E q v} ha hv hq h=>by
 have es:ak B (.nd s ts)= .nd s (ts.map (ak B)):=by rw[ak,qe e]
 rw[es]at hv;have ex:kY (.nd s ts)= .bW (.str s::af ts):=by simp [kY]
 rw[q_,ex];walk_at "wp";refine xH ha ?_;rw[e];simp only[oH]
 try walk_at "wp"
 refine⟨aO _,?_⟩;rw[Dx];cases q with
 |nil=>
  rw[Bq e]at h;exact⟨aO _,by decide,λf hf=>⟨_, .refl,h f hf⟩⟩
 |cons i q=>
  simp only[iW,cF,if_false];obtain⟨w,h0,h1,h2⟩:=pP hv;obtain⟨i,rfl⟩:∃i':Nat,i=i':=⟨i.toNat,by lia⟩
  rw[bb,aU]at h1;cases ei:ts[i]? with
  |none=>rw[ei]at h1;cases h1
  |some x=>
   rw[ei]at h1;cases h1;have hx:=aJ ei;rw[vU e ei]at h;rw[aT]at hq;have ep:mB ((i:Int)::q)= .bW (.int i::q.map W.int):=rfl;simp only[ep];walk_at "wp";rw[GF ei];dsimp only
   try walk_at "wp"
   refine hc x hx (q:=q) ha h2 (by lia) λg hg=>?_;dsimp only;rw[m8 mR];have l1:=hl x hx q;refine p9 (λσ=>∃z,σ=[z,aa (.int i)]) mB (λp=>mB ((i:Int)::p)) mR (x.lou B q) [] _ ⟨none,rfl⟩ (by simp;lia) (λp hp' σ R hI hR=>?_) ?_
   ·obtain⟨z,rfl⟩:=hI;rw[rm,JD];have l2:=hp x hx q _ h2 p hp';have:=hR [aa (mB p),aa (.int i)] S ⟨_,rfl⟩ ;walk_at "wp";unfold mB;walk_at "wp";have:=hR [aa (mB p),aa (.int i)] _ ⟨_,rfl⟩ .refl;unfold mB at this;rw[aC]at this;exact⟨by decide,m7 (by simp;lia),this⟩
   ·rw[aX];intro f hf;obtain⟨hf1,hf2⟩:=rh hf;have:=h f hf1;rw[bu]at this;exact⟨_, .put2 (.bR .refl hg),this⟩
def mZ.lou_t (c:mZ w0 w1 w2 w3 w4 w5 tt B) (ht:t∈B) (hl:ts.length=t.2.1.nb) (hx:∀x∈ts,Wy [w0,w1,w2,w3,w4,w5] B x∧vk B a x (q_ r)∧x.ne B≤5∧x.depth≤100) (hr:20≤r):vk B a (.nd t.1 ts) (q_ (r+2)):=λ{S Q E q v} ha hv hq h=>by
 have et:=rg c.K.b.nd ht;rw[xT et]at h;have ex:kY (.nd t.1 ts)= .bW (.str t.1::af ts):=by simp [kY]
 rw[q_,ex];walk_at "wp";refine xH ha ?_;rw[et];simp only[oH];rw[←ex]
 try walk_at "wp"
 have isT:∀K:WK,K (.bl true) S→pk true (mK t) .cc S K:=λK q=>by
  unfold mK;rw[Lr];exact q
 refine isT _ ?_;dsimp only;rw[if_pos rfl];exact c.ok_lbelow ht hl hx ha hv hq (by lia) λf hf=>⟨_, .refl,h f hf⟩
theorem mZ.ok_lou (c:mZ w0 w1 w2 w3 w4 w5 tt B):∀(n:Nat) {x:Tr}{r:Nat},x.depth≤n→n≤100→2*n+22≤r→Wy [w0,w1,w2,w3,w4,w5] B x→x.ne B≤5→vk B a x (q_ r)
 |0,x,r,hn,_,hr,hx,he=>by have:=qB x;lia
 |n+1,x,r,hn,h100,hr,hx,he=>by
  obtain⟨r',er⟩:∃r',r=r'+2:=⟨r - 2,by lia⟩
  have e1:q_ r=q_ (r'+2):=by rw[er]
  rw[e1];obtain ⟨s,ts,rfl,hh,e,k⟩ |⟨t,ts,ht,rfl,e,hl,k⟩:=Wy.cases c.K.b hx
  ·rw[Tr.depth]at hn;rw[Cg e]at he;have kid:∀x∈ts,x.depth≤n∧x.ne B≤5:=λx hx=>⟨by have:=p5 hx;lia,by have:=wV (B:=B) hx;lia⟩
   refine c.lou_s e (λx hx=>mZ.ok_lou c n (kid x hx).1 (by lia) (by lia) (k x hx) (kid x hx).2) (λx hx q=>?_) λx hx q v hv p hp=>?_
   ·exact aY (xN c.bls7 x q) (aY (dj (by decide) (kid x hx).2) (by decide))
   ·obtain⟨v',h2⟩:=c.lou_at _ (aA _) (k x hx) hv hp;have h3:=uP p h2;have h4:=c.K.gol_dp _ (aA _) (k x hx);have:=(kid x hx).1;lia
  ·rw[Tr.depth]at hn;rw[D_ e]at he;exact c.lou_t ht hl (λx hx=>⟨k x hx,mZ.ok_lou c n (by have:=p5 hx;lia) (by lia) (by lia) (k x hx) (by have:=wV (B:=B) hx;lia),by have:=wV (B:=B) hx;lia,by have:=p5 hx;lia⟩) (by lia)
structure vV (ws:List ah) (B:List Tn) (x:Tr):Prop where
  w:Wy ws B x
  d:x.depth≤40
  n:x.ne B≤5
theorem IF{l:ai}{f:ai}{ps0:List (List Int)}{EX:WX}{D:mY}{S1:li}{y2:Option W}(c:mZ w0 w1 w2 w3 w4 w5 tt B) (hx:vV [w0,w1,w2,w3,w4,w5] B x) (ha:S1 a=aa (.bO (B.map mK))) (hl:S1 l=aa (.bO (ps0.map mB))) (hf:S1 f=none) (hr:102≤r):∀(ps:List (List Int)) {L:List (List Int)}{y4:Option W},(∀p∈ps,p.length≤1000∧ ∃v,(ak B x).at p=aa v)→L.length+ps.length*7 ^ x.ne B≤900000→
  (∀z4,D.nx [aa (.ref a),aa (kY x),y2,aa (.ref f),z4] (bR S1 f (.bO ((L++ps.flatMap (x.lou B)).map mB))))→
  mO (mx 4) (Ek r mH) EX D (λS'=>S' l=aa (.bO (ps0.map mB))) (ps.map mB) [aa (.ref a),aa (kY x),y2,aa (.ref f),y4] (bR S1 f (.bO (L.map mB)))
 | [],L,y4,_,_,h=>by
  have:=h y4;rw[da,bg]at this;exact this
 |p::ps,L,y4,hp,hn,h=>by
  have fa:f≠a:=by rintro rfl;rw[ha]at hf;cases hf
  have fl:f≠l:=by rintro rfl;rw[hl]at hf;cases hf
  obtain⟨p1,v,p2⟩:=hp p aK;have ll:=xN c.bls7 x p;rw[aT,ck,cZ]at hn;rw[aC];refine pT λN hN=>?_;rw[rm,Ek];ext;refine c.ok_lou 40 hx.d (by decide) (by lia) hx.w hx.n (q:=p) (by rw[nO fa.symm];exact ha) p2 p1 λg hg=>?_;obtain⟨hg1,hg2⟩:=rh hg
  try ext
  rw[CG hg2.symm];rw[m8 mR,pN];rw[←bM];refine⟨m7 (by rw[ay,ay];lia),hN _ _ (bR S1 f (.bO ((L++x.lou B p).map mB))) (BJ (.bR .refl hg1)) (by rw[nO fl.symm];exact hl) ?_⟩;refine IF c hx ha hl hf hr ps (λq hq=>hp q (aI _ hq)) (by rw[a_];lia) λz4=>?_;have:=h z4;rw[cq,←bD]at this;exact this
def mZ.ok_still{S:li}{Q:WK}{E:ah→li→Prop}{l:ai}{ps:List (List Int)}(c:mZ w0 w1 w2 w3 w4 w5 tt B) (hx:vV [w0,w1,w2,w3,w4,w5] B x) (ha:S a=aa (.bO (B.map mK))) (hl:S l=aa (.bO (ps.map mB))) (hp:∀p∈ps,p.length≤1000∧ ∃v,(ak B x).at p=aa v) (hn:ps.length*7 ^ x.ne B≤900000) (hr:102≤r)
  (h:∀f,S f=none→Q (.ref f) (bR S f (.bO ((ps.flatMap (x.lou B)).map mB)))):xo (r+1) [.ref a,kY x, .ref l] S Q E:=by
 rw[xo];ext;refine⟨aO _,λf hf=>?_⟩;have fl:f≠l:=by rintro rfl;rw[hl]at hf;cases hf
 rw[m8 (keep hl hf)];refine IF (L:=[]) (y4:=none) c hx ha hl hf hr ps hp (by rw[di];lia) λz4=>?_;ext;exact⟨_, .refl,h f hf⟩
theorem Kk{S:li}{lw:ai}{xs0:List Tr}{EX:WX}{D:mY}{y1:Option W}(c:mZ w0 w1 w2 w3 w4 w5 tt B) (ha:S a=aa (.bO (B.map mK))) (hl:S lw=aa (.bO (xs0.map kY))) (hr:103≤r):∀(xs:List Tr) {X:Tr}{l:ai}{ps:List (List Int)}{y2 y4:Option W},(∀x∈xs,vV [w0,w1,w2,w3,w4,w5] B x)→nN [w0,w1,w2,w3,w4,w5] B X xs→(∀p∈ps,p.length≤1000∧ ∃v,X.at p=aa v)→ps.length*7 ^ nR B xs≤900000→S l=none→
  (∀l' y2 z4,S l'=none→D.nx [aa (.ref a),y1,y2,aa (.ref l'),z4] (bR S l' (.bO ((p_ B xs ps).map mB))))→
  mO (mx 4) (Dn r mH) EX D (λS'=>S' lw=aa (.bO (xs0.map kY))) (xs.map kY) [aa (.ref a),y1,y2,aa (.ref l),y4] (bR S l (.bO (ps.map mB)))
 | [],X,l,ps,y2,y4,_,_,_,_,h0,h=>h l y2 y4 h0
 |x::xs,X,l,ps,y2,y4,hx,⟨x1,x2,x3⟩,hp,hn,h0,h=>by
  have wx:=hx x aK;rw[nR,gD,←jL]at hn;have h7:=kj (nR B xs) 7 (by decide);have hn1:ps.length*7 ^ x.ne B≤900000:=aY (lO _ h7) hn;have fl:=FT (f:=x.lou B) (k:=7 ^ x.ne B) ps λp _=>xN c.bls7 x p;rw[aC];refine pT λN hN=>?_;rw[rm,Dn];ext;obtain⟨r',er⟩:∃r',r=r'+1:=⟨r - 1,by lia⟩
  have e1:xo r=xo (r'+1):=by rw[er]
  rw[e1];refine c.ok_still wx (keep ha h0) mR (λp hp'=>?_) hn1 (by lia) λg hg=>?_
  ·obtain⟨g1,v,g2⟩:=hp p hp';exact⟨g1,v,by rw[x2];exact g2⟩
  ·obtain⟨hg1,hg2⟩:=rh hg;refine hN _ _ (bR S g (.bO ((ps.flatMap (x.lou B)).map mB))) (.put2 (.bR .refl h0)) ?_ ?_
   ·exact keep hl hg1
   ·refine Kk c ha hl hr xs (λy hy=>hx y (aI _ hy)) x3 (λp hp'=>?_) (aY (dP _ fl) hn) hg1 h;obtain⟨q,hq,hpq⟩:=dX.mp hp';obtain⟨g1,v,g2⟩:=hp q hq;obtain⟨v',g3⟩:=c.lou_at _ (aA _) x1 (by rw[x2];exact g2) hpq;have h3:=uP p g3;have h4:=c.K.gol_dp _ (aA _) x1;have:=wx.d;exact⟨by lia,v',g3⟩
def Rr{S:li}{l q:ai}{ps:List (List Int)}(hl:S l=aa (.bO (ps.map mB))) (hq:S q=aa (.bO [])):nY S 60 (.ref l) (.ref q)=aa ps.isEmpty:=by
 show(match S l with
  |some (.bO xs)=>match S q with
   |some (.bO ys)=>oV (nY S 59) xs ys
   |_=>none
  |_=>none)=_
 rw[hl,hq];cases ps with
 |nil=>rfl
 |cons p ps=>rfl
def mZ.ok_isdone{E:ah→li→Prop}(c:mZ w0 w1 w2 w3 w4 w5 tt B) (hx:∀x∈xs,vV [w0,w1,w2,w3,w4,w5] B x) (hR:nN [w0,w1,w2,w3,w4,w5] B X xs) (ha:S a=aa (.bO (B.map mK))) (hl:S lw=aa (.bO (xs.map kY))) (hq:X.at q=aa v) (hq1:q.length≤1000) (hn:nR B xs≤7) (hr:103≤r)
  (h:∀S',Sub S S'→Q (.bl (p_ B xs [q]).isEmpty) S'):B_ (r+1) [.ref a,mB q, .ref lw] S Q E:=by
 rw[B_];ext;refine⟨by decide,λl h0=>?_⟩;rw[m8 (keep hl h0)];refine Kk (ps:=[q]) (y2:=aa (.ref lw)) (y4:=none) c ha hl hr xs hx hR (λp hp=>?_) ?_ h0 λl' y2 z4 hl'=>?_
 ·rw[bi.mp hp];exact⟨hq1,v,hq⟩
 ·have:=dj (n:=7) (by decide) hn;rw[cw,cZ];exact aY this (by decide)
 ·ext;refine⟨aO _,λz hz=>?_⟩;rw[Rr (keep mR hz) mR];exact⟨_, .refl,h _ ((Sub.bR .refl hl').trans (.bR .refl hz))⟩
def u7 (B:List Tn) (X:Tr) (xs:List Tr):Option (List Int):=((X.op B []).map λz=>z.1).find? λq=>(p_ B xs [q]).isEmpty
def Qv:Option (List Int)→W
 |some q=>mB q
 |none=> .cc
def mZ.ok_first{E:ah→li→Prop}(c:mZ w0 w1 w2 w3 w4 w5 tt B) (hx:∀x∈xs,vV [w0,w1,w2,w3,w4,w5] B x) (hX:Sh [w0,w1,w2,w3,w4,w5] B X) (hs:X.bo=true) (hR:nN [w0,w1,w2,w3,w4,w5] B X xs) (ha:S a=aa (.bO (B.map mK))) (hl:S lw=aa (.bO (xs.map kY))) (hn:nR B xs≤7) (hr:110≤r)
  (h:∀S',Sub S S'→Q (Qv (u7 B X xs)) S'):BC (r+1) [.ref a, .bW [kY X, .ref lw]] S Q E:=by
 obtain⟨h3,h4⟩:=qS hs;have hol:=xL B X [];obtain⟨r,rfl⟩:∃r',r=r'+1:=⟨r - 1,by lia⟩
 rw[BC];ext;refine zK c.L ha (by lia) (by lia) (by lia) hX.hdT λq1 hq1=>?_;refine FC mR (by lia) λq2 hq2=>?_;have sb:Sub S (bR (bR S q1 (.bO ((X.op B []).map encX))) q2 (.bO (((X.op B []).map λx=>x.1).map mB))):=(Sub.bR .refl hq1).trans (.bR .refl hq2);dsimp only;rw[m8 mR];have f2:bR (bR S q1 (.bO ((X.op B []).map encX))) q2 (.bO (((X.op B []).map λx=>x.1).map mB)) q2=aa (.bO (((X.op B []).map λx=>x.1).map mB)):=mR;generalize bR (bR S q1 (.bO ((X.op B []).map encX))) q2 (.bO (((X.op B []).map λx=>x.1).map mB))=S2 at sb f2;have fs:∀ps:List (List Int),(ps.findSome? λq=>if(p_ B xs [q]).isEmpty then aa (mB q) else none)=(ps.find? λq=>(p_ B xs [q]).isEmpty).map mB:=λps=>by
  induction ps with
  |nil=>rfl
  |cons p ps ih=>
   rw[eF,b_];cases e:(p_ B xs [p]).isEmpty with
   |true=>rfl
   |false=>exact ih
 refine v6 f2 (λσ=>∃z,σ=[aa (.ref a),aa (.bW [kY X, .ref lw]),z]) mB (λq=>if(p_ B xs [q]).isEmpty then aa (mB q) else none) _ _ ⟨none,rfl⟩ (λq hq σ N hI h1 h2=>?_) (λe σ hI=>?_) λw e S' s'=>?_
 ·obtain⟨z,rfl⟩:=hI;obtain⟨y,hy,rfl⟩:=aV.mp hq;obtain⟨q',t,us,e1,o⟩:=yp c.K _ (aA _) hX hy;rw[aX]at e1;have hd:=uP q' o.hat;rw[rm,Nw];ext;rw[show nC [kY X,W.ref lw] 1=aa (.ref lw) from rfl];dsimp only;refine c.ok_isdone hx hR (sb _ _ ha) (sb _ _ hl) (by rw[e1];exact o.hat) (by rw[e1];lia) hn (by lia) λS3 s3=>?_;ext;cases e:(p_ B xs [y.1]).isEmpty with
  |true=>exact h2 _ (by rw[e];rfl) _ s3
  |false=>exact h1 (by rw[e];rfl) _ _ ⟨_,rfl⟩ s3
 ·ext;refine⟨_, .refl,?_⟩;have:=h _ sb;rw[fs]at e;unfold u7 at this;cases e2:((X.op B []).map λz=>z.1).find? λq=>(p_ B xs [q]).isEmpty with
  |none=>rw[e2]at this;exact this
  |some p=>rw[e2]at e;cases e
 ·rw[fs]at e;have:=h _ (sb.trans s');unfold u7 at this;cases e2:((X.op B []).map λz=>z.1).find? λq=>(p_ B xs [q]).isEmpty with
  |none=>rw[e2]at e;cases e
  |some p=>
   rw[e2]at e this;cases e;exact⟨_, .refl,this⟩
def mZ.shs (c:mZ w0 w1 w2 w3 w4 w5 tt B) {x:Tr}(hx:Wy [w0,w1,w2,w3,w4,w5] B x):Sh [w0,w1,w2,w3,w4,w5] B (ak B x):=⟨(c.K.ak hx).1,(c.K.ak hx).2.1⟩
def LD{α:Type}{l:List α}(h:∀x,¬x∈l):l=[]:=by
 cases l with
 |nil=>rfl
 |cons x l=>exact absurd aK (h x)
def mZ.up_ou (c:mZ w0 w1 w2 w3 w4 w5 tt B) {x:Tr}{q:List Int}(u:Up B x q):Wy [w0,w1,w2,w3,w4,w5] B x→(∃t us,Ou [w0,w1,w2,w3,w4,w5] B (ak B x) q t us)∧x.lou B q=[]:=by
 induction u with
 | @here h ts t e=>
  intro hx;have ht:t∈B:=bX e;have hh:t.1=h:=by simpa using eN e
  subst hh;have hl:ts.length=t.2.1.nb:=by
   have:=hx.ar;rw[Tr.ar]at this;exact this.1 t e
  have es:ak B (.nd t.1 ts)=t.2.1.aD (ts.map (ak B)):=by rw[ak,pY e]
  refine⟨⟨t,ts.map (ak B),ht,by rw[ay,hl],by rw[pq,es],λy hy=>?_⟩,LD λq'=>c.lou_top ht⟩
  obtain⟨z,hz,rfl⟩:=aV.mp hy;exact c.shs (hx.dI z hz)
 | @sgn h ts i x q e hi _ ih=>
  intro hx;obtain⟨⟨t,us,o⟩,hl⟩:=ih (hx.dI x (aJ hi));have es:ak B (.nd h ts)= .nd h (ts.map (ak B)):=by rw[ak,qe e]
  refine⟨⟨t,us,o.ht,o.hl,?_,o.sh⟩,by rw[vU e hi,hl];rfl⟩
  rw[es,rO (show(ts.map (ak B))[i]? =aa (ak B x) by rw[aU,hi];rfl)]
  exact o.hat
 | @tit h ts t i x e q et he hi _ ih=>
  intro hx;obtain⟨⟨t',us,o⟩,hl⟩:=ih (hx.dI x (aJ hi));have ht:t∈B:=bX et;have hh:t.1=h:=by simpa using eN et
  subst hh;have hn:ts.length=t.2.1.nb:=by
   have:=hx.ar;rw[Tr.ar]at this;exact this.1 t et
  have es:ak B (.nd t.1 ts)=t.2.1.aD (ts.map (ak B)):=by rw[ak,pY et]
  have a1:(ak B (.nd t.1 ts)).at e=aa (ak B x):=by
   rw[es,xa e he (by rw[ay,hn];exact(c.K.b.lf t ht).bt),bb,aU,hi];rfl
  refine⟨⟨t',us,o.ht,o.hl,by rw[vi e _ a1];exact o.hat,o.sh⟩,LD λq' h=>?_⟩
  obtain⟨b,r',_,h2,_⟩:=(c.lou_tit ht he hi).mp h;rw[hl]at h2;cases h2
theorem Ll (hB:∀t∈B,p7 t.1):∀(q:List Int) {x v:Tr},x.hd ow→x.at q=aa v→x.lou B q=[q]
 | [], .bl n,v,h,e=>by rw[Tr.hd]at h;exact h.elim
 | [], .nd s ts,v,h,e=>by
  rw[Tr.hd]at h;rw[Bq (qb hB h.1)]
 |i::q, .bl n,v,h,e=>by cases e
 |i::q, .nd s ts,v,h,e=>by
  obtain⟨w,h0,h1,h2⟩:=pP e;obtain⟨i,rfl⟩:∃i':Nat,i=i':=⟨i.toNat,by lia⟩
  rw[bb]at h1;rw[Tr.hd,mW]at h;rw[vU (qb hB h.1) h1,Ll hB q (h.2 w (aJ h1)) h2];rfl
theorem HR:∀xs:List Tr,p_ B xs []=[]
 | []=>rfl
 |x::xs=>by rw[p_,da];exact HR xs
theorem mZ.some_done (c:mZ w0 w1 w2 w3 w4 w5 tt B):∀(xs:List Tr) {X:Tr},nN [w0,w1,w2,w3,w4,w5] B X xs→xs.all Tr.dQ=false→ ∃q t us,Ou [w0,w1,w2,w3,w4,w5] B X q t us∧p_ B xs [q]=[]
 | [],X,_,h=>by cases h
 |x::xs,X,⟨x1,x2,x3⟩,h=>by
  cases e:x.dQ with
  |true=>
   rw[fo,e,iF]at h;have sg:=xk x e;have e1:ak B x=x:=rP c.K.b.ti x sg;have e2:b9 B x=x:=rP c.K.b.ti x sg;obtain⟨q,t,us,o,hd⟩:=mZ.some_done c xs x3 h;rw[e2,←e1,x2]at o;refine⟨q,t,us,o,?_⟩;rw[p_,cq,da,bg,Ll c.K.b.ti q sg (v:=t.2.1.aD us) (by rw[←e1,x2];exact o.hat)];exact hd
  |false=>
   have:¬ ∀q,¬Up B x q:=λz=>by
    rw[(c.up_quiet x1).mpr z]at e;cases e
   obtain⟨q,u⟩:=Classical.not_forall_not.mp this;obtain⟨⟨t,us,o⟩,hl⟩:=c.up_ou u x1;rw[x2]at o;refine⟨q,t,us,o,?_⟩;rw[p_,cq,da,bg,hl];exact HR xs
def mZ.fst_some (c:mZ w0 w1 w2 w3 w4 w5 tt B) {X:Tr}{xs:List Tr}(hX:Sh [w0,w1,w2,w3,w4,w5] B X) (hR:nN [w0,w1,w2,w3,w4,w5] B X xs) (h:xs.all Tr.dQ=false):∃q t us,u7 B X xs=aa q∧Ou [w0,w1,w2,w3,w4,w5] B X q t us∧p_ B xs [q]=[]:=by
 obtain⟨q,t,us,o,hd⟩:=c.some_done xs hR h;have hm:=o.op c.K c.F;cases e:u7 B X xs with
 |none=>
  unfold u7 at e;have:=gB.mp e q hm;rw[hd]at this;exact absurd rfl this
 |some p=>
  have h1:=bX e;have h2:=eN e;obtain⟨y,hy,rfl⟩:=aV.mp h1;obtain⟨q',t',us',e1,o'⟩:=yp c.K _ (aA _) hX hy;rw[aX]at e1;exact⟨y.1,t',us',rfl,by rw[e1];exact o',cy.mp h2⟩
inductive vv (ws:List ah) (B:List Tn):Tr→List Tr→List (List Int)→Prop
 |nil {X:Tr}{xs:List Tr}:xs.all Tr.dQ=true→vv ws B X xs []
 |cons {X:Tr}{xs us:List Tr}{q:List Int}{t:Tn}{ps:List (List Int)}:xs.all Tr.dQ=false→u7 B X xs=aa q→Ou ws B X q t us→p_ B xs [q]=[]→vv ws B (toO X q t us) (oI B xs [wyO X q t us]) ps→vv ws B X xs (q::ps)
structure Kr (ws:List ah) (B:List Tn) (I:Nat→Tr→List Tr→Prop):Prop where
  sh:∀{m X xs},I m X xs→Sh ws B X∧X.bo=true
  ro:∀{m X xs},I m X xs→nN ws B X xs∧xs.length≤700∧nR B xs≤7
  wy:∀{m X xs},I m X xs→ ∀x∈xs,vV ws B x∧(ak B x).bo=true
  go:∀{m X xs q t us},I m X xs→Ou ws B X q t us→p_ B xs [q]=[]→xs.all Tr.dQ=false→ph B xs [wyO X q t us]∧ ∃m',m'<m∧I m' (toO X q t us) (oI B xs [wyO X q t us])
def Zn{ps:List (List Int)}{y3:Option W}(hf:S f=aa (.bO (ps.map mB))) (hn:ps.length<60) (h:T EX D [aa (.ref a),y1,aa (.ref f),y3,y4] S):Ef r T EX D [aa (.ref a),y1,aa (.ref f),y3,y4] S:=by
 rw[Ef];ext;rw[m8 hf,ay];have e:((ps.length:Int) == 60)=false:=by rw[beq_eq_false_iff_ne];lia
 try rw[e]
 try simp only[cF,if_false]
 exact h
def Yd (c:mZ w0 w1 w2 w3 w4 w5 tt B) (hx:∀x∈xs,vV [w0,w1,w2,w3,w4,w5] B x) (hX:Sh [w0,w1,w2,w3,w4,w5] B X) (hs:X.bo=true) (hR:nN [w0,w1,w2,w3,w4,w5] B X xs) (ha:S a=aa (.bO (B.map mK))) (hl:S lw=aa (.bO (xs.map kY))) (hn:nR B xs≤7) (hr:111≤r) (hq:u7 B X xs=aa q)
  (h:∀S',Sub S S'→T EX D [aa (.ref a),y1,y2,aa (.bW [kY X, .ref lw]),aa (mB q)] S'):Do r T EX D [aa (.ref a),y1,y2,aa (.bW [kY X, .ref lw]),y4] S:=by
 obtain⟨r,rfl⟩:∃r',r=r'+1:=⟨r - 1,by lia⟩
 rw[Do];ext;refine c.ok_first hx hX hs hR ha hl hn (by lia) λS' s'=>?_;rw[hq];exact h S' s'
def Wd (hf:S f=aa (.bO (ps.map mB))) (hn:ps.length<60) (h:T EX D [aa (.ref a),y1,aa (.ref f),y3,aa (mB q)] (bR S f (.bO ((ps++[q]).map mB)))):Dl r T EX D [aa (.ref a),y1,aa (.ref f),y3,aa (mB q)] S:=by
 rw[Dl];ext;rw[m8 hf,m8 hf];rw[bM]at h;exact⟨trivial,qC (by rw[ay];lia),h⟩
def UV (c:mZ w0 w1 w2 w3 w4 w5 tt B) (hX:Sh [w0,w1,w2,w3,w4,w5] B X) (hs:X.bo=true) (hR:nN [w0,w1,w2,w3,w4,w5] B X xs) (o:Ou [w0,w1,w2,w3,w4,w5] B X q t us) (gg:ph B xs [wyO X q t us]) (hlen:xs.length≤700) (ha:S a=aa (.bO (B.map mK))) (hl:S lw=aa (.bO (xs.map kY))) (hr:115≤r)
  (h:∀S' l',Sub S S'→S l'=none→S' l'=aa (.bO ((oI B xs [wyO X q t us]).map kY))→D.nx [aa (.ref a),y1,y2,aa (.bW [kY (toO X q t us), .ref l']),aa (mB q)] S'):Fh r EX D [aa (.ref a),y1,y2,aa (.bW [kY X, .ref lw]),aa (mB q)] S:=by
 obtain⟨h3,h4⟩:=qS hs;obtain⟨r,rfl⟩:∃r',r=r'+1:=⟨r - 1,by lia⟩
 rw[Fh];ext;refine⟨by decide,λp1 hp1=>?_⟩;refine DF c.L c.P (o.wi c.K c.F hX) (by lia) (by lia) (keep ha hp1) (wn:=[q]) mR hX.hdT (by lia) (by simp) ?_;refine⟨by decide,λp2 hp2=>?_⟩;have s2:Sub S (bR (bR S p1 (.bO [mB q])) p2 (.bO [kY (wyO X q t us)])):=(Sub.bR .refl hp1).trans (.bR .refl hp2);have f2:bR (bR S p1 (.bO [mB q])) p2 (.bO [kY (wyO X q t us)]) p2=aa (.bO ([wyO X q t us].map kY)):=mR;generalize bR (bR S p1 (.bO [mB q])) p2 (.bO [kY (wyO X q t us)])=S2 at s2 f2⊢;refine⟨by decide,?_⟩;have ws:=o.wy c.K hX;have es:=o.ak c.K hX;refine YB c.K (s2 _ _ ha) (s2 _ _ hl) f2 hR ⟨ws,es,trivial⟩ hs hlen (by simp) (by lia) (λn=>absurd rfl n) (λ_ n=>absurd gg n) λ_ _ S' l' s' n' fl=>?_;have ee:on B X [wyO X q t us]=toO X q t us:=o.b9 c.K hX;rw[ee];exact h S' l' (s2.trans s') (AM s2 n') fl
section
variable {w0 w1 w2 w3 w4 w5:ah}{tt:List ah}{B:List Tn}{a lw:ai}{r:Nat}{X:Tr}{xs:List Tr}{S:li}{Q:WK}{E:ah→li→Prop}
def mZ.ok_standard (c:mZ w0 w1 w2 w3 w4 w5 tt B) {I:Nat→Tr→List Tr→Prop}(hI:Kr [w0,w1,w2,w3,w4,w5] B I) (h0:I m X xs) (hm:m≤60) (ha:S a=aa (.bO (B.map mK))) (hl:S lw=aa (.bO (xs.map kY))) (hr:116≤r)
  (h:∀S' f ps,Sub S S'→vv [w0,w1,w2,w3,w4,w5] B X xs ps→ps.length≤60→S' f=aa (.bO (ps.map mB))→Q (.ref f) S'):AZ (r+1) [.ref a, .bW [kY X, .ref lw]] S Q E:=by
 rw[AZ,t4];refine⟨rfl,?_⟩;rw[MB];ext;refine⟨aO _,λf hf=>?_⟩;rw[Kj];ext;rw[Kx];ext;refine⟨λn σ S'=>∃(X':Tr) (xs':List Tr) (ps:List (List Int)) (l':ai) (y4:Option W),σ=[aa (.ref a),aa (.bW [kY X, .ref lw]),aa (.ref f),aa (.bW [kY X', .ref l']),y4]∧I n X' xs'∧ps.length+n≤60∧Sub S S'∧S' f=aa (.bO (ps.map mB))∧S' l'=aa (.bO (xs'.map kY))∧f≠l'∧ ∀rest,vv [w0,w1,w2,w3,w4,w5] B X' xs' rest→vv [w0,w1,w2,w3,w4,w5] B X xs (ps++rest),⟨m,X,xs,[],lw,none,rfl,h0,by simpa using hm, .bR .refl hf,mR,keep hl hf,(by rintro rfl;rw[hl]at hf;cases hf),λrest z=>z⟩,?_⟩
 rintro n σ S' ⟨X',xs',ps,l',y4,rfl,i1,i2,i3,i4,i5,fl',i6⟩;obtain⟨sX,mX⟩:=hI.sh i1;obtain⟨rX,lX,nX⟩:=hI.ro i1;have wX:=hI.wy i1;ext;rw[show nC [kY X',W.ref l'] 1=aa (.ref l') from rfl];dsimp only;obtain⟨r',er⟩:∃r',r=r'+1:=⟨r - 1,by lia⟩
 have e1:vL r=vL (r'+1):=by rw[er]
 rw[e1];refine NA c.K i5 (λx hx=>⟨(wX x hx).1.w,(wX x hx).2⟩) (by lia) (by lia) ?_;ext;cases e:xs'.all Tr.dQ with
 |true=>
  simp only[jU,cF,if_false];rw[IZ];ext;refine⟨_, .refl,h S' f ps i3 ?_ (by lia) i4⟩;have:=i6 [] (.nil e);rw[bg]at this;exact this
 |false=>
  simp only[kF,if_true];obtain⟨q,t,us,hq,o,hd⟩:=c.fst_some sX rX e;obtain⟨gg,m',hm',im⟩:=hI.go i1 o hd e;rw[LN];refine Zn i4 (by lia) (Yd c (λx hx=>(wX x hx).1) sX mX rX (i3 _ _ ha) i5 nX (by lia) hq λS2 s2=>Wd (s2 _ _ i4) (by lia) ?_);have s3:Sub S (bR S2 f (.bO ((ps++[q]).map mB))):= .bR (i3.trans s2) hf;refine UV c sX mX rX o gg lX (s3 _ _ ha) (by rw[nO fl'.symm];exact s2 _ _ i5) (by lia) λS4 l4 s4 n4 f4=>?_;refine⟨m',S4,hm', .refl,_,_,ps++[q],l4,_,rfl,im,by rw[a_,cw];lia,s3.trans s4,s4 _ _ mR,f4,(by rintro rfl;rw[mR]at n4;cases n4),λrest z=>?_⟩
  have:=i6 (q::rest) (.cons e hq o hd z);rw[bD];exact this
end
section
variable {w0 w1 w2 w3 w4 w5:ah}{tt:List ah}{B:List Tn}
theorem J':∀(ts:List Tr) (i j:Nat),ts[i]? =aa x→x.ms B m≤nv B m (λ_=>1) j ts
 | [],i,j,h=>by cases h
 |t::ts,0,j,h=>by
  cases h;rw[nv];lia
 |t::ts,i+1,j,h=>by
  rw[bU]at h;have:=J' (m:=m) ts i (j+1) h;rw[nv];lia
def RE (u:Up B x q):1≤x.ms B mN:=by
 induction u with
 | @here h ts t e=>
  rw[uq e];have:mN.c1=1:=rfl;lia
 | @sgn h ts i x q e hi _ ih=>
  rw[ve e];have:=J' (B:=B) (m:=mN) ts i 0 hi;lia
 | @tit h ts t i x e q et he hi _ ih=>
  rw[uq et];have:mN.c1=1:=rfl;lia
theorem Dr.roads (d:Dr w0 w1 w2 w3 w4 w5 tt B):∀(xs:List Tr) {t:Tr},nN [w0,w1,w2,w3,w4,w5] B t xs→Cl w0 w1 w2 w3 w4 w5 B t→(∀x∈xs,Wy [w0,w1,w2,w3,w4,w5] B x∧Cl w0 w1 w2 w3 w4 w5 B (ak B x)∧Cl w0 w1 w2 w3 w4 w5 B (b9 B x))∧Cl w0 w1 w2 w3 w4 w5 B (on B t xs)
 | [],t,_,h=>⟨λx hx=>(by cases hx),h⟩
 |x::xs,t,⟨x1,x2,x3⟩,h=>by
  have h1:Cl w0 w1 w2 w3 w4 w5 B (ak B x):=by rw[x2];exact h
  have h2:=d.cl x1 h1;obtain⟨k1,k2⟩:=Dr.roads d xs x3 h2;refine⟨λy hy=>?_,k2⟩;obtain rfl |hy:=az.mp hy
  ·exact⟨x1,h1,h2⟩
  ·exact k1 y hy
theorem Dr.lok (d:Dr w0 w1 w2 w3 w4 w5 tt B):∀(os:List Tr) {x t:Tr},Wy [w0,w1,w2,w3,w4,w5] B x→ak B x=t→nN [w0,w1,w2,w3,w4,w5] B t os→Cl w0 w1 w2 w3 w4 w5 B t→ua B x os
 | [],x,t,_,_,_,_=>trivial
 |o::os,x,t,hx,ex,⟨o1,o2,o3⟩,h=>by
  have m:=d.c.K.moved hx o1 (by rw[ex,o2]);have h1:Cl w0 w1 w2 w3 w4 w5 B (b9 B o):=d.cl o1 (by rw[o2];exact h);exact⟨(d.cl m.wy (by rw[m.sr];exact h1)).sm,Dr.lok d os m.wy m.sr o3 h1⟩
theorem Dr.gok (d:Dr w0 w1 w2 w3 w4 w5 tt B):∀(xs:List Tr) {os:List Tr}{t:Tr},nN [w0,w1,w2,w3,w4,w5] B t xs→nN [w0,w1,w2,w3,w4,w5] B t os→Cl w0 w1 w2 w3 w4 w5 B t→xB B xs os
 | [],os,t,_,_,_=>trivial
 |x::xs,os,t,⟨x1,x2,x3⟩,ho,h=>by
  obtain⟨h1,_⟩:=uY d.c.K os x1 x2 ho;exact⟨d.lok os x1 x2 ho h,Dr.gok d xs x3 h1 (d.cl x1 (by rw[x2];exact h))⟩
def Dr.gg (d:Dr w0 w1 w2 w3 w4 w5 tt B) {xs os:List Tr}{t:Tr}(hx:nN [w0,w1,w2,w3,w4,w5] B t xs) (ho:nN [w0,w1,w2,w3,w4,w5] B t os) (h:Cl w0 w1 w2 w3 w4 w5 B t):ph B xs os:=
 ⟨λx k=>((d.roads xs hx h).1 x k).2.2.sm,λx k=>((d.roads os ho h).1 x k).2.2.sm,d.gok xs hx ho h⟩
end
section
variable {ws:List ah}{B:List Tn}
theorem LG (K:Bk3 ws B):∀(os:List Tr) {x t:Tr},Wy ws B x→ak B x=t→nN ws B t os→(qA B x os).ne B≤x.ne B
 | [],x,t,_,_,_=>aA _
 |o::os,x,t,hx,ex,⟨o1,o2,o3⟩=>by
  have m:=K.moved hx o1 (by rw[ex,o2]);have h1:=LG K os m.wy m.sr o3;have h2:=m.ne;rw[qA];lia
theorem JJ (K:Bk3 ws B):∀(xs os:List Tr) {t:Tr},nN ws B t xs→nN ws B t os→(∀x∈xs,x.ne B≤n)→nR B (oI B xs os)≤nR B xs∧ ∀x∈oI B xs os,x.ne B≤n
 | [],os,t,_,_,_=>⟨aA _,λx hx=>(by cases hx)⟩
 |x::xs,os,t,⟨x1,x2,x3⟩,ho,hn=>by
  obtain⟨h1,_⟩:=uY K os x1 x2 ho;obtain⟨k1,k2⟩:=JJ K xs _ x3 h1 λy hy=>hn y (aI _ hy);have h2:=LG K os x1 x2 ho;have h3:=hn x aK;rw[oI,nR,nR];refine⟨by lia,λy hy=>?_⟩;obtain rfl |hy:=az.mp hy
  ·lia
  ·exact k2 y hy
end
structure ZG (w0 w1 w2 w3 w4 w5:ah) (B:List Tn) (m:Nat) (X:Tr) (xs:List Tr):Prop where
  cl:Cl w0 w1 w2 w3 w4 w5 B X
  ro:nN [w0,w1,w2,w3,w4,w5] B X xs
  le:xs.length≤700
  nr:nR B xs≤7
  ne:∀x∈xs,x.ne B≤5
  e:X.ms (hk w0 w1) mT=m
inductive Rw (ws:List ah) (B:List Tn):Tr→List (List Int)→Tr→Prop
 |nil {X:Tr}:Rw ws B X [] X
 |cons {X Z:Tr}{us:List Tr}{q:List Int}{t:Tn}{ps:List (List Int)}:Ou ws B X q t us→Rw ws B (toO X q t us) ps Z→Rw ws B X (q::ps) Z
section
variable {w0 w1 w2 w3 w4 w5:ah}{tt:List ah}{B:List Tn}
def Dr.sti (d:Dr w0 w1 w2 w3 w4 w5 tt B):Kr [w0,w1,w2,w3,w4,w5] B (ZG w0 w1 w2 w3 w4 w5 B) where
  sh:=λi=>⟨i.cl.sh,i.cl.sm⟩
  ro:=λi=>⟨i.ro,i.le,i.nr⟩
  wy:=λi x hx=>by
    obtain⟨h1,h2,_⟩:=(d.roads _ i.ro i.cl).1 x hx;exact⟨⟨h1,(d.c.K.fitw h1 h2.sm).1,i.ne x hx⟩,h2.sm⟩
  go:=λ{m X xs q t us} i o hd hq=>by
    have hX:=i.cl.sh;have ws:=o.wy d.c.K hX;have es:=o.ak d.c.K hX;have eg:=o.b9 d.c.K hX;have ho:nN [w0,w1,w2,w3,w4,w5] B X [wyO X q t us]:=⟨ws,es,trivial⟩;have k1:=Am d.c.K _ _ i.ro ho;obtain⟨k2,k3⟩:=JJ d.c.K _ _ i.ro ho i.ne;have k4:=d.cl ws (by rw[es];exact i.cl);have k5:=d.ms (m:=mT) ⟨rfl,by decide⟩ _ (aA _) ws
    have k6:=RE ((Ou.up d.c (o.tt d.c.K) o.sh q hX o.hat q).mpr rfl);have k7:(mT.c1 - 3*mT.c0)=1:=rfl;have k8:=i.e;have k9:=i.nr;rw[es,eg,k7,k8]at k5;rw[eg]at k4;rw[show on B X [wyO X q t us]=toO X q t us from eg]at k1;refine⟨d.gg i.ro ho i.cl,_,?_,k4,k1,(by rw[AC];exact i.le),(by lia),k3,rfl⟩;have:(X.bR q (.nd t.1 us)).ms B mN=(wyO X q t us).ms B mN:=rfl;lia
theorem Bk3.quiet_end (K:Bk3 ws B):∀(xs:List Tr) {X:Tr},xs.all Tr.dQ=true→nN ws B X xs→on B X xs=X
 | [],X,_,_=>rfl
 |x::xs,X,h,⟨_,x2,x3⟩=>by
  rw[fo,bV]at h;have sg:=xk x h.1;have e1:L2.ak B x=x:=rP K.b.ti x sg;have e2:L2.b9 B x=x:=rP K.b.ti x sg;rw[on,Bk3.quiet_end K xs h.2 x3,e2,←e1,x2]
def mZ.std_rw (c:mZ w0 w1 w2 w3 w4 w5 tt B) (s:vv [w0,w1,w2,w3,w4,w5] B X xs ps):Sh [w0,w1,w2,w3,w4,w5] B X→nN [w0,w1,w2,w3,w4,w5] B X xs→Rw [w0,w1,w2,w3,w4,w5] B X ps (on B X xs):=by
 induction s with
 | @nil X xs h=>
  intro _ hr;rw[c.K.quiet_end xs h hr];exact .nil
 | @cons X xs us q t ps h h1 o hd _ ih=>
  intro hX hr;have ws:=o.wy c.K hX;have es:=o.ak c.K hX;have eg:=o.b9 c.K hX;have ho:nN [w0,w1,w2,w3,w4,w5] B X [wyO X q t us]:=⟨ws,es,trivial⟩;have e0:on B X [wyO X q t us]=toO X q t us:=eg;have dr:=Am c.K xs _ hr ho;have de:=ND c.K xs _ hr ho;rw[e0]at dr de;obtain⟨_,w,sr,_⟩:=uY c.K xs ws es hr;have q0:=(c.done hX o hr w).mp hd;have:=ih (o.to c.K hX) dr;rw[de,oI,oI,on,on]at this;have e3:b9 B (qA B (wyO X q t us) xs)=on B X xs:=by
   rw[←sr];have sg:=xk _ q0;rw[b9,ak,rP c.K.b.ti _ sg,rP c.K.b.ti _ sg]
  rw[e3]at this;exact .cons o this
end
def Bk3.g1S (K:Bk3 ws B):pF (oh 1) B:=⟨λt ht=>(K.b.lf t ht).bt,λt ht=>(K.b.lf t ht).dp,λt ht=>by
 have h1:=(K.b.lf t ht).wt;have h2:=(K.b.lf t ht).nb;show t.2.1.aq≤20;lia⟩
theorem Hv{G:li→Prop}(K:Bk3 ws B) (hG:G S) (ha:S a=aa (.bO (B.map mK))) (hr:70≤r):∀(xs:List Tr) {t:Tr}{y1 y3:Option W},nN ws B t xs→t.bo=true→((∀x∈xs,(b9 B x).bo=true)→ ∀y2 y3,D.nx [aa (.ref a),y1,y2,y3] S)→((∃x∈xs,(b9 B x).bo=false)→ ∀σ,E "TooGreat" σ S)→mO (mx 3) (Ac (r+1) mH) E D G (xs.map kY) [aa (.ref a),y1,aa (kY t),y3] S
 | [],t,y1,y3,_,_,h,_=>h (λ_ hx=>nomatch hx) _ _
 |x::xs,t,y1,y3,⟨h1,h2,h3⟩,hs,h,hE=>by
  have e1:x.mk B (oh 1)=ak B x:=by rw[P8]
  have sx:(ak B x).bo=true:=by rw[h2];exact hs
  obtain⟨d1,w1,a1,_⟩:=K.fitw h1 sx;obtain⟨b1,b2⟩:=qS hs;rw[aC];refine pT λN hN=>?_;rw[rm];simp only[Ac];ext;refine TF ha K.g1S d1 (by lia) a1 (by lia) (Bk (λt ht=>aY (K.g1S.wt t ht) (by decide)) _ (by lia)) (λ_=>?_) λz=>?_
  ·rw[e1,h2,wT 60 _ _ (by lia),yD]
   try ext
   refine K.ok_goalX h1 sx ha (by lia) (λz=>?_) λz=>hE ⟨x,aK,z⟩ _;refine hN _ _ _ .refl hG (Hv K hG ha hr xs h3 z (λk=>h λu hu=>?_) λ⟨u,hu,e⟩=>hE ⟨u,aI _ hu,e⟩);obtain e |e:=az.mp hu
   ·rw[e];exact z
   ·exact k u e
  ·rw[e1,sx]at z;cases z
def UY{X:ah→li→Prop}(K:Bk3 ws B) (ha:S a=aa (.bO (B.map mK))) (hl:S l=aa (.bO (xs.map kY))) (hx:nN ws B t xs) (hs:t.bo=true) (hr:80≤r) (h:(∀x∈xs,(b9 B x).bo=true)→Q (.bl true) S) (hX:(∃x∈xs,(b9 B x).bo=false)→X "TooGreat" S):xD (r+1) [.ref a, .bW [kY t, .ref l]] S Q X:=by
 obtain⟨b1,b2⟩:=qS hs;obtain⟨r',er⟩:∃r',r=r'+5:=⟨r - 5,by lia⟩
 have e1:sB r=sB (r'+5):=by rw[er]
 rw[xD];ext;rw[e1];refine VE b1 b2 ?_;rw[show nC [kY t,W.ref l] 1=aa (.ref l) from rfl];dsimp only
 try ext
 rw[m8 hl];have e2:Ac r mH=Ac (r'+4+1) mH:=by rw[er]
 rw[e2];refine Hv K hl ha (by lia) xs hx hs (λk y2 y3=>?_) λk σ=>hX k
 try ext
 exact⟨_, .refl,h k⟩
def ZJ{X:ah→li→Prop}(K:Bk3 ws B) (ha:S a=aa (.bO (B.map mK))) (hl:S l=aa (.bO (xs.map kY))) (hx:nN ws B t xs) (hs:t.bo=true) (hr:82≤r) (h:(∀x∈xs,(b9 B x).bo=true)→Q (.bl true) S) (hX:(∃x∈xs,(b9 B x).bo=false)→Q (.bl false) S):Be (r+1) [.ref a, .bW [kY t, .ref l]] S Q X:=by
 obtain⟨r',er⟩:∃r',r=r'+1:=⟨r - 1,by lia⟩
 have e1:xD r=xD (r'+1):=by rw[er]
 rw[Be];ext;rw[e1];exact UY K ha hl hx hs (by lia) (λk=>⟨_, .refl,h k⟩) λk=>⟨by simp,_, .refl,hX k⟩
structure so (w0 w1 w2 w3 w4 w5:ah) (B:List Tn) (X:Tr) (qs:List (List Int)) (ss Ys:List Tr):Prop where
  P:qK [w0,w1,w2,w3,w4,w5] B X qs ss Ys
  n:qs.length≤7
  cl:Cl w0 w1 w2 w3 w4 w5 B (pU X Ys)
def Xm:nC ((qs++[q]).map mB) (-1)=aa (mB q):=by
 rw[bM];exact Br _ _
def Dr.clO (d:Dr w0 w1 w2 w3 w4 w5 tt B) (h:Cl w0 w1 w2 w3 w4 w5 B X) (o:Ou [w0,w1,w2,w3,w4,w5] B X q t us):Cl w0 w1 w2 w3 w4 w5 B (toO X q t us):=by
 have:=d.cl (o.wy d.c.K h.sh) (by rw[o.ak d.c.K h.sh];exact h);rw[o.b9 d.c.K h.sh]at this;exact this
def Dr.ok_tO{E:ah→li→Prop}(d:Dr w0 w1 w2 w3 w4 w5 tt B) (fb:S a=aa (.bO (B.map mK))) (h:Cl w0 w1 w2 w3 w4 w5 B X) (o:Ou [w0,w1,w2,w3,w4,w5] B X q t us) (hr:120≤r) (k:∀S',Sub S S'→Q (kY (toO X q t us)) S'):xO (r+1) [.ref a,kY X,mB q] S Q E:=by
 obtain⟨g1,g2⟩:=qS h.sm;have sw:=Yi d.c.b o.ht o.hl o.hat h.sh.hdT;have hq:=uP _ o.hat;exact Qm (r:=r) d.c.b d.c.G d.c.L fb o.ht o.hl o.hat (by lia) (by lia) sw.2.2 (by lia) k
theorem Eo (d:Dr w0 w1 w2 w3 w4 w5 tt B) (fb:S0 a=aa (.bO (B.map mK))) (h2:S0 l2=none) (nc2:lc≠l2) (hr:130≤r):∀(cs:List Int) {S:li}{qs:List (List Int)}{ss Ys:List Tr}{x5 x6:Option W},so w0 w1 w2 w3 w4 w5 B X qs ss Ys→Sub S0 S→S lc=aa (.bO F)→S l2=aa (.bO (qs.map mB))→
  (∀S' qs ss Ys x5 x6,so w0 w1 w2 w3 w4 w5 B X qs ss Ys→Sub S0 S'→S' l2=aa (.bO (qs.map mB))→D.nx [aa (.ref a),aa (kY X),aa (.ref lc),aa (kY (pU X Ys)),aa (.ref l2),x5,x6] S')→
  mO (mx 5) (Ea (r+1) mH) E D (λS'=>S' lc=aa (.bO F)) (cs.map W.int) [aa (.ref a),aa (kY X),aa (.ref lc),aa (kY (pU X Ys)),aa (.ref l2),x5,x6] S
 | [],S,qs,ss,Ys,x5,x6,k,sb,fc,f2,h=>by
  simp only[cr,mO];exact h S qs ss Ys _ _ k sb f2
 |n::cs,S,qs,ss,Ys,x5,x6,k,sb,fc,f2,h=>by
  have hs:=k.cl.sh;have sm:=k.cl.sm;have kn:=k.n;rw[aC];refine pT λN hN=>?_;simp only[Ea];ext;refine d.c.ok_open (r:=r) (sb _ _ fb) hs sm (by lia) λS1 kn s1 fk=>?_;replace fc:=s1 _ _ fc;replace f2:=s1 _ _ f2;replace sb:=sb.trans s1;have skip:N [aa (.ref a),aa (kY X),aa (.ref lc),aa (kY (pU X Ys)),aa (.ref l2),aa (.int n),aa (.ref kn)] S1:=hN _ _ S1 .refl fc (Eo d fb h2 nc2 hr cs k sb fc f2 h)
  try ext
  simp only[m8 fk,ay]
  try ext
  by_cases hp:(0:Int)<(((pU X Ys).op B []).length:Int)
  ·rw[if_pos hp];simp only[m8 f2,ay];by_cases h8:(qs.length:Int)<7
   ·rw[if_pos h8];obtain⟨w,ew,mw⟩:=EK (xs:=((pU X Ys).op B []).map encX) (i:=n % (((pU X Ys).op B []).length:Int)) (c7 _ (by lia)) (by rw[ay];exact dh _ (by lia));obtain⟨u,hu,rfl⟩:=aV.mp mw;rw[ew];refine⟨trivial,hp,?_⟩;obtain⟨q,t,us,eq,o⟩:=yp d.c.K _ (aA _) hs hu;rw[aX]at eq;simp only[encX];ext;have eq2:qs.map mB++[mB q]=(qs++[q]).map mB:=by rw[bM];rfl
    rw[eq,m8 f2,eq2];have fc':bR S1 l2 (Ob.bO ((qs++[q]).map mB)) lc=aa (.bO F):=by rw[nO nc2];exact fc
    have f2':bR S1 l2 (Ob.bO ((qs++[q]).map mB)) l2=aa (.bO ((qs++[q]).map mB)):=mR;have sb':Sub S0 (bR S1 l2 (Ob.bO ((qs++[q]).map mB))):=λe ob ed=>by
     by_cases hd:e=l2
     ·rw[hd,h2]at ed;cases ed
     ·rw[nO hd];exact sb e ob ed
    refine⟨qC (by rw[ay];lia),?_⟩;generalize bR S1 l2 (Ob.bO ((qs++[q]).map mB))=S2 at fc' f2' sb'⊢
    try rw[m8 f2']
    rw[Xm];dsimp only;refine d.ok_tO (r:=r) (sb' _ _ fb) k.cl o (by lia) λS3 s3=>?_;have c':=d.clO k.cl o;have k':so w0 w1 w2 w3 w4 w5 B X (qs++[q]) (ss++[wyO (pU X Ys) q t us]) (Ys++[toO (pU X Ys) q t us]):=⟨k.P.snoc d.c.K o c'.sm,by rw[a_];simp;lia,by rw[FK];exact c'⟩
    have:=Eo (E:=E) d fb h2 nc2 hr cs (x5:=aa (.int n)) (x6:=aa (.ref kn)) k' (sb'.trans s3) (s3 _ _ fc') (s3 _ _ f2') h;rw[FK]at this;exact hN _ _ _ .refl (s3 _ _ fc') this
   ·rw[if_neg h8];exact skip
  ·rw[if_neg hp];exact skip
def Ul{S:li}{Q:WK}{E:ah→li→Prop}{X:Tr}{cs:List Int}(d:Dr w0 w1 w2 w3 w4 w5 tt B) (fb:S a=aa (.bO (B.map mK))) (fc:S lc=aa (.bO (cs.map W.int))) (k0:so w0 w1 w2 w3 w4 w5 B X [] [] []) (hr:132≤r)
  (h:∀S' l2 qs ss Ys,Sub S S'→so w0 w1 w2 w3 w4 w5 B X qs ss Ys→S' l2=aa (.bO (qs.map mB))→Q (.bW [.ref l2,kY (pU X Ys)]) S'):B8 (r+1) [.ref a,kY X, .ref lc] S Q E:=by
 obtain⟨r,rfl⟩:∃r',r=r'+1:=⟨r - 1,by lia⟩
 rw[B8];ext;refine⟨aO _,λl2 hl2=>?_⟩;have nc2:lc≠l2:=by rintro rfl;rw[fc]at hl2;cases hl2
 try ext
 rw[m8 (keep fc hl2)];refine Eo (r:=r) (S0:=S) d fb hl2 nc2 (by lia) cs (ss:=[]) (Ys:=[]) (qs:=[]) k0 (.bR .refl hl2) (keep fc hl2) mR λS' qs ss Ys x5 x6 k sb f2=>?_;ext;exact⟨by decide,S', .refl,h S' l2 qs ss Ys sb k f2⟩
def PU (d:Dr w0 w1 w2 w3 w4 w5 tt B) (hr:130≤r) (R:Rw [w0,w1,w2,w3,w4,w5] B X ps Z):∀{S:li}{x3:Option W},Cl w0 w1 w2 w3 w4 w5 B X→S a=aa (.bO (B.map mK))→S lc=aa (.bO F)→(∀S' x3,Sub S S'→D.nx [aa (.ref a),aa (kY Z),aa (.ref lc),x3] S')→
  mO (mx 3) (Ft (r+1) mH) E D (λS'=>S' lc=aa (.bO F)) (ps.map mB) [aa (.ref a),aa (kY X),aa (.ref lc),x3] S:=by
 induction R with
 |nil=>
  intro S x3 _ _ _ h;simp only[cr,mO];exact h S _ .refl
 | @cons X Z us q t ps o R ih=>
  intro S x3 cl fb fl h;have ol:=xL B X [];obtain⟨g1,g2⟩:=qS cl.sm;rw[aC];refine pT λN hN=>?_;simp only[Ft];ext;refine d.c.ok_open (r:=r) fb cl.sh cl.sm (by lia) λS1 kn s1 fk=>?_
  try ext
  try dsimp only
  rw[m8 fk];refine p9 (λσ=>∃x,σ=[x]) encX (λx=>mB x.1) ?_ (X.op B []) [] _ ⟨none,rfl⟩ (by simp;lia) (λx hx σ R hI hR=>?_) ?_
  ·exact fk
  ·obtain⟨y,rfl⟩:=hI;simp only[encX,K'];ext;exact hR _ _ ⟨_,rfl⟩ .refl
  ·rw[aX];intro l5 h5;have f5:bR S1 l5 (Ob.bO ((X.op B []).map λx=>mB x.1)) l5=aa (.bO (((X.op B []).map λx=>x.1).map mB)):=by rw[mR,bu];rfl
   have s5:Sub S (bR S1 l5 (Ob.bO ((X.op B []).map λx=>mB x.1))):=s1.trans (.bR .refl h5);generalize bR S1 l5 (Ob.bO ((X.op B []).map λx=>mB x.1))=S2 at f5 s5⊢
   try ext
   rw[show((X.op B []).map λx=>mB x.1)=((X.op B []).map λx=>x.1).map mB by rw[bu];rfl,CV,decide_eq_true (o.op d.c.K d.c.F)]
   simp only[jU,cF,if_false]
   try ext
   refine d.ok_tO (r:=r) (s5 _ _ fb) cl o (by lia) λS3 s3=>?_;have s4:=s5.trans s3;exact hN _ _ _ .refl (s4 _ _ fl) (ih (d.clO cl o) (s4 _ _ fb) (s4 _ _ fl) λS' x3 s'=>h S' x3 (s4.trans s'))
def OJ{E:ah→li→Prop}(d:Dr w0 w1 w2 w3 w4 w5 tt B) (hr:132≤r) (R:Rw [w0,w1,w2,w3,w4,w5] B X ps Z) (cl:Cl w0 w1 w2 w3 w4 w5 B X) (fb:S a=aa (.bO (B.map mK))) (fl:S lc=aa (.bO (ps.map mB))) (h:∀S',Sub S S'→Q (kY Z) S'):A5 (r+1) [.ref a,kY X, .ref lc] S Q E:=by
 obtain⟨r,rfl⟩:∃r',r=r'+1:=⟨r - 1,by lia⟩
 rw[A5];ext;rw[m8 fl];refine PU (r:=r) d (by lia) R cl fb fl λS' x3 s'=>?_;ext;exact⟨S', .refl,h S' s'⟩
theorem Kq (t:Tr):∀i,hh [w0,w1,w2,w3,w4,w5] B (b9 B (fw [w0,w1,w2,w3,w4,w5] B t)) i=hh [w0,w1,w2,w3,w4,w5] B t (i+1)
 |0=>rfl
 |i+1=>by
  show b9 B (fw [w0,w1,w2,w3,w4,w5] B (hh [w0,w1,w2,w3,w4,w5] B (b9 B (fw [w0,w1,w2,w3,w4,w5] B t)) i))=b9 B (fw [w0,w1,w2,w3,w4,w5] B (hh [w0,w1,w2,w3,w4,w5] B t (i+1)));rw[Kq t i]
def P3 (t:Tr) (m:Nat):wys [w0,w1,w2,w3,w4,w5] B t (m+1)=fw [w0,w1,w2,w3,w4,w5] B t::wys [w0,w1,w2,w3,w4,w5] B (b9 B (fw [w0,w1,w2,w3,w4,w5] B t)) m:=by
 unfold wys;rw[gI,aC,bu];congr 1;apply dt;intro i _;show fw [w0,w1,w2,w3,w4,w5] B (hh [w0,w1,w2,w3,w4,w5] B t (i+1))=_;rw[Kq]
theorem Lg (c:mZ w0 w1 w2 w3 w4 w5 tt B):∀(m:Nat) {t:Tr},Sh [w0,w1,w2,w3,w4,w5] B t→nN [w0,w1,w2,w3,w4,w5] B t (wys [w0,w1,w2,w3,w4,w5] B t m)
 |0,t,_=>trivial
 |m+1,t,h=>by
  have f:=w9 c.b c.G c.K h;obtain⟨g1,g2,_,_⟩:=c.K.b9 f.wy;rw[P3];exact⟨f.wy,f.sr,Lg c m ⟨g1,g2⟩⟩
theorem mZ.quiet_rest (c:mZ w0 w1 w2 w3 w4 w5 tt B):∀(xs:List Tr) {t:Tr},nN [w0,w1,w2,w3,w4,w5] B t xs→pX [w0,w1,w2,w3,w4,w5] B t→xs.all Tr.dQ=true
 | [],t,_,_=>rfl
 |x::xs,t,⟨x1,x2,x3⟩,h=>by
  obtain⟨e1,e2⟩:=c.stay x1 (by rw[x2];exact h);have q1:x.dQ=true:=(c.up_quiet x1).mpr λq u=>c.no_up u (by rw[e1];exact(c.shs x1).sig c.K);rw[fo,q1,mZ.quiet_rest c xs x3 (by rw[e2,x2];exact h)];rfl
def mZ.within_rest (c:mZ w0 w1 w2 w3 w4 w5 tt B) {xs os:List Tr}{t:Tr}(hx:nN [w0,w1,w2,w3,w4,w5] B t xs) (ho:nN [w0,w1,w2,w3,w4,w5] B t os) (h:pX [w0,w1,w2,w3,w4,w5] B (on B t os)):(oI B xs os).all Tr.dQ=true:=c.quiet_rest _ (Am c.K xs os hx ho) h
theorem EF:∀(xs:List Tr) {t:Tr},nN ws B t xs→Rn ws B xs.length t (on B t xs)
 | [],t,_=> .z
 |x::xs,t,⟨x1,x2,x3⟩=>by
  have:=Rn.s x1 (EF xs x3);rw[x2]at this;exact this
def mZ.one_rest (c:mZ w0 w1 w2 w3 w4 w5 tt B) {xs os:List Tr}{X:Tr}(hX:Sh [w0,w1,w2,w3,w4,w5] B X) (hx:nN [w0,w1,w2,w3,w4,w5] B X xs) (ho:nN [w0,w1,w2,w3,w4,w5] B X os) (h1:(on B X xs).op B []=[]) (h2:(on B X os).op B []=[]):on B X xs=on B X os:=by
 have r1:=c.rest hX (EF xs hx) (El c.K c.F h1);have r2:=c.rest hX (EF os ho) (El c.K c.F h2);rw[←r1]at h1;rw[←r2]at h2;obtain l |l:=Nat.le_total xs.length os.length
 ·have:=DV c hX h1 (os.length - xs.length);rw[show xs.length+(os.length - xs.length)=os.length by lia]at this
  rw[←r1,←r2,this]
 ·have:=DV c hX h2 (xs.length - os.length);rw[show os.length+(xs.length - os.length)=xs.length by lia]at this
  rw[←r1,←r2,this]
theorem GA:∀(xs ys:List Tr) (t:Tr),on B t (xs++ys)=on B (on B t xs) ys
 | [],ys,t=>rfl
 |x::xs,ys,t=>GA xs ys _
theorem IE (t:Tr):∀k,on B t (wys [w0,w1,w2,w3,w4,w5] B t k)=hh [w0,w1,w2,w3,w4,w5] B t k
 |0=>rfl
 |k+1=>by rw[Ih,GA];rfl
def qK.roa (K:Bk3 ws B) (P:qK ws B X qs ss Ys):nN ws B X ss∧on B X ss=pU X Ys:=by
 induction P with
 |nil _ _=>exact⟨trivial,rfl⟩
 | @cons X q t us qs ss Ys h sm o _ ih=>
  have e:=o.b9 K h;refine⟨⟨o.wy K h,o.ak K h,by rw[e];exact ih.1⟩,?_⟩
  rw[on,e];exact ih.2
theorem FR (hB:∀t∈B,p7 t.1):∀(n:Nat) {x:Tr},x.aq≤n→x.hd ow→x.ne B=0
 |0,x,hn,_=>by have:=rN x;lia
 |n+1, .bl k,hn,h=>by rw[Tr.hd]at h;exact h.elim
 |n+1, .nd s ts,hn,h=>by
  rw[Tr.hd,mW]at h;rw[Tr.aq]at hn;rw[Cg (qb hB h.1)];have:=uE (B:=B) (n:=0) (ts:=ts) λt ht=>by
   rw[FR hB n (by have:=pf ht;lia) (h.2 t ht)];exact aA _
  lia
theorem Ke (hB:∀t∈B,p7 t.1):∀(q:List Int) {X v:Tr},X.hd ow→X.at q=aa v→(X.bR q y).ne B≤y.ne B
 | [],X,v,h,e=>by rw[tq];exact aA _
 |i::q, .bl n,v,h,e=>by cases e
 |i::q, .nd s ts,v,h,e=>by
  obtain⟨w,h0,h1,h2⟩:=pP e;rw[Tr.hd,mW]at h;rw[tD h1,Cg (qb hB h.1)];refine uE λt ht=>?_;obtain g |g:=l9 ht
  ·rw[FR hB _ (aA _) (h.2 t g)];lia
  ·rw[g];exact Ke hB q (h.2 w (aJ h1)) h2
def Ou.ne{w0 w1 w2 w3 w4 w5:ah}{tt:List ah}{B:List Tn}(c:mZ w0 w1 w2 w3 w4 w5 tt B) (o:Ou [w0,w1,w2,w3,w4,w5] B X q t us) (hX:Sh [w0,w1,w2,w3,w4,w5] B X):(wyO X q t us).ne B≤1:=by
 have h1:=Ke (B:=B) c.K.b.ti (y:= .nd t.1 us) q (hX.sig c.K) o.hat;have h2:=uE (B:=B) (n:=0) (ts:=us) λu hu=>by
  rw[FR c.K.b.ti _ (aA _) ((o.sh u hu).sig c.K)];exact aA _
 rw[D_ (o.tt c.K)]at h1;unfold wyO;lia
def qK.ne (c:mZ w0 w1 w2 w3 w4 w5 tt B) (P:qK [w0,w1,w2,w3,w4,w5] B X qs ss Ys):nR B ss≤qs.length∧ ∀x∈ss,x.ne B≤5:=by
 induction P with
 |nil _ _=>exact⟨aA _,λx hx=>by cases hx⟩
 | @cons X q t us qs ss Ys h sm o _ ih=>
  have h1:=o.ne c h;rw[nR,aT];refine⟨by have:=ih.1;lia,λx hx=>?_⟩;obtain rfl |hx:=az.mp hx
  ·lia
  ·exact ih.2 x hx
def Ur (h:∀(S':li) (aw at' ab:ai) (w0 w1 w2 w3 w4 w5:ah) (tt:List ah) (B:List Tn),Dr w0 w1 w2 w3 w4 w5 tt B→S' aw=aa (.bO (qp w0 w1 w2 w3 w4 w5))→S' ab=aa (.bO (B.map mK))→T E D (aa (.c6 ns)::aa (.ref aw)::aa (.ref at')::aa (.ref ab)::τ) S') :
  Fc 199 (Fo 199 (CZ 199 T)) E D (aa (.c6 ns)::x1::x2::x3::τ) S:=by
 unfold Fc Fo CZ;ext;refine xn (by decide) λc0=>xn (by decide) λc1=>Gr λaw ws hw0 hws=>?_;obtain⟨w0,w1,w2,w3,w4,w5,rfl,G⟩:=V8 hws;have fw:bR S aw (Ob.bO ([w0,w1,w2,w3,w4,w5].map W.str)) aw=aa (.bO (qp w0 w1 w2 w3 w4 w5)):=mR;generalize bR S aw (Ob.bO ([w0,w1,w2,w3,w4,w5].map W.str))=S1 at fw⊢;refine xn (by decide) λc2=>xn (by decide) λc3=>Gr λat' tt ht0 htt=>?_;have ft:bR S1 at' (Ob.bO (tt.map W.str)) at'=aa (.bO (tt.map W.str)):=mR;replace fw:=keep (x:=Ob.bO (tt.map W.str)) fw ht0;generalize bR S1 at' (Ob.bO (tt.map W.str))=S2 at fw ft⊢;have T':=RU htt;refine RR (r:=192) T'.len (by decide) fw ft λab B n m hb0 e1 e2 e3=>?_;have nb:∀t∈B,t.2.1.nb≤3:=λt ht=>by
  have h1:t.2.1∈bN n w0 w2 w3++bN m w1 w2 w3:=by rw[←e1];exact List.mem_map_of_mem ht
  obtain z |z:=bp.mp h1
  ·exact(E3 _ _ _ _ _ z).2.2
  ·exact(E3 _ _ _ _ _ z).2.2
 have b:mF w0 w1 w2 w3 w4 w5 tt B:=⟨⟨n,m,e1⟩,e2,λt ht=>UL (nb t ht) false _ (e3 t ht)⟩;exact h _ aw at' ab w0 w1 w2 w3 w4 w5 tt B ⟨⟨b,T',G⟩,e3⟩ (keep (x:=Ob.bO (B.map mK)) fw hb0) mR
def YU (d:Dr w0 w1 w2 w3 w4 w5 tt B) (fw:S aw=aa (.bO (qp w0 w1 w2 w3 w4 w5))) (fb:S ab=aa (.bO (B.map mK))) (h:∀S' X,so w0 w1 w2 w3 w4 w5 B X [] [] []→X.ms (hk w0 w1) mT≤15→X.hn (hk w0 w1)≤4→S' ab=aa (.bO (B.map mK))→T E D [aa (.c6 ns),aa (.ref aw),a2,aa (.ref ab),aa (kY X),a5,a6,a7,a8,a9,a10,a11] S') :
  EI 199 T E D [aa (.c6 ns),aa (.ref aw),a2,aa (.ref ab),a4,a5,a6,a7,a8,a9,a10,a11] S:=by
 have bk:=d.c.bk;have ne:B≠ []:=by
  have h:=d.c.b.len;rintro rfl;simp at h
 rw[EI];ext;intro ac hc;refine Q4 (r:=189) (m:=7) (by decide) mR (keep fb hc) (keep fw hc) bk ne λp v S' sub pa po pw pn=>?_;have hdp:=Lm p;have fb:=sub _ _ (keep fb hc);obtain⟨h1,h2,h3,h4,h5⟩:=d.c.plh po;have hz:∀x:Int,0≤x→x<8→nJ 8 x=0:=λx h0 h1=>by
  unfold nJ;have:x / 8=0:=Int.ediv_eq_zero_of_lt h0 h1;rw[this];rfl
 have ez:p.ev B (nJ 8)=p.ev B zr:=vt po λx h0 h1=>by rw[hz x h0 h1];rfl
 have wy1:=d.c.K.wy (c:=nJ 1) (po.up λx hx=>aI _ (aI _ hx));have es:ak B (p.ev B (nJ 1))=p.ev B (nJ 8):=by
  show(p.ev B (nJ 1)).mk B (λt=>t.2.1)=_;rw[xi bk po];exact vt po λx h0 h1=>by
   rw[hz x h0 h1];have:=xl 1 x;unfold uL;split<;>lia
 have sh:Sh [w0,w1,w2,w3,w4,w5] B (p.ev B (nJ 8)):=by rw[←es];exact Sh.of d.c.K wy1
 rw[←ez]at h2 h3 h4 h5;have pw2:(p.wt - p.nt+7)*2 ^ p.nt≤22*16:=Nat.mul_le_mul (by lia) (dj (by decide) pn);have pw3:2 ^ p.nt≤2 ^ 4:=dj (by decide) pn;have cl:Cl w0 w1 w2 w3 w4 w5 B (p.ev B (nJ 8)):=⟨sh,by lia,by lia⟩
 exact NB (r:=198) (by decide) fb bk 23 (by lia) (by lia) pa po (by lia) (h S' _ ⟨.nil sh cl.sm,by simp,cl⟩ (by lia) (by lia) fb)
def Vo (d:Dr w0 w1 w2 w3 w4 w5 tt B) (k:so w0 w1 w2 w3 w4 w5 B X [] [] []) (fb:S ab=aa (.bO (B.map mK))) (h:∀S' l5 qs ss Ys,so w0 w1 w2 w3 w4 w5 B X qs ss Ys→S' ab=aa (.bO (B.map mK))→S' l5=aa (.bO (qs.map mB))→T E D [aa (.c6 ns),a1,a2,aa (.ref ab),aa (kY X),aa (.ref l5),aa (kY (pU X Ys)),a7,a8,a9,a10,a11] S') :
  Ez 199 T E D [aa (.c6 ns),a1,a2,aa (.ref ab),aa (kY X),a5,a6,a7,a8,a9,a10,a11] S:=by
 rw[Ez];ext;intro lc hc;refine Ul (r:=198) d (keep fb hc) mR k (by decide) λS' l5 qs ss Ys sb k' f5=>?_;ext;exact h S' l5 qs ss Ys k' (sb _ _ (keep fb hc)) f5
def XM (d:Dr w0 w1 w2 w3 w4 w5 tt B) (k:so w0 w1 w2 w3 w4 w5 B X qs ss Ys) (fb:S ab=aa (.bO (B.map mK))) (f5:S l5=aa (.bO (qs.map mB))) (h:∀S' l7,S' ab=aa (.bO (B.map mK))→S' l7=aa (.bO (ss.map kY))→T E D [a0,a1,a2,aa (.ref ab),aa (kY X),aa (.ref l5),a6,aa (.bW [kY X, .ref l7]),a8,a9,a10,a11] S') :
  Eb 199 T E D [a0,a1,a2,aa (.ref ab),aa (kY X),aa (.ref l5),a6,a7,a8,a9,a10,a11] S:=by
 obtain⟨e1,e2⟩:=k.P.len;have hn:=k.n;rw[Eb];ext;exact Wt (r:=198) ⟨d.c.b,d.c.T,d.c.G,d.rx⟩ k.P fb f5 (by lia) (by decide) λS' l7 sb _ f7=>h S' l7 (sb _ _ fb) f7
section
variable {S:li}{ab l7 l8:ai}{w0 w1 w2 w3 w4 w5:ah}{tt:List ah}{B:List Tn}{E:WX}{D:mY}{T:WS}{X:Tr}{qs:List (List Int)}{ss Ys os:List Tr}{a0 a1 a2 a3 a4 a5 a6 a7 a8 a9 a10 a11:Option W}
structure yd (w0 w1 w2 w3 w4 w5:ah) (B:List Tn) (X:Tr) (os:List Tr):Prop where
  r:nN [w0,w1,w2,w3,w4,w5] B X os
  n:os.length≤10
  o:(on B X os).op B []=[]
def XJ (d:Dr w0 w1 w2 w3 w4 w5 tt B) (k:so w0 w1 w2 w3 w4 w5 B X [] [] []) (hn:X.hn (hk w0 w1)≤4) (fb:S ab=aa (.bO (B.map mK))) (f7:S l7=aa (.bO (ss.map kY))) (h:∀S' l8 os,yd w0 w1 w2 w3 w4 w5 B X os→S' ab=aa (.bO (B.map mK))→S' l7=aa (.bO (ss.map kY))→S' l8=aa (.bO (os.map kY))→T E D [a0,a1,a2,aa (.ref ab),aa (kY X),a5,a6,a7,aa (.bW [kY X, .ref l8]),aa (.bl true),a10,a11] S') :
  Dm 199 T E D [a0,a1,a2,aa (.ref ab),aa (kY X),a5,a6,a7,a8,a9,a10,a11] S:=by
 have cl:Cl w0 w1 w2 w3 w4 w5 B X:=k.cl;have hX:=cl.sh;have rd:=λm=>Lg d.c m hX;have sm:∀i,(hh [w0,w1,w2,w3,w4,w5] B X i).bo=true:=λi=>by
  have:=(d.roads _ (rd i) cl).2.sm;rw[IE]at this;exact this
 rw[Dm];ext;refine Rk (r:=198) (l:=9) d.c fb hX cl.sm (by decide) (by decide) (λj ho S' l8 sb f8=>?_) λj ho=>?_
 ·have hr:(hh [w0,w1,w2,w3,w4,w5] B X j).op B []=[]:=by
   obtain z |z:=ho.2
   ·exact d.rest hX (by lia)
   ·exact z
  have hj:j≤10:=by
   obtain z |z:=gK 9 j
   ·have:=(ho.1 9 z).1;lia
   ·lia
  rw[hr];ext;rw[o5]at f8;exact h S' l8 _ ⟨rd j,by rw[Ny];exact hj,by rw[IE];exact hr⟩ (sb _ _ fb) (sb _ _ f7) f8
 ·have:=ho.2.2.2;rw[sm]at this;cases this
def Xh (d:Dr w0 w1 w2 w3 w4 w5 tt B) (k:so w0 w1 w2 w3 w4 w5 B X qs ss Ys) (cl:Cl w0 w1 w2 w3 w4 w5 B X) (R:yd w0 w1 w2 w3 w4 w5 B X os) (fb:S ab=aa (.bO (B.map mK))) (f7:S l7=aa (.bO (ss.map kY))) (f8:S l8=aa (.bO (os.map kY))) (h:∀S',Sub S S'→T E D [a0,a1,a2,aa (.ref ab),a4,a5,a6,aa (.bW [kY X, .ref l7]),aa (.bW [kY X, .ref l8]),aa (.bl true),a10,a11] S') :
  E5 199 T E D [a0,a1,a2,aa (.ref ab),a4,a5,a6,aa (.bW [kY X, .ref l7]),aa (.bW [kY X, .ref l8]),aa (.bl true),a10,a11] S:=by
 obtain⟨e1,e2⟩:=k.P.len;have hn:=k.n;have n8:=R.n;obtain⟨rs,er⟩:=k.P.roa d.c.K;have gg:=d.gg rs R.r cl;rw[E5];ext;refine ZJ (r:=198) d.c.K fb f8 R.r cl.sm (by decide) (λ_=>?_) λ⟨x,hx,z⟩=>?_
 ·try ext
  refine WC (r:=198) d.c.K fb f7 f8 rs R.r cl.sm (by lia) (by lia) (by decide) (λn=>absurd rfl n) (λ_ n=>absurd gg n) λ_ _ S' sb=>?_;rw[d.c.within_rest rs R.r (El d.c.K d.c.F R.o)]
  try ext
  exact h S' sb
 ·have:=((d.roads os R.r cl).1 x hx).2.2.sm;rw[z]at this;cases this
def Ye (h:T E D [a0,a1,a2,a3,aa (kY X),a5,a6,a7,a8,a9,aa (kY X),a11] S):CW 199 T E D [a0,a1,a2,a3,aa (kY X),a5,a6,a7,a8,a9,a10,a11] S:=by
 rw[CW];ext;exact h
theorem L5 (d:Dr w0 w1 w2 w3 w4 w5 tt B) (fb:S ab=aa (.bO (B.map mK))) (f8:S l8=aa (.bO F)):∀(xs:List Tr) {X:Tr}{a11:Option W},nN [w0,w1,w2,w3,w4,w5] B X xs→Cl w0 w1 w2 w3 w4 w5 B X→(∀a11,D.nx [a0,a1,a2,aa (.ref ab),a4,a5,a6,a7,a8,a9,aa (kY (on B X xs)),a11] S)→
  mO (mx 11) (C3 199 mH) E D (λS'=>S' l8=aa (.bO F)) (xs.map kY) [a0,a1,a2,aa (.ref ab),a4,a5,a6,a7,a8,a9,aa (kY X),a11] S
 | [],X,a11,_,_,h=>by
  simp only[cr,mO];exact h _
 |x::xs,X,a11,⟨x1,x2,x3⟩,cl,h=>by
  have cx:Cl w0 w1 w2 w3 w4 w5 B (ak B x):=by rw[x2];exact cl
  obtain⟨f1,f2,f3,f4⟩:=d.c.K.fitw x1 cx.sm;rw[aC];refine pT λN hN=>?_;simp only[C3];ext;refine Hg (r:=198) d.c.K.b.nd fb (.inr rfl) d.c.K.b.s2 40 f1 (by lia) f3 (by lia) ?_;rw[AG];exact hN _ _ S .refl f8 (L5 d fb f8 xs x3 (d.cl x1 cx) h)
def RP (d:Dr w0 w1 w2 w3 w4 w5 tt B) (cl:Cl w0 w1 w2 w3 w4 w5 B X) (R:yd w0 w1 w2 w3 w4 w5 B X os) (fb:S ab=aa (.bO (B.map mK))) (f8:S l8=aa (.bO (os.map kY))) (h:∀a11,T E D [a0,a1,a2,aa (.ref ab),a4,a5,a6,a7,aa (.bW [kY X, .ref l8]),a9,aa (kY (on B X os)),a11] S) :
  D2 199 T E D [a0,a1,a2,aa (.ref ab),a4,a5,a6,a7,aa (.bW [kY X, .ref l8]),a9,aa (kY X),a11] S:=by
 rw[D2];ext;rw[show nC [kY X,W.ref l8] 1=aa (.ref l8) from rfl]
 try ext
 try dsimp only
 rw[m8 f8];exact L5 d fb f8 os R.r cl h
def Qs (d:Dr w0 w1 w2 w3 w4 w5 tt B) (cl:Cl w0 w1 w2 w3 w4 w5 B X) (R:yd w0 w1 w2 w3 w4 w5 B X os) (fb:S ab=aa (.bO (B.map mK))) (f8:S l8=aa (.bO (os.map kY))) (h:∀S',Sub S S'→T E D [a0,a1,a2,aa (.ref ab),a4,a5,a6,a7,aa (.bW [kY X, .ref l8]),a9,aa (kY (on B X os)),a11] S') :
  Db 199 T E D [a0,a1,a2,aa (.ref ab),a4,a5,a6,a7,aa (.bW [kY X, .ref l8]),a9,aa (kY (on B X os)),a11] S:=by
 obtain⟨k1,k2⟩:=d.roads os R.r cl;obtain⟨z1,z2⟩:=qS k2.sm;rw[Db];ext;refine MG (r:=198) (t:=X) d.c.K fb f8 (λx hx=>⟨(k1 x hx).1,(k1 x hx).2.1.sm⟩) (λx hx=>(k1 x hx).2.2.sm) (by decide) ?_;rw[wT 60 _ _ (by lia),yD]
 try ext
 refine d.c.ok_open (r:=198) fb k2.sh k2.sm (by decide) λS1 kn s1 fk=>?_;rw[R.o]at fk
 try ext
 refine⟨aO _,λb hb=>?_⟩;rw[show nY (bR S1 b (Ob.bO [])) 60 (W.ref kn) (W.ref b)=aa true from Uq (xs:=[]) (keep fk hb) mR]
 try ext
 exact h _ (s1.trans (.bR .refl hb))
def V3 (d:Dr w0 w1 w2 w3 w4 w5 tt B) (k:so w0 w1 w2 w3 w4 w5 B X qs ss Ys) (cl:Cl w0 w1 w2 w3 w4 w5 B X) (R:yd w0 w1 w2 w3 w4 w5 B X os) (fb:S ab=aa (.bO (B.map mK))) (h:∀S',Sub S S'→T E D [a0,a1,a2,aa (.ref ab),a4,a5,aa (kY (pU X Ys)),a7,a8,a9,aa (kY (on B X os)),a11] S') :
  D8 199 T E D [a0,a1,a2,aa (.ref ab),a4,a5,aa (kY (pU X Ys)),a7,a8,a9,aa (kY (on B X os)),a11] S:=by
 obtain⟨z1,z2⟩:=qS k.cl.sm;obtain⟨rs,er⟩:=k.P.roa d.c.K;rw[D8];ext;refine d.c.ok_open (r:=198) fb k.cl.sh k.cl.sm (by decide) λS1 kn s1 fk=>?_
 try ext
 rw[m8 fk,ay];cases e:(pU X Ys).op B []with
 |nil=>
  have ee:pU X Ys=on B X os:=by
   rw[←er]at e⊢;exact d.c.one_rest cl.sh rs R.r e R.o
  have:=h S1 s1;rw[ee]at this z2⊢
  try ext
  rw[wT 60 _ _ (by lia),yD]
  try ext
  exact this
 |cons x xs=>
  try ext
  rw[if_neg (by rw[beq_iff_eq];lia)];exact h S1 s1
def Zd (d:Dr w0 w1 w2 w3 w4 w5 tt B) (k:so w0 w1 w2 w3 w4 w5 B X qs ss Ys) (cl:Cl w0 w1 w2 w3 w4 w5 B X) (hm:X.ms (hk w0 w1) mT≤15) (fb:S ab=aa (.bO (B.map mK))) (f7:S l7=aa (.bO (ss.map kY))) (h:∀S',Sub S S'→D.rt (.bl true) S') :
  Dd 199 E D [a0,a1,a2,aa (.ref ab),aa (kY X),a5,aa (kY (pU X Ys)),aa (.bW [kY X, .ref l7]),a8,a9,a10,a11] S:=by
 obtain⟨z1,z2⟩:=qS k.cl.sm;obtain⟨rs,er⟩:=k.P.roa d.c.K;obtain⟨e1,e2⟩:=k.P.len;obtain⟨n1,n2⟩:=k.P.ne d.c;have hn:=k.n;rw[Dd];ext;refine d.c.ok_standard (r:=198) d.sti (m:=X.ms (hk w0 w1) mT) ⟨cl,rs,by lia,by lia,n2,rfl⟩ (by lia) fb f7 (by decide) λS' f ps s' st _ fl=>?_
 have R:=d.c.std_rw st cl.sh rs;rw[er]at R;refine OJ (r:=198) d (by decide) R cl (s' _ _ fb) fl λS'' s''=>?_;rw[wT 60 _ _ (by lia),yD]
 try ext
 exact h S'' (s'.trans s'')
end
def WD (ns:List Int) (hl:ns.length≤63):wQ 200 [.c6 ns] (λ_=>none) (λw _=>w= .bl true) (λ_ _=>False):=by
 rw[show(200:Nat)=199+1 from rfl,wQ,t4];refine⟨rfl,?_⟩;refine Ur λS aw at' ab w0 w1 w2 w3 w4 w5 tt B d fw fb=>YU d fw fb λS1 X k0 hm hn fb=>Vo d k0 fb λS2 l5 qs ss Ys k fb f5=>XM d k fb f5 λS3 l7 fb f7=>XJ d k0 hn fb f7 λS4 l8 os R fb f7 f8=>?_;have cl:Cl w0 w1 w2 w3 w4 w5 B X:=k0.cl;refine Xh d k cl R fb f7 f8 λS5 s5=>Ye (RP d cl R (s5 _ _ fb) (s5 _ _ f8) λa11=>Qs d cl R (s5 _ _ fb) (s5 _ _ f8) λS6 s6=>V3 d k cl R (s6 _ _ (s5 _ _ fb)) λS7 s7=>?_);exact Zd d k cl hm (s7 _ _ (s6 _ _ (s5 _ _ fb))) (s7 _ _ (s6 _ _ (s5 _ _ f7))) λS' s'=>⟨_, .refl,rfl⟩
end L2
end
section
namespace K56
open PySem L2 PyProof.Rows
def top (i:Nat):aW:=PySem.Challenge.pw_turnweave_k56_whole_to_rest.main.body.getD i (.Pass ⟨0,0,0,0⟩)
def tU:List En:=[⟨"parts_of",top 9,["t"],1,xj⟩,⟨"parts_of_all",top 10,["things", "found", "thing"],1,xQ⟩,⟨"is_small",top 11,["t", "heavy", "deep", "level"],1,wF⟩,⟨"gather_places",top 13,["t", "place", "found", "number", "inner"],3,v8⟩,⟨"places",top 12,["t", "found"],1,AU⟩,⟨"numbered_part",top 15,["t", "number", "parts"],2,Cm⟩,⟨"part",top 14,["t", "place", "thing", "number"],2,Aj⟩,⟨"blank_places",top 17,["side"],1,xx⟩,⟨"places_of_blank",top 18,["side", "number"],2,Cq⟩,⟨"filled",top 19,["side", "things"],2,uK⟩,⟨"have_one_top",top 22,["one", "other"],2,BH⟩,⟨"gather_matched",top 21,["left", "t", "things", "inner", "thing"],3,u_⟩,⟨"matched",top 20,["left", "t", "things"],2,uf⟩,⟨"are_small_letters",top 26,["text"],1,BK⟩,⟨"is_sign",top 25,["text"],1,CA⟩,⟨"turning_of",top 30,["book", "title", "turning"],2,tS⟩,⟨"is_quiet",top 32,["way"],1,yH⟩,⟨"only_small",top 35,["shape"],1,sB⟩,⟨"with_sides",top 36,["book", "way", "side", "parts", "turning"],3,wI⟩,⟨"source",top 33,["book", "way"],2,Cc⟩,⟨"goal",top 34,["book", "way"],2,t8⟩,⟨"part_places",top 37,["book", "way", "turning"],2,za⟩,⟨"open_turning",top 41,["book", "shape", "turning"],2,yk⟩,⟨"gather_open",top 40,["book", "shape", "place", "found", "turning", "number", "inner"],4,xE⟩,⟨"open_uses",top 39,["book", "shape", "found"],2,tV⟩,⟨"places_of",top 42,["pairs"],1,wH⟩,⟨"turned_top",top 47,["book", "shape", "turning"],2,A3⟩,⟨"way_within",top 46,["book", "shape", "place", "wanted", "top", "parts", "spot", "inner"],4,tZ⟩,⟨"way_with",top 45,["book", "shape", "places"],3,xS⟩,⟨"way_of",top 43,["book", "shape", "places", "known", "place"],3,A2⟩,⟨"full_way",top 44,["book", "shape"],2,Ca⟩,⟨"rounds",top 49,["book", "shape", "limit", "ways", "here", "way"],3,B2⟩,⟨"moved",top 51,["book", "way", "other", "first", "second", "mine", "yours", "parts"],3,tw⟩,⟨"leads_on",top 54,["book", "thing", "here", "way"],2,xD⟩,⟨"is_road",top 53,["book", "thing"],2,Be⟩,⟨"end",top 55,["book", "road"],2,zo⟩,⟨"check_goals",top 58,["book", "ways", "way"],2,uV⟩,⟨"moved_along",top 57,["book", "way", "ways", "line", "over", "way_on"],3,xv⟩,⟨"grid",top 56,["book", "road", "other", "downs", "row", "overs", "way", "line"],3,zP⟩,⟨"last_downs",top 61,["downs_and_overs"],1,yh⟩,⟨"road_behind",top 59,["book", "road", "other", "ways"],3,Bf⟩,⟨"are_quiet",top 62,["ways"],1,vL⟩,⟨"within",top 60,["book", "road", "other"],3,Az⟩,⟨"road_of",top 64,["book", "shape", "places", "ways", "here", "place", "single"],3,A8⟩,⟨"left_below",top 72,["book", "way", "place", "turning", "found", "number", "spot", "rests", "before"],4,(λr=>Ci (q_ (r - 1)) r)⟩,⟨"still_at",top 70,["book", "way", "spots", "found", "place"],3,xo⟩,⟨"is_done",top 69,["book", "place", "ways", "left", "way"],3,B_⟩,⟨"first_place",top 68,["book", "road", "place"],2,BC⟩,⟨"standard",top 67,["book", "road", "row", "left", "place"],2,AZ⟩,⟨"_law_cell",top 74,["script", "k"],2,uI⟩,⟨"_law_words",top 75,["one", "two", "great", "signs", "rest", "base", "k", "at", "words", "word"],3,xU⟩,⟨"_law_count",top 76,["side"],1,uN⟩,⟨"_law_filled",top 77,["side", "things"],2,vg⟩,⟨"_law_lefts",top 78,["way", "head", "c", "d"],4,BY⟩,⟨"_law_rights",top 79,["many", "w", "grows", "some"],3,A7⟩,⟨"_law_book",top 80,["script", "k", "w", "titles", "grows", "book", "j", "lefts", "n", "left", "some", "draw"],5,Bh⟩,⟨"_law_plan",top 81,["cells", "book", "w", "room", "stack", "spent", "cell", "way", "need", "node", "k", "at"],4,Bj⟩,⟨"_law_way",top 82,["plan", "book", "by", "k", "bits", "head", "parts", "ways"],3,yu⟩,⟨"_law_made",top 83,["book", "way", "which", "parts", "turning"],3,ze⟩,⟨"_law_places",top 84,["t", "found", "i", "one"],1,uZ⟩,⟨"_law_at",top 85,["t", "place", "i"],2,yV⟩,⟨"_law_stands",top 86,["left", "shape"],2,wa⟩,⟨"_law_open",top 87,["book", "shape", "found", "place", "turning"],2,uS⟩,⟨"_law_things",top 88,["left", "t", "found", "one", "other"],2,u9⟩,⟨"_law_put",top 89,["t", "place", "other", "k"],3,xm⟩,⟨"_law_turned",top 90,["book", "shape", "place", "here", "turning"],3,xO⟩,⟨"_law_walk",top 91,["book", "shape", "cells", "here", "some", "cell", "known"],3,B8⟩,⟨"_law_row_end",top 92,["book", "shape", "row", "place"],3,A5⟩,⟨"law",top 93,["script", "w", "titles", "book", "shape", "some", "here", "road", "full", "still", "rest", "way"],1,wQ⟩]
def nQ:En:=⟨"left_of_use",top 71,["book", "way", "place", "turning", "number"],3,q_⟩
def tab:List En:=[nQ]++tU
def Fk:List (ah×W):=[("MOST_HEAVY", .int 400),("MOST_DEEP", .int 40),("MOST_LETTERS", .int 8),("LEFT", .int 1),("RIGHT", .int 2),("MOST_PLACES", .int 60)]
def hns:List ((Nat×Nat)×List ah):=[((55,11),["place", "side"]),((57,11),["place", "number", "side"]),((61,30),["inner", "things"]),((84,15),["letter"]),((95,35),["inner"]),((105,12),["inner", "book", "side"]),((113,15),["number"]),((132,11),["pair"]),((142,44),["place"]),((171,12),["inner", "outer", "book"]),((177,4),["TooGreat"]),((203,14),["over", "down", "book"]),((223,11),["line"]),((225,15),["way"]),((269,11),["rest", "number"]),((276,29),["rest", "before"]),((293,23),["j", "signs", "base", "k", "at"]),((303,15),["one"]),((307,28),["one", "things"]),((368,11),["one", "book", "by"]),((375,12),["one", "book", "which"]),((384,28),["place", "i"]),((395,15),["one", "other"]),((432,24),["one"])]
def tb:Tb:=⟨λ_=>none,λx=>Fk.lookup x,["all", "dict", "enumerate", "int", "isinstance", "len", "list", "min", "range", "sum", "tuple", "zip"],["Apart", "NoPlace", "NoUse", "TooGreat"],[("TooGreat", "TooGreat")],λp=>(hns.lookup (p.line,p.col)).getD [],λx=>(["there", "wanted"]:List ah).contains x,λx=>x == ("open_uses" :ah)⟩
def OR:tab.all En.ok=true:=by decide +kernel
def Tw (kV doc pm:aj) (an:Option ai) (cdv ct a b c d e' f:aj):(tab.map λe=>e.bd kV doc pm an cdv ct [a,b,c,d,e',f])=tab.map λe=>pure (e.ps.zip [a,b,c,d,e',f]):=by kernel_rfl
def Zy:(tab.map λe=>e.c 0)=tab.map λ_=>mH:=by kernel_rfl
def SK (r:Nat):(tU.map λe=>e.c (r+1))=tU.map λe=>e.rd { tb with fn:=lkT tab r }:=by kernel_rfl
def P4 (r:Nat):q_ (r+2)=nQ.rd { tb with fn:=λx=>if x= "left_of_use" then aa (q_ r) else lkT tab (r+1) x }:=by kernel_rfl
def RI (r:Nat) (e:En) (he:e∈tab):e.c (r+1)=mH∨ ∃F,(∀x s,F x=aa s→ ∃e∈tab,e.eNm=x∧ ∃j,j≤r∧s=e.c j)∧e.c (r+1)=e.rd { tb with fn:=F }:=by
 obtain rfl |he:=az.mp he
 ·cases r with
  |zero=>exact .inl rfl
  |succ r=>exact .inr ⟨_,U6 (t:=tab) (e:=nQ) aK rfl,P4 r⟩
 ·exact O4 r (SK r) e he
def vX {l:gU}{w:aS}{K:ao}{h:aE}{mg:ah→Option aj}{fa:ai}(X:K.In h) (G:h.Ns bj mg) (hfa:mg "law" =aa (.ref fa)) (df:wq K tab) (bl:vO K tb.bl) (gl:vD K Fk) (xs:vB K tb.xs) (ex:v0 K tb.ex):=
 U5 (l:=l) (w:=w) (e0:=tab.getLast (by decide)) (cl:=wQ) (room:=200) X G hfa (List.getLast_mem _) rfl rfl rfl OR Tw Zy RI rfl (by decide +kernel) df bl gl xs ex
def FO{l:gU}{q:bh}{loose:List ah}{XP:(ah→Option aj)→aE→Prop}{YP:aS→aE→Prop}{d:DefRec}{K:Params→ao}(hn:l.most=aa 63) (hdf:d.params.defaults=[])
  (hY:∀(w:aS) (h:aE),YP w h→(K w.params).In h)
  (F:∀(w:aS) (mg:ah→Option aj) (fa:ai) (h:aE),(K w.params).In h→h.Ns bj mg→mg d.name=aa (.ref fa)→
   ∃fd:dc,(∀(s:am) (u:aj),eR s fd ⟨[u],[]⟩ [("script",u)])∧ ∀base:aE,(K w.params).In base→base.Ns bj mg→oU l.prog w (K w.params) mg base (si l.prog w) 200 fa fd ["script"] (rL (K w.params) (wQ 200))) :
  mn q loose XP YP l.row.toRowW d [] (λf vs=>jQ f vs):=
 L2.YG (n:=63) (k:=200) (x:= "script") (CX:=λw=>si l.prog w) (sp:=λw=>rL (K w.params) (wQ 200)) hn (by decide) hdf ⟨rfl,by decide,by decide⟩ hY F (λw H a ns hl hO hS=>RY hO hS (WD ns hl)) λ_ _ _ _ _ ⟨_,_,_,_,_,_,_,_,_,z⟩=>z
end K56
structure PySem.W.Fast:Prop where
 (tw5812124891039558231 tw7036920582104095833 tw2033815448404220457 tw9965050078950819826 tw2642468068375427539 tw5060040449110050741 tw1323042080050533747 tw11339220597404704213 tw16917466165759821281 tw5302492429514929844 tw9282323937332259733 tw12454089858117300209 tw16768249078171397973 tw2844142074582940498 tw5333251753566748743 tw1243097500560613071 tw122723563203729846 tw15162748410754110609 tw14752491952625587506 tw316140439863301195 tw9599320622841152699 tw274424876060898224 tw7070876865040110449 tw5012202433227920292 tw9000361086725056139 tw10158314992664767339 tw12009397480203985896 tw6273526070137111161 tw11042600735860598863 tw7301826542454796861 tw14595710185140117954 tw17193182445144082584 tw13568300069430438804 tw1962526895223108879 tw17947270491331001073 tw11439913855760156649 tw11188952386808308930 tw5269813458959082246 tw9447814914834356387 tw9496664295114199220 tw10818039988410832157 tw17754512564446829163 tw11158416648405891417 tw8725506313575317077 tw2698626992814744521 tw662010359973159364 tw802024798217459712 tw4777102980024989901 tw930500567645413461 tw776652946194648704 tw15014339150731344203 tw15282704132095110697 tw9991738003118850153 tw1898596870408879400 tw5577687958358003421 tw9257224471248869675 tw9152980868469339913 tw15928504991795325556 tw4486532868106874273 tw16782357315475550122 tw15153357872623400119 tw18410395512191686184 tw8599484345521895588 tw9483005856187341127 tw2109247184587559213 tw10477157508653704278 tw6221692403978119251 tw3170841198093301223 tw15496056562189266537 tw786928492094886100 tw18012256804226862821 tw9388837161268608447 tw15949154142288965306 tw9174973849443438508 tw10810913486311054128 tw1929413062305366588 tw15879636038715863029 tw12908736509354203905 tw5316747594866229972 tw14082700383590469434 tw18209871053014063143 tw4082174983814281005 tw10580771786047717682 tw669387999477970572 tw5844244623596203849 tw2639938341934381007 tw1297603878037776048 tw1669653118075026072 tw1823558947824197438 tw5446442039355618022 tw11141488364285359950 tw3094792888338956914 tw10404151661833364272 tw14410302280683648930 tw17351717588896673078 tw6286017116311407328 tw10026664469932002107 tw3641658411482611152 tw7911936612285280424 tw8417062738629719713 tw11226285887223659635 tw17210155548880670097 tw15610660337841743967 tw5009425074042787810 tw9222203934862542451 tw16391251327591426643 tw2426614758225023458 tw2788924101492614168 tw1138007137298554132 tw5393474975045503807 tw13251198046090364079 tw2397313550133503606 tw2747090477915941411 tw6793143254083897279 tw9358551340687102627 tw7962524201115913082 tw3560704498422347189 tw511305127945909166 tw657424577030536041 tw8846204322617094500 tw4640412231632277894 tw13896700690639244653 tw5628743484445078873 tw5636324356603014507 tw15727065542071182404 tw7443998513389853499 tw3381229864099919422 tw11452380529563888505 tw11487265121753284240 tw12315485382816328968 tw2482416203626867831 tw12075357297866380143 tw5747511193835017191 tw11441043559455717735 tw9079600473253298328 tw2405402610093784298 tw17063969791024815863 tw15069017918695902880 tw10098106335616757205 tw2725653424967479263 tw10459733246479198318 tw3380456341255549762 tw5792135708148059946 tw4164703873894725254 tw7205387570763792831 tw17960382300381018426 tw11231906951272887668 tw14090651294565379169 tw4754254740291787900 tw9445022977608291102 tw3049544263015896198 tw12231011677124229983 tw4543740354646178190 tw16054022878250498016 tw3784802780329247179 tw17049360335845828912 tw9123675229968664194 tw11095335877094061753 tw12239859529205066308 tw8146952278932047012 tw8536480990292743177 tw37956343088132666 tw15330149210445768268 tw16377519350834210780 tw12264486905381103187 tw12825139434144579156 tw6399330461639989247 tw4765800336776313571 tw12995224097033487126 tw9660616784624357098 tw14852586816379756518 tw4402328719861082872 tw10278220641447339502 tw3148835955342537109 tw1621214983513068900 tw15706761036663144514 tw2556638026271690675 tw6730968430239773912 tw4894170336656404161 tw12434442264261206273 tw1150681857856096233 tw4637977675256146739 tw1795662481023316560 tw2806288404153572888:True)
open PySem PySem.W PyProof.Rows
set_option maxRecDepth 100000 in
set_option maxHeartbeats 0 in
theorem PySem.Challenge.cw_turnweave_k56_whole_to_rest_holds : PySem.Challenge.rw_turnweave_k56_whole_to_rest.Holds := by
 w_on;o_law;k_head;(case hw=>w_witness2)
 k_fill
 refine K56.FO (l:=PySem.Challenge.rw_turnweave_k56_whole_to_rest) rfl rfl (λw h Y=>PySem.W.kIn_of Y) ?F
 case F=>
  intro w mg fa h KX G hmg
  refine' K56.vX KX G hmg ?_ ?_ ?_ ?_ ?_<;>dsimp only[L2.wq,L2.vO,L2.vD,L2.vB,L2.v0,K56.tab,K56.tU,K56.nQ,K56.Fk,K56.tb,List.append,cj,aX]
  all_goals (repeat' first |exact dv |refine And.intro ?_ ?_ |refine' L2.dfn ?_ ?_ ?_ ?_ |refine' L2.gln ?_ |refine' L2.xch ?_ ?_ ?_ ?_ ?_ ?_ ?_ |refine' L2.exh ?_ ?_ ?_)
  all_goals first |k_is |kit_is | (dsimp only[List.map];kit_is) |kts_exm | (delta L2.AI;k_exc) |skip
end
