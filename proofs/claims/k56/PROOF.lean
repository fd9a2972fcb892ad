import PyProof.Rows.All
import Wide.All
import OpenK.AllK
import Wide.FinOn
import Lean
import PyProof.EqAt
import PyProof.EqKinds
import PyProof.TupleCall
import PyProof.NeKinds
import PyProof.ListMulRoad
import PyProof.AttrMissHeap
import KE.KDictOf
import KE.KRevIter
import PyProof.ListRange
import KE.KSortTup
import KE.KMinKey
import PyProof.MinMaxWalk
import PyProof.Rows.CallKwBuiltin
import PyProof.Rows.SetFrom
import PyProof.Rows.SeqMore
import PySem.Challenge.RW_turnweave_k56_whole_to_rest
open Option renaming some→aa,isSome_iff_exists→dS,getD_some→eI,map_some→gK,isSome_map→gN,isSome_some→jX,some→j4,getD_none→l6
open PySem renaming Str→ah,Addr→ai,Value→aj,Shared→am,wpAny_bind→au,wpAny→av,starEach→ax,model→aB,Heap→aE,eval→aG,Obj→aH,wpAny_pure→aM,Paired→aN,World→aS,Stmt→aW,backTo→aZ,Program→bg,mainGlobals→bp,Around→bt,Pos→bw,compareOp→bB,Env→bN,wpAny_field→bU,IsPair→bZ,NameKind→b8,Keyword→b9,binaryOp→ca,assignEach→cb,Sem→ce,wpAny_mono→cm,pyNext→cq,IsZip→cr,Builtin→cC,bootBuiltins→cG,tupleKind→cI,rawInt→cJ,wpAny_setField_rec→cM,attributeBase→cP,IsPart→c5,IsEnum→da,PassesOwn→dc,wpAny_seqItems→dq,FuncData→dt,bindL→dv,foldedSetIterable→dw,wpAny_call_entry→dE,keywordEach→dF,bindC→dJ,pyIter→dL,backToKw→dN,wpAny_callSpecial?_slot→dQ,atKey→dU,sizeLine_eq→dY,sliceBounds→dZ,swapsWith→d8,wpAny_passesOwn→ef,wpAny_truthy_bool→eA,codeAny→eD,getItem→eH,callerA→eJ,valueAt→eQ,wpAny_rule→eR,sysModules→eV,typeOf→eZ,BindsTo→e_,wpAny_pyIter_list→fv,wpAny_newObj_type→fx,mem_of_lookup→fB,call_meets→fD,wpAny_execs_nil→fF,behindInMarks→fY,PlainAttrs→gb,wpAny_typeOf→gc,storedH→gh,post_val_or_str→gn,wpAny_holding→gw,wpAny_Call_Name_kw→gG,Comprehension→gI,wpAny_letGo→gO,letOwnedTupleGo→gP,wpAny_getItem_str_slice→gQ,wpAny_onRaise→gY,preSum→gZ,lastMarks→h_,wpAny_attempt→ii,builtinsNs→il,IsEnumOut→io,noFill_tuple_add→ir,typeIs_str→ix,typeIs_int→iz,concat_meets→iE,swapsWithSole→iP,ZipApart→iV,storeName→i0,typeLookup→jb,wpAny_Name→jc,pick_run→jd,bindArgs→jg,cellsFrom→jh,setFlight→jj,sliceRange_one→jk,wpAny_updateSeq_pair→jq,noteFrame→ju,call→jA,seq_tuple_add→jI,swappedStores→jM,tupleKind_room_in1→jQ,DictEntry→jS,codeAny_mono→jV,wpAny_pyIter_enum→jW,codeAny_builtin→jZ,wpAny_setFlight_noneW→j_,wpAny_newTuple→kl,wpAny_assign_Name→ky,wpAny_pyIter_zip→kJ,wpAny_sequenceKey→kX,wpAny_pyIter_tuple→k_,isSubtype_stop→lm,getattributeRaised→ln,wpAny_loadName_cell→lr,firstArgMember→lC,wpAny_loadName_local→lD,wpAny_isInstance→lJ,slot_list_getitem→lU,wpAny_setField→lY,wpAny_execs_cons→mr
open PySem.W renaming Frag→ao,nsIn→bS,kia_one→cN,hideAll→du,fnOf→dC,hideAll_none→eF,exmOne→eP,keepIn→fh,hideAll_get→fE,findIn→fO,kitOne→fV,mg_of→f9,of_hideAll→gi,OpenLaw→gu,codeIn→gF,mroIn→jC,lookIn→jJ,instObj→jN,methodObj→jO,kitx_dict→kA,callWith_K→kD,plainGet→kR,excIn→kS,kitx_list→lq,cellsFrom_some→lB,WalkO→lP
open List renaming length_map→ay,mem_cons→az,map_cons→aC,mem_cons_of_mem→aI,mem_of_getElem?→aJ,mem_cons_self→aL,getElem?_eq_getElem→aR,getElem?_map→aT,length_cons→aU,mem_map→aV,nil_append→aX,length_append→a_,append_nil→bf,size_toArray→bh,mem_singleton→bi,replicate→bj,mem_append→bn,not_mem_nil→bq,map_map→bu,getD_eq_getElem?_getD→bv,range→bx,append_assoc→bD,map_append→bK,getElem?_cons_succ→bT,mem_of_find?_eq_some→bX,getElem?_eq_some_iff→b6,find?_cons→cc,cons_append→cg,mem_append_right→cp,lookup_cons→cu,flatMap_cons→cw,map_nil→cy,length_singleton→cA,isEmpty_iff→cB,replicate_succ→cO,all_eq_true→cQ,length_drop→cS,flatMap_nil→cZ,length_take→c9,length_nil→db,map_congr_left→di,length→dH,drop_zero→dM,take_of_length_le→dP,mem_filter→dR,getElem_mem→dW,mem_append_left→dX,flatten_cons→d6,findSome?_cons→d7,mem_flatMap→d9,isPrefixOf_iff_prefix→d_,nodup_cons→eE,all_cons→eM,filter_cons→eS,all_map→eW,foldl_cons→eX,find?_some→fi,any_cons→fu,getElem_of_mem→fA,drop_of_length_le→fH,mem_range→fK,getElem?_range→fS,range'→fZ,of_mem_zip→gd,drop_eq_getElem_cons→ge,getElem?_set_self→gr,contains_iff_mem→gB,length_filter_le→gE,range'_succ→gH,range_succ→gJ,range_succ_eq_map→gL,take_append_drop→gU,find?_eq_none→gX,filterMap_cons→g_,range_eq_range'→hU,zip_cons_cons→hZ,isEmpty_nil→ip,lookup→iq,getElem?_eq_none→iu,isEmpty_cons→iD,forIn_cons→iT,getElem?_append_right→iY,map_drop→iZ,mem_filterMap→i8,getElem?_of_mem→i_,map_take→ja,take_length→jp,getElem?_set_ne→jB,mem_of_mem_take→jG,foldl→jH,length_replicate→jK,Nodup→jL,mem_of_mem_drop→jR,getElem?_cons_zero→jT,zipIdx_nil→jY,getElem?_drop→j5,filter_append→j8,getElem?_set→j9,filter_cons_of_neg→kc,forall_mem_cons→ki,getElem?_append_left→ku,length_pos_iff→kz,ext_getElem?→kB,set_cons_succ→kE,eq_nil_of_length_eq_zero→kG,set_cons_zero→kH,sum_cons→kI,drop_drop→kM,Pairwise→kQ,zipIdx_cons→kT,mem_or_eq_of_mem_set→kU,take_zero→kY,take_sublist→kZ,getElem?_replicate→lx,take_add→ly,countP_cons→lz,drop_left→lG,findSome?_eq_none_iff→lL,pairwise_map→lR,flatMap_append→lW,length_range→l9,flatMap_def→mh,forIn_nil→mi,take_succ_cons→ml,take_succ→mn,append_eq_nil_iff→mq
open Nat renaming le_refl→aA,zero_le→aQ,le_trans→aY,zero_add→bF,le_of_ble_eq_true→bG,ne_of_lt→bR,lt_of_lt_of_le→bY,add_mul→cf,lt_irrefl→cR,ne_of_gt→cV,one_mul→c6,pow_le_pow_right→dg,add_zero→dy,mul_le_mul_right→dA,add_comm→eB,mul_add→eO,sub_zero→eU,le_of_eq→fN,one_le_two_pow→fP,mul_le_mul_left→fX,eq_zero_or_pos→gj,le_add_right→gp,lt_or_ge→gv,add_le_add_left→gC,pow_add→gT,sub_self→g9,le_of_lt→ik,mul_assoc→jx,min_eq_left→jU,one_le_pow→kf,le_of_not_lt→kF,reduceAdd→kK,le_mul_of_pos_right→kO,le_mul_of_pos_left→mj,min_eq_right→mx
open Option.some renaming inj→aK,injEq→bJ
open PySem.Heap renaming lt_size→aO,get?_push_of_some→aP,get?_push_size→bI,SameBut→cL,size_push→c7,Left→iU,ExtBut→i9
open Int renaming toNat_natCast→bb,toNat_of_nonneg→ck,emod_nonneg→cY,emod_lt_of_pos→dh
open PySem.NameKind renaming free→bc,cell→cj
open Ne renaming symm→bz
open PySem.Str renaming ofString→bE,join→dj,empty→fI,length→jf
open PySem.Value renaming ref→bM,none→cK,bool→fe,str→fU,int→gm,type→jE,isStrOf→j3
open Bool renaming and_eq_true→bV,false_eq_true→cE,false_ne_true→cW,and_false→fW,eq_iff_iff→f_,not_eq_true'→ig,not_true→jn,or_eq_true→jr,true_and→jF,not_false→kN,or_false→lj,false_or→md
open PyProof.Rows renaming AllBare→b_,envOfC→cH,IsTup→eT,slot_tuple_getitem→fo,IntsAre→fM,callWith_type1→ib,UnaryOp_→iy,boot_tuple→kh,subscriptTail_builtinR→kC,args_tuple_getitem→kP,entry_tuple_getitem→lN,slicePart_none→mf
open False renaming elim→cF
open PySem.Builtin.SmallTypes renaming nextOf→cU,ownedTupleIsFree→eK,ownedTupleHandOut→gy
open PySem.Builtin.Str renaming occurrences→c8,strSliceIndices→gS
open PySem.Txt renaming slice→c_,upper→eG
open True renaming intro→dB
open Prod.mk renaming injEq→dD
open Sum renaming inr→dG
open Or renaming inr→eN,inl→hV
open PySem.Builtin.List renaming listTooLong→eY
open PySem.SeqAt renaming EqAt→fj,RcNeAt→fJ,RcAt→fT
open ForInStep renaming yield→fy
open List.cons renaming injEq→fG
open PySem.Paired renaming length→fQ
open Eq renaming trans→gf
open PySem.F renaming slot_tuple_iterator_next→gq,slot_zip_next→gD,slot_enumerate_next→gR,slot_tuple_add→iJ,plainAttrs_list→iQ,slot_list_getattribute→i7,args_tuple_add_2→je,entry_tuple_add→jP,slot_list_extend→j6,entry_list_extend→ke,args_tuple_iterator_next_1→kW,args_enumerate_next_1→lg,entry_zip_next→li,entry_tuple_iterator_next→lp,slot_list_extend→lI,type_list_extend→lK,plainAttrs_str→lM,excBase_ValueError→lO,args_zip_next_1→lQ,slot_int_rmul→lS,entry_enumerate_next→lT,args_list_extend_2→ma
open PySem.Builtin.Tuple renaming tupleExact→gM,tupleItemsOf→l_
open LawfulMonad renaming pure_bind→gV
open LawfulBEq renaming eq_of_beq→ic
open PySem.Builtin.Slice renaming slicePlaces→ie,sliceAdjust→iW,sliceApplied→lE
open Lean.Syntax renaming Term→iv
open Prod renaming snd→iw
open Array renaming length_toList→iH,toList_append→jD,getElem?_eq_getElem→km,mem_toList_iff→lV,getElem?_eq_some_iff→lZ
open Lean renaming mkIdent→iL
open PySem.Obj renaming mapSeq→iS,data_mapFields→kj
open PySem.Walks renaming list→jm
open PyProof.Rows.IsTup renaming new→jo
open PySem.Calls renaming Name_function_global→j7,evalArgs_plain→kg,callWith_builtin→kw
open Classical renaming choose_spec→ko
open PySem.Heap.SameBut renaming update→kq
open PySem.Around renaming under_plainId→kr
open PySem.Builtin.Dict renaming updateFrom→kx
open Function renaming comp→kL
open PySem.AutoSeq1 renaming wpAny_loadPart'→lH
open PySem.PassesOwn renaming never→mo
set_option Elab.async false
set_option compiler.extract_closed false
set_option linter.all false
set_option maxRecDepth 100000
set_option maxHeartbeats 4000000
local macro_rules | `(tactic| lia) => `(tactic| first | exact (Nat.sub_add_cancel (Nat.le_trans (by decide) ‹_›)).symm | exact Nat.le_trans ‹_› (by decide) | exact Nat.le_trans (by decide) ‹_› | lia (config := {}) | omega)
namespace L2
open PySem PySem.Spec PyProof.Rows
abbrev Key:=Sum Int ah
def xD:Key→aj→Bool
 | .inl k,v=>aj.isInt k v
 | .inr x,v=>j3 x v
def UE (w:aS):Key→Int
 | .inl k=>hashInt k
 | .inr x=>hashStr w x
theorem ue:∀{k:Key}{v:aj},xD k v=true→(∃i t,k=Sum.inl i∧v=gm i t)∨(∃x t,k=dG x∧v=fU x t)
 | .inl i,v,h=>by
  obtain⟨t,e⟩:=aj.isInt_shape (k:=i) (v:=v) h;exact .inl ⟨i,t,rfl,e⟩
 | .inr x,v,h=>by
  obtain⟨t,e⟩:=aj.isStrOf_shape (x:=x) (v:=v) h;exact .inr ⟨x,t,rfl,e⟩
def Sq (i:Int) (t:Tok):xD (.inl i) (.int i t)=true:=by simp [xD,aj.isInt]
def T5 (x:ah) (t:Tok):xD (.inr x) (.str x t)=true:=by simp [xD,j3]
def PY (a b:Int):decide ((Sum.inl a:Key)=Sum.inl b)=(a == b):=by
 by_cases e:a=b
 ·subst e;simp
 ·have h:¬(Sum.inl a:Key)=Sum.inl b:=λq=>e (Sum.inl.inj q);rw[decide_eq_false h];exact(beq_eq_false_iff_ne.mpr e).symm
def Tg (a b:ah):decide ((dG a:Key)=dG b)=decide (a=b):=by
 by_cases e:a=b
 ·subst e;simp
 ·have h:¬(dG a:Key)=dG b:=λq=>e (dG.inj q);rw[decide_eq_false h,decide_eq_false e]
def WY (a:Int) (b:ah):decide ((Sum.inl a:Key)=dG b)=false:=decide_eq_false (λq=>nomatch q)
def YL (a:ah) (b:Int):decide ((dG a:Key)=Sum.inl b)=false:=decide_eq_false (λq=>nomatch q)
noncomputable def qN (prog:bg) (w:aS):PySem.KeyKind prog w Key where
  is:=xD
  hash:=UE w
  inj:=λv a b ha hb=>by
    obtain ⟨i,t,rfl,rfl⟩ |⟨x,t,rfl,rfl⟩:=ue ha
    · obtain ⟨j,u,rfl,e⟩ |⟨y,u,rfl,e⟩:=ue hb
      · injection e with e1 _;rw[e1]
      · exact nomatch e
    · obtain ⟨j,u,rfl,e⟩ |⟨y,u,rfl,e⟩:=ue hb
      · exact nomatch e
      · injection e with e1 _;rw[e1]
  byValue:=λk v h=>by
    rcases ue h with⟨i,t,rfl,rfl⟩ |⟨x,t,rfl,rfl⟩<;>rfl
  pyHash:=λhv h=>by
    obtain ⟨i,t,rfl,rfl⟩ |⟨x,t,rfl,rfl⟩:=ue hv
    · exact wpAny_pyHash_int h
    · exact wpAny_pyHash_str h
  eqBool:=λhu hv h=>by
    obtain ⟨i,t,rfl,rfl⟩ |⟨x,t,rfl,rfl⟩:=ue hu
    · obtain ⟨j,u,rfl,rfl⟩ |⟨y,u,rfl,rfl⟩:=ue hv
      · rw[PY]at h;exact wpAny_eqBool_int h
      · rw[WY]at h;exact fj.int_str i t y u _ _ _ _ h
    · obtain ⟨j,u,rfl,rfl⟩ |⟨y,u,rfl,rfl⟩:=ue hv
      · rw[YL]at h;exact fj.str_int x t j u _ _ _ _ h
      · rw[Tg]at h;exact wpAny_eqBool_str h
  «strs» :=λk x t v h=>by
    obtain ⟨i,u,rfl,e⟩ |⟨y,u,rfl,e⟩:=ue h
    · exact nomatch e
    · injection e with e1 _;subst e1;cases v<;>rfl
def Zg (prog:bg) (w:aS) (i:Int) (t:Tok):(qN prog w).is (.inl i) (.int i t)=true:=Sq i t
def V3 (prog:bg) (w:aS) (x:ah) (t:Tok):(qN prog w).is (.inr x) (.str x t)=true:=T5 x t
inductive V where
  |ci |bl (b:Bool) |int (i:Int) |str (x:ah) |byt (b:Array UInt8) |flt (b:UInt64) |ref (a:ai) |ty (n:String)
  deriving DecidableEq
def mZ:V→aj→Prop
 | .ci,u=>u=cK
 | .bl b,u=>u=fe b
 | .int i,u=>∃t,u=gm i t
 | .str x,u=>∃t,u=fU x t
 | .byt b,u=>∃t,u=aj.bytes b t
 | .flt b,u=>∃t,u=aj.float b t
 | .ref a,u=>u=bM a
 | .ty n,u=>u=jE n
abbrev mR:List V→List aj→Prop:=aN mZ
def mR.length{xs:List V}{us:List aj}(r:mR xs us):xs.length=us.length:=fQ r
theorem mR.get:∀{xs:List V}{us:List aj}{i:Nat}{x:V},mR xs us→xs[i]? =aa x→ ∃u,us[i]? =aa u∧mZ x u
 |_,_,_,_, .nil,e=>by simp at e
 |_,_,0,_, .cons r _,e=>by simp at e;subst e;exact⟨_,rfl,r⟩
 |_,_,i+1,x, .cons _ t,e=>by
  obtain⟨u,h1,h2⟩:=mR.get (i:=i) (x:=x) t (by simpa using e);exact⟨u,by simpa using h1,h2⟩
theorem mR.append:∀{xs ys:List V}{us ws:List aj},mR xs us→mR ys ws→mR (xs++ys) (us++ws)
 |_,_,_,_, .nil,s=>s
 |_,_,_,_, .cons r t,s=> .cons r (mR.append t s)
theorem mR.take:∀{xs:List V}{us:List aj}(n:Nat),mR xs us→mR (xs.take n) (us.take n)
 |_,_,0,_=> .nil
 |_,_,_+1, .nil=> .nil
 |_,_,n+1, .cons r t=> .cons r (mR.take n t)
theorem mR.drop:∀{xs:List V}{us:List aj}(n:Nat),mR xs us→mR (xs.drop n) (us.drop n)
 |_,_,0,r=>r
 |_,_,_+1, .nil=> .nil
 |_,_,n+1, .cons _ t=>mR.drop n t
def qv:Option V→Option aj→Prop
 |some v,aa u=>mZ v u
 |none,none=>True
 |_,_=>False
def KV {κ:Type}:List (κ×V)→List (κ×aj)→Prop:=aN λ(p:κ×V) (q:κ×aj)=>p.1=q.1∧mZ p.2 q.2
noncomputable def kV:Key→V
 | .inl i=> .int i
 | .inr x=> .str x
inductive HO where
    |bP (xs:List V)
    |bW (xs:List V)
    |dK (gA:List (Key×V)) |dT (gA:List (List Key×V))
    |set (S:Int→Bool) (n:Nat)
    |ins (C dx:ai) (fs:List (ah×V))
    |own (x:ai)
    |xd (fs:List (ah×V))
    |met (f x:ai)
    |rng (lo hi:Int)
    |frz (o:aH) (u:HO)
    |tbl (ps:Array aj)
    |ext (φ:aE→Prop)
abbrev Hp:=ai→Option HO
noncomputable def nM (H:Hp) (a:ai) (o:HO):Hp:=λb=>if b=a then aa o else H b
def pH:nM H a o a=aa o:=by unfold nM;rw[if_pos rfl]
def oj (h:b≠a):nM H a o b=H b:=by unfold nM;rw[if_neg h]
def Cc{H:Hp}{a b:ai}{o u:HO}(h:H a=aa o) (h':H b=aa u) (d:o≠u):a≠b:=by
 intro e;subst e;rw[h]at h';exact d (aK h')
def pS{H:Hp}{a b:ai}{o:HO}(h:H a=aa o) (h':H b=none):a≠b:=by
 intro e;subst e;rw[h]at h';cases h'
section
variable (P:bg) (w:aS)
def nu (H:Hp) (h:aE) (a:ai):HO→Prop
 | .bP xs=>xs.length≤sizeLine∧ ∃(d5:List aj) (n:Nat),mR xs d5∧h.get? a=aa { cls:= .type "list",data:= .seq d5.toArray n }
 | .bW xs=>xs.length≤sizeLine∧ ∃d5:List aj,mR xs d5∧eT h a d5.toArray
 | .dK gA=>gA.length≤sizeLine∧(a == eV)=false∧ ∃vs,KV gA vs∧h.DictOf (qN P w) a vs
 | .dT gA=>gA.length≤sizeLine∧(a == eV)=false∧ ∃xs:List (List Key×ai×aj),
   aN (λ(p:List Key×V) (q:List Key×ai×aj)=>p.1=q.1∧H q.2.1=aa (.bW (p.1.map kV))∧mZ p.2 q.2.2) gA xs∧
   ∃o es ep,h.get? a=aa o∧o.ExactDict∧o.data= .dict es ep∧es.toList=xs.map (entryOfKey (cI (qN P w)))∧(xs.map (·.1)).Nodup
 | .set S n=>h.SetOf (intKind P w) a S n
 | .ins C dx fs=>H dx=aa (.own a)∧fs.length≤1000∧dx≠a∧h.get? a=aa (jN C dx)∧
   ∃mA,h.Ns1 dx mA∧(∀f,qv (fs.lookup f) (mA f))∧PySem.Within mA (fs.map (·.1))
 | .own _=>∃o,h.get? a=aa o
 | .xd fs=>∃mA,h.Ns1 a mA∧ ∀f,qv (fs.lookup f) (mA f)
 | .rng lo hi=>∃t u v,h.get? a=aa { cls:= .type "range",data:= .fields #[.int lo t, .int hi u, .int 1 v] }
 | .frz o u=>h.get? a=aa o∧nu H h a u
 | .tbl ps=>h.get? a=aa { cls:= .none,data:= .fields ps }
 | .met f x=>h.get? a=aa (jO (.ref f) (.ref x))
 | .ext φ=>φ h∧(∃o,h.get? a=aa o)∧ ∀h1 h2:aE,φ h1→(∀o,h1.get? a=aa o→h2.get? a=aa o)→φ h2
def n9 (H:Hp) (h:aE):Prop:=∀a o,H a=aa o→nu P w H h a o
end
def nu.lt (x:nu P w H h a o):a<h.objs.size:=by
 cases o with
 |bP xs=>obtain⟨_,_,_,_,e⟩:=x;exact aO e
 |bW xs=>obtain⟨_,_,_,p⟩:=x;exact p.lt
 |dK gA=>obtain⟨_,_,_,_,o,_,_,e,_⟩:=x;exact aO e
 |dT gA=>obtain⟨_,_,_,_,o,_,_,e,_⟩:=x;exact aO e
 |set S n=>obtain⟨o,_,_,_,e,_⟩:=x;exact aO e
 |ins C dx fs=>obtain⟨_,_,_,e,_⟩:=x;exact aO e
 |own y=>obtain⟨_,e⟩:=x;exact aO e
 |xd fs=>obtain⟨_,⟨_,_,_,e,_⟩,_⟩:=x;exact aO e
 |rng lo hi=>obtain⟨_,_,_,e⟩:=x;exact aO e
 |frz ob u=>obtain⟨e,_⟩:=x;exact aO e
 |tbl ps=>exact aO (show h.get? a=aa _ from x)
 |met f y=>exact aO (show h.get? a=aa _ from x)
 |ext φ=>obtain⟨_,⟨_,e⟩,_⟩:=x;exact aO e
theorem Paired.mapP{α β:Type}{F G:α→β→Prop}:∀{l₁:List α}{l₂:List β},aN F l₁ l₂→(∀a b,F a b→G a b)→aN G l₁ l₂
 |_,_, .nil,_=> .nil
 |_,_, .cons r t,f=> .cons (f _ _ r) (Paired.mapP t f)
def nu.stay (x:nu P w H h a o) (k:∀b u,(b=a∨H b=aa (.own a))→h.get? b=aa u→h'.get? b=aa u)
  (ho:∀b,H b=aa (.own a)→H' b=aa (.own a)) (ht:∀b xs,H b=aa (.bW xs)→H' b=aa (.bW xs)):nu P w H' h' a o:=by
 induction o with
 |bP xs=>obtain⟨z,d5,n,r,e⟩:=x;exact⟨z,d5,n,r,k _ _ (.inl rfl) e⟩
 |bW xs=>obtain⟨z,d5,r,ob,e,c⟩:=x;exact⟨z,d5,r,ob,k _ _ (.inl rfl) e,c⟩
 |dK gA=>obtain⟨z,y,vs,r,ob,es,ep,e,c⟩:=x;exact⟨z,y,vs,r,ob,es,ep,k _ _ (.inl rfl) e,c⟩
 |dT gA=>
  obtain⟨z,y,xs,r,ob,es,ep,e,c⟩:=x;exact⟨z,y,xs,Paired.mapP r λp q z=>⟨z.1,ht _ _ z.2.1,z.2.2⟩,ob,es,ep,k _ _ (.inl rfl) e,c⟩
 |set S n=>obtain⟨ob,es,ep,t,e,c⟩:=x;exact⟨ob,es,ep,t,k _ _ (.inl rfl) e,c⟩
 |ins C dx fs=>
  obtain⟨d,z,ne,e,mA,⟨od,es,ep,e2,c⟩,r⟩:=x;exact⟨ho _ d,z,ne,k _ _ (.inl rfl) e,mA,⟨od,es,ep,k _ _ (.inr d) e2,c⟩,r⟩
 |own y=>obtain⟨ob,e⟩:=x;exact⟨ob,k _ _ (.inl rfl) e⟩
 |xd fs=>obtain⟨mA,⟨od,es,ep,e,c⟩,r⟩:=x;exact⟨mA,⟨od,es,ep,k _ _ (.inl rfl) e,c⟩,r⟩
 |rng lo hi=>obtain⟨t,u,v,e⟩:=x;exact⟨t,u,v,k _ _ (.inl rfl) e⟩
 |frz ob u ih=>obtain⟨e,q⟩:=x;exact⟨k _ _ (.inl rfl) e,ih q⟩
 |tbl ps=>
  have e:h.get? a=aa { cls:= .none,data:= .fields ps }:=x;show h'.get? a=aa { cls:= .none,data:= .fields ps };exact k a _ (.inl rfl) e
 |met f y=>
  have e:h.get? a=aa (jO (.ref f) (.ref y)):=x;show h'.get? a=aa (jO (.ref f) (.ref y));exact k a _ (.inl rfl) e
 |ext φ=>obtain⟨p,⟨o,e⟩,st⟩:=x;exact⟨st _ _ p λo q=>k _ _ (.inl rfl) q,⟨o,k _ _ (.inl rfl) e⟩,st⟩
def n9.lt (x:n9 P w H h) (e:H a=aa o):a<h.objs.size:=(x a o e).lt
def n9.fresh (x:n9 P w H h) (e:h.objs.size≤a):H a=none:=by
 cases q:H a with
 |none=>rfl
 |some u=>exact absurd (bY (x.lt q) e) (cR _)
def n9.kept (x:n9 P w H h) (k:∀b u,h.get? b=aa u→h'.get? b=aa u):n9 P w H h':=λa o e=>
 (x a o e).stay (λb u _ q=>k b u q) (λ_ q=>q) λ_ _ q=>q
def n9.laid (x:n9 P w H h) (k:∀b u,h.get? b=aa u→h'.get? b=aa u) (hp:h.objs.size≤a) (new:nu P w (nM H a o) h' a o):n9 P w (nM H a o) h':=λb u e=>by
 have hn:=x.fresh hp;by_cases hb:b=a
 ·subst hb;rw[pH]at e;cases e;exact new
 ·rw[oj hb]at e;exact(x b u e).stay (λc v _ q=>k c v q) (λc q=>by rw[oj (pS q hn)];exact q) λc xs q=>by rw[oj (pS q hn)];exact q
def Rd (H:Hp) (a:ai) (u:HO):Prop:=H a=aa u∨ ∃o,H a=aa (.frz o u)
def Rd.ok (r:Rd H a u) (x:n9 P w H h):nu P w H h a u:=by
 obtain r |⟨o,r⟩:=r
 ·exact x a u r
 ·obtain⟨_,q⟩:=x a _ r;exact q
def A8:Option HO→Prop
 |some (.bP _)=>True
 |some (.dK _)=>True
 |some (.dT _)=>True
 |some (.set _ _)=>True
 |some (.ins _ _ _)=>True
 |some (.ext _)=>True
 |_=>False
def n9.write (ok:n9 P w H h) (mu:A8 (H x)) (he:e=x∨H e=aa (.own x)) (k:∀b u,b≠e→h.get? b=aa u→h'.get? b=aa u) (heo:∃u,h'.get? e=aa u)
  (new:nu P w (nM H x o') h' x o'):n9 P w (nM H x o') h':=λb u q=>by
 have nown:∀c y,H c=aa (.own y)→c≠x:=λc y r z=>by subst z;rw[r]at mu;exact mu
 have ntup:∀c xs,H c=aa (.bW xs)→c≠x:=λc xs r z=>by subst z;rw[r]at mu;exact mu
 by_cases hb:b=x
 ·subst hb;rw[pH]at q;cases q;exact new
 ·rw[oj hb]at q;by_cases hbe:b=e
  ·have q':H b=aa (.own x):=by
    obtain z |z:=he
    ·exact absurd (hbe.trans z) hb
    ·rw[hbe];exact z
   rw[q]at q';cases q';obtain⟨v,hv⟩:=heo;exact⟨v,by rw[hbe];exact hv⟩
  ·refine(ok b u q).stay (λc v hc r=>k c v ?_ r) (λc r=>by rw[oj (nown c b r)];exact r) λc xs r=>by rw[oj (ntup c xs r)];exact r
   obtain rfl |hc:=hc
   ·exact hbe
   ·rintro rfl;obtain z |z:=he
    ·exact nown c b hc z
    ·rw[hc]at z;cases z;exact hb rfl
structure Un (fs ex:List ai) (H H':Hp) (h h':aE):Prop where
  keep:∀b o,h.get? b=aa o→H b=none→b∉fs→b∉ex→h'.get? b=aa o
  slot:∀b o,h.get? b=aa o→H b=none→b∈fs→b∉ex→ ∃sl,h'.get? b=aa { o with slots:=sl }
  free:∀b o,h.get? b=aa o→H b=none→b∉ex→H' b=none
  there:∀b o,h.get? b=aa o→b∉ex→ ∃o',h'.get? b=aa o'
  tups:∀b xs,H b=aa (.bW xs)→H' b=aa (.bW xs)
  frzs:∀b o u,H b=aa (.frz o u)→H' b=aa (.frz o u)
  tbls:∀b ps,H b=aa (.tbl ps)→ ∃more,H' b=aa (.tbl (ps++more))
def Un.any (u:Un fs ex H H1 h h1) {b:ai}{ob:aH}(q:h.get? b=aa ob) (n:H b=none) (hx:b∉ex):∃sl,h1.get? b=aa { ob with slots:=sl }:=by
 by_cases hb:b∈fs
 ·exact u.slot b ob q n hb hx
 ·exact⟨ob.slots,u.keep b ob q n hb hx⟩
def Un.kept (k:∀b u,h.get? b=aa u→h'.get? b=aa u):Un fs ex H H h h':=
 ⟨λb ob q _ _ _=>k b ob q,λb ob q _ _ _=>⟨ob.slots,k b ob q⟩,λ_ _ _ n _=>n,λb ob q _=>⟨ob,k b ob q⟩,λ_ _ q=>q,λ_ _ _ q=>q,λ_ ps q=>⟨#[],by rw[q];simp⟩⟩
def Un.refl:Un fs ex H H h h:=Un.kept λ_ _ q=>q
def Un.laid (k:∀b u,h.get? b=aa u→h'.get? b=aa u) (hp:h.objs.size≤a) (hn:H a=none):Un fs ex H (nM H a o) h h' where
  keep:=λb u q _ _ _=>k b u q
  slot:=λb u q _ _ _=>⟨u.slots,k b u q⟩
  free:=λb u q n _=>by rw[oj (bR (bY (aO q) hp))];exact n
  there:=λb u q _=>⟨u,k b u q⟩
  tups:=λb xs q=>by rw[oj (pS q hn)];exact q
  frzs:=λb u xs q=>by rw[oj (pS q hn)];exact q
  tbls:=λb ps q=>⟨#[],by rw[oj (pS q hn),q];simp⟩
def Un.write (mu:A8 (H x)) (he:e=x∨H e=aa (.own x)) (k:∀b u,b≠e→h.get? b=aa u→h'.get? b=aa u) (heo:∃u,h'.get? e=aa u):Un fs ex H (nM H x o) h h':=by
 have hx:∀b,H b=none→b≠x:=λb n z=>by subst z;rw[n]at mu;exact mu
 have hb:∀b,H b=none→b≠e:=λb n z=>by
  subst z;obtain r |r:=he
  ·exact hx b n r
  ·rw[n]at r;cases r
 have hm:∀b u,H b=aa u→ ¬A8 (aa u)→b≠x:=λb u q nm z=>by subst z;rw[q]at mu;exact nm mu
 refine⟨λb u q n _ _=>k b u (hb b n) q,λb u q n _ _=>⟨u.slots,k b u (hb b n) q⟩,λb u q n _=>by rw[oj (hx b n)];exact n,λb u q _=>?_,
  λb xs q=>by rw[oj (hm b _ q λz=>z)];exact q,λb u xs q=>by rw[oj (hm b _ q λz=>z)];exact q,λb ps q=>⟨#[],by rw[oj (hm b _ q λz=>z),q];simp⟩⟩
 by_cases hbe:b=e
 ·subst hbe;exact heo
 ·exact⟨u,k b u hbe q⟩
noncomputable def Cv (h:aE) (H:Hp):List ai:=(bx h.objs.size).filter λa=>(H a).isSome
noncomputable def ux (h:aE) (H:Hp):aE:=du h (Cv h H)
def Qx (h:aE) (H:Hp):(ux h H).objs.size=h.objs.size:=PySem.W.hideAll_size _ _
def U2 (e:h.get? b=aa o) (n:H b=none):(ux h H).get? b=aa o:=
 fE _ e λhm=>by
  have q:(H b).isSome=true:=(dR.mp hm).2;rw[n]at q;simp at q
def UX (e:(ux h H).get? b=aa o):h.get? b=aa o∧H b=none:=by
 have e':h.get? b=aa o:=gi (Cv h H) e;refine⟨e',?_⟩;cases q:H b with
 |none=>rfl
 |some x=>
  have hm:b∈Cv h H:=dR.mpr ⟨fK.mpr (aO e'),by simp [q]⟩
  have z:(ux h H).get? b=none:=eF (Cv h H) hm;rw[z]at e;cases e
noncomputable def Ru (g h:aE) (L:ai):List (ai×aH):=(bx h.objs.size).filterMap λa=>if a=L∨(g.get? a).isSome=true then none else(h.get? a).map λo=>(a,o)
noncomputable def rest (g h:aE) (L d:ai):List (ai×aH):=(Ru g h L).filter λp=>decide (p.1≠d)
structure Mod (K:ao) (mg:ah→Option aj) (base:aE):Prop where
  kin:K.In base
  glob:base.Ns bp mg
  blt:∃mb,base.Ns il mb∧ ∀x:ah,x≠ "__name__" →mb x=cG x
  nolimit:base.NoLimit
structure Cx where
  prog:bg
  w:aS
  K:ao
  mg:ah→Option aj
  base:aE
  A:bt
  N:List ah
  s₀:am
  H₀:Hp
  env:bN
  outer:List bN
  stack:List bN
  ex:List ai
  fn:ah→Bool
  calm:Bool
  pn:List (ai×aH)
  xe:aj→am→Prop
noncomputable def frs (l:List bN):List ai:=l.filterMap (·.frame)
noncomputable abbrev Cx.fs (X:Cx):List ai:=frs X.outer
def vF (sc:Scope) (x:ah):Prop:=sc.names.lookup x=aa .local∨sc.names.lookup x=aa .cell∨sc.names.lookup x=aa .free
def tp (sc:Scope) (x:ah):Prop:=sc.names.lookup x=aa .local∨sc.names.lookup x=aa .cell
def Z8 (env:bN) (h:aE) (m:ah→Option aj) (x:ah) (u:aj):Prop:=
 (env.kindOf x=aa .local∧m x=aa u)∨((env.kindOf x=aa .cell∨env.kindOf x=aa .free)∧ ∃c,env.cells.lookup x=aa c∧h.IsCell c (aa u))
structure Cx.Ok (X:Cx):Prop where
  mod:Mod X.K X.mg X.base
  kind:X.env.scope.kind= .function
  glob:X.env.globals=bp
  blt:X.env.builtins=il
  above:X.s₀.heap.objs.size≤X.env.locals
  inj:∀x y c,X.env.cells.lookup x=aa c→X.env.cells.lookup y=aa c→x=y
  has:∀x,(X.env.kindOf x=aa .cell∨X.env.kindOf x=aa .free)→ ∃c,X.env.cells.lookup x=aa c
  cab:∀x c,X.fn x=true→X.env.cells.lookup x=aa c→X.s₀.heap.objs.size≤c
  hd:X.calm=true→X.A.handled=none
  frames:X.A.frames=aa X.stack
  stk:X.stack=X.outer∨(X.stack=X.env::X.outer∧X.env.frame=aa X.env.locals)
  exf:∀b∈X.ex,b≠X.env.locals∧ ∀x c,X.env.cells.lookup x=aa c→c≠b
  bs:∀b o,X.base.get? b=aa o→X.s₀.heap.get? b=aa o∧X.H₀ b=none
  bsz:X.base.objs.size≤X.s₀.heap.objs.size
  noex:∀b o,X.base.get? b=aa o→b∉X.ex
  exfs:∀b∈X.ex,b∉X.fs
  funs:X.s₀.heap.FunFrames X.base X.outer
  frf:∀b∈X.fs,X.H₀ b=none
structure mC (X:Cx) (ag:List (ai×aH)) (σ:List (Option V)) (H:Hp) (s:am):Prop where
  ok:X.Ok
  os:s.os=X.s₀.os
  bare:b_ s.gens
  base:Un X.fs X.ex X.H₀ H X.s₀.heap s.heap
  loc:∃m,s.heap.Ns X.env.locals m∧ ∀(i:Nat) (x:ah) (v:V),X.N[i]? =aa x→σ[i]? =aa (aa v)→vF X.env.scope x→ ∃u,mZ v u∧Z8 X.env s.heap m x u
  cell:∀x c,X.env.cells.lookup x=aa c→ ∃v,s.heap.IsCell c v
  free:H X.env.locals=none
  freeC:∀x c,X.env.cells.lookup x=aa c→H c=none
  pin:∀p∈X.pn++ag,s.heap.get? p.1=aa p.2∧H p.1=none∧p.1≠X.env.locals∧p.1∉X.fs∧ ∀v,p.2.data≠ .cell v
  cD:n9 X.prog X.w H s.heap
  len:σ.length=X.N.length
def Cx.Ok.nofr{X:Cx}(ok:X.Ok) (e:X.base.get? b=aa o):b∉X.fs:=λhb=>by
 have:=(ok.funs.mem hb).1;rw[e]at this;cases this
def mC.bs{X:Cx}{ag:List (ai×aH)}{σ:List (Option V)}{H:Hp}{s:am}(I:mC X ag σ H s):∀b o,X.base.get? b=aa o→s.heap.get? b=aa o∧H b=none:=λb o e=>
 ⟨I.base.keep b o (I.ok.bs b o e).1 (I.ok.bs b o e).2 (I.ok.nofr e) (I.ok.noex b o e),I.base.free b o (I.ok.bs b o e).1 (I.ok.bs b o e).2 (I.ok.noex b o e)⟩
def mC.bk (I:mC X ag σ H s):∀b o,X.base.get? b=aa o→s.heap.get? b=aa o:=λb o e=>(I.bs b o e).1
def mC.mod (I:mC X ag σ H s):Mod X.K X.mg X.base:=I.ok.mod
def mC.kIn (I:mC X ag σ H s):X.K.In s.heap:=I.ok.mod.kin.keeps I.bk
def mC.lt (I:mC X ag σ H s):X.env.locals<s.heap.objs.size:=let ⟨_,hn,_⟩:=I.loc;hn.lt
def mC.sz (I:mC X ag σ H s):X.s₀.heap.objs.size≤s.heap.objs.size:=aY I.ok.above (ik I.lt)
def mC.nofs (I:mC X ag σ H s) (h:s.heap.objs.size≤a):a∉X.fs:=λhb=>by
 obtain⟨_,o,ho,_⟩:=I.ok.funs.mem hb;exact absurd (bY (aO ho) (aY I.sz h)) (cR _)
def mC.cne (I:mC X ag σ H s):∀x c,X.env.cells.lookup x=aa c→c≠X.env.locals:=λx c e z=>by
 obtain⟨v,o,ho,hd⟩:=I.cell x c e;obtain⟨m,⟨o',es,ep,ho',hd',_⟩,_⟩:=I.loc;rw[z,ho']at ho;cases ho;rw[hd']at hd;cases hd
def mC.funs (I:mC X ag σ H s):s.heap.FunFrames X.base X.outer:=by
 have all:∀(l:List bN),(∀b∈frs l,b∈X.fs)→X.s₀.heap.FunFrames X.base l→s.heap.FunFrames X.base l:=by
  intro l
  induction l with
  |nil=>intro _ _;trivial
  |cons env r ih=>
   intro hs hl;obtain⟨hk,⟨L,o,hf,hn,ho,hd⟩,hr⟩:=hl;have hL:L∈X.fs:=hs L (by unfold frs;rw[g_,hf];exact aL);obtain⟨sl,e⟩:=I.base.slot L o ho (I.ok.frf L hL) hL λz=>I.ok.exfs L z hL;exact⟨hk,⟨L,_,hf,hn,e,hd⟩,ih (λb hb=>hs b (by unfold frs;rw[g_,hf];exact aI _ hb)) hr⟩
 exact all X.outer (λ_ hb=>hb) I.ok.funs
def mC.stack (I:mC X ag σ H s):s.heap.FunFrames X.base X.stack:=by
 obtain e |⟨e,hf⟩:=I.ok.stk
 ·rw[e];exact I.funs
 ·rw[e];obtain⟨m,hn,_⟩:=I.loc;refine .cons (by rw[I.ok.kind];decide) hf hn ?_ I.funs;exact aE.get?_none_of_le (aY I.ok.bsz I.ok.above)
def mC.stkSub (I:mC X ag σ H s):∀b∈frs X.stack,b∈X.env.locals::X.fs:=λb hb=>by
 obtain e |⟨e,hf⟩:=I.ok.stk
 ·rw[e]at hb;exact aI _ hb
 ·rw[e]at hb;unfold frs at hb;rw[g_,hf]at hb;exact hb
def mC.stkFree (I:mC X ag σ H s):∀b∈frs X.stack,H b=none:=λb hb=>by
 obtain e |hb:=az.mp (I.stkSub b hb)
 ·rw[e];exact I.free
 ·obtain⟨_,o,ho,_⟩:=I.ok.funs.mem hb;exact I.base.free b o ho (I.ok.frf b hb) λz=>I.ok.exfs b z hb
def mC.step{g':Array GenState}{t':Nat}{d':Drawn}{ch:List ai}(I:mC X ag σ H s)
  (hch:∀b∈ch,(b∈X.ex∨X.s₀.heap.objs.size≤b)∧b≠X.env.locals∧(∀x c,X.env.cells.lookup x=aa c→c≠b)∧ ∀p∈X.pn++ag,p.1≠b)
  (keep:∀b o,b≠X.env.locals→b∉X.fs→b∉ch→s.heap.get? b=aa o→H b=none→h'.get? b=aa o)
  (slot:∀b o,b≠X.env.locals→b∈X.fs→b∉ch→s.heap.get? b=aa o→H b=none→ ∃sl,h'.get? b=aa { o with slots:=sl }) (free:∀b o,b∉ch→s.heap.get? b=aa o→H b=none→H' b=none)
  (there:∀b o,b∉ch→s.heap.get? b=aa o→ ∃o',h'.get? b=aa o')
  (tups:∀b xs,H b=aa (.bW xs)→H' b=aa (.bW xs)) (frzs:∀b o u,H b=aa (.frz o u)→H' b=aa (.frz o u)) (tbls:∀b ps,H b=aa (.tbl ps)→ ∃more,H' b=aa (.tbl (ps++more)))
  (ns:∀m,s.heap.Ns X.env.locals m→h'.Ns X.env.locals m) (cD:n9 X.prog X.w H' h') (hg:b_ g') :
  mC X ag σ H' { s with heap:=h',gens:=g',drawn:=d',toks:=t' }:=by
 have neL:∀b o,X.s₀.heap.get? b=aa o→b≠X.env.locals:=λb o e=>bR (bY (aO e) I.ok.above);have neC:∀b o,X.s₀.heap.get? b=aa o→b∉X.ex→b∉ch:=λb o e hx hb=>by
  rcases(hch b hb).1 with z |z
  ·exact hx z
  ·exact absurd (bY (aO e) z) (cR _)
 have cellK:∀x c,X.env.cells.lookup x=aa c→ ∀v,s.heap.IsCell c v→h'.IsCell c v:=λx c e v ⟨o,ho,hd⟩=>by
  have nch:c∉ch:=λz=>(hch c z).2.2.1 x c e rfl;by_cases hc:c∈X.fs
  ·obtain⟨sl,q⟩:=slot c o (I.cne x c e) hc nch ho (I.freeC x c e);exact⟨_,q,hd⟩
  ·exact⟨o,keep c o (I.cne x c e) hc nch ho (I.freeC x c e),hd⟩
 refine⟨I.ok,I.os,hg,⟨λb o e n hb hx=>?_,λb o e n hb hx=>?_,λb o e n hx=>?_,λb o e hx=>?_,λb xs e=>tups b xs (I.base.tups b xs e),λb o xs e=>frzs b o xs (I.base.frzs b o xs e),λb ps e=>?_⟩,?_,λx c e=>?_,?_,λx c e=>?_,λp hp=>?_,cD,I.len⟩
 ·exact keep b o (neL b o e) hb (neC b o e hx) (I.base.keep b o e n hb hx) (I.base.free b o e n hx)
 ·obtain⟨sl,e1⟩:=I.base.slot b o e n hb hx;obtain⟨sl',e2⟩:=slot b _ (neL b o e) hb (neC b o e hx) e1 (I.base.free b o e n hx);exact⟨sl',e2⟩
 ·obtain⟨o',e1⟩:=I.base.there b o e hx;exact free b o' (neC b o e hx) e1 (I.base.free b o e n hx)
 ·obtain⟨o',e1⟩:=I.base.there b o e hx;exact there b o' (neC b o e hx) e1
 ·obtain⟨m1,e1⟩:=I.base.tbls b ps e;obtain⟨m2,e2⟩:=tbls b _ e1;exact⟨m1++m2,by rw[e2,Array.append_assoc]⟩
 ·obtain⟨m,hn,hl⟩:=I.loc;refine⟨m,ns m hn,λi x v e1 e2 e3=>?_⟩;obtain⟨u,r,l⟩:=hl i x v e1 e2 e3;refine⟨u,r,?_⟩;obtain l |⟨k,c,e,z⟩:=l
  ·exact .inl l
  ·exact .inr ⟨k,c,e,cellK x c e _ z⟩
 ·obtain⟨v,z⟩:=I.cell x c e;exact⟨v,cellK x c e v z⟩
 ·obtain⟨m,⟨o,_,_,ho,_⟩,_⟩:=I.loc;exact free _ o (λz=>(hch _ z).2.1 rfl) ho I.free
 ·obtain⟨v,o,ho,hd⟩:=I.cell x c e;exact free c o (λz=>(hch c z).2.2.1 x c e rfl) ho (I.freeC x c e)
 ·obtain⟨e,n,ne,nf,d⟩:=I.pin p hp;have nch:p.1∉ch:=λz=>(hch p.1 z).2.2.2 p hp rfl;exact⟨keep p.1 p.2 ne nf nch e n,free p.1 p.2 nch e n,ne,nf,d⟩
def mC.un{t':Nat}(I:mC X ag σ H s) (u:Un X.fs [] H H' s.heap h') (cD:n9 X.prog X.w H' h'):mC X ag σ H' { s with heap:=h',toks:=t' }:=by
 obtain⟨m,⟨o,es,ep,ho,r⟩,_⟩:=id I.loc;obtain⟨sl,hL⟩:=u.any ho I.free (by simp);exact I.step (g':=s.gens) (d':=s.drawn) (ch:=[]) (λ_ z=>nomatch z) (λb o _ hb _ e n=>u.keep b o e n hb (by simp)) (λb o _ hb _ e n=>u.slot b o e n hb (by simp)) (λb o _ e n=>u.free b o e n (by simp)) (λb o _ e=>u.there b o e (by simp)) u.tups u.frzs u.tbls (λm' hm=>by
  obtain⟨o',es',ep',ho',r'⟩:=hm;rw[ho]at ho';cases ho';exact⟨_,es',ep',hL,r'⟩) cD I.bare
def mC.call{g':Array GenState}{t':Nat}{d':Drawn}{ch:List ai}(I:mC X ag σ H s) (u:Un (frs X.stack) ch H H' s.heap h') (cD:n9 X.prog X.w H' h') (hg:b_ g')
  (hch:∀b∈ch,(b∈X.ex∨X.s₀.heap.objs.size≤b)∧b≠X.env.locals∧(∀x c,X.env.cells.lookup x=aa c→c≠b)∧ ∀p∈X.pn++ag,p.1≠b) :
  mC X ag σ H' { s with heap:=h',gens:=g',drawn:=d',toks:=t' }:=by
 obtain⟨m,⟨o,es,ep,ho,r⟩,_⟩:=id I.loc;obtain⟨sl,hL⟩:=u.any ho I.free λz=>(hch _ z).2.1 rfl;exact I.step (ch:=ch) hch (λb o hL hb hc e n=>u.keep b o e n (λz=>(az.mp (I.stkSub b z)).elim hL hb) hc) (λb o _ _ hc e n=>u.any e n hc) (λb o hc e n=>u.free b o e n hc) (λb o hc e=>u.there b o e hc) u.tups u.frzs u.tbls (λm' hm=>by
  obtain⟨o',es',ep',ho',r'⟩:=hm;rw[ho]at ho';cases ho';exact⟨_,es',ep',hL,r'⟩) cD hg
def mC.turned{t':Nat}(I:mC X ag σ H s) (k:∀b o,b≠it→s.heap.get? b=aa o→h'.get? b=aa o) (hn:H it=none) (hL:it≠X.env.locals)
  (h1:it∈X.ex∨X.s₀.heap.objs.size≤it) (h2:∀x c,X.env.cells.lookup x=aa c→c≠it) (h3:∀p∈X.pn++ag,p.1≠it):mC X ag σ H { s with heap:=h',toks:=t' }:=by
 have nit:∀b u,H b=aa u→b≠it:=λb u e z=>by rw[z,hn]at e;cases e
 refine I.step (g':=s.gens) (d':=s.drawn) (ch:=[it]) (λb hb=>?_) (λb o _ _ hc e _=>k b o (λz=>hc (by simp [z])) e) (λb o _ _ hc e _=>⟨o.slots,k b o (λz=>hc (by simp [z])) e⟩) (λ_ _ _ _ n=>n)
  (λb o hc e=>⟨o,k b o (λz=>hc (by simp [z])) e⟩) (λ_ _ e=>e) (λ_ _ _ e=>e) (λb ps e=>⟨#[],by rw[e];simp⟩) (λm hm=>?_) (λb u e=>?_) I.bare
 ·have e:b=it:=by simpa using hb
  subst e;exact⟨h1,hL,h2,h3⟩
 ·obtain⟨o,es,ep,ho,r⟩:=hm;exact⟨o,es,ep,k _ o (bz hL) ho,r⟩
 ·refine(I.cD b u e).stay (λc v hc q=>k c v ?_ q) (λ_ q=>q) λ_ _ q=>q;obtain z |z:=hc
  ·rw[z];exact nit b u e
  ·exact nit c _ z
def mC.tok (I:mC X ag σ H s) (t:Nat):mC X ag σ H { s with toks:=t }:=I.un (h':=s.heap) (t':=t) Un.refl I.cD
def mC.kept{t':Nat}(I:mC X ag σ H s) (k:∀b u,s.heap.get? b=aa u→h'.get? b=aa u):mC X ag σ H { s with heap:=h',toks:=t' }:=I.un (Un.kept k) (I.cD.kept k)
def mC.laid{t':Nat}(I:mC X ag σ H s) (k:∀b u,s.heap.get? b=aa u→h'.get? b=aa u) (hp:s.heap.objs.size≤a) (new:nu X.prog X.w (nM H a o) h' a o) :
  mC X ag σ (nM H a o) { s with heap:=h',toks:=t' }:=I.un (Un.laid k hp (I.cD.fresh hp)) (I.cD.laid k hp new)
def mC.write{t':Nat}(I:mC X ag σ H s) (mu:A8 (H x)) (he:e=x∨H e=aa (.own x)) (k:∀b u,b≠e→s.heap.get? b=aa u→h'.get? b=aa u) (heo:∃u,h'.get? e=aa u)
  (new:nu X.prog X.w (nM H x o) h' x o):mC X ag σ (nM H x o) { s with heap:=h',toks:=t' }:=I.un (Un.write mu he k heo) (I.cD.write mu he k heo new)
def mC.pins_of (I:mC X ag σ H s) (h:∀p∈pins',s.heap.get? p.1=aa p.2∧H p.1=none∧p.1≠X.env.locals∧p.1∉X.fs∧ ∀v,p.2.data≠ .cell v):mC X pins' σ H s:=
 ⟨I.ok,I.os,I.bare,I.base,I.loc,I.cell,I.free,I.freeC,λp hp=>(bn.mp hp).elim (λz=>I.pin p (dX _ z)) (h p),I.cD,I.len⟩
def L4{N:List ah}(hN:N.Nodup) {i j:Nat}{x:ah}(a:N[i]? =aa x) (b:N[j]? =aa x):i=j:=by
 obtain⟨h1,e1⟩:=b6.mp a;obtain⟨h2,e2⟩:=b6.mp b;exact(List.getElem_inj hN).mp (e1.trans e2.symm)
def G7{E:aj→am→Prop}{Q:Unit→am→Prop}(I:mC X ag σ H s) (hN:X.N.Nodup) (hi:X.N[i]? =aa x) (hx:tp X.env.scope x) (r:mZ v u)
  (h:∀s',mC X ag (σ.set i (aa v)) H s'→(∃a,cL a s.heap s'.heap∧(a=X.env.locals∨X.env.cells.lookup x=aa a))→Q () s') (hf:X.fn x=true∨X.env.scope.names.lookup x=aa .local:=by first |exact .inl rfl |exact .inr rfl |assumption):av M A (i0 X.env x u) Q E s:=by
 obtain⟨m,hn,hl⟩:=id I.loc;have hcls:(X.env.scope.kind == .class || (X.env.scope.kind == .module&&X.env.locals != X.env.globals))=false:=by rw[I.ok.kind];rfl
 have hiσ:i<σ.length:=by rw[I.len];exact(b6.mp hi).1
 have cne:=I.cne;have tracked:∀{a:ai}{h':aE},(∃o,s.heap.get? a=aa o∧H a=none)→cL a s.heap h'→n9 X.prog X.w H h':=λ{a h'} ha hs b ob e=>by
  obtain⟨_,_,hfree⟩:=ha;refine(I.cD b ob e).stay (λc w' hc q=>(hs.2 c ?_).trans q) (λ_ q=>q) λ_ _ q=>q;rintro rfl;obtain rfl |hc:=hc
  ·rw[hfree]at e;cases e
  ·rw[hfree]at hc;cases hc
 obtain hk |hk:=hx
 ·refine wpAny_storeName_local hk hn (λh' hn' hs=>?_) hcls;obtain⟨oL,_,_,hoL,_⟩:=id hn;refine h _ ⟨I.ok,I.os,I.bare,⟨λb o e n hb hx=>?_,λb o e n hb hx=>?_,I.base.free,λb o e hx=>?_,I.base.tups,I.base.frzs,I.base.tbls⟩,⟨_,hn',λj y v' e1 e2 e3=>?_⟩,λy c e=>?_,I.free,I.freeC,λp hp=>?_,tracked ⟨oL,hoL,I.free⟩ hs,by simpa using I.len⟩ ⟨_,hs, .inl rfl⟩
  ·exact(hs.2 b (bR (bY (aO e) I.ok.above))).trans (I.base.keep b o e n hb hx)
  ·obtain⟨sl,e1⟩:=I.base.slot b o e n hb hx;exact⟨sl,(hs.2 b (bR (bY (aO e) I.ok.above))).trans e1⟩
  ·obtain⟨o',e1⟩:=I.base.there b o e hx;exact⟨o',(hs.2 b (bR (bY (aO e) I.ok.above))).trans e1⟩
  ·by_cases hj:j=i
   ·subst hj;rw[hi]at e1;cases e1;rw[gr hiσ]at e2;cases e2;exact⟨u,r, .inl ⟨hk,by simp⟩⟩
   ·rw[jB (bz hj)]at e2;obtain⟨u',r',q⟩:=hl j y v' e1 e2 e3;refine⟨u',r',?_⟩;obtain ⟨k,e⟩ |⟨k,c,e,z⟩:=q
    ·refine .inl ⟨k,?_⟩;have:y≠x:=λe=>hj (L4 hN e1 (e▸hi));simp [this,e]
    ·exact .inr ⟨k,c,e,z.sameBut hs (cne y c e)⟩
  ·obtain⟨w',z⟩:=I.cell y c e;exact⟨w',z.sameBut hs (cne y c e)⟩
  ·obtain⟨e,n,ne,nf,d⟩:=I.pin p hp;exact⟨(hs.2 p.1 ne).trans e,n,ne,nf,d⟩
 ·have hfn:X.fn x=true:=by
   obtain z |z:=hf
   ·exact z
   ·rw[z]at hk;cases hk
  obtain⟨c,hc⟩:=I.ok.has x (.inl hk);obtain⟨w',z⟩:=I.cell x c hc;refine wpAny_storeName_cell I.ok.kind hk hc z (λh' hc' hs=>?_);obtain⟨oc,hoc,hocd⟩:=id z;refine h { s with heap:=h' } ⟨I.ok,I.os,I.bare,⟨λb o e n hb hx=>?_,λb o e n hb hx=>?_,I.base.free,λb o e hx=>?_,I.base.tups,I.base.frzs,I.base.tbls⟩,⟨m,hn.sameBut hs (bz (cne x c hc)),λj y v' e1 e2 e3=>?_⟩,λy c' e=>?_,I.free,I.freeC,λp hp=>?_,tracked ⟨oc,hoc,I.freeC x c hc⟩ hs,by simpa using I.len⟩ ⟨c,hs, .inr hc⟩
  ·exact(hs.2 b (bR (bY (aO e) (I.ok.cab x c hfn hc)))).trans (I.base.keep b o e n hb hx)
  ·obtain⟨sl,e1⟩:=I.base.slot b o e n hb hx;exact⟨sl,(hs.2 b (bR (bY (aO e) (I.ok.cab x c hfn hc)))).trans e1⟩
  ·obtain⟨o',e1⟩:=I.base.there b o e hx;exact⟨o',(hs.2 b (bR (bY (aO e) (I.ok.cab x c hfn hc)))).trans e1⟩
  ·by_cases hj:j=i
   ·subst hj;rw[hi]at e1;cases e1;rw[gr hiσ]at e2;cases e2;exact⟨u,r, .inr ⟨.inl hk,c,hc,hc'⟩⟩
   ·rw[jB (bz hj)]at e2;obtain⟨u',r',q⟩:=hl j y v' e1 e2 e3;refine⟨u',r',?_⟩;obtain q |⟨k,c',e,z'⟩:=q
    ·exact .inl q
    ·refine .inr ⟨k,c',e,z'.sameBut hs ?_⟩;rintro rfl;exact hj (L4 hN e1 (I.ok.inj _ _ _ e hc▸hi))
  ·by_cases hcc:c'=c
   ·subst hcc;exact⟨_,hc'⟩
   ·obtain⟨w2,z2⟩:=I.cell y c' e;exact⟨w2,z2.sameBut hs hcc⟩
  ·obtain⟨e,n,ne,nf,d⟩:=I.pin p hp;refine⟨(hs.2 p.1 ?_).trans e,n,ne,nf,d⟩;intro q;rw[q,hoc]at e;have q':oc=p.2:=aK e;exact d w' (by rw[←q'];exact hocd)
def EE{E:aj→am→Prop}{Q:Unit→am→Prop}(I:mC X ag σ H s) (hN:X.N.Nodup) (hi:X.N[i]? =aa x) (hx:tp X.env.scope x) (r:mZ v u)
  (h:∀s',mC X ag (σ.set i (aa v)) H s'→Q () s') (hf:X.fn x=true∨X.env.scope.names.lookup x=aa .local:=by first |exact .inl rfl |exact .inr rfl |assumption):av M A (i0 X.env x u) Q E s:=
 G7 I hN hi hx r (λs' I' _=>h s' I') hf
def mC.call' (I:mC X ag σ H s) (ho:s'.os=s.os) (u:Un (frs X.stack) ch H H' s.heap s'.heap) (cD:n9 X.prog X.w H' s'.heap) (hg:b_ s'.gens)
  (hch:∀b∈ch,(b∈X.ex∨X.s₀.heap.objs.size≤b)∧b≠X.env.locals∧(∀x c,X.env.cells.lookup x=aa c→c≠b)∧ ∀p∈X.pn++ag,p.1≠b):mC X ag σ H' s':=by
 obtain⟨h',g',d',t',o'⟩:=s';have e:o'=s.os:=ho;subst e;exact I.call (g':=g') (t':=t') (d':=d') u cD hg hch
abbrev XK:=aj→Option ai→Hp→Prop
abbrev St:=List (Option V)
abbrev VK:=V→Hp→Prop
abbrev TE:=St→Hp→VK→Prop
abbrev TT:=St→Hp→(Bool→Hp→Prop)→Prop
abbrev TA:=St→Hp→(List V→Hp→Prop)→Prop
structure rR where
  nx:St→Hp→Prop
  rt:VK
  bk:St→Hp→Prop:=λ_ _=>False
  ct:St→Hp→Prop:=λ_ _=>False
abbrev TS:=rR→St→Hp→Prop
def EP (X:Cx) (ag:List (ai×aH)) (σ:St) (Q:VK) (u:aj) (s':am):Prop:=∃v H',mC X ag σ H' s'∧mZ v u∧Q v H'
def TP (X:Cx) (ag:List (ai×aH)) (σ:St) (Q:Bool→Hp→Prop) (b:Bool) (s':am):Prop:=∃H',mC X ag σ H' s'∧Q b H'
def AP (X:Cx) (ag:List (ai×aH)) (σ:St) (Q:List V→Hp→Prop) (us:List aj) (s':am):Prop:=∃vs H',mC X ag σ H' s'∧mR vs us∧Q vs H'
def SP (X:Cx) (ag:List (ai×aH)) (D:rR) (f:Flow) (s':am):Prop:=
 match f with
 | .next=>∃σ' H',mC X ag σ' H' s'∧D.nx σ' H'
 | .brk=>∃σ' H',mC X ag σ' H' s'∧D.bk σ' H'
 | .cont=>∃σ' H',mC X ag σ' H' s'∧D.ct σ' H'
 | .ret u=>∃v σ' H',mC X ag σ' H' s'∧mZ v u∧D.rt v H'
def PE (X:Cx) (e:Expr) (t:TE):Prop:=
 ∀(ag:List (ai×aH)) (s:am) (σ:St) (H:Hp) (Q:VK),mC X ag σ H s→t σ H Q→av (aB X.prog X.w) X.A (aG e X.env) (EP X ag σ Q) X.xe s
def PT (X:Cx) (e:Expr) (t:TT):Prop:=
 ∀(ag:List (ai×aH)) (s:am) (σ:St) (H:Hp) (Q:Bool→Hp→Prop),mC X ag σ H s→t σ H Q→av (aB X.prog X.w) X.A (isTrue e X.env (aG e X.env)) (TP X ag σ Q) X.xe s
def PW (X:Cx) (e:Expr) (t:TT):Prop:=
 ∀(whole:ce aj) (ag:List (ai×aH)) (s:am) (σ:St) (H:Hp) (Q:Bool→Hp→Prop),mC X ag σ H s→t σ H Q→av (aB X.prog X.w) X.A (isTrue e X.env whole) (TP X ag σ Q) X.xe s
def PW.pt (h:PW X e t):PT X e t:=h _
def PA (X:Cx) (es:List Expr) (t:TA):Prop:=
 ∀(pos:bw) (ag:List (ai×aH)) (s:am) (σ:St) (H:Hp) (Q:List V→Hp→Prop),mC X ag σ H s→t σ H Q→av (aB X.prog X.w) X.A (spliced (aZ pos (ax es X.env))) (AP X ag σ Q) X.xe s
def PS (X:Cx) (st:aW) (t:TS):Prop:=
 ∀(ag:List (ai×aH)) (s:am) (σ:St) (H:Hp) (D:rR),mC X ag σ H s→t D σ H→av (aB X.prog X.w) X.A (exec st X.env) (SP X ag D) X.xe s
def qF (X:Cx) (st:List aW) (t:TS):Prop:=
 ∀(ag:List (ai×aH)) (s:am) (σ:St) (H:Hp) (D:rR),mC X ag σ H s→t D σ H→av (aB X.prog X.w) X.A (execs st X.env) (SP X ag D) X.xe s
def nG{α:Type}{t:ce α}{Q Q':α→am→Prop}{M:Model}{A:bt}{E:aj→am→Prop}{s:am}(h:av M A t Q E s) (hQ:∀a s,Q a s→Q' a s):av M A t Q' E s:=cm h hQ λ_ _ x=>x
def G6 (i:Nat):TE:=λσ H Q=>∃v,σ[i]? =aa (aa v)∧Q v H
def tC (v:V):TE:=λ_ H Q=>Q v H
def Ju (hN:X.N[i]? =aa x) (hv:vF X.env.scope x) (hd:(x == ("__debug__" :ah))=false) (hcd:(x == ("__classdict__" :ah))=false):PE X (.Name x pos) (G6 i):=by
 intro ag s σ H Q I h;obtain⟨v,e,h⟩:=h;obtain⟨m,hn,hl⟩:=I.loc;obtain⟨u,r,l⟩:=hl i x v hN e hv;have fin:EP X ag σ Q u s:=⟨v,H,I,r,h⟩;obtain ⟨hk,hm⟩ |⟨hk,c,hc,hcell⟩:=l
 ·exact jc (lD I.ok.kind hk hn hm fin) hd
 ·obtain hk |hk:=hk
  ·exact jc (lr I.ok.kind hk hc hcell fin) hd
  ·exact jc (wpAny_loadName_free I.ok.kind hk hc hcell fin hcd) hd
def P4{i j pos}:PE X (.Constant (.int i) j pos) (tC (.int i)):=λ_ _ _ H _ I h=>wpAny_Constant_int ⟨.int i,H,I.tok _,⟨_,rfl⟩,h⟩
def Sb{b j pos}:PE X (.Constant (.bool b) j pos) (tC (.bl b)):=λ_ _ _ H _ I h=>Constant_bool ⟨.bl b,H,I,rfl,h⟩
def Z_{j pos}:PE X (.Constant .none j pos) (tC .ci):=λ_ _ _ H _ I h=>Constant_none ⟨.ci,H,I,rfl,h⟩
def Qj{x j pos}:PE X (.Constant (.str x) j pos) (tC (.str x)):=λ_ _ _ H _ I h=>Calls.Constant_str ⟨.str x,H,I.tok _,⟨_,rfl⟩,h⟩
def Gl (X:Cx) (x:ah):Prop:=X.env.kindOf x=aa .globalImplicit
def yX{E:aj→am→Prop}{Q:aj→am→Prop}(I:mC X ag σ H s) (hg:Gl X x) (hm:X.mg x=aa u) (h:Q u s)
  (hd:(x == ("__debug__" :ah))=false):av (aB X.prog X.w) X.A (aG (.Name x pos) X.env) Q E s:=
 j7 I.ok.kind hg (Calls.loadGlobal_global (by rw[I.ok.glob];exact I.mod.glob.keeps I.bk) hm h) hd
def wK{E:aj→am→Prop}{Q:aj→am→Prop}(I:mC X ag σ H s) (hg:Gl X x) (hm:X.mg x=none) (hv:cG x=aa u) (h:Q u s)
  (hn:x≠ "__name__" :=by decide) (hd:(x == ("__debug__" :ah))=false:=by decide):av (aB X.prog X.w) X.A (aG (.Name x pos) X.env) Q E s:=by
 obtain⟨mb,h1,h2⟩:=I.mod.blt;exact j7 I.ok.kind hg (Calls.loadGlobal_builtin (by rw[I.ok.glob];exact I.mod.glob.keeps I.bk) hm (by rw[I.ok.blt];exact h1.keeps I.bk) ((h2 x hn).trans hv) h) hd
def Hl (hg:Gl X x) (hm:X.mg x=aa u) (r:mZ v u) (hd:(x == ("__debug__" :ah))=false):PE X (.Name x pos) (tC v):=
 λ_ _ _ H _ I h=>yX I hg hm ⟨v,H,I,r,h⟩ hd
def Sd (hg:Gl X x) (hm:X.mg x=none) (hv:cG x=aa u) (r:mZ v u) (hn:x≠ "__name__" ) (hd:(x == ("__debug__" :ah))=false):PE X (.Name x pos) (tC v):=
 λ_ _ _ H _ I h=>wK I hg hm hv ⟨v,H,I,r,h⟩ hn hd
def PN (t u:TT):TT:=λσ H Q=>t σ H λc H1=>if c=true then u σ H1 Q else Q false H1
def tOr (t u:TT):TT:=λσ H Q=>t σ H λc H1=>if c=true then Q true H1 else u σ H1 Q
def QE (t:TT):TT:=λσ H Q=>t σ H λc H1=>Q (!c) H1
def Zv (ha:PT X a tA):PW X (.BoolOp .And [a] pos) tA:=by
 intro wh ag s σ H Q I h;refine isTrue_and (nG (ha ag s σ H Q I h) λc s1 e=>?_);cases c with
 |true=>exact isTrue_and_nil e
 |false=>exact e
def O1 (ha:PT X a tA):PW X (.BoolOp .Or [a] pos) tA:=by
 intro wh ag s σ H Q I h;refine isTrue_or (nG (ha ag s σ H Q I h) λc s1 e=>?_);cases c with
 |false=>exact isTrue_or_nil e
 |true=>exact e
def PZ{X:Cx}{a b:Expr}{pos:bw}{tA tB':TT}{rest:List Expr}(ha:PT X a tA) (hb:PW X (.BoolOp .And (b::rest) pos) tB'):PW X (.BoolOp .And (a::b::rest) pos) (PN tA tB'):=by
 intro wh ag s σ H Q I h;refine isTrue_and (nG (ha ag s σ H _ I h) λc s1 ⟨H1,I1,q1⟩=>?_);cases c with
 |true=>exact hb wh ag s1 σ H1 Q I1 q1
 |false=>exact⟨H1,I1,q1⟩
def Wx{X:Cx}{a b:Expr}{pos:bw}{tA tB':TT}{rest:List Expr}(ha:PT X a tA) (hb:PW X (.BoolOp .Or (b::rest) pos) tB'):PW X (.BoolOp .Or (a::b::rest) pos) (tOr tA tB'):=by
 intro wh ag s σ H Q I h;refine isTrue_or (nG (ha ag s σ H _ I h) λc s1 ⟨H1,I1,q1⟩=>?_);cases c with
 |true=>exact⟨H1,I1,q1⟩
 |false=>exact hb wh ag s1 σ H1 Q I1 q1
def Z1 (ha:PT X a tA):PT X (.UnaryOp .Not a pos) (QE tA):=by
 intro ag s σ H Q I h;exact isTrue_not (ha ag s σ H (λc H1=>Q (!c) H1) I h)
def XY (ta tb:TE):TE:=λσ H Q=>ta σ H λx H1=>∃c,x= .bl c∧if c=true then tb σ H1 Q else Q (.bl false) H1
def Xo (ta tb:TE):TE:=λσ H Q=>ta σ H λx H1=>∃c,x= .bl c∧if c=true then Q (.bl true) H1 else tb σ H1 Q
def Su (ta:TE):TE:=λσ H Q=>ta σ H λx H1=>∃c,x= .bl c∧Q (.bl (!c)) H1
def Qg{op}(h:PE X a t):PE X (.BoolOp op [a] pos) t:=λag s σ H Q I hw=>BoolOp_one (h ag s σ H Q I hw)
def Xu{X:Cx}{a b:Expr}{ta tb:TE}{pos:bw}{rest:List Expr}(ha:PE X a ta) (hb:PE X (.BoolOp .And (b::rest) pos) tb):PE X (.BoolOp .And (a::b::rest) pos) (XY ta tb):=by
 intro ag s σ H Q I h;refine BoolOp_and (nG (ha ag s σ H _ I h) λv s1 ⟨x,H1,I1,r1,q1⟩=>?_);obtain⟨c,rfl,q1⟩:=q1;cases r1;refine eA ?_;cases c with
 |true=>exact hb ag s1 σ H1 Q I1 q1
 |false=>exact⟨.bl false,H1,I1,rfl,q1⟩
def Q0{X:Cx}{a b:Expr}{ta tb:TE}{pos:bw}{rest:List Expr}(ha:PE X a ta) (hb:PE X (.BoolOp .Or (b::rest) pos) tb):PE X (.BoolOp .Or (a::b::rest) pos) (Xo ta tb):=by
 intro ag s σ H Q I h;refine BoolOp_or (nG (ha ag s σ H _ I h) λv s1 ⟨x,H1,I1,r1,q1⟩=>?_);obtain⟨c,rfl,q1⟩:=q1;cases r1;refine eA ?_;cases c with
 |false=>exact hb ag s1 σ H1 Q I1 q1
 |true=>exact⟨.bl true,H1,I1,rfl,q1⟩
def ZK (ha:PE X a ta):PE X (.UnaryOp .Not a pos) (Su ta):=by
 intro ag s σ H Q I h;refine iy (nG (ha ag s σ H _ I h) λv s1 ⟨x,H1,I1,r1,q1⟩=>?_);obtain⟨c,rfl,q1⟩:=q1;cases r1;exact not_of (eA ⟨.bl (!c),H1,I1,rfl,q1⟩)
def Rk (t:TT) (ta tb:TE):TE:=λσ H Q=>t σ H λc H1=>if c=true then ta σ H1 Q else tb σ H1 Q
def UD (hc:PT X c tA) (ha:PE X a ta) (hb:PE X b tb):PE X (.IfExp c a b pos) (Rk tA ta tb):=by
 intro ag s σ H Q I h;refine wpAny_IfExp (nG (hc ag s σ H _ I h) λd s1 ⟨H1,I1,q1⟩=>?_);cases d with
 |true=>exact ha ag s1 σ H1 Q I1 q1
 |false=>exact hb ag s1 σ H1 Q I1 q1
def oJ (K:ao) (H:Hp) (a:ai) (xs:List V):Prop:=
 Rd H a (.bP xs)∨
  ∃(o:aH) (d5:Array aj) (n:Nat),K.lookup a=aa o∧o.cls= .type "list" ∧o.dict=none∧o.data= .seq d5 n∧d5.size≤sizeLine∧mR xs d5.toList
def oZ (K:ao) (H:Hp) (a:ai) (xs:List V):Prop:=
 Rd H a (.bW xs)∨
  ∃(o:aH) (d5:Array aj) (n:Nat),K.lookup a=aa o∧o.cls= .type "tuple" ∧o.data= .seq d5 n∧d5.size≤sizeLine∧mR xs d5.toList
noncomputable def P8:aj→Option V
 | .none=>aa .ci
 | .bool b=>aa (.bl b)
 | .int i _=>aa (.int i)
 | .str x _=>aa (.str x)
 | .bytes b _=>aa (.byt b)
 | .float b _=>aa (.flt b)
 | .ref a=>aa (.ref a)
 | .type n=>aa (.ty n)
 |_=>none
def mZ.abs (r:mZ x u):P8 u=aa x:=by
 cases x with
 |ci=>cases r;rfl
 |bl _=>cases r;rfl
 |int _=>obtain⟨t,rfl⟩:=r;rfl
 |str _=>obtain⟨t,rfl⟩:=r;rfl
 |byt _=>obtain⟨t,rfl⟩:=r;rfl
 |flt _=>obtain⟨t,rfl⟩:=r;rfl
 |ref _=>cases r;rfl
 |ty _=>cases r;rfl
def mZ.inj{x y:V}{u:aj}(r:mZ x u) (q:mZ y u):x=y:=aK (r.abs.symm.trans q.abs)
theorem mR.inj:∀{xs ys:List V}{us:List aj},mR xs us→mR ys us→xs=ys
 |_,_,_, .nil, .nil=>rfl
 |_,_,_, .cons r t, .cons r' t'=>by rw[r.inj r',mR.inj t t']
def oJ.of{K:ao}(h:H a=aa (.bP xs)):oJ K H a xs:= .inl (.inl h)
def oZ.of{K:ao}(h:H a=aa (.bW xs)):oZ K H a xs:= .inl (.inl h)
def mC.list (I:mC X ag σ H s) (h:oJ X.K H a xs):∃d5:List aj,mR xs d5∧PlainL s.heap a d5.toArray∧xs.length≤sizeLine:=by
 obtain h |⟨o,d5,n,hk,hc,hd,hs,hz,r⟩:=h
 ·obtain⟨z,d5,n,r,e⟩:=h.ok I.cD;exact⟨d5,r,⟨_,n,e,rfl,rfl,rfl⟩,z⟩
 ·refine⟨d5.toList,r,⟨o,n,I.kIn a o hk,hc,hd,by simpa using hs⟩,?_⟩
  have e:=r.length;simp only[iH]at e;lia
def mC.tuple (I:mC X ag σ H s) (h:oZ X.K H a xs):∃d5:List aj,mR xs d5∧eT s.heap a d5.toArray∧xs.length≤sizeLine:=by
 obtain h |⟨o,d5,n,hk,hc,hs,hz,r⟩:=h
 ·obtain⟨z,d5,r,p⟩:=h.ok I.cD;exact⟨d5,r,p,z⟩
 ·refine⟨d5.toList,r,⟨o,I.kIn a o hk,hc,n,by simpa using hs⟩,?_⟩
  have e:=r.length;simp only[iH]at e;lia
def mC.list_inj (I:mC X ag σ H s) (h:oJ X.K H a xs) (h':oJ X.K H a ys):xs=ys:=by
 obtain⟨d5,r,⟨o,n,e,_,_,d⟩,_⟩:=I.list h;obtain⟨its',r',⟨o',n',e',_,_,d'⟩,_⟩:=I.list h';rw[e]at e';cases e';rw[d]at d';injection d' with d1 _;have:d5=its':=by simpa using congrArg Array.toList d1
 subst this;exact r.inj r'
def mC.tuple_inj (I:mC X ag σ H s) (h:oZ X.K H a xs) (h':oZ X.K H a ys):xs=ys:=by
 obtain⟨d5,r,⟨o,e,_,n,d⟩,_⟩:=I.tuple h;obtain⟨its',r',⟨o',e',_,n',d'⟩,_⟩:=I.tuple h';rw[e]at e';cases e';rw[d]at d';injection d' with d1 _;have:d5=its':=by simpa using congrArg Array.toList d1
 subst this;exact r.inj r'
noncomputable abbrev Cx.wish (X:Cx) (E:aj→am→Prop):Cx:={ X with xe:=E }
noncomputable abbrev Cx.nox (X:Cx):Cx:=X.wish λ_ _=>False
def Cx.Ok.wish{X:Cx}(ok:X.Ok) (E:aj→am→Prop):(X.wish E).Ok:=
 ⟨ok.mod,ok.kind,ok.glob,ok.blt,ok.above,ok.inj,ok.has,ok.cab,ok.hd,ok.frames,ok.stk,ok.exf,ok.bs,ok.bsz,ok.noex,ok.exfs,ok.funs,ok.frf⟩
def Cx.Ok.unwish{X:Cx}{E:aj→am→Prop}(ok:(X.wish E).Ok):X.Ok:=
 ⟨ok.mod,ok.kind,ok.glob,ok.blt,ok.above,ok.inj,ok.has,ok.cab,ok.hd,ok.frames,ok.stk,ok.exf,ok.bs,ok.bsz,ok.noex,ok.exfs,ok.funs,ok.frf⟩
section
variable {X:Cx}{ag:List (ai×aH)}{σ:St}{H:Hp}{s:am}{E:aj→am→Prop}
def mC.wish (I:mC X ag σ H s) (E:aj→am→Prop):mC (X.wish E) ag σ H s:=⟨I.ok.wish E,I.os,I.bare,I.base,I.loc,I.cell,I.free,I.freeC,I.pin,I.cD,I.len⟩
def mC.unwish (I:mC (X.wish E) ag σ H s):mC X ag σ H s:=⟨I.ok.unwish,I.os,I.bare,I.base,I.loc,I.cell,I.free,I.freeC,I.pin,I.cD,I.len⟩
def SP.unwish (h:SP (X.wish E) ag D f s'):SP X ag D f s':=by
 cases f with
 |next=>obtain⟨σ',H',I,q⟩:=h;exact⟨σ',H',I.unwish,q⟩
 |brk=>obtain⟨σ',H',I,q⟩:=h;exact⟨σ',H',I.unwish,q⟩
 |cont=>obtain⟨σ',H',I,q⟩:=h;exact⟨σ',H',I.unwish,q⟩
 |ret u=>obtain⟨v,σ',H',I,r,q⟩:=h;exact⟨v,σ',H',I.unwish,r,q⟩
def PE.nox (h:PE X.nox e t):PE X e t:=λag s σ H Q I hw=>
 cm (h ag s σ H Q (I.wish _) hw) (λ_ _ ⟨v,H',I',r,q⟩=>⟨v,H',I'.unwish,r,q⟩) λ_ _ z=>cF z
def qF.nox{st:List aW}(h:qF X.nox st t):qF X st t:=λag s σ H D I hw=>
 cm (h ag s σ H D (I.wish _) hw) (λ_ _ q=>q.unwish) λ_ _ z=>cF z
end
def Kq:TS:=λD σ H=>D.nx σ H
def TQ (t u:TS):TS:=λD σ H=>t { D with nx:=u D } σ H
def uo:qF X [] Kq:=λ_ _ σ H _ I h=>fF ⟨σ,H,I,h⟩
def OU{X:Cx}{st:aW}{rest:List aW}{t u:TS}(h1:PS X st t) (h2:qF X rest u):qF X (st::rest) (TQ t u):=by
 intro ag s σ H D I h;refine mr (nG (h1 ag s σ H { D with nx:=u D } I h) λf s1 q=>?_);cases f with
 |next=>
  obtain⟨σ',H',I',q⟩:=q;exact h2 ag s1 σ' H' D I' q
 |ret v=>exact q
 |brk=>exact q
 |cont=>exact q
def Hz{X:Cx}{st:aW}{t:TS}(h1:PS X st t):qF X [st] t:=by
 intro ag s σ H D I h;refine mr (nG (h1 ag s σ H D I h) λf s1 q=>?_);cases f with
 |next=>exact fF q
 |ret v=>exact q
 |brk=>exact q
 |cont=>exact q
def uJ:PS X (.Pass pos) Kq:=λ_ _ σ H _ I h=>wpAny_Pass ⟨σ,H,I,h⟩
def mC.dO (I:mC X ag σ H s):interactive X.env=false:=by simp [interactive,I.ok.kind]
def Tq (te:TE):TS:=λD σ H=>te σ H λ_ H1=>D.nx σ H1
def Ua (he:PE X e te) (hs:d8 e none pos.line X.env=pure false):PS X (.Expr e pos) (Tq te):=by
 intro ag s σ H D I h;exact wpAny_Expr_any (nG (he ag s σ H _ I h) λv s1 ⟨x,H1,I1,r1,q1⟩=>⟨σ,H1,I1,q1⟩) I.dO hs
def SU (te:TE):TS:=λD σ H=>te σ H D.rt
def IP (he:PE X e te):PS X (.Return (aa e) pos) (SU te):=by
 intro ag s σ H D I h;exact wpAny_Return_some (nG (he ag s σ H _ I h) λv s1 ⟨x,H1,I1,r1,q1⟩=>⟨x,σ,H1,I1,r1,q1⟩)
def Xs:TS:=λD _ H=>D.rt .ci H
def uF:PS X (.Return none pos) Xs:=λ_ _ σ H _ I h=>wpAny_Return_none ⟨.ci,σ,H,I,rfl,h⟩
def SM (c:TT) (t u:TS):TS:=λD σ H=>c σ H λb H1=>if b=true then t D σ H1 else u D σ H1
def WD (hc:PT X c tc) (ha:qF X a t) (hb:qF X b u):PS X (.If c a b pos) (SM tc t u):=by
 intro ag s σ H D I h;refine wpAny_If (nG (hc ag s σ H _ I h) λd s1 ⟨H1,I1,q1⟩=>?_);cases d with
 |true=>exact ha ag s1 σ H1 D I1 q1
 |false=>exact hb ag s1 σ H1 D I1 q1
def QZ:TS:=λ_ _ _=>False
def tf{X:Cx}{st:aW}:PS X st QZ:=λ_ _ _ _ _ _ h=>h.elim
abbrev TG:=V→St→Hp→(St→Hp→Prop)→Prop
abbrev yH:=List V→St→Hp→(St→Hp→Prop)→Prop
def PG (X:Cx) (target:Expr) (t:TG):Prop:=
 ∀(ag:List (ai×aH)) (s:am) (σ:St) (H:Hp) (v:V) (u:aj) (Q:St→Hp→Prop),mC X ag σ H s→mZ v u→t v σ H Q→
  av (aB X.prog X.w) X.A (assign target X.env u) (λ_ s'=>∃σ' H',mC X ag σ' H' s'∧Q σ' H') X.xe s
def yw (X:Cx) (ts:List Expr) (t:yH):Prop:=
 ∀(ag:List (ai×aH)) (s:am) (σ:St) (H:Hp) (vs:List V) (us:List aj) (Q:St→Hp→Prop),mC X ag σ H s→mR vs us→t vs σ H Q→
  av (aB X.prog X.w) X.A (assignInOrder ((cb ts X.env).map (·.2)) us) (λ_ s'=>∃σ' H',mC X ag σ' H' s'∧Q σ' H') X.xe s
abbrev FT:=V→V→Hp→VK→Prop
def Kl (X:Cx) (op:Operator) (t:FT):Prop:=
 ∀(ag:List (ai×aH)) (s:am) (σ:St) (H:Hp) (x y:V) (v u:aj) (Q:VK),mC X ag σ H s→mZ x v→mZ y u→t x y H Q→
  av (aB X.prog X.w) X.A (inplaceOp op v u) (EP X ag σ Q) X.xe s
def EC (i:Nat):TG:=λv σ H Q=>Q (σ.set i (aa v)) H
def P2 (hN:X.N.Nodup) (hi:X.N[i]? =aa x) (hx:tp X.env.scope x) (hf:X.fn x=true∨X.env.scope.names.lookup x=aa .local:=by first |exact .inl rfl |exact .inr rfl |assumption):PG X (.Name x pos) (EC i):=by
 intro ag s σ H v u Q I r h;exact ky (EE I hN hi hx r (λs' I'=>⟨_,H,I',h⟩) hf)
def ZN:yH:=λvs σ H Q=>vs=[]∧Q σ H
def ZL (t:TG) (u:yH):yH:=λvs σ H Q=>∃v r,vs=v::r∧t v σ H λσ' H'=>u r σ' H' Q
def ZP:yw X [] ZN:=by
 intro ag s σ H vs us Q I r h;obtain⟨e,h⟩:=h;subst e;cases r;exact assignInOrder_nil ⟨σ,H,I,h⟩
def RD (h1:PG X e t) (h2:yw X es u)
  (hs:(cb (e::es) X.env).map (·.2)=assign e X.env::(cb es X.env).map (·.2)):yw X (e::es) (ZL t u):=by
 intro ag s σ H vs us Q I r h;obtain⟨v,vr,e1,h⟩:=h;subst e1;cases r with
 |cons r rr=>
  rw[hs];refine assignInOrder_cons (nG (h1 ag s σ H _ _ _ I r h) λ_ s1 ⟨σ1,H1,I1,q1⟩=>?_);exact h2 ag s1 σ1 H1 _ _ Q I1 rr q1
def Yo (K:ao) (n:Nat) (t:yH):TG:=λv σ H Q=>∃a xs,v= .ref a∧oZ K H a xs∧xs.length=n∧t xs σ H Q
def Ts (hc:X.calm=true) (h:yw X es t)
  (hn:(cb es X.env).length=n) (hst:(cb es X.env).findIdx? (·.1)=none):PG X (.Tuple es k pos) (Yo X.K n t):=by
 intro ag s σ H v u Q I r hw;obtain⟨a,xs,e1,hq,hl,hw⟩:=hw;subst e1;cases r;obtain⟨d5,rv,ht,hz⟩:=I.tuple hq;refine assign_Tuple_tuple (I.ok.hd hc) ht (by simp [hn,←hl,rv.length]) hst λh' hx=>?_;have I1:mC X ag σ H { s with heap:=h' }:=I.kept (t':=s.toks) λb o e=>hx b o (bR (aO e)) e;exact h ag _ σ H xs _ Q I1 (by simpa using rv) hw
def F6 (te:TE) (g:TG):TS:=λD σ H=>te σ H λx H1=>g x σ H1 D.nx
def V8 (he:PE X e te) (hg:PG X tg g) (hs:iP [tg] e pos.line X.env=pure false) (hw:jM [tg] e X.env=pure none)
  (h1:(cb [tg] X.env).map (·.2)=[assign tg X.env]):PS X (.Assign [tg] e pos) (F6 te g):=by
 intro ag s σ H D I h;refine wpAny_Assign_stores (nG (he ag s σ H _ I h) λv s1 ⟨x,H1,I1,r1,q1⟩=>?_) hs hw;rw[h1];exact nG (hg ag s1 σ H1 x v _ I1 r1 q1) λ_ s2 q=>q
def Wn (hN:X.N.Nodup) (hi:X.N[i]? =aa x) (hx:tp X.env.scope x) (he:PE X e te) (hs:d8 e (aa (.Name x pos')) pos.line X.env=pure false) (hf:X.fn x=true∨X.env.scope.names.lookup x=aa .local:=by first |exact .inl rfl |exact .inr rfl |assumption) :
  PS X (.Assign [.Name x pos'] e pos) (F6 te (EC i)):=by
 intro ag s σ H D I h;refine wpAny_Assign_Name (nG (he ag s σ H _ I h) λv s1 ⟨y,H1,I1,r1,q1⟩=>?_) hs;exact EE I1 hN hi hx r1 (λs2 I2=>⟨_,H1,I2,q1⟩) hf
def YT (i:Nat) (te:TE) (ti:FT):TS:=λD σ H=>∃x,σ[i]? =aa (aa x)∧te σ H λy H1=>ti x y H1 λz H2=>D.nx (σ.set i (aa z)) H2
def Uy (hN:X.N.Nodup) (hi:X.N[i]? =aa x) (hx:tp X.env.scope x) (he:PE X e te) (ho:Kl X op ti) (hf:X.fn x=true∨X.env.scope.names.lookup x=aa .local:=by first |exact .inl rfl |exact .inr rfl |assumption) :
  PS X (.AugAssign (.Name x pos') op e pos) (YT i te ti):=by
 intro ag s σ H D I h;obtain⟨v,e1,h⟩:=h;obtain⟨m,hn,hl⟩:=I.loc;have vis:vF X.env.scope x:=by obtain k |k:=hx;exact .inl k;exact .inr (.inl k)
 obtain⟨u,r,l⟩:=hl i x v hi e1 vis;refine wpAny_AugAssign_Name ?_;have go:av (aB X.prog X.w) X.A (aG e X.env) (λw s₂=>av (aB X.prog X.w) X.A (inplaceOp op u w) (λr s₃=>av (aB X.prog X.w) X.A (i0 X.env x r) (λ_=>SP X ag D .next) X.xe s₃) X.xe s₂) X.xe s:=by
  refine nG (he ag s σ H _ I h) λw s1 ⟨y,H1,I1,r1,q1⟩=>?_;refine nG (ho ag s1 σ H1 v y u w _ I1 r r1 q1) λz s2 ⟨zv,H2,I2,r2,q2⟩=>?_;exact EE I2 hN hi hx r2 (λs3 I3=>⟨_,H2,I3,q2⟩) hf
 obtain ⟨hk,hm⟩ |⟨hk,c,hc,hcell⟩:=l
 ·exact lD I.ok.kind hk hn hm go
 ·obtain hk |hk:=hk
  ·exact lr I.ok.kind hk hc hcell go
  ·obtain k |k:=hx
   ·have:X.env.scope.names.lookup x=aa .free:=hk;rw[k]at this;cases this
   ·have:X.env.scope.names.lookup x=aa .free:=hk;rw[k]at this;cases this
noncomputable def Zt (f:Int→Int→Int):FT:=λx y H Q=>∃i j,x= .int i∧y= .int j∧Q (.int (f i j)) H
def QL:Kl X .Add (Zt λi j=>i+j):=by
 intro ag s σ H x y v u Q I r1 r2 h;obtain⟨i,j,e1,e2,q⟩:=h;subst e1;subst e2;obtain⟨t,rfl⟩:=r1;obtain⟨t',rfl⟩:=r2;exact iadd_int ⟨.int _,H,I.tok _,⟨_,rfl⟩,q⟩
def Ya (c:TT) (tb:TS):TS:=λD σ H=>∃W:Nat→St→Hp→Prop,(∃m,W m σ H)∧ ∀m σ H,W m σ H→
 c σ H λb H1=>if b=true then ∃N:St→Hp→Prop,(∀σ' H',N σ' H'→ ∃m',m'<m∧W m' σ' H')∧tb { D with nx:=N,ct:=N,bk:=D.nx } σ H1 else D.nx σ H1
def P5 (hp:dc (aB X.prog X.w) X.A X.env X.xe) (hc:PT X c tc) (hb:qF X body tb):PS X (.While c body [] pos) (Ya tc tb):=by
 intro ag s σ H D I h;obtain⟨W,⟨m0,w0⟩,turn⟩:=h;refine wpAny_While (codeAny_whileLoop (λn s'=>∃σ' H',mC X ag σ' H' s'∧W n σ' H') ?_ m0 ⟨σ,H,I,w0⟩);rintro n s1 ⟨σ1,H1,I1,w1⟩;refine ef hp (nG (hc ag s1 σ1 H1 _ I1 (turn n σ1 H1 w1)) λb s2 ⟨H2,I2,q2⟩=>?_);cases b with
 |true=>
  obtain⟨N,hN,q2⟩:=q2;rw[if_pos rfl];refine ef hp (nG (hb ag s2 σ1 H2 _ I2 q2) λf s3 q3=>?_);cases f with
  |next=>
   obtain⟨σ3,H3,I3,n3⟩:=q3;obtain⟨m',hm,w3⟩:=hN σ3 H3 n3;exact⟨m',hm,σ3,H3,I3,w3⟩
  |cont=>
   obtain⟨σ3,H3,I3,n3⟩:=q3;obtain⟨m',hm,w3⟩:=hN σ3 H3 n3;exact⟨m',hm,σ3,H3,I3,w3⟩
  |brk=>exact q3
  |ret v=>exact q3
 |false=>
  rw[if_neg cW];exact fF ⟨σ1,H2,I2,q2⟩
structure It where
  go:Nat→Hp→Prop
  yld:Nat→Hp→V→Hp→Prop
  stop:Nat→Hp→Prop
def qL (X:Cx) (ag:List (ai×aH)) (H:Hp) (b:ai):Prop:=
 H b=none∧b≠X.env.locals∧b∉X.fs∧(b∈X.ex∨X.s₀.heap.objs.size≤b)∧(∀x c,X.env.cells.lookup x=aa c→c≠b)∧ ∀p∈X.pn++ag,p.1≠b
def mC.fpOk (I:mC X ag σ H s) (hb:s.heap.objs.size≤b) (hn:H' b=none):qL X ag H' b:=by
 refine⟨hn,cV (bY I.lt hb),I.nofs hb, .inr (aY I.sz hb),λx c e z=>?_,λp hp z=>?_⟩
 ·obtain⟨v,q⟩:=I.cell x c e;exact absurd (bY q.lt (by rw[z];exact hb)) (cR _)
 ·exact absurd (bY (aO (I.pin p hp).1) (by rw[z];exact hb)) (cR _)
structure rD (P:bg) (w:aS) (K:ao) (tg:Expr) (J:It) (fp:List ai) (it:ai) (tn:Nat→aE→Prop):Prop where
  mem:it∈fp
  obj:∀i h,tn i h→ ∀b∈fp,∃o,h.get? b=aa o∧ ∀v,o.data≠ .cell v
  keep:∀i h h',tn i h→(∀b∈fp,∀o,h.get? b=aa o→h'.get? b=aa o)→tn i h'
  item:∀(X:Cx),X.prog=P→X.w=w→X.K=K→X.calm=true→ ∀(i:Nat) (ag:List (ai×aH)) (s:am) (σ:St) (H:Hp) (E:aj→am→Prop),mC X ag σ H s→(∀b∈fp,qL X ag H b)→tn i s.heap→J.go i H→
    av (aB P w) X.A (cq (.ref it)) (λr s1=>∃u,r=aa u∧
      av (aB P w) X.A (gP tg (.ref it) u) (λ_ s2=>∃x H',mC X ag σ H' s2∧mZ x u∧J.yld i H x H'∧tn (i+1) s2.heap∧ ∀b∈fp,H' b=none) E s1) E s
  done:∀(X:Cx),X.prog=P→X.w=w→X.K=K→X.calm=true→ ∀(i:Nat) (ag:List (ai×aH)) (s:am) (σ:St) (H:Hp) (E:aj→am→Prop),mC X ag σ H s→(∀b∈fp,qL X ag H b)→tn i s.heap→J.stop i H→
    av (aB P w) X.A (cq (.ref it)) (λr s1=>r=none∧mC X ag σ H s1) E s
  self:∀(A:bt) (i:Nat) (s:am) (Q:aj→am→Prop) (E:aj→am→Prop),tn i s.heap→Q (.ref it) s→av (aB P w) A (dL (.ref it)) Q E s
abbrev TI:=St→Hp→(It→Hp→Prop)→Prop
def GS (X:Cx) (ag:List (ai×aH)) (σ:St) (tg:Expr) (R:It→Hp→Prop) (itv:aj) (s2:am):Prop:=
 ∃(it:ai) (fp:List ai) (tn:Nat→aE→Prop) (J:It) (H':Hp),itv= .ref it∧mC X ag σ H' s2∧rD X.prog X.w X.K tg J fp it tn∧tn 0 s2.heap∧(∀b∈fp,qL X ag H' b)∧R J H'
def PI (X:Cx) (tg iter:Expr) (wi:TI):Prop:=
 ∀(ag:List (ai×aH)) (s:am) (σ:St) (H:Hp) (R:It→Hp→Prop),mC X ag σ H s→wi σ H R→
  av (aB X.prog X.w) X.A (aG iter X.env) (λv s1=>av (aB X.prog X.w) X.A (dL v) (GS X ag σ tg R) X.xe s1) X.xe s
def Bk{E:aj→am→Prop}{Q:Unit→am→Prop}(ho:s.heap.get? it=aa o) (hc:o.cls= .type n) (hd:o.data= .fields vs)
    (hn: ["enumerate", "zip", "dict_itemiterator", "dict_reverseitemiterator", "odict_iterator", "itertools.zip_longest", "itertools.pairwise"].contains n=false) (hQ:Q () s):av M A (gP tg (.ref it) u) Q E s:=by
  unfold gP;cases tg<;>first
    |exact aM hQ
    | (cases u<;>first
        |exact aM hQ
        | (refine au (wpAny_load ho ?_)
           rw[hc,hd];show av M A (if(["enumerate", "zip", "dict_itemiterator", "dict_reverseitemiterator", "odict_iterator", "itertools.zip_longest", "itertools.pairwise"].contains n&&vs[0]? == aa (cJ _))=true then _ else _) Q E s;rw[if_neg (by intro h;rw[hn,Bool.false_and]at h;cases h)];exact aM hQ))
noncomputable def BM (K:ao) (a:ai):It:=
 ⟨λi H=>∃xs x,oJ K H a xs∧xs[i]? =aa x,λi H x H'=>H'=H∧ ∀xs,oJ K H a xs→xs[i]? =aa x,λi H=>∃xs,oJ K H a xs∧xs.length≤i⟩
noncomputable def EY (K:ao) (a:ai):It:=
 ⟨λi H=>∃xs x,oZ K H a xs∧xs[i]? =aa x,λi H x H'=>H'=H∧ ∀xs,oZ K H a xs→xs[i]? =aa x,λi H=>∃xs,oZ K H a xs∧xs.length≤i⟩
noncomputable def Bw (lo:Int) (n:Nat):It:=⟨λi _=>i<n,λi H x H'=>H'=H∧x= .int (lo+i),λi _=>n≤i⟩
def Ji{K:ao}(a it:ai):rD P w K tg (BM K a) [it] it (λi h=>h.IsListIter it a i) where
  mem:=by simp
  obj:=λi h st b hb=>by
    have e:b=it:=by simpa using hb
    subst e;obtain⟨o,e,c,d⟩:=st;exact⟨o,e,λv z=>by rw[d]at z;cases z⟩
  keep:=λi h h' st k=>st.at λo e=>k it (by simp) o e
  item:=by
    intro X hP hw hK hc i ag s σ H E I hf st hg;subst hP hw hK;obtain⟨xs,x,hq,hx⟩:=hg;obtain⟨d5,rv,p,hz⟩:=I.list hq;obtain⟨u,hu,ru⟩:=rv.get hx;obtain⟨f0,f1,f2,f3,f4,f5⟩:=hf it (by simp);refine wpAny_pyNext_list_item st p.isList (x:=u) (by simpa using hu) λh' st' sb=>?_;have I1:mC X ag σ H { s with heap:=h' }:=I.turned (t':=s.toks) (λb o hb e=>(sb.2 b hb).trans e) f0 f1 f3 f4 f5;obtain⟨o,e,c,d⟩:=id st';exact⟨u,rfl,Bk (s:={ s with heap:=h' }) e c d (by decide) ⟨x,H,I1,ru,⟨rfl,λys hy=>by rw[I.list_inj hy hq];exact hx⟩,st',λb hb=>(hf b hb).1⟩⟩
  done:=by
    intro X hP hw hK hc i ag s σ H E I hf st hg;subst hP hw hK;obtain⟨xs,hq,hx⟩:=hg;obtain⟨d5,rv,p,hz⟩:=I.list hq;obtain⟨f0,f1,f2,f3,f4,f5⟩:=hf it (by simp);have hl:=rv.length;exact wpAny_pyNext_list_end (I.ok.hd hc) st p.isList (by simp;lia) λh' eb=>⟨rfl,I.turned (t':=s.toks) (λb o hb e=>eb b o hb e) f0 f1 f3 f4 f5⟩
  self:=λ_ _ _ _ _ st h=>wpAny_pyIter_listiter st h
def O0{K:ao}(a it:ai):rD P w K tg (EY K a) [it] it (λi h=>h.IsTupleIter it a i) where
  mem:=by simp
  obj:=λi h st b hb=>by
    have e:b=it:=by simpa using hb
    subst e;obtain⟨o,e,c,d⟩:=st;exact⟨o,e,λv z=>by rw[d]at z;cases z⟩
  keep:=λi h h' st k=>st.at λo e=>k it (by simp) o e
  item:=by
    intro X hP hw hK hc i ag s σ H E I hf st hg;subst hP hw hK;obtain⟨xs,x,hq,hx⟩:=hg;obtain⟨d5,rv,p,hz⟩:=I.tuple hq;obtain⟨u,hu,ru⟩:=rv.get hx;obtain⟨f0,f1,f2,f3,f4,f5⟩:=hf it (by simp);refine wpAny_pyNext_tuple_item st (show s.heap.IsTuple a d5.toArray from p) (x:=u) (by simpa using hu) λh' st' sb=>?_;have I1:mC X ag σ H { s with heap:=h' }:=I.turned (t':=s.toks) (λb o hb e=>(sb.2 b hb).trans e) f0 f1 f3 f4 f5;obtain⟨o,e,c,d⟩:=id st';exact⟨u,rfl,Bk (s:={ s with heap:=h' }) e c d (by decide) ⟨x,H,I1,ru,⟨rfl,λys hy=>by rw[I.tuple_inj hy hq];exact hx⟩,st',λb hb=>(hf b hb).1⟩⟩
  done:=by
    intro X hP hw hK hc i ag s σ H E I hf st hg;subst hP hw hK;obtain⟨xs,hq,hx⟩:=hg;obtain⟨d5,rv,p,hz⟩:=I.tuple hq;obtain⟨f0,f1,f2,f3,f4,f5⟩:=hf it (by simp);have hl:=rv.length;exact wpAny_pyNext_tuple_end (I.ok.hd hc) st (show s.heap.IsTuple a d5.toArray from p) (by simp;lia) λh' eb=>⟨rfl,I.turned (t':=s.toks) (λb o hb e=>eb b o hb e) f0 f1 f3 f4 f5⟩
  self:=λ_ _ _ _ _ st h=>wpAny_pyIter_tupleiter st h
def YX{K:ao}(it:ai) (lo:Int) (n:Nat):rD P w K tg (Bw lo n) [it] it (λi h=>IsRangeIter h it (lo+(i:Nat)*1) ((n:Int) - (i:Nat)) 1) where
  mem:=by simp
  obj:=λi h st b hb=>by
    have e:b=it:=by simpa using hb
    subst e;exact⟨_,st,λv z=>by
      have z':Data.fields _=Data.cell v:=z;cases z'⟩
  keep:=λi h h' st k=>k it (by simp) _ st
  item:=by
    intro X hP hw hK hc i ag s σ H E I hf st hg;subst hP hw hK;obtain⟨f0,f1,f2,f3,f4,f5⟩:=hf it (by simp);have W:=Walks.range (prog:=X.prog) (w:=X.w) (I.ok.hd hc) it lo 1 n;refine W.item i s _ _ hg st λv h' tk hv st' kk=>?_;obtain⟨t,rfl⟩:=hv;have I1:mC X ag σ H { s with heap:=h',toks:=tk }:=I.turned (λb o hb e=>kk b o (by simpa using hb) e) f0 f1 f3 f4 f5;refine⟨_,rfl,Bk (s:={ s with heap:=h',toks:=tk }) (n:= "range_iterator") st' rfl rfl (by decide) ⟨.int (lo+i),H,I1,⟨t,?_⟩,⟨rfl,rfl⟩,st',λb hb=>(hf b hb).1⟩⟩;rw[Int.mul_one]
  done:=by
    intro X hP hw hK hc i ag s σ H E I hf st hg;subst hP hw hK;obtain⟨f0,f1,f2,f3,f4,f5⟩:=hf it (by simp);exact wpAny_pyNext_range_end (I.ok.hd hc) st (by have:n≤i:=hg;lia) λh' eb=>⟨rfl,I.turned (t':=s.toks) (λb o hb e=>eb b o hb e) f0 f1 f3 f4 f5⟩
  self:=λ_ _ _ _ _ st h=>wpAny_pyIter_rangeiter st h
def UB (K:ao) (tl:TE):TI:=λσ H R=>tl σ H λx H1=>∃a,x= .ref a∧(∃xs,oJ K H1 a xs)∧R (BM K a) H1
def R7 (hl:PE X l tl):PI X tg l (UB X.K tl):=by
 intro ag s σ H R I h;refine nG (hl ag s σ H _ I h) λv s1 ⟨x,H1,I1,r1,q1⟩=>?_;obtain⟨a,e,⟨xs,hq⟩,q⟩:=q1;subst e;cases r1;obtain⟨d5,rv,p,hz⟩:=I1.list hq;refine fv p.isList ?_;refine⟨s1.heap.objs.size,[s1.heap.objs.size],_,_,H1,rfl,I1.kept (t':=s1.toks) λb o e=>aP _ e,Ji a _,⟨_,bI _ rfl,rfl,rfl⟩,λb hb=>?_,q⟩;have e:b=s1.heap.objs.size:=by simpa using hb
 subst e;exact I1.fpOk (aA _) (I1.cD.fresh (aA _))
def Za{R:It→Hp→Prop}{E:aj→am→Prop}{lo hi:Int}{t u v:Tok}{tk:Nat}(I:mC X ag σ H s) (h1: -(2 ^ 62)≤lo) (h2:lo<2 ^ 62) (h3: -(2 ^ 62)≤hi) (h4:hi<2 ^ 62)
  (q:R (Bw lo (hi - lo).toNat) H):av (aB X.prog X.w) X.A (dL (.ref s.heap.objs.size)) (GS X ag σ tg R) E { s with heap:=s.heap.push { cls:= .type "range",data:= .fields #[.int lo t, .int hi u, .int 1 v] },toks:=tk }:=by
 refine wpAny_pyIter_range (IsRange.new ..) (small_one h1 h2 h3 h4) ?_;have I1:mC X ag σ H { s with heap:=s.heap.push { cls:= .type "range",data:= .fields #[.int lo t, .int hi u, .int 1 v] },toks:=tk }:=I.kept λb o e=>aP _ e;refine⟨(s.heap.push { cls:= .type "range",data:= .fields #[.int lo t, .int hi u, .int 1 v] }).objs.size,[(s.heap.push { cls:= .type "range",data:= .fields #[.int lo t, .int hi u, .int 1 v] }).objs.size],_,_,H,rfl,
  I1.kept (t':=tk) λb o e=>aP _ e,YX _ lo (hi - lo).toNat,?_,λb hb=>?_,q⟩
 ·have e1:lo+((0:Nat):Int)*1=lo:=by simp
  have e2:(((hi - lo).toNat:Nat):Int) - ((0:Nat):Int)=cC.Range.rangeSize lo hi 1:=by rw[rangeSize_one];split<;>lia
  show IsRangeIter _ _ (lo+((0:Nat):Int)*1) ((((hi - lo).toNat:Nat):Int) - ((0:Nat):Int)) 1;rw[e1,e2];exact bI _ rfl
 ·have e:b=(s.heap.push { cls:= .type "range",data:= .fields #[.int lo t, .int hi u, .int 1 v] }).objs.size:=by simpa using hb
  subst e;exact I1.fpOk (aA _) (I1.cD.fresh (aA _))
def UW (ta:TA):TI:=λσ H R=>ta σ H λvs H1=>∃j:Int,vs=[.int j]∧ -(2 ^ 62)≤j∧j<2 ^ 62∧R (Bw 0 j.toNat) H1
def P9 (hg:Gl X "range") (hm:X.mg "range" =none) (ha:PA X [a] ta) (hs:ax [a] X.env=[(false,aG a X.env)]):PI X tg (.Call (.Name "range" p) [a] [] pos) (UW ta):=by
 intro ag s σ H R I h;refine Call_ (wK I hg hm boot_range (ib (nG (ha pos ag s σ H _ I h) λus s1 ⟨vs,H1,I1,r1,q1⟩=>?_) hs rfl));obtain⟨j,e,q1,q2,q⟩:=q1;subst e;cases r1 with
 |cons r rr=>
  cases rr;obtain⟨t,rfl⟩:=r;exact call_range_1 (Za I1 (by lia) (by lia) q1 q2 (by simpa using q))
def Z3 (wi:TI) (g:TG) (tb:TS):TS:=λD σ H=>wi σ H λJ H1=>∃W:Nat→Nat→St→Hp→Prop,(∃m,W 0 m σ H1)∧ ∀i m σ H,W i m σ H→
 (J.stop i H∧D.nx σ H)∨(J.go i H∧ ∃N:St→Hp→Prop,(∀σ' H',N σ' H'→ ∃m',m'<m∧W (i+1) m' σ' H')∧ ∀x H',J.yld i H x H'→g x σ H' λσ2 H2=>tb { D with nx:=N,ct:=N,bk:=D.nx } σ2 H2)
noncomputable def yK (fp:List ai) (h:aE):List (ai×aH):=fp.filterMap λb=>(h.get? b).map λo=>(b,o)
def Ax (hb:b∈fp) (e:h.get? b=aa o):(b,o)∈yK fp h:=i8.mpr ⟨b,hb,by rw[e];rfl⟩
def Q4 (hp:p∈yK fp h):p.1∈fp∧h.get? p.1=aa p.2:=by
 obtain⟨b,hb,e⟩:=i8.mp hp;cases q:h.get? b with
 |none=>rw[q]at e;cases e
 |some o=>
  rw[q]at e;have e':(b,o)=p:=aK e;subst e';exact⟨hb,q⟩
def mC.pinned (I:mC X ag σ H s) (hf:∀b∈fp,qL X ag H b) (ho:∀b∈fp,∃o,s.heap.get? b=aa o∧ ∀v,o.data≠ .cell v):mC X (ag++yK fp s.heap) σ H s:=
 I.pins_of λp hp=>(bn.mp hp).elim (λz=>I.pin p (cp _ z)) λz=>by
  obtain⟨hb,e⟩:=Q4 z;obtain⟨f0,f1,f2,_⟩:=hf p.1 hb;obtain⟨o,e',d⟩:=ho p.1 hb;rw[e]at e';cases e';exact⟨e,f0,f1,f2,d⟩
def mC.unpinned (I:mC X (ag++pl) σ H s):mC X ag σ H s:=I.pins_of λp hp=>I.pin p (cp _ (dX _ hp))
def Vx (hp:dc (aB X.prog X.w) X.A X.env X.xe) (hc:X.calm=true) (hi:PI X tg iter wi) (hg:PG X tg g) (hb:qF X body tb)
  (hs:∀x,dw iter X.env x=pure x):PS X (.For tg iter body [] pos) (Z3 wi g tb):=by
 intro ag s σ H D I h;refine wpAny_For (nG (hi ag s σ H _ I h) λv s1 h1=>nG h1 λitv s2 h2=>?_) hs;obtain⟨it,fp,tn,J,H2,e,I2,T,st2,f2,W,⟨m0,w0⟩,turn⟩:=h2;subst e;have stat:∀{H':Hp},(∀b∈fp,H' b=none)→ ∀b∈fp,qL X ag H' b:=λhn b hb=>⟨hn b hb,(f2 b hb).2⟩;refine codeAny_forLoop_any (λn s'=>∃i σ' H',mC X ag σ' H' s'∧tn i s'.heap∧(∀b∈fp,H' b=none)∧W i n σ' H') ?_ m0 ⟨0,σ,H2,I2,st2,λb hb=>(f2 b hb).1,w0⟩;rintro n s3 ⟨i,σ3,H3,I3,st3,fr3,w3⟩;obtain ⟨stop,qn⟩ |⟨go,N,hN,step⟩:=turn i n σ3 H3 w3
 ·refine ef hp (nG (T.done X rfl rfl rfl hc i ag s3 σ3 H3 X.xe I3 (stat fr3) st3 stop) λr s4 ⟨hr,I4⟩=>?_);subst hr;exact fF ⟨σ3,H3,I4,qn⟩
 ·refine ef hp (nG (T.item X rfl rfl rfl hc i ag s3 σ3 H3 X.xe I3 (stat fr3) st3 go) λr s4 ⟨u,hr,h4⟩=>?_);subst hr;refine ef hp (nG h4 λ_ s5 ⟨x,H5,I5,r5,y5,st5,fr5⟩=>?_);have I5':=I5.pinned (stat fr5) (T.obj _ _ st5);refine ef hp (nG (hg _ s5 σ3 H5 x u _ I5' r5 (step x H5 y5)) λ_ s6 ⟨σ6,H6,I6,q6⟩=>?_);refine ef hp (nG (hb _ s6 σ6 H6 _ I6 q6) λf s7 q7=>?_);have again:∀{σ7:St}{H7:Hp},mC X (ag++yK fp s5.heap) σ7 H7 s7→N σ7 H7→ ∃m,m<n∧ ∃i σ' H',mC X ag σ' H' s7∧tn i s7.heap∧(∀b∈fp,H' b=none)∧W i m σ' H':=λ{σ7 H7} I7 n7=>by
   obtain⟨m',hm,w7⟩:=hN σ7 H7 n7;refine⟨m',hm,i+1,σ7,H7,I7.unpinned,T.keep _ _ _ st5 λb hb o e=>(I7.pin (b,o) (cp _ (cp _ (Ax hb e)))).1,λb hb=>?_,w7⟩;obtain⟨o,e,d⟩:=T.obj _ _ st5 b hb;exact(I7.pin (b,o) (cp _ (cp _ (Ax hb e)))).2.1
  cases f with
  |next=>obtain⟨σ7,H7,I7,n7⟩:=q7;exact again I7 n7
  |cont=>obtain⟨σ7,H7,I7,n7⟩:=q7;exact again I7 n7
  |brk=>obtain⟨σ7,H7,I7,q7⟩:=q7;exact⟨σ7,H7,I7.unpinned,q7⟩
  |ret v=>obtain⟨x7,σ7,H7,I7,r7,q7⟩:=q7;exact⟨x7,σ7,H7,I7.unpinned,r7,q7⟩
abbrev R2:=V→V→Hp→VK→Prop
def oh (X:Cx) (f:aj→aj→ce aj) (r:R2):Prop:=
 ∀(ag:List (ai×aH)) (s:am) (σ:St) (H:Hp) (x y:V) (v u:aj) (Q:VK),mC X ag σ H s→mZ x v→mZ y u→r x y H Q→
  av (aB X.prog X.w) X.A (f v u) (EP X ag σ Q) X.xe s
def Du (X:Cx) (f:aj→ce aj) (r:V→Hp→VK→Prop):Prop:=
 ∀(ag:List (ai×aH)) (s:am) (σ:St) (H:Hp) (x:V) (v:aj) (Q:VK),mC X ag σ H s→mZ x v→r x H Q→
  av (aB X.prog X.w) X.A (f v) (EP X ag σ Q) X.xe s
def nO (X:Cx) (f:aj) (r:List V→Hp→VK→Prop):Prop:=
 ∀(ag:List (ai×aH)) (s:am) (σ:St) (H:Hp) (xs:List V) (us:List aj) (Q:VK),mC X ag σ H s→mR xs us→r xs H Q→
  av (aB X.prog X.w) X.A (call f us) (EP X ag σ Q) X.xe s
def QH (X:Cx) (r:V→Hp→(Bool→Hp→Prop)→Prop):Prop:=
 ∀(ag:List (ai×aH)) (s:am) (σ:St) (H:Hp) (x:V) (v:aj) (Q:Bool→Hp→Prop),mC X ag σ H s→mZ x v→r x H Q→
  av (aB X.prog X.w) X.A (truthy v) (TP X ag σ Q) X.xe s
def Cd (r:R2) (ta tb:TE):TE:=λσ H Q=>ta σ H λx H1=>tb σ H1 λy H2=>r x y H2 Q
def PU (r:V→Hp→VK→Prop) (ta:TE):TE:=λσ H Q=>ta σ H λx H1=>r x H1 Q
def rI (C:Int→Int→Prop) (g:Int→Int→V):R2:=λx y H Q=>∃i j,x= .int i∧y= .int j∧C i j∧Q (g i j) H
def rY (g:Int→Int→V):R2:=λx y H Q=>∃i j,x= .int i∧y= .int j∧Q (g i j) H
def rU (g:Int→V):V→Hp→VK→Prop:=λx H Q=>∃i,x= .int i∧Q (g i) H
def FO (ha:PE X a ta) (hb:PE X b tb) {R:V→V→Hp→Prop}(I:mC X ag σ H s)
  (h:ta σ H λx H1=>tb σ H1 λy H2=>R x y H2) {Q:aj→am→Prop}{f:aj→aj→ce aj}
  (hf:∀v u s2 x y H2,mC X ag σ H2 s2→mZ x v→mZ y u→R x y H2→av (aB X.prog X.w) X.A (f v u) Q X.xe s2) :
  av (aB X.prog X.w) X.A (aG a X.env) (λv s₁=>av (aB X.prog X.w) X.A (aG b X.env) (λu s₂=>av (aB X.prog X.w) X.A (f v u) Q X.xe s₂) X.xe s₁) X.xe s:=by
 refine nG (ha ag s σ H _ I h) λv s1 ⟨x,H1,I1,r1,q1⟩=>?_;refine nG (hb ag s1 σ H1 _ I1 q1) λu s2 ⟨y,H2,I2,r2,q2⟩=>?_;exact hf v u s2 x y H2 I2 r1 r2 q2
def z9 (ho:oh X (ca op) r) (ha:PE X a ta) (hb:PE X b tb):PE X (.BinOp a op b pos) (Cd r ta tb):=by
 intro ag s σ H Q I h;exact wpAny_BinOp (FO ha hb I h λv u s2 x y H2 I2 rx ry q=>ho ag s2 σ H2 x y v u Q I2 rx ry q)
def Y'{r:V→Hp→VK→Prop}(ho:Du X (unaryOp op) r) (ha:PE X a ta):PE X (.UnaryOp op a pos) (PU r ta):=by
 intro ag s σ H Q I h;exact iy (nG (ha ag s σ H _ I h) λv s1 ⟨x,H1,I1,r1,q1⟩=>ho ag s1 σ H1 x v Q I1 r1 q1)
def CD{f:aj→aj→ce aj}{C:Int→Int→Prop}{g:Int→Int→Int}
  (rule:∀(i j:Int) (t u:Tok) (s:am) (Q:aj→am→Prop) (E:aj→am→Prop),C i j→Q (.int (g i j) s.toks) { s with toks:=s.toks+1 }→av (aB X.prog X.w) X.A (f (.int i t) (.int j u)) Q E s) :
  oh X f (rI C λi j=> .int (g i j)):=by
 intro ag s σ H x y v u Q I rx ry h;obtain⟨i,j,rfl,rfl,hc,q⟩:=h;obtain⟨t,rfl⟩:=rx;obtain⟨t',rfl⟩:=ry;exact rule i j t t' s _ _ hc ⟨.int (g i j),H,I.tok _,⟨_,rfl⟩,q⟩
def Ox{f:aj→aj→ce aj}{g:Int→Int→Int}
  (rule:∀(i j:Int) (t u:Tok) (s:am) (Q:aj→am→Prop) (E:aj→am→Prop),Q (.int (g i j) s.toks) { s with toks:=s.toks+1 }→av (aB X.prog X.w) X.A (f (.int i t) (.int j u)) Q E s) :
  oh X f (rY λi j=> .int (g i j)):=by
 intro ag s σ H x y v u Q I rx ry h;obtain⟨i,j,rfl,rfl,q⟩:=h;obtain⟨t,rfl⟩:=rx;obtain⟨t',rfl⟩:=ry;exact rule i j t t' s _ _ ⟨.int (g i j),H,I.tok _,⟨_,rfl⟩,q⟩
def Ay{f:aj→aj→ce aj}{g:Int→Int→Bool}
  (rule:∀(i j:Int) (t u:Tok) (s:am) (Q:aj→am→Prop) (E:aj→am→Prop),Q (.bool (g i j)) s→av (aB X.prog X.w) X.A (f (.int i t) (.int j u)) Q E s) :
  oh X f (rY λi j=> .bl (g i j)):=by
 intro ag s σ H x y v u Q I rx ry h;obtain⟨i,j,rfl,rfl,q⟩:=h;obtain⟨t,rfl⟩:=rx;obtain⟨t',rfl⟩:=ry;exact rule i j t t' s _ _ ⟨.bl (g i j),H,I,rfl,q⟩
def sM (i j:Int):Prop:=0<j∧j<1073741824
def Cw (i j:Int):Prop:=0≤j∧j≤1000000∧i.natAbs<2 ^ 64
def rp (i j:Int):Prop:=(-(2 ^ 64)<i∧i<2 ^ 64)∨(-(2 ^ 64)<j∧j<2 ^ 64)
def rp.ok (h:rp i j):IntMulOk i j:=by
 obtain ⟨h1,h2⟩ |⟨h1,h2⟩:=h
 ·exact .of_left (intBits_le_64 h1 h2)
 ·exact .of_right (intBits_le_64 h1 h2)
def vL:oh X (ca .Add) (rY λi j=> .int (i+j)):=Ox λ_ _ _ _ _ _ _ q=>add_int q
def TH:oh X (ca .Sub) (rY λi j=> .int (i - j)):=Ox λ_ _ _ _ _ _ _ q=>sub_int q
def UL:oh X (ca .Mult) (rI rp λi j=> .int (i*j)):=CD λ_ _ _ _ _ _ _ hc q=>mul_int q hc.ok
def RM:oh X (ca .FloorDiv) (rI sM λi j=> .int (i / j)):=CD λi j _ _ _ _ _ hc q=>by
 have h1:(0:Int)<j:=hc.1;have h2:j<1073741824:=hc.2;exact floordiv_int (by lia) (by rw[Int.fdiv_eq_ediv_of_nonneg i (by lia)];exact q) (.inl (PyProof.noPylong_small (by lia)))
def T9:oh X (ca .Mod) (rI (λ_ j=>0<j) λi j=> .int (i % j)):=CD λi j _ _ _ _ _ hc q=>by
 have h1:(0:Int)<j:=hc;exact mod_int' (by lia) (by rw[Int.fmod_eq_emod_of_nonneg i (by lia)];exact q)
def Sj:oh X (ca .Pow) (rI Cw λi j=> .int (i ^ j.toNat)):=CD λ_ _ _ _ _ _ _ hc q=>pow_int_small hc.1 hc.2.1 hc.2.2 q
def VX{f:aj→ce aj}{g:Int→Int}
  (rule:∀(i:Int) (t:Tok) (s:am) (Q:aj→am→Prop) (E:aj→am→Prop),Q (.int (g i) s.toks) { s with toks:=s.toks+1 }→av (aB X.prog X.w) X.A (f (.int i t)) Q E s) :
  Du X f (rU λi=> .int (g i)):=by
 intro ag s σ H x v Q I rx h;obtain⟨i,rfl,q⟩:=h;obtain⟨t,rfl⟩:=rx;exact rule i t s _ _ ⟨.int (g i),H,I.tok _,⟨_,rfl⟩,q⟩
def ZE:Du X (unaryOp .USub) (rU λi=> .int (-i)):=VX λ_ _ _ _ _ q=>neg_int q
def x_ (I:mC X ag σ H s) (q:Q (.bl k) H) (e:k=k'):EP X ag σ Q (.bool k') s:=by
 subst e;exact⟨.bl k,H,I,rfl,q⟩
def V9:oh X (bB .Lt) (rY λi j=> .bl (decide (i<j))):=Ay λ_ _ _ _ _ _ _ q=>lt_int q
def sT:oh X (bB .LtE) (rY λi j=> .bl (decide (i≤j))):=Ay λ_ _ _ _ _ _ _ q=>le_int q
def Qw:oh X (bB .Gt) (rY λi j=> .bl (decide (j<i))):=Ay λ_ _ _ _ _ _ _ q=>gt_int q
def Qt:oh X (bB .GtE) (rY λi j=> .bl (decide (j≤i))):=Ay λ_ _ _ _ _ _ _ q=>ge_int q
def rO:oh X (bB .In) (λx y H Q=>∃i j,x= .str i∧y= .str j∧Q (.bl (!(c8 j i 0 j.length 1).isEmpty)) H):=by
 intro ag s σ H x y v u Q I rx ry h;obtain⟨i,j,rfl,rfl,q⟩:=h;obtain⟨t,rfl⟩:=rx;obtain⟨t',rfl⟩:=ry;exact in_str (x_ I q rfl)
def wm:oh X (bB .Is) (λx y H Q=>y= .ci∧Q (.bl (decide (x= .ci))) H):=by
 intro ag s σ H x y v u Q I rx ry h;obtain⟨rfl,q⟩:=h;cases ry;refine is_none_gen (x_ I q ?_);cases x<;>first
  | (cases rx;rfl)
  | (obtain⟨t,rfl⟩:=rx;rfl)
def uL:oh X (bB .IsNot) (λx y H Q=>y= .ci∧Q (.bl (!decide (x= .ci))) H):=by
 intro ag s σ H x y v u Q I rx ry h;obtain⟨rfl,q⟩:=h;cases ry;refine isnot_none_gen (x_ I q ?_);cases x<;>first
  | (cases rx;rfl)
  | (obtain⟨t,rfl⟩:=rx;rfl)
def qx:oh X (bB .NotIn) (λx y H Q=>∃i j,x= .str i∧y= .str j∧Q (.bl (!(!(c8 j i 0 j.length 1).isEmpty))) H):=by
 intro ag s σ H x y v u Q I rx ry h;obtain⟨i,j,rfl,rfl,q⟩:=h;obtain⟨t,rfl⟩:=rx;obtain⟨t',rfl⟩:=ry;exact notIn_str (x_ I q rfl)
def oh.or{f:aj→aj→ce aj}{r r':R2}(h:oh X f r) (h':oh X f r'):oh X f (λx y H Q=>r x y H Q∨r' x y H Q):=by
 intro ag s σ H x y v u Q I rx ry q;obtain q |q:=q
 ·exact h ag s σ H x y v u Q I rx ry q
 ·exact h' ag s σ H x y v u Q I rx ry q
def TY (ho:oh X (bB op) r) (ha:PE X a ta) (hb:PE X b tb) (hm:fY op b=false):PE X (.Compare a [op] [b] pos) (Cd r ta tb):=by
 intro ag s σ H Q I h;exact wpAny_Compare1 (FO ha hb I h λv u s2 x y H2 I2 rx ry q=>ho ag s2 σ H2 x y v u Q I2 rx ry q) hm
def V1 (t:TE):TT:=λσ H Q=>t σ H λx H'=>∃k,x= .bl k∧Q k H'
def SE (ho:oh X (bB op) r) (ha:PE X a ta) (hb:PE X b tb) (hm:fY op b=false):PT X (.Compare a [op] [b] pos) (V1 (Cd r ta tb)):=by
 intro ag s σ H Q I h;refine wpAny_isTrue_Compare1 (nG (ha ag s σ H _ I h) λv s1 ⟨x,H1,I1,r1,q1⟩=>nG (hb ag s1 σ H1 _ I1 q1) λu s2 ⟨y,H2,I2,r2,q2⟩=>
  nG (ho ag s2 σ H2 x y v u _ I2 r1 r2 q2) λc s3 ⟨z,H3,I3,r3,k,e,q3⟩=>?_) hm
 subst e;cases r3;exact eA ⟨H3,I3,q3⟩
def YQ (r r':R2) (ta tb tc:TE):TE:=λσ H Q=>ta σ H λx H1=>tb σ H1 λy H2=>r x y H2 λz H3=>∃k,z= .bl k∧
 (if k=true then tc σ H3 λw' H4=>r' y w' H4 Q else Q (.bl false) H3)
def SJ (ho:oh X (bB op) r) (ho':oh X (bB op') r') (ha:PE X a ta) (hb:PE X b tb) (hc:PE X c tc)
  (hm:h_ [op,op'] [b,c]=false:=by with_unfolding_all rfl):PE X (.Compare a [op,op'] [b,c] pos) (YQ r r' ta tb tc):=by
 intro ag s σ H Q I h;refine Compare_chain (nG (ha ag s σ H _ I h) λv s1 ⟨x,H1,I1,r1,q1⟩=>chain_link (nG (hb ag s1 σ H1 _ I1 q1) λu s2 ⟨y,H2,I2,r2,q2⟩=>
  nG (ho ag s2 σ H2 x y v u _ I2 r1 r2 q2) λd s3 ⟨z,H3,I3,r3,k,e,q3⟩=>?_)) hm
 subst e;cases r3;refine eA ?_;cases k with
 |false=>exact ite_ff ⟨.bl false,H3,I3,rfl,q3⟩
 |true=>exact ite_tt (chain_last (nG (hc ag s3 σ H3 _ I3 q3) λw' s4 ⟨z',H4,I4,r4,q4⟩=>ho' ag s4 σ H4 y z' u w' Q I4 r2 r4 q4))
def Cg (K:ao) (x:V) (H:Hp) (k:Bool):Prop:=
 match x with
 | .ci=>k=false
 | .bl b=>k=b
 | .int i=>k=(i != 0)
 | .str y=>y.length≤sizeLine∧k=((y.length:Int) != 0)
 | .byt y=>y.size≤sizeLine∧k=((y.size:Int) != 0)
 | .ref p=>(∃xs,oJ K H p xs∧k= !xs.isEmpty)∨(∃xs,oZ K H p xs∧k= !xs.isEmpty)∨ ∃gA,H p=aa (.dK gA)∧k= !gA.isEmpty
 |_=>False
def Ps{κ:Type}{gA:List (κ×V)}{vs:List (κ×aj)}(r:KV gA vs):(!vs.isEmpty)= !gA.isEmpty:=by
 cases r<;>rfl
def NM{xs:List V}{d5:List aj}(r:mR xs d5):(!d5.toArray.isEmpty)= !xs.isEmpty:=by
 cases r<;>simp
def xE:(sizeLine:Nat)<2 ^ 63:=by rw[dY];decide
def Il:QH X (λx H Q=>∃k,Cg X.K x H k∧Q k H):=by
 intro ag s σ H x v Q I rx h;obtain⟨k,e,q⟩:=h;have hl:=xE;have hs:sizeLine=16777216:=dY;cases x with
 |ci=>
  cases rx;have e':k=false:=e;subst e';exact truthy_none ⟨H,I,q⟩
 |bl b=>
  cases rx;have e':k=b:=e;subst e';exact eA ⟨H,I,q⟩
 |int i=>
  obtain⟨t,rfl⟩:=rx;have e':k=(i != 0):=e;subst e';exact PySem.P.truthy_int ⟨H,I,q⟩
 |str y=>
  obtain⟨t,rfl⟩:=rx;obtain⟨hy,e'⟩:y.length≤sizeLine∧k=((y.length:Int) != 0):=e;subst e';exact PySem.P.truthy_str (by lia) ⟨H,I.tok _,q⟩
 |byt y=>
  obtain⟨t,rfl⟩:=rx;obtain⟨hy,e'⟩:y.size≤sizeLine∧k=((y.size:Int) != 0):=e;subst e';exact PySem.W.truthy_bytes (by lia) ⟨H,I.tok _,q⟩
 |ref p=>
  cases rx;have e':(∃xs,oJ X.K H p xs∧k= !xs.isEmpty)∨(∃xs,oZ X.K H p xs∧k= !xs.isEmpty)∨ ∃gA,H p=aa (.dK gA)∧k= !gA.isEmpty:=e;obtain ⟨xs,hx,e'⟩ |⟨xs,hx,e'⟩ |⟨gA,hx,e'⟩:=e'
  ·subst e';obtain⟨d5,r,pl,hz⟩:=I.list hx;have hlen:=r.length;exact wpAny_truthy_list pl.isList (by simp only[bh];lia) ⟨H,I.tok _,by rw[NM r];exact q⟩
  ·subst e';obtain⟨d5,r,pl,hz⟩:=I.tuple hx;have hlen:=r.length;exact truthy_tuple pl (by simp only[bh];lia) ⟨H,I.tok _,by rw[NM r];exact q⟩
  ·subst e';obtain⟨hz,hS,vs,r,m⟩:gA.length≤sizeLine∧(p == eV)=false∧ ∃vs,KV gA vs∧s.heap.DictOf (qN X.prog X.w) p vs:=I.cD p _ hx;have hlen:gA.length=vs.length:=fQ r;exact wpAny_truthy_dict hS m (by lia) ⟨H,I.tok _,by rw[Ps r];exact q⟩
 |_=>exact(show False from e).elim
def U1 (ha:PE X a ta) (he:∀whole,isTrue a X.env whole=(do let v ←whole;standAt a.pos;holding [v] (truthy v))) :
  PT X a (λσ H Q=>ta σ H λx H'=>∃k,Cg X.K x H' k∧Q k H'):=by
 intro ag s σ H Q I h;exact isTrue_plain (nG (ha ag s σ H _ I h) λv s1 ⟨x,H1,I1,r1,q1⟩=>Il ag s1 σ H1 x v Q I1 r1 q1) (he _)
def rF:oh X (ca .Add) (λx y H Q=>∃i j,x= .str i∧y= .str j∧i.length+j.length≤sizeLine∧Q (.str (i++j)) H):=by
 intro ag s σ H x y v u Q I rx ry h;obtain⟨i,j,rfl,rfl,hz,q⟩:=h;obtain⟨t,rfl⟩:=rx;obtain⟨t',rfl⟩:=ry;exact add_str (λt' tk=>⟨.str (i++j),H,I.tok _,⟨_,rfl⟩,q⟩) hz
def tZ (r:mR [x] us):∃u,us=[u]∧mZ x u:=by
 cases r with
 |cons r1 r2=>cases r2;exact⟨_,rfl,r1⟩
def NK (r:mR [x,y] us):∃u w',us=[u,w']∧mZ x u∧mZ y w':=by
 cases r with
 |cons r1 r2=>
  cases r2 with
  |cons r3 r4=>cases r4;exact⟨_,_,rfl,r1,r3⟩
def Wg (hc:X.calm=true):nO X (.builtin "min") (λxs H Q=>∃i j,xs=[.int i, .int j]∧Q (.int (if j<i then j else i)) H):=by
 intro ag s σ H xs us Q I r h;obtain⟨i,j,rfl,q⟩:=h;obtain⟨u,w',rfl,⟨t,rfl⟩,⟨t',rfl⟩⟩:=NK r;refine min_two_ints (I.ok.hd hc) λh' tk k=>⟨_,H,I.kept k,?_,q⟩;by_cases hj:j<i
 ·rw[if_pos hj,if_pos hj];exact⟨_,rfl⟩
 ·rw[if_neg hj,if_neg hj];exact⟨_,rfl⟩
def O2:nO X (.type "int") (λxs H Q=>(∃i,xs=[.int i]∧Q (.int i) H)∨ ∃k,xs=[.bl k]∧Q (.int (if k then 1 else 0)) H):=by
 intro ag s σ H xs us Q I r h;obtain ⟨i,rfl,q⟩ |⟨k,rfl,q⟩:=h
 ·obtain⟨u,rfl,t,rfl⟩:=tZ r;exact call_int_int ⟨.int i,H,I,⟨_,rfl⟩,q⟩
 ·obtain⟨u,rfl,r1⟩:=tZ r;cases r1;exact call_int_bool ⟨.int (if k then 1 else 0),H,I.tok _,⟨_,rfl⟩,q⟩
structure vA (h:aE) (x dx C:ai) (mA:ah→Option aj):Prop where
  obj:h.get? x=aa (jN C dx)
  ns:h.Ns1 dx mA
  ne:dx≠x
def Q2{h:aE}{dx:ai}{mA:ah→Option aj}(n:h.Ns1 dx mA):∃od,h.get? dx=aa od∧ ∀name,jJ name od=aa (mA name):=by
 obtain⟨o,es,ep,ho,hd,hk,_,hm⟩:=n;refine⟨o,ho,λname=>?_⟩;have e:=hm name;unfold nsFind findBy at e;rw[←Array.find?_toList]at e;unfold jJ;rw[hd];dsimp only;split
 ·rename_i y q;rw[q]at e;exact congrArg aa e
 ·rename_i q;rw[q]at e;have a:es.toList.any (·.refKey)=false:=by
   rw[List.any_eq_false];intro y hy;obtain⟨z,t,hkey⟩:=hk y (lV.mp hy);simp [jS.refKey,hkey]
  have a':¬es.toList.any (·.refKey)=true:=by rw[a];exact cW
  rw[if_neg a'];exact congrArg aa e
def vA.look{mA:ah→Option aj}(I:vA h x dx C mA):∃od,PySem.W.InstAt h x (jN C dx) C (aa od)∧ ∀name,jJ name od=aa (mA name):=
 let ⟨od,ho,hl⟩:=Q2 I.ns
 ⟨od,⟨I.obj,rfl,rfl,ho⟩,hl⟩
def UY (cD:n9 P w H h) (e:H a=aa (.ins C dx fs)):∃mA,vA h a dx C mA∧(∀f,qv (fs.lookup f) (mA f))∧PySem.Within mA (fs.map (·.1))∧fs.length≤1000∧H dx=aa (.own a):=by
 obtain⟨d,z,ne,ob,mA,n,r,q⟩:=(show nu P w H h a (.ins C dx fs) from cD a _ e);exact⟨mA,⟨ob,n,ne⟩,r,q,z,d⟩
structure Dp (K:ao) (C:ai):Prop where
  pg:kR K C fI=true
  hd:PySem.W.hasDictIn K C=true
  po:PySem.W.plainOver K C=true
  sa:fO K (.ref C) "__setattr__" =aa (aa (.builtin "object.__setattr__"))
def Dp.get{K:ao}{C:ai}(c:Dp K C) (f:ah):kR K C f=true:=c.pg
section
variable {X:Cx}{ag:List (ai×aH)}{σ:St}{H:Hp}{s:am}{A:bt}{E:aj→am→Prop}{Q:aj→am→Prop}{c:aj}{b:Bool}
inductive o_ (K:ao) (H:Hp):V→aj→Prop where
  |ci:o_ K H .ci (.type "NoneType")
  |bl (x:Bool):o_ K H (.bl x) (.type "bool")
  |int (i:Int):o_ K H (.int i) (.type "int")
  |str (x:ah):o_ K H (.str x) (.type "str")
  |flt (x:UInt64):o_ K H (.flt x) (.type "float")
  |bP {a:ai}{xs:List V}(e:H a=aa (.bP xs)):o_ K H (.ref a) (.type "list")
  |frz {a:ai}{o:aH}{xs:List V}(e:H a=aa (.frz o (.bP xs))):o_ K H (.ref a) (.type "list")
  |bW {a:ai}{xs:List V}(e:H a=aa (.bW xs)):o_ K H (.ref a) (.type "tuple")
  |dK {a:ai}{gA:List (Key×V)}(e:H a=aa (.dK gA)):o_ K H (.ref a) (.type "dict")
  |dT {a:ai}{gA:List (List Key×V)}(e:H a=aa (.dT gA)):o_ K H (.ref a) (.type "dict")
  |ins {a C dx:ai}{fs:List (ah×V)}(e:H a=aa (.ins C dx fs)) (cl:Dp K C) (ha:fO K (.ref C) "__class__" =aa (aa (.builtin "object.__class__")))
      (hn:PySem.W.specialIn K (.builtin "object.__class__") "__get__" =aa (aa (.builtin "getset_descriptor.__get__"))) (htk:PySem.W.takesIn K (.builtin "object.__class__")=aa true)
      (hm:jC K C (.type "object")=aa true):o_ K H (.ref a) (.ref C)
def Xi (I:mC X ag σ H s) (rx:mZ x u) (ty:o_ X.K H x t) (e:fV X.K t c=aa b) (h:∀tk,Q (.bool b) { s with toks:=tk }) :
  av (aB X.prog X.w) A (call (.builtin "isinstance") [u,c]) Q E s:=by
 cases ty with
 |ci=>cases(show u=cK from rx);exact cN PySem.W.kitx_none I.kIn dB e (λz=>nomatch z) h
 |bl y=>cases(show u=fe y from rx);exact cN PySem.W.kitx_bool I.kIn dB e (λz=>nomatch z) h
 |int i=>obtain⟨t,q⟩:=(show ∃t,u=gm i t from rx);cases q;exact cN PySem.W.kitx_int I.kIn dB e (λz=>nomatch z) h
 |str y=>obtain⟨t,q⟩:=(show ∃t,u=fU y t from rx);cases q;exact cN PySem.W.kitx_str I.kIn dB e (λz=>nomatch z) h
 |flt y=>obtain⟨t,q⟩:=(show ∃t,u=aj.float y t from rx);cases q;exact cN PySem.W.kitx_float I.kIn dB e (λz=>nomatch z) h
 | @bP a xs ea=>
  cases(show u=bM a from rx);obtain⟨_,_,n,_,h1⟩:=(show nu X.prog X.w H s.heap a (.bP xs) from I.cD a _ ea);exact cN lq I.kIn ⟨_,h1,rfl⟩ e (λz=>nomatch z) h
 | @frz a ob xs ea=>
  cases(show u=bM a from rx);obtain⟨_,_,_,n,_,h1⟩:=(show nu X.prog X.w H s.heap a (.frz ob (.bP xs)) from I.cD a _ ea);exact cN lq I.kIn ⟨_,h1,rfl⟩ e (λz=>nomatch z) h
 | @bW a xs ea=>
  cases(show u=bM a from rx);obtain⟨_,_,_,p⟩:=(show nu X.prog X.w H s.heap a (.bW xs) from I.cD a _ ea);obtain⟨o,h1,h2,_⟩:=p;exact cN PySem.W.kitx_tuple I.kIn ⟨o,h1,h2⟩ e (λz=>nomatch z) h
 | @dK a gA ea=>
  cases(show u=bM a from rx);obtain⟨_,_,vs,_,p⟩:=(show nu X.prog X.w H s.heap a (.dK gA) from I.cD a _ ea);obtain⟨o,es,ep,h1,h2,_⟩:=p;exact cN kA I.kIn ⟨o,h1,h2.1⟩ e (λz=>nomatch z) h
 | @dT a gA ea=>
  cases(show u=bM a from rx);obtain⟨_,_,xs,_,o,es,ep,h1,h2,_⟩:=(show nu X.prog X.w H s.heap a (.dT gA) from I.cD a _ ea);exact cN kA I.kIn ⟨o,h1,h2.1⟩ e (λz=>nomatch z) h
 | @ins a C dx fs ea cl ha hn htk hm=>
  cases(show u=bM a from rx);obtain⟨mA,O,_⟩:=UY I.cD ea;obtain⟨od,J,_⟩:=O.look;exact cN (PySem.W.kitx_own (cl.get _) cl.hd ha hn htk hm) I.kIn J e (λz=>nomatch z) h
end
structure om (k:Nat) (A:bt):Prop where
  hd:A.handled=none
  dp:A.depth+3*k+5<recursionLimit
  un:A.units+16*k+200<cLine
def om.mono (r:om k A) (h:j≤k):om j A:=⟨r.hd,by have:=r.dp;lia,by have:=r.un;lia⟩
def om.deeper (r:om (k+1) A) (env:bN):om k (A.deeper env):=
 ⟨r.hd,by have:=r.dp;show A.depth+1+3*k+5<_;lia,by have:=r.un;show A.units+3+16*k+200<_;lia⟩
def om.depth (r:om k A):A.depth<recursionLimit:=by have:=r.dp;lia
def om.units (r:om k A):A.units+64<cLine:=by have:=r.un;lia
def T1:TA:=λ_ H Q=>Q [] H
def QG (ta:TE) (tr:TA):TA:=λσ H Q=>ta σ H λx H1=>tr σ H1 λxs H2=>Q (x::xs) H2
def oX:PA X [] T1:=λ_ _ _ _ H Q I h=>Calls.spliced_nil ⟨[],H,I, .nil,h⟩
def tV (ha:PE X e te) (hr:PA X es t) (hs:ax (e::es) X.env=(false,aG e X.env)::ax es X.env):PA X (e::es) (QG te t):=by
 intro pos ag s σ H Q I h;rw[hs];show av _ _ (spliced ((false,aG e X.env)::aZ pos (ax es X.env))) _ _ s;refine Calls.spliced_cons (nG (ha ag s σ H _ I h) λu s1 ⟨x,H1,I1,r1,q1⟩=>?_);exact nG (hr pos ag s1 σ H1 _ I1 q1) λus s2 ⟨xs,H2,I2,r2,q2⟩=>⟨x::xs,H2,I2, .cons r1 r2,q2⟩
def W8 (t:TA):TE:=λσ H Q=>t σ H λxs H1=>xs.length≤sizeLine∧ ∀p,H1 p=none→Q (.ref p) (nM H1 p (.bW xs))
def Zo (t:TA):TE:=λσ H Q=>t σ H λxs H1=>xs.length≤sizeLine∧ ∀p,H1 p=none→Q (.ref p) (nM H1 p (.bP xs))
def To{x1}(h:PA X es t):PE X (.Tuple es x1 pos) (W8 t):=by
 intro ag s σ H Q I hq;refine wpAny_Tuple_spliced (nG (h pos ag s σ H _ I hq) λus s1 ⟨xs,H1,I1,r,z,q⟩=>⟨by rw[←r.length];exact z,?_⟩);have hf:H1 s1.heap.objs.size=none:=I1.cD.fresh (aA _);refine⟨.ref s1.heap.objs.size,nM H1 s1.heap.objs.size (.bW xs),I1.laid (t':=s1.toks) (λb u e=>aP _ e) (aA _) ?_,rfl,q _ hf⟩;exact⟨z,us,r,⟨_,bI _ rfl,rfl,_,rfl⟩⟩
def ZI (h:PA X es t):PE X (.List es pos) (Zo t):=by
 intro ag s σ H Q I hq;refine wpAny_List_spliced (nG (h pos ag s σ H _ I hq) λus s1 ⟨xs,H1,I1,r,z,q⟩=>⟨by rw[←r.length];exact z,?_⟩);have hf:H1 s1.heap.objs.size=none:=I1.cD.fresh (aA _);refine⟨.ref s1.heap.objs.size,nM H1 s1.heap.objs.size (.bP xs),I1.laid (t':=s1.toks) (λb u e=>aP _ e) (aA _) ?_,rfl,q _ hf⟩;exact⟨z,us,0,r,bI _ rfl⟩
abbrev Sp:=List V→Hp→VK→XK→Prop
abbrev xz:=List bN→Hp→am→XK→aj→am→Prop
structure sV (P:bg) (w:aS) (K:ao) (mg:ah→Option aj) (base:aE) (A:bt) (outer:List bN) (s:am) (H:Hp):Prop where
  frames:A.frames=aa outer
  mod:Mod K mg base
  bs:∀b o,base.get? b=aa o→s.heap.get? b=aa o∧H b=none
  bsz:base.objs.size≤s.heap.objs.size
  funs:s.heap.FunFrames base outer
  frf:∀b∈frs outer,H b=none
  cD:n9 P w H s.heap
  bare:b_ s.gens
def CE (outer:List bN) (P:bg) (w:aS) (H:Hp) (s:am) (Q:VK) (u:aj) (s':am):Prop:=
 ∃v H',s'.os=s.os∧b_ s'.gens∧Un (frs outer) [] H H' s.heap s'.heap∧n9 P w H' s'.heap∧mZ v u∧Q v H'
def CR (CX:xz) (outer:List bN) (P:bg) (w:aS) (H:Hp) (s:am) (Q:VK) (E:XK) (r:Result) (s':am):Prop:=
 match r with
 | .ok (.ret u)=>CE outer P w H s Q u s'
 | .ok _=>False
 | .error e=>CX outer H s E e s'
structure oV (P:bg) (w:aS) (K:ao) (mg:ah→Option aj) (base:aE) (CX:xz) (k:Nat) (f:ai) (fd:dt) (ps:List ah) (sp:Sp):Prop where
  len:∀vs H Q E,sp vs H Q E→vs.length=ps.length
  run:∀(A:bt) (outer:List bN) (s:am) (H:Hp) (args:Args) (us:List aj) (vs:List V) (Q:VK) (E:XK),om k A→sV P w K mg base A outer s H→e_ s fd args (ps.zip us)→mR vs us→sp vs H Q E→
    eD (aB P w) A (.call (.ref f) args) (CR CX outer P w H s Q E) s
def oV.mono{K:ao}{mg:ah→Option aj}(F:oV P w K mg base CX j f fd ps sp) (h:j≤k) :
  oV P w K mg base CX k f fd ps sp:=⟨F.len,λA outer s H args us vs Q E hr=>F.run A outer s H args us vs Q E (hr.mono h)⟩
def mC.env0 (I:mC X ag σ H s):sV X.prog X.w X.K X.mg X.base X.A X.stack s H:=
 ⟨I.ok.frames,I.ok.mod,I.bs,aY I.ok.bsz I.sz,I.stack,I.stkFree,I.cD,I.bare⟩
def px (K:ao) (fd:dt) (ps:List ah) (ds:List aj):Prop:=
 ∀(s:am) (us:List aj),K.In s.heap→(us++ds).length=ps.length→e_ s fd ⟨us,[]⟩ (ps.zip (us++ds))
def px.all{K:ao}(h:∀us:List aj,us.length=ps.length→jg fd ⟨us,[]⟩=pure (ps.zip us)):px K fd ps []:=λs us _ hl=>by
 rw[bf]at hl⊢;exact .of_eq (h us hl)
structure py (N P:List ah) (sc:Scope):Prop where
  kind:sc.kind= .function
  co:sc.isCoroutine=false
  gen:sc.isGenerator=false
  nd:N.Nodup
  pre:N.take P.length=P
  par:∀x∈P,sc.names.lookup x=aa .local∨sc.names.lookup x=aa .cell
  nofree:∀y∈sc.names,y.2≠ .free
theorem L7{kindOf:ah→Option b8}:∀{binds:List (ah×aj)}{m:ah→Option aj},(∀v,(x,v)∉binds)→dv kindOf binds m x=m x
 | [],_,_=>rfl
 | (n,v)::r,m,h=>by
  unfold dv;rw[L7 λw hw=>h w (aI _ hw)];split
  ·have:x≠n:=by rintro rfl;exact h v aL
   simp [this]
  ·rfl
theorem LF{kindOf:ah→Option b8}:∀{binds:List (ah×aj)}{m:ah→Option aj},(∀v,(x,v)∉binds)→dJ kindOf binds m x=m x
 | [],_,_=>rfl
 | (n,v)::r,m,h=>by
  unfold dJ;rw[LF λw hw=>h w (aI _ hw)];split
  ·rfl
  ·have:x≠n:=by rintro rfl;exact h v aL
   simp [this]
theorem JB{kindOf:ah→Option b8}:∀{P:List ah}{vs:List aj}{i:Nat}{m:ah→Option aj},P.Nodup→P[i]? =aa x→vs[i]? =aa v→kindOf x=aa .local→
  dv kindOf (P.zip vs) m x=aa v
 | [],_,_,_,_,h,_,_=>by simp at h
 |_::_,[],_,_,_,_,h,_=>by simp at h
 |p::P,w::vs,0,m,nd,h1,h2,hk=>by
  simp at h1 h2;subst h1;subst h2;show dv kindOf ((p,w)::P.zip vs) m p=_;unfold dv;rw[L7 λv hv=>(eE.mp nd).1 (gd hv).1,if_pos hk];simp
 |p::P,w::vs,i+1,m,nd,h1,h2,hk=>by
  show dv kindOf ((p,w)::P.zip vs) m x=_;unfold dv;exact JB (i:=i) (eE.mp nd).2 (by simpa using h1) (by simpa using h2) hk
theorem ME{kindOf:ah→Option b8}:∀{P:List ah}{vs:List aj}{i:Nat}{m:ah→Option aj},P.Nodup→P[i]? =aa x→vs[i]? =aa v→kindOf x≠aa .local→
  dJ kindOf (P.zip vs) m x=aa v
 | [],_,_,_,_,h,_,_=>by simp at h
 |_::_,[],_,_,_,_,h,_=>by simp at h
 |p::P,w::vs,0,m,nd,h1,h2,hk=>by
  simp at h1 h2;subst h1;subst h2;show dJ kindOf ((p,w)::P.zip vs) m p=_;unfold dJ;rw[LF λv hv=>(eE.mp nd).1 (gd hv).1,if_neg hk];simp
 |p::P,w::vs,i+1,m,nd,h1,h2,hk=>by
  show dJ kindOf ((p,w)::P.zip vs) m x=_;unfold dJ;exact ME (i:=i) (eE.mp nd).2 (by simpa using h1) (by simpa using h2) hk
noncomputable def start (N:List ah) (vs:List V):St:=vs.map aa++bj (N.length - vs.length) none
noncomputable def vi (CX:xz) (P:bg) (w:aS) (K:ao) (mg:ah→Option aj) (base:aE) (N:List ah) (qual:ah) (scope:Scope) (f:ai) (cd:aj) (A:bt) (outer:List bN) (s:am) (H:Hp) (E:XK):Cx where
  prog:=P
  w:=w
  K:=K
  mg:=mg
  base:=base
  A:=A.deeper (cH qual scope s.heap.objs.size f cd)
  N:=N
  s₀:=s
  H₀:=H
  env:=cH qual scope s.heap.objs.size f cd
  outer:=outer
  stack:=cH qual scope s.heap.objs.size f cd::outer
  ex:=[]
  calm:=true
  fn:=λ_=>true
  pn:=[]
  xe:=λe s'=>av (aB P w) (A.deeper (cH qual scope s.heap.objs.size f cd)) (leaving (cH qual scope s.heap.objs.size f cd) e) (λ_ s''=>CX outer H s E e s'') (λe' s''=>CX outer H s E e' s'') s'
def Mi{sc:Scope}{n:Nat}{x:ah}(h:sc.names.lookup x=aa .cell):∃c,(jh n sc.names []).lookup x=aa c:=by
 have q:=lB sc.names n [] (.inl h);exact dS.mp q
def U5{K:ao}{mg:ah→Option aj} 
  (S:py N ps scope) (hd:A.handled=none) (e0:sV P w K mg base A outer s H) (hl:vs.length=ps.length) (r:mR vs us)
  (x:InCallC s s.heap.objs.size (dv (cH qual scope s.heap.objs.size f cd).kindOf (ps.zip us) λ_=>none) (jh (s.heap.objs.size+1) scope.names []) (dJ (cH qual scope s.heap.objs.size f cd).kindOf (ps.zip us) λ_=>none) s1) :
  mC (vi CX P w K mg base N qual scope f cd A outer s H E) [] (start N vs) H s1:=by
 have hpl:ps.length≤N.length:=by have:=congrArg dH S.pre;rw[c9]at this;lia
 obtain⟨h1,tk,rfl,hk⟩:=x.done;have noA:∀b:ai,b∉(vi CX P w K mg base N qual scope f cd A outer s H E).ex:=λb z=>absurd (show b∈([]:List ai) from z) (by simp);refine⟨⟨e0.mod,S.kind,rfl,rfl,aA _,λy z c h1 h2=>?_,λy hy=>?_,λy c _ h=>?_,λ_=>hd,bt.frames_deeper e0.frames, .inr ⟨rfl,rfl⟩,λb z=>absurd z (noA b),e0.bs,e0.bsz,λb _ _=>noA b,λb z=>absurd z (noA b),e0.funs,e0.frf⟩,
  rfl,e0.bare,Un.kept hk,⟨_,x.toInCall.ns,λi y v h1 h2 h3=>?_⟩,λy c h=>⟨_,x.cell y c h⟩,e0.cD.fresh (aA _),λy c h=>?_,λp hp=>absurd (show p∈([]:List (ai×aH)) from hp) (by simp),e0.cD.kept hk,?_⟩
 ·exact name_of_addr x.apart (fB h1) (fB h2)
 ·have hy:scope.names.lookup y=aa .cell∨scope.names.lookup y=aa .free:=hy;obtain hy |hy:=hy
  ·exact Mi hy
  ·exact absurd rfl (S.nofree _ (fB hy))
 ·exact ik (x.above y c (fB h))
 ·have hi:i<vs.length:=by
   unfold start at h2;by_cases hi:i<vs.length
   ·exact hi
   ·rw[iY (by simpa using hi)]at h2;rw[lx]at h2;split at h2<;>cases h2
  have ha:vs[i]? =aa v:=by
   unfold start at h2;rw[ku (by simpa using hi),aT]at h2;cases e:vs[i]? with
   |none=>rw[e]at h2;cases h2
   |some a=>rw[e]at h2;cases h2;rfl
  obtain⟨u,hu,rv⟩:=r.get ha;have hp:ps[i]? =aa y:=by
   rw[←S.pre,List.getElem?_take_of_lt (by lia)];exact h1
  have ndP:ps.Nodup:=by rw[←S.pre];exact S.nd.sublist (kZ _ _)
  refine⟨u,rv,?_⟩;obtain k |k:=S.par y (aJ hp)
  ·exact .inl ⟨k,JB ndP hp hu k⟩
  ·obtain⟨c,e⟩:=Mi (n:=s.heap.objs.size+1) k;refine .inr ⟨.inl k,c,e,?_⟩;have q:=x.cell y c e;rw[ME ndP hp hu (by show scope.names.lookup y≠_;rw[k];decide)]at q;exact q
 ·exact e0.cD.fresh (ik (x.above y c (fB h)))
 ·unfold start;show _=N.length;rw[a_,ay,jK];lia
def KH{K:ao}{mg:ah→Option aj}{dV kV doc pm cdv ct oc:aj} 
  (lk:K.lookup f=aa ⟨oc,od, .func (dC name qual params body scope dV kV doc pm an cdv ct),osl⟩) (hcd:gF K cdv qual=true) (S:py N ps scope)
  (len:∀vs H Q E,sp vs H Q E→vs.length=ps.length)
  (hbody:∀(A:bt) (outer:List bN) (s:am) (H:Hp) (vs:List V) (Q:VK) (E:XK),om k (A.deeper (cH qual scope s.heap.objs.size f cdv))→sp vs H Q E→
   ∃t,qF (vi CX P w K mg base N qual scope f cdv A outer s H E) body t∧t { nx:=λ_ H'=>Q .ci H',rt:=Q } (start N vs) H) :
  oV P w K mg base CX (k+1) f (dC name qual params body scope dV kV doc pm an cdv ct) ps sp:=by
 refine⟨len,λA outer s H args us vs Q E hr e0 hb r hsp=>?_⟩;have hl:=len _ _ _ _ hsp;have KX:K.In s.heap:=e0.mod.kin.keeps λb o e=>(e0.bs b o e).1;have lim:s.heap.NoLimit:=e0.mod.nolimit.keeps λb o e=>(e0.bs b o e).1;have hkind:∀y∈ps.zip us,scope.names.lookup y.1=aa .local∨(scope.names.lookup y.1=aa .cell∧((jh (s.heap.objs.size+1) scope.names []).lookup y.1).isSome=true):=λ⟨n,v⟩ hy=>by
  obtain q |q:=S.par n (gd hy).1
  ·exact .inl q
  ·exact .inr ⟨q,lB _ _ _ (.inl q)⟩
 refine codeAny_call_function hr.depth (KX _ _ lk) rfl S.co S.gen rfl (PySem.W.codeRec_of KX hcd) (hb _ _ _ _ ?_);refine wpAny_newFunctionEnv_cells S.kind hkind λenv he s1 x=>?_;subst he;refine⟨lim.keeps x.toInCall.keep,codeAny_func ?_⟩;obtain⟨t,ht,hq⟩:=hbody A outer s H vs Q E (hr.deeper _) hsp;have I:mC (vi CX P w K mg base N qual scope f cdv A outer s H E) [] (start N vs) H s1:=U5 S hr.hd e0 hl r x;refine cm (ht [] s1 (start N vs) H _ I hq) (λfl s' hs=>?_) λe s' hs=>hs;have fin:∀{σ':St}{H':Hp}{v:V}{u:aj},mC (vi CX P w K mg base N qual scope f cdv A outer s H E) [] σ' H' s'→mZ v u→Q v H'→CE outer P w H s Q u s':=
  λ{σ' H' v u} J rv q=>⟨v,H',J.os,J.bare,J.base,J.cD,rv,q⟩
 cases fl with
 |ret u=>
  obtain⟨v,σ',H',J,rv,q⟩:=hs;exact fin J rv q
 |next=>
  obtain⟨σ',H',J,q⟩:=hs;exact fin (v:=V.ci) (u:=cK) J rfl q
 |brk=>
  obtain⟨_,_,_,q⟩:=hs;exact cF q
 |cont=>
  obtain⟨_,_,_,q⟩:=hs;exact cF q
section
variable {X:Cx}{x:ah}{p pos:bw}{e:Expr}{es:List Expr}{t:TA}{id T:String}{r:List V→Hp→VK→Prop}
def K4 (r:List V→Hp→VK→Prop) (t:TA):TE:=λσ H Q=>t σ H λvs H1=>r vs H1 Q
def Fv (hc:nO X (.builtin id) r) (hg:Gl X x) (hm:X.mg x=none) (hv:cG x=aa (.builtin id)) (ha:PA X (e::es) t) (hn:x≠ "__name__" ) (hdb:(x == ("__debug__" :ah))=false)
  (he:ax (e::es) X.env=(false,aG e X.env)::ax es X.env) (hpl:(aZ pos (ax es X.env)).any (·.1)=false):PE X (.Call (.Name x p) (e::es) [] pos) (K4 r t):=by
 intro ag s σ H Q I h;refine gG (wK I hg hm hv ?_ hn hdb);exact PyProof.Rows.callWith_builtin1 (nG (ha pos ag s σ H _ I h) λus s1 ⟨vs,H1,I1,r1,q1⟩=>hc ag s1 σ H1 vs us Q I1 r1 q1) he hpl
def FH (hc:nO X (.type T) r) (hg:Gl X x) (hm:X.mg x=none) (hv:cG x=aa (.type T)) (ha:PA X (e::es) t) (hn:x≠ "__name__" ) (hdb:(x == ("__debug__" :ah))=false)
  (he:ax (e::es) X.env=(false,aG e X.env)::ax es X.env) (hpl:(aZ pos (ax es X.env)).any (·.1)=false):PE X (.Call (.Name x p) (e::es) [] pos) (K4 r t):=by
 intro ag s σ H Q I h;refine gG (wK I hg hm hv ?_ hn hdb);exact ib (nG (ha pos ag s σ H _ I h) λus s1 ⟨vs,H1,I1,r1,q1⟩=>hc ag s1 σ H1 vs us Q I1 r1 q1) he hpl
end
end L2
namespace HT
open PySem PyProof.Rows
section
variable {prog:bg}{w:aS}{A:bt}{E:aj→am→Prop}{s:am}
def cat_tup{Q:aj→am→Prop}(ht:eT s.heap t vs.toArray) (hb:eT s.heap b ws.toArray) (hv:vs≠ [])
  (h1:ws=[]→Q (.ref t) s) (h2:ws≠ []→Q (.ref s.heap.objs.size) { s with heap:=s.heap.push { cls:= .type "tuple",data:= .seq (vs++ws).toArray } })
  (hsz:vs.length+ws.length≤sizeLine):av (aB prog w) A (ca .Add (.ref t) (.ref b)) Q E s:=by
 obtain⟨⟨cls,dd,data,sl⟩,ho,hc,n,hd⟩:=id ht;obtain⟨⟨cls2,dd2,data2,sl2⟩,ho2,hc2,n2,hd2⟩:=id hb;simp only at hc hd hc2 hd2;subst hc hd hc2 hd2;have e:vs.toArray++ws.toArray=(vs++ws).toArray:=by simp
 by_cases hw:ws=[]
 ·exact iE ⟨_,ho,rfl⟩ ⟨_,ho2,rfl⟩ ir jI iJ jP (je _ _)
   (tuple_addW1 t b vs.toArray ws.toArray n n2 dd dd2 sl sl2 (by simpa using hv) (by simp [hw])) ⟨ho,ho2,h1 hw⟩
 ·refine iE ⟨_,ho,rfl⟩ ⟨_,ho2,rfl⟩ ir jI iJ jP (je _ _)
   (tuple_addW2 t b vs.toArray ws.toArray n n2 dd dd2 sl sl2 (by simpa using hv) (by simpa using hw) (by rw[bh,bh];exact hsz)) ⟨ho,ho2,?_⟩
  rw[e];exact h2 hw
def sIx (n d:Nat):Option Int→Nat
 |none=>d
 |some v=>if v<0 then(v+(n:Int)).toNat else min v.toNat n
theorem sIx_none (n d:Nat):sIx n d none=d:=rfl
def sIx_nat (n d k:Nat):sIx n d (aa (k:Int))=min k n:=by
 show(if(k:Int)<0 then((k:Int)+(n:Int)).toNat else min (k:Int).toNat n)=min k n;rw[if_neg (by lia),bb]
def sIx_le (n d:Nat) (hd:d≤n) (o:Option Int):sIx n d o≤n:=by
 cases o with
 |none=>exact hd
 |some v=>
  show(if v<0 then(v+(n:Int)).toNat else min v.toNat n)≤n;by_cases hv:v<0
  ·rw[if_pos hv];lia
  ·rw[if_neg hv];exact Nat.min_le_right _ _
def Oh (v:Int) (n d:Nat):(if v<0 then max (v+(n:Int)) 0 else min v (n:Int))=((sIx n d (aa v):Nat):Int):=by
 show(if v<0 then max (v+(n:Int)) 0 else min v (n:Int))=(((if v<0 then(v+(n:Int)).toNat else min v.toNat n):Nat):Int);by_cases hv:v<0
 ·simp only[if_pos hv];lia
 ·simp only[if_neg hv];lia
def VH (lo hi:Option Int) (n:Nat):iW lo hi 1 (n:Int)=(((sIx n 0 lo:Nat):Int),((sIx n n hi:Nat):Int)):=by
 have h1:¬((1:Int)<0):=by lia
 unfold iW;simp only[h1,if_false];refine Prod.ext ?_ ?_
 ·cases lo with
  |none=>rfl
  |some v=>exact Oh v n 0
 ·cases hi with
  |none=>rfl
  |some v=>exact Oh v n n
def Te (i j:Nat):ie (i:Int) (j:Int) 1=j - i:=by
 unfold ie;have h1:(1:Int) > 0:=by lia
 simp only[h1,if_true,Int.ediv_one];split<;>lia
def Nn{Q:Option Int→am→Prop}(p:c5 v o) (h:Q o s):av (aB prog w) A (cC.Slice.slicePartIndex v) Q E s:=by
 cases p with
 |none=>exact mf h
 |int i t=>exact slicePart_int h
def sliceApplied_gen{lo hi:Option Int}{Q:Int×Int×Nat→am→Prop}(hs:s.heap.IsSliceOf sl vl vu .none) (pl:c5 vl lo) (pu:c5 vu hi)
  (h:Q (((sIx n 0 lo:Nat):Int),1,sIx n n hi - sIx n 0 lo) s):av (aB prog w) A (lE (.ref sl) (pure (n:Int))) Q E s:=by
 obtain⟨os,hos,hcs,hds⟩:=id hs;unfold lE cC.Slice.sliceFields;refine au (au (bU hos hds (x:=vl) rfl (au (bU hos hds (x:=vu) rfl (au (bU hos hds (x:= .none) rfl (aM ?_)))))));refine au (mf ?_);show av _ _ (if((1:Int) == 0)=true then _ else _) _ _ s;rw[if_neg (by decide)];refine au (Nn pl (au (Nn pu (au (aM ?_)))));show av _ _ (match iW lo hi 1 (n:Int) with | (lo,hi)=>pure (lo,(1:Int),ie lo hi 1)) _ _ s;rw[VH lo hi n];show av _ _ (pure (((sIx n 0 lo:Nat):Int),(1:Int),ie ((sIx n 0 lo:Nat):Int) ((sIx n n hi:Nat):Int) 1)) _ _ s;rw[Te];exact aM h
def XV (xs:Array aj) (i k:Nat):((bx k).filterMap λ(m:Nat)=>xs[((i:Int)+(m:Int)*1).toNat]?).toArray=((xs.toList.drop i).take k).toArray:=by
 have e:(λ(m:Nat)=>xs[((i:Int)+(m:Int)*1).toNat]?)=λm=>xs[i+m]? :=by
  funext m;have:((i:Int)+(m:Int)*1).toNat=i+m:=by lia
  rw[this]
 rw[e];have:=jd xs i k;rw[List.filterMap_map]at this;have e2:((λx=>xs[x]?)∘λx=>i+x)=λm=>xs[i+m]? :=rfl;rw[e2]at this;rw[this]
def getItem_tuple_cut{lo hi:Option Int}{Q:aj→am→Prop}(ht:eT s.heap t items) (hs:s.heap.IsSliceOf sl vl vu .none) (pl:c5 vl lo) (pu:c5 vu hi)
  (hw:¬(sIx items.size 0 lo=0∧sIx items.size items.size hi=items.size))
  (h:Q (.ref s.heap.objs.size) { s with heap:=s.heap.push { cls:= .type "tuple",data:= .seq ((items.toList.drop (sIx items.size 0 lo)).take (sIx items.size items.size hi - sIx items.size 0 lo)).toArray } })
  (hsz:items.size≤sizeLine):av (aB prog w) A (eH (.ref t) (.ref sl)) Q E s:=by
 have htake:sizeOk (.seq ((items.toList.drop (sIx items.size 0 lo)).take (sIx items.size items.size hi - sIx items.size 0 lo)).toArray):=by
  show((items.toList.drop (sIx items.size 0 lo)).take (sIx items.size items.size hi - sIx items.size 0 lo)).toArray.size≤sizeLine;rw[bh,c9,cS,iH];lia
 have hj:sIx items.size items.size hi≤items.size:=sIx_le _ _ (aA _) hi;obtain⟨os,hos,hcs,hds⟩:=id hs;have hTs:s.TypeIs (.ref sl) "slice" :=⟨os,hos,hcs⟩;unfold eH
 try with_reducible refine gw ?_
 first |refine au (aM ?_) |skip
 refine au (kX ht.typeIs (by decide) ?_);refine au (dQ (name:=bE "__getitem__") ht.typeIs fo
  (dE fo ht.typeIs lN ?_ (kP _ _)))
 show av _ _ (l_ (.ref t) >>= _) _ _ s;refine au (tupleItemsOf_ ht ?_);refine au (gc hTs ?_);rw[if_pos (by decide)];refine au (sliceApplied_gen hs pl pu ?_);have hno:¬((((sIx items.size 0 lo:Nat):Int) == 0&&(1:Int) == 1&&(sIx items.size items.size hi - sIx items.size 0 lo) == items.size)=true):=by
  intro q;rw[bV,bV]at q;have q1:((sIx items.size 0 lo:Nat):Int)=0:=ic q.1.1;have q2:sIx items.size items.size hi - sIx items.size 0 lo=items.size:=ic q.2;exact hw ⟨by lia,by lia⟩
 show av _ _ (if(((sIx items.size 0 lo:Nat):Int) == 0&&(1:Int) == 1&&(sIx items.size items.size hi - sIx items.size 0 lo) == items.size)=true then _ else _) _ _ s;rw[if_neg hno,XV]
 first
  |exact au (m:=gM _) (fx (aM ⟨_,rfl,aM h⟩) htake)
  |exact au (m:=gM _) (fx (au (aM (aM ⟨_,rfl,aM h⟩))) htake)
  |exact au (au (m:=gM _) (fx (aM (aM ⟨_,rfl,aM h⟩)) htake))
  |exact au (au (m:=gM _) (fx (aM ⟨_,rfl,aM h⟩) htake))
end
end HT
namespace L2
open PySem PySem.Spec PyProof.Rows
abbrev TO:=St→Hp→(Option Int→Hp→Prop)→Prop
def PO (X:Cx) (e:Option Expr) (t:TO):Prop:=
 ∀(ag:List (ai×aH)) (s:am) (σ:St) (H:Hp) (Q:Option Int→Hp→Prop),mC X ag σ H s→t σ H Q→
  av (aB X.prog X.w) X.A (evalPart e X.env) (λu s'=>∃o H',mC X ag σ H' s'∧c5 u o∧Q o H') X.xe s
def SG:TO:=λ_ H Q=>Q none H
def RY (t:TE):TO:=λσ H Q=>t σ H λx H1=>∃i,x= .int i∧Q (aa i) H1
def uq:PO X none SG:=by
 intro ag s σ H Q I h;rw[evalPart_none];exact aM ⟨none,H,I, .none,h⟩
def ZC (h:PE X e te):PO X (aa e) (RY te):=by
 intro ag s σ H Q I hw;rw[evalPart_some];refine nG (h ag s σ H _ I hw) λu s1 ⟨x,H1,I1,r1,q1⟩=>?_;obtain⟨i,rfl,q⟩:=q1;obtain⟨t,rfl⟩:=r1;exact⟨aa i,H1,I1, .int i t,q⟩
def uu (X:Cx) (r:V→Option Int→Option Int→Hp→VK→Prop):Prop:=
 ∀(ag:List (ai×aH)) (s:am) (σ:St) (H:Hp) (x:V) (v vl vu:aj) (lo hi:Option Int) (sl:ai) (Q:VK),mC X ag σ H s→mZ x v→s.heap.IsSliceOf sl vl vu .none→c5 vl lo→c5 vu hi→r x lo hi H Q→
  ∃T id,jb (.type T) "__getitem__" =pure (aa (.builtin id))∧s.TypeIs v T∧av (aB X.prog X.w) X.A (eH v (.ref sl)) (EP X ag σ Q) X.xe s
def uu.or{r r':V→Option Int→Option Int→Hp→VK→Prop}(h:uu X r) (h':uu X r'):uu X (λx lo hi H Q=>r x lo hi H Q∨r' x lo hi H Q):=by
 intro ag s σ H x v vl vu lo hi sl Q I rx hs pl pu q;obtain q |q:=q
 ·exact h ag s σ H x v vl vu lo hi sl Q I rx hs pl pu q
 ·exact h' ag s σ H x v vl vu lo hi sl Q I rx hs pl pu q
def O4 (r:V→Option Int→Option Int→Hp→VK→Prop) (te:TE) (tl th:TO):TE:=λσ H Q=>te σ H λx H1=>tl σ H1 λl H2=>th σ H2 λu H3=>r x l u H3 Q
def NN{X:Cx}{e:Expr}{te:TE}{lo hi:Option Expr}{tl th:TO}{pos p2:bw}{r:V→Option Int→Option Int→Hp→VK→Prop}(hr:uu X r) (he:PE X e te) (hl:PO X lo tl) (hu:PO X hi th):PE X (.Subscript e (.Slice lo hi none p2) pos) (O4 r te tl th):=by
 intro ag s σ H Q I h;refine Subscript_ (nG (he ag s σ H _ I h) λv s1 ⟨x,H1,I1,r1,q1⟩=>?_);refine wpAny_Slice (nG (hl ag s1 σ H1 _ I1 q1) λvl s2 ⟨l,H2,I2,pl,q2⟩=>nG (hu ag s2 σ H2 _ I2 q2) λvu s3 ⟨u,H3,I3,pu,q3⟩=>?_);rw[evalPart_none];refine aM ?_;have I4:mC X ag σ H3 { s3 with heap:=s3.heap.push { cls:= .type "slice",data:= .fields #[vl,vu, .none] } }:=I3.kept (t':=s3.toks) λb ob q=>aP _ q;obtain⟨T,id,hT,ht,hg⟩:=hr ag { s3 with heap:=s3.heap.push { cls:= .type "slice",data:= .fields #[vl,vu, .none] } } σ H3 x v vl vu l u s3.heap.objs.size Q I4 r1 (aE.IsSliceOf.new ..) pl pu q3;show av (aB X.prog X.w) X.A (subscriptTail e (.Slice lo hi none p2) v (.ref s3.heap.objs.size)) (EP X ag σ Q) X.xe { s3 with heap:=s3.heap.push { cls:= .type "slice",data:= .fields #[vl,vu, .none] } };exact tail_any (ops:=[.ref s3.heap.objs.size,v]) ht hT hg (by with_unfolding_all rfl)
noncomputable def td (xs:List V) (lo hi:Option Int):List V:=(xs.drop (HT.sIx xs.length 0 lo)).take (HT.sIx xs.length xs.length hi - HT.sIx xs.length 0 lo)
def N9 (xs:List V) (lo hi:Option Int):(td xs lo hi).length≤xs.length:=by
 unfold td;rw[c9,cS];lia
def Si (K:ao):V→Option Int→Option Int→Hp→VK→Prop:=λx lo hi H Q=>∃a xs,x= .ref a∧oZ K H a xs∧
 ¬(HT.sIx xs.length 0 lo=0∧HT.sIx xs.length xs.length hi=xs.length)∧ ∀p,H p=none→Q (.ref p) (nM H p (.bW (td xs lo hi)))
def Vo:uu X (Si X.K):=by
 intro ag s σ H x v vl vu lo hi sl Q I rx hs pl pu h;obtain⟨a,xs,rfl,hx,hw,q⟩:=h;cases rx;obtain⟨d5,r,ht,hz⟩:=I.tuple hx;have hlen:d5.toArray.size=xs.length:=by rw[bh];exact r.length.symm
 refine⟨"tuple",_,fo.lookup,ht.typeIs,?_⟩;refine HT.getItem_tuple_cut ht hs pl pu (by rw[hlen];exact hw) ?_ (by rw[hlen];exact hz);rw[hlen];refine⟨.ref s.heap.objs.size,_,I.laid (t':=s.toks) (o:= .bW (td xs lo hi)) (λb ob q=>aP _ q) (aA _) ?_,rfl,q _ (I.cD.fresh (aA _))⟩;exact⟨aY (N9 xs lo hi) hz,_,(r.drop (HT.sIx xs.length 0 lo)).take (HT.sIx xs.length xs.length hi - HT.sIx xs.length 0 lo),jo _ _⟩
def Dz (K:ao):R2:=λx y H Q=>∃a b xs ys,x= .ref a∧y= .ref b∧oZ K H a xs∧oZ K H b ys∧xs≠ []∧xs.length+ys.length≤sizeLine∧
 (ys=[]→Q (.ref a) H)∧(ys≠ []→ ∀p,H p=none→Q (.ref p) (nM H p (.bW (xs++ys))))
def mR.nil_iff (r:mR xs us):us=[]↔xs=[]:=by
 cases r with
 |nil=>simp
 |cons _ _=>simp
def ul:oh X (ca .Add) (Dz X.K):=by
 intro ag s σ H x y v u Q I rx ry h;obtain⟨a,b,xs,ys,rfl,rfl,ha,hb,hx,hz,q1,q2⟩:=h;cases rx;cases ry;obtain⟨d5,r1,p1,_⟩:=I.tuple ha;obtain⟨its2,r2,p2,_⟩:=I.tuple hb;refine HT.cat_tup p1 p2 (λz=>hx (r1.nil_iff.mp z)) (λz=>⟨.ref a,H,I,rfl,q1 (r2.nil_iff.mp z)⟩) (λz=>?_) (by rw[←r1.length,←r2.length];exact hz);refine⟨.ref s.heap.objs.size,_,I.laid (t':=s.toks) (o:= .bW (xs++ys)) (λb ob q=>aP _ q) (aA _) ?_,rfl,q2 (λw=>z (r2.nil_iff.mpr w)) _ (I.cD.fresh (aA _))⟩;exact⟨by rw[a_];exact hz,_,r1.append r2,jo _ _⟩
def tG (n:Nat) (i:Int):Option Nat:=if 0≤i then(if i<n then aa i.toNat else none) else if -(n:Int)≤i then aa (i+n).toNat else none
noncomputable def nE {α:Type}(xs:List α) (i:Int):Option α:=(tG xs.length i).bind λj=>xs[j]?
def Vv (h:tG n i=aa j):seqIndex? i n=aa j∧j<n∧ -(n:Int)≤i∧i<n:=by
 unfold tG at h;by_cases h0:0≤i
 ·rw[if_pos h0]at h;by_cases h1:i<n
  ·rw[if_pos h1]at h;have e:i.toNat=j:=aK h;exact⟨by rw[seqIndex_of h0 h1,e],by lia,by lia,h1⟩
  ·rw[if_neg h1]at h;cases h
 ·rw[if_neg h0]at h;by_cases h1: -(n:Int)≤i
  ·rw[if_pos h1]at h;have e:(i+n).toNat=j:=aK h;exact⟨by rw[seqIndex_neg (by lia) h1,e],by lia,h1,by lia⟩
  ·rw[if_neg h1]at h;cases h
def C0{α:Type}{xs:List α}{i:Int}{v:α}(h:nE xs i=aa v):∃j,seqIndex? i xs.length=aa j∧xs[j]? =aa v∧j<xs.length∧ -(xs.length:Int)≤i∧i<xs.length:=by
 unfold nE at h;cases e:tG xs.length i with
 |none=>rw[e]at h;cases h
 |some j=>
  rw[e]at h;obtain⟨h1,h2,h3,h4⟩:=Vv e;exact⟨j,h1,h,h2,h3,h4⟩
def G5{α:Type}{xs:List α}{j:Nat}{v:α}(h:xs[j]? =aa v):nE xs (j:Int)=aa v:=by
 have hj:j<xs.length:=(b6.mp h).1;have e:tG xs.length (j:Int)=aa j:=by
  unfold tG;rw[if_pos (by lia),if_pos (by lia)];simp
 unfold nE;rw[e];exact h
def BO (b:Expr):Prop:=∀o i,subscripted b false o i=operate [o,i] (eH o i)
def ub (X:Cx) (r:R2):Prop:=
 ∀(value slice:Expr) (ag:List (ai×aH)) (s:am) (σ:St) (H:Hp) (x y:V) (v u:aj) (Q:VK),mC X ag σ H s→mZ x v→mZ y u→r x y H Q→
  subscripted slice false v u=operate [v,u] (eH v u)→av (aB X.prog X.w) X.A (subscriptTail value slice v u) (EP X ag σ Q) X.xe s
def sQ (X:Cx) (id:String) (r:V→List V→Hp→VK→Prop):Prop:=
 ∀(ag:List (ai×aH)) (s:am) (σ:St) (H:Hp) (x:V) (xs:List V) (v:aj) (us:List aj) (Q:VK),mC X ag σ H s→mZ x v→mR xs us→r x xs H Q→
  av (aB X.prog X.w) X.A (call (.builtin id) (v::us)) (EP X ag σ Q) X.xe s
section
def ub.or{r r':R2}(h:ub X r) (h':ub X r'):ub X (λx y H Q=>r x y H Q∨r' x y H Q):=by
 intro value slice ag s σ H x y v u Q I rx ry q hs;obtain q |q:=q
 ·exact h value slice ag s σ H x y v u Q I rx ry q hs
 ·exact h' value slice ag s σ H x y v u Q I rx ry q hs
def sQ.or{id:String}{r r':V→List V→Hp→VK→Prop}(h:sQ X id r) (h':sQ X id r'):sQ X id (λx xs H Q=>r x xs H Q∨r' x xs H Q):=by
 intro ag s σ H x xs v us Q I rx rs q;obtain q |q:=q
 ·exact h ag s σ H x xs v us Q I rx rs q
 ·exact h' ag s σ H x xs v us Q I rx rs q
def Nu (hr:ub X r) (ha:PE X a ta) (hb:PE X b tb) (hs:BO b):PE X (.Subscript a b pos) (Cd r ta tb):=by
 intro ag s σ H Q I h;exact Subscript_ (FO ha hb I h λv u s2 x y H2 I2 rx ry q=>hr a b ag s2 σ H2 x y v u Q I2 rx ry q (hs _ _))
def Hx (K:ao):R2:=λx y H Q=>∃p xs i v,x= .ref p∧y= .int i∧oJ K H p xs∧nE xs i=aa v∧Q v H
def MV (K:ao):R2:=λx y H Q=>∃p xs i v,x= .ref p∧y= .int i∧oZ K H p xs∧nE xs i=aa v∧Q v H
def JN:R2:=λx y H Q=>∃z i c,x= .str z∧y= .int i∧z.length≤sizeLine∧nE z.cps.toList i=aa c∧Q (.str ⟨#[c]⟩) H
def uz:ub X (Hx X.K):=by
 intro value slice ag s σ H x y v u Q I rx ry h hs;obtain⟨p,xs,i,z,rfl,rfl,hq,he,q⟩:=h;cases rx;obtain⟨t,rfl⟩:=ry;obtain⟨d5,r,pl,hz⟩:=I.list hq;obtain⟨j,h1,h2,h3,h4,h5⟩:=C0 he;obtain⟨w,ew,rw'⟩:=r.get h2;have hl:=r.length;have hn:=xE;have fin:EP X ag σ Q w s:=⟨z,H,I,rw',q⟩;by_cases h0:0≤i
 ·have hj:i.toNat=j:=by
   rw[seqIndex_of h0 h5]at h1;exact aK h1
  exact item_listR pl.isList h0 (by lia) (by rw[hj];simpa using ew) fin hs
 ·have hj:(i+(d5.toArray.size:Int)).toNat=j:=by
   rw[seqIndex_neg (by lia) h4]at h1;rw[bh,←hl];exact aK h1
  exact kC (x:=w) pl.isList.typeIs lU.lookup
   (wpAny_getItem_list_neg (Q:=λr s'=>r=w∧EP X ag σ Q r s') pl.isList (by lia) (by rw[bh]<;>lia) (by lia) (by rw[hj];simpa using ew) ⟨rfl,fin⟩) hs
def v6:ub X (MV X.K):=by
 intro value slice ag s σ H x y v u Q I rx ry h hs;obtain⟨p,xs,i,z,rfl,rfl,hq,he,q⟩:=h;cases rx;obtain⟨t,rfl⟩:=ry;obtain⟨d5,r,pl,hz⟩:=I.tuple hq;obtain⟨j,h1,h2,h3,h4,h5⟩:=C0 he;obtain⟨w,ew,rw'⟩:=r.get h2;have hl:=r.length;have hn:=xE;have fin:EP X ag σ Q w s:=⟨z,H,I,rw',q⟩;exact kC (x:=w) pl.typeIs slot_tuple_getitem.lookup
  (getItem_tuple (j:=j) (Q:=λr s'=>r=w∧EP X ag σ Q r s') pl (by lia) (by lia) (by rw[bh,←hl];exact h1) (by simpa using ew) ⟨rfl,fin⟩) hs
def Ym:ub X JN:=by
 intro value slice ag s σ H x y v u Q I rx ry h hs;obtain⟨z,i,c,rfl,rfl,hz,he,q⟩:=h;obtain⟨t,rfl⟩:=rx;obtain⟨t',rfl⟩:=ry;obtain⟨j,h1,h2,h3,h4,h5⟩:=C0 he;have hl:z.cps.toList.length=z.length:=by simp [jf]
 rw[hl]at h1 h4 h5;have hn:=xE;exact tail_any (ix s z t) slot_str_getitem.lookup (getItem_str (c:=c) (by
  have e1:decide (i< -(2 ^ 63:Int))=false:=decide_eq_false (by lia);have e2:decide (i≥2 ^ 63)=false:=decide_eq_false (by lia);rw[e1,e2,lj]) (by rw[h1];simpa using h2) ⟨.str ⟨#[c]⟩,H,I.tok _,⟨_,rfl⟩,q⟩) hs
def Hf (K:ao):R2:=λx y H Q=>Hx K x y H Q∨MV K x y H Q∨JN x y H Q
def Jg:ub X (Hf X.K):=uz.or (v6.or Ym)
def YE (lo hi:Option Int) (n:Nat):(dZ lo hi none n).1=((HT.sIx n 0 lo:Nat):Int)∧(dZ lo hi none n).2.1=((HT.sIx n n hi:Nat):Int)∧(dZ lo hi none n).2.2=1:=by
 refine⟨?_,?_,rfl⟩
 ·cases lo with
  |none=>simp [dZ,HT.sIx]
  |some i=>
   simp only[dZ,HT.sIx,l6,show(1:Int) > 0 by decide,if_true]
   by_cases h:i<0
   ·simp only[h,if_true]<;>lia
   ·simp only[h,if_false]<;>lia
 ·cases hi with
  |none=>simp [dZ,HT.sIx]
  |some i=>
   simp only[dZ,HT.sIx,l6,show(1:Int) > 0 by decide,if_true]
   by_cases h:i<0
   ·simp only[h,if_true]<;>lia
   ·simp only[h,if_false]<;>lia
def Xc (d5:List aj) (lo hi:Option Int):slicePick d5.toArray lo hi none=((d5.drop (HT.sIx d5.length 0 lo)).take (HT.sIx d5.length d5.length hi - HT.sIx d5.length 0 lo)).toArray:=by
 obtain⟨h1,h2,h3⟩:=YE lo hi d5.toArray.size;unfold slicePick;rw[h1,h2,h3];simp only[jk,jd,bh]<;>rfl
def RF (K:ao):V→Option Int→Option Int→Hp→VK→Prop:=λx lo hi H Q=>∃a xs,x= .ref a∧oJ K H a xs∧ ∀p,H p=none→Q (.ref p) (nM H p (.bP (td xs lo hi)))
def Lu:uu X (RF X.K):=by
 intro ag s σ H x v vl vu lo hi sl Q I rx hs pl pu h;obtain⟨a,xs,rfl,hx,q⟩:=h;cases rx;obtain⟨d5,r,ht,hz⟩:=I.list hx;have hlen:=r.length;refine⟨"list",_,lU.lookup,ht.isList.typeIs,?_⟩;refine wpAny_getItem_list_slice ht.isList hs pl pu .none (by simp) ?_ (by rw[bh]<;>lia);rw[Xc,←hlen];refine⟨.ref s.heap.objs.size,_,I.laid (t':=s.toks) (o:= .bP (td xs lo hi)) (λb ob q=>aP _ q) (aA _) ?_,rfl,q _ (I.cD.fresh (aA _))⟩;exact⟨aY (N9 xs lo hi) hz,_,0,(r.drop (HT.sIx xs.length 0 lo)).take (HT.sIx xs.length xs.length hi - HT.sIx xs.length 0 lo),bI _ rfl⟩
def qz:nO X (.builtin "len") (λxs H Q=>∃p ys,xs=[.ref p]∧(oJ X.K H p ys∨oZ X.K H p ys)∧Q (.int ys.length) H):=by
 intro ag s σ H xs us Q I r h;obtain⟨p,ys,rfl,hq,q⟩:=h;obtain⟨u,rfl,rx⟩:=tZ r;cases rx;have hn:=xE;obtain hq |hq:=hq
 ·obtain⟨d5,r',pl,hz⟩:=I.list hq;have hlen:=r'.length;exact Calls.call_len_list pl.isList (by simp only[bh]<;>lia) ⟨.int ys.length,H,I.tok _,⟨s.toks+1,by rw[bh,hlen]⟩,q⟩
 ·obtain⟨d5,r',pl,hz⟩:=I.tuple hq;have hlen:=r'.length;exact len_tuple pl (by simp only[bh]<;>lia) ⟨.int ys.length,H,I.tok _,⟨s.toks+1,by rw[bh,hlen]⟩,q⟩
def Ur:nO X (.builtin "len") (λxs H Q=>∃z,xs=[.str z]∧z.length≤sizeLine∧Q (.int z.length) H):=by
 intro ag s σ H xs us Q I r h;obtain⟨z,rfl,hz,q⟩:=h;obtain⟨u,rfl,t,rfl⟩:=tZ r;have hn:=xE;exact len_str (by lia) ⟨.int z.length,H,I.tok _,⟨_,rfl⟩,q⟩
def nO.or{f:aj}{r r':List V→Hp→VK→Prop}(h:nO X f r) (h':nO X f r'):nO X f (λxs H Q=>r xs H Q∨r' xs H Q):=by
 intro ag s σ H xs us Q I rs q;obtain q |q:=q
 ·exact h ag s σ H xs us Q I rs q
 ·exact h' ag s σ H xs us Q I rs q
def zlS:nO X (.type "list") (λxs H Q=>∃p ys,xs=[.ref p]∧(oJ X.K H p ys∨oZ X.K H p ys)∧ ∀l,H l=none→Q (.ref l) (nM H l (.bP ys))):=by
 intro ag s σ H xs us Q I r h;obtain⟨p,ys,rfl,hq,q⟩:=h;obtain⟨u,rfl,rx⟩:=tZ r;cases rx;have fin:∀(d5:List aj),mR ys d5→ys.length≤sizeLine→ ∀(h':aE) (c':Nat),(∀b o',s.heap.get? b=aa o'→h'.get? b=aa o')→
   h'.get? s.heap.objs.size=aa { cls:= .type "list",dict:=none,data:= .seq d5.toArray c',slots:= #[] }→EP X ag σ Q (.ref s.heap.objs.size) { s with heap:=h' }:=λd5 r' hz h' c' kp e=>
  ⟨.ref s.heap.objs.size,_,I.laid (t':=s.toks) kp (aA _) (show nu X.prog X.w _ h' _ (.bP ys) from⟨hz,d5,c',r',e⟩),rfl,q _ (I.cD.fresh (aA _))⟩
 obtain hq |hq:=hq
 ·obtain⟨d5,r',pl,hz⟩:=I.list hq;have hlen:=r'.length;obtain⟨o,ho,hc,n,hd⟩:=pl.isList;exact call_list_seq p (.inl rfl) ho hc hd (λh' c' kp e=>fin d5 r' hz h' c' kp e) (by simp only[bh]<;>lia)
 ·obtain⟨d5,r',pl,hz⟩:=I.tuple hq;have hlen:=r'.length;obtain⟨o,ho,hc,n,hd⟩:=pl;exact call_list_seq p (.inr rfl) ho hc hd (λh' c' kp e=>fin d5 r' hz h' c' kp e) (by simp only[bh]<;>lia)
def M2:nO X (.type "tuple") (λxs H Q=>∃p ys,xs=[.ref p]∧((oJ X.K H p ys∧ ∀l,H l=none→Q (.ref l) (nM H l (.bW ys)))∨(oZ X.K H p ys∧Q (.ref p) H))):=by
 intro ag s σ H xs us Q I r h;obtain⟨p,ys,rfl,h⟩:=h;obtain⟨u,rfl,rx⟩:=tZ r;cases rx;obtain ⟨hq,q⟩ |⟨hq,q⟩:=h
 ·obtain⟨d5,r',pl,hz⟩:=I.list hq;have hlen:=r'.length;refine call_tuple_list pl.isList (λh' kp=>?_) (by simp only[bh]<;>lia);have I1:mC X ag σ H { s with heap:=h' }:=I.kept (t':=s.toks) kp;have I2:mC X ag σ (nM H h'.objs.size (.bW ys)) { s with heap:=h'.push { cls:= .type "tuple",data:= .seq d5.toArray } }:=
   I1.laid (t':=s.toks) (λb o e=>aP _ e) (aA _) (show nu X.prog X.w _ _ _ (.bW ys) from⟨hz,d5,r',jo _ _⟩)
  exact⟨.ref h'.objs.size,_,I2,rfl,q _ (I1.cD.fresh (aA _))⟩
 ·obtain⟨d5,r',pl,hz⟩:=I.tuple hq;exact call_tuple_same pl ⟨.ref p,H,I,rfl,q⟩
def AW (K:ao) (T:String) (x:V) (H:Hp):Prop:=match x with
 | .str _=>T= "str"
 | .int _=>T= "int"
 | .ref p=>(T= "list" ∧ ∃xs,oJ K H p xs)∨(T= "tuple" ∧ ∃o,K.lookup p=aa o∧o.cls= .type "tuple" ∧o.dict=none)∨
   (T= "dict" ∧((∃gA,H p=aa (.dK gA))∨ ∃gA,H p=aa (.dT gA)))∨(T= "set" ∧ ∃S n,H p=aa (.set S n))
 |_=>False
def N1 (I:mC X ag σ H s) (r:mZ x v) (ty:AW X.K T x H) :
  s.TypeIs v T∧ ∀a,v= .ref a→ ∃ob,s.heap.get? a=aa ob∧ob.dict=none:=by
 cases x with
 |str z=>
  obtain⟨t,rfl⟩:=r;cases(show T= "str" from ty);exact⟨ix s z t,λ_ e=>nomatch e⟩
 |int i=>
  obtain⟨t,rfl⟩:=r;cases(show T= "int" from ty);exact⟨iz s i t,λ_ e=>nomatch e⟩
 |ref p=>
  cases r;obtain ⟨rfl,xs,hq⟩ |⟨rfl,o,hk,hc,hd⟩ |⟨rfl,hk⟩ |⟨rfl,S,n,hk⟩:=ty
  ·obtain⟨d5,_,pl,_⟩:=I.list hq;refine⟨pl.isList.typeIs,λa e=>?_⟩;cases e;obtain⟨o,n,e,c,hd,_⟩:=pl;exact⟨o,e,hd⟩
  ·refine⟨⟨o,I.kIn p o hk,hc⟩,λa e=>?_⟩;cases e;exact⟨o,I.kIn _ o hk,hd⟩
  ·have z:∃o,s.heap.get? p=aa o∧o.ExactDict:=by
    obtain ⟨gA,hk⟩ |⟨gA,hk⟩:=hk
    ·obtain⟨_,_,_,_,o,_,_,e,ex,_⟩:=I.cD p _ hk;exact⟨o,e,ex⟩
    ·obtain⟨_,_,_,_,o,_,_,e,ex,_⟩:=I.cD p _ hk;exact⟨o,e,ex⟩
   obtain⟨o,e,ex⟩:=z;refine⟨⟨o,e,ex.1⟩,λa e2=>?_⟩;cases e2;exact⟨o,e,ex.2.1⟩
  ·obtain⟨o,_,_,_,e,ex,_⟩:=I.cD p _ hk;refine⟨⟨o,e,ex.1⟩,λa e2=>?_⟩;cases e2;exact⟨o,e,ex.2.1⟩
 |_=>exact cF ty
def R8 (K:ao) (T:String) (r:V→List V→Hp→VK→Prop) (to:TE):TE:=λσ H Q=>to σ H λx H1=>AW K T x H1∧r x [] H1 Q
def PD (K:ao) (T:String) (r:V→List V→Hp→VK→Prop) (to:TE) (t:TA):TE:=λσ H Q=>to σ H λx H1=>AW K T x H1∧t σ H1 λxs H2=>r x xs H2 Q
variable {o e:Expr}{es:List Expr}{to:TE}{t:TA}{name:ah}{apos cpos:bw}{T id:String}{r:V→List V→Hp→VK→Prop}
def OR (pa:gb T) (slot:Slot T name id) (hty:eZ (.builtin id)=pure (.type "method_descriptor")) (hm:sQ X id r) (ho:PE X o to)
  (hbase:cP o name X.env (aG o X.env)=aG o X.env) (hline:(apos.endLine == cpos.line)=true):PE X (.Call (.Attribute o name apos) [] [] cpos) (R8 X.K T r to):=by
 intro ag s σ H Q I h;refine wpAny_Call_method0_late hbase hline (nG (ho ag s σ H _ I h) λv s1 ⟨x,H1,I1,r1,ty,q1⟩=>?_);obtain⟨h1,h2⟩:=N1 I1 r1 ty;exact⟨T,id,pa,slot,hty,h1,h2,kw rfl (PySem.evalArgs_none (hm ag s1 σ H1 x [] v [] Q I1 r1 .nil q1))⟩
def NV (pa:gb T) (slot:Slot T name id) (hty:eZ (.builtin id)=pure (.type "method_descriptor")) (hm:sQ X id r) (ho:PE X o to) (ha:PA X (e::es) t)
  (hbase:cP o name X.env (aG o X.env)=aG o X.env)
  (hfew:((aZ cpos (ax (e::es) X.env)).all (λx=> !x.1)&&(dN cpos (dF [] X.env)).all (λx=>x.1.isSome)
   &&decide ((e::es).length+([]:List b9).length+(if([]:List b9).isEmpty then 0 else 1)<30))=true)
  (hline:(apos.endLine == cpos.line)=true) (hs:ax (e::es) X.env=(false,aG e X.env)::ax es X.env) (hplain:(aZ cpos (ax es X.env)).any (·.1)=false) :
  PE X (.Call (.Attribute o name apos) (e::es) [] cpos) (PD X.K T r to t):=by
 intro ag s σ H Q I h;refine wpAny_Call_method_late hbase hfew hline rfl (nG (ho ag s σ H _ I h) λv s1 ⟨x,H1,I1,r1,ty,q1⟩=>?_);obtain⟨h1,h2⟩:=N1 I1 r1 ty;refine⟨T,id,pa,slot,hty,h1,h2,?_⟩;have hA:=ha cpos ag s1 σ H1 _ I1 q1;rw[hs]at hA⊢;refine kw (by show(false || (aZ cpos (ax es X.env)).any (·.1))=false;rw[hplain]<;>rfl) (kg ?_)
 exact nG hA λus s2 ⟨vs,H2,I2,r2,q2⟩=>hm ag s2 σ H2 x vs v us Q I2 r1 r2 q2
end
def Cy (X:Cx) (id:String) (r:V→List V→Hp→VK→Prop):Prop:=
 ∀(ag:List (ai×aH)) (s:am) (σ:St) (H:Hp) (x:V) (xs:List V) (v:aj) (us:List aj) (Q:VK),mC X ag σ H s→mZ x v→mR xs us→r x xs H Q→
  av (aB X.prog X.w) X.A (call (.builtin id) (v::us)) (EP X ag σ Q) X.xe s
theorem mR.one:∀{x:V}{us:List aj},mR [x] us→ ∃u,us=[u]∧mZ x u
 |_,_, .cons r .nil=>⟨_,rfl,r⟩
theorem mR.rep (h:mR xs us):∀k:Nat,mR (bj k xs).flatten (bj k us).flatten
 |0=> .nil
 |k+1=>by
  rw[cO,cO,d6,d6];exact mR.append h (mR.rep h k)
theorem Kn (d5:List aj):∀(k:Nat) (acc:List aj),
  jH (λx1 x2=>x1++x2) acc.toArray (bj k d5.toArray)=(acc++(bj k d5).flatten).toArray
 |0,acc=>by simp
 |k+1,acc=>by
  have e:acc.toArray++d5.toArray=(acc++d5).toArray:=by simp
  have e2:(acc++d5)++(bj k d5).flatten=acc++(bj (k+1) d5).flatten:=by
   rw[cO,d6,bD]
  rw[←e2,←Kn d5 k (acc++d5),←e,cO,eX]
def mC.lset{d5 its':List aj}{n:Nat}{f:Array aj→Array aj}{t':Nat}(I:mC X ag σ H s) (hH:H l=aa (.bP xs))
  (e:s.heap.get? l=aa { cls:= .type "list",data:= .seq d5.toArray n }) (hf:f d5.toArray=its'.toArray) (hv:mR ys its') (hz:ys.length≤sizeLine) :
  mC X ag σ (nM H l (.bP ys)) { s with heap:=s.heap.update l (iS f),toks:=t' }:=by
 have q:=PySem.IsL.update e f;rw[hf]at q;refine I.write (x:=l) (e:=l) (by rw[hH];exact trivial) (.inl rfl) (λb' u hb hu=>(aE.get?_update_other s.heap (iS f) (bz hb)).trans hu) ⟨_,q⟩ ?_;exact⟨hz,its',_,hv,q⟩
def mC.lnew{t':Nat}(I:mC X ag σ H s) (hv:mR ys d5) (hz:ys.length≤sizeLine) :
  mC X ag σ (nM H s.heap.objs.size (.bP ys)) { s with heap:=s.heap.push { cls:= .type "list",data:= .seq d5.toArray },toks:=t' }:=
 I.laid (λ_ _ q=>aP _ q) (aA _) ⟨hz,d5,0,hv,bI _ rfl⟩
def mC.fresh (I:mC X ag σ H s):H s.heap.objs.size=none:=I.cD.fresh (aA _)
def mC.lstM (I:mC X ag σ H s) (hH:H l=aa (.bP xs)):xs.length≤sizeLine∧ ∃(d5:List aj) (n:Nat),mR xs d5∧xs.length=d5.length∧s.heap.get? l=aa { cls:= .type "list",data:= .seq d5.toArray n }:=by
 obtain⟨z,d5,n,r,e⟩:=I.cD l _ hH;exact⟨z,d5,n,r,r.length,e⟩
def Ga (h:n≤sizeLine):eY n=false:=by
 unfold eY;exact decide_eq_false (by lia)
def Gm:V→List V→Hp→VK→Prop:=λx vs H Q=>∃l xs y,x= .ref l∧vs=[y]∧H l=aa (.bP xs)∧xs.length<sizeLine∧Q .ci (nM H l (.bP (xs++[y])))
def Gn:Cy X "list.append" Gm:=by
 intro ag s σ H x vs v us Q I rx rv h;obtain⟨l,xs,y,rfl,rfl,hH,hz,q⟩:=h;cases rx;obtain⟨u,rfl,ru⟩:=rv.one;obtain⟨z,d5,n,r,hl,e⟩:=I.lstM hH;refine fD F.slot_list_append ⟨_,e,rfl⟩ F.entry_list_append (F.args_list_append_2 _ _) (PySem.list_append l d5.toArray n u (by rw[bh];lia)) ⟨e,?_⟩;refine⟨.ci,_,I.lset (its':=d5++[u]) hH e (by simp) (r.append (.cons ru .nil)) ?_,rfl,q⟩;rw[a_,cA];lia
def C8:V→List V→Hp→VK→Prop:=λx vs H Q=>∃l b xs zs,x= .ref l∧vs=[.ref b]∧H l=aa (.bP xs)∧H b=aa (.bP zs)∧xs.length+zs.length≤sizeLine∧Q .ci (nM H l (.bP (xs++zs)))
def N5:Cy X "list.extend" C8:=by
 intro ag s σ H x vs v us Q I rx rv h;obtain⟨l,b,xs,zs,rfl,rfl,hH,hB,hz,q⟩:=h;cases rx;obtain⟨u,rfl,ru⟩:=rv.one;cases ru;obtain⟨z,d5,n,r,hl,e⟩:=I.lstM hH;obtain⟨z2,its2,n2,r2,hl2,e2⟩:=I.lstM hB;have hsz:d5.toArray.size+its2.toArray.size≤sizeLine:=by rw[bh,bh];lia
 have hlong:¬(!d5.toArray.isEmpty&&eY (d5.toArray.size+its2.toArray.size))=true:=by
  rw[Ga hsz,fW];exact cW
 refine fD lI ⟨_,e,rfl⟩ ke (ma _ _)
  (AutoSeq1.list_extend_list_list_0 l d5.toArray n b its2.toArray n2 hlong (by rw[bh];lia) (by lia)) ⟨e,e2,?_⟩
 refine⟨.ci,_,I.lset (its':=d5++its2) hH e (by simp) (r.append r2) ?_,rfl,q⟩;rw[a_];lia
def Dk:R2:=λx y H Q=>∃l b xs zs,x= .ref l∧y= .ref b∧H l=aa (.bP xs)∧H b=aa (.bP zs)∧xs.length+zs.length≤sizeLine∧ ∀p,H p=none→Q (.ref p) (nM H p (.bP (xs++zs)))
def Bg:oh X (ca .Add) Dk:=by
 intro ag s σ H x y v u Q I rx ry h;obtain⟨l,b,xs,zs,rfl,rfl,hH,hB,hz,q⟩:=h;cases rx;cases ry;obtain⟨z,d5,n,r,hl,e⟩:=I.lstM hH;obtain⟨z2,its2,n2,r2,hl2,e2⟩:=I.lstM hB;refine PySem.P.add_list e e2 ?_ (by rw[bh,bh];lia);have ea:d5.toArray++its2.toArray=(d5++its2).toArray:=by simp
 rw[ea];exact⟨.ref _,_,I.lnew (t':=s.toks) (r.append r2) (by rw[a_];lia),rfl,q _ I.fresh⟩
def VI:R2:=λx y H Q=>∃l k xs,x= .ref l∧y= .int k∧H l=aa (.bP xs)∧ -(2 ^ 63)≤k∧k<2 ^ 63∧xs.length*k.toNat≤sizeLine∧
 ∀p,H p=none→Q (.ref p) (nM H p (.bP (bj k.toNat xs).flatten))
def Z4{α:Type}(xs:List α) (k:Nat):(bj k xs).flatten.length=k*xs.length:=by
 induction k with
 |zero=>simp
 |succ k ih=>rw[cO,d6,a_,ih,Nat.succ_mul,eB]
def VW:oh X (ca .Mult) VI:=by
 intro ag s σ H x y v u Q I rx ry h;obtain⟨l,k,xs,rfl,rfl,hH,h1,h2,hz,q⟩:=h;cases rx;obtain⟨t,rfl⟩:=ry;obtain⟨z,d5,n,r,hl,e⟩:=I.lstM hH;have hlen:d5.toArray.size*k.toNat≤sizeLine:=by rw[bh,←hl];exact hz
 have hcap:¬d5.toArray.size*k.toNat > (2 ^ 63 - 1) / 8:=by
  have:(sizeLine:Nat)≤(2 ^ 63 - 1) / 8:=by decide
  lia
 have hfit:¬(!Builtin.List.listFitsIndex k)=true:=by
  rw[fitsIndex_both h1 h2];exact cW
 have hlong:¬eY (d5.toArray.size*k.toNat)=true:=by
  rw[Ga hlen];exact cW
 have hnew:jH (λx1 x2=>x1++x2) #[] (bj (if d5.toArray.isEmpty=true then 0 else k.toNat) d5.toArray)=(bj k.toNat d5).flatten.toArray:=by
  have f0:∀m:Nat,jH (λx1 x2=>x1++x2) #[] (bj m d5.toArray)=(bj m d5).flatten.toArray:=λm=>by
   have:=Kn d5 m [];rw[aX]at this;exact this
  rw[f0];cases d5 with
  |nil=>simp
  |cons a r'=>rw[if_neg (by simp)]
 refine wpAny_binaryOp_repeat_ref (T:= "list") (U:= "int") (by decide) ⟨_,e,rfl⟩ (λs'=>iz s' k t) noFill_list_mul F.fills_int_mul lS repeat_list F.slot_int_index.lookup
  (fD lS (iz s k t) F.entry_int_rmul (F.args_int_rmul_2 _ _) (int___rmul___int_list k t l d5.toArray n)
   ⟨e,rfl,⟨_,e,rfl⟩,fD F.slot_list_mul ⟨_,e,rfl⟩ F.entry_list_mul (F.args_list_mul_2 _ _) (AutoListH.list___mul___list_int_3 l d5.toArray n k t hfit hcap hlong) ⟨e,?_⟩⟩)
 rw[hnew];exact⟨.ref _,_,I.lnew (t':=s.toks) (r.rep k.toNat) (by rw[Z4,Nat.mul_comm];exact hz),rfl,q _ I.fresh⟩
end L2
namespace Att
open PySem PySem.W PySem.Calls PyProof.Rows
def U6:∀(ns:List Int) (vs:List aj),WellAll P h vs (ns.map WData.int)→fM vs ns:=by
 intro ns
 induction ns with
 |nil=>
  intro vs w;rw[cy]at w;cases w;exact .nil
 |cons n ns ih=>
  intro vs w;rw[aC]at w;cases w with
  |cons a b=>
   cases a;exact .cons _ _ (ih _ b)
def Qm{l:OpenLaw}{n:Nat}(hn:l.most=aa n) {P:Params}{h:aE}{args:List WData}{vals:List aj}
  (hpre:l.row.toRowW.claim.pre args=true) (hwl:WellAll P h vals args) :
  ∃a vs ns,vals=[bM a]∧args=[WData.list (ns.map WData.int)]∧h.get? a=aa { cls:= .type "list",data:= .seq vs.toArray }∧fM vs ns∧ns.length≤n:=by
 have hsh:WShape.hasAll [] args [.list .int]=true:=(pre_splitW hpre).1;have hc:l.pre.holds [] { args:=args }=true:=(pre_splitW hpre).2;obtain⟨d,r,rfl,h1,h2⟩:=hasAllW_cons hsh;obtain rfl:=hasAllW_nil h2;obtain⟨xs,rfl,h3⟩:=hasW_list h1;obtain⟨ns,rfl⟩:=items_int h3;have hlen:ns.length≤n:=by
  unfold OpenLaw.pre at hc;have h4:(WTm.not (.lt (.lit (.int (n:Int))) (.len (.arg 0)))).holds [] { args:=[.list (ns.map .int)] }=true:=by
   have h4:=(holds_andW hc).1;rw[hn]at h4;exact h4
  have h5:=condW_of h4 (w_not (w_lt w_lit (w_len_list (w_arg rfl))));rw[ay]at h5;refine kF λq=>?_;have q':(n:Int)<((ns.length:Nat):Int):=by lia
  first
   | (rw[decide_eq_true q']at h5;exact absurd h5 (by decide))
   | (simp at h5;lia)
 cases hwl with
 |cons w1 w2=>
  cases w2;cases w1 with
  |list ho hall=>exact⟨_,_,ns,rfl,rfl,ho,U6 ns _ hall,hlen⟩
def RZ (l:OpenLaw) (args:List WData):l.row.toRowW.claim.post args (.bool true) args=true:=
 postW_of (r:=l.row.toRowW) (X:=(true == true))
  (show WShape.has [] (.bool true) .bool=true by first |rfl |decide |simp [WShape.has,WShape.arms,WShape.armsAll])
  (show(WTm.eq .res (.lit (.bool true))).value [] { args:=args,res:=aa (.bool true),after:=args }=aa (.bool (true == true)) from w_eq_bool (w_res rfl) w_lit) rfl
def attach_call{l:OpenLaw}{n:Nat}{q:bg}{loose:List ah}{XP:(ah→Option aj)→aE→Prop}{YP:aS→aE→Prop}{d:DefRec}
  (hn:l.most=aa n) (hdf:d.params.defaults=[])
  (call:∀(w:aS) (s₀ s₁:am) (mg mb:ah→Option aj) (fa:ai) (o:aH) (pm cd doc:aj) (a:ai) (vs:List aj) (ns:List Int),
   Ground q loose [] XP w s₀ mg mb s₁.heap→YP w s₁.heap→
   s₁.heap.get? fa=aa o→o.data= .func (docDef d.name d.params d.body d.scope pm cd doc)→s₁.heap.CodeRec cd d.name→mg d.name=aa (.ref fa)→
   s₁.heap.get? a=aa { cls:= .type "list",data:= .seq vs.toArray }→fM vs ns→ns.length≤n→s₁.gens= #[]→
   eD (aB l.prog w) eJ (.call (.ref fa) ⟨[.ref a],[]⟩) (λr s'=>r= .ok (.ret (.bool true))∧OldK s₁.heap s'.heap∧s'.os=s₁.os∧b_ s'.gens) s₁) :
  WalkO q loose XP YP l.row.toRowW d [] (λf vs=>jA f vs):=by
 intro w s₀ s₁ mg mb G Y fa o pm cd doc dV kV ho hd hcd hD hmg hg args vals as hpre hlay hrd hwl hlo;obtain rfl:dV= .none:=Dflts.none hD hdf;obtain rfl:kV= .none:=Dflts.noKw hD;obtain⟨a,vs,ns,rfl,rfl,hobj,hints,hlen⟩:=Qm hn hpre hwl;refine enter_call (jV (call w s₀ s₁ mg mb fa o pm cd doc a vs ns G Y ho (fd_plain hd) hcd hmg hobj hints hlen hg) λr s' hq=>?_);obtain⟨rfl,h2,h3,h4⟩:=hq;exact⟨.inl ⟨.bool true, .bool true,[],rfl,λ_=>rfl, .bool true,RZ l _,λ_=>⟨kQ.nil,λ_ hm=>(nomatch hm)⟩⟩,h2,h3,h4⟩
end Att
namespace L2
open PySem PySem.Spec PyProof.Rows
theorem HQ:∀{vs:List aj}{ns:List Int},fM vs ns→mR (ns.map V.int) vs
 |_,_, .nil=> .nil
 |_,_, .cons n t h=> .cons ⟨t,rfl⟩ (HQ h)
def Av (H:Hp):Prop:=∀b,H b=none∨ ∃o xs,H b=aa (.frz o (.bP xs))
def Yn{K:ao}{mg mb:ah→Option aj} 
  (KX:K.In s₁.heap) (hns:s₁.heap.Ns bp mg) (hb:s₁.heap.Ns il mb) (hbb:∀x:ah,x≠ "__name__" →mb x=cG x) (hlim:s₁.heap.NoLimit) (hg:s₁.gens= #[])
  (ha:s₁.heap.get? a=aa { cls:= .type "list",data:= .seq vs.toArray }) (hi:fM vs ns) (hl:ns.length≤sizeLine) (hr:om k eJ)
  (F:∀base:aE,K.In base→base.Ns bp mg→oV P w K mg base CX k fa fd [x] sp) (hbind:∀(s:am) (u:aj),e_ s fd ⟨[u],[]⟩ [(x,u)])
  (hsp:∀H:Hp,Av H→oJ K H a (ns.map V.int)→sp [.ref a] H (λv _=>v= .bl true) λ_ _ _=>False)
  (hCX:∀H e s',CX [] H s₁ (λ_ _ _=>False) e s'→False) :
  eD (aB P w) eJ (.call (.ref fa) ⟨[.ref a],[]⟩) (λr s'=>r= .ok (.ret (.bool true))∧OldK s₁.heap s'.heap∧s'.os=s₁.os∧b_ s'.gens) s₁:=by
 have rv:=HQ hi;have lenV:=hi.length;have core:∀H:Hp,Av H→oJ K H a (ns.map V.int)→n9 P w H s₁.heap→(∀b,H b≠none→b=a)→(H a≠none→K.lookup a=none)→
   eD (aB P w) eJ (.call (.ref fa) ⟨[.ref a],[]⟩) (λr s'=>r= .ok (.ret (.bool true))∧OldK s₁.heap s'.heap∧s'.os=s₁.os∧b_ s'.gens) s₁:=by
  intro H hO hS cD hA hK;have base_of:∀{b:ai}{o:aH},s₁.heap.get? b=aa o→H b=none→(ux s₁.heap H).get? b=aa o:=λe n=>U2 e n;have noA:∀{b:ai}{o:aH}{es:Array jS}{ep:Nat},s₁.heap.get? b=aa o→o.data= .dict es ep→H b=none:=λ{b o es ep} e d=>by
   cases q:H b with
   |none=>rfl
   |some u=>
    have e':b=a:=hA b (by rw[q];simp);subst e';rw[ha]at e;cases e;have d':Data.seq vs.toArray _=Data.dict es ep:=d;cases d'
  have nsK:∀{b:ai}{m:ah→Option aj},s₁.heap.Ns b m→(ux s₁.heap H).Ns b m:=λ{b m} ⟨o,es,ep,e,d,r⟩=>⟨o,es,ep,base_of e (noA e d),d,r⟩;have hKb:K.In (ux s₁.heap H):=λb o e=>base_of (KX b o e) (by
   cases q:H b with
   |none=>rfl
   |some u=>
    have e':b=a:=hA b (by rw[q];simp);subst e';rw[hK (by rw[q];simp)]at e;cases e)
  have hM:Mod K mg (ux s₁.heap H):=⟨hKb,nsK hns,⟨mb,nsK hb,hbb⟩,let ⟨mc,h1,h2⟩:=hlim;⟨mc,nsK h1,h2⟩⟩;have e0:sV P w K mg (ux s₁.heap H) eJ [] s₁ H:=⟨rfl,hM,λb o e=>UX e,fN (Qx _ _),trivial,λb hb=>absurd (show b∈([]:List ai) from hb) (by simp),cD, .of_eq hg⟩;refine jV ((F _ hKb (nsK hns)).run eJ [] s₁ H ⟨[.ref a],[]⟩ [.ref a] [.ref a] _ _ hr e0 (hbind s₁ (.ref a)) (.cons rfl .nil) (hsp H hO hS)) λr s' h=>?_;cases r with
  |error e=>exact(hCX H e s' h).elim
  |ok fl=>
   cases fl with
   |next=>exact cF h
   |brk=>exact cF h
   |cont=>exact cF h
   |ret u=>
    obtain⟨v,H',os,bare,un,hok',r',q⟩:=h;have q':v= .bl true:=q;subst q';obtain rfl:u=fe true:=r';refine⟨rfl,OldK.of_keep λb o e=>?_,os,bare⟩;cases q:H b with
    |none=>exact un.keep b o e q (by intro z;exact absurd (show b∈([]:List ai) from z) (by simp)) (by simp)
    |some u=>
     obtain z |⟨ob,xs,z⟩:=hO b
     ·rw[q]at z;cases z
     ·have z2:=un.frzs b ob _ z;obtain⟨e1,_⟩:=cD b _ z;obtain⟨e2,_⟩:=hok' b _ z2;rw[e]at e1;cases e1;exact e2
 cases hk:K.lookup a with
 |some o=>
  have e:=KX a o hk;rw[ha]at e;cases e;refine core (λ_=>none) (λ_=> .inl rfl) (.inr ⟨_,vs.toArray,_,hk,rfl,rfl,rfl,by rw[bh,lenV];exact hl,by simpa using rv⟩) (λb u z=>by have z':(none:Option HO)=aa u:=z;cases z') (λb z=>absurd rfl z) λz=>absurd rfl z
 |none=>
  refine core (λb=>if b=a then aa (.frz { cls:= .type "list",data:= .seq vs.toArray } (.bP (ns.map V.int))) else none) (λb=>?_) (.inl (.inr ⟨{ cls:= .type "list",data:= .seq vs.toArray },if_pos rfl⟩)) (λb u z=>?_) (λb z=>?_) λ_=>hk
  ·by_cases hb:b=a
   ·exact .inr ⟨_,_,if_pos hb⟩
   ·exact .inl (if_neg hb)
  ·by_cases hb:b=a
   ·have z':=(if_pos hb).symm.trans z;cases z';subst hb;exact⟨ha,by rw[ay];exact hl,vs,_,rv,ha⟩
   ·have z':=(if_neg hb).symm.trans z;cases z'
  ·by_cases hb:b=a
   ·exact hb
   ·exact absurd (if_neg hb) z
def TU{l:gu}{n k:Nat}{q:bg}{loose:List ah}{XP:(ah→Option aj)→aE→Prop}{YP:aS→aE→Prop}{d:DefRec}{K:Params→ao}{CX:aS→xz}{sp:aS→Sp}{x:ah}
  (hn:l.most=aa n) (hn2:n≤sizeLine) (hdf:d.params.defaults=[]) (hr:om k eJ)
  (hY:∀(w:aS) (h:aE),YP w h→(K w.params).In h)
  (F:∀(w:aS) (mg:ah→Option aj) (fa:ai) (h:aE),(K w.params).In h→h.Ns bp mg→mg d.name=aa (.ref fa)→
   ∃fd:dt,(∀(s:am) (u:aj),e_ s fd ⟨[u],[]⟩ [(x,u)])∧
    ∀base:aE,(K w.params).In base→base.Ns bp mg→oV l.prog w (K w.params) mg base (CX w) k fa fd [x] (sp w))
  (hsp:∀(w:aS) (H:Hp) (a:ai) (ns:List Int),ns.length≤n→Av H→oJ (K w.params) H a (ns.map V.int)→sp w [.ref a] H (λv _=>v= .bl true) λ_ _ _=>False)
  (hCX:∀(w:aS) (H:Hp) (s:am) (e:aj) (s':am),CX w [] H s (λ_ _ _=>False) e s'→False) :
  lP q loose XP YP l.row.toRowW d [] (λf vs=>jA f vs):=by
 refine Att.attach_call hn hdf λw s₀ s₁ mg mb fa o pm cd doc a vs ns G Y ho hd hcd hmg hobj hints hlen hg=>?_;have KX:=hY w _ Y;obtain⟨fd,hb,hF⟩:=F w mg fa _ KX G.T.g hmg;exact Yn KX G.T.g G.T.b G.T.builtins G.T.nolimit hg hobj hints (aY hlen hn2) hr hF hb (λH hO hS=>hsp w H a ns hlen hO hS) λH e s'=>hCX w H s₁ e s'
noncomputable def xg (s:aW):Arguments:=match s with
 | .FunctionDef _ a _ _ _ _ _ _ _ _=>a
 |_=>{ posonlyargs:=[],args:=[],vararg:=none,kwonlyargs:=[],kw_defaults:=[],kwarg:=none,defaults:=[] }
noncomputable def uk (s:aW):List aW:=match s with
 | .FunctionDef _ _ b _ _ _ _ _ _ _=>b
 |_=>[]
noncomputable def qt (s:aW):Scope:=match s with
 | .FunctionDef _ _ _ _ _ _ sc _ _ _=>sc
 |_=>{ kind:= .function,names:=[],isGenerator:=false,isCoroutine:=false }
abbrev IE:xz:=λ_ _ _ _ _ _=>False
structure tN (K:ao) (x qual:ah) (st:aW) (f:ai) (fd:dt):Prop where
  ex:∃(oc:aj) (od:Option ai) (kV doc pm:aj) (an:Option ai) (cdv ct:aj) (osl:Array (Option aj)),
    fd=dC x qual (xg st) (uk st) (qt st) .none kV doc pm an cdv ct∧K.lookup f=aa ⟨oc,od, .func fd,osl⟩∧gF K cdv qual=true
  kp:fh K (.ref f)=true
section
variable {P:bg}{w:aS}{K:ao}{mg:ah→Option aj}{base:aE}
def tN.ok{st:aW}(F:tN K x qual st f fd) (S:py N ps (qt st)) (len:∀vs H Q E,sp vs H Q E→vs.length=ps.length)
  (hbody:∀(cdv:aj) (A:bt) (outer:List bN) (s:am) (H:Hp) (vs:List V) (Q:VK) (E:XK),om k (A.deeper (cH qual (qt st) s.heap.objs.size f cdv))→sp vs H Q E→
   ∃t,qF (vi IE P w K mg base N qual (qt st) f cdv A outer s H E).nox (uk st) t∧t { nx:=λ_ H'=>Q .ci H',rt:=Q } (start N vs) H):oV P w K mg base IE (k+1) f fd ps sp:=by
 obtain⟨oc,od,kV,doc,pm,an,cdv,ct,osl,rfl,lk,hcd⟩:=F.ex;refine KH lk hcd S len λA outer s H vs Q E hr hsp=>?_;obtain⟨t,h,q⟩:=hbody cdv A outer s H vs Q E hr hsp;exact⟨t,h.nox,q⟩
def tN.binds{st:aW}(F:tN K x qual st f fd)
  (h:∀(kV doc pm:aj) (an:Option ai) (cdv ct:aj) (us:List aj),us.length=ps.length→jg (dC x qual (xg st) (uk st) (qt st) .none kV doc pm an cdv ct) ⟨us,[]⟩=pure (ps.zip us)):px K fd ps []:=by
 obtain⟨oc,od,kV,doc,pm,an,cdv,ct,osl,rfl,lk,hcd⟩:=F.ex;exact .all (h kV doc pm an cdv ct)
def Xv{st:aW}{kV doc pm cdv ct:aj}(l:K.lookup f=aa ⟨oc,od, .func (dC x qual (xg st) (uk st) (qt st) .none kV doc pm an cdv ct),osl⟩)
  (c:gF K cdv qual=true) (k:fh K (.ref f)=true):tN K x qual st f (dC x qual (xg st) (uk st) (qt st) .none kV doc pm an cdv ct):=⟨⟨oc,od,kV,doc,pm,an,cdv,ct,osl,rfl,l,c⟩,k⟩
end
def pv (i:Nat) (hN:X.N[i]? =aa x) (hv:vF X.env.scope x:=by first |exact hV rfl |exact eN (hV rfl) |exact eN (eN rfl)) (hd:(x == ("__debug__" :ah))=false)
  (hcd:(x == ("__classdict__" :ah))=false):PE X (.Name x pos) (G6 i):=Ju hN hv hd hcd
def UR{A B:Prop}(h:B):if false=true then A else B:=by
 rw[if_neg cW];exact h
def V2{A B:Prop}(h:A):if true=true then A else B:=by
 rw[if_pos rfl];exact h
section
variable {κ:Type} [DecidableEq κ]
noncomputable def rL (gA:List (κ×V)) (k:κ):Option V:=(gA.find? λkv=>decide (kv.1=k)).map (·.2)
noncomputable def tv (gA:List (κ×V)) (k:κ) (v:V):List (κ×V):=
 if(gA.any λkv=>decide (kv.1=k))=true then gA.map (λkv=>if kv.1=k then(kv.1,v) else kv) else gA++[(k,v)]
def CN{p:κ×V}{r:List (κ×V)}{k:κ}(e:p.1=k):rL (p::r) k=aa p.2:=by simp [rL,cc,e]
def CC{p:κ×V}{r:List (κ×V)}{k:κ}(e:¬p.1=k):rL (p::r) k=rL r k:=by simp [rL,cc,e]
theorem Ky (k:κ):∀gA:List (κ×V),(gA.any λkv=>decide (kv.1=k))=(rL gA k).isSome
 | []=>rfl
 |p::r=>by
  rw[fu];by_cases e:p.1=k
  ·simp only[CN e,decide_eq_true e,Bool.true_or,jX]
  ·rw[CC e,decide_eq_false e,md];exact Ky k r
def RR (gA:List (κ×V)) (k:κ) (v:V):(tv gA k v).length≤gA.length+1:=by
 unfold tv;split
 ·rw[ay];lia
 ·rw[a_,aU,db];lia
def qv.isSome_eq{o:Option V}{u:Option aj}(r:qv o u):o.isSome=u.isSome:=by
 cases o with
 |none=>cases u with
  |none=>rfl
  |some _=>exact(show False from r).elim
 |some _=>cases u with
  |none=>exact(show False from r).elim
  |some _=>rfl
def qv.getD{o:Option V}{u:Option aj}{d:V}{d':aj}(r:qv o u) (rd:mZ d d'):mZ (o.getD d) (u.getD d'):=by
 cases o with
 |none=>cases u with
  |none=>exact rd
  |some _=>exact(show False from r).elim
 |some _=>cases u with
  |none=>exact(show False from r).elim
  |some _=>exact r
def KV.val{gA:List (κ×V)}{vs:List (κ×aj)}(r:KV gA vs) (k:κ):qv (rL gA k) (eQ vs k):=by
 unfold KV at r
 induction r with
 |nil=>exact dB
 | @cons p q ps qs h t ih=>
  obtain⟨h1,h2⟩:=h;by_cases e:p.1=k
  ·have e':q.1=k:=h1.symm.trans e;have b:eQ (q::qs) k=aa q.2:=by simp [eQ,cc,e']
   rw[CN e,b];exact h2
  ·have e':¬q.1=k:=λz=>e (h1.trans z);have b:eQ (q::qs) k=eQ qs k:=by simp [eQ,cc,e']
   rw[CC e,b];exact ih
def KV.length{gA:List (κ×V)}{vs:List (κ×aj)}(r:KV gA vs):gA.length=vs.length:=fQ r
end
def DJ{P:bg}{w:aS}{k:Key}{u:aj}(r:mZ (kV k) u):(qN P w).is k u=true:=by
 cases k with
 |inl i=>obtain⟨t,e⟩:=(show ∃t,u=gm i t from r);subst e;exact Zg P w i t
 |inr x=>obtain⟨t,e⟩:=(show ∃t,u=fU x t from r);subst e;exact V3 P w x t
theorem K'{P:bg}{w:aS}:∀{ks:List Key}{us:List aj},mR (ks.map kV) us→ItemsAre (qN P w) ks us
 | [],_,r=>by rw[cy]at r;cases r;exact .nil
 |k::ks,_,r=>by
  rw[aC]at r;cases r with
  |cons h t=>exact .cons (DJ h) (K' t)
abbrev KT (H:Hp):List (List Key×V)→List (List Key×ai×aj)→Prop:=aN λp q=>p.1=q.1∧H q.2.1=aa (.bW (p.1.map kV))∧mZ p.2 q.2.2
def KT.val{H:Hp}{gA:List (List Key×V)}{xs:List (List Key×ai×aj)}(r:KT H gA xs) (k:List Key):qv (rL gA k) ((dU xs k).map (·.2)):=by
 induction r with
 |nil=>exact dB
 | @cons p q ps qs h t ih=>
  obtain⟨h1,_,h2⟩:=h;by_cases e:p.1=k
  ·have e':q.1=k:=h1.symm.trans e;have b:dU (q::qs) k=aa q.2:=by simp [dU,cc,e']
   rw[CN e,b];exact h2
  ·have e':¬q.1=k:=λz=>e (h1.trans z);have b:dU (q::qs) k=dU qs k:=by simp [dU,cc,e']
   rw[CC e,b];exact ih
def KT.repl{H:Hp}{gA:List (List Key×V)}{xs:List (List Key×ai×aj)}(r:KT H gA xs) (k:List Key) {y:V}{u:aj}(ry:mZ y u) :
  KT H (gA.map λkv=>if kv.1=k then(kv.1,y) else kv) (xs.map (putAt k u)):=by
 induction r with
 |nil=>exact .nil
 | @cons p q ps qs h t ih=>
  rw[aC,aC];refine .cons ?_ ih;obtain⟨h1,h2,h3⟩:=h;unfold putAt;by_cases e:p.1=k
  ·rw[if_pos e,if_pos (h1.symm.trans e)];exact⟨h1,h2,ry⟩
  ·rw[if_neg e,if_neg (λz=>e (h1.trans z))];exact⟨h1,h2,h3⟩
def KT.bQ{H:Hp}{gA:List (List Key×V)}{xs:List (List Key×ai×aj)}(r:KT H gA xs) (k:List Key) {b:ai}{y:V}{u:aj}(hb:H b=aa (.bW (k.map kV))) (ry:mZ y u) :
  KT H (tv gA k y) (gh xs k b u):=by
 have e:(gA.any λkv=>decide (kv.1=k))=(dU xs k).isSome:=by
  rw[Ky,(r.val k).isSome_eq,gN]
 unfold tv gh;rw[e];by_cases q:(dU xs k).isSome=true
 ·rw[if_pos q,if_pos q];exact r.repl k ry
 ·rw[if_neg q,if_neg q];exact aN.snoc r ⟨rfl,hb,ry⟩
def KT.keeps{H H':Hp}{gA:List (List Key×V)}{xs:List (List Key×ai×aj)}(r:KT H gA xs) (ht:∀b ys,H b=aa (.bW ys)→H' b=aa (.bW ys)):KT H' gA xs:=
 Paired.mapP r λ_ _ z=>⟨z.1,ht _ _ z.2.1,z.2.2⟩
def Ng{u:HO}(ok:n9 P w H h) (e:Rd H a u):nu P w H h a u:=e.ok ok
def Ll{gA:List (Key×V)}(ok:n9 P w H h) (e:Rd H a (.dK gA)):gA.length≤sizeLine∧(a == eV)=false∧ ∃vs,KV gA vs∧h.DictOf (qN P w) a vs:=
 show nu P w H h a (.dK gA) from Ng ok e
def BB{ks:List Key}(ok:n9 P w H h) (e:H a=aa (.bW (ks.map kV))):(cI (qN P w)).is h ks a:=by
 obtain⟨_,d5,r,o,h1,h2,n,h3⟩:=(show nu P w H h a (.bW (ks.map kV)) from ok a _ e);exact⟨o,d5.toArray,n,h1,h2,h3,by simpa using K' r⟩
def M8{gA:List (List Key×V)}(ok:n9 P w H h) (e:Rd H a (.dT gA)):gA.length≤sizeLine∧(a == eV)=false∧
  ∃xs,KT H gA xs∧h.DictOfH (cI (qN P w)) a xs:=by
 obtain⟨z,y,xs,r,o,es,ep,h1,h2,h3,h4,h5⟩:=(show nu P w H h a (.dT gA) from Ng ok e);refine⟨z,y,xs,r,o,es,ep,h1,h2,h3,h4,λx hx=>?_,h5⟩;have all:∀{l:List (List Key×V)}{m:List (List Key×ai×aj)},KT H l m→ ∀x∈m,(cI (qN P w)).is h x.1 x.2.1:=by
  intro l m q
  induction q with
  |nil=>intro x hx;exact nomatch hx
  | @cons p q ps qs hq t ih=>
   intro x hx;obtain e |hx:=az.mp hx
   ·subst e;exact BB ok (by rw[←hq.1];exact hq.2.1)
   ·exact ih x hx
 exact all r x hx
def sA (H:Hp) (a:ai) (y:V) (r:Option V):Prop:=
 (∃gA k,Rd H a (.dK gA)∧y=kV k∧r=rL gA k)∨ ∃gA k b,Rd H a (.dT gA)∧y= .ref b∧H b=aa (.bW (k.map kV))∧r=rL gA k
def sA.t{H:Hp}{a b:ai}{gA:List (List Key×V)}{k:List Key}(e:H a=aa (.dT gA)) (eb:H b=aa (.bW (k.map kV))):sA H a (.ref b) (rL gA k):= .inr ⟨gA,k,b, .inl e,rfl,eb,rfl⟩
section
variable {X:Cx}{ag:List (ai×aH)}{σ:St}{H:Hp}{s:am}{a:ai}{y:V}{u:aj}{o:Option V}{A:bt}{E:aj→am→Prop}
def mC.big (I:mC X ag σ H s):eV<s.heap.objs.size:=by
 have h:bp<s.heap.objs.size:=(I.mod.glob.keeps I.bk).lt;exact Nat.lt_trans (by decide) h
def RQ{Q:aj→am→Prop}(hu:A.units+1<cLine) (I:mC X ag σ H s) (g:sA H a y o) (ry:mZ y u) (h:∀s',mC X ag σ H s'→Q (.bool o.isSome) s') :
  av (aB X.prog X.w) A (bB .In u (.ref a)) Q E s:=by
 obtain ⟨gA,k,e,ey,l⟩ |⟨gA,k,b,e,ey,eb,l⟩:=g
 ·subst ey;obtain⟨z,hd,vs,rel,dd⟩:=Ll I.cD e;refine wpAny_in_of (DJ ry) hd dd.mapOf ?_;rw[←(rel.val k).isSome_eq,←l];exact h _ (I.tok _)
 ·subst ey;cases(show u=bM b from ry);obtain⟨z,hd,xs,rel,dd⟩:=M8 I.cD e;refine wpAny_in_heap (jQ hu) (BB I.cD eb) hd dd ?_;have q:=(rel.val k).isSome_eq;rw[gN]at q;rw[←q,←l];exact h _ (I.tok _)
def Qq{Q:aj→am→Prop}(hu:A.units+1<cLine) (I:mC X ag σ H s) (g:sA H a y o) (ry:mZ y u) (h:∀s',mC X ag σ H s'→Q (.bool (!o.isSome)) s') :
  av (aB X.prog X.w) A (bB .NotIn u (.ref a)) Q E s:=by
 obtain ⟨gA,k,e,ey,l⟩ |⟨gA,k,b,e,ey,eb,l⟩:=g
 ·subst ey;obtain⟨z,hd,vs,rel,dd⟩:=Ll I.cD e;refine wpAny_notIn_of (DJ ry) hd dd.mapOf ?_;rw[←(rel.val k).isSome_eq,←l];exact h _ (I.tok _)
 ·subst ey;cases(show u=bM b from ry);obtain⟨z,hd,xs,rel,dd⟩:=M8 I.cD e;refine wpAny_notIn_heap (jQ hu) (BB I.cD eb) hd dd ?_;have q:=(rel.val k).isSome_eq;rw[gN]at q;rw[←q,←l];exact h _ (I.tok _)
end
end L2
namespace Att
open PySem PySem.W PySem.Calls PyProof.Rows
end Att
namespace L2
open PySem PySem.Spec PyProof.Rows
section
variable {prog:bg}{w:aS}{A:bt}{R:Result→am→Prop}{s:am}
def XD (I:Nat→am→Prop)
  (turn:∀n s,I n s→av (aB prog w) A (cq it) (λr s₁=>match r with
   |none=>R (.ok .next) s₁
   |some v=>av (aB prog w) A (gP target it v) (λ_ s₀=>av (aB prog w) A (assign target env v) (λ_ s₂=>
     av (aB prog w) A (forIn ifs true λc r=>if r=true then do let ok ←isTrue c env (aG c env);pure (fy ok) else pure (fy r)) (λok s₃=>
      if ok=true then av (aB prog w) A (aG elt env) (λx s₄=>
       av (aB prog w) A (call (.builtin "list.append") [acc,x]) (λ_ s₅=>∃m,m<n∧I m s₅) (λ_ _=>False) s₄) (λ_ _=>False) s₃
      else ∃m,m<n∧I m s₃) (λ_ _=>False) s₂) (λ_ _=>False) s₀) (λ_ _=>False) s₁) (λ_ _=>False) s)
  (n:Nat) (h:I n s) :
  eD (aB prog w) A (.compLoop (.ListComp elt [⟨target,iter,ifs,0⟩] scope pos) 0 it acc env) R s:=by
 refine codeAny_loop rfl I (λn s hI=>?_) n h;show av _ A ((compTurn (.ListComp elt [⟨target,iter,ifs,0⟩] scope pos) 0 it acc env).onRaise (λx=>do ju x env;theTreesLotGoes x)) _ _ s;refine wpAny_noted ?_;rw[compTurn_list];refine au (wpAny_standAt (au (cm (turn n s hI) (λr s₁ h₁=>?_) λ_ _ h'=>h'.elim)));cases r with
 |none=>exact aM h₁
 |some v=>
  refine au (cm h₁ (λ_ s₀ h₀=>?_) λ_ _ h'=>h'.elim);refine au (cm h₀ (λ_ s₂ h₂=>au (cm h₂ (λok s₃ h₃=>?_) λ_ _ h'=>h'.elim)) λ_ _ h'=>h'.elim);cases ok with
  |false=>exact aM ⟨rfl,h₃⟩
  |true=>
   exact au (au (cm h₃ (λx s₄ h₄=>au (cm h₄ (λ_ s₅ h₅=>aM (aM ⟨rfl,h₅⟩)) λ_ _ h'=>h'.elim)) λ_ _ h'=>h'.elim))
end
noncomputable def qk (cells:List (ah×ai)):List (ah×b8)→List (ah×ai)→List (ah×ai)
 | [],acc=>acc
 | (n,k)::r,acc=>if(k == bc)=true then qk cells r ((n,(cells.lookup n).getD 0)::acc) else qk cells r acc
def Ui (h:∀y∈scope.names,y.2= .free→ ∃c,env.cells.lookup y.1=aa c) :
  closureFor scope env=pure (qk env.cells scope.names []):=by
 have go:∀(l:List (ah×b8)) (acc:List (ah×ai)),(∀y∈l,y.2= .free→ ∃c,env.cells.lookup y.1=aa c)→
   (forIn l acc λ(x:ah×b8) (cs:List (ah×ai))=>(if(x.2 == bc)=true then(do let a ←cellOf env x.1;pure (fy ((x.1,a)::cs))) else pure (fy cs):ce (ForInStep (List (ah×ai)))))=(pure (qk env.cells l acc):ce (List (ah×ai))):=by
  intro l
  induction l with
  |nil=>intro acc _;rfl
  |cons x l ih=>
   intro acc hl;obtain⟨n,k⟩:=x;have hr:=λy hy=>hl y (aI _ hy);rw[iT];by_cases hk:k= .free
   ·subst hk;obtain⟨c,hc⟩:=hl (n, .free) aL rfl;have hc':env.cells.lookup n=aa c:=hc;have e:cellOf env n=pure c:=by unfold cellOf;rw[hc']
    have e2:qk env.cells ((n,bc)::l) acc=qk env.cells l ((n,c)::acc):=by
     show(if(bc == bc)=true then qk env.cells l ((n,(env.cells.lookup n).getD 0)::acc) else qk env.cells l acc)=_;rw[if_pos (by rfl),hc'];rfl
    dsimp only;rw[if_pos (by rfl),e,gV,gV,e2];exact ih _ hr
   ·have hb:¬(k == bc)=true:=by simpa using hk
    have e2:qk env.cells ((n,k)::l) acc=qk env.cells l acc:=by
     show(if(k == bc)=true then qk env.cells l ((n,(env.cells.lookup n).getD 0)::acc) else qk env.cells l acc)=_;rw[if_neg hb]
    dsimp only;rw[if_neg hb,gV,e2];exact ih _ hr
 have q:=go scope.names [] h;unfold closureFor
 first
  |exact(bind_pure _).trans q
  | (simp only[bind_pure];exact q)
  | (simp only[gV,bind_assoc,bind_pure];exact q)
theorem D4:∀(l:List (ah×b8)) (acc:List (ah×ai)),(∀y∈l,y.2= .free→ ∃c,cells.lookup y.1=aa c)→
  (qk cells l acc).lookup x=aa c→acc.lookup x=aa c∨cells.lookup x=aa c
 | [],acc,_,h=> .inl h
 | (n,k)::r,acc,hl,h=>by
  have hr:=λy hy=>hl y (aI (n,k) hy);by_cases hk:k= .free
  ·subst hk;have h':(qk cells r ((n,(cells.lookup n).getD 0)::acc)).lookup x=aa c:=h;obtain q |q:=D4 r _ hr h'
   ·rw[cu]at q;cases e:x == n with
    |true=>
     rw[e]at q;obtain⟨d,hd⟩:=hl (n, .free) aL rfl;have hd':cells.lookup n=aa d:=hd;have e1:x=n:=ic e;rw[hd']at q;have q':d=c:=aK q;exact .inr (by rw[e1,hd',q'])
    |false=>
     rw[e]at q;exact .inl q
   ·exact .inr q
  ·have hb:¬(k == bc)=true:=by simpa using hk
   have h':(if(k == bc)=true then qk cells r ((n,(cells.lookup n).getD 0)::acc) else qk cells r acc).lookup x=aa c:=h;rw[if_neg hb]at h';exact D4 r acc hr h'
theorem AV:∀(l:List (ah×b8)) (acc:List (ah×ai)),((x,bc)∈l∨ ∃c,acc.lookup x=aa c)→ ∃c,(qk cells l acc).lookup x=aa c
 | [],acc,h=>by
  obtain h |h:=h
  ·cases h
  ·exact h
 | (n,k)::r,acc,h=>by
  by_cases hk:k= .free
  ·subst hk;refine AV r ((n,(cells.lookup n).getD 0)::acc) ?_;cases e:x == n with
   |true=>exact .inr ⟨_,by rw[cu,e]⟩
   |false=>
    obtain h |⟨c,h⟩:=h
    ·obtain q |q:=az.mp h
     ·have:x=n:=congrArg Prod.fst q;rw[this]at e;simp at e
     ·exact .inl q
    ·exact .inr ⟨c,by rw[cu,e];exact h⟩
  ·have hb:¬(k == bc)=true:=by simpa using hk
   show ∃c,(if(k == bc)=true then qk cells r ((n,(cells.lookup n).getD 0)::acc) else qk cells r acc).lookup x=aa c;rw[if_neg hb];refine AV r acc ?_;obtain h |h:=h
   ·obtain q |q:=az.mp h
    ·exact absurd (congrArg iw q).symm hk
    ·exact .inl q
   ·exact .inr h
theorem B7{env:bN}{x:ah}{k:b8}:∀{names:List (ah×b8)},(∀y∈names,y.2≠ .cell)→
  (names.map λ(n,k)=>if(k == bc&&env.scope.kind == .function&&env.kindOf n == aa .cell) then(n,cj) else(n,k)).lookup x=aa k→(k= .cell∨k= .free)→(x,bc)∈names
 | [],_,h,_=>by simp at h
 | (n,j)::r,hc,h,hk=>by
  have h':iq x ((if(j == bc&&env.scope.kind == .function&&env.kindOf n == aa .cell)=true then(n,cj) else(n,j)) ::
   (r.map λ(n,k)=>if(k == bc&&env.scope.kind == .function&&env.kindOf n == aa .cell) then(n,cj) else(n,k)))=aa k:=h
  have hr:=λy hy=>hc y (aI (n,j) hy);have hj:j≠ .cell:=hc (n,j) aL;cases e:x == n with
  |true=>
   have e1:x=n:=ic e;subst e1;by_cases c:(j == bc&&env.scope.kind == .function&&env.kindOf x == aa .cell)=true
   ·have c1:(j == bc)=true:=by
     cases q:(j == bc) with
     |true=>rfl
     |false=>rw[q]at c;simp at c
    have c2:j= .free:=by simpa using c1
    rw[c2];exact aL
   ·rw[if_neg c]at h';simp only[cu,beq_self_eq_true]at h';have h2:j=k:=aK h';obtain z |z:=hk
    ·exact absurd (h2.trans z) hj
    ·rw[h2,z];exact aL
  |false=>
   by_cases c:(j == bc&&env.scope.kind == .function&&env.kindOf n == aa .cell)=true
   ·rw[if_pos c]at h';simp only[cu,e]at h';exact aI _ (B7 hr h' hk)
   ·rw[if_neg c]at h';simp only[cu,e]at h';exact aI _ (B7 hr h' hk)
theorem EI{env:bN}{x:ah}:∀{names:List (ah×b8)},names.lookup x=aa .free→
  (names.map λ(n,k)=>if(k == bc&&env.scope.kind == .function&&env.kindOf n == aa .cell) then(n,cj) else(n,k)).lookup x=aa .cell∨
  (names.map λ(n,k)=>if(k == bc&&env.scope.kind == .function&&env.kindOf n == aa .cell) then(n,cj) else(n,k)).lookup x=aa .free
 | [],h=>by simp at h
 | (n,j)::r,h=>by
  show iq x ((if(j == bc&&env.scope.kind == .function&&env.kindOf n == aa .cell)=true then(n,cj) else(n,j)) ::
   (r.map λ(n,k)=>if(k == bc&&env.scope.kind == .function&&env.kindOf n == aa .cell) then(n,cj) else(n,k)))=_∨
   iq x ((if(j == bc&&env.scope.kind == .function&&env.kindOf n == aa .cell)=true then(n,cj) else(n,j)) ::
   (r.map λ(n,k)=>if(k == bc&&env.scope.kind == .function&&env.kindOf n == aa .cell) then(n,cj) else(n,k)))=_
  cases e:x == n with
  |true=>
   simp only[cu,e]at h;have h2:j= .free:=aK h;subst h2;by_cases c:(bc == bc&&env.scope.kind == .function&&env.kindOf n == aa .cell)=true
   ·rw[if_pos c];simp only[cu,e];exact .inl trivial
   ·rw[if_neg c];simp only[cu,e];exact .inr trivial
  |false=>
   simp only[cu,e]at h;by_cases c:(j == bc&&env.scope.kind == .function&&env.kindOf n == aa .cell)=true
   ·rw[if_pos c];simp only[cu,e];exact EI h
   ·rw[if_neg c];simp only[cu,e];exact EI h
noncomputable def pQ (X:Cx) (scope:Scope) (N:List ah) (s:am) (H:Hp) (fp:List ai) (ag:List (ai×aH)):Cx:=
 { X with N:=N,s₀:=s,H₀:=H,env:=compEnvC scope (qk X.env.cells scope.names []) s.heap.objs.size X.env,outer:=X.stack,stack:=X.stack,ex:=fp,fn:=λ_=>false,pn:=X.pn++ag,xe:=λ_ _=>False }
structure nB (X:Cx) (scope:Scope) (N:List ah) (k:Nat) (fr:List Nat):Prop where
  kind:scope.kind= .function
  nd:N.Nodup
  len:N.length=k+fr.length
  cell:(scope.names.all λy=>y.2 != cj)=true
  loc:(scope.names.all λy=>y.2 != b8.local || scope.names.lookup y.1 == aa b8.local)=true
  free:(scope.names.all λy=>y.2 != bc || X.env.kindOf y.1 == aa cj || X.env.kindOf y.1 == aa bc)=true
  frs:((N.drop k).all λx=>scope.names.lookup x == aa bc)=true
  pl:N.drop k=fr.map λj=>X.N.getD j fI
  plen:(fr.all λj=>decide (j<X.N.length))=true
noncomputable def vT (σ:St) (fr:List Nat):St:=fr.map λj=>(σ[j]?).join
noncomputable def BE (σ:St) (k:Nat) (fr:List Nat):St:=bj k none++vT σ fr
def nB.cell' (S:nB X scope N k fr):∀y∈scope.names,y.2≠ .cell:=λy hy=>by
 have q:=cQ.mp S.cell y hy;simpa using q
def nB.loc' (S:nB X scope N k fr):∀y∈scope.names,y.2= .local→scope.names.lookup y.1=aa .local:=λy hy e=>by
 have q:=cQ.mp S.loc y hy;rw[e]at q;simpa using q
def nB.kinds (S:nB X scope N k fr):∀y∈scope.names,y.2= .free→X.env.kindOf y.1=aa .cell∨X.env.kindOf y.1=aa .free:=λy hy e=>by
 have q:=cQ.mp S.free y hy;rw[e]at q;simpa using q
def nB.hasCell (S:nB X scope N k fr) (ok:X.Ok):∀y∈scope.names,y.2= .free→ ∃c,X.env.cells.lookup y.1=aa c:=λy hy e=>ok.has y.1 (S.kinds y hy e)
def nB.sub (S:nB X scope N k fr) (ok:X.Ok) (h:(qk X.env.cells scope.names []).lookup x=aa c):X.env.cells.lookup x=aa c:=by
 obtain q |q:=D4 scope.names [] (S.hasCell ok) h
 ·simp at q
 ·exact q
def Vp (I:mC X ag σ H s) (S:nB X scope N k fr) (hfp:∀b∈fp,qL X ag H b) (hob:∀b∈fp,∃o,s.heap.get? b=aa o):(pQ X scope N s H fp ag).Ok where
  mod:=I.ok.mod
  kind:=S.kind
  glob:=I.ok.glob
  blt:=I.ok.blt
  above:=aA _
  inj:=λx y c h1 h2=>I.ok.inj x y c (S.sub I.ok h1) (S.sub I.ok h2)
  has:=λx hx=>AV scope.names [] (.inl (by
    obtain hx |hx:=hx
    · exact B7 S.cell' hx (.inl rfl)
    · exact B7 S.cell' hx (.inr rfl)))
  cab:=λx c h _=>absurd h (by show ¬(false=true);decide)
  hd:=I.ok.hd
  frames:=I.ok.frames
  stk:= .inl rfl
  exf:=λb hb=>⟨by
    obtain⟨o,e⟩:=hob b hb;exact bR (aO e),λx c h=>(hfp b hb).2.2.2.2.1 x c (S.sub I.ok h)⟩
  bs:=I.bs
  bsz:=aY I.ok.bsz I.sz
  noex:=λb o e hb=>by
    rcases(hfp b hb).2.2.2.1 with z |z
    · exact I.ok.noex b o e z
    · exact absurd (bY (aO (I.ok.bs b o e).1) z) (cR _)
  exfs:=λb hb z=>by
    obtain q |q:=az.mp (I.stkSub b z)
    · exact(hfp b hb).2.1 q
    · exact(hfp b hb).2.2.1 q
  funs:=I.stack
  frf:=I.stkFree
def RG (I:mC X ag σ H s) (S:nB X scope N k fr) (hb:b∈fp) (hf:qL X ag H b) (hob:∃o,s.heap.get? b=aa o) (hn:H' b=none):qL (pQ X scope N s H fp ag) [] H' b:=by
 refine⟨hn,?_,λz=>?_, .inl hb,λx c h=>hf.2.2.2.2.1 x c (S.sub I.ok h),λp hp=>?_⟩
 ·obtain⟨o,e⟩:=hob;exact bR (aO e)
 ·obtain q |q:=az.mp (I.stkSub b z)
  ·exact hf.2.1 q
  ·exact hf.2.2.1 q
 ·obtain z |z:=bn.mp hp
  ·exact hf.2.2.2.2.2 p z
  ·cases z
def We{j:Nat}{v:V}(h:(vT σ fr)[j]? =aa (aa v)):∃i,fr[j]? =aa i∧σ[i]? =aa (aa v):=by
 unfold vT at h;rw[aT]at h;cases e:fr[j]? with
 |none=>rw[e]at h;cases h
 |some i=>
  rw[e]at h;have h':(σ[i]?).join=aa v:=aK h;refine⟨i,rfl,?_⟩;cases q:σ[i]? with
  |none=>rw[q]at h';cases h'
  |some o=>
   rw[q]at h';have h2:o=aa v:=h';rw[h2]
def Y1 (I:mC X ag σ H s) (S:nB X scope N k fr) (hfp:∀b∈fp,qL X ag H b) (hob:∀b∈fp,∃o,s.heap.get? b=aa o) {h1:aE}{tk:Nat}{m:ah→Option aj}
    (hns:h1.Ns s.heap.objs.size m) (hk:∀b o,s.heap.get? b=aa o→h1.get? b=aa o):mC (pQ X scope N s H fp ag) [] (BE σ k fr) H { s with heap:=h1,toks:=tk } where
  ok:=Vp I S hfp hob
  os:=rfl
  bare:=I.bare
  base:=Un.kept hk
  loc:=⟨m,hns,λi x v e1 e2 e3=>by
    have e2':(bj k (none:Option V)++vT σ fr)[i]? =aa (aa v):=e2;have hi:k≤i:=by
      refine kF λz=>?_;rw[ku (by simpa using z),lx]at e2';split at e2'<;>cases e2'
    rw[iY (by simpa using hi),jK]at e2';obtain⟨j,f1,f2⟩:=We e2';have e1':N[i]? =aa x:=e1;have d1:(N.drop k)[i - k]? =aa x:=by
      rw[j5];have:k+(i - k)=i:=by lia
      rw[this];exact e1'
    have d2:=d1;rw[S.pl,aT,f1]at d2;have d3:X.N.getD j fI=x:=aK d2;have jl:j<X.N.length:=of_decide_eq_true (cQ.mp S.plen j (aJ f1));have d4:X.N[j]? =aa x:=by
      rw[bv,aR jl]at d3;rw[aR jl];exact congrArg aa d3
    have fk:scope.names.lookup x=aa .free:=by
      have q:=cQ.mp S.frs x (aJ d1);simpa using q
    have hmem:(x,bc)∈scope.names:=fB fk;have kd:=S.kinds _ hmem rfl;have vis:vF X.env.scope x:=by
      obtain z |z:=kd
      · exact .inr (.inl z)
      · exact .inr (.inr z)
    obtain⟨m0,_,hl⟩:=I.loc;obtain⟨u,ru,lk⟩:=hl j x v d4 f2 vis;refine⟨u,ru, .inr ⟨EI fk,?_⟩⟩;have kd':X.env.kindOf x=aa .cell∨X.env.kindOf x=aa .free:=kd;obtain ⟨z,_⟩ |⟨_,c,hc,hcell⟩:=lk
    · rcases kd' with q |q<;>(rw[z]at q;cases q)
    · obtain⟨c',hc'⟩:=AV (cells:=X.env.cells) scope.names [] (.inl hmem);have e:=S.sub I.ok hc';rw[hc]at e;cases e;exact⟨c,hc',hcell.keeps hk⟩⟩
  cell:=λx c h=>by
    obtain⟨v,z⟩:=I.cell x c (S.sub I.ok h);exact⟨v,z.keeps hk⟩
  free:=I.cD.fresh (aA _)
  freeC:=λx c h=>I.freeC x c (S.sub I.ok h)
  pin:=λp hp=>by
    have hp':p∈X.pn++ag:=by
      obtain z |z:=bn.mp hp
      · exact z
      · cases z
    obtain⟨e,n,ne,nf,d⟩:=I.pin p hp';refine⟨hk _ _ e,n,bR (aO e),λz=>?_,d⟩;obtain q |q:=az.mp (I.stkSub p.1 z)
    · exact ne q
    · exact nf q
  cD:=I.cD.kept hk
  len:=by
    show(bj k (none:Option V)++vT σ fr).length=N.length;rw[a_,jK,S.len];unfold vT;rw[ay]
def N4 (I:mC X ag σ H s) (hfp:∀b∈fp,qL X ag H b) (J:mC (pQ X scope N s H fp ag) [] σ' H' s') (sb:cL s.heap.objs.size s'.heap h'):mC X ag σ H' { s' with heap:=h' }:=by
 have neC:∀b o,s.heap.get? b=aa o→b≠s.heap.objs.size:=λb o e=>bR (aO e);have frC:H' s.heap.objs.size=none:=J.free;refine mC.call' (s':={ s' with heap:=h' }) (ch:=fp) I J.os ⟨λb o e n hf hx=>?_,λb o e n hf hx=>?_,λb o e n hx=>J.base.free b o e n hx,λb o e hx=>?_,J.base.tups,J.base.frzs,J.base.tbls⟩ (λb o e=>?_) J.bare λb hb=>⟨(hfp b hb).2.2.2.1,(hfp b hb).2.1,(hfp b hb).2.2.2.2.1,(hfp b hb).2.2.2.2.2⟩
 ·exact(sb.2 b (neC b o e)).trans (J.base.keep b o e n hf hx)
 ·obtain⟨sl,q⟩:=J.base.slot b o e n hf hx;exact⟨sl,(sb.2 b (neC b o e)).trans q⟩
 ·obtain⟨o',q⟩:=J.base.there b o e hx;exact⟨o',(sb.2 b (neC b o e)).trans q⟩
 ·refine(J.cD b o e).stay (λc v hc q=>(sb.2 c ?_).trans q) (λ_ q=>q) λ_ _ q=>q;rintro rfl;obtain rfl |hc:=hc
  ·rw[frC]at e;cases e
  ·rw[frC]at hc;cases hc
def Bh (X:Cx) (ifs:List Expr) (t:TT):Prop:=
 ∀(ag:List (ai×aH)) (s:am) (σ:St) (H:Hp) (Q:Bool→Hp→Prop),mC X ag σ H s→t σ H Q→
  av (aB X.prog X.w) X.A (forIn ifs true λc r=>if r=true then do let ok ←isTrue c X.env (aG c X.env);pure (fy ok) else pure (fy r)) (TP X ag σ Q) X.xe s
def Xg:TT:=λ_ H Q=>Q true H
def Sa:Bh X [] Xg:=λ_ _ _ H _ I h=>wpAny_tests_nil ⟨H,I,h⟩
def Yr (h:PT X c t):Bh X [c] t:=λag s σ H Q I q=>wpAny_tests_one (h ag s σ H Q I q)
def X6 (X:Cx) (scope:Scope) (N:List ah) (tg:Expr) (ifs:List Expr) (elt:Expr) (l:ai) (x:V) (σ:St) (H:Hp) (M:St→Hp→Prop):Prop:=
 ∀(s₀:am) (H₀:Hp) (fp:List ai) (pn:List (ai×aH)),∃(g:TG) (tt:TT) (te:TE),PG (pQ X scope N s₀ H₀ fp pn) tg g∧Bh (pQ X scope N s₀ H₀ fp pn) ifs tt∧PE (pQ X scope N s₀ H₀ fp pn) elt te∧
  g x σ H λσ2 H2=>tt σ2 H2 λb H3=>if b=true then te σ2 H3 λy H4=>∃ys,H4 l=aa (.bP ys)∧ys.length<sizeLine∧M σ2 (nM H4 l (.bP (ys++[y]))) else M σ2 H3
def PV (X:Cx) (scope:Scope) (N:List ah) (k:Nat) (fr:List Nat) (tg:Expr) (ifs:List Expr) (elt:Expr) (σ:St) (Q:VK) (J:It) (H1:Hp):Prop:=∀l,H1 l=none→
 ∃W:Nat→Nat→St→Hp→Prop,(∃m,W 0 m (BE σ k fr) (nM H1 l (.bP [])))∧ ∀i m σ' H',W i m σ' H'→
  (J.stop i H'∧Q (.ref l) H')∨(J.go i H'∧ ∃M:St→Hp→Prop,(∀σ'' H'',M σ'' H''→ ∃m',m'<m∧W (i+1) m' σ'' H'')∧ ∀x H2,J.yld i H' x H2→X6 X scope N tg ifs elt l x σ' H2 M)
def BZ (X:Cx) (scope:Scope) (N:List ah) (k:Nat) (fr:List Nat) (tg:Expr) (ifs:List Expr) (elt:Expr) (wi:TI):TE:=λσ H Q=>wi σ H λJ H1=>PV X scope N k fr tg ifs elt σ Q J H1
def GH{use:Option (aj→ce Unit)}{Qf:aj→am→Prop}(hx:X.xe=λ_ _=>False) (hc:X.calm=true) (S:nB X scope N k fr) (hi:PI X tg iter wi) (I:mC X ag σ H s)
  (fin:∀{s3 s6:am}{H3 H5:Hp}{fp:List ai}{σ5:St}{l:ai}{a:Flow},mC X ag σ H3 s3→(∀b∈fp,qL X ag H3 b)→mC (pQ X scope N s3 H3 fp ag) [] σ5 H5 s6→Q (.ref l) H5→compPost (aB X.prog X.w) X.A X.xe use Qf (.ref l) s3.heap.objs.size (.ok a) s6)
  (h:BZ X scope N k fr tg ifs elt wi σ H Q)
  (hs:∀x,dw iter X.env x=pure x):av (aB X.prog X.w) X.A (comprehension (.ListComp elt [⟨tg,iter,ifs,0⟩] scope pos) scope X.env (firstIterPos [⟨tg,iter,ifs,0⟩] pos) (newList []) (firstAsync [⟨tg,iter,ifs,0⟩]) (firstIter [⟨tg,iter,ifs,0⟩] X.env) use) Qf X.xe s:=by
 refine wpAny_comprehension_free (use:=use) rfl hs (Ui (S.hasCell I.ok)) S.kind S.loc' (nG (hi ag s σ H _ I h) λv s1 h1=>nG h1 λitv s2 h2=>?_);obtain⟨it,fp,tn,J,H2,e,I2,T,st2,f2,h2⟩:=h2;subst e;have fr2:H2 s2.heap.objs.size=none:=I2.cD.fresh (aA _);obtain⟨W,⟨m0,w0⟩,turn⟩:=h2 s2.heap.objs.size fr2;refine wpAny_newList ?_ (by show 0≤sizeLine;exact aQ _);have I3:mC X ag σ (nM H2 s2.heap.objs.size (.bP [])) { s2 with heap:=s2.heap.push { cls:= .type "list",data:= .seq ([]:List aj).toArray } }:=I2.lnew (t':=s2.toks) (ys:=[]) .nil (aQ _);have old:∀b o,s2.heap.get? b=aa o→(s2.heap.push { cls:= .type "list",data:= .seq ([]:List aj).toArray }).get? b=aa o:=λb o e=>aP _ e;have fpo2:∀b∈fp,∃o,s2.heap.get? b=aa o:=λb hb=>by
  obtain⟨o,e,_⟩:=T.obj _ _ st2 b hb;exact⟨o,e⟩
 have fpo:∀b∈fp,∃o,(s2.heap.push { cls:= .type "list",data:= .seq ([]:List aj).toArray }).get? b=aa o:=λb hb=>by
  obtain⟨o,e⟩:=fpo2 b hb;exact⟨o,old b o e⟩
 have f3:∀b∈fp,qL X ag (nM H2 s2.heap.objs.size (.bP [])) b:=λb hb=>by
  obtain⟨o,e⟩:=fpo2 b hb;refine⟨?_,(f2 b hb).2⟩;rw[oj (bR (aO e))];exact(f2 b hb).1
 generalize hs3:({ s2 with heap:=s2.heap.push { cls:= .type "list",data:= .seq ([]:List aj).toArray } }:am)=s3 at I3⊢;have st3:tn 0 s3.heap:=by
  rw[←hs3];exact T.keep _ _ _ st2 λb _ o e=>old b o e
 have fpo3:∀b∈fp,∃o,s3.heap.get? b=aa o:=by rw[←hs3];exact fpo
 clear fpo old hs3;refine wpAny_newFunctionEnv S.cell' (by intro y hy;simp at hy) (λh1 hns1 hsb1=>?_) S.kind;have hk1:∀b o,s3.heap.get? b=aa o→h1.get? b=aa o:=λb o e=>hsb1.extBut b o (bR (aO e)) (aP _ e);have I4:=Y1 (tk:=s3.toks+([]:List (ah×aj)).length) I3 S f3 fpo3 hns1 hk1;have st4:tn 0 h1:=T.keep _ _ _ st3 λb _ o e=>hk1 b o e;have stat:∀{H':Hp},(∀b∈fp,H' b=none)→ ∀b∈fp,qL (pQ X scope N s3 (nM H2 s2.heap.objs.size (.bP [])) fp ag) [] H' b:=λhn b hb=>RG I3 S hb (f3 b hb) (fpo3 b hb) (hn b hb);have loop:∀s4:am,s4={ s3 with heap:=h1,toks:=s3.toks+([]:List (ah×aj)).length }→
   eD (aB X.prog X.w) X.A (.compLoop (.ListComp elt [⟨tg,iter,ifs,0⟩] scope pos) 0 (.ref it) (.ref s2.heap.objs.size) (compEnvC scope (qk X.env.cells scope.names []) s3.heap.objs.size X.env))
    (compPost (aB X.prog X.w) X.A X.xe use Qf (.ref s2.heap.objs.size) s3.heap.objs.size) s4:=by
  rintro s4 rfl;refine XD (λn s'=>∃i σ' H',mC (pQ X scope N s3 (nM H2 s2.heap.objs.size (.bP [])) fp ag) [] σ' H' s'∧tn i s'.heap∧(∀b∈fp,H' b=none)∧W i n σ' H') ?_ m0 ⟨0,_,_,I4,st4,λb hb=>(f3 b hb).1,w0⟩;rintro n s5 ⟨i,σ5,H5,I5,st5,fr5,w5⟩;obtain ⟨stop,qn⟩ |⟨go,M,hM,step⟩:=turn i n σ5 H5 w5
  ·refine nG (T.done (pQ X scope N s3 (nM H2 s2.heap.objs.size (.bP [])) fp ag) rfl rfl rfl hc i [] s5 σ5 H5 _ I5 (stat fr5) st5 stop) λr s6 ⟨hr,I6⟩=>?_;subst hr;exact fin I3 f3 I6 qn
  ·refine nG (T.item (pQ X scope N s3 (nM H2 s2.heap.objs.size (.bP [])) fp ag) rfl rfl rfl hc i [] s5 σ5 H5 _ I5 (stat fr5) st5 go) λr s6 ⟨u,hr,h6⟩=>?_;subst hr;refine nG h6 λ_ s7 ⟨x,H7,I7,r7,y7,st7,fr7⟩=>?_;have I7':=I7.pinned (stat fr7) (T.obj _ _ st7);obtain⟨g,tt,te,hg,ht,he,q⟩:=step x H7 y7 s3 (nM H2 s2.heap.objs.size (.bP [])) fp ag;have again:∀{s8:am}{σ8:St}{H8:Hp},mC (pQ X scope N s3 (nM H2 s2.heap.objs.size (.bP [])) fp ag) ([]++yK fp s7.heap) σ8 H8 s8→M σ8 H8→
     ∃m,m<n∧ ∃i σ' H',mC (pQ X scope N s3 (nM H2 s2.heap.objs.size (.bP [])) fp ag) [] σ' H' s8∧tn i s8.heap∧(∀b∈fp,H' b=none)∧W i m σ' H':=λ{s8 σ8 H8} I8 n8=>by
    obtain⟨m',hm,w8⟩:=hM σ8 H8 n8;refine⟨m',hm,i+1,σ8,H8,I8.unpinned,T.keep _ _ _ st7 λb hb o e=>(I8.pin (b,o) (cp _ (cp _ (Ax hb e)))).1,λb hb=>?_,w8⟩;obtain⟨o,e,d⟩:=T.obj _ _ st7 b hb;exact(I8.pin (b,o) (cp _ (cp _ (Ax hb e)))).2.1
   refine nG (hg _ s7 σ5 H7 x u _ I7' r7 q) λ_ s8 ⟨σ8,H8,I8,q8⟩=>?_;refine nG (ht _ s8 σ8 H8 _ I8 q8) λb s9 ⟨H9,I9,q9⟩=>?_;cases b with
   |false=>exact again I9 q9
   |true=>
    refine nG (he _ s9 σ8 H9 _ I9 q9) λy s10 ⟨yv,H10,I10,r10,ys,hl,hz,qM⟩=>?_;exact nG (Gn _ s10 σ8 H10 (.ref s2.heap.objs.size) [yv] (.ref s2.heap.objs.size) [y] (λ_ H'=>M σ8 H') I10 rfl (.cons r10 .nil) ⟨_,ys,yv,rfl,rfl,hl,hz,qM⟩) λ_ s11 ⟨_,H11,I11,_,q11⟩=>again I11 q11
 exact codeAny_compStart_list (loop _ rfl) (T.self _ 0 _ _ _ st4 (loop _ rfl))
def Pu (hx:X.xe=λ_ _=>False) (hc:X.calm=true) (S:nB X scope N k fr) (hi:PI X tg iter wi)
  (hs:∀x,dw iter X.env x=pure x):PE X (.ListComp elt [⟨tg,iter,ifs,0⟩] scope pos) (BZ X scope N k fr tg ifs elt wi):=by
 intro ag s σ H Q I h;rw[eval_ListComp];refine GH hx hc S hi I (λ{s3 s6 H3 H5 fp σ5 l a} I3 f3 I6 qn=>?_) h hs;obtain⟨m6,ns6,_⟩:=I6.loc;exact⟨m6,ns6,λh' sb=>⟨.ref l,H5,N4 I3 f3 I6 sb,rfl,qn⟩⟩
def P_ (hx:X.xe=λ_ _=>False) (hc:X.calm=true) (S:nB X scope N k fr) (hi:PI X tg iter wi)
  (hN:X.N.Nodup) (hxi:X.N[i]? =aa x) (hxl:tp X.env.scope x) (hw:d8 (.ListComp elt [⟨tg,iter,ifs,0⟩] scope pos) (aa (.Name x pos')) spos.line X.env=pure true) (hf:X.fn x=true∨X.env.scope.names.lookup x=aa .local)
  (hs:∀x,dw iter X.env x=pure x):PS X (.Assign [.Name x pos'] (.ListComp elt [⟨tg,iter,ifs,0⟩] scope pos) spos) (F6 (BZ X scope N k fr tg ifs elt wi) (EC i)):=by
 intro ag s σ H D I h;rw[exec_Assign_Name_used x pos' _ spos hw];refine au (wpAny_standAt (au ?_));rw[arm_evalThenUse_ListComp];refine au ?_;refine GH (Qf:=λ_ s'=>av (aB X.prog X.w) X.A (pure ()) (λ_ s2=>av (aB X.prog X.w) X.A (pure Flow.next) (SP X ag D) X.xe s2) X.xe s') hx hc S hi I (λ{s3 s6 H3 H5 fp σ5 l a} I3 f3 I6 qn=>?_) h hs;have IX:mC X ag σ H5 s6:=N4 (h':=s6.heap) I3 f3 I6 ⟨rfl,λ_ _=>rfl⟩;obtain⟨m6,ns6,_⟩:=I6.loc;have ns6:s6.heap.Ns s3.heap.objs.size m6:=ns6;have frC:H5 s3.heap.objs.size=none:=I6.free;have fC:qL X ag H5 s3.heap.objs.size:=I3.fpOk (aA _) frC;refine ky (G7 IX hN hxi hxl (v:= .ref l) rfl (λs7 I7 ⟨b,sb,hb⟩=>?_) hf);have hbC:s3.heap.objs.size≠b:=by
  obtain rfl |hb:=hb
  ·exact fC.2.1
  ·exact bz (fC.2.2.2.2.1 _ _ hb)
 refine⟨m6,ns6.sameBut sb hbC,λh' sb2=>aM (aM ⟨_,H5,?_,qn⟩)⟩;refine mC.call' (s':={ s7 with heap:=h' }) (ch:=[s3.heap.objs.size]) I7 rfl ⟨λc o e n hfs hex=>?_,λc o e n hfs hex=>?_,λc o e n _=>n,λc o e hex=>?_,λ_ _ q=>q,λ_ _ _ q=>q,λ_ ps q=>⟨#[],by simpa using q⟩⟩ (λc o e=>?_) I7.bare λc hcm=>?_
 ·exact(sb2.2 c (λz=>hex (by simp [z]))).trans e
 ·exact⟨o.slots,(sb2.2 c (λz=>hex (by simp [z]))).trans e⟩
 ·exact⟨o,(sb2.2 c (λz=>hex (by simp [z]))).trans e⟩
 ·refine(I7.cD c o e).stay (λd v hd q=>(sb2.2 d ?_).trans q) (λ_ q=>q) λ_ _ q=>q;rintro rfl;obtain rfl |hd:=hd
  ·rw[frC]at e;cases e
  ·rw[frC]at hd;cases hd
 ·rw[bi.mp hcm];exact⟨fC.2.2.2.1,fC.2.1,fC.2.2.2.2.1,fC.2.2.2.2.2⟩
noncomputable def EF (x:ah):It:=⟨λi _=>i<x.cps.size,λi H v H'=>H'=H∧ ∃c,x.cps[i]? =aa c∧v= .str ⟨#[c]⟩,λi _=>i=x.cps.size⟩
def Oi{P:bg}{w:aS}{K:ao}{tg:Expr}(it:ai) (x:ah) (t:Tok) (ty:String)
    (hn: ["enumerate", "zip", "dict_itemiterator", "dict_reverseitemiterator", "odict_iterator", "itertools.zip_longest", "itertools.pairwise"].contains ty=false)
    (hW:∀A':bt,A'.handled=none→Walks P w A' it [it] [it] x.cps.size (SignAt x) (λi h=>h.IsStrIter it ty x t i))
    (hself:∀(A:bt) (i:Nat) (s:am) (Q:aj→am→Prop) (E:aj→am→Prop),s.heap.IsStrIter it ty x t i→Q (.ref it) s→av (aB P w) A (dL (.ref it)) Q E s) :
    rD P w K tg (EF x) [it] it (λi h=>h.IsStrIter it ty x t i) where
  mem:=by simp
  obj:=λi h st b hb=>by
    have e:b=it:=by simpa using hb
    subst e;obtain⟨o,e,c,d⟩:=st;exact⟨o,e,λv z=>by rw[d]at z;cases z⟩
  keep:=λi h h' st k=>by
    obtain⟨o,e,r⟩:=st;exact⟨o,k it (by simp) o e,r⟩
  item:=by
    intro X hP hw hK hc i ag s σ H E I hf st hg;subst hP hw hK;obtain⟨f0,f1,f2,f3,f4,f5⟩:=hf it (by simp);refine(hW X.A (I.ok.hd hc)).item i s _ _ hg st λv h' tk hv st' kk=>?_;obtain⟨c,u,hc',rfl⟩:=hv;have I1:mC X ag σ H { s with heap:=h',toks:=tk }:=I.turned (λb o hb e=>kk b o (by simpa using hb) e) f0 f1 f3 f4 f5;obtain⟨o,e,c',d⟩:=id st';exact⟨_,rfl,Bk (s:={ s with heap:=h',toks:=tk }) e c' d hn ⟨.str ⟨#[c]⟩,H,I1,⟨u,rfl⟩,⟨rfl,c,hc',rfl⟩,st',λb hb=>(hf b hb).1⟩⟩
  done:=by
    intro X hP hw hK hc i ag s σ H E I hf st hg;subst hP hw hK;obtain⟨f0,f1,f2,f3,f4,f5⟩:=hf it (by simp);have hi:i=x.cps.size:=hg;subst hi;exact(hW X.A (I.ok.hd hc)).done s _ _ st λh' tk kk=>⟨rfl,I.turned (λb o hb e=>kk b o (by simpa using hb) e) f0 f1 f3 f4 f5⟩
  self:=hself
def Ea:oh X (bB .LtE) (λx y H Q=>∃i j,x= .str i∧y= .str j∧Q (.bl (!decide (j.cps.toList<i.cps.toList))) H):=by
 intro ag s σ H x y v u Q I rx ry h;obtain⟨i,j,rfl,rfl,q⟩:=h;obtain⟨t,rfl⟩:=rx;obtain⟨t',rfl⟩:=ry;exact PySem.P.le_str (x_ I q rfl)
def Cu (a b:Nat):(([a]:List Nat)< [b])↔a<b:=by
 rw[List.cons_lt_cons_iff];constructor
 ·rintro(h |⟨_,h⟩)
  ·exact h
  ·exact absurd h (List.lt_irrefl _)
 ·exact .inl
def FI:V→Option Int→Option Int→Hp→VK→Prop:=λx lo hi H Q=>∃z,x= .str z∧z.length≤sizeLine∧Q (.str (c_ z lo hi)) H
def vG:uu X FI:=by
 intro ag s σ H x v vl vu lo hi sl Q I rx hs pl pu h;obtain⟨z,rfl,hz,q⟩:=h;obtain⟨t,rfl⟩:=rx;refine⟨"str",_,F.slot_str_getitem.lookup,ix _ _ _,?_⟩;obtain⟨o,ho,hc,hd⟩:=hs;have fin:∀t' k,EP X ag σ Q (.str (c_ z lo hi) t') { s with toks:=k }:=λt' k=>⟨.str _,H,I.tok _,⟨t',rfl⟩,q⟩;have le:=aY (Txt.slice_le z lo hi) hz;cases pl with
 |none=>
  cases pu with
  |none=>exact gQ (l:=none) (u:=none) (st:=none) ⟨o,ho,hc,hd⟩ rfl (gn ⟨le,fin⟩)
  |int j u=>exact gQ (l:=none) (u:=aa (j,u)) (st:=none) ⟨o,ho,hc,hd⟩ rfl (gn ⟨le,fin⟩)
 |int i w=>
  cases pu with
  |none=>exact gQ (l:=aa (i,w)) (u:=none) (st:=none) ⟨o,ho,hc,hd⟩ rfl (gn ⟨le,fin⟩)
  |int j u=>exact gQ (l:=aa (i,w)) (u:=aa (j,u)) (st:=none) ⟨o,ho,hc,hd⟩ rfl (gn ⟨le,fin⟩)
def AF (xs:List Nat) (lo hi:Option Int):List Nat:=(xs.drop (HT.sIx xs.length 0 lo)).take (HT.sIx xs.length xs.length hi - HT.sIx xs.length 0 lo)
def Gz (lo hi:Option Int) (n:Nat):gS lo hi 1 n=sliceRange ((HT.sIx n 0 lo:Nat):Int) ((HT.sIx n n hi:Nat):Int) 1:=by
 have one:(1:Int) > 0:=by decide
 have a:∀(v:Option Int) (d:Nat),(match v with |none=>(d:Int) |some i=>(if(1:Int) > 0 then max 0 (min (if i<0 then i+(n:Int) else i) (n:Int)) else max (-1) (min (if i<0 then i+(n:Int) else i) ((n:Int) - 1))))=((HT.sIx n d v:Nat):Int):=by
  intro v d;cases v with
  |none=>rfl
  |some i=>
   simp only[HT.sIx,one,if_true];by_cases h:i<0
   ·simp only[h,if_true];lia
   ·simp only[h,if_false];lia
 have l:=a lo 0;have u:=a hi n;unfold gS;simp only[one,if_true]at l u⊢
 first
  |rw[l,u]
  | (cases lo<;>cases hi<;>simp_all)
def Ub (z:ah) (lo hi:Option Int):(c_ z lo hi).cps.toList=AF z.cps.toList lo hi:=by
 have hn:z.length=z.cps.toList.length:=by simp [jf]
 have hp:(gS lo hi 1 z.length).filterMap (z.cps[·]?)=AF z.cps.toList lo hi:=by
  rw[Gz,jk,jd,hn];rfl
 unfold c_;split
 ·rename_i h;have h1:(gS lo hi 1 z.length).length=z.length:=by simpa using h
  rw[Gz,jk,ay,l9]at h1;have le1:=HT.sIx_le z.length z.length (aA _) hi;unfold AF;rw[←hn];have e0:HT.sIx z.length 0 lo=0∨z.length=0:=by lia
  have hz:z.cps.toList.length=z.length:=hn.symm;obtain e0 |e0:=e0
  ·rw[e0,dM,dP (by lia)]
  ·have:z.cps.toList=[]:=kG (by lia);rw[this];simp
 ·show(List.filterMap _ _).toArray.toList=_;rw[hp]
def Wt (hc:X.calm=true):nO X (.builtin "all") (λxs H Q=>∃(p:ai) (bs:List Bool),xs=[.ref p]∧oJ X.K H p (bs.map V.bl)∧Q (.bl (bs.all id)) H):=by
 intro ag s σ H xs us Q I r h;obtain⟨p,bs,rfl,hq,q⟩:=h;obtain⟨u,rfl,rx⟩:=tZ r;cases rx;obtain⟨d5,r',pl,hz⟩:=I.list hq;have hlen:bs.length=d5.length:=by have:=r'.length;rw[ay]at this;exact this
 have hp:p<s.heap.objs.size:=by obtain⟨o,n,e,_⟩:=pl;exact aO e
 have hd:X.A.in1.handled=none:=I.ok.hd hc;have get:∀(i:Nat) (v:aj),d5.toArray[i]? =aa v→v= .bool (bs.getD i false):=λi v e=>by
  have e':d5[i]? =aa v:=by simpa using e
  have hi:i<bs.length:=by rw[hlen];exact(b6.mp e').1
  obtain⟨u,hu,ru⟩:=r'.get (i:=i) (x:= .bl (bs.getD i false)) (by rw[aT,aR hi,bv,aR hi];rfl);rw[e']at hu;cases hu;exact ru
 refine call_all_walk (fv pl.isList ?_);refine⟨s.heap.objs.size,_,_,_,_,_,λi=>bs.getD i false,rfl,jm hd _ p (bR hp) d5.toArray,⟨⟨_,bI _ rfl,rfl,rfl⟩,pl.isList.push _⟩,λi v s' Q' E' hP hQ=>?_,λh' tk hk=>?_⟩
 ·rw[get i v hP];exact eA hQ
 ·have e:(bx d5.toArray.size).all (λi=>bs.getD i false)=bs.all id:=by
   rw[bh,←hlen];have:bs=(bx bs.length).map λi=>bs.getD i false:=by
    apply kB;intro i;rw[aT];by_cases hi:i<bs.length
    ·rw[fS hi,aR hi];show aa bs[i]=aa (bs.getD i false);rw[bv,aR hi];rfl
    ·rw[iu (by lia),iu (by simpa using hi)];rfl
   conv=>rhs;rw[this]
   rw[eW];rfl
  have I1:mC X ag σ H { s with heap:=h',toks:=tk }:=I.kept λb o e=>hk b o (λz=>by
   have z':b=s.heap.objs.size:=by simpa using z
   rw[z']at e;exact absurd (aO e) (cR _)) (aP _ e)
  exact⟨.bl _,H,I1,by rw[e];exact rfl,q⟩
def YN:nO X (.builtin "isinstance") (λxs H Q=>∃x t c b,xs=[x, .ty c]∧o_ X.K H x t∧fV X.K t (.type c)=aa b∧Q (.bl b) H):=by
 intro ag s σ H xs us Q I r h;obtain⟨x,t,c,b,rfl,ty,e,q⟩:=h;obtain⟨u,v,rfl,rx,ry⟩:=NK r;cases(show v=jE c from ry);exact Xi I rx ty e λtk=>⟨.bl b,H,I.tok _,rfl,q⟩
def Va (l:ai) (items:Array aj) (n:Nat) (b:ai) (items2:Array aj) (n2:Nat) (dd:Option ai) (sl:Array (Option aj)) (hs0:¬(!items.isEmpty&&eY (items.size+items2.size))=true) (hs1:items.size≤sizeLine) (hs2:items.size+items2.size≤sizeLine+1) :
  Meets (cC.«list.extend» ⟨[.ref l, .ref b],[]⟩) (λ_ R s=>s.heap.get? l=aa { cls:= .type "list",dict:=none,data:= .seq items n,slots:= #[] }∧s.heap.get? b=aa { cls:= .type "tuple",dict:=dd,data:= .seq items2 n2,slots:=sl }∧R (.ok (.ret cK)) { s with heap:=s.heap.update l (iS λx=>x++items2),toks:=s.toks }):=
 .of_wp λprog w A R s h=>by
  obtain⟨hp,g,d,tk,os⟩:=s;obtain⟨hl,hb,h⟩:=h;have f1:=AutoSeq1.idx_int;have f2:=AutoSeq1.sub_tuple_tuple;have f3:=AutoSeq1.sub_list_list;have f4:=AutoSeq1.sub_tuple_list;have f5:=AutoSeq1.sub_list_tuple;have hz':(items++items2).size≤sizeLine+1:=by rw[Array.size_append];exact hs2
  wp_walk using(wpAny_updateSeq hl rfl (hz:=hs1) (_hz':=hz')),lH hl,lH hb;exact⟨_,rfl,h⟩
def Hw (K:ao):V→List V→Hp→VK→Prop:=λx vs H Q=>∃l b xs zs,x= .ref l∧vs=[.ref b]∧H l=aa (.bP xs)∧oZ K H b zs∧xs.length+zs.length≤sizeLine∧Q .ci (nM H l (.bP (xs++zs)))
def Xx:Cy X "list.extend" (Hw X.K):=by
 intro ag s σ H x vs v us Q I rx rv h;obtain⟨l,b,xs,zs,rfl,rfl,hH,hB,hz,q⟩:=h;cases rx;obtain⟨u,rfl,ru⟩:=rv.one;cases ru;obtain⟨z,d5,n,r,hl,e⟩:=I.lstM hH;obtain⟨its2,r2,ht,hz2⟩:=I.tuple hB;obtain⟨⟨cls,dd,data,sl⟩,e2,hc,n2,hd⟩:=ht;simp only at hc hd;subst hc hd;have hl2:=r2.length;have hsz:d5.toArray.size+its2.toArray.size≤sizeLine:=by rw[bh,bh];lia
 have hlong:¬(!d5.toArray.isEmpty&&eY (d5.toArray.size+its2.toArray.size))=true:=by
  rw[Ga hsz,fW];exact cW
 refine fD lI ⟨_,e,rfl⟩ ke (ma _ _)
  (Va l d5.toArray n b its2.toArray n2 dd sl hlong (by rw[bh];lia) (by lia)) ⟨e,e2,?_⟩
 refine⟨.ci,_,I.lset (its':=d5++its2) hH e (by simp) (r.append r2) ?_,rfl,q⟩;rw[a_];lia
def JQ (K:ao):V→List V→Hp→VK→Prop:=λx vs H Q=>∃(z:ah) (b:ai) (ys:List ah),x= .str z∧vs=[.ref b]∧oJ K H b (ys.map V.str)∧(ys.map (·.length)).sum+ys.length*z.length≤16777216∧Q (.str (dj z ys)) H
def QQ:∀{us:List aj},mR (ys.map V.str) us→StrsAre us ys:=by
 induction ys with
 |nil=>
  intro us r;cases r;exact .nil
 |cons y ys ih=>
  intro us r;cases r with
  |cons a b=>
   obtain⟨t,rfl⟩:=a;exact .cons y t (ih b)
def Wa:Cy X "str.join" (JQ X.K):=by
 intro ag s σ H x vs v us Q I rx rv h;obtain⟨z,b,ys,rfl,rfl,hB,hz,q⟩:=h;obtain⟨t,rfl⟩:=rx;obtain⟨u,rfl,ru⟩:=rv.one;cases ru;obtain⟨d5,r,pl,_⟩:=I.list hB;refine join_list pl.isList (by simpa using QQ r) hz λt' k=>⟨.str (dj z ys),H,I.tok _,⟨t',?_⟩,q⟩;show fU (cC.Str.glued z ys) t'=_;rw[StrLaws.glued_eq_join]
inductive W where
  |ci |bl (b:Bool) |int (i:Int) |str (x:ah) |bW (ws:List W) |ref (a:ai) |cX (ns:List Int)
inductive Ob where
  |bP (ws:List W)
  |dct (gA:List (List Int×W))
  |dk (gA:List (Key×W))
  |ins (cl:ah) (fs:List (ah×W))
abbrev lF:=ai→Option Ob
noncomputable def bQ (S:lF) (a:ai) (o:Ob):lF:=λb=>if b=a then aa o else S b
def wL (K:ao) (H:Hp) (a:ai) (xs:List V):Prop:=
 (∃o,H a=aa (.frz o (.bP xs)))∨
  ∃(o:aH) (d5:Array aj) (n:Nat),K.lookup a=aa o∧o.cls= .type "list" ∧o.dict=none∧o.data= .seq d5 n∧d5.size≤sizeLine∧mR xs d5.toList
mutual
inductive nN (K:ao) (H:Hp):W→V→Prop
 |ci:nN K H .ci .ci
 |bl (b:Bool):nN K H (.bl b) (.bl b)
 |int (i:Int):nN K H (.int i) (.int i)
 |str (x:ah):nN K H (.str x) (.str x)
 |ref (a:ai):nN K H (.ref a) (.ref a)
 |cX {a:ai}{ns:List Int}:wL K H a (ns.map V.int)→nN K H (.cX ns) (.ref a)
 |bW {a:ai}{vs:List V}{ws:List W}:H a=aa (.bW vs)→mF K H ws vs→nN K H (.bW ws) (.ref a)
inductive mF (K:ao) (H:Hp):List W→List V→Prop
 |nil:mF K H [] []
 |cons {w:W}{v:V}{ws:List W}{vs:List V}:nN K H w v→mF K H ws vs→mF K H (w::ws) (v::vs)
end
structure nJ (H:Hp) (S:lF) (H':Hp) (S':lF):Prop where
  bW:∀b xs,H b=aa (.bW xs)→H' b=aa (.bW xs)
  frz:∀b o u,H b=aa (.frz o u)→H' b=aa (.frz o u)
  fr:∀b xs,H b=aa (.bP xs)→S b=none→H' b=aa (.bP xs)∧S' b=none
  all:∀b o,H b=aa o→ ∃o',H' b=aa o'
def Sub (S S':lF):Prop:=∀a o,S a=aa o→S' a=aa o
section
variable {K:ao}{H H' H1 H2:Hp}{S S' S1 S2:lF}
def mV:bQ S a o a=aa o:=by unfold bQ;rw[if_pos rfl]
def nQ (h:b≠a):bQ S a o b=S b:=by unfold bQ;rw[if_neg h]
def pM:bQ (bQ S a o) a o'=bQ S a o':=by funext b;unfold bQ;split<;>rfl
def nJ.refl:nJ H S H S:=⟨λ_ _ h=>h,λ_ _ _ h=>h,λ_ _ h g=>⟨h,g⟩,λ_ o h=>⟨o,h⟩⟩
def nJ.trans (a:nJ H S H1 S1) (b:nJ H1 S1 H2 S2):nJ H S H2 S2:=⟨λc xs h=>b.bW c xs (a.bW c xs h),λc o u h=>b.frz c o u (a.frz c o u h),
 λc o h g=>by
  obtain⟨h1,g1⟩:=a.fr c o h g;exact b.fr c o h1 g1,λc o h=>by
  obtain⟨o1,h1⟩:=a.all c o h;exact b.all c o1 h1⟩
def nJ.new (h:H p=none):nJ H S (nM H p o) S:=
  ⟨λb xs e=>by rw[oj (pS e h)];exact e,λb ob u e=>by rw[oj (pS e h)];exact e,
   λb ob e g=>⟨by rw[oj (pS e h)];exact e,g⟩,λb ob e=>⟨ob,by rw[oj (pS e h)];exact e⟩⟩
def nJ.newS (h:H p=none):nJ H S (nM H p o) (bQ S p ob):=
  ⟨λb xs e=>by rw[oj (pS e h)];exact e,λb ob u e=>by rw[oj (pS e h)];exact e,
   λb ob e g=>⟨by rw[oj (pS e h)];exact e,by rw[nQ (pS e h)];exact g⟩,λb ob e=>⟨ob,by rw[oj (pS e h)];exact e⟩⟩
def nJ.mut (h:H p=aa u) (hs:S p=aa ob0) (ht:∀xs,u≠ .bW xs) (hf:∀ob q,u≠ .frz ob q):nJ H S (nM H p o) (bQ S p ob):=
  ⟨λb xs e=>by rw[oj (Cc e h λz=>ht xs z.symm)];exact e,λb ob q e=>by rw[oj (Cc e h λz=>hf ob q z.symm)];exact e,
   λb ob e g=>by
     have hb:b≠p:=by rintro rfl;rw[hs]at g;cases g
     exact⟨by rw[oj hb];exact e,by rw[nQ hb];exact g⟩,λb ob e=>by
     by_cases hb:b=p
     · subst hb;exact⟨o,pH⟩
     · exact⟨ob,by rw[oj hb];exact e⟩⟩
def nJ.bP (h:H p=aa (.bP xs)) (hs:S p=aa ob0):nJ H S (nM H p o) (bQ S p ob):= .mut h hs (λ_ z=>nomatch z) λ_ _ z=>nomatch z
def nJ.drop (h:Sub S' S):nJ H S H S':=⟨λ_ _ h=>h,λ_ _ _ h=>h,λb o e g=>⟨e,by
 cases q:S' b with
 |none=>rfl
 |some z=>rw[h b z q]at g;cases g⟩,λ_ o h=>⟨o,h⟩⟩
def nJ.free (e:nJ H S H' S') (h:H' p=none):H p=none:=by
 cases q:H p with
 |none=>rfl
 |some o=>obtain⟨o',z⟩:=e.all p o q;rw[h]at z;cases z
def nJ.fz (e:nJ H S H' S') (h:wL K H a xs):wL K H' a xs:=by
 obtain ⟨o,h⟩ |h:=h
 ·exact .inl ⟨o,e.frz _ _ _ h⟩
 ·exact .inr h
def wL.sq (h:wL K H a xs):oJ K H a xs:=by
 obtain ⟨o,h⟩ |h:=h
 ·exact .inl (.inr ⟨o,h⟩)
 ·exact .inr h
mutual
theorem nN.ext (e:nJ H S H' S'):nN K H w v→nN K H' w v
 | .ci=> .ci
 | .bl b=> .bl b
 | .int i=> .int i
 | .str x=> .str x
 | .ref a=> .ref a
 | .cX h=> .cX (e.fz h)
 | .bW h hs=> .bW (e.bW _ _ h) (mF.ext e hs)
theorem mF.ext (e:nJ H S H' S'):mF K H ws vs→mF K H' ws vs
 | .nil=> .nil
 | .cons h hs=> .cons (nN.ext e h) (mF.ext e hs)
end
theorem mF.length:∀{ws:List W}{vs:List V},mF K H ws vs→ws.length=vs.length
 |_,_, .nil=>rfl
 |_,_, .cons _ hs=>congrArg (· +1) (mF.length hs)
theorem mF.get:∀{ws:List W}{vs:List V}{i:Nat}{w:W},mF K H ws vs→ws[i]? =aa w→ ∃v,vs[i]? =aa v∧nN K H w v
 |_,_,_,_, .nil,e=>by simp at e
 |_,_,0,_, .cons h _,e=>by simp at e;subst e;exact⟨_,rfl,h⟩
 |_,_,i+1,w, .cons _ hs,e=>by
  obtain⟨v,h1,h2⟩:=mF.get (i:=i) (w:=w) hs (by simpa using e);exact⟨v,by simpa using h1,h2⟩
theorem mF.append:∀{ws us:List W}{vs xs:List V},mF K H ws vs→mF K H us xs→mF K H (ws++us) (vs++xs)
 |_,_,_,_, .nil,h=>h
 |_,_,_,_, .cons r t,h=> .cons r (mF.append t h)
theorem mF.take:∀{ws:List W}{vs:List V}(n:Nat),mF K H ws vs→mF K H (ws.take n) (vs.take n)
 |_,_,0,_=> .nil
 |_,_,_+1, .nil=> .nil
 |_,_,n+1, .cons r t=> .cons r (mF.take n t)
theorem mF.drop:∀{ws:List W}{vs:List V}(n:Nat),mF K H ws vs→mF K H (ws.drop n) (vs.drop n)
 |_,_,0,r=>r
 |_,_,_+1, .nil=> .nil
 |_,_,n+1, .cons _ t=>mF.drop n t
def mF.one (h:nN K H w v):mF K H [w] [v]:= .cons h .nil
theorem mF.ofInts:∀(ns:List Int),mF K H (ns.map W.int) (ns.map V.int)
 | []=> .nil
 |n::ns=> .cons (.int n) (mF.ofInts ns)
end
def sy (K:ao) (H:Hp) (a:ai):Ob→Prop
 | .bP ws=>∃vs,H a=aa (.bP vs)∧mF K H ws vs
 | .dct gA=>∃ps:List (List Key×V),H a=aa (.dT ps)∧aN (λq p=>p.1=q.1.map Sum.inl∧nN K H q.2 p.2) gA ps
 | .dk gA=>∃ps:List (Key×V),H a=aa (.dK ps)∧aN (λq p=>p.1=q.1∧nN K H q.2 p.2) gA ps
 | .ins cl fs=>∃(C dx:ai) (ps:List (ah×V)),bS K bp cl=aa (aa (.ref C))∧H a=aa (.ins C dx ps)∧aN (λq p=>p.1=q.1∧nN K H q.2 p.2) fs ps
def mG (K:ao) (H:Hp) (S:lF):Prop:=∀a o,S a=aa o→sy K H a o
section
variable {K:ao}{H H':Hp}{S S' S0 S0':lF}{a b p:ai}{o:Ob}
def Sub.refl:Sub S S:=λ_ _ h=>h
def Sub.trans (h:Sub S1 S2) (g:Sub S2 S3):Sub S1 S3:=λa o e=>g a o (h a o e)
def Sub.new (h:S a=none):Sub S (bQ S a o):=λb u e=>by rw[nQ (by rintro rfl;rw[h]at e;cases e)];exact e
def mG.sub (h:mG K H S') (q:Sub S S'):mG K H S:=λa o e=>h a o (q a o e)
def sy.some (h:sy K H a o):∃u,H a=aa u:=by
 cases o with
 |bP ws=>obtain⟨vs,e,_⟩:=h;exact⟨_,e⟩
 |dct gA=>obtain⟨vs,e,_⟩:=h;exact⟨_,e⟩
 |dk gA=>obtain⟨vs,e,_⟩:=h;exact⟨_,e⟩
 |ins C fs=>obtain⟨_,_,vs,_,e,_⟩:=h;exact⟨_,e⟩
def mG.free (h:mG K H S) (e:H p=none):S p=none:=by
 cases q:S p with
 |none=>rfl
 |some o=>obtain⟨u,z⟩:=(h p o q).some;rw[e]at z;cases z
def sy.keep (e:nJ H S0 H' S0') (k:∀u,H a=j4 u→H' a=j4 u) (h:sy K H a o):sy K H' a o:=by
 cases o with
 |bP ws=>obtain⟨vs,e1,r⟩:=h;exact⟨vs,k _ e1,r.ext e⟩
 |dct gA=>obtain⟨vs,e1,r⟩:=h;exact⟨vs,k _ e1,Paired.mapP r λ_ _ z=>⟨z.1,z.2.ext e⟩⟩
 |dk gA=>obtain⟨vs,e1,r⟩:=h;exact⟨vs,k _ e1,Paired.mapP r λ_ _ z=>⟨z.1,z.2.ext e⟩⟩
 |ins C fs=>obtain⟨C,dx,vs,e0,e1,r⟩:=h;exact⟨C,dx,vs,e0,k _ e1,Paired.mapP r λ_ _ z=>⟨z.1,z.2.ext e⟩⟩
def mG.new (h:mG K H S) (e:H p=none):mG K (nM H p u) S:=λa o q=>
 (h a o q).keep (.new (S:=S) e) λv z=>by rw[oj (pS z e)];exact z
def mG.put_lst (h:mG K H S) (e:H p=none) (r:mF K (nM H p (.bP vs)) ws vs):mG K (nM H p (.bP vs)) (bQ S p (.bP ws)):=λa o q=>by
 by_cases ha:a=p
 ·subst ha;rw[mV]at q;cases q;exact⟨vs,pH,r⟩
 ·rw[nQ ha]at q;exact h.new e a o q
def mG.set_lst (h:mG K H S) (e:S a=aa (.bP ws0)) (r:mF K H ws vs):nJ H S (nM H a (.bP vs)) (bQ S a (.bP ws))∧mG K (nM H a (.bP vs)) (bQ S a (.bP ws)):=by
 obtain⟨vs0,e0,_⟩:=h a _ e;have x:nJ H S (nM H a (.bP vs)) (bQ S a (.bP ws)):= .bP e0 e;refine⟨x,λb o q=>?_⟩;by_cases hb:b=a
 ·subst hb;rw[mV]at q;cases q;exact⟨vs,pH,r.ext x⟩
 ·rw[nQ hb]at q;exact(h b o q).keep x λu z=>by rw[oj hb];exact z
end
abbrev mW:=List (Option W)
abbrev WK:=W→lF→Prop
abbrev WX:=ah→mW→lF→Prop
abbrev WE:=WX→mW→lF→WK→Prop
abbrev WT:=WX→mW→lF→(Bool→lF→Prop)→Prop
abbrev WA:=WX→mW→lF→(List W→lF→Prop)→Prop
structure m4 where
  nx:mW→lF→Prop
  rt:WK
  bk:mW→lF→Prop:=λ_ _=>False
  ct:mW→lF→Prop:=λ_ _=>False
abbrev WS:=WX→m4→mW→lF→Prop
abbrev WG:=W→mW→lF→(mW→lF→Prop)→Prop
abbrev mM:=List W→lF→WK→(ah→lF→Prop)→Prop
abbrev WI:=WX→mW→lF→(List W→(lF→Prop)→lF→Prop)→Prop
abbrev WL:=WX→mW→lF→(List W→lF→Prop)→Prop
def xl (K:ao) (H:Hp):Option W→Option V→Prop
 |none,_=>True
 |some w,aa v=>nN K H w v
 |some _,none=>False
def nw (K:ao) (H:Hp) (σW:mW) (σ:St):Prop:=aN (xl K H) σW σ
section
variable {K:ao}{H H':Hp}{S S':lF}
theorem xl.ext (e:nJ H S H' S'):∀{w:Option W}{v:Option V},xl K H w v→xl K H' w v
 |none,_,_=>trivial
 |some _,aa _,h=>nN.ext e h
 |some _,none,h=>h.elim
def nw.ext (e:nJ H S H' S') (h:nw K H σW σ):nw K H' σW σ:=Paired.mapP h λ_ _ r=>xl.ext e r
theorem nw.get:∀{σW:mW}{σ:St}{i:Nat}{w:W},nw K H σW σ→σW[i]? =aa (aa w)→ ∃v,σ[i]? =aa (aa v)∧nN K H w v
 |_,_,_,_, .nil,e=>by simp at e
 |_,_,0,_, .cons (b:=b) h _,e=>by
  simp at e;subst e;cases b with
  |none=>exact(show False from h).elim
  |some v=>exact⟨v,rfl,h⟩
 |_,_,i+1,w, .cons _ hs,e=>by
  obtain⟨v,h1,h2⟩:=nw.get (i:=i) (w:=w) hs (by simpa using e);exact⟨v,by simpa using h1,h2⟩
theorem nw.set (h:nN K H w v):∀{σW:mW}{σ:St}(i:Nat),nw K H σW σ→nw K H (σW.set i (aa w)) (σ.set i (aa v))
 |_,_,_, .nil=> .nil
 |_,_,0, .cons _ t=> .cons h t
 |_,_,i+1, .cons q t=> .cons q (nw.set h i t)
end
def oM (K:ao) (H:Hp) (S:lF) (QW:WK) (Q:VK):Prop:=∀w S' v H',nJ H S H' S'→nN K H' w v→mG K H' S'→QW w S'→Q v H'
def CO (K:ao) (t:mW→lF→WK→Prop):TE:=λσ H Q=>∃σW S QW,nw K H σW σ∧mG K H S∧t σW S QW∧oM K H S QW Q
def EL (K:ao) (t:mW→lF→(Bool→lF→Prop)→Prop):TT:=λσ H Q=>∃σW S QW,nw K H σW σ∧mG K H S∧t σW S QW∧ ∀b S' H',nJ H S H' S'→mG K H' S'→QW b S'→Q b H'
def Qp (K:ao) (t:mW→lF→(List W→lF→Prop)→Prop):TA:=λσ H Q=>∃σW S QW,nw K H σW σ∧mG K H S∧t σW S QW∧ ∀ws S' vs H',nJ H S H' S'→mF K H' ws vs→mG K H' S'→QW ws S'→Q vs H'
def qp (K:ao) (H:Hp) (S:lF) (P:mW→lF→Prop) (Q:St→Hp→Prop):Prop:=∀σW S' σ H',nJ H S H' S'→nw K H' σW σ→mG K H' S'→P σW S'→Q σ H'
structure Meets (K:ao) (H:Hp) (S:lF) (DW:m4) (D:rR):Prop where
  nx:qp K H S DW.nx D.nx
  rt:oM K H S DW.rt D.rt
  bk:qp K H S DW.bk D.bk
  ct:qp K H S DW.ct D.ct
def MX (K:ao) (t:m4→mW→lF→Prop):TS:=λD σ H=>∃σW S DW,nw K H σW σ∧mG K H S∧t DW σW S∧Meets K H S DW D
def VO (K:ao) (t:WG):TG:=λv σ H Q=>∃w σW S P,nN K H w v∧nw K H σW σ∧mG K H S∧t w σW S P∧qp K H S P Q
def wk (K:ao) (J:It) (ws:List W) (G:lF→Prop) (H0:Hp) (S0:lF):Prop:=∀i S H,nJ H0 S0 H S→mG K H S→G S→
 (∀w,ws[i]? =aa w→J.go i H∧ ∀x H',J.yld i H x H'→nJ H S H' S∧mG K H' S∧nN K H' w x)∧(i=ws.length→J.stop i H)
def Kz (K:ao) (t:mW→lF→(List W→(lF→Prop)→lF→Prop)→Prop):TI:=λσ H R=>∃σW S QW,nw K H σW σ∧mG K H S∧t σW S QW∧
 ∀ws G S' J H',nJ H S H' S'→mG K H' S'→G S'→wk K J ws G H' S'→QW ws G S'→R J H'
def Kt (K:ao) (t:mW→lF→(List W→lF→Prop)→Prop):TE:=λσ H Q=>∃σW S QW,nw K H σW σ∧mG K H S∧t σW S QW∧
 ∀ws S' vs a H',nJ H S H' S'→H a=none→H' a=aa (.bP vs)→S' a=none→mF K H' ws vs→mG K H' S'→QW ws S'→Q (.ref a) H'
def si (K:ao) (sp:mM):Sp:=λvs H Q E=>∃ws S QW EW,mF K H ws vs∧mG K H S∧sp ws S QW EW∧oM K H S QW Q∧
 ∀cl C S' H',bS K bp cl=aa (aa (.ref C))→mG K H' S'→EW cl S'→E (.ref C) none H'
def tS (g h:aE) (H:Hp) (a C:ai):Prop:=g.get? a=none∧H a=none∧ ∃oe vs T oT ts,h.get? a=aa oe∧oe.cls= .ref C∧oe.data= .fields vs∧vs[1]? =aa (.ref T)∧
 g.get? T=none∧H T=none∧T≠a∧h.get? T=aa oT∧oT.data= .fields ts∧ts[3]? =aa .none
def sj (P:bg) (w:aS):xz:=λouter H s E e s'=>∃a C H',e= .ref a∧s'.os=s.os∧b_ s'.gens∧Un (frs outer) [] H H' s.heap s'.heap∧n9 P w H' s'.heap∧tS s.heap s'.heap H' a C∧E (.ref C) none H'
structure oP (X:Cx) (E:WX):Prop where
  own:dc (aB X.prog X.w) X.A X.env X.xe
  far:∀(ag:List (ai×aH)) (σ:St) (H:Hp) (s:am) (σW:mW) (cl:ah) (C a:ai) (H':Hp) (S':lF) (s':am),mC X ag σ H s→nw X.K H σW σ→bS X.K bp cl=aa (aa (.ref C))→
    s'.os=s.os→b_ s'.gens→Un (frs X.stack) [] H H' s.heap s'.heap→n9 X.prog X.w H' s'.heap→tS s.heap s'.heap H' a C→mG X.K H' S'→E cl σW S'→X.xe (.ref a) s'
  near:∀(ag:List (ai×aH)) (σ:St) (H:Hp) (s:am) (σW:mW) (cl:ah) (C a:ai) (S:lF) (h':aE) (args:List aj),mC X ag σ H s→nw X.K H σW σ→bS X.K bp cl=aa (aa (.ref C))→
    aE.MadeExcOf s.heap h' a (.ref C) args→mG X.K H S→E cl σW S→X.xe (.ref a) { s with heap:=h' }
def JE (X:Cx) (e:Expr) (t:WE):Prop:=∀E,oP X E→PE X e (CO X.K (t E))
def JT (X:Cx) (e:Expr) (t:WT):Prop:=∀E,oP X E→PT X e (EL X.K (t E))
def JW (X:Cx) (e:Expr) (t:WT):Prop:=∀E,oP X E→PW X e (EL X.K (t E))
def JA (X:Cx) (es:List Expr) (t:WA):Prop:=∀E,oP X E→PA X es (Qp X.K (t E))
def JS (X:Cx) (st:aW) (t:WS):Prop:=∀E,oP X E→PS X st (MX X.K (t E))
def sB (X:Cx) (st:List aW) (t:WS):Prop:=∀E,oP X E→qF X st (MX X.K (t E))
def JG (X:Cx) (tg:Expr) (t:WG):Prop:=∀E,oP X E→PG X tg (VO X.K t)
def JI (X:Cx) (tg iter:Expr) (t:WI):Prop:=∀E,oP X E→PI X tg iter (Kz X.K (t E))
def JL (X:Cx) (e:Expr) (t:WL):Prop:=∀E,oP X E→PE X e (Kt X.K (t E))
def PE.mono (h:PE X e t) (q:∀σ H Q,t' σ H Q→t σ H Q):PE X e t':=λag s σ H Q I z=>h ag s σ H Q I (q σ H Q z)
def PT.mono (h:PT X e t) (q:∀σ H Q,t' σ H Q→t σ H Q):PT X e t':=λag s σ H Q I z=>h ag s σ H Q I (q σ H Q z)
def PW.mono (h:PW X e t) (q:∀σ H Q,t' σ H Q→t σ H Q):PW X e t':=λwh ag s σ H Q I z=>h wh ag s σ H Q I (q σ H Q z)
def PA.mono (h:PA X e t) (q:∀σ H Q,t' σ H Q→t σ H Q):PA X e t':=λpos ag s σ H Q I z=>h pos ag s σ H Q I (q σ H Q z)
def PS.mono (h:PS X e t) (q:∀D σ H,t' D σ H→t D σ H):PS X e t':=λag s σ H D I z=>h ag s σ H D I (q D σ H z)
def qF.mono (h:qF X e t) (q:∀D σ H,t' D σ H→t D σ H):qF X e t':=λag s σ H D I z=>h ag s σ H D I (q D σ H z)
def PG.mono (h:PG X e t) (q:∀v σ H Q,t' v σ H Q→t v σ H Q):PG X e t':=λag s σ H v u Q I r z=>h ag s σ H v u Q I r (q v σ H Q z)
def PI.mono (h:PI X tg e t) (q:∀σ H R,t' σ H R→t σ H R):PI X tg e t':=λag s σ H R I z=>h ag s σ H R I (q σ H R z)
def iN (i:Nat) (_:WX) (σ:mW) (S:lF) (Q:WK):Prop:=match σ[i]? with
 |some (aa w)=>Q w S
 |_=>False
def wC (w:W) (_:WX) (_:mW) (S:lF) (Q:WK):Prop:=Q w S
section
variable {X:Cx}
def jv (i:Nat) (hN:X.N[i]? =aa x) (hv:vF X.env.scope x:=by first |exact hV rfl |exact eN (hV rfl) |exact eN (eN rfl)) (hd:(x == ("__debug__" :ah))=false)
  (hcd:(x == ("__classdict__" :ah))=false):JE X (.Name x pos) (iN i):=λE hE=>(Ju hN hv hd hcd).mono λσ H Q ⟨σW,S,QW,hσ,hS,ht,hQ⟩=>by
 unfold iN at ht;split at ht
 ·rename_i w e;obtain⟨v,e',r⟩:=hσ.get e;exact⟨v,e',hQ w S v H .refl r hS ht⟩
 ·exact ht.elim
def xf (h:PE X e (tC v)) (r:∀K H,nN K H w v):JE X e (wC w):=λE hE=>h.mono λσ H Q ⟨σW,S,QW,hσ,hS,ht,hQ⟩=>hQ w S v H .refl (r _ _) hS ht
def Wz{i j pos}:JE X (.Constant (.int i) j pos) (wC (.int i)):=xf P4 λ_ _=> .int i
def OX{b j pos}:JE X (.Constant (.bool b) j pos) (wC (.bl b)):=xf Sb λ_ _=> .bl b
def Ze{j pos}:JE X (.Constant .none j pos) (wC .ci):=xf Z_ λ_ _=> .ci
def VG{x j pos}:JE X (.Constant (.str x) j pos) (wC (.str x)):=xf Qj λ_ _=> .str x
def Y5 (hg:Gl X x) (hm:X.mg x=aa (.int i u)) (hd:(x == ("__debug__" :ah))=false):JE X (.Name x pos) (wC (.int i)):=xf (v:= .int i) (Hl hg hm ⟨u,rfl⟩ hd) λ_ _=> .int i
def Pp (hg:Gl X x) (hm:X.mg x=aa (.str i u)) (hd:(x == ("__debug__" :ah))=false):JE X (.Name x pos) (wC (.str i)):=xf (v:= .str i) (Hl hg hm ⟨u,rfl⟩ hd) λ_ _=> .str i
end
abbrev W2:=W→W→lF→WK→Prop
def my (r:W2) (a b:WE) (E:WX) (σ:mW) (S:lF) (Q:WK):Prop:=a E σ S λx S1=>b E σ S1 λy S2=>r x y S2 Q
def qX (K:ao) (r:R2) (wr:W2):Prop:=∀H x y wx wy S (Q:VK) (QW:WK),nN K H wx x→nN K H wy y→mG K H S→wr wx wy S QW→oM K H S QW Q→r x y H Q
def oM.from{K:ao}{H H':Hp}{S S':lF}{QW:WK}{Q:VK}(h:oM K H S QW Q) (e:nJ H S H' S'):oM K H' S' QW Q:=λw S v H'' e' r hS q=>h w S v H'' (e.trans e') r hS q
def qp.from{K:ao}{H H':Hp}{S S':lF}{P:mW→lF→Prop}{Q:St→Hp→Prop}(h:qp K H S P Q) (e:nJ H S H' S'):qp K H' S' P Q:=λσW S σ H'' e' r hS q=>h σW S σ H'' (e.trans e') r hS q
def Meets.from{K:ao}{H H':Hp}{S S':lF}{DW:m4}{D:rR}(h:Meets K H S DW D) (e:nJ H S H' S'):Meets K H' S' DW D:=⟨h.nx.from e,h.rt.from e,h.bk.from e,h.ct.from e⟩
section
variable {X:Cx}{a b:Expr}{pos:bw}
def Cq{K:ao}{ta tb:mW→lF→WK→Prop}{wr:W→W→lF→WK→Prop}{σ:St}{H:Hp}{Q:VK}{R:V→V→Hp→Prop}
  (h:CO K (λσ S Q=>ta σ S λx S1=>tb σ S1 λy S2=>wr x y S2 Q) σ H Q)
  (hR:∀H2 x y wx wy S (QW:WK),nN K H2 wx x→nN K H2 wy y→mG K H2 S→wr wx wy S QW→oM K H2 S QW Q→R x y H2) :
  CO K ta σ H λx H1=>CO K tb σ H1 λy H2=>R x y H2:=by
 obtain⟨σW,S,QW,hσ,hS,ht,hQ⟩:=h;refine⟨σW,S,_,hσ,hS,ht,λw1 S1 v1 H1 e1 r1 iF h1=>?_⟩;refine⟨σW,S1,_,hσ.ext e1,iF,h1,λw2 S2 v2 H2 e2 r2 hS2 h2=>?_⟩;exact hR H2 v1 v2 w1 w2 S2 QW (r1.ext e2) r2 hS2 h2 (hQ.from (e1.trans e2))
def xk (ho:oh X (ca op) r) (hw:qX X.K r wr) (ha:JE X a ta) (hb:JE X b tb):JE X (.BinOp a op b pos) (my wr ta tb):=λE hE=>
 (z9 ho (ha E hE) (hb E hE)).mono λσ H Q h=>Cq h λH2 x y wx wy S QW rx ry hS q hQ=>hw H2 x y wx wy S Q QW rx ry hS q hQ
def RE (ho:oh X (bB op) r) (hw:qX X.K r wr) (ha:JE X a ta) (hb:JE X b tb) (hm:fY op b=false):JE X (.Compare a [op] [b] pos) (my wr ta tb):=λE hE=>
 (TY ho (ha E hE) (hb E hE) hm).mono λσ H Q h=>Cq h λH2 x y wx wy S QW rx ry hS q hQ=>hw H2 x y wx wy S Q QW rx ry hS q hQ
end
def nu.ex (x:nu P w H h a o):∃u,h.get? a=aa u:=by
 cases o with
 |bP xs=>obtain⟨_,_,_,_,e⟩:=x;exact⟨_,e⟩
 |bW xs=>obtain⟨_,_,_,o,e,_⟩:=x;exact⟨_,e⟩
 |dK gA=>obtain⟨_,_,_,_,o,_,_,e,_⟩:=x;exact⟨_,e⟩
 |dT gA=>obtain⟨_,_,_,_,o,_,_,e,_⟩:=x;exact⟨_,e⟩
 |set S n=>obtain⟨o,_,_,_,e,_⟩:=x;exact⟨_,e⟩
 |ins C dx fs=>obtain⟨_,_,_,e,_⟩:=x;exact⟨_,e⟩
 |own y=>exact x
 |xd fs=>obtain⟨_,⟨_,_,_,e,_⟩,_⟩:=x;exact⟨_,e⟩
 |rng lo hi=>obtain⟨_,_,_,e⟩:=x;exact⟨_,e⟩
 |frz ob u=>obtain⟨e,_⟩:=x;exact⟨_,e⟩
 |tbl ps=>exact⟨_,show h.get? a=aa _ from x⟩
 |met f y=>exact⟨_,show h.get? a=aa _ from x⟩
 |ext φ=>exact x.2.1
noncomputable def unt (H:Hp) (S:lF):Hp:=λb=>match H b with
 |some (.bP xs)=>match S b with
  |none=>none
  |some _=>aa (.bP xs)
 |o=>o
noncomputable def qV (H:Hp) (S:lF) (H':Hp):Hp:=λb=>match unt H S b with
 |none=>match H b with
  |some o=>aa o
  |none=>H' b
 |some _=>match H' b with
  |some o=>aa o
  |none=>aa (.ext λh=>∃o,h.get? b=aa o)
section
variable {w:aS}{K:ao}{H:Hp}{S:lF}{h:aE}{b:ai}{o:HO}
def GG (e:unt H S b=aa o):H b=aa o:=by
 unfold unt at e;split at e
 ·rename_i xs q;split at e
  ·cases e
  ·rw[q];exact e
 ·exact e
def v_ (e:H b=none):unt H S b=none:=by unfold unt;rw[e]
def AJ (e:H b=aa o) (n:∀xs,o≠ .bP xs):unt H S b=aa o:=by
 unfold unt;rw[e];cases o<;>first |rfl |exact absurd rfl (n _)
def Ca (e:H b=aa o) (hs:S b=aa u):unt H S b=aa o:=by
 unfold unt;rw[e];cases o<;>first |rfl | (dsimp only;rw[hs])
def M4 (e:H b=aa (.bP xs)) (hs:S b=none):unt H S b=none:=by
 unfold unt;rw[e];dsimp only;rw[hs]
def W_ (e:unt H S b=none) (q:H b=aa o):(∃xs,o= .bP xs)∧S b=none:=by
 unfold unt at e;rw[q]at e;cases o<;>first |cases e |skip;rename_i xs;dsimp only at e;split at e
 ·exact⟨⟨xs,rfl⟩, ‹_›⟩
 ·cases e
mutual
theorem nN.mv{H1:Hp}(t:∀b xs,H b=aa (.bW xs)→H1 b=aa (.bW xs)) (f:∀b o u,H b=aa (.frz o u)→H1 b=aa (.frz o u)) {w:W}{v:V}:nN K H w v→nN K H1 w v
 | .ci=> .ci
 | .bl b=> .bl b
 | .int i=> .int i
 | .str x=> .str x
 | .ref a=> .ref a
 | .cX h=> .cX (by
  obtain ⟨o,h⟩ |h:=h
  ·exact .inl ⟨o,f _ _ _ h⟩
  ·exact .inr h)
 | .bW h hs=> .bW (t _ _ h) (mF.mv t f hs)
theorem mF.mv (t:∀b xs,H b=aa (.bW xs)→H1 b=aa (.bW xs)) (f:∀b o u,H b=aa (.frz o u)→H1 b=aa (.frz o u)):mF K H ws vs→mF K H1 ws vs
 | .nil=> .nil
 | .cons h hs=> .cons (nN.mv t f h) (mF.mv t f hs)
end
def v9:∀b xs,H b=aa (.bW xs)→unt H S b=aa (.bW xs):=λb xs e=>AJ e λ_ z=>nomatch z
def xh:∀b o u,H b=aa (.frz o u)→unt H S b=aa (.frz o u):=λb o u e=>AJ e λ_ z=>nomatch z
def mG.unt (r:mG K H S):mG K (unt H S) S:=λa o e=>by
 have q:=r a o e;cases o with
 |bP ws=>obtain⟨vs,z,rs⟩:=q;exact⟨vs,Ca z e,mF.mv v9 xh rs⟩
 |dct gA=>obtain⟨ps,z,rs⟩:=q;exact⟨ps,Ca z e,Paired.mapP rs λ_ _ z=>⟨z.1,nN.mv v9 xh z.2⟩⟩
 |dk gA=>obtain⟨ps,z,rs⟩:=q;exact⟨ps,Ca z e,Paired.mapP rs λ_ _ z=>⟨z.1,nN.mv v9 xh z.2⟩⟩
 |ins C fs=>obtain⟨C,dx,ps,z0,z,rs⟩:=q;exact⟨C,dx,ps,z0,Ca z e,Paired.mapP rs λ_ _ z=>⟨z.1,nN.mv v9 xh z.2⟩⟩
def n9.unt (x:n9 P w H h):n9 P w (unt H S) h:=λa o e=>
 (x a o (GG e)).stay (λ_ _ _ q=>q) (λb q=>AJ q λ_ z=>nomatch z) λb xs q=>v9 b xs q
def tB (ok:n9 P w H h) (un:Un fs [] (unt H S) H' h h') (e:H' b=aa o):qV H S H' b=aa o:=by
 unfold qV;split
 ·rename_i q;split
  ·rename_i u z;obtain⟨ob,eo⟩:=(ok b u z).ex;rw[un.free b ob eo q (by simp)]at e;cases e
  ·exact e
 ·rw[e]
def BY (un:Un fs [] (unt H S) H' h h') (ok:n9 P w H h):Un fs [] H (qV H S H') h h' where
  keep:=λb o e n hb hx=>un.keep b o e (v_ n) hb hx
  slot:=λb o e n hb hx=>un.slot b o e (v_ n) hb hx
  free:=λb o e n hx=>by
    unfold qV;rw[v_ n,n];exact un.free b o e (v_ n) hx
  there:=un.there
  tups:=λb xs e=>tB ok un (un.tups b xs (v9 b xs e))
  frzs:=λb o u e=>tB ok un (un.frzs b o u (xh b o u e))
  tbls:=λb ps e=>by
    obtain⟨m,z⟩:=un.tbls b ps (AJ e λ_ z=>nomatch z);exact⟨m,tB ok un z⟩
def IL (un:Un fs [] (unt H S) H' h h') (ok:n9 P w H h) (ok':n9 P w H' h') (hf:∀b∈fs,H b=none):n9 P w (qV H S H') h':=λb o e=>by
 have back:∀{o},H' b=aa o→nu P w (qV H S H') h' b o:=λ{o} q=>(ok' b o q).stay (λ_ _ _ z=>z) (λc z=>tB ok un z) λc xs z=>tB ok un z;unfold qV at e;split at e
 ·rename_i q;split at e
  ·rename_i u z;cases e;obtain⟨⟨xs,rfl⟩,_⟩:=W_ q z;obtain⟨l,d5,n,r,g⟩:=ok b _ z;exact⟨l,d5,n,r,un.keep b _ g q (λhb=>by rw[hf b hb]at z;cases z) (by simp)⟩
  ·exact back e
 ·rename_i u q;split at e
  ·rename_i u' z;cases e;exact back z
  ·rename_i z;cases e;obtain⟨ob,eo⟩:=(ok b u (GG q)).ex;obtain⟨ob',eo'⟩:=un.there b ob eo (by simp);exact⟨⟨ob',eo'⟩,⟨ob',eo'⟩,λh1 h2 ⟨o,z⟩ k=>⟨o,k o z⟩⟩
def O8 (e:H b=aa o):∃o',qV H S H' b=aa o':=by
 unfold qV;split
 ·rw[e];exact⟨_,rfl⟩
 ·split
  ·exact⟨_,rfl⟩
  ·exact⟨_,rfl⟩
def JM (un:Un fs [] (unt H S) H' h h') (ok:n9 P w H h) (r:mG K H' S'):nJ H S (qV H S H') S' where
  bW:=λb xs e=>(BY un ok).tups b xs e
  frz:=λb o u e=>(BY un ok).frzs b o u e
  fr:=λb xs e hs=>by
    refine⟨?_,?_⟩
    · unfold qV;rw[M4 e hs,e]
    · cases q:S' b with
      |none=>rfl
      |some u=>
        obtain⟨v,z⟩:=(r b u q).some;obtain⟨ob,eo⟩:=(ok b _ e).ex;rw[un.free b ob eo (M4 e hs) (by simp)]at z;cases z
  all:=λb o e=>O8 e
def Hg (un:Un fs [] (unt H S) H' h h') (ok:n9 P w H h):nJ H' S' (qV H S H') S' where
  bW:=λb xs e=>tB ok un e
  frz:=λb o u e=>tB ok un e
  fr:=λb xs e hs=>⟨tB ok un e,hs⟩
  all:=λb o e=>⟨o,tB ok un e⟩
def Ho (un:Un fs [] (unt H S) H' h h') (ok:n9 P w H h) (r:mG K H' S'):mG K (qV H S H') S':=λa o e=>(r a o e).keep (Hg (S':=S') un ok) λu z=>tB ok un z
end
def HK{X:Cx}{k:Nat}{f:ai}{fd:dt}{ps:List ah}{c:mM}{E:WX}{ag:List (ai×aH)}{σ:St}{σW:mW}{H:Hp}{S:lF}{s:am}{Q:VK}{QW:WK}{us:List aj}{vs:List V}{ws:List W}
  (F:oV X.prog X.w X.K X.mg X.base (sj X.prog X.w) k f fd ps (si X.K c)) (hr:om k X.A) (hb:px X.K fd ps []) (I:mC X ag σ H s) (r:mR vs us) (rs:mF X.K H ws vs) (hσ:nw X.K H σW σ) (hS:mG X.K H S)
  (h:c ws S QW λcl S'=>E cl σW S') (hQ:oM X.K H S QW Q)
  (hx:∀(cl:ah) (C a:ai) (H':Hp) (S':lF) (s':am),bS X.K bp cl=aa (aa (.ref C))→s'.os=s.os→b_ s'.gens→Un (frs X.stack) [] H H' s.heap s'.heap→n9 X.prog X.w H' s'.heap→tS s.heap s'.heap H' a C→nJ H S H' S'→mG X.K H' S'→E cl σW S'→X.xe (.ref a) s'):av (aB X.prog X.w) X.A (call (.ref f) us) (EP X ag σ Q) X.xe s:=by
 have e0:=I.env0;have sp:si X.K c vs (unt H S) (λv H'=>∃w S',nN X.K H' w v∧mG X.K H' S'∧QW w S') (λcv _ H'=>∃cl C S',cv= .ref C∧bS X.K bp cl=aa (aa (.ref C))∧mG X.K H' S'∧E cl σW S'):=
  ⟨ws,S,QW,_,mF.mv v9 xh rs,hS.unt,h,λw S' v H' _ r1 r2 q=>⟨w,S',r1,r2,q⟩,λcl C S' H' hn hS' q=>⟨cl,C,S',rfl,hn,hS',q⟩⟩
 have e1:sV X.prog X.w X.K X.mg X.base X.A X.stack s (unt H S):=⟨e0.frames,e0.mod,λb o e=>⟨(e0.bs b o e).1,v_ (e0.bs b o e).2⟩,e0.bsz,e0.funs,λb hb=>v_ (e0.frf b hb),e0.cD.unt,e0.bare⟩;have hl:us.length=ps.length:=by rw[←r.length];exact F.len _ _ _ _ sp
 have hb':=hb s us I.kIn (by rw[bf];exact hl);rw[bf]at hb';refine wpAny_call (jV (F.run X.A X.stack s (unt H S) ⟨us,[]⟩ us vs _ _ hr e1 hb' r sp) λrr s' hq=>?_);cases rr with
 |error e=>
  obtain⟨a,C,H',rfl,os,bare,un,ok',fly,cl,C',S',ec,hn,hS',q⟩:=hq;cases ec;refine hx cl C a (qV H S H') S' s' hn os bare (BY un I.cD) (IL un I.cD ok' e0.frf) ?_ (JM un I.cD hS') (Ho un I.cD hS') q;obtain⟨g1,g2,oe,vs',T,oT,ts,a1,a2,a3,a4,a5,a6,a7⟩:=fly;have free:∀{b:ai},s.heap.get? b=none→H' b=none→qV H S H' b=none:=λ{b} q1 q2=>by
   have hn:H b=none:=by
    cases z:H b with
    |none=>rfl
    |some u=>obtain⟨ob,eo⟩:=(I.cD b u z).ex;rw[q1]at eo;cases eo
   unfold qV;rw[v_ hn,hn];exact q2
  exact⟨g1,free g1 g2,oe,vs',T,oT,ts,a1,a2,a3,a4,a5,free a5 a6,a7⟩
 |ok fl=>
  cases fl with
  |ret u=>
   obtain⟨v,H',os,bare,un,ok',rv,w,S',r1,r2,q⟩:=hq;exact⟨v,qV H S H',I.call' os (BY un I.cD) (IL un I.cD ok' e0.frf) bare (λ_ z=>nomatch z),rv,hQ w S' v _ (JM un I.cD r2) (r1.ext (Hg (S':=S') un I.cD)) (Ho un I.cD r2) q⟩
  |next=>exact cF hq
  |brk=>exact cF hq
  |cont=>exact cF hq
def Rz 
  (F:oV X.prog X.w X.K X.mg X.base (sj X.prog X.w) k f fd ps (si X.K c)) (hr:om k X.A) (hb:px X.K fd ps []) (hE:oP X E) (I:mC X ag σ H s) (r:mR vs us) (rs:mF X.K H ws vs) (hσ:nw X.K H σW σ) (hS:mG X.K H S)
  (h:c ws S QW λcl S'=>E cl σW S') (hQ:oM X.K H S QW Q):av (aB X.prog X.w) X.A (call (.ref f) us) (EP X ag σ Q) X.xe s:=
 HK (E:=E) F hr hb I r rs hσ hS h hQ λcl C a H' S' s' hn os bare un ok fly _ hS' q=>hE.far ag σ H s σW cl C a H' S' s' I hσ hn os bare un ok fly hS' q
def Oa (I:mC X ag σ H' s') (hst:X.stack=X.env::X.outer) (hf:X.env.frame=aa X.env.locals) (hex:X.ex=[])
  (h0:∀b∈hid,X.s₀.heap.get? b=none∧H' b=none) (ha:a∈hid) (L:iU (du s'.heap (hid++frs X.stack)) X.stack a (.ref C) s'.heap h') :
  Un X.fs [] X.H₀ H' X.s₀.heap h'∧n9 X.prog X.w H' h'∧tS X.s₀.heap h' H' a C:=by
 obtain⟨st,ff,tr,sl⟩:=L;have keepB:∀b o,s'.heap.get? b=aa o→b∉hid→b∉frs X.stack→h'.get? b=aa o:=λb o e h1 h2=>st b o (fE _ e λz=>(bn.mp z).elim h1 h2);have nh:∀b o,X.s₀.heap.get? b=aa o→b∉hid:=λb o e hb=>by rw[(h0 b hb).1]at e;cases e
 have slotB:∀b o,b∈frs X.stack→s'.heap.get? b=aa o→ ∃sl,h'.get? b=aa { o with slots:=sl }:=λb o hb e=>by
  obtain⟨_,o',eo',nf⟩:=I.stack.mem hb;rw[e]at eo';cases eo';exact sl b o e nf
 have nx:∀b:ai,b∉X.ex:=λb=>by rw[hex];simp
 have fsS:∀b∈X.fs,b∈frs X.stack:=λb hb=>by
  rw[hst];unfold frs;rw[g_,hf];exact aI _ hb
 refine⟨⟨λb o e n hb _=>?_,λb o e n hb _=>?_,λb o e n _=>I.base.free b o e n (nx b),λb o e _=>?_,I.base.tups,I.base.frzs,I.base.tbls⟩,λb o e=>?_,(h0 a ha).1,(h0 a ha).2,?_⟩
 ·refine keepB b o (I.base.keep b o e n hb (nx b)) (nh b o e) λz=>?_;obtain q |q:=az.mp (I.stkSub b z)
  ·exact absurd (bY (aO e) I.ok.above) (by rw[q];exact cR _)
  ·exact hb q
 ·obtain⟨sl1,e1⟩:=I.base.slot b o e n hb (nx b);obtain⟨sl2,e2⟩:=slotB b _ (fsS b hb) e1;exact⟨sl2,e2⟩
 ·obtain⟨o',e1⟩:=I.base.there b o e (nx b);by_cases hb:b∈frs X.stack
  ·obtain⟨sl2,e2⟩:=slotB b _ hb e1;exact⟨_,e2⟩
  ·exact⟨o',keepB b o' e1 (nh b o e) hb⟩
 ·refine(I.cD b o e).stay (λc u hc q=>?_) (λ_ q=>q) λ_ _ q=>q;have tk:∃v,H' c=aa v:=by
   obtain z |z:=hc
   ·exact⟨o,by rw[z];exact e⟩
   ·exact⟨_,z⟩
  obtain⟨v,tk⟩:=tk;exact keepB c u q (λz=>by rw[(h0 c z).2]at tk;cases tk) λz=>by rw[I.stkFree c z]at tk;cases tk
 ·obtain⟨oe,vs,T,oT,ts,e1,e2,e3,e4,e5,e6,e7,e8,e9⟩:=tr;have nf:T∉frs X.stack:=λhb=>by
   obtain⟨_,o,eo,nf⟩:=ff.mem hb;rw[e7]at eo;cases eo;exact nf ts e8
  have both:X.s₀.heap.get? T=none∧H' T=none:=by
   by_cases hT:T∈hid
   ·exact h0 T hT
   ·have z:s'.heap.get? T=none:=by
     cases q:s'.heap.get? T with
     |none=>rfl
     |some o=>
      rw[fE _ q λz=>(bn.mp z).elim hT nf]at e5;cases e5
    constructor
    ·cases q:X.s₀.heap.get? T with
     |none=>rfl
     |some o=>obtain⟨o',q'⟩:=I.base.there T o q (nx T);rw[z]at q';cases q'
    ·cases q:H' T with
     |none=>rfl
     |some u=>obtain⟨o',q'⟩:=(I.cD T u q).ex;rw[z]at q';cases q'
  exact⟨oe,vs,T,oT,ts,e1,e2,e3,e4,both.1,both.2,e6,e7,e8,e9⟩
def Bq{h base:aE}{l:List bN}{hid:List ai}(hl:h.FunFrames base l):h.FunFrames (du h (hid++frs l)) l:=
 PySem.W.funFrames_hide hl λenv he a ha=>cp _ (i8.mpr ⟨env,he,ha⟩)
def SI{P:bg}{w:aS}{K:ao}{mg:ah→Option aj}{base:aE}{N:List ah}{qual:ah}{scope:Scope}{f:ai}{cdv:aj}{A:bt}{outer:List bN}{s:am}{H:Hp}{E:XK}{EW:ah→lF→Prop}
    (hEW:∀cl C S' H',bS K bp cl=aa (aa (.ref C))→mG K H' S'→EW cl S'→E (.ref C) none H'):oP (vi (sj P w) P w K mg base N qual scope f cdv A outer s H E) (λc _ S'=>EW c S') where
  own:=dc.leaving
  far:=λag σ H1 s1 σW cl C a H' S' s' I hσ hn os bare un ok fly hS q=>by
    have I':=I.call' os un ok bare (λ_ z=>nomatch z);obtain⟨g1,g2,oe,vs,T,oT,ts,e1,e2,e3,e4,g3,g4,e5,e6,e7,e8⟩:=fly;have s0:∀{b:ai},s1.heap.get? b=none→s.heap.get? b=none:=λ{b} z=>by
      cases q:s.heap.get? b with
      |none=>rfl
      |some o=>obtain⟨o',q'⟩:=I.base.there b o q (by exact λz=>nomatch z);rw[z]at q';cases q'
    refine wpAny_leaving_next (base:=du s'.heap ([a,T]++frs (cH qual scope s.heap.objs.size f cdv::outer))) I'.ok.frames (Bq I'.stack) rfl ⟨oe,vs,T,oT,ts,e1,e2,e3,e4,eF _ (by simp),e5,e6,e7,e8⟩ (λb o z=>gi _ z) (eF _ (by simp)) λh' L=>?_;obtain⟨u1,u2,u3⟩:=Oa (hid:=[a,T]) I' rfl rfl rfl (λb hb=>by
      obtain rfl |hb:=az.mp hb
      · exact⟨s0 g1,g2⟩
      · rw[bi.mp hb];exact⟨s0 g3,g4⟩) (by simp) L
    exact⟨a,C,H',rfl,I'.os,I'.bare,u1,u2,u3,hEW cl C S' H' hn hS q⟩
  near:=λag σ H1 s1 σW cl C a S h' args I hσ hn me hS q=>by
    have I':=I.kept (t':=s1.toks) me.keeps;obtain⟨t,e1,_,_⟩:=me.there;have s0:s.heap.get? a=none:=by
      cases q:s.heap.get? a with
      |none=>rfl
      |some o=>obtain⟨o',q'⟩:=I.base.there a o q (by exact λz=>nomatch z);rw[me.new]at q';cases q'
    have h1:H1 a=none:=by
      cases q:H1 a with
      |none=>rfl
      |some u=>obtain⟨o',q'⟩:=(I.cD a u q).ex;rw[me.new]at q';cases q'
    refine wpAny_leaving_first (base:=du h' ([a]++frs (cH qual scope s.heap.objs.size f cdv::outer))) (s:={ s1 with heap:=h' }) I'.ok.frames (Bq I'.stack) rfl e1 (λb o z=>gi _ z) (eF _ (by simp)) rfl rfl λh'' L=>?_;obtain⟨u1,u2,u3⟩:=Oa (hid:=[a]) I' rfl rfl rfl (λb hb=>by rw[bi.mp hb];exact⟨s0,h1⟩) (by simp) L
    exact⟨a,C,H1,rfl,I'.os,I'.bare,u1,u2,u3,hEW cl C S H1 hn hS q⟩
def og (S:lF) (a:ai) (Q:List W→Prop):Prop:=match S a with
 |some (.bP ws)=>Q ws
 |_=>False
def ni{Q:List W→Prop}(h:S a=aa (.bP ws)):og S a Q=Q ws:=by unfold og;rw[h]
def qm{Q:List W→Prop}(h:og S a Q):∃ws,S a=aa (.bP ws)∧Q ws:=by
 unfold og at h;split at h
 ·exact⟨_, ‹_›,h⟩
 ·exact h.elim
def ur:W→lF→(Bool→lF→Prop)→Prop
 | .ci,S,Q=>Q false S
 | .bl b,S,Q=>Q b S
 | .int i,S,Q=>Q (i != 0) S
 | .str x,S,Q=>x.length≤sizeLine∧Q ((x.length:Int) != 0) S
 | .bW ws,S,Q=>Q (!ws.isEmpty) S
 | .ref a,S,Q=>og S a λws=>Q (!ws.isEmpty) S
 | .cX ns,S,Q=>Q (!ns.isEmpty) S
def o5 (t:WE) (E:WX) (σ:mW) (S:lF) (Q:Bool→lF→Prop):Prop:=t E σ S λw S'=>ur w S' Q
def nD (t:WE) (E:WX) (σ:mW) (S:lF) (Q:Bool→lF→Prop):Prop:=t E σ S λw S'=>match w with
 | .bl b=>Q b S'
 |_=>False
def rH (t u:WT) (E:WX) (σ:mW) (S:lF) (Q:Bool→lF→Prop):Prop:=t E σ S λc S1=>if c=true then u E σ S1 Q else Q false S1
def tI (t u:WT) (E:WX) (σ:mW) (S:lF) (Q:Bool→lF→Prop):Prop:=t E σ S λc S1=>if c=true then Q true S1 else u E σ S1 Q
def tq (t:WT) (E:WX) (σ:mW) (S:lF) (Q:Bool→lF→Prop):Prop:=t E σ S λc S1=>Q (!c) S1
def vz (t u:WE) (E:WX) (σ:mW) (S:lF) (Q:WK):Prop:=t E σ S λw S1=>match w with
 | .bl true=>u E σ S1 Q
 | .bl false=>Q (.bl false) S1
 |_=>False
def Nv (t u:WE):WE:=λE σ S Q=>t E σ S λw S1=>match w with
 | .bl false=>u E σ S1 Q
 | .bl true=>Q (.bl true) S1
 |_=>False
def MC (t:WE):WE:=λE σ S Q=>t E σ S λw S1=>match w with
 | .bl b=>Q (.bl !b) S1
 |_=>False
def zS (c:WT) (t u:WE) (E:WX) (σ:mW) (S:lF) (Q:WK):Prop:=c E σ S λb S1=>if b=true then t E σ S1 Q else u E σ S1 Q
def nH (c:WT) (t u:WS) (E:WX) (D:m4) (σ:mW) (S:lF):Prop:=c E σ S λb S1=>if b=true then t E D σ S1 else u E D σ S1
def nF (_:WX) (D:m4) (σ:mW) (S:lF):Prop:=D.nx σ S
def mD (t u:WS) (E:WX) (D:m4) (σ:mW) (S:lF):Prop:=t E { D with nx:=u E D } σ S
def mY (e:WE) (E:WX) (D:m4) (σ:mW) (S:lF):Prop:=e E σ S D.rt
def Gu:WS:=λ_ D _ S=>D.rt .ci S
def o9 (e:WE) (E:WX) (D:m4) (σ:mW) (S:lF):Prop:=e E σ S λ_ S1=>D.nx σ S1
def Yc:WS:=λ_ _ _ _=>False
def mB (i:Nat) (w:W) (σ:mW) (S:lF) (Q:mW→lF→Prop):Prop:=Q (σ.set i (aa w)) S
def mz (e:WE) (g:WG) (E:WX) (D:m4) (σ:mW) (S:lF):Prop:=e E σ S λw S1=>g w σ S1 D.nx
abbrev WGs:=List W→mW→lF→(mW→lF→Prop)→Prop
def pe (ws:List W) (σ:mW) (S:lF) (Q:mW→lF→Prop):Prop:=match ws with
 | []=>Q σ S
 |_=>False
def nU (g:WG) (u:WGs) (ws:List W) (σ:mW) (S:lF) (Q:mW→lF→Prop):Prop:=match ws with
 | []=>False
 |w::r=>g w σ S λσ' S'=>u r σ' S' Q
def pE (u:WGs) (w:W) (σ:mW) (S:lF) (Q:mW→lF→Prop):Prop:=match w with
 | .bW ws=>u ws σ S Q
 |_=>False
def Hb{K:ao}{H:Hp}{w:W}{v:V}{S:lF}{QW:Bool→lF→Prop}(r:nN K H w v) (hS:mG K H S) (h:ur w S QW):∃k,Cg K v H k∧QW k S:=by
 cases r with
 |ci=>exact⟨false,rfl,h⟩
 |bl b=>exact⟨b,rfl,h⟩
 |int i=>exact⟨_,rfl,h⟩
 |str x=>exact⟨_,⟨h.1,rfl⟩,h.2⟩
 |ref a=>
  obtain⟨ws,e,h⟩:=qm h;obtain⟨vs,e1,r1⟩:=hS a _ e;refine⟨_, .inl ⟨vs, .of e1,rfl⟩,?_⟩;have q:vs.isEmpty=ws.isEmpty:=by cases r1<;>rfl
  rw[q];exact h
 | @cX a ns f=>
  refine⟨_, .inl ⟨_,f.sq,rfl⟩,?_⟩;have q:(ns.map V.int).isEmpty=ns.isEmpty:=by cases ns<;>rfl
  rw[q];exact h
 | @bW a vs ws f hs=>
  refine⟨_, .inr (.inl ⟨vs, .of f,rfl⟩),?_⟩;have q:vs.isEmpty=ws.isEmpty:=by cases hs<;>rfl
  rw[q];exact h
def Sx (ha:JE X a ta) (he:∀whole,isTrue a X.env whole=(do let v ←whole;standAt a.pos;holding [v] (truthy v))):JT X a (o5 ta):=λE hE=>
 (U1 (ha E hE) he).mono λσ H Q ⟨σW,S,QW,hσ,hS,ht,hQ⟩=>⟨σW,S,_,hσ,hS,ht,λw S1 v H1 e1 r1 iF h1=>by
  obtain⟨k,hk,q⟩:=Hb r1 iF h1;exact⟨k,hk,hQ k S1 H1 e1 iF q⟩⟩
def Q1 (ho:oh X (bB op) r) (hw:qX X.K r wr) (ha:JE X a ta) (hb:JE X b tb) (hm:fY op b=false):JT X (.Compare a [op] [b] pos) (nD (my wr ta tb)):=λE hE=>
 (SE ho (ha E hE) (hb E hE) hm).mono λσ H Q ⟨σW,S,QW,hσ,hS,ht,hQ⟩=>by
  refine Cq (Q:=λv H1=>∃k,v= .bl k∧Q k H1) ⟨σW,S,λw S'=>match w with
   | .bl b=>QW b S'
   |_=>False,hσ,hS,ht,λw S1 v H1 e1 r1 iF h1=>?_⟩ λH2 x y wx wy S QW rx ry hS q hQ=>hw H2 x y wx wy S _ QW rx ry hS q hQ
  cases r1 with
  |bl k=>exact⟨k,rfl,hQ k S1 H1 e1 iF h1⟩
  |_=>exact h1.elim
def Vf (ha:JT X a tA):JT X (.UnaryOp .Not a pos) (tq tA):=λE hE=>
 (Z1 (ha E hE)).mono λσ H Q ⟨σW,S,QW,hσ,hS,ht,hQ⟩=>⟨σW,S,_,hσ,hS,ht,λb S1 H1 e1 iF h1=>hQ _ S1 H1 e1 iF h1⟩
def JW.jt (h:JW X a tA):JT X a tA:=λE hE=>(h E hE).pt
def QV (ha:JT X a tA):JW X (.BoolOp .And [a] pos) tA:=λE hE=>Zv (ha E hE)
def XJ (ha:JT X a tA):JW X (.BoolOp .Or [a] pos) tA:=λE hE=>O1 (ha E hE)
def XG{rest:List Expr}(ha:JT X a tA) (hb:JW X (.BoolOp .And (b::rest) pos) tB'):JW X (.BoolOp .And (a::b::rest) pos) (rH tA tB'):=λE hE=>
 (PZ (ha E hE) (hb E hE)).mono λσ H Q ⟨σW,S,QW,hσ,hS,ht,hQ⟩=>⟨σW,S,_,hσ,hS,ht,λb S1 H1 e1 iF h1=>by
  cases b with
  |true=>exact⟨σW,S1,_,hσ.ext e1,iF,h1,λb S2 H2 e2 hS2 h2=>hQ b S2 H2 (e1.trans e2) hS2 h2⟩
  |false=>exact hQ _ S1 H1 e1 iF h1⟩
def R_{rest:List Expr}(ha:JT X a tA) (hb:JW X (.BoolOp .Or (b::rest) pos) tB'):JW X (.BoolOp .Or (a::b::rest) pos) (tI tA tB'):=λE hE=>
 (Wx (ha E hE) (hb E hE)).mono λσ H Q ⟨σW,S,QW,hσ,hS,ht,hQ⟩=>⟨σW,S,_,hσ,hS,ht,λb S1 H1 e1 iF h1=>by
  cases b with
  |false=>exact⟨σW,S1,_,hσ.ext e1,iF,h1,λb S2 H2 e2 hS2 h2=>hQ b S2 H2 (e1.trans e2) hS2 h2⟩
  |true=>exact hQ _ S1 H1 e1 iF h1⟩
def WH{op}(h:JE X a ta):JE X (.BoolOp op [a] pos) ta:=λE hE=>Qg (h E hE)
def RK{rest:List Expr}(ha:JE X a ta) (hb:JE X (.BoolOp .And (b::rest) pos) tb):JE X (.BoolOp .And (a::b::rest) pos) (vz ta tb):=λE hE=>
 (Xu (ha E hE) (hb E hE)).mono λσ H Q ⟨σW,S,QW,hσ,hS,ht,hQ⟩=>⟨σW,S,_,hσ,hS,ht,λw S1 v H1 e1 r1 iF h1=>by
  cases r1 with
  |bl k=>
   refine⟨k,rfl,?_⟩;cases k with
   |true=>exact⟨σW,S1,_,hσ.ext e1,iF,h1,hQ.from e1⟩
   |false=>exact hQ _ S1 _ H1 e1 (.bl false) iF h1
  |_=>exact h1.elim⟩
def Uc{rest:List Expr}(ha:JE X a ta) (hb:JE X (.BoolOp .Or (b::rest) pos) tb):JE X (.BoolOp .Or (a::b::rest) pos) (Nv ta tb):=λE hE=>
 (Q0 (ha E hE) (hb E hE)).mono λσ H Q ⟨σW,S,QW,hσ,hS,ht,hQ⟩=>⟨σW,S,_,hσ,hS,ht,λw S1 v H1 e1 r1 iF h1=>by
  cases r1 with
  |bl k=>
   refine⟨k,rfl,?_⟩;cases k with
   |false=>exact⟨σW,S1,_,hσ.ext e1,iF,h1,hQ.from e1⟩
   |true=>exact hQ _ S1 _ H1 e1 (.bl true) iF h1
  |_=>exact h1.elim⟩
def PJ (ha:JE X a ta):JE X (.UnaryOp .Not a pos) (MC ta):=λE hE=>
 (ZK (ha E hE)).mono λσ H Q ⟨σW,S,QW,hσ,hS,ht,hQ⟩=>⟨σW,S,_,hσ,hS,ht,λw S1 v H1 e1 r1 iF h1=>by
  cases r1 with
  |bl k=>exact⟨k,rfl,hQ _ S1 _ H1 e1 (.bl _) iF h1⟩
  |_=>exact h1.elim⟩
def Zk (hc:JT X c tc) (ha:JE X a ta) (hb:JE X b tb):JE X (.IfExp c a b pos) (zS tc ta tb):=λE hE=>
 (UD (hc E hE) (ha E hE) (hb E hE)).mono λσ H Q ⟨σW,S,QW,hσ,hS,ht,hQ⟩=>⟨σW,S,_,hσ,hS,ht,λk S1 H1 e1 iF h1=>by
  cases k with
  |true=>exact⟨σW,S1,_,hσ.ext e1,iF,h1,hQ.from e1⟩
  |false=>exact⟨σW,S1,_,hσ.ext e1,iF,h1,hQ.from e1⟩⟩
def Y6:sB X [] nF:=λE hE=>uo.mono λD σ H ⟨σW,S,DW,hσ,hS,ht,hD⟩=>hD.nx σW S σ H .refl hσ hS ht
def XN{X:Cx}{st:aW}{rest:List aW}{t u:WS}(h1:JS X st t) (h2:sB X rest u):sB X (st::rest) (mD t u):=λE hE=>
 (OU (h1 E hE) (h2 E hE)).mono λD σ H ⟨σW,S,DW,hσ,hS,ht,hD⟩=>
  ⟨σW,S,{ DW with nx:=u E DW },hσ,hS,ht,⟨λσW' S' σ' H' e r hS' q=>⟨σW',S',DW,r,hS',q,hD.from e⟩,hD.rt,hD.bk,hD.ct⟩⟩
def Uj{X:Cx}{st:aW}{t:WS}(h1:JS X st t):sB X [st] t:=λE hE=>Hz (h1 E hE)
def Us:JS X (.Pass pos) nF:=λE hE=>uJ.mono λD σ H ⟨σW,S,DW,hσ,hS,ht,hD⟩=>hD.nx σW S σ H .refl hσ hS ht
def RS{X:Cx}{st:aW}:JS X st Yc:=λE hE=>tf.mono λD σ H ⟨σW,S,DW,hσ,hS,ht,hD⟩=>ht
def Vy (he:JE X e ta) (hs:d8 e none pos.line X.env=pure false):JS X (.Expr e pos) (o9 ta):=λE hE=>
 (Ua (he E hE) hs).mono λD σ H ⟨σW,S,DW,hσ,hS,ht,hD⟩=>⟨σW,S,_,hσ,hS,ht,λw S1 v H1 e1 r1 iF h1=>hD.nx σW S1 σ H1 e1 (hσ.ext e1) iF h1⟩
def XL (he:JE X e ta):JS X (.Return (aa e) pos) (mY ta):=λE hE=>
 (IP (he E hE)).mono λD σ H ⟨σW,S,DW,hσ,hS,ht,hD⟩=>⟨σW,S,_,hσ,hS,ht,hD.rt⟩
def XQ:JS X (.Return none pos) Gu:=λE hE=>uF.mono λD σ H ⟨σW,S,DW,hσ,hS,ht,hD⟩=>hD.rt .ci S .ci H .refl .ci hS ht
def VQ{a b:List aW}(hc:JT X c tc) (ha:sB X a t) (hb:sB X b u):JS X (.If c a b pos) (nH tc t u):=λE hE=>
 (WD (hc E hE) (ha E hE) (hb E hE)).mono λD σ H ⟨σW,S,DW,hσ,hS,ht,hD⟩=>⟨σW,S,_,hσ,hS,ht,λk S1 H1 e1 iF h1=>by
  cases k with
  |true=>exact⟨σW,S1,DW,hσ.ext e1,iF,h1,hD.from e1⟩
  |false=>exact⟨σW,S1,DW,hσ.ext e1,iF,h1,hD.from e1⟩⟩
def U0 (hN:X.N.Nodup) (hi:X.N[i]? =aa x) (hx:tp X.env.scope x) (hf:X.fn x=true∨X.env.scope.names.lookup x=aa .local:=by first |exact .inl rfl |exact .inr rfl |assumption):JG X (.Name x pos) (mB i):=λE hE=>
 (P2 hN hi hx hf).mono λv σ H Q ⟨w,σW,S,P,r,hσ,hS,ht,hP⟩=>hP _ S _ H .refl (hσ.set r i) hS ht
def ww (X:Cx) (tgs:List Expr) (t:WGs):Prop:=∀E,oP X E→yw X tgs (λvs σ H Q=>∃ws σW S P,mF X.K H ws vs∧nw X.K H σW σ∧mG X.K H S∧t ws σW S P∧qp X.K H S P Q)
def Qo:ww X [] pe:=λE hE ag s σ H vs us Q I r h=>by
 obtain⟨ws,σW,S,P,rs,hσ,hS,ht,hP⟩:=h;unfold pe at ht;split at ht
 ·cases rs;exact ZP ag s σ H [] us Q I r ⟨rfl,hP σW S σ H .refl hσ hS ht⟩
 ·exact ht.elim
def Pz (h1:JG X e g) (h2:ww X es gs)
  (hs:(cb (e::es) X.env).map (·.2)=assign e X.env::(cb es X.env).map (·.2)):ww X (e::es) (nU g gs):=λE hE ag s σ H vs us Q I r h=>by
 obtain⟨ws,σW,S,P,rs,hσ,hS,ht,hP⟩:=h;unfold nU at ht;split at ht
 ·exact ht.elim
 ·cases rs with
  |cons r1 r2=>
   refine RD (h1 E hE) (h2 E hE) hs ag s σ H _ us Q I r ⟨_,_,rfl,⟨_,σW,S,_,r1,hσ,hS,ht,λσW' S' σ' H' e' rr hS' q=>?_⟩⟩;exact⟨_,σW',S',P,r2.ext e',rr,hS',q,hP.from e'⟩
def YR (h:ww X es gs) (hlen:∀ws σ S P,gs ws σ S P→ws.length=n)
  (hn:(cb es X.env).length=n) (hst:(cb es X.env).findIdx? (·.1)=none) (hcl:X.calm=true):JG X (.Tuple es k pos) (pE gs):=λE hE=>
 (Ts hcl (h E hE) hn hst).mono λv σ H Q ⟨w,σW,S,P,r,hσ,hS,ht,hP⟩=>by
  cases r with
  |bW f hs=>exact⟨_,_,rfl, .of f,by rw[←hs.length];exact hlen _ _ _ _ ht,⟨_,σW,S,P,hs,hσ,hS,ht,hP⟩⟩
  |_=>exact ht.elim
def Wu (he:JE X e ta) (hg:JG X tg g) (hs:iP [tg] e pos.line X.env=pure false) (hw:jM [tg] e X.env=pure none)
  (h1:(cb [tg] X.env).map (·.2)=[assign tg X.env]):JS X (.Assign [tg] e pos) (mz ta g):=λE hE=>
 (V8 (he E hE) (hg E hE) hs hw h1).mono λD σ H ⟨σW,S,DW,hσ,hS,ht,hD⟩=>⟨σW,S,_,hσ,hS,ht,λw S1 v H1 e1 r1 iF h1=>⟨w,σW,S1,_,r1,hσ.ext e1,iF,h1,hD.nx.from e1⟩⟩
def NH (hN:X.N.Nodup) (hi:X.N[i]? =aa x) (hx:tp X.env.scope x) (he:JE X e ta) (hs:d8 e (aa (.Name x pos')) pos.line X.env=pure false)
  (hf:X.fn x=true∨X.env.scope.names.lookup x=aa .local:=by first |exact .inl rfl |exact .inr rfl |assumption):JS X (.Assign [.Name x pos'] e pos) (mz ta (mB i)):=λE hE=>
 (Wn hN hi hx (he E hE) hs hf).mono λD σ H ⟨σW,S,DW,hσ,hS,ht,hD⟩=>⟨σW,S,_,hσ,hS,ht,λw S1 v H1 e1 r1 iF h1=>hD.nx _ S1 _ H1 e1 ((hσ.ext e1).set r1 i) iF h1⟩
def ae (_:WX) (_:mW) (S:lF) (Q:List W→lF→Prop):Prop:=Q [] S
def iR (t:WE) (u:WA) (E:WX) (σ:mW) (S:lF) (Q:List W→lF→Prop):Prop:=t E σ S λw S1=>u E σ S1 λws S2=>Q (w::ws) S2
def m9 (t:WA) (E:WX) (σ:mW) (S:lF) (Q:WK):Prop:=t E σ S λws S1=>ws.length≤sizeLine∧Q (.bW ws) S1
def nL (t:WA) (E:WX) (σ:mW) (S:lF) (Q:List W→lF→Prop):Prop:=t E σ S λws S1=>ws.length≤sizeLine∧Q ws S1
def nA (t:WL) (E:WX) (σ:mW) (S:lF) (Q:WK):Prop:=t E σ S λws S1=>∀a,S1 a=none→Q (.ref a) (bQ S1 a (.bP ws))
def Yj:JA X [] ae:=λE hE=>oX.mono λσ H Q ⟨σW,S,QW,hσ,hS,ht,hQ⟩=>hQ [] S [] H .refl .nil hS ht
def Qi (ha:JE X e te) (hr:JA X es ta) (hs:ax (e::es) X.env=(false,aG e X.env)::ax es X.env):JA X (e::es) (iR te ta):=λE hE=>
 (tV (ha E hE) (hr E hE) hs).mono λσ H Q ⟨σW,S,QW,hσ,hS,ht,hQ⟩=>⟨σW,S,_,hσ,hS,ht,λw S1 v H1 e1 r1 iF h1=>⟨σW,S1,_,hσ.ext e1,iF,h1,λws S2 vs H2 e2 r2 hS2 h2=>
  hQ (w::ws) S2 (v::vs) H2 (e1.trans e2) (.cons (r1.ext e2) r2) hS2 h2⟩⟩
def Z0{x1}(h:JA X es ta):JE X (.Tuple es x1 pos) (m9 ta):=λE hE=>
 (To (h E hE)).mono λσ H Q ⟨σW,S,QW,hσ,hS,ht,hQ⟩=>⟨σW,S,_,hσ,hS,ht,λws S1 vs H1 e1 r1 iF h1=>by
  refine⟨by rw[←r1.length];exact h1.1,λp hp=>hQ (.bW ws) S1 _ _ (e1.trans (.new hp)) (.bW pH (r1.ext (.new (S:=S1) hp))) (iF.new hp) h1.2⟩⟩
def Zx (h:JA X es ta):JL X (.List es pos) (nL ta):=λE hE=>
 (ZI (h E hE)).mono λσ H Q ⟨σW,S,QW,hσ,hS,ht,hQ⟩=>⟨σW,S,_,hσ,hS,ht,λws S1 vs H1 e1 r1 iF h1=>by
  refine⟨by rw[←r1.length];exact h1.1,λp hp=>hQ ws S1 vs p _ (e1.trans (.new hp)) (e1.free hp) pH (iF.free hp) (r1.ext (.new (S:=S1) hp)) (iF.new hp) h1.2⟩⟩
def Lf (h:JL X e tl):JE X e (nA tl):=λE hE=>
 (h E hE).mono λσ H Q ⟨σW,S,QW,hσ,hS,ht,hQ⟩=>⟨σW,S,_,hσ,hS,ht,λws S1 vs a H1 e1 fa ea na r1 iF h1=>by
  refine hQ (.ref a) (bQ S1 a (.bP ws)) (.ref a) H1 ⟨e1.bW,e1.frz,λb o q g=>by
   have hb:b≠a:=by rintro rfl;rw[fa]at q;cases q
   rw[nQ hb];exact e1.fr b o q g,e1.all⟩ (.ref a) (λb o q=>?_) (h1 a na)
  by_cases hb:b=a
  ·subst hb;rw[mV]at q;cases q;exact⟨vs,ea,r1⟩
  ·rw[nQ hb]at q;exact iF b o q⟩
def mJ (c:mM) (t:WA) (E:WX) (σ:mW) (S:lF) (Q:WK):Prop:=t E σ S λws S1=>c ws S1 Q λcl S2=>E cl σ S2
def nC (n k:Nat) (body:WS) (ws:List W) (S:lF) (Q:WK) (E:ah→lF→Prop):Prop:=ws.length=k∧body (λc _ S'=>E c S') { nx:=λ_ S'=>∃S'',Sub S'' S'∧Q .ci S'',rt:=λw S'=>∃S'',Sub S'' S'∧Q w S'' } (ws.map aa++bj (n - k) none) S
def VE (F:oV X.prog X.w X.K X.mg X.base (sj X.prog X.w) k f fd ps (si X.K c)) (hr:om k X.A) (hg:Gl X x) (hm:X.mg x=aa (.ref f)) (hk:fh X.K (.ref f)=true) (hb:px X.K fd ps [])
  (ha:JA X (e::es) t) (hdb:(x == ("__debug__" :ah))=false) (he:ax (e::es) X.env=(false,aG e X.env)::ax es X.env) (hpl:(aZ pos (ax es X.env)).any (·.1)=false) :
  JE X (.Call (.Name x p) (e::es) [] pos) (mJ c t):=λE hE ag s σ H Q I h=>by
 obtain⟨σW,S,QW,hσ,hS,ht,hQ⟩:=h;refine gG (yX I hg hm ?_ hdb);refine kD (h₀:=X.base) I.ok.mod.kin hk (nG (ha E hE pos ag s σ H (λvs H1=>∃ws S1,mF X.K H1 ws vs∧nw X.K H1 σW σ∧mG X.K H1 S1∧c ws S1 QW (λcl S'=>E cl σW S')∧oM X.K H1 S1 QW Q) I
  ⟨σW,S,_,hσ,hS,ht,λws S1 vs H1 e1 r1 iF h1=>⟨ws,S1,r1,hσ.ext e1,iF,h1,hQ.from e1⟩⟩) λus s1 ⟨vs,H1,I1,r,ws,S1,r1,hσ1,iF,h1,hQ1⟩=>⟨I1.kIn,?_⟩) he hpl
 exact Rz F hr hb hE I1 r r1 hσ1 iF h1 hQ1
def SY{K:ao}{H:Hp}{N:List ah}{ws:List W}{vs:List V}(h:mF K H ws vs):nw K H (ws.map aa++bj (N.length - ws.length) none) (start N vs):=by
 have go:∀{ws:List W}{vs:List V}(m:Nat),mF K H ws vs→nw K H (ws.map aa++bj m none) (vs.map aa++bj m none):=by
  intro ws
  induction ws with
  |nil=>
   intro vs m h;cases h
   induction m with
   |zero=>exact .nil
   |succ m ih=>exact .cons trivial ih
  |cons w ws ih=>
   intro vs m h;cases h with
   |cons r rs=>exact .cons r (ih m rs)
 unfold start;rw[←h.length];exact go _ h
def Qz{P:bg}{w:aS}{K:ao}{mg:ah→Option aj}{base:aE}{x qual:ah}{st:aW}{f:ai}{fd:dt}{N ps:List ah}{r n k:Nat}{body:WS}(F:tN K x qual st f fd) (S:py N ps (qt st)) (hn:N.length=n) (hk:ps.length=k)
  (hbody:∀(cdv:aj) (A:bt) (outer:List bN) (s:am) (H:Hp) (E:XK),om r (A.deeper (cH qual (qt st) s.heap.objs.size f cdv))→
   sB (vi (sj P w) P w K mg base N qual (qt st) f cdv A outer s H E) (uk st) body):oV P w K mg base (sj P w) (r+1) f fd ps (si K (nC n k body)):=by
 obtain⟨oc,od,kV,doc,pm,an,cdv,ct,osl,rfl,lk,hcd⟩:=F.ex;refine KH lk hcd S (λvs H Q E h=>?_) λA outer s H vs Q E hr h=>?_
 ·obtain⟨ws,S,QW,EW,rs,_,h,_⟩:=h;rw[←rs.length,h.1,hk]
 ·obtain⟨ws,S',QW,EW,rs,hS,h,hQ,hEW⟩:=h;refine⟨_,hbody cdv A outer s H E hr (λc _ S'=>EW c S') (SI hEW),?_⟩;refine⟨_,S',{ nx:=λ_ S'=>∃S'',Sub S'' S'∧QW .ci S'',rt:=λw S'=>∃S'',Sub S'' S'∧QW w S'' },SY (N:=N) rs,hS,by rw[hn,h.1];exact h.2,⟨λσW S1 σ H1 e1 rr iF q=>?_,λw S1 v H1 e1 rr iF q=>?_,λ_ _ _ _ _ _ _ q=>q,λ_ _ _ _ _ _ _ q=>q⟩⟩
  ·obtain⟨S2,sb,q⟩:=q;exact hQ .ci S2 .ci H1 (e1.trans (.drop sb)) .ci (iF.sub sb) q
  ·obtain⟨S2,sb,q⟩:=q;exact hQ w S2 v H1 (e1.trans (.drop sb)) rr (iF.sub sb) q
def oH (C:Int→Int→Prop) (g:Int→Int→W):W2
 | .int i, .int j,S,Q=>C i j∧Q (g i j) S
 |_,_,_,_=>False
def rz (g:Int→Int→W):W2
 | .int i, .int j,S,Q=>Q (g i j) S
 |_,_,_,_=>False
def BJ{K:ao}{C:Int→Int→Prop}{g:Int→Int→Int}:qX K (rI C λi j=> .int (g i j)) (oH C λi j=> .int (g i j)):=λH x y wx wy S Q QW rx ry hS h hQ=>by
 cases rx<;>cases ry<;>first |exact⟨_,_,rfl,rfl,h.1,hQ _ S _ H .refl (.int _) hS h.2⟩ |exact h.elim
def Vh{K:ao}{g:Int→Int→Int}:qX K (rY λi j=> .int (g i j)) (rz λi j=> .int (g i j)):=λH x y wx wy S Q QW rx ry hS h hQ=>by
 cases rx<;>cases ry<;>first |exact⟨_,_,rfl,rfl,hQ _ S _ H .refl (.int _) hS h⟩ |exact h.elim
def FS{K:ao}{g:Int→Int→Bool}:qX K (rY λi j=> .bl (g i j)) (rz λi j=> .bl (g i j)):=λH x y wx wy S Q QW rx ry hS h hQ=>by
 cases rx<;>cases ry<;>first |exact⟨_,_,rfl,rfl,hQ _ S _ H .refl (.bl _) hS h⟩ |exact h.elim
def ou:W2
 | .int i, .int j,S,Q=>Q (.int (i+j)) S
 | .str x, .str y,S,Q=>x.length+y.length≤sizeLine∧Q (.str (x++y)) S
 | .bW xs, .bW ys,S,Q=>xs.length+ys.length≤sizeLine∧Q (.bW (xs++ys)) S
 | .ref a, .ref b,S,Q=>og S a λxs=>og S b λys=>xs.length+ys.length≤sizeLine∧ ∀p,S p=none→Q (.ref p) (bQ S p (.bP (xs++ys)))
 |_,_,_,_=>False
def mF.nil_r{K:ao}{H:Hp}{ws:List W}(h:mF K H ws []):ws=[]:=by cases h;rfl
def sW:oh X (ca .Add) (λx y H Q=>∃a b ys,x= .ref a∧y= .ref b∧oZ X.K H a []∧oZ X.K H b ys∧Q (.ref b) H):=by
 intro ag s σ H x y v u Q I rx ry h;obtain⟨a,b,ys,rfl,rfl,ha,hb,q⟩:=h;cases rx;cases ry;obtain⟨d5,r1,p1,_⟩:=I.tuple ha;obtain⟨its2,r2,p2,_⟩:=I.tuple hb;cases r1;obtain⟨⟨cls,dd,data,sl⟩,ho,hc,n,hd⟩:=id p1;obtain⟨⟨cls2,dd2,data2,sl2⟩,ho2,hc2,n2,hd2⟩:=id p2;simp only at hc hd hc2 hd2;subst hc hd hc2 hd2;exact iE ⟨_,ho,rfl⟩ ⟨_,ho2,rfl⟩ ir jI iJ jP (je _ _)
   (tuple_addW0 a b _ _ n n2 dd dd2 sl sl2 (by simp)) ⟨ho,ho2,⟨.ref b,H,I,rfl,q⟩⟩
def Zs:oh X (ca .Add) (λx y H Q=>(rY λi j=> .int (i+j)) x y H Q∨(∃i j,x= .str i∧y= .str j∧i.length+j.length≤sizeLine∧Q (.str (i++j)) H)∨
  (∃a b ys,x= .ref a∧y= .ref b∧oZ X.K H a []∧oZ X.K H b ys∧Q (.ref b) H)∨Dz X.K x y H Q∨Dk x y H Q):=vL.or (rF.or (sW.or (ul.or Bg)))
def SA{K:ao}:qX K (λx y H Q=>(rY λi j=> .int (i+j)) x y H Q∨(∃i j,x= .str i∧y= .str j∧i.length+j.length≤sizeLine∧Q (.str (i++j)) H)∨
  (∃a b ys,x= .ref a∧y= .ref b∧oZ K H a []∧oZ K H b ys∧Q (.ref b) H)∨Dz K x y H Q∨Dk x y H Q) ou:=λH x y wx wy S Q QW rx ry hS h hQ=>by
 cases rx with
 |int i=>
  cases ry with
  |int j=>exact .inl ⟨i,j,rfl,rfl,hQ _ S _ H .refl (.int _) hS h⟩
  |_=>exact h.elim
 |str i=>
  cases ry with
  |str j=>exact .inr (.inl ⟨i,j,rfl,rfl,h.1,hQ _ S _ H .refl (.str _) hS h.2⟩)
  |_=>exact h.elim
 | @bW a vs ws f hs=>
  cases ry with
  | @bW b us zs g ks=>
   cases hs with
   |nil=>exact .inr (.inr (.inl ⟨a,b,us,rfl,rfl, .of f, .of g,hQ (.bW zs) S _ H .refl (.bW g ks) hS h.2⟩))
   |cons h1 h2=>
    refine .inr (.inr (.inr (.inl ⟨a,b,_,us,rfl,rfl, .of f, .of g,by simp,?_,λe=>?_,λe p hp=>?_⟩)))
    ·rw[←(mF.cons h1 h2).length,←ks.length];exact h.1
    ·subst e;have e':=ks.nil_r;subst e';have q:=h.2;rw[bf]at q;exact hQ _ S _ H .refl (.bW f (.cons h1 h2)) hS q
    ·exact hQ _ S _ _ (.new hp) (.bW pH (((mF.cons h1 h2).append ks).ext (.new (S:=S) hp))) (hS.new hp) h.2
  |_=>exact h.elim
 |ref a=>
  cases ry with
  |ref b=>
   obtain⟨xs,ea,h⟩:=qm h;obtain⟨ys,eb,h⟩:=qm h;obtain⟨vs,e1,r1⟩:=hS a _ ea;obtain⟨us,e2,r2⟩:=hS b _ eb;refine .inr (.inr (.inr (.inr ⟨a,b,vs,us,rfl,rfl,e1,e2,by rw[←r1.length,←r2.length];exact h.1,λp hp=>?_⟩)))
   exact hQ _ _ _ _ (.newS hp) (.ref p) (hS.put_lst hp ((r1.append r2).ext (.new (S:=S) hp))) (h.2 p (hS.free hp))
  |_=>exact h.elim
 |_=>exact h.elim
def ZM (ha:JE X a ta) (hb:JE X b tb):JE X (.BinOp a .Add b pos) (my ou ta tb):=xk Zs SA ha hb
def Zn (ha:JE X a ta) (hb:JE X b tb):JE X (.BinOp a .Sub b pos) (my (rz λi j=> .int (i - j)) ta tb):=xk TH Vh ha hb
def QU (ha:JE X a ta) (hb:JE X b tb):JE X (.BinOp a .Mult b pos) (my (oH rp λi j=> .int (i*j)) ta tb):=xk UL BJ ha hb
def SF (ha:JE X a ta) (hb:JE X b tb):JE X (.BinOp a .FloorDiv b pos) (my (oH sM λi j=> .int (i / j)) ta tb):=xk RM BJ ha hb
def Uq (ha:JE X a ta) (hb:JE X b tb):JE X (.BinOp a .Mod b pos) (my (oH (λ_ j=>0<j) λi j=> .int (i % j)) ta tb):=xk T9 BJ ha hb
def UT (ha:JE X a ta) (hb:JE X b tb):JE X (.BinOp a .Pow b pos) (my (oH Cw λi j=> .int (i ^ j.toNat)) ta tb):=xk Sj BJ ha hb
def qY (t:WE) (E:WX) (σ:mW) (S:lF) (Q:WK):Prop:=t E σ S λw S1=>match w with
 | .int i=>Q (.int (-i)) S1
 |_=>False
def WU (ha:JE X a ta):JE X (.UnaryOp .USub a pos) (qY ta):=λE hE=>
 (Y' ZE (ha E hE)).mono λσ H Q ⟨σW,S,QW,hσ,hS,ht,hQ⟩=>⟨σW,S,_,hσ,hS,ht,λw S1 v H1 e1 r1 iF h1=>by
  cases r1 with
  |int i=>exact⟨i,rfl,hQ _ S1 _ H1 e1 (.int _) iF h1⟩
  |_=>exact h1.elim⟩
def ZX (t u:WE):WL:=λE σ S Q=>t E σ S λx S1=>u E σ S1 λy S2=>match x,y with
 | .ref a, .ref b=>og S2 a λxs=>og S2 b λys=>xs.length+ys.length≤sizeLine∧Q (xs++ys) S2
 |_,_=>False
noncomputable def oY (f:W→W→Option Bool):List W→List W→Option Bool
 | [],[]=>aa true
 | [],_=>aa false
 |_,[]=>aa false
 |x::xs,y::ys=>match f x y,oY f xs ys with
  |some a,aa b=>aa (a&&b)
  |_,_=>none
noncomputable def n_ (S:lF):Nat→W→W→Option Bool
 |0,_,_=>none
 |n+1,w,u=>match w,u with
  | .ci, .ci=>aa true
  | .bl a, .bl b=>aa (a == b)
  | .int a, .int b=>aa (a == b)
  | .str a, .str b=>aa (a == b)
  | .bW _, .int _=>aa false
  | .int _, .bW _=>aa false
  | .bW xs, .bW ys=>oY (n_ S n) xs ys
  | .ref a, .ref b=>match S a with
   |some (.bP xs)=>match S b with
    |some (.bP ys)=>oY (n_ S n) xs ys
    |_=>none
   |_=>none
  |_,_=>none
theorem Ht{f:W→W→Option Bool}:∀{xs ys:List W}{b:Bool},oY f xs ys=aa b→
  (∀j,j<xs.length→j<ys.length→ ∃c,f (xs.getD j .ci) (ys.getD j .ci)=aa c)∧
  ((bx (min xs.length ys.length)).all (λj=>(f (xs.getD j .ci) (ys.getD j .ci)).getD true)&&xs.length == ys.length)=b
 | [],[],b,h=>by
  have:true=b:=aK h;subst this;exact⟨λj h=>absurd h (by simp),by simp⟩
 | [],y::ys,b,h=>by
  have:false=b:=aK h;subst this;exact⟨λj h=>absurd h (by simp),by simp⟩
 |x::xs,[],b,h=>by
  have:false=b:=aK h;subst this;exact⟨λj _ h=>absurd h (by simp),by simp⟩
 |x::xs,y::ys,b,h=>by
  unfold oY at h;split at h
  ·rename_i c d e1 e2;have hb:(c&&d)=b:=aK h;obtain⟨h1,h2⟩:=Ht e2;refine⟨λj j1 j2=>?_,?_⟩
   ·cases j with
    |zero=>exact⟨c,by simpa using e1⟩
    |succ j=>simpa using h1 j (by simpa using j1) (by simpa using j2)
   ·have hm:min (xs.length+1) (ys.length+1)=min xs.length ys.length+1:=by lia
    have hl:(xs.length+1 == ys.length+1)=(xs.length == ys.length):=by simp
    rw[aU,aU,hm,gL,eM,eW,hl];have q:((λj=>(f ((x::xs).getD j .ci) ((y::ys).getD j .ci)).getD true)∘Nat.succ)=λj=>(f (xs.getD j .ci) (ys.getD j .ci)).getD true:=by
     funext j;simp
    rw[q,Bool.and_assoc,h2];have q0:(f ((x::xs).getD 0 .ci) ((y::ys).getD 0 .ci)).getD true=c:=by simp [e1]
    rw[q0,hb]
  ·cases h
theorem Dl (I:mC X ag σ H s):∀(n:Nat) {wx wy:W}{v:V}{b:Bool},nN X.K H wx v→nN X.K H wy v→mG X.K H S→n_ S n wx wy=aa b→b=true
 |0,_,_,_,_,_,_,_,h=>by cases h
 |n+1,wx,wy,v,b,rx,ry,hS,h=>by
  have list:∀{ws us:List W}{vs:List V}{b:Bool},mF X.K H ws vs→mF X.K H us vs→oY (n_ S n) ws us=aa b→b=true:=by
   intro ws
   induction ws with
   |nil=>
    intro us vs b r1 r2 e;cases r1;cases r2;exact(aK e).symm
   |cons w ws ih=>
    intro us vs b r1 r2 e;cases r1 with
    |cons a1 a2=>
     cases r2 with
     |cons c1 c2=>
      unfold oY at e;split at e
      ·rename_i c d e1 e2;have q1:=Dl I n a1 c1 hS e1;have q2:=ih a2 c2 e2;have:=aK e;rw[q1,q2]at this;exact this.symm
      ·cases e
  cases rx with
  |ci=>cases ry;exact(aK h).symm
  |bl k=>cases ry;have:=aK h;simpa using this.symm
  |int k=>cases ry;have:=aK h;simpa using this.symm
  |str k=>cases ry;have:=aK h;simpa using this.symm
  |ref a=>
   cases ry with
   |ref _=>
    have h':(match S a with
     |some (.bP xs)=>match S a with
      |some (.bP ys)=>oY (n_ S n) xs ys
      |_=>none
     |_=>none)=aa b:=h
    cases e:S a with
    |none=>rw[e]at h';cases h'
    |some o=>
     rw[e]at h';cases o with
     |bP ws=>
      obtain⟨vs,_,r⟩:=hS a _ e;exact list r r h'
     |dct _=>cases h'
     |dk _=>cases h'
     |ins _ _=>cases h'
   |cX _=>cases h
   |bW _ _=>cases h
  |cX f=>cases ry<;>cases h
  |bW f hs=>
   cases ry with
   |ref _=>cases h
   |cX _=>cases h
   |bW g ks=>
    have e:=I.tuple_inj (.of f) (.of g);subst e;exact list hs ks h
theorem Lc{A:bt}:A.in1.units=A.units+1:=rfl
theorem BV (I:mC X ag σ H s) (hS:mG X.K H S):∀(n:Nat) {A:bt}{wx wy:W}{x y:V}{u v:aj}{b:Bool},A.units+n<cLine→nN X.K H wx x→nN X.K H wy y→mZ x u→mZ y v→n_ S n wx wy=aa b→
  fj A s u v b∧fT A s u v b∧fJ A s u v (!b)
 |0,_,_,_,_,_,_,_,_,_,_,_,_,_,h=>by cases h
 |n+1,A,wx,wy,x,y,u,v,b,hu,rx,ry,ru,rv,h=>by
  have hu0:A.units<cLine:=by lia
  have items:∀{ws zs:List W}{xs ys:List V}{us vs:List aj}{b:Bool},mF X.K H ws xs→mF X.K H zs ys→mR xs us→mR ys vs→oY (n_ S n) ws zs=aa b→
    (∀j (h1:j<us.toArray.size) (h2:j<vs.toArray.size),fj A.in1 s us.toArray[j] vs.toArray[j] ((n_ S n (ws.getD j .ci) (zs.getD j .ci)).getD true))∧
    ((bx (min us.toArray.size vs.toArray.size)).all (λj=>(n_ S n (ws.getD j .ci) (zs.getD j .ci)).getD true)&&us.toArray.size == vs.toArray.size)=b:=by
   intro ws zs xs ys us vs b r1 r2 q1 q2 e;obtain⟨h1,h2⟩:=Ht e;have l1:=r1.length;have l2:=r2.length;have l3:=q1.length;have l4:=q2.length;refine⟨λj j1 j2=>?_,?_⟩
   ·rw[bh]at j1 j2;obtain⟨c,hc⟩:=h1 j (by lia) (by lia);have jw:j<ws.length:=by lia
    have jz:j<zs.length:=by lia
    obtain⟨x',ex,rx'⟩:=r1.get (aR jw);obtain⟨y',ey,ry'⟩:=r2.get (aR jz);obtain⟨u',eu,ru'⟩:=q1.get ex;obtain⟨v',ev,rv'⟩:=q2.get ey;have e1:us.toArray[j]=u':=by
     obtain⟨_,e⟩:=b6.mp eu;simpa using e
    have e2:vs.toArray[j]=v':=by
     obtain⟨_,e⟩:=b6.mp ev;simpa using e
    have g1:ws.getD j .ci=ws[j]:=by rw[bv,aR jw];rfl
    have g2:zs.getD j .ci=zs[j]:=by rw[bv,aR jz];rfl
    rw[e1,e2,hc];rw[g1,g2]at hc;exact(BV I hS n (by rw[Lc];lia) rx' ry' ru' rv' hc).1
   ·rw[bh,bh,←l3,←l4,←l1,←l2];exact h2
  cases rx with
  |ci=>
   cases(show u=cK from ru);cases ry with
   |ci=>cases(show v=cK from rv);cases h;exact⟨.same _, .none_none, .none_none⟩
   |_=>cases h
  |bl k=>
   cases(show u=fe k from ru);cases ry with
   |bl j=>cases(show v=fe j from rv);cases h;exact⟨.bool_bool _ _, .bool_bool _ _, .bool_bool _ _⟩
   |_=>cases h
  |int k=>
   obtain⟨t0,rfl⟩:=ru;cases ry with
   |int j=>obtain⟨t,rfl⟩:=rv;cases h;exact⟨.int_int _ _ _ _, .int_int _ _ _ _, .int_int _ _ _ _⟩
   |bW f hs=>cases(show v=bM _ from rv);cases h;obtain⟨d5,_,p,_⟩:=I.tuple (.of f);exact⟨.int_tuple _ _ p hu0, .int_tuple _ _ p hu0, .int_tuple _ _ p hu0⟩
   |_=>cases h
  |str k=>
   obtain⟨t0,rfl⟩:=ru;cases ry with
   |str j=>obtain⟨t,rfl⟩:=rv;cases h;exact⟨.str_str _ _ _ _, .str_str _ _ _ _, .str_str _ _ _ _⟩
   |_=>cases h
  | @bW a xs ws f hs=>
   cases(show u=bM a from ru);obtain⟨d5,q1,p,_⟩:=I.tuple (.of f);cases ry with
   |int j=>obtain⟨t,rfl⟩:=rv;cases h;exact⟨.tuple_int _ _ p hu0, .tuple_int _ _ p hu0, .tuple_int _ _ p hu0⟩
   | @bW c ys zs g ks=>
    cases(show v=bM c from rv);obtain⟨its2,q2,p2,_⟩:=I.tuple (.of g);obtain⟨h1,h2⟩:=items hs ks q1 q2 h;have rc:fT A s (.ref a) (.ref c) b:=by
     have:=fT.tuples p p2 hu0 h1;rw[h2]at this;exact this
    have rn:fJ A s (.ref a) (.ref c) (!b):=by
     have:=fJ.tuples p p2 hu0 h1;rw[h2]at this;exact this
    refine⟨?_,rc,rn⟩;by_cases e:a=c
    ·subst e;have:=Dl I (n+1) (.bW f hs) (.bW g ks) hS h;rw[this];exact .same _
    ·exact .of_refs e rc
   |_=>cases h
  |ref a=>
   cases(show u=bM a from ru);cases ry with
   |ref c=>
    cases(show v=bM c from rv);have h':(match S a with
     |some (.bP xs)=>match S c with
      |some (.bP ys)=>oY (n_ S n) xs ys
      |_=>none
     |_=>none)=aa b:=h
    cases e:S a with
    |none=>rw[e]at h';cases h'
    |some o=>
     rw[e]at h';cases o with
     |dct _=>cases h'
     |dk _=>cases h'
     |ins _ _=>cases h'
     |bP ws=>
      cases e2:S c with
      |none=>rw[e2]at h';cases h'
      |some o2=>
       rw[e2]at h';cases o2 with
       |dct _=>cases h'
       |dk _=>cases h'
       |ins _ _=>cases h'
       |bP zs=>
        obtain⟨xs,f,hs⟩:=hS a _ e;obtain⟨ys,g,ks⟩:=hS c _ e2;obtain⟨d5,q1,p,_⟩:=I.list (.of f);obtain⟨its2,q2,p2,_⟩:=I.list (.of g);obtain⟨h1,h2⟩:=items hs ks q1 q2 h';have both:fT A s (.ref a) (.ref c) b∧fJ A s (.ref a) (.ref c) (!b):=by
         by_cases hz:d5.toArray.size=its2.toArray.size
         ·have t1:=fT.lists p.isList p2.isList hz hu0 h1;have t2:=fJ.lists p.isList p2.isList hz hu0 h1;rw[←hz,Nat.min_self,beq_self_eq_true,Bool.and_true]at h2;rw[h2]at t1 t2;exact⟨t1,t2⟩
         ·have hz':(d5.toArray.size != its2.toArray.size)=true:=by simpa using hz
          have hz2:(d5.toArray.size == its2.toArray.size)=false:=by simpa using hz
          rw[hz2,fW]at h2;subst h2;exact⟨.lists_lengths p.isList p2.isList hz' hu0, .lists_lengths p.isList p2.isList hz' hu0⟩
        refine⟨?_,both.1,both.2⟩;by_cases ee:a=c
        ·subst ee;have:=Dl I (n+1) (.ref a) (.ref a) hS h;rw[this];exact .same _
        ·exact .of_refs ee both.1
   |_=>cases h
  |cX f=>cases ry<;>cases h
def oO (neg:Bool) (x:W) (y:W) (S:lF) (Q:WK):Prop:=match n_ S 60 x y with
 |some b=>Q (.bl (if neg then !b else b)) S
 |none=>False
def FN (K:ao) (neg:Bool):R2:=λx y H Q=>∃wx wy S b,nN K H wx x∧nN K H wy y∧mG K H S∧n_ S 60 wx wy=aa b∧Q (.bl (if neg then !b else b)) H
def Zb (hu:X.A.units+60<cLine):oh X (bB .Eq) (FN X.K false):=by
 intro ag s σ H x y v u Q I rx ry h;obtain⟨wx,wy,S,b,r1,r2,hS,e,q⟩:=h;exact(BV I hS 60 hu r1 r2 rx ry e).2.1 _ _ _ _ ⟨.bl b,H,I,rfl,q⟩
def Vl (hu:X.A.units+60<cLine):oh X (bB .NotEq) (FN X.K true):=by
 intro ag s σ H x y v u Q I rx ry h;obtain⟨wx,wy,S,b,r1,r2,hS,e,q⟩:=h;exact(BV I hS 60 hu r1 r2 rx ry e).2.2 _ _ _ _ ⟨.bl (!b),H,I,rfl,q⟩
def Ka{K:ao}{neg:Bool}:qX K (FN K neg) (oO neg):=λH x y wx wy S Q QW rx ry hS h hQ=>by
 unfold oO at h;split at h
 ·rename_i b e;exact⟨wx,wy,S,b,rx,ry,hS,e,hQ _ S _ H .refl (.bl _) hS h⟩
 ·exact h.elim
abbrev vj:W2:=rz λi j=> .bl (decide (i<j))
abbrev uc:W2:=rz λi j=> .bl (decide (j<i))
abbrev Mb:W2:=rz λi j=> .bl (decide (j≤i))
def sI:W2
 | .int i, .int j,S,Q=>Q (.bl (decide (i≤j))) S
 | .str i, .str j,S,Q=>Q (.bl (!decide (j.cps.toList<i.cps.toList))) S
 |_,_,_,_=>False
def ET{K:ao}:qX K (λx y H Q=>rY (λi j=> .bl (decide (i≤j))) x y H Q∨(∃i j,x= .str i∧y= .str j∧Q (.bl (!decide (j.cps.toList<i.cps.toList))) H)) sI:=λH x y wx wy S Q QW rx ry hS h hQ=>by
 cases rx with
 |int i=>
  cases ry with
  |int j=>exact .inl ⟨i,j,rfl,rfl,hQ _ S _ H .refl (.bl _) hS h⟩
  |_=>exact h.elim
 |str i=>
  cases ry with
  |str j=>exact .inr ⟨i,j,rfl,rfl,hQ _ S _ H .refl (.bl _) hS h⟩
  |_=>exact h.elim
 |_=>exact h.elim
def vX (r r':W2) (a b c:WE) (E:WX) (σ:mW) (S:lF) (Q:WK):Prop:=a E σ S λx S1=>b E σ S1 λy S2=>r x y S2 λz S3=>match z with
 | .bl true=>c E σ S3 λu S4=>r' y u S4 Q
 | .bl false=>Q (.bl false) S3
 |_=>False
def pA (neg:Bool):W2
 | .ci, .ci,S,Q=>Q (.bl (!neg)) S
 | .bl a, .bl b,S,Q=>Q (.bl (if neg then a != b else a == b)) S
 | .bl _, .ci,S,Q=>Q (.bl neg) S
 | .int _, .ci,S,Q=>Q (.bl neg) S
 | .str _, .ci,S,Q=>Q (.bl neg) S
 | .bW _, .ci,S,Q=>Q (.bl neg) S
 | .ref _, .ci,S,Q=>Q (.bl neg) S
 |_,_,_,_=>False
def ZT:oh X (bB .Is) (λx y H Q=>(y= .ci∧Q (.bl (decide (x= .ci))) H)∨ ∃a b,x= .bl a∧y= .bl b∧Q (.bl (a == b)) H):=wm.or (by
 intro ag s σ H x y v u Q I rx ry h;obtain⟨a,b,rfl,rfl,q⟩:=h;cases rx;cases ry;exact is_bool ⟨.bl _,H,I,rfl,q⟩)
def Ta:oh X (bB .IsNot) (λx y H Q=>(y= .ci∧Q (.bl (!decide (x= .ci))) H)∨ ∃a b,x= .bl a∧y= .bl b∧Q (.bl (a != b)) H):=uL.or (by
 intro ag s σ H x y v u Q I rx ry h;obtain⟨a,b,rfl,rfl,q⟩:=h;cases rx;cases ry;exact isnot_bool ⟨.bl _,H,I,rfl,q⟩)
def UN{K:ao}:qX K (λx y H Q=>(y= .ci∧Q (.bl (decide (x= .ci))) H)∨ ∃a b,x= .bl a∧y= .bl b∧Q (.bl (a == b)) H) (pA false):=λH x y wx wy S Q QW rx ry hS h hQ=>by
 cases ry with
 |ci=>cases rx<;>first |exact .inl ⟨rfl,by simpa using hQ _ S _ H .refl (.bl _) hS h⟩ |exact h.elim
 |bl b=>
  cases rx with
  |bl a=>exact .inr ⟨a,b,rfl,rfl,hQ _ S _ H .refl (.bl _) hS h⟩
  |_=>exact h.elim
 |_=>cases rx<;>exact h.elim
def Ws{K:ao}:qX K (λx y H Q=>(y= .ci∧Q (.bl (!decide (x= .ci))) H)∨ ∃a b,x= .bl a∧y= .bl b∧Q (.bl (a != b)) H) (pA true):=λH x y wx wy S Q QW rx ry hS h hQ=>by
 cases ry with
 |ci=>cases rx<;>first |exact .inl ⟨rfl,by simpa using hQ _ S _ H .refl (.bl _) hS h⟩ |exact h.elim
 |bl b=>
  cases rx with
  |bl a=>exact .inr ⟨a,b,rfl,rfl,hQ _ S _ H .refl (.bl _) hS h⟩
  |_=>exact h.elim
 |_=>cases rx<;>exact h.elim
noncomputable def rM (S:lF) (x:W):List W→Option Bool
 | []=>aa false
 |w::ws=>match n_ S 59 w x with
  |some a=>match rM S x ws with
   |some b=>aa (a || b)
   |none=>none
  |none=>none
section
theorem EK (I:mC X ag σ H s) (hS:mG X.K H S):∀(n:Nat) {w w' u:W}{v:V}{b b':Bool},nN X.K H w v→nN X.K H w' v→n_ S n w u=aa b→n_ S n w' u=aa b'→b=b'
 |0,_,_,_,_,_,_,_,_,h,_=>by cases h
 |n+1,w,w',u,v,b,b',r,r',h,h'=>by
  have list:∀{us ws zs:List W}{vs:List V}{b b':Bool},mF X.K H ws vs→mF X.K H zs vs→oY (n_ S n) ws us=aa b→oY (n_ S n) zs us=aa b'→b=b':=by
   intro us
   induction us with
   |nil=>
    intro ws zs vs b b' r1 r2 e1 e2;cases r1 with
    |nil=>cases r2;rw[e1]at e2;exact aK e2
    |cons _ _=>cases r2 with
     |cons _ _=>have:=aK e1;have:=aK e2;subst_vars;rfl
   |cons u us ih=>
    intro ws zs vs b b' r1 r2 e1 e2;cases r1 with
    |nil=>cases r2;rw[e1]at e2;exact aK e2
    |cons a1 a2=>
     cases r2 with
     |cons c1 c2=>
      unfold oY at e1 e2;split at e1
      ·rename_i p q f1 f2;split at e2
       ·rename_i p' q' g1 g2;have h1:=EK I hS n a1 c1 f1 g1;have h2:=ih a2 c2 f2 g2;rw[←aK e1,←aK e2,h1,h2]
       ·cases e2
      ·cases e1
  have nolist:∀{a:ai}{vs:List V}{ws:List W},H a=aa (.bW vs)→S a=aa (.bP ws)→False:=λf e=>by
   obtain⟨_,g,_⟩:=hS _ _ e;rw[f]at g;cases g
  cases r with
  |ci=>cases r';rw[h]at h';exact aK h'
  |bl k=>cases r';rw[h]at h';exact aK h'
  |int k=>cases r';rw[h]at h';exact aK h'
  |str k=>cases r';rw[h]at h';exact aK h'
  |cX f=>cases u<;>cases h
  | @bW a vs ws f hs=>
   cases r' with
   | @bW _ us zs g ks=>
    rw[f]at g;cases g;cases u with
    |bW us=>exact list hs ks h h'
    |int _=>have:=aK h;have:=aK h';subst_vars;rfl
    |_=>cases h
   |cX _=>cases u<;>cases h'
   |ref _=>
    exfalso;cases u with
    |ref c=>
     have h2:(match S a with
      |some (.bP xs)=>match S c with
       |some (.bP ys)=>oY (n_ S n) xs ys
       |_=>none
      |_=>none)=aa b':=h'
     split at h2
     ·exact nolist f ‹_›
     ·cases h2
    |_=>cases h'
  |ref a=>
   cases r' with
   |ref _=>rw[h]at h';exact aK h'
   |cX _=>cases u<;>cases h'
   |bW f hs=>
    exfalso;cases u with
    |ref c=>
     have h2:(match S a with
      |some (.bP xs)=>match S c with
       |some (.bP ys)=>oY (n_ S n) xs ys
       |_=>none
      |_=>none)=aa b:=h
     split at h2
     ·exact nolist f ‹_›
     ·cases h2
    |_=>cases h
open Classical in
def B3 (I:mC X ag σ H s) (hS:mG X.K H S) {A:bt}{ws:List W}{vs:List V}{us:List aj}{wx:W}{x:V}{u:aj}{b:Bool}(hu:A.units+60<cLine) (r:mF X.K H ws vs) (rv:mR vs us) (rx:nN X.K H wx x) (ru:mZ x u) (h:rM S wx ws=aa b) :
  ∃e:aj→Bool,(∀y,y∈us.toArray→fj A.in1 s y u (e y))∧us.toArray.any e=b:=by
 refine⟨λy=>decide (∃w v,nN X.K H w v∧mZ v y∧n_ S 59 w wx=aa true),?_,?_⟩
 ·have go:∀{ws:List W}{vs:List V}{us:List aj}{b:Bool},mF X.K H ws vs→mR vs us→rM S wx ws=aa b→ ∀y∈us,fj A.in1 s y u (decide (∃w v,nN X.K H w v∧mZ v y∧n_ S 59 w wx=aa true)):=by
   intro ws
   induction ws with
   |nil=>intro vs us b r rv h y hy;cases r;cases rv;cases hy
   |cons w ws ih=>
    intro vs us b r rv h y hy;cases r with
    |cons r1 r2=>
     cases rv with
     |cons q1 q2=>
      unfold rM at h;split at h
      ·rename_i c e1;split at h
       ·rename_i d e2;obtain rfl |hy:=az.mp hy
        ·have ok:=(BV I hS 59 (A:=A.in1) (by rw[Lc];lia) r1 rx q1 ru e1).1;have ec:c=decide (∃w v,nN X.K H w v∧mZ v y∧n_ S 59 w wx=aa true):=by
          cases c with
          |true=>exact(decide_eq_true ⟨w,_,r1,q1,e1⟩).symm
          |false=>
           symm;refine decide_eq_false λ⟨w',v',r',q',e'⟩=>?_;have:=mZ.inj q' q1;subst this;exact absurd (EK I hS 59 r1 r' e1 e') (by simp)
         rw[←ec];exact ok
        ·exact ih r2 q2 e2 y hy
       ·cases h
      ·cases h
  intro y hy;exact go r rv h y (by simpa using hy)
 ·have go:∀{ws:List W}{vs:List V}{us:List aj}{b:Bool},mF X.K H ws vs→mR vs us→rM S wx ws=aa b→us.any (λy=>decide (∃w v,nN X.K H w v∧mZ v y∧n_ S 59 w wx=aa true))=b:=by
   intro ws
   induction ws with
   |nil=>intro vs us b r rv h;cases r;cases rv;exact aK h
   |cons w ws ih=>
    intro vs us b r rv h;cases r with
    |cons r1 r2=>
     cases rv with
     | @cons _ _ _ _ q1 q2=>
      rename_i y _;unfold rM at h;split at h
      ·rename_i c e1;split at h
       ·rename_i d e2;have ec:decide (∃w v,nN X.K H w v∧mZ v y∧n_ S 59 w wx=aa true)=c:=by
          cases c with
          |true=>exact decide_eq_true ⟨w,_,r1,q1,e1⟩
          |false=>
           refine decide_eq_false λ⟨w',v',r',q',e'⟩=>?_;have:=mZ.inj q' q1;subst this;exact absurd (EK I hS 59 r1 r' e1 e') (by simp)
        rw[fu,ih r2 q2 e2,ec];exact aK h
       ·cases h
      ·cases h
  have:=go r rv h;simpa using this
end
def uy (neg:Bool):W2:=λx y S Q=>match y with
 | .str j=>match x with
  | .str i=>Q (.bl (if neg then !(!(c8 j i 0 j.length 1).isEmpty) else !(c8 j i 0 j.length 1).isEmpty)) S
  |_=>False
 | .bW ws=>match rM S x ws with
  |some b=>Q (.bl (if neg then !b else b)) S
  |none=>False
 | .ref a=>og S a λws=>match rM S x ws with
  |some b=>Q (.bl (if neg then !b else b)) S
  |none=>False
 |_=>False
def E5 (K:ao) (neg:Bool):R2:=λx y H Q=>∃wx ws vs S p b,y= .ref p∧(oJ K H p vs∨oZ K H p vs)∧mF K H ws vs∧nN K H wx x∧mG K H S∧rM S wx ws=aa b∧Q (.bl (if neg then !b else b)) H
def QK (hu:X.A.units+60<cLine):oh X (bB .In) (E5 X.K false):=by
 intro ag s σ H x y v u Q I rx ry h;obtain⟨wx,ws,vs,S,p,b,rfl,hq,rs,r,hS,e,q⟩:=h;cases ry;obtain hq |hq:=hq
 ·obtain⟨d5,rv,p,_⟩:=I.list hq;obtain⟨f,h1,h2⟩:=B3 I hS hu rs rv r rx e;exact SeqAt.in_listAt f p.isList h1 (by rw[h2];exact⟨.bl b,H,I,rfl,q⟩)
 ·obtain⟨d5,rv,p,_⟩:=I.tuple hq;obtain⟨f,h1,h2⟩:=B3 I hS hu rs rv r rx e;exact SeqAt.in_tupleAt f p h1 (by rw[h2];exact⟨.bl b,H,I,rfl,q⟩)
def Sy (hu:X.A.units+60<cLine):oh X (bB .NotIn) (E5 X.K true):=by
 intro ag s σ H x y v u Q I rx ry h;obtain⟨wx,ws,vs,S,p,b,rfl,hq,rs,r,hS,e,q⟩:=h;cases ry;obtain hq |hq:=hq
 ·obtain⟨d5,rv,p,_⟩:=I.list hq;obtain⟨f,h1,h2⟩:=B3 I hS hu rs rv r rx e;exact SeqAt.notIn_listAt f p.isList h1 (by rw[h2];exact⟨.bl (!b),H,I,rfl,q⟩)
 ·obtain⟨d5,rv,p,_⟩:=I.tuple hq;obtain⟨f,h1,h2⟩:=B3 I hS hu rs rv r rx e;exact SeqAt.notIn_tupleAt f p h1 (by rw[h2];exact⟨.bl (!b),H,I,rfl,q⟩)
def NX{K:ao}{neg:Bool}{H:Hp}{x y:V}{wx wy:W}{S:lF}{Q:VK}{QW:WK}(rx:nN K H wx x) (ry:nN K H wy y) (hS:mG K H S) (h:uy neg wx wy S QW) (hQ:oM K H S QW Q) :
  (∃i j,x= .str i∧y= .str j∧Q (.bl (if neg then !(!(c8 j i 0 j.length 1).isEmpty) else !(c8 j i 0 j.length 1).isEmpty)) H)∨E5 K neg x y H Q:=by
 cases ry with
 |str j=>
  cases rx with
  |str i=>exact .inl ⟨i,j,rfl,rfl,hQ _ S _ H .refl (.bl _) hS h⟩
  |_=>exact h.elim
 |bW f hs=>
  refine .inr ?_;unfold uy at h;dsimp only at h;split at h
  ·exact⟨wx,_,_,S,_,_,rfl, .inr (.of f),hs,rx,hS, ‹_›,hQ _ S _ H .refl (.bl _) hS h⟩
  ·exact h.elim
 |ref a=>
  refine .inr ?_;obtain⟨ws,e,h⟩:=qm h;obtain⟨vs,f,hs⟩:=hS a _ e;split at h
  ·exact⟨wx,_,_,S,_,_,rfl, .inl (.of f),hs,rx,hS, ‹_›,hQ _ S _ H .refl (.bl _) hS h⟩
  ·exact h.elim
 |_=>exact h.elim
def mH:W2:=λx y S Q=>match y with
 | .int i=>match x with
  | .bW ws=>match nE ws i with
   |some w=>Q w S
   |none=>False
  | .ref a=>og S a λws=>match nE ws i with
   |some w=>Q w S
   |none=>False
  | .cX ns=>match nE ns i with
   |some n=>Q (.int n) S
   |none=>False
  | .str x=>x.length≤sizeLine∧match nE x.cps.toList i with
   |some c=>Q (.str ⟨#[c]⟩) S
   |none=>False
  |_=>False
 |_=>False
def C_{K:ao}{H:Hp}{ws:List W}{vs:List V}{i:Int}{w:W}(r:mF K H ws vs) (e:nE ws i=aa w):∃v,nE vs i=aa v∧nN K H w v:=by
 unfold nE at e⊢;rw[←r.length];cases q:tG ws.length i with
 |none=>rw[q]at e;cases e
 |some j=>rw[q]at e;exact r.get e
def Xy{α β:Type}{f:α→β}{xs:List α}{i:Int}{x:α}(e:nE xs i=aa x):nE (xs.map f) i=aa (f x):=by
 unfold nE at e⊢;rw[ay];cases q:tG xs.length i with
 |none=>rw[q]at e;cases e
 |some j=>
  rw[q]at e;show(xs.map f)[j]? =_;rw[aT,show xs[j]? =aa x from e];rfl
def UZ{K:ao}:qX K (Hf K) mH:=λH x y wx wy S Q QW rx ry hS h hQ=>by
 cases ry with
 |int i=>
  cases rx with
  |bW f hs=>
   unfold mH at h;dsimp only at h;split at h
   ·obtain⟨v,ev,r⟩:=C_ hs ‹_›;exact .inr (.inl ⟨_,_,i,v,rfl,rfl, .of f,ev,hQ _ S _ H .refl r hS h⟩)
   ·exact h.elim
  |ref a=>
   obtain⟨ws,e,h⟩:=qm h;obtain⟨vs,f,hs⟩:=hS a _ e;split at h
   ·obtain⟨v,ev,r⟩:=C_ hs ‹_›;exact .inl ⟨_,_,i,v,rfl,rfl, .of f,ev,hQ _ S _ H .refl r hS h⟩
   ·exact h.elim
  |cX f=>
   unfold mH at h;dsimp only at h;split at h
   ·exact .inl ⟨_,_,i,_,rfl,rfl,f.sq,Xy ‹_›,hQ _ S _ H .refl (.int _) hS h⟩
   ·exact h.elim
  |str z=>
   unfold mH at h;dsimp only at h;obtain⟨hz,h⟩:=h;split at h
   ·exact .inr (.inr ⟨z,i,_,rfl,rfl,hz, ‹_›,hQ _ S _ H .refl (.str _) hS h⟩)
   ·exact h.elim
  |_=>exact h.elim
 |_=>exact h.elim
section
variable {X:Cx}{a b e:Expr}{pos p2:bw}{ta tb te:WE}{lo hi:Option Expr}
def V0 (ha:JE X a ta) (hb:JE X b tb) (hs:BO b:=by intro _ _;rfl):JE X (.Subscript a b pos) (my mH ta tb):=λE hE=>
 (Nu Jg (ha E hE) (hb E hE) hs).mono λσ H Q h=>Cq h λH2 x y wx wy S QW rx ry hS q hQ=>UZ H2 x y wx wy S Q QW rx ry hS q hQ
abbrev WO:=WX→mW→lF→(Option Int→lF→Prop)→Prop
def Uk (K:ao) (t:mW→lF→(Option Int→lF→Prop)→Prop):TO:=λσ H Q=>∃σW S QW,nw K H σW σ∧mG K H S∧t σW S QW∧ ∀b S' H',nJ H S H' S'→mG K H' S'→QW b S'→Q b H'
def JO (X:Cx) (e:Option Expr) (t:WO):Prop:=∀E,oP X E→PO X e (Uk X.K (t E))
def oA (_:WX) (_:mW) (S:lF) (Q:Option Int→lF→Prop):Prop:=Q none S
def ow (t:WE) (E:WX) (σ:mW) (S:lF) (Q:Option Int→lF→Prop):Prop:=t E σ S λw S1=>match w with
 | .int i=>Q (aa i) S1
 |_=>False
def PO.mono{X:Cx}{e:Option Expr}{t t':TO}(h:PO X e t) (q:∀σ H Q,t' σ H Q→t σ H Q):PO X e t':=λag s σ H Q I z=>h ag s σ H Q I (q σ H Q z)
def Tk:JO X none oA:=λE hE=>uq.mono λσ H Q ⟨σW,S,QW,hσ,hS,ht,hQ⟩=>hQ none S H .refl hS ht
def R4 (h:JE X e te):JO X (aa e) (ow te):=λE hE=>(ZC (h E hE)).mono λσ H Q ⟨σW,S,QW,hσ,hS,ht,hQ⟩=>⟨σW,S,_,hσ,hS,ht,λw S1 v H1 e1 r1 iF h1=>by
 cases r1 with
 |int i=>exact⟨i,rfl,hQ _ S1 H1 e1 iF h1⟩
 |_=>exact h1.elim⟩
noncomputable def o7 {α:Type}(xs:List α) (lo hi:Option Int):List α:=(xs.drop (HT.sIx xs.length 0 lo)).take (HT.sIx xs.length xs.length hi - HT.sIx xs.length 0 lo)
def Fh{K:ao}{H:Hp}{ws:List W}{vs:List V}{lo hi:Option Int}(r:mF K H ws vs):mF K H (o7 ws lo hi) (td vs lo hi):=by
 unfold o7 td;rw[r.length];exact(r.drop _).take _
def KD{α β:Type}{f:α→β}{xs:List α}{lo hi:Option Int}:o7 (xs.map f) lo hi=(o7 xs lo hi).map f:=by
 unfold o7;rw[ay,ja,iZ]
def Yv{prog:bg}{w:aS}{A:bt}{E:aj→am→Prop}{s:am}{t sl:ai}{items:Array aj}{vl vu:aj}{lo hi:Option Int}{Q:aj→am→Prop}(ht:eT s.heap t items) (hs:s.heap.IsSliceOf sl vl vu .none) (pl:c5 vl lo) (pu:c5 vu hi)
  (hw:HT.sIx items.size 0 lo=0∧HT.sIx items.size items.size hi=items.size) (h:Q (.ref t) s):av (aB prog w) A (eH (.ref t) (.ref sl)) Q E s:=by
 obtain⟨os,hos,hcs,hds⟩:=id hs;have hTs:s.TypeIs (.ref sl) "slice" :=⟨os,hos,hcs⟩;unfold eH
 try with_reducible refine gw ?_
 first |refine au (aM ?_) |skip
 refine au (kX ht.typeIs (by decide) ?_);refine au (dQ (name:=bE "__getitem__") ht.typeIs fo
  (dE fo ht.typeIs lN ?_ (kP _ _)))
 show av _ _ (l_ (.ref t) >>= _) _ _ s;refine au (tupleItemsOf_ ht ?_);refine au (gc hTs ?_);rw[if_pos (by decide)];refine au (HT.sliceApplied_gen hs pl pu ?_);show av _ _ (if(((HT.sIx items.size 0 lo:Nat):Int) == 0&&(1:Int) == 1&&(HT.sIx items.size items.size hi - HT.sIx items.size 0 lo) == items.size)=true then _ else _) _ _ s;rw[hw.1,hw.2,if_pos (by simp)];unfold cC.Tuple.tupleIsExact;refine au (au (gc ht.typeIs (aM ?_)));rw[if_pos (by decide)];exact au (eR (aM ⟨_,rfl,aM h⟩))
def t6:uu X (λx lo hi H Q=>∃a xs,x= .ref a∧oZ X.K H a xs∧((HT.sIx xs.length 0 lo=0∧HT.sIx xs.length xs.length hi=xs.length)∧Q (.ref a) H∨ ¬(HT.sIx xs.length 0 lo=0∧HT.sIx xs.length xs.length hi=xs.length)∧ ∀p,H p=none→Q (.ref p) (nM H p (.bW (td xs lo hi))))):=by
 intro ag s σ H x v vl vu lo hi sl Q I rx hs pl pu h;obtain⟨a,xs,rfl,hx,⟨hw,q⟩ |⟨hw,q⟩⟩:=h
 ·cases rx;obtain⟨d5,r,ht,hz⟩:=I.tuple hx;have hlen:d5.toArray.size=xs.length:=by rw[bh];exact r.length.symm
  refine⟨"tuple",_,fo.lookup,ht.typeIs,?_⟩;exact Yv ht hs pl pu (by rw[hlen];exact hw) ⟨.ref a,H,I,rfl,q⟩
 ·exact Vo ag s σ H _ v vl vu lo hi sl Q I rx hs pl pu ⟨a,xs,rfl,hx,hw,q⟩
def zj:W→Option Int→Option Int→lF→WK→Prop
 | .bW ws,lo,hi,S,Q=>Q (.bW (o7 ws lo hi)) S
 | .str z,lo,hi,S,Q=>z.length≤sizeLine∧Q (.str (c_ z lo hi)) S
 | .ref a,lo,hi,S,Q=>og S a λws=>∀p,S p=none→Q (.ref p) (bQ S p (.bP (o7 ws lo hi)))
 | .cX ns,lo,hi,S,Q=>∀p,S p=none→Q (.ref p) (bQ S p (.bP ((o7 ns lo hi).map W.int)))
 |_,_,_,_,_=>False
def oE (t:WE) (l h:WO) (E:WX) (σ:mW) (S:lF) (Q:WK):Prop:=t E σ S λx S1=>l E σ S1 λlo S2=>h E σ S2 λhi S3=>zj x lo hi S3 Q
def RU{α:Type}{xs:List α}{lo hi:Option Int}(h:HT.sIx xs.length 0 lo=0∧HT.sIx xs.length xs.length hi=xs.length):o7 xs lo hi=xs:=by
 unfold o7;rw[h.1,h.2,dM,eU,jp]
def Qh{tl th:WO}(he:JE X e te) (hl:JO X lo tl) (hh:JO X hi th):JE X (.Subscript e (.Slice lo hi none p2) pos) (oE te tl th):=λE hE=>
 (NN (t6.or (vG.or Lu)) (he E hE) (hl E hE) (hh E hE)).mono λσ H Q ⟨σW,S,QW,hσ,hS,ht,hQ⟩=>
  ⟨σW,S,_,hσ,hS,ht,λw S1 v H1 e1 r1 iF h1=>⟨σW,S1,_,hσ.ext e1,iF,h1,λlo S2 H2 e2 hS2 h2=>⟨σW,S2,_,(hσ.ext e1).ext e2,hS2,h2,λhi S3 H3 e3 hS3 h3=>by
   have hQ':=hQ.from (e1.trans (e2.trans e3));have r3:=(r1.ext e2).ext e3;cases r3 with
   | @bW a vs ws f hs=>
    refine .inl ⟨a,vs,rfl, .of f,?_⟩;by_cases hw:HT.sIx vs.length 0 lo=0∧HT.sIx vs.length vs.length hi=vs.length
    ·refine .inl ⟨hw,hQ' (.bW ws) S3 _ H3 .refl (.bW f hs) hS3 ?_⟩;have:=RU (xs:=ws) (lo:=lo) (hi:=hi) (by rw[hs.length];exact hw);have h3':QW (.bW (o7 ws lo hi)) S3:=h3;rw[this]at h3';exact h3'
    ·exact .inr ⟨hw,λp hp=>hQ' _ S3 _ _ (.new hp) (.bW pH ((Fh hs).ext (.new (S:=S3) hp))) (hS3.new hp) h3⟩
   |str z=>exact .inr (.inl ⟨z,rfl,h3.1,hQ' _ S3 _ H3 .refl (.str _) hS3 h3.2⟩)
   |ref a=>
    obtain⟨ws,ea,h⟩:=qm h3;obtain⟨vs,f,hs⟩:=hS3 a _ ea;exact .inr (.inr ⟨a,vs,rfl, .of f,λp hp=>hQ' _ _ _ _ (.newS hp) (.ref p) (hS3.put_lst hp ((Fh hs).ext (.new (S:=S3) hp))) (h p (hS3.free hp))⟩)
   | @cX a ns f=>
    refine .inr (.inr ⟨a,_,rfl,f.sq,λp hp=>hQ' _ _ _ _ (.newS hp) (.ref p) (hS3.put_lst hp ?_) (h3 p (hS3.free hp))⟩);have q:td (ns.map V.int) lo hi=(o7 ns lo hi).map V.int:=KD;rw[q];exact mF.ofInts _
   |_=>exact h3.elim⟩⟩⟩
def vt (t:WE) (l h:WO) (E:WX) (σ:mW) (S:lF) (Q:List W→lF→Prop):Prop:=t E σ S λx S1=>l E σ S1 λlo S2=>h E σ S2 λhi S3=>match x with
 | .ref a=>og S3 a λws=>Q (o7 ws lo hi) S3
 | .cX ns=>Q ((o7 ns lo hi).map W.int) S3
 |_=>False
def X8{tl th:WO}(he:JE X e te) (hl:JO X lo tl) (hh:JO X hi th):JL X (.Subscript e (.Slice lo hi none p2) pos) (vt te tl th):=λE hE=>
 (NN Lu (he E hE) (hl E hE) (hh E hE)).mono λσ H Q ⟨σW,S,QW,hσ,hS,ht,hQ⟩=>
  ⟨σW,S,_,hσ,hS,ht,λw S1 v H1 e1 r1 iF h1=>⟨σW,S1,_,hσ.ext e1,iF,h1,λlo S2 H2 e2 hS2 h2=>⟨σW,S2,_,(hσ.ext e1).ext e2,hS2,h2,λhi S3 H3 e3 hS3 h3=>by
   have e':=e1.trans (e2.trans e3);have r3:=(r1.ext e2).ext e3;cases r3 with
   |ref a=>
    obtain⟨ws,ea,h⟩:=qm h3;obtain⟨vs,f,hs⟩:=hS3 a _ ea;exact⟨a,vs,rfl, .of f,λp hp=>hQ _ S3 _ p _ (e'.trans (.new hp)) (e'.free hp) pH (hS3.free hp) ((Fh hs).ext (.new (S:=S3) hp)) (hS3.new hp) h⟩
   | @cX a ns f=>
    refine⟨a,_,rfl,f.sq,λp hp=>hQ _ S3 _ p _ (e'.trans (.new hp)) (e'.free hp) pH (hS3.free hp) ?_ (hS3.new hp) h3⟩;have q:td (ns.map V.int) lo hi=(o7 ns lo hi).map V.int:=KD;rw[q];exact mF.ofInts _
   |_=>exact h3.elim⟩⟩⟩
end
abbrev WF:=List W→lF→WK→Prop
def wB (f:WF) (t:WA) (E:WX) (σ:mW) (S:lF) (Q:WK):Prop:=t E σ S λws S1=>f ws S1 Q
def vW (K:ao) (r:List V→Hp→VK→Prop) (f:WF):Prop:=∀H vs ws S (Q:VK) (QW:WK),mF K H ws vs→mG K H S→f ws S QW→oM K H S QW Q→r vs H Q
def qR (f:WF) (t:WL) (E:WX) (σ:mW) (S:lF) (Q:WK):Prop:=t E σ S λws S1=>f ws S1 Q
def xi (K:ao) (r:List V→Hp→VK→Prop) (f:WF):Prop:=∀H a vs ws S (Q:VK) (QW:WK),H a=aa (.bP vs)→S a=none→mF K H ws vs→mG K H S→f ws S QW→oM K H S QW Q→r [.ref a] H Q
section
variable {X:Cx}{x:ah}{p pos:bw}{e:Expr}{es:List Expr}{t:WA}{tl:WL}{id T:String}{r:List V→Hp→VK→Prop}{f:WF}
def Ku (hc:nO X (.builtin id) r) (hw:vW X.K r f) (hg:Gl X x) (hm:X.mg x=none) (hv:cG x=aa (.builtin id)) (ha:JA X (e::es) t) (hn:x≠ "__name__" ) (hdb:(x == ("__debug__" :ah))=false)
  (he:ax (e::es) X.env=(false,aG e X.env)::ax es X.env) (hpl:(aZ pos (ax es X.env)).any (·.1)=false):JE X (.Call (.Name x p) (e::es) [] pos) (wB f t):=λE hE=>
 (Fv hc hg hm hv (ha E hE) hn hdb he hpl).mono λσ H Q ⟨σW,S,QW,hσ,hS,ht,hQ⟩=>⟨σW,S,_,hσ,hS,ht,λws S1 vs H1 e1 r1 iF h1=>hw H1 vs ws S1 Q QW r1 iF h1 (hQ.from e1)⟩
def IN (hc:nO X (.type T) r) (hw:vW X.K r f) (hg:Gl X x) (hm:X.mg x=none) (hv:cG x=aa (.type T)) (ha:JA X (e::es) t) (hn:x≠ "__name__" ) (hdb:(x == ("__debug__" :ah))=false)
  (he:ax (e::es) X.env=(false,aG e X.env)::ax es X.env) (hpl:(aZ pos (ax es X.env)).any (·.1)=false):JE X (.Call (.Name x p) (e::es) [] pos) (wB f t):=λE hE=>
 (FH hc hg hm hv (ha E hE) hn hdb he hpl).mono λσ H Q ⟨σW,S,QW,hσ,hS,ht,hQ⟩=>⟨σW,S,_,hσ,hS,ht,λws S1 vs H1 e1 r1 iF h1=>hw H1 vs ws S1 Q QW r1 iF h1 (hQ.from e1)⟩
def M7 (hc:nO X (.builtin id) r) (hw:xi X.K r f) (hg:Gl X x) (hm:X.mg x=none) (hv:cG x=aa (.builtin id)) (ha:JL X e tl) (hn:x≠ "__name__" ) (hdb:(x == ("__debug__" :ah))=false)
  (he:ax [e] X.env=(false,aG e X.env)::ax [] X.env) (hpl:(aZ pos (ax [] X.env)).any (·.1)=false):JE X (.Call (.Name x p) [e] [] pos) (qR f tl):=λE hE=>
 (Fv hc hg hm hv (tV (ha E hE) oX he) hn hdb he hpl).mono λσ H Q ⟨σW,S,QW,hσ,hS,ht,hQ⟩=>⟨σW,S,_,hσ,hS,ht,λws S1 vs a H1 e1 fa ea na r1 iF h1=>hw H1 a vs ws S1 Q QW ea na r1 iF h1 (hQ.from e1)⟩
def Li (hc:nO X (.type T) r) (hw:xi X.K r f) (hg:Gl X x) (hm:X.mg x=none) (hv:cG x=aa (.type T)) (ha:JL X e tl) (hn:x≠ "__name__" ) (hdb:(x == ("__debug__" :ah))=false)
  (he:ax [e] X.env=(false,aG e X.env)::ax [] X.env) (hpl:(aZ pos (ax [] X.env)).any (·.1)=false):JE X (.Call (.Name x p) [e] [] pos) (qR f tl):=λE hE=>
 (FH hc hg hm hv (tV (ha E hE) oX he) hn hdb he hpl).mono λσ H Q ⟨σW,S,QW,hσ,hS,ht,hQ⟩=>⟨σW,S,_,hσ,hS,ht,λws S1 vs a H1 e1 fa ea na r1 iF h1=>hw H1 a vs ws S1 Q QW ea na r1 iF h1 (hQ.from e1)⟩
def oR:WF:=λws S Q=>match ws with
 | [.bW us]=>Q (.int us.length) S
 | [.ref a]=>og S a λus=>Q (.int us.length) S
 | [.cX ns]=>Q (.int ns.length) S
 | [.str z]=>z.length≤sizeLine∧Q (.int z.length) S
 |_=>False
def P0{K:ao}:vW K (λxs H Q=>(∃p ys,xs=[.ref p]∧(oJ K H p ys∨oZ K H p ys)∧Q (.int ys.length) H)∨ ∃z,xs=[.str z]∧z.length≤sizeLine∧Q (.int z.length) H) oR:=λH vs ws S Q QW r hS h hQ=>by
 cases r with
 |nil=>exact h.elim
 |cons r1 r2=>
  cases r2 with
  |cons _ _=>cases r1<;>exact h.elim
  |nil=>
   cases r1 with
   |bW f hs=>exact .inl ⟨_,_,rfl, .inr (.of f),by rw[←hs.length];exact hQ _ S _ H .refl (.int _) hS h⟩
   |ref a=>
    obtain⟨us,e,h⟩:=qm h;obtain⟨vs,f,hs⟩:=hS a _ e;exact .inl ⟨_,_,rfl, .inl (.of f),by rw[←hs.length];exact hQ _ S _ H .refl (.int _) hS h⟩
   |cX f=>exact .inl ⟨_,_,rfl, .inl f.sq,by rw[ay];exact hQ _ S _ H .refl (.int _) hS h⟩
   |str z=>exact .inr ⟨z,rfl,h.1,hQ _ S _ H .refl (.int _) hS h.2⟩
   |_=>exact h.elim
def Z9 (hg:Gl X "len") (hm:X.mg "len" =none) (ha:JA X (e::es) t) 
  (he:ax (e::es) X.env=(false,aG e X.env)::ax es X.env) (hpl:(aZ pos (ax es X.env)).any (·.1)=false):JE X (.Call (.Name "len" p) (e::es) [] pos) (wB oR t):=
 Ku (qz.or Ur) P0 hg hm PySem.boot_len ha (by decide) (by decide) he hpl
def rG:WF:=λws S Q=>match ws with
 | [.bW us]=>Q (.bW us) S
 | [.ref a]=>og S a λus=>Q (.bW us) S
 |_=>False
def X1{K:ao}:vW K (λxs H Q=>∃p ys,xs=[.ref p]∧((oJ K H p ys∧ ∀l,H l=none→Q (.ref l) (nM H l (.bW ys)))∨(oZ K H p ys∧Q (.ref p) H))) rG:=λH vs ws S Q QW r hS h hQ=>by
 cases r with
 |nil=>exact h.elim
 |cons r1 r2=>
  cases r2 with
  |cons _ _=>cases r1<;>exact h.elim
  |nil=>
   cases r1 with
   |bW f hs=>exact⟨_,_,rfl, .inr ⟨.of f,hQ _ S _ H .refl (.bW f hs) hS h⟩⟩
   |ref a=>
    obtain⟨us,e,h⟩:=qm h;obtain⟨vs,f,hs⟩:=hS a _ e;exact⟨_,_,rfl, .inl ⟨.of f,λl hl=>hQ _ S _ _ (.new hl) (.bW pH (hs.ext (.new (S:=S) hl))) (hS.new hl) h⟩⟩
   |_=>exact h.elim
def vx (ws:List W) (S:lF) (Q:WK):Prop:=Q (.bW ws) S
def TD{K:ao}:xi K (λxs H Q=>∃p ys,xs=[.ref p]∧((oJ K H p ys∧ ∀l,H l=none→Q (.ref l) (nM H l (.bW ys)))∨(oZ K H p ys∧Q (.ref p) H))) vx:=λH a vs ws S Q QW ea na r hS h hQ=>
 ⟨a,vs,rfl, .inl ⟨.of ea,λl hl=>hQ _ S _ _ (.new hl) (.bW pH (r.ext (.new (S:=S) hl))) (hS.new hl) h⟩⟩
def yp (t:WE) (E:WX) (σ:mW) (S:lF) (Q:List W→lF→Prop):Prop:=t E σ S λw S1=>match w with
 | .bW ws=>Q ws S1
 | .ref a=>og S1 a λws=>Q ws S1
 | .cX ns=>Q (ns.map W.int) S1
 |_=>False
def O6{te:WE}(hg:Gl X "list") (hm:X.mg "list" =none) (ha:JE X e te)
  (he:ax [e] X.env=(false,aG e X.env)::ax [] X.env) (hpl:(aZ pos (ax [] X.env)).any (·.1)=false):JL X (.Call (.Name "list" p) [e] [] pos) (yp te):=λE hE=>
 (FH zlS hg hm PyProof.Rows.boot_list (tV (ha E hE) oX he) (by decide) (by decide) he hpl).mono λσ H Q ⟨σW,S,QW,hσ,hS,ht,hQ⟩=>⟨σW,S,_,hσ,hS,ht,λw S1 v H1 e1 r1 iF h1=>by
  cases r1 with
  |bW f hs=>exact⟨_,_,rfl, .inr (.of f),λl hl=>hQ _ S1 _ l _ (e1.trans (.new hl)) (e1.free hl) pH (iF.free hl) (hs.ext (.new (S:=S1) hl)) (iF.new hl) h1⟩
  |ref a=>
   obtain⟨ws,ea,h⟩:=qm h1;obtain⟨vs,f,hs⟩:=iF a _ ea;exact⟨_,_,rfl, .inl (.of f),λl hl=>hQ _ S1 _ l _ (e1.trans (.new hl)) (e1.free hl) pH (iF.free hl) (hs.ext (.new (S:=S1) hl)) (iF.new hl) h⟩
  |cX f=>exact⟨_,_,rfl, .inl f.sq,λl hl=>hQ _ S1 _ l _ (e1.trans (.new hl)) (e1.free hl) pH (iF.free hl) (mF.ofInts _) (iF.new hl) h1⟩
  |_=>exact h1.elim⟩
noncomputable def sG:List W→Option (List Bool)
 | []=>aa []
 | .bl b::ws=>(sG ws).map (b:: ·)
 |_=>none
theorem LM{K:ao}{H:Hp}:∀{ws:List W}{vs:List V}{bs:List Bool},mF K H ws vs→sG ws=aa bs→vs=bs.map V.bl
 | [],_,_, .nil,e=>by have:=aK e;subst this;rfl
 |w::ws,_,_, .cons r rs,e=>by
  cases r with
  |bl b=>
   have e':(sG ws).map (b:: ·)=aa _:=e;cases q:sG ws with
   |none=>rw[q]at e';cases e'
   |some cs=>
    rw[q]at e';have:=aK e';subst this;rw[aC,LM rs q]
  |_=>cases e
def tQ (ws:List W) (S:lF) (Q:WK):Prop:=match sG ws with
 |some bs=>Q (.bl (bs.all _root_.id)) S
 |none=>False
def TN{K:ao}:xi K (λxs H Q=>∃(p:ai) (bs:List Bool),xs=[.ref p]∧oJ K H p (bs.map V.bl)∧Q (.bl (bs.all _root_.id)) H) tQ:=λH a vs ws S Q QW ea na r hS h hQ=>by
 unfold tQ at h;split at h
 ·rename_i bs e;have:=LM r e;subst this;exact⟨a,bs,rfl, .of ea,hQ _ S _ H .refl (.bl _) hS h⟩
 ·exact h.elim
def vI:W→lF→(String→Prop)→Prop
 | .ci,_,Q=>Q "NoneType"
 | .bl _,_,Q=>Q "bool"
 | .int _,_,Q=>Q "int"
 | .str _,_,Q=>Q "str"
 | .bW _,_,Q=>Q "tuple"
 | .ref a,S,Q=>og S a λ_=>Q "list"
 | .cX _,_,_=>False
def pi (A B:String):Bool:=A == B || (A == "bool" &&B == "int")
def so (T:String) (t:WE) (E:WX) (σ:mW) (S:lF) (Q:WK):Prop:=t E σ S λw S1=>vI w S1 λA=>Q (.bl (pi A T)) S1
def YV{a:Expr}{ta:WE}{p2:bw}{T:ah}{T':String}(hg:Gl X "isinstance") (hm:X.mg "isinstance" =none) (hgT:Gl X T) (hmT:X.mg T=none) (hv:cG T=aa (.type T')) (ha:JE X a ta) (hn:T≠ "__name__") (hd:(T == ("__debug__" :ah))=false)
  (hk:∀A∈ ["NoneType", "bool", "int", "str", "tuple", "list"],fV X.K (.type A) (.type T')=aa (pi A T'))
  (he:ax [a, .Name T p2] X.env=(false,aG a X.env)::ax [.Name T p2] X.env:=by rfl) (he2:ax [.Name T p2] X.env=(false,aG (.Name T p2) X.env)::ax [] X.env:=by rfl) (hpl:(aZ pos (ax [.Name T p2] X.env)).any (·.1)=false:=by rfl) :
  JE X (.Call (.Name "isinstance" p) [a, .Name T p2] [] pos) (so T' ta):=λE hE=>
 (Fv YN hg hm PyProof.Rows.boot_isinstance (tV (ha E hE) (tV (Sd (v:= .ty T') hgT hmT hv rfl hn hd) oX he2) he) (by decide) (by decide) he hpl).mono λσ H Q ⟨σW,S,QW,hσ,hS,ht,hQ⟩=>⟨σW,S,_,hσ,hS,ht,λw S1 v H1 e1 r1 iF h1=>by
  have fin:∀{t:aj}(A:String),t= .type A→A∈ ["NoneType", "bool", "int", "str", "tuple", "list"]→o_ X.K H1 v t→QW (.bl (pi A T')) S1→ ∃x t c b,[v,V.ty T']=[x, .ty c]∧o_ X.K H1 x t∧fV X.K t (.type c)=aa b∧Q (.bl b) H1:=λA e hA ty q=>by
   subst e;exact⟨v,_,T',_,rfl,ty,hk A hA,hQ _ S1 _ H1 e1 (.bl _) iF q⟩
  cases r1 with
  |ci=>exact fin _ rfl (by simp) .ci h1
  |bl b=>exact fin _ rfl (by simp) (.bl b) h1
  |int i=>exact fin _ rfl (by simp) (.int i) h1
  |str z=>exact fin _ rfl (by simp) (.str z) h1
  |bW f hs=>exact fin _ rfl (by simp) (.bW f) h1
  |ref a=>
   obtain⟨ws,ea,h⟩:=qm h1;obtain⟨vs,f,hs⟩:=iF a _ ea;exact fin _ rfl (by simp) (.bP f) h
  |cX f=>exact h1.elim⟩
end
abbrev rq:=W→List W→lF→WK→Prop
def pJ:W→lF→Prop
 | .ref a,S=>og S a λ_=>True
 |_,_=>False
def ve:W→lF→Prop
 | .str _,_=>True
 |_,_=>False
def wM (rv:W→lF→Prop) (f:rq) (to:WE) (t:WA) (E:WX) (σ:mW) (S:lF) (Q:WK):Prop:=to E σ S λw S1=>rv w S1∧t E σ S1 λws S2=>f w ws S2 Q
def vv (rv:W→lF→Prop) (f:rq) (to:WE) (t:WL) (E:WX) (σ:mW) (S:lF) (Q:WK):Prop:=to E σ S λw S1=>rv w S1∧t E σ S1 λws S2=>f w ws S2 Q
def yj (K:ao) (r:V→List V→Hp→VK→Prop) (f:rq):Prop:=∀H x w vs ws S (Q:VK) (QW:WK),nN K H w x→mF K H ws vs→mG K H S→f w ws S QW→oM K H S QW Q→r x vs H Q
def Er (K:ao) (r:V→List V→Hp→VK→Prop) (f:rq):Prop:=∀H x w a vs ws S (Q:VK) (QW:WK),nN K H w x→H a=aa (.bP vs)→S a=none→mF K H ws vs→mG K H S→f w ws S QW→oM K H S QW Q→r x [.ref a] H Q
def zC (K:ao) (T:String) (rv:W→lF→Prop):Prop:=∀H w v S,nN K H w v→mG K H S→rv w S→AW K T v H
def ER{K:ao}:zC K "list" pJ:=λH w v S r hS h=>by
 cases r with
 |ref a=>
  obtain⟨ws,e,_⟩:=qm h;obtain⟨vs,f,_⟩:=hS a _ e;exact .inl ⟨rfl,vs, .of f⟩
 |_=>exact h.elim
def N'{K:ao}:zC K "str" ve:=λH w v S r hS h=>by
 cases r with
 |str x=>exact rfl
 |_=>exact h.elim
section
variable {X:Cx}{o e:Expr}{es:List Expr}{to:WE}{t:WA}{tl:WL}{name:ah}{apos cpos:bw}{id T:String}{r:V→List V→Hp→VK→Prop}{f:rq}{rv:W→lF→Prop}
def HJ (pa:gb T) (slot:Slot T name id) (hty:eZ (.builtin id)=pure (.type "method_descriptor")) (hrv:zC X.K T rv) (hm:sQ X id r) (hw:yj X.K r f) (ho:JE X o to) (ha:JA X (e::es) t)
  (hbase:cP o name X.env (aG o X.env)=aG o X.env)
  (hfew:((aZ cpos (ax (e::es) X.env)).all (λx=> !x.1)&&(dN cpos (dF [] X.env)).all (λx=>x.1.isSome)
   &&decide ((e::es).length+([]:List b9).length+(if([]:List b9).isEmpty then 0 else 1)<30))=true)
  (hline:(apos.endLine == cpos.line)=true) (hs:ax (e::es) X.env=(false,aG e X.env)::ax es X.env) (hplain:(aZ cpos (ax es X.env)).any (·.1)=false) :
  JE X (.Call (.Attribute o name apos) (e::es) [] cpos) (wM rv f to t):=λE hE=>
 (NV pa slot hty hm (ho E hE) (ha E hE) hbase hfew hline hs hplain).mono λσ H Q ⟨σW,S,QW,hσ,hS,ht,hQ⟩=>⟨σW,S,_,hσ,hS,ht,λw S1 v H1 e1 r1 iF h1=>
  ⟨hrv H1 w v S1 r1 iF h1.1,σW,S1,_,hσ.ext e1,iF,h1.2,λws S2 vs H2 e2 r2 hS2 h2=>hw H2 v w vs ws S2 Q QW (r1.ext e2) r2 hS2 h2 (hQ.from (e1.trans e2))⟩⟩
def HX (pa:gb T) (slot:Slot T name id) (hty:eZ (.builtin id)=pure (.type "method_descriptor")) (hrv:zC X.K T rv) (hm:sQ X id r) (hw:Er X.K r f) (ho:JE X o to) (ha:JL X e tl)
  (hbase:cP o name X.env (aG o X.env)=aG o X.env)
  (hfew:((aZ cpos (ax [e] X.env)).all (λx=> !x.1)&&(dN cpos (dF [] X.env)).all (λx=>x.1.isSome)
   &&decide ([e].length+([]:List b9).length+(if([]:List b9).isEmpty then 0 else 1)<30))=true)
  (hline:(apos.endLine == cpos.line)=true) (hs:ax [e] X.env=(false,aG e X.env)::ax [] X.env) (hplain:(aZ cpos (ax [] X.env)).any (·.1)=false) :
  JE X (.Call (.Attribute o name apos) [e] [] cpos) (vv rv f to tl):=λE hE=>
 (NV pa slot hty hm (ho E hE) (tV (ha E hE) oX hs) hbase hfew hline hs hplain).mono λσ H Q ⟨σW,S,QW,hσ,hS,ht,hQ⟩=>⟨σW,S,_,hσ,hS,ht,λw S1 v H1 e1 r1 iF h1=>
  ⟨hrv H1 w v S1 r1 iF h1.1,σW,S1,_,hσ.ext e1,iF,h1.2,λws S2 vs a H2 e2 fa ea na r2 hS2 h2=>hw H2 v w a vs ws S2 Q QW (r1.ext e2) ea na r2 hS2 h2 (hQ.from (e1.trans e2))⟩⟩
def Qn (pa:gb T) (slot:Slot T name id) (hty:eZ (.builtin id)=pure (.type "method_descriptor")) (hrv:zC X.K T rv) (hm:sQ X id r) (hw:yj X.K r f) (ho:JE X o to)
  (hbase:cP o name X.env (aG o X.env)=aG o X.env) (hline:(apos.endLine == cpos.line)=true):JE X (.Call (.Attribute o name apos) [] [] cpos) (wM rv f to ae):=λE hE=>
 (OR pa slot hty hm (ho E hE) hbase hline).mono λσ H Q ⟨σW,S,QW,hσ,hS,ht,hQ⟩=>⟨σW,S,_,hσ,hS,ht,λw S1 v H1 e1 r1 iF h1=>
  ⟨hrv H1 w v S1 r1 iF h1.1,hw H1 v w [] [] S1 Q QW r1 .nil iF h1.2 (hQ.from e1)⟩⟩
def qy:rq:=λw ws S Q=>match w with
 | .ref a=>og S a λxs=>match ws with
  | [y]=>xs.length<sizeLine∧Q .ci (bQ S a (.bP (xs++[y])))
  |_=>False
 |_=>False
def Pr{K:ao}:yj K Gm qy:=λH x w vs ws S Q QW r rs hS h hQ=>by
 cases r with
 |ref a=>
  obtain⟨xs,ea,h⟩:=qm h;obtain⟨us,f,hs⟩:=hS a _ ea;cases rs with
  |nil=>exact h.elim
  |cons r1 r2=>
   cases r2 with
   |cons _ _=>exact h.elim
   |nil=>
    obtain⟨e,hS'⟩:=hS.set_lst ea (hs.append (.one r1));exact⟨a,us,_,rfl,rfl,f,by rw[←hs.length];exact h.1,hQ _ _ _ _ e .ci hS' h.2⟩
 |_=>exact h.elim
def Qv (ho:JE X o to) (ha:JA X (e::es) t)
  (hbase:cP o "append" X.env (aG o X.env)=aG o X.env)
  (hfew:((aZ cpos (ax (e::es) X.env)).all (λx=> !x.1)&&(dN cpos (dF [] X.env)).all (λx=>x.1.isSome)
   &&decide ((e::es).length+([]:List b9).length+(if([]:List b9).isEmpty then 0 else 1)<30))=true)
  (hline:(apos.endLine == cpos.line)=true) (hs:ax (e::es) X.env=(false,aG e X.env)::ax es X.env) (hplain:(aZ cpos (ax es X.env)).any (·.1)=false) :
  JE X (.Call (.Attribute o "append" apos) (e::es) [] cpos) (wM pJ qy to t):=HJ iQ PySem.F.slot_list_append PySem.F.type_list_append ER Gn Pr ho ha hbase hfew hline hs hplain
def Wl:rq:=λw ws S Q=>match w with
 | .ref a=>og S a λxs=>match ws with
  | []=>match xs[xs.length - 1]? with
   |some y=>Q y (bQ S a (.bP xs.dropLast))
   |none=>False
  |_=>False
 |_=>False
def wa:rq:=λw ws S Q=>match w with
 | .ref a=>og S a λxs=>match ws with
  | [.bW ys]=>xs.length+ys.length≤sizeLine∧Q .ci (bQ S a (.bP (xs++ys)))
  | [.ref b]=>og S b λys=>xs.length+ys.length≤sizeLine∧Q .ci (bQ S a (.bP (xs++ys)))
  |_=>False
 |_=>False
def P3{K:ao}:yj K (λx vs H Q=>C8 x vs H Q∨Hw K x vs H Q) wa:=λH x w vs ws S Q QW r rs hS h hQ=>by
 cases r with
 |ref a=>
  obtain⟨xs,ea,h⟩:=qm h;obtain⟨us,f,hs⟩:=hS a _ ea;cases rs with
  |nil=>exact h.elim
  |cons r1 r2=>
   cases r2 with
   |cons _ _=>cases r1<;>exact h.elim
   |nil=>
    cases r1 with
    |bW g ks=>
     obtain⟨e,hS'⟩:=hS.set_lst ea (hs.append ks);exact .inr ⟨a,_,us,_,rfl,rfl,f, .of g,by rw[←hs.length,←ks.length];exact h.1,hQ _ _ _ _ e .ci hS' h.2⟩
    |ref b=>
     obtain⟨ys,eb,h⟩:=qm h;obtain⟨zs,g,ks⟩:=hS b _ eb;obtain⟨e,hS'⟩:=hS.set_lst ea (hs.append ks);exact .inl ⟨a,b,us,zs,rfl,rfl,f,g,by rw[←hs.length,←ks.length];exact h.1,hQ _ _ _ _ e .ci hS' h.2⟩
    |_=>exact h.elim
 |_=>exact h.elim
def QR (ho:JE X o to) (ha:JA X (e::es) t)
  (hbase:cP o "extend" X.env (aG o X.env)=aG o X.env)
  (hfew:((aZ cpos (ax (e::es) X.env)).all (λx=> !x.1)&&(dN cpos (dF [] X.env)).all (λx=>x.1.isSome)
   &&decide ((e::es).length+([]:List b9).length+(if([]:List b9).isEmpty then 0 else 1)<30))=true)
  (hline:(apos.endLine == cpos.line)=true) (hs:ax (e::es) X.env=(false,aG e X.env)::ax es X.env) (hplain:(aZ cpos (ax es X.env)).any (·.1)=false) :
  JE X (.Call (.Attribute o "extend" apos) (e::es) [] cpos) (wM pJ wa to t):=HJ iQ j6 lK ER (sQ.or N5 Xx) P3 ho ha hbase hfew hline hs hplain
def zK:rq:=λw ws S Q=>match w with
 | .ref a=>og S a λxs=>xs.length+ws.length≤sizeLine∧Q .ci (bQ S a (.bP (xs++ws)))
 |_=>False
def Yg{K:ao}:Er K C8 zK:=λH x w a vs ws S Q QW r ea na rs hS h hQ=>by
 cases r with
 |ref b=>
  obtain⟨xs,eb,h⟩:=qm h;obtain⟨us,f,hs⟩:=hS b _ eb;obtain⟨e,hS'⟩:=hS.set_lst eb (hs.append rs);exact⟨b,a,us,vs,rfl,rfl,f,ea,by rw[←hs.length,←rs.length];exact h.1,hQ _ _ _ _ e .ci hS' h.2⟩
 |_=>exact h.elim
def Ug (ho:JE X o to) (ha:JL X e tl)
  (hbase:cP o "extend" X.env (aG o X.env)=aG o X.env)
  (hfew:((aZ cpos (ax [e] X.env)).all (λx=> !x.1)&&(dN cpos (dF [] X.env)).all (λx=>x.1.isSome)
   &&decide ([e].length+([]:List b9).length+(if([]:List b9).isEmpty then 0 else 1)<30))=true)
  (hline:(apos.endLine == cpos.line)=true) (hs:ax [e] X.env=(false,aG e X.env)::ax [] X.env) (hplain:(aZ cpos (ax [] X.env)).any (·.1)=false) :
  JE X (.Call (.Attribute o "extend" apos) [e] [] cpos) (vv pJ zK to tl):=HX iQ j6 lK ER N5 Yg ho ha hbase hfew hline hs hplain
noncomputable def vg:List W→Option (List ah)
 | []=>aa []
 | .str b::ws=>(vg ws).map (b:: ·)
 |_=>none
theorem LA{K:ao}{H:Hp}:∀{ws:List W}{vs:List V}{bs:List ah},mF K H ws vs→vg ws=aa bs→vs=bs.map V.str
 | [],_,_, .nil,e=>by have:=aK e;subst this;rfl
 |w::ws,_,_, .cons r rs,e=>by
  cases r with
  |str b=>
   have e':(vg ws).map (b:: ·)=aa _:=e;cases q:vg ws with
   |none=>rw[q]at e';cases e'
   |some cs=>
    rw[q]at e';have:=aK e';subst this;rw[aC,LA rs q]
  |_=>cases e
def xN:rq:=λw ws S Q=>match w with
 | .str z=>match vg ws with
  |some ys=>(ys.map (·.length)).sum+ys.length*z.length≤16777216∧Q (.str (dj z ys)) S
  |none=>False
 |_=>False
def Xr{K:ao}:Er K (JQ K) xN:=λH x w a vs ws S Q QW r ea na rs hS h hQ=>by
 cases r with
 |str z=>
  unfold xN at h;dsimp only at h;split at h
  ·rename_i ys e;have:=LA rs e;subst this;exact⟨z,a,ys,rfl,rfl, .of ea,h.1,hQ _ S _ H .refl (.str _) hS h.2⟩
  ·exact h.elim
 |_=>exact h.elim
def Zw (ho:JE X o to) (ha:JL X e tl)
  (hbase:cP o "join" X.env (aG o X.env)=aG o X.env)
  (hfew:((aZ cpos (ax [e] X.env)).all (λx=> !x.1)&&(dN cpos (dF [] X.env)).all (λx=>x.1.isSome)
   &&decide ([e].length+([]:List b9).length+(if([]:List b9).isEmpty then 0 else 1)<30))=true)
  (hline:(apos.endLine == cpos.line)=true) (hs:ax [e] X.env=(false,aG e X.env)::ax [] X.env) (hplain:(aZ cpos (ax [] X.env)).any (·.1)=false) :
  JE X (.Call (.Attribute o "join" apos) [e] [] cpos) (vv ve xN to tl):=HX lM PySem.F.slot_str_join PySem.F.type_str_join N' Wa Xr ho ha hbase hfew hline hs hplain
def TX:rq:=λw ws S Q=>match w with
 | .str z=>match ws with
  | [.str y]=>match c8 z y 0 z.length 1 with
   |i::_=>Q (.int i) S
   | []=>False
  |_=>False
 |_=>False
end
def wg (i:Nat) (g:Int→Int→Int) (e:WE) (E:WX) (D:m4) (σ:mW) (S:lF):Prop:=match σ[i]? with
 |some (aa (.int a))=>e E σ S λw S1=>match w with
  | .int b=>D.nx (σ.set i (aa (.int (g a b)))) S1
  |_=>False
 |_=>False
def Se (hN:X.N.Nodup) (hi:X.N[i]? =aa x) (hx:tp X.env.scope x) (he:JE X e te) (hf:X.fn x=true∨X.env.scope.names.lookup x=aa .local:=by first |exact .inl rfl |exact .inr rfl |assumption) :
  JS X (.AugAssign (.Name x pos') .Add e pos) (wg i (λa b=>a+b) te):=λE hE=>
 (Uy hN hi hx (he E hE) QL hf).mono λD σ H ⟨σW,S,DW,hσ,hS,ht,hD⟩=>by
  unfold wg at ht;split at ht
  ·rename_i a ea;obtain⟨v,ev,rv⟩:=hσ.get ea;cases rv;refine⟨_,ev,σW,S,_,hσ,hS,ht,λw S1 v H1 e1 r1 iF h1=>?_⟩;cases r1 with
   |int b=>exact⟨a,b,rfl,rfl,hD.nx _ S1 _ H1 e1 ((hσ.ext e1).set (.int _) i) iF h1⟩
   |_=>exact h1.elim
  ·exact ht.elim
def xR (c:WT) (b:WS):WS:=λE D σ S=>∃I:Nat→mW→lF→Prop,(∃m,I m σ S)∧ ∀m σ S,I m σ S→c E σ S λk S1=>if k=true then
 b E { D with nx:=λσ' S'=>∃m' S'',m'<m∧Sub S'' S'∧I m' σ' S'',ct:=λσ' S'=>∃m' S'',m'<m∧Sub S'' S'∧I m' σ' S'',bk:=D.nx } σ S1 else D.nx σ S1
def Ud (hc:JT X c tc) (hb:sB X body tb):JS X (.While c body [] pos) (xR tc tb):=λE hE=>
 (P5 hE.own (hc E hE) (hb E hE)).mono λD σ H ⟨σW,S,DW,hσ,hS,⟨J,⟨n,ht⟩,step⟩,hD⟩=>by
  refine⟨λm σ1 H1=>∃σW1 S1,nJ H S H1 S1∧nw X.K H1 σW1 σ1∧mG X.K H1 S1∧J m σW1 S1,⟨n,σW,S, .refl,hσ,hS,ht⟩,?_⟩;rintro m σ1 H1 ⟨σW1,S1,e1,hσ1,iF,h1⟩;refine⟨σW1,S1,_,hσ1,iF,step m σW1 S1 h1,λk S2 H2 e2 hS2 h2=>?_⟩;cases k with
  |false=>exact hD.nx σW1 S2 σ1 H2 (e1.trans e2) (hσ1.ext e2) hS2 h2
  |true=>
   rw[if_pos rfl]at h2⊢;refine⟨λσ' H'=>∃m',m'<m∧ ∃σW1 S1,nJ H S H' S1∧nw X.K H' σW1 σ'∧mG X.K H' S1∧J m' σW1 S1,λσ' H' n'=>n',σW1,S2,_,hσ1.ext e2,hS2,h2,?_⟩;have e12:=e1.trans e2;have go:qp X.K H2 S2 (λσ' S'=>∃m' S'',m'<m∧Sub S'' S'∧J m' σ' S'') (λσ' H'=>∃m',m'<m∧ ∃σW1 S1,nJ H S H' S1∧nw X.K H' σW1 σ'∧mG X.K H' S1∧J m' σW1 S1):=λσW3 S3 σ3 H3 e3 hσ3 hS3 ⟨m',S4,hm,sb,q⟩=>
    ⟨m',hm,σW3,S4,(e12.trans e3).trans (.drop sb),hσ3,hS3.sub sb,q⟩
   exact⟨go,hD.rt.from e12,hD.nx.from e12,go⟩
def mS (g:WG) (b:WS) (E:WX) (D:m4) (G:lF→Prop):List W→mW→lF→Prop
 | [],σ,S=>D.nx σ S
 |w::ws,σ,S=>g w σ S λσ1 S1=>b E { D with nx:=λσ' S'=>∃S'',Sub S'' S'∧G S''∧mS g b E D G ws σ' S'',ct:=λσ' S'=>∃S'',Sub S'' S'∧G S''∧mS g b E D G ws σ' S'',bk:=D.nx } σ1 S1
def oF (q:WI) (g:WG) (b:WS) (E:WX) (D:m4) (σ:mW) (S:lF):Prop:=q E σ S λws G S1=>mS g b E D G ws σ S1
def RC (hi:JI X tg iter q) (hg:JG X tg g) (hb:sB X body tb) (hcl:X.calm=true)
  (hs:∀x,dw iter X.env x=pure x):JS X (.For tg iter body [] pos) (oF q g tb):=λE hE=>
 (Vx hE.own hcl (hi E hE) (hg E hE) (hb E hE) hs).mono λD σ H ⟨σW,S,DW,hσ,hS,ht,hD⟩=>by
  refine⟨σW,S,_,hσ,hS,ht,λws G S1 J H1 e1 iF hG1 hJ h1=>?_⟩;refine⟨λi m σ2 H2=>∃σW2 S2,nJ H1 S1 H2 S2∧nw X.K H2 σW2 σ2∧mG X.K H2 S2∧G S2∧m=ws.length - i∧i≤ws.length∧mS g tb E DW G (ws.drop i) σW2 S2,
   ⟨ws.length,σW,S1, .refl,hσ.ext e1,iF,hG1,rfl,aQ _,h1⟩,?_⟩
  rintro i m σ2 H2 ⟨σW2,S2,e2,hσ2,hS2,hG2,rfl,hi2,h2⟩;obtain⟨ji,js⟩:=hJ i S2 H2 e2 hS2 hG2;by_cases hlt:i<ws.length
  ·obtain⟨jgo,jy⟩:=ji ws[i] (aR hlt);refine .inr ⟨jgo,λσ' H'=>∃σW2 S2,nJ H1 S1 H' S2∧nw X.K H' σW2 σ'∧mG X.K H' S2∧G S2∧ws.length - (i+1)=ws.length - (i+1)∧i+1≤ws.length∧mS g tb E DW G (ws.drop (i+1)) σW2 S2,λσ' H' z=>⟨_,by lia,z⟩,λx H3 y3=>?_⟩
   obtain⟨e3,hS3,r3⟩:=jy x H3 y3;rw[ge hlt]at h2;refine⟨_,σW2,S2,_,r3,hσ2.ext e3,hS3,h2,λσW4 S4 σ4 H4 e4 hσ4 hS4 h4=>?_⟩;have e14:nJ H1 S1 H4 S4:=(e2.trans e3).trans e4;refine⟨σW4,S4,_,hσ4,hS4,h4,?_⟩;have go:qp X.K H4 S4 (λσ' S'=>∃S'',Sub S'' S'∧G S''∧mS g tb E DW G (ws.drop (i+1)) σ' S'') (λσ' H'=>∃σW2 S2,nJ H1 S1 H' S2∧nw X.K H' σW2 σ'∧mG X.K H' S2∧G S2∧ws.length - (i+1)=ws.length - (i+1)∧i+1≤ws.length∧mS g tb E DW G (ws.drop (i+1)) σW2 S2):=
    λσW5 S5 σ5 H5 e5 hσ5 hS5 ⟨S6,sb,hG6,q⟩=>⟨σW5,S6,(e14.trans e5).trans (.drop sb),hσ5,hS5.sub sb,hG6,rfl,hlt,q⟩
   exact⟨go,hD.rt.from (e1.trans e14),hD.nx.from (e1.trans e14),go⟩
  ·have hl:i=ws.length:=by lia
   rw[fH (fN hl.symm)]at h2;exact .inl ⟨js hl,hD.nx σW2 S2 σ2 H2 (e1.trans e2) hσ2 hS2 h2⟩
def Pw (K:ao) (tl:TE):TI:=λσ H R=>tl σ H λx H1=>(∃a,x= .ref a∧(∃xs,oJ K H1 a xs)∧R (BM K a) H1)∨(∃a,x= .ref a∧(∃xs,oZ K H1 a xs)∧R (EY K a) H1)∨ ∃z,x= .str z∧R (EF z) H1
def UP (hl:PE X l tl):PI X tg l (Pw X.K tl):=by
 intro ag s σ H R I h;refine nG (hl ag s σ H _ I h) λv s1 ⟨x,H1,I1,r1,q1⟩=>?_;have fp:∀b∈ [s1.heap.objs.size],qL X ag H1 b:=λb hb=>by
  have e:b=s1.heap.objs.size:=by simpa using hb
  subst e;exact I1.fpOk (aA _) (I1.cD.fresh (aA _))
 obtain ⟨a,e,⟨xs,hq⟩,q⟩ |⟨a,e,⟨xs,hq⟩,q⟩ |⟨z,e,q⟩:=q1
 ·subst e;cases r1;obtain⟨d5,rv,p,hz⟩:=I1.list hq;refine fv p.isList ?_;exact⟨s1.heap.objs.size,[s1.heap.objs.size],_,_,H1,rfl,I1.kept (t':=s1.toks) λb o e=>aP _ e,Ji a _,⟨_,bI _ rfl,rfl,rfl⟩,fp,q⟩
 ·subst e;cases r1;obtain⟨d5,rv,p,hz⟩:=I1.tuple hq;refine k_ (show s1.heap.IsTuple a d5.toArray from p) ?_;exact⟨s1.heap.objs.size,[s1.heap.objs.size],_,_,H1,rfl,I1.kept (t':=s1.toks) λb o e=>aP _ e,O0 a _,⟨_,bI _ rfl,rfl,rfl⟩,fp,q⟩
 ·subst e;obtain⟨t,rfl⟩:=r1;cases ha:z.cps.all (· <128)
  ·refine wpAny_pyIter_wide ha ?_;exact⟨s1.heap.objs.size,[s1.heap.objs.size],_,_,H1,rfl,I1.kept (t':=s1.toks) λb o e=>aP _ e,
    Oi _ z t "str_iterator" (by decide) (λA' hA=>Walks.strWide hA _ z t) (λ_ _ _ _ _ st h=>wpAny_pyIter_striter_wide st h),⟨_,bI _ rfl,rfl,rfl⟩,fp,q⟩
  ·refine wpAny_pyIter_ascii ha ?_;exact⟨s1.heap.objs.size,[s1.heap.objs.size],_,_,H1,rfl,I1.kept (t':=s1.toks) λb o e=>aP _ e,
    Oi _ z t "str_ascii_iterator" (by decide) (λA' hA=>Walks.strAscii hA _ z t) (λ_ _ _ _ _ st h=>wpAny_pyIter_striter_ascii st h),⟨_,bI _ rfl,rfl,rfl⟩,fp,q⟩
noncomputable def Ck (z:ah):List W:=z.cps.toList.map λc=> .str ⟨#[c]⟩
def on (t:WE) (E:WX) (σ:mW) (S:lF) (Q:List W→(lF→Prop)→lF→Prop):Prop:=t E σ S λw S1=>match w with
 | .bW ws=>Q ws (λ_=>True) S1
 | .ref a=>og S1 a λws=>Q ws (λS'=>S' a=aa (.bP ws)) S1
 | .cX ns=>Q (ns.map W.int) (λ_=>True) S1
 | .str z=>Q (Ck z) (λ_=>True) S1
 |_=>False
def FM{K:ao}{a:ai}{ws:List W}{G:lF→Prop}{H0:Hp}{S0:lF}(h:∀S H,nJ H0 S0 H S→mG K H S→G S→ ∃vs,oJ K H a vs∧mF K H ws vs):wk K (BM K a) ws G H0 S0:=λi S H e hS hG=>by
 obtain⟨vs,hq,r⟩:=h S H e hS hG;refine⟨λw ew=>?_,λhl=>⟨vs,hq,by rw[←r.length,hl];exact aA _⟩⟩
 obtain⟨v,ev,rv⟩:=r.get ew;refine⟨⟨vs,v,hq,ev⟩,λx H' ⟨e1,e2⟩=>?_⟩;subst e1;have e3:=e2 vs hq;rw[ev]at e3;cases e3;exact⟨.refl,hS,rv⟩
def YH{K:ao}{a:ai}{ws:List W}{vs:List V}{H0:Hp}{S0:lF}(f:H0 a=aa (.bW vs)) (r:mF K H0 ws vs):wk K (EY K a) ws (λ_=>True) H0 S0:=λi S H e hS hG=>by
 have f':=e.bW _ _ f;have r':=r.ext e;refine⟨λw ew=>?_,λhl=>⟨vs, .of f',by rw[←r'.length,hl];exact aA _⟩⟩
 obtain⟨v,ev,rv⟩:=r'.get ew;refine⟨⟨vs,v, .of f',ev⟩,λx H' ⟨e1,e2⟩=>?_⟩;subst e1;have e3:=e2 vs (.of f');rw[ev]at e3;cases e3;exact⟨.refl,hS,rv⟩
def SR{K:ao}{z:ah}{H0:Hp}{S0:lF}:wk K (EF z) (Ck z) (λ_=>True) H0 S0:=λi S H e hS hG=>by
 unfold Ck;refine⟨λw ew=>?_,λhl=>?_⟩
 ·rw[aT]at ew;cases ec:z.cps.toList[i]? with
  |none=>rw[ec]at ew;cases ew
  |some c=>
   rw[ec]at ew;have ew':=aK ew;subst ew';have hi:i<z.cps.size:=by
    have:=(b6.mp ec).1;simpa using this
   refine⟨hi,λx H' ⟨e1,c',e2,e3⟩=>?_⟩;subst e1 e3;have:c'=c:=by
    have q:z.cps.toList[i]? =aa c':=by rw[←e2];simp
    rw[ec]at q;exact(aK q).symm
   subst this;exact⟨.refl,hS, .str _⟩
 ·show i=z.cps.size;simpa using hl
def YJ{l:Expr}{tl:WE}(hl:JE X l tl):JI X tg l (on tl):=λE hE=>
 (UP (hl E hE)).mono λσ H R ⟨σW,S,QW,hσ,hS,ht,hR⟩=>⟨σW,S,_,hσ,hS,ht,λw S1 v H1 e1 r1 iF h1=>by
  cases r1 with
  |bW f hs=>exact .inr (.inl ⟨_,rfl,⟨_, .of f⟩,hR _ _ S1 _ H1 e1 iF trivial (YH f hs) h1⟩)
  |ref a=>
   obtain⟨ws,ea,h⟩:=qm h1;obtain⟨vs,f,hs⟩:=iF a _ ea;refine .inl ⟨_,rfl,⟨_, .of f⟩,hR _ _ S1 _ H1 e1 iF ea (FM λS2 H2 e2 hS2 g2=>?_) h⟩;obtain⟨vs2,f2,hs2⟩:=hS2 a _ g2;exact⟨vs2, .of f2,hs2⟩
  |cX f=>exact .inl ⟨_,rfl,⟨_,f.sq⟩,hR _ _ S1 _ H1 e1 iF trivial (FM λS2 H2 e2 hS2 g2=>⟨_,(e2.fz f).sq,mF.ofInts _⟩) h1⟩
  |str z=>exact .inr (.inr ⟨z,rfl,hR _ _ S1 _ H1 e1 iF trivial SR h1⟩)
  |_=>exact h1.elim⟩
def J8 (t:WL):WI:=λE σ S Q=>t E σ S λws S1=>Q ws (λ_=>True) S1
def VZ (hl:JL X l tl):JI X tg l (J8 tl):=λE hE=>
 (R7 (hl E hE)).mono λσ H R ⟨σW,S,QW,hσ,hS,ht,hR⟩=>⟨σW,S,_,hσ,hS,ht,λws S1 vs a H1 e1 fa ea na r1 iF h1=>
  ⟨a,rfl,⟨vs, .of ea⟩,hR _ _ S1 _ H1 e1 iF trivial (FM λS2 H2 e2 hS2 g2=>⟨vs, .of (e2.fr a _ ea na).1,r1.ext e2⟩) h1⟩⟩
noncomputable def sJ (lo:Int) (n:Nat):List W:=(bx n).map λ(i:Nat)=> .int (lo+(i:Int))
def Zi{K:ao}{lo:Int}{n:Nat}{H0:Hp}{S0:lF}:wk K (Bw lo n) (sJ lo n) (λ_=>True) H0 S0:=λi S H e hS hG=>by
 unfold sJ;refine⟨λw ew=>?_,λhl=>by
  have:i=n:=by simpa using hl
  exact fN this.symm⟩
 rw[aT]at ew;by_cases hi:i<n
 ·rw[fS hi]at ew;have ew':=aK ew;subst ew';refine⟨hi,λx H' ⟨e1,e2⟩=>?_⟩;subst e1 e2;exact⟨.refl,hS, .int _⟩
 ·rw[iu (by simpa using hi)]at ew;cases ew
def ud (t:WA) (E:WX) (σ:mW) (S:lF) (Q:List W→(lF→Prop)→lF→Prop):Prop:=t E σ S λws S1=>match ws with
 | [.int j]=>(-(2 ^ 62)≤j∧j<2 ^ 62)∧Q (sJ 0 j.toNat) (λ_=>True) S1
 |_=>False
def XT (hg:Gl X "range") (hm:X.mg "range" =none) (ha:JA X [a] ta) (hs:ax [a] X.env=[(false,aG a X.env)]):JI X tg (.Call (.Name "range" p) [a] [] pos) (ud ta):=λE hE=>
 (P9 hg hm (ha E hE) hs).mono λσ H R ⟨σW,S,QW,hσ,hS,ht,hR⟩=>⟨σW,S,_,hσ,hS,ht,λws S1 vs H1 e1 r1 iF h1=>by
  cases r1 with
  |nil=>exact h1.elim
  |cons r2 r3=>
   cases r3 with
   |cons _ _=>cases r2<;>exact h1.elim
   |nil=>
    cases r2 with
    |int j=>exact⟨j,rfl,h1.1.1,h1.1.2,hR _ _ S1 _ H1 e1 iF trivial Zi h1.2⟩
    |_=>exact h1.elim⟩
def pB (_:WX) (_:mW) (S:lF) (Q:Bool→lF→Prop):Prop:=Q true S
def u_ (X:Cx) (ifs:List Expr) (t:WT):Prop:=∀E,oP X E→Bh X ifs (EL X.K (t E))
def Rm:u_ X [] pB:=λE hE ag s σ H Q I ⟨σW,S,QW,hσ,hS,ht,hQ⟩=>Sa ag s σ H Q I (hQ true S H .refl hS ht)
def Vr (h:JT X c t):u_ X [c] t:=λE hE=>Yr (h E hE)
def sC (g:WG) (c:WT) (e:WE) (E:WX) (G:lF→Prop) (Q:List W→lF→Prop):List W→List W→mW→lF→Prop
 | [],acc,_,S=>Q acc S
 |w::ws,acc,σ,S=>g w σ S λσ1 S1=>c E σ1 S1 λb S2=>if b=true then e E σ1 S2 λy S3=>acc.length<sizeLine∧ ∃S4,Sub S4 S3∧G S4∧sC g c e E G Q ws (acc++[y]) σ1 S4
   else ∃S4,Sub S4 S2∧G S4∧sC g c e E G Q ws acc σ1 S4
abbrev rT:WX:=λ_ _ _=>False
def DR (h:X.xe=λ_ _=>False):oP X rT:=⟨by rw[h];exact mo,λ_ _ _ _ _ _ _ _ _ _ _ _ _ _ _ _ _ _ _ _ z=>z.elim,λ_ _ _ _ _ _ _ _ _ _ _ _ _ _ _ _ z=>z.elim⟩
def PS.nox{X:Cx}{st:aW}{t:TS}(h:PS X.nox st t):PS X st t:=λag s σ H D I hw=>
 cm (h ag s σ H D (I.wish _) hw) (λ_ _ q=>q.unwish) λ_ _ z=>cF z
def ph (k:Nat) (fr:List Nat) (q:WI) (g:WG) (c:WT) (e:WE) (_:WX) (σ:mW) (S:lF) (Q:List W→lF→Prop):Prop:=q rT σ S λws G S1=>sC g c e rT G Q ws [] (bj k none++fr.map λj=>(σ[j]?).join) S1
def Rb{K:ao}{H:Hp}{σW:mW}{σ:St}{k:Nat}{fr:List Nat}(h:nw K H σW σ):nw K H (bj k none++fr.map λj=>(σW[j]?).join) (BE σ k fr):=by
 have one:∀j:Nat,xl K H (σW[j]?).join (σ[j]?).join:=λj=>by
  cases e:σW[j]? with
  |none=>exact trivial
  |some w=>
   cases w with
   |none=>exact trivial
   |some w=>
    obtain⟨v,ev,r⟩:=h.get e;rw[ev];exact r
 have go:∀fr:List Nat,nw K H (fr.map λj=>(σW[j]?).join) (vT σ fr):=by
  intro fr
  induction fr with
  |nil=>exact .nil
  |cons j fr ih=>exact .cons (one j) ih
 unfold BE
 induction k with
 |zero=>exact go fr
 |succ k ih=>exact .cons trivial ih
def nJ.loose (a:∀b xs,H b=aa (.bW xs)→H' b=aa (.bW xs)) (b:∀c o u,H c=aa (.frz o u)→H' c=aa (.frz o u)) (d:∀b o,H b=aa o→ ∃o',H' b=aa o'):nJ H (λ_=>aa (.bP [])) H' (λ_=>aa (.bP [])):=
 ⟨a,b,(λ_ _ _ g=>nomatch g),d⟩
def nJ.over (e:nJ H S H' S') (h:H l=none):nJ H S (nM H' l o) S':=
 ⟨λb xs q=>by rw[oj (pS q h)];exact e.bW b xs q,λb ob u q=>by rw[oj (pS q h)];exact e.frz b ob u q,λb ob q z=>by rw[oj (pS q h)];exact e.fr b ob q z,λb ob q=>by rw[oj (pS q h)];exact e.all b ob q⟩
def Od (hg:∀s₀ H₀ fp pn,JG (pQ X scope N s₀ H₀ fp pn) tg g) (hc:∀s₀ H₀ fp pn,u_ (pQ X scope N s₀ H₀ fp pn) ifs c) (he:∀s₀ H₀ fp pn,JE (pQ X scope N s₀ H₀ fp pn) elt e)
  (σ:St) (H:Hp) (Q:VK):Kt X.K (ph k fr q g c e E) σ H Q→BZ X scope N k fr tg ifs elt (Kz X.K (q rT)) σ H Q:=λ⟨σW,S0,QW,hσ,hS,ht,hQ⟩=>by
  refine⟨σW,S0,_,hσ,hS,ht,λws G S1 J H1 e1 iF hG1 hJ h1 l hl=>?_⟩;have upl:∀{H':Hp}{vs us:List V}{S':lF},H' l=aa (.bP vs)→S' l=none→mG X.K H' S'→nJ H' (λ_=>aa (.bP [])) (nM H' l (.bP us)) (λ_=>aa (.bP []))∧mG X.K (nM H' l (.bP us)) S':=λ{H' vs us S'} f n hS'=>by
   have x:nJ H' (λ_=>aa (.bP [])) (nM H' l (.bP us)) (λ_=>aa (.bP [])):= .loose (λb xs q=>by rw[oj (Cc q f λz=>nomatch z)];exact q) (λb o u q=>by rw[oj (Cc q f λz=>nomatch z)];exact q) λb o q=>by
    by_cases hb:b=l
    ·subst hb;exact⟨_,pH⟩
    ·exact⟨o,by rw[oj hb];exact q⟩
   refine⟨x,λa o q=>(hS' a o q).keep x λu z=>?_⟩;have ha:a≠l:=by rintro rfl;rw[n]at q;cases q
   rw[oj ha];exact z
  refine⟨λi m σ' H'=>∃σW' S' acc vs,nJ H1 S1 H' S'∧H' l=aa (.bP vs)∧S' l=none∧mF X.K H' acc vs∧nw X.K H' σW' σ'∧mG X.K H' S'∧G S'∧m=ws.length - i∧i≤ws.length∧sC g c e rT G QW (ws.drop i) acc σW' S',
   ⟨ws.length,_,S1,[],[], .new hl,pH,iF.free hl, .nil,Rb (hσ.ext (e1.trans (.new (S:=S1) hl))),iF.new hl,hG1,rfl,aQ _,h1⟩,?_⟩
  rintro i m σ' H' ⟨σW',S',acc,vs,e2,f2,n2,ra,hσ2,hS2,hG2,rfl,hi2,h2⟩;obtain⟨ji,js⟩:=hJ i S' H' e2 hS2 hG2;by_cases hlt:i<ws.length
  ·obtain⟨jgo,jy⟩:=ji ws[i] (aR hlt);refine .inr ⟨jgo,λσ'' H''=>∃σW' S' acc vs,nJ H1 S1 H'' S'∧H'' l=aa (.bP vs)∧S' l=none∧mF X.K H'' acc vs∧nw X.K H'' σW' σ''∧mG X.K H'' S'∧G S'∧ws.length - (i+1)=ws.length - (i+1)∧i+1≤ws.length∧sC g c e rT G QW (ws.drop (i+1)) acc σW' S',
    λσ'' H'' z=>⟨_,by lia,z⟩,λx H3 y3=>?_⟩
   obtain⟨e3,hS3,r3⟩:=jy x H3 y3;rw[ge hlt]at h2;intro s₀ H₀ fp pn;have hk:oP (pQ X scope N s₀ H₀ fp pn) rT:=DR rfl;refine⟨_,_,_,hg s₀ H₀ fp pn rT hk,hc s₀ H₀ fp pn rT hk,he s₀ H₀ fp pn rT hk,?_⟩;refine⟨_,σW',S',_,r3,hσ2.ext e3,hS3,h2,λσW4 S4 σ4 H4 e4 hσ4 hS4 h4=>?_⟩;refine⟨σW4,S4,_,hσ4,hS4,h4,λb S5 H5 e5 hS5 h5=>?_⟩;have e15:nJ H' S' H5 S5:=(e3.trans e4).trans e5;have hσ5:=hσ4.ext e5;obtain⟨f5,n5⟩:=e15.fr l _ f2 n2;cases b with
   |false=>
    have h5:∃S4,Sub S4 S5∧G S4∧sC g c e rT G QW (ws.drop (i+1)) acc σW4 S4:=h5;refine UR ?_;obtain⟨S6,sb,hG6,h6⟩:=h5;have e16:=e15.trans (.drop sb);exact⟨σW4,S6,acc,vs,e2.trans e16,f5,(e16.fr l _ f2 n2).2,ra.ext e15,hσ5,hS5.sub sb,hG6,rfl,hlt,h6⟩
   |true=>
    rw[if_pos rfl]at h5;refine V2 ?_;refine⟨σW4,S5,_,hσ5,hS5,h5,λy S6 v H6 e6 r6 hS6 h6=>?_⟩;have e17:=e15.trans e6;obtain⟨f6,n6⟩:=e17.fr l _ f2 n2;obtain⟨hz,S7,sb,hG7,h7⟩:=h6;obtain⟨x6,hS6'⟩:=upl (us:=vs++[v]) f6 n6 hS6;have ra6:mF X.K H6 (acc++[y]) (vs++[v]):=(ra.ext e17).append (.one r6);refine⟨vs,f6,by rw[←ra.length];exact hz,σW4,S7,acc++[y],vs++[v],?_,pH,((e17.trans (.drop sb)).fr l _ f2 n2).2,ra6.ext x6,(hσ5.ext e6).ext x6,hS6'.sub sb,hG7,rfl,hlt,h7⟩
    exact(e2.trans (e17.trans (.drop sb))).over hl
  ·have hll:i=ws.length:=by lia
   rw[fH (fN hll.symm)]at h2;exact .inl ⟨js hll,hQ acc S' vs l H' (e1.trans e2) (e1.free hl) f2 n2 ra hS2 h2⟩
def Vm (S:nB X.nox scope N k fr) (hi:JI X.nox tg iter q) (hg:∀s₀ H₀ fp pn,JG (pQ X.nox scope N s₀ H₀ fp pn) tg g) (hc:∀s₀ H₀ fp pn,u_ (pQ X.nox scope N s₀ H₀ fp pn) ifs c) (he:∀s₀ H₀ fp pn,JE (pQ X.nox scope N s₀ H₀ fp pn) elt e)
  (hs:∀x,dw iter X.env x=pure x) (hcl:X.calm=true):JL X (.ListComp elt [⟨tg,iter,ifs,0⟩] scope pos) (ph k fr q g c e):=λE hE=>
 (PE.nox (Pu rfl hcl S (hi rT (DR rfl)) hs)).mono (Od (X:=X.nox) hg hc he)
def Z2{i:Nat}{x:ah}{pos' spos:bw}(hN:X.N.Nodup) (hxi:X.N[i]? =aa x) (hxl:tp X.env.scope x) (S:nB X.nox scope N k fr) (hi:JI X.nox tg iter q) (hg:∀s₀ H₀ fp pn,JG (pQ X.nox scope N s₀ H₀ fp pn) tg g) (hc:∀s₀ H₀ fp pn,u_ (pQ X.nox scope N s₀ H₀ fp pn) ifs c) (he:∀s₀ H₀ fp pn,JE (pQ X.nox scope N s₀ H₀ fp pn) elt e)
  (hw:d8 (.ListComp elt [⟨tg,iter,ifs,0⟩] scope pos) (aa (.Name x pos')) spos.line X.env=pure true) (hf:X.fn x=true∨X.env.scope.names.lookup x=aa .local:=by first |exact .inl rfl |exact .inr rfl |assumption)
  (hs:∀x,dw iter X.env x=pure x) (hcl:X.calm=true):JS X (.Assign [.Name x pos'] (.ListComp elt [⟨tg,iter,ifs,0⟩] scope pos) spos) (mz (nA (ph k fr q g c e)) (mB i)):=λE hE=>
 (PS.nox (P_ (X:=X.nox) rfl hcl S (hi rT (DR rfl)) hN hxi hxl hw hf hs)).mono λD σ H ⟨σW,S0,DW,hσ,hS,ht,hD⟩=>
  Od (X:=X.nox) (E:=E) hg hc he σ H _ ⟨σW,S0,_,hσ,hS,ht,λws S1 vs a H1 e1 fa ea na r1 iF h1=>by
   have ex:nJ H S0 H1 (bQ S1 a (.bP ws)):=⟨e1.bW,e1.frz,λb o q g=>by
    have hb:b≠a:=by rintro rfl;rw[fa]at q;cases q
    rw[nQ hb];exact e1.fr b o q g,e1.all⟩
   refine hD.nx _ (bQ S1 a (.bP ws)) _ H1 ex ((hσ.ext ex).set (.ref a) i) (λb o q=>?_) (h1 a na);by_cases hb:b=a
   ·subst hb;rw[mV]at q;cases q;exact⟨vs,ea,r1⟩
   ·rw[nQ hb]at q;exact iF b o q⟩
def ny (k:Bool) (h:aE) (it a:ai) (i:Nat):Prop:=if k=true then h.IsListIter it a i else h.IsTupleIter it a i
def nv (k:Bool) (h:aE) (a:ai) (d5:Array aj):Prop:=if k=true then h.IsList a d5 else h.IsTuple a d5
def ny.at (x:ny k h it a i) (e:∀o,h.get? it=aa o→h'.get? it=aa o):ny k h' it a i:=by
 cases k with
 |true=>exact aE.IsListIter.at (show h.IsListIter it a i from x) e
 |false=>exact aE.IsTupleIter.at (show h.IsTupleIter it a i from x) e
def nv.at (x:nv k h a d5) (e:∀o,h.get? a=aa o→h'.get? a=aa o):nv k h' a d5:=by
 cases k with
 |true=>exact aE.IsList.at (show h.IsList a d5 from x) e
 |false=>obtain⟨o,ho,r⟩:=(show h.IsTuple a d5 from x);exact⟨o,e o ho,r⟩
def ny.ob (x:ny k h it a i):∃o vs,h.get? it=aa o∧o.data= .fields vs:=by
 cases k with
 |true=>obtain⟨o,ho,_,hd⟩:=(show h.IsListIter it a i from x);exact⟨o,_,ho,hd⟩
 |false=>obtain⟨o,ho,_,hd⟩:=(show h.IsTupleIter it a i from x);exact⟨o,_,ho,hd⟩
section
variable {prog:bg}{w:aS}{A:bt}{E:aj→am→Prop}{s:am}
def R3{Q:aj→am→Prop}(hit:s.heap.IsTupleIter it t i) (ht:s.heap.IsTuple t d5) (hx:d5[i]? =aa x)
  (hQ:∀g,g.IsTupleIter it t (i+1)→cL it s.heap g→Q x { s with heap:=g }):av (aB prog w) A (cU (.ref it)) Q E s:=by
 obtain⟨o,ho,hc,hd⟩:=id hit;obtain⟨ot,hot,_,nt,hdt⟩:=ht;unfold cU;refine au (dQ (name:=bE "__next__") hit.typeIs gq (dE gq hit.typeIs lp ?_ (kW _)));show av _ _ (field (.ref it) 0 >>= _) _ _ s;refine au (bU ho hd (x:= .ref t) rfl ?_);show av _ _ (if(bM t == cK)=true then _ else _) _ _ s;rw[if_neg (show ¬((bM t == cK)=true) from cW)];show av _ _ (field (.ref it) 1 >>= _) _ _ s;refine au (bU ho hd (x:= .int i 0) rfl ?_);show av _ _ (seqItems? (.ref t) >>= _) _ _ s;refine au (dq hot hdt ?_);simp only[bb,hx];refine au (lY ho hd (by simp) (aM ⟨x,rfl,aM (hQ _ ?_ (kq ..))⟩));exact⟨_,aE.get?_update_self _ ho (aH.isFreed_of_fields (kj hd _)),(aH.cls_mapFields ..).trans hc,by rw[kj hd];simp [cJ]⟩
def Wc{Q:aj→am→Prop}(hh:A.handled=none) (hit:s.heap.IsTupleIter it t i) (ht:s.heap.IsTuple t d5) (hx:d5[i]? =none)
  (hE:∀g e,i9 it s.heap g→(∃o,g.get? e=aa o∧o.cls= .type "StopIteration")→E (.ref e) { s with heap:=g }):av (aB prog w) A (cU (.ref it)) Q E s:=by
 obtain⟨o,ho,hc,hd⟩:=id hit;obtain⟨ot,hot,_,nt,hdt⟩:=ht;unfold cU;refine au (dQ (name:=bE "__next__") hit.typeIs gq (dE gq hit.typeIs lp ?_ (kW _)));show av _ _ (field (.ref it) 0 >>= _) _ _ s;refine au (bU ho hd (x:= .ref t) rfl ?_);show av _ _ (if(bM t == cK)=true then _ else _) _ _ s;rw[if_neg (show ¬((bM t == cK)=true) from cW)];show av _ _ (field (.ref it) 1 >>= _) _ _ s;refine au (bU ho hd (x:= .int i 0) rfl ?_);show av _ _ (seqItems? (.ref t) >>= _) _ _ s;refine au (dq hot hdt ?_);simp only[bb,hx];refine au (eR (au (lY ho hd (by simp) ?_)));show av _ _ (newExc (.type "StopIteration") [] >>= _) _ _ _;refine au ?_;simp only[newExc,newTuple];refine au (fx ?_ (by size_fits));refine au (m:=lC _ _) (wpAny_of_eq (a:=cK) (by first |rfl | (simp only[lC];rfl)) ?_);refine fx ?_ (by size_fits);simp only[raiseNew];refine au (wpAny_handled ?_)
 first |rw[show A.in1.handled=none from hh] |rw[hh]
 refine au (aM (wpAny_throw ?_));exact hE _ _ (((kq ..).extBut.push _).push _) ⟨_,bI _ rfl,rfl⟩
def AI{Q:aj→am→Prop}(hit:ny k s.heap it t i) (ht:nv k s.heap t d5) (hx:d5[i]? =aa x)
  (hQ:∀g,ny k g it t (i+1)→cL it s.heap g→Q x { s with heap:=g }):av (aB prog w) A (cU (.ref it)) Q E s:=by
 cases k with
 |true=>exact wpAny_nextOf_list_item hit ht hx hQ
 |false=>exact R3 hit ht hx hQ
def C1{Q:aj→am→Prop}(hh:A.handled=none) (hit:ny k s.heap it t i) (ht:nv k s.heap t d5) (hx:d5[i]? =none)
  (hE:∀g e,i9 it s.heap g→(∃o,g.get? e=aa o∧o.cls= .type "StopIteration")→E (.ref e) { s with heap:=g }):av (aB prog w) A (cU (.ref it)) Q E s:=by
 cases k with
 |true=>exact wpAny_nextOf_list_end hh hit ht hx hE
 |false=>exact Wc hh hit ht hx hE
def Uh{k:Bool}{e it l:ai}{i:Nat}{d5:Array aj}{x old:aj}{Q:Option aj→am→Prop}
  (he:da s.heap e it i old) (hit:ny k s.heap it l i) (hl:nv k s.heap l d5) (hx:d5[i]? =aa x) (hne:e≠it)
  (hQ:∀g,io g e it ((i:Int)+1) x s.heap.objs.size→ny k g it l (i+1)→g.get? s.heap.objs.size=aa { cls:= .type "tuple",data:= .seq #[.int i s.toks,x] }→g.objs.size=s.heap.objs.size+1→
   (∀b o,b≠e→b≠it→s.heap.get? b=aa o→g.get? b=aa o)→Q (aa (.ref s.heap.objs.size)) { s with heap:=g,toks:=s.toks+1 }):av (aB prog w) A (cq (.ref e)) Q E s:=by
 have hT:s.TypeIs (.ref e) "enumerate" :=⟨_,he,rfl⟩;unfold cq;refine au (ii (dQ (name:=bE "__next__") hT gR (dE gR hT lT ?_ (lg _))));obtain⟨hp,g,d,tk,os⟩:=s;show av _ _ (field (.ref e) 2 >>= _) _ _ _;refine au (bU he rfl (x:= .ref it) rfl ?_);refine au (AI hit hl hx λg1 hit1 hs1=>?_);replace hs1:cL it hp g1:=hs1;have he1:da g1 e it i old:=(hs1.2 e hne).trans he;show av _ _ (field (.ref e) 3 >>= _) _ _ ⟨g1,g,d,tk,os⟩;refine au (bU he1 rfl (x:=cJ i) rfl ?_);show av _ _ (field (.ref e) 4 >>= _) _ _ ⟨g1,g,d,tk,os⟩;refine au (bU he1 rfl (x:= .none) rfl ?_);show av _ _ (mkInt i >>= _) _ _ ⟨g1,g,d,tk,os⟩;refine au (wpAny_mkInt ?_);show av _ _ (setField (.ref e) 3 (cJ ((i:Int)+1)) >>= _) _ _ ⟨g1,g,d,tk+1,os⟩;refine au (cM he1 (by simp) λg2 he2 hs2=>?_);replace hs2:cL e g1 g2:=hs2;replace he2:da g2 e it ((i:Int)+1) old:=he2;show av _ _ (setField (.ref e) 4 .none >>= _) _ _ ⟨g2,g,d,tk+1,os⟩;refine au (cM he2 (by simp) λg3 he3 hs3=>?_);replace hs3:cL e g2 g3:=hs3;replace he3:da g3 e it ((i:Int)+1) old:=he3;show av _ _ (newTuple [.int i tk,x] >>= _) _ _ ⟨g3,g,d,tk+1,os⟩;refine au (kl ?_);have he4:da (g3.push { cls:= .type "tuple",data:= .seq #[.int i tk,x] }) e it ((i:Int)+1) old:=aP _ he3;generalize hg4:g3.push { cls:= .type "tuple",data:= .seq #[.int i tk,x] }=g4 at he4;have hsz:g3.objs.size=hp.objs.size:=by rw[hs3.1,hs2.1,hs1.1]
 have hel:e<hp.objs.size:=aO he;have ht4:g4.get? hp.objs.size=aa { cls:= .type "tuple",data:= .seq #[.int i tk,x] }:=by rw[←hg4,←hsz];exact bI _ rfl
 have hz4:g4.objs.size=hp.objs.size+1:=by rw[←hg4,c7,hsz]
 have hk4:∀b o,b≠e→b≠it→hp.get? b=aa o→g4.get? b=aa o:=λb o hbe hbi hb=>by rw[←hg4];exact aP _ (hs3.extBut b o hbe (hs2.extBut b o hbe (hs1.extBut b o hbi hb)))
 have hit4:ny k g4 it l (i+1):=by rw[←hg4];exact hit1.at λo ho=>aP _ (hs3.extBut it o (bz hne) (hs2.extBut it o (bz hne) ho))
 show av _ _ (eK (.ref e) >>= _) _ _ ⟨g4,g,d,tk+1,os⟩;rw[hsz];clear hg4 he3 hs3 he2 hs2 he1 hs1 hit1 hsz g3 g2 g1;refine au ?_;unfold eK;refine au (bU he4 rfl (x:= .none) rfl (aM ?_));simp only[if_true];refine au (eR ?_);refine au (bU he4 rfl (x:=old) rfl ?_);refine au (cM he4 (by simp) λg5 he5 hs5=>?_);replace hs5:cL e g4 g5:=hs5;replace he5:da g5 e it ((i:Int)+1) x:=he5;show av _ _ (gy (.ref e) (.ref hp.objs.size) >>= _) _ _ ⟨g5,g,d,tk+1,os⟩;refine au ?_;unfold gy;refine au (cM he5 (by simp) λg6 he6 hs6=>?_);replace hs6:cL e g5 g6:=hs6;replace he6:io g6 e it ((i:Int)+1) x hp.objs.size:=he6;refine cM he6 (by simp) λg7 he7 hs7=>?_;replace hs7:cL e g6 g7:=hs7;replace he7:io g7 e it ((i:Int)+1) x hp.objs.size:=he7;refine au (gO (aM ⟨_,rfl,aM (hQ g7 he7 ?_ ?_ ?_ ?_)⟩))
 ·exact hit4.at λo ho=>hs7.extBut it o (bz hne) (hs6.extBut it o (bz hne) (hs5.extBut it o (bz hne) ho))
 ·exact hs7.extBut _ _ (cV hel) (hs6.extBut _ _ (cV hel) (hs5.extBut _ _ (cV hel) ht4))
 ·rw[hs7.1,hs6.1,hs5.1,hz4]
 ·exact λb o hbe hbi hb=>hs7.extBut b o hbe (hs6.extBut b o hbe (hs5.extBut b o hbe (hk4 b o hbe hbi hb)))
def Pi{k:Bool}{e it l:ai}{i:Nat}{d5:Array aj}{old:aj}{Q:Option aj→am→Prop}(hh:A.handled=none)
  (he:da s.heap e it i old) (hit:ny k s.heap it l i) (hl:nv k s.heap l d5) (hx:d5[i]? =none) (hQ:∀g,i9 it s.heap g→Q none { s with heap:=g }):av (aB prog w) A (cq (.ref e)) Q E s:=by
 have hT:s.TypeIs (.ref e) "enumerate" :=⟨_,he,rfl⟩;unfold cq;refine au (ii (dQ (name:=bE "__next__") hT gR (dE gR hT lT ?_ (lg _))));show av _ _ (field (.ref e) 2 >>= _) _ _ _;refine au (bU he rfl (x:= .ref it) rfl ?_);refine au (C1 hh hit hl hx λg x he' hx'=>?_);obtain⟨o,ho,hc⟩:=hx';refine au (lJ (T:= "StopIteration") (b:=true) ⟨o,ho,hc⟩ lm ?_);exact aM (hQ _ he')
noncomputable def qO (k:Bool) (a:ai):aH:={ cls:= .type (if k=true then "list_iterator" else "tuple_iterator"),data:= .fields #[.ref a, .int 0 0] }
def Ej (e:h.get? it=aa (qO k a)):ny k h it a 0:=by
 cases k with
 |true=>exact⟨_,e,rfl,rfl⟩
 |false=>exact⟨_,e,rfl,rfl⟩
def Fw:(qO k a).isFreed=false:=by cases k<;>rfl
def Fn{Q:aj→am→Prop}(ha:nv k s.heap a d5) (hQ:Q (.ref s.heap.objs.size) { s with heap:=s.heap.push (qO k a) }):av (aB prog w) A (dL (.ref a)) Q E s:=by
 cases k with
 |true=>exact fv ha hQ
 |false=>exact k_ ha hQ
def nv.push (x:nv k h a d5) (o:aH):nv k (h.push o) a d5:=x.at λ_ e=>aP _ e
def XS (l:ai) (d5:Array aj) :
  PySem.Meets (cC.«enumerate.__new__» ⟨[.type "enumerate", .ref l],[]⟩) (λ_ R s=>nv k s.heap l d5∧
   R (.ok (.ret (.ref (s.heap.push (qO k l)).objs.size))) { s with heap:=(s.heap.push (qO k l)).push { cls:= .type "enumerate",data:= .fields #[.none, .bool false, .ref s.heap.objs.size,cJ 0, .none, .none] } }):=
 .of_wp λprog w A R s h=>by
  obtain⟨hp,g,d,tk,os⟩:=s;obtain⟨hl,h⟩:=h;have hsub:=sub_enumerate;have hL:nv k (am.heap ⟨hp,g,d,tk,os⟩) l d5:=hl;have fin:∀{A:bt}{E:aj→am→Prop}{Q:aj→am→Prop},Q (.ref hp.objs.size) ⟨hp.push (qO k l),g,d,tk,os⟩→av (aB prog w) A (dL (.ref l)) Q E ⟨hp,g,d,tk,os⟩:=λq=>Fn hL q
  wp_walk
  refine wpAny_stack_any λst=>aM ?_;split
  ·rename_i c _ _ _ _ _;cases(c == jE "enumerate")
   ·wp_walk using fin
    exact⟨_,rfl,h⟩
   ·wp_walk using fin
    exact⟨_,rfl,h⟩
  ·wp_walk using fin
   exact⟨_,rfl,h⟩
def Yx{Q:aj→am→Prop}(hL:nv k s.heap l d5)
  (h:∀g,da g (s.heap.objs.size+1) s.heap.objs.size 0 .none→ny k g s.heap.objs.size l 0→g.objs.size=s.heap.objs.size+2→(∀b o,s.heap.get? b=aa o→g.get? b=aa o)→Q (.ref (s.heap.objs.size+1)) { s with heap:=g }) :
  av (aB prog w) A (call (.type "enumerate") [.ref l]) Q E s:=by
 refine callType_new PySem.F.called_enumerate (by decide) (PySem.F.typeCall_enumerate_1 _) (PySem.F.newCall_enumerate_1 _) (λobj=>PySem.F.args_object_init_2 obj _) PySem.F.entry_enumerate_new (XS (k:=k) l d5) ⟨hL,?_⟩;have hz:(s.heap.push (qO k l)).objs.size=s.heap.objs.size+1:=c7 ..;show _∧_;rw[hz];have he:da ((s.heap.push (qO k l)).push { cls:= .type "enumerate",data:= .fields #[.none, .bool false, .ref s.heap.objs.size,cJ 0, .none, .none] }) (s.heap.objs.size+1) s.heap.objs.size 0 .none:=by
  have:=bI (s.heap.push (qO k l)) (o:={ cls:= .type "enumerate",data:= .fields #[.none, .bool false, .ref s.heap.objs.size,cJ 0, .none, .none] }) rfl;rw[hz]at this;exact this
 exact⟨⟨_,he,rfl⟩,h _ he (Ej (aP _ (bI _ Fw))) (by rw[c7,hz]) λb o x=>aP _ (aP _ x)⟩
end
section
variable {X:Cx}{ag:List (ai×aH)}{σ:St}{H:Hp}{s:am}{g:aE}{fp:List ai}
def mC.turnNew{t':Nat}(I:mC X ag σ H s) (hp:s.heap.objs.size≤p) (k:∀b u,b∉fp→s.heap.get? b=aa u→g.get? b=aa u) (hf:∀b∈fp,qL X ag H b) (new:nu X.prog X.w (nM H p o) g p o) :
  mC X ag σ (nM H p o) { s with heap:=g,toks:=t' }:=by
 have hn:=I.cD.fresh hp;have lt:∀{b u},s.heap.get? b=aa u→b≠p:=λe=>bR (bY (aO e) hp);have nfp:∀{b u},H b=aa u→b∉fp:=λe z=>by rw[(hf _ z).1]at e;cases e
 refine I.call (g':=s.gens) (d':=s.drawn) (ch:=fp) ⟨λb u e _ _ hx=>k b u hx e,λb u e _ _ hx=>⟨u.slots,k b u hx e⟩,λb u e n _=>by rw[oj (lt e)];exact n,λb u e hx=>⟨u,k b u hx e⟩,
  λb xs e=>by rw[oj (pS e hn)];exact e,λb u xs e=>by rw[oj (pS e hn)];exact e,λb ps e=>⟨#[],by rw[oj (pS e hn),e];simp⟩⟩ (λb u e=>?_) I.bare λb hb=>⟨(hf b hb).2.2.2.1,(hf b hb).2.1,(hf b hb).2.2.2.2.1,(hf b hb).2.2.2.2.2⟩
 by_cases hb:b=p
 ·subst hb;rw[pH]at e;cases e;exact new
 ·rw[oj hb]at e;refine(I.cD b u e).stay (λc v hc q=>k c v ?_ q) (λc q=>by rw[oj (pS q hn)];exact q) λc xs q=>by rw[oj (pS q hn)];exact q
  obtain rfl |hc:=hc
  ·exact nfp e
  ·exact nfp hc
def mC.turnedL{t':Nat}(I:mC X ag σ H s) (k:∀b u,b∉fp→s.heap.get? b=aa u→g.get? b=aa u) (hf:∀b∈fp,qL X ag H b):mC X ag σ H { s with heap:=g,toks:=t' }:=by
 have nfp:∀{b u},H b=aa u→b∉fp:=λe z=>by rw[(hf _ z).1]at e;cases e
 refine I.call (g':=s.gens) (d':=s.drawn) (ch:=fp) ⟨λb u e _ _ hx=>k b u hx e,λb u e _ _ hx=>⟨u.slots,k b u hx e⟩,λb u e n _=>n,λb u e hx=>⟨u,k b u hx e⟩,
  λb xs e=>e,λb u xs e=>e,λb ps e=>⟨#[],by rw[e];simp⟩⟩ (λb u e=>?_) I.bare λb hb=>⟨(hf b hb).2.2.2.1,(hf b hb).2.1,(hf b hb).2.2.2.2.1,(hf b hb).2.2.2.2.2⟩
 refine(I.cD b u e).stay (λc v hc q=>k c v ?_ q) (λc q=>q) λc xs q=>q;obtain rfl |hc:=hc
 ·exact nfp e
 ·exact nfp hc
def tL (k:Bool) (K:ao) (H:Hp) (a:ai) (xs:List V):Prop:=if k=true then oJ K H a xs else oZ K H a xs
def mC.seq (I:mC X ag σ H s) (h:tL k X.K H a xs):∃d5:List aj,mR xs d5∧nv k s.heap a d5.toArray∧xs.length≤sizeLine:=by
 cases k with
 |true=>obtain⟨d5,r,p,z⟩:=I.list h;exact⟨d5,r,p.isList,z⟩
 |false=>obtain⟨d5,r,p,z⟩:=I.tuple h;exact⟨d5,r,p,z⟩
def mC.seq_inj (I:mC X ag σ H s) (h:tL k X.K H a xs) (h':tL k X.K H a ys):xs=ys:=by
 cases k with
 |true=>exact I.list_inj h h'
 |false=>exact I.tuple_inj h h'
end
noncomputable def Ef (k:Bool) (K:ao) (a:ai):It:=
 ⟨λi H=>∃xs x,tL k K H a xs∧xs[i]? =aa x,λi H v H'=>∃p x,H p=none∧v= .ref p∧H'=nM H p (.bW [.int i,x])∧ ∀xs,tL k K H a xs→xs[i]? =aa x,λi H=>∃xs,tL k K H a xs∧xs.length≤i⟩
def VT{P:bg}{w:aS}{K:ao}{es:List Expr}{x1:Nat}{pos:bw}(k:Bool) (a e it:ai) (hne:e≠it):rD P w K (.Tuple es x1 pos) (Ef k K a) [e,it] e (λi h=>(∃old,da h e it (i:Nat) old)∧ny k h it a i) where
  mem:=by simp
  obj:=λi h ⟨⟨old,he⟩,hit⟩ b hb=>by
    obtain rfl |hb:=az.mp hb
    · exact⟨_,he,λv z=>by cases z⟩
    · have q:b=it:=by simpa using hb
      subst q;obtain⟨o,vs,e,d⟩:=hit.ob;exact⟨o,e,λv z=>by rw[d]at z;cases z⟩
  keep:=λi h h' ⟨⟨old,he⟩,hit⟩ kk=>⟨⟨old,kk e (by simp) _ he⟩,hit.at λo q=>kk it (by simp) o q⟩
  item:=by
    intro X hP hw hK hc i ag s σ H E I hf st hg;subst hP hw hK;obtain⟨xs,x,hq,hx⟩:=hg;obtain⟨⟨old,he⟩,hit⟩:=st;obtain⟨d5,rv,p,hz⟩:=I.seq hq;obtain⟨u,hu,ru⟩:=rv.get hx;refine Uh he hit p (x:=u) (by simpa using hu) hne λg ho hit' ht hz' kk=>⟨_,rfl,?_⟩;refine wpAny_letOwnedTupleGo_enum ho λg2 he2 hs2=>?_;have hlt:s.heap.objs.size≠e:=cV (aO he);have kk2:∀b o,b∉ [e,it]→s.heap.get? b=aa o→g2.get? b=aa o:=λb o hb q=>by
      have h1:b≠e:=λz=>hb (by simp [z]);have h2:b≠it:=λz=>hb (by simp [z]);exact(hs2.2 b h1).trans (kk b o h1 h2 q)
    have hn:=I.cD.fresh (aA s.heap.objs.size);have ht2:g2.get? s.heap.objs.size=aa { cls:= .type "tuple",data:= .seq #[.int i s.toks,u] }:=(hs2.2 _ hlt).trans ht;refine⟨.ref s.heap.objs.size,nM H s.heap.objs.size (.bW [.int i,x]),I.turnNew (fp:=[e,it]) (t':=s.toks+1) (aA _) kk2 hf ⟨by show 2≤sizeLine;rw[dY];decide,[.int i s.toks,u], .cons ⟨_,rfl⟩ (.cons ru .nil),⟨_,ht2,rfl,_,rfl⟩⟩,rfl,
      ⟨_,x,hn,rfl,rfl,λys hy=>by rw[I.seq_inj hy hq];exact hx⟩,⟨⟨u,by simpa using he2⟩,hit'.at λo q=>(hs2.2 it (bz hne)).trans q⟩,λb hb=>?_⟩
    have hb':=(hf b hb).1;have:b≠s.heap.objs.size:=by
      obtain rfl |hb:=az.mp hb
      · exact bz hlt
      · have q:b=it:=by simpa using hb
        subst q;obtain⟨o,vs,e,d⟩:=hit.ob;exact bR (aO e)
    rw[oj this];exact hb'
  done:=by
    intro X hP hw hK hc i ag s σ H E I hf st hg;subst hP hw hK;obtain⟨xs,hq,hx⟩:=hg;obtain⟨⟨old,he⟩,hit⟩:=st;obtain⟨d5,rv,p,hz⟩:=I.seq hq;have hl:=rv.length;exact Pi (I.ok.hd hc) he hit p (by simp;lia) λg eb=>⟨rfl,I.turnedL (fp:=[e,it]) (t':=s.toks) (λb o hb q=>eb b o (λz=>hb (by simp [z])) q) hf⟩
  self:=λA i s Q E ⟨⟨old,he⟩,hit⟩ h=>jW he h
section
variable {X:Cx}{es:List Expr}{x1:Nat}{tpos:bw}
def U8 (K:ao) (ta:TA):TI:=λσ H R=>ta σ H λvs H1=>∃k a xs,vs=[.ref a]∧tL k K H1 a xs∧R (Ef k K a) H1
def Rj{a:Expr}{ta:TA}{p pos:bw}(hg:Gl X "enumerate") (hm:X.mg "enumerate" =none) (ha:PA X [a] ta) (hs:ax [a] X.env=[(false,aG a X.env)]):PI X (.Tuple es x1 tpos) (.Call (.Name "enumerate" p) [a] [] pos) (U8 X.K ta):=by
 intro ag s σ H R I h;refine Call_ (wK I hg hm boot_enumerate (ib (nG (ha pos ag s σ H _ I h) λus s1 ⟨vs,H1,I1,r1,q1⟩=>?_) hs rfl));obtain⟨k,a,xs,e,hq,q⟩:=q1;subst e;cases r1 with
 |cons r rr=>
  cases rr;cases(show _=bM a from r);obtain⟨d5,rv,pl,hz⟩:=I1.seq hq;refine Yx pl λg he hit hz' kk=>jW he ?_;have I2:mC X ag σ H1 { s1 with heap:=g }:=I1.kept (t':=s1.toks) kk;refine⟨s1.heap.objs.size+1,[s1.heap.objs.size+1,s1.heap.objs.size],_,_,H1,rfl,I2,VT k a _ _ (Nat.succ_ne_self _),⟨⟨.none,he⟩,hit⟩,λb hb=>?_,q⟩;have hb':s1.heap.objs.size≤b:=by
   obtain rfl |hb:=az.mp hb
   ·exact Nat.le_succ _
   ·have q:b=s1.heap.objs.size:=by simpa using hb
    exact fN q.symm
  exact I1.fpOk hb' (I1.cD.fresh hb')
noncomputable def pL:Nat→List W→List W
 |_,[]=>[]
 |n,w::ws=> .bW [.int n,w]::pL (n+1) ws
theorem LJ:∀{ws:List W}{n i:Nat}{u:W},(pL n ws)[i]? =aa u→ ∃w,ws[i]? =aa w∧u= .bW [.int ((n+i:Nat):Int),w]
 | [],_,_,_,h=>by simp [pL]at h
 |w::ws,n,0,u,h=>by
  simp [pL]at h;exact⟨w,rfl,by rw[←h];rfl⟩
 |w::ws,n,i+1,u,h=>by
  obtain⟨w',e,q⟩:=LJ (ws:=ws) (n:=n+1) (i:=i) (u:=u) (by simpa [pL]using h);refine⟨w',by simpa using e,?_⟩
  rw[q,show n+1+i=n+(i+1) by lia]
theorem Jr:∀{ws:List W}{n:Nat},(pL n ws).length=ws.length
 | [],_=>rfl
 |w::ws,n=>by simp [pL,Jr (ws:=ws)]
def Pe{K:ao}{k:Bool}{a:ai}{ws:List W}{G:lF→Prop}{H0:Hp}{S0:lF}(h:∀S H,nJ H0 S0 H S→mG K H S→G S→ ∃vs,tL k K H a vs∧mF K H ws vs):wk K (Ef k K a) (pL 0 ws) G H0 S0:=λi S H e hS hG=>by
 obtain⟨vs,hq,r⟩:=h S H e hS hG;refine⟨λu eu=>?_,λhl=>⟨vs,hq,by rw[←r.length,hl,Jr];exact aA _⟩⟩
 obtain⟨w,ew,rfl⟩:=LJ eu;obtain⟨v,ev,rv⟩:=r.get ew;refine⟨⟨vs,v,hq,ev⟩,λx H' ⟨p,y,hp,e1,e2,e3⟩=>?_⟩;subst e1 e2;have e4:=e3 vs hq;rw[ev]at e4;cases e4;rw[bF];exact⟨.new hp,hS.new hp, .bW pH (.cons (.int _) (.cons (rv.ext (.new (S:=S) hp)) .nil))⟩
def uM:W→lF→(List W→(lF→Prop)→Prop)→Prop
 | .bW ws,_,Q=>Q ws λ_=>True
 | .ref a,S,Q=>og S a λws=>Q ws λS'=>S' a=aa (.bP ws)
 | .cX ns,_,Q=>Q (ns.map W.int) λ_=>True
 |_,_,_=>False
def V'{K:ao}{H:Hp}{S:lF}{w:W}{v:V}{Q:List W→(lF→Prop)→Prop}(r:nN K H w v) (hS:mG K H S) (h:uM w S Q) :
  ∃k a ws G,v= .ref a∧G S∧(∀S' H',nJ H S H' S'→mG K H' S'→G S'→ ∃vs,tL k K H' a vs∧mF K H' ws vs)∧Q ws G:=by
 cases r with
 |bW f hs=>exact⟨false,_,_,_,rfl,trivial,λS' H' e hS' _=>⟨_, .of (e.bW _ _ f),hs.ext e⟩,h⟩
 |ref a=>
  obtain⟨ws,ea,h⟩:=qm h;exact⟨true,_,ws,_,rfl,ea,λS' H' e hS' g=>by
   obtain⟨vs,f,hs⟩:=hS' a _ g;exact⟨vs, .of f,hs⟩,h⟩
 |cX f=>exact⟨true,_,_,_,rfl,trivial,λS' H' e hS' _=>⟨_,(e.fz f).sq,mF.ofInts _⟩,h⟩
 |_=>exact h.elim
def uA (t:WE) (E:WX) (σ:mW) (S:lF) (Q:List W→(lF→Prop)→lF→Prop):Prop:=t E σ S λw S1=>uM w S1 λws G=>Q (pL 0 ws) G S1
def Zc{a:Expr}{ta:WE}{p pos:bw}(hg:Gl X "enumerate") (hm:X.mg "enumerate" =none) (ha:JE X a ta) (hs:ax [a] X.env=[(false,aG a X.env)]) (hs2:ax [a] X.env=(false,aG a X.env)::ax [] X.env):JI X (.Tuple es x1 tpos) (.Call (.Name "enumerate" p) [a] [] pos) (uA ta):=λE hE=>
 (Rj hg hm (tV (ha E hE) oX hs2) hs).mono λσ H R ⟨σW,S,QW,hσ,hS,ht,hR⟩=>⟨σW,S,_,hσ,hS,ht,λw S1 v H1 e1 r1 iF h1=>by
  obtain⟨k,a,ws,G,rfl,hG,hq,h⟩:=V' r1 iF h1;obtain⟨vs,hv,_⟩:=hq S1 H1 .refl iF hG;exact⟨k,a,vs,rfl,hv,hR _ _ S1 _ H1 e1 iF hG (Pe hq) h⟩⟩
end
section
variable {prog:bg}{w:aS}{A:bt}{E:aj→am→Prop}{s:am}
def UK{z TI TO i1 i2 l1 l2:ai}{n1 n2:Nat}{Q:Option aj→am→Prop}(D:iV z TI TO i1 i2 l1 l2)
  (hz:cr s.heap z TI TO .none) (hTI:bZ s.heap TI (.ref i1) (.ref i2)) (hTO:bZ s.heap TO a b) (h1:ny k1 s.heap i1 l1 n1) (h2:ny k2 s.heap i2 l2 n2) (hl1:nv k1 s.heap l1 xs) (hl2:nv k2 s.heap l2 ys) (hx:xs[n1]? =aa x) (hy:ys[n2]? =aa y)
  (hQ:∀g,cr g z TI TO (cJ s.heap.objs.size)→bZ g TO x y→ny k1 g i1 l1 (n1+1)→ny k2 g i2 l2 (n2+1)→bZ g s.heap.objs.size x y→g.objs.size=s.heap.objs.size+1→
   (∀c o,c≠z→c≠TO→c≠i1→c≠i2→s.heap.get? c=aa o→g.get? c=aa o)→Q (aa (.ref s.heap.objs.size)) { s with heap:=g }):av (aB prog w) A (cq (.ref z)) Q E s:=by
 have hT:s.TypeIs (.ref z) "zip" :=⟨_,hz,rfl⟩;unfold cq;refine au (ii (dQ (name:=bE "__next__") hT gD (dE gD hT li ?_ (lQ _))));show av _ _ (field (.ref z) 2 >>= _) _ _ _;refine au (bU hz rfl (x:= .bool false) rfl ?_);show av _ _ (field (.ref z) 3 >>= _) _ _ _;refine au (bU hz rfl (x:= .ref TI) rfl ?_);refine au (dq hTI rfl ?_);show av _ _ (eK (.ref z) >>= _) _ _ _;refine au ?_;unfold eK;refine au (bU hz rfl (x:= .none) rfl (aM ?_));simp only[if_true];refine au (eR ?_);refine au (bU hz rfl (x:= .ref TO) rfl ?_);refine au (cM hz (by simp) λg1 hz1 hs1=>?_);replace hz1:cr g1 z TI TO .ellipsis:=hz1;refine au ?_;simp only[kT,jY,iT,mi];refine au (au (gY ?_));show av _ _ (cU (.ref i1) >>= _) _ _ _;refine au (AI (h1.at λo e=>hs1.extBut _ o D.i1z e) (hl1.at λo e=>hs1.extBut _ o D.l1z e) hx λg2 h12 hs2=>aM ?_);have hTO2:bZ g2 TO a b:=hs2.extBut _ _ D.TOi1 (hs1.extBut _ _ D.TOz hTO);refine au (dq hTO2 rfl ?_);refine au (jq hTO2 λg3 hTO3 hs3=>?_);replace hTO3:bZ g3 TO x b:=hTO3;refine au (gO (aM ?_));refine au (au (gY ?_));show av _ _ (cU (.ref i2) >>= _) _ _ _;refine au (AI (h2.at λo e=>hs3.extBut _ o D.TOi2.symm (hs2.extBut _ o D.i12.symm (hs1.extBut _ o D.i2z e))) (hl2.at λo e=>hs3.extBut _ o D.l2TO (hs2.extBut _ o D.l2i1 (hs1.extBut _ o D.l2z e))) hy λg4 h24 hs4=>aM ?_);have hTO4:bZ g4 TO x b:=hs4.extBut _ _ D.TOi2 hTO3;refine au (dq hTO4 rfl ?_);refine au (jq hTO4 λg5 hTO5 hs5=>?_);replace hTO5:bZ g5 TO x y:=hTO5;refine au (gO (aM (aM ?_)));refine au (dq hTO5 rfl ?_);refine au (kl ?_);have hsz:g5.objs.size=s.heap.objs.size:=by rw[hs5.1,hs4.1,hs3.1,hs2.1,hs1.1]
 have hz5:cr g5 z TI TO .ellipsis:=hs5.extBut _ _ D.TOz.symm (hs4.extBut _ _ D.i2z.symm (hs3.extBut _ _ D.TOz.symm (hs2.extBut _ _ D.i1z.symm hz1)));have hk5:∀c o,c≠z→c≠TO→c≠i1→c≠i2→s.heap.get? c=aa o→g5.get? c=aa o:=λc o c1 c2 c3 c4 e=>hs5.extBut _ _ c2 (hs4.extBut _ _ c4 (hs3.extBut _ _ c2 (hs2.extBut _ _ c3 (hs1.extBut _ _ c1 e))));have h15:ny k1 g5 i1 l1 (n1+1):=h12.at λo e=>hs5.extBut _ o D.TOi1.symm (hs4.extBut _ o D.i12 (hs3.extBut _ o D.TOi1.symm e));have h25:ny k2 g5 i2 l2 (n2+1):=h24.at λo e=>hs5.extBut _ o D.TOi2.symm e;have hzlt:z<g5.objs.size:=aO hz5;show av _ _ (gy (.ref z) (.ref g5.objs.size) >>= _) _ _ _;refine au ?_;unfold gy;have hz6:cr (g5.push { cls:= .type "tuple",data:= .seq #[x,y] }) z TI TO .ellipsis:=aP _ hz5;refine au (cM hz6 (by simp) λg7 hz7 hs7=>?_);replace hz7:cr g7 z TI TO (cJ g5.objs.size):=hz7;refine cM hz7 (by simp) λg8 hz8 hs8=>?_;replace hz8:cr g8 z TI TO (cJ g5.objs.size):=hz8;have up:∀c o,c≠z→g5.get? c=aa o→g8.get? c=aa o:=λc o c1 e=>hs8.extBut _ _ c1 (hs7.extBut _ _ c1 (aP _ e));have hT8:bZ g8 g5.objs.size x y:=hs8.extBut _ _ (cV hzlt) (hs7.extBut _ _ (cV hzlt) (bI _ rfl));have hzz:g8.objs.size=g5.objs.size+1:=by rw[hs8.1,hs7.1,c7]
 rw[hsz]at hz8 hT8 hzz;refine aM ⟨_,rfl,aM ?_⟩;show Q (aa (.ref g5.objs.size)) _;rw[hsz];exact hQ g8 hz8 (up _ _ D.TOz hTO5) (h15.at λo e=>up _ o D.i1z e) (h25.at λo e=>up _ o D.i2z e) hT8 hzz λc o c1 c2 c3 c4 e=>up c o c1 (hk5 c o c1 c2 c3 c4 e)
def T3{z TI TO i1 i2 l1 l2:ai}{n1 n2:Nat}{Q:Option aj→am→Prop}(hh:A.handled=none) (D:iV z TI TO i1 i2 l1 l2)
  (hz:cr s.heap z TI TO .none) (hTI:bZ s.heap TI (.ref i1) (.ref i2)) (hTO:bZ s.heap TO a b) (h1:ny k1 s.heap i1 l1 n1) (h2:ny k2 s.heap i2 l2 n2) (hl1:nv k1 s.heap l1 xs) (hl2:nv k2 s.heap l2 ys) (hend:xs[n1]? =none∨ys[n2]? =none)
  (hQ:∀g,(∀c o,c≠z→c≠TO→c≠i1→c≠i2→s.heap.get? c=aa o→g.get? c=aa o)→Q none { s with heap:=g }):av (aB prog w) A (cq (.ref z)) Q E s:=by
 have hT:s.TypeIs (.ref z) "zip" :=⟨_,hz,rfl⟩;have fin:∀(g:aE) (e:ai),(∀c o,c≠z→c≠TO→c≠i1→c≠i2→s.heap.get? c=aa o→g.get? c=aa o)→(∃o,g.get? e=aa o∧o.cls= .type "StopIteration")→
   av (aB prog w) A (do if(←isInstance (.ref e) (.type "StopIteration")) then pure none else throw (.ref e)) Q E { s with heap:=g }:=λg e hk ⟨o,ho,hc⟩=>
  au (lJ (T:= "StopIteration") (b:=true) ⟨o,ho,hc⟩ lm (aM (hQ _ hk)))
 unfold cq;refine au (ii (dQ (name:=bE "__next__") hT gD (dE gD hT li ?_ (lQ _))));show av _ _ (field (.ref z) 2 >>= _) _ _ _;refine au (bU hz rfl (x:= .bool false) rfl ?_);show av _ _ (field (.ref z) 3 >>= _) _ _ _;refine au (bU hz rfl (x:= .ref TI) rfl ?_);refine au (dq hTI rfl ?_);show av _ _ (eK (.ref z) >>= _) _ _ _;refine au ?_;unfold eK;refine au (bU hz rfl (x:= .none) rfl (aM ?_));simp only[if_true];refine au (eR ?_);refine au (bU hz rfl (x:= .ref TO) rfl ?_);refine au (cM hz (by simp) λg1 hz1 hs1=>?_);replace hz1:cr g1 z TI TO .ellipsis:=hz1;refine au ?_;simp only[kT,jY,iT,mi];refine au (au (gY ?_));show av _ _ (cU (.ref i1) >>= _) _ _ _;cases hx:xs[n1]? with
 |none=>
  refine au (C1 hh (h1.at λo e=>hs1.extBut _ o D.i1z e) (hl1.at λo e=>hs1.extBut _ o D.l1z e) hx λg2 e hs2 he=>?_);obtain⟨oe,hoe,hce⟩:=he;have hz2:cr g2 z TI TO .ellipsis:=hs2 _ _ D.i1z.symm hz1;have hez:e≠z:=λx=>by subst x;rw[hz2]at hoe;cases hoe;simp at hce
  refine cM hz2 (by simp) λg3 _ hs3=>fin g3 e (λc o c1 _ c3 _ x=>hs3.extBut _ _ c1 (hs2 _ _ c3 (hs1.extBut _ _ c1 x))) ⟨oe,hs3.extBut _ _ hez hoe,hce⟩
 |some x=>
  have hy:ys[n2]? =none:=by obtain h |h:=hend;rw[hx]at h;cases h;exact h
  refine au (AI (h1.at λo e=>hs1.extBut _ o D.i1z e) (hl1.at λo e=>hs1.extBut _ o D.l1z e) hx λg2 h12 hs2=>aM ?_);have hTO2:bZ g2 TO a b:=hs2.extBut _ _ D.TOi1 (hs1.extBut _ _ D.TOz hTO);refine au (dq hTO2 rfl ?_);refine au (jq hTO2 λg3 hTO3 hs3=>?_);refine au (gO (aM ?_));refine au (au (gY ?_));show av _ _ (cU (.ref i2) >>= _) _ _ _;refine au (C1 hh (h2.at λo e=>hs3.extBut _ o D.TOi2.symm (hs2.extBut _ o D.i12.symm (hs1.extBut _ o D.i2z e))) (hl2.at λo e=>hs3.extBut _ o D.l2TO (hs2.extBut _ o D.l2i1 (hs1.extBut _ o D.l2z e))) hy λg4 e hs4 he=>?_);obtain⟨oe,hoe,hce⟩:=he;have hz4:cr g4 z TI TO .ellipsis:=hs4 _ _ D.i2z.symm (hs3.extBut _ _ D.TOz.symm (hs2.extBut _ _ D.i1z.symm hz1));have hez:e≠z:=λx=>by subst x;rw[hz4]at hoe;cases hoe;simp at hce
  refine cM hz4 (by simp) λg5 _ hs5=>fin g5 e (λc o c1 c2 c3 c4 x=>hs5.extBut _ _ c1 (hs4 _ _ c4 (hs3.extBut _ _ c2 (hs2.extBut _ _ c3 (hs1.extBut _ _ c1 x))))) ⟨oe,hs5.extBut _ _ hez hoe,hce⟩
noncomputable abbrev B0 (k1:Bool) (h:aE) (l1:ai):aE:=h.push (qO k1 l1)
noncomputable abbrev B8 (k1 k2:Bool) (h:aE) (l1 l2:ai):aE:=(B0 k1 h l1).push (qO k2 l2)
noncomputable abbrev B_ (k1 k2:Bool) (h:aE) (l1 l2:ai):aE:=(B8 k1 k2 h l1 l2).push { cls:= .type "tuple",data:= .seq #[.ref h.objs.size, .ref (B0 k1 h l1).objs.size] }
noncomputable abbrev BC (k1 k2:Bool) (h:aE) (l1 l2:ai):aE:=(B_ k1 k2 h l1 l2).push { cls:= .type "tuple",data:= .seq #[.none, .none] }
noncomputable abbrev vC (k1 k2:Bool) (h:aE) (l1 l2:ai):aE:=(BC k1 k2 h l1 l2).push { cls:= .type "zip",data:= .fields #[.none, .bool false, .bool false, .ref (B8 k1 k2 h l1 l2).objs.size, .ref (B_ k1 k2 h l1 l2).objs.size] }
def VF (l1 l2:ai) (xs ys:Array aj) :
  PySem.Meets (cC.«zip.__new__» ⟨[.type "zip", .ref l1, .ref l2],[]⟩) (λ_ R s=>nv k1 s.heap l1 xs∧nv k2 s.heap l2 ys∧R (.ok (.ret (.ref (BC k1 k2 s.heap l1 l2).objs.size))) { s with heap:=vC k1 k2 s.heap l1 l2 }):=
 .of_wp λprog w A R s h=>by
  obtain⟨hp,g,d,tk,os⟩:=s;obtain⟨hl1,hl2,h⟩:=h;have hsub:=sub_zip;have f1:∀{A:bt}{E:aj→am→Prop}{Q:aj→am→Prop},Q (.ref hp.objs.size) ⟨hp.push (qO k1 l1),g,d,tk,os⟩→av (aB prog w) A (dL (.ref l1)) Q E ⟨hp,g,d,tk,os⟩:=λq=>Fn (s:=⟨hp,g,d,tk,os⟩) hl1 q;have f2:∀{A:bt}{E:aj→am→Prop}{Q:aj→am→Prop},Q (.ref (hp.push (qO k1 l1)).objs.size) ⟨(hp.push (qO k1 l1)).push (qO k2 l2),g,d,tk,os⟩→av (aB prog w) A (dL (.ref l2)) Q E ⟨hp.push (qO k1 l1),g,d,tk,os⟩:=λq=>Fn (s:=⟨hp.push (qO k1 l1),g,d,tk,os⟩) (hl2.push _) q
  wp_walk using f1,f2
  exact⟨_,rfl,h⟩
def Ww{Q:aj→am→Prop}(hl1:nv k1 s.heap l1 xs) (hl2:nv k2 s.heap l2 ys)
  (h:∀g,cr g (s.heap.objs.size+4) (s.heap.objs.size+2) (s.heap.objs.size+3) .none→bZ g (s.heap.objs.size+2) (.ref s.heap.objs.size) (.ref (s.heap.objs.size+1))→
   bZ g (s.heap.objs.size+3) .none .none→ny k1 g s.heap.objs.size l1 0→ny k2 g (s.heap.objs.size+1) l2 0→g.objs.size=s.heap.objs.size+5→
   (∀c o,s.heap.get? c=aa o→g.get? c=aa o)→Q (.ref (s.heap.objs.size+4)) { s with heap:=g }):av (aB prog w) A (call (.type "zip") [.ref l1, .ref l2]) Q E s:=by
 refine callType_new PySem.F.called_zip (by decide) (PySem.F.typeCall_zip_2 _ _) (PySem.F.newCall_zip_2 _ _) (λobj=>PySem.F.args_object_init_3 obj _ _) PySem.F.entry_zip_new (VF (k1:=k1) (k2:=k2) l1 l2 xs ys) ⟨hl1,hl2,?_⟩;have z1:(B0 k1 s.heap l1).objs.size=s.heap.objs.size+1:=c7 ..;have z2:(B8 k1 k2 s.heap l1 l2).objs.size=s.heap.objs.size+2:=by rw[c7,z1]
 have z3:(B_ k1 k2 s.heap l1 l2).objs.size=s.heap.objs.size+3:=by rw[c7,z2]
 have z4:(BC k1 k2 s.heap l1 l2).objs.size=s.heap.objs.size+4:=by rw[c7,z3]
 have z5:(vC k1 k2 s.heap l1 l2).objs.size=s.heap.objs.size+5:=by rw[c7,z4]
 have g5:(vC k1 k2 s.heap l1 l2).get? (BC k1 k2 s.heap l1 l2).objs.size=aa _:=bI _ rfl;have g4:(vC k1 k2 s.heap l1 l2).get? (B_ k1 k2 s.heap l1 l2).objs.size=aa _:=aP _ (bI _ rfl);have g3:(vC k1 k2 s.heap l1 l2).get? (B8 k1 k2 s.heap l1 l2).objs.size=aa _:=aP _ (aP _ (bI _ rfl));have g2:(vC k1 k2 s.heap l1 l2).get? (B0 k1 s.heap l1).objs.size=aa _:=aP _ (aP _ (aP _ (bI _ Fw)));have g1:(vC k1 k2 s.heap l1 l2).get? s.heap.objs.size=aa _:=aP _ (aP _ (aP _ (aP _ (bI _ Fw))));show _∧_;rw[z2,z3,z4]at g5;rw[z1,z2]at g3;rw[z3]at g4;rw[z1]at g2;rw[z4];exact⟨⟨_,g5,rfl⟩,h _ g5 g3 g4 (Ej g1) (Ej g2) z5 λc o x=>aP _ (aP _ (aP _ (aP _ (aP _ x))))⟩
end
def rb (k:Bool) (K:ao) (H:Hp) (a:ai) (xs:List V):Prop:=if k=true then oJ K H a xs else H a=aa (.bW xs)
def rb.sq{k:Bool}{K:ao}{H:Hp}{a:ai}{xs:List V}(h:rb k K H a xs):tL k K H a xs:=by
 cases k with
 |true=>exact h
 |false=>exact .of h
def nv.ob (x:nv k h a d5):∃o n,h.get? a=aa o∧o.data= .seq d5 n∧(k=true→o.cls= .type "list"):=by
 cases k with
 |true=>obtain⟨o,ho,hc,n,hd⟩:=(show h.IsList a d5 from x);exact⟨o,n,ho,hd,λ_=>hc⟩
 |false=>obtain⟨o,ho,hc,n,hd⟩:=(show h.IsTuple a d5 from x);exact⟨o,n,ho,hd,λz=>by cases z⟩
def nv.ne_fields (x:nv k h a d5) (e:h.get? b=aa o) (d:o.data= .fields vs):a≠b:=λz=>by
 subst z;obtain⟨o',n,ho,hd,_⟩:=x.ob;rw[ho]at e;cases e;rw[hd]at d;cases d
noncomputable def E7 (k1 k2:Bool) (K:ao) (a b:ai):It:=
  ⟨λi H=>∃xs ys x y,rb k1 K H a xs∧rb k2 K H b ys∧xs[i]? =aa x∧ys[i]? =aa y,
   λi H v H'=>∃p x y,H p=none∧v= .ref p∧H'=nM H p (.bW [x,y])∧(∀xs,rb k1 K H a xs→xs[i]? =aa x)∧ ∀ys,rb k2 K H b ys→ys[i]? =aa y,
   λi H=>∃xs ys,rb k1 K H a xs∧rb k2 K H b ys∧(xs.length≤i∨ys.length≤i)⟩
structure rB (z TI TO i1 i2:ai):Prop where
  TIz:TI≠z
  TOz:TO≠z
  i1z:i1≠z
  i2z:i2≠z
  TITO:TI≠TO
  TIi1:TI≠i1
  TIi2:TI≠i2
  TOi1:TO≠i1
  TOi2:TO≠i2
  i12:i1≠i2
def KS (k1 k2:Bool) (z TI TO i1 i2 a b:ai) (i:Nat) (h:aE):Prop:=cr h z TI TO .none∧bZ h TI (.ref i1) (.ref i2)∧(∃u v,bZ h TO u v)∧ny k1 h i1 a i∧ny k2 h i2 b i
def GK{z TI TO i1 i2 a b:ai}(I:mC X ag σ H s) (hTO:H TO=none) (D:rB z TI TO i1 i2) (st:KS k1 k2 z TI TO i1 i2 a b i s.heap) (ha:rb k1 X.K H a xs) (hb:rb k2 X.K H b ys):iV z TI TO i1 i2 a b:=by
 obtain⟨hz,hTI,⟨u,v,hTOo⟩,h1,h2⟩:=st;obtain⟨o1,v1,e1,d1⟩:=h1.ob;obtain⟨o2,v2,e2,d2⟩:=h2.ob;obtain⟨d5,_,pa,_⟩:=I.seq ha.sq;obtain⟨its2,_,pb,_⟩:=I.seq hb.sq;have nTO:∀{k:Bool}{c:ai}{zs:List V}{d5:Array aj},rb k X.K H c zs→nv k s.heap c d5→c≠TO:=λ{k c zs d5} hc pc e=>by
  subst e;cases k with
  |false=>rw[show H c=aa (.bW zs) from hc]at hTO;cases hTO
  |true=>
   obtain⟨o,n,ho,_,hcl⟩:=pc.ob;rw[hTOo]at ho;cases ho;have:=hcl rfl;simp at this
 exact⟨D.TIz,D.TOz,D.i1z,D.i2z,D.TITO,D.TIi1,D.TIi2,D.TOi1,D.TOi2,D.i12,pa.ne_fields hz rfl,nTO ha pa,pa.ne_fields e1 d1,pa.ne_fields e2 d2,pb.ne_fields hz rfl,nTO hb pb,pb.ne_fields e1 d1,pb.ne_fields e2 d2⟩
def Tt{P:bg}{w:aS}{K:ao}{es:List Expr}{x1:Nat}{pos:bw}(k1 k2:Bool) (a b z TI TO i1 i2:ai) (D:rB z TI TO i1 i2):rD P w K (.Tuple es x1 pos) (E7 k1 k2 K a b) [z,TI,TO,i1,i2] z (KS k1 k2 z TI TO i1 i2 a b) where
  mem:=by simp
  obj:=λi h ⟨hz,hTI,⟨u,v,hTO⟩,h1,h2⟩ c hc=>by
    obtain⟨o1,v1,e1,d1⟩:=h1.ob;obtain⟨o2,v2,e2,d2⟩:=h2.ob;simp only[az,bq,or_false]at hc;obtain rfl |rfl |rfl |rfl |rfl:=hc
    · exact⟨_,hz,λv z=>by cases z⟩
    · exact⟨_,hTI,λv z=>by cases z⟩
    · exact⟨_,hTO,λv z=>by cases z⟩
    · exact⟨_,e1,λv z=>by rw[d1]at z;cases z⟩
    · exact⟨_,e2,λv z=>by rw[d2]at z;cases z⟩
  keep:=λi h h' ⟨hz,hTI,⟨u,v,hTO⟩,h1,h2⟩ kk=>⟨kk z (by simp) _ hz,kk TI (by simp) _ hTI,⟨u,v,kk TO (by simp) _ hTO⟩,h1.at λo q=>kk i1 (by simp) o q,h2.at λo q=>kk i2 (by simp) o q⟩
  item:=by
    intro X hP hw hK hc i ag s σ H E I hf st hg;subst hP hw hK;obtain⟨xs,ys,x,y,ha,hb,hx,hy⟩:=hg;have Z:=GK I (hf TO (by simp)).1 D st ha hb;obtain⟨hz,hTI,⟨c0,d0,hTO⟩,h1,h2⟩:=st;obtain⟨d5,rv,pa,_⟩:=I.seq ha.sq;obtain⟨its2,rv2,pb,_⟩:=I.seq hb.sq;obtain⟨u,hu,ru⟩:=rv.get hx;obtain⟨u2,hu2,ru2⟩:=rv2.get hy;refine UK Z hz hTI hTO h1 h2 pa pb (x:=u) (y:=u2) (by simpa using hu) (by simpa using hu2) λg hz1 hTO1 h11 h21 hp hz' kk=>⟨_,rfl,?_⟩;refine wpAny_letOwnedTupleGo_zip hz1 λg2 hz2 hs2=>?_;have hs2':∀c o,c≠z→g.get? c=aa o→g2.get? c=aa o:=λc o hc e=>(hs2.2 c hc).trans e;have kk2:∀c o,c∉ [z,TI,TO,i1,i2]→s.heap.get? c=aa o→g2.get? c=aa o:=λc o hc q=>by
      simp only[az,bq,or_false,not_or]at hc;exact hs2' c o hc.1 (kk c o hc.1 hc.2.2.1 hc.2.2.2.1 hc.2.2.2.2 q)
    have hn:=I.cD.fresh (aA s.heap.objs.size);have hpz:s.heap.objs.size≠z:=cV (aO hz);have ht2:g2.get? s.heap.objs.size=aa { cls:= .type "tuple",data:= .seq #[u,u2] }:=hs2' _ _ hpz hp;refine⟨.ref s.heap.objs.size,nM H s.heap.objs.size (.bW [x,y]),I.turnNew (fp:=[z,TI,TO,i1,i2]) (t':=s.toks) (aA _) kk2 hf ⟨by show 2≤sizeLine;rw[dY];decide,[u,u2], .cons ru (.cons ru2 .nil),⟨_,ht2,rfl,_,rfl⟩⟩,rfl,
      ⟨_,x,y,hn,rfl,rfl,λzs hy=>by rw[I.seq_inj hy.sq ha.sq];exact hx,λzs hy'=>by rw[I.seq_inj hy'.sq hb.sq];exact hy⟩,
      ⟨hz2,hs2' _ _ D.TIz (kk _ _ D.TIz D.TITO D.TIi1 D.TIi2 hTI),⟨u,u2,hs2' _ _ D.TOz hTO1⟩,h11.at λo q=>hs2' _ o D.i1z q,h21.at λo q=>hs2' _ o D.i2z q⟩,λc hc=>?_⟩
    have hlt:∃o,s.heap.get? c=aa o:=by
      obtain⟨o1,v1,e1,d1⟩:=h1.ob;obtain⟨o2,v2,e2,d2⟩:=h2.ob;simp only[az,bq,or_false]at hc;obtain rfl |rfl |rfl |rfl |rfl:=hc
      · exact⟨_,hz⟩
      · exact⟨_,hTI⟩
      · exact⟨_,hTO⟩
      · exact⟨_,e1⟩
      · exact⟨_,e2⟩
    obtain⟨o,ho⟩:=hlt;rw[oj (bR (aO ho))];exact(hf c hc).1
  done:=by
    intro X hP hw hK hc i ag s σ H E I hf st hg;subst hP hw hK;obtain⟨xs,ys,ha,hb,hx⟩:=hg;have Z:=GK I (hf TO (by simp)).1 D st ha hb;obtain⟨hz,hTI,⟨c0,d0,hTO⟩,h1,h2⟩:=st;obtain⟨d5,rv,pa,_⟩:=I.seq ha.sq;obtain⟨its2,rv2,pb,_⟩:=I.seq hb.sq;have hl:=rv.length;have hl2:=rv2.length;refine T3 (I.ok.hd hc) Z hz hTI hTO h1 h2 pa pb ?_ λg eb=>⟨rfl,I.turnedL (fp:=[z,TI,TO,i1,i2]) (t':=s.toks) (λc o hc q=>?_) hf⟩
    · obtain hx |hx:=hx
      · exact .inl (by simp;lia)
      · exact .inr (by simp;lia)
    · simp only[az,bq,or_false,not_or]at hc;exact eb c o hc.1 hc.2.2.1 hc.2.2.2.1 hc.2.2.2.2 q
  self:=λA i s Q E st h=>kJ st.1 h
def Uz (K:ao) (ta:TA):TI:=λσ H R=>ta σ H λvs H1=>∃k1 k2 a b xs ys,vs=[.ref a, .ref b]∧rb k1 K H1 a xs∧rb k2 K H1 b ys∧R (E7 k1 k2 K a b) H1
def VV (hg:Gl X "zip") (hm:X.mg "zip" =none) (ha:PA X [a,b] ta) (hs:ax [a,b] X.env=[(false,aG a X.env),(false,aG b X.env)]) (hs2:ax [b] X.env=[(false,aG b X.env)]):PI X (.Tuple es x1 tpos) (.Call (.Name "zip" p) [a,b] [] pos) (Uz X.K ta):=by
 intro ag s σ H R I h;refine Call_ (wK I hg hm boot_zip (ib (nG (ha pos ag s σ H _ I h) λus s1 ⟨vs,H1,I1,r1,q1⟩=>?_) (by rw[hs,hs2]) (by rw[hs2];rfl)));obtain⟨k1,k2,a,b,xs,ys,e,hq1,hq2,q⟩:=q1;subst e;cases r1 with
 |cons r rr=>
  cases rr with
  |cons r' rr=>
   cases rr;cases(show _=bM a from r);cases(show _=bM b from r');obtain⟨d5,rv,pl,_⟩:=I1.seq hq1.sq;obtain⟨its2,rv2,pl2,_⟩:=I1.seq hq2.sq;refine Ww pl pl2 λg hz hTI hTO h1 h2 hz' kk=>kJ hz ?_;have I2:mC X ag σ H1 { s1 with heap:=g }:=I1.kept (t':=s1.toks) kk;have ne:∀(n i j:Nat),i≠j→n+i≠n+j:=λn i j h e=>h (Nat.add_left_cancel e);have D:rB (s1.heap.objs.size+4) (s1.heap.objs.size+2) (s1.heap.objs.size+3) s1.heap.objs.size (s1.heap.objs.size+1):=
    ⟨ne _ 2 4 (by decide),ne _ 3 4 (by decide),ne _ 0 4 (by decide),ne _ 1 4 (by decide),ne _ 2 3 (by decide),ne _ 2 0 (by decide),ne _ 2 1 (by decide),ne _ 3 0 (by decide),ne _ 3 1 (by decide),ne _ 0 1 (by decide)⟩
   refine⟨_,_,_,_,H1,rfl,I2,Tt k1 k2 a b _ _ _ _ _ D,⟨hz,hTI,⟨_,_,hTO⟩,h1,h2⟩,λc hc=>?_,q⟩;have hb':s1.heap.objs.size≤c:=by
    simp only[az,bq,or_false]at hc;obtain rfl |rfl |rfl |rfl |rfl:=hc
    ·exact gp _ _
    ·exact gp _ _
    ·exact gp _ _
    ·exact aA _
    ·exact gp _ _
   exact I1.fpOk hb' (I1.cD.fresh hb')
noncomputable def m8:List W→List W→List W
 |x::xs,y::ys=> .bW [x,y]::m8 xs ys
 |_,_=>[]
theorem Nj:∀{xs ys:List W}{i:Nat}{u:W},(m8 xs ys)[i]? =aa u→ ∃x y,xs[i]? =aa x∧ys[i]? =aa y∧u= .bW [x,y]
 | [],_,_,_,h=>by simp [m8]at h
 |_::_,[],_,_,h=>by simp [m8]at h
 |x::xs,y::ys,0,u,h=>by
  simp [m8]at h;exact⟨x,y,rfl,rfl,h.symm⟩
 |x::xs,y::ys,i+1,u,h=>by simpa using Nj (xs:=xs) (ys:=ys) (i:=i) (u:=u) (by simpa [m8]using h)
theorem L1:∀{xs ys:List W},(m8 xs ys).length=min xs.length ys.length
 | [],_=>by simp [m8]
 |_::_,[]=>by simp [m8]
 |x::xs,y::ys=>by simp [m8,L1 (xs:=xs) (ys:=ys)]
def PH{K:ao}{k1 k2:Bool}{a b:ai}{ws us:List W}{G:lF→Prop}{H0:Hp}{S0:lF}(h:∀S H,nJ H0 S0 H S→mG K H S→G S→(∃vs,rb k1 K H a vs∧mF K H ws vs)∧ ∃vs,rb k2 K H b vs∧mF K H us vs):wk K (E7 k1 k2 K a b) (m8 ws us) G H0 S0:=λi S H e hS hG=>by
 obtain⟨⟨xs,hq,r⟩,⟨ys,hq2,r2⟩⟩:=h S H e hS hG;refine⟨λu eu=>?_,λhl=>⟨xs,ys,hq,hq2,?_⟩⟩
 ·obtain⟨x,y,ex,ey,rfl⟩:=Nj eu;obtain⟨v,ev,rv⟩:=r.get ex;obtain⟨v2,ev2,rv2⟩:=r2.get ey;refine⟨⟨xs,ys,v,v2,hq,hq2,ev,ev2⟩,λx H' ⟨p,y1,y2,hp,e1,e2,e3,e4⟩=>?_⟩;subst e1 e2;have f1:=e3 xs hq;have f2:=e4 ys hq2;rw[ev]at f1;cases f1;rw[ev2]at f2;cases f2;exact⟨.new hp,hS.new hp, .bW pH (.cons (rv.ext (.new (S:=S) hp)) (.cons (rv2.ext (.new (S:=S) hp)) .nil))⟩
 ·rw[L1]at hl;rw[←r.length,←r2.length];lia
def NT{K:ao}{H:Hp}{S:lF}{w:W}{v:V}{Q:List W→(lF→Prop)→Prop}(r:nN K H w v) (hS:mG K H S) (h:uM w S Q) :
  ∃k a ws G,v= .ref a∧G S∧(∀S' H',nJ H S H' S'→mG K H' S'→G S'→ ∃vs,rb k K H' a vs∧mF K H' ws vs)∧Q ws G:=by
 cases r with
 |bW f hs=>exact⟨false,_,_,_,rfl,trivial,λS' H' e hS' _=>⟨_,e.bW _ _ f,hs.ext e⟩,h⟩
 |ref a=>
  obtain⟨ws,ea,h⟩:=qm h;exact⟨true,_,ws,_,rfl,ea,λS' H' e hS' g=>by
   obtain⟨vs,f,hs⟩:=hS' a _ g;exact⟨vs, .of f,hs⟩,h⟩
 |cX f=>exact⟨true,_,_,_,rfl,trivial,λS' H' e hS' _=>⟨_,(e.fz f).sq,mF.ofInts _⟩,h⟩
 |_=>exact h.elim
def sO (t u:WE) (E:WX) (σ:mW) (S:lF) (Q:List W→(lF→Prop)→lF→Prop):Prop:=t E σ S λx S1=>u E σ S1 λy S2=>uM x S2 λxs G=>uM y S2 λys G'=>Q (m8 xs ys) (λS'=>G S'∧G' S') S2
def Ra{a b:Expr}{ta tb:WE}{p pos:bw}(hg:Gl X "zip") (hm:X.mg "zip" =none) (ha:JE X a ta) (hb:JE X b tb) (hs:ax [a,b] X.env=[(false,aG a X.env),(false,aG b X.env)]) (hs2:ax [b] X.env=[(false,aG b X.env)])
  (h3:ax [a,b] X.env=(false,aG a X.env)::ax [b] X.env) (h4:ax [b] X.env=(false,aG b X.env)::ax [] X.env):JI X (.Tuple es x1 tpos) (.Call (.Name "zip" p) [a,b] [] pos) (sO ta tb):=λE hE=>
 (VV hg hm (tV (ha E hE) (tV (hb E hE) oX h4) h3) hs hs2).mono λσ H R ⟨σW,S,QW,hσ,hS,ht,hR⟩=>⟨σW,S,_,hσ,hS,ht,λx S1 v H1 e1 r1 iF h1=>⟨σW,S1,_,hσ.ext e1,iF,h1,λy S2 v2 H2 e2 r2 hS2 h2=>by
  obtain⟨k1,a,ws,G,rfl,hG,hq,h⟩:=NT (r1.ext e2) hS2 h2;obtain⟨k2,b,us,G',rfl,hG',hq',h⟩:=NT r2 hS2 h;obtain⟨vs,hv,_⟩:=hq S2 H2 .refl hS2 hG;obtain⟨vs',hv',_⟩:=hq' S2 H2 .refl hS2 hG';exact⟨k1,k2,a,b,vs,vs',rfl,hv,hv',hR _ _ S2 _ H2 (e1.trans e2) hS2 ⟨hG,hG'⟩ (PH λS' H' e hS' g=>⟨hq S' H' e hS' g.1,hq' S' H' e hS' g.2⟩) h⟩⟩⟩
noncomputable def Rr (hi:Int) (n:Nat):List W:=(bx n).map λ(i:Nat)=> .int (hi - (i:Int))
def zGF (t:WA):WI:=λE σ S Q=>t E σ S λws S1=>match ws with
 | [.int i, .int j, .int c]=>c= -1∧(-(2 ^ 62)≤i∧i<2 ^ 62∧ -(2 ^ 62)≤j∧j<2 ^ 62)∧Q (Rr i (i - j).toNat) (λ_=>True) S1
 |_=>False
def Sn (ho:oh X (bB op) r) (hw:qX X.K r wr) (ho':oh X (bB op') r') (hw':qX X.K r' wr') (ha:JE X a ta) (hb:JE X b tb) (hc:JE X c tc)
  (hm:h_ [op,op'] [b,c]=false:=by with_unfolding_all rfl):JE X (.Compare a [op,op'] [b,c] pos) (vX wr wr' ta tb tc):=λE hE=>
 (SJ ho ho' (ha E hE) (hb E hE) (hc E hE) hm).mono λσ H Q ⟨σW,S,QW,hσ,hS,ht,hQ⟩=>by
  refine⟨σW,S,_,hσ,hS,ht,λx S1 v1 H1 e1 r1 iF h1=>⟨σW,S1,_,hσ.ext e1,iF,h1,λy S2 v2 H2 e2 r2 hS2 h2=>?_⟩⟩;refine hw H2 v1 v2 x y S2 _ _ (r1.ext e2) r2 hS2 h2 λz S3 v3 H3 e3 r3 hS3 h3=>?_;cases r3 with
  |bl k=>
   refine⟨k,rfl,?_⟩;cases k with
   |true=>
    refine⟨σW,S3,_,((hσ.ext e1).ext e2).ext e3,hS3,h3,λu S4 v4 H4 e4 r4 hS4 h4=>?_⟩;exact hw' H4 v2 v4 y u S4 Q QW ((r2.ext e3).ext e4) r4 hS4 h4 (hQ.from (((e1.trans e2).trans e3).trans e4))
   |false=>exact hQ _ S3 _ H3 ((e1.trans e2).trans e3) (.bl false) hS3 h3
  |_=>exact h3.elim
def XH (ha:JE X a ta) (hb:JE X b tb) (hc:JE X c tc) (hm:h_ [.LtE, .LtE] [b,c]=false:=by with_unfolding_all rfl):JE X (.Compare a [.LtE, .LtE] [b,c] pos) (vX sI sI ta tb tc):=Sn (sT.or Ea) ET (sT.or Ea) ET ha hb hc hm
def wV:WF:=λws S Q=>match ws with
 | [.int i]=>Q (.int i) S
 | [.bl b]=>Q (.int (if b then 1 else 0)) S
 |_=>False
def ZJ{K:ao}:vW K (λxs H Q=>(∃i,xs=[.int i]∧Q (.int i) H)∨ ∃k,xs=[.bl k]∧Q (.int (if k then 1 else 0)) H) wV:=λH vs ws S Q QW r hS h hQ=>by
 cases r with
 |nil=>exact h.elim
 |cons r1 r2=>
  cases r2 with
  |cons _ _=>cases r1<;>exact h.elim
  |nil=>
   cases r1 with
   |int i=>exact .inl ⟨i,rfl,hQ _ S _ H .refl (.int _) hS h⟩
   |bl b=>exact .inr ⟨b,rfl,hQ _ S _ H .refl (.int _) hS h⟩
   |_=>exact h.elim
def Yb (hg:Gl X "int") (hm:X.mg "int" =none) (ha:JA X (e::es) t)
  (he:ax (e::es) X.env=(false,aG e X.env)::ax es X.env) (hpl:(aZ pos (ax es X.env)).any (·.1)=false):JE X (.Call (.Name "int" p) (e::es) [] pos) (wB wV t):=
 IN O2 ZJ hg hm PyProof.Rows.boot_int ha (by decide) (by decide) he hpl
def Xt:WF:=λws S Q=>match ws with
 | [.int i, .int j]=>Q (.int (if j > i then j else i)) S
 |_=>False
def uI:WF:=λws S Q=>match ws with
 | [.int i, .int j]=>Q (.int (if j<i then j else i)) S
 |_=>False
def Wf{K:ao}:vW K (λxs H Q=>∃i j,xs=[.int i, .int j]∧Q (.int (if j<i then j else i)) H) uI:=λH vs ws S Q QW r hS h hQ=>by
 unfold uI at h;split at h
 ·cases r with
  |cons r1 r2=>cases r2 with
   |cons r2 r3=>cases r3;cases r1;cases r2;exact⟨_,_,rfl,hQ _ S _ H .refl (.int _) hS h⟩
 ·exact h.elim
def PQ{id:String}{r:List V→Hp→VK→Prop}{f:WF}{x:ah}(hc:X.calm=true→nO X (.builtin id) r) (hw:vW X.K r f) (hg:Gl X x) (hm:X.mg x=none) (hv:cG x=aa (.builtin id)) (ha:JA X (e::es) t) (hn:x≠ "__name__" ) (hdb:(x == ("__debug__" :ah))=false)
  (he:ax (e::es) X.env=(false,aG e X.env)::ax es X.env) (hpl:(aZ pos (ax es X.env)).any (·.1)=false) (hcl:X.calm=true):JE X (.Call (.Name x p) (e::es) [] pos) (wB f t):=λE hE=>Ku (hc hcl) hw hg hm hv ha hn hdb he hpl E hE
def Td (hg:Gl X "min") (hm:X.mg "min" =none) (ha:JA X (e::es) t)
  (he:ax (e::es) X.env=(false,aG e X.env)::ax es X.env) (hpl:(aZ pos (ax es X.env)).any (·.1)=false) (hcl:X.calm=true):JE X (.Call (.Name "min" p) (e::es) [] pos) (wB uI t):=PQ Wg Wf hg hm PyProof.Rows.boot_min ha (by decide) (by decide) he hpl hcl
def UM (hg:Gl X "all") (hm:X.mg "all" =none) (ha:JL X e tl)
  (he:ax [e] X.env=(false,aG e X.env)::ax [] X.env) (hpl:(aZ pos (ax [] X.env)).any (·.1)=false) (hcl:X.calm=true):JE X (.Call (.Name "all" p) [e] [] pos) (qR tQ tl):=λE hE=>M7 (Wt hcl) TN hg hm PyProof.Rows.boot_all ha (by decide) (by decide) he hpl E hE
def XE (hg:Gl X "tuple") (hm:X.mg "tuple" =none) (ha:JL X e tl)
  (he:ax [e] X.env=(false,aG e X.env)::ax [] X.env) (hpl:(aZ pos (ax [] X.env)).any (·.1)=false):JE X (.Call (.Name "tuple" p) [e] [] pos) (qR vx tl):=Li M2 TD hg hm kh ha (by decide) (by decide) he hpl
def Tz (hg:Gl X "tuple") (hm:X.mg "tuple" =none) (ha:JA X (e::es) t)
  (he:ax (e::es) X.env=(false,aG e X.env)::ax es X.env) (hpl:(aZ pos (ax es X.env)).any (·.1)=false):JE X (.Call (.Name "tuple" p) (e::es) [] pos) (wB rG t):=IN M2 X1 hg hm kh ha (by decide) (by decide) he hpl
def zn{K:ao}:∀T∈ ["int", "bool", "str", "tuple", "list"],∀A∈ ["NoneType", "bool", "int", "str", "tuple", "list"],fV K (.type A) (.type T)=aa (pi A T):=by
 intro T hT A hA;simp only[az,bq,or_false]at hT hA;rcases hT with rfl |rfl |rfl |rfl |rfl<;>rcases hA with rfl |rfl |rfl |rfl |rfl |rfl<;>rfl
def mK:mM:=λ_ _ _ _=>False
def Jw{P:bg}{w:aS}{K:ao}{mg:ah→Option aj}{base:aE}{f:ai}{fd:dt}{ps:List ah}{k:Nat}:oV P w K mg base (sj P w) k f fd ps (si K mK):=
 ⟨λvs H Q E ⟨_,_,_,_,_,_,h,_⟩=>h.elim,λA outer s H args us vs Q E _ _ _ _ ⟨_,_,_,_,_,_,h,_⟩=>h.elim⟩
def t7 (t:WL) (u:WE) (E:WX) (σ:mW) (S:lF) (Q:WK):Prop:=t E σ S λws S1=>u E σ S1 λy S2=>match y with
 | .int i=>match nE ws i with
  |some w=>Q w S2
  |none=>False
 |_=>False
def R5 (ha:JL X a la) (hb:JE X b tb) (hs:BO b:=by intro _ _;rfl):JE X (.Subscript a b pos) (t7 la tb):=λE hE=>
 (Nu Jg (ha E hE) (hb E hE) hs).mono λσ H Q ⟨σW,S,QW,hσ,hS,ht,hQ⟩=>⟨σW,S,_,hσ,hS,ht,λws S1 vs p H1 e1 fp ep np r1 iF h1=>⟨σW,S1,_,hσ.ext e1,iF,h1,λy S2 v2 H2 e2 r2 hS2 h2=>by
  cases r2 with
  |int i=>
   dsimp only at h2;split at h2
   ·obtain⟨v,ev,r⟩:=C_ (r1.ext e2) ‹_›;exact .inl ⟨p,vs,i,v,rfl,rfl, .of (e2.fr p _ ep np).1,ev,hQ _ S2 _ H2 (e1.trans e2) r hS2 h2⟩
   ·exact h2.elim
  |_=>exact h2.elim⟩⟩
def sk (t:WE) (u:WL) (E:WX) (σ:mW) (S:lF) (Q:List W→lF→Prop):Prop:=t E σ S λx S1=>u E σ S1 λys S2=>match x with
 | .ref a=>og S2 a λxs=>xs.length+ys.length≤sizeLine∧Q (xs++ys) S2
 |_=>False
def t_ (t u:WL) (E:WX) (σ:mW) (S:lF) (Q:List W→lF→Prop):Prop:=t E σ S λxs S1=>u E σ S1 λys S2=>xs.length+ys.length≤sizeLine∧Q (xs++ys) S2
def xn (t:WL) (u:WE) (E:WX) (σ:mW) (S:lF) (Q:List W→lF→Prop):Prop:=t E σ S λxs S1=>u E σ S1 λy S2=>match y with
 | .ref a=>og S2 a λys=>xs.length+ys.length≤sizeLine∧Q (xs++ys) S2
 |_=>False
def Q_ (ha:JE X a ta) (hb:JL X b lb):JL X (.BinOp a .Add b pos) (sk ta lb):=λE hE=>
 (z9 Bg (ha E hE) (hb E hE)).mono λσ H Q ⟨σW,S,QW,hσ,hS,ht,hQ⟩=>⟨σW,S,_,hσ,hS,ht,λw1 S1 v1 H1 e1 r1 iF h1=>⟨σW,S1,_,hσ.ext e1,iF,h1,λys S2 us q H2 e2 fq eq nq r2 hS2 h2=>by
  cases r1 with
  |ref p=>
   obtain⟨xs,ea,h⟩:=qm h2;obtain⟨vs,f1,q1⟩:=hS2 p _ ea;exact⟨p,q,vs,us,rfl,rfl,f1,eq,by rw[←q1.length,←r2.length];exact h.1,λp hp=>hQ _ S2 _ p _ ((e1.trans e2).trans (.new hp)) ((e1.trans e2).free hp) pH (hS2.free hp) ((q1.append r2).ext (.new (S:=S2) hp)) (hS2.new hp) h.2⟩
  |_=>exact h2.elim⟩⟩
def Gp (ha:JL X a la) (hb:JL X b lb):JL X (.BinOp a .Add b pos) (t_ la lb):=λE hE=>
 (z9 Bg (ha E hE) (hb E hE)).mono λσ H Q ⟨σW,S,QW,hσ,hS,ht,hQ⟩=>⟨σW,S,_,hσ,hS,ht,λxs S1 vs p H1 e1 fp ep np r1 iF h1=>⟨σW,S1,_,hσ.ext e1,iF,h1,λys S2 us q H2 e2 fq eq nq r2 hS2 h2=>
  ⟨p,q,vs,us,rfl,rfl,(e2.fr p _ ep np).1,eq,by rw[←r1.length,←r2.length];exact h2.1,λz hz=>hQ _ S2 _ z _ ((e1.trans e2).trans (.new hz)) ((e1.trans e2).free hz) pH (hS2.free hz) (((r1.ext e2).append r2).ext (.new (S:=S2) hz)) (hS2.new hz) h2.2⟩⟩⟩
def Xz (ha:JL X a la) (hb:JE X b tb):JL X (.BinOp a .Add b pos) (xn la tb):=λE hE=>
 (z9 Bg (ha E hE) (hb E hE)).mono λσ H Q ⟨σW,S,QW,hσ,hS,ht,hQ⟩=>⟨σW,S,_,hσ,hS,ht,λxs S1 vs p H1 e1 fp ep np r1 iF h1=>⟨σW,S1,_,hσ.ext e1,iF,h1,λy S2 v2 H2 e2 r2 hS2 h2=>by
  cases r2 with
  |ref q=>
   obtain⟨ys,ea,h⟩:=qm h2;obtain⟨us,f2,q2⟩:=hS2 q _ ea;exact⟨p,q,vs,us,rfl,rfl,(e2.fr p _ ep np).1,f2,by rw[←r1.length,←q2.length];exact h.1,λz hz=>hQ _ S2 _ z _ ((e1.trans e2).trans (.new hz)) ((e1.trans e2).free hz) pH (hS2.free hz) (((r1.ext e2).append q2).ext (.new (S:=S2) hz)) (hS2.new hz) h.2⟩
  |_=>exact h2.elim⟩⟩
def xA (t:WL) (u:WE) (E:WX) (σ:mW) (S:lF) (Q:List W→lF→Prop):Prop:=t E σ S λxs S1=>u E σ S1 λy S2=>match y with
 | .int k=>(-(2 ^ 63)≤k∧k<2 ^ 63∧xs.length*k.toNat≤sizeLine)∧Q (bj k.toNat xs).flatten S2
 |_=>False
theorem mF.rep{K:ao}{H:Hp}{ws:List W}{vs:List V}(h:mF K H ws vs):∀k:Nat,mF K H (bj k ws).flatten (bj k vs).flatten
 |0=> .nil
 |k+1=>by
  rw[cO,cO,d6,d6];exact h.append (mF.rep h k)
def QD (ha:JL X a la) (hb:JE X b tb):JL X (.BinOp a .Mult b pos) (xA la tb):=λE hE=>
 (z9 VW (ha E hE) (hb E hE)).mono λσ H Q ⟨σW,S,QW,hσ,hS,ht,hQ⟩=>⟨σW,S,_,hσ,hS,ht,λxs S1 vs p H1 e1 fp ep np r1 iF h1=>⟨σW,S1,_,hσ.ext e1,iF,h1,λy S2 v2 H2 e2 r2 hS2 h2=>by
  cases r2 with
  |int k=>
   obtain⟨⟨k1,k2,k3⟩,h⟩:=h2;exact⟨p,k,vs,rfl,rfl,(e2.fr p _ ep np).1,k1,k2,by rw[←r1.length];exact k3,λz hz=>hQ _ S2 _ z _ ((e1.trans e2).trans (.new hz)) ((e1.trans e2).free hz) pH (hS2.free hz) (((r1.ext e2).rep k.toNat).ext (.new (S:=S2) hz)) (hS2.new hz) h⟩
  |_=>exact h2.elim⟩⟩
def YC{K:ao}{H:Hp}{a:ai}{ns:List Int}{c:mM}{E:XK}(hO:Av H) (hS:oJ K H a (ns.map V.int)) (h:c [.cX ns] (λ_=>none) (λw _=>w= .bl true) (λ_ _=>False)):si K c [.ref a] H (λv _=>v= .bl true) E:=by
 have fz:wL K H a (ns.map V.int):=by
  obtain (hS |⟨o,hS⟩) |hS:=hS
  ·obtain z |⟨o,xs,z⟩:=hO a
   ·rw[hS]at z;cases z
   ·rw[hS]at z;cases z
  ·exact .inl ⟨o,hS⟩
  ·exact .inr hS
 refine⟨[.cX ns],λ_=>none,_,λ_ _=>False, .one (.cX fz),(λa o e=>by cases e),h,λw S v H' e r hS' q=>?_,λ_ _ _ _ _ _ z=>z.elim⟩
 subst q;cases r;rfl
def Q8:W2
 | .bW xs, .int k,S,Q=>(xs≠ []∧ -(2 ^ 63)≤k∧k<2 ^ 63∧xs.length*k.toNat≤sizeLine)∧Q (.bW (bj k.toNat xs).flatten) S
 |_,_,_,_=>False
noncomputable def pN (gA:List (List Int×W)) (k:List Int):Option W:=(gA.find? λkv=>decide (kv.1=k)).map (·.2)
noncomputable def vO (gA:List (List Int×W)) (k:List Int) (v:W):List (List Int×W):=
 if(gA.any λkv=>decide (kv.1=k))=true then gA.map (λkv=>if kv.1=k then(kv.1,v) else kv) else gA++[(k,v)]
noncomputable def qH:List W→Option (List Int)
 | []=>aa []
 | .int i::ws=>(qH ws).map (i:: ·)
 |_=>none
noncomputable def sS:W→Option (List Int)
 | .bW ws=>qH ws
 |_=>none
def t4 (S:lF) (a:ai) (P:List (List Int×W)→Prop):Prop:=match S a with
 |some (.dct gA)=>P gA
 |_=>False
def WB{P:List (List Int×W)→Prop}(h:t4 S a P):∃gA,S a=aa (.dct gA)∧P gA:=by
 unfold t4 at h;split at h
 ·exact⟨_, ‹_›,h⟩
 ·exact h.elim
def Gh{P:List (List Int×W)→Prop}(e:S a=aa (.dct gA)):t4 S a P=P gA:=by unfold t4;rw[e]
section
variable {K:ao}{H:Hp}
abbrev pq (K:ao) (H:Hp):List (List Int×W)→List (List Key×V)→Prop:=aN λq p=>p.1=q.1.map Sum.inl∧nN K H q.2 p.2
theorem AN:∀{a b:List Int},a.map (Sum.inl:Int→Key)=b.map Sum.inl→a=b
 | [],[],_=>rfl
 | [],_::_,h=>by simp at h
 |_::_,[],h=>by simp at h
 |x::xs,y::ys,h=>by
  simp only[aC,fG,Sum.inl.injEq]at h;rw[h.1,AN h.2]
def pq.val (r:pq K H gA ps) (k:List Int):(∀w,pN gA k=aa w→ ∃v,rL ps (k.map Sum.inl)=aa v∧nN K H w v)∧(pN gA k=none→rL ps (k.map Sum.inl)=none):=by
 induction r with
 |nil=>exact⟨λw h=>by simp [pN]at h,λ_=>rfl⟩
 | @cons q p gA ps h t ih=>
  by_cases hk:q.1=k
  ·have e:p.1=k.map Sum.inl:=by rw[h.1,hk]
   rw[CN e];have ew:pN (q::gA) k=aa q.2:=by simp [pN,cc,hk]
   rw[ew];exact⟨λw z=>by cases z;exact⟨_,rfl,h.2⟩,λz=>by cases z⟩
  ·have e:¬p.1=k.map Sum.inl:=by rw[h.1];exact λz=>hk (AN z)
   rw[CC e];have ew:pN (q::gA) k=pN gA k:=by simp [pN,cc,hk]
   rw[ew];exact ih
def pq.any (r:pq K H gA ps) (k:List Int):(ps.any λkv=>decide (kv.1=k.map Sum.inl))=gA.any λkv=>decide (kv.1=k):=by
 induction r with
 |nil=>rfl
 | @cons q p gA ps h t ih=>
  rw[fu,fu,ih];congr 1;apply decide_eq_decide.mpr;rw[h.1];exact⟨AN,λz=>by rw[z]⟩
def pq.bQ (r:pq K H gA ps) (k:List Int) (rw':nN K H w v):pq K H (vO gA k w) (tv ps (k.map Sum.inl) v):=by
 unfold vO tv;rw[r.any k];split
 ·rename_i hany;clear hany
  induction r with
  |nil=>exact .nil
  | @cons q p gA ps h t ih=>
   rw[aC,aC];refine .cons ?_ ih;by_cases hk:q.1=k
   ·rw[if_pos hk,if_pos (by rw[h.1,hk])];exact⟨h.1,rw'⟩
   ·rw[if_neg hk,if_neg (by rw[h.1];exact λz=>hk (AN z))];exact h
 ·rename_i hany;clear hany
  induction r with
  |nil=>exact .cons ⟨rfl,rw'⟩ .nil
  |cons h t ih=>exact .cons h ih
def pq.length (r:pq K H gA ps):gA.length=ps.length:=fQ r
theorem J_:∀{ws:List W}{vs:List V}{k:List Int},mF K H ws vs→qH ws=aa k→vs=(k.map (Sum.inl:Int→Key)).map kV
 | [],_,_, .nil,e=>by cases e;rfl
 |w::ws,_,k, .cons r rs,e=>by
  cases r with
  |int i=>
   cases q:qH ws with
   |none=>simp [qH,q]at e
   |some ks=>
    simp only[qH,q,gK,bJ]at e;subst e;rw[J_ rs q];rfl
  |_=>simp [qH]at e
def KU (r:nN K H w v) (e:sS w=aa k):∃b,v= .ref b∧H b=aa (.bW ((k.map (Sum.inl:Int→Key)).map kV)):=by
 cases r with
 |bW f hs=>exact⟨_,rfl,by rw[f,J_ hs e]⟩
 |_=>simp [sS]at e
def PC (hS:mG K H S) (e:S a=aa (.dct gA)) (ry:nN K H wy y) (ek:sS wy=aa k):∃o,sA H a y o∧(pN gA k=none→o=none)∧ ∀w,pN gA k=aa w→ ∃v,o=aa v∧nN K H w v:=by
 obtain⟨ps,e1,r⟩:=hS a _ e;obtain⟨b,rfl,eb⟩:=KU ry ek;have rv:=pq.val r k;exact⟨rL ps (k.map Sum.inl), .t e1 eb,rv.2,rv.1⟩
end
def xq (neg:Bool):W2:=λy x S Q=>match x with
 | .ref a=>match sS y with
  |some k=>t4 S a λgA=>Q (.bl (if neg then !(pN gA k).isSome else(pN gA k).isSome)) S
  |none=>False
 |_=>False
def Ut:W2:=λx y S Q=>match x with
 | .ref a=>match sS y with
  |some k=>t4 S a λgA=>match pN gA k with
   |some w=>Q w S
   |none=>False
  |none=>False
 |_=>False
section
variable {X:Cx}{a o:Expr}
def DX (neg:Bool):R2:=λy x H Q=>∃a o,x= .ref a∧sA H a y o∧Q (.bl (if neg then !o.isSome else o.isSome)) H
def ZV (hu:X.A.units+1<cLine):oh X (bB .In) (DX false):=by
 intro ag s σ H x y v u Q I rx ry h;obtain⟨a,o,rfl,g,q⟩:=h;cases ry;exact RQ hu I g rx λs3 I3=>⟨.bl o.isSome,H,I3,rfl,q⟩
def PR (hu:X.A.units+1<cLine):oh X (bB .NotIn) (DX true):=by
 intro ag s σ H x y v u Q I rx ry h;obtain⟨a,o,rfl,g,q⟩:=h;cases ry;exact Qq hu I g rx λs3 I3=>⟨.bl (!o.isSome),H,I3,rfl,q⟩
def Iw{K:ao}{neg:Bool}:qX K (DX neg) (xq neg):=λH x y wx wy S Q QW rx ry hS h hQ=>by
 unfold xq at h;split at h
 ·split at h
  ·rename_i k ek;obtain⟨gA,ea,h⟩:=WB h;cases ry;obtain⟨o,g,g0,g1⟩:=PC hS ea rx ek;have eo:o.isSome=(pN gA k).isSome:=by
    cases q:pN gA k with
    |none=>rw[g0 q];rfl
    |some w=>obtain⟨v,ev,_⟩:=g1 w q;rw[ev];rfl
   exact⟨_,o,rfl,g,by rw[eo];exact hQ _ S _ H .refl (.bl _) hS h⟩
  ·exact h.elim
 ·exact h.elim
end
def GN:V→List V→Hp→VK→Prop:=λx vs H Q=>∃z:ah,x= .str z∧vs=[]∧z.length≤5592405∧Q (.str (eG z)) H
def Zm:sQ X "str.upper" GN:=by
 intro ag s σ H x vs v us Q I rx rv h;obtain⟨z,rfl,rfl,hz,q⟩:=h;obtain⟨t,rfl⟩:=rx;cases rv;exact SCL.upper hz λ_=>⟨.str (eG z),H,I.tok _,⟨_,rfl⟩,q⟩
def yV:rq:=λw ws S Q=>match w,ws with
 | .str z,[]=>z.length≤5592405∧Q (.str (eG z)) S
 |_,_=>False
def Uu{K:ao}:yj K GN yV:=λH x w vs ws S Q QW r rs hS h hQ=>by
 cases r with
 |str z=>
  cases rs with
  |nil=>exact⟨z,rfl,rfl,h.1,hQ _ S _ H .refl (.str _) hS h.2⟩
  |cons _ _=>exact h.elim
 |_=>exact h.elim
def SB (ho:JE X o to) (hbase:cP o "upper" X.env (aG o X.env)=aG o X.env) (hline:(apos.endLine == cpos.line)=true):JE X (.Call (.Attribute o "upper" apos) [] [] cpos) (wM ve yV to ae):=
 Qn lM PySem.F.slot_str_upper PySem.F.type_str_upper N' Zm Uu ho hbase hline
theorem Hk:∀(ns:List Int) (n:Nat),n≤ns.length→gZ (λi=>ns.getD i 0) n=(ns.take n).sum
 |ns,0,_=>by simp [gZ]
 |ns,n+1,h=>by
  rw[gZ,Hk ns n (by lia),mn,List.sum_append];congr 1;rw[bv,aR (by lia)];simp
def ZQ (hc:X.calm=true):nO X (.builtin "sum") (λxs H Q=>∃(p:ai) (ns:List Int),xs=[.ref p]∧oJ X.K H p (ns.map V.int)∧Q (.int ns.sum) H):=by
 intro ag s σ H xs us Q I r h;obtain⟨p,ns,rfl,hq,q⟩:=h;obtain⟨u,rfl,rx⟩:=tZ r;cases rx;obtain⟨d5,r',pl,hz⟩:=I.list hq;have hlen:ns.length=d5.length:=by have:=r'.length;rw[ay]at this;exact this
 have hp:p<s.heap.objs.size:=by obtain⟨o,n,e,_⟩:=pl;exact aO e
 have hd:X.A.in1.handled=none:=I.ok.hd hc;have get:∀(i:Nat) (v:aj),d5.toArray[i]? =aa v→ ∃t,v= .int (ns.getD i 0) t:=λi v e=>by
  have e':d5[i]? =aa v:=by simpa using e
  have hi:i<ns.length:=by rw[hlen];exact(b6.mp e').1
  obtain⟨u,hu,ru⟩:=r'.get (i:=i) (x:= .int (ns.getD i 0)) (by rw[aT,aR hi,bv,aR hi];rfl);rw[e']at hu;cases hu;exact ru
 refine call_sum_walkG (fv pl.isList ?_);refine⟨s.heap.objs.size,_,_,_,_,_,λi=>ns.getD i 0,rfl,jm hd _ p (bR hp) d5.toArray,⟨⟨_,bI _ rfl,rfl,rfl⟩,pl.isList.push _⟩,?_,λi v hP=>get i v hP,λh' tk t' hk=>?_⟩
 ·intro b hb;have hsz:∀o:aH,(s.heap.push o).objs.size=s.heap.objs.size+1:=λo=>c7 ..;simp only[az,bq,or_false]at hb;show b<(s.heap.push _).objs.size;rw[hsz];obtain rfl |rfl:=hb
  ·exact Nat.lt_succ_self _
  ·exact Nat.lt_succ_of_lt hp
 ·have e:gZ (λi=>ns.getD i 0) d5.toArray.size=ns.sum:=by
   rw[bh,←hlen,Hk ns _ (aA _),jp]
  have I1:mC X ag σ H { s with heap:=h',toks:=tk }:=I.kept λb o e=>hk b o (λz=>by
   have z':b=s.heap.objs.size:=by simpa using z
   rw[z']at e;exact absurd (aO e) (cR _)) (aP _ e)
  exact⟨.int _,H,I1,⟨t',by rw[e]⟩,q⟩
def wo (ws:List W) (S:lF) (Q:WK):Prop:=match qH ws with
 |some ns=>Q (.int ns.sum) S
 |none=>False
theorem Ia{K:ao}{H:Hp}:∀{ws:List W}{vs:List V}{ns:List Int},mF K H ws vs→qH ws=aa ns→vs=ns.map V.int
 | [],_,_, .nil,e=>by cases e;rfl
 |w::ws,_,ns, .cons r rs,e=>by
  cases r with
  |int i=>
   cases q:qH ws with
   |none=>simp [qH,q]at e
   |some ks=>
    simp only[qH,q,gK,bJ]at e;subst e;rw[Ia rs q];rfl
  |_=>simp [qH]at e
def VC{K:ao}:xi K (λxs H Q=>∃(p:ai) (ns:List Int),xs=[.ref p]∧oJ K H p (ns.map V.int)∧Q (.int ns.sum) H) wo:=λH a vs ws S Q QW ea na r hS h hQ=>by
 unfold wo at h;split at h
 ·rename_i ns e;have:=Ia r e;subst this;exact⟨a,ns,rfl, .of ea,hQ _ S _ H .refl (.int _) hS h⟩
 ·exact h.elim
def U' (hg:Gl X "sum") (hm:X.mg "sum" =none) (ha:JL X e tl)
  (he:ax [e] X.env=(false,aG e X.env)::ax [] X.env) (hpl:(aZ pos (ax [] X.env)).any (·.1)=false) (hcl:X.calm=true):JE X (.Call (.Name "sum" p) [e] [] pos) (qR wo tl):=λE hE=>
 M7 (ZQ hcl) VC hg hm PyProof.Rows.boot_sum ha (by decide) (by decide) he hpl E hE
def VM:jb (.type "list") "keys" =pure none:=by rw[typeLookup_type,builtinLookup_eq_fast];kernel_rfl
def NA:entryFor table "dict.update.loop" =aa cC.«dict.update.loop» :=entryFor_of_tree (by kernel_rfl)
def CG:plainId "dict.update.loop" =true:=by decide +kernel
section
variable {prog:bg}{w:aS}{A:bt}{E:aj→am→Prop}{s:am}
def Rx{Q:Option aj→am→Prop}
  (hx : s.heap.get? a = aa o) (hc : o.cls = .type "list") (hdat : o.data = .seq xs k) (hd : o.dict = none) (hmiss : jb (.type "list") name = pure none) (hname : (["__module__", "__name__", "__qualname__", "__doc__", "__annotations__"] : List ah).contains name = false) (hA : A.handled = none)
  (h:∀h' tk,(∀b o,s.heap.get? b=aa o→h'.get? b=aa o)→Q none { s with heap:=h',toks:=tk }) (hsz:name.length+100≤sizeLine:=by size_fits) :
  av (aB prog w) A (getAttr? (.ref a) name) Q E s:=by
 obtain⟨c,dct,dat,sl⟩:=o;simp only at hc hdat hd;subst hc hdat hd;obtain⟨hp,g,d,tk,os⟩:=s;have hT:∀tk',(⟨hp,g,d,tk',os⟩:am).TypeIs (.ref a) "list" :=λ_=>⟨_,hx,rfl⟩;have f1:=sub_AttributeError;have f3:=i7.lookup;have f4:=i7.bind (.ref a);have f5:=am_list_getattr_none;unfold getAttr? getAttrBy? getAttrBy
 repeat (any_goals (first |assumption |exact hT _ | ((with_reducible show av _ _ (call (aj.builtin "list.__getattribute__") _ _) _ _ _);refine fD i7 (hT _) am_entry_list_getattribute (F.args_list_getattribute_2 _ _) (meets_getattribute_miss_list a xs k sl name _ hmiss hname hsz) ⟨hx,hA,λh' tk' e hx'=>?_⟩) |wp_step))
 obtain⟨t',u',he⟩:=hx'.there;have hTe:∀tk',(⟨h',g,d,tk',os⟩:am).TypeIs (.ref e) "AttributeError" :=λ_=>⟨_,he,rfl⟩;show av _ _ (ln _ _ _ _ _ _ _) _ _ _;unfold ln
 repeat (any_goals (first |assumption |exact hTe _ |wp_step))
 exact h h' tk' hx'.keeps
end
section
variable {prog:bg}{w:aS}{A:bt}{R:Result→am→Prop}{I l d:ai}{items:Array aj}
noncomputable def F7 (xs:List (List Key×ai×aj)) (ps:List (List Key×ai)):List (List Key×ai×aj):=ps.foldl (λxs p=>gh xs p.1 p.2 (.bool true)) xs
def Wr (hu:(cI (qN prog w)).room A.in1) (hh:A.in1.handled=none) (hne:l≠I) (hdI:d≠I) (hdl:d≠l) (h0:aE) (hd0:h0.get? d=none) (hI0:h0.get? I=none) (ps:List (List Key×ai)) (hps:ps.length=items.size)
  (hp:∀(i:Nat) (p:List Key×ai) (v:aj),ps[i]? =aa p→items[i]? =aa v→ ∃(t:ai) (o:aH) (n:Nat),v= .ref t∧h0.get? t=aa o∧o.cls= .type "tuple" ∧o.data= .seq #[.ref p.2, .bool true] n)
  (hk:∀p∈ps,(cI (qN prog w)).is h0 p.1 p.2) :
  ∀(k i:Nat) (s:am) (xs:List (List Key×ai×aj)),items.size - i=k→i≤items.size→s.heap.IsListIter I l i→s.heap.IsList l items→(∀b o,h0.get? b=aa o→s.heap.get? b=aa o)→s.heap.DictOfH (cI (qN prog w)) d xs→xs.length+(items.size - i)≤sizeLine→
  (∀h' tk,(∀b o,h0.get? b=aa o→h'.get? b=aa o)→h'.DictOfH (cI (qN prog w)) d (F7 xs (ps.drop i))→R (.ok (.ret .none)) { s with heap:=h',toks:=tk })→
  eD (aB prog w) A (.builtin "dict.update.loop" ⟨[.ref d, .ref I,cJ i, .none],[]⟩) R s:=by
 have W:=jm (prog:=prog) (w:=w) (A:=A.in1) hh I l hne items;intro k
 induction k with
 |zero=>
  intro i s xs hki hi hit hl hold hd hsz hR;have hin:i=items.size:=by lia
  subst hin;refine jZ NA ?_;rw[kr CG _];show av _ A.in1 (cq (.ref I) >>= _) _ _ s;refine au (W.done s _ _ ⟨hit,hl⟩ λh' tk hk'=>?_);have hd':h'.DictOfH (cI (qN prog w)) d xs:=by
   obtain⟨q,es,ep,q1,q2,q3,q4,q5,q6⟩:=hd;refine⟨q,es,ep,hk' d q (λz=>hdI (bi.mp z)) q1,q2,q3,q4,λx hx=>?_,q6⟩;obtain⟨ob,d5,m,k1,k2,k3,k4⟩:=q5 x hx;refine⟨ob,d5,m,hk' _ _ (λz=>?_) k1,k2,k3,k4⟩;obtain⟨oi,hi1,hi2,_⟩:=hit;rw[bi.mp z,hi1]at k1;cases k1;rw[k2]at hi2;exact absurd hi2 (by decide)
  show av _ A.in1 (cC.Dict.addKeywords d [] >>= _) _ _ _;refine au (aM (aM (hR h' tk (λb o e=>hk' b o (λz=>by rw[bi.mp z,hI0]at e;cases e) (hold b o e)) ?_)))
  rw[fH (by lia)];exact hd'
 |succ k ih=>
  intro i s xs hki hi hit hl hold hd hsz hR;have hlt:i<items.size:=by lia
  refine jZ NA ?_;rw[kr CG _];show av _ A.in1 (cq (.ref I) >>= _) _ _ s;refine au (W.item i s _ _ hlt ⟨hit,hl⟩ λv h' tk hP hst' hk'=>?_);obtain⟨p,hpi⟩:∃p,ps[i]? =aa p:=⟨ps[i],aR (by lia)⟩;obtain⟨t,o,n,rfl,ho,hc,hdat⟩:=hp i p v hpi hP;have ho':=hk' t o (λz=>by rw[bi.mp z]at ho;rw[hI0]at ho;cases ho) (hold t o ho)
  have hkey:(cI (qN prog w)).is h' p.1 p.2:=by
   obtain⟨ob,d5,m,k1,k2,k3,k4⟩:=hk p (aJ hpi);exact⟨ob,d5,m,hk' _ _ (λz=>by rw[bi.mp z]at k1;rw[hI0]at k1;cases k1) (hold _ _ k1),k2,k3,k4⟩
  have hd':h'.DictOfH (cI (qN prog w)) d xs:=by
   obtain⟨q,es,ep,q1,q2,q3,q4,q5,q6⟩:=hd;refine⟨q,es,ep,hk' d q (λz=>hdI (bi.mp z)) q1,q2,q3,q4,λx hx=>?_,q6⟩;obtain⟨ob,d5,m,k1,k2,k3,k4⟩:=q5 x hx;refine⟨ob,d5,m,hk' _ _ (λz=>?_) k1,k2,k3,k4⟩;obtain⟨oi,hi1,hi2,_⟩:=hit;rw[bi.mp z,hi1]at k1;cases k1;rw[k2]at hi2;exact absurd hi2 (by decide)
  show av _ A.in1 (holding [.ref t] _ >>= _) _ _ _;refine au (gw ?_);refine au (wpAny_tryCatch ?_);unfold cC.Dict.pairItems;refine au (gc (T:= "tuple") ⟨o,ho',hc⟩ ?_);rw[if_pos (by decide)];refine au (dq ho' hdat ?_);refine aM ?_;show av _ A.in1 (holding [.ref p.2, .bool true] (dictSet d (.ref p.2) (.bool true))) _ _ _;refine gw (wpAny_dictSet_heap (hsz:=by lia) hu hkey hd' λh2 hd2 hs2=>?_)
  refine aM ⟨plainId_quiet CG _,?_⟩;have ei:((i:Int)+1)=((i+1:Nat):Int):=by lia
  rw[ei];have hln:(gh xs p.1 p.2 (fe true)).length≤xs.length+1:=by
   unfold gh;split<;>simp
  have hst2:=W.frame (i+1) h' h2 hst' λb hb o e=>by
   have hbd:b≠d:=by
    obtain z |z:=az.mp hb
    ·rw[z];exact bz hdI
    ·rw[bi.mp z];exact bz hdl
   exact(hs2.2 b hbd).trans e
  refine ih (i+1) _ _ (by lia) (by lia) hst2.1 hst2.2 (λb o e=>?_) hd2 (by lia) λh3 tk3 old3 hd3=>?_
  ·have hbd:b≠d:=λz=>by rw[z,hd0]at e;cases e
   have hbI:b∉ [I]:=λz=>by rw[bi.mp z,hI0]at e;cases e
   exact(hs2.2 b hbd).trans (hk' b o hbI (hold b o e))
  ·refine hR h3 tk3 old3 ?_;have ed:ps.drop i=p::ps.drop (i+1):=by
    have hi':i<ps.length:=by lia
    rw[ge hi'];rw[aR hi']at hpi;cases hpi;rfl
   rw[ed];exact hd3
end
def AK (H:Hp) (q:List Key) (v:V):Prop:=∃t b,v= .ref t∧H t=aa (.bW [.ref b, .bl true])∧H b=aa (.bW (q.map kV))
noncomputable def xm (qs:List (List Key)):List (List Key×V):=qs.foldl (λgA q=>tv gA q (.bl true)) []
theorem Iv:∀(qs:List (List Key)) (gA:List (List Key×V)),(qs.foldl (λgA q=>tv gA q (V.bl true)) gA).length≤gA.length+qs.length
 | [],gA=>by simp
 |q::qs,gA=>by
  have h1:=RR gA q (V.bl true);have h2:=Iv qs (tv gA q (.bl true));rw[eX,aU];lia
theorem KT.fold:∀(ps:List (List Key×ai)) {gA:List (List Key×V)}{xs:List (List Key×ai×aj)},KT H gA xs→(∀p∈ps,H p.2=aa (.bW (p.1.map kV)))→KT H ((ps.map λp=>p.1).foldl (λgA q=>tv gA q (.bl true)) gA) (F7 xs ps)
 | [],_,_,r,_=>r
 |p::ps,gA,xs,r,h=>by
  rw[aC,eX];exact KT.fold ps (r.bQ p.1 (h p aL) rfl) λp' hp'=>h p' (aI _ hp')
theorem M6 (ok:n9 P w H h):∀{qs:List (List Key)}{vs:List V}{d5:List aj},aN (AK H) qs vs→mR vs d5→ ∃ps:List (List Key×ai),(ps.map λp=>p.1)=qs∧
  (∀(i:Nat) (p:List Key×ai) (v:aj),ps[i]? =aa p→d5[i]? =aa v→ ∃(t:ai) (o:aH) (n:Nat),v= .ref t∧h.get? t=aa o∧o.cls= .type "tuple" ∧o.data= .seq #[.ref p.2, .bool true] n)∧ ∀p∈ps,H p.2=aa (.bW (p.1.map kV))
 |_,_,_, .nil, .nil=>⟨[],rfl,(λi p v h=>by simp at h),λ_ h=>nomatch h⟩
 |_,_,_, .cons (a:=q) hq hs, .cons hv hvs=>by
  obtain⟨ps,e,h1,h2⟩:=M6 ok hs hvs;obtain⟨t,b,rfl,ht,hb⟩:=hq;refine⟨(q,b)::ps,by rw[aC,e],λi p v hp hv'=>?_,λp hp=>?_⟩
  ·cases i with
   |zero=>
    simp only[jT,bJ]at hp hv';subst hp hv';obtain⟨_,d5,r,o,g1,g2,n,g3⟩:=(show nu P w H h t (.bW [.ref b, .bl true]) from ok t _ ht);cases r with
    |cons r1 r2=>
     cases r2 with
     |cons r3 r4=>
      cases r4;cases r1;cases r3;exact⟨t,o,n,hv,g1,g2,by simpa using g3⟩
   |succ i=>
    simp only[bT]at hp hv';exact h1 i p v hp hv'
  ·obtain rfl |hp:=az.mp hp
   ·exact hb
   ·exact h2 p hp
def VU (hc:X.calm=true) (hu:X.A.units+2<cLine):nO X (.type "dict") (λxs H Q=>∃(l:ai) (vs:List V) (qs:List (List Key)),xs=[.ref l]∧oJ X.K H l vs∧aN (AK H) qs vs∧qs.length≤sizeLine∧ ∀d,H d=none→Q (.ref d) (nM H d (.dT (xm qs)))):=by
 intro ag s σ H xs us Q I r h;obtain⟨l,vs,qs,rfl,hq,hp,hlen,q⟩:=h;obtain⟨u,rfl,rx⟩:=tZ r;cases rx;obtain⟨d5,r',pl,hz⟩:=I.list hq;have hd:X.A.in1.handled=none:=I.ok.hd hc;have hl:l<s.heap.objs.size:=by obtain⟨o,n,e,_⟩:=pl;exact aO e
 refine callType_codes (Q₁:=λobj s₁=>obj= .ref s.heap.objs.size∧s₁={ s with heap:=s.heap.push { cls:= .type "dict",data:= .dict #[] } }) F.kt_called_dict (F.kt_typeCall_dict_1 _) F.entry_dict_init (kt_code_dict_new _ ⟨rfl,rfl⟩) ?_;rintro obj s₁ ⟨rfl,rfl⟩;have hT:({ s with heap:=s.heap.push { cls:= .type "dict",data:= .dict #[] } }:am).TypeIs (.ref s.heap.objs.size) "dict" :=⟨_,bI _ rfl,rfl⟩;refine⟨hT,F.args_dict_init_2 _ _,?_⟩;unfold cC.«dict.__init__»;refine au ?_;unfold cC.Dict.selfAndRest;refine au (wpAny_notOrdered_dict hT ?_);show av _ _ (pure (s.heap.objs.size,[bM l])) _ _ _;refine aM ?_;show av _ _ (kx "dict.__init__" s.heap.objs.size (.ref l) [] .none) _ _ _;unfold kx;obtain⟨ol,nl,hol,hcl,hdl,hnl⟩:=pl;have hol1:=aP { cls:= .type "dict",data:= .dict #[] } hol;obtain⟨ps,eqs,hps,hks⟩:=M6 I.cD hp r';have hplen:ps.length=d5.toArray.size:=by
  have h1:=congrArg dH eqs;have h2:=fQ hp;have h3:=r'.length;rw[ay]at h1;rw[bh];lia
 refine au (gc (T:= "list") ⟨ol,hol1,hcl⟩ ?_);dsimp only;rw[if_pos (by decide)];refine au (Rx hol1 hcl hnl hdl VM (by decide +kernel) hd λh1 tk1 kp1=>?_);rw[if_pos (show(none:Option aj).isNone=true from rfl)];refine au (eR ?_);have hl1:h1.IsList l d5.toArray:=⟨ol,kp1 _ _ hol1,hcl,nl,hnl⟩;refine au (fv hl1 ?_);refine aM ⟨plainId_quiet CG _,?_⟩;have hd1:h1.get? s.heap.objs.size=aa { cls:= .type "dict",data:= .dict #[] }:=kp1 _ _ (bI _ rfl);have hdlt:=aO hd1;have hI0:s.heap.get? h1.objs.size=none:=by
  cases z:s.heap.get? h1.objs.size with
  |none=>rfl
  |some ob=>exact absurd (aO (kp1 _ _ (aP _ z))) (cR _)
 have hd0:s.heap.get? s.heap.objs.size=none:=by
  cases z:s.heap.get? s.heap.objs.size with
  |none=>rfl
  |some ob=>exact absurd (aO z) (cR _)
 refine Wr (A:=X.A.in1) (I:=h1.objs.size) (l:=l) (d:=s.heap.objs.size) (items:=d5.toArray) ?_ hd (bR (Nat.lt_trans hl hdlt)) (bR hdlt) (cV hl) s.heap hd0 hI0 ps hplen (λi p v h1 h2=>hps i p v h1 (by simpa using h2)) (λp hp=>BB I.cD (hks p hp)) _ 0 _ [] rfl (aQ _) ?_ ?_ ?_ ?_ ?_ λh' tk' old' hd'=>?_
 ·exact jQ (A:=X.A.in1) (show X.A.in1.units+1<cLine from by have:X.A.in1.units=X.A.units+1:=rfl;lia)
 ·exact⟨_,bI _ rfl,rfl,rfl⟩
 ·exact hl1.push _
 ·exact λb o e=>aP _ (kp1 _ _ (aP _ e))
 ·refine⟨_, #[],0,aP _ hd1,?_,rfl,rfl,(λx hx=>nomatch hx),List.nodup_nil⟩
  first |exact⟨rfl,rfl⟩ |exact rfl |exact .inl rfl | (unfold aH.ExactDict;simp)
 ·rw[db,←hplen];have h1:=congrArg dH eqs;rw[ay]at h1;lia
 ·rw[dM]at hd';obtain⟨o',es,ep,g1,g2,g3,g4,g5,g6⟩:=hd';have hl0:=Iv qs [];have kt:KT H (xm qs) (F7 [] ps):=by
   have:=KT.fold ps (show KT H [] [] from .nil) hks;rw[eqs]at this;exact this
  refine⟨rfl, .ref s.heap.objs.size,_,I.laid (t':=tk') (o:= .dT (xm qs)) old' (aA _) ⟨?_,?_,_,kt.keeps λb ys eb=>?_,o',es,ep,g1,g2,g3,g4,g6⟩,rfl,q _ (I.cD.fresh (aA _))⟩
  ·simp only[db,bF]at hl0;exact aY hl0 hlen
  ·have:=I.big;exact beq_eq_false_iff_ne.mpr (cV this)
  ·rw[oj (pS eb (I.cD.fresh (aA _)))];exact eb
noncomputable def rm:List W→Option (List (List Int))
 | []=>aa []
 | .bW [k, .bl true]::ws=>match sS k,rm ws with
  |some q,aa qs=>aa (q::qs)
  |_,_=>none
 |_=>none
noncomputable def uG (qs:List (List Int)):List (List Int×W):=qs.foldl (λgA k=>vO gA k (.bl true)) []
def vU (ws:List W) (S:lF) (Q:WK):Prop:=match rm ws with
 |some qs=>qs.length≤1000000∧ ∀a,S a=none→Q (.ref a) (bQ S a (.dct (uG qs)))
 |none=>False
theorem Jq{K:ao}{H:Hp}:∀{ws:List W}{vs:List V}{qs:List (List Int)},mF K H ws vs→rm ws=aa qs→aN (AK H) (qs.map λq=>q.map Sum.inl) vs
 | [],_,_, .nil,e=>by
  simp only[rm,bJ]at e;subst e;exact .nil
 |w::ws,_,qs, .cons r rs,e=>by
  cases w with
  |bW us=>
   obtain _ |⟨k,_ |⟨b,_ |⟨x,us⟩⟩⟩:=us
   ·simp [rm]at e
   ·simp [rm]at e
   ·cases b with
    |bl b=>
     cases b with
     |true=>
      simp only[rm]at e;cases e1:sS k with
      |none=>rw[e1]at e;simp at e
      |some q=>
       cases e2:rm ws with
       |none=>rw[e1,e2]at e;simp at e
       |some qs'=>
        rw[e1,e2]at e;simp only[bJ]at e;subst e;cases r with
        | @bW t vs' _ ft hs=>
         cases hs with
         |cons r1 r2=>
          cases r2 with
          |cons r3 r4=>
           cases r4;cases r3;obtain⟨b,rfl,eb⟩:=KU r1 e1;exact .cons ⟨t,b,rfl,ft,eb⟩ (Jq rs e2)
     |false=>simp [rm]at e
    |_=>simp [rm]at e
   ·cases b<;>simp [rm]at e
  |_=>simp [rm]at e
theorem KC{K:ao}{H:Hp}:∀(qs:List (List Int)) {gA:List (List Int×W)}{ps:List (List Key×V)},pq K H gA ps→pq K H (qs.foldl (λgA k=>vO gA k (.bl true)) gA) ((qs.map λq=>q.map Sum.inl).foldl (λgA q=>tv gA q (.bl true)) ps)
 | [],_,_,r=>r
 |q::qs,_,_,r=>by
  rw[aC,eX,eX];exact KC qs (r.bQ q (.bl true))
def Sl{K:ao}:xi K (λxs H Q=>∃(l:ai) (vs:List V) (qs:List (List Key)),xs=[.ref l]∧oJ K H l vs∧aN (AK H) qs vs∧qs.length≤sizeLine∧ ∀d,H d=none→Q (.ref d) (nM H d (.dT (xm qs)))) vU:=λH a vs ws S Q QW ea na r hS h hQ=>by
 unfold vU at h;split at h
 ·rename_i qs e;have hp:=Jq r e;refine⟨a,vs,_,rfl, .of ea,hp,?_,λd hd=>?_⟩
  ·rw[ay,dY];lia
  ·have rd:pq K H (uG qs) (xm (qs.map λq=>q.map Sum.inl)):=KC qs (show pq K H [] [] from .nil);have x:nJ H S (nM H d (.dT (xm (qs.map λq=>q.map Sum.inl)))) (bQ S d (.dct (uG qs))):= .newS hd;refine hQ (.ref d) (bQ S d (.dct (uG qs))) (.ref d) _ x (.ref d) (λb o q=>?_) (h.2 d (hS.free hd));by_cases hb:b=d
   ·subst hb;rw[mV]at q;cases q;exact⟨_,pH,Paired.mapP rd λ_ _ z=>⟨z.1,z.2.ext x⟩⟩
   ·rw[nQ hb]at q;exact hS.new hd b o q
 ·exact h.elim
def Vj (hr:om k X.A) (hg:Gl X "dict") (hm:X.mg "dict" =none) (ha:JL X e tl)
  (he:ax [e] X.env=(false,aG e X.env)::ax [] X.env) (hpl:(aZ pos (ax [] X.env)).any (·.1)=false) (hcl:X.calm=true):JE X (.Call (.Name "dict" p) [e] [] pos) (qR vU tl):=λE hE=>
 Li (VU hcl (by have:=hr.units;lia)) Sl hg hm PyProof.Rows.boot_dict ha (by decide) (by decide) he hpl E hE
def _root_.pz{a b:Prop}(h:a→b) (g:b→a):a=b:=propext ⟨h,g⟩
def U9:=@vU.eq_def
theorem NI:∀ps:List (List Int),rm (ps.map λp=>W.bW [.bW (p.map W.int), .bl true])=aa ps
 | []=>rfl
 |p::ps=>by
  have e:sS (.bW (p.map W.int))=aa p:=by
   show qH (p.map W.int)=aa p
   induction p with
   |nil=>rfl
   |cons i p ih=>rw[aC,qH,ih];rfl
  rw[aC,rm,e,NI ps]
def Xf (gA:List (List Int×W)) (q k:List Int) (v:W):(pN (vO gA q v) k).isSome=(decide (k=q) || (pN gA k).isSome):=by
 have e:∀gA:List (List Int×W),(pN gA k).isSome=gA.any λkv=>decide (kv.1=k):=λgA=>by
  unfold pN;rw[gN]
  induction gA with
  |nil=>rfl
  |cons a gA ih=>
   rw[cc,fu];cases decide (a.1=k) with
   |true=>rfl
   |false=>simpa using ih
 rw[e,e];unfold vO;split
 ·rename_i h;have:(gA.map λkv=>if kv.1=q then(kv.1,v) else kv).any (λkv=>decide (kv.1=k))=gA.any λkv=>decide (kv.1=k):=by
   rw[List.any_map];congr 1;funext kv;simp only[kL];split<;>rfl
  rw[this];by_cases hk:k=q
  ·subst hk;rw[h];simp
  ·rw[decide_eq_false hk,md]
 ·rw[List.any_append];simp only[fu,List.any_nil,lj];rw[Bool.or_comm];congr 1;apply decide_eq_decide.mpr;exact eq_comm
theorem GW:∀(qs:List (List Int)) (gA:List (List Int×W)) (k:List Int),(pN (qs.foldl (λgA k=>vO gA k (.bl true)) gA) k).isSome=(decide (k∈qs) || (pN gA k).isSome)
 | [],gA,k=>by simp
 |q::qs,gA,k=>by
  rw[eX,GW qs,Xf,←Bool.or_assoc];congr 1;rw[f_];simp only[jr,decide_eq_true_eq,az];exact or_comm
def KI (qs:List (List Int)) (k:List Int):(pN (uG qs) k).isSome=decide (k∈qs):=by
 unfold uG;rw[GW];simp [pN]
end L2
namespace L2
open PySem PySem.Spec PyProof.Rows PySem.W PySem.Calls Builtin Builtin.ObjectAttr Builtin.Getset_descriptor
structure E8 (K:Frag) (C:ai):Prop where
  ga:findIn K (.ref C) "__getattribute__" =aa (aa (.builtin "BaseException.__getattribute__"))
  gt:findIn K (.ref C) "__getattr__" =aa none
  cl:findIn K (.ref C) "__class__" =aa (aa (.builtin "object.__class__"))
  ob:mroIn K C (.type "object")=aa true
  be:mroIn K C (.type "BaseException")=aa true
def Z7 (hx:h.get? a=aa o) (hc:o.cls= .ref C):Looks M h (eZ (.ref a)) (.ref C):=hc▸(Looks.ld hx).andThen .now
noncomputable abbrev Ct:List aj:=[.type "ValueError", .type "Exception", .type "BaseException", .type "object"]
structure qr (K:ao) (x:ah) (C:ai):Prop where
  nm:bS K bp x=aa (aa (.ref C))
  ex:kS K C Ct "ValueError.__new__" =true
  xc:E8 K C
theorem NC:∀l:List jS,∃L:List ah,∀x,x∉L→ ∀e∈l,¬e.key.isStr x=true
 | []=>⟨[],λ_ _ _ h=>nomatch h⟩
 |a::l=>by
  obtain⟨L,hL⟩:=NC l;by_cases q:∃y,a.key.isStr y=true
  ·obtain⟨y,hy⟩:=q;exact⟨y::L,λx hx=>ki.2 ⟨λh=>hx (aj.isStr_inj _ _ _ h hy▸ .head _),hL x λh=>hx (.tail _ h)⟩⟩
  ·exact⟨L,λx hx=>ki.2 ⟨λh=>q ⟨x,h⟩,hL x hx⟩⟩
def qr.own{K:ao}{x:ah}{C:ai}{h:aE}{mg:ah→Option aj}(O:qr K x C) (p:bg) (M:Mod K mg h):OwnCls x C Ct "ValueError.__new__" mg h:=by
 obtain⟨mb,hb,hm⟩:=M.blt;obtain⟨o,es,ep,ho,hd,hz,hf⟩:=M.glob;obtain⟨L,hL⟩:=NC es.toList;refine PySem.W.own_of_in (p:=p) (loose:=L) M.kin ⟨M.glob,hb,M.nolimit,hm,λy _ hy _ _ _=>(hf y).symm.trans ?_⟩ O.nm O.ex;unfold nsFind findBy;rw[Array.find?_eq_none.2 λe he=>hL y hy e (lV.2 he)];rfl
def uQ (x:ah) (t:WA):WS:=λE _ σ S=>t E σ S λws S1=>ws.length≤sizeLine∧E x σ S1
def UH{X:Cx}{x:ah}{C:ai}{e:Expr}{es:List Expr}{t:WA}{np cpos pos:bw}(O:qr X.K x C) (hg:Gl X x) (hm:X.mg x=aa (.ref C)) (ha:JA X (e::es) t) (hcl:X.calm=true) (hdb:(x == ("__debug__" :ah))=false)
  (he:ax (e::es) X.env=(false,aG e X.env)::ax es X.env) (hpl:(aZ cpos (ax es X.env)).any (·.1)=false) :
  JS X (.Raise (aa (.Call (.Name x np) (e::es) [] cpos)) none pos) (uQ x t):=λE hE ag s σ H D I z=>by
 obtain⟨σW,S,DW,hσ,hS,ht,hD⟩:=z;have OC:=(O.own X.prog I.mod).keeps I.bk;obtain⟨tl,N,nm,q,bs,hdct,sn,sub,ab,col,dd,k0,k1,k2,k3,k5,mN,hC,hN,hni,T⟩:=(O.own X.prog I.mod).obj;refine wpAny_Raise_call_subT (C:=C) (nm:=nm) (q:=q) (N:=N) (bs:=bs) (bm:=tl) (hdct:=hdct) (sn:=sn) (sub:=sub) (ab:=ab) (col:=col) (dd:=dd) (k0:=k0) (k1:=k1) (k2:=k2) (k3:=k3) (k5:=k5)
  lO (mN:=mN) (T.hasType lO.hasBase) (I.ok.hd hcl) (by rw[he];show(false || (aZ cpos (ax es X.env)).any (·.1))=false;rw[hpl];rfl) hni (yX I hg hm ⟨rfl,?_⟩ hdb)
 have go:=ha E hE cpos ag s σ H (λvs H1=>∃ws S1,mF X.K H1 ws vs∧nw X.K H1 σW σ∧mG X.K H1 S1∧ws.length≤sizeLine∧E x σW S1) I ⟨σW,S,_,hσ,hS,ht,λws S1 vs H1 e1 r1 iF h1=>⟨ws,S1,r1,hσ.ext e1,iF,h1.1,h1.2⟩⟩;rw[he]at go⊢;refine kg (cm go (λus s2 z2=>?_) λ_ _ y=>y);obtain⟨vs,H1,I1,r,ws,S1,r1,hσ1,iF,hl,h1⟩:=z2;refine⟨rfl,by rw[←r.length,←r1.length];exact hl,I1.bk _ _ hC,hN.keeps I1.bk,T.keeps I1.bk,λh' a me=>?_⟩
 exact hE.near ag σ H1 s2 σW x C a S1 h' us I1 hσ1 O.nm me iF h1
abbrev vq:WX:=λ_ _ _=>False
def M1 (h:dc (aB X.prog X.w) X.A X.env X.xe):oP X vq:=⟨h,λ_ _ _ _ _ _ _ _ _ _ _ _ _ _ _ _ _ _ _ _ z=>z.elim,λ_ _ _ _ _ _ _ _ _ _ _ _ _ _ _ _ z=>z.elim⟩
noncomputable abbrev Cx.at (X:Cx) (pn:List (ai×aH)) (E:aj→am→Prop):Cx:={ X with pn:=pn,xe:=E }
section
variable {X:Cx}{ag pins':List (ai×aH)}{σ:St}{H:Hp}{s:am}{E:aj→am→Prop}
def Cx.Ok.at (ok:X.Ok) (pn:List (ai×aH)) (E:aj→am→Prop):(X.at pn E).Ok:=
 ⟨ok.mod,ok.kind,ok.glob,ok.blt,ok.above,ok.inj,ok.has,ok.cab,ok.hd,ok.frames,ok.stk,ok.exf,ok.bs,ok.bsz,ok.noex,ok.exfs,ok.funs,ok.frf⟩
def Cx.Ok.unat{pn:List (ai×aH)}(ok:(X.at pn E).Ok):X.Ok:=
 ⟨ok.mod,ok.kind,ok.glob,ok.blt,ok.above,ok.inj,ok.has,ok.cab,ok.hd,ok.frames,ok.stk,ok.exf,ok.bs,ok.bsz,ok.noex,ok.exfs,ok.funs,ok.frf⟩
def mC.at (I:mC X ag σ H s) (E:aj→am→Prop):mC (X.at (X.pn++ag) E) [] σ H s:=⟨I.ok.at _ E,I.os,I.bare,I.base,I.loc,I.cell,I.free,I.freeC,λp hp=>I.pin p (by simpa using hp),I.cD,I.len⟩
def mC.unat (I:mC (X.at (X.pn++ag) E) pins' σ H s):mC X ag σ H s:=⟨I.ok.unat,I.os,I.bare,I.base,I.loc,I.cell,I.free,I.freeC,λp hp=>I.pin p (dX _ hp),I.cD,I.len⟩
def SP.unat (h:SP (X.at (X.pn++ag) E) [] D f s'):SP X ag D f s':=by
 cases f with
 |next=>obtain⟨σ',H',I,q⟩:=h;exact⟨σ',H',I.unat,q⟩
 |brk=>obtain⟨σ',H',I,q⟩:=h;exact⟨σ',H',I.unat,q⟩
 |cont=>obtain⟨σ',H',I,q⟩:=h;exact⟨σ',H',I.unat,q⟩
 |ret u=>obtain⟨v,σ',H',I,r,q⟩:=h;exact⟨v,σ',H',I.unat,r,q⟩
end
def IK (X:Cx) (ag:List (ai×aH)) (σ:St) (σW:mW) (H:Hp) (S:lF) (E:WX) (e:aj) (s':am):Prop:=∃(cl:ah) (C a:ai) (H1:Hp) (s1:am) (H':Hp) (S':lF),e= .ref a∧bS X.K bp cl=aa (aa (.ref C))∧mC X ag σ H1 s1∧
 s'.os=s1.os∧b_ s'.gens∧Un (frs X.stack) [] H1 H' s1.heap s'.heap∧n9 X.prog X.w H' s'.heap∧tS s1.heap s'.heap H' a C∧nJ H S H' S'∧mG X.K H' S'∧E cl σW S'
def QX (X:Cx) (E:WX) (t:WE):TE:=λσ H Q=>∃σW S QW,nw X.K H σW σ∧mG X.K H S∧t E σW S QW∧oM X.K H S QW Q∧ ∀ag e s',IK X ag σ σW H S E e s'→X.xe e s'
def MZ (X:Cx) (E:WX) (t:WS):TS:=λD σ H=>∃σW S DW,nw X.K H σW σ∧mG X.K H S∧t E DW σW S∧Meets X.K H S DW D∧ ∀ag e s',IK X ag σ σW H S E e s'→X.xe e s'
def GJ (X:Cx) (e:Expr) (t:WE):Prop:=∀E,dc (aB X.prog X.w) X.A X.env X.xe→PE X e (QX X E t)
def Jl (X:Cx) (st:aW) (t:WS):Prop:=∀E,dc (aB X.prog X.w) X.A X.env X.xe→PS X st (MZ X E t)
def v5 (X:Cx) (st:List aW) (t:WS):Prop:=∀E,dc (aB X.prog X.w) X.A X.env X.xe→qF X st (MZ X E t)
def AH (c:mM) (t:WA):WE:=λE σ S Q=>t vq σ S λws S1=>c ws S1 Q λcl S2=>E cl σ S2
def VS (F:oV X.prog X.w X.K X.mg X.base (sj X.prog X.w) k f fd ps (si X.K c)) (hr:om k X.A) (hg:Gl X x) (hm:X.mg x=aa (.ref f)) (hk:fh X.K (.ref f)=true) (hb:px X.K fd ps [])
  (ha:JA X (e::es) t) (hdb:(x == ("__debug__" :ah))=false) (he:ax (e::es) X.env=(false,aG e X.env)::ax es X.env) (hpl:(aZ pos (ax es X.env)).any (·.1)=false) :
  GJ X (.Call (.Name x p) (e::es) [] pos) (AH c t):=λE hp ag s σ H Q I h=>by
 obtain⟨σW,S,QW,hσ,hS,ht,hQ,hF⟩:=h;refine gG (yX I hg hm ?_ hdb);refine kD (h₀:=X.base) I.ok.mod.kin hk (nG (ha vq (M1 hp) pos ag s σ H (λvs H1=>∃ws S1,mF X.K H1 ws vs∧nw X.K H1 σW σ∧mG X.K H1 S1∧c ws S1 QW (λcl S'=>E cl σW S')∧oM X.K H1 S1 QW Q∧nJ H S H1 S1) I
  ⟨σW,S,_,hσ,hS,ht,λws S1 vs H1 e1 r1 iF h1=>⟨ws,S1,r1,hσ.ext e1,iF,h1,hQ.from e1,e1⟩⟩) λus s1 ⟨vs,H1,I1,r,ws,S1,r1,hσ1,iF,h1,hQ1,e1⟩=>⟨I1.kIn,?_⟩) he hpl
 exact HK (E:=E) F hr hb I1 r r1 hσ1 iF h1 hQ1 λcl C a H' S' s' hn os bare un ok fly ex hS' q=>hF ag _ s' ⟨cl,C,a,H1,s1,H',S',rfl,hn,I1,os,bare,un,ok,fly,e1.trans ex,hS',q⟩
def Xh (he:GJ X e te):Jl X (.Return (aa e) pos) (mY te):=λE hp=>
 (IP (he E hp)).mono λD σ H ⟨σW,S,DW,hσ,hS,ht,hD,hF⟩=>⟨σW,S,_,hσ,hS,ht,hD.rt,hF⟩
def S9{X:Cx}{st:aW}{ta:WS}(h:Jl X st ta):v5 X [st] ta:=λE hp=>Hz (h E hp)
def Ot (un:Un (frs l) [] H1 H' g h) (ok:n9 P w H' h) (ff0:h.FunFrames base l) (fr:∀b∈frs l,H' b=none)
  (h0:∀b∈hid,g.get? b=none∧H' b=none) (ha:a∈hid) (L:iU (du h (hid++frs l)) l a (.ref C) h h3):Un (frs l) [] H1 H' g h3∧n9 P w H' h3∧tS g h3 H' a C:=by
 obtain⟨st,ff,tr,sl⟩:=L;have keepB:∀b o,h.get? b=aa o→b∉hid→b∉frs l→h3.get? b=aa o:=λb o e h1 h2=>st b o (fE _ e λz=>(bn.mp z).elim h1 h2);have nh:∀b o,g.get? b=aa o→b∉hid:=λb o e hb=>by rw[(h0 b hb).1]at e;cases e
 have slotB:∀b o,b∈frs l→h.get? b=aa o→ ∃sl,h3.get? b=aa { o with slots:=sl }:=λb o hb e=>by
  obtain⟨_,o',eo',nf⟩:=ff0.mem hb;rw[e]at eo';cases eo';exact sl b o e nf
 have nx:∀b:ai,b∉([]:List ai):=λb=>by simp
 refine⟨⟨λb o e n hb _=>keepB b o (un.keep b o e n hb (nx b)) (nh b o e) hb,λb o e n hb _=>?_,λb o e n _=>un.free b o e n (nx b),λb o e _=>?_,un.tups,un.frzs,un.tbls⟩,λb o e=>?_,(h0 a ha).1,(h0 a ha).2,?_⟩
 ·obtain⟨sl1,e1⟩:=un.slot b o e n hb (nx b);obtain⟨sl2,e2⟩:=slotB b _ hb e1;exact⟨sl2,e2⟩
 ·obtain⟨o',e1⟩:=un.there b o e (nx b);by_cases hb:b∈frs l
  ·obtain⟨sl2,e2⟩:=slotB b _ hb e1;exact⟨_,e2⟩
  ·exact⟨o',keepB b o' e1 (nh b o e) hb⟩
 ·refine(ok b o e).stay (λc u hc q=>?_) (λ_ q=>q) λ_ _ q=>q;have tk:∃v,H' c=aa v:=by
   obtain z |z:=hc
   ·exact⟨o,by rw[z];exact e⟩
   ·exact⟨_,z⟩
  obtain⟨v,tk⟩:=tk;exact keepB c u q (λz=>by rw[(h0 c z).2]at tk;cases tk) λz=>by rw[fr c z]at tk;cases tk
 ·obtain⟨oe,vs,T,oT,ts,e1,e2,e3,e4,e5,e6,e7,e8,e9⟩:=tr;have nf:T∉frs l:=λhb=>by
   obtain⟨_,o,eo,nf⟩:=ff.mem hb;rw[e7]at eo;cases eo;exact nf ts e8
  have both:g.get? T=none∧H' T=none:=by
   by_cases hT:T∈hid
   ·exact h0 T hT
   ·have z:h.get? T=none:=by
     cases q:h.get? T with
     |none=>rfl
     |some o=>
      rw[fE _ q λz=>(bn.mp z).elim hT nf]at e5;cases e5
    constructor
    ·cases q:g.get? T with
     |none=>rfl
     |some o=>obtain⟨o',q'⟩:=un.there T o q (nx T);rw[z]at q';cases q'
    ·cases q:H' T with
     |none=>rfl
     |some u=>obtain⟨o',q'⟩:=(ok T u q).ex;rw[z]at q';cases q'
  exact⟨oe,vs,T,oT,ts,e1,e2,e3,e4,both.1,both.2,e6,e7,e8,e9⟩
def Heap.TracedW.tr (x:aE.TracedW h base e cls a0):aE.Traced h base e cls:=by
 obtain⟨oe,vs,T,oT,ts,he,⟨hcls,h0⟩,r⟩:=x;exact⟨oe,vs,T,oT,ts,he,hcls,r⟩
section
variable {X:Cx}{ag:List (ai×aH)}{σ:St}{H1 H':Hp}{s1 s':am}{a C:ai}{M:Model}{A:bt}{E:aj→am→Prop}{R:am→Prop}
def ZB (I1:mC X ag σ H1 s1) (hst:X.stack=X.env::X.outer) (hf:X.env.frame=aa X.env.locals) (os:s'.os=s1.os) (bare:b_ s'.gens) (un:Un (frs X.stack) [] H1 H' s1.heap s'.heap) (ok:n9 X.prog X.w H' s'.heap) (fly:tS s1.heap s'.heap H' a C) (hA:A.frames=aa X.stack)
  (k:∀h3,mC X ag σ H' { s' with heap:=h3 }→Un (frs X.stack) [] H1 H' s1.heap h3→n9 X.prog X.w H' h3→tS s1.heap h3 H' a C→R { s' with heap:=h3 }) :
  av M A (ju (.ref a) X.env) (λ_ s₂=>av M A (jj (.ref a) none) (λ_ s₃=>R s₃) E s₂) E s':=by
 have I2:mC X ag σ H' s':=I1.call' os un ok bare (λ_ z=>nomatch z);have ff:=I2.stack;have fr:=I2.stkFree;obtain⟨g1,g2,oe,vs,T,oT,ts,e1,e2,e3,e4,g3,g4,e5,e6,e7,e8⟩:=fly;have sz:1<vs.size:=(lZ.mp e4).1;have hid:∀b∈ [a,T],s1.heap.get? b=none∧H' b=none:=λb hb=>by
  obtain rfl |hb:=az.mp hb
  ·exact⟨g1,g2⟩
  ·rw[bi.mp hb];exact⟨g3,g4⟩
 have st:∀h3,iU (du s'.heap ([a,T]++frs X.stack)) X.stack a (.ref C) s'.heap h3→R { s' with heap:=h3 }:=λh3 L=>by
  obtain⟨u1,u2,u3⟩:=Ot un ok ff fr hid (by simp) L;exact k h3 (I1.call' (s':={ s' with heap:=h3 }) os u1 u2 bare (λ_ z=>nomatch z)) u1 u2 u3
 rw[hst]at hA ff st;refine wpAny_noteFrame_onW (base:=du s'.heap ([a,T]++frs (X.env::X.outer))) (cls:= .ref C) (a0:=vs[0]) hA (Bq ff) hf ⟨oe,vs,T,oT,ts,e1,⟨e2,km _⟩,e3,e4,eF _ (by simp),e5,e6,e7,e8⟩ (λb o z=>gi _ z) (eF _ (by simp)) λh2 N=>?_;obtain⟨n1,n2,n3,n4⟩:=N;refine j_ (s:={ s' with heap:=h2 }) n1 n2 n3 λh3 k1 k2 k3 k4=>?_;exact st h3 ⟨k1,k2,Heap.TracedW.tr k3,λb o e nf=>by
  obtain⟨sl,z⟩:=n4 b o e nf;exact⟨sl,k4 b _ z nf⟩⟩
def X3 (I1:mC X ag σ H1 s1) (os:s'.os=s1.os) (bare:b_ s'.gens) (un:Un (frs X.stack) [] H1 H' s1.heap s'.heap) (ok:n9 X.prog X.w H' s'.heap) (fly:tS s1.heap s'.heap H' a C)
  (k:∀h3,mC X ag σ H' { s' with heap:=h3 }→tS s1.heap h3 H' a C→R { s' with heap:=h3 }):av M A (jj (.ref a) none) (λ_ s₃=>R s₃) E s':=by
 have I2:mC X ag σ H' s':=I1.call' os un ok bare (λ_ z=>nomatch z);have ff:=I2.stack;have fr:=I2.stkFree;obtain⟨g1,g2,oe,vs,T,oT,ts,e1,e2,e3,e4,g3,g4,e5,e6,e7,e8⟩:=fly;have sz:1<vs.size:=(lZ.mp e4).1;have hid:∀b∈ [a,T],s1.heap.get? b=none∧H' b=none:=λb hb=>by
  obtain rfl |hb:=az.mp hb
  ·exact⟨g1,g2⟩
  ·rw[bi.mp hb];exact⟨g3,g4⟩
 refine j_ (base:=du s'.heap ([a,T]++frs X.stack)) (l:=X.stack) (cls:= .ref C) (a0:=vs[0]) (fl:= .none) (λb o z=>gi _ z) (Bq ff) ⟨oe,vs,T,oT,ts,e1,⟨e2,km _⟩,e3,e4,eF _ (by simp),e5,e6,e7,e8⟩ λh3 k1 k2 k3 k4=>?_;obtain⟨u1,u2,u3⟩:=Ot un ok ff fr hid (by simp) ⟨k1,k2,Heap.TracedW.tr k3,λb o e nf=>⟨o.slots,k4 b o e nf⟩⟩;exact k h3 (I1.call' (s':={ s' with heap:=h3 }) os u1 u2 bare (λ_ z=>nomatch z)) u3
end
noncomputable abbrev Cx.hot (X:Cx) (a:ai) (pn:List (ai×aH)):Cx:={ X with A:=X.A.mark (aa (.ref a)),calm:=false,pn:=pn,xe:=λ_ _=>False }
section
variable {X:Cx}{ag pins':List (ai×aH)}{σ:St}{H:Hp}{s:am}{a:ai}{oa:aH}
def Cx.Ok.hot (ok:X.Ok) (a:ai) (pn:List (ai×aH)):(X.hot a pn).Ok:=
 ⟨ok.mod,ok.kind,ok.glob,ok.blt,ok.above,ok.inj,ok.has,ok.cab,(λz=>nomatch z),ok.frames,ok.stk,ok.exf,ok.bs,ok.bsz,ok.noex,ok.exfs,ok.funs,ok.frf⟩
def mC.hot (I:mC X ag σ H s) (e:s.heap.get? a=aa oa) (n:H a=none) (d:oa.data= .fields vs):mC (X.hot a (X.pn++ag++[(a,oa)])) [] σ H s:=
 ⟨I.ok.hot a _,I.os,I.bare,I.base,I.loc,I.cell,I.free,I.freeC,(λp hp=>by
  rw[bf]at hp;obtain hp |hp:=bn.mp hp
  ·exact I.pin p hp
  ·rw[bi.mp hp];refine⟨e,n,λz=>?_,λz=>?_,λv z=>?_⟩
   ·obtain⟨m,⟨o,es,ep,ho,hd,_⟩,_⟩:=I.loc;have e':s.heap.get? X.env.locals=aa oa:=by rw[←show a=X.env.locals from z];exact e
    rw[ho]at e';cases e';rw[hd]at d;cases d
   ·obtain⟨_,o,ho,nf⟩:=I.funs.mem z;have e':s.heap.get? a=aa o:=ho;rw[e]at e';cases e';exact nf vs d
   ·have z':oa.data= .cell v:=z;rw[d]at z';cases z'),I.cD,I.len⟩
def mC.unhot (I0:X.Ok) (I:mC (X.hot a (X.pn++ag++[(a,oa)])) pins' σ H s):mC X ag σ H s:=
 ⟨I0,I.os,I.bare,I.base,I.loc,I.cell,I.free,I.freeC,λp hp=>I.pin p (dX _ (dX _ hp)),I.cD,I.len⟩
end
def A5 (al:List ah) (t u:WS):WS:=λ_ D σ S=>t (λcl σ' S'=>cl∈al∧u vq D σ' S') D σ S
section
variable {X:Cx}{b:List aW}{x:ah}{CT:ai}{b₀:aW}{suite:List aW}{np hpos pos:bw}{t:WS}{v:WS}{al:List ah}
def Re (h:X.xe=λ_ _=>False):oP X vq:=M1 (by rw[h];exact mo)
def Qy (hb:∀pn xe,v5 (X.at pn xe) b t)
  (hal:∀cl∈al,∃C,qr X.K cl C∧eP X.K (.ref C) (.ref CT)=aa true) (hs:∀(a:ai) (pn:List (ai×aH)),sB (X.hot a pn) (b₀::suite) v)
  (hg:Gl X x) (hm:X.mg x=aa (.ref CT)) (hst:X.stack=X.env::X.outer) (hf:X.env.frame=aa X.env.locals) (hdb:(x == ("__debug__" :ah))=false) :
  JS X (.Try b [.ExceptHandler (aa (.Name x np)) none (b₀::suite) hpos] [] [] pos) (A5 al t v):=λE hE ag s σ H D I z=>by
 obtain⟨σW,S,DW,hσ,hS,ht,hD⟩:=z;refine wpAny_Try_except ?_;refine cm (hb (X.pn++ag) (λe s₁=>av (aB X.prog X.w) X.A (ju e X.env) (λ_ s₂=>av (aB X.prog X.w) X.A (jj e none) (λ_ s₃=>av (aB X.prog X.w) X.A (handleBy e X.env [.ExceptHandler (aa (.Name x np)) none (b₀::suite) hpos]) (SP X ag D) X.xe s₃) X.xe s₂) X.xe s₁)
  _ dc.looking [] s σ H D (I.at _) ⟨σW,S,DW,hσ,hS,ht,hD,λpins' e s' F=>?_⟩) (λf s1 q=>?_) λe s1 q=>q
 ·obtain⟨cl,C,a,H1,s1,H',S',rfl,hn,I1,os,bare,un,ok,fly,ex,hS',hcl,hu⟩:=F;obtain⟨C',O,hx⟩:=hal cl hcl;have hn':bS X.K bp cl=aa (aa (.ref C)):=hn;have eC:C'=C:=by
   have:=O.nm;rw[hn']at this;exact(bM.inj (aK (aK this))).symm
  subst eC;refine ZB (X:=X) (ag:=ag) I1.unat hst hf os bare un ok fly I.ok.frames λh3 I3 u3 ok3 fly3=>?_;obtain⟨g1,g2,oe,vs,_,_,_,e1,e2,e3,_⟩:=id fly3;refine wpAny_handleBy_cons (codeAny_handlers_test ?_) (by intro q;cases q);refine yX (X:=X.hot a (X.pn++ag++[(a,oe)])) (I3.hot e1 g2 e3) hg hm ?_ hdb;refine(PySem.W.exm_one I3.kIn (Z7 e1 e2) hx).here ?_;refine codeAny_handlers_suite ?_;refine X3 (X:=X) (ag:=ag) (s':={ s' with heap:=h3 }) I1.unat os bare u3 ok3 fly3 λh4 I4 fly4=>?_;obtain⟨g1',g2',oe4,vs4,_,_,_,e1',e2',e3',_⟩:=id fly4;refine cm (hs a (X.pn++ag++[(a,oe4)]) vq (Re rfl) [] { s' with heap:=h4 } σ H' D (I4.hot e1' g2' e3') ⟨_,S',_,hσ.ext ex,hS',hu,hD.from ex⟩) (λf s6 q=>?_) λ_ _ z=>z.elim;cases f with
  |next=>obtain⟨σ',H'',I6,q⟩:=q;exact⟨_,H'',I6.unhot I.ok,q⟩
  |brk=>obtain⟨σ',H'',I6,q⟩:=q;exact⟨_,H'',I6.unhot I.ok,q⟩
  |cont=>obtain⟨σ',H'',I6,q⟩:=q;exact⟨_,H'',I6.unhot I.ok,q⟩
  |ret w=>obtain⟨v,σ',H'',I6,r,q⟩:=q;exact⟨v,_,H'',I6.unhot I.ok,r,q⟩
 ·cases f with
  |next=>exact fF q.unat
  |ret v=>exact q.unat
  |brk=>exact q.unat
  |cont=>exact q.unat
end
def Tx (ha:PE X a ta):PE X (.UnaryOp .Not a pos) (λσ H Q=>ta σ H λx H1=>∃k,Cg X.K x H1 k∧Q (.bl (!k)) H1):=by
 intro ag s σ H Q I h;refine iy (nG (ha ag s σ H _ I h) λv s1 ⟨x,H1,I1,r1,q1⟩=>?_);obtain⟨k,hk,q1⟩:=q1;exact not_of (nG (Il ag s1 σ H1 x v (λc H2=>Q (.bl (!c)) H2) I1 r1 ⟨k,hk,q1⟩) λc s2 ⟨H2,I2,q2⟩=>⟨.bl (!c),H2,I2,rfl,q2⟩)
def yN (t:WE):WE:=λE σ S Q=>t E σ S λw S1=>ur w S1 λb S2=>Q (.bl !b) S2
def VP (ha:JE X a ta):JE X (.UnaryOp .Not a pos) (yN ta):=λE hE=>
 (Tx (ha E hE)).mono λσ H Q ⟨σW,S,QW,hσ,hS,ht,hQ⟩=>⟨σW,S,_,hσ,hS,ht,λw S1 v H1 e1 r1 iF h1=>by
  obtain⟨k,hk,q⟩:=Hb r1 iF h1;exact⟨k,hk,hQ _ S1 _ H1 e1 (.bl _) iF q⟩⟩
def Ti:(yN t E σ S Q)=(t E σ S λw S1=>ur w S1 λb S2=>Q (.bl !b) S2):=pz id id
inductive Tr where
  |bl (n:Int)
  |nd (s:ah) (ts:List Tr)
def Tr.dI:Tr→List Tr
 | .bl _=>[]
 | .nd _ ts=>ts
mutual
noncomputable def Tr.aq:Tr→Nat
 | .bl _=>1
 | .nd _ ts=>1+mO ts
noncomputable def mO:List Tr→Nat
 | []=>0
 |t::ts=>t.aq+mO ts
end
mutual
noncomputable def Tr.depth:Tr→Nat
 | .bl _=>1
 | .nd _ ts=>1+nj ts
noncomputable def nj:List Tr→Nat
 | []=>0
 |t::ts=>max t.depth (nj ts)
end
def M5:mO []=0:=by unfold mO;rfl
def tE (t:Tr) (ts:List Tr):mO (t::ts)=t.aq+mO ts:=by
 conv=>lhs;unfold mO
theorem CL:∀(ts us:List Tr),mO (ts++us)=mO ts+mO us
 | [],us=>by
  show mO us=mO []+mO us;rw[M5];lia
 |t::ts,us=>by
  show mO (t::(ts++us))=_;rw[tE,tE,CL ts us];lia
def Dd:nj []=0:=by unfold nj;rfl
def zF (t:Tr) (ts:List Tr):nj (t::ts)=max t.depth (nj ts):=by
 conv=>lhs;unfold nj
def AB (t:Tr):t.aq=1+mO t.dI:=by
 cases t with
 |bl n=>
  show Tr.aq (.bl n)=1+mO [];unfold Tr.aq mO;rfl
 |nd s ts=>
  show Tr.aq (.nd s ts)=1+mO ts
  conv=>lhs;unfold Tr.aq
def BF (t:Tr):t.depth=1+nj t.dI:=by
 cases t with
 |bl n=>
  show Tr.depth (.bl n)=1+nj [];unfold Tr.depth nj;rfl
 |nd s ts=>
  show Tr.depth (.nd s ts)=1+nj ts
  conv=>lhs;unfold Tr.depth
def rQ (t:Tr):1≤t.aq:=by rw[AB];lia
def qD (t:Tr):1≤t.depth:=by rw[BF];lia
theorem Me:∀(ts us:List Tr),nj (ts++us)=max (nj ts) (nj us)
 | [],us=>by
  show nj us=max (nj []) (nj us);rw[Dd];lia
 |t::ts,us=>by
  show nj (t::(ts++us))=_;rw[zF,zF,Me ts us];exact(Nat.max_assoc _ _ _).symm
theorem qI:∀(ts:List Tr),ts.length≤mO ts
 | []=>aQ _
 |t::ts=>by
  have:=qI ts;have:=rQ t;rw[tE,aU];lia
theorem pk:∀{ts:List Tr},t∈ts→t.aq≤mO ts
 | [],h=>by cases h
 |u::ts,h=>by
  rw[tE];obtain e |h:=az.mp h
  ·rw[e];lia
  ·have:=pk h;lia
theorem FQ:∀{ts:List Tr},ts≠ []→nj ts=1+nj (ts.flatMap Tr.dI)
 | [],h=>absurd rfl h
 | [t],_=>by
  rw[cw,cZ,bf,zF,Dd,BF];lia
 |t::u::r,_=>by
  have ih:=FQ (ts:=u::r) (by simp);have e:(t::u::r).flatMap Tr.dI=t.dI++(u::r).flatMap Tr.dI:=cw ..;rw[zF,ih,e,Me,BF];lia
theorem Ep:∀(ts:List Tr),mO (ts.flatMap Tr.dI)+ts.length=mO ts
 | []=>by rw[cZ,M5];rfl
 |t::ts=>by
  have ih:=Ep ts;rw[cw,CL,tE,aU,AB];lia
mutual
theorem GX:∀t:Tr,t.depth≤t.aq
 | .bl n=>by unfold Tr.depth Tr.aq;exact aA _
 | .nd s ts=>by
  have:=Jj ts;rw[BF,AB];show 1+nj ts≤1+mO ts;lia
theorem Jj:∀ts:List Tr,nj ts≤mO ts
 | []=>by rw[Dd];exact aQ _
 |t::ts=>by
  have:=GX t;have:=Jj ts;rw[zF,tE];lia
end
mutual
noncomputable def lA:Tr→W
 | .bl n=> .int n
 | .nd s ts=> .bW (.str s::af ts)
noncomputable def af:List Tr→List W
 | []=>[]
 |t::ts=>lA t::af ts
end
theorem o6:∀ts:List Tr,af ts=ts.map lA
 | []=>by simp [af]
 |t::ts=>by simp [af,o6 ts]
def pP (ts:List Tr):(af ts).length=ts.length:=by rw[o6,ay]
noncomputable def mE (p:List Int):W:= .bW (p.map W.int)
def Nh:pi "int" "int" =true:=by decide +kernel
def LG:pi "int" "bool" =false:=by decide +kernel
def Ie:pi "int" "str" =false:=by decide +kernel
def K0:pi "int" "tuple" =false:=by decide +kernel
def Iu:pi "int" "list" =false:=by decide +kernel
def Oc:pi "bool" "int" =true:=by decide +kernel
def Nd:pi "bool" "bool" =true:=by decide +kernel
def KA:pi "bool" "str" =false:=by decide +kernel
def IU:pi "bool" "tuple" =false:=by decide +kernel
def N7:pi "bool" "list" =false:=by decide +kernel
def Jh:pi "str" "int" =false:=by decide +kernel
def Hd:pi "str" "bool" =false:=by decide +kernel
def L5:pi "str" "str" =true:=by decide +kernel
def IR:pi "str" "tuple" =false:=by decide +kernel
def NL:pi "str" "list" =false:=by decide +kernel
def GA:pi "tuple" "int" =false:=by decide +kernel
def HU:pi "tuple" "bool" =false:=by decide +kernel
def HI:pi "tuple" "str" =false:=by decide +kernel
def oG:pi "tuple" "tuple" =true:=by decide +kernel
def oU:pi "tuple" "list" =false:=by decide +kernel
def LB:pi "list" "int" =false:=by decide +kernel
def GI:pi "list" "bool" =false:=by decide +kernel
def GM:pi "list" "str" =false:=by decide +kernel
def oW:pi "list" "tuple" =false:=by decide +kernel
def o4:pi "list" "list" =true:=by decide +kernel
section
variable {α:Type}{x:α}{xs:List α}
def AQ (n:Nat):o7 xs (aa (n:Int)) none=xs.drop n:=by
 unfold o7;rw[HT.sIx_nat,HT.sIx_none];by_cases h:n≤xs.length
 ·rw[jU h,dP (by rw[cS];lia)]
 ·rw[mx (by lia),fH (aA _),fH (by lia),List.take_nil]
def BD (n:Nat):o7 xs none (aa (n:Int))=xs.take n:=by
 unfold o7;rw[HT.sIx_nat,HT.sIx_none,dM,eU];by_cases h:n≤xs.length
 ·rw[jU h]
 ·rw[mx (by lia),jp,dP (by lia)]
def LY:o7 (x::xs) (aa 1) none=xs:=by rw[show(1:Int)=((1:Nat):Int) from rfl,AQ];rfl
def IY{n d k:Nat}(h:0<k):HT.sIx n d (aa (-(k:Int)))=n - k:=by
 show(if(-(k:Int))<0 then(-(k:Int)+(n:Int)).toNat else min (-(k:Int)).toNat n)=n - k;rw[if_pos (by lia)];lia
def P6 (k:Nat) (h:0<k):o7 xs none (aa (-(k:Int)))=xs.take (xs.length - k):=by
 unfold o7;rw[IY h,HT.sIx_none,dM,eU]
def XI (k:Nat) (h:0<k):o7 xs (aa (-(k:Int))) none=xs.drop (xs.length - k):=by
 unfold o7;rw[IY h,HT.sIx_none,dP (by rw[cS];lia)]
def rS{n:Nat}:nE xs (n:Int)=xs[n]? :=by
 unfold nE tG;rw[if_pos (by lia)];by_cases h:n<xs.length
 ·rw[if_pos (by lia)];simp
 ·rw[if_neg (by lia)];simp;lia
def B2:nE (x::xs) 0=aa x:=rS (n:=0)
end
section
variable {S S':lF}{a b:ai}{o:Ob}{Q:List W→Prop}{ws:List W}
def Nm (h:b≠a):bQ (bQ S a o) b u=bQ (bQ S b u) a o:=by
 funext c;unfold bQ;by_cases h1:c=b
 ·rw[if_pos h1,if_pos h1,if_neg (by rw[h1];exact h)]
 ·rw[if_neg h1,if_neg h1]
def OF (h:b≠a):bQ (bQ (bQ S a o) b u) a o'=bQ (bQ S a o') b u:=by rw[Nm h,pM,Nm h]
def yB:og (bQ S a (.bP ws)) a Q=Q ws:=ni mV
def rf (h:bQ S a o b=none):S b=none∧b≠a:=by
 have hb:b≠a:=by rintro rfl;rw[mV]at h;cases h
 rw[nQ hb]at h;exact⟨h,hb⟩
def Cb (h:S a=aa u) (n:S b=none):a≠b:=by rintro rfl;rw[h]at n;cases n
def Sub.bQ (h:Sub S S') (n:S a=none):Sub S (L2.bQ S' a o):=λb u e=>by rw[nQ (Cb e n)];exact h b u e
def Sub.put2 (h:Sub S S'):Sub (L2.bQ S a u) (L2.bQ S' a u):=λb w e=>by
 by_cases hb:b=a
 ·subst hb;rw[mV]at e⊢;exact e
 ·rw[nQ hb]at e⊢;exact h b w e
end
def Eo (S:lF) (a b:Int):n_ S 60 (.int a) (.int b)=aa (a == b):=by have h:n_ S 60 (.int a) (.int b)=aa (a == b):=rfl;exact h
def N8 (S:lF) (a b:ah):n_ S 60 (.str a) (.str b)=aa (a == b):=by have h:n_ S 60 (.str a) (.str b)=aa (a == b):=rfl;exact h
def OB (S:lF) (a b:Bool):n_ S 60 (.bl a) (.bl b)=aa (a == b):=by have h:n_ S 60 (.bl a) (.bl b)=aa (a == b):=rfl;exact h
def m_ (h:n≤16777216):n≤sizeLine:=by rw[dY];exact h
def qJ (h:n<16777216):n<sizeLine:=by rw[dY];exact h
section
variable {S:lF}{Q:WK}{QB:Bool→lF→Prop}{QS:List W→(lF→Prop)→Prop}{QT:String→Prop}
def sF (h:S a=aa o):bQ S a o=S:=by
 funext b;unfold bQ;split
 ·rename_i e;rw[e,h]
 ·rfl
theorem y9:ur (.bl b) S QB=QB b S:=rfl
def M':=@y9
theorem yO:ur (.int i) S QB=QB (i != 0) S:=rfl
def Qb:=@yO
theorem yx:ur (.bW ws) S QB=QB (!ws.isEmpty) S:=rfl
def Pf:=@yx
theorem yy:ur (.ref a) S QB=og S a λws=>QB (!ws.isEmpty) S:=rfl
def T_:=@yy
theorem ye:ur .ci S QB=QB false S:=rfl
def YO:=@ye
theorem yM:uM (.bW ws) S QS=QS ws λ_=>True:=rfl
def Ow:=@yM
theorem zN:uM (.ref a) S QS=og S a λws=>QS ws λS'=>S' a=aa (.bP ws):=rfl
def Cj:=@zN
theorem zH:vI (.bl b) S QT=QT "bool" :=rfl
def SW:=@zH
theorem zW:vI (.int i) S QT=QT "int" :=rfl
def Xj:=@zW
theorem yW:vI (.str i) S QT=QT "str" :=rfl
def Pk:=@yW
theorem zY:vI (.bW i) S QT=QT "tuple" :=rfl
def Qd:=@zY
theorem yl:vI .ci S QT=QT "NoneType" :=rfl
def Tp:=@yl
theorem Aj:vI (.ref a) S QT=og S a λ_=>QT "list" :=rfl
def Tj:=@Aj
theorem zV:ou (.int i) (.int j) S Q=Q (.int (i+j)) S:=rfl
def UQ:=@zV
theorem zD:ou (.str i) (.str j) S Q=(i.length+j.length≤sizeLine∧Q (.str (i++j)) S):=rfl
def Yu:=@zD
theorem zt:ou (.bW i) (.bW j) S Q=(i.length+j.length≤sizeLine∧Q (.bW (i++j)) S):=rfl
def E_:=@zt
theorem zB:ou (.ref a) (.ref b) S Q=og S a λxs=>og S b λys=>xs.length+ys.length≤sizeLine∧ ∀p,S p=none→Q (.ref p) (bQ S p (.bP (xs++ys))):=rfl
def Ib:=@zB
theorem yb{C:Int→Int→Prop}{g:Int→Int→W}:oH C g (.int i) (.int j) S Q=(C i j∧Q (g i j) S):=rfl
def X2:=@yb
theorem xX{g:Int→Int→W}:rz g (.int i) (.int j) S Q=Q (g i j) S:=rfl
def RA:=@xX
theorem yn:sI (.int i) (.int j) S Q=Q (.bl (decide (i≤j))) S:=rfl
def Wk:=@yn
theorem zw:sI (.str i) (.str j) S Q=Q (.bl (!decide (j.cps.toList<i.cps.toList))) S:=rfl
def RV:=@zw
theorem Ah:oR [.bW us] S Q=Q (.int us.length) S:=rfl
def ZO:=@Ah
theorem yd:oR [.ref a] S Q=og S a λus=>Q (.int us.length) S:=rfl
def Yy:=@yd
theorem An:oR [.cX ns] S Q=Q (.int ns.length) S:=rfl
def Vz:=@An
theorem zR:oR [.str z] S Q=(z.length≤sizeLine∧Q (.int z.length) S):=rfl
def XR:=@zR
theorem yf:mH (.bW ws) (.int i) S Q=match nE ws i with
 |some w=>Q w S
 |none=>False:=rfl
def A1:=@yf
theorem Ai:mH (.ref a) (.int i) S Q=og S a λws=>match nE ws i with
 |some w=>Q w S
 |none=>False:=rfl
def GP:=@Ai
theorem zP:mH (.cX ns) (.int i) S Q=match nE ns i with
 |some n=>Q (.int n) S
 |none=>False:=rfl
def UJ:=@zP
theorem zZ:mH (.str x) (.int i) S Q=(x.length≤sizeLine∧match nE x.cps.toList i with
 |some c=>Q (.str ⟨#[c]⟩) S
 |none=>False):=rfl
def Qe:=@zZ
theorem zi{ws:List W}{lo hi:Option Int}:zj (.bW ws) lo hi S Q=Q (.bW (o7 ws lo hi)) S:=rfl
def O_:=@zi
theorem yR{z:ah}{lo hi:Option Int}:zj (.str z) lo hi S Q=(z.length≤sizeLine∧Q (.str (c_ z lo hi)) S):=rfl
def Po:=@yR
theorem yi{a:ai}{lo hi:Option Int}:zj (.ref a) lo hi S Q=og S a λws=>∀p,S p=none→Q (.ref p) (bQ S p (.bP (o7 ws lo hi))):=rfl
def Um:=@yi
theorem zQ{ns:List Int}{lo hi:Option Int}:zj (.cX ns) lo hi S Q= ∀p,S p=none→Q (.ref p) (bQ S p (.bP ((o7 ns lo hi).map W.int))):=rfl
def Vs:=@zQ
theorem zl:rG [.bW us] S Q=Q (.bW us) S:=rfl
def Ry:=@zl
theorem yA:rG [.ref a] S Q=og S a λus=>Q (.bW us) S:=rfl
def XM:=@yA
theorem zX:qy (.ref a) [y] S Q=og S a λxs=>xs.length<sizeLine∧Q .ci (bQ S a (.bP (xs++[y]))):=rfl
def U_:=@zX
theorem Am:Wl (.ref a) [] S Q=og S a λxs=>match xs[xs.length - 1]? with
 |some y=>Q y (bQ S a (.bP xs.dropLast))
 |none=>False:=rfl
def SH:=@Am
theorem zO:wa (.ref a) [.bW ys] S Q=og S a λxs=>xs.length+ys.length≤sizeLine∧Q .ci (bQ S a (.bP (xs++ys))):=rfl
def Rc:=@zO
theorem yC:wa (.ref a) [.ref b] S Q=og S a λxs=>og S b λys=>xs.length+ys.length≤sizeLine∧Q .ci (bQ S a (.bP (xs++ys))):=rfl
def YI:=@yC
theorem zE:zK (.ref a) ws S Q=og S a λxs=>xs.length+ws.length≤sizeLine∧Q .ci (bQ S a (.bP (xs++ws))):=rfl
def O9:=@zE
theorem yg:pJ (.ref a) S=og S a λ_=>True:=rfl
def Pm:=@yg
theorem yZ:ve (.str x) S=True:=rfl
def Z':=@yZ
theorem zk:wV [.bl b] S Q=Q (.int (if b then 1 else 0)) S:=rfl
def TJ:=@zk
theorem ym:wV [.int i] S Q=Q (.int i) S:=rfl
def OZ:=@ym
theorem zy:Xt [.int i, .int j] S Q=Q (.int (if j > i then j else i)) S:=rfl
def Q5:=@zy
theorem zU:uI [.int i, .int j] S Q=Q (.int (if j<i then j else i)) S:=rfl
def W6:=@zU
theorem yT:xN (.str z) ws S Q=match vg ws with
 |some ys=>(ys.map (·.length)).sum+ys.length*z.length≤16777216∧Q (.str (dj z ys)) S
 |none=>False:=rfl
def SC:=@yT
theorem zq:TX (.str z) [.str y] S Q=match c8 z y 0 z.length 1 with
 |i::_=>Q (.int i) S
 | []=>False:=rfl
def Ul:=@zq
theorem yL:pA neg .ci .ci S Q=Q (.bl (!neg)) S:=rfl
def Zj:=@yL
theorem yD:pA neg (.bl a) (.bl b) S Q=Q (.bl (if neg then a != b else a == b)) S:=rfl
def Ro:=@yD
theorem Ac:pA neg (.bl a) .ci S Q=Q (.bl neg) S:=rfl
def T4:=@Ac
theorem zg:pA neg (.bW ws) .ci S Q=Q (.bl neg) S:=rfl
def LV:=@zg
theorem yk:pA neg (.ref a) .ci S Q=Q (.bl neg) S:=rfl
def VL:=@yk
theorem ya:pA neg (.int a) .ci S Q=Q (.bl neg) S:=rfl
def SK:=@ya
theorem zx:uy neg x (.bW ws) S Q=match rM S x ws with
 |some b=>Q (.bl (if neg then !b else b)) S
 |none=>False:=rfl
def Sg:=@zx
theorem Ab:uy neg x (.ref a) S Q=og S a λws=>match rM S x ws with
 |some b=>Q (.bl (if neg then !b else b)) S
 |none=>False:=rfl
def OW:=@Ab
theorem zu:uy neg (.str i) (.str j) S Q=Q (.bl (if neg then !(!(c8 j i 0 j.length 1).isEmpty) else !(c8 j i 0 j.length 1).isEmpty)) S:=rfl
def X9:=@zu
end
theorem E4{G:lF→Prop}(I:List W→mW→lF→Prop)
  (step:∀w ws σ S (N:mW→lF→Prop),I (w::ws) σ S→(∀σ' S' S'',Sub S'' S'→G S''→I ws σ' S''→N σ' S')→g w σ S λσ1 S1=>b E { D with nx:=N,ct:=N,bk:=D.nx } σ1 S1)
  (done:∀σ S,I [] σ S→D.nx σ S):∀(ws:List W) (σ:mW) (S:lF),I ws σ S→mS g b E D G ws σ S
 | [],σ,S,h=>done σ S h
 |w::ws,σ,S,h=>step w ws σ S _ h λσ' S' S'' sb hG hI=>⟨S'',sb,hG,E4 I step done ws σ' S'' hI⟩
section
variable {E:WX}{σ:mW}{S:lF}{Q:WK}{QB:Bool→lF→Prop}{QA:List W→lF→Prop}{QI:List W→(lF→Prop)→lF→Prop}{QO:Option Int→lF→Prop}{P:mW→lF→Prop}{D:m4}{w x y:W}{ws:List W}{EX:ah→lF→Prop}
def yE:=@iN.eq_def
def DL:=@wC.eq_def
def DG:=@my.eq_def
def Im:=@o5.eq_def
def Nt:=@nD.eq_def
def QC:=@rH.eq_def
def WN:=@tI.eq_def
def V6:=@tq.eq_def
def Vi:=@vz.eq_def
def SQ:=@zS.eq_def
def TB:=@nH.eq_def
def X_:=@nF.eq_def
def RN:=@mD.eq_def
def Oz:=@mY.eq_def
def PP:=@o9.eq_def
def rA:=@mB.eq_def
def Y9:=@mz.eq_def
def Gc:=@pe.eq_def
def zJ:=@nU.eq_def
def ED:=@pE.eq_def
def Y0:=@ae.eq_def
def Qc:=@iR.eq_def
def XZ:=@m9.eq_def
def Kd:=@nL.eq_def
def Hs:=@nA.eq_def
def Vu:=@mJ.eq_def
def uf:=@nC.eq_def
def Xl:=@qY.eq_def
def zFp:(ZX t u E σ S QA)=(t E σ S λx S1=>u E σ S1 λy S2=>match x,y with
 | .ref a, .ref b=>og S2 a λxs=>og S2 b λys=>xs.length+ys.length≤sizeLine∧QA (xs++ys) S2
 |_,_=>False):=pz id id
def KW:=@oO.eq_def
def UU:=@vX.eq_def
def Y7:=@oA.eq_def
def XC:=@ow.eq_def
def Xa:=@oE.eq_def
def Tu:=@wB.eq_def
def Y3:=@qR.eq_def
def Tf:=@vx.eq_def
def Xp:=@yp.eq_def
def PL:=@tQ.eq_def
def VA:=@so.eq_def
def Tl:=@wM.eq_def
def RP:=@vv.eq_def
def TC:=@wg.eq_def
def SV:=@oF.eq_def
def TV:=@on.eq_def
def WV:=@ud.eq_def
def Q3:=@pB.eq_def
def U3:=@ph.eq_def
def Vw:=@uA.eq_def
def Xe:=@sO.eq_def
def Qk:=@vt.eq_def
def Xk:=@t7.eq_def
def Gx:=@sk.eq_def
def Wh:=@t_.eq_def
def Wp:=@xn.eq_def
def Zz:=@xA.eq_def
end
section
variable {S:lF}{Q:WK}
theorem Ad:Q8 (.bW xs) (.int k) S Q=((xs≠ []∧ -(2 ^ 63)≤k∧k<2 ^ 63∧xs.length*k.toNat≤sizeLine)∧Q (.bW (bj k.toNat xs).flatten) S):=rfl
def Ql:=@Ad
theorem yU:xq neg y (.ref a) S Q=(match sS y with
 |some k=>t4 S a λgA=>Q (.bl (if neg then !(pN gA k).isSome else(pN gA k).isSome)) S
 |none=>False):=rfl
def W9:=@yU
theorem zf:Ut (.ref a) y S Q=(match sS y with
 |some k=>t4 S a λgA=>match pN gA k with
  |some w=>Q w S
  |none=>False
 |none=>False):=rfl
def Sc:=@zf
def XF:=@wo.eq_def
theorem zI:yV (.str z) [] S Q=(z.length≤5592405∧Q (.str (eG z)) S):=rfl
def Zy:=@zI
theorem Ge:∀p:List Int,qH (p.map W.int)=aa p
 | []=>rfl
 |i::p=>by rw[aC,qH,Ge p];rfl
def MN (p:List Int):sS (mE p)=aa p:=Ge p
def HW{P:List (List Int×W)→Prop}:t4 (bQ S a (.dct gA)) a P=P gA:=Gh mV
end
end L2
section
def L2.wZ (d:String):Lean.MacroM (Lean.TSyntax `tactic):=do
  let a:Array iv:=(("yE DL DG Im Nt QC WN V6 Vi SQ TB X_ RN Oz PP rA Y9 Gc zJ ED Y0 Qc XZ Kd Hs Vu uf Xl KW UU Y7 XC Xa Tu Y3 Tf Xp PL VA Tl RP TC SV TV WV Q3 U3 Vw Xe Qk Xk Gx Wh Wp Zz OE Gr Ql W9 Sc XF U9 Zy MN HW yB pM Eo N8 OB LY B2 Nh LG Ie K0 Iu Oc Nd KA IU N7 Jh Hd L5 IR NL GA HU HI oG oU LB GI GM oW o4 M' Qb Pf T_ YO Ow Cj SW Xj Pk Qd Tp Tj UQ Yu E_ Ib X2 RA Wk RV ZO Yy Vz XR A1 GP UJ Qe O_ Po Um Vs Ry XM U_ SH Rc YI O9 Pm Z' TJ OZ Q5 W6 SC Ul Zj Ro T4 LV VL SK Sg OW X9 List.map_cons List.map_nil List.length_cons List.length_nil List.cons_append List.nil_append List.append_nil List.replicate List.getElem?_cons_zero List.getElem?_cons_succ List.getElem?_nil List.set_cons_zero List.set_cons_succ Nat.reduceAdd Nat.reduceSub true_and and_true if_true if_false Bool.false_eq_true reduceIte Bool.not_true Bool.not_false Option.join_some Option.join_none decide_eq_true_eq and_self".splitOn " ").filter (· != d)).toArray.map λs=>iL s.toName
  `(tactic| simp only [$[$a:term],*])
local macro_rules | `(tactic| walk_at "wp") => L2.wZ ""
def L2.wY:Lean.MacroM (Lean.TSyntax `tactic):=do
  let a:Array iv:=("iN wC my o5 nD rH tI tq vz zS nH nF mD mY o9 mB mz pe nU pE ae iR m9 nL nA mJ nC qY oO vX oA ow oE wB qR vx yp tQ so wM vv wg oF on ud pB ph uA sO vt t7 sk t_ xn xA Ad yU zf wo vU zI y9 yO yx yy ye yM zN zH zW yW zY yl Aj zV zD zt zB yb xX yn zw Ah yd An zR yf Ai zP zZ zi yR yi zQ zl yA zX Am zO yC zE yg yZ zk ym zy zU yT zq yL yD Ac zg yk ya zx Ab zu List.map_cons List.map_nil List.length_cons List.length_nil List.cons_append List.nil_append List.append_nil List.replicate List.getElem?_cons_zero List.getElem?_cons_succ List.getElem?_nil List.set_cons_zero List.set_cons_succ Nat.reduceAdd Nat.reduceSub Option.join_some Option.join_none Bool.not_true Bool.not_false".splitOn " ").toArray.map λs=>iL s.toName
  let b:Array iv:=("OE Gr MN HW yB pM Eo N8 OB LY B2 Nh LG Ie K0 Iu Oc Nd KA IU N7 Jh Hd L5 IR NL GA HU HI oG oU LB GI GM oW o4 List.map_cons List.map_nil List.length_cons List.length_nil List.cons_append List.nil_append List.append_nil List.replicate List.getElem?_cons_zero List.getElem?_cons_succ List.getElem?_nil List.set_cons_zero List.set_cons_succ Nat.reduceAdd Nat.reduceSub true_and and_true if_true if_false Bool.false_eq_true reduceIte Bool.not_true Bool.not_false Option.join_some Option.join_none decide_eq_true_eq and_self".splitOn " ").toArray.map λs=>iL s.toName
  `(tactic| (first | (dsimp only [$[$a:term],*]; (try simp only [$[$b:term],*]); (try dsimp only [$[$a:term],*]); (try simp only [$[$b:term],*])) | (simp only [$[$b:term],*]; (try dsimp only [$[$a:term],*]); (try simp only [$[$b:term],*]))))
local macro_rules | `(tactic| ext) => L2.wY
namespace L2
open PySem PySem.Spec PyProof.Rows
def OE:(AH c t E σ S Q)=(t vq σ S λws S1=>c ws S1 Q λcl S2=>E cl σ S2):=pz id id
def C3:(uQ x t E D σ S)=(t E σ S λws S1=>ws.length≤sizeLine∧E x σ S1):=pz id id
def Gr:(A5 al t u E D σ S)=(t (λcl σ' S'=>cl∈al∧u vq D σ' S') D σ S):=pz id id
def wN:Expr→Bool
 | .Starred .. =>false
 |_=>true
def rk (es:List Expr):Bool:=es.all wN
def yo:Expr→Bool
 | .ListComp .. =>false
 | .SetComp .. =>false
 | .DictComp .. =>false
 |_=>true
def vQ:Expr→Bool
 | .Set .. =>false
 |_=>true
noncomputable def qG {α:Type}:List α→Option α
 | []=>none
 |a::r=>bif r.isEmpty then aa a else none
noncomputable def eNm:Expr→Option ah
 | .Name x _=>aa x
 |_=>none
noncomputable def Au:Expr→Option (ah×List Expr)
 | .Call f es ks _=>(eNm f).bind λx=>bif ks.isEmpty&&es.all wN&& !es.isEmpty then aa (x,es) else none
 |_=>none
noncomputable def EJ:Expr→Option (Option Expr×Option Expr)
 | .Slice lo hi st _=>bif st.isNone then aa (lo,hi) else none
 |_=>none
noncomputable def FJ:Expr→Option (Expr×Scope×bw×gI)
 | .ListComp e gs s p=>(qG gs).bind λg=>if g.is_async=0 then aa (e,s,p,g) else none
 |_=>none
noncomputable def Ih:List ExceptHandler→Option (ah×List aW)
 | []=>none
 | .ExceptHandler t n b _::r=>bif r.isEmpty&&n.isNone&& !b.isEmpty then t.bind λe=>(eNm e).map λx=>(x,b) else none
def Jc:Expr→Bool
 | .Slice .. =>false
 |_=>true
def Fz:Expr→Bool
 | .Call _ [] _ _=>false
 |_=>true
section
variable {e:Expr}{es:List Expr}{env:bN}{pos:bw}
def qj (h:wN e=true):ax (e::es) env=(false,aG e env)::ax es env:=by
 cases e<;>first |rfl |cases h
def Bb (h:rk es=true):(aZ pos (ax es env)).any (·.1)=false:=by
 induction es with
 |nil=>rfl
 |cons e es ih=>
  simp only[rk,eM,bV]at h;rw[qj h.1];exact ih h.2
def EG (h:yo e=true):d8 e tg n env=pure false:=by
 cases e<;>first |rfl |cases h
def F4 (h:vQ e=true):fY op e=false:=by
 cases e<;>first |rfl |cases h
def E1 (h:vQ e=true) (x:aj):dw e env x=pure x:=by
 cases e<;>first |rfl |cases h
def KZ (h:Jc e=true):BO e:=λo i=>by
 cases e<;>first |rfl |cases h
def y_ (h:Fz e=true):cP e m env t=t:=by
 cases e with
 |Call f as ks p=>
  cases as with
  |nil=>cases h
  |cons a as=>cases f<;>rfl
 |_=>rfl
end
structure Tb where
  fn:ah→Option mM
  gl:ah→Option W
  bl:List ah
  xs:List ah
  ex:List (ah×ah)
  cn:bw→List ah
  dn:ah→Bool
  nt:ah→Bool
structure Cn where
  N:List ah
  sc:Scope
  fn:Bool
  calm:Bool
structure Rg where
  e:Cn→Expr→WE
  t:Cn→Expr→WT
  l:Cn→Expr→Option WL
  s:Cn→aW→WS
def nZ {α β γ δ:Type}:α→β→γ→δ→Prop:=λ_ _ _ _=>False
def ui (x:ah):List ah→Nat→Option Nat
 | [],_=>none
 |y::r,i=>if x=y then aa i else ui x r (i+1)
theorem GV:∀{N:List ah}{j i:Nat},ui x N j=aa i→j≤i∧N[i - j]? =aa x
 | [],_,_,h=>nomatch h
 |y::r,j,i,h=>by
  unfold ui at h;split at h
  ·cases h;subst x;exact⟨aA _,by simp⟩
  ·obtain⟨h1,h2⟩:=GV h;refine⟨by lia,?_⟩;rw[show i - j=(i - (j+1))+1 by lia]
   exact h2
def Cn.vis (c:Cn) (x:ah):Bool:=(match c.sc.names.lookup x with
 |some .local |some .cell |some .free=>true
 |_=>false)&& !(x == ("__debug__" :ah))&& !(x == ("__classdict__" :ah))
def Cn.loc (c:Cn) (x:ah):Bool:=match c.sc.names.lookup x with
 |some .local=>true
 |some .cell=>c.fn
 |_=>false
def Cn.glo (c:Cn) (x:ah):Bool:=(match c.sc.names.lookup x with
 |some .globalImplicit=>true
 |_=>false)&& !(x == ("__debug__" :ah))
def oQ {α β γ δ:Type}(b:Bool) (t:α→β→γ→δ→Prop):α→β→γ→δ→Prop:=bif b then t else nZ
def iA (f:Expr→WE):List Expr→WA
 | []=>ae
 |e::es=>iR (f e) (iA f es)
def iO (f:Expr→WE) (o:Option Expr):WO:=o.elim oA λe=>ow (f e)
def uO (f:aW→WS):List aW→WS
 | []=>nF
 |s::r=>bif r.isEmpty then f s else mD (f s) (uO f r)
def AZ (o:BoolOp) (f:Expr→WE):List Expr→WE
 | []=>nZ
 |e::r=>bif r.isEmpty then f e else match o with
  | .And=>vz (f e) (AZ o f r)
  | .Or=>Nv (f e) (AZ o f r)
def BK (o:BoolOp) (f:Expr→WT):List Expr→WT
 | []=>nZ
 |e::r=>bif r.isEmpty then f e else match o with
  | .And=>rH (f e) (BK o f r)
  | .Or=>tI (f e) (BK o f r)
def AC (c:Cn) (x:ah):WG:=(ui x c.N 0).elim nZ λk=>oQ (c.loc x) (mB k)
def Bf (c:Cn):List Expr→WGs
 | []=>pe
 |e::r=>(eNm e).elim nZ λx=>nU (AC c x) (Bf c r)
def iG (c:Cn) (e:Expr):WG:=match e with
 | .Name x _=>AC c x
 | .Tuple es _ _=>oQ (rk es&&c.calm) (pE (Bf c es))
 |_=>nZ
noncomputable def Wq (T:Tb) (e:Expr):Bool:=(eNm e).elim false T.dn
noncomputable def Q9 (T:Tb):Expr→Bool
 | .Call f _ _ _=>(eNm f).elim false T.nt
 |_=>false
def isT:Expr→Bool
 | .Tuple .. =>true
 |_=>false
def FE:Expr→Bool
 | .Compare .. =>false
 | .UnaryOp o _ _=>decide (o≠ .Not)
 | .BoolOp .. =>false
 | .IfExp .. =>false
 |_=>true
noncomputable def iK:Const→Option W
 | .int n=>aa (.int n)
 | .bool b=>aa (.bl b)
 | .none=>aa .ci
 | .str x=>aa (.str x)
 |_=>none
noncomputable def MD:Operator→Option W2
 | .Add=>aa ou
 | .Sub=>aa (rz λi j=> .int (i - j))
 | .Mult=>aa (oH rp λi j=> .int (i*j))
 | .FloorDiv=>aa (oH sM λi j=> .int (i / j))
 | .Mod=>aa (oH (λ_ j=>0<j) λi j=> .int (i % j))
 | .Pow=>aa (oH Cw λi j=> .int (i ^ j.toNat))
 |_=>none
noncomputable def Mr (d:Bool):CmpOp→Option W2
 | .Eq=>aa (oO false)
 | .NotEq=>aa (oO true)
 | .Lt=>aa vj
 | .LtE=>aa sI
 | .Gt=>aa uc
 | .GtE=>aa Mb
 | .Is=>aa (pA false)
 | .IsNot=>aa (pA true)
 | .In=>aa (if d then xq false else uy false)
 | .NotIn=>aa (if d then xq true else uy true)
noncomputable def bA:List (ah×WF):=[("len",oR),("tuple",rG),("int",wV),("min",uI)]
noncomputable def bL:List (ah×WF):=[("tuple",vx),("all",tQ),("sum",wo),("dict",vU)]
noncomputable def mA:List (ah×(W→lF→Prop)×rq):=[("append",pJ,qy),("extend",pJ,wa)]
noncomputable def mL:List (ah×(W→lF→Prop)×rq):=[("extend",pJ,zK),("join",ve,xN)]
noncomputable def m0:List (ah×(W→lF→Prop)×rq):=[("upper",ve,yV)]
noncomputable def GF:List (ah×String):=[("int", "int"),("bool", "bool"),("str", "str"),("tuple", "tuple"),("list", "list")]
section
variable (T:Tb) (i:Rg) (c:Cn)
noncomputable def Be:Expr→Option WL
 | .Subscript a b _=>(EJ b).map λq=>vt (i.e c a) (iO (i.e c) q.1) (iO (i.e c) q.2)
 |_=>none
def Bc (a:Expr) (os:List CmpOp) (bs:List Expr):WE:=(qG os).elim (match bs with
 | []=>nZ
 |b::r=>(qG r).elim nZ λd=>oQ (decide (os=[.LtE, .LtE])&&vQ d) (vX sI sI (i.e c a) (i.e c b) (i.e c d))) λo=>(qG bs).elim nZ λb=>(Mr (Wq T b) o).elim nZ λw=>oQ (vQ b&&c.calm) (my w (i.e c a) (i.e c b))
noncomputable def OJ (x:ah) (es:List Expr):Option WL:=(qG es).bind λa=>(i.l c a).elim (bif decide (x= "tuple") then Be i c a else none) aa
def IZ:List Expr→WE
 | []=>nZ
 |a::r=>((qG r).bind eNm).elim nZ λt=>(GF.lookup t).elim nZ λs=>oQ (c.glo t&&T.bl.contains t) (so s (i.e c a))
def iB (x:ah) (es:List Expr):WE:=bif decide (x= "isinstance") then IZ T i c es else((OJ i c x es).bind λl=>(bL.lookup x).map λf=>qR f l).elim ((bA.lookup x).elim nZ λf=>oQ (!es.isEmpty) (wB f (iA (i.e c) es))) id
def iM (m:ah) (o:Expr):List Expr→WE
 | []=>(m0.lookup m).elim nZ λq=>wM q.1 q.2 (i.e c o) ae
 |a::r=>oQ r.isEmpty (((i.l c a).bind λl=>(mL.lookup m).map λq=>vv q.1 q.2 (i.e c o) l).elim ((mA.lookup m).elim nZ λq=>wM q.1 q.2 (i.e c o) (iA (i.e c) [a])) id)
def Ly (f:Expr) (es:List Expr) (p:bw):WE:=match f with
 | .Name x _=>oQ (c.glo x&&rk es&&c.calm) ((T.fn x).elim (oQ (T.bl.contains x) (iB T i c x es)) λs=>oQ (!es.isEmpty) (mJ s (iA (i.e c) es)))
 | .Attribute o m ap=>oQ (Fz o&&rk es&&(ap.endLine == p.line)) (iM i c m o es)
 |_=>nZ
def Ny (e:Expr):WE:=(i.l c e).elim (match e with
  | .Name x _=>(ui x c.N 0).elim ((T.gl x).elim nZ λw=>oQ (c.glo x) (wC w)) λk=>oQ (c.vis x) (iN k)
  | .Constant v _ _=>(iK v).elim nZ wC
  | .UnaryOp o a _=>(match o with
   | .Not=>bif Q9 T a then yN (i.e c a) else MC (i.e c a)
   | .USub=>qY (i.e c a)
   |_=>nZ)
  | .BinOp a o b _=>(MD o).elim nZ λw=>my w (i.e c a) (i.e c b)
  | .Compare a os bs _=>Bc T i c a os bs
  | .BoolOp o es _=>AZ o (i.e c) es
  | .IfExp t a b _=>zS (i.t c t) (i.e c a) (i.e c b)
  | .Tuple es _ _=>oQ (rk es) (m9 (iA (i.e c) es))
  | .Subscript a b _=>(EJ b).elim (oQ (Jc b) ((i.l c a).elim (my mH (i.e c a) (i.e c b)) λl=>t7 l (i.e c b))) λq=>oE (i.e c a) (iO (i.e c) q.1) (iO (i.e c) q.2)
  | .Call f es ks p=>oQ ks.isEmpty (Ly T i c f es p)
  |_=>nZ) nA
def LU (e:Expr):WT:=match e with
 | .Compare a os bs _=>(qG os).elim nZ λ_=>nD (Bc T i c a os bs)
 | .UnaryOp o a _=>bif decide (o= .Not) then tq (i.t c a) else oQ (FE e) (o5 (i.e c e))
 | .BoolOp o es _=>BK o (i.t c) es
 |e=>oQ (FE e) (o5 (i.e c e))
noncomputable def LD (tg:Expr) (x:ah) (es:List Expr):Option WI:=bif decide (x= "range") then(qG es).map λa=>ud (iA (i.e c) [a]) else bif decide (x= "enumerate")&&isT tg then(qG es).map λa=>uA (i.e c a) else bif decide (x= "zip")&&isT tg then(match es with
 | []=>none
 |a::r=>(qG r).map λb=>sO (i.e c a) (i.e c b)) else none
def iI (tg e:Expr):WI:=((Au e).bind λq=>bif c.glo q.1&&T.bl.contains q.1 then LD i c tg q.1 q.2 else none).elim ((i.l c e).elim (on (i.e c e)) J8) id
noncomputable def D9 (s:Scope) (c:Cn):Scope:={ s with names:=s.names.map λ(n,k)=>if(k == .free&&c.sc.kind == .function&&c.sc.names.lookup n == aa .cell) then(n, .cell) else(n,k) }
def DQ (s:Scope) (N:List ah) (k:Nat) (fr:List Nat):Bool:=decide (s.kind= .function)&&decide N.Nodup&&decide (N.length=k+fr.length)&&(s.names.all λy=>y.2 != cj)
 &&(s.names.all λy=>y.2 != b8.local || s.names.lookup y.1 == aa b8.local)&&(s.names.all λy=>y.2 != bc || c.sc.names.lookup y.1 == aa cj || c.sc.names.lookup y.1 == aa bc)
 &&((N.drop k).all λx=>s.names.lookup x == aa bc)&&decide (N.drop k=fr.map λj=>c.N.getD j fI)&&(fr.all λj=>decide (j<c.N.length))
def iC (q:Expr×Scope×bw×gI):WL:=
 let N:=T.cn q.2.2.1
 let fr:=(N.filter λx=>q.2.1.names.lookup x == aa bc).filterMap λx=>ui x c.N 0
 let d:Cn:=⟨N,D9 q.2.1 c,false,true⟩
 oQ (DQ c q.2.1 N (N.length - fr.length) fr&&vQ q.2.2.2.iter&&c.calm) (ph (N.length - fr.length) fr (iI T i c q.2.2.2.target q.2.2.2.iter) (iG d q.2.2.2.target) (match q.2.2.2.ifs with
  | []=>pB
  |t::r=>oQ r.isEmpty (i.t d t)) (i.e d q.1))
noncomputable def K_ (e:Expr):Option WL:=match e with
 | .List es _=>bif rk es then aa (nL (iA (i.e c) es)) else none
 | .ListComp .. =>(FJ e).map (iC T i c)
 | .BinOp a o b _=>(match o with
  | .Mult=>(i.l c a).map λl=>xA l (i.e c b)
  | .Add=>(i.l c a).elim ((i.l c b).map λm=>(Be i c a).elim (sk (i.e c a) m) λl=>t_ l m) λl=>aa (((i.l c b).elim (Be i c b) aa).elim (xn l (i.e c b)) λm=>t_ l m)
  |_=>none)
 | .Call .. =>(Au e).bind λq=>bif decide (q.1= "list")&&c.glo q.1&&T.bl.contains q.1 then(qG q.2).map λa=>yp (i.e c a) else none
 |_=>none
def iX:List aW→WS
 | []=>nZ
 |s::r=>match s with
  | .Return v _=>(v.bind Au).elim nZ λq=>(T.fn q.1).elim nZ λs=>oQ (r.isEmpty&&c.glo q.1) (mY (AH s (iA (i.e c) q.2)))
  |_=>nZ
def Ki (tg e:Expr):WS:=match tg with
 | .Name x _=>(ui x c.N 0).elim nZ λk=>oQ (c.loc x) ((FJ e).elim (oQ (yo e) (mz (i.e c e) (mB k))) λq=>mz (nA (iC T i c q)) (mB k))
 | .Tuple .. =>oQ (yo e&& !isT e) (mz (i.e c e) (iG c tg))
 |_=>nZ
def LC (s:aW):WS:=match s with
 | .Return v _=>v.elim Gu λe=>mY (i.e c e)
 | .Pass _=>nF
 | .Expr e _=>oQ (yo e) (o9 (i.e c e))
 | .If t a b _=>nH (i.t c t) (uO (i.s c) a) (uO (i.s c) b)
 | .While t b os _=>oQ os.isEmpty (xR (i.t c t) (uO (i.s c) b))
 | .For tg it b os _=>oQ (os.isEmpty&&vQ it&&c.calm) (oF (iI T i c tg it) (iG c tg) (uO (i.s c) b))
 | .AugAssign t o e _=>oQ (decide (o= .Add)) ((eNm t).elim nZ λx=>(ui x c.N 0).elim nZ λk=>oQ (c.loc x) (wg k (λa b=>a+b) (i.e c e)))
 | .Assign ts e _=>(qG ts).elim nZ λtg=>Ki T i c tg e
 | .Raise v cs _=>(v.bind Au).elim nZ λq=>oQ (cs.isNone&&T.xs.contains q.1&&c.glo q.1&&c.calm) (uQ q.1 (iA (i.e c) q.2))
 | .Try b hs os fs p=>(Ih hs).elim nZ λq=>oQ (os.isEmpty&&fs.isEmpty&&c.fn&&c.calm&&c.glo q.1&&((T.cn p).all λy=>T.ex.contains (y,q.1))&& !(T.cn p).isEmpty) (A5 (T.cn p) (iX T i c b) (uO (i.s ⟨c.N,c.sc,true,false⟩) q.2))
 |_=>nZ
end
noncomputable def T7 (T:Tb) (i:Rg):Rg:=⟨Ny T i,LU T i,K_ T i,LC T i⟩
noncomputable def RL:Rg:=⟨λ_ _=>nZ,λ_ _=>nZ,λ_ _=>none,λ_ _=>nZ⟩
noncomputable def FX (T:Tb):Nat→Rg
 |0=>RL
 |n+1=>T7 T (FX T n)
def RW (T:Tb) (n k:Nat) (N:List ah) (st:aW):mM:=nC n k (uO ((FX T 40).s ⟨N,qt st,true,true⟩) (uk st))
structure En where
  eNm:ah
  st:aW
  N:List ah
  k:Nat
  c:Nat→mM
noncomputable def En.ps (e:En):List ah:=e.N.take e.k
noncomputable def En.ok (e:En):Bool:=decide ((qt e.st).kind= .function)&& !(qt e.st).isCoroutine&& !(qt e.st).isGenerator&&decide e.N.Nodup&&decide (e.N.take e.ps.length=e.ps)&&decide (e.ps.length=e.k)&&decide (e.k≤6)
 &&(e.ps.all λx=>decide ((qt e.st).names.lookup x=aa .local) || decide ((qt e.st).names.lookup x=aa .cell))&&(qt e.st).names.all λy=>y.2 != .free
noncomputable def En.bd (e:En) (kV doc pm:aj) (an:Option ai) (cdv ct:aj) (vs:List aj):ce (List (ah×aj)):=jg (dC e.eNm e.eNm (xg e.st) (uk e.st) (qt e.st) .none kV doc pm an cdv ct) ⟨vs.take e.k,[]⟩
def En.rd (e:En) (T:Tb):mM:=RW T e.N.length e.k e.N e.st
noncomputable def lkT (tab:List En) (r:Nat) (x:ah):Option mM:=(tab.map λe=>(e.eNm,e.c r)).lookup x
structure TM (T:Tb) (r:Nat) (X:Cx):Prop where
  fn:∀x s,T.fn x=aa s→ ∃f fd ps,oV X.prog X.w X.K X.mg X.base (sj X.prog X.w) r f fd ps (si X.K s)∧X.mg x=aa (.ref f)∧fh X.K (.ref f)=true∧px X.K fd ps []
  gl:∀x w,T.gl x=aa w→(∃i u,w= .int i∧X.mg x=aa (.int i u))∨ ∃i u,w= .str i∧X.mg x=aa (.str i u)
  bl:∀x∈T.bl,X.mg x=none
  xs:∀x∈T.xs,∃C,qr X.K x C∧X.mg x=aa (.ref C)
  ex:∀p∈T.ex,∃C D,qr X.K p.1 C∧X.mg p.2=aa (.ref D)∧eP X.K (.ref C) (.ref D)=aa true
structure nY (T:Tb) (r:Nat) (X:Cx) (c:Cn):Prop where
  g:TM T r X
  N:X.N=c.N
  sc:X.env.scope=c.sc
  nd:c.N.Nodup
  fn:X.fn=λ_=>c.fn
  hr:c.calm=true→om r X.A
  calm:X.calm=c.calm
  st:c.fn=true→X.stack=X.env::X.outer∧X.env.frame=aa X.env.locals
structure Rg.Ok (T:Tb) (r:Nat) (i:Rg):Prop where
  e:∀{X c e},nY T r X c→JE X e (i.e c e)
  t:∀{X c e},nY T r X c→JT X e (i.t c e)
  l:∀{X c e l},nY T r X c→i.l c e=aa l→JL X e l
  s:∀{X c s},nY T r X c→JS X s (i.s c s)
section
variable {T:Tb}{r:Nat}{X:Cx}{c:Cn}{i:Rg}{e a b:Expr}{es:List Expr}{x:ah}{pos p:bw}{k:Nat}
def rW:JE X e nZ:=λ_ _ _ _ _ _ _ _ ⟨_,_,_,_,_,h,_⟩=>h.elim
def Dm:JT X e nZ:=λ_ _ _ _ _ _ _ _ ⟨_,_,_,_,_,h,_⟩=>h.elim
def Tv:JL X e nZ:=λ_ _ _ _ _ _ _ _ ⟨_,_,_,_,_,h,_⟩=>h.elim
def Ce:JG X e nZ:=λ_ _ _ _ _ _ _ _ _ _ _ ⟨_,_,_,_,_,_,_,h,_⟩=>h.elim
def yq:JS X s nZ:=RS
def Vd:u_ X es nZ:=λ_ _ _ _ _ _ _ _ ⟨_,_,_,_,_,h,_⟩=>h.elim
def Ar:v5 X ss nZ:=λ_ _ _ _ _ _ _ _ ⟨_,_,_,_,_,h,_⟩=>h.elim
def nY.at_ (F:nY T r X c) (h:ui x c.N 0=aa k):X.N[k]? =aa x:=by rw[F.N];exact(GV h).2
def nY.ndX (F:nY T r X c):X.N.Nodup:=by rw[F.N];exact F.nd
def nY.vis (F:nY T r X c) (h:c.vis x=true):vF X.env.scope x∧(x == ("__debug__" :ah))=false∧(x == ("__classdict__" :ah))=false:=by
 unfold Cn.vis at h;rw[bV,bV,ig,ig]at h;obtain⟨⟨h1,h2⟩,h3⟩:=h;refine⟨?_,h2,h3⟩;rw[F.sc];split at h1
 ·exact .inl ‹_›
 ·exact .inr (.inl ‹_›)
 ·exact .inr (.inr ‹_›)
 ·cases h1
def nY.loc (F:nY T r X c) (h:c.loc x=true):tp X.env.scope x∧(X.fn x=true∨X.env.scope.names.lookup x=aa .local):=by
 unfold Cn.loc at h;rw[F.sc,F.fn];split at h
 ·exact⟨.inl ‹_›, .inr ‹_›⟩
 ·exact⟨.inr ‹_›, .inl h⟩
 ·cases h
def nY.glo (F:nY T r X c) (h:c.glo x=true):Gl X x∧(x == ("__debug__" :ah))=false:=by
 unfold Cn.glo at h;rw[bV,ig]at h;refine⟨?_,h.2⟩;unfold Gl bN.kindOf;rw[F.sc];have h1:=h.1;split at h1
 ·assumption
 ·cases h1
def nY.blt (F:nY T r X c) (h:T.bl.contains x=true):X.mg x=none:=F.g.bl x (gB.mp h)
def rh (h:rk (e::es)=true):wN e=true∧rk es=true:=by
 simpa [rk]using h
section
variable {α β γ δ:Type}{b:Bool}
def tw{t:α→β→γ→δ→Prop}{P:(α→β→γ→δ→Prop)→Prop}(h0:P nZ) (h:b=true→P t):P (oQ b t):=by
 cases b with
 |true=>exact h rfl
 |false=>exact h0
def pO{f:α→β}{P:β→Prop}(h0:o=none→P d) (h:∀a,o=aa a→P (f a)):P (o.elim d f):=by
 cases o with
 |none=>exact h0 rfl
 |some a=>exact h a rfl
def xL{P:α→Prop}(h0:b=false→P u) (h:b=true→P t):P (bif b then t else u):=by
 cases b with
 |true=>exact h rfl
 |false=>exact h0 rfl
def uh{t:Option α}{a:α}(h:(bif b then t else none)=aa a):b=true∧t=aa a:=by
 cases b with
 |true=>exact⟨rfl,h⟩
 |false=>cases h
def s_{f:α→β}(h:o.map f=aa y):∃a,o=aa a∧f a=y:=Option.map_eq_some_iff.mp h
def sY{o:Option α}{f:α→Option β}{y:β}(h:o.bind f=aa y):∃a,o=aa a∧f a=aa y:=Option.bind_eq_some_iff.mp h
def tu{l:List α}{a:α}(h:qG l=aa a):l=[a]:=by
 cases l with
 |nil=>cases h
 |cons x r=>
  obtain⟨h1,h2⟩:=uh h;cases h2;rw[cB.mp h1]
end
def uN{α:Type}{o:Option α}{f:α→WE}(h:∀a,o=aa a→JE X e (f a)):JE X e (o.elim nZ f):=pO (P:=JE X e) (λ_=>rW) h
def rP{b:Bool}{t:WE}(h:b=true→JE X e t):JE X e (oQ b t):=tw (P:=JE X e) rW h
def xU{α:Type}{s:aW}{o:Option α}{f:α→WS}(h:∀a,o=aa a→JS X s (f a)):JS X s (o.elim nZ f):=pO (P:=JS X s) (λ_=>yq) h
def tR{b:Bool}{s:aW}{t:WS}(h:b=true→JS X s t):JS X s (oQ b t):=tw (P:=JS X s) yq h
def vM{α:Type}{a:α}{P:Prop}(h:none=aa a):P:=nomatch h
def MU (h:isT e=true):∃es k p,e= .Tuple es k p:=by
 cases e with
 |Tuple es k p=>exact⟨es,k,p,rfl⟩
 |_=>exact absurd h cW
def nV{a b:Bool}(h:(a&&b)=true):a=true∧b=true:=bV _ _▸h
def zc (h:eNm e=aa x):∃p,e= .Name x p:=by
 cases e with
 |Name y p=>cases h;exact⟨_,rfl⟩
 |_=>exact vM h
def AO{q:ah×List Expr}(h:Au e=aa q):∃p p' a r,e= .Call (.Name q.1 p) (a::r) [] p'∧q.2=a::r∧rk (a::r)=true:=by
 cases e with
 |Call f es ks p'=>
  obtain⟨x,h1,h2⟩:=sY h;obtain⟨g2,h3⟩:=uh h2;obtain⟨g3,h4⟩:=nV g2;obtain⟨p,rfl⟩:=zc h1;cases h3;cases es with
  |nil=>cases h4
  |cons a r=>exact⟨p,p',a,r,by rw[cB.mp (nV g3).1],rfl,(nV g3).2⟩
 |_=>exact vM h
def Mc{q:Option Expr×Option Expr}(h:EJ e=aa q):∃p,e= .Slice q.1 q.2 none p:=by
 cases e with
 |Slice lo hi st p=>
  obtain⟨h1,h2⟩:=uh h;cases h2;cases st with
  |none=>exact⟨p,rfl⟩
  |some=>cases h1
 |_=>exact vM h
def LP{q:Expr×Scope×bw×gI}(h:FJ e=aa q):e= .ListComp q.1 [⟨q.2.2.2.target,q.2.2.2.iter,q.2.2.2.ifs,0⟩] q.2.1 q.2.2.1:=by
 cases e with
 |ListComp e gs s p=>
  obtain⟨g,h1,h2⟩:=sY h;rw[tu h1];obtain⟨t,it,fs,n⟩:=g;dsimp only at h2;split at h2
  ·cases h2;subst n;rfl
  ·cases h2
 |_=>exact vM h
def ZF (h:Ih hs=aa q):∃p p' a r,hs=[.ExceptHandler (aa (.Name q.1 p)) none (a::r) p']∧q.2=a::r:=by
 cases hs with
 |nil=>cases h
 |cons z r=>
  obtain⟨t,n,b,p'⟩:=z;obtain⟨h1,h2⟩:=uh h;obtain⟨g1,h3⟩:=nV h1;obtain⟨e,rfl,g2⟩:=sY h2;obtain⟨x,h5,h6⟩:=s_ g2;obtain⟨p,rfl⟩:=zc h5;cases h6;cases b with
  |nil=>cases h3
  |cons a b=>
   cases n with
   |none=>exact⟨p,p',a,b,by rw[cB.mp (nV g1).1],rfl⟩
   |some=>cases(nV g1).2
theorem tM (ok:i.Ok T r) (F:nY T r X c):∀{es:List Expr},rk es=true→JA X es (iA (i.e c) es)
 | [],_=>Yj
 |_::_,h=>Qi (ok.e F) (tM ok F (rh h).2) (qj (rh h).1)
def Cz (ok:i.Ok T r) (F:nY T r X c):JO X o (iO (i.e c) o):=by
 cases o with
 |none=>exact Tk
 |some=>exact R4 (ok.e F)
theorem vS (ok:i.Ok T r) (F:nY T r X c):∀{ss:List aW},sB X ss (uO (i.s c) ss)
 | []=>Y6
 |s::ss=>xL (P:=sB X (s::ss)) (λ_=>XN (ok.s F) (vS ok F)) λh=>by rw[cB.mp h];exact Uj (ok.s F)
theorem Di (ok:i.Ok T r) (F:nY T r X c):∀{es:List Expr},JE X (.BoolOp o es pos) (AZ o (i.e c) es)
 | []=>rW
 | [_]=>WH (ok.e F)
 |a::b::es=>by
  cases o
  ·exact RK (ok.e F) (Di ok F)
  ·exact Uc (ok.e F) (Di ok F)
theorem Fd (ok:i.Ok T r) (F:nY T r X c):∀{o:BoolOp}{es:List Expr},JW X (.BoolOp o es pos) (BK o (i.t c) es)
 |_,[]=>λ_ _ _ _ _ _ _ _ _ ⟨_,_,_,_,_,h,_⟩=>h.elim
 | .And,[_]=>QV (ok.t F)
 | .Or,[_]=>XJ (ok.t F)
 | .And,_::_::_=>XG (ok.t F) (Fd ok F)
 | .Or,_::_::_=>R_ (ok.t F) (Fd ok F)
def CU (h:wN e=true):cb (e::es) env=(false,assign e env)::cb es env:=by
 cases e<;>first |rfl |cases h
def HM (F:nY T r X c):JG X (.Name x pos) (AC c x):=pO (P:=JG X (.Name x pos)) (λ_=>Ce) λk h=>tw Ce λq=>U0 F.ndX (F.at_ h) (F.loc q).1 (F.loc q).2
def Tc{P:mW→lF→Prop}:AC c x w σ S P→ ∃σ' S',P σ' S':=pO (P:=λ(t:WG)=>t w σ S P→ ∃σ' S',P σ' S') (λ_ h=>h.elim) λk _=>tw (P:=λ(t:WG)=>t w σ S P→ ∃σ' S',P σ' S') (λh=>h.elim) λ_ h=>⟨_,_,h⟩
def Px:ww X es nZ:=λ_ _ _ _ _ _ _ _ _ _ _ ⟨_,_,_,_,_,_,_,h,_⟩=>h.elim
theorem L6 (F:nY T r X c):∀{es:List Expr},rk es=true→ww X es (Bf c es)∧(cb es X.env).length=es.length∧(cb es X.env).findIdx? (·.1)=none∧ ∀ws σ S P,Bf c es ws σ S P→ws.length=es.length
 | [],_=>⟨Qo,rfl,rfl,λws _ _ _ h=>by cases ws with |nil=>rfl |cons=>exact h.elim⟩
 |e::es,h=>by
  obtain⟨h1,h2⟩:=rh h;obtain⟨g1,g2,g3,g4⟩:=L6 F h2;refine⟨pO (P:=ww X (e::es)) (λ_=>Px) λx q=>?_,by rw[CU h1,aU,g2];rfl,by rw[CU h1,List.findIdx?_cons,g3];rfl,λws σ S P=>pO (P:=λ(t:WGs)=>t ws σ S P→ws.length=es.length+1) (λ_ h=>h.elim) λx q h=>?_⟩
  ·obtain⟨p,rfl⟩:=zc q;exact Pz (HM F) g1 (by rw[CU h1];rfl)
  ·cases ws with
   |nil=>exact h.elim
   |cons w ws=>obtain⟨σ',S',q⟩:=Tc h;rw[aU,g4 _ _ _ _ q]
def Bs (F:nY T r X c):JG X e (iG c e):=by
 cases e with
 |Name=>exact HM F
 |Tuple es k p=>
  refine tw (P:=JG X (.Tuple es k p)) Ce λh=>?_;obtain⟨g1,g2,g3,g4⟩:=L6 F (nV h).1;exact YR g1 g4 g2 g3 (F.calm.trans (nV h).2)
 |_=>exact Ce
def Pq (h:MD o=aa w) (ha:JE X a ta) (hb:JE X b tb):JE X (.BinOp a o b pos) (my w ta tb):=by
 cases o<;>cases h
 ·exact ZM ha hb
 ·exact Zn ha hb
 ·exact QU ha hb
 ·exact Uq ha hb
 ·exact UT ha hb
 ·exact SF ha hb
def XW (F:nY T r X c) (hc:c.calm=true) (h:Mr d o=aa w):∃R,oh X (bB o) R∧qX X.K R w:=by
 have hu:=(F.hr hc).units;cases o<;>cases h
 ·exact⟨_,Zb (by lia),Ka⟩
 ·exact⟨_,Vl (by lia),Ka⟩
 ·exact⟨_,V9,FS⟩
 ·exact⟨_,sT.or Ea,ET⟩
 ·exact⟨_,Qw,FS⟩
 ·exact⟨_,Qt,FS⟩
 ·exact⟨_,ZT,UN⟩
 ·exact⟨_,Ta,Ws⟩
 ·cases d
  ·exact⟨_,rO.or (QK (by lia)),λH x y wx wy S Q QW rx ry hS h hQ=>NX rx ry hS h hQ⟩
  ·exact⟨_,ZV (by lia),Iw⟩
 ·cases d
  ·exact⟨_,qx.or (Sy (by lia)),λH x y wx wy S Q QW rx ry hS h hQ=>NX rx ry hS h hQ⟩
  ·exact⟨_,PR (by lia),Iw⟩
def Rf (h:vQ b=true):h_ [.LtE, .LtE] [a,b]=false:=F4 (op:= .LtE) h
def L9 (ok:i.Ok T r) (F:nY T r X c) {os:List CmpOp}:JE X (.Compare a os bs pos) (Bc T i c a os bs)∧ ∀o,qG os=aa o→JT X (.Compare a os bs pos) (nD (Bc T i c a os bs)):=by
 have no:JT X (.Compare a os bs pos) (nD nZ):=λ_ _ _ _ _ _ _ _ ⟨_,_,_,_,_,h,_⟩=>h.elim;refine pO (P:=λt=>JE X (.Compare a os bs pos) t∧ ∀o,qG os=aa o→JT X (.Compare a os bs pos) (nD t)) (λh=>⟨?_,λo q=>by rw[h]at q;cases q⟩) λo h=>?_
 ·cases bs with
  |nil=>exact rW
  |cons b s=>
   refine uN λd q=>rP λz=>?_;rw[tu q,of_decide_eq_true (nV z).1];exact XH (ok.e F) (ok.e F) (ok.e F) (Rf (nV z).2)
 ·refine pO (P:=λt=>JE X (.Compare a os bs pos) t∧ ∀o,qG os=aa o→JT X (.Compare a os bs pos) (nD t)) (λ_=>⟨rW,λ_ _=>no⟩) λb q=>pO (P:=λt=>JE X (.Compare a os bs pos) t∧ ∀o,qG os=aa o→JT X (.Compare a os bs pos) (nD t)) (λ_=>⟨rW,λ_ _=>no⟩) λw z=>tw (P:=λt=>JE X (.Compare a os bs pos) t∧ ∀o,qG os=aa o→JT X (.Compare a os bs pos) (nD t)) ⟨rW,λ_ _=>no⟩ λy=>?_;obtain⟨R,h1,h2⟩:=XW F (nV y).2 z;rw[tu h,tu q];exact⟨RE h1 h2 (ok.e F) (ok.e F) (F4 (nV y).1),λ_ _=>Q1 h1 h2 (ok.e F) (ok.e F) (F4 (nV y).1)⟩
def E9 (ok:i.Ok T r) (F:nY T r X c) (h:Be i c e=aa l):JL X e l:=by
 cases e with
 |Subscript a b p=>
  obtain⟨q,h1,rfl⟩:=s_ h;obtain⟨p',rfl⟩:=Mc h1;exact X8 (ok.e F) (Cz ok F) (Cz ok F)
 |_=>exact vM h
def Vq (ok:i.Ok T r) (F:nY T r X c) (h:OJ i c x es=aa l):∃a,es=[a]∧JL X a l:=by
 obtain⟨a,h1,h2⟩:=sY h;refine⟨a,tu h1,?_⟩;cases q:i.l c a with
 |none=>rw[q]at h2;exact E9 ok F (uh h2).2
 |some m=>rw[q]at h2;cases h2;exact ok.l F q
def vc{α:Type}{l:List (ah×α)}{y:α}(h:l.lookup x=aa y):(x,y)∈l:=by
 induction l with
 |nil=>cases h
 |cons p l ih=>
  obtain⟨z,w⟩:=p;rw[cu]at h;split at h
  ·cases h;rename_i e;rw[beq_iff_eq]at e;subst e;exact aL
  ·exact aI _ (ih h)
def Zq (ok:i.Ok T r) (F:nY T r X c) (hg:Gl X "isinstance") (hm:X.mg "isinstance" =none) (hs:rk es=true):JE X (.Call (.Name "isinstance" p) es [] pos) (IZ T i c es):=by
 cases es with
 |nil=>exact rW
 |cons a s=>
  refine uN λt q=>uN λs h1=>rP λh=>?_;obtain⟨b,q1,q2⟩:=sY q;obtain⟨p2,rfl⟩:=zc q2;rw[tu q1];have ha:=(rh hs).1;have hh:=vc h1;have k:=λT' hv hn hd hk=>YV (T':=T') (p:=p) (pos:=pos) hg hm (F.glo (nV h).1).1 (F.blt (nV h).2) hv (ok.e F (e:=a)) hn hd hk (qj ha) (p2:=p2);simp only[GF,az,dD,bq,or_false]at hh;obtain ⟨rfl,rfl⟩ |⟨rfl,rfl⟩ |⟨rfl,rfl⟩ |⟨rfl,rfl⟩ |⟨rfl,rfl⟩:=hh
  ·exact k _ boot_int (by decide) (by decide) (zn _ (by simp))
  ·exact k _ boot_bool (by decide) (by decide) (zn _ (by simp))
  ·exact k _ boot_str (by decide) (by decide) (zn _ (by simp))
  ·exact k _ boot_tuple (by decide) (by decide) (zn _ (by simp))
  ·exact k _ boot_list (by decide) (by decide) (zn _ (by simp))
def Sz (ok:i.Ok T r) (F:nY T r X c) (hg:Gl X x) (hm:X.mg x=none) (hs:rk es=true) (hc:c.calm=true):JE X (.Call (.Name x p) es [] pos) (iB T i c x es):=by
 have cl:=F.calm.trans hc;refine xL (P:=JE X _) (λ_=>pO (P:=JE X _) (λ_=>uN λf h2=>rP λq=>?_) λt h=>?_) λh=>?_
 ·cases es with
  |nil=>cases q
  |cons a as=>
   obtain⟨ha,hb⟩:=rh hs;have hh:=vc h2;have ia:=tM ok F hs;have sa:=qj (es:=as) (env:=X.env) ha;have sb:=Bb (pos:=pos) (env:=X.env) hb;simp only[bA,az,dD,bq,or_false]at hh;obtain ⟨rfl,rfl⟩ |⟨rfl,rfl⟩ |⟨rfl,rfl⟩ |⟨rfl,rfl⟩:=hh
   ·exact Z9 hg hm ia sa sb
   ·exact Tz hg hm ia sa sb
   ·exact Yb hg hm ia sa sb
   ·exact Td hg hm ia sa sb cl
 ·obtain⟨l,h1,h3⟩:=sY h;obtain⟨f,h2,rfl⟩:=s_ h3;obtain⟨a,rfl,hl⟩:=Vq ok F h1;have sa:=qj (es:=[]) (env:=X.env) (rh hs).1;have hh:=vc h2;simp only[bL,az,dD,bq,or_false]at hh;obtain ⟨rfl,rfl⟩ |⟨rfl,rfl⟩ |⟨rfl,rfl⟩ |⟨rfl,rfl⟩:=hh
  ·exact XE hg hm hl sa rfl
  ·exact UM hg hm hl sa rfl cl
  ·exact U' hg hm hl sa rfl cl
  ·exact Vj (F.hr hc) hg hm hl sa rfl cl
 ·cases of_decide_eq_true h;exact Zq ok F hg hm hs
def Cf (h:wN a=true):((aZ pos (ax [a] env)).all (λx=> !x.1)&&(dN pos (dF [] env)).all (λx=>x.1.isSome)&&decide ([a].length+([]:List b9).length+(if([]:List b9).isEmpty then 0 else 1)<30))=true:=by
 rw[qj h];rfl
def Yp (ok:i.Ok T r) (F:nY T r X c) (hz:Fz o=true) (hs:rk es=true) (hl:(ap.endLine == pos.line)=true):JE X (.Call (.Attribute o m ap) es [] pos) (iM i c m o es):=by
 cases es with
 |nil=>
  refine uN λq h=>?_;have hh:=vc h;simp only[m0,az,dD,bq,or_false]at hh;obtain⟨rfl,rfl⟩:=hh;exact SB (ok.e F) (y_ hz) hl
 |cons a as=>
  have ha:=(rh hs).1;refine rP λz=>?_;rw[cB.mp z]at hs⊢;refine pO (P:=JE X _) (λ_=>uN λq h=>?_) λt h=>?_
  ·have hh:=vc h;simp only[mA,az,dD,bq,or_false]at hh;obtain ⟨rfl,rfl⟩ |⟨rfl,rfl⟩:=hh
   ·exact Qv (ok.e F) (tM ok F hs) (y_ hz) (Cf ha) hl (qj ha) rfl
   ·exact QR (ok.e F) (tM ok F hs) (y_ hz) (Cf ha) hl (qj ha) rfl
  ·obtain⟨l,h1,h2⟩:=sY h;obtain⟨q,h3,rfl⟩:=s_ h2;have hh:=vc h3;simp only[mL,az,dD,bq,or_false]at hh;obtain ⟨rfl,rfl⟩ |⟨rfl,rfl⟩:=hh
   ·exact Ug (ok.e F) (ok.l F h1) (y_ hz) (Cf ha) hl (qj ha) rfl
   ·exact Zw (ok.e F) (ok.l F h1) (y_ hz) (Cf ha) hl (qj ha) rfl
def Zr (ok:i.Ok T r) (F:nY T r X c):JE X (.Call f es [] pos) (Ly T i c f es pos):=by
 cases f with
 |Name x p=>
  refine rP λh=>?_;obtain⟨h,h3⟩:=nV h;obtain⟨h1,h2⟩:=nV h;obtain⟨g1,g2⟩:=F.glo h1;refine pO (P:=JE X _) (λ_=>rP λh=>Sz ok F g1 (F.blt h) h2 h3) λs q=>rP λh=>?_;obtain⟨f,fd,ps,k1,k2,k3,k4⟩:=F.g.fn _ _ q;cases es with
  |nil=>cases h
  |cons a as=>exact VE k1 (F.hr h3) g1 k2 k3 k4 (tM ok F h2) g2 (qj (rh h2).1) (Bb (rh h2).2)
 |Attribute o m ap=>exact rP λh=>Yp ok F (nV (nV h).1).1 (nV (nV h).1).2 (nV h).2
 |_=>exact rW
def X4 (ok:i.Ok T r) (F:nY T r X c):JE X e (Ny T i c e):=by
 refine pO (P:=JE X e) (λ_=>?_) λl h=>Lf (ok.l F h);cases e with
 |Name x p=>
  refine pO (P:=JE X _) (λ_=>uN λw h=>rP λq=>?_) λk h=>rP λq=>?_
  ·obtain⟨h1,h2⟩:=F.glo q;obtain ⟨n,u,rfl,h3⟩ |⟨n,u,rfl,h3⟩:=F.g.gl _ _ h
   ·exact Y5 h1 h3 h2
   ·exact Pp h1 h3 h2
  ·obtain⟨h1,h2,h3⟩:=F.vis q;exact jv _ (F.at_ h) h1 h2 h3
 |Constant v k p=>
  cases v with
  |int=>exact Wz
  |bool=>exact OX
  |none=>exact Ze
  |str=>exact VG
  |_=>exact rW
 |UnaryOp o a p=>
  cases o with
  |Not=>exact xL (P:=JE X _) (λ_=>PJ (ok.e F)) λ_=>VP (ok.e F)
  |USub=>exact WU (ok.e F)
  |_=>exact rW
 |BinOp a o b p=>exact uN λw h=>Pq h (ok.e F) (ok.e F)
 |Compare=>exact(L9 ok F).1
 |BoolOp=>exact Di ok F
 |IfExp=>exact Zk (ok.t F) (ok.e F) (ok.e F)
 |Tuple es k p=>exact rP λh=>Z0 (tM ok F h)
 |Subscript a b p=>
  refine pO (P:=JE X _) (λ_=>rP λh=>pO (P:=JE X _) (λ_=>V0 (ok.e F) (ok.e F) (KZ h)) λl q=>R5 (ok.l F q) (ok.e F) (KZ h)) λq h=>?_;obtain⟨p',rfl⟩:=Mc h;exact Qh (ok.e F) (Cz ok F) (Cz ok F)
 |Call f es ks p=>exact rP λh=>by rw[cB.mp h];exact Zr ok F
 |_=>exact rW
def Om (ok:i.Ok T r) (F:nY T r X c):JT X e (oQ (FE e) (o5 (i.e c e))):=tw (P:=JT X e) Dm λh=>Sx (ok.e F) λw=>by
 cases e with
 |UnaryOp o a p=>cases o<;>first |rfl |cases h
 |_=>first |rfl |cases h
def UF (ok:i.Ok T r) (F:nY T r X c):JT X e (LU T i c e):=by
 cases e with
 |Compare a os bs p=>exact pO (P:=JT X _) (λ_=>Dm) λo h=>(L9 ok F).2 o h
 |UnaryOp o a p=>exact xL (P:=JT X _) (λ_=>Om ok F) λh=>by cases of_decide_eq_true h;exact Vf (ok.t F)
 |BoolOp=>exact(Fd ok F).jt
 |_=>exact Om ok F
def Eg (ok:i.Ok T r) (F:nY T r X c):JI X tg e (iI T i c tg e):=by
 refine pO (P:=JI X tg e) (λ_=>pO (P:=JI X tg e) (λ_=>YJ (ok.e F)) λl h=>VZ (ok.l F h)) λt h=>?_;obtain⟨⟨x,es⟩,h1,h2⟩:=sY h;obtain⟨p,p',a,s,rfl,rfl,h3⟩:=AO h1;obtain⟨h2,h4⟩:=uh h2;obtain⟨q1,q2⟩:=nV h2;obtain⟨q3,q5⟩:=rh h3;have g1:=(F.glo q1).1;have g2:=F.blt q2;unfold LD at h4
 revert h4
 refine xL (P:=λo=>o=aa t→JI X tg _ t) (λ_=>xL (P:=λo=>o=aa t→JI X tg _ t) (λ_ h=>?_) λz h=>?_) λz h=>?_
 ·obtain⟨z,h⟩:=uh h;obtain⟨z,z2⟩:=nV z;cases of_decide_eq_true z;obtain⟨b,y,rfl⟩:=s_ h;cases tu y;have q4:=(rh q5).1;obtain⟨_,_,_,rfl⟩:=MU z2;exact Ra g1 g2 (ok.e F) (ok.e F) (by rw[qj q3,qj q4];rfl) (qj q4) (qj q3) (qj q4)
 ·obtain⟨z,z2⟩:=nV z;cases of_decide_eq_true z;obtain⟨b,y,rfl⟩:=s_ h;cases tu y;obtain⟨_,_,_,rfl⟩:=MU z2;exact Zc g1 g2 (ok.e F) (qj q3) (qj q3)
 ·cases of_decide_eq_true z;obtain⟨b,y,rfl⟩:=s_ h;cases tu y;exact XT g1 g2 (tM ok F h3) (qj q3)
def L8 (F:nY T r X c) (h:DQ c s N k fr=true):nB X.nox s N k fr:=by
 simp only[DQ,bV,decide_eq_true_eq]at h;obtain⟨⟨⟨⟨⟨⟨⟨⟨h1,h2⟩,h3⟩,h4⟩,h5⟩,h6⟩,h7⟩,h8⟩,h9⟩:=h;refine⟨h1,h2,h3,h4,h5,?_,h7,?_,?_⟩
 ·show(s.names.all λy=>y.2 != bc || X.env.scope.names.lookup y.1 == aa cj || X.env.scope.names.lookup y.1 == aa bc)=true;rw[F.sc];exact h6
 ·show N.drop k=fr.map λj=>X.N.getD j fI;rw[F.N];exact h8
 ·show(fr.all λj=>decide (j<X.N.length))=true;rw[F.N];exact h9
def nY.nox (F:nY T r X c):nY T r X.nox c:=⟨⟨F.g.fn,F.g.gl,F.g.bl,F.g.xs,F.g.ex⟩,F.N,F.sc,F.nd,F.fn,F.hr,F.calm,F.st⟩
def nY.comp (F:nY T r X c) {s:Scope}{N:List ah}(hN:N.Nodup) (hc:c.calm=true) (s₀:am) (H₀:Hp) (fp:List ai) (pn:List (ai×aH)):nY T r (pQ X.nox s N s₀ H₀ fp pn) ⟨N,D9 s c,false,true⟩:=
 ⟨⟨F.g.fn,F.g.gl,F.g.bl,F.g.xs,F.g.ex⟩,rfl,(by show relabel s X.env=_;unfold relabel D9 bN.kindOf;rw[F.sc]),hN,rfl,λ_=>F.hr hc,F.calm.trans hc,λh=>nomatch h⟩
def Jk (ok:i.Ok T r) (F:nY T r X c):u_ X ifs (match ifs with
  | []=>pB
  |t::r=>oQ r.isEmpty (i.t c t)):=by
 cases ifs with
 |nil=>exact Rm
 |cons t s=>exact tw (P:=u_ X _) Vd λh=>by rw[cB.mp h];exact Vr (ok.t F)
def Io (ok:i.Ok T r) (F:nY T r X c) (q:Expr×Scope×bw×gI):JL X (.ListComp q.1 [⟨q.2.2.2.target,q.2.2.2.iter,q.2.2.2.ifs,0⟩] q.2.1 q.2.2.1) (iC T i c q):=by
 refine tw (P:=JL X _) Tv λh=>?_;have S:=L8 F (nV (nV h).1).1;have F':=F.comp (s:=q.2.1) S.nd (nV h).2;exact Vm S (Eg ok F.nox) (λ_ _ _ _=>Bs (F' _ _ _ _)) (λ_ _ _ _=>Jk ok (F' _ _ _ _)) (λ_ _ _ _=>ok.e (F' _ _ _ _)) (E1 (nV (nV h).1).2) (F.calm.trans (nV h).2)
def T2 (ok:i.Ok T r) (F:nY T r X c) (h:K_ T i c e=aa l):JL X e l:=by
 cases e with
 |List es p=>obtain⟨h1,h2⟩:=uh h;cases h2;exact Zx (tM ok F h1)
 |ListComp=>obtain⟨q,h1,rfl⟩:=s_ h;rw[LP h1];exact Io ok F q
 |BinOp a o b p=>
  cases o with
  |Mult=>obtain⟨m,h1,rfl⟩:=s_ h;exact QD (ok.l F h1) (ok.e F)
  |Add=>
   revert h
   refine pO (P:=λo=>o=aa l→JL X _ l) (λ_ h=>?_) λm q h=>?_
   ·obtain⟨m,h1,rfl⟩:=s_ h;exact pO (P:=JL X _) (λ_=>Q_ (ok.e F) (ok.l F h1)) λn z=>Gp (E9 ok F z) (ok.l F h1)
   ·cases h;refine pO (P:=JL X _) (λ_=>Xz (ok.l F q) (ok.e F)) λn z=>Gp (ok.l F q) ?_
    revert z
    exact pO (P:=λo=>o=aa n→JL X b n) (λ_ h=>E9 ok F h) λk y h=>by cases h;exact ok.l F y
  |_=>exact vM h
 |Call f es ks p=>
  obtain⟨⟨x,as⟩,h1,h2⟩:=sY h;obtain⟨p,p',a,s,e,rfl,h3⟩:=AO h1;obtain⟨h2,h4⟩:=uh h2;obtain⟨y,q2⟩:=nV h2;obtain⟨y,q1⟩:=nV y;cases of_decide_eq_true y;obtain⟨b,z,rfl⟩:=s_ h4;cases tu z;rw[e];exact O6 (F.glo q1).1 (F.blt q2) (ok.e F) (qj (rh h3).1) rfl
 |_=>exact vM h
def nY.atX (F:nY T r X c) (pn:List (ai×aH)) (xe:aj→am→Prop):nY T r (X.at pn xe) c:=⟨⟨F.g.fn,F.g.gl,F.g.bl,F.g.xs,F.g.ex⟩,F.N,F.sc,F.nd,F.fn,F.hr,F.calm,F.st⟩
def nY.hot (F:nY T r X c) (a:ai) (pn:List (ai×aH)):nY T r (X.hot a pn) ⟨c.N,c.sc,c.fn,false⟩:=⟨⟨F.g.fn,F.g.gl,F.g.bl,F.g.xs,F.g.ex⟩,F.N,F.sc,F.nd,F.fn,(λh=>nomatch h),rfl,F.st⟩
def VN (ok:i.Ok T r) (F:nY T r X c) (hc:c.calm=true):v5 X ss (iX T i c ss):=by
 cases ss with
 |nil=>exact Ar
 |cons s ss=>
  cases s with
  |Return v p=>
   refine pO (P:=v5 X _) (λ_=>Ar) λq h=>pO (P:=v5 X _) (λ_=>Ar) λs y=>tw (P:=v5 X _) Ar λz=>?_;obtain⟨e,rfl,h⟩:=sY h;obtain⟨p,p',a,s,rfl,h2,h3⟩:=AO h;obtain⟨f,fd,ps,k1,k2,k3,k4⟩:=F.g.fn _ _ y;obtain⟨g1,g2⟩:=F.glo (nV z).2;rw[cB.mp (nV z).1,h2];exact S9 (Xh (VS k1 (F.hr hc) g1 k2 k3 k4 (tM ok F h3) g2 (qj (rh h3).1) (Bb (rh h3).2)))
  |_=>exact Ar
def Ue (h:yo e=true):iP [tg] e n env=pure false:=EG h
def VD (h:isT e=false):jM [.Tuple ts n p] e env=pure none:=by
 cases e<;>first |rfl |cases h
def Rh:JS X s (mz (nA nZ) g):=λ_ _ _ _ _ _ _ _ ⟨_,_,_,_,_,h,_⟩=>h.elim
def ZS (ok:i.Ok T r) (F:nY T r X c):JS X (.Assign [tg] e pos) (Ki T i c tg e):=by
 cases tg with
 |Name x p=>
  refine xU λk l0=>tR λl=>pO (P:=JS X _) (λ_=>tR λh=>?_) λq h=>?_
  ·exact NH F.ndX (F.at_ l0) (F.loc l).1 (ok.e F) (EG h) (F.loc l).2
  ·rw[LP h];cases b:(X.env.blockKind == .function&&X.env.kindOf x == aa .local&&p.line == q.2.2.1.line&& !(q.2.1.names.any λ(n,k)=>n == x&&(k == .local || k == .cell))) with
   |false=>exact NH F.ndX (F.at_ l0) (F.loc l).1 (Lf (Io ok F q)) (congrArg pure b) (F.loc l).2
   |true=>
    refine tw (P:=λt=>JS X _ (mz (nA t) (mB k))) Rh λh=>?_;have S:=L8 F (nV (nV h).1).1;have F':=F.comp (s:=q.2.1) S.nd (nV h).2;exact Z2 F.ndX (F.at_ l0) (F.loc l).1 S (Eg ok F.nox) (λ_ _ _ _=>Bs (F' _ _ _ _)) (λ_ _ _ _=>Jk ok (F' _ _ _ _)) (λ_ _ _ _=>ok.e (F' _ _ _ _)) (congrArg pure b) (F.loc l).2 (E1 (nV (nV h).1).2) (F.calm.trans (nV h).2)
 |Tuple es n p=>exact tR λh=>Wu (ok.e F) (Bs F) (Ue (nV h).1) (VD (by have:=(nV h).2;simpa using this)) (by rw[CU rfl];rfl)
 |_=>exact yq
def ZU (ok:i.Ok T r) (F:nY T r X c):JS X s (LC T i c s):=by
 cases s with
 |Return v p=>
  cases v with
  |none=>exact XQ
  |some=>exact XL (ok.e F)
 |Pass=>exact Us
 |Expr e p=>exact tR λh=>Vy (ok.e F) (EG h)
 |If=>exact VQ (ok.t F) (vS ok F) (vS ok F)
 |While t b os p=>exact tR λh=>by rw[cB.mp h];exact Ud (ok.t F) (vS ok F)
 |For tg it b os p=>exact tR λh=>by rw[cB.mp (nV (nV h).1).1];exact RC (Eg ok F) (Bs F) (vS ok F) (F.calm.trans (nV h).2) (E1 (nV (nV h).1).2)
 |AugAssign t o e p=>
  refine tR λh=>xU λx q=>xU λk l0=>tR λl=>?_;obtain⟨p',rfl⟩:=zc q;cases of_decide_eq_true h;exact Se F.ndX (F.at_ l0) (F.loc l).1 (ok.e F) (F.loc l).2
 |Assign ts e p=>exact xU λtg h=>by rw[tu h];exact ZS ok F
 |Raise v cs p=>
  refine xU λq h=>tR λz=>?_;obtain⟨e,rfl,h⟩:=sY h;obtain⟨p1,p2,a,s,rfl,h2,h3⟩:=AO h;obtain⟨z,z4⟩:=nV z;obtain⟨z,z3⟩:=nV z;obtain⟨z,z2⟩:=nV z;obtain⟨C,x1,x2⟩:=F.g.xs _ (gB.mp z2);rw[h2,Option.isNone_iff_eq_none.mp z];exact UH x1 (F.glo z3).1 x2 (tM ok F h3) (F.calm.trans z4) (F.glo z3).2 (qj (rh h3).1) (Bb (rh h3).2)
 |Try b hs os fs q=>
  refine xU λu h=>tR λz=>?_;obtain⟨p1,p2,a,s,rfl,h2⟩:=ZF h;obtain⟨z,z7⟩:=nV z;obtain⟨z,z6⟩:=nV z;obtain⟨z,z5⟩:=nV z;obtain⟨z,z4⟩:=nV z;obtain⟨z,z3⟩:=nV z;obtain⟨z1,z2⟩:=nV z;rw[cQ]at z6;obtain⟨D,hD,al⟩:∃D,X.mg u.1=aa (.ref D)∧ ∀y∈T.cn q,∃C,qr X.K y C∧eP X.K (.ref C) (.ref D)=aa true:=by
   obtain⟨y,hy⟩:=List.exists_mem_of_ne_nil (T.cn q) (by intro z;rw[z]at z7;cases z7);obtain⟨C,D,_,x2,_⟩:=F.g.ex (y,u.1) (gB.mp (z6 y hy));refine⟨D,x2,λz hz=>?_⟩;obtain⟨C',D',y1,y2,y3⟩:=F.g.ex (z,u.1) (gB.mp (z6 z hz));rw[x2]at y2;cases y2;exact⟨C',y1,y3⟩
  have F':∀a pn,nY T r (X.hot a pn) ⟨c.N,c.sc,true,false⟩:=λa pn=>z3▸F.hot a pn;rw[h2,cB.mp z1,cB.mp z2];exact Qy (λpn xe=>VN ok (F.atX pn xe) z4) al (λa pn=>vS ok (F' a pn)) (F.glo z5).1 hD (F.st z3).1 (F.st z3).2 (F.glo z5).2
 |_=>exact yq
theorem NJ:∀n,(FX T n).Ok T r
 |0=>⟨λ_=>rW,λ_=>Dm,(λ_ h=>nomatch h),λ_=>yq⟩
 |n+1=>have ok:=NJ n;⟨X4 ok,UF ok,λF h=>T2 ok F h,λF=>ZU ok F⟩
end
def En.sc{e:En}(h:e.ok=true):py e.N e.ps (qt e.st)∧e.ps.length=e.k∧e.k≤6:=by
 simp only[En.ok,bV,decide_eq_true_eq,ig,cQ,jr,bne_iff_ne]at h;obtain⟨⟨⟨⟨⟨⟨⟨⟨h1,h2⟩,h3⟩,h4⟩,h5⟩,h6⟩,h7⟩,h8⟩,h9⟩:=h;exact⟨⟨h1,h2,h3,h4,h5,h8,h9⟩,h6,h7⟩
def Yt (us:List aj) (h:us.length≤6):∃a b c d e f:aj,us=[a,b,c,d,e,f].take us.length:=by
 match us,h with
 | [],_=>exact⟨.none, .none, .none, .none, .none, .none,rfl⟩
 | [a],_=>exact⟨a, .none, .none, .none, .none, .none,rfl⟩
 | [a,b],_=>exact⟨a,b, .none, .none, .none, .none,rfl⟩
 | [a,b,c],_=>exact⟨a,b,c, .none, .none, .none,rfl⟩
 | [a,b,c,d],_=>exact⟨a,b,c,d, .none, .none,rfl⟩
 | [a,b,c,d,e],_=>exact⟨a,b,c,d,e, .none,rfl⟩
 | [a,b,c,d,e,f],_=>exact⟨a,b,c,d,e,f,rfl⟩
 |_::_::_::_::_::_::_::_,h=>simp at h
theorem HB{α β:Type}:∀(a:List α) (b:List β),a.zip (b.take a.length)=a.zip b
 | [],_=>rfl
 |_::_,[]=>rfl
 |_::a,_::b=>congrArg (_:: ·) (HB a b)
def D8{α β:Type}{l:List α}{f g:α→β}(h:l.map f=l.map g):∀e∈l,f e=g e:=by
 induction l with
 |nil=>intro e h;cases h
 |cons a l ih=>
  rw[aC,aC,fG]at h;intro e he;obtain rfl |he:=az.mp he
  ·exact h.1
  ·exact ih h.2 e he
def II (h:lkT tab r x=aa s):∃e∈tab,e.eNm=x∧s=e.c r:=by
 have:=vc h;obtain⟨e,he,q⟩:=aV.mp this;cases q;exact⟨e,he,rfl,rfl⟩
def DU (K:ao) (eNm:ah) (st:aW):Prop:=∃f d,bS K bp eNm=aa (aa (.ref f))∧tN K eNm eNm st f d
def dfn{K:ao}{st:aW}{kV doc pm cdv ct:aj}(a:bS K bp x=aa (aa (.ref f))) (l:K.lookup f=aa ⟨oc,od, .func (dC x x (xg st) (uk st) (qt st) .none kV doc pm an cdv ct),osl⟩) (c:gF K cdv x=true) (k:fh K (.ref f)=true):DU K x st:=⟨f,_,a,Xv l c k⟩
section
variable {P:bg}{w:aS}{K:ao}{mg:ah→Option aj}{base:aE}{tab:List En}{B:Tb}
structure qQ (K:ao) (mg:ah→Option aj) (tab:List En) (B:Tb):Prop where
  df:∀e∈tab,∃f d,mg e.eNm=aa (.ref f)∧tN K e.eNm e.eNm e.st f d
  ok:∀e∈tab,e.ok=true
  bd:∀kV doc pm an cdv ct a b c d e' f,∀e∈tab,e.bd kV doc pm an cdv ct [a,b,c,d,e',f]=pure (e.ps.zip [a,b,c,d,e',f])
  c0:∀e∈tab,e.c 0=mK
  rd:∀r,∀e∈tab,e.c (r+1)=mK∨ ∃F,(∀x s,F x=aa s→ ∃e∈tab,e.eNm=x∧ ∃j,j≤r∧s=e.c j)∧e.c (r+1)=e.rd { B with fn:=F }
  gl:∀x w,B.gl x=aa w→(∃i u,w= .int i∧mg x=aa (.int i u))∨ ∃i u,w= .str i∧mg x=aa (.str i u)
  bl:∀x∈B.bl,mg x=none
  xs:∀x∈B.xs,∃C,qr K x C∧mg x=aa (.ref C)
  ex:∀p∈B.ex,∃C D,qr K p.1 C∧mg p.2=aa (.ref D)∧eP K (.ref C) (.ref D)=aa true
def qQ.binds (h:qQ K mg tab B) (he:e∈tab) (F:tN K e.eNm e.eNm e.st f d):px K d e.ps []:=F.binds λkV doc pm an cdv ct us hl=>by
 obtain⟨_,h1,h2⟩:=En.sc (h.ok e he);obtain⟨a,b,c,d,e',f,q⟩:=Yt us (by lia);have:=h.bd kV doc pm an cdv ct a b c d e' f e he;unfold En.bd at this;rw[←h1,←hl,←q]at this;rw[this,show e.ps.zip us=_ by rw[q,hl,HB]]
theorem qQ.fn (h:qQ K mg tab B):∀r,∀e∈tab,∀f d,mg e.eNm=aa (.ref f)→tN K e.eNm e.eNm e.st f d→oV P w K mg base (sj P w) r f d e.ps (si K (e.c r)):=by
 intro r
 induction r using Nat.strongRecOn with
 |_ r ih=>
  intro e he f d hm F;cases r with
  |zero=>rw[h.c0 e he];exact Jw
  |succ r=>
   obtain q |⟨G,hG,q⟩:=h.rd r e he
   ·rw[q];exact Jw
   ·rw[q];obtain⟨S,h1,_⟩:=En.sc (h.ok e he);refine Qz F S rfl h1 λcdv A outer s H E hr=>vS (T:={ B with fn:=G }) (r:=r) (NJ 40) ⟨⟨λx s hx=>?_,h.gl,h.bl,h.xs,h.ex⟩,rfl,rfl,S.nd,rfl,λ_=>hr,rfl,λ_=>⟨rfl,rfl⟩⟩;obtain⟨e',he',rfl,j,hj,rfl⟩:=hG x s hx;obtain⟨f',d',m',F'⟩:=h.df e' he';exact⟨f',d',e'.ps,(ih j (by lia) e' he' f' d' m' F').mono hj,m',F'.kp,h.binds he' F'⟩
def v7 (K:ao):List En→Prop
 | []=>True
 |e::r=>DU K e.eNm e.st∧v7 K r
def we (K:ao):List ah→Prop
 | []=>True
 |x::r=>bS K bp x=aa none∧we K r
def FA (K:ao) (x:ah) (w:W):Prop:=(∃i u,w= .int i∧bS K bp x=aa (aa (.int i u)))∨ ∃i u,w= .str i∧bS K bp x=aa (aa (.str i u))
def gln (h:bS K bp x=aa (aa (.int i u))):FA K x (.int i):= .inl ⟨i,u,rfl,h⟩
def vD (K:ao):List (ah×W)→Prop
 | []=>True
 |p::r=>FA K p.1 p.2∧vD K r
def D1 (K:ao) (x:ah):Prop:=∃C,qr K x C
def xch (a:bS K bp x=aa (aa (.ref C))) (b:kS K C Ct "ValueError.__new__" =true) (c:fO K (.ref C) "__getattribute__" =aa (aa (.builtin "BaseException.__getattribute__"))) (d:fO K (.ref C) "__getattr__" =aa none) (e:fO K (.ref C) "__class__" =aa (aa (.builtin "object.__class__"))) (f:jC K C (.type "object")=aa true) (g:jC K C (.type "BaseException")=aa true):D1 K x:=⟨C,a,b,c,d,e,f,g⟩
def wD (K:ao):List ah→Prop
 | []=>True
 |x::r=>D1 K x∧wD K r
def DN (K:ao) (x y:ah):Prop:=∃C D,bS K bp x=aa (aa (.ref C))∧bS K bp y=aa (aa (.ref D))∧eP K (.ref C) (.ref D)=aa true
def exh (a:bS K bp x=aa (aa (.ref C))) (b:bS K bp y=aa (aa (.ref D))) (c:eP K (.ref C) (.ref D)=aa true):DN K x y:=⟨C,D,a,b,c⟩
def wE (K:ao):List (ah×ah)→Prop
 | []=>True
 |p::r=>DN K p.1 p.2∧wE K r
theorem v7.at_:∀{tab:List En},v7 K tab→ ∀e∈tab,DU K e.eNm e.st
 |e::_,h,z,m=>(az.mp m).elim (λq=>q▸h.1) (v7.at_ h.2 z)
theorem we.at_:∀{l:List ah},we K l→ ∀x∈l,bS K bp x=aa none
 |e::_,h,z,m=>(az.mp m).elim (λq=>q▸h.1) (we.at_ h.2 z)
theorem vD.at_:∀{l:List (ah×W)},vD K l→ ∀p∈l,FA K p.1 p.2
 |e::_,h,z,m=>(az.mp m).elim (λq=>q▸h.1) (vD.at_ h.2 z)
theorem wD.at_:∀{l:List ah},wD K l→ ∀x∈l,D1 K x
 |e::_,h,z,m=>(az.mp m).elim (λq=>q▸h.1) (wD.at_ h.2 z)
theorem wE.at_:∀{l:List (ah×ah)},wE K l→ ∀p∈l,DN K p.1 p.2
 |e::_,h,z,m=>(az.mp m).elim (λq=>q▸h.1) (wE.at_ h.2 z)
def Tw{l:gu}{h:aE}{fa:ai}{gs:List (ah×W)}{e0:En}{cl:Nat→mM}{room:Nat}(X:K.In h) (G:h.Ns bp mg) (hfa:mg "law" =aa (.ref fa)) (h0:e0∈tab) (hn:e0.eNm= "law") (hp:e0.ps=([("script" :ah)]:List ah)) (hc:e0.c=cl)
  (ok:tab.all En.ok=true) (bd:∀kV doc pm an cdv ct a b c d e' f,(tab.map λe=>e.bd kV doc pm an cdv ct [a,b,c,d,e',f])=tab.map λe=>pure (e.ps.zip [a,b,c,d,e',f]))
  (c0:(tab.map λe=>e.c 0)=tab.map λ_=>mK) (rd:∀r,∀e∈tab,e.c (r+1)=mK∨ ∃F,(∀x s,F x=aa s→ ∃e∈tab,e.eNm=x∧ ∃j,j≤r∧s=e.c j)∧e.c (r+1)=e.rd { B with fn:=F })
  (hg:B.gl=λx=>gs.lookup x) (hx:∀p∈B.ex,p.1∈B.xs) (df:v7 K tab) (bl:we K B.bl) (gl:vD K gs) (xs:wD K B.xs) (ex:wE K B.ex) :
  ∃fd:dt,(∀(s:am) (v:aj),e_ s fd ⟨[v],[]⟩ [("script",v)])∧ ∀base:aE,K.In base→base.Ns bp mg→oV l.prog w K mg base (sj l.prog w) room fa fd ["script"] (si K (cl room)):=by
 have wh:qQ K mg tab B:=by
  refine⟨λe he=>?_,λe he=>cQ.mp ok e he,λkV doc pm an cdv ct a b c d e' f=>D8 (bd kV doc pm an cdv ct a b c d e' f),D8 c0,rd,λx v e=>?_,λx m=>PySem.W.mg_none_of X G (bl.at_ x m),λx m=>?_,λp m=>?_⟩
  ·obtain⟨f,d,a,F⟩:=df.at_ e he;exact⟨f,d,f9 X G a,F⟩
  ·rw[hg]at e;obtain ⟨i,u,q,a⟩ |⟨i,u,q,a⟩:=gl.at_ _ (vc e)
   ·exact .inl ⟨i,u,q,f9 X G a⟩
   ·exact .inr ⟨i,u,q,f9 X G a⟩
  ·obtain⟨C,a⟩:=xs.at_ x m;exact⟨C,a,f9 X G a.nm⟩
  ·obtain⟨C,a⟩:=xs.at_ _ (hx p m);obtain⟨C',D,b,c,d⟩:=ex.at_ p m;have:=a.nm.symm.trans b;cases this;exact⟨C,D,a,f9 X G c,d⟩
 obtain⟨f,d,m,F⟩:=wh.df e0 h0;rw[hn]at m;cases hfa.symm.trans m;refine⟨d,λs v=>?_,λbase _ _=>?_⟩
 ·obtain⟨oc,od,kV,doc,pm,an,cdv,ct,osl,rfl,lkT,hcd⟩:=F.ex;have z:=wh.bd kV doc pm an cdv ct v v v v v v e0 h0;have k1:e0.k=1:=by have:=(En.sc (wh.ok e0 h0)).2.1;rw[hp]at this;exact this.symm
  unfold En.bd at z;rw[k1,hp]at z;exact .of_eq z
 ·have:=wh.fn (P:=l.prog) (w:=w) (base:=base) room e0 h0 fa d (by rw[hn];exact m) F;rw[hp,hc]at this;exact this
def Yd{t u:List En}(r:Nat) (h:(u.map λe=>e.c (r+1))=u.map λe=>e.rd { B with fn:=lkT t r }):∀e∈u,e.c (r+1)=mK∨ ∃F,(∀x s,F x=aa s→ ∃e∈t,e.eNm=x∧ ∃j,j≤r∧s=e.c j)∧e.c (r+1)=e.rd { B with fn:=F }:=λe he=>
 .inr ⟨_,λx s q=>let ⟨a,b,c,d⟩:=II q;⟨a,b,c,r,aA _,d⟩,D8 h e he⟩
def Pn (he:e∈t) (hn:e.eNm=n):∀x s,(if x=n then aa (e.c r) else lkT t (r+1) x)=aa s→ ∃e∈t,e.eNm=x∧ ∃j,j≤r+1∧s=e.c j:=λx s h=>by
 split at h
 ·cases h;exact⟨e,he,hn.trans (Eq.symm ‹_›),r,Nat.le_succ r,rfl⟩
 ·obtain⟨a,b,c,d⟩:=II h;exact⟨a,b,c,r+1,aA _,d⟩
end
def xJ:Nat→mM
 |0=>mK
 |r+1=>nC 1 1 (mD (nH (o5 (so "int" (iN 0))) (mY (m9 ae)) nF)
  (mY (oE (iN 0) (ow (wC (.int 1))) oA)))
def yP (r:Nat) (self:mM):WS:=(o9 (wM pJ wa (iN 1) (iR (mJ (xJ r) (iR (iN 2) ae)) ae)))
def xI:Nat→mM
 |0=>mK
 |r+1=>nC 3 1 (mD (mz (nA (nL ae)) (mB 1))
  (mD (oF (on (iN 0)) (mB 2) (yP r mK))
  (mY (iN 1))))
def E0 (r:Nat) (self:mM):WS:=(mD (wg 1 (λa b=>a+b) (wB oR (iR (iN 3) ae)))
  (mD (wg 2 (λa b=>a+b) (wC (.int 1)))
  (mD (nH (tI (nD (my uc (iN 1) (wC (.int 400)))) (nD (my uc (iN 2) (wC (.int 40))))) (mY (wC (.bl false))) nF)
  (mz (mJ (xI r) (iR (iN 3) ae)) (mB 3)))))
def wR:Nat→mM
 |0=>mK
 |r+1=>nC 4 1 (mD (mz (wC (.int 0)) (mB 1))
  (mD (mz (wC (.int 0)) (mB 2))
  (mD (mz (nA (nL (iR (iN 0) ae))) (mB 3))
  (mD (xR (o5 (iN 3)) (E0 r mK))
  (mY (wC (.bl true)))))))
def DE (r:Nat) (self:mM):WS:=(o9 (mJ self (iR (iN 4) (iR (my ou (iN 1) (m9 (iR (iN 3) ae))) (iR (iN 2) ae)))))
def wu:Nat→mM
 |0=>mK
 |r+1=>nC 5 3 (mD (o9 (wM pJ qy (iN 2) (iR (iN 1) ae)))
  (oF (uA (mJ (xJ r) (iR (iN 0) ae))) (pE (nU (mB 3) (nU (mB 4) pe))) (DE r (wu r))))
def B4:Nat→mM
 |0=>mK
 |r+1=>nC 2 1 (mD (mz (nA (nL ae)) (mB 1))
  (mD (o9 (mJ (wu r) (iR (iN 0) (iR (m9 ae) (iR (iN 1) ae)))))
  (mY (iN 1))))
def Ba:Nat→mM
 |0=>mK
 |r+1=>nC 3 2 (mD (mz (mJ (xJ r) (iR (iN 0) ae)) (mB 2))
  (mD (nH (tI (nD (my vj (iN 1) (wC (.int 0)))) (nD (my Mb (iN 1) (wB oR (iR (iN 2) ae))))) (uQ "NoPlace" (iR (wC (.str "there is no such place")) ae)) nF)
  (mY (my mH (iN 2) (iN 1)))))
def F8 (r:Nat) (self:mM):WS:=(mz (mJ (Ba r) (iR (iN 2) (iR (iN 3) ae))) (mB 2))
def zo:Nat→mM
 |0=>mK
 |r+1=>nC 4 2 (mD (mz (iN 0) (mB 2))
  (mD (oF (on (iN 1)) (mB 3) (F8 r mK))
  (mY (iN 2))))
def T8 (r:Nat) (self:mM):WE:=(iN 0)
def wP:Nat→mM
 |0=>mK
 |r+1=>nC 1 1 (mY (nA (ph 1 [0] (on (mJ (B4 r) (iR (iN 0) ae))) (mB 0) (o5 (so "int" (mJ (zo r) (iR (iN 1) (iR (iN 0) ae))))) (T8 r mK))))
def KF (r:Nat) (self:mM):WE:=(iN 0)
def Aw:Nat→mM
 |0=>mK
 |r+1=>nC 2 2 (mY (nA (ph 1 [1,0] (on (mJ (wP r) (iR (iN 0) ae))) (mB 0) (nD (my (oO false) (mJ (zo r) (iR (iN 2) (iR (iN 0) ae))) (iN 1))) (KF r mK))))
def MO (r:Nat) (self:mM):WE:=(mJ self (iR (iN 0) (iR (iN 1) ae)))
def u8:Nat→mM
 |0=>mK
 |r+1=>nC 2 2 (mD (nH (o5 (so "int" (iN 0))) (mY (my mH (iN 1) (iN 0))) nF)
  (mY (my ou (m9 (iR (my mH (iN 0) (wC (.int 0))) ae)) (qR vx (ph 1 [1] (on (oE (iN 0) (ow (wC (.int 1))) oA)) (mB 0) pB (MO r (u8 r)))))))
def BR:Nat→mM
 |0=>mK
 |r+1=>nC 2 2 (mY (vz (my (oO false) (my mH (iN 0) (wC (.int 0))) (my mH (iN 1) (wC (.int 0)))) (my (oO false) (wB oR (iR (iN 0) ae)) (wB oR (iR (iN 1) ae)))))
def Ee (r:Nat) (self:mM):WS:=(nH (tq (o5 (mJ self (iR (iN 3) (iR (iN 4) (iR (iN 2) ae)))))) (mY (wC (.bl false))) nF)
def vm:Nat→mM
 |0=>mK
 |r+1=>nC 5 3 (mD (nH (o5 (so "int" (iN 0))) (mD (o9 (wM pJ qy (iN 2) (iR (iN 1) ae)))
  (mY (wC (.bl true)))) nF)
  (mD (nH (tq (o5 (mJ (BR r) (iR (iN 0) (iR (iN 1) ae))))) (mY (wC (.bl false))) nF)
  (mD (oF (sO (oE (iN 0) (ow (wC (.int 1))) oA) (oE (iN 1) (ow (wC (.int 1))) oA)) (pE (nU (mB 3) (nU (mB 4) pe))) (Ee r (vm r)))
  (mY (wC (.bl true))))))
def ua:Nat→mM
 |0=>mK
 |r+1=>nC 3 2 (mD (mz (nA (nL ae)) (mB 2))
  (mD (nH (o5 (mJ (vm r) (iR (iN 0) (iR (iN 1) (iR (iN 2) ae))))) (mY (iN 2)) nF)
  (mY (wC .ci))))
def Hj (r:Nat) (self:mM):WE:=(vX sI sI (wC (.str "a")) (iN 0) (wC (.str "z")))
def Az:Nat→mM
 |0=>mK
 |r+1=>nC 1 1 (mY (qR tQ (ph 1 [] (on (iN 0)) (mB 0) pB (Hj r mK))))
def Cp:Nat→mM
 |0=>mK
 |r+1=>nC 1 1 (mY (vz (vX sI sI (wC (.int 1)) (wB oR (iR (iN 0) ae)) (wC (.int 8))) (mJ (Az r) (iR (iN 0) ae))))
def NF (r:Nat) (self:mM):WS:=(nH (nD (my (oO false) (my mH (iN 2) (wC (.int 0))) (iN 1))) (mY (iN 2)) nF)
def tK:Nat→mM
 |0=>mK
 |r+1=>nC 3 2 (mD (oF (on (iN 0)) (mB 2) (NF r mK))
  (mY (wC .ci)))
def Jy (r:Nat) (self:mM):WE:=(mJ self (iR (iN 0) ae))
def yG:Nat→mM
 |0=>mK
 |r+1=>nC 1 1 (mY (vz (mJ (Cp r) (iR (my mH (iN 0) (wC (.int 0))) ae)) (qR tQ (ph 1 [] (on (oE (iN 0) (ow (wC (.int 1))) oA)) (mB 0) pB (Jy r (yG r))))))
def sH:Nat→mM
 |0=>mK
 |r+1=>nC 1 1 (mD (nH (tq (o5 (mJ (wR r) (iR (iN 0) ae)))) (uQ "TooGreat" (iR (wC (.str "the shape is not small")) ae)) nF)
  (mY (iN 0)))
def M9 (r:Nat) (self:mM):WE:=(mJ self (iR (iN 1) (iR (iN 0) (iR (iN 2) ae))))
def xC:Nat→mM
 |0=>mK
 |r+1=>nC 5 3 (mD (mz (nA (ph 1 [0,2] (on (oE (iN 1) (ow (wC (.int 1))) oA)) (mB 0) pB (M9 r (xC r)))) (mB 3))
  (mD (mz (mJ (tK r) (iR (iN 0) (iR (my mH (iN 1) (wC (.int 0))) ae))) (mB 4))
  (mD (nH (nD (my (pA false) (iN 4) (wC .ci))) (mY (my ou (m9 (iR (my mH (iN 1) (wC (.int 0))) ae)) (wB rG (iR (iN 3) ae)))) nF)
  (mY (mJ (u8 r) (iR (my mH (iN 4) (iN 2)) (iR (iN 3) ae)))))))
def Bm:Nat→mM
 |0=>mK
 |r+1=>nC 2 2 (mY (mJ (sH r) (iR (mJ (xC r) (iR (iN 0) (iR (iN 1) (iR (wC (.int 1)) ae)))) ae)))
def uw:Nat→mM
 |0=>mK
 |r+1=>nC 2 2 (mY (mJ (sH r) (iR (mJ (xC r) (iR (iN 0) (iR (iN 1) (iR (wC (.int 2)) ae)))) ae)))
def GO (r:Nat) (self:mM):WE:=(m9 (iR (iN 0) ae))
def yt:Nat→mM
 |0=>mK
 |r+1=>nC 3 2 (mD (mz (mJ (tK r) (iR (iN 0) (iR (my mH (iN 1) (wC (.int 0))) ae))) (mB 2))
  (mD (nH (nD (my (pA false) (iN 2) (wC .ci))) (mY (nA (ph 1 [] (ud (iR (my (rz λi j=> .int (i - j)) (wB oR (iR (iN 1) ae)) (wC (.int 1))) ae)) (mB 0) pB (GO r mK)))) nF)
  (mY (mJ (wP r) (iR (my mH (iN 2) (wC (.int 1))) ae)))))
def Md (r:Nat) (self:mM):WS:=(nH (nD (my (pA true) (mJ (ua r) (iR (my mH (iN 2) (wC (.int 1))) (iR (iN 1) ae))) (wC .ci))) (mY (iN 2)) nF)
def yJ:Nat→mM
 |0=>mK
 |r+1=>nC 3 2 (mD (oF (on (iN 0)) (mB 2) (Md r mK))
  (mY (wC .ci)))
def Fi (r:Nat) (self:mM):WS:=(o9 (mJ self (iR (iN 0) (iR (iN 6) (iR (my ou (iN 2) (m9 (iR (iN 5) ae))) (iR (iN 3) ae))))))
def xH:Nat→mM
 |0=>mK
 |r+1=>nC 7 4 (mD (mz (mJ (yJ r) (iR (iN 0) (iR (iN 1) ae))) (mB 4))
  (mD (nH (nD (my (pA true) (iN 4) (wC .ci))) (o9 (wM pJ qy (iN 3) (iR (m9 (iR (iN 2) (iR (my mH (iN 4) (wC (.int 0))) ae))) ae))) nF)
  (oF (uA (oE (iN 1) (ow (wC (.int 1))) oA)) (pE (nU (mB 5) (nU (mB 6) pe))) (Fi r (xH r)))))
def uC:Nat→mM
 |0=>mK
 |r+1=>nC 3 2 (mD (mz (nA (nL ae)) (mB 2))
  (mD (o9 (mJ (xH r) (iR (iN 0) (iR (iN 1) (iR (m9 ae) (iR (iN 2) ae))))))
  (mY (iN 2))))
def Mm (r:Nat) (self:mM):WE:=(my mH (iN 0) (wC (.int 0)))
def wI:Nat→mM
 |0=>mK
 |r+1=>nC 1 1 (mY (nA (ph 1 [] (on (iN 0)) (mB 0) pB (Mm r mK))))
def CS:Nat→mM
 |0=>mK
 |r+1=>nC 3 2 (mD (mz (mJ (yJ r) (iR (iN 0) (iR (iN 1) ae))) (mB 2))
  (mY (my ou (m9 (iR (my mH (iN 2) (wC (.int 0))) ae)) (wB rG (iR (mJ (ua r) (iR (my mH (iN 2) (wC (.int 1))) (iR (iN 1) ae))) ae)))))
def A2 (r:Nat) (self:mM):WS:=(o9 (wM pJ qy (iN 5) (iR (mJ self (iR (iN 0) (iR (iN 7) (iR (my ou (iN 2) (iN 6)) (iR (iN 3) ae))))) ae)))
def uK:Nat→mM
 |0=>mK
 |r+1=>nC 8 4 (mD (mz (zS (nD (my (xq false) (iN 2) (iN 3))) (mJ (CS r) (iR (iN 0) (iR (iN 1) ae))) (iN 1)) (mB 4))
  (mD (mz (nA (nL ae)) (mB 5))
  (mD (oF (sO (mJ (yt r) (iR (iN 0) (iR (iN 4) ae))) (oE (iN 4) (ow (wC (.int 1))) oA)) (pE (nU (mB 6) (nU (mB 7) pe))) (A2 r (uK r)))
  (mY (my ou (m9 (iR (my mH (iN 4) (wC (.int 0))) ae)) (wB rG (iR (iN 5) ae)))))))
def ID (r:Nat) (self:mM):WE:=(m9 (iR (iN 0) (iR (wC (.bl true)) ae)))
def xF:Nat→mM
 |0=>mK
 |r+1=>nC 3 3 (mY (mJ (uK r) (iR (iN 0) (iR (iN 1) (iR (m9 ae) (iR (qR vU (ph 1 [] (on (iN 2)) (mB 0) pB (ID r mK))) ae))))))
def Oo (r:Nat) (self:mM):WS:=(nH (nD (my (uy true) (iN 4) (iN 3))) (uQ "NoUse" (iR (wC (.str "no use is open at one of the places")) ae)) nF)
def BS:Nat→mM
 |0=>mK
 |r+1=>nC 5 3 (mD (mz (mJ (wI r) (iR (mJ (uC r) (iR (iN 0) (iR (iN 1) ae))) ae)) (mB 3))
  (mD (oF (on (iN 2)) (mB 4) (Oo r mK))
  (mY (mJ (xF r) (iR (iN 0) (iR (iN 1) (iR (iN 2) ae)))))))
def Bl:Nat→mM
 |0=>mK
 |r+1=>nC 2 2 (mY (mJ (xF r) (iR (iN 0) (iR (iN 1) (iR (mJ (wI r) (iR (mJ (uC r) (iR (iN 0) (iR (iN 1) ae))) ae)) ae)))))
def GU (r:Nat) (self:mM):WS:=(mD (mz (mJ (Bl r) (iR (iN 0) (iR (iN 4) ae))) (mB 5))
  (mD (mz (mJ (uw r) (iR (iN 0) (iR (iN 5) ae))) (mB 4))
  (o9 (wM pJ qy (iN 3) (iR (iN 5) ae)))))
def Bd:Nat→mM
 |0=>mK
 |r+1=>nC 6 3 (mD (mz (nA (nL ae)) (mB 3))
  (mD (mz (iN 1) (mB 4))
  (mD (xR (rH (nD (my vj (wB oR (iR (iN 3) ae)) (iN 2))) (o5 (mJ (uC r) (iR (iN 0) (iR (iN 4) ae))))) (GU r mK))
  (mY (m9 (iR (m9 (iR (iN 1) (iR (iN 3) ae))) (iR (yN (mJ (uC r) (iR (iN 0) (iR (iN 4) ae)))) ae)))))))
def Gd (r:Nat) (self:mM):WE:=(mJ self (iR (iN 2) (iR (iN 0) (iR (iN 1) ae))))
def tH:Nat→mM
 |0=>mK
 |r+1=>nC 8 3 (mD (mz (mJ (tK r) (iR (iN 0) (iR (my mH (iN 1) (wC (.int 0))) ae))) (mB 3))
  (mD (mz (mJ (tK r) (iR (iN 0) (iR (my mH (iN 2) (wC (.int 0))) ae))) (mB 4))
  (mD (mz (oE (iN 1) (ow (wC (.int 1))) oA) (mB 5))
  (mD (mz (oE (iN 2) (ow (wC (.int 1))) oA) (mB 6))
  (mD (nH (rH (nD (my (pA false) (iN 3) (wC .ci))) (nD (my (pA true) (iN 4) (wC .ci)))) (mz (mJ (ua r) (iR (my mH (iN 4) (wC (.int 1))) (iR (iN 1) ae))) (mB 5)) nF)
  (mD (nH (rH (nD (my (pA true) (iN 3) (wC .ci))) (nD (my (pA false) (iN 4) (wC .ci)))) (mz (mJ (ua r) (iR (my mH (iN 3) (wC (.int 1))) (iR (iN 2) ae))) (mB 6)) nF)
  (mD (mz (nA (ph 2 [0] (sO (iN 5) (iN 6)) (pE (nU (mB 0) (nU (mB 1) pe))) pB (Gd r (tH r)))) (mB 7))
  (mD (nH (nD (my (pA false) (iN 4) (wC .ci))) (mY (my ou (m9 (iR (my mH (iN 1) (wC (.int 0))) ae)) (wB rG (iR (iN 7) ae)))) nF)
  (mY (mJ (u8 r) (iR (my mH (iN 4) (wC (.int 2))) (iR (iN 7) ae))))))))))))
def yF (r:Nat) (self:mM):WS:=(mD (nH (nD (my (oO true) (mJ (Bm r) (iR (iN 0) (iR (iN 3) ae))) (iN 2))) (mY (wC (.bl false))) nF)
  (mz (mJ (uw r) (iR (iN 0) (iR (iN 3) ae))) (mB 2)))
def xa:Nat→mM
 |0=>mK
 |r+1=>nC 4 2 (mD (mz (mJ (sH r) (iR (my mH (iN 1) (wC (.int 0))) ae)) (mB 2))
  (mD (oF (on (my mH (iN 1) (wC (.int 1)))) (mB 3) (yF r mK))
  (mY (wC (.bl true)))))
def Bi:Nat→mM
 |0=>mK
 |r+1=>nC 2 2 (A5 ["TooGreat"] (mY (AH (xa r) (iR (iN 0) (iR (iN 1) ae)))) (mY (wC (.bl false))))
def Ir (r:Nat):WS:=(mY (mJ (uw r) (iR (iN 0) (iR (my mH (my mH (iN 1) (wC (.int 1))) (qY (wC (.int 1)))) ae))))
def ND (r:Nat) (T:WS):WS:=(mD (nH (tq (o5 (my mH (iN 1) (wC (.int 1))))) (mY (my mH (iN 1) (wC (.int 0)))) nF) T)
def yr:Nat→mM
 |0=>mK
 |r+1=>nC 2 2 (ND r (Ir r))
def D2 (r:Nat) (self:mM):WS:=(o9 (mJ (uw r) (iR (iN 0) (iR (iN 2) ae))))
def vd:Nat→mM
 |0=>mK
 |r+1=>nC 3 2 (oF (on (iN 1)) (mB 2) (D2 r mK))
def JZ (r:Nat):WS:=(mY (iN 3))
def KL (r:Nat):WS:=(o9 (wM pJ qy (iN 3) (iR (iN 5) ae)))
def L_ (r:Nat) (T:WS):WS:=(mD (o9 (mJ (vd r) (iR (iN 0) (iR (nA (nL (iR (iN 5) ae))) ae)))) T)
def G0 (r:Nat) (T:WS):WS:=(mD (mz (mJ (tH r) (iR (iN 0) (iR (my mH (iN 3) (qY (wC (.int 1)))) (iR (iN 4) ae)))) (mB 5)) T)
def EB (r:Nat) (self:mM):WS:=(G0 r (L_ r (KL r)))
def Gs (r:Nat) (T:WS):WS:=(mD (oF (on (iN 2)) (mB 4) (EB r mK)) T)
def JY (r:Nat) (T:WS):WS:=(mD (mz (nA (nL (iR (iN 1) ae))) (mB 3)) T)
def w6:Nat→mM
 |0=>mK
 |r+1=>nC 6 3 (JY r (Gs r (JZ r)))
def Lh (r:Nat):WS:=(mY (m9 (iR (iN 3) (iR (iN 5) ae))))
def HA (r:Nat) (self:mM):WE:=(mJ (tH r) (iR (iN 2) (iR (iN 0) (iR (iN 1) ae))))
def Fk (r:Nat):WS:=(o9 (wM pJ qy (iN 5) (iR (iN 4) ae)))
def DO (r:Nat) (T:WS):WS:=(mD (o9 (wM pJ qy (iN 3) (iR (iN 7) ae))) T)
def EN (r:Nat) (T:WS):WS:=(mD (mz (nA (ph 2 [0] (sO (iN 4) (iN 7)) (pE (nU (mB 0) (nU (mB 1) pe))) pB (HA r mK))) (mB 4)) T)
def NO (r:Nat) (T:WS):WS:=(mD (mz (mJ (w6 r) (iR (iN 0) (iR (iN 6) (iR (iN 4) ae)))) (mB 7)) T)
def Da (r:Nat) (self:mM):WS:=(NO r (EN r (DO r (Fk r))))
def O' (r:Nat) (T:WS):WS:=(mD (oF (on (my mH (iN 1) (wC (.int 1)))) (mB 6) (Da r mK)) T)
def EV (r:Nat) (T:WS):WS:=(mD (mz (nA (nL (iR (iN 4) ae))) (mB 5)) T)
def Dy (r:Nat) (T:WS):WS:=(mD (mz (nA (yp (my mH (iN 2) (wC (.int 1))))) (mB 4)) T)
def Dg (r:Nat) (T:WS):WS:=(mD (mz (nA (nL ae)) (mB 3)) T)
def Ol (r:Nat) (T:WS):WS:=(mD (o9 (mJ (vd r) (iR (iN 0) (iR (my mH (iN 2) (wC (.int 1))) ae)))) T)
def OL (r:Nat) (T:WS):WS:=(mD (o9 (mJ (vd r) (iR (iN 0) (iR (my mH (iN 1) (wC (.int 1))) ae)))) T)
def Fa (r:Nat) (T:WS):WS:=(mD (o9 (mJ (sH r) (iR (my mH (iN 1) (wC (.int 0))) ae))) T)
def M3 (r:Nat) (T:WS):WS:=(mD (nH (nD (my (oO true) (my mH (iN 1) (wC (.int 0))) (my mH (iN 2) (wC (.int 0))))) (uQ "Apart" (iR (wC (.str "the roads are not from one shape")) ae)) nF) T)
def zm:Nat→mM
 |0=>mK
 |r+1=>nC 8 3 (M3 r (Fa r (OL r (Ol r (Dg r (Dy r (EV r (O' r (Lh r)))))))))
def MW (r:Nat) (self:mM):WE:=(my mH (iN 0) (qY (wC (.int 1))))
def xZ:Nat→mM
 |0=>mK
 |r+1=>nC 1 1 (mY (nA (ph 1 [] (on (my mH (iN 0) (wC (.int 0)))) (mB 0) pB (MW r mK))))
def Lm (r:Nat):WS:=(mY (m9 (iR (mJ (yr r) (iR (iN 0) (iR (iN 2) ae))) (iR (iN 3) ae))))
def JF (r:Nat) (T:WS):WS:=(mD (mz (mJ (xZ r) (iR (mJ (zm r) (iR (iN 0) (iR (iN 1) (iR (iN 2) ae)))) ae)) (mB 3)) T)
def A3:Nat→mM
 |0=>mK
 |r+1=>nC 4 3 (JF r (Lm r))
def Hv (r:Nat) (self:mM):WE:=(mJ (yG r) (iR (iN 0) ae))
def vB:Nat→mM
 |0=>mK
 |r+1=>nC 1 1 (mY (qR tQ (ph 1 [] (on (iN 0)) (mB 0) pB (Hv r mK))))
def Bn:Nat→mM
 |0=>mK
 |r+1=>nC 3 3 (mY (mJ (vB r) (iR (mJ (xZ r) (iR (mJ (zm r) (iR (iN 0) (iR (iN 1) (iR (iN 2) ae)))) ae)) ae)))
def Bv (r:Nat) (self:mM):WS:=(mD (mz (mJ (BS r) (iR (iN 0) (iR (iN 4) (iR (nA (nL (iR (iN 5) ae))) ae)))) (mB 6))
  (mD (mz (mJ (uw r) (iR (iN 0) (iR (iN 6) ae))) (mB 4))
  (o9 (wM pJ qy (iN 3) (iR (iN 6) ae)))))
def Bp:Nat→mM
 |0=>mK
 |r+1=>nC 7 3 (mD (mz (nA (nL ae)) (mB 3))
  (mD (mz (iN 1) (mB 4))
  (mD (oF (on (iN 2)) (mB 5) (Bv r mK))
  (mY (m9 (iR (iN 1) (iR (iN 3) ae)))))))
def Kx (r:Nat) (self:mM):WE:=(my ou (iN 1) (iN 0))
def Dv (r:Nat) (self:mM):WS:=(o9 (vv pJ zK (iN 4) (ph 1 [8] (on (iN 7)) (mB 0) pB (Kx r mK))))
def Ao (r:Nat) (self:mM):WS:=(nH (nD (my (oO false) (oE (iN 2) oA (ow (wB oR (iR (iN 6) ae)))) (iN 6))) (mD (mz (mJ self (iR (iN 0) (iR (my mH (iN 1) (my ou (iN 5) (wC (.int 1)))) (iR (oE (iN 2) (ow (wB oR (iR (iN 6) ae))) oA) ae)))) (mB 7))
  (oF (on (mJ (Aw r) (iR (my mH (iN 3) (wC (.int 2))) (iR (iN 5) ae)))) (mB 8) (Dv r mK))) nF)
def A4 (cT:mM):Nat→mM
 |0=>mK
 |r+1=>nC 9 4 (mD (mz (nA (nL ae)) (mB 4))
  (mD (oF (uA (mJ (wP r) (iR (my mH (iN 3) (wC (.int 1))) ae))) (pE (nU (mB 5) (nU (mB 6) pe))) (Ao r cT))
  (mY (iN 4))))
def OM (r:Nat) (self:mM):WE:=(my ou (m9 (iR (iN 1) ae)) (iN 0))
def qW:Nat→mM
 |0=>mK
 |1=>mK
 |r+2=>nC 5 3 (mD (mz (mJ (tK (r+1)) (iR (iN 0) (iR (my mH (iN 1) (wC (.int 0))) ae))) (mB 3))
  (mD (nH (nD (my (pA true) (iN 3) (wC .ci))) (mY (mJ (A4 (qW r) (r+1)) (iR (iN 0) (iR (iN 1) (iR (iN 2) (iR (iN 3) ae)))))) nF)
  (mD (nH (nD (my (oO false) (iN 2) (m9 ae))) (mY (nA (nL (iR (m9 ae) ae)))) nF)
  (mD (mz (my mH (iN 2) (wC (.int 0))) (mB 4))
  (mY (nA (ph 1 [4] (on (mJ (qW r) (iR (iN 0) (iR (my mH (iN 1) (my ou (iN 4) (wC (.int 1)))) (iR (oE (iN 2) (ow (wC (.int 1))) oA) ae))))) (mB 0) pB (OM r mK))))))))
def F5 (r:Nat) (self:mM):WS:=(o9 (wM pJ wa (iN 3) (iR (mJ (qW r) (iR (iN 0) (iR (iN 1) (iR (iN 4) ae)))) ae)))
def xQ:Nat→mM
 |0=>mK
 |r+1=>nC 5 3 (mD (mz (nA (nL ae)) (mB 3))
  (mD (oF (on (iN 2)) (mB 4) (F5 r mK))
  (mY (iN 3))))
def F_ (r:Nat) (self:mM):WS:=(mz (mJ (xQ r) (iR (iN 0) (iR (iN 4) (iR (iN 3) ae)))) (mB 3))
def By:Nat→mM
 |0=>mK
 |r+1=>nC 5 3 (mD (mz (nA (nL (iR (iN 1) ae))) (mB 3))
  (mD (oF (on (iN 2)) (mB 4) (F_ r mK))
  (mY (my (oO false) (iN 3) (nA (nL ae))))))
def Jv (r:Nat) (self:mM):WS:=(nH (o5 (mJ (By r) (iR (iN 0) (iR (iN 2) (iR (my mH (iN 1) (wC (.int 1))) ae))))) (mY (iN 2)) nF)
def A9:Nat→mM
 |0=>mK
 |r+1=>nC 3 2 (mD (oF (on (mJ (wI r) (iR (mJ (uC r) (iR (iN 0) (iR (my mH (iN 1) (wC (.int 0))) ae))) ae))) (mB 2) (Jv r mK))
  (mY (wC .ci)))
def IG (r:Nat):WS:=(mY (iN 2))
def Dn (r:Nat):WS:=(mz (mJ (A3 r) (iR (iN 0) (iR (iN 3) (iR (m9 (iR (my mH (iN 3) (wC (.int 0))) (iR (nA (nL (iR (mJ (xF r) (iR (iN 0) (iR (my mH (iN 3) (wC (.int 0))) (iR (nA (nL (iR (iN 4) ae))) ae)))) ae))) ae))) ae)))) (mB 3))
def Dc (r:Nat) (T:WS):WS:=(mD (o9 (wM pJ qy (iN 2) (iR (iN 4) ae))) T)
def Fc (r:Nat) (T:WS):WS:=(mD (mz (mJ (A9 r) (iR (iN 0) (iR (iN 3) ae))) (mB 4)) T)
def DK (r:Nat) (T:WS):WS:=(mD (nH (nD (my (oO false) (wB oR (iR (iN 2) ae)) (wC (.int 60)))) (uQ "TooGreat" (iR (wC (.str "the standard row is too long")) ae)) nF) T)
def Mp (r:Nat) (self:mM):WS:=(DK r (Fc r (Dc r (Dn r))))
def IQ (r:Nat) (T:WS):WS:=(mD (xR (tq (o5 (mJ (vB r) (iR (my mH (iN 3) (wC (.int 1))) ae)))) (Mp r mK)) T)
def Kk (r:Nat) (T:WS):WS:=(mD (mz (iN 1) (mB 3)) T)
def Kv (r:Nat) (T:WS):WS:=(mD (mz (nA (nL ae)) (mB 2)) T)
def A_:Nat→mM
 |0=>mK
 |r+1=>nC 5 2 (Kv r (Kk r (IQ r (IG r))))
def uE:Nat→mM
 |0=>mK
 |r+1=>nC 2 2 (mD (nH (nD (my vj (iN 1) (wB oR (iR (iN 0) ae)))) (mY (my mH (iN 0) (iN 1))) nF)
  (mY (wC (.int 0))))
def Ni (r:Nat) (self:mM):WE:=(my mH (iN 1) (my (oH (λ_ j=>0<j) λi j=> .int (i % j)) (my ou (my mH (iN 2) (iN 0)) (my (oH rp λi j=> .int (i*j)) (iN 3) (wB wV (iR (my (oO false) (iN 0) (iN 4)) ae)))) (wC (.int 26))))
def Np (r:Nat) (self:mM):WS:=(mD (mz (vv ve xN (wC (.str "")) (ph 1 [3,5,6,7] (ud (iR (wB oR (iR (iN 5) ae)) ae)) (mB 0) pB (Ni r mK))) (mB 9))
  (mD (nH (o5 (iN 2)) (mz (my ou (wM ve yV (my mH (iN 9) (wC (.int 0))) ae) (oE (iN 9) (ow (wC (.int 1))) oA)) (mB 9)) nF)
  (o9 (wM pJ qy (iN 8) (iR (iN 9) ae)))))
def Ec (r:Nat) (self:mM):WS:=(mD (o9 (wM pJ qy (iN 5) (iR (my (oH (λ_ j=>0<j) λi j=> .int (i % j)) (iN 4) (wC (.int 26))) ae)))
  (mz (my (oH sM λi j=> .int (i / j)) (iN 4) (wC (.int 26))) (mB 4)))
def zb:Nat→mM
 |0=>mK
 |r+1=>nC 10 3 (mD (mz (wC (.str "abcdefghijklmnopqrstuvwxyz")) (mB 3))
  (mD (mz (my (oH (λ_ j=>0<j) λi j=> .int (i % j)) (iN 1) (my (oH Cw λi j=> .int (i ^ j.toNat)) (wC (.int 26)) (wC (.int 8)))) (mB 4))
  (mD (mz (nA (nL ae)) (mB 5))
  (mD (oF (ud (iR (my ou (wC (.int 1)) (my (oH (λ_ j=>0<j) λi j=> .int (i % j)) (iN 0) (wC (.int 8)))) ae)) (mB 6) (Ec r mK))
  (mD (mz (my (oH (λ_ j=>0<j) λi j=> .int (i % j)) (my (oH sM λi j=> .int (i / j)) (iN 0) (wC (.int 8))) (wB oR (iR (iN 5) ae))) (mB 7))
  (mD (mz (nA (nL ae)) (mB 8))
  (mD (oF (ud (iR (wC (.int 6)) ae)) (mB 6) (Np r mK))
  (mD (nH (rH (nD (my (oO false) (my (oH (λ_ j=>0<j) λi j=> .int (i % j)) (my (oH sM λi j=> .int (i / j)) (iN 0) (wC (.int 64))) (wC (.int 2))) (wC (.int 1)))) (tq (o5 (iN 2)))) (mz (nA (t_ (vt (iN 8) oA (ow (wC (.int 3)))) (nL (iR (my mH (iN 8) (wC (.int 2))) (iR (my mH (iN 8) (wC (.int 2))) (iR (my mH (iN 8) (wC (.int 5))) ae)))))) (mB 8)) nF)
  (mY (iN 8))))))))))
def N6 (r:Nat) (self:mM):WE:=(mJ self (iR (iN 0) ae))
def uX:Nat→mM
 |0=>mK
 |r+1=>nC 1 1 (mD (nH (o5 (so "int" (iN 0))) (mY (wC (.int 1))) nF)
  (mY (qR wo (ph 1 [] (on (oE (iN 0) (ow (wC (.int 1))) oA)) (mB 0) pB (N6 r (uX r))))))
def LK (r:Nat) (self:mM):WE:=(mJ self (iR (iN 0) (iR (iN 1) ae)))
def u7:Nat→mM
 |0=>mK
 |r+1=>nC 2 2 (mD (nH (o5 (so "int" (iN 0))) (mY (my mH (iN 1) (iN 0))) nF)
  (mY (my ou (oE (iN 0) oA (ow (wC (.int 1)))) (qR vx (ph 1 [1] (on (oE (iN 0) (ow (wC (.int 1))) oA)) (mB 0) pB (LK r (u7 r)))))))
def B6:Nat→mM
 |0=>mK
 |r+1=>nC 4 4 (mD (nH (nD (my (oO false) (iN 0) (wC (.int 0)))) (mY (nA (nL (iR (m9 (iR (iN 1) (iR (wC (.int 0)) ae))) ae)))) nF)
  (mD (nH (nD (my (oO false) (iN 0) (wC (.int 1)))) (mY (nA (nL (iR (m9 (iR (iN 1) (iR (wC (.int 0)) (iR (wC (.int 1)) ae)))) ae)))) nF)
  (mD (nH (nD (my (oO false) (iN 0) (wC (.int 2)))) (mY (nA (nL (iR (m9 (iR (iN 1) (iR (m9 (iR (iN 2) ae)) ae))) (iR (m9 (iR (iN 1) (iR (m9 (iR (iN 3) (iR (wC (.int 0)) ae))) ae))) ae))))) nF)
  (mD (nH (nD (my (oO false) (iN 0) (wC (.int 3)))) (mY (nA (nL (iR (m9 (iR (iN 1) (iR (m9 (iR (iN 2) ae)) (iR (wC (.int 0)) ae)))) (iR (m9 (iR (iN 1) (iR (m9 (iR (iN 3) (iR (wC (.int 0)) ae))) (iR (wC (.int 1)) ae)))) ae))))) nF)
  (mD (nH (nD (my (oO false) (iN 0) (wC (.int 4)))) (mY (nA (nL (iR (m9 (iR (iN 1) (iR (m9 (iR (iN 3) (iR (m9 (iR (iN 3) (iR (wC (.int 0)) ae))) ae))) (iR (wC (.int 1)) (iR (wC (.int 2)) ae))))) (iR (m9 (iR (iN 1) (iR (m9 (iR (iN 3) (iR (m9 (iR (iN 2) ae)) ae))) (iR (wC (.int 0)) (iR (wC (.int 1)) ae))))) ae))))) nF)
  (mY (nA (nL (iR (m9 (iR (iN 1) ae)) ae)))))))))
def AY:Nat→mM
 |0=>mK
 |r+1=>nC 4 3 (mD (nH (nD (my (oO false) (iN 0) (wC (.int 0)))) (mY (nA (nL (iR (m9 (iR (my mH (iN 1) (wC (.int 2))) ae)) (iR (m9 (iR (my mH (iN 1) (wC (.int 5))) ae)) (iR (m9 (iR (my mH (iN 1) (wC (.int 3))) (iR (m9 (iR (my mH (iN 1) (wC (.int 5))) ae)) ae))) ae)))))) nF)
  (mD (nH (nD (my (oO false) (iN 0) (wC (.int 1)))) (mD (mz (nA (nL (iR (wC (.int 0)) (iR (m9 (iR (my mH (iN 1) (wC (.int 3))) (iR (wC (.int 0)) ae))) (iR (m9 (iR (my mH (iN 1) (wC (.int 4))) (iR (wC (.int 0)) (iR (wC (.int 0)) ae)))) (iR (m9 (iR (my mH (iN 1) (wC (.int 4))) (iR (m9 (iR (my mH (iN 1) (wC (.int 3))) (iR (wC (.int 0)) ae))) (iR (m9 (iR (my mH (iN 1) (wC (.int 2))) ae)) ae)))) ae)))))) (mB 3))
  (mD (nH (o5 (iN 2)) (mY (nA (sk (iN 3) (nL (iR (m9 (iR (my mH (iN 1) (wC (.int 0))) (iR (wC (.int 0)) ae))) (iR (m9 (iR (my mH (iN 1) (wC (.int 1))) (iR (m9 (iR (my mH (iN 1) (wC (.int 3))) (iR (wC (.int 0)) ae))) (iR (wC (.int 0)) ae)))) (iR (m9 (iR (my mH (iN 1) (wC (.int 3))) (iR (m9 (iR (my mH (iN 1) (wC (.int 0))) (iR (wC (.int 0)) ae))) ae))) ae))))))) nF)
  (mY (nA (sk (iN 3) (nL (iR (m9 (iR (my mH (iN 1) (wC (.int 2))) ae)) (iR (m9 (iR (my mH (iN 1) (wC (.int 3))) (iR (m9 (iR (my mH (iN 1) (wC (.int 5))) ae)) ae))) ae)))))))) nF)
  (mD (nH (nD (my (oO false) (iN 0) (wC (.int 3)))) (mD (mz (nA (nL (iR (m9 (iR (my mH (iN 1) (wC (.int 4))) (iR (m9 (iR (my mH (iN 1) (wC (.int 4))) (iR (wC (.int 0)) (iR (wC (.int 1)) ae)))) (iR (wC (.int 2)) ae)))) (iR (m9 (iR (my mH (iN 1) (wC (.int 4))) (iR (wC (.int 2)) (iR (m9 (iR (my mH (iN 1) (wC (.int 4))) (iR (wC (.int 1)) (iR (wC (.int 0)) ae)))) ae)))) (iR (m9 (iR (my mH (iN 1) (wC (.int 4))) (iR (m9 (iR (my mH (iN 1) (wC (.int 4))) (iR (wC (.int 0)) (iR (wC (.int 0)) ae)))) (iR (m9 (iR (my mH (iN 1) (wC (.int 4))) (iR (wC (.int 1)) (iR (wC (.int 2)) ae)))) ae)))) ae))))) (mB 3))
  (mD (nH (o5 (iN 2)) (mY (nA (sk (iN 3) (nL (iR (m9 (iR (my mH (iN 1) (wC (.int 0))) (iR (m9 (iR (my mH (iN 1) (wC (.int 4))) (iR (m9 (iR (my mH (iN 1) (wC (.int 4))) (iR (wC (.int 2)) (iR (wC (.int 0)) ae)))) (iR (wC (.int 1)) ae)))) ae))) (iR (m9 (iR (my mH (iN 1) (wC (.int 1))) (iR (wC (.int 1)) (iR (m9 (iR (my mH (iN 1) (wC (.int 4))) (iR (wC (.int 0)) (iR (wC (.int 2)) ae)))) ae)))) ae)))))) nF)
  (mY (nA (sk (iN 3) (nL (iR (wC (.int 0)) (iR (wC (.int 2)) (iR (m9 (iR (my mH (iN 1) (wC (.int 4))) (iR (wC (.int 1)) (iR (wC (.int 1)) ae)))) (iR (m9 (iR (my mH (iN 1) (wC (.int 5))) ae)) ae)))))))))) nF)
  (mD (mz (nA (nL (iR (m9 (iR (my mH (iN 1) (wC (.int 4))) (iR (wC (.int 0)) (iR (wC (.int 1)) ae)))) (iR (m9 (iR (my mH (iN 1) (wC (.int 4))) (iR (wC (.int 1)) (iR (wC (.int 0)) ae)))) (iR (m9 (iR (my mH (iN 1) (wC (.int 4))) (iR (m9 (iR (my mH (iN 1) (wC (.int 3))) (iR (wC (.int 0)) ae))) (iR (wC (.int 1)) ae)))) (iR (m9 (iR (my mH (iN 1) (wC (.int 4))) (iR (m9 (iR (my mH (iN 1) (wC (.int 4))) (iR (wC (.int 0)) (iR (wC (.int 0)) ae)))) (iR (wC (.int 1)) ae)))) ae)))))) (mB 3))
  (mD (nH (o5 (iN 2)) (mY (nA (sk (iN 3) (nL (iR (m9 (iR (my mH (iN 1) (wC (.int 1))) (iR (wC (.int 1)) (iR (wC (.int 0)) ae)))) (iR (m9 (iR (my mH (iN 1) (wC (.int 0))) (iR (m9 (iR (my mH (iN 1) (wC (.int 4))) (iR (wC (.int 0)) (iR (wC (.int 1)) ae)))) ae))) ae)))))) nF)
  (mY (nA (sk (iN 3) (nL (iR (wC (.int 0)) (iR (wC (.int 1)) (iR (m9 (iR (my mH (iN 1) (wC (.int 3))) (iR (wC (.int 1)) ae))) (iR (m9 (iR (my mH (iN 1) (wC (.int 5))) ae)) ae)))))))))))))
def Df (r:Nat) (self:mM):WS:=(mD (mz (mJ (AY r) (iR (mJ (uX r) (iR (iN 9) ae)) (iR (iN 2) (iR (iN 4) ae)))) (mB 10))
  (mD (mz (mJ (uE r) (iR (iN 0) (iR (my ou (my ou (my ou (iN 1) (wC (.int 2))) (my (oH rp λi j=> .int (i*j)) (wC (.int 2)) (iN 6))) (iN 8)) ae))) (mB 11))
  (o9 (wM pJ qy (iN 5) (iR (m9 (iR (my mH (iN 3) (wB oR (iR (iN 5) ae))) (iR (iN 9) (iR (my mH (iN 10) (my (oH (λ_ j=>0<j) λi j=> .int (i % j)) (iN 11) (wB oR (iR (iN 10) ae)))) ae)))) ae)))))
def MT (r:Nat) (self:mM):WS:=(mD (mz (mJ (B6 r) (iR (my (oH (λ_ j=>0<j) λi j=> .int (i % j)) (mJ (uE r) (iR (iN 0) (iR (my ou (iN 1) (iN 6)) ae))) (wC (.int 6))) (iR (my mH (iN 2) (iN 6)) (iR (my mH (iN 2) (wC (.int 2))) (iR (my mH (iN 2) (wC (.int 3))) ae))))) (mB 7))
  (oF (uA (iN 7)) (pE (nU (mB 8) (nU (mB 9) pe))) (Df r mK)))
def B1:Nat→mM
 |0=>mK
 |r+1=>nC 12 5 (mD (mz (nA (nL ae)) (mB 5))
  (mD (oF (ud (iR (wC (.int 2)) ae)) (mB 6) (MT r mK))
  (mY (iN 5))))
def Ma (r:Nat) (self:mM):WS:=(mz (nA (t_ (vt (iN 4) oA (ow (qY (wC (.int 2))))) (nL (iR (m9 (iR (qY (wC (.int 1))) (iR (wC (.int 0)) (iR (my mH (iN 2) (wC (.int 4))) (iR (oE (iN 4) (ow (qY (wC (.int 2)))) oA) ae))))) ae)))) (mB 4))
def HR (r:Nat) (self:mM):WS:=(mD (mz (my (oH (λ_ j=>0<j) λi j=> .int (i % j)) (iN 6) (wC (.int 8))) (mB 7))
  (mD (mz (t7 (nL (iR (wC (.int 0)) (iR (wC (.int 0)) (iR (wC (.int 1)) (iR (wC (.int 2)) ae))))) (wB uI (iR (iN 7) (iR (wC (.int 3)) ae)))) (mB 8))
  (mD (mz (m9 (iR (qY (wC (.int 1))) (iR (wC (.int 0)) (iR (my mH (iN 2) (t7 (nL (iR (wC (.int 2)) (iR (wC (.int 5)) (iR (wC (.int 3)) (iR (wC (.int 4)) ae))))) (wB uI (iR (iN 7) (iR (wC (.int 3)) ae))))) ae)))) (mB 9))
  (mD (nH (nD (my uc (iN 7) (wC (.int 3)))) (mD (mz (my (oH (λ_ j=>0<j) λi j=> .int (i % j)) (my (oH sM λi j=> .int (i / j)) (iN 6) (wC (.int 8))) (wB oR (iR (iN 1) ae))) (mB 10))
  (mD (mz (mJ (uX r) (iR (my mH (my mH (iN 1) (iN 10)) (wC (.int 1))) ae)) (mB 8))
  (mD (mz (m9 (iR (iN 10) (iR (my (oH (λ_ j=>0<j) λi j=> .int (i % j)) (my (oH sM λi j=> .int (i / j)) (iN 6) (wC (.int 64))) (wC (.int 8))) (iR (wC (.str "")) ae)))) (mB 9))
  (mz (my ou (iN 5) (wC (.int 1))) (mB 5))))) nF)
  (nH (rH (nD (my uc (iN 3) (wC (.int 0)))) (nD (my vj (iN 5) (wC (.int 5))))) (mD (mz (my (rz λi j=> .int (i - j)) (iN 3) (wC (.int 1))) (mB 3))
  (mD (mz (nA (xn (xA (nL (iR (m9 (iR (qY (wC (.int 1))) (iR (wC (.int 0)) (iR (my mH (iN 2) (wC (.int 2))) (iR (nA (nL ae)) ae))))) ae)) (my (rz λi j=> .int (i - j)) (iN 8) (wB oR (iR (iN 4) ae)))) (iN 4))) (mB 4))
  (mD (mz (my (rz λi j=> .int (i - j)) (wB oR (iR (iN 4) ae)) (iN 8)) (mB 11))
  (mz (nA (t_ (vt (iN 4) oA (ow (iN 11))) (nL (iR (my ou (iN 9) (m9 (iR (oE (iN 4) (ow (iN 11)) oA) ae))) ae)))) (mB 4))))) nF)))))
def Cs:Nat→mM
 |0=>mK
 |r+1=>nC 12 4 (mD (mz (nA (nL ae)) (mB 4))
  (mD (mz (wC (.int 0)) (mB 5))
  (mD (oF (on (iN 0)) (mB 6) (HR r mK))
  (mD (xR (nD (my uc (wB oR (iR (iN 4) ae)) (wC (.int 1)))) (Ma r mK))
  (mY (t7 (sk (iN 4) (nL (iR (m9 (iR (qY (wC (.int 1))) (iR (wC (.int 0)) (iR (my mH (iN 2) (wC (.int 5))) (iR (nA (nL ae)) ae))))) ae))) (wC (.int 0))))))))
def Mw (r:Nat) (self:mM):WE:=(mJ self (iR (iN 0) (iR (iN 1) (iR (iN 2) ae))))
def zG:Nat→mM
 |0=>mK
 |r+1=>nC 8 3 (mD (mz (iN 0) (pE (nU (mB 3) (nU (mB 4) (nU (mB 5) (nU (mB 6) pe))))))
  (mD (mz (nA (ph 1 [1,2] (on (iN 6)) (mB 0) pB (Mw r (zG r)))) (mB 7))
  (mD (nH (nD (my vj (iN 3) (wC (.int 0)))) (mY (my ou (m9 (iR (iN 5) ae)) (wB rG (iR (iN 7) ae)))) nF)
  (mD (nH (nD (my (oO false) (my (oH (λ_ j=>0<j) λi j=> .int (i % j)) (my (oH sM λi j=> .int (i / j)) (iN 4) (iN 2)) (wC (.int 2))) (wC (.int 1)))) (mY (my ou (m9 (iR (my mH (my mH (iN 1) (iN 3)) (wC (.int 0))) ae)) (wB rG (iR (iN 7) ae)))) nF)
  (mY (mJ (u7 r) (iR (my mH (my mH (iN 1) (iN 3)) (wC (.int 1))) (iR (iN 7) ae))))))))
def ML (r:Nat) (self:mM):WS:=(nH (nD (my (oO false) (my mH (iN 4) (wC (.int 0))) (my mH (iN 1) (wC (.int 0))))) (mY (mJ (u7 r) (iR (my mH (iN 4) (iN 2)) (iR (iN 3) ae)))) nF)
def Iq (r:Nat) (self:mM):WE:=(mJ self (iR (iN 1) (iR (iN 0) (iR (iN 2) ae))))
def zp:Nat→mM
 |0=>mK
 |r+1=>nC 5 3 (mD (mz (nA (ph 1 [0,2] (on (oE (iN 1) (ow (wC (.int 1))) oA)) (mB 0) pB (Iq r (zp r)))) (mB 3))
  (mD (oF (on (iN 0)) (mB 4) (ML r mK))
  (mY (my ou (oE (iN 1) oA (ow (wC (.int 1)))) (wB rG (iR (iN 3) ae))))))
def HG (r:Nat) (self:mM):WE:=(my ou (m9 (iR (iN 1) ae)) (iN 0))
def DI (r:Nat) (self:mM):WS:=(mz (nA (sk (iN 1) (ph 1 [2] (on (mJ self (iR (iN 3) ae))) (mB 0) pB (HG r mK)))) (mB 1))
def uZ:Nat→mM
 |0=>mK
 |r+1=>nC 4 1 (mD (mz (nA (nL (iR (m9 ae) ae))) (mB 1))
  (mD (nH (tq (o5 (so "int" (iN 0)))) (oF (uA (oE (iN 0) (ow (wC (.int 1))) oA)) (pE (nU (mB 2) (nU (mB 3) pe))) (DI r (uZ r))) nF)
  (mY (iN 1))))
def DV (r:Nat) (self:mM):WS:=(mz (my mH (iN 0) (my ou (iN 2) (wC (.int 1)))) (mB 0))
def zM:Nat→mM
 |0=>mK
 |r+1=>nC 3 2 (mD (oF (on (iN 1)) (mB 2) (DV r mK))
  (mY (iN 0)))
def MG (r:Nat) (self:mM):WE:=(mJ self (iR (iN 0) (iR (iN 1) ae)))
def vw:Nat→mM
 |0=>mK
 |r+1=>nC 2 2 (mD (nH (o5 (so "int" (iN 0))) (mY (wC (.bl true))) nF)
  (mD (nH (tI (nD (my (oO true) (my mH (iN 0) (wC (.int 0))) (my mH (iN 1) (wC (.int 0))))) (nD (my (oO true) (wB oR (iR (iN 0) ae)) (wB oR (iR (iN 1) ae))))) (mY (wC (.bl false))) nF)
  (mY (qR tQ (ph 2 [] (sO (oE (iN 0) (ow (wC (.int 1))) oA) (oE (iN 1) (ow (wC (.int 1))) oA)) (pE (nU (mB 0) (nU (mB 1) pe))) pB (MG r (vw r)))))))
def Ei (r:Nat) (self:mM):WS:=(nH (o5 (mJ (vw r) (iR (my mH (iN 4) (wC (.int 1))) (iR (mJ (zM r) (iR (iN 1) (iR (iN 3) ae))) ae)))) (o9 (wM pJ qy (iN 2) (iR (m9 (iR (iN 3) (iR (my mH (iN 4) (wC (.int 0))) ae))) ae))) nF)
def Dj (r:Nat) (self:mM):WS:=(oF (on (iN 0)) (mB 4) (Ei r mK))
def vk:Nat→mM
 |0=>mK
 |r+1=>nC 5 2 (mD (mz (nA (nL ae)) (mB 2))
  (mD (oF (on (mJ (uZ r) (iR (iN 1) ae))) (mB 3) (Dj r mK))
  (mY (iN 2))))
def D5 (r:Nat) (self:mM):WS:=(mz (my ou (iN 2) (mJ self (iR (iN 3) (iR (iN 4) ae)))) (mB 2))
def u0:Nat→mM
 |0=>mK
 |r+1=>nC 5 2 (mD (nH (o5 (so "int" (iN 0))) (mY (nA (nL (iR (iN 1) ae)))) nF)
  (mD (mz (nA (nL ae)) (mB 2))
  (mD (oF (sO (oE (iN 0) (ow (wC (.int 1))) oA) (oE (iN 1) (ow (wC (.int 1))) oA)) (pE (nU (mB 3) (nU (mB 4) pe))) (D5 r (u0 r)))
  (mY (iN 2)))))
def xb:Nat→mM
 |0=>mK
 |r+1=>nC 4 3 (mD (nH (nD (my (oO false) (iN 1) (m9 ae))) (mY (iN 2)) nF)
  (mD (mz (my ou (my mH (iN 1) (wC (.int 0))) (wC (.int 1))) (mB 3))
  (mY (my ou (my ou (oE (iN 0) oA (ow (iN 3))) (m9 (iR (mJ (xb r) (iR (my mH (iN 0) (iN 3)) (iR (oE (iN 1) (ow (wC (.int 1))) oA) (iR (iN 2) ae)))) ae))) (oE (iN 0) (ow (my ou (iN 3) (wC (.int 1)))) oA)))))
def Kh (r:Nat) (self:mM):WS:=(nH (o5 (mJ (vw r) (iR (my mH (iN 4) (wC (.int 1))) (iR (iN 3) ae)))) (mY (mJ (xb r) (iR (iN 1) (iR (iN 2) (iR (mJ (u7 r) (iR (my mH (iN 4) (wC (.int 2))) (iR (mJ (u0 r) (iR (my mH (iN 4) (wC (.int 1))) (iR (iN 3) ae))) ae))) ae))))) nF)
def w9:Nat→mM
 |0=>mK
 |r+1=>nC 5 3 (mD (mz (mJ (zM r) (iR (iN 1) (iR (iN 2) ae))) (mB 3))
  (mD (oF (on (iN 0)) (mB 4) (Kh r mK))
  (mY (iN 1))))
def C4 (r:Nat) (self:mM):WS:=(mD (mz (mJ (vk r) (iR (iN 0) (iR (iN 3) ae))) (mB 6))
  (nH (rH (nD (my uc (wB oR (iR (iN 6) ae)) (wC (.int 0)))) (nD (my vj (wB oR (iR (iN 4) ae)) (wC (.int 7))))) (mD (o9 (wM pJ qy (iN 4) (iR (my mH (my mH (iN 6) (my (oH (λ_ j=>0<j) λi j=> .int (i % j)) (iN 5) (wB oR (iR (iN 6) ae)))) (wC (.int 0))) ae)))
  (mz (mJ (w9 r) (iR (iN 0) (iR (iN 3) (iR (my mH (iN 4) (qY (wC (.int 1)))) ae)))) (mB 3))) nF))
def BU:Nat→mM
 |0=>mK
 |r+1=>nC 7 3 (mD (mz (iN 1) (mB 3))
  (mD (mz (nA (nL ae)) (mB 4))
  (mD (oF (on (iN 2)) (mB 5) (C4 r mK))
  (mY (m9 (iR (iN 4) (iR (iN 3) ae)))))))
def On (r:Nat) (self:mM):WE:=(my mH (iN 0) (wC (.int 0)))
def FL (r:Nat) (self:mM):WS:=(mD (nH (nD (my (uy true) (iN 3) (nA (ph 1 [] (on (mJ (vk r) (iR (iN 0) (iR (iN 1) ae)))) (mB 0) pB (On r mK))))) (mY (wC .ci)) nF)
  (mz (mJ (w9 r) (iR (iN 0) (iR (iN 1) (iR (iN 3) ae)))) (mB 1)))
def BN:Nat→mM
 |0=>mK
 |r+1=>nC 4 3 (mD (oF (on (iN 2)) (mB 3) (FL r mK))
  (mY (iN 1)))
def FF (r:Nat):WS:=(mY (my (oO false) (mJ (BN r) (iR (iN 3) (iR (iN 4) (iR (mJ (A_ r) (iR (iN 3) (iR (iN 7) ae))) ae)))) (iN 6)))
def D_ (r:Nat) (T:WS):WS:=(mD (nH (rH (nD (my (oO false) (wB oR (iR (mJ (vk r) (iR (iN 3) (iR (iN 6) ae))) ae)) (wC (.int 0)))) (nD (my (oO true) (iN 6) (iN 10)))) (mY (wC (.bl false))) nF) T)
def Dt (r:Nat) (T:WS):WS:=(mD (nH (tI (nD (my (oO true) (mJ (yr r) (iR (iN 3) (iR (iN 8) ae))) (iN 10))) (nD (my (oO true) (mJ (vk r) (iR (iN 3) (iR (iN 10) ae))) (nA (nL ae))))) (mY (wC (.bl false))) nF) T)
def Es (r:Nat) (self:mM):WS:=(mz (mJ (zp r) (iR (iN 3) (iR (iN 11) (iR (wC (.int 2)) ae)))) (mB 10))
def Et (r:Nat) (T:WS):WS:=(mD (oF (on (my mH (iN 8) (wC (.int 1)))) (mB 11) (Es r mK)) T)
def F1 (r:Nat) (T:WS):WS:=(mD (mz (iN 4) (mB 10)) T)
def EU (r:Nat) (T:WS):WS:=(mD (nH (tI (nD (my (pA true) (iN 9) (wC (.bl true)))) (tI (nD (my (pA true) (mJ (Bi r) (iR (iN 3) (iR (iN 8) ae))) (wC (.bl true)))) (nD (my (pA true) (mJ (Bn r) (iR (iN 3) (iR (iN 7) (iR (iN 8) ae)))) (wC (.bl true)))))) (mY (wC (.bl false))) nF) T)
def DM (r:Nat) (T:WS):WS:=(mD (mz (mJ (Bd r) (iR (iN 3) (iR (iN 4) (iR (wC (.int 9)) ae)))) (pE (nU (mB 8) (nU (mB 9) pe)))) T)
def FZ (r:Nat) (T:WS):WS:=(mD (mz (mJ (Bp r) (iR (iN 3) (iR (iN 4) (iR (iN 5) ae)))) (mB 7)) T)
def F9 (r:Nat) (T:WS):WS:=(mD (mz (mJ (BU r) (iR (iN 3) (iR (iN 4) (iR (oE (iN 0) (ow (wC (.int 25))) (ow (wC (.int 63)))) ae)))) (pE (nU (mB 5) (nU (mB 6) pe)))) T)
def EZ (r:Nat) (T:WS):WS:=(mD (mz (mJ (zG r) (iR (mJ (Cs r) (iR (oE (iN 0) (ow (wC (.int 10))) (ow (wC (.int 25)))) (iR (iN 3) (iR (iN 1) (iR (wC (.int 7)) ae))))) (iR (iN 3) (iR (wC (.int 8)) ae)))) (mB 4)) T)
def CZ (r:Nat) (T:WS):WS:=(mD (mz (mJ (B1 r) (iR (iN 0) (iR (wC (.int 4)) (iR (iN 1) (iR (iN 2) (iR (wC (.bl false)) ae)))))) (mB 3)) T)
def Fp (r:Nat) (T:WS):WS:=(mD (mz (mJ (zb r) (iR (mJ (uE r) (iR (iN 0) (iR (wC (.int 2)) ae))) (iR (mJ (uE r) (iR (iN 0) (iR (wC (.int 3)) ae))) (iR (wC (.bl true)) ae)))) (mB 2)) T)
def Ft (r:Nat) (T:WS):WS:=(mD (mz (mJ (zb r) (iR (mJ (uE r) (iR (iN 0) (iR (wC (.int 0)) ae))) (iR (mJ (uE r) (iR (iN 0) (iR (wC (.int 1)) ae))) (iR (wC (.bl false)) ae)))) (mB 1)) T)
def xS:Nat→mM
 |0=>mK
 |r+1=>nC 12 1 (Ft r (Fp r (CZ r (EZ r (F9 r (FZ r (DM r (EU r (F1 r (Et r (Dt r (D_ r (FF r)))))))))))))
def yz{E:ah→lF→Prop}(h:Q (.bW (af t.dI)) S):xJ (r+1) [lA t] S Q E:=by
 rw[xJ];cases t with
 |bl n=>
  simp only[lA];ext;exact⟨aQ _,S, .refl,h⟩
 |nd s ts=>
  simp only[lA];ext;exact⟨S, .refl,h⟩
mutual
noncomputable def Tr.pl (p:List Int):Tr→List (List Int)
 | .bl _=>[p]
 | .nd _ ts=>p::qw p 0 ts
noncomputable def qw (p:List Int) (i:Nat):List Tr→List (List Int)
 | []=>[]
 |t::ts=>t.pl (p++[(i:Int)])++qw p (i+1) ts
end
mutual
theorem LN:∀(t:Tr) (p:List Int),(t.pl p).length=t.aq
 | .bl _,p=>by simp [Tr.pl,Tr.aq]
 | .nd _ ts,p=>by simp [Tr.pl,Tr.aq,Hr ts p 0];lia
theorem Hr:∀(ts:List Tr) (p:List Int) (i:Nat),(qw p i ts).length=mO ts
 | [],p,i=>by simp [qw,mO]
 |t::ts,p,i=>by simp [qw,mO,LN t,Hr ts p (i+1)]
end
def HY:ou (mE p) (.bW [.int i]) S Q=(p.length+1≤sizeLine∧Q (mE (p++[i])) S):=by
 unfold mE;rw[E_];simp
mutual
theorem Nr:∀(t:Tr) {r:Nat}{p:List Int}{a:ai}{xs:List W}{S:lF}{Q:WK}{E:ah→lF→Prop},t.depth≤r→S a=aa (.bP xs)→xs.length+t.aq≤1000000→p.length+t.depth≤1000000→
  Q .ci (bQ S a (.bP (xs++(t.pl p).map mE)))→wu (r+1) [lA t,mE p, .ref a] S Q E
 | .bl n,r,p,a,xs,S,Q,E,hr,ha,hx,hp,h=>by
  obtain⟨r,rfl⟩:∃r',r=r'+1:=⟨r - 1,by simp [Tr.depth]at hr;lia⟩
  rw[wu];ext;simp only[ni ha,true_and];simp [Tr.aq]at hx;refine⟨qJ (by lia),?_⟩;refine yz ?_;simp only[Tr.dI,af,pL,mS];simp only[Tr.pl,aC,cy]at h;exact⟨_, .refl,h⟩
 | .nd s ts,r,p,a,xs,S,Q,E,hr,ha,hx,hp,h=>by
  simp only[Tr.depth]at hr hp;simp only[Tr.aq]at hx;obtain⟨r,rfl⟩:∃r',r=r'+1:=⟨r - 1,by lia⟩
  rw[wu];ext;simp only[ni ha,true_and];refine⟨qJ (by lia),?_⟩;refine yz ?_;dsimp only[Tr.dI];refine Op ts (xs:=xs++[mE p]) (by lia) mV (by simp;lia) (by lia) λx y=>?_;rw[pM];refine⟨_, .refl,?_⟩;simpa [Tr.pl,bD]using h
theorem Op:∀(ts:List Tr) {r:Nat}{p:List Int}{i:Nat}{a:ai}{xs:List W}{S:lF}{E:WX}{D:m4}{t0 x y:Option W},nj ts≤r→S a=aa (.bP xs)→xs.length+mO ts≤1000000→p.length+1+nj ts≤1000000→
  (∀x y,D.nx [t0,aa (mE p),aa (.ref a),x,y] (bQ S a (.bP (xs++(qw p i ts).map mE))))→
  mS (pE (nU (mB 3) (nU (mB 4) pe))) (DE (r+1) (wu (r+1))) E D (λ_=>True) (pL i (af ts)) [t0,aa (mE p),aa (.ref a),x,y] S
 | [],r,p,i,a,xs,S,E,D,t0,x,y,hr,ha,hx,hp,h=>by
  simp only[af,pL,mS];have:=h x y;simp only[qw,cy,bf,sF ha]at this;exact this
 |t::ts,r,p,i,a,xs,S,E,D,t0,x,y,hr,ha,hx,hp,h=>by
  simp only[nj]at hr hp;simp only[mO]at hx;simp only[af,pL,mS,DE];ext;rw[HY];refine⟨m_ (by lia),m_ (by lia),Nr t (p:=p++[(i:Int)]) (by lia) ha (by lia) (by simp;lia) ?_⟩;refine⟨_, .refl,Op ts (by lia) mV (by simp [LN];lia) (by lia) λx y=>?_⟩;rw[pM];simpa [qw,bD]using h x y
end
def YZ{E:ah→lF→Prop}(hr:t.depth+1≤r) (hw:t.aq≤100000) (hd:t.depth≤100000) (h:∀a,S a=none→Q (.ref a) (bQ S a (.bP ((t.pl []).map mE)))):B4 (r+1) [lA t] S Q E:=by
 obtain⟨r,rfl⟩:∃r',r=r'+1:=⟨r - 1,by lia⟩
 rw[B4];ext;refine⟨aQ _,λa ha=>⟨aQ _,Nr t (p:=[]) (xs:=[]) (by lia) mV (by simp;lia) (by simp;lia) ?_⟩⟩;rw[pM,aX];exact⟨_, .refl,h a ha⟩
noncomputable def Tr.at:Tr→List Int→Option Tr
 |t,[]=>aa t
 | .bl _,_::_=>none
 | .nd _ ts,i::p=>if i<0 then none else match ts[i.toNat]? with
  |some u=>u.at p
  |none=>none
def Wm{E:ah→lF→Prop}(hi:0≤i) (hu:t.dI[i.toNat]? =aa u) (h:Q (lA u) S):Ba (r+2) [lA t, .int i] S Q E:=by
 rw[Ba];ext;refine yz ?_;have hl:i.toNat<t.dI.length:=(b6.mp hu).1;ext;rw[pP];rw[if_neg (by lia),if_neg (by lia)];have e:nE (af t.dI) i=aa (lA u):=by
  have q:=rS (xs:=af t.dI) (n:=i.toNat);rw[ck hi]at q;rw[q,o6,aT,hu];rfl
 rw[e];exact⟨S, .refl,h⟩
def Uf:∀{t u:Tr}{r:Nat}{S:lF}{E:WX}{D:m4}{x y z:Option W},t.at p=aa u→(∀z,D.nx [x,y,aa (lA u),z] S)→
  mS (mB 3) (F8 (r+2) mK) E D (λ_=>True) (p.map W.int) [x,y,aa (lA t),z] S:=by
 induction p with
 |nil=>
  intro t u r S E D x y z e h;unfold Tr.at at e;cases e;exact h z
 |cons i p ih=>
  intro t u r S E D x y z e h;cases t with
  |bl n=>cases e
  |nd s ts=>
   unfold Tr.at at e;split at e
   ·cases e
   ·rename_i hi;split at e
    ·rename_i v ev;simp only[aC,mS,F8];ext;refine Wm (t:= .nd s ts) (u:=v) (by lia) ev ⟨S, .refl,?_⟩;exact ih e h
    ·cases e
def LS{E:ah→lF→Prop}(e:t.at p=aa u) (h:Q (lA u) S):zo (r+3) [lA t,mE p] S Q E:=by
 rw[zo];ext;unfold mE;dsimp only;exact Uf e λz=>⟨S, .refl,h⟩
def sD (c:Nat):Prop:=97≤c∧c≤122
def ox (x:ah):Prop:=1≤x.cps.toList.length∧x.cps.toList.length≤8∧ ∀c∈x.cps.toList,sD c
def p5 (x:ah):Prop:=∃c r,x.cps.toList=c::r∧65≤c∧c≤90∧r.length≤7∧ ∀d∈r,sD d
def Zh:(bE "abcdefghijklmnopqrstuvwxyz").cps.toList=fZ 97 26:=by decide +kernel
def U4:(bE "abcdefghijklmnopqrstuvwxyz").length=26:=by decide +kernel
theorem Mg:∀cs:List Nat,(dj (bE "") (cs.map λc=>(⟨#[c]⟩:ah))).cps.toList=cs
 | []=>rfl
 | [c]=>rfl
 |c::d::r=>by
  have ih:=Mg (d::r);show((⟨#[c]⟩:ah)++bE "" ++dj (bE "") ((d::r).map λc=>(⟨#[c]⟩:ah))).cps.toList=_;show(#[c]++(bE "").cps++(dj (bE "") ((d::r).map λc=>(⟨#[c]⟩:ah))).cps).toList=_;rw[jD,jD,ih];rfl
def Pc (cs:List Nat):((cs.map λc=>(⟨#[c]⟩:ah)).map (·.length)).sum=cs.length:=by
 induction cs with
 |nil=>rfl
 |cons c r ih=>
  rw[aC,aC,kI,ih,aU];show 1+r.length=r.length+1;lia
theorem J9:∀cs:List Nat,vg (cs.map λc=>W.str ⟨#[c]⟩)=aa (cs.map λc=>(⟨#[c]⟩:ah))
 | []=>rfl
 |c::cs=>by rw[aC,vg,J9 cs];rfl
def Sr (cs:List Nat) (h:cs.length≤1000):(List.map (λx=>x.length) (cs.map λc=>(⟨#[c]⟩:ah))).sum+(cs.map λc=>(⟨#[c]⟩:ah)).length*(bE "").length≤16777216:=by
 have e:=Pc cs;have z:(bE "").length=0:=by decide +kernel
 rw[e,z];lia
def Ks{lo:Int}{n:Nat}:(sJ lo n).length=n:=by simp [sJ]
def YW{α:Type}{xs:List α}(n:Int) (h:xs≠ []):∃(i:Nat) (x:α),xs[i]? =aa x∧nE xs (n % (xs.length:Int))=aa x:=by
 have hp:0<xs.length:=kz.mpr h;have h0:0≤n % (xs.length:Int):=cY _ (by lia);have h1:n % (xs.length:Int)<(xs.length:Int):=dh _ (by lia);have hlt:(n % (xs.length:Int)).toNat<xs.length:=by lia
 refine⟨(n % (xs.length:Int)).toNat,xs[(n % (xs.length:Int)).toNat],aR hlt,?_⟩;have e:=G5 (xs:=xs) (j:=(n % (xs.length:Int)).toNat) (v:=xs[(n % (xs.length:Int)).toNat]) (aR hlt);rw[ck h0]at e;exact e
def xB (ts us:List Tr):af (ts++us)=af ts++af us:=by rw[o6,o6,o6,bK]
def P7 (ts:List Tr) (n:Nat):(af ts).take n=af (ts.take n):=by rw[o6,o6,ja]
def WP (ts:List Tr) (n:Nat):(af ts).drop n=af (ts.drop n):=by rw[o6,o6,iZ]
mutual
noncomputable def Tr.plt (p:List Int):Tr→List (List Int×Tr)
 | .bl n=>[(p, .bl n)]
 | .nd s ts=>(p, .nd s ts)::oN p 0 ts
noncomputable def oN (p:List Int) (i:Nat):List Tr→List (List Int×Tr)
 | []=>[]
 |t::ts=>t.plt (p++[(i:Int)])++oN p (i+1) ts
end
mutual
theorem xr:∀(t:Tr) (p:List Int),(t.plt p).map (·.1)=t.pl p
 | .bl _,p=>by simp [Tr.plt,Tr.pl]
 | .nd _ ts,p=>by simp [Tr.plt,Tr.pl,NR ts p 0]
theorem NR:∀(ts:List Tr) (p:List Int) (i:Nat),(oN p i ts).map (·.1)=qw p i ts
 | [],p,i=>by simp [oN,qw]
 |t::ts,p,i=>by simp [oN,qw,xr t,NR ts p (i+1)]
end
mutual
theorem vH:∀(t:Tr) (p:List Int),(t.plt p).length=t.aq
 | .bl _,p=>by simp [Tr.plt,Tr.aq]
 | .nd _ ts,p=>by simp [Tr.plt,Tr.aq,Ml ts p 0];lia
theorem Ml:∀(ts:List Tr) (p:List Int) (i:Nat),(oN p i ts).length=mO ts
 | [],p,i=>by simp [oN,mO]
 |t::ts,p,i=>by simp [oN,mO,vH t,Ml ts p (i+1)]
end
def Jm{s:ah}{ts:List Tr}{i:Nat}{q:List Int}{u:Tr}(h:ts[i]? =aa u):(Tr.nd s ts).at ((i:Int)::q)=u.at q:=by
 rw[Tr.at,if_neg (by lia)];simp [h]
mutual
theorem xx:∀(t:Tr) (p q:List Int) (u:Tr),(q,u)∈t.plt p→ ∃r,q=p++r∧t.at r=aa u∧r.length<t.depth
 | .bl n,p,q,u,h=>by
  simp only[Tr.plt,bi,dD]at h;obtain⟨rfl,rfl⟩:=h;exact⟨[],by simp,by simp [Tr.at],by simp [Tr.depth]⟩
 | .nd s ts,p,q,u,h=>by
  simp only[Tr.plt,az,dD]at h;obtain ⟨rfl,rfl⟩ |h:=h
  ·exact⟨[],by simp,by simp [Tr.at],by simp [Tr.depth];lia⟩
  ·obtain⟨j,v,r,h1,h2,h3,h4⟩:=Kf ts p 0 q u h;refine⟨(j:Int)::r,by rw[h2];simp,by rw[Jm h1];exact h3,by simp [Tr.depth];lia⟩
theorem Kf:∀(ts:List Tr) (p:List Int) (i:Nat) (q:List Int) (u:Tr),(q,u)∈oN p i ts→ ∃(j:Nat) (v:Tr) (r:List Int),ts[j]? =aa v∧q=p++[((i+j:Nat):Int)]++r∧v.at r=aa u∧r.length<nj ts
 | [],p,i,q,u,h=>by simp [oN]at h
 |t::ts,p,i,q,u,h=>by
  simp only[oN,bn]at h;obtain h |h:=h
  ·obtain⟨r,h1,h2,h3⟩:=xx t _ q u h;exact⟨0,t,r,rfl,by simpa using h1,h2,by simp [nj];lia⟩
  ·obtain⟨j,v,r,h1,h2,h3,h4⟩:=Kf ts p (i+1) q u h;refine⟨j+1,v,r,by simpa using h1,?_,h3,by simp [nj];lia⟩
   rw[h2,show i+1+j=i+(j+1) by lia]
end
def keep (f:S a=aa o) (h:S p=none):bQ S p x a=aa o:=by rw[nQ (Cb f h)];exact f
noncomputable def sw:List (List Int×Tr)→Nat
 | []=>0
 |x::xs=>x.2.aq+sw xs
theorem p7:∀{ts:List Tr},u∈ts→u.depth≤nj ts
 |t::ts,h=>by
  obtain rfl |h:=az.mp h
  ·simp [nj];lia
  ·have:=p7 h;simp [nj];lia
theorem qe{α:Type}{G:lF→Prop}{Q:List W→lF→Prop}(I:mW→Prop) (k f:α→W) (hG:G S):∀(xs:List α) (acc:List W) (σ:mW),I σ→acc.length+xs.length≤1000000→
  (∀x∈xs,∀σ (R:mW→W→lF→Prop),I σ→(∀σ1 S3,I σ1→Sub S S3→R σ1 (f x) S3)→g (k x) σ S λσ1 S1=>e E σ1 S1 λy S3=>R σ1 y S3)→
  Q (acc++xs.map f) S→sC g pB e E G Q (xs.map k) acc σ S
 | [],acc,σ,hI,hl,step,hQ=>by simpa [sC]using hQ
 |x::xs,acc,σ,hI,hl,step,hQ=>by
  simp only[aC,sC,pB,if_true];simp only[aU]at hl;refine step x aL σ _ hI λσ1 S3 hI1 sb=>⟨qJ (by lia),S,sb,hG,qe I k f hG xs (acc++[f x]) σ1 hI1 (by simp;lia) (λy hy=>step y (aI _ hy)) ?_⟩;simpa using hQ
theorem A7{α:Type}{G:lF→Prop}{Q:List W→lF→Prop}(I:mW→Prop) (k f:α→W) (P:α→Bool) (hG:G S):∀(xs:List α) (acc:List W) (σ:mW),I σ→acc.length+xs.length≤1000000→
  (∀x∈xs,∀σ (R1:mW→W→lF→Prop) (R0:mW→lF→Prop),I σ→(P x=true→ ∀σ1 S3,I σ1→Sub S S3→R1 σ1 (f x) S3)→(P x=false→ ∀σ1 S3,I σ1→Sub S S3→R0 σ1 S3)→
   g (k x) σ S λσ1 S1=>c E σ1 S1 λb S2=>if b=true then e E σ1 S2 λy S3=>R1 σ1 y S3 else R0 σ1 S2)→
  Q (acc++(xs.filter P).map f) S→sC g c e E G Q (xs.map k) acc σ S
 | [],acc,σ,hI,hl,step,hQ=>by simpa [sC]using hQ
 |x::xs,acc,σ,hI,hl,step,hQ=>by
  simp only[aC,sC];simp only[aU]at hl;refine step x aL σ _ _ hI (λhp σ1 S3 hI1 sb=>⟨qJ (by lia),S,sb,hG,A7 I k f P hG xs (acc++[f x]) σ1 hI1 (by simp;lia) (λy hy=>step y (aI _ hy)) ?_⟩)
   λhp σ1 S3 hI1 sb=>⟨S,sb,hG,A7 I k f P hG xs acc σ1 hI1 (by lia) (λy hy=>step y (aI _ hy)) ?_⟩
  ·rw[List.filter_cons_of_pos hp]at hQ;simpa using hQ
  ·rw[kc (by rw[hp];simp)]at hQ;exact hQ
def Tr.isBl:Tr→Bool
 | .bl _=>true
 | .nd _ _=>false
def Tr.num:Tr→Int
 | .bl n=>n
 | .nd _ _=>0
noncomputable def Tr.bls (t:Tr):List (List Int×Tr):=(t.plt []).filter λx=>x.2.isBl
def xG{t:Tr}{x:List Int×Tr}(h:x∈t.bls):t.at x.1=aa x.2∧x.2= .bl x.2.num∧x.1.length<t.depth:=by
 obtain⟨h1,h2⟩:=dR.mp h;obtain⟨r,h3,h4,h5⟩:=xx t [] x.1 x.2 h1;simp at h3;subst h3;refine⟨h4,?_,h5⟩;obtain⟨p,u⟩:=x;cases u with
 |bl n=>rfl
 |nd s ts=>simp [Tr.isBl]at h2
def za (t:Tr):t.bls.length≤t.aq:=by
 unfold Tr.bls;exact aY (gE ..) (by rw[vH];exact aA _)
def FU{E:ah→lF→Prop}(hr:t.depth+4≤r) (hw:t.aq≤90000) (h:∀a,S a=none→Q (.ref a) (bQ S a (.bP (t.bls.map λx=>mE x.1)))):wP (r+1) [lA t] S Q E:=by
 have hd:=GX t;obtain⟨r,rfl⟩:∃r',r=r'+3:=⟨r - 3,by lia⟩
 rw[wP];ext;refine YZ (by lia) (by lia) (by lia) λa ha=>?_;ext;rw[←xr,bu];refine A7 (λσ=>∃x,σ=[x,aa (lA t)]) (λx=>mE x.1) (λx=>mE x.1) (λx=>x.2.isBl) ?_ (t.plt []) [] _ ⟨none,rfl⟩ (by simp [vH];lia) (λx hx σ R1 R0 hI h1 h0=>?_) ?_
 ·exact mV
 ·obtain⟨y,rfl⟩:=hI;obtain⟨q,h3,h4,h5⟩:=xx t [] x.1 x.2 hx;simp at h3;subst h3;ext;refine LS h4 ?_;obtain⟨p,u⟩:=x;cases u with
  |bl n=>
   simp only[lA];ext;exact h1 rfl _ _ ⟨_,rfl⟩ .refl
  |nd s ts=>
   simp only[lA];ext;exact h0 rfl _ _ ⟨_,rfl⟩ .refl
 ·rw[aX];intro b hb;obtain⟨hb1,hb2⟩:=rf hb;exact⟨_, .put2 (.bQ .refl ha),h b hb1⟩
mutual
noncomputable def Tr.aD (us:List Tr):Tr→Tr
 | .bl n=>us.getD n.toNat (.bl n)
 | .nd s ts=> .nd s (aF us ts)
noncomputable def aF (us:List Tr):List Tr→List Tr
 | []=>[]
 |t::ts=>t.aD us::aF us ts
end
mutual
def Tr.br (m:Nat):Tr→Prop
 | .bl n=>0≤n∧n<m
 | .nd _ ts=>m7 m ts
def m7 (m:Nat):List Tr→Prop
 | []=>True
 |t::ts=>t.br m∧m7 m ts
end
theorem uW (us:List Tr):∀ts:List Tr,aF us ts=ts.map (Tr.aD us)
 | []=>by simp [aF]
 |t::ts=>by simp [aF,uW us ts]
theorem wc:∀{ts:List Tr},m7 m ts→t∈ts→t.br m
 |u::ts,h,hm=>by
  simp only[m7]at h;obtain rfl |hm:=az.mp hm
  ·exact h.1
  ·exact wc h.2 hm
theorem F0:∀(d:Nat) {t:Tr}{r:Nat}{S:lF}{Q:WK}{E:ah→lF→Prop},t.depth≤d→d≤r+1→S a=aa (.bP (af us))→t.br us.length→t.aq≤90000→Q (lA (t.aD us)) S→u8 (r+1) [lA t, .ref a] S Q E
 |0,t,r,S,Q,E,hd,hr,ha,hf,hw,h=>by have:=qD t;lia
 |d+1, .bl n,r,S,Q,E,hd,hr,ha,hf,hw,h=>by
  simp only[Tr.br]at hf;simp only[Tr.aD]at h;rw[u8];simp only[lA];ext;have e:nE (af us) n=aa (lA (us.getD n.toNat (.bl n))):=by
   have q:=rS (xs:=af us) (n:=n.toNat);rw[ck hf.1]at q;rw[q,o6,aT,bv,aR (by lia)];rfl
  rw[ni ha,e];exact⟨S, .refl,h⟩
 |d+1, .nd s ts,r,S,Q,E,hd,hr,ha,hf,hw,h=>by
  simp only[Tr.br]at hf;simp only[Tr.aD]at h;simp only[Tr.depth]at hd;simp only[Tr.aq]at hw;have hk:=qI ts;rw[u8];simp only[lA]at h⊢;ext;refine⟨m_ (by decide),?_⟩;rw[o6];refine qe (λσ=>∃x,σ=[x,aa (.ref a)]) lA (λt=>lA (t.aD us)) trivial ts [] _ ⟨none,rfl⟩ (by simp;lia) (λx hx σ R hI hR=>?_) ?_
  ·obtain⟨y,rfl⟩:=hI;have hdx:=p7 hx;have hwx:=pk hx;have:=qD x;obtain⟨r,rfl⟩:∃r',r=r'+1:=⟨r - 1,by lia⟩
   simp only[MO];ext;exact F0 d (t:=x) (r:=r) (by lia) (by lia) ha (wc hf hx) (by lia) (hR _ _ ⟨_,rfl⟩ .refl)
  ·rw[aX];refine⟨m_ (by simp;lia),S, .refl,?_⟩;have e:af (aF us ts)=ts.map λt=>lA (t.aD us):=by rw[o6,uW,bu];rfl
   rw[e]at h;exact h
noncomputable def Tr.bQ:Tr→List Int→Tr→Tr
 |_,[],u=>u
 | .bl n,_::_,_=> .bl n
 | .nd s ts,i::p,u=>match ts[i.toNat]? with
  |some v=> .nd s (ts.set i.toNat (v.bQ p u))
  |none=> .nd s ts
def pC (t:Tr):t.at []=aa t:=by cases t<;>rfl
def tz (t u:Tr):t.bQ [] u=u:=by cases t<;>rfl
def pU (h:(Tr.nd s ts).at (i::p)=aa u):∃v,0≤i∧ts[i.toNat]? =aa v∧v.at p=aa u:=by
 unfold Tr.at at h;split at h
 ·cases h
 ·split at h
  ·exact⟨_,by lia, ‹_›,h⟩
  ·cases h
theorem vh:∀(q:List Int) {D t:Tr}(r:List Int),D.at q=aa t→D.at (q++r)=t.at r
 | [],D,t,r,h=>by rw[pC]at h;cases h;rfl
 |i::q, .bl n,t,r,h=>by cases h
 |i::q, .nd s ts,t,r,h=>by
  obtain⟨v,h0,h1,h2⟩:=pU h;rw[cg];have e:(i:Int)=((i.toNat:Nat):Int):=(ck h0).symm;rw[e,Jm h1];exact vh q r h2
def tU (h:ts[i.toNat]? =aa v):(Tr.nd s ts).bQ (i::p) u= .nd s (ts.set i.toNat (v.bQ p u)):=by
 rw[Tr.bQ,h]
def Fq:n_ S 60 (mE p) (.bW [])=aa p.isEmpty:=by
 cases p<;>rfl
theorem Lx:∀(p:List Int) {t v:Tr}{r:Nat}{S:lF}{Q:WK}{E:ah→lF→Prop},t.at p=aa v→p.length≤r→t.aq≤90000→p.length≤90000→Q (lA (t.bQ p u)) S→xb (r+1) [lA t,mE p,lA u] S Q E
 | [],t,v,r,S,Q,E,h,hr,hw,hp,q=>by
  rw[tz]at q;rw[xb];ext;rw[Fq];exact⟨aQ _,S, .refl,q⟩
 |i::p, .bl n,v,r,S,Q,E,h,hr,hw,hp,q=>by cases h
 |i::p, .nd s ts,v,r,S,Q,E,h,hr,hw,hp,q=>by
  obtain⟨w,h0,h1,h2⟩:=pU h;obtain⟨j,rfl⟩:∃j:Nat,i=j:=⟨i.toNat,(ck h0).symm⟩;rw[bb]at h1;rw[tU (by rw[bb];exact h1),bb]at q;simp only[aU]at hr hp;simp only[Tr.aq]at hw;have hk:=qI ts;have hl:=(b6.mp h1).1;have hm:=pk (aJ h1);obtain⟨r,rfl⟩:∃r',r=r'+1:=⟨r - 1,by lia⟩
  rw[xb];ext;rw[Fq];simp only[iD,cE,if_false];have ep:mE ((j:Int)::p)= .bW (.int j::p.map W.int):=rfl;simp only[ep,lA];ext;rw[show((j:Int)+1)=((j+1:Nat):Int) by lia,rS,bT,o6,aT,h1]
  dsimp only[Option.map];rw[show((j+1:Nat):Int)+1=((j+2:Nat):Int) by lia,BD,AQ]
  refine⟨aQ _,Lx p (r:=r) h2 (by lia) (by lia) (by lia) ?_⟩;simp only[ml,List.drop_succ_cons,←o6,P7,WP];ext;simp only[pP,c9,cS];refine⟨m_ (by decide),m_ (by lia),m_ (by simp only[a_,pP,c9,aU,db,cS];lia),S, .refl,?_⟩;have e:lA (.nd s (ts.set j (w.bQ p u)))= .bW (.str s::(af (ts.take j)++[lA (w.bQ p u)]++af (ts.drop (j+1)))):=by
   simp only[lA];rw[List.set_eq_take_append_cons_drop,if_pos hl,xB];simp [af]
  rw[e]at q;simpa using q
mutual
noncomputable def Tr.same:Tr→Tr→Bool
 | .bl n, .bl m=>n == m
 | .nd s ts, .nd z us=>s == z&&sK ts us
 |_,_=>false
noncomputable def sK:List Tr→List Tr→Bool
 | [],[]=>true
 |t::ts,u::us=>t.same u&&sK ts us
 |_,_=>false
end
mutual
theorem EO:∀(t u:Tr),t.same u=true↔t=u
 | .bl n, .bl m=>by simp [Tr.same]
 | .nd s ts, .nd z us=>by simp [Tr.same,Kg ts us]
 | .bl n, .nd z us=>by simp [Tr.same]
 | .nd s ts, .bl m=>by simp [Tr.same]
theorem Kg:∀(ts us:List Tr),sK ts us=true↔ts=us
 | [],[]=>by simp [sK]
 |t::ts,u::us=>by simp [sK,EO t u,Kg ts us]
 | [],u::us=>by simp [sK]
 |t::ts,[]=>by simp [sK]
end
def z_ (t:Tr):t.same t=true:=(EO t t).mpr rfl
def Nw{S:lF}{n:Nat}{xs ys:List W}:n_ S (n+1) (.bW xs) (.bW ys)=oY (n_ S n) xs ys:=gf (b:=oY (n_ S n) xs ys) rfl rfl
def Qr{S:lF}{n:Nat}{x y:ah}:n_ S (n+1) (.str x) (.str y)=aa (x == y):=gf (b:=aa (x == y)) rfl rfl
def J0{S:lF}{n:Nat}{x y:Int}:n_ S (n+1) (.int x) (.int y)=aa (x == y):=gf (b:=aa (x == y)) rfl rfl
def Vt{S:lF}{n:Nat}{x:Int}{ys:List W}:n_ S (n+1) (.int x) (.bW ys)=aa false:=gf (b:=aa false) rfl rfl
def Xd{S:lF}{n:Nat}{x:Int}{ys:List W}:n_ S (n+1) (.bW ys) (.int x)=aa false:=gf (b:=aa false) rfl rfl
mutual
theorem xy{S:lF}:∀(n:Nat) (t u:Tr),t.depth<n→n_ S n (lA t) (lA u)=aa (t.same u)
 |0,t,u,h=>by lia
 |n+1, .bl k, .bl m,h=>by simp only[lA,J0,Tr.same]
 |n+1, .nd s ts, .nd z us,h=>by
  simp only[Tr.depth]at h;obtain⟨n,rfl⟩:∃m,n=m+1:=⟨n - 1,by lia⟩
  simp only[lA,Nw,oY,Qr,Tr.same];rw[HF (n+1) ts us (by lia)]
 |n+1, .bl k, .nd z us,h=>by simp only[lA,Vt,Tr.same]
 |n+1, .nd s ts, .bl m,h=>by simp only[lA,Xd,Tr.same]
theorem HF{S:lF}:∀(n:Nat) (ts us:List Tr),nj ts<n→oY (n_ S n) (af ts) (af us)=aa (sK ts us)
 |n,[],[],h=>by simp only[af,oY,sK]
 |n,[],u::us,h=>by simp only[af,oY,sK]
 |n,t::ts,[],h=>by simp only[af,oY,sK]
 |n,t::ts,u::us,h=>by
  simp only[nj]at h;simp only[af,oY,sK,xy n t u (by lia),HF n ts us (by lia)]
end
def Oe (j:Int) (m:Nat):sJ j (m+1)= .int j::sJ (j+1) m:=by
 unfold sJ;rw[gL,aC,bu];congr 1
 ·simp
 ·apply di;intro i _;simp only[kL,W.int.injEq];lia
def El{α:Type}{xs:List α}{i:Int}(h0:0≤i) (h1:i<xs.length):∃x,nE xs i=aa x∧x∈xs:=by
 have q:=rS (xs:=xs) (n:=i.toNat);rw[ck h0,aR (by lia)]at q;exact⟨_,q,dW ..⟩
def V4{ss:List ah}{i:Int}(h0:0≤i) (h1:i<ss.length):∃x,nE (ss.map W.str) i=aa (.str x)∧x∈ss:=by
 obtain⟨w,h,m⟩:=El (xs:=ss.map W.str) h0 (by simpa using h1);obtain⟨x,hx,rfl⟩:=aV.mp m;exact⟨x,h,hx⟩
def Oq{g:WG}{b:WS}{E:WX}{D:m4}(I:Nat→mW→lF→Prop) (n:Nat)
  (step:∀i,i<n→ ∀σ S (N:mW→lF→Prop),I i σ S→(∀σ' S' S'',Sub S'' S'→I (i+1) σ' S''→N σ' S')→g (.int i) σ S λσ1 S1=>b E { D with nx:=N,ct:=N,bk:=D.nx } σ1 S1)
  (done:∀σ S,I n σ S→D.nx σ S) {σ:mW}{S:lF}(h:I 0 σ S):mS g b E D (λ_=>True) (sJ 0 n) σ S:=by
 refine E4 (λws σ S=>∃i,i≤n∧ws=sJ (i:Int) (n - i)∧I i σ S) ?_ ?_ _ _ _ ⟨0,aQ _,rfl,h⟩
 ·rintro w ws σ S N ⟨i,hi,e,hI⟩ hN;obtain⟨m,hm⟩:∃m,n - i=m+1:=by
   obtain z |z:=gj (n - i)
   ·rw[z]at e;cases e
   ·exact⟨n - i - 1,by lia⟩
  rw[hm,Oe]at e;cases e;exact step i (by lia) σ S N hI λσ' S' S'' sb h'=>hN σ' S' S'' sb trivial ⟨i+1,by lia,by rw[show n - (i+1)=m by lia];push_cast;rfl,h'⟩
 ·rintro σ S ⟨i,hi,e,hI⟩;have:n - i=0:=by
   obtain z |z:=gj (n - i)
   ·exact z
   ·obtain⟨m,hm⟩:∃m,n - i=m+1:=⟨n - i - 1,by lia⟩
    rw[hm,Oe]at e;cases e
  rw[show i=n by lia]at hI
  exact done σ S hI
theorem Gy:∀{ts:List Tr}{i:Nat}{v u:Tr},ts[i]? =aa v→mO (ts.set i u)+v.aq=mO ts+u.aq
 | [],i,v,u,h=>by simp at h
 |t::ts,0,v,u,h=>by
  simp at h;subst h;rw[kH,tE,tE];lia
 |t::ts,i+1,v,u,h=>by
  have:=Gy (ts:=ts) (i:=i) (v:=v) (u:=u) (by simpa using h);rw[kE,tE,tE];lia
theorem KQ:∀(p:List Int) {D u v:Tr},D.at p=aa v→(D.bQ p u).aq+v.aq=D.aq+u.aq
 | [],D,u,v,h=>by rw[pC]at h;cases h;rw[tz];lia
 |i::p, .bl n,u,v,h=>by cases h
 |i::p, .nd s ts,u,v,h=>by
  obtain⟨w,h0,e1,e2⟩:=pU h;rw[tU e1];have h1:=KQ p (u:=u) e2;have h2:=Gy (u:=w.bQ p u) e1;simp only[Tr.aq];lia
mutual
theorem JK{us:List Tr}{k:Nat}(hk:1≤k) (hu:∀u∈us,u.aq≤k):∀t:Tr,(t.aD us).aq≤t.aq*k
 | .bl n=>by
  simp only[Tr.aD,Tr.aq,c6];rw[bv];cases e:us[n.toNat]? with
  |none=>simpa [Tr.aq]using hk
  |some u=>exact hu u (aJ e)
 | .nd s ts=>by
  have:=HP hk hu ts;simp only[Tr.aD,Tr.aq];rw[cf];lia
theorem HP{us:List Tr}{k:Nat}(hk:1≤k) (hu:∀u∈us,u.aq≤k):∀ts:List Tr,mO (aF us ts)≤mO ts*k
 | []=>by simp [aF,mO]
 |t::ts=>by
  have:=JK hk hu t;have:=HP hk hu ts;simp only[aF,mO];rw[cf];lia
end
theorem Mx{k:Nat}:∀{ts:List Tr},(∀t∈ts,t.depth≤k)→nj ts≤k
 | [],_=>by simp [nj]
 |t::ts,h=>by
  have:=h t aL;have:=Mx (ts:=ts) λu hu=>h u (aI _ hu);simp only[nj];lia
def pV{G:lF→Prop}(h:∀N:mW→lF→Prop,(∀σ S S',Sub S' S→G S'→mS g b E D G ws σ S'→N σ S)→g w σ S λσ1 S1=>b E { D with nx:=N,ct:=N,bk:=D.nx } σ1 S1):mS g b E D G (w::ws) σ S:=h _ λσ S S' a c d=>⟨S',a,c,d⟩
mutual
noncomputable def Tr.mt:Tr→Tr→Option (List Tr)
 | .bl _,t=>aa [t]
 | .nd s ls, .nd z us=>if s == z&&ls.length == us.length then nT ls us else none
 | .nd _ _, .bl _=>none
noncomputable def nT:List Tr→List Tr→Option (List Tr)
 | [],_=>aa []
 |_::_,[]=>aa []
 |l::ls,u::us=>match l.mt u with
  |none=>none
  |some xs=>match nT ls us with
   |none=>none
   |some ys=>aa (xs++ys)
end
def Qa{E:ah→lF→Prop}(h:Q (.bl (s == z&&ls.length == us.length)) S):BR (r+1) [lA (.nd s ls),lA (.nd z us)] S Q E:=by
 rw[BR];simp only[lA];ext;cases e:s == z with
 |false=>
  rw[e]at h;exact⟨_, .refl,h⟩
 |true=>
  rw[e]at h;ext;refine⟨_, .refl,?_⟩;have:(((af ls).length+1:Nat):Int)=((af us).length+1:Nat)↔ls.length=us.length:=by rw[pP,pP];lia
  have e2:((((af ls).length+1:Nat):Int) == ((af us).length+1:Nat))=(ls.length == us.length):=by
   rw[f_,beq_iff_eq,beq_iff_eq];exact this
  rw[e2];simpa using h
mutual
theorem ES:∀(l t:Tr) (ys:List Tr),l.mt t=aa ys→ys.length≤l.aq
 | .bl _,t,ys,h=>by simp only[Tr.mt,bJ]at h;subst h;simp [Tr.aq]
 | .nd s ls, .nd z us,ys,h=>by
  simp only[Tr.mt]at h;split at h
  ·have:=N2 ls us ys h;simp only[Tr.aq];lia
  ·cases h
 | .nd _ _, .bl _,ys,h=>by simp [Tr.mt]at h
theorem N2:∀(ls us ys:List Tr),nT ls us=aa ys→ys.length≤mO ls
 | [],us,ys,h=>by simp only[nT,bJ]at h;subst h;simp
 |l::ls,[],ys,h=>by simp only[nT,bJ]at h;subst h;simp
 |l::ls,u::us,ys,h=>by
  simp only[nT]at h;split at h
  ·cases h
  ·rename_i xs e1;split at h
   ·cases h
   ·rename_i zs e2;cases h;have:=ES l u xs e1;have:=N2 ls us zs e2;simp only[a_,mO];lia
end
theorem OG:∀(ls us:List Tr)
  (one:∀l∈ls,∀{t:Tr}{S:lF}{xs:List W}{Q:WK}{E:ah→lF→Prop},t.br 0→S a=aa (.bP xs)→xs.length+l.aq≤100000→(∀ys,l.mt t=aa ys→Q (.bl true) (bQ S a (.bP (xs++af ys))))→(l.mt t=none→ ∀ys,Q (.bl false) (bQ S a (.bP (xs++ys))))→vm r [lA l,lA t, .ref a] S Q E)
  {S:lF}{xs:List W}{x3 x4:Option W},m7 0 us→S a=aa (.bP xs)→xs.length+mO ls≤100000→
  (∀ys x3 x4,nT ls us=aa ys→D.nx [x0,x1,aa (.ref a),x3,x4] (bQ S a (.bP (xs++af ys))))→(nT ls us=none→ ∀ys,D.rt (.bl false) (bQ S a (.bP (xs++ys))))→
  mS (pE (nU (mB 3) (nU (mB 4) pe))) (Ee r (vm r)) E D (λ_=>True) (m8 (af ls) (af us)) [x0,x1,aa (.ref a),x3,x4] S
 | [],us,one,S,xs,x3,x4,hf,ha,hl,h1,h0=>by
  have q:=h1 [] x3 x4 (by simp [nT]);simp only[af,bf,sF ha]at q;simpa [af,m8,mS]using q
 |l::ls,[],one,S,xs,x3,x4,hf,ha,hl,h1,h0=>by
  have q:=h1 [] x3 x4 (by simp [nT]);simp only[af,bf,sF ha]at q;simpa [af,m8,mS]using q
 |l::ls,u::us,one,S,xs,x3,x4,hf,ha,hl,h1,h0=>by
  simp only[m7]at hf;simp only[mO]at hl;simp only[af,m8];refine pV λN hN=>?_;simp only[Ee];ext;refine one l aL hf.1 ha (by lia) (λys e=>?_) λe ys=>?_
  ·ext;have hyl:=ES l u ys e;refine hN _ _ _ .refl trivial (OG ls us (λl' hl'=>one l' (aI _ hl')) hf.2 mV (by rw[a_,pP];lia) (λzs x3 x4 e2=>?_) λe2 zs=>?_)
   ·rw[pM,bD,←xB];exact h1 _ _ _ (by simp only[nT,e,e2])
   ·rw[pM,bD];exact h0 (by simp only[nT,e,e2]) _
  ·ext;exact h0 (by simp only[nT,e]) ys
theorem NU:∀(d:Nat) {l t:Tr}{r:Nat}{S:lF}{xs:List W}{Q:WK}{E:ah→lF→Prop},l.depth≤d→d≤r→t.br 0→S a=aa (.bP xs)→xs.length+l.aq≤100000→
  (∀ys,l.mt t=aa ys→Q (.bl true) (bQ S a (.bP (xs++af ys))))→(l.mt t=none→ ∀ys,Q (.bl false) (bQ S a (.bP (xs++ys))))→vm (r+1) [lA l,lA t, .ref a] S Q E
 |0,l,t,r,S,xs,Q,E,hd,hr,hf,ha,hl,h1,h0=>by have:=qD l;lia
 |d+1, .bl n,t,r,S,xs,Q,E,hd,hr,hf,ha,hl,h1,h0=>by
  have hw:=rQ (.bl n);rw[vm];simp only[lA];ext;simp only[ni ha,true_and];refine⟨qJ (by lia),_, .refl,?_⟩;have:=h1 [t] (by simp [Tr.mt]);simpa only[af]using this
 |d+1, .nd s ls, .bl n,r,S,xs,Q,E,hd,hr,hf,ha,hl,h1,h0=>by
  simp only[Tr.br]at hf;lia
 |d+1, .nd s ls, .nd z us,r,S,xs,Q,E,hd,hr,hf,ha,hl,h1,h0=>by
  simp only[Tr.br]at hf;simp only[Tr.depth]at hd;simp only[Tr.aq]at hl;obtain⟨r,rfl⟩:∃r',r=r'+1:=⟨r - 1,by lia⟩
  have en:∀s ts,lA (.nd s ts)= .bW (.str s::af ts):=λs ts=>by simp [lA]
  rw[vm];ext;rw[en,en];ext;rw[←en,←en];refine Qa ?_;rw[en,en];ext;simp only[Tr.mt]at h1 h0;cases e:(s == z&&ls.length == us.length) with
  |false=>
   rw[e]at h0;have:=h0 (by simp) [];rw[bf,sF ha]at this;exact⟨_, .refl,this⟩
  |true=>
   rw[e]at h0 h1;simp only[if_true]at h0 h1;ext;refine OG ls us (λl hl' {t S xs Q E} f1 f2 f3 f4 f5=>NU d (by have:=p7 hl';lia) (by lia) f1 f2 f3 f4 f5) hf ha (by lia) (λys x3 x4 e=>?_) λe ys=>?_
   ·ext;exact⟨_, .refl,h1 ys e⟩
   ·exact⟨_, .refl,h0 e ys⟩
def CH{E:ah→lF→Prop}(hr:l.depth<r) (hf:t.br 0) (hw:l.aq≤90000) (h1:∀ys,l.mt t=aa ys→ ∀a,S a=none→Q (.ref a) (bQ S a (.bP (af ys)))) (h0:l.mt t=none→Q .ci S):ua (r+1) [lA l,lA t] S Q E:=by
 obtain⟨r,rfl⟩:∃r',r=r'+1:=⟨r - 1,by lia⟩
 rw[ua];ext;refine⟨aQ _,λa ha=>NU l.depth (aA _) (by lia) hf mV (by simpa using(by lia:l.aq≤100000)) (λys e=>?_) λe ys=>?_⟩
 ·ext;exact⟨_, .refl,h1 ys e a ha⟩
 ·ext;exact⟨_, .bQ .refl ha,h0 e⟩
mutual
theorem Oy:∀(l t:Tr) (ys:List Tr),l.mt t=aa ys→mO ys≤t.aq
 | .bl _,t,ys,h=>by simp only[Tr.mt,bJ]at h;subst h;simp [mO]
 | .nd s ls, .nd z us,ys,h=>by
  simp only[Tr.mt]at h;split at h
  ·have:=NB ls us ys h;simp only[Tr.aq];lia
  ·cases h
 | .nd _ _, .bl _,ys,h=>by simp [Tr.mt]at h
theorem NB:∀(ls us ys:List Tr),nT ls us=aa ys→mO ys≤mO us
 | [],us,ys,h=>by simp only[nT,bJ]at h;subst h;simp [mO]
 |l::ls,[],ys,h=>by simp only[nT,bJ]at h;subst h;simp [mO]
 |l::ls,u::us,ys,h=>by
  simp only[nT]at h;split at h
  ·cases h
  ·rename_i xs e1;split at h
   ·cases h
   ·rename_i zs e2;cases h;have:=Oy l u xs e1;have:=NB ls us zs e2;simp only[CL,mO];lia
end
def xP (c:Nat):Bool:=decide (97≤c)&&decide (c≤122)
noncomputable def bo (xs:List Nat):Bool:=xs.all xP
def OT{s:ah}{a:Nat}(hs:s.cps.toList=[a]) (c:Nat):(!decide ((⟨#[c]⟩:ah).cps.toList<s.cps.toList))=decide (a≤c):=by
 rw[hs];show(!decide (([c]:List Nat)< [a]))=_;by_cases h:a≤c
 ·rw[decide_eq_true h,decide_eq_false (λz=>by have:=(Cu c a).mp z;lia)];rfl
 ·rw[decide_eq_false h,decide_eq_true ((Cu c a).mpr (by lia))];rfl
def ZR{s:ah}{a:Nat}(hs:s.cps.toList=[a]) (c:Nat):(!decide (s.cps.toList<(⟨#[c]⟩:ah).cps.toList))=decide (c≤a):=by
 rw[hs];show(!decide (([a]:List Nat)< [c]))=_;by_cases h:c≤a
 ·rw[decide_eq_true h,decide_eq_false (λz=>by have:=(Cu a c).mp z;lia)];rfl
 ·rw[decide_eq_false h,decide_eq_true ((Cu a c).mpr (by lia))];rfl
def P1:(bE "a").cps.toList=[97]:=by decide +kernel
def QM:(bE "z").cps.toList=[122]:=by decide +kernel
def M0 (x:ah):(c_ x (aa 1) none).cps.toList=x.cps.toList.drop 1:=by
 rw[Ub];unfold AF;rw[HT.sIx_none];have ez:HT.sIx x.cps.toList.length 0 (aa 1)=min 1 x.cps.toList.length:=HT.sIx_nat x.cps.toList.length 0 1;rw[ez];by_cases h:1≤x.cps.toList.length
 ·rw[jU h,dP (by rw[cS];exact aA _)]
 ·have:x.cps.toList=[]:=kG (by lia);rw[this];rfl
def vE (x:ah):x.length=x.cps.toList.length:=by simp [jf]
def N3 (bs:List Bool):sG (bs.map W.bl)=aa bs:=by
 induction bs with
 |nil=>rfl
 |cons b bs ih=>rw[aC,sG,ih];rfl
def Iy{α:Type}(xs:List α) (f:α→Bool):((xs.map f).all _root_.id)=xs.all f:=by rw[eW];rfl
def YA{E:ah→lF→Prop}(hx:x.length≤1000) (h:Q (.bl (bo x.cps.toList)) S):Az (r+1) [.str x] S Q E:=by
 rw[vE]at hx;rw[Az];walk_at "wp";unfold Ck;refine qe (λσ=>∃x,σ=[x]) (λc=> .str ⟨#[c]⟩) (λc=> .bl (xP c)) ?_ x.cps.toList [] _ ⟨none,rfl⟩ (by rw[db];lia) (λc hc σ R hI hR=>?_) ?_
 ·exact trivial
 ·obtain⟨y,rfl⟩:=hI;simp only[Hj];walk_at "wp";rw[OT P1,ZR QM];unfold xP at hR;cases e:decide (97≤c) with
  |false=>rw[e]at hR;exact hR _ _ ⟨_,rfl⟩ .refl
  |true=>rw[e]at hR;exact hR _ _ ⟨_,rfl⟩ .refl
 ·have e:x.cps.toList.map (λc=>W.bl (xP c))=(x.cps.toList.map xP).map W.bl:=by rw[bu];rfl
  rw[aX,e,N3];dsimp only;rw[Iy];exact⟨_, .refl,h⟩
mutual
theorem BG:∀(t:Tr) (p q:List Int) (u:Tr),t.at q=aa u→(p++q,u)∈t.plt p
 | .bl n,p,[],u,h=>by rw[pC]at h;cases h;simp [Tr.plt]
 | .bl n,p,i::q,u,h=>by cases h
 | .nd s ts,p,[],u,h=>by rw[pC]at h;cases h;simp [Tr.plt]
 | .nd s ts,p,i::q,u,h=>by
  obtain⟨v,h0,e1,e2⟩:=pU h;simp only[Tr.plt,az];refine .inr ?_;have:=MB ts p 0 i.toNat q u v e1 e2;rw[bF,ck h0]at this;simpa using this
theorem MB:∀(ts:List Tr) (p:List Int) (i j:Nat) (q:List Int) (u v:Tr),ts[j]? =aa v→v.at q=aa u→(p++((i+j:Nat):Int)::q,u)∈oN p i ts
 | [],p,i,j,q,u,v,h1,h2=>by simp at h1
 |t::ts,p,i,0,q,u,v,h1,h2=>by
  simp at h1;subst h1;simp only[oN,bn];refine .inl ?_;have:=BG t (p++[(i:Int)]) q u h2;simpa using this
 |t::ts,p,i,j+1,q,u,v,h1,h2=>by
  simp only[oN,bn];refine .inr ?_;have:=MB ts p (i+1) j q u v (by simpa using h1) h2;rw[show i+1+j=i+(j+1) by lia]at this
  exact this
end
def KB{t:Tr}{x:List Int×Tr}(h:x∈t.plt []):t.at x.1=aa x.2∧x.1.length<t.depth:=by
 obtain⟨q,h3,h4,h5⟩:=xx t [] x.1 x.2 h;simp at h3;subst h3;exact⟨h4,h5⟩
theorem vR{α:Type}{G:lF→Prop}(hG:G S) (I:mW→Prop) (key:α→W) (f:α→Option W):∀(xs:List α) (σ:mW),I σ→
  (∀x∈xs,∀σ (N:mW→lF→Prop),I σ→(f x=none→ ∀σ' S',I σ'→Sub S S'→N σ' S')→(∀w,f x=aa w→ ∀S',Sub S S'→D.rt w S')→g (key x) σ S λσ1 S1=>b E { D with nx:=N,ct:=N,bk:=D.nx } σ1 S1)→
  (xs.findSome? f=none→ ∀σ,I σ→D.nx σ S)→(∀w,xs.findSome? f=aa w→ ∀S',Sub S S'→D.rt w S')→mS g b E D G (xs.map key) σ S
 | [],σ,hI,step,done,ret=>by
  have:=done rfl σ hI;simpa [mS]using this
 |x::xs,σ,hI,step,done,ret=>by
  rw[aC];refine pV λN hN=>?_;refine step x aL σ N hI (λe σ' S' hI' sb=>?_) λw e S' sb=>ret w (by rw[d7,e]) S' sb;refine hN _ _ S sb hG (vR hG I key f xs σ' hI' (λy hy=>step y (aI _ hy)) (λe2=>done (by rw[d7,e];exact e2)) λw e2=>ret w (by rw[d7,e];exact e2))
abbrev Tn:=ah×Tr×Tr
noncomputable def mQ (t:Tn):W:= .bW [.str t.1,lA t.2.1,lA t.2.2]
def PK:Tn:=("", .bl 0, .bl 0)
def lf (ts:List Tn) (j:Nat):Tr:=(ts.getD j PK).2.1
def ZD (n:Nat):sJ 0 n=(bx n).map λ(i:Nat)=>W.int i:=by
 unfold sJ;apply di;intro i _;simp
theorem Hu (hba:b≠a):∀(ts:List Tr) {S:lF}{us:List Tr}{x2:Option W},S a=aa (.bP (af us))→S b=aa (.bP ps)→us.length+mO ts≤200000→
  (∀x2,D.nx [x0,aa (.ref a),x2] (bQ S a (.bP (af (us++ts.flatMap Tr.dI)))))→
  mS (mB 2) (yP (r+1) mK) E D (λS'=>S' b=aa (.bP ps)) (af ts) [x0,aa (.ref a),x2] S
 | [],S,us,x2,ha,hb,hl,h=>by
  have:=h x2;simp only[cZ,bf,sF ha]at this;simpa [af,mS]using this
 |t::ts,S,us,x2,ha,hb,hl,h=>by
  simp only[mO]at hl;have hk:=qI t.dI;have hw:=AB t;simp only[af];refine pV λN hN=>?_;simp only[yP];ext;simp only[ni ha,true_and];refine yz ?_;ext;rw[ni ha];refine⟨m_ (by rw[pP,pP];lia),hN _ _ _ .refl (by rw[nQ hba];exact hb) ?_⟩;rw[←xB];refine Hu hba ts mV (by rw[nQ hba];exact hb) (by rw[a_];lia) λx2=>?_;rw[pM];have:=h x2;rw[cw,←bD]at this;exact this
def Uv{E:ah→lF→Prop}(hb:S b=aa (.bP (af ts))) (hw:mO ts≤100000) (h:∀a,S a=none→Q (.ref a) (bQ S a (.bP (af (ts.flatMap Tr.dI))))):xI (r+2) [.ref b] S Q E:=by
 rw[xI];ext;refine⟨aQ _,λa ha=>?_⟩;have hba:=Cb hb ha;rw[ni (keep hb ha)];refine Hu (us:=[]) hba ts (by simp [mV,af]) (keep hb ha) (by simpa using(by lia:mO ts≤200000)) λx2=>?_;rw[pM];ext;exact⟨_, .refl,h a ha⟩
noncomputable def Tr.bo (t:Tr):Bool:=decide (t.aq≤400)&&decide (t.depth≤40)
def TK{E:ah→lF→Prop}(hw:t.aq≤90000) (h:Q (.bl t.bo) S):wR (r+3) [lA t] S Q E:=by
 rw[wR];ext;refine⟨m_ (by decide),λa ha=>?_⟩;refine⟨λm σ S'=>∃(ts:List Tr) (k d:Nat) (b:ai),m=mO ts∧k+mO ts=t.aq∧d+nj ts=t.depth∧k≤400∧d≤40∧S b=none∧S'=bQ S b (.bP (af ts))∧σ=[aa (lA t),aa (.int k),aa (.int d),aa (.ref b)],⟨_,[t],0,0,a,rfl,by simp [mO],by simp [nj],by decide,by decide,ha,by simp [af],rfl⟩,?_⟩
 rintro m σ S' ⟨ts,k,d,b,rfl,hwt,hk,hk4,hd4,hb,rfl,rfl⟩;ext;cases ts with
 |nil=>
  simp only[af,ip];ext;simp only[nj,mO,dy]at hk hwt;have e:t.bo=true:=by unfold Tr.bo;rw[decide_eq_true (by lia),decide_eq_true (by lia)];rfl
  rw[e]at h;exact⟨_, .bQ .refl hb,h⟩
 |cons u us=>
  have hne:(af (u::us)).isEmpty=false:=by simp [af]
  rw[hne];have hfl:=Ep (u::us);have hdf:=FQ (ts:=u::us) (by simp);have hlw:=qI (u::us);simp only[E0];ext;rw[pP];have no:400<t.aq∨40<t.depth→ ∃S'',Sub S'' (bQ S b (Ob.bP (af (u::us))))∧Q (W.bl false) S'':=λz=>by
   have e:t.bo=false:=by
    unfold Tr.bo;obtain z |z:=z
    ·rw[decide_eq_false (by lia)];rfl
    ·rw[decide_eq_false (p:=t.depth≤40) (by lia),fW]
   rw[e]at h;exact⟨_, .bQ .refl hb,h⟩
  split
  ·exact no (.inl (by lia))
  ·split
   ·exact no (.inr (by lia))
   ·refine Uv mV (by lia) λc hc=>?_;obtain⟨hc1,hc2⟩:=rf hc;refine⟨mO ((u::us).flatMap Tr.dI),bQ S c (.bP (af ((u::us).flatMap Tr.dI))),by simp only[aU]at hfl;lia, .put2 (.bQ .refl hb),_,k+(u::us).length,d+1,c,rfl,by lia,by lia,by lia,by lia,hc1,rfl,?_⟩
    push_cast
    rfl
def xu{E:ah→lF→Prop}(h0:0≤k) (h:∀n:Int,Q (.int n) S):uE (r+1) [.cX ns, .int k] S Q E:=by
 rw[uE];ext;split
 ·obtain⟨x,e,_⟩:=El (xs:=ns) (i:=k) h0 (by lia);rw[e];exact⟨S, .refl,h _⟩
 ·exact⟨S, .refl,h _⟩
def lt (rs:List Int) (pos:Int) (k j:Nat):Nat:=97+((rs.getD j 0+(k:Int)*(if(0+(j:Int) == pos)=true then 1 else 0)) % 26).toNat
def rJ (rs:List Int) (pos:Int) (k:Nat):List Nat:=(bx rs.length).map (lt rs pos k)
noncomputable def oq (rs:List Int) (pos:Int) (k:Nat):ah:=dj (bE "") ((rJ rs pos k).map λc=>(⟨#[c]⟩:ah))
noncomputable def CB (rs:List Int) (pos:Int) (k:Nat):ah:=eG ⟨#[lt rs pos k 0]⟩++c_ (oq rs pos k) (aa 1) none
noncomputable def wd (great:Bool) (rs:List Int) (pos:Int) (k:Nat):ah:=if great then CB rs pos k else oq rs pos k
def xj (rs:List Int) (pos:Int) (k j:Nat):sD (lt rs pos k j):=by
 have h0:=cY (rs.getD j 0+(k:Int)*(if(0+(j:Int) == pos)=true then 1 else 0)) (show(26:Int)≠0 by decide)
 have h1:=dh (rs.getD j 0+(k:Int)*(if(0+(j:Int) == pos)=true then 1 else 0)) (show(0:Int)<26 by decide)
 unfold lt sD;lia
def YY (h0:0≤n) (h1:n<26):nE (bE "abcdefghijklmnopqrstuvwxyz").cps.toList n=aa (97+n.toNat):=by
 have e:=rS (xs:=(bE "abcdefghijklmnopqrstuvwxyz").cps.toList) (n:=n.toNat);rw[ck h0]at e;rw[e,Zh,List.getElem?_range' (by lia)];simp
def CM (rs:List Int) (pos:Int) (k:Nat):(oq rs pos k).cps.toList=rJ rs pos k:=Mg _
def De (rs:List Int) (pos:Int) (k:Nat):(rJ rs pos k).length=rs.length:=by simp [rJ]
def Ik (h:c∈rJ rs pos k):sD c:=by
 obtain⟨j,_,rfl⟩:=aV.mp h;exact xj rs pos k j
def UC (pos:Int) (k:Nat) (h:1≤rs.length):rJ rs pos k=lt rs pos k 0::(rJ rs pos k).drop 1:=by
 unfold rJ;obtain⟨n,hn⟩:∃n,rs.length=n+1:=⟨rs.length - 1,by lia⟩
 rw[hn,gL];simp
def NZ (h:sD c):eG ⟨#[c]⟩=⟨#[c - 32]⟩:=by
 unfold sD at h;rw[PySem.W.KOpn.upper_one (by lia),if_pos h]
def HD (pos:Int) (k:Nat):(CB rs pos k).cps.toList=(lt rs pos k 0 - 32)::(rJ rs pos k).drop 1:=by
 unfold CB;rw[NZ (xj _ _ _ _)];show((#[lt rs pos k 0 - 32]:Array Nat)++(c_ (oq rs pos k) (aa 1) none).cps).toList=_;rw[jD,M0,CM];rfl
structure rN (rs:List Int) (pos:Int):Prop where
  l1:1≤rs.length
  l8:rs.length≤8
  p0:0≤pos
  p1:pos<rs.length
def Kb (b:rN rs pos) (k:Nat):ox (oq rs pos k):=by
 unfold ox;rw[CM,De];exact⟨b.l1,b.l8,λc hc=>Ik hc⟩
def Pj (b:rN rs pos) (k:Nat):p5 (CB rs pos k):=by
 have:=xj rs pos k 0;have hl:=b.l8;unfold sD at this;refine⟨_,_,HD pos k,by lia,by lia,by rw[cS,De];lia,λd hd=>Ik (jR hd)⟩
def Sf (b:rN rs pos) (hk:k<26) (hm:m<26) (h:k≠m):lt rs pos k pos.toNat≠lt rs pos m pos.toNat:=by
 have p0:=b.p0;have e:(0+((pos.toNat:Nat):Int) == pos)=true:=by rw[beq_iff_eq];lia
 unfold lt;rw[e,if_pos rfl];lia
def Kp (b:rN rs pos) (hk:k<26) (hm:m<26) (h:k≠m):wd great rs pos k≠wd great rs pos m:=by
 have hn:=Sf b hk hm h;have p0:=b.p0;have p1:=b.p1;intro e;have e':=congrArg (λx:ah=>x.cps.toList) e;cases great with
 |false=>
  simp only[wd,cE,if_false,CM]at e';have e2:=congrArg (λl=>l[pos.toNat]?) e';simp only[rJ,aT,fS (show pos.toNat<rs.length by lia),gK,bJ]at e2
  exact hn e2
 |true=>
  simp only[wd,if_true,HD]at e';have e2:=congrArg (λl=>l[pos.toNat]?) e';cases hp:pos.toNat with
  |zero=>
   rw[hp]at hn;have h1:=xj rs pos k 0;have h2:=xj rs pos m 0;unfold sD at h1 h2;simp only[hp,jT,bJ]at e2;lia
  |succ n=>
   rw[hp]at hn;simp only[hp,bT,j5,rJ,aT]at e2;rw[show 1+n=n+1 by lia,fS (show n+1<rs.length by lia)]at e2
   simp only[gK,bJ]at e2;exact hn e2
def DZ (great:Bool) (ws:List ah):Prop:=∃rs pos,rN rs pos∧(ws=(bx 6).map (wd great rs pos)∨(great=false∧ws=[oq rs pos 0,oq rs pos 1,oq rs pos 2,oq rs pos 2,oq rs pos 2,oq rs pos 5]))
structure nW (w0 w1 w2 w3 w4 w5:ah):Prop where
  ok:∀x∈ [w0,w1,w2,w3,w4,w5],ox x
  n0:∀x∈ [w1,w2,w3,w4,w5],w0≠x
  n1:∀x∈ [w2,w3,w4,w5],w1≠x
  n5:∀x∈ [w2,w3,w4],w5≠x
def YB (h:DZ false ws):∃w0 w1 w2 w3 w4 w5,ws=[w0,w1,w2,w3,w4,w5]∧nW w0 w1 w2 w3 w4 w5:=by
 obtain⟨rs,pos,b,h⟩:=h;have hs:=λk=>Kb b k;have hn:∀k m:Nat,k<26→m<26→k≠m→oq rs pos k≠oq rs pos m:=λk m h1 h2 h3=>Kp (great:=false) b h1 h2 h3;obtain rfl |⟨_,rfl⟩:=h
 ·refine⟨_,_,_,_,_,_,rfl,⟨?_,?_,?_,?_⟩⟩
  ·simp only[az,bq,or_false,forall_eq_or_imp,forall_eq];exact⟨hs 0,hs 1,hs 2,hs 3,hs 4,hs 5⟩
  ·simp only[az,bq,or_false,forall_eq_or_imp,forall_eq];exact⟨hn 0 1 (by decide) (by decide) (by decide),hn 0 2 (by decide) (by decide) (by decide),hn 0 3 (by decide) (by decide) (by decide),hn 0 4 (by decide) (by decide) (by decide),hn 0 5 (by decide) (by decide) (by decide)⟩
  ·simp only[az,bq,or_false,forall_eq_or_imp,forall_eq];exact⟨hn 1 2 (by decide) (by decide) (by decide),hn 1 3 (by decide) (by decide) (by decide),hn 1 4 (by decide) (by decide) (by decide),hn 1 5 (by decide) (by decide) (by decide)⟩
  ·simp only[az,bq,or_false,forall_eq_or_imp,forall_eq];exact⟨hn 5 2 (by decide) (by decide) (by decide),hn 5 3 (by decide) (by decide) (by decide),hn 5 4 (by decide) (by decide) (by decide)⟩
 ·refine⟨_,_,_,_,_,_,rfl,⟨?_,?_,?_,?_⟩⟩
  ·simp only[az,bq,or_false,forall_eq_or_imp,forall_eq];exact⟨hs 0,hs 1,hs 2,hs 2,hs 2,hs 5⟩
  ·simp only[az,bq,or_false,forall_eq_or_imp,forall_eq];exact⟨hn 0 1 (by decide) (by decide) (by decide),hn 0 2 (by decide) (by decide) (by decide),hn 0 2 (by decide) (by decide) (by decide),hn 0 2 (by decide) (by decide) (by decide),hn 0 5 (by decide) (by decide) (by decide)⟩
  ·simp only[az,bq,or_false,forall_eq_or_imp,forall_eq];exact⟨hn 1 2 (by decide) (by decide) (by decide),hn 1 2 (by decide) (by decide) (by decide),hn 1 2 (by decide) (by decide) (by decide),hn 1 5 (by decide) (by decide) (by decide)⟩
  ·simp only[az,bq,or_false,forall_eq_or_imp,forall_eq];exact⟨hn 5 2 (by decide) (by decide) (by decide),hn 5 2 (by decide) (by decide) (by decide),hn 5 2 (by decide) (by decide) (by decide)⟩
structure pI (ts:List ah):Prop where
  len:ts.length=6
  ok:∀x∈ts,p5 x
  nd:ts.Nodup
def ZH (h:DZ true ws):pI ws:=by
 obtain⟨rs,pos,b,h⟩:=h;obtain rfl |⟨e,_⟩:=h
 ·refine⟨by simp,λx hx=>?_,?_⟩
  ·obtain⟨k,_,rfl⟩:=aV.mp hx;exact Pj b k
  ·rw[jL,lR];refine kQ.imp_of_mem (λ{a c} ha hc hne=>?_) (List.nodup_range (n:=6));have ha:=fK.mp ha;have hc:=fK.mp hc;exact Kp b (by lia) (by lia) hne
 ·cases e
theorem M_:∀(ws:List W) {rs:List Int}{sp:Int}{a:ai}{r:Nat}{S:lF}{E:WX}{D:m4}{x0 x1 x2 x3 x6 x7 x8 x9:Option W},S a=aa (.bP (rs.map W.int))→rs.length+ws.length≤1000→
  (∀(rs':List Int) sp' x6',rs'.length=rs.length+ws.length→D.nx [x0,x1,x2,x3,aa (.int sp'),aa (.ref a),x6',x7,x8,x9] (bQ S a (.bP (rs'.map W.int))))→
  mS (mB 6) (Ec r mK) E D (λ_=>True) ws [x0,x1,x2,x3,aa (.int sp),aa (.ref a),x6,x7,x8,x9] S
 | [],rs,sp,a,r,S,E,D,x0,x1,x2,x3,x6,x7,x8,x9,ha,hl,h=>by
  simp only[mS];have:=h rs sp x6 (by simp);rw[sF ha]at this;exact this
 |w::ws,rs,sp,a,r,S,E,D,x0,x1,x2,x3,x6,x7,x8,x9,ha,hl,h=>by
  simp only[mS,Ec];ext;simp only[aU]at hl h;simp only[ni ha,true_and];refine⟨by decide,qJ (by simp;lia),⟨by decide,by decide⟩,_, .refl,?_⟩
  refine M_ (r:=r) ws (rs:=rs++[sp % 26]) (by rw[mV];simp) (by simp;lia) λrs' sp' x6' h1=>?_;rw[pM];exact h rs' sp' x6' (by simp at h1;lia)
def xW{c:Prop} [Decidable c] {a b:Prop}(h1:c→a) (h2:¬c→b):if c then a else b:=by split<;>simp_all
def zh (h:∀T',T'=T→mD A T' E D σ S):mD A T E D σ S:=h T rfl
def Oj{E:ah→lF→Prop}(h:∀(a:ai) (ws:List ah),S a=none→DZ great ws→Q (.ref a) (bQ S a (.bP (ws.map W.str)))):zb (r+1) [.int one, .int two, .bl great] S Q E:=by
 rw[zb];ext;have o0:0≤one % 8:=cY _ (by decide);have o1:one % 8<8:=dh _ (by decide);refine⟨⟨by decide,by decide,by decide⟩,by decide,aQ _,λa ha=>⟨by decide,⟨by lia,by lia⟩,?_⟩⟩
 refine M_ _ (rs:=[]) mV (by simp [Ks];lia) λrs sp x6 hl=>?_;rw[pM];simp only[db,Ks,bF]at hl;have hl':(rs.length:Int)=1+one % 8:=by rw[hl];lia
 have p0:0≤one / 8 % (rs.length:Int):=cY _ (by lia);have p1:one / 8 % (rs.length:Int)<(rs.length:Int):=dh _ (by lia);have B:rN rs (one / 8 % (rs.length:Int)):=⟨by lia,by lia,p0,p1⟩
 ext;simp only[ay];refine⟨⟨by decide,by decide⟩,by lia,aQ _,λb hb=>⟨⟨by decide,by decide⟩,?_⟩⟩
 obtain⟨hb1,hb2⟩:=rf hb;generalize hpos:one / 8 % (rs.length:Int)=pos at B p0 p1⊢;refine Oq (λi σ S'=>∃x6 x9,S'=bQ (bQ S a (.bP (rs.map W.int))) b (.bP (((bx i).map (wd great rs pos)).map W.str))∧σ=[aa (.int one),aa (.int two),aa (.bl great),aa (.str (bE "abcdefghijklmnopqrstuvwxyz")),aa (.int sp),aa (.ref a),x6,aa (.int pos),aa (.ref b),x9]) 6 ?_ ?_ ⟨x6,none,rfl,rfl⟩
 ·rintro k hk σ S' N ⟨x6,x9,rfl,rfl⟩ hN;have ea:bQ (bQ S a (Ob.bP (rs.map W.int))) b (Ob.bP (((bx k).map (wd great rs pos)).map W.str)) a=aa (.bP (rs.map W.int)):=by rw[nQ (bz hb2),mV]
  simp only[Np];ext;rw[ni ea];simp only[ay];refine⟨⟨by lia,by lia⟩,?_⟩
  rw[bb];refine qe (λσ=>∃x,σ=[x,aa (.str (bE "abcdefghijklmnopqrstuvwxyz")),aa (.ref a),aa (.int (k:Int)),aa (.int pos)]) (λi:Nat=>W.int (0+(i:Int))) (λi=>W.str ⟨#[lt rs pos k i]⟩) trivial (bx rs.length) [] _ ⟨none,rfl⟩ (by simp;lia) (λi hi σ R hI hR=>?_) ?_
  ·obtain⟨x,rfl⟩:=hI;have hi:=fK.mp hi;simp only[Ni];ext;have e:=rS (xs:=rs.map W.int) (n:=i);rw[show(i:Int)=0+(i:Int) by lia,aT,aR hi]at e
   rw[ni ea,e];dsimp only[Option.map];ext;have ec:=YY (n:=(rs[i]+(k:Int)*(if(0+(i:Int) == pos)=true then 1 else 0)) % 26) (cY _ (by decide)) (dh _ (by decide));rw[ec];have el:lt rs pos k i=97+((rs[i]+(k:Int)*(if(0+(i:Int) == pos)=true then 1 else 0)) % 26).toNat:=by
    unfold lt;rw[bv,aR hi];rfl
   rw[←el];exact⟨.inl ⟨by lia,by lia⟩,by decide,m_ (by rw[U4];decide),hR _ _ ⟨_,rfl⟩ .refl⟩
  ·have es:(bx rs.length).map (λi=>W.str ⟨#[lt rs pos k i]⟩)=(rJ rs pos k).map λc=>W.str ⟨#[c]⟩:=by
    unfold rJ;rw[bu];rfl
   have hw:=Kb B k;rw[aX,es,J9];refine⟨Sr _ (by rw[De];lia),?_⟩;show _;have ew:dj (bE "") ((rJ rs pos k).map λc=>(⟨#[c]⟩:ah))=oq rs pos k:=rfl;rw[ew];have hl8:(oq rs pos k).length≤8:=by rw[vE];exact hw.2.1
   have fin:∀z:ah,z=wd great rs pos k→ ∀x9:Option W,N [aa (.int one),aa (.int two),aa (.bl great),aa (.str (bE "abcdefghijklmnopqrstuvwxyz")),aa (.int sp),aa (.ref a),aa (.int (k:Int)),aa (.int pos),aa (.ref b),x9] (bQ (bQ S a (.bP (rs.map W.int))) b (.bP (((bx k).map (wd great rs pos)).map W.str++[.str z]))):=λz hz x9=>by
    subst hz;refine hN _ _ _ .refl ⟨_,_,?_,rfl⟩;rw[gJ,bK,bK];rfl
   have hxl:(((bx k).map (wd great rs pos)).map W.str).length<sizeLine:=qJ (by simp;lia);cases great with
   |false=>
    try ext
    try simp only[yB,pM,true_and]
    exact⟨hxl,fin _ rfl _⟩
   |true=>
    ext;rw[CM,UC pos k B.l1,B2];dsimp only
    try ext
    try simp only[yB,pM,true_and]
    refine⟨m_ (by lia),?_⟩;have h1:(⟨#[lt rs pos k 0]⟩:ah).length=1:=rfl;have h2:(eG ⟨#[lt rs pos k 0]⟩).length=1:=by rw[NZ (xj _ _ _ _)];rfl
    have h3:(c_ (oq rs pos k) (aa 1) none).length≤8:=by
     rw[vE,M0,cS,←vE];lia
    exact⟨by lia,m_ (by lia),m_ (by lia),hxl,fin _ rfl _⟩
 ·rintro σ S' ⟨x6,x9,rfl,rfl⟩;have eb:bQ (bQ S a (Ob.bP (rs.map W.int))) b (Ob.bP (((bx 6).map (wd great rs pos)).map W.str)) b=aa (.bP (((bx 6).map (wd great rs pos)).map W.str)):=mV;ext;cases great with
  |true=>
   ext;refine⟨⟨by decide,by decide⟩,by decide,?_⟩
   split
   ·exact⟨_, .put2 (.bQ .refl ha),h b _ hb1 ⟨rs,pos,B, .inl rfl⟩⟩
   ·exact⟨_, .put2 (.bQ .refl ha),h b _ hb1 ⟨rs,pos,B, .inl rfl⟩⟩
  |false=>
   ext;refine⟨⟨by decide,by decide⟩,by decide,?_⟩
   split
   ·have e6:((bx 6).map (wd false rs pos)).map W.str=[.str (oq rs pos 0), .str (oq rs pos 1), .str (oq rs pos 2), .str (oq rs pos 3), .str (oq rs pos 4), .str (oq rs pos 5)]:=rfl;simp only[e6]
    try ext
    have c3:o7 [W.str (oq rs pos 0), .str (oq rs pos 1), .str (oq rs pos 2), .str (oq rs pos 3), .str (oq rs pos 4), .str (oq rs pos 5)] none (aa 3)=[.str (oq rs pos 0), .str (oq rs pos 1), .str (oq rs pos 2)]:=rfl;have a2:nE [W.str (oq rs pos 0), .str (oq rs pos 1), .str (oq rs pos 2), .str (oq rs pos 3), .str (oq rs pos 4), .str (oq rs pos 5)] 2=aa (.str (oq rs pos 2)):=rfl;have a5:nE [W.str (oq rs pos 0), .str (oq rs pos 1), .str (oq rs pos 2), .str (oq rs pos 3), .str (oq rs pos 4), .str (oq rs pos 5)] 5=aa (.str (oq rs pos 5)):=rfl;simp only[c3,a2,a5]
    try ext
    refine⟨m_ (by decide),m_ (by decide),λc hc=>?_⟩;obtain⟨hc1,hc2⟩:=rf hc;obtain⟨hc1,hc3⟩:=rf hc1;exact⟨_, .put2 (.bQ (.bQ .refl ha) hb1),h c _ hc1 ⟨rs,pos,B, .inr ⟨rfl,rfl⟩⟩⟩
   ·exact⟨_, .put2 (.bQ .refl ha),h b _ hb1 ⟨rs,pos,B, .inl rfl⟩⟩
mutual
noncomputable def Tr.nb:Tr→Nat
 | .bl _=>1
 | .nd _ ts=>nbs ts
noncomputable def nbs:List Tr→Nat
 | []=>0
 |t::ts=>t.nb+nbs ts
end
mutual
theorem NP:∀(t:Tr) (p:List Int),((t.plt p).filter λx=>x.2.isBl).length=t.nb
 | .bl n,p=>by simp [Tr.plt,Tr.isBl,Tr.nb]
 | .nd s ts,p=>by
  have:=HL ts p 0;simpa [Tr.plt,Tr.isBl,Tr.nb]using this
theorem HL:∀(ts:List Tr) (p:List Int) (i:Nat),((oN p i ts).filter λx=>x.2.isBl).length=nbs ts
 | [],p,i=>by simp [oN,nbs]
 |t::ts,p,i=>by
  have h1:=NP t (p++[(i:Int)]);have h2:=HL ts p (i+1);rw[oN,j8,a_,h1,h2,nbs]
end
def E6 (t:Tr):t.bls.length=t.nb:=NP t []
theorem OI:∀ts:List Tr,(ts.map λt=>(t.nb:Int)).sum=(nbs ts:Int)
 | []=>by simp [nbs]
 |t::ts=>by
  rw[aC,kI,OI ts,nbs];lia
def R9 (ts:List Tr):qH (ts.map λt=>W.int (t.nb:Int))=aa (ts.map λt=>(t.nb:Int)):=by
 have:=Ge (ts.map λt=>(t.nb:Int));rw[bu]at this;exact this
theorem FK:∀(d:Nat) {t:Tr}{r:Nat}{S:lF}{Q:WK}{E:ah→lF→Prop},t.depth≤d→d≤r+1→t.aq≤90000→Q (.int t.nb) S→uX (r+1) [lA t] S Q E
 |0,t,r,S,Q,E,hd,hr,hw,h=>by have:=qD t;lia
 |d+1, .bl n,r,S,Q,E,hd,hr,hw,h=>by
  rw[uX];simp only[lA];ext;simp only[Tr.nb]at h;exact⟨S, .refl,h⟩
 |d+1, .nd s ts,r,S,Q,E,hd,hr,hw,h=>by
  simp only[Tr.depth]at hd;simp only[Tr.aq]at hw;have hk:=qI ts;rw[uX];simp only[lA];ext;rw[o6];refine qe (λσ=>∃x,σ=[x]) lA (λt=> .int (t.nb:Int)) trivial ts [] _ ⟨none,rfl⟩ (by simp;lia) (λx hx σ R hI hR=>?_) ?_
  ·obtain⟨y,rfl⟩:=hI;have hdx:=p7 hx;have hwx:=pk hx;have:=qD x;obtain⟨r,rfl⟩:∃r',r=r'+1:=⟨r - 1,by lia⟩
   simp only[N6];ext;exact FK d (t:=x) (r:=r) (by lia) (by lia) (by lia) (hR _ _ ⟨_,rfl⟩ .refl)
  ·rw[aX,R9];dsimp only;rw[OI];simp only[Tr.nb]at h;exact⟨S, .refl,h⟩
def Nf{w:W}{ws:List W}:o7 (w::ws) none (aa 1)=[w]:=by
 rw[show(1:Int)=((1:Nat):Int) from rfl,BD];rfl
theorem Ch{us:List Tr}{a:ai}:∀(d:Nat) {t:Tr}{r:Nat}{S:lF}{Q:WK}{E:ah→lF→Prop},t.depth≤d→d≤r+1→S a=aa (.bP (af us))→t.br us.length→t.aq≤90000→Q (lA (t.aD us)) S→u7 (r+1) [lA t, .ref a] S Q E
 |0,t,r,S,Q,E,hd,hr,ha,hf,hw,h=>by have:=qD t;lia
 |d+1, .bl n,r,S,Q,E,hd,hr,ha,hf,hw,h=>by
  simp only[Tr.br]at hf;simp only[Tr.aD]at h;rw[u7];simp only[lA];ext;have e:nE (af us) n=aa (lA (us.getD n.toNat (.bl n))):=by
   have q:=rS (xs:=af us) (n:=n.toNat);rw[ck hf.1]at q;rw[q,o6,aT,bv,aR (by lia)];rfl
  rw[ni ha,e];exact⟨S, .refl,h⟩
 |d+1, .nd s ts,r,S,Q,E,hd,hr,ha,hf,hw,h=>by
  simp only[Tr.br]at hf;simp only[Tr.aD]at h;simp only[Tr.depth]at hd;simp only[Tr.aq]at hw;have hk:=qI ts;rw[u7];simp only[lA]at h⊢;ext;rw[Nf];rw[o6];refine qe (λσ=>∃x,σ=[x,aa (.ref a)]) lA (λt=>lA (t.aD us)) trivial ts [] _ ⟨none,rfl⟩ (by simp;lia) (λx hx σ R hI hR=>?_) ?_
  ·obtain⟨y,rfl⟩:=hI;have hdx:=p7 hx;have hwx:=pk hx;have:=qD x;obtain⟨r,rfl⟩:∃r',r=r'+1:=⟨r - 1,by lia⟩
   simp only[LK];ext;exact Ch d (t:=x) (r:=r) (by lia) (by lia) ha (wc hf hx) (by lia) (hR _ _ ⟨_,rfl⟩ .refl)
  ·rw[aX];ext;refine⟨m_ (by simp;lia),S, .refl,?_⟩;have e:af (aF us ts)=ts.map λt=>lA (t.aD us):=by rw[o6,uW,bu];rfl
   rw[e]at h;exact h
def bO (n:Nat) (h c d:ah):List Tr:=
 match n with
 |0=>[.nd h [.bl 0]]
 |1=>[.nd h [.bl 0, .bl 1]]
 |2=>[.nd h [.nd c []], .nd h [.nd d [.bl 0]]]
 |3=>[.nd h [.nd c [], .bl 0], .nd h [.nd d [.bl 0], .bl 1]]
 |4=>[.nd h [.nd d [.nd d [.bl 0]], .bl 1, .bl 2], .nd h [.nd d [.nd c []], .bl 0, .bl 1]]
 |_=>[.nd h []]
section
variable {w0 w1 w2 w3 w4 w5:ah}{r:Nat}{S:lF}{Q:WK}{E:ah→lF→Prop}
noncomputable abbrev qu (w0 w1 w2 w3 w4 w5:ah):List W:=[.str w0, .str w1, .str w2, .str w3, .str w4, .str w5]
theorem ql:nE (qu w0 w1 w2 w3 w4 w5) 0=aa (.str w0):=rfl
theorem qq:nE (qu w0 w1 w2 w3 w4 w5) 1=aa (.str w1):=rfl
theorem pR:nE (qu w0 w1 w2 w3 w4 w5) 2=aa (.str w2):=rfl
theorem p9:nE (qu w0 w1 w2 w3 w4 w5) 3=aa (.str w3):=rfl
theorem p_:nE (qu w0 w1 w2 w3 w4 w5) 4=aa (.str w4):=rfl
theorem p8:nE (qu w0 w1 w2 w3 w4 w5) 5=aa (.str w5):=rfl
def V_{n:Int}{h c d:ah}(H:∀(p:ai) (k:Nat),S p=none→Q (.ref p) (bQ S p (.bP (af (bO k h c d))))):B6 (r+1) [.int n, .str h, .str c, .str d] S Q E:=by
 rw[B6,uf];refine⟨rfl,?_⟩;have l1:1≤sizeLine:=m_ (by decide);have l2:2≤sizeLine:=m_ (by decide);have l3:3≤sizeLine:=m_ (by decide);have l4:4≤sizeLine:=m_ (by decide);refine zh λT hT=>?_;ext;refine xW (λ_=>⟨l2,l1,λp hp=>⟨_, .refl,by simpa only[bO,lA,af]using H p 0 hp⟩⟩) λ_=>?_
 subst hT;refine zh λT hT=>?_;ext;refine xW (λ_=>⟨l3,l1,λp hp=>⟨_, .refl,by simpa only[bO,lA,af]using H p 1 hp⟩⟩) λ_=>?_
 subst hT;refine zh λT hT=>?_;ext;refine xW (λ_=>⟨l1,l2,l2,l2,l2,λp hp=>⟨_, .refl,by simpa only[bO,lA,af]using H p 2 hp⟩⟩) λ_=>?_
 subst hT;refine zh λT hT=>?_;ext;refine xW (λ_=>⟨l1,l3,l2,l3,l2,λp hp=>⟨_, .refl,by simpa only[bO,lA,af]using H p 3 hp⟩⟩) λ_=>?_
 subst hT;refine zh λT hT=>?_;ext;refine xW (λ_=>⟨l2,l2,l4,l1,l2,l4,l2,λp hp=>⟨_, .refl,by simpa only[bO,lA,af]using H p 4 hp⟩⟩) λ_=>?_
 subst hT;ext;exact⟨l1,l1,λp hp=>⟨_, .refl,by simpa only[bO,lA,af]using H p 5 hp⟩⟩
end
section
variable {w0 w1:ah}{j:Int}
def CP (n:Nat) (h c d:ah):1≤(bO n h c d).length∧(bO n h c d).length≤2:=by
 unfold bO;split<;>simp
noncomputable def se (w0 w1:ah) (j:Nat):ah:=if j=0 then w0 else w1
end
noncomputable def vZ (x:ah):Bool:=decide (1≤x.cps.toList.length)&&(decide (x.cps.toList.length≤8)&&bo x.cps.toList)
def Yk (xs:List Nat):bo xs=true↔ ∀c∈xs,sD c:=by
 unfold bo;rw[cQ];simp only[xP,sD,bV,decide_eq_true_eq]
def AE (x:ah):vZ x=true↔ox x:=by
 unfold vZ ox;rw[bV,bV,decide_eq_true_eq,decide_eq_true_eq,Yk]
def AU (h:ox x) (g:p5 y):x≠y:=by
 rintro rfl;obtain⟨c,r,e,h1,h2,_⟩:=g;have:=h.2.2 c (by rw[e];exact aL);unfold sD at this;lia
def Qs (g:p5 y):1≤y.cps.toList.length∧y.cps.toList.length≤8:=by
 obtain⟨c,r,e,h1,h2,h3,_⟩:=g;rw[e,aU];lia
mutual
def Tr.hd (P:ah→Prop):Tr→Prop
 | .bl _=>False
 | .nd s ts=>P s∧hds P ts
def hds (P:ah→Prop):List Tr→Prop
 | []=>True
 |t::ts=>t.hd P∧hds P ts
end
mutual
def Tr.hb (P:ah→Prop):Tr→Prop
 | .bl _=>True
 | .nd s ts=>P s∧oC P ts
def oC (P:ah→Prop):List Tr→Prop
 | []=>True
 |t::ts=>t.hb P∧oC P ts
end
theorem m3{P:ah→Prop}:∀{ts:List Tr},hds P ts↔ ∀t∈ts,t.hd P
 | []=>by simp [hds]
 |t::ts=>by simp [hds,m3 (ts:=ts)]
mutual
theorem wb{P P':ah→Prop}(h:∀s,P s→P' s):∀(t:Tr),t.hd P→t.hd P'
 | .bl _,q=>by simp [Tr.hd]at q
 | .nd s ts,q=>by
  simp only[Tr.hd]at q⊢;exact⟨h s q.1,No h ts q.2⟩
theorem No{P P':ah→Prop}(h:∀s,P s→P' s):∀(ts:List Tr),hds P ts→hds P' ts
 | [],_=>by simp [hds]
 |t::ts,q=>by
  simp only[hds]at q⊢;exact⟨wb h t q.1,No h ts q.2⟩
end
mutual
theorem Nx{P P':ah→Prop}(h:∀s,P s→P' s):∀(t:Tr),t.hb P→t.hb P'
 | .bl _,q=>by simp [Tr.hb]
 | .nd s ts,q=>by
  simp only[Tr.hb]at q⊢;exact⟨h s q.1,G9 h ts q.2⟩
theorem G9{P P':ah→Prop}(h:∀s,P s→P' s):∀(ts:List Tr),oC P ts→oC P' ts
 | [],_=>by simp [oC]
 |t::ts,q=>by
  simp only[oC]at q⊢;exact⟨Nx h t q.1,G9 h ts q.2⟩
end
mutual
theorem As{P:ah→Prop}(hu:∀u∈us,u.hd P):∀(t:Tr),t.hb P→t.br us.length→(t.aD us).hd P
 | .bl n,h,f=>by
  simp only[Tr.br]at f;simp only[Tr.aD];rw[bv,aR (show n.toNat<us.length by lia)]
  exact hu _ (dW ..)
 | .nd s ts,h,f=>by
  simp only[Tr.br]at f;simp only[Tr.hb]at h;simp only[Tr.aD,Tr.hd];exact⟨h.1,GB hu ts h.2 f⟩
theorem GB{P:ah→Prop}(hu:∀u∈us,u.hd P):∀(ts:List Tr),oC P ts→m7 us.length ts→hds P (aF us ts)
 | [],h,f=>by simp [aF,hds]
 |t::ts,h,f=>by
  simp only[m7]at f;simp only[oC]at h;simp only[aF,hds];exact⟨As hu t h.1 f.1,GB hu ts h.2 f.2⟩
end
structure qA (ws:List ah) (m:Nat) (t:Tr):Prop where
  dp:t.depth≤4
  br:t.br m
  hb:∀{P:ah→Prop},(∀x∈ws,P x)→t.hb P
  wt:t.aq≤7
def SL (B:List Tn):Prop:=∀t∈B,∀(us:List Tr) (M:Nat),us.length=t.2.1.nb→1≤M→(∀u∈us,u.aq≤M)→(t.2.2.aD us).aq≤2+2*M∧(t.2.1.nb=0→(t.2.2.aD us).aq≤1+M)
structure mI (w0 w1 w2 w3 w4 w5:ah) (tt:List ah) (B:List Tn):Prop where
  lf:∃n m:Nat,B.map (λt=>t.2.1)=bO n w0 w2 w3++bO m w1 w2 w3
  ti:B.map (λt=>t.1)=tt.take B.length
  ri:∀t∈B,qA [w0,w1,w2,w3,w4,w5] t.2.1.nb t.2.2
structure tm (P:ah→Prop) (L:Tr):Prop where
  hb:L.hb P
  br:L.br L.nb
  wt:L.aq≤L.nb+3
  dp:L.depth≤4
  nb:L.nb≤3
  nd:∃s ts,L= .nd s ts
  fw:∀us:List Tr,us.length=L.nb→(L.aD us).aq≤3+mO us
  fw0:L.nb=0→(L.aD []).aq≤2
def Zlq (h:us.length=2):∃u v:Tr,us=[u,v]:=by
 obtain⟨u,vs,rfl⟩:=List.exists_cons_of_length_eq_add_one h;obtain⟨v,rfl⟩:=List.length_eq_one_iff.1 (Nat.succ.inj h);exact⟨u,v,rfl⟩
def Zmq{P:Tr→List Tr→Prop}(hL:L∈bO n h c d) (hu:us.length=L.nb) (a:∀u,P (.nd h [.bl 0]) [u]) (b:∀u v,P (.nd h [.bl 0,.bl 1]) [u,v]) (e:P (.nd h [.nd c []]) []) (f:∀u,P (.nd h [.nd d [.bl 0]]) [u]) (g:∀u,P (.nd h [.nd c [],.bl 0]) [u]) (i:∀u v,P (.nd h [.nd d [.bl 0],.bl 1]) [u,v]) (j:∀u v x,P (.nd h [.nd d [.nd d [.bl 0]],.bl 1,.bl 2]) [u,v,x]) (k:∀u v,P (.nd h [.nd d [.nd c []],.bl 0,.bl 1]) [u,v]) (l:P (.nd h []) []):P L us:=by
 unfold bO at hL;split at hL<;>simp only[az,bq,or_false]at hL
 all_goals (first |subst hL |rcases hL with rfl |rfl)<;>first |(cases List.length_eq_zero_iff.1 hu;assumption) |(obtain⟨u,rfl⟩:=List.length_eq_one_iff.1 hu;apply_assumption) |(obtain⟨u,v,rfl⟩:=Zlq hu;apply_assumption) |(obtain⟨u,us,rfl⟩:=List.exists_cons_of_length_eq_add_one hu;obtain⟨v,x,rfl⟩:=Zlq (Nat.succ.inj hu);exact j u v x)
def Ci{P:ah→Prop}(hh:P h) (hc:P c) (hd:P d):∀L∈bO n h c d,tm P L:=λL hL=>
 have H:L.hb P∧L.br L.nb∧L.aq≤L.nb+3∧L.depth≤4∧L.nb≤3∧(∃s ts,L= .nd s ts)∧(L.nb=0→(L.aD []).aq≤2):=by
  apply Zmq (P:=λL us=>L.hb P∧L.br L.nb∧L.aq≤L.nb+3∧L.depth≤4∧L.nb≤3∧(∃s ts,L= .nd s ts)∧(L.nb=0→(L.aD []).aq≤2)) hL (us:=List.replicate L.nb (.bl 0)) jK<;>intros<;>simp [Tr.hb,oC,hh,hc,hd,Tr.br,m7,Tr.nb,nbs,Tr.aq,mO,Tr.depth,nj,Tr.aD,aF]
 ⟨H.1,H.2.1,H.2.2.1,H.2.2.2.1,H.2.2.2.2.1,H.2.2.2.2.2.1,λus hu=>by apply Zmq (P:=λL us=>(L.aD us).aq≤3+mO us) hL hu<;>intros<;>simp [Tr.aD,aF,Tr.aq,mO]<;>lia,H.2.2.2.2.2.2⟩
def mI.len (b:mI w0 w1 w2 w3 w4 w5 tt B):2≤B.length∧B.length≤4:=by
 obtain⟨n,m,e⟩:=b.lf;have h1:=CP n w0 w2 w3;have h2:=CP m w1 w2 w3;have e':=congrArg dH e;rw[ay,a_]at e';lia
def mI.left (b:mI w0 w1 w2 w3 w4 w5 tt B) {P:ah→Prop}(h0:P w0) (h1:P w1) (h2:P w2) (h3:P w3) (ht:t∈B):tm P t.2.1:=by
 obtain⟨n,m,e⟩:=b.lf;have:t.2.1∈bO n w0 w2 w3++bO m w1 w2 w3:=by rw[←e];exact aV.mpr ⟨t,ht,rfl⟩
 obtain z |z:=bn.mp this
 ·exact Ci h0 h2 h3 _ z
 ·exact Ci h1 h2 h3 _ z
def mI.nodup (b:mI w0 w1 w2 w3 w4 w5 tt B) (T:pI tt):(B.map λt=>t.1).Nodup:=by
 rw[b.ti];exact jL.sublist (kZ ..) T.nd
def mI.mem (b:mI w0 w1 w2 w3 w4 w5 tt B) (ht:t∈B):t.1∈tt:=by
 have:t.1∈B.map λt=>t.1:=aV.mpr ⟨t,ht,rfl⟩;rw[b.ti]at this;exact jG this
def nc (B:List Tn) (s:ah):Option Tn:=B.find? λt=>t.1 == s
theorem rg:∀{B:List Tn}{t:Tn},(B.map λt=>t.1).Nodup→t∈B→nc B t.1=aa t
 |u::B,t,hn,ht=>by
  unfold nc;rw[aC,eE]at hn;rw[cc];obtain rfl |ht:=az.mp ht
  ·simp
  ·have hne:u.1≠t.1:=λz=>hn.1 (by rw[z];exact aV.mpr ⟨t,ht,rfl⟩);have:(u.1 == t.1)=false:=by simpa using hne
   rw[this];exact rg hn.2 ht
def Gi (h:∀t∈B,t.1≠s):nc B s=none:=by
 unfold nc;rw[gX];intro t ht;simpa using h t ht
noncomputable def sZ (B:List Tn) (s:ah) (n:Nat):Bool:=match nc B s with
 |none=>vZ s
 |some t=>n == t.2.1.nb
mutual
noncomputable def Tr.way (B:List Tn):Tr→Bool
 | .bl _=>false
 | .nd s ts=>sZ B s ts.length&&tP B ts
noncomputable def tP (B:List Tn):List Tr→Bool
 | []=>true
 |t::ts=>t.way B&&tP B ts
end
mutual
noncomputable def Tr.dO:Tr→Bool
 | .bl _=>false
 | .nd s ts=>vZ s&&tJ ts
noncomputable def tJ:List Tr→Bool
 | []=>true
 |t::ts=>t.dO&&tJ ts
end
theorem D6 (B:List Tn):∀ts:List Tr,tP B ts=ts.all (Tr.way B)
 | []=>by simp [tP]
 |t::ts=>by simp [tP,D6 B ts]
theorem Ld:∀ts:List Tr,tJ ts=ts.all Tr.dO
 | []=>by simp [tJ]
 |t::ts=>by simp [tJ,Ld ts]
mutual
theorem C6:∀t:Tr,t.hd ox→t.dO=true
 | .bl n,h=>by simp [Tr.hd]at h
 | .nd s ts,h=>by
  simp only[Tr.hd]at h;rw[Tr.dO,(AE s).mpr h.1,K9 ts h.2];rfl
theorem K9:∀ts:List Tr,hds ox ts→tJ ts=true
 | [],h=>by simp [tJ]
 |t::ts,h=>by
  simp only[hds]at h;rw[tJ,C6 t h.1,K9 ts h.2];rfl
end
mutual
theorem Ev (hB:∀t∈B,p5 t.1) (hu:∀u∈us,u.way B=true):∀(t:Tr),t.hb ox→t.br us.length→(t.aD us).way B=true
 | .bl n,h,f=>by
  simp only[Tr.br]at f;simp only[Tr.aD];rw[bv,aR (show n.toNat<us.length by lia)]
  exact hu _ (dW ..)
 | .nd s ts,h,f=>by
  simp only[Tr.br]at f;simp only[Tr.hb]at h;simp only[Tr.aD,Tr.way];rw[GQ hB hu ts h.2 f,sZ,Gi λt ht=>(AU h.1 (hB t ht)).symm,(AE s).mpr h.1];rfl
theorem GQ (hB:∀t∈B,p5 t.1) (hu:∀u∈us,u.way B=true):∀(ts:List Tr),oC ox ts→m7 us.length ts→tP B (aF us ts)=true
 | [],h,f=>by simp [aF,tP]
 |t::ts,h,f=>by
  simp only[m7]at f;simp only[oC]at h;rw[aF,tP,Ev hB hu t h.1 f.1,GQ hB hu ts h.2 f.2];rfl
end
inductive Pl where
  |nd (k bits:Int) (head:ah) (ps:List Pl)
mutual
noncomputable def Pl.wt:Pl→Nat
 | .nd _ _ _ ps=>1+bH ps
noncomputable def bH:List Pl→Nat
 | []=>0
 |p::ps=>p.wt+bH ps
end
mutual
noncomputable def Pl.dp:Pl→Nat
 | .nd _ _ _ ps=>1+r8 ps
noncomputable def r8:List Pl→Nat
 | []=>0
 |p::ps=>max p.dp (r8 ps)
end
mutual
noncomputable def Pl.nt:Pl→Nat
 | .nd k _ _ ps=>(if k<0 then 0 else 1)+bC ps
noncomputable def bC:List Pl→Nat
 | []=>0
 |p::ps=>p.nt+bC ps
end
inductive nI (ws:List ah) (B:List Tn):Pl→Prop
 |sign {b:Int}{h:ah}{ps:List Pl}:h∈ws→(∀p∈ps,nI ws B p)→nI ws B (.nd (-1) b h ps)
 |turn {k:Nat}{b:Int}{h:ah}{ps:List Pl}{t:Tn}:B[k]? =aa t→ps.length=t.2.1.nb→0≤b→b<8→(∀p∈ps,nI ws B p)→nI ws B (.nd k b h ps)
mutual
noncomputable def Pl.ev (B:List Tn) (c:Int→Nat):Pl→Tr
 | .nd k b h ps=>if k<0 then .nd h (vn B c ps) else match c b with
  |0=>(B.getD k.toNat (h, .bl 0, .bl 0)).2.1.aD (vn B c ps)
  |1=> .nd (B.getD k.toNat (h, .bl 0, .bl 0)).1 (vn B c ps)
  |_=>(B.getD k.toNat (h, .bl 0, .bl 0)).2.2.aD (vn B c ps)
noncomputable def vn (B:List Tn) (c:Int→Nat):List Pl→List Tr
 | []=>[]
 |p::ps=>p.ev B c::vn B c ps
end
theorem DH (B:List Tn) (c:Int→Nat):∀ps:List Pl,vn B c ps=ps.map (Pl.ev B c)
 | []=>by simp [vn]
 |p::ps=>by simp [vn,DH B c ps]
theorem xw:∀ps qs:List Pl,bH (ps++qs)=bH ps+bH qs
 | [],qs=>by simp [bH]
 |p::ps,qs=>by simp [bH,xw ps qs];lia
theorem vJ:∀ps qs:List Pl,bC (ps++qs)=bC ps+bC qs
 | [],qs=>by simp [bC]
 |p::ps,qs=>by simp [bC,vJ ps qs];lia
theorem Co:∀{ps:List Pl},p∈ps→p.dp≤r8 ps
 |q::ps,h=>by
  obtain rfl |h:=az.mp h
  ·simp [r8];lia
  ·have:=Co h;simp [r8];lia
mutual
theorem LZ:∀p:Pl,p.dp≤p.wt
 | .nd k b h ps=>by have:=GZ ps;simp [Pl.dp,Pl.wt];lia
theorem GZ:∀ps:List Pl,r8 ps≤bH ps
 | []=>by simp [r8]
 |p::ps=>by have:=LZ p;have:=GZ ps;simp [r8,bH];lia
end
def Zd (p:Pl):1≤p.dp:=by cases p;simp [Pl.dp]
def X5 (p:Pl):1≤p.wt:=by cases p;simp [Pl.wt]
def qb{c:Int→Nat}:(Pl.nd (-1) b h ps).ev B c= .nd h (ps.map (Pl.ev B c)):=by
 rw[Pl.ev,if_pos (by decide),DH]
noncomputable def q_ (t:Tn) (n:Nat) (us:List Tr):Tr:=match n with
 |0=>t.2.1.aD us
 |1=> .nd t.1 us
 |_=>t.2.2.aD us
def pZ{B:List Tn}{c:Int→Nat}{b:Int}{h:ah}{ps:List Pl}{k:Nat}{t:Tn}(e:B[k]? =aa t):(Pl.nd k b h ps).ev B c=q_ t (c b) (ps.map (Pl.ev B c)):=by
 rw[Pl.ev,if_neg (by lia),DH,bb,bv,e];rfl
structure oz (ws hs:List ah) (B:List Tn):Prop where
  ti:∀t∈B,p5 t.1
  nd:(B.map λt=>t.1).Nodup
  sg:∀x∈ws,ox x
  sb:∀x∈hs,x∈ws
  lf:∀t∈B,tm ox t.2.1
  ri:∀t∈B,qA ws t.2.1.nb t.2.2
def mI.bk (b:mI w0 w1 w2 w3 w4 w5 tt B) (T:pI tt) (G:nW w0 w1 w2 w3 w4 w5):oz [w0,w1,w2,w3,w4,w5] [w2,w3,w4,w5] B:=
 ⟨λt ht=>T.ok _ (b.mem ht),b.nodup T,G.ok,λx hx=>aI _ (aI _ hx),λt ht=>b.left (G.ok _ (by simp)) (G.ok _ (by simp)) (G.ok _ (by simp)) (G.ok _ (by simp)) ht,b.ri⟩
section
variable {ws hs:List ah}{B:List Tn}{c:Int→Nat}
def Zu (b:oz ws hs B) {p:Pl}(h:nI hs B p):(p.ev B c).way B=true:=by
 induction h with
 | @sign b' h ps hh hp ih=>
  rw[qb,Tr.way,sZ,Gi λt ht=>(AU (b.sg h (b.sb h hh)) (b.ti t ht)).symm,D6,(AE h).mpr (b.sg h (b.sb h hh))];simp only[eW,jF,cQ];exact λp hp=>ih p hp
 | @turn k b' h ps t e hl b0 b1 hp ih=>
  have ht:t∈B:=aJ e;have hu:∀u∈ps.map (Pl.ev B c),u.way B=true:=λu hu=>by
   obtain⟨p,hp,rfl⟩:=aV.mp hu;exact ih p hp
  rw[pZ e];unfold q_;split
  ·exact Ev b.ti hu _ (b.lf t ht).hb (by rw[ay,hl];exact(b.lf t ht).br)
  ·rw[Tr.way,sZ,rg b.nd ht,D6];simp only[ay,hl,beq_self_eq_true,jF,cQ];exact hu
  ·exact Ev b.ti hu _ ((b.ri t ht).hb b.sg) (by rw[ay,hl];exact(b.ri t ht).br)
theorem Fs:∀{ps:List Pl},p∈ps→p.nt≤bC ps
 |q::ps,h=>by
  obtain rfl |h:=az.mp h
  ·simp [bC]
  ·have:=Fs h;simp [bC];lia
theorem Iz:∀{ps:List Pl},p∈ps→p.wt≤bH ps
 |q::ps,h=>by
  obtain rfl |h:=az.mp h
  ·simp [bH]
  ·have:=Iz h;simp [bH];lia
end
mutual
noncomputable def Tr.mk (B:List Tn) (g:Tn→Tr):Tr→Tr
 | .bl n=> .bl n
 | .nd s ts=>match nc B s with
  |none=> .nd s (rE B g ts)
  |some t=>(g t).aD (rE B g ts)
noncomputable def rE (B:List Tn) (g:Tn→Tr):List Tr→List Tr
 | []=>[]
 |t::ts=>t.mk B g::rE B g ts
end
theorem wU (B:List Tn) (g:Tn→Tr):∀ts:List Tr,rE B g ts=ts.map (Tr.mk B g)
 | []=>by simp [rE]
 |t::ts=>by simp [rE,wU B g ts]
def CK{g:Tn→Tr}(h:nc B s=none):(Tr.nd s ts).mk B g= .nd s (ts.map (Tr.mk B g)):=by
 rw[Tr.mk,h,wU]
def CI{g:Tn→Tr}(h:nc B s=aa t):(Tr.nd s ts).mk B g=(g t).aD (ts.map (Tr.mk B g)):=by
 rw[Tr.mk,h,wU]
def qc (hB:∀t∈B,p5 t.1) (h:ox s):nc B s=none:=Gi λt ht=>(AU h (hB t ht)).symm
mutual
theorem rV{g:Tn→Tr}(hB:∀t∈B,p5 t.1):∀t:Tr,t.hd ox→t.mk B g=t
 | .bl n,h=>by simp [Tr.hd]at h
 | .nd s ts,h=>by
  simp only[Tr.hd]at h;rw[Tr.mk,qc hB h.1,Mq hB ts h.2]
theorem Mq{g:Tn→Tr}(hB:∀t∈B,p5 t.1):∀ts:List Tr,hds ox ts→rE B g ts=ts
 | [],h=>by simp [rE]
 |t::ts,h=>by
  simp only[hds]at h;rw[rE,rV hB t h.1,Mq hB ts h.2]
end
mutual
theorem CW{g:Tn→Tr}(hB:∀t∈B,p5 t.1):∀t:Tr,t.hb ox→t.br us.length→(t.aD us).mk B g=t.aD (us.map (Tr.mk B g))
 | .bl n,h,f=>by
  simp only[Tr.br]at f;simp only[Tr.aD];rw[bv,bv,aT,aR (show n.toNat<us.length by lia)]
  rfl
 | .nd s ts,h,f=>by
  simp only[Tr.hb]at h;simp only[Tr.br]at f;simp only[Tr.aD];rw[Tr.mk,qc hB h.1];simp only[];rw[Kr hB ts h.2 f]
theorem Kr{g:Tn→Tr}(hB:∀t∈B,p5 t.1):∀ts:List Tr,oC ox ts→m7 us.length ts→rE B g (aF us ts)=aF (us.map (Tr.mk B g)) ts
 | [],h,f=>by simp [aF,rE]
 |t::ts,h,f=>by
  simp only[oC]at h;simp only[m7]at f;rw[aF,rE,aF,CW hB t h.1 f.1,Kr hB ts h.2 f.2]
end
section
variable {ws hs:List ah}{B:List Tn}{c d:Int→Nat}
def MY (b:oz ws hs B) {g:Tn→Tr}(hg:∀t∈B,∀x:Int,0≤x→x<8→c x=1→ ∀us,(g t).aD us=q_ t (d x) us) (h0:∀x:Int,0≤x→x<8→c x≠1→d x=c x) {p:Pl}(h:nI hs B p):(p.ev B c).mk B g=p.ev B d:=by
 induction h with
 | @sign b' h ps hh hp ih=>
  rw[qb,qb,CK (qc b.ti (b.sg h (b.sb h hh))),bu];congr 1;exact di λp hp=>ih p hp
 | @turn k b' h ps t e hl b0 b1 hp ih=>
  have ht:t∈B:=aJ e;have em:(ps.map (Pl.ev B c)).map (Tr.mk B g)=ps.map (Pl.ev B d):=by
   rw[bu];exact di λp hp=>ih p hp
  rw[pZ e,pZ e];by_cases hc:c b'=1
  ·rw[←hg t ht b' b0 b1 hc,hc];show(Tr.nd t.1 _).mk B g=_;rw[CI (rg b.nd ht),em]
  ·rw[h0 b' b0 b1 hc];unfold q_;split
   ·rw[CW b.ti _ (b.lf t ht).hb (by rw[ay,hl];exact(b.lf t ht).br),em]
   ·rename_i z;exact absurd z hc
   ·rw[CW b.ti _ ((b.ri t ht).hb b.sg) (by rw[ay,hl];exact(b.ri t ht).br),em]
def uR (c:Int→Nat):Int→Nat:=λx=>if c x=1 then 0 else c x
def sE (c:Int→Nat):Int→Nat:=λx=>if c x=1 then 2 else c x
def wQ (b:oz ws hs B) (h:nI hs B p):(p.ev B c).mk B (λt=>t.2.1)=p.ev B (uR c):=
 MY b (λt ht x _ _ hx us=>by rw[uR,if_pos hx];rfl) (λx _ _ hx=>by rw[uR,if_neg hx]) h
def zz (b:oz ws hs B) (h:nI hs B p):(p.ev B c).mk B (λt=>t.2.2)=p.ev B (sE c):=
 MY b (λt ht x _ _ hx us=>by rw[sE,if_pos hx];rfl) (λx _ _ hx=>by rw[sE,if_neg hx]) h
def vN{p:Pl}(h:nI hs B p) (hc:∀x:Int,0≤x→x<8→c x=d x):p.ev B c=p.ev B d:=by
 induction h with
 | @sign b' h ps hh hp ih=>
  rw[qb,qb];congr 1;exact di λp hp=>ih p hp
 | @turn k b' h ps t e hl b0 b1 hp ih=>
  rw[pZ e,pZ e,hc b' b0 b1];congr 1;exact di λp hp=>ih p hp
end
def G4 (hL:L∈bO n h c d) (hu:us.length=L.nb):L.mt (L.aD us)=aa us:=by
 apply Zmq (P:=λL us=>L.mt (L.aD us)=aa us) hL hu<;>intros<;>simp [Tr.aD,aF,Tr.mt,nT]
def Dw (B:List Tn):Prop:=∀t∈B,∀us:List Tr,us.length=t.2.1.nb→t.2.1.mt (t.2.1.aD us)=aa us
def mI.mt (b:mI w0 w1 w2 w3 w4 w5 tt B):Dw B:=λt ht us hu=>by
 obtain⟨n,m,e⟩:=b.lf;have:t.2.1∈bO n w0 w2 w3++bO m w1 w2 w3:=by rw[←e];exact aV.mpr ⟨t,ht,rfl⟩
 obtain z |z:=bn.mp this
 ·exact G4 z hu
 ·exact G4 z hu
mutual
inductive Mv (B:List Tn):Nat→Tr→Tr→Tr→Prop
 |nn {n:Nat}{s z:ah}{ts us cs:List Tr}:nc B s=none→nc B z=none→oB B n ts us cs→Mv B (n+1) (.nd s ts) (.nd z us) (.nd s cs)
 |ns {n:Nat}{s z:ah}{ts us cs ms:List Tr}{t:Tn}:nc B s=none→nc B z=aa t→t.2.1.mt (.nd s ts)=aa ms→cs.length=t.2.1.nb→oB B n ms us cs→Mv B (n+1) (.nd s ts) (.nd z us) (t.2.2.aD cs)
 |sn {n:Nat}{s z:ah}{ts us cs ms:List Tr}{t:Tn}:nc B s=aa t→nc B z=none→t.2.1.mt (.nd z us)=aa ms→oB B n ts ms cs→Mv B (n+1) (.nd s ts) (.nd z us) (.nd s cs)
 |ss {n:Nat}{s z:ah}{ts us cs:List Tr}{t t':Tn}:nc B s=aa t'→nc B z=aa t→cs.length=t.2.1.nb→oB B n ts us cs→Mv B (n+1) (.nd s ts) (.nd z us) (t.2.2.aD cs)
inductive oB (B:List Tn):Nat→List Tr→List Tr→List Tr→Prop
 |nil {n:Nat}:oB B n [] [] []
 |cons {n:Nat}{a b c:Tr}{as bs cs:List Tr}:Mv B n a b c→oB B n as bs cs→oB B n (a::as) (b::bs) (c::cs)
end
theorem FV{B:List Tn}{n m:Nat}(f:∀{a b c:Tr},Mv B n a b c→Mv B m a b c):∀(a:List Tr) {b c:List Tr},oB B n a b c→oB B m a b c
 | [],_,_,h=>by cases h;exact .nil
 |_::a,_,_,h=>by
  cases h with
  |cons h1 h2=>exact .cons (f h1) (FV f a h2)
def Mv.monoA{n:Nat}:∀{a b c:Tr},Mv B n a b c→ ∀m,n≤m→Mv B m a b c:=by
 induction n with
 |zero=>intro a b c h;cases h
 |succ n ih=>
  intro a b c h m hm;obtain⟨m,rfl⟩:∃m',m=m'+1:=⟨m - 1,by lia⟩
  have k:∀{a b c:List Tr},oB B n a b c→oB B m a b c:=λ{a _ _}=>FV (λh=>ih h m (by lia)) a;cases h with
  |nn h1 h2 h3=>exact .nn h1 h2 (k h3)
  |ns h1 h2 h3 h4 h5=>exact .ns h1 h2 h3 h4 (k h5)
  |sn h1 h2 h3 h4=>exact .sn h1 h2 h3 (k h4)
  |ss h1 h2 h3 h4=>exact .ss h1 h2 h3 (k h4)
def oB.monoA{n:Nat}{a b c:List Tr}(h:oB B n a b c) (m:Nat) (hm:n≤m):oB B m a b c:=FV (λk=>Mv.monoA k m hm) a h
def Mv.mono (h:n≤m) (M:Mv B n a b c):Mv B m a b c:=Mv.monoA M m h
def oB.mono (h:n≤m) (M:oB B n a b c):oB B m a b c:=oB.monoA M m h
def oB.get:∀{as bs cs:List Tr}{i:Nat},oB B n as bs cs→i<cs.length→ ∃a b c,as[i]? =aa a∧bs[i]? =aa b∧cs[i]? =aa c∧Mv B n a b c:=by
 intro as
 induction as with
 |nil=>intro bs cs i h g;cases h;cases g
 |cons a as ih=>
  intro bs cs i h g;cases h with
  |cons h1 h2=>
   cases i with
   |zero=>exact⟨_,_,_,rfl,rfl,rfl,h1⟩
   |succ i=>exact ih h2 (Nat.lt_of_succ_lt_succ g)
theorem oB.of{α:Type}{f g h:α→Tr}:∀(xs:List α),(∀x∈xs,Mv B n (f x) (g x) (h x))→oB B n (xs.map f) (xs.map g) (xs.map h)
 | [],_=> .nil
 |x::xs,q=> .cons (q x aL) (oB.of xs λy hy=>q y (aI _ hy))
mutual
theorem Fx (hB:∀t∈B,p5 t.1) (h:oB B n us vs cs):∀t:Tr,t.hb ox→t.br cs.length→Mv B (n+t.depth) (t.aD us) (t.aD vs) (t.aD cs)
 | .bl k,q,f=>by
  simp only[Tr.br]at f;obtain⟨a,b,c,e1,e2,e3,m⟩:=h.get (i:=k.toNat) (by lia);simp only[Tr.aD,bv,e1,e2,e3,eI];exact m.mono (by lia)
 | .nd s ts,q,f=>by
  simp only[Tr.hb]at q;simp only[Tr.br]at f;have:=Lk hB h ts q.2 f;simp only[Tr.aD,Tr.depth];rw[show n+(1+nj ts)=n+nj ts+1 by lia]
  exact .nn (qc hB q.1) (qc hB q.1) this
theorem Lk (hB:∀t∈B,p5 t.1) (h:oB B n us vs cs):∀ts:List Tr,oC ox ts→m7 cs.length ts→oB B (n+nj ts) (aF us ts) (aF vs ts) (aF cs ts)
 | [],q,f=>by simp only[aF];exact .nil
 |t::ts,q,f=>by
  simp only[oC]at q;simp only[m7]at f;have h1:=Fx hB h t q.1 f.1;have h2:=Lk hB h ts q.2 f.2;simp only[aF,nj];exact .cons (h1.mono (by lia)) (h2.mono (by lia))
end
def pK (c d:Int→Nat):Int→Nat:=λx=>if d x=1 then 2 else c x
def AG{ws hs:List ah}{B:List Tn}{c d:Int→Nat}(b:oz ws hs B) (hm:Dw B) (hc:∀x:Int,0≤x→x<8→(c x≤1∧d x≤1)∨(c x=2∧d x=2)) {p:Pl}(h:nI hs B p):Mv B (p.dp+3*p.nt) (p.ev B c) (p.ev B d) (p.ev B (pK c d)):=by
 induction h with
 | @sign b' h ps hh hp ih=>
  rw[qb,qb,qb,Pl.dp,Pl.nt,if_pos (by decide),show 1+r8 ps+3*(0+bC ps)=r8 ps+3*bC ps+1 by lia]
  refine .nn (qc b.ti (b.sg h (b.sb h hh))) (qc b.ti (b.sg h (b.sb h hh))) (.of ps λp hp=>(ih p hp).mono ?_);have:=Co hp;have:=Fs hp;lia
 | @turn k b' h ps t e hl b0 b1 hp ih=>
  have ht:t∈B:=aJ e;have en:(Pl.nd k b' h ps).nt=1+bC ps:=by rw[Pl.nt,if_neg (by lia)]
  have M:oB B (r8 ps+3*bC ps) (ps.map (Pl.ev B c)) (ps.map (Pl.ev B d)) (ps.map (Pl.ev B (pK c d))):= .of ps λp hp=>(ih p hp).mono (by
   have:=Co hp;have:=Fs hp;lia)
  have lc:(ps.map (Pl.ev B (pK c d))).length=t.2.1.nb:=by rw[ay,hl]
  have l1:(ps.map (Pl.ev B c)).length=t.2.1.nb:=by rw[ay,hl]
  have l2:(ps.map (Pl.ev B d)).length=t.2.1.nb:=by rw[ay,hl]
  have tt:=rg b.nd ht;have L:=b.lf t ht;have R:=b.ri t ht;have hd:=L.dp;rw[pZ e,pZ e,pZ e,Pl.dp,en,show 1+r8 ps+3*(1+bC ps)=r8 ps+3*bC ps+3+1 by lia]
  have lsign:∀us,∃s ts,t.2.1.aD us= .nd s ts∧nc B s=none:=λus=>by
   obtain⟨s,ts,el⟩:=L.nd;have hb:=L.hb;rw[el,Tr.hb]at hb;exact⟨s,aF us ts,by rw[el,Tr.aD],qc b.ti hb.1⟩
  have hp:pK c d b'=if d b'=1 then 2 else c b':=rfl;rw[hp];obtain ⟨c1,d1⟩ |⟨c2,d2⟩:=hc b' b0 b1
  ·by_cases dz:d b'=1
   ·rw[if_pos dz,dz];by_cases cz:c b'=1
    ·rw[cz];exact .ss tt tt lc (M.mono (by lia))
    ·rw[show c b'=0 by lia]
     obtain⟨s,ts,es,hs⟩:=lsign (ps.map (Pl.ev B c));have:=hm t ht _ l1;simp only[q_];rw[es]at this⊢;exact .ns hs tt this lc (M.mono (by lia))
   ·rw[if_neg dz,show d b'=0 by lia]
    by_cases cz:c b'=1
    ·rw[cz];obtain⟨s,ts,es,hs⟩:=lsign (ps.map (Pl.ev B d));have:=hm t ht _ l2;simp only[q_];rw[es]at this⊢;exact .sn tt hs this (M.mono (by lia))
    ·rw[show c b'=0 by lia]
     simp only[q_];exact(Fx b.ti M _ L.hb (by rw[lc];exact L.br)).mono (by lia)
  ·rw[d2,if_neg (by decide),c2];simp only[q_];have:=R.dp;exact(Fx b.ti M _ (R.hb b.sg) (by rw[lc];exact R.br)).mono (by lia)
theorem KG{P:ah→Prop}(hu:u.hd P):∀{ts:List Tr}(i:Nat),hds P ts→hds P (ts.set i u)
 | [],_,h=>by simpa using h
 |t::ts,0,h=>by
  simp only[hds,kH]at h⊢;exact⟨hu,h.2⟩
 |t::ts,i+1,h=>by
  simp only[hds,kE]at h⊢;exact⟨h.1,KG hu i h.2⟩
theorem NQ{P:ah→Prop}:∀{ts us:List Tr},hds P ts→hds P us→hds P (ts++us)
 | [],us,_,h=>h
 |t::ts,us,h,g=>by
  simp only[hds,cg]at h⊢;exact⟨h.1,NQ h.2 g⟩
mutual
inductive p6 (S:lF):Pl→W→Prop
 |nd {k b:Int}{h:ah}{ps:List Pl}{a:ai}{vs:List W}:S a=aa (.bP vs)→mU S ps vs→p6 S (.nd k b h ps) (.bW [.int k, .int b, .str h, .ref a])
inductive mU (S:lF):List Pl→List W→Prop
 |nil:mU S [] []
 |cons {p:Pl}{v:W}{ps:List Pl}{vs:List W}:p6 S p v→mU S ps vs→mU S (p::ps) (v::vs)
end
mutual
theorem p6.sub (h:Sub S S'):∀{p:Pl}{v:W},p6 S p v→p6 S' p v
 |_,_, .nd e q=> .nd (h _ _ e) (mU.sub h q)
theorem mU.sub (h:Sub S S'):∀{ps:List Pl}{vs:List W},mU S ps vs→mU S' ps vs
 |_,_, .nil=> .nil
 |_,_, .cons a b=> .cons (p6.sub h a) (mU.sub h b)
end
theorem mU.len:∀{ps:List Pl}{vs:List W},mU S ps vs→ps.length=vs.length
 |_,_, .nil=>rfl
 |_,_, .cons _ h=>congrArg (· +1) (mU.len h)
theorem mU.app:∀{ps qs:List Pl}{vs us:List W},mU S ps vs→mU S qs us→mU S (ps++qs) (vs++us)
 |_,_,_,_, .nil,h=>h
 |_,_,_,_, .cons a b,h=> .cons a (mU.app b h)
theorem mU.take:∀(n:Nat) {ps:List Pl}{vs:List W},mU S ps vs→mU S (ps.take n) (vs.take n)
 |0,_,_,_=> .nil
 |_+1,_,_, .nil=> .nil
 |n+1,_,_, .cons a b=> .cons a (mU.take n b)
theorem mU.drop:∀(n:Nat) {ps:List Pl}{vs:List W},mU S ps vs→mU S (ps.drop n) (vs.drop n)
 |0,_,_,h=>h
 |_+1,_,_, .nil=> .nil
 |n+1,_,_, .cons _ b=>mU.drop n b
theorem mU.rep (h:p6 S p v):∀n:Nat,mU S (bj n p) (bj n [v]).flatten
 |0=> .nil
 |n+1=>by
  rw[cO,cO,d6];exact .cons h (mU.rep h n)
noncomputable def tY (w:ah):Pl:= .nd (-1) 0 w []
noncomputable def qf (need:Nat) (w:ah) (ps:List Pl):List Pl:=bj (need - ps.length) (tY w)++ps
noncomputable def push (need:Nat) (w:ah) (k b:Int) (h:ah) (ps:List Pl):List Pl:=
 (qf need w ps).take ((qf need w ps).length - need)++[.nd k b h ((qf need w ps).drop ((qf need w ps).length - need))]
theorem J3 (w:ah):∀n:Nat,bH (bj n (tY w))=n
 |0=>by simp [bH]
 |n+1=>by rw[cO,bH,J3 w n];simp [tY,Pl.wt,bH];lia
theorem Lg (w:ah):∀n:Nat,bC (bj n (tY w))=0
 |0=>by simp [bC]
 |n+1=>by rw[cO,bC,Lg w n];simp [tY,Pl.nt,bC]
theorem BL:∀ps:List Pl,ps.length≤bH ps
 | []=>by simp
 |p::ps=>by have:=BL ps;have:=X5 p;simp [bH];lia
def Bz (need:Nat) (w:ah) (ps:List Pl):(qf need w ps).length=need - ps.length+ps.length:=by simp [qf]
def V5:bH (push need w k b h ps)=need - ps.length+bH ps+1∧bC (push need w k b h ps)=bC ps+(if k<0 then 0 else 1)∧(push need w k b h ps).length=need - ps.length+ps.length - need+1:=by
 have hl:=Bz need w ps;have h1:bH (qf need w ps)=need - ps.length+bH ps:=by rw[qf,xw,J3]
 have h2:bC (qf need w ps)=bC ps:=by rw[qf,vJ,Lg];lia
 have h3:=xw ((qf need w ps).take ((qf need w ps).length - need)) ((qf need w ps).drop ((qf need w ps).length - need));have h4:=vJ ((qf need w ps).take ((qf need w ps).length - need)) ((qf need w ps).drop ((qf need w ps).length - need));rw[gU]at h3 h4;unfold push;refine⟨?_,?_,?_⟩
 ·rw[xw,bH,bH,Pl.wt];lia
 ·rw[vJ,bC,bC,Pl.nt];lia
 ·rw[a_,c9,cA,hl];lia
def T0 (ps:List Pl):((qf need w ps).drop ((qf need w ps).length - need)).length=need:=by
 have hl:=Bz need w ps;rw[cS,hl];lia
def HZ (hw:w∈ws) (h:∀p∈ps,nI ws B p):∀p∈qf need w ps,nI ws B p:=λp hp=>by
 obtain z |z:=bn.mp hp
 ·rw[(List.mem_replicate.mp z).2];exact .sign hw λq hq=>by cases hq
 ·exact h p z
def ZY (hw:w∈ws) (hp:∀p∈ps,nI ws B p) (hn:∀qs:List Pl,qs.length=need→(∀q∈qs,nI ws B q)→nI ws B (.nd k b h qs)):∀p∈push need w k b h ps,nI ws B p:=λp hq=>by
 obtain z |z:=bn.mp hq
 ·exact HZ hw hp p (jG z)
 ·rw[bi.mp z];exact hn _ (T0 ps) λq hq=>HZ hw hp q (jR hq)
def BT:WS:=(nH (rH (nD (my uc (iN 3) (wC (.int 0)))) (nD (my vj (iN 5) (wC (.int 5))))) (mD (mz (my (rz λi j=> .int (i - j)) (iN 3) (wC (.int 1))) (mB 3))
  (mD (mz (nA (xn (xA (nL (iR (m9 (iR (qY (wC (.int 1))) (iR (wC (.int 0)) (iR (my mH (iN 2) (wC (.int 2))) (iR (nA (nL ae)) ae))))) ae)) (my (rz λi j=> .int (i - j)) (iN 8) (wB oR (iR (iN 4) ae)))) (iN 4))) (mB 4))
  (mD (mz (my (rz λi j=> .int (i - j)) (wB oR (iR (iN 4) ae)) (iN 8)) (mB 11))
  (mz (nA (t_ (vt (iN 4) oA (ow (iN 11))) (nL (iR (my ou (iN 9) (m9 (iR (oE (iN 4) (ow (iN 11)) oA) ae))) ae)))) (mB 4))))) nF)
theorem ZA:HR r mK=(mD (mz (my (oH (λ_ j=>0<j) λi j=> .int (i % j)) (iN 6) (wC (.int 8))) (mB 7))
  (mD (mz (t7 (nL (iR (wC (.int 0)) (iR (wC (.int 0)) (iR (wC (.int 1)) (iR (wC (.int 2)) ae))))) (wB uI (iR (iN 7) (iR (wC (.int 3)) ae)))) (mB 8))
  (mD (mz (m9 (iR (qY (wC (.int 1))) (iR (wC (.int 0)) (iR (my mH (iN 2) (t7 (nL (iR (wC (.int 2)) (iR (wC (.int 5)) (iR (wC (.int 3)) (iR (wC (.int 4)) ae))))) (wB uI (iR (iN 7) (iR (wC (.int 3)) ae))))) ae)))) (mB 9))
  (mD (nH (nD (my uc (iN 7) (wC (.int 3)))) (mD (mz (my (oH (λ_ j=>0<j) λi j=> .int (i % j)) (my (oH sM λi j=> .int (i / j)) (iN 6) (wC (.int 8))) (wB oR (iR (iN 1) ae))) (mB 10))
  (mD (mz (mJ (uX r) (iR (my mH (my mH (iN 1) (iN 10)) (wC (.int 1))) ae)) (mB 8))
  (mD (mz (m9 (iR (iN 10) (iR (my (oH (λ_ j=>0<j) λi j=> .int (i % j)) (my (oH sM λi j=> .int (i / j)) (iN 6) (wC (.int 64))) (wC (.int 8))) (iR (wC (.str "")) ae)))) (mB 9))
  (mz (my ou (iN 5) (wC (.int 1))) (mB 5))))) nF)
  BT)))):=rfl
def Pv{w0 w1 w2 w3 w4 w5:ah}{S:lF}{aw st:ai}{E:WX}{D:m4}{need:Nat}{k b room spent:Int}{h:ah}{ps:List Pl}{vs:List W}{x0 x1 x6 x7 x10 x11:Option W}(hw:S aw=aa (.bP (qu w0 w1 w2 w3 w4 w5))) (hst:S st=aa (.bP vs)) (hp:mU S ps vs) (hn:need≤3) (hl:ps.length≤100)
  (h1:D.nx [x0,x1,aa (.ref aw),aa (.int room),aa (.ref st),aa (.int spent),x6,x7,aa (.int need),aa (.bW [.int k, .int b, .str h]),x10,x11] S)
  (h2:0<room→spent<5→ ∀(st':ai) (S':lF) (vs':List W) (x11:Option W),Sub S S'→S' st'=aa (.bP vs')→mU S' (push need w2 k b h ps) vs'→D.nx [x0,x1,aa (.ref aw),aa (.int (room - 1)),aa (.ref st'),aa (.int spent),x6,x7,aa (.int need),aa (.bW [.int k, .int b, .str h]),x10,x11] S') :
  BT E D [x0,x1,aa (.ref aw),aa (.int room),aa (.ref st),aa (.int spent),x6,x7,aa (.int need),aa (.bW [.int k, .int b, .str h]),x10,x11] S:=by
 unfold BT;ext;split
 ·rename_i c1;split
  ·rename_i c2;simp only[ni hw,pR];have f1:=λ(a:ai) (ha:S a=none)=>keep (x:=Ob.bP []) hst ha;refine⟨aQ _,λa ha=>⟨m_ (by decide),m_ (by decide),?_⟩⟩;rw[ni (f1 a ha),ni (f1 a ha)];have hlen:=hp.len;have en:((need:Int) - (vs.length:Int)).toNat=need - ps.length:=by lia
   rw[en];have pa:p6 (bQ S a (Ob.bP [])) (tY w2) (.bW [.int (-1), .int 0, .str w2, .ref a]):= .nd mV .nil;have pp:mU (bQ S a (Ob.bP [])) (qf need w2 ps) ((bj (need - ps.length) [W.bW [.int (-1), .int 0, .str w2, .ref a]]).flatten++vs):=(mU.rep pa _).app (hp.sub (.bQ .refl ha));have pl:=pp.len;have sub1:Sub S (bQ S a (Ob.bP [])):= .bQ .refl ha;have hfl:((bj (need - ps.length) [W.bW [.int (-1), .int 0, .str w2, .ref a]]).flatten).length≤3:=by
    rw[a_,Bz]at pl;lia
   have e0:(1*(need - ps.length))≤sizeLine:=m_ (by lia);refine⟨⟨by lia,by lia,e0⟩,m_ (by lia),?_⟩
   generalize (bj (need - ps.length) [W.bW [.int (-1), .int 0, .str w2, .ref a]]).flatten++vs=ys at pp pl⊢;generalize bQ S a (Ob.bP [])=S1 at pp sub1⊢;intro b2 hb2;have sub2:Sub S1 (bQ S1 b2 (.bP ys)):= .bQ .refl hb2;generalize bQ S1 b2 (Ob.bP ys)=S2 at sub2⊢;have hpl:=Bz need w2 ps;have ea:((ys.length:Nat):Int) - (need:Int)=((ys.length - need:Nat):Int):=by lia
   rw[ea,BD,AQ];intro p hp3;have sub3:Sub S2 (bQ S2 p (.bP (ys.drop (ys.length - need)))):= .bQ .refl hp3;have fp:bQ S2 p (Ob.bP (ys.drop (ys.length - need))) p=aa (.bP (ys.drop (ys.length - need))):=mV;generalize bQ S2 p (Ob.bP (ys.drop (ys.length - need)))=S3 at sub3 fp⊢;refine⟨m_ (by decide),m_ (by decide),m_ (by decide),m_ (by rw[c9];lia),λq hq=>?_⟩;have sub4:Sub S3 (bQ S3 q (.bP (ys.take (ys.length - need)++[.bW [.int k, .int b, .str h, .ref p]]))):= .bQ .refl hq;refine h2 c1 c2 q _ _ _ (((sub1.trans sub2).trans sub3).trans sub4) mV ?_;unfold push;have pp3:=pp.sub ((sub2.trans sub3).trans sub4);rw[←pl]at *;exact(pp3.take _).app (.cons (.nd (sub4 _ _ fp) (pp3.drop _)) .nil)
  ·exact h1
 ·exact h1
def PF (n:Int) (h0:0≤n) (h1:n<8):∃m:Nat,m≤2∧nE [W.int 0,W.int 0,W.int 1,W.int 2] (if 3<n then 3 else n)=aa (.int (m:Int)):=by
 rcases(show n=0∨n=1∨n=2∨(3≤n) by lia) with rfl |rfl |rfl |h
 ·exact⟨0,by decide,rfl⟩
 ·exact⟨0,by decide,rfl⟩
 ·exact⟨1,by decide,rfl⟩
 ·have:(if 3<n then 3 else n)=3:=by split<;>lia
  rw[this];exact⟨2,by decide,rfl⟩
def WM (n:Int) (h0:0≤n) (h1:n<8):∃(i:Int) (x:ah),x∈ [w2,w3,w4,w5]∧nE [W.int 2,W.int 5,W.int 3,W.int 4] (if 3<n then 3 else n)=aa (.int i)∧nE (qu w0 w1 w2 w3 w4 w5) i=aa (.str x):=by
 rcases(show n=0∨n=1∨n=2∨(3≤n) by lia) with rfl |rfl |rfl |h
 ·exact⟨2,w2,by simp,rfl,rfl⟩
 ·exact⟨5,w5,by simp,rfl,rfl⟩
 ·exact⟨3,w3,by simp,rfl,rfl⟩
 ·have:(if 3<n then 3 else n)=3:=by split<;>lia
  rw[this];exact⟨4,w4,by simp,rfl,rfl⟩
inductive Ke (S:lF) (ac ab aw:ai) (hs:List ah) (B:List Tn) (m:Nat) (ws:List W) (σ:mW) (S':lF):Prop
 |mk (ns:List Int) (ps:List Pl) (vs:List W) (st:ai) (room spent:Int) (x6 x7 x8 x9 x10 x11:Option W):ws=ns.map W.int→Sub S S'→S' st=aa (.bP vs)→mU S' ps vs→(∀p∈ps,nI hs B p)→0≤room→room≤m→(bC ps:Int)≤spent→bC ps≤4→(bH ps:Int)+ps.length≤2*(m - room)+bC ps+2→
  σ=[aa (.ref ac),aa (.ref ab),aa (.ref aw),aa (.int room),aa (.ref st),aa (.int spent),x6,x7,x8,x9,x10,x11]→Ke S ac ab aw hs B m ws σ S'
inductive Lp (S:lF) (hs:List ah) (B:List Tn) (m:Nat) (f:ai→mW) (mm:Nat) (σ:mW) (S2:lF):Prop
 |mk (ps:List Pl) (vs:List W) (st:ai):mm=ps.length→Sub S S2→S2 st=aa (.bP vs)→mU S2 ps vs→(∀p∈ps,nI hs B p)→bC ps≤4→bH ps+ps.length≤2*m+bC ps+2→σ=f st→Lp S hs B m f mm σ S2
def QJ{m:Nat}(hm9:m≤9) {Q:WK}{X:ah→lF→Prop}{ac ab:ai}{cells:List Int}{B:List Tn}(hc:S ac=aa (.bP (cells.map W.int))) (hb:S ab=aa (.bP (B.map mQ))) (hw:S aw=aa (.bP (qu w0 w1 w2 w3 w4 w5))) (bk:oz [w0,w1,w2,w3,w4,w5] [w2,w3,w4,w5] B) (hB:B≠ [])
  (h:∀(p:Pl) (v:W) (S':lF),Sub S S'→p6 S' p v→nI [w2,w3,w4,w5] B p→p.wt≤2*m+1+p.nt→p.nt≤4→Q v S'):Cs (r+10) [.ref ac, .ref ab, .ref aw, .int m] S Q X:=by
 rw[show r+10=r+9+1 from rfl,Cs];ext;refine⟨aQ _,λst0 hst0=>?_⟩;rw[ni (keep hc hst0)];refine E4 (Ke S ac ab aw [w2,w3,w4,w5] B m) ?_ ?_ _ _ _ ⟨cells,[],[],st0,m,0,none,none,none,none,none,none,rfl, .bQ .refl hst0,mV, .nil,(λ_ h=>nomatch h),by lia,by lia,by simp [bC],by simp [bC],by simp [bC,bH],rfl⟩
 ·rintro w ws σ S' N ⟨ns,ps,vs,st,room,spent,x6,x7,x8,x9,x10,x11,ew,sub,hst,hp,ok,r0,r1,p0,p1,p2,rfl⟩ hN;cases ns with
  |nil=>cases ew
  |cons n ns=>
  cases ew;have fw:=sub _ _ hw;have fb:=sub _ _ hb;have fc:=sub _ _ hc;have m0:0≤n % 8:=cY _ (by decide);have m1:n % 8<8:=dh _ (by decide);have hpl:=BL ps;obtain⟨need,hneed,en⟩:=PF (n % 8) m0 m1;obtain⟨i,hd,hhd,e1,e2⟩:=WM (w0:=w0) (w1:=w1) (w2:=w2) (w3:=w3) (w4:=w4) (w5:=w5) (n % 8) m0 m1;have go:∀(need:Nat) (k b:Int) (hh:ah) (sp:Int) (x10:Option W),need≤3→(∀qs:List Pl,qs.length=need→(∀q∈qs,nI [w2,w3,w4,w5] B q)→nI [w2,w3,w4,w5] B (.nd k b hh qs))→(k<0∧need≤2∧sp=spent∨ ¬k<0∧sp=spent+1)→
    ∀(E:WX) (D:m4),D.nx=N→BT E D [aa (.ref ac),aa (.ref ab),aa (.ref aw),aa (.int room),aa (.ref st),aa (.int sp),aa (.int n),aa (.int (n % 8)),aa (.int need),aa (.bW [.int k, .int b, .str hh]),x10,x11] S':=λneed k b hh sp x10 hn cD hk E D hD=>by
   subst hD;refine Pv fw hst hp hn (by lia) ?_ λc1 c2 st' S2 vs' x11 sub2 hst2 hp2=>?_
   ·refine hN _ _ S' .refl fc ⟨ns,ps,vs,st,room,sp,_,_,_,_,_,_,rfl,sub,hst,hp,ok,r0,r1,by lia,p1,p2,rfl⟩
   ·obtain⟨s1,s2,s3⟩:=V5 (need:=need) (w:=w2) (k:=k) (b:=b) (h:=hh) (ps:=ps);have hz:ps.length=0→bH ps=0∧bC ps=0:=λz=>by
     cases ps with
     |nil=>exact⟨rfl,rfl⟩
     |cons _ _=>simp at z
    have fin:(bC (push need w2 k b hh ps):Int)≤sp→bC (push need w2 k b hh ps)≤4→(bH (push need w2 k b hh ps):Int)+(push need w2 k b hh ps).length≤2*(m - (room - 1))+bC (push need w2 k b hh ps)+2→D.nx [aa (.ref ac),aa (.ref ab),aa (.ref aw),aa (.int (room - 1)),aa (.ref st'),aa (.int sp),aa (.int n),aa (.int (n % 8)),aa (.int need),aa (.bW [.int k, .int b, .str hh]),x10,x11] S2:=λf1 f2 f3=>
     hN _ _ S2 .refl (sub2 _ _ fc) ⟨ns,_,vs',st',room - 1,sp,_,_,_,_,_,_,rfl,sub.trans sub2,hst2,hp2,ZY (by simp) ok cD,by lia,by lia,f1,f2,f3,rfl⟩
    obtain ⟨kn,n2,es⟩ |⟨kp,es⟩:=hk
    ·rw[if_pos kn]at s2;refine fin (by lia) (by lia) ?_;obtain z |z:=gj ps.length
     ·have:=hz z;lia
     ·lia
    ·rw[if_neg kp]at s2;refine fin (by lia) (by lia) ?_;obtain z |z:=gj ps.length
     ·have:=hz z;lia
     ·lia
  rw[ZA];ext;simp only[en,e1];ext;simp only[ni fw,e2];refine⟨by decide,m_ (by decide),m_ (by decide),m_ (by decide),?_⟩;split
  ·have hbl:(B.map mQ)≠ []:=by simpa using hB
   obtain⟨j,x,ej,ex⟩:=YW (n / 8) hbl;have hlt:0<(B.map mQ).length:=kz.mpr hbl;have ek:n / 8 % ((B.map mQ).length:Int)=(((n / 8 % ((B.map mQ).length:Int)).toNat:Nat):Int):=by
    have:=cY (n / 8) (show((B.map mQ).length:Int)≠0 by lia)
    lia
   have ek2:=rS (xs:=B.map mQ) (n:=(n / 8 % ((B.map mQ).length:Int)).toNat);rw[←ek,ex,aT]at ek2;cases et:B[(n / 8 % ((B.map mQ).length:Int)).toNat]? with
   |none=>rw[et]at ek2;cases ek2
   |some t=>
    rw[et]at ek2;have ext:x= .bW [.str t.1,lA t.2.1,lA t.2.2]:=by cases ek2;rfl
    have ht:t∈B:=aJ et;have LT:=bk.lf t ht;have hLd:=LT.dp;have hLw:=LT.wt;have hLn:=LT.nb;simp only[ni fb,ex,ext];ext;rw[show nE [W.str t.1,lA t.2.1,lA t.2.2] 1=aa (lA t.2.1) from rfl];refine⟨⟨by decide,by decide⟩,by lia,?_⟩
    refine FK 4 hLd (by lia) (by lia) ⟨⟨by decide,by decide⟩,by decide,m_ (by decide),?_⟩
    have b0:0≤n / 64 % 8:=cY _ (by decide);have b1:n / 64 % 8<8:=dh _ (by decide);refine go t.2.1.nb _ _ _ _ _ hLn (λqs hq hqs=>?_) (.inr ⟨by lia,rfl⟩) _ _ rfl;rw[ek];exact .turn et hq b0 b1 hqs
  ·exact go need (-1) 0 hd spent _ (by lia) (λqs hq hqs=> .sign hhd hqs) (.inl ⟨by decide,hneed,rfl⟩) _ _ rfl
 ·rintro σ S' ⟨ns,ps,vs,st,room,spent,x6,x7,x8,x9,x10,x11,ew,sub,hst,hp,ok,r0,r1,p0,p1,p2,rfl⟩;have hpl:=BL ps;refine⟨Lp S [w2,w3,w4,w5] B m (λst=>[aa (.ref ac),aa (.ref ab),aa (.ref aw),aa (.int room),aa (.ref st),aa (.int spent),x6,x7,x8,x9,x10,x11]),⟨_,ps,vs,st,rfl,sub,hst,hp,ok,p1,by lia,rfl⟩,?_⟩
  rintro mm σ S2 ⟨ps,vs,st,rfl,sub,hst,hp,ok,p1,p2,rfl⟩;have hlen:=hp.len;have fw:=sub _ _ hw;ext;rw[ni hst];split
  ·rename_i hgt;simp only[Ma];ext;simp only[ni hst,ni fw,p_];have c1:o7 vs none (aa (-2))=vs.take (vs.length - 2):=P6 2 (by decide);have c2:o7 vs (aa (-2)) none=vs.drop (vs.length - 2):=XI 2 (by decide);rw[c1,c2];intro p hp3;have sub3:Sub S2 (bQ S2 p (.bP (vs.drop (vs.length - 2)))):= .bQ .refl hp3;have fp:bQ S2 p (Ob.bP (vs.drop (vs.length - 2))) p=aa (.bP (vs.drop (vs.length - 2))):=mV;generalize bQ S2 p (Ob.bP (vs.drop (vs.length - 2)))=S3 at sub3 fp⊢;refine⟨m_ (by decide),m_ (by decide),m_ (by rw[c9];lia),λq hq=>?_⟩;have sub4:Sub S3 (bQ S3 q (.bP (vs.take (vs.length - 2)++[.bW [.int (-1), .int 0, .str w4, .ref p]]))):= .bQ .refl hq;have hp4:=hp.sub (sub3.trans sub4);have hw3:=xw (ps.take (vs.length - 2)) (ps.drop (vs.length - 2));have hn3:=vJ (ps.take (vs.length - 2)) (ps.drop (vs.length - 2));rw[gU]at hw3 hn3;refine⟨_,_,?_, .refl,ps.take (vs.length - 2)++[.nd (-1) 0 w4 (ps.drop (vs.length - 2))],_,q,rfl,(sub.trans sub3).trans sub4,mV,(hp4.take _).app (.cons (.nd (sub4 _ _ fp) (hp4.drop _)) .nil),λx hx=>?_,?_,?_,rfl⟩
   ·rw[a_,c9,cA];lia
   ·obtain z |z:=bn.mp hx
    ·exact ok x (jG z)
    ·rw[bi.mp z];exact .sign (by simp) λy hy=>ok y (jR hy)
   ·rw[vJ,bC,bC,Pl.nt,if_pos (by decide)];lia
   ·rw[xw,bH,bH,Pl.wt,a_,c9,cA,vJ,bC,bC,Pl.nt,if_pos (by decide)];lia
  ·rename_i hle
   try ext
   simp only[ni fw,p8];refine⟨aQ _,λa ha=>⟨m_ (by decide),m_ (by decide),?_⟩⟩;rw[ni (keep hst ha)];refine⟨m_ (by lia),?_⟩;cases hp with
   |nil=>
    exact⟨_, .refl,h (tY w5) _ _ (sub.trans (.bQ .refl ha)) (.nd mV .nil) (.sign (by simp) λ_ z=>nomatch z) (by simp [tY,Pl.wt,bH];lia) (by simp [tY,Pl.nt,bC])⟩
   | @cons p v ps vs h1 h2=>
    rw[cg,B2];have e0:ps=[]:=by
     cases ps with
     |nil=>rfl
     |cons q qs=>
      have:=h2.len;simp only[aU]at this hle;lia
    subst e0;simp only[bH,bC,aU,db]at p1 p2;exact⟨_, .refl,h p v _ (sub.trans (.bQ .refl ha)) (h1.sub (.bQ .refl ha)) (ok p aL) (by lia) (by lia)⟩
section
variable {r:Nat}{S:lF}{Q:WK}{E:ah→lF→Prop}{a:ai}{B:List Tn}
def WC (hx:x.length≤1000) (h:Q (.bl (vZ x)) S):Cp (r+2) [.str x] S Q E:=by
 have hxl:=vE x;rw[Cp];ext;unfold vZ at h;rw[←hxl]at h;cases e1:decide (1≤x.length) with
 |false=>
  rw[e1]at h;have:¬1≤x.length:=by simpa using e1
  have e1':decide ((1:Int)≤(x.length:Int))=false:=by simp;lia
  rw[e1'];ext;exact⟨m_ (by lia),_, .refl,h⟩
 |true=>
  rw[e1]at h;have h1:1≤x.length:=by simpa using e1
  have e1':decide ((1:Int)≤(x.length:Int))=true:=by simp;lia
  rw[e1'];refine⟨m_ (by lia),?_⟩;ext;cases e2:decide (x.length≤8) with
  |false=>
   rw[e2]at h;have:¬x.length≤8:=by simpa using e2
   have e2':decide ((x.length:Int)≤8)=false:=by simp;lia
   rw[e2'];exact⟨_, .refl,h⟩
  |true=>
   rw[e2]at h;have h2:x.length≤8:=by simpa using e2
   have e2':decide ((x.length:Int)≤8)=true:=by simp;lia
   rw[e2'];ext;exact YA (by lia) ⟨_, .refl,h⟩
noncomputable def oI:Option Tn→W
 |some t=>mQ t
 |none=> .ci
def MP (B:List Tn) (s:ah):B.findSome? (λt=>if t.1 == s then aa (mQ t) else none)=(nc B s).map mQ:=by
 unfold nc
 induction B with
 |nil=>rfl
 |cons t B ih=>
  rw[d7,cc];cases e:t.1 == s with
  |true=>rfl
  |false=>simpa using ih
def wO (ha:S a=aa (.bP (B.map mQ))) (h:Q (oI (nc B s)) S):tK (r+1) [.ref a, .str s] S Q E:=by
 rw[tK];ext;rw[ni ha];refine vR (S:=S) ?_ (λσ=>∃x,σ=[aa (.ref a),aa (.str s),x]) mQ (λt=>if t.1 == s then aa (mQ t) else none) B _ ⟨_,rfl⟩ (λt ht σ N hI hno hret=>?_) (λe σ hI=>?_) λw e S' sb=>?_
 ·exact ha
 ·obtain⟨x,rfl⟩:=hI;simp only[NF];have ee:mQ t= .bW [.str t.1,lA t.2.1,lA t.2.2]:=rfl;rw[ee];ext;cases e:t.1 == s with
  |true=>
   rw[e]at hret;exact hret _ rfl _ .refl
  |false=>
   rw[e]at hno;exact hno rfl _ _ ⟨_,rfl⟩ .refl
 ·obtain⟨x,rfl⟩:=hI;ext;rw[MP]at e;have:nc B s=none:=by
   cases q:nc B s with
   |none=>rfl
   |some t=>rw[q]at e;cases e
  rw[this]at h;exact⟨_, .refl,h⟩
 ·rw[MP]at e;cases q:nc B s with
  |none=>rw[q]at e;cases e
  |some t=>
   rw[q]at e h;cases e;exact⟨_,sb,h⟩
def Zp (ts:List Tr):sG (ts.map λt=>W.bl t.dO)=aa (ts.map Tr.dO):=by
 have:=N3 (ts.map Tr.dO);rw[bu]at this;exact this
theorem NS:∀(d:Nat) {t:Tr}{r:Nat}{Q:WK}{E:ah→lF→Prop},t.depth≤d→d+5≤r→t.hd (λs=>s.length≤1000)→t.aq≤90000→Q (.bl t.dO) S→yG (r+1) [lA t] S Q E
 |0,t,r,Q,E,hd,hr,hh,hw,h=>by have:=qD t;lia
 |d+1, .bl n,r,Q,E,hd,hr,hh,hw,h=>by simp [Tr.hd]at hh
 |d+1, .nd s ts,r,Q,E,hd,hr,hh,hw,h=>by
  simp only[Tr.depth]at hd;simp only[Tr.aq]at hw;simp only[Tr.hd]at hh;have hk:=qI ts;obtain⟨r,rfl⟩:∃r',r=r'+2:=⟨r - 2,by lia⟩
  rw[yG];simp only[lA];ext;refine WC hh.1 ?_;rw[Tr.dO]at h;cases e:vZ s with
  |false=>
   rw[e]at h;ext;exact⟨_, .refl,h⟩
  |true=>
   rw[e]at h;ext;rw[o6];refine qe (λσ=>∃x,σ=[x]) lA (λt=> .bl t.dO) trivial ts [] _ ⟨none,rfl⟩ (by simp;lia) (λx hx σ R hI hR=>?_) ?_
   ·obtain⟨y,rfl⟩:=hI;have hdx:=p7 hx;have hwx:=pk hx;have:=qD x;simp only[Jy];ext;exact NS d (t:=x) (r:=r+1) (by lia) (by lia) (m3.mp hh.2 x hx) (by lia) (hR _ _ ⟨_,rfl⟩ .refl)
   ·rw[aX,Zp];dsimp only;rw[Ld]at h;rw[Iy];exact⟨S, .refl,h⟩
end
def nK (f:Int):Int→Nat:=λb=>if b / f % 2=1 then 1 else 0
theorem mU.zip:∀{ps:List Pl}{vs:List W},mU S ps vs→ ∀x∈ps.zip vs,p6 S x.1 x.2∧x.1∈ps
 |_,_, .nil,x,h=>by simp at h
 |_,_, .cons a b,x,h=>by
  rw[hZ]at h;obtain rfl |h:=az.mp h
  ·exact⟨a,aL⟩
  ·have:=mU.zip b x h;exact⟨this.1,aI _ this.2⟩
def mU.snd (h:mU S ps vs):(ps.zip vs).map iw=vs:=List.map_snd_zip (by rw[h.len];exact aA _)
def mU.fst (h:mU S ps vs) {α:Type}(f:Pl→α):(ps.zip vs).map (λx=>f x.1)=ps.map f:=by
 have:(ps.zip vs).map Prod.fst=ps:=List.map_fst_zip (by rw[h.len];exact aA _)
 conv=>rhs;rw[←this,bu]
 rfl
theorem Jx (hf:f=1∨f=2∨f=4∨f=8) (ha:S a=aa (.bP (B.map mQ))) (b:oz ws hs B):∀(d:Nat) {p:Pl}{v:W}{r:Nat}{Q:WK}{E:ah→lF→Prop},p.dp≤d→d+8≤r→p6 S p v→nI hs B p→p.wt≤1000→Q (lA (p.ev B (nK f))) S→zG (r+1) [v, .ref a, .int f] S Q E
 |0,p,v,r,Q,E,hd,hr,hp,ok,hw,h=>by have:=Zd p;lia
 |d+1, .nd k b' hh ps,v,r,Q,E,hd,hr,hp,ok,hw,h=>by
  cases hp with
  | @nd _ _ _ _ c vs hc hps=>
  simp only[Pl.dp]at hd;simp only[Pl.wt]at hw;have hlen:=BL ps;obtain⟨r,rfl⟩:∃r',r=r'+1:=⟨r - 1,by lia⟩
  rw[zG];ext;rw[ni hc];rw[←hps.snd];have okp:∀x∈ps,nI hs B x:=by
   cases ok with
   |sign _ h=>exact h
   |turn _ _ _ _ h=>exact h
  refine qe (λσ=>∃x,σ=[x,aa (.ref a),aa (.int f)]) iw (λx=>lA (x.1.ev B (nK f))) ?_ (ps.zip vs) [] _ ⟨none,rfl⟩ (by simp;lia) (λx hx σ R hI hR=>?_) ?_
  ·rw[hps.snd];exact hc
  ·obtain⟨y,rfl⟩:=hI;obtain⟨h1,h2⟩:=hps.zip x hx;have:=Co h2;have:=Iz h2;simp only[Mw];ext;exact Jx hf ha b d (by lia) (by lia) h1 (okp _ h2) (by lia) (hR _ _ ⟨_,rfl⟩ .refl)
  ·rw[aX,hps.fst λp=>lA (p.ev B (nK f))];intro q hq;have eu:(ps.map λp=>lA (p.ev B (nK f)))=af (ps.map (Pl.ev B (nK f))):=by rw[o6,bu];rfl
   rw[eu];have fq:bQ S q (Ob.bP (af (ps.map (Pl.ev B (nK f))))) q=aa (.bP (af (ps.map (Pl.ev B (nK f))))):=mV;have fa:=keep (x:=Ob.bP (af (ps.map (Pl.ev B (nK f))))) ha hq;have sub:Sub S (bQ S q (Ob.bP (af (ps.map (Pl.ev B (nK f)))))):= .bQ .refl hq;generalize bQ S q (Ob.bP (af (ps.map (Pl.ev B (nK f)))))=S1 at fq fa sub⊢
   try ext
   cases ok with
   |sign hs' _=>
    rw[if_pos (by decide)]
    try rw[ni fq]
    rw[qb]at h;rw[pP,ay];simp only[lA]at h;exact⟨m_ (by decide),m_ (by lia),_,sub,h⟩
   | @turn k _ _ _ t e hl b0 b1 _=>
    have ek:nE (B.map mQ) (k:Int)=aa (.bW [.str t.1,lA t.2.1,lA t.2.2]):=by
     rw[rS,aT,e];rfl
    have hdiv:sM b' f:=by rcases hf with rfl |rfl |rfl |rfl<;>exact⟨by decide,by decide⟩
    have ht:t∈B:=aJ e;rw[pZ e]at h;rw[if_neg (by lia)];refine⟨hdiv,by decide,?_⟩
    simp only[ni fa,ek];by_cases e1:b' / f % 2=1
    ·rw[e1];have:nK f b'=1:=by unfold nK;rw[if_pos e1]
     rw[this]at h;simp only[q_,lA]at h
     try ext
     try rw[ni fq]
     rw[pP,ay];exact⟨m_ (by decide),m_ (by lia),_,sub,h⟩
    ·have e2:(b' / f % 2 == 1)=false:=by simpa using e1
     rw[e2];have:nK f b'=0:=by unfold nK;rw[if_neg e1]
     rw[this]at h;simp only[q_]at h;ext;rw[show nE [W.str t.1,lA t.2.1,lA t.2.2] 1=aa (lA t.2.1) from rfl];dsimp only;have hLd:=(b.lf t ht).dp;have hLw:=(b.lf t ht).wt;have hLn:=(b.lf t ht).nb;exact Ch 4 hLd (by lia) fq (by rw[ay,hl];exact(b.lf t ht).br) (by lia) ⟨_,sub,h⟩
def Wd (h:ox x):x.length≤1000:=by rw[vE];have:=h.2.1;lia
def O5 (h:p5 x):x.length≤1000:=by rw[vE];have:=(Qs h).2;lia
def oo (n:Int) (t:Tn):Tr:=if n=1 then t.2.1 else t.2.2
structure u9 (g:Tn→Tr) (B:List Tn):Prop where
  br:∀t∈B,(g t).br t.2.1.nb
  dp:∀t∈B,(g t).depth≤4
  wt:∀t∈B,(g t).aq≤10
mutual
def Tr.ar (B:List Tn):Tr→Prop
 | .bl _=>False
 | .nd s ts=>(∀t,nc B s=aa t→ts.length=t.2.1.nb)∧r9 B ts
def r9 (B:List Tn):List Tr→Prop
 | []=>True
 |t::ts=>t.ar B∧r9 B ts
end
theorem oD:∀{ts:List Tr},r9 B ts↔ ∀t∈ts,t.ar B
 | []=>by simp [r9]
 |t::ts=>by simp [r9,oD (ts:=ts)]
mutual
theorem J4:∀t:Tr,t.way B=true→t.ar B
 | .bl n,h=>by simp [Tr.way]at h
 | .nd s ts,h=>by
  simp only[Tr.way,bV]at h;simp only[Tr.ar];refine⟨λt ht=>?_,OK ts h.2⟩;have:=h.1;rw[sZ,ht]at this;simpa using this
theorem OK:∀ts:List Tr,tP B ts=true→r9 B ts
 | [],h=>by simp [r9]
 |t::ts,h=>by
  simp only[tP,bV]at h;simp only[r9];exact⟨J4 t h.1,OK ts h.2⟩
end
section
variable {n:Int}
def Mo (t:Tn) (h:n=1∨n=2):nE [W.str t.1,lA t.2.1,lA t.2.2] n=aa (lA (oo n t)):=by
 rcases h with rfl |rfl<;>rfl
def DC{t:Tr}(h1:t.aq≤400) (h2:t.depth≤40):t.bo=true:=by
 unfold Tr.bo;rw[decide_eq_true h1,decide_eq_true h2];rfl
end
def CJ (r:Nat):WS:=(mD (mz (nA (ph 2 [0] (sO (iN 5) (iN 6)) (pE (nU (mB 0) (nU (mB 1) pe))) pB (Gd r (tH r)))) (mB 7))
  (mD (nH (nD (my (pA false) (iN 4) (wC .ci))) (mY (my ou (m9 (iR (my mH (iN 1) (wC (.int 0))) ae)) (wB rG (iR (iN 7) ae)))) nF)
  (mY (mJ (u8 r) (iR (my mH (iN 4) (wC (.int 2))) (iR (iN 7) ae))))))
def uD (r:Nat) (T:WS):WS:=(mD (nH (rH (nD (my (pA false) (iN 3) (wC .ci))) (nD (my (pA true) (iN 4) (wC .ci)))) (mz (mJ (ua r) (iR (my mH (iN 4) (wC (.int 1))) (iR (iN 1) ae))) (mB 5)) nF)
  (mD (nH (rH (nD (my (pA true) (iN 3) (wC .ci))) (nD (my (pA false) (iN 4) (wC .ci)))) (mz (mJ (ua r) (iR (my mH (iN 3) (wC (.int 1))) (iR (iN 2) ae))) (mB 6)) nF)
  T))
theorem YD:tH (r+1)=nC 8 3 (mD (mz (mJ (tK r) (iR (iN 0) (iR (my mH (iN 1) (wC (.int 0))) ae))) (mB 3))
  (mD (mz (mJ (tK r) (iR (iN 0) (iR (my mH (iN 2) (wC (.int 0))) ae))) (mB 4))
  (mD (mz (oE (iN 1) (ow (wC (.int 1))) oA) (mB 5))
  (mD (mz (oE (iN 2) (ow (wC (.int 1))) oA) (mB 6))
  (uD r (CJ r)))))):=rfl
mutual
theorem wW{P:ah→Prop}:∀(l t:Tr) (ys:List Tr),l.mt t=aa ys→t.hd P→hds P ys∧mO ys≤t.aq
 | .bl _,t,ys,h,q=>by
  simp only[Tr.mt,bJ]at h;subst h;simp only[hds,mO];exact⟨⟨q,trivial⟩,by lia⟩
 | .nd s ls, .nd z us,ys,h,q=>by
  simp only[Tr.mt]at h;simp only[Tr.hd]at q;split at h
  ·have:=J5 ls us ys h q.2;simp only[Tr.aq];exact⟨this.1,by lia⟩
  ·cases h
 | .nd _ _, .bl _,ys,h,q=>by simp [Tr.mt]at h
theorem J5{P:ah→Prop}:∀(ls us ys:List Tr),nT ls us=aa ys→hds P us→hds P ys∧mO ys≤mO us
 | [],us,ys,h,q=>by simp only[nT,bJ]at h;subst h;simp [hds,mO]
 |l::ls,[],ys,h,q=>by simp only[nT,bJ]at h;subst h;simp [hds,mO]
 |l::ls,u::us,ys,h,q=>by
  simp only[nT]at h;simp only[hds]at q;split at h
  ·cases h
  ·rename_i xs ex;split at h
   ·cases h
   ·rename_i zs ez;simp only[bJ]at h;subst h;have h1:=wW l u xs ex q.1;have h2:=J5 ls us zs ez q.2;rw[CL,mO];exact⟨NQ h1.1 h2.1,by lia⟩
end
mutual
theorem t5{P:ah→Prop}:∀t:Tr,t.hd P→t.br m
 | .bl n,h=>by simp [Tr.hd]at h
 | .nd s ts,h=>by
  simp only[Tr.hd]at h;simp only[Tr.br];exact GC ts h.2
theorem GC{P:ah→Prop}:∀ts:List Tr,hds P ts→m7 m ts
 | [],h=>by simp [m7]
 |t::ts,h=>by
  simp only[hds]at h;simp only[m7];exact⟨t5 t h.1,GC ts h.2⟩
end
def oB.triples:∀{as bs cs:List Tr},oB B n as bs cs→ ∃zs:List (Tr×Tr×Tr),as=zs.map (λz=>z.1)∧bs=zs.map (λz=>z.2.1)∧cs=zs.map (λz=>z.2.2)∧ ∀z∈zs,Mv B n z.1 z.2.1 z.2.2:=by
 intro as
 induction as with
 |nil=>intro bs cs h;cases h;exact⟨[],rfl,rfl,rfl,λ_ h=>nomatch h⟩
 |cons a as ih=>
  intro bs cs h;cases h with
  | @cons _ _ b c _ _ _ h1 h2=>
  obtain⟨zs,e1,e2,e3,h⟩:=ih h2;exact⟨(a,b,c)::zs,by rw[e1];rfl,by rw[e2];rfl,by rw[e3];rfl,λz hz=>(az.mp hz).elim (λe=>by rw[e];exact h1) (h z)⟩
theorem Mu:∀zs:List (Tr×Tr×Tr),m8 (af (zs.map λz=>z.1)) (af (zs.map λz=>z.2.1))=zs.map λz=>W.bW [lA z.1,lA z.2.1]
 | []=>by simp [af,m8]
 |z::zs=>by simp [af,m8,Mu zs]
noncomputable def Fo (f:Option Tn) (s:ah) (cs:List Tr):Tr:=match f with
 |none=> .nd s cs
 |some t=>t.2.2.aD cs
def zd (S:lF) (v:W) (ws:List W):Prop:=v= .bW ws∨ ∃q,v= .ref q∧S q=aa (.bP ws)
def IV{Q:List W→(lF→Prop)→Prop}(h:zd S v ws) (hq:∀G:lF→Prop,G S→(∀S',Sub S S'→G S')→Q ws G):uM v S Q:=by
 obtain rfl |⟨q,rfl,e⟩:=h
 ·rw[Ow];exact hq _ trivial λ_ _=>trivial
 ·rw[Cj,ni e];exact hq _ e λS' sb=>sb _ _ e
def YU (hx:x= .nd s ts) (ha:S a=aa (.bP (B.map mQ))) (h1:zd S va (af as)) (h2:zd S vb (af bs)) (M:oB B n as bs cs) (hl:as.length≤1000)
  (hR:∀t,f=aa t→t.2.2.depth≤4∧t.2.2.aq≤100∧t.2.2.br cs.length) (hr:5≤r)
  (one:∀{a' b' c':Tr}{Q:WK}{E:ah→lF→Prop},a'∈as→b'∈bs→Mv B n a' b' c'→Q (lA c') S→tH r [.ref a,lA a',lA b'] S Q E) 
  (hQ:∀S',Sub S S'→D.rt (lA (Fo f s cs)) S') :
  CJ r E D [aa (.ref a),aa (lA x),aa (lA y),aa vf,aa (oI f),aa va,aa vb,x7] S:=by
 obtain⟨zs,rfl,rfl,rfl,hz⟩:=M.triples;unfold CJ;ext;refine IV h1 λG1 g1 k1=>IV h2 λG2 g2 k2=>?_;rw[Mu];rw[ay]at hl;refine qe (λσ=>∃x y,σ=[x,y,aa (.ref a)]) (λz=>W.bW [lA z.1,lA z.2.1]) (λz=>lA z.2.2) ?_ zs [] _ ⟨none,none,rfl⟩ (by simp;lia) (λz hz' σ R hI hR=>?_) ?_
 ·exact⟨g1,g2⟩
 ·obtain⟨u,v,rfl⟩:=hI;simp only[Gd];ext;refine one (a':=z.1) (b':=z.2.1) (c':=z.2.2) (aV.mpr ⟨z,hz',rfl⟩) (aV.mpr ⟨z,hz',rfl⟩) (hz z hz') ?_;exact hR _ _ ⟨_,_,rfl⟩ .refl
 ·rw[aX];intro q hq;have eu:(zs.map λz=>lA z.2.2)=af (zs.map λz=>z.2.2):=by rw[o6,bu];rfl
  rw[eu];have fq:bQ S q (Ob.bP (af (zs.map λz=>z.2.2))) q=aa (.bP (af (zs.map λz=>z.2.2))):=mV;have sub:Sub S (bQ S q (Ob.bP (af (zs.map λz=>z.2.2)))):= .bQ .refl hq;generalize bQ S q (Ob.bP (af (zs.map λz=>z.2.2)))=S1 at fq sub⊢;obtain⟨r,rfl⟩:∃r',r=r'+1:=⟨r - 1,by lia⟩
  cases f with
  |none=>
   subst hx;simp only[oI,lA,Fo]at hQ⊢
   try ext
   try rw[ni fq]
   rw[pP,ay];exact⟨m_ (by decide),m_ (by lia),hQ _ sub⟩
  |some t=>
   have ee:oI (aa t)= .bW [.str t.1,lA t.2.1,lA t.2.2]:=rfl;rw[ee]
   try ext
   rw[show nE [W.str t.1,lA t.2.1,lA t.2.2] 2=aa (lA t.2.2) from rfl];dsimp only;obtain⟨g1,g2,g3⟩:=hR t rfl;exact F0 4 g1 (by lia) fq (by rw[ay];rw[ay]at g3;exact g3) (by lia) (hQ _ sub)
theorem Mv.nd:Mv B n x y z→ ∃s ts z' us,x= .nd s ts∧y= .nd z' us
 | .nn _ _ _=>⟨_,_,_,_,rfl,rfl⟩
 | .ns _ _ _ _ _=>⟨_,_,_,_,rfl,rfl⟩
 | .sn _ _ _ _=>⟨_,_,_,_,rfl,rfl⟩
 | .ss _ _ _ _=>⟨_,_,_,_,rfl,rfl⟩
def Rl (h:T E D [x0,x1,x2,aa (oI none),aa (oI none),x5,x6,x7] S):uD r T E D [x0,x1,x2,aa (oI none),aa (oI none),x5,x6,x7] S:=by
 rw[show oI none=W.ci from rfl]at h⊢;unfold uD;ext;exact h
def Xq (h:T E D [x0,x1,x2,aa (oI (aa t')),aa (oI (aa t)),x5,x6,x7] S):uD r T E D [x0,x1,x2,aa (oI (aa t')),aa (oI (aa t)),x5,x6,x7] S:=by
 have ee:∀t:Tn,oI (aa t)= .bW [.str t.1,lA t.2.1,lA t.2.2]:=λ_=>rfl;rw[ee,ee]at h⊢;unfold uD;ext;exact h
def Y8 (e:t.2.1.mt x=aa ms) (hr:t.2.1.depth<r) (ft:x.br 0) (hw:t.2.1.aq≤90000) (h:∀q,S q=none→T E D [x0,aa (lA x),x2,aa (oI none),aa (oI (aa t)),aa (.ref q),x6,x7] (bQ S q (.bP (af ms)))):uD (r+1) T E D [x0,aa (lA x),x2,aa (oI none),aa (oI (aa t)),x5,x6,x7] S:=by
 have ee:∀t:Tn,oI (aa t)= .bW [.str t.1,lA t.2.1,lA t.2.2]:=λ_=>rfl;have a1:∀t:Tn,nE [W.str t.1,lA t.2.1,lA t.2.2] 1=aa (lA t.2.1):=λ_=>rfl;rw[ee,show oI none=W.ci from rfl]at *;unfold uD;ext;rw[a1];dsimp only;refine CH hr ft hw (λys hys q hq=>?_) λh0=>by rw[e]at h0;cases h0
 rw[e]at hys;cases hys
 try ext
 exact h q hq
def TL (e:t.2.1.mt y=aa ms) (hr:t.2.1.depth<r) (ft:y.br 0) (hw:t.2.1.aq≤90000) (h:∀q,S q=none→T E D [x0,x1,aa (lA y),aa (oI (aa t)),aa (oI none),x5,aa (.ref q),x7] (bQ S q (.bP (af ms)))):uD (r+1) T E D [x0,x1,aa (lA y),aa (oI (aa t)),aa (oI none),x5,x6,x7] S:=by
 have ee:∀t:Tn,oI (aa t)= .bW [.str t.1,lA t.2.1,lA t.2.2]:=λ_=>rfl;have a1:∀t:Tn,nE [W.str t.1,lA t.2.1,lA t.2.2] 1=aa (lA t.2.1):=λ_=>rfl;rw[ee,show oI none=W.ci from rfl]at *;unfold uD;ext;rw[a1];dsimp only;refine CH hr ft hw (λys hys q hq=>?_) λh0=>by rw[e]at h0;cases h0
 rw[e]at hys;cases hys
 try ext
 exact h q hq
theorem MM (hB:∀t∈B,t.2.1.depth≤4∧t.2.1.aq≤100∧t.2.2.depth≤4∧t.2.2.aq≤100∧t.2.2.br t.2.1.nb):∀(n:Nat) {S:lF}{x y z:Tr}{r:Nat}{Q:WK}{E:ah→lF→Prop},S a=aa (.bP (B.map mQ))→Mv B n x y z→n+12≤r→x.hd (λ_=>True)→y.hd (λ_=>True)→x.aq≤1000→y.aq≤1000→Q (lA z) S→tH (r+1) [.ref a,lA x,lA y] S Q E
 |0,S,x,y,z,r,Q,E,ha,M,hr,hx,hy,wx,wy,h=>by cases M
 |n+1,S,x,y,z,r,Q,E,ha,M,hr,hx,hy,wx,wy,h=>by
  obtain⟨r,rfl⟩:∃r',r=r'+1:=⟨r - 1,by lia⟩
  have one:∀{as bs:List Tr},hds (λ_=>True) as→hds (λ_=>True) bs→mO as≤1000→mO bs≤1000→ ∀(S1:lF),Sub S S1→ ∀{a' b' c':Tr}{Q:WK}{E:ah→lF→Prop},a'∈as→b'∈bs→Mv B n a' b' c'→Q (lA c') S1→tH (r+1) [.ref a,lA a',lA b'] S1 Q E:=λ{as bs} h1 h2 h3 h4 S1 sb {a' b' c' Q E} m1 m2 M q=>
   MM hB n (sb _ _ ha) M (by lia) (m3.mp h1 _ m1) (m3.mp h2 _ m2) (by have:=pk m1;lia) (by have:=pk m2;lia) q
  have start:∀{s z:ah}{ts us:List Tr}{E':WX}{D:m4}{S1:lF}{va vb vf:W}{f:Option Tn}{as bs cs:List Tr},S1 a=aa (.bP (B.map mQ))→Sub S S1→zd S1 va (af as)→zd S1 vb (af bs)→oB B n as bs cs→hds (λ_=>True) as→hds (λ_=>True) bs→mO as≤1000→mO bs≤1000→(∀t,f=aa t→t∈B∧cs.length=t.2.1.nb)→(∀S',Sub S S'→D.rt (lA (Fo f s cs)) S')→
    CJ (r+1) E' D [aa (.ref a),aa (W.bW (W.str s::af ts)),aa (W.bW (W.str z::af us)),aa vf,aa (oI f),aa va,aa vb,none] S1:=λ{s z ts us E' D S1 va vb vf f as bs cs} iF sb q1 q2 M h1 h2 h3 h4 hf hQ=>by
   have hl:=qI as;have:=YU (x:= .nd s ts) (y:= .nd z us) (vf:=vf) (f:=f) (x7:=none) (E:=E') (D:=D) rfl iF q1 q2 M (by lia) (λt ht=>by
    obtain⟨m,e⟩:=hf t ht;obtain⟨g1,g2,g3,g4,g5⟩:=hB t m;exact⟨g3,g4,by rw[e];exact g5⟩) (by lia) (one h1 h2 h3 h4 S1 sb) λS' sb'=>hQ S' (sb.trans sb')
   simpa only[lA]using this
  obtain⟨s,ts,z',us,rfl,rfl⟩:=M.nd;have ex:lA (.nd s ts)= .bW (.str s::af ts):=by simp only[lA]
  have ey:lA (.nd z' us)= .bW (.str z'::af us):=by simp only[lA]
  have hx':=hx;have hy':=hy;have wx':=wx;have wy':=wy;simp only[Tr.hd]at hx' hy';simp only[Tr.aq]at wx' wy';rw[YD,ex,ey];ext;refine wO ha (wO ha ?_);cases M with
  | @nn _ _ _ _ _ cs e1 e2 M=>
   rw[e1,e2];exact Rl (start (f:=none) ha .refl (.inl rfl) (.inl rfl) M hx'.2 hy'.2 (by lia) (by lia) (λ_ h=>nomatch h) λS' sb=>⟨_,sb,h⟩)
  | @ns _ _ _ _ _ cs ms t e1 e2 e3 e4 M=>
   have ht:t∈B:=bX e2;have hm:=wW t.2.1 _ _ e3 hx;have ft:=t5 (m:=0) _ hx;obtain⟨g1,g2,g3,g4,g5⟩:=hB t ht;rw[e1,e2,←ex];refine Y8 e3 (by lia) ft (by lia) λq hq=>?_;rw[ex];exact start (f:=aa t) (keep ha hq) (.bQ .refl hq) (.inr ⟨q,rfl,mV⟩) (.inl rfl) M hm.1 hy'.2 (by lia) (by lia) (λ_ h=>by cases h;exact⟨ht,e4⟩) λS' sb=>⟨_,sb,h⟩
  | @sn _ _ _ _ _ cs ms t e1 e2 e3 M=>
   have ht:t∈B:=bX e1;have hm:=wW t.2.1 _ _ e3 hy;have ft:=t5 (m:=0) _ hy;obtain⟨g1,g2,g3,g4,g5⟩:=hB t ht;rw[e1,e2,←ey];refine TL e3 (by lia) ft (by lia) λq hq=>?_;rw[ey];exact start (f:=none) (keep ha hq) (.bQ .refl hq) (.inl rfl) (.inr ⟨q,rfl,mV⟩) M hx'.2 hm.1 (by lia) (by lia) (λ_ h=>nomatch h) λS' sb=>⟨_,sb,h⟩
  | @ss _ _ _ _ _ cs t t' e1 e2 e3 M=>
   have ht:t∈B:=bX e2;rw[e1,e2];exact Xq (start (f:=aa t) ha .refl (.inl rfl) (.inl rfl) M hx'.2 hy'.2 (by lia) (by lia) (λ_ h=>by cases h;exact⟨ht,e3⟩) λS' sb=>⟨_,sb,h⟩)
def Vc:oo 1=λt=>t.2.1:=by funext t;exact if_pos rfl
def BI:oo 2=λt=>t.2.2:=by funext t;exact if_neg (by decide)
section
variable {ws hs:List ah}{B:List Tn}
def oz.s2 (b:oz ws hs B):u9 (oo 2) B:=by
 rw[BI];refine⟨λt ht=>(b.ri t ht).br,λt ht=>?_,λt ht=>?_⟩
 ·have:=(b.ri t ht).dp;show t.2.2.depth≤4;lia
 ·have:=(b.ri t ht).wt;show t.2.2.aq≤10;lia
mutual
theorem X7:∀(L t:Tr) (ys:List Tr),L.mt t=aa ys→ ∀y∈ys,y.depth≤t.depth
 | .bl n,t,ys,e,y,hy=>by
  rw[Tr.mt]at e;cases e;rw[bi]at hy;rw[hy];exact aA _
 | .nd s ls, .bl n,ys,e,y,hy=>by rw[Tr.mt]at e;cases e
 | .nd s ls, .nd z us,ys,e,y,hy=>by
  rw[Tr.mt]at e;split at e
  ·have:=CA ls us ys e y hy;rw[Tr.depth];lia
  ·cases e
theorem CA:∀(ls us ys:List Tr),nT ls us=aa ys→ ∀y∈ys,y.depth≤nj us
 | [],us,ys,e,y,hy=>by rw[nT]at e;cases e;cases hy
 |l::ls,[],ys,e,y,hy=>by rw[nT]at e;cases e;cases hy
 |l::ls,u::us,ys,e,y,hy=>by
  rw[nT]at e;cases q1:l.mt u with
  |none=>rw[q1]at e;cases e
  |some xs=>
   rw[q1]at e;cases q2:nT ls us with
   |none=>rw[q2]at e;cases e
   |some zs=>
    rw[q2]at e;cases e;rw[nj];obtain hy |hy:=bn.mp hy
    ·have:=X7 l u xs q1 y hy;lia
    ·have:=CA ls us zs q2 y hy;lia
end
def UI (c d:Int→Nat):Prop:=∀x:Int,0≤x→x<8→(c x≤1∧d x≤1)∨(c x=2∧d x=2)
end
def xK (f x:Int):nK f x≤1:=by unfold nK;split<;>lia
def J7 (B:List Tn) (s:ah) (g:Tn→W):B.findSome? (λt=>if t.1 == s then aa (g t) else none)=(nc B s).map g:=by
 unfold nc
 induction B with
 |nil=>rfl
 |cons t B ih=>
  rw[d7,cc];cases e:t.1 == s with
  |true=>rfl
  |false=>simpa using ih
theorem Lb (hnd:(B.map λt=>t.1).Nodup) (ha:S a=aa (.bP (B.map mQ))) (hn:n=1∨n=2) (hg:u9 (oo n) B):∀(d:Nat) {t:Tr}{r:Nat}{Q:WK}{E:ah→lF→Prop},t.depth≤d→d+10≤r→t.ar B→t.aq≤1000→Q (lA (t.mk B (oo n))) S→zp (r+1) [.ref a,lA t, .int n] S Q E
 |0,t,r,Q,E,hd,hr,hh,hw,h=>by have:=qD t;lia
 |d+1, .bl k,r,Q,E,hd,hr,hh,hw,h=>by simp [Tr.ar]at hh
 |d+1, .nd s ts,r,Q,E,hd,hr,hh,hw,h=>by
  simp only[Tr.depth]at hd;simp only[Tr.aq]at hw;simp only[Tr.ar]at hh;have hk:=qI ts;obtain⟨r,rfl⟩:∃r',r=r'+1:=⟨r - 1,by lia⟩
  rw[zp];simp only[lA];walk_at "wp";rw[o6];refine qe (λσ=>∃x,σ=[x,aa (.ref a),aa (.int n)]) lA (λt=>lA (t.mk B (oo n))) trivial ts [] _ ⟨none,rfl⟩ (by simp;lia) (λx hx σ R hI hR=>?_) ?_
  ·obtain⟨y,rfl⟩:=hI;have hdx:=p7 hx;have hwx:=pk hx;simp only[Iq];walk_at "wp";exact Lb hnd ha hn hg d (by lia) (by lia) (oD.mp hh.2 x hx) (by lia) (hR _ _ ⟨_,rfl⟩ .refl)
  ·rw[aX];intro q hq;have eu:(ts.map λt=>lA (t.mk B (oo n)))=af (ts.map (Tr.mk B (oo n))):=by rw[o6,bu];rfl
   rw[eu,←o6];have fq:bQ S q (Ob.bP (af (ts.map (Tr.mk B (oo n))))) q=aa (.bP (af (ts.map (Tr.mk B (oo n))))):=mV;have fa:=keep (x:=Ob.bP (af (ts.map (Tr.mk B (oo n))))) ha hq;have sub:Sub S (bQ S q (Ob.bP (af (ts.map (Tr.mk B (oo n)))))):= .bQ .refl hq;generalize bQ S q (Ob.bP (af (ts.map (Tr.mk B (oo n)))))=S1 at fq fa sub⊢
   try walk_at "wp"
   rw[ni fa];refine vR (S:=S1) ?_ (λσ=>∃x,σ=[aa (.ref a),aa (.bW (.str s::af ts)),aa (.int n),aa (.ref q),x]) mQ (λt=>if t.1 == s then aa (lA ((oo n t).aD (ts.map (Tr.mk B (oo n))))) else none) B _ ⟨_,rfl⟩ (λt ht σ N hI hno hret=>?_) (λe σ hI=>?_) λw e S' sb=>?_
   ·exact fa
   ·obtain⟨x,rfl⟩:=hI;simp only[ML];have ee:mQ t= .bW [.str t.1,lA t.2.1,lA t.2.2]:=rfl;rw[ee];walk_at "wp";cases e:t.1 == s with
    |true=>
     rw[e]at hret
     try walk_at "wp"
     rw[Mo t hn];dsimp only;have et:t.1=s:=by simpa using e
     have hgw:=hg.wt t ht;refine Ch 4 (hg.dp t ht) (by lia) fq ?_ (by lia) (hret _ rfl _ .refl);rw[ay,hh.1 t (by rw[←et];exact rg hnd ht)];exact hg.br t ht
    |false=>
     rw[e]at hno;exact hno rfl _ _ ⟨_,rfl⟩ .refl
   ·obtain⟨x,rfl⟩:=hI;rw[J7]at e;have e0:nc B s=none:=by
     cases z:nc B s with
     |none=>rfl
     |some t=>rw[z]at e;cases e
    rw[CK e0]at h
    try walk_at "wp"
    rw[Nf]
    try rw[ni fq]
    try walk_at "wp"
    simp only[lA]at h;refine⟨m_ ?_,_,sub,h⟩;rw[pP,ay];lia
   ·rw[J7]at e;cases z:nc B s with
    |none=>rw[z]at e;cases e
    |some t=>
     rw[z]at e;rw[CI z]at h;cases e;exact⟨_,sub.trans sb,h⟩
noncomputable def sN (B:List Tn) (s:ah) (n:Nat):List (List Int):=match nc B s with
 |none=>(bx n).map λ(i:Nat)=>[(i:Int)]
 |some t=>t.2.1.bls.map λx=>x.1
mutual
noncomputable def Tr.us (B:List Tn) (p:List Int):Tr→List (List Int×ah)
 | .bl _=>[]
 | .nd s ts=>(match nc B s with
  |none=>[]
  |some _=>[(p,s)])++wj B p (sN B s ts.length) ts
noncomputable def wj (B:List Tn) (p:List Int):List (List Int)→List Tr→List (List Int×ah)
 |q::qs,t::ts=>t.us B (p++q)++wj B p qs ts
 |_,_=>[]
end
noncomputable def V7 (B:List Tn) (k:Int) (n:Nat):List (List Int):=if k<0 then(bx n).map λ(i:Nat)=>[(i:Int)] else(B.getD k.toNat (⟨#[]⟩, .bl 0, .bl 0)).2.1.bls.map λx=>x.1
mutual
noncomputable def Pl.ns (B:List Tn) (p:List Int):Pl→List (List Int×Int×ah)
 | .nd k b h ps=>(if k<0 then [] else [(p,b,(B.getD k.toNat (⟨#[]⟩, .bl 0, .bl 0)).1)])++Og B p (V7 B k ps.length) ps
noncomputable def Og (B:List Tn) (p:List Int):List (List Int)→List Pl→List (List Int×Int×ah)
 |q::qs,t::ts=>t.ns B (p++q)++Og B p qs ts
 |_,_=>[]
end
def XO (h:nc B s=none):(Tr.nd s ts).us B p=wj B p ((bx ts.length).map λ(i:Nat)=>[(i:Int)]) ts:=by
 rw[Tr.us,sN,h];rfl
def Uo (h:nc B s=aa t):(Tr.nd s ts).us B p=(p,s)::wj B p (t.2.1.bls.map λx=>x.1) ts:=by
 rw[Tr.us,sN,h];rfl
noncomputable def Lr (c:Int→Nat) (xs:List (List Int×Int×ah)):List (List Int×ah):=(xs.filter λx=>c x.2.1 == 1).map λx=>(x.1,x.2.2)
noncomputable def o8 (B:List Tn) (t:Tr):Option Tn:=B.find? λu=>(u.2.1.mt t).isSome
mutual
noncomputable def Tr.op (B:List Tn) (p:List Int):Tr→List (List Int×ah)
 | .bl _=>[]
 | .nd s ts=>(match o8 B (.nd s ts) with
  |none=>[]
  |some t=>[(p,t.1)])++pD B p 0 ts
noncomputable def pD (B:List Tn) (p:List Int) (i:Nat):List Tr→List (List Int×ah)
 | []=>[]
 |t::ts=>t.op B (p++[(i:Int)])++pD B p (i+1) ts
end
def v8 (hL:L∈bO n h c d):∃ts,L= .nd h ts:=by
 unfold bO at hL;split at hL<;>simp only[az,bq,or_false]at hL
 all_goals (first |subst hL |rcases hL with rfl |rfl)<;>exact⟨_,rfl⟩
def yh (h:((Tr.nd s ls).mt (.nd z us)).isSome=true):s=z:=by
 simp only[Tr.mt]at h;split at h
 ·rename_i q;simp only[bV,beq_iff_eq]at q;exact q.1
 ·cases h
def LI (h1:((Tr.nd s (l::ls)).mt x).isSome=true) (h2:((Tr.nd t (m::ms)).mt x).isSome=true):∃u,(l.mt u).isSome=true∧(m.mt u).isSome=true:=by
 obtain k |⟨z,_ |⟨u,us⟩⟩:=x
 ·cases h1
 ·simp [Tr.mt]at h1
 ·refine⟨u,?_⟩;have key:∀{s:ah}{l:Tr}{ls:List Tr},((Tr.nd s (l::ls)).mt (.nd z (u::us))).isSome=true→(l.mt u).isSome=true:=λ{s l ls} h=>by
   unfold Tr.mt at h;split at h
   ·unfold nT at h;cases q:l.mt u with
    |none=>rw[q]at h;cases h
    |some xs=>rfl
   ·cases h
  exact⟨key h1,key h2⟩
def CQ (h1:((Tr.nd s []).mt x).isSome=true) (h2:((Tr.nd t (m::ms)).mt x).isSome=true):False:=by
 obtain k |⟨z,_ |⟨u,us⟩⟩:=x
 ·cases h1
 ·simp [Tr.mt]at h2
 ·simp [Tr.mt]at h1
def Ls (hL:L∈bO n h c d) (hM:M∈bO n h c d) (h1:(L.mt x).isSome=true) (h2:(M.mt x).isSome=true):L=M:=by
  unfold bO at hL hM;split at hL<;>simp only[az,bq,or_false]at hL hM
  all_goals first
    | (rw[hL,hM])
    | (rcases hL with rfl |rfl<;>rcases hM with rfl |rfl<;>first
        |rfl
        | (obtain⟨u,a,b⟩:=LI h1 h2
           first
           |cases CQ a b
           |cases CQ b a
           | (obtain⟨v,a,b⟩:=LI a b
              first
              |cases CQ a b
              |cases CQ b a)))
def mI.one (b:mI w0 w1 w2 w3 w4 w5 tt B) (G:nW w0 w1 w2 w3 w4 w5) (hu:u∈B) (hv:v∈B) (h1:(u.2.1.mt x).isSome=true) (h2:(v.2.1.mt x).isSome=true):u.2.1=v.2.1:=by
 obtain⟨n,m,e⟩:=b.lf;have mu:u.2.1∈bO n w0 w2 w3++bO m w1 w2 w3:=by rw[←e];exact aV.mpr ⟨u,hu,rfl⟩
 have mv:v.2.1∈bO n w0 w2 w3++bO m w1 w2 w3:=by rw[←e];exact aV.mpr ⟨v,hv,rfl⟩
 have key:∀{L M:Tr},L∈bO n w0 w2 w3→M∈bO m w1 w2 w3→(L.mt x).isSome=true→(M.mt x).isSome=true→False:=λ{L M} hL hM k1 k2=>by
  obtain⟨ts,rfl⟩:=v8 hL;obtain⟨us,rfl⟩:=v8 hM;cases x with
  |bl k=>simp [Tr.mt]at k1
  |nd s vs=>exact G.n0 w1 (by simp) ((yh k1).trans (yh k2).symm)
 rcases bn.mp mu with z |z<;>obtain y |y:=bn.mp mv
 ·exact Ls z y h1 h2
 ·exact(key z y h1 h2).elim
 ·exact(key y z h2 h1).elim
 ·exact Ls z y h1 h2
def Mk (n:Nat) (h c d:ah):(bO n h c d).Nodup:=by
 unfold bO;split<;>simp
def mI.inj (b:mI w0 w1 w2 w3 w4 w5 tt B) (G:nW w0 w1 w2 w3 w4 w5):(B.map λt=>t.2.1).Nodup:=by
 obtain⟨n,m,e⟩:=b.lf;rw[e,List.nodup_append];refine⟨Mk ..,Mk ..,λx hx y hy=>?_⟩;obtain⟨ts,rfl⟩:=v8 hx;obtain⟨us,rfl⟩:=v8 hy;intro z;cases z;exact G.n0 _ (by simp) rfl
theorem CV{α β:Type}{f:α→β}:∀{xs:List α}{x y:α},(xs.map f).Nodup→x∈xs→y∈xs→f x=f y→x=y
 |z::xs,x,y,h,hx,hy,e=>by
  rw[aC,eE]at h;obtain h1 |h1:=az.mp hx
  ·obtain h2 |h2:=az.mp hy
   ·rw[h1,h2]
   ·exact(h.1 (aV.mpr ⟨y,h2,by rw[←e,h1]⟩)).elim
  ·obtain h2 |h2:=az.mp hy
   ·exact(h.1 (aV.mpr ⟨x,h1,by rw[e,h2]⟩)).elim
   ·exact CV h.2 h1 h2 e
def mI.open_some (b:mI w0 w1 w2 w3 w4 w5 tt B) (G:nW w0 w1 w2 w3 w4 w5) (ht:t∈B) (hu:us.length=t.2.1.nb):o8 B (t.2.1.aD us)=aa t:=by
 have hm:=b.mt t ht us hu;unfold o8;cases e:B.find? λu=>(u.2.1.mt (t.2.1.aD us)).isSome with
 |none=>
  rw[gX]at e;have:=e t ht;rw[hm]at this;simp at this
 |some u=>
  have hu':=fi e;have mu:=bX e;have:=b.one G mu ht hu' (by rw[hm];rfl);rw[CV (b.inj G) mu ht this]
def mI.open_none (b:mI w0 w1 w2 w3 w4 w5 tt B) (h0:w0≠s) (h1:w1≠s):o8 B (.nd s ts)=none:=by
 obtain⟨n,m,e⟩:=b.lf;unfold o8;rw[gX];intro u hu hz;have mu:u.2.1∈bO n w0 w2 w3++bO m w1 w2 w3:=by rw[←e];exact aV.mpr ⟨u,hu,rfl⟩
 rcases bn.mp mu with z |z<;>obtain⟨ls,el⟩:=v8 z<;>rw[el]at hz
 ·exact h0 (yh hz)
 ·exact h1 (yh hz)
noncomputable def ug (B:List Tn) (p:List Int):List (List Int)→List Tr→List (List Int×ah)
 |q::qs,t::ts=>t.op B (p++q)++ug B p qs ts
 |_,_=>[]
def Lq (hL:L∈bO n h c d) (h2:∀xs,o8 B (.nd c xs)=none) (h3:∀xs,o8 B (.nd d xs)=none) (hu:us.length=L.nb) (hk:L= .nd h ks) (p:List Int):pD B p 0 (aF us ks)=ug B p (L.bls.map λx=>x.1) us:=by
 revert ks;apply Zmq (P:=λL us=>∀{ks},L= .nd h ks→pD B p 0 (aF us ks)=ug B p (L.bls.map λx=>x.1) us) hL hu<;>intros<;>rename_i hk<;>cases hk<;>simp only[Tr.aD,aF,Tr.op,pD,h2,h3,bD,bf,aX]<;>first |rfl |exact congrArg (_++·) (bf _).symm |exact(bf _).symm |exact congrArg (_++·) (congrArg (_++·) (bf _).symm)
theorem Js:∀(ts:List Tr) (i:Nat),pD B p i ts=ug B p ((fZ i ts.length).map λ(i:Nat)=>[(i:Int)]) ts
 | [],i=>by simp [pD,ug]
 |t::ts,i=>by
  rw[pD,Js ts (i+1),aU,gH,aC,ug]
mutual
inductive Wi (B:List Tn) (wn:List (List Int)):Nat→List Int→Tr→Tr→Prop
 |no {n:Nat}{p:List Int}{s:ah}{ts us:List Tr}:p∉wn→nc B s=none→qa B wn n p ((bx ts.length).map λ(i:Nat)=>[(i:Int)]) ts us→Wi B wn (n+1) p (.nd s ts) (.nd s us)
 |yes {n:Nat}{p:List Int}{s:ah}{ts us ms:List Tr}{t:Tn}:p∈wn→o8 B (.nd s ts)=aa t→t.2.1.mt (.nd s ts)=aa ms→nc B t.1=aa t→qa B wn n p (t.2.1.bls.map λx=>x.1) ms us→Wi B wn (n+1) p (.nd s ts) (.nd t.1 us)
inductive qa (B:List Tn) (wn:List (List Int)):Nat→List Int→List (List Int)→List Tr→List Tr→Prop
 |nil {n:Nat}{p:List Int}:qa B wn n p [] [] []
 |cons {n:Nat}{p q:List Int}{qs:List (List Int)}{t u:Tr}{ts us:List Tr}:Wi B wn n (p++q) t u→qa B wn n p qs ts us→qa B wn n p (q::qs) (t::ts) (u::us)
end
theorem BA{B:List Tn}{wn:List (List Int)}{n m:Nat}{p:List Int}(f:∀{p:List Int}{t u:Tr},Wi B wn n p t u→Wi B wn m p t u):∀(qs:List (List Int)) {ts us:List Tr},qa B wn n p qs ts us→qa B wn m p qs ts us
 | [],_,_,h=>by cases h;exact .nil
 |_::qs,_,_,h=>by
  cases h with
  |cons h1 h2=>exact .cons (f h1) (BA f qs h2)
def UA{B:List Tn}{wn:List (List Int)}{n:Nat}:∀{p:List Int}{t u:Tr},Wi B wn n p t u→ ∀m,n≤m→Wi B wn m p t u:=by
 induction n with
 |zero=>intro p t u h;cases h
 |succ n ih=>
  intro p t u h m hm;obtain⟨m,rfl⟩:∃m',m=m'+1:=⟨m - 1,by lia⟩
  cases h with
  |no h1 h2 h3=>exact .no h1 h2 (BA (λh=>ih h m (by lia)) _ h3)
  |yes h1 h2 h3 h4 h5=>exact .yes h1 h2 h3 h4 (BA (λh=>ih h m (by lia)) _ h5)
def Wi.mono{n m:Nat}{p:List Int}{t u:Tr}(hm:n≤m) (h:Wi B wn n p t u):Wi B wn m p t u:=UA h m hm
def qa.mono{n m:Nat}{p:List Int}{qs:List (List Int)}{ts us:List Tr}(hm:n≤m) (h:qa B wn n p qs ts us):qa B wn m p qs ts us:=BA (λk=>k.mono hm) qs h
noncomputable def zvR (c:Int→Nat) (xs:List (List Int×Int×ah)):List (List Int):=(Lr c xs).map λx=>x.1
def zrv (qs:List (List Int)):Prop:=qs.Pairwise λa b=>¬a <+:b∧ ¬b <+:a
def QP:(Tr.nd h [.bl 0]).bls.map (λx=>x.1)=[[0]]:=by simp [Tr.bls,Tr.plt,oN,Tr.isBl]
def So:(Tr.nd h [.bl 0, .bl 1]).bls.map (λx=>x.1)=[[0],[1]]:=by simp [Tr.bls,Tr.plt,oN,Tr.isBl]
def Zl:(Tr.nd h [.nd c []]).bls.map (λx=>x.1)=[]:=by simp [Tr.bls,Tr.plt,oN,Tr.isBl]
def VJ:(Tr.nd h [.nd d [.bl 0]]).bls.map (λx=>x.1)=[[0,0]]:=by simp [Tr.bls,Tr.plt,oN,Tr.isBl]
def TZ:(Tr.nd h [.nd c [], .bl 0]).bls.map (λx=>x.1)=[[1]]:=by simp [Tr.bls,Tr.plt,oN,Tr.isBl]
def Qu:(Tr.nd h [.nd d [.bl 0], .bl 1]).bls.map (λx=>x.1)=[[0,0],[1]]:=by simp [Tr.bls,Tr.plt,oN,Tr.isBl]
def VR:(Tr.nd h [.nd d [.nd d [.bl 0]], .bl 1, .bl 2]).bls.map (λx=>x.1)=[[0,0,0],[1],[2]]:=by simp [Tr.bls,Tr.plt,oN,Tr.isBl]
def QY:(Tr.nd h [.nd d [.nd c []], .bl 0, .bl 1]).bls.map (λx=>x.1)=[[1],[2]]:=by simp [Tr.bls,Tr.plt,oN,Tr.isBl]
def Yz:(Tr.nd h []).bls.map (λx=>x.1)=[]:=by simp [Tr.bls,Tr.plt,oN,Tr.isBl]
noncomputable def encX (x:List Int×ah):W:= .bW [mE x.1, .str x.2]
structure rC (B:List Tn):Prop where
  d:∀t∈B,t.2.1.depth≤4
  w:∀t∈B,t.2.1.aq≤20
def Rp{E:ah→lF→Prop}(L:rC B) (ha:S a=aa (.bP (B.map mQ))) (hl:ts.length≤1000) (hr:20≤r) (h:∀q,S q=none→Q (.ref q) (bQ S q (.bP ((sN B s ts.length).map mE)))):yt (r+1) [.ref a,lA (.nd s ts)] S Q E:=by
 obtain⟨r,rfl⟩:∃r',r=r'+1:=⟨r - 1,by lia⟩
 rw[yt];simp only[lA];ext;refine wO ha ?_;unfold sN at h;cases e:nc B s with
 |none=>
  rw[e]at h;simp only[oI]
  try ext
  rw[pP];have e1:(((ts.length+1:Nat):Int) - 1).toNat=ts.length:=by lia
  rw[e1];refine⟨⟨by lia,by lia⟩,?_⟩
  rw[ZD];refine qe (λσ=>∃x,σ=[x]) (λi:Nat=>W.int i) (λi=>mE [(i:Int)]) trivial (bx ts.length) [] _ ⟨none,rfl⟩ (by simp;lia) (λx hx σ R hI hR=>?_) ?_
  ·obtain⟨y,rfl⟩:=hI;simp only[GO];ext;exact⟨m_ (by decide),hR _ _ ⟨_,rfl⟩ .refl⟩
  ·rw[aX];intro q hq;have:=h q hq;simp only[bu]at this;exact⟨_, .refl,this⟩
 |some t=>
  rw[e]at h;have ht:t∈B:=bX e;have ee:oI (aa t)= .bW [.str t.1,lA t.2.1,lA t.2.2]:=rfl;rw[ee]
  try ext
  rw[show nE [W.str t.1,lA t.2.1,lA t.2.2] 1=aa (lA t.2.1) from rfl];dsimp only;have h1:=L.d t ht;have h2:=L.w t ht;refine FU (by lia) (by lia) λq hq=>?_;have:=h q hq;simp only[bu]at this;exact⟨_, .refl,this⟩
def LH (B:List Tn) (x:Tr):B.findSome? (λt=>if(t.2.1.mt x).isSome then aa (mQ t) else none)=(o8 B x).map mQ:=by
 unfold o8
 induction B with
 |nil=>rfl
 |cons t B ih=>
  rw[d7,cc];cases e:(t.2.1.mt x).isSome with
  |true=>rfl
  |false=>simpa using ih
def IT{E:ah→lF→Prop}(L:rC B) (ha:S a=aa (.bP (B.map mQ))) (hf:x.br 0) (hr:20≤r) (h:Q (oI (o8 B x)) S):yJ (r+1) [.ref a,lA x] S Q E:=by
 obtain⟨r,rfl⟩:∃r',r=r'+1:=⟨r - 1,by lia⟩
 rw[yJ];ext;rw[ni ha];refine vR (S:=S) ?_ (λσ=>∃y,σ=[aa (.ref a),aa (lA x),y]) mQ (λt=>if(t.2.1.mt x).isSome then aa (mQ t) else none) B _ ⟨_,rfl⟩ (λt ht σ N hI hno hret=>?_) (λe σ hI=>?_) λw e S' sb=>?_
 ·exact ha
 ·obtain⟨y,rfl⟩:=hI;simp only[Md];have ee:mQ t= .bW [.str t.1,lA t.2.1,lA t.2.2]:=rfl;rw[ee];ext;rw[show nE [W.str t.1,lA t.2.1,lA t.2.2] 1=aa (lA t.2.1) from rfl];dsimp only;have h1:=L.d t ht;have h2:=L.w t ht;refine CH (by lia) hf (by lia) (λys hys q hq=>?_) λh0=>?_
  ·try ext
   rw[hys]at hret;exact hret _ rfl _ (.bQ .refl hq)
  ·try ext
   rw[h0]at hno;exact hno rfl _ _ ⟨_,rfl⟩ .refl
 ·obtain⟨y,rfl⟩:=hI;ext;rw[LH]at e;have:o8 B x=none:=by
   cases q:o8 B x with
   |none=>rfl
   |some t=>rw[q]at e;cases e
  rw[this]at h;exact⟨_, .refl,h⟩
 ·rw[LH]at e;cases q:o8 B x with
  |none=>rw[q]at e;cases e
  |some t=>
   rw[q]at e h;cases e;exact⟨_,sb,h⟩
mutual
theorem wT (B:List Tn):∀(t:Tr) (p:List Int),(t.op B p).length≤t.aq
 | .bl n,p=>by simp [Tr.op]
 | .nd s ts,p=>by
  have:=Nk B ts p 0;rw[Tr.op,a_,Tr.aq];split<;>simp<;>lia
theorem Nk (B:List Tn):∀(ts:List Tr) (p:List Int) (i:Nat),(pD B p i ts).length≤mO ts
 | [],p,i=>by simp [pD]
 |t::ts,p,i=>by
  have h1:=wT B t (p++[(i:Int)]);have h2:=Nk B ts p (i+1);rw[pD,a_,mO];lia
end
mutual
theorem Ja (L:rC B) (haf:f≠a):∀(t:Tr) {r:Nat}{p:List Int}{xs:List W}{S:lF}{Q:WK}{E:ah→lF→Prop},t.depth+25≤r→S a=aa (.bP (B.map mQ))→S f=aa (.bP xs)→xs.length+t.aq≤100000→p.length+t.depth≤1000→t.hd (λ_=>True)→
  Q .ci (bQ S f (.bP (xs++(t.op B p).map encX)))→xH (r+1) [.ref a,lA t,mE p, .ref f] S Q E
 | .bl n,r,p,xs,S,Q,E,hr,ha,hf,hx,hp,hh,h=>by simp [Tr.hd]at hh
 | .nd s ts,r,p,xs,S,Q,E,hr,ha,hf,hx,hp,hh,h=>by
  have ft:=t5 (m:=0) _ hh;simp only[Tr.depth]at hr hp;simp only[Tr.aq]at hx;simp only[Tr.hd]at hh;obtain⟨r,rfl⟩:∃r',r=r'+1:=⟨r - 1,by lia⟩
  rw[xH];have ee:lA (.nd s ts)= .bW (.str s::af ts):=by simp only[lA]
  ext;refine IT L ha ft (by lia) ?_;rw[Tr.op]at h;cases e:o8 B (.nd s ts) with
  |none=>
   rw[e]at h;simp only[aX]at h;simp only[oI];rw[ee]
   try ext
   exact Dx L haf ts (by lia) ha hf (by lia) (by lia) hh.2 λx5 x6=>⟨_, .refl,h⟩
  |some t=>
   rw[e]at h;have et:oI (aa t)= .bW [.str t.1,lA t.2.1,lA t.2.2]:=rfl;rw[et,ee]
   try ext
   simp only[ni hf,true_and];refine⟨m_ (by decide),qJ (by lia),?_⟩;refine Dx L haf ts (xs:=xs++[encX (p,t.1)]) (by lia) (by rw[nQ (bz haf)];exact ha) mV (by simp;lia) (by lia) hh.2 λx5 x6=>⟨_, .refl,?_⟩;rw[pM];simpa using h
theorem Dx (L:rC B) (haf:f≠a):∀(ts:List Tr) {r:Nat}{p:List Int}{i:Nat}{xs:List W}{S:lF}{E:WX}{D:m4}{t0 x4 x5 x6:Option W},nj ts+25≤r→S a=aa (.bP (B.map mQ))→S f=aa (.bP xs)→xs.length+mO ts≤100000→p.length+1+nj ts≤1000→hds (λ_=>True) ts→
  (∀x5 x6,D.nx [aa (.ref a),t0,aa (mE p),aa (.ref f),x4,x5,x6] (bQ S f (.bP (xs++(pD B p i ts).map encX))))→
  mS (pE (nU (mB 5) (nU (mB 6) pe))) (Fi (r+1) (xH (r+1))) E D (λ_=>True) (pL i (af ts)) [aa (.ref a),t0,aa (mE p),aa (.ref f),x4,x5,x6] S
 | [],r,p,i,xs,S,E,D,t0,x4,x5,x6,hr,ha,hf,hx,hp,hh,h=>by
  simp only[af,pL,mS];have:=h x5 x6;rw[pD,cy,bf,sF hf]at this;exact this
 |t::ts,r,p,i,xs,S,E,D,t0,x4,x5,x6,hr,ha,hf,hx,hp,hh,h=>by
  simp only[nj]at hr hp;simp only[mO]at hx;simp only[hds]at hh;simp only[af,pL];refine pV λN hN=>?_;simp only[Fi];ext;rw[HY];refine⟨m_ (by decide),m_ (by lia),?_⟩;have ol:=wT B t (p++[(i:Int)]);refine Ja L haf t (by lia) ha hf (by lia) (by simp;lia) hh.1 ?_;refine hN _ _ _ .refl trivial (Dx L haf ts (xs:=xs++(t.op B (p++[(i:Int)])).map encX) (by lia) (by rw[nQ (bz haf)];exact ha) mV (by simp;lia) (by lia) hh.2 λx5 x6=>?_);rw[pM];have:=h x5 x6;rw[pD,bK]at this;simpa using this
end
def Jz:ou (mE p) (mE q) S Q=(p.length+q.length≤sizeLine∧Q (mE (p++q)) S):=by
 unfold mE;rw[E_,ay,ay,bK]
def PB (B:List Tn):Prop:=∀t∈B,∀x∈t.2.1.bls,x.1.length≤4
def W0 (h:PB B):∀q∈sN B s n,q.length≤4:=λq hq=>by
 unfold sN at hq;cases e:nc B s with
 |none=>
  rw[e]at hq;obtain⟨i,_,rfl⟩:=aV.mp hq;simp
 |some t=>
  rw[e]at hq;obtain⟨x,hx,rfl⟩:=aV.mp hq;exact h t (bX e) x hx
section
variable {a:ai}{B:List Tn}{S:lF}{r:Nat}{Q:WK}{E:ah→lF→Prop}{t:Tr}
def Ak (L:rC B) (ha:S a=aa (.bP (B.map mQ))) (hd:t.depth≤60) (hr:t.depth+30≤r) (hw:t.aq≤1000) (hh:t.hd (λ_=>True)) (h:∀q,S q=none→Q (.ref q) (bQ S q (.bP ((t.op B []).map encX)))):uC (r+1) [.ref a,lA t] S Q E:=by
 obtain⟨r,rfl⟩:∃r',r=r'+1:=⟨r - 1,by lia⟩
 rw[uC];ext;refine⟨aQ _,λq hq=>⟨aQ _,?_⟩⟩;have hqa:q≠a:=λz=>by rw[z,ha]at hq;cases hq
 refine Ja L hqa t (p:=[]) (xs:=[]) (by lia) (keep ha hq) mV (by simp;lia) (by simp;lia) hh ?_;rw[pM,aX];exact⟨_, .refl,h q hq⟩
def Do{f:ai}{xs:List (List Int×ah)}(hf:S f=aa (.bP (xs.map encX))) (hl:xs.length≤10000) (h:∀q,S q=none→Q (.ref q) (bQ S q (.bP ((xs.map λx=>x.1).map mE)))):wI (r+1) [.ref f] S Q E:=by
 rw[wI];ext;rw[ni hf];refine qe (λσ=>∃y,σ=[y]) encX (λx=>mE x.1) ?_ xs [] _ ⟨none,rfl⟩ (by simp;lia) (λx hx σ R hI hR=>?_) ?_
 ·exact hf
 ·obtain⟨y,rfl⟩:=hI;simp only[Mm,encX];ext;exact hR _ _ ⟨_,rfl⟩ .refl
 ·rw[aX];intro q hq;have:=h q hq;rw[bu]at this;exact⟨_, .refl,this⟩
def Py (L:rC B) (ha:S a=aa (.bP (B.map mQ))) (hh:(Tr.nd s ts).hd (λ_=>True)) (hw:(Tr.nd s ts).aq≤1000) (hr:25≤r) (h1:o8 B (.nd s ts)=aa u) (h2:u.2.1.mt (.nd s ts)=aa ms) (h:Q (lA (.nd u.1 ms)) S):CS (r+1) [.ref a,lA (.nd s ts)] S Q E:=by
 obtain⟨r,rfl⟩:∃r',r=r'+1:=⟨r - 1,by lia⟩
 have ht:u∈B:=bX h1;have ft:=t5 (m:=0) _ hh;have hm:=wW u.2.1 _ _ h2 hh;have hl:=qI ms;rw[CS];ext;refine IT L ha ft (by lia) ?_;rw[h1];have et:oI (aa u)= .bW [.str u.1,lA u.2.1,lA u.2.2]:=rfl;rw[et]
 try ext
 rw[show nE [W.str u.1,lA u.2.1,lA u.2.2] 1=aa (lA u.2.1) from rfl];have g1:=L.d u ht;have g2:=L.w u ht;refine⟨m_ (by decide),CH (by lia) ft (by lia) (λys hys q hq=>?_) λh0=>by rw[h2]at h0;cases h0⟩
 rw[h2]at hys;cases hys
 try ext
 rw[pP];simp only[lA]at h;exact⟨m_ (by lia),_, .bQ .refl hq,h⟩
end
def RT (h:nc B s=none):sN B s n=(bx n).map λ(i:Nat)=>[(i:Int)]:=by unfold sN;rw[h]
def XX (h:nc B s=aa t):sN B s n=t.2.1.bls.map λx=>x.1:=by unfold sN;rw[h]
def qa.len:∀{qs:List (List Int)}{ts us:List Tr},qa B wn n p qs ts us→us.length=ts.length:=by
 intro qs
 induction qs with
 |nil=>intro ts us h;cases h;rfl
 |cons q qs ih=>intro ts us h;cases h with |cons _ h=>rw[aU,aU,ih h]
def YS (n:Nat) (hP4:∀{t u:Tr}{p:List Int}{r:Nat}{S:lF}{Q:WK}{E:ah→lF→Prop},Wi B wn n p t u→n+40≤r+1→S a=aa (.bP (B.map mQ))→S w=aa (.dct (uG wn))→t.hd (λ_=>True)→t.aq≤1000→p.length+4*n≤1000→Q (lA u) S→uK (r+1) [.ref a,lA t,mE p, .ref w] S Q E) :
  ∀{ts us:List Tr}{qs:List (List Int)}{p:List Int},qa B wn n p qs ts us→ ∀{r:Nat}{xs:List W}{f:ai}{S:lF}{G:lF→Prop}{E:WX}{D:m4}{t0 x4 x6 x7:Option W},(∀q∈qs,q.length≤4)→n+40≤r+1→S a=aa (.bP (B.map mQ))→S w=aa (.dct (uG wn))→S f=aa (.bP xs)→f≠a→f≠w→xs.length+ts.length≤10000→mO ts≤1000→hds (λ_=>True) ts→p.length+4+4*n≤1000→(∀o,G (bQ S f o))→
  (∀x6 x7,D.nx [aa (.ref a),t0,aa (mE p),aa (.ref w),x4,aa (.ref f),x6,x7] (bQ S f (.bP (xs++af us))))→
  mS (pE (nU (mB 6) (nU (mB 7) pe))) (A2 (r+1) (uK (r+1))) E D G (m8 (qs.map mE) (af ts)) [aa (.ref a),t0,aa (mE p),aa (.ref w),x4,aa (.ref f),x6,x7] S:=by
 intro ts us qs
 induction qs generalizing ts us with
 |nil=>
  intro p W r xs f S G E D t0 x4 x6 x7 hq hr ha hw hf n1 n2 hx hwt hh hp hG h;cases W;simp only[cy,af,m8,mS];have:=h x6 x7;simp only[af,bf,sF hf]at this;exact this
 |cons q qs ih=>
  intro p W r xs f S G E D t0 x4 x6 x7 hq hr ha hw hf n1 n2 hx hwt hh hp hG h;cases W with
  | @cons _ _ _ _ t u ts us h1 h2=>
  simp only[mO]at hwt;simp only[hds]at hh;simp only[aU]at hx;have hq4:=hq q aL;simp only[aC,af,m8];refine pV λN hN=>?_;simp only[A2];ext;simp only[ni hf,true_and];rw[Jz];refine⟨m_ (by lia),hP4 h1 hr ha hw hh.1 (by lia) (by simp;lia) ?_⟩
  try ext
  rw[ni hf];refine⟨qJ (by lia),?_⟩;refine hN _ _ _ .refl (hG _) (ih h2 (xs:=xs++[lA u]) (λq' hq'=>hq q' (aI _ hq')) hr (by rw[nQ (bz n1)];exact ha) (by rw[nQ (bz n2)];exact hw) mV n1 n2 (by simp;lia) (by lia) hh.2 hp (λo=>by rw[pM];exact hG o) λx6 x7=>?_)
  rw[pM];have:=h x6 x7;simpa [af]using this
theorem J1 (L:rC B) (hP:PB B):∀(n:Nat) {t u:Tr}{p:List Int}{r:Nat}{S:lF}{Q:WK}{E:ah→lF→Prop},Wi B wn n p t u→n+40≤r+1→S a=aa (.bP (B.map mQ))→S w=aa (.dct (uG wn))→t.hd (λ_=>True)→t.aq≤1000→p.length+4*n≤1000→Q (lA u) S→uK (r+1) [.ref a,lA t,mE p, .ref w] S Q E
 |0,t,u,p,r,S,Q,E,M,hr,ha,hw,hh,hwt,hp,h=>by cases M
 |n+1,t,u,p,r,S,Q,E,M,hr,ha,hw,hh,hwt,hp,h=>by
  obtain⟨r,rfl⟩:∃r',r=r'+1:=⟨r - 1,by lia⟩
  have tail:∀{s:ah}{ts us:List Tr}{t0:Option W}{E':WX},qa B wn n p (sN B s ts.length) ts us→hds (λ_=>True) ts→mO ts≤1000→Q (lA (.nd s us)) S→
    (1:Nat)=1→ ∀f,S f=none→yt (r+1) [.ref a, .bW (.str s::af ts)] (bQ S f (.bP [])) (λx S1=>uM x S1 λxs G=>mS (pE (nU (mB 6) (nU (mB 7) pe))) (A2 (r+1) (uK (r+1))) E' { nx:=mY (my ou (m9 (iR (my mH (iN 4) (wC (W.int 0))) ae)) (wB rG (iR (iN 5) ae))) E' { nx:=λx S'=>∃S'',Sub S'' S'∧Q W.ci S'',rt:=λw S'=>∃S'',Sub S'' S'∧Q w S'' },rt:=λw S'=>∃S'',Sub S'' S'∧Q w S'' } (λS'=>G S'∧True) (m8 xs (af ts)) [aa (.ref a),t0,aa (mE p),aa (.ref w),aa (.bW (.str s::af ts)),aa (.ref f),none,none] S1) E:=λ{s ts us t0 E'} WW hd hw' hQ _ f hf=>by
   have hk:=qI ts;have n1:f≠a:=λz=>by rw[z,ha]at hf;cases hf
   have n2:f≠w:=λz=>by rw[z,hw]at hf;cases hf
   have ee:W.bW (W.str s::af ts)=lA (.nd s ts):=by simp only[lA]
   rw[ee];refine Rp L (keep ha hf) (by lia) (by lia) λq hq=>?_;rw[Cj,yB,←ee];obtain⟨hq1,hq2⟩:=rf hq;refine YS n (J1 L hP n) WW (W0 hP) (by lia) (keep (keep ha hf) hq) (keep (keep hw hf) hq) (keep mV hq) n1 n2 (by simp;lia) hw' hd (by lia) (λo=>⟨?_,trivial⟩) λx6 x7=>?_
   ·show bQ _ f o q=_;rw[nQ hq2];exact mV
   ·have hlu:us.length≤1000:=by
     have:=qa.len WW;lia
    ext;rw[pP];simp only[lA]at hQ;refine⟨m_ (by decide),m_ (by lia),S,?_,hQ⟩;rw[OF hq2];exact .bQ (.bQ .refl hf) hq1
  cases M with
  | @no _ _ s ts us h1 h2 h3=>
   simp only[Tr.hd]at hh;simp only[Tr.aq]at hwt;rw[uK];simp only[lA];ext;rw[Gh hw,KI,decide_eq_false h1]
   try ext
   refine⟨aQ _,λf hf=>?_⟩;have:=tail (t0:=aa (.bW (.str s::af ts))) (E':=λc x S'=>E c S') (by rw[RT h2];exact h3) hh.2 (by lia) h rfl f hf;simpa only[and_true]using this
  | @yes _ _ s ts us ms t h1 h2 h3 h4 h5=>
   have hm:=wW t.2.1 _ _ h3 hh;rw[uK];ext;rw[Gh hw,KI,decide_eq_true h1]
   try ext
   refine Py L ha hh hwt (by lia) h2 h3 ?_;simp only[lA]
   try ext
   refine⟨aQ _,λf hf=>?_⟩;have:=tail (t0:=aa (.bW (.str s::af ts))) (E':=λc x S'=>E c S') (by rw[XX h4];exact h5) hm.1 (by lia) h rfl f hf;simpa only[and_true]using this
theorem NY:∀(p q:List Int),oY (n_ S (n+1)) (p.map W.int) (q.map W.int)=aa (decide (p=q))
 | [],[]=>by simp [oY]
 | [],j::q=>by simp [oY]
 |i::p,[]=>by simp [oY]
 |i::p,j::q=>by
  rw[aC,aC,oY,J0,NY p q];simp only[bJ];rw[f_];simp
def Eh (p q:List Int):n_ S (n+2) (mE p) (mE q)=aa (decide (p=q)):=by
 unfold mE;rw[Nw,NY]
theorem FD:∀ys:List (List Int),rM S (mE x) (ys.map mE)=aa (decide (x∈ys))
 | []=>by simp [rM]
 |y::ys=>by
  rw[aC,rM,Eh (n:=57),FD ys];simp only[bJ];rw[f_];simp only[jr,decide_eq_true_eq,az];exact⟨λh=>h.elim (λe=> .inl e.symm) .inr,λh=>h.elim (λe=> .inl e.symm) .inr⟩
section
variable {a:ai}{B:List Tn}{wn:List (List Int)}{S:lF}{r n:Nat}{Q:WK}{E:ah→lF→Prop}{t u:Tr}{f:ai}
def Fl (L:rC B) (hP:PB B) (M:Wi B wn n [] t u) (hn:n≤60) (hr:110≤r) (ha:S a=aa (.bP (B.map mQ))) (hf:S f=aa (.bP (wn.map mE))) (hh:t.hd (λ_=>True)) (hw:t.aq≤1000) (hl:wn.length≤10000) (h:Q (lA u) S):xF (r+1) [.ref a,lA t, .ref f] S Q E:=by
 obtain⟨r,rfl⟩:∃r',r=r'+1:=⟨r - 1,by lia⟩
 rw[xF];ext;refine⟨aQ _,?_⟩;rw[ni hf];refine qe (λσ=>∃y,σ=[y]) mE (λp=>W.bW [mE p, .bl true]) ?_ wn [] _ ⟨none,rfl⟩ (by simp;lia) (λx hx σ R hI hR=>?_) ?_
 ·exact hf
 ·obtain⟨y,rfl⟩:=hI;simp only[ID];ext;exact⟨m_ (by decide),hR _ _ ⟨_,rfl⟩ .refl⟩
 ·rw[aX];have e:rm (wn.map λp=>W.bW [mE p, .bl true])=aa wn:=NI wn;rw[e];refine⟨by lia,λd hd=>?_⟩;have e0:W.bW []=mE []:=rfl;rw[e0];exact J1 L hP n M (by lia) (keep ha hd) mV hh hw (by simp;lia) ⟨_, .bQ .refl hd,h⟩
def Y_ (L:rC B) (hP:PB B) (M:Wi B wn n [] t u) (hn:n≤60) (hr:115≤r) (ha:S a=aa (.bP (B.map mQ))) (hf:S f=aa (.bP (wn.map mE))) (hh:t.hd (λ_=>True)) (hw:t.aq≤1000) (hd:t.depth≤60) (hl:wn.length≤10000) (hks:((t.op B []).map λx=>x.1)=ks) (hin:∀x∈wn,x∈ks) (h:Q (lA u) S):BS (r+1) [.ref a,lA t, .ref f] S Q E:=by
 obtain⟨r,rfl⟩:∃r',r=r'+1:=⟨r - 1,by lia⟩
 have ol:=wT B t [];rw[BS];ext;refine Ak L ha hd (by lia) hw hh λq hq=>?_;refine Do mV (by lia) λq2 hq2=>?_;rw[hks];have f2:bQ (bQ S q (Ob.bP ((t.op B []).map encX))) q2 (Ob.bP (ks.map mE)) q2=aa (.bP (ks.map mE)):=mV;have ff:=keep (x:=Ob.bP (ks.map mE)) (keep (x:=Ob.bP ((t.op B []).map encX)) hf hq) hq2;have fa:=keep (x:=Ob.bP (ks.map mE)) (keep (x:=Ob.bP ((t.op B []).map encX)) ha hq) hq2;have sub:Sub S (bQ (bQ S q (Ob.bP ((t.op B []).map encX))) q2 (Ob.bP (ks.map mE))):= .trans (.bQ .refl hq) (.bQ .refl hq2);generalize bQ (bQ S q (Ob.bP ((t.op B []).map encX))) q2 (Ob.bP (ks.map mE))=S2 at f2 ff fa sub⊢
 try ext
 rw[ni ff];refine vR (S:=S2) ?_ (λσ=>∃x,σ=[aa (.ref a),aa (lA t),aa (.ref f),aa (.ref q2),x]) mE (λ_=>none) wn _ ⟨_,rfl⟩ (λx hx σ N hI hno hret=>?_) (λe σ hI=>?_) λw e S' sb=>?_
 ·exact ff
 ·obtain⟨y,rfl⟩:=hI;unfold Oo;ext;rw[ni f2,FD,decide_eq_true (hin x hx)]
  try ext
  exact hno rfl _ _ ⟨_,rfl⟩ .refl
 ·obtain⟨y,rfl⟩:=hI
  try ext
  exact Fl L hP M hn (by lia) fa ff hh hw hl ⟨_,sub,h⟩
 ·rw[lL.mpr (λ_ _=>rfl)]at e;cases e
end
theorem GR:∀(ls us:List Tr),(nT ls us).isSome=(ls.zip us).all λx=>(x.1.mt x.2).isSome
 | [],us=>by simp [nT]
 |l::ls,[]=>by simp [nT]
 |l::ls,u::us=>by
  rw[nT,hZ,eM,←GR ls us];cases l.mt u with
  |none=>rfl
  |some xs=>cases nT ls us<;>rfl
theorem Kj:∀(ls us:List Tr),m8 (af ls) (af us)=(ls.zip us).map λx=>W.bW [lA x.1,lA x.2]
 | [],us=>by simp [af,m8]
 |l::ls,[]=>by simp [af,m8]
 |l::ls,u::us=>by
  simp [af,m8,Kj ls us]
theorem Ln{α:Type}(g:α→Bool):∀xs:List α,sG (xs.map λx=>W.bl (g x))=aa (xs.map g)
 | []=>rfl
 |x::xs=>by rw[aC,sG,Ln g xs];rfl
theorem FW:∀(d:Nat) {l t:Tr}{r:Nat}{Q:WK}{E:ah→lF→Prop},l.depth≤d→d≤r→t.br 0→l.aq≤1000→Q (.bl (l.mt t).isSome) S→vw (r+1) [lA l,lA t] S Q E
 |0,l,t,r,Q,E,hd,hr,hf,hw,h=>by have:=qD l;lia
 |d+1, .bl n,t,r,Q,E,hd,hr,hf,hw,h=>by
  rw[vw];simp only[lA];ext;simp only[Tr.mt,jX]at h;exact⟨_, .refl,h⟩
 |d+1, .nd s ls, .bl n,r,Q,E,hd,hr,hf,hw,h=>by
  simp only[Tr.br]at hf;lia
 |d+1, .nd s ls, .nd z us,r,Q,E,hd,hr,hf,hw,h=>by
  simp only[Tr.br]at hf;simp only[Tr.depth]at hd;simp only[Tr.aq]at hw;obtain⟨r,rfl⟩:∃r',r=r'+1:=⟨r - 1,by lia⟩
  have en:∀s ts,lA (.nd s ts)= .bW (.str s::af ts):=λs ts=>by simp [lA]
  rw[vw];rw[en,en];ext;rw[pP,pP];have en2:(((ls.length+1:Nat):Int) == ((us.length+1:Nat):Int))=(ls.length == us.length):=by
   rw[f_,beq_iff_eq,beq_iff_eq];lia
  rw[en2];simp only[Tr.mt]at h;cases e1:(s == z) with
  |false=>
   rw[e1]at h;exact⟨_, .refl,h⟩
  |true=>
   rw[e1]at h;rw[if_neg (by decide)];cases e2:(ls.length == us.length) with
   |false=>
    rw[e2]at h;exact⟨_, .refl,h⟩
   |true=>
    rw[e2]at h;rw[if_neg (by decide)];simp only[Bool.and_self,if_true]at h;have hk:=qI ls;rw[Kj];refine qe (λσ=>∃x y,σ=[x,y]) (λx:Tr×Tr=> .bW [lA x.1,lA x.2]) (λx=> .bl (x.1.mt x.2).isSome) trivial (ls.zip us) [] _ ⟨none,none,rfl⟩ (by simp;lia) (λx hx σ R hI hR=>?_) ?_
    ·obtain⟨x1,x2,rfl⟩:=hI;simp only[MG];ext;have m1:=(gd hx).1;have m2:=(gd hx).2;have hdd:=p7 m1;have hww:=pk m1;exact FW d (by lia) (by lia) (wc hf m2) (by lia) (hR _ _ ⟨_,_,rfl⟩ .refl)
    ·rw[aX,Ln];refine⟨_, .refl,?_⟩;rw[GR]at h;rw[eW];exact h
theorem Jd:∀(q:List Int) {t u:Tr}{x2:Option W},t.at q=aa u→(∀x2,D.nx [aa (lA u),x1,x2] S)→mS (mB 2) (DV r mK) E D (λ_=>True) (q.map W.int) [aa (lA t),x1,x2] S
 | [],t,u,x2,h,hD=>by
  cases t<;>simp only[Tr.at,bJ]at h<;>subst h<;>simpa [mS]using hD x2
 |i::q, .bl n,u,x2,h,hD=>by simp [Tr.at]at h
 |i::q, .nd s ts,u,x2,h,hD=>by
  obtain⟨a,h2,e1,e2⟩:=pU h;rw[aC];refine pV λN hN=>?_;simp only[DV,lA];ext;have ei:(i:Int)+1=((i.toNat+1:Nat):Int):=by lia
  rw[ei,rS,bT,o6,aT,e1];exact hN _ _ _ .refl trivial (Jd q e2 hD)
def Ko{E:ah→lF→Prop}(ha:t.at q=aa u) (h:Q (lA u) S):zM (r+1) [lA t,mE q] S Q E:=by
 rw[zM];simp only[mE];ext;refine Jd q ha λx2=>?_;ext;exact⟨_, .refl,h⟩
def Xm{x:List Int}{t:Tr}{p:List Int}(h:x∈t.pl p):x.length<p.length+t.depth:=by
 rw[←xr,aV]at h;obtain⟨⟨q,u⟩,hm,rfl⟩:=h;obtain⟨r,rfl,_,hr⟩:=xx t p q u hm;simp;lia
mutual
theorem Hh (p:List Int):∀(t:Tr) (q:List Int),t.pl (p++q)=(t.pl q).map (p++ ·)
 | .bl _,q=>by simp [Tr.pl]
 | .nd _ ts,q=>by simp [Tr.pl,Mj p ts q 0]
theorem Mj (p:List Int):∀(ts:List Tr) (q:List Int) (i:Nat),qw (p++q) i ts=(qw q i ts).map (p++ ·)
 | [],q,i=>by simp [qw]
 |t::ts,q,i=>by rw[qw,qw,bK,←Hh p t,Mj p ts q (i+1),bD]
end
theorem I_{E:WX}{D:m4}{x0:Option W}{r:Nat}:∀(ts:List Tr) (one:∀u∈ts,∀{S:lF}{Q:WK}{E:ah→lF→Prop},(∀S' b,Sub S S'→S' b=aa (.bP ((u.pl []).map mE))→Q (.ref b) S')→uZ r [lA u] S Q E) (i:Nat) {acc:List (List Int)}{f:ai}{S:lF}{x2 x3:Option W},S f=aa (.bP (acc.map mE))→acc.length+mO ts≤100000→nj ts≤1000→
  (∀S' g x2 x3,Sub S S'→S' g=aa (.bP ((acc++qw [] i ts).map mE))→D.nx [x0,aa (.ref g),x2,x3] S')→mS (pE (nU (mB 2) (nU (mB 3) pe))) (DI r (uZ r)) E D (λ_=>True) (pL i (af ts)) [x0,aa (.ref f),x2,x3] S
 | [],one,i,acc,f,S,x2,x3,hf,hl,hd,h=>by
  have:=h S f x2 x3 .refl (by simpa [qw]using hf);simpa [mS,pL,af]using this
 |t::ts,one,i,acc,f,S,x2,x3,hf,hl,hd,h=>by
  simp only[nj]at hd;simp only[mO]at hl;simp only[af,pL];refine pV λN hN=>?_;simp only[DI];ext;refine one t aL λS1 b sb hb=>?_;dsimp only;rw[ni hb];have hpl:(t.pl []).length=t.aq:=by rw[←xr,ay,vH]
  refine qe (λσ=>∃x,σ=[x,aa (.int i)]) mE (λq=>mE ((i:Int)::q)) hb (t.pl []) [] _ ⟨none,rfl⟩ (by simp;lia) (λq hq σ R hI hR=>?_) ?_
  ·obtain⟨x,rfl⟩:=hI;have hq2:=Xm hq;simp only[HG];ext;have e1:W.bW [.int (i:Int)]=mE [(i:Int)]:=rfl;rw[e1,Jz];refine⟨m_ (by decide),m_ (by simp at hq2⊢;lia),hR _ _ ⟨_,rfl⟩ .refl⟩
  ·rw[aX,ni (sb _ _ hf)];refine⟨m_ (by simp;lia),λa ha=>?_⟩;have e:acc.map mE++(t.pl []).map (λq=>mE ((i:Int)::q))=(acc++t.pl [(i:Int)]).map mE:=by
    have:=Hh [(i:Int)] t [];rw[bf]at this;rw[bK,this,bu];rfl
   rw[e];have hpl2:(t.pl [(i:Int)]).length=t.aq:=by rw[←xr,ay,vH]
   refine hN _ _ _ .refl trivial (I_ ts (λu hu=>one u (aI _ hu)) (i+1) mV (by simp;lia) (by lia) λS' g x2 x3 sb' hg=>?_);exact h S' g x2 x3 ((sb.trans (.new ha)).trans sb') (by rw[qw,←bD];exact hg)
theorem Kc:∀(d:Nat) {t:Tr}{r:Nat}{S:lF}{Q:WK}{E:ah→lF→Prop},t.depth≤d→d≤r→t.aq≤1000→t.depth≤1000→(∀S' b,Sub S S'→S' b=aa (.bP ((t.pl []).map mE))→Q (.ref b) S')→uZ (r+1) [lA t] S Q E
 |0,t,r,S,Q,E,hd,hr,hw,hz,h=>by have:=qD t;lia
 |d+1, .bl n,r,S,Q,E,hd,hr,hw,hz,h=>by
  rw[uZ];simp only[lA];ext;refine⟨m_ (by decide),m_ (by decide),λa ha=>⟨_, .refl,h _ a (.new ha) mV⟩⟩
 |d+1, .nd s ts,r,S,Q,E,hd,hr,hw,hz,h=>by
  simp only[Tr.depth]at hd hz;simp only[Tr.aq]at hw;obtain⟨r,rfl⟩:∃r',r=r'+1:=⟨r - 1,by lia⟩
  rw[uZ];simp only[lA];ext;refine⟨m_ (by decide),m_ (by decide),λa ha=>?_⟩;have en:W.bW (.str s::af ts)=lA (.nd s ts):=by simp [lA]
  try ext
  refine I_ ts (λu hu {S Q E} q=>Kc d (by have:=p7 hu;lia) (by lia) (by have:=pk hu;lia) (by have:=p7 hu;lia) q) 0 (acc:=[[]]) mV (by simp;lia) (by lia) λS' g x2 x3 sb hg=>?_;ext;exact⟨_, .refl,h _ g ((Sub.new ha).trans sb) (by rw[Tr.pl];exact hg)⟩
theorem Mf{α:Type}(P:α→Bool):∀(bs:List α),bs.Nodup→(∀u∈bs,∀v∈bs,P u=true→P v=true→u=v)→bs.filter P=(bs.find? P).toList
 | [],_,_=>rfl
 |b::bs,hn,hu=>by
  rw[eE]at hn;rw[eS,cc];cases e:P b with
  |false=>simpa using Mf P bs hn.2 λu h1 v h2=>hu u (aI _ h1) v (aI _ h2)
  |true=>
   simp only[if_true,Option.toList_some,fG,true_and];rw[List.filter_eq_nil_iff];intro v hv pv;have:=hu b aL v (aI _ hv) e pv;subst this;exact hn.1 hv
noncomputable def sP (B:List Tn) (x:List Int×Tr):List (List Int×ah):=(o8 B x.2).toList.map λb=>(x.1,b.1)
mutual
theorem AX (B:List Tn):∀(t:Tr) (p:List Int),t.br 0→(t.plt p).flatMap (sP B)=t.op B p
 | .bl n,p,h=>by
  simp only[Tr.br]at h;lia
 | .nd s ts,p,h=>by
  simp only[Tr.br]at h;rw[Tr.plt,cw,KM B ts p 0 h,Tr.op,sP];cases o8 B (.nd s ts)<;>rfl
theorem KM (B:List Tn):∀(ts:List Tr) (p:List Int) (i:Nat),m7 0 ts→(oN p i ts).flatMap (sP B)=pD B p i ts
 | [],p,i,h=>by simp [oN,pD]
 |t::ts,p,i,h=>by
  simp only[m7]at h;rw[oN,pD,lW,AX B t _ h.1,KM B ts p (i+1) h.2]
end
theorem Ed (L:rC B) (hfa:f≠a) (hu:u.br 0) (hat:t.at q=aa u) (hr:10≤r):∀(bs:List Tn) {xs:List W}{S:lF}{x4:Option W},(∀b∈bs,b∈B)→S a=aa (.bP (B.map mQ))→S f=aa (.bP xs)→xs.length+bs.length≤100000→
  (∀x4,D.nx [aa (.ref a),aa (lA t),aa (.ref f),aa (mE q),x4] (bQ S f (.bP (xs++((bs.filter λb=>(b.2.1.mt u).isSome).map λb=>(q,b.1)).map encX))))→
  mS (mB 4) (Ei (r+1) mK) E D (λS'=>S' a=aa (.bP (B.map mQ))) (bs.map mQ) [aa (.ref a),aa (lA t),aa (.ref f),aa (mE q),x4] S
 | [],xs,S,x4,hb,ha,hf,hl,h=>by
  have:=h x4;simp only[List.filter_nil,cy,bf,sF hf]at this;simpa [mS]using this
 |b::bs,xs,S,x4,hb,ha,hf,hl,h=>by
  simp only[aU]at hl;rw[aC];refine pV λN hN=>?_;simp only[Ei];have eb:mQ b= .bW [.str b.1,lA b.2.1,lA b.2.2]:=rfl;rw[eb];ext;refine Ko hat ?_;have hm:=hb b aL;have h1:=L.d b hm;have h2:=L.w b hm;refine FW 4 h1 (by lia) hu (by lia) ?_;rw[←eb];ext;cases e:(b.2.1.mt u).isSome with
  |false=>
   simp only[cE,if_false];refine hN _ _ _ .refl ha (Ed L hfa hu hat hr bs (λy hy=>hb y (aI _ hy)) ha hf (by lia) λx4=>?_);have:=h x4;rw[eS,e]at this;simpa using this
  |true=>
   simp only[if_true,ni hf];refine⟨trivial,m_ (by decide),qJ (by lia),?_⟩;have ha':bQ S f (Ob.bP (xs++[W.bW [mE q,W.str b.1]])) a=aa (.bP (B.map mQ)):=by rw[nQ (bz hfa)];exact ha
   refine hN _ _ _ .refl ha' (Ed L hfa hu hat hr bs (λy hy=>hb y (aI _ hy)) ha' mV (by simp;lia) λx4=>?_);have:=h x4;rw[eS,e]at this;rw[pM];simpa [encX]using this
theorem Jp (L:rC B) (hfa:f≠a) (hfc:f≠c) (hr:10≤r) (hn:B.Nodup) (hB:B.length≤100) (U:∀x:Tr,∀u∈B,∀v∈B,(u.2.1.mt x).isSome=true→(v.2.1.mt x).isSome=true→u=v):∀(ys:List (List Int×Tr)) {xs:List W}{S:lF}{x3 x4:Option W},(∀y∈ys,t.at y.1=aa y.2∧y.2.br 0)→S a=aa (.bP (B.map mQ))→S c=aa (.bP ps)→S f=aa (.bP xs)→xs.length+100*ys.length+100≤100000→
  (∀x3 x4,D.nx [aa (.ref a),aa (lA t),aa (.ref f),x3,x4] (bQ S f (.bP (xs++(ys.flatMap (sP B)).map encX))))→
  mS (mB 3) (Dj (r+1) mK) E D (λS'=>S' c=aa (.bP ps)) (ys.map λy=>mE y.1) [aa (.ref a),aa (lA t),aa (.ref f),x3,x4] S
 | [],xs,S,x3,x4,hy,ha,hc,hf,hl,h=>by
  have:=h x3 x4;simp only[cZ,cy,bf,sF hf]at this;simpa [mS]using this
 |y::ys,xs,S,x3,x4,hy,ha,hc,hf,hl,h=>by
  simp only[aU]at hl;rw[aC];refine pV λN hN=>?_;simp only[Dj];ext;rw[ni ha];have hy0:=hy y aL;have eo:(B.filter λb=>(b.2.1.mt y.2).isSome).map (λb=>(y.1,b.1))=sP B y:=by
   rw[Mf _ B hn (U y.2)];rfl
  have ol:(sP B y).length≤1:=by
   unfold sP;cases o8 B y.2<;>simp
  refine Ed L hfa hy0.2 hy0.1 hr B (λb hb=>hb) ha hf (by lia) λx4=>?_;rw[eo];have hc':bQ S f (Ob.bP (xs++(sP B y).map encX)) c=aa (.bP ps):=by rw[nQ (bz hfc)];exact hc
  have ha':bQ S f (Ob.bP (xs++(sP B y).map encX)) a=aa (.bP (B.map mQ)):=by rw[nQ (bz hfa)];exact ha
  refine hN _ _ _ .refl hc' (Jp L hfa hfc hr hn hB U ys (λz hz=>hy z (aI _ hz)) ha' hc' mV (by simp;lia) λx3 x4=>?_);have:=h x3 x4;rw[cw,bK]at this;rw[pM];simpa using this
mutual
theorem GE:∀(t:Tr) (p:List Int),t.br 0→ ∀y∈t.plt p,y.2.br 0
 | .bl n,p,h,y,hy=>by
  simp only[Tr.br]at h;lia
 | .nd s ts,p,h,y,hy=>by
  have h':=h;simp only[Tr.br]at h';rw[Tr.plt,az]at hy;obtain rfl |hy:=hy
  ·exact h
  ·exact Nl ts p 0 h' y hy
theorem Nl:∀(ts:List Tr) (p:List Int) (i:Nat),m7 0 ts→ ∀y∈oN p i ts,y.2.br 0
 | [],p,i,h,y,hy=>by simp [oN]at hy
 |t::ts,p,i,h,y,hy=>by
  simp only[m7]at h;rw[oN,bn]at hy;obtain hy |hy:=hy
  ·exact GE t _ h.1 y hy
  ·exact Nl ts p (i+1) h.2 y hy
end
def Yw{E:ah→lF→Prop}(L:rC B) (hn:B.Nodup) (hB:B.length≤100) (U:∀x:Tr,∀u∈B,∀v∈B,(u.2.1.mt x).isSome=true→(v.2.1.mt x).isSome=true→u=v) (ha:S a=aa (.bP (B.map mQ))) (hd:t.depth≤60) (hr:t.depth+20≤r) (hw:t.aq≤900) (ht:t.br 0)
  (h:∀S' b,Sub S S'→S' b=aa (.bP ((t.op B []).map encX))→Q (.ref b) S'):vk (r+1) [.ref a,lA t] S Q E:=by
 obtain⟨r,rfl⟩:∃r',r=r'+1:=⟨r - 1,by lia⟩
 rw[vk];ext;refine⟨aQ _,λf hf=>?_⟩;refine Kc t.depth (aA _) (by lia) (by lia) (by lia) λS1 c sb hc=>?_;have ff:S1 f=aa (.bP []):=sb _ _ mV;have fa:S1 a=aa (.bP (B.map mQ)):=sb _ _ (keep ha hf);have hfa:f≠a:=by
  rintro rfl;rw[hf]at ha;cases ha
 have ep:(t.pl []).map mE=(t.plt []).map λy=>mE y.1:=by rw[←xr,bu];rfl
 have hfc:f≠c:=by
  rintro rfl;rw[ff]at hc;have e:=congrArg dH (Ob.bP.inj (aK hc));rw[ep,ay,vH]at e;have:=rQ t;simp at e;lia
 try ext
 rw[ni hc,ep];rw[ep]at hc;have hpl:=vH t [];refine Jp L hfa hfc (by lia) hn hB U (t.plt []) (λy hy=>⟨(KB hy).1,GE t [] ht y hy⟩) fa hc ff (by simp;lia) λx3 x4=>?_;ext;rw[AX B t [] ht];exact⟨_, .refl,h _ f (Sub.bQ ((Sub.new hf).trans sb) hf) mV⟩
section
variable {c:Int→Nat}
def vK (c:Int→Nat):Prop:=∀x:Int,0≤x→x<8→c x≤1
def vK.ak (hc:vK c):∀x:Int,0≤x→x<8→uR c x=0:=λx h0 h1=>by
 have:=hc x h0 h1;unfold uR;split<;>lia
end
def Pa (ha:S a=aa (.bP xs)) (hb:S b=aa (.bP xs)) (h:oY (n_ S n) xs xs=aa true):n_ S (n+1) (.ref a) (.ref b)=aa true:=by
 show(match S a with
  |some (.bP xs)=>match S b with
   |some (.bP ys)=>oY (n_ S n) xs ys
   |_=>none
  |_=>none)=aa true
 rw[ha,hb];exact h
def tj (f:Int):vK (nK f):=λx _ _=>xK f x
section
variable {c d:Int→Nat}
def yI{c d:Int→Nat}(hc:vK c) (hd:vK d):UI c d:=λx h0 h1=> .inl ⟨hc x h0 h1,hd x h0 h1⟩
end
noncomputable def u1 (B:List Tn) (p:Pl):List (List Int×ah):=Lr (nK 1) (p.ns B [])
theorem J6:∀(ls us:List Tr) (one:∀l∈ls,∀{u:Tr}{ms:List Tr}{S:lF}{Q:WK}{E:ah→lF→Prop},l.mt u=aa ms→(∀S' b,Sub S S'→S' b=aa (.bP (af ms))→Q (.ref b) S')→u0 r [lA l,lA u] S Q E) {ms acc:List Tr}{f:ai}{S:lF}{x3 x4:Option W},nT ls us=aa ms→S f=aa (.bP (af acc))→acc.length+mO ls≤100000→
  (∀S' g x3 x4,Sub S S'→S' g=aa (.bP (af (acc++ms)))→D.nx [x0,x1,aa (.ref g),x3,x4] S')→mS (pE (nU (mB 3) (nU (mB 4) pe))) (D5 r (u0 r)) E D (λ_=>True) (m8 (af ls) (af us)) [x0,x1,aa (.ref f),x3,x4] S
 | [],us,one,ms,acc,f,S,x3,x4,hm,hf,hl,h=>by
  simp only[nT,bJ]at hm;subst hm;have:=h S f x3 x4 .refl (by simpa using hf);simpa [mS,m8,af]using this
 |l::ls,[],one,ms,acc,f,S,x3,x4,hm,hf,hl,h=>by
  simp only[nT,bJ]at hm;subst hm;have:=h S f x3 x4 .refl (by simpa using hf);simpa [mS,m8,af]using this
 |l::ls,u::us,one,ms,acc,f,S,x3,x4,hm,hf,hl,h=>by
  simp only[nT]at hm;cases e1:l.mt u with
  |none=>rw[e1]at hm;cases hm
  |some xs=>
   cases e2:nT ls us with
   |none=>rw[e1,e2]at hm;cases hm
   |some ys=>
    rw[e1,e2]at hm;cases hm;have l1:=ES l u xs e1;simp only[mO]at hl;simp only[af,m8];refine pV λN hN=>?_;simp only[D5];ext;refine one l aL e1 λS1 b sb hb=>?_
    try rw[Ib]
    rw[ni (sb _ _ hf),ni hb,pP,pP,←xB];refine⟨m_ (by lia),λa ha=>?_⟩;refine hN _ _ _ .refl trivial (J6 ls us (λu hu=>one u (aI _ hu)) e2 mV (by simp;lia) λS' g x3 x4 sb' hg=>?_);exact h S' g x3 x4 ((sb.trans (.new ha)).trans sb') (by rw[←bD];exact hg)
theorem L0:∀(d:Nat) {l t:Tr}{ms:List Tr}{r:Nat}{S:lF}{Q:WK}{E:ah→lF→Prop},l.depth≤d→d≤r→l.aq≤1000→l.mt t=aa ms→(∀S' b,Sub S S'→S' b=aa (.bP (af ms))→Q (.ref b) S')→u0 (r+1) [lA l,lA t] S Q E
 |0,l,t,ms,r,S,Q,E,hd,hr,hw,hm,h=>by have:=qD l;lia
 |d+1, .bl n,t,ms,r,S,Q,E,hd,hr,hw,hm,h=>by
  simp only[Tr.mt,bJ]at hm;subst hm;rw[u0];have e0:lA (.bl n)= .int n:=by simp only[lA]
  rw[e0];ext;refine⟨m_ (by decide),λa ha=>⟨_, .refl,h _ a (.new ha) (by simpa [af]using mV)⟩⟩
 |d+1, .nd s ls, .bl n,ms,r,S,Q,E,hd,hr,hw,hm,h=>by simp [Tr.mt]at hm
 |d+1, .nd s ls, .nd z us,ms,r,S,Q,E,hd,hr,hw,hm,h=>by
  simp only[Tr.depth]at hd;simp only[Tr.aq]at hw;simp only[Tr.mt]at hm;split at hm
  ·obtain⟨r,rfl⟩:∃r',r=r'+1:=⟨r - 1,by lia⟩
   have en:∀s ts,lA (.nd s ts)= .bW (.str s::af ts):=λs ts=>by simp [lA]
   rw[u0,en,en];ext;refine⟨m_ (by decide),λa ha=>?_⟩
   try ext
   refine J6 ls us (λu hu {t ms S Q E} e q=>L0 d (by have:=p7 hu;lia) (by lia) (by have:=pk hu;lia) e q) hm (acc:=[]) mV (by simp;lia) λS' g x3 x4 sb hg=>?_;ext;exact⟨_, .refl,h _ g ((Sub.new ha).trans sb) hg⟩
  ·cases hm
section
variable {S:lF}{a:ai}{B:List Tn}{w0 w1 w2 w3 w4 w5:ah}{tt:List ah}{r:Nat}{Q:WK}{E:ah→lF→Prop}
def Vg (b:mI w0 w1 w2 w3 w4 w5 tt B) (G:nW w0 w1 w2 w3 w4 w5) (L:rC B) (ha:S a=aa (.bP (B.map mQ))) (ht:t∈B) (hu:us.length=t.2.1.nb) (hX:X.at q=aa (t.2.1.aD us)) (hq:q.length≤100) (hw:X.aq≤90000) (hf:(t.2.1.aD us).br 0) (hr:120≤r)
  (h:∀S',Sub S S'→Q (lA (X.bQ q (t.2.2.aD us))) S'):w9 (r+1) [.ref a,lA X,mE q] S Q E:=by
 obtain⟨r,rfl⟩:∃r',r=r'+1:=⟨r - 1,by lia⟩
 have ho:=b.open_some G ht hu;have hm:=b.mt t ht us hu;rw[w9];ext;refine Ko hX ?_
 try ext
 rw[ni ha];refine vR ha (λσ=>∃y,σ=[aa (.ref a),aa (lA X),aa (mE q),aa (lA (t.2.1.aD us)),y]) mQ (λu:Tn=>if(u.2.1.mt (t.2.1.aD us)).isSome then aa (lA (X.bQ q (t.2.2.aD us))) else none) B _ ⟨none,rfl⟩ (λu hu' σ N hI h0 h1=>?_) ?_ ?_
 ·obtain⟨y,rfl⟩:=hI;simp only[Kh,mQ];ext;rw[show nE [W.str u.1,lA u.2.1,lA u.2.2] 1=aa (lA u.2.1) from rfl];dsimp only;refine FW 4 (L.d u hu') (by lia) hf (by have:=L.w u hu';lia) ?_;cases e:(u.2.1.mt (t.2.1.aD us)).isSome with
  |false=>
   ext;exact h0 (by rw[e];rfl) _ _ ⟨_,rfl⟩ .refl
  |true=>
   ext;have eu:u=t:=by
    have:=b.one G hu' ht e (by rw[hm];rfl);exact CV (b.inj G) hu' ht this
   subst eu;rw[show nE [W.str u.1,lA u.2.1,lA u.2.2] 2=aa (lA u.2.2) from rfl];dsimp only;refine L0 4 (L.d u hu') (by lia) (by have:=L.w u hu';lia) hm λS1 g sb hg=>?_;have hri:=b.ri u hu';refine Ch 4 hri.dp (by lia) hg (by rw[hu];exact hri.br) (by have:=hri.wt;lia) ?_;refine Lx q hX (by lia) hw (by lia) ?_;exact h1 _ (by rw[e];rfl) _ sb
 ·intro hn σ hI;exfalso;rw[lL]at hn;have:=hn t ht;rw[hm]at this;simp at this
 ·intro w e S' sb;obtain⟨u,_,hw'⟩:=List.exists_of_findSome?_eq_some e;split at hw'
  ·cases hw';exact⟨_, .refl,h S' sb⟩
  ·cases hw'
end
mutual
noncomputable def Tr.sg:Tr→Nat
 | .bl _=>0
 | .nd _ ts=>1+ut ts
noncomputable def ut:List Tr→Nat
 | []=>0
 |t::ts=>t.sg+ut ts
end
mutual
noncomputable def Tr.sd:Tr→Nat
 | .bl _=>0
 | .nd _ ts=>1+su ts
noncomputable def su:List Tr→Nat
 | []=>0
 |t::ts=>max t.sd (su ts)
end
mutual
noncomputable def Tr.nm:Tr→List Int
 | .bl n=>[n]
 | .nd _ ts=>pT ts
noncomputable def pT:List Tr→List Int
 | []=>[]
 |t::ts=>t.nm++pT ts
end
structure RX (t:Tr):Prop where
  sg:t.sg≤3
  sd:t.sd≤3
  ct:∀n,t.nm.count n≤2
def Xw{l:List Int}(h:∀n∈l,l.count n≤2):∀n,l.count n≤2:=λn=>by
 by_cases m:n∈l
 ·exact h n m
 ·rw[List.count_eq_zero_of_not_mem m];lia
section
variable {w0 w1 w2 w3 w4 w5:ah}{a:ai}{r:Nat}{S:lF}{Q:WK}{E:ah→lF→Prop}
def US (h1:t.depth≤4) (h2:t.br m) (h3:∀{P:ah→Prop},(∀x∈ws,P x)→t.hb P) (h4:t.aq≤7):qA ws m t:=⟨h1,h2,h3,h4⟩
def qg (w0 w1 w2 w3 w4 w5:ah):Nat→Bool→List Tr
 |0,_=>[.nd w2 [], .nd w5 [], .nd w3 [.nd w5 []]]
 |1,g=>[.bl 0, .nd w3 [.bl 0], .nd w4 [.bl 0, .bl 0], .nd w4 [.nd w3 [.bl 0], .nd w2 []]]++(if g then [.nd w0 [.bl 0], .nd w1 [.nd w3 [.bl 0], .bl 0], .nd w3 [.nd w0 [.bl 0]]] else [.nd w2 [], .nd w3 [.nd w5 []]])
 |3,g=>[.nd w4 [.nd w4 [.bl 0, .bl 1], .bl 2], .nd w4 [.bl 2, .nd w4 [.bl 1, .bl 0]], .nd w4 [.nd w4 [.bl 0, .bl 0], .nd w4 [.bl 1, .bl 2]]]++(if g then [.nd w0 [.nd w4 [.nd w4 [.bl 2, .bl 0], .bl 1]], .nd w1 [.bl 1, .nd w4 [.bl 0, .bl 2]]] else [.bl 0, .bl 2, .nd w4 [.bl 1, .bl 1], .nd w5 []])
 |_,g=>[.nd w4 [.bl 0, .bl 1], .nd w4 [.bl 1, .bl 0], .nd w4 [.nd w3 [.bl 0], .bl 1], .nd w4 [.nd w4 [.bl 0, .bl 0], .bl 1]]++(if g then [.nd w1 [.bl 1, .bl 0], .nd w0 [.nd w4 [.bl 0, .bl 1]]] else [.bl 0, .bl 1, .nd w3 [.bl 1], .nd w5 []])
def WQ (hm:m≤3) (g:Bool):∀t∈qg w0 w1 w2 w3 w4 w5 m g,qA [w0,w1,w2,w3,w4,w5] m t:=by
 intro t ht;obtain _ |_ |_ |_ |m:=m
 all_goals first
  |lia
  | (cases g<;>simp only[qg,cg,aX,if_true,if_false,cE,az,bq,or_false]at ht<;>(try rcases ht with rfl |rfl |rfl |rfl |rfl |rfl |rfl |rfl)<;>(try rcases ht with rfl |rfl |rfl |rfl |rfl |rfl |rfl)<;>(try rcases ht with rfl |rfl |rfl |rfl |rfl |rfl)<;>(try rcases ht with rfl |rfl |rfl |rfl |rfl)<;>(try rcases ht with rfl |rfl |rfl)<;>exact US (by simp [Tr.depth,nj]) (by simp [Tr.br,m7]) (λ{P} h=>by simp [Tr.hb,oC]<;>simp [h]) (by simp [Tr.aq,mO]))
def RH{m:Nat}(hm:m≤3) (g:Bool):∀t∈qg w0 w1 w2 w3 w4 w5 m g,RX t:=by
 intro t ht;obtain _ |_ |_ |_ |m:=m
 all_goals first
  |lia
  | (cases g<;>simp only[qg,cg,aX,if_true,if_false,cE,az,bq,or_false]at ht<;>(try rcases ht with rfl |rfl |rfl |rfl |rfl |rfl |rfl |rfl)<;>(try rcases ht with rfl |rfl |rfl |rfl |rfl |rfl |rfl)<;>(try rcases ht with rfl |rfl |rfl |rfl |rfl |rfl)<;>(try rcases ht with rfl |rfl |rfl |rfl |rfl)<;>(try rcases ht with rfl |rfl |rfl)<;>exact⟨by simp [Tr.sg,ut],by simp [Tr.sd,su],Xw (by simp only[Tr.nm,pT,aX,bf,cg]<;>decide)⟩)
def Yq (g:Bool):1≤(qg w0 w1 w2 w3 w4 w5 m g).length∧(qg w0 w1 w2 w3 w4 w5 m g).length≤8:=by
 rcases m with _ |_ |_ |_ |m<;>cases g<;>simp [qg]
def B5 (e:WE) (σ:mW) (S:lF) (w:W):Prop:=∀(E:WX) (Q:WK),Q w S→e E σ S Q
def v0 (t:WA) (σ:mW) (S:lF) (ws:List W):Prop:=∀(E:WX) (Q:List W→lF→Prop),Q ws S→t E σ S Q
def tW:B5 (wC w) σ S w:=λ_ _ q=>q
def tO (h1:σ[1]? =aa (aa (.ref a))) (ha:S a=aa (.bP xs)) (hi:nE xs i=aa w):B5 (my mH (iN 1) (wC (.int i))) σ S w:=λE Q q=>by
 rw[DG,yE,h1];dsimp only;rw[DL,GP,ni ha,hi];exact q
def tD:v0 ae σ S []:=λ_ _ q=>q
def tF (h1:B5 e σ S w) (h2:v0 t σ S ws):v0 (iR e t) σ S (w::ws):=λE Q q=>h1 E _ (h2 E _ q)
def tT (h:v0 t σ S ws) (hl:ws.length≤sizeLine):B5 (m9 t) σ S (.bW ws):=λE Q q=>h E _ ⟨hl,q⟩
def tX{E:WX}{D:m4}{σ:mW}{c:WT}{A T:WS}(hc:∀Q:Bool→lF→Prop,Q false S→c E σ S Q) (k:T E D σ S):mD (nH c A nF) T E D σ S:=hc _ k
def xt{E:WX}{D:m4}{σ:mW}{c:WT}{A A' T:WS}(hc:∀Q:Bool→lF→Prop,Q true S→c E σ S Q) (k:A E { D with nx:=T E D } σ S):mD (nH c A A') T E D σ S:=hc _ k
def uH{E:WX}{σ:mW}{m k:Int}{b:Bool}(h0:σ[0]? =aa (aa (.int m))) (e:(m == k)=b):∀Q:Bool→lF→Prop,Q b S→nD (my (oO false) (iN 0) (wC (.int k))) E σ S Q:=λQ q=>by
 rw[Nt,DG,yE,h0];dsimp only;rw[DL,KW,Eo,e];cases b<;>exact q
def xO{E:WX}{σ:mW}{b:Bool}(h2:σ[2]? =aa (aa (.bl b))):∀Q:Bool→lF→Prop,Q b S→o5 (iN 2) E σ S Q:=λQ q=>by
 rw[Im,yE,h2];dsimp only;rw[M'];exact q
def DS{E:WX}{D:m4}{σ:mW}{t:WA}{T:WS}{ws:List W}(h:v0 t σ S ws) (hl:ws.length≤sizeLine) (k:∀q,S q=none→T E D (σ.set 3 (aa (.ref q))) (bQ S q (.bP ws))):mD (mz (nA (nL t)) (mB 3)) T E D σ S:=h E _ ⟨hl,k⟩
def U7{E:WX}{D:m4}{σ:mW}{t:WA}{ws:List W}(h:v0 t σ S ws) (hl:ws.length≤sizeLine) (k:∀q,S q=none→D.rt (.ref q) (bQ S q (.bP ws))):mY (nA (nL t)) E D σ S:=h E _ ⟨hl,k⟩
def xM{E:WX}{D:m4}{σ:mW}{t:WA}{ws xs:List W}{q:ai}(h3:σ[3]? =aa (aa (.ref q))) (hq:S q=aa (.bP xs)) (h:v0 t σ S ws) (hl:ws.length≤sizeLine) (hx:xs.length+ws.length≤sizeLine) (k:∀q2,S q2=none→D.rt (.ref q2) (bQ S q2 (.bP (xs++ws)))):mY (nA (sk (iN 3) (nL t))) E D σ S:=by
 rw[Oz,Hs,Gx,yE,h3];dsimp only;rw[Kd];refine h E _ ⟨hl,?_⟩;rw[ni hq];exact⟨hx,k⟩
def Ph{m:Nat}(hm:m≤3) (g:Bool) (ha:S a=aa (.bP (qu w0 w1 w2 w3 w4 w5))) (h:∀S' b,Sub S S'→S' b=aa (.bP (af (qg w0 w1 w2 w3 w4 w5 m g)))→Q (.ref b) S'):AY (r+1) [.int m, .ref a, .bl g] S Q E:=by
 rw[AY,uf];refine⟨rfl,?_⟩;obtain _ |_ |_ |_ |m:=m
 ·exact xt (uH rfl (by decide)) (U7 (ws:=[W.bW [W.str w2],W.bW [W.str w5],W.bW [W.str w3,W.bW [W.str w5]]]) (by repeat' first |exact tD |refine tF ?_ ?_ |exact tW |exact tO rfl ha (by first |exact ql |exact qq |exact pR |exact p9 |exact p_ |exact p8) |refine tT ?_ (m_ (bG rfl))) (m_ (bG rfl)) λq hq=>⟨_, .refl,h _ q (.bQ .refl hq) (by rw[mV];simp [qg,af,lA])⟩)
 ·refine tX (uH rfl (by decide)) (xt (uH rfl (by decide)) (DS (ws:=[W.int 0,W.bW [W.str w3,W.int 0],W.bW [W.str w4,W.int 0,W.int 0],W.bW [W.str w4,W.bW [W.str w3,W.int 0],W.bW [W.str w2]]]) (by repeat' first |exact tD |refine tF ?_ ?_ |exact tW |exact tO rfl ha (by first |exact ql |exact qq |exact pR |exact p9 |exact p_ |exact p8) |refine tT ?_ (m_ (bG rfl))) (m_ (bG rfl)) λq hq=>?_))
  have fa:bQ S q (.bP [W.int 0,W.bW [W.str w3,W.int 0],W.bW [W.str w4,W.int 0,W.int 0],W.bW [W.str w4,W.bW [W.str w3,W.int 0],W.bW [W.str w2]]]) a=aa (.bP (qu w0 w1 w2 w3 w4 w5)):=keep ha hq;cases g
  ·exact tX (xO rfl) (xM (ws:=[W.bW [W.str w2],W.bW [W.str w3,W.bW [W.str w5]]]) rfl mV (by repeat' first |exact tD |refine tF ?_ ?_ |exact tW |exact tO rfl fa (by first |exact ql |exact qq |exact pR |exact p9 |exact p_ |exact p8) |refine tT ?_ (m_ (bG rfl))) (m_ (bG rfl)) (m_ (bG rfl)) λq2 hq2=>⟨_, .refl,h _ q2 ((Sub.bQ .refl hq).trans (.bQ .refl hq2)) (by rw[mV];simp [qg,af,lA])⟩)
  ·exact xt (xO rfl) (xM (ws:=[W.bW [W.str w0,W.int 0],W.bW [W.str w1,W.bW [W.str w3,W.int 0],W.int 0],W.bW [W.str w3,W.bW [W.str w0,W.int 0]]]) rfl mV (by repeat' first |exact tD |refine tF ?_ ?_ |exact tW |exact tO rfl fa (by first |exact ql |exact qq |exact pR |exact p9 |exact p_ |exact p8) |refine tT ?_ (m_ (bG rfl))) (m_ (bG rfl)) (m_ (bG rfl)) λq2 hq2=>⟨_, .refl,h _ q2 ((Sub.bQ .refl hq).trans (.bQ .refl hq2)) (by rw[mV];simp [qg,af,lA])⟩)
 ·refine tX (uH rfl (by decide)) (tX (uH rfl (by decide)) (tX (uH rfl (by decide)) (DS (ws:=[W.bW [W.str w4,W.int 0,W.int 1],W.bW [W.str w4,W.int 1,W.int 0],W.bW [W.str w4,W.bW [W.str w3,W.int 0],W.int 1],W.bW [W.str w4,W.bW [W.str w4,W.int 0,W.int 0],W.int 1]]) (by repeat' first |exact tD |refine tF ?_ ?_ |exact tW |exact tO rfl ha (by first |exact ql |exact qq |exact pR |exact p9 |exact p_ |exact p8) |refine tT ?_ (m_ (bG rfl))) (m_ (bG rfl)) λq hq=>?_)))
  have fa:bQ S q (.bP [W.bW [W.str w4,W.int 0,W.int 1],W.bW [W.str w4,W.int 1,W.int 0],W.bW [W.str w4,W.bW [W.str w3,W.int 0],W.int 1],W.bW [W.str w4,W.bW [W.str w4,W.int 0,W.int 0],W.int 1]]) a=aa (.bP (qu w0 w1 w2 w3 w4 w5)):=keep ha hq;cases g
  ·exact tX (xO rfl) (xM (ws:=[W.int 0,W.int 1,W.bW [W.str w3,W.int 1],W.bW [W.str w5]]) rfl mV (by repeat' first |exact tD |refine tF ?_ ?_ |exact tW |exact tO rfl fa (by first |exact ql |exact qq |exact pR |exact p9 |exact p_ |exact p8) |refine tT ?_ (m_ (bG rfl))) (m_ (bG rfl)) (m_ (bG rfl)) λq2 hq2=>⟨_, .refl,h _ q2 ((Sub.bQ .refl hq).trans (.bQ .refl hq2)) (by rw[mV];simp [qg,af,lA])⟩)
  ·exact xt (xO rfl) (xM (ws:=[W.bW [W.str w1,W.int 1,W.int 0],W.bW [W.str w0,W.bW [W.str w4,W.int 0,W.int 1]]]) rfl mV (by repeat' first |exact tD |refine tF ?_ ?_ |exact tW |exact tO rfl fa (by first |exact ql |exact qq |exact pR |exact p9 |exact p_ |exact p8) |refine tT ?_ (m_ (bG rfl))) (m_ (bG rfl)) (m_ (bG rfl)) λq2 hq2=>⟨_, .refl,h _ q2 ((Sub.bQ .refl hq).trans (.bQ .refl hq2)) (by rw[mV];simp [qg,af,lA])⟩)
 ·refine tX (uH rfl (by decide)) (tX (uH rfl (by decide)) (xt (uH rfl (by decide)) (DS (ws:=[W.bW [W.str w4,W.bW [W.str w4,W.int 0,W.int 1],W.int 2],W.bW [W.str w4,W.int 2,W.bW [W.str w4,W.int 1,W.int 0]],W.bW [W.str w4,W.bW [W.str w4,W.int 0,W.int 0],W.bW [W.str w4,W.int 1,W.int 2]]]) (by repeat' first |exact tD |refine tF ?_ ?_ |exact tW |exact tO rfl ha (by first |exact ql |exact qq |exact pR |exact p9 |exact p_ |exact p8) |refine tT ?_ (m_ (bG rfl))) (m_ (bG rfl)) λq hq=>?_)))
  have fa:bQ S q (.bP [W.bW [W.str w4,W.bW [W.str w4,W.int 0,W.int 1],W.int 2],W.bW [W.str w4,W.int 2,W.bW [W.str w4,W.int 1,W.int 0]],W.bW [W.str w4,W.bW [W.str w4,W.int 0,W.int 0],W.bW [W.str w4,W.int 1,W.int 2]]]) a=aa (.bP (qu w0 w1 w2 w3 w4 w5)):=keep ha hq;cases g
  ·exact tX (xO rfl) (xM (ws:=[W.int 0,W.int 2,W.bW [W.str w4,W.int 1,W.int 1],W.bW [W.str w5]]) rfl mV (by repeat' first |exact tD |refine tF ?_ ?_ |exact tW |exact tO rfl fa (by first |exact ql |exact qq |exact pR |exact p9 |exact p_ |exact p8) |refine tT ?_ (m_ (bG rfl))) (m_ (bG rfl)) (m_ (bG rfl)) λq2 hq2=>⟨_, .refl,h _ q2 ((Sub.bQ .refl hq).trans (.bQ .refl hq2)) (by rw[mV];simp [qg,af,lA])⟩)
  ·exact xt (xO rfl) (xM (ws:=[W.bW [W.str w0,W.bW [W.str w4,W.bW [W.str w4,W.int 2,W.int 0],W.int 1]],W.bW [W.str w1,W.int 1,W.bW [W.str w4,W.int 0,W.int 2]]]) rfl mV (by repeat' first |exact tD |refine tF ?_ ?_ |exact tW |exact tO rfl fa (by first |exact ql |exact qq |exact pR |exact p9 |exact p_ |exact p8) |refine tT ?_ (m_ (bG rfl))) (m_ (bG rfl)) (m_ (bG rfl)) λq2 hq2=>⟨_, .refl,h _ q2 ((Sub.bQ .refl hq).trans (.bQ .refl hq2)) (by rw[mV];simp [qg,af,lA])⟩)
 ·lia
end
def Vb (h:0<Rs.length):∃R∈Rs,nE (af Rs) (d % (Rs.length:Int))=aa (lA R):=by
 have h0:(0:Int)<Rs.length:=by lia
 have h1:=cY d (Int.ne_of_gt h0);have h2:=dh d h0;obtain⟨n,hn⟩:=Int.eq_ofNat_of_zero_le h1;rw[hn]at h2⊢;have hl:n<Rs.length:=by lia
 refine⟨Rs[n],dW hl,?_⟩;rw[rS,o6,aT,aR hl];rfl
def Cm (h:Sub S S'):Sub (bQ S a o) (bQ S' a o):=λb x e=>by
 by_cases z:b=a
 ·subst z;rw[mV]at e⊢;exact e
 ·rw[nQ z]at e⊢;exact h b x e
def F3 (n:Nat) (h c d:ah):∀L∈bO n h c d,L.depth≤4∧L.aq≤7∧L.nb≤3:=by
 intro L hL;unfold bO at hL;split at hL<;>simp only[az,bq,or_false]at hL
 all_goals (first |subst hL |rcases hL with rfl |rfl)<;>simp [Tr.depth,nj,Tr.aq,mO,Tr.nb,nbs]
section
variable {w0 w1 w2 w3 w4 w5:ah}{tt:List ah}{ns:List Int}{aw at' ab al:ai}{r:Nat}{E:WX}{D:m4}{k j:Int}{g:Bool}
theorem IF (h6:tt.length=6) (k0:0≤k) (j0:0≤j):∀(ls:List Tr) {i:Nat}{C:List Tn}{S:lF}{G:lF→Prop}{x7 x8 x9 x10:Option W},(∀L∈ls,L.depth≤4∧L.aq≤7∧L.nb≤3)→C.length+ls.length≤6→S ab=aa (.bP (C.map mQ))→S aw=aa (.bP (qu w0 w1 w2 w3 w4 w5))→S at'=aa (.bP (tt.map W.str))→ab≠aw→ab≠at'→
  (∀o,G (bQ S ab o))→
  (∀(C':List Tn) (x7 x8 x9 x10:Option W),C'.map (λt=>t.2.1)=ls→(C.map (λt=>t.1)=tt.take C.length→(C++C').map (λt=>t.1)=tt.take (C++C').length)→(∀t∈C',t.2.2∈qg w0 w1 w2 w3 w4 w5 t.2.1.nb g)→D.nx [aa (.cX ns),aa (.int k),aa (.ref aw),aa (.ref at'),aa (.bl g),aa (.ref ab),aa (.int j),aa (.ref al),x7,x8,x9,x10] (bQ S ab (.bP ((C++C').map mQ))))→
  mS (pE (nU (mB 8) (nU (mB 9) pe))) (Df (r+6) mK) E D G (pL i (af ls)) [aa (.cX ns),aa (.int k),aa (.ref aw),aa (.ref at'),aa (.bl g),aa (.ref ab),aa (.int j),aa (.ref al),x7,x8,x9,x10] S
 | [],i,C,S,G,x7,x8,x9,x10,hL,hl,hb,hw,ht,n1,n2,hG,h=>by
  simp only[af,pL,mS];have:=h [] x7 x8 x9 x10 rfl (λz=>by simpa using z) (λ_ h=>nomatch h)
  rw[bf,sF hb]at this;exact this
 |L::ls,i,C,S,G,x7,x8,x9,x10,hL,hl,hb,hw,ht,n1,n2,hG,h=>by
  have hLd:=hL L aL;simp only[aU]at hl;simp only[af,pL];refine pV λN hN=>?_;simp only[Df];ext;refine FK (r:=r+5) 4 hLd.1 (by lia) (by lia) ?_
  try dsimp only
  refine Ph (r:=r+5) hLd.2.2 g hw λS1 rr sb hrr=>?_
  try ext
  refine⟨.inl ⟨by decide,by decide⟩,xu (r:=r+5) (by lia) λdraw=>?_⟩
  try ext
  obtain⟨ti,eti,_⟩:=V4 (ss:=tt) (i:=(C.length:Int)) (by lia) (by lia);simp only[ni (sb _ _ hb),ni (sb _ _ ht),ay,eti,true_and,ni hrr,pP];have rl:=Yq (w0:=w0) (w1:=w1) (w2:=w2) (w3:=w3) (w4:=w4) (w5:=w5) (m:=L.nb) g;obtain⟨R,hRm,hRe⟩:=Vb (Rs:=qg w0 w1 w2 w3 w4 w5 L.nb g) (d:=draw) (by lia);have hR:=hRm
  try ext
  refine⟨by lia,?_⟩
  try simp only[ni hrr,hRe]
  try ext
  try simp only[ni (sb _ _ hb),ay]
  refine⟨m_ (by decide),qJ (by lia),?_⟩;refine hN _ _ (bQ S ab (.bP ((C++[(ti,L,R)]).map mQ))) (by rw[bK];exact Cm sb) (hG _) ?_;refine IF h6 k0 j0 ls (C:=C++[(ti,L,R)]) (λM hM=>hL M (aI _ hM)) (by simp;lia) mV (by rw[nQ (bz n1)];exact hw) (by rw[nQ (bz n2)];exact ht) n1 n2 (λo=>by rw[pM];exact hG o) λC' x7 x8 x9 x10 e1 e2 e3=>?_
  rw[pM];have:=h ((ti,L,R)::C') x7 x8 x9 x10 (by rw[aC,e1]) (λz=>?_) (λt ht'=>?_)
  ·simpa using this
  ·have e:C++[(ti,L,R)]++C'=C++(ti,L,R)::C':=by simp
   rw[e]at e2;refine e2 ?_;rw[bK,z,a_,cA,mn];congr 1;have e4:(tt.map W.str)[C.length]? =aa (.str ti):=by rw[←rS];exact eti
   rw[aT]at e4;cases q:tt[C.length]? with
   |none=>rw[q]at e4;cases e4
   |some y=>rw[q]at e4;cases e4;rfl
  ·obtain rfl |z:=az.mp ht'
   ·exact hR
   ·exact e3 t z
def OY{E:ah→lF→Prop}(h6:tt.length=6) (k0:0≤k) (hw:S aw=aa (.bP (qu w0 w1 w2 w3 w4 w5))) (ht:S at'=aa (.bP (tt.map W.str)))
  (h:∀(p:ai) (B:List Tn) (n m:Nat),S p=none→B.map (λt=>t.2.1)=bO n w0 w2 w3++bO m w1 w2 w3→B.map (λt=>t.1)=tt.take B.length→(∀t∈B,t.2.2∈qg w0 w1 w2 w3 w4 w5 t.2.1.nb g)→Q (.ref p) (bQ S p (.bP (B.map mQ)))):B1 (r+7) [.cX ns, .int k, .ref aw, .ref at', .bl g] S Q E:=by
 rw[show r+7=r+6+1 from rfl,B1];ext;refine⟨aQ _,λab hb=>⟨⟨by decide,by decide⟩,?_⟩⟩
 refine Oq (λi σ S'=>∃(B:List Tn) (f:Nat→Nat) (x5 x6 x7 x8 x9 x10:Option W),B.map (λt=>t.2.1)=(bx i).flatMap (λj=>bO (f j) (se w0 w1 j) w2 w3)∧B.map (λt=>t.1)=tt.take B.length∧(∀t∈B,t.2.2∈qg w0 w1 w2 w3 w4 w5 t.2.1.nb g)∧S'=bQ S ab (.bP (B.map mQ))∧
  σ=[aa (.cX ns),aa (.int k),aa (.ref aw),aa (.ref at'),aa (.bl g),aa (.ref ab),x5,x6,x7,x8,x9,x10]) 2 ?_ ?_ ⟨[],λ_=>0,none,none,none,none,none,none,rfl,rfl,(λ_ h=>nomatch h),rfl,rfl⟩
 ·rintro j hj σ S' N ⟨B,f,x5,x6,x7,x8,x9,x10,e1,e2,e3,rfl,rfl⟩ hN;have fw:bQ S ab (Ob.bP (B.map mQ)) aw=aa (.bP (qu w0 w1 w2 w3 w4 w5)):=keep hw hb;have ft:bQ S ab (Ob.bP (B.map mQ)) at'=aa (.bP (tt.map W.str)):=keep ht hb;have fb:bQ S ab (Ob.bP (B.map mQ)) ab=aa (.bP (B.map mQ)):=mV;have n1:ab≠aw:=λz=>by rw[z,hw]at hb;cases hb
  have n2:ab≠at':=λz=>by rw[z,ht]at hb;cases hb
  have eh:nE (qu w0 w1 w2 w3 w4 w5) (j:Int)=aa (.str (se w0 w1 j)):=by
   rcases(show j=0∨j=1 by lia) with rfl |rfl<;>rfl
  simp only[MT];ext;refine xu (by lia) λdraw=>?_;ext;simp only[ni fw,eh,pR,p9];refine⟨by decide,V_ λal n hal=>?_⟩;have hl:=CP n (se w0 w1 j) w2 w3;have hB:B.length≤4:=by
   have:=congrArg dH e1;rw[ay]at this;rcases(show j=0∨j=1 by lia) with rfl |rfl
   ·simp at this;rw[this];simp
   ·simp at this;have:=CP (f 0) (se w0 w1 0) w2 w3;lia
  have nal:al≠ab:=λz=>by rw[z,fb]at hal;cases hal
  try ext
  refine IF (g:=g) h6 k0 (by lia) (bO n (se w0 w1 j) w2 w3) (F3 _ _ _ _) (by lia) (keep fb hal) (keep fw hal) (keep ft hal) n1 n2 (λo=>?_) λC' x7 x8 x9 x10 g1 g2 g3=>?_
  ·rw[nQ nal,mV]
  ·refine hN _ _ (bQ S ab (.bP ((B++C').map mQ))) ?_ ⟨B++C',λi=>if i=j then n else f i,_,_,_,_,_,_,?_,g2 e2,λt ht'=>?_,rfl,rfl⟩
   ·rw[OF nal];exact .bQ .refl (by rw[nQ nal];exact(rf hal).1)
   ·rw[bK,e1,g1,gJ,lW];congr 1
    ·rw[mh,mh];congr 1;refine di λi hi=>?_;have:=fK.mp hi;dsimp only;rw[if_neg (by lia)]
    ·simp
   ·obtain z |z:=bn.mp ht'
    ·exact e3 t z
    ·exact g3 t z
 ·rintro σ S' ⟨B,f,x5,x6,x7,x8,x9,x10,e1,e2,e3,rfl,rfl⟩;ext;refine⟨_, .refl,h ab B (f 0) (f 1) hb ?_ e2 e3⟩;rw[e1];simp [gJ,se]
end
mutual
noncomputable def Tr.ord (k:Nat):Tr→Option Nat
 | .bl n=>if n=(k:Int) then aa (k+1) else none
 | .nd _ ts=>sf k ts
noncomputable def sf (k:Nat):List Tr→Option Nat
 | []=>aa k
 |t::ts=>match t.ord k with
  |some m=>sf m ts
  |none=>none
end
def BQ (B:List Tn) (z:ah):Prop:=∀u∈B,∀s ls,u.2.1= .nd s ls→s≠z
structure rK (B:List Tn):Prop where
  inn:∀t∈B,∃s ls,t.2.1= .nd s ls∧oC (BQ B) ls
  mt:Dw B
  fm:∀t∈B,∀x ys,t.2.1.mt x=aa ys→x=t.2.1.aD ys∧ys.length=t.2.1.nb
  one:∀u∈B,∀v∈B,∀x:Tr,(u.2.1.mt x).isSome=true→(v.2.1.mt x).isSome=true→u=v
  od:∀t∈B,t.2.1.ord 0=aa t.2.1.nb
mutual
theorem LQ:∀(L x:Tr) (ys:List Tr) (k m:Nat),L.ord k=aa m→L.mt x=aa ys→ys.length+k=m∧ ∀pre post:List Tr,pre.length=k→L.aD (pre++ys++post)=x
 | .bl n,x,ys,k,m,h,e=>by
  rw[Tr.ord]at h;split at h
  ·rename_i hn;cases h;rw[Tr.mt]at e;cases e;refine⟨by simp;lia,λpre post hp=>?_⟩;rw[Tr.aD,hn,bb,bv,bD,iY (by lia),hp,g9];rfl
  ·cases h
 | .nd s ls, .bl n,ys,k,m,h,e=>by rw[Tr.mt]at e;cases e
 | .nd s ls, .nd z us,ys,k,m,h,e=>by
  rw[Tr.mt]at e;split at e
  ·rename_i hc;rw[bV,beq_iff_eq,beq_iff_eq]at hc;rw[Tr.ord]at h;obtain⟨h1,h2⟩:=JP ls us ys k m hc.2 h e;exact⟨h1,λpre post hp=>by rw[Tr.aD,h2 pre post hp,hc.1]⟩
  ·cases e
theorem JP:∀(ls us ys:List Tr) (k m:Nat),ls.length=us.length→sf k ls=aa m→nT ls us=aa ys→ys.length+k=m∧ ∀pre post:List Tr,pre.length=k→aF (pre++ys++post) ls=us
 | [],us,ys,k,m,hl,h,e=>by
  rw[sf]at h;cases h;rw[nT]at e;cases e;cases us with
  |nil=>exact⟨by simp,λ_ _ _=>by rw[aF]⟩
  |cons _ _=>cases hl
 |l::ls,[],ys,k,m,hl,h,e=>by cases hl
 |l::ls,u::us,ys,k,m,hl,h,e=>by
  rw[sf]at h;rw[nT]at e;cases q:l.ord k with
  |none=>rw[q]at h;cases h
  |some j=>
   rw[q]at h;cases q1:l.mt u with
   |none=>rw[q1]at e;cases e
   |some xs=>
    rw[q1]at e;cases q2:nT ls us with
    |none=>rw[q2]at e;cases e
    |some zs=>
     rw[q2]at e;cases e;obtain⟨h1,h2⟩:=LQ l u xs k j q q1;obtain⟨h3,h4⟩:=JP ls us zs j m (by simpa using hl) h q2;refine⟨by rw[a_];lia,λpre post hp=>?_⟩;rw[aF];have e1:=h2 pre (zs++post) hp;have e2:=h4 (pre++xs) post (by rw[a_];lia);have a1:pre++(xs++zs)++post=pre++xs++(zs++post):=by simp
     have a2:pre++(xs++zs)++post=pre++xs++zs++post:=by simp
     rw[a1,e1,←a1,a2,e2]
end
def H_ (hL:L∈bO n h c d):L.ord 0=aa L.nb:=by
 unfold bO at hL;split at hL<;>simp only[az,bq,or_false]at hL
 all_goals (first |subst hL |rcases hL with rfl |rfl)<;>simp [Tr.ord,sf,Tr.nb,nbs]
def BX{P:ah→Prop}(hc:P c) (hd:P d) (hL:L∈bO n h c d):∃ls,L= .nd h ls∧oC P ls:=by
 unfold bO at hL;split at hL<;>simp only[az,bq,or_false]at hL
 all_goals (first |subst hL |rcases hL with rfl |rfl)<;>exact⟨_,rfl,by simp [oC,Tr.hb,hc,hd]⟩
def mI.mem_lefts (b:mI w0 w1 w2 w3 w4 w5 tt B) (ht:t∈B):∃n,t.2.1∈bO n w0 w2 w3∨t.2.1∈bO n w1 w2 w3:=by
 obtain⟨n,m,e⟩:=b.lf;have:t.2.1∈bO n w0 w2 w3++bO m w1 w2 w3:=by rw[←e];exact aV.mpr ⟨t,ht,rfl⟩
 obtain z |z:=bn.mp this
 ·exact⟨n, .inl z⟩
 ·exact⟨m, .inr z⟩
def mI.ort (b:mI w0 w1 w2 w3 w4 w5 tt B) (G:nW w0 w1 w2 w3 w4 w5):rK B:=by
 have top:∀z,z≠w0→z≠w1→BQ B z:=λz h0 h1 u hu s ls e=>by
  obtain⟨n,z |z⟩:=b.mem_lefts hu
  ·obtain⟨l,e',_⟩:=BX (P:=λ_=>True) trivial trivial z;rw[e]at e';cases e';exact h0.symm
  ·obtain⟨l,e',_⟩:=BX (P:=λ_=>True) trivial trivial z;rw[e]at e';cases e';exact h1.symm
 have t2:=top w2 (G.n0 w2 (by simp)).symm (G.n1 w2 (by simp)).symm;have t3:=top w3 (G.n0 w3 (by simp)).symm (G.n1 w3 (by simp)).symm;have od:∀t∈B,t.2.1.ord 0=aa t.2.1.nb:=λt ht=>by
  obtain⟨n,z |z⟩:=b.mem_lefts ht
  ·exact H_ z
  ·exact H_ z
 refine⟨λt ht=>?_,b.mt,λt ht x ys e=>?_,λu hu v hv x h1 h2=>CV (b.inj G) hu hv (b.one G hu hv h1 h2),od⟩
 ·obtain⟨n,z |z⟩:=b.mem_lefts ht
  ·obtain⟨l,e',h⟩:=BX t2 t3 z;exact⟨_,_,e',h⟩
  ·obtain⟨l,e',h⟩:=BX t2 t3 z;exact⟨_,_,e',h⟩
 ·have ho:=od t ht;obtain⟨h1,h2⟩:=LQ _ _ _ _ _ ho e;have:=h2 [] [] rfl;simp only[aX,bf]at this;exact⟨this.symm,by lia⟩
structure Wy (ws:List ah) (B:List Tn) (a:Tr):Prop where
  hd:a.hd λs=>s∈ws∨ ∃t∈B,t.1=s
  ar:a.ar B
noncomputable abbrev ak (B:List Tn) (a:Tr):Tr:=a.mk B λt=>t.2.1
noncomputable abbrev b7 (B:List Tn) (a:Tr):Tr:=a.mk B λt=>t.2.2
theorem FG{P:ah→Prop}:∀{ts:List Tr}{t:Tr},hds P ts→t∈ts→t.hd P
 |u::ts,t,h,ht=>by
  rw[hds]at h;obtain rfl |ht:=az.mp ht
  ·exact h.1
  ·exact FG h.2 ht
theorem Ex:∀{ts:List Tr}{t:Tr},r9 B ts→t∈ts→t.ar B
 |u::ts,t,h,ht=>by
  rw[r9]at h;obtain rfl |ht:=az.mp ht
  ·exact h.1
  ·exact Ex h.2 ht
theorem Wy.cases (b:oz ws ws B) (h:Wy ws B a):(∃s as,a= .nd s as∧s∈ws∧nc B s=none∧ ∀x∈as,Wy ws B x)∨(∃t as,t∈B∧a= .nd t.1 as∧nc B t.1=aa t∧as.length=t.2.1.nb∧ ∀x∈as,Wy ws B x):=by
 obtain⟨h1,h2⟩:=h;cases a with
 |bl n=>rw[Tr.hd]at h1;exact h1.elim
 |nd s as=>
  rw[Tr.hd]at h1;rw[Tr.ar]at h2;have dI:∀x∈as,Wy ws B x:=λx hx=>⟨FG h1.2 hx,Ex h2.2 hx⟩;obtain h |⟨t,ht,rfl⟩:=h1.1
  ·exact .inl ⟨s,as,rfl,h,qc b.ti (b.sg s h),dI⟩
  ·have e:=rg b.nd ht;exact .inr ⟨t,as,ht,rfl,e,h2.1 t e,dI⟩
def qh{g:Tn→Tr}(h:nc B s=none):(Tr.nd s as).mk B g= .nd s (as.map (Tr.mk B g)):=by
 rw[Tr.mk,h,wU]
def p4{g:Tn→Tr}(h:nc B t.1=aa t):(Tr.nd t.1 as).mk B g=(g t).aD (as.map (Tr.mk B g)):=by
 rw[Tr.mk,h,wU]
mutual
theorem XU (b:oz ws ws B) (O:rK B):∀(L a:Tr),L.hb (BQ B)→Wy ws B a→(L.mt (ak B a)).isSome=true→(L.mt a).isSome=true
 | .bl n,a,_,_,_=>by rw[Tr.mt];rfl
 | .nd z ls,a,hL,ha,h=>by
  rw[Tr.hb]at hL;obtain ⟨s,as,rfl,hs,e,dI⟩ |⟨t,as,ht,rfl,e,hl,dI⟩:=ha.cases b
  ·rw[show ak B (.nd s as)= .nd s (as.map (ak B)) from qh e,Tr.mt,ay]at h;rw[Tr.mt];split at h
   ·rename_i hc;rw[if_pos hc];exact C7 b O ls as hL.2 dI h
   ·cases h
  ·obtain⟨s0,l0,e0,_⟩:=O.inn t ht;rw[show ak B (.nd t.1 as)=t.2.1.aD (as.map (ak B)) from p4 e,e0,Tr.aD]at h;exact absurd (yh h).symm (hL.1 t ht s0 l0 e0)
theorem C7 (b:oz ws ws B) (O:rK B):∀(ls as:List Tr),oC (BQ B) ls→(∀x∈as,Wy ws B x)→(nT ls (as.map (ak B))).isSome=true→(nT ls as).isSome=true
 | [],as,_,_,_=>by rw[nT];rfl
 |l::ls,[],_,_,_=>by rw[nT];rfl
 |l::ls,a::as,hL,ha,h=>by
  rw[oC]at hL;rw[aC,nT]at h;cases q1:l.mt (ak B a) with
  |none=>rw[q1]at h;cases h
  |some xs=>
   rw[q1]at h;cases q2:nT ls (as.map (ak B)) with
   |none=>rw[q2]at h;cases h
   |some zs=>
    have h1:=XU b O l a hL.1 (ha a (by simp)) (by rw[q1];rfl);have h2:=C7 b O ls as hL.2 (λx hx=>ha x (aI _ hx)) (by rw[q2];rfl);obtain⟨x1,h1⟩:=dS.mp h1;obtain⟨x2,h2⟩:=dS.mp h2;rw[nT,h1,h2];rfl
end
def Wy.dI (h:Wy ws B (.nd s as)):∀x∈as,Wy ws B x:=λx hx=>by
 obtain⟨h1,h2⟩:=h;rw[Tr.hd]at h1;rw[Tr.ar]at h2;exact⟨FG h1.2 hx,Ex h2.2 hx⟩
mutual
theorem Gf:∀(L a:Tr) (ys:List Tr),L.mt a=aa ys→Wy ws B a→ ∀y∈ys,Wy ws B y
 | .bl n,a,ys,e,h,y,hy=>by
  rw[Tr.mt]at e;cases e;rw[bi]at hy;rw[hy];exact h
 | .nd s ls, .bl n,ys,e,h,y,hy=>by rw[Tr.mt]at e;cases e
 | .nd s ls, .nd z us,ys,e,h,y,hy=>by
  rw[Tr.mt]at e;split at e
  ·exact HC ls us ys e h.dI y hy
  ·cases e
theorem HC:∀(ls us ys:List Tr),nT ls us=aa ys→(∀x∈us,Wy ws B x)→ ∀y∈ys,Wy ws B y
 | [],us,ys,e,h,y,hy=>by rw[nT]at e;cases e;cases hy
 |l::ls,[],ys,e,h,y,hy=>by rw[nT]at e;cases e;cases hy
 |l::ls,u::us,ys,e,h,y,hy=>by
  rw[nT]at e;cases q1:l.mt u with
  |none=>rw[q1]at e;cases e
  |some xs=>
   rw[q1]at e;cases q2:nT ls us with
   |none=>rw[q2]at e;cases e
   |some zs=>
    rw[q2]at e;cases e;obtain hy |hy:=bn.mp hy
    ·exact Gf l u xs q1 (h u (by simp)) y hy
    ·exact HC ls us zs q2 (λx hx=>h x (aI _ hx)) y hy
end
def KP (b:oz ws ws B) (ht:t∈B) (hl:vs.length=t.2.1.nb) (g:Tn→Tr):(t.2.1.aD vs).mk B g=t.2.1.aD (vs.map (Tr.mk B g)):=
 CW b.ti _ (b.lf t ht).hb (by rw[hl];exact(b.lf t ht).br)
def C5 (b:oz ws ws B) (O:rK B) (ht:t∈B) (e:nc B s=none) (hw:Wy ws B (.nd s bs)) (hl:us.length=t.2.1.nb) (h:ak B (.nd s bs)=t.2.1.aD us) :
  ∃vs, .nd s bs=t.2.1.aD vs∧vs.length=t.2.1.nb∧vs.map (ak B)=us∧(∀x∈vs,Wy ws B x)∧mO vs≤(Tr.nd s bs).aq:=by
 obtain⟨s0,ls,e0,hin⟩:=O.inn t ht;have hm:t.2.1.mt (ak B (.nd s bs))=aa us:=by rw[h];exact O.mt t ht us hl
 have h1:(t.2.1.mt (.nd s bs)).isSome=true:=by
  have hm':=hm;rw[show ak B (.nd s bs)= .nd s (bs.map (ak B)) from qh e,e0,Tr.mt,ay]at hm';rw[e0,Tr.mt];split at hm'
  ·rename_i hc;rw[if_pos hc];exact C7 b O ls bs hin hw.dI (by rw[hm'];rfl)
  ·cases hm'
 obtain⟨vs,hv⟩:=dS.mp h1;obtain⟨h2,h3⟩:=O.fm t ht _ _ hv;refine⟨vs,h2,h3,?_,Gf _ _ _ hv hw,Oy _ _ _ hv⟩;rw[h2,show ak B (t.2.1.aD vs)=_ from KP b ht h3 _,O.mt t ht _ (by rw[ay,h3])]at hm;exact aK hm
def wq:(Tr.nd s as).aq=1+mO as:=by rw[Tr.aq]
inductive xp (P:Int→Prop):Pl→Prop
 |sign {b:Int}{h:ah}{ps:List Pl}:(∀p∈ps,xp P p)→xp P (.nd (-1) b h ps)
 |turn {k:Nat}{b:Int}{h:ah}{ps:List Pl}:P b→(∀p∈ps,xp P p)→xp P (.nd k b h ps)
def Ap (x:Int):Prop:=x=1∨x=2∨x=3
theorem AT (b:oz ws ws B) (O:rK B):∀(n:Nat) (x y:Tr),x.aq+y.aq≤n→Wy ws B x→Wy ws B y→ak B x=ak B y→ ∃p,nI ws B p∧xp Ap p∧p.ev B (nK 1)=x∧p.ev B (nK 2)=y
 |0,x,y,hn,hx,hy,e=>by
  rcases hx.cases b with⟨s,as,rfl,_⟩ |⟨t,as,_,rfl,_⟩<;>rw[wq]at hn<;>lia
 |n+1,x,y,hn,hx,hy,e=>by
  have lists:∀(xs ys:List Tr),mO xs+mO ys≤n→(∀x∈xs,Wy ws B x)→(∀y∈ys,Wy ws B y)→xs.map (ak B)=ys.map (ak B)→ ∃ps:List Pl,(∀p∈ps,nI ws B p)∧(∀p∈ps,xp Ap p)∧ps.map (Pl.ev B (nK 1))=xs∧ps.map (Pl.ev B (nK 2))=ys:=by
   intro xs
   induction xs with
   |nil=>
    intro ys _ _ _ e;cases ys with
    |nil=>exact⟨[],by simp,by simp,rfl,rfl⟩
    |cons y ys=>cases e
   |cons x xs ih=>
    intro ys hw h1 h2 e;cases ys with
    |nil=>cases e
    |cons y ys=>
     rw[aC,aC,fG]at e;rw[mO,mO]at hw;obtain⟨p,hp,hq,e1,e2⟩:=AT b O n x y (by lia) (h1 x (by simp)) (h2 y (by simp)) e.1;obtain⟨ps,hps,hqs,e3,e4⟩:=ih ys (by lia) (λz hz=>h1 z (aI _ hz)) (λz hz=>h2 z (aI _ hz)) e.2;exact⟨p::ps,λq hq=>by
      obtain rfl |hq:=az.mp hq
      ·exact hp
      ·exact hps q hq,λq hz=>by
      obtain rfl |hz:=az.mp hz
      ·exact hq
      ·exact hqs q hz,by rw[aC,e1,e3],by rw[aC,e2,e4]⟩
  obtain ⟨s,as,rfl,hs,es,ka⟩ |⟨t,as,ht,rfl,et,la,ka⟩:=hx.cases b
  ·obtain ⟨s',bs,rfl,hs',es',kb⟩ |⟨t,bs,ht,rfl,et,lb,kb⟩:=hy.cases b
   ·rw[show ak B (.nd s as)=_ from qh es,show ak B (.nd s' bs)=_ from qh es']at e;injection e with e1 e2;subst e1;rw[wq,wq]at hn;obtain⟨ps,hps,hqs,e3,e4⟩:=lists as bs (by lia) ka kb e2;exact⟨.nd (-1) 0 s ps, .sign hs hps, .sign hqs,by rw[qb,e3],by rw[qb,e4]⟩
   ·rw[show ak B (.nd t.1 bs)=_ from p4 et]at e;obtain⟨vs,ev,lv,ms,kv,wv⟩:=C5 b O ht es hx (by rw[ay,lb]) e;rw[wq (s:=t.1)]at hn;obtain⟨ps,hps,hqs,e3,e4⟩:=lists vs bs (by lia) kv kb ms;obtain⟨k,hk⟩:=i_ ht;refine⟨.nd k 2 t.1 ps, .turn hk (by rw[←lb,←e4,ay]) (by decide) (by decide) hps, .turn (by unfold Ap;decide) hqs,?_,?_⟩
    ·rw[pZ hk,e3,ev,show nK 1 2=0 by decide];rfl
    ·rw[pZ hk,e4,show nK 2 2=1 by decide];rfl
  ·obtain ⟨s,bs,rfl,hs,es,kb⟩ |⟨u,bs,hu,rfl,eu,lb,kb⟩:=hy.cases b
   ·rw[show ak B (.nd t.1 as)=_ from p4 et]at e;obtain⟨vs,ev,lv,ms,kv,wv⟩:=C5 b O ht es hy (by rw[ay,la]) e.symm;rw[wq (s:=t.1)]at hn;obtain⟨ps,hps,hqs,e3,e4⟩:=lists as vs (by lia) ka kv ms.symm;obtain⟨k,hk⟩:=i_ ht;refine⟨.nd k 1 t.1 ps, .turn hk (by rw[←la,←e3,ay]) (by decide) (by decide) hps, .turn (by unfold Ap;decide) hqs,?_,?_⟩
    ·rw[pZ hk,e3,show nK 1 1=1 by decide];rfl
    ·rw[pZ hk,e4,ev,show nK 2 1=0 by decide];rfl
   ·rw[show ak B (.nd t.1 as)=_ from p4 et,show ak B (.nd u.1 bs)=_ from p4 eu]at e;have m1:=O.mt t ht (as.map (ak B)) (by rw[ay,la]);have m2:=O.mt u hu (bs.map (ak B)) (by rw[ay,lb]);have:t=u:=O.one t ht u hu _ (by rw[m1];rfl) (by rw[show(t.2.1.aD (as.map (ak B)))=_ from e,m2];rfl)
    subst this;have e2:as.map (ak B)=bs.map (ak B):=by
     rw[show(t.2.1.aD (as.map (ak B)))=_ from e,m2]at m1;exact(aK m1).symm
    rw[wq,wq]at hn;obtain⟨ps,hps,hqs,e3,e4⟩:=lists as bs (by lia) ka kb e2;obtain⟨k,hk⟩:=i_ ht;refine⟨.nd k 3 t.1 ps, .turn hk (by rw[←la,←e3,ay]) (by decide) (by decide) hps, .turn (by unfold Ap;decide) hqs,?_,?_⟩
    ·rw[pZ hk,e3,show nK 1 3=1 by decide];rfl
    ·rw[pZ hk,e4,show nK 2 3=1 by decide];rfl
theorem JV:∀xs ys:List Tr,mO (xs++ys)=mO xs+mO ys
 | [],ys=>by rw[aX,mO,bF]
 |x::xs,ys=>by rw[cg,mO,mO,JV xs ys,Nat.add_assoc]
mutual
theorem Fy:∀(L:Tr) (k m:Nat),L.ord k=aa m→k≤m∧L.nb+k=m∧ ∀(us:List Tr),m≤us.length→(L.aD us).aq+(m - k)=L.aq+mO ((us.drop k).take (m - k))∧ ∀u∈(us.drop k).take (m - k),u.depth≤(L.aD us).depth
 | .bl n,k,m,h=>by
  rw[Tr.ord]at h;split at h
  ·rename_i hn;cases h;refine⟨by lia,by rw[Tr.nb];lia,λus hu=>?_⟩
   have hk:k<us.length:=by lia
   have e:(us.drop k).take (k+1 - k)=[us[k]]:=by
    rw[show k+1 - k=1 by lia,ge hk]
    rfl
   have f:(Tr.bl n).aD us=us[k]:=by
    rw[Tr.aD,hn,bb,bv,aR hk];rfl
   rw[e,f];refine⟨?_,λu hu=>?_⟩
   ·simp only[Tr.aq,mO];lia
   ·rw[bi]at hu;rw[hu];exact aA _
  ·cases h
 | .nd s ls,k,m,h=>by
  rw[Tr.ord]at h;obtain⟨h1,h2,h3⟩:=Br ls k m h;refine⟨h1,by rw[Tr.nb];exact h2,λus hu=>?_⟩
  obtain⟨h4,h5⟩:=h3 us hu;rw[Tr.aD,Tr.aq,Tr.aq,Tr.depth];exact⟨by lia,λu hu'=>aY (h5 u hu') (by lia)⟩
theorem Br:∀(ls:List Tr) (k m:Nat),sf k ls=aa m→k≤m∧nbs ls+k=m∧ ∀(us:List Tr),m≤us.length→mO (aF us ls)+(m - k)=mO ls+mO ((us.drop k).take (m - k))∧ ∀u∈(us.drop k).take (m - k),u.depth≤nj (aF us ls)
 | [],k,m,h=>by
  rw[sf]at h;cases h;refine⟨aA _,by rw[nbs];lia,λus _=>?_⟩
  rw[g9,kY,aF];exact⟨rfl,λu hu=>by cases hu⟩
 |l::ls,k,m,h=>by
  rw[sf]at h;cases q:l.ord k with
  |none=>rw[q]at h;cases h
  |some j=>
   rw[q]at h;obtain⟨h1,h2,h3⟩:=Fy l k j q;obtain⟨g1,g2,g3⟩:=Br ls j m h;refine⟨by lia,by rw[nbs];lia,λus hu=>?_⟩
   obtain⟨h4,h5⟩:=h3 us (by lia);obtain⟨g4,g5⟩:=g3 us hu;have e:(us.drop k).take (m - k)=(us.drop k).take (j - k)++(us.drop j).take (m - j):=by
    rw[show m - k=(j - k)+(m - j) by lia,ly,kM,show k+(j - k)=j by lia]
   rw[e,JV,aF,mO,mO,nj];refine⟨by lia,λu hu=>?_⟩;obtain hu |hu:=bn.mp hu
   ·have:=h5 u hu;lia
   ·have:=g5 u hu;lia
end
def O3:∀(L:Tr),L.nb≤L.aq:=λL=>by rw[←E6];exact za L
theorem HN:∀ls:List Tr,nbs ls≤mO ls
 | []=>by rw[nbs,mO];exact aA _
 |l::ls=>by rw[nbs,mO];have:=O3 l;have:=HN ls;lia
def rK.aD (O:rK B) (ht:t∈B) (hl:us.length=t.2.1.nb):(t.2.1.aD us).aq+t.2.1.nb=t.2.1.aq+mO us∧1+mO us≤(t.2.1.aD us).aq∧1+nj us≤(t.2.1.aD us).depth:=by
 obtain⟨s,ls,e,_⟩:=O.inn t ht;have ho:=O.od t ht;obtain⟨_,h2,h3⟩:=Fy _ _ _ ho;obtain⟨h4,_⟩:=h3 us (by lia);rw[eU,dM,dP (by lia)]at h4;have hw:1+t.2.1.nb≤t.2.1.aq:=by
  rw[e,Tr.nb,Tr.aq];have:=HN ls;lia
 refine⟨h4,by lia,?_⟩
 rw[e]at ho hl⊢;rw[Tr.ord]at ho;obtain⟨_,_,g3⟩:=Br _ _ _ ho;obtain⟨_,g5⟩:=g3 us (by lia);rw[eU,dM,dP (by lia)]at g5;rw[Tr.aD,Tr.depth];have:=Mx g5;lia
def zr:Int→Nat:=λ_=>0
section
variable {B:List Tn}
mutual
noncomputable def Tr.ne (B:List Tn):Tr→Nat
 | .bl _=>0
 | .nd s ts=>(match nc B s with
  |none=>0
  |some _=>1)+oy B ts
noncomputable def oy (B:List Tn):List Tr→Nat
 | []=>0
 |t::ts=>max (t.ne B) (oy B ts)
end
theorem wS:∀{ts:List Tr},t∈ts→t.ne B≤oy B ts
 |u::ts,h=>by
  rw[oy];obtain rfl |h:=az.mp h
  ·lia
  ·have:=wS h;lia
theorem uj:∀{ts:List Tr},(∀t∈ts,t.ne B≤n)→oy B ts≤n
 | [],_=>by rw[oy];lia
 |t::ts,h=>by
  rw[oy];have:=h t (by simp);have:=uj λu hu=>h u (aI _ hu);lia
mutual
theorem A6 (hB:∀t∈B,p5 t.1):∀t:Tr,t.hb ox→(t.aD us).ne B≤oy B us
 | .bl n,_=>by
  rw[Tr.aD,bv];cases e:us[n.toNat]? with
  |none=>simp [Tr.ne]
  |some u=>exact wS (aJ e)
 | .nd s ts,h=>by
  rw[Tr.hb]at h;rw[Tr.aD,Tr.ne,qc hB h.1];have:=Ha hB (us:=us) ts h.2;simpa using this
theorem Ha (hB:∀t∈B,p5 t.1):∀ts:List Tr,oC ox ts→oy B (aF us ts)≤oy B us
 | [],_=>by rw[aF,oy];lia
 |t::ts,h=>by
  rw[oC]at h;rw[aF,oy];have:=A6 hB (us:=us) t h.1;have:=Ha hB (us:=us) ts h.2;lia
end
mutual
theorem Nc:∀(L:Tr) (k m:Nat),L.ord k=aa m→ ∀(us:List Tr),m≤us.length→ ∀u∈(us.drop k).take (m - k),u.ne B≤(L.aD us).ne B
 | .bl n,k,m,h,us,hu,u,hm=>by
  rw[Tr.ord]at h;split at h
  ·rename_i hn;cases h;have hk:k<us.length:=by lia
   have e:(us.drop k).take (k+1 - k)=[us[k]]:=by
    rw[show k+1 - k=1 by lia,ge hk]
    rfl
   have f:(Tr.bl n).aD us=us[k]:=by
    rw[Tr.aD,hn,bb,bv,aR hk];rfl
   rw[e,bi]at hm;rw[f,hm];exact aA _
  ·cases h
 | .nd s ls,k,m,h,us,hu,u,hm=>by
  rw[Tr.ord]at h;have:=Gw ls k m h us hu u hm;rw[Tr.aD,Tr.ne];lia
theorem Gw:∀(ls:List Tr) (k m:Nat),sf k ls=aa m→ ∀(us:List Tr),m≤us.length→ ∀u∈(us.drop k).take (m - k),u.ne B≤oy B (aF us ls)
 | [],k,m,h,us,hu,u,hm=>by
  rw[sf]at h;cases h;rw[g9,kY]at hm;cases hm
 |l::ls,k,m,h,us,hu,u,hm=>by
  rw[sf]at h;cases q:l.ord k with
  |none=>rw[q]at h;cases h
  |some j=>
   rw[q]at h;obtain⟨h1,_,_⟩:=Fy l k j q;obtain⟨g1,_,_⟩:=Br ls j m h;have e:(us.drop k).take (m - k)=(us.drop k).take (j - k)++(us.drop j).take (m - j):=by
    rw[show m - k=(j - k)+(m - j) by lia,ly,kM,show k+(j - k)=j by lia]
   rw[e]at hm;rw[aF,oy];obtain hm |hm:=bn.mp hm
   ·have:=Nc l k j q us (by lia) u hm;lia
   ·have:=Gw ls j m h us hu u hm;lia
end
def rK.ne (O:rK B) (ht:t∈B) (hl:us.length=t.2.1.nb):oy B us≤(t.2.1.aD us).ne B:=uj λu hu=>by
 refine Nc _ _ _ (O.od t ht) us (by lia) u ?_;rw[eU,dM,dP (by lia)];exact hu
def Je{c:Int→Nat}{p:Pl}{ps:List Pl}(hp:p∈ps):(p.ev B c).ne B≤oy B (ps.map (Pl.ev B c)):=wS (aV.mpr ⟨p,hp,rfl⟩)
def QN{c d:Int→Nat}(b:oz ws ws B) (O:rK B) (hc:vK c) (hd:vK d) {p:Pl}(h:nI ws B p):(p.ev B (pK c d)).ne B≤(p.ev B c).ne B:=by
 induction h with
 | @sign b' h ps hh hp ih=>
  have:oy B (ps.map (Pl.ev B (pK c d)))≤oy B (ps.map (Pl.ev B c)):=uj λu hu=>by
   obtain⟨p,hp,rfl⟩:=aV.mp hu;exact aY (ih p hp) (Je hp)
  have e:=qc b.ti (b.sg h hh);rw[qb,qb,Tr.ne,Tr.ne,e];simpa using this
 | @turn k b' h ps t e hl b0 b1 hp ih=>
  have ht:t∈B:=aJ e;have key:oy B (ps.map (Pl.ev B (pK c d)))≤oy B (ps.map (Pl.ev B c)):=uj λu hu=>by
   obtain⟨p,hp,rfl⟩:=aV.mp hu;exact aY (ih p hp) (Je hp)
  have l1:(ps.map (Pl.ev B c)).length=t.2.1.nb:=by rw[ay,hl]
  have low:oy B (ps.map (Pl.ev B c))+c b'≤(q_ t (c b') (ps.map (Pl.ev B c))).ne B:=by
   have:=hc b' b0 b1;by_cases h1:c b'=1
   ·rw[h1];show _≤(Tr.nd t.1 _).ne B;rw[Tr.ne,rg b.nd ht];show _≤1+_;lia
   ·rw[show c b'=0 by lia]
    exact O.ne ht l1
  rw[pZ e,pZ e];refine aY ?_ low;have hp:pK c d b'=if d b'=1 then 2 else c b':=rfl;rw[hp];by_cases dz:d b'=1
  ·rw[if_pos dz];have:=A6 b.ti (us:=ps.map (Pl.ev B (pK c d))) t.2.2 ((b.ri t ht).hb b.sg);show(t.2.2.aD _).ne B≤_;lia
  ·rw[if_neg dz];have:=hc b' b0 b1;by_cases h1:c b'=1
   ·rw[h1];show(Tr.nd t.1 _).ne B≤_;rw[Tr.ne,rg b.nd ht];show 1+_≤_;lia
   ·rw[show c b'=0 by lia]
    have:=A6 b.ti (us:=ps.map (Pl.ev B (pK c d))) t.2.1 (b.lf t ht).hb;show(t.2.1.aD _).ne B≤_;lia
end
theorem AA{B:List Tn}{m:Nat}{s z:ah}{ts us:List Tr}{d:Tr}(g:Mv B m (.nd s ts) (.nd z us) d):match nc B s,nc B z with
  |none,none=>∃n ds,oB B n ts us ds∧d= .nd s ds
  |none,aa t=>∃n ms ds,t.2.1.mt (.nd s ts)=aa ms∧oB B n ms us ds∧d=t.2.2.aD ds
  |some t,none=>∃n ms ds,t.2.1.mt (.nd z us)=aa ms∧oB B n ts ms ds∧d= .nd s ds
  |some _,aa t=>∃n ds,oB B n ts us ds∧d=t.2.2.aD ds:=by
 cases g with
 |nn g1 g2 g3=>rw[g1,g2];exact⟨_,_,g3,rfl⟩
 |ns g1 g2 g3 g4 g5=>rw[g1,g2];exact⟨_,_,_,g3,g5,rfl⟩
 |sn g1 g2 g3 g4=>rw[g1,g2];exact⟨_,_,_,g3,g4,rfl⟩
 |ss g1 g2 g3 g4=>rw[g1,g2];exact⟨_,_,g4,rfl⟩
theorem zA{B:List Tn}{n m:Nat}(f:∀{a b c d:Tr},Mv B n a b c→Mv B m a b d→c=d):∀(a:List Tr) {b c d:List Tr},oB B n a b c→oB B m a b d→c=d
 | [],_,_,_,h,g=>by cases h;cases g;rfl
 |_::a,_,_,_,h,g=>by
  cases h with
  |cons h1 h2=>
   cases g with
   |cons g1 g2=>rw[f h1 g1,zA f a h2 g2]
def Mv.one{n:Nat}:∀{m:Nat}{a b c d:Tr},Mv B n a b c→Mv B m a b d→c=d:=by
 induction n with
 |zero=>intro m a b c d h;cases h
 |succ n ih=>
  intro m a b c d h g;cases h with
  |nn h1 h2 h3=>have q:=AA g;rw[h1,h2]at q;obtain⟨_,_,q,rfl⟩:=q;rw[zA ih _ h3 q]
  |ns h1 h2 h3 h4 h5=>have q:=AA g;rw[h1,h2]at q;obtain⟨_,_,_,e,q,rfl⟩:=q;rw[h3]at e;cases e;rw[zA ih _ h5 q]
  |sn h1 h2 h3 h4=>have q:=AA g;rw[h1,h2]at q;obtain⟨_,_,_,e,q,rfl⟩:=q;rw[h3]at e;cases e;rw[zA ih _ h4 q]
  |ss h1 h2 h3 h4=>have q:=AA g;rw[h1,h2]at q;obtain⟨_,_,q,rfl⟩:=q;rw[zA ih _ h4 q]
open Classical in
noncomputable def res (B:List Tn) (x y:Tr):Tr:=if h:∃z n,Mv B n x y z then choose h else x
def Mv.res (h:Mv B n x y z):res B x y=z:=by
 unfold L2.res;have e:∃z n,Mv B n x y z:=⟨z,n,h⟩;rw[dif_pos e];obtain⟨m,h'⟩:=ko e;exact Mv.one h' h
structure Bk3 (ws:List ah) (B:List Tn):Prop where
  b:oz ws ws B
  O:rK B
  lw:∀t∈B,t.2.1.hb λs=>s∈ws
structure Hm (ws:List ah) (B:List Tn):Prop extends Bk3 ws B where
  sl:SL B
instance {ws:List ah}{B:List Tn}:Coe (Hm ws B) (Bk3 ws B):=⟨Hm.toBk3⟩
def Bk3.wy (K:Bk3 ws B) {c:Int→Nat}(h:nI ws B p):Wy ws B (p.ev B c):=by
 refine⟨?_,J4 _ (Zu K.b h)⟩
 induction h with
 | @sign b' h ps hh hp ih=>
  rw[qb,Tr.hd,m3];refine⟨.inl hh,λu hu=>?_⟩;obtain⟨p,hp,rfl⟩:=aV.mp hu;exact ih p hp
 | @turn k b' h ps t e hl b0 b1 hp ih=>
  have ht:t∈B:=aJ e;have hu:∀u∈ps.map (Pl.ev B c),u.hd λs=>s∈ws∨ ∃t∈B,t.1=s:=λu hu=>by
   obtain⟨p,hp,rfl⟩:=aV.mp hu;exact ih p hp
  rw[pZ e];unfold q_;split
  ·exact As hu _ (Nx (λs hs=> .inl hs) _ (K.lw t ht)) (by rw[ay,hl];exact(K.b.lf t ht).br)
  ·rw[Tr.hd,m3];exact⟨.inr ⟨t,ht,rfl⟩,hu⟩
  ·exact As hu _ ((K.b.ri t ht).hb (λs hs=> .inl hs)) (by rw[ay,hl];exact(K.b.ri t ht).br)
structure Ag (ws:List ah) (B:List Tn) (x y z:Tr):Prop where
  wy:Wy ws B z
  sr:ak B z=b7 B y
  go:b7 B z=b7 B (res B y x)
  ne:z.ne B≤x.ne B
def Sw (b:oz ws ws B) (h:nI ws B p):(p.ev B zr).ne B=0:=by
 induction h with
 | @sign b' h ps hh hp ih=>
  have:oy B (ps.map (Pl.ev B zr))≤0:=uj λu hu=>by
   obtain⟨p,hp,rfl⟩:=aV.mp hu;rw[ih p hp];exact aA _
  have e:=qc b.ti (b.sg h hh);rw[qb,Tr.ne,e];show 0+_=0;lia
 | @turn k b' h ps t e hl b0 b1 hp ih=>
  have ht:t∈B:=aJ e;have:oy B (ps.map (Pl.ev B zr))≤0:=uj λu hu=>by
   obtain⟨p,hp,rfl⟩:=aV.mp hu;rw[ih p hp];exact aA _
  have:=A6 b.ti (us:=ps.map (Pl.ev B zr)) t.2.1 (b.lf t ht).hb;rw[pZ e];show(t.2.1.aD _).ne B=0;lia
def Bk3.ak (K:Bk3 ws B) (h:Wy ws B x):Wy ws B (ak B x)∧L2.ak B (ak B x)=L2.ak B x∧(L2.ak B x).ne B=0∧b7 B (L2.ak B x)=L2.ak B x:=by
 obtain⟨p,hp,_,rfl,_⟩:=AT K.b K.O _ x x (aA _) h h rfl;have e:L2.ak B (p.ev B (nK 1))=p.ev B zr:=by
  show(p.ev B (nK 1)).mk B (λt=>t.2.1)=_;rw[wQ K.b hp];exact vN hp (tj 1).ak
 rw[e];refine⟨K.wy hp,?_,Sw K.b hp,?_⟩
 ·show(p.ev B zr).mk B (λt=>t.2.1)=_;rw[wQ K.b hp];rfl
 ·show(p.ev B zr).mk B (λt=>t.2.2)=_;rw[zz K.b hp];rfl
def Bk3.b7 (K:Bk3 ws B) (h:Wy ws B x):Wy ws B (b7 B x)∧L2.ak B (L2.b7 B x)=L2.b7 B x∧(L2.b7 B x).ne B=0∧L2.b7 B (L2.b7 B x)=L2.b7 B x:=by
 obtain⟨p,hp,_,rfl,_⟩:=AT K.b K.O _ x x (aA _) h h rfl;have e:L2.b7 B (p.ev B (nK 1))=p.ev B (sE (nK 1)):=zz K.b hp;have tg:∀x,sE (nK 1) x≠1:=λx=>by unfold sE;split<;>lia
 have s:L2.ak B (p.ev B (sE (nK 1)))=p.ev B (sE (nK 1)):=by
  show(p.ev B (sE (nK 1))).mk B (λt=>t.2.1)=_;rw[wQ K.b hp];exact vN hp λb _ _=>by rw[uR,if_neg (tg b)]
 have w:Wy ws B (p.ev B (sE (nK 1))):=K.wy hp;rw[e];refine⟨w,s,?_,?_⟩
 ·have:=(K.ak w).2.2.1;rwa [s]at this
 ·have:=(K.ak w).2.2.2;rwa [s]at this
noncomputable def ov (B:List Tn):Tr→List Tr→Tr
 |t,[]=>t
 |_,x::xs=>ov B (b7 B x) xs
def nP (ws:List ah) (B:List Tn):Tr→List Tr→Prop
 |_,[]=>True
 |t,x::xs=>Wy ws B x∧ak B x=t∧nP ws B (b7 B x) xs
noncomputable def nR (B:List Tn):List Tr→Nat
 | []=>0
 |x::xs=>x.ne B+nR B xs
noncomputable def qB (B:List Tn):Tr→List Tr→List Tr
 |x,[]=>[x]
 |x,o::os=>x::qB B (res B x o) os
noncomputable def pG (B:List Tn):Tr→List Tr→List Tr
 |_,[]=>[]
 |x,o::os=>res B o x::pG B (res B x o) os
noncomputable def qK (B:List Tn):Tr→List Tr→Tr
 |x,[]=>x
 |x,o::os=>qK B (res B x o) os
noncomputable def vV (B:List Tn):List Tr→List Tr→List (List Tr)
 | [],_=>[]
 |x::xs,os=>qB B x os::vV B xs (pG B x os)
noncomputable def Af (B:List Tn):List Tr→List Tr→List (List Tr)
 | [],os=>[os]
 |x::xs,os=>os::Af B xs (pG B x os)
noncomputable def oK (B:List Tn):List Tr→List Tr→List Tr
 | [],_=>[]
 |x::xs,os=>qK B x os::oK B xs (pG B x os)
noncomputable def Pg (B:List Tn):List Tr→List Tr→List Tr
 | [],os=>os
 |x::xs,os=>Pg B xs (pG B x os)
theorem OO:∀(os:List Tr) (x:Tr),(qB B x os).length=os.length+1
 | [],x=>rfl
 |o::os,x=>by rw[qB,aU,OO os];rfl
theorem MR:∀(os:List Tr) (x:Tr),(pG B x os).length=os.length
 | [],x=>rfl
 |o::os,x=>by rw[pG,aU,MR os];rfl
theorem Le:∀(os:List Tr) (x:Tr),(qB B x os).getLast? =aa (qK B x os)
 | [],x=>rfl
 |o::os,x=>by
  rw[qB,List.getLast?_cons,Le os,qK];rfl
theorem AS:∀(xs os:List Tr),(oK B xs os).length=xs.length
 | [],os=>rfl
 |x::xs,os=>by rw[oK,aU,AS xs];rfl
theorem DT{α β:Type}{R:α→β→Prop}:∀{xs:List α}{ys:List β}{xs':List α}{ys':List β},aN R xs ys→aN R xs' ys'→aN R (xs++xs') (ys++ys')
 |_,_,_,_, .nil,h=>h
 |_,_,_,_, .cons h1 h2,h=> .cons h1 (DT h2 h)
theorem uU{α β:Type}{R R':α→β→Prop}(f:∀x y,R x y→R' x y):∀{xs:List α}{ys:List β},aN R xs ys→aN R' xs ys
 |_,_, .nil=> .nil
 |_,_, .cons h1 h2=> .cons (f _ _ h1) (uU f h2)
mutual
theorem K5:∀(L t:Tr) (ms:List Tr) (p:List Int),L.mt t=aa ms→aN (λ(x:List Int×Tr) m=>∃e,x.1=p++e∧t.at e=aa m) ((L.plt p).filter λx=>x.2.isBl) ms
 | .bl n,t,ms,p,e=>by
  rw[Tr.mt]at e;cases e;rw[Tr.plt];exact .cons ⟨[],by simp,by rw[Tr.at]⟩ .nil
 | .nd s ls, .bl n,ms,p,e=>by rw[Tr.mt]at e;cases e
 | .nd s ls, .nd z us,ms,p,e=>by
  rw[Tr.mt]at e;split at e
  ·rename_i hc;rw[bV,beq_iff_eq,beq_iff_eq]at hc;rw[Tr.plt,kc (by simp [Tr.isBl])];refine uU ?_ (Ij ls us ms p 0 hc.2 e);rintro x m ⟨j,e,u,h1,h2,h3⟩;refine⟨(j:Int)::e,by rw[h1,bF],?_⟩
   rw[Tr.at,if_neg (by lia),bb,h2];exact h3
  ·cases e
theorem Ij:∀(ls us ms:List Tr) (p:List Int) (i:Nat),ls.length=us.length→nT ls us=aa ms→aN (λ(x:List Int×Tr) m=>∃(j:Nat) (e:List Int) (u:Tr),x.1=p++((i+j:Nat):Int)::e∧us[j]? =aa u∧u.at e=aa m) ((oN p i ls).filter λx=>x.2.isBl) ms
 | [],us,ms,p,i,hl,e=>by
  rw[nT]at e;cases e;rw[oN];exact .nil
 |l::ls,[],ms,p,i,hl,e=>by cases hl
 |l::ls,u::us,ms,p,i,hl,e=>by
  rw[nT]at e;cases q1:l.mt u with
  |none=>rw[q1]at e;cases e
  |some xs=>
   rw[q1]at e;cases q2:nT ls us with
   |none=>rw[q2]at e;cases e
   |some zs=>
    rw[q2]at e;cases e;rw[oN,j8];refine DT (uU ?_ (K5 l u xs _ q1)) (uU ?_ (Ij ls us zs p (i+1) (by simpa using hl) q2))
    ·rintro x m ⟨e,h1,h2⟩;exact⟨0,e,u,by rw[h1];simp,rfl,h2⟩
    ·rintro x m ⟨j,e,v,h1,h2,h3⟩;exact⟨j+1,e,v,by rw[h1,show i+1+j=i+(j+1) by lia],by rw[bT];exact h2,h3⟩
end
def DY{L t:Tr}{ms:List Tr}(h:L.mt t=aa ms):aN (λq m=>t.at q=aa m) (L.bls.map λx=>x.1) ms:=by
 have:=K5 L t ms [] h;clear h;unfold Tr.bls;generalize (L.plt []).filter (λx=>x.2.isBl)=xs at this⊢
 induction this with
 |nil=>exact .nil
 |cons h1 h2 ih=>
  obtain⟨e,h3,h4⟩:=h1;rw[aC];rw[aX]at h3;exact .cons (by rw[h3];exact h4) ih
def qS (wn:List (List Int)) (p:List Int):Nat:=wn.countP λq=>p.isPrefixOf q
def Jt (wn:List (List Int)) (p q:List Int):qS wn (p++q)≤qS wn p:=by
 unfold qS;refine List.countP_mono_left λx _ h=>?_;obtain⟨e,rfl⟩:=d_.mp h;exact d_.mpr ⟨q++e,by simp⟩
theorem IJ:∀(wn:List (List Int)) (p:List Int) (i:Int) (q:List Int),p∈wn→qS wn (p++i::q)+1≤qS wn p
 |w::wn,p,i,q,h=>by
  unfold qS;rw[lz,lz];have hs:=Jt wn p (i::q);unfold qS at hs;obtain rfl |h:=az.mp h
  ·have h1:(p++i::q).isPrefixOf p=false:=by
    rw[Bool.eq_false_iff];intro z;obtain⟨e,z⟩:=d_.mp z;have:=congrArg dH z;simp at this
   have h2:p.isPrefixOf p=true:=d_.mpr ⟨[],by simp⟩
   rw[h1,h2];simp;lia
  ·have ih:=IJ wn p i q h;unfold qS at ih;have h3:(p++i::q).isPrefixOf w=true→p.isPrefixOf w=true:=λz=>by
    obtain⟨e,rfl⟩:=d_.mp z;exact d_.mpr ⟨i::q++e,by simp⟩
   by_cases z:(p++i::q).isPrefixOf w=true
   ·rw[if_pos z,if_pos (h3 z)];lia
   ·rw[if_neg z];lia
theorem Fb:∀{ts:List Tr},(∀t∈ts,t.ar B)→r9 B ts
 | [],_=>by rw[r9];trivial
 |t::ts,h=>by rw[r9];exact⟨h t (by simp),Fb λu hu=>h u (aI _ hu)⟩
structure Sh (ws:List ah) (B:List Tn) (t:Tr):Prop where
  wy:Wy ws B t
  q:ak B t=t
def Sh.cases (K:Bk3 ws B) (h:Sh ws B t):∃s ts,t= .nd s ts∧s∈ws∧nc B s=none∧ ∀x∈ts,Sh ws B x:=by
 obtain ⟨s,ts,rfl,hs,e,k⟩ |⟨u,ts,hu,rfl,e,hl,k⟩:=h.wy.cases K.b
 ·have q:=h.q;rw[show ak B (.nd s ts)=_ from qh e]at q;injection q with _ q;refine⟨s,ts,rfl,hs,e,λx hx=>⟨k x hx,?_⟩⟩;obtain⟨i,hi,rfl⟩:=fA hx;have:=congrArg (λl=>l[i]?) q;simp only[aT,aR hi]at this;exact aK this
 ·have q:=h.q;rw[show ak B (.nd u.1 ts)=_ from p4 e]at q;obtain⟨s0,l0,e0,_⟩:=K.O.inn u hu;have hb:=(K.b.lf u hu).hb;rw[e0,Tr.hb]at hb;rw[e0,Tr.aD]at q;injection q with q _;exact absurd q (AU hb.1 (K.b.ti u hu))
def Sh.parts (K:Bk3 ws B) (h:Sh ws B t) (hu:u∈B) (e:u.2.1.mt t=aa ms):t=u.2.1.aD ms∧ms.length=u.2.1.nb∧ ∀x∈ms,Sh ws B x:=by
 obtain⟨h1,h2⟩:=K.O.fm u hu _ _ e;refine⟨h1,h2,λx hx=>⟨Gf _ _ _ e h.wy x hx,?_⟩⟩;have q:=h.q;rw[h1,show ak B (u.2.1.aD ms)=_ from KP K.b hu h2 _]at q;have m1:=K.O.mt u hu ms h2;have m2:=K.O.mt u hu (ms.map (ak B)) (by rw[ay,h2]);rw[show u.2.1.aD (ms.map (ak B))=_ from q,m1]at m2;have q:=aK m2;obtain⟨i,hi,rfl⟩:=fA hx;have:=congrArg (λl=>l[i]?) q;simp only[aT,aR hi]at this;exact(aK this).symm
def xv (B:List Tn) (wn:List (List Int)) (p:List Int) (t:Tr):Prop:=∀q∈wn,∀e v,q=p++e→t.at e=aa v→(o8 B v).isSome=true
def rZ{s:ah}{ts:List Tr}{i:Nat}{u:Tr}(h:ts[i]? =aa u) (e:List Int):(Tr.nd s ts).at ((i:Int)::e)=u.at e:=by
 rw[Tr.at,if_neg (by lia),bb,h]
def KO (ih:∀(t:Tr) (p:List Int),t.depth≤n→Sh ws B t→xv B wn p t→ ∃u,Wi B wn n p t u∧ak B u=t∧Wy ws B u∧u.ne B≤qS wn p) :
  ∀{qs:List (List Int)}{ts:List Tr},aN (λq t=>t.depth≤n∧Sh ws B t∧xv B wn (p++q) t∧qS wn (p++q)≤c) qs ts→ ∃us,qa B wn n p qs ts us∧us.map (ak B)=ts∧(∀u∈us,Wy ws B u)∧oy B us≤c:=by
 intro qs ts h
 induction h with
 |nil=>exact⟨[], .nil,rfl,by simp,by rw[oy];lia⟩
 |cons hd _ ih2=>
  obtain⟨h1,h2,h3,h4⟩:=hd;obtain⟨u,w,e,y,k⟩:=ih _ _ h1 h2 h3;obtain⟨us,ws',es,ys,ks⟩:=ih2;refine⟨u::us, .cons w ws',by rw[aC,e,es],λv hv=>?_,by rw[oy];lia⟩
  obtain rfl |hv:=az.mp hv
  ·exact y
  ·exact ys v hv
theorem Fg (K:Bk3 ws B) {wn:List (List Int)}:∀(n:Nat) (t:Tr) (p:List Int),t.depth≤n→Sh ws B t→xv B wn p t→ ∃u,Wi B wn n p t u∧ak B u=t∧Wy ws B u∧u.ne B≤qS wn p
 |0,t,p,hd,h,_=>by
  obtain⟨s,ts,rfl,_⟩:=h.cases K;rw[Tr.depth]at hd;lia
 |n+1,t,p,hd,h,hw=>by
  obtain⟨s,ts,rfl,hs,e,k⟩:=h.cases K;rw[Tr.depth]at hd;by_cases hp:p∈wn
  ·have ho:=hw p hp [] (.nd s ts) (by simp) (by rw[Tr.at]);obtain⟨u,ho⟩:=dS.mp ho;have hu:u∈B:=bX ho;have hm:(u.2.1.mt (.nd s ts)).isSome=true:=by simpa using fi ho
   obtain⟨ms,hm⟩:=dS.mp hm;obtain⟨f1,f2,f3⟩:=h.parts K hu hm;have ba:=DY hm;have hdm:∀y∈ms,y.depth≤n:=λy hy=>by
    obtain⟨s0,l0,e0,_⟩:=K.O.inn u hu;rw[e0,Tr.mt]at hm;split at hm
    ·have:=CA _ _ _ hm y hy;lia
    ·cases hm
   have hne:∀q∈u.2.1.bls.map (λx=>x.1),∃i e,q=i::e:=λq hq=>by
    obtain⟨z,hz,rfl⟩:=aV.mp hq;obtain⟨h1,h2,_⟩:=xG hz;cases hq:z.1 with
    |nil=>
     rw[hq,Tr.at]at h1;have h3:u.2.1=z.2:=aK h1;obtain⟨s0,l0,e0,_⟩:=K.O.inn u hu;rw[←h3,e0]at h2;cases h2
    |cons i is=>exact⟨i,is,rfl⟩
   have pr:∀{qs:List (List Int)}{xs:List Tr},(∀q∈qs,∃i e,q=i::e)→(∀x∈xs,x.depth≤n∧Sh ws B x)→aN (λq m=>(Tr.nd s ts).at q=aa m) qs xs→aN (λq t=>t.depth≤n∧Sh ws B t∧xv B wn (p++q) t∧qS wn (p++q)≤qS wn p - 1) qs xs:=by
    intro qs xs h1 h2 h3
    induction h3 with
    |nil=>exact .nil
    | @cons q m qs xs h4 _ ih=>
     obtain⟨i,e,rfl⟩:=h1 q (by simp);obtain⟨g1,g2⟩:=h2 m (by simp);refine .cons ⟨g1,g2,λq' hq' e' v' h5 h6=>hw q' hq' (i::e++e') v' (by rw[h5];simp) (by rw[vh _ e' h4];exact h6),?_⟩ (ih (λq hq=>h1 q (aI _ hq)) λx hx=>h2 x (aI _ hx));have:=IJ wn p i e hp;lia
   obtain⟨us,wi,es,ys,ks⟩:=KO (Fg K n) (pr hne (λx hx=>⟨hdm x hx,f3 x hx⟩) ba);have et:=rg K.b.nd hu;have lu:us.length=u.2.1.nb:=by rw[←f2,←es,ay]
   refine⟨.nd u.1 us, .yes hp ho hm et wi,?_,⟨?_,?_⟩,?_⟩
   ·rw[show ak B (.nd u.1 us)=_ from p4 et,es,f1]
   ·rw[Tr.hd,m3];exact⟨.inr ⟨u,hu,rfl⟩,λx hx=>(ys x hx).hd⟩
   ·rw[Tr.ar];refine⟨λt ht=>?_,Fb λx hx=>(ys x hx).ar⟩;rw[et]at ht;cases ht;exact lu
   ·rw[Tr.ne,et];have h1:1≤qS wn p:=by
     unfold qS;exact List.countP_pos_iff.mpr ⟨p,hp,d_.mpr ⟨[],by simp⟩⟩
    show 1+_≤_;lia
  ·have pr:∀(i:Nat) (xs:List Tr),(∀(j:Nat) x,xs[j]? =aa x→ts[i+j]? =aa x)→aN (λq t=>t.depth≤n∧Sh ws B t∧xv B wn (p++q) t∧qS wn (p++q)≤qS wn p) ((fZ i xs.length).map λ(i:Nat)=>[(i:Int)]) xs:=by
    intro i xs
    induction xs generalizing i with
    |nil=>intro _;exact .nil
    |cons x xs ih=>
     intro hx;have hi:=hx 0 x rfl;rw[dy]at hi;have hm:x∈ts:=aJ hi;have hdx:=p7 hm;rw[aU,gH,aC];refine .cons ⟨by lia,k x hm,λq' hq' e' v' h5 h6=>hw q' hq' ((i:Int)::e') v' (by rw[h5];simp) (by rw[rZ hi];exact h6),Jt wn p _⟩ (ih (i+1) λj y hy=>?_);have:=hx (j+1) y (by rw[bT];exact hy);rw[show i+1+j=i+(j+1) by lia]
     exact this
   have pr0:=pr 0 ts λj x h=>by rw[bF];exact h
   rw[←hU]at pr0;obtain⟨us,wi,es,ys,ks⟩:=KO (Fg K n) pr0;refine⟨.nd s us, .no hp e wi,?_,⟨?_,?_⟩,?_⟩
   ·rw[show ak B (.nd s us)=_ from qh e,es]
   ·rw[Tr.hd,m3];exact⟨.inl hs,λx hx=>(ys x hx).hd⟩
   ·rw[Tr.ar];exact⟨λt ht=>(by rw[e]at ht;cases ht),Fb λx hx=>(ys x hx).ar⟩
   ·rw[Tr.ne,e];show 0+_≤_;lia
def Bo{α:Type}(xs:List α) (x:α):nE (xs++[x]) (-1)=aa x:=by
 unfold nE tG;rw[if_neg (by decide),a_,cA];rw[if_pos (by lia)];show(xs++[x])[_]? =aa x;rw[show((-1+((xs.length+1:Nat):Int)).toNat)=xs.length by lia,List.getElem?_concat_length]
structure At (S0 S:lF) (d o b:ai) (xs:List Tr):Prop where
  d:b≠d
  o:b≠o
  e:S b=aa (.bP (xs.map lA))
  z:S0 b=none
def Bt (s:Sub S0 S) (h:S q=none):S0 q=none:=by
 cases e:S0 q with
 |none=>rfl
 |some v=>rw[s _ _ e]at h;cases h
def At.sub{S0 S S':lF}{d o b:ai}{xs:List Tr}(h:At S0 S d o b xs) (s:Sub S S'):At S0 S' d o b xs:=⟨h.d,h.o,s _ _ h.e,h.z⟩
def At.pd{S0 S:lF}{d o b:ai}{xs:List Tr}{v:Ob}(h:At S0 S d o b xs):At S0 (bQ S d v) d o b xs:=⟨h.d,h.o,by rw[nQ h.d];exact h.e,h.z⟩
def At.po{S0 S:lF}{d o b:ai}{xs:List Tr}{v:Ob}(h:At S0 S d o b xs):At S0 (bQ S o v) d o b xs:=⟨h.d,h.o,by rw[nQ h.o];exact h.e,h.z⟩
abbrev vY (S0 S:lF) (d o:ai) (bs:List ai) (xss:List (List Tr)):Prop:=aN (At S0 S d o) bs xss
def Gg{α β:Type}{R:α→β→Prop}{xs:List α}{ys:List β}{x:α}{y:β}(h:aN R xs ys) (g:R x y):aN R (xs++[x]) (ys++[y]):=DT h (.cons g .nil)
def PX{X:ah→lF→Prop}(hw:t.aq≤400) (hd:t.depth≤40) (h:Q (lA t) S):sH (r+5) [lA t] S Q X:=by
 rw[show r+5=r+4+1 from rfl,sH];ext;refine TK (r:=r+3) (by lia) ?_;rw[DC hw hd]
 try ext
 exact⟨_, .refl,h⟩
theorem Nz{α β:Type}(f:α→W) (g:β→W):∀(xs:List α) (ys:List β),m8 (xs.map f) (ys.map g)=(xs.zip ys).map λp=> .bW [f p.1,g p.2]
 | [],ys=>by simp [m8]
 |x::xs,[]=>by simp [m8]
 |x::xs,y::ys=>by rw[aC,aC,m8,Nz f g xs ys];rfl
theorem Hq:∀(os:List Tr) (x:Tr),(os.zip (qB B x os)).map (λp=>res B p.1 p.2)=pG B x os
 | [],x=>rfl
 |o::os,x=>by rw[qB,hZ,aC,Hq os,pG]
section
variable {ws:List ah}{B:List Tn}{l2 d o ρ:ai}{r:Nat}{E:WX}{D:m4}{T:WS}{t:Tr}{xs os:List Tr}{S:lF}{y0 y1 y2 y3 y4 y5 y6 y7:Option W}
def SS (h:∀d,S d=none→T E D [y0,y1,y2,aa (.ref d),y4,y5,y6,y7] (bQ S d (.bP []))):Dg r T E D [y0,y1,y2,y3,y4,y5,y6,y7] S:=by
 rw[Dg];ext;exact⟨aQ _,h⟩
def PM (hl:S l2=aa (.bP vs)) (h:∀ρ,S ρ=none→T E D [y0,y1,aa (.bW [lA t, .ref l2]),y3,aa (.ref ρ),y5,y6,y7] (bQ S ρ (.bP vs))):Dy r T E D [y0,y1,aa (.bW [lA t, .ref l2]),y3,y4,y5,y6,y7] S:=by
 rw[Dy];ext;show og S l2 λws=>∀ρ,S ρ=none→T E D [y0,y1,aa (.bW [lA t, .ref l2]),y3,aa (.ref ρ),y5,y6,y7] (bQ S ρ (.bP ws));rw[ni hl];exact h
def R6 (h:∀o,S o=none→T E D [y0,y1,y2,y3,aa (.ref ρ),aa (.ref o),y6,y7] (bQ S o (.bP [.ref ρ]))):EV r T E D [y0,y1,y2,y3,aa (.ref ρ),y5,y6,y7] S:=by
 rw[EV];ext;exact⟨by decide,h⟩
def W7 (hd:S d=aa (.bP vs)) (hn:vs.length≤1000) (h:T E D [y0,y1,y2,aa (.ref d),y4,y5,y6,aa (.ref q)] (bQ S d (.bP (vs++[.ref q])))) :
  DO r T E D [y0,y1,y2,aa (.ref d),y4,y5,y6,aa (.ref q)] S:=by
 rw[DO];ext;rw[ni hd,ni hd];exact⟨trivial,qJ (by lia),h⟩
def WR (hd:S o=aa (.bP vs)) (hn:vs.length≤1000) (h:D.nx [y0,y1,y2,y3,aa (.ref ρ),aa (.ref o),y6,y7] (bQ S o (.bP (vs++[.ref ρ])))) :
  Fk r E D [y0,y1,y2,y3,aa (.ref ρ),aa (.ref o),y6,y7] S:=by
 rw[Fk];ext;rw[ni hd,ni hd];exact⟨trivial,qJ (by lia),h⟩
structure SN (S0 S:lF) (B:List Tn) (xs os:List Tr) (d o:ai):Prop where
  sub:Sub S0 S
  d0:S0 d=none
  o0:S0 o=none
  ne:d≠o
  ex:∃ds rs,S d=aa (.bP (ds.map W.ref))∧S o=aa (.bP (rs.map W.ref))∧vY S0 S d o ds (vV B xs os)∧vY S0 S d o rs (Af B xs os)
end
noncomputable def ze (B:List Tn) (t:Tr):List (List Int):=(t.op B []).map λx=>x.1
def Sh.hdT (h:Sh ws B t):t.hd λ_=>True:=wb (λ_ _=>trivial) _ h.wy.hd
def Sh.wn{ws:List ah}{B:List Tn}{t:Tr}(h:Sh ws B t) {wn:List (List Int)}(hw:∀q∈wn,q∈ze B t):xv B wn [] t:=by
 intro q hq e v he hv;rw[aX]at he;subst he;obtain⟨x,hx,rfl⟩:=aV.mp (hw q hq);rw[←AX B t [] (t5 _ h.hdT)]at hx;obtain⟨y,hy,hx⟩:=d9.mp hx;unfold sP at hx;obtain⟨u,hu,rfl⟩:=aV.mp hx;have:=(KB hy).1;rw[this]at hv;cases hv;cases e:o8 B y.2 with
 |none=>rw[e]at hu;cases hu
 |some _=>rfl
section
variable {B:List Tn}{t:Tr}{xs:List Tr}
theorem KN:∀(xs:List Tr) (t u:Tr),ov B t (xs++[u])=b7 B u
 | [],t,u=>rfl
 |x::xs,t,u=>KN xs (b7 B x) u
end
theorem IW{α β:Type}{R:α→β→Prop}:∀{xs:List α}{ys:List β},aN R xs ys→ ∃zs:List (α×β),zs.map (λz=>z.1)=xs∧zs.map (λz=>z.2)=ys∧ ∀z∈zs,R z.1 z.2
 |_,_, .nil=>⟨[],rfl,rfl,by simp⟩
 |_,_, .cons h1 h2=>by
  obtain⟨zs,e1,e2,h3⟩:=IW h2;exact⟨(_,_)::zs,by rw[aC,e1],by rw[aC,e2],λz hz=>by
   obtain rfl |hz:=az.mp hz
   ·exact h1
   ·exact h3 z hz⟩
theorem JJ{α β γ:Type}{R:α→β→Prop}{R':β→γ→Prop}:∀{xs:List α}{ys:List β}{zs:List γ},aN R xs ys→aN R' ys zs→aN (λx z=>∃y,R x y∧R' y z) xs zs
 |_,_,_, .nil, .nil=> .nil
 |_,_,_, .cons h1 h2, .cons g1 g2=> .cons ⟨_,h1,g1⟩ (JJ h2 g2)
def Z6 (os:List Tr) (x:Tr):∃l,qB B x os=l++[qK B x os]:=by
 have:=Le (B:=B) os x;rw[List.getLast?_eq_some_iff]at this;exact this
theorem MS:∀(xs os:List Tr),aN (λline u=>∃l,line=l++[u]) (vV B xs os) (oK B xs os)
 | [],os=> .nil
 |x::xs,os=> .cons (Z6 os x) (MS xs _)
theorem Gq:∀(os:List Tr) (x:Tr) (xs:List Tr),oK B os (x::xs)=oK B (pG B x os) xs
 | [],x,xs=>by rw[oK,pG,oK]
 |o::os,x,xs=>by rw[oK,pG,pG,qK,oK,Gq os]
theorem NG:∀(os:List Tr),oK B os []=os
 | []=>by rw[oK]
 |o::os=>by rw[oK,pG,qK,NG os]
section
variable {B:List Tn}{l d o:ai}{r:Nat}{xs os:List Tr}{S:lF}{Q:WK}{X:ah→lF→Prop}
def KJ (hd:S d=aa (.bP (ds.map W.ref))) (hn:xs.length≤700) (AD:vY S0 S d o ds (vV B xs os)) (h:∀q,S q=none→Q (.ref q) (bQ S q (.bP ((oK B xs os).map lA)))):xZ (r+1) [.bW [.ref d, .ref o]] S Q X:=by
 obtain⟨zs,e1,e2,h3⟩:=IW (JJ AD (MS xs os));rw[xZ];ext;rw[ni hd];have e3:ds.map W.ref=zs.map λz=>W.ref z.1:=by rw[←e1,bu];rfl
 have hz:zs.length=xs.length:=by rw[←AS (B:=B) xs os,←e2,ay]
 rw[e3];refine qe (λσ=>∃y,σ=[y]) (λz:ai×Tr=>W.ref z.1) (λz=>lA z.2) (by rw[←e3];exact hd) zs [] _ ⟨none,rfl⟩ (by simp;lia) (λz hz σ R hI hR=>?_) ?_
 ·obtain⟨y,rfl⟩:=hI;obtain⟨line,A,l,rfl⟩:=h3 z hz;rw[MW];ext;have Ae:=A.e;rw[bK]at Ae;rw[ni Ae,show [z.2].map lA=[lA z.2] from rfl,Bo];exact hR _ _ ⟨_,rfl⟩ .refl
 ·intro q hq;have:=h q hq;rw[←e2,bu]at this;exact⟨_, .refl,this⟩
end
mutual
def Tr.wd:Tr→Prop
 | .bl _=>True
 | .nd _ ts=>ts.length≤1000∧uT ts
def uT:List Tr→Prop
 | []=>True
 |t::ts=>t.wd∧uT ts
end
theorem qC:∀{ts:List Tr},uT ts↔ ∀t∈ts,t.wd
 | []=>by simp [uT]
 |t::ts=>by simp [uT,qC (ts:=ts)]
def RI{t:Tr}(h:t.wd):t.dI.length≤1000:=by
 cases t with
 |bl n=>simp [Tr.dI]
 |nd s ts=>simpa [Tr.dI]using h.1
def Ri{ts:List Tr}(h:∀x∈ts,x.wd):∀x∈ts.flatMap Tr.dI,x.wd:=λx hx=>by
 obtain⟨t,ht,hk⟩:=d9.mp hx;have:=h t ht;cases t with
 |bl n=>simp [Tr.dI]at hk
 |nd s us=>exact qC.mp this.2 x (by simpa [Tr.dI]using hk)
theorem LL (hba:b≠a):∀(ts:List Tr) {S:lF}{us:List Tr}{x2:Option W},S a=aa (.bP (af us))→S b=aa (.bP ps)→(∀t∈ts,t.dI.length≤1000)→us.length+1000*ts.length≤500000→
  (∀x2,D.nx [x0,aa (.ref a),x2] (bQ S a (.bP (af (us++ts.flatMap Tr.dI)))))→
  mS (mB 2) (yP (r+1) mK) E D (λS'=>S' b=aa (.bP ps)) (af ts) [x0,aa (.ref a),x2] S
 | [],S,us,x2,ha,hb,hA,hl,h=>by
  have:=h x2;simp only[cZ,bf,sF ha]at this;simpa [af,mS]using this
 |t::ts,S,us,x2,ha,hb,hA,hl,h=>by
  simp only[aU]at hl;have hk:=hA t aL;simp only[af];refine pV λN hN=>?_;simp only[yP];ext;simp only[ni ha,true_and];refine yz ?_;ext;rw[ni ha];refine⟨m_ (by rw[pP,pP];lia),hN _ _ _ .refl (by rw[nQ hba];exact hb) ?_⟩;rw[←xB];refine LL hba ts mV (by rw[nQ hba];exact hb) (λu hu=>hA u (aI _ hu)) (by rw[a_];lia) λx2=>?_;rw[pM];have:=h x2;rw[cw,←bD]at this;exact this
def YF{E:ah→lF→Prop}(hb:S b=aa (.bP (af ts))) (hA:∀t∈ts,t.dI.length≤1000) (hw:ts.length≤400) (h:∀a,S a=none→Q (.ref a) (bQ S a (.bP (af (ts.flatMap Tr.dI))))):xI (r+2) [.ref b] S Q E:=by
 rw[xI];ext;refine⟨aQ _,λa ha=>?_⟩;have hba:=Cb hb ha;rw[ni (keep hb ha)];refine LL (us:=[]) hba ts (by simp [mV,af]) (keep hb ha) hA (by simp;lia) λx2=>?_;rw[pM];ext;exact⟨_, .refl,h a ha⟩
def DF{t:Tr}{r:Nat}{S:lF}{Q:WK}{E:ah→lF→Prop}(hA:t.wd) (h:Q (.bl t.bo) S):wR (r+3) [lA t] S Q E:=by
 rw[wR];ext;refine⟨m_ (by decide),λa ha=>?_⟩;refine⟨λm σ S'=>∃(ts:List Tr) (k d:Nat) (b:ai),m=mO ts∧(∀x∈ts,x.wd)∧k+mO ts=t.aq∧d+nj ts=t.depth∧k≤400∧d≤40∧S b=none∧S'=bQ S b (.bP (af ts))∧σ=[aa (lA t),aa (.int k),aa (.int d),aa (.ref b)],⟨_,[t],0,0,a,rfl,(λx hx=>by rw[bi.mp hx];exact hA),by simp [mO],by simp [nj],by decide,by decide,ha,by simp [af],rfl⟩,?_⟩
 rintro m σ S' ⟨ts,k,d,b,rfl,hds,hwt,hk,hk4,hd4,hb,rfl,rfl⟩;ext;cases ts with
 |nil=>
  simp only[af,ip];ext;simp only[nj,mO,dy]at hk hwt;have e:t.bo=true:=by unfold Tr.bo;rw[decide_eq_true (by lia),decide_eq_true (by lia)];rfl
  rw[e]at h;exact⟨_, .bQ .refl hb,h⟩
 |cons u us=>
  have hne:(af (u::us)).isEmpty=false:=by simp [af]
  rw[hne];have hfl:=Ep (u::us);have hdf:=FQ (ts:=u::us) (by simp);have hlw:=qI (u::us);simp only[E0];ext;rw[pP];have no:400<t.aq∨40<t.depth→ ∃S'',Sub S'' (bQ S b (Ob.bP (af (u::us))))∧Q (W.bl false) S'':=λz=>by
   have e:t.bo=false:=by
    unfold Tr.bo;obtain z |z:=z
    ·rw[decide_eq_false (by lia)];rfl
    ·rw[decide_eq_false (p:=t.depth≤40) (by lia),fW]
   rw[e]at h;exact⟨_, .bQ .refl hb,h⟩
  split
  ·exact no (.inl (by lia))
  ·split
   ·exact no (.inr (by lia))
   ·refine YF mV (λx hx=>RI (hds x hx)) (by lia) λc hc=>?_;obtain⟨hc1,hc2⟩:=rf hc;refine⟨mO ((u::us).flatMap Tr.dI),bQ S c (.bP (af ((u::us).flatMap Tr.dI))),by simp only[aU]at hfl;lia, .put2 (.bQ .refl hb),_,k+(u::us).length,d+1,c,rfl,Ri hds,by lia,by lia,by lia,by lia,hc1,rfl,?_⟩
    push_cast
    rfl
structure pF (g:Tn→Tr) (B:List Tn):Prop where
  br:∀t∈B,(g t).br t.2.1.nb
  dp:∀t∈B,(g t).depth≤4
  wt:∀t∈B,(g t).aq≤20
section
variable {S:lF}{a:ai}{B:List Tn}{n:Int}
theorem Fm (ha:S a=aa (.bP (B.map mQ))) (hn:n=1∨n=2) (hg:pF (oo n) B):∀(d:Nat) {t:Tr}{r:Nat}{Q:WK}{E:ah→lF→Prop},t.depth≤d→d+10≤r→t.ar B→t.aq≤1000→Q (lA (t.mk B (oo n))) S→xC (r+1) [.ref a,lA t, .int n] S Q E
 |0,t,r,Q,E,hd,hr,hh,hw,h=>by have:=qD t;lia
 |d+1, .bl k,r,Q,E,hd,hr,hh,hw,h=>by simp [Tr.ar]at hh
 |d+1, .nd s ts,r,Q,E,hd,hr,hh,hw,h=>by
  simp only[Tr.depth]at hd;simp only[Tr.aq]at hw;simp only[Tr.ar]at hh;have hk:=qI ts;obtain⟨r,rfl⟩:∃r',r=r'+1:=⟨r - 1,by lia⟩
  rw[xC];simp only[lA];ext;rw[o6];refine qe (λσ=>∃x,σ=[x,aa (.ref a),aa (.int n)]) lA (λt=>lA (t.mk B (oo n))) trivial ts [] _ ⟨none,rfl⟩ (by simp;lia) (λx hx σ R hI hR=>?_) ?_
  ·obtain⟨y,rfl⟩:=hI;have hdx:=p7 hx;have hwx:=pk hx;simp only[M9];ext;exact Fm ha hn hg d (by lia) (by lia) (oD.mp hh.2 x hx) (by lia) (hR _ _ ⟨_,rfl⟩ .refl)
  ·rw[aX];intro q hq;have eu:(ts.map λt=>lA (t.mk B (oo n)))=af (ts.map (Tr.mk B (oo n))):=by rw[o6,bu];rfl
   rw[eu];have fq:bQ S q (Ob.bP (af (ts.map (Tr.mk B (oo n))))) q=aa (.bP (af (ts.map (Tr.mk B (oo n))))):=mV;have fa:=keep (x:=Ob.bP (af (ts.map (Tr.mk B (oo n))))) ha hq;have sub:Sub S (bQ S q (Ob.bP (af (ts.map (Tr.mk B (oo n)))))):= .bQ .refl hq;generalize bQ S q (Ob.bP (af (ts.map (Tr.mk B (oo n)))))=S1 at fq fa sub⊢;refine wO fa ?_;cases e:nc B s with
   |none=>
    rw[CK e]at h;simp only[oI]
    try ext
    try rw[ni fq]
    rw[pP,ay];simp only[lA]at h;exact⟨m_ (by decide),m_ (by lia),_,sub,h⟩
   |some t=>
    have ht:t∈B:=bX e;have ee:oI (aa t)= .bW [.str t.1,lA t.2.1,lA t.2.2]:=rfl;rw[CI e]at h;rw[ee]
    try ext
    rw[Mo t hn];dsimp only;have hgw:=hg.wt t ht;exact F0 4 (hg.dp t ht) (by lia) fq (by rw[ay,hh.1 t e];exact hg.br t ht) (by lia) ⟨_,sub,h⟩
def Y2{E:ah→lF→Prop}(ha:S a=aa (.bP (B.map mQ))) (hg:pF (oo 1) B) (hd:t.depth≤40) (hr:60≤r) (hh:t.ar B) (hw:t.aq≤1000) (hwd:(t.mk B (oo 1)).wd)
  (h1:(t.mk B (oo 1)).bo=true→Q (lA (t.mk B (oo 1))) S) (h2:(t.mk B (oo 1)).bo=false→E "TooGreat" S):Bm (r+1) [.ref a,lA t] S Q E:=by
 obtain⟨r,rfl⟩:∃r',r=r'+5:=⟨r - 5,by lia⟩
 rw[Bm];ext;refine Fm ha (.inl rfl) hg 40 (r:=r+4) hd (by lia) hh hw ?_;rw[sH];ext;refine DF (r:=r+1) hwd ?_;cases e:(t.mk B (oo 1)).bo with
 |true=>
  try ext
  exact⟨_, .refl,_, .refl,h1 e⟩
 |false=>
  try ext
  try rw[C3]
  try ext
  exact⟨m_ (by decide),h2 e⟩
def Ov{E:ah→lF→Prop}(ha:S a=aa (.bP (B.map mQ))) (hg:pF (oo 2) B) (hd:t.depth≤40) (hr:60≤r) (hh:t.ar B) (hw:t.aq≤1000) (hwd:(t.mk B (oo 2)).wd)
  (h1:(t.mk B (oo 2)).bo=true→Q (lA (t.mk B (oo 2))) S) (h2:(t.mk B (oo 2)).bo=false→E "TooGreat" S):uw (r+1) [.ref a,lA t] S Q E:=by
 obtain⟨r,rfl⟩:∃r',r=r'+5:=⟨r - 5,by lia⟩
 rw[uw];ext;refine Fm ha (.inr rfl) hg 40 (r:=r+4) hd (by lia) hh hw ?_;rw[sH];ext;refine DF (r:=r+1) hwd ?_;cases e:(t.mk B (oo 2)).bo with
 |true=>
  try ext
  exact⟨_, .refl,_, .refl,h1 e⟩
 |false=>
  try ext
  try rw[C3]
  try ext
  exact⟨m_ (by decide),h2 e⟩
end
theorem IH (us:List Tr):∀ts:List Tr,aF us ts=ts.map (Tr.aD us)
 | []=>by simp [aF]
 |t::ts=>by rw[aF,IH us ts];rfl
def Os (t:Tr):t.bo=false↔((400:Int)<t.aq∨(40:Int)<t.depth):=by
 unfold Tr.bo;rw[Bool.and_eq_false_iff,decide_eq_false_iff_not,decide_eq_false_iff_not];lia
def stk (x:Tr):List ah→Tr
 | []=>x
 |h::hs=> .nd h [stk x hs]
mutual
theorem K7 (hu:∀u∈us,u.wd):∀t:Tr,t.aq≤1000→(t.aD us).wd
 | .bl n,h=>by
  rw[Tr.aD,bv];cases e:us[n.toNat]? with
  |none=>exact trivial
  |some u=>exact hu u (aJ e)
 | .nd s ts,h=>by
  rw[Tr.aq]at h;have:=qI ts;rw[Tr.aD];refine⟨?_,Nq hu ts (by lia)⟩;rw[IH,ay];lia
theorem Nq (hu:∀u∈us,u.wd):∀ts:List Tr,mO ts≤1000→uT (aF us ts)
 | [],h=>by rw[aF];exact trivial
 |t::ts,h=>by
  rw[mO]at h;rw[aF];exact⟨K7 hu t (by lia),Nq hu ts (by lia)⟩
end
mutual
theorem B9{g:Tn→Tr}(hg:∀t∈B,(g t).aq≤1000):∀t:Tr,t.aq≤1000→(t.mk B g).wd
 | .bl n,h=>by rw[Tr.mk];exact trivial
 | .nd s ts,h=>by
  rw[Tr.aq]at h;have hl:=qI ts;have ih:=La hg ts (by lia);rw[wU]at ih;cases e:nc B s with
  |none=>
   rw[CK e];exact⟨by rw[ay];lia,ih⟩
  |some u=>
   rw[CI e];exact K7 (qC.mp ih) _ (hg u (bX e))
theorem La{g:Tn→Tr}(hg:∀t∈B,(g t).aq≤1000):∀ts:List Tr,mO ts≤1000→uT (rE B g ts)
 | [],h=>by rw[rE];exact trivial
 |t::ts,h=>by
  rw[mO]at h;rw[rE];exact⟨B9 hg t (by lia),La hg ts (by lia)⟩
end
theorem C2{f:Tr→Tr}:∀as:List Tr,(∀x∈as,x.aq≤(f x).aq)→mO as≤mO (as.map f)
 | [],h=>by simp [mO]
 |x::as,h=>by
  have:=C2 as λy hy=>h y (aI _ hy);have:=h x aL;rw[aC,mO,mO];lia
theorem EA{f:Tr→Tr}:∀as:List Tr,(∀x∈as,x.depth≤(f x).depth)→nj as≤nj (as.map f)
 | [],h=>by simp [nj]
 |x::as,h=>by
  have:=EA as λy hy=>h y (aI _ hy);have:=h x aL;rw[aC,nj,nj];lia
section
theorem AL (K:Bk3 ws B):∀(n:Nat) (x:Tr),x.aq≤n→Wy ws B x→x.aq≤(ak B x).aq∧x.depth≤(ak B x).depth
 |0,x,hn,h=>by have:=rQ x;lia
 |n+1,x,hn,h=>by
  obtain ⟨s,as,rfl,hs,e,hk⟩ |⟨t,as,ht,rfl,e,hl,hk⟩:=h.cases K.b
  ·rw[Tr.aq]at hn;have ih:∀y∈as,y.aq≤(ak B y).aq∧y.depth≤(ak B y).depth:=λy hy=>AL K n y (by have:=pk hy;lia) (hk y hy);have h1:=C2 (f:=ak B) as λy hy=>(ih y hy).1;have h2:=EA (f:=ak B) as λy hy=>(ih y hy).2;show _≤(Tr.mk B _ (Tr.nd s as)).aq∧_≤(Tr.mk B _ (Tr.nd s as)).depth;rw[qh e,Tr.aq,Tr.aq,Tr.depth,Tr.depth];exact⟨gC h1 1,gC h2 1⟩
  ·rw[Tr.aq]at hn;have ih:∀y∈as,y.aq≤(ak B y).aq∧y.depth≤(ak B y).depth:=λy hy=>AL K n y (by have:=pk hy;lia) (hk y hy);have h1:=C2 (f:=ak B) as λy hy=>(ih y hy).1;have h2:=EA (f:=ak B) as λy hy=>(ih y hy).2;obtain⟨_,g1,g2⟩:=K.O.aD ht (us:=as.map (ak B)) (by rw[ay,hl]);show _≤(Tr.mk B _ (Tr.nd t.1 as)).aq∧_≤(Tr.mk B _ (Tr.nd t.1 as)).depth;rw[p4 e,Tr.aq,Tr.depth];exact⟨aY (gC h1 1) g1,aY (gC h2 1) g2⟩
def sU (B:List Tn) (wn:List (List Int)) (p:List Int) (t:Tr):Prop:=∀e v,t.at e=aa v→(p++e∈wn↔(o8 B v).isSome=true)
def MK (ih:∀{t u:Tr}{p:List Int},Wi B wn n p t u→Sh ws B t→sU B wn p t→u.us B p=t.op B p):∀{qs:List (List Int)}{ts us:List Tr},qa B wn n p qs ts us→aN (λq t=>Sh ws B t∧sU B wn (p++q) t) qs ts→wj B p qs us=ug B p qs ts:=by
 intro qs
 induction qs with
 |nil=>intro ts us a h;cases a;rfl
 |cons q qs ih2=>
  intro ts us a h;cases a with
  |cons a b=>
   cases h with
   |cons c d=>simp only[wj,ug];rw[ih a c.1 c.2,ih2 b d]
theorem DP (b:mI w0 w1 w2 w3 w4 w5 tt B) (G:nW w0 w1 w2 w3 w4 w5) (K:Bk3 ws B):∀(n:Nat) {t u:Tr}{p:List Int},Wi B wn n p t u→Sh ws B t→sU B wn p t→u.us B p=t.op B p
 |0,t,u,p,W,h,hw=>nomatch W
 |n+1,t,u,p,W,h,hw=>by
  have at0:∀(s:ah) (ts:List Tr),(Tr.nd s ts).at []=aa (.nd s ts):=λs ts=>by rw[Tr.at]
  cases W with
  | @no _ _ s ts us hp e W=>
   have ho:o8 B (.nd s ts)=none:=by
    cases k:o8 B (.nd s ts) with
    |none=>rfl
    |some v=>
     have:=(hw [] _ (at0 s ts)).mpr (by rw[k];rfl);rw[bf]at this;exact absurd this hp
   obtain⟨s',ts',e0,hs,_,k⟩:=h.cases K;cases e0;have pr:∀(i:Nat) (xs:List Tr),(∀(j:Nat) x,xs[j]? =aa x→ts[i+j]? =aa x)→aN (λq t=>Sh ws B t∧sU B wn (p++q) t) ((fZ i xs.length).map λ(i:Nat)=>[(i:Int)]) xs:=by
    intro i xs
    induction xs generalizing i with
    |nil=>intro _;exact .nil
    |cons x xs ih=>
     intro hx;have hi:=hx 0 x rfl;rw[dy]at hi;have hm:x∈ts:=aJ hi;rw[aU,gH,aC];refine .cons ⟨k x hm,λe' v' h6=>?_⟩ (ih (i+1) λj y hy=>?_)
     ·have:=hw ((i:Int)::e') v' (by rw[rZ hi];exact h6);rw[bD];exact this
     ·have:=hx (j+1) y (by rw[bT];exact hy);rw[show i+1+j=i+(j+1) by lia]
      exact this
   have pr0:=pr 0 ts λj x h=>by rw[bF];exact h
   have wl:us.length=ts.length:=W.len;rw[XO e,wl,Tr.op,ho];show wj B p _ us=[]++pD B p 0 ts;rw[aX,Js,hU];rw[hU]at W;exact MK (DP b G K n) W pr0
  | @yes _ _ s ts us ms u hp ho hm et W=>
   have hu:u∈B:=bX ho;obtain⟨f1,f2,f3⟩:=h.parts K hu hm;have pr:∀{qs:List (List Int)}{xs:List Tr},(∀x∈xs,Sh ws B x)→aN (λq m=>(Tr.nd s ts).at q=aa m) qs xs→aN (λq t=>Sh ws B t∧sU B wn (p++q) t) qs xs:=by
    intro qs xs h2 h3
    induction h3 with
    |nil=>exact .nil
    | @cons q m qs xs h4 _ ih=>
     refine .cons ⟨h2 m (by simp),λe' v' h6=>?_⟩ (ih λx hx=>h2 x (aI _ hx));have:=hw (q++e') v' (by rw[vh _ e' h4];exact h6);rw[bD];exact this
   have z:=MK (DP b G K n) W (pr f3 (DY hm));rw[Uo et,z,Tr.op,ho];show _=[(p,u.1)]++pD B p 0 ts;rw[List.singleton_append];congr 1;obtain⟨m,hL⟩:=b.mem_lefts hu;have o2:∀xs,o8 B (.nd w2 xs)=none:=λxs=>b.open_none (G.n0 w2 (by simp)) (G.n1 w2 (by simp));have o3:∀xs,o8 B (.nd w3 xs)=none:=λxs=>b.open_none (G.n0 w3 (by simp)) (G.n1 w3 (by simp));obtain hL |hL:=hL
   ·obtain⟨ks,ek⟩:=v8 hL;have:=Lq hL o2 o3 f2 ek p;rw[ek,Tr.aD]at f1;injection f1 with _ f1;rw[f1];exact this.symm
   ·obtain⟨ks,ek⟩:=v8 hL;have:=Lq hL o2 o3 f2 ek p;rw[ek,Tr.aD]at f1;injection f1 with _ f1;rw[f1];exact this.symm
def Sh.all (h:Sh ws B t):sU B (ze B t) [] t:=λe v hv=>by
 have ft:=t5 (m:=0) _ h.hdT;rw[aX];constructor
 ·intro he;exact h.wn (λq hq=>hq) e he e v (by simp) hv
 ·intro ho;obtain⟨u,ho⟩:=dS.mp ho;have m:=BG t [] e v hv;rw[aX]at m;unfold ze;rw[←AX B t [] ft];refine aV.mpr ⟨(e,u.1),d9.mpr ⟨(e,v),m,?_⟩,rfl⟩;unfold sP;rw[ho];simp
structure BP (ws:List ah) (B:List Tn) (t u:Tr):Prop where
  wi:Wi B (ze B t) t.depth [] t u
  sr:ak B u=t
  wy:Wy ws B u
  us:u.us B []=t.op B []
def Sk (b:mI w0 w1 w2 w3 w4 w5 tt B) (G:nW w0 w1 w2 w3 w4 w5) (K:Bk3 ws B) (h:Sh ws B t):∃u,BP ws B t u:=by
 obtain⟨u,wi,e,y,_⟩:=Fg K t.depth t [] (aA _) h (h.wn λq hq=>hq);exact⟨u,wi,e,y,DP b G K _ wi h h.all⟩
open Classical in
noncomputable def fw (ws:List ah) (B:List Tn) (t:Tr):Tr:=if h:∃u,BP ws B t u then choose h else t
def xT (b:mI w0 w1 w2 w3 w4 w5 tt B) (G:nW w0 w1 w2 w3 w4 w5) (K:Bk3 ws B) (h:Sh ws B t):BP ws B t (fw ws B t):=by
 have e:=Sk b G K h;unfold fw;rw[dif_pos e];exact ko e
noncomputable def hh (ws:List ah) (B:List Tn) (t:Tr):Nat→Tr
 |0=>t
 |k+1=>b7 B (fw ws B (hh ws B t k))
noncomputable def wys (ws:List ah) (B:List Tn) (t:Tr) (k:Nat):List Tr:=(bx k).map λi=>fw ws B (hh ws B t i)
def Go (ws:List ah) (B:List Tn) (t:Tr) (l:Nat) (i:Nat):Prop:=i<l∧(hh ws B t i).op B []≠ []∧(hh ws B t (i+1)).bo=true
def N_ (ws:List ah) (B:List Tn) (t:Tr) (l:Nat) (k:Nat) (z:Bool):Prop:=(∀i,i<k→Go ws B t l i)∧match z with
 |false=>l≤k∨(hh ws B t k).op B []=[]
 |true=>k<l∧(hh ws B t k).op B []≠ []∧(hh ws B t (k+1)).bo=false
theorem zL (b:mI w0 w1 w2 w3 w4 w5 tt B) (G:nW w0 w1 w2 w3 w4 w5) (K:Bk3 ws B) (h:Sh ws B t):∀k,Sh ws B (hh ws B t k)
 |0=>h
 |k+1=>by
  have f:=xT b G K (zL b G K h k);obtain⟨g1,g2,_,_⟩:=K.b7 f.wy;exact⟨g1,g2⟩
def Sv (h0:t.bo=true) (h:∀i,i<k→Go ws B t l i):(hh ws B t k).bo=true:=by
 cases k with
 |zero=>exact h0
 |succ k=>exact(h k (by lia)).2.2
def LW (k:Nat):wys ws B t (k+1)=wys ws B t k++[fw ws B (hh ws B t k)]:=by
 unfold wys;rw[gJ,bK];rfl
def ON (k:Nat):(wys ws B t k).length=k:=by
 unfold wys;rw[ay,l9]
end
def Q7 (h:Sub (bQ S a x) S1):Sub (bQ S a y) (bQ S1 a y):=λb o e=>by
 by_cases z:b=a
 ·subst z;rw[mV]at e⊢;exact e
 ·rw[nQ z]at e⊢;exact h b o (by rw[nQ z];exact e)
def rj{t:Tr}(h:t.bo=true):t.aq≤400∧t.depth≤40:=by
 have no:¬t.bo=false:=by rw[h];simp
 constructor
 ·obtain z |z:=gv 400 t.aq
  ·exact absurd ((Os t).mpr (.inl (by lia))) no
  ·exact z
 ·obtain z |z:=gv 40 t.depth
  ·exact absurd ((Os t).mpr (.inr (by lia))) no
  ·exact z
structure m5 (w0 w1 w2 w3 w4 w5:ah) (tt:List ah) (B:List Tn):Prop where
  b:mI w0 w1 w2 w3 w4 w5 tt B
  T:pI tt
  G:nW w0 w1 w2 w3 w4 w5
structure OQ (ws:List ah) (B:List Tn) (x u:Tr):Prop where
  f:BP ws B x u
  wt:u.aq≤400
  dp:u.depth≤40
  ar:u.ar B
  hd:u.hd λ_=>True
  wd:(u.mk B (oo 2)).wd
section
variable {w0 w1 w2 w3 w4 w5:ah}{tt:List ah}{B:List Tn}{t:Tr}{S:lF}{a:ai}{r:Nat}{Q:WK}{E:ah→lF→Prop}
def m5.bk (c:m5 w0 w1 w2 w3 w4 w5 tt B):oz [w0,w1,w2,w3,w4,w5] [w2,w3,w4,w5] B:=c.b.bk c.T c.G
def mI.bk3 (b:mI w0 w1 w2 w3 w4 w5 tt B) (T:pI tt) (G:nW w0 w1 w2 w3 w4 w5):Bk3 [w0,w1,w2,w3,w4,w5] B:=by
 have k:=b.bk T G;refine⟨⟨k.ti,k.nd,k.sg,λx hx=>hx,k.lf,k.ri⟩,b.ort G,λt ht=>?_⟩;obtain⟨n,z |z⟩:=b.mem_lefts ht
 ·exact(Ci (P:=λs=>s∈ [w0,w1,w2,w3,w4,w5]) (by simp) (by simp) (by simp) _ z).hb
 ·exact(Ci (P:=λs=>s∈ [w0,w1,w2,w3,w4,w5]) (by simp) (by simp) (by simp) _ z).hb
def m5.K (c:m5 w0 w1 w2 w3 w4 w5 tt B):Bk3 [w0,w1,w2,w3,w4,w5] B:=c.b.bk3 c.T c.G
def m5.L (c:m5 w0 w1 w2 w3 w4 w5 tt B):rC B:=⟨λt ht=>(c.bk.lf t ht).dp,λt ht=>by
 have h1:=(c.bk.lf t ht).wt;have h2:=(c.bk.lf t ht).nb;lia⟩
def m5.P (c:m5 w0 w1 w2 w3 w4 w5 tt B):PB B:=λt ht x hx=>by
 have h1:=(xG hx).2.2;have h2:=c.L.d t ht;lia
def m5.g2 (c:m5 w0 w1 w2 w3 w4 w5 tt B):pF (oo 2) B:=⟨λt ht=>(c.b.ri t ht).br,λt ht=>(c.b.ri t ht).dp,λt ht=>aY (c.b.ri t ht).wt (by decide)⟩
def m5.way (c:m5 w0 w1 w2 w3 w4 w5 tt B) (h:Sh [w0,w1,w2,w3,w4,w5] B x) (hs:x.bo=true):OQ [w0,w1,w2,w3,w4,w5] B x (fw [w0,w1,w2,w3,w4,w5] B x):=by
 have f:=xT c.b c.G c.K h;obtain⟨h1,h2⟩:=AL c.K _ _ (aA _) f.wy;rw[f.sr]at h1 h2;obtain⟨h3,h4⟩:=rj hs;exact⟨f,by lia,by lia,f.wy.ar,wb (λ_ _=>trivial) _ f.wy.hd,B9 (λt ht=>aY (c.g2.wt t ht) (by decide)) _ (by lia)⟩
def Ux (c:m5 w0 w1 w2 w3 w4 w5 tt B) (ha:S a=aa (.bP (B.map mQ))) (h:Sh [w0,w1,w2,w3,w4,w5] B x) (hs:x.bo=true) (hr:120≤r) (q:Q (lA (fw [w0,w1,w2,w3,w4,w5] B x)) S):Bl (r+1) [.ref a,lA x] S Q E:=by
 have w:=c.way h hs;obtain⟨h3,h4⟩:=rj hs;have hl:=wT B x [];obtain⟨r,rfl⟩:∃r',r=r'+1:=⟨r - 1,by lia⟩
 rw[Bl];ext;refine Ak c.L ha (by lia) (by lia) (by lia) h.hdT λq1 hq1=>?_;refine Do mV (by lia) λq2 hq2=>?_;exact Fl c.L c.P w.f.wi (by lia) (by lia) (keep (keep ha hq1) hq2) mV h.hdT (by lia) (by unfold ze;rw[ay];lia) ⟨_, .trans (.bQ .refl hq1) (.bQ .refl hq2),q⟩
def Pd (c:m5 w0 w1 w2 w3 w4 w5 tt B) (ha:S a=aa (.bP (B.map mQ))) (h:Sh [w0,w1,w2,w3,w4,w5] B t) (hs:t.bo=true) (hl:l≤10) (hr:130≤r)
  (h1:∀k,N_ [w0,w1,w2,w3,w4,w5] B t l k false→ ∀S' q,Sub S S'→S' q=aa (.bP (af (wys [w0,w1,w2,w3,w4,w5] B t k)))→Q (.bW [.bW [lA t, .ref q], .bl ((hh [w0,w1,w2,w3,w4,w5] B t k).op B []).isEmpty]) S')
  (h2:∀k,N_ [w0,w1,w2,w3,w4,w5] B t l k true→ ∀S',Sub S S'→E "TooGreat" S'):Bd (r+1) [.ref a,lA t, .int l] S Q E:=by
 obtain⟨r,rfl⟩:∃r',r=r'+1:=⟨r - 1,by lia⟩
 rw[Bd];ext;refine⟨aQ _,λq hq=>?_⟩;refine⟨λm σ S'=>∃k x5,m=l - k∧(∀i,i<k→Go [w0,w1,w2,w3,w4,w5] B t l i)∧S'=bQ S q (.bP (af (wys [w0,w1,w2,w3,w4,w5] B t k)))∧σ=[aa (.ref a),aa (lA t),aa (.int l),aa (.ref q),aa (lA (hh [w0,w1,w2,w3,w4,w5] B t k)),x5],⟨_,0,none,rfl,λi hi=>absurd hi (Nat.not_lt_zero i),by simp [wys,af],rfl⟩,?_⟩
 rintro m σ S' ⟨k,x5,rfl,hg,rfl,rfl⟩;have sh:=zL c.b c.G c.K h k;have sm:=Sv hs hg;obtain⟨b1,b2⟩:=rj sm;have sb:Sub S (bQ S q (Ob.bP (af (wys [w0,w1,w2,w3,w4,w5] B t k)))):= .bQ .refl hq;have fa:=sb _ _ ha;have fq:bQ S q (Ob.bP (af (wys [w0,w1,w2,w3,w4,w5] B t k))) q=aa (.bP (af (wys [w0,w1,w2,w3,w4,w5] B t k))):=mV;have fin:∀S1,Sub (bQ S q (Ob.bP (af (wys [w0,w1,w2,w3,w4,w5] B t k)))) S1→(l≤k∨(hh [w0,w1,w2,w3,w4,w5] B t k).op B []=[])→2≤sizeLine∧yN (mJ (uC (r+1)) (iR (iN 0) (iR (iN 4) ae))) (λc x S'=>E c S') [aa (.ref a),aa (lA t),aa (.int l),aa (.ref q),aa (lA (hh [w0,w1,w2,w3,w4,w5] B t k)),x5] S1 λw S1=>2≤sizeLine∧ ∃S'',Sub S'' S1∧Q (.bW [.bW [lA t, .ref q],w]) S'':=λS1 s1 hk=>by
  rw[Ti];ext;refine⟨m_ (by decide),Ak c.L (s1 _ _ fa) (by lia) (by lia) (by lia) sh.hdT λq2 hq2=>?_⟩;ext;have ee:(((hh [w0,w1,w2,w3,w4,w5] B t k).op B []).map encX).isEmpty=((hh [w0,w1,w2,w3,w4,w5] B t k).op B []).isEmpty:=by cases(hh [w0,w1,w2,w3,w4,w5] B t k).op B []<;>rfl
  rw[ee,Bool.not_not];exact⟨m_ (by decide),_, .refl,h1 k ⟨hg,hk⟩ _ q ((sb.trans s1).trans (.bQ .refl hq2)) (keep (s1 _ _ fq) hq2)⟩
 have w:=c.way sh sm;have eg:(fw [w0,w1,w2,w3,w4,w5] B (hh [w0,w1,w2,w3,w4,w5] B t k)).mk B (oo 2)=hh [w0,w1,w2,w3,w4,w5] B t (k+1):=by rw[BI];rfl
 have el:(af (wys [w0,w1,w2,w3,w4,w5] B t k)).length=k:=by rw[pP,ON]
 ext;rw[el];split
 ·rename_i lt;refine Ak c.L fa (by lia) (by lia) (by lia) sh.hdT λq2 hq2=>?_;have s2:Sub (bQ S q (Ob.bP (af (wys [w0,w1,w2,w3,w4,w5] B t k)))) (bQ (bQ S q (Ob.bP (af (wys [w0,w1,w2,w3,w4,w5] B t k)))) q2 (Ob.bP (((hh [w0,w1,w2,w3,w4,w5] B t k).op B []).map encX))):= .bQ .refl hq2;ext;cases e:(hh [w0,w1,w2,w3,w4,w5] B t k).op B []with
  |nil=>
   rw[e]at s2;simp only[cy,ip,jn,cE,if_false];exact fin _ s2 (.inr e)
  |cons x xs=>
   rw[e]at s2;simp only[aC,iD,kN,if_true]at s2⊢;generalize bQ (bQ S q (Ob.bP (af (wys [w0,w1,w2,w3,w4,w5] B t k)))) q2 (Ob.bP (encX x::xs.map encX))=S2 at s2⊢;have ne:(hh [w0,w1,w2,w3,w4,w5] B t k).op B []≠ []:=by rw[e];simp
   simp only[GU];ext;refine Ux c (s2 _ _ fa) sh sm (by lia) ?_;refine Ov (s2 _ _ fa) c.g2 w.dp (by lia) w.ar (by have:=w.wt;lia) w.wd (λz=>?_) λz=>?_
   ·rw[eg]at z⊢
    try ext
    rw[ni (s2 _ _ fq)];refine⟨trivial,?_⟩;rw[ni (s2 _ _ fq)];refine⟨qJ (by rw[el];lia),l - (k+1),bQ S q (.bP (af (wys [w0,w1,w2,w3,w4,w5] B t (k+1)))),by lia,?_,k+1,_,rfl,λi hi=>?_,rfl,rfl⟩
    ·rw[LW,xB];exact Q7 s2
    ·obtain y |y:=gv i k
     ·exact hg i y
     ·rw[show i=k by lia]
      exact⟨by lia,ne,z⟩
   ·rw[eg]at z;exact h2 k ⟨hg,by lia,ne,z⟩ _ (sb.trans s2)
 ·exact fin _ .refl (.inl (by lia))
end
def ZW{α β:Type}{f:α→β}{xs:List α}(h:(xs.map f).Nodup):xs.Nodup:=by
 unfold jL at h⊢;rw[lR]at h;exact h.imp λ{a b} n e=>n (by rw[e])
section
variable {w0 w1 w2 w3 w4 w5:ah}{tt:List ah}{B:List Tn}{S:lF}{a:ai}{r:Nat}{Q:WK}{E:ah→lF→Prop}
def m5.ok_open (c:m5 w0 w1 w2 w3 w4 w5 tt B) (ha:S a=aa (.bP (B.map mQ))) {x:Tr}(h:Sh [w0,w1,w2,w3,w4,w5] B x) (hs:x.bo=true) (hr:80≤r) (k:∀S' b,Sub S S'→S' b=aa (.bP ((x.op B []).map encX))→Q (.ref b) S'):vk (r+1) [.ref a,lA x] S Q E:=by
 obtain⟨b1,b2⟩:=rj hs;have hl:=c.b.len;exact Yw c.L (ZW c.bk.nd) (by lia) (λx u hu v hv h1 h2=>c.K.O.one u hu v hv x h1 h2) ha (by lia) (by lia) (by lia) (t5 _ h.hdT) k
end
theorem GT:∀{ts:List Tr},(∀x∈ts,x.depth≤d)→nj ts≤d
 | [],_=>by simp [nj]
 |t::ts,h=>by
  have h1:=h t aL;have h2:=GT (ts:=ts) λx hx=>h x (aI _ hx);rw[nj];lia
def FP (K:Bk3 ws B) (hx:Wy ws B x) (hy:Wy ws B y) (e:ak B x=ak B y):∃p,nI ws B p∧p.ev B (nK 1)=x∧p.ev B (nK 2)=y∧p.ev B zr=ak B x:=by
 obtain⟨p,hp,_,e1,e2⟩:=AT K.b K.O _ x y (aA _) hx hy e;refine⟨p,hp,e1,e2,?_⟩;rw[←e1];show _=(p.ev B (nK 1)).mk B λt=>t.2.1;rw[wQ K.b hp];exact vN hp λb h0 h1=>((tj 1).ak b h0 h1).symm
section
variable {ws:List ah}{B:List Tn}{x t:Tr}{xs:List Tr}
def Sh.dO (K:Bk3 ws B) (h:Sh ws B x):x.dO=true:=by
 refine C6 x ?_;have:∀(n:Nat) (x:Tr),x.depth≤n→Sh ws B x→x.hd ox:=by
  intro n
  induction n with
  |zero=>
   intro x hd h;have:=qD x;lia
  |succ n ih=>
   intro x hd h;obtain⟨s,ts,rfl,hs,_,k⟩:=h.cases K;rw[Tr.depth]at hd;rw[Tr.hd,m3];exact⟨K.b.sg s hs,λu hu=>ih u (by have:=p7 hu;lia) (k u hu)⟩
 exact this _ x (aA _) h
def Wy.len (K:Bk3 ws B) (h:Wy ws B x):x.hd λs=>s.length≤1000:=wb (λs hs=>by
 obtain hs |⟨t,ht,rfl⟩:=hs
 ·exact Wd (K.b.sg s hs)
 ·exact O5 (K.b.ti t ht)) _ h.hd
theorem Gk{α:Type}(f:α→Bool):∀(xs:List α),sG (xs.map λx=>W.bl (f x))=aa (xs.map f)
 | []=>rfl
 |x::xs=>by rw[aC,sG,Gk f xs];rfl
end
def Bk3.moved (K:Bk3 ws B) (hx:Wy ws B x) (hy:Wy ws B y) (e:L2.ak B x=L2.ak B y):Ag ws B x y (res B x y):=by
 obtain⟨p,hp,rfl,rfl,_⟩:=FP K hx hy e;have o1:=tj 1;have o2:=tj 2;have m1:=(AG (c:=nK 1) (d:=nK 2) K.b K.O.mt (yI o1 o2) hp).res;have m2:=(AG (c:=nK 2) (d:=nK 1) K.b K.O.mt (yI o2 o1) hp).res;rw[m1];refine⟨K.wy hp,?_,?_,QN K.b K.O o1 o2 hp⟩
 ·show(p.ev B (pK (nK 1) (nK 2))).mk B (λt=>t.2.1)=(p.ev B (nK 2)).mk B λt=>t.2.2;rw[wQ K.b hp,zz K.b hp];refine vN hp λx h0 h1=>?_;have a:=xK 1 x;have b:=xK 2 x;unfold uR sE pK;generalize nK 1 x=m at a⊢;generalize nK 2 x=n at b⊢;obtain rfl |rfl:m=0∨m=1:=by lia
  all_goals obtain rfl |rfl:n=0∨n=1:=by lia
  all_goals rfl
 ·rw[m2];show(p.ev B (pK (nK 1) (nK 2))).mk B (λt=>t.2.2)=(p.ev B (pK (nK 2) (nK 1))).mk B λt=>t.2.2;rw[zz K.b hp,zz K.b hp];refine vN hp λx h0 h1=>?_;have a:=xK 1 x;have b:=xK 2 x;unfold sE pK;generalize nK 1 x=m at a⊢;generalize nK 2 x=n at b⊢;obtain rfl |rfl:m=0∨m=1:=by lia
  all_goals obtain rfl |rfl:n=0∨n=1:=by lia
  all_goals rfl
theorem uV (K:Bk3 ws B):∀(os:List Tr) {x t:Tr},Wy ws B x→L2.ak B x=t→nP ws B t os→nP ws B (b7 B x) (pG B x os)∧Wy ws B (qK B x os)∧L2.ak B (qK B x os)=ov B t os∧ov B (b7 B x) (pG B x os)=b7 B (qK B x os)
 | [],x,t,hx,ex,_=>⟨trivial,hx,ex,rfl⟩
 |o::os,x,t,hx,ex,⟨ho,eo,hr⟩=>by
  have m:=K.moved hx ho (ex.trans eo.symm);have m':=K.moved ho hx (eo.trans ex.symm);obtain⟨h1,h2,h3,h4⟩:=uV K os m.wy m.sr hr;refine⟨?_,h2,h3,?_⟩
  ·rw[pG];refine⟨m'.wy,m'.sr,?_⟩;rw[m'.go];exact h1
  ·rw[pG,ov,qK,m'.go];exact h4
theorem Aa (K:Bk3 ws B):∀(xs os:List Tr) {t:Tr},nP ws B t xs→nP ws B t os→nP ws B (ov B t os) (oK B xs os)
 | [],os,t,_,_=>trivial
 |x::xs,os,t,⟨hx,ex,hr⟩,ho=>by
  obtain⟨h1,h2,h3,h4⟩:=uV K os hx ex ho;rw[oK];refine⟨h2,h3,?_⟩;rw[←h4];exact Aa K xs _ hr h1
theorem J2 (K:Bk3 ws B):∀(xs os:List Tr) {t:Tr},nP ws B t xs→nP ws B t os→ov B (ov B t os) (oK B xs os)=ov B (ov B t xs) (oK B os xs)
 | [],os,t,_,_=>by rw[NG,oK];rfl
 |x::xs,os,t,⟨hx,ex,hr⟩,ho=>by
  obtain⟨h1,h2,h3,h4⟩:=uV K os hx ex ho;rw[oK,ov,←h4,J2 K xs _ hr h1,ov,Gq]
def EQ (ih:∀{t u:Tr}{p:List Int},Wi B wn n p t u→Sh ws B t→sU B wn p t→ ∀y,Wy ws B y→ak B y=t→ ∃z,Mv B n y u z∧z.hd ox):∀{qs:List (List Int)}{ts us:List Tr},qa B wn n p qs ts us→aN (λq t=>Sh ws B t∧sU B wn (p++q) t) qs ts→ ∀ys:List Tr,(∀y∈ys,Wy ws B y)→ys.map (ak B)=ts→ ∃zs,oB B n ys us zs∧hds ox zs∧zs.length=ts.length:=by
 intro qs
 induction qs with
 |nil=>
  intro ts us a h ys hy e;cases a;have:ys=[]:=by cases ys<;>simp at e⊢
  subst this;exact⟨[], .nil,trivial,rfl⟩
 |cons q qs ih2=>
  intro ts us a h ys hy e;cases a with
  |cons a b=>
   cases h with
   |cons c d=>
    cases ys with
    |nil=>simp at e
    |cons y ys=>
     rw[aC]at e;injection e with e1 e2;obtain⟨z,M,hz⟩:=ih a c.1 c.2 y (hy y aL) e1;obtain⟨zs,Ms,hzs,hl⟩:=ih2 b d ys (λx hx=>hy x (aI _ hx)) e2;exact⟨z::zs, .cons M Ms,⟨hz,hzs⟩,by simp [hl]⟩
theorem CF (b:mI w0 w1 w2 w3 w4 w5 tt B) (G:nW w0 w1 w2 w3 w4 w5) (K:Bk3 [w0,w1,w2,w3,w4,w5] B):∀(n:Nat) {t u:Tr}{p:List Int},Wi B wn n p t u→Sh [w0,w1,w2,w3,w4,w5] B t→sU B wn p t→ ∀y,Wy [w0,w1,w2,w3,w4,w5] B y→ak B y=t→ ∃z,Mv B n y u z∧z.hd ox
 |0,t,u,p,W,h,hw,y,hy,ey=>nomatch W
 |n+1,t,u,p,W,h,hw,y,hy,ey=>by
  have at0:∀(s:ah) (ts:List Tr),(Tr.nd s ts).at []=aa (.nd s ts):=λs ts=>by rw[Tr.at]
  cases W with
  | @no _ _ s ts us hp e W=>
   have ho:o8 B (.nd s ts)=none:=by
    cases k:o8 B (.nd s ts) with
    |none=>rfl
    |some v=>
     have:=(hw [] _ (at0 s ts)).mpr (by rw[k];rfl);rw[bf]at this;exact absurd this hp
   obtain⟨s',ts',e0,hs,_,k⟩:=h.cases K;cases e0;obtain ⟨s1,as,rfl,hs1,e1,hk⟩ |⟨v,as,hv,rfl,e1,hl,hk⟩:=hy.cases K.b
   ·have q:=ey;rw[show ak B (.nd s1 as)=_ from qh e1]at q;injection q with q1 q2;subst q1;have pr:∀(i:Nat) (xs:List Tr),(∀(j:Nat) x,xs[j]? =aa x→ts[i+j]? =aa x)→aN (λq t=>Sh [w0,w1,w2,w3,w4,w5] B t∧sU B wn (p++q) t) ((fZ i xs.length).map λ(i:Nat)=>[(i:Int)]) xs:=by
     intro i xs
     induction xs generalizing i with
     |nil=>intro _;exact .nil
     |cons x xs ih=>
      intro hx;have hi:=hx 0 x rfl;rw[dy]at hi;have hm:x∈ts:=aJ hi;rw[aU,gH,aC];refine .cons ⟨k x hm,λe' v' h6=>?_⟩ (ih (i+1) λj y hy=>?_)
      ·have:=hw ((i:Int)::e') v' (by rw[rZ hi];exact h6);rw[bD];exact this
      ·have:=hx (j+1) y (by rw[bT];exact hy);rw[show i+1+j=i+(j+1) by lia]
       exact this
    have pr0:=pr 0 ts λj x h=>by rw[bF];exact h
    rw[hU]at W;obtain⟨zs,Ms,hz,_⟩:=EQ (CF b G K n) W pr0 as hk q2;exact⟨.nd s1 zs, .nn e1 e Ms,K.b.sg s1 hs1,hz⟩
   ·exfalso;have q:=ey;rw[show ak B (.nd v.1 as)=_ from p4 e1]at q;have o:=b.open_some G hv (us:=as.map (ak B)) (by rw[ay,hl]);rw[show v.2.1.aD (as.map (ak B))=_ from q,ho]at o;cases o
  | @yes _ _ s ts us ms v hp ho hm et W=>
   have hv:v∈B:=bX ho;obtain⟨f1,f2,f3⟩:=h.parts K hv hm;have pr:∀{qs:List (List Int)}{xs:List Tr},(∀x∈xs,Sh [w0,w1,w2,w3,w4,w5] B x)→aN (λq m=>(Tr.nd s ts).at q=aa m) qs xs→aN (λq t=>Sh [w0,w1,w2,w3,w4,w5] B t∧sU B wn (p++q) t) qs xs:=by
    intro qs xs h2 h3
    induction h3 with
    |nil=>exact .nil
    | @cons q m qs xs h4 _ ih=>
     refine .cons ⟨h2 m (by simp),λe' v' h6=>?_⟩ (ih λx hx=>h2 x (aI _ hx));have:=hw (q++e') v' (by rw[vh _ e' h4];exact h6);rw[bD];exact this
   have prm:=pr f3 (DY hm);have fin:∀zs:List Tr,hds ox zs→zs.length=v.2.1.nb→(v.2.2.aD zs).hd ox:=λzs hz hl=>As (m3.mp hz) _ ((b.ri v hv).hb λx hx=>K.b.sg x hx) (by rw[hl];exact(b.ri v hv).br);obtain ⟨s1,as,rfl,hs1,e1,hk⟩ |⟨v',as,hv',rfl,e1,hl,hk⟩:=hy.cases K.b
   ·rw[f1]at ey;obtain⟨vs,g1,g2,g3,g4,_⟩:=C5 K.b K.O hv e1 hy f2 ey;obtain⟨zs,Ms,hz,hl⟩:=EQ (CF b G K n) W prm vs g4 g3;refine⟨v.2.2.aD zs, .ns e1 et ?_ (by rw[hl,f2]) Ms,fin zs hz (by rw[hl,f2])⟩;rw[g1];exact K.O.mt v hv vs g2
   ·have q:=ey;rw[show ak B (.nd v'.1 as)=_ from p4 e1]at q;have o:=b.open_some G hv' (us:=as.map (ak B)) (by rw[ay,hl]);rw[show v'.2.1.aD (as.map (ak B))=_ from q,ho]at o;cases o;have m1:=K.O.mt v hv (as.map (ak B)) (by rw[ay,hl]);rw[show v.2.1.aD (as.map (ak B))=_ from q,hm]at m1;have m2:as.map (ak B)=ms:=(aK m1).symm;obtain⟨zs,Ms,hz,hl'⟩:=EQ (CF b G K n) W prm as hk m2;exact⟨v.2.2.aD zs, .ss e1 et (by rw[hl',f2]) Ms,fin zs hz (by rw[hl',f2])⟩
def YM (c:m5 w0 w1 w2 w3 w4 w5 tt B) (h:Sh [w0,w1,w2,w3,w4,w5] B t) (hy:Wy [w0,w1,w2,w3,w4,w5] B y) (e:ak B y=t):res B y (fw [w0,w1,w2,w3,w4,w5] B t)=b7 B (fw [w0,w1,w2,w3,w4,w5] B t):=by
 have f:=xT c.b c.G c.K h;obtain⟨z,M,hz⟩:=CF c.b c.G c.K _ f.wi h h.all y hy e;have er:res B y (fw [w0,w1,w2,w3,w4,w5] B t)=z:=M.res;have m:=c.K.moved hy f.wy (by rw[e,f.sr]);have s:=m.sr;rw[er]at s⊢;rw[←s];exact(rV c.K.b.ti z hz).symm
theorem EH (c:m5 w0 w1 w2 w3 w4 w5 tt B):∀(n:Nat) (y:Tr) (p:List Int),y.aq≤n→Wy [w0,w1,w2,w3,w4,w5] B y→(ak B y).op B p=[]→y.hd ox
 |0,y,p,hn,h,_=>by have:=rQ y;lia
 |n+1,y,p,hn,h,ho=>by
  obtain ⟨s,as,rfl,hs,e,hk⟩ |⟨v,as,hv,rfl,e,hl,hk⟩:=h.cases c.K.b
  ·rw[Tr.aq]at hn;refine⟨c.K.b.sg s hs,?_⟩;rw[show ak B (.nd s as)=_ from qh e,Tr.op]at ho;have ho2:=(mq.mp ho).2;have all:∀(i:Nat) (xs:List Tr),(∀x∈xs,x∈as)→pD B p i (xs.map (ak B))=[]→hds ox xs:=by
    intro i xs
    induction xs generalizing i with
    |nil=>intro _ _;exact trivial
    |cons x xs ih=>
     intro hx z;rw[aC,pD]at z;obtain⟨z1,z2⟩:=mq.mp z;have hm:=hx x aL;exact⟨EH c n x _ (by have:=pk hm;lia) (hk x hm) z1,ih (i+1) (λy hy=>hx y (aI _ hy)) z2⟩
   exact all 0 as (λx hx=>hx) ho2
  ·exfalso;have o:=c.b.open_some c.G hv (us:=as.map (ak B)) (by rw[ay,hl]);obtain⟨s0,l0,e0,_⟩:=c.K.O.inn v hv;rw[show ak B (.nd v.1 as)=_ from p4 e]at ho;rw[e0,Tr.aD]at ho o;rw[Tr.op,o]at ho;simp at ho
theorem F2 (c:m5 w0 w1 w2 w3 w4 w5 tt B) (h:Sh [w0,w1,w2,w3,w4,w5] B t) (hr:(hh [w0,w1,w2,w3,w4,w5] B t k).op B []=[]):∀j,hh [w0,w1,w2,w3,w4,w5] B t (k+j)=hh [w0,w1,w2,w3,w4,w5] B t k
 |0=>rfl
 |j+1=>by
  have ih:=F2 c h hr j;show b7 B (fw [w0,w1,w2,w3,w4,w5] B (hh [w0,w1,w2,w3,w4,w5] B t (k+j)))=_;have f:=xT c.b c.G c.K (zL c.b c.G c.K h k);have q:=EH c _ _ [] (aA _) f.wy (by rw[f.sr];exact hr);rw[ih,show b7 B (fw [w0,w1,w2,w3,w4,w5] B (hh [w0,w1,w2,w3,w4,w5] B t k))=_ from rV c.K.b.ti _ q];have s:=f.sr;rwa [show ak B (fw [w0,w1,w2,w3,w4,w5] B (hh [w0,w1,w2,w3,w4,w5] B t k))=_ from rV c.K.b.ti _ q]at s
def Wy.re (w:Wy ws B (.nd h ts)) (hl:us.length=ts.length) (hu:∀x∈us,Wy ws B x):Wy ws B (.nd h us):=by
 obtain⟨h1,h2⟩:=w;rw[Tr.hd,m3]at h1;rw[Tr.ar,oD]at h2;refine⟨?_,?_⟩
 ·rw[Tr.hd,m3];exact⟨h1.1,λu hm=>(hu u hm).hd⟩
 ·rw[Tr.ar,oD];exact⟨λt e=>by rw[hl];exact h2.1 t e,λu hm=>(hu u hm).ar⟩
def MH (h:(Tr.nd s ts).at (i::p)=aa v):∃w,ts[i.toNat]? =aa w∧w.at p=aa v:=by
 simp only[Tr.at]at h;cases e:ts[i.toNat]? with
 |none=>rw[e]at h;simp at h
 |some w=>
  rw[e]at h;have h':0≤i∧w.at p=aa v:=by simpa using h
  exact⟨w,rfl,h'.2⟩
theorem MA{P:ah→Prop}:∀(q:List Int) {X v:Tr},X.hd P→X.at q=aa v→v.hd P∧v.aq≤X.aq
 | [],X,v,hX,h=>by
  cases X<;>(simp only[Tr.at,bJ]at h;subst h;exact⟨hX,aA _⟩)
 |i::p, .bl n,v,hX,h=>by simp [Tr.at]at h
 |i::p, .nd s ts,v,hX,h=>by
  obtain⟨w,hw,hv⟩:=MH h;have hm:w∈ts:=aJ hw;simp only[Tr.hd]at hX;have:=MA p (m3.mp hX.2 w hm) hv;have hwt:=pk hm;exact⟨this.1,by rw[Tr.aq];lia⟩
theorem HV{P:ah→Prop}(hu:u.hd P):∀(q:List Int) {X v:Tr},X.hd P→X.at q=aa v→(X.bQ q u).hd P
 | [],X,v,hX,h=>by rw[tz];exact hu
 |i::p, .bl n,v,hX,h=>by simp [Tr.at]at h
 |i::p, .nd s ts,v,hX,h=>by
  obtain⟨w,hw,hv⟩:=MH h;have hm:w∈ts:=aJ hw;rw[tU hw];simp only[Tr.hd]at hX⊢;exact⟨hX.1,KG (HV hu p (m3.mp hX.2 w hm) hv) _ hX.2⟩
theorem Km{f:W→W→Option Bool}(h:∀x:List Int,f (mE x) (mE x)=aa true):∀xs:List (List Int),oY f (xs.map mE) (xs.map mE)=aa true
 | []=>rfl
 |x::xs=>by rw[aC,oY,h,Km h xs];rfl
def YK{S:lF}{a b:ai}{xs:List (List Int)}(ha:S a=aa (.bP (xs.map mE))) (hb:S b=aa (.bP (xs.map mE))):n_ S 60 (.ref a) (.ref b)=aa true:=Pa (n:=59) ha hb (Km (λx=>by rw[Eh (n:=57)];simp) xs)
def O7 (b:mI w0 w1 w2 w3 w4 w5 tt B) {X:Tr}{q:List Int}{t:Tn}{us:List Tr}(ht:t∈B) (hu:us.length=t.2.1.nb) (hX:X.at q=aa (t.2.1.aD us)) (hh:X.hd λ_=>True):(X.bQ q (t.2.2.aD us)).hd (λ_=>True)∧(X.bQ q (t.2.2.aD us)).aq≤7*X.aq∧(t.2.1.aD us).br 0:=by
 have h1:=MA q hh hX;have h2:=wW _ _ _ (b.mt t ht us hu) h1.1;have ri:=b.ri t ht;have hr:(t.2.2.aD us).hd λ_=>True:=As (m3.mp h2.1) t.2.2 (ri.hb λ_ _=>trivial) (by rw[hu];exact ri.br);have hv:1≤(t.2.1.aD us).aq:=rQ _;have fw:=JK hv (λu hu'=>aY (pk hu') h2.2) t.2.2;have pw:=KQ q (u:=t.2.2.aD us) hX;have rw7:t.2.2.aq*(t.2.1.aD us).aq≤7*(t.2.1.aD us).aq:=dA _ ri.wt;refine⟨HV hr q hh hX,?_,t5 _ h1.1⟩;lia
def JU (O:rK B) (ht:t∈B) (h:t.2.1.mt (.nd s ts)=aa ms):nj ms≤nj ts:=by
 obtain⟨s0,l0,e0,_⟩:=O.inn t ht;rw[e0,Tr.mt]at h;split at h
 ·exact GT (CA _ _ _ h)
 ·cases h
theorem xY{B:List Tn}{n:Nat}(f:∀{x y z:Tr},Mv B n x y z→Mv B x.depth x y z):∀(xs:List Tr) {ys zs:List Tr},oB B n xs ys zs→oB B (nj xs) xs ys zs
 | [],_,_,h=>by cases h;exact .nil
 |_::xs,_,_,h=>by
  cases h with
  |cons a b=>
   rw[nj];exact .cons ((f a).monoA _ (by lia)) ((xY f xs b).monoA _ (by lia))
def Mv.bd (O:rK B) {n:Nat}:∀{x y z:Tr},Mv B n x y z→Mv B x.depth x y z:=by
 induction n with
 |zero=>intro x y z h;cases h
 |succ n ih=>
  intro x y z h;cases h with
  |nn a b m=>rw[Tr.depth,eB];exact .nn a b (xY ih _ m)
  |ns a b c d m=>rw[Tr.depth,eB];exact .ns a b c d ((xY ih _ m).monoA _ (JU O (bX b) c))
  |sn a b c m=>rw[Tr.depth,eB];exact .sn a b c (xY ih _ m)
  |ss a b c m=>rw[Tr.depth,eB];exact .ss a b c (xY ih _ m)
section
variable {ws:List ah}{B:List Tn}{x y:Tr}{a:ai}{r:Nat}{S:lF}{Q:WK}{E:ah→lF→Prop}
def Bk3.mv (K:Bk3 ws B) (hx:Wy ws B x) (hy:Wy ws B y) (e:L2.ak B x=L2.ak B y):Mv B x.depth x y (res B x y):=by
 obtain⟨p,hp,rfl,rfl,_⟩:=FP K hx hy e;have m:=AG (c:=nK 1) (d:=nK 2) K.b K.O.mt (yI (tj 1) (tj 2)) hp;have m1:=m.res;rw[m1];exact m.bd K.O
def Bk3.fitw (K:Bk3 ws B) (hx:Wy ws B x) (hs:(L2.ak B x).bo=true):x.depth≤40∧x.aq≤400∧x.ar B∧x.hd λ_=>True:=by
 obtain⟨g1,g2⟩:=AL K _ _ (aA _) hx;obtain⟨h1,h2⟩:=rj hs;exact⟨by lia,by lia,hx.ar,wb (λ_ _=>trivial) _ hx.hd⟩
def Bk3.gW (K:Bk3 ws B):pF (oo 2) B:=⟨λt ht=>(K.b.ri t ht).br,λt ht=>(K.b.ri t ht).dp,λt ht=>aY (K.b.ri t ht).wt (by decide)⟩
def Bk3.okmv (K:Bk3 ws B):∀t∈B,t.2.1.depth≤4∧t.2.1.aq≤100∧t.2.2.depth≤4∧t.2.2.aq≤100∧t.2.2.br t.2.1.nb:=λt ht=>by
 have h1:=K.b.lf t ht;have h2:=K.b.ri t ht;have h3:=h1.wt;have h4:=h1.nb;have h5:=h2.wt;exact⟨h1.dp,by lia,h2.dp,by lia,h2.br⟩
structure uv (ws:List ah) (B:List Tn) (x y:Tr):Prop where
  K:Bk3 ws B
  wx:Wy ws B x
  wy:Wy ws B y
  e:ak B x=ak B y
  sm:(ak B y).bo=true
def uv.symm (h:uv ws B x y):uv ws B y x:=⟨h.K,h.wy,h.wx,h.e.symm,by rw[h.e];exact h.sm⟩
def uv.ok_move (h:uv ws B x y) (ha:S a=aa (.bP (B.map mQ))) (hr:60≤r) (q:Q (lA (res B x y)) S):tH (r+1) [.ref a,lA x,lA y] S Q E:=by
 obtain⟨d1,w1,_,h1⟩:=h.K.fitw h.wx (by rw[h.e];exact h.sm);obtain⟨d2,w2,_,h2⟩:=h.K.fitw h.wy h.sm;exact MM h.K.okmv x.depth ha (h.K.mv h.wx h.wy h.e) (by lia) h1 h2 (by lia) (by lia) q
def Bk3.ok_goalX (K:Bk3 ws B) (hx:Wy ws B x) (hs:(L2.ak B x).bo=true) (ha:S a=aa (.bP (B.map mQ))) (hr:60≤r) (h1:(L2.b7 B x).bo=true→Q (lA (L2.b7 B x)) S) (h2:(L2.b7 B x).bo=false→E "TooGreat" S):uw (r+1) [.ref a,lA x] S Q E:=by
 obtain⟨d1,w1,a1,_⟩:=K.fitw hx hs;have e2:x.mk B (oo 2)=L2.b7 B x:=by rw[BI]
 refine Ov ha K.gW d1 hr a1 (by lia) (B9 (λt ht=>aY (K.gW.wt t ht) (by decide)) _ (by lia)) (λz=>?_) λz=>?_
 ·rw[e2]at z⊢;exact h1 z
 ·rw[e2]at z;exact h2 z
end
theorem My{G:lF→Prop}(K:Bk3 ws B) (hG:G S) (ha:S a=aa (.bP (B.map mQ))) (hr:60≤r):∀(xs:List Tr) {t:Tr}(y1 y2:Option W),nP ws B t xs→t.bo=true→((∀x∈xs,(b7 B x).bo=true)→ ∀z,D.nx [aa (.ref a),y1,z] S)→((∃x∈xs,(b7 B x).bo=false)→ ∀σ,E "TooGreat" σ S)→mS (mB 2) (D2 (r+1) mK) E D G (xs.map lA) [aa (.ref a),y1,y2] S
 | [],t,y1,y2,_,_,h,_=>h (λ_ hx=>nomatch hx) y2
 |x::xs,t,y1,y2,⟨h1,h2,h3⟩,hs,h,hE=>by
  rw[aC];refine pV λN hN=>?_;rw[rA,D2];ext;refine K.ok_goalX h1 (by rw[h2];exact hs) ha (by lia) (λz=>?_) λz=>hE ⟨x,aL,z⟩ _;refine hN _ _ _ .refl hG (My K hG ha hr xs y1 _ h3 z (λk=>h λu hu=>?_) λ⟨u,hu,e⟩=>hE ⟨u,aI _ hu,e⟩);obtain e |e:=az.mp hu
  ·rw[e];exact z
  ·exact k u e
def Eu{X:ah→lF→Prop}(K:Bk3 ws B) (ha:S a=aa (.bP (B.map mQ))) (hl:S l=aa (.bP (xs.map lA))) (hx:nP ws B t xs) (hs:t.bo=true) (hr:60≤r) (h:(∀x∈xs,(b7 B x).bo=true)→Q .ci S) (hX:(∃x∈xs,(b7 B x).bo=false)→X "TooGreat" S):vd (r+2) [.ref a, .ref l] S Q X:=by
 rw[show r+2=r+1+1 from rfl,vd];ext;rw[ni hl];exact My K hl ha hr xs _ _ hx hs (λk z=>⟨_, .refl,h k⟩) λk σ=>hX k
def uB (B:List Tn):Tr→List Tr→Prop
 |_,[]=>True
 |x,o::os=>(b7 B (res B x o)).bo=true∧uB B (res B x o) os
theorem JC{G:lF→Prop}(K:Bk3 ws B) (ha:S0 a=aa (.bP (B.map mQ))) (h0:S0 q=none) (hG:∀S,Sub S0 S→G S) (hr:64≤r):∀(os:List Tr) {x t:Tr},Wy ws B x→ak B x=t→nP ws B t os→t.bo=true→(∀o∈os,(b7 B o).bo=true)→ ∀(xs:List W) {S:lF}{y1 y2 y4 y5:Option W},xs.length+os.length≤900→Sub S0 S→S q=aa (.bP (xs++[lA x]))→
  (uB B x os→ ∀S' y4 y5,Sub S0 S'→S' q=aa (.bP (xs++(qB B x os).map lA))→D.nx [aa (.ref a),y1,y2,aa (.ref q),y4,y5] S')→(¬uB B x os→ ∀σ S',Sub S0 S'→E "TooGreat" σ S')→
  mS (mB 4) (EB r mK) E D G (os.map lA) [aa (.ref a),y1,y2,aa (.ref q),y4,y5] S
 | [],x,t,hx,ex,hR,hs,hg=>λxs S y1 y2 y4 y5 hl sb hq h _=>h trivial S _ _ sb hq
 |o::os,x,t,hx,ex,⟨r1,r2,r3⟩,hs,hg=>by
  intro xs S y1 y2 y4 y5 hl sb hq h hE;have cl:uv ws B x o:=⟨K,hx,r1,by rw[ex,r2],by rw[r2];exact hs⟩
  have m:=K.moved hx r1 cl.e;have go:=hg o aL;rw[aC];rw[aU]at hl;refine pV λN hN=>?_;rw[rA,EB];rw[G0];ext;rw[ni hq,Bo];dsimp only;obtain⟨r',er⟩:∃r',r=r'+2:=⟨r - 2,by lia⟩
  rw[er];refine cl.ok_move (r:=r'+1) (sb _ _ ha) (by lia) ?_;rw[L_];ext;refine⟨by decide,λv hv=>?_⟩;have sv:Sub S0 (bQ S v (Ob.bP [lA (res B x o)])):=sb.trans (.bQ .refl hv);refine Eu (xs:=[res B x o]) (t:=b7 B o) K (sv _ _ ha) mV ⟨m.wy,m.sr,trivial⟩ go (by lia) (λk=>?_) λ⟨u,hu,e⟩=>?_
  ·have k0:=k _ aL;rw[KL];ext;have fq:=keep (x:=Ob.bP [lA (res B x o)]) hq hv;rw[ni fq,ni fq];refine⟨trivial,qJ (by rw[a_,cA];lia),?_⟩;have sb2:Sub S0 (bQ (bQ S v (Ob.bP [lA (res B x o)])) q (.bP (xs++[lA x]++[lA (res B x o)]))):= .bQ sv h0;refine hN _ _ _ .refl (hG _ sb2) (JC K ha h0 hG hr os m.wy m.sr r3 go (λu hu=>hg u (aI _ hu)) (xs++[lA x]) (by rw[a_,cA];lia) sb2 mV (λlk S' z4 z5 s' hq'=>?_) λnk=>hE λlk=>nk lk.2);refine h ⟨k0,lk⟩ S' z4 z5 s' ?_;rw[hq',qB,aC];simp
  ·rw[bi.mp hu]at e;exact hE (λlk=>by rw[lk.1]at e;cases e) _ _ sv
def Pb{S:lF}{x t:Tr}{os:List Tr}{Q:WK}{X:ah→lF→Prop}(K:Bk3 ws B) (ha:S a=aa (.bP (B.map mQ))) (hl:S l=aa (.bP (os.map lA))) (hx:Wy ws B x) (ex:ak B x=t) (hR:nP ws B t os) (hs:t.bo=true) (hg:∀o∈os,(b7 B o).bo=true) (hn:os.length≤800) (hr:64≤r)
  (h:uB B x os→ ∀S' q,Sub S S'→S q=none→S' q=aa (.bP ((qB B x os).map lA))→Q (.ref q) S') (hX:¬uB B x os→ ∀S',Sub S S'→X "TooGreat" S'):w6 (r+1) [.ref a,lA x, .ref l] S Q X:=by
 rw[w6,uf];refine⟨rfl,?_⟩;rw[JY];ext;refine⟨by decide,λq hq=>?_⟩;rw[Gs];ext;rw[ni (keep hl hq)];refine JC K ha hq (λS' sb=>sb _ _ hl) hr os hx ex hR hs hg [] (by simp;lia) (.bQ .refl hq) mV (λlk S' y4 y5 sb hq'=>?_) λnk σ S' sb=>hX nk S' sb;rw[JZ];ext;exact⟨_, .refl,h lk S' q sb hq (by rw[hq',aX])⟩
def Sh.of (K:Bk3 ws B) (h:Wy ws B x):Sh ws B (ak B x):=⟨(K.ak h).1,(K.ak h).2.1⟩
theorem D0:∀{qs:List (List Int)}{ts:List Tr},qs.length=ts.length→(∀(i:Nat) q t,qs[i]? =aa q→ts[i]? =aa t→Wi B wn n (p++q) t t)→qa B wn n p qs ts ts
 | [],[],_,_=> .nil
 |q::qs,t::ts,h,f=> .cons (f 0 q t rfl rfl) (D0 (by simpa using h) λi q t h1 h2=>f (i+1) q t (by simpa using h1) (by simpa using h2))
 | [],t::ts,h,f=>by simp at h
 |q::qs,[],h,f=>by simp at h
theorem Ey (K:Bk3 ws B):∀(n:Nat) (v:Tr) (p:List Int),v.depth≤n→Sh ws B v→(∀r,p++r∉wn)→Wi B wn n p v v
 |0,v,p,hd,h,hn=>by have:=qD v;lia
 |n+1,v,p,hd,h,hn=>by
  obtain⟨s,ts,rfl,_,e,k⟩:=h.cases K;rw[Tr.depth]at hd;refine .no (by simpa using hn []) e (D0 (by simp) λi q t h1 h2=>?_);have hm:t∈ts:=aJ h2;have:=p7 hm;exact Ey K n t (p++q) (by lia) (k t hm) λr=>by rw[bD];exact hn _
theorem Hc:∀{qs:List (List Int)}{ts us:List Tr},qs.length=ts.length→us.length=ts.length→(∀(i:Nat) q t u,qs[i]? =aa q→ts[i]? =aa t→us[i]? =aa u→Wi B wn n (p++q) t u)→qa B wn n p qs ts us
 | [],[],[],_,_,_=> .nil
 |q::qs,t::ts,u::us,h,h',f=> .cons (f 0 q t u rfl rfl rfl) (Hc (by simpa using h) (by simpa using h') λi q t u h1 h2 h3=>f (i+1) q t u (by simpa using h1) (by simpa using h2) (by simpa using h3))
 | [],t::ts,_,h,_,f=>by simp at h
 |q::qs,[],_,h,_,f=>by simp at h
 |_,t::ts,[],_,h,f=>by simp at h
 |_,[],u::us,_,h,f=>by simp at h
structure uY (B:List Tn):Prop where
  op:∀t∈B,∀us:List Tr,us.length=t.2.1.nb→o8 B (t.2.1.aD us)=aa t
  lf:∀t∈B,∃n h c d,t.2.1∈bO n h c d
theorem FY{B:List Tn}{wn:List (List Int)}{n:Nat}{p:List Int}(f:∀{p:List Int}{t u:Tr},Wi B wn n p t u→Wi B wn t.depth p t u):∀(qs:List (List Int)) {ts us:List Tr},qa B wn n p qs ts us→qa B wn (nj ts) p qs ts us
 | [],_,_,h=>by cases h;exact .nil
 |_::qs,_,_,h=>by
  cases h with
  |cons h1 h2=>
   rw[nj];exact .cons ((f h1).mono (by lia)) ((FY f qs h2).mono (by lia))
def Wi.bd (O:rK B) {n:Nat}:∀{p:List Int}{t u:Tr},Wi B wn n p t u→Wi B wn t.depth p t u:=by
 induction n with
 |zero=>intro p t u h;cases h
 |succ n ih=>
  intro p t u h;cases h with
  |no h1 h2 h3=>rw[Tr.depth,eB];exact .no h1 h2 (FY ih _ h3)
  |yes h1 h2 h3 h4 h5=>rw[Tr.depth,eB];exact .yes h1 h2 h3 h4 ((FY ih _ h5).mono (JU O (bX h2) h3))
structure Ms where
  c0:Nat
  c1:Nat
  k:Tn→Nat→Nat
mutual
noncomputable def Tr.ms (B:List Tn) (m:Ms):Tr→Nat
 | .bl _=>0
 | .nd s ts=>match nc B s with
  |none=>m.c0+nz B m (λ_=>1) 0 ts
  |some t=>m.c1+nz B m (m.k t) 0 ts
noncomputable def nz (B:List Tn) (m:Ms) (f:Nat→Nat) (i:Nat):List Tr→Nat
 | []=>0
 |t::ts=>f i*t.ms B m+nz B m f (i+1) ts
end
section
variable {B:List Tn}{m:Ms}{f g:Nat→Nat}
def vo (h:nc B s=none):(Tr.nd s ts).ms B m=m.c0+nz B m (λ_=>1) 0 ts:=by rw[Tr.ms,h]
def t8 (h:nc B s=aa t):(Tr.nd s ts).ms B m=m.c1+nz B m (m.k t) 0 ts:=by rw[Tr.ms,h]
theorem FB:∀(ts:List Tr) (i:Nat),(∀j,f j≤g j)→nz B m f i ts≤nz B m g i ts
 | [],i,h=>by rw[nz,nz];exact aA _
 |t::ts,i,h=>by
  rw[nz,nz];have h1:=dA (t.ms B m) (h i);have h2:=FB ts (i+1) h;lia
theorem Dh:∀(ts:List Tr) (i:Nat),nz B m (λj=>f j+g j) i ts=nz B m f i ts+nz B m g i ts
 | [],i=>by rw[nz,nz,nz]
 |t::ts,i=>by
  rw[nz,nz,nz,Dh ts (i+1),cf];lia
theorem Ix:∀(ts:List Tr) (i:Nat),nz B m (λ_=>0) i ts=0
 | [],i=>by rw[nz]
 |t::ts,i=>by rw[nz,Ix ts (i+1),Nat.zero_mul]
theorem IS:∀(ts:List Tr) (i:Nat) {t:Tr},i≤n→ts[n - i]? =aa t→nz B m (λj=>if(j:Int)=(n:Int) then 1 else 0) i ts=t.ms B m
 | [],i,t,hi,h=>by simp at h
 |u::ts,i,t,hi,h=>by
  rw[nz];by_cases e:i=n
  ·subst e;rw[g9]at h;cases h;have z:nz B m (λj=>if(j:Int)=(i:Int) then 1 else 0) (i+1) ts=0:=by
    have:∀(ts:List Tr) (k:Nat),i<k→nz B m (λj=>if(j:Int)=(i:Int) then 1 else 0) k ts=0:=by
     intro ts
     induction ts with
     |nil=>intro k _;rw[nz]
     |cons u ts ih=>
      intro k hk;rw[nz,ih (k+1) (by lia)];rw[if_neg (by lia),Nat.zero_mul]
    exact this ts _ (by lia)
   rw[z];simp
  ·have:=IS (n:=n) ts (i+1) (t:=t) (by lia) (by
    rw[show n - i=n - (i+1)+1 by lia,bT]at h
    exact h)
   rw[this,if_neg (by lia)];simp
noncomputable def cn (t:Tr) (j:Nat):Nat:=t.nm.count (j:Int)
mutual
theorem He{P:ah→Prop}(hP:∀s,P s→nc B s=none):∀t:Tr,t.hb P→t.br us.length→(t.aD us).ms B m=m.c0*t.sg+nz B m (cn t) 0 us
 | .bl n,h,ft=>by
  rw[Tr.br]at ft;have hl:n.toNat<us.length:=by lia
  rw[Tr.aD,bv,aR hl,eI,Tr.sg,Nat.mul_zero,bF];rw[←IS (m:=m) (B:=B) (n:=n.toNat) us 0 (aQ _) (aR hl)];congr 1;funext j;unfold cn;rw[Tr.nm,List.count_singleton,ck ft.1];by_cases e:(j:Int)=n
  ·rw[if_pos e,if_pos (by rw[e];exact beq_self_eq_true _)]
  ·rw[if_neg e,if_neg (λz=>e (by rw[beq_iff_eq]at z;lia))]
 | .nd s ts,h,ft=>by
  rw[Tr.br]at ft;rw[Tr.hb]at h;rw[Tr.aD,vo (hP s h.1),AM hP ts h.2 ft 0,Tr.sg];have:cn (.nd s ts)=λ(j:Nat)=>(pT ts).count (j:Int):=by
   funext j;unfold cn;rw[Tr.nm]
  rw[this,eO,Nat.mul_one];lia
theorem AM{P:ah→Prop}(hP:∀s,P s→nc B s=none):∀ts:List Tr,oC P ts→m7 us.length ts→ ∀i,nz B m (λ_=>1) i (aF us ts)=m.c0*ut ts+nz B m (λj=>(pT ts).count (j:Int)) 0 us
 | [],h,ft,i=>by
  have:(λj:Nat=>(pT []).count (j:Int))=λ_=>0:=by
   funext j;rw[pT];rfl
  rw[aF,nz,ut,this,Ix];rfl
 |t::ts,h,ft,i=>by
  rw[m7]at ft;rw[oC]at h;have:(λj:Nat=>(pT (t::ts)).count (j:Int))=λj=>cn t j+(pT ts).count (j:Int):=by
   funext j;unfold cn;rw[pT,List.count_append]
  rw[aF,nz,He hP t h.1 ft.1,AM hP ts h.2 ft.2 (i+1),ut,this,Dh,c6,eO m.c0 t.sg];lia
end
end
def mP:Ms:=⟨1,3,λ_ _=>2⟩
mutual
noncomputable def Tr.dm (B:List Tn):Tr→Nat
 | .bl _=>0
 | .nd s ts=>match nc B s with
  |none=>1+pf B ts
  |some _=>3+pf B ts
noncomputable def pf (B:List Tn):List Tr→Nat
 | []=>0
 |t::ts=>max (t.dm B) (pf B ts)
end
section
variable {B:List Tn}
def yc (h:nc B s=none):(Tr.nd s ts).dm B=1+pf B ts:=by rw[Tr.dm,h]
def yQ (h:nc B s=aa t):(Tr.nd s ts).dm B=3+pf B ts:=by rw[Tr.dm,h]
theorem Ii:∀{ts:List Tr},x∈ts→x.dm B≤pf B ts
 |t::ts,h=>by
  rw[pf];obtain rfl |h:=az.mp h
  ·lia
  ·have:=Ii h;lia
mutual
theorem Lv{P:ah→Prop}(hP:∀s,P s→nc B s=none):∀t:Tr,t.hb P→t.br us.length→(t.aD us).dm B≤t.sd+pf B us
 | .bl n,h,ft=>by
  rw[Tr.br]at ft;have hl:n.toNat<us.length:=by lia
  rw[Tr.aD,bv,aR hl,eI,Tr.sd,bF];exact Ii (dW ..)
 | .nd s ts,h,ft=>by
  rw[Tr.br]at ft;rw[Tr.hb]at h;have:=E3 hP ts h.2 ft;rw[Tr.aD,yc (hP s h.1),Tr.sd];lia
theorem E3{P:ah→Prop}(hP:∀s,P s→nc B s=none):∀ts:List Tr,oC P ts→m7 us.length ts→pf B (aF us ts)≤su ts+pf B us
 | [],h,ft=>by rw[aF,pf];lia
 |t::ts,h,ft=>by
  rw[m7]at ft;rw[oC]at h;have h1:=Lv hP t h.1 ft.1;have h2:=E3 hP ts h.2 ft.2;rw[aF,pf,su];lia
end
mutual
theorem LR:∀t:Tr,t.br us.length→(t.aD us).depth≤t.sd+nj us
 | .bl n,ft=>by
  rw[Tr.br]at ft;have hl:n.toNat<us.length:=by lia
  rw[Tr.aD,bv,aR hl,eI,Tr.sd,bF];exact p7 (dW ..)
 | .nd s ts,ft=>by
  rw[Tr.br]at ft;have:=G8 ts ft;rw[Tr.aD,Tr.depth,Tr.sd];lia
theorem G8:∀ts:List Tr,m7 us.length ts→nj (aF us ts)≤su ts+nj us
 | [],ft=>by rw[aF,nj];lia
 |t::ts,ft=>by
  rw[m7]at ft;have h1:=LR t ft.1;have h2:=G8 ts ft.2;rw[aF,nj,su];lia
end
end
section
variable {B:List Tn}
def wF:nz B m (λ_=>2) i ts=2*nz B m (λ_=>1) i ts:=by
 have:=Dh (B:=B) (m:=m) (f:=λ_=>1) (g:=λ_=>1) ts i;rw[show(λ_:Nat=>2)=λ_=>1+1 from rfl,this];lia
def mI.lfs (b:mI w0 w1 w2 w3 w4 w5 tt B) (G:nW w0 w1 w2 w3 w4 w5):uY B:=⟨λt ht us hu=>b.open_some G ht hu,λt ht=>by
 obtain⟨n,m,e⟩:=b.lf;have:t.2.1∈bO n w0 w2 w3++bO m w1 w2 w3:=by rw[←e];exact aV.mpr ⟨t,ht,rfl⟩
 obtain z |z:=bn.mp this
 ·exact⟨_,_,_,_,z⟩
 ·exact⟨_,_,_,_,z⟩⟩
end
theorem L3:∀(ts:List Tr) (k i:Nat) {w:Tr},ts[i]? =aa w→y∈w.op B (p++[((k+i:Nat):Int)])→y∈pD B p k ts
 | [],k,i,w,e,h=>by simp at e
 |t::ts,k,0,w,e,h=>by
  rw[jT]at e;cases e;rw[pD];exact dX _ h
 |t::ts,k,i+1,w,e,h=>by
  rw[bT]at e;rw[pD];refine cp _ (L3 ts (k+1) i e ?_);rw[show k+1+i=k+(i+1) by lia]
  exact h
theorem HS:∀(q:List Int) {t v:Tr}{p:List Int}{u:Tn},t.at q=aa v→o8 B v=aa u→v.isBl=false→(p++q,u.1)∈t.op B p
 | [],t,v,p,u,h,ho,hb=>by
  rw[pC]at h;cases h;cases t with
  |bl n=>cases hb
  |nd s ts=>
   rw[Tr.op,ho,bf];exact dX _ aL
 |i::q, .bl n,v,p,u,h,ho,hb=>by cases h
 |i::q, .nd s ts,v,p,u,h,ho,hb=>by
  obtain⟨w,h0,h1,h2⟩:=pU h;obtain⟨j,rfl⟩:∃j:Nat,i=j:=⟨i.toNat,(ck h0).symm⟩;rw[bb]at h1;rw[Tr.op];refine cp _ (L3 ts 0 j h1 ?_);have:=HS q (p:=p++[(j:Int)]) h2 ho hb;rw[bF];rw[bD]at this;exact this
mutual
theorem wJ:∀x:Tr,x.dO=true→x.hd ox
 | .bl n,h=>by rw[Tr.dO]at h;cases h
 | .nd s ts,h=>by
  rw[Tr.dO,bV]at h;rw[Tr.hd];exact⟨(AE s).mp h.1,MQ ts h.2⟩
theorem MQ:∀ts:List Tr,tJ ts=true→hds ox ts
 | [],h=>by rw[hds];trivial
 |t::ts,h=>by
  rw[tJ,bV]at h;rw[hds];exact⟨wJ t h.1,MQ ts h.2⟩
end
def nI.up (hv:∀x∈vs,x∈ws) (h:nI vs B p):nI ws B p:=by
 induction h with
 |sign hh _ ih=>exact .sign (hv _ hh) ih
 |turn e hl b0 b1 _ ih=>exact .turn e hl b0 b1 ih
section
variable {ws:List ah}{B:List Tn}
def Zf (K:Bk3 ws B) {t:Tn}(ht:t∈B) {i:Nat}{e:List Int}(h:(t.2.1.bls.map λx=>x.1)[i]? =aa e):e≠ []:=by
 rintro rfl;obtain⟨b,hb,h0⟩:=aV.mp (aJ h);have ha:=(xG hb).1;rw[h0,pC,(xG hb).2.1]at ha;obtain⟨z0,ls,ez,_⟩:=K.O.inn t ht;rw[ez]at ha;cases ha
end
def Mt{n:Nat}{h c d:ah}{L:Tr}(hL:L∈bO n h c d) {i:Nat}{e:List Int}(he:(L.bls.map λx=>x.1)[i]? =aa e):L.at e=aa (.bl i):=by
 unfold bO at hL;split at hL<;>simp only[az,bq,or_false]at hL
 ·subst hL;rw[QP]at he;obtain _ |i:=i
  ·cases he;rfl
  ·cases he
 ·subst hL;rw[So]at he;obtain _ |_ |i:=i
  ·cases he;rfl
  ·cases he;rfl
  ·cases he
 ·obtain rfl |rfl:=hL
  ·rw[Zl]at he;cases he
  ·rw[VJ]at he;obtain _ |i:=i
   ·cases he;rfl
   ·cases he
 ·obtain rfl |rfl:=hL
  ·rw[TZ]at he;obtain _ |i:=i
   ·cases he;rfl
   ·cases he
  ·rw[Qu]at he;obtain _ |_ |i:=i
   ·cases he;rfl
   ·cases he;rfl
   ·cases he
 ·obtain rfl |rfl:=hL
  ·rw[VR]at he;obtain _ |_ |_ |i:=i
   ·cases he;rfl
   ·cases he;rfl
   ·cases he;rfl
   ·cases he
  ·rw[QY]at he;obtain _ |_ |i:=i
   ·cases he;rfl
   ·cases he;rfl
   ·cases he
 ·subst hL;rw[Yz]at he;cases he
theorem xo:∀(e:List Int) {L:Tr}{n:Int},L.at e=aa (.bl n)→L.br us.length→(L.aD us).at e=us[n.toNat]?
 | [],L,n,h,ft=>by
  rw[pC]at h;cases h;rw[Tr.br]at ft;rw[Tr.aD,pC,bv,aR (show n.toNat<us.length by lia)]
  rfl
 |i::e, .bl k,n,h,ft=>by cases h
 |i::e, .nd s ls,n,h,ft=>by
  obtain⟨w,h0,h1,h2⟩:=pU h;rw[Tr.br]at ft;obtain⟨j,rfl⟩:∃j:Nat,i=j:=⟨i.toNat,(ck h0).symm⟩;rw[bb]at h1;have e1:(aF us ls)[j]? =aa (w.aD us):=by rw[uW,aT,h1];rfl
  rw[Tr.aD,rZ e1];exact xo e h2 (wc ft (aJ h1))
theorem K8:∀(q:List Int) {X v:Tr},X.at q=aa v→X.bQ q v=X
 | [],X,v,h=>by
  rw[pC]at h;cases h;exact tz _ _
 |i::q, .bl n,v,h=>by cases h
 |i::q, .nd s ts,v,h=>by
  obtain⟨w,h0,h1,h2⟩:=pU h;rw[tU h1,K8 q h2];congr 1;exact kB λj=>by
   rw[j9];split
   ·rename_i e;rw[←e,h1];simp [(b6.mp h1).1]
   ·rfl
theorem uP:∀(q:List Int) {X v:Tr},X.at q=aa v→q.length+v.depth≤X.depth
 | [],X,v,h=>by
  rw[pC]at h;cases h;simp
 |i::q, .bl n,v,h=>by cases h
 |i::q, .nd s ts,v,h=>by
  obtain⟨w,h0,h1,h2⟩:=pU h;have:=uP q h2;have:=p7 (aJ h1);rw[Tr.depth,aU];lia
def Sh.sig (K:Bk3 ws B) (h:Sh ws B X):X.hd ox:=wJ _ (h.dO K)
def Sh.mkq (K:Bk3 ws B) (h:Sh ws B X) (g:Tn→Tr):X.mk B g=X:=rV K.b.ti _ (h.sig K)
def Bu (K:Bk3 ws B) {ts:List Tr}(h:∀t∈ts,Sh ws B t) (g:Tn→Tr):ts.map (Tr.mk B g)=ts:=by
 rw[di (g:=id) λt ht=>(h t ht).mkq K g,List.map_id]
theorem Fj (K:Bk3 ws B) (g:Tn→Tr) {u:Tr}:∀(q:List Int) {X v:Tr},Sh ws B X→X.at q=aa v→(X.bQ q u).mk B g=X.bQ q (u.mk B g)
 | [],X,v,hs,h=>by rw[tz,tz]
 |i::q, .bl n,v,hs,h=>by cases h
 |i::q, .nd s ts,v,hs,h=>by
  obtain⟨w,h0,h1,h2⟩:=pU h;obtain⟨s',ts',e,_,e2,k⟩:=hs.cases K;cases e;rw[tU h1,tU h1,qh e2,List.map_set,Bu K k,Fj K g q (k w (aJ h1)) h2]
theorem Ip (hu:Wy ws B u):∀(q:List Int) {X v:Tr},Wy ws B X→X.at q=aa v→Wy ws B (X.bQ q u)
 | [],X,v,hs,h=>by rw[tz];exact hu
 |i::q, .bl n,v,hs,h=>by cases h
 |i::q, .nd s ts,v,hs,h=>by
  obtain⟨w,h0,h1,h2⟩:=pU h;rw[tU h1];refine hs.re (by simp) λz hz=>?_;obtain q' |rfl:=kU hz
  ·exact hs.dI z q'
  ·exact Ip hu q (hs.dI w (aJ h1)) h2
structure Ou (ws:List ah) (B:List Tn) (X:Tr) (q:List Int) (t:Tn) (us:List Tr):Prop where
  ht:t∈B
  hl:us.length=t.2.1.nb
  hat:X.at q=aa (t.2.1.aD us)
  sh:∀u∈us,Sh ws B u
def Ou.tt (K:Bk3 ws B) (o:Ou ws B X q t us):nc B t.1=aa t:=rg K.b.nd o.ht
def Ou.wys (K:Bk3 ws B) (o:Ou ws B X q t us):Wy ws B (.nd t.1 us):=by
 refine⟨?_,?_⟩
 ·rw[Tr.hd,m3];exact⟨.inr ⟨t,o.ht,rfl⟩,λu hu=>(o.sh u hu).wy.hd⟩
 ·rw[Tr.ar,oD];refine⟨λt' e=>?_,λu hu=>(o.sh u hu).wy.ar⟩;rw[o.tt K]at e;cases e;exact o.hl
theorem GD (K:Bk3 ws B) (F:uY B) (ht:t∈B) (hl:us.length=t.2.1.nb) (hu:∀u∈us,Sh ws B u):∀(q:List Int) {X:Tr}(p:List Int),Sh ws B X→X.at q=aa (t.2.1.aD us)→ ∃n,Wi B [p++q] n p X (X.bQ q (.nd t.1 us))
 | [],X,p,hs,h=>by
  rw[pC]at h;cases h;obtain⟨s0,ts0,e3,_⟩:=hs.cases K;have ho:=F.op t ht _ hl;have hm:=K.O.mt t ht _ hl;rw[tz,e3];rw[e3]at ho hm;refine⟨nj us+1, .yes (by simp) ho hm (rg K.b.nd ht) (D0 (by rw[ay,hl,E6]) λi q v h1 h2=>?_)⟩;have hv:v∈us:=aJ h2;refine Ey K _ _ _ (p7 hv) (hu v hv) λr hr=>?_;have h0:=Zf K ht h1;rw[bf,bi,bD]at hr;have:=congrArg dH hr;simp at this;exact h0 this.1
 |i::q, .bl n,p,hs,h=>by cases h
 |i::q, .nd s ts,p,hs,h=>by
  obtain⟨w,h0,h1,h2⟩:=pU h;obtain⟨s',ts',e,_,e2,k⟩:=hs.cases K;cases e;obtain⟨j,rfl⟩:∃j:Nat,i=j:=⟨i.toNat,(ck h0).symm⟩;rw[bb]at h1;obtain⟨n,hn⟩:=GD K F ht hl hu q (p++[(j:Int)]) (k w (aJ h1)) h2;rw[tU (by rw[bb];exact h1),bb];refine⟨(n+nj ts)+1, .no (by simp) e2 (Hc (by simp) (by simp) λi' q' t' u' g1 g2 g3=>?_)⟩;have g1':q'=[(i':Int)]:=by
   have hi:=(b6.mp g2).1;rw[aT,fS hi]at g1;cases g1;rfl
  subst g1';have hd:=p7 (aJ g2);rw[j9]at g3;by_cases e:j=i'
  ·subst e;rw[h1]at g2;cases g2;rw[if_pos rfl,if_pos (b6.mp h1).1]at g3;cases g3;have:=hn.mono (m:=n+nj ts) (by lia);rw[bD]at this;exact this
  ·rw[if_neg e,g2]at g3;cases g3;refine Ey K _ _ _ (by lia) (k _ (aJ g2)) λr hr=>?_;rw[bi,bD,List.append_cancel_left_eq]at hr;simp at hr;lia
theorem Hn:∀(ts:List Tr) (k:Nat),y∈pD B p k ts→ ∃(j:Nat) (w:Tr),ts[j]? =aa w∧y∈w.op B (p++[((k+j:Nat):Int)])
 | [],k,h=>by rw[pD]at h;cases h
 |t::ts,k,h=>by
  rw[pD]at h;obtain h |h:=bn.mp h
  ·exact⟨0,t,rfl,h⟩
  ·obtain⟨j,w,e,h'⟩:=Hn ts (k+1) h;refine⟨j+1,w,by simpa using e,?_⟩
   rw[show k+(j+1)=k+1+j by lia]
   exact h'
theorem yu (K:Bk3 ws B):∀(n:Nat) {X:Tr}{p:List Int}{y:List Int×ah},X.depth≤n→Sh ws B X→y∈X.op B p→ ∃q t us,y.1=p++q∧Ou ws B X q t us
 |0,X,p,y,hn,h,hy=>by have:=qD X;lia
 |n+1,X,p,y,hn,h,hy=>by
  obtain⟨s,ts,rfl,_,e,k⟩:=h.cases K;rw[Tr.depth]at hn;rw[Tr.op]at hy;obtain hy |hy:=bn.mp hy
  ·cases eo:o8 B (.nd s ts) with
   |none=>rw[eo]at hy;cases hy
   |some t=>
    rw[eo]at hy;rw[bi]at hy;subst hy;have ht:t∈B:=bX eo;have hm:=fi eo;obtain⟨ms,em⟩:=dS.mp hm;obtain⟨p1,p2,p3⟩:=h.parts K ht em;exact⟨[],t,ms,by simp,ht,p2,by rw[pC,p1],p3⟩
  ·obtain⟨j,w,ew,hw⟩:=Hn ts 0 hy;have hm:=aJ ew;obtain⟨q,t,us,e1,o⟩:=yu K n (by have:=p7 hm;lia) (k w hm) hw;refine⟨(j:Int)::q,t,us,by rw[e1,bF,bD];rfl,o.ht,o.hl,?_,o.sh⟩
   rw[rZ ew];exact o.hat
noncomputable def wyO (X:Tr) (q:List Int) (t:Tn) (us:List Tr):Tr:=X.bQ q (.nd t.1 us)
noncomputable def toO (X:Tr) (q:List Int) (t:Tn) (us:List Tr):Tr:=X.bQ q (t.2.2.aD us)
def Ou.ak (K:Bk3 ws B) (h:Sh ws B X) (o:Ou ws B X q t us):ak B (wyO X q t us)=X:=by
 show(X.bQ q (.nd t.1 us)).mk B _=X;rw[Fj K _ q h o.hat,p4 (o.tt K),Bu K o.sh];exact K8 q o.hat
def Ou.b7 (K:Bk3 ws B) (h:Sh ws B X) (o:Ou ws B X q t us):b7 B (wyO X q t us)=toO X q t us:=by
 show(X.bQ q (.nd t.1 us)).mk B _=_;rw[Fj K _ q h o.hat,p4 (o.tt K),Bu K o.sh];rfl
def Ou.wy (K:Bk3 ws B) (h:Sh ws B X) (o:Ou ws B X q t us):Wy ws B (wyO X q t us):=Ip (o.wys K) q h.wy o.hat
def Ou.to (K:Bk3 ws B) (h:Sh ws B X) (o:Ou ws B X q t us):Sh ws B (toO X q t us):=by
 have g:=K.b7 (o.wy K h);rw[o.b7 K h]at g;exact⟨g.1,g.2.1⟩
def Ou.wi (K:Bk3 ws B) (F:uY B) (h:Sh ws B X) (o:Ou ws B X q t us):Wi B [q] X.depth [] X (wyO X q t us):=by
 obtain⟨n,hn⟩:=GD K F o.ht o.hl o.sh q [] h o.hat;exact hn.bd K.O
def Ou.op (K:Bk3 ws B) (F:uY B) (o:Ou ws B X q t us):q∈(X.op B []).map λx=>x.1:=by
 obtain⟨z,ls,ez,_⟩:=K.O.inn t o.ht;have:=HS (B:=B) q (p:=[]) o.hat (F.op t o.ht us o.hl) (by rw[ez,Tr.aD];rfl);exact aV.mpr ⟨_,this,by simp⟩
inductive qU (ws:List ah) (B:List Tn):Tr→List (List Int)→List Tr→List Tr→Prop
 |nil {X:Tr}:Sh ws B X→X.bo=true→qU ws B X [] [] []
 |cons {X:Tr}{q:List Int}{t:Tn}{us:List Tr}{qs:List (List Int)}{ss Ys:List Tr}:Sh ws B X→X.bo=true→Ou ws B X q t us→qU ws B (toO X q t us) qs ss Ys→qU ws B X (q::qs) (wyO X q t us::ss) (toO X q t us::Ys)
def pW (X:Tr):List Tr→Tr
 | []=>X
 |Y::Ys=>pW Y Ys
theorem E2:∀(X:Tr) (Ys:List Tr),pW X (Ys++[Z])=Z
 |X,[]=>rfl
 |X,Y::Ys=>E2 Y Ys
def qU.head (P:qU ws B X qs ss Ys):Sh ws B X∧X.bo=true:=by cases P with
 |nil h s=>exact⟨h,s⟩
 |cons h s _ _=>exact⟨h,s⟩
def qU.len (P:qU ws B X qs ss Ys):ss.length=qs.length∧Ys.length=qs.length:=by
 induction P with
 |nil _ _=>exact⟨rfl,rfl⟩
 |cons _ _ _ _ ih=>exact⟨by simp [ih.1],by simp [ih.2]⟩
def qU.snoc (K:Bk3 ws B) (P:qU ws B X qs ss Ys) (o:Ou ws B (pW X Ys) q t us) (hs:(toO (pW X Ys) q t us).bo=true):qU ws B X (qs++[q]) (ss++[wyO (pW X Ys) q t us]) (Ys++[toO (pW X Ys) q t us]):=by
 induction P with
 |nil h s=>exact .cons h s o (.nil (o.to K h) hs)
 |cons h s o' _ ih=>exact .cons h s o' (ih o hs)
structure Bx (w0 w1 w2 w3 w4 w5:ah) (tt:List ah) (B:List Tn):Prop where
  b:mI w0 w1 w2 w3 w4 w5 tt B
  T:pI tt
  G:nW w0 w1 w2 w3 w4 w5
  rx:∀t∈B,RX t.2.2
def Bx.k (c:Bx w0 w1 w2 w3 w4 w5 tt B):Bk3 [w0,w1,w2,w3,w4,w5] B:=c.b.bk3 c.T c.G
def Bx.fs (c:Bx w0 w1 w2 w3 w4 w5 tt B):uY B:=c.b.lfs c.G
def Bx.lf (c:Bx w0 w1 w2 w3 w4 w5 tt B):rC B:=⟨λt ht=>(c.k.b.lf t ht).dp,λt ht=>by
 have h1:=(c.k.b.lf t ht).wt;have h2:=(c.k.b.lf t ht).nb;lia⟩
def Bx.pb (c:Bx w0 w1 w2 w3 w4 w5 tt B):PB B:=λt ht y hy=>by
 have h1:=(xG hy).2.2;have h2:=(c.k.b.lf t ht).dp;lia
def Q6{rest:List (List Int)}(c:Bx w0 w1 w2 w3 w4 w5 tt B) (fb:S0 a=aa (.bP (B.map mQ))) (fl:S0 l=aa (.bP F)) (h0:S0 f=none) (hr:120≤r) (P:qU [w0,w1,w2,w3,w4,w5] B X qs ss Ys):∀{S:lF}{zs:List Tr}{x5 x6:Option W},Sub S0 S→S f=aa (.bP (zs.map lA))→zs.length+ss.length≤1000→
  (∀S' x5 x6,Sub S0 S'→S' f=aa (.bP ((zs++ss).map lA))→mS (mB 5) (Bv (r+1) mK) E D (λS'=>S' l=aa (.bP F)) (rest.map mE) [aa (.ref a),aa (lA X0),aa (.ref l),aa (.ref f),aa (lA (pW X Ys)),x5,x6] S')→
  mS (mB 5) (Bv (r+1) mK) E D (λS'=>S' l=aa (.bP F)) ((qs++rest).map mE) [aa (.ref a),aa (lA X0),aa (.ref l),aa (.ref f),aa (lA X),x5,x6] S:=by
 induction P with
 | @nil X h s=>
  intro S zs x5 x6 sb ff hl k;have:=k S x5 x6 sb (by rw[bf];exact ff);exact this
 | @cons X q t us qs ss Ys h sm o P ih=>
  intro S zs x5 x6 sb ff hl k;obtain⟨s1,s2⟩:=rj sm;rw[aU]at hl;rw[cg,aC];refine pV λN hN=>?_;simp only[Bv];ext;refine⟨by decide,λg hg=>?_⟩;have fg:bQ S g (Ob.bP [mE q]) g=aa (.bP ([q].map mE)):=mV;replace ff:=keep (x:=Ob.bP [mE q]) ff hg;replace sb:=sb.trans (.bQ .refl hg:Sub S (bQ S g (Ob.bP [mE q])));generalize bQ S g (Ob.bP [mE q])=S1 at fg ff sb⊢;have fb1:=sb _ _ fb;refine Y_ (r:=r) (wn:=[q]) c.lf c.pb (o.wi c.k c.fs h) (by lia) (by lia) fb1 fg (wb (λ_ _=>trivial) _ h.wy.hd) (by lia) (by lia) (by simp) rfl (λy hy=>by rw[bi]at hy;rw[hy];exact o.op c.k c.fs) ?_
  try ext
  refine c.k.ok_goalX (r:=r) (o.wy c.k h) (by rw[o.ak c.k h];exact sm) fb1 (by lia) (λ_=>?_) λz=>?_
  ·rw[o.b7 c.k h]
   try ext
   simp only[ni ff,ay];refine⟨trivial,qJ (by lia),?_⟩;have e:zs.map lA++[lA (wyO X q t us)]=(zs++[wyO X q t us]).map lA:=by rw[bK];rfl
   rw[e];have fl1:bQ S1 f (Ob.bP ((zs++[wyO X q t us]).map lA)) l=aa (.bP F):=by
    rw[nQ (by rintro rfl;rw[fl]at h0;cases h0)];exact sb _ _ fl
   refine hN _ _ _ .refl fl1 (ih (zs:=zs++[wyO X q t us]) (λd ob ed=>?_) mV (by simp;lia) λS' x5 x6 sb' ff'=>k S' x5 x6 sb' (by rw[List.append_cons];exact ff'));by_cases hd:d=f
   ·rw[hd,h0]at ed;cases ed
   ·rw[nQ hd];exact sb d ob ed
  ·have:=P.head.2;rw[o.b7 c.k h]at z;rw[z]at this;cases this
def OS{E:ah→lF→Prop}(c:Bx w0 w1 w2 w3 w4 w5 tt B) (P:qU [w0,w1,w2,w3,w4,w5] B X qs ss Ys) (fb:S a=aa (.bP (B.map mQ))) (fl:S l=aa (.bP (qs.map mE))) (hl:ss.length≤1000) (hr:122≤r) (h:∀S' k,Sub S S'→S k=none→S' k=aa (.bP (ss.map lA))→Q (.bW [lA X, .ref k]) S'):Bp (r+1) [.ref a,lA X, .ref l] S Q E:=by
 obtain⟨r,rfl⟩:∃r',r=r'+1:=⟨r - 1,by lia⟩
 rw[Bp];ext;refine⟨aQ _,λk hk=>?_⟩
 try ext
 rw[ni (keep fl hk)];have:=Q6 (E:=λc _ S'=>E c S') (D:={ nx:=mY (m9 (iR (iN 1) (iR (iN 3) ae))) (λc _ S'=>E c S') { nx:=λ_ S'=>∃S'',Sub S'' S'∧Q W.ci S'',rt:=λw S'=>∃S'',Sub S'' S'∧Q w S'' },rt:=λw S'=>∃S'',Sub S'' S'∧Q w S'' }) (S0:=S) (X0:=X) (rest:=[]) (r:=r) c fb fl hk (by lia) P (S:=bQ S k (Ob.bP [])) (zs:=[]) (x5:=none) (x6:=none) (.bQ .refl hk) mV (by simp;lia) λS' x5 x6 sb ff=>?_
 ·rw[bf]at this;exact this
 ·simp only[cy,mS];ext;exact⟨by decide,S', .refl,h S' k sb hk ff⟩
noncomputable def hk (w0 w1:ah):List Tn:=[(w0, .bl 0, .bl 0),(w1, .bl 0, .bl 0)]
structure Dr (w0 w1 w2 w3 w4 w5:ah) (tt:List ah) (B:List Tn):Prop where
  c:m5 w0 w1 w2 w3 w4 w5 tt B
  ri:∀t∈B,t.2.2∈qg w0 w1 w2 w3 w4 w5 t.2.1.nb false
def S_ (h0:w0≠s) (h1:w1≠s):nc (hk w0 w1) s=none:=by
 unfold nc hk;simp [h0,h1]
def G3:∃t,nc (hk w0 w1) w0=aa t:=⟨(w0, .bl 0, .bl 0),by unfold nc hk;simp⟩
def OV:∃t,nc (hk w0 w1) w1=aa t:=by
 by_cases e:w0=w1
 ·subst e;exact G3
 ·exact⟨(w1, .bl 0, .bl 0),by unfold nc hk;simp [e]⟩
def nW.no (G:nW w0 w1 w2 w3 w4 w5):∀s∈ [w2,w3,w4,w5],nc (hk w0 w1) s=none:=λs hs=>S_ (G.n0 s (aI _ hs)) (G.n1 s hs)
def Wb (hm:m≤3) {P:ah→Prop}(hP:∀s∈ [w2,w3,w4,w5],P s):∀t∈qg w0 w1 w2 w3 w4 w5 m false,t.hb P:=by
 intro t ht;have h2:=hP w2 (by simp);have h3:=hP w3 (by simp);have h4:=hP w4 (by simp);have h5:=hP w5 (by simp);obtain _ |_ |_ |_ |m:=m
 all_goals first
  |lia
  | (simp only[qg,cg,aX,if_false,cE,az,bq,or_false]at ht<;>(try rcases ht with rfl |rfl |rfl |rfl |rfl |rfl |rfl |rfl)<;>(try rcases ht with rfl |rfl |rfl |rfl |rfl |rfl |rfl)<;>(try rcases ht with rfl |rfl |rfl |rfl |rfl |rfl)<;>(try rcases ht with rfl |rfl |rfl |rfl |rfl)<;>(try rcases ht with rfl |rfl |rfl)<;>simp [Tr.hb,oC,h2,h3,h4,h5])
structure Jb (w0 w1:ah) (L:Tr):Prop where
  ex:∃h ls t,L= .nd h ls∧nc (hk w0 w1) h=aa t∧oC (λs=>nc (hk w0 w1) s=none) ls∧ut ls≤2∧su ls≤2∧(pT ls).Nodup∧ ∀i:Nat,i<L.nb→(i:Int)∈pT ls
def Jo (ht:nc (hk w0 w1) h=aa t) (h2:nc (hk w0 w1) w2=none) (h3:nc (hk w0 w1) w3=none):∀L∈bO n h w2 w3,Jb w0 w1 L:=by
 intro L hL;have one:∀i:Nat,i<1→(i:Int)∈ [(0:Int)]:=λi hi=>by
  have:i=0:=by lia
  subst this;simp
 have two:∀i:Nat,i<2→(i:Int)∈ [(0:Int),1]:=λi hi=>by
  obtain rfl |rfl:i=0∨i=1:=by lia
  ·simp
  ·simp
 have three:∀i:Nat,i<3→(i:Int)∈ [(0:Int),1,2]:=λi hi=>by
  obtain rfl |rfl |rfl:i=0∨i=1∨i=2:=by lia
  ·simp
  ·simp
  ·simp
 unfold bO at hL;split at hL<;>simp only[az,bq,or_false]at hL
 all_goals (first |subst hL |rcases hL with rfl |rfl)<;>exact⟨_,_,t,rfl,ht,by simp [oC,Tr.hb,h2,h3],by simp [ut,Tr.sg],by simp [su,Tr.sd],by simp [pT,Tr.nm],by simp only[Tr.nb,nbs,pT,Tr.nm,cg,aX,bf,dy,bF,kK];first |exact one |exact two |exact three | (intro i hi;lia)⟩
def m5.lh (c:m5 w0 w1 w2 w3 w4 w5 tt B) (ht:t∈B):Jb w0 w1 t.2.1:=by
 have h2:=c.G.no w2 (by simp);have h3:=c.G.no w3 (by simp);obtain⟨n,z |z⟩:=c.b.mem_lefts ht
 ·obtain⟨u,hu⟩:=G3 (w0:=w0) (w1:=w1);exact Jo hu h2 h3 _ z
 ·obtain⟨u,hu⟩:=OV (w0:=w0) (w1:=w1);exact Jo hu h2 h3 _ z
def m5.nb3 (c:m5 w0 w1 w2 w3 w4 w5 tt B) (ht:t∈B):t.2.1.nb≤3:=(c.bk.lf t ht).nb
def Dr.no (d:Dr w0 w1 w2 w3 w4 w5 tt B) (ht:t∈B):t.2.2.hb λs=>nc (hk w0 w1) s=none:=Wb (d.c.nb3 ht) d.c.G.no _ (d.ri t ht)
def Dr.rx (d:Dr w0 w1 w2 w3 w4 w5 tt B):∀t∈B,RX t.2.2:=λt ht=>RH (d.c.nb3 ht) false _ (d.ri t ht)
mutual
theorem ZG:∀(t:Tr) {i:Nat},(i:Int)∈t.nm→us[i]? =aa u→u.dm H≤(t.aD us).dm H
 | .bl n,i,hi,hu=>by
  rw[Tr.nm,bi]at hi;subst hi;rw[Tr.aD,bb,bv,hu];exact aA _
 | .nd s ts,i,hi,hu=>by
  rw[Tr.nm]at hi;have:=D3 (H:=H) ts hi hu;rw[Tr.aD,Tr.dm];split<;>lia
theorem D3:∀(ts:List Tr) {i:Nat},(i:Int)∈pT ts→us[i]? =aa u→u.dm H≤pf H (aF us ts)
 | [],i,hi,hu=>by rw[pT]at hi;cases hi
 |t::ts,i,hi,hu=>by
  rw[pT]at hi;rw[aF,pf];obtain z |z:=bn.mp hi
  ·have:=ZG (H:=H) t z hu;lia
  ·have:=D3 (H:=H) ts z hu;lia
end
theorem Hi:∀(us:List Tr),(∀u∈us,u.dm H≤n)→pf H us≤n
 | [],h=>by rw[pf];lia
 |u::us,h=>by
  have:=h u aL;have:=Hi us λv hv=>h v (aI _ hv);rw[pf];lia
def mN:Ms:=⟨0,1,λ_ _=>1⟩
structure Mh (m:Ms):Prop where
  k:m.k=λ_ _=>2
  c:3*m.c0≤m.c1
theorem Gj{f g:Nat→Nat}:∀(ts:List Tr) (i:Nat),(∀j,i≤j→j<i+ts.length→f j≤g j)→nz H m f i ts≤nz H m g i ts
 | [],i,h=>by rw[nz,nz];exact aA _
 |t::ts,i,h=>by
  rw[aU]at h;rw[nz,nz];have h1:=dA (t.ms H m) (h i (aA _) (by lia));have h2:=Gj (m:=m) (H:=H) ts (i+1) λj h3 h4=>h j (by lia) (by lia);lia
theorem Db:∀(ts:List Tr) (i:Nat),(∀x∈ts,(b7 B x).ms H m+d*x.ms B mN≤(ak B x).ms H m)→nz H m (λ_=>1) i (ts.map (b7 B))+d*nz B mN (λ_=>1) i ts≤nz H m (λ_=>1) i (ts.map (ak B))
 | [],i,h=>by simp [nz]
 |x::ts,i,h=>by
  have h1:=h x aL;have h2:=Db ts (i+1) λy hy=>h y (aI _ hy);rw[aC,aC,nz,nz,nz,c6,c6,c6,eO];lia
theorem Dr.ms (d:Dr w0 w1 w2 w3 w4 w5 tt B) (M:Mh m):∀(n:Nat) {x:Tr},x.aq≤n→Wy [w0,w1,w2,w3,w4,w5] B x→(b7 B x).ms (hk w0 w1) m+(m.c1 - 3*m.c0)*x.ms B mN≤(ak B x).ms (hk w0 w1) m
 |0,x,hn,hx=>by have:=rQ x;lia
 |n+1,x,hn,hx=>by
  have b:=d.c.K.b;obtain ⟨h,ts,rfl,_,e,k⟩ |⟨t,ts,ht,rfl,e,hl,k⟩:=Wy.cases b hx
  ·rw[Tr.aq]at hn;have ih:=Db (B:=B) (m:=m) (d:=m.c1 - 3*m.c0) (H:=hk w0 w1) ts 0 λy hy=>Dr.ms d M n (by have:=pk hy;lia) (k y hy);have e0:(mN.c0)=0:=rfl;rw[b7,ak,qh e,qh e,vo e,e0,bF];show(Tr.nd h (ts.map (b7 B))).ms (hk w0 w1) m+_≤(Tr.nd h (ts.map (ak B))).ms (hk w0 w1) m;cases eh:nc (hk w0 w1) h with
   |none=>rw[vo eh,vo eh];lia
   |some u=>
    rw[t8 eh,t8 eh,M.k];show m.c1+nz _ m (λ_=>2) 0 _+_≤m.c1+nz _ m (λ_=>2) 0 _;rw[wF,wF];have:(m.c1 - 3*m.c0)*nz B mN (λ_=>1) 0 ts≤2*((m.c1 - 3*m.c0)*nz B mN (λ_=>1) 0 ts):=by lia
    lia
  ·rw[Tr.aq]at hn;have ih:=Db (B:=B) (m:=m) (d:=m.c1 - 3*m.c0) (H:=hk w0 w1) ts 0 λy hy=>Dr.ms d M n (by have:=pk hy;lia) (k y hy);have e1:mN.c1=1:=rfl;have rx:=d.rx t ht;have hls:(ts.map (ak B)).length=t.2.1.nb:=by rw[ay,hl]
   have hlg:(ts.map (b7 B)).length=t.2.1.nb:=by rw[ay,hl]
   obtain⟨h,ls,u,eL,eh,hb,_,_,_,nm⟩:=(d.c.lh ht).ex;have fl:=(b.lf t ht).br;have q1:=He (B:=hk w0 w1) (m:=m) (λ_ z=>z) (us:=ts.map (b7 B)) t.2.2 (d.no ht) (by rw[hlg];exact(b.ri t ht).br);have q2:nz (hk w0 w1) m (cn t.2.2) 0 (ts.map (b7 B))≤nz (hk w0 w1) m (λ_=>2) 0 (ts.map (b7 B)):=FB _ 0 λj=>rx.ct _;rw[wF]at q2;have q3:=rx.sg;have q4:(ak B (.nd t.1 ts)).ms (hk w0 w1) m≥m.c1+2*nz (hk w0 w1) m (λ_=>1) 0 (ts.map (ak B)):=by
    rw[ak,p4 e];show(t.2.1.aD (ts.map (ak B))).ms (hk w0 w1) m≥_;rw[eL,Tr.br]at fl;rw[eL,Tr.aD,t8 eh,M.k];show m.c1+nz _ m (λ_=>2) 0 _≥_;rw[wF,AM (B:=hk w0 w1) (m:=m) (λ_ z=>z) ls hb (by rw[hls,eL];exact fl) 0];have:nz (hk w0 w1) m (λ_=>1) 0 (ts.map (ak B))≤nz (hk w0 w1) m (λj=>(pT ls).count (j:Int)) 0 (ts.map (ak B)):=by
     refine Gj _ 0 λj _ hj=>List.one_le_count_iff.mpr (nm j ?_);rw[bF,hls]at hj;exact hj
    lia
   have q5:(b7 B (.nd t.1 ts)).ms (hk w0 w1) m=m.c0*t.2.2.sg+nz (hk w0 w1) m (cn t.2.2) 0 (ts.map (b7 B)):=by
    rw[←q1,b7,p4 e]
   have q6:m.c0*t.2.2.sg≤m.c0*3:=fX _ q3;have q7:(Tr.nd t.1 ts).ms B mN=1+nz B mN (λ_=>1) 0 ts:=by rw[t8 e];rfl
   have q8:=M.c;rw[q5,q7,eO,Nat.mul_one];have:(m.c1 - 3*m.c0)*nz B mN (λ_=>1) 0 ts≤2*((m.c1 - 3*m.c0)*nz B mN (λ_=>1) 0 ts):=by lia
   lia
theorem DB:∀(ts:List Tr),(∀x∈ts,(b7 B x).dm H≤(ak B x).dm H)→pf H (ts.map (b7 B))≤pf H (ts.map (ak B))
 | [],h=>by simp
 |x::ts,h=>by
  have h1:=h x aL;have h2:=DB ts λy hy=>h y (aI _ hy);rw[aC,aC,pf,pf];lia
theorem Dr.dm (d:Dr w0 w1 w2 w3 w4 w5 tt B):∀(n:Nat) {x:Tr},x.aq≤n→Wy [w0,w1,w2,w3,w4,w5] B x→(b7 B x).dm (hk w0 w1)≤(ak B x).dm (hk w0 w1)
 |0,x,hn,hx=>by have:=rQ x;lia
 |n+1,x,hn,hx=>by
  have b:=d.c.K.b;obtain ⟨h,ts,rfl,_,e,k⟩ |⟨t,ts,ht,rfl,e,hl,k⟩:=Wy.cases b hx
  ·rw[Tr.aq]at hn;have ih:=DB (B:=B) (H:=hk w0 w1) ts λy hy=>Dr.dm d n (by have:=pk hy;lia) (k y hy);rw[b7,ak,qh e,qh e];show(Tr.nd h (ts.map (b7 B))).dm (hk w0 w1)≤(Tr.nd h (ts.map (ak B))).dm (hk w0 w1);cases eh:nc (hk w0 w1) h with
   |none=>rw[yc eh,yc eh];lia
   |some u=>rw[yQ eh,yQ eh];lia
  ·rw[Tr.aq]at hn;have ih:=DB (B:=B) (H:=hk w0 w1) ts λy hy=>Dr.dm d n (by have:=pk hy;lia) (k y hy);have rx:=d.rx t ht;have hls:(ts.map (ak B)).length=t.2.1.nb:=by rw[ay,hl]
   have hlg:(ts.map (b7 B)).length=t.2.1.nb:=by rw[ay,hl]
   obtain⟨h,ls,u,eL,eh,hb,_,_,_,nm⟩:=(d.c.lh ht).ex;have q1:=Lv (B:=hk w0 w1) (λ_ z=>z) (us:=ts.map (b7 B)) t.2.2 (d.no ht) (by rw[hlg];exact(b.ri t ht).br);have q3:=rx.sd;have q4:(ak B (.nd t.1 ts)).dm (hk w0 w1)≥3+pf (hk w0 w1) (ts.map (ak B)):=by
    rw[ak,p4 e];show(t.2.1.aD (ts.map (ak B))).dm (hk w0 w1)≥_;rw[eL,Tr.aD,yQ eh];have:pf (hk w0 w1) (ts.map (ak B))≤pf (hk w0 w1) (aF (ts.map (ak B)) ls):=Hi _ λv hv=>by
     obtain⟨i,hi,ei⟩:=fA hv;exact D3 ls (nm i (by rw[←hls];exact hi)) (by rw[aR hi,ei])
    lia
   have q5:(b7 B (.nd t.1 ts)).dm (hk w0 w1)=(t.2.2.aD (ts.map (b7 B))).dm (hk w0 w1):=by
    rw[b7,p4 e]
   rw[q5];lia
mutual
theorem N0:∀{t:Tr},(t.hd λ_=>True)→t.aq≤t.ms H mP∧t.depth≤t.dm H
 | .bl n,h=>by rw[Tr.hd]at h;exact h.elim
 | .nd s ts,h=>by
  rw[Tr.hd]at h;obtain⟨h1,h2⟩:=Dq (H:=H) (f:=λ_=>1) (λ_=>aA _) h.2 0;obtain⟨h3,h4⟩:=Dq (H:=H) (f:=λ_=>2) (λ_=>by lia) h.2 0
  cases e:nc H s with
  |none=>
   rw[vo e,yc e,Tr.aq,Tr.depth];have:mP.c0=1:=rfl;lia
  |some t=>
   rw[t8 e,yQ e,Tr.aq,Tr.depth];have:mP.c1=3:=rfl;have e2:nz H mP (mP.k t) 0 ts=nz H mP (λ_=>2) 0 ts:=rfl;lia
theorem Dq{f:Nat→Nat}(hf:∀j,1≤f j):∀{ts:List Tr},hds (λ_=>True) ts→ ∀i,mO ts≤nz H mP f i ts∧nj ts≤pf H ts
 | [],h,i=>by rw[mO,nz,nj,pf];lia
 |t::ts,h,i=>by
  rw[hds]at h;obtain⟨h1,h2⟩:=N0 (H:=H) h.1;obtain⟨h3,h4⟩:=Dq (H:=H) hf h.2 (i+1);have:=mj (t.ms H mP) (hf i);rw[mO,nz,nj,pf];lia
end
structure Cl (w0 w1 w2 w3 w4 w5:ah) (B:List Tn) (X:Tr):Prop where
  sh:Sh [w0,w1,w2,w3,w4,w5] B X
  p:X.ms (hk w0 w1) mP≤400
  q:X.dm (hk w0 w1)≤40
def Cl.sm (h:Cl w0 w1 w2 w3 w4 w5 B X):X.bo=true:=by
 obtain⟨h1,h2⟩:=N0 (H:=hk w0 w1) (wb (λ_ _=>trivial) _ h.sh.wy.hd);have:=h.p;have:=h.q;exact DC (by lia) (by lia)
def Dr.cl (d:Dr w0 w1 w2 w3 w4 w5 tt B) (hx:Wy [w0,w1,w2,w3,w4,w5] B x) (h:Cl w0 w1 w2 w3 w4 w5 B (ak B x)):Cl w0 w1 w2 w3 w4 w5 B (b7 B x):=by
 have h1:=d.ms (m:=mP) ⟨rfl,by decide⟩ _ (aA _) hx
 have h2:=d.dm _ (aA _) hx;have h3:=h.p;have h4:=h.q;have:=d.c.K.b7 hx;exact⟨⟨this.1,this.2.1⟩,by lia,by lia⟩
def mT:Ms:=⟨0,1,λ_ _=>2⟩
mutual
noncomputable def Tr.hn (H:List Tn):Tr→Nat
 | .bl _=>0
 | .nd s ts=>match nc H s with
  |none=>hns H ts
  |some _=>1+hns H ts
noncomputable def hns (H:List Tn):List Tr→Nat
 | []=>0
 |t::ts=>max (t.hn H) (hns H ts)
end
def Ff (h:nc H s=none):(Tr.nd s ts).hn H=hns H ts:=by rw[Tr.hn,h]
def Of (h:nc H s=aa t):(Tr.nd s ts).hn H=1+hns H ts:=by rw[Tr.hn,h]
theorem D7:∀{ts:List Tr},x∈ts→x.hn H≤hns H ts
 |t::ts,h=>by
  rw[hns];obtain rfl |h:=az.mp h
  ·lia
  ·have:=D7 (H:=H) h;lia
mutual
theorem Ye{P:ah→Prop}(hP:∀s,P s→nc H s=none):∀t:Tr,t.hb P→t.br us.length→(t.aD us).hn H≤hns H us
 | .bl n,h,ft=>by
  rw[Tr.br]at ft;have hl:n.toNat<us.length:=by lia
  rw[Tr.aD,bv,aR hl,eI];exact D7 (dW ..)
 | .nd s ts,h,ft=>by
  rw[Tr.br]at ft;rw[Tr.hb]at h;rw[Tr.aD,Ff (hP s h.1)];exact Fe hP ts h.2 ft
theorem Fe{P:ah→Prop}(hP:∀s,P s→nc H s=none):∀ts:List Tr,oC P ts→m7 us.length ts→hns H (aF us ts)≤hns H us
 | [],h,ft=>by rw[aF,hns];lia
 |t::ts,h,ft=>by
  rw[m7]at ft;rw[oC]at h;have h1:=Ye hP t h.1 ft.1;have h2:=Fe hP ts h.2 ft.2;rw[aF,hns];lia
end
def SD{m1 m2 s1 s2 a b:Nat}(ha:1≤a) (hb:1≤b) (h1:m1+7≤(s1+7)*a) (h2:m2+7≤(s2+7)*b):m1+m2+7≤(s1+s2+7)*(a*b):=by
 have e1:s1*a≤s1*(a*b):=fX _ (kO _ hb);have e2:s2*b≤s2*(a*b):=fX _ (mj _ ha);have e3:a+b≤a*b+1:=by
  obtain⟨a,rfl⟩:∃a',a=a'+1:=⟨a - 1,by lia⟩
  obtain⟨b,rfl⟩:∃b',b=b'+1:=⟨b - 1,by lia⟩
  rw[eO,cf];lia
 rw[cf]at h1 h2;rw[cf,cf];lia
def SX (ha:1≤a) (hb:1≤b) (h1:m1+1≤a) (h2:m2+1≤b):m1+m2+1≤a*b:=by
 have e3:a+b≤a*b+1:=by
  obtain⟨a,rfl⟩:∃a',a=a'+1:=⟨a - 1,by lia⟩
  obtain⟨b,rfl⟩:∃b',b=b'+1:=⟨b - 1,by lia⟩
  rw[eO,cf];lia
 lia
structure IA (H:List Tn) (B:List Tn) (p:Pl):Prop where
  n:p.nt≤p.wt
  a:(p.ev B zr).ms H mP+7≤(p.wt - p.nt+7)*2 ^ p.nt
  b:(p.ev B zr).ms H mT+1≤2 ^ p.nt
  c:(p.ev B zr).dm H≤p.wt+4*p.nt
  d:(p.ev B zr).hn H≤p.nt
theorem Em:∀(ps:List Pl),(∀p∈ps,IA H B p)→ ∀i,bC ps≤bH ps∧nz H mP (λ_=>1) i (ps.map (Pl.ev B zr))+7≤(bH ps - bC ps+7)*2 ^ bC ps∧nz H mT (λ_=>1) i (ps.map (Pl.ev B zr))+1≤2 ^ bC ps∧pf H (ps.map (Pl.ev B zr))≤bH ps+4*bC ps∧hns H (ps.map (Pl.ev B zr))≤bC ps
 | [],_,i=>by simp [bC,bH,nz,pf,hns]
 |p::ps,h,i=>by
  have q:=h p aL;obtain⟨b1,b2,b3,b4,b5⟩:=Em ps (λq hq=>h q (aI _ hq)) (i+1);have:=SD (fP (n:=p.nt)) (fP (n:=bC ps)) q.a b2;have t2:=SX (fP (n:=p.nt)) (fP (n:=bC ps)) q.b b3;rw[←gT]at this t2;have h1:=q.n;have h2:=q.c;have h3:=q.d;rw[bC,bH,aC,nz,nz,pf,hns,c6,c6];refine⟨by lia,?_,t2,by lia,by lia⟩
  rw[show p.wt+bH ps - (p.nt+bC ps)=p.wt - p.nt+(bH ps - bC ps) by lia]
  exact this
def m5.plh (c:m5 w0 w1 w2 w3 w4 w5 tt B) (h:nI [w2,w3,w4,w5] B p):IA (hk w0 w1) B p:=by
 have b:=c.bk
 induction h with
 | @sign b' h ps hh hp ih=>
  obtain⟨b1,b2,b3,b4,b5⟩:=Em ps ih 0;have e:=c.G.no h hh;have h1:mP.c0=1:=rfl;have h2:mT.c0=0:=rfl;have h3:=fP (n:=bC ps);have n1:(Pl.nd (-1) b' h ps).nt=bC ps:=by rw[Pl.nt,if_pos (by decide),bF]
  have n2:(Pl.nd (-1) b' h ps).wt=1+bH ps:=by rw[Pl.wt]
  refine⟨by rw[n1,n2];lia,?_,?_,?_,?_⟩
  ·rw[n1,n2,qb,vo e,h1,show 1+bH ps - bC ps+7=(bH ps - bC ps+7)+1 by lia,cf]
   lia
  ·rw[n1,qb,vo e,h2];lia
  ·rw[n1,n2,qb,yc e];lia
  ·rw[n1,qb,Ff e];exact b5
 | @turn k b' h ps t e hl b0 b1 hp ih=>
  obtain⟨i1,i2,i3,i4,i5⟩:=Em ps ih 0;have ht:t∈B:=aJ e;have hl':(ps.map (Pl.ev B zr)).length=t.2.1.nb:=by rw[ay,hl]
  obtain⟨z,ls,u,eL,eh,hb,s2,d2,nd,nm⟩:=(c.lh ht).ex;have fl:=(b.lf t ht).br;rw[eL,Tr.br]at fl;have fl':m7 (ps.map (Pl.ev B zr)).length ls:=by rw[hl',eL];exact fl
  have ez:q_ t (zr b') (ps.map (Pl.ev B zr))= .nd z (aF (ps.map (Pl.ev B zr)) ls):=by
   have:q_ t (zr b') (ps.map (Pl.ev B zr))=t.2.1.aD (ps.map (Pl.ev B zr)):=rfl;rw[this,eL,Tr.aD]
  have ct:∀j,(pT ls).count ((j:Nat):Int)≤1:=λj=>List.nodup_iff_count.mp nd _;have q:∀m:Ms,nz (hk w0 w1) m (λ_=>1) 0 (aF (ps.map (Pl.ev B zr)) ls)≤m.c0*2+nz (hk w0 w1) m (λ_=>1) 0 (ps.map (Pl.ev B zr)):=λm=>by
   rw[AM (B:=hk w0 w1) (m:=m) (λ_ z=>z) ls hb fl' 0];have h1:=fX m.c0 s2;have h2:nz (hk w0 w1) m (λj=>(pT ls).count (j:Int)) 0 (ps.map (Pl.ev B zr))≤nz (hk w0 w1) m (λ_=>1) 0 (ps.map (Pl.ev B zr)):=FB _ 0 ct;lia
  have qP:=q mP;have qT:=q mT;have c1:mP.c0=1:=rfl;have c2:mT.c0=0:=rfl;rw[c1]at qP;rw[c2]at qT;have n1:(Pl.nd k b' h ps).nt=1+bC ps:=by rw[Pl.nt,if_neg (by lia)]
  have n2:(Pl.nd k b' h ps).wt=1+bH ps:=by rw[Pl.wt]
  have ev:(Pl.nd k b' h ps).ev B zr= .nd z (aF (ps.map (Pl.ev B zr)) ls):=by rw[pZ e,ez]
  have p2:2 ^ (1+bC ps)=2*2 ^ bC ps:=by rw[gT,Nat.pow_one]
  refine⟨by rw[n1,n2];lia,?_,?_,?_,?_⟩
  ·rw[n1,n2,ev,t8 eh];show 3+nz _ mP (λ_=>2) 0 _+7≤_;rw[wF,show 1+bH ps - (1+bC ps)+7=bH ps - bC ps+7 by lia,p2,←jx,Nat.mul_comm _ 2,jx]
   lia
  ·rw[n1,ev,t8 eh];show 1+nz _ mT (λ_=>2) 0 _+1≤_;rw[wF,p2];lia
  ·have:=E3 (B:=hk w0 w1) (λ_ z=>z) ls hb fl';rw[n1,n2,ev,yQ eh];lia
  ·have:=Fe (H:=hk w0 w1) (λ_ z=>z) ls hb fl';rw[n1,ev,Of eh];lia
inductive Lo (B:List Tn):Tr→List Int→Tr→Tr→Prop
 |top {t:Tn}{vs:List Tr}:t∈B→vs.length=t.2.1.nb→Lo B (t.2.1.aD vs) [] (.nd t.1 (vs.map (ak B))) (.nd t.1 (vs.map (b7 B)))
 |sgn {h:ah}{as bs:List Tr}{x s y:Tr}{q:List Int}:nc B h=none→Lo B x q s y→Lo B (.nd h (as++x::bs)) ((as.length:Int)::q) (.nd h (as.map (ak B)++s::bs.map (ak B))) (.nd h (as.map (b7 B)++y::bs.map (b7 B)))
 |here {h:ah}{ts:List Tr}{t:Tn}:nc B h=aa t→Lo B (.nd h ts) [] (.nd h (ts.map (ak B))) (t.2.2.aD (ts.map (b7 B)))
 |tit {h:ah}{t:Tn}{as bs:List Tr}{x s y:Tr}{q e:List Int}:nc B h=aa t→(t.2.1.bls.map λx=>x.1)[as.length]? =aa e→Lo B x q s y→Lo B (.nd h (as++x::bs)) (e++q) (t.2.1.aD (as.map (ak B)++s::bs.map (ak B))) (t.2.2.aD (as.map (b7 B)++y::bs.map (b7 B)))
theorem MJ:∀(q:List Int) {L v:Tr},L.br us.length→(L.aD us).at q=aa v→(∃e r n w,q=e++r∧L.at e=aa (.bl n)∧us[n.toNat]? =aa w∧w.at r=aa v)∨ ∃s ls,L.at q=aa (.nd s ls)∧v=(Tr.nd s ls).aD us
 |q, .bl n,v,ft,h=>by
  rw[Tr.br]at ft;have hl:n.toNat<us.length:=by lia
  rw[Tr.aD,bv,aR hl,eI]at h;exact .inl ⟨[],q,n,_,rfl,pC _,aR hl,h⟩
 | [], .nd s ls,v,ft,h=>by
  rw[pC]at h;cases h;exact .inr ⟨s,ls,pC _,rfl⟩
 |i::q, .nd s ls,v,ft,h=>by
  rw[Tr.br]at ft;rw[Tr.aD]at h;obtain⟨w,h0,h1,h2⟩:=pU h;obtain⟨j,rfl⟩:∃j:Nat,i=j:=⟨i.toNat,(ck h0).symm⟩;rw[bb,uW,aT]at h1;cases e:ls[j]? with
  |none=>rw[e]at h1;cases h1
  |some l=>
   rw[e]at h1;cases h1;obtain ⟨e',r,n,w,rfl,g2,g3,g4⟩ |⟨s',ls',g1,g2⟩:=MJ q (wc ft (aJ e)) h2
   ·exact .inl ⟨(j:Int)::e',r,n,w,rfl,by rw[rZ e];exact g2,g3,g4⟩
   ·exact .inr ⟨s',ls',by rw[rZ e];exact g1,g2⟩
theorem FR{P:ah→Prop}:∀{ls:List Tr},oC P ls→l∈ls→l.hb P
 |t::ts,h,m=>by
  rw[oC]at h;obtain rfl |m:=az.mp m
  ·exact h.1
  ·exact FR h.2 m
theorem Na{P:ah→Prop}:∀(q:List Int) {L:Tr}{s:ah}{ls:List Tr},L.hb P→L.at q=aa (.nd s ls)→P s
 | [],L,s,ls,h,e=>by
  rw[pC]at e;cases e;rw[Tr.hb]at h;exact h.1
 |i::q, .bl n,s,ls,h,e=>by cases e
 |i::q, .nd z ts,s,ls,h,e=>by
  obtain⟨w,h0,h1,h2⟩:=pU e;rw[Tr.hb]at h;exact Na q (FR h.2 (aJ h1)) h2
def Ve (F:uY B) {t:Tn}(ht:t∈B) {e:List Int}{n:Int}(h:t.2.1.at e=aa (.bl n)) (ft:t.2.1.br t.2.1.nb):(t.2.1.bls.map λx=>x.1)[n.toNat]? =aa e∧0≤n:=by
 have hm:(e,Tr.bl n)∈t.2.1.bls:=dR.mpr ⟨by have:=BG t.2.1 [] e _ h;simpa using this,rfl⟩;obtain⟨i,hi,ei⟩:=fA hm;have hs:(t.2.1.bls.map λx=>x.1)[i]? =aa e:=by rw[aT,aR hi,ei];rfl
 obtain⟨_,_,_,_,hL⟩:=F.lf t ht;have:=Mt hL hs;rw[h]at this;cases this;exact⟨by rw[bb];exact hs,by lia⟩
noncomputable def qE (R:Tr) (i:Nat):List (List Int):=(R.bls.filter λz=>z.2.num == (i:Int)).map λz=>z.1
mutual
noncomputable def Tr.lou (B:List Tn):Tr→List Int→List (List Int)
 | .bl _,_=>[]
 | .nd s ts,q=>match nc B s with
  |some t=>qZ B t 0 ts q
  |none=>match q with
   | []=>[[]]
   |i::q'=>(um B i.toNat ts q').map (i:: ·)
noncomputable def qZ (B:List Tn) (t:Tn) (i:Nat):List Tr→List Int→List (List Int)
 | [],_=>[]
 |x::xs,q=>(match(t.2.1.bls.map λz=>z.1)[i]? with
  |some e=>if q.take e.length=e then(qE t.2.2 i).flatMap λb=>(x.lou B (q.drop e.length)).map (b++ ·) else []
  |none=>[])++qZ B t (i+1) xs q
noncomputable def um (B:List Tn):Nat→List Tr→List Int→List (List Int)
 |_,[],_=>[]
 |0,x::_,q=>x.lou B q
 |n+1,_::xs,q=>um B n xs q
end
inductive Rn (ws:List ah) (B:List Tn):Nat→Tr→Tr→Prop
 |z {X:Tr}:Rn ws B 0 X X
 |s {n:Nat}{x Z:Tr}:Wy ws B x→Rn ws B n (b7 B x) Z→Rn ws B (n+1) (ak B x) Z
def pY (ws:List ah) (B:List Tn) (X:Tr):Prop:=∀q t us,¬Ou ws B X q t us
theorem Mz:∀{us zs:List Tr},aN (Rn ws B (n+1)) us zs→ ∃xs:List Tr,(∀x∈xs,Wy ws B x)∧us=xs.map (ak B)∧aN (Rn ws B n) (xs.map (b7 B)) zs
 |_,_, .nil=>⟨[],(λ_ h=>nomatch h),rfl, .nil⟩
 |_,_, .cons a b=>by
  obtain⟨xs,h1,h2,h3⟩:=Mz b;cases a with
  | @s _ x Z hx hr=>
   refine⟨x::xs,λy hy=>?_,by rw[aC,←h2], .cons hr h3⟩
   obtain rfl |hy:=az.mp hy
   ·exact hx
   ·exact h1 y hy
theorem J':∀{us zs:List Tr},aN (Rn ws B 0) us zs→us=zs
 |_,_, .nil=>rfl
 |_,_, .cons a b=>by
  cases a;rw[J' b]
def Lz (hh:h∈ws) (e:nc B h=none) (k:∀x∈ts,Wy ws B x):Wy ws B (.nd h ts):=by
 refine⟨?_,?_⟩
 ·rw[Tr.hd,m3];exact⟨.inl hh,λx hx=>(k x hx).hd⟩
 ·rw[Tr.ar,oD];exact⟨(λt ht=>by rw[e]at ht;cases ht),λx hx=>(k x hx).ar⟩
theorem Eb (hh:h∈ws) (e:nc B h=none):∀(n:Nat) {us zs:List Tr},aN (Rn ws B n) us zs→Rn ws B n (.nd h us) (.nd h zs)
 |0,us,zs,p=>by
  rw[J' p];exact .z
 |n+1,us,zs,p=>by
  obtain⟨xs,h1,h2,h3⟩:=Mz p;have:=Eb hh e n h3;have g:b7 B (.nd h xs)= .nd h (xs.map (b7 B)):=by rw[b7,qh e]
  have s:ak B (.nd h xs)= .nd h (xs.map (ak B)):=by rw[ak,qh e]
  rw[h2,←s];rw[←g]at this;exact .s (Lz hh e h1) this
def Rn.snoc (h:Rn ws B n X Y) (hx:Wy ws B x) (e:ak B x=Y):Rn ws B (n+1) X (b7 B x):=by
 induction h with
 |z=>rw[←e];exact .s hx .z
 |s hy _ ih=>exact .s hy (ih e)
def pY.kid{s:ah}{ts:List Tr}{i:Nat}{v:Tr}(h:pY ws B (.nd s ts)) (e:ts[i]? =aa v):pY ws B v:=λq t us o=>h ((i:Int)::q) t us ⟨o.ht,o.hl,by rw[rZ e];exact o.hat,o.sh⟩
theorem pY.at:∀(q:List Int) {X v:Tr},pY ws B X→X.at q=aa v→pY ws B v
 | [],X,v,h,e=>by
  rw[pC]at e;cases e;exact h
 |i::q, .bl n,v,h,e=>by cases e
 |i::q, .nd s ts,v,h,e=>by
  obtain⟨w,h0,h1,h2⟩:=pU e;exact pY.at q (h.kid h1) h2
def pY.op (K:Bk3 ws B) (h:pY ws B X) (hs:Sh ws B X) (p:List Int):X.op B p=[]:=by
 cases e:X.op B p with
 |nil=>rfl
 |cons y ys=>
  obtain⟨q,t,us,_,o⟩:=yu K _ (aA _) hs (y:=y) (by rw[e];exact aL);exact absurd o (h q t us)
def Ez (K:Bk3 ws B) (F:uY B) (h:X.op B []=[]):pY ws B X:=λq t us o=>by
 have:=o.op K F;rw[h]at this;cases this
mutual
theorem Xn:∀(t:Tr) {i:Int},i∈t.nm→ ∃q,t.at q=aa (.bl i)
 | .bl n,i,h=>by
  rw[Tr.nm,bi]at h;subst h;exact⟨[],pC _⟩
 | .nd s ts,i,h=>by
  rw[Tr.nm]at h;obtain⟨j,t,q,h1,h2⟩:=BH ts h;exact⟨(j:Int)::q,by rw[rZ h1];exact h2⟩
theorem BH:∀(ts:List Tr) {i:Int},i∈pT ts→ ∃(j:Nat) (t:Tr) (q:List Int),ts[j]? =aa t∧t.at q=aa (.bl i)
 | [],i,h=>by rw[pT]at h;cases h
 |t::ts,i,h=>by
  rw[pT]at h;obtain z |z:=bn.mp h
  ·obtain⟨q,hq⟩:=Xn t z;exact⟨0,t,q,rfl,hq⟩
  ·obtain⟨j,u,q,h1,h2⟩:=BH ts z;exact⟨j+1,u,q,by rw[bT];exact h1,h2⟩
end
def Ou.head{w0 w1 w2 w3 w4 w5:ah}{tt:List ah}{B:List Tn}{X:Tr}(c:m5 w0 w1 w2 w3 w4 w5 tt B) (ht:t∈B) (e:Tr.nd s ts=t.2.1.aD us):nc (hk w0 w1) s≠none:=by
 obtain⟨h,ls,u,eL,eh,_⟩:=(c.lh ht).ex;rw[eL,Tr.aD]at e;cases e;rw[eh];exact λz=>nomatch z
def Dr.rst_fill (d:Dr w0 w1 w2 w3 w4 w5 tt B) (ht:t∈B) (hl:us.length=t.2.1.nb) (hu:∀u∈us,pY [w0,w1,w2,w3,w4,w5] B u):pY [w0,w1,w2,w3,w4,w5] B (t.2.2.aD us):=λq v vs o=>by
 rcases MJ q (by rw[hl];exact(d.c.K.b.ri t ht).br) o.hat with⟨e,r,n,w,rfl,g2,g3,g4⟩ |⟨s',ls',g1,g2⟩
 ·exact hu w (aJ g3) r v vs ⟨o.ht,o.hl,g4,o.sh⟩
 ·rw[Tr.aD]at g2;exact Ou.head (X:= .bl 0) d.c o.ht g2.symm (Na q (d.no ht) g1)
theorem Dr.nest (d:Dr w0 w1 w2 w3 w4 w5 tt B):∀(w n:Nat) {X:Tr},X.aq≤w→Sh [w0,w1,w2,w3,w4,w5] B X→X.hn (hk w0 w1)≤n→ ∃Z,Rn [w0,w1,w2,w3,w4,w5] B n X Z∧Sh [w0,w1,w2,w3,w4,w5] B Z∧pY [w0,w1,w2,w3,w4,w5] B Z
 |0,n,X,hw,hX,hn=>by have:=rQ X;lia
 |w+1,n,X,hw,hX,hn=>by
  have K:=d.c.K;obtain⟨s,ts,rfl,hs,e,k⟩:=hX.cases K;rw[Tr.aq]at hw;have dI:∀m,hns (hk w0 w1) ts≤m→ ∃zs,aN (Rn [w0,w1,w2,w3,w4,w5] B m) ts zs∧ ∀z∈zs,Sh [w0,w1,w2,w3,w4,w5] B z∧pY [w0,w1,w2,w3,w4,w5] B z:=λm hm=>by
   have go:∀us:List Tr,(∀u∈us,u∈ts)→ ∃zs,aN (Rn [w0,w1,w2,w3,w4,w5] B m) us zs∧ ∀z∈zs,Sh [w0,w1,w2,w3,w4,w5] B z∧pY [w0,w1,w2,w3,w4,w5] B z:=λus=>by
    induction us with
    |nil=>exact λ_=>⟨[], .nil,(λ_ h=>nomatch h)⟩
    |cons u us ih=>
     intro h;obtain⟨zs,h1,h2⟩:=ih λv hv=>h v (aI _ hv);have hu:=h u aL;obtain⟨z,g1,g2,g3⟩:=Dr.nest d w m (X:=u) (by have:=pk hu;lia) (k u hu) (by have:=D7 (H:=hk w0 w1) hu;lia);refine⟨z::zs, .cons g1 h1,λy hy=>?_⟩;obtain rfl |hy:=az.mp hy
     ·exact⟨g2,g3⟩
     ·exact h2 y hy
   exact go ts λ_ h=>h
  have shz:∀zs:List Tr,(∀z∈zs,Sh [w0,w1,w2,w3,w4,w5] B z∧pY [w0,w1,w2,w3,w4,w5] B z)→Sh [w0,w1,w2,w3,w4,w5] B (.nd s zs):=λzs h=>⟨Lz hs e λz hz=>(h z hz).1.wy,by
   rw[ak,qh e,Bu K λz hz=>(h z hz).1]⟩
  have deep:∀zs:List Tr,(∀z∈zs,Sh [w0,w1,w2,w3,w4,w5] B z∧pY [w0,w1,w2,w3,w4,w5] B z)→ ∀i q t us,¬Ou [w0,w1,w2,w3,w4,w5] B (.nd s zs) (i::q) t us:=λzs h i q t us o=>by
   obtain⟨v,_,h1,h2⟩:=pU o.hat;exact(h v (aJ h1)).2 q t us ⟨o.ht,o.hl,h2,o.sh⟩
  cases eh:nc (hk w0 w1) s with
  |none=>
   rw[Ff eh]at hn;obtain⟨zs,h1,h2⟩:=dI n hn;refine⟨.nd s zs,Eb hs e n h1,shz zs h2,λq t us o=>?_⟩;cases q with
   |nil=>
    have:=o.hat;rw[pC]at this;exact Ou.head (X:= .bl 0) d.c o.ht (aK this) eh
   |cons i q=>exact deep zs h2 i q t us o
  |some th=>
   rw[Of eh]at hn;obtain⟨n,rfl⟩:∃n',n=n'+1:=⟨n - 1,by lia⟩
   obtain⟨zs,h1,h2⟩:=dI n (by lia);have r1:=Eb hs e n h1;have s1:=shz zs h2;by_cases ho:∃t us,Ou [w0,w1,w2,w3,w4,w5] B (.nd s zs) [] t us
   ·obtain⟨t,us,o⟩:=ho;have e1:=o.ak K s1;have e2:=o.b7 K s1;have e3:toO (.nd s zs) [] t us=t.2.2.aD us:=by unfold toO;rw[tz]
    rw[e3]at e2;have ha:=o.hat;rw[pC]at ha;have ha:=aK ha;refine⟨t.2.2.aD us,by rw[←e2];exact r1.snoc (o.wy K s1) e1,by rw[←e3];exact o.to K s1,d.rst_fill o.ht o.hl λu hu=>?_⟩
    obtain⟨i,hi,ei⟩:=fA hu;obtain⟨z,ls,v,eL,_,_,_,_,_,nm⟩:=(d.c.lh o.ht).ex;obtain⟨j,l,q,g1,g2⟩:=BH ls (nm i (by rw[←o.hl];exact hi));have fl:=(K.b.lf t o.ht).br;rw[eL,Tr.br]at fl;rw[eL,Tr.aD]at ha;cases ha;have g3:(aF us ls)[j]? =aa (l.aD us):=by rw[uW,aT,g1];rfl
    have g4:(l.aD us).at q=aa u:=by
     rw[xo q g2 (by rw[o.hl,eL];exact wc fl (aJ g1)),bb,aR hi,ei]
    exact pY.at q (h2 _ (aJ g3)).2 g4
   ·refine⟨.nd s zs,?_,s1,λq t us o=>?_⟩
    ·have:=r1.snoc s1.wy s1.q;rw[show b7 B (.nd s zs)= .nd s zs from s1.mkq K _]at this;exact this
    ·cases q with
     |nil=>exact ho ⟨t,us,o⟩
     |cons i q=>exact deep zs h2 i q t us o
def Rn.strip (K:Bk3 ws B) (h:Rn ws B m t Y):∀{x:Tr},Wy ws B x→ak B x=t→ ∃y,Wy ws B y∧ak B y=Y∧ ∃m',Rn ws B m' (b7 B x) (b7 B y):=by
 induction h with
 |z=>exact λ{x} hx e=>⟨x,hx,e,0, .z⟩
 | @s n z Z hz _ ih=>
  intro x hx e;have m1:=K.moved hx hz e;have m2:=K.moved hz hx e.symm;obtain⟨y,h1,h2,m',h3⟩:=ih m1.wy m1.sr;refine⟨y,h1,h2,m'+1,?_⟩;rw[←m2.sr];refine .s m2.wy ?_;rw[m2.go];exact h3
def m5.stay (c:m5 w0 w1 w2 w3 w4 w5 tt B) (hy:Wy [w0,w1,w2,w3,w4,w5] B y) (h:pY [w0,w1,w2,w3,w4,w5] B (ak B y)):y=ak B y∧b7 B y=ak B y:=by
 have hs:Sh [w0,w1,w2,w3,w4,w5] B (ak B y):=⟨(c.K.ak hy).1,(c.K.ak hy).2.1⟩;have q:=EH c _ y [] (aA _) hy (h.op c.K hs []);have e1:=rV (g:=λt=>t.2.1) c.K.b.ti y q;have e2:=rV (g:=λt=>t.2.2) c.K.b.ti y q;exact⟨e1.symm,e2.trans e1.symm⟩
def m5.stays (c:m5 w0 w1 w2 w3 w4 w5 tt B) (h:Rn [w0,w1,w2,w3,w4,w5] B n X Y):pY [w0,w1,w2,w3,w4,w5] B X→Y=X:=by
 induction h with
 |z=>exact λ_=>rfl
 | @s n x Z hx _ ih=>
  intro r;have e:=(c.stay hx r).2;rw[e]at ih;exact ih r
def m5.catch (c:m5 w0 w1 w2 w3 w4 w5 tt B) (hX:Sh [w0,w1,w2,w3,w4,w5] B X):∀{n:Nat}{t Z:Tr},Rn [w0,w1,w2,w3,w4,w5] B n t Z→ ∀i,(∃m,Rn [w0,w1,w2,w3,w4,w5] B m t (hh [w0,w1,w2,w3,w4,w5] B X i))→ ∃m,Rn [w0,w1,w2,w3,w4,w5] B m Z (hh [w0,w1,w2,w3,w4,w5] B X (i+n)):=by
 intro n t Z h
 induction h with
 |z=>exact λi h=>h
 | @s n x _ hx hr ih=>
  rintro i ⟨m,h⟩;obtain⟨y,h1,h2,m',h3⟩:=h.strip c.K hx rfl;have hs:=zL c.b c.G c.K hX i;have f:=xT c.b c.G c.K hs;have m1:=c.K.moved f.wy h1 (by rw[f.sr,h2]);have e:=YM c hs h1 h2;have g:b7 B (res B (fw [w0,w1,w2,w3,w4,w5] B (hh [w0,w1,w2,w3,w4,w5] B X i)) y)=hh [w0,w1,w2,w3,w4,w5] B X (i+1):=by
   rw[m1.go,e];exact(zL c.b c.G c.K hX (i+1)).mkq c.K _
  have r2:=Rn.snoc h3 m1.wy m1.sr;rw[g]at r2;have:=ih (i+1) ⟨_,r2⟩;rw[show i+(n+1)=i+1+n by lia]
  exact this
def m5.rest (c:m5 w0 w1 w2 w3 w4 w5 tt B) (hX:Sh [w0,w1,w2,w3,w4,w5] B X) (h:Rn [w0,w1,w2,w3,w4,w5] B n X Z) (r:pY [w0,w1,w2,w3,w4,w5] B Z):hh [w0,w1,w2,w3,w4,w5] B X n=Z:=by
 obtain⟨m,h1⟩:=c.catch hX h 0 ⟨0, .z⟩;rw[bF]at h1;exact c.stays h1 r
def Dr.rest (d:Dr w0 w1 w2 w3 w4 w5 tt B) (hX:Sh [w0,w1,w2,w3,w4,w5] B X) (hn:X.hn (hk w0 w1)≤n):(hh [w0,w1,w2,w3,w4,w5] B X n).op B []=[]:=by
 obtain⟨Z,h1,h2,h3⟩:=d.nest _ n (aA _) hX hn;rw[d.c.rest hX h1 h3];exact h3.op d.c.K h2 []
inductive Up (B:List Tn):Tr→List Int→Prop
 |here {h:ah}{ts:List Tr}{t:Tn}:nc B h=aa t→Up B (.nd h ts) []
 |sgn {h:ah}{ts:List Tr}{i:Nat}{x:Tr}{q:List Int}:nc B h=none→ts[i]? =aa x→Up B x q→Up B (.nd h ts) ((i:Int)::q)
 |tit {h:ah}{ts:List Tr}{t:Tn}{i:Nat}{x:Tr}{e q:List Int}:nc B h=aa t→t.2.1.at e=aa (.bl (i:Int))→ts[i]? =aa x→Up B x q→Up B (.nd h ts) (e++q)
def vp (B:List Tn) (L:Tr) (us:List Tr) (q:List Int):Prop:=∃(e:List Int) (i:Nat) (u:Tr) (r:List Int),L.at e=aa (.bl (i:Int))∧us[i]? =aa u∧Up B u r∧q=e++r
def yY (e:nc B h=none):Up B (.nd h ts) q↔ ∃(i:Nat) (x:Tr) (r:List Int),ts[i]? =aa x∧Up B x r∧q=(i:Int)::r:=by
 constructor
 ·intro u;cases u with
  |here e'=>rw[e]at e';cases e'
  |sgn _ h1 h2=>exact⟨_,_,_,h1,h2,rfl⟩
  |tit e'=>rw[e]at e';cases e'
 ·rintro⟨i,x,r,h1,h2,rfl⟩;exact .sgn e h1 h2
def wH (e:nc B h=aa t):Up B (.nd h ts) q↔q=[]∨vp B t.2.1 ts q:=by
 constructor
 ·intro u;cases u with
  |here _=>exact .inl rfl
  |sgn e'=>rw[e]at e';cases e'
  |tit e' h1 h2 h3=>rw[e]at e';cases e';exact .inr ⟨_,_,_,_,h1,h2,h3,rfl⟩
 ·rintro(rfl |⟨e',i,u,r,h1,h2,h3,rfl⟩)
  ·exact .here e
  ·exact .tit e h1 h2 h3
mutual
theorem wA (hB:∀t∈B,p5 t.1):∀(R:Tr) (q:List Int),R.hb ox→R.br us.length→(Up B (R.aD us) q↔vp B R us q)
 | .bl n,q,h,ft=>by
  rw[Tr.br]at ft;have hl:n.toNat<us.length:=by lia
  obtain⟨k,rfl⟩:∃k:Nat,n=k:=⟨n.toNat,by lia⟩
  rw[bb]at hl;rw[Tr.aD,bb,bv,aR hl,eI];constructor
  ·exact λu=>⟨[],k,_,q,pC _,aR hl,u,rfl⟩
  ·rintro⟨e,i,u,r,h1,h2,h3,rfl⟩;cases e with
   |nil=>
    rw[pC]at h1;have:(k:Int)=i:=by simpa using h1
    have:k=i:=by lia
    subst this;rw[aR hl]at h2;cases h2;exact h3
   |cons j e=>cases h1
 | .nd s ts,q,h,ft=>by
  rw[Tr.br]at ft;rw[Tr.hb]at h;have e:=qc hB h.1;rw[Tr.aD,yY e];constructor
  ·rintro⟨i,x,r,h1,h2,rfl⟩;obtain⟨l,e1,e2,h3⟩:=(Ew hB ts h.2 ft i x h1).1;subst e2;obtain⟨e',j,u,r',g1,g2,g3,rfl⟩:=(h3 r).mp h2;exact⟨(i:Int)::e',j,u,r',by rw[rZ e1];exact g1,g2,g3,rfl⟩
  ·rintro⟨e',j,u,r,h1,h2,h3,rfl⟩;cases e' with
   |nil=>rw[pC]at h1;cases h1
   |cons i e'=>
    obtain⟨l,h0,g1,g2⟩:=pU h1;obtain⟨i,rfl⟩:∃i':Nat,i=i':=⟨i.toNat,by lia⟩
    rw[bb]at g1;have g3:(aF us ts)[i]? =aa (l.aD us):=by rw[uW,aT,g1];rfl
    obtain⟨l',e1,e2,h4⟩:=(Ew hB ts h.2 ft i _ g3).1;rw[g1]at e1;cases e1;exact⟨i,_,e'++r,g3,(h4 _).mpr ⟨e',j,u,r,g2,h2,h3,rfl⟩,rfl⟩
theorem Ew (hB:∀t∈B,p5 t.1):∀(ts:List Tr),oC ox ts→m7 us.length ts→ ∀(i:Nat) (x:Tr),(aF us ts)[i]? =aa x→(∃l,ts[i]? =aa l∧x=l.aD us∧ ∀r,(Up B (l.aD us) r↔vp B l us r))∧True
 | [],h,ft,i,x,hx=>by rw[aF]at hx;cases hx
 |t::ts,h,ft,0,x,hx=>by
  rw[m7]at ft;rw[oC]at h;rw[aF]at hx;cases hx;exact⟨⟨t,rfl,rfl,λr=>wA hB t r h.1 ft.1⟩,trivial⟩
 |t::ts,h,ft,i+1,x,hx=>by
  rw[m7]at ft;rw[oC]at h;rw[aF,bT]at hx;obtain⟨⟨l,h1,h2,h3⟩,_⟩:=Ew hB ts h.2 ft.2 i x hx;exact⟨⟨l,by rw[bT];exact h1,h2,h3⟩,trivial⟩
end
def B' (e:nc B h=none):(Tr.nd h ts).lou B []=[[]]:=by rw[Tr.lou,e]
def yS (e:nc B h=aa t):(Tr.nd h ts).lou B q=qZ B t 0 ts q:=by
 rw[Tr.lou.eq_def];dsimp only;rw[e]
theorem JH:∀{ts:List Tr}{i:Nat}{x:Tr}{q:List Int},ts[i]? =aa x→um B i ts q=x.lou B q
 |x::ts,0,y,q,h=>by cases h;rw[um]
 |x::ts,i+1,y,q,h=>by
  rw[bT]at h;rw[um];exact JH h
def vP{h:ah}{ts:List Tr}{i:Nat}{x:Tr}{q:List Int}(e:nc B h=none) (hx:ts[i]? =aa x):(Tr.nd h ts).lou B ((i:Int)::q)=(x.lou B q).map ((i:Int):: ·):=by
 rw[Tr.lou,e];dsimp only;rw[bb,JH hx]
theorem Ek (hB:∀t∈B,p5 t.1) {us:List Tr}:∀(b:List Int) {R u:Tr}{i:Nat}{r:List Int},R.hb ox→R.at b=aa (.bl (i:Int))→us[i]? =aa u→(R.aD us).lou B (b++r)=(u.lou B r).map (b++ ·)
 | [],R,u,i,r,h,e,hu=>by
  rw[pC]at e;cases e;rw[Tr.aD,bb,bv,hu];simp
 |j::b, .bl n,u,i,r,h,e,hu=>by cases e
 |j::b, .nd s ts,u,i,r,h,e,hu=>by
  obtain⟨l,h0,h1,h2⟩:=pU e;obtain⟨j,rfl⟩:∃j':Nat,j=j':=⟨j.toNat,by lia⟩
  rw[bb]at h1;rw[Tr.hb]at h;have g3:(aF us ts)[j]? =aa (l.aD us):=by rw[uW,aT,h1];rfl
  rw[Tr.aD,cg,vP (qc hB h.1) g3,Ek hB b (FR h.2 (aJ h1)) h2 hu,bu];rfl
theorem Cr:∀{xs:List Tr}{i:Nat},q'∈qZ B t i xs q↔ ∃(j:Nat) (x:Tr) (e b r':List Int),xs[j]? =aa x∧(t.2.1.bls.map λz=>z.1)[i+j]? =aa e∧q.take e.length=e∧b∈qE t.2.2 (i+j)∧r'∈x.lou B (q.drop e.length)∧q'=b++r'
 | [],i=>by
  rw[qZ];constructor
  ·intro h;cases h
  ·rintro⟨j,x,e,b,r',h1,_⟩;cases h1
 |y::xs,i=>by
  rw[qZ,bn,Cr (xs:=xs) (i:=i+1)];constructor
  ·rintro(h |⟨j,x,e,b,r',h1,h2,h3⟩)
   ·cases he:(t.2.1.bls.map λz=>z.1)[i]? with
    |none=>rw[he]at h;cases h
    |some e=>
     rw[he]at h;dsimp only at h;split at h
     ·rename_i hq;obtain⟨b,hb,h⟩:=d9.mp h;obtain⟨r',hr,rfl⟩:=aV.mp h;exact⟨0,y,e,b,r',rfl,he,hq,hb,hr,rfl⟩
     ·cases h
   ·exact⟨j+1,x,e,b,r',by rw[bT];exact h1,by rw[←h2];congr 1;lia,by rw[show i+(j+1)=i+1+j by lia];exact h3⟩
  ·rintro⟨j,x,e,b,r',h1,h2,h3,h4,h5,rfl⟩;cases j with
   |zero=>
    cases h1;refine .inl ?_;rw[dy]at h2 h4;rw[h2];dsimp only;rw[if_pos h3];exact d9.mpr ⟨b,h4,aV.mpr ⟨r',h5,rfl⟩⟩
   |succ j=>
    rw[bT]at h1;exact .inr ⟨j,x,e,b,r',h1,by rw[←h2];congr 1;lia,h3,by rw[show i+1+j=i+(j+1) by lia];exact h4,h5,rfl⟩
def pX:b∈qE R i↔R.at b=aa (.bl (i:Int)):=by
 unfold qE;rw[aV];constructor
 ·rintro⟨⟨p,v⟩,h,rfl⟩;obtain⟨h1,h2⟩:=dR.mp h;obtain⟨h3,h4⟩:=dR.mp h1;obtain⟨r,e1,e2,_⟩:=xx R [] _ _ h3;simp at e1;subst e1;cases v with
  |nd s ts=>cases h4
  |bl n=>
   have:n=i:=by simpa [Tr.num]using h2
   subst this;exact e2
 ·intro h;refine⟨(b, .bl i),dR.mpr ⟨dR.mpr ⟨by have:=BG R [] b _ h;simpa using this,rfl⟩,?_⟩,rfl⟩;simp [Tr.num]
theorem G_:∀(e e':List Int) {t:Tr}{n n':Int}{r:List Int},t.at e=aa (.bl n)→t.at e'=aa (.bl n')→(e++r).take e'.length=e'→e'=e
 | [],e',t,n,n',r,h,h',hr=>by
  rw[pC]at h;cases h;cases e' with
  |nil=>rfl
  |cons i e'=>cases h'
 |i::e,[],t,n,n',r,h,h',hr=>by
  rw[pC]at h';cases h';cases h
 |i::e,i'::e', .bl m,n,n',r,h,h',hr=>by cases h
 |i::e,i'::e', .nd s ts,n,n',r,h,h',hr=>by
  rw[cg,aU,ml]at hr;simp only[fG]at hr;obtain⟨rfl,hr⟩:=hr;obtain⟨l,h0,h1,h2⟩:=pU h;obtain⟨l',_,h1',h2'⟩:=pU h';rw[h1]at h1';cases h1';rw[G_ e e' h2 h2' hr]
def m5.F (c:m5 w0 w1 w2 w3 w4 w5 tt B):uY B:=c.b.lfs c.G
def m5.bl (c:m5 w0 w1 w2 w3 w4 w5 tt B) {t:Tn}(ht:t∈B) {e:List Int}{i:Nat}:t.2.1.at e=aa (.bl (i:Int))↔(t.2.1.bls.map λz=>z.1)[i]? =aa e:=by
 constructor
 ·intro h;have:=(Ve c.F ht h (c.bk.lf t ht).br).1;rwa [bb]at this
 ·intro h;obtain⟨_,_,_,_,hL⟩:=c.F.lf t ht;exact Mt hL h
def m5.bl_ex (c:m5 w0 w1 w2 w3 w4 w5 tt B) (ht:t∈B) (hi:i<t.2.1.nb):∃e,t.2.1.at e=aa (.bl (i:Int)):=by
 obtain⟨h,ls,u,eL,_,_,_,_,_,nm⟩:=(c.lh ht).ex;obtain⟨j,l,q,g1,g2⟩:=BH ls (nm i hi);exact⟨(j:Int)::q,by rw[eL,rZ g1];exact g2⟩
def m5.lou_tit (c:m5 w0 w1 w2 w3 w4 w5 tt B) {t:Tn}(ht:t∈B) {xs:List Tr}{i:Nat}{x:Tr}{e r q':List Int}(he:t.2.1.at e=aa (.bl (i:Int))) (hx:xs[i]? =aa x):q'∈(Tr.nd t.1 xs).lou B (e++r)↔ ∃b r',t.2.2.at b=aa (.bl (i:Int))∧r'∈x.lou B r∧q'=b++r':=by
 rw[yS (rg c.K.b.nd ht),Cr];constructor
 ·rintro⟨j,y,e',b,r',h1,h2,h3,h4,h5,rfl⟩;rw[bF]at h2 h4;have g:=(c.bl ht).mpr h2;have:=G_ e e' he g h3;subst this;rw[he]at g;have:(i:Int)=j:=by simpa using g
  have:i=j:=by lia
  subst this;rw[hx]at h1;cases h1;rw[lG]at h5;exact⟨b,r',pX.mp h4,h5,rfl⟩
 ·rintro⟨b,r',h1,h2,rfl⟩;exact⟨i,x,e,b,r',hx,by rw[bF];exact(c.bl ht).mp he,by simp,by rw[bF];exact pX.mpr h1,by rw[lG];exact h2,rfl⟩
def m5.lou_top (c:m5 w0 w1 w2 w3 w4 w5 tt B) {t:Tn}(ht:t∈B) {xs:List Tr}{q':List Int}:¬q'∈(Tr.nd t.1 xs).lou B []:=λh=>by
 rw[yS (rg c.K.b.nd ht),Cr]at h;obtain⟨j,y,e',b,r',h1,h2,h3,_⟩:=h;have g:=(c.bl ht).mpr h2;have:e'=[]:=by rw[←h3];simp
 subst this;rw[pC]at g;obtain⟨h,ls,u,eL,_⟩:=(c.lh ht).ex;rw[eL]at g;cases g
def zT{p:Pl}{ps:List Pl}{i:Nat}{u:Tr}{f:Pl→Tr}(h:(ps.map f)[i]? =aa u):∃p,ps[i]? =aa p∧u=f p:=by
 rw[aT]at h;cases e:ps[i]? with
 |none=>rw[e]at h;cases h
 |some p=>rw[e]at h;cases h;exact⟨p,rfl,rfl⟩
def m5.up_ev (c:m5 w0 w1 w2 w3 w4 w5 tt B) {f g:Int→Nat}(hc:∀x:Int,0≤x→x<8→f x≤1∧g x≤1) {p:Pl}(h:nI [w0,w1,w2,w3,w4,w5] B p):∀q',Up B (p.ev B (pK f g)) q'↔ ∃q,Up B (p.ev B f) q∧q'∈(p.ev B g).lou B q:=by
 have ti:=c.K.b.ti
 induction h with
 | @sign b' h ps hh hp ih=>
  intro q';have e:=qc ti (c.K.b.sg h hh);rw[qb,qb,qb,yY e];constructor
  ·rintro⟨i,x,r,h1,h2,rfl⟩;obtain⟨p,ep,rfl⟩:=zT (p:= .nd 0 0 h []) h1;obtain⟨q,g1,g2⟩:=(ih p (aJ ep) r).mp h2;refine⟨(i:Int)::q,(yY e).mpr ⟨i,_,q,by rw[aT,ep];rfl,g1,rfl⟩,?_⟩
   rw[vP e (show(ps.map (Pl.ev B g))[i]? =aa (p.ev B g) by rw[aT,ep];rfl)]
   exact aV.mpr ⟨r,g2,rfl⟩
  ·rintro⟨q,h1,h2⟩;obtain⟨i,x,r,h4,h3,rfl⟩:=(yY e).mp h1;obtain⟨p,ep,rfl⟩:=zT (p:= .nd 0 0 h []) h4;rw[vP e (show(ps.map (Pl.ev B g))[i]? =aa (p.ev B g) by rw[aT,ep];rfl)]at h2
   obtain⟨r',g1,rfl⟩:=aV.mp h2;exact⟨i,p.ev B (pK f g),r',by rw[aT,ep];rfl,(ih p (aJ ep) r').mpr ⟨r,h3,g1⟩,rfl⟩
 | @turn k b' h ps t e hl b0 b1 hp ih=>
  intro q';have ht:t∈B:=aJ e;have et:=rg c.K.b.nd ht;obtain⟨f1,g1⟩:=hc b' b0 b1;have len:∀z:Int→Nat,(ps.map (Pl.ev B z)).length=t.2.1.nb:=λz=>by rw[ay,hl]
  have sL:=(c.K.b.lf t ht).hb;have fL:∀z:Int→Nat,t.2.1.br (ps.map (Pl.ev B z)).length:=λz=>by rw[len];exact(c.K.b.lf t ht).br
  have sR:t.2.2.hb ox:=(c.K.b.ri t ht).hb c.K.b.sg;have fR:∀z:Int→Nat,t.2.2.br (ps.map (Pl.ev B z)).length:=λz=>by rw[len];exact(c.K.b.ri t ht).br
  have at':∀(z:Int→Nat) {i:Nat}{p:Pl},ps[i]? =aa p→(ps.map (Pl.ev B z))[i]? =aa (p.ev B z):=λz i p ep=>by rw[aT,ep];rfl
  have lower:∀q,vp B t.2.1 (ps.map (Pl.ev B f)) q→ ∃(e:List Int) (i:Nat) (p:Pl) (r:List Int),t.2.1.at e=aa (.bl (i:Int))∧ps[i]? =aa p∧Up B (p.ev B f) r∧q=e++r:=λq ⟨e,i,u,r,h1,h2,h3,h4⟩=>by
   obtain⟨p,ep,rfl⟩:=zT (p:= .nd 0 0 h []) h2;exact⟨e,i,p,r,h1,ep,h3,h4⟩
  rw[pZ e,pZ e,pZ e];have fz:f b'=0∨f b'=1:=by lia
  have gz:g b'=0∨g b'=1:=by lia
  obtain gz |gz:=gz
  ·-- the other has no use here
   have pz:pK f g b'=f b':=by unfold pK;rw[if_neg (by lia)]
   have ex:q_ t (g b') (ps.map (Pl.ev B g))=t.2.1.aD (ps.map (Pl.ev B g)):=by rw[gz];rfl
   have below:vp B t.2.1 (ps.map (Pl.ev B (pK f g))) q'↔ ∃q,vp B t.2.1 (ps.map (Pl.ev B f)) q∧q'∈(t.2.1.aD (ps.map (Pl.ev B g))).lou B q:=by
    constructor
    ·rintro⟨e',i,u,r,h1,h2,h3,rfl⟩;obtain⟨p,ep,rfl⟩:=zT (p:= .nd 0 0 h []) h2;obtain⟨q,k1,k2⟩:=(ih p (aJ ep) r).mp h3;refine⟨e'++q,⟨e',i,_,q,h1,at' f ep,k1,rfl⟩,?_⟩;rw[Ek ti e' sL h1 (at' g ep)];exact aV.mpr ⟨r,k2,rfl⟩
    ·rintro⟨q,hq,h2⟩;obtain⟨e',i,p,r,h1,ep,h3,rfl⟩:=lower q hq;rw[Ek ti e' sL h1 (at' g ep)]at h2;obtain⟨r',k1,rfl⟩:=aV.mp h2;exact⟨e',i,_,r',h1,at' _ ep,(ih p (aJ ep) r').mpr ⟨r,h3,k1⟩,rfl⟩
   rw[pz,ex];obtain fz |fz:=fz
   ·rw[fz];show Up B (t.2.1.aD (ps.map (Pl.ev B (pK f g)))) q'↔ ∃q,Up B (t.2.1.aD (ps.map (Pl.ev B f))) q∧_;rw[wA ti _ _ sL (fL _),below];constructor
    ·rintro⟨q,h1,h2⟩;exact⟨q,(wA ti _ _ sL (fL _)).mpr h1,h2⟩
    ·rintro⟨q,h1,h2⟩;exact⟨q,(wA ti _ _ sL (fL _)).mp h1,h2⟩
   ·rw[fz];show Up B (.nd t.1 (ps.map (Pl.ev B (pK f g)))) q'↔ ∃q,Up B (.nd t.1 (ps.map (Pl.ev B f))) q∧_;obtain⟨z,ls,u,eL,_⟩:=(c.lh ht).ex;have top:(t.2.1.aD (ps.map (Pl.ev B g))).lou B []=[[]]:=by
     rw[eL,Tr.hb]at sL;rw[eL,Tr.aD,B' (qc ti sL.1)]
    rw[wH et,below];constructor
    ·rintro(rfl |⟨q,h1,h2⟩)
     ·exact⟨[], .here et,by rw[top];exact bi.mpr rfl⟩
     ·exact⟨q,(wH et).mpr (.inr h1),h2⟩
    ·rintro⟨q,h1,h2⟩;rcases(wH et).mp h1 with rfl |h1
     ·rw[top]at h2;exact .inl (bi.mp h2)
     ·exact .inr ⟨q,h1,h2⟩
  ·-- the other has it
   have pz:pK f g b'=2:=by unfold pK;rw[if_pos gz]
   have ex:q_ t (g b') (ps.map (Pl.ev B g))= .nd t.1 (ps.map (Pl.ev B g)):=by rw[gz];rfl
   rw[pz,ex];show Up B (t.2.2.aD (ps.map (Pl.ev B (pK f g)))) q'↔_;rw[wA ti _ _ sR (fR _)];have below:vp B t.2.2 (ps.map (Pl.ev B (pK f g))) q'↔ ∃q,vp B t.2.1 (ps.map (Pl.ev B f)) q∧q'∈(Tr.nd t.1 (ps.map (Pl.ev B g))).lou B q:=by
    constructor
    ·rintro⟨b,i,u,r,h1,h2,h3,rfl⟩;obtain⟨p,ep,rfl⟩:=zT (p:= .nd 0 0 h []) h2;obtain⟨q,k1,k2⟩:=(ih p (aJ ep) r).mp h3;obtain⟨e',he'⟩:=c.bl_ex ht (i:=i) (by rw[←hl];exact(b6.mp ep).1);exact⟨e'++q,⟨e',i,_,q,he',at' f ep,k1,rfl⟩,(c.lou_tit ht he' (at' g ep)).mpr ⟨b,r,h1,k2,rfl⟩⟩
    ·rintro⟨q,hq,h2⟩;obtain⟨e',i,p,r,h1,ep,h3,rfl⟩:=lower q hq;obtain⟨b,r',k1,k2,rfl⟩:=(c.lou_tit ht h1 (at' g ep)).mp h2;exact⟨b,i,_,r',k1,at' _ ep,(ih p (aJ ep) r').mpr ⟨r,h3,k2⟩,rfl⟩
   rw[below];obtain fz |fz:=fz
   ·rw[fz];show _↔ ∃q,Up B (t.2.1.aD (ps.map (Pl.ev B f))) q∧_;constructor
    ·rintro⟨q,h1,h2⟩;exact⟨q,(wA ti _ _ sL (fL _)).mpr h1,h2⟩
    ·rintro⟨q,h1,h2⟩;exact⟨q,(wA ti _ _ sL (fL _)).mp h1,h2⟩
   ·rw[fz];show _↔ ∃q,Up B (.nd t.1 (ps.map (Pl.ev B f))) q∧_;constructor
    ·rintro⟨q,h1,h2⟩;exact⟨q,(wH et).mpr (.inr h1),h2⟩
    ·rintro⟨q,h1,h2⟩;rcases(wH et).mp h1 with rfl |h1
     ·exact absurd h2 (c.lou_top ht)
     ·exact⟨q,h1,h2⟩
def m5.up_res (c:m5 w0 w1 w2 w3 w4 w5 tt B) (hs:Wy [w0,w1,w2,w3,w4,w5] B s) (hx:Wy [w0,w1,w2,w3,w4,w5] B x) (e:ak B s=ak B x) (q':List Int):Up B (res B s x) q'↔ ∃q,Up B s q∧q'∈x.lou B q:=by
 obtain⟨p,hp,rfl,rfl,_⟩:=FP c.K hs hx e;have m:=AG (c:=nK 1) (d:=nK 2) c.K.b c.K.O.mt (yI (tj 1) (tj 2)) hp;rw[m.res];refine c.up_ev (λz z0 z1=>?_) hp q';obtain h |h:=yI (tj 1) (tj 2) z z0 z1
 ·exact h
 ·have:=tj 1 z;lia
theorem KR{α:Type}{P Q R:α→Bool}:∀(l:List α),(∀x,P x=true→R x=true∧Q x=false)→(∀x,Q x=true→R x=true)→(l.filter P).length+(l.filter Q).length≤(l.filter R).length
 | [],_,_=>by simp
 |x::l,h1,h2=>by
  have:=KR l h1 h2;have a:=h1 x;have b:=h2 x;cases ep:P x<;>cases eq:Q x<;>cases er:R x<;>simp [eS,ep,eq,er]at a b⊢ <;>lia
def BW (h:nc B s=none):(Tr.nd s ts).ne B=oy B ts:=by rw[Tr.ne,h];simp
def C9 (h:nc B s=aa t):(Tr.nd s ts).ne B=1+oy B ts:=by rw[Tr.ne,h]
mutual
theorem wG (hR:∀t∈B,t.2.2.bls.length≤7):∀(x:Tr) (q:List Int),(x.lou B q).length≤7 ^ x.ne B
 | .bl n,q=>by rw[Tr.lou];exact aQ _
 | .nd s ts,q=>by
  cases e:nc B s with
  |some t=>
   have ht:t∈B:=bX e;rw[yS e,C9 e];have h1:=Ig hR t ts 0 q;have h2:(t.2.2.bls.filter λz=>decide (((0:Nat):Int)≤z.2.num)).length≤7:=aY (gE _ _) (hR t ht);rw[gT,Nat.pow_one];exact aY h1 (dA _ h2)
  |none=>
   rw[BW e,Tr.lou.eq_def];dsimp only;rw[e];cases q with
   |nil=>exact kf _ _ (by decide)
   |cons i q=>
    dsimp only;rw[ay];exact LO hR ts i.toNat q
theorem Ig (hR:∀t∈B,t.2.2.bls.length≤7):∀(t:Tn) (xs:List Tr) (i:Nat) (q:List Int),(qZ B t i xs q).length≤(t.2.2.bls.filter λz=>decide ((i:Int)≤z.2.num)).length*7 ^ oy B xs
 |t,[],i,q=>by rw[qZ];exact aQ _
 |t,x::xs,i,q=>by
  have h1:=Ig hR t xs (i+1) q;have h3:∀r,(x.lou B r).length≤7 ^ oy B (x::xs):=λr=>aY (wG hR x r) (dg (by decide) (by rw[oy];lia));have h4:7 ^ oy B xs≤7 ^ oy B (x::xs):=dg (by decide) (by rw[oy];lia);have hs:=KR (P:=λz:List Int×Tr=>z.2.num == (i:Int)) (Q:=λz=>decide (((i+1:Nat):Int)≤z.2.num)) (R:=λz=>decide ((i:Int)≤z.2.num)) t.2.2.bls (λz hz=>by
   rw[beq_iff_eq]at hz;exact⟨decide_eq_true (by lia),decide_eq_false (by lia)⟩) λz hz=>decide_eq_true (by have:=of_decide_eq_true hz;lia)
  have h5:∀(bs:List (List Int)) (l:List (List Int)),l.length≤7 ^ oy B (x::xs)→(bs.flatMap λb=>l.map (b++ ·)).length≤bs.length*7 ^ oy B (x::xs):=λbs l hl=>by
   induction bs with
   |nil=>simp
   |cons b bs ih=>
    rw[cw,a_,ay,aU,cf];lia
  have h6:(qZ B t (i+1) xs q).length≤(t.2.2.bls.filter λz=>decide (((i+1:Nat):Int)≤z.2.num)).length*7 ^ oy B (x::xs):=aY h1 (fX _ h4);have h7:(qE t.2.2 i).length=(t.2.2.bls.filter λz=>z.2.num == (i:Int)).length:=by unfold qE;rw[ay]
  have h8:=dA (7 ^ oy B (x::xs)) hs;rw[cf]at h8;rw[qZ,a_];have h9:(match(t.2.1.bls.map λz:List Int×Tr=>z.1)[i]? with
   |some e=>if q.take e.length=e then(qE t.2.2 i).flatMap λb=>(x.lou B (q.drop e.length)).map (b++ ·) else []
   |none=>[]).length≤(qE t.2.2 i).length*7 ^ oy B (x::xs):=by
   split
   ·split
    ·exact h5 _ _ (h3 _)
    ·exact aQ _
   ·exact aQ _
  rw[h7]at h9;exact aY (Nat.add_le_add h9 h6) h8
theorem LO (hR:∀t∈B,t.2.2.bls.length≤7):∀(xs:List Tr) (i:Nat) (q:List Int),(um B i xs q).length≤7 ^ oy B xs
 | [],i,q=>by rw[um];exact aQ _
 |x::xs,0,q=>by
  rw[um];exact aY (wG hR x q) (dg (by decide) (by rw[oy];lia))
 |x::xs,i+1,q=>by
  rw[um];exact aY (LO hR xs i q) (dg (by decide) (by rw[oy];lia))
end
noncomputable def qi (B:List Tn):List Tr→List (List Int)→List (List Int)
 | [],ps=>ps
 |x::xs,ps=>qi B xs (ps.flatMap (x.lou B))
theorem CY{f:List Int→List (List Int)}:∀(ps:List (List Int)),(∀p∈ps,(f p).length≤k)→(ps.flatMap f).length≤ps.length*k
 | [],h=>by simp
 |p::ps,h=>by
  have h1:=h p aL;have h2:=CY ps λq hq=>h q (aI _ hq);rw[cw,a_,aU,cf];lia
theorem m5.dn_mem (c:m5 w0 w1 w2 w3 w4 w5 tt B):∀(xs:List Tr) {t s:Tr}{ps:List (List Int)},nP [w0,w1,w2,w3,w4,w5] B t xs→Wy [w0,w1,w2,w3,w4,w5] B s→ak B s=t→(∀q,q∈ps↔Up B s q)→ ∀q,q∈qi B xs ps↔Up B (qK B s xs) q
 | [],t,s,ps,_,_,_,h,q=>h q
 |x::xs,t,s,ps,⟨x1,x2,x3⟩,hs,es,h,q=>by
  have m:=c.K.moved hs x1 (by rw[es,x2]);refine m5.dn_mem c xs x3 m.wy m.sr (λq'=>?_) q;rw[c.up_res hs x1 (by rw[es,x2]),d9];constructor
  ·rintro⟨r,h1,h2⟩;exact⟨r,(h r).mp h1,h2⟩
  ·rintro⟨r,h1,h2⟩;exact⟨r,(h r).mpr h1,h2⟩
def m5.no_up (c:m5 w0 w1 w2 w3 w4 w5 tt B) (u:Up B x q):x.hd ox→False:=by
 induction u with
 |here e=>intro h;rw[Tr.hd]at h;rw[qc c.K.b.ti h.1]at e;cases e
 |sgn e hx _ ih=>intro h;rw[Tr.hd,m3]at h;exact ih (h.2 _ (aJ hx))
 |tit e _ _ _ ih=>intro h;rw[Tr.hd]at h;rw[qc c.K.b.ti h.1]at e;cases e
theorem m5.up_hd (c:m5 w0 w1 w2 w3 w4 w5 tt B):∀(n:Nat) {x:Tr},x.aq≤n→Wy [w0,w1,w2,w3,w4,w5] B x→(∀q,¬Up B x q)→x.hd ox
 |0,x,hn,hx,h=>by have:=rQ x;lia
 |n+1,x,hn,hx,h=>by
  obtain ⟨s,ts,rfl,hh,e,k⟩ |⟨t,ts,ht,rfl,e,hl,k⟩:=Wy.cases c.K.b hx
  ·rw[Tr.aq]at hn;rw[Tr.hd,m3];refine⟨c.K.b.sg s hh,λy hy=>m5.up_hd c n (by have:=pk hy;lia) (k y hy) λq u=>?_⟩;obtain⟨i,hi,ei⟩:=fA hy;exact h _ (.sgn e (by rw[aR hi,ei]) u)
  ·exact absurd (.here e) (h [])
def m5.up_quiet (c:m5 w0 w1 w2 w3 w4 w5 tt B) (hx:Wy [w0,w1,w2,w3,w4,w5] B x):x.dO=true↔ ∀q,¬Up B x q:=
 ⟨λh q u=>c.no_up u (wJ x h),λh=>C6 x (c.up_hd _ (aA _) hx h)⟩
theorem Ou.up{w0 w1 w2 w3 w4 w5:ah}{tt:List ah}{B:List Tn}(c:m5 w0 w1 w2 w3 w4 w5 tt B) (et:nc B t.1=aa t) (hu:∀u∈us,Sh [w0,w1,w2,w3,w4,w5] B u):∀(q:List Int) {X v:Tr},Sh [w0,w1,w2,w3,w4,w5] B X→X.at q=aa v→ ∀q',Up B (X.bQ q (.nd t.1 us)) q'↔q'=q
 | [],X,v,hX,e,q'=>by
  rw[tz,wH et];constructor
  ·rintro(h |⟨e',i,u,r,_,h2,h3,_⟩)
   ·exact h
   ·exact(c.no_up h3 ((hu u (aJ h2)).sig c.K)).elim
  ·exact .inl
 |i::q, .bl n,v,hX,e,q'=>by cases e
 |i::q, .nd s ts,v,hX,e,q'=>by
  obtain⟨w,h0,h1,h2⟩:=pU e;obtain⟨i,rfl⟩:∃i':Nat,i=i':=⟨i.toNat,by lia⟩
  rw[bb]at h1;obtain⟨s',ts',e1,_,e2,k⟩:=hX.cases c.K;cases e1;rw[tU (by rw[bb];exact h1),bb,yY e2];have hi:=(b6.mp h1).1;constructor
  ·rintro⟨j,x,r,g1,g2,rfl⟩;by_cases ij:i=j
   ·subst ij;rw[gr hi]at g1;cases g1;rw[(Ou.up c et hu q (k w (aJ h1)) h2 r).mp g2]
   ·rw[jB ij]at g1;exact(c.no_up g2 ((k x (aJ g1)).sig c.K)).elim
  ·rintro rfl;exact⟨i,_,q,gr hi,(Ou.up c et hu q (k w (aJ h1)) h2 q).mpr rfl,rfl⟩
def m5.done (c:m5 w0 w1 w2 w3 w4 w5 tt B) (hX:Sh [w0,w1,w2,w3,w4,w5] B X) (o:Ou [w0,w1,w2,w3,w4,w5] B X q t us) (hr:nP [w0,w1,w2,w3,w4,w5] B X xs) (hw:Wy [w0,w1,w2,w3,w4,w5] B (qK B (wyO X q t us) xs)):qi B xs [q]=[]↔(qK B (wyO X q t us) xs).dO=true:=by
 have h:=c.dn_mem xs (ps:=[q]) hr (o.wy c.K hX) (o.ak c.K hX) λq'=>by
  rw[bi];exact(Ou.up c (o.tt c.K) o.sh q hX o.hat q').symm
 rw[c.up_quiet hw];constructor
 ·intro e q' u;have:=(h q').mpr u;rw[e]at this;cases this
 ·intro e;cases d:qi B xs [q]with
  |nil=>rfl
  |cons p ps=>exact absurd ((h p).mp (by rw[d];exact aL)) (e p)
theorem m5.lou_at (c:m5 w0 w1 w2 w3 w4 w5 tt B):∀(n:Nat) {x:Tr}{q q':List Int}{v:Tr},x.aq≤n→Wy [w0,w1,w2,w3,w4,w5] B x→(ak B x).at q=aa v→q'∈x.lou B q→ ∃v',(b7 B x).at q'=aa v'
 |0,x,q,q',v,hn,hx,hv,h=>by have:=rQ x;lia
 |n+1,x,q,q',v,hn,hx,hv,h=>by
  obtain ⟨s,ts,rfl,hh,e,k⟩ |⟨t,ts,ht,rfl,e,hl,k⟩:=Wy.cases c.K.b hx
  ·rw[Tr.aq]at hn;have es:ak B (.nd s ts)= .nd s (ts.map (ak B)):=by rw[ak,qh e]
   have eg:b7 B (.nd s ts)= .nd s (ts.map (b7 B)):=by rw[b7,qh e]
   cases q with
   |nil=>
    rw[B' e]at h;rw[bi.mp h];exact⟨_,pC _⟩
   |cons i q=>
    rw[es]at hv;obtain⟨w,h0,h1,h2⟩:=pU hv;obtain⟨i,rfl⟩:∃i':Nat,i=i':=⟨i.toNat,by lia⟩
    rw[bb,aT]at h1;cases ei:ts[i]? with
    |none=>rw[ei]at h1;cases h1
    |some y=>
     rw[ei]at h1;cases h1;rw[vP e ei]at h;obtain⟨r,hr,rfl⟩:=aV.mp h;have hy:=aJ ei;obtain⟨v',g⟩:=m5.lou_at c n (by have:=pk hy;lia) (k y hy) h2 hr;exact⟨v',by rw[eg,rZ (show(ts.map (b7 B))[i]? =aa (b7 B y) by rw[aT,ei];rfl)];exact g⟩
  ·rw[Tr.aq]at hn;have es:ak B (.nd t.1 ts)=t.2.1.aD (ts.map (ak B)):=by rw[ak,p4 e]
   have eg:b7 B (.nd t.1 ts)=t.2.2.aD (ts.map (b7 B)):=by rw[b7,p4 e]
   rw[yS e,Cr]at h;obtain⟨j,y,e',b,r',h1,h2,h3,h4,h5,rfl⟩:=h;rw[bF]at h2 h4;have g:=(c.bl ht).mpr h2;have hq:q=e'++q.drop e'.length:=by
    have:=gU e'.length q;rw[h3]at this;exact this.symm
   have hy:=aJ h1;have a1:(ak B (.nd t.1 ts)).at e'=aa (ak B y):=by
    rw[es,xo e' g (by rw[ay,hl];exact(c.K.b.lf t ht).br),bb,aT,h1];rfl
   have a2:(b7 B (.nd t.1 ts)).at b=aa (b7 B y):=by
    rw[eg,xo b (pX.mp h4) (by rw[ay,hl];exact(c.K.b.ri t ht).br),bb,aT,h1];rfl
   rw[hq,vh e' _ a1]at hv;obtain⟨v',g'⟩:=m5.lou_at c n (by have:=pk hy;lia) (k y hy) hv h5;exact⟨v',by rw[vh b _ a2];exact g'⟩
mutual
theorem OA:∀t:Tr,t.aq≤1000→t.wd
 | .bl _,_=>trivial
 | .nd s ts,h=>by
  rw[Tr.aq]at h;have:=qI ts;exact⟨by lia,Lw ts (by lia)⟩
theorem Lw:∀ts:List Tr,mO ts≤1000→uT ts
 | [],_=>trivial
 |t::ts,h=>by
  rw[mO]at h;exact⟨OA t (by lia),Lw ts (by lia)⟩
end
def VY (hw:t.aq≤400) (hd:t.depth≤40) (hr:60≤r) (h:T E D [y0,aa (.bW [lA t, .ref l1]),y2,y3,y4,y5,y6,y7] S) :
  Fa r T E D [y0,aa (.bW [lA t, .ref l1]),y2,y3,y4,y5,y6,y7] S:=by
 rw[Fa];ext;obtain⟨r,rfl⟩:∃r',r=r'+5:=⟨r - 5,by lia⟩
 rw[show r+5=r+4+1 from rfl,sH];ext;refine DF (r:=r+3) (OA t (by lia)) ?_;rw[DC hw hd]
 try ext
 exact⟨_, .refl,h⟩
def w_ (B:List Tn):List Tr→List Tr→Prop
 | [],_=>True
 |x::xs,os=>uB B x os∧w_ B xs (pG B x os)
section
variable {ws:List ah}{B:List Tn}
theorem Jn (K:Bk3 ws B):∀(os:List Tr) {x t:Tr},Wy ws B x→ak B x=t→nP ws B t os→uB B x os→ ∀u∈pG B x os,(b7 B u).bo=true
 | [],x,t,_,_,_,_,u,hu=>by cases hu
 |o::os,x,t,hx,ex,⟨r1,r2,r3⟩,⟨l1,l2⟩,u,hu=>by
  have m:=K.moved hx r1 (by rw[ex,r2]);rw[pG]at hu;obtain e |e:=az.mp hu
  ·rw[e,←m.go];exact l1
  ·exact Jn K os m.wy m.sr r3 l2 u e
theorem Lj (K:Bk3 ws B):∀(os:List Tr) {x t:Tr},Wy ws B x→ak B x=t→nP ws B t os→t.bo=true→(∀o∈os,(b7 B o).bo=true)→ ∀p∈os.zip (qB B x os),uv ws B p.1 p.2
 | [],x,t,_,_,_,_,_,p,hp=>by cases hp
 |o::os,x,t,hx,ex,⟨r1,r2,r3⟩,hs,hg,p,hp=>by
  have cl:uv ws B x o:=⟨K,hx,r1,by rw[ex,r2],by rw[r2];exact hs⟩
  have m:=K.moved hx r1 cl.e;rw[qB,hZ]at hp;obtain rfl |hp:=az.mp hp
  ·exact cl.symm
  ·exact Lj K os m.wy m.sr r3 (hg o aL) (λu hu=>hg u (aI _ hu)) p hp
end
section
variable {ws:List ah}{B:List Tn}{a l1 l2 d o ρ:ai}{r:Nat}{E:WX}{D:m4}{T:WS}{t t':Tr}{xs os:List Tr}{S:lF}{y1 y2 y3 y4 y5 y6 y7:Option W}
def UG (ha:S a=aa (.bP (B.map mQ))) (hl:S ρ=aa (.bP (os.map lA))) (hq:S q=aa (.bP ((qB B x os).map lA))) (hc:∀p∈os.zip (qB B x os),uv ws B p.1 p.2) (hn:os.length≤800) (hr:63≤r)
  (h:∀ρ',S ρ'=none→T E D [aa (.ref a),y1,y2,y3,aa (.ref ρ'),y5,y6,aa (.ref q)] (bQ S ρ' (.bP ((pG B x os).map lA)))) :
  EN r T E D [aa (.ref a),y1,y2,y3,aa (.ref ρ),y5,y6,aa (.ref q)] S:=by
 rw[EN];ext;rw[ni hl,ni hq,Nz];refine qe (λσ=>∃u v,σ=[u,v,aa (.ref a)]) (λp:Tr×Tr=> .bW [lA p.1,lA p.2]) (λp=>lA (res B p.1 p.2)) ⟨hl,hq⟩ (os.zip (qB B x os)) [] _ ⟨none,none,rfl⟩ (by rw[List.length_zip,OO];simp;lia) (λp hp σ R hI hR=>?_) ?_
 ·obtain⟨u,v,rfl⟩:=hI;have h2:=hc p hp;rw[ED];show nU (mB 0) (nU (mB 1) pe) [lA p.1,lA p.2] _ S _;rw[zJ];show mB 0 _ _ _ _;rw[rA,zJ];show mB 1 _ _ _ _;rw[rA,Gc,HA];show mJ _ _ _ [aa (lA p.1),aa (lA p.2),aa (.ref a)] _ _;ext;obtain⟨r,rfl⟩:∃r',r=r'+1:=⟨r - 1,by lia⟩
  exact h2.ok_move ha (by lia) (hR _ _ ⟨_,_,rfl⟩ .refl)
 ·intro ρ' hρ;have:=h ρ' hρ;rw[←Hq,bu]at this;exact this
theorem IB{G:lF→Prop}(K:Bk3 ws B) (ha:S0 a=aa (.bP (B.map mQ))) (hd0:S0 d=none) (ho0:S0 o=none) (hdo:d≠o) (hG:∀S,Sub S0 S→G S) (hr:66≤r):∀(xs:List Tr) {os:List Tr}{t:Tr},nP ws B t xs→nP ws B t os→t.bo=true→(∀x∈xs,(b7 B x).bo=true)→(∀x∈os,(b7 B x).bo=true)→ ∀{S:lF}{ρ:ai}{ds rs:List ai}{Ds Rs:List (List Tr)}{y1 y2 y6 y7:Option W},os.length≤800→ds.length+xs.length≤800→rs.length+xs.length≤800→Sub S0 S→S d=aa (.bP (ds.map W.ref))→S o=aa (.bP (rs.map W.ref++[.ref ρ]))→vY S0 S d o ds Ds→vY S0 S d o rs Rs→At S0 S d o ρ os→
  (w_ B xs os→ ∀S' ds' rs' y4 y6 y7,Sub S0 S'→S' d=aa (.bP (ds'.map W.ref))→S' o=aa (.bP (rs'.map W.ref))→vY S0 S' d o ds' (Ds++vV B xs os)→vY S0 S' d o rs' (Rs++Af B xs os)→D.nx [aa (.ref a),y1,y2,aa (.ref d),y4,aa (.ref o),y6,y7] S')→(¬w_ B xs os→ ∀σ S',Sub S0 S'→E "TooGreat" σ S')→
  mS (mB 6) (Da r mK) E D G (xs.map lA) [aa (.ref a),y1,y2,aa (.ref d),aa (.ref ρ),aa (.ref o),y6,y7] S
 | [],os,t,u1,u2,u3,u4,u5=>by
  rename_i S ρ ds rs Ds Rs y1 y2 y6 y7;intro _ _ _ sb hd ho AD AR Aρ h _;refine h trivial S ds (rs++[ρ]) _ _ _ sb hd ?_ ?_ ?_
  ·rw[ho,bK];rfl
  ·rw[vV,bf];exact AD
  ·rw[Af];exact Gg AR Aρ
 |x::xs,os,t,⟨x1,x2,x3⟩,hRo,hs,gx,go=>by
  rename_i S ρ ds rs Ds Rs y1 y2 y6 y7;intro n1 n2 n3 sb hd ho AD AR Aρ h hE;rw[aU]at n2 n3;rw[aC];refine pV λN hN=>?_;rw[rA,Da];rw[NO];ext;obtain⟨r',er⟩:∃r',r=r'+1:=⟨r - 1,by lia⟩
  have er2:w6 r=w6 (r'+1):=by rw[er]
  rw[er2];refine Pb K (sb _ _ ha) Aρ.e x1 x2 hRo hs go n1 (by lia) (λlk S1 q s1 hq0 hq=>?_) λnk S1 s1=>hE (λgk=>nk gk.1) _ _ (sb.trans s1);refine UG (s1 _ _ (sb _ _ ha)) (s1 _ _ Aρ.e) hq (Lj K os x1 x2 hRo hs go) n1 (by lia) λρ' hρ=>?_;have s2:Sub S (bQ S1 ρ' (.bP ((pG B x os).map lA))):=s1.trans (.bQ .refl hρ);have qd:q≠d:=by rintro rfl;rw[hd]at hq0;cases hq0
  have qo:q≠o:=by rintro rfl;rw[ho]at hq0;cases hq0
  have ρd:ρ'≠d:=by rintro rfl;rw[s1 _ _ hd]at hρ;cases hρ
  have ρo:ρ'≠o:=by rintro rfl;rw[s1 _ _ ho]at hρ;cases hρ
  have Aq:At S0 (bQ S1 ρ' (.bP ((pG B x os).map lA))) d o q (qB B x os):=⟨qd,qo,keep hq hρ,Bt sb hq0⟩;have Aρ':At S0 (bQ S1 ρ' (.bP ((pG B x os).map lA))) d o ρ' (pG B x os):=⟨ρd,ρo,mV,Bt (sb.trans s1) hρ⟩;have AD':=uU (λ_ _ z=>At.sub z s2) AD;have AR':=uU (λ_ _ z=>At.sub z s2) AR;have A0:=Aρ.sub s2;have hd2:=s2 _ _ hd;have ho2:=s2 _ _ ho;have sb2:=sb.trans s2;generalize bQ S1 ρ' (.bP ((pG B x os).map lA))=S2 at Aq Aρ' AD' AR' A0 hd2 ho2 sb2⊢;have ld:(ds.map W.ref).length≤1000:=by rw[ay];lia
  have lo:(rs.map W.ref++[W.ref ρ]).length≤1000:=by rw[a_,ay,cA];lia
  refine W7 hd2 ld ?_;refine WR (vs:=rs.map W.ref++[.ref ρ]) (by rw[nQ hdo.symm];exact ho2) lo ?_;have sb3:Sub S0 (bQ (bQ S2 d (.bP (ds.map W.ref++[.ref q]))) o (.bP (rs.map W.ref++[.ref ρ]++[.ref ρ']))):= .bQ (.bQ sb2 hd0) ho0;refine hN _ _ _ .refl (hG _ sb3) (IB K ha hd0 ho0 hdo hG hr xs (ds:=ds++[q]) (rs:=rs++[ρ]) (Ds:=Ds++[qB B x os]) (Rs:=Rs++[os]) x3 (uV K os x1 x2 hRo).1 (gx x aL) (λu hu=>gx u (aI _ hu)) (Jn K os x1 x2 hRo lk) (by rw[MR];exact n1) (by rw[a_,cA];lia) (by rw[a_,cA];lia) sb3 ?_ ?_ ?_ ?_ Aρ'.pd.po (λgk S' ds' rs' z4 z6 z7 s' h1 h2 h3 h4=>?_) λng=>hE λgk=>ng gk.2)
  ·rw[nQ hdo,mV,bK];rfl
  ·rw[mV,bK];rfl
  ·exact Gg (uU (λ_ _ z=>At.po (At.pd z)) AD') Aq.pd.po
  ·exact Gg (uU (λ_ _ z=>At.po (At.pd z)) AR') A0.pd.po
  ·refine h ⟨lk,gk⟩ S' ds' rs' z4 z6 z7 s' h1 h2 ?_ ?_
   ·rw[vV];rw[bD]at h3;exact h3
   ·rw[Af];rw[bD]at h4;exact h4
structure pj (B:List Tn) (xs os:List Tr):Prop where
  gx:∀x∈xs,(b7 B x).bo=true
  go:∀x∈os,(b7 B x).bo=true
  ok:w_ B xs os
def GY{X:ah→lF→Prop}(K:Bk3 ws B) (ha:S a=aa (.bP (B.map mQ))) (h1:S l1=aa (.bP (xs.map lA))) (h2:S l2=aa (.bP (os.map lA))) (hx:nP ws B t xs) (ho:nP ws B t' os) (hs:t.bo=true) (nx:xs.length≤700) (no:os.length≤700) (hr:70≤r)
  (hA:t≠t'→X "Apart" S) (hX:t=t'→ ¬pj B xs os→ ∀S',Sub S S'→X "TooGreat" S')
  (h:t=t'→pj B xs os→ ∀S' d o,SN S S' B xs os d o→Q (.bW [.ref d, .ref o]) S'):zm (r+1) [.ref a, .bW [lA t, .ref l1], .bW [lA t', .ref l2]] S Q X:=by
 obtain⟨b1,b2⟩:=rj hs;rw[zm,uf];refine⟨rfl,?_⟩;rw[M3];ext;rw[xy 60 _ _ (by lia)];cases e:t.same t' with
 |false=>
  try ext
  try rw[C3]
  try ext
  refine⟨m_ (by decide),hA λk=>?_⟩;rw[k,z_]at e;cases e
 |true=>
  have et:t=t':=(EO _ _).mp e;subst et
  try ext
  refine VY b1 b2 (by lia) ?_;rw[OL];ext;obtain⟨r',er⟩:∃r',r=r'+2:=⟨r - 2,by lia⟩
  have er2:vd r=vd (r'+2):=by rw[er]
  rw[er2];refine Eu K ha h1 hx hs (by lia) (λgx=>?_) λ⟨u,hu,eu⟩=>hX rfl (λg=>by have:=g.gx u hu;rw[eu]at this;cases this) _ .refl
  rw[Ol];ext;rw[er2];refine Eu K ha h2 ho hs (by lia) (λgo=>?_) λ⟨u,hu,eu⟩=>hX rfl (λg=>by have:=g.go u hu;rw[eu]at this;cases this) _ .refl
  refine SS λd hd=>PM (keep h2 hd) λρ hρ=>R6 λo h0=>?_;have ρd:ρ≠d:=by rintro rfl;rw[mV]at hρ;cases hρ
  have od:o≠d:=by rintro rfl;rw[nQ ρd.symm,mV]at h0;cases h0
  have oρ:o≠ρ:=by rintro rfl;rw[mV]at h0;cases h0
  have oS:S o=none:=by rw[nQ oρ,nQ od]at h0;exact h0
  have sb:Sub S (bQ (bQ (bQ S d (.bP [])) ρ (.bP (os.map lA))) o (.bP [.ref ρ])):=(Sub.bQ .refl hd).trans ((Sub.bQ .refl hρ).trans (.bQ .refl h0));rw[O'];ext;show og _ l1 _;rw[ni (sb _ _ h1)];refine IB K ha hd oS od.symm (λS' s'=>s' _ _ h1) (by lia) xs (ds:=[]) (rs:=[]) (Ds:=[]) (Rs:=[]) hx ho hs gx go (by lia) (by simp;lia) (by simp;lia) sb ?_ mV .nil .nil ⟨ρd,oρ.symm,?_,by rw[nQ ρd]at hρ;exact hρ⟩ (λgk S' ds rs y4 y6 y7 s' g1 g2 g3 g4=>?_) λng σ S' s'=>hX rfl (λg=>ng g.ok) _ s'
  ·rw[nQ od.symm,nQ ρd.symm,mV];rfl
  ·rw[nQ oρ.symm,mV]
  ·rw[Lh];ext;exact⟨by decide,_, .refl,h rfl ⟨gx,go,gk⟩ S' d o ⟨s',hd,oS,od.symm,ds,rs,g1,g2,g3,g4⟩⟩
end
theorem K6:∀(os:List Tr) {x:Tr},uB B x os→(b7 B x).bo=true→(b7 B (qK B x os)).bo=true
 | [],x,_,h=>h
 |o::os,x,⟨l1,l2⟩,h=>K6 os l2 l1
theorem Nb (K:Bk3 ws B):∀(xs os:List Tr) {t:Tr},nP ws B t xs→nP ws B t os→w_ B xs os→(∀x∈xs,(b7 B x).bo=true)→ ∀u∈oK B xs os,(b7 B u).bo=true
 | [],os,t,_,_,_,_,u,hu=>by cases hu
 |x::xs,os,t,⟨x1,x2,x3⟩,ho,⟨g1,g2⟩,gx,u,hu=>by
  rw[oK]at hu;obtain e |e:=az.mp hu
  ·rw[e];exact K6 os g1 (gx x aL)
  ·exact Nb K xs _ x3 (uV K os x1 x2 ho).1 g2 (λv hv=>gx v (aI _ hv)) u e
theorem Fu:∀(us:List Tr) {t:Tr},nP ws B t us→t.bo=true→(∀x∈us,(b7 B x).bo=true)→ ∀u∈us,Wy ws B u∧(ak B u).bo=true
 | [],t,_,_,_,u,hu=>by cases hu
 |x::us,t,⟨x1,x2,x3⟩,hs,g,u,hu=>by
  obtain e |e:=az.mp hu
  ·rw[e];exact⟨x1,by rw[x2];exact hs⟩
  ·exact Fu us x3 (g x aL) (λv hv=>g v (aI _ hv)) u e
theorem MI:∀(us:List Tr) {t:Tr},t.bo=true→(∀x∈us,(b7 B x).bo=true)→(ov B t us).bo=true
 | [],t,hs,_=>hs
 |x::us,t,hs,g=>MI us (g x aL) λv hv=>g v (aI _ hv)
section
variable {ws:List ah}{B:List Tn}{x t t':Tr}{a l l1 l2:ai}{r:Nat}{xs os:List Tr}{S:lF}{Q:WK}{X:ah→lF→Prop}
def MF (K:Bk3 ws B) (hl:S l=aa (.bP (xs.map lA))) (tx:∀x∈xs,Wy ws B x∧(ak B x).bo=true) (hn:xs.length≤1000) (hr:62≤r) (h:Q (.bl (xs.all Tr.dO)) S):vB (r+1) [.ref l] S Q X:=by
 rw[vB];ext;rw[ni hl];obtain⟨r,rfl⟩:∃r',r=r'+1:=⟨r - 1,by lia⟩
 refine qe (λσ=>∃y,σ=[y]) lA (λx=>W.bl x.dO) hl xs [] _ ⟨none,rfl⟩ (by simp;lia) (λx hx σ R hI hR=>?_) ?_
 ·obtain⟨y,rfl⟩:=hI;obtain⟨h1,h2⟩:=tx x hx;obtain⟨d1,w1,_,_⟩:=K.fitw h1 h2;rw[Hv];ext;exact L2.NS 40 d1 (by lia) (h1.len K) (by lia) (hR _ _ ⟨_,rfl⟩ .refl)
 ·rw[aX,Gk];refine⟨_, .refl,?_⟩;rw[eW];exact h
def KY (K:Bk3 ws B) (ha:S a=aa (.bP (B.map mQ))) (hl:S l=aa (.bP (xs.map lA))) (tx:∀x∈xs,Wy ws B x∧(ak B x).bo=true) (gx:∀x∈xs,(b7 B x).bo=true) (hr:64≤r) (h:Q (lA (ov B t xs)) S):yr (r+1) [.ref a, .bW [lA t, .ref l]] S Q X:=by
 rw[yr,uf];refine⟨rfl,?_⟩;rw[ND];ext;rw[show nE [lA t,W.ref l] 1=aa (.ref l) from rfl];ext;rw[ni hl];obtain rfl |⟨ys,u,rfl⟩:=List.eq_nil_or_concat xs
 ·exact⟨_, .refl,h⟩
 ·rw[List.concat_eq_append]at *;have hne:((ys++[u]).map lA).isEmpty=false:=by simp
  obtain⟨h1,h2⟩:=tx u (by simp);have h3:=gx u (by simp);rw[KN]at h
  try rw[hne]
  rw[if_neg (by decide),Ir];ext;rw[show nE [lA t,W.ref l] 1=aa (.ref l) from rfl];ext;rw[bK]at hl;rw[ni hl,show [u].map lA=[lA u] from rfl,Bo];obtain⟨r,rfl⟩:∃r',r=r'+1:=⟨r - 1,by lia⟩
  exact K.ok_goalX h1 h2 ha (by lia) (λ_=>⟨_, .refl,h⟩) λz=>by rw[h3]at z;cases z
def RO (K:Bk3 ws B) (ha:S a=aa (.bP (B.map mQ))) (h1:S l1=aa (.bP (xs.map lA))) (h2:S l2=aa (.bP (os.map lA))) (hx:nP ws B t xs) (ho:nP ws B t' os) (hs:t.bo=true) (nx:xs.length≤700) (no:os.length≤700) (hr:75≤r)
  (hA:t≠t'→X "Apart" S) (hX:t=t'→ ¬pj B xs os→ ∀S',Sub S S'→X "TooGreat" S')
  (h:t=t'→pj B xs os→ ∀S',Sub S S'→Q (.bl ((oK B xs os).all Tr.dO)) S'):Bn (r+1) [.ref a, .bW [lA t, .ref l1], .bW [lA t', .ref l2]] S Q X:=by
 obtain⟨r,rfl⟩:∃r',r=r'+1:=⟨r - 1,by lia⟩
 rw[Bn];ext;refine GY K ha h1 h2 hx ho hs nx no (by lia) hA hX λet gg S1 d o g=>?_;subst et;obtain⟨ds,rs,g1,g2,g3,g4⟩:=g.ex;refine KJ g1 nx g3 λq hq=>?_;refine MF K mV (Fu _ (Aa K xs os hx ho) (MI os hs gg.go) (Nb K xs os hx ho gg.ok gg.gx)) (by rw[AS];lia) (by lia) ?_;exact⟨_, .refl,h rfl gg _ (g.sub.trans (.bQ .refl hq))⟩
def Xb (K:Bk3 ws B) (ha:S a=aa (.bP (B.map mQ))) (h1:S l1=aa (.bP (xs.map lA))) (h2:S l2=aa (.bP (os.map lA))) (hx:nP ws B t xs) (ho:nP ws B t' os) (hs:t.bo=true) (nx:xs.length≤700) (no:os.length≤700) (hr:75≤r)
  (hA:t≠t'→X "Apart" S) (hX:t=t'→ ¬pj B xs os→ ∀S',Sub S S'→X "TooGreat" S')
  (h:t=t'→pj B xs os→ ∀S' q,Sub S S'→S q=none→S' q=aa (.bP ((oK B xs os).map lA))→Q (.bW [lA (ov B t os), .ref q]) S'):A3 (r+1) [.ref a, .bW [lA t, .ref l1], .bW [lA t', .ref l2]] S Q X:=by
 obtain⟨r,rfl⟩:∃r',r=r'+1:=⟨r - 1,by lia⟩
 rw[A3,uf];refine⟨rfl,?_⟩;rw[JF];ext;refine GY K ha h1 h2 hx ho hs nx no (by lia) hA hX λet gg S1 d o g=>?_;subst et;obtain⟨ds,rs,g1,g2,g3,g4⟩:=g.ex;refine KJ g1 nx g3 λq hq=>?_;have sb:Sub S (bQ S1 q (.bP ((oK B xs os).map lA))):=g.sub.trans (.bQ .refl hq);have q0:S q=none:=Bt g.sub hq;have fq:bQ S1 q (.bP ((oK B xs os).map lA)) q=aa (.bP ((oK B xs os).map lA)):=mV;generalize bQ S1 q (.bP ((oK B xs os).map lA))=S2 at sb fq⊢;rw[Lm];ext;refine KY K (sb _ _ ha) (sb _ _ h2) (Fu os ho hs gg.go) gg.go (by lia) ?_;exact⟨by decide,_, .refl,h rfl gg _ q sb q0 fq⟩
end
section
variable {B:List Tn}{S:lF}{Q:WK}{E:ah→lF→Prop}{a:ai}{r:Nat}
def Z5 (hr:R.depth+6≤r) (hw:R.aq≤1000) (h:∀a,S a=none→Q (.ref a) (bQ S a (.bP ((qE R i).map mE)))):Aw (r+1) [lA R, .int i] S Q E:=by
 obtain⟨r,rfl⟩:∃r',r=r'+3:=⟨r - 3,by lia⟩
 rw[Aw];ext;refine FU (by lia) (by lia) λb hb=>?_;ext;have hl:=za R;refine A7 (λσ=>∃x,σ=[x,aa (.int i),aa (lA R)]) (λx:List Int×Tr=>mE x.1) (λx=>mE x.1) (λx=>x.2.num == (i:Int)) mV R.bls [] _ ⟨none,rfl⟩ (by simp;lia) (λx hx σ R1 R0 hI h1 h0=>?_) ?_
 ·obtain⟨y,rfl⟩:=hI;obtain⟨g1,g2,_⟩:=xG hx;ext;refine LS g1 ?_;rw[g2];simp only[lA];ext;cases e:(x.2.num == (i:Int)) with
  |true=>
   have g3:(Tr.bl x.2.num).num=x.2.num:=rfl
   try simp only[if_true]
   rw[KF]
   try ext
   exact h1 e _ _ ⟨_,rfl⟩ .refl
  |false=>
   try simp only[cE,if_false]
   exact h0 e _ _ ⟨_,rfl⟩ .refl
 ·rw[aX];intro c hc;obtain⟨hb1,hb2⟩:=rf hc;have:=h c hb1;unfold qE at this;rw[bu]at this;exact⟨_, .put2 (.bQ .refl hb),this⟩
def uS (B:List Tn) (a:ai) (x:Tr) (c:mM):Prop:=∀{S:lF}{Q:WK}{E:ah→lF→Prop}{q:List Int}{v:Tr},S a=aa (.bP (B.map mQ))→(ak B x).at q=aa v→q.length≤1000→(∀f,S f=none→Q (.ref f) (bQ S f (.bP ((x.lou B q).map mE))))→c [.ref a,lA x,mE q] S Q E
theorem NE{f g:ai}{l:List (List Int)}{EX:WX}{D:m4}{G:lF→Prop}{S1:lF}{y0 y1 y2 y3 y5 y6:Option W}(hg:S1 g=aa (.bP (l.map mE))) (hf:S1 f=none) (hG:∀o,G (bQ S1 f o)) (hl:∀p∈l,p.length≤1000):∀(bs:List (List Int)) {L:List (List Int)}{y8:Option W},(∀b∈bs,b.length≤1000)→L.length+bs.length*l.length≤900000→
  (∀z8,D.nx [y0,y1,y2,y3,aa (.ref f),y5,y6,aa (.ref g),z8] (bQ S1 f (.bP ((L++bs.flatMap λb=>l.map (b++ ·)).map mE))))→
  mS (mB 8) (Dv r mK) EX D G (bs.map mE) [y0,y1,y2,y3,aa (.ref f),y5,y6,aa (.ref g),y8] (bQ S1 f (.bP (L.map mE)))
 | [],L,y8,_,hn,h=>by
  have:=h y8;rw[cZ,bf]at this;exact this
 |b::bs,L,y8,hb,hn,h=>by
  rw[aU,cf,c6]at hn;have fg:f≠g:=by rintro rfl;rw[hg]at hf;cases hf
  have hg':∀o,bQ S1 f o g=aa (.bP (l.map mE)):=λo=>by rw[nQ (bz fg)];exact hg
  rw[aC];refine pV λN hN=>?_;rw[rA,Dv];ext;rw[ni (hg' _)];refine qe (λσ=>∃z,σ=[z,aa (mE b)]) mE (λp=>mE (b++p)) (hg' _) l [] _ ⟨none,rfl⟩ (by simp;lia) (λp hp σ R hI hR=>?_) ?_
  ·obtain⟨z,rfl⟩:=hI;rw[rA,Kx];ext;have h1:=hb b aL;have h2:=hl p hp;unfold mE;ext;have:=hR _ _ ⟨aa (mE p),rfl⟩ .refl;unfold mE at this;rw[bK]at this;exact⟨m_ (by simp;lia),this⟩
  ·rw[aX]
   try ext
   have e1:L.map mE++l.map (λp=>mE (b++p))=(L++l.map (b++ ·)).map mE:=by rw[bK,bu];rfl
   rw[e1];refine⟨m_ (by simp;lia),hN _ _ _ .refl (hG _) ?_⟩;refine NE hg hf hG hl bs (λc hc=>hb c (aI _ hc)) (by rw[a_,ay];lia) λz8=>?_;have:=h z8;rw[cw,←bD]at this;exact this
def Bj (h:a≠b):bQ (bQ S a o) b o'=bQ (bQ S b o') a o:=by
 funext c;unfold bQ;by_cases h1:c=b
 ·subst h1;rw[if_pos rfl,if_neg (bz h),if_pos rfl]
 ·rw[if_neg h1];by_cases h2:c=a
  ·rw[if_pos h2,if_pos h2]
  ·rw[if_neg h2,if_neg h2,if_neg h1]
def L'{s:ah}{ts:List Tr}{i:Nat}{x:Tr}(h:ts[i]? =aa x):nE (W.str s::af ts) ((i:Int)+1)=aa (lA x):=by
 rw[show((i:Int)+1)=((i+1:Nat):Int) by lia]
 refine G5 ?_;rw[bT,o6,aT,h];rfl
def Ss{s:ah}{ts:List Tr}{i:Nat}{x:Tr}(h:ts[i]? =aa x) (q:Q (lA x) S):mH (lA (.nd s ts)) (.int ((i:Int)+1)) S Q:=by
 rw[show lA (.nd s ts)= .bW (.str s::af ts) by simp [lA],A1,L' h]
 exact q
def XA (q:Q (lA t.2.2) S):mH (mQ t) (.int 2) S Q:=by
 unfold mQ;rw[A1,show nE [W.str t.1,lA t.2.1,lA t.2.2] 2=aa (lA t.2.2) from rfl];exact q
def Wj (q:Q (lA t.2.1) S):mH (mQ t) (.int 1) S Q:=by
 unfold mQ;rw[A1,show nE [W.str t.1,lA t.2.1,lA t.2.2] 1=aa (lA t.2.1) from rfl];exact q
noncomputable def xV (B:List Tn) (t:Tn) (i:Nat) (x:Tr) (e q:List Int):List (List Int):=if q.take e.length=e then(qE t.2.2 i).flatMap λb=>(x.lou B (q.drop e.length)).map (b++ ·) else []
def Sm{t:Tn}{ts:List Tr}{x:Tr}{cT:mM}{i:Nat}{e q:List Int}{f:ai}{L:List (List Int)}{EX:WX}{D:m4}{S1:lF}{y7 y8:Option W}(hx:ts[i]? =aa x) (hc:uS B a x cT) (ha:S1 a=aa (.bP (B.map mQ))) (hf:S1 f=none)
  (hv:q.take e.length=e→(∃v,(ak B x).at (q.drop e.length)=aa v)∧ ∀p∈x.lou B (q.drop e.length),p.length≤1000) (he:e.length≤1000) (hq:q.length≤1000) (hR:t.2.2.depth≤4∧t.2.2.aq≤7) (hr:12≤r) (hn:L.length+7*(x.lou B (q.drop e.length)).length≤900000)
  (h:∀S' z7 z8,Sub (bQ S1 f (.bP ((L++xV B t i x e q).map mE))) S'→D.nx [aa (.ref a),aa (lA (.nd t.1 ts)),aa (mE q),aa (mQ t),aa (.ref f),aa (.int i),aa (mE e),z7,z8] S') :
  Ao r cT EX D [aa (.ref a),aa (lA (.nd t.1 ts)),aa (mE q),aa (mQ t),aa (.ref f),aa (.int i),aa (mE e),y7,y8] (bQ S1 f (.bP (L.map mE))):=by
 have fa:f≠a:=by rintro rfl;rw[ha]at hf;cases hf
 rw[Ao];have eq1:mE q= .bW (q.map W.int):=rfl;have ee1:mE e= .bW (e.map W.int):=rfl;simp only[eq1,ee1];ext;have et:nE [W.str t.1,lA t.2.1,lA t.2.2] 2=aa (lA t.2.2):=rfl;have ct:(q.map W.int).take e.length=(q.take e.length).map W.int:=by rw[ja]
 have cd:(q.map W.int).drop e.length=(q.drop e.length).map W.int:=by rw[iZ]
 rw[ay,BD,ct];rw[show n_ (bQ S1 f (.bP (L.map mE))) 60 (.bW ((q.take e.length).map W.int)) (.bW (e.map W.int))=aa (decide (q.take e.length=e)) from Eh (n:=58) _ _];by_cases hq':q.take e.length=e
 ·obtain⟨⟨v,hv⟩,hp⟩:=hv hq';rw[decide_eq_true hq']
  try simp only[if_true]
  refine Ss hx ?_;rw[AQ,cd];refine hc (q:=q.drop e.length) (by rw[nQ (bz fa)];exact ha) hv (by rw[cS];lia) λg hg=>?_;obtain⟨hg1,hg2⟩:=rf hg;refine XA ?_;obtain⟨r,rfl⟩:∃r',r=r'+1:=⟨r - 1,by lia⟩
  refine Z5 (by lia) (by lia) λk hk=>?_;obtain⟨hk1,hk2⟩:=rf hk;obtain⟨hk3,hk4⟩:=rf hk1;dsimp only;rw[ni mV];have sb:Sub S1 (bQ (bQ S1 g (.bP ((x.lou B (q.drop e.length)).map mE))) k (.bP ((qE t.2.2 i).map mE))):=(Sub.bQ .refl hg1).trans (.bQ .refl (by rw[nQ hk2];exact hk3));rw[Bj (S:=S1) hg2.symm,Bj hk4.symm];have pl:(qE t.2.2 i).length≤7:=by
   unfold qE;rw[ay];have:=za t.2.2;exact aY (gE _ _) (by lia)
  refine NE (by rw[nQ hk2.symm,mV]) (by rw[nQ hk4.symm,nQ hg2.symm];exact hf) (λo=>by rw[nQ hk4,mV]) hp (qE t.2.2 i) (λb hb=>?_) ?_ λz8=>?_
  ·have:=uP b (pX.mp hb);lia
  ·have:=dA (x.lou B (q.drop e.length)).length pl;lia
  ·refine h _ _ _ ?_;unfold xV;rw[if_pos hq'];exact Cm sb
 ·rw[decide_eq_false hq'];have:=h (bQ S1 f (.bP (L.map mE))) y7 y8;unfold xV at this;rw[if_neg hq',bf]at this;exact this .refl
def Yl{G:lF→Prop}(ha:S1 a=aa (.bP (B.map mQ))) (hf:S1 f=none) (hG:∀o,G (bQ S1 f o)) (hq:q.length≤1000) (hR:t.2.2.depth≤4∧t.2.2.aq≤7) (hr:12≤r) :
  ∀(xs:List Tr) (es:List (List Int)) (i:Nat) {L:List (List Int)}{y5 y6 y7 y8:Option W},xs.length=es.length→(∀j,(t.2.1.bls.map λz=>z.1)[i+j]? =es[j]?)→(∀j x,xs[j]? =aa x→ts[i+j]? =aa x∧uS B a x cT∧ ∀e,es[j]? =aa e→e.length≤1000∧(q.take e.length=e→(∃v,(ak B x).at (q.drop e.length)=aa v)∧ ∀p∈x.lou B (q.drop e.length),p.length≤1000)∧(x.lou B (q.drop e.length)).length≤20000)→L.length+xs.length*140000≤500000→
  (∀S' z5 z6 z7 z8,Sub (bQ S1 f (.bP ((L++qZ B t i xs q).map mE))) S'→D.nx [aa (.ref a),aa (lA (.nd t.1 ts)),aa (mE q),aa (mQ t),aa (.ref f),z5,z6,z7,z8] S')→
  mS (pE (nU (mB 5) (nU (mB 6) pe))) (Ao r cT) EX D G (pL i (es.map mE)) [aa (.ref a),aa (lA (.nd t.1 ts)),aa (mE q),aa (mQ t),aa (.ref f),y5,y6,y7,y8] (bQ S1 f (.bP (L.map mE))):=by
 intro xs
 induction xs with
 |nil=>
  intro es i L y5 y6 y7 y8 hl _ _ _ h;cases es with
  |cons=>cases hl
  |nil=>
  rw[qZ,bf]at h;exact h _ _ _ _ _ .refl
 |cons x xs ih=>
  intro es i L y5 y6 y7 y8 hl hb hx n1 h;cases es with
  |nil=>cases hl
  |cons e es=>
  obtain⟨g1,g2,g3⟩:=hx 0 x rfl;obtain⟨g4,g5,g7⟩:=g3 e rfl;have he:(t.2.1.bls.map λz=>z.1)[i]? =aa e:=hb 0;rw[aU]at n1;rw[aC,pL];refine pV λN hN=>?_;rw[ED];show nU (mB 5) (nU (mB 6) pe) [.int i,mE e] _ _ _;rw[zJ];show mB 5 _ _ _ _;rw[rA,zJ];show mB 6 _ _ _ _;rw[rA,Gc];show Ao r cT _ _ [aa (.ref a),aa (lA (.nd t.1 ts)),aa (mE q),aa (mQ t),aa (.ref f),aa (.int i),aa (mE e),y7,y8] _;refine Sm g1 g2 ha hf g5 g4 hq hR hr (by lia) λS' z7 z8 s'=>?_;refine hN _ _ _ s' (hG _) ?_;have el:qZ B t i (x::xs) q=xV B t i x e q++qZ B t (i+1) xs q:=by
   rw[qZ,he];rfl
  have ll:(xV B t i x e q).length≤140000:=by
   unfold xV;split
   ·have h1:=CY (f:=λb=>(x.lou B (q.drop e.length)).map (b++ ·)) (k:=20000) (qE t.2.2 i) λb _=>by rw[ay];exact g7
    have h2:(qE t.2.2 i).length≤7:=by
     unfold qE;rw[ay];have:=za t.2.2;exact aY (gE _ _) (by lia)
    have:=dA 20000 h2;lia
   ·exact aQ _
  refine ih es (i+1) (by simpa using hl) (λj=>?_) (λj y hy=>?_) (by rw[a_];lia) λS2 z5 z6 z7 z8 s2=>h S2 z5 z6 z7 z8 ?_
  ·have:=hb (j+1);rw[bT]at this;rw[←this];congr 1;lia
  ·have:=hx (j+1) y (by rw[bT];exact hy);rw[bT]at this;rw[show i+1+j=i+(j+1) by lia]
   exact this
  ·rw[el,←bD];exact s2
end
mutual
theorem IM:∀t:Tr,t.sd≤t.depth
 | .bl n=>by rw[Tr.sd];exact aQ _
 | .nd s ts=>by
  have:=OH ts;rw[Tr.sd,Tr.depth];lia
theorem OH:∀ts:List Tr,su ts≤nj ts
 | []=>by rw[su];exact aQ _
 |t::ts=>by
  have h1:=IM t;have h2:=OH ts;rw[su,nj];lia
end
theorem Bk3.gol_dp (K:Bk3 ws B):∀(n:Nat) {x:Tr},x.aq≤n→Wy ws B x→(L2.b7 B x).depth≤4*x.depth
 |0,x,hn,hx=>by have:=rQ x;lia
 |n+1,x,hn,hx=>by
  have sup:∀(ts:List Tr),(∀y∈ts,(L2.b7 B y).depth≤4*y.depth)→nj (ts.map (L2.b7 B))≤4*nj ts:=λts=>by
   induction ts with
   |nil=>intro _;simp [nj]
   |cons y ts ih=>
    intro h;have h1:=h y aL;have h2:=ih λz hz=>h z (aI _ hz);rw[aC,nj,nj];lia
  obtain ⟨s,ts,rfl,hh,e,k⟩ |⟨t,ts,ht,rfl,e,hl,k⟩:=Wy.cases K.b hx
  ·rw[Tr.aq]at hn;have:=sup ts λy hy=>Bk3.gol_dp K n (by have:=pk hy;lia) (k y hy);rw[L2.b7,qh e,Tr.depth,Tr.depth];show 1+nj (ts.map (L2.b7 B))≤_;lia
  ·rw[Tr.aq]at hn;have h1:=sup ts λy hy=>Bk3.gol_dp K n (by have:=pk hy;lia) (k y hy);have h2:=LR (us:=ts.map (L2.b7 B)) t.2.2 (by rw[ay,hl];exact(K.b.ri t ht).br);have h3:=IM t.2.2;have h4:=(K.b.ri t ht).dp;rw[L2.b7,p4 e,Tr.depth];show(t.2.2.aD (ts.map (L2.b7 B))).depth≤_;lia
def m5.bls7 (c:m5 w0 w1 w2 w3 w4 w5 tt B):∀t∈B,t.2.2.bls.length≤7:=λt ht=>aY (za _) (c.b.ri t ht).wt
def m5.ok_lbelow (c:m5 w0 w1 w2 w3 w4 w5 tt B) (ht:t∈B) (hl:ts.length=t.2.1.nb) (hx:∀x∈ts,Wy [w0,w1,w2,w3,w4,w5] B x∧uS B a x cT∧x.ne B≤5∧x.depth≤100) (ha:S a=aa (.bP (B.map mQ))) (hv:(ak B (.nd t.1 ts)).at q=aa v) (hq:q.length≤1000) (hr:20≤r)
  (h:∀f,S f=none→Q (.ref f) (bQ S f (.bP ((qZ B t 0 ts q).map mE)))):A4 cT (r+1) [.ref a,lA (.nd t.1 ts),mE q,mQ t] S Q E:=by
 have et:=rg c.K.b.nd ht;have es:ak B (.nd t.1 ts)=t.2.1.aD (ts.map (ak B)):=by rw[ak,p4 et]
 have hL:=c.K.b.lf t ht;have K1:=hL.wt;have K2:=hL.nb;have K3:=hL.dp;have R1:=(c.b.ri t ht).wt;have R2:=(c.b.ri t ht).dp;rw[A4];ext;refine⟨aQ _,λf hf=>?_⟩;refine Wj ?_;obtain⟨r,rfl⟩:∃r',r=r'+1:=⟨r - 1,by lia⟩
 refine FU (by lia) (by lia) λz hz=>?_;obtain⟨hz1,hz2⟩:=rf hz;rw[Cj,ni mV,Bj hz2.symm];have sb:Sub S (bQ S z (.bP (t.2.1.bls.map λx=>mE x.1))):= .bQ .refl hz1;have fa:f≠a:=by rintro rfl;rw[ha]at hf;cases hf
 have e0:(t.2.1.bls.map λx=>mE x.1)=(t.2.1.bls.map λx=>x.1).map mE:=by rw[bu];rfl
 have bl:ts.length=(t.2.1.bls.map λx=>x.1).length:=by rw[ay,E6,hl]
 generalize hzs:(t.2.1.bls.map λx=>mE x.1)=zs at *;rw[show pL 0 zs=pL 0 ((t.2.1.bls.map λx=>x.1).map mE) by rw[e0]]
 refine Yl (B:=B) (a:=a) (r:=r+1) (t:=t) (ts:=ts) (cT:=cT) (q:=q) (f:=f) (S1:=bQ S z (.bP zs)) (G:=λS'=>S' z=aa (.bP zs)) (L:=[]) (y5:=none) (y6:=none) (y7:=none) (y8:=none) (sb _ _ ha) (by rw[nQ hz2.symm];exact hf) (λo=>by rw[nQ hz2,mV]) hq ⟨R2,R1⟩ (by lia) ts (t.2.1.bls.map λx=>x.1) 0 bl (λj=>by rw[bF]) (λj x hj=>?_) (by rw[db,hl];lia) λS' z5 z6 z7 z8 s'=>?_
 rotate_left
 ·rw[aX]at s';ext;exact⟨_,(Cm sb).trans s',h f hf⟩
 ·have hm:=aJ hj;obtain⟨g1,g2,g3,g4⟩:=hx x hm;refine⟨by rw[bF];exact hj,g2,λe he=>?_⟩;have hat:=(c.bl ht).mpr he;have hel:=uP e hat;have hsr:∀q',q=e++q'→(ak B x).at q'=aa v:=λq' hq'=>by
   have a1:(ak B (.nd t.1 ts)).at e=aa (ak B x):=by
    rw[es,xo e hat (by rw[ay,hl];exact hL.br),bb,aT,hj];rfl
   rw[hq',vh e _ a1]at hv;exact hv
  refine⟨by lia,λhq'=>?_,?_⟩
  ·have h1:=hsr (q.drop e.length) (by conv=>lhs;rw[←gU e.length q,hq']);refine⟨⟨v,h1⟩,λp hp=>?_⟩;obtain⟨v',h2⟩:=c.lou_at _ (aA _) g1 h1 hp;have h3:=uP p h2;have h4:=c.K.gol_dp _ (aA _) g1;lia
  ·exact aY (wG c.bls7 x _) (aY (dg (by decide) g3) (by decide))
def m5.lou_s (c:m5 w0 w1 w2 w3 w4 w5 tt B) (e:nc B s=none) (hc:∀x∈ts,uS B a x (qW r)) (hl:∀x∈ts,∀q,(x.lou B q).length≤20000) (hp:∀x∈ts,∀q v,(ak B x).at q=aa v→ ∀p∈x.lou B q,p.length≤1000):uS B a (.nd s ts) (qW (r+2)):=λ{S Q E q v} ha hv hq h=>by
 have es:ak B (.nd s ts)= .nd s (ts.map (ak B)):=by rw[ak,qh e]
 rw[es]at hv;have ex:lA (.nd s ts)= .bW (.str s::af ts):=by simp [lA]
 rw[qW,ex];walk_at "wp";refine wO ha ?_;rw[e];simp only[oI]
 try walk_at "wp"
 refine⟨aQ _,?_⟩;rw[Fq];cases q with
 |nil=>
  rw[B' e]at h;exact⟨aQ _,by decide,λf hf=>⟨_, .refl,h f hf⟩⟩
 |cons i q=>
  simp only[iD,cE,if_false];obtain⟨w,h0,h1,h2⟩:=pU hv;obtain⟨i,rfl⟩:∃i':Nat,i=i':=⟨i.toNat,by lia⟩
  rw[bb,aT]at h1;cases ei:ts[i]? with
  |none=>rw[ei]at h1;cases h1
  |some x=>
   rw[ei]at h1;cases h1;have hx:=aJ ei;rw[vP e ei]at h;rw[aU]at hq;have ep:mE ((i:Int)::q)= .bW (.int i::q.map W.int):=rfl;simp only[ep];walk_at "wp";rw[L' ei];dsimp only
   try walk_at "wp"
   refine hc x hx (q:=q) ha h2 (by lia) λg hg=>?_;dsimp only;rw[ni mV];have l1:=hl x hx q;refine qe (λσ=>∃z,σ=[z,aa (.int i)]) mE (λp=>mE ((i:Int)::p)) mV (x.lou B q) [] _ ⟨none,rfl⟩ (by simp;lia) (λp hp' σ R hI hR=>?_) ?_
   ·obtain⟨z,rfl⟩:=hI;rw[rA,OM];have l2:=hp x hx q _ h2 p hp';have:=hR [aa (mE p),aa (.int i)] S ⟨_,rfl⟩ ;walk_at "wp";unfold mE;walk_at "wp";have:=hR [aa (mE p),aa (.int i)] _ ⟨_,rfl⟩ .refl;unfold mE at this;rw[aC]at this;exact⟨by decide,m_ (by simp;lia),this⟩
   ·rw[aX];intro f hf;obtain⟨hf1,hf2⟩:=rf hf;have:=h f hf1;rw[bu]at this;exact⟨_, .put2 (.bQ .refl hg),this⟩
def m5.lou_t (c:m5 w0 w1 w2 w3 w4 w5 tt B) (ht:t∈B) (hl:ts.length=t.2.1.nb) (hx:∀x∈ts,Wy [w0,w1,w2,w3,w4,w5] B x∧uS B a x (qW r)∧x.ne B≤5∧x.depth≤100) (hr:20≤r):uS B a (.nd t.1 ts) (qW (r+2)):=λ{S Q E q v} ha hv hq h=>by
 have et:=rg c.K.b.nd ht;rw[yS et]at h;have ex:lA (.nd t.1 ts)= .bW (.str t.1::af ts):=by simp [lA]
 rw[qW,ex];walk_at "wp";refine wO ha ?_;rw[et];simp only[oI];rw[←ex]
 try walk_at "wp"
 have isT:∀K:WK,K (.bl true) S→pA true (mQ t) .ci S K:=λK q=>by
  unfold mQ;rw[LV];exact q
 refine isT _ ?_;dsimp only;rw[if_pos rfl];exact c.ok_lbelow ht hl hx ha hv hq (by lia) λf hf=>⟨_, .refl,h f hf⟩
theorem m5.ok_lou (c:m5 w0 w1 w2 w3 w4 w5 tt B):∀(n:Nat) {x:Tr}{r:Nat},x.depth≤n→n≤100→2*n+22≤r→Wy [w0,w1,w2,w3,w4,w5] B x→x.ne B≤5→uS B a x (qW r)
 |0,x,r,hn,_,hr,hx,he=>by have:=qD x;lia
 |n+1,x,r,hn,h100,hr,hx,he=>by
  obtain⟨r',er⟩:∃r',r=r'+2:=⟨r - 2,by lia⟩
  have e1:qW r=qW (r'+2):=by rw[er]
  rw[e1];obtain ⟨s,ts,rfl,hh,e,k⟩ |⟨t,ts,ht,rfl,e,hl,k⟩:=Wy.cases c.K.b hx
  ·rw[Tr.depth]at hn;rw[BW e]at he;have kid:∀x∈ts,x.depth≤n∧x.ne B≤5:=λx hx=>⟨by have:=p7 hx;lia,by have:=wS (B:=B) hx;lia⟩
   refine c.lou_s e (λx hx=>m5.ok_lou c n (kid x hx).1 (by lia) (by lia) (k x hx) (kid x hx).2) (λx hx q=>?_) λx hx q v hv p hp=>?_
   ·exact aY (wG c.bls7 x q) (aY (dg (by decide) (kid x hx).2) (by decide))
   ·obtain⟨v',h2⟩:=c.lou_at _ (aA _) (k x hx) hv hp;have h3:=uP p h2;have h4:=c.K.gol_dp _ (aA _) (k x hx);have:=(kid x hx).1;lia
  ·rw[Tr.depth]at hn;rw[C9 e]at he;exact c.lou_t ht hl (λx hx=>⟨k x hx,m5.ok_lou c n (by have:=p7 hx;lia) (by lia) (by lia) (k x hx) (by have:=wS (B:=B) hx;lia),by have:=wS (B:=B) hx;lia,by have:=p7 hx;lia⟩) (by lia)
structure vy (ws:List ah) (B:List Tn) (x:Tr):Prop where
  w:Wy ws B x
  d:x.depth≤40
  n:x.ne B≤5
theorem HE{l:ai}{f:ai}{ps0:List (List Int)}{EX:WX}{D:m4}{S1:lF}{y2:Option W}(c:m5 w0 w1 w2 w3 w4 w5 tt B) (hx:vy [w0,w1,w2,w3,w4,w5] B x) (ha:S1 a=aa (.bP (B.map mQ))) (hl:S1 l=aa (.bP (ps0.map mE))) (hf:S1 f=none) (hr:102≤r):∀(ps:List (List Int)) {L:List (List Int)}{y4:Option W},(∀p∈ps,p.length≤1000∧ ∃v,(ak B x).at p=aa v)→L.length+ps.length*7 ^ x.ne B≤900000→
  (∀z4,D.nx [aa (.ref a),aa (lA x),y2,aa (.ref f),z4] (bQ S1 f (.bP ((L++ps.flatMap (x.lou B)).map mE))))→
  mS (mB 4) (F5 r mK) EX D (λS'=>S' l=aa (.bP (ps0.map mE))) (ps.map mE) [aa (.ref a),aa (lA x),y2,aa (.ref f),y4] (bQ S1 f (.bP (L.map mE)))
 | [],L,y4,_,_,h=>by
  have:=h y4;rw[cZ,bf]at this;exact this
 |p::ps,L,y4,hp,hn,h=>by
  have fa:f≠a:=by rintro rfl;rw[ha]at hf;cases hf
  have fl:f≠l:=by rintro rfl;rw[hl]at hf;cases hf
  obtain⟨p1,v,p2⟩:=hp p aL;have ll:=wG c.bls7 x p;rw[aU,cf,c6]at hn;rw[aC];refine pV λN hN=>?_;rw[rA,F5];ext;refine c.ok_lou 40 hx.d (by decide) (by lia) hx.w hx.n (q:=p) (by rw[nQ fa.symm];exact ha) p2 p1 λg hg=>?_;obtain⟨hg1,hg2⟩:=rf hg
  try ext
  rw[Bj hg2.symm];rw[ni mV,pM];rw[←bK];refine⟨m_ (by rw[ay,ay];lia),hN _ _ (bQ S1 f (.bP ((L++x.lou B p).map mE))) (Cm (.bQ .refl hg1)) (by rw[nQ fl.symm];exact hl) ?_⟩;refine HE c hx ha hl hf hr ps (λq hq=>hp q (aI _ hq)) (by rw[a_];lia) λz4=>?_;have:=h z4;rw[cw,←bD]at this;exact this
def m5.ok_still{S:lF}{Q:WK}{E:ah→lF→Prop}{l:ai}{ps:List (List Int)}(c:m5 w0 w1 w2 w3 w4 w5 tt B) (hx:vy [w0,w1,w2,w3,w4,w5] B x) (ha:S a=aa (.bP (B.map mQ))) (hl:S l=aa (.bP (ps.map mE))) (hp:∀p∈ps,p.length≤1000∧ ∃v,(ak B x).at p=aa v) (hn:ps.length*7 ^ x.ne B≤900000) (hr:102≤r)
  (h:∀f,S f=none→Q (.ref f) (bQ S f (.bP ((ps.flatMap (x.lou B)).map mE)))):xQ (r+1) [.ref a,lA x, .ref l] S Q E:=by
 rw[xQ];ext;refine⟨aQ _,λf hf=>?_⟩;have fl:f≠l:=by rintro rfl;rw[hl]at hf;cases hf
 rw[ni (keep hl hf)];refine HE (L:=[]) (y4:=none) c hx ha hl hf hr ps hp (by rw[db];lia) λz4=>?_;ext;exact⟨_, .refl,h f hf⟩
theorem Ic{S:lF}{lw:ai}{xs0:List Tr}{EX:WX}{D:m4}{y1:Option W}(c:m5 w0 w1 w2 w3 w4 w5 tt B) (ha:S a=aa (.bP (B.map mQ))) (hl:S lw=aa (.bP (xs0.map lA))) (hr:103≤r):∀(xs:List Tr) {X:Tr}{l:ai}{ps:List (List Int)}{y2 y4:Option W},(∀x∈xs,vy [w0,w1,w2,w3,w4,w5] B x)→nP [w0,w1,w2,w3,w4,w5] B X xs→(∀p∈ps,p.length≤1000∧ ∃v,X.at p=aa v)→ps.length*7 ^ nR B xs≤900000→S l=none→
  (∀l' y2 z4,S l'=none→D.nx [aa (.ref a),y1,y2,aa (.ref l'),z4] (bQ S l' (.bP ((qi B xs ps).map mE))))→
  mS (mB 4) (F_ r mK) EX D (λS'=>S' lw=aa (.bP (xs0.map lA))) (xs.map lA) [aa (.ref a),y1,y2,aa (.ref l),y4] (bQ S l (.bP (ps.map mE)))
 | [],X,l,ps,y2,y4,_,_,_,_,h0,h=>h l y2 y4 h0
 |x::xs,X,l,ps,y2,y4,hx,⟨x1,x2,x3⟩,hp,hn,h0,h=>by
  have wx:=hx x aL;rw[nR,gT,←jx]at hn;have h7:=kf (nR B xs) 7 (by decide);have hn1:ps.length*7 ^ x.ne B≤900000:=aY (kO _ h7) hn;have fl:=CY (f:=x.lou B) (k:=7 ^ x.ne B) ps λp _=>wG c.bls7 x p;rw[aC];refine pV λN hN=>?_;rw[rA,F_];ext;obtain⟨r',er⟩:∃r',r=r'+1:=⟨r - 1,by lia⟩
  have e1:xQ r=xQ (r'+1):=by rw[er]
  rw[e1];refine c.ok_still wx (keep ha h0) mV (λp hp'=>?_) hn1 (by lia) λg hg=>?_
  ·obtain⟨g1,v,g2⟩:=hp p hp';exact⟨g1,v,by rw[x2];exact g2⟩
  ·obtain⟨hg1,hg2⟩:=rf hg;refine hN _ _ (bQ S g (.bP ((ps.flatMap (x.lou B)).map mE))) (.put2 (.bQ .refl h0)) ?_ ?_
   ·exact keep hl hg1
   ·refine Ic c ha hl hr xs (λy hy=>hx y (aI _ hy)) x3 (λp hp'=>?_) (aY (dA _ fl) hn) hg1 h;obtain⟨q,hq,hpq⟩:=d9.mp hp';obtain⟨g1,v,g2⟩:=hp q hq;obtain⟨v',g3⟩:=c.lou_at _ (aA _) x1 (by rw[x2];exact g2) hpq;have h3:=uP p g3;have h4:=c.K.gol_dp _ (aA _) x1;have:=wx.d;exact⟨by lia,v',g3⟩
def OP{S:lF}{l q:ai}{ps:List (List Int)}(hl:S l=aa (.bP (ps.map mE))) (hq:S q=aa (.bP [])):n_ S 60 (.ref l) (.ref q)=aa ps.isEmpty:=by
 show(match S l with
  |some (.bP xs)=>match S q with
   |some (.bP ys)=>oY (n_ S 59) xs ys
   |_=>none
  |_=>none)=_
 rw[hl,hq];cases ps with
 |nil=>rfl
 |cons p ps=>rfl
def m5.ok_isdone{E:ah→lF→Prop}(c:m5 w0 w1 w2 w3 w4 w5 tt B) (hx:∀x∈xs,vy [w0,w1,w2,w3,w4,w5] B x) (hR:nP [w0,w1,w2,w3,w4,w5] B X xs) (ha:S a=aa (.bP (B.map mQ))) (hl:S lw=aa (.bP (xs.map lA))) (hq:X.at q=aa v) (hq1:q.length≤1000) (hn:nR B xs≤7) (hr:103≤r)
  (h:∀S',Sub S S'→Q (.bl (qi B xs [q]).isEmpty) S'):By (r+1) [.ref a,mE q, .ref lw] S Q E:=by
 rw[By];ext;refine⟨by decide,λl h0=>?_⟩;rw[ni (keep hl h0)];refine Ic (ps:=[q]) (y2:=aa (.ref lw)) (y4:=none) c ha hl hr xs hx hR (λp hp=>?_) ?_ h0 λl' y2 z4 hl'=>?_
 ·rw[bi.mp hp];exact⟨hq1,v,hq⟩
 ·have:=dg (n:=7) (by decide) hn;rw[cA,c6];exact aY this (by decide)
 ·ext;refine⟨aQ _,λz hz=>?_⟩;rw[OP (keep mV hz) mV];exact⟨_, .refl,h _ ((Sub.bQ .refl hl').trans (.bQ .refl hz))⟩
noncomputable def u6 (B:List Tn) (X:Tr) (xs:List Tr):Option (List Int):=((X.op B []).map λz=>z.1).find? λq=>(qi B xs [q]).isEmpty
noncomputable def RJ:Option (List Int)→W
 |some q=>mE q
 |none=> .ci
def m5.ok_first{E:ah→lF→Prop}(c:m5 w0 w1 w2 w3 w4 w5 tt B) (hx:∀x∈xs,vy [w0,w1,w2,w3,w4,w5] B x) (hX:Sh [w0,w1,w2,w3,w4,w5] B X) (hs:X.bo=true) (hR:nP [w0,w1,w2,w3,w4,w5] B X xs) (ha:S a=aa (.bP (B.map mQ))) (hl:S lw=aa (.bP (xs.map lA))) (hn:nR B xs≤7) (hr:110≤r)
  (h:∀S',Sub S S'→Q (RJ (u6 B X xs)) S'):A9 (r+1) [.ref a, .bW [lA X, .ref lw]] S Q E:=by
 obtain⟨h3,h4⟩:=rj hs;have hol:=wT B X [];obtain⟨r,rfl⟩:∃r',r=r'+1:=⟨r - 1,by lia⟩
 rw[A9];ext;refine Ak c.L ha (by lia) (by lia) (by lia) hX.hdT λq1 hq1=>?_;refine Do mV (by lia) λq2 hq2=>?_;have sb:Sub S (bQ (bQ S q1 (.bP ((X.op B []).map encX))) q2 (.bP (((X.op B []).map λx=>x.1).map mE))):=(Sub.bQ .refl hq1).trans (.bQ .refl hq2);dsimp only;rw[ni mV];have f2:bQ (bQ S q1 (.bP ((X.op B []).map encX))) q2 (.bP (((X.op B []).map λx=>x.1).map mE)) q2=aa (.bP (((X.op B []).map λx=>x.1).map mE)):=mV;generalize bQ (bQ S q1 (.bP ((X.op B []).map encX))) q2 (.bP (((X.op B []).map λx=>x.1).map mE))=S2 at sb f2;have fs:∀ps:List (List Int),(ps.findSome? λq=>if(qi B xs [q]).isEmpty then aa (mE q) else none)=(ps.find? λq=>(qi B xs [q]).isEmpty).map mE:=λps=>by
  induction ps with
  |nil=>rfl
  |cons p ps ih=>
   rw[d7,cc];cases e:(qi B xs [p]).isEmpty with
   |true=>rfl
   |false=>exact ih
 refine vR f2 (λσ=>∃z,σ=[aa (.ref a),aa (.bW [lA X, .ref lw]),z]) mE (λq=>if(qi B xs [q]).isEmpty then aa (mE q) else none) _ _ ⟨none,rfl⟩ (λq hq σ N hI h1 h2=>?_) (λe σ hI=>?_) λw e S' s'=>?_
 ·obtain⟨z,rfl⟩:=hI;obtain⟨y,hy,rfl⟩:=aV.mp hq;obtain⟨q',t,us,e1,o⟩:=yu c.K _ (aA _) hX hy;rw[aX]at e1;have hd:=uP q' o.hat;rw[rA,Jv];ext;rw[show nE [lA X,W.ref lw] 1=aa (.ref lw) from rfl];dsimp only;refine c.ok_isdone hx hR (sb _ _ ha) (sb _ _ hl) (by rw[e1];exact o.hat) (by rw[e1];lia) hn (by lia) λS3 s3=>?_;ext;cases e:(qi B xs [y.1]).isEmpty with
  |true=>exact h2 _ (by rw[e];rfl) _ s3
  |false=>exact h1 (by rw[e];rfl) _ _ ⟨_,rfl⟩ s3
 ·ext;refine⟨_, .refl,?_⟩;have:=h _ sb;rw[fs]at e;unfold u6 at this;cases e2:((X.op B []).map λz=>z.1).find? λq=>(qi B xs [q]).isEmpty with
  |none=>rw[e2]at this;exact this
  |some p=>rw[e2]at e;cases e
 ·rw[fs]at e;have:=h _ (sb.trans s');unfold u6 at this;cases e2:((X.op B []).map λz=>z.1).find? λq=>(qi B xs [q]).isEmpty with
  |none=>rw[e2]at e;cases e
  |some p=>
   rw[e2]at e this;cases e;exact⟨_, .refl,this⟩
def m5.shs (c:m5 w0 w1 w2 w3 w4 w5 tt B) {x:Tr}(hx:Wy [w0,w1,w2,w3,w4,w5] B x):Sh [w0,w1,w2,w3,w4,w5] B (ak B x):=⟨(c.K.ak hx).1,(c.K.ak hx).2.1⟩
def HH{α:Type}{l:List α}(h:∀x,¬x∈l):l=[]:=by
 cases l with
 |nil=>rfl
 |cons x l=>exact absurd aL (h x)
def m5.up_ou (c:m5 w0 w1 w2 w3 w4 w5 tt B) {x:Tr}{q:List Int}(u:Up B x q):Wy [w0,w1,w2,w3,w4,w5] B x→(∃t us,Ou [w0,w1,w2,w3,w4,w5] B (ak B x) q t us)∧x.lou B q=[]:=by
 induction u with
 | @here h ts t e=>
  intro hx;have ht:t∈B:=bX e;have hh:t.1=h:=by simpa using fi e
  subst hh;have hl:ts.length=t.2.1.nb:=by
   have:=hx.ar;rw[Tr.ar]at this;exact this.1 t e
  have es:ak B (.nd t.1 ts)=t.2.1.aD (ts.map (ak B)):=by rw[ak,p4 e]
  refine⟨⟨t,ts.map (ak B),ht,by rw[ay,hl],by rw[pC,es],λy hy=>?_⟩,HH λq'=>c.lou_top ht⟩
  obtain⟨z,hz,rfl⟩:=aV.mp hy;exact c.shs (hx.dI z hz)
 | @sgn h ts i x q e hi _ ih=>
  intro hx;obtain⟨⟨t,us,o⟩,hl⟩:=ih (hx.dI x (aJ hi));have es:ak B (.nd h ts)= .nd h (ts.map (ak B)):=by rw[ak,qh e]
  refine⟨⟨t,us,o.ht,o.hl,?_,o.sh⟩,by rw[vP e hi,hl];rfl⟩
  rw[es,rZ (show(ts.map (ak B))[i]? =aa (ak B x) by rw[aT,hi];rfl)]
  exact o.hat
 | @tit h ts t i x e q et he hi _ ih=>
  intro hx;obtain⟨⟨t',us,o⟩,hl⟩:=ih (hx.dI x (aJ hi));have ht:t∈B:=bX et;have hh:t.1=h:=by simpa using fi et
  subst hh;have hn:ts.length=t.2.1.nb:=by
   have:=hx.ar;rw[Tr.ar]at this;exact this.1 t et
  have es:ak B (.nd t.1 ts)=t.2.1.aD (ts.map (ak B)):=by rw[ak,p4 et]
  have a1:(ak B (.nd t.1 ts)).at e=aa (ak B x):=by
   rw[es,xo e he (by rw[ay,hn];exact(c.K.b.lf t ht).br),bb,aT,hi];rfl
  refine⟨⟨t',us,o.ht,o.hl,by rw[vh e _ a1];exact o.hat,o.sh⟩,HH λq' h=>?_⟩
  obtain⟨b,r',_,h2,_⟩:=(c.lou_tit ht he hi).mp h;rw[hl]at h2;cases h2
theorem NW (hB:∀t∈B,p5 t.1):∀(q:List Int) {x v:Tr},x.hd ox→x.at q=aa v→x.lou B q=[q]
 | [], .bl n,v,h,e=>by rw[Tr.hd]at h;exact h.elim
 | [], .nd s ts,v,h,e=>by
  rw[Tr.hd]at h;rw[B' (qc hB h.1)]
 |i::q, .bl n,v,h,e=>by cases e
 |i::q, .nd s ts,v,h,e=>by
  obtain⟨w,h0,h1,h2⟩:=pU e;obtain⟨i,rfl⟩:∃i':Nat,i=i':=⟨i.toNat,by lia⟩
  rw[bb]at h1;rw[Tr.hd,m3]at h;rw[vP (qc hB h.1) h1,NW hB q (h.2 w (aJ h1)) h2];rfl
theorem Jf:∀xs:List Tr,qi B xs []=[]
 | []=>rfl
 |x::xs=>by rw[qi,cZ];exact Jf xs
theorem m5.some_done (c:m5 w0 w1 w2 w3 w4 w5 tt B):∀(xs:List Tr) {X:Tr},nP [w0,w1,w2,w3,w4,w5] B X xs→xs.all Tr.dO=false→ ∃q t us,Ou [w0,w1,w2,w3,w4,w5] B X q t us∧qi B xs [q]=[]
 | [],X,_,h=>by cases h
 |x::xs,X,⟨x1,x2,x3⟩,h=>by
  cases e:x.dO with
  |true=>
   rw[eM,e,jF]at h;have sg:=wJ x e;have e1:ak B x=x:=rV c.K.b.ti x sg;have e2:b7 B x=x:=rV c.K.b.ti x sg;obtain⟨q,t,us,o,hd⟩:=m5.some_done c xs x3 h;rw[e2,←e1,x2]at o;refine⟨q,t,us,o,?_⟩;rw[qi,cw,cZ,bf,NW c.K.b.ti q sg (v:=t.2.1.aD us) (by rw[←e1,x2];exact o.hat)];exact hd
  |false=>
   have:¬ ∀q,¬Up B x q:=λz=>by
    rw[(c.up_quiet x1).mpr z]at e;cases e
   obtain⟨q,u⟩:=Classical.not_forall_not.mp this;obtain⟨⟨t,us,o⟩,hl⟩:=c.up_ou u x1;rw[x2]at o;refine⟨q,t,us,o,?_⟩;rw[qi,cw,cZ,bf,hl];exact Jf xs
def m5.fst_some (c:m5 w0 w1 w2 w3 w4 w5 tt B) {X:Tr}{xs:List Tr}(hX:Sh [w0,w1,w2,w3,w4,w5] B X) (hR:nP [w0,w1,w2,w3,w4,w5] B X xs) (h:xs.all Tr.dO=false):∃q t us,u6 B X xs=aa q∧Ou [w0,w1,w2,w3,w4,w5] B X q t us∧qi B xs [q]=[]:=by
 obtain⟨q,t,us,o,hd⟩:=c.some_done xs hR h;have hm:=o.op c.K c.F;cases e:u6 B X xs with
 |none=>
  unfold u6 at e;have:=gX.mp e q hm;rw[hd]at this;exact absurd rfl this
 |some p=>
  have h1:=bX e;have h2:=fi e;obtain⟨y,hy,rfl⟩:=aV.mp h1;obtain⟨q',t',us',e1,o'⟩:=yu c.K _ (aA _) hX hy;rw[aX]at e1;exact⟨y.1,t',us',rfl,by rw[e1];exact o',cB.mp h2⟩
inductive wf (ws:List ah) (B:List Tn):Tr→List Tr→List (List Int)→Prop
 |nil {X:Tr}{xs:List Tr}:xs.all Tr.dO=true→wf ws B X xs []
 |cons {X:Tr}{xs us:List Tr}{q:List Int}{t:Tn}{ps:List (List Int)}:xs.all Tr.dO=false→u6 B X xs=aa q→Ou ws B X q t us→qi B xs [q]=[]→wf ws B (toO X q t us) (oK B xs [wyO X q t us]) ps→wf ws B X xs (q::ps)
structure JX (ws:List ah) (B:List Tn) (I:Nat→Tr→List Tr→Prop):Prop where
  sh:∀{m X xs},I m X xs→Sh ws B X∧X.bo=true
  ro:∀{m X xs},I m X xs→nP ws B X xs∧xs.length≤700∧nR B xs≤7
  wy:∀{m X xs},I m X xs→ ∀x∈xs,vy ws B x∧(ak B x).bo=true
  go:∀{m X xs q t us},I m X xs→Ou ws B X q t us→qi B xs [q]=[]→xs.all Tr.dO=false→pj B xs [wyO X q t us]∧ ∃m',m'<m∧I m' (toO X q t us) (oK B xs [wyO X q t us])
def Vk{ps:List (List Int)}{y3:Option W}(hf:S f=aa (.bP (ps.map mE))) (hn:ps.length<60) (h:T EX D [aa (.ref a),y1,aa (.ref f),y3,y4] S):DK r T EX D [aa (.ref a),y1,aa (.ref f),y3,y4] S:=by
 rw[DK];ext;rw[ni hf,ay];have e:((ps.length:Int) == 60)=false:=by rw[beq_eq_false_iff_ne];lia
 try rw[e]
 try simp only[cE,if_false]
 exact h
def Wo (c:m5 w0 w1 w2 w3 w4 w5 tt B) (hx:∀x∈xs,vy [w0,w1,w2,w3,w4,w5] B x) (hX:Sh [w0,w1,w2,w3,w4,w5] B X) (hs:X.bo=true) (hR:nP [w0,w1,w2,w3,w4,w5] B X xs) (ha:S a=aa (.bP (B.map mQ))) (hl:S lw=aa (.bP (xs.map lA))) (hn:nR B xs≤7) (hr:111≤r) (hq:u6 B X xs=aa q)
  (h:∀S',Sub S S'→T EX D [aa (.ref a),y1,y2,aa (.bW [lA X, .ref lw]),aa (mE q)] S'):Fc r T EX D [aa (.ref a),y1,y2,aa (.bW [lA X, .ref lw]),y4] S:=by
 obtain⟨r,rfl⟩:∃r',r=r'+1:=⟨r - 1,by lia⟩
 rw[Fc];ext;refine c.ok_first hx hX hs hR ha hl hn (by lia) λS' s'=>?_;rw[hq];exact h S' s'
def Th (hf:S f=aa (.bP (ps.map mE))) (hn:ps.length<60) (h:T EX D [aa (.ref a),y1,aa (.ref f),y3,aa (mE q)] (bQ S f (.bP ((ps++[q]).map mE)))):Dc r T EX D [aa (.ref a),y1,aa (.ref f),y3,aa (mE q)] S:=by
 rw[Dc];ext;rw[ni hf,ni hf];rw[bK]at h;exact⟨trivial,qJ (by rw[ay];lia),h⟩
def TR (c:m5 w0 w1 w2 w3 w4 w5 tt B) (hX:Sh [w0,w1,w2,w3,w4,w5] B X) (hs:X.bo=true) (hR:nP [w0,w1,w2,w3,w4,w5] B X xs) (o:Ou [w0,w1,w2,w3,w4,w5] B X q t us) (gg:pj B xs [wyO X q t us]) (hlen:xs.length≤700) (ha:S a=aa (.bP (B.map mQ))) (hl:S lw=aa (.bP (xs.map lA))) (hr:115≤r)
  (h:∀S' l',Sub S S'→S l'=none→S' l'=aa (.bP ((oK B xs [wyO X q t us]).map lA))→D.nx [aa (.ref a),y1,y2,aa (.bW [lA (toO X q t us), .ref l']),aa (mE q)] S'):Dn r EX D [aa (.ref a),y1,y2,aa (.bW [lA X, .ref lw]),aa (mE q)] S:=by
 obtain⟨h3,h4⟩:=rj hs;obtain⟨r,rfl⟩:∃r',r=r'+1:=⟨r - 1,by lia⟩
 rw[Dn];ext;refine⟨by decide,λp1 hp1=>?_⟩;refine Fl c.L c.P (o.wi c.K c.F hX) (by lia) (by lia) (keep ha hp1) (wn:=[q]) mV hX.hdT (by lia) (by simp) ?_;refine⟨by decide,λp2 hp2=>?_⟩;have s2:Sub S (bQ (bQ S p1 (.bP [mE q])) p2 (.bP [lA (wyO X q t us)])):=(Sub.bQ .refl hp1).trans (.bQ .refl hp2);have f2:bQ (bQ S p1 (.bP [mE q])) p2 (.bP [lA (wyO X q t us)]) p2=aa (.bP ([wyO X q t us].map lA)):=mV;generalize bQ (bQ S p1 (.bP [mE q])) p2 (.bP [lA (wyO X q t us)])=S2 at s2 f2⊢;refine⟨by decide,?_⟩;have ws:=o.wy c.K hX;have es:=o.ak c.K hX;refine Xb c.K (s2 _ _ ha) (s2 _ _ hl) f2 hR ⟨ws,es,trivial⟩ hs hlen (by simp) (by lia) (λn=>absurd rfl n) (λ_ n=>absurd gg n) λ_ _ S' l' s' n' fl=>?_;have ee:ov B X [wyO X q t us]=toO X q t us:=o.b7 c.K hX;rw[ee];exact h S' l' (s2.trans s') (Bt s2 n') fl
section
variable {w0 w1 w2 w3 w4 w5:ah}{tt:List ah}{B:List Tn}{a lw:ai}{r:Nat}{X:Tr}{xs:List Tr}{S:lF}{Q:WK}{E:ah→lF→Prop}
def m5.ok_standard (c:m5 w0 w1 w2 w3 w4 w5 tt B) {I:Nat→Tr→List Tr→Prop}(hI:JX [w0,w1,w2,w3,w4,w5] B I) (h0:I m X xs) (hm:m≤60) (ha:S a=aa (.bP (B.map mQ))) (hl:S lw=aa (.bP (xs.map lA))) (hr:116≤r)
  (h:∀S' f ps,Sub S S'→wf [w0,w1,w2,w3,w4,w5] B X xs ps→ps.length≤60→S' f=aa (.bP (ps.map mE))→Q (.ref f) S'):A_ (r+1) [.ref a, .bW [lA X, .ref lw]] S Q E:=by
 rw[A_,uf];refine⟨rfl,?_⟩;rw[Kv];ext;refine⟨aQ _,λf hf=>?_⟩;rw[Kk];ext;rw[IQ];ext;refine⟨λn σ S'=>∃(X':Tr) (xs':List Tr) (ps:List (List Int)) (l':ai) (y4:Option W),σ=[aa (.ref a),aa (.bW [lA X, .ref lw]),aa (.ref f),aa (.bW [lA X', .ref l']),y4]∧I n X' xs'∧ps.length+n≤60∧Sub S S'∧S' f=aa (.bP (ps.map mE))∧S' l'=aa (.bP (xs'.map lA))∧f≠l'∧ ∀rest,wf [w0,w1,w2,w3,w4,w5] B X' xs' rest→wf [w0,w1,w2,w3,w4,w5] B X xs (ps++rest),⟨m,X,xs,[],lw,none,rfl,h0,by simpa using hm, .bQ .refl hf,mV,keep hl hf,(by rintro rfl;rw[hl]at hf;cases hf),λrest z=>z⟩,?_⟩
 rintro n σ S' ⟨X',xs',ps,l',y4,rfl,i1,i2,i3,i4,i5,fl',i6⟩;obtain⟨sX,mX⟩:=hI.sh i1;obtain⟨rX,lX,nX⟩:=hI.ro i1;have wX:=hI.wy i1;ext;rw[show nE [lA X',W.ref l'] 1=aa (.ref l') from rfl];dsimp only;obtain⟨r',er⟩:∃r',r=r'+1:=⟨r - 1,by lia⟩
 have e1:vB r=vB (r'+1):=by rw[er]
 rw[e1];refine MF c.K i5 (λx hx=>⟨(wX x hx).1.w,(wX x hx).2⟩) (by lia) (by lia) ?_;ext;cases e:xs'.all Tr.dO with
 |true=>
  simp only[jn,cE,if_false];rw[IG];ext;refine⟨_, .refl,h S' f ps i3 ?_ (by lia) i4⟩;have:=i6 [] (.nil e);rw[bf]at this;exact this
 |false=>
  simp only[kN,if_true];obtain⟨q,t,us,hq,o,hd⟩:=c.fst_some sX rX e;obtain⟨gg,m',hm',im⟩:=hI.go i1 o hd e;rw[Mp];refine Vk i4 (by lia) (Wo c (λx hx=>(wX x hx).1) sX mX rX (i3 _ _ ha) i5 nX (by lia) hq λS2 s2=>Th (s2 _ _ i4) (by lia) ?_);have s3:Sub S (bQ S2 f (.bP ((ps++[q]).map mE))):= .bQ (i3.trans s2) hf;refine TR c sX mX rX o gg lX (s3 _ _ ha) (by rw[nQ fl'.symm];exact s2 _ _ i5) (by lia) λS4 l4 s4 n4 f4=>?_;refine⟨m',S4,hm', .refl,_,_,ps++[q],l4,_,rfl,im,by rw[a_,cA];lia,s3.trans s4,s4 _ _ mV,f4,(by rintro rfl;rw[mV]at n4;cases n4),λrest z=>?_⟩
  have:=i6 (q::rest) (.cons e hq o hd z);rw[bD];exact this
end
section
variable {w0 w1 w2 w3 w4 w5:ah}{tt:List ah}{B:List Tn}
theorem GL:∀(ts:List Tr) (i j:Nat),ts[i]? =aa x→x.ms B m≤nz B m (λ_=>1) j ts
 | [],i,j,h=>by cases h
 |t::ts,0,j,h=>by
  cases h;rw[nz];lia
 |t::ts,i+1,j,h=>by
  rw[bT]at h;have:=GL (m:=m) ts i (j+1) h;rw[nz];lia
def QF (u:Up B x q):1≤x.ms B mN:=by
 induction u with
 | @here h ts t e=>
  rw[t8 e];have:mN.c1=1:=rfl;lia
 | @sgn h ts i x q e hi _ ih=>
  rw[vo e];have:=GL (B:=B) (m:=mN) ts i 0 hi;lia
 | @tit h ts t i x e q et he hi _ ih=>
  rw[t8 et];have:mN.c1=1:=rfl;lia
theorem Dr.roads (d:Dr w0 w1 w2 w3 w4 w5 tt B):∀(xs:List Tr) {t:Tr},nP [w0,w1,w2,w3,w4,w5] B t xs→Cl w0 w1 w2 w3 w4 w5 B t→(∀x∈xs,Wy [w0,w1,w2,w3,w4,w5] B x∧Cl w0 w1 w2 w3 w4 w5 B (ak B x)∧Cl w0 w1 w2 w3 w4 w5 B (b7 B x))∧Cl w0 w1 w2 w3 w4 w5 B (ov B t xs)
 | [],t,_,h=>⟨λx hx=>(by cases hx),h⟩
 |x::xs,t,⟨x1,x2,x3⟩,h=>by
  have h1:Cl w0 w1 w2 w3 w4 w5 B (ak B x):=by rw[x2];exact h
  have h2:=d.cl x1 h1;obtain⟨k1,k2⟩:=Dr.roads d xs x3 h2;refine⟨λy hy=>?_,k2⟩;obtain rfl |hy:=az.mp hy
  ·exact⟨x1,h1,h2⟩
  ·exact k1 y hy
theorem Dr.lok (d:Dr w0 w1 w2 w3 w4 w5 tt B):∀(os:List Tr) {x t:Tr},Wy [w0,w1,w2,w3,w4,w5] B x→ak B x=t→nP [w0,w1,w2,w3,w4,w5] B t os→Cl w0 w1 w2 w3 w4 w5 B t→uB B x os
 | [],x,t,_,_,_,_=>trivial
 |o::os,x,t,hx,ex,⟨o1,o2,o3⟩,h=>by
  have m:=d.c.K.moved hx o1 (by rw[ex,o2]);have h1:Cl w0 w1 w2 w3 w4 w5 B (b7 B o):=d.cl o1 (by rw[o2];exact h);exact⟨(d.cl m.wy (by rw[m.sr];exact h1)).sm,Dr.lok d os m.wy m.sr o3 h1⟩
theorem Dr.gok (d:Dr w0 w1 w2 w3 w4 w5 tt B):∀(xs:List Tr) {os:List Tr}{t:Tr},nP [w0,w1,w2,w3,w4,w5] B t xs→nP [w0,w1,w2,w3,w4,w5] B t os→Cl w0 w1 w2 w3 w4 w5 B t→w_ B xs os
 | [],os,t,_,_,_=>trivial
 |x::xs,os,t,⟨x1,x2,x3⟩,ho,h=>by
  obtain⟨h1,_⟩:=uV d.c.K os x1 x2 ho;exact⟨d.lok os x1 x2 ho h,Dr.gok d xs x3 h1 (d.cl x1 (by rw[x2];exact h))⟩
def Dr.gg (d:Dr w0 w1 w2 w3 w4 w5 tt B) {xs os:List Tr}{t:Tr}(hx:nP [w0,w1,w2,w3,w4,w5] B t xs) (ho:nP [w0,w1,w2,w3,w4,w5] B t os) (h:Cl w0 w1 w2 w3 w4 w5 B t):pj B xs os:=
 ⟨λx k=>((d.roads xs hx h).1 x k).2.2.sm,λx k=>((d.roads os ho h).1 x k).2.2.sm,d.gok xs hx ho h⟩
end
section
variable {ws:List ah}{B:List Tn}
theorem Mn (K:Bk3 ws B):∀(os:List Tr) {x t:Tr},Wy ws B x→ak B x=t→nP ws B t os→(qK B x os).ne B≤x.ne B
 | [],x,t,_,_,_=>aA _
 |o::os,x,t,hx,ex,⟨o1,o2,o3⟩=>by
  have m:=K.moved hx o1 (by rw[ex,o2]);have h1:=Mn K os m.wy m.sr o3;have h2:=m.ne;rw[qK];lia
theorem OD (K:Bk3 ws B):∀(xs os:List Tr) {t:Tr},nP ws B t xs→nP ws B t os→(∀x∈xs,x.ne B≤n)→nR B (oK B xs os)≤nR B xs∧ ∀x∈oK B xs os,x.ne B≤n
 | [],os,t,_,_,_=>⟨aA _,λx hx=>(by cases hx)⟩
 |x::xs,os,t,⟨x1,x2,x3⟩,ho,hn=>by
  obtain⟨h1,_⟩:=uV K os x1 x2 ho;obtain⟨k1,k2⟩:=OD K xs _ x3 h1 λy hy=>hn y (aI _ hy);have h2:=Mn K os x1 x2 ho;have h3:=hn x aL;rw[oK,nR,nR];refine⟨by lia,λy hy=>?_⟩;obtain rfl |hy:=az.mp hy
  ·lia
  ·exact k2 y hy
end
structure S8 (w0 w1 w2 w3 w4 w5:ah) (B:List Tn) (m:Nat) (X:Tr) (xs:List Tr):Prop where
  cl:Cl w0 w1 w2 w3 w4 w5 B X
  ro:nP [w0,w1,w2,w3,w4,w5] B X xs
  le:xs.length≤700
  nr:nR B xs≤7
  ne:∀x∈xs,x.ne B≤5
  e:X.ms (hk w0 w1) mT=m
inductive Rw (ws:List ah) (B:List Tn):Tr→List (List Int)→Tr→Prop
 |nil {X:Tr}:Rw ws B X [] X
 |cons {X Z:Tr}{us:List Tr}{q:List Int}{t:Tn}{ps:List (List Int)}:Ou ws B X q t us→Rw ws B (toO X q t us) ps Z→Rw ws B X (q::ps) Z
section
variable {w0 w1 w2 w3 w4 w5:ah}{tt:List ah}{B:List Tn}
def Dr.sti (d:Dr w0 w1 w2 w3 w4 w5 tt B):JX [w0,w1,w2,w3,w4,w5] B (S8 w0 w1 w2 w3 w4 w5 B) where
  sh:=λi=>⟨i.cl.sh,i.cl.sm⟩
  ro:=λi=>⟨i.ro,i.le,i.nr⟩
  wy:=λi x hx=>by
    obtain⟨h1,h2,_⟩:=(d.roads _ i.ro i.cl).1 x hx;exact⟨⟨h1,(d.c.K.fitw h1 h2.sm).1,i.ne x hx⟩,h2.sm⟩
  go:=λ{m X xs q t us} i o hd hq=>by
    have hX:=i.cl.sh;have ws:=o.wy d.c.K hX;have es:=o.ak d.c.K hX;have eg:=o.b7 d.c.K hX;have ho:nP [w0,w1,w2,w3,w4,w5] B X [wyO X q t us]:=⟨ws,es,trivial⟩;have k1:=Aa d.c.K _ _ i.ro ho;obtain⟨k2,k3⟩:=OD d.c.K _ _ i.ro ho i.ne;have k4:=d.cl ws (by rw[es];exact i.cl);have k5:=d.ms (m:=mT) ⟨rfl,by decide⟩ _ (aA _) ws
    have k6:=QF ((Ou.up d.c (o.tt d.c.K) o.sh q hX o.hat q).mpr rfl);have k7:(mT.c1 - 3*mT.c0)=1:=rfl;have k8:=i.e;have k9:=i.nr;rw[es,eg,k7,k8]at k5;rw[eg]at k4;rw[show ov B X [wyO X q t us]=toO X q t us from eg]at k1;refine⟨d.gg i.ro ho i.cl,_,?_,k4,k1,(by rw[AS];exact i.le),(by lia),k3,rfl⟩;have:(X.bQ q (.nd t.1 us)).ms B mN=(wyO X q t us).ms B mN:=rfl;lia
theorem Bk3.quiet_end (K:Bk3 ws B):∀(xs:List Tr) {X:Tr},xs.all Tr.dO=true→nP ws B X xs→ov B X xs=X
 | [],X,_,_=>rfl
 |x::xs,X,h,⟨_,x2,x3⟩=>by
  rw[eM,bV]at h;have sg:=wJ x h.1;have e1:L2.ak B x=x:=rV K.b.ti x sg;have e2:L2.b7 B x=x:=rV K.b.ti x sg;rw[ov,Bk3.quiet_end K xs h.2 x3,e2,←e1,x2]
def m5.std_rw (c:m5 w0 w1 w2 w3 w4 w5 tt B) (s:wf [w0,w1,w2,w3,w4,w5] B X xs ps):Sh [w0,w1,w2,w3,w4,w5] B X→nP [w0,w1,w2,w3,w4,w5] B X xs→Rw [w0,w1,w2,w3,w4,w5] B X ps (ov B X xs):=by
 induction s with
 | @nil X xs h=>
  intro _ hr;rw[c.K.quiet_end xs h hr];exact .nil
 | @cons X xs us q t ps h h1 o hd _ ih=>
  intro hX hr;have ws:=o.wy c.K hX;have es:=o.ak c.K hX;have eg:=o.b7 c.K hX;have ho:nP [w0,w1,w2,w3,w4,w5] B X [wyO X q t us]:=⟨ws,es,trivial⟩;have e0:ov B X [wyO X q t us]=toO X q t us:=eg;have dr:=Aa c.K xs _ hr ho;have de:=J2 c.K xs _ hr ho;rw[e0]at dr de;obtain⟨_,w,sr,_⟩:=uV c.K xs ws es hr;have q0:=(c.done hX o hr w).mp hd;have:=ih (o.to c.K hX) dr;rw[de,oK,oK,ov,ov]at this;have e3:b7 B (qK B (wyO X q t us) xs)=ov B X xs:=by
   rw[←sr];have sg:=wJ _ q0;rw[b7,ak,rV c.K.b.ti _ sg,rV c.K.b.ti _ sg]
  rw[e3]at this;exact .cons o this
end
def Bk3.g1S (K:Bk3 ws B):pF (oo 1) B:=⟨λt ht=>(K.b.lf t ht).br,λt ht=>(K.b.lf t ht).dp,λt ht=>by
 have h1:=(K.b.lf t ht).wt;have h2:=(K.b.lf t ht).nb;show t.2.1.aq≤20;lia⟩
theorem IC{G:lF→Prop}(K:Bk3 ws B) (hG:G S) (ha:S a=aa (.bP (B.map mQ))) (hr:70≤r):∀(xs:List Tr) {t:Tr}{y1 y3:Option W},nP ws B t xs→t.bo=true→((∀x∈xs,(b7 B x).bo=true)→ ∀y2 y3,D.nx [aa (.ref a),y1,y2,y3] S)→((∃x∈xs,(b7 B x).bo=false)→ ∀σ,E "TooGreat" σ S)→mS (mB 3) (yF (r+1) mK) E D G (xs.map lA) [aa (.ref a),y1,aa (lA t),y3] S
 | [],t,y1,y3,_,_,h,_=>h (λ_ hx=>nomatch hx) _ _
 |x::xs,t,y1,y3,⟨h1,h2,h3⟩,hs,h,hE=>by
  have e1:x.mk B (oo 1)=ak B x:=by rw[Vc]
  have sx:(ak B x).bo=true:=by rw[h2];exact hs
  obtain⟨d1,w1,a1,_⟩:=K.fitw h1 sx;obtain⟨b1,b2⟩:=rj hs;rw[aC];refine pV λN hN=>?_;rw[rA];simp only[yF];ext;refine Y2 ha K.g1S d1 (by lia) a1 (by lia) (B9 (λt ht=>aY (K.g1S.wt t ht) (by decide)) _ (by lia)) (λ_=>?_) λz=>?_
  ·rw[e1,h2,xy 60 _ _ (by lia),z_]
   try ext
   refine K.ok_goalX h1 sx ha (by lia) (λz=>?_) λz=>hE ⟨x,aL,z⟩ _;refine hN _ _ _ .refl hG (IC K hG ha hr xs h3 z (λk=>h λu hu=>?_) λ⟨u,hu,e⟩=>hE ⟨u,aI _ hu,e⟩);obtain e |e:=az.mp hu
   ·rw[e];exact z
   ·exact k u e
  ·rw[e1,sx]at z;cases z
def Rq{X:ah→lF→Prop}(K:Bk3 ws B) (ha:S a=aa (.bP (B.map mQ))) (hl:S l=aa (.bP (xs.map lA))) (hx:nP ws B t xs) (hs:t.bo=true) (hr:80≤r) (h:(∀x∈xs,(b7 B x).bo=true)→Q (.bl true) S) (hX:(∃x∈xs,(b7 B x).bo=false)→X "TooGreat" S):xa (r+1) [.ref a, .bW [lA t, .ref l]] S Q X:=by
 obtain⟨b1,b2⟩:=rj hs;obtain⟨r',er⟩:∃r',r=r'+5:=⟨r - 5,by lia⟩
 have e1:sH r=sH (r'+5):=by rw[er]
 rw[xa];ext;rw[e1];refine PX b1 b2 ?_;rw[show nE [lA t,W.ref l] 1=aa (.ref l) from rfl];dsimp only
 try ext
 rw[ni hl];have e2:yF r mK=yF (r'+4+1) mK:=by rw[er]
 rw[e2];refine IC K hl ha (by lia) xs hx hs (λk y2 y3=>?_) λk σ=>hX k
 try ext
 exact⟨_, .refl,h k⟩
def Rt{X:ah→lF→Prop}(K:Bk3 ws B) (ha:S a=aa (.bP (B.map mQ))) (hl:S l=aa (.bP (xs.map lA))) (hx:nP ws B t xs) (hs:t.bo=true) (hr:82≤r) (h:(∀x∈xs,(b7 B x).bo=true)→Q (.bl true) S) (hX:(∃x∈xs,(b7 B x).bo=false)→Q (.bl false) S):Bi (r+1) [.ref a, .bW [lA t, .ref l]] S Q X:=by
 obtain⟨r',er⟩:∃r',r=r'+1:=⟨r - 1,by lia⟩
 have e1:xa r=xa (r'+1):=by rw[er]
 rw[Bi];ext;rw[e1];exact Rq K ha hl hx hs (by lia) (λk=>⟨_, .refl,h k⟩) λk=>⟨by simp,_, .refl,hX k⟩
structure r_ (w0 w1 w2 w3 w4 w5:ah) (B:List Tn) (X:Tr) (qs:List (List Int)) (ss Ys:List Tr):Prop where
  P:qU [w0,w1,w2,w3,w4,w5] B X qs ss Ys
  n:qs.length≤7
  cl:Cl w0 w1 w2 w3 w4 w5 B (pW X Ys)
def TW:nE ((qs++[q]).map mE) (-1)=aa (mE q):=by
 rw[bK];exact Bo _ _
def Dr.clO (d:Dr w0 w1 w2 w3 w4 w5 tt B) (h:Cl w0 w1 w2 w3 w4 w5 B X) (o:Ou [w0,w1,w2,w3,w4,w5] B X q t us):Cl w0 w1 w2 w3 w4 w5 B (toO X q t us):=by
 have:=d.cl (o.wy d.c.K h.sh) (by rw[o.ak d.c.K h.sh];exact h);rw[o.b7 d.c.K h.sh]at this;exact this
def Dr.ok_tO{E:ah→lF→Prop}(d:Dr w0 w1 w2 w3 w4 w5 tt B) (fb:S a=aa (.bP (B.map mQ))) (h:Cl w0 w1 w2 w3 w4 w5 B X) (o:Ou [w0,w1,w2,w3,w4,w5] B X q t us) (hr:120≤r) (k:∀S',Sub S S'→Q (lA (toO X q t us)) S'):w9 (r+1) [.ref a,lA X,mE q] S Q E:=by
 obtain⟨g1,g2⟩:=rj h.sm;have sw:=O7 d.c.b o.ht o.hl o.hat h.sh.hdT;have hq:=uP _ o.hat;exact Vg (r:=r) d.c.b d.c.G d.c.L fb o.ht o.hl o.hat (by lia) (by lia) sw.2.2 (by lia) k
theorem EM (d:Dr w0 w1 w2 w3 w4 w5 tt B) (fb:S0 a=aa (.bP (B.map mQ))) (h2:S0 l2=none) (nc2:lc≠l2) (hr:130≤r):∀(cs:List Int) {S:lF}{qs:List (List Int)}{ss Ys:List Tr}{x5 x6:Option W},r_ w0 w1 w2 w3 w4 w5 B X qs ss Ys→Sub S0 S→S lc=aa (.bP F)→S l2=aa (.bP (qs.map mE))→
  (∀S' qs ss Ys x5 x6,r_ w0 w1 w2 w3 w4 w5 B X qs ss Ys→Sub S0 S'→S' l2=aa (.bP (qs.map mE))→D.nx [aa (.ref a),aa (lA X),aa (.ref lc),aa (lA (pW X Ys)),aa (.ref l2),x5,x6] S')→
  mS (mB 5) (C4 (r+1) mK) E D (λS'=>S' lc=aa (.bP F)) (cs.map W.int) [aa (.ref a),aa (lA X),aa (.ref lc),aa (lA (pW X Ys)),aa (.ref l2),x5,x6] S
 | [],S,qs,ss,Ys,x5,x6,k,sb,fc,f2,h=>by
  simp only[cy,mS];exact h S qs ss Ys _ _ k sb f2
 |n::cs,S,qs,ss,Ys,x5,x6,k,sb,fc,f2,h=>by
  have hs:=k.cl.sh;have sm:=k.cl.sm;have kn:=k.n;rw[aC];refine pV λN hN=>?_;simp only[C4];ext;refine d.c.ok_open (r:=r) (sb _ _ fb) hs sm (by lia) λS1 kn s1 fk=>?_;replace fc:=s1 _ _ fc;replace f2:=s1 _ _ f2;replace sb:=sb.trans s1;have skip:N [aa (.ref a),aa (lA X),aa (.ref lc),aa (lA (pW X Ys)),aa (.ref l2),aa (.int n),aa (.ref kn)] S1:=hN _ _ S1 .refl fc (EM d fb h2 nc2 hr cs k sb fc f2 h)
  try ext
  simp only[ni fk,ay]
  try ext
  by_cases hp:(0:Int)<(((pW X Ys).op B []).length:Int)
  ·rw[if_pos hp];simp only[ni f2,ay];by_cases h8:(qs.length:Int)<7
   ·rw[if_pos h8];obtain⟨w,ew,mw⟩:=El (xs:=((pW X Ys).op B []).map encX) (i:=n % (((pW X Ys).op B []).length:Int)) (cY _ (by lia)) (by rw[ay];exact dh _ (by lia));obtain⟨u,hu,rfl⟩:=aV.mp mw;rw[ew];refine⟨trivial,hp,?_⟩;obtain⟨q,t,us,eq,o⟩:=yu d.c.K _ (aA _) hs hu;rw[aX]at eq;simp only[encX];ext;have eq2:qs.map mE++[mE q]=(qs++[q]).map mE:=by rw[bK];rfl
    rw[eq,ni f2,eq2];have fc':bQ S1 l2 (Ob.bP ((qs++[q]).map mE)) lc=aa (.bP F):=by rw[nQ nc2];exact fc
    have f2':bQ S1 l2 (Ob.bP ((qs++[q]).map mE)) l2=aa (.bP ((qs++[q]).map mE)):=mV;have sb':Sub S0 (bQ S1 l2 (Ob.bP ((qs++[q]).map mE))):=λe ob ed=>by
     by_cases hd:e=l2
     ·rw[hd,h2]at ed;cases ed
     ·rw[nQ hd];exact sb e ob ed
    refine⟨qJ (by rw[ay];lia),?_⟩;generalize bQ S1 l2 (Ob.bP ((qs++[q]).map mE))=S2 at fc' f2' sb'⊢
    try rw[ni f2']
    rw[TW];dsimp only;refine d.ok_tO (r:=r) (sb' _ _ fb) k.cl o (by lia) λS3 s3=>?_;have c':=d.clO k.cl o;have k':r_ w0 w1 w2 w3 w4 w5 B X (qs++[q]) (ss++[wyO (pW X Ys) q t us]) (Ys++[toO (pW X Ys) q t us]):=⟨k.P.snoc d.c.K o c'.sm,by rw[a_];simp;lia,by rw[E2];exact c'⟩
    have:=EM (E:=E) d fb h2 nc2 hr cs (x5:=aa (.int n)) (x6:=aa (.ref kn)) k' (sb'.trans s3) (s3 _ _ fc') (s3 _ _ f2') h;rw[E2]at this;exact hN _ _ _ .refl (s3 _ _ fc') this
   ·rw[if_neg h8];exact skip
  ·rw[if_neg hp];exact skip
def Vn{S:lF}{Q:WK}{E:ah→lF→Prop}{X:Tr}{cs:List Int}(d:Dr w0 w1 w2 w3 w4 w5 tt B) (fb:S a=aa (.bP (B.map mQ))) (fc:S lc=aa (.bP (cs.map W.int))) (k0:r_ w0 w1 w2 w3 w4 w5 B X [] [] []) (hr:132≤r)
  (h:∀S' l2 qs ss Ys,Sub S S'→r_ w0 w1 w2 w3 w4 w5 B X qs ss Ys→S' l2=aa (.bP (qs.map mE))→Q (.bW [.ref l2,lA (pW X Ys)]) S'):BU (r+1) [.ref a,lA X, .ref lc] S Q E:=by
 obtain⟨r,rfl⟩:∃r',r=r'+1:=⟨r - 1,by lia⟩
 rw[BU];ext;refine⟨aQ _,λl2 hl2=>?_⟩;have nc2:lc≠l2:=by rintro rfl;rw[fc]at hl2;cases hl2
 try ext
 rw[ni (keep fc hl2)];refine EM (r:=r) (S0:=S) d fb hl2 nc2 (by lia) cs (ss:=[]) (Ys:=[]) (qs:=[]) k0 (.bQ .refl hl2) (keep fc hl2) mV λS' qs ss Ys x5 x6 k sb f2=>?_;ext;exact⟨by decide,S', .refl,h S' l2 qs ss Ys sb k f2⟩
def VB (d:Dr w0 w1 w2 w3 w4 w5 tt B) (hr:130≤r) (R:Rw [w0,w1,w2,w3,w4,w5] B X ps Z):∀{S:lF}{x3:Option W},Cl w0 w1 w2 w3 w4 w5 B X→S a=aa (.bP (B.map mQ))→S lc=aa (.bP F)→(∀S' x3,Sub S S'→D.nx [aa (.ref a),aa (lA Z),aa (.ref lc),x3] S')→
  mS (mB 3) (FL (r+1) mK) E D (λS'=>S' lc=aa (.bP F)) (ps.map mE) [aa (.ref a),aa (lA X),aa (.ref lc),x3] S:=by
 induction R with
 |nil=>
  intro S x3 _ _ _ h;simp only[cy,mS];exact h S _ .refl
 | @cons X Z us q t ps o R ih=>
  intro S x3 cl fb fl h;have ol:=wT B X [];obtain⟨g1,g2⟩:=rj cl.sm;rw[aC];refine pV λN hN=>?_;simp only[FL];ext;refine d.c.ok_open (r:=r) fb cl.sh cl.sm (by lia) λS1 kn s1 fk=>?_
  try ext
  try dsimp only
  rw[ni fk];refine qe (λσ=>∃x,σ=[x]) encX (λx=>mE x.1) ?_ (X.op B []) [] _ ⟨none,rfl⟩ (by simp;lia) (λx hx σ R hI hR=>?_) ?_
  ·exact fk
  ·obtain⟨y,rfl⟩:=hI;simp only[encX,On];ext;exact hR _ _ ⟨_,rfl⟩ .refl
  ·rw[aX];intro l5 h5;have f5:bQ S1 l5 (Ob.bP ((X.op B []).map λx=>mE x.1)) l5=aa (.bP (((X.op B []).map λx=>x.1).map mE)):=by rw[mV,bu];rfl
   have s5:Sub S (bQ S1 l5 (Ob.bP ((X.op B []).map λx=>mE x.1))):=s1.trans (.bQ .refl h5);generalize bQ S1 l5 (Ob.bP ((X.op B []).map λx=>mE x.1))=S2 at f5 s5⊢
   try ext
   rw[show((X.op B []).map λx=>mE x.1)=((X.op B []).map λx=>x.1).map mE by rw[bu];rfl,FD,decide_eq_true (o.op d.c.K d.c.F)]
   simp only[jn,cE,if_false]
   try ext
   refine d.ok_tO (r:=r) (s5 _ _ fb) cl o (by lia) λS3 s3=>?_;have s4:=s5.trans s3;exact hN _ _ _ .refl (s4 _ _ fl) (ih (d.clO cl o) (s4 _ _ fb) (s4 _ _ fl) λS' x3 s'=>h S' x3 (s4.trans s'))
def XB{E:ah→lF→Prop}(d:Dr w0 w1 w2 w3 w4 w5 tt B) (hr:132≤r) (R:Rw [w0,w1,w2,w3,w4,w5] B X ps Z) (cl:Cl w0 w1 w2 w3 w4 w5 B X) (fb:S a=aa (.bP (B.map mQ))) (fl:S lc=aa (.bP (ps.map mE))) (h:∀S',Sub S S'→Q (lA Z) S'):BN (r+1) [.ref a,lA X, .ref lc] S Q E:=by
 obtain⟨r,rfl⟩:∃r',r=r'+1:=⟨r - 1,by lia⟩
 rw[BN];ext;rw[ni fl];refine VB (r:=r) d (by lia) R cl fb fl λS' x3 s'=>?_;ext;exact⟨S', .refl,h S' s'⟩
theorem JR (t:Tr):∀i,hh [w0,w1,w2,w3,w4,w5] B (b7 B (fw [w0,w1,w2,w3,w4,w5] B t)) i=hh [w0,w1,w2,w3,w4,w5] B t (i+1)
 |0=>rfl
 |i+1=>by
  show b7 B (fw [w0,w1,w2,w3,w4,w5] B (hh [w0,w1,w2,w3,w4,w5] B (b7 B (fw [w0,w1,w2,w3,w4,w5] B t)) i))=b7 B (fw [w0,w1,w2,w3,w4,w5] B (hh [w0,w1,w2,w3,w4,w5] B t (i+1)));rw[JR t i]
def UV (t:Tr) (m:Nat):wys [w0,w1,w2,w3,w4,w5] B t (m+1)=fw [w0,w1,w2,w3,w4,w5] B t::wys [w0,w1,w2,w3,w4,w5] B (b7 B (fw [w0,w1,w2,w3,w4,w5] B t)) m:=by
 unfold wys;rw[gL,aC,bu];congr 1;apply di;intro i _;show fw [w0,w1,w2,w3,w4,w5] B (hh [w0,w1,w2,w3,w4,w5] B t (i+1))=_;rw[JR]
theorem LX (c:m5 w0 w1 w2 w3 w4 w5 tt B):∀(m:Nat) {t:Tr},Sh [w0,w1,w2,w3,w4,w5] B t→nP [w0,w1,w2,w3,w4,w5] B t (wys [w0,w1,w2,w3,w4,w5] B t m)
 |0,t,_=>trivial
 |m+1,t,h=>by
  have f:=xT c.b c.G c.K h;obtain⟨g1,g2,_,_⟩:=c.K.b7 f.wy;rw[UV];exact⟨f.wy,f.sr,LX c m ⟨g1,g2⟩⟩
theorem m5.quiet_rest (c:m5 w0 w1 w2 w3 w4 w5 tt B):∀(xs:List Tr) {t:Tr},nP [w0,w1,w2,w3,w4,w5] B t xs→pY [w0,w1,w2,w3,w4,w5] B t→xs.all Tr.dO=true
 | [],t,_,_=>rfl
 |x::xs,t,⟨x1,x2,x3⟩,h=>by
  obtain⟨e1,e2⟩:=c.stay x1 (by rw[x2];exact h);have q1:x.dO=true:=(c.up_quiet x1).mpr λq u=>c.no_up u (by rw[e1];exact(c.shs x1).sig c.K);rw[eM,q1,m5.quiet_rest c xs x3 (by rw[e2,x2];exact h)];rfl
def m5.within_rest (c:m5 w0 w1 w2 w3 w4 w5 tt B) {xs os:List Tr}{t:Tr}(hx:nP [w0,w1,w2,w3,w4,w5] B t xs) (ho:nP [w0,w1,w2,w3,w4,w5] B t os) (h:pY [w0,w1,w2,w3,w4,w5] B (ov B t os)):(oK B xs os).all Tr.dO=true:=c.quiet_rest _ (Aa c.K xs os hx ho) h
theorem DD:∀(xs:List Tr) {t:Tr},nP ws B t xs→Rn ws B xs.length t (ov B t xs)
 | [],t,_=> .z
 |x::xs,t,⟨x1,x2,x3⟩=>by
  have:=Rn.s x1 (DD xs x3);rw[x2]at this;exact this
def m5.one_rest (c:m5 w0 w1 w2 w3 w4 w5 tt B) {xs os:List Tr}{X:Tr}(hX:Sh [w0,w1,w2,w3,w4,w5] B X) (hx:nP [w0,w1,w2,w3,w4,w5] B X xs) (ho:nP [w0,w1,w2,w3,w4,w5] B X os) (h1:(ov B X xs).op B []=[]) (h2:(ov B X os).op B []=[]):ov B X xs=ov B X os:=by
 have r1:=c.rest hX (DD xs hx) (Ez c.K c.F h1);have r2:=c.rest hX (DD os ho) (Ez c.K c.F h2);rw[←r1]at h1;rw[←r2]at h2;obtain l |l:=Nat.le_total xs.length os.length
 ·have:=F2 c hX h1 (os.length - xs.length);rw[show xs.length+(os.length - xs.length)=os.length by lia]at this
  rw[←r1,←r2,this]
 ·have:=F2 c hX h2 (xs.length - os.length);rw[show os.length+(xs.length - os.length)=xs.length by lia]at this
  rw[←r1,←r2,this]
theorem JD:∀(xs ys:List Tr) (t:Tr),ov B t (xs++ys)=ov B (ov B t xs) ys
 | [],ys,t=>rfl
 |x::xs,ys,t=>JD xs ys _
theorem Hy (t:Tr):∀k,ov B t (wys [w0,w1,w2,w3,w4,w5] B t k)=hh [w0,w1,w2,w3,w4,w5] B t k
 |0=>rfl
 |k+1=>by rw[LW,JD];rfl
def qU.roa (K:Bk3 ws B) (P:qU ws B X qs ss Ys):nP ws B X ss∧ov B X ss=pW X Ys:=by
 induction P with
 |nil _ _=>exact⟨trivial,rfl⟩
 | @cons X q t us qs ss Ys h sm o _ ih=>
  have e:=o.b7 K h;refine⟨⟨o.wy K h,o.ak K h,by rw[e];exact ih.1⟩,?_⟩
  rw[ov,e];exact ih.2
theorem Gb (hB:∀t∈B,p5 t.1):∀(n:Nat) {x:Tr},x.aq≤n→x.hd ox→x.ne B=0
 |0,x,hn,_=>by have:=rQ x;lia
 |n+1, .bl k,hn,h=>by rw[Tr.hd]at h;exact h.elim
 |n+1, .nd s ts,hn,h=>by
  rw[Tr.hd,m3]at h;rw[Tr.aq]at hn;rw[BW (qc hB h.1)];have:=uj (B:=B) (n:=0) (ts:=ts) λt ht=>by
   rw[Gb hB n (by have:=pk ht;lia) (h.2 t ht)];exact aA _
  lia
theorem Kw (hB:∀t∈B,p5 t.1):∀(q:List Int) {X v:Tr},X.hd ox→X.at q=aa v→(X.bQ q y).ne B≤y.ne B
 | [],X,v,h,e=>by rw[tz];exact aA _
 |i::q, .bl n,v,h,e=>by cases e
 |i::q, .nd s ts,v,h,e=>by
  obtain⟨w,h0,h1,h2⟩:=pU e;rw[Tr.hd,m3]at h;rw[tU h1,BW (qc hB h.1)];refine uj λt ht=>?_;obtain g |g:=kU ht
  ·rw[Gb hB _ (aA _) (h.2 t g)];lia
  ·rw[g];exact Kw hB q (h.2 w (aJ h1)) h2
def Ou.ne{w0 w1 w2 w3 w4 w5:ah}{tt:List ah}{B:List Tn}(c:m5 w0 w1 w2 w3 w4 w5 tt B) (o:Ou [w0,w1,w2,w3,w4,w5] B X q t us) (hX:Sh [w0,w1,w2,w3,w4,w5] B X):(wyO X q t us).ne B≤1:=by
 have h1:=Kw (B:=B) c.K.b.ti (y:= .nd t.1 us) q (hX.sig c.K) o.hat;have h2:=uj (B:=B) (n:=0) (ts:=us) λu hu=>by
  rw[Gb c.K.b.ti _ (aA _) ((o.sh u hu).sig c.K)];exact aA _
 rw[C9 (o.tt c.K)]at h1;unfold wyO;lia
def qU.ne (c:m5 w0 w1 w2 w3 w4 w5 tt B) (P:qU [w0,w1,w2,w3,w4,w5] B X qs ss Ys):nR B ss≤qs.length∧ ∀x∈ss,x.ne B≤5:=by
 induction P with
 |nil _ _=>exact⟨aA _,λx hx=>by cases hx⟩
 | @cons X q t us qs ss Ys h sm o _ ih=>
  have h1:=o.ne c h;rw[nR,aU];refine⟨by have:=ih.1;lia,λx hx=>?_⟩;obtain rfl |hx:=az.mp hx
  ·lia
  ·exact ih.2 x hx
def Yf (h:∀(S':lF) (aw at' ab:ai) (w0 w1 w2 w3 w4 w5:ah) (tt:List ah) (B:List Tn),Dr w0 w1 w2 w3 w4 w5 tt B→S' aw=aa (.bP (qu w0 w1 w2 w3 w4 w5))→S' ab=aa (.bP (B.map mQ))→T E D (aa (.cX ns)::aa (.ref aw)::aa (.ref at')::aa (.ref ab)::τ) S') :
  Ft 199 (Fp 199 (CZ 199 T)) E D (aa (.cX ns)::x1::x2::x3::τ) S:=by
 unfold Ft Fp CZ;ext;refine xu (by decide) λc0=>xu (by decide) λc1=>Oj λaw ws hw0 hws=>?_;obtain⟨w0,w1,w2,w3,w4,w5,rfl,G⟩:=YB hws;have fw:bQ S aw (Ob.bP ([w0,w1,w2,w3,w4,w5].map W.str)) aw=aa (.bP (qu w0 w1 w2 w3 w4 w5)):=mV;generalize bQ S aw (Ob.bP ([w0,w1,w2,w3,w4,w5].map W.str))=S1 at fw⊢;refine xu (by decide) λc2=>xu (by decide) λc3=>Oj λat' tt ht0 htt=>?_;have ft:bQ S1 at' (Ob.bP (tt.map W.str)) at'=aa (.bP (tt.map W.str)):=mV;replace fw:=keep (x:=Ob.bP (tt.map W.str)) fw ht0;generalize bQ S1 at' (Ob.bP (tt.map W.str))=S2 at fw ft⊢;have T':=ZH htt;refine OY (r:=192) T'.len (by decide) fw ft λab B n m hb0 e1 e2 e3=>?_;have nb:∀t∈B,t.2.1.nb≤3:=λt ht=>by
  have h1:t.2.1∈bO n w0 w2 w3++bO m w1 w2 w3:=by rw[←e1];exact List.mem_map_of_mem ht
  obtain z |z:=bn.mp h1
  ·exact(F3 _ _ _ _ _ z).2.2
  ·exact(F3 _ _ _ _ _ z).2.2
 have b:mI w0 w1 w2 w3 w4 w5 tt B:=⟨⟨n,m,e1⟩,e2,λt ht=>WQ (nb t ht) false _ (e3 t ht)⟩;exact h _ aw at' ab w0 w1 w2 w3 w4 w5 tt B ⟨⟨b,T',G⟩,e3⟩ (keep (x:=Ob.bP (B.map mQ)) fw hb0) mV
def Pt (d:Dr w0 w1 w2 w3 w4 w5 tt B) (fw:S aw=aa (.bP (qu w0 w1 w2 w3 w4 w5))) (fb:S ab=aa (.bP (B.map mQ))) (h:∀S' X,r_ w0 w1 w2 w3 w4 w5 B X [] [] []→X.ms (hk w0 w1) mT≤15→X.hn (hk w0 w1)≤4→S' ab=aa (.bP (B.map mQ))→T E D [aa (.cX ns),aa (.ref aw),a2,aa (.ref ab),aa (lA X),a5,a6,a7,a8,a9,a10,a11] S') :
  EZ 199 T E D [aa (.cX ns),aa (.ref aw),a2,aa (.ref ab),a4,a5,a6,a7,a8,a9,a10,a11] S:=by
 have bk:=d.c.bk;have ne:B≠ []:=by
  have h:=d.c.b.len;rintro rfl;simp at h
 rw[EZ];ext;intro ac hc;refine QJ (r:=189) (m:=7) (by decide) mV (keep fb hc) (keep fw hc) bk ne λp v S' sub pa po pw pn=>?_;have hdp:=LZ p;have fb:=sub _ _ (keep fb hc);obtain⟨h1,h2,h3,h4,h5⟩:=d.c.plh po;have hz:∀x:Int,0≤x→x<8→nK 8 x=0:=λx h0 h1=>by
  unfold nK;have:x / 8=0:=Int.ediv_eq_zero_of_lt h0 h1;rw[this];rfl
 have ez:p.ev B (nK 8)=p.ev B zr:=vN po λx h0 h1=>by rw[hz x h0 h1];rfl
 have wy1:=d.c.K.wy (c:=nK 1) (po.up λx hx=>aI _ (aI _ hx));have es:ak B (p.ev B (nK 1))=p.ev B (nK 8):=by
  show(p.ev B (nK 1)).mk B (λt=>t.2.1)=_;rw[wQ bk po];exact vN po λx h0 h1=>by
   rw[hz x h0 h1];have:=xK 1 x;unfold uR;split<;>lia
 have sh:Sh [w0,w1,w2,w3,w4,w5] B (p.ev B (nK 8)):=by rw[←es];exact Sh.of d.c.K wy1
 rw[←ez]at h2 h3 h4 h5;have pw2:(p.wt - p.nt+7)*2 ^ p.nt≤22*16:=Nat.mul_le_mul (by lia) (dg (by decide) pn);have pw3:2 ^ p.nt≤2 ^ 4:=dg (by decide) pn;have cl:Cl w0 w1 w2 w3 w4 w5 B (p.ev B (nK 8)):=⟨sh,by lia,by lia⟩
 exact Jx (r:=198) (by decide) fb bk 23 (by lia) (by lia) pa po (by lia) (h S' _ ⟨.nil sh cl.sm,by simp,cl⟩ (by lia) (by lia) fb)
def TF (d:Dr w0 w1 w2 w3 w4 w5 tt B) (k:r_ w0 w1 w2 w3 w4 w5 B X [] [] []) (fb:S ab=aa (.bP (B.map mQ))) (h:∀S' l5 qs ss Ys,r_ w0 w1 w2 w3 w4 w5 B X qs ss Ys→S' ab=aa (.bP (B.map mQ))→S' l5=aa (.bP (qs.map mE))→T E D [aa (.cX ns),a1,a2,aa (.ref ab),aa (lA X),aa (.ref l5),aa (lA (pW X Ys)),a7,a8,a9,a10,a11] S') :
  F9 199 T E D [aa (.cX ns),a1,a2,aa (.ref ab),aa (lA X),a5,a6,a7,a8,a9,a10,a11] S:=by
 rw[F9];ext;intro lc hc;refine Vn (r:=198) d (keep fb hc) mV k (by decide) λS' l5 qs ss Ys sb k' f5=>?_;ext;exact h S' l5 qs ss Ys k' (sb _ _ (keep fb hc)) f5
def YG (d:Dr w0 w1 w2 w3 w4 w5 tt B) (k:r_ w0 w1 w2 w3 w4 w5 B X qs ss Ys) (fb:S ab=aa (.bP (B.map mQ))) (f5:S l5=aa (.bP (qs.map mE))) (h:∀S' l7,S' ab=aa (.bP (B.map mQ))→S' l7=aa (.bP (ss.map lA))→T E D [a0,a1,a2,aa (.ref ab),aa (lA X),aa (.ref l5),a6,aa (.bW [lA X, .ref l7]),a8,a9,a10,a11] S') :
  FZ 199 T E D [a0,a1,a2,aa (.ref ab),aa (lA X),aa (.ref l5),a6,a7,a8,a9,a10,a11] S:=by
 obtain⟨e1,e2⟩:=k.P.len;have hn:=k.n;rw[FZ];ext;exact OS (r:=198) ⟨d.c.b,d.c.T,d.c.G,d.rx⟩ k.P fb f5 (by lia) (by decide) λS' l7 sb _ f7=>h S' l7 (sb _ _ fb) f7
section
variable {S:lF}{ab l7 l8:ai}{w0 w1 w2 w3 w4 w5:ah}{tt:List ah}{B:List Tn}{E:WX}{D:m4}{T:WS}{X:Tr}{qs:List (List Int)}{ss Ys os:List Tr}{a0 a1 a2 a3 a4 a5 a6 a7 a8 a9 a10 a11:Option W}
structure Al (w0 w1 w2 w3 w4 w5:ah) (B:List Tn) (X:Tr) (os:List Tr):Prop where
  r:nP [w0,w1,w2,w3,w4,w5] B X os
  n:os.length≤10
  o:(ov B X os).op B []=[]
def Uw (d:Dr w0 w1 w2 w3 w4 w5 tt B) (k:r_ w0 w1 w2 w3 w4 w5 B X [] [] []) (hn:X.hn (hk w0 w1)≤4) (fb:S ab=aa (.bP (B.map mQ))) (f7:S l7=aa (.bP (ss.map lA))) (h:∀S' l8 os,Al w0 w1 w2 w3 w4 w5 B X os→S' ab=aa (.bP (B.map mQ))→S' l7=aa (.bP (ss.map lA))→S' l8=aa (.bP (os.map lA))→T E D [a0,a1,a2,aa (.ref ab),aa (lA X),a5,a6,a7,aa (.bW [lA X, .ref l8]),aa (.bl true),a10,a11] S') :
  DM 199 T E D [a0,a1,a2,aa (.ref ab),aa (lA X),a5,a6,a7,a8,a9,a10,a11] S:=by
 have cl:Cl w0 w1 w2 w3 w4 w5 B X:=k.cl;have hX:=cl.sh;have rd:=λm=>LX d.c m hX;have sm:∀i,(hh [w0,w1,w2,w3,w4,w5] B X i).bo=true:=λi=>by
  have:=(d.roads _ (rd i) cl).2.sm;rw[Hy]at this;exact this
 rw[DM];ext;refine Pd (r:=198) (l:=9) d.c fb hX cl.sm (by decide) (by decide) (λj ho S' l8 sb f8=>?_) λj ho=>?_
 ·have hr:(hh [w0,w1,w2,w3,w4,w5] B X j).op B []=[]:=by
   obtain z |z:=ho.2
   ·exact d.rest hX (by lia)
   ·exact z
  have hj:j≤10:=by
   obtain z |z:=gv 9 j
   ·have:=(ho.1 9 z).1;lia
   ·lia
  rw[hr];ext;rw[o6]at f8;exact h S' l8 _ ⟨rd j,by rw[ON];exact hj,by rw[Hy];exact hr⟩ (sb _ _ fb) (sb _ _ f7) f8
 ·have:=ho.2.2.2;rw[sm]at this;cases this
def Rv (d:Dr w0 w1 w2 w3 w4 w5 tt B) (k:r_ w0 w1 w2 w3 w4 w5 B X qs ss Ys) (cl:Cl w0 w1 w2 w3 w4 w5 B X) (R:Al w0 w1 w2 w3 w4 w5 B X os) (fb:S ab=aa (.bP (B.map mQ))) (f7:S l7=aa (.bP (ss.map lA))) (f8:S l8=aa (.bP (os.map lA))) (h:∀S',Sub S S'→T E D [a0,a1,a2,aa (.ref ab),a4,a5,a6,aa (.bW [lA X, .ref l7]),aa (.bW [lA X, .ref l8]),aa (.bl true),a10,a11] S') :
  EU 199 T E D [a0,a1,a2,aa (.ref ab),a4,a5,a6,aa (.bW [lA X, .ref l7]),aa (.bW [lA X, .ref l8]),aa (.bl true),a10,a11] S:=by
 obtain⟨e1,e2⟩:=k.P.len;have hn:=k.n;have n8:=R.n;obtain⟨rs,er⟩:=k.P.roa d.c.K;have gg:=d.gg rs R.r cl;rw[EU];ext;refine Rt (r:=198) d.c.K fb f8 R.r cl.sm (by decide) (λ_=>?_) λ⟨x,hx,z⟩=>?_
 ·try ext
  refine RO (r:=198) d.c.K fb f7 f8 rs R.r cl.sm (by lia) (by lia) (by decide) (λn=>absurd rfl n) (λ_ n=>absurd gg n) λ_ _ S' sb=>?_;rw[d.c.within_rest rs R.r (Ez d.c.K d.c.F R.o)]
  try ext
  exact h S' sb
 ·have:=((d.roads os R.r cl).1 x hx).2.2.sm;rw[z]at this;cases this
def Yi (h:T E D [a0,a1,a2,a3,aa (lA X),a5,a6,a7,a8,a9,aa (lA X),a11] S):F1 199 T E D [a0,a1,a2,a3,aa (lA X),a5,a6,a7,a8,a9,a10,a11] S:=by
 rw[F1];ext;exact h
theorem Gv (d:Dr w0 w1 w2 w3 w4 w5 tt B) (fb:S ab=aa (.bP (B.map mQ))) (f8:S l8=aa (.bP F)):∀(xs:List Tr) {X:Tr}{a11:Option W},nP [w0,w1,w2,w3,w4,w5] B X xs→Cl w0 w1 w2 w3 w4 w5 B X→(∀a11,D.nx [a0,a1,a2,aa (.ref ab),a4,a5,a6,a7,a8,a9,aa (lA (ov B X xs)),a11] S)→
  mS (mB 11) (Es 199 mK) E D (λS'=>S' l8=aa (.bP F)) (xs.map lA) [a0,a1,a2,aa (.ref ab),a4,a5,a6,a7,a8,a9,aa (lA X),a11] S
 | [],X,a11,_,_,h=>by
  simp only[cy,mS];exact h _
 |x::xs,X,a11,⟨x1,x2,x3⟩,cl,h=>by
  have cx:Cl w0 w1 w2 w3 w4 w5 B (ak B x):=by rw[x2];exact cl
  obtain⟨f1,f2,f3,f4⟩:=d.c.K.fitw x1 cx.sm;rw[aC];refine pV λN hN=>?_;simp only[Es];ext;refine Lb (r:=198) d.c.K.b.nd fb (.inr rfl) d.c.K.b.s2 40 f1 (by lia) f3 (by lia) ?_;rw[BI];exact hN _ _ S .refl f8 (Gv d fb f8 xs x3 (d.cl x1 cx) h)
def Yh (d:Dr w0 w1 w2 w3 w4 w5 tt B) (cl:Cl w0 w1 w2 w3 w4 w5 B X) (R:Al w0 w1 w2 w3 w4 w5 B X os) (fb:S ab=aa (.bP (B.map mQ))) (f8:S l8=aa (.bP (os.map lA))) (h:∀a11,T E D [a0,a1,a2,aa (.ref ab),a4,a5,a6,a7,aa (.bW [lA X, .ref l8]),a9,aa (lA (ov B X os)),a11] S) :
  Et 199 T E D [a0,a1,a2,aa (.ref ab),a4,a5,a6,a7,aa (.bW [lA X, .ref l8]),a9,aa (lA X),a11] S:=by
 rw[Et];ext;rw[show nE [lA X,W.ref l8] 1=aa (.ref l8) from rfl]
 try ext
 try dsimp only
 rw[ni f8];exact Gv d fb f8 os R.r cl h
def UO (d:Dr w0 w1 w2 w3 w4 w5 tt B) (cl:Cl w0 w1 w2 w3 w4 w5 B X) (R:Al w0 w1 w2 w3 w4 w5 B X os) (fb:S ab=aa (.bP (B.map mQ))) (f8:S l8=aa (.bP (os.map lA))) (h:∀S',Sub S S'→T E D [a0,a1,a2,aa (.ref ab),a4,a5,a6,a7,aa (.bW [lA X, .ref l8]),a9,aa (lA (ov B X os)),a11] S') :
  Dt 199 T E D [a0,a1,a2,aa (.ref ab),a4,a5,a6,a7,aa (.bW [lA X, .ref l8]),a9,aa (lA (ov B X os)),a11] S:=by
 obtain⟨k1,k2⟩:=d.roads os R.r cl;obtain⟨z1,z2⟩:=rj k2.sm;rw[Dt];ext;refine KY (r:=198) (t:=X) d.c.K fb f8 (λx hx=>⟨(k1 x hx).1,(k1 x hx).2.1.sm⟩) (λx hx=>(k1 x hx).2.2.sm) (by decide) ?_;rw[xy 60 _ _ (by lia),z_]
 try ext
 refine d.c.ok_open (r:=198) fb k2.sh k2.sm (by decide) λS1 kn s1 fk=>?_;rw[R.o]at fk
 try ext
 refine⟨aQ _,λb hb=>?_⟩;rw[show n_ (bQ S1 b (Ob.bP [])) 60 (W.ref kn) (W.ref b)=aa true from YK (xs:=[]) (keep fk hb) mV]
 try ext
 exact h _ (s1.trans (.bQ .refl hb))
def T6 (d:Dr w0 w1 w2 w3 w4 w5 tt B) (k:r_ w0 w1 w2 w3 w4 w5 B X qs ss Ys) (cl:Cl w0 w1 w2 w3 w4 w5 B X) (R:Al w0 w1 w2 w3 w4 w5 B X os) (fb:S ab=aa (.bP (B.map mQ))) (h:∀S',Sub S S'→T E D [a0,a1,a2,aa (.ref ab),a4,a5,aa (lA (pW X Ys)),a7,a8,a9,aa (lA (ov B X os)),a11] S') :
  D_ 199 T E D [a0,a1,a2,aa (.ref ab),a4,a5,aa (lA (pW X Ys)),a7,a8,a9,aa (lA (ov B X os)),a11] S:=by
 obtain⟨z1,z2⟩:=rj k.cl.sm;obtain⟨rs,er⟩:=k.P.roa d.c.K;rw[D_];ext;refine d.c.ok_open (r:=198) fb k.cl.sh k.cl.sm (by decide) λS1 kn s1 fk=>?_
 try ext
 rw[ni fk,ay];cases e:(pW X Ys).op B []with
 |nil=>
  have ee:pW X Ys=ov B X os:=by
   rw[←er]at e⊢;exact d.c.one_rest cl.sh rs R.r e R.o
  have:=h S1 s1;rw[ee]at this z2⊢
  try ext
  rw[xy 60 _ _ (by lia),z_]
  try ext
  exact this
 |cons x xs=>
  try ext
  rw[if_neg (by rw[beq_iff_eq];lia)];exact h S1 s1
def SO (d:Dr w0 w1 w2 w3 w4 w5 tt B) (k:r_ w0 w1 w2 w3 w4 w5 B X qs ss Ys) (cl:Cl w0 w1 w2 w3 w4 w5 B X) (hm:X.ms (hk w0 w1) mT≤15) (fb:S ab=aa (.bP (B.map mQ))) (f7:S l7=aa (.bP (ss.map lA))) (h:∀S',Sub S S'→D.rt (.bl true) S') :
  FF 199 E D [a0,a1,a2,aa (.ref ab),aa (lA X),a5,aa (lA (pW X Ys)),aa (.bW [lA X, .ref l7]),a8,a9,a10,a11] S:=by
 obtain⟨z1,z2⟩:=rj k.cl.sm;obtain⟨rs,er⟩:=k.P.roa d.c.K;obtain⟨e1,e2⟩:=k.P.len;obtain⟨n1,n2⟩:=k.P.ne d.c;have hn:=k.n;rw[FF];ext;refine d.c.ok_standard (r:=198) d.sti (m:=X.ms (hk w0 w1) mT) ⟨cl,rs,by lia,by lia,n2,rfl⟩ (by lia) fb f7 (by decide) λS' f ps s' st _ fl=>?_
 have R:=d.c.std_rw st cl.sh rs;rw[er]at R;refine XB (r:=198) d (by decide) R cl (s' _ _ fb) fl λS'' s''=>?_;rw[xy 60 _ _ (by lia),z_]
 try ext
 exact h S'' (s'.trans s'')
end
def ZZ (ns:List Int) (hl:ns.length≤63):xS 200 [.cX ns] (λ_=>none) (λw _=>w= .bl true) (λ_ _=>False):=by
 rw[show(200:Nat)=199+1 from rfl,xS,uf];refine⟨rfl,?_⟩;refine Yf λS aw at' ab w0 w1 w2 w3 w4 w5 tt B d fw fb=>Pt d fw fb λS1 X k0 hm hn fb=>TF d k0 fb λS2 l5 qs ss Ys k fb f5=>YG d k fb f5 λS3 l7 fb f7=>Uw d k0 hn fb f7 λS4 l8 os R fb f7 f8=>?_;have cl:Cl w0 w1 w2 w3 w4 w5 B X:=k0.cl;refine Rv d k cl R fb f7 f8 λS5 s5=>Yi (Yh d cl R (s5 _ _ fb) (s5 _ _ f8) λa11=>UO d cl R (s5 _ _ fb) (s5 _ _ f8) λS6 s6=>T6 d k cl R (s6 _ _ (s5 _ _ fb)) λS7 s7=>?_);exact SO d k cl hm (s7 _ _ (s6 _ _ (s5 _ _ fb))) (s7 _ _ (s6 _ _ (s5 _ _ f7))) λS' s'=>⟨_, .refl,rfl⟩
end L2
end
section
namespace K56
open PySem L2 PyProof.Rows
noncomputable def top (i:Nat):aW:=PySem.Challenge.pw_turnweave_k56_whole_to_rest.main.body.getD i (.Pass ⟨0,0,0,0⟩)
noncomputable def t9:List En:=[⟨"parts_of",top 9,["t"],1,xJ⟩,⟨"parts_of_all",top 10,["things", "found", "thing"],1,xI⟩,⟨"is_small",top 11,["t", "heavy", "deep", "level"],1,wR⟩,⟨"gather_places",top 13,["t", "place", "found", "number", "inner"],3,wu⟩,⟨"places",top 12,["t", "found"],1,B4⟩,⟨"numbered_part",top 15,["t", "number", "parts"],2,Ba⟩,⟨"part",top 14,["t", "place", "thing", "number"],2,zo⟩,⟨"blank_places",top 17,["side"],1,wP⟩,⟨"places_of_blank",top 18,["side", "number"],2,Aw⟩,⟨"filled",top 19,["side", "things"],2,u8⟩,⟨"have_one_top",top 22,["one", "other"],2,BR⟩,⟨"gather_matched",top 21,["left", "t", "things", "inner", "thing"],3,vm⟩,⟨"matched",top 20,["left", "t", "things"],2,ua⟩,⟨"are_small_letters",top 26,["text"],1,Az⟩,⟨"is_sign",top 25,["text"],1,Cp⟩,⟨"turning_of",top 30,["book", "title", "turning"],2,tK⟩,⟨"is_quiet",top 32,["way"],1,yG⟩,⟨"only_small",top 35,["shape"],1,sH⟩,⟨"with_sides",top 36,["book", "way", "side", "parts", "turning"],3,xC⟩,⟨"source",top 33,["book", "way"],2,Bm⟩,⟨"goal",top 34,["book", "way"],2,uw⟩,⟨"part_places",top 37,["book", "way", "turning"],2,yt⟩,⟨"open_turning",top 41,["book", "shape", "turning"],2,yJ⟩,⟨"gather_open",top 40,["book", "shape", "place", "found", "turning", "number", "inner"],4,xH⟩,⟨"open_uses",top 39,["book", "shape", "found"],2,uC⟩,⟨"places_of",top 42,["pairs"],1,wI⟩,⟨"turned_top",top 47,["book", "shape", "turning"],2,CS⟩,⟨"way_within",top 46,["book", "shape", "place", "wanted", "top", "parts", "spot", "inner"],4,uK⟩,⟨"way_with",top 45,["book", "shape", "places"],3,xF⟩,⟨"way_of",top 43,["book", "shape", "places", "known", "place"],3,BS⟩,⟨"full_way",top 44,["book", "shape"],2,Bl⟩,⟨"rounds",top 49,["book", "shape", "limit", "ways", "here", "way"],3,Bd⟩,⟨"moved",top 51,["book", "way", "other", "first", "second", "mine", "yours", "parts"],3,tH⟩,⟨"leads_on",top 54,["book", "thing", "here", "way"],2,xa⟩,⟨"is_road",top 53,["book", "thing"],2,Bi⟩,⟨"end",top 55,["book", "road"],2,yr⟩,⟨"check_goals",top 58,["book", "ways", "way"],2,vd⟩,⟨"moved_along",top 57,["book", "way", "ways", "line", "over", "way_on"],3,w6⟩,⟨"grid",top 56,["book", "road", "other", "downs", "row", "overs", "way", "line"],3,zm⟩,⟨"last_downs",top 61,["downs_and_overs"],1,xZ⟩,⟨"road_behind",top 59,["book", "road", "other", "ways"],3,A3⟩,⟨"are_quiet",top 62,["ways"],1,vB⟩,⟨"within",top 60,["book", "road", "other"],3,Bn⟩,⟨"road_of",top 64,["book", "shape", "places", "ways", "here", "place", "single"],3,Bp⟩,⟨"left_below",top 72,["book", "way", "place", "turning", "found", "number", "spot", "rests", "before"],4,(λr=>A4 (qW (r - 1)) r)⟩,⟨"still_at",top 70,["book", "way", "spots", "found", "place"],3,xQ⟩,⟨"is_done",top 69,["book", "place", "ways", "left", "way"],3,By⟩,⟨"first_place",top 68,["book", "road", "place"],2,A9⟩,⟨"standard",top 67,["book", "road", "row", "left", "place"],2,A_⟩,⟨"_law_cell",top 74,["script", "k"],2,uE⟩,⟨"_law_words",top 75,["one", "two", "great", "signs", "rest", "base", "k", "at", "words", "word"],3,zb⟩,⟨"_law_count",top 76,["side"],1,uX⟩,⟨"_law_filled",top 77,["side", "things"],2,u7⟩,⟨"_law_lefts",top 78,["way", "head", "c", "d"],4,B6⟩,⟨"_law_rights",top 79,["many", "w", "grows", "some"],3,AY⟩,⟨"_law_book",top 80,["script", "k", "w", "titles", "grows", "book", "j", "lefts", "n", "left", "some", "draw"],5,B1⟩,⟨"_law_plan",top 81,["cells", "book", "w", "room", "stack", "spent", "cell", "way", "need", "node", "k", "at"],4,Cs⟩,⟨"_law_way",top 82,["plan", "book", "by", "k", "bits", "head", "parts", "ways"],3,zG⟩,⟨"_law_made",top 83,["book", "way", "which", "parts", "turning"],3,zp⟩,⟨"_law_places",top 84,["t", "found", "i", "one"],1,uZ⟩,⟨"_law_at",top 85,["t", "place", "i"],2,zM⟩,⟨"_law_stands",top 86,["left", "shape"],2,vw⟩,⟨"_law_open",top 87,["book", "shape", "found", "place", "turning"],2,vk⟩,⟨"_law_things",top 88,["left", "t", "found", "one", "other"],2,u0⟩,⟨"_law_put",top 89,["t", "place", "other", "k"],3,xb⟩,⟨"_law_turned",top 90,["book", "shape", "place", "here", "turning"],3,w9⟩,⟨"_law_walk",top 91,["book", "shape", "cells", "here", "some", "cell", "known"],3,BU⟩,⟨"_law_row_end",top 92,["book", "shape", "row", "place"],3,BN⟩,⟨"law",top 93,["script", "w", "titles", "book", "shape", "some", "here", "road", "full", "still", "rest", "way"],1,xS⟩]
noncomputable def nS:En:=⟨"left_of_use",top 71,["book", "way", "place", "turning", "number"],3,qW⟩
noncomputable def tab:List En:=[nS]++t9
noncomputable def DA:List (ah×W):=[("MOST_HEAVY", .int 400),("MOST_DEEP", .int 40),("MOST_LETTERS", .int 8),("LEFT", .int 1),("RIGHT", .int 2),("MOST_PLACES", .int 60)]
noncomputable def hns:List ((Nat×Nat)×List ah):=[((55,11),["place", "side"]),((57,11),["place", "number", "side"]),((61,30),["inner", "things"]),((84,15),["letter"]),((95,35),["inner"]),((105,12),["inner", "book", "side"]),((113,15),["number"]),((132,11),["pair"]),((142,44),["place"]),((171,12),["inner", "outer", "book"]),((177,4),["TooGreat"]),((203,14),["over", "down", "book"]),((223,11),["line"]),((225,15),["way"]),((269,11),["rest", "number"]),((276,29),["rest", "before"]),((293,23),["j", "signs", "base", "k", "at"]),((303,15),["one"]),((307,28),["one", "things"]),((368,11),["one", "book", "by"]),((375,12),["one", "book", "which"]),((384,28),["place", "i"]),((395,15),["one", "other"]),((432,24),["one"])]
noncomputable def tb:Tb:=⟨λ_=>none,λx=>DA.lookup x,["all", "dict", "enumerate", "int", "isinstance", "len", "list", "min", "range", "sum", "tuple", "zip"],["Apart", "NoPlace", "NoUse", "TooGreat"],[("TooGreat", "TooGreat")],λp=>(hns.lookup (p.line,p.col)).getD [],λx=>(["there", "wanted"]:List ah).contains x,λx=>x == ("open_uses" :ah)⟩
def Wv:tab.all En.ok=true:=by decide +kernel
def RB (kV doc pm:aj) (an:Option ai) (cdv ct a b c d e' f:aj):(tab.map λe=>e.bd kV doc pm an cdv ct [a,b,c,d,e',f])=tab.map λe=>pure (e.ps.zip [a,b,c,d,e',f]):=by kernel_rfl
def SZ:(tab.map λe=>e.c 0)=tab.map λ_=>mK:=by kernel_rfl
def Y4 (r:Nat):(t9.map λe=>e.c (r+1))=t9.map λe=>e.rd { tb with fn:=lkT tab r }:=by kernel_rfl
def WJ (r:Nat):qW (r+2)=nS.rd { tb with fn:=λx=>if x= "left_of_use" then aa (qW r) else lkT tab (r+1) x }:=by kernel_rfl
def WZ (r:Nat) (e:En) (he:e∈tab):e.c (r+1)=mK∨ ∃F,(∀x s,F x=aa s→ ∃e∈tab,e.eNm=x∧ ∃j,j≤r∧s=e.c j)∧e.c (r+1)=e.rd { tb with fn:=F }:=by
 obtain rfl |he:=az.mp he
 ·cases r with
  |zero=>exact .inl rfl
  |succ r=>exact .inr ⟨_,Pn (t:=tab) (e:=nS) aL rfl,WJ r⟩
 ·exact Yd r (Y4 r) e he
noncomputable def wz {l:gu}{w:aS}{K:ao}{h:aE}{mg:ah→Option aj}{fa:ai}(X:K.In h) (G:h.Ns bp mg) (hfa:mg "law" =aa (.ref fa)) (df:v7 K tab) (bl:we K tb.bl) (gl:vD K DA) (xs:wD K tb.xs) (ex:wE K tb.ex):=
 Tw (l:=l) (w:=w) (e0:=tab.getLast (by decide)) (cl:=xS) (room:=200) X G hfa (List.getLast_mem _) rfl rfl rfl Wv RB SZ WZ rfl (by decide +kernel) df bl gl xs ex
def FC{l:gu}{q:bg}{loose:List ah}{XP:(ah→Option aj)→aE→Prop}{YP:aS→aE→Prop}{d:DefRec}{K:Params→ao}(hn:l.most=aa 63) (hdf:d.params.defaults=[])
  (hY:∀(w:aS) (h:aE),YP w h→(K w.params).In h)
  (F:∀(w:aS) (mg:ah→Option aj) (fa:ai) (h:aE),(K w.params).In h→h.Ns bp mg→mg d.name=aa (.ref fa)→
   ∃fd:dt,(∀(s:am) (u:aj),e_ s fd ⟨[u],[]⟩ [("script",u)])∧ ∀base:aE,(K w.params).In base→base.Ns bp mg→oV l.prog w (K w.params) mg base (sj l.prog w) 200 fa fd ["script"] (si (K w.params) (xS 200))) :
  lP q loose XP YP l.row.toRowW d [] (λf vs=>jA f vs):=
 L2.TU (n:=63) (k:=200) (x:= "script") (CX:=λw=>sj l.prog w) (sp:=λw=>si (K w.params) (xS 200)) hn (by decide) hdf ⟨rfl,by decide,by decide⟩ hY F (λw H a ns hl hO hS=>YC hO hS (ZZ ns hl)) λ_ _ _ _ _ ⟨_,_,_,_,_,_,_,_,_,z⟩=>z
end K56
structure PySem.W.Fast:Prop where
 (tw5812124891039558231 tw7036920582104095833 tw2033815448404220457 tw9965050078950819826 tw2642468068375427539 tw5060040449110050741 tw1323042080050533747 tw11339220597404704213 tw16917466165759821281 tw5302492429514929844 tw9282323937332259733 tw12454089858117300209 tw16768249078171397973 tw2844142074582940498 tw5333251753566748743 tw1243097500560613071 tw122723563203729846 tw15162748410754110609 tw14752491952625587506 tw316140439863301195 tw9599320622841152699 tw274424876060898224 tw7070876865040110449 tw5012202433227920292 tw9000361086725056139 tw10158314992664767339 tw12009397480203985896 tw6273526070137111161 tw11042600735860598863 tw7301826542454796861 tw14595710185140117954 tw17193182445144082584 tw13568300069430438804 tw1962526895223108879 tw17947270491331001073 tw11439913855760156649 tw11188952386808308930 tw5269813458959082246 tw9447814914834356387 tw9496664295114199220 tw10818039988410832157 tw17754512564446829163 tw11158416648405891417 tw8725506313575317077 tw2698626992814744521 tw662010359973159364 tw802024798217459712 tw4777102980024989901 tw930500567645413461 tw776652946194648704 tw15014339150731344203 tw15282704132095110697 tw9991738003118850153 tw1898596870408879400 tw5577687958358003421 tw9257224471248869675 tw9152980868469339913 tw15928504991795325556 tw4486532868106874273 tw16782357315475550122 tw15153357872623400119 tw18410395512191686184 tw8599484345521895588 tw9483005856187341127 tw2109247184587559213 tw10477157508653704278 tw6221692403978119251 tw3170841198093301223 tw15496056562189266537 tw786928492094886100 tw18012256804226862821 tw9388837161268608447 tw15949154142288965306 tw9174973849443438508 tw10810913486311054128 tw1929413062305366588 tw15879636038715863029 tw12908736509354203905 tw5316747594866229972 tw14082700383590469434 tw18209871053014063143 tw4082174983814281005 tw10580771786047717682 tw669387999477970572 tw5844244623596203849 tw2639938341934381007 tw1297603878037776048 tw1669653118075026072 tw1823558947824197438 tw5446442039355618022 tw11141488364285359950 tw3094792888338956914 tw10404151661833364272 tw14410302280683648930 tw17351717588896673078 tw6286017116311407328 tw10026664469932002107 tw3641658411482611152 tw7911936612285280424 tw8417062738629719713 tw11226285887223659635 tw17210155548880670097 tw15610660337841743967 tw5009425074042787810 tw9222203934862542451 tw16391251327591426643 tw2426614758225023458 tw2788924101492614168 tw1138007137298554132 tw5393474975045503807 tw13251198046090364079 tw2397313550133503606 tw2747090477915941411 tw6793143254083897279 tw9358551340687102627 tw7962524201115913082 tw3560704498422347189 tw511305127945909166 tw657424577030536041 tw8846204322617094500 tw4640412231632277894 tw13896700690639244653 tw5628743484445078873 tw5636324356603014507 tw15727065542071182404 tw7443998513389853499 tw3381229864099919422 tw11452380529563888505 tw11487265121753284240 tw12315485382816328968 tw2482416203626867831 tw12075357297866380143 tw5747511193835017191 tw11441043559455717735 tw9079600473253298328 tw2405402610093784298 tw17063969791024815863 tw15069017918695902880 tw10098106335616757205 tw2725653424967479263 tw10459733246479198318 tw3380456341255549762 tw5792135708148059946 tw4164703873894725254 tw7205387570763792831 tw17960382300381018426 tw11231906951272887668 tw14090651294565379169 tw4754254740291787900 tw9445022977608291102 tw3049544263015896198 tw12231011677124229983 tw4543740354646178190 tw16054022878250498016 tw3784802780329247179 tw17049360335845828912 tw9123675229968664194 tw11095335877094061753 tw12239859529205066308 tw8146952278932047012 tw8536480990292743177 tw37956343088132666 tw15330149210445768268 tw16377519350834210780 tw12264486905381103187 tw12825139434144579156 tw6399330461639989247 tw4765800336776313571 tw12995224097033487126 tw9660616784624357098 tw14852586816379756518 tw4402328719861082872 tw10278220641447339502 tw3148835955342537109 tw1621214983513068900 tw15706761036663144514 tw2556638026271690675 tw6730968430239773912 tw4894170336656404161 tw12434442264261206273 tw1150681857856096233 tw4637977675256146739 tw1795662481023316560 tw2806288404153572888 tw15372159629254336383 tw3176933856616791397 tw7153863479482948693 tw2271648126210115048 tw5961103054627387585 tw3421369736644848752 tw15223493842345596681 tw11551583762733574308 tw10752603914878922853 tw14402857864668256486 tw12787727136984853949:True)
open PySem PySem.W PyProof.Rows
set_option maxRecDepth 100000 in
set_option maxHeartbeats 0 in
theorem PySem.Challenge.cw_turnweave_k56_whole_to_rest_holds : PySem.Challenge.rw_turnweave_k56_whole_to_rest.Holds := by
 w_on;o_law;k_head;(case hw=>w_witness2)
 k_fill
 refine K56.FC (l:=PySem.Challenge.rw_turnweave_k56_whole_to_rest) rfl rfl (λw h Y=>PySem.W.kIn_of Y) ?F
 case F=>
  intro w mg fa h KX G hmg
  refine' K56.wz KX G hmg ?_ ?_ ?_ ?_ ?_<;>dsimp only[L2.v7,L2.we,L2.vD,L2.wD,L2.wE,K56.tab,K56.t9,K56.nS,K56.DA,K56.tb,List.append,cg,aX]
  all_goals (repeat' first |exact dB |refine And.intro ?_ ?_ |refine' L2.dfn ?_ ?_ ?_ ?_ |refine' L2.gln ?_ |refine' L2.xch ?_ ?_ ?_ ?_ ?_ ?_ ?_ |refine' L2.exh ?_ ?_ ?_)
  all_goals first |k_is |kit_is | (dsimp only[List.map];kit_is) |kts_exm | (delta L2.Ct;k_exc) |skip
end
