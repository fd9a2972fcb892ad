import PyProof.Rows.All
import Wide.All
import OpenK.AllK
import Wide.FinOn
import Lean
import PyProof.EqAt
import PyProof.EqKinds
import PyProof.TupleCall
import PyProof.NeKinds
import PyProof.ListMulRoad
import PyProof.AttrMissHeap
import KE.KDictOf
import KE.KRevIter
import PyProof.ListRange
import KE.KSortTup
import KE.KMinKey
import PyProof.MinMaxWalk
import PyProof.Rows.CallKwBuiltin
import PyProof.Rows.SetFrom
import PyProof.Rows.SeqMore
import PySem.Challenge.RW_turnweave_k56_whole_to_rest
open Option renaming some→aa,isSome_iff_exists→dL,getD_some→d8,isSome_map→gT,map_some→ig,getD_none→j6,isSome_some→kI,some→kY
open PySem renaming Str→ah,Addr→ai,Value→aj,Shared→am,wpAny_bind→au,wpAny→av,starEach→ax,model→aB,Heap→aE,Obj→aG,eval→aH,wpAny_pure→aM,Paired→aN,World→aR,Stmt→aW,backTo→aZ,Program→bi,mainGlobals→bj,Around→bt,Pos→bw,compareOp→bB,Env→bN,wpAny_field→bV,Keyword→bZ,IsPair→b6,NameKind→b9,assignEach→b_,binaryOp→ce,wpAny_mono→ci,Sem→cj,pyNext→cr,Builtin→cu,IsZip→cw,bootBuiltins→cD,tupleKind→cI,attributeBase→cJ,wpAny_setField_rec→cM,rawInt→cQ,IsPart→cY,IsEnum→c8,PassesOwn→db,wpAny_seqItems→dh,FuncData→dq,backToKw→dv,keywordEach→dw,pyIter→dy,bindL→dC,foldedSetIterable→dF,wpAny_call_entry→dG,wpAny_callSpecial?_slot→dH,atKey→dJ,bindC→dR,callerA→dX,codeAny→dY,wpAny_truthy_bool→d6,wpAny_passesOwn→d9,sliceBounds→d_,sizeLine_eq→ef,getItem→eA,swapsWith→eG,wpAny_rule→eK,valueAt→eQ,BindsTo→eR,wpAny_newObj_type→eU,wpAny_pyIter_list→eV,sysModules→fo,call_meets→fy,typeOf→fA,mem_of_lookup→fB,PlainAttrs→fI,behindInMarks→fK,storedH→fM,wpAny_typeOf→fV,wpAny_execs_nil→fX,wpAny_letGo→gr,wpAny_holding→gv,wpAny_onRaise→gB,letOwnedTupleGo→gJ,wpAny_attempt→gL,wpAny_Call_Name_kw→gQ,wpAny_getItem_str_slice→gU,post_val_or_str→gX,preSum→gZ,Comprehension→g9,lastMarks→g_,wpAny_updateSeq_pair→ik,builtinsNs→ip,ZipApart→ir,cellsFrom→iu,wpAny_Name→ix,storeName→iy,noFill_tuple_add→iF,sliceRange_one→iN,concat_meets→iP,seq_tuple_add→iW,codeAny_mono→i0,typeLookup→jh,bindArgs→jj,call→jm,pick_run→jo,setFlight→ju,typeIs_int→jA,tupleKind_room_in1→jC,swappedStores→jH,typeIs_str→jJ,swapsWithSole→jL,noteFrame→jP,IsEnumOut→jT,getattributeRaised→jW,wpAny_pyIter_zip→jY,isSubtype_stop→kg,wpAny_loadName_local→kh,wpAny_setFlight_noneW→kj,firstArgMember→kr,wpAny_assign_Name→kC,wpAny_execs_cons→kG,wpAny_sequenceKey→kZ,wpAny_pyIter_tuple→k_,wpAny_loadName_cell→lg,wpAny_isInstance→li,wpAny_newTuple→lQ,wpAny_pyIter_enum→lR,codeAny_builtin→lU,wpAny_setField→ml,slot_list_getitem→mo
open PySem.W renaming Frag→ao,nsIn→bQ,kia_one→cN,hideAll→dt,fnOf→dU,hideAll_none→dW,mg_of→eN,keepIn→fe,exmOne→fx,findIn→fJ,of_hideAll→fZ,kitOne→ge,hideAll_get→gj,codeIn→gK,OpenLaw→gS,mroIn→je,lookIn→jf,excIn→jN,methodObj→jS,instObj→jU,plainGet→ky,kitx_list→lB,callWith_K→lW,WalkO→ma,cellsFrom_some→mh,kitx_dict→mj
open List renaming length_map→ay,mem_cons→az,map_cons→aC,mem_cons_of_mem→aI,mem_of_getElem?→aJ,mem_cons_self→aK,getElem?_eq_getElem→aS,mem_map→aT,length_cons→aU,getElem?_map→aV,nil_append→aX,length_append→bc,size_toArray→bf,append_nil→bg,mem_singleton→bh,replicate→bn,not_mem_nil→bp,mem_append→bq,map_map→bu,getD_eq_getElem?_getD→bv,range→bx,append_assoc→bD,map_append→bK,getElem?_cons_succ→bU,mem_of_find?_eq_some→bX,getElem?_eq_some_iff→b8,find?_cons→cb,cons_append→ck,mem_append_right→cp,lookup_cons→cq,map_nil→cy,isEmpty_iff→cA,length_singleton→cB,flatMap_cons→cC,length_drop→cP,replicate_succ→cR,all_eq_true→cS,length_take→cU,flatMap_nil→cZ,map_congr_left→dc,length_nil→di,take_of_length_le→dB,length→dE,drop_zero→dI,mem_filter→dS,mem_flatMap→dZ,flatten_cons→d5,isPrefixOf_iff_prefix→d7,mem_append_left→eB,nodup_cons→eD,findSome?_cons→eF,getElem_mem→eJ,filter_cons→eP,find?_some→eT,foldl_cons→eZ,all_cons→e_,getElem_of_mem→fh,any_cons→fu,all_map→fv,getElem?_range→fN,of_mem_zip→fO,range'→f9,mem_range→f_,drop_of_length_le→gb,drop_eq_getElem_cons→gf,range_succ_eq_map→gp,length_filter_le→gq,range_succ→gw,getElem?_set_self→gy,range'_succ→gA,zip_cons_cons→gC,range_eq_range'→gG,take_append_drop→gM,find?_eq_none→gY,filterMap_cons→h_,contains_iff_mem→ie,isEmpty_cons→il,take_length→iq,foldl→iw,map_drop→iz,mem_of_mem_take→iD,map_take→iL,mem_filterMap→iY,getElem?_set_ne→iZ,mem_of_mem_drop→i7,lookup→ja,Nodup→jc,getElem?_eq_none→jd,getElem?_of_mem→jk,getElem?_append_right→jp,forIn_cons→jx,isEmpty_nil→jB,getElem?_cons_zero→jD,length_replicate→jO,append_eq_nil_iff→jZ,getElem?_set→j4,zipIdx_cons→j8,flatMap_append→kf,forIn_nil→kl,Pairwise→kq,getElem?_replicate→kw,set_cons_succ→kx,drop_drop→kD,pairwise_map→kF,take_add→kJ,getElem?_append_left→kL,filter_append→kN,findSome?_eq_none_iff→kO,length_pos_iff→kW,getElem?_drop→lj,filter_cons_of_neg→lm,eq_nil_of_length_eq_zero→ly,length_range→lz,mem_or_eq_of_mem_set→lE,take_zero→lF,countP_cons→lK,flatMap_def→lL,ext_getElem?→lM,take_succ→lP,take_sublist→lS,drop_left→lV,zipIdx_nil→l6,set_cons_zero→l_,sum_cons→md,take_succ_cons→mf
open Nat renaming le_refl→aA,zero_le→aP,le_trans→aY,le_of_ble_eq_true→bF,zero_add→bG,ne_of_lt→bS,lt_of_lt_of_le→bY,add_mul→cg,lt_irrefl→cO,one_mul→c5,ne_of_gt→da,pow_le_pow_right→dg,add_zero→dO,mul_le_mul_right→dQ,add_comm→eE,mul_add→eY,sub_zero→fD,mul_le_mul_left→fP,one_le_two_pow→gd,le_of_eq→gi,pow_add→gm,le_add_right→gu,add_le_add_left→gI,sub_self→gO,lt_or_ge→gV,eq_zero_or_pos→ii,mul_assoc→iE,min_eq_left→iR,le_of_lt→jg,le_mul_of_pos_right→ki,le_of_not_lt→ko,reduceAdd→kK,min_eq_right→lp,one_le_pow→lN,le_mul_of_pos_left→l9
open Option.some renaming inj→aL,injEq→bH
open PySem.Heap renaming get?_push_of_some→aO,lt_size→aQ,get?_push_size→bI,SameBut→cL,size_push→c9,Left→iv,ExtBut→iQ
open PySem.NameKind renaming free→a_,cell→cf
open Int renaming toNat_natCast→bb,toNat_of_nonneg→cm,emod_nonneg→c_,emod_lt_of_pos→dj
open Ne renaming symm→bz
open PySem.Str renaming ofString→bE,join→du,empty→fH,length→io
open PySem.Value renaming ref→bM,none→cK,bool→fj,str→fY,int→gE,type→iV,isStrOf→kA
open Bool renaming and_eq_true→bT,false_eq_true→cF,false_ne_true→cX,eq_iff_iff→fF,not_eq_true'→fU,and_false→gh,not_true→iJ,or_eq_true→jE,true_and→jR,false_or→ke,not_false→kz,or_false→kB
open PyProof.Rows renaming AllBare→cc,envOfC→cH,IsTup→eM,slot_tuple_getitem→eX,IntsAre→gc,callWith_type1→gn,UnaryOp_→iH,entry_tuple_getitem→j3,boot_tuple→kc,slicePart_none→ku,subscriptTail_builtinR→kR,args_tuple_getitem→kX
open False renaming elim→cE
open PySem.Txt renaming slice→cV,upper→eI
open PySem.Builtin.SmallTypes renaming nextOf→cW,ownedTupleIsFree→eW,ownedTupleHandOut→gH
open PySem.Builtin.Str renaming occurrences→c6,strSliceIndices→hU
open Sum renaming inr→dD
open Prod.mk renaming injEq→dM
open True renaming intro→dN
open PySem.SeqAt renaming EqAt→eO,RcNeAt→fG,RcAt→fT
open Or renaming inr→eS,inl→gD
open PySem.Builtin.List renaming listTooLong→fi
open ForInStep renaming yield→fE
open List.cons renaming injEq→fQ
open Eq renaming trans→fS
open PySem.Paired renaming length→fW
open PySem.F renaming slot_zip_next→gF,slot_tuple_iterator_next→hZ,slot_enumerate_next→ic,plainAttrs_list→iS,slot_list_getattribute→iT,slot_tuple_add→i_,args_tuple_add_2→jb,entry_tuple_add→jF,args_zip_next_1→jX,entry_enumerate_next→j_,slot_list_extend→kH,entry_list_extend→kM,entry_tuple_iterator_next→kP,args_enumerate_next_1→kS,slot_int_rmul→kU,entry_zip_next→lx,args_tuple_iterator_next_1→lA,plainAttrs_str→lC,slot_list_extend→lG,args_list_extend_2→lH,excBase_ValueError→lT,type_list_extend→mn
open LawfulBEq renaming eq_of_beq→gP
open PySem.Builtin.Tuple renaming tupleExact→gR,tupleItemsOf→kQ
open LawfulMonad renaming pure_bind→hV
open PySem.Builtin.Slice renaming slicePlaces→ib,sliceAdjust→jQ,sliceApplied→kT
open Array renaming toList_append→i8,length_toList→i9,getElem?_eq_some_iff→j7,getElem?_eq_getElem→km
open Lean.Syntax renaming Term→jq
open PySem.Walks renaming list→jr
open PyProof.Rows.IsTup renaming new→jG
open PySem.Obj renaming mapSeq→jI,data_mapFields→kE
open Lean renaming mkIdent→jK
open Prod renaming snd→jV
open PySem.PassesOwn renaming never→j9
open PySem.Around renaming under_plainId→ln
open PySem.Heap.SameBut renaming update→lq
open Function renaming comp→lD
open Classical renaming choose_spec→lI
open PySem.Calls renaming evalArgs_plain→lJ,Name_function_global→lY,callWith_builtin→lZ
open PySem.AutoSeq1 renaming wpAny_loadPart'→lO
open PySem.Builtin.Dict renaming updateFrom→mi
set_option Elab.async false
set_option compiler.extract_closed false
set_option linter.all false
set_option maxRecDepth 100000
set_option maxHeartbeats 4000000
local macro_rules | `(tactic| lia) => `(tactic| first | exact (Nat.sub_add_cancel (Nat.le_trans (by decide) ‹_›)).symm | exact Nat.le_trans ‹_› (by decide) | exact Nat.le_trans (by decide) ‹_› | lia (config := {}) | omega)
namespace L2
open PySem PySem.Spec PyProof.Rows
abbrev Key:=Sum Int ah
def xl:Key→aj→Bool
 | .inl k,v=>aj.isInt k v
 | .inr x,v=>kA x v
def Ri (w:aR):Key→Int
 | .inl k=>hashInt k
 | .inr x=>hashStr w x
theorem uc:∀{k:Key}{v:aj},xl k v=true→(∃i t,k=Sum.inl i∧v=gE i t)∨(∃x t,k=dD x∧v=fY x t)
 | .inl i,v,h=>by
  obtain⟨t,e⟩:=aj.isInt_shape (k:=i) (v:=v) h;exact .inl ⟨i,t,rfl,e⟩
 | .inr x,v,h=>by
  obtain⟨t,e⟩:=aj.isStrOf_shape (x:=x) (v:=v) h;exact .inr ⟨x,t,rfl,e⟩
def Vm (i:Int) (t:Tok):xl (.inl i) (.int i t)=true:=by simp [xl,aj.isInt]
def Rp (x:ah) (t:Tok):xl (.inr x) (.str x t)=true:=by simp [xl,kA]
def Zk (a b:Int):decide ((Sum.inl a:Key)=Sum.inl b)=(a == b):=by
 by_cases e:a=b
 ·subst e;simp
 ·have h:¬(Sum.inl a:Key)=Sum.inl b:=λq=>e (Sum.inl.inj q);rw[decide_eq_false h];exact(beq_eq_false_iff_ne.mpr e).symm
def WJ (a b:ah):decide ((dD a:Key)=dD b)=decide (a=b):=by
 by_cases e:a=b
 ·subst e;simp
 ·have h:¬(dD a:Key)=dD b:=λq=>e (dD.inj q);rw[decide_eq_false h,decide_eq_false e]
def Rz (a:Int) (b:ah):decide ((Sum.inl a:Key)=dD b)=false:=decide_eq_false (λq=>nomatch q)
def YC (a:ah) (b:Int):decide ((dD a:Key)=Sum.inl b)=false:=decide_eq_false (λq=>nomatch q)
def qF (prog:bi) (w:aR):PySem.KeyKind prog w Key where
  is:=xl
  hash:=Ri w
  inj:=λv a b ha hb=>by
    obtain ⟨i,t,rfl,rfl⟩ |⟨x,t,rfl,rfl⟩:=uc ha
    · obtain ⟨j,u,rfl,e⟩ |⟨y,u,rfl,e⟩:=uc hb
      · injection e with e1 _;rw[e1]
      · exact nomatch e
    · obtain ⟨j,u,rfl,e⟩ |⟨y,u,rfl,e⟩:=uc hb
      · exact nomatch e
      · injection e with e1 _;rw[e1]
  byValue:=λk v h=>by
    rcases uc h with⟨i,t,rfl,rfl⟩ |⟨x,t,rfl,rfl⟩<;>rfl
  pyHash:=λhv h=>by
    obtain ⟨i,t,rfl,rfl⟩ |⟨x,t,rfl,rfl⟩:=uc hv
    · exact wpAny_pyHash_int h
    · exact wpAny_pyHash_str h
  eqBool:=λhu hv h=>by
    obtain ⟨i,t,rfl,rfl⟩ |⟨x,t,rfl,rfl⟩:=uc hu
    · obtain ⟨j,u,rfl,rfl⟩ |⟨y,u,rfl,rfl⟩:=uc hv
      · rw[Zk]at h;exact wpAny_eqBool_int h
      · rw[Rz]at h;exact eO.int_str i t y u _ _ _ _ h
    · obtain ⟨j,u,rfl,rfl⟩ |⟨y,u,rfl,rfl⟩:=uc hv
      · rw[YC]at h;exact eO.str_int x t j u _ _ _ _ h
      · rw[WJ]at h;exact wpAny_eqBool_str h
  «strs» :=λk x t v h=>by
    obtain ⟨i,u,rfl,e⟩ |⟨y,u,rfl,e⟩:=uc h
    · exact nomatch e
    · injection e with e1 _;subst e1;cases v<;>rfl
def Qa (prog:bi) (w:aR) (i:Int) (t:Tok):(qF prog w).is (.inl i) (.int i t)=true:=Vm i t
def UY (prog:bi) (w:aR) (x:ah) (t:Tok):(qF prog w).is (.inr x) (.str x t)=true:=Rp x t
inductive V where
  |ca |bl (b:Bool) |int (i:Int) |str (x:ah) |byt (b:Array UInt8) |flt (b:UInt64) |ref (a:ai) |ty (n:String)
  deriving DecidableEq
def mV:V→aj→Prop
 | .ca,u=>u=cK
 | .bl b,u=>u=fj b
 | .int i,u=>∃t,u=gE i t
 | .str x,u=>∃t,u=fY x t
 | .byt b,u=>∃t,u=aj.bytes b t
 | .flt b,u=>∃t,u=aj.float b t
 | .ref a,u=>u=bM a
 | .ty n,u=>u=iV n
abbrev mM:List V→List aj→Prop:=aN mV
def mM.length{xs:List V}{us:List aj}(r:mM xs us):xs.length=us.length:=fW r
theorem mM.get:∀{xs:List V}{us:List aj}{i:Nat}{x:V},mM xs us→xs[i]? =aa x→ ∃u,us[i]? =aa u∧mV x u
 |_,_,_,_, .nil,e=>by simp at e
 |_,_,0,_, .cons r _,e=>by simp at e;subst e;exact⟨_,rfl,r⟩
 |_,_,i+1,x, .cons _ t,e=>by
  obtain⟨u,h1,h2⟩:=mM.get (i:=i) (x:=x) t (by simpa using e);exact⟨u,by simpa using h1,h2⟩
theorem mM.append:∀{xs ys:List V}{us ws:List aj},mM xs us→mM ys ws→mM (xs++ys) (us++ws)
 |_,_,_,_, .nil,s=>s
 |_,_,_,_, .cons r t,s=> .cons r (mM.append t s)
theorem mM.take:∀{xs:List V}{us:List aj}(n:Nat),mM xs us→mM (xs.take n) (us.take n)
 |_,_,0,_=> .nil
 |_,_,_+1, .nil=> .nil
 |_,_,n+1, .cons r t=> .cons r (mM.take n t)
theorem mM.drop:∀{xs:List V}{us:List aj}(n:Nat),mM xs us→mM (xs.drop n) (us.drop n)
 |_,_,0,r=>r
 |_,_,_+1, .nil=> .nil
 |_,_,n+1, .cons _ t=>mM.drop n t
def qv:Option V→Option aj→Prop
 |some v,aa u=>mV v u
 |none,none=>True
 |_,_=>False
def KV {κ:Type}:List (κ×V)→List (κ×aj)→Prop:=aN λ(p:κ×V) (q:κ×aj)=>p.1=q.1∧mV p.2 q.2
def kV:Key→V
 | .inl i=> .int i
 | .inr x=> .str x
inductive HO where
    |bP (xs:List V)
    |bW (xs:List V)
    |dK (gN:List (Key×V)) |dT (gN:List (List Key×V))
    |set (S:Int→Bool) (n:Nat)
    |ins (C dx:ai) (fs:List (ah×V))
    |own (x:ai)
    |xd (fs:List (ah×V))
    |met (f x:ai)
    |rng (lo hi:Int)
    |frz (o:aG) (u:HO)
    |tbl (ps:Array aj)
    |ext (φ:aE→Prop)
abbrev Hp:=ai→Option HO
def nG (H:Hp) (a:ai) (o:HO):Hp:=λb=>if b=a then aa o else H b
def pD:nG H a o a=aa o:=by unfold nG;rw[if_pos rfl]
def og (h:b≠a):nG H a o b=H b:=by unfold nG;rw[if_neg h]
def AJ{H:Hp}{a b:ai}{o u:HO}(h:H a=aa o) (h':H b=aa u) (d:o≠u):a≠b:=by
 intro e;subst e;rw[h]at h';exact d (aL h')
def pO{H:Hp}{a b:ai}{o:HO}(h:H a=aa o) (h':H b=none):a≠b:=by
 intro e;subst e;rw[h]at h';cases h'
section
variable (P:bi) (w:aR)
def nc (H:Hp) (h:aE) (a:ai):HO→Prop
 | .bP xs=>xs.length≤sizeLine∧ ∃(eH:List aj) (n:Nat),mM xs eH∧h.get? a=aa { cls:= .type "list",data:= .seq eH.toArray n }
 | .bW xs=>xs.length≤sizeLine∧ ∃eH:List aj,mM xs eH∧eM h a eH.toArray
 | .dK gN=>gN.length≤sizeLine∧(a == fo)=false∧ ∃vs,KV gN vs∧h.DictOf (qF P w) a vs
 | .dT gN=>gN.length≤sizeLine∧(a == fo)=false∧ ∃xs:List (List Key×ai×aj),
   aN (λ(p:List Key×V) (q:List Key×ai×aj)=>p.1=q.1∧H q.2.1=aa (.bW (p.1.map kV))∧mV p.2 q.2.2) gN xs∧
   ∃o es ep,h.get? a=aa o∧o.ExactDict∧o.data= .dict es ep∧es.toList=xs.map (entryOfKey (cI (qF P w)))∧(xs.map (·.1)).Nodup
 | .set S n=>h.SetOf (intKind P w) a S n
 | .ins C dx fs=>H dx=aa (.own a)∧fs.length≤1000∧dx≠a∧h.get? a=aa (jU C dx)∧
   ∃mA,h.Ns1 dx mA∧(∀f,qv (fs.lookup f) (mA f))∧PySem.Within mA (fs.map (·.1))
 | .own _=>∃o,h.get? a=aa o
 | .xd fs=>∃mA,h.Ns1 a mA∧ ∀f,qv (fs.lookup f) (mA f)
 | .rng lo hi=>∃t u v,h.get? a=aa { cls:= .type "range",data:= .fields #[.int lo t, .int hi u, .int 1 v] }
 | .frz o u=>h.get? a=aa o∧nc H h a u
 | .tbl ps=>h.get? a=aa { cls:= .none,data:= .fields ps }
 | .met f x=>h.get? a=aa (jS (.ref f) (.ref x))
 | .ext φ=>φ h∧(∃o,h.get? a=aa o)∧ ∀h1 h2:aE,φ h1→(∀o,h1.get? a=aa o→h2.get? a=aa o)→φ h2
def nZ (H:Hp) (h:aE):Prop:=∀a o,H a=aa o→nc P w H h a o
end
def nc.lt (x:nc P w H h a o):a<h.objs.size:=by
 cases o with
 |bP xs=>obtain⟨_,_,_,_,e⟩:=x;exact aQ e
 |bW xs=>obtain⟨_,_,_,p⟩:=x;exact p.lt
 |dK gN=>obtain⟨_,_,_,_,o,_,_,e,_⟩:=x;exact aQ e
 |dT gN=>obtain⟨_,_,_,_,o,_,_,e,_⟩:=x;exact aQ e
 |set S n=>obtain⟨o,_,_,_,e,_⟩:=x;exact aQ e
 |ins C dx fs=>obtain⟨_,_,_,e,_⟩:=x;exact aQ e
 |own y=>obtain⟨_,e⟩:=x;exact aQ e
 |xd fs=>obtain⟨_,⟨_,_,_,e,_⟩,_⟩:=x;exact aQ e
 |rng lo hi=>obtain⟨_,_,_,e⟩:=x;exact aQ e
 |frz ob u=>obtain⟨e,_⟩:=x;exact aQ e
 |tbl ps=>exact aQ (show h.get? a=aa _ from x)
 |met f y=>exact aQ (show h.get? a=aa _ from x)
 |ext φ=>obtain⟨_,⟨_,e⟩,_⟩:=x;exact aQ e
theorem Paired.mapP{α β:Type}{F G:α→β→Prop}:∀{l₁:List α}{l₂:List β},aN F l₁ l₂→(∀a b,F a b→G a b)→aN G l₁ l₂
 |_,_, .nil,_=> .nil
 |_,_, .cons r t,f=> .cons (f _ _ r) (Paired.mapP t f)
def nc.stay (x:nc P w H h a o) (k:∀b u,(b=a∨H b=aa (.own a))→h.get? b=aa u→h'.get? b=aa u)
  (ho:∀b,H b=aa (.own a)→H' b=aa (.own a)) (ht:∀b xs,H b=aa (.bW xs)→H' b=aa (.bW xs)):nc P w H' h' a o:=by
 induction o with
 |bP xs=>obtain⟨z,eH,n,r,e⟩:=x;exact⟨z,eH,n,r,k _ _ (.inl rfl) e⟩
 |bW xs=>obtain⟨z,eH,r,ob,e,c⟩:=x;exact⟨z,eH,r,ob,k _ _ (.inl rfl) e,c⟩
 |dK gN=>obtain⟨z,y,vs,r,ob,es,ep,e,c⟩:=x;exact⟨z,y,vs,r,ob,es,ep,k _ _ (.inl rfl) e,c⟩
 |dT gN=>
  obtain⟨z,y,xs,r,ob,es,ep,e,c⟩:=x;exact⟨z,y,xs,Paired.mapP r λp q z=>⟨z.1,ht _ _ z.2.1,z.2.2⟩,ob,es,ep,k _ _ (.inl rfl) e,c⟩
 |set S n=>obtain⟨ob,es,ep,t,e,c⟩:=x;exact⟨ob,es,ep,t,k _ _ (.inl rfl) e,c⟩
 |ins C dx fs=>
  obtain⟨d,z,ne,e,mA,⟨od,es,ep,e2,c⟩,r⟩:=x;exact⟨ho _ d,z,ne,k _ _ (.inl rfl) e,mA,⟨od,es,ep,k _ _ (.inr d) e2,c⟩,r⟩
 |own y=>obtain⟨ob,e⟩:=x;exact⟨ob,k _ _ (.inl rfl) e⟩
 |xd fs=>obtain⟨mA,⟨od,es,ep,e,c⟩,r⟩:=x;exact⟨mA,⟨od,es,ep,k _ _ (.inl rfl) e,c⟩,r⟩
 |rng lo hi=>obtain⟨t,u,v,e⟩:=x;exact⟨t,u,v,k _ _ (.inl rfl) e⟩
 |frz ob u ih=>obtain⟨e,q⟩:=x;exact⟨k _ _ (.inl rfl) e,ih q⟩
 |tbl ps=>
  have e:h.get? a=aa { cls:= .none,data:= .fields ps }:=x;show h'.get? a=aa { cls:= .none,data:= .fields ps };exact k a _ (.inl rfl) e
 |met f y=>
  have e:h.get? a=aa (jS (.ref f) (.ref y)):=x;show h'.get? a=aa (jS (.ref f) (.ref y));exact k a _ (.inl rfl) e
 |ext φ=>obtain⟨p,⟨o,e⟩,st⟩:=x;exact⟨st _ _ p λo q=>k _ _ (.inl rfl) q,⟨o,k _ _ (.inl rfl) e⟩,st⟩
def nZ.lt (x:nZ P w H h) (e:H a=aa o):a<h.objs.size:=(x a o e).lt
def nZ.fresh (x:nZ P w H h) (e:h.objs.size≤a):H a=none:=by
 cases q:H a with
 |none=>rfl
 |some u=>exact absurd (bY (x.lt q) e) (cO _)
def nZ.kept (x:nZ P w H h) (k:∀b u,h.get? b=aa u→h'.get? b=aa u):nZ P w H h':=λa o e=>
 (x a o e).stay (λb u _ q=>k b u q) (λ_ q=>q) λ_ _ q=>q
def nZ.laid (x:nZ P w H h) (k:∀b u,h.get? b=aa u→h'.get? b=aa u) (hp:h.objs.size≤a) (new:nc P w (nG H a o) h' a o):nZ P w (nG H a o) h':=λb u e=>by
 have hn:=x.fresh hp;by_cases hb:b=a
 ·subst hb;rw[pD]at e;cases e;exact new
 ·rw[og hb]at e;exact(x b u e).stay (λc v _ q=>k c v q) (λc q=>by rw[og (pO q hn)];exact q) λc xs q=>by rw[og (pO q hn)];exact q
def Rd (H:Hp) (a:ai) (u:HO):Prop:=H a=aa u∨ ∃o,H a=aa (.frz o u)
def Rd.ok (r:Rd H a u) (x:nZ P w H h):nc P w H h a u:=by
 obtain r |⟨o,r⟩:=r
 ·exact x a u r
 ·obtain⟨_,q⟩:=x a _ r;exact q
def Ct:Option HO→Prop
 |some (.bP _)=>True
 |some (.dK _)=>True
 |some (.dT _)=>True
 |some (.set _ _)=>True
 |some (.ins _ _ _)=>True
 |some (.ext _)=>True
 |_=>False
def nZ.write (ok:nZ P w H h) (mu:Ct (H x)) (he:e=x∨H e=aa (.own x)) (k:∀b u,b≠e→h.get? b=aa u→h'.get? b=aa u) (heo:∃u,h'.get? e=aa u)
  (new:nc P w (nG H x o') h' x o'):nZ P w (nG H x o') h':=λb u q=>by
 have nown:∀c y,H c=aa (.own y)→c≠x:=λc y r z=>by subst z;rw[r]at mu;exact mu
 have ntup:∀c xs,H c=aa (.bW xs)→c≠x:=λc xs r z=>by subst z;rw[r]at mu;exact mu
 by_cases hb:b=x
 ·subst hb;rw[pD]at q;cases q;exact new
 ·rw[og hb]at q;by_cases hbe:b=e
  ·have q':H b=aa (.own x):=by
    obtain z |z:=he
    ·exact absurd (hbe.trans z) hb
    ·rw[hbe];exact z
   rw[q]at q';cases q';obtain⟨v,hv⟩:=heo;exact⟨v,by rw[hbe];exact hv⟩
  ·refine(ok b u q).stay (λc v hc r=>k c v ?_ r) (λc r=>by rw[og (nown c b r)];exact r) λc xs r=>by rw[og (ntup c xs r)];exact r
   obtain rfl |hc:=hc
   ·exact hbe
   ·rintro rfl;obtain z |z:=he
    ·exact nown c b hc z
    ·rw[hc]at z;cases z;exact hb rfl
structure Un (fs ex:List ai) (H H':Hp) (h h':aE):Prop where
  keep:∀b o,h.get? b=aa o→H b=none→b∉fs→b∉ex→h'.get? b=aa o
  slot:∀b o,h.get? b=aa o→H b=none→b∈fs→b∉ex→ ∃sl,h'.get? b=aa { o with slots:=sl }
  free:∀b o,h.get? b=aa o→H b=none→b∉ex→H' b=none
  there:∀b o,h.get? b=aa o→b∉ex→ ∃o',h'.get? b=aa o'
  tups:∀b xs,H b=aa (.bW xs)→H' b=aa (.bW xs)
  frzs:∀b o u,H b=aa (.frz o u)→H' b=aa (.frz o u)
  tbls:∀b ps,H b=aa (.tbl ps)→ ∃more,H' b=aa (.tbl (ps++more))
def Un.any (u:Un fs ex H H1 h h1) {b:ai}{ob:aG}(q:h.get? b=aa ob) (n:H b=none) (hx:b∉ex):∃sl,h1.get? b=aa { ob with slots:=sl }:=by
 by_cases hb:b∈fs
 ·exact u.slot b ob q n hb hx
 ·exact⟨ob.slots,u.keep b ob q n hb hx⟩
def Un.kept (k:∀b u,h.get? b=aa u→h'.get? b=aa u):Un fs ex H H h h':=
 ⟨λb ob q _ _ _=>k b ob q,λb ob q _ _ _=>⟨ob.slots,k b ob q⟩,λ_ _ _ n _=>n,λb ob q _=>⟨ob,k b ob q⟩,λ_ _ q=>q,λ_ _ _ q=>q,λ_ ps q=>⟨#[],by rw[q];simp⟩⟩
def Un.refl:Un fs ex H H h h:=Un.kept λ_ _ q=>q
def Un.laid (k:∀b u,h.get? b=aa u→h'.get? b=aa u) (hp:h.objs.size≤a) (hn:H a=none):Un fs ex H (nG H a o) h h' where
  keep:=λb u q _ _ _=>k b u q
  slot:=λb u q _ _ _=>⟨u.slots,k b u q⟩
  free:=λb u q n _=>by rw[og (bS (bY (aQ q) hp))];exact n
  there:=λb u q _=>⟨u,k b u q⟩
  tups:=λb xs q=>by rw[og (pO q hn)];exact q
  frzs:=λb u xs q=>by rw[og (pO q hn)];exact q
  tbls:=λb ps q=>⟨#[],by rw[og (pO q hn),q];simp⟩
def Un.write (mu:Ct (H x)) (he:e=x∨H e=aa (.own x)) (k:∀b u,b≠e→h.get? b=aa u→h'.get? b=aa u) (heo:∃u,h'.get? e=aa u):Un fs ex H (nG H x o) h h':=by
 have hx:∀b,H b=none→b≠x:=λb n z=>by subst z;rw[n]at mu;exact mu
 have hb:∀b,H b=none→b≠e:=λb n z=>by
  subst z;obtain r |r:=he
  ·exact hx b n r
  ·rw[n]at r;cases r
 have hm:∀b u,H b=aa u→ ¬Ct (aa u)→b≠x:=λb u q nm z=>by subst z;rw[q]at mu;exact nm mu
 refine⟨λb u q n _ _=>k b u (hb b n) q,λb u q n _ _=>⟨u.slots,k b u (hb b n) q⟩,λb u q n _=>by rw[og (hx b n)];exact n,λb u q _=>?_,
  λb xs q=>by rw[og (hm b _ q λz=>z)];exact q,λb u xs q=>by rw[og (hm b _ q λz=>z)];exact q,λb ps q=>⟨#[],by rw[og (hm b _ q λz=>z),q];simp⟩⟩
 by_cases hbe:b=e
 ·subst hbe;exact heo
 ·exact⟨u,k b u hbe q⟩
def Ax (h:aE) (H:Hp):List ai:=(bx h.objs.size).filter λa=>(H a).isSome
def t5 (h:aE) (H:Hp):aE:=dt h (Ax h H)
def Y6 (h:aE) (H:Hp):(t5 h H).objs.size=h.objs.size:=PySem.W.hideAll_size _ _
def YO (e:h.get? b=aa o) (n:H b=none):(t5 h H).get? b=aa o:=
 gj _ e λhm=>by
  have q:(H b).isSome=true:=(dS.mp hm).2;rw[n]at q;simp at q
def W7 (e:(t5 h H).get? b=aa o):h.get? b=aa o∧H b=none:=by
 have e':h.get? b=aa o:=fZ (Ax h H) e;refine⟨e',?_⟩;cases q:H b with
 |none=>rfl
 |some x=>
  have hm:b∈Ax h H:=dS.mpr ⟨f_.mpr (aQ e'),by simp [q]⟩
  have z:(t5 h H).get? b=none:=dW (Ax h H) hm;rw[z]at e;cases e
def Q8 (g h:aE) (L:ai):List (ai×aG):=(bx h.objs.size).filterMap λa=>if a=L∨(g.get? a).isSome=true then none else(h.get? a).map λo=>(a,o)
def rest (g h:aE) (L d:ai):List (ai×aG):=(Q8 g h L).filter λp=>decide (p.1≠d)
structure Mod (K:ao) (mg:ah→Option aj) (base:aE):Prop where
  kin:K.In base
  glob:base.Ns bj mg
  blt:∃mb,base.Ns ip mb∧ ∀x:ah,x≠ "__name__" →mb x=cD x
  nolimit:base.NoLimit
structure Cx where
  prog:bi
  w:aR
  K:ao
  mg:ah→Option aj
  base:aE
  A:bt
  N:List ah
  s₀:am
  H₀:Hp
  env:bN
  outer:List bN
  stack:List bN
  ex:List ai
  fn:ah→Bool
  calm:Bool
  pn:List (ai×aG)
  xe:aj→am→Prop
def frs (l:List bN):List ai:=l.filterMap (·.frame)
abbrev Cx.fs (X:Cx):List ai:=frs X.outer
def v7 (sc:Scope) (x:ah):Prop:=sc.names.lookup x=aa .local∨sc.names.lookup x=aa .cell∨sc.names.lookup x=aa .free
def sZ (sc:Scope) (x:ah):Prop:=sc.names.lookup x=aa .local∨sc.names.lookup x=aa .cell
def UL (env:bN) (h:aE) (m:ah→Option aj) (x:ah) (u:aj):Prop:=
 (env.kindOf x=aa .local∧m x=aa u)∨((env.kindOf x=aa .cell∨env.kindOf x=aa .free)∧ ∃c,env.cells.lookup x=aa c∧h.IsCell c (aa u))
structure Cx.Ok (X:Cx):Prop where
  mod:Mod X.K X.mg X.base
  kind:X.env.scope.kind= .function
  glob:X.env.globals=bj
  blt:X.env.builtins=ip
  above:X.s₀.heap.objs.size≤X.env.locals
  inj:∀x y c,X.env.cells.lookup x=aa c→X.env.cells.lookup y=aa c→x=y
  has:∀x,(X.env.kindOf x=aa .cell∨X.env.kindOf x=aa .free)→ ∃c,X.env.cells.lookup x=aa c
  cab:∀x c,X.fn x=true→X.env.cells.lookup x=aa c→X.s₀.heap.objs.size≤c
  hd:X.calm=true→X.A.handled=none
  frames:X.A.frames=aa X.stack
  stk:X.stack=X.outer∨(X.stack=X.env::X.outer∧X.env.frame=aa X.env.locals)
  exf:∀b∈X.ex,b≠X.env.locals∧ ∀x c,X.env.cells.lookup x=aa c→c≠b
  bs:∀b o,X.base.get? b=aa o→X.s₀.heap.get? b=aa o∧X.H₀ b=none
  bsz:X.base.objs.size≤X.s₀.heap.objs.size
  noex:∀b o,X.base.get? b=aa o→b∉X.ex
  exfs:∀b∈X.ex,b∉X.fs
  funs:X.s₀.heap.FunFrames X.base X.outer
  frf:∀b∈X.fs,X.H₀ b=none
structure my (X:Cx) (ag:List (ai×aG)) (σ:List (Option V)) (H:Hp) (s:am):Prop where
  ok:X.Ok
  os:s.os=X.s₀.os
  bare:cc s.gens
  base:Un X.fs X.ex X.H₀ H X.s₀.heap s.heap
  loc:∃m,s.heap.Ns X.env.locals m∧ ∀(i:Nat) (x:ah) (v:V),X.N[i]? =aa x→σ[i]? =aa (aa v)→v7 X.env.scope x→ ∃u,mV v u∧UL X.env s.heap m x u
  cell:∀x c,X.env.cells.lookup x=aa c→ ∃v,s.heap.IsCell c v
  free:H X.env.locals=none
  freeC:∀x c,X.env.cells.lookup x=aa c→H c=none
  pin:∀p∈X.pn++ag,s.heap.get? p.1=aa p.2∧H p.1=none∧p.1≠X.env.locals∧p.1∉X.fs∧ ∀v,p.2.data≠ .cell v
  cG:nZ X.prog X.w H s.heap
  len:σ.length=X.N.length
def Cx.Ok.nofr{X:Cx}(ok:X.Ok) (e:X.base.get? b=aa o):b∉X.fs:=λhb=>by
 have:=(ok.funs.mem hb).1;rw[e]at this;cases this
def my.bs{X:Cx}{ag:List (ai×aG)}{σ:List (Option V)}{H:Hp}{s:am}(I:my X ag σ H s):∀b o,X.base.get? b=aa o→s.heap.get? b=aa o∧H b=none:=λb o e=>
 ⟨I.base.keep b o (I.ok.bs b o e).1 (I.ok.bs b o e).2 (I.ok.nofr e) (I.ok.noex b o e),I.base.free b o (I.ok.bs b o e).1 (I.ok.bs b o e).2 (I.ok.noex b o e)⟩
def my.bk (I:my X ag σ H s):∀b o,X.base.get? b=aa o→s.heap.get? b=aa o:=λb o e=>(I.bs b o e).1
def my.mod (I:my X ag σ H s):Mod X.K X.mg X.base:=I.ok.mod
def my.kIn (I:my X ag σ H s):X.K.In s.heap:=I.ok.mod.kin.keeps I.bk
def my.lt (I:my X ag σ H s):X.env.locals<s.heap.objs.size:=let ⟨_,hn,_⟩:=I.loc;hn.lt
def my.sz (I:my X ag σ H s):X.s₀.heap.objs.size≤s.heap.objs.size:=aY I.ok.above (jg I.lt)
def my.nofs (I:my X ag σ H s) (h:s.heap.objs.size≤a):a∉X.fs:=λhb=>by
 obtain⟨_,o,ho,_⟩:=I.ok.funs.mem hb;exact absurd (bY (aQ ho) (aY I.sz h)) (cO _)
def my.cne (I:my X ag σ H s):∀x c,X.env.cells.lookup x=aa c→c≠X.env.locals:=λx c e z=>by
 obtain⟨v,o,ho,hd⟩:=I.cell x c e;obtain⟨m,⟨o',es,ep,ho',hd',_⟩,_⟩:=I.loc;rw[z,ho']at ho;cases ho;rw[hd']at hd;cases hd
def my.funs (I:my X ag σ H s):s.heap.FunFrames X.base X.outer:=by
 have all:∀(l:List bN),(∀b∈frs l,b∈X.fs)→X.s₀.heap.FunFrames X.base l→s.heap.FunFrames X.base l:=by
  intro l
  induction l with
  |nil=>intro _ _;trivial
  |cons env r ih=>
   intro hs hl;obtain⟨hk,⟨L,o,hf,hn,ho,hd⟩,hr⟩:=hl;have hL:L∈X.fs:=hs L (by unfold frs;rw[h_,hf];exact aK);obtain⟨sl,e⟩:=I.base.slot L o ho (I.ok.frf L hL) hL λz=>I.ok.exfs L z hL;exact⟨hk,⟨L,_,hf,hn,e,hd⟩,ih (λb hb=>hs b (by unfold frs;rw[h_,hf];exact aI _ hb)) hr⟩
 exact all X.outer (λ_ hb=>hb) I.ok.funs
def my.stack (I:my X ag σ H s):s.heap.FunFrames X.base X.stack:=by
 obtain e |⟨e,hf⟩:=I.ok.stk
 ·rw[e];exact I.funs
 ·rw[e];obtain⟨m,hn,_⟩:=I.loc;refine .cons (by rw[I.ok.kind];decide) hf hn ?_ I.funs;exact aE.get?_none_of_le (aY I.ok.bsz I.ok.above)
def my.stkSub (I:my X ag σ H s):∀b∈frs X.stack,b∈X.env.locals::X.fs:=λb hb=>by
 obtain e |⟨e,hf⟩:=I.ok.stk
 ·rw[e]at hb;exact aI _ hb
 ·rw[e]at hb;unfold frs at hb;rw[h_,hf]at hb;exact hb
def my.stkFree (I:my X ag σ H s):∀b∈frs X.stack,H b=none:=λb hb=>by
 obtain e |hb:=az.mp (I.stkSub b hb)
 ·rw[e];exact I.free
 ·obtain⟨_,o,ho,_⟩:=I.ok.funs.mem hb;exact I.base.free b o ho (I.ok.frf b hb) λz=>I.ok.exfs b z hb
def my.step{g':Array GenState}{t':Nat}{d':Drawn}{ch:List ai}(I:my X ag σ H s)
  (hch:∀b∈ch,(b∈X.ex∨X.s₀.heap.objs.size≤b)∧b≠X.env.locals∧(∀x c,X.env.cells.lookup x=aa c→c≠b)∧ ∀p∈X.pn++ag,p.1≠b)
  (keep:∀b o,b≠X.env.locals→b∉X.fs→b∉ch→s.heap.get? b=aa o→H b=none→h'.get? b=aa o)
  (slot:∀b o,b≠X.env.locals→b∈X.fs→b∉ch→s.heap.get? b=aa o→H b=none→ ∃sl,h'.get? b=aa { o with slots:=sl }) (free:∀b o,b∉ch→s.heap.get? b=aa o→H b=none→H' b=none)
  (there:∀b o,b∉ch→s.heap.get? b=aa o→ ∃o',h'.get? b=aa o')
  (tups:∀b xs,H b=aa (.bW xs)→H' b=aa (.bW xs)) (frzs:∀b o u,H b=aa (.frz o u)→H' b=aa (.frz o u)) (tbls:∀b ps,H b=aa (.tbl ps)→ ∃more,H' b=aa (.tbl (ps++more)))
  (ns:∀m,s.heap.Ns X.env.locals m→h'.Ns X.env.locals m) (cG:nZ X.prog X.w H' h') (hg:cc g') :
  my X ag σ H' { s with heap:=h',gens:=g',drawn:=d',toks:=t' }:=by
 have neL:∀b o,X.s₀.heap.get? b=aa o→b≠X.env.locals:=λb o e=>bS (bY (aQ e) I.ok.above);have neC:∀b o,X.s₀.heap.get? b=aa o→b∉X.ex→b∉ch:=λb o e hx hb=>by
  rcases(hch b hb).1 with z |z
  ·exact hx z
  ·exact absurd (bY (aQ e) z) (cO _)
 have cellK:∀x c,X.env.cells.lookup x=aa c→ ∀v,s.heap.IsCell c v→h'.IsCell c v:=λx c e v ⟨o,ho,hd⟩=>by
  have nch:c∉ch:=λz=>(hch c z).2.2.1 x c e rfl;by_cases hc:c∈X.fs
  ·obtain⟨sl,q⟩:=slot c o (I.cne x c e) hc nch ho (I.freeC x c e);exact⟨_,q,hd⟩
  ·exact⟨o,keep c o (I.cne x c e) hc nch ho (I.freeC x c e),hd⟩
 refine⟨I.ok,I.os,hg,⟨λb o e n hb hx=>?_,λb o e n hb hx=>?_,λb o e n hx=>?_,λb o e hx=>?_,λb xs e=>tups b xs (I.base.tups b xs e),λb o xs e=>frzs b o xs (I.base.frzs b o xs e),λb ps e=>?_⟩,?_,λx c e=>?_,?_,λx c e=>?_,λp hp=>?_,cG,I.len⟩
 ·exact keep b o (neL b o e) hb (neC b o e hx) (I.base.keep b o e n hb hx) (I.base.free b o e n hx)
 ·obtain⟨sl,e1⟩:=I.base.slot b o e n hb hx;obtain⟨sl',e2⟩:=slot b _ (neL b o e) hb (neC b o e hx) e1 (I.base.free b o e n hx);exact⟨sl',e2⟩
 ·obtain⟨o',e1⟩:=I.base.there b o e hx;exact free b o' (neC b o e hx) e1 (I.base.free b o e n hx)
 ·obtain⟨o',e1⟩:=I.base.there b o e hx;exact there b o' (neC b o e hx) e1
 ·obtain⟨m1,e1⟩:=I.base.tbls b ps e;obtain⟨m2,e2⟩:=tbls b _ e1;exact⟨m1++m2,by rw[e2,Array.append_assoc]⟩
 ·obtain⟨m,hn,hl⟩:=I.loc;refine⟨m,ns m hn,λi x v e1 e2 e3=>?_⟩;obtain⟨u,r,l⟩:=hl i x v e1 e2 e3;refine⟨u,r,?_⟩;obtain l |⟨k,c,e,z⟩:=l
  ·exact .inl l
  ·exact .inr ⟨k,c,e,cellK x c e _ z⟩
 ·obtain⟨v,z⟩:=I.cell x c e;exact⟨v,cellK x c e v z⟩
 ·obtain⟨m,⟨o,_,_,ho,_⟩,_⟩:=I.loc;exact free _ o (λz=>(hch _ z).2.1 rfl) ho I.free
 ·obtain⟨v,o,ho,hd⟩:=I.cell x c e;exact free c o (λz=>(hch c z).2.2.1 x c e rfl) ho (I.freeC x c e)
 ·obtain⟨e,n,ne,nf,d⟩:=I.pin p hp;have nch:p.1∉ch:=λz=>(hch p.1 z).2.2.2 p hp rfl;exact⟨keep p.1 p.2 ne nf nch e n,free p.1 p.2 nch e n,ne,nf,d⟩
def my.un{t':Nat}(I:my X ag σ H s) (u:Un X.fs [] H H' s.heap h') (cG:nZ X.prog X.w H' h'):my X ag σ H' { s with heap:=h',toks:=t' }:=by
 obtain⟨m,⟨o,es,ep,ho,r⟩,_⟩:=id I.loc;obtain⟨sl,hL⟩:=u.any ho I.free (by simp);exact I.step (g':=s.gens) (d':=s.drawn) (ch:=[]) (λ_ z=>nomatch z) (λb o _ hb _ e n=>u.keep b o e n hb (by simp)) (λb o _ hb _ e n=>u.slot b o e n hb (by simp)) (λb o _ e n=>u.free b o e n (by simp)) (λb o _ e=>u.there b o e (by simp)) u.tups u.frzs u.tbls (λm' hm=>by
  obtain⟨o',es',ep',ho',r'⟩:=hm;rw[ho]at ho';cases ho';exact⟨_,es',ep',hL,r'⟩) cG I.bare
def my.call{g':Array GenState}{t':Nat}{d':Drawn}{ch:List ai}(I:my X ag σ H s) (u:Un (frs X.stack) ch H H' s.heap h') (cG:nZ X.prog X.w H' h') (hg:cc g')
  (hch:∀b∈ch,(b∈X.ex∨X.s₀.heap.objs.size≤b)∧b≠X.env.locals∧(∀x c,X.env.cells.lookup x=aa c→c≠b)∧ ∀p∈X.pn++ag,p.1≠b) :
  my X ag σ H' { s with heap:=h',gens:=g',drawn:=d',toks:=t' }:=by
 obtain⟨m,⟨o,es,ep,ho,r⟩,_⟩:=id I.loc;obtain⟨sl,hL⟩:=u.any ho I.free λz=>(hch _ z).2.1 rfl;exact I.step (ch:=ch) hch (λb o hL hb hc e n=>u.keep b o e n (λz=>(az.mp (I.stkSub b z)).elim hL hb) hc) (λb o _ _ hc e n=>u.any e n hc) (λb o hc e n=>u.free b o e n hc) (λb o hc e=>u.there b o e hc) u.tups u.frzs u.tbls (λm' hm=>by
  obtain⟨o',es',ep',ho',r'⟩:=hm;rw[ho]at ho';cases ho';exact⟨_,es',ep',hL,r'⟩) cG hg
def my.turned{t':Nat}(I:my X ag σ H s) (k:∀b o,b≠it→s.heap.get? b=aa o→h'.get? b=aa o) (hn:H it=none) (hL:it≠X.env.locals)
  (h1:it∈X.ex∨X.s₀.heap.objs.size≤it) (h2:∀x c,X.env.cells.lookup x=aa c→c≠it) (h3:∀p∈X.pn++ag,p.1≠it):my X ag σ H { s with heap:=h',toks:=t' }:=by
 have nit:∀b u,H b=aa u→b≠it:=λb u e z=>by rw[z,hn]at e;cases e
 refine I.step (g':=s.gens) (d':=s.drawn) (ch:=[it]) (λb hb=>?_) (λb o _ _ hc e _=>k b o (λz=>hc (by simp [z])) e) (λb o _ _ hc e _=>⟨o.slots,k b o (λz=>hc (by simp [z])) e⟩) (λ_ _ _ _ n=>n)
  (λb o hc e=>⟨o,k b o (λz=>hc (by simp [z])) e⟩) (λ_ _ e=>e) (λ_ _ _ e=>e) (λb ps e=>⟨#[],by rw[e];simp⟩) (λm hm=>?_) (λb u e=>?_) I.bare
 ·have e:b=it:=by simpa using hb
  subst e;exact⟨h1,hL,h2,h3⟩
 ·obtain⟨o,es,ep,ho,r⟩:=hm;exact⟨o,es,ep,k _ o (bz hL) ho,r⟩
 ·refine(I.cG b u e).stay (λc v hc q=>k c v ?_ q) (λ_ q=>q) λ_ _ q=>q;obtain z |z:=hc
  ·rw[z];exact nit b u e
  ·exact nit c _ z
def my.tok (I:my X ag σ H s) (t:Nat):my X ag σ H { s with toks:=t }:=I.un (h':=s.heap) (t':=t) Un.refl I.cG
def my.kept{t':Nat}(I:my X ag σ H s) (k:∀b u,s.heap.get? b=aa u→h'.get? b=aa u):my X ag σ H { s with heap:=h',toks:=t' }:=I.un (Un.kept k) (I.cG.kept k)
def my.laid{t':Nat}(I:my X ag σ H s) (k:∀b u,s.heap.get? b=aa u→h'.get? b=aa u) (hp:s.heap.objs.size≤a) (new:nc X.prog X.w (nG H a o) h' a o) :
  my X ag σ (nG H a o) { s with heap:=h',toks:=t' }:=I.un (Un.laid k hp (I.cG.fresh hp)) (I.cG.laid k hp new)
def my.write{t':Nat}(I:my X ag σ H s) (mu:Ct (H x)) (he:e=x∨H e=aa (.own x)) (k:∀b u,b≠e→s.heap.get? b=aa u→h'.get? b=aa u) (heo:∃u,h'.get? e=aa u)
  (new:nc X.prog X.w (nG H x o) h' x o):my X ag σ (nG H x o) { s with heap:=h',toks:=t' }:=I.un (Un.write mu he k heo) (I.cG.write mu he k heo new)
def my.pins_of (I:my X ag σ H s) (h:∀p∈pins',s.heap.get? p.1=aa p.2∧H p.1=none∧p.1≠X.env.locals∧p.1∉X.fs∧ ∀v,p.2.data≠ .cell v):my X pins' σ H s:=
 ⟨I.ok,I.os,I.bare,I.base,I.loc,I.cell,I.free,I.freeC,λp hp=>(bq.mp hp).elim (λz=>I.pin p (eB _ z)) (h p),I.cG,I.len⟩
def HL{N:List ah}(hN:N.Nodup) {i j:Nat}{x:ah}(a:N[i]? =aa x) (b:N[j]? =aa x):i=j:=by
 obtain⟨h1,e1⟩:=b8.mp a;obtain⟨h2,e2⟩:=b8.mp b;exact(List.getElem_inj hN).mp (e1.trans e2.symm)
def HJ{E:aj→am→Prop}{Q:Unit→am→Prop}(I:my X ag σ H s) (hN:X.N.Nodup) (hi:X.N[i]? =aa x) (hx:sZ X.env.scope x) (r:mV v u)
  (h:∀s',my X ag (σ.set i (aa v)) H s'→(∃a,cL a s.heap s'.heap∧(a=X.env.locals∨X.env.cells.lookup x=aa a))→Q () s') (hf:X.fn x=true∨X.env.scope.names.lookup x=aa .local:=by first |exact .inl rfl |exact .inr rfl |assumption):av M A (iy X.env x u) Q E s:=by
 obtain⟨m,hn,hl⟩:=id I.loc;have hcls:(X.env.scope.kind == .class || (X.env.scope.kind == .module&&X.env.locals != X.env.globals))=false:=by rw[I.ok.kind];rfl
 have hiσ:i<σ.length:=by rw[I.len];exact(b8.mp hi).1
 have cne:=I.cne;have tracked:∀{a:ai}{h':aE},(∃o,s.heap.get? a=aa o∧H a=none)→cL a s.heap h'→nZ X.prog X.w H h':=λ{a h'} ha hs b ob e=>by
  obtain⟨_,_,hfree⟩:=ha;refine(I.cG b ob e).stay (λc w' hc q=>(hs.2 c ?_).trans q) (λ_ q=>q) λ_ _ q=>q;rintro rfl;obtain rfl |hc:=hc
  ·rw[hfree]at e;cases e
  ·rw[hfree]at hc;cases hc
 obtain hk |hk:=hx
 ·refine wpAny_storeName_local hk hn (λh' hn' hs=>?_) hcls;obtain⟨oL,_,_,hoL,_⟩:=id hn;refine h _ ⟨I.ok,I.os,I.bare,⟨λb o e n hb hx=>?_,λb o e n hb hx=>?_,I.base.free,λb o e hx=>?_,I.base.tups,I.base.frzs,I.base.tbls⟩,⟨_,hn',λj y v' e1 e2 e3=>?_⟩,λy c e=>?_,I.free,I.freeC,λp hp=>?_,tracked ⟨oL,hoL,I.free⟩ hs,by simpa using I.len⟩ ⟨_,hs, .inl rfl⟩
  ·exact(hs.2 b (bS (bY (aQ e) I.ok.above))).trans (I.base.keep b o e n hb hx)
  ·obtain⟨sl,e1⟩:=I.base.slot b o e n hb hx;exact⟨sl,(hs.2 b (bS (bY (aQ e) I.ok.above))).trans e1⟩
  ·obtain⟨o',e1⟩:=I.base.there b o e hx;exact⟨o',(hs.2 b (bS (bY (aQ e) I.ok.above))).trans e1⟩
  ·by_cases hj:j=i
   ·subst hj;rw[hi]at e1;cases e1;rw[gy hiσ]at e2;cases e2;exact⟨u,r, .inl ⟨hk,by simp⟩⟩
   ·rw[iZ (bz hj)]at e2;obtain⟨u',r',q⟩:=hl j y v' e1 e2 e3;refine⟨u',r',?_⟩;obtain ⟨k,e⟩ |⟨k,c,e,z⟩:=q
    ·refine .inl ⟨k,?_⟩;have:y≠x:=λe=>hj (HL hN e1 (e▸hi));simp [this,e]
    ·exact .inr ⟨k,c,e,z.sameBut hs (cne y c e)⟩
  ·obtain⟨w',z⟩:=I.cell y c e;exact⟨w',z.sameBut hs (cne y c e)⟩
  ·obtain⟨e,n,ne,nf,d⟩:=I.pin p hp;exact⟨(hs.2 p.1 ne).trans e,n,ne,nf,d⟩
 ·have hfn:X.fn x=true:=by
   obtain z |z:=hf
   ·exact z
   ·rw[z]at hk;cases hk
  obtain⟨c,hc⟩:=I.ok.has x (.inl hk);obtain⟨w',z⟩:=I.cell x c hc;refine wpAny_storeName_cell I.ok.kind hk hc z (λh' hc' hs=>?_);obtain⟨oc,hoc,hocd⟩:=id z;refine h { s with heap:=h' } ⟨I.ok,I.os,I.bare,⟨λb o e n hb hx=>?_,λb o e n hb hx=>?_,I.base.free,λb o e hx=>?_,I.base.tups,I.base.frzs,I.base.tbls⟩,⟨m,hn.sameBut hs (bz (cne x c hc)),λj y v' e1 e2 e3=>?_⟩,λy c' e=>?_,I.free,I.freeC,λp hp=>?_,tracked ⟨oc,hoc,I.freeC x c hc⟩ hs,by simpa using I.len⟩ ⟨c,hs, .inr hc⟩
  ·exact(hs.2 b (bS (bY (aQ e) (I.ok.cab x c hfn hc)))).trans (I.base.keep b o e n hb hx)
  ·obtain⟨sl,e1⟩:=I.base.slot b o e n hb hx;exact⟨sl,(hs.2 b (bS (bY (aQ e) (I.ok.cab x c hfn hc)))).trans e1⟩
  ·obtain⟨o',e1⟩:=I.base.there b o e hx;exact⟨o',(hs.2 b (bS (bY (aQ e) (I.ok.cab x c hfn hc)))).trans e1⟩
  ·by_cases hj:j=i
   ·subst hj;rw[hi]at e1;cases e1;rw[gy hiσ]at e2;cases e2;exact⟨u,r, .inr ⟨.inl hk,c,hc,hc'⟩⟩
   ·rw[iZ (bz hj)]at e2;obtain⟨u',r',q⟩:=hl j y v' e1 e2 e3;refine⟨u',r',?_⟩;obtain q |⟨k,c',e,z'⟩:=q
    ·exact .inl q
    ·refine .inr ⟨k,c',e,z'.sameBut hs ?_⟩;rintro rfl;exact hj (HL hN e1 (I.ok.inj _ _ _ e hc▸hi))
  ·by_cases hcc:c'=c
   ·subst hcc;exact⟨_,hc'⟩
   ·obtain⟨w2,z2⟩:=I.cell y c' e;exact⟨w2,z2.sameBut hs hcc⟩
  ·obtain⟨e,n,ne,nf,d⟩:=I.pin p hp;refine⟨(hs.2 p.1 ?_).trans e,n,ne,nf,d⟩;intro q;rw[q,hoc]at e;have q':oc=p.2:=aL e;exact d w' (by rw[←q'];exact hocd)
def FZ{E:aj→am→Prop}{Q:Unit→am→Prop}(I:my X ag σ H s) (hN:X.N.Nodup) (hi:X.N[i]? =aa x) (hx:sZ X.env.scope x) (r:mV v u)
  (h:∀s',my X ag (σ.set i (aa v)) H s'→Q () s') (hf:X.fn x=true∨X.env.scope.names.lookup x=aa .local:=by first |exact .inl rfl |exact .inr rfl |assumption):av M A (iy X.env x u) Q E s:=
 HJ I hN hi hx r (λs' I' _=>h s' I') hf
def my.call' (I:my X ag σ H s) (ho:s'.os=s.os) (u:Un (frs X.stack) ch H H' s.heap s'.heap) (cG:nZ X.prog X.w H' s'.heap) (hg:cc s'.gens)
  (hch:∀b∈ch,(b∈X.ex∨X.s₀.heap.objs.size≤b)∧b≠X.env.locals∧(∀x c,X.env.cells.lookup x=aa c→c≠b)∧ ∀p∈X.pn++ag,p.1≠b):my X ag σ H' s':=by
 obtain⟨h',g',d',t',o'⟩:=s';have e:o'=s.os:=ho;subst e;exact I.call (g':=g') (t':=t') (d':=d') u cG hg hch
abbrev XK:=aj→Option ai→Hp→Prop
abbrev St:=List (Option V)
abbrev VK:=V→Hp→Prop
abbrev TE:=St→Hp→VK→Prop
abbrev TT:=St→Hp→(Bool→Hp→Prop)→Prop
abbrev TA:=St→Hp→(List V→Hp→Prop)→Prop
structure rO where
  nx:St→Hp→Prop
  rt:VK
  bk:St→Hp→Prop:=λ_ _=>False
  ct:St→Hp→Prop:=λ_ _=>False
abbrev TS:=rO→St→Hp→Prop
def EP (X:Cx) (ag:List (ai×aG)) (σ:St) (Q:VK) (u:aj) (s':am):Prop:=∃v H',my X ag σ H' s'∧mV v u∧Q v H'
def TP (X:Cx) (ag:List (ai×aG)) (σ:St) (Q:Bool→Hp→Prop) (b:Bool) (s':am):Prop:=∃H',my X ag σ H' s'∧Q b H'
def AP (X:Cx) (ag:List (ai×aG)) (σ:St) (Q:List V→Hp→Prop) (us:List aj) (s':am):Prop:=∃vs H',my X ag σ H' s'∧mM vs us∧Q vs H'
def SP (X:Cx) (ag:List (ai×aG)) (D:rO) (f:Flow) (s':am):Prop:=
 match f with
 | .next=>∃σ' H',my X ag σ' H' s'∧D.nx σ' H'
 | .brk=>∃σ' H',my X ag σ' H' s'∧D.bk σ' H'
 | .cont=>∃σ' H',my X ag σ' H' s'∧D.ct σ' H'
 | .ret u=>∃v σ' H',my X ag σ' H' s'∧mV v u∧D.rt v H'
def PE (X:Cx) (e:Expr) (t:TE):Prop:=
 ∀(ag:List (ai×aG)) (s:am) (σ:St) (H:Hp) (Q:VK),my X ag σ H s→t σ H Q→av (aB X.prog X.w) X.A (aH e X.env) (EP X ag σ Q) X.xe s
def PT (X:Cx) (e:Expr) (t:TT):Prop:=
 ∀(ag:List (ai×aG)) (s:am) (σ:St) (H:Hp) (Q:Bool→Hp→Prop),my X ag σ H s→t σ H Q→av (aB X.prog X.w) X.A (isTrue e X.env (aH e X.env)) (TP X ag σ Q) X.xe s
def PW (X:Cx) (e:Expr) (t:TT):Prop:=
 ∀(whole:cj aj) (ag:List (ai×aG)) (s:am) (σ:St) (H:Hp) (Q:Bool→Hp→Prop),my X ag σ H s→t σ H Q→av (aB X.prog X.w) X.A (isTrue e X.env whole) (TP X ag σ Q) X.xe s
def PW.pt (h:PW X e t):PT X e t:=h _
def PA (X:Cx) (es:List Expr) (t:TA):Prop:=
 ∀(pos:bw) (ag:List (ai×aG)) (s:am) (σ:St) (H:Hp) (Q:List V→Hp→Prop),my X ag σ H s→t σ H Q→av (aB X.prog X.w) X.A (spliced (aZ pos (ax es X.env))) (AP X ag σ Q) X.xe s
def PS (X:Cx) (st:aW) (t:TS):Prop:=
 ∀(ag:List (ai×aG)) (s:am) (σ:St) (H:Hp) (D:rO),my X ag σ H s→t D σ H→av (aB X.prog X.w) X.A (exec st X.env) (SP X ag D) X.xe s
def qG (X:Cx) (st:List aW) (t:TS):Prop:=
 ∀(ag:List (ai×aG)) (s:am) (σ:St) (H:Hp) (D:rO),my X ag σ H s→t D σ H→av (aB X.prog X.w) X.A (execs st X.env) (SP X ag D) X.xe s
def nE{α:Type}{t:cj α}{Q Q':α→am→Prop}{M:Model}{A:bt}{E:aj→am→Prop}{s:am}(h:av M A t Q E s) (hQ:∀a s,Q a s→Q' a s):av M A t Q' E s:=ci h hQ λ_ _ x=>x
def Js (i:Nat):TE:=λσ H Q=>∃v,σ[i]? =aa (aa v)∧Q v H
def tC (v:V):TE:=λ_ H Q=>Q v H
def ML (hN:X.N[i]? =aa x) (hv:v7 X.env.scope x) (hd:(x == ("__debug__" :ah))=false:=by decide) (hcd:(x == ("__classdict__" :ah))=false:=by decide):PE X (.Name x pos) (Js i):=by
 intro ag s σ H Q I h;obtain⟨v,e,h⟩:=h;obtain⟨m,hn,hl⟩:=I.loc;obtain⟨u,r,l⟩:=hl i x v hN e hv;have fin:EP X ag σ Q u s:=⟨v,H,I,r,h⟩;obtain ⟨hk,hm⟩ |⟨hk,c,hc,hcell⟩:=l
 ·exact ix (kh I.ok.kind hk hn hm fin) hd
 ·obtain hk |hk:=hk
  ·exact ix (lg I.ok.kind hk hc hcell fin) hd
  ·exact ix (wpAny_loadName_free I.ok.kind hk hc hcell fin hcd) hd
def Uc{i j pos}:PE X (.Constant (.int i) j pos) (tC (.int i)):=λ_ _ _ H _ I h=>wpAny_Constant_int ⟨.int i,H,I.tok _,⟨_,rfl⟩,h⟩
def SL{b j pos}:PE X (.Constant (.bool b) j pos) (tC (.bl b)):=λ_ _ _ H _ I h=>Constant_bool ⟨.bl b,H,I,rfl,h⟩
def U2{j pos}:PE X (.Constant .none j pos) (tC .ca):=λ_ _ _ H _ I h=>Constant_none ⟨.ca,H,I,rfl,h⟩
def WZ{x j pos}:PE X (.Constant (.str x) j pos) (tC (.str x)):=λ_ _ _ H _ I h=>Calls.Constant_str ⟨.str x,H,I.tok _,⟨_,rfl⟩,h⟩
def Gl (X:Cx) (x:ah):Prop:=X.env.kindOf x=aa .globalImplicit
def Ai{E:aj→am→Prop}{Q:aj→am→Prop}(I:my X ag σ H s) (hg:Gl X x) (hm:X.mg x=aa u) (h:Q u s)
  (hd:(x == ("__debug__" :ah))=false:=by decide):av (aB X.prog X.w) X.A (aH (.Name x pos) X.env) Q E s:=
 lY I.ok.kind hg (Calls.loadGlobal_global (by rw[I.ok.glob];exact I.mod.glob.keeps I.bk) hm h) hd
def xb{E:aj→am→Prop}{Q:aj→am→Prop}(I:my X ag σ H s) (hg:Gl X x) (hm:X.mg x=none) (hv:cD x=aa u) (h:Q u s)
  (hn:x≠ "__name__" :=by decide) (hd:(x == ("__debug__" :ah))=false:=by decide):av (aB X.prog X.w) X.A (aH (.Name x pos) X.env) Q E s:=by
 obtain⟨mb,h1,h2⟩:=I.mod.blt;exact lY I.ok.kind hg (Calls.loadGlobal_builtin (by rw[I.ok.glob];exact I.mod.glob.keeps I.bk) hm (by rw[I.ok.blt];exact h1.keeps I.bk) ((h2 x hn).trans hv) h) hd
def Mp (hg:Gl X x) (hm:X.mg x=aa u) (r:mV v u) (hd:(x == ("__debug__" :ah))=false:=by decide):PE X (.Name x pos) (tC v):=
 λ_ _ _ H _ I h=>Ai I hg hm ⟨v,H,I,r,h⟩ hd
def U0 (hg:Gl X x) (hm:X.mg x=none) (hv:cD x=aa u) (r:mV v u) (hn:x≠ "__name__" :=by decide) (hd:(x == ("__debug__" :ah))=false:=by decide):PE X (.Name x pos) (tC v):=
 λ_ _ _ H _ I h=>xb I hg hm hv ⟨v,H,I,r,h⟩ hn hd
def XN (t u:TT):TT:=λσ H Q=>t σ H λc H1=>if c=true then u σ H1 Q else Q false H1
def Vn (t u:TT):TT:=λσ H Q=>t σ H λc H1=>if c=true then Q true H1 else u σ H1 Q
def R7 (t:TT):TT:=λσ H Q=>t σ H λc H1=>Q (!c) H1
def PR (ha:PT X a tA):PW X (.BoolOp .And [a] pos) tA:=by
 intro wh ag s σ H Q I h;refine isTrue_and (nE (ha ag s σ H Q I h) λc s1 e=>?_);cases c with
 |true=>exact isTrue_and_nil e
 |false=>exact e
def QG (ha:PT X a tA):PW X (.BoolOp .Or [a] pos) tA:=by
 intro wh ag s σ H Q I h;refine isTrue_or (nE (ha ag s σ H Q I h) λc s1 e=>?_);cases c with
 |false=>exact isTrue_or_nil e
 |true=>exact e
def X7{X:Cx}{a b:Expr}{pos:bw}{tA tB':TT}{rest:List Expr}(ha:PT X a tA) (hb:PW X (.BoolOp .And (b::rest) pos) tB'):PW X (.BoolOp .And (a::b::rest) pos) (XN tA tB'):=by
 intro wh ag s σ H Q I h;refine isTrue_and (nE (ha ag s σ H _ I h) λc s1 ⟨H1,I1,q1⟩=>?_);cases c with
 |true=>exact hb wh ag s1 σ H1 Q I1 q1
 |false=>exact⟨H1,I1,q1⟩
def RW{X:Cx}{a b:Expr}{pos:bw}{tA tB':TT}{rest:List Expr}(ha:PT X a tA) (hb:PW X (.BoolOp .Or (b::rest) pos) tB'):PW X (.BoolOp .Or (a::b::rest) pos) (Vn tA tB'):=by
 intro wh ag s σ H Q I h;refine isTrue_or (nE (ha ag s σ H _ I h) λc s1 ⟨H1,I1,q1⟩=>?_);cases c with
 |true=>exact⟨H1,I1,q1⟩
 |false=>exact hb wh ag s1 σ H1 Q I1 q1
def XB (ha:PT X a tA):PT X (.UnaryOp .Not a pos) (R7 tA):=by
 intro ag s σ H Q I h;exact isTrue_not (ha ag s σ H (λc H1=>Q (!c) H1) I h)
def ZC (ta tb:TE):TE:=λσ H Q=>ta σ H λx H1=>∃c,x= .bl c∧if c=true then tb σ H1 Q else Q (.bl false) H1
def WY (ta tb:TE):TE:=λσ H Q=>ta σ H λx H1=>∃c,x= .bl c∧if c=true then Q (.bl true) H1 else tb σ H1 Q
def RN (ta:TE):TE:=λσ H Q=>ta σ H λx H1=>∃c,x= .bl c∧Q (.bl (!c)) H1
def TJ{op}(h:PE X a t):PE X (.BoolOp op [a] pos) t:=λag s σ H Q I hw=>BoolOp_one (h ag s σ H Q I hw)
def YM{X:Cx}{a b:Expr}{ta tb:TE}{pos:bw}{rest:List Expr}(ha:PE X a ta) (hb:PE X (.BoolOp .And (b::rest) pos) tb):PE X (.BoolOp .And (a::b::rest) pos) (ZC ta tb):=by
 intro ag s σ H Q I h;refine BoolOp_and (nE (ha ag s σ H _ I h) λv s1 ⟨x,H1,I1,r1,q1⟩=>?_);obtain⟨c,rfl,q1⟩:=q1;cases r1;refine d6 ?_;cases c with
 |true=>exact hb ag s1 σ H1 Q I1 q1
 |false=>exact⟨.bl false,H1,I1,rfl,q1⟩
def X8{X:Cx}{a b:Expr}{ta tb:TE}{pos:bw}{rest:List Expr}(ha:PE X a ta) (hb:PE X (.BoolOp .Or (b::rest) pos) tb):PE X (.BoolOp .Or (a::b::rest) pos) (WY ta tb):=by
 intro ag s σ H Q I h;refine BoolOp_or (nE (ha ag s σ H _ I h) λv s1 ⟨x,H1,I1,r1,q1⟩=>?_);obtain⟨c,rfl,q1⟩:=q1;cases r1;refine d6 ?_;cases c with
 |false=>exact hb ag s1 σ H1 Q I1 q1
 |true=>exact⟨.bl true,H1,I1,rfl,q1⟩
def X3 (ha:PE X a ta):PE X (.UnaryOp .Not a pos) (RN ta):=by
 intro ag s σ H Q I h;refine iH (nE (ha ag s σ H _ I h) λv s1 ⟨x,H1,I1,r1,q1⟩=>?_);obtain⟨c,rfl,q1⟩:=q1;cases r1;exact not_of (d6 ⟨.bl (!c),H1,I1,rfl,q1⟩)
def Tz (t:TT) (ta tb:TE):TE:=λσ H Q=>t σ H λc H1=>if c=true then ta σ H1 Q else tb σ H1 Q
def P9 (hc:PT X c tA) (ha:PE X a ta) (hb:PE X b tb):PE X (.IfExp c a b pos) (Tz tA ta tb):=by
 intro ag s σ H Q I h;refine wpAny_IfExp (nE (hc ag s σ H _ I h) λd s1 ⟨H1,I1,q1⟩=>?_);cases d with
 |true=>exact ha ag s1 σ H1 Q I1 q1
 |false=>exact hb ag s1 σ H1 Q I1 q1
def oF (K:ao) (H:Hp) (a:ai) (xs:List V):Prop:=
 Rd H a (.bP xs)∨
  ∃(o:aG) (eH:Array aj) (n:Nat),K.lookup a=aa o∧o.cls= .type "list" ∧o.dict=none∧o.data= .seq eH n∧eH.size≤sizeLine∧mM xs eH.toList
def oY (K:ao) (H:Hp) (a:ai) (xs:List V):Prop:=
 Rd H a (.bW xs)∨
  ∃(o:aG) (eH:Array aj) (n:Nat),K.lookup a=aa o∧o.cls= .type "tuple" ∧o.data= .seq eH n∧eH.size≤sizeLine∧mM xs eH.toList
def UH:aj→Option V
 | .none=>aa .ca
 | .bool b=>aa (.bl b)
 | .int i _=>aa (.int i)
 | .str x _=>aa (.str x)
 | .bytes b _=>aa (.byt b)
 | .float b _=>aa (.flt b)
 | .ref a=>aa (.ref a)
 | .type n=>aa (.ty n)
 |_=>none
def mV.abs (r:mV x u):UH u=aa x:=by
 cases x with
 |ca=>cases r;rfl
 |bl _=>cases r;rfl
 |int _=>obtain⟨t,rfl⟩:=r;rfl
 |str _=>obtain⟨t,rfl⟩:=r;rfl
 |byt _=>obtain⟨t,rfl⟩:=r;rfl
 |flt _=>obtain⟨t,rfl⟩:=r;rfl
 |ref _=>cases r;rfl
 |ty _=>cases r;rfl
def mV.inj{x y:V}{u:aj}(r:mV x u) (q:mV y u):x=y:=aL (r.abs.symm.trans q.abs)
theorem mM.inj:∀{xs ys:List V}{us:List aj},mM xs us→mM ys us→xs=ys
 |_,_,_, .nil, .nil=>rfl
 |_,_,_, .cons r t, .cons r' t'=>by rw[r.inj r',mM.inj t t']
def oF.of{K:ao}(h:H a=aa (.bP xs)):oF K H a xs:= .inl (.inl h)
def oY.of{K:ao}(h:H a=aa (.bW xs)):oY K H a xs:= .inl (.inl h)
def my.list (I:my X ag σ H s) (h:oF X.K H a xs):∃eH:List aj,mM xs eH∧PlainL s.heap a eH.toArray∧xs.length≤sizeLine:=by
 obtain h |⟨o,eH,n,hk,hc,hd,hs,hz,r⟩:=h
 ·obtain⟨z,eH,n,r,e⟩:=h.ok I.cG;exact⟨eH,r,⟨_,n,e,rfl,rfl,rfl⟩,z⟩
 ·refine⟨eH.toList,r,⟨o,n,I.kIn a o hk,hc,hd,by simpa using hs⟩,?_⟩
  have e:=r.length;simp only[i9]at e;lia
def my.tuple (I:my X ag σ H s) (h:oY X.K H a xs):∃eH:List aj,mM xs eH∧eM s.heap a eH.toArray∧xs.length≤sizeLine:=by
 obtain h |⟨o,eH,n,hk,hc,hs,hz,r⟩:=h
 ·obtain⟨z,eH,r,p⟩:=h.ok I.cG;exact⟨eH,r,p,z⟩
 ·refine⟨eH.toList,r,⟨o,I.kIn a o hk,hc,n,by simpa using hs⟩,?_⟩
  have e:=r.length;simp only[i9]at e;lia
def my.list_inj (I:my X ag σ H s) (h:oF X.K H a xs) (h':oF X.K H a ys):xs=ys:=by
 obtain⟨eH,r,⟨o,n,e,_,_,d⟩,_⟩:=I.list h;obtain⟨its',r',⟨o',n',e',_,_,d'⟩,_⟩:=I.list h';rw[e]at e';cases e';rw[d]at d';injection d' with d1 _;have:eH=its':=by simpa using congrArg Array.toList d1
 subst this;exact r.inj r'
def my.tuple_inj (I:my X ag σ H s) (h:oY X.K H a xs) (h':oY X.K H a ys):xs=ys:=by
 obtain⟨eH,r,⟨o,e,_,n,d⟩,_⟩:=I.tuple h;obtain⟨its',r',⟨o',e',_,n',d'⟩,_⟩:=I.tuple h';rw[e]at e';cases e';rw[d]at d';injection d' with d1 _;have:eH=its':=by simpa using congrArg Array.toList d1
 subst this;exact r.inj r'
abbrev Cx.wish (X:Cx) (E:aj→am→Prop):Cx:={ X with xe:=E }
abbrev Cx.nox (X:Cx):Cx:=X.wish λ_ _=>False
def Cx.Ok.wish{X:Cx}(ok:X.Ok) (E:aj→am→Prop):(X.wish E).Ok:=
 ⟨ok.mod,ok.kind,ok.glob,ok.blt,ok.above,ok.inj,ok.has,ok.cab,ok.hd,ok.frames,ok.stk,ok.exf,ok.bs,ok.bsz,ok.noex,ok.exfs,ok.funs,ok.frf⟩
def Cx.Ok.unwish{X:Cx}{E:aj→am→Prop}(ok:(X.wish E).Ok):X.Ok:=
 ⟨ok.mod,ok.kind,ok.glob,ok.blt,ok.above,ok.inj,ok.has,ok.cab,ok.hd,ok.frames,ok.stk,ok.exf,ok.bs,ok.bsz,ok.noex,ok.exfs,ok.funs,ok.frf⟩
section
variable {X:Cx}{ag:List (ai×aG)}{σ:St}{H:Hp}{s:am}{E:aj→am→Prop}
def my.wish (I:my X ag σ H s) (E:aj→am→Prop):my (X.wish E) ag σ H s:=⟨I.ok.wish E,I.os,I.bare,I.base,I.loc,I.cell,I.free,I.freeC,I.pin,I.cG,I.len⟩
def my.unwish (I:my (X.wish E) ag σ H s):my X ag σ H s:=⟨I.ok.unwish,I.os,I.bare,I.base,I.loc,I.cell,I.free,I.freeC,I.pin,I.cG,I.len⟩
def SP.unwish (h:SP (X.wish E) ag D f s'):SP X ag D f s':=by
 cases f with
 |next=>obtain⟨σ',H',I,q⟩:=h;exact⟨σ',H',I.unwish,q⟩
 |brk=>obtain⟨σ',H',I,q⟩:=h;exact⟨σ',H',I.unwish,q⟩
 |cont=>obtain⟨σ',H',I,q⟩:=h;exact⟨σ',H',I.unwish,q⟩
 |ret u=>obtain⟨v,σ',H',I,r,q⟩:=h;exact⟨v,σ',H',I.unwish,r,q⟩
def PE.nox (h:PE X.nox e t):PE X e t:=λag s σ H Q I hw=>
 ci (h ag s σ H Q (I.wish _) hw) (λ_ _ ⟨v,H',I',r,q⟩=>⟨v,H',I'.unwish,r,q⟩) λ_ _ z=>cE z
def qG.nox{st:List aW}(h:qG X.nox st t):qG X st t:=λag s σ H D I hw=>
 ci (h ag s σ H D (I.wish _) hw) (λ_ _ q=>q.unwish) λ_ _ z=>cE z
end
def Oz:TS:=λD σ H=>D.nx σ H
def Vw (t u:TS):TS:=λD σ H=>t { D with nx:=u D } σ H
def uH:qG X [] Oz:=λ_ _ σ H _ I h=>fX ⟨σ,H,I,h⟩
def Y0{X:Cx}{st:aW}{rest:List aW}{t u:TS}(h1:PS X st t) (h2:qG X rest u):qG X (st::rest) (Vw t u):=by
 intro ag s σ H D I h;refine kG (nE (h1 ag s σ H { D with nx:=u D } I h) λf s1 q=>?_);cases f with
 |next=>
  obtain⟨σ',H',I',q⟩:=q;exact h2 ag s1 σ' H' D I' q
 |ret v=>exact q
 |brk=>exact q
 |cont=>exact q
def IK{X:Cx}{st:aW}{t:TS}(h1:PS X st t):qG X [st] t:=by
 intro ag s σ H D I h;refine kG (nE (h1 ag s σ H D I h) λf s1 q=>?_);cases f with
 |next=>exact fX q
 |ret v=>exact q
 |brk=>exact q
 |cont=>exact q
def t6:PS X (.Pass pos) Oz:=λ_ _ σ H _ I h=>wpAny_Pass ⟨σ,H,I,h⟩
def my.dP (I:my X ag σ H s):interactive X.env=false:=by simp [interactive,I.ok.kind]
def WB (te:TE):TS:=λD σ H=>te σ H λ_ H1=>D.nx σ H1
def W_ (he:PE X e te) (hs:eG e none pos.line X.env=pure false:=by rfl):PS X (.Expr e pos) (WB te):=by
 intro ag s σ H D I h;exact wpAny_Expr_any (nE (he ag s σ H _ I h) λv s1 ⟨x,H1,I1,r1,q1⟩=>⟨σ,H1,I1,q1⟩) I.dP hs
def Sn (te:TE):TS:=λD σ H=>te σ H D.rt
def Ot (he:PE X e te):PS X (.Return (aa e) pos) (Sn te):=by
 intro ag s σ H D I h;exact wpAny_Return_some (nE (he ag s σ H _ I h) λv s1 ⟨x,H1,I1,r1,q1⟩=>⟨x,σ,H1,I1,r1,q1⟩)
def Y7:TS:=λD _ H=>D.rt .ca H
def tZ:PS X (.Return none pos) Y7:=λ_ _ σ H _ I h=>wpAny_Return_none ⟨.ca,σ,H,I,rfl,h⟩
def OJ (c:TT) (t u:TS):TS:=λD σ H=>c σ H λb H1=>if b=true then t D σ H1 else u D σ H1
def T0 (hc:PT X c tc) (ha:qG X a t) (hb:qG X b u):PS X (.If c a b pos) (OJ tc t u):=by
 intro ag s σ H D I h;refine wpAny_If (nE (hc ag s σ H _ I h) λd s1 ⟨H1,I1,q1⟩=>?_);cases d with
 |true=>exact ha ag s1 σ H1 D I1 q1
 |false=>exact hb ag s1 σ H1 D I1 q1
def O4:TS:=λ_ _ _=>False
def sU{X:Cx}{st:aW}:PS X st O4:=λ_ _ _ _ _ _ h=>h.elim
abbrev TG:=V→St→Hp→(St→Hp→Prop)→Prop
abbrev Aj:=List V→St→Hp→(St→Hp→Prop)→Prop
def PG (X:Cx) (target:Expr) (t:TG):Prop:=
 ∀(ag:List (ai×aG)) (s:am) (σ:St) (H:Hp) (v:V) (u:aj) (Q:St→Hp→Prop),my X ag σ H s→mV v u→t v σ H Q→
  av (aB X.prog X.w) X.A (assign target X.env u) (λ_ s'=>∃σ' H',my X ag σ' H' s'∧Q σ' H') X.xe s
def zf (X:Cx) (ts:List Expr) (t:Aj):Prop:=
 ∀(ag:List (ai×aG)) (s:am) (σ:St) (H:Hp) (vs:List V) (us:List aj) (Q:St→Hp→Prop),my X ag σ H s→mM vs us→t vs σ H Q→
  av (aB X.prog X.w) X.A (assignInOrder ((b_ ts X.env).map (·.2)) us) (λ_ s'=>∃σ' H',my X ag σ' H' s'∧Q σ' H') X.xe s
abbrev Fg:=V→V→Hp→VK→Prop
def NQ (X:Cx) (op:Operator) (t:Fg):Prop:=
 ∀(ag:List (ai×aG)) (s:am) (σ:St) (H:Hp) (x y:V) (v u:aj) (Q:VK),my X ag σ H s→mV x v→mV y u→t x y H Q→
  av (aB X.prog X.w) X.A (inplaceOp op v u) (EP X ag σ Q) X.xe s
def Dt (i:Nat):TG:=λv σ H Q=>Q (σ.set i (aa v)) H
def Vo (hN:X.N.Nodup) (hi:X.N[i]? =aa x) (hx:sZ X.env.scope x) (hf:X.fn x=true∨X.env.scope.names.lookup x=aa .local:=by first |exact .inl rfl |exact .inr rfl |assumption):PG X (.Name x pos) (Dt i):=by
 intro ag s σ H v u Q I r h;exact kC (FZ I hN hi hx r (λs' I'=>⟨_,H,I',h⟩) hf)
def SG:Aj:=λvs σ H Q=>vs=[]∧Q σ H
def OG (t:TG) (u:Aj):Aj:=λvs σ H Q=>∃v r,vs=v::r∧t v σ H λσ' H'=>u r σ' H' Q
def PK:zf X [] SG:=by
 intro ag s σ H vs us Q I r h;obtain⟨e,h⟩:=h;subst e;cases r;exact assignInOrder_nil ⟨σ,H,I,h⟩
def Yx (h1:PG X e t) (h2:zf X es u)
  (hs:(b_ (e::es) X.env).map (·.2)=assign e X.env::(b_ es X.env).map (·.2):=by rfl):zf X (e::es) (OG t u):=by
 intro ag s σ H vs us Q I r h;obtain⟨v,vr,e1,h⟩:=h;subst e1;cases r with
 |cons r rr=>
  rw[hs];refine assignInOrder_cons (nE (h1 ag s σ H _ _ _ I r h) λ_ s1 ⟨σ1,H1,I1,q1⟩=>?_);exact h2 ag s1 σ1 H1 _ _ Q I1 rr q1
def YV (K:ao) (n:Nat) (t:Aj):TG:=λv σ H Q=>∃a xs,v= .ref a∧oY K H a xs∧xs.length=n∧t xs σ H Q
def Sl (hc:X.calm=true) (h:zf X es t)
  (hn:(b_ es X.env).length=n:=by rfl) (hst:(b_ es X.env).findIdx? (·.1)=none:=by rfl):PG X (.Tuple es k pos) (YV X.K n t):=by
 intro ag s σ H v u Q I r hw;obtain⟨a,xs,e1,hq,hl,hw⟩:=hw;subst e1;cases r;obtain⟨eH,rv,ht,hz⟩:=I.tuple hq;refine assign_Tuple_tuple (I.ok.hd hc) ht (by simp [hn,←hl,rv.length]) hst λh' hx=>?_;have I1:my X ag σ H { s with heap:=h' }:=I.kept (t':=s.toks) λb o e=>hx b o (bS (aQ e)) e;exact h ag _ σ H xs _ Q I1 (by simpa using rv) hw
def Eo (te:TE) (g:TG):TS:=λD σ H=>te σ H λx H1=>g x σ H1 D.nx
def Pg (he:PE X e te) (hg:PG X tg g) (hs:jL [tg] e pos.line X.env=pure false:=by rfl) (hw:jH [tg] e X.env=pure none:=by rfl)
  (h1:(b_ [tg] X.env).map (·.2)=[assign tg X.env]:=by rfl):PS X (.Assign [tg] e pos) (Eo te g):=by
 intro ag s σ H D I h;refine wpAny_Assign_stores (nE (he ag s σ H _ I h) λv s1 ⟨x,H1,I1,r1,q1⟩=>?_) hs hw;rw[h1];exact nE (hg ag s1 σ H1 x v _ I1 r1 q1) λ_ s2 q=>q
def Yz (hN:X.N.Nodup) (hi:X.N[i]? =aa x) (hx:sZ X.env.scope x) (he:PE X e te) (hs:eG e (aa (.Name x pos')) pos.line X.env=pure false:=by rfl) (hf:X.fn x=true∨X.env.scope.names.lookup x=aa .local:=by first |exact .inl rfl |exact .inr rfl |assumption) :
  PS X (.Assign [.Name x pos'] e pos) (Eo te (Dt i)):=by
 intro ag s σ H D I h;refine wpAny_Assign_Name (nE (he ag s σ H _ I h) λv s1 ⟨y,H1,I1,r1,q1⟩=>?_) hs;exact FZ I1 hN hi hx r1 (λs2 I2=>⟨_,H1,I2,q1⟩) hf
def UN (i:Nat) (te:TE) (ti:Fg):TS:=λD σ H=>∃x,σ[i]? =aa (aa x)∧te σ H λy H1=>ti x y H1 λz H2=>D.nx (σ.set i (aa z)) H2
def RA (hN:X.N.Nodup) (hi:X.N[i]? =aa x) (hx:sZ X.env.scope x) (he:PE X e te) (ho:NQ X op ti) (hf:X.fn x=true∨X.env.scope.names.lookup x=aa .local:=by first |exact .inl rfl |exact .inr rfl |assumption) :
  PS X (.AugAssign (.Name x pos') op e pos) (UN i te ti):=by
 intro ag s σ H D I h;obtain⟨v,e1,h⟩:=h;obtain⟨m,hn,hl⟩:=I.loc;have vis:v7 X.env.scope x:=by obtain k |k:=hx;exact .inl k;exact .inr (.inl k)
 obtain⟨u,r,l⟩:=hl i x v hi e1 vis;refine wpAny_AugAssign_Name ?_;have go:av (aB X.prog X.w) X.A (aH e X.env) (λw s₂=>av (aB X.prog X.w) X.A (inplaceOp op u w) (λr s₃=>av (aB X.prog X.w) X.A (iy X.env x r) (λ_=>SP X ag D .next) X.xe s₃) X.xe s₂) X.xe s:=by
  refine nE (he ag s σ H _ I h) λw s1 ⟨y,H1,I1,r1,q1⟩=>?_;refine nE (ho ag s1 σ H1 v y u w _ I1 r r1 q1) λz s2 ⟨zv,H2,I2,r2,q2⟩=>?_;exact FZ I2 hN hi hx r2 (λs3 I3=>⟨_,H2,I3,q2⟩) hf
 obtain ⟨hk,hm⟩ |⟨hk,c,hc,hcell⟩:=l
 ·exact kh I.ok.kind hk hn hm go
 ·obtain hk |hk:=hk
  ·exact lg I.ok.kind hk hc hcell go
  ·obtain k |k:=hx
   ·have:X.env.scope.names.lookup x=aa .free:=hk;rw[k]at this;cases this
   ·have:X.env.scope.names.lookup x=aa .free:=hk;rw[k]at this;cases this
def Sy (f:Int→Int→Int):Fg:=λx y H Q=>∃i j,x= .int i∧y= .int j∧Q (.int (f i j)) H
def Tk:NQ X .Add (Sy λi j=>i+j):=by
 intro ag s σ H x y v u Q I r1 r2 h;obtain⟨i,j,e1,e2,q⟩:=h;subst e1;subst e2;obtain⟨t,rfl⟩:=r1;obtain⟨t',rfl⟩:=r2;exact iadd_int ⟨.int _,H,I.tok _,⟨_,rfl⟩,q⟩
def UW (c:TT) (tb:TS):TS:=λD σ H=>∃W:Nat→St→Hp→Prop,(∃m,W m σ H)∧ ∀m σ H,W m σ H→
 c σ H λb H1=>if b=true then ∃N:St→Hp→Prop,(∀σ' H',N σ' H'→ ∃m',m'<m∧W m' σ' H')∧tb { D with nx:=N,ct:=N,bk:=D.nx } σ H1 else D.nx σ H1
def Ws (hp:db (aB X.prog X.w) X.A X.env X.xe) (hc:PT X c tc) (hb:qG X body tb):PS X (.While c body [] pos) (UW tc tb):=by
 intro ag s σ H D I h;obtain⟨W,⟨m0,w0⟩,turn⟩:=h;refine wpAny_While (codeAny_whileLoop (λn s'=>∃σ' H',my X ag σ' H' s'∧W n σ' H') ?_ m0 ⟨σ,H,I,w0⟩);rintro n s1 ⟨σ1,H1,I1,w1⟩;refine d9 hp (nE (hc ag s1 σ1 H1 _ I1 (turn n σ1 H1 w1)) λb s2 ⟨H2,I2,q2⟩=>?_);cases b with
 |true=>
  obtain⟨N,hN,q2⟩:=q2;rw[if_pos rfl];refine d9 hp (nE (hb ag s2 σ1 H2 _ I2 q2) λf s3 q3=>?_);cases f with
  |next=>
   obtain⟨σ3,H3,I3,n3⟩:=q3;obtain⟨m',hm,w3⟩:=hN σ3 H3 n3;exact⟨m',hm,σ3,H3,I3,w3⟩
  |cont=>
   obtain⟨σ3,H3,I3,n3⟩:=q3;obtain⟨m',hm,w3⟩:=hN σ3 H3 n3;exact⟨m',hm,σ3,H3,I3,w3⟩
  |brk=>exact q3
  |ret v=>exact q3
 |false=>
  rw[if_neg cX];exact fX ⟨σ1,H2,I2,q2⟩
structure It where
  go:Nat→Hp→Prop
  yld:Nat→Hp→V→Hp→Prop
  stop:Nat→Hp→Prop
def qA (X:Cx) (ag:List (ai×aG)) (H:Hp) (b:ai):Prop:=
 H b=none∧b≠X.env.locals∧b∉X.fs∧(b∈X.ex∨X.s₀.heap.objs.size≤b)∧(∀x c,X.env.cells.lookup x=aa c→c≠b)∧ ∀p∈X.pn++ag,p.1≠b
def my.fpOk (I:my X ag σ H s) (hb:s.heap.objs.size≤b) (hn:H' b=none):qA X ag H' b:=by
 refine⟨hn,da (bY I.lt hb),I.nofs hb, .inr (aY I.sz hb),λx c e z=>?_,λp hp z=>?_⟩
 ·obtain⟨v,q⟩:=I.cell x c e;exact absurd (bY q.lt (by rw[z];exact hb)) (cO _)
 ·exact absurd (bY (aQ (I.pin p hp).1) (by rw[z];exact hb)) (cO _)
structure rm (P:bi) (w:aR) (K:ao) (tg:Expr) (J:It) (fp:List ai) (it:ai) (tn:Nat→aE→Prop):Prop where
  mem:it∈fp
  obj:∀i h,tn i h→ ∀b∈fp,∃o,h.get? b=aa o∧ ∀v,o.data≠ .cell v
  keep:∀i h h',tn i h→(∀b∈fp,∀o,h.get? b=aa o→h'.get? b=aa o)→tn i h'
  item:∀(X:Cx),X.prog=P→X.w=w→X.K=K→X.calm=true→ ∀(i:Nat) (ag:List (ai×aG)) (s:am) (σ:St) (H:Hp) (E:aj→am→Prop),my X ag σ H s→(∀b∈fp,qA X ag H b)→tn i s.heap→J.go i H→
    av (aB P w) X.A (cr (.ref it)) (λr s1=>∃u,r=aa u∧
      av (aB P w) X.A (gJ tg (.ref it) u) (λ_ s2=>∃x H',my X ag σ H' s2∧mV x u∧J.yld i H x H'∧tn (i+1) s2.heap∧ ∀b∈fp,H' b=none) E s1) E s
  done:∀(X:Cx),X.prog=P→X.w=w→X.K=K→X.calm=true→ ∀(i:Nat) (ag:List (ai×aG)) (s:am) (σ:St) (H:Hp) (E:aj→am→Prop),my X ag σ H s→(∀b∈fp,qA X ag H b)→tn i s.heap→J.stop i H→
    av (aB P w) X.A (cr (.ref it)) (λr s1=>r=none∧my X ag σ H s1) E s
  self:∀(A:bt) (i:Nat) (s:am) (Q:aj→am→Prop) (E:aj→am→Prop),tn i s.heap→Q (.ref it) s→av (aB P w) A (dy (.ref it)) Q E s
abbrev TI:=St→Hp→(It→Hp→Prop)→Prop
def K_ (X:Cx) (ag:List (ai×aG)) (σ:St) (tg:Expr) (R:It→Hp→Prop) (itv:aj) (s2:am):Prop:=
 ∃(it:ai) (fp:List ai) (tn:Nat→aE→Prop) (J:It) (H':Hp),itv= .ref it∧my X ag σ H' s2∧rm X.prog X.w X.K tg J fp it tn∧tn 0 s2.heap∧(∀b∈fp,qA X ag H' b)∧R J H'
def PI (X:Cx) (tg iter:Expr) (wi:TI):Prop:=
 ∀(ag:List (ai×aG)) (s:am) (σ:St) (H:Hp) (R:It→Hp→Prop),my X ag σ H s→wi σ H R→
  av (aB X.prog X.w) X.A (aH iter X.env) (λv s1=>av (aB X.prog X.w) X.A (dy v) (K_ X ag σ tg R) X.xe s1) X.xe s
def AW{E:aj→am→Prop}{Q:Unit→am→Prop}(ho:s.heap.get? it=aa o) (hc:o.cls= .type n) (hd:o.data= .fields vs)
    (hn: ["enumerate", "zip", "dict_itemiterator", "dict_reverseitemiterator", "odict_iterator", "itertools.zip_longest", "itertools.pairwise"].contains n=false) (hQ:Q () s):av M A (gJ tg (.ref it) u) Q E s:=by
  unfold gJ;cases tg<;>first
    |exact aM hQ
    | (cases u<;>first
        |exact aM hQ
        | (refine au (wpAny_load ho ?_)
           rw[hc,hd];show av M A (if(["enumerate", "zip", "dict_itemiterator", "dict_reverseitemiterator", "odict_iterator", "itertools.zip_longest", "itertools.pairwise"].contains n&&vs[0]? == aa (cQ _))=true then _ else _) Q E s;rw[if_neg (by intro h;rw[hn,Bool.false_and]at h;cases h)];exact aM hQ))
def Bc (K:ao) (a:ai):It:=
 ⟨λi H=>∃xs x,oF K H a xs∧xs[i]? =aa x,λi H x H'=>H'=H∧ ∀xs,oF K H a xs→xs[i]? =aa x,λi H=>∃xs,oF K H a xs∧xs.length≤i⟩
def Fm (K:ao) (a:ai):It:=
 ⟨λi H=>∃xs x,oY K H a xs∧xs[i]? =aa x,λi H x H'=>H'=H∧ ∀xs,oY K H a xs→xs[i]? =aa x,λi H=>∃xs,oY K H a xs∧xs.length≤i⟩
def B2 (lo:Int) (n:Nat):It:=⟨λi _=>i<n,λi H x H'=>H'=H∧x= .int (lo+i),λi _=>n≤i⟩
def Iw{K:ao}(a it:ai):rm P w K tg (Bc K a) [it] it (λi h=>h.IsListIter it a i) where
  mem:=by simp
  obj:=λi h st b hb=>by
    have e:b=it:=by simpa using hb
    subst e;obtain⟨o,e,c,d⟩:=st;exact⟨o,e,λv z=>by rw[d]at z;cases z⟩
  keep:=λi h h' st k=>st.at λo e=>k it (by simp) o e
  item:=by
    intro X hP hw hK hc i ag s σ H E I hf st hg;subst hP hw hK;obtain⟨xs,x,hq,hx⟩:=hg;obtain⟨eH,rv,p,hz⟩:=I.list hq;obtain⟨u,hu,ru⟩:=rv.get hx;obtain⟨f0,f1,f2,f3,f4,f5⟩:=hf it (by simp);refine wpAny_pyNext_list_item st p.isList (x:=u) (by simpa using hu) λh' st' sb=>?_;have I1:my X ag σ H { s with heap:=h' }:=I.turned (t':=s.toks) (λb o hb e=>(sb.2 b hb).trans e) f0 f1 f3 f4 f5;obtain⟨o,e,c,d⟩:=id st';exact⟨u,rfl,AW (s:={ s with heap:=h' }) e c d (by decide) ⟨x,H,I1,ru,⟨rfl,λys hy=>by rw[I.list_inj hy hq];exact hx⟩,st',λb hb=>(hf b hb).1⟩⟩
  done:=by
    intro X hP hw hK hc i ag s σ H E I hf st hg;subst hP hw hK;obtain⟨xs,hq,hx⟩:=hg;obtain⟨eH,rv,p,hz⟩:=I.list hq;obtain⟨f0,f1,f2,f3,f4,f5⟩:=hf it (by simp);have hl:=rv.length;exact wpAny_pyNext_list_end (I.ok.hd hc) st p.isList (by simp;lia) λh' eb=>⟨rfl,I.turned (t':=s.toks) (λb o hb e=>eb b o hb e) f0 f1 f3 f4 f5⟩
  self:=λ_ _ _ _ _ st h=>wpAny_pyIter_listiter st h
def UZ{K:ao}(a it:ai):rm P w K tg (Fm K a) [it] it (λi h=>h.IsTupleIter it a i) where
  mem:=by simp
  obj:=λi h st b hb=>by
    have e:b=it:=by simpa using hb
    subst e;obtain⟨o,e,c,d⟩:=st;exact⟨o,e,λv z=>by rw[d]at z;cases z⟩
  keep:=λi h h' st k=>st.at λo e=>k it (by simp) o e
  item:=by
    intro X hP hw hK hc i ag s σ H E I hf st hg;subst hP hw hK;obtain⟨xs,x,hq,hx⟩:=hg;obtain⟨eH,rv,p,hz⟩:=I.tuple hq;obtain⟨u,hu,ru⟩:=rv.get hx;obtain⟨f0,f1,f2,f3,f4,f5⟩:=hf it (by simp);refine wpAny_pyNext_tuple_item st (show s.heap.IsTuple a eH.toArray from p) (x:=u) (by simpa using hu) λh' st' sb=>?_;have I1:my X ag σ H { s with heap:=h' }:=I.turned (t':=s.toks) (λb o hb e=>(sb.2 b hb).trans e) f0 f1 f3 f4 f5;obtain⟨o,e,c,d⟩:=id st';exact⟨u,rfl,AW (s:={ s with heap:=h' }) e c d (by decide) ⟨x,H,I1,ru,⟨rfl,λys hy=>by rw[I.tuple_inj hy hq];exact hx⟩,st',λb hb=>(hf b hb).1⟩⟩
  done:=by
    intro X hP hw hK hc i ag s σ H E I hf st hg;subst hP hw hK;obtain⟨xs,hq,hx⟩:=hg;obtain⟨eH,rv,p,hz⟩:=I.tuple hq;obtain⟨f0,f1,f2,f3,f4,f5⟩:=hf it (by simp);have hl:=rv.length;exact wpAny_pyNext_tuple_end (I.ok.hd hc) st (show s.heap.IsTuple a eH.toArray from p) (by simp;lia) λh' eb=>⟨rfl,I.turned (t':=s.toks) (λb o hb e=>eb b o hb e) f0 f1 f3 f4 f5⟩
  self:=λ_ _ _ _ _ st h=>wpAny_pyIter_tupleiter st h
def Zr{K:ao}(it:ai) (lo:Int) (n:Nat):rm P w K tg (B2 lo n) [it] it (λi h=>IsRangeIter h it (lo+(i:Nat)*1) ((n:Int) - (i:Nat)) 1) where
  mem:=by simp
  obj:=λi h st b hb=>by
    have e:b=it:=by simpa using hb
    subst e;exact⟨_,st,λv z=>by
      have z':Data.fields _=Data.cell v:=z;cases z'⟩
  keep:=λi h h' st k=>k it (by simp) _ st
  item:=by
    intro X hP hw hK hc i ag s σ H E I hf st hg;subst hP hw hK;obtain⟨f0,f1,f2,f3,f4,f5⟩:=hf it (by simp);have W:=Walks.range (prog:=X.prog) (w:=X.w) (I.ok.hd hc) it lo 1 n;refine W.item i s _ _ hg st λv h' tk hv st' kk=>?_;obtain⟨t,rfl⟩:=hv;have I1:my X ag σ H { s with heap:=h',toks:=tk }:=I.turned (λb o hb e=>kk b o (by simpa using hb) e) f0 f1 f3 f4 f5;refine⟨_,rfl,AW (s:={ s with heap:=h',toks:=tk }) (n:= "range_iterator") st' rfl rfl (by decide) ⟨.int (lo+i),H,I1,⟨t,?_⟩,⟨rfl,rfl⟩,st',λb hb=>(hf b hb).1⟩⟩;rw[Int.mul_one]
  done:=by
    intro X hP hw hK hc i ag s σ H E I hf st hg;subst hP hw hK;obtain⟨f0,f1,f2,f3,f4,f5⟩:=hf it (by simp);exact wpAny_pyNext_range_end (I.ok.hd hc) st (by have:n≤i:=hg;lia) λh' eb=>⟨rfl,I.turned (t':=s.toks) (λb o hb e=>eb b o hb e) f0 f1 f3 f4 f5⟩
  self:=λ_ _ _ _ _ st h=>wpAny_pyIter_rangeiter st h
def U5 (K:ao) (tl:TE):TI:=λσ H R=>tl σ H λx H1=>∃a,x= .ref a∧(∃xs,oF K H1 a xs)∧R (Bc K a) H1
def Sk (hl:PE X l tl):PI X tg l (U5 X.K tl):=by
 intro ag s σ H R I h;refine nE (hl ag s σ H _ I h) λv s1 ⟨x,H1,I1,r1,q1⟩=>?_;obtain⟨a,e,⟨xs,hq⟩,q⟩:=q1;subst e;cases r1;obtain⟨eH,rv,p,hz⟩:=I1.list hq;refine eV p.isList ?_;refine⟨s1.heap.objs.size,[s1.heap.objs.size],_,_,H1,rfl,I1.kept (t':=s1.toks) λb o e=>aO _ e,Iw a _,⟨_,bI _ rfl,rfl,rfl⟩,λb hb=>?_,q⟩;have e:b=s1.heap.objs.size:=by simpa using hb
 subst e;exact I1.fpOk (aA _) (I1.cG.fresh (aA _))
def Qn{R:It→Hp→Prop}{E:aj→am→Prop}{lo hi:Int}{t u v:Tok}{tk:Nat}(I:my X ag σ H s) (h1: -(2 ^ 62)≤lo) (h2:lo<2 ^ 62) (h3: -(2 ^ 62)≤hi) (h4:hi<2 ^ 62)
  (q:R (B2 lo (hi - lo).toNat) H):av (aB X.prog X.w) X.A (dy (.ref s.heap.objs.size)) (K_ X ag σ tg R) E { s with heap:=s.heap.push { cls:= .type "range",data:= .fields #[.int lo t, .int hi u, .int 1 v] },toks:=tk }:=by
 refine wpAny_pyIter_range (IsRange.new ..) (small_one h1 h2 h3 h4) ?_;have I1:my X ag σ H { s with heap:=s.heap.push { cls:= .type "range",data:= .fields #[.int lo t, .int hi u, .int 1 v] },toks:=tk }:=I.kept λb o e=>aO _ e;refine⟨(s.heap.push { cls:= .type "range",data:= .fields #[.int lo t, .int hi u, .int 1 v] }).objs.size,[(s.heap.push { cls:= .type "range",data:= .fields #[.int lo t, .int hi u, .int 1 v] }).objs.size],_,_,H,rfl,
  I1.kept (t':=tk) λb o e=>aO _ e,Zr _ lo (hi - lo).toNat,?_,λb hb=>?_,q⟩
 ·have e1:lo+((0:Nat):Int)*1=lo:=by simp
  have e2:(((hi - lo).toNat:Nat):Int) - ((0:Nat):Int)=cu.Range.rangeSize lo hi 1:=by rw[rangeSize_one];split<;>lia
  show IsRangeIter _ _ (lo+((0:Nat):Int)*1) ((((hi - lo).toNat:Nat):Int) - ((0:Nat):Int)) 1;rw[e1,e2];exact bI _ rfl
 ·have e:b=(s.heap.push { cls:= .type "range",data:= .fields #[.int lo t, .int hi u, .int 1 v] }).objs.size:=by simpa using hb
  subst e;exact I1.fpOk (aA _) (I1.cG.fresh (aA _))
def XD (ta:TA):TI:=λσ H R=>ta σ H λvs H1=>∃j:Int,vs=[.int j]∧ -(2 ^ 62)≤j∧j<2 ^ 62∧R (B2 0 j.toNat) H1
def VL (hg:Gl X "range") (hm:X.mg "range" =none) (ha:PA X [a] ta) (hs:ax [a] X.env=[(false,aH a X.env)]:=by rfl):PI X tg (.Call (.Name "range" p) [a] [] pos) (XD ta):=by
 intro ag s σ H R I h;refine Call_ (xb I hg hm boot_range (gn (nE (ha pos ag s σ H _ I h) λus s1 ⟨vs,H1,I1,r1,q1⟩=>?_) hs rfl));obtain⟨j,e,q1,q2,q⟩:=q1;subst e;cases r1 with
 |cons r rr=>
  cases rr;obtain⟨t,rfl⟩:=r;exact call_range_1 (Qn I1 (by lia) (by lia) q1 q2 (by simpa using q))
def Ze (wi:TI) (g:TG) (tb:TS):TS:=λD σ H=>wi σ H λJ H1=>∃W:Nat→Nat→St→Hp→Prop,(∃m,W 0 m σ H1)∧ ∀i m σ H,W i m σ H→
 (J.stop i H∧D.nx σ H)∨(J.go i H∧ ∃N:St→Hp→Prop,(∀σ' H',N σ' H'→ ∃m',m'<m∧W (i+1) m' σ' H')∧ ∀x H',J.yld i H x H'→g x σ H' λσ2 H2=>tb { D with nx:=N,ct:=N,bk:=D.nx } σ2 H2)
def yi (fp:List ai) (h:aE):List (ai×aG):=fp.filterMap λb=>(h.get? b).map λo=>(b,o)
def Bb (hb:b∈fp) (e:h.get? b=aa o):(b,o)∈yi fp h:=iY.mpr ⟨b,hb,by rw[e];rfl⟩
def UX (hp:p∈yi fp h):p.1∈fp∧h.get? p.1=aa p.2:=by
 obtain⟨b,hb,e⟩:=iY.mp hp;cases q:h.get? b with
 |none=>rw[q]at e;cases e
 |some o=>
  rw[q]at e;have e':(b,o)=p:=aL e;subst e';exact⟨hb,q⟩
def my.pinned (I:my X ag σ H s) (hf:∀b∈fp,qA X ag H b) (ho:∀b∈fp,∃o,s.heap.get? b=aa o∧ ∀v,o.data≠ .cell v):my X (ag++yi fp s.heap) σ H s:=
 I.pins_of λp hp=>(bq.mp hp).elim (λz=>I.pin p (cp _ z)) λz=>by
  obtain⟨hb,e⟩:=UX z;obtain⟨f0,f1,f2,_⟩:=hf p.1 hb;obtain⟨o,e',d⟩:=ho p.1 hb;rw[e]at e';cases e';exact⟨e,f0,f1,f2,d⟩
def my.unpinned (I:my X (ag++pl) σ H s):my X ag σ H s:=I.pins_of λp hp=>I.pin p (cp _ (eB _ hp))
def Ry (hp:db (aB X.prog X.w) X.A X.env X.xe) (hc:X.calm=true) (hi:PI X tg iter wi) (hg:PG X tg g) (hb:qG X body tb)
  (hs:∀x,dF iter X.env x=pure x:=by intro _;rfl):PS X (.For tg iter body [] pos) (Ze wi g tb):=by
 intro ag s σ H D I h;refine wpAny_For (nE (hi ag s σ H _ I h) λv s1 h1=>nE h1 λitv s2 h2=>?_) hs;obtain⟨it,fp,tn,J,H2,e,I2,T,st2,f2,W,⟨m0,w0⟩,turn⟩:=h2;subst e;have stat:∀{H':Hp},(∀b∈fp,H' b=none)→ ∀b∈fp,qA X ag H' b:=λhn b hb=>⟨hn b hb,(f2 b hb).2⟩;refine codeAny_forLoop_any (λn s'=>∃i σ' H',my X ag σ' H' s'∧tn i s'.heap∧(∀b∈fp,H' b=none)∧W i n σ' H') ?_ m0 ⟨0,σ,H2,I2,st2,λb hb=>(f2 b hb).1,w0⟩;rintro n s3 ⟨i,σ3,H3,I3,st3,fr3,w3⟩;obtain ⟨stop,qn⟩ |⟨go,N,hN,step⟩:=turn i n σ3 H3 w3
 ·refine d9 hp (nE (T.done X rfl rfl rfl hc i ag s3 σ3 H3 X.xe I3 (stat fr3) st3 stop) λr s4 ⟨hr,I4⟩=>?_);subst hr;exact fX ⟨σ3,H3,I4,qn⟩
 ·refine d9 hp (nE (T.item X rfl rfl rfl hc i ag s3 σ3 H3 X.xe I3 (stat fr3) st3 go) λr s4 ⟨u,hr,h4⟩=>?_);subst hr;refine d9 hp (nE h4 λ_ s5 ⟨x,H5,I5,r5,y5,st5,fr5⟩=>?_);have I5':=I5.pinned (stat fr5) (T.obj _ _ st5);refine d9 hp (nE (hg _ s5 σ3 H5 x u _ I5' r5 (step x H5 y5)) λ_ s6 ⟨σ6,H6,I6,q6⟩=>?_);refine d9 hp (nE (hb _ s6 σ6 H6 _ I6 q6) λf s7 q7=>?_);have again:∀{σ7:St}{H7:Hp},my X (ag++yi fp s5.heap) σ7 H7 s7→N σ7 H7→ ∃m,m<n∧ ∃i σ' H',my X ag σ' H' s7∧tn i s7.heap∧(∀b∈fp,H' b=none)∧W i m σ' H':=λ{σ7 H7} I7 n7=>by
   obtain⟨m',hm,w7⟩:=hN σ7 H7 n7;refine⟨m',hm,i+1,σ7,H7,I7.unpinned,T.keep _ _ _ st5 λb hb o e=>(I7.pin (b,o) (cp _ (cp _ (Bb hb e)))).1,λb hb=>?_,w7⟩;obtain⟨o,e,d⟩:=T.obj _ _ st5 b hb;exact(I7.pin (b,o) (cp _ (cp _ (Bb hb e)))).2.1
  cases f with
  |next=>obtain⟨σ7,H7,I7,n7⟩:=q7;exact again I7 n7
  |cont=>obtain⟨σ7,H7,I7,n7⟩:=q7;exact again I7 n7
  |brk=>obtain⟨σ7,H7,I7,q7⟩:=q7;exact⟨σ7,H7,I7.unpinned,q7⟩
  |ret v=>obtain⟨x7,σ7,H7,I7,r7,q7⟩:=q7;exact⟨x7,σ7,H7,I7.unpinned,r7,q7⟩
abbrev R2:=V→V→Hp→VK→Prop
def n_ (X:Cx) (f:aj→aj→cj aj) (r:R2):Prop:=
 ∀(ag:List (ai×aG)) (s:am) (σ:St) (H:Hp) (x y:V) (v u:aj) (Q:VK),my X ag σ H s→mV x v→mV y u→r x y H Q→
  av (aB X.prog X.w) X.A (f v u) (EP X ag σ Q) X.xe s
def FK (X:Cx) (f:aj→cj aj) (r:V→Hp→VK→Prop):Prop:=
 ∀(ag:List (ai×aG)) (s:am) (σ:St) (H:Hp) (x:V) (v:aj) (Q:VK),my X ag σ H s→mV x v→r x H Q→
  av (aB X.prog X.w) X.A (f v) (EP X ag σ Q) X.xe s
def nL (X:Cx) (f:aj) (r:List V→Hp→VK→Prop):Prop:=
 ∀(ag:List (ai×aG)) (s:am) (σ:St) (H:Hp) (xs:List V) (us:List aj) (Q:VK),my X ag σ H s→mM xs us→r xs H Q→
  av (aB X.prog X.w) X.A (call f us) (EP X ag σ Q) X.xe s
def Pc (X:Cx) (r:V→Hp→(Bool→Hp→Prop)→Prop):Prop:=
 ∀(ag:List (ai×aG)) (s:am) (σ:St) (H:Hp) (x:V) (v:aj) (Q:Bool→Hp→Prop),my X ag σ H s→mV x v→r x H Q→
  av (aB X.prog X.w) X.A (truthy v) (TP X ag σ Q) X.xe s
def Aw (r:R2) (ta tb:TE):TE:=λσ H Q=>ta σ H λx H1=>tb σ H1 λy H2=>r x y H2 Q
def PJ (r:V→Hp→VK→Prop) (ta:TE):TE:=λσ H Q=>ta σ H λx H1=>r x H1 Q
def rI (C:Int→Int→Prop) (g:Int→Int→V):R2:=λx y H Q=>∃i j,x= .int i∧y= .int j∧C i j∧Q (g i j) H
def so (g:Int→Int→V):R2:=λx y H Q=>∃i j,x= .int i∧y= .int j∧Q (g i j) H
def rU (g:Int→V):V→Hp→VK→Prop:=λx H Q=>∃i,x= .int i∧Q (g i) H
def El (ha:PE X a ta) (hb:PE X b tb) {R:V→V→Hp→Prop}(I:my X ag σ H s)
  (h:ta σ H λx H1=>tb σ H1 λy H2=>R x y H2) {Q:aj→am→Prop}{f:aj→aj→cj aj}
  (hf:∀v u s2 x y H2,my X ag σ H2 s2→mV x v→mV y u→R x y H2→av (aB X.prog X.w) X.A (f v u) Q X.xe s2) :
  av (aB X.prog X.w) X.A (aH a X.env) (λv s₁=>av (aB X.prog X.w) X.A (aH b X.env) (λu s₂=>av (aB X.prog X.w) X.A (f v u) Q X.xe s₂) X.xe s₁) X.xe s:=by
 refine nE (ha ag s σ H _ I h) λv s1 ⟨x,H1,I1,r1,q1⟩=>?_;refine nE (hb ag s1 σ H1 _ I1 q1) λu s2 ⟨y,H2,I2,r2,q2⟩=>?_;exact hf v u s2 x y H2 I2 r1 r2 q2
def yS (ho:n_ X (ce op) r) (ha:PE X a ta) (hb:PE X b tb):PE X (.BinOp a op b pos) (Aw r ta tb):=by
 intro ag s σ H Q I h;exact wpAny_BinOp (El ha hb I h λv u s2 x y H2 I2 rx ry q=>ho ag s2 σ H2 x y v u Q I2 rx ry q)
def VX{r:V→Hp→VK→Prop}(ho:FK X (unaryOp op) r) (ha:PE X a ta):PE X (.UnaryOp op a pos) (PJ r ta):=by
 intro ag s σ H Q I h;exact iH (nE (ha ag s σ H _ I h) λv s1 ⟨x,H1,I1,r1,q1⟩=>ho ag s1 σ H1 x v Q I1 r1 q1)
def CI{f:aj→aj→cj aj}{C:Int→Int→Prop}{g:Int→Int→Int}
  (rule:∀(i j:Int) (t u:Tok) (s:am) (Q:aj→am→Prop) (E:aj→am→Prop),C i j→Q (.int (g i j) s.toks) { s with toks:=s.toks+1 }→av (aB X.prog X.w) X.A (f (.int i t) (.int j u)) Q E s) :
  n_ X f (rI C λi j=> .int (g i j)):=by
 intro ag s σ H x y v u Q I rx ry h;obtain⟨i,j,rfl,rfl,hc,q⟩:=h;obtain⟨t,rfl⟩:=rx;obtain⟨t',rfl⟩:=ry;exact rule i j t t' s _ _ hc ⟨.int (g i j),H,I.tok _,⟨_,rfl⟩,q⟩
def Kr{f:aj→aj→cj aj}{g:Int→Int→Int}
  (rule:∀(i j:Int) (t u:Tok) (s:am) (Q:aj→am→Prop) (E:aj→am→Prop),Q (.int (g i j) s.toks) { s with toks:=s.toks+1 }→av (aB X.prog X.w) X.A (f (.int i t) (.int j u)) Q E s) :
  n_ X f (so λi j=> .int (g i j)):=by
 intro ag s σ H x y v u Q I rx ry h;obtain⟨i,j,rfl,rfl,q⟩:=h;obtain⟨t,rfl⟩:=rx;obtain⟨t',rfl⟩:=ry;exact rule i j t t' s _ _ ⟨.int (g i j),H,I.tok _,⟨_,rfl⟩,q⟩
def CA{f:aj→aj→cj aj}{g:Int→Int→Bool}
  (rule:∀(i j:Int) (t u:Tok) (s:am) (Q:aj→am→Prop) (E:aj→am→Prop),Q (.bool (g i j)) s→av (aB X.prog X.w) X.A (f (.int i t) (.int j u)) Q E s) :
  n_ X f (so λi j=> .bl (g i j)):=by
 intro ag s σ H x y v u Q I rx ry h;obtain⟨i,j,rfl,rfl,q⟩:=h;obtain⟨t,rfl⟩:=rx;obtain⟨t',rfl⟩:=ry;exact rule i j t t' s _ _ ⟨.bl (g i j),H,I,rfl,q⟩
def sB (i j:Int):Prop:=0<j∧j<1073741824
def CC (i j:Int):Prop:=0≤j∧j≤1000000∧i.natAbs<2 ^ 64
def rk (i j:Int):Prop:=(-(2 ^ 64)<i∧i<2 ^ 64)∨(-(2 ^ 64)<j∧j<2 ^ 64)
def rk.ok (h:rk i j):IntMulOk i j:=by
 obtain ⟨h1,h2⟩ |⟨h1,h2⟩:=h
 ·exact .of_left (intBits_le_64 h1 h2)
 ·exact .of_right (intBits_le_64 h1 h2)
def vA:n_ X (ce .Add) (so λi j=> .int (i+j)):=Kr λ_ _ _ _ _ _ _ q=>add_int q
def Ux:n_ X (ce .Sub) (so λi j=> .int (i - j)):=Kr λ_ _ _ _ _ _ _ q=>sub_int q
def QR:n_ X (ce .Mult) (rI rk λi j=> .int (i*j)):=CI λ_ _ _ _ _ _ _ hc q=>mul_int q hc.ok
def P3:n_ X (ce .FloorDiv) (rI sB λi j=> .int (i / j)):=CI λi j _ _ _ _ _ hc q=>by
 have h1:(0:Int)<j:=hc.1;have h2:j<1073741824:=hc.2;exact floordiv_int (by lia) (by rw[Int.fdiv_eq_ediv_of_nonneg i (by lia)];exact q) (.inl (PyProof.noPylong_small (by lia)))
def PL:n_ X (ce .Mod) (rI (λ_ j=>0<j) λi j=> .int (i % j)):=CI λi j _ _ _ _ _ hc q=>by
 have h1:(0:Int)<j:=hc;exact mod_int' (by lia) (by rw[Int.fmod_eq_emod_of_nonneg i (by lia)];exact q)
def Se:n_ X (ce .Pow) (rI CC λi j=> .int (i ^ j.toNat)):=CI λ_ _ _ _ _ _ _ hc q=>pow_int_small hc.1 hc.2.1 hc.2.2 q
def QE{f:aj→cj aj}{g:Int→Int}
  (rule:∀(i:Int) (t:Tok) (s:am) (Q:aj→am→Prop) (E:aj→am→Prop),Q (.int (g i) s.toks) { s with toks:=s.toks+1 }→av (aB X.prog X.w) X.A (f (.int i t)) Q E s) :
  FK X f (rU λi=> .int (g i)):=by
 intro ag s σ H x v Q I rx h;obtain⟨i,rfl,q⟩:=h;obtain⟨t,rfl⟩:=rx;exact rule i t s _ _ ⟨.int (g i),H,I.tok _,⟨_,rfl⟩,q⟩
def Xt:FK X (unaryOp .USub) (rU λi=> .int (-i)):=QE λ_ _ _ _ _ q=>neg_int q
def yp (I:my X ag σ H s) (q:Q (.bl k) H) (e:k=k'):EP X ag σ Q (.bool k') s:=by
 subst e;exact⟨.bl k,H,I,rfl,q⟩
def XR:n_ X (bB .Lt) (so λi j=> .bl (decide (i<j))):=CA λ_ _ _ _ _ _ _ q=>lt_int q
def sT:n_ X (bB .LtE) (so λi j=> .bl (decide (i≤j))):=CA λ_ _ _ _ _ _ _ q=>le_int q
def VH:n_ X (bB .Gt) (so λi j=> .bl (decide (j<i))):=CA λ_ _ _ _ _ _ _ q=>gt_int q
def QC:n_ X (bB .GtE) (so λi j=> .bl (decide (j≤i))):=CA λ_ _ _ _ _ _ _ q=>ge_int q
def sk:n_ X (bB .In) (λx y H Q=>∃i j,x= .str i∧y= .str j∧Q (.bl (!(c6 j i 0 j.length 1).isEmpty)) H):=by
 intro ag s σ H x y v u Q I rx ry h;obtain⟨i,j,rfl,rfl,q⟩:=h;obtain⟨t,rfl⟩:=rx;obtain⟨t',rfl⟩:=ry;exact in_str (yp I q rfl)
def vx:n_ X (bB .Is) (λx y H Q=>y= .ca∧Q (.bl (decide (x= .ca))) H):=by
 intro ag s σ H x y v u Q I rx ry h;obtain⟨rfl,q⟩:=h;cases ry;refine is_none_gen (yp I q ?_);cases x<;>first
  | (cases rx;rfl)
  | (obtain⟨t,rfl⟩:=rx;rfl)
def ul:n_ X (bB .IsNot) (λx y H Q=>y= .ca∧Q (.bl (!decide (x= .ca))) H):=by
 intro ag s σ H x y v u Q I rx ry h;obtain⟨rfl,q⟩:=h;cases ry;refine isnot_none_gen (yp I q ?_);cases x<;>first
  | (cases rx;rfl)
  | (obtain⟨t,rfl⟩:=rx;rfl)
def qy:n_ X (bB .NotIn) (λx y H Q=>∃i j,x= .str i∧y= .str j∧Q (.bl (!(!(c6 j i 0 j.length 1).isEmpty))) H):=by
 intro ag s σ H x y v u Q I rx ry h;obtain⟨i,j,rfl,rfl,q⟩:=h;obtain⟨t,rfl⟩:=rx;obtain⟨t',rfl⟩:=ry;exact notIn_str (yp I q rfl)
def n_.or{f:aj→aj→cj aj}{r r':R2}(h:n_ X f r) (h':n_ X f r'):n_ X f (λx y H Q=>r x y H Q∨r' x y H Q):=by
 intro ag s σ H x y v u Q I rx ry q;obtain q |q:=q
 ·exact h ag s σ H x y v u Q I rx ry q
 ·exact h' ag s σ H x y v u Q I rx ry q
def Qm (ho:n_ X (bB op) r) (ha:PE X a ta) (hb:PE X b tb) (hm:fK op b=false):PE X (.Compare a [op] [b] pos) (Aw r ta tb):=by
 intro ag s σ H Q I h;exact wpAny_Compare1 (El ha hb I h λv u s2 x y H2 I2 rx ry q=>ho ag s2 σ H2 x y v u Q I2 rx ry q) hm
def VI (t:TE):TT:=λσ H Q=>t σ H λx H'=>∃k,x= .bl k∧Q k H'
def U4 (ho:n_ X (bB op) r) (ha:PE X a ta) (hb:PE X b tb) (hm:fK op b=false):PT X (.Compare a [op] [b] pos) (VI (Aw r ta tb)):=by
 intro ag s σ H Q I h;refine wpAny_isTrue_Compare1 (nE (ha ag s σ H _ I h) λv s1 ⟨x,H1,I1,r1,q1⟩=>nE (hb ag s1 σ H1 _ I1 q1) λu s2 ⟨y,H2,I2,r2,q2⟩=>
  nE (ho ag s2 σ H2 x y v u _ I2 r1 r2 q2) λc s3 ⟨z,H3,I3,r3,k,e,q3⟩=>?_) hm
 subst e;cases r3;exact d6 ⟨H3,I3,q3⟩
def Q3 (r r':R2) (ta tb tc:TE):TE:=λσ H Q=>ta σ H λx H1=>tb σ H1 λy H2=>r x y H2 λz H3=>∃k,z= .bl k∧
 (if k=true then tc σ H3 λw' H4=>r' y w' H4 Q else Q (.bl false) H3)
def Wm (ho:n_ X (bB op) r) (ho':n_ X (bB op') r') (ha:PE X a ta) (hb:PE X b tb) (hc:PE X c tc)
  (hm:g_ [op,op'] [b,c]=false:=by with_unfolding_all rfl):PE X (.Compare a [op,op'] [b,c] pos) (Q3 r r' ta tb tc):=by
 intro ag s σ H Q I h;refine Compare_chain (nE (ha ag s σ H _ I h) λv s1 ⟨x,H1,I1,r1,q1⟩=>chain_link (nE (hb ag s1 σ H1 _ I1 q1) λu s2 ⟨y,H2,I2,r2,q2⟩=>
  nE (ho ag s2 σ H2 x y v u _ I2 r1 r2 q2) λd s3 ⟨z,H3,I3,r3,k,e,q3⟩=>?_)) hm
 subst e;cases r3;refine d6 ?_;cases k with
 |false=>exact ite_ff ⟨.bl false,H3,I3,rfl,q3⟩
 |true=>exact ite_tt (chain_last (nE (hc ag s3 σ H3 _ I3 q3) λw' s4 ⟨z',H4,I4,r4,q4⟩=>ho' ag s4 σ H4 y z' u w' Q I4 r2 r4 q4))
def CB (K:ao) (x:V) (H:Hp) (k:Bool):Prop:=
 match x with
 | .ca=>k=false
 | .bl b=>k=b
 | .int i=>k=(i != 0)
 | .str y=>y.length≤sizeLine∧k=((y.length:Int) != 0)
 | .byt y=>y.size≤sizeLine∧k=((y.size:Int) != 0)
 | .ref p=>(∃xs,oF K H p xs∧k= !xs.isEmpty)∨(∃xs,oY K H p xs∧k= !xs.isEmpty)∨ ∃gN,H p=aa (.dK gN)∧k= !gN.isEmpty
 |_=>False
def Uf{κ:Type}{gN:List (κ×V)}{vs:List (κ×aj)}(r:KV gN vs):(!vs.isEmpty)= !gN.isEmpty:=by
 cases r<;>rfl
def IS{xs:List V}{eH:List aj}(r:mM xs eH):(!eH.toArray.isEmpty)= !xs.isEmpty:=by
 cases r<;>simp
def wO:(sizeLine:Nat)<2 ^ 63:=by rw[ef];decide
def Hu:Pc X (λx H Q=>∃k,CB X.K x H k∧Q k H):=by
 intro ag s σ H x v Q I rx h;obtain⟨k,e,q⟩:=h;have hl:=wO;have hs:sizeLine=16777216:=ef;cases x with
 |ca=>
  cases rx;have e':k=false:=e;subst e';exact truthy_none ⟨H,I,q⟩
 |bl b=>
  cases rx;have e':k=b:=e;subst e';exact d6 ⟨H,I,q⟩
 |int i=>
  obtain⟨t,rfl⟩:=rx;have e':k=(i != 0):=e;subst e';exact PySem.P.truthy_int ⟨H,I,q⟩
 |str y=>
  obtain⟨t,rfl⟩:=rx;obtain⟨hy,e'⟩:y.length≤sizeLine∧k=((y.length:Int) != 0):=e;subst e';exact PySem.P.truthy_str (by lia) ⟨H,I.tok _,q⟩
 |byt y=>
  obtain⟨t,rfl⟩:=rx;obtain⟨hy,e'⟩:y.size≤sizeLine∧k=((y.size:Int) != 0):=e;subst e';exact PySem.W.truthy_bytes (by lia) ⟨H,I.tok _,q⟩
 |ref p=>
  cases rx;have e':(∃xs,oF X.K H p xs∧k= !xs.isEmpty)∨(∃xs,oY X.K H p xs∧k= !xs.isEmpty)∨ ∃gN,H p=aa (.dK gN)∧k= !gN.isEmpty:=e;obtain ⟨xs,hx,e'⟩ |⟨xs,hx,e'⟩ |⟨gN,hx,e'⟩:=e'
  ·subst e';obtain⟨eH,r,pl,hz⟩:=I.list hx;have hlen:=r.length;exact wpAny_truthy_list pl.isList (by simp only[bf];lia) ⟨H,I.tok _,by rw[IS r];exact q⟩
  ·subst e';obtain⟨eH,r,pl,hz⟩:=I.tuple hx;have hlen:=r.length;exact truthy_tuple pl (by simp only[bf];lia) ⟨H,I.tok _,by rw[IS r];exact q⟩
  ·subst e';obtain⟨hz,hS,vs,r,m⟩:gN.length≤sizeLine∧(p == fo)=false∧ ∃vs,KV gN vs∧s.heap.DictOf (qF X.prog X.w) p vs:=I.cG p _ hx;have hlen:gN.length=vs.length:=fW r;exact wpAny_truthy_dict hS m (by lia) ⟨H,I.tok _,by rw[Uf r];exact q⟩
 |_=>exact(show False from e).elim
def RF (ha:PE X a ta) (he:∀whole,isTrue a X.env whole=(do let v ←whole;standAt a.pos;holding [v] (truthy v))) :
  PT X a (λσ H Q=>ta σ H λx H'=>∃k,CB X.K x H' k∧Q k H'):=by
 intro ag s σ H Q I h;exact isTrue_plain (nE (ha ag s σ H _ I h) λv s1 ⟨x,H1,I1,r1,q1⟩=>Hu ag s1 σ H1 x v Q I1 r1 q1) (he _)
def rq:n_ X (ce .Add) (λx y H Q=>∃i j,x= .str i∧y= .str j∧i.length+j.length≤sizeLine∧Q (.str (i++j)) H):=by
 intro ag s σ H x y v u Q I rx ry h;obtain⟨i,j,rfl,rfl,hz,q⟩:=h;obtain⟨t,rfl⟩:=rx;obtain⟨t',rfl⟩:=ry;exact add_str (λt' tk=>⟨.str (i++j),H,I.tok _,⟨_,rfl⟩,q⟩) hz
def tY (r:mM [x] us):∃u,us=[u]∧mV x u:=by
 cases r with
 |cons r1 r2=>cases r2;exact⟨_,rfl,r1⟩
def N3 (r:mM [x,y] us):∃u w',us=[u,w']∧mV x u∧mV y w':=by
 cases r with
 |cons r1 r2=>
  cases r2 with
  |cons r3 r4=>cases r4;exact⟨_,_,rfl,r1,r3⟩
def UE (hc:X.calm=true):nL X (.builtin "min") (λxs H Q=>∃i j,xs=[.int i, .int j]∧Q (.int (if j<i then j else i)) H):=by
 intro ag s σ H xs us Q I r h;obtain⟨i,j,rfl,q⟩:=h;obtain⟨u,w',rfl,⟨t,rfl⟩,⟨t',rfl⟩⟩:=N3 r;refine min_two_ints (I.ok.hd hc) λh' tk k=>⟨_,H,I.kept k,?_,q⟩;by_cases hj:j<i
 ·rw[if_pos hj,if_pos hj];exact⟨_,rfl⟩
 ·rw[if_neg hj,if_neg hj];exact⟨_,rfl⟩
def Rm:nL X (.type "int") (λxs H Q=>(∃i,xs=[.int i]∧Q (.int i) H)∨ ∃k,xs=[.bl k]∧Q (.int (if k then 1 else 0)) H):=by
 intro ag s σ H xs us Q I r h;obtain ⟨i,rfl,q⟩ |⟨k,rfl,q⟩:=h
 ·obtain⟨u,rfl,t,rfl⟩:=tY r;exact call_int_int ⟨.int i,H,I,⟨_,rfl⟩,q⟩
 ·obtain⟨u,rfl,r1⟩:=tY r;cases r1;exact call_int_bool ⟨.int (if k then 1 else 0),H,I.tok _,⟨_,rfl⟩,q⟩
structure vt (h:aE) (x dx C:ai) (mA:ah→Option aj):Prop where
  obj:h.get? x=aa (jU C dx)
  ns:h.Ns1 dx mA
  ne:dx≠x
def OM{h:aE}{dx:ai}{mA:ah→Option aj}(n:h.Ns1 dx mA):∃od,h.get? dx=aa od∧ ∀name,jf name od=aa (mA name):=by
 obtain⟨o,es,ep,ho,hd,hk,_,hm⟩:=n;refine⟨o,ho,λname=>?_⟩;have e:=hm name;unfold nsFind findBy at e;rw[←Array.find?_toList]at e;unfold jf;rw[hd];dsimp only;split
 ·rename_i y q;rw[q]at e;exact congrArg aa e
 ·rename_i q;rw[q]at e;have a:es.toList.any (·.refKey)=false:=by
   rw[List.any_eq_false];intro y hy;obtain⟨z,t,hkey⟩:=hk y (Array.mem_toList_iff.mp hy);simp [DictEntry.refKey,hkey]
  have a':¬es.toList.any (·.refKey)=true:=by rw[a];exact cX
  rw[if_neg a'];exact congrArg aa e
def vt.look{mA:ah→Option aj}(I:vt h x dx C mA):∃od,PySem.W.InstAt h x (jU C dx) C (aa od)∧ ∀name,jf name od=aa (mA name):=
 let ⟨od,ho,hl⟩:=OM I.ns
 ⟨od,⟨I.obj,rfl,rfl,ho⟩,hl⟩
def Rj (cG:nZ P w H h) (e:H a=aa (.ins C dx fs)):∃mA,vt h a dx C mA∧(∀f,qv (fs.lookup f) (mA f))∧PySem.Within mA (fs.map (·.1))∧fs.length≤1000∧H dx=aa (.own a):=by
 obtain⟨d,z,ne,ob,mA,n,r,q⟩:=(show nc P w H h a (.ins C dx fs) from cG a _ e);exact⟨mA,⟨ob,n,ne⟩,r,q,z,d⟩
structure EG (K:ao) (C:ai):Prop where
  pg:ky K C fH=true
  hd:PySem.W.hasDictIn K C=true
  po:PySem.W.plainOver K C=true
  sa:fJ K (.ref C) "__setattr__" =aa (aa (.builtin "object.__setattr__"))
def EG.get{K:ao}{C:ai}(c:EG K C) (f:ah):ky K C f=true:=c.pg
section
variable {X:Cx}{ag:List (ai×aG)}{σ:St}{H:Hp}{s:am}{A:bt}{E:aj→am→Prop}{Q:aj→am→Prop}{c:aj}{b:Bool}
inductive o8 (K:ao) (H:Hp):V→aj→Prop where
  |ca:o8 K H .ca (.type "NoneType")
  |bl (x:Bool):o8 K H (.bl x) (.type "bool")
  |int (i:Int):o8 K H (.int i) (.type "int")
  |str (x:ah):o8 K H (.str x) (.type "str")
  |flt (x:UInt64):o8 K H (.flt x) (.type "float")
  |bP {a:ai}{xs:List V}(e:H a=aa (.bP xs)):o8 K H (.ref a) (.type "list")
  |frz {a:ai}{o:aG}{xs:List V}(e:H a=aa (.frz o (.bP xs))):o8 K H (.ref a) (.type "list")
  |bW {a:ai}{xs:List V}(e:H a=aa (.bW xs)):o8 K H (.ref a) (.type "tuple")
  |dK {a:ai}{gN:List (Key×V)}(e:H a=aa (.dK gN)):o8 K H (.ref a) (.type "dict")
  |dT {a:ai}{gN:List (List Key×V)}(e:H a=aa (.dT gN)):o8 K H (.ref a) (.type "dict")
  |ins {a C dx:ai}{fs:List (ah×V)}(e:H a=aa (.ins C dx fs)) (cl:EG K C) (ha:fJ K (.ref C) "__class__" =aa (aa (.builtin "object.__class__")))
      (hn:PySem.W.specialIn K (.builtin "object.__class__") "__get__" =aa (aa (.builtin "getset_descriptor.__get__"))) (htk:PySem.W.takesIn K (.builtin "object.__class__")=aa true)
      (hm:je K C (.type "object")=aa true):o8 K H (.ref a) (.ref C)
def VY (I:my X ag σ H s) (rx:mV x u) (ty:o8 X.K H x t) (e:ge X.K t c=aa b) (h:∀tk,Q (.bool b) { s with toks:=tk }) :
  av (aB X.prog X.w) A (call (.builtin "isinstance") [u,c]) Q E s:=by
 cases ty with
 |ca=>cases(show u=cK from rx);exact cN PySem.W.kitx_none I.kIn dN e (λz=>nomatch z) h
 |bl y=>cases(show u=fj y from rx);exact cN PySem.W.kitx_bool I.kIn dN e (λz=>nomatch z) h
 |int i=>obtain⟨t,q⟩:=(show ∃t,u=gE i t from rx);cases q;exact cN PySem.W.kitx_int I.kIn dN e (λz=>nomatch z) h
 |str y=>obtain⟨t,q⟩:=(show ∃t,u=fY y t from rx);cases q;exact cN PySem.W.kitx_str I.kIn dN e (λz=>nomatch z) h
 |flt y=>obtain⟨t,q⟩:=(show ∃t,u=aj.float y t from rx);cases q;exact cN PySem.W.kitx_float I.kIn dN e (λz=>nomatch z) h
 | @bP a xs ea=>
  cases(show u=bM a from rx);obtain⟨_,_,n,_,h1⟩:=(show nc X.prog X.w H s.heap a (.bP xs) from I.cG a _ ea);exact cN lB I.kIn ⟨_,h1,rfl⟩ e (λz=>nomatch z) h
 | @frz a ob xs ea=>
  cases(show u=bM a from rx);obtain⟨_,_,_,n,_,h1⟩:=(show nc X.prog X.w H s.heap a (.frz ob (.bP xs)) from I.cG a _ ea);exact cN lB I.kIn ⟨_,h1,rfl⟩ e (λz=>nomatch z) h
 | @bW a xs ea=>
  cases(show u=bM a from rx);obtain⟨_,_,_,p⟩:=(show nc X.prog X.w H s.heap a (.bW xs) from I.cG a _ ea);obtain⟨o,h1,h2,_⟩:=p;exact cN PySem.W.kitx_tuple I.kIn ⟨o,h1,h2⟩ e (λz=>nomatch z) h
 | @dK a gN ea=>
  cases(show u=bM a from rx);obtain⟨_,_,vs,_,p⟩:=(show nc X.prog X.w H s.heap a (.dK gN) from I.cG a _ ea);obtain⟨o,es,ep,h1,h2,_⟩:=p;exact cN mj I.kIn ⟨o,h1,h2.1⟩ e (λz=>nomatch z) h
 | @dT a gN ea=>
  cases(show u=bM a from rx);obtain⟨_,_,xs,_,o,es,ep,h1,h2,_⟩:=(show nc X.prog X.w H s.heap a (.dT gN) from I.cG a _ ea);exact cN mj I.kIn ⟨o,h1,h2.1⟩ e (λz=>nomatch z) h
 | @ins a C dx fs ea cl ha hn htk hm=>
  cases(show u=bM a from rx);obtain⟨mA,O,_⟩:=Rj I.cG ea;obtain⟨od,J,_⟩:=O.look;exact cN (PySem.W.kitx_own (cl.get _) cl.hd ha hn htk hm) I.kIn J e (λz=>nomatch z) h
end
structure oj (k:Nat) (A:bt):Prop where
  hd:A.handled=none
  dp:A.depth+3*k+5<recursionLimit
  un:A.units+16*k+200<cLine
def oj.mono (r:oj k A) (h:j≤k):oj j A:=⟨r.hd,by have:=r.dp;lia,by have:=r.un;lia⟩
def oj.deeper (r:oj (k+1) A) (env:bN):oj k (A.deeper env):=
 ⟨r.hd,by have:=r.dp;show A.depth+1+3*k+5<_;lia,by have:=r.un;show A.units+3+16*k+200<_;lia⟩
def oj.depth (r:oj k A):A.depth<recursionLimit:=by have:=r.dp;lia
def oj.units (r:oj k A):A.units+64<cLine:=by have:=r.un;lia
def Xa:TA:=λ_ H Q=>Q [] H
def QF (ta:TE) (tr:TA):TA:=λσ H Q=>ta σ H λx H1=>tr σ H1 λxs H2=>Q (x::xs) H2
def oQ:PA X [] Xa:=λ_ _ _ _ H Q I h=>Calls.spliced_nil ⟨[],H,I, .nil,h⟩
def tR (ha:PE X e te) (hr:PA X es t) (hs:ax (e::es) X.env=(false,aH e X.env)::ax es X.env:=by rfl):PA X (e::es) (QF te t):=by
 intro pos ag s σ H Q I h;rw[hs];show av _ _ (spliced ((false,aH e X.env)::aZ pos (ax es X.env))) _ _ s;refine Calls.spliced_cons (nE (ha ag s σ H _ I h) λu s1 ⟨x,H1,I1,r1,q1⟩=>?_);exact nE (hr pos ag s1 σ H1 _ I1 q1) λus s2 ⟨xs,H2,I2,r2,q2⟩=>⟨x::xs,H2,I2, .cons r1 r2,q2⟩
def P5 (t:TA):TE:=λσ H Q=>t σ H λxs H1=>xs.length≤sizeLine∧ ∀p,H1 p=none→Q (.ref p) (nG H1 p (.bW xs))
def OI (t:TA):TE:=λσ H Q=>t σ H λxs H1=>xs.length≤sizeLine∧ ∀p,H1 p=none→Q (.ref p) (nG H1 p (.bP xs))
def VC{x1}(h:PA X es t):PE X (.Tuple es x1 pos) (P5 t):=by
 intro ag s σ H Q I hq;refine wpAny_Tuple_spliced (nE (h pos ag s σ H _ I hq) λus s1 ⟨xs,H1,I1,r,z,q⟩=>⟨by rw[←r.length];exact z,?_⟩);have hf:H1 s1.heap.objs.size=none:=I1.cG.fresh (aA _);refine⟨.ref s1.heap.objs.size,nG H1 s1.heap.objs.size (.bW xs),I1.laid (t':=s1.toks) (λb u e=>aO _ e) (aA _) ?_,rfl,q _ hf⟩;exact⟨z,us,r,⟨_,bI _ rfl,rfl,_,rfl⟩⟩
def PF (h:PA X es t):PE X (.List es pos) (OI t):=by
 intro ag s σ H Q I hq;refine wpAny_List_spliced (nE (h pos ag s σ H _ I hq) λus s1 ⟨xs,H1,I1,r,z,q⟩=>⟨by rw[←r.length];exact z,?_⟩);have hf:H1 s1.heap.objs.size=none:=I1.cG.fresh (aA _);refine⟨.ref s1.heap.objs.size,nG H1 s1.heap.objs.size (.bP xs),I1.laid (t':=s1.toks) (λb u e=>aO _ e) (aA _) ?_,rfl,q _ hf⟩;exact⟨z,us,0,r,bI _ rfl⟩
abbrev Sp:=List V→Hp→VK→XK→Prop
abbrev wG:=List bN→Hp→am→XK→aj→am→Prop
structure sN (P:bi) (w:aR) (K:ao) (mg:ah→Option aj) (base:aE) (A:bt) (outer:List bN) (s:am) (H:Hp):Prop where
  frames:A.frames=aa outer
  mod:Mod K mg base
  bs:∀b o,base.get? b=aa o→s.heap.get? b=aa o∧H b=none
  bsz:base.objs.size≤s.heap.objs.size
  funs:s.heap.FunFrames base outer
  frf:∀b∈frs outer,H b=none
  cG:nZ P w H s.heap
  bare:cc s.gens
def CE (outer:List bN) (P:bi) (w:aR) (H:Hp) (s:am) (Q:VK) (u:aj) (s':am):Prop:=
 ∃v H',s'.os=s.os∧cc s'.gens∧Un (frs outer) [] H H' s.heap s'.heap∧nZ P w H' s'.heap∧mV v u∧Q v H'
def CR (CX:wG) (outer:List bN) (P:bi) (w:aR) (H:Hp) (s:am) (Q:VK) (E:XK) (r:Result) (s':am):Prop:=
 match r with
 | .ok (.ret u)=>CE outer P w H s Q u s'
 | .ok _=>False
 | .error e=>CX outer H s E e s'
structure oO (P:bi) (w:aR) (K:ao) (mg:ah→Option aj) (base:aE) (CX:wG) (k:Nat) (f:ai) (fd:dq) (ps:List ah) (sp:Sp):Prop where
  len:∀vs H Q E,sp vs H Q E→vs.length=ps.length
  run:∀(A:bt) (outer:List bN) (s:am) (H:Hp) (args:Args) (us:List aj) (vs:List V) (Q:VK) (E:XK),oj k A→sN P w K mg base A outer s H→eR s fd args (ps.zip us)→mM vs us→sp vs H Q E→
    dY (aB P w) A (.call (.ref f) args) (CR CX outer P w H s Q E) s
def oO.mono{K:ao}{mg:ah→Option aj}(F:oO P w K mg base CX j f fd ps sp) (h:j≤k) :
  oO P w K mg base CX k f fd ps sp:=⟨F.len,λA outer s H args us vs Q E hr=>F.run A outer s H args us vs Q E (hr.mono h)⟩
def my.env0 (I:my X ag σ H s):sN X.prog X.w X.K X.mg X.base X.A X.stack s H:=
 ⟨I.ok.frames,I.ok.mod,I.bs,aY I.ok.bsz I.sz,I.stack,I.stkFree,I.cG,I.bare⟩
def pj (K:ao) (fd:dq) (ps:List ah) (ds:List aj):Prop:=
 ∀(s:am) (us:List aj),K.In s.heap→(us++ds).length=ps.length→eR s fd ⟨us,[]⟩ (ps.zip (us++ds))
def pj.all{K:ao}(h:∀us:List aj,us.length=ps.length→jj fd ⟨us,[]⟩=pure (ps.zip us)):pj K fd ps []:=λs us _ hl=>by
 rw[bg]at hl⊢;exact .of_eq (h us hl)
structure pi (N P:List ah) (sc:Scope):Prop where
  kind:sc.kind= .function
  co:sc.isCoroutine=false
  gen:sc.isGenerator=false
  nd:N.Nodup
  pre:N.take P.length=P
  par:∀x∈P,sc.names.lookup x=aa .local∨sc.names.lookup x=aa .cell
  nofree:∀y∈sc.names,y.2≠ .free
theorem LP{kindOf:ah→Option b9}:∀{binds:List (ah×aj)}{m:ah→Option aj},(∀v,(x,v)∉binds)→dC kindOf binds m x=m x
 | [],_,_=>rfl
 | (n,v)::r,m,h=>by
  unfold dC;rw[LP λw hw=>h w (aI _ hw)];split
  ·have:x≠n:=by rintro rfl;exact h v aK
   simp [this]
  ·rfl
theorem NN{kindOf:ah→Option b9}:∀{binds:List (ah×aj)}{m:ah→Option aj},(∀v,(x,v)∉binds)→dR kindOf binds m x=m x
 | [],_,_=>rfl
 | (n,v)::r,m,h=>by
  unfold dR;rw[NN λw hw=>h w (aI _ hw)];split
  ·rfl
  ·have:x≠n:=by rintro rfl;exact h v aK
   simp [this]
theorem Kf{kindOf:ah→Option b9}:∀{P:List ah}{vs:List aj}{i:Nat}{m:ah→Option aj},P.Nodup→P[i]? =aa x→vs[i]? =aa v→kindOf x=aa .local→
  dC kindOf (P.zip vs) m x=aa v
 | [],_,_,_,_,h,_,_=>by simp at h
 |_::_,[],_,_,_,_,h,_=>by simp at h
 |p::P,w::vs,0,m,nd,h1,h2,hk=>by
  simp at h1 h2;subst h1;subst h2;show dC kindOf ((p,w)::P.zip vs) m p=_;unfold dC;rw[LP λv hv=>(eD.mp nd).1 (fO hv).1,if_pos hk];simp
 |p::P,w::vs,i+1,m,nd,h1,h2,hk=>by
  show dC kindOf ((p,w)::P.zip vs) m x=_;unfold dC;exact Kf (i:=i) (eD.mp nd).2 (by simpa using h1) (by simpa using h2) hk
theorem HA{kindOf:ah→Option b9}:∀{P:List ah}{vs:List aj}{i:Nat}{m:ah→Option aj},P.Nodup→P[i]? =aa x→vs[i]? =aa v→kindOf x≠aa .local→
  dR kindOf (P.zip vs) m x=aa v
 | [],_,_,_,_,h,_,_=>by simp at h
 |_::_,[],_,_,_,_,h,_=>by simp at h
 |p::P,w::vs,0,m,nd,h1,h2,hk=>by
  simp at h1 h2;subst h1;subst h2;show dR kindOf ((p,w)::P.zip vs) m p=_;unfold dR;rw[NN λv hv=>(eD.mp nd).1 (fO hv).1,if_neg hk];simp
 |p::P,w::vs,i+1,m,nd,h1,h2,hk=>by
  show dR kindOf ((p,w)::P.zip vs) m x=_;unfold dR;exact HA (i:=i) (eD.mp nd).2 (by simpa using h1) (by simpa using h2) hk
def start (N:List ah) (vs:List V):St:=vs.map aa++bn (N.length - vs.length) none
def uQ (CX:wG) (P:bi) (w:aR) (K:ao) (mg:ah→Option aj) (base:aE) (N:List ah) (qual:ah) (scope:Scope) (f:ai) (cd:aj) (A:bt) (outer:List bN) (s:am) (H:Hp) (E:XK):Cx where
  prog:=P
  w:=w
  K:=K
  mg:=mg
  base:=base
  A:=A.deeper (cH qual scope s.heap.objs.size f cd)
  N:=N
  s₀:=s
  H₀:=H
  env:=cH qual scope s.heap.objs.size f cd
  outer:=outer
  stack:=cH qual scope s.heap.objs.size f cd::outer
  ex:=[]
  calm:=true
  fn:=λ_=>true
  pn:=[]
  xe:=λe s'=>av (aB P w) (A.deeper (cH qual scope s.heap.objs.size f cd)) (leaving (cH qual scope s.heap.objs.size f cd) e) (λ_ s''=>CX outer H s E e s'') (λe' s''=>CX outer H s E e' s'') s'
def Mk{sc:Scope}{n:Nat}{x:ah}(h:sc.names.lookup x=aa .cell):∃c,(iu n sc.names []).lookup x=aa c:=by
 have q:=mh sc.names n [] (.inl h);exact dL.mp q
def PV{K:ao}{mg:ah→Option aj} 
  (S:pi N ps scope) (hd:A.handled=none) (e0:sN P w K mg base A outer s H) (hl:vs.length=ps.length) (r:mM vs us)
  (x:InCallC s s.heap.objs.size (dC (cH qual scope s.heap.objs.size f cd).kindOf (ps.zip us) λ_=>none) (iu (s.heap.objs.size+1) scope.names []) (dR (cH qual scope s.heap.objs.size f cd).kindOf (ps.zip us) λ_=>none) s1) :
  my (uQ CX P w K mg base N qual scope f cd A outer s H E) [] (start N vs) H s1:=by
 have hpl:ps.length≤N.length:=by have:=congrArg dE S.pre;rw[cU]at this;lia
 obtain⟨h1,tk,rfl,hk⟩:=x.done;have noA:∀b:ai,b∉(uQ CX P w K mg base N qual scope f cd A outer s H E).ex:=λb z=>absurd (show b∈([]:List ai) from z) (by simp);refine⟨⟨e0.mod,S.kind,rfl,rfl,aA _,λy z c h1 h2=>?_,λy hy=>?_,λy c _ h=>?_,λ_=>hd,bt.frames_deeper e0.frames, .inr ⟨rfl,rfl⟩,λb z=>absurd z (noA b),e0.bs,e0.bsz,λb _ _=>noA b,λb z=>absurd z (noA b),e0.funs,e0.frf⟩,
  rfl,e0.bare,Un.kept hk,⟨_,x.toInCall.ns,λi y v h1 h2 h3=>?_⟩,λy c h=>⟨_,x.cell y c h⟩,e0.cG.fresh (aA _),λy c h=>?_,λp hp=>absurd (show p∈([]:List (ai×aG)) from hp) (by simp),e0.cG.kept hk,?_⟩
 ·exact name_of_addr x.apart (fB h1) (fB h2)
 ·have hy:scope.names.lookup y=aa .cell∨scope.names.lookup y=aa .free:=hy;obtain hy |hy:=hy
  ·exact Mk hy
  ·exact absurd rfl (S.nofree _ (fB hy))
 ·exact jg (x.above y c (fB h))
 ·have hi:i<vs.length:=by
   unfold start at h2;by_cases hi:i<vs.length
   ·exact hi
   ·rw[jp (by simpa using hi)]at h2;rw[kw]at h2;split at h2<;>cases h2
  have ha:vs[i]? =aa v:=by
   unfold start at h2;rw[kL (by simpa using hi),aV]at h2;cases e:vs[i]? with
   |none=>rw[e]at h2;cases h2
   |some a=>rw[e]at h2;cases h2;rfl
  obtain⟨u,hu,rv⟩:=r.get ha;have hp:ps[i]? =aa y:=by
   rw[←S.pre,List.getElem?_take_of_lt (by lia)];exact h1
  have ndP:ps.Nodup:=by rw[←S.pre];exact S.nd.sublist (lS _ _)
  refine⟨u,rv,?_⟩;obtain k |k:=S.par y (aJ hp)
  ·exact .inl ⟨k,Kf ndP hp hu k⟩
  ·obtain⟨c,e⟩:=Mk (n:=s.heap.objs.size+1) k;refine .inr ⟨.inl k,c,e,?_⟩;have q:=x.cell y c e;rw[HA ndP hp hu (by show scope.names.lookup y≠_;rw[k];decide)]at q;exact q
 ·exact e0.cG.fresh (jg (x.above y c (fB h)))
 ·unfold start;show _=N.length;rw[bc,ay,jO];lia
def Gr{K:ao}{mg:ah→Option aj}{dV kV doc pm cdv ct oc:aj} 
  (lk:K.lookup f=aa ⟨oc,od, .func (dU name qual params body scope dV kV doc pm an cdv ct),osl⟩) (hcd:gK K cdv qual=true) (S:pi N ps scope)
  (len:∀vs H Q E,sp vs H Q E→vs.length=ps.length)
  (hbody:∀(A:bt) (outer:List bN) (s:am) (H:Hp) (vs:List V) (Q:VK) (E:XK),oj k (A.deeper (cH qual scope s.heap.objs.size f cdv))→sp vs H Q E→
   ∃t,qG (uQ CX P w K mg base N qual scope f cdv A outer s H E) body t∧t { nx:=λ_ H'=>Q .ca H',rt:=Q } (start N vs) H) :
  oO P w K mg base CX (k+1) f (dU name qual params body scope dV kV doc pm an cdv ct) ps sp:=by
 refine⟨len,λA outer s H args us vs Q E hr e0 hb r hsp=>?_⟩;have hl:=len _ _ _ _ hsp;have KX:K.In s.heap:=e0.mod.kin.keeps λb o e=>(e0.bs b o e).1;have lim:s.heap.NoLimit:=e0.mod.nolimit.keeps λb o e=>(e0.bs b o e).1;have hkind:∀y∈ps.zip us,scope.names.lookup y.1=aa .local∨(scope.names.lookup y.1=aa .cell∧((iu (s.heap.objs.size+1) scope.names []).lookup y.1).isSome=true):=λ⟨n,v⟩ hy=>by
  obtain q |q:=S.par n (fO hy).1
  ·exact .inl q
  ·exact .inr ⟨q,mh _ _ _ (.inl q)⟩
 refine codeAny_call_function hr.depth (KX _ _ lk) rfl S.co S.gen rfl (PySem.W.codeRec_of KX hcd) (hb _ _ _ _ ?_);refine wpAny_newFunctionEnv_cells S.kind hkind λenv he s1 x=>?_;subst he;refine⟨lim.keeps x.toInCall.keep,codeAny_func ?_⟩;obtain⟨t,ht,hq⟩:=hbody A outer s H vs Q E (hr.deeper _) hsp;have I:my (uQ CX P w K mg base N qual scope f cdv A outer s H E) [] (start N vs) H s1:=PV S hr.hd e0 hl r x;refine ci (ht [] s1 (start N vs) H _ I hq) (λfl s' hs=>?_) λe s' hs=>hs;have fin:∀{σ':St}{H':Hp}{v:V}{u:aj},my (uQ CX P w K mg base N qual scope f cdv A outer s H E) [] σ' H' s'→mV v u→Q v H'→CE outer P w H s Q u s':=
  λ{σ' H' v u} J rv q=>⟨v,H',J.os,J.bare,J.base,J.cG,rv,q⟩
 cases fl with
 |ret u=>
  obtain⟨v,σ',H',J,rv,q⟩:=hs;exact fin J rv q
 |next=>
  obtain⟨σ',H',J,q⟩:=hs;exact fin (v:=V.ca) (u:=cK) J rfl q
 |brk=>
  obtain⟨_,_,_,q⟩:=hs;exact cE q
 |cont=>
  obtain⟨_,_,_,q⟩:=hs;exact cE q
section
variable {X:Cx}{x:ah}{p pos:bw}{e:Expr}{es:List Expr}{t:TA}{id T:String}{r:List V→Hp→VK→Prop}
def GC (r:List V→Hp→VK→Prop) (t:TA):TE:=λσ H Q=>t σ H λvs H1=>r vs H1 Q
def EN (hc:nL X (.builtin id) r) (hg:Gl X x) (hm:X.mg x=none) (hv:cD x=aa (.builtin id)) (ha:PA X (e::es) t) (hn:x≠ "__name__" :=by decide) (hdb:(x == ("__debug__" :ah))=false:=by decide)
  (he:ax (e::es) X.env=(false,aH e X.env)::ax es X.env:=by rfl) (hpl:(aZ pos (ax es X.env)).any (·.1)=false:=by rfl):PE X (.Call (.Name x p) (e::es) [] pos) (GC r t):=by
 intro ag s σ H Q I h;refine gQ (xb I hg hm hv ?_ hn hdb);exact PyProof.Rows.callWith_builtin1 (nE (ha pos ag s σ H _ I h) λus s1 ⟨vs,H1,I1,r1,q1⟩=>hc ag s1 σ H1 vs us Q I1 r1 q1) he hpl
def Eb (hc:nL X (.type T) r) (hg:Gl X x) (hm:X.mg x=none) (hv:cD x=aa (.type T)) (ha:PA X (e::es) t) (hn:x≠ "__name__" :=by decide) (hdb:(x == ("__debug__" :ah))=false:=by decide)
  (he:ax (e::es) X.env=(false,aH e X.env)::ax es X.env:=by rfl) (hpl:(aZ pos (ax es X.env)).any (·.1)=false:=by rfl):PE X (.Call (.Name x p) (e::es) [] pos) (GC r t):=by
 intro ag s σ H Q I h;refine gQ (xb I hg hm hv ?_ hn hdb);exact gn (nE (ha pos ag s σ H _ I h) λus s1 ⟨vs,H1,I1,r1,q1⟩=>hc ag s1 σ H1 vs us Q I1 r1 q1) he hpl
end
end L2
namespace HT
open PySem PyProof.Rows
section
variable {prog:bi}{w:aR}{A:bt}{E:aj→am→Prop}{s:am}
def cat_tup{Q:aj→am→Prop}(ht:eM s.heap t vs.toArray) (hb:eM s.heap b ws.toArray) (hv:vs≠ [])
  (h1:ws=[]→Q (.ref t) s) (h2:ws≠ []→Q (.ref s.heap.objs.size) { s with heap:=s.heap.push { cls:= .type "tuple",data:= .seq (vs++ws).toArray } })
  (hsz:vs.length+ws.length≤sizeLine):av (aB prog w) A (ce .Add (.ref t) (.ref b)) Q E s:=by
 obtain⟨⟨cls,dd,data,sl⟩,ho,hc,n,hd⟩:=id ht;obtain⟨⟨cls2,dd2,data2,sl2⟩,ho2,hc2,n2,hd2⟩:=id hb;simp only at hc hd hc2 hd2;subst hc hd hc2 hd2;have e:vs.toArray++ws.toArray=(vs++ws).toArray:=by simp
 by_cases hw:ws=[]
 ·exact iP ⟨_,ho,rfl⟩ ⟨_,ho2,rfl⟩ iF iW i_ jF (jb _ _)
   (tuple_addW1 t b vs.toArray ws.toArray n n2 dd dd2 sl sl2 (by simpa using hv) (by simp [hw])) ⟨ho,ho2,h1 hw⟩
 ·refine iP ⟨_,ho,rfl⟩ ⟨_,ho2,rfl⟩ iF iW i_ jF (jb _ _)
   (tuple_addW2 t b vs.toArray ws.toArray n n2 dd dd2 sl sl2 (by simpa using hv) (by simpa using hw) (by rw[bf,bf];exact hsz)) ⟨ho,ho2,?_⟩
  rw[e];exact h2 hw
def sIx (n d:Nat):Option Int→Nat
 |none=>d
 |some v=>if v<0 then(v+(n:Int)).toNat else min v.toNat n
theorem sIx_none (n d:Nat):sIx n d none=d:=rfl
def sIx_nat (n d k:Nat):sIx n d (aa (k:Int))=min k n:=by
 show(if(k:Int)<0 then((k:Int)+(n:Int)).toNat else min (k:Int).toNat n)=min k n;rw[if_neg (by lia),bb]
def sIx_le (n d:Nat) (hd:d≤n) (o:Option Int):sIx n d o≤n:=by
 cases o with
 |none=>exact hd
 |some v=>
  show(if v<0 then(v+(n:Int)).toNat else min v.toNat n)≤n;by_cases hv:v<0
  ·rw[if_pos hv];lia
  ·rw[if_neg hv];exact Nat.min_le_right _ _
def Gf (v:Int) (n d:Nat):(if v<0 then max (v+(n:Int)) 0 else min v (n:Int))=((sIx n d (aa v):Nat):Int):=by
 show(if v<0 then max (v+(n:Int)) 0 else min v (n:Int))=(((if v<0 then(v+(n:Int)).toNat else min v.toNat n):Nat):Int);by_cases hv:v<0
 ·simp only[if_pos hv];lia
 ·simp only[if_neg hv];lia
def YA (lo hi:Option Int) (n:Nat):jQ lo hi 1 (n:Int)=(((sIx n 0 lo:Nat):Int),((sIx n n hi:Nat):Int)):=by
 have h1:¬((1:Int)<0):=by lia
 unfold jQ;simp only[h1,if_false];refine Prod.ext ?_ ?_
 ·cases lo with
  |none=>rfl
  |some v=>exact Gf v n 0
 ·cases hi with
  |none=>rfl
  |some v=>exact Gf v n n
def YT (i j:Nat):ib (i:Int) (j:Int) 1=j - i:=by
 unfold ib;have h1:(1:Int) > 0:=by lia
 simp only[h1,if_true,Int.ediv_one];split<;>lia
def JD{Q:Option Int→am→Prop}(p:cY v o) (h:Q o s):av (aB prog w) A (cu.Slice.slicePartIndex v) Q E s:=by
 cases p with
 |none=>exact ku h
 |int i t=>exact slicePart_int h
def sliceApplied_gen{lo hi:Option Int}{Q:Int×Int×Nat→am→Prop}(hs:s.heap.IsSliceOf sl vl vu .none) (pl:cY vl lo) (pu:cY vu hi)
  (h:Q (((sIx n 0 lo:Nat):Int),1,sIx n n hi - sIx n 0 lo) s):av (aB prog w) A (kT (.ref sl) (pure (n:Int))) Q E s:=by
 obtain⟨os,hos,hcs,hds⟩:=id hs;unfold kT cu.Slice.sliceFields;refine au (au (bV hos hds (x:=vl) rfl (au (bV hos hds (x:=vu) rfl (au (bV hos hds (x:= .none) rfl (aM ?_)))))));refine au (ku ?_);show av _ _ (if((1:Int) == 0)=true then _ else _) _ _ s;rw[if_neg (by decide)];refine au (JD pl (au (JD pu (au (aM ?_)))));show av _ _ (match jQ lo hi 1 (n:Int) with | (lo,hi)=>pure (lo,(1:Int),ib lo hi 1)) _ _ s;rw[YA lo hi n];show av _ _ (pure (((sIx n 0 lo:Nat):Int),(1:Int),ib ((sIx n 0 lo:Nat):Int) ((sIx n n hi:Nat):Int) 1)) _ _ s;rw[YT];exact aM h
def ZS (xs:Array aj) (i k:Nat):((bx k).filterMap λ(m:Nat)=>xs[((i:Int)+(m:Int)*1).toNat]?).toArray=((xs.toList.drop i).take k).toArray:=by
 have e:(λ(m:Nat)=>xs[((i:Int)+(m:Int)*1).toNat]?)=λm=>xs[i+m]? :=by
  funext m;have:((i:Int)+(m:Int)*1).toNat=i+m:=by lia
  rw[this]
 rw[e];have:=jo xs i k;rw[List.filterMap_map]at this;have e2:((λx=>xs[x]?)∘λx=>i+x)=λm=>xs[i+m]? :=rfl;rw[e2]at this;rw[this]
def getItem_tuple_cut{lo hi:Option Int}{Q:aj→am→Prop}(ht:eM s.heap t items) (hs:s.heap.IsSliceOf sl vl vu .none) (pl:cY vl lo) (pu:cY vu hi)
  (hw:¬(sIx items.size 0 lo=0∧sIx items.size items.size hi=items.size))
  (h:Q (.ref s.heap.objs.size) { s with heap:=s.heap.push { cls:= .type "tuple",data:= .seq ((items.toList.drop (sIx items.size 0 lo)).take (sIx items.size items.size hi - sIx items.size 0 lo)).toArray } })
  (hsz:items.size≤sizeLine):av (aB prog w) A (eA (.ref t) (.ref sl)) Q E s:=by
 have htake:sizeOk (.seq ((items.toList.drop (sIx items.size 0 lo)).take (sIx items.size items.size hi - sIx items.size 0 lo)).toArray):=by
  show((items.toList.drop (sIx items.size 0 lo)).take (sIx items.size items.size hi - sIx items.size 0 lo)).toArray.size≤sizeLine;rw[bf,cU,cP,i9];lia
 have hj:sIx items.size items.size hi≤items.size:=sIx_le _ _ (aA _) hi;obtain⟨os,hos,hcs,hds⟩:=id hs;have hTs:s.TypeIs (.ref sl) "slice" :=⟨os,hos,hcs⟩;unfold eA
 try with_reducible refine gv ?_
 first |refine au (aM ?_) |skip
 refine au (kZ ht.typeIs (by decide) ?_);refine au (dH (name:=bE "__getitem__") ht.typeIs eX
  (dG eX ht.typeIs j3 ?_ (kX _ _)))
 show av _ _ (kQ (.ref t) >>= _) _ _ s;refine au (tupleItemsOf_ ht ?_);refine au (fV hTs ?_);rw[if_pos (by decide)];refine au (sliceApplied_gen hs pl pu ?_);have hno:¬((((sIx items.size 0 lo:Nat):Int) == 0&&(1:Int) == 1&&(sIx items.size items.size hi - sIx items.size 0 lo) == items.size)=true):=by
  intro q;rw[bT,bT]at q;have q1:((sIx items.size 0 lo:Nat):Int)=0:=gP q.1.1;have q2:sIx items.size items.size hi - sIx items.size 0 lo=items.size:=gP q.2;exact hw ⟨by lia,by lia⟩
 show av _ _ (if(((sIx items.size 0 lo:Nat):Int) == 0&&(1:Int) == 1&&(sIx items.size items.size hi - sIx items.size 0 lo) == items.size)=true then _ else _) _ _ s;rw[if_neg hno,ZS]
 first
  |exact au (m:=gR _) (eU (aM ⟨_,rfl,aM h⟩) htake)
  |exact au (m:=gR _) (eU (au (aM (aM ⟨_,rfl,aM h⟩))) htake)
  |exact au (au (m:=gR _) (eU (aM (aM ⟨_,rfl,aM h⟩)) htake))
  |exact au (au (m:=gR _) (eU (aM ⟨_,rfl,aM h⟩) htake))
end
end HT
namespace L2
open PySem PySem.Spec PyProof.Rows
abbrev TO:=St→Hp→(Option Int→Hp→Prop)→Prop
def PO (X:Cx) (e:Option Expr) (t:TO):Prop:=
 ∀(ag:List (ai×aG)) (s:am) (σ:St) (H:Hp) (Q:Option Int→Hp→Prop),my X ag σ H s→t σ H Q→
  av (aB X.prog X.w) X.A (evalPart e X.env) (λu s'=>∃o H',my X ag σ H' s'∧cY u o∧Q o H') X.xe s
def Ya:TO:=λ_ H Q=>Q none H
def Xd (t:TE):TO:=λσ H Q=>t σ H λx H1=>∃i,x= .int i∧Q (aa i) H1
def uj:PO X none Ya:=by
 intro ag s σ H Q I h;rw[evalPart_none];exact aM ⟨none,H,I, .none,h⟩
def UA (h:PE X e te):PO X (aa e) (Xd te):=by
 intro ag s σ H Q I hw;rw[evalPart_some];refine nE (h ag s σ H _ I hw) λu s1 ⟨x,H1,I1,r1,q1⟩=>?_;obtain⟨i,rfl,q⟩:=q1;obtain⟨t,rfl⟩:=r1;exact⟨aa i,H1,I1, .int i t,q⟩
def um (X:Cx) (r:V→Option Int→Option Int→Hp→VK→Prop):Prop:=
 ∀(ag:List (ai×aG)) (s:am) (σ:St) (H:Hp) (x:V) (v vl vu:aj) (lo hi:Option Int) (sl:ai) (Q:VK),my X ag σ H s→mV x v→s.heap.IsSliceOf sl vl vu .none→cY vl lo→cY vu hi→r x lo hi H Q→
  ∃T id,jh (.type T) "__getitem__" =pure (aa (.builtin id))∧s.TypeIs v T∧av (aB X.prog X.w) X.A (eA v (.ref sl)) (EP X ag σ Q) X.xe s
def um.or{r r':V→Option Int→Option Int→Hp→VK→Prop}(h:um X r) (h':um X r'):um X (λx lo hi H Q=>r x lo hi H Q∨r' x lo hi H Q):=by
 intro ag s σ H x v vl vu lo hi sl Q I rx hs pl pu q;obtain q |q:=q
 ·exact h ag s σ H x v vl vu lo hi sl Q I rx hs pl pu q
 ·exact h' ag s σ H x v vl vu lo hi sl Q I rx hs pl pu q
def YN (r:V→Option Int→Option Int→Hp→VK→Prop) (te:TE) (tl th:TO):TE:=λσ H Q=>te σ H λx H1=>tl σ H1 λl H2=>th σ H2 λu H3=>r x l u H3 Q
def J2{X:Cx}{e:Expr}{te:TE}{lo hi:Option Expr}{tl th:TO}{pos p2:bw}{r:V→Option Int→Option Int→Hp→VK→Prop}(hr:um X r) (he:PE X e te) (hl:PO X lo tl) (hu:PO X hi th):PE X (.Subscript e (.Slice lo hi none p2) pos) (YN r te tl th):=by
 intro ag s σ H Q I h;refine Subscript_ (nE (he ag s σ H _ I h) λv s1 ⟨x,H1,I1,r1,q1⟩=>?_);refine wpAny_Slice (nE (hl ag s1 σ H1 _ I1 q1) λvl s2 ⟨l,H2,I2,pl,q2⟩=>nE (hu ag s2 σ H2 _ I2 q2) λvu s3 ⟨u,H3,I3,pu,q3⟩=>?_);rw[evalPart_none];refine aM ?_;have I4:my X ag σ H3 { s3 with heap:=s3.heap.push { cls:= .type "slice",data:= .fields #[vl,vu, .none] } }:=I3.kept (t':=s3.toks) λb ob q=>aO _ q;obtain⟨T,id,hT,ht,hg⟩:=hr ag { s3 with heap:=s3.heap.push { cls:= .type "slice",data:= .fields #[vl,vu, .none] } } σ H3 x v vl vu l u s3.heap.objs.size Q I4 r1 (aE.IsSliceOf.new ..) pl pu q3;show av (aB X.prog X.w) X.A (subscriptTail e (.Slice lo hi none p2) v (.ref s3.heap.objs.size)) (EP X ag σ Q) X.xe { s3 with heap:=s3.heap.push { cls:= .type "slice",data:= .fields #[vl,vu, .none] } };exact tail_any (ops:=[.ref s3.heap.objs.size,v]) ht hT hg (by with_unfolding_all rfl)
def tp (xs:List V) (lo hi:Option Int):List V:=(xs.drop (HT.sIx xs.length 0 lo)).take (HT.sIx xs.length xs.length hi - HT.sIx xs.length 0 lo)
def HY (xs:List V) (lo hi:Option Int):(tp xs lo hi).length≤xs.length:=by
 unfold tp;rw[cU,cP];lia
def Vb (K:ao):V→Option Int→Option Int→Hp→VK→Prop:=λx lo hi H Q=>∃a xs,x= .ref a∧oY K H a xs∧
 ¬(HT.sIx xs.length 0 lo=0∧HT.sIx xs.length xs.length hi=xs.length)∧ ∀p,H p=none→Q (.ref p) (nG H p (.bW (tp xs lo hi)))
def Xl:um X (Vb X.K):=by
 intro ag s σ H x v vl vu lo hi sl Q I rx hs pl pu h;obtain⟨a,xs,rfl,hx,hw,q⟩:=h;cases rx;obtain⟨eH,r,ht,hz⟩:=I.tuple hx;have hlen:eH.toArray.size=xs.length:=by rw[bf];exact r.length.symm
 refine⟨"tuple",_,eX.lookup,ht.typeIs,?_⟩;refine HT.getItem_tuple_cut ht hs pl pu (by rw[hlen];exact hw) ?_ (by rw[hlen];exact hz);rw[hlen];refine⟨.ref s.heap.objs.size,_,I.laid (t':=s.toks) (o:= .bW (tp xs lo hi)) (λb ob q=>aO _ q) (aA _) ?_,rfl,q _ (I.cG.fresh (aA _))⟩;exact⟨aY (HY xs lo hi) hz,_,(r.drop (HT.sIx xs.length 0 lo)).take (HT.sIx xs.length xs.length hi - HT.sIx xs.length 0 lo),jG _ _⟩
def FJ (K:ao):R2:=λx y H Q=>∃a b xs ys,x= .ref a∧y= .ref b∧oY K H a xs∧oY K H b ys∧xs≠ []∧xs.length+ys.length≤sizeLine∧
 (ys=[]→Q (.ref a) H)∧(ys≠ []→ ∀p,H p=none→Q (.ref p) (nG H p (.bW (xs++ys))))
def mM.nil_iff (r:mM xs us):us=[]↔xs=[]:=by
 cases r with
 |nil=>simp
 |cons _ _=>simp
def tX:n_ X (ce .Add) (FJ X.K):=by
 intro ag s σ H x y v u Q I rx ry h;obtain⟨a,b,xs,ys,rfl,rfl,ha,hb,hx,hz,q1,q2⟩:=h;cases rx;cases ry;obtain⟨eH,r1,p1,_⟩:=I.tuple ha;obtain⟨its2,r2,p2,_⟩:=I.tuple hb;refine HT.cat_tup p1 p2 (λz=>hx (r1.nil_iff.mp z)) (λz=>⟨.ref a,H,I,rfl,q1 (r2.nil_iff.mp z)⟩) (λz=>?_) (by rw[←r1.length,←r2.length];exact hz);refine⟨.ref s.heap.objs.size,_,I.laid (t':=s.toks) (o:= .bW (xs++ys)) (λb ob q=>aO _ q) (aA _) ?_,rfl,q2 (λw=>z (r2.nil_iff.mpr w)) _ (I.cG.fresh (aA _))⟩;exact⟨by rw[bc];exact hz,_,r1.append r2,jG _ _⟩
def tw (n:Nat) (i:Int):Option Nat:=if 0≤i then(if i<n then aa i.toNat else none) else if -(n:Int)≤i then aa (i+n).toNat else none
def nC {α:Type}(xs:List α) (i:Int):Option α:=(tw xs.length i).bind λj=>xs[j]?
def ZD (h:tw n i=aa j):seqIndex? i n=aa j∧j<n∧ -(n:Int)≤i∧i<n:=by
 unfold tw at h;by_cases h0:0≤i
 ·rw[if_pos h0]at h;by_cases h1:i<n
  ·rw[if_pos h1]at h;have e:i.toNat=j:=aL h;exact⟨by rw[seqIndex_of h0 h1,e],by lia,by lia,h1⟩
  ·rw[if_neg h1]at h;cases h
 ·rw[if_neg h0]at h;by_cases h1: -(n:Int)≤i
  ·rw[if_pos h1]at h;have e:(i+n).toNat=j:=aL h;exact⟨by rw[seqIndex_neg (by lia) h1,e],by lia,h1,by lia⟩
  ·rw[if_neg h1]at h;cases h
def DX{α:Type}{xs:List α}{i:Int}{v:α}(h:nC xs i=aa v):∃j,seqIndex? i xs.length=aa j∧xs[j]? =aa v∧j<xs.length∧ -(xs.length:Int)≤i∧i<xs.length:=by
 unfold nC at h;cases e:tw xs.length i with
 |none=>rw[e]at h;cases h
 |some j=>
  rw[e]at h;obtain⟨h1,h2,h3,h4⟩:=ZD e;exact⟨j,h1,h,h2,h3,h4⟩
def GL{α:Type}{xs:List α}{j:Nat}{v:α}(h:xs[j]? =aa v):nC xs (j:Int)=aa v:=by
 have hj:j<xs.length:=(b8.mp h).1;have e:tw xs.length (j:Int)=aa j:=by
  unfold tw;rw[if_pos (by lia),if_pos (by lia)];simp
 unfold nC;rw[e];exact h
def Cc (b:Expr):Prop:=∀o i,subscripted b false o i=operate [o,i] (eA o i)
def tW (X:Cx) (r:R2):Prop:=
 ∀(value slice:Expr) (ag:List (ai×aG)) (s:am) (σ:St) (H:Hp) (x y:V) (v u:aj) (Q:VK),my X ag σ H s→mV x v→mV y u→r x y H Q→
  subscripted slice false v u=operate [v,u] (eA v u)→av (aB X.prog X.w) X.A (subscriptTail value slice v u) (EP X ag σ Q) X.xe s
def sO (X:Cx) (id:String) (r:V→List V→Hp→VK→Prop):Prop:=
 ∀(ag:List (ai×aG)) (s:am) (σ:St) (H:Hp) (x:V) (xs:List V) (v:aj) (us:List aj) (Q:VK),my X ag σ H s→mV x v→mM xs us→r x xs H Q→
  av (aB X.prog X.w) X.A (call (.builtin id) (v::us)) (EP X ag σ Q) X.xe s
section
def tW.or{r r':R2}(h:tW X r) (h':tW X r'):tW X (λx y H Q=>r x y H Q∨r' x y H Q):=by
 intro value slice ag s σ H x y v u Q I rx ry q hs;obtain q |q:=q
 ·exact h value slice ag s σ H x y v u Q I rx ry q hs
 ·exact h' value slice ag s σ H x y v u Q I rx ry q hs
def sO.or{id:String}{r r':V→List V→Hp→VK→Prop}(h:sO X id r) (h':sO X id r'):sO X id (λx xs H Q=>r x xs H Q∨r' x xs H Q):=by
 intro ag s σ H x xs v us Q I rx rs q;obtain q |q:=q
 ·exact h ag s σ H x xs v us Q I rx rs q
 ·exact h' ag s σ H x xs v us Q I rx rs q
def Ol (hr:tW X r) (ha:PE X a ta) (hb:PE X b tb) (hs:Cc b):PE X (.Subscript a b pos) (Aw r ta tb):=by
 intro ag s σ H Q I h;exact Subscript_ (El ha hb I h λv u s2 x y H2 I2 rx ry q=>hr a b ag s2 σ H2 x y v u Q I2 rx ry q (hs _ _))
def Oy (K:ao):R2:=λx y H Q=>∃p xs i v,x= .ref p∧y= .int i∧oF K H p xs∧nC xs i=aa v∧Q v H
def KI (K:ao):R2:=λx y H Q=>∃p xs i v,x= .ref p∧y= .int i∧oY K H p xs∧nC xs i=aa v∧Q v H
def NT:R2:=λx y H Q=>∃z i c,x= .str z∧y= .int i∧z.length≤sizeLine∧nC z.cps.toList i=aa c∧Q (.str ⟨#[c]⟩) H
def uf:tW X (Oy X.K):=by
 intro value slice ag s σ H x y v u Q I rx ry h hs;obtain⟨p,xs,i,z,rfl,rfl,hq,he,q⟩:=h;cases rx;obtain⟨t,rfl⟩:=ry;obtain⟨eH,r,pl,hz⟩:=I.list hq;obtain⟨j,h1,h2,h3,h4,h5⟩:=DX he;obtain⟨w,ew,rw'⟩:=r.get h2;have hl:=r.length;have hn:=wO;have fin:EP X ag σ Q w s:=⟨z,H,I,rw',q⟩;by_cases h0:0≤i
 ·have hj:i.toNat=j:=by
   rw[seqIndex_of h0 h5]at h1;exact aL h1
  exact item_listR pl.isList h0 (by lia) (by rw[hj];simpa using ew) fin hs
 ·have hj:(i+(eH.toArray.size:Int)).toNat=j:=by
   rw[seqIndex_neg (by lia) h4]at h1;rw[bf,←hl];exact aL h1
  exact kR (x:=w) pl.isList.typeIs mo.lookup
   (wpAny_getItem_list_neg (Q:=λr s'=>r=w∧EP X ag σ Q r s') pl.isList (by lia) (by rw[bf]<;>lia) (by lia) (by rw[hj];simpa using ew) ⟨rfl,fin⟩) hs
def wm:tW X (KI X.K):=by
 intro value slice ag s σ H x y v u Q I rx ry h hs;obtain⟨p,xs,i,z,rfl,rfl,hq,he,q⟩:=h;cases rx;obtain⟨t,rfl⟩:=ry;obtain⟨eH,r,pl,hz⟩:=I.tuple hq;obtain⟨j,h1,h2,h3,h4,h5⟩:=DX he;obtain⟨w,ew,rw'⟩:=r.get h2;have hl:=r.length;have hn:=wO;have fin:EP X ag σ Q w s:=⟨z,H,I,rw',q⟩;exact kR (x:=w) pl.typeIs slot_tuple_getitem.lookup
  (getItem_tuple (j:=j) (Q:=λr s'=>r=w∧EP X ag σ Q r s') pl (by lia) (by lia) (by rw[bf,←hl];exact h1) (by simpa using ew) ⟨rfl,fin⟩) hs
def RS:tW X NT:=by
 intro value slice ag s σ H x y v u Q I rx ry h hs;obtain⟨z,i,c,rfl,rfl,hz,he,q⟩:=h;obtain⟨t,rfl⟩:=rx;obtain⟨t',rfl⟩:=ry;obtain⟨j,h1,h2,h3,h4,h5⟩:=DX he;have hl:z.cps.toList.length=z.length:=by simp [io]
 rw[hl]at h1 h4 h5;have hn:=wO;exact tail_any (jJ s z t) slot_str_getitem.lookup (getItem_str (c:=c) (by
  have e1:decide (i< -(2 ^ 63:Int))=false:=decide_eq_false (by lia);have e2:decide (i≥2 ^ 63)=false:=decide_eq_false (by lia);rw[e1,e2,kB]) (by rw[h1];simpa using h2) ⟨.str ⟨#[c]⟩,H,I.tok _,⟨_,rfl⟩,q⟩) hs
def Ni (K:ao):R2:=λx y H Q=>Oy K x y H Q∨KI K x y H Q∨NT x y H Q
def Oe:tW X (Ni X.K):=uf.or (wm.or RS)
def UB (lo hi:Option Int) (n:Nat):(d_ lo hi none n).1=((HT.sIx n 0 lo:Nat):Int)∧(d_ lo hi none n).2.1=((HT.sIx n n hi:Nat):Int)∧(d_ lo hi none n).2.2=1:=by
 refine⟨?_,?_,rfl⟩
 ·cases lo with
  |none=>simp [d_,HT.sIx]
  |some i=>
   simp only[d_,HT.sIx,j6,show(1:Int) > 0 by decide,if_true]
   by_cases h:i<0
   ·simp only[h,if_true]<;>lia
   ·simp only[h,if_false]<;>lia
 ·cases hi with
  |none=>simp [d_,HT.sIx]
  |some i=>
   simp only[d_,HT.sIx,j6,show(1:Int) > 0 by decide,if_true]
   by_cases h:i<0
   ·simp only[h,if_true]<;>lia
   ·simp only[h,if_false]<;>lia
def Vk (eH:List aj) (lo hi:Option Int):slicePick eH.toArray lo hi none=((eH.drop (HT.sIx eH.length 0 lo)).take (HT.sIx eH.length eH.length hi - HT.sIx eH.length 0 lo)).toArray:=by
 obtain⟨h1,h2,h3⟩:=UB lo hi eH.toArray.size;unfold slicePick;rw[h1,h2,h3];simp only[iN,jo,bf]<;>rfl
def U9 (K:ao):V→Option Int→Option Int→Hp→VK→Prop:=λx lo hi H Q=>∃a xs,x= .ref a∧oF K H a xs∧ ∀p,H p=none→Q (.ref p) (nG H p (.bP (tp xs lo hi)))
def Od:um X (U9 X.K):=by
 intro ag s σ H x v vl vu lo hi sl Q I rx hs pl pu h;obtain⟨a,xs,rfl,hx,q⟩:=h;cases rx;obtain⟨eH,r,ht,hz⟩:=I.list hx;have hlen:=r.length;refine⟨"list",_,mo.lookup,ht.isList.typeIs,?_⟩;refine wpAny_getItem_list_slice ht.isList hs pl pu .none (by simp) ?_ (by rw[bf]<;>lia);rw[Vk,←hlen];refine⟨.ref s.heap.objs.size,_,I.laid (t':=s.toks) (o:= .bP (tp xs lo hi)) (λb ob q=>aO _ q) (aA _) ?_,rfl,q _ (I.cG.fresh (aA _))⟩;exact⟨aY (HY xs lo hi) hz,_,0,(r.drop (HT.sIx xs.length 0 lo)).take (HT.sIx xs.length xs.length hi - HT.sIx xs.length 0 lo),bI _ rfl⟩
def qr:nL X (.builtin "len") (λxs H Q=>∃p ys,xs=[.ref p]∧(oF X.K H p ys∨oY X.K H p ys)∧Q (.int ys.length) H):=by
 intro ag s σ H xs us Q I r h;obtain⟨p,ys,rfl,hq,q⟩:=h;obtain⟨u,rfl,rx⟩:=tY r;cases rx;have hn:=wO;obtain hq |hq:=hq
 ·obtain⟨eH,r',pl,hz⟩:=I.list hq;have hlen:=r'.length;exact Calls.call_len_list pl.isList (by simp only[bf]<;>lia) ⟨.int ys.length,H,I.tok _,⟨s.toks+1,by rw[bf,hlen]⟩,q⟩
 ·obtain⟨eH,r',pl,hz⟩:=I.tuple hq;have hlen:=r'.length;exact len_tuple pl (by simp only[bf]<;>lia) ⟨.int ys.length,H,I.tok _,⟨s.toks+1,by rw[bf,hlen]⟩,q⟩
def Y3:nL X (.builtin "len") (λxs H Q=>∃z,xs=[.str z]∧z.length≤sizeLine∧Q (.int z.length) H):=by
 intro ag s σ H xs us Q I r h;obtain⟨z,rfl,hz,q⟩:=h;obtain⟨u,rfl,t,rfl⟩:=tY r;have hn:=wO;exact len_str (by lia) ⟨.int z.length,H,I.tok _,⟨_,rfl⟩,q⟩
def nL.or{f:aj}{r r':List V→Hp→VK→Prop}(h:nL X f r) (h':nL X f r'):nL X f (λxs H Q=>r xs H Q∨r' xs H Q):=by
 intro ag s σ H xs us Q I rs q;obtain q |q:=q
 ·exact h ag s σ H xs us Q I rs q
 ·exact h' ag s σ H xs us Q I rs q
def XZ:nL X (.type "list") (λxs H Q=>∃p ys,xs=[.ref p]∧(oF X.K H p ys∨oY X.K H p ys)∧ ∀l,H l=none→Q (.ref l) (nG H l (.bP ys))):=by
 intro ag s σ H xs us Q I r h;obtain⟨p,ys,rfl,hq,q⟩:=h;obtain⟨u,rfl,rx⟩:=tY r;cases rx;have fin:∀(eH:List aj),mM ys eH→ys.length≤sizeLine→ ∀(h':aE) (c':Nat),(∀b o',s.heap.get? b=aa o'→h'.get? b=aa o')→
   h'.get? s.heap.objs.size=aa { cls:= .type "list",dict:=none,data:= .seq eH.toArray c',slots:= #[] }→EP X ag σ Q (.ref s.heap.objs.size) { s with heap:=h' }:=λeH r' hz h' c' kp e=>
  ⟨.ref s.heap.objs.size,_,I.laid (t':=s.toks) kp (aA _) (show nc X.prog X.w _ h' _ (.bP ys) from⟨hz,eH,c',r',e⟩),rfl,q _ (I.cG.fresh (aA _))⟩
 obtain hq |hq:=hq
 ·obtain⟨eH,r',pl,hz⟩:=I.list hq;have hlen:=r'.length;obtain⟨o,ho,hc,n,hd⟩:=pl.isList;exact call_list_seq p (.inl rfl) ho hc hd (λh' c' kp e=>fin eH r' hz h' c' kp e) (by simp only[bf]<;>lia)
 ·obtain⟨eH,r',pl,hz⟩:=I.tuple hq;have hlen:=r'.length;obtain⟨o,ho,hc,n,hd⟩:=pl;exact call_list_seq p (.inr rfl) ho hc hd (λh' c' kp e=>fin eH r' hz h' c' kp e) (by simp only[bf]<;>lia)
def NI:nL X (.type "tuple") (λxs H Q=>∃p ys,xs=[.ref p]∧((oF X.K H p ys∧ ∀l,H l=none→Q (.ref l) (nG H l (.bW ys)))∨(oY X.K H p ys∧Q (.ref p) H))):=by
 intro ag s σ H xs us Q I r h;obtain⟨p,ys,rfl,h⟩:=h;obtain⟨u,rfl,rx⟩:=tY r;cases rx;obtain ⟨hq,q⟩ |⟨hq,q⟩:=h
 ·obtain⟨eH,r',pl,hz⟩:=I.list hq;have hlen:=r'.length;refine call_tuple_list pl.isList (λh' kp=>?_) (by simp only[bf]<;>lia);have I1:my X ag σ H { s with heap:=h' }:=I.kept (t':=s.toks) kp;have I2:my X ag σ (nG H h'.objs.size (.bW ys)) { s with heap:=h'.push { cls:= .type "tuple",data:= .seq eH.toArray } }:=
   I1.laid (t':=s.toks) (λb o e=>aO _ e) (aA _) (show nc X.prog X.w _ _ _ (.bW ys) from⟨hz,eH,r',jG _ _⟩)
  exact⟨.ref h'.objs.size,_,I2,rfl,q _ (I1.cG.fresh (aA _))⟩
 ·obtain⟨eH,r',pl,hz⟩:=I.tuple hq;exact call_tuple_same pl ⟨.ref p,H,I,rfl,q⟩
def A6 (K:ao) (T:String) (x:V) (H:Hp):Prop:=match x with
 | .str _=>T= "str"
 | .int _=>T= "int"
 | .ref p=>(T= "list" ∧ ∃xs,oF K H p xs)∨(T= "tuple" ∧ ∃o,K.lookup p=aa o∧o.cls= .type "tuple" ∧o.dict=none)∨
   (T= "dict" ∧((∃gN,H p=aa (.dK gN))∨ ∃gN,H p=aa (.dT gN)))∨(T= "set" ∧ ∃S n,H p=aa (.set S n))
 |_=>False
def Mz (I:my X ag σ H s) (r:mV x v) (ty:A6 X.K T x H) :
  s.TypeIs v T∧ ∀a,v= .ref a→ ∃ob,s.heap.get? a=aa ob∧ob.dict=none:=by
 cases x with
 |str z=>
  obtain⟨t,rfl⟩:=r;cases(show T= "str" from ty);exact⟨jJ s z t,λ_ e=>nomatch e⟩
 |int i=>
  obtain⟨t,rfl⟩:=r;cases(show T= "int" from ty);exact⟨jA s i t,λ_ e=>nomatch e⟩
 |ref p=>
  cases r;obtain ⟨rfl,xs,hq⟩ |⟨rfl,o,hk,hc,hd⟩ |⟨rfl,hk⟩ |⟨rfl,S,n,hk⟩:=ty
  ·obtain⟨eH,_,pl,_⟩:=I.list hq;refine⟨pl.isList.typeIs,λa e=>?_⟩;cases e;obtain⟨o,n,e,c,hd,_⟩:=pl;exact⟨o,e,hd⟩
  ·refine⟨⟨o,I.kIn p o hk,hc⟩,λa e=>?_⟩;cases e;exact⟨o,I.kIn _ o hk,hd⟩
  ·have z:∃o,s.heap.get? p=aa o∧o.ExactDict:=by
    obtain ⟨gN,hk⟩ |⟨gN,hk⟩:=hk
    ·obtain⟨_,_,_,_,o,_,_,e,ex,_⟩:=I.cG p _ hk;exact⟨o,e,ex⟩
    ·obtain⟨_,_,_,_,o,_,_,e,ex,_⟩:=I.cG p _ hk;exact⟨o,e,ex⟩
   obtain⟨o,e,ex⟩:=z;refine⟨⟨o,e,ex.1⟩,λa e2=>?_⟩;cases e2;exact⟨o,e,ex.2.1⟩
  ·obtain⟨o,_,_,_,e,ex,_⟩:=I.cG p _ hk;refine⟨⟨o,e,ex.1⟩,λa e2=>?_⟩;cases e2;exact⟨o,e,ex.2.1⟩
 |_=>exact cE ty
def Wd (K:ao) (T:String) (r:V→List V→Hp→VK→Prop) (to:TE):TE:=λσ H Q=>to σ H λx H1=>A6 K T x H1∧r x [] H1 Q
def Ur (K:ao) (T:String) (r:V→List V→Hp→VK→Prop) (to:TE) (t:TA):TE:=λσ H Q=>to σ H λx H1=>A6 K T x H1∧t σ H1 λxs H2=>r x xs H2 Q
variable {o e:Expr}{es:List Expr}{to:TE}{t:TA}{name:ah}{apos cpos:bw}{T id:String}{r:V→List V→Hp→VK→Prop}
def TU (pa:fI T) (slot:Slot T name id) (hty:fA (.builtin id)=pure (.type "method_descriptor")) (hm:sO X id r) (ho:PE X o to)
  (hbase:cJ o name X.env (aH o X.env)=aH o X.env:=by rfl) (hline:(apos.endLine == cpos.line)=true:=by rfl):PE X (.Call (.Attribute o name apos) [] [] cpos) (Wd X.K T r to):=by
 intro ag s σ H Q I h;refine wpAny_Call_method0_late hbase hline (nE (ho ag s σ H _ I h) λv s1 ⟨x,H1,I1,r1,ty,q1⟩=>?_);obtain⟨h1,h2⟩:=Mz I1 r1 ty;exact⟨T,id,pa,slot,hty,h1,h2,lZ rfl (PySem.evalArgs_none (hm ag s1 σ H1 x [] v [] Q I1 r1 .nil q1))⟩
def K0 (pa:fI T) (slot:Slot T name id) (hty:fA (.builtin id)=pure (.type "method_descriptor")) (hm:sO X id r) (ho:PE X o to) (ha:PA X (e::es) t)
  (hbase:cJ o name X.env (aH o X.env)=aH o X.env:=by rfl)
  (hfew:((aZ cpos (ax (e::es) X.env)).all (λx=> !x.1)&&(dv cpos (dw [] X.env)).all (λx=>x.1.isSome)
   &&decide ((e::es).length+([]:List bZ).length+(if([]:List bZ).isEmpty then 0 else 1)<30))=true:=by rfl)
  (hline:(apos.endLine == cpos.line)=true:=by rfl) (hs:ax (e::es) X.env=(false,aH e X.env)::ax es X.env:=by rfl) (hplain:(aZ cpos (ax es X.env)).any (·.1)=false:=by rfl) :
  PE X (.Call (.Attribute o name apos) (e::es) [] cpos) (Ur X.K T r to t):=by
 intro ag s σ H Q I h;refine wpAny_Call_method_late hbase hfew hline rfl (nE (ho ag s σ H _ I h) λv s1 ⟨x,H1,I1,r1,ty,q1⟩=>?_);obtain⟨h1,h2⟩:=Mz I1 r1 ty;refine⟨T,id,pa,slot,hty,h1,h2,?_⟩;have hA:=ha cpos ag s1 σ H1 _ I1 q1;rw[hs]at hA⊢;refine lZ (by show(false || (aZ cpos (ax es X.env)).any (·.1))=false;rw[hplain]<;>rfl) (lJ ?_)
 exact nE hA λus s2 ⟨vs,H2,I2,r2,q2⟩=>hm ag s2 σ H2 x vs v us Q I2 r1 r2 q2
end
def Cf (X:Cx) (id:String) (r:V→List V→Hp→VK→Prop):Prop:=
 ∀(ag:List (ai×aG)) (s:am) (σ:St) (H:Hp) (x:V) (xs:List V) (v:aj) (us:List aj) (Q:VK),my X ag σ H s→mV x v→mM xs us→r x xs H Q→
  av (aB X.prog X.w) X.A (call (.builtin id) (v::us)) (EP X ag σ Q) X.xe s
theorem mM.one:∀{x:V}{us:List aj},mM [x] us→ ∃u,us=[u]∧mV x u
 |_,_, .cons r .nil=>⟨_,rfl,r⟩
theorem mM.rep (h:mM xs us):∀k:Nat,mM (bn k xs).flatten (bn k us).flatten
 |0=> .nil
 |k+1=>by
  rw[cR,cR,d5,d5];exact mM.append h (mM.rep h k)
theorem Hv (eH:List aj):∀(k:Nat) (acc:List aj),
  iw (λx1 x2=>x1++x2) acc.toArray (bn k eH.toArray)=(acc++(bn k eH).flatten).toArray
 |0,acc=>by simp
 |k+1,acc=>by
  have e:acc.toArray++eH.toArray=(acc++eH).toArray:=by simp
  have e2:(acc++eH)++(bn k eH).flatten=acc++(bn (k+1) eH).flatten:=by
   rw[cR,d5,bD]
  rw[←e2,←Hv eH k (acc++eH),←e,cR,eZ]
def my.lset{eH its':List aj}{n:Nat}{f:Array aj→Array aj}{t':Nat}(I:my X ag σ H s) (hH:H l=aa (.bP xs))
  (e:s.heap.get? l=aa { cls:= .type "list",data:= .seq eH.toArray n }) (hf:f eH.toArray=its'.toArray) (hv:mM ys its') (hz:ys.length≤sizeLine) :
  my X ag σ (nG H l (.bP ys)) { s with heap:=s.heap.update l (jI f),toks:=t' }:=by
 have q:=PySem.IsL.update e f;rw[hf]at q;refine I.write (x:=l) (e:=l) (by rw[hH];exact trivial) (.inl rfl) (λb' u hb hu=>(aE.get?_update_other s.heap (jI f) (bz hb)).trans hu) ⟨_,q⟩ ?_;exact⟨hz,its',_,hv,q⟩
def my.lnew{t':Nat}(I:my X ag σ H s) (hv:mM ys eH) (hz:ys.length≤sizeLine) :
  my X ag σ (nG H s.heap.objs.size (.bP ys)) { s with heap:=s.heap.push { cls:= .type "list",data:= .seq eH.toArray },toks:=t' }:=
 I.laid (λ_ _ q=>aO _ q) (aA _) ⟨hz,eH,0,hv,bI _ rfl⟩
def my.fresh (I:my X ag σ H s):H s.heap.objs.size=none:=I.cG.fresh (aA _)
def my.lstM (I:my X ag σ H s) (hH:H l=aa (.bP xs)):xs.length≤sizeLine∧ ∃(eH:List aj) (n:Nat),mM xs eH∧xs.length=eH.length∧s.heap.get? l=aa { cls:= .type "list",data:= .seq eH.toArray n }:=by
 obtain⟨z,eH,n,r,e⟩:=I.cG l _ hH;exact⟨z,eH,n,r,r.length,e⟩
def EF (h:n≤sizeLine):fi n=false:=by
 unfold fi;exact decide_eq_false (by lia)
def Oo:V→List V→Hp→VK→Prop:=λx vs H Q=>∃l xs y,x= .ref l∧vs=[y]∧H l=aa (.bP xs)∧xs.length<sizeLine∧Q .ca (nG H l (.bP (xs++[y])))
def Hk:Cf X "list.append" Oo:=by
 intro ag s σ H x vs v us Q I rx rv h;obtain⟨l,xs,y,rfl,rfl,hH,hz,q⟩:=h;cases rx;obtain⟨u,rfl,ru⟩:=rv.one;obtain⟨z,eH,n,r,hl,e⟩:=I.lstM hH;refine fy F.slot_list_append ⟨_,e,rfl⟩ F.entry_list_append (F.args_list_append_2 _ _) (PySem.list_append l eH.toArray n u (by rw[bf];lia)) ⟨e,?_⟩;refine⟨.ca,_,I.lset (its':=eH++[u]) hH e (by simp) (r.append (.cons ru .nil)) ?_,rfl,q⟩;rw[bc,cB];lia
def Fn:V→List V→Hp→VK→Prop:=λx vs H Q=>∃l b xs zs,x= .ref l∧vs=[.ref b]∧H l=aa (.bP xs)∧H b=aa (.bP zs)∧xs.length+zs.length≤sizeLine∧Q .ca (nG H l (.bP (xs++zs)))
def Lr:Cf X "list.extend" Fn:=by
 intro ag s σ H x vs v us Q I rx rv h;obtain⟨l,b,xs,zs,rfl,rfl,hH,hB,hz,q⟩:=h;cases rx;obtain⟨u,rfl,ru⟩:=rv.one;cases ru;obtain⟨z,eH,n,r,hl,e⟩:=I.lstM hH;obtain⟨z2,its2,n2,r2,hl2,e2⟩:=I.lstM hB;have hsz:eH.toArray.size+its2.toArray.size≤sizeLine:=by rw[bf,bf];lia
 have hlong:¬(!eH.toArray.isEmpty&&fi (eH.toArray.size+its2.toArray.size))=true:=by
  rw[EF hsz,gh];exact cX
 refine fy kH ⟨_,e,rfl⟩ kM (lH _ _)
  (AutoSeq1.list_extend_list_list_0 l eH.toArray n b its2.toArray n2 hlong (by rw[bf];lia) (by lia)) ⟨e,e2,?_⟩
 refine⟨.ca,_,I.lset (its':=eH++its2) hH e (by simp) (r.append r2) ?_,rfl,q⟩;rw[bc];lia
def FM:R2:=λx y H Q=>∃l b xs zs,x= .ref l∧y= .ref b∧H l=aa (.bP xs)∧H b=aa (.bP zs)∧xs.length+zs.length≤sizeLine∧ ∀p,H p=none→Q (.ref p) (nG H p (.bP (xs++zs)))
def BD:n_ X (ce .Add) FM:=by
 intro ag s σ H x y v u Q I rx ry h;obtain⟨l,b,xs,zs,rfl,rfl,hH,hB,hz,q⟩:=h;cases rx;cases ry;obtain⟨z,eH,n,r,hl,e⟩:=I.lstM hH;obtain⟨z2,its2,n2,r2,hl2,e2⟩:=I.lstM hB;refine PySem.P.add_list e e2 ?_ (by rw[bf,bf];lia);have ea:eH.toArray++its2.toArray=(eH++its2).toArray:=by simp
 rw[ea];exact⟨.ref _,_,I.lnew (t':=s.toks) (r.append r2) (by rw[bc];lia),rfl,q _ I.fresh⟩
def Zg:R2:=λx y H Q=>∃l k xs,x= .ref l∧y= .int k∧H l=aa (.bP xs)∧ -(2 ^ 63)≤k∧k<2 ^ 63∧xs.length*k.toNat≤sizeLine∧
 ∀p,H p=none→Q (.ref p) (nG H p (.bP (bn k.toNat xs).flatten))
def PZ{α:Type}(xs:List α) (k:Nat):(bn k xs).flatten.length=k*xs.length:=by
 induction k with
 |zero=>simp
 |succ k ih=>rw[cR,d5,bc,ih,Nat.succ_mul,eE]
def UU:n_ X (ce .Mult) Zg:=by
 intro ag s σ H x y v u Q I rx ry h;obtain⟨l,k,xs,rfl,rfl,hH,h1,h2,hz,q⟩:=h;cases rx;obtain⟨t,rfl⟩:=ry;obtain⟨z,eH,n,r,hl,e⟩:=I.lstM hH;have hlen:eH.toArray.size*k.toNat≤sizeLine:=by rw[bf,←hl];exact hz
 have hcap:¬eH.toArray.size*k.toNat > (2 ^ 63 - 1) / 8:=by
  have:(sizeLine:Nat)≤(2 ^ 63 - 1) / 8:=by decide
  lia
 have hfit:¬(!Builtin.List.listFitsIndex k)=true:=by
  rw[fitsIndex_both h1 h2];exact cX
 have hlong:¬fi (eH.toArray.size*k.toNat)=true:=by
  rw[EF hlen];exact cX
 have hnew:iw (λx1 x2=>x1++x2) #[] (bn (if eH.toArray.isEmpty=true then 0 else k.toNat) eH.toArray)=(bn k.toNat eH).flatten.toArray:=by
  have f0:∀m:Nat,iw (λx1 x2=>x1++x2) #[] (bn m eH.toArray)=(bn m eH).flatten.toArray:=λm=>by
   have:=Hv eH m [];rw[aX]at this;exact this
  rw[f0];cases eH with
  |nil=>simp
  |cons a r'=>rw[if_neg (by simp)]
 refine wpAny_binaryOp_repeat_ref (T:= "list") (U:= "int") (by decide) ⟨_,e,rfl⟩ (λs'=>jA s' k t) noFill_list_mul F.fills_int_mul kU repeat_list F.slot_int_index.lookup
  (fy kU (jA s k t) F.entry_int_rmul (F.args_int_rmul_2 _ _) (int___rmul___int_list k t l eH.toArray n)
   ⟨e,rfl,⟨_,e,rfl⟩,fy F.slot_list_mul ⟨_,e,rfl⟩ F.entry_list_mul (F.args_list_mul_2 _ _) (AutoListH.list___mul___list_int_3 l eH.toArray n k t hfit hcap hlong) ⟨e,?_⟩⟩)
 rw[hnew];exact⟨.ref _,_,I.lnew (t':=s.toks) (r.rep k.toNat) (by rw[PZ,Nat.mul_comm];exact hz),rfl,q _ I.fresh⟩
end L2
namespace Att
open PySem PySem.W PySem.Calls PyProof.Rows
def VU:∀(ns:List Int) (vs:List aj),WellAll P h vs (ns.map WData.int)→gc vs ns:=by
 intro ns
 induction ns with
 |nil=>
  intro vs w;rw[cy]at w;cases w;exact .nil
 |cons n ns ih=>
  intro vs w;rw[aC]at w;cases w with
  |cons a b=>
   cases a;exact .cons _ _ (ih _ b)
def Zu{l:OpenLaw}{n:Nat}(hn:l.most=aa n) {P:Params}{h:aE}{args:List WData}{vals:List aj}
  (hpre:l.row.toRowW.claim.pre args=true) (hwl:WellAll P h vals args) :
  ∃a vs ns,vals=[bM a]∧args=[WData.list (ns.map WData.int)]∧h.get? a=aa { cls:= .type "list",data:= .seq vs.toArray }∧gc vs ns∧ns.length≤n:=by
 have hsh:WShape.hasAll [] args [.list .int]=true:=(pre_splitW hpre).1;have hc:l.pre.holds [] { args:=args }=true:=(pre_splitW hpre).2;obtain⟨d,r,rfl,h1,h2⟩:=hasAllW_cons hsh;obtain rfl:=hasAllW_nil h2;obtain⟨xs,rfl,h3⟩:=hasW_list h1;obtain⟨ns,rfl⟩:=items_int h3;have hlen:ns.length≤n:=by
  unfold OpenLaw.pre at hc;have h4:(WTm.not (.lt (.lit (.int (n:Int))) (.len (.arg 0)))).holds [] { args:=[.list (ns.map .int)] }=true:=by
   have h4:=(holds_andW hc).1;rw[hn]at h4;exact h4
  have h5:=condW_of h4 (w_not (w_lt w_lit (w_len_list (w_arg rfl))));rw[ay]at h5;refine ko λq=>?_;have q':(n:Int)<((ns.length:Nat):Int):=by lia
  first
   | (rw[decide_eq_true q']at h5;exact absurd h5 (by decide))
   | (simp at h5;lia)
 cases hwl with
 |cons w1 w2=>
  cases w2;cases w1 with
  |list ho hall=>exact⟨_,_,ns,rfl,rfl,ho,VU ns _ hall,hlen⟩
def RU (l:OpenLaw) (args:List WData):l.row.toRowW.claim.post args (.bool true) args=true:=
 postW_of (r:=l.row.toRowW) (X:=(true == true))
  (show WShape.has [] (.bool true) .bool=true by first |rfl |decide |simp [WShape.has,WShape.arms,WShape.armsAll])
  (show(WTm.eq .res (.lit (.bool true))).value [] { args:=args,res:=aa (.bool true),after:=args }=aa (.bool (true == true)) from w_eq_bool (w_res rfl) w_lit) rfl
def attach_call{l:OpenLaw}{n:Nat}{q:bi}{loose:List ah}{XP:(ah→Option aj)→aE→Prop}{YP:aR→aE→Prop}{d:DefRec}
  (hn:l.most=aa n) (hdf:d.params.defaults=[])
  (call:∀(w:aR) (s₀ s₁:am) (mg mb:ah→Option aj) (fa:ai) (o:aG) (pm cd doc:aj) (a:ai) (vs:List aj) (ns:List Int),
   Ground q loose [] XP w s₀ mg mb s₁.heap→YP w s₁.heap→
   s₁.heap.get? fa=aa o→o.data= .func (docDef d.name d.params d.body d.scope pm cd doc)→s₁.heap.CodeRec cd d.name→mg d.name=aa (.ref fa)→
   s₁.heap.get? a=aa { cls:= .type "list",data:= .seq vs.toArray }→gc vs ns→ns.length≤n→s₁.gens= #[]→
   dY (aB l.prog w) dX (.call (.ref fa) ⟨[.ref a],[]⟩) (λr s'=>r= .ok (.ret (.bool true))∧OldK s₁.heap s'.heap∧s'.os=s₁.os∧cc s'.gens) s₁) :
  WalkO q loose XP YP l.row.toRowW d [] (λf vs=>jm f vs):=by
 intro w s₀ s₁ mg mb G Y fa o pm cd doc dV kV ho hd hcd hD hmg hg args vals as hpre hlay hrd hwl hlo;obtain rfl:dV= .none:=Dflts.none hD hdf;obtain rfl:kV= .none:=Dflts.noKw hD;obtain⟨a,vs,ns,rfl,rfl,hobj,hints,hlen⟩:=Zu hn hpre hwl;refine enter_call (i0 (call w s₀ s₁ mg mb fa o pm cd doc a vs ns G Y ho (fd_plain hd) hcd hmg hobj hints hlen hg) λr s' hq=>?_);obtain⟨rfl,h2,h3,h4⟩:=hq;exact⟨.inl ⟨.bool true, .bool true,[],rfl,λ_=>rfl, .bool true,RU l _,λ_=>⟨kq.nil,λ_ hm=>(nomatch hm)⟩⟩,h2,h3,h4⟩
end Att
namespace L2
open PySem PySem.Spec PyProof.Rows
theorem ND:∀{vs:List aj}{ns:List Int},gc vs ns→mM (ns.map V.int) vs
 |_,_, .nil=> .nil
 |_,_, .cons n t h=> .cons ⟨t,rfl⟩ (ND h)
def CN (H:Hp):Prop:=∀b,H b=none∨ ∃o xs,H b=aa (.frz o (.bP xs))
def P2{K:ao}{mg mb:ah→Option aj} 
  (KX:K.In s₁.heap) (hns:s₁.heap.Ns bj mg) (hb:s₁.heap.Ns ip mb) (hbb:∀x:ah,x≠ "__name__" →mb x=cD x) (hlim:s₁.heap.NoLimit) (hg:s₁.gens= #[])
  (ha:s₁.heap.get? a=aa { cls:= .type "list",data:= .seq vs.toArray }) (hi:gc vs ns) (hl:ns.length≤sizeLine) (hr:oj k dX)
  (F:∀base:aE,K.In base→base.Ns bj mg→oO P w K mg base CX k fa fd [x] sp) (hbind:∀(s:am) (u:aj),eR s fd ⟨[u],[]⟩ [(x,u)])
  (hsp:∀H:Hp,CN H→oF K H a (ns.map V.int)→sp [.ref a] H (λv _=>v= .bl true) λ_ _ _=>False)
  (hCX:∀H e s',CX [] H s₁ (λ_ _ _=>False) e s'→False) :
  dY (aB P w) dX (.call (.ref fa) ⟨[.ref a],[]⟩) (λr s'=>r= .ok (.ret (.bool true))∧OldK s₁.heap s'.heap∧s'.os=s₁.os∧cc s'.gens) s₁:=by
 have rv:=ND hi;have lenV:=hi.length;have core:∀H:Hp,CN H→oF K H a (ns.map V.int)→nZ P w H s₁.heap→(∀b,H b≠none→b=a)→(H a≠none→K.lookup a=none)→
   dY (aB P w) dX (.call (.ref fa) ⟨[.ref a],[]⟩) (λr s'=>r= .ok (.ret (.bool true))∧OldK s₁.heap s'.heap∧s'.os=s₁.os∧cc s'.gens) s₁:=by
  intro H hO hS cG hA hK;have base_of:∀{b:ai}{o:aG},s₁.heap.get? b=aa o→H b=none→(t5 s₁.heap H).get? b=aa o:=λe n=>YO e n;have noA:∀{b:ai}{o:aG}{es:Array DictEntry}{ep:Nat},s₁.heap.get? b=aa o→o.data= .dict es ep→H b=none:=λ{b o es ep} e d=>by
   cases q:H b with
   |none=>rfl
   |some u=>
    have e':b=a:=hA b (by rw[q];simp);subst e';rw[ha]at e;cases e;have d':Data.seq vs.toArray _=Data.dict es ep:=d;cases d'
  have nsK:∀{b:ai}{m:ah→Option aj},s₁.heap.Ns b m→(t5 s₁.heap H).Ns b m:=λ{b m} ⟨o,es,ep,e,d,r⟩=>⟨o,es,ep,base_of e (noA e d),d,r⟩;have hKb:K.In (t5 s₁.heap H):=λb o e=>base_of (KX b o e) (by
   cases q:H b with
   |none=>rfl
   |some u=>
    have e':b=a:=hA b (by rw[q];simp);subst e';rw[hK (by rw[q];simp)]at e;cases e)
  have hM:Mod K mg (t5 s₁.heap H):=⟨hKb,nsK hns,⟨mb,nsK hb,hbb⟩,let ⟨mc,h1,h2⟩:=hlim;⟨mc,nsK h1,h2⟩⟩;have e0:sN P w K mg (t5 s₁.heap H) dX [] s₁ H:=⟨rfl,hM,λb o e=>W7 e,gi (Y6 _ _),trivial,λb hb=>absurd (show b∈([]:List ai) from hb) (by simp),cG, .of_eq hg⟩;refine i0 ((F _ hKb (nsK hns)).run dX [] s₁ H ⟨[.ref a],[]⟩ [.ref a] [.ref a] _ _ hr e0 (hbind s₁ (.ref a)) (.cons rfl .nil) (hsp H hO hS)) λr s' h=>?_;cases r with
  |error e=>exact(hCX H e s' h).elim
  |ok fl=>
   cases fl with
   |next=>exact cE h
   |brk=>exact cE h
   |cont=>exact cE h
   |ret u=>
    obtain⟨v,H',os,bare,un,hok',r',q⟩:=h;have q':v= .bl true:=q;subst q';obtain rfl:u=fj true:=r';refine⟨rfl,OldK.of_keep λb o e=>?_,os,bare⟩;cases q:H b with
    |none=>exact un.keep b o e q (by intro z;exact absurd (show b∈([]:List ai) from z) (by simp)) (by simp)
    |some u=>
     obtain z |⟨ob,xs,z⟩:=hO b
     ·rw[q]at z;cases z
     ·have z2:=un.frzs b ob _ z;obtain⟨e1,_⟩:=cG b _ z;obtain⟨e2,_⟩:=hok' b _ z2;rw[e]at e1;cases e1;exact e2
 cases hk:K.lookup a with
 |some o=>
  have e:=KX a o hk;rw[ha]at e;cases e;refine core (λ_=>none) (λ_=> .inl rfl) (.inr ⟨_,vs.toArray,_,hk,rfl,rfl,rfl,by rw[bf,lenV];exact hl,by simpa using rv⟩) (λb u z=>by have z':(none:Option HO)=aa u:=z;cases z') (λb z=>absurd rfl z) λz=>absurd rfl z
 |none=>
  refine core (λb=>if b=a then aa (.frz { cls:= .type "list",data:= .seq vs.toArray } (.bP (ns.map V.int))) else none) (λb=>?_) (.inl (.inr ⟨{ cls:= .type "list",data:= .seq vs.toArray },if_pos rfl⟩)) (λb u z=>?_) (λb z=>?_) λ_=>hk
  ·by_cases hb:b=a
   ·exact .inr ⟨_,_,if_pos hb⟩
   ·exact .inl (if_neg hb)
  ·by_cases hb:b=a
   ·have z':=(if_pos hb).symm.trans z;cases z';subst hb;exact⟨ha,by rw[ay];exact hl,vs,_,rv,ha⟩
   ·have z':=(if_neg hb).symm.trans z;cases z'
  ·by_cases hb:b=a
   ·exact hb
   ·exact absurd (if_neg hb) z
def OT{l:gS}{n k:Nat}{q:bi}{loose:List ah}{XP:(ah→Option aj)→aE→Prop}{YP:aR→aE→Prop}{d:DefRec}{K:Params→ao}{CX:aR→wG}{sp:aR→Sp}{x:ah}
  (hn:l.most=aa n) (hn2:n≤sizeLine) (hdf:d.params.defaults=[]) (hr:oj k dX)
  (hY:∀(w:aR) (h:aE),YP w h→(K w.params).In h)
  (F:∀(w:aR) (mg:ah→Option aj) (fa:ai) (h:aE),(K w.params).In h→h.Ns bj mg→mg d.name=aa (.ref fa)→
   ∃fd:dq,(∀(s:am) (u:aj),eR s fd ⟨[u],[]⟩ [(x,u)])∧
    ∀base:aE,(K w.params).In base→base.Ns bj mg→oO l.prog w (K w.params) mg base (CX w) k fa fd [x] (sp w))
  (hsp:∀(w:aR) (H:Hp) (a:ai) (ns:List Int),ns.length≤n→CN H→oF (K w.params) H a (ns.map V.int)→sp w [.ref a] H (λv _=>v= .bl true) λ_ _ _=>False)
  (hCX:∀(w:aR) (H:Hp) (s:am) (e:aj) (s':am),CX w [] H s (λ_ _ _=>False) e s'→False) :
  ma q loose XP YP l.row.toRowW d [] (λf vs=>jm f vs):=by
 refine Att.attach_call hn hdf λw s₀ s₁ mg mb fa o pm cd doc a vs ns G Y ho hd hcd hmg hobj hints hlen hg=>?_;have KX:=hY w _ Y;obtain⟨fd,hb,hF⟩:=F w mg fa _ KX G.T.g hmg;exact P2 KX G.T.g G.T.b G.T.builtins G.T.nolimit hg hobj hints (aY hlen hn2) hr hF hb (λH hO hS=>hsp w H a ns hlen hO hS) λH e s'=>hCX w H s₁ e s'
def xy (s:aW):Arguments:=match s with
 | .FunctionDef _ a _ _ _ _ _ _ _ _=>a
 |_=>{ posonlyargs:=[],args:=[],vararg:=none,kwonlyargs:=[],kw_defaults:=[],kwarg:=none,defaults:=[] }
def uh (s:aW):List aW:=match s with
 | .FunctionDef _ _ b _ _ _ _ _ _ _=>b
 |_=>[]
def qp (s:aW):Scope:=match s with
 | .FunctionDef _ _ _ _ _ _ sc _ _ _=>sc
 |_=>{ kind:= .function,names:=[],isGenerator:=false,isCoroutine:=false }
abbrev Jz:wG:=λ_ _ _ _ _ _=>False
structure tN (K:ao) (x qual:ah) (st:aW) (f:ai) (fd:dq):Prop where
  ex:∃(oc:aj) (od:Option ai) (kV doc pm:aj) (an:Option ai) (cdv ct:aj) (osl:Array (Option aj)),
    fd=dU x qual (xy st) (uh st) (qp st) .none kV doc pm an cdv ct∧K.lookup f=aa ⟨oc,od, .func fd,osl⟩∧gK K cdv qual=true
  kp:fe K (.ref f)=true
section
variable {P:bi}{w:aR}{K:ao}{mg:ah→Option aj}{base:aE}
def tN.ok{st:aW}(F:tN K x qual st f fd) (S:pi N ps (qp st)) (len:∀vs H Q E,sp vs H Q E→vs.length=ps.length)
  (hbody:∀(cdv:aj) (A:bt) (outer:List bN) (s:am) (H:Hp) (vs:List V) (Q:VK) (E:XK),oj k (A.deeper (cH qual (qp st) s.heap.objs.size f cdv))→sp vs H Q E→
   ∃t,qG (uQ Jz P w K mg base N qual (qp st) f cdv A outer s H E).nox (uh st) t∧t { nx:=λ_ H'=>Q .ca H',rt:=Q } (start N vs) H):oO P w K mg base Jz (k+1) f fd ps sp:=by
 obtain⟨oc,od,kV,doc,pm,an,cdv,ct,osl,rfl,lk,hcd⟩:=F.ex;refine Gr lk hcd S len λA outer s H vs Q E hr hsp=>?_;obtain⟨t,h,q⟩:=hbody cdv A outer s H vs Q E hr hsp;exact⟨t,h.nox,q⟩
def tN.binds{st:aW}(F:tN K x qual st f fd)
  (h:∀(kV doc pm:aj) (an:Option ai) (cdv ct:aj) (us:List aj),us.length=ps.length→jj (dU x qual (xy st) (uh st) (qp st) .none kV doc pm an cdv ct) ⟨us,[]⟩=pure (ps.zip us)):pj K fd ps []:=by
 obtain⟨oc,od,kV,doc,pm,an,cdv,ct,osl,rfl,lk,hcd⟩:=F.ex;exact .all (h kV doc pm an cdv ct)
def Pb{st:aW}{kV doc pm cdv ct:aj}(l:K.lookup f=aa ⟨oc,od, .func (dU x qual (xy st) (uh st) (qp st) .none kV doc pm an cdv ct),osl⟩)
  (c:gK K cdv qual=true) (k:fe K (.ref f)=true):tN K x qual st f (dU x qual (xy st) (uh st) (qp st) .none kV doc pm an cdv ct):=⟨⟨oc,od,kV,doc,pm,an,cdv,ct,osl,rfl,l,c⟩,k⟩
end
def pv (i:Nat) (hN:X.N[i]? =aa x:=by rfl) (hv:v7 X.env.scope x:=by first |exact gD rfl |exact eS (gD rfl) |exact eS (eS rfl)) (hd:(x == ("__debug__" :ah))=false:=by decide)
  (hcd:(x == ("__classdict__" :ah))=false:=by decide):PE X (.Name x pos) (Js i):=ML hN hv hd hcd
def Wa{A B:Prop}(h:B):if false=true then A else B:=by
 rw[if_neg cX];exact h
def ZA{A B:Prop}(h:A):if true=true then A else B:=by
 rw[if_pos rfl];exact h
section
variable {κ:Type} [DecidableEq κ]
def rE (gN:List (κ×V)) (k:κ):Option V:=(gN.find? λkv=>decide (kv.1=k)).map (·.2)
def sS (gN:List (κ×V)) (k:κ) (v:V):List (κ×V):=
 if(gN.any λkv=>decide (kv.1=k))=true then gN.map (λkv=>if kv.1=k then(kv.1,v) else kv) else gN++[(k,v)]
def AT{p:κ×V}{r:List (κ×V)}{k:κ}(e:p.1=k):rE (p::r) k=aa p.2:=by simp [rE,cb,e]
def Bj{p:κ×V}{r:List (κ×V)}{k:κ}(e:¬p.1=k):rE (p::r) k=rE r k:=by simp [rE,cb,e]
theorem Io (k:κ):∀gN:List (κ×V),(gN.any λkv=>decide (kv.1=k))=(rE gN k).isSome
 | []=>rfl
 |p::r=>by
  rw[fu];by_cases e:p.1=k
  ·simp only[AT e,decide_eq_true e,Bool.true_or,kI]
  ·rw[Bj e,decide_eq_false e,ke];exact Io k r
def Xr (gN:List (κ×V)) (k:κ) (v:V):(sS gN k v).length≤gN.length+1:=by
 unfold sS;split
 ·rw[ay];lia
 ·rw[bc,aU,di];lia
def qv.isSome_eq{o:Option V}{u:Option aj}(r:qv o u):o.isSome=u.isSome:=by
 cases o with
 |none=>cases u with
  |none=>rfl
  |some _=>exact(show False from r).elim
 |some _=>cases u with
  |none=>exact(show False from r).elim
  |some _=>rfl
def qv.getD{o:Option V}{u:Option aj}{d:V}{d':aj}(r:qv o u) (rd:mV d d'):mV (o.getD d) (u.getD d'):=by
 cases o with
 |none=>cases u with
  |none=>exact rd
  |some _=>exact(show False from r).elim
 |some _=>cases u with
  |none=>exact(show False from r).elim
  |some _=>exact r
def KV.val{gN:List (κ×V)}{vs:List (κ×aj)}(r:KV gN vs) (k:κ):qv (rE gN k) (eQ vs k):=by
 unfold KV at r
 induction r with
 |nil=>exact dN
 | @cons p q ps qs h t ih=>
  obtain⟨h1,h2⟩:=h;by_cases e:p.1=k
  ·have e':q.1=k:=h1.symm.trans e;have b:eQ (q::qs) k=aa q.2:=by simp [eQ,cb,e']
   rw[AT e,b];exact h2
  ·have e':¬q.1=k:=λz=>e (h1.trans z);have b:eQ (q::qs) k=eQ qs k:=by simp [eQ,cb,e']
   rw[Bj e,b];exact ih
def KV.length{gN:List (κ×V)}{vs:List (κ×aj)}(r:KV gN vs):gN.length=vs.length:=fW r
end
def C4{P:bi}{w:aR}{k:Key}{u:aj}(r:mV (kV k) u):(qF P w).is k u=true:=by
 cases k with
 |inl i=>obtain⟨t,e⟩:=(show ∃t,u=gE i t from r);subst e;exact Qa P w i t
 |inr x=>obtain⟨t,e⟩:=(show ∃t,u=fY x t from r);subst e;exact UY P w x t
theorem Lu{P:bi}{w:aR}:∀{ks:List Key}{us:List aj},mM (ks.map kV) us→ItemsAre (qF P w) ks us
 | [],_,r=>by rw[cy]at r;cases r;exact .nil
 |k::ks,_,r=>by
  rw[aC]at r;cases r with
  |cons h t=>exact .cons (C4 h) (Lu t)
abbrev KT (H:Hp):List (List Key×V)→List (List Key×ai×aj)→Prop:=aN λp q=>p.1=q.1∧H q.2.1=aa (.bW (p.1.map kV))∧mV p.2 q.2.2
def KT.val{H:Hp}{gN:List (List Key×V)}{xs:List (List Key×ai×aj)}(r:KT H gN xs) (k:List Key):qv (rE gN k) ((dJ xs k).map (·.2)):=by
 induction r with
 |nil=>exact dN
 | @cons p q ps qs h t ih=>
  obtain⟨h1,_,h2⟩:=h;by_cases e:p.1=k
  ·have e':q.1=k:=h1.symm.trans e;have b:dJ (q::qs) k=aa q.2:=by simp [dJ,cb,e']
   rw[AT e,b];exact h2
  ·have e':¬q.1=k:=λz=>e (h1.trans z);have b:dJ (q::qs) k=dJ qs k:=by simp [dJ,cb,e']
   rw[Bj e,b];exact ih
def KT.repl{H:Hp}{gN:List (List Key×V)}{xs:List (List Key×ai×aj)}(r:KT H gN xs) (k:List Key) {y:V}{u:aj}(ry:mV y u) :
  KT H (gN.map λkv=>if kv.1=k then(kv.1,y) else kv) (xs.map (putAt k u)):=by
 induction r with
 |nil=>exact .nil
 | @cons p q ps qs h t ih=>
  rw[aC,aC];refine .cons ?_ ih;obtain⟨h1,h2,h3⟩:=h;unfold putAt;by_cases e:p.1=k
  ·rw[if_pos e,if_pos (h1.symm.trans e)];exact⟨h1,h2,ry⟩
  ·rw[if_neg e,if_neg (λz=>e (h1.trans z))];exact⟨h1,h2,h3⟩
def KT.bR{H:Hp}{gN:List (List Key×V)}{xs:List (List Key×ai×aj)}(r:KT H gN xs) (k:List Key) {b:ai}{y:V}{u:aj}(hb:H b=aa (.bW (k.map kV))) (ry:mV y u) :
  KT H (sS gN k y) (fM xs k b u):=by
 have e:(gN.any λkv=>decide (kv.1=k))=(dJ xs k).isSome:=by
  rw[Io,(r.val k).isSome_eq,gT]
 unfold sS fM;rw[e];by_cases q:(dJ xs k).isSome=true
 ·rw[if_pos q,if_pos q];exact r.repl k ry
 ·rw[if_neg q,if_neg q];exact aN.snoc r ⟨rfl,hb,ry⟩
def KT.keeps{H H':Hp}{gN:List (List Key×V)}{xs:List (List Key×ai×aj)}(r:KT H gN xs) (ht:∀b ys,H b=aa (.bW ys)→H' b=aa (.bW ys)):KT H' gN xs:=
 Paired.mapP r λ_ _ z=>⟨z.1,ht _ _ z.2.1,z.2.2⟩
def IB{u:HO}(ok:nZ P w H h) (e:Rd H a u):nc P w H h a u:=e.ok ok
def Hj{gN:List (Key×V)}(ok:nZ P w H h) (e:Rd H a (.dK gN)):gN.length≤sizeLine∧(a == fo)=false∧ ∃vs,KV gN vs∧h.DictOf (qF P w) a vs:=
 show nc P w H h a (.dK gN) from IB ok e
def AL{ks:List Key}(ok:nZ P w H h) (e:H a=aa (.bW (ks.map kV))):(cI (qF P w)).is h ks a:=by
 obtain⟨_,eH,r,o,h1,h2,n,h3⟩:=(show nc P w H h a (.bW (ks.map kV)) from ok a _ e);exact⟨o,eH.toArray,n,h1,h2,h3,by simpa using Lu r⟩
def Nv{gN:List (List Key×V)}(ok:nZ P w H h) (e:Rd H a (.dT gN)):gN.length≤sizeLine∧(a == fo)=false∧
  ∃xs,KT H gN xs∧h.DictOfH (cI (qF P w)) a xs:=by
 obtain⟨z,y,xs,r,o,es,ep,h1,h2,h3,h4,h5⟩:=(show nc P w H h a (.dT gN) from IB ok e);refine⟨z,y,xs,r,o,es,ep,h1,h2,h3,h4,λx hx=>?_,h5⟩;have all:∀{l:List (List Key×V)}{m:List (List Key×ai×aj)},KT H l m→ ∀x∈m,(cI (qF P w)).is h x.1 x.2.1:=by
  intro l m q
  induction q with
  |nil=>intro x hx;exact nomatch hx
  | @cons p q ps qs hq t ih=>
   intro x hx;obtain e |hx:=az.mp hx
   ·subst e;exact AL ok (by rw[←hq.1];exact hq.2.1)
   ·exact ih x hx
 exact all r x hx
def se (H:Hp) (a:ai) (y:V) (r:Option V):Prop:=
 (∃gN k,Rd H a (.dK gN)∧y=kV k∧r=rE gN k)∨ ∃gN k b,Rd H a (.dT gN)∧y= .ref b∧H b=aa (.bW (k.map kV))∧r=rE gN k
def se.t{H:Hp}{a b:ai}{gN:List (List Key×V)}{k:List Key}(e:H a=aa (.dT gN)) (eb:H b=aa (.bW (k.map kV))):se H a (.ref b) (rE gN k):= .inr ⟨gN,k,b, .inl e,rfl,eb,rfl⟩
section
variable {X:Cx}{ag:List (ai×aG)}{σ:St}{H:Hp}{s:am}{a:ai}{y:V}{u:aj}{o:Option V}{A:bt}{E:aj→am→Prop}
def my.big (I:my X ag σ H s):fo<s.heap.objs.size:=by
 have h:bj<s.heap.objs.size:=(I.mod.glob.keeps I.bk).lt;exact Nat.lt_trans (by decide) h
def Wx{Q:aj→am→Prop}(hu:A.units+1<cLine) (I:my X ag σ H s) (g:se H a y o) (ry:mV y u) (h:∀s',my X ag σ H s'→Q (.bool o.isSome) s') :
  av (aB X.prog X.w) A (bB .In u (.ref a)) Q E s:=by
 obtain ⟨gN,k,e,ey,l⟩ |⟨gN,k,b,e,ey,eb,l⟩:=g
 ·subst ey;obtain⟨z,hd,vs,rel,dd⟩:=Hj I.cG e;refine wpAny_in_of (C4 ry) hd dd.mapOf ?_;rw[←(rel.val k).isSome_eq,←l];exact h _ (I.tok _)
 ·subst ey;cases(show u=bM b from ry);obtain⟨z,hd,xs,rel,dd⟩:=Nv I.cG e;refine wpAny_in_heap (jC hu) (AL I.cG eb) hd dd ?_;have q:=(rel.val k).isSome_eq;rw[gT]at q;rw[←q,←l];exact h _ (I.tok _)
def XH{Q:aj→am→Prop}(hu:A.units+1<cLine) (I:my X ag σ H s) (g:se H a y o) (ry:mV y u) (h:∀s',my X ag σ H s'→Q (.bool (!o.isSome)) s') :
  av (aB X.prog X.w) A (bB .NotIn u (.ref a)) Q E s:=by
 obtain ⟨gN,k,e,ey,l⟩ |⟨gN,k,b,e,ey,eb,l⟩:=g
 ·subst ey;obtain⟨z,hd,vs,rel,dd⟩:=Hj I.cG e;refine wpAny_notIn_of (C4 ry) hd dd.mapOf ?_;rw[←(rel.val k).isSome_eq,←l];exact h _ (I.tok _)
 ·subst ey;cases(show u=bM b from ry);obtain⟨z,hd,xs,rel,dd⟩:=Nv I.cG e;refine wpAny_notIn_heap (jC hu) (AL I.cG eb) hd dd ?_;have q:=(rel.val k).isSome_eq;rw[gT]at q;rw[←q,←l];exact h _ (I.tok _)
end
end L2
namespace Att
open PySem PySem.W PySem.Calls PyProof.Rows
end Att
namespace L2
open PySem PySem.Spec PyProof.Rows
section
variable {prog:bi}{w:aR}{A:bt}{R:Result→am→Prop}{s:am}
def TR (I:Nat→am→Prop)
  (turn:∀n s,I n s→av (aB prog w) A (cr it) (λr s₁=>match r with
   |none=>R (.ok .next) s₁
   |some v=>av (aB prog w) A (gJ target it v) (λ_ s₀=>av (aB prog w) A (assign target env v) (λ_ s₂=>
     av (aB prog w) A (forIn ifs true λc r=>if r=true then do let ok ←isTrue c env (aH c env);pure (fE ok) else pure (fE r)) (λok s₃=>
      if ok=true then av (aB prog w) A (aH elt env) (λx s₄=>
       av (aB prog w) A (call (.builtin "list.append") [acc,x]) (λ_ s₅=>∃m,m<n∧I m s₅) (λ_ _=>False) s₄) (λ_ _=>False) s₃
      else ∃m,m<n∧I m s₃) (λ_ _=>False) s₂) (λ_ _=>False) s₀) (λ_ _=>False) s₁) (λ_ _=>False) s)
  (n:Nat) (h:I n s) :
  dY (aB prog w) A (.compLoop (.ListComp elt [⟨target,iter,ifs,0⟩] scope pos) 0 it acc env) R s:=by
 refine codeAny_loop rfl I (λn s hI=>?_) n h;show av _ A ((compTurn (.ListComp elt [⟨target,iter,ifs,0⟩] scope pos) 0 it acc env).onRaise (λx=>do jP x env;theTreesLotGoes x)) _ _ s;refine wpAny_noted ?_;rw[compTurn_list];refine au (wpAny_standAt (au (ci (turn n s hI) (λr s₁ h₁=>?_) λ_ _ h'=>h'.elim)));cases r with
 |none=>exact aM h₁
 |some v=>
  refine au (ci h₁ (λ_ s₀ h₀=>?_) λ_ _ h'=>h'.elim);refine au (ci h₀ (λ_ s₂ h₂=>au (ci h₂ (λok s₃ h₃=>?_) λ_ _ h'=>h'.elim)) λ_ _ h'=>h'.elim);cases ok with
  |false=>exact aM ⟨rfl,h₃⟩
  |true=>
   exact au (au (ci h₃ (λx s₄ h₄=>au (ci h₄ (λ_ s₅ h₅=>aM (aM ⟨rfl,h₅⟩)) λ_ _ h'=>h'.elim)) λ_ _ h'=>h'.elim))
end
def qc (cells:List (ah×ai)):List (ah×b9)→List (ah×ai)→List (ah×ai)
 | [],acc=>acc
 | (n,k)::r,acc=>if(k == a_)=true then qc cells r ((n,(cells.lookup n).getD 0)::acc) else qc cells r acc
def Qy (h:∀y∈scope.names,y.2= .free→ ∃c,env.cells.lookup y.1=aa c) :
  closureFor scope env=pure (qc env.cells scope.names []):=by
 have go:∀(l:List (ah×b9)) (acc:List (ah×ai)),(∀y∈l,y.2= .free→ ∃c,env.cells.lookup y.1=aa c)→
   (forIn l acc λ(x:ah×b9) (cs:List (ah×ai))=>(if(x.2 == a_)=true then(do let a ←cellOf env x.1;pure (fE ((x.1,a)::cs))) else pure (fE cs):cj (ForInStep (List (ah×ai)))))=(pure (qc env.cells l acc):cj (List (ah×ai))):=by
  intro l
  induction l with
  |nil=>intro acc _;rfl
  |cons x l ih=>
   intro acc hl;obtain⟨n,k⟩:=x;have hr:=λy hy=>hl y (aI _ hy);rw[jx];by_cases hk:k= .free
   ·subst hk;obtain⟨c,hc⟩:=hl (n, .free) aK rfl;have hc':env.cells.lookup n=aa c:=hc;have e:cellOf env n=pure c:=by unfold cellOf;rw[hc']
    have e2:qc env.cells ((n,a_)::l) acc=qc env.cells l ((n,c)::acc):=by
     show(if(a_ == a_)=true then qc env.cells l ((n,(env.cells.lookup n).getD 0)::acc) else qc env.cells l acc)=_;rw[if_pos (by rfl),hc'];rfl
    dsimp only;rw[if_pos (by rfl),e,hV,hV,e2];exact ih _ hr
   ·have hb:¬(k == a_)=true:=by simpa using hk
    have e2:qc env.cells ((n,k)::l) acc=qc env.cells l acc:=by
     show(if(k == a_)=true then qc env.cells l ((n,(env.cells.lookup n).getD 0)::acc) else qc env.cells l acc)=_;rw[if_neg hb]
    dsimp only;rw[if_neg hb,hV,e2];exact ih _ hr
 have q:=go scope.names [] h;unfold closureFor
 first
  |exact(bind_pure _).trans q
  | (simp only[bind_pure];exact q)
  | (simp only[hV,bind_assoc,bind_pure];exact q)
theorem DD:∀(l:List (ah×b9)) (acc:List (ah×ai)),(∀y∈l,y.2= .free→ ∃c,cells.lookup y.1=aa c)→
  (qc cells l acc).lookup x=aa c→acc.lookup x=aa c∨cells.lookup x=aa c
 | [],acc,_,h=> .inl h
 | (n,k)::r,acc,hl,h=>by
  have hr:=λy hy=>hl y (aI (n,k) hy);by_cases hk:k= .free
  ·subst hk;have h':(qc cells r ((n,(cells.lookup n).getD 0)::acc)).lookup x=aa c:=h;obtain q |q:=DD r _ hr h'
   ·rw[cq]at q;cases e:x == n with
    |true=>
     rw[e]at q;obtain⟨d,hd⟩:=hl (n, .free) aK rfl;have hd':cells.lookup n=aa d:=hd;have e1:x=n:=gP e;rw[hd']at q;have q':d=c:=aL q;exact .inr (by rw[e1,hd',q'])
    |false=>
     rw[e]at q;exact .inl q
   ·exact .inr q
  ·have hb:¬(k == a_)=true:=by simpa using hk
   have h':(if(k == a_)=true then qc cells r ((n,(cells.lookup n).getD 0)::acc) else qc cells r acc).lookup x=aa c:=h;rw[if_neg hb]at h';exact DD r acc hr h'
theorem Bk:∀(l:List (ah×b9)) (acc:List (ah×ai)),((x,a_)∈l∨ ∃c,acc.lookup x=aa c)→ ∃c,(qc cells l acc).lookup x=aa c
 | [],acc,h=>by
  obtain h |h:=h
  ·cases h
  ·exact h
 | (n,k)::r,acc,h=>by
  by_cases hk:k= .free
  ·subst hk;refine Bk r ((n,(cells.lookup n).getD 0)::acc) ?_;cases e:x == n with
   |true=>exact .inr ⟨_,by rw[cq,e]⟩
   |false=>
    obtain h |⟨c,h⟩:=h
    ·obtain q |q:=az.mp h
     ·have:x=n:=congrArg Prod.fst q;rw[this]at e;simp at e
     ·exact .inl q
    ·exact .inr ⟨c,by rw[cq,e];exact h⟩
  ·have hb:¬(k == a_)=true:=by simpa using hk
   show ∃c,(if(k == a_)=true then qc cells r ((n,(cells.lookup n).getD 0)::acc) else qc cells r acc).lookup x=aa c;rw[if_neg hb];refine Bk r acc ?_;obtain h |h:=h
   ·obtain q |q:=az.mp h
    ·exact absurd (congrArg jV q).symm hk
    ·exact .inl q
   ·exact .inr h
theorem A8{env:bN}{x:ah}{k:b9}:∀{names:List (ah×b9)},(∀y∈names,y.2≠ .cell)→
  (names.map λ(n,k)=>if(k == a_&&env.scope.kind == .function&&env.kindOf n == aa .cell) then(n,cf) else(n,k)).lookup x=aa k→(k= .cell∨k= .free)→(x,a_)∈names
 | [],_,h,_=>by simp at h
 | (n,j)::r,hc,h,hk=>by
  have h':ja x ((if(j == a_&&env.scope.kind == .function&&env.kindOf n == aa .cell)=true then(n,cf) else(n,j)) ::
   (r.map λ(n,k)=>if(k == a_&&env.scope.kind == .function&&env.kindOf n == aa .cell) then(n,cf) else(n,k)))=aa k:=h
  have hr:=λy hy=>hc y (aI (n,j) hy);have hj:j≠ .cell:=hc (n,j) aK;cases e:x == n with
  |true=>
   have e1:x=n:=gP e;subst e1;by_cases c:(j == a_&&env.scope.kind == .function&&env.kindOf x == aa .cell)=true
   ·have c1:(j == a_)=true:=by
     cases q:(j == a_) with
     |true=>rfl
     |false=>rw[q]at c;simp at c
    have c2:j= .free:=by simpa using c1
    rw[c2];exact aK
   ·rw[if_neg c]at h';simp only[cq,beq_self_eq_true]at h';have h2:j=k:=aL h';obtain z |z:=hk
    ·exact absurd (h2.trans z) hj
    ·rw[h2,z];exact aK
  |false=>
   by_cases c:(j == a_&&env.scope.kind == .function&&env.kindOf n == aa .cell)=true
   ·rw[if_pos c]at h';simp only[cq,e]at h';exact aI _ (A8 hr h' hk)
   ·rw[if_neg c]at h';simp only[cq,e]at h';exact aI _ (A8 hr h' hk)
theorem FV{env:bN}{x:ah}:∀{names:List (ah×b9)},names.lookup x=aa .free→
  (names.map λ(n,k)=>if(k == a_&&env.scope.kind == .function&&env.kindOf n == aa .cell) then(n,cf) else(n,k)).lookup x=aa .cell∨
  (names.map λ(n,k)=>if(k == a_&&env.scope.kind == .function&&env.kindOf n == aa .cell) then(n,cf) else(n,k)).lookup x=aa .free
 | [],h=>by simp at h
 | (n,j)::r,h=>by
  show ja x ((if(j == a_&&env.scope.kind == .function&&env.kindOf n == aa .cell)=true then(n,cf) else(n,j)) ::
   (r.map λ(n,k)=>if(k == a_&&env.scope.kind == .function&&env.kindOf n == aa .cell) then(n,cf) else(n,k)))=_∨
   ja x ((if(j == a_&&env.scope.kind == .function&&env.kindOf n == aa .cell)=true then(n,cf) else(n,j)) ::
   (r.map λ(n,k)=>if(k == a_&&env.scope.kind == .function&&env.kindOf n == aa .cell) then(n,cf) else(n,k)))=_
  cases e:x == n with
  |true=>
   simp only[cq,e]at h;have h2:j= .free:=aL h;subst h2;by_cases c:(a_ == a_&&env.scope.kind == .function&&env.kindOf n == aa .cell)=true
   ·rw[if_pos c];simp only[cq,e];exact .inl trivial
   ·rw[if_neg c];simp only[cq,e];exact .inr trivial
  |false=>
   simp only[cq,e]at h;by_cases c:(j == a_&&env.scope.kind == .function&&env.kindOf n == aa .cell)=true
   ·rw[if_pos c];simp only[cq,e];exact FV h
   ·rw[if_neg c];simp only[cq,e];exact FV h
def pS (X:Cx) (scope:Scope) (N:List ah) (s:am) (H:Hp) (fp:List ai) (ag:List (ai×aG)):Cx:=
 { X with N:=N,s₀:=s,H₀:=H,env:=compEnvC scope (qc X.env.cells scope.names []) s.heap.objs.size X.env,outer:=X.stack,stack:=X.stack,ex:=fp,fn:=λ_=>false,pn:=X.pn++ag,xe:=λ_ _=>False }
structure ny (X:Cx) (scope:Scope) (N:List ah) (k:Nat) (fr:List Nat):Prop where
  kind:scope.kind= .function
  nd:N.Nodup
  len:N.length=k+fr.length
  cell:(scope.names.all λy=>y.2 != cf)=true
  loc:(scope.names.all λy=>y.2 != b9.local || scope.names.lookup y.1 == aa b9.local)=true
  free:(scope.names.all λy=>y.2 != a_ || X.env.kindOf y.1 == aa cf || X.env.kindOf y.1 == aa a_)=true
  frs:((N.drop k).all λx=>scope.names.lookup x == aa a_)=true
  pl:N.drop k=fr.map λj=>X.N.getD j fH
  plen:(fr.all λj=>decide (j<X.N.length))=true
def we (σ:St) (fr:List Nat):St:=fr.map λj=>(σ[j]?).join
def AB (σ:St) (k:Nat) (fr:List Nat):St:=bn k none++we σ fr
def ny.cell' (S:ny X scope N k fr):∀y∈scope.names,y.2≠ .cell:=λy hy=>by
 have q:=cS.mp S.cell y hy;simpa using q
def ny.loc' (S:ny X scope N k fr):∀y∈scope.names,y.2= .local→scope.names.lookup y.1=aa .local:=λy hy e=>by
 have q:=cS.mp S.loc y hy;rw[e]at q;simpa using q
def ny.kinds (S:ny X scope N k fr):∀y∈scope.names,y.2= .free→X.env.kindOf y.1=aa .cell∨X.env.kindOf y.1=aa .free:=λy hy e=>by
 have q:=cS.mp S.free y hy;rw[e]at q;simpa using q
def ny.hasCell (S:ny X scope N k fr) (ok:X.Ok):∀y∈scope.names,y.2= .free→ ∃c,X.env.cells.lookup y.1=aa c:=λy hy e=>ok.has y.1 (S.kinds y hy e)
def ny.sub (S:ny X scope N k fr) (ok:X.Ok) (h:(qc X.env.cells scope.names []).lookup x=aa c):X.env.cells.lookup x=aa c:=by
 obtain q |q:=DD scope.names [] (S.hasCell ok) h
 ·simp at q
 ·exact q
def Zb (I:my X ag σ H s) (S:ny X scope N k fr) (hfp:∀b∈fp,qA X ag H b) (hob:∀b∈fp,∃o,s.heap.get? b=aa o):(pS X scope N s H fp ag).Ok where
  mod:=I.ok.mod
  kind:=S.kind
  glob:=I.ok.glob
  blt:=I.ok.blt
  above:=aA _
  inj:=λx y c h1 h2=>I.ok.inj x y c (S.sub I.ok h1) (S.sub I.ok h2)
  has:=λx hx=>Bk scope.names [] (.inl (by
    obtain hx |hx:=hx
    · exact A8 S.cell' hx (.inl rfl)
    · exact A8 S.cell' hx (.inr rfl)))
  cab:=λx c h _=>absurd h (by show ¬(false=true);decide)
  hd:=I.ok.hd
  frames:=I.ok.frames
  stk:= .inl rfl
  exf:=λb hb=>⟨by
    obtain⟨o,e⟩:=hob b hb;exact bS (aQ e),λx c h=>(hfp b hb).2.2.2.2.1 x c (S.sub I.ok h)⟩
  bs:=I.bs
  bsz:=aY I.ok.bsz I.sz
  noex:=λb o e hb=>by
    rcases(hfp b hb).2.2.2.1 with z |z
    · exact I.ok.noex b o e z
    · exact absurd (bY (aQ (I.ok.bs b o e).1) z) (cO _)
  exfs:=λb hb z=>by
    obtain q |q:=az.mp (I.stkSub b z)
    · exact(hfp b hb).2.1 q
    · exact(hfp b hb).2.2.1 q
  funs:=I.stack
  frf:=I.stkFree
def ZQ (I:my X ag σ H s) (S:ny X scope N k fr) (hb:b∈fp) (hf:qA X ag H b) (hob:∃o,s.heap.get? b=aa o) (hn:H' b=none):qA (pS X scope N s H fp ag) [] H' b:=by
 refine⟨hn,?_,λz=>?_, .inl hb,λx c h=>hf.2.2.2.2.1 x c (S.sub I.ok h),λp hp=>?_⟩
 ·obtain⟨o,e⟩:=hob;exact bS (aQ e)
 ·obtain q |q:=az.mp (I.stkSub b z)
  ·exact hf.2.1 q
  ·exact hf.2.2.1 q
 ·obtain z |z:=bq.mp hp
  ·exact hf.2.2.2.2.2 p z
  ·cases z
def RG{j:Nat}{v:V}(h:(we σ fr)[j]? =aa (aa v)):∃i,fr[j]? =aa i∧σ[i]? =aa (aa v):=by
 unfold we at h;rw[aV]at h;cases e:fr[j]? with
 |none=>rw[e]at h;cases h
 |some i=>
  rw[e]at h;have h':(σ[i]?).join=aa v:=aL h;refine⟨i,rfl,?_⟩;cases q:σ[i]? with
  |none=>rw[q]at h';cases h'
  |some o=>
   rw[q]at h';have h2:o=aa v:=h';rw[h2]
def Pt (I:my X ag σ H s) (S:ny X scope N k fr) (hfp:∀b∈fp,qA X ag H b) (hob:∀b∈fp,∃o,s.heap.get? b=aa o) {h1:aE}{tk:Nat}{m:ah→Option aj}
    (hns:h1.Ns s.heap.objs.size m) (hk:∀b o,s.heap.get? b=aa o→h1.get? b=aa o):my (pS X scope N s H fp ag) [] (AB σ k fr) H { s with heap:=h1,toks:=tk } where
  ok:=Zb I S hfp hob
  os:=rfl
  bare:=I.bare
  base:=Un.kept hk
  loc:=⟨m,hns,λi x v e1 e2 e3=>by
    have e2':(bn k (none:Option V)++we σ fr)[i]? =aa (aa v):=e2;have hi:k≤i:=by
      refine ko λz=>?_;rw[kL (by simpa using z),kw]at e2';split at e2'<;>cases e2'
    rw[jp (by simpa using hi),jO]at e2';obtain⟨j,f1,f2⟩:=RG e2';have e1':N[i]? =aa x:=e1;have d1:(N.drop k)[i - k]? =aa x:=by
      rw[lj];have:k+(i - k)=i:=by lia
      rw[this];exact e1'
    have d2:=d1;rw[S.pl,aV,f1]at d2;have d3:X.N.getD j fH=x:=aL d2;have jl:j<X.N.length:=of_decide_eq_true (cS.mp S.plen j (aJ f1));have d4:X.N[j]? =aa x:=by
      rw[bv,aS jl]at d3;rw[aS jl];exact congrArg aa d3
    have fk:scope.names.lookup x=aa .free:=by
      have q:=cS.mp S.frs x (aJ d1);simpa using q
    have hmem:(x,a_)∈scope.names:=fB fk;have kd:=S.kinds _ hmem rfl;have vis:v7 X.env.scope x:=by
      obtain z |z:=kd
      · exact .inr (.inl z)
      · exact .inr (.inr z)
    obtain⟨m0,_,hl⟩:=I.loc;obtain⟨u,ru,lk⟩:=hl j x v d4 f2 vis;refine⟨u,ru, .inr ⟨FV fk,?_⟩⟩;have kd':X.env.kindOf x=aa .cell∨X.env.kindOf x=aa .free:=kd;obtain ⟨z,_⟩ |⟨_,c,hc,hcell⟩:=lk
    · rcases kd' with q |q<;>(rw[z]at q;cases q)
    · obtain⟨c',hc'⟩:=Bk (cells:=X.env.cells) scope.names [] (.inl hmem);have e:=S.sub I.ok hc';rw[hc]at e;cases e;exact⟨c,hc',hcell.keeps hk⟩⟩
  cell:=λx c h=>by
    obtain⟨v,z⟩:=I.cell x c (S.sub I.ok h);exact⟨v,z.keeps hk⟩
  free:=I.cG.fresh (aA _)
  freeC:=λx c h=>I.freeC x c (S.sub I.ok h)
  pin:=λp hp=>by
    have hp':p∈X.pn++ag:=by
      obtain z |z:=bq.mp hp
      · exact z
      · cases z
    obtain⟨e,n,ne,nf,d⟩:=I.pin p hp';refine⟨hk _ _ e,n,bS (aQ e),λz=>?_,d⟩;obtain q |q:=az.mp (I.stkSub p.1 z)
    · exact ne q
    · exact nf q
  cG:=I.cG.kept hk
  len:=by
    show(bn k (none:Option V)++we σ fr).length=N.length;rw[bc,jO,S.len];unfold we;rw[ay]
def M3 (I:my X ag σ H s) (hfp:∀b∈fp,qA X ag H b) (J:my (pS X scope N s H fp ag) [] σ' H' s') (sb:cL s.heap.objs.size s'.heap h'):my X ag σ H' { s' with heap:=h' }:=by
 have neC:∀b o,s.heap.get? b=aa o→b≠s.heap.objs.size:=λb o e=>bS (aQ e);have frC:H' s.heap.objs.size=none:=J.free;refine my.call' (s':={ s' with heap:=h' }) (ch:=fp) I J.os ⟨λb o e n hf hx=>?_,λb o e n hf hx=>?_,λb o e n hx=>J.base.free b o e n hx,λb o e hx=>?_,J.base.tups,J.base.frzs,J.base.tbls⟩ (λb o e=>?_) J.bare λb hb=>⟨(hfp b hb).2.2.2.1,(hfp b hb).2.1,(hfp b hb).2.2.2.2.1,(hfp b hb).2.2.2.2.2⟩
 ·exact(sb.2 b (neC b o e)).trans (J.base.keep b o e n hf hx)
 ·obtain⟨sl,q⟩:=J.base.slot b o e n hf hx;exact⟨sl,(sb.2 b (neC b o e)).trans q⟩
 ·obtain⟨o',q⟩:=J.base.there b o e hx;exact⟨o',(sb.2 b (neC b o e)).trans q⟩
 ·refine(J.cG b o e).stay (λc v hc q=>(sb.2 c ?_).trans q) (λ_ q=>q) λ_ _ q=>q;rintro rfl;obtain rfl |hc:=hc
  ·rw[frC]at e;cases e
  ·rw[frC]at hc;cases hc
def BQ (X:Cx) (ifs:List Expr) (t:TT):Prop:=
 ∀(ag:List (ai×aG)) (s:am) (σ:St) (H:Hp) (Q:Bool→Hp→Prop),my X ag σ H s→t σ H Q→
  av (aB X.prog X.w) X.A (forIn ifs true λc r=>if r=true then do let ok ←isTrue c X.env (aH c X.env);pure (fE ok) else pure (fE r)) (TP X ag σ Q) X.xe s
def TH:TT:=λ_ H Q=>Q true H
def SF:BQ X [] TH:=λ_ _ _ H _ I h=>wpAny_tests_nil ⟨H,I,h⟩
def QZ (h:PT X c t):BQ X [c] t:=λag s σ H Q I q=>wpAny_tests_one (h ag s σ H Q I q)
def Wj (X:Cx) (scope:Scope) (N:List ah) (tg:Expr) (ifs:List Expr) (elt:Expr) (l:ai) (x:V) (σ:St) (H:Hp) (M:St→Hp→Prop):Prop:=
 ∀(s₀:am) (H₀:Hp) (fp:List ai) (pn:List (ai×aG)),∃(g:TG) (tt:TT) (te:TE),PG (pS X scope N s₀ H₀ fp pn) tg g∧BQ (pS X scope N s₀ H₀ fp pn) ifs tt∧PE (pS X scope N s₀ H₀ fp pn) elt te∧
  g x σ H λσ2 H2=>tt σ2 H2 λb H3=>if b=true then te σ2 H3 λy H4=>∃ys,H4 l=aa (.bP ys)∧ys.length<sizeLine∧M σ2 (nG H4 l (.bP (ys++[y]))) else M σ2 H3
def V_ (X:Cx) (scope:Scope) (N:List ah) (k:Nat) (fr:List Nat) (tg:Expr) (ifs:List Expr) (elt:Expr) (σ:St) (Q:VK) (J:It) (H1:Hp):Prop:=∀l,H1 l=none→
 ∃W:Nat→Nat→St→Hp→Prop,(∃m,W 0 m (AB σ k fr) (nG H1 l (.bP [])))∧ ∀i m σ' H',W i m σ' H'→
  (J.stop i H'∧Q (.ref l) H')∨(J.go i H'∧ ∃M:St→Hp→Prop,(∀σ'' H'',M σ'' H''→ ∃m',m'<m∧W (i+1) m' σ'' H'')∧ ∀x H2,J.yld i H' x H2→Wj X scope N tg ifs elt l x σ' H2 M)
def Ar (X:Cx) (scope:Scope) (N:List ah) (k:Nat) (fr:List Nat) (tg:Expr) (ifs:List Expr) (elt:Expr) (wi:TI):TE:=λσ H Q=>wi σ H λJ H1=>V_ X scope N k fr tg ifs elt σ Q J H1
def Nl{use:Option (aj→cj Unit)}{Qf:aj→am→Prop}(hx:X.xe=λ_ _=>False) (hc:X.calm=true) (S:ny X scope N k fr) (hi:PI X tg iter wi) (I:my X ag σ H s)
  (fin:∀{s3 s6:am}{H3 H5:Hp}{fp:List ai}{σ5:St}{l:ai}{a:Flow},my X ag σ H3 s3→(∀b∈fp,qA X ag H3 b)→my (pS X scope N s3 H3 fp ag) [] σ5 H5 s6→Q (.ref l) H5→compPost (aB X.prog X.w) X.A X.xe use Qf (.ref l) s3.heap.objs.size (.ok a) s6)
  (h:Ar X scope N k fr tg ifs elt wi σ H Q)
  (hs:∀x,dF iter X.env x=pure x:=by intro _;rfl):av (aB X.prog X.w) X.A (comprehension (.ListComp elt [⟨tg,iter,ifs,0⟩] scope pos) scope X.env (firstIterPos [⟨tg,iter,ifs,0⟩] pos) (newList []) (firstAsync [⟨tg,iter,ifs,0⟩]) (firstIter [⟨tg,iter,ifs,0⟩] X.env) use) Qf X.xe s:=by
 refine wpAny_comprehension_free (use:=use) rfl hs (Qy (S.hasCell I.ok)) S.kind S.loc' (nE (hi ag s σ H _ I h) λv s1 h1=>nE h1 λitv s2 h2=>?_);obtain⟨it,fp,tn,J,H2,e,I2,T,st2,f2,h2⟩:=h2;subst e;have fr2:H2 s2.heap.objs.size=none:=I2.cG.fresh (aA _);obtain⟨W,⟨m0,w0⟩,turn⟩:=h2 s2.heap.objs.size fr2;refine wpAny_newList ?_ (by show 0≤sizeLine;exact aP _);have I3:my X ag σ (nG H2 s2.heap.objs.size (.bP [])) { s2 with heap:=s2.heap.push { cls:= .type "list",data:= .seq ([]:List aj).toArray } }:=I2.lnew (t':=s2.toks) (ys:=[]) .nil (aP _);have old:∀b o,s2.heap.get? b=aa o→(s2.heap.push { cls:= .type "list",data:= .seq ([]:List aj).toArray }).get? b=aa o:=λb o e=>aO _ e;have fpo2:∀b∈fp,∃o,s2.heap.get? b=aa o:=λb hb=>by
  obtain⟨o,e,_⟩:=T.obj _ _ st2 b hb;exact⟨o,e⟩
 have fpo:∀b∈fp,∃o,(s2.heap.push { cls:= .type "list",data:= .seq ([]:List aj).toArray }).get? b=aa o:=λb hb=>by
  obtain⟨o,e⟩:=fpo2 b hb;exact⟨o,old b o e⟩
 have f3:∀b∈fp,qA X ag (nG H2 s2.heap.objs.size (.bP [])) b:=λb hb=>by
  obtain⟨o,e⟩:=fpo2 b hb;refine⟨?_,(f2 b hb).2⟩;rw[og (bS (aQ e))];exact(f2 b hb).1
 generalize hs3:({ s2 with heap:=s2.heap.push { cls:= .type "list",data:= .seq ([]:List aj).toArray } }:am)=s3 at I3⊢;have st3:tn 0 s3.heap:=by
  rw[←hs3];exact T.keep _ _ _ st2 λb _ o e=>old b o e
 have fpo3:∀b∈fp,∃o,s3.heap.get? b=aa o:=by rw[←hs3];exact fpo
 clear fpo old hs3;refine wpAny_newFunctionEnv S.cell' (by intro y hy;simp at hy) (λh1 hns1 hsb1=>?_) S.kind;have hk1:∀b o,s3.heap.get? b=aa o→h1.get? b=aa o:=λb o e=>hsb1.extBut b o (bS (aQ e)) (aO _ e);have I4:=Pt (tk:=s3.toks+([]:List (ah×aj)).length) I3 S f3 fpo3 hns1 hk1;have st4:tn 0 h1:=T.keep _ _ _ st3 λb _ o e=>hk1 b o e;have stat:∀{H':Hp},(∀b∈fp,H' b=none)→ ∀b∈fp,qA (pS X scope N s3 (nG H2 s2.heap.objs.size (.bP [])) fp ag) [] H' b:=λhn b hb=>ZQ I3 S hb (f3 b hb) (fpo3 b hb) (hn b hb);have loop:∀s4:am,s4={ s3 with heap:=h1,toks:=s3.toks+([]:List (ah×aj)).length }→
   dY (aB X.prog X.w) X.A (.compLoop (.ListComp elt [⟨tg,iter,ifs,0⟩] scope pos) 0 (.ref it) (.ref s2.heap.objs.size) (compEnvC scope (qc X.env.cells scope.names []) s3.heap.objs.size X.env))
    (compPost (aB X.prog X.w) X.A X.xe use Qf (.ref s2.heap.objs.size) s3.heap.objs.size) s4:=by
  rintro s4 rfl;refine TR (λn s'=>∃i σ' H',my (pS X scope N s3 (nG H2 s2.heap.objs.size (.bP [])) fp ag) [] σ' H' s'∧tn i s'.heap∧(∀b∈fp,H' b=none)∧W i n σ' H') ?_ m0 ⟨0,_,_,I4,st4,λb hb=>(f3 b hb).1,w0⟩;rintro n s5 ⟨i,σ5,H5,I5,st5,fr5,w5⟩;obtain ⟨stop,qn⟩ |⟨go,M,hM,step⟩:=turn i n σ5 H5 w5
  ·refine nE (T.done (pS X scope N s3 (nG H2 s2.heap.objs.size (.bP [])) fp ag) rfl rfl rfl hc i [] s5 σ5 H5 _ I5 (stat fr5) st5 stop) λr s6 ⟨hr,I6⟩=>?_;subst hr;exact fin I3 f3 I6 qn
  ·refine nE (T.item (pS X scope N s3 (nG H2 s2.heap.objs.size (.bP [])) fp ag) rfl rfl rfl hc i [] s5 σ5 H5 _ I5 (stat fr5) st5 go) λr s6 ⟨u,hr,h6⟩=>?_;subst hr;refine nE h6 λ_ s7 ⟨x,H7,I7,r7,y7,st7,fr7⟩=>?_;have I7':=I7.pinned (stat fr7) (T.obj _ _ st7);obtain⟨g,tt,te,hg,ht,he,q⟩:=step x H7 y7 s3 (nG H2 s2.heap.objs.size (.bP [])) fp ag;have again:∀{s8:am}{σ8:St}{H8:Hp},my (pS X scope N s3 (nG H2 s2.heap.objs.size (.bP [])) fp ag) ([]++yi fp s7.heap) σ8 H8 s8→M σ8 H8→
     ∃m,m<n∧ ∃i σ' H',my (pS X scope N s3 (nG H2 s2.heap.objs.size (.bP [])) fp ag) [] σ' H' s8∧tn i s8.heap∧(∀b∈fp,H' b=none)∧W i m σ' H':=λ{s8 σ8 H8} I8 n8=>by
    obtain⟨m',hm,w8⟩:=hM σ8 H8 n8;refine⟨m',hm,i+1,σ8,H8,I8.unpinned,T.keep _ _ _ st7 λb hb o e=>(I8.pin (b,o) (cp _ (cp _ (Bb hb e)))).1,λb hb=>?_,w8⟩;obtain⟨o,e,d⟩:=T.obj _ _ st7 b hb;exact(I8.pin (b,o) (cp _ (cp _ (Bb hb e)))).2.1
   refine nE (hg _ s7 σ5 H7 x u _ I7' r7 q) λ_ s8 ⟨σ8,H8,I8,q8⟩=>?_;refine nE (ht _ s8 σ8 H8 _ I8 q8) λb s9 ⟨H9,I9,q9⟩=>?_;cases b with
   |false=>exact again I9 q9
   |true=>
    refine nE (he _ s9 σ8 H9 _ I9 q9) λy s10 ⟨yv,H10,I10,r10,ys,hl,hz,qM⟩=>?_;exact nE (Hk _ s10 σ8 H10 (.ref s2.heap.objs.size) [yv] (.ref s2.heap.objs.size) [y] (λ_ H'=>M σ8 H') I10 rfl (.cons r10 .nil) ⟨_,ys,yv,rfl,rfl,hl,hz,qM⟩) λ_ s11 ⟨_,H11,I11,_,q11⟩=>again I11 q11
 exact codeAny_compStart_list (loop _ rfl) (T.self _ 0 _ _ _ st4 (loop _ rfl))
def Th (hx:X.xe=λ_ _=>False) (hc:X.calm=true) (S:ny X scope N k fr) (hi:PI X tg iter wi)
  (hs:∀x,dF iter X.env x=pure x:=by intro _;rfl):PE X (.ListComp elt [⟨tg,iter,ifs,0⟩] scope pos) (Ar X scope N k fr tg ifs elt wi):=by
 intro ag s σ H Q I h;rw[eval_ListComp];refine Nl hx hc S hi I (λ{s3 s6 H3 H5 fp σ5 l a} I3 f3 I6 qn=>?_) h hs;obtain⟨m6,ns6,_⟩:=I6.loc;exact⟨m6,ns6,λh' sb=>⟨.ref l,H5,M3 I3 f3 I6 sb,rfl,qn⟩⟩
def VP (hx:X.xe=λ_ _=>False) (hc:X.calm=true) (S:ny X scope N k fr) (hi:PI X tg iter wi)
  (hN:X.N.Nodup) (hxi:X.N[i]? =aa x) (hxl:sZ X.env.scope x) (hw:eG (.ListComp elt [⟨tg,iter,ifs,0⟩] scope pos) (aa (.Name x pos')) spos.line X.env=pure true) (hf:X.fn x=true∨X.env.scope.names.lookup x=aa .local)
  (hs:∀x,dF iter X.env x=pure x:=by intro _;rfl):PS X (.Assign [.Name x pos'] (.ListComp elt [⟨tg,iter,ifs,0⟩] scope pos) spos) (Eo (Ar X scope N k fr tg ifs elt wi) (Dt i)):=by
 intro ag s σ H D I h;rw[exec_Assign_Name_used x pos' _ spos hw];refine au (wpAny_standAt (au ?_));rw[arm_evalThenUse_ListComp];refine au ?_;refine Nl (Qf:=λ_ s'=>av (aB X.prog X.w) X.A (pure ()) (λ_ s2=>av (aB X.prog X.w) X.A (pure Flow.next) (SP X ag D) X.xe s2) X.xe s') hx hc S hi I (λ{s3 s6 H3 H5 fp σ5 l a} I3 f3 I6 qn=>?_) h hs;have IX:my X ag σ H5 s6:=M3 (h':=s6.heap) I3 f3 I6 ⟨rfl,λ_ _=>rfl⟩;obtain⟨m6,ns6,_⟩:=I6.loc;have ns6:s6.heap.Ns s3.heap.objs.size m6:=ns6;have frC:H5 s3.heap.objs.size=none:=I6.free;have fC:qA X ag H5 s3.heap.objs.size:=I3.fpOk (aA _) frC;refine kC (HJ IX hN hxi hxl (v:= .ref l) rfl (λs7 I7 ⟨b,sb,hb⟩=>?_) hf);have hbC:s3.heap.objs.size≠b:=by
  obtain rfl |hb:=hb
  ·exact fC.2.1
  ·exact bz (fC.2.2.2.2.1 _ _ hb)
 refine⟨m6,ns6.sameBut sb hbC,λh' sb2=>aM (aM ⟨_,H5,?_,qn⟩)⟩;refine my.call' (s':={ s7 with heap:=h' }) (ch:=[s3.heap.objs.size]) I7 rfl ⟨λc o e n hfs hex=>?_,λc o e n hfs hex=>?_,λc o e n _=>n,λc o e hex=>?_,λ_ _ q=>q,λ_ _ _ q=>q,λ_ ps q=>⟨#[],by simpa using q⟩⟩ (λc o e=>?_) I7.bare λc hcm=>?_
 ·exact(sb2.2 c (λz=>hex (by simp [z]))).trans e
 ·exact⟨o.slots,(sb2.2 c (λz=>hex (by simp [z]))).trans e⟩
 ·exact⟨o,(sb2.2 c (λz=>hex (by simp [z]))).trans e⟩
 ·refine(I7.cG c o e).stay (λd v hd q=>(sb2.2 d ?_).trans q) (λ_ q=>q) λ_ _ q=>q;rintro rfl;obtain rfl |hd:=hd
  ·rw[frC]at e;cases e
  ·rw[frC]at hd;cases hd
 ·rw[bh.mp hcm];exact⟨fC.2.2.2.1,fC.2.1,fC.2.2.2.2.1,fC.2.2.2.2.2⟩
def F2 (x:ah):It:=⟨λi _=>i<x.cps.size,λi H v H'=>H'=H∧ ∃c,x.cps[i]? =aa c∧v= .str ⟨#[c]⟩,λi _=>i=x.cps.size⟩
def Kl{P:bi}{w:aR}{K:ao}{tg:Expr}(it:ai) (x:ah) (t:Tok) (ty:String)
    (hn: ["enumerate", "zip", "dict_itemiterator", "dict_reverseitemiterator", "odict_iterator", "itertools.zip_longest", "itertools.pairwise"].contains ty=false)
    (hW:∀A':bt,A'.handled=none→Walks P w A' it [it] [it] x.cps.size (SignAt x) (λi h=>h.IsStrIter it ty x t i))
    (hself:∀(A:bt) (i:Nat) (s:am) (Q:aj→am→Prop) (E:aj→am→Prop),s.heap.IsStrIter it ty x t i→Q (.ref it) s→av (aB P w) A (dy (.ref it)) Q E s) :
    rm P w K tg (F2 x) [it] it (λi h=>h.IsStrIter it ty x t i) where
  mem:=by simp
  obj:=λi h st b hb=>by
    have e:b=it:=by simpa using hb
    subst e;obtain⟨o,e,c,d⟩:=st;exact⟨o,e,λv z=>by rw[d]at z;cases z⟩
  keep:=λi h h' st k=>by
    obtain⟨o,e,r⟩:=st;exact⟨o,k it (by simp) o e,r⟩
  item:=by
    intro X hP hw hK hc i ag s σ H E I hf st hg;subst hP hw hK;obtain⟨f0,f1,f2,f3,f4,f5⟩:=hf it (by simp);refine(hW X.A (I.ok.hd hc)).item i s _ _ hg st λv h' tk hv st' kk=>?_;obtain⟨c,u,hc',rfl⟩:=hv;have I1:my X ag σ H { s with heap:=h',toks:=tk }:=I.turned (λb o hb e=>kk b o (by simpa using hb) e) f0 f1 f3 f4 f5;obtain⟨o,e,c',d⟩:=id st';exact⟨_,rfl,AW (s:={ s with heap:=h',toks:=tk }) e c' d hn ⟨.str ⟨#[c]⟩,H,I1,⟨u,rfl⟩,⟨rfl,c,hc',rfl⟩,st',λb hb=>(hf b hb).1⟩⟩
  done:=by
    intro X hP hw hK hc i ag s σ H E I hf st hg;subst hP hw hK;obtain⟨f0,f1,f2,f3,f4,f5⟩:=hf it (by simp);have hi:i=x.cps.size:=hg;subst hi;exact(hW X.A (I.ok.hd hc)).done s _ _ st λh' tk kk=>⟨rfl,I.turned (λb o hb e=>kk b o (by simpa using hb) e) f0 f1 f3 f4 f5⟩
  self:=hself
def Ff:n_ X (bB .LtE) (λx y H Q=>∃i j,x= .str i∧y= .str j∧Q (.bl (!decide (j.cps.toList<i.cps.toList))) H):=by
 intro ag s σ H x y v u Q I rx ry h;obtain⟨i,j,rfl,rfl,q⟩:=h;obtain⟨t,rfl⟩:=rx;obtain⟨t',rfl⟩:=ry;exact PySem.P.le_str (yp I q rfl)
def By (a b:Nat):(([a]:List Nat)< [b])↔a<b:=by
 rw[List.cons_lt_cons_iff];constructor
 ·rintro(h |⟨_,h⟩)
  ·exact h
  ·exact absurd h (List.lt_irrefl _)
 ·exact .inl
def Db:V→Option Int→Option Int→Hp→VK→Prop:=λx lo hi H Q=>∃z,x= .str z∧z.length≤sizeLine∧Q (.str (cV z lo hi)) H
def v6:um X Db:=by
 intro ag s σ H x v vl vu lo hi sl Q I rx hs pl pu h;obtain⟨z,rfl,hz,q⟩:=h;obtain⟨t,rfl⟩:=rx;refine⟨"str",_,F.slot_str_getitem.lookup,jJ _ _ _,?_⟩;obtain⟨o,ho,hc,hd⟩:=hs;have fin:∀t' k,EP X ag σ Q (.str (cV z lo hi) t') { s with toks:=k }:=λt' k=>⟨.str _,H,I.tok _,⟨t',rfl⟩,q⟩;have le:=aY (Txt.slice_le z lo hi) hz;cases pl with
 |none=>
  cases pu with
  |none=>exact gU (l:=none) (u:=none) (st:=none) ⟨o,ho,hc,hd⟩ rfl (gX ⟨le,fin⟩)
  |int j u=>exact gU (l:=none) (u:=aa (j,u)) (st:=none) ⟨o,ho,hc,hd⟩ rfl (gX ⟨le,fin⟩)
 |int i w=>
  cases pu with
  |none=>exact gU (l:=aa (i,w)) (u:=none) (st:=none) ⟨o,ho,hc,hd⟩ rfl (gX ⟨le,fin⟩)
  |int j u=>exact gU (l:=aa (i,w)) (u:=aa (j,u)) (st:=none) ⟨o,ho,hc,hd⟩ rfl (gX ⟨le,fin⟩)
def Bh (xs:List Nat) (lo hi:Option Int):List Nat:=(xs.drop (HT.sIx xs.length 0 lo)).take (HT.sIx xs.length xs.length hi - HT.sIx xs.length 0 lo)
def JU (lo hi:Option Int) (n:Nat):hU lo hi 1 n=sliceRange ((HT.sIx n 0 lo:Nat):Int) ((HT.sIx n n hi:Nat):Int) 1:=by
 have one:(1:Int) > 0:=by decide
 have a:∀(v:Option Int) (d:Nat),(match v with |none=>(d:Int) |some i=>(if(1:Int) > 0 then max 0 (min (if i<0 then i+(n:Int) else i) (n:Int)) else max (-1) (min (if i<0 then i+(n:Int) else i) ((n:Int) - 1))))=((HT.sIx n d v:Nat):Int):=by
  intro v d;cases v with
  |none=>rfl
  |some i=>
   simp only[HT.sIx,one,if_true];by_cases h:i<0
   ·simp only[h,if_true];lia
   ·simp only[h,if_false];lia
 have l:=a lo 0;have u:=a hi n;unfold hU;simp only[one,if_true]at l u⊢
 first
  |rw[l,u]
  | (cases lo<;>cases hi<;>simp_all)
def SM (z:ah) (lo hi:Option Int):(cV z lo hi).cps.toList=Bh z.cps.toList lo hi:=by
 have hn:z.length=z.cps.toList.length:=by simp [io]
 have hp:(hU lo hi 1 z.length).filterMap (z.cps[·]?)=Bh z.cps.toList lo hi:=by
  rw[JU,iN,jo,hn];rfl
 unfold cV;split
 ·rename_i h;have h1:(hU lo hi 1 z.length).length=z.length:=by simpa using h
  rw[JU,iN,ay,lz]at h1;have le1:=HT.sIx_le z.length z.length (aA _) hi;unfold Bh;rw[←hn];have e0:HT.sIx z.length 0 lo=0∨z.length=0:=by lia
  have hz:z.cps.toList.length=z.length:=hn.symm;obtain e0 |e0:=e0
  ·rw[e0,dI,dB (by lia)]
  ·have:z.cps.toList=[]:=ly (by lia);rw[this];simp
 ·show(List.filterMap _ _).toArray.toList=_;rw[hp]
def O5 (hc:X.calm=true):nL X (.builtin "all") (λxs H Q=>∃(p:ai) (bs:List Bool),xs=[.ref p]∧oF X.K H p (bs.map V.bl)∧Q (.bl (bs.all id)) H):=by
 intro ag s σ H xs us Q I r h;obtain⟨p,bs,rfl,hq,q⟩:=h;obtain⟨u,rfl,rx⟩:=tY r;cases rx;obtain⟨eH,r',pl,hz⟩:=I.list hq;have hlen:bs.length=eH.length:=by have:=r'.length;rw[ay]at this;exact this
 have hp:p<s.heap.objs.size:=by obtain⟨o,n,e,_⟩:=pl;exact aQ e
 have hd:X.A.in1.handled=none:=I.ok.hd hc;have get:∀(i:Nat) (v:aj),eH.toArray[i]? =aa v→v= .bool (bs.getD i false):=λi v e=>by
  have e':eH[i]? =aa v:=by simpa using e
  have hi:i<bs.length:=by rw[hlen];exact(b8.mp e').1
  obtain⟨u,hu,ru⟩:=r'.get (i:=i) (x:= .bl (bs.getD i false)) (by rw[aV,aS hi,bv,aS hi];rfl);rw[e']at hu;cases hu;exact ru
 refine call_all_walk (eV pl.isList ?_);refine⟨s.heap.objs.size,_,_,_,_,_,λi=>bs.getD i false,rfl,jr hd _ p (bS hp) eH.toArray,⟨⟨_,bI _ rfl,rfl,rfl⟩,pl.isList.push _⟩,λi v s' Q' E' hP hQ=>?_,λh' tk hk=>?_⟩
 ·rw[get i v hP];exact d6 hQ
 ·have e:(bx eH.toArray.size).all (λi=>bs.getD i false)=bs.all id:=by
   rw[bf,←hlen];have:bs=(bx bs.length).map λi=>bs.getD i false:=by
    apply lM;intro i;rw[aV];by_cases hi:i<bs.length
    ·rw[fN hi,aS hi];show aa bs[i]=aa (bs.getD i false);rw[bv,aS hi];rfl
    ·rw[jd (by lia),jd (by simpa using hi)];rfl
   conv=>rhs;rw[this]
   rw[fv];rfl
  have I1:my X ag σ H { s with heap:=h',toks:=tk }:=I.kept λb o e=>hk b o (λz=>by
   have z':b=s.heap.objs.size:=by simpa using z
   rw[z']at e;exact absurd (aQ e) (cO _)) (aO _ e)
  exact⟨.bl _,H,I1,by rw[e];exact rfl,q⟩
def Xw:nL X (.builtin "isinstance") (λxs H Q=>∃x t c b,xs=[x, .ty c]∧o8 X.K H x t∧ge X.K t (.type c)=aa b∧Q (.bl b) H):=by
 intro ag s σ H xs us Q I r h;obtain⟨x,t,c,b,rfl,ty,e,q⟩:=h;obtain⟨u,v,rfl,rx,ry⟩:=N3 r;cases(show v=iV c from ry);exact VY I rx ty e λtk=>⟨.bl b,H,I.tok _,rfl,q⟩
def Pr (l:ai) (items:Array aj) (n:Nat) (b:ai) (items2:Array aj) (n2:Nat) (dd:Option ai) (sl:Array (Option aj)) (hs0:¬(!items.isEmpty&&fi (items.size+items2.size))=true) (hs1:items.size≤sizeLine) (hs2:items.size+items2.size≤sizeLine+1) :
  Meets (cu.«list.extend» ⟨[.ref l, .ref b],[]⟩) (λ_ R s=>s.heap.get? l=aa { cls:= .type "list",dict:=none,data:= .seq items n,slots:= #[] }∧s.heap.get? b=aa { cls:= .type "tuple",dict:=dd,data:= .seq items2 n2,slots:=sl }∧R (.ok (.ret cK)) { s with heap:=s.heap.update l (jI λx=>x++items2),toks:=s.toks }):=
 .of_wp λprog w A R s h=>by
  obtain⟨hp,g,d,tk,os⟩:=s;obtain⟨hl,hb,h⟩:=h;have f1:=AutoSeq1.idx_int;have f2:=AutoSeq1.sub_tuple_tuple;have f3:=AutoSeq1.sub_list_list;have f4:=AutoSeq1.sub_tuple_list;have f5:=AutoSeq1.sub_list_tuple;have hz':(items++items2).size≤sizeLine+1:=by rw[Array.size_append];exact hs2
  wp_walk using(wpAny_updateSeq hl rfl (hz:=hs1) (_hz':=hz')),lO hl,lO hb;exact⟨_,rfl,h⟩
def Gz (K:ao):V→List V→Hp→VK→Prop:=λx vs H Q=>∃l b xs zs,x= .ref l∧vs=[.ref b]∧H l=aa (.bP xs)∧oY K H b zs∧xs.length+zs.length≤sizeLine∧Q .ca (nG H l (.bP (xs++zs)))
def Wc:Cf X "list.extend" (Gz X.K):=by
 intro ag s σ H x vs v us Q I rx rv h;obtain⟨l,b,xs,zs,rfl,rfl,hH,hB,hz,q⟩:=h;cases rx;obtain⟨u,rfl,ru⟩:=rv.one;cases ru;obtain⟨z,eH,n,r,hl,e⟩:=I.lstM hH;obtain⟨its2,r2,ht,hz2⟩:=I.tuple hB;obtain⟨⟨cls,dd,data,sl⟩,e2,hc,n2,hd⟩:=ht;simp only at hc hd;subst hc hd;have hl2:=r2.length;have hsz:eH.toArray.size+its2.toArray.size≤sizeLine:=by rw[bf,bf];lia
 have hlong:¬(!eH.toArray.isEmpty&&fi (eH.toArray.size+its2.toArray.size))=true:=by
  rw[EF hsz,gh];exact cX
 refine fy kH ⟨_,e,rfl⟩ kM (lH _ _)
  (Pr l eH.toArray n b its2.toArray n2 dd sl hlong (by rw[bf];lia) (by lia)) ⟨e,e2,?_⟩
 refine⟨.ca,_,I.lset (its':=eH++its2) hH e (by simp) (r.append r2) ?_,rfl,q⟩;rw[bc];lia
def NO (K:ao):V→List V→Hp→VK→Prop:=λx vs H Q=>∃(z:ah) (b:ai) (ys:List ah),x= .str z∧vs=[.ref b]∧oF K H b (ys.map V.str)∧(ys.map (·.length)).sum+ys.length*z.length≤16777216∧Q (.str (du z ys)) H
def Td:∀{us:List aj},mM (ys.map V.str) us→StrsAre us ys:=by
 induction ys with
 |nil=>
  intro us r;cases r;exact .nil
 |cons y ys ih=>
  intro us r;cases r with
  |cons a b=>
   obtain⟨t,rfl⟩:=a;exact .cons y t (ih b)
def T9:Cf X "str.join" (NO X.K):=by
 intro ag s σ H x vs v us Q I rx rv h;obtain⟨z,b,ys,rfl,rfl,hB,hz,q⟩:=h;obtain⟨t,rfl⟩:=rx;obtain⟨u,rfl,ru⟩:=rv.one;cases ru;obtain⟨eH,r,pl,_⟩:=I.list hB;refine join_list pl.isList (by simpa using Td r) hz λt' k=>⟨.str (du z ys),H,I.tok _,⟨t',?_⟩,q⟩;show fY (cu.Str.glued z ys) t'=_;rw[StrLaws.glued_eq_join]
inductive W where
  |ca |bl (b:Bool) |int (i:Int) |str (x:ah) |bW (ws:List W) |ref (a:ai) |c7 (ns:List Int)
inductive Ob where
  |bP (ws:List W)
  |dct (gN:List (List Int×W))
  |dk (gN:List (Key×W))
  |ins (cl:ah) (fs:List (ah×W))
abbrev lr:=ai→Option Ob
def bR (S:lr) (a:ai) (o:Ob):lr:=λb=>if b=a then aa o else S b
def xu (K:ao) (H:Hp) (a:ai) (xs:List V):Prop:=
 (∃o,H a=aa (.frz o (.bP xs)))∨
  ∃(o:aG) (eH:Array aj) (n:Nat),K.lookup a=aa o∧o.cls= .type "list" ∧o.dict=none∧o.data= .seq eH n∧eH.size≤sizeLine∧mM xs eH.toList
mutual
inductive nK (K:ao) (H:Hp):W→V→Prop
 |ca:nK K H .ca .ca
 |bl (b:Bool):nK K H (.bl b) (.bl b)
 |int (i:Int):nK K H (.int i) (.int i)
 |str (x:ah):nK K H (.str x) (.str x)
 |ref (a:ai):nK K H (.ref a) (.ref a)
 |c7 {a:ai}{ns:List Int}:xu K H a (ns.map V.int)→nK K H (.c7 ns) (.ref a)
 |bW {a:ai}{vs:List V}{ws:List W}:H a=aa (.bW vs)→mC K H ws vs→nK K H (.bW ws) (.ref a)
inductive mC (K:ao) (H:Hp):List W→List V→Prop
 |nil:mC K H [] []
 |cons {w:W}{v:V}{ws:List W}{vs:List V}:nK K H w v→mC K H ws vs→mC K H (w::ws) (v::vs)
end
structure nH (H:Hp) (S:lr) (H':Hp) (S':lr):Prop where
  bW:∀b xs,H b=aa (.bW xs)→H' b=aa (.bW xs)
  frz:∀b o u,H b=aa (.frz o u)→H' b=aa (.frz o u)
  fr:∀b xs,H b=aa (.bP xs)→S b=none→H' b=aa (.bP xs)∧S' b=none
  all:∀b o,H b=aa o→ ∃o',H' b=aa o'
def Sub (S S':lr):Prop:=∀a o,S a=aa o→S' a=aa o
section
variable {K:ao}{H H' H1 H2:Hp}{S S' S1 S2:lr}
def mR:bR S a o a=aa o:=by unfold bR;rw[if_pos rfl]
def nO (h:b≠a):bR S a o b=S b:=by unfold bR;rw[if_neg h]
def pI:bR (bR S a o) a o'=bR S a o':=by funext b;unfold bR;split<;>rfl
def nH.refl:nH H S H S:=⟨λ_ _ h=>h,λ_ _ _ h=>h,λ_ _ h g=>⟨h,g⟩,λ_ o h=>⟨o,h⟩⟩
def nH.trans (a:nH H S H1 S1) (b:nH H1 S1 H2 S2):nH H S H2 S2:=⟨λc xs h=>b.bW c xs (a.bW c xs h),λc o u h=>b.frz c o u (a.frz c o u h),
 λc o h g=>by
  obtain⟨h1,g1⟩:=a.fr c o h g;exact b.fr c o h1 g1,λc o h=>by
  obtain⟨o1,h1⟩:=a.all c o h;exact b.all c o1 h1⟩
def nH.new (h:H p=none):nH H S (nG H p o) S:=
  ⟨λb xs e=>by rw[og (pO e h)];exact e,λb ob u e=>by rw[og (pO e h)];exact e,
   λb ob e g=>⟨by rw[og (pO e h)];exact e,g⟩,λb ob e=>⟨ob,by rw[og (pO e h)];exact e⟩⟩
def nH.newS (h:H p=none):nH H S (nG H p o) (bR S p ob):=
  ⟨λb xs e=>by rw[og (pO e h)];exact e,λb ob u e=>by rw[og (pO e h)];exact e,
   λb ob e g=>⟨by rw[og (pO e h)];exact e,by rw[nO (pO e h)];exact g⟩,λb ob e=>⟨ob,by rw[og (pO e h)];exact e⟩⟩
def nH.mut (h:H p=aa u) (hs:S p=aa ob0) (ht:∀xs,u≠ .bW xs) (hf:∀ob q,u≠ .frz ob q):nH H S (nG H p o) (bR S p ob):=
  ⟨λb xs e=>by rw[og (AJ e h λz=>ht xs z.symm)];exact e,λb ob q e=>by rw[og (AJ e h λz=>hf ob q z.symm)];exact e,
   λb ob e g=>by
     have hb:b≠p:=by rintro rfl;rw[hs]at g;cases g
     exact⟨by rw[og hb];exact e,by rw[nO hb];exact g⟩,λb ob e=>by
     by_cases hb:b=p
     · subst hb;exact⟨o,pD⟩
     · exact⟨ob,by rw[og hb];exact e⟩⟩
def nH.bP (h:H p=aa (.bP xs)) (hs:S p=aa ob0):nH H S (nG H p o) (bR S p ob):= .mut h hs (λ_ z=>nomatch z) λ_ _ z=>nomatch z
def nH.drop (h:Sub S' S):nH H S H S':=⟨λ_ _ h=>h,λ_ _ _ h=>h,λb o e g=>⟨e,by
 cases q:S' b with
 |none=>rfl
 |some z=>rw[h b z q]at g;cases g⟩,λ_ o h=>⟨o,h⟩⟩
def nH.free (e:nH H S H' S') (h:H' p=none):H p=none:=by
 cases q:H p with
 |none=>rfl
 |some o=>obtain⟨o',z⟩:=e.all p o q;rw[h]at z;cases z
def nH.fz (e:nH H S H' S') (h:xu K H a xs):xu K H' a xs:=by
 obtain ⟨o,h⟩ |h:=h
 ·exact .inl ⟨o,e.frz _ _ _ h⟩
 ·exact .inr h
def xu.sq (h:xu K H a xs):oF K H a xs:=by
 obtain ⟨o,h⟩ |h:=h
 ·exact .inl (.inr ⟨o,h⟩)
 ·exact .inr h
mutual
theorem nK.ext (e:nH H S H' S'):nK K H w v→nK K H' w v
 | .ca=> .ca
 | .bl b=> .bl b
 | .int i=> .int i
 | .str x=> .str x
 | .ref a=> .ref a
 | .c7 h=> .c7 (e.fz h)
 | .bW h hs=> .bW (e.bW _ _ h) (mC.ext e hs)
theorem mC.ext (e:nH H S H' S'):mC K H ws vs→mC K H' ws vs
 | .nil=> .nil
 | .cons h hs=> .cons (nK.ext e h) (mC.ext e hs)
end
theorem mC.length:∀{ws:List W}{vs:List V},mC K H ws vs→ws.length=vs.length
 |_,_, .nil=>rfl
 |_,_, .cons _ hs=>congrArg (· +1) (mC.length hs)
theorem mC.get:∀{ws:List W}{vs:List V}{i:Nat}{w:W},mC K H ws vs→ws[i]? =aa w→ ∃v,vs[i]? =aa v∧nK K H w v
 |_,_,_,_, .nil,e=>by simp at e
 |_,_,0,_, .cons h _,e=>by simp at e;subst e;exact⟨_,rfl,h⟩
 |_,_,i+1,w, .cons _ hs,e=>by
  obtain⟨v,h1,h2⟩:=mC.get (i:=i) (w:=w) hs (by simpa using e);exact⟨v,by simpa using h1,h2⟩
theorem mC.append:∀{ws us:List W}{vs xs:List V},mC K H ws vs→mC K H us xs→mC K H (ws++us) (vs++xs)
 |_,_,_,_, .nil,h=>h
 |_,_,_,_, .cons r t,h=> .cons r (mC.append t h)
theorem mC.take:∀{ws:List W}{vs:List V}(n:Nat),mC K H ws vs→mC K H (ws.take n) (vs.take n)
 |_,_,0,_=> .nil
 |_,_,_+1, .nil=> .nil
 |_,_,n+1, .cons r t=> .cons r (mC.take n t)
theorem mC.drop:∀{ws:List W}{vs:List V}(n:Nat),mC K H ws vs→mC K H (ws.drop n) (vs.drop n)
 |_,_,0,r=>r
 |_,_,_+1, .nil=> .nil
 |_,_,n+1, .cons _ t=>mC.drop n t
def mC.one (h:nK K H w v):mC K H [w] [v]:= .cons h .nil
theorem mC.ofInts:∀(ns:List Int),mC K H (ns.map W.int) (ns.map V.int)
 | []=> .nil
 |n::ns=> .cons (.int n) (mC.ofInts ns)
end
def rQ (K:ao) (H:Hp) (a:ai):Ob→Prop
 | .bP ws=>∃vs,H a=aa (.bP vs)∧mC K H ws vs
 | .dct gN=>∃ps:List (List Key×V),H a=aa (.dT ps)∧aN (λq p=>p.1=q.1.map Sum.inl∧nK K H q.2 p.2) gN ps
 | .dk gN=>∃ps:List (Key×V),H a=aa (.dK ps)∧aN (λq p=>p.1=q.1∧nK K H q.2 p.2) gN ps
 | .ins cl fs=>∃(C dx:ai) (ps:List (ah×V)),bQ K bj cl=aa (aa (.ref C))∧H a=aa (.ins C dx ps)∧aN (λq p=>p.1=q.1∧nK K H q.2 p.2) fs ps
def mD (K:ao) (H:Hp) (S:lr):Prop:=∀a o,S a=aa o→rQ K H a o
section
variable {K:ao}{H H':Hp}{S S' S0 S0':lr}{a b p:ai}{o:Ob}
def Sub.refl:Sub S S:=λ_ _ h=>h
def Sub.trans (h:Sub S1 S2) (g:Sub S2 S3):Sub S1 S3:=λa o e=>g a o (h a o e)
def Sub.new (h:S a=none):Sub S (bR S a o):=λb u e=>by rw[nO (by rintro rfl;rw[h]at e;cases e)];exact e
def mD.sub (h:mD K H S') (q:Sub S S'):mD K H S:=λa o e=>h a o (q a o e)
def rQ.some (h:rQ K H a o):∃u,H a=aa u:=by
 cases o with
 |bP ws=>obtain⟨vs,e,_⟩:=h;exact⟨_,e⟩
 |dct gN=>obtain⟨vs,e,_⟩:=h;exact⟨_,e⟩
 |dk gN=>obtain⟨vs,e,_⟩:=h;exact⟨_,e⟩
 |ins C fs=>obtain⟨_,_,vs,_,e,_⟩:=h;exact⟨_,e⟩
def mD.free (h:mD K H S) (e:H p=none):S p=none:=by
 cases q:S p with
 |none=>rfl
 |some o=>obtain⟨u,z⟩:=(h p o q).some;rw[e]at z;cases z
def rQ.keep (e:nH H S0 H' S0') (k:∀u,H a=kY u→H' a=kY u) (h:rQ K H a o):rQ K H' a o:=by
 cases o with
 |bP ws=>obtain⟨vs,e1,r⟩:=h;exact⟨vs,k _ e1,r.ext e⟩
 |dct gN=>obtain⟨vs,e1,r⟩:=h;exact⟨vs,k _ e1,Paired.mapP r λ_ _ z=>⟨z.1,z.2.ext e⟩⟩
 |dk gN=>obtain⟨vs,e1,r⟩:=h;exact⟨vs,k _ e1,Paired.mapP r λ_ _ z=>⟨z.1,z.2.ext e⟩⟩
 |ins C fs=>obtain⟨C,dx,vs,e0,e1,r⟩:=h;exact⟨C,dx,vs,e0,k _ e1,Paired.mapP r λ_ _ z=>⟨z.1,z.2.ext e⟩⟩
def mD.new (h:mD K H S) (e:H p=none):mD K (nG H p u) S:=λa o q=>
 (h a o q).keep (.new (S:=S) e) λv z=>by rw[og (pO z e)];exact z
def mD.put_lst (h:mD K H S) (e:H p=none) (r:mC K (nG H p (.bP vs)) ws vs):mD K (nG H p (.bP vs)) (bR S p (.bP ws)):=λa o q=>by
 by_cases ha:a=p
 ·subst ha;rw[mR]at q;cases q;exact⟨vs,pD,r⟩
 ·rw[nO ha]at q;exact h.new e a o q
def mD.set_lst (h:mD K H S) (e:S a=aa (.bP ws0)) (r:mC K H ws vs):nH H S (nG H a (.bP vs)) (bR S a (.bP ws))∧mD K (nG H a (.bP vs)) (bR S a (.bP ws)):=by
 obtain⟨vs0,e0,_⟩:=h a _ e;have x:nH H S (nG H a (.bP vs)) (bR S a (.bP ws)):= .bP e0 e;refine⟨x,λb o q=>?_⟩;by_cases hb:b=a
 ·subst hb;rw[mR]at q;cases q;exact⟨vs,pD,r.ext x⟩
 ·rw[nO hb]at q;exact(h b o q).keep x λu z=>by rw[og hb];exact z
end
abbrev mU:=List (Option W)
abbrev WK:=W→lr→Prop
abbrev WX:=ah→mU→lr→Prop
abbrev WE:=WX→mU→lr→WK→Prop
abbrev WT:=WX→mU→lr→(Bool→lr→Prop)→Prop
abbrev WA:=WX→mU→lr→(List W→lr→Prop)→Prop
structure mY where
  nx:mU→lr→Prop
  rt:WK
  bk:mU→lr→Prop:=λ_ _=>False
  ct:mU→lr→Prop:=λ_ _=>False
abbrev WS:=WX→mY→mU→lr→Prop
abbrev WG:=W→mU→lr→(mU→lr→Prop)→Prop
abbrev mI:=List W→lr→WK→(ah→lr→Prop)→Prop
abbrev WI:=WX→mU→lr→(List W→(lr→Prop)→lr→Prop)→Prop
abbrev WL:=WX→mU→lr→(List W→lr→Prop)→Prop
def wD (K:ao) (H:Hp):Option W→Option V→Prop
 |none,_=>True
 |some w,aa v=>nK K H w v
 |some _,none=>False
def nj (K:ao) (H:Hp) (σW:mU) (σ:St):Prop:=aN (wD K H) σW σ
section
variable {K:ao}{H H':Hp}{S S':lr}
theorem wD.ext (e:nH H S H' S'):∀{w:Option W}{v:Option V},wD K H w v→wD K H' w v
 |none,_,_=>trivial
 |some _,aa _,h=>nK.ext e h
 |some _,none,h=>h.elim
def nj.ext (e:nH H S H' S') (h:nj K H σW σ):nj K H' σW σ:=Paired.mapP h λ_ _ r=>wD.ext e r
theorem nj.get:∀{σW:mU}{σ:St}{i:Nat}{w:W},nj K H σW σ→σW[i]? =aa (aa w)→ ∃v,σ[i]? =aa (aa v)∧nK K H w v
 |_,_,_,_, .nil,e=>by simp at e
 |_,_,0,_, .cons (b:=b) h _,e=>by
  simp at e;subst e;cases b with
  |none=>exact(show False from h).elim
  |some v=>exact⟨v,rfl,h⟩
 |_,_,i+1,w, .cons _ hs,e=>by
  obtain⟨v,h1,h2⟩:=nj.get (i:=i) (w:=w) hs (by simpa using e);exact⟨v,by simpa using h1,h2⟩
theorem nj.set (h:nK K H w v):∀{σW:mU}{σ:St}(i:Nat),nj K H σW σ→nj K H (σW.set i (aa w)) (σ.set i (aa v))
 |_,_,_, .nil=> .nil
 |_,_,0, .cons _ t=> .cons h t
 |_,_,i+1, .cons q t=> .cons q (nj.set h i t)
end
def oJ (K:ao) (H:Hp) (S:lr) (QW:WK) (Q:VK):Prop:=∀w S' v H',nH H S H' S'→nK K H' w v→mD K H' S'→QW w S'→Q v H'
def Bw (K:ao) (t:mU→lr→WK→Prop):TE:=λσ H Q=>∃σW S QW,nj K H σW σ∧mD K H S∧t σW S QW∧oJ K H S QW Q
def Ea (K:ao) (t:mU→lr→(Bool→lr→Prop)→Prop):TT:=λσ H Q=>∃σW S QW,nj K H σW σ∧mD K H S∧t σW S QW∧ ∀b S' H',nH H S H' S'→mD K H' S'→QW b S'→Q b H'
def Zm (K:ao) (t:mU→lr→(List W→lr→Prop)→Prop):TA:=λσ H Q=>∃σW S QW,nj K H σW σ∧mD K H S∧t σW S QW∧ ∀ws S' vs H',nH H S H' S'→mC K H' ws vs→mD K H' S'→QW ws S'→Q vs H'
def qk (K:ao) (H:Hp) (S:lr) (P:mU→lr→Prop) (Q:St→Hp→Prop):Prop:=∀σW S' σ H',nH H S H' S'→nj K H' σW σ→mD K H' S'→P σW S'→Q σ H'
structure Meets (K:ao) (H:Hp) (S:lr) (DW:mY) (D:rO):Prop where
  nx:qk K H S DW.nx D.nx
  rt:oJ K H S DW.rt D.rt
  bk:qk K H S DW.bk D.bk
  ct:qk K H S DW.ct D.ct
def KS (K:ao) (t:mY→mU→lr→Prop):TS:=λD σ H=>∃σW S DW,nj K H σW σ∧mD K H S∧t DW σW S∧Meets K H S DW D
def ZJ (K:ao) (t:WG):TG:=λv σ H Q=>∃w σW S P,nK K H w v∧nj K H σW σ∧mD K H S∧t w σW S P∧qk K H S P Q
def vN (K:ao) (J:It) (ws:List W) (G:lr→Prop) (H0:Hp) (S0:lr):Prop:=∀i S H,nH H0 S0 H S→mD K H S→G S→
 (∀w,ws[i]? =aa w→J.go i H∧ ∀x H',J.yld i H x H'→nH H S H' S∧mD K H' S∧nK K H' w x)∧(i=ws.length→J.stop i H)
def N' (K:ao) (t:mU→lr→(List W→(lr→Prop)→lr→Prop)→Prop):TI:=λσ H R=>∃σW S QW,nj K H σW σ∧mD K H S∧t σW S QW∧
 ∀ws G S' J H',nH H S H' S'→mD K H' S'→G S'→vN K J ws G H' S'→QW ws G S'→R J H'
def Md (K:ao) (t:mU→lr→(List W→lr→Prop)→Prop):TE:=λσ H Q=>∃σW S QW,nj K H σW σ∧mD K H S∧t σW S QW∧
 ∀ws S' vs a H',nH H S H' S'→H a=none→H' a=aa (.bP vs)→S' a=none→mC K H' ws vs→mD K H' S'→QW ws S'→Q (.ref a) H'
def r9 (K:ao) (sp:mI):Sp:=λvs H Q E=>∃ws S QW EW,mC K H ws vs∧mD K H S∧sp ws S QW EW∧oJ K H S QW Q∧
 ∀cl C S' H',bQ K bj cl=aa (aa (.ref C))→mD K H' S'→EW cl S'→E (.ref C) none H'
def tD (g h:aE) (H:Hp) (a C:ai):Prop:=g.get? a=none∧H a=none∧ ∃oe vs T oT ts,h.get? a=aa oe∧oe.cls= .ref C∧oe.data= .fields vs∧vs[1]? =aa (.ref T)∧
 g.get? T=none∧H T=none∧T≠a∧h.get? T=aa oT∧oT.data= .fields ts∧ts[3]? =aa .none
def rV (P:bi) (w:aR):wG:=λouter H s E e s'=>∃a C H',e= .ref a∧s'.os=s.os∧cc s'.gens∧Un (frs outer) [] H H' s.heap s'.heap∧nZ P w H' s'.heap∧tD s.heap s'.heap H' a C∧E (.ref C) none H'
structure oI (X:Cx) (E:WX):Prop where
  own:db (aB X.prog X.w) X.A X.env X.xe
  far:∀(ag:List (ai×aG)) (σ:St) (H:Hp) (s:am) (σW:mU) (cl:ah) (C a:ai) (H':Hp) (S':lr) (s':am),my X ag σ H s→nj X.K H σW σ→bQ X.K bj cl=aa (aa (.ref C))→
    s'.os=s.os→cc s'.gens→Un (frs X.stack) [] H H' s.heap s'.heap→nZ X.prog X.w H' s'.heap→tD s.heap s'.heap H' a C→mD X.K H' S'→E cl σW S'→X.xe (.ref a) s'
  near:∀(ag:List (ai×aG)) (σ:St) (H:Hp) (s:am) (σW:mU) (cl:ah) (C a:ai) (S:lr) (h':aE) (args:List aj),my X ag σ H s→nj X.K H σW σ→bQ X.K bj cl=aa (aa (.ref C))→
    aE.MadeExcOf s.heap h' a (.ref C) args→mD X.K H S→E cl σW S→X.xe (.ref a) { s with heap:=h' }
def JE (X:Cx) (e:Expr) (t:WE):Prop:=∀E,oI X E→PE X e (Bw X.K (t E))
def JT (X:Cx) (e:Expr) (t:WT):Prop:=∀E,oI X E→PT X e (Ea X.K (t E))
def JW (X:Cx) (e:Expr) (t:WT):Prop:=∀E,oI X E→PW X e (Ea X.K (t E))
def JA (X:Cx) (es:List Expr) (t:WA):Prop:=∀E,oI X E→PA X es (Zm X.K (t E))
def JS (X:Cx) (st:aW) (t:WS):Prop:=∀E,oI X E→PS X st (KS X.K (t E))
def sI (X:Cx) (st:List aW) (t:WS):Prop:=∀E,oI X E→qG X st (KS X.K (t E))
def JG (X:Cx) (tg:Expr) (t:WG):Prop:=∀E,oI X E→PG X tg (ZJ X.K t)
def JI (X:Cx) (tg iter:Expr) (t:WI):Prop:=∀E,oI X E→PI X tg iter (N' X.K (t E))
def JL (X:Cx) (e:Expr) (t:WL):Prop:=∀E,oI X E→PE X e (Md X.K (t E))
def PE.mono (h:PE X e t) (q:∀σ H Q,t' σ H Q→t σ H Q):PE X e t':=λag s σ H Q I z=>h ag s σ H Q I (q σ H Q z)
def PT.mono (h:PT X e t) (q:∀σ H Q,t' σ H Q→t σ H Q):PT X e t':=λag s σ H Q I z=>h ag s σ H Q I (q σ H Q z)
def PW.mono (h:PW X e t) (q:∀σ H Q,t' σ H Q→t σ H Q):PW X e t':=λwh ag s σ H Q I z=>h wh ag s σ H Q I (q σ H Q z)
def PA.mono (h:PA X e t) (q:∀σ H Q,t' σ H Q→t σ H Q):PA X e t':=λpos ag s σ H Q I z=>h pos ag s σ H Q I (q σ H Q z)
def PS.mono (h:PS X e t) (q:∀D σ H,t' D σ H→t D σ H):PS X e t':=λag s σ H D I z=>h ag s σ H D I (q D σ H z)
def qG.mono (h:qG X e t) (q:∀D σ H,t' D σ H→t D σ H):qG X e t':=λag s σ H D I z=>h ag s σ H D I (q D σ H z)
def PG.mono (h:PG X e t) (q:∀v σ H Q,t' v σ H Q→t v σ H Q):PG X e t':=λag s σ H v u Q I r z=>h ag s σ H v u Q I r (q v σ H Q z)
def PI.mono (h:PI X tg e t) (q:∀σ H R,t' σ H R→t σ H R):PI X tg e t':=λag s σ H R I z=>h ag s σ H R I (q σ H R z)
def jn (i:Nat) (_:WX) (σ:mU) (S:lr) (Q:WK):Prop:=match σ[i]? with
 |some (aa w)=>Q w S
 |_=>False
def wC (w:W) (_:WX) (_:mU) (S:lr) (Q:WK):Prop:=Q w S
section
variable {X:Cx}
def jv (i:Nat) (hN:X.N[i]? =aa x:=by rfl) (hv:v7 X.env.scope x:=by first |exact gD rfl |exact eS (gD rfl) |exact eS (eS rfl)) (hd:(x == ("__debug__" :ah))=false:=by decide)
  (hcd:(x == ("__classdict__" :ah))=false:=by decide):JE X (.Name x pos) (jn i):=λE hE=>(ML hN hv hd hcd).mono λσ H Q ⟨σW,S,QW,hσ,hS,ht,hQ⟩=>by
 unfold jn at ht;split at ht
 ·rename_i w e;obtain⟨v,e',r⟩:=hσ.get e;exact⟨v,e',hQ w S v H .refl r hS ht⟩
 ·exact ht.elim
def xK (h:PE X e (tC v)) (r:∀K H,nK K H w v):JE X e (wC w):=λE hE=>h.mono λσ H Q ⟨σW,S,QW,hσ,hS,ht,hQ⟩=>hQ w S v H .refl (r _ _) hS ht
def Rk{i j pos}:JE X (.Constant (.int i) j pos) (wC (.int i)):=xK Uc λ_ _=> .int i
def RJ{b j pos}:JE X (.Constant (.bool b) j pos) (wC (.bl b)):=xK SL λ_ _=> .bl b
def Wr{j pos}:JE X (.Constant .none j pos) (wC .ca):=xK U2 λ_ _=> .ca
def Y8{x j pos}:JE X (.Constant (.str x) j pos) (wC (.str x)):=xK WZ λ_ _=> .str x
def X1 (hg:Gl X x) (hm:X.mg x=aa (.int i u)) (hd:(x == ("__debug__" :ah))=false:=by decide):JE X (.Name x pos) (wC (.int i)):=xK (v:= .int i) (Mp hg hm ⟨u,rfl⟩ hd) λ_ _=> .int i
def Y' (hg:Gl X x) (hm:X.mg x=aa (.str i u)) (hd:(x == ("__debug__" :ah))=false:=by decide):JE X (.Name x pos) (wC (.str i)):=xK (v:= .str i) (Mp hg hm ⟨u,rfl⟩ hd) λ_ _=> .str i
end
abbrev W2:=W→W→lr→WK→Prop
def mq (r:W2) (a b:WE) (E:WX) (σ:mU) (S:lr) (Q:WK):Prop:=a E σ S λx S1=>b E σ S1 λy S2=>r x y S2 Q
def rh (K:ao) (r:R2) (wr:W2):Prop:=∀H x y wx wy S (Q:VK) (QW:WK),nK K H wx x→nK K H wy y→mD K H S→wr wx wy S QW→oJ K H S QW Q→r x y H Q
def oJ.from{K:ao}{H H':Hp}{S S':lr}{QW:WK}{Q:VK}(h:oJ K H S QW Q) (e:nH H S H' S'):oJ K H' S' QW Q:=λw S v H'' e' r hS q=>h w S v H'' (e.trans e') r hS q
def qk.from{K:ao}{H H':Hp}{S S':lr}{P:mU→lr→Prop}{Q:St→Hp→Prop}(h:qk K H S P Q) (e:nH H S H' S'):qk K H' S' P Q:=λσW S σ H'' e' r hS q=>h σW S σ H'' (e.trans e') r hS q
def Meets.from{K:ao}{H H':Hp}{S S':lr}{DW:mY}{D:rO}(h:Meets K H S DW D) (e:nH H S H' S'):Meets K H' S' DW D:=⟨h.nx.from e,h.rt.from e,h.bk.from e,h.ct.from e⟩
section
variable {X:Cx}{a b:Expr}{pos:bw}
def Br{K:ao}{ta tb:mU→lr→WK→Prop}{wr:W→W→lr→WK→Prop}{σ:St}{H:Hp}{Q:VK}{R:V→V→Hp→Prop}
  (h:Bw K (λσ S Q=>ta σ S λx S1=>tb σ S1 λy S2=>wr x y S2 Q) σ H Q)
  (hR:∀H2 x y wx wy S (QW:WK),nK K H2 wx x→nK K H2 wy y→mD K H2 S→wr wx wy S QW→oJ K H2 S QW Q→R x y H2) :
  Bw K ta σ H λx H1=>Bw K tb σ H1 λy H2=>R x y H2:=by
 obtain⟨σW,S,QW,hσ,hS,ht,hQ⟩:=h;refine⟨σW,S,_,hσ,hS,ht,λw1 S1 v1 H1 e1 r1 iU h1=>?_⟩;refine⟨σW,S1,_,hσ.ext e1,iU,h1,λw2 S2 v2 H2 e2 r2 hS2 h2=>?_⟩;exact hR H2 v1 v2 w1 w2 S2 QW (r1.ext e2) r2 hS2 h2 (hQ.from (e1.trans e2))
def wL (ho:n_ X (ce op) r) (hw:rh X.K r wr) (ha:JE X a ta) (hb:JE X b tb):JE X (.BinOp a op b pos) (mq wr ta tb):=λE hE=>
 (yS ho (ha E hE) (hb E hE)).mono λσ H Q h=>Br h λH2 x y wx wy S QW rx ry hS q hQ=>hw H2 x y wx wy S Q QW rx ry hS q hQ
def Yu (ho:n_ X (bB op) r) (hw:rh X.K r wr) (ha:JE X a ta) (hb:JE X b tb) (hm:fK op b=false):JE X (.Compare a [op] [b] pos) (mq wr ta tb):=λE hE=>
 (Qm ho (ha E hE) (hb E hE) hm).mono λσ H Q h=>Br h λH2 x y wx wy S QW rx ry hS q hQ=>hw H2 x y wx wy S Q QW rx ry hS q hQ
end
def nc.ex (x:nc P w H h a o):∃u,h.get? a=aa u:=by
 cases o with
 |bP xs=>obtain⟨_,_,_,_,e⟩:=x;exact⟨_,e⟩
 |bW xs=>obtain⟨_,_,_,o,e,_⟩:=x;exact⟨_,e⟩
 |dK gN=>obtain⟨_,_,_,_,o,_,_,e,_⟩:=x;exact⟨_,e⟩
 |dT gN=>obtain⟨_,_,_,_,o,_,_,e,_⟩:=x;exact⟨_,e⟩
 |set S n=>obtain⟨o,_,_,_,e,_⟩:=x;exact⟨_,e⟩
 |ins C dx fs=>obtain⟨_,_,_,e,_⟩:=x;exact⟨_,e⟩
 |own y=>exact x
 |xd fs=>obtain⟨_,⟨_,_,_,e,_⟩,_⟩:=x;exact⟨_,e⟩
 |rng lo hi=>obtain⟨_,_,_,e⟩:=x;exact⟨_,e⟩
 |frz ob u=>obtain⟨e,_⟩:=x;exact⟨_,e⟩
 |tbl ps=>exact⟨_,show h.get? a=aa _ from x⟩
 |met f y=>exact⟨_,show h.get? a=aa _ from x⟩
 |ext φ=>exact x.2.1
def unt (H:Hp) (S:lr):Hp:=λb=>match H b with
 |some (.bP xs)=>match S b with
  |none=>none
  |some _=>aa (.bP xs)
 |o=>o
def qL (H:Hp) (S:lr) (H':Hp):Hp:=λb=>match unt H S b with
 |none=>match H b with
  |some o=>aa o
  |none=>H' b
 |some _=>match H' b with
  |some o=>aa o
  |none=>aa (.ext λh=>∃o,h.get? b=aa o)
section
variable {w:aR}{K:ao}{H:Hp}{S:lr}{h:aE}{b:ai}{o:HO}
def Kv (e:unt H S b=aa o):H b=aa o:=by
 unfold unt at e;split at e
 ·rename_i xs q;split at e
  ·cases e
  ·rw[q];exact e
 ·exact e
def vH (e:H b=none):unt H S b=none:=by unfold unt;rw[e]
def BB (e:H b=aa o) (n:∀xs,o≠ .bP xs):unt H S b=aa o:=by
 unfold unt;rw[e];cases o<;>first |rfl |exact absurd rfl (n _)
def AC (e:H b=aa o) (hs:S b=aa u):unt H S b=aa o:=by
 unfold unt;rw[e];cases o<;>first |rfl | (dsimp only;rw[hs])
def N_ (e:H b=aa (.bP xs)) (hs:S b=none):unt H S b=none:=by
 unfold unt;rw[e];dsimp only;rw[hs]
def Vi (e:unt H S b=none) (q:H b=aa o):(∃xs,o= .bP xs)∧S b=none:=by
 unfold unt at e;rw[q]at e;cases o<;>first |cases e |skip;rename_i xs;dsimp only at e;split at e
 ·exact⟨⟨xs,rfl⟩, ‹_›⟩
 ·cases e
mutual
theorem nK.mv{H1:Hp}(t:∀b xs,H b=aa (.bW xs)→H1 b=aa (.bW xs)) (f:∀b o u,H b=aa (.frz o u)→H1 b=aa (.frz o u)) {w:W}{v:V}:nK K H w v→nK K H1 w v
 | .ca=> .ca
 | .bl b=> .bl b
 | .int i=> .int i
 | .str x=> .str x
 | .ref a=> .ref a
 | .c7 h=> .c7 (by
  obtain ⟨o,h⟩ |h:=h
  ·exact .inl ⟨o,f _ _ _ h⟩
  ·exact .inr h)
 | .bW h hs=> .bW (t _ _ h) (mC.mv t f hs)
theorem mC.mv (t:∀b xs,H b=aa (.bW xs)→H1 b=aa (.bW xs)) (f:∀b o u,H b=aa (.frz o u)→H1 b=aa (.frz o u)):mC K H ws vs→mC K H1 ws vs
 | .nil=> .nil
 | .cons h hs=> .cons (nK.mv t f h) (mC.mv t f hs)
end
def wo:∀b xs,H b=aa (.bW xs)→unt H S b=aa (.bW xs):=λb xs e=>BB e λ_ z=>nomatch z
def xA:∀b o u,H b=aa (.frz o u)→unt H S b=aa (.frz o u):=λb o u e=>BB e λ_ z=>nomatch z
def mD.unt (r:mD K H S):mD K (unt H S) S:=λa o e=>by
 have q:=r a o e;cases o with
 |bP ws=>obtain⟨vs,z,rs⟩:=q;exact⟨vs,AC z e,mC.mv wo xA rs⟩
 |dct gN=>obtain⟨ps,z,rs⟩:=q;exact⟨ps,AC z e,Paired.mapP rs λ_ _ z=>⟨z.1,nK.mv wo xA z.2⟩⟩
 |dk gN=>obtain⟨ps,z,rs⟩:=q;exact⟨ps,AC z e,Paired.mapP rs λ_ _ z=>⟨z.1,nK.mv wo xA z.2⟩⟩
 |ins C fs=>obtain⟨C,dx,ps,z0,z,rs⟩:=q;exact⟨C,dx,ps,z0,AC z e,Paired.mapP rs λ_ _ z=>⟨z.1,nK.mv wo xA z.2⟩⟩
def nZ.unt (x:nZ P w H h):nZ P w (unt H S) h:=λa o e=>
 (x a o (Kv e)).stay (λ_ _ _ q=>q) (λb q=>BB q λ_ z=>nomatch z) λb xs q=>wo b xs q
def tT (ok:nZ P w H h) (un:Un fs [] (unt H S) H' h h') (e:H' b=aa o):qL H S H' b=aa o:=by
 unfold qL;split
 ·rename_i q;split
  ·rename_i u z;obtain⟨ob,eo⟩:=(ok b u z).ex;rw[un.free b ob eo q (by simp)]at e;cases e
  ·exact e
 ·rw[e]
def B6 (un:Un fs [] (unt H S) H' h h') (ok:nZ P w H h):Un fs [] H (qL H S H') h h' where
  keep:=λb o e n hb hx=>un.keep b o e (vH n) hb hx
  slot:=λb o e n hb hx=>un.slot b o e (vH n) hb hx
  free:=λb o e n hx=>by
    unfold qL;rw[vH n,n];exact un.free b o e (vH n) hx
  there:=un.there
  tups:=λb xs e=>tT ok un (un.tups b xs (wo b xs e))
  frzs:=λb o u e=>tT ok un (un.frzs b o u (xA b o u e))
  tbls:=λb ps e=>by
    obtain⟨m,z⟩:=un.tbls b ps (BB e λ_ z=>nomatch z);exact⟨m,tT ok un z⟩
def MD (un:Un fs [] (unt H S) H' h h') (ok:nZ P w H h) (ok':nZ P w H' h') (hf:∀b∈fs,H b=none):nZ P w (qL H S H') h':=λb o e=>by
 have back:∀{o},H' b=aa o→nc P w (qL H S H') h' b o:=λ{o} q=>(ok' b o q).stay (λ_ _ _ z=>z) (λc z=>tT ok un z) λc xs z=>tT ok un z;unfold qL at e;split at e
 ·rename_i q;split at e
  ·rename_i u z;cases e;obtain⟨⟨xs,rfl⟩,_⟩:=Vi q z;obtain⟨l,eH,n,r,g⟩:=ok b _ z;exact⟨l,eH,n,r,un.keep b _ g q (λhb=>by rw[hf b hb]at z;cases z) (by simp)⟩
  ·exact back e
 ·rename_i u q;split at e
  ·rename_i u' z;cases e;exact back z
  ·rename_i z;cases e;obtain⟨ob,eo⟩:=(ok b u (Kv q)).ex;obtain⟨ob',eo'⟩:=un.there b ob eo (by simp);exact⟨⟨ob',eo'⟩,⟨ob',eo'⟩,λh1 h2 ⟨o,z⟩ k=>⟨o,k o z⟩⟩
def PY (e:H b=aa o):∃o',qL H S H' b=aa o':=by
 unfold qL;split
 ·rw[e];exact⟨_,rfl⟩
 ·split
  ·exact⟨_,rfl⟩
  ·exact⟨_,rfl⟩
def IV (un:Un fs [] (unt H S) H' h h') (ok:nZ P w H h) (r:mD K H' S'):nH H S (qL H S H') S' where
  bW:=λb xs e=>(B6 un ok).tups b xs e
  frz:=λb o u e=>(B6 un ok).frzs b o u e
  fr:=λb xs e hs=>by
    refine⟨?_,?_⟩
    · unfold qL;rw[N_ e hs,e]
    · cases q:S' b with
      |none=>rfl
      |some u=>
        obtain⟨v,z⟩:=(r b u q).some;obtain⟨ob,eo⟩:=(ok b _ e).ex;rw[un.free b ob eo (N_ e hs) (by simp)]at z;cases z
  all:=λb o e=>PY e
def IE (un:Un fs [] (unt H S) H' h h') (ok:nZ P w H h):nH H' S' (qL H S H') S' where
  bW:=λb xs e=>tT ok un e
  frz:=λb o u e=>tT ok un e
  fr:=λb xs e hs=>⟨tT ok un e,hs⟩
  all:=λb o e=>⟨o,tT ok un e⟩
def KB (un:Un fs [] (unt H S) H' h h') (ok:nZ P w H h) (r:mD K H' S'):mD K (qL H S H') S':=λa o e=>(r a o e).keep (IE (S':=S') un ok) λu z=>tT ok un z
end
def Hw{X:Cx}{k:Nat}{f:ai}{fd:dq}{ps:List ah}{c:mI}{E:WX}{ag:List (ai×aG)}{σ:St}{σW:mU}{H:Hp}{S:lr}{s:am}{Q:VK}{QW:WK}{us:List aj}{vs:List V}{ws:List W}
  (F:oO X.prog X.w X.K X.mg X.base (rV X.prog X.w) k f fd ps (r9 X.K c)) (hr:oj k X.A) (hb:pj X.K fd ps []) (I:my X ag σ H s) (r:mM vs us) (rs:mC X.K H ws vs) (hσ:nj X.K H σW σ) (hS:mD X.K H S)
  (h:c ws S QW λcl S'=>E cl σW S') (hQ:oJ X.K H S QW Q)
  (hx:∀(cl:ah) (C a:ai) (H':Hp) (S':lr) (s':am),bQ X.K bj cl=aa (aa (.ref C))→s'.os=s.os→cc s'.gens→Un (frs X.stack) [] H H' s.heap s'.heap→nZ X.prog X.w H' s'.heap→tD s.heap s'.heap H' a C→nH H S H' S'→mD X.K H' S'→E cl σW S'→X.xe (.ref a) s'):av (aB X.prog X.w) X.A (call (.ref f) us) (EP X ag σ Q) X.xe s:=by
 have e0:=I.env0;have sp:r9 X.K c vs (unt H S) (λv H'=>∃w S',nK X.K H' w v∧mD X.K H' S'∧QW w S') (λcv _ H'=>∃cl C S',cv= .ref C∧bQ X.K bj cl=aa (aa (.ref C))∧mD X.K H' S'∧E cl σW S'):=
  ⟨ws,S,QW,_,mC.mv wo xA rs,hS.unt,h,λw S' v H' _ r1 r2 q=>⟨w,S',r1,r2,q⟩,λcl C S' H' hn hS' q=>⟨cl,C,S',rfl,hn,hS',q⟩⟩
 have e1:sN X.prog X.w X.K X.mg X.base X.A X.stack s (unt H S):=⟨e0.frames,e0.mod,λb o e=>⟨(e0.bs b o e).1,vH (e0.bs b o e).2⟩,e0.bsz,e0.funs,λb hb=>vH (e0.frf b hb),e0.cG.unt,e0.bare⟩;have hl:us.length=ps.length:=by rw[←r.length];exact F.len _ _ _ _ sp
 have hb':=hb s us I.kIn (by rw[bg];exact hl);rw[bg]at hb';refine wpAny_call (i0 (F.run X.A X.stack s (unt H S) ⟨us,[]⟩ us vs _ _ hr e1 hb' r sp) λrr s' hq=>?_);cases rr with
 |error e=>
  obtain⟨a,C,H',rfl,os,bare,un,ok',fly,cl,C',S',ec,hn,hS',q⟩:=hq;cases ec;refine hx cl C a (qL H S H') S' s' hn os bare (B6 un I.cG) (MD un I.cG ok' e0.frf) ?_ (IV un I.cG hS') (KB un I.cG hS') q;obtain⟨g1,g2,oe,vs',T,oT,ts,a1,a2,a3,a4,a5,a6,a7⟩:=fly;have free:∀{b:ai},s.heap.get? b=none→H' b=none→qL H S H' b=none:=λ{b} q1 q2=>by
   have hn:H b=none:=by
    cases z:H b with
    |none=>rfl
    |some u=>obtain⟨ob,eo⟩:=(I.cG b u z).ex;rw[q1]at eo;cases eo
   unfold qL;rw[vH hn,hn];exact q2
  exact⟨g1,free g1 g2,oe,vs',T,oT,ts,a1,a2,a3,a4,a5,free a5 a6,a7⟩
 |ok fl=>
  cases fl with
  |ret u=>
   obtain⟨v,H',os,bare,un,ok',rv,w,S',r1,r2,q⟩:=hq;exact⟨v,qL H S H',I.call' os (B6 un I.cG) (MD un I.cG ok' e0.frf) bare (λ_ z=>nomatch z),rv,hQ w S' v _ (IV un I.cG r2) (r1.ext (IE (S':=S') un I.cG)) (KB un I.cG r2) q⟩
  |next=>exact cE hq
  |brk=>exact cE hq
  |cont=>exact cE hq
def RD 
  (F:oO X.prog X.w X.K X.mg X.base (rV X.prog X.w) k f fd ps (r9 X.K c)) (hr:oj k X.A) (hb:pj X.K fd ps []) (hE:oI X E) (I:my X ag σ H s) (r:mM vs us) (rs:mC X.K H ws vs) (hσ:nj X.K H σW σ) (hS:mD X.K H S)
  (h:c ws S QW λcl S'=>E cl σW S') (hQ:oJ X.K H S QW Q):av (aB X.prog X.w) X.A (call (.ref f) us) (EP X ag σ Q) X.xe s:=
 Hw (E:=E) F hr hb I r rs hσ hS h hQ λcl C a H' S' s' hn os bare un ok fly _ hS' q=>hE.far ag σ H s σW cl C a H' S' s' I hσ hn os bare un ok fly hS' q
def NC (I:my X ag σ H' s') (hst:X.stack=X.env::X.outer) (hf:X.env.frame=aa X.env.locals) (hex:X.ex=[])
  (h0:∀b∈hid,X.s₀.heap.get? b=none∧H' b=none) (ha:a∈hid) (L:iv (dt s'.heap (hid++frs X.stack)) X.stack a (.ref C) s'.heap h') :
  Un X.fs [] X.H₀ H' X.s₀.heap h'∧nZ X.prog X.w H' h'∧tD X.s₀.heap h' H' a C:=by
 obtain⟨st,ff,tr,sl⟩:=L;have keepB:∀b o,s'.heap.get? b=aa o→b∉hid→b∉frs X.stack→h'.get? b=aa o:=λb o e h1 h2=>st b o (gj _ e λz=>(bq.mp z).elim h1 h2);have nh:∀b o,X.s₀.heap.get? b=aa o→b∉hid:=λb o e hb=>by rw[(h0 b hb).1]at e;cases e
 have slotB:∀b o,b∈frs X.stack→s'.heap.get? b=aa o→ ∃sl,h'.get? b=aa { o with slots:=sl }:=λb o hb e=>by
  obtain⟨_,o',eo',nf⟩:=I.stack.mem hb;rw[e]at eo';cases eo';exact sl b o e nf
 have nx:∀b:ai,b∉X.ex:=λb=>by rw[hex];simp
 have fsS:∀b∈X.fs,b∈frs X.stack:=λb hb=>by
  rw[hst];unfold frs;rw[h_,hf];exact aI _ hb
 refine⟨⟨λb o e n hb _=>?_,λb o e n hb _=>?_,λb o e n _=>I.base.free b o e n (nx b),λb o e _=>?_,I.base.tups,I.base.frzs,I.base.tbls⟩,λb o e=>?_,(h0 a ha).1,(h0 a ha).2,?_⟩
 ·refine keepB b o (I.base.keep b o e n hb (nx b)) (nh b o e) λz=>?_;obtain q |q:=az.mp (I.stkSub b z)
  ·exact absurd (bY (aQ e) I.ok.above) (by rw[q];exact cO _)
  ·exact hb q
 ·obtain⟨sl1,e1⟩:=I.base.slot b o e n hb (nx b);obtain⟨sl2,e2⟩:=slotB b _ (fsS b hb) e1;exact⟨sl2,e2⟩
 ·obtain⟨o',e1⟩:=I.base.there b o e (nx b);by_cases hb:b∈frs X.stack
  ·obtain⟨sl2,e2⟩:=slotB b _ hb e1;exact⟨_,e2⟩
  ·exact⟨o',keepB b o' e1 (nh b o e) hb⟩
 ·refine(I.cG b o e).stay (λc u hc q=>?_) (λ_ q=>q) λ_ _ q=>q;have tk:∃v,H' c=aa v:=by
   obtain z |z:=hc
   ·exact⟨o,by rw[z];exact e⟩
   ·exact⟨_,z⟩
  obtain⟨v,tk⟩:=tk;exact keepB c u q (λz=>by rw[(h0 c z).2]at tk;cases tk) λz=>by rw[I.stkFree c z]at tk;cases tk
 ·obtain⟨oe,vs,T,oT,ts,e1,e2,e3,e4,e5,e6,e7,e8,e9⟩:=tr;have nf:T∉frs X.stack:=λhb=>by
   obtain⟨_,o,eo,nf⟩:=ff.mem hb;rw[e7]at eo;cases eo;exact nf ts e8
  have both:X.s₀.heap.get? T=none∧H' T=none:=by
   by_cases hT:T∈hid
   ·exact h0 T hT
   ·have z:s'.heap.get? T=none:=by
     cases q:s'.heap.get? T with
     |none=>rfl
     |some o=>
      rw[gj _ q λz=>(bq.mp z).elim hT nf]at e5;cases e5
    constructor
    ·cases q:X.s₀.heap.get? T with
     |none=>rfl
     |some o=>obtain⟨o',q'⟩:=I.base.there T o q (nx T);rw[z]at q';cases q'
    ·cases q:H' T with
     |none=>rfl
     |some u=>obtain⟨o',q'⟩:=(I.cG T u q).ex;rw[z]at q';cases q'
  exact⟨oe,vs,T,oT,ts,e1,e2,e3,e4,both.1,both.2,e6,e7,e8,e9⟩
def BM{h base:aE}{l:List bN}{hid:List ai}(hl:h.FunFrames base l):h.FunFrames (dt h (hid++frs l)) l:=
 PySem.W.funFrames_hide hl λenv he a ha=>cp _ (iY.mpr ⟨env,he,ha⟩)
def Yi{P:bi}{w:aR}{K:ao}{mg:ah→Option aj}{base:aE}{N:List ah}{qual:ah}{scope:Scope}{f:ai}{cdv:aj}{A:bt}{outer:List bN}{s:am}{H:Hp}{E:XK}{EW:ah→lr→Prop}
    (hEW:∀cl C S' H',bQ K bj cl=aa (aa (.ref C))→mD K H' S'→EW cl S'→E (.ref C) none H'):oI (uQ (rV P w) P w K mg base N qual scope f cdv A outer s H E) (λc _ S'=>EW c S') where
  own:=db.leaving
  far:=λag σ H1 s1 σW cl C a H' S' s' I hσ hn os bare un ok fly hS q=>by
    have I':=I.call' os un ok bare (λ_ z=>nomatch z);obtain⟨g1,g2,oe,vs,T,oT,ts,e1,e2,e3,e4,g3,g4,e5,e6,e7,e8⟩:=fly;have s0:∀{b:ai},s1.heap.get? b=none→s.heap.get? b=none:=λ{b} z=>by
      cases q:s.heap.get? b with
      |none=>rfl
      |some o=>obtain⟨o',q'⟩:=I.base.there b o q (by exact λz=>nomatch z);rw[z]at q';cases q'
    refine wpAny_leaving_next (base:=dt s'.heap ([a,T]++frs (cH qual scope s.heap.objs.size f cdv::outer))) I'.ok.frames (BM I'.stack) rfl ⟨oe,vs,T,oT,ts,e1,e2,e3,e4,dW _ (by simp),e5,e6,e7,e8⟩ (λb o z=>fZ _ z) (dW _ (by simp)) λh' L=>?_;obtain⟨u1,u2,u3⟩:=NC (hid:=[a,T]) I' rfl rfl rfl (λb hb=>by
      obtain rfl |hb:=az.mp hb
      · exact⟨s0 g1,g2⟩
      · rw[bh.mp hb];exact⟨s0 g3,g4⟩) (by simp) L
    exact⟨a,C,H',rfl,I'.os,I'.bare,u1,u2,u3,hEW cl C S' H' hn hS q⟩
  near:=λag σ H1 s1 σW cl C a S h' args I hσ hn me hS q=>by
    have I':=I.kept (t':=s1.toks) me.keeps;obtain⟨t,e1,_,_⟩:=me.there;have s0:s.heap.get? a=none:=by
      cases q:s.heap.get? a with
      |none=>rfl
      |some o=>obtain⟨o',q'⟩:=I.base.there a o q (by exact λz=>nomatch z);rw[me.new]at q';cases q'
    have h1:H1 a=none:=by
      cases q:H1 a with
      |none=>rfl
      |some u=>obtain⟨o',q'⟩:=(I.cG a u q).ex;rw[me.new]at q';cases q'
    refine wpAny_leaving_first (base:=dt h' ([a]++frs (cH qual scope s.heap.objs.size f cdv::outer))) (s:={ s1 with heap:=h' }) I'.ok.frames (BM I'.stack) rfl e1 (λb o z=>fZ _ z) (dW _ (by simp)) rfl rfl λh'' L=>?_;obtain⟨u1,u2,u3⟩:=NC (hid:=[a]) I' rfl rfl rfl (λb hb=>by rw[bh.mp hb];exact⟨s0,h1⟩) (by simp) L
    exact⟨a,C,H1,rfl,I'.os,I'.bare,u1,u2,u3,hEW cl C S H1 hn hS q⟩
def n9 (S:lr) (a:ai) (Q:List W→Prop):Prop:=match S a with
 |some (.bP ws)=>Q ws
 |_=>False
def m8{Q:List W→Prop}(h:S a=aa (.bP ws)):n9 S a Q=Q ws:=by unfold n9;rw[h]
def ql{Q:List W→Prop}(h:n9 S a Q):∃ws,S a=aa (.bP ws)∧Q ws:=by
 unfold n9 at h;split at h
 ·exact⟨_, ‹_›,h⟩
 ·exact h.elim
def uk:W→lr→(Bool→lr→Prop)→Prop
 | .ca,S,Q=>Q false S
 | .bl b,S,Q=>Q b S
 | .int i,S,Q=>Q (i != 0) S
 | .str x,S,Q=>x.length≤sizeLine∧Q ((x.length:Int) != 0) S
 | .bW ws,S,Q=>Q (!ws.isEmpty) S
 | .ref a,S,Q=>n9 S a λws=>Q (!ws.isEmpty) S
 | .c7 ns,S,Q=>Q (!ns.isEmpty) S
def oX (t:WE) (E:WX) (σ:mU) (S:lr) (Q:Bool→lr→Prop):Prop:=t E σ S λw S'=>uk w S' Q
def nA (t:WE) (E:WX) (σ:mU) (S:lr) (Q:Bool→lr→Prop):Prop:=t E σ S λw S'=>match w with
 | .bl b=>Q b S'
 |_=>False
def rG (t u:WT) (E:WX) (σ:mU) (S:lr) (Q:Bool→lr→Prop):Prop:=t E σ S λc S1=>if c=true then u E σ S1 Q else Q false S1
def tz (t u:WT) (E:WX) (σ:mU) (S:lr) (Q:Bool→lr→Prop):Prop:=t E σ S λc S1=>if c=true then Q true S1 else u E σ S1 Q
def sQ (t:WT) (E:WX) (σ:mU) (S:lr) (Q:Bool→lr→Prop):Prop:=t E σ S λc S1=>Q (!c) S1
def vW (t u:WE) (E:WX) (σ:mU) (S:lr) (Q:WK):Prop:=t E σ S λw S1=>match w with
 | .bl true=>u E σ S1 Q
 | .bl false=>Q (.bl false) S1
 |_=>False
def Hq (t u:WE):WE:=λE σ S Q=>t E σ S λw S1=>match w with
 | .bl false=>u E σ S1 Q
 | .bl true=>Q (.bl true) S1
 |_=>False
def Oa (t:WE):WE:=λE σ S Q=>t E σ S λw S1=>match w with
 | .bl b=>Q (.bl !b) S1
 |_=>False
def yP (c:WT) (t u:WE) (E:WX) (σ:mU) (S:lr) (Q:WK):Prop:=c E σ S λb S1=>if b=true then t E σ S1 Q else u E σ S1 Q
def nD (c:WT) (t u:WS) (E:WX) (D:mY) (σ:mU) (S:lr):Prop:=c E σ S λb S1=>if b=true then t E D σ S1 else u E D σ S1
def nB (_:WX) (D:mY) (σ:mU) (S:lr):Prop:=D.nx σ S
def mz (t u:WS) (E:WX) (D:mY) (σ:mU) (S:lr):Prop:=t E { D with nx:=u E D } σ S
def mS (e:WE) (E:WX) (D:mY) (σ:mU) (S:lr):Prop:=e E σ S D.rt
def NP:WS:=λ_ D _ S=>D.rt .ca S
def oZ (e:WE) (E:WX) (D:mY) (σ:mU) (S:lr):Prop:=e E σ S λ_ S1=>D.nx σ S1
def Wg:WS:=λ_ _ _ _=>False
def mx (i:Nat) (w:W) (σ:mU) (S:lr) (Q:mU→lr→Prop):Prop:=Q (σ.set i (aa w)) S
def mr (e:WE) (g:WG) (E:WX) (D:mY) (σ:mU) (S:lr):Prop:=e E σ S λw S1=>g w σ S1 D.nx
abbrev WGs:=List W→mU→lr→(mU→lr→Prop)→Prop
def o6 (ws:List W) (σ:mU) (S:lr) (Q:mU→lr→Prop):Prop:=match ws with
 | []=>Q σ S
 |_=>False
def nQ (g:WG) (u:WGs) (ws:List W) (σ:mU) (S:lr) (Q:mU→lr→Prop):Prop:=match ws with
 | []=>False
 |w::r=>g w σ S λσ' S'=>u r σ' S' Q
def pB (u:WGs) (w:W) (σ:mU) (S:lr) (Q:mU→lr→Prop):Prop:=match w with
 | .bW ws=>u ws σ S Q
 |_=>False
def N9{K:ao}{H:Hp}{w:W}{v:V}{S:lr}{QW:Bool→lr→Prop}(r:nK K H w v) (hS:mD K H S) (h:uk w S QW):∃k,CB K v H k∧QW k S:=by
 cases r with
 |ca=>exact⟨false,rfl,h⟩
 |bl b=>exact⟨b,rfl,h⟩
 |int i=>exact⟨_,rfl,h⟩
 |str x=>exact⟨_,⟨h.1,rfl⟩,h.2⟩
 |ref a=>
  obtain⟨ws,e,h⟩:=ql h;obtain⟨vs,e1,r1⟩:=hS a _ e;refine⟨_, .inl ⟨vs, .of e1,rfl⟩,?_⟩;have q:vs.isEmpty=ws.isEmpty:=by cases r1<;>rfl
  rw[q];exact h
 | @c7 a ns f=>
  refine⟨_, .inl ⟨_,f.sq,rfl⟩,?_⟩;have q:(ns.map V.int).isEmpty=ns.isEmpty:=by cases ns<;>rfl
  rw[q];exact h
 | @bW a vs ws f hs=>
  refine⟨_, .inr (.inl ⟨vs, .of f,rfl⟩),?_⟩;have q:vs.isEmpty=ws.isEmpty:=by cases hs<;>rfl
  rw[q];exact h
def RH (ha:JE X a ta) (he:∀whole,isTrue a X.env whole=(do let v ←whole;standAt a.pos;holding [v] (truthy v)):=by intro _;rfl):JT X a (oX ta):=λE hE=>
 (RF (ha E hE) he).mono λσ H Q ⟨σW,S,QW,hσ,hS,ht,hQ⟩=>⟨σW,S,_,hσ,hS,ht,λw S1 v H1 e1 r1 iU h1=>by
  obtain⟨k,hk,q⟩:=N9 r1 iU h1;exact⟨k,hk,hQ k S1 H1 e1 iU q⟩⟩
def QD (ho:n_ X (bB op) r) (hw:rh X.K r wr) (ha:JE X a ta) (hb:JE X b tb) (hm:fK op b=false):JT X (.Compare a [op] [b] pos) (nA (mq wr ta tb)):=λE hE=>
 (U4 ho (ha E hE) (hb E hE) hm).mono λσ H Q ⟨σW,S,QW,hσ,hS,ht,hQ⟩=>by
  refine Br (Q:=λv H1=>∃k,v= .bl k∧Q k H1) ⟨σW,S,λw S'=>match w with
   | .bl b=>QW b S'
   |_=>False,hσ,hS,ht,λw S1 v H1 e1 r1 iU h1=>?_⟩ λH2 x y wx wy S QW rx ry hS q hQ=>hw H2 x y wx wy S _ QW rx ry hS q hQ
  cases r1 with
  |bl k=>exact⟨k,rfl,hQ k S1 H1 e1 iU h1⟩
  |_=>exact h1.elim
def VF (ha:JT X a tA):JT X (.UnaryOp .Not a pos) (sQ tA):=λE hE=>
 (XB (ha E hE)).mono λσ H Q ⟨σW,S,QW,hσ,hS,ht,hQ⟩=>⟨σW,S,_,hσ,hS,ht,λb S1 H1 e1 iU h1=>hQ _ S1 H1 e1 iU h1⟩
def JW.jt (h:JW X a tA):JT X a tA:=λE hE=>(h E hE).pt
def Xe (ha:JT X a tA):JW X (.BoolOp .And [a] pos) tA:=λE hE=>PR (ha E hE)
def Uy (ha:JT X a tA):JW X (.BoolOp .Or [a] pos) tA:=λE hE=>QG (ha E hE)
def OP{rest:List Expr}(ha:JT X a tA) (hb:JW X (.BoolOp .And (b::rest) pos) tB'):JW X (.BoolOp .And (a::b::rest) pos) (rG tA tB'):=λE hE=>
 (X7 (ha E hE) (hb E hE)).mono λσ H Q ⟨σW,S,QW,hσ,hS,ht,hQ⟩=>⟨σW,S,_,hσ,hS,ht,λb S1 H1 e1 iU h1=>by
  cases b with
  |true=>exact⟨σW,S1,_,hσ.ext e1,iU,h1,λb S2 H2 e2 hS2 h2=>hQ b S2 H2 (e1.trans e2) hS2 h2⟩
  |false=>exact hQ _ S1 H1 e1 iU h1⟩
def QY{rest:List Expr}(ha:JT X a tA) (hb:JW X (.BoolOp .Or (b::rest) pos) tB'):JW X (.BoolOp .Or (a::b::rest) pos) (tz tA tB'):=λE hE=>
 (RW (ha E hE) (hb E hE)).mono λσ H Q ⟨σW,S,QW,hσ,hS,ht,hQ⟩=>⟨σW,S,_,hσ,hS,ht,λb S1 H1 e1 iU h1=>by
  cases b with
  |false=>exact⟨σW,S1,_,hσ.ext e1,iU,h1,λb S2 H2 e2 hS2 h2=>hQ b S2 H2 (e1.trans e2) hS2 h2⟩
  |true=>exact hQ _ S1 H1 e1 iU h1⟩
def Yr{op}(h:JE X a ta):JE X (.BoolOp op [a] pos) ta:=λE hE=>TJ (h E hE)
def Wu{rest:List Expr}(ha:JE X a ta) (hb:JE X (.BoolOp .And (b::rest) pos) tb):JE X (.BoolOp .And (a::b::rest) pos) (vW ta tb):=λE hE=>
 (YM (ha E hE) (hb E hE)).mono λσ H Q ⟨σW,S,QW,hσ,hS,ht,hQ⟩=>⟨σW,S,_,hσ,hS,ht,λw S1 v H1 e1 r1 iU h1=>by
  cases r1 with
  |bl k=>
   refine⟨k,rfl,?_⟩;cases k with
   |true=>exact⟨σW,S1,_,hσ.ext e1,iU,h1,hQ.from e1⟩
   |false=>exact hQ _ S1 _ H1 e1 (.bl false) iU h1
  |_=>exact h1.elim⟩
def U7{rest:List Expr}(ha:JE X a ta) (hb:JE X (.BoolOp .Or (b::rest) pos) tb):JE X (.BoolOp .Or (a::b::rest) pos) (Hq ta tb):=λE hE=>
 (X8 (ha E hE) (hb E hE)).mono λσ H Q ⟨σW,S,QW,hσ,hS,ht,hQ⟩=>⟨σW,S,_,hσ,hS,ht,λw S1 v H1 e1 r1 iU h1=>by
  cases r1 with
  |bl k=>
   refine⟨k,rfl,?_⟩;cases k with
   |false=>exact⟨σW,S1,_,hσ.ext e1,iU,h1,hQ.from e1⟩
   |true=>exact hQ _ S1 _ H1 e1 (.bl true) iU h1
  |_=>exact h1.elim⟩
def YJ (ha:JE X a ta):JE X (.UnaryOp .Not a pos) (Oa ta):=λE hE=>
 (X3 (ha E hE)).mono λσ H Q ⟨σW,S,QW,hσ,hS,ht,hQ⟩=>⟨σW,S,_,hσ,hS,ht,λw S1 v H1 e1 r1 iU h1=>by
  cases r1 with
  |bl k=>exact⟨k,rfl,hQ _ S1 _ H1 e1 (.bl _) iU h1⟩
  |_=>exact h1.elim⟩
def WR (hc:JT X c tc) (ha:JE X a ta) (hb:JE X b tb):JE X (.IfExp c a b pos) (yP tc ta tb):=λE hE=>
 (P9 (hc E hE) (ha E hE) (hb E hE)).mono λσ H Q ⟨σW,S,QW,hσ,hS,ht,hQ⟩=>⟨σW,S,_,hσ,hS,ht,λk S1 H1 e1 iU h1=>by
  cases k with
  |true=>exact⟨σW,S1,_,hσ.ext e1,iU,h1,hQ.from e1⟩
  |false=>exact⟨σW,S1,_,hσ.ext e1,iU,h1,hQ.from e1⟩⟩
def SI:sI X [] nB:=λE hE=>uH.mono λD σ H ⟨σW,S,DW,hσ,hS,ht,hD⟩=>hD.nx σW S σ H .refl hσ hS ht
def Px{X:Cx}{st:aW}{rest:List aW}{t u:WS}(h1:JS X st t) (h2:sI X rest u):sI X (st::rest) (mz t u):=λE hE=>
 (Y0 (h1 E hE) (h2 E hE)).mono λD σ H ⟨σW,S,DW,hσ,hS,ht,hD⟩=>
  ⟨σW,S,{ DW with nx:=u E DW },hσ,hS,ht,⟨λσW' S' σ' H' e r hS' q=>⟨σW',S',DW,r,hS',q,hD.from e⟩,hD.rt,hD.bk,hD.ct⟩⟩
def Qd{X:Cx}{st:aW}{t:WS}(h1:JS X st t):sI X [st] t:=λE hE=>IK (h1 E hE)
def Xo:JS X (.Pass pos) nB:=λE hE=>t6.mono λD σ H ⟨σW,S,DW,hσ,hS,ht,hD⟩=>hD.nx σW S σ H .refl hσ hS ht
def V6{X:Cx}{st:aW}:JS X st Wg:=λE hE=>sU.mono λD σ H ⟨σW,S,DW,hσ,hS,ht,hD⟩=>ht
def WD (he:JE X e ta) (hs:eG e none pos.line X.env=pure false:=by rfl):JS X (.Expr e pos) (oZ ta):=λE hE=>
 (W_ (he E hE) hs).mono λD σ H ⟨σW,S,DW,hσ,hS,ht,hD⟩=>⟨σW,S,_,hσ,hS,ht,λw S1 v H1 e1 r1 iU h1=>hD.nx σW S1 σ H1 e1 (hσ.ext e1) iU h1⟩
def ON (he:JE X e ta):JS X (.Return (aa e) pos) (mS ta):=λE hE=>
 (Ot (he E hE)).mono λD σ H ⟨σW,S,DW,hσ,hS,ht,hD⟩=>⟨σW,S,_,hσ,hS,ht,hD.rt⟩
def Wt:JS X (.Return none pos) NP:=λE hE=>tZ.mono λD σ H ⟨σW,S,DW,hσ,hS,ht,hD⟩=>hD.rt .ca S .ca H .refl .ca hS ht
def QJ{a b:List aW}(hc:JT X c tc) (ha:sI X a t) (hb:sI X b u):JS X (.If c a b pos) (nD tc t u):=λE hE=>
 (T0 (hc E hE) (ha E hE) (hb E hE)).mono λD σ H ⟨σW,S,DW,hσ,hS,ht,hD⟩=>⟨σW,S,_,hσ,hS,ht,λk S1 H1 e1 iU h1=>by
  cases k with
  |true=>exact⟨σW,S1,DW,hσ.ext e1,iU,h1,hD.from e1⟩
  |false=>exact⟨σW,S1,DW,hσ.ext e1,iU,h1,hD.from e1⟩⟩
def Yb (hN:X.N.Nodup) (hi:X.N[i]? =aa x) (hx:sZ X.env.scope x) (hf:X.fn x=true∨X.env.scope.names.lookup x=aa .local:=by first |exact .inl rfl |exact .inr rfl |assumption):JG X (.Name x pos) (mx i):=λE hE=>
 (Vo hN hi hx hf).mono λv σ H Q ⟨w,σW,S,P,r,hσ,hS,ht,hP⟩=>hP _ S _ H .refl (hσ.set r i) hS ht
def vS (X:Cx) (tgs:List Expr) (t:WGs):Prop:=∀E,oI X E→zf X tgs (λvs σ H Q=>∃ws σW S P,mC X.K H ws vs∧nj X.K H σW σ∧mD X.K H S∧t ws σW S P∧qk X.K H S P Q)
def ZM:vS X [] o6:=λE hE ag s σ H vs us Q I r h=>by
 obtain⟨ws,σW,S,P,rs,hσ,hS,ht,hP⟩:=h;unfold o6 at ht;split at ht
 ·cases rs;exact PK ag s σ H [] us Q I r ⟨rfl,hP σW S σ H .refl hσ hS ht⟩
 ·exact ht.elim
def Ra (h1:JG X e g) (h2:vS X es gs)
  (hs:(b_ (e::es) X.env).map (·.2)=assign e X.env::(b_ es X.env).map (·.2):=by rfl):vS X (e::es) (nQ g gs):=λE hE ag s σ H vs us Q I r h=>by
 obtain⟨ws,σW,S,P,rs,hσ,hS,ht,hP⟩:=h;unfold nQ at ht;split at ht
 ·exact ht.elim
 ·cases rs with
  |cons r1 r2=>
   refine Yx (h1 E hE) (h2 E hE) hs ag s σ H _ us Q I r ⟨_,_,rfl,⟨_,σW,S,_,r1,hσ,hS,ht,λσW' S' σ' H' e' rr hS' q=>?_⟩⟩;exact⟨_,σW',S',P,r2.ext e',rr,hS',q,hP.from e'⟩
def Rr (h:vS X es gs) (hlen:∀ws σ S P,gs ws σ S P→ws.length=n)
  (hn:(b_ es X.env).length=n:=by rfl) (hst:(b_ es X.env).findIdx? (·.1)=none:=by rfl) (hcl:X.calm=true:=by rfl):JG X (.Tuple es k pos) (pB gs):=λE hE=>
 (Sl hcl (h E hE) hn hst).mono λv σ H Q ⟨w,σW,S,P,r,hσ,hS,ht,hP⟩=>by
  cases r with
  |bW f hs=>exact⟨_,_,rfl, .of f,by rw[←hs.length];exact hlen _ _ _ _ ht,⟨_,σW,S,P,hs,hσ,hS,ht,hP⟩⟩
  |_=>exact ht.elim
def Wh (he:JE X e ta) (hg:JG X tg g) (hs:jL [tg] e pos.line X.env=pure false:=by rfl) (hw:jH [tg] e X.env=pure none:=by rfl)
  (h1:(b_ [tg] X.env).map (·.2)=[assign tg X.env]:=by rfl):JS X (.Assign [tg] e pos) (mr ta g):=λE hE=>
 (Pg (he E hE) (hg E hE) hs hw h1).mono λD σ H ⟨σW,S,DW,hσ,hS,ht,hD⟩=>⟨σW,S,_,hσ,hS,ht,λw S1 v H1 e1 r1 iU h1=>⟨w,σW,S1,_,r1,hσ.ext e1,iU,h1,hD.nx.from e1⟩⟩
def J5 (hN:X.N.Nodup) (hi:X.N[i]? =aa x) (hx:sZ X.env.scope x) (he:JE X e ta) (hs:eG e (aa (.Name x pos')) pos.line X.env=pure false:=by rfl)
  (hf:X.fn x=true∨X.env.scope.names.lookup x=aa .local:=by first |exact .inl rfl |exact .inr rfl |assumption):JS X (.Assign [.Name x pos'] e pos) (mr ta (mx i)):=λE hE=>
 (Yz hN hi hx (he E hE) hs hf).mono λD σ H ⟨σW,S,DW,hσ,hS,ht,hD⟩=>⟨σW,S,_,hσ,hS,ht,λw S1 v H1 e1 r1 iU h1=>hD.nx _ S1 _ H1 e1 ((hσ.ext e1).set r1 i) iU h1⟩
def ae (_:WX) (_:mU) (S:lr) (Q:List W→lr→Prop):Prop:=Q [] S
def jM (t:WE) (u:WA) (E:WX) (σ:mU) (S:lr) (Q:List W→lr→Prop):Prop:=t E σ S λw S1=>u E σ S1 λws S2=>Q (w::ws) S2
def m5 (t:WA) (E:WX) (σ:mU) (S:lr) (Q:WK):Prop:=t E σ S λws S1=>ws.length≤sizeLine∧Q (.bW ws) S1
def nJ (t:WA) (E:WX) (σ:mU) (S:lr) (Q:List W→lr→Prop):Prop:=t E σ S λws S1=>ws.length≤sizeLine∧Q ws S1
def nw (t:WL) (E:WX) (σ:mU) (S:lr) (Q:WK):Prop:=t E σ S λws S1=>∀a,S1 a=none→Q (.ref a) (bR S1 a (.bP ws))
def Vh:JA X [] ae:=λE hE=>oQ.mono λσ H Q ⟨σW,S,QW,hσ,hS,ht,hQ⟩=>hQ [] S [] H .refl .nil hS ht
def Yv (ha:JE X e te) (hr:JA X es ta) (hs:ax (e::es) X.env=(false,aH e X.env)::ax es X.env:=by rfl):JA X (e::es) (jM te ta):=λE hE=>
 (tR (ha E hE) (hr E hE) hs).mono λσ H Q ⟨σW,S,QW,hσ,hS,ht,hQ⟩=>⟨σW,S,_,hσ,hS,ht,λw S1 v H1 e1 r1 iU h1=>⟨σW,S1,_,hσ.ext e1,iU,h1,λws S2 vs H2 e2 r2 hS2 h2=>
  hQ (w::ws) S2 (v::vs) H2 (e1.trans e2) (.cons (r1.ext e2) r2) hS2 h2⟩⟩
def Tu{x1}(h:JA X es ta):JE X (.Tuple es x1 pos) (m5 ta):=λE hE=>
 (VC (h E hE)).mono λσ H Q ⟨σW,S,QW,hσ,hS,ht,hQ⟩=>⟨σW,S,_,hσ,hS,ht,λws S1 vs H1 e1 r1 iU h1=>by
  refine⟨by rw[←r1.length];exact h1.1,λp hp=>hQ (.bW ws) S1 _ _ (e1.trans (.new hp)) (.bW pD (r1.ext (.new (S:=S1) hp))) (iU.new hp) h1.2⟩⟩
def Sd (h:JA X es ta):JL X (.List es pos) (nJ ta):=λE hE=>
 (PF (h E hE)).mono λσ H Q ⟨σW,S,QW,hσ,hS,ht,hQ⟩=>⟨σW,S,_,hσ,hS,ht,λws S1 vs H1 e1 r1 iU h1=>by
  refine⟨by rw[←r1.length];exact h1.1,λp hp=>hQ ws S1 vs p _ (e1.trans (.new hp)) (e1.free hp) pD (iU.free hp) (r1.ext (.new (S:=S1) hp)) (iU.new hp) h1.2⟩⟩
def Jl (h:JL X e tl):JE X e (nw tl):=λE hE=>
 (h E hE).mono λσ H Q ⟨σW,S,QW,hσ,hS,ht,hQ⟩=>⟨σW,S,_,hσ,hS,ht,λws S1 vs a H1 e1 fa ea na r1 iU h1=>by
  refine hQ (.ref a) (bR S1 a (.bP ws)) (.ref a) H1 ⟨e1.bW,e1.frz,λb o q g=>by
   have hb:b≠a:=by rintro rfl;rw[fa]at q;cases q
   rw[nO hb];exact e1.fr b o q g,e1.all⟩ (.ref a) (λb o q=>?_) (h1 a na)
  by_cases hb:b=a
  ·subst hb;rw[mR]at q;cases q;exact⟨vs,ea,r1⟩
  ·rw[nO hb]at q;exact iU b o q⟩
def mG (c:mI) (t:WA) (E:WX) (σ:mU) (S:lr) (Q:WK):Prop:=t E σ S λws S1=>c ws S1 Q λcl S2=>E cl σ S2
def nz (n k:Nat) (body:WS) (ws:List W) (S:lr) (Q:WK) (E:ah→lr→Prop):Prop:=ws.length=k∧body (λc _ S'=>E c S') { nx:=λ_ S'=>∃S'',Sub S'' S'∧Q .ca S'',rt:=λw S'=>∃S'',Sub S'' S'∧Q w S'' } (ws.map aa++bn (n - k) none) S
def Sw (F:oO X.prog X.w X.K X.mg X.base (rV X.prog X.w) k f fd ps (r9 X.K c)) (hr:oj k X.A) (hg:Gl X x) (hm:X.mg x=aa (.ref f)) (hk:fe X.K (.ref f)=true) (hb:pj X.K fd ps [])
  (ha:JA X (e::es) t) (hdb:(x == ("__debug__" :ah))=false:=by decide) (he:ax (e::es) X.env=(false,aH e X.env)::ax es X.env:=by rfl) (hpl:(aZ pos (ax es X.env)).any (·.1)=false:=by rfl) :
  JE X (.Call (.Name x p) (e::es) [] pos) (mG c t):=λE hE ag s σ H Q I h=>by
 obtain⟨σW,S,QW,hσ,hS,ht,hQ⟩:=h;refine gQ (Ai I hg hm ?_ hdb);refine lW (h₀:=X.base) I.ok.mod.kin hk (nE (ha E hE pos ag s σ H (λvs H1=>∃ws S1,mC X.K H1 ws vs∧nj X.K H1 σW σ∧mD X.K H1 S1∧c ws S1 QW (λcl S'=>E cl σW S')∧oJ X.K H1 S1 QW Q) I
  ⟨σW,S,_,hσ,hS,ht,λws S1 vs H1 e1 r1 iU h1=>⟨ws,S1,r1,hσ.ext e1,iU,h1,hQ.from e1⟩⟩) λus s1 ⟨vs,H1,I1,r,ws,S1,r1,hσ1,iU,h1,hQ1⟩=>⟨I1.kIn,?_⟩) he hpl
 exact RD F hr hb hE I1 r r1 hσ1 iU h1 hQ1
def Sj{K:ao}{H:Hp}{N:List ah}{ws:List W}{vs:List V}(h:mC K H ws vs):nj K H (ws.map aa++bn (N.length - ws.length) none) (start N vs):=by
 have go:∀{ws:List W}{vs:List V}(m:Nat),mC K H ws vs→nj K H (ws.map aa++bn m none) (vs.map aa++bn m none):=by
  intro ws
  induction ws with
  |nil=>
   intro vs m h;cases h
   induction m with
   |zero=>exact .nil
   |succ m ih=>exact .cons trivial ih
  |cons w ws ih=>
   intro vs m h;cases h with
   |cons r rs=>exact .cons r (ih m rs)
 unfold start;rw[←h.length];exact go _ h
def SD{P:bi}{w:aR}{K:ao}{mg:ah→Option aj}{base:aE}{x qual:ah}{st:aW}{f:ai}{fd:dq}{N ps:List ah}{r n k:Nat}{body:WS}(F:tN K x qual st f fd) (S:pi N ps (qp st)) (hn:N.length=n) (hk:ps.length=k)
  (hbody:∀(cdv:aj) (A:bt) (outer:List bN) (s:am) (H:Hp) (E:XK),oj r (A.deeper (cH qual (qp st) s.heap.objs.size f cdv))→
   sI (uQ (rV P w) P w K mg base N qual (qp st) f cdv A outer s H E) (uh st) body):oO P w K mg base (rV P w) (r+1) f fd ps (r9 K (nz n k body)):=by
 obtain⟨oc,od,kV,doc,pm,an,cdv,ct,osl,rfl,lk,hcd⟩:=F.ex;refine Gr lk hcd S (λvs H Q E h=>?_) λA outer s H vs Q E hr h=>?_
 ·obtain⟨ws,S,QW,EW,rs,_,h,_⟩:=h;rw[←rs.length,h.1,hk]
 ·obtain⟨ws,S',QW,EW,rs,hS,h,hQ,hEW⟩:=h;refine⟨_,hbody cdv A outer s H E hr (λc _ S'=>EW c S') (Yi hEW),?_⟩;refine⟨_,S',{ nx:=λ_ S'=>∃S'',Sub S'' S'∧QW .ca S'',rt:=λw S'=>∃S'',Sub S'' S'∧QW w S'' },Sj (N:=N) rs,hS,by rw[hn,h.1];exact h.2,⟨λσW S1 σ H1 e1 rr iU q=>?_,λw S1 v H1 e1 rr iU q=>?_,λ_ _ _ _ _ _ _ q=>q,λ_ _ _ _ _ _ _ q=>q⟩⟩
  ·obtain⟨S2,sb,q⟩:=q;exact hQ .ca S2 .ca H1 (e1.trans (.drop sb)) .ca (iU.sub sb) q
  ·obtain⟨S2,sb,q⟩:=q;exact hQ w S2 v H1 (e1.trans (.drop sb)) rr (iU.sub sb) q
def oH (C:Int→Int→Prop) (g:Int→Int→W):W2
 | .int i, .int j,S,Q=>C i j∧Q (g i j) S
 |_,_,_,_=>False
def rj (g:Int→Int→W):W2
 | .int i, .int j,S,Q=>Q (g i j) S
 |_,_,_,_=>False
def Az{K:ao}{C:Int→Int→Prop}{g:Int→Int→Int}:rh K (rI C λi j=> .int (g i j)) (oH C λi j=> .int (g i j)):=λH x y wx wy S Q QW rx ry hS h hQ=>by
 cases rx<;>cases ry<;>first |exact⟨_,_,rfl,rfl,h.1,hQ _ S _ H .refl (.int _) hS h.2⟩ |exact h.elim
def Uz{K:ao}{g:Int→Int→Int}:rh K (so λi j=> .int (g i j)) (rj λi j=> .int (g i j)):=λH x y wx wy S Q QW rx ry hS h hQ=>by
 cases rx<;>cases ry<;>first |exact⟨_,_,rfl,rfl,hQ _ S _ H .refl (.int _) hS h⟩ |exact h.elim
def D_{K:ao}{g:Int→Int→Bool}:rh K (so λi j=> .bl (g i j)) (rj λi j=> .bl (g i j)):=λH x y wx wy S Q QW rx ry hS h hQ=>by
 cases rx<;>cases ry<;>first |exact⟨_,_,rfl,rfl,hQ _ S _ H .refl (.bl _) hS h⟩ |exact h.elim
def om:W2
 | .int i, .int j,S,Q=>Q (.int (i+j)) S
 | .str x, .str y,S,Q=>x.length+y.length≤sizeLine∧Q (.str (x++y)) S
 | .bW xs, .bW ys,S,Q=>xs.length+ys.length≤sizeLine∧Q (.bW (xs++ys)) S
 | .ref a, .ref b,S,Q=>n9 S a λxs=>n9 S b λys=>xs.length+ys.length≤sizeLine∧ ∀p,S p=none→Q (.ref p) (bR S p (.bP (xs++ys)))
 |_,_,_,_=>False
def mC.nil_r{K:ao}{H:Hp}{ws:List W}(h:mC K H ws []):ws=[]:=by cases h;rfl
def sP:n_ X (ce .Add) (λx y H Q=>∃a b ys,x= .ref a∧y= .ref b∧oY X.K H a []∧oY X.K H b ys∧Q (.ref b) H):=by
 intro ag s σ H x y v u Q I rx ry h;obtain⟨a,b,ys,rfl,rfl,ha,hb,q⟩:=h;cases rx;cases ry;obtain⟨eH,r1,p1,_⟩:=I.tuple ha;obtain⟨its2,r2,p2,_⟩:=I.tuple hb;cases r1;obtain⟨⟨cls,dd,data,sl⟩,ho,hc,n,hd⟩:=id p1;obtain⟨⟨cls2,dd2,data2,sl2⟩,ho2,hc2,n2,hd2⟩:=id p2;simp only at hc hd hc2 hd2;subst hc hd hc2 hd2;exact iP ⟨_,ho,rfl⟩ ⟨_,ho2,rfl⟩ iF iW i_ jF (jb _ _)
   (tuple_addW0 a b _ _ n n2 dd dd2 sl sl2 (by simp)) ⟨ho,ho2,⟨.ref b,H,I,rfl,q⟩⟩
def OU:n_ X (ce .Add) (λx y H Q=>(so λi j=> .int (i+j)) x y H Q∨(∃i j,x= .str i∧y= .str j∧i.length+j.length≤sizeLine∧Q (.str (i++j)) H)∨
  (∃a b ys,x= .ref a∧y= .ref b∧oY X.K H a []∧oY X.K H b ys∧Q (.ref b) H)∨FJ X.K x y H Q∨FM x y H Q):=vA.or (rq.or (sP.or (tX.or BD)))
def TF{K:ao}:rh K (λx y H Q=>(so λi j=> .int (i+j)) x y H Q∨(∃i j,x= .str i∧y= .str j∧i.length+j.length≤sizeLine∧Q (.str (i++j)) H)∨
  (∃a b ys,x= .ref a∧y= .ref b∧oY K H a []∧oY K H b ys∧Q (.ref b) H)∨FJ K x y H Q∨FM x y H Q) om:=λH x y wx wy S Q QW rx ry hS h hQ=>by
 cases rx with
 |int i=>
  cases ry with
  |int j=>exact .inl ⟨i,j,rfl,rfl,hQ _ S _ H .refl (.int _) hS h⟩
  |_=>exact h.elim
 |str i=>
  cases ry with
  |str j=>exact .inr (.inl ⟨i,j,rfl,rfl,h.1,hQ _ S _ H .refl (.str _) hS h.2⟩)
  |_=>exact h.elim
 | @bW a vs ws f hs=>
  cases ry with
  | @bW b us zs g ks=>
   cases hs with
   |nil=>exact .inr (.inr (.inl ⟨a,b,us,rfl,rfl, .of f, .of g,hQ (.bW zs) S _ H .refl (.bW g ks) hS h.2⟩))
   |cons h1 h2=>
    refine .inr (.inr (.inr (.inl ⟨a,b,_,us,rfl,rfl, .of f, .of g,by simp,?_,λe=>?_,λe p hp=>?_⟩)))
    ·rw[←(mC.cons h1 h2).length,←ks.length];exact h.1
    ·subst e;have e':=ks.nil_r;subst e';have q:=h.2;rw[bg]at q;exact hQ _ S _ H .refl (.bW f (.cons h1 h2)) hS q
    ·exact hQ _ S _ _ (.new hp) (.bW pD (((mC.cons h1 h2).append ks).ext (.new (S:=S) hp))) (hS.new hp) h.2
  |_=>exact h.elim
 |ref a=>
  cases ry with
  |ref b=>
   obtain⟨xs,ea,h⟩:=ql h;obtain⟨ys,eb,h⟩:=ql h;obtain⟨vs,e1,r1⟩:=hS a _ ea;obtain⟨us,e2,r2⟩:=hS b _ eb;refine .inr (.inr (.inr (.inr ⟨a,b,vs,us,rfl,rfl,e1,e2,by rw[←r1.length,←r2.length];exact h.1,λp hp=>?_⟩)))
   exact hQ _ _ _ _ (.newS hp) (.ref p) (hS.put_lst hp ((r1.append r2).ext (.new (S:=S) hp))) (h.2 p (hS.free hp))
  |_=>exact h.elim
 |_=>exact h.elim
def Ql (ha:JE X a ta) (hb:JE X b tb):JE X (.BinOp a .Add b pos) (mq om ta tb):=wL OU TF ha hb
def O3 (ha:JE X a ta) (hb:JE X b tb):JE X (.BinOp a .Sub b pos) (mq (rj λi j=> .int (i - j)) ta tb):=wL Ux Uz ha hb
def Wq (ha:JE X a ta) (hb:JE X b tb):JE X (.BinOp a .Mult b pos) (mq (oH rk λi j=> .int (i*j)) ta tb):=wL QR Az ha hb
def YF (ha:JE X a ta) (hb:JE X b tb):JE X (.BinOp a .FloorDiv b pos) (mq (oH sB λi j=> .int (i / j)) ta tb):=wL P3 Az ha hb
def T6 (ha:JE X a ta) (hb:JE X b tb):JE X (.BinOp a .Mod b pos) (mq (oH (λ_ j=>0<j) λi j=> .int (i % j)) ta tb):=wL PL Az ha hb
def V9 (ha:JE X a ta) (hb:JE X b tb):JE X (.BinOp a .Pow b pos) (mq (oH CC λi j=> .int (i ^ j.toNat)) ta tb):=wL Se Az ha hb
def qX (t:WE) (E:WX) (σ:mU) (S:lr) (Q:WK):Prop:=t E σ S λw S1=>match w with
 | .int i=>Q (.int (-i)) S1
 |_=>False
def Ym (ha:JE X a ta):JE X (.UnaryOp .USub a pos) (qX ta):=λE hE=>
 (VX Xt (ha E hE)).mono λσ H Q ⟨σW,S,QW,hσ,hS,ht,hQ⟩=>⟨σW,S,_,hσ,hS,ht,λw S1 v H1 e1 r1 iU h1=>by
  cases r1 with
  |int i=>exact⟨i,rfl,hQ _ S1 _ H1 e1 (.int _) iU h1⟩
  |_=>exact h1.elim⟩
def P6 (t u:WE):WL:=λE σ S Q=>t E σ S λx S1=>u E σ S1 λy S2=>match x,y with
 | .ref a, .ref b=>n9 S2 a λxs=>n9 S2 b λys=>xs.length+ys.length≤sizeLine∧Q (xs++ys) S2
 |_,_=>False
def oV (f:W→W→Option Bool):List W→List W→Option Bool
 | [],[]=>aa true
 | [],_=>aa false
 |_,[]=>aa false
 |x::xs,y::ys=>match f x y,oV f xs ys with
  |some a,aa b=>aa (a&&b)
  |_,_=>none
def nY (S:lr):Nat→W→W→Option Bool
 |0,_,_=>none
 |n+1,w,u=>match w,u with
  | .ca, .ca=>aa true
  | .bl a, .bl b=>aa (a == b)
  | .int a, .int b=>aa (a == b)
  | .str a, .str b=>aa (a == b)
  | .bW _, .int _=>aa false
  | .int _, .bW _=>aa false
  | .bW xs, .bW ys=>oV (nY S n) xs ys
  | .ref a, .ref b=>match S a with
   |some (.bP xs)=>match S b with
    |some (.bP ys)=>oV (nY S n) xs ys
    |_=>none
   |_=>none
  |_,_=>none
theorem J3{f:W→W→Option Bool}:∀{xs ys:List W}{b:Bool},oV f xs ys=aa b→
  (∀j,j<xs.length→j<ys.length→ ∃c,f (xs.getD j .ca) (ys.getD j .ca)=aa c)∧
  ((bx (min xs.length ys.length)).all (λj=>(f (xs.getD j .ca) (ys.getD j .ca)).getD true)&&xs.length == ys.length)=b
 | [],[],b,h=>by
  have:true=b:=aL h;subst this;exact⟨λj h=>absurd h (by simp),by simp⟩
 | [],y::ys,b,h=>by
  have:false=b:=aL h;subst this;exact⟨λj h=>absurd h (by simp),by simp⟩
 |x::xs,[],b,h=>by
  have:false=b:=aL h;subst this;exact⟨λj _ h=>absurd h (by simp),by simp⟩
 |x::xs,y::ys,b,h=>by
  unfold oV at h;split at h
  ·rename_i c d e1 e2;have hb:(c&&d)=b:=aL h;obtain⟨h1,h2⟩:=J3 e2;refine⟨λj j1 j2=>?_,?_⟩
   ·cases j with
    |zero=>exact⟨c,by simpa using e1⟩
    |succ j=>simpa using h1 j (by simpa using j1) (by simpa using j2)
   ·have hm:min (xs.length+1) (ys.length+1)=min xs.length ys.length+1:=by lia
    have hl:(xs.length+1 == ys.length+1)=(xs.length == ys.length):=by simp
    rw[aU,aU,hm,gp,e_,fv,hl];have q:((λj=>(f ((x::xs).getD j .ca) ((y::ys).getD j .ca)).getD true)∘Nat.succ)=λj=>(f (xs.getD j .ca) (ys.getD j .ca)).getD true:=by
     funext j;simp
    rw[q,Bool.and_assoc,h2];have q0:(f ((x::xs).getD 0 .ca) ((y::ys).getD 0 .ca)).getD true=c:=by simp [e1]
    rw[q0,hb]
  ·cases h
theorem D1 (I:my X ag σ H s):∀(n:Nat) {wx wy:W}{v:V}{b:Bool},nK X.K H wx v→nK X.K H wy v→mD X.K H S→nY S n wx wy=aa b→b=true
 |0,_,_,_,_,_,_,_,h=>by cases h
 |n+1,wx,wy,v,b,rx,ry,hS,h=>by
  have list:∀{ws us:List W}{vs:List V}{b:Bool},mC X.K H ws vs→mC X.K H us vs→oV (nY S n) ws us=aa b→b=true:=by
   intro ws
   induction ws with
   |nil=>
    intro us vs b r1 r2 e;cases r1;cases r2;exact(aL e).symm
   |cons w ws ih=>
    intro us vs b r1 r2 e;cases r1 with
    |cons a1 a2=>
     cases r2 with
     |cons c1 c2=>
      unfold oV at e;split at e
      ·rename_i c d e1 e2;have q1:=D1 I n a1 c1 hS e1;have q2:=ih a2 c2 e2;have:=aL e;rw[q1,q2]at this;exact this.symm
      ·cases e
  cases rx with
  |ca=>cases ry;exact(aL h).symm
  |bl k=>cases ry;have:=aL h;simpa using this.symm
  |int k=>cases ry;have:=aL h;simpa using this.symm
  |str k=>cases ry;have:=aL h;simpa using this.symm
  |ref a=>
   cases ry with
   |ref _=>
    have h':(match S a with
     |some (.bP xs)=>match S a with
      |some (.bP ys)=>oV (nY S n) xs ys
      |_=>none
     |_=>none)=aa b:=h
    cases e:S a with
    |none=>rw[e]at h';cases h'
    |some o=>
     rw[e]at h';cases o with
     |bP ws=>
      obtain⟨vs,_,r⟩:=hS a _ e;exact list r r h'
     |dct _=>cases h'
     |dk _=>cases h'
     |ins _ _=>cases h'
   |c7 _=>cases h
   |bW _ _=>cases h
  |c7 f=>cases ry<;>cases h
  |bW f hs=>
   cases ry with
   |ref _=>cases h
   |c7 _=>cases h
   |bW g ks=>
    have e:=I.tuple_inj (.of f) (.of g);subst e;exact list hs ks h
theorem Kb{A:bt}:A.in1.units=A.units+1:=rfl
theorem Cy (I:my X ag σ H s) (hS:mD X.K H S):∀(n:Nat) {A:bt}{wx wy:W}{x y:V}{u v:aj}{b:Bool},A.units+n<cLine→nK X.K H wx x→nK X.K H wy y→mV x u→mV y v→nY S n wx wy=aa b→
  eO A s u v b∧fT A s u v b∧fG A s u v (!b)
 |0,_,_,_,_,_,_,_,_,_,_,_,_,_,h=>by cases h
 |n+1,A,wx,wy,x,y,u,v,b,hu,rx,ry,ru,rv,h=>by
  have hu0:A.units<cLine:=by lia
  have items:∀{ws zs:List W}{xs ys:List V}{us vs:List aj}{b:Bool},mC X.K H ws xs→mC X.K H zs ys→mM xs us→mM ys vs→oV (nY S n) ws zs=aa b→
    (∀j (h1:j<us.toArray.size) (h2:j<vs.toArray.size),eO A.in1 s us.toArray[j] vs.toArray[j] ((nY S n (ws.getD j .ca) (zs.getD j .ca)).getD true))∧
    ((bx (min us.toArray.size vs.toArray.size)).all (λj=>(nY S n (ws.getD j .ca) (zs.getD j .ca)).getD true)&&us.toArray.size == vs.toArray.size)=b:=by
   intro ws zs xs ys us vs b r1 r2 q1 q2 e;obtain⟨h1,h2⟩:=J3 e;have l1:=r1.length;have l2:=r2.length;have l3:=q1.length;have l4:=q2.length;refine⟨λj j1 j2=>?_,?_⟩
   ·rw[bf]at j1 j2;obtain⟨c,hc⟩:=h1 j (by lia) (by lia);have jw:j<ws.length:=by lia
    have jz:j<zs.length:=by lia
    obtain⟨x',ex,rx'⟩:=r1.get (aS jw);obtain⟨y',ey,ry'⟩:=r2.get (aS jz);obtain⟨u',eu,ru'⟩:=q1.get ex;obtain⟨v',ev,rv'⟩:=q2.get ey;have e1:us.toArray[j]=u':=by
     obtain⟨_,e⟩:=b8.mp eu;simpa using e
    have e2:vs.toArray[j]=v':=by
     obtain⟨_,e⟩:=b8.mp ev;simpa using e
    have g1:ws.getD j .ca=ws[j]:=by rw[bv,aS jw];rfl
    have g2:zs.getD j .ca=zs[j]:=by rw[bv,aS jz];rfl
    rw[e1,e2,hc];rw[g1,g2]at hc;exact(Cy I hS n (by rw[Kb];lia) rx' ry' ru' rv' hc).1
   ·rw[bf,bf,←l3,←l4,←l1,←l2];exact h2
  cases rx with
  |ca=>
   cases(show u=cK from ru);cases ry with
   |ca=>cases(show v=cK from rv);cases h;exact⟨.same _, .none_none, .none_none⟩
   |_=>cases h
  |bl k=>
   cases(show u=fj k from ru);cases ry with
   |bl j=>cases(show v=fj j from rv);cases h;exact⟨.bool_bool _ _, .bool_bool _ _, .bool_bool _ _⟩
   |_=>cases h
  |int k=>
   obtain⟨t0,rfl⟩:=ru;cases ry with
   |int j=>obtain⟨t,rfl⟩:=rv;cases h;exact⟨.int_int _ _ _ _, .int_int _ _ _ _, .int_int _ _ _ _⟩
   |bW f hs=>cases(show v=bM _ from rv);cases h;obtain⟨eH,_,p,_⟩:=I.tuple (.of f);exact⟨.int_tuple _ _ p hu0, .int_tuple _ _ p hu0, .int_tuple _ _ p hu0⟩
   |_=>cases h
  |str k=>
   obtain⟨t0,rfl⟩:=ru;cases ry with
   |str j=>obtain⟨t,rfl⟩:=rv;cases h;exact⟨.str_str _ _ _ _, .str_str _ _ _ _, .str_str _ _ _ _⟩
   |_=>cases h
  | @bW a xs ws f hs=>
   cases(show u=bM a from ru);obtain⟨eH,q1,p,_⟩:=I.tuple (.of f);cases ry with
   |int j=>obtain⟨t,rfl⟩:=rv;cases h;exact⟨.tuple_int _ _ p hu0, .tuple_int _ _ p hu0, .tuple_int _ _ p hu0⟩
   | @bW c ys zs g ks=>
    cases(show v=bM c from rv);obtain⟨its2,q2,p2,_⟩:=I.tuple (.of g);obtain⟨h1,h2⟩:=items hs ks q1 q2 h;have rc:fT A s (.ref a) (.ref c) b:=by
     have:=fT.tuples p p2 hu0 h1;rw[h2]at this;exact this
    have rn:fG A s (.ref a) (.ref c) (!b):=by
     have:=fG.tuples p p2 hu0 h1;rw[h2]at this;exact this
    refine⟨?_,rc,rn⟩;by_cases e:a=c
    ·subst e;have:=D1 I (n+1) (.bW f hs) (.bW g ks) hS h;rw[this];exact .same _
    ·exact .of_refs e rc
   |_=>cases h
  |ref a=>
   cases(show u=bM a from ru);cases ry with
   |ref c=>
    cases(show v=bM c from rv);have h':(match S a with
     |some (.bP xs)=>match S c with
      |some (.bP ys)=>oV (nY S n) xs ys
      |_=>none
     |_=>none)=aa b:=h
    cases e:S a with
    |none=>rw[e]at h';cases h'
    |some o=>
     rw[e]at h';cases o with
     |dct _=>cases h'
     |dk _=>cases h'
     |ins _ _=>cases h'
     |bP ws=>
      cases e2:S c with
      |none=>rw[e2]at h';cases h'
      |some o2=>
       rw[e2]at h';cases o2 with
       |dct _=>cases h'
       |dk _=>cases h'
       |ins _ _=>cases h'
       |bP zs=>
        obtain⟨xs,f,hs⟩:=hS a _ e;obtain⟨ys,g,ks⟩:=hS c _ e2;obtain⟨eH,q1,p,_⟩:=I.list (.of f);obtain⟨its2,q2,p2,_⟩:=I.list (.of g);obtain⟨h1,h2⟩:=items hs ks q1 q2 h';have both:fT A s (.ref a) (.ref c) b∧fG A s (.ref a) (.ref c) (!b):=by
         by_cases hz:eH.toArray.size=its2.toArray.size
         ·have t1:=fT.lists p.isList p2.isList hz hu0 h1;have t2:=fG.lists p.isList p2.isList hz hu0 h1;rw[←hz,Nat.min_self,beq_self_eq_true,Bool.and_true]at h2;rw[h2]at t1 t2;exact⟨t1,t2⟩
         ·have hz':(eH.toArray.size != its2.toArray.size)=true:=by simpa using hz
          have hz2:(eH.toArray.size == its2.toArray.size)=false:=by simpa using hz
          rw[hz2,gh]at h2;subst h2;exact⟨.lists_lengths p.isList p2.isList hz' hu0, .lists_lengths p.isList p2.isList hz' hu0⟩
        refine⟨?_,both.1,both.2⟩;by_cases ee:a=c
        ·subst ee;have:=D1 I (n+1) (.ref a) (.ref a) hS h;rw[this];exact .same _
        ·exact .of_refs ee both.1
   |_=>cases h
  |c7 f=>cases ry<;>cases h
def oK (neg:Bool) (x:W) (y:W) (S:lr) (Q:WK):Prop:=match nY S 60 x y with
 |some b=>Q (.bl (if neg then !b else b)) S
 |none=>False
def D3 (K:ao) (neg:Bool):R2:=λx y H Q=>∃wx wy S b,nK K H wx x∧nK K H wy y∧mD K H S∧nY S 60 wx wy=aa b∧Q (.bl (if neg then !b else b)) H
def RY (hu:X.A.units+60<cLine):n_ X (bB .Eq) (D3 X.K false):=by
 intro ag s σ H x y v u Q I rx ry h;obtain⟨wx,wy,S,b,r1,r2,hS,e,q⟩:=h;exact(Cy I hS 60 hu r1 r2 rx ry e).2.1 _ _ _ _ ⟨.bl b,H,I,rfl,q⟩
def QU (hu:X.A.units+60<cLine):n_ X (bB .NotEq) (D3 X.K true):=by
 intro ag s σ H x y v u Q I rx ry h;obtain⟨wx,wy,S,b,r1,r2,hS,e,q⟩:=h;exact(Cy I hS 60 hu r1 r2 rx ry e).2.2 _ _ _ _ ⟨.bl (!b),H,I,rfl,q⟩
def LY{K:ao}{neg:Bool}:rh K (D3 K neg) (oK neg):=λH x y wx wy S Q QW rx ry hS h hQ=>by
 unfold oK at h;split at h
 ·rename_i b e;exact⟨wx,wy,S,b,rx,ry,hS,e,hQ _ S _ H .refl (.bl _) hS h⟩
 ·exact h.elim
abbrev uZ:W2:=rj λi j=> .bl (decide (i<j))
abbrev ux:W2:=rj λi j=> .bl (decide (j<i))
abbrev Lk:W2:=rj λi j=> .bl (decide (j≤i))
def sD:W2
 | .int i, .int j,S,Q=>Q (.bl (decide (i≤j))) S
 | .str i, .str j,S,Q=>Q (.bl (!decide (j.cps.toList<i.cps.toList))) S
 |_,_,_,_=>False
def EA{K:ao}:rh K (λx y H Q=>so (λi j=> .bl (decide (i≤j))) x y H Q∨(∃i j,x= .str i∧y= .str j∧Q (.bl (!decide (j.cps.toList<i.cps.toList))) H)) sD:=λH x y wx wy S Q QW rx ry hS h hQ=>by
 cases rx with
 |int i=>
  cases ry with
  |int j=>exact .inl ⟨i,j,rfl,rfl,hQ _ S _ H .refl (.bl _) hS h⟩
  |_=>exact h.elim
 |str i=>
  cases ry with
  |str j=>exact .inr ⟨i,j,rfl,rfl,hQ _ S _ H .refl (.bl _) hS h⟩
  |_=>exact h.elim
 |_=>exact h.elim
def vP (r r':W2) (a b c:WE) (E:WX) (σ:mU) (S:lr) (Q:WK):Prop:=a E σ S λx S1=>b E σ S1 λy S2=>r x y S2 λz S3=>match z with
 | .bl true=>c E σ S3 λu S4=>r' y u S4 Q
 | .bl false=>Q (.bl false) S3
 |_=>False
def pq (neg:Bool):W2
 | .ca, .ca,S,Q=>Q (.bl (!neg)) S
 | .bl a, .bl b,S,Q=>Q (.bl (if neg then a != b else a == b)) S
 | .bl _, .ca,S,Q=>Q (.bl neg) S
 | .int _, .ca,S,Q=>Q (.bl neg) S
 | .str _, .ca,S,Q=>Q (.bl neg) S
 | .bW _, .ca,S,Q=>Q (.bl neg) S
 | .ref _, .ca,S,Q=>Q (.bl neg) S
 |_,_,_,_=>False
def UF:n_ X (bB .Is) (λx y H Q=>(y= .ca∧Q (.bl (decide (x= .ca))) H)∨ ∃a b,x= .bl a∧y= .bl b∧Q (.bl (a == b)) H):=vx.or (by
 intro ag s σ H x y v u Q I rx ry h;obtain⟨a,b,rfl,rfl,q⟩:=h;cases rx;cases ry;exact is_bool ⟨.bl _,H,I,rfl,q⟩)
def R6:n_ X (bB .IsNot) (λx y H Q=>(y= .ca∧Q (.bl (!decide (x= .ca))) H)∨ ∃a b,x= .bl a∧y= .bl b∧Q (.bl (a != b)) H):=ul.or (by
 intro ag s σ H x y v u Q I rx ry h;obtain⟨a,b,rfl,rfl,q⟩:=h;cases rx;cases ry;exact isnot_bool ⟨.bl _,H,I,rfl,q⟩)
def OL{K:ao}:rh K (λx y H Q=>(y= .ca∧Q (.bl (decide (x= .ca))) H)∨ ∃a b,x= .bl a∧y= .bl b∧Q (.bl (a == b)) H) (pq false):=λH x y wx wy S Q QW rx ry hS h hQ=>by
 cases ry with
 |ca=>cases rx<;>first |exact .inl ⟨rfl,by simpa using hQ _ S _ H .refl (.bl _) hS h⟩ |exact h.elim
 |bl b=>
  cases rx with
  |bl a=>exact .inr ⟨a,b,rfl,rfl,hQ _ S _ H .refl (.bl _) hS h⟩
  |_=>exact h.elim
 |_=>cases rx<;>exact h.elim
def Xh{K:ao}:rh K (λx y H Q=>(y= .ca∧Q (.bl (!decide (x= .ca))) H)∨ ∃a b,x= .bl a∧y= .bl b∧Q (.bl (a != b)) H) (pq true):=λH x y wx wy S Q QW rx ry hS h hQ=>by
 cases ry with
 |ca=>cases rx<;>first |exact .inl ⟨rfl,by simpa using hQ _ S _ H .refl (.bl _) hS h⟩ |exact h.elim
 |bl b=>
  cases rx with
  |bl a=>exact .inr ⟨a,b,rfl,rfl,hQ _ S _ H .refl (.bl _) hS h⟩
  |_=>exact h.elim
 |_=>cases rx<;>exact h.elim
def rH (S:lr) (x:W):List W→Option Bool
 | []=>aa false
 |w::ws=>match nY S 59 w x with
  |some a=>match rH S x ws with
   |some b=>aa (a || b)
   |none=>none
  |none=>none
section
theorem FR (I:my X ag σ H s) (hS:mD X.K H S):∀(n:Nat) {w w' u:W}{v:V}{b b':Bool},nK X.K H w v→nK X.K H w' v→nY S n w u=aa b→nY S n w' u=aa b'→b=b'
 |0,_,_,_,_,_,_,_,_,h,_=>by cases h
 |n+1,w,w',u,v,b,b',r,r',h,h'=>by
  have list:∀{us ws zs:List W}{vs:List V}{b b':Bool},mC X.K H ws vs→mC X.K H zs vs→oV (nY S n) ws us=aa b→oV (nY S n) zs us=aa b'→b=b':=by
   intro us
   induction us with
   |nil=>
    intro ws zs vs b b' r1 r2 e1 e2;cases r1 with
    |nil=>cases r2;rw[e1]at e2;exact aL e2
    |cons _ _=>cases r2 with
     |cons _ _=>have:=aL e1;have:=aL e2;subst_vars;rfl
   |cons u us ih=>
    intro ws zs vs b b' r1 r2 e1 e2;cases r1 with
    |nil=>cases r2;rw[e1]at e2;exact aL e2
    |cons a1 a2=>
     cases r2 with
     |cons c1 c2=>
      unfold oV at e1 e2;split at e1
      ·rename_i p q f1 f2;split at e2
       ·rename_i p' q' g1 g2;have h1:=FR I hS n a1 c1 f1 g1;have h2:=ih a2 c2 f2 g2;rw[←aL e1,←aL e2,h1,h2]
       ·cases e2
      ·cases e1
  have nolist:∀{a:ai}{vs:List V}{ws:List W},H a=aa (.bW vs)→S a=aa (.bP ws)→False:=λf e=>by
   obtain⟨_,g,_⟩:=hS _ _ e;rw[f]at g;cases g
  cases r with
  |ca=>cases r';rw[h]at h';exact aL h'
  |bl k=>cases r';rw[h]at h';exact aL h'
  |int k=>cases r';rw[h]at h';exact aL h'
  |str k=>cases r';rw[h]at h';exact aL h'
  |c7 f=>cases u<;>cases h
  | @bW a vs ws f hs=>
   cases r' with
   | @bW _ us zs g ks=>
    rw[f]at g;cases g;cases u with
    |bW us=>exact list hs ks h h'
    |int _=>have:=aL h;have:=aL h';subst_vars;rfl
    |_=>cases h
   |c7 _=>cases u<;>cases h'
   |ref _=>
    exfalso;cases u with
    |ref c=>
     have h2:(match S a with
      |some (.bP xs)=>match S c with
       |some (.bP ys)=>oV (nY S n) xs ys
       |_=>none
      |_=>none)=aa b':=h'
     split at h2
     ·exact nolist f ‹_›
     ·cases h2
    |_=>cases h'
  |ref a=>
   cases r' with
   |ref _=>rw[h]at h';exact aL h'
   |c7 _=>cases u<;>cases h'
   |bW f hs=>
    exfalso;cases u with
    |ref c=>
     have h2:(match S a with
      |some (.bP xs)=>match S c with
       |some (.bP ys)=>oV (nY S n) xs ys
       |_=>none
      |_=>none)=aa b:=h
     split at h2
     ·exact nolist f ‹_›
     ·cases h2
    |_=>cases h
open Classical in
def AQ (I:my X ag σ H s) (hS:mD X.K H S) {A:bt}{ws:List W}{vs:List V}{us:List aj}{wx:W}{x:V}{u:aj}{b:Bool}(hu:A.units+60<cLine) (r:mC X.K H ws vs) (rv:mM vs us) (rx:nK X.K H wx x) (ru:mV x u) (h:rH S wx ws=aa b) :
  ∃e:aj→Bool,(∀y,y∈us.toArray→eO A.in1 s y u (e y))∧us.toArray.any e=b:=by
 refine⟨λy=>decide (∃w v,nK X.K H w v∧mV v y∧nY S 59 w wx=aa true),?_,?_⟩
 ·have go:∀{ws:List W}{vs:List V}{us:List aj}{b:Bool},mC X.K H ws vs→mM vs us→rH S wx ws=aa b→ ∀y∈us,eO A.in1 s y u (decide (∃w v,nK X.K H w v∧mV v y∧nY S 59 w wx=aa true)):=by
   intro ws
   induction ws with
   |nil=>intro vs us b r rv h y hy;cases r;cases rv;cases hy
   |cons w ws ih=>
    intro vs us b r rv h y hy;cases r with
    |cons r1 r2=>
     cases rv with
     |cons q1 q2=>
      unfold rH at h;split at h
      ·rename_i c e1;split at h
       ·rename_i d e2;obtain rfl |hy:=az.mp hy
        ·have ok:=(Cy I hS 59 (A:=A.in1) (by rw[Kb];lia) r1 rx q1 ru e1).1;have ec:c=decide (∃w v,nK X.K H w v∧mV v y∧nY S 59 w wx=aa true):=by
          cases c with
          |true=>exact(decide_eq_true ⟨w,_,r1,q1,e1⟩).symm
          |false=>
           symm;refine decide_eq_false λ⟨w',v',r',q',e'⟩=>?_;have:=mV.inj q' q1;subst this;exact absurd (FR I hS 59 r1 r' e1 e') (by simp)
         rw[←ec];exact ok
        ·exact ih r2 q2 e2 y hy
       ·cases h
      ·cases h
  intro y hy;exact go r rv h y (by simpa using hy)
 ·have go:∀{ws:List W}{vs:List V}{us:List aj}{b:Bool},mC X.K H ws vs→mM vs us→rH S wx ws=aa b→us.any (λy=>decide (∃w v,nK X.K H w v∧mV v y∧nY S 59 w wx=aa true))=b:=by
   intro ws
   induction ws with
   |nil=>intro vs us b r rv h;cases r;cases rv;exact aL h
   |cons w ws ih=>
    intro vs us b r rv h;cases r with
    |cons r1 r2=>
     cases rv with
     | @cons _ _ _ _ q1 q2=>
      rename_i y _;unfold rH at h;split at h
      ·rename_i c e1;split at h
       ·rename_i d e2;have ec:decide (∃w v,nK X.K H w v∧mV v y∧nY S 59 w wx=aa true)=c:=by
          cases c with
          |true=>exact decide_eq_true ⟨w,_,r1,q1,e1⟩
          |false=>
           refine decide_eq_false λ⟨w',v',r',q',e'⟩=>?_;have:=mV.inj q' q1;subst this;exact absurd (FR I hS 59 r1 r' e1 e') (by simp)
        rw[fu,ih r2 q2 e2,ec];exact aL h
       ·cases h
      ·cases h
  have:=go r rv h;simpa using this
end
def uI (neg:Bool):W2:=λx y S Q=>match y with
 | .str j=>match x with
  | .str i=>Q (.bl (if neg then !(!(c6 j i 0 j.length 1).isEmpty) else !(c6 j i 0 j.length 1).isEmpty)) S
  |_=>False
 | .bW ws=>match rH S x ws with
  |some b=>Q (.bl (if neg then !b else b)) S
  |none=>False
 | .ref a=>n9 S a λws=>match rH S x ws with
  |some b=>Q (.bl (if neg then !b else b)) S
  |none=>False
 |_=>False
def C7 (K:ao) (neg:Bool):R2:=λx y H Q=>∃wx ws vs S p b,y= .ref p∧(oF K H p vs∨oY K H p vs)∧mC K H ws vs∧nK K H wx x∧mD K H S∧rH S wx ws=aa b∧Q (.bl (if neg then !b else b)) H
def Rv (hu:X.A.units+60<cLine):n_ X (bB .In) (C7 X.K false):=by
 intro ag s σ H x y v u Q I rx ry h;obtain⟨wx,ws,vs,S,p,b,rfl,hq,rs,r,hS,e,q⟩:=h;cases ry;obtain hq |hq:=hq
 ·obtain⟨eH,rv,p,_⟩:=I.list hq;obtain⟨f,h1,h2⟩:=AQ I hS hu rs rv r rx e;exact SeqAt.in_listAt f p.isList h1 (by rw[h2];exact⟨.bl b,H,I,rfl,q⟩)
 ·obtain⟨eH,rv,p,_⟩:=I.tuple hq;obtain⟨f,h1,h2⟩:=AQ I hS hu rs rv r rx e;exact SeqAt.in_tupleAt f p h1 (by rw[h2];exact⟨.bl b,H,I,rfl,q⟩)
def Sf (hu:X.A.units+60<cLine):n_ X (bB .NotIn) (C7 X.K true):=by
 intro ag s σ H x y v u Q I rx ry h;obtain⟨wx,ws,vs,S,p,b,rfl,hq,rs,r,hS,e,q⟩:=h;cases ry;obtain hq |hq:=hq
 ·obtain⟨eH,rv,p,_⟩:=I.list hq;obtain⟨f,h1,h2⟩:=AQ I hS hu rs rv r rx e;exact SeqAt.notIn_listAt f p.isList h1 (by rw[h2];exact⟨.bl (!b),H,I,rfl,q⟩)
 ·obtain⟨eH,rv,p,_⟩:=I.tuple hq;obtain⟨f,h1,h2⟩:=AQ I hS hu rs rv r rx e;exact SeqAt.notIn_tupleAt f p h1 (by rw[h2];exact⟨.bl (!b),H,I,rfl,q⟩)
def N7{K:ao}{neg:Bool}{H:Hp}{x y:V}{wx wy:W}{S:lr}{Q:VK}{QW:WK}(rx:nK K H wx x) (ry:nK K H wy y) (hS:mD K H S) (h:uI neg wx wy S QW) (hQ:oJ K H S QW Q) :
  (∃i j,x= .str i∧y= .str j∧Q (.bl (if neg then !(!(c6 j i 0 j.length 1).isEmpty) else !(c6 j i 0 j.length 1).isEmpty)) H)∨C7 K neg x y H Q:=by
 cases ry with
 |str j=>
  cases rx with
  |str i=>exact .inl ⟨i,j,rfl,rfl,hQ _ S _ H .refl (.bl _) hS h⟩
  |_=>exact h.elim
 |bW f hs=>
  refine .inr ?_;unfold uI at h;dsimp only at h;split at h
  ·exact⟨wx,_,_,S,_,_,rfl, .inr (.of f),hs,rx,hS, ‹_›,hQ _ S _ H .refl (.bl _) hS h⟩
  ·exact h.elim
 |ref a=>
  refine .inr ?_;obtain⟨ws,e,h⟩:=ql h;obtain⟨vs,f,hs⟩:=hS a _ e;split at h
  ·exact⟨wx,_,_,S,_,_,rfl, .inl (.of f),hs,rx,hS, ‹_›,hQ _ S _ H .refl (.bl _) hS h⟩
  ·exact h.elim
 |_=>exact h.elim
def mE:W2:=λx y S Q=>match y with
 | .int i=>match x with
  | .bW ws=>match nC ws i with
   |some w=>Q w S
   |none=>False
  | .ref a=>n9 S a λws=>match nC ws i with
   |some w=>Q w S
   |none=>False
  | .c7 ns=>match nC ns i with
   |some n=>Q (.int n) S
   |none=>False
  | .str x=>x.length≤sizeLine∧match nC x.cps.toList i with
   |some c=>Q (.str ⟨#[c]⟩) S
   |none=>False
  |_=>False
 |_=>False
def Fp{K:ao}{H:Hp}{ws:List W}{vs:List V}{i:Int}{w:W}(r:mC K H ws vs) (e:nC ws i=aa w):∃v,nC vs i=aa v∧nK K H w v:=by
 unfold nC at e⊢;rw[←r.length];cases q:tw ws.length i with
 |none=>rw[q]at e;cases e
 |some j=>rw[q]at e;exact r.get e
def Yh{α β:Type}{f:α→β}{xs:List α}{i:Int}{x:α}(e:nC xs i=aa x):nC (xs.map f) i=aa (f x):=by
 unfold nC at e⊢;rw[ay];cases q:tw xs.length i with
 |none=>rw[q]at e;cases e
 |some j=>
  rw[q]at e;show(xs.map f)[j]? =_;rw[aV,show xs[j]? =aa x from e];rfl
def Ut{K:ao}:rh K (Ni K) mE:=λH x y wx wy S Q QW rx ry hS h hQ=>by
 cases ry with
 |int i=>
  cases rx with
  |bW f hs=>
   unfold mE at h;dsimp only at h;split at h
   ·obtain⟨v,ev,r⟩:=Fp hs ‹_›;exact .inr (.inl ⟨_,_,i,v,rfl,rfl, .of f,ev,hQ _ S _ H .refl r hS h⟩)
   ·exact h.elim
  |ref a=>
   obtain⟨ws,e,h⟩:=ql h;obtain⟨vs,f,hs⟩:=hS a _ e;split at h
   ·obtain⟨v,ev,r⟩:=Fp hs ‹_›;exact .inl ⟨_,_,i,v,rfl,rfl, .of f,ev,hQ _ S _ H .refl r hS h⟩
   ·exact h.elim
  |c7 f=>
   unfold mE at h;dsimp only at h;split at h
   ·exact .inl ⟨_,_,i,_,rfl,rfl,f.sq,Yh ‹_›,hQ _ S _ H .refl (.int _) hS h⟩
   ·exact h.elim
  |str z=>
   unfold mE at h;dsimp only at h;obtain⟨hz,h⟩:=h;split at h
   ·exact .inr (.inr ⟨z,i,_,rfl,rfl,hz, ‹_›,hQ _ S _ H .refl (.str _) hS h⟩)
   ·exact h.elim
  |_=>exact h.elim
 |_=>exact h.elim
section
variable {X:Cx}{a b e:Expr}{pos p2:bw}{ta tb te:WE}{lo hi:Option Expr}
def UV (ha:JE X a ta) (hb:JE X b tb) (hs:Cc b:=by intro _ _;rfl):JE X (.Subscript a b pos) (mq mE ta tb):=λE hE=>
 (Ol Oe (ha E hE) (hb E hE) hs).mono λσ H Q h=>Br h λH2 x y wx wy S QW rx ry hS q hQ=>Ut H2 x y wx wy S Q QW rx ry hS q hQ
abbrev WO:=WX→mU→lr→(Option Int→lr→Prop)→Prop
def Uk (K:ao) (t:mU→lr→(Option Int→lr→Prop)→Prop):TO:=λσ H Q=>∃σW S QW,nj K H σW σ∧mD K H S∧t σW S QW∧ ∀b S' H',nH H S H' S'→mD K H' S'→QW b S'→Q b H'
def JO (X:Cx) (e:Option Expr) (t:WO):Prop:=∀E,oI X E→PO X e (Uk X.K (t E))
def oz (_:WX) (_:mU) (S:lr) (Q:Option Int→lr→Prop):Prop:=Q none S
def ou (t:WE) (E:WX) (σ:mU) (S:lr) (Q:Option Int→lr→Prop):Prop:=t E σ S λw S1=>match w with
 | .int i=>Q (aa i) S1
 |_=>False
def PO.mono{X:Cx}{e:Option Expr}{t t':TO}(h:PO X e t) (q:∀σ H Q,t' σ H Q→t σ H Q):PO X e t':=λag s σ H Q I z=>h ag s σ H Q I (q σ H Q z)
def TN:JO X none oz:=λE hE=>uj.mono λσ H Q ⟨σW,S,QW,hσ,hS,ht,hQ⟩=>hQ none S H .refl hS ht
def Pm (h:JE X e te):JO X (aa e) (ou te):=λE hE=>(UA (h E hE)).mono λσ H Q ⟨σW,S,QW,hσ,hS,ht,hQ⟩=>⟨σW,S,_,hσ,hS,ht,λw S1 v H1 e1 r1 iU h1=>by
 cases r1 with
 |int i=>exact⟨i,rfl,hQ _ S1 H1 e1 iU h1⟩
 |_=>exact h1.elim⟩
def o4 {α:Type}(xs:List α) (lo hi:Option Int):List α:=(xs.drop (HT.sIx xs.length 0 lo)).take (HT.sIx xs.length xs.length hi - HT.sIx xs.length 0 lo)
def C3{K:ao}{H:Hp}{ws:List W}{vs:List V}{lo hi:Option Int}(r:mC K H ws vs):mC K H (o4 ws lo hi) (tp vs lo hi):=by
 unfold o4 tp;rw[r.length];exact(r.drop _).take _
def Hh{α β:Type}{f:α→β}{xs:List α}{lo hi:Option Int}:o4 (xs.map f) lo hi=(o4 xs lo hi).map f:=by
 unfold o4;rw[ay,iL,iz]
def Pq{prog:bi}{w:aR}{A:bt}{E:aj→am→Prop}{s:am}{t sl:ai}{items:Array aj}{vl vu:aj}{lo hi:Option Int}{Q:aj→am→Prop}(ht:eM s.heap t items) (hs:s.heap.IsSliceOf sl vl vu .none) (pl:cY vl lo) (pu:cY vu hi)
  (hw:HT.sIx items.size 0 lo=0∧HT.sIx items.size items.size hi=items.size) (h:Q (.ref t) s):av (aB prog w) A (eA (.ref t) (.ref sl)) Q E s:=by
 obtain⟨os,hos,hcs,hds⟩:=id hs;have hTs:s.TypeIs (.ref sl) "slice" :=⟨os,hos,hcs⟩;unfold eA
 try with_reducible refine gv ?_
 first |refine au (aM ?_) |skip
 refine au (kZ ht.typeIs (by decide) ?_);refine au (dH (name:=bE "__getitem__") ht.typeIs eX
  (dG eX ht.typeIs j3 ?_ (kX _ _)))
 show av _ _ (kQ (.ref t) >>= _) _ _ s;refine au (tupleItemsOf_ ht ?_);refine au (fV hTs ?_);rw[if_pos (by decide)];refine au (HT.sliceApplied_gen hs pl pu ?_);show av _ _ (if(((HT.sIx items.size 0 lo:Nat):Int) == 0&&(1:Int) == 1&&(HT.sIx items.size items.size hi - HT.sIx items.size 0 lo) == items.size)=true then _ else _) _ _ s;rw[hw.1,hw.2,if_pos (by simp)];unfold cu.Tuple.tupleIsExact;refine au (au (fV ht.typeIs (aM ?_)));rw[if_pos (by decide)];exact au (eK (aM ⟨_,rfl,aM h⟩))
def ud:um X (λx lo hi H Q=>∃a xs,x= .ref a∧oY X.K H a xs∧((HT.sIx xs.length 0 lo=0∧HT.sIx xs.length xs.length hi=xs.length)∧Q (.ref a) H∨ ¬(HT.sIx xs.length 0 lo=0∧HT.sIx xs.length xs.length hi=xs.length)∧ ∀p,H p=none→Q (.ref p) (nG H p (.bW (tp xs lo hi))))):=by
 intro ag s σ H x v vl vu lo hi sl Q I rx hs pl pu h;obtain⟨a,xs,rfl,hx,⟨hw,q⟩ |⟨hw,q⟩⟩:=h
 ·cases rx;obtain⟨eH,r,ht,hz⟩:=I.tuple hx;have hlen:eH.toArray.size=xs.length:=by rw[bf];exact r.length.symm
  refine⟨"tuple",_,eX.lookup,ht.typeIs,?_⟩;exact Pq ht hs pl pu (by rw[hlen];exact hw) ⟨.ref a,H,I,rfl,q⟩
 ·exact Xl ag s σ H _ v vl vu lo hi sl Q I rx hs pl pu ⟨a,xs,rfl,hx,hw,q⟩
def z_:W→Option Int→Option Int→lr→WK→Prop
 | .bW ws,lo,hi,S,Q=>Q (.bW (o4 ws lo hi)) S
 | .str z,lo,hi,S,Q=>z.length≤sizeLine∧Q (.str (cV z lo hi)) S
 | .ref a,lo,hi,S,Q=>n9 S a λws=>∀p,S p=none→Q (.ref p) (bR S p (.bP (o4 ws lo hi)))
 | .c7 ns,lo,hi,S,Q=>∀p,S p=none→Q (.ref p) (bR S p (.bP ((o4 ns lo hi).map W.int)))
 |_,_,_,_,_=>False
def oD (t:WE) (l h:WO) (E:WX) (σ:mU) (S:lr) (Q:WK):Prop:=t E σ S λx S1=>l E σ S1 λlo S2=>h E σ S2 λhi S3=>z_ x lo hi S3 Q
def V7{α:Type}{xs:List α}{lo hi:Option Int}(h:HT.sIx xs.length 0 lo=0∧HT.sIx xs.length xs.length hi=xs.length):o4 xs lo hi=xs:=by
 unfold o4;rw[h.1,h.2,dI,fD,iq]
def UP{tl th:WO}(he:JE X e te) (hl:JO X lo tl) (hh:JO X hi th):JE X (.Subscript e (.Slice lo hi none p2) pos) (oD te tl th):=λE hE=>
 (J2 (ud.or (v6.or Od)) (he E hE) (hl E hE) (hh E hE)).mono λσ H Q ⟨σW,S,QW,hσ,hS,ht,hQ⟩=>
  ⟨σW,S,_,hσ,hS,ht,λw S1 v H1 e1 r1 iU h1=>⟨σW,S1,_,hσ.ext e1,iU,h1,λlo S2 H2 e2 hS2 h2=>⟨σW,S2,_,(hσ.ext e1).ext e2,hS2,h2,λhi S3 H3 e3 hS3 h3=>by
   have hQ':=hQ.from (e1.trans (e2.trans e3));have r3:=(r1.ext e2).ext e3;cases r3 with
   | @bW a vs ws f hs=>
    refine .inl ⟨a,vs,rfl, .of f,?_⟩;by_cases hw:HT.sIx vs.length 0 lo=0∧HT.sIx vs.length vs.length hi=vs.length
    ·refine .inl ⟨hw,hQ' (.bW ws) S3 _ H3 .refl (.bW f hs) hS3 ?_⟩;have:=V7 (xs:=ws) (lo:=lo) (hi:=hi) (by rw[hs.length];exact hw);have h3':QW (.bW (o4 ws lo hi)) S3:=h3;rw[this]at h3';exact h3'
    ·exact .inr ⟨hw,λp hp=>hQ' _ S3 _ _ (.new hp) (.bW pD ((C3 hs).ext (.new (S:=S3) hp))) (hS3.new hp) h3⟩
   |str z=>exact .inr (.inl ⟨z,rfl,h3.1,hQ' _ S3 _ H3 .refl (.str _) hS3 h3.2⟩)
   |ref a=>
    obtain⟨ws,ea,h⟩:=ql h3;obtain⟨vs,f,hs⟩:=hS3 a _ ea;exact .inr (.inr ⟨a,vs,rfl, .of f,λp hp=>hQ' _ _ _ _ (.newS hp) (.ref p) (hS3.put_lst hp ((C3 hs).ext (.new (S:=S3) hp))) (h p (hS3.free hp))⟩)
   | @c7 a ns f=>
    refine .inr (.inr ⟨a,_,rfl,f.sq,λp hp=>hQ' _ _ _ _ (.newS hp) (.ref p) (hS3.put_lst hp ?_) (h3 p (hS3.free hp))⟩);have q:tp (ns.map V.int) lo hi=(o4 ns lo hi).map V.int:=Hh;rw[q];exact mC.ofInts _
   |_=>exact h3.elim⟩⟩⟩
def vc (t:WE) (l h:WO) (E:WX) (σ:mU) (S:lr) (Q:List W→lr→Prop):Prop:=t E σ S λx S1=>l E σ S1 λlo S2=>h E σ S2 λhi S3=>match x with
 | .ref a=>n9 S3 a λws=>Q (o4 ws lo hi) S3
 | .c7 ns=>Q ((o4 ns lo hi).map W.int) S3
 |_=>False
def RE{tl th:WO}(he:JE X e te) (hl:JO X lo tl) (hh:JO X hi th):JL X (.Subscript e (.Slice lo hi none p2) pos) (vc te tl th):=λE hE=>
 (J2 Od (he E hE) (hl E hE) (hh E hE)).mono λσ H Q ⟨σW,S,QW,hσ,hS,ht,hQ⟩=>
  ⟨σW,S,_,hσ,hS,ht,λw S1 v H1 e1 r1 iU h1=>⟨σW,S1,_,hσ.ext e1,iU,h1,λlo S2 H2 e2 hS2 h2=>⟨σW,S2,_,(hσ.ext e1).ext e2,hS2,h2,λhi S3 H3 e3 hS3 h3=>by
   have e':=e1.trans (e2.trans e3);have r3:=(r1.ext e2).ext e3;cases r3 with
   |ref a=>
    obtain⟨ws,ea,h⟩:=ql h3;obtain⟨vs,f,hs⟩:=hS3 a _ ea;exact⟨a,vs,rfl, .of f,λp hp=>hQ _ S3 _ p _ (e'.trans (.new hp)) (e'.free hp) pD (hS3.free hp) ((C3 hs).ext (.new (S:=S3) hp)) (hS3.new hp) h⟩
   | @c7 a ns f=>
    refine⟨a,_,rfl,f.sq,λp hp=>hQ _ S3 _ p _ (e'.trans (.new hp)) (e'.free hp) pD (hS3.free hp) ?_ (hS3.new hp) h3⟩;have q:tp (ns.map V.int) lo hi=(o4 ns lo hi).map V.int:=Hh;rw[q];exact mC.ofInts _
   |_=>exact h3.elim⟩⟩⟩
end
abbrev WF:=List W→lr→WK→Prop
def wB (f:WF) (t:WA) (E:WX) (σ:mU) (S:lr) (Q:WK):Prop:=t E σ S λws S1=>f ws S1 Q
def vQ (K:ao) (r:List V→Hp→VK→Prop) (f:WF):Prop:=∀H vs ws S (Q:VK) (QW:WK),mC K H ws vs→mD K H S→f ws S QW→oJ K H S QW Q→r vs H Q
def qK (f:WF) (t:WL) (E:WX) (σ:mU) (S:lr) (Q:WK):Prop:=t E σ S λws S1=>f ws S1 Q
def w9 (K:ao) (r:List V→Hp→VK→Prop) (f:WF):Prop:=∀H a vs ws S (Q:VK) (QW:WK),H a=aa (.bP vs)→S a=none→mC K H ws vs→mD K H S→f ws S QW→oJ K H S QW Q→r [.ref a] H Q
section
variable {X:Cx}{x:ah}{p pos:bw}{e:Expr}{es:List Expr}{t:WA}{tl:WL}{id T:String}{r:List V→Hp→VK→Prop}{f:WF}
def K5 (hc:nL X (.builtin id) r) (hw:vQ X.K r f) (hg:Gl X x) (hm:X.mg x=none) (hv:cD x=aa (.builtin id)) (ha:JA X (e::es) t) (hn:x≠ "__name__" :=by decide) (hdb:(x == ("__debug__" :ah))=false:=by decide)
  (he:ax (e::es) X.env=(false,aH e X.env)::ax es X.env:=by rfl) (hpl:(aZ pos (ax es X.env)).any (·.1)=false:=by rfl):JE X (.Call (.Name x p) (e::es) [] pos) (wB f t):=λE hE=>
 (EN hc hg hm hv (ha E hE) hn hdb he hpl).mono λσ H Q ⟨σW,S,QW,hσ,hS,ht,hQ⟩=>⟨σW,S,_,hσ,hS,ht,λws S1 vs H1 e1 r1 iU h1=>hw H1 vs ws S1 Q QW r1 iU h1 (hQ.from e1)⟩
def KH (hc:nL X (.type T) r) (hw:vQ X.K r f) (hg:Gl X x) (hm:X.mg x=none) (hv:cD x=aa (.type T)) (ha:JA X (e::es) t) (hn:x≠ "__name__" :=by decide) (hdb:(x == ("__debug__" :ah))=false:=by decide)
  (he:ax (e::es) X.env=(false,aH e X.env)::ax es X.env:=by rfl) (hpl:(aZ pos (ax es X.env)).any (·.1)=false:=by rfl):JE X (.Call (.Name x p) (e::es) [] pos) (wB f t):=λE hE=>
 (Eb hc hg hm hv (ha E hE) hn hdb he hpl).mono λσ H Q ⟨σW,S,QW,hσ,hS,ht,hQ⟩=>⟨σW,S,_,hσ,hS,ht,λws S1 vs H1 e1 r1 iU h1=>hw H1 vs ws S1 Q QW r1 iU h1 (hQ.from e1)⟩
def G_ (hc:nL X (.builtin id) r) (hw:w9 X.K r f) (hg:Gl X x) (hm:X.mg x=none) (hv:cD x=aa (.builtin id)) (ha:JL X e tl) (hn:x≠ "__name__" :=by decide) (hdb:(x == ("__debug__" :ah))=false:=by decide)
  (he:ax [e] X.env=(false,aH e X.env)::ax [] X.env:=by rfl) (hpl:(aZ pos (ax [] X.env)).any (·.1)=false:=by rfl):JE X (.Call (.Name x p) [e] [] pos) (qK f tl):=λE hE=>
 (EN hc hg hm hv (tR (ha E hE) oQ he) hn hdb he hpl).mono λσ H Q ⟨σW,S,QW,hσ,hS,ht,hQ⟩=>⟨σW,S,_,hσ,hS,ht,λws S1 vs a H1 e1 fa ea na r1 iU h1=>hw H1 a vs ws S1 Q QW ea na r1 iU h1 (hQ.from e1)⟩
def Kx (hc:nL X (.type T) r) (hw:w9 X.K r f) (hg:Gl X x) (hm:X.mg x=none) (hv:cD x=aa (.type T)) (ha:JL X e tl) (hn:x≠ "__name__" :=by decide) (hdb:(x == ("__debug__" :ah))=false:=by decide)
  (he:ax [e] X.env=(false,aH e X.env)::ax [] X.env:=by rfl) (hpl:(aZ pos (ax [] X.env)).any (·.1)=false:=by rfl):JE X (.Call (.Name x p) [e] [] pos) (qK f tl):=λE hE=>
 (Eb hc hg hm hv (tR (ha E hE) oQ he) hn hdb he hpl).mono λσ H Q ⟨σW,S,QW,hσ,hS,ht,hQ⟩=>⟨σW,S,_,hσ,hS,ht,λws S1 vs a H1 e1 fa ea na r1 iU h1=>hw H1 a vs ws S1 Q QW ea na r1 iU h1 (hQ.from e1)⟩
def oP:WF:=λws S Q=>match ws with
 | [.bW us]=>Q (.int us.length) S
 | [.ref a]=>n9 S a λus=>Q (.int us.length) S
 | [.c7 ns]=>Q (.int ns.length) S
 | [.str z]=>z.length≤sizeLine∧Q (.int z.length) S
 |_=>False
def SK{K:ao}:vQ K (λxs H Q=>(∃p ys,xs=[.ref p]∧(oF K H p ys∨oY K H p ys)∧Q (.int ys.length) H)∨ ∃z,xs=[.str z]∧z.length≤sizeLine∧Q (.int z.length) H) oP:=λH vs ws S Q QW r hS h hQ=>by
 cases r with
 |nil=>exact h.elim
 |cons r1 r2=>
  cases r2 with
  |cons _ _=>cases r1<;>exact h.elim
  |nil=>
   cases r1 with
   |bW f hs=>exact .inl ⟨_,_,rfl, .inr (.of f),by rw[←hs.length];exact hQ _ S _ H .refl (.int _) hS h⟩
   |ref a=>
    obtain⟨us,e,h⟩:=ql h;obtain⟨vs,f,hs⟩:=hS a _ e;exact .inl ⟨_,_,rfl, .inl (.of f),by rw[←hs.length];exact hQ _ S _ H .refl (.int _) hS h⟩
   |c7 f=>exact .inl ⟨_,_,rfl, .inl f.sq,by rw[ay];exact hQ _ S _ H .refl (.int _) hS h⟩
   |str z=>exact .inr ⟨z,rfl,h.1,hQ _ S _ H .refl (.int _) hS h.2⟩
   |_=>exact h.elim
def RI (hg:Gl X "len") (hm:X.mg "len" =none) (ha:JA X (e::es) t) 
  (he:ax (e::es) X.env=(false,aH e X.env)::ax es X.env:=by rfl) (hpl:(aZ pos (ax es X.env)).any (·.1)=false:=by rfl):JE X (.Call (.Name "len" p) (e::es) [] pos) (wB oP t):=
 K5 (qr.or Y3) SK hg hm PySem.boot_len ha (by decide) (by decide) he hpl
def rF:WF:=λws S Q=>match ws with
 | [.bW us]=>Q (.bW us) S
 | [.ref a]=>n9 S a λus=>Q (.bW us) S
 |_=>False
def Xx{K:ao}:vQ K (λxs H Q=>∃p ys,xs=[.ref p]∧((oF K H p ys∧ ∀l,H l=none→Q (.ref l) (nG H l (.bW ys)))∨(oY K H p ys∧Q (.ref p) H))) rF:=λH vs ws S Q QW r hS h hQ=>by
 cases r with
 |nil=>exact h.elim
 |cons r1 r2=>
  cases r2 with
  |cons _ _=>cases r1<;>exact h.elim
  |nil=>
   cases r1 with
   |bW f hs=>exact⟨_,_,rfl, .inr ⟨.of f,hQ _ S _ H .refl (.bW f hs) hS h⟩⟩
   |ref a=>
    obtain⟨us,e,h⟩:=ql h;obtain⟨vs,f,hs⟩:=hS a _ e;exact⟨_,_,rfl, .inl ⟨.of f,λl hl=>hQ _ S _ _ (.new hl) (.bW pD (hs.ext (.new (S:=S) hl))) (hS.new hl) h⟩⟩
   |_=>exact h.elim
def vT (ws:List W) (S:lr) (Q:WK):Prop:=Q (.bW ws) S
def Vv{K:ao}:w9 K (λxs H Q=>∃p ys,xs=[.ref p]∧((oF K H p ys∧ ∀l,H l=none→Q (.ref l) (nG H l (.bW ys)))∨(oY K H p ys∧Q (.ref p) H))) vT:=λH a vs ws S Q QW ea na r hS h hQ=>
 ⟨a,vs,rfl, .inl ⟨.of ea,λl hl=>hQ _ S _ _ (.new hl) (.bW pD (r.ext (.new (S:=S) hl))) (hS.new hl) h⟩⟩
def zx (t:WE) (E:WX) (σ:mU) (S:lr) (Q:List W→lr→Prop):Prop:=t E σ S λw S1=>match w with
 | .bW ws=>Q ws S1
 | .ref a=>n9 S1 a λws=>Q ws S1
 | .c7 ns=>Q (ns.map W.int) S1
 |_=>False
def Zq{te:WE}(hg:Gl X "list") (hm:X.mg "list" =none) (ha:JE X e te)
  (he:ax [e] X.env=(false,aH e X.env)::ax [] X.env:=by rfl) (hpl:(aZ pos (ax [] X.env)).any (·.1)=false:=by rfl):JL X (.Call (.Name "list" p) [e] [] pos) (zx te):=λE hE=>
 (Eb XZ hg hm PyProof.Rows.boot_list (tR (ha E hE) oQ he) (by decide) (by decide) he hpl).mono λσ H Q ⟨σW,S,QW,hσ,hS,ht,hQ⟩=>⟨σW,S,_,hσ,hS,ht,λw S1 v H1 e1 r1 iU h1=>by
  cases r1 with
  |bW f hs=>exact⟨_,_,rfl, .inr (.of f),λl hl=>hQ _ S1 _ l _ (e1.trans (.new hl)) (e1.free hl) pD (iU.free hl) (hs.ext (.new (S:=S1) hl)) (iU.new hl) h1⟩
  |ref a=>
   obtain⟨ws,ea,h⟩:=ql h1;obtain⟨vs,f,hs⟩:=iU a _ ea;exact⟨_,_,rfl, .inl (.of f),λl hl=>hQ _ S1 _ l _ (e1.trans (.new hl)) (e1.free hl) pD (iU.free hl) (hs.ext (.new (S:=S1) hl)) (iU.new hl) h⟩
  |c7 f=>exact⟨_,_,rfl, .inl f.sq,λl hl=>hQ _ S1 _ l _ (e1.trans (.new hl)) (e1.free hl) pD (iU.free hl) (mC.ofInts _) (iU.new hl) h1⟩
  |_=>exact h1.elim⟩
def sH:List W→Option (List Bool)
 | []=>aa []
 | .bl b::ws=>(sH ws).map (b:: ·)
 |_=>none
theorem ID{K:ao}{H:Hp}:∀{ws:List W}{vs:List V}{bs:List Bool},mC K H ws vs→sH ws=aa bs→vs=bs.map V.bl
 | [],_,_, .nil,e=>by have:=aL e;subst this;rfl
 |w::ws,_,_, .cons r rs,e=>by
  cases r with
  |bl b=>
   have e':(sH ws).map (b:: ·)=aa _:=e;cases q:sH ws with
   |none=>rw[q]at e';cases e'
   |some cs=>
    rw[q]at e';have:=aL e';subst this;rw[aC,ID rs q]
  |_=>cases e
def tG (ws:List W) (S:lr) (Q:WK):Prop:=match sH ws with
 |some bs=>Q (.bl (bs.all _root_.id)) S
 |none=>False
def VN{K:ao}:w9 K (λxs H Q=>∃(p:ai) (bs:List Bool),xs=[.ref p]∧oF K H p (bs.map V.bl)∧Q (.bl (bs.all _root_.id)) H) tG:=λH a vs ws S Q QW ea na r hS h hQ=>by
 unfold tG at h;split at h
 ·rename_i bs e;have:=ID r e;subst this;exact⟨a,bs,rfl, .of ea,hQ _ S _ H .refl (.bl _) hS h⟩
 ·exact h.elim
def vK:W→lr→(String→Prop)→Prop
 | .ca,_,Q=>Q "NoneType"
 | .bl _,_,Q=>Q "bool"
 | .int _,_,Q=>Q "int"
 | .str _,_,Q=>Q "str"
 | .bW _,_,Q=>Q "tuple"
 | .ref a,S,Q=>n9 S a λ_=>Q "list"
 | .c7 _,_,_=>False
def pf (A B:String):Bool:=A == B || (A == "bool" &&B == "int")
def rM (T:String) (t:WE) (E:WX) (σ:mU) (S:lr) (Q:WK):Prop:=t E σ S λw S1=>vK w S1 λA=>Q (.bl (pf A T)) S1
def Qq{a:Expr}{ta:WE}{p2:bw}{T:ah}{T':String}(hg:Gl X "isinstance") (hm:X.mg "isinstance" =none) (hgT:Gl X T) (hmT:X.mg T=none) (hv:cD T=aa (.type T')) (ha:JE X a ta) (hn:T≠ "__name__") (hd:(T == ("__debug__" :ah))=false)
  (hk:∀A∈ ["NoneType", "bool", "int", "str", "tuple", "list"],ge X.K (.type A) (.type T')=aa (pf A T'))
  (he:ax [a, .Name T p2] X.env=(false,aH a X.env)::ax [.Name T p2] X.env:=by rfl) (he2:ax [.Name T p2] X.env=(false,aH (.Name T p2) X.env)::ax [] X.env:=by rfl) (hpl:(aZ pos (ax [.Name T p2] X.env)).any (·.1)=false:=by rfl) :
  JE X (.Call (.Name "isinstance" p) [a, .Name T p2] [] pos) (rM T' ta):=λE hE=>
 (EN Xw hg hm PyProof.Rows.boot_isinstance (tR (ha E hE) (tR (U0 (v:= .ty T') hgT hmT hv rfl hn hd) oQ he2) he) (by decide) (by decide) he hpl).mono λσ H Q ⟨σW,S,QW,hσ,hS,ht,hQ⟩=>⟨σW,S,_,hσ,hS,ht,λw S1 v H1 e1 r1 iU h1=>by
  have fin:∀{t:aj}(A:String),t= .type A→A∈ ["NoneType", "bool", "int", "str", "tuple", "list"]→o8 X.K H1 v t→QW (.bl (pf A T')) S1→ ∃x t c b,[v,V.ty T']=[x, .ty c]∧o8 X.K H1 x t∧ge X.K t (.type c)=aa b∧Q (.bl b) H1:=λA e hA ty q=>by
   subst e;exact⟨v,_,T',_,rfl,ty,hk A hA,hQ _ S1 _ H1 e1 (.bl _) iU q⟩
  cases r1 with
  |ca=>exact fin _ rfl (by simp) .ca h1
  |bl b=>exact fin _ rfl (by simp) (.bl b) h1
  |int i=>exact fin _ rfl (by simp) (.int i) h1
  |str z=>exact fin _ rfl (by simp) (.str z) h1
  |bW f hs=>exact fin _ rfl (by simp) (.bW f) h1
  |ref a=>
   obtain⟨ws,ea,h⟩:=ql h1;obtain⟨vs,f,hs⟩:=iU a _ ea;exact fin _ rfl (by simp) (.bP f) h
  |c7 f=>exact h1.elim⟩
end
abbrev rB:=W→List W→lr→WK→Prop
def pM:W→lr→Prop
 | .ref a,S=>n9 S a λ_=>True
 |_,_=>False
def uR:W→lr→Prop
 | .str _,_=>True
 |_,_=>False
def wM (rv:W→lr→Prop) (f:rB) (to:WE) (t:WA) (E:WX) (σ:mU) (S:lr) (Q:WK):Prop:=to E σ S λw S1=>rv w S1∧t E σ S1 λws S2=>f w ws S2 Q
def vm (rv:W→lr→Prop) (f:rB) (to:WE) (t:WL) (E:WX) (σ:mU) (S:lr) (Q:WK):Prop:=to E σ S λw S1=>rv w S1∧t E σ S1 λws S2=>f w ws S2 Q
def yR (K:ao) (r:V→List V→Hp→VK→Prop) (f:rB):Prop:=∀H x w vs ws S (Q:VK) (QW:WK),nK K H w x→mC K H ws vs→mD K H S→f w ws S QW→oJ K H S QW Q→r x vs H Q
def E2 (K:ao) (r:V→List V→Hp→VK→Prop) (f:rB):Prop:=∀H x w a vs ws S (Q:VK) (QW:WK),nK K H w x→H a=aa (.bP vs)→S a=none→mC K H ws vs→mD K H S→f w ws S QW→oJ K H S QW Q→r x [.ref a] H Q
def zp (K:ao) (T:String) (rv:W→lr→Prop):Prop:=∀H w v S,nK K H w v→mD K H S→rv w S→A6 K T v H
def EZ{K:ao}:zp K "list" pM:=λH w v S r hS h=>by
 cases r with
 |ref a=>
  obtain⟨ws,e,_⟩:=ql h;obtain⟨vs,f,_⟩:=hS a _ e;exact .inl ⟨rfl,vs, .of f⟩
 |_=>exact h.elim
def GV{K:ao}:zp K "str" uR:=λH w v S r hS h=>by
 cases r with
 |str x=>exact rfl
 |_=>exact h.elim
section
variable {X:Cx}{o e:Expr}{es:List Expr}{to:WE}{t:WA}{tl:WL}{name:ah}{apos cpos:bw}{id T:String}{r:V→List V→Hp→VK→Prop}{f:rB}{rv:W→lr→Prop}
def Jo (pa:fI T) (slot:Slot T name id) (hty:fA (.builtin id)=pure (.type "method_descriptor")) (hrv:zp X.K T rv) (hm:sO X id r) (hw:yR X.K r f) (ho:JE X o to) (ha:JA X (e::es) t)
  (hbase:cJ o name X.env (aH o X.env)=aH o X.env:=by rfl)
  (hfew:((aZ cpos (ax (e::es) X.env)).all (λx=> !x.1)&&(dv cpos (dw [] X.env)).all (λx=>x.1.isSome)
   &&decide ((e::es).length+([]:List bZ).length+(if([]:List bZ).isEmpty then 0 else 1)<30))=true:=by rfl)
  (hline:(apos.endLine == cpos.line)=true:=by rfl) (hs:ax (e::es) X.env=(false,aH e X.env)::ax es X.env:=by rfl) (hplain:(aZ cpos (ax es X.env)).any (·.1)=false:=by rfl) :
  JE X (.Call (.Attribute o name apos) (e::es) [] cpos) (wM rv f to t):=λE hE=>
 (K0 pa slot hty hm (ho E hE) (ha E hE) hbase hfew hline hs hplain).mono λσ H Q ⟨σW,S,QW,hσ,hS,ht,hQ⟩=>⟨σW,S,_,hσ,hS,ht,λw S1 v H1 e1 r1 iU h1=>
  ⟨hrv H1 w v S1 r1 iU h1.1,σW,S1,_,hσ.ext e1,iU,h1.2,λws S2 vs H2 e2 r2 hS2 h2=>hw H2 v w vs ws S2 Q QW (r1.ext e2) r2 hS2 h2 (hQ.from (e1.trans e2))⟩⟩
def K8 (pa:fI T) (slot:Slot T name id) (hty:fA (.builtin id)=pure (.type "method_descriptor")) (hrv:zp X.K T rv) (hm:sO X id r) (hw:E2 X.K r f) (ho:JE X o to) (ha:JL X e tl)
  (hbase:cJ o name X.env (aH o X.env)=aH o X.env:=by rfl)
  (hfew:((aZ cpos (ax [e] X.env)).all (λx=> !x.1)&&(dv cpos (dw [] X.env)).all (λx=>x.1.isSome)
   &&decide ([e].length+([]:List bZ).length+(if([]:List bZ).isEmpty then 0 else 1)<30))=true:=by rfl)
  (hline:(apos.endLine == cpos.line)=true:=by rfl) (hs:ax [e] X.env=(false,aH e X.env)::ax [] X.env:=by rfl) (hplain:(aZ cpos (ax [] X.env)).any (·.1)=false:=by rfl) :
  JE X (.Call (.Attribute o name apos) [e] [] cpos) (vm rv f to tl):=λE hE=>
 (K0 pa slot hty hm (ho E hE) (tR (ha E hE) oQ hs) hbase hfew hline hs hplain).mono λσ H Q ⟨σW,S,QW,hσ,hS,ht,hQ⟩=>⟨σW,S,_,hσ,hS,ht,λw S1 v H1 e1 r1 iU h1=>
  ⟨hrv H1 w v S1 r1 iU h1.1,σW,S1,_,hσ.ext e1,iU,h1.2,λws S2 vs a H2 e2 fa ea na r2 hS2 h2=>hw H2 v w a vs ws S2 Q QW (r1.ext e2) ea na r2 hS2 h2 (hQ.from (e1.trans e2))⟩⟩
def Pf (pa:fI T) (slot:Slot T name id) (hty:fA (.builtin id)=pure (.type "method_descriptor")) (hrv:zp X.K T rv) (hm:sO X id r) (hw:yR X.K r f) (ho:JE X o to)
  (hbase:cJ o name X.env (aH o X.env)=aH o X.env:=by rfl) (hline:(apos.endLine == cpos.line)=true:=by rfl):JE X (.Call (.Attribute o name apos) [] [] cpos) (wM rv f to ae):=λE hE=>
 (TU pa slot hty hm (ho E hE) hbase hline).mono λσ H Q ⟨σW,S,QW,hσ,hS,ht,hQ⟩=>⟨σW,S,_,hσ,hS,ht,λw S1 v H1 e1 r1 iU h1=>
  ⟨hrv H1 w v S1 r1 iU h1.1,hw H1 v w [] [] S1 Q QW r1 .nil iU h1.2 (hQ.from e1)⟩⟩
def qu:rB:=λw ws S Q=>match w with
 | .ref a=>n9 S a λxs=>match ws with
  | [y]=>xs.length<sizeLine∧Q .ca (bR S a (.bP (xs++[y])))
  |_=>False
 |_=>False
def Yy{K:ao}:yR K Oo qu:=λH x w vs ws S Q QW r rs hS h hQ=>by
 cases r with
 |ref a=>
  obtain⟨xs,ea,h⟩:=ql h;obtain⟨us,f,hs⟩:=hS a _ ea;cases rs with
  |nil=>exact h.elim
  |cons r1 r2=>
   cases r2 with
   |cons _ _=>exact h.elim
   |nil=>
    obtain⟨e,hS'⟩:=hS.set_lst ea (hs.append (.one r1));exact⟨a,us,_,rfl,rfl,f,by rw[←hs.length];exact h.1,hQ _ _ _ _ e .ca hS' h.2⟩
 |_=>exact h.elim
def Uo (ho:JE X o to) (ha:JA X (e::es) t)
  (hbase:cJ o "append" X.env (aH o X.env)=aH o X.env:=by rfl)
  (hfew:((aZ cpos (ax (e::es) X.env)).all (λx=> !x.1)&&(dv cpos (dw [] X.env)).all (λx=>x.1.isSome)
   &&decide ((e::es).length+([]:List bZ).length+(if([]:List bZ).isEmpty then 0 else 1)<30))=true:=by rfl)
  (hline:(apos.endLine == cpos.line)=true:=by rfl) (hs:ax (e::es) X.env=(false,aH e X.env)::ax es X.env:=by rfl) (hplain:(aZ cpos (ax es X.env)).any (·.1)=false:=by rfl) :
  JE X (.Call (.Attribute o "append" apos) (e::es) [] cpos) (wM pM qu to t):=Jo iS PySem.F.slot_list_append PySem.F.type_list_append EZ Hk Yy ho ha hbase hfew hline hs hplain
def Pa:rB:=λw ws S Q=>match w with
 | .ref a=>n9 S a λxs=>match ws with
  | []=>match xs[xs.length - 1]? with
   |some y=>Q y (bR S a (.bP xs.dropLast))
   |none=>False
  |_=>False
 |_=>False
def vL:rB:=λw ws S Q=>match w with
 | .ref a=>n9 S a λxs=>match ws with
  | [.bW ys]=>xs.length+ys.length≤sizeLine∧Q .ca (bR S a (.bP (xs++ys)))
  | [.ref b]=>n9 S b λys=>xs.length+ys.length≤sizeLine∧Q .ca (bR S a (.bP (xs++ys)))
  |_=>False
 |_=>False
def WV{K:ao}:yR K (λx vs H Q=>Fn x vs H Q∨Gz K x vs H Q) vL:=λH x w vs ws S Q QW r rs hS h hQ=>by
 cases r with
 |ref a=>
  obtain⟨xs,ea,h⟩:=ql h;obtain⟨us,f,hs⟩:=hS a _ ea;cases rs with
  |nil=>exact h.elim
  |cons r1 r2=>
   cases r2 with
   |cons _ _=>cases r1<;>exact h.elim
   |nil=>
    cases r1 with
    |bW g ks=>
     obtain⟨e,hS'⟩:=hS.set_lst ea (hs.append ks);exact .inr ⟨a,_,us,_,rfl,rfl,f, .of g,by rw[←hs.length,←ks.length];exact h.1,hQ _ _ _ _ e .ca hS' h.2⟩
    |ref b=>
     obtain⟨ys,eb,h⟩:=ql h;obtain⟨zs,g,ks⟩:=hS b _ eb;obtain⟨e,hS'⟩:=hS.set_lst ea (hs.append ks);exact .inl ⟨a,b,us,zs,rfl,rfl,f,g,by rw[←hs.length,←ks.length];exact h.1,hQ _ _ _ _ e .ca hS' h.2⟩
    |_=>exact h.elim
 |_=>exact h.elim
def OV (ho:JE X o to) (ha:JA X (e::es) t)
  (hbase:cJ o "extend" X.env (aH o X.env)=aH o X.env:=by rfl)
  (hfew:((aZ cpos (ax (e::es) X.env)).all (λx=> !x.1)&&(dv cpos (dw [] X.env)).all (λx=>x.1.isSome)
   &&decide ((e::es).length+([]:List bZ).length+(if([]:List bZ).isEmpty then 0 else 1)<30))=true:=by rfl)
  (hline:(apos.endLine == cpos.line)=true:=by rfl) (hs:ax (e::es) X.env=(false,aH e X.env)::ax es X.env:=by rfl) (hplain:(aZ cpos (ax es X.env)).any (·.1)=false:=by rfl) :
  JE X (.Call (.Attribute o "extend" apos) (e::es) [] cpos) (wM pM vL to t):=Jo iS lG mn EZ (sO.or Lr Wc) WV ho ha hbase hfew hline hs hplain
def zD:rB:=λw ws S Q=>match w with
 | .ref a=>n9 S a λxs=>xs.length+ws.length≤sizeLine∧Q .ca (bR S a (.bP (xs++ws)))
 |_=>False
def Xc{K:ao}:E2 K Fn zD:=λH x w a vs ws S Q QW r ea na rs hS h hQ=>by
 cases r with
 |ref b=>
  obtain⟨xs,eb,h⟩:=ql h;obtain⟨us,f,hs⟩:=hS b _ eb;obtain⟨e,hS'⟩:=hS.set_lst eb (hs.append rs);exact⟨b,a,us,vs,rfl,rfl,f,ea,by rw[←hs.length,←rs.length];exact h.1,hQ _ _ _ _ e .ca hS' h.2⟩
 |_=>exact h.elim
def P7 (ho:JE X o to) (ha:JL X e tl)
  (hbase:cJ o "extend" X.env (aH o X.env)=aH o X.env:=by rfl)
  (hfew:((aZ cpos (ax [e] X.env)).all (λx=> !x.1)&&(dv cpos (dw [] X.env)).all (λx=>x.1.isSome)
   &&decide ([e].length+([]:List bZ).length+(if([]:List bZ).isEmpty then 0 else 1)<30))=true:=by rfl)
  (hline:(apos.endLine == cpos.line)=true:=by rfl) (hs:ax [e] X.env=(false,aH e X.env)::ax [] X.env:=by rfl) (hplain:(aZ cpos (ax [] X.env)).any (·.1)=false:=by rfl) :
  JE X (.Call (.Attribute o "extend" apos) [e] [] cpos) (vm pM zD to tl):=K8 iS lG mn EZ Lr Xc ho ha hbase hfew hline hs hplain
def uP:List W→Option (List ah)
 | []=>aa []
 | .str b::ws=>(uP ws).map (b:: ·)
 |_=>none
theorem Ij{K:ao}{H:Hp}:∀{ws:List W}{vs:List V}{bs:List ah},mC K H ws vs→uP ws=aa bs→vs=bs.map V.str
 | [],_,_, .nil,e=>by have:=aL e;subst this;rfl
 |w::ws,_,_, .cons r rs,e=>by
  cases r with
  |str b=>
   have e':(uP ws).map (b:: ·)=aa _:=e;cases q:uP ws with
   |none=>rw[q]at e';cases e'
   |some cs=>
    rw[q]at e';have:=aL e';subst this;rw[aC,Ij rs q]
  |_=>cases e
def xh:rB:=λw ws S Q=>match w with
 | .str z=>match uP ws with
  |some ys=>(ys.map (·.length)).sum+ys.length*z.length≤16777216∧Q (.str (du z ys)) S
  |none=>False
 |_=>False
def Va{K:ao}:E2 K (NO K) xh:=λH x w a vs ws S Q QW r ea na rs hS h hQ=>by
 cases r with
 |str z=>
  unfold xh at h;dsimp only at h;split at h
  ·rename_i ys e;have:=Ij rs e;subst this;exact⟨z,a,ys,rfl,rfl, .of ea,h.1,hQ _ S _ H .refl (.str _) hS h.2⟩
  ·exact h.elim
 |_=>exact h.elim
def RM (ho:JE X o to) (ha:JL X e tl)
  (hbase:cJ o "join" X.env (aH o X.env)=aH o X.env:=by rfl)
  (hfew:((aZ cpos (ax [e] X.env)).all (λx=> !x.1)&&(dv cpos (dw [] X.env)).all (λx=>x.1.isSome)
   &&decide ([e].length+([]:List bZ).length+(if([]:List bZ).isEmpty then 0 else 1)<30))=true:=by rfl)
  (hline:(apos.endLine == cpos.line)=true:=by rfl) (hs:ax [e] X.env=(false,aH e X.env)::ax [] X.env:=by rfl) (hplain:(aZ cpos (ax [] X.env)).any (·.1)=false:=by rfl) :
  JE X (.Call (.Attribute o "join" apos) [e] [] cpos) (vm uR xh to tl):=K8 lC PySem.F.slot_str_join PySem.F.type_str_join GV T9 Va ho ha hbase hfew hline hs hplain
def Xm:rB:=λw ws S Q=>match w with
 | .str z=>match ws with
  | [.str y]=>match c6 z y 0 z.length 1 with
   |i::_=>Q (.int i) S
   | []=>False
  |_=>False
 |_=>False
end
def vV (i:Nat) (g:Int→Int→Int) (e:WE) (E:WX) (D:mY) (σ:mU) (S:lr):Prop:=match σ[i]? with
 |some (aa (.int a))=>e E σ S λw S1=>match w with
  | .int b=>D.nx (σ.set i (aa (.int (g a b)))) S1
  |_=>False
 |_=>False
def Re (hN:X.N.Nodup) (hi:X.N[i]? =aa x) (hx:sZ X.env.scope x) (he:JE X e te) (hf:X.fn x=true∨X.env.scope.names.lookup x=aa .local:=by first |exact .inl rfl |exact .inr rfl |assumption) :
  JS X (.AugAssign (.Name x pos') .Add e pos) (vV i (λa b=>a+b) te):=λE hE=>
 (RA hN hi hx (he E hE) Tk hf).mono λD σ H ⟨σW,S,DW,hσ,hS,ht,hD⟩=>by
  unfold vV at ht;split at ht
  ·rename_i a ea;obtain⟨v,ev,rv⟩:=hσ.get ea;cases rv;refine⟨_,ev,σW,S,_,hσ,hS,ht,λw S1 v H1 e1 r1 iU h1=>?_⟩;cases r1 with
   |int b=>exact⟨a,b,rfl,rfl,hD.nx _ S1 _ H1 e1 ((hσ.ext e1).set (.int _) i) iU h1⟩
   |_=>exact h1.elim
  ·exact ht.elim
def wF (c:WT) (b:WS):WS:=λE D σ S=>∃I:Nat→mU→lr→Prop,(∃m,I m σ S)∧ ∀m σ S,I m σ S→c E σ S λk S1=>if k=true then
 b E { D with nx:=λσ' S'=>∃m' S'',m'<m∧Sub S'' S'∧I m' σ' S'',ct:=λσ' S'=>∃m' S'',m'<m∧Sub S'' S'∧I m' σ' S'',bk:=D.nx } σ S1 else D.nx σ S1
def V5 (hc:JT X c tc) (hb:sI X body tb):JS X (.While c body [] pos) (wF tc tb):=λE hE=>
 (Ws hE.own (hc E hE) (hb E hE)).mono λD σ H ⟨σW,S,DW,hσ,hS,⟨J,⟨n,ht⟩,step⟩,hD⟩=>by
  refine⟨λm σ1 H1=>∃σW1 S1,nH H S H1 S1∧nj X.K H1 σW1 σ1∧mD X.K H1 S1∧J m σW1 S1,⟨n,σW,S, .refl,hσ,hS,ht⟩,?_⟩;rintro m σ1 H1 ⟨σW1,S1,e1,hσ1,iU,h1⟩;refine⟨σW1,S1,_,hσ1,iU,step m σW1 S1 h1,λk S2 H2 e2 hS2 h2=>?_⟩;cases k with
  |false=>exact hD.nx σW1 S2 σ1 H2 (e1.trans e2) (hσ1.ext e2) hS2 h2
  |true=>
   rw[if_pos rfl]at h2⊢;refine⟨λσ' H'=>∃m',m'<m∧ ∃σW1 S1,nH H S H' S1∧nj X.K H' σW1 σ'∧mD X.K H' S1∧J m' σW1 S1,λσ' H' n'=>n',σW1,S2,_,hσ1.ext e2,hS2,h2,?_⟩;have e12:=e1.trans e2;have go:qk X.K H2 S2 (λσ' S'=>∃m' S'',m'<m∧Sub S'' S'∧J m' σ' S'') (λσ' H'=>∃m',m'<m∧ ∃σW1 S1,nH H S H' S1∧nj X.K H' σW1 σ'∧mD X.K H' S1∧J m' σW1 S1):=λσW3 S3 σ3 H3 e3 hσ3 hS3 ⟨m',S4,hm,sb,q⟩=>
    ⟨m',hm,σW3,S4,(e12.trans e3).trans (.drop sb),hσ3,hS3.sub sb,q⟩
   exact⟨go,hD.rt.from e12,hD.nx.from e12,go⟩
def mO (g:WG) (b:WS) (E:WX) (D:mY) (G:lr→Prop):List W→mU→lr→Prop
 | [],σ,S=>D.nx σ S
 |w::ws,σ,S=>g w σ S λσ1 S1=>b E { D with nx:=λσ' S'=>∃S'',Sub S'' S'∧G S''∧mO g b E D G ws σ' S'',ct:=λσ' S'=>∃S'',Sub S'' S'∧G S''∧mO g b E D G ws σ' S'',bk:=D.nx } σ1 S1
def oB (q:WI) (g:WG) (b:WS) (E:WX) (D:mY) (σ:mU) (S:lr):Prop:=q E σ S λws G S1=>mO g b E D G ws σ S1
def Sa (hi:JI X tg iter q) (hg:JG X tg g) (hb:sI X body tb) (hcl:X.calm=true:=by rfl)
  (hs:∀x,dF iter X.env x=pure x:=by intro _;rfl):JS X (.For tg iter body [] pos) (oB q g tb):=λE hE=>
 (Ry hE.own hcl (hi E hE) (hg E hE) (hb E hE) hs).mono λD σ H ⟨σW,S,DW,hσ,hS,ht,hD⟩=>by
  refine⟨σW,S,_,hσ,hS,ht,λws G S1 J H1 e1 iU hG1 hJ h1=>?_⟩;refine⟨λi m σ2 H2=>∃σW2 S2,nH H1 S1 H2 S2∧nj X.K H2 σW2 σ2∧mD X.K H2 S2∧G S2∧m=ws.length - i∧i≤ws.length∧mO g tb E DW G (ws.drop i) σW2 S2,
   ⟨ws.length,σW,S1, .refl,hσ.ext e1,iU,hG1,rfl,aP _,h1⟩,?_⟩
  rintro i m σ2 H2 ⟨σW2,S2,e2,hσ2,hS2,hG2,rfl,hi2,h2⟩;obtain⟨ji,js⟩:=hJ i S2 H2 e2 hS2 hG2;by_cases hlt:i<ws.length
  ·obtain⟨jgo,jy⟩:=ji ws[i] (aS hlt);refine .inr ⟨jgo,λσ' H'=>∃σW2 S2,nH H1 S1 H' S2∧nj X.K H' σW2 σ'∧mD X.K H' S2∧G S2∧ws.length - (i+1)=ws.length - (i+1)∧i+1≤ws.length∧mO g tb E DW G (ws.drop (i+1)) σW2 S2,λσ' H' z=>⟨_,by lia,z⟩,λx H3 y3=>?_⟩
   obtain⟨e3,hS3,r3⟩:=jy x H3 y3;rw[gf hlt]at h2;refine⟨_,σW2,S2,_,r3,hσ2.ext e3,hS3,h2,λσW4 S4 σ4 H4 e4 hσ4 hS4 h4=>?_⟩;have e14:nH H1 S1 H4 S4:=(e2.trans e3).trans e4;refine⟨σW4,S4,_,hσ4,hS4,h4,?_⟩;have go:qk X.K H4 S4 (λσ' S'=>∃S'',Sub S'' S'∧G S''∧mO g tb E DW G (ws.drop (i+1)) σ' S'') (λσ' H'=>∃σW2 S2,nH H1 S1 H' S2∧nj X.K H' σW2 σ'∧mD X.K H' S2∧G S2∧ws.length - (i+1)=ws.length - (i+1)∧i+1≤ws.length∧mO g tb E DW G (ws.drop (i+1)) σW2 S2):=
    λσW5 S5 σ5 H5 e5 hσ5 hS5 ⟨S6,sb,hG6,q⟩=>⟨σW5,S6,(e14.trans e5).trans (.drop sb),hσ5,hS5.sub sb,hG6,rfl,hlt,q⟩
   exact⟨go,hD.rt.from (e1.trans e14),hD.nx.from (e1.trans e14),go⟩
  ·have hl:i=ws.length:=by lia
   rw[gb (gi hl.symm)]at h2;exact .inl ⟨js hl,hD.nx σW2 S2 σ2 H2 (e1.trans e2) hσ2 hS2 h2⟩
def OS (K:ao) (tl:TE):TI:=λσ H R=>tl σ H λx H1=>(∃a,x= .ref a∧(∃xs,oF K H1 a xs)∧R (Bc K a) H1)∨(∃a,x= .ref a∧(∃xs,oY K H1 a xs)∧R (Fm K a) H1)∨ ∃z,x= .str z∧R (F2 z) H1
def Wb (hl:PE X l tl):PI X tg l (OS X.K tl):=by
 intro ag s σ H R I h;refine nE (hl ag s σ H _ I h) λv s1 ⟨x,H1,I1,r1,q1⟩=>?_;have fp:∀b∈ [s1.heap.objs.size],qA X ag H1 b:=λb hb=>by
  have e:b=s1.heap.objs.size:=by simpa using hb
  subst e;exact I1.fpOk (aA _) (I1.cG.fresh (aA _))
 obtain ⟨a,e,⟨xs,hq⟩,q⟩ |⟨a,e,⟨xs,hq⟩,q⟩ |⟨z,e,q⟩:=q1
 ·subst e;cases r1;obtain⟨eH,rv,p,hz⟩:=I1.list hq;refine eV p.isList ?_;exact⟨s1.heap.objs.size,[s1.heap.objs.size],_,_,H1,rfl,I1.kept (t':=s1.toks) λb o e=>aO _ e,Iw a _,⟨_,bI _ rfl,rfl,rfl⟩,fp,q⟩
 ·subst e;cases r1;obtain⟨eH,rv,p,hz⟩:=I1.tuple hq;refine k_ (show s1.heap.IsTuple a eH.toArray from p) ?_;exact⟨s1.heap.objs.size,[s1.heap.objs.size],_,_,H1,rfl,I1.kept (t':=s1.toks) λb o e=>aO _ e,UZ a _,⟨_,bI _ rfl,rfl,rfl⟩,fp,q⟩
 ·subst e;obtain⟨t,rfl⟩:=r1;cases ha:z.cps.all (· <128)
  ·refine wpAny_pyIter_wide ha ?_;exact⟨s1.heap.objs.size,[s1.heap.objs.size],_,_,H1,rfl,I1.kept (t':=s1.toks) λb o e=>aO _ e,
    Kl _ z t "str_iterator" (by decide) (λA' hA=>Walks.strWide hA _ z t) (λ_ _ _ _ _ st h=>wpAny_pyIter_striter_wide st h),⟨_,bI _ rfl,rfl,rfl⟩,fp,q⟩
  ·refine wpAny_pyIter_ascii ha ?_;exact⟨s1.heap.objs.size,[s1.heap.objs.size],_,_,H1,rfl,I1.kept (t':=s1.toks) λb o e=>aO _ e,
    Kl _ z t "str_ascii_iterator" (by decide) (λA' hA=>Walks.strAscii hA _ z t) (λ_ _ _ _ _ st h=>wpAny_pyIter_striter_ascii st h),⟨_,bI _ rfl,rfl,rfl⟩,fp,q⟩
def BT (z:ah):List W:=z.cps.toList.map λc=> .str ⟨#[c]⟩
def oq (t:WE) (E:WX) (σ:mU) (S:lr) (Q:List W→(lr→Prop)→lr→Prop):Prop:=t E σ S λw S1=>match w with
 | .bW ws=>Q ws (λ_=>True) S1
 | .ref a=>n9 S1 a λws=>Q ws (λS'=>S' a=aa (.bP ws)) S1
 | .c7 ns=>Q (ns.map W.int) (λ_=>True) S1
 | .str z=>Q (BT z) (λ_=>True) S1
 |_=>False
def EB{K:ao}{a:ai}{ws:List W}{G:lr→Prop}{H0:Hp}{S0:lr}(h:∀S H,nH H0 S0 H S→mD K H S→G S→ ∃vs,oF K H a vs∧mC K H ws vs):vN K (Bc K a) ws G H0 S0:=λi S H e hS hG=>by
 obtain⟨vs,hq,r⟩:=h S H e hS hG;refine⟨λw ew=>?_,λhl=>⟨vs,hq,by rw[←r.length,hl];exact aA _⟩⟩
 obtain⟨v,ev,rv⟩:=r.get ew;refine⟨⟨vs,v,hq,ev⟩,λx H' ⟨e1,e2⟩=>?_⟩;subst e1;have e3:=e2 vs hq;rw[ev]at e3;cases e3;exact⟨.refl,hS,rv⟩
def Su{K:ao}{a:ai}{ws:List W}{vs:List V}{H0:Hp}{S0:lr}(f:H0 a=aa (.bW vs)) (r:mC K H0 ws vs):vN K (Fm K a) ws (λ_=>True) H0 S0:=λi S H e hS hG=>by
 have f':=e.bW _ _ f;have r':=r.ext e;refine⟨λw ew=>?_,λhl=>⟨vs, .of f',by rw[←r'.length,hl];exact aA _⟩⟩
 obtain⟨v,ev,rv⟩:=r'.get ew;refine⟨⟨vs,v, .of f',ev⟩,λx H' ⟨e1,e2⟩=>?_⟩;subst e1;have e3:=e2 vs (.of f');rw[ev]at e3;cases e3;exact⟨.refl,hS,rv⟩
def RO{K:ao}{z:ah}{H0:Hp}{S0:lr}:vN K (F2 z) (BT z) (λ_=>True) H0 S0:=λi S H e hS hG=>by
 unfold BT;refine⟨λw ew=>?_,λhl=>?_⟩
 ·rw[aV]at ew;cases ec:z.cps.toList[i]? with
  |none=>rw[ec]at ew;cases ew
  |some c=>
   rw[ec]at ew;have ew':=aL ew;subst ew';have hi:i<z.cps.size:=by
    have:=(b8.mp ec).1;simpa using this
   refine⟨hi,λx H' ⟨e1,c',e2,e3⟩=>?_⟩;subst e1 e3;have:c'=c:=by
    have q:z.cps.toList[i]? =aa c':=by rw[←e2];simp
    rw[ec]at q;exact(aL q).symm
   subst this;exact⟨.refl,hS, .str _⟩
 ·show i=z.cps.size;simpa using hl
def VZ{l:Expr}{tl:WE}(hl:JE X l tl):JI X tg l (oq tl):=λE hE=>
 (Wb (hl E hE)).mono λσ H R ⟨σW,S,QW,hσ,hS,ht,hR⟩=>⟨σW,S,_,hσ,hS,ht,λw S1 v H1 e1 r1 iU h1=>by
  cases r1 with
  |bW f hs=>exact .inr (.inl ⟨_,rfl,⟨_, .of f⟩,hR _ _ S1 _ H1 e1 iU trivial (Su f hs) h1⟩)
  |ref a=>
   obtain⟨ws,ea,h⟩:=ql h1;obtain⟨vs,f,hs⟩:=iU a _ ea;refine .inl ⟨_,rfl,⟨_, .of f⟩,hR _ _ S1 _ H1 e1 iU ea (EB λS2 H2 e2 hS2 g2=>?_) h⟩;obtain⟨vs2,f2,hs2⟩:=hS2 a _ g2;exact⟨vs2, .of f2,hs2⟩
  |c7 f=>exact .inl ⟨_,rfl,⟨_,f.sq⟩,hR _ _ S1 _ H1 e1 iU trivial (EB λS2 H2 e2 hS2 g2=>⟨_,(e2.fz f).sq,mC.ofInts _⟩) h1⟩
  |str z=>exact .inr (.inr ⟨z,rfl,hR _ _ S1 _ H1 e1 iU trivial RO h1⟩)
  |_=>exact h1.elim⟩
def NS (t:WL):WI:=λE σ S Q=>t E σ S λws S1=>Q ws (λ_=>True) S1
def XO (hl:JL X l tl):JI X tg l (NS tl):=λE hE=>
 (Sk (hl E hE)).mono λσ H R ⟨σW,S,QW,hσ,hS,ht,hR⟩=>⟨σW,S,_,hσ,hS,ht,λws S1 vs a H1 e1 fa ea na r1 iU h1=>
  ⟨a,rfl,⟨vs, .of ea⟩,hR _ _ S1 _ H1 e1 iU trivial (EB λS2 H2 e2 hS2 g2=>⟨vs, .of (e2.fr a _ ea na).1,r1.ext e2⟩) h1⟩⟩
def sJ (lo:Int) (n:Nat):List W:=(bx n).map λ(i:Nat)=> .int (lo+(i:Int))
def WH{K:ao}{lo:Int}{n:Nat}{H0:Hp}{S0:lr}:vN K (B2 lo n) (sJ lo n) (λ_=>True) H0 S0:=λi S H e hS hG=>by
 unfold sJ;refine⟨λw ew=>?_,λhl=>by
  have:i=n:=by simpa using hl
  exact gi this.symm⟩
 rw[aV]at ew;by_cases hi:i<n
 ·rw[fN hi]at ew;have ew':=aL ew;subst ew';refine⟨hi,λx H' ⟨e1,e2⟩=>?_⟩;subst e1 e2;exact⟨.refl,hS, .int _⟩
 ·rw[jd (by simpa using hi)]at ew;cases ew
def uJ (t:WA) (E:WX) (σ:mU) (S:lr) (Q:List W→(lr→Prop)→lr→Prop):Prop:=t E σ S λws S1=>match ws with
 | [.int j]=>(-(2 ^ 62)≤j∧j<2 ^ 62)∧Q (sJ 0 j.toNat) (λ_=>True) S1
 |_=>False
def Sg (hg:Gl X "range") (hm:X.mg "range" =none) (ha:JA X [a] ta) (hs:ax [a] X.env=[(false,aH a X.env)]:=by rfl):JI X tg (.Call (.Name "range" p) [a] [] pos) (uJ ta):=λE hE=>
 (VL hg hm (ha E hE) hs).mono λσ H R ⟨σW,S,QW,hσ,hS,ht,hR⟩=>⟨σW,S,_,hσ,hS,ht,λws S1 vs H1 e1 r1 iU h1=>by
  cases r1 with
  |nil=>exact h1.elim
  |cons r2 r3=>
   cases r3 with
   |cons _ _=>cases r2<;>exact h1.elim
   |nil=>
    cases r2 with
    |int j=>exact⟨j,rfl,h1.1.1,h1.1.2,hR _ _ S1 _ H1 e1 iU trivial WH h1.2⟩
    |_=>exact h1.elim⟩
def px (_:WX) (_:mU) (S:lr) (Q:Bool→lr→Prop):Prop:=Q true S
def uX (X:Cx) (ifs:List Expr) (t:WT):Prop:=∀E,oI X E→BQ X ifs (Ea X.K (t E))
def U6:uX X [] px:=λE hE ag s σ H Q I ⟨σW,S,QW,hσ,hS,ht,hQ⟩=>SF ag s σ H Q I (hQ true S H .refl hS ht)
def SY (h:JT X c t):uX X [c] t:=λE hE=>QZ (h E hE)
def sC (g:WG) (c:WT) (e:WE) (E:WX) (G:lr→Prop) (Q:List W→lr→Prop):List W→List W→mU→lr→Prop
 | [],acc,_,S=>Q acc S
 |w::ws,acc,σ,S=>g w σ S λσ1 S1=>c E σ1 S1 λb S2=>if b=true then e E σ1 S2 λy S3=>acc.length<sizeLine∧ ∃S4,Sub S4 S3∧G S4∧sC g c e E G Q ws (acc++[y]) σ1 S4
   else ∃S4,Sub S4 S2∧G S4∧sC g c e E G Q ws acc σ1 S4
abbrev rS:WX:=λ_ _ _=>False
def Fv (h:X.xe=λ_ _=>False):oI X rS:=⟨by rw[h];exact j9,λ_ _ _ _ _ _ _ _ _ _ _ _ _ _ _ _ _ _ _ _ z=>z.elim,λ_ _ _ _ _ _ _ _ _ _ _ _ _ _ _ _ z=>z.elim⟩
def PS.nox{X:Cx}{st:aW}{t:TS}(h:PS X.nox st t):PS X st t:=λag s σ H D I hw=>
 ci (h ag s σ H D (I.wish _) hw) (λ_ _ q=>q.unwish) λ_ _ z=>cE z
def o9 (k:Nat) (fr:List Nat) (q:WI) (g:WG) (c:WT) (e:WE) (_:WX) (σ:mU) (S:lr) (Q:List W→lr→Prop):Prop:=q rS σ S λws G S1=>sC g c e rS G Q ws [] (bn k none++fr.map λj=>(σ[j]?).join) S1
def XQ{K:ao}{H:Hp}{σW:mU}{σ:St}{k:Nat}{fr:List Nat}(h:nj K H σW σ):nj K H (bn k none++fr.map λj=>(σW[j]?).join) (AB σ k fr):=by
 have one:∀j:Nat,wD K H (σW[j]?).join (σ[j]?).join:=λj=>by
  cases e:σW[j]? with
  |none=>exact trivial
  |some w=>
   cases w with
   |none=>exact trivial
   |some w=>
    obtain⟨v,ev,r⟩:=h.get e;rw[ev];exact r
 have go:∀fr:List Nat,nj K H (fr.map λj=>(σW[j]?).join) (we σ fr):=by
  intro fr
  induction fr with
  |nil=>exact .nil
  |cons j fr ih=>exact .cons (one j) ih
 unfold AB
 induction k with
 |zero=>exact go fr
 |succ k ih=>exact .cons trivial ih
def nH.loose (a:∀b xs,H b=aa (.bW xs)→H' b=aa (.bW xs)) (b:∀c o u,H c=aa (.frz o u)→H' c=aa (.frz o u)) (d:∀b o,H b=aa o→ ∃o',H' b=aa o'):nH H (λ_=>aa (.bP [])) H' (λ_=>aa (.bP [])):=
 ⟨a,b,(λ_ _ _ g=>nomatch g),d⟩
def nH.over (e:nH H S H' S') (h:H l=none):nH H S (nG H' l o) S':=
 ⟨λb xs q=>by rw[og (pO q h)];exact e.bW b xs q,λb ob u q=>by rw[og (pO q h)];exact e.frz b ob u q,λb ob q z=>by rw[og (pO q h)];exact e.fr b ob q z,λb ob q=>by rw[og (pO q h)];exact e.all b ob q⟩
def Mo (hg:∀s₀ H₀ fp pn,JG (pS X scope N s₀ H₀ fp pn) tg g) (hc:∀s₀ H₀ fp pn,uX (pS X scope N s₀ H₀ fp pn) ifs c) (he:∀s₀ H₀ fp pn,JE (pS X scope N s₀ H₀ fp pn) elt e)
  (σ:St) (H:Hp) (Q:VK):Md X.K (o9 k fr q g c e E) σ H Q→Ar X scope N k fr tg ifs elt (N' X.K (q rS)) σ H Q:=λ⟨σW,S0,QW,hσ,hS,ht,hQ⟩=>by
  refine⟨σW,S0,_,hσ,hS,ht,λws G S1 J H1 e1 iU hG1 hJ h1 l hl=>?_⟩;have upl:∀{H':Hp}{vs us:List V}{S':lr},H' l=aa (.bP vs)→S' l=none→mD X.K H' S'→nH H' (λ_=>aa (.bP [])) (nG H' l (.bP us)) (λ_=>aa (.bP []))∧mD X.K (nG H' l (.bP us)) S':=λ{H' vs us S'} f n hS'=>by
   have x:nH H' (λ_=>aa (.bP [])) (nG H' l (.bP us)) (λ_=>aa (.bP [])):= .loose (λb xs q=>by rw[og (AJ q f λz=>nomatch z)];exact q) (λb o u q=>by rw[og (AJ q f λz=>nomatch z)];exact q) λb o q=>by
    by_cases hb:b=l
    ·subst hb;exact⟨_,pD⟩
    ·exact⟨o,by rw[og hb];exact q⟩
   refine⟨x,λa o q=>(hS' a o q).keep x λu z=>?_⟩;have ha:a≠l:=by rintro rfl;rw[n]at q;cases q
   rw[og ha];exact z
  refine⟨λi m σ' H'=>∃σW' S' acc vs,nH H1 S1 H' S'∧H' l=aa (.bP vs)∧S' l=none∧mC X.K H' acc vs∧nj X.K H' σW' σ'∧mD X.K H' S'∧G S'∧m=ws.length - i∧i≤ws.length∧sC g c e rS G QW (ws.drop i) acc σW' S',
   ⟨ws.length,_,S1,[],[], .new hl,pD,iU.free hl, .nil,XQ (hσ.ext (e1.trans (.new (S:=S1) hl))),iU.new hl,hG1,rfl,aP _,h1⟩,?_⟩
  rintro i m σ' H' ⟨σW',S',acc,vs,e2,f2,n2,ra,hσ2,hS2,hG2,rfl,hi2,h2⟩;obtain⟨ji,js⟩:=hJ i S' H' e2 hS2 hG2;by_cases hlt:i<ws.length
  ·obtain⟨jgo,jy⟩:=ji ws[i] (aS hlt);refine .inr ⟨jgo,λσ'' H''=>∃σW' S' acc vs,nH H1 S1 H'' S'∧H'' l=aa (.bP vs)∧S' l=none∧mC X.K H'' acc vs∧nj X.K H'' σW' σ''∧mD X.K H'' S'∧G S'∧ws.length - (i+1)=ws.length - (i+1)∧i+1≤ws.length∧sC g c e rS G QW (ws.drop (i+1)) acc σW' S',
    λσ'' H'' z=>⟨_,by lia,z⟩,λx H3 y3=>?_⟩
   obtain⟨e3,hS3,r3⟩:=jy x H3 y3;rw[gf hlt]at h2;intro s₀ H₀ fp pn;have hk:oI (pS X scope N s₀ H₀ fp pn) rS:=Fv rfl;refine⟨_,_,_,hg s₀ H₀ fp pn rS hk,hc s₀ H₀ fp pn rS hk,he s₀ H₀ fp pn rS hk,?_⟩;refine⟨_,σW',S',_,r3,hσ2.ext e3,hS3,h2,λσW4 S4 σ4 H4 e4 hσ4 hS4 h4=>?_⟩;refine⟨σW4,S4,_,hσ4,hS4,h4,λb S5 H5 e5 hS5 h5=>?_⟩;have e15:nH H' S' H5 S5:=(e3.trans e4).trans e5;have hσ5:=hσ4.ext e5;obtain⟨f5,n5⟩:=e15.fr l _ f2 n2;cases b with
   |false=>
    have h5:∃S4,Sub S4 S5∧G S4∧sC g c e rS G QW (ws.drop (i+1)) acc σW4 S4:=h5;refine Wa ?_;obtain⟨S6,sb,hG6,h6⟩:=h5;have e16:=e15.trans (.drop sb);exact⟨σW4,S6,acc,vs,e2.trans e16,f5,(e16.fr l _ f2 n2).2,ra.ext e15,hσ5,hS5.sub sb,hG6,rfl,hlt,h6⟩
   |true=>
    rw[if_pos rfl]at h5;refine ZA ?_;refine⟨σW4,S5,_,hσ5,hS5,h5,λy S6 v H6 e6 r6 hS6 h6=>?_⟩;have e17:=e15.trans e6;obtain⟨f6,n6⟩:=e17.fr l _ f2 n2;obtain⟨hz,S7,sb,hG7,h7⟩:=h6;obtain⟨x6,hS6'⟩:=upl (us:=vs++[v]) f6 n6 hS6;have ra6:mC X.K H6 (acc++[y]) (vs++[v]):=(ra.ext e17).append (.one r6);refine⟨vs,f6,by rw[←ra.length];exact hz,σW4,S7,acc++[y],vs++[v],?_,pD,((e17.trans (.drop sb)).fr l _ f2 n2).2,ra6.ext x6,(hσ5.ext e6).ext x6,hS6'.sub sb,hG7,rfl,hlt,h7⟩
    exact(e2.trans (e17.trans (.drop sb))).over hl
  ·have hll:i=ws.length:=by lia
   rw[gb (gi hll.symm)]at h2;exact .inl ⟨js hll,hQ acc S' vs l H' (e1.trans e2) (e1.free hl) f2 n2 ra hS2 h2⟩
def Ug (S:ny X.nox scope N k fr) (hi:JI X.nox tg iter q) (hg:∀s₀ H₀ fp pn,JG (pS X.nox scope N s₀ H₀ fp pn) tg g) (hc:∀s₀ H₀ fp pn,uX (pS X.nox scope N s₀ H₀ fp pn) ifs c) (he:∀s₀ H₀ fp pn,JE (pS X.nox scope N s₀ H₀ fp pn) elt e)
  (hs:∀x,dF iter X.env x=pure x:=by intro _;rfl) (hcl:X.calm=true:=by rfl):JL X (.ListComp elt [⟨tg,iter,ifs,0⟩] scope pos) (o9 k fr q g c e):=λE hE=>
 (PE.nox (Th rfl hcl S (hi rS (Fv rfl)) hs)).mono (Mo (X:=X.nox) hg hc he)
def SC{i:Nat}{x:ah}{pos' spos:bw}(hN:X.N.Nodup) (hxi:X.N[i]? =aa x) (hxl:sZ X.env.scope x) (S:ny X.nox scope N k fr) (hi:JI X.nox tg iter q) (hg:∀s₀ H₀ fp pn,JG (pS X.nox scope N s₀ H₀ fp pn) tg g) (hc:∀s₀ H₀ fp pn,uX (pS X.nox scope N s₀ H₀ fp pn) ifs c) (he:∀s₀ H₀ fp pn,JE (pS X.nox scope N s₀ H₀ fp pn) elt e)
  (hw:eG (.ListComp elt [⟨tg,iter,ifs,0⟩] scope pos) (aa (.Name x pos')) spos.line X.env=pure true:=by rfl) (hf:X.fn x=true∨X.env.scope.names.lookup x=aa .local:=by first |exact .inl rfl |exact .inr rfl |assumption)
  (hs:∀x,dF iter X.env x=pure x:=by intro _;rfl) (hcl:X.calm=true:=by rfl):JS X (.Assign [.Name x pos'] (.ListComp elt [⟨tg,iter,ifs,0⟩] scope pos) spos) (mr (nw (o9 k fr q g c e)) (mx i)):=λE hE=>
 (PS.nox (VP (X:=X.nox) rfl hcl S (hi rS (Fv rfl)) hN hxi hxl hw hf hs)).mono λD σ H ⟨σW,S0,DW,hσ,hS,ht,hD⟩=>
  Mo (X:=X.nox) (E:=E) hg hc he σ H _ ⟨σW,S0,_,hσ,hS,ht,λws S1 vs a H1 e1 fa ea na r1 iU h1=>by
   have ex:nH H S0 H1 (bR S1 a (.bP ws)):=⟨e1.bW,e1.frz,λb o q g=>by
    have hb:b≠a:=by rintro rfl;rw[fa]at q;cases q
    rw[nO hb];exact e1.fr b o q g,e1.all⟩
   refine hD.nx _ (bR S1 a (.bP ws)) _ H1 ex ((hσ.ext ex).set (.ref a) i) (λb o q=>?_) (h1 a na);by_cases hb:b=a
   ·subst hb;rw[mR]at q;cases q;exact⟨vs,ea,r1⟩
   ·rw[nO hb]at q;exact iU b o q⟩
def nu (k:Bool) (h:aE) (it a:ai) (i:Nat):Prop:=if k=true then h.IsListIter it a i else h.IsTupleIter it a i
def ni (k:Bool) (h:aE) (a:ai) (eH:Array aj):Prop:=if k=true then h.IsList a eH else h.IsTuple a eH
def nu.at (x:nu k h it a i) (e:∀o,h.get? it=aa o→h'.get? it=aa o):nu k h' it a i:=by
 cases k with
 |true=>exact aE.IsListIter.at (show h.IsListIter it a i from x) e
 |false=>exact aE.IsTupleIter.at (show h.IsTupleIter it a i from x) e
def ni.at (x:ni k h a eH) (e:∀o,h.get? a=aa o→h'.get? a=aa o):ni k h' a eH:=by
 cases k with
 |true=>exact aE.IsList.at (show h.IsList a eH from x) e
 |false=>obtain⟨o,ho,r⟩:=(show h.IsTuple a eH from x);exact⟨o,e o ho,r⟩
def nu.ob (x:nu k h it a i):∃o vs,h.get? it=aa o∧o.data= .fields vs:=by
 cases k with
 |true=>obtain⟨o,ho,_,hd⟩:=(show h.IsListIter it a i from x);exact⟨o,_,ho,hd⟩
 |false=>obtain⟨o,ho,_,hd⟩:=(show h.IsTupleIter it a i from x);exact⟨o,_,ho,hd⟩
section
variable {prog:bi}{w:aR}{A:bt}{E:aj→am→Prop}{s:am}
def Ud{Q:aj→am→Prop}(hit:s.heap.IsTupleIter it t i) (ht:s.heap.IsTuple t eH) (hx:eH[i]? =aa x)
  (hQ:∀g,g.IsTupleIter it t (i+1)→cL it s.heap g→Q x { s with heap:=g }):av (aB prog w) A (cW (.ref it)) Q E s:=by
 obtain⟨o,ho,hc,hd⟩:=id hit;obtain⟨ot,hot,_,nt,hdt⟩:=ht;unfold cW;refine au (dH (name:=bE "__next__") hit.typeIs hZ (dG hZ hit.typeIs kP ?_ (lA _)));show av _ _ (field (.ref it) 0 >>= _) _ _ s;refine au (bV ho hd (x:= .ref t) rfl ?_);show av _ _ (if(bM t == cK)=true then _ else _) _ _ s;rw[if_neg (show ¬((bM t == cK)=true) from cX)];show av _ _ (field (.ref it) 1 >>= _) _ _ s;refine au (bV ho hd (x:= .int i 0) rfl ?_);show av _ _ (seqItems? (.ref t) >>= _) _ _ s;refine au (dh hot hdt ?_);simp only[bb,hx];refine au (ml ho hd (by simp) (aM ⟨x,rfl,aM (hQ _ ?_ (lq ..))⟩));exact⟨_,aE.get?_update_self _ ho (aG.isFreed_of_fields (kE hd _)),(aG.cls_mapFields ..).trans hc,by rw[kE hd];simp [cQ]⟩
def PX{Q:aj→am→Prop}(hh:A.handled=none) (hit:s.heap.IsTupleIter it t i) (ht:s.heap.IsTuple t eH) (hx:eH[i]? =none)
  (hE:∀g e,iQ it s.heap g→(∃o,g.get? e=aa o∧o.cls= .type "StopIteration")→E (.ref e) { s with heap:=g }):av (aB prog w) A (cW (.ref it)) Q E s:=by
 obtain⟨o,ho,hc,hd⟩:=id hit;obtain⟨ot,hot,_,nt,hdt⟩:=ht;unfold cW;refine au (dH (name:=bE "__next__") hit.typeIs hZ (dG hZ hit.typeIs kP ?_ (lA _)));show av _ _ (field (.ref it) 0 >>= _) _ _ s;refine au (bV ho hd (x:= .ref t) rfl ?_);show av _ _ (if(bM t == cK)=true then _ else _) _ _ s;rw[if_neg (show ¬((bM t == cK)=true) from cX)];show av _ _ (field (.ref it) 1 >>= _) _ _ s;refine au (bV ho hd (x:= .int i 0) rfl ?_);show av _ _ (seqItems? (.ref t) >>= _) _ _ s;refine au (dh hot hdt ?_);simp only[bb,hx];refine au (eK (au (ml ho hd (by simp) ?_)));show av _ _ (newExc (.type "StopIteration") [] >>= _) _ _ _;refine au ?_;simp only[newExc,newTuple];refine au (eU ?_ (by size_fits));refine au (m:=kr _ _) (wpAny_of_eq (a:=cK) (by first |rfl | (simp only[kr];rfl)) ?_);refine eU ?_ (by size_fits);simp only[raiseNew];refine au (wpAny_handled ?_)
 first |rw[show A.in1.handled=none from hh] |rw[hh]
 refine au (aM (wpAny_throw ?_));exact hE _ _ (((lq ..).extBut.push _).push _) ⟨_,bI _ rfl,rfl⟩
def Ch{Q:aj→am→Prop}(hit:nu k s.heap it t i) (ht:ni k s.heap t eH) (hx:eH[i]? =aa x)
  (hQ:∀g,nu k g it t (i+1)→cL it s.heap g→Q x { s with heap:=g }):av (aB prog w) A (cW (.ref it)) Q E s:=by
 cases k with
 |true=>exact wpAny_nextOf_list_item hit ht hx hQ
 |false=>exact Ud hit ht hx hQ
def FG{Q:aj→am→Prop}(hh:A.handled=none) (hit:nu k s.heap it t i) (ht:ni k s.heap t eH) (hx:eH[i]? =none)
  (hE:∀g e,iQ it s.heap g→(∃o,g.get? e=aa o∧o.cls= .type "StopIteration")→E (.ref e) { s with heap:=g }):av (aB prog w) A (cW (.ref it)) Q E s:=by
 cases k with
 |true=>exact wpAny_nextOf_list_end hh hit ht hx hE
 |false=>exact PX hh hit ht hx hE
def XJ{k:Bool}{e it l:ai}{i:Nat}{eH:Array aj}{x old:aj}{Q:Option aj→am→Prop}
  (he:c8 s.heap e it i old) (hit:nu k s.heap it l i) (hl:ni k s.heap l eH) (hx:eH[i]? =aa x) (hne:e≠it)
  (hQ:∀g,jT g e it ((i:Int)+1) x s.heap.objs.size→nu k g it l (i+1)→g.get? s.heap.objs.size=aa { cls:= .type "tuple",data:= .seq #[.int i s.toks,x] }→g.objs.size=s.heap.objs.size+1→
   (∀b o,b≠e→b≠it→s.heap.get? b=aa o→g.get? b=aa o)→Q (aa (.ref s.heap.objs.size)) { s with heap:=g,toks:=s.toks+1 }):av (aB prog w) A (cr (.ref e)) Q E s:=by
 have hT:s.TypeIs (.ref e) "enumerate" :=⟨_,he,rfl⟩;unfold cr;refine au (gL (dH (name:=bE "__next__") hT ic (dG ic hT j_ ?_ (kS _))));obtain⟨hp,g,d,tk,os⟩:=s;show av _ _ (field (.ref e) 2 >>= _) _ _ _;refine au (bV he rfl (x:= .ref it) rfl ?_);refine au (Ch hit hl hx λg1 hit1 hs1=>?_);replace hs1:cL it hp g1:=hs1;have he1:c8 g1 e it i old:=(hs1.2 e hne).trans he;show av _ _ (field (.ref e) 3 >>= _) _ _ ⟨g1,g,d,tk,os⟩;refine au (bV he1 rfl (x:=cQ i) rfl ?_);show av _ _ (field (.ref e) 4 >>= _) _ _ ⟨g1,g,d,tk,os⟩;refine au (bV he1 rfl (x:= .none) rfl ?_);show av _ _ (mkInt i >>= _) _ _ ⟨g1,g,d,tk,os⟩;refine au (wpAny_mkInt ?_);show av _ _ (setField (.ref e) 3 (cQ ((i:Int)+1)) >>= _) _ _ ⟨g1,g,d,tk+1,os⟩;refine au (cM he1 (by simp) λg2 he2 hs2=>?_);replace hs2:cL e g1 g2:=hs2;replace he2:c8 g2 e it ((i:Int)+1) old:=he2;show av _ _ (setField (.ref e) 4 .none >>= _) _ _ ⟨g2,g,d,tk+1,os⟩;refine au (cM he2 (by simp) λg3 he3 hs3=>?_);replace hs3:cL e g2 g3:=hs3;replace he3:c8 g3 e it ((i:Int)+1) old:=he3;show av _ _ (newTuple [.int i tk,x] >>= _) _ _ ⟨g3,g,d,tk+1,os⟩;refine au (lQ ?_);have he4:c8 (g3.push { cls:= .type "tuple",data:= .seq #[.int i tk,x] }) e it ((i:Int)+1) old:=aO _ he3;generalize hg4:g3.push { cls:= .type "tuple",data:= .seq #[.int i tk,x] }=g4 at he4;have hsz:g3.objs.size=hp.objs.size:=by rw[hs3.1,hs2.1,hs1.1]
 have hel:e<hp.objs.size:=aQ he;have ht4:g4.get? hp.objs.size=aa { cls:= .type "tuple",data:= .seq #[.int i tk,x] }:=by rw[←hg4,←hsz];exact bI _ rfl
 have hz4:g4.objs.size=hp.objs.size+1:=by rw[←hg4,c9,hsz]
 have hk4:∀b o,b≠e→b≠it→hp.get? b=aa o→g4.get? b=aa o:=λb o hbe hbi hb=>by rw[←hg4];exact aO _ (hs3.extBut b o hbe (hs2.extBut b o hbe (hs1.extBut b o hbi hb)))
 have hit4:nu k g4 it l (i+1):=by rw[←hg4];exact hit1.at λo ho=>aO _ (hs3.extBut it o (bz hne) (hs2.extBut it o (bz hne) ho))
 show av _ _ (eW (.ref e) >>= _) _ _ ⟨g4,g,d,tk+1,os⟩;rw[hsz];clear hg4 he3 hs3 he2 hs2 he1 hs1 hit1 hsz g3 g2 g1;refine au ?_;unfold eW;refine au (bV he4 rfl (x:= .none) rfl (aM ?_));simp only[if_true];refine au (eK ?_);refine au (bV he4 rfl (x:=old) rfl ?_);refine au (cM he4 (by simp) λg5 he5 hs5=>?_);replace hs5:cL e g4 g5:=hs5;replace he5:c8 g5 e it ((i:Int)+1) x:=he5;show av _ _ (gH (.ref e) (.ref hp.objs.size) >>= _) _ _ ⟨g5,g,d,tk+1,os⟩;refine au ?_;unfold gH;refine au (cM he5 (by simp) λg6 he6 hs6=>?_);replace hs6:cL e g5 g6:=hs6;replace he6:jT g6 e it ((i:Int)+1) x hp.objs.size:=he6;refine cM he6 (by simp) λg7 he7 hs7=>?_;replace hs7:cL e g6 g7:=hs7;replace he7:jT g7 e it ((i:Int)+1) x hp.objs.size:=he7;refine au (gr (aM ⟨_,rfl,aM (hQ g7 he7 ?_ ?_ ?_ ?_)⟩))
 ·exact hit4.at λo ho=>hs7.extBut it o (bz hne) (hs6.extBut it o (bz hne) (hs5.extBut it o (bz hne) ho))
 ·exact hs7.extBut _ _ (da hel) (hs6.extBut _ _ (da hel) (hs5.extBut _ _ (da hel) ht4))
 ·rw[hs7.1,hs6.1,hs5.1,hz4]
 ·exact λb o hbe hbi hb=>hs7.extBut b o hbe (hs6.extBut b o hbe (hs5.extBut b o hbe (hk4 b o hbe hbi hb)))
def Rt{k:Bool}{e it l:ai}{i:Nat}{eH:Array aj}{old:aj}{Q:Option aj→am→Prop}(hh:A.handled=none)
  (he:c8 s.heap e it i old) (hit:nu k s.heap it l i) (hl:ni k s.heap l eH) (hx:eH[i]? =none) (hQ:∀g,iQ it s.heap g→Q none { s with heap:=g }):av (aB prog w) A (cr (.ref e)) Q E s:=by
 have hT:s.TypeIs (.ref e) "enumerate" :=⟨_,he,rfl⟩;unfold cr;refine au (gL (dH (name:=bE "__next__") hT ic (dG ic hT j_ ?_ (kS _))));show av _ _ (field (.ref e) 2 >>= _) _ _ _;refine au (bV he rfl (x:= .ref it) rfl ?_);refine au (FG hh hit hl hx λg x he' hx'=>?_);obtain⟨o,ho,hc⟩:=hx';refine au (li (T:= "StopIteration") (b:=true) ⟨o,ho,hc⟩ kg ?_);exact aM (hQ _ he')
end
def qO (k:Bool) (a:ai):aG:={ cls:= .type (if k=true then "list_iterator" else "tuple_iterator"),data:= .fields #[.ref a, .int 0 0] }
def D6 (e:h.get? it=aa (qO k a)):nu k h it a 0:=by
 cases k with
 |true=>exact⟨_,e,rfl,rfl⟩
 |false=>exact⟨_,e,rfl,rfl⟩
def EJ:(qO k a).isFreed=false:=by cases k<;>rfl
section
variable {prog:bi}{w:aR}{A:bt}{E:aj→am→Prop}{s:am}
def CV{Q:aj→am→Prop}(ha:ni k s.heap a eH) (hQ:Q (.ref s.heap.objs.size) { s with heap:=s.heap.push (qO k a) }):av (aB prog w) A (dy (.ref a)) Q E s:=by
 cases k with
 |true=>exact eV ha hQ
 |false=>exact k_ ha hQ
end
def ni.push (x:ni k h a eH) (o:aG):ni k (h.push o) a eH:=x.at λ_ e=>aO _ e
def XC (l:ai) (eH:Array aj) :
  PySem.Meets (cu.«enumerate.__new__» ⟨[.type "enumerate", .ref l],[]⟩) (λ_ R s=>ni k s.heap l eH∧
   R (.ok (.ret (.ref (s.heap.push (qO k l)).objs.size))) { s with heap:=(s.heap.push (qO k l)).push { cls:= .type "enumerate",data:= .fields #[.none, .bool false, .ref s.heap.objs.size,cQ 0, .none, .none] } }):=
 .of_wp λprog w A R s h=>by
  obtain⟨hp,g,d,tk,os⟩:=s;obtain⟨hl,h⟩:=h;have hsub:=sub_enumerate;have hL:ni k (am.heap ⟨hp,g,d,tk,os⟩) l eH:=hl;have fin:∀{A:bt}{E:aj→am→Prop}{Q:aj→am→Prop},Q (.ref hp.objs.size) ⟨hp.push (qO k l),g,d,tk,os⟩→av (aB prog w) A (dy (.ref l)) Q E ⟨hp,g,d,tk,os⟩:=λq=>CV hL q
  wp_walk
  refine wpAny_stack_any λst=>aM ?_;split
  ·rename_i c _ _ _ _ _;cases(c == iV "enumerate")
   ·wp_walk using fin
    exact⟨_,rfl,h⟩
   ·wp_walk using fin
    exact⟨_,rfl,h⟩
  ·wp_walk using fin
   exact⟨_,rfl,h⟩
section
variable {prog:bi}{w:aR}{A:bt}{E:aj→am→Prop}{s:am}
def U'{Q:aj→am→Prop}(hL:ni k s.heap l eH)
  (h:∀g,c8 g (s.heap.objs.size+1) s.heap.objs.size 0 .none→nu k g s.heap.objs.size l 0→g.objs.size=s.heap.objs.size+2→(∀b o,s.heap.get? b=aa o→g.get? b=aa o)→Q (.ref (s.heap.objs.size+1)) { s with heap:=g }) :
  av (aB prog w) A (call (.type "enumerate") [.ref l]) Q E s:=by
 refine callType_new PySem.F.called_enumerate (by decide) (PySem.F.typeCall_enumerate_1 _) (PySem.F.newCall_enumerate_1 _) (λobj=>PySem.F.args_object_init_2 obj _) PySem.F.entry_enumerate_new (XC (k:=k) l eH) ⟨hL,?_⟩;have hz:(s.heap.push (qO k l)).objs.size=s.heap.objs.size+1:=c9 ..;show _∧_;rw[hz];have he:c8 ((s.heap.push (qO k l)).push { cls:= .type "enumerate",data:= .fields #[.none, .bool false, .ref s.heap.objs.size,cQ 0, .none, .none] }) (s.heap.objs.size+1) s.heap.objs.size 0 .none:=by
  have:=bI (s.heap.push (qO k l)) (o:={ cls:= .type "enumerate",data:= .fields #[.none, .bool false, .ref s.heap.objs.size,cQ 0, .none, .none] }) rfl;rw[hz]at this;exact this
 exact⟨⟨_,he,rfl⟩,h _ he (D6 (aO _ (bI _ EJ))) (by rw[c9,hz]) λb o x=>aO _ (aO _ x)⟩
end
section
variable {X:Cx}{ag:List (ai×aG)}{σ:St}{H:Hp}{s:am}{g:aE}{fp:List ai}
def my.turnNew{t':Nat}(I:my X ag σ H s) (hp:s.heap.objs.size≤p) (k:∀b u,b∉fp→s.heap.get? b=aa u→g.get? b=aa u) (hf:∀b∈fp,qA X ag H b) (new:nc X.prog X.w (nG H p o) g p o) :
  my X ag σ (nG H p o) { s with heap:=g,toks:=t' }:=by
 have hn:=I.cG.fresh hp;have lt:∀{b u},s.heap.get? b=aa u→b≠p:=λe=>bS (bY (aQ e) hp);have nfp:∀{b u},H b=aa u→b∉fp:=λe z=>by rw[(hf _ z).1]at e;cases e
 refine I.call (g':=s.gens) (d':=s.drawn) (ch:=fp) ⟨λb u e _ _ hx=>k b u hx e,λb u e _ _ hx=>⟨u.slots,k b u hx e⟩,λb u e n _=>by rw[og (lt e)];exact n,λb u e hx=>⟨u,k b u hx e⟩,
  λb xs e=>by rw[og (pO e hn)];exact e,λb u xs e=>by rw[og (pO e hn)];exact e,λb ps e=>⟨#[],by rw[og (pO e hn),e];simp⟩⟩ (λb u e=>?_) I.bare λb hb=>⟨(hf b hb).2.2.2.1,(hf b hb).2.1,(hf b hb).2.2.2.2.1,(hf b hb).2.2.2.2.2⟩
 by_cases hb:b=p
 ·subst hb;rw[pD]at e;cases e;exact new
 ·rw[og hb]at e;refine(I.cG b u e).stay (λc v hc q=>k c v ?_ q) (λc q=>by rw[og (pO q hn)];exact q) λc xs q=>by rw[og (pO q hn)];exact q
  obtain rfl |hc:=hc
  ·exact nfp e
  ·exact nfp hc
def my.turnedL{t':Nat}(I:my X ag σ H s) (k:∀b u,b∉fp→s.heap.get? b=aa u→g.get? b=aa u) (hf:∀b∈fp,qA X ag H b):my X ag σ H { s with heap:=g,toks:=t' }:=by
 have nfp:∀{b u},H b=aa u→b∉fp:=λe z=>by rw[(hf _ z).1]at e;cases e
 refine I.call (g':=s.gens) (d':=s.drawn) (ch:=fp) ⟨λb u e _ _ hx=>k b u hx e,λb u e _ _ hx=>⟨u.slots,k b u hx e⟩,λb u e n _=>n,λb u e hx=>⟨u,k b u hx e⟩,
  λb xs e=>e,λb u xs e=>e,λb ps e=>⟨#[],by rw[e];simp⟩⟩ (λb u e=>?_) I.bare λb hb=>⟨(hf b hb).2.2.2.1,(hf b hb).2.1,(hf b hb).2.2.2.2.1,(hf b hb).2.2.2.2.2⟩
 refine(I.cG b u e).stay (λc v hc q=>k c v ?_ q) (λc q=>q) λc xs q=>q;obtain rfl |hc:=hc
 ·exact nfp e
 ·exact nfp hc
def tE (k:Bool) (K:ao) (H:Hp) (a:ai) (xs:List V):Prop:=if k=true then oF K H a xs else oY K H a xs
def my.seq (I:my X ag σ H s) (h:tE k X.K H a xs):∃eH:List aj,mM xs eH∧ni k s.heap a eH.toArray∧xs.length≤sizeLine:=by
 cases k with
 |true=>obtain⟨eH,r,p,z⟩:=I.list h;exact⟨eH,r,p.isList,z⟩
 |false=>obtain⟨eH,r,p,z⟩:=I.tuple h;exact⟨eH,r,p,z⟩
def my.seq_inj (I:my X ag σ H s) (h:tE k X.K H a xs) (h':tE k X.K H a ys):xs=ys:=by
 cases k with
 |true=>exact I.list_inj h h'
 |false=>exact I.tuple_inj h h'
end
def E6 (k:Bool) (K:ao) (a:ai):It:=
 ⟨λi H=>∃xs x,tE k K H a xs∧xs[i]? =aa x,λi H v H'=>∃p x,H p=none∧v= .ref p∧H'=nG H p (.bW [.int i,x])∧ ∀xs,tE k K H a xs→xs[i]? =aa x,λi H=>∃xs,tE k K H a xs∧xs.length≤i⟩
def Vj{P:bi}{w:aR}{K:ao}{es:List Expr}{x1:Nat}{pos:bw}(k:Bool) (a e it:ai) (hne:e≠it):rm P w K (.Tuple es x1 pos) (E6 k K a) [e,it] e (λi h=>(∃old,c8 h e it (i:Nat) old)∧nu k h it a i) where
  mem:=by simp
  obj:=λi h ⟨⟨old,he⟩,hit⟩ b hb=>by
    obtain rfl |hb:=az.mp hb
    · exact⟨_,he,λv z=>by cases z⟩
    · have q:b=it:=by simpa using hb
      subst q;obtain⟨o,vs,e,d⟩:=hit.ob;exact⟨o,e,λv z=>by rw[d]at z;cases z⟩
  keep:=λi h h' ⟨⟨old,he⟩,hit⟩ kk=>⟨⟨old,kk e (by simp) _ he⟩,hit.at λo q=>kk it (by simp) o q⟩
  item:=by
    intro X hP hw hK hc i ag s σ H E I hf st hg;subst hP hw hK;obtain⟨xs,x,hq,hx⟩:=hg;obtain⟨⟨old,he⟩,hit⟩:=st;obtain⟨eH,rv,p,hz⟩:=I.seq hq;obtain⟨u,hu,ru⟩:=rv.get hx;refine XJ he hit p (x:=u) (by simpa using hu) hne λg ho hit' ht hz' kk=>⟨_,rfl,?_⟩;refine wpAny_letOwnedTupleGo_enum ho λg2 he2 hs2=>?_;have hlt:s.heap.objs.size≠e:=da (aQ he);have kk2:∀b o,b∉ [e,it]→s.heap.get? b=aa o→g2.get? b=aa o:=λb o hb q=>by
      have h1:b≠e:=λz=>hb (by simp [z]);have h2:b≠it:=λz=>hb (by simp [z]);exact(hs2.2 b h1).trans (kk b o h1 h2 q)
    have hn:=I.cG.fresh (aA s.heap.objs.size);have ht2:g2.get? s.heap.objs.size=aa { cls:= .type "tuple",data:= .seq #[.int i s.toks,u] }:=(hs2.2 _ hlt).trans ht;refine⟨.ref s.heap.objs.size,nG H s.heap.objs.size (.bW [.int i,x]),I.turnNew (fp:=[e,it]) (t':=s.toks+1) (aA _) kk2 hf ⟨by show 2≤sizeLine;rw[ef];decide,[.int i s.toks,u], .cons ⟨_,rfl⟩ (.cons ru .nil),⟨_,ht2,rfl,_,rfl⟩⟩,rfl,
      ⟨_,x,hn,rfl,rfl,λys hy=>by rw[I.seq_inj hy hq];exact hx⟩,⟨⟨u,by simpa using he2⟩,hit'.at λo q=>(hs2.2 it (bz hne)).trans q⟩,λb hb=>?_⟩
    have hb':=(hf b hb).1;have:b≠s.heap.objs.size:=by
      obtain rfl |hb:=az.mp hb
      · exact bz hlt
      · have q:b=it:=by simpa using hb
        subst q;obtain⟨o,vs,e,d⟩:=hit.ob;exact bS (aQ e)
    rw[og this];exact hb'
  done:=by
    intro X hP hw hK hc i ag s σ H E I hf st hg;subst hP hw hK;obtain⟨xs,hq,hx⟩:=hg;obtain⟨⟨old,he⟩,hit⟩:=st;obtain⟨eH,rv,p,hz⟩:=I.seq hq;have hl:=rv.length;exact Rt (I.ok.hd hc) he hit p (by simp;lia) λg eb=>⟨rfl,I.turnedL (fp:=[e,it]) (t':=s.toks) (λb o hb q=>eb b o (λz=>hb (by simp [z])) q) hf⟩
  self:=λA i s Q E ⟨⟨old,he⟩,hit⟩ h=>lR he h
section
variable {X:Cx}{es:List Expr}{x1:Nat}{tpos:bw}
def VD (K:ao) (ta:TA):TI:=λσ H R=>ta σ H λvs H1=>∃k a xs,vs=[.ref a]∧tE k K H1 a xs∧R (E6 k K a) H1
def Vt{a:Expr}{ta:TA}{p pos:bw}(hg:Gl X "enumerate") (hm:X.mg "enumerate" =none) (ha:PA X [a] ta) (hs:ax [a] X.env=[(false,aH a X.env)]:=by rfl):PI X (.Tuple es x1 tpos) (.Call (.Name "enumerate" p) [a] [] pos) (VD X.K ta):=by
 intro ag s σ H R I h;refine Call_ (xb I hg hm boot_enumerate (gn (nE (ha pos ag s σ H _ I h) λus s1 ⟨vs,H1,I1,r1,q1⟩=>?_) hs rfl));obtain⟨k,a,xs,e,hq,q⟩:=q1;subst e;cases r1 with
 |cons r rr=>
  cases rr;cases(show _=bM a from r);obtain⟨eH,rv,pl,hz⟩:=I1.seq hq;refine U' pl λg he hit hz' kk=>lR he ?_;have I2:my X ag σ H1 { s1 with heap:=g }:=I1.kept (t':=s1.toks) kk;refine⟨s1.heap.objs.size+1,[s1.heap.objs.size+1,s1.heap.objs.size],_,_,H1,rfl,I2,Vj k a _ _ (Nat.succ_ne_self _),⟨⟨.none,he⟩,hit⟩,λb hb=>?_,q⟩;have hb':s1.heap.objs.size≤b:=by
   obtain rfl |hb:=az.mp hb
   ·exact Nat.le_succ _
   ·have q:b=s1.heap.objs.size:=by simpa using hb
    exact gi q.symm
  exact I1.fpOk hb' (I1.cG.fresh hb')
def pN:Nat→List W→List W
 |_,[]=>[]
 |n,w::ws=> .bW [.int n,w]::pN (n+1) ws
theorem Jj:∀{ws:List W}{n i:Nat}{u:W},(pN n ws)[i]? =aa u→ ∃w,ws[i]? =aa w∧u= .bW [.int ((n+i:Nat):Int),w]
 | [],_,_,_,h=>by simp [pN]at h
 |w::ws,n,0,u,h=>by
  simp [pN]at h;exact⟨w,rfl,by rw[←h];rfl⟩
 |w::ws,n,i+1,u,h=>by
  obtain⟨w',e,q⟩:=Jj (ws:=ws) (n:=n+1) (i:=i) (u:=u) (by simpa [pN]using h);refine⟨w',by simpa using e,?_⟩
  rw[q,show n+1+i=n+(i+1) by lia]
theorem IF:∀{ws:List W}{n:Nat},(pN n ws).length=ws.length
 | [],_=>rfl
 |w::ws,n=>by simp [pN,IF (ws:=ws)]
def ZY{K:ao}{k:Bool}{a:ai}{ws:List W}{G:lr→Prop}{H0:Hp}{S0:lr}(h:∀S H,nH H0 S0 H S→mD K H S→G S→ ∃vs,tE k K H a vs∧mC K H ws vs):vN K (E6 k K a) (pN 0 ws) G H0 S0:=λi S H e hS hG=>by
 obtain⟨vs,hq,r⟩:=h S H e hS hG;refine⟨λu eu=>?_,λhl=>⟨vs,hq,by rw[←r.length,hl,IF];exact aA _⟩⟩
 obtain⟨w,ew,rfl⟩:=Jj eu;obtain⟨v,ev,rv⟩:=r.get ew;refine⟨⟨vs,v,hq,ev⟩,λx H' ⟨p,y,hp,e1,e2,e3⟩=>?_⟩;subst e1 e2;have e4:=e3 vs hq;rw[ev]at e4;cases e4;rw[bG];exact⟨.new hp,hS.new hp, .bW pD (.cons (.int _) (.cons (rv.ext (.new (S:=S) hp)) .nil))⟩
def uv:W→lr→(List W→(lr→Prop)→Prop)→Prop
 | .bW ws,_,Q=>Q ws λ_=>True
 | .ref a,S,Q=>n9 S a λws=>Q ws λS'=>S' a=aa (.bP ws)
 | .c7 ns,_,Q=>Q (ns.map W.int) λ_=>True
 |_,_,_=>False
def V'{K:ao}{H:Hp}{S:lr}{w:W}{v:V}{Q:List W→(lr→Prop)→Prop}(r:nK K H w v) (hS:mD K H S) (h:uv w S Q) :
  ∃k a ws G,v= .ref a∧G S∧(∀S' H',nH H S H' S'→mD K H' S'→G S'→ ∃vs,tE k K H' a vs∧mC K H' ws vs)∧Q ws G:=by
 cases r with
 |bW f hs=>exact⟨false,_,_,_,rfl,trivial,λS' H' e hS' _=>⟨_, .of (e.bW _ _ f),hs.ext e⟩,h⟩
 |ref a=>
  obtain⟨ws,ea,h⟩:=ql h;exact⟨true,_,ws,_,rfl,ea,λS' H' e hS' g=>by
   obtain⟨vs,f,hs⟩:=hS' a _ g;exact⟨vs, .of f,hs⟩,h⟩
 |c7 f=>exact⟨true,_,_,_,rfl,trivial,λS' H' e hS' _=>⟨_,(e.fz f).sq,mC.ofInts _⟩,h⟩
 |_=>exact h.elim
def uE (t:WE) (E:WX) (σ:mU) (S:lr) (Q:List W→(lr→Prop)→lr→Prop):Prop:=t E σ S λw S1=>uv w S1 λws G=>Q (pN 0 ws) G S1
def Rq{a:Expr}{ta:WE}{p pos:bw}(hg:Gl X "enumerate") (hm:X.mg "enumerate" =none) (ha:JE X a ta) (hs:ax [a] X.env=[(false,aH a X.env)]:=by rfl) (hs2:ax [a] X.env=(false,aH a X.env)::ax [] X.env:=by rfl):JI X (.Tuple es x1 tpos) (.Call (.Name "enumerate" p) [a] [] pos) (uE ta):=λE hE=>
 (Vt hg hm (tR (ha E hE) oQ hs2) hs).mono λσ H R ⟨σW,S,QW,hσ,hS,ht,hR⟩=>⟨σW,S,_,hσ,hS,ht,λw S1 v H1 e1 r1 iU h1=>by
  obtain⟨k,a,ws,G,rfl,hG,hq,h⟩:=V' r1 iU h1;obtain⟨vs,hv,_⟩:=hq S1 H1 .refl iU hG;exact⟨k,a,vs,rfl,hv,hR _ _ S1 _ H1 e1 iU hG (ZY hq) h⟩⟩
end
section
variable {prog:bi}{w:aR}{A:bt}{E:aj→am→Prop}{s:am}
def Vx{z TI TO i1 i2 l1 l2:ai}{n1 n2:Nat}{Q:Option aj→am→Prop}(D:ir z TI TO i1 i2 l1 l2)
  (hz:cw s.heap z TI TO .none) (hTI:b6 s.heap TI (.ref i1) (.ref i2)) (hTO:b6 s.heap TO a b) (h1:nu k1 s.heap i1 l1 n1) (h2:nu k2 s.heap i2 l2 n2) (hl1:ni k1 s.heap l1 xs) (hl2:ni k2 s.heap l2 ys) (hx:xs[n1]? =aa x) (hy:ys[n2]? =aa y)
  (hQ:∀g,cw g z TI TO (cQ s.heap.objs.size)→b6 g TO x y→nu k1 g i1 l1 (n1+1)→nu k2 g i2 l2 (n2+1)→b6 g s.heap.objs.size x y→g.objs.size=s.heap.objs.size+1→
   (∀c o,c≠z→c≠TO→c≠i1→c≠i2→s.heap.get? c=aa o→g.get? c=aa o)→Q (aa (.ref s.heap.objs.size)) { s with heap:=g }):av (aB prog w) A (cr (.ref z)) Q E s:=by
 have hT:s.TypeIs (.ref z) "zip" :=⟨_,hz,rfl⟩;unfold cr;refine au (gL (dH (name:=bE "__next__") hT gF (dG gF hT lx ?_ (jX _))));show av _ _ (field (.ref z) 2 >>= _) _ _ _;refine au (bV hz rfl (x:= .bool false) rfl ?_);show av _ _ (field (.ref z) 3 >>= _) _ _ _;refine au (bV hz rfl (x:= .ref TI) rfl ?_);refine au (dh hTI rfl ?_);show av _ _ (eW (.ref z) >>= _) _ _ _;refine au ?_;unfold eW;refine au (bV hz rfl (x:= .none) rfl (aM ?_));simp only[if_true];refine au (eK ?_);refine au (bV hz rfl (x:= .ref TO) rfl ?_);refine au (cM hz (by simp) λg1 hz1 hs1=>?_);replace hz1:cw g1 z TI TO .ellipsis:=hz1;refine au ?_;simp only[j8,l6,jx,kl];refine au (au (gB ?_));show av _ _ (cW (.ref i1) >>= _) _ _ _;refine au (Ch (h1.at λo e=>hs1.extBut _ o D.i1z e) (hl1.at λo e=>hs1.extBut _ o D.l1z e) hx λg2 h12 hs2=>aM ?_);have hTO2:b6 g2 TO a b:=hs2.extBut _ _ D.TOi1 (hs1.extBut _ _ D.TOz hTO);refine au (dh hTO2 rfl ?_);refine au (ik hTO2 λg3 hTO3 hs3=>?_);replace hTO3:b6 g3 TO x b:=hTO3;refine au (gr (aM ?_));refine au (au (gB ?_));show av _ _ (cW (.ref i2) >>= _) _ _ _;refine au (Ch (h2.at λo e=>hs3.extBut _ o D.TOi2.symm (hs2.extBut _ o D.i12.symm (hs1.extBut _ o D.i2z e))) (hl2.at λo e=>hs3.extBut _ o D.l2TO (hs2.extBut _ o D.l2i1 (hs1.extBut _ o D.l2z e))) hy λg4 h24 hs4=>aM ?_);have hTO4:b6 g4 TO x b:=hs4.extBut _ _ D.TOi2 hTO3;refine au (dh hTO4 rfl ?_);refine au (ik hTO4 λg5 hTO5 hs5=>?_);replace hTO5:b6 g5 TO x y:=hTO5;refine au (gr (aM (aM ?_)));refine au (dh hTO5 rfl ?_);refine au (lQ ?_);have hsz:g5.objs.size=s.heap.objs.size:=by rw[hs5.1,hs4.1,hs3.1,hs2.1,hs1.1]
 have hz5:cw g5 z TI TO .ellipsis:=hs5.extBut _ _ D.TOz.symm (hs4.extBut _ _ D.i2z.symm (hs3.extBut _ _ D.TOz.symm (hs2.extBut _ _ D.i1z.symm hz1)));have hk5:∀c o,c≠z→c≠TO→c≠i1→c≠i2→s.heap.get? c=aa o→g5.get? c=aa o:=λc o c1 c2 c3 c4 e=>hs5.extBut _ _ c2 (hs4.extBut _ _ c4 (hs3.extBut _ _ c2 (hs2.extBut _ _ c3 (hs1.extBut _ _ c1 e))));have h15:nu k1 g5 i1 l1 (n1+1):=h12.at λo e=>hs5.extBut _ o D.TOi1.symm (hs4.extBut _ o D.i12 (hs3.extBut _ o D.TOi1.symm e));have h25:nu k2 g5 i2 l2 (n2+1):=h24.at λo e=>hs5.extBut _ o D.TOi2.symm e;have hzlt:z<g5.objs.size:=aQ hz5;show av _ _ (gH (.ref z) (.ref g5.objs.size) >>= _) _ _ _;refine au ?_;unfold gH;have hz6:cw (g5.push { cls:= .type "tuple",data:= .seq #[x,y] }) z TI TO .ellipsis:=aO _ hz5;refine au (cM hz6 (by simp) λg7 hz7 hs7=>?_);replace hz7:cw g7 z TI TO (cQ g5.objs.size):=hz7;refine cM hz7 (by simp) λg8 hz8 hs8=>?_;replace hz8:cw g8 z TI TO (cQ g5.objs.size):=hz8;have up:∀c o,c≠z→g5.get? c=aa o→g8.get? c=aa o:=λc o c1 e=>hs8.extBut _ _ c1 (hs7.extBut _ _ c1 (aO _ e));have hT8:b6 g8 g5.objs.size x y:=hs8.extBut _ _ (da hzlt) (hs7.extBut _ _ (da hzlt) (bI _ rfl));have hzz:g8.objs.size=g5.objs.size+1:=by rw[hs8.1,hs7.1,c9]
 rw[hsz]at hz8 hT8 hzz;refine aM ⟨_,rfl,aM ?_⟩;show Q (aa (.ref g5.objs.size)) _;rw[hsz];exact hQ g8 hz8 (up _ _ D.TOz hTO5) (h15.at λo e=>up _ o D.i1z e) (h25.at λo e=>up _ o D.i2z e) hT8 hzz λc o c1 c2 c3 c4 e=>up c o c1 (hk5 c o c1 c2 c3 c4 e)
def VO{z TI TO i1 i2 l1 l2:ai}{n1 n2:Nat}{Q:Option aj→am→Prop}(hh:A.handled=none) (D:ir z TI TO i1 i2 l1 l2)
  (hz:cw s.heap z TI TO .none) (hTI:b6 s.heap TI (.ref i1) (.ref i2)) (hTO:b6 s.heap TO a b) (h1:nu k1 s.heap i1 l1 n1) (h2:nu k2 s.heap i2 l2 n2) (hl1:ni k1 s.heap l1 xs) (hl2:ni k2 s.heap l2 ys) (hend:xs[n1]? =none∨ys[n2]? =none)
  (hQ:∀g,(∀c o,c≠z→c≠TO→c≠i1→c≠i2→s.heap.get? c=aa o→g.get? c=aa o)→Q none { s with heap:=g }):av (aB prog w) A (cr (.ref z)) Q E s:=by
 have hT:s.TypeIs (.ref z) "zip" :=⟨_,hz,rfl⟩;have fin:∀(g:aE) (e:ai),(∀c o,c≠z→c≠TO→c≠i1→c≠i2→s.heap.get? c=aa o→g.get? c=aa o)→(∃o,g.get? e=aa o∧o.cls= .type "StopIteration")→
   av (aB prog w) A (do if(←isInstance (.ref e) (.type "StopIteration")) then pure none else throw (.ref e)) Q E { s with heap:=g }:=λg e hk ⟨o,ho,hc⟩=>
  au (li (T:= "StopIteration") (b:=true) ⟨o,ho,hc⟩ kg (aM (hQ _ hk)))
 unfold cr;refine au (gL (dH (name:=bE "__next__") hT gF (dG gF hT lx ?_ (jX _))));show av _ _ (field (.ref z) 2 >>= _) _ _ _;refine au (bV hz rfl (x:= .bool false) rfl ?_);show av _ _ (field (.ref z) 3 >>= _) _ _ _;refine au (bV hz rfl (x:= .ref TI) rfl ?_);refine au (dh hTI rfl ?_);show av _ _ (eW (.ref z) >>= _) _ _ _;refine au ?_;unfold eW;refine au (bV hz rfl (x:= .none) rfl (aM ?_));simp only[if_true];refine au (eK ?_);refine au (bV hz rfl (x:= .ref TO) rfl ?_);refine au (cM hz (by simp) λg1 hz1 hs1=>?_);replace hz1:cw g1 z TI TO .ellipsis:=hz1;refine au ?_;simp only[j8,l6,jx,kl];refine au (au (gB ?_));show av _ _ (cW (.ref i1) >>= _) _ _ _;cases hx:xs[n1]? with
 |none=>
  refine au (FG hh (h1.at λo e=>hs1.extBut _ o D.i1z e) (hl1.at λo e=>hs1.extBut _ o D.l1z e) hx λg2 e hs2 he=>?_);obtain⟨oe,hoe,hce⟩:=he;have hz2:cw g2 z TI TO .ellipsis:=hs2 _ _ D.i1z.symm hz1;have hez:e≠z:=λx=>by subst x;rw[hz2]at hoe;cases hoe;simp at hce
  refine cM hz2 (by simp) λg3 _ hs3=>fin g3 e (λc o c1 _ c3 _ x=>hs3.extBut _ _ c1 (hs2 _ _ c3 (hs1.extBut _ _ c1 x))) ⟨oe,hs3.extBut _ _ hez hoe,hce⟩
 |some x=>
  have hy:ys[n2]? =none:=by obtain h |h:=hend;rw[hx]at h;cases h;exact h
  refine au (Ch (h1.at λo e=>hs1.extBut _ o D.i1z e) (hl1.at λo e=>hs1.extBut _ o D.l1z e) hx λg2 h12 hs2=>aM ?_);have hTO2:b6 g2 TO a b:=hs2.extBut _ _ D.TOi1 (hs1.extBut _ _ D.TOz hTO);refine au (dh hTO2 rfl ?_);refine au (ik hTO2 λg3 hTO3 hs3=>?_);refine au (gr (aM ?_));refine au (au (gB ?_));show av _ _ (cW (.ref i2) >>= _) _ _ _;refine au (FG hh (h2.at λo e=>hs3.extBut _ o D.TOi2.symm (hs2.extBut _ o D.i12.symm (hs1.extBut _ o D.i2z e))) (hl2.at λo e=>hs3.extBut _ o D.l2TO (hs2.extBut _ o D.l2i1 (hs1.extBut _ o D.l2z e))) hy λg4 e hs4 he=>?_);obtain⟨oe,hoe,hce⟩:=he;have hz4:cw g4 z TI TO .ellipsis:=hs4 _ _ D.i2z.symm (hs3.extBut _ _ D.TOz.symm (hs2.extBut _ _ D.i1z.symm hz1));have hez:e≠z:=λx=>by subst x;rw[hz4]at hoe;cases hoe;simp at hce
  refine cM hz4 (by simp) λg5 _ hs5=>fin g5 e (λc o c1 c2 c3 c4 x=>hs5.extBut _ _ c1 (hs4 _ _ c4 (hs3.extBut _ _ c2 (hs2.extBut _ _ c3 (hs1.extBut _ _ c1 x))))) ⟨oe,hs5.extBut _ _ hez hoe,hce⟩
end
abbrev CD (k1:Bool) (h:aE) (l1:ai):aE:=h.push (qO k1 l1)
abbrev BX (k1 k2:Bool) (h:aE) (l1 l2:ai):aE:=(CD k1 h l1).push (qO k2 l2)
abbrev AU (k1 k2:Bool) (h:aE) (l1 l2:ai):aE:=(BX k1 k2 h l1 l2).push { cls:= .type "tuple",data:= .seq #[.ref h.objs.size, .ref (CD k1 h l1).objs.size] }
abbrev Bo (k1 k2:Bool) (h:aE) (l1 l2:ai):aE:=(AU k1 k2 h l1 l2).push { cls:= .type "tuple",data:= .seq #[.none, .none] }
abbrev ww (k1 k2:Bool) (h:aE) (l1 l2:ai):aE:=(Bo k1 k2 h l1 l2).push { cls:= .type "zip",data:= .fields #[.none, .bool false, .bool false, .ref (BX k1 k2 h l1 l2).objs.size, .ref (AU k1 k2 h l1 l2).objs.size] }
def Rl (l1 l2:ai) (xs ys:Array aj) :
  PySem.Meets (cu.«zip.__new__» ⟨[.type "zip", .ref l1, .ref l2],[]⟩) (λ_ R s=>ni k1 s.heap l1 xs∧ni k2 s.heap l2 ys∧R (.ok (.ret (.ref (Bo k1 k2 s.heap l1 l2).objs.size))) { s with heap:=ww k1 k2 s.heap l1 l2 }):=
 .of_wp λprog w A R s h=>by
  obtain⟨hp,g,d,tk,os⟩:=s;obtain⟨hl1,hl2,h⟩:=h;have hsub:=sub_zip;have f1:∀{A:bt}{E:aj→am→Prop}{Q:aj→am→Prop},Q (.ref hp.objs.size) ⟨hp.push (qO k1 l1),g,d,tk,os⟩→av (aB prog w) A (dy (.ref l1)) Q E ⟨hp,g,d,tk,os⟩:=λq=>CV (s:=⟨hp,g,d,tk,os⟩) hl1 q;have f2:∀{A:bt}{E:aj→am→Prop}{Q:aj→am→Prop},Q (.ref (hp.push (qO k1 l1)).objs.size) ⟨(hp.push (qO k1 l1)).push (qO k2 l2),g,d,tk,os⟩→av (aB prog w) A (dy (.ref l2)) Q E ⟨hp.push (qO k1 l1),g,d,tk,os⟩:=λq=>CV (s:=⟨hp.push (qO k1 l1),g,d,tk,os⟩) (hl2.push _) q
  wp_walk using f1,f2
  exact⟨_,rfl,h⟩
section
variable {prog:bi}{w:aR}{A:bt}{E:aj→am→Prop}{s:am}
def QM{Q:aj→am→Prop}(hl1:ni k1 s.heap l1 xs) (hl2:ni k2 s.heap l2 ys)
  (h:∀g,cw g (s.heap.objs.size+4) (s.heap.objs.size+2) (s.heap.objs.size+3) .none→b6 g (s.heap.objs.size+2) (.ref s.heap.objs.size) (.ref (s.heap.objs.size+1))→
   b6 g (s.heap.objs.size+3) .none .none→nu k1 g s.heap.objs.size l1 0→nu k2 g (s.heap.objs.size+1) l2 0→g.objs.size=s.heap.objs.size+5→
   (∀c o,s.heap.get? c=aa o→g.get? c=aa o)→Q (.ref (s.heap.objs.size+4)) { s with heap:=g }):av (aB prog w) A (call (.type "zip") [.ref l1, .ref l2]) Q E s:=by
 refine callType_new PySem.F.called_zip (by decide) (PySem.F.typeCall_zip_2 _ _) (PySem.F.newCall_zip_2 _ _) (λobj=>PySem.F.args_object_init_3 obj _ _) PySem.F.entry_zip_new (Rl (k1:=k1) (k2:=k2) l1 l2 xs ys) ⟨hl1,hl2,?_⟩;have z1:(CD k1 s.heap l1).objs.size=s.heap.objs.size+1:=c9 ..;have z2:(BX k1 k2 s.heap l1 l2).objs.size=s.heap.objs.size+2:=by rw[c9,z1]
 have z3:(AU k1 k2 s.heap l1 l2).objs.size=s.heap.objs.size+3:=by rw[c9,z2]
 have z4:(Bo k1 k2 s.heap l1 l2).objs.size=s.heap.objs.size+4:=by rw[c9,z3]
 have z5:(ww k1 k2 s.heap l1 l2).objs.size=s.heap.objs.size+5:=by rw[c9,z4]
 have g5:(ww k1 k2 s.heap l1 l2).get? (Bo k1 k2 s.heap l1 l2).objs.size=aa _:=bI _ rfl;have g4:(ww k1 k2 s.heap l1 l2).get? (AU k1 k2 s.heap l1 l2).objs.size=aa _:=aO _ (bI _ rfl);have g3:(ww k1 k2 s.heap l1 l2).get? (BX k1 k2 s.heap l1 l2).objs.size=aa _:=aO _ (aO _ (bI _ rfl));have g2:(ww k1 k2 s.heap l1 l2).get? (CD k1 s.heap l1).objs.size=aa _:=aO _ (aO _ (aO _ (bI _ EJ)));have g1:(ww k1 k2 s.heap l1 l2).get? s.heap.objs.size=aa _:=aO _ (aO _ (aO _ (aO _ (bI _ EJ))));show _∧_;rw[z2,z3,z4]at g5;rw[z1,z2]at g3;rw[z3]at g4;rw[z1]at g2;rw[z4];exact⟨⟨_,g5,rfl⟩,h _ g5 g3 g4 (D6 g1) (D6 g2) z5 λc o x=>aO _ (aO _ (aO _ (aO _ (aO _ x))))⟩
end
def qY (k:Bool) (K:ao) (H:Hp) (a:ai) (xs:List V):Prop:=if k=true then oF K H a xs else H a=aa (.bW xs)
def qY.sq{k:Bool}{K:ao}{H:Hp}{a:ai}{xs:List V}(h:qY k K H a xs):tE k K H a xs:=by
 cases k with
 |true=>exact h
 |false=>exact .of h
def ni.ob (x:ni k h a eH):∃o n,h.get? a=aa o∧o.data= .seq eH n∧(k=true→o.cls= .type "list"):=by
 cases k with
 |true=>obtain⟨o,ho,hc,n,hd⟩:=(show h.IsList a eH from x);exact⟨o,n,ho,hd,λ_=>hc⟩
 |false=>obtain⟨o,ho,hc,n,hd⟩:=(show h.IsTuple a eH from x);exact⟨o,n,ho,hd,λz=>by cases z⟩
def ni.ne_fields (x:ni k h a eH) (e:h.get? b=aa o) (d:o.data= .fields vs):a≠b:=λz=>by
 subst z;obtain⟨o',n,ho,hd,_⟩:=x.ob;rw[ho]at e;cases e;rw[hd]at d;cases d
def CW (k1 k2:Bool) (K:ao) (a b:ai):It:=
  ⟨λi H=>∃xs ys x y,qY k1 K H a xs∧qY k2 K H b ys∧xs[i]? =aa x∧ys[i]? =aa y,
   λi H v H'=>∃p x y,H p=none∧v= .ref p∧H'=nG H p (.bW [x,y])∧(∀xs,qY k1 K H a xs→xs[i]? =aa x)∧ ∀ys,qY k2 K H b ys→ys[i]? =aa y,
   λi H=>∃xs ys,qY k1 K H a xs∧qY k2 K H b ys∧(xs.length≤i∨ys.length≤i)⟩
structure rz (z TI TO i1 i2:ai):Prop where
  TIz:TI≠z
  TOz:TO≠z
  i1z:i1≠z
  i2z:i2≠z
  TITO:TI≠TO
  TIi1:TI≠i1
  TIi2:TI≠i2
  TOi1:TO≠i1
  TOi2:TO≠i2
  i12:i1≠i2
def Os (k1 k2:Bool) (z TI TO i1 i2 a b:ai) (i:Nat) (h:aE):Prop:=cw h z TI TO .none∧b6 h TI (.ref i1) (.ref i2)∧(∃u v,b6 h TO u v)∧nu k1 h i1 a i∧nu k2 h i2 b i
def L0{z TI TO i1 i2 a b:ai}(I:my X ag σ H s) (hTO:H TO=none) (D:rz z TI TO i1 i2) (st:Os k1 k2 z TI TO i1 i2 a b i s.heap) (ha:qY k1 X.K H a xs) (hb:qY k2 X.K H b ys):ir z TI TO i1 i2 a b:=by
 obtain⟨hz,hTI,⟨u,v,hTOo⟩,h1,h2⟩:=st;obtain⟨o1,v1,e1,d1⟩:=h1.ob;obtain⟨o2,v2,e2,d2⟩:=h2.ob;obtain⟨eH,_,pa,_⟩:=I.seq ha.sq;obtain⟨its2,_,pb,_⟩:=I.seq hb.sq;have nTO:∀{k:Bool}{c:ai}{zs:List V}{eH:Array aj},qY k X.K H c zs→ni k s.heap c eH→c≠TO:=λ{k c zs eH} hc pc e=>by
  subst e;cases k with
  |false=>rw[show H c=aa (.bW zs) from hc]at hTO;cases hTO
  |true=>
   obtain⟨o,n,ho,_,hcl⟩:=pc.ob;rw[hTOo]at ho;cases ho;have:=hcl rfl;simp at this
 exact⟨D.TIz,D.TOz,D.i1z,D.i2z,D.TITO,D.TIi1,D.TIi2,D.TOi1,D.TOi2,D.i12,pa.ne_fields hz rfl,nTO ha pa,pa.ne_fields e1 d1,pa.ne_fields e2 d2,pb.ne_fields hz rfl,nTO hb pb,pb.ne_fields e1 d1,pb.ne_fields e2 d2⟩
def Zv{P:bi}{w:aR}{K:ao}{es:List Expr}{x1:Nat}{pos:bw}(k1 k2:Bool) (a b z TI TO i1 i2:ai) (D:rz z TI TO i1 i2):rm P w K (.Tuple es x1 pos) (CW k1 k2 K a b) [z,TI,TO,i1,i2] z (Os k1 k2 z TI TO i1 i2 a b) where
  mem:=by simp
  obj:=λi h ⟨hz,hTI,⟨u,v,hTO⟩,h1,h2⟩ c hc=>by
    obtain⟨o1,v1,e1,d1⟩:=h1.ob;obtain⟨o2,v2,e2,d2⟩:=h2.ob;simp only[az,bp,or_false]at hc;obtain rfl |rfl |rfl |rfl |rfl:=hc
    · exact⟨_,hz,λv z=>by cases z⟩
    · exact⟨_,hTI,λv z=>by cases z⟩
    · exact⟨_,hTO,λv z=>by cases z⟩
    · exact⟨_,e1,λv z=>by rw[d1]at z;cases z⟩
    · exact⟨_,e2,λv z=>by rw[d2]at z;cases z⟩
  keep:=λi h h' ⟨hz,hTI,⟨u,v,hTO⟩,h1,h2⟩ kk=>⟨kk z (by simp) _ hz,kk TI (by simp) _ hTI,⟨u,v,kk TO (by simp) _ hTO⟩,h1.at λo q=>kk i1 (by simp) o q,h2.at λo q=>kk i2 (by simp) o q⟩
  item:=by
    intro X hP hw hK hc i ag s σ H E I hf st hg;subst hP hw hK;obtain⟨xs,ys,x,y,ha,hb,hx,hy⟩:=hg;have Z:=L0 I (hf TO (by simp)).1 D st ha hb;obtain⟨hz,hTI,⟨c0,d0,hTO⟩,h1,h2⟩:=st;obtain⟨eH,rv,pa,_⟩:=I.seq ha.sq;obtain⟨its2,rv2,pb,_⟩:=I.seq hb.sq;obtain⟨u,hu,ru⟩:=rv.get hx;obtain⟨u2,hu2,ru2⟩:=rv2.get hy;refine Vx Z hz hTI hTO h1 h2 pa pb (x:=u) (y:=u2) (by simpa using hu) (by simpa using hu2) λg hz1 hTO1 h11 h21 hp hz' kk=>⟨_,rfl,?_⟩;refine wpAny_letOwnedTupleGo_zip hz1 λg2 hz2 hs2=>?_;have hs2':∀c o,c≠z→g.get? c=aa o→g2.get? c=aa o:=λc o hc e=>(hs2.2 c hc).trans e;have kk2:∀c o,c∉ [z,TI,TO,i1,i2]→s.heap.get? c=aa o→g2.get? c=aa o:=λc o hc q=>by
      simp only[az,bp,or_false,not_or]at hc;exact hs2' c o hc.1 (kk c o hc.1 hc.2.2.1 hc.2.2.2.1 hc.2.2.2.2 q)
    have hn:=I.cG.fresh (aA s.heap.objs.size);have hpz:s.heap.objs.size≠z:=da (aQ hz);have ht2:g2.get? s.heap.objs.size=aa { cls:= .type "tuple",data:= .seq #[u,u2] }:=hs2' _ _ hpz hp;refine⟨.ref s.heap.objs.size,nG H s.heap.objs.size (.bW [x,y]),I.turnNew (fp:=[z,TI,TO,i1,i2]) (t':=s.toks) (aA _) kk2 hf ⟨by show 2≤sizeLine;rw[ef];decide,[u,u2], .cons ru (.cons ru2 .nil),⟨_,ht2,rfl,_,rfl⟩⟩,rfl,
      ⟨_,x,y,hn,rfl,rfl,λzs hy=>by rw[I.seq_inj hy.sq ha.sq];exact hx,λzs hy'=>by rw[I.seq_inj hy'.sq hb.sq];exact hy⟩,
      ⟨hz2,hs2' _ _ D.TIz (kk _ _ D.TIz D.TITO D.TIi1 D.TIi2 hTI),⟨u,u2,hs2' _ _ D.TOz hTO1⟩,h11.at λo q=>hs2' _ o D.i1z q,h21.at λo q=>hs2' _ o D.i2z q⟩,λc hc=>?_⟩
    have hlt:∃o,s.heap.get? c=aa o:=by
      obtain⟨o1,v1,e1,d1⟩:=h1.ob;obtain⟨o2,v2,e2,d2⟩:=h2.ob;simp only[az,bp,or_false]at hc;obtain rfl |rfl |rfl |rfl |rfl:=hc
      · exact⟨_,hz⟩
      · exact⟨_,hTI⟩
      · exact⟨_,hTO⟩
      · exact⟨_,e1⟩
      · exact⟨_,e2⟩
    obtain⟨o,ho⟩:=hlt;rw[og (bS (aQ ho))];exact(hf c hc).1
  done:=by
    intro X hP hw hK hc i ag s σ H E I hf st hg;subst hP hw hK;obtain⟨xs,ys,ha,hb,hx⟩:=hg;have Z:=L0 I (hf TO (by simp)).1 D st ha hb;obtain⟨hz,hTI,⟨c0,d0,hTO⟩,h1,h2⟩:=st;obtain⟨eH,rv,pa,_⟩:=I.seq ha.sq;obtain⟨its2,rv2,pb,_⟩:=I.seq hb.sq;have hl:=rv.length;have hl2:=rv2.length;refine VO (I.ok.hd hc) Z hz hTI hTO h1 h2 pa pb ?_ λg eb=>⟨rfl,I.turnedL (fp:=[z,TI,TO,i1,i2]) (t':=s.toks) (λc o hc q=>?_) hf⟩
    · obtain hx |hx:=hx
      · exact .inl (by simp;lia)
      · exact .inr (by simp;lia)
    · simp only[az,bp,or_false,not_or]at hc;exact eb c o hc.1 hc.2.2.1 hc.2.2.2.1 hc.2.2.2.2 q
  self:=λA i s Q E st h=>jY st.1 h
def QN (K:ao) (ta:TA):TI:=λσ H R=>ta σ H λvs H1=>∃k1 k2 a b xs ys,vs=[.ref a, .ref b]∧qY k1 K H1 a xs∧qY k2 K H1 b ys∧R (CW k1 k2 K a b) H1
def UD (hg:Gl X "zip") (hm:X.mg "zip" =none) (ha:PA X [a,b] ta) (hs:ax [a,b] X.env=[(false,aH a X.env),(false,aH b X.env)]:=by rfl) (hs2:ax [b] X.env=[(false,aH b X.env)]:=by rfl):PI X (.Tuple es x1 tpos) (.Call (.Name "zip" p) [a,b] [] pos) (QN X.K ta):=by
 intro ag s σ H R I h;refine Call_ (xb I hg hm boot_zip (gn (nE (ha pos ag s σ H _ I h) λus s1 ⟨vs,H1,I1,r1,q1⟩=>?_) (by rw[hs,hs2]) (by rw[hs2];rfl)));obtain⟨k1,k2,a,b,xs,ys,e,hq1,hq2,q⟩:=q1;subst e;cases r1 with
 |cons r rr=>
  cases rr with
  |cons r' rr=>
   cases rr;cases(show _=bM a from r);cases(show _=bM b from r');obtain⟨eH,rv,pl,_⟩:=I1.seq hq1.sq;obtain⟨its2,rv2,pl2,_⟩:=I1.seq hq2.sq;refine QM pl pl2 λg hz hTI hTO h1 h2 hz' kk=>jY hz ?_;have I2:my X ag σ H1 { s1 with heap:=g }:=I1.kept (t':=s1.toks) kk;have ne:∀(n i j:Nat),i≠j→n+i≠n+j:=λn i j h e=>h (Nat.add_left_cancel e);have D:rz (s1.heap.objs.size+4) (s1.heap.objs.size+2) (s1.heap.objs.size+3) s1.heap.objs.size (s1.heap.objs.size+1):=
    ⟨ne _ 2 4 (by decide),ne _ 3 4 (by decide),ne _ 0 4 (by decide),ne _ 1 4 (by decide),ne _ 2 3 (by decide),ne _ 2 0 (by decide),ne _ 2 1 (by decide),ne _ 3 0 (by decide),ne _ 3 1 (by decide),ne _ 0 1 (by decide)⟩
   refine⟨_,_,_,_,H1,rfl,I2,Zv k1 k2 a b _ _ _ _ _ D,⟨hz,hTI,⟨_,_,hTO⟩,h1,h2⟩,λc hc=>?_,q⟩;have hb':s1.heap.objs.size≤c:=by
    simp only[az,bp,or_false]at hc;obtain rfl |rfl |rfl |rfl |rfl:=hc
    ·exact gu _ _
    ·exact gu _ _
    ·exact gu _ _
    ·exact aA _
    ·exact gu _ _
   exact I1.fpOk hb' (I1.cG.fresh hb')
def m3:List W→List W→List W
 |x::xs,y::ys=> .bW [x,y]::m3 xs ys
 |_,_=>[]
theorem M4:∀{xs ys:List W}{i:Nat}{u:W},(m3 xs ys)[i]? =aa u→ ∃x y,xs[i]? =aa x∧ys[i]? =aa y∧u= .bW [x,y]
 | [],_,_,_,h=>by simp [m3]at h
 |_::_,[],_,_,h=>by simp [m3]at h
 |x::xs,y::ys,0,u,h=>by
  simp [m3]at h;exact⟨x,y,rfl,rfl,h.symm⟩
 |x::xs,y::ys,i+1,u,h=>by simpa using M4 (xs:=xs) (ys:=ys) (i:=i) (u:=u) (by simpa [m3]using h)
theorem NV:∀{xs ys:List W},(m3 xs ys).length=min xs.length ys.length
 | [],_=>by simp [m3]
 |_::_,[]=>by simp [m3]
 |x::xs,y::ys=>by simp [m3,NV (xs:=xs) (ys:=ys)]
def Xq{K:ao}{k1 k2:Bool}{a b:ai}{ws us:List W}{G:lr→Prop}{H0:Hp}{S0:lr}(h:∀S H,nH H0 S0 H S→mD K H S→G S→(∃vs,qY k1 K H a vs∧mC K H ws vs)∧ ∃vs,qY k2 K H b vs∧mC K H us vs):vN K (CW k1 k2 K a b) (m3 ws us) G H0 S0:=λi S H e hS hG=>by
 obtain⟨⟨xs,hq,r⟩,⟨ys,hq2,r2⟩⟩:=h S H e hS hG;refine⟨λu eu=>?_,λhl=>⟨xs,ys,hq,hq2,?_⟩⟩
 ·obtain⟨x,y,ex,ey,rfl⟩:=M4 eu;obtain⟨v,ev,rv⟩:=r.get ex;obtain⟨v2,ev2,rv2⟩:=r2.get ey;refine⟨⟨xs,ys,v,v2,hq,hq2,ev,ev2⟩,λx H' ⟨p,y1,y2,hp,e1,e2,e3,e4⟩=>?_⟩;subst e1 e2;have f1:=e3 xs hq;have f2:=e4 ys hq2;rw[ev]at f1;cases f1;rw[ev2]at f2;cases f2;exact⟨.new hp,hS.new hp, .bW pD (.cons (rv.ext (.new (S:=S) hp)) (.cons (rv2.ext (.new (S:=S) hp)) .nil))⟩
 ·rw[NV]at hl;rw[←r.length,←r2.length];lia
def GM{K:ao}{H:Hp}{S:lr}{w:W}{v:V}{Q:List W→(lr→Prop)→Prop}(r:nK K H w v) (hS:mD K H S) (h:uv w S Q) :
  ∃k a ws G,v= .ref a∧G S∧(∀S' H',nH H S H' S'→mD K H' S'→G S'→ ∃vs,qY k K H' a vs∧mC K H' ws vs)∧Q ws G:=by
 cases r with
 |bW f hs=>exact⟨false,_,_,_,rfl,trivial,λS' H' e hS' _=>⟨_,e.bW _ _ f,hs.ext e⟩,h⟩
 |ref a=>
  obtain⟨ws,ea,h⟩:=ql h;exact⟨true,_,ws,_,rfl,ea,λS' H' e hS' g=>by
   obtain⟨vs,f,hs⟩:=hS' a _ g;exact⟨vs, .of f,hs⟩,h⟩
 |c7 f=>exact⟨true,_,_,_,rfl,trivial,λS' H' e hS' _=>⟨_,(e.fz f).sq,mC.ofInts _⟩,h⟩
 |_=>exact h.elim
def tf (t u:WE) (E:WX) (σ:mU) (S:lr) (Q:List W→(lr→Prop)→lr→Prop):Prop:=t E σ S λx S1=>u E σ S1 λy S2=>uv x S2 λxs G=>uv y S2 λys G'=>Q (m3 xs ys) (λS'=>G S'∧G' S') S2
def R9{a b:Expr}{ta tb:WE}{p pos:bw}(hg:Gl X "zip") (hm:X.mg "zip" =none) (ha:JE X a ta) (hb:JE X b tb) (hs:ax [a,b] X.env=[(false,aH a X.env),(false,aH b X.env)]:=by rfl) (hs2:ax [b] X.env=[(false,aH b X.env)]:=by rfl)
  (h3:ax [a,b] X.env=(false,aH a X.env)::ax [b] X.env:=by rfl) (h4:ax [b] X.env=(false,aH b X.env)::ax [] X.env:=by rfl):JI X (.Tuple es x1 tpos) (.Call (.Name "zip" p) [a,b] [] pos) (tf ta tb):=λE hE=>
 (UD hg hm (tR (ha E hE) (tR (hb E hE) oQ h4) h3) hs hs2).mono λσ H R ⟨σW,S,QW,hσ,hS,ht,hR⟩=>⟨σW,S,_,hσ,hS,ht,λx S1 v H1 e1 r1 iU h1=>⟨σW,S1,_,hσ.ext e1,iU,h1,λy S2 v2 H2 e2 r2 hS2 h2=>by
  obtain⟨k1,a,ws,G,rfl,hG,hq,h⟩:=GM (r1.ext e2) hS2 h2;obtain⟨k2,b,us,G',rfl,hG',hq',h⟩:=GM r2 hS2 h;obtain⟨vs,hv,_⟩:=hq S2 H2 .refl hS2 hG;obtain⟨vs',hv',_⟩:=hq' S2 H2 .refl hS2 hG';exact⟨k1,k2,a,b,vs,vs',rfl,hv,hv',hR _ _ S2 _ H2 (e1.trans e2) hS2 ⟨hG,hG'⟩ (Xq λS' H' e hS' g=>⟨hq S' H' e hS' g.1,hq' S' H' e hS' g.2⟩) h⟩⟩⟩
def YY (hi:Int) (n:Nat):List W:=(bx n).map λ(i:Nat)=> .int (hi - (i:Int))
def Z1 (t:WA):WI:=λE σ S Q=>t E σ S λws S1=>match ws with
 | [.int i, .int j, .int c]=>c= -1∧(-(2 ^ 62)≤i∧i<2 ^ 62∧ -(2 ^ 62)≤j∧j<2 ^ 62)∧Q (YY i (i - j).toNat) (λ_=>True) S1
 |_=>False
def O7 (ho:n_ X (bB op) r) (hw:rh X.K r wr) (ho':n_ X (bB op') r') (hw':rh X.K r' wr') (ha:JE X a ta) (hb:JE X b tb) (hc:JE X c tc)
  (hm:g_ [op,op'] [b,c]=false:=by with_unfolding_all rfl):JE X (.Compare a [op,op'] [b,c] pos) (vP wr wr' ta tb tc):=λE hE=>
 (Wm ho ho' (ha E hE) (hb E hE) (hc E hE) hm).mono λσ H Q ⟨σW,S,QW,hσ,hS,ht,hQ⟩=>by
  refine⟨σW,S,_,hσ,hS,ht,λx S1 v1 H1 e1 r1 iU h1=>⟨σW,S1,_,hσ.ext e1,iU,h1,λy S2 v2 H2 e2 r2 hS2 h2=>?_⟩⟩;refine hw H2 v1 v2 x y S2 _ _ (r1.ext e2) r2 hS2 h2 λz S3 v3 H3 e3 r3 hS3 h3=>?_;cases r3 with
  |bl k=>
   refine⟨k,rfl,?_⟩;cases k with
   |true=>
    refine⟨σW,S3,_,((hσ.ext e1).ext e2).ext e3,hS3,h3,λu S4 v4 H4 e4 r4 hS4 h4=>?_⟩;exact hw' H4 v2 v4 y u S4 Q QW ((r2.ext e3).ext e4) r4 hS4 h4 (hQ.from (((e1.trans e2).trans e3).trans e4))
   |false=>exact hQ _ S3 _ H3 ((e1.trans e2).trans e3) (.bl false) hS3 h3
  |_=>exact h3.elim
def YH (ha:JE X a ta) (hb:JE X b tb) (hc:JE X c tc) (hm:g_ [.LtE, .LtE] [b,c]=false:=by with_unfolding_all rfl):JE X (.Compare a [.LtE, .LtE] [b,c] pos) (vP sD sD ta tb tc):=O7 (sT.or Ff) EA (sT.or Ff) EA ha hb hc hm
def xi:WF:=λws S Q=>match ws with
 | [.int i]=>Q (.int i) S
 | [.bl b]=>Q (.int (if b then 1 else 0)) S
 |_=>False
def Yc{K:ao}:vQ K (λxs H Q=>(∃i,xs=[.int i]∧Q (.int i) H)∨ ∃k,xs=[.bl k]∧Q (.int (if k then 1 else 0)) H) xi:=λH vs ws S Q QW r hS h hQ=>by
 cases r with
 |nil=>exact h.elim
 |cons r1 r2=>
  cases r2 with
  |cons _ _=>cases r1<;>exact h.elim
  |nil=>
   cases r1 with
   |int i=>exact .inl ⟨i,rfl,hQ _ S _ H .refl (.int _) hS h⟩
   |bl b=>exact .inr ⟨b,rfl,hQ _ S _ H .refl (.int _) hS h⟩
   |_=>exact h.elim
def Uh (hg:Gl X "int") (hm:X.mg "int" =none) (ha:JA X (e::es) t)
  (he:ax (e::es) X.env=(false,aH e X.env)::ax es X.env:=by rfl) (hpl:(aZ pos (ax es X.env)).any (·.1)=false:=by rfl):JE X (.Call (.Name "int" p) (e::es) [] pos) (wB xi t):=
 KH Rm Yc hg hm PyProof.Rows.boot_int ha (by decide) (by decide) he hpl
def QX:WF:=λws S Q=>match ws with
 | [.int i, .int j]=>Q (.int (if j > i then j else i)) S
 |_=>False
def ui:WF:=λws S Q=>match ws with
 | [.int i, .int j]=>Q (.int (if j<i then j else i)) S
 |_=>False
def XM{K:ao}:vQ K (λxs H Q=>∃i j,xs=[.int i, .int j]∧Q (.int (if j<i then j else i)) H) ui:=λH vs ws S Q QW r hS h hQ=>by
 unfold ui at h;split at h
 ·cases r with
  |cons r1 r2=>cases r2 with
   |cons r2 r3=>cases r3;cases r1;cases r2;exact⟨_,_,rfl,hQ _ S _ H .refl (.int _) hS h⟩
 ·exact h.elim
def TC{id:String}{r:List V→Hp→VK→Prop}{f:WF}{x:ah}(hc:X.calm=true→nL X (.builtin id) r) (hw:vQ X.K r f) (hg:Gl X x) (hm:X.mg x=none) (hv:cD x=aa (.builtin id)) (ha:JA X (e::es) t) (hn:x≠ "__name__" :=by decide) (hdb:(x == ("__debug__" :ah))=false:=by decide)
  (he:ax (e::es) X.env=(false,aH e X.env)::ax es X.env:=by rfl) (hpl:(aZ pos (ax es X.env)).any (·.1)=false:=by rfl) (hcl:X.calm=true:=by rfl):JE X (.Call (.Name x p) (e::es) [] pos) (wB f t):=λE hE=>K5 (hc hcl) hw hg hm hv ha hn hdb he hpl E hE
def VQ (hg:Gl X "min") (hm:X.mg "min" =none) (ha:JA X (e::es) t)
  (he:ax (e::es) X.env=(false,aH e X.env)::ax es X.env:=by rfl) (hpl:(aZ pos (ax es X.env)).any (·.1)=false:=by rfl) (hcl:X.calm=true:=by rfl):JE X (.Call (.Name "min" p) (e::es) [] pos) (wB ui t):=TC UE XM hg hm PyProof.Rows.boot_min ha (by decide) (by decide) he hpl hcl
def Tv (hg:Gl X "all") (hm:X.mg "all" =none) (ha:JL X e tl)
  (he:ax [e] X.env=(false,aH e X.env)::ax [] X.env:=by rfl) (hpl:(aZ pos (ax [] X.env)).any (·.1)=false:=by rfl) (hcl:X.calm=true:=by rfl):JE X (.Call (.Name "all" p) [e] [] pos) (qK tG tl):=λE hE=>G_ (O5 hcl) VN hg hm PyProof.Rows.boot_all ha (by decide) (by decide) he hpl E hE
def OZ (hg:Gl X "tuple") (hm:X.mg "tuple" =none) (ha:JL X e tl)
  (he:ax [e] X.env=(false,aH e X.env)::ax [] X.env:=by rfl) (hpl:(aZ pos (ax [] X.env)).any (·.1)=false:=by rfl):JE X (.Call (.Name "tuple" p) [e] [] pos) (qK vT tl):=Kx NI Vv hg hm kc ha (by decide) (by decide) he hpl
def Yj (hg:Gl X "tuple") (hm:X.mg "tuple" =none) (ha:JA X (e::es) t)
  (he:ax (e::es) X.env=(false,aH e X.env)::ax es X.env:=by rfl) (hpl:(aZ pos (ax es X.env)).any (·.1)=false:=by rfl):JE X (.Call (.Name "tuple" p) (e::es) [] pos) (wB rF t):=KH NI Xx hg hm kc ha (by decide) (by decide) he hpl
def y9{K:ao}:∀T∈ ["int", "bool", "str", "tuple", "list"],∀A∈ ["NoneType", "bool", "int", "str", "tuple", "list"],ge K (.type A) (.type T)=aa (pf A T):=by
 intro T hT A hA;simp only[az,bp,or_false]at hT hA;rcases hT with rfl |rfl |rfl |rfl |rfl<;>rcases hA with rfl |rfl |rfl |rfl |rfl |rfl<;>rfl
def mH:mI:=λ_ _ _ _=>False
def Le{P:bi}{w:aR}{K:ao}{mg:ah→Option aj}{base:aE}{f:ai}{fd:dq}{ps:List ah}{k:Nat}:oO P w K mg base (rV P w) k f fd ps (r9 K mH):=
 ⟨λvs H Q E ⟨_,_,_,_,_,_,h,_⟩=>h.elim,λA outer s H args us vs Q E _ _ _ _ ⟨_,_,_,_,_,_,h,_⟩=>h.elim⟩
def uw (t:WL) (u:WE) (E:WX) (σ:mU) (S:lr) (Q:WK):Prop:=t E σ S λws S1=>u E σ S1 λy S2=>match y with
 | .int i=>match nC ws i with
  |some w=>Q w S2
  |none=>False
 |_=>False
def PU (ha:JL X a la) (hb:JE X b tb) (hs:Cc b:=by intro _ _;rfl):JE X (.Subscript a b pos) (uw la tb):=λE hE=>
 (Ol Oe (ha E hE) (hb E hE) hs).mono λσ H Q ⟨σW,S,QW,hσ,hS,ht,hQ⟩=>⟨σW,S,_,hσ,hS,ht,λws S1 vs p H1 e1 fp ep np r1 iU h1=>⟨σW,S1,_,hσ.ext e1,iU,h1,λy S2 v2 H2 e2 r2 hS2 h2=>by
  cases r2 with
  |int i=>
   dsimp only at h2;split at h2
   ·obtain⟨v,ev,r⟩:=Fp (r1.ext e2) ‹_›;exact .inl ⟨p,vs,i,v,rfl,rfl, .of (e2.fr p _ ep np).1,ev,hQ _ S2 _ H2 (e1.trans e2) r hS2 h2⟩
   ·exact h2.elim
  |_=>exact h2.elim⟩⟩
def rR (t:WE) (u:WL) (E:WX) (σ:mU) (S:lr) (Q:List W→lr→Prop):Prop:=t E σ S λx S1=>u E σ S1 λys S2=>match x with
 | .ref a=>n9 S2 a λxs=>xs.length+ys.length≤sizeLine∧Q (xs++ys) S2
 |_=>False
def uG (t u:WL) (E:WX) (σ:mU) (S:lr) (Q:List W→lr→Prop):Prop:=t E σ S λxs S1=>u E σ S1 λys S2=>xs.length+ys.length≤sizeLine∧Q (xs++ys) S2
def xr (t:WL) (u:WE) (E:WX) (σ:mU) (S:lr) (Q:List W→lr→Prop):Prop:=t E σ S λxs S1=>u E σ S1 λy S2=>match y with
 | .ref a=>n9 S2 a λys=>xs.length+ys.length≤sizeLine∧Q (xs++ys) S2
 |_=>False
def Wn (ha:JE X a ta) (hb:JL X b lb):JL X (.BinOp a .Add b pos) (rR ta lb):=λE hE=>
 (yS BD (ha E hE) (hb E hE)).mono λσ H Q ⟨σW,S,QW,hσ,hS,ht,hQ⟩=>⟨σW,S,_,hσ,hS,ht,λw1 S1 v1 H1 e1 r1 iU h1=>⟨σW,S1,_,hσ.ext e1,iU,h1,λys S2 us q H2 e2 fq eq nq r2 hS2 h2=>by
  cases r1 with
  |ref p=>
   obtain⟨xs,ea,h⟩:=ql h2;obtain⟨vs,f1,q1⟩:=hS2 p _ ea;exact⟨p,q,vs,us,rfl,rfl,f1,eq,by rw[←q1.length,←r2.length];exact h.1,λp hp=>hQ _ S2 _ p _ ((e1.trans e2).trans (.new hp)) ((e1.trans e2).free hp) pD (hS2.free hp) ((q1.append r2).ext (.new (S:=S2) hp)) (hS2.new hp) h.2⟩
  |_=>exact h2.elim⟩⟩
def Ks (ha:JL X a la) (hb:JL X b lb):JL X (.BinOp a .Add b pos) (uG la lb):=λE hE=>
 (yS BD (ha E hE) (hb E hE)).mono λσ H Q ⟨σW,S,QW,hσ,hS,ht,hQ⟩=>⟨σW,S,_,hσ,hS,ht,λxs S1 vs p H1 e1 fp ep np r1 iU h1=>⟨σW,S1,_,hσ.ext e1,iU,h1,λys S2 us q H2 e2 fq eq nq r2 hS2 h2=>
  ⟨p,q,vs,us,rfl,rfl,(e2.fr p _ ep np).1,eq,by rw[←r1.length,←r2.length];exact h2.1,λz hz=>hQ _ S2 _ z _ ((e1.trans e2).trans (.new hz)) ((e1.trans e2).free hz) pD (hS2.free hz) (((r1.ext e2).append r2).ext (.new (S:=S2) hz)) (hS2.new hz) h2.2⟩⟩⟩
def ZX (ha:JL X a la) (hb:JE X b tb):JL X (.BinOp a .Add b pos) (xr la tb):=λE hE=>
 (yS BD (ha E hE) (hb E hE)).mono λσ H Q ⟨σW,S,QW,hσ,hS,ht,hQ⟩=>⟨σW,S,_,hσ,hS,ht,λxs S1 vs p H1 e1 fp ep np r1 iU h1=>⟨σW,S1,_,hσ.ext e1,iU,h1,λy S2 v2 H2 e2 r2 hS2 h2=>by
  cases r2 with
  |ref q=>
   obtain⟨ys,ea,h⟩:=ql h2;obtain⟨us,f2,q2⟩:=hS2 q _ ea;exact⟨p,q,vs,us,rfl,rfl,(e2.fr p _ ep np).1,f2,by rw[←r1.length,←q2.length];exact h.1,λz hz=>hQ _ S2 _ z _ ((e1.trans e2).trans (.new hz)) ((e1.trans e2).free hz) pD (hS2.free hz) (((r1.ext e2).append q2).ext (.new (S:=S2) hz)) (hS2.new hz) h.2⟩
  |_=>exact h2.elim⟩⟩
def xo (t:WL) (u:WE) (E:WX) (σ:mU) (S:lr) (Q:List W→lr→Prop):Prop:=t E σ S λxs S1=>u E σ S1 λy S2=>match y with
 | .int k=>(-(2 ^ 63)≤k∧k<2 ^ 63∧xs.length*k.toNat≤sizeLine)∧Q (bn k.toNat xs).flatten S2
 |_=>False
theorem mC.rep{K:ao}{H:Hp}{ws:List W}{vs:List V}(h:mC K H ws vs):∀k:Nat,mC K H (bn k ws).flatten (bn k vs).flatten
 |0=> .nil
 |k+1=>by
  rw[cR,cR,d5,d5];exact h.append (mC.rep h k)
def Q7 (ha:JL X a la) (hb:JE X b tb):JL X (.BinOp a .Mult b pos) (xo la tb):=λE hE=>
 (yS UU (ha E hE) (hb E hE)).mono λσ H Q ⟨σW,S,QW,hσ,hS,ht,hQ⟩=>⟨σW,S,_,hσ,hS,ht,λxs S1 vs p H1 e1 fp ep np r1 iU h1=>⟨σW,S1,_,hσ.ext e1,iU,h1,λy S2 v2 H2 e2 r2 hS2 h2=>by
  cases r2 with
  |int k=>
   obtain⟨⟨k1,k2,k3⟩,h⟩:=h2;exact⟨p,k,vs,rfl,rfl,(e2.fr p _ ep np).1,k1,k2,by rw[←r1.length];exact k3,λz hz=>hQ _ S2 _ z _ ((e1.trans e2).trans (.new hz)) ((e1.trans e2).free hz) pD (hS2.free hz) (((r1.ext e2).rep k.toNat).ext (.new (S:=S2) hz)) (hS2.new hz) h⟩
  |_=>exact h2.elim⟩⟩
def Qt{K:ao}{H:Hp}{a:ai}{ns:List Int}{c:mI}{E:XK}(hO:CN H) (hS:oF K H a (ns.map V.int)) (h:c [.c7 ns] (λ_=>none) (λw _=>w= .bl true) (λ_ _=>False)):r9 K c [.ref a] H (λv _=>v= .bl true) E:=by
 have fz:xu K H a (ns.map V.int):=by
  obtain (hS |⟨o,hS⟩) |hS:=hS
  ·obtain z |⟨o,xs,z⟩:=hO a
   ·rw[hS]at z;cases z
   ·rw[hS]at z;cases z
  ·exact .inl ⟨o,hS⟩
  ·exact .inr hS
 refine⟨[.c7 ns],λ_=>none,_,λ_ _=>False, .one (.c7 fz),(λa o e=>by cases e),h,λw S v H' e r hS' q=>?_,λ_ _ _ _ _ _ z=>z.elim⟩
 subst q;cases r;rfl
def U3:W2
 | .bW xs, .int k,S,Q=>(xs≠ []∧ -(2 ^ 63)≤k∧k<2 ^ 63∧xs.length*k.toNat≤sizeLine)∧Q (.bW (bn k.toNat xs).flatten) S
 |_,_,_,_=>False
def pK (gN:List (List Int×W)) (k:List Int):Option W:=(gN.find? λkv=>decide (kv.1=k)).map (·.2)
def vE (gN:List (List Int×W)) (k:List Int) (v:W):List (List Int×W):=
 if(gN.any λkv=>decide (kv.1=k))=true then gN.map (λkv=>if kv.1=k then(kv.1,v) else kv) else gN++[(k,v)]
def qD:List W→Option (List Int)
 | []=>aa []
 | .int i::ws=>(qD ws).map (i:: ·)
 |_=>none
def sM:W→Option (List Int)
 | .bW ws=>qD ws
 |_=>none
def uA (S:lr) (a:ai) (P:List (List Int×W)→Prop):Prop:=match S a with
 |some (.dct gN)=>P gN
 |_=>False
def Pp{P:List (List Int×W)→Prop}(h:uA S a P):∃gN,S a=aa (.dct gN)∧P gN:=by
 unfold uA at h;split at h
 ·exact⟨_, ‹_›,h⟩
 ·exact h.elim
def Ft{P:List (List Int×W)→Prop}(e:S a=aa (.dct gN)):uA S a P=P gN:=by unfold uA;rw[e]
section
variable {K:ao}{H:Hp}
abbrev py (K:ao) (H:Hp):List (List Int×W)→List (List Key×V)→Prop:=aN λq p=>p.1=q.1.map Sum.inl∧nK K H q.2 p.2
theorem BA:∀{a b:List Int},a.map (Sum.inl:Int→Key)=b.map Sum.inl→a=b
 | [],[],_=>rfl
 | [],_::_,h=>by simp at h
 |_::_,[],h=>by simp at h
 |x::xs,y::ys,h=>by
  simp only[aC,fQ,Sum.inl.injEq]at h;rw[h.1,BA h.2]
def py.val (r:py K H gN ps) (k:List Int):(∀w,pK gN k=aa w→ ∃v,rE ps (k.map Sum.inl)=aa v∧nK K H w v)∧(pK gN k=none→rE ps (k.map Sum.inl)=none):=by
 induction r with
 |nil=>exact⟨λw h=>by simp [pK]at h,λ_=>rfl⟩
 | @cons q p gN ps h t ih=>
  by_cases hk:q.1=k
  ·have e:p.1=k.map Sum.inl:=by rw[h.1,hk]
   rw[AT e];have ew:pK (q::gN) k=aa q.2:=by simp [pK,cb,hk]
   rw[ew];exact⟨λw z=>by cases z;exact⟨_,rfl,h.2⟩,λz=>by cases z⟩
  ·have e:¬p.1=k.map Sum.inl:=by rw[h.1];exact λz=>hk (BA z)
   rw[Bj e];have ew:pK (q::gN) k=pK gN k:=by simp [pK,cb,hk]
   rw[ew];exact ih
def py.any (r:py K H gN ps) (k:List Int):(ps.any λkv=>decide (kv.1=k.map Sum.inl))=gN.any λkv=>decide (kv.1=k):=by
 induction r with
 |nil=>rfl
 | @cons q p gN ps h t ih=>
  rw[fu,fu,ih];congr 1;apply decide_eq_decide.mpr;rw[h.1];exact⟨BA,λz=>by rw[z]⟩
def py.bR (r:py K H gN ps) (k:List Int) (rw':nK K H w v):py K H (vE gN k w) (sS ps (k.map Sum.inl) v):=by
 unfold vE sS;rw[r.any k];split
 ·rename_i hany;clear hany
  induction r with
  |nil=>exact .nil
  | @cons q p gN ps h t ih=>
   rw[aC,aC];refine .cons ?_ ih;by_cases hk:q.1=k
   ·rw[if_pos hk,if_pos (by rw[h.1,hk])];exact⟨h.1,rw'⟩
   ·rw[if_neg hk,if_neg (by rw[h.1];exact λz=>hk (BA z))];exact h
 ·rename_i hany;clear hany
  induction r with
  |nil=>exact .cons ⟨rfl,rw'⟩ .nil
  |cons h t ih=>exact .cons h ih
def py.length (r:py K H gN ps):gN.length=ps.length:=fW r
theorem Nj:∀{ws:List W}{vs:List V}{k:List Int},mC K H ws vs→qD ws=aa k→vs=(k.map (Sum.inl:Int→Key)).map kV
 | [],_,_, .nil,e=>by cases e;rfl
 |w::ws,_,k, .cons r rs,e=>by
  cases r with
  |int i=>
   cases q:qD ws with
   |none=>simp [qD,q]at e
   |some ks=>
    simp only[qD,q,ig,bH]at e;subst e;rw[Nj rs q];rfl
  |_=>simp [qD]at e
def Nu (r:nK K H w v) (e:sM w=aa k):∃b,v= .ref b∧H b=aa (.bW ((k.map (Sum.inl:Int→Key)).map kV)):=by
 cases r with
 |bW f hs=>exact⟨_,rfl,by rw[f,Nj hs e]⟩
 |_=>simp [sM]at e
def TB (hS:mD K H S) (e:S a=aa (.dct gN)) (ry:nK K H wy y) (ek:sM wy=aa k):∃o,se H a y o∧(pK gN k=none→o=none)∧ ∀w,pK gN k=aa w→ ∃v,o=aa v∧nK K H w v:=by
 obtain⟨ps,e1,r⟩:=hS a _ e;obtain⟨b,rfl,eb⟩:=Nu ry ek;have rv:=py.val r k;exact⟨rE ps (k.map Sum.inl), .t e1 eb,rv.2,rv.1⟩
end
def w6 (neg:Bool):W2:=λy x S Q=>match x with
 | .ref a=>match sM y with
  |some k=>uA S a λgN=>Q (.bl (if neg then !(pK gN k).isSome else(pK gN k).isSome)) S
  |none=>False
 |_=>False
def ZU:W2:=λx y S Q=>match x with
 | .ref a=>match sM y with
  |some k=>uA S a λgN=>match pK gN k with
   |some w=>Q w S
   |none=>False
  |none=>False
 |_=>False
section
variable {X:Cx}{a o:Expr}
def Df (neg:Bool):R2:=λy x H Q=>∃a o,x= .ref a∧se H a y o∧Q (.bl (if neg then !o.isSome else o.isSome)) H
def SU (hu:X.A.units+1<cLine):n_ X (bB .In) (Df false):=by
 intro ag s σ H x y v u Q I rx ry h;obtain⟨a,o,rfl,g,q⟩:=h;cases ry;exact Wx hu I g rx λs3 I3=>⟨.bl o.isSome,H,I3,rfl,q⟩
def Y1 (hu:X.A.units+1<cLine):n_ X (bB .NotIn) (Df true):=by
 intro ag s σ H x y v u Q I rx ry h;obtain⟨a,o,rfl,g,q⟩:=h;cases ry;exact XH hu I g rx λs3 I3=>⟨.bl (!o.isSome),H,I3,rfl,q⟩
def GR{K:ao}{neg:Bool}:rh K (Df neg) (w6 neg):=λH x y wx wy S Q QW rx ry hS h hQ=>by
 unfold w6 at h;split at h
 ·split at h
  ·rename_i k ek;obtain⟨gN,ea,h⟩:=Pp h;cases ry;obtain⟨o,g,g0,g1⟩:=TB hS ea rx ek;have eo:o.isSome=(pK gN k).isSome:=by
    cases q:pK gN k with
    |none=>rw[g0 q];rfl
    |some w=>obtain⟨v,ev,_⟩:=g1 w q;rw[ev];rfl
   exact⟨_,o,rfl,g,by rw[eo];exact hQ _ S _ H .refl (.bl _) hS h⟩
  ·exact h.elim
 ·exact h.elim
end
def Nk:V→List V→Hp→VK→Prop:=λx vs H Q=>∃z:ah,x= .str z∧vs=[]∧z.length≤5592405∧Q (.str (eI z)) H
def Qj:sO X "str.upper" Nk:=by
 intro ag s σ H x vs v us Q I rx rv h;obtain⟨z,rfl,rfl,hz,q⟩:=h;obtain⟨t,rfl⟩:=rx;cases rv;exact SCL.upper hz λ_=>⟨.str (eI z),H,I.tok _,⟨_,rfl⟩,q⟩
def xU:rB:=λw ws S Q=>match w,ws with
 | .str z,[]=>z.length≤5592405∧Q (.str (eI z)) S
 |_,_=>False
def Sc{K:ao}:yR K Nk xU:=λH x w vs ws S Q QW r rs hS h hQ=>by
 cases r with
 |str z=>
  cases rs with
  |nil=>exact⟨z,rfl,rfl,h.1,hQ _ S _ H .refl (.str _) hS h.2⟩
  |cons _ _=>exact h.elim
 |_=>exact h.elim
def Zo (ho:JE X o to) (hbase:cJ o "upper" X.env (aH o X.env)=aH o X.env:=by rfl) (hline:(apos.endLine == cpos.line)=true:=by rfl):JE X (.Call (.Attribute o "upper" apos) [] [] cpos) (wM uR xU to ae):=
 Pf lC PySem.F.slot_str_upper PySem.F.type_str_upper GV Qj Sc ho hbase hline
theorem Ly:∀(ns:List Int) (n:Nat),n≤ns.length→gZ (λi=>ns.getD i 0) n=(ns.take n).sum
 |ns,0,_=>by simp [gZ]
 |ns,n+1,h=>by
  rw[gZ,Ly ns n (by lia),lP,List.sum_append];congr 1;rw[bv,aS (by lia)];simp
def Wv (hc:X.calm=true):nL X (.builtin "sum") (λxs H Q=>∃(p:ai) (ns:List Int),xs=[.ref p]∧oF X.K H p (ns.map V.int)∧Q (.int ns.sum) H):=by
 intro ag s σ H xs us Q I r h;obtain⟨p,ns,rfl,hq,q⟩:=h;obtain⟨u,rfl,rx⟩:=tY r;cases rx;obtain⟨eH,r',pl,hz⟩:=I.list hq;have hlen:ns.length=eH.length:=by have:=r'.length;rw[ay]at this;exact this
 have hp:p<s.heap.objs.size:=by obtain⟨o,n,e,_⟩:=pl;exact aQ e
 have hd:X.A.in1.handled=none:=I.ok.hd hc;have get:∀(i:Nat) (v:aj),eH.toArray[i]? =aa v→ ∃t,v= .int (ns.getD i 0) t:=λi v e=>by
  have e':eH[i]? =aa v:=by simpa using e
  have hi:i<ns.length:=by rw[hlen];exact(b8.mp e').1
  obtain⟨u,hu,ru⟩:=r'.get (i:=i) (x:= .int (ns.getD i 0)) (by rw[aV,aS hi,bv,aS hi];rfl);rw[e']at hu;cases hu;exact ru
 refine call_sum_walkG (eV pl.isList ?_);refine⟨s.heap.objs.size,_,_,_,_,_,λi=>ns.getD i 0,rfl,jr hd _ p (bS hp) eH.toArray,⟨⟨_,bI _ rfl,rfl,rfl⟩,pl.isList.push _⟩,?_,λi v hP=>get i v hP,λh' tk t' hk=>?_⟩
 ·intro b hb;have hsz:∀o:aG,(s.heap.push o).objs.size=s.heap.objs.size+1:=λo=>c9 ..;simp only[az,bp,or_false]at hb;show b<(s.heap.push _).objs.size;rw[hsz];obtain rfl |rfl:=hb
  ·exact Nat.lt_succ_self _
  ·exact Nat.lt_succ_of_lt hp
 ·have e:gZ (λi=>ns.getD i 0) eH.toArray.size=ns.sum:=by
   rw[bf,←hlen,Ly ns _ (aA _),iq]
  have I1:my X ag σ H { s with heap:=h',toks:=tk }:=I.kept λb o e=>hk b o (λz=>by
   have z':b=s.heap.objs.size:=by simpa using z
   rw[z']at e;exact absurd (aQ e) (cO _)) (aO _ e)
  exact⟨.int _,H,I1,⟨t',by rw[e]⟩,q⟩
def wg (ws:List W) (S:lr) (Q:WK):Prop:=match qD ws with
 |some ns=>Q (.int ns.sum) S
 |none=>False
theorem LV{K:ao}{H:Hp}:∀{ws:List W}{vs:List V}{ns:List Int},mC K H ws vs→qD ws=aa ns→vs=ns.map V.int
 | [],_,_, .nil,e=>by cases e;rfl
 |w::ws,_,ns, .cons r rs,e=>by
  cases r with
  |int i=>
   cases q:qD ws with
   |none=>simp [qD,q]at e
   |some ks=>
    simp only[qD,q,ig,bH]at e;subst e;rw[LV rs q];rfl
  |_=>simp [qD]at e
def R5{K:ao}:w9 K (λxs H Q=>∃(p:ai) (ns:List Int),xs=[.ref p]∧oF K H p (ns.map V.int)∧Q (.int ns.sum) H) wg:=λH a vs ws S Q QW ea na r hS h hQ=>by
 unfold wg at h;split at h
 ·rename_i ns e;have:=LV r e;subst this;exact⟨a,ns,rfl, .of ea,hQ _ S _ H .refl (.int _) hS h⟩
 ·exact h.elim
def TZ (hg:Gl X "sum") (hm:X.mg "sum" =none) (ha:JL X e tl)
  (he:ax [e] X.env=(false,aH e X.env)::ax [] X.env:=by rfl) (hpl:(aZ pos (ax [] X.env)).any (·.1)=false:=by rfl) (hcl:X.calm=true:=by rfl):JE X (.Call (.Name "sum" p) [e] [] pos) (qK wg tl):=λE hE=>
 G_ (Wv hcl) R5 hg hm PyProof.Rows.boot_sum ha (by decide) (by decide) he hpl E hE
def Po:jh (.type "list") "keys" =pure none:=by rw[typeLookup_type,builtinLookup_eq_fast];kernel_rfl
def Iv:entryFor table "dict.update.loop" =aa cu.«dict.update.loop» :=entryFor_of_tree (by kernel_rfl)
def AO:plainId "dict.update.loop" =true:=by decide +kernel
section
variable {prog:bi}{w:aR}{A:bt}{E:aj→am→Prop}{s:am}
def ZP{Q:Option aj→am→Prop}
  (hx : s.heap.get? a = aa o) (hc : o.cls = .type "list") (hdat : o.data = .seq xs k) (hd : o.dict = none) (hmiss : jh (.type "list") name = pure none) (hname : (["__module__", "__name__", "__qualname__", "__doc__", "__annotations__"] : List ah).contains name = false) (hA : A.handled = none)
  (h:∀h' tk,(∀b o,s.heap.get? b=aa o→h'.get? b=aa o)→Q none { s with heap:=h',toks:=tk }) (hsz:name.length+100≤sizeLine:=by size_fits) :
  av (aB prog w) A (getAttr? (.ref a) name) Q E s:=by
 obtain⟨c,dct,dat,sl⟩:=o;simp only at hc hdat hd;subst hc hdat hd;obtain⟨hp,g,d,tk,os⟩:=s;have hT:∀tk',(⟨hp,g,d,tk',os⟩:am).TypeIs (.ref a) "list" :=λ_=>⟨_,hx,rfl⟩;have f1:=sub_AttributeError;have f3:=iT.lookup;have f4:=iT.bind (.ref a);have f5:=am_list_getattr_none;unfold getAttr? getAttrBy? getAttrBy
 repeat (any_goals (first |assumption |exact hT _ | ((with_reducible show av _ _ (call (aj.builtin "list.__getattribute__") _ _) _ _ _);refine fy iT (hT _) am_entry_list_getattribute (F.args_list_getattribute_2 _ _) (meets_getattribute_miss_list a xs k sl name _ hmiss hname hsz) ⟨hx,hA,λh' tk' e hx'=>?_⟩) |wp_step))
 obtain⟨t',u',he⟩:=hx'.there;have hTe:∀tk',(⟨h',g,d,tk',os⟩:am).TypeIs (.ref e) "AttributeError" :=λ_=>⟨_,he,rfl⟩;show av _ _ (jW _ _ _ _ _ _ _) _ _ _;unfold jW
 repeat (any_goals (first |assumption |exact hTe _ |wp_step))
 exact h h' tk' hx'.keeps
end
section
variable {prog:bi}{w:aR}{A:bt}{R:Result→am→Prop}{I l d:ai}{items:Array aj}
def EV (xs:List (List Key×ai×aj)) (ps:List (List Key×ai)):List (List Key×ai×aj):=ps.foldl (λxs p=>fM xs p.1 p.2 (.bool true)) xs
def WC (hu:(cI (qF prog w)).room A.in1) (hh:A.in1.handled=none) (hne:l≠I) (hdI:d≠I) (hdl:d≠l) (h0:aE) (hd0:h0.get? d=none) (hI0:h0.get? I=none) (ps:List (List Key×ai)) (hps:ps.length=items.size)
  (hp:∀(i:Nat) (p:List Key×ai) (v:aj),ps[i]? =aa p→items[i]? =aa v→ ∃(t:ai) (o:aG) (n:Nat),v= .ref t∧h0.get? t=aa o∧o.cls= .type "tuple" ∧o.data= .seq #[.ref p.2, .bool true] n)
  (hk:∀p∈ps,(cI (qF prog w)).is h0 p.1 p.2) :
  ∀(k i:Nat) (s:am) (xs:List (List Key×ai×aj)),items.size - i=k→i≤items.size→s.heap.IsListIter I l i→s.heap.IsList l items→(∀b o,h0.get? b=aa o→s.heap.get? b=aa o)→s.heap.DictOfH (cI (qF prog w)) d xs→xs.length+(items.size - i)≤sizeLine→
  (∀h' tk,(∀b o,h0.get? b=aa o→h'.get? b=aa o)→h'.DictOfH (cI (qF prog w)) d (EV xs (ps.drop i))→R (.ok (.ret .none)) { s with heap:=h',toks:=tk })→
  dY (aB prog w) A (.builtin "dict.update.loop" ⟨[.ref d, .ref I,cQ i, .none],[]⟩) R s:=by
 have W:=jr (prog:=prog) (w:=w) (A:=A.in1) hh I l hne items;intro k
 induction k with
 |zero=>
  intro i s xs hki hi hit hl hold hd hsz hR;have hin:i=items.size:=by lia
  subst hin;refine lU Iv ?_;rw[ln AO _];show av _ A.in1 (cr (.ref I) >>= _) _ _ s;refine au (W.done s _ _ ⟨hit,hl⟩ λh' tk hk'=>?_);have hd':h'.DictOfH (cI (qF prog w)) d xs:=by
   obtain⟨q,es,ep,q1,q2,q3,q4,q5,q6⟩:=hd;refine⟨q,es,ep,hk' d q (λz=>hdI (bh.mp z)) q1,q2,q3,q4,λx hx=>?_,q6⟩;obtain⟨ob,eH,m,k1,k2,k3,k4⟩:=q5 x hx;refine⟨ob,eH,m,hk' _ _ (λz=>?_) k1,k2,k3,k4⟩;obtain⟨oi,hi1,hi2,_⟩:=hit;rw[bh.mp z,hi1]at k1;cases k1;rw[k2]at hi2;exact absurd hi2 (by decide)
  show av _ A.in1 (cu.Dict.addKeywords d [] >>= _) _ _ _;refine au (aM (aM (hR h' tk (λb o e=>hk' b o (λz=>by rw[bh.mp z,hI0]at e;cases e) (hold b o e)) ?_)))
  rw[gb (by lia)];exact hd'
 |succ k ih=>
  intro i s xs hki hi hit hl hold hd hsz hR;have hlt:i<items.size:=by lia
  refine lU Iv ?_;rw[ln AO _];show av _ A.in1 (cr (.ref I) >>= _) _ _ s;refine au (W.item i s _ _ hlt ⟨hit,hl⟩ λv h' tk hP hst' hk'=>?_);obtain⟨p,hpi⟩:∃p,ps[i]? =aa p:=⟨ps[i],aS (by lia)⟩;obtain⟨t,o,n,rfl,ho,hc,hdat⟩:=hp i p v hpi hP;have ho':=hk' t o (λz=>by rw[bh.mp z]at ho;rw[hI0]at ho;cases ho) (hold t o ho)
  have hkey:(cI (qF prog w)).is h' p.1 p.2:=by
   obtain⟨ob,eH,m,k1,k2,k3,k4⟩:=hk p (aJ hpi);exact⟨ob,eH,m,hk' _ _ (λz=>by rw[bh.mp z]at k1;rw[hI0]at k1;cases k1) (hold _ _ k1),k2,k3,k4⟩
  have hd':h'.DictOfH (cI (qF prog w)) d xs:=by
   obtain⟨q,es,ep,q1,q2,q3,q4,q5,q6⟩:=hd;refine⟨q,es,ep,hk' d q (λz=>hdI (bh.mp z)) q1,q2,q3,q4,λx hx=>?_,q6⟩;obtain⟨ob,eH,m,k1,k2,k3,k4⟩:=q5 x hx;refine⟨ob,eH,m,hk' _ _ (λz=>?_) k1,k2,k3,k4⟩;obtain⟨oi,hi1,hi2,_⟩:=hit;rw[bh.mp z,hi1]at k1;cases k1;rw[k2]at hi2;exact absurd hi2 (by decide)
  show av _ A.in1 (holding [.ref t] _ >>= _) _ _ _;refine au (gv ?_);refine au (wpAny_tryCatch ?_);unfold cu.Dict.pairItems;refine au (fV (T:= "tuple") ⟨o,ho',hc⟩ ?_);rw[if_pos (by decide)];refine au (dh ho' hdat ?_);refine aM ?_;show av _ A.in1 (holding [.ref p.2, .bool true] (dictSet d (.ref p.2) (.bool true))) _ _ _;refine gv (wpAny_dictSet_heap (hsz:=by lia) hu hkey hd' λh2 hd2 hs2=>?_)
  refine aM ⟨plainId_quiet AO _,?_⟩;have ei:((i:Int)+1)=((i+1:Nat):Int):=by lia
  rw[ei];have hln:(fM xs p.1 p.2 (fj true)).length≤xs.length+1:=by
   unfold fM;split<;>simp
  have hst2:=W.frame (i+1) h' h2 hst' λb hb o e=>by
   have hbd:b≠d:=by
    obtain z |z:=az.mp hb
    ·rw[z];exact bz hdI
    ·rw[bh.mp z];exact bz hdl
   exact(hs2.2 b hbd).trans e
  refine ih (i+1) _ _ (by lia) (by lia) hst2.1 hst2.2 (λb o e=>?_) hd2 (by lia) λh3 tk3 old3 hd3=>?_
  ·have hbd:b≠d:=λz=>by rw[z,hd0]at e;cases e
   have hbI:b∉ [I]:=λz=>by rw[bh.mp z,hI0]at e;cases e
   exact(hs2.2 b hbd).trans (hk' b o hbI (hold b o e))
  ·refine hR h3 tk3 old3 ?_;have ed:ps.drop i=p::ps.drop (i+1):=by
    have hi':i<ps.length:=by lia
    rw[gf hi'];rw[aS hi']at hpi;cases hpi;rfl
   rw[ed];exact hd3
end
def AF (H:Hp) (q:List Key) (v:V):Prop:=∃t b,v= .ref t∧H t=aa (.bW [.ref b, .bl true])∧H b=aa (.bW (q.map kV))
def xm (qs:List (List Key)):List (List Key×V):=qs.foldl (λgN q=>sS gN q (.bl true)) []
theorem IT:∀(qs:List (List Key)) (gN:List (List Key×V)),(qs.foldl (λgN q=>sS gN q (V.bl true)) gN).length≤gN.length+qs.length
 | [],gN=>by simp
 |q::qs,gN=>by
  have h1:=Xr gN q (V.bl true);have h2:=IT qs (sS gN q (.bl true));rw[eZ,aU];lia
theorem KT.fold:∀(ps:List (List Key×ai)) {gN:List (List Key×V)}{xs:List (List Key×ai×aj)},KT H gN xs→(∀p∈ps,H p.2=aa (.bW (p.1.map kV)))→KT H ((ps.map λp=>p.1).foldl (λgN q=>sS gN q (.bl true)) gN) (EV xs ps)
 | [],_,_,r,_=>r
 |p::ps,gN,xs,r,h=>by
  rw[aC,eZ];exact KT.fold ps (r.bR p.1 (h p aK) rfl) λp' hp'=>h p' (aI _ hp')
theorem Lj (ok:nZ P w H h):∀{qs:List (List Key)}{vs:List V}{eH:List aj},aN (AF H) qs vs→mM vs eH→ ∃ps:List (List Key×ai),(ps.map λp=>p.1)=qs∧
  (∀(i:Nat) (p:List Key×ai) (v:aj),ps[i]? =aa p→eH[i]? =aa v→ ∃(t:ai) (o:aG) (n:Nat),v= .ref t∧h.get? t=aa o∧o.cls= .type "tuple" ∧o.data= .seq #[.ref p.2, .bool true] n)∧ ∀p∈ps,H p.2=aa (.bW (p.1.map kV))
 |_,_,_, .nil, .nil=>⟨[],rfl,(λi p v h=>by simp at h),λ_ h=>nomatch h⟩
 |_,_,_, .cons (a:=q) hq hs, .cons hv hvs=>by
  obtain⟨ps,e,h1,h2⟩:=Lj ok hs hvs;obtain⟨t,b,rfl,ht,hb⟩:=hq;refine⟨(q,b)::ps,by rw[aC,e],λi p v hp hv'=>?_,λp hp=>?_⟩
  ·cases i with
   |zero=>
    simp only[jD,bH]at hp hv';subst hp hv';obtain⟨_,eH,r,o,g1,g2,n,g3⟩:=(show nc P w H h t (.bW [.ref b, .bl true]) from ok t _ ht);cases r with
    |cons r1 r2=>
     cases r2 with
     |cons r3 r4=>
      cases r4;cases r1;cases r3;exact⟨t,o,n,hv,g1,g2,by simpa using g3⟩
   |succ i=>
    simp only[bU]at hp hv';exact h1 i p v hp hv'
  ·obtain rfl |hp:=az.mp hp
   ·exact hb
   ·exact h2 p hp
def Tg (hc:X.calm=true) (hu:X.A.units+2<cLine):nL X (.type "dict") (λxs H Q=>∃(l:ai) (vs:List V) (qs:List (List Key)),xs=[.ref l]∧oF X.K H l vs∧aN (AF H) qs vs∧qs.length≤sizeLine∧ ∀d,H d=none→Q (.ref d) (nG H d (.dT (xm qs)))):=by
 intro ag s σ H xs us Q I r h;obtain⟨l,vs,qs,rfl,hq,hp,hlen,q⟩:=h;obtain⟨u,rfl,rx⟩:=tY r;cases rx;obtain⟨eH,r',pl,hz⟩:=I.list hq;have hd:X.A.in1.handled=none:=I.ok.hd hc;have hl:l<s.heap.objs.size:=by obtain⟨o,n,e,_⟩:=pl;exact aQ e
 refine callType_codes (Q₁:=λobj s₁=>obj= .ref s.heap.objs.size∧s₁={ s with heap:=s.heap.push { cls:= .type "dict",data:= .dict #[] } }) F.kt_called_dict (F.kt_typeCall_dict_1 _) F.entry_dict_init (kt_code_dict_new _ ⟨rfl,rfl⟩) ?_;rintro obj s₁ ⟨rfl,rfl⟩;have hT:({ s with heap:=s.heap.push { cls:= .type "dict",data:= .dict #[] } }:am).TypeIs (.ref s.heap.objs.size) "dict" :=⟨_,bI _ rfl,rfl⟩;refine⟨hT,F.args_dict_init_2 _ _,?_⟩;unfold cu.«dict.__init__»;refine au ?_;unfold cu.Dict.selfAndRest;refine au (wpAny_notOrdered_dict hT ?_);show av _ _ (pure (s.heap.objs.size,[bM l])) _ _ _;refine aM ?_;show av _ _ (mi "dict.__init__" s.heap.objs.size (.ref l) [] .none) _ _ _;unfold mi;obtain⟨ol,nl,hol,hcl,hdl,hnl⟩:=pl;have hol1:=aO { cls:= .type "dict",data:= .dict #[] } hol;obtain⟨ps,eqs,hps,hks⟩:=Lj I.cG hp r';have hplen:ps.length=eH.toArray.size:=by
  have h1:=congrArg dE eqs;have h2:=fW hp;have h3:=r'.length;rw[ay]at h1;rw[bf];lia
 refine au (fV (T:= "list") ⟨ol,hol1,hcl⟩ ?_);dsimp only;rw[if_pos (by decide)];refine au (ZP hol1 hcl hnl hdl Po (by decide +kernel) hd λh1 tk1 kp1=>?_);rw[if_pos (show(none:Option aj).isNone=true from rfl)];refine au (eK ?_);have hl1:h1.IsList l eH.toArray:=⟨ol,kp1 _ _ hol1,hcl,nl,hnl⟩;refine au (eV hl1 ?_);refine aM ⟨plainId_quiet AO _,?_⟩;have hd1:h1.get? s.heap.objs.size=aa { cls:= .type "dict",data:= .dict #[] }:=kp1 _ _ (bI _ rfl);have hdlt:=aQ hd1;have hI0:s.heap.get? h1.objs.size=none:=by
  cases z:s.heap.get? h1.objs.size with
  |none=>rfl
  |some ob=>exact absurd (aQ (kp1 _ _ (aO _ z))) (cO _)
 have hd0:s.heap.get? s.heap.objs.size=none:=by
  cases z:s.heap.get? s.heap.objs.size with
  |none=>rfl
  |some ob=>exact absurd (aQ z) (cO _)
 refine WC (A:=X.A.in1) (I:=h1.objs.size) (l:=l) (d:=s.heap.objs.size) (items:=eH.toArray) ?_ hd (bS (Nat.lt_trans hl hdlt)) (bS hdlt) (da hl) s.heap hd0 hI0 ps hplen (λi p v h1 h2=>hps i p v h1 (by simpa using h2)) (λp hp=>AL I.cG (hks p hp)) _ 0 _ [] rfl (aP _) ?_ ?_ ?_ ?_ ?_ λh' tk' old' hd'=>?_
 ·exact jC (A:=X.A.in1) (show X.A.in1.units+1<cLine from by have:X.A.in1.units=X.A.units+1:=rfl;lia)
 ·exact⟨_,bI _ rfl,rfl,rfl⟩
 ·exact hl1.push _
 ·exact λb o e=>aO _ (kp1 _ _ (aO _ e))
 ·refine⟨_, #[],0,aO _ hd1,?_,rfl,rfl,(λx hx=>nomatch hx),List.nodup_nil⟩
  first |exact⟨rfl,rfl⟩ |exact rfl |exact .inl rfl | (unfold aG.ExactDict;simp)
 ·rw[di,←hplen];have h1:=congrArg dE eqs;rw[ay]at h1;lia
 ·rw[dI]at hd';obtain⟨o',es,ep,g1,g2,g3,g4,g5,g6⟩:=hd';have hl0:=IT qs [];have kt:KT H (xm qs) (EV [] ps):=by
   have:=KT.fold ps (show KT H [] [] from .nil) hks;rw[eqs]at this;exact this
  refine⟨rfl, .ref s.heap.objs.size,_,I.laid (t':=tk') (o:= .dT (xm qs)) old' (aA _) ⟨?_,?_,_,kt.keeps λb ys eb=>?_,o',es,ep,g1,g2,g3,g4,g6⟩,rfl,q _ (I.cG.fresh (aA _))⟩
  ·simp only[di,bG]at hl0;exact aY hl0 hlen
  ·have:=I.big;exact beq_eq_false_iff_ne.mpr (da this)
  ·rw[og (pO eb (I.cG.fresh (aA _)))];exact eb
def rC:List W→Option (List (List Int))
 | []=>aa []
 | .bW [k, .bl true]::ws=>match sM k,rC ws with
  |some q,aa qs=>aa (q::qs)
  |_,_=>none
 |_=>none
def t4 (qs:List (List Int)):List (List Int×W):=qs.foldl (λgN k=>vE gN k (.bl true)) []
def v5 (ws:List W) (S:lr) (Q:WK):Prop:=match rC ws with
 |some qs=>qs.length≤1000000∧ ∀a,S a=none→Q (.ref a) (bR S a (.dct (t4 qs)))
 |none=>False
theorem Gb{K:ao}{H:Hp}:∀{ws:List W}{vs:List V}{qs:List (List Int)},mC K H ws vs→rC ws=aa qs→aN (AF H) (qs.map λq=>q.map Sum.inl) vs
 | [],_,_, .nil,e=>by
  simp only[rC,bH]at e;subst e;exact .nil
 |w::ws,_,qs, .cons r rs,e=>by
  cases w with
  |bW us=>
   obtain _ |⟨k,_ |⟨b,_ |⟨x,us⟩⟩⟩:=us
   ·simp [rC]at e
   ·simp [rC]at e
   ·cases b with
    |bl b=>
     cases b with
     |true=>
      simp only[rC]at e;cases e1:sM k with
      |none=>rw[e1]at e;simp at e
      |some q=>
       cases e2:rC ws with
       |none=>rw[e1,e2]at e;simp at e
       |some qs'=>
        rw[e1,e2]at e;simp only[bH]at e;subst e;cases r with
        | @bW t vs' _ ft hs=>
         cases hs with
         |cons r1 r2=>
          cases r2 with
          |cons r3 r4=>
           cases r4;cases r3;obtain⟨b,rfl,eb⟩:=Nu r1 e1;exact .cons ⟨t,b,rfl,ft,eb⟩ (Gb rs e2)
     |false=>simp [rC]at e
    |_=>simp [rC]at e
   ·cases b<;>simp [rC]at e
  |_=>simp [rC]at e
theorem Jk{K:ao}{H:Hp}:∀(qs:List (List Int)) {gN:List (List Int×W)}{ps:List (List Key×V)},py K H gN ps→py K H (qs.foldl (λgN k=>vE gN k (.bl true)) gN) ((qs.map λq=>q.map Sum.inl).foldl (λgN q=>sS gN q (.bl true)) ps)
 | [],_,_,r=>r
 |q::qs,_,_,r=>by
  rw[aC,eZ,eZ];exact Jk qs (r.bR q (.bl true))
def TM{K:ao}:w9 K (λxs H Q=>∃(l:ai) (vs:List V) (qs:List (List Key)),xs=[.ref l]∧oF K H l vs∧aN (AF H) qs vs∧qs.length≤sizeLine∧ ∀d,H d=none→Q (.ref d) (nG H d (.dT (xm qs)))) v5:=λH a vs ws S Q QW ea na r hS h hQ=>by
 unfold v5 at h;split at h
 ·rename_i qs e;have hp:=Gb r e;refine⟨a,vs,_,rfl, .of ea,hp,?_,λd hd=>?_⟩
  ·rw[ay,ef];lia
  ·have rd:py K H (t4 qs) (xm (qs.map λq=>q.map Sum.inl)):=Jk qs (show py K H [] [] from .nil);have x:nH H S (nG H d (.dT (xm (qs.map λq=>q.map Sum.inl)))) (bR S d (.dct (t4 qs))):= .newS hd;refine hQ (.ref d) (bR S d (.dct (t4 qs))) (.ref d) _ x (.ref d) (λb o q=>?_) (h.2 d (hS.free hd));by_cases hb:b=d
   ·subst hb;rw[mR]at q;cases q;exact⟨_,pD,Paired.mapP rd λ_ _ z=>⟨z.1,z.2.ext x⟩⟩
   ·rw[nO hb]at q;exact hS.new hd b o q
 ·exact h.elim
def XG (hr:oj k X.A) (hg:Gl X "dict") (hm:X.mg "dict" =none) (ha:JL X e tl)
  (he:ax [e] X.env=(false,aH e X.env)::ax [] X.env:=by rfl) (hpl:(aZ pos (ax [] X.env)).any (·.1)=false:=by rfl) (hcl:X.calm=true:=by rfl):JE X (.Call (.Name "dict" p) [e] [] pos) (qK v5 tl):=λE hE=>
 Kx (Tg hcl (by have:=hr.units;lia)) TM hg hm PyProof.Rows.boot_dict ha (by decide) (by decide) he hpl E hE
def _root_.pz{a b:Prop}(h:a→b) (g:b→a):a=b:=propext ⟨h,g⟩
def TD:=@v5.eq_1
theorem LA:∀ps:List (List Int),rC (ps.map λp=>W.bW [.bW (p.map W.int), .bl true])=aa ps
 | []=>rfl
 |p::ps=>by
  have e:sM (.bW (p.map W.int))=aa p:=by
   show qD (p.map W.int)=aa p
   induction p with
   |nil=>rfl
   |cons i p ih=>rw[aC,qD,ih];rfl
  rw[aC,rC,e,LA ps]
def UO (gN:List (List Int×W)) (q k:List Int) (v:W):(pK (vE gN q v) k).isSome=(decide (k=q) || (pK gN k).isSome):=by
 have e:∀gN:List (List Int×W),(pK gN k).isSome=gN.any λkv=>decide (kv.1=k):=λgN=>by
  unfold pK;rw[gT]
  induction gN with
  |nil=>rfl
  |cons a gN ih=>
   rw[cb,fu];cases decide (a.1=k) with
   |true=>rfl
   |false=>simpa using ih
 rw[e,e];unfold vE;split
 ·rename_i h;have:(gN.map λkv=>if kv.1=q then(kv.1,v) else kv).any (λkv=>decide (kv.1=k))=gN.any λkv=>decide (kv.1=k):=by
   rw[List.any_map];congr 1;funext kv;simp only[lD];split<;>rfl
  rw[this];by_cases hk:k=q
  ·subst hk;rw[h];simp
  ·rw[decide_eq_false hk,ke]
 ·rw[List.any_append];simp only[fu,List.any_nil,kB];rw[Bool.or_comm];congr 1;apply decide_eq_decide.mpr;exact eq_comm
theorem IM:∀(qs:List (List Int)) (gN:List (List Int×W)) (k:List Int),(pK (qs.foldl (λgN k=>vE gN k (.bl true)) gN) k).isSome=(decide (k∈qs) || (pK gN k).isSome)
 | [],gN,k=>by simp
 |q::qs,gN,k=>by
  rw[eZ,IM qs,UO,←Bool.or_assoc];congr 1;rw[fF];simp only[jE,decide_eq_true_eq,az];exact or_comm
def KZ (qs:List (List Int)) (k:List Int):(pK (t4 qs) k).isSome=decide (k∈qs):=by
 unfold t4;rw[IM];simp [pK]
end L2
namespace L2
open PySem PySem.Spec PyProof.Rows PySem.W PySem.Calls Builtin Builtin.ObjectAttr Builtin.Getset_descriptor
structure F4 (K:Frag) (C:ai):Prop where
  ga:findIn K (.ref C) "__getattribute__" =aa (aa (.builtin "BaseException.__getattribute__"))
  gt:findIn K (.ref C) "__getattr__" =aa none
  cl:findIn K (.ref C) "__class__" =aa (aa (.builtin "object.__class__"))
  ob:mroIn K C (.type "object")=aa true
  be:mroIn K C (.type "BaseException")=aa true
section
variable {h:aE}{a C:ai}{o:aG}
def YR (hx:h.get? a=aa o) (hc:o.cls= .ref C):Looks M h (fA (.ref a)) (.ref C):=hc▸(Looks.ld hx).andThen .now
end
abbrev Cg:List aj:=[.type "ValueError", .type "Exception", .type "BaseException", .type "object"]
structure qm (K:ao) (x:ah) (C:ai):Prop where
  nm:bQ K bj x=aa (aa (.ref C))
  ex:jN K C Cg "ValueError.__new__" =true
  xc:F4 K C
def qm.own{K:ao}{x:ah}{C:ai}{h:aE}{mg:ah→Option aj}(O:qm K x C) (X:K.In h) (G:h.Ns bj mg):OwnCls x C Cg "ValueError.__new__" mg h:=by
 have q:=O.ex;refine⟨eN X G O.nm,?_⟩;unfold jN at q;split at q
 ·rename_i dd cd sl ho;split at q
  ·rename_i C' bm k0 k1 k2 k3 n k5 hm hs;simp only[bT,beq_iff_eq,fU]at q;obtain⟨⟨⟨⟨⟨rfl,hnn⟩,hdel⟩,ht⟩,cG⟩,hni⟩:=q;obtain⟨nm,bs,mro,ns,qn,hd,sn,sub,ab,col,del⟩:=cd;dsimp only at hm hdel cG hni;subst hm hdel;have hsl:sl= #[k0,k1,k2,k3,aa (.builtin n),k5]:=by
    obtain⟨l⟩:=sl;simp only at hs;rw[hs]
   subst hsl;subst hnn;exact⟨bm,ns,nm,qn,bs,hd,sn,sub,ab,col,dd,k0,k1,k2,k3,k5,_,X _ _ ho, .of_isNs (PySem.W.isNs_of_in X cG),PySem.W.nsMap_none_of_in X cG hni,PySem.W.tail_of_in X ht⟩
  ·cases q
 ·cases q
def vd (x:ah) (t:WA):WS:=λE _ σ S=>t E σ S λws S1=>ws.length≤sizeLine∧E x σ S1
def S9{X:Cx}{x:ah}{C:ai}{e:Expr}{es:List Expr}{t:WA}{np cpos pos:bw}(O:qm X.K x C) (hg:Gl X x) (hm:X.mg x=aa (.ref C)) (ha:JA X (e::es) t) (hcl:X.calm=true:=by rfl) (hdb:(x == ("__debug__" :ah))=false:=by decide)
  (he:ax (e::es) X.env=(false,aH e X.env)::ax es X.env:=by rfl) (hpl:(aZ cpos (ax es X.env)).any (·.1)=false:=by rfl) :
  JS X (.Raise (aa (.Call (.Name x np) (e::es) [] cpos)) none pos) (vd x t):=λE hE ag s σ H D I z=>by
 obtain⟨σW,S,DW,hσ,hS,ht,hD⟩:=z;have OC:=(O.own I.mod.kin I.mod.glob).keeps I.bk;obtain⟨tl,N,nm,q,bs,hdct,sn,sub,ab,col,dd,k0,k1,k2,k3,k5,mN,hC,hN,hni,T⟩:=(O.own I.mod.kin I.mod.glob).obj;refine wpAny_Raise_call_subT (C:=C) (nm:=nm) (q:=q) (N:=N) (bs:=bs) (bm:=tl) (hdct:=hdct) (sn:=sn) (sub:=sub) (ab:=ab) (col:=col) (dd:=dd) (k0:=k0) (k1:=k1) (k2:=k2) (k3:=k3) (k5:=k5)
  lT (mN:=mN) (T.hasType lT.hasBase) (I.ok.hd hcl) (by rw[he];show(false || (aZ cpos (ax es X.env)).any (·.1))=false;rw[hpl];rfl) hni (Ai I hg hm ⟨rfl,?_⟩ hdb)
 have go:=ha E hE cpos ag s σ H (λvs H1=>∃ws S1,mC X.K H1 ws vs∧nj X.K H1 σW σ∧mD X.K H1 S1∧ws.length≤sizeLine∧E x σW S1) I ⟨σW,S,_,hσ,hS,ht,λws S1 vs H1 e1 r1 iU h1=>⟨ws,S1,r1,hσ.ext e1,iU,h1.1,h1.2⟩⟩;rw[he]at go⊢;refine lJ (ci go (λus s2 ⟨vs,H1,I1,r,ws,S1,r1,hσ1,iU,hl,h1⟩=>?_) λ_ _ y=>y);refine⟨rfl,by rw[←r.length,←r1.length];exact hl,I1.bk _ _ hC,hN.keeps I1.bk,T.keeps I1.bk,λh' a me=>?_⟩
 exact hE.near ag σ H1 s2 σW x C a S1 h' us I1 hσ1 O.nm me iU h1
abbrev vp:WX:=λ_ _ _=>False
def Ml (h:db (aB X.prog X.w) X.A X.env X.xe):oI X vp:=⟨h,λ_ _ _ _ _ _ _ _ _ _ _ _ _ _ _ _ _ _ _ _ z=>z.elim,λ_ _ _ _ _ _ _ _ _ _ _ _ _ _ _ _ z=>z.elim⟩
abbrev Cx.at (X:Cx) (pn:List (ai×aG)) (E:aj→am→Prop):Cx:={ X with pn:=pn,xe:=E }
section
variable {X:Cx}{ag pins':List (ai×aG)}{σ:St}{H:Hp}{s:am}{E:aj→am→Prop}
def Cx.Ok.at (ok:X.Ok) (pn:List (ai×aG)) (E:aj→am→Prop):(X.at pn E).Ok:=
 ⟨ok.mod,ok.kind,ok.glob,ok.blt,ok.above,ok.inj,ok.has,ok.cab,ok.hd,ok.frames,ok.stk,ok.exf,ok.bs,ok.bsz,ok.noex,ok.exfs,ok.funs,ok.frf⟩
def Cx.Ok.unat{pn:List (ai×aG)}(ok:(X.at pn E).Ok):X.Ok:=
 ⟨ok.mod,ok.kind,ok.glob,ok.blt,ok.above,ok.inj,ok.has,ok.cab,ok.hd,ok.frames,ok.stk,ok.exf,ok.bs,ok.bsz,ok.noex,ok.exfs,ok.funs,ok.frf⟩
def my.at (I:my X ag σ H s) (E:aj→am→Prop):my (X.at (X.pn++ag) E) [] σ H s:=⟨I.ok.at _ E,I.os,I.bare,I.base,I.loc,I.cell,I.free,I.freeC,λp hp=>I.pin p (by simpa using hp),I.cG,I.len⟩
def my.unat (I:my (X.at (X.pn++ag) E) pins' σ H s):my X ag σ H s:=⟨I.ok.unat,I.os,I.bare,I.base,I.loc,I.cell,I.free,I.freeC,λp hp=>I.pin p (eB _ hp),I.cG,I.len⟩
def SP.unat (h:SP (X.at (X.pn++ag) E) [] D f s'):SP X ag D f s':=by
 cases f with
 |next=>obtain⟨σ',H',I,q⟩:=h;exact⟨σ',H',I.unat,q⟩
 |brk=>obtain⟨σ',H',I,q⟩:=h;exact⟨σ',H',I.unat,q⟩
 |cont=>obtain⟨σ',H',I,q⟩:=h;exact⟨σ',H',I.unat,q⟩
 |ret u=>obtain⟨v,σ',H',I,r,q⟩:=h;exact⟨v,σ',H',I.unat,r,q⟩
end
def Nx (X:Cx) (ag:List (ai×aG)) (σ:St) (σW:mU) (H:Hp) (S:lr) (E:WX) (e:aj) (s':am):Prop:=∃(cl:ah) (C a:ai) (H1:Hp) (s1:am) (H':Hp) (S':lr),e= .ref a∧bQ X.K bj cl=aa (aa (.ref C))∧my X ag σ H1 s1∧
 s'.os=s1.os∧cc s'.gens∧Un (frs X.stack) [] H1 H' s1.heap s'.heap∧nZ X.prog X.w H' s'.heap∧tD s1.heap s'.heap H' a C∧nH H S H' S'∧mD X.K H' S'∧E cl σW S'
def Qe (X:Cx) (E:WX) (t:WE):TE:=λσ H Q=>∃σW S QW,nj X.K H σW σ∧mD X.K H S∧t E σW S QW∧oJ X.K H S QW Q∧ ∀ag e s',Nx X ag σ σW H S E e s'→X.xe e s'
def NF (X:Cx) (E:WX) (t:WS):TS:=λD σ H=>∃σW S DW,nj X.K H σW σ∧mD X.K H S∧t E DW σW S∧Meets X.K H S DW D∧ ∀ag e s',Nx X ag σ σW H S E e s'→X.xe e s'
def NR (X:Cx) (e:Expr) (t:WE):Prop:=∀E,db (aB X.prog X.w) X.A X.env X.xe→PE X e (Qe X E t)
def Nm (X:Cx) (st:aW) (t:WS):Prop:=∀E,db (aB X.prog X.w) X.A X.env X.xe→PS X st (NF X E t)
def wj (X:Cx) (st:List aW) (t:WS):Prop:=∀E,db (aB X.prog X.w) X.A X.env X.xe→qG X st (NF X E t)
def Cu (c:mI) (t:WA):WE:=λE σ S Q=>t vp σ S λws S1=>c ws S1 Q λcl S2=>E cl σ S2
def OF (F:oO X.prog X.w X.K X.mg X.base (rV X.prog X.w) k f fd ps (r9 X.K c)) (hr:oj k X.A) (hg:Gl X x) (hm:X.mg x=aa (.ref f)) (hk:fe X.K (.ref f)=true) (hb:pj X.K fd ps [])
  (ha:JA X (e::es) t) (hdb:(x == ("__debug__" :ah))=false:=by decide) (he:ax (e::es) X.env=(false,aH e X.env)::ax es X.env:=by rfl) (hpl:(aZ pos (ax es X.env)).any (·.1)=false:=by rfl) :
  NR X (.Call (.Name x p) (e::es) [] pos) (Cu c t):=λE hp ag s σ H Q I h=>by
 obtain⟨σW,S,QW,hσ,hS,ht,hQ,hF⟩:=h;refine gQ (Ai I hg hm ?_ hdb);refine lW (h₀:=X.base) I.ok.mod.kin hk (nE (ha vp (Ml hp) pos ag s σ H (λvs H1=>∃ws S1,mC X.K H1 ws vs∧nj X.K H1 σW σ∧mD X.K H1 S1∧c ws S1 QW (λcl S'=>E cl σW S')∧oJ X.K H1 S1 QW Q∧nH H S H1 S1) I
  ⟨σW,S,_,hσ,hS,ht,λws S1 vs H1 e1 r1 iU h1=>⟨ws,S1,r1,hσ.ext e1,iU,h1,hQ.from e1,e1⟩⟩) λus s1 ⟨vs,H1,I1,r,ws,S1,r1,hσ1,iU,h1,hQ1,e1⟩=>⟨I1.kIn,?_⟩) he hpl
 exact Hw (E:=E) F hr hb I1 r r1 hσ1 iU h1 hQ1 λcl C a H' S' s' hn os bare un ok fly ex hS' q=>hF ag _ s' ⟨cl,C,a,H1,s1,H',S',rfl,hn,I1,os,bare,un,ok,fly,e1.trans ex,hS',q⟩
def Rb (he:NR X e te):Nm X (.Return (aa e) pos) (mS te):=λE hp=>
 (Ot (he E hp)).mono λD σ H ⟨σW,S,DW,hσ,hS,ht,hD,hF⟩=>⟨σW,S,_,hσ,hS,ht,hD.rt,hF⟩
def RP{X:Cx}{st:aW}{ta:WS}(h:Nm X st ta):wj X [st] ta:=λE hp=>IK (h E hp)
def L3 (un:Un (frs l) [] H1 H' g h) (ok:nZ P w H' h) (ff0:h.FunFrames base l) (fr:∀b∈frs l,H' b=none)
  (h0:∀b∈hid,g.get? b=none∧H' b=none) (ha:a∈hid) (L:iv (dt h (hid++frs l)) l a (.ref C) h h3):Un (frs l) [] H1 H' g h3∧nZ P w H' h3∧tD g h3 H' a C:=by
 obtain⟨st,ff,tr,sl⟩:=L;have keepB:∀b o,h.get? b=aa o→b∉hid→b∉frs l→h3.get? b=aa o:=λb o e h1 h2=>st b o (gj _ e λz=>(bq.mp z).elim h1 h2);have nh:∀b o,g.get? b=aa o→b∉hid:=λb o e hb=>by rw[(h0 b hb).1]at e;cases e
 have slotB:∀b o,b∈frs l→h.get? b=aa o→ ∃sl,h3.get? b=aa { o with slots:=sl }:=λb o hb e=>by
  obtain⟨_,o',eo',nf⟩:=ff0.mem hb;rw[e]at eo';cases eo';exact sl b o e nf
 have nx:∀b:ai,b∉([]:List ai):=λb=>by simp
 refine⟨⟨λb o e n hb _=>keepB b o (un.keep b o e n hb (nx b)) (nh b o e) hb,λb o e n hb _=>?_,λb o e n _=>un.free b o e n (nx b),λb o e _=>?_,un.tups,un.frzs,un.tbls⟩,λb o e=>?_,(h0 a ha).1,(h0 a ha).2,?_⟩
 ·obtain⟨sl1,e1⟩:=un.slot b o e n hb (nx b);obtain⟨sl2,e2⟩:=slotB b _ hb e1;exact⟨sl2,e2⟩
 ·obtain⟨o',e1⟩:=un.there b o e (nx b);by_cases hb:b∈frs l
  ·obtain⟨sl2,e2⟩:=slotB b _ hb e1;exact⟨_,e2⟩
  ·exact⟨o',keepB b o' e1 (nh b o e) hb⟩
 ·refine(ok b o e).stay (λc u hc q=>?_) (λ_ q=>q) λ_ _ q=>q;have tk:∃v,H' c=aa v:=by
   obtain z |z:=hc
   ·exact⟨o,by rw[z];exact e⟩
   ·exact⟨_,z⟩
  obtain⟨v,tk⟩:=tk;exact keepB c u q (λz=>by rw[(h0 c z).2]at tk;cases tk) λz=>by rw[fr c z]at tk;cases tk
 ·obtain⟨oe,vs,T,oT,ts,e1,e2,e3,e4,e5,e6,e7,e8,e9⟩:=tr;have nf:T∉frs l:=λhb=>by
   obtain⟨_,o,eo,nf⟩:=ff.mem hb;rw[e7]at eo;cases eo;exact nf ts e8
  have both:g.get? T=none∧H' T=none:=by
   by_cases hT:T∈hid
   ·exact h0 T hT
   ·have z:h.get? T=none:=by
     cases q:h.get? T with
     |none=>rfl
     |some o=>
      rw[gj _ q λz=>(bq.mp z).elim hT nf]at e5;cases e5
    constructor
    ·cases q:g.get? T with
     |none=>rfl
     |some o=>obtain⟨o',q'⟩:=un.there T o q (nx T);rw[z]at q';cases q'
    ·cases q:H' T with
     |none=>rfl
     |some u=>obtain⟨o',q'⟩:=(ok T u q).ex;rw[z]at q';cases q'
  exact⟨oe,vs,T,oT,ts,e1,e2,e3,e4,both.1,both.2,e6,e7,e8,e9⟩
def Heap.TracedW.tr (x:aE.TracedW h base e cls a0):aE.Traced h base e cls:=by
 obtain⟨oe,vs,T,oT,ts,he,⟨hcls,h0⟩,r⟩:=x;exact⟨oe,vs,T,oT,ts,he,hcls,r⟩
section
variable {X:Cx}{ag:List (ai×aG)}{σ:St}{H1 H':Hp}{s1 s':am}{a C:ai}{M:Model}{A:bt}{E:aj→am→Prop}{R:am→Prop}
def YS (I1:my X ag σ H1 s1) (hst:X.stack=X.env::X.outer) (hf:X.env.frame=aa X.env.locals) (os:s'.os=s1.os) (bare:cc s'.gens) (un:Un (frs X.stack) [] H1 H' s1.heap s'.heap) (ok:nZ X.prog X.w H' s'.heap) (fly:tD s1.heap s'.heap H' a C) (hA:A.frames=aa X.stack)
  (k:∀h3,my X ag σ H' { s' with heap:=h3 }→Un (frs X.stack) [] H1 H' s1.heap h3→nZ X.prog X.w H' h3→tD s1.heap h3 H' a C→R { s' with heap:=h3 }) :
  av M A (jP (.ref a) X.env) (λ_ s₂=>av M A (ju (.ref a) none) (λ_ s₃=>R s₃) E s₂) E s':=by
 have I2:my X ag σ H' s':=I1.call' os un ok bare (λ_ z=>nomatch z);have ff:=I2.stack;have fr:=I2.stkFree;obtain⟨g1,g2,oe,vs,T,oT,ts,e1,e2,e3,e4,g3,g4,e5,e6,e7,e8⟩:=fly;have sz:1<vs.size:=(j7.mp e4).1;have hid:∀b∈ [a,T],s1.heap.get? b=none∧H' b=none:=λb hb=>by
  obtain rfl |hb:=az.mp hb
  ·exact⟨g1,g2⟩
  ·rw[bh.mp hb];exact⟨g3,g4⟩
 have st:∀h3,iv (dt s'.heap ([a,T]++frs X.stack)) X.stack a (.ref C) s'.heap h3→R { s' with heap:=h3 }:=λh3 L=>by
  obtain⟨u1,u2,u3⟩:=L3 un ok ff fr hid (by simp) L;exact k h3 (I1.call' (s':={ s' with heap:=h3 }) os u1 u2 bare (λ_ z=>nomatch z)) u1 u2 u3
 rw[hst]at hA ff st;refine wpAny_noteFrame_onW (base:=dt s'.heap ([a,T]++frs (X.env::X.outer))) (cls:= .ref C) (a0:=vs[0]) hA (BM ff) hf ⟨oe,vs,T,oT,ts,e1,⟨e2,km _⟩,e3,e4,dW _ (by simp),e5,e6,e7,e8⟩ (λb o z=>fZ _ z) (dW _ (by simp)) λh2 N=>?_;obtain⟨n1,n2,n3,n4⟩:=N;refine kj (s:={ s' with heap:=h2 }) n1 n2 n3 λh3 k1 k2 k3 k4=>?_;exact st h3 ⟨k1,k2,Heap.TracedW.tr k3,λb o e nf=>by
  obtain⟨sl,z⟩:=n4 b o e nf;exact⟨sl,k4 b _ z nf⟩⟩
def Wo (I1:my X ag σ H1 s1) (os:s'.os=s1.os) (bare:cc s'.gens) (un:Un (frs X.stack) [] H1 H' s1.heap s'.heap) (ok:nZ X.prog X.w H' s'.heap) (fly:tD s1.heap s'.heap H' a C)
  (k:∀h3,my X ag σ H' { s' with heap:=h3 }→tD s1.heap h3 H' a C→R { s' with heap:=h3 }):av M A (ju (.ref a) none) (λ_ s₃=>R s₃) E s':=by
 have I2:my X ag σ H' s':=I1.call' os un ok bare (λ_ z=>nomatch z);have ff:=I2.stack;have fr:=I2.stkFree;obtain⟨g1,g2,oe,vs,T,oT,ts,e1,e2,e3,e4,g3,g4,e5,e6,e7,e8⟩:=fly;have sz:1<vs.size:=(j7.mp e4).1;have hid:∀b∈ [a,T],s1.heap.get? b=none∧H' b=none:=λb hb=>by
  obtain rfl |hb:=az.mp hb
  ·exact⟨g1,g2⟩
  ·rw[bh.mp hb];exact⟨g3,g4⟩
 refine kj (base:=dt s'.heap ([a,T]++frs X.stack)) (l:=X.stack) (cls:= .ref C) (a0:=vs[0]) (fl:= .none) (λb o z=>fZ _ z) (BM ff) ⟨oe,vs,T,oT,ts,e1,⟨e2,km _⟩,e3,e4,dW _ (by simp),e5,e6,e7,e8⟩ λh3 k1 k2 k3 k4=>?_;obtain⟨u1,u2,u3⟩:=L3 un ok ff fr hid (by simp) ⟨k1,k2,Heap.TracedW.tr k3,λb o e nf=>⟨o.slots,k4 b o e nf⟩⟩;exact k h3 (I1.call' (s':={ s' with heap:=h3 }) os u1 u2 bare (λ_ z=>nomatch z)) u3
end
abbrev Cx.hot (X:Cx) (a:ai) (pn:List (ai×aG)):Cx:={ X with A:=X.A.mark (aa (.ref a)),calm:=false,pn:=pn,xe:=λ_ _=>False }
section
variable {X:Cx}{ag pins':List (ai×aG)}{σ:St}{H:Hp}{s:am}{a:ai}{oa:aG}
def Cx.Ok.hot (ok:X.Ok) (a:ai) (pn:List (ai×aG)):(X.hot a pn).Ok:=
 ⟨ok.mod,ok.kind,ok.glob,ok.blt,ok.above,ok.inj,ok.has,ok.cab,(λz=>nomatch z),ok.frames,ok.stk,ok.exf,ok.bs,ok.bsz,ok.noex,ok.exfs,ok.funs,ok.frf⟩
def my.hot (I:my X ag σ H s) (e:s.heap.get? a=aa oa) (n:H a=none) (d:oa.data= .fields vs):my (X.hot a (X.pn++ag++[(a,oa)])) [] σ H s:=
 ⟨I.ok.hot a _,I.os,I.bare,I.base,I.loc,I.cell,I.free,I.freeC,(λp hp=>by
  rw[bg]at hp;obtain hp |hp:=bq.mp hp
  ·exact I.pin p hp
  ·rw[bh.mp hp];refine⟨e,n,λz=>?_,λz=>?_,λv z=>?_⟩
   ·obtain⟨m,⟨o,es,ep,ho,hd,_⟩,_⟩:=I.loc;have e':s.heap.get? X.env.locals=aa oa:=by rw[←show a=X.env.locals from z];exact e
    rw[ho]at e';cases e';rw[hd]at d;cases d
   ·obtain⟨_,o,ho,nf⟩:=I.funs.mem z;have e':s.heap.get? a=aa o:=ho;rw[e]at e';cases e';exact nf vs d
   ·have z':oa.data= .cell v:=z;rw[d]at z';cases z'),I.cG,I.len⟩
def my.unhot (I0:X.Ok) (I:my (X.hot a (X.pn++ag++[(a,oa)])) pins' σ H s):my X ag σ H s:=
 ⟨I0,I.os,I.bare,I.base,I.loc,I.cell,I.free,I.freeC,λp hp=>I.pin p (eB _ (eB _ hp)),I.cG,I.len⟩
end
def Cp (al:List ah) (t u:WS):WS:=λ_ D σ S=>t (λcl σ' S'=>cl∈al∧u vp D σ' S') D σ S
section
variable {X:Cx}{b:List aW}{x:ah}{CT:ai}{b₀:aW}{suite:List aW}{np hpos pos:bw}{t:WS}{v:WS}{al:List ah}
def Rh (h:X.xe=λ_ _=>False):oI X vp:=Ml (by rw[h];exact j9)
def Y2 (hb:∀pn xe,wj (X.at pn xe) b t)
  (hal:∀cl∈al,∃C,qm X.K cl C∧fx X.K (.ref C) (.ref CT)=aa true) (hs:∀(a:ai) (pn:List (ai×aG)),sI (X.hot a pn) (b₀::suite) v)
  (hg:Gl X x) (hm:X.mg x=aa (.ref CT)) (hst:X.stack=X.env::X.outer:=by rfl) (hf:X.env.frame=aa X.env.locals:=by rfl) (hdb:(x == ("__debug__" :ah))=false:=by decide) :
  JS X (.Try b [.ExceptHandler (aa (.Name x np)) none (b₀::suite) hpos] [] [] pos) (Cp al t v):=λE hE ag s σ H D I z=>by
 obtain⟨σW,S,DW,hσ,hS,ht,hD⟩:=z;refine wpAny_Try_except ?_;refine ci (hb (X.pn++ag) (λe s₁=>av (aB X.prog X.w) X.A (jP e X.env) (λ_ s₂=>av (aB X.prog X.w) X.A (ju e none) (λ_ s₃=>av (aB X.prog X.w) X.A (handleBy e X.env [.ExceptHandler (aa (.Name x np)) none (b₀::suite) hpos]) (SP X ag D) X.xe s₃) X.xe s₂) X.xe s₁)
  _ db.looking [] s σ H D (I.at _) ⟨σW,S,DW,hσ,hS,ht,hD,λpins' e s' F=>?_⟩) (λf s1 q=>?_) λe s1 q=>q
 ·obtain⟨cl,C,a,H1,s1,H',S',rfl,hn,I1,os,bare,un,ok,fly,ex,hS',hcl,hu⟩:=F;obtain⟨C',O,hx⟩:=hal cl hcl;have hn':bQ X.K bj cl=aa (aa (.ref C)):=hn;have eC:C'=C:=by
   have:=O.nm;rw[hn']at this;exact(bM.inj (aL (aL this))).symm
  subst eC;refine YS (X:=X) (ag:=ag) I1.unat hst hf os bare un ok fly I.ok.frames λh3 I3 u3 ok3 fly3=>?_;obtain⟨g1,g2,oe,vs,_,_,_,e1,e2,e3,_⟩:=id fly3;refine wpAny_handleBy_cons (codeAny_handlers_test ?_) (by intro q;cases q);refine Ai (X:=X.hot a (X.pn++ag++[(a,oe)])) (I3.hot e1 g2 e3) hg hm ?_ hdb;refine(PySem.W.exm_one I3.kIn (YR e1 e2) hx).here ?_;refine codeAny_handlers_suite ?_;refine Wo (X:=X) (ag:=ag) (s':={ s' with heap:=h3 }) I1.unat os bare u3 ok3 fly3 λh4 I4 fly4=>?_;obtain⟨g1',g2',oe4,vs4,_,_,_,e1',e2',e3',_⟩:=id fly4;refine ci (hs a (X.pn++ag++[(a,oe4)]) vp (Rh rfl) [] { s' with heap:=h4 } σ H' D (I4.hot e1' g2' e3') ⟨_,S',_,hσ.ext ex,hS',hu,hD.from ex⟩) (λf s6 q=>?_) λ_ _ z=>z.elim;cases f with
  |next=>obtain⟨σ',H'',I6,q⟩:=q;exact⟨_,H'',I6.unhot I.ok,q⟩
  |brk=>obtain⟨σ',H'',I6,q⟩:=q;exact⟨_,H'',I6.unhot I.ok,q⟩
  |cont=>obtain⟨σ',H'',I6,q⟩:=q;exact⟨_,H'',I6.unhot I.ok,q⟩
  |ret w=>obtain⟨v,σ',H'',I6,r,q⟩:=q;exact⟨v,_,H'',I6.unhot I.ok,r,q⟩
 ·cases f with
  |next=>exact fX q.unat
  |ret v=>exact q.unat
  |brk=>exact q.unat
  |cont=>exact q.unat
end
def Ps (ha:PE X a ta):PE X (.UnaryOp .Not a pos) (λσ H Q=>ta σ H λx H1=>∃k,CB X.K x H1 k∧Q (.bl (!k)) H1):=by
 intro ag s σ H Q I h;refine iH (nE (ha ag s σ H _ I h) λv s1 ⟨x,H1,I1,r1,q1⟩=>?_);obtain⟨k,hk,q1⟩:=q1;exact not_of (nE (Hu ag s1 σ H1 x v (λc H2=>Q (.bl (!c)) H2) I1 r1 ⟨k,hk,q1⟩) λc s2 ⟨H2,I2,q2⟩=>⟨.bl (!c),H2,I2,rfl,q2⟩)
def yh (t:WE):WE:=λE σ S Q=>t E σ S λw S1=>uk w S1 λb S2=>Q (.bl !b) S2
def Uw (ha:JE X a ta):JE X (.UnaryOp .Not a pos) (yh ta):=λE hE=>
 (Ps (ha E hE)).mono λσ H Q ⟨σW,S,QW,hσ,hS,ht,hQ⟩=>⟨σW,S,_,hσ,hS,ht,λw S1 v H1 e1 r1 iU h1=>by
  obtain⟨k,hk,q⟩:=N9 r1 iU h1;exact⟨k,hk,hQ _ S1 _ H1 e1 (.bl _) iU q⟩⟩
def Ss:(yh t E σ S Q)=(t E σ S λw S1=>uk w S1 λb S2=>Q (.bl !b) S2):=pz id id
inductive Tr where
  |bl (n:Int)
  |nd (s:ah) (ts:List Tr)
def Tr.dA:Tr→List Tr
 | .bl _=>[]
 | .nd _ ts=>ts
mutual
def Tr.aq:Tr→Nat
 | .bl _=>1
 | .nd _ ts=>1+mJ ts
def mJ:List Tr→Nat
 | []=>0
 |t::ts=>t.aq+mJ ts
end
mutual
def Tr.depth:Tr→Nat
 | .bl _=>1
 | .nd _ ts=>1+m_ ts
def m_:List Tr→Nat
 | []=>0
 |t::ts=>max t.depth (m_ ts)
end
def G9:mJ []=0:=by unfold mJ;rfl
def tS (t:Tr) (ts:List Tr):mJ (t::ts)=t.aq+mJ ts:=by
 conv=>lhs;unfold mJ
theorem A2:∀(ts us:List Tr),mJ (ts++us)=mJ ts+mJ us
 | [],us=>by
  show mJ us=mJ []+mJ us;rw[G9];lia
 |t::ts,us=>by
  show mJ (t::(ts++us))=_;rw[tS,tS,A2 ts us];lia
def D8:m_ []=0:=by unfold m_;rfl
def zS (t:Tr) (ts:List Tr):m_ (t::ts)=max t.depth (m_ ts):=by
 conv=>lhs;unfold m_
def B5 (t:Tr):t.aq=1+mJ t.dA:=by
 cases t with
 |bl n=>
  show Tr.aq (.bl n)=1+mJ [];unfold Tr.aq mJ;rfl
 |nd s ts=>
  show Tr.aq (.nd s ts)=1+mJ ts
  conv=>lhs;unfold Tr.aq
def BU (t:Tr):t.depth=1+m_ t.dA:=by
 cases t with
 |bl n=>
  show Tr.depth (.bl n)=1+m_ [];unfold Tr.depth m_;rfl
 |nd s ts=>
  show Tr.depth (.nd s ts)=1+m_ ts
  conv=>lhs;unfold Tr.depth
def rT (t:Tr):1≤t.aq:=by rw[B5];lia
def qB (t:Tr):1≤t.depth:=by rw[BU];lia
theorem MP:∀(ts us:List Tr),m_ (ts++us)=max (m_ ts) (m_ us)
 | [],us=>by
  show m_ us=max (m_ []) (m_ us);rw[D8];lia
 |t::ts,us=>by
  show m_ (t::(ts++us))=_;rw[zS,zS,MP ts us];exact(Nat.max_assoc _ _ _).symm
theorem qH:∀(ts:List Tr),ts.length≤mJ ts
 | []=>aP _
 |t::ts=>by
  have:=qH ts;have:=rT t;rw[tS,aU];lia
theorem pe:∀{ts:List Tr},t∈ts→t.aq≤mJ ts
 | [],h=>by cases h
 |u::ts,h=>by
  rw[tS];obtain e |h:=az.mp h
  ·rw[e];lia
  ·have:=pe h;lia
theorem E_:∀{ts:List Tr},ts≠ []→m_ ts=1+m_ (ts.flatMap Tr.dA)
 | [],h=>absurd rfl h
 | [t],_=>by
  rw[cC,cZ,bg,zS,D8,BU];lia
 |t::u::r,_=>by
  have ih:=E_ (ts:=u::r) (by simp);have e:(t::u::r).flatMap Tr.dA=t.dA++(u::r).flatMap Tr.dA:=cC ..;rw[zS,ih,e,MP,BU];lia
theorem E0:∀(ts:List Tr),mJ (ts.flatMap Tr.dA)+ts.length=mJ ts
 | []=>by rw[cZ,G9];rfl
 |t::ts=>by
  have ih:=E0 ts;rw[cC,A2,tS,aU,B5];lia
mutual
theorem NM:∀t:Tr,t.depth≤t.aq
 | .bl n=>by unfold Tr.depth Tr.aq;exact aA _
 | .nd s ts=>by
  have:=HS ts;rw[BU,B5];show 1+m_ ts≤1+mJ ts;lia
theorem HS:∀ts:List Tr,m_ ts≤mJ ts
 | []=>by rw[D8];exact aP _
 |t::ts=>by
  have:=NM t;have:=HS ts;rw[zS,tS];lia
end
mutual
def j5:Tr→W
 | .bl n=> .int n
 | .nd s ts=> .bW (.str s::af ts)
def af:List Tr→List W
 | []=>[]
 |t::ts=>j5 t::af ts
end
theorem o5:∀ts:List Tr,af ts=ts.map j5
 | []=>by simp [af]
 |t::ts=>by simp [af,o5 ts]
def pH (ts:List Tr):(af ts).length=ts.length:=by rw[o5,ay]
def mB (p:List Int):W:= .bW (p.map W.int)
def Gi:pf "int" "int" =true:=by decide +kernel
def Gx:pf "int" "bool" =false:=by decide +kernel
def KJ:pf "int" "str" =false:=by decide +kernel
def Ip:pf "int" "tuple" =false:=by decide +kernel
def Oc:pf "int" "list" =false:=by decide +kernel
def Gn:pf "bool" "int" =true:=by decide +kernel
def GA:pf "bool" "bool" =true:=by decide +kernel
def L_:pf "bool" "str" =false:=by decide +kernel
def MA:pf "bool" "tuple" =false:=by decide +kernel
def Mj:pf "bool" "list" =false:=by decide +kernel
def MK:pf "str" "int" =false:=by decide +kernel
def Hg:pf "str" "bool" =false:=by decide +kernel
def He:pf "str" "str" =true:=by decide +kernel
def Ir:pf "str" "tuple" =false:=by decide +kernel
def J6:pf "str" "list" =false:=by decide +kernel
def MR:pf "tuple" "int" =false:=by decide +kernel
def OA:pf "tuple" "bool" =false:=by decide +kernel
def LD:pf "tuple" "str" =false:=by decide +kernel
def oC:pf "tuple" "tuple" =true:=by decide +kernel
def oU:pf "tuple" "list" =false:=by decide +kernel
def K7:pf "list" "int" =false:=by decide +kernel
def Mn:pf "list" "bool" =false:=by decide +kernel
def MG:pf "list" "str" =false:=by decide +kernel
def oR:pf "list" "tuple" =false:=by decide +kernel
def oW:pf "list" "list" =true:=by decide +kernel
section
variable {α:Type}{x:α}{xs:List α}
def Cb (n:Nat):o4 xs (aa (n:Int)) none=xs.drop n:=by
 unfold o4;rw[HT.sIx_nat,HT.sIx_none];by_cases h:n≤xs.length
 ·rw[iR h,dB (by rw[cP];lia)]
 ·rw[lp (by lia),gb (aA _),gb (by lia),List.take_nil]
def B1 (n:Nat):o4 xs none (aa (n:Int))=xs.take n:=by
 unfold o4;rw[HT.sIx_nat,HT.sIx_none,dI,fD];by_cases h:n≤xs.length
 ·rw[iR h]
 ·rw[lp (by lia),iq,dB (by lia)]
def HD:o4 (x::xs) (aa 1) none=xs:=by rw[show(1:Int)=((1:Nat):Int) from rfl,Cb];rfl
def Gw{n d k:Nat}(h:0<k):HT.sIx n d (aa (-(k:Int)))=n - k:=by
 show(if(-(k:Int))<0 then(-(k:Int)+(n:Int)).toNat else min (-(k:Int)).toNat n)=n - k;rw[if_pos (by lia)];lia
def Zj (k:Nat) (h:0<k):o4 xs none (aa (-(k:Int)))=xs.take (xs.length - k):=by
 unfold o4;rw[Gw h,HT.sIx_none,dI,fD]
def TL (k:Nat) (h:0<k):o4 xs (aa (-(k:Int))) none=xs.drop (xs.length - k):=by
 unfold o4;rw[Gw h,HT.sIx_none,dB (by rw[cP];lia)]
def sf{n:Nat}:nC xs (n:Int)=xs[n]? :=by
 unfold nC tw;rw[if_pos (by lia)];by_cases h:n<xs.length
 ·rw[if_pos (by lia)];simp
 ·rw[if_neg (by lia)];simp;lia
def Bm:nC (x::xs) 0=aa x:=sf (n:=0)
end
section
variable {S S':lr}{a b:ai}{o:Ob}{Q:List W→Prop}{ws:List W}
def Nh (h:b≠a):bR (bR S a o) b u=bR (bR S b u) a o:=by
 funext c;unfold bR;by_cases h1:c=b
 ·rw[if_pos h1,if_pos h1,if_neg (by rw[h1];exact h)]
 ·rw[if_neg h1,if_neg h1]
def Om (h:b≠a):bR (bR (bR S a o) b u) a o'=bR (bR S a o') b u:=by rw[Nh h,pI,Nh h]
def zt:n9 (bR S a (.bP ws)) a Q=Q ws:=m8 mR
def qU (h:bR S a o b=none):S b=none∧b≠a:=by
 have hb:b≠a:=by rintro rfl;rw[mR]at h;cases h
 rw[nO hb]at h;exact⟨h,hb⟩
def B8 (h:S a=aa u) (n:S b=none):a≠b:=by rintro rfl;rw[h]at n;cases n
def Sub.bR (h:Sub S S') (n:S a=none):Sub S (L2.bR S' a o):=λb u e=>by rw[nO (B8 e n)];exact h b u e
def Sub.put2 (h:Sub S S'):Sub (L2.bR S a u) (L2.bR S' a u):=λb w e=>by
 by_cases hb:b=a
 ·subst hb;rw[mR]at e⊢;exact e
 ·rw[nO hb]at e⊢;exact h b w e
end
def Es (S:lr) (a b:Int):nY S 60 (.int a) (.int b)=aa (a == b):=by have h:nY S 60 (.int a) (.int b)=aa (a == b):=rfl;exact h
def HN (S:lr) (a b:ah):nY S 60 (.str a) (.str b)=aa (a == b):=by have h:nY S 60 (.str a) (.str b)=aa (a == b):=rfl;exact h
def Jd (S:lr) (a b:Bool):nY S 60 (.bl a) (.bl b)=aa (a == b):=by have h:nY S 60 (.bl a) (.bl b)=aa (a == b):=rfl;exact h
def m7 (h:n≤16777216):n≤sizeLine:=by rw[ef];exact h
def qE (h:n<16777216):n<sizeLine:=by rw[ef];exact h
section
variable {S:lr}{Q:WK}{QB:Bool→lr→Prop}{QS:List W→(lr→Prop)→Prop}{QT:String→Prop}
def sA (h:S a=aa o):bR S a o=S:=by
 funext b;unfold bR;split
 ·rename_i e;rw[e,h]
 ·rfl
theorem yE:uk (.bl b) S QB=QB b S:=rfl
def J8:=@yE
theorem yL:uk (.int i) S QB=QB (i != 0) S:=rfl
def Vl:=@yL
theorem zn:uk (.bW ws) S QB=QB (!ws.isEmpty) S:=rfl
def Ta:=@zn
theorem zy:uk (.ref a) S QB=n9 S a λws=>QB (!ws.isEmpty) S:=rfl
def Um:=@zy
theorem Ab:uk .ca S QB=QB false S:=rfl
def SS:=@Ab
theorem Al:uv (.bW ws) S QS=QS ws λ_=>True:=rfl
def Jh:=@Al
theorem zz:uv (.ref a) S QS=n9 S a λws=>QS ws λS'=>S' a=aa (.bP ws):=rfl
def B9:=@zz
theorem Ak:vK (.bl b) S QT=QT "bool" :=rfl
def Xg:=@Ak
theorem yT:vK (.int i) S QT=QT "int" :=rfl
def VG:=@yT
theorem yF:vK (.str i) S QT=QT "str" :=rfl
def Wp:=@yF
theorem yZ:vK (.bW i) S QT=QT "tuple" :=rfl
def W8:=@yZ
theorem zK:vK .ca S QT=QT "NoneType" :=rfl
def PD:=@zK
theorem yc:vK (.ref a) S QT=n9 S a λ_=>QT "list" :=rfl
def Rc:=@yc
theorem zH:om (.int i) (.int j) S Q=Q (.int (i+j)) S:=rfl
def UT:=@zH
theorem yH:om (.str i) (.str j) S Q=(i.length+j.length≤sizeLine∧Q (.str (i++j)) S):=rfl
def Zs:=@yH
theorem zM:om (.bW i) (.bW j) S Q=(i.length+j.length≤sizeLine∧Q (.bW (i++j)) S):=rfl
def CS:=@zM
theorem yN:om (.ref a) (.ref b) S Q=n9 S a λxs=>n9 S b λys=>xs.length+ys.length≤sizeLine∧ ∀p,S p=none→Q (.ref p) (bR S p (.bP (xs++ys))):=rfl
def Gu:=@yN
theorem zJ{C:Int→Int→Prop}{g:Int→Int→W}:oH C g (.int i) (.int j) S Q=(C i j∧Q (g i j) S):=rfl
def SO:=@zJ
theorem yy{g:Int→Int→W}:rj g (.int i) (.int j) S Q=Q (g i j) S:=rfl
def We:=@yy
theorem yo:sD (.int i) (.int j) S Q=Q (.bl (decide (i≤j))) S:=rfl
def Y4:=@yo
theorem yg:sD (.str i) (.str j) S Q=Q (.bl (!decide (j.cps.toList<i.cps.toList))) S:=rfl
def OX:=@yg
theorem Am:oP [.bW us] S Q=Q (.int us.length) S:=rfl
def O6:=@Am
theorem xT:oP [.ref a] S Q=n9 S a λus=>Q (.int us.length) S:=rfl
def QV:=@xT
theorem zE:oP [.c7 ns] S Q=Q (.int ns.length) S:=rfl
def SN:=@zE
theorem yk:oP [.str z] S Q=(z.length≤sizeLine∧Q (.int z.length) S):=rfl
def T1:=@yk
theorem yt:mE (.bW ws) (.int i) S Q=match nC ws i with
 |some w=>Q w S
 |none=>False:=rfl
def Cq:=@yt
theorem zG:mE (.ref a) (.int i) S Q=n9 S a λws=>match nC ws i with
 |some w=>Q w S
 |none=>False:=rfl
def Op:=@zG
theorem yU:mE (.c7 ns) (.int i) S Q=match nC ns i with
 |some n=>Q (.int n) S
 |none=>False:=rfl
def VR:=@yU
theorem yf:mE (.str x) (.int i) S Q=(x.length≤sizeLine∧match nC x.cps.toList i with
 |some c=>Q (.str ⟨#[c]⟩) S
 |none=>False):=rfl
def PP:=@yf
theorem Aa{ws:List W}{lo hi:Option Int}:z_ (.bW ws) lo hi S Q=Q (.bW (o4 ws lo hi)) S:=rfl
def Te:=@Aa
theorem zh{z:ah}{lo hi:Option Int}:z_ (.str z) lo hi S Q=(z.length≤sizeLine∧Q (.str (cV z lo hi)) S):=rfl
def T3:=@zh
theorem zR{a:ai}{lo hi:Option Int}:z_ (.ref a) lo hi S Q=n9 S a λws=>∀p,S p=none→Q (.ref p) (bR S p (.bP (o4 ws lo hi))):=rfl
def O_:=@zR
theorem zw{ns:List Int}{lo hi:Option Int}:z_ (.c7 ns) lo hi S Q= ∀p,S p=none→Q (.ref p) (bR S p (.bP ((o4 ns lo hi).map W.int))):=rfl
def T7:=@zw
theorem zP:rF [.bW us] S Q=Q (.bW us) S:=rfl
def Zt:=@zP
theorem zC:rF [.ref a] S Q=n9 S a λus=>Q (.bW us) S:=rfl
def SX:=@zC
theorem xZ:qu (.ref a) [y] S Q=n9 S a λxs=>xs.length<sizeLine∧Q .ca (bR S a (.bP (xs++[y]))):=rfl
def Xp:=@xZ
theorem yQ:Pa (.ref a) [] S Q=n9 S a λxs=>match xs[xs.length - 1]? with
 |some y=>Q y (bR S a (.bP xs.dropLast))
 |none=>False:=rfl
def YE:=@yQ
theorem zI:vL (.ref a) [.bW ys] S Q=n9 S a λxs=>xs.length+ys.length≤sizeLine∧Q .ca (bR S a (.bP (xs++ys))):=rfl
def Qp:=@zI
theorem yu:vL (.ref a) [.ref b] S Q=n9 S a λxs=>n9 S b λys=>xs.length+ys.length≤sizeLine∧Q .ca (bR S a (.bP (xs++ys))):=rfl
def XW:=@yu
theorem Ag:zD (.ref a) ws S Q=n9 S a λxs=>xs.length+ws.length≤sizeLine∧Q .ca (bR S a (.bP (xs++ws))):=rfl
def WN:=@Ag
theorem Ac:pM (.ref a) S=n9 S a λ_=>True:=rfl
def SA:=@Ac
theorem yX:uR (.str x) S=True:=rfl
def OH:=@yX
theorem yb:xi [.bl b] S Q=Q (.int (if b then 1 else 0)) S:=rfl
def Zx:=@yb
theorem yY:xi [.int i] S Q=Q (.int i) S:=rfl
def OK:=@yY
theorem zq:QX [.int i, .int j] S Q=Q (.int (if j > i then j else i)) S:=rfl
def SR:=@zq
theorem zg:ui [.int i, .int j] S Q=Q (.int (if j<i then j else i)) S:=rfl
def Wl:=@zg
theorem zo:xh (.str z) ws S Q=match uP ws with
 |some ys=>(ys.map (·.length)).sum+ys.length*z.length≤16777216∧Q (.str (du z ys)) S
 |none=>False:=rfl
def ZN:=@zo
theorem za:Xm (.str z) [.str y] S Q=match c6 z y 0 z.length 1 with
 |i::_=>Q (.int i) S
 | []=>False:=rfl
def UR:=@za
theorem zl:pq neg .ca .ca S Q=Q (.bl (!neg)) S:=rfl
def Pi:=@zl
theorem An:pq neg (.bl a) (.bl b) S Q=Q (.bl (if neg then a != b else a == b)) S:=rfl
def TX:=@An
theorem y_:pq neg (.bl a) .ca S Q=Q (.bl neg) S:=rfl
def Ts:=@y_
theorem ya:pq neg (.bW ws) .ca S Q=Q (.bl neg) S:=rfl
def MZ:=@ya
theorem Ah:pq neg (.ref a) .ca S Q=Q (.bl neg) S:=rfl
def R_:=@Ah
theorem xY:pq neg (.int a) .ca S Q=Q (.bl neg) S:=rfl
def Xs:=@xY
theorem yW:uI neg x (.bW ws) S Q=match rH S x ws with
 |some b=>Q (.bl (if neg then !b else b)) S
 |none=>False:=rfl
def ZL:=@yW
theorem xW:uI neg x (.ref a) S Q=n9 S a λws=>match rH S x ws with
 |some b=>Q (.bl (if neg then !b else b)) S
 |none=>False:=rfl
def V0:=@xW
theorem yd:uI neg (.str i) (.str j) S Q=Q (.bl (if neg then !(!(c6 j i 0 j.length 1).isEmpty) else !(c6 j i 0 j.length 1).isEmpty)) S:=rfl
def PQ:=@yd
end
theorem DF{G:lr→Prop}(I:List W→mU→lr→Prop)
  (step:∀w ws σ S (N:mU→lr→Prop),I (w::ws) σ S→(∀σ' S' S'',Sub S'' S'→G S''→I ws σ' S''→N σ' S')→g w σ S λσ1 S1=>b E { D with nx:=N,ct:=N,bk:=D.nx } σ1 S1)
  (done:∀σ S,I [] σ S→D.nx σ S):∀(ws:List W) (σ:mU) (S:lr),I ws σ S→mO g b E D G ws σ S
 | [],σ,S,h=>done σ S h
 |w::ws,σ,S,h=>step w ws σ S _ h λσ' S' S'' sb hG hI=>⟨S'',sb,hG,DF I step done ws σ' S'' hI⟩
section
variable {E:WX}{σ:mU}{S:lr}{Q:WK}{QB:Bool→lr→Prop}{QA:List W→lr→Prop}{QI:List W→(lr→Prop)→lr→Prop}{QO:Option Int→lr→Prop}{P:mU→lr→Prop}{D:mY}{w x y:W}{ws:List W}{EX:ah→lr→Prop}
def zL:=@jn.eq_1
def Ep:=@wC.eq_1
def D4:=@mq.eq_1
def JQ:=@oX.eq_1
def Ju:=@nA.eq_1
def RK:=@rG.eq_1
def ZB:=@tz.eq_1
def Zc:=@sQ.eq_1
def YU:=@vW.eq_1
def Pv:=@yP.eq_1
def Xb:=@nD.eq_1
def Vy:=@nB.eq_1
def Q6:=@mz.eq_1
def L4:=@mS.eq_1
def S_:=@oZ.eq_1
def rp:=@mx.eq_1
def VT:=@mr.eq_1
def Fk:=@o6.eq_1
def yJ:=@nQ.eq_1
def FU:=@pB.eq_1
def U_:=@ae.eq_1
def U1:=@jM.eq_1
def Sq:=@m5.eq_1
def MH:=@nJ.eq_1
def NG:=@nw.eq_1
def O0:=@mG.eq_1
def uB:=@nz.eq_1
def Tt:=@qX.eq_1
def Z3:(P6 t u E σ S QA)=(t E σ S λx S1=>u E σ S1 λy S2=>match x,y with
 | .ref a, .ref b=>n9 S2 a λxs=>n9 S2 b λys=>xs.length+ys.length≤sizeLine∧QA (xs++ys) S2
 |_,_=>False):=pz id id
def Ji:=@oK.eq_1
def Sz:=@vP.eq_1
def Tq:=@oz.eq_1
def YI:=@ou.eq_1
def Ua:=@oD.eq_1
def Xv:=@wB.eq_1
def Q_:=@qK.eq_1
def Ub:=@vT.eq_1
def Pu:=@zx.eq_1
def ZG:=@tG.eq_1
def SV:=@rM.eq_1
def Vr:=@wM.eq_1
def Qb:=@vm.eq_1
def Xy:=@vV.eq_1
def VS:=@oB.eq_1
def Uq:=@oq.eq_1
def XI:=@uJ.eq_1
def RV:=@px.eq_1
def Qx:=@o9.eq_1
def Tf:=@uE.eq_1
def Yk:=@tf.eq_1
def YG:=@vc.eq_1
def Ue:=@uw.eq_1
def MX:=@rR.eq_1
def Sm:=@uG.eq_1
def T8:=@xr.eq_1
def Xj:=@xo.eq_1
end
section
variable {S:lr}{Q:WK}
theorem Ad:U3 (.bW xs) (.int k) S Q=((xs≠ []∧ -(2 ^ 63)≤k∧k<2 ^ 63∧xs.length*k.toNat≤sizeLine)∧Q (.bW (bn k.toNat xs).flatten) S):=rfl
def YB:=@Ad
theorem zi:w6 neg y (.ref a) S Q=(match sM y with
 |some k=>uA S a λgN=>Q (.bl (if neg then !(pK gN k).isSome else(pK gN k).isSome)) S
 |none=>False):=rfl
def Vp:=@zi
theorem zW:ZU (.ref a) y S Q=(match sM y with
 |some k=>uA S a λgN=>match pK gN k with
  |some w=>Q w S
  |none=>False
 |none=>False):=rfl
def V8:=@zW
def W9:=@wg.eq_1
theorem zV:xU (.str z) [] S Q=(z.length≤5592405∧Q (.str (eI z)) S):=rfl
def OW:=@zV
theorem DO:∀p:List Int,qD (p.map W.int)=aa p
 | []=>rfl
 |i::p=>by rw[aC,qD,DO p];rfl
def Gy (p:List Int):sM (mB p)=aa p:=DO p
def MT{P:List (List Int×W)→Prop}:uA (bR S a (.dct gN)) a P=P gN:=Ft mR
end
end L2
section
def L2.wZ (d:String):Lean.MacroM (Lean.TSyntax `tactic):=do
  let a:Array jq:=(("L2.zL L2.Ep L2.D4 L2.JQ L2.Ju L2.RK L2.ZB L2.Zc L2.YU L2.Pv L2.Xb L2.Vy L2.Q6 L2.L4 L2.S_ L2.rp L2.VT L2.Fk L2.yJ L2.FU L2.U_ L2.U1 L2.Sq L2.MH L2.NG L2.O0 L2.uB L2.Tt L2.Ji L2.Sz L2.Tq L2.YI L2.Ua L2.Xv L2.Q_ L2.Ub L2.Pu L2.ZG L2.SV L2.Vr L2.Qb L2.Xy L2.VS L2.Uq L2.XI L2.RV L2.Qx L2.Tf L2.Yk L2.YG L2.Ue L2.MX L2.Sm L2.T8 L2.Xj Mq IL L2.YB L2.Vp L2.V8 L2.W9 L2.TD L2.OW L2.Gy L2.MT L2.zt L2.pI L2.Es L2.HN L2.Jd L2.HD L2.Bm L2.Gi L2.Gx L2.KJ L2.Ip L2.Oc L2.Gn L2.GA L2.L_ L2.MA L2.Mj L2.MK L2.Hg L2.He L2.Ir L2.J6 L2.MR L2.OA L2.LD L2.oC L2.oU L2.K7 L2.Mn L2.MG L2.oR L2.oW L2.J8 L2.Vl L2.Ta L2.Um L2.SS L2.Jh L2.B9 L2.Xg L2.VG L2.Wp L2.W8 L2.PD L2.Rc L2.UT L2.Zs L2.CS L2.Gu L2.SO L2.We L2.Y4 L2.OX L2.O6 L2.QV L2.SN L2.T1 L2.Cq L2.Op L2.VR L2.PP L2.Te L2.T3 L2.O_ L2.T7 L2.Zt L2.SX L2.Xp L2.YE L2.Qp L2.XW L2.WN L2.SA L2.OH L2.Zx L2.OK L2.SR L2.Wl L2.ZN L2.UR L2.Pi L2.TX L2.Ts L2.MZ L2.R_ L2.Xs L2.ZL L2.V0 L2.PQ List.map_cons List.map_nil List.length_cons List.length_nil List.cons_append List.nil_append List.append_nil List.replicate List.getElem?_cons_zero List.getElem?_cons_succ List.getElem?_nil List.set_cons_zero List.set_cons_succ Nat.reduceAdd Nat.reduceSub true_and and_true if_true if_false Bool.false_eq_true reduceIte Bool.not_true Bool.not_false Option.join_some Option.join_none decide_eq_true_eq and_self".splitOn " ").filter (· != d)).toArray.map λs=>jK s.toName
  `(tactic| simp only [$[$a:term],*])
local macro_rules | `(tactic| walk_at "wp") => L2.wZ ""
def L2.wY:Lean.MacroM (Lean.TSyntax `tactic):=do
  let a:Array jq:=("L2.jn L2.wC L2.mq L2.oX L2.nA L2.rG L2.tz L2.sQ L2.vW L2.yP L2.nD L2.nB L2.mz L2.mS L2.oZ L2.mx L2.mr L2.o6 L2.nQ L2.pB L2.ae L2.jM L2.m5 L2.nJ L2.nw L2.mG L2.nz L2.qX L2.oK L2.vP L2.oz L2.ou L2.oD L2.wB L2.qK L2.vT L2.zx L2.tG L2.rM L2.wM L2.vm L2.vV L2.oB L2.oq L2.uJ L2.px L2.o9 L2.uE L2.tf L2.vc L2.uw L2.rR L2.uG L2.xr L2.xo L2.Ad L2.zi L2.zW L2.wg L2.v5 L2.zV L2.yE L2.yL L2.zn L2.zy L2.Ab L2.Al L2.zz L2.Ak L2.yT L2.yF L2.yZ L2.zK L2.yc L2.zH L2.yH L2.zM L2.yN L2.zJ L2.yy L2.yo L2.yg L2.Am L2.xT L2.zE L2.yk L2.yt L2.zG L2.yU L2.yf L2.Aa L2.zh L2.zR L2.zw L2.zP L2.zC L2.xZ L2.yQ L2.zI L2.yu L2.Ag L2.Ac L2.yX L2.yb L2.yY L2.zq L2.zg L2.zo L2.za L2.zl L2.An L2.y_ L2.ya L2.Ah L2.xY L2.yW L2.xW L2.yd List.map_cons List.map_nil List.length_cons List.length_nil List.cons_append List.nil_append List.append_nil List.replicate List.getElem?_cons_zero List.getElem?_cons_succ List.getElem?_nil List.set_cons_zero List.set_cons_succ Nat.reduceAdd Nat.reduceSub Option.join_some Option.join_none Bool.not_true Bool.not_false".splitOn " ").toArray.map λs=>jK s.toName
  let b:Array jq:=("Mq IL L2.Gy L2.MT L2.zt L2.pI L2.Es L2.HN L2.Jd L2.HD L2.Bm L2.Gi L2.Gx L2.KJ L2.Ip L2.Oc L2.Gn L2.GA L2.L_ L2.MA L2.Mj L2.MK L2.Hg L2.He L2.Ir L2.J6 L2.MR L2.OA L2.LD L2.oC L2.oU L2.K7 L2.Mn L2.MG L2.oR L2.oW List.map_cons List.map_nil List.length_cons List.length_nil List.cons_append List.nil_append List.append_nil List.replicate List.getElem?_cons_zero List.getElem?_cons_succ List.getElem?_nil List.set_cons_zero List.set_cons_succ Nat.reduceAdd Nat.reduceSub true_and and_true if_true if_false Bool.false_eq_true reduceIte Bool.not_true Bool.not_false Option.join_some Option.join_none decide_eq_true_eq and_self".splitOn " ").toArray.map λs=>jK s.toName
  `(tactic| (first | (dsimp only [$[$a:term],*]; (try simp only [$[$b:term],*]); (try dsimp only [$[$a:term],*]); (try simp only [$[$b:term],*])) | (simp only [$[$b:term],*]; (try dsimp only [$[$a:term],*]); (try simp only [$[$b:term],*]))))
local macro_rules | `(tactic| ext) => L2.wY
namespace L2
open PySem PySem.Spec PyProof.Rows
def Mq:(Cu c t E σ S Q)=(t vp σ S λws S1=>c ws S1 Q λcl S2=>E cl σ S2):=pz id id
def CO:(vd x t E D σ S)=(t E σ S λws S1=>ws.length≤sizeLine∧E x σ S1):=pz id id
def IL:(Cp al t u E D σ S)=(t (λcl σ' S'=>cl∈al∧u vp D σ' S') D σ S):=pz id id
def xq:Expr→Bool
 | .Starred .. =>false
 |_=>true
def rf (es:List Expr):Bool:=es.all xq
def zu:Expr→Bool
 | .ListComp .. =>false
 | .SetComp .. =>false
 | .DictComp .. =>false
 |_=>true
def vZ:Expr→Bool
 | .Set .. =>false
 |_=>true
def qI {α:Type}:List α→Option α
 | []=>none
 |a::r=>bif r.isEmpty then aa a else none
def eNm:Expr→Option ah
 | .Name x _=>aa x
 |_=>none
def zc:Expr→Option (ah×List Expr)
 | .Call f es ks _=>(eNm f).bind λx=>bif ks.isEmpty&&es.all xq&& !es.isEmpty then aa (x,es) else none
 |_=>none
def Fw:Expr→Option (Option Expr×Option Expr)
 | .Slice lo hi st _=>bif st.isNone then aa (lo,hi) else none
 |_=>none
def Dh:Expr→Option (Expr×Scope×bw×g9)
 | .ListComp e gs s p=>(qI gs).bind λg=>if g.is_async=0 then aa (e,s,p,g) else none
 |_=>none
def N4:List ExceptHandler→Option (ah×List aW)
 | []=>none
 | .ExceptHandler t n b _::r=>bif r.isEmpty&&n.isNone&& !b.isEmpty then t.bind λe=>(eNm e).map λx=>(x,b) else none
def GB:Expr→Bool
 | .Slice .. =>false
 |_=>true
def DZ:Expr→Bool
 | .Call _ [] _ _=>false
 |_=>true
section
variable {e:Expr}{es:List Expr}{env:bN}{pos:bw}
def qa (h:xq e=true):ax (e::es) env=(false,aH e env)::ax es env:=by
 cases e<;>first |rfl |cases h
def AI (h:rf es=true):(aZ pos (ax es env)).any (·.1)=false:=by
 induction es with
 |nil=>rfl
 |cons e es ih=>
  simp only[rf,e_,bT]at h;rw[qa h.1];exact ih h.2
def FL (h:zu e=true):eG e tg n env=pure false:=by
 cases e<;>first |rfl |cases h
def Er (h:vZ e=true):fK op e=false:=by
 cases e<;>first |rfl |cases h
def Fy (h:vZ e=true) (x:aj):dF e env x=pure x:=by
 cases e<;>first |rfl |cases h
def LB (h:GB e=true):Cc e:=λo i=>by
 cases e<;>first |rfl |cases h
def yV (h:DZ e=true):cJ e m env t=t:=by
 cases e with
 |Call f as ks p=>
  cases as with
  |nil=>cases h
  |cons a as=>cases f<;>rfl
 |_=>rfl
end
structure Tb where
  fn:ah→Option mI
  gl:ah→Option W
  bl:List ah
  xs:List ah
  ex:List (ah×ah)
  cn:bw→List ah
  dn:ah→Bool
  nt:ah→Bool
structure Cn where
  N:List ah
  sc:Scope
  fn:Bool
  calm:Bool
structure Rg where
  e:Cn→Expr→WE
  t:Cn→Expr→WT
  l:Cn→Expr→Option WL
  s:Cn→aW→WS
def nV {α β γ δ:Type}:α→β→γ→δ→Prop:=λ_ _ _ _=>False
def uo (x:ah):List ah→Nat→Option Nat
 | [],_=>none
 |y::r,i=>if x=y then aa i else uo x r (i+1)
theorem Gm:∀{N:List ah}{j i:Nat},uo x N j=aa i→j≤i∧N[i - j]? =aa x
 | [],_,_,h=>nomatch h
 |y::r,j,i,h=>by
  unfold uo at h;split at h
  ·cases h;subst x;exact⟨aA _,by simp⟩
  ·obtain⟨h1,h2⟩:=Gm h;refine⟨by lia,?_⟩;rw[show i - j=(i - (j+1))+1 by lia]
   exact h2
def Cn.vis (c:Cn) (x:ah):Bool:=(match c.sc.names.lookup x with
 |some .local |some .cell |some .free=>true
 |_=>false)&& !(x == ("__debug__" :ah))&& !(x == ("__classdict__" :ah))
def Cn.loc (c:Cn) (x:ah):Bool:=match c.sc.names.lookup x with
 |some .local=>true
 |some .cell=>c.fn
 |_=>false
def Cn.glo (c:Cn) (x:ah):Bool:=(match c.sc.names.lookup x with
 |some .globalImplicit=>true
 |_=>false)&& !(x == ("__debug__" :ah))
def oN {α β γ δ:Type}(b:Bool) (t:α→β→γ→δ→Prop):α→β→γ→δ→Prop:=bif b then t else nV
def iA (f:Expr→WE):List Expr→WA
 | []=>ae
 |e::es=>jM (f e) (iA f es)
def iO (f:Expr→WE) (o:Option Expr):WO:=o.elim oz λe=>ou (f e)
def vn (f:aW→WS):List aW→WS
 | []=>nB
 |s::r=>bif r.isEmpty then f s else mz (f s) (vn f r)
def BL (o:BoolOp) (f:Expr→WE):List Expr→WE
 | []=>nV
 |e::r=>bif r.isEmpty then f e else match o with
  | .And=>vW (f e) (BL o f r)
  | .Or=>Hq (f e) (BL o f r)
def Bu (o:BoolOp) (f:Expr→WT):List Expr→WT
 | []=>nV
 |e::r=>bif r.isEmpty then f e else match o with
  | .And=>rG (f e) (Bu o f r)
  | .Or=>tz (f e) (Bu o f r)
def AM (c:Cn) (x:ah):WG:=(uo x c.N 0).elim nV λk=>oN (c.loc x) (mx k)
def B0 (c:Cn):List Expr→WGs
 | []=>o6
 |e::r=>(eNm e).elim nV λx=>nQ (AM c x) (B0 c r)
def iG (c:Cn) (e:Expr):WG:=match e with
 | .Name x _=>AM c x
 | .Tuple es _ _=>oN (rf es&&c.calm) (pB (B0 c es))
 |_=>nV
def Tj (T:Tb) (e:Expr):Bool:=(eNm e).elim false T.dn
def UG (T:Tb):Expr→Bool
 | .Call f _ _ _=>(eNm f).elim false T.nt
 |_=>false
def isT:Expr→Bool
 | .Tuple .. =>true
 |_=>false
def C1:Expr→Bool
 | .Compare .. =>false
 | .UnaryOp o _ _=>decide (o≠ .Not)
 | .BoolOp .. =>false
 | .IfExp .. =>false
 |_=>true
def iK:Const→Option W
 | .int n=>aa (.int n)
 | .bool b=>aa (.bl b)
 | .none=>aa .ca
 | .str x=>aa (.str x)
 |_=>none
def Ls:Operator→Option W2
 | .Add=>aa om
 | .Sub=>aa (rj λi j=> .int (i - j))
 | .Mult=>aa (oH rk λi j=> .int (i*j))
 | .FloorDiv=>aa (oH sB λi j=> .int (i / j))
 | .Mod=>aa (oH (λ_ j=>0<j) λi j=> .int (i % j))
 | .Pow=>aa (oH CC λi j=> .int (i ^ j.toNat))
 |_=>none
def J1 (d:Bool):CmpOp→Option W2
 | .Eq=>aa (oK false)
 | .NotEq=>aa (oK true)
 | .Lt=>aa uZ
 | .LtE=>aa sD
 | .Gt=>aa ux
 | .GtE=>aa Lk
 | .Is=>aa (pq false)
 | .IsNot=>aa (pq true)
 | .In=>aa (if d then w6 false else uI false)
 | .NotIn=>aa (if d then w6 true else uI true)
def bA:List (ah×WF):=[("len",oP),("tuple",rF),("int",xi),("min",ui)]
def bL:List (ah×WF):=[("tuple",vT),("all",tG),("sum",wg),("dict",v5)]
def mA:List (ah×(W→lr→Prop)×rB):=[("append",pM,qu),("extend",pM,vL)]
def mL:List (ah×(W→lr→Prop)×rB):=[("extend",pM,zD),("join",uR,xh)]
def m0:List (ah×(W→lr→Prop)×rB):=[("upper",uR,xU)]
def Lv:List (ah×String):=[("int", "int"),("bool", "bool"),("str", "str"),("tuple", "tuple"),("list", "list")]
section
variable (T:Tb) (i:Rg) (c:Cn)
def AY:Expr→Option WL
 | .Subscript a b _=>(Fw b).map λq=>vc (i.e c a) (iO (i.e c) q.1) (iO (i.e c) q.2)
 |_=>none
def BR (a:Expr) (os:List CmpOp) (bs:List Expr):WE:=(qI os).elim (match bs with
 | []=>nV
 |b::r=>(qI r).elim nV λd=>oN (decide (os=[.LtE, .LtE])&&vZ d) (vP sD sD (i.e c a) (i.e c b) (i.e c d))) λo=>(qI bs).elim nV λb=>(J1 (Tj T b) o).elim nV λw=>oN (vZ b&&c.calm) (mq w (i.e c a) (i.e c b))
def IW (x:ah) (es:List Expr):Option WL:=(qI es).bind λa=>(i.l c a).elim (bif decide (x= "tuple") then AY i c a else none) aa
def IR:List Expr→WE
 | []=>nV
 |a::r=>((qI r).bind eNm).elim nV λt=>(Lv.lookup t).elim nV λs=>oN (c.glo t&&T.bl.contains t) (rM s (i.e c a))
def iB (x:ah) (es:List Expr):WE:=bif decide (x= "isinstance") then IR T i c es else((IW i c x es).bind λl=>(bL.lookup x).map λf=>qK f l).elim ((bA.lookup x).elim nV λf=>oN (!es.isEmpty) (wB f (iA (i.e c) es))) id
def iM (m:ah) (o:Expr):List Expr→WE
 | []=>(m0.lookup m).elim nV λq=>wM q.1 q.2 (i.e c o) ae
 |a::r=>oN r.isEmpty (((i.l c a).bind λl=>(mL.lookup m).map λq=>vm q.1 q.2 (i.e c o) l).elim ((mA.lookup m).elim nV λq=>wM q.1 q.2 (i.e c o) (iA (i.e c) [a])) id)
def Lx (f:Expr) (es:List Expr) (p:bw):WE:=match f with
 | .Name x _=>oN (c.glo x&&rf es&&c.calm) ((T.fn x).elim (oN (T.bl.contains x) (iB T i c x es)) λs=>oN (!es.isEmpty) (mG s (iA (i.e c) es)))
 | .Attribute o m ap=>oN (DZ o&&rf es&&(ap.endLine == p.line)) (iM i c m o es)
 |_=>nV
def N0 (e:Expr):WE:=(i.l c e).elim (match e with
  | .Name x _=>(uo x c.N 0).elim ((T.gl x).elim nV λw=>oN (c.glo x) (wC w)) λk=>oN (c.vis x) (jn k)
  | .Constant v _ _=>(iK v).elim nV wC
  | .UnaryOp o a _=>(match o with
   | .Not=>bif UG T a then yh (i.e c a) else Oa (i.e c a)
   | .USub=>qX (i.e c a)
   |_=>nV)
  | .BinOp a o b _=>(Ls o).elim nV λw=>mq w (i.e c a) (i.e c b)
  | .Compare a os bs _=>BR T i c a os bs
  | .BoolOp o es _=>BL o (i.e c) es
  | .IfExp t a b _=>yP (i.t c t) (i.e c a) (i.e c b)
  | .Tuple es _ _=>oN (rf es) (m5 (iA (i.e c) es))
  | .Subscript a b _=>(Fw b).elim (oN (GB b) ((i.l c a).elim (mq mE (i.e c a) (i.e c b)) λl=>uw l (i.e c b))) λq=>oD (i.e c a) (iO (i.e c) q.1) (iO (i.e c) q.2)
  | .Call f es ks p=>oN ks.isEmpty (Lx T i c f es p)
  |_=>nV) nw
def KU (e:Expr):WT:=match e with
 | .Compare a os bs _=>(qI os).elim nV λ_=>nA (BR T i c a os bs)
 | .UnaryOp o a _=>bif decide (o= .Not) then sQ (i.t c a) else oN (C1 e) (oX (i.e c e))
 | .BoolOp o es _=>Bu o (i.t c) es
 |e=>oN (C1 e) (oX (i.e c e))
def N2 (tg:Expr) (x:ah) (es:List Expr):Option WI:=bif decide (x= "range") then(qI es).map λa=>uJ (iA (i.e c) [a]) else bif decide (x= "enumerate")&&isT tg then(qI es).map λa=>uE (i.e c a) else bif decide (x= "zip")&&isT tg then(match es with
 | []=>none
 |a::r=>(qI r).map λb=>tf (i.e c a) (i.e c b)) else none
def iI (tg e:Expr):WI:=((zc e).bind λq=>bif c.glo q.1&&T.bl.contains q.1 then N2 i c tg q.1 q.2 else none).elim ((i.l c e).elim (oq (i.e c e)) NS) id
def Eg (s:Scope) (c:Cn):Scope:={ s with names:=s.names.map λ(n,k)=>if(k == .free&&c.sc.kind == .function&&c.sc.names.lookup n == aa .cell) then(n, .cell) else(n,k) }
def F7 (s:Scope) (N:List ah) (k:Nat) (fr:List Nat):Bool:=decide (s.kind= .function)&&decide N.Nodup&&decide (N.length=k+fr.length)&&(s.names.all λy=>y.2 != cf)
 &&(s.names.all λy=>y.2 != b9.local || s.names.lookup y.1 == aa b9.local)&&(s.names.all λy=>y.2 != a_ || c.sc.names.lookup y.1 == aa cf || c.sc.names.lookup y.1 == aa a_)
 &&((N.drop k).all λx=>s.names.lookup x == aa a_)&&decide (N.drop k=fr.map λj=>c.N.getD j fH)&&(fr.all λj=>decide (j<c.N.length))
def iC (q:Expr×Scope×bw×g9):WL:=
 let N:=T.cn q.2.2.1
 let fr:=(N.filter λx=>q.2.1.names.lookup x == aa a_).filterMap λx=>uo x c.N 0
 let d:Cn:=⟨N,Eg q.2.1 c,false,true⟩
 oN (F7 c q.2.1 N (N.length - fr.length) fr&&vZ q.2.2.2.iter&&c.calm) (o9 (N.length - fr.length) fr (iI T i c q.2.2.2.target q.2.2.2.iter) (iG d q.2.2.2.target) (match q.2.2.2.ifs with
  | []=>px
  |t::r=>oN r.isEmpty (i.t d t)) (i.e d q.1))
def K6 (e:Expr):Option WL:=match e with
 | .List es _=>bif rf es then aa (nJ (iA (i.e c) es)) else none
 | .ListComp .. =>(Dh e).map (iC T i c)
 | .BinOp a o b _=>(match o with
  | .Mult=>(i.l c a).map λl=>xo l (i.e c b)
  | .Add=>(i.l c a).elim ((i.l c b).map λm=>(AY i c a).elim (rR (i.e c a) m) λl=>uG l m) λl=>aa (((i.l c b).elim (AY i c b) aa).elim (xr l (i.e c b)) λm=>uG l m)
  |_=>none)
 | .Call .. =>(zc e).bind λq=>bif decide (q.1= "list")&&c.glo q.1&&T.bl.contains q.1 then(qI q.2).map λa=>zx (i.e c a) else none
 |_=>none
def iX:List aW→WS
 | []=>nV
 |s::r=>match s with
  | .Return v _=>(v.bind zc).elim nV λq=>(T.fn q.1).elim nV λs=>oN (r.isEmpty&&c.glo q.1) (mS (Cu s (iA (i.e c) q.2)))
  |_=>nV
def LF (tg e:Expr):WS:=match tg with
 | .Name x _=>(uo x c.N 0).elim nV λk=>oN (c.loc x) ((Dh e).elim (oN (zu e) (mr (i.e c e) (mx k))) λq=>mr (nw (iC T i c q)) (mx k))
 | .Tuple .. =>oN (zu e&& !isT e) (mr (i.e c e) (iG c tg))
 |_=>nV
def LC (s:aW):WS:=match s with
 | .Return v _=>v.elim NP λe=>mS (i.e c e)
 | .Pass _=>nB
 | .Expr e _=>oN (zu e) (oZ (i.e c e))
 | .If t a b _=>nD (i.t c t) (vn (i.s c) a) (vn (i.s c) b)
 | .While t b os _=>oN os.isEmpty (wF (i.t c t) (vn (i.s c) b))
 | .For tg it b os _=>oN (os.isEmpty&&vZ it&&c.calm) (oB (iI T i c tg it) (iG c tg) (vn (i.s c) b))
 | .AugAssign t o e _=>oN (decide (o= .Add)) ((eNm t).elim nV λx=>(uo x c.N 0).elim nV λk=>oN (c.loc x) (vV k (λa b=>a+b) (i.e c e)))
 | .Assign ts e _=>(qI ts).elim nV λtg=>LF T i c tg e
 | .Raise v cs _=>(v.bind zc).elim nV λq=>oN (cs.isNone&&T.xs.contains q.1&&c.glo q.1&&c.calm) (vd q.1 (iA (i.e c) q.2))
 | .Try b hs os fs p=>(N4 hs).elim nV λq=>oN (os.isEmpty&&fs.isEmpty&&c.fn&&c.calm&&c.glo q.1&&((T.cn p).all λy=>T.ex.contains (y,q.1))&& !(T.cn p).isEmpty) (Cp (T.cn p) (iX T i c b) (vn (i.s ⟨c.N,c.sc,true,false⟩) q.2))
 |_=>nV
end
def Q5 (T:Tb) (i:Rg):Rg:=⟨N0 T i,KU T i,K6 T i,LC T i⟩
def XF:Rg:=⟨λ_ _=>nV,λ_ _=>nV,λ_ _=>none,λ_ _=>nV⟩
def EH (T:Tb):Nat→Rg
 |0=>XF
 |n+1=>Q5 T (EH T n)
def Vd (T:Tb) (n k:Nat) (N:List ah) (st:aW):mI:=nz n k (vn ((EH T 40).s ⟨N,qp st,true,true⟩) (uh st))
structure En where
  eNm:ah
  st:aW
  N:List ah
  k:Nat
  c:Nat→mI
def En.ps (e:En):List ah:=e.N.take e.k
def En.ok (e:En):Bool:=decide ((qp e.st).kind= .function)&& !(qp e.st).isCoroutine&& !(qp e.st).isGenerator&&decide e.N.Nodup&&decide (e.N.take e.ps.length=e.ps)&&decide (e.ps.length=e.k)&&decide (e.k≤6)
 &&(e.ps.all λx=>decide ((qp e.st).names.lookup x=aa .local) || decide ((qp e.st).names.lookup x=aa .cell))&&(qp e.st).names.all λy=>y.2 != .free
def En.bd (e:En) (kV doc pm:aj) (an:Option ai) (cdv ct:aj) (vs:List aj):cj (List (ah×aj)):=jj (dU e.eNm e.eNm (xy e.st) (uh e.st) (qp e.st) .none kV doc pm an cdv ct) ⟨vs.take e.k,[]⟩
def En.rd (e:En) (T:Tb):mI:=Vd T e.N.length e.k e.N e.st
def lkT (tab:List En) (r:Nat) (x:ah):Option mI:=(tab.map λe=>(e.eNm,e.c r)).lookup x
structure VV (T:Tb) (r:Nat) (X:Cx):Prop where
  fn:∀x s,T.fn x=aa s→ ∃f fd ps,oO X.prog X.w X.K X.mg X.base (rV X.prog X.w) r f fd ps (r9 X.K s)∧X.mg x=aa (.ref f)∧fe X.K (.ref f)=true∧pj X.K fd ps []
  gl:∀x w,T.gl x=aa w→(∃i u,w= .int i∧X.mg x=aa (.int i u))∨ ∃i u,w= .str i∧X.mg x=aa (.str i u)
  bl:∀x∈T.bl,X.mg x=none
  xs:∀x∈T.xs,∃C,qm X.K x C∧X.mg x=aa (.ref C)
  ex:∀p∈T.ex,∃C D,qm X.K p.1 C∧X.mg p.2=aa (.ref D)∧fx X.K (.ref C) (.ref D)=aa true
structure nU (T:Tb) (r:Nat) (X:Cx) (c:Cn):Prop where
  g:VV T r X
  N:X.N=c.N
  sc:X.env.scope=c.sc
  nd:c.N.Nodup
  fn:X.fn=λ_=>c.fn
  hr:c.calm=true→oj r X.A
  calm:X.calm=c.calm
  st:c.fn=true→X.stack=X.env::X.outer∧X.env.frame=aa X.env.locals
structure Rg.Ok (T:Tb) (r:Nat) (i:Rg):Prop where
  e:∀{X c e},nU T r X c→JE X e (i.e c e)
  t:∀{X c e},nU T r X c→JT X e (i.t c e)
  l:∀{X c e l},nU T r X c→i.l c e=aa l→JL X e l
  s:∀{X c s},nU T r X c→JS X s (i.s c s)
section
variable {T:Tb}{r:Nat}{X:Cx}{c:Cn}{i:Rg}{e a b:Expr}{es:List Expr}{x:ah}{pos p:bw}{k:Nat}
def rP:JE X e nV:=λ_ _ _ _ _ _ _ _ ⟨_,_,_,_,_,h,_⟩=>h.elim
def Fs:JT X e nV:=λ_ _ _ _ _ _ _ _ ⟨_,_,_,_,_,h,_⟩=>h.elim
def Vu:JL X e nV:=λ_ _ _ _ _ _ _ _ ⟨_,_,_,_,_,h,_⟩=>h.elim
def CF:JG X e nV:=λ_ _ _ _ _ _ _ _ _ _ _ ⟨_,_,_,_,_,_,_,h,_⟩=>h.elim
def z9:JS X s nV:=V6
def YQ:uX X es nV:=λ_ _ _ _ _ _ _ _ ⟨_,_,_,_,_,h,_⟩=>h.elim
def zU:wj X ss nV:=λ_ _ _ _ _ _ _ _ ⟨_,_,_,_,_,h,_⟩=>h.elim
def nU.at_ (F:nU T r X c) (h:uo x c.N 0=aa k):X.N[k]? =aa x:=by rw[F.N];exact(Gm h).2
def nU.ndX (F:nU T r X c):X.N.Nodup:=by rw[F.N];exact F.nd
def nU.vis (F:nU T r X c) (h:c.vis x=true):v7 X.env.scope x∧(x == ("__debug__" :ah))=false∧(x == ("__classdict__" :ah))=false:=by
 unfold Cn.vis at h;rw[bT,bT,fU,fU]at h;obtain⟨⟨h1,h2⟩,h3⟩:=h;refine⟨?_,h2,h3⟩;rw[F.sc];split at h1
 ·exact .inl ‹_›
 ·exact .inr (.inl ‹_›)
 ·exact .inr (.inr ‹_›)
 ·cases h1
def nU.loc (F:nU T r X c) (h:c.loc x=true):sZ X.env.scope x∧(X.fn x=true∨X.env.scope.names.lookup x=aa .local):=by
 unfold Cn.loc at h;rw[F.sc,F.fn];split at h
 ·exact⟨.inl ‹_›, .inr ‹_›⟩
 ·exact⟨.inr ‹_›, .inl h⟩
 ·cases h
def nU.glo (F:nU T r X c) (h:c.glo x=true):Gl X x∧(x == ("__debug__" :ah))=false:=by
 unfold Cn.glo at h;rw[bT,fU]at h;refine⟨?_,h.2⟩;unfold Gl bN.kindOf;rw[F.sc];have h1:=h.1;split at h1
 ·assumption
 ·cases h1
def nU.blt (F:nU T r X c) (h:T.bl.contains x=true):X.mg x=none:=F.g.bl x (ie.mp h)
def q_ (h:rf (e::es)=true):xq e=true∧rf es=true:=by
 simpa [rf]using h
section
variable {α β γ δ:Type}{b:Bool}
def sY{t:α→β→γ→δ→Prop}{P:(α→β→γ→δ→Prop)→Prop}(h0:P nV) (h:b=true→P t):P (oN b t):=by
 cases b with
 |true=>exact h rfl
 |false=>exact h0
def pJ{f:α→β}{P:β→Prop}(h0:o=none→P d) (h:∀a,o=aa a→P (f a)):P (o.elim d f):=by
 cases o with
 |none=>exact h0 rfl
 |some a=>exact h a rfl
def wH{P:α→Prop}(h0:b=false→P u) (h:b=true→P t):P (bif b then t else u):=by
 cases b with
 |true=>exact h rfl
 |false=>exact h0 rfl
def t7{t:Option α}{a:α}(h:(bif b then t else none)=aa a):b=true∧t=aa a:=by
 cases b with
 |true=>exact⟨rfl,h⟩
 |false=>cases h
def tu{f:α→β}(h:o.map f=aa y):∃a,o=aa a∧f a=y:=Option.map_eq_some_iff.mp h
def tm{o:Option α}{f:α→Option β}{y:β}(h:o.bind f=aa y):∃a,o=aa a∧f a=aa y:=Option.bind_eq_some_iff.mp h
def s_{l:List α}{a:α}(h:qI l=aa a):l=[a]:=by
 cases l with
 |nil=>cases h
 |cons x r=>
  obtain⟨h1,h2⟩:=t7 h;cases h2;rw[cA.mp h1]
end
def uS{α:Type}{o:Option α}{f:α→WE}(h:∀a,o=aa a→JE X e (f a)):JE X e (o.elim nV f):=pJ (P:=JE X e) (λ_=>rP) h
def rN{b:Bool}{t:WE}(h:b=true→JE X e t):JE X e (oN b t):=sY (P:=JE X e) rP h
def xF{α:Type}{s:aW}{o:Option α}{f:α→WS}(h:∀a,o=aa a→JS X s (f a)):JS X s (o.elim nV f):=pJ (P:=JS X s) (λ_=>z9) h
def tB{b:Bool}{s:aW}{t:WS}(h:b=true→JS X s t):JS X s (oN b t):=sY (P:=JS X s) z9 h
def wc{α:Type}{a:α}{P:Prop}(h:none=aa a):P:=nomatch h
def Jw (h:isT e=true):∃es k p,e= .Tuple es k p:=by
 cases e with
 |Tuple es k p=>exact⟨es,k,p,rfl⟩
 |_=>exact absurd h cX
def nS{a b:Bool}(h:(a&&b)=true):a=true∧b=true:=bT _ _▸h
def yj (h:eNm e=aa x):∃p,e= .Name x p:=by
 cases e with
 |Name y p=>cases h;exact⟨_,rfl⟩
 |_=>exact wc h
def BV{q:ah×List Expr}(h:zc e=aa q):∃p p' a r,e= .Call (.Name q.1 p) (a::r) [] p'∧q.2=a::r∧rf (a::r)=true:=by
 cases e with
 |Call f es ks p'=>
  obtain⟨x,h1,h2⟩:=tm h;obtain⟨g2,h3⟩:=t7 h2;obtain⟨g3,h4⟩:=nS g2;obtain⟨p,rfl⟩:=yj h1;cases h3;cases es with
  |nil=>cases h4
  |cons a r=>exact⟨p,p',a,r,by rw[cA.mp (nS g3).1],rfl,(nS g3).2⟩
 |_=>exact wc h
def JB{q:Option Expr×Option Expr}(h:Fw e=aa q):∃p,e= .Slice q.1 q.2 none p:=by
 cases e with
 |Slice lo hi st p=>
  obtain⟨h1,h2⟩:=t7 h;cases h2;cases st with
  |none=>exact⟨p,rfl⟩
  |some=>cases h1
 |_=>exact wc h
def MN{q:Expr×Scope×bw×g9}(h:Dh e=aa q):e= .ListComp q.1 [⟨q.2.2.2.target,q.2.2.2.iter,q.2.2.2.ifs,0⟩] q.2.1 q.2.2.1:=by
 cases e with
 |ListComp e gs s p=>
  obtain⟨g,h1,h2⟩:=tm h;rw[s_ h1];obtain⟨t,it,fs,n⟩:=g;dsimp only at h2;split at h2
  ·cases h2;subst n;rfl
  ·cases h2
 |_=>exact wc h
def Qr (h:N4 hs=aa q):∃p p' a r,hs=[.ExceptHandler (aa (.Name q.1 p)) none (a::r) p']∧q.2=a::r:=by
 cases hs with
 |nil=>cases h
 |cons z r=>
  obtain⟨t,n,b,p'⟩:=z;obtain⟨h1,h2⟩:=t7 h;obtain⟨g1,h3⟩:=nS h1;obtain⟨e,rfl,g2⟩:=tm h2;obtain⟨x,h5,h6⟩:=tu g2;obtain⟨p,rfl⟩:=yj h5;cases h6;cases b with
  |nil=>cases h3
  |cons a b=>
   cases n with
   |none=>exact⟨p,p',a,b,by rw[cA.mp (nS g1).1],rfl⟩
   |some=>cases(nS g1).2
theorem tQ (ok:i.Ok T r) (F:nU T r X c):∀{es:List Expr},rf es=true→JA X es (iA (i.e c) es)
 | [],_=>Vh
 |_::_,h=>Yv (ok.e F) (tQ ok F (q_ h).2) (qa (q_ h).1)
def Be (ok:i.Ok T r) (F:nU T r X c):JO X o (iO (i.e c) o):=by
 cases o with
 |none=>exact TN
 |some=>exact Pm (ok.e F)
theorem wz (ok:i.Ok T r) (F:nU T r X c):∀{ss:List aW},sI X ss (vn (i.s c) ss)
 | []=>SI
 |s::ss=>wH (P:=sI X (s::ss)) (λ_=>Px (ok.s F) (wz ok F)) λh=>by rw[cA.mp h];exact Qd (ok.s F)
theorem FA (ok:i.Ok T r) (F:nU T r X c):∀{es:List Expr},JE X (.BoolOp o es pos) (BL o (i.e c) es)
 | []=>rP
 | [_]=>Yr (ok.e F)
 |a::b::es=>by
  cases o
  ·exact Wu (ok.e F) (FA ok F)
  ·exact U7 (ok.e F) (FA ok F)
theorem DV (ok:i.Ok T r) (F:nU T r X c):∀{o:BoolOp}{es:List Expr},JW X (.BoolOp o es pos) (Bu o (i.t c) es)
 |_,[]=>λ_ _ _ _ _ _ _ _ _ ⟨_,_,_,_,_,h,_⟩=>h.elim
 | .And,[_]=>Xe (ok.t F)
 | .Or,[_]=>Uy (ok.t F)
 | .And,_::_::_=>OP (ok.t F) (DV ok F)
 | .Or,_::_::_=>QY (ok.t F) (DV ok F)
def BY (h:xq e=true):b_ (e::es) env=(false,assign e env)::b_ es env:=by
 cases e<;>first |rfl |cases h
def Hc (F:nU T r X c):JG X (.Name x pos) (AM c x):=pJ (P:=JG X (.Name x pos)) (λ_=>CF) λk h=>sY CF λq=>Yb F.ndX (F.at_ h) (F.loc q).1 (F.loc q).2
def X5{P:mU→lr→Prop}:AM c x w σ S P→ ∃σ' S',P σ' S':=pJ (P:=λ(t:WG)=>t w σ S P→ ∃σ' S',P σ' S') (λ_ h=>h.elim) λk _=>sY (P:=λ(t:WG)=>t w σ S P→ ∃σ' S',P σ' S') (λh=>h.elim) λ_ h=>⟨_,_,h⟩
def Qu:vS X es nV:=λ_ _ _ _ _ _ _ _ _ _ _ ⟨_,_,_,_,_,_,_,h,_⟩=>h.elim
theorem Np (F:nU T r X c):∀{es:List Expr},rf es=true→vS X es (B0 c es)∧(b_ es X.env).length=es.length∧(b_ es X.env).findIdx? (·.1)=none∧ ∀ws σ S P,B0 c es ws σ S P→ws.length=es.length
 | [],_=>⟨ZM,rfl,rfl,λws _ _ _ h=>by cases ws with |nil=>rfl |cons=>exact h.elim⟩
 |e::es,h=>by
  obtain⟨h1,h2⟩:=q_ h;obtain⟨g1,g2,g3,g4⟩:=Np F h2;refine⟨pJ (P:=vS X (e::es)) (λ_=>Qu) λx q=>?_,by rw[BY h1,aU,g2];rfl,by rw[BY h1,List.findIdx?_cons,g3];rfl,λws σ S P=>pJ (P:=λ(t:WGs)=>t ws σ S P→ws.length=es.length+1) (λ_ h=>h.elim) λx q h=>?_⟩
  ·obtain⟨p,rfl⟩:=yj q;exact Ra (Hc F) g1 (by rw[BY h1];rfl)
  ·cases ws with
   |nil=>exact h.elim
   |cons w ws=>obtain⟨σ',S',q⟩:=X5 h;rw[aU,g4 _ _ _ _ q]
def Cz (F:nU T r X c):JG X e (iG c e):=by
 cases e with
 |Name=>exact Hc F
 |Tuple es k p=>
  refine sY (P:=JG X (.Tuple es k p)) CF λh=>?_;obtain⟨g1,g2,g3,g4⟩:=Np F (nS h).1;exact Rr g1 g4 g2 g3 (F.calm.trans (nS h).2)
 |_=>exact CF
def UJ (h:Ls o=aa w) (ha:JE X a ta) (hb:JE X b tb):JE X (.BinOp a o b pos) (mq w ta tb):=by
 cases o<;>cases h
 ·exact Ql ha hb
 ·exact O3 ha hb
 ·exact Wq ha hb
 ·exact T6 ha hb
 ·exact V9 ha hb
 ·exact YF ha hb
def Xf (F:nU T r X c) (hc:c.calm=true) (h:J1 d o=aa w):∃R,n_ X (bB o) R∧rh X.K R w:=by
 have hu:=(F.hr hc).units;cases o<;>cases h
 ·exact⟨_,RY (by lia),LY⟩
 ·exact⟨_,QU (by lia),LY⟩
 ·exact⟨_,XR,D_⟩
 ·exact⟨_,sT.or Ff,EA⟩
 ·exact⟨_,VH,D_⟩
 ·exact⟨_,QC,D_⟩
 ·exact⟨_,UF,OL⟩
 ·exact⟨_,R6,Xh⟩
 ·cases d
  ·exact⟨_,sk.or (Rv (by lia)),λH x y wx wy S Q QW rx ry hS h hQ=>N7 rx ry hS h hQ⟩
  ·exact⟨_,SU (by lia),GR⟩
 ·cases d
  ·exact⟨_,qy.or (Sf (by lia)),λH x y wx wy S Q QW rx ry hS h hQ=>N7 rx ry hS h hQ⟩
  ·exact⟨_,Y1 (by lia),GR⟩
def UK (h:vZ b=true):g_ [.LtE, .LtE] [a,b]=false:=Er (op:= .LtE) h
def GY (ok:i.Ok T r) (F:nU T r X c) {os:List CmpOp}:JE X (.Compare a os bs pos) (BR T i c a os bs)∧ ∀o,qI os=aa o→JT X (.Compare a os bs pos) (nA (BR T i c a os bs)):=by
 have no:JT X (.Compare a os bs pos) (nA nV):=λ_ _ _ _ _ _ _ _ ⟨_,_,_,_,_,h,_⟩=>h.elim;refine pJ (P:=λt=>JE X (.Compare a os bs pos) t∧ ∀o,qI os=aa o→JT X (.Compare a os bs pos) (nA t)) (λh=>⟨?_,λo q=>by rw[h]at q;cases q⟩) λo h=>?_
 ·cases bs with
  |nil=>exact rP
  |cons b s=>
   refine uS λd q=>rN λz=>?_;rw[s_ q,of_decide_eq_true (nS z).1];exact YH (ok.e F) (ok.e F) (ok.e F) (UK (nS z).2)
 ·refine pJ (P:=λt=>JE X (.Compare a os bs pos) t∧ ∀o,qI os=aa o→JT X (.Compare a os bs pos) (nA t)) (λ_=>⟨rP,λ_ _=>no⟩) λb q=>pJ (P:=λt=>JE X (.Compare a os bs pos) t∧ ∀o,qI os=aa o→JT X (.Compare a os bs pos) (nA t)) (λ_=>⟨rP,λ_ _=>no⟩) λw z=>sY (P:=λt=>JE X (.Compare a os bs pos) t∧ ∀o,qI os=aa o→JT X (.Compare a os bs pos) (nA t)) ⟨rP,λ_ _=>no⟩ λy=>?_;obtain⟨R,h1,h2⟩:=Xf F (nS y).2 z;rw[s_ h,s_ q];exact⟨Yu h1 h2 (ok.e F) (ok.e F) (Er (nS y).1),λ_ _=>QD h1 h2 (ok.e F) (ok.e F) (Er (nS y).1)⟩
def FF (ok:i.Ok T r) (F:nU T r X c) (h:AY i c e=aa l):JL X e l:=by
 cases e with
 |Subscript a b p=>
  obtain⟨q,h1,rfl⟩:=tu h;obtain⟨p',rfl⟩:=JB h1;exact RE (ok.e F) (Be ok F) (Be ok F)
 |_=>exact wc h
def TK (ok:i.Ok T r) (F:nU T r X c) (h:IW i c x es=aa l):∃a,es=[a]∧JL X a l:=by
 obtain⟨a,h1,h2⟩:=tm h;refine⟨a,s_ h1,?_⟩;cases q:i.l c a with
 |none=>rw[q]at h2;exact FF ok F (t7 h2).2
 |some m=>rw[q]at h2;cases h2;exact ok.l F q
def u8{α:Type}{l:List (ah×α)}{y:α}(h:l.lookup x=aa y):(x,y)∈l:=by
 induction l with
 |nil=>cases h
 |cons p l ih=>
  obtain⟨z,w⟩:=p;rw[cq]at h;split at h
  ·cases h;rename_i e;rw[beq_iff_eq]at e;subst e;exact aK
  ·exact aI _ (ih h)
def R8 (ok:i.Ok T r) (F:nU T r X c) (hg:Gl X "isinstance") (hm:X.mg "isinstance" =none) (hs:rf es=true):JE X (.Call (.Name "isinstance" p) es [] pos) (IR T i c es):=by
 cases es with
 |nil=>exact rP
 |cons a s=>
  refine uS λt q=>uS λs h1=>rN λh=>?_;obtain⟨b,q1,q2⟩:=tm q;obtain⟨p2,rfl⟩:=yj q2;rw[s_ q1];have ha:=(q_ hs).1;have hh:=u8 h1;have k:=λT' hv hn hd hk=>Qq (T':=T') (p:=p) (pos:=pos) hg hm (F.glo (nS h).1).1 (F.blt (nS h).2) hv (ok.e F (e:=a)) hn hd hk (qa ha) (p2:=p2);simp only[Lv,az,dM,bp,or_false]at hh;obtain ⟨rfl,rfl⟩ |⟨rfl,rfl⟩ |⟨rfl,rfl⟩ |⟨rfl,rfl⟩ |⟨rfl,rfl⟩:=hh
  ·exact k _ boot_int (by decide) (by decide) (y9 _ (by simp))
  ·exact k _ boot_bool (by decide) (by decide) (y9 _ (by simp))
  ·exact k _ boot_str (by decide) (by decide) (y9 _ (by simp))
  ·exact k _ boot_tuple (by decide) (by decide) (y9 _ (by simp))
  ·exact k _ boot_list (by decide) (by decide) (y9 _ (by simp))
def Xn (ok:i.Ok T r) (F:nU T r X c) (hg:Gl X x) (hm:X.mg x=none) (hs:rf es=true) (hc:c.calm=true):JE X (.Call (.Name x p) es [] pos) (iB T i c x es):=by
 have cl:=F.calm.trans hc;refine wH (P:=JE X _) (λ_=>pJ (P:=JE X _) (λ_=>uS λf h2=>rN λq=>?_) λt h=>?_) λh=>?_
 ·cases es with
  |nil=>cases q
  |cons a as=>
   obtain⟨ha,hb⟩:=q_ hs;have hh:=u8 h2;have ia:=tQ ok F hs;have sa:=qa (es:=as) (env:=X.env) ha;have sb:=AI (pos:=pos) (env:=X.env) hb;simp only[bA,az,dM,bp,or_false]at hh;obtain ⟨rfl,rfl⟩ |⟨rfl,rfl⟩ |⟨rfl,rfl⟩ |⟨rfl,rfl⟩:=hh
   ·exact RI hg hm ia sa sb
   ·exact Yj hg hm ia sa sb
   ·exact Uh hg hm ia sa sb
   ·exact VQ hg hm ia sa sb cl
 ·obtain⟨l,h1,h3⟩:=tm h;obtain⟨f,h2,rfl⟩:=tu h3;obtain⟨a,rfl,hl⟩:=TK ok F h1;have sa:=qa (es:=[]) (env:=X.env) (q_ hs).1;have hh:=u8 h2;simp only[bL,az,dM,bp,or_false]at hh;obtain ⟨rfl,rfl⟩ |⟨rfl,rfl⟩ |⟨rfl,rfl⟩ |⟨rfl,rfl⟩:=hh
  ·exact OZ hg hm hl sa
  ·exact Tv hg hm hl sa rfl cl
  ·exact TZ hg hm hl sa rfl cl
  ·exact XG (F.hr hc) hg hm hl sa rfl cl
 ·cases of_decide_eq_true h;exact R8 ok F hg hm hs
def Ba (h:xq a=true):((aZ pos (ax [a] env)).all (λx=> !x.1)&&(dv pos (dw [] env)).all (λx=>x.1.isSome)&&decide ([a].length+([]:List bZ).length+(if([]:List bZ).isEmpty then 0 else 1)<30))=true:=by
 rw[qa h];rfl
def Yt (ok:i.Ok T r) (F:nU T r X c) (hz:DZ o=true) (hs:rf es=true) (hl:(ap.endLine == pos.line)=true):JE X (.Call (.Attribute o m ap) es [] pos) (iM i c m o es):=by
 cases es with
 |nil=>
  refine uS λq h=>?_;have hh:=u8 h;simp only[m0,az,dM,bp,or_false]at hh;obtain⟨rfl,rfl⟩:=hh;exact Zo (ok.e F) (yV hz) hl
 |cons a as=>
  have ha:=(q_ hs).1;refine rN λz=>?_;rw[cA.mp z]at hs⊢;refine pJ (P:=JE X _) (λ_=>uS λq h=>?_) λt h=>?_
  ·have hh:=u8 h;simp only[mA,az,dM,bp,or_false]at hh;obtain ⟨rfl,rfl⟩ |⟨rfl,rfl⟩:=hh
   ·exact Uo (ok.e F) (tQ ok F hs) (yV hz) (Ba ha) hl (qa ha)
   ·exact OV (ok.e F) (tQ ok F hs) (yV hz) (Ba ha) hl (qa ha)
  ·obtain⟨l,h1,h2⟩:=tm h;obtain⟨q,h3,rfl⟩:=tu h2;have hh:=u8 h3;simp only[mL,az,dM,bp,or_false]at hh;obtain ⟨rfl,rfl⟩ |⟨rfl,rfl⟩:=hh
   ·exact P7 (ok.e F) (ok.l F h1) (yV hz) (Ba ha) hl (qa ha)
   ·exact RM (ok.e F) (ok.l F h1) (yV hz) (Ba ha) hl (qa ha)
def Ph (ok:i.Ok T r) (F:nU T r X c):JE X (.Call f es [] pos) (Lx T i c f es pos):=by
 cases f with
 |Name x p=>
  refine rN λh=>?_;obtain⟨h,h3⟩:=nS h;obtain⟨h1,h2⟩:=nS h;obtain⟨g1,g2⟩:=F.glo h1;refine pJ (P:=JE X _) (λ_=>rN λh=>Xn ok F g1 (F.blt h) h2 h3) λs q=>rN λh=>?_;obtain⟨f,fd,ps,k1,k2,k3,k4⟩:=F.g.fn _ _ q;cases es with
  |nil=>cases h
  |cons a as=>exact Sw k1 (F.hr h3) g1 k2 k3 k4 (tQ ok F h2) g2 (qa (q_ h2).1) (AI (q_ h2).2)
 |Attribute o m ap=>exact rN λh=>Yt ok F (nS (nS h).1).1 (nS (nS h).1).2 (nS h).2
 |_=>exact rP
def OY (ok:i.Ok T r) (F:nU T r X c):JE X e (N0 T i c e):=by
 refine pJ (P:=JE X e) (λ_=>?_) λl h=>Jl (ok.l F h);cases e with
 |Name x p=>
  refine pJ (P:=JE X _) (λ_=>uS λw h=>rN λq=>?_) λk h=>rN λq=>?_
  ·obtain⟨h1,h2⟩:=F.glo q;obtain ⟨n,u,rfl,h3⟩ |⟨n,u,rfl,h3⟩:=F.g.gl _ _ h
   ·exact X1 h1 h3 h2
   ·exact Y' h1 h3 h2
  ·obtain⟨h1,h2,h3⟩:=F.vis q;exact jv _ (F.at_ h) h1 h2 h3
 |Constant v k p=>
  cases v with
  |int=>exact Rk
  |bool=>exact RJ
  |none=>exact Wr
  |str=>exact Y8
  |_=>exact rP
 |UnaryOp o a p=>
  cases o with
  |Not=>exact wH (P:=JE X _) (λ_=>YJ (ok.e F)) λ_=>Uw (ok.e F)
  |USub=>exact Ym (ok.e F)
  |_=>exact rP
 |BinOp a o b p=>exact uS λw h=>UJ h (ok.e F) (ok.e F)
 |Compare=>exact(GY ok F).1
 |BoolOp=>exact FA ok F
 |IfExp=>exact WR (ok.t F) (ok.e F) (ok.e F)
 |Tuple es k p=>exact rN λh=>Tu (tQ ok F h)
 |Subscript a b p=>
  refine pJ (P:=JE X _) (λ_=>rN λh=>pJ (P:=JE X _) (λ_=>UV (ok.e F) (ok.e F) (LB h)) λl q=>PU (ok.l F q) (ok.e F) (LB h)) λq h=>?_;obtain⟨p',rfl⟩:=JB h;exact UP (ok.e F) (Be ok F) (Be ok F)
 |Call f es ks p=>exact rN λh=>by rw[cA.mp h];exact Ph ok F
 |_=>exact rP
def Lg (ok:i.Ok T r) (F:nU T r X c):JT X e (oN (C1 e) (oX (i.e c e))):=sY (P:=JT X e) Fs λh=>RH (ok.e F) λw=>by
 cases e with
 |UnaryOp o a p=>cases o<;>first |rfl |cases h
 |_=>first |rfl |cases h
def Xu (ok:i.Ok T r) (F:nU T r X c):JT X e (KU T i c e):=by
 cases e with
 |Compare a os bs p=>exact pJ (P:=JT X _) (λ_=>Fs) λo h=>(GY ok F).2 o h
 |UnaryOp o a p=>exact wH (P:=JT X _) (λ_=>Lg ok F) λh=>by cases of_decide_eq_true h;exact VF (ok.t F)
 |BoolOp=>exact(DV ok F).jt
 |_=>exact Lg ok F
def DU (ok:i.Ok T r) (F:nU T r X c):JI X tg e (iI T i c tg e):=by
 refine pJ (P:=JI X tg e) (λ_=>pJ (P:=JI X tg e) (λ_=>VZ (ok.e F)) λl h=>XO (ok.l F h)) λt h=>?_;obtain⟨⟨x,es⟩,h1,h2⟩:=tm h;obtain⟨p,p',a,s,rfl,rfl,h3⟩:=BV h1;obtain⟨h2,h4⟩:=t7 h2;obtain⟨q1,q2⟩:=nS h2;obtain⟨q3,q5⟩:=q_ h3;have g1:=(F.glo q1).1;have g2:=F.blt q2;unfold N2 at h4
 revert h4
 refine wH (P:=λo=>o=aa t→JI X tg _ t) (λ_=>wH (P:=λo=>o=aa t→JI X tg _ t) (λ_ h=>?_) λz h=>?_) λz h=>?_
 ·obtain⟨z,h⟩:=t7 h;obtain⟨z,z2⟩:=nS z;cases of_decide_eq_true z;obtain⟨b,y,rfl⟩:=tu h;cases s_ y;have q4:=(q_ q5).1;obtain⟨_,_,_,rfl⟩:=Jw z2;exact R9 g1 g2 (ok.e F) (ok.e F) (by rw[qa q3,qa q4];rfl) (qa q4) (qa q3) (qa q4)
 ·obtain⟨z,z2⟩:=nS z;cases of_decide_eq_true z;obtain⟨b,y,rfl⟩:=tu h;cases s_ y;obtain⟨_,_,_,rfl⟩:=Jw z2;exact Rq g1 g2 (ok.e F) (qa q3) (qa q3)
 ·cases of_decide_eq_true z;obtain⟨b,y,rfl⟩:=tu h;cases s_ y;exact Sg g1 g2 (tQ ok F h3) (qa q3)
def Me (F:nU T r X c) (h:F7 c s N k fr=true):ny X.nox s N k fr:=by
 simp only[F7,bT,decide_eq_true_eq]at h;obtain⟨⟨⟨⟨⟨⟨⟨⟨h1,h2⟩,h3⟩,h4⟩,h5⟩,h6⟩,h7⟩,h8⟩,h9⟩:=h;refine⟨h1,h2,h3,h4,h5,?_,h7,?_,?_⟩
 ·show(s.names.all λy=>y.2 != a_ || X.env.scope.names.lookup y.1 == aa cf || X.env.scope.names.lookup y.1 == aa a_)=true;rw[F.sc];exact h6
 ·show N.drop k=fr.map λj=>X.N.getD j fH;rw[F.N];exact h8
 ·show(fr.all λj=>decide (j<X.N.length))=true;rw[F.N];exact h9
def nU.nox (F:nU T r X c):nU T r X.nox c:=⟨⟨F.g.fn,F.g.gl,F.g.bl,F.g.xs,F.g.ex⟩,F.N,F.sc,F.nd,F.fn,F.hr,F.calm,F.st⟩
def nU.comp (F:nU T r X c) {s:Scope}{N:List ah}(hN:N.Nodup) (hc:c.calm=true) (s₀:am) (H₀:Hp) (fp:List ai) (pn:List (ai×aG)):nU T r (pS X.nox s N s₀ H₀ fp pn) ⟨N,Eg s c,false,true⟩:=
 ⟨⟨F.g.fn,F.g.gl,F.g.bl,F.g.xs,F.g.ex⟩,rfl,(by show relabel s X.env=_;unfold relabel Eg bN.kindOf;rw[F.sc]),hN,rfl,λ_=>F.hr hc,F.calm.trans hc,λh=>nomatch h⟩
def J' (ok:i.Ok T r) (F:nU T r X c):uX X ifs (match ifs with
  | []=>px
  |t::r=>oN r.isEmpty (i.t c t)):=by
 cases ifs with
 |nil=>exact U6
 |cons t s=>exact sY (P:=uX X _) YQ λh=>by rw[cA.mp h];exact SY (ok.t F)
def M' (ok:i.Ok T r) (F:nU T r X c) (q:Expr×Scope×bw×g9):JL X (.ListComp q.1 [⟨q.2.2.2.target,q.2.2.2.iter,q.2.2.2.ifs,0⟩] q.2.1 q.2.2.1) (iC T i c q):=by
 refine sY (P:=JL X _) Vu λh=>?_;have S:=Me F (nS (nS h).1).1;have F':=F.comp (s:=q.2.1) S.nd (nS h).2;exact Ug S (DU ok F.nox) (λ_ _ _ _=>Cz (F' _ _ _ _)) (λ_ _ _ _=>J' ok (F' _ _ _ _)) (λ_ _ _ _=>ok.e (F' _ _ _ _)) (Fy (nS (nS h).1).2) (F.calm.trans (nS h).2)
def P0 (ok:i.Ok T r) (F:nU T r X c) (h:K6 T i c e=aa l):JL X e l:=by
 cases e with
 |List es p=>obtain⟨h1,h2⟩:=t7 h;cases h2;exact Sd (tQ ok F h1)
 |ListComp=>obtain⟨q,h1,rfl⟩:=tu h;rw[MN h1];exact M' ok F q
 |BinOp a o b p=>
  cases o with
  |Mult=>obtain⟨m,h1,rfl⟩:=tu h;exact Q7 (ok.l F h1) (ok.e F)
  |Add=>
   revert h
   refine pJ (P:=λo=>o=aa l→JL X _ l) (λ_ h=>?_) λm q h=>?_
   ·obtain⟨m,h1,rfl⟩:=tu h;exact pJ (P:=JL X _) (λ_=>Wn (ok.e F) (ok.l F h1)) λn z=>Ks (FF ok F z) (ok.l F h1)
   ·cases h;refine pJ (P:=JL X _) (λ_=>ZX (ok.l F q) (ok.e F)) λn z=>Ks (ok.l F q) ?_
    revert z
    exact pJ (P:=λo=>o=aa n→JL X b n) (λ_ h=>FF ok F h) λk y h=>by cases h;exact ok.l F y
  |_=>exact wc h
 |Call f es ks p=>
  obtain⟨⟨x,as⟩,h1,h2⟩:=tm h;obtain⟨p,p',a,s,e,rfl,h3⟩:=BV h1;obtain⟨h2,h4⟩:=t7 h2;obtain⟨y,q2⟩:=nS h2;obtain⟨y,q1⟩:=nS y;cases of_decide_eq_true y;obtain⟨b,z,rfl⟩:=tu h4;cases s_ z;rw[e];exact Zq (F.glo q1).1 (F.blt q2) (ok.e F) (qa (q_ h3).1)
 |_=>exact wc h
def nU.atX (F:nU T r X c) (pn:List (ai×aG)) (xe:aj→am→Prop):nU T r (X.at pn xe) c:=⟨⟨F.g.fn,F.g.gl,F.g.bl,F.g.xs,F.g.ex⟩,F.N,F.sc,F.nd,F.fn,F.hr,F.calm,F.st⟩
def nU.hot (F:nU T r X c) (a:ai) (pn:List (ai×aG)):nU T r (X.hot a pn) ⟨c.N,c.sc,c.fn,false⟩:=⟨⟨F.g.fn,F.g.gl,F.g.bl,F.g.xs,F.g.ex⟩,F.N,F.sc,F.nd,F.fn,(λh=>nomatch h),rfl,F.st⟩
def ZE (ok:i.Ok T r) (F:nU T r X c) (hc:c.calm=true):wj X ss (iX T i c ss):=by
 cases ss with
 |nil=>exact zU
 |cons s ss=>
  cases s with
  |Return v p=>
   refine pJ (P:=wj X _) (λ_=>zU) λq h=>pJ (P:=wj X _) (λ_=>zU) λs y=>sY (P:=wj X _) zU λz=>?_;obtain⟨e,rfl,h⟩:=tm h;obtain⟨p,p',a,s,rfl,h2,h3⟩:=BV h;obtain⟨f,fd,ps,k1,k2,k3,k4⟩:=F.g.fn _ _ y;obtain⟨g1,g2⟩:=F.glo (nS z).2;rw[cA.mp (nS z).1,h2];exact RP (Rb (OF k1 (F.hr hc) g1 k2 k3 k4 (tQ ok F h3) g2 (qa (q_ h3).1) (AI (q_ h3).2)))
  |_=>exact zU
def Ww (h:zu e=true):jL [tg] e n env=pure false:=FL h
def Tl (h:isT e=false):jH [.Tuple ts n p] e env=pure none:=by
 cases e<;>first |rfl |cases h
def Ro:JS X s (mr (nw nV) g):=λ_ _ _ _ _ _ _ _ ⟨_,_,_,_,_,h,_⟩=>h.elim
def Pn (ok:i.Ok T r) (F:nU T r X c):JS X (.Assign [tg] e pos) (LF T i c tg e):=by
 cases tg with
 |Name x p=>
  refine xF λk l0=>tB λl=>pJ (P:=JS X _) (λ_=>tB λh=>?_) λq h=>?_
  ·exact J5 F.ndX (F.at_ l0) (F.loc l).1 (ok.e F) (FL h) (F.loc l).2
  ·rw[MN h];cases b:(X.env.blockKind == .function&&X.env.kindOf x == aa .local&&p.line == q.2.2.1.line&& !(q.2.1.names.any λ(n,k)=>n == x&&(k == .local || k == .cell))) with
   |false=>exact J5 F.ndX (F.at_ l0) (F.loc l).1 (Jl (M' ok F q)) (congrArg pure b) (F.loc l).2
   |true=>
    refine sY (P:=λt=>JS X _ (mr (nw t) (mx k))) Ro λh=>?_;have S:=Me F (nS (nS h).1).1;have F':=F.comp (s:=q.2.1) S.nd (nS h).2;exact SC F.ndX (F.at_ l0) (F.loc l).1 S (DU ok F.nox) (λ_ _ _ _=>Cz (F' _ _ _ _)) (λ_ _ _ _=>J' ok (F' _ _ _ _)) (λ_ _ _ _=>ok.e (F' _ _ _ _)) (congrArg pure b) (F.loc l).2 (Fy (nS (nS h).1).2) (F.calm.trans (nS h).2)
 |Tuple es n p=>exact tB λh=>Wh (ok.e F) (Cz F) (Ww (nS h).1) (Tl (by have:=(nS h).2;simpa using this)) (by rw[BY rfl];rfl)
 |_=>exact z9
def TW (ok:i.Ok T r) (F:nU T r X c):JS X s (LC T i c s):=by
 cases s with
 |Return v p=>
  cases v with
  |none=>exact Wt
  |some=>exact ON (ok.e F)
 |Pass=>exact Xo
 |Expr e p=>exact tB λh=>WD (ok.e F) (FL h)
 |If=>exact QJ (ok.t F) (wz ok F) (wz ok F)
 |While t b os p=>exact tB λh=>by rw[cA.mp h];exact V5 (ok.t F) (wz ok F)
 |For tg it b os p=>exact tB λh=>by rw[cA.mp (nS (nS h).1).1];exact Sa (DU ok F) (Cz F) (wz ok F) (F.calm.trans (nS h).2) (Fy (nS (nS h).1).2)
 |AugAssign t o e p=>
  refine tB λh=>xF λx q=>xF λk l0=>tB λl=>?_;obtain⟨p',rfl⟩:=yj q;cases of_decide_eq_true h;exact Re F.ndX (F.at_ l0) (F.loc l).1 (ok.e F) (F.loc l).2
 |Assign ts e p=>exact xF λtg h=>by rw[s_ h];exact Pn ok F
 |Raise v cs p=>
  refine xF λq h=>tB λz=>?_;obtain⟨e,rfl,h⟩:=tm h;obtain⟨p1,p2,a,s,rfl,h2,h3⟩:=BV h;obtain⟨z,z4⟩:=nS z;obtain⟨z,z3⟩:=nS z;obtain⟨z,z2⟩:=nS z;obtain⟨C,x1,x2⟩:=F.g.xs _ (ie.mp z2);rw[h2,Option.isNone_iff_eq_none.mp z];exact S9 x1 (F.glo z3).1 x2 (tQ ok F h3) (F.calm.trans z4) (F.glo z3).2 (qa (q_ h3).1) (AI (q_ h3).2)
 |Try b hs os fs q=>
  refine xF λu h=>tB λz=>?_;obtain⟨p1,p2,a,s,rfl,h2⟩:=Qr h;obtain⟨z,z7⟩:=nS z;obtain⟨z,z6⟩:=nS z;obtain⟨z,z5⟩:=nS z;obtain⟨z,z4⟩:=nS z;obtain⟨z,z3⟩:=nS z;obtain⟨z1,z2⟩:=nS z;rw[cS]at z6;obtain⟨D,hD,al⟩:∃D,X.mg u.1=aa (.ref D)∧ ∀y∈T.cn q,∃C,qm X.K y C∧fx X.K (.ref C) (.ref D)=aa true:=by
   obtain⟨y,hy⟩:=List.exists_mem_of_ne_nil (T.cn q) (by intro z;rw[z]at z7;cases z7);obtain⟨C,D,_,x2,_⟩:=F.g.ex (y,u.1) (ie.mp (z6 y hy));refine⟨D,x2,λz hz=>?_⟩;obtain⟨C',D',y1,y2,y3⟩:=F.g.ex (z,u.1) (ie.mp (z6 z hz));rw[x2]at y2;cases y2;exact⟨C',y1,y3⟩
  have F':∀a pn,nU T r (X.hot a pn) ⟨c.N,c.sc,true,false⟩:=λa pn=>z3▸F.hot a pn;rw[h2,cA.mp z1,cA.mp z2];exact Y2 (λpn xe=>ZE ok (F.atX pn xe) z4) al (λa pn=>wz ok (F' a pn)) (F.glo z5).1 hD (F.st z3).1 (F.st z3).2 (F.glo z5).2
 |_=>exact z9
theorem HW:∀n,(EH T n).Ok T r
 |0=>⟨λ_=>rP,λ_=>Fs,(λ_ h=>nomatch h),λ_=>z9⟩
 |n+1=>have ok:=HW n;⟨OY ok,Xu ok,λF h=>P0 ok F h,λF=>TW ok F⟩
end
def En.sc{e:En}(h:e.ok=true):pi e.N e.ps (qp e.st)∧e.ps.length=e.k∧e.k≤6:=by
 simp only[En.ok,bT,decide_eq_true_eq,fU,cS,jE,bne_iff_ne]at h;obtain⟨⟨⟨⟨⟨⟨⟨⟨h1,h2⟩,h3⟩,h4⟩,h5⟩,h6⟩,h7⟩,h8⟩,h9⟩:=h;exact⟨⟨h1,h2,h3,h4,h5,h8,h9⟩,h6,h7⟩
def Vs (us:List aj) (h:us.length≤6):∃a b c d e f:aj,us=[a,b,c,d,e,f].take us.length:=by
 match us,h with
 | [],_=>exact⟨.none, .none, .none, .none, .none, .none,rfl⟩
 | [a],_=>exact⟨a, .none, .none, .none, .none, .none,rfl⟩
 | [a,b],_=>exact⟨a,b, .none, .none, .none, .none,rfl⟩
 | [a,b,c],_=>exact⟨a,b,c, .none, .none, .none,rfl⟩
 | [a,b,c,d],_=>exact⟨a,b,c,d, .none, .none,rfl⟩
 | [a,b,c,d,e],_=>exact⟨a,b,c,d,e, .none,rfl⟩
 | [a,b,c,d,e,f],_=>exact⟨a,b,c,d,e,f,rfl⟩
 |_::_::_::_::_::_::_::_,h=>simp at h
theorem IC{α β:Type}:∀(a:List α) (b:List β),a.zip (b.take a.length)=a.zip b
 | [],_=>rfl
 |_::_,[]=>rfl
 |_::a,_::b=>congrArg (_:: ·) (IC a b)
def D7{α β:Type}{l:List α}{f g:α→β}(h:l.map f=l.map g):∀e∈l,f e=g e:=by
 induction l with
 |nil=>intro e h;cases h
 |cons a l ih=>
  rw[aC,aC,fQ]at h;intro e he;obtain rfl |he:=az.mp he
  ·exact h.1
  ·exact ih h.2 e he
def L7 (h:lkT tab r x=aa s):∃e∈tab,e.eNm=x∧s=e.c r:=by
 have:=u8 h;obtain⟨e,he,q⟩:=aT.mp this;cases q;exact⟨e,he,rfl,rfl⟩
def Dv (K:ao) (eNm:ah) (st:aW):Prop:=∃f d,bQ K bj eNm=aa (aa (.ref f))∧tN K eNm eNm st f d
def dfn{K:ao}{st:aW}{kV doc pm cdv ct:aj}(a:bQ K bj x=aa (aa (.ref f))) (l:K.lookup f=aa ⟨oc,od, .func (dU x x (xy st) (uh st) (qp st) .none kV doc pm an cdv ct),osl⟩) (c:gK K cdv x=true) (k:fe K (.ref f)=true):Dv K x st:=⟨f,_,a,Pb l c k⟩
section
variable {P:bi}{w:aR}{K:ao}{mg:ah→Option aj}{base:aE}{tab:List En}{B:Tb}
structure qN (K:ao) (mg:ah→Option aj) (tab:List En) (B:Tb):Prop where
  df:∀e∈tab,∃f d,mg e.eNm=aa (.ref f)∧tN K e.eNm e.eNm e.st f d
  ok:∀e∈tab,e.ok=true
  bd:∀kV doc pm an cdv ct a b c d e' f,∀e∈tab,e.bd kV doc pm an cdv ct [a,b,c,d,e',f]=pure (e.ps.zip [a,b,c,d,e',f])
  c0:∀e∈tab,e.c 0=mH
  rd:∀r,∀e∈tab,e.c (r+1)=mH∨ ∃F,(∀x s,F x=aa s→ ∃e∈tab,e.eNm=x∧ ∃j,j≤r∧s=e.c j)∧e.c (r+1)=e.rd { B with fn:=F }
  gl:∀x w,B.gl x=aa w→(∃i u,w= .int i∧mg x=aa (.int i u))∨ ∃i u,w= .str i∧mg x=aa (.str i u)
  bl:∀x∈B.bl,mg x=none
  xs:∀x∈B.xs,∃C,qm K x C∧mg x=aa (.ref C)
  ex:∀p∈B.ex,∃C D,qm K p.1 C∧mg p.2=aa (.ref D)∧fx K (.ref C) (.ref D)=aa true
def qN.binds (h:qN K mg tab B) (he:e∈tab) (F:tN K e.eNm e.eNm e.st f d):pj K d e.ps []:=F.binds λkV doc pm an cdv ct us hl=>by
 obtain⟨_,h1,h2⟩:=En.sc (h.ok e he);obtain⟨a,b,c,d,e',f,q⟩:=Vs us (by lia);have:=h.bd kV doc pm an cdv ct a b c d e' f e he;unfold En.bd at this;rw[←h1,←hl,←q]at this;rw[this,show e.ps.zip us=_ by rw[q,hl,IC]]
theorem qN.fn (h:qN K mg tab B):∀r,∀e∈tab,∀f d,mg e.eNm=aa (.ref f)→tN K e.eNm e.eNm e.st f d→oO P w K mg base (rV P w) r f d e.ps (r9 K (e.c r)):=by
 intro r
 induction r using Nat.strongRecOn with
 |_ r ih=>
  intro e he f d hm F;cases r with
  |zero=>rw[h.c0 e he];exact Le
  |succ r=>
   obtain q |⟨G,hG,q⟩:=h.rd r e he
   ·rw[q];exact Le
   ·rw[q];obtain⟨S,h1,_⟩:=En.sc (h.ok e he);refine SD F S rfl h1 λcdv A outer s H E hr=>wz (T:={ B with fn:=G }) (r:=r) (HW 40) ⟨⟨λx s hx=>?_,h.gl,h.bl,h.xs,h.ex⟩,rfl,rfl,S.nd,rfl,λ_=>hr,rfl,λ_=>⟨rfl,rfl⟩⟩;obtain⟨e',he',rfl,j,hj,rfl⟩:=hG x s hx;obtain⟨f',d',m',F'⟩:=h.df e' he';exact⟨f',d',e'.ps,(ih j (by lia) e' he' f' d' m' F').mono hj,m',F'.kp,h.binds he' F'⟩
def vO (K:ao):List En→Prop
 | []=>True
 |e::r=>Dv K e.eNm e.st∧vO K r
def wu (K:ao):List ah→Prop
 | []=>True
 |x::r=>bQ K bj x=aa none∧wu K r
def F3 (K:ao) (x:ah) (w:W):Prop:=(∃i u,w= .int i∧bQ K bj x=aa (aa (.int i u)))∨ ∃i u,w= .str i∧bQ K bj x=aa (aa (.str i u))
def gln (h:bQ K bj x=aa (aa (.int i u))):F3 K x (.int i):= .inl ⟨i,u,rfl,h⟩
def vU (K:ao):List (ah×W)→Prop
 | []=>True
 |p::r=>F3 K p.1 p.2∧vU K r
def De (K:ao) (x:ah):Prop:=∃C,qm K x C
def xch (a:bQ K bj x=aa (aa (.ref C))) (b:jN K C Cg "ValueError.__new__" =true) (c:fJ K (.ref C) "__getattribute__" =aa (aa (.builtin "BaseException.__getattribute__"))) (d:fJ K (.ref C) "__getattr__" =aa none) (e:fJ K (.ref C) "__class__" =aa (aa (.builtin "object.__class__"))) (f:je K C (.type "object")=aa true) (g:je K C (.type "BaseException")=aa true):De K x:=⟨C,a,b,c,d,e,f,g⟩
def wa (K:ao):List ah→Prop
 | []=>True
 |x::r=>De K x∧wa K r
def Do (K:ao) (x y:ah):Prop:=∃C D,bQ K bj x=aa (aa (.ref C))∧bQ K bj y=aa (aa (.ref D))∧fx K (.ref C) (.ref D)=aa true
def exh (a:bQ K bj x=aa (aa (.ref C))) (b:bQ K bj y=aa (aa (.ref D))) (c:fx K (.ref C) (.ref D)=aa true):Do K x y:=⟨C,D,a,b,c⟩
def v8 (K:ao):List (ah×ah)→Prop
 | []=>True
 |p::r=>Do K p.1 p.2∧v8 K r
theorem vO.at_:∀{tab:List En},vO K tab→ ∀e∈tab,Dv K e.eNm e.st
 |e::_,h,z,m=>(az.mp m).elim (λq=>q▸h.1) (vO.at_ h.2 z)
theorem wu.at_:∀{l:List ah},wu K l→ ∀x∈l,bQ K bj x=aa none
 |e::_,h,z,m=>(az.mp m).elim (λq=>q▸h.1) (wu.at_ h.2 z)
theorem vU.at_:∀{l:List (ah×W)},vU K l→ ∀p∈l,F3 K p.1 p.2
 |e::_,h,z,m=>(az.mp m).elim (λq=>q▸h.1) (vU.at_ h.2 z)
theorem wa.at_:∀{l:List ah},wa K l→ ∀x∈l,De K x
 |e::_,h,z,m=>(az.mp m).elim (λq=>q▸h.1) (wa.at_ h.2 z)
theorem v8.at_:∀{l:List (ah×ah)},v8 K l→ ∀p∈l,Do K p.1 p.2
 |e::_,h,z,m=>(az.mp m).elim (λq=>q▸h.1) (v8.at_ h.2 z)
def Ti{l:gS}{h:aE}{fa:ai}{gs:List (ah×W)}{e0:En}{cl:Nat→mI}{room:Nat}(X:K.In h) (G:h.Ns bj mg) (hfa:mg "law" =aa (.ref fa)) (h0:e0∈tab) (hn:e0.eNm= "law") (hp:e0.ps=([("script" :ah)]:List ah)) (hc:e0.c=cl)
  (ok:tab.all En.ok=true) (bd:∀kV doc pm an cdv ct a b c d e' f,(tab.map λe=>e.bd kV doc pm an cdv ct [a,b,c,d,e',f])=tab.map λe=>pure (e.ps.zip [a,b,c,d,e',f]))
  (c0:(tab.map λe=>e.c 0)=tab.map λ_=>mH) (rd:∀r,∀e∈tab,e.c (r+1)=mH∨ ∃F,(∀x s,F x=aa s→ ∃e∈tab,e.eNm=x∧ ∃j,j≤r∧s=e.c j)∧e.c (r+1)=e.rd { B with fn:=F })
  (hg:B.gl=λx=>gs.lookup x) (hx:∀p∈B.ex,p.1∈B.xs) (df:vO K tab) (bl:wu K B.bl) (gl:vU K gs) (xs:wa K B.xs) (ex:v8 K B.ex) :
  ∃fd:dq,(∀(s:am) (v:aj),eR s fd ⟨[v],[]⟩ [("script",v)])∧ ∀base:aE,K.In base→base.Ns bj mg→oO l.prog w K mg base (rV l.prog w) room fa fd ["script"] (r9 K (cl room)):=by
 have wh:qN K mg tab B:=by
  refine⟨λe he=>?_,λe he=>cS.mp ok e he,λkV doc pm an cdv ct a b c d e' f=>D7 (bd kV doc pm an cdv ct a b c d e' f),D7 c0,rd,λx v e=>?_,λx m=>PySem.W.mg_none_of X G (bl.at_ x m),λx m=>?_,λp m=>?_⟩
  ·obtain⟨f,d,a,F⟩:=df.at_ e he;exact⟨f,d,eN X G a,F⟩
  ·rw[hg]at e;obtain ⟨i,u,q,a⟩ |⟨i,u,q,a⟩:=gl.at_ _ (u8 e)
   ·exact .inl ⟨i,u,q,eN X G a⟩
   ·exact .inr ⟨i,u,q,eN X G a⟩
  ·obtain⟨C,a⟩:=xs.at_ x m;exact⟨C,a,eN X G a.nm⟩
  ·obtain⟨C,a⟩:=xs.at_ _ (hx p m);obtain⟨C',D,b,c,d⟩:=ex.at_ p m;have:=a.nm.symm.trans b;cases this;exact⟨C,D,a,eN X G c,d⟩
 obtain⟨f,d,m,F⟩:=wh.df e0 h0;rw[hn]at m;cases hfa.symm.trans m;refine⟨d,λs v=>?_,λbase _ _=>?_⟩
 ·obtain⟨oc,od,kV,doc,pm,an,cdv,ct,osl,rfl,lkT,hcd⟩:=F.ex;have z:=wh.bd kV doc pm an cdv ct v v v v v v e0 h0;have k1:e0.k=1:=by have:=(En.sc (wh.ok e0 h0)).2.1;rw[hp]at this;exact this.symm
  unfold En.bd at z;rw[k1,hp]at z;exact .of_eq z
 ·have:=wh.fn (P:=l.prog) (w:=w) (base:=base) room e0 h0 fa d (by rw[hn];exact m) F;rw[hp,hc]at this;exact this
def Q1{t u:List En}(r:Nat) (h:(u.map λe=>e.c (r+1))=u.map λe=>e.rd { B with fn:=lkT t r }):∀e∈u,e.c (r+1)=mH∨ ∃F,(∀x s,F x=aa s→ ∃e∈t,e.eNm=x∧ ∃j,j≤r∧s=e.c j)∧e.c (r+1)=e.rd { B with fn:=F }:=λe he=>
 .inr ⟨_,λx s q=>let ⟨a,b,c,d⟩:=L7 q;⟨a,b,c,r,aA _,d⟩,D7 h e he⟩
def YK (he:e∈t) (hn:e.eNm=n):∀x s,(if x=n then aa (e.c r) else lkT t (r+1) x)=aa s→ ∃e∈t,e.eNm=x∧ ∃j,j≤r+1∧s=e.c j:=λx s h=>by
 split at h
 ·cases h;exact⟨e,he,hn.trans (Eq.symm ‹_›),r,Nat.le_succ r,rfl⟩
 ·obtain⟨a,b,c,d⟩:=L7 h;exact⟨a,b,c,r+1,aA _,d⟩
end
def xD:Nat→mI
 |0=>mH
 |r+1=>nz 1 1 (mz (nD (oX (rM "int" (jn 0))) (mS (m5 ae)) nB)
  (mS (oD (jn 0) (ou (wC (.int 1))) oz)))
def ze (r:Nat) (self:mI):WS:=(oZ (wM pM vL (jn 1) (jM (mG (xD r) (jM (jn 2) ae)) ae)))
def xv:Nat→mI
 |0=>mH
 |r+1=>nz 3 1 (mz (mr (nw (nJ ae)) (mx 1))
  (mz (oB (oq (jn 0)) (mx 2) (ze r mH))
  (mS (jn 1))))
def FB (r:Nat) (self:mI):WS:=(mz (vV 1 (λa b=>a+b) (wB oP (jM (jn 3) ae)))
  (mz (vV 2 (λa b=>a+b) (wC (.int 1)))
  (mz (nD (tz (nA (mq ux (jn 1) (wC (.int 400)))) (nA (mq ux (jn 2) (wC (.int 40))))) (mS (wC (.bl false))) nB)
  (mr (mG (xv r) (jM (jn 3) ae)) (mx 3)))))
def xf:Nat→mI
 |0=>mH
 |r+1=>nz 4 1 (mz (mr (wC (.int 0)) (mx 1))
  (mz (mr (wC (.int 0)) (mx 2))
  (mz (mr (nw (nJ (jM (jn 0) ae))) (mx 3))
  (mz (wF (oX (jn 3)) (FB r mH))
  (mS (wC (.bl true)))))))
def Fl (r:Nat) (self:mI):WS:=(oZ (mG self (jM (jn 4) (jM (mq om (jn 1) (m5 (jM (jn 3) ae))) (jM (jn 2) ae)))))
def vM:Nat→mI
 |0=>mH
 |r+1=>nz 5 3 (mz (oZ (wM pM qu (jn 2) (jM (jn 1) ae)))
  (oB (uE (mG (xD r) (jM (jn 0) ae))) (pB (nQ (mx 3) (nQ (mx 4) o6))) (Fl r (vM r))))
def Ap:Nat→mI
 |0=>mH
 |r+1=>nz 2 1 (mz (mr (nw (nJ ae)) (mx 1))
  (mz (oZ (mG (vM r) (jM (jn 0) (jM (m5 ae) (jM (jn 1) ae)))))
  (mS (jn 1))))
def A9:Nat→mI
 |0=>mH
 |r+1=>nz 3 2 (mz (mr (mG (xD r) (jM (jn 0) ae)) (mx 2))
  (mz (nD (tz (nA (mq uZ (jn 1) (wC (.int 0)))) (nA (mq Lk (jn 1) (wB oP (jM (jn 2) ae))))) (vd "NoPlace" (jM (wC (.str "there is no such place")) ae)) nB)
  (mS (mq mE (jn 2) (jn 1)))))
def Ev (r:Nat) (self:mI):WS:=(mr (mG (A9 r) (jM (jn 2) (jM (jn 3) ae))) (mx 2))
def yK:Nat→mI
 |0=>mH
 |r+1=>nz 4 2 (mz (mr (jn 0) (mx 2))
  (mz (oB (oq (jn 1)) (mx 3) (Ev r mH))
  (mS (jn 2))))
def XA (r:Nat) (self:mI):WE:=(jn 0)
def xa:Nat→mI
 |0=>mH
 |r+1=>nz 1 1 (mS (nw (o9 1 [0] (oq (mG (Ap r) (jM (jn 0) ae))) (mx 0) (oX (rM "int" (mG (yK r) (jM (jn 1) (jM (jn 0) ae))))) (XA r mH))))
def M0 (r:Nat) (self:mI):WE:=(jn 0)
def Av:Nat→mI
 |0=>mH
 |r+1=>nz 2 2 (mS (nw (o9 1 [1,0] (oq (mG (xa r) (jM (jn 0) ae))) (mx 0) (nA (mq (oK false) (mG (yK r) (jM (jn 2) (jM (jn 0) ae))) (jn 1))) (M0 r mH))))
def L' (r:Nat) (self:mI):WE:=(mG self (jM (jn 0) (jM (jn 1) ae)))
def u6:Nat→mI
 |0=>mH
 |r+1=>nz 2 2 (mz (nD (oX (rM "int" (jn 0))) (mS (mq mE (jn 1) (jn 0))) nB)
  (mS (mq om (m5 (jM (mq mE (jn 0) (wC (.int 0))) ae)) (qK vT (o9 1 [1] (oq (oD (jn 0) (ou (wC (.int 1))) oz)) (mx 0) px (L' r (u6 r)))))))
def AS:Nat→mI
 |0=>mH
 |r+1=>nz 2 2 (mS (vW (mq (oK false) (mq mE (jn 0) (wC (.int 0))) (mq mE (jn 1) (wC (.int 0)))) (mq (oK false) (wB oP (jM (jn 0) ae)) (wB oP (jM (jn 1) ae)))))
def EU (r:Nat) (self:mI):WS:=(nD (sQ (oX (mG self (jM (jn 3) (jM (jn 4) (jM (jn 2) ae)))))) (mS (wC (.bl false))) nB)
def uV:Nat→mI
 |0=>mH
 |r+1=>nz 5 3 (mz (nD (oX (rM "int" (jn 0))) (mz (oZ (wM pM qu (jn 2) (jM (jn 1) ae)))
  (mS (wC (.bl true)))) nB)
  (mz (nD (sQ (oX (mG (AS r) (jM (jn 0) (jM (jn 1) ae))))) (mS (wC (.bl false))) nB)
  (mz (oB (tf (oD (jn 0) (ou (wC (.int 1))) oz) (oD (jn 1) (ou (wC (.int 1))) oz)) (pB (nQ (mx 3) (nQ (mx 4) o6))) (EU r (uV r)))
  (mS (wC (.bl true))))))
def tU:Nat→mI
 |0=>mH
 |r+1=>nz 3 2 (mz (mr (nw (nJ ae)) (mx 2))
  (mz (nD (oX (mG (uV r) (jM (jn 0) (jM (jn 1) (jM (jn 2) ae))))) (mS (jn 2)) nB)
  (mS (wC .ca))))
def NX (r:Nat) (self:mI):WE:=(vP sD sD (wC (.str "a")) (jn 0) (wC (.str "z")))
def Ay:Nat→mI
 |0=>mH
 |r+1=>nz 1 1 (mS (qK tG (o9 1 [] (oq (jn 0)) (mx 0) px (NX r mH))))
def A_:Nat→mI
 |0=>mH
 |r+1=>nz 1 1 (mS (vW (vP sD sD (wC (.int 1)) (wB oP (jM (jn 0) ae)) (wC (.int 8))) (mG (Ay r) (jM (jn 0) ae))))
def GQ (r:Nat) (self:mI):WS:=(nD (nA (mq (oK false) (mq mE (jn 2) (wC (.int 0))) (jn 1))) (mS (jn 2)) nB)
def tP:Nat→mI
 |0=>mH
 |r+1=>nz 3 2 (mz (oB (oq (jn 0)) (mx 2) (GQ r mH))
  (mS (wC .ca)))
def Kt (r:Nat) (self:mI):WE:=(mG self (jM (jn 0) ae))
def zm:Nat→mI
 |0=>mH
 |r+1=>nz 1 1 (mS (vW (mG (A_ r) (jM (mq mE (jn 0) (wC (.int 0))) ae)) (qK tG (o9 1 [] (oq (oD (jn 0) (ou (wC (.int 1))) oz)) (mx 0) px (Kt r (zm r))))))
def sG:Nat→mI
 |0=>mH
 |r+1=>nz 1 1 (mz (nD (sQ (oX (mG (xf r) (jM (jn 0) ae)))) (vd "TooGreat" (jM (wC (.str "the shape is not small")) ae)) nB)
  (mS (jn 0)))
def N5 (r:Nat) (self:mI):WE:=(mG self (jM (jn 1) (jM (jn 0) (jM (jn 2) ae))))
def xB:Nat→mI
 |0=>mH
 |r+1=>nz 5 3 (mz (mr (nw (o9 1 [0,2] (oq (oD (jn 1) (ou (wC (.int 1))) oz)) (mx 0) px (N5 r (xB r)))) (mx 3))
  (mz (mr (mG (tP r) (jM (jn 0) (jM (mq mE (jn 1) (wC (.int 0))) ae))) (mx 4))
  (mz (nD (nA (mq (pq false) (jn 4) (wC .ca))) (mS (mq om (m5 (jM (mq mE (jn 1) (wC (.int 0))) ae)) (wB rF (jM (jn 3) ae)))) nB)
  (mS (mG (u6 r) (jM (mq mE (jn 4) (jn 2)) (jM (jn 3) ae)))))))
def BK:Nat→mI
 |0=>mH
 |r+1=>nz 2 2 (mS (mG (sG r) (jM (mG (xB r) (jM (jn 0) (jM (jn 1) (jM (wC (.int 1)) ae)))) ae)))
def ur:Nat→mI
 |0=>mH
 |r+1=>nz 2 2 (mS (mG (sG r) (jM (mG (xB r) (jM (jn 0) (jM (jn 1) (jM (wC (.int 2)) ae)))) ae)))
def MF (r:Nat) (self:mI):WE:=(m5 (jM (jn 0) ae))
def yC:Nat→mI
 |0=>mH
 |r+1=>nz 3 2 (mz (mr (mG (tP r) (jM (jn 0) (jM (mq mE (jn 1) (wC (.int 0))) ae))) (mx 2))
  (mz (nD (nA (mq (pq false) (jn 2) (wC .ca))) (mS (nw (o9 1 [] (uJ (jM (mq (rj λi j=> .int (i - j)) (wB oP (jM (jn 1) ae)) (wC (.int 1))) ae)) (mx 0) px (MF r mH)))) nB)
  (mS (mG (xa r) (jM (mq mE (jn 2) (wC (.int 1))) ae)))))
def LH (r:Nat) (self:mI):WS:=(nD (nA (mq (pq true) (mG (tU r) (jM (mq mE (jn 2) (wC (.int 1))) (jM (jn 1) ae))) (wC .ca))) (mS (jn 2)) nB)
def yM:Nat→mI
 |0=>mH
 |r+1=>nz 3 2 (mz (oB (oq (jn 0)) (mx 2) (LH r mH))
  (mS (wC .ca)))
def Fd (r:Nat) (self:mI):WS:=(oZ (mG self (jM (jn 0) (jM (jn 6) (jM (mq om (jn 2) (m5 (jM (jn 5) ae))) (jM (jn 3) ae))))))
def xk:Nat→mI
 |0=>mH
 |r+1=>nz 7 4 (mz (mr (mG (yM r) (jM (jn 0) (jM (jn 1) ae))) (mx 4))
  (mz (nD (nA (mq (pq true) (jn 4) (wC .ca))) (oZ (wM pM qu (jn 3) (jM (m5 (jM (jn 2) (jM (mq mE (jn 4) (wC (.int 0))) ae))) ae))) nB)
  (oB (uE (oD (jn 1) (ou (wC (.int 1))) oz)) (pB (nQ (mx 5) (nQ (mx 6) o6))) (Fd r (xk r)))))
def uq:Nat→mI
 |0=>mH
 |r+1=>nz 3 2 (mz (mr (nw (nJ ae)) (mx 2))
  (mz (oZ (mG (xk r) (jM (jn 0) (jM (jn 1) (jM (m5 ae) (jM (jn 2) ae))))))
  (mS (jn 2))))
def Ln (r:Nat) (self:mI):WE:=(mq mE (jn 0) (wC (.int 0)))
def wS:Nat→mI
 |0=>mH
 |r+1=>nz 1 1 (mS (nw (o9 1 [] (oq (jn 0)) (mx 0) px (Ln r mH))))
def Bp:Nat→mI
 |0=>mH
 |r+1=>nz 3 2 (mz (mr (mG (yM r) (jM (jn 0) (jM (jn 1) ae))) (mx 2))
  (mS (mq om (m5 (jM (mq mE (jn 2) (wC (.int 0))) ae)) (wB rF (jM (mG (tU r) (jM (mq mE (jn 2) (wC (.int 1))) (jM (jn 1) ae))) ae)))))
def CJ (r:Nat) (self:mI):WS:=(oZ (wM pM qu (jn 5) (jM (mG self (jM (jn 0) (jM (jn 7) (jM (mq om (jn 2) (jn 6)) (jM (jn 3) ae))))) ae)))
def t_:Nat→mI
 |0=>mH
 |r+1=>nz 8 4 (mz (mr (yP (nA (mq (w6 false) (jn 2) (jn 3))) (mG (Bp r) (jM (jn 0) (jM (jn 1) ae))) (jn 1)) (mx 4))
  (mz (mr (nw (nJ ae)) (mx 5))
  (mz (oB (tf (mG (yC r) (jM (jn 0) (jM (jn 4) ae))) (oD (jn 4) (ou (wC (.int 1))) oz)) (pB (nQ (mx 6) (nQ (mx 7) o6))) (CJ r (t_ r)))
  (mS (mq om (m5 (jM (mq mE (jn 4) (wC (.int 0))) ae)) (wB rF (jM (jn 5) ae)))))))
def G4 (r:Nat) (self:mI):WE:=(m5 (jM (jn 0) (jM (wC (.bl true)) ae)))
def xE:Nat→mI
 |0=>mH
 |r+1=>nz 3 3 (mS (mG (t_ r) (jM (jn 0) (jM (jn 1) (jM (m5 ae) (jM (qK v5 (o9 1 [] (oq (jn 2)) (mx 0) px (G4 r mH))) ae))))))
def GE (r:Nat) (self:mI):WS:=(nD (nA (mq (uI true) (jn 4) (jn 3))) (vd "NoUse" (jM (wC (.str "no use is open at one of the places")) ae)) nB)
def CL:Nat→mI
 |0=>mH
 |r+1=>nz 5 3 (mz (mr (mG (wS r) (jM (mG (uq r) (jM (jn 0) (jM (jn 1) ae))) ae)) (mx 3))
  (mz (oB (oq (jn 2)) (mx 4) (GE r mH))
  (mS (mG (xE r) (jM (jn 0) (jM (jn 1) (jM (jn 2) ae)))))))
def As:Nat→mI
 |0=>mH
 |r+1=>nz 2 2 (mS (mG (xE r) (jM (jn 0) (jM (jn 1) (jM (mG (wS r) (jM (mG (uq r) (jM (jn 0) (jM (jn 1) ae))) ae)) ae)))))
def Hl (r:Nat) (self:mI):WS:=(mz (mr (mG (As r) (jM (jn 0) (jM (jn 4) ae))) (mx 5))
  (mz (mr (mG (ur r) (jM (jn 0) (jM (jn 5) ae))) (mx 4))
  (oZ (wM pM qu (jn 3) (jM (jn 5) ae)))))
def Bn:Nat→mI
 |0=>mH
 |r+1=>nz 6 3 (mz (mr (nw (nJ ae)) (mx 3))
  (mz (mr (jn 1) (mx 4))
  (mz (wF (rG (nA (mq uZ (wB oP (jM (jn 3) ae)) (jn 2))) (oX (mG (uq r) (jM (jn 0) (jM (jn 4) ae))))) (Hl r mH))
  (mS (m5 (jM (m5 (jM (jn 1) (jM (jn 3) ae))) (jM (yh (mG (uq r) (jM (jn 0) (jM (jn 4) ae)))) ae)))))))
def Ei (r:Nat) (self:mI):WE:=(mG self (jM (jn 2) (jM (jn 0) (jM (jn 1) ae))))
def tO:Nat→mI
 |0=>mH
 |r+1=>nz 8 3 (mz (mr (mG (tP r) (jM (jn 0) (jM (mq mE (jn 1) (wC (.int 0))) ae))) (mx 3))
  (mz (mr (mG (tP r) (jM (jn 0) (jM (mq mE (jn 2) (wC (.int 0))) ae))) (mx 4))
  (mz (mr (oD (jn 1) (ou (wC (.int 1))) oz) (mx 5))
  (mz (mr (oD (jn 2) (ou (wC (.int 1))) oz) (mx 6))
  (mz (nD (rG (nA (mq (pq false) (jn 3) (wC .ca))) (nA (mq (pq true) (jn 4) (wC .ca)))) (mr (mG (tU r) (jM (mq mE (jn 4) (wC (.int 1))) (jM (jn 1) ae))) (mx 5)) nB)
  (mz (nD (rG (nA (mq (pq true) (jn 3) (wC .ca))) (nA (mq (pq false) (jn 4) (wC .ca)))) (mr (mG (tU r) (jM (mq mE (jn 3) (wC (.int 1))) (jM (jn 2) ae))) (mx 6)) nB)
  (mz (mr (nw (o9 2 [0] (tf (jn 5) (jn 6)) (pB (nQ (mx 0) (nQ (mx 1) o6))) px (Ei r (tO r)))) (mx 7))
  (mz (nD (nA (mq (pq false) (jn 4) (wC .ca))) (mS (mq om (m5 (jM (mq mE (jn 1) (wC (.int 0))) ae)) (wB rF (jM (jn 7) ae)))) nB)
  (mS (mG (u6 r) (jM (mq mE (jn 4) (wC (.int 2))) (jM (jn 7) ae))))))))))))
def ye (r:Nat) (self:mI):WS:=(mz (nD (nA (mq (oK true) (mG (BK r) (jM (jn 0) (jM (jn 3) ae))) (jn 2))) (mS (wC (.bl false))) nB)
  (mr (mG (ur r) (jM (jn 0) (jM (jn 3) ae))) (mx 2)))
def xx:Nat→mI
 |0=>mH
 |r+1=>nz 4 2 (mz (mr (mG (sG r) (jM (mq mE (jn 1) (wC (.int 0))) ae)) (mx 2))
  (mz (oB (oq (mq mE (jn 1) (wC (.int 1)))) (mx 3) (ye r mH))
  (mS (wC (.bl true)))))
def Cj:Nat→mI
 |0=>mH
 |r+1=>nz 2 2 (Cp ["TooGreat"] (mS (Cu (xx r) (jM (jn 0) (jM (jn 1) ae)))) (mS (wC (.bl false))))
def Lb (r:Nat):WS:=(mS (mG (ur r) (jM (jn 0) (jM (mq mE (mq mE (jn 1) (wC (.int 1))) (qX (wC (.int 1)))) ae))))
def J_ (r:Nat) (T:WS):WS:=(mz (nD (sQ (oX (mq mE (jn 1) (wC (.int 1))))) (mS (mq mE (jn 1) (wC (.int 0)))) nB) T)
def yD:Nat→mI
 |0=>mH
 |r+1=>nz 2 2 (J_ r (Lb r))
def Ez (r:Nat) (self:mI):WS:=(oZ (mG (ur r) (jM (jn 0) (jM (jn 2) ae))))
def uL:Nat→mI
 |0=>mH
 |r+1=>nz 3 2 (oB (oq (jn 1)) (mx 2) (Ez r mH))
def Kg (r:Nat):WS:=(mS (jn 3))
def No (r:Nat):WS:=(oZ (wM pM qu (jn 3) (jM (jn 5) ae)))
def LQ (r:Nat) (T:WS):WS:=(mz (oZ (mG (uL r) (jM (jn 0) (jM (nw (nJ (jM (jn 5) ae))) ae)))) T)
def Hi (r:Nat) (T:WS):WS:=(mz (mr (mG (tO r) (jM (jn 0) (jM (mq mE (jn 3) (qX (wC (.int 1)))) (jM (jn 4) ae)))) (mx 5)) T)
def C_ (r:Nat) (self:mI):WS:=(Hi r (LQ r (No r)))
def Nd (r:Nat) (T:WS):WS:=(mz (oB (oq (jn 2)) (mx 4) (C_ r mH)) T)
def HU (r:Nat) (T:WS):WS:=(mz (mr (nw (nJ (jM (jn 1) ae))) (mx 3)) T)
def xJ:Nat→mI
 |0=>mH
 |r+1=>nz 6 3 (HU r (Nd r (Kg r)))
def HM (r:Nat):WS:=(mS (m5 (jM (jn 3) (jM (jn 5) ae))))
def OB (r:Nat) (self:mI):WE:=(mG (tO r) (jM (jn 2) (jM (jn 0) (jM (jn 1) ae))))
def EY (r:Nat):WS:=(oZ (wM pM qu (jn 5) (jM (jn 4) ae)))
def C2 (r:Nat) (T:WS):WS:=(mz (oZ (wM pM qu (jn 3) (jM (jn 7) ae))) T)
def DI (r:Nat) (T:WS):WS:=(mz (mr (nw (o9 2 [0] (tf (jn 4) (jn 7)) (pB (nQ (mx 0) (nQ (mx 1) o6))) px (OB r mH))) (mx 4)) T)
def GK (r:Nat) (T:WS):WS:=(mz (mr (mG (xJ r) (jM (jn 0) (jM (jn 6) (jM (jn 4) ae)))) (mx 7)) T)
def ES (r:Nat) (self:mI):WS:=(GK r (DI r (C2 r (EY r))))
def LR (r:Nat) (T:WS):WS:=(mz (oB (oq (mq mE (jn 1) (wC (.int 1)))) (mx 6) (ES r mH)) T)
def Ec (r:Nat) (T:WS):WS:=(mz (mr (nw (nJ (jM (jn 4) ae))) (mx 5)) T)
def DQ (r:Nat) (T:WS):WS:=(mz (mr (nw (zx (mq mE (jn 2) (wC (.int 1))))) (mx 4)) T)
def DM (r:Nat) (T:WS):WS:=(mz (mr (nw (nJ ae)) (mx 3)) T)
def Nn (r:Nat) (T:WS):WS:=(mz (oZ (mG (uL r) (jM (jn 0) (jM (mq mE (jn 2) (wC (.int 1))) ae)))) T)
def GD (r:Nat) (T:WS):WS:=(mz (oZ (mG (uL r) (jM (jn 0) (jM (mq mE (jn 1) (wC (.int 1))) ae)))) T)
def DH (r:Nat) (T:WS):WS:=(mz (oZ (mG (sG r) (jM (mq mE (jn 1) (wC (.int 0))) ae))) T)
def Mt (r:Nat) (T:WS):WS:=(mz (nD (nA (mq (oK true) (mq mE (jn 1) (wC (.int 0))) (mq mE (jn 2) (wC (.int 0))))) (vd "Apart" (jM (wC (.str "the roads are not from one shape")) ae)) nB) T)
def zN:Nat→mI
 |0=>mH
 |r+1=>nz 8 3 (Mt r (DH r (GD r (Nn r (DM r (DQ r (Ec r (LR r (HM r)))))))))
def Jt (r:Nat) (self:mI):WE:=(mq mE (jn 0) (qX (wC (.int 1))))
def zZ:Nat→mI
 |0=>mH
 |r+1=>nz 1 1 (mS (nw (o9 1 [] (oq (mq mE (jn 0) (wC (.int 0)))) (mx 0) px (Jt r mH))))
def LI (r:Nat):WS:=(mS (m5 (jM (mG (yD r) (jM (jn 0) (jM (jn 2) ae))) (jM (jn 3) ae))))
def Gs (r:Nat) (T:WS):WS:=(mz (mr (mG (zZ r) (jM (mG (zN r) (jM (jn 0) (jM (jn 1) (jM (jn 2) ae)))) ae)) (mx 3)) T)
def A7:Nat→mI
 |0=>mH
 |r+1=>nz 4 3 (Gs r (LI r))
def J7 (r:Nat) (self:mI):WE:=(mG (zm r) (jM (jn 0) ae))
def vD:Nat→mI
 |0=>mH
 |r+1=>nz 1 1 (mS (qK tG (o9 1 [] (oq (jn 0)) (mx 0) px (J7 r mH))))
def BI:Nat→mI
 |0=>mH
 |r+1=>nz 3 3 (mS (mG (vD r) (jM (mG (zZ r) (jM (mG (zN r) (jM (jn 0) (jM (jn 1) (jM (jn 2) ae)))) ae)) ae)))
def Cv (r:Nat) (self:mI):WS:=(mz (mr (mG (CL r) (jM (jn 0) (jM (jn 4) (jM (nw (nJ (jM (jn 5) ae))) ae)))) (mx 6))
  (mz (mr (mG (ur r) (jM (jn 0) (jM (jn 6) ae))) (mx 4))
  (oZ (wM pM qu (jn 3) (jM (jn 6) ae)))))
def Cs:Nat→mI
 |0=>mH
 |r+1=>nz 7 3 (mz (mr (nw (nJ ae)) (mx 3))
  (mz (mr (jn 1) (mx 4))
  (mz (oB (oq (jn 2)) (mx 5) (Cv r mH))
  (mS (m5 (jM (jn 1) (jM (jn 3) ae)))))))
def KN (r:Nat) (self:mI):WE:=(mq om (jn 1) (jn 0))
def Ew (r:Nat) (self:mI):WS:=(oZ (vm pM zD (jn 4) (o9 1 [8] (oq (jn 7)) (mx 0) px (KN r mH))))
def yq (r:Nat) (self:mI):WS:=(nD (nA (mq (oK false) (oD (jn 2) oz (ou (wB oP (jM (jn 6) ae)))) (jn 6))) (mz (mr (mG self (jM (jn 0) (jM (mq mE (jn 1) (mq om (jn 5) (wC (.int 1)))) (jM (oD (jn 2) (ou (wB oP (jM (jn 6) ae))) oz) ae)))) (mx 7))
  (oB (oq (mG (Av r) (jM (mq mE (jn 3) (wC (.int 2))) (jM (jn 5) ae)))) (mx 8) (Ew r mH))) nB)
def B7 (cT:mI):Nat→mI
 |0=>mH
 |r+1=>nz 9 4 (mz (mr (nw (nJ ae)) (mx 4))
  (mz (oB (uE (mG (xa r) (jM (mq mE (jn 3) (wC (.int 1))) ae))) (pB (nQ (mx 5) (nQ (mx 6) o6))) (yq r cT))
  (mS (jn 4))))
def JC (r:Nat) (self:mI):WE:=(mq om (m5 (jM (jn 1) ae)) (jn 0))
def qW:Nat→mI
 |0=>mH
 |1=>mH
 |r+2=>nz 5 3 (mz (mr (mG (tP (r+1)) (jM (jn 0) (jM (mq mE (jn 1) (wC (.int 0))) ae))) (mx 3))
  (mz (nD (nA (mq (pq true) (jn 3) (wC .ca))) (mS (mG (B7 (qW r) (r+1)) (jM (jn 0) (jM (jn 1) (jM (jn 2) (jM (jn 3) ae)))))) nB)
  (mz (nD (nA (mq (oK false) (jn 2) (m5 ae))) (mS (nw (nJ (jM (m5 ae) ae)))) nB)
  (mz (mr (mq mE (jn 2) (wC (.int 0))) (mx 4))
  (mS (nw (o9 1 [4] (oq (mG (qW r) (jM (jn 0) (jM (mq mE (jn 1) (mq om (jn 4) (wC (.int 1)))) (jM (oD (jn 2) (ou (wC (.int 1))) oz) ae))))) (mx 0) px (JC r mH))))))))
def Fa (r:Nat) (self:mI):WS:=(oZ (wM pM vL (jn 3) (jM (mG (qW r) (jM (jn 0) (jM (jn 1) (jM (jn 4) ae)))) ae)))
def xS:Nat→mI
 |0=>mH
 |r+1=>nz 5 3 (mz (mr (nw (nJ ae)) (mx 3))
  (mz (oB (oq (jn 2)) (mx 4) (Fa r mH))
  (mS (jn 3))))
def Fz (r:Nat) (self:mI):WS:=(mr (mG (xS r) (jM (jn 0) (jM (jn 4) (jM (jn 3) ae)))) (mx 3))
def Bv:Nat→mI
 |0=>mH
 |r+1=>nz 5 3 (mz (mr (nw (nJ (jM (jn 1) ae))) (mx 3))
  (mz (oB (oq (jn 2)) (mx 4) (Fz r mH))
  (mS (mq (oK false) (jn 3) (nw (nJ ae))))))
def L1 (r:Nat) (self:mI):WS:=(nD (oX (mG (Bv r) (jM (jn 0) (jM (jn 2) (jM (mq mE (jn 1) (wC (.int 1))) ae))))) (mS (jn 2)) nB)
def Cm:Nat→mI
 |0=>mH
 |r+1=>nz 3 2 (mz (oB (oq (mG (wS r) (jM (mG (uq r) (jM (jn 0) (jM (mq mE (jn 1) (wC (.int 0))) ae))) ae))) (mx 2) (L1 r mH))
  (mS (wC .ca)))
def HV (r:Nat):WS:=(mS (jn 2))
def CP (r:Nat):WS:=(mr (mG (A7 r) (jM (jn 0) (jM (jn 3) (jM (m5 (jM (mq mE (jn 3) (wC (.int 0))) (jM (nw (nJ (jM (mG (xE r) (jM (jn 0) (jM (mq mE (jn 3) (wC (.int 0))) (jM (nw (nJ (jM (jn 4) ae))) ae)))) ae))) ae))) ae)))) (mx 3))
def Dl (r:Nat) (T:WS):WS:=(mz (oZ (wM pM qu (jn 2) (jM (jn 4) ae))) T)
def C5 (r:Nat) (T:WS):WS:=(mz (mr (mG (Cm r) (jM (jn 0) (jM (jn 3) ae))) (mx 4)) T)
def DK (r:Nat) (T:WS):WS:=(mz (nD (nA (mq (oK false) (wB oP (jM (jn 2) ae)) (wC (.int 60)))) (vd "TooGreat" (jM (wC (.str "the standard row is too long")) ae)) nB) T)
def Nw (r:Nat) (self:mI):WS:=(DK r (C5 r (Dl r (CP r))))
def ME (r:Nat) (T:WS):WS:=(mz (wF (sQ (oX (mG (vD r) (jM (mq mE (jn 3) (wC (.int 1))) ae)))) (Nw r mH)) T)
def JK (r:Nat) (T:WS):WS:=(mz (mr (jn 1) (mx 3)) T)
def KO (r:Nat) (T:WS):WS:=(mz (mr (nw (nJ ae)) (mx 2)) T)
def AE:Nat→mI
 |0=>mH
 |r+1=>nz 5 2 (KO r (JK r (ME r (HV r))))
def uC:Nat→mI
 |0=>mH
 |r+1=>nz 2 2 (mz (nD (nA (mq uZ (jn 1) (wB oP (jM (jn 0) ae)))) (mS (mq mE (jn 0) (jn 1))) nB)
  (mS (wC (.int 0))))
def MI (r:Nat) (self:mI):WE:=(mq mE (jn 1) (mq (oH (λ_ j=>0<j) λi j=> .int (i % j)) (mq om (mq mE (jn 2) (jn 0)) (mq (oH rk λi j=> .int (i*j)) (jn 3) (wB xi (jM (mq (oK false) (jn 0) (jn 4)) ae)))) (wC (.int 26))))
def N1 (r:Nat) (self:mI):WS:=(mz (mr (vm uR xh (wC (.str "")) (o9 1 [3,5,6,7] (uJ (jM (wB oP (jM (jn 5) ae)) ae)) (mx 0) px (MI r mH))) (mx 9))
  (mz (nD (oX (jn 2)) (mr (mq om (wM uR xU (mq mE (jn 9) (wC (.int 0))) ae) (oD (jn 9) (ou (wC (.int 1))) oz)) (mx 9)) nB)
  (oZ (wM pM qu (jn 8) (jM (jn 9) ae)))))
def DN (r:Nat) (self:mI):WS:=(mz (oZ (wM pM qu (jn 5) (jM (mq (oH (λ_ j=>0<j) λi j=> .int (i % j)) (jn 4) (wC (.int 26))) ae)))
  (mr (mq (oH sB λi j=> .int (i / j)) (jn 4) (wC (.int 26))) (mx 4)))
def zd:Nat→mI
 |0=>mH
 |r+1=>nz 10 3 (mz (mr (wC (.str "abcdefghijklmnopqrstuvwxyz")) (mx 3))
  (mz (mr (mq (oH (λ_ j=>0<j) λi j=> .int (i % j)) (jn 1) (mq (oH CC λi j=> .int (i ^ j.toNat)) (wC (.int 26)) (wC (.int 8)))) (mx 4))
  (mz (mr (nw (nJ ae)) (mx 5))
  (mz (oB (uJ (jM (mq om (wC (.int 1)) (mq (oH (λ_ j=>0<j) λi j=> .int (i % j)) (jn 0) (wC (.int 8)))) ae)) (mx 6) (DN r mH))
  (mz (mr (mq (oH (λ_ j=>0<j) λi j=> .int (i % j)) (mq (oH sB λi j=> .int (i / j)) (jn 0) (wC (.int 8))) (wB oP (jM (jn 5) ae))) (mx 7))
  (mz (mr (nw (nJ ae)) (mx 8))
  (mz (oB (uJ (jM (wC (.int 6)) ae)) (mx 6) (N1 r mH))
  (mz (nD (rG (nA (mq (oK false) (mq (oH (λ_ j=>0<j) λi j=> .int (i % j)) (mq (oH sB λi j=> .int (i / j)) (jn 0) (wC (.int 64))) (wC (.int 2))) (wC (.int 1)))) (sQ (oX (jn 2)))) (mr (nw (uG (vc (jn 8) oz (ou (wC (.int 3)))) (nJ (jM (mq mE (jn 8) (wC (.int 2))) (jM (mq mE (jn 8) (wC (.int 2))) (jM (mq mE (jn 8) (wC (.int 5))) ae)))))) (mx 8)) nB)
  (mS (jn 8))))))))))
def Kq (r:Nat) (self:mI):WE:=(mG self (jM (jn 0) ae))
def uK:Nat→mI
 |0=>mH
 |r+1=>nz 1 1 (mz (nD (oX (rM "int" (jn 0))) (mS (wC (.int 1))) nB)
  (mS (qK wg (o9 1 [] (oq (oD (jn 0) (ou (wC (.int 1))) oz)) (mx 0) px (Kq r (uK r))))))
def G6 (r:Nat) (self:mI):WE:=(mG self (jM (jn 0) (jM (jn 1) ae)))
def uT:Nat→mI
 |0=>mH
 |r+1=>nz 2 2 (mz (nD (oX (rM "int" (jn 0))) (mS (mq mE (jn 1) (jn 0))) nB)
  (mS (mq om (oD (jn 0) oz (ou (wC (.int 1)))) (qK vT (o9 1 [1] (oq (oD (jn 0) (ou (wC (.int 1))) oz)) (mx 0) px (G6 r (uT r)))))))
def BH:Nat→mI
 |0=>mH
 |r+1=>nz 4 4 (mz (nD (nA (mq (oK false) (jn 0) (wC (.int 0)))) (mS (nw (nJ (jM (m5 (jM (jn 1) (jM (wC (.int 0)) ae))) ae)))) nB)
  (mz (nD (nA (mq (oK false) (jn 0) (wC (.int 1)))) (mS (nw (nJ (jM (m5 (jM (jn 1) (jM (wC (.int 0)) (jM (wC (.int 1)) ae)))) ae)))) nB)
  (mz (nD (nA (mq (oK false) (jn 0) (wC (.int 2)))) (mS (nw (nJ (jM (m5 (jM (jn 1) (jM (m5 (jM (jn 2) ae)) ae))) (jM (m5 (jM (jn 1) (jM (m5 (jM (jn 3) (jM (wC (.int 0)) ae))) ae))) ae))))) nB)
  (mz (nD (nA (mq (oK false) (jn 0) (wC (.int 3)))) (mS (nw (nJ (jM (m5 (jM (jn 1) (jM (m5 (jM (jn 2) ae)) (jM (wC (.int 0)) ae)))) (jM (m5 (jM (jn 1) (jM (m5 (jM (jn 3) (jM (wC (.int 0)) ae))) (jM (wC (.int 1)) ae)))) ae))))) nB)
  (mz (nD (nA (mq (oK false) (jn 0) (wC (.int 4)))) (mS (nw (nJ (jM (m5 (jM (jn 1) (jM (m5 (jM (jn 3) (jM (m5 (jM (jn 3) (jM (wC (.int 0)) ae))) ae))) (jM (wC (.int 1)) (jM (wC (.int 2)) ae))))) (jM (m5 (jM (jn 1) (jM (m5 (jM (jn 3) (jM (m5 (jM (jn 2) ae)) ae))) (jM (wC (.int 0)) (jM (wC (.int 1)) ae))))) ae))))) nB)
  (mS (nw (nJ (jM (m5 (jM (jn 1) ae)) ae)))))))))
def Bz:Nat→mI
 |0=>mH
 |r+1=>nz 4 3 (mz (nD (nA (mq (oK false) (jn 0) (wC (.int 0)))) (mS (nw (nJ (jM (m5 (jM (mq mE (jn 1) (wC (.int 2))) ae)) (jM (m5 (jM (mq mE (jn 1) (wC (.int 5))) ae)) (jM (m5 (jM (mq mE (jn 1) (wC (.int 3))) (jM (m5 (jM (mq mE (jn 1) (wC (.int 5))) ae)) ae))) ae)))))) nB)
  (mz (nD (nA (mq (oK false) (jn 0) (wC (.int 1)))) (mz (mr (nw (nJ (jM (wC (.int 0)) (jM (m5 (jM (mq mE (jn 1) (wC (.int 3))) (jM (wC (.int 0)) ae))) (jM (m5 (jM (mq mE (jn 1) (wC (.int 4))) (jM (wC (.int 0)) (jM (wC (.int 0)) ae)))) (jM (m5 (jM (mq mE (jn 1) (wC (.int 4))) (jM (m5 (jM (mq mE (jn 1) (wC (.int 3))) (jM (wC (.int 0)) ae))) (jM (m5 (jM (mq mE (jn 1) (wC (.int 2))) ae)) ae)))) ae)))))) (mx 3))
  (mz (nD (oX (jn 2)) (mS (nw (rR (jn 3) (nJ (jM (m5 (jM (mq mE (jn 1) (wC (.int 0))) (jM (wC (.int 0)) ae))) (jM (m5 (jM (mq mE (jn 1) (wC (.int 1))) (jM (m5 (jM (mq mE (jn 1) (wC (.int 3))) (jM (wC (.int 0)) ae))) (jM (wC (.int 0)) ae)))) (jM (m5 (jM (mq mE (jn 1) (wC (.int 3))) (jM (m5 (jM (mq mE (jn 1) (wC (.int 0))) (jM (wC (.int 0)) ae))) ae))) ae))))))) nB)
  (mS (nw (rR (jn 3) (nJ (jM (m5 (jM (mq mE (jn 1) (wC (.int 2))) ae)) (jM (m5 (jM (mq mE (jn 1) (wC (.int 3))) (jM (m5 (jM (mq mE (jn 1) (wC (.int 5))) ae)) ae))) ae)))))))) nB)
  (mz (nD (nA (mq (oK false) (jn 0) (wC (.int 3)))) (mz (mr (nw (nJ (jM (m5 (jM (mq mE (jn 1) (wC (.int 4))) (jM (m5 (jM (mq mE (jn 1) (wC (.int 4))) (jM (wC (.int 0)) (jM (wC (.int 1)) ae)))) (jM (wC (.int 2)) ae)))) (jM (m5 (jM (mq mE (jn 1) (wC (.int 4))) (jM (wC (.int 2)) (jM (m5 (jM (mq mE (jn 1) (wC (.int 4))) (jM (wC (.int 1)) (jM (wC (.int 0)) ae)))) ae)))) (jM (m5 (jM (mq mE (jn 1) (wC (.int 4))) (jM (m5 (jM (mq mE (jn 1) (wC (.int 4))) (jM (wC (.int 0)) (jM (wC (.int 0)) ae)))) (jM (m5 (jM (mq mE (jn 1) (wC (.int 4))) (jM (wC (.int 1)) (jM (wC (.int 2)) ae)))) ae)))) ae))))) (mx 3))
  (mz (nD (oX (jn 2)) (mS (nw (rR (jn 3) (nJ (jM (m5 (jM (mq mE (jn 1) (wC (.int 0))) (jM (m5 (jM (mq mE (jn 1) (wC (.int 4))) (jM (m5 (jM (mq mE (jn 1) (wC (.int 4))) (jM (wC (.int 2)) (jM (wC (.int 0)) ae)))) (jM (wC (.int 1)) ae)))) ae))) (jM (m5 (jM (mq mE (jn 1) (wC (.int 1))) (jM (wC (.int 1)) (jM (m5 (jM (mq mE (jn 1) (wC (.int 4))) (jM (wC (.int 0)) (jM (wC (.int 2)) ae)))) ae)))) ae)))))) nB)
  (mS (nw (rR (jn 3) (nJ (jM (wC (.int 0)) (jM (wC (.int 2)) (jM (m5 (jM (mq mE (jn 1) (wC (.int 4))) (jM (wC (.int 1)) (jM (wC (.int 1)) ae)))) (jM (m5 (jM (mq mE (jn 1) (wC (.int 5))) ae)) ae)))))))))) nB)
  (mz (mr (nw (nJ (jM (m5 (jM (mq mE (jn 1) (wC (.int 4))) (jM (wC (.int 0)) (jM (wC (.int 1)) ae)))) (jM (m5 (jM (mq mE (jn 1) (wC (.int 4))) (jM (wC (.int 1)) (jM (wC (.int 0)) ae)))) (jM (m5 (jM (mq mE (jn 1) (wC (.int 4))) (jM (m5 (jM (mq mE (jn 1) (wC (.int 3))) (jM (wC (.int 0)) ae))) (jM (wC (.int 1)) ae)))) (jM (m5 (jM (mq mE (jn 1) (wC (.int 4))) (jM (m5 (jM (mq mE (jn 1) (wC (.int 4))) (jM (wC (.int 0)) (jM (wC (.int 0)) ae)))) (jM (wC (.int 1)) ae)))) ae)))))) (mx 3))
  (mz (nD (oX (jn 2)) (mS (nw (rR (jn 3) (nJ (jM (m5 (jM (mq mE (jn 1) (wC (.int 1))) (jM (wC (.int 1)) (jM (wC (.int 0)) ae)))) (jM (m5 (jM (mq mE (jn 1) (wC (.int 0))) (jM (m5 (jM (mq mE (jn 1) (wC (.int 4))) (jM (wC (.int 0)) (jM (wC (.int 1)) ae)))) ae))) ae)))))) nB)
  (mS (nw (rR (jn 3) (nJ (jM (wC (.int 0)) (jM (wC (.int 1)) (jM (m5 (jM (mq mE (jn 1) (wC (.int 3))) (jM (wC (.int 1)) ae))) (jM (m5 (jM (mq mE (jn 1) (wC (.int 5))) ae)) ae)))))))))))))
def Ex (r:Nat) (self:mI):WS:=(mz (mr (mG (Bz r) (jM (mG (uK r) (jM (jn 9) ae)) (jM (jn 2) (jM (jn 4) ae)))) (mx 10))
  (mz (mr (mG (uC r) (jM (jn 0) (jM (mq om (mq om (mq om (jn 1) (wC (.int 2))) (mq (oH rk λi j=> .int (i*j)) (wC (.int 2)) (jn 6))) (jn 8)) ae))) (mx 11))
  (oZ (wM pM qu (jn 5) (jM (m5 (jM (mq mE (jn 3) (wB oP (jM (jn 5) ae))) (jM (jn 9) (jM (mq mE (jn 10) (mq (oH (λ_ j=>0<j) λi j=> .int (i % j)) (jn 11) (wB oP (jM (jn 10) ae)))) ae)))) ae)))))
def IG (r:Nat) (self:mI):WS:=(mz (mr (mG (BH r) (jM (mq (oH (λ_ j=>0<j) λi j=> .int (i % j)) (mG (uC r) (jM (jn 0) (jM (mq om (jn 1) (jn 6)) ae))) (wC (.int 6))) (jM (mq mE (jn 2) (jn 6)) (jM (mq mE (jn 2) (wC (.int 2))) (jM (mq mE (jn 2) (wC (.int 3))) ae))))) (mx 7))
  (oB (uE (jn 7)) (pB (nQ (mx 8) (nQ (mx 9) o6))) (Ex r mH)))
def BP:Nat→mI
 |0=>mH
 |r+1=>nz 12 5 (mz (mr (nw (nJ ae)) (mx 5))
  (mz (oB (uJ (jM (wC (.int 2)) ae)) (mx 6) (IG r mH))
  (mS (jn 5))))
def KG (r:Nat) (self:mI):WS:=(mr (nw (uG (vc (jn 4) oz (ou (qX (wC (.int 2))))) (nJ (jM (m5 (jM (qX (wC (.int 1))) (jM (wC (.int 0)) (jM (mq mE (jn 2) (wC (.int 4))) (jM (oD (jn 4) (ou (qX (wC (.int 2)))) oz) ae))))) ae)))) (mx 4))
def JM (r:Nat) (self:mI):WS:=(mz (mr (mq (oH (λ_ j=>0<j) λi j=> .int (i % j)) (jn 6) (wC (.int 8))) (mx 7))
  (mz (mr (uw (nJ (jM (wC (.int 0)) (jM (wC (.int 0)) (jM (wC (.int 1)) (jM (wC (.int 2)) ae))))) (wB ui (jM (jn 7) (jM (wC (.int 3)) ae)))) (mx 8))
  (mz (mr (m5 (jM (qX (wC (.int 1))) (jM (wC (.int 0)) (jM (mq mE (jn 2) (uw (nJ (jM (wC (.int 2)) (jM (wC (.int 5)) (jM (wC (.int 3)) (jM (wC (.int 4)) ae))))) (wB ui (jM (jn 7) (jM (wC (.int 3)) ae))))) ae)))) (mx 9))
  (mz (nD (nA (mq ux (jn 7) (wC (.int 3)))) (mz (mr (mq (oH (λ_ j=>0<j) λi j=> .int (i % j)) (mq (oH sB λi j=> .int (i / j)) (jn 6) (wC (.int 8))) (wB oP (jM (jn 1) ae))) (mx 10))
  (mz (mr (mG (uK r) (jM (mq mE (mq mE (jn 1) (jn 10)) (wC (.int 1))) ae)) (mx 8))
  (mz (mr (m5 (jM (jn 10) (jM (mq (oH (λ_ j=>0<j) λi j=> .int (i % j)) (mq (oH sB λi j=> .int (i / j)) (jn 6) (wC (.int 64))) (wC (.int 8))) (jM (wC (.str "")) ae)))) (mx 9))
  (mr (mq om (jn 5) (wC (.int 1))) (mx 5))))) nB)
  (nD (rG (nA (mq ux (jn 3) (wC (.int 0)))) (nA (mq uZ (jn 5) (wC (.int 5))))) (mz (mr (mq (rj λi j=> .int (i - j)) (jn 3) (wC (.int 1))) (mx 3))
  (mz (mr (nw (xr (xo (nJ (jM (m5 (jM (qX (wC (.int 1))) (jM (wC (.int 0)) (jM (mq mE (jn 2) (wC (.int 2))) (jM (nw (nJ ae)) ae))))) ae)) (mq (rj λi j=> .int (i - j)) (jn 8) (wB oP (jM (jn 4) ae)))) (jn 4))) (mx 4))
  (mz (mr (mq (rj λi j=> .int (i - j)) (wB oP (jM (jn 4) ae)) (jn 8)) (mx 11))
  (mr (nw (uG (vc (jn 4) oz (ou (jn 11))) (nJ (jM (mq om (jn 9) (m5 (jM (oD (jn 4) (ou (jn 11)) oz) ae))) ae)))) (mx 4))))) nB)))))
def BF:Nat→mI
 |0=>mH
 |r+1=>nz 12 4 (mz (mr (nw (nJ ae)) (mx 4))
  (mz (mr (wC (.int 0)) (mx 5))
  (mz (oB (oq (jn 0)) (mx 6) (JM r mH))
  (mz (wF (nA (mq ux (wB oP (jM (jn 4) ae)) (wC (.int 1)))) (KG r mH))
  (mS (uw (rR (jn 4) (nJ (jM (m5 (jM (qX (wC (.int 1))) (jM (wC (.int 0)) (jM (mq mE (jn 2) (wC (.int 5))) (jM (nw (nJ ae)) ae))))) ae))) (wC (.int 0))))))))
def Lq (r:Nat) (self:mI):WE:=(mG self (jM (jn 0) (jM (jn 1) (jM (jn 2) ae))))
def yn:Nat→mI
 |0=>mH
 |r+1=>nz 8 3 (mz (mr (jn 0) (pB (nQ (mx 3) (nQ (mx 4) (nQ (mx 5) (nQ (mx 6) o6))))))
  (mz (mr (nw (o9 1 [1,2] (oq (jn 6)) (mx 0) px (Lq r (yn r)))) (mx 7))
  (mz (nD (nA (mq uZ (jn 3) (wC (.int 0)))) (mS (mq om (m5 (jM (jn 5) ae)) (wB rF (jM (jn 7) ae)))) nB)
  (mz (nD (nA (mq (oK false) (mq (oH (λ_ j=>0<j) λi j=> .int (i % j)) (mq (oH sB λi j=> .int (i / j)) (jn 4) (jn 2)) (wC (.int 2))) (wC (.int 1)))) (mS (mq om (m5 (jM (mq mE (mq mE (jn 1) (jn 3)) (wC (.int 0))) ae)) (wB rF (jM (jn 7) ae)))) nB)
  (mS (mG (uT r) (jM (mq mE (mq mE (jn 1) (jn 3)) (wC (.int 1))) (jM (jn 7) ae))))))))
def Hy (r:Nat) (self:mI):WS:=(nD (nA (mq (oK false) (mq mE (jn 4) (wC (.int 0))) (mq mE (jn 1) (wC (.int 0))))) (mS (mG (uT r) (jM (mq mE (jn 4) (jn 2)) (jM (jn 3) ae)))) nB)
def Ld (r:Nat) (self:mI):WE:=(mG self (jM (jn 1) (jM (jn 0) (jM (jn 2) ae))))
def zF:Nat→mI
 |0=>mH
 |r+1=>nz 5 3 (mz (mr (nw (o9 1 [0,2] (oq (oD (jn 1) (ou (wC (.int 1))) oz)) (mx 0) px (Ld r (zF r)))) (mx 3))
  (mz (oB (oq (jn 0)) (mx 4) (Hy r mH))
  (mS (mq om (oD (jn 1) oz (ou (wC (.int 1)))) (wB rF (jM (jn 3) ae))))))
def KY (r:Nat) (self:mI):WE:=(mq om (m5 (jM (jn 1) ae)) (jn 0))
def ET (r:Nat) (self:mI):WS:=(mr (nw (rR (jn 1) (o9 1 [2] (oq (mG self (jM (jn 3) ae))) (mx 0) px (KY r mH)))) (mx 1))
def ve:Nat→mI
 |0=>mH
 |r+1=>nz 4 1 (mz (mr (nw (nJ (jM (m5 ae) ae))) (mx 1))
  (mz (nD (sQ (oX (rM "int" (jn 0)))) (oB (uE (oD (jn 0) (ou (wC (.int 1))) oz)) (pB (nQ (mx 2) (nQ (mx 3) o6))) (ET r (ve r))) nB)
  (mS (jn 1))))
def Fh (r:Nat) (self:mI):WS:=(mr (mq mE (jn 0) (mq om (jn 2) (wC (.int 1)))) (mx 0))
def yx:Nat→mI
 |0=>mH
 |r+1=>nz 3 2 (mz (oB (oq (jn 1)) (mx 2) (Fh r mH))
  (mS (jn 0)))
def Jp (r:Nat) (self:mI):WE:=(mG self (jM (jn 0) (jM (jn 1) ae)))
def v_:Nat→mI
 |0=>mH
 |r+1=>nz 2 2 (mz (nD (oX (rM "int" (jn 0))) (mS (wC (.bl true))) nB)
  (mz (nD (tz (nA (mq (oK true) (mq mE (jn 0) (wC (.int 0))) (mq mE (jn 1) (wC (.int 0))))) (nA (mq (oK true) (wB oP (jM (jn 0) ae)) (wB oP (jM (jn 1) ae))))) (mS (wC (.bl false))) nB)
  (mS (qK tG (o9 2 [] (tf (oD (jn 0) (ou (wC (.int 1))) oz) (oD (jn 1) (ou (wC (.int 1))) oz)) (pB (nQ (mx 0) (nQ (mx 1) o6))) px (Jp r (v_ r)))))))
def FN (r:Nat) (self:mI):WS:=(nD (oX (mG (v_ r) (jM (mq mE (jn 4) (wC (.int 1))) (jM (mG (yx r) (jM (jn 1) (jM (jn 3) ae))) ae)))) (oZ (wM pM qu (jn 2) (jM (m5 (jM (jn 3) (jM (mq mE (jn 4) (wC (.int 0))) ae))) ae))) nB)
def Dc (r:Nat) (self:mI):WS:=(oB (oq (jn 0)) (mx 4) (FN r mH))
def vk:Nat→mI
 |0=>mH
 |r+1=>nz 5 2 (mz (mr (nw (nJ ae)) (mx 2))
  (mz (oB (oq (mG (ve r) (jM (jn 1) ae))) (mx 3) (Dc r mH))
  (mS (jn 2))))
def DR (r:Nat) (self:mI):WS:=(mr (mq om (jn 2) (mG self (jM (jn 3) (jM (jn 4) ae)))) (mx 2))
def u7:Nat→mI
 |0=>mH
 |r+1=>nz 5 2 (mz (nD (oX (rM "int" (jn 0))) (mS (nw (nJ (jM (jn 1) ae)))) nB)
  (mz (mr (nw (nJ ae)) (mx 2))
  (mz (oB (tf (oD (jn 0) (ou (wC (.int 1))) oz) (oD (jn 1) (ou (wC (.int 1))) oz)) (pB (nQ (mx 3) (nQ (mx 4) o6))) (DR r (u7 r)))
  (mS (jn 2)))))
def wI:Nat→mI
 |0=>mH
 |r+1=>nz 4 3 (mz (nD (nA (mq (oK false) (jn 1) (m5 ae))) (mS (jn 2)) nB)
  (mz (mr (mq om (mq mE (jn 1) (wC (.int 0))) (wC (.int 1))) (mx 3))
  (mS (mq om (mq om (oD (jn 0) oz (ou (jn 3))) (m5 (jM (mG (wI r) (jM (mq mE (jn 0) (jn 3)) (jM (oD (jn 1) (ou (wC (.int 1))) oz) (jM (jn 2) ae)))) ae))) (oD (jn 0) (ou (mq om (jn 3) (wC (.int 1)))) oz)))))
def IP (r:Nat) (self:mI):WS:=(nD (oX (mG (v_ r) (jM (mq mE (jn 4) (wC (.int 1))) (jM (jn 3) ae)))) (mS (mG (wI r) (jM (jn 1) (jM (jn 2) (jM (mG (uT r) (jM (mq mE (jn 4) (wC (.int 2))) (jM (mG (u7 r) (jM (mq mE (jn 4) (wC (.int 1))) (jM (jn 3) ae))) ae))) ae))))) nB)
def wQ:Nat→mI
 |0=>mH
 |r+1=>nz 5 3 (mz (mr (mG (yx r) (jM (jn 1) (jM (jn 2) ae))) (mx 3))
  (mz (oB (oq (jn 0)) (mx 4) (IP r mH))
  (mS (jn 1))))
def EE (r:Nat) (self:mI):WS:=(mz (mr (mG (vk r) (jM (jn 0) (jM (jn 3) ae))) (mx 6))
  (nD (rG (nA (mq ux (wB oP (jM (jn 6) ae)) (wC (.int 0)))) (nA (mq uZ (wB oP (jM (jn 4) ae)) (wC (.int 7))))) (mz (oZ (wM pM qu (jn 4) (jM (mq mE (mq mE (jn 6) (mq (oH (λ_ j=>0<j) λi j=> .int (i % j)) (jn 5) (wB oP (jM (jn 6) ae)))) (wC (.int 0))) ae)))
  (mr (mG (wQ r) (jM (jn 0) (jM (jn 3) (jM (mq mE (jn 4) (qX (wC (.int 1)))) ae)))) (mx 3))) nB))
def A5:Nat→mI
 |0=>mH
 |r+1=>nz 7 3 (mz (mr (jn 1) (mx 3))
  (mz (mr (nw (nJ ae)) (mx 4))
  (mz (oB (oq (jn 2)) (mx 5) (EE r mH))
  (mS (m5 (jM (jn 4) (jM (jn 3) ae)))))))
def Nt (r:Nat) (self:mI):WE:=(mq mE (jn 0) (wC (.int 0)))
def Fu (r:Nat) (self:mI):WS:=(mz (nD (nA (mq (uI true) (jn 3) (nw (o9 1 [] (oq (mG (vk r) (jM (jn 0) (jM (jn 1) ae)))) (mx 0) px (Nt r mH))))) (mS (wC .ca)) nB)
  (mr (mG (wQ r) (jM (jn 0) (jM (jn 1) (jM (jn 3) ae)))) (mx 1)))
def AH:Nat→mI
 |0=>mH
 |r+1=>nz 4 3 (mz (oB (oq (jn 2)) (mx 3) (Fu r mH))
  (mS (jn 1)))
def Dp (r:Nat):WS:=(mS (mq (oK false) (mG (AH r) (jM (jn 3) (jM (jn 4) (jM (mG (AE r) (jM (jn 3) (jM (jn 7) ae))) ae)))) (jn 6)))
def Ey (r:Nat) (T:WS):WS:=(mz (nD (rG (nA (mq (oK false) (wB oP (jM (mG (vk r) (jM (jn 3) (jM (jn 6) ae))) ae)) (wC (.int 0)))) (nA (mq (oK true) (jn 6) (jn 10)))) (mS (wC (.bl false))) nB) T)
def Em (r:Nat) (T:WS):WS:=(mz (nD (tz (nA (mq (oK true) (mG (yD r) (jM (jn 3) (jM (jn 8) ae))) (jn 10))) (nA (mq (oK true) (mG (vk r) (jM (jn 3) (jM (jn 10) ae))) (nw (nJ ae))))) (mS (wC (.bl false))) nB) T)
def Dk (r:Nat) (self:mI):WS:=(mr (mG (zF r) (jM (jn 3) (jM (jn 11) (jM (wC (.int 2)) ae)))) (mx 10))
def EO (r:Nat) (T:WS):WS:=(mz (oB (oq (mq mE (jn 8) (wC (.int 1)))) (mx 11) (Dk r mH)) T)
def Ek (r:Nat) (T:WS):WS:=(mz (mr (jn 4) (mx 10)) T)
def Ej (r:Nat) (T:WS):WS:=(mz (nD (tz (nA (mq (pq true) (jn 9) (wC (.bl true)))) (tz (nA (mq (pq true) (mG (Cj r) (jM (jn 3) (jM (jn 8) ae))) (wC (.bl true)))) (nA (mq (pq true) (mG (BI r) (jM (jn 3) (jM (jn 7) (jM (jn 8) ae)))) (wC (.bl true)))))) (mS (wC (.bl false))) nB) T)
def DS (r:Nat) (T:WS):WS:=(mz (mr (mG (Bn r) (jM (jn 3) (jM (jn 4) (jM (wC (.int 9)) ae)))) (pB (nQ (mx 8) (nQ (mx 9) o6)))) T)
def D9 (r:Nat) (T:WS):WS:=(mz (mr (mG (Cs r) (jM (jn 3) (jM (jn 4) (jM (jn 5) ae)))) (mx 7)) T)
def Da (r:Nat) (T:WS):WS:=(mz (mr (mG (A5 r) (jM (jn 3) (jM (jn 4) (jM (oD (jn 0) (ou (wC (.int 25))) (ou (wC (.int 63)))) ae)))) (pB (nQ (mx 5) (nQ (mx 6) o6)))) T)
def Dw (r:Nat) (T:WS):WS:=(mz (mr (mG (yn r) (jM (mG (BF r) (jM (oD (jn 0) (ou (wC (.int 10))) (ou (wC (.int 25)))) (jM (jn 3) (jM (jn 1) (jM (wC (.int 7)) ae))))) (jM (jn 3) (jM (wC (.int 8)) ae)))) (mx 4)) T)
def Dd (r:Nat) (T:WS):WS:=(mz (mr (mG (BP r) (jM (jn 0) (jM (wC (.int 4)) (jM (jn 1) (jM (jn 2) (jM (wC (.bl false)) ae)))))) (mx 3)) T)
def E4 (r:Nat) (T:WS):WS:=(mz (mr (mG (zd r) (jM (mG (uC r) (jM (jn 0) (jM (wC (.int 2)) ae))) (jM (mG (uC r) (jM (jn 0) (jM (wC (.int 3)) ae))) (jM (wC (.bl true)) ae)))) (mx 2)) T)
def Fb (r:Nat) (T:WS):WS:=(mz (mr (mG (zd r) (jM (mG (uC r) (jM (jn 0) (jM (wC (.int 0)) ae))) (jM (mG (uC r) (jM (jn 0) (jM (wC (.int 1)) ae))) (jM (wC (.bl false)) ae)))) (mx 1)) T)
def wP:Nat→mI
 |0=>mH
 |r+1=>nz 12 1 (Fb r (E4 r (Dd r (Dw r (Da r (D9 r (DS r (Ej r (Ek r (EO r (Em r (Ey r (Dp r)))))))))))))
def yO{E:ah→lr→Prop}(h:Q (.bW (af t.dA)) S):xD (r+1) [j5 t] S Q E:=by
 rw[xD];cases t with
 |bl n=>
  simp only[j5];ext;exact⟨aP _,S, .refl,h⟩
 |nd s ts=>
  simp only[j5];ext;exact⟨S, .refl,h⟩
mutual
def Tr.pl (p:List Int):Tr→List (List Int)
 | .bl _=>[p]
 | .nd _ ts=>p::qz p 0 ts
def qz (p:List Int) (i:Nat):List Tr→List (List Int)
 | []=>[]
 |t::ts=>t.pl (p++[(i:Int)])++qz p (i+1) ts
end
mutual
theorem HE:∀(t:Tr) (p:List Int),(t.pl p).length=t.aq
 | .bl _,p=>by simp [Tr.pl,Tr.aq]
 | .nd _ ts,p=>by simp [Tr.pl,Tr.aq,KW ts p 0];lia
theorem KW:∀(ts:List Tr) (p:List Int) (i:Nat),(qz p i ts).length=mJ ts
 | [],p,i=>by simp [qz,mJ]
 |t::ts,p,i=>by simp [qz,mJ,HE t,KW ts p (i+1)]
end
def GU:om (mB p) (.bW [.int i]) S Q=(p.length+1≤sizeLine∧Q (mB (p++[i])) S):=by
 unfold mB;rw[CS];simp
mutual
theorem On:∀(t:Tr) {r:Nat}{p:List Int}{a:ai}{xs:List W}{S:lr}{Q:WK}{E:ah→lr→Prop},t.depth≤r→S a=aa (.bP xs)→xs.length+t.aq≤1000000→p.length+t.depth≤1000000→
  Q .ca (bR S a (.bP (xs++(t.pl p).map mB)))→vM (r+1) [j5 t,mB p, .ref a] S Q E
 | .bl n,r,p,a,xs,S,Q,E,hr,ha,hx,hp,h=>by
  obtain⟨r,rfl⟩:∃r',r=r'+1:=⟨r - 1,by simp [Tr.depth]at hr;lia⟩
  rw[vM];ext;simp only[m8 ha,true_and];simp [Tr.aq]at hx;refine⟨qE (by lia),?_⟩;refine yO ?_;simp only[Tr.dA,af,pN,mO];simp only[Tr.pl,aC,cy]at h;exact⟨_, .refl,h⟩
 | .nd s ts,r,p,a,xs,S,Q,E,hr,ha,hx,hp,h=>by
  simp only[Tr.depth]at hr hp;simp only[Tr.aq]at hx;obtain⟨r,rfl⟩:∃r',r=r'+1:=⟨r - 1,by lia⟩
  rw[vM];ext;simp only[m8 ha,true_and];refine⟨qE (by lia),?_⟩;refine yO ?_;dsimp only[Tr.dA];refine IA ts (xs:=xs++[mB p]) (by lia) mR (by simp;lia) (by lia) λx y=>?_;rw[pI];refine⟨_, .refl,?_⟩;simpa [Tr.pl,bD]using h
theorem IA:∀(ts:List Tr) {r:Nat}{p:List Int}{i:Nat}{a:ai}{xs:List W}{S:lr}{E:WX}{D:mY}{t0 x y:Option W},m_ ts≤r→S a=aa (.bP xs)→xs.length+mJ ts≤1000000→p.length+1+m_ ts≤1000000→
  (∀x y,D.nx [t0,aa (mB p),aa (.ref a),x,y] (bR S a (.bP (xs++(qz p i ts).map mB))))→
  mO (pB (nQ (mx 3) (nQ (mx 4) o6))) (Fl (r+1) (vM (r+1))) E D (λ_=>True) (pN i (af ts)) [t0,aa (mB p),aa (.ref a),x,y] S
 | [],r,p,i,a,xs,S,E,D,t0,x,y,hr,ha,hx,hp,h=>by
  simp only[af,pN,mO];have:=h x y;simp only[qz,cy,bg,sA ha]at this;exact this
 |t::ts,r,p,i,a,xs,S,E,D,t0,x,y,hr,ha,hx,hp,h=>by
  simp only[m_]at hr hp;simp only[mJ]at hx;simp only[af,pN,mO,Fl];ext;rw[GU];refine⟨m7 (by lia),m7 (by lia),On t (p:=p++[(i:Int)]) (by lia) ha (by lia) (by simp;lia) ?_⟩;refine⟨_, .refl,IA ts (by lia) mR (by simp [HE];lia) (by lia) λx y=>?_⟩;rw[pI];simpa [qz,bD]using h x y
end
def Uu{E:ah→lr→Prop}(hr:t.depth+1≤r) (hw:t.aq≤100000) (hd:t.depth≤100000) (h:∀a,S a=none→Q (.ref a) (bR S a (.bP ((t.pl []).map mB)))):Ap (r+1) [j5 t] S Q E:=by
 obtain⟨r,rfl⟩:∃r',r=r'+1:=⟨r - 1,by lia⟩
 rw[Ap];ext;refine⟨aP _,λa ha=>⟨aP _,On t (p:=[]) (xs:=[]) (by lia) mR (by simp;lia) (by simp;lia) ?_⟩⟩;rw[pI,aX];exact⟨_, .refl,h a ha⟩
def Tr.at:Tr→List Int→Option Tr
 |t,[]=>aa t
 | .bl _,_::_=>none
 | .nd _ ts,i::p=>if i<0 then none else match ts[i.toNat]? with
  |some u=>u.at p
  |none=>none
def XU{E:ah→lr→Prop}(hi:0≤i) (hu:t.dA[i.toNat]? =aa u) (h:Q (j5 u) S):A9 (r+2) [j5 t, .int i] S Q E:=by
 rw[A9];ext;refine yO ?_;have hl:i.toNat<t.dA.length:=(b8.mp hu).1;ext;rw[pH];rw[if_neg (by lia),if_neg (by lia)];have e:nC (af t.dA) i=aa (j5 u):=by
  have q:=sf (xs:=af t.dA) (n:=i.toNat);rw[cm hi]at q;rw[q,o5,aV,hu];rfl
 rw[e];exact⟨S, .refl,h⟩
def Qc:∀{t u:Tr}{r:Nat}{S:lr}{E:WX}{D:mY}{x y z:Option W},t.at p=aa u→(∀z,D.nx [x,y,aa (j5 u),z] S)→
  mO (mx 3) (Ev (r+2) mH) E D (λ_=>True) (p.map W.int) [x,y,aa (j5 t),z] S:=by
 induction p with
 |nil=>
  intro t u r S E D x y z e h;unfold Tr.at at e;cases e;exact h z
 |cons i p ih=>
  intro t u r S E D x y z e h;cases t with
  |bl n=>cases e
  |nd s ts=>
   unfold Tr.at at e;split at e
   ·cases e
   ·rename_i hi;split at e
    ·rename_i v ev;simp only[aC,mO,Ev];ext;refine XU (t:= .nd s ts) (u:=v) (by lia) ev ⟨S, .refl,?_⟩;exact ih e h
    ·cases e
def GI{E:ah→lr→Prop}(e:t.at p=aa u) (h:Q (j5 u) S):yK (r+3) [j5 t,mB p] S Q E:=by
 rw[yK];ext;unfold mB;dsimp only;exact Qc e λz=>⟨S, .refl,h⟩
def su (c:Nat):Prop:=97≤c∧c≤122
def ov (x:ah):Prop:=1≤x.cps.toList.length∧x.cps.toList.length≤8∧ ∀c∈x.cps.toList,su c
def p8 (x:ah):Prop:=∃c r,x.cps.toList=c::r∧65≤c∧c≤90∧r.length≤7∧ ∀d∈r,su d
def PM:(bE "abcdefghijklmnopqrstuvwxyz").cps.toList=f9 97 26:=by decide +kernel
def Pw:(bE "abcdefghijklmnopqrstuvwxyz").length=26:=by decide +kernel
theorem LX:∀cs:List Nat,(du (bE "") (cs.map λc=>(⟨#[c]⟩:ah))).cps.toList=cs
 | []=>rfl
 | [c]=>rfl
 |c::d::r=>by
  have ih:=LX (d::r);show((⟨#[c]⟩:ah)++bE "" ++du (bE "") ((d::r).map λc=>(⟨#[c]⟩:ah))).cps.toList=_;show(#[c]++(bE "").cps++(du (bE "") ((d::r).map λc=>(⟨#[c]⟩:ah))).cps).toList=_;rw[i8,i8,ih];rfl
def ZW (cs:List Nat):((cs.map λc=>(⟨#[c]⟩:ah)).map (·.length)).sum=cs.length:=by
 induction cs with
 |nil=>rfl
 |cons c r ih=>
  rw[aC,aC,md,ih,aU];show 1+r.length=r.length+1;lia
theorem Ox:∀cs:List Nat,uP (cs.map λc=>W.str ⟨#[c]⟩)=aa (cs.map λc=>(⟨#[c]⟩:ah))
 | []=>rfl
 |c::cs=>by rw[aC,uP,Ox cs];rfl
def Ul (cs:List Nat) (h:cs.length≤1000):(List.map (λx=>x.length) (cs.map λc=>(⟨#[c]⟩:ah))).sum+(cs.map λc=>(⟨#[c]⟩:ah)).length*(bE "").length≤16777216:=by
 have e:=ZW cs;have z:(bE "").length=0:=by decide +kernel
 rw[e,z];lia
def Kd{lo:Int}{n:Nat}:(sJ lo n).length=n:=by simp [sJ]
def O9{α:Type}{xs:List α}(n:Int) (h:xs≠ []):∃(i:Nat) (x:α),xs[i]? =aa x∧nC xs (n % (xs.length:Int))=aa x:=by
 have hp:0<xs.length:=kW.mpr h;have h0:0≤n % (xs.length:Int):=c_ _ (by lia);have h1:n % (xs.length:Int)<(xs.length:Int):=dj _ (by lia);have hlt:(n % (xs.length:Int)).toNat<xs.length:=by lia
 refine⟨(n % (xs.length:Int)).toNat,xs[(n % (xs.length:Int)).toNat],aS hlt,?_⟩;have e:=GL (xs:=xs) (j:=(n % (xs.length:Int)).toNat) (v:=xs[(n % (xs.length:Int)).toNat]) (aS hlt);rw[cm h0]at e;exact e
def xH (ts us:List Tr):af (ts++us)=af ts++af us:=by rw[o5,o5,o5,bK]
def Y9 (ts:List Tr) (n:Nat):(af ts).take n=af (ts.take n):=by rw[o5,o5,iL]
def Q4 (ts:List Tr) (n:Nat):(af ts).drop n=af (ts.drop n):=by rw[o5,o5,iz]
mutual
def Tr.plt (p:List Int):Tr→List (List Int×Tr)
 | .bl n=>[(p, .bl n)]
 | .nd s ts=>(p, .nd s ts)::oG p 0 ts
def oG (p:List Int) (i:Nat):List Tr→List (List Int×Tr)
 | []=>[]
 |t::ts=>t.plt (p++[(i:Int)])++oG p (i+1) ts
end
mutual
theorem xP:∀(t:Tr) (p:List Int),(t.plt p).map (·.1)=t.pl p
 | .bl _,p=>by simp [Tr.plt,Tr.pl]
 | .nd _ ts,p=>by simp [Tr.plt,Tr.pl,Hr ts p 0]
theorem Hr:∀(ts:List Tr) (p:List Int) (i:Nat),(oG p i ts).map (·.1)=qz p i ts
 | [],p,i=>by simp [oG,qz]
 |t::ts,p,i=>by simp [oG,qz,xP t,Hr ts p (i+1)]
end
mutual
theorem wf:∀(t:Tr) (p:List Int),(t.plt p).length=t.aq
 | .bl _,p=>by simp [Tr.plt,Tr.aq]
 | .nd _ ts,p=>by simp [Tr.plt,Tr.aq,Li ts p 0];lia
theorem Li:∀(ts:List Tr) (p:List Int) (i:Nat),(oG p i ts).length=mJ ts
 | [],p,i=>by simp [oG,mJ]
 |t::ts,p,i=>by simp [oG,mJ,wf t,Li ts p (i+1)]
end
def Kk{s:ah}{ts:List Tr}{i:Nat}{q:List Int}{u:Tr}(h:ts[i]? =aa u):(Tr.nd s ts).at ((i:Int)::q)=u.at q:=by
 rw[Tr.at,if_neg (by lia)];simp [h]
mutual
theorem xz:∀(t:Tr) (p q:List Int) (u:Tr),(q,u)∈t.plt p→ ∃r,q=p++r∧t.at r=aa u∧r.length<t.depth
 | .bl n,p,q,u,h=>by
  simp only[Tr.plt,bh,dM]at h;obtain⟨rfl,rfl⟩:=h;exact⟨[],by simp,by simp [Tr.at],by simp [Tr.depth]⟩
 | .nd s ts,p,q,u,h=>by
  simp only[Tr.plt,az,dM]at h;obtain ⟨rfl,rfl⟩ |h:=h
  ·exact⟨[],by simp,by simp [Tr.at],by simp [Tr.depth];lia⟩
  ·obtain⟨j,v,r,h1,h2,h3,h4⟩:=Il ts p 0 q u h;refine⟨(j:Int)::r,by rw[h2];simp,by rw[Kk h1];exact h3,by simp [Tr.depth];lia⟩
theorem Il:∀(ts:List Tr) (p:List Int) (i:Nat) (q:List Int) (u:Tr),(q,u)∈oG p i ts→ ∃(j:Nat) (v:Tr) (r:List Int),ts[j]? =aa v∧q=p++[((i+j:Nat):Int)]++r∧v.at r=aa u∧r.length<m_ ts
 | [],p,i,q,u,h=>by simp [oG]at h
 |t::ts,p,i,q,u,h=>by
  simp only[oG,bq]at h;obtain h |h:=h
  ·obtain⟨r,h1,h2,h3⟩:=xz t _ q u h;exact⟨0,t,r,rfl,by simpa using h1,h2,by simp [m_];lia⟩
  ·obtain⟨j,v,r,h1,h2,h3,h4⟩:=Il ts p (i+1) q u h;refine⟨j+1,v,r,by simpa using h1,?_,h3,by simp [m_];lia⟩
   rw[h2,show i+1+j=i+(j+1) by lia]
end
def keep (f:S a=aa o) (h:S p=none):bR S p x a=aa o:=by rw[nO (B8 f h)];exact f
def sw:List (List Int×Tr)→Nat
 | []=>0
 |x::xs=>x.2.aq+sw xs
theorem pY:∀{ts:List Tr},u∈ts→u.depth≤m_ ts
 |t::ts,h=>by
  obtain rfl |h:=az.mp h
  ·simp [m_];lia
  ·have:=pY h;simp [m_];lia
theorem qf{α:Type}{G:lr→Prop}{Q:List W→lr→Prop}(I:mU→Prop) (k f:α→W) (hG:G S):∀(xs:List α) (acc:List W) (σ:mU),I σ→acc.length+xs.length≤1000000→
  (∀x∈xs,∀σ (R:mU→W→lr→Prop),I σ→(∀σ1 S3,I σ1→Sub S S3→R σ1 (f x) S3)→g (k x) σ S λσ1 S1=>e E σ1 S1 λy S3=>R σ1 y S3)→
  Q (acc++xs.map f) S→sC g px e E G Q (xs.map k) acc σ S
 | [],acc,σ,hI,hl,step,hQ=>by simpa [sC]using hQ
 |x::xs,acc,σ,hI,hl,step,hQ=>by
  simp only[aC,sC,px,if_true];simp only[aU]at hl;refine step x aK σ _ hI λσ1 S3 hI1 sb=>⟨qE (by lia),S,sb,hG,qf I k f hG xs (acc++[f x]) σ1 hI1 (by simp;lia) (λy hy=>step y (aI _ hy)) ?_⟩;simpa using hQ
theorem CK{α:Type}{G:lr→Prop}{Q:List W→lr→Prop}(I:mU→Prop) (k f:α→W) (P:α→Bool) (hG:G S):∀(xs:List α) (acc:List W) (σ:mU),I σ→acc.length+xs.length≤1000000→
  (∀x∈xs,∀σ (R1:mU→W→lr→Prop) (R0:mU→lr→Prop),I σ→(P x=true→ ∀σ1 S3,I σ1→Sub S S3→R1 σ1 (f x) S3)→(P x=false→ ∀σ1 S3,I σ1→Sub S S3→R0 σ1 S3)→
   g (k x) σ S λσ1 S1=>c E σ1 S1 λb S2=>if b=true then e E σ1 S2 λy S3=>R1 σ1 y S3 else R0 σ1 S2)→
  Q (acc++(xs.filter P).map f) S→sC g c e E G Q (xs.map k) acc σ S
 | [],acc,σ,hI,hl,step,hQ=>by simpa [sC]using hQ
 |x::xs,acc,σ,hI,hl,step,hQ=>by
  simp only[aC,sC];simp only[aU]at hl;refine step x aK σ _ _ hI (λhp σ1 S3 hI1 sb=>⟨qE (by lia),S,sb,hG,CK I k f P hG xs (acc++[f x]) σ1 hI1 (by simp;lia) (λy hy=>step y (aI _ hy)) ?_⟩)
   λhp σ1 S3 hI1 sb=>⟨S,sb,hG,CK I k f P hG xs acc σ1 hI1 (by lia) (λy hy=>step y (aI _ hy)) ?_⟩
  ·rw[List.filter_cons_of_pos hp]at hQ;simpa using hQ
  ·rw[lm (by rw[hp];simp)]at hQ;exact hQ
def Tr.isBl:Tr→Bool
 | .bl _=>true
 | .nd _ _=>false
def Tr.num:Tr→Int
 | .bl n=>n
 | .nd _ _=>0
def Tr.bls (t:Tr):List (List Int×Tr):=(t.plt []).filter λx=>x.2.isBl
def xO{t:Tr}{x:List Int×Tr}(h:x∈t.bls):t.at x.1=aa x.2∧x.2= .bl x.2.num∧x.1.length<t.depth:=by
 obtain⟨h1,h2⟩:=dS.mp h;obtain⟨r,h3,h4,h5⟩:=xz t [] x.1 x.2 h1;simp at h3;subst h3;refine⟨h4,?_,h5⟩;obtain⟨p,u⟩:=x;cases u with
 |bl n=>rfl
 |nd s ts=>simp [Tr.isBl]at h2
def yA (t:Tr):t.bls.length≤t.aq:=by
 unfold Tr.bls;exact aY (gq ..) (by rw[wf];exact aA _)
def Et{E:ah→lr→Prop}(hr:t.depth+4≤r) (hw:t.aq≤90000) (h:∀a,S a=none→Q (.ref a) (bR S a (.bP (t.bls.map λx=>mB x.1)))):xa (r+1) [j5 t] S Q E:=by
 have hd:=NM t;obtain⟨r,rfl⟩:∃r',r=r'+3:=⟨r - 3,by lia⟩
 rw[xa];ext;refine Uu (by lia) (by lia) (by lia) λa ha=>?_;ext;rw[←xP,bu];refine CK (λσ=>∃x,σ=[x,aa (j5 t)]) (λx=>mB x.1) (λx=>mB x.1) (λx=>x.2.isBl) ?_ (t.plt []) [] _ ⟨none,rfl⟩ (by simp [wf];lia) (λx hx σ R1 R0 hI h1 h0=>?_) ?_
 ·exact mR
 ·obtain⟨y,rfl⟩:=hI;obtain⟨q,h3,h4,h5⟩:=xz t [] x.1 x.2 hx;simp at h3;subst h3;ext;refine GI h4 ?_;obtain⟨p,u⟩:=x;cases u with
  |bl n=>
   simp only[j5];ext;exact h1 rfl _ _ ⟨_,rfl⟩ .refl
  |nd s ts=>
   simp only[j5];ext;exact h0 rfl _ _ ⟨_,rfl⟩ .refl
 ·rw[aX];intro b hb;obtain⟨hb1,hb2⟩:=qU hb;exact⟨_, .put2 (.bR .refl ha),h b hb1⟩
mutual
def Tr.aD (us:List Tr):Tr→Tr
 | .bl n=>us.getD n.toNat (.bl n)
 | .nd s ts=> .nd s (aF us ts)
def aF (us:List Tr):List Tr→List Tr
 | []=>[]
 |t::ts=>t.aD us::aF us ts
end
mutual
def Tr.br (m:Nat):Tr→Prop
 | .bl n=>0≤n∧n<m
 | .nd _ ts=>m4 m ts
def m4 (m:Nat):List Tr→Prop
 | []=>True
 |t::ts=>t.br m∧m4 m ts
end
theorem vo (us:List Tr):∀ts:List Tr,aF us ts=ts.map (Tr.aD us)
 | []=>by simp [aF]
 |t::ts=>by simp [aF,vo us ts]
theorem wk:∀{ts:List Tr},m4 m ts→t∈ts→t.br m
 |u::ts,h,hm=>by
  simp only[m4]at h;obtain rfl |hm:=az.mp hm
  ·exact h.1
  ·exact wk h.2 hm
theorem FX:∀(d:Nat) {t:Tr}{r:Nat}{S:lr}{Q:WK}{E:ah→lr→Prop},t.depth≤d→d≤r+1→S a=aa (.bP (af us))→t.br us.length→t.aq≤90000→Q (j5 (t.aD us)) S→u6 (r+1) [j5 t, .ref a] S Q E
 |0,t,r,S,Q,E,hd,hr,ha,hf,hw,h=>by have:=qB t;lia
 |d+1, .bl n,r,S,Q,E,hd,hr,ha,hf,hw,h=>by
  simp only[Tr.br]at hf;simp only[Tr.aD]at h;rw[u6];simp only[j5];ext;have e:nC (af us) n=aa (j5 (us.getD n.toNat (.bl n))):=by
   have q:=sf (xs:=af us) (n:=n.toNat);rw[cm hf.1]at q;rw[q,o5,aV,bv,aS (by lia)];rfl
  rw[m8 ha,e];exact⟨S, .refl,h⟩
 |d+1, .nd s ts,r,S,Q,E,hd,hr,ha,hf,hw,h=>by
  simp only[Tr.br]at hf;simp only[Tr.aD]at h;simp only[Tr.depth]at hd;simp only[Tr.aq]at hw;have hk:=qH ts;rw[u6];simp only[j5]at h⊢;ext;refine⟨m7 (by decide),?_⟩;rw[o5];refine qf (λσ=>∃x,σ=[x,aa (.ref a)]) j5 (λt=>j5 (t.aD us)) trivial ts [] _ ⟨none,rfl⟩ (by simp;lia) (λx hx σ R hI hR=>?_) ?_
  ·obtain⟨y,rfl⟩:=hI;have hdx:=pY hx;have hwx:=pe hx;have:=qB x;obtain⟨r,rfl⟩:∃r',r=r'+1:=⟨r - 1,by lia⟩
   simp only[L'];ext;exact FX d (t:=x) (r:=r) (by lia) (by lia) ha (wk hf hx) (by lia) (hR _ _ ⟨_,rfl⟩ .refl)
  ·rw[aX];refine⟨m7 (by simp;lia),S, .refl,?_⟩;have e:af (aF us ts)=ts.map λt=>j5 (t.aD us):=by rw[o5,vo,bu];rfl
   rw[e]at h;exact h
def Tr.bR:Tr→List Int→Tr→Tr
 |_,[],u=>u
 | .bl n,_::_,_=> .bl n
 | .nd s ts,i::p,u=>match ts[i.toNat]? with
  |some v=> .nd s (ts.set i.toNat (v.bR p u))
  |none=> .nd s ts
def pk (t:Tr):t.at []=aa t:=by cases t<;>rfl
def tq (t u:Tr):t.bR [] u=u:=by cases t<;>rfl
def pR (h:(Tr.nd s ts).at (i::p)=aa u):∃v,0≤i∧ts[i.toNat]? =aa v∧v.at p=aa u:=by
 unfold Tr.at at h;split at h
 ·cases h
 ·split at h
  ·exact⟨_,by lia, ‹_›,h⟩
  ·cases h
theorem uO:∀(q:List Int) {D t:Tr}(r:List Int),D.at q=aa t→D.at (q++r)=t.at r
 | [],D,t,r,h=>by rw[pk]at h;cases h;rfl
 |i::q, .bl n,t,r,h=>by cases h
 |i::q, .nd s ts,t,r,h=>by
  obtain⟨v,h0,h1,h2⟩:=pR h;rw[ck];have e:(i:Int)=((i.toNat:Nat):Int):=(cm h0).symm;rw[e,Kk h1];exact uO q r h2
def tI (h:ts[i.toNat]? =aa v):(Tr.nd s ts).bR (i::p) u= .nd s (ts.set i.toNat (v.bR p u)):=by
 rw[Tr.bR,h]
def Dz:nY S 60 (mB p) (.bW [])=aa p.isEmpty:=by
 cases p<;>rfl
theorem LW:∀(p:List Int) {t v:Tr}{r:Nat}{S:lr}{Q:WK}{E:ah→lr→Prop},t.at p=aa v→p.length≤r→t.aq≤90000→p.length≤90000→Q (j5 (t.bR p u)) S→wI (r+1) [j5 t,mB p,j5 u] S Q E
 | [],t,v,r,S,Q,E,h,hr,hw,hp,q=>by
  rw[tq]at q;rw[wI];ext;rw[Dz];exact⟨aP _,S, .refl,q⟩
 |i::p, .bl n,v,r,S,Q,E,h,hr,hw,hp,q=>by cases h
 |i::p, .nd s ts,v,r,S,Q,E,h,hr,hw,hp,q=>by
  obtain⟨w,h0,h1,h2⟩:=pR h;obtain⟨j,rfl⟩:∃j:Nat,i=j:=⟨i.toNat,(cm h0).symm⟩;rw[bb]at h1;rw[tI (by rw[bb];exact h1),bb]at q;simp only[aU]at hr hp;simp only[Tr.aq]at hw;have hk:=qH ts;have hl:=(b8.mp h1).1;have hm:=pe (aJ h1);obtain⟨r,rfl⟩:∃r',r=r'+1:=⟨r - 1,by lia⟩
  rw[wI];ext;rw[Dz];simp only[il,cF,if_false];have ep:mB ((j:Int)::p)= .bW (.int j::p.map W.int):=rfl;simp only[ep,j5];ext;rw[show((j:Int)+1)=((j+1:Nat):Int) by lia,sf,bU,o5,aV,h1]
  dsimp only[Option.map];rw[show((j+1:Nat):Int)+1=((j+2:Nat):Int) by lia,B1,Cb]
  refine⟨aP _,LW p (r:=r) h2 (by lia) (by lia) (by lia) ?_⟩;simp only[mf,List.drop_succ_cons,←o5,Y9,Q4];ext;simp only[pH,cU,cP];refine⟨m7 (by decide),m7 (by lia),m7 (by simp only[bc,pH,cU,aU,di,cP];lia),S, .refl,?_⟩;have e:j5 (.nd s (ts.set j (w.bR p u)))= .bW (.str s::(af (ts.take j)++[j5 (w.bR p u)]++af (ts.drop (j+1)))):=by
   simp only[j5];rw[List.set_eq_take_append_cons_drop,if_pos hl,xH];simp [af]
  rw[e]at q;simpa using q
mutual
def Tr.same:Tr→Tr→Bool
 | .bl n, .bl m=>n == m
 | .nd s ts, .nd z us=>s == z&&sF ts us
 |_,_=>false
def sF:List Tr→List Tr→Bool
 | [],[]=>true
 |t::ts,u::us=>t.same u&&sF ts us
 |_,_=>false
end
mutual
theorem Dq:∀(t u:Tr),t.same u=true↔t=u
 | .bl n, .bl m=>by simp [Tr.same]
 | .nd s ts, .nd z us=>by simp [Tr.same,IH ts us]
 | .bl n, .nd z us=>by simp [Tr.same]
 | .nd s ts, .bl m=>by simp [Tr.same]
theorem IH:∀(ts us:List Tr),sF ts us=true↔ts=us
 | [],[]=>by simp [sF]
 |t::ts,u::us=>by simp [sF,Dq t u,IH ts us]
 | [],u::us=>by simp [sF]
 |t::ts,[]=>by simp [sF]
end
def yB (t:Tr):t.same t=true:=(Dq t t).mpr rfl
def L6{S:lr}{n:Nat}{xs ys:List W}:nY S (n+1) (.bW xs) (.bW ys)=oV (nY S n) xs ys:=fS (b:=oV (nY S n) xs ys) rfl rfl
def SJ{S:lr}{n:Nat}{x y:ah}:nY S (n+1) (.str x) (.str y)=aa (x == y):=fS (b:=aa (x == y)) rfl rfl
def Km{S:lr}{n:Nat}{x y:Int}:nY S (n+1) (.int x) (.int y)=aa (x == y):=fS (b:=aa (x == y)) rfl rfl
def XE{S:lr}{n:Nat}{x:Int}{ys:List W}:nY S (n+1) (.int x) (.bW ys)=aa false:=fS (b:=aa false) rfl rfl
def Rx{S:lr}{n:Nat}{x:Int}{ys:List W}:nY S (n+1) (.bW ys) (.int x)=aa false:=fS (b:=aa false) rfl rfl
mutual
theorem xj{S:lr}:∀(n:Nat) (t u:Tr),t.depth<n→nY S n (j5 t) (j5 u)=aa (t.same u)
 |0,t,u,h=>by lia
 |n+1, .bl k, .bl m,h=>by simp only[j5,Km,Tr.same]
 |n+1, .nd s ts, .nd z us,h=>by
  simp only[Tr.depth]at h;obtain⟨n,rfl⟩:∃m,n=m+1:=⟨n - 1,by lia⟩
  simp only[j5,L6,oV,SJ,Tr.same];rw[HC (n+1) ts us (by lia)]
 |n+1, .bl k, .nd z us,h=>by simp only[j5,XE,Tr.same]
 |n+1, .nd s ts, .bl m,h=>by simp only[j5,Rx,Tr.same]
theorem HC{S:lr}:∀(n:Nat) (ts us:List Tr),m_ ts<n→oV (nY S n) (af ts) (af us)=aa (sF ts us)
 |n,[],[],h=>by simp only[af,oV,sF]
 |n,[],u::us,h=>by simp only[af,oV,sF]
 |n,t::ts,[],h=>by simp only[af,oV,sF]
 |n,t::ts,u::us,h=>by
  simp only[m_]at h;simp only[af,oV,sF,xj n t u (by lia),HC n ts us (by lia)]
end
def JF (j:Int) (m:Nat):sJ j (m+1)= .int j::sJ (j+1) m:=by
 unfold sJ;rw[gp,aC,bu];congr 1
 ·simp
 ·apply dc;intro i _;simp only[lD,W.int.injEq];lia
def FP{α:Type}{xs:List α}{i:Int}(h0:0≤i) (h1:i<xs.length):∃x,nC xs i=aa x∧x∈xs:=by
 have q:=sf (xs:=xs) (n:=i.toNat);rw[cm h0,aS (by lia)]at q;exact⟨_,q,eJ ..⟩
def Qz{ss:List ah}{i:Int}(h0:0≤i) (h1:i<ss.length):∃x,nC (ss.map W.str) i=aa (.str x)∧x∈ss:=by
 obtain⟨w,h,m⟩:=FP (xs:=ss.map W.str) h0 (by simpa using h1);obtain⟨x,hx,rfl⟩:=aT.mp m;exact⟨x,h,hx⟩
def JV{g:WG}{b:WS}{E:WX}{D:mY}(I:Nat→mU→lr→Prop) (n:Nat)
  (step:∀i,i<n→ ∀σ S (N:mU→lr→Prop),I i σ S→(∀σ' S' S'',Sub S'' S'→I (i+1) σ' S''→N σ' S')→g (.int i) σ S λσ1 S1=>b E { D with nx:=N,ct:=N,bk:=D.nx } σ1 S1)
  (done:∀σ S,I n σ S→D.nx σ S) {σ:mU}{S:lr}(h:I 0 σ S):mO g b E D (λ_=>True) (sJ 0 n) σ S:=by
 refine DF (λws σ S=>∃i,i≤n∧ws=sJ (i:Int) (n - i)∧I i σ S) ?_ ?_ _ _ _ ⟨0,aP _,rfl,h⟩
 ·rintro w ws σ S N ⟨i,hi,e,hI⟩ hN;obtain⟨m,hm⟩:∃m,n - i=m+1:=by
   obtain z |z:=ii (n - i)
   ·rw[z]at e;cases e
   ·exact⟨n - i - 1,by lia⟩
  rw[hm,JF]at e;cases e;exact step i (by lia) σ S N hI λσ' S' S'' sb h'=>hN σ' S' S'' sb trivial ⟨i+1,by lia,by rw[show n - (i+1)=m by lia];push_cast;rfl,h'⟩
 ·rintro σ S ⟨i,hi,e,hI⟩;have:n - i=0:=by
   obtain z |z:=ii (n - i)
   ·exact z
   ·obtain⟨m,hm⟩:∃m,n - i=m+1:=⟨n - i - 1,by lia⟩
    rw[hm,JF]at e;cases e
  rw[show i=n by lia]at hI
  exact done σ S hI
theorem KD:∀{ts:List Tr}{i:Nat}{v u:Tr},ts[i]? =aa v→mJ (ts.set i u)+v.aq=mJ ts+u.aq
 | [],i,v,u,h=>by simp at h
 |t::ts,0,v,u,h=>by
  simp at h;subst h;rw[l_,tS,tS];lia
 |t::ts,i+1,v,u,h=>by
  have:=KD (ts:=ts) (i:=i) (v:=v) (u:=u) (by simpa using h);rw[kx,tS,tS];lia
theorem HH:∀(p:List Int) {D u v:Tr},D.at p=aa v→(D.bR p u).aq+v.aq=D.aq+u.aq
 | [],D,u,v,h=>by rw[pk]at h;cases h;rw[tq];lia
 |i::p, .bl n,u,v,h=>by cases h
 |i::p, .nd s ts,u,v,h=>by
  obtain⟨w,h0,e1,e2⟩:=pR h;rw[tI e1];have h1:=HH p (u:=u) e2;have h2:=KD (u:=w.bR p u) e1;simp only[Tr.aq];lia
mutual
theorem Na{us:List Tr}{k:Nat}(hk:1≤k) (hu:∀u∈us,u.aq≤k):∀t:Tr,(t.aD us).aq≤t.aq*k
 | .bl n=>by
  simp only[Tr.aD,Tr.aq,c5];rw[bv];cases e:us[n.toNat]? with
  |none=>simpa [Tr.aq]using hk
  |some u=>exact hu u (aJ e)
 | .nd s ts=>by
  have:=Gq hk hu ts;simp only[Tr.aD,Tr.aq];rw[cg];lia
theorem Gq{us:List Tr}{k:Nat}(hk:1≤k) (hu:∀u∈us,u.aq≤k):∀ts:List Tr,mJ (aF us ts)≤mJ ts*k
 | []=>by simp [aF,mJ]
 |t::ts=>by
  have:=Na hk hu t;have:=Gq hk hu ts;simp only[aF,mJ];rw[cg];lia
end
theorem Ha{k:Nat}:∀{ts:List Tr},(∀t∈ts,t.depth≤k)→m_ ts≤k
 | [],_=>by simp [m_]
 |t::ts,h=>by
  have:=h t aK;have:=Ha (ts:=ts) λu hu=>h u (aI _ hu);simp only[m_];lia
def pU{G:lr→Prop}(h:∀N:mU→lr→Prop,(∀σ S S',Sub S' S→G S'→mO g b E D G ws σ S'→N σ S)→g w σ S λσ1 S1=>b E { D with nx:=N,ct:=N,bk:=D.nx } σ1 S1):mO g b E D G (w::ws) σ S:=h _ λσ S S' a c d=>⟨S',a,c,d⟩
mutual
def Tr.mt:Tr→Tr→Option (List Tr)
 | .bl _,t=>aa [t]
 | .nd s ls, .nd z us=>if s == z&&ls.length == us.length then nM ls us else none
 | .nd _ _, .bl _=>none
def nM:List Tr→List Tr→Option (List Tr)
 | [],_=>aa []
 |_::_,[]=>aa []
 |l::ls,u::us=>match l.mt u with
  |none=>none
  |some xs=>match nM ls us with
   |none=>none
   |some ys=>aa (xs++ys)
end
def OO{E:ah→lr→Prop}(h:Q (.bl (s == z&&ls.length == us.length)) S):AS (r+1) [j5 (.nd s ls),j5 (.nd z us)] S Q E:=by
 rw[AS];simp only[j5];ext;cases e:s == z with
 |false=>
  rw[e]at h;exact⟨_, .refl,h⟩
 |true=>
  rw[e]at h;ext;refine⟨_, .refl,?_⟩;have:(((af ls).length+1:Nat):Int)=((af us).length+1:Nat)↔ls.length=us.length:=by rw[pH,pH];lia
  have e2:((((af ls).length+1:Nat):Int) == ((af us).length+1:Nat))=(ls.length == us.length):=by
   rw[fF,beq_iff_eq,beq_iff_eq];exact this
  rw[e2];simpa using h
mutual
theorem CZ:∀(l t:Tr) (ys:List Tr),l.mt t=aa ys→ys.length≤l.aq
 | .bl _,t,ys,h=>by simp only[Tr.mt,bH]at h;subst h;simp [Tr.aq]
 | .nd s ls, .nd z us,ys,h=>by
  simp only[Tr.mt]at h;split at h
  ·have:=KP ls us ys h;simp only[Tr.aq];lia
  ·cases h
 | .nd _ _, .bl _,ys,h=>by simp [Tr.mt]at h
theorem KP:∀(ls us ys:List Tr),nM ls us=aa ys→ys.length≤mJ ls
 | [],us,ys,h=>by simp only[nM,bH]at h;subst h;simp
 |l::ls,[],ys,h=>by simp only[nM,bH]at h;subst h;simp
 |l::ls,u::us,ys,h=>by
  simp only[nM]at h;split at h
  ·cases h
  ·rename_i xs e1;split at h
   ·cases h
   ·rename_i zs e2;cases h;have:=CZ l u xs e1;have:=KP ls us zs e2;simp only[bc,mJ];lia
end
theorem IU:∀(ls us:List Tr)
  (one:∀l∈ls,∀{t:Tr}{S:lr}{xs:List W}{Q:WK}{E:ah→lr→Prop},t.br 0→S a=aa (.bP xs)→xs.length+l.aq≤100000→(∀ys,l.mt t=aa ys→Q (.bl true) (bR S a (.bP (xs++af ys))))→(l.mt t=none→ ∀ys,Q (.bl false) (bR S a (.bP (xs++ys))))→uV r [j5 l,j5 t, .ref a] S Q E)
  {S:lr}{xs:List W}{x3 x4:Option W},m4 0 us→S a=aa (.bP xs)→xs.length+mJ ls≤100000→
  (∀ys x3 x4,nM ls us=aa ys→D.nx [x0,x1,aa (.ref a),x3,x4] (bR S a (.bP (xs++af ys))))→(nM ls us=none→ ∀ys,D.rt (.bl false) (bR S a (.bP (xs++ys))))→
  mO (pB (nQ (mx 3) (nQ (mx 4) o6))) (EU r (uV r)) E D (λ_=>True) (m3 (af ls) (af us)) [x0,x1,aa (.ref a),x3,x4] S
 | [],us,one,S,xs,x3,x4,hf,ha,hl,h1,h0=>by
  have q:=h1 [] x3 x4 (by simp [nM]);simp only[af,bg,sA ha]at q;simpa [af,m3,mO]using q
 |l::ls,[],one,S,xs,x3,x4,hf,ha,hl,h1,h0=>by
  have q:=h1 [] x3 x4 (by simp [nM]);simp only[af,bg,sA ha]at q;simpa [af,m3,mO]using q
 |l::ls,u::us,one,S,xs,x3,x4,hf,ha,hl,h1,h0=>by
  simp only[m4]at hf;simp only[mJ]at hl;simp only[af,m3];refine pU λN hN=>?_;simp only[EU];ext;refine one l aK hf.1 ha (by lia) (λys e=>?_) λe ys=>?_
  ·ext;have hyl:=CZ l u ys e;refine hN _ _ _ .refl trivial (IU ls us (λl' hl'=>one l' (aI _ hl')) hf.2 mR (by rw[bc,pH];lia) (λzs x3 x4 e2=>?_) λe2 zs=>?_)
   ·rw[pI,bD,←xH];exact h1 _ _ _ (by simp only[nM,e,e2])
   ·rw[pI,bD];exact h0 (by simp only[nM,e,e2]) _
  ·ext;exact h0 (by simp only[nM,e]) ys
theorem Ix:∀(d:Nat) {l t:Tr}{r:Nat}{S:lr}{xs:List W}{Q:WK}{E:ah→lr→Prop},l.depth≤d→d≤r→t.br 0→S a=aa (.bP xs)→xs.length+l.aq≤100000→
  (∀ys,l.mt t=aa ys→Q (.bl true) (bR S a (.bP (xs++af ys))))→(l.mt t=none→ ∀ys,Q (.bl false) (bR S a (.bP (xs++ys))))→uV (r+1) [j5 l,j5 t, .ref a] S Q E
 |0,l,t,r,S,xs,Q,E,hd,hr,hf,ha,hl,h1,h0=>by have:=qB l;lia
 |d+1, .bl n,t,r,S,xs,Q,E,hd,hr,hf,ha,hl,h1,h0=>by
  have hw:=rT (.bl n);rw[uV];simp only[j5];ext;simp only[m8 ha,true_and];refine⟨qE (by lia),_, .refl,?_⟩;have:=h1 [t] (by simp [Tr.mt]);simpa only[af]using this
 |d+1, .nd s ls, .bl n,r,S,xs,Q,E,hd,hr,hf,ha,hl,h1,h0=>by
  simp only[Tr.br]at hf;lia
 |d+1, .nd s ls, .nd z us,r,S,xs,Q,E,hd,hr,hf,ha,hl,h1,h0=>by
  simp only[Tr.br]at hf;simp only[Tr.depth]at hd;simp only[Tr.aq]at hl;obtain⟨r,rfl⟩:∃r',r=r'+1:=⟨r - 1,by lia⟩
  have en:∀s ts,j5 (.nd s ts)= .bW (.str s::af ts):=λs ts=>by simp [j5]
  rw[uV];ext;rw[en,en];ext;rw[←en,←en];refine OO ?_;rw[en,en];ext;simp only[Tr.mt]at h1 h0;cases e:(s == z&&ls.length == us.length) with
  |false=>
   rw[e]at h0;have:=h0 (by simp) [];rw[bg,sA ha]at this;exact⟨_, .refl,this⟩
  |true=>
   rw[e]at h0 h1;simp only[if_true]at h0 h1;ext;refine IU ls us (λl hl' {t S xs Q E} f1 f2 f3 f4 f5=>Ix d (by have:=pY hl';lia) (by lia) f1 f2 f3 f4 f5) hf ha (by lia) (λys x3 x4 e=>?_) λe ys=>?_
   ·ext;exact⟨_, .refl,h1 ys e⟩
   ·exact⟨_, .refl,h0 e ys⟩
def BC{E:ah→lr→Prop}(hr:l.depth<r) (hf:t.br 0) (hw:l.aq≤90000) (h1:∀ys,l.mt t=aa ys→ ∀a,S a=none→Q (.ref a) (bR S a (.bP (af ys)))) (h0:l.mt t=none→Q .ca S):tU (r+1) [j5 l,j5 t] S Q E:=by
 obtain⟨r,rfl⟩:∃r',r=r'+1:=⟨r - 1,by lia⟩
 rw[tU];ext;refine⟨aP _,λa ha=>Ix l.depth (aA _) (by lia) hf mR (by simpa using(by lia:l.aq≤100000)) (λys e=>?_) λe ys=>?_⟩
 ·ext;exact⟨_, .refl,h1 ys e a ha⟩
 ·ext;exact⟨_, .bR .refl ha,h0 e⟩
mutual
theorem Iq:∀(l t:Tr) (ys:List Tr),l.mt t=aa ys→mJ ys≤t.aq
 | .bl _,t,ys,h=>by simp only[Tr.mt,bH]at h;subst h;simp [mJ]
 | .nd s ls, .nd z us,ys,h=>by
  simp only[Tr.mt]at h;split at h
  ·have:=M9 ls us ys h;simp only[Tr.aq];lia
  ·cases h
 | .nd _ _, .bl _,ys,h=>by simp [Tr.mt]at h
theorem M9:∀(ls us ys:List Tr),nM ls us=aa ys→mJ ys≤mJ us
 | [],us,ys,h=>by simp only[nM,bH]at h;subst h;simp [mJ]
 |l::ls,[],ys,h=>by simp only[nM,bH]at h;subst h;simp [mJ]
 |l::ls,u::us,ys,h=>by
  simp only[nM]at h;split at h
  ·cases h
  ·rename_i xs e1;split at h
   ·cases h
   ·rename_i zs e2;cases h;have:=Iq l u xs e1;have:=M9 ls us zs e2;simp only[A2,mJ];lia
end
def xt (c:Nat):Bool:=decide (97≤c)&&decide (c≤122)
def bo (xs:List Nat):Bool:=xs.all xt
def SQ{s:ah}{a:Nat}(hs:s.cps.toList=[a]) (c:Nat):(!decide ((⟨#[c]⟩:ah).cps.toList<s.cps.toList))=decide (a≤c):=by
 rw[hs];show(!decide (([c]:List Nat)< [a]))=_;by_cases h:a≤c
 ·rw[decide_eq_true h,decide_eq_false (λz=>by have:=(By c a).mp z;lia)];rfl
 ·rw[decide_eq_false h,decide_eq_true ((By c a).mpr (by lia))];rfl
def ZI{s:ah}{a:Nat}(hs:s.cps.toList=[a]) (c:Nat):(!decide (s.cps.toList<(⟨#[c]⟩:ah).cps.toList))=decide (c≤a):=by
 rw[hs];show(!decide (([a]:List Nat)< [c]))=_;by_cases h:c≤a
 ·rw[decide_eq_true h,decide_eq_false (λz=>by have:=(By a c).mp z;lia)];rfl
 ·rw[decide_eq_false h,decide_eq_true ((By a c).mpr (by lia))];rfl
def Sx:(bE "a").cps.toList=[97]:=by decide +kernel
def So:(bE "z").cps.toList=[122]:=by decide +kernel
def NK (x:ah):(cV x (aa 1) none).cps.toList=x.cps.toList.drop 1:=by
 rw[SM];unfold Bh;rw[HT.sIx_none];have ez:HT.sIx x.cps.toList.length 0 (aa 1)=min 1 x.cps.toList.length:=HT.sIx_nat x.cps.toList.length 0 1;rw[ez];by_cases h:1≤x.cps.toList.length
 ·rw[iR h,dB (by rw[cP];exact aA _)]
 ·have:x.cps.toList=[]:=ly (by lia);rw[this];rfl
def wq (x:ah):x.length=x.cps.toList.length:=by simp [io]
def HK (bs:List Bool):sH (bs.map W.bl)=aa bs:=by
 induction bs with
 |nil=>rfl
 |cons b bs ih=>rw[aC,sH,ih];rfl
def J9{α:Type}(xs:List α) (f:α→Bool):((xs.map f).all _root_.id)=xs.all f:=by rw[fv];rfl
def V1{E:ah→lr→Prop}(hx:x.length≤1000) (h:Q (.bl (bo x.cps.toList)) S):Ay (r+1) [.str x] S Q E:=by
 rw[wq]at hx;rw[Ay];walk_at "wp";unfold BT;refine qf (λσ=>∃x,σ=[x]) (λc=> .str ⟨#[c]⟩) (λc=> .bl (xt c)) ?_ x.cps.toList [] _ ⟨none,rfl⟩ (by rw[di];lia) (λc hc σ R hI hR=>?_) ?_
 ·exact trivial
 ·obtain⟨y,rfl⟩:=hI;simp only[NX];walk_at "wp";rw[SQ Sx,ZI So];unfold xt at hR;cases e:decide (97≤c) with
  |false=>rw[e]at hR;exact hR _ _ ⟨_,rfl⟩ .refl
  |true=>rw[e]at hR;exact hR _ _ ⟨_,rfl⟩ .refl
 ·have e:x.cps.toList.map (λc=>W.bl (xt c))=(x.cps.toList.map xt).map W.bl:=by rw[bu];rfl
  rw[aX,e,HK];dsimp only;rw[J9];exact⟨_, .refl,h⟩
mutual
theorem AA:∀(t:Tr) (p q:List Int) (u:Tr),t.at q=aa u→(p++q,u)∈t.plt p
 | .bl n,p,[],u,h=>by rw[pk]at h;cases h;simp [Tr.plt]
 | .bl n,p,i::q,u,h=>by cases h
 | .nd s ts,p,[],u,h=>by rw[pk]at h;cases h;simp [Tr.plt]
 | .nd s ts,p,i::q,u,h=>by
  obtain⟨v,h0,e1,e2⟩:=pR h;simp only[Tr.plt,az];refine .inr ?_;have:=LZ ts p 0 i.toNat q u v e1 e2;rw[bG,cm h0]at this;simpa using this
theorem LZ:∀(ts:List Tr) (p:List Int) (i j:Nat) (q:List Int) (u v:Tr),ts[j]? =aa v→v.at q=aa u→(p++((i+j:Nat):Int)::q,u)∈oG p i ts
 | [],p,i,j,q,u,v,h1,h2=>by simp at h1
 |t::ts,p,i,0,q,u,v,h1,h2=>by
  simp at h1;subst h1;simp only[oG,bq];refine .inl ?_;have:=AA t (p++[(i:Int)]) q u h2;simpa using this
 |t::ts,p,i,j+1,q,u,v,h1,h2=>by
  simp only[oG,bq];refine .inr ?_;have:=LZ ts p (i+1) j q u v (by simpa using h1) h2;rw[show i+1+j=i+(j+1) by lia]at this
  exact this
end
def Lp{t:Tr}{x:List Int×Tr}(h:x∈t.plt []):t.at x.1=aa x.2∧x.1.length<t.depth:=by
 obtain⟨q,h3,h4,h5⟩:=xz t [] x.1 x.2 h;simp at h3;subst h3;exact⟨h4,h5⟩
theorem vv{α:Type}{G:lr→Prop}(hG:G S) (I:mU→Prop) (key:α→W) (f:α→Option W):∀(xs:List α) (σ:mU),I σ→
  (∀x∈xs,∀σ (N:mU→lr→Prop),I σ→(f x=none→ ∀σ' S',I σ'→Sub S S'→N σ' S')→(∀w,f x=aa w→ ∀S',Sub S S'→D.rt w S')→g (key x) σ S λσ1 S1=>b E { D with nx:=N,ct:=N,bk:=D.nx } σ1 S1)→
  (xs.findSome? f=none→ ∀σ,I σ→D.nx σ S)→(∀w,xs.findSome? f=aa w→ ∀S',Sub S S'→D.rt w S')→mO g b E D G (xs.map key) σ S
 | [],σ,hI,step,done,ret=>by
  have:=done rfl σ hI;simpa [mO]using this
 |x::xs,σ,hI,step,done,ret=>by
  rw[aC];refine pU λN hN=>?_;refine step x aK σ N hI (λe σ' S' hI' sb=>?_) λw e S' sb=>ret w (by rw[eF,e]) S' sb;refine hN _ _ S sb hG (vv hG I key f xs σ' hI' (λy hy=>step y (aI _ hy)) (λe2=>done (by rw[eF,e];exact e2)) λw e2=>ret w (by rw[eF,e];exact e2))
abbrev Tn:=ah×Tr×Tr
def mK (t:Tn):W:= .bW [.str t.1,j5 t.2.1,j5 t.2.2]
def Ru:Tn:=("", .bl 0, .bl 0)
def lf (ts:List Tn) (j:Nat):Tr:=(ts.getD j Ru).2.1
def WU (n:Nat):sJ 0 n=(bx n).map λ(i:Nat)=>W.int i:=by
 unfold sJ;apply dc;intro i _;simp
theorem KL (hba:b≠a):∀(ts:List Tr) {S:lr}{us:List Tr}{x2:Option W},S a=aa (.bP (af us))→S b=aa (.bP ps)→us.length+mJ ts≤200000→
  (∀x2,D.nx [x0,aa (.ref a),x2] (bR S a (.bP (af (us++ts.flatMap Tr.dA)))))→
  mO (mx 2) (ze (r+1) mH) E D (λS'=>S' b=aa (.bP ps)) (af ts) [x0,aa (.ref a),x2] S
 | [],S,us,x2,ha,hb,hl,h=>by
  have:=h x2;simp only[cZ,bg,sA ha]at this;simpa [af,mO]using this
 |t::ts,S,us,x2,ha,hb,hl,h=>by
  simp only[mJ]at hl;have hk:=qH t.dA;have hw:=B5 t;simp only[af];refine pU λN hN=>?_;simp only[ze];ext;simp only[m8 ha,true_and];refine yO ?_;ext;rw[m8 ha];refine⟨m7 (by rw[pH,pH];lia),hN _ _ _ .refl (by rw[nO hba];exact hb) ?_⟩;rw[←xH];refine KL hba ts mR (by rw[nO hba];exact hb) (by rw[bc];lia) λx2=>?_;rw[pI];have:=h x2;rw[cC,←bD]at this;exact this
def Vq{E:ah→lr→Prop}(hb:S b=aa (.bP (af ts))) (hw:mJ ts≤100000) (h:∀a,S a=none→Q (.ref a) (bR S a (.bP (af (ts.flatMap Tr.dA))))):xv (r+2) [.ref b] S Q E:=by
 rw[xv];ext;refine⟨aP _,λa ha=>?_⟩;have hba:=B8 hb ha;rw[m8 (keep hb ha)];refine KL (us:=[]) hba ts (by simp [mR,af]) (keep hb ha) (by simpa using(by lia:mJ ts≤200000)) λx2=>?_;rw[pI];ext;exact⟨_, .refl,h a ha⟩
def Tr.bo (t:Tr):Bool:=decide (t.aq≤400)&&decide (t.depth≤40)
def P4{E:ah→lr→Prop}(hw:t.aq≤90000) (h:Q (.bl t.bo) S):xf (r+3) [j5 t] S Q E:=by
 rw[xf];ext;refine⟨m7 (by decide),λa ha=>?_⟩;refine⟨λm σ S'=>∃(ts:List Tr) (k d:Nat) (b:ai),m=mJ ts∧k+mJ ts=t.aq∧d+m_ ts=t.depth∧k≤400∧d≤40∧S b=none∧S'=bR S b (.bP (af ts))∧σ=[aa (j5 t),aa (.int k),aa (.int d),aa (.ref b)],⟨_,[t],0,0,a,rfl,by simp [mJ],by simp [m_],by decide,by decide,ha,by simp [af],rfl⟩,?_⟩
 rintro m σ S' ⟨ts,k,d,b,rfl,hwt,hk,hk4,hd4,hb,rfl,rfl⟩;ext;cases ts with
 |nil=>
  simp only[af,jB];ext;simp only[m_,mJ,dO]at hk hwt;have e:t.bo=true:=by unfold Tr.bo;rw[decide_eq_true (by lia),decide_eq_true (by lia)];rfl
  rw[e]at h;exact⟨_, .bR .refl hb,h⟩
 |cons u us=>
  have hne:(af (u::us)).isEmpty=false:=by simp [af]
  rw[hne];have hfl:=E0 (u::us);have hdf:=E_ (ts:=u::us) (by simp);have hlw:=qH (u::us);simp only[FB];ext;rw[pH];have no:400<t.aq∨40<t.depth→ ∃S'',Sub S'' (bR S b (Ob.bP (af (u::us))))∧Q (W.bl false) S'':=λz=>by
   have e:t.bo=false:=by
    unfold Tr.bo;obtain z |z:=z
    ·rw[decide_eq_false (by lia)];rfl
    ·rw[decide_eq_false (p:=t.depth≤40) (by lia),gh]
   rw[e]at h;exact⟨_, .bR .refl hb,h⟩
  split
  ·exact no (.inl (by lia))
  ·split
   ·exact no (.inr (by lia))
   ·refine Vq mR (by lia) λc hc=>?_;obtain⟨hc1,hc2⟩:=qU hc;refine⟨mJ ((u::us).flatMap Tr.dA),bR S c (.bP (af ((u::us).flatMap Tr.dA))),by simp only[aU]at hfl;lia, .put2 (.bR .refl hb),_,k+(u::us).length,d+1,c,rfl,by lia,by lia,by lia,by lia,hc1,rfl,?_⟩
    push_cast
    rfl
def xL{E:ah→lr→Prop}(h0:0≤k) (h:∀n:Int,Q (.int n) S):uC (r+1) [.c7 ns, .int k] S Q E:=by
 rw[uC];ext;split
 ·obtain⟨x,e,_⟩:=FP (xs:=ns) (i:=k) h0 (by lia);rw[e];exact⟨S, .refl,h _⟩
 ·exact⟨S, .refl,h _⟩
def lt (rs:List Int) (pos:Int) (k j:Nat):Nat:=97+((rs.getD j 0+(k:Int)*(if(0+(j:Int) == pos)=true then 1 else 0)) % 26).toNat
def rJ (rs:List Int) (pos:Int) (k:Nat):List Nat:=(bx rs.length).map (lt rs pos k)
def on (rs:List Int) (pos:Int) (k:Nat):ah:=du (bE "") ((rJ rs pos k).map λc=>(⟨#[c]⟩:ah))
def B_ (rs:List Int) (pos:Int) (k:Nat):ah:=eI ⟨#[lt rs pos k 0]⟩++cV (on rs pos k) (aa 1) none
def wd (great:Bool) (rs:List Int) (pos:Int) (k:Nat):ah:=if great then B_ rs pos k else on rs pos k
def xC (rs:List Int) (pos:Int) (k j:Nat):su (lt rs pos k j):=by
 have h0:=c_ (rs.getD j 0+(k:Int)*(if(0+(j:Int) == pos)=true then 1 else 0)) (show(26:Int)≠0 by decide)
 have h1:=dj (rs.getD j 0+(k:Int)*(if(0+(j:Int) == pos)=true then 1 else 0)) (show(0:Int)<26 by decide)
 unfold lt su;lia
def VM (h0:0≤n) (h1:n<26):nC (bE "abcdefghijklmnopqrstuvwxyz").cps.toList n=aa (97+n.toNat):=by
 have e:=sf (xs:=(bE "abcdefghijklmnopqrstuvwxyz").cps.toList) (n:=n.toNat);rw[cm h0]at e;rw[e,PM,List.getElem?_range' (by lia)];simp
def Ck (rs:List Int) (pos:Int) (k:Nat):(on rs pos k).cps.toList=rJ rs pos k:=LX _
def FY (rs:List Int) (pos:Int) (k:Nat):(rJ rs pos k).length=rs.length:=by simp [rJ]
def J4 (h:c∈rJ rs pos k):su c:=by
 obtain⟨j,_,rfl⟩:=aT.mp h;exact xC rs pos k j
def ZO (pos:Int) (k:Nat) (h:1≤rs.length):rJ rs pos k=lt rs pos k 0::(rJ rs pos k).drop 1:=by
 unfold rJ;obtain⟨n,hn⟩:∃n,rs.length=n+1:=⟨rs.length - 1,by lia⟩
 rw[hn,gp];simp
def L9 (h:su c):eI ⟨#[c]⟩=⟨#[c - 32]⟩:=by
 unfold su at h;rw[PySem.W.KOpn.upper_one (by lia),if_pos h]
def JR (pos:Int) (k:Nat):(B_ rs pos k).cps.toList=(lt rs pos k 0 - 32)::(rJ rs pos k).drop 1:=by
 unfold B_;rw[L9 (xC _ _ _ _)];show((#[lt rs pos k 0 - 32]:Array Nat)++(cV (on rs pos k) (aa 1) none).cps).toList=_;rw[i8,NK,Ck];rfl
structure rW (rs:List Int) (pos:Int):Prop where
  l1:1≤rs.length
  l8:rs.length≤8
  p0:0≤pos
  p1:pos<rs.length
def Nq (b:rW rs pos) (k:Nat):ov (on rs pos k):=by
 unfold ov;rw[Ck,FY];exact⟨b.l1,b.l8,λc hc=>J4 hc⟩
def Tc (b:rW rs pos) (k:Nat):p8 (B_ rs pos k):=by
 have:=xC rs pos k 0;have hl:=b.l8;unfold su at this;refine⟨_,_,JR pos k,by lia,by lia,by rw[cP,FY];lia,λd hd=>J4 (i7 hd)⟩
def RQ (b:rW rs pos) (hk:k<26) (hm:m<26) (h:k≠m):lt rs pos k pos.toNat≠lt rs pos m pos.toNat:=by
 have p0:=b.p0;have e:(0+((pos.toNat:Nat):Int) == pos)=true:=by rw[beq_iff_eq];lia
 unfold lt;rw[e,if_pos rfl];lia
def HF (b:rW rs pos) (hk:k<26) (hm:m<26) (h:k≠m):wd great rs pos k≠wd great rs pos m:=by
 have hn:=RQ b hk hm h;have p0:=b.p0;have p1:=b.p1;intro e;have e':=congrArg (λx:ah=>x.cps.toList) e;cases great with
 |false=>
  simp only[wd,cF,if_false,Ck]at e';have e2:=congrArg (λl=>l[pos.toNat]?) e';simp only[rJ,aV,fN (show pos.toNat<rs.length by lia),ig,bH]at e2
  exact hn e2
 |true=>
  simp only[wd,if_true,JR]at e';have e2:=congrArg (λl=>l[pos.toNat]?) e';cases hp:pos.toNat with
  |zero=>
   rw[hp]at hn;have h1:=xC rs pos k 0;have h2:=xC rs pos m 0;unfold su at h1 h2;simp only[hp,jD,bH]at e2;lia
  |succ n=>
   rw[hp]at hn;simp only[hp,bU,lj,rJ,aV]at e2;rw[show 1+n=n+1 by lia,fN (show n+1<rs.length by lia)]at e2
   simp only[ig,bH]at e2;exact hn e2
def DJ (great:Bool) (ws:List ah):Prop:=∃rs pos,rW rs pos∧(ws=(bx 6).map (wd great rs pos)∨(great=false∧ws=[on rs pos 0,on rs pos 1,on rs pos 2,on rs pos 2,on rs pos 2,on rs pos 5]))
structure nT (w0 w1 w2 w3 w4 w5:ah):Prop where
  ok:∀x∈ [w0,w1,w2,w3,w4,w5],ov x
  n0:∀x∈ [w1,w2,w3,w4,w5],w0≠x
  n1:∀x∈ [w2,w3,w4,w5],w1≠x
  n5:∀x∈ [w2,w3,w4],w5≠x
def R3 (h:DJ false ws):∃w0 w1 w2 w3 w4 w5,ws=[w0,w1,w2,w3,w4,w5]∧nT w0 w1 w2 w3 w4 w5:=by
 obtain⟨rs,pos,b,h⟩:=h;have hs:=λk=>Nq b k;have hn:∀k m:Nat,k<26→m<26→k≠m→on rs pos k≠on rs pos m:=λk m h1 h2 h3=>HF (great:=false) b h1 h2 h3;obtain rfl |⟨_,rfl⟩:=h
 ·refine⟨_,_,_,_,_,_,rfl,⟨?_,?_,?_,?_⟩⟩
  ·simp only[az,bp,or_false,forall_eq_or_imp,forall_eq];exact⟨hs 0,hs 1,hs 2,hs 3,hs 4,hs 5⟩
  ·simp only[az,bp,or_false,forall_eq_or_imp,forall_eq];exact⟨hn 0 1 (by decide) (by decide) (by decide),hn 0 2 (by decide) (by decide) (by decide),hn 0 3 (by decide) (by decide) (by decide),hn 0 4 (by decide) (by decide) (by decide),hn 0 5 (by decide) (by decide) (by decide)⟩
  ·simp only[az,bp,or_false,forall_eq_or_imp,forall_eq];exact⟨hn 1 2 (by decide) (by decide) (by decide),hn 1 3 (by decide) (by decide) (by decide),hn 1 4 (by decide) (by decide) (by decide),hn 1 5 (by decide) (by decide) (by decide)⟩
  ·simp only[az,bp,or_false,forall_eq_or_imp,forall_eq];exact⟨hn 5 2 (by decide) (by decide) (by decide),hn 5 3 (by decide) (by decide) (by decide),hn 5 4 (by decide) (by decide) (by decide)⟩
 ·refine⟨_,_,_,_,_,_,rfl,⟨?_,?_,?_,?_⟩⟩
  ·simp only[az,bp,or_false,forall_eq_or_imp,forall_eq];exact⟨hs 0,hs 1,hs 2,hs 2,hs 2,hs 5⟩
  ·simp only[az,bp,or_false,forall_eq_or_imp,forall_eq];exact⟨hn 0 1 (by decide) (by decide) (by decide),hn 0 2 (by decide) (by decide) (by decide),hn 0 2 (by decide) (by decide) (by decide),hn 0 2 (by decide) (by decide) (by decide),hn 0 5 (by decide) (by decide) (by decide)⟩
  ·simp only[az,bp,or_false,forall_eq_or_imp,forall_eq];exact⟨hn 1 2 (by decide) (by decide) (by decide),hn 1 2 (by decide) (by decide) (by decide),hn 1 2 (by decide) (by decide) (by decide),hn 1 5 (by decide) (by decide) (by decide)⟩
  ·simp only[az,bp,or_false,forall_eq_or_imp,forall_eq];exact⟨hn 5 2 (by decide) (by decide) (by decide),hn 5 2 (by decide) (by decide) (by decide),hn 5 2 (by decide) (by decide) (by decide)⟩
structure pE (ts:List ah):Prop where
  len:ts.length=6
  ok:∀x∈ts,p8 x
  nd:ts.Nodup
def XY (h:DJ true ws):pE ws:=by
 obtain⟨rs,pos,b,h⟩:=h;obtain rfl |⟨e,_⟩:=h
 ·refine⟨by simp,λx hx=>?_,?_⟩
  ·obtain⟨k,_,rfl⟩:=aT.mp hx;exact Tc b k
  ·rw[jc,kF];refine kq.imp_of_mem (λ{a c} ha hc hne=>?_) (List.nodup_range (n:=6));have ha:=f_.mp ha;have hc:=f_.mp hc;exact HF b (by lia) (by lia) hne
 ·cases e
theorem Ia:∀(ws:List W) {rs:List Int}{sp:Int}{a:ai}{r:Nat}{S:lr}{E:WX}{D:mY}{x0 x1 x2 x3 x6 x7 x8 x9:Option W},S a=aa (.bP (rs.map W.int))→rs.length+ws.length≤1000→
  (∀(rs':List Int) sp' x6',rs'.length=rs.length+ws.length→D.nx [x0,x1,x2,x3,aa (.int sp'),aa (.ref a),x6',x7,x8,x9] (bR S a (.bP (rs'.map W.int))))→
  mO (mx 6) (DN r mH) E D (λ_=>True) ws [x0,x1,x2,x3,aa (.int sp),aa (.ref a),x6,x7,x8,x9] S
 | [],rs,sp,a,r,S,E,D,x0,x1,x2,x3,x6,x7,x8,x9,ha,hl,h=>by
  simp only[mO];have:=h rs sp x6 (by simp);rw[sA ha]at this;exact this
 |w::ws,rs,sp,a,r,S,E,D,x0,x1,x2,x3,x6,x7,x8,x9,ha,hl,h=>by
  simp only[mO,DN];ext;simp only[aU]at hl h;simp only[m8 ha,true_and];refine⟨by decide,qE (by simp;lia),⟨by decide,by decide⟩,_, .refl,?_⟩
  refine Ia (r:=r) ws (rs:=rs++[sp % 26]) (by rw[mR];simp) (by simp;lia) λrs' sp' x6' h1=>?_;rw[pI];exact h rs' sp' x6' (by simp at h1;lia)
def zX{c:Prop} [Decidable c] {a b:Prop}(h1:c→a) (h2:¬c→b):if c then a else b:=by split<;>simp_all
def zA (h:∀T',T'=T→mz A T' E D σ S):mz A T E D σ S:=h T rfl
def LG{E:ah→lr→Prop}(h:∀(a:ai) (ws:List ah),S a=none→DJ great ws→Q (.ref a) (bR S a (.bP (ws.map W.str)))):zd (r+1) [.int one, .int two, .bl great] S Q E:=by
 rw[zd];ext;have o0:0≤one % 8:=c_ _ (by decide);have o1:one % 8<8:=dj _ (by decide);refine⟨⟨by decide,by decide,by decide⟩,by decide,aP _,λa ha=>⟨by decide,⟨by lia,by lia⟩,?_⟩⟩
 refine Ia _ (rs:=[]) mR (by simp [Kd];lia) λrs sp x6 hl=>?_;rw[pI];simp only[di,Kd,bG]at hl;have hl':(rs.length:Int)=1+one % 8:=by rw[hl];lia
 have p0:0≤one / 8 % (rs.length:Int):=c_ _ (by lia);have p1:one / 8 % (rs.length:Int)<(rs.length:Int):=dj _ (by lia);have B:rW rs (one / 8 % (rs.length:Int)):=⟨by lia,by lia,p0,p1⟩
 ext;simp only[ay];refine⟨⟨by decide,by decide⟩,by lia,aP _,λb hb=>⟨⟨by decide,by decide⟩,?_⟩⟩
 obtain⟨hb1,hb2⟩:=qU hb;generalize hpos:one / 8 % (rs.length:Int)=pos at B p0 p1⊢;refine JV (λi σ S'=>∃x6 x9,S'=bR (bR S a (.bP (rs.map W.int))) b (.bP (((bx i).map (wd great rs pos)).map W.str))∧σ=[aa (.int one),aa (.int two),aa (.bl great),aa (.str (bE "abcdefghijklmnopqrstuvwxyz")),aa (.int sp),aa (.ref a),x6,aa (.int pos),aa (.ref b),x9]) 6 ?_ ?_ ⟨x6,none,rfl,rfl⟩
 ·rintro k hk σ S' N ⟨x6,x9,rfl,rfl⟩ hN;have ea:bR (bR S a (Ob.bP (rs.map W.int))) b (Ob.bP (((bx k).map (wd great rs pos)).map W.str)) a=aa (.bP (rs.map W.int)):=by rw[nO (bz hb2),mR]
  simp only[N1];ext;rw[m8 ea];simp only[ay];refine⟨⟨by lia,by lia⟩,?_⟩
  rw[bb];refine qf (λσ=>∃x,σ=[x,aa (.str (bE "abcdefghijklmnopqrstuvwxyz")),aa (.ref a),aa (.int (k:Int)),aa (.int pos)]) (λi:Nat=>W.int (0+(i:Int))) (λi=>W.str ⟨#[lt rs pos k i]⟩) trivial (bx rs.length) [] _ ⟨none,rfl⟩ (by simp;lia) (λi hi σ R hI hR=>?_) ?_
  ·obtain⟨x,rfl⟩:=hI;have hi:=f_.mp hi;simp only[MI];ext;have e:=sf (xs:=rs.map W.int) (n:=i);rw[show(i:Int)=0+(i:Int) by lia,aV,aS hi]at e
   rw[m8 ea,e];dsimp only[Option.map];ext;have ec:=VM (n:=(rs[i]+(k:Int)*(if(0+(i:Int) == pos)=true then 1 else 0)) % 26) (c_ _ (by decide)) (dj _ (by decide));rw[ec];have el:lt rs pos k i=97+((rs[i]+(k:Int)*(if(0+(i:Int) == pos)=true then 1 else 0)) % 26).toNat:=by
    unfold lt;rw[bv,aS hi];rfl
   rw[←el];exact⟨.inl ⟨by lia,by lia⟩,by decide,m7 (by rw[Pw];decide),hR _ _ ⟨_,rfl⟩ .refl⟩
  ·have es:(bx rs.length).map (λi=>W.str ⟨#[lt rs pos k i]⟩)=(rJ rs pos k).map λc=>W.str ⟨#[c]⟩:=by
    unfold rJ;rw[bu];rfl
   have hw:=Nq B k;rw[aX,es,Ox];refine⟨Ul _ (by rw[FY];lia),?_⟩;show _;have ew:du (bE "") ((rJ rs pos k).map λc=>(⟨#[c]⟩:ah))=on rs pos k:=rfl;rw[ew];have hl8:(on rs pos k).length≤8:=by rw[wq];exact hw.2.1
   have fin:∀z:ah,z=wd great rs pos k→ ∀x9:Option W,N [aa (.int one),aa (.int two),aa (.bl great),aa (.str (bE "abcdefghijklmnopqrstuvwxyz")),aa (.int sp),aa (.ref a),aa (.int (k:Int)),aa (.int pos),aa (.ref b),x9] (bR (bR S a (.bP (rs.map W.int))) b (.bP (((bx k).map (wd great rs pos)).map W.str++[.str z]))):=λz hz x9=>by
    subst hz;refine hN _ _ _ .refl ⟨_,_,?_,rfl⟩;rw[gw,bK,bK];rfl
   have hxl:(((bx k).map (wd great rs pos)).map W.str).length<sizeLine:=qE (by simp;lia);cases great with
   |false=>
    try ext
    try simp only[zt,pI,true_and]
    exact⟨hxl,fin _ rfl _⟩
   |true=>
    ext;rw[Ck,ZO pos k B.l1,Bm];dsimp only
    try ext
    try simp only[zt,pI,true_and]
    refine⟨m7 (by lia),?_⟩;have h1:(⟨#[lt rs pos k 0]⟩:ah).length=1:=rfl;have h2:(eI ⟨#[lt rs pos k 0]⟩).length=1:=by rw[L9 (xC _ _ _ _)];rfl
    have h3:(cV (on rs pos k) (aa 1) none).length≤8:=by
     rw[wq,NK,cP,←wq];lia
    exact⟨by lia,m7 (by lia),m7 (by lia),hxl,fin _ rfl _⟩
 ·rintro σ S' ⟨x6,x9,rfl,rfl⟩;have eb:bR (bR S a (Ob.bP (rs.map W.int))) b (Ob.bP (((bx 6).map (wd great rs pos)).map W.str)) b=aa (.bP (((bx 6).map (wd great rs pos)).map W.str)):=mR;ext;cases great with
  |true=>
   ext;refine⟨⟨by decide,by decide⟩,by decide,?_⟩
   split
   ·exact⟨_, .put2 (.bR .refl ha),h b _ hb1 ⟨rs,pos,B, .inl rfl⟩⟩
   ·exact⟨_, .put2 (.bR .refl ha),h b _ hb1 ⟨rs,pos,B, .inl rfl⟩⟩
  |false=>
   ext;refine⟨⟨by decide,by decide⟩,by decide,?_⟩
   split
   ·have e6:((bx 6).map (wd false rs pos)).map W.str=[.str (on rs pos 0), .str (on rs pos 1), .str (on rs pos 2), .str (on rs pos 3), .str (on rs pos 4), .str (on rs pos 5)]:=rfl;simp only[e6]
    try ext
    have c3:o4 [W.str (on rs pos 0), .str (on rs pos 1), .str (on rs pos 2), .str (on rs pos 3), .str (on rs pos 4), .str (on rs pos 5)] none (aa 3)=[.str (on rs pos 0), .str (on rs pos 1), .str (on rs pos 2)]:=rfl;have a2:nC [W.str (on rs pos 0), .str (on rs pos 1), .str (on rs pos 2), .str (on rs pos 3), .str (on rs pos 4), .str (on rs pos 5)] 2=aa (.str (on rs pos 2)):=rfl;have a5:nC [W.str (on rs pos 0), .str (on rs pos 1), .str (on rs pos 2), .str (on rs pos 3), .str (on rs pos 4), .str (on rs pos 5)] 5=aa (.str (on rs pos 5)):=rfl;simp only[c3,a2,a5]
    try ext
    refine⟨m7 (by decide),m7 (by decide),λc hc=>?_⟩;obtain⟨hc1,hc2⟩:=qU hc;obtain⟨hc1,hc3⟩:=qU hc1;exact⟨_, .put2 (.bR (.bR .refl ha) hb1),h c _ hc1 ⟨rs,pos,B, .inr ⟨rfl,rfl⟩⟩⟩
   ·exact⟨_, .put2 (.bR .refl ha),h b _ hb1 ⟨rs,pos,B, .inl rfl⟩⟩
mutual
def Tr.nb:Tr→Nat
 | .bl _=>1
 | .nd _ ts=>nbs ts
def nbs:List Tr→Nat
 | []=>0
 |t::ts=>t.nb+nbs ts
end
mutual
theorem Mg:∀(t:Tr) (p:List Int),((t.plt p).filter λx=>x.2.isBl).length=t.nb
 | .bl n,p=>by simp [Tr.plt,Tr.isBl,Tr.nb]
 | .nd s ts,p=>by
  have:=Mu ts p 0;simpa [Tr.plt,Tr.isBl,Tr.nb]using this
theorem Mu:∀(ts:List Tr) (p:List Int) (i:Nat),((oG p i ts).filter λx=>x.2.isBl).length=nbs ts
 | [],p,i=>by simp [oG,nbs]
 |t::ts,p,i=>by
  have h1:=Mg t (p++[(i:Int)]);have h2:=Mu ts p (i+1);rw[oG,kN,bc,h1,h2,nbs]
end
def Di (t:Tr):t.bls.length=t.nb:=Mg t []
theorem O':∀ts:List Tr,(ts.map λt=>(t.nb:Int)).sum=(nbs ts:Int)
 | []=>by simp [nbs]
 |t::ts=>by
  rw[aC,md,O' ts,nbs];lia
def Qw (ts:List Tr):qD (ts.map λt=>W.int (t.nb:Int))=aa (ts.map λt=>(t.nb:Int)):=by
 have:=DO (ts.map λt=>(t.nb:Int));rw[bu]at this;exact this
theorem Du:∀(d:Nat) {t:Tr}{r:Nat}{S:lr}{Q:WK}{E:ah→lr→Prop},t.depth≤d→d≤r+1→t.aq≤90000→Q (.int t.nb) S→uK (r+1) [j5 t] S Q E
 |0,t,r,S,Q,E,hd,hr,hw,h=>by have:=qB t;lia
 |d+1, .bl n,r,S,Q,E,hd,hr,hw,h=>by
  rw[uK];simp only[j5];ext;simp only[Tr.nb]at h;exact⟨S, .refl,h⟩
 |d+1, .nd s ts,r,S,Q,E,hd,hr,hw,h=>by
  simp only[Tr.depth]at hd;simp only[Tr.aq]at hw;have hk:=qH ts;rw[uK];simp only[j5];ext;rw[o5];refine qf (λσ=>∃x,σ=[x]) j5 (λt=> .int (t.nb:Int)) trivial ts [] _ ⟨none,rfl⟩ (by simp;lia) (λx hx σ R hI hR=>?_) ?_
  ·obtain⟨y,rfl⟩:=hI;have hdx:=pY hx;have hwx:=pe hx;have:=qB x;obtain⟨r,rfl⟩:∃r',r=r'+1:=⟨r - 1,by lia⟩
   simp only[Kq];ext;exact Du d (t:=x) (r:=r) (by lia) (by lia) (by lia) (hR _ _ ⟨_,rfl⟩ .refl)
  ·rw[aX,Qw];dsimp only;rw[O'];simp only[Tr.nb]at h;exact⟨S, .refl,h⟩
def NH{w:W}{ws:List W}:o4 (w::ws) none (aa 1)=[w]:=by
 rw[show(1:Int)=((1:Nat):Int) from rfl,B1];rfl
theorem Bl{us:List Tr}{a:ai}:∀(d:Nat) {t:Tr}{r:Nat}{S:lr}{Q:WK}{E:ah→lr→Prop},t.depth≤d→d≤r+1→S a=aa (.bP (af us))→t.br us.length→t.aq≤90000→Q (j5 (t.aD us)) S→uT (r+1) [j5 t, .ref a] S Q E
 |0,t,r,S,Q,E,hd,hr,ha,hf,hw,h=>by have:=qB t;lia
 |d+1, .bl n,r,S,Q,E,hd,hr,ha,hf,hw,h=>by
  simp only[Tr.br]at hf;simp only[Tr.aD]at h;rw[uT];simp only[j5];ext;have e:nC (af us) n=aa (j5 (us.getD n.toNat (.bl n))):=by
   have q:=sf (xs:=af us) (n:=n.toNat);rw[cm hf.1]at q;rw[q,o5,aV,bv,aS (by lia)];rfl
  rw[m8 ha,e];exact⟨S, .refl,h⟩
 |d+1, .nd s ts,r,S,Q,E,hd,hr,ha,hf,hw,h=>by
  simp only[Tr.br]at hf;simp only[Tr.aD]at h;simp only[Tr.depth]at hd;simp only[Tr.aq]at hw;have hk:=qH ts;rw[uT];simp only[j5]at h⊢;ext;rw[NH];rw[o5];refine qf (λσ=>∃x,σ=[x,aa (.ref a)]) j5 (λt=>j5 (t.aD us)) trivial ts [] _ ⟨none,rfl⟩ (by simp;lia) (λx hx σ R hI hR=>?_) ?_
  ·obtain⟨y,rfl⟩:=hI;have hdx:=pY hx;have hwx:=pe hx;have:=qB x;obtain⟨r,rfl⟩:∃r',r=r'+1:=⟨r - 1,by lia⟩
   simp only[G6];ext;exact Bl d (t:=x) (r:=r) (by lia) (by lia) ha (wk hf hx) (by lia) (hR _ _ ⟨_,rfl⟩ .refl)
  ·rw[aX];ext;refine⟨m7 (by simp;lia),S, .refl,?_⟩;have e:af (aF us ts)=ts.map λt=>j5 (t.aD us):=by rw[o5,vo,bu];rfl
   rw[e]at h;exact h
def bO (n:Nat) (h c d:ah):List Tr:=
 match n with
 |0=>[.nd h [.bl 0]]
 |1=>[.nd h [.bl 0, .bl 1]]
 |2=>[.nd h [.nd c []], .nd h [.nd d [.bl 0]]]
 |3=>[.nd h [.nd c [], .bl 0], .nd h [.nd d [.bl 0], .bl 1]]
 |4=>[.nd h [.nd d [.nd d [.bl 0]], .bl 1, .bl 2], .nd h [.nd d [.nd c []], .bl 0, .bl 1]]
 |_=>[.nd h []]
section
variable {w0 w1 w2 w3 w4 w5:ah}{r:Nat}{S:lr}{Q:WK}{E:ah→lr→Prop}
abbrev qq (w0 w1 w2 w3 w4 w5:ah):List W:=[.str w0, .str w1, .str w2, .str w3, .str w4, .str w5]
theorem qi:nC (qq w0 w1 w2 w3 w4 w5) 0=aa (.str w0):=rfl
theorem qj:nC (qq w0 w1 w2 w3 w4 w5) 1=aa (.str w1):=rfl
theorem pP:nC (qq w0 w1 w2 w3 w4 w5) 2=aa (.str w2):=rfl
theorem p5:nC (qq w0 w1 w2 w3 w4 w5) 3=aa (.str w3):=rfl
theorem p4:nC (qq w0 w1 w2 w3 w4 w5) 4=aa (.str w4):=rfl
theorem pW:nC (qq w0 w1 w2 w3 w4 w5) 5=aa (.str w5):=rfl
def RR{n:Int}{h c d:ah}(H:∀(p:ai) (k:Nat),S p=none→Q (.ref p) (bR S p (.bP (af (bO k h c d))))):BH (r+1) [.int n, .str h, .str c, .str d] S Q E:=by
 rw[BH,uB];refine⟨rfl,?_⟩;have l1:1≤sizeLine:=m7 (by decide);have l2:2≤sizeLine:=m7 (by decide);have l3:3≤sizeLine:=m7 (by decide);have l4:4≤sizeLine:=m7 (by decide);refine zA λT hT=>?_;ext;refine zX (λ_=>⟨l2,l1,λp hp=>⟨_, .refl,by simpa only[bO,j5,af]using H p 0 hp⟩⟩) λ_=>?_
 subst hT;refine zA λT hT=>?_;ext;refine zX (λ_=>⟨l3,l1,λp hp=>⟨_, .refl,by simpa only[bO,j5,af]using H p 1 hp⟩⟩) λ_=>?_
 subst hT;refine zA λT hT=>?_;ext;refine zX (λ_=>⟨l1,l2,l2,l2,l2,λp hp=>⟨_, .refl,by simpa only[bO,j5,af]using H p 2 hp⟩⟩) λ_=>?_
 subst hT;refine zA λT hT=>?_;ext;refine zX (λ_=>⟨l1,l3,l2,l3,l2,λp hp=>⟨_, .refl,by simpa only[bO,j5,af]using H p 3 hp⟩⟩) λ_=>?_
 subst hT;refine zA λT hT=>?_;ext;refine zX (λ_=>⟨l2,l2,l4,l1,l2,l4,l2,λp hp=>⟨_, .refl,by simpa only[bO,j5,af]using H p 4 hp⟩⟩) λ_=>?_
 subst hT;ext;exact⟨l1,l1,λp hp=>⟨_, .refl,by simpa only[bO,j5,af]using H p 5 hp⟩⟩
end
section
variable {w0 w1:ah}{j:Int}
def Bs (n:Nat) (h c d:ah):1≤(bO n h c d).length∧(bO n h c d).length≤2:=by
 unfold bO;split<;>simp
def r_ (w0 w1:ah) (j:Nat):ah:=if j=0 then w0 else w1
end
def vB (x:ah):Bool:=decide (1≤x.cps.toList.length)&&(decide (x.cps.toList.length≤8)&&bo x.cps.toList)
def Pk (xs:List Nat):bo xs=true↔ ∀c∈xs,su c:=by
 unfold bo;rw[cS];simp only[xt,su,bT,decide_eq_true_eq]
def Bi (x:ah):vB x=true↔ov x:=by
 unfold vB ov;rw[bT,bT,decide_eq_true_eq,decide_eq_true_eq,Pk]
def B4 (h:ov x) (g:p8 y):x≠y:=by
 rintro rfl;obtain⟨c,r,e,h1,h2,_⟩:=g;have:=h.2.2 c (by rw[e];exact aK);unfold su at this;lia
def XV (g:p8 y):1≤y.cps.toList.length∧y.cps.toList.length≤8:=by
 obtain⟨c,r,e,h1,h2,h3,_⟩:=g;rw[e,aU];lia
mutual
def Tr.hd (P:ah→Prop):Tr→Prop
 | .bl _=>False
 | .nd s ts=>P s∧hds P ts
def hds (P:ah→Prop):List Tr→Prop
 | []=>True
 |t::ts=>t.hd P∧hds P ts
end
mutual
def Tr.hb (P:ah→Prop):Tr→Prop
 | .bl _=>True
 | .nd s ts=>P s∧oy P ts
def oy (P:ah→Prop):List Tr→Prop
 | []=>True
 |t::ts=>t.hb P∧oy P ts
end
theorem mW{P:ah→Prop}:∀{ts:List Tr},hds P ts↔ ∀t∈ts,t.hd P
 | []=>by simp [hds]
 |t::ts=>by simp [hds,mW (ts:=ts)]
mutual
theorem vC{P P':ah→Prop}(h:∀s,P s→P' s):∀(t:Tr),t.hd P→t.hd P'
 | .bl _,q=>by simp [Tr.hd]at q
 | .nd s ts,q=>by
  simp only[Tr.hd]at q⊢;exact⟨h s q.1,Ka h ts q.2⟩
theorem Ka{P P':ah→Prop}(h:∀s,P s→P' s):∀(ts:List Tr),hds P ts→hds P' ts
 | [],_=>by simp [hds]
 |t::ts,q=>by
  simp only[hds]at q⊢;exact⟨vC h t q.1,Ka h ts q.2⟩
end
mutual
theorem HG{P P':ah→Prop}(h:∀s,P s→P' s):∀(t:Tr),t.hb P→t.hb P'
 | .bl _,q=>by simp [Tr.hb]
 | .nd s ts,q=>by
  simp only[Tr.hb]at q⊢;exact⟨h s q.1,G0 h ts q.2⟩
theorem G0{P P':ah→Prop}(h:∀s,P s→P' s):∀(ts:List Tr),oy P ts→oy P' ts
 | [],_=>by simp [oy]
 |t::ts,q=>by
  simp only[oy]at q⊢;exact⟨HG h t q.1,G0 h ts q.2⟩
end
mutual
theorem zB{P:ah→Prop}(hu:∀u∈us,u.hd P):∀(t:Tr),t.hb P→t.br us.length→(t.aD us).hd P
 | .bl n,h,f=>by
  simp only[Tr.br]at f;simp only[Tr.aD];rw[bv,aS (show n.toNat<us.length by lia)]
  exact hu _ (eJ ..)
 | .nd s ts,h,f=>by
  simp only[Tr.br]at f;simp only[Tr.hb]at h;simp only[Tr.aD,Tr.hd];exact⟨h.1,Nz hu ts h.2 f⟩
theorem Nz{P:ah→Prop}(hu:∀u∈us,u.hd P):∀(ts:List Tr),oy P ts→m4 us.length ts→hds P (aF us ts)
 | [],h,f=>by simp [aF,hds]
 |t::ts,h,f=>by
  simp only[m4]at f;simp only[oy]at h;simp only[aF,hds];exact⟨zB hu t h.1 f.1,Nz hu ts h.2 f.2⟩
end
structure qw (ws:List ah) (m:Nat) (t:Tr):Prop where
  dp:t.depth≤4
  br:t.br m
  hb:∀{P:ah→Prop},(∀x∈ws,P x)→t.hb P
  wt:t.aq≤7
def O8 (B:List Tn):Prop:=∀t∈B,∀(us:List Tr) (M:Nat),us.length=t.2.1.nb→1≤M→(∀u∈us,u.aq≤M)→(t.2.2.aD us).aq≤2+2*M∧(t.2.1.nb=0→(t.2.2.aD us).aq≤1+M)
structure mF (w0 w1 w2 w3 w4 w5:ah) (tt:List ah) (B:List Tn):Prop where
  lf:∃n m:Nat,B.map (λt=>t.2.1)=bO n w0 w2 w3++bO m w1 w2 w3
  ti:B.map (λt=>t.1)=tt.take B.length
  ri:∀t∈B,qw [w0,w1,w2,w3,w4,w5] t.2.1.nb t.2.2
structure sW (P:ah→Prop) (L:Tr):Prop where
  hb:L.hb P
  br:L.br L.nb
  wt:L.aq≤L.nb+3
  dp:L.depth≤4
  nb:L.nb≤3
  nd:∃s ts,L= .nd s ts
  fw:∀us:List Tr,us.length=L.nb→(L.aD us).aq≤3+mJ us
  fw0:L.nb=0→(L.aD []).aq≤2
def BG{P:ah→Prop}(hh:P h) (hc:P c) (hd:P d):∀L∈bO n h c d,sW P L:=by
 unfold bO;intro L hL;split at hL<;>simp only[az,bp,or_false]at hL
 all_goals first
  | (subst hL;exact⟨by simp [Tr.hb,oy,hh,hc,hd],by simp [Tr.br,m4,Tr.nb,nbs],by simp [Tr.aq,mJ,Tr.nb,nbs],by simp [Tr.depth,m_],by simp [Tr.nb,nbs],⟨_,_,rfl⟩,λus hu=>by rcases us with _ |⟨u,_ |⟨v,_ |⟨x,_ |⟨y,us⟩⟩⟩⟩<;>simp [Tr.nb,nbs,Tr.aD,aF,Tr.aq,mJ]at hu⊢ <;>lia,λh0=>by simp [Tr.nb,nbs,Tr.aD,aF,Tr.aq,mJ]at h0⊢⟩)
  | (rcases hL with rfl |rfl<;>exact⟨by simp [Tr.hb,oy,hh,hc,hd],by simp [Tr.br,m4,Tr.nb,nbs],by simp [Tr.aq,mJ,Tr.nb,nbs],by simp [Tr.depth,m_],by simp [Tr.nb,nbs],⟨_,_,rfl⟩,λus hu=>by rcases us with _ |⟨u,_ |⟨v,_ |⟨x,_ |⟨y,us⟩⟩⟩⟩<;>simp [Tr.nb,nbs,Tr.aD,aF,Tr.aq,mJ]at hu⊢ <;>lia,λh0=>by simp [Tr.nb,nbs,Tr.aD,aF,Tr.aq,mJ]at h0⊢⟩)
def mF.len (b:mF w0 w1 w2 w3 w4 w5 tt B):2≤B.length∧B.length≤4:=by
 obtain⟨n,m,e⟩:=b.lf;have h1:=Bs n w0 w2 w3;have h2:=Bs m w1 w2 w3;have e':=congrArg dE e;rw[ay,bc]at e';lia
def mF.left (b:mF w0 w1 w2 w3 w4 w5 tt B) {P:ah→Prop}(h0:P w0) (h1:P w1) (h2:P w2) (h3:P w3) (ht:t∈B):sW P t.2.1:=by
 obtain⟨n,m,e⟩:=b.lf;have:t.2.1∈bO n w0 w2 w3++bO m w1 w2 w3:=by rw[←e];exact aT.mpr ⟨t,ht,rfl⟩
 obtain z |z:=bq.mp this
 ·exact BG h0 h2 h3 _ z
 ·exact BG h1 h2 h3 _ z
def mF.nodup (b:mF w0 w1 w2 w3 w4 w5 tt B) (T:pE tt):(B.map λt=>t.1).Nodup:=by
 rw[b.ti];exact jc.sublist (lS ..) T.nd
def mF.mem (b:mF w0 w1 w2 w3 w4 w5 tt B) (ht:t∈B):t.1∈tt:=by
 have:t.1∈B.map λt=>t.1:=aT.mpr ⟨t,ht,rfl⟩;rw[b.ti]at this;exact iD this
def m9 (B:List Tn) (s:ah):Option Tn:=B.find? λt=>t.1 == s
theorem qZ:∀{B:List Tn}{t:Tn},(B.map λt=>t.1).Nodup→t∈B→m9 B t.1=aa t
 |u::B,t,hn,ht=>by
  unfold m9;rw[aC,eD]at hn;rw[cb];obtain rfl |ht:=az.mp ht
  ·simp
  ·have hne:u.1≠t.1:=λz=>hn.1 (by rw[z];exact aT.mpr ⟨t,ht,rfl⟩);have:(u.1 == t.1)=false:=by simpa using hne
   rw[this];exact qZ hn.2 ht
def F5 (h:∀t∈B,t.1≠s):m9 B s=none:=by
 unfold m9;rw[gY];intro t ht;simpa using h t ht
def tj (B:List Tn) (s:ah) (n:Nat):Bool:=match m9 B s with
 |none=>vB s
 |some t=>n == t.2.1.nb
mutual
def Tr.way (B:List Tn):Tr→Bool
 | .bl _=>false
 | .nd s ts=>tj B s ts.length&&tH B ts
def tH (B:List Tn):List Tr→Bool
 | []=>true
 |t::ts=>t.way B&&tH B ts
end
mutual
def Tr.dP:Tr→Bool
 | .bl _=>false
 | .nd s ts=>vB s&&tL ts
def tL:List Tr→Bool
 | []=>true
 |t::ts=>t.dP&&tL ts
end
theorem EM (B:List Tn):∀ts:List Tr,tH B ts=ts.all (Tr.way B)
 | []=>by simp [tH]
 |t::ts=>by simp [tH,EM B ts]
theorem GG:∀ts:List Tr,tL ts=ts.all Tr.dP
 | []=>by simp [tL]
 |t::ts=>by simp [tL,GG ts]
mutual
theorem Ed:∀t:Tr,t.hd ov→t.dP=true
 | .bl n,h=>by simp [Tr.hd]at h
 | .nd s ts,h=>by
  simp only[Tr.hd]at h;rw[Tr.dP,(Bi s).mpr h.1,NE ts h.2];rfl
theorem NE:∀ts:List Tr,hds ov ts→tL ts=true
 | [],h=>by simp [tL]
 |t::ts,h=>by
  simp only[hds]at h;rw[tL,Ed t h.1,NE ts h.2];rfl
end
mutual
theorem ER (hB:∀t∈B,p8 t.1) (hu:∀u∈us,u.way B=true):∀(t:Tr),t.hb ov→t.br us.length→(t.aD us).way B=true
 | .bl n,h,f=>by
  simp only[Tr.br]at f;simp only[Tr.aD];rw[bv,aS (show n.toNat<us.length by lia)]
  exact hu _ (eJ ..)
 | .nd s ts,h,f=>by
  simp only[Tr.br]at f;simp only[Tr.hb]at h;simp only[Tr.aD,Tr.way];rw[Oj hB hu ts h.2 f,tj,F5 λt ht=>(B4 h.1 (hB t ht)).symm,(Bi s).mpr h.1];rfl
theorem Oj (hB:∀t∈B,p8 t.1) (hu:∀u∈us,u.way B=true):∀(ts:List Tr),oy ov ts→m4 us.length ts→tH B (aF us ts)=true
 | [],h,f=>by simp [aF,tH]
 |t::ts,h,f=>by
  simp only[m4]at f;simp only[oy]at h;rw[aF,tH,ER hB hu t h.1 f.1,Oj hB hu ts h.2 f.2];rfl
end
inductive Pl where
  |nd (k bits:Int) (head:ah) (ps:List Pl)
mutual
def Pl.wt:Pl→Nat
 | .nd _ _ _ ps=>1+bJ ps
def bJ:List Pl→Nat
 | []=>0
 |p::ps=>p.wt+bJ ps
end
mutual
def Pl.dp:Pl→Nat
 | .nd _ _ _ ps=>1+sj ps
def sj:List Pl→Nat
 | []=>0
 |p::ps=>max p.dp (sj ps)
end
mutual
def Pl.nt:Pl→Nat
 | .nd k _ _ ps=>(if k<0 then 0 else 1)+bC ps
def bC:List Pl→Nat
 | []=>0
 |p::ps=>p.nt+bC ps
end
inductive nF (ws:List ah) (B:List Tn):Pl→Prop
 |sign {b:Int}{h:ah}{ps:List Pl}:h∈ws→(∀p∈ps,nF ws B p)→nF ws B (.nd (-1) b h ps)
 |turn {k:Nat}{b:Int}{h:ah}{ps:List Pl}{t:Tn}:B[k]? =aa t→ps.length=t.2.1.nb→0≤b→b<8→(∀p∈ps,nF ws B p)→nF ws B (.nd k b h ps)
mutual
def Pl.ev (B:List Tn) (c:Int→Nat):Pl→Tr
 | .nd k b h ps=>if k<0 then .nd h (vj B c ps) else match c b with
  |0=>(B.getD k.toNat (h, .bl 0, .bl 0)).2.1.aD (vj B c ps)
  |1=> .nd (B.getD k.toNat (h, .bl 0, .bl 0)).1 (vj B c ps)
  |_=>(B.getD k.toNat (h, .bl 0, .bl 0)).2.2.aD (vj B c ps)
def vj (B:List Tn) (c:Int→Nat):List Pl→List Tr
 | []=>[]
 |p::ps=>p.ev B c::vj B c ps
end
theorem DP (B:List Tn) (c:Int→Nat):∀ps:List Pl,vj B c ps=ps.map (Pl.ev B c)
 | []=>by simp [vj]
 |p::ps=>by simp [vj,DP B c ps]
theorem xg:∀ps qs:List Pl,bJ (ps++qs)=bJ ps+bJ qs
 | [],qs=>by simp [bJ]
 |p::ps,qs=>by simp [bJ,xg ps qs];lia
theorem vX:∀ps qs:List Pl,bC (ps++qs)=bC ps+bC qs
 | [],qs=>by simp [bC]
 |p::ps,qs=>by simp [bC,vX ps qs];lia
theorem Bq:∀{ps:List Pl},p∈ps→p.dp≤sj ps
 |q::ps,h=>by
  obtain rfl |h:=az.mp h
  ·simp [sj];lia
  ·have:=Bq h;simp [sj];lia
mutual
theorem Ow:∀p:Pl,p.dp≤p.wt
 | .nd k b h ps=>by have:=Jx ps;simp [Pl.dp,Pl.wt];lia
theorem Jx:∀ps:List Pl,sj ps≤bJ ps
 | []=>by simp [sj]
 |p::ps=>by have:=Ow p;have:=Jx ps;simp [sj,bJ];lia
end
def Vc (p:Pl):1≤p.dp:=by cases p;simp [Pl.dp]
def UM (p:Pl):1≤p.wt:=by cases p;simp [Pl.wt]
def qe{c:Int→Nat}:(Pl.nd (-1) b h ps).ev B c= .nd h (ps.map (Pl.ev B c)):=by
 rw[Pl.ev,if_pos (by decide),DP]
def rb (t:Tn) (n:Nat) (us:List Tr):Tr:=match n with
 |0=>t.2.1.aD us
 |1=> .nd t.1 us
 |_=>t.2.2.aD us
def pZ{B:List Tn}{c:Int→Nat}{b:Int}{h:ah}{ps:List Pl}{k:Nat}{t:Tn}(e:B[k]? =aa t):(Pl.nd k b h ps).ev B c=rb t (c b) (ps.map (Pl.ev B c)):=by
 rw[Pl.ev,if_neg (by lia),DP,bb,bv,e];rfl
structure ox (ws hs:List ah) (B:List Tn):Prop where
  ti:∀t∈B,p8 t.1
  nd:(B.map λt=>t.1).Nodup
  sg:∀x∈ws,ov x
  sb:∀x∈hs,x∈ws
  lf:∀t∈B,sW ov t.2.1
  ri:∀t∈B,qw ws t.2.1.nb t.2.2
def mF.bk (b:mF w0 w1 w2 w3 w4 w5 tt B) (T:pE tt) (G:nT w0 w1 w2 w3 w4 w5):ox [w0,w1,w2,w3,w4,w5] [w2,w3,w4,w5] B:=
 ⟨λt ht=>T.ok _ (b.mem ht),b.nodup T,G.ok,λx hx=>aI _ (aI _ hx),λt ht=>b.left (G.ok _ (by simp)) (G.ok _ (by simp)) (G.ok _ (by simp)) (G.ok _ (by simp)) ht,b.ri⟩
section
variable {ws hs:List ah}{B:List Tn}{c:Int→Nat}
def RL (b:ox ws hs B) {p:Pl}(h:nF hs B p):(p.ev B c).way B=true:=by
 induction h with
 | @sign b' h ps hh hp ih=>
  rw[qe,Tr.way,tj,F5 λt ht=>(B4 (b.sg h (b.sb h hh)) (b.ti t ht)).symm,EM,(Bi h).mpr (b.sg h (b.sb h hh))];simp only[fv,jR,cS];exact λp hp=>ih p hp
 | @turn k b' h ps t e hl b0 b1 hp ih=>
  have ht:t∈B:=aJ e;have hu:∀u∈ps.map (Pl.ev B c),u.way B=true:=λu hu=>by
   obtain⟨p,hp,rfl⟩:=aT.mp hu;exact ih p hp
  rw[pZ e];unfold rb;split
  ·exact ER b.ti hu _ (b.lf t ht).hb (by rw[ay,hl];exact(b.lf t ht).br)
  ·rw[Tr.way,tj,qZ b.nd ht,EM];simp only[ay,hl,beq_self_eq_true,jR,cS];exact hu
  ·exact ER b.ti hu _ ((b.ri t ht).hb b.sg) (by rw[ay,hl];exact(b.ri t ht).br)
theorem FI:∀{ps:List Pl},p∈ps→p.nt≤bC ps
 |q::ps,h=>by
  obtain rfl |h:=az.mp h
  ·simp [bC]
  ·have:=FI h;simp [bC];lia
theorem GN:∀{ps:List Pl},p∈ps→p.wt≤bJ ps
 |q::ps,h=>by
  obtain rfl |h:=az.mp h
  ·simp [bJ]
  ·have:=GN h;simp [bJ];lia
end
mutual
def Tr.mk (B:List Tn) (g:Tn→Tr):Tr→Tr
 | .bl n=> .bl n
 | .nd s ts=>match m9 B s with
  |none=> .nd s (rD B g ts)
  |some t=>(g t).aD (rD B g ts)
def rD (B:List Tn) (g:Tn→Tr):List Tr→List Tr
 | []=>[]
 |t::ts=>t.mk B g::rD B g ts
end
theorem wE (B:List Tn) (g:Tn→Tr):∀ts:List Tr,rD B g ts=ts.map (Tr.mk B g)
 | []=>by simp [rD]
 |t::ts=>by simp [rD,wE B g ts]
def Ao{g:Tn→Tr}(h:m9 B s=none):(Tr.nd s ts).mk B g= .nd s (ts.map (Tr.mk B g)):=by
 rw[Tr.mk,h,wE]
def A1{g:Tn→Tr}(h:m9 B s=aa t):(Tr.nd s ts).mk B g=(g t).aD (ts.map (Tr.mk B g)):=by
 rw[Tr.mk,h,wE]
def qg (hB:∀t∈B,p8 t.1) (h:ov s):m9 B s=none:=F5 λt ht=>(B4 h (hB t ht)).symm
mutual
theorem rK{g:Tn→Tr}(hB:∀t∈B,p8 t.1):∀t:Tr,t.hd ov→t.mk B g=t
 | .bl n,h=>by simp [Tr.hd]at h
 | .nd s ts,h=>by
  simp only[Tr.hd]at h;rw[Tr.mk,qg hB h.1,Oq hB ts h.2]
theorem Oq{g:Tn→Tr}(hB:∀t∈B,p8 t.1):∀ts:List Tr,hds ov ts→rD B g ts=ts
 | [],h=>by simp [rD]
 |t::ts,h=>by
  simp only[hds]at h;rw[rD,rK hB t h.1,Oq hB ts h.2]
end
mutual
theorem Bg{g:Tn→Tr}(hB:∀t∈B,p8 t.1):∀t:Tr,t.hb ov→t.br us.length→(t.aD us).mk B g=t.aD (us.map (Tr.mk B g))
 | .bl n,h,f=>by
  simp only[Tr.br]at f;simp only[Tr.aD];rw[bv,bv,aV,aS (show n.toNat<us.length by lia)]
  rfl
 | .nd s ts,h,f=>by
  simp only[Tr.hb]at h;simp only[Tr.br]at f;simp only[Tr.aD];rw[Tr.mk,qg hB h.1];simp only[];rw[Hd hB ts h.2 f]
theorem Hd{g:Tn→Tr}(hB:∀t∈B,p8 t.1):∀ts:List Tr,oy ov ts→m4 us.length ts→rD B g (aF us ts)=aF (us.map (Tr.mk B g)) ts
 | [],h,f=>by simp [aF,rD]
 |t::ts,h,f=>by
  simp only[oy]at h;simp only[m4]at f;rw[aF,rD,aF,Bg hB t h.1 f.1,Hd hB ts h.2 f.2]
end
section
variable {ws hs:List ah}{B:List Tn}{c d:Int→Nat}
def Gd (b:ox ws hs B) {g:Tn→Tr}(hg:∀t∈B,∀x:Int,0≤x→x<8→c x=1→ ∀us,(g t).aD us=rb t (d x) us) (h0:∀x:Int,0≤x→x<8→c x≠1→d x=c x) {p:Pl}(h:nF hs B p):(p.ev B c).mk B g=p.ev B d:=by
 induction h with
 | @sign b' h ps hh hp ih=>
  rw[qe,qe,Ao (qg b.ti (b.sg h (b.sb h hh))),bu];congr 1;exact dc λp hp=>ih p hp
 | @turn k b' h ps t e hl b0 b1 hp ih=>
  have ht:t∈B:=aJ e;have em:(ps.map (Pl.ev B c)).map (Tr.mk B g)=ps.map (Pl.ev B d):=by
   rw[bu];exact dc λp hp=>ih p hp
  rw[pZ e,pZ e];by_cases hc:c b'=1
  ·rw[←hg t ht b' b0 b1 hc,hc];show(Tr.nd t.1 _).mk B g=_;rw[A1 (qZ b.nd ht),em]
  ·rw[h0 b' b0 b1 hc];unfold rb;split
   ·rw[Bg b.ti _ (b.lf t ht).hb (by rw[ay,hl];exact(b.lf t ht).br),em]
   ·rename_i z;exact absurd z hc
   ·rw[Bg b.ti _ ((b.ri t ht).hb b.sg) (by rw[ay,hl];exact(b.ri t ht).br),em]
def vg (c:Int→Nat):Int→Nat:=λx=>if c x=1 then 0 else c x
def sy (c:Int→Nat):Int→Nat:=λx=>if c x=1 then 2 else c x
def wA (b:ox ws hs B) (h:nF hs B p):(p.ev B c).mk B (λt=>t.2.1)=p.ev B (vg c):=
 Gd b (λt ht x _ _ hx us=>by rw[vg,if_pos hx];rfl) (λx _ _ hx=>by rw[vg,if_neg hx]) h
def xX (b:ox ws hs B) (h:nF hs B p):(p.ev B c).mk B (λt=>t.2.2)=p.ev B (sy c):=
 Gd b (λt ht x _ _ hx us=>by rw[sy,if_pos hx];rfl) (λx _ _ hx=>by rw[sy,if_neg hx]) h
def vR{p:Pl}(h:nF hs B p) (hc:∀x:Int,0≤x→x<8→c x=d x):p.ev B c=p.ev B d:=by
 induction h with
 | @sign b' h ps hh hp ih=>
  rw[qe,qe];congr 1;exact dc λp hp=>ih p hp
 | @turn k b' h ps t e hl b0 b1 hp ih=>
  rw[pZ e,pZ e,hc b' b0 b1];congr 1;exact dc λp hp=>ih p hp
end
def M_ (hL:L∈bO n h c d) (hu:us.length=L.nb):L.mt (L.aD us)=aa us:=by
 unfold bO at hL;split at hL<;>simp only[az,bp,or_false]at hL
 all_goals first
  | (subst hL;rcases us with _ |⟨u,_ |⟨v,_ |⟨x,_ |⟨y,us⟩⟩⟩⟩<;>simp [Tr.nb,nbs,Tr.aD,aF,Tr.mt,nM]at hu⊢ <;>lia)
  | (rcases hL with rfl |rfl<;>rcases us with _ |⟨u,_ |⟨v,_ |⟨x,_ |⟨y,us⟩⟩⟩⟩<;>simp [Tr.nb,nbs,Tr.aD,aF,Tr.mt,nM]at hu⊢ <;>lia)
def E5 (B:List Tn):Prop:=∀t∈B,∀us:List Tr,us.length=t.2.1.nb→t.2.1.mt (t.2.1.aD us)=aa us
def mF.mt (b:mF w0 w1 w2 w3 w4 w5 tt B):E5 B:=λt ht us hu=>by
 obtain⟨n,m,e⟩:=b.lf;have:t.2.1∈bO n w0 w2 w3++bO m w1 w2 w3:=by rw[←e];exact aT.mpr ⟨t,ht,rfl⟩
 obtain z |z:=bq.mp this
 ·exact M_ z hu
 ·exact M_ z hu
mutual
inductive Mv (B:List Tn):Nat→Tr→Tr→Tr→Prop
 |nn {n:Nat}{s z:ah}{ts us cs:List Tr}:m9 B s=none→m9 B z=none→nW B n ts us cs→Mv B (n+1) (.nd s ts) (.nd z us) (.nd s cs)
 |ns {n:Nat}{s z:ah}{ts us cs ms:List Tr}{t:Tn}:m9 B s=none→m9 B z=aa t→t.2.1.mt (.nd s ts)=aa ms→cs.length=t.2.1.nb→nW B n ms us cs→Mv B (n+1) (.nd s ts) (.nd z us) (t.2.2.aD cs)
 |sn {n:Nat}{s z:ah}{ts us cs ms:List Tr}{t:Tn}:m9 B s=aa t→m9 B z=none→t.2.1.mt (.nd z us)=aa ms→nW B n ts ms cs→Mv B (n+1) (.nd s ts) (.nd z us) (.nd s cs)
 |ss {n:Nat}{s z:ah}{ts us cs:List Tr}{t t':Tn}:m9 B s=aa t'→m9 B z=aa t→cs.length=t.2.1.nb→nW B n ts us cs→Mv B (n+1) (.nd s ts) (.nd z us) (t.2.2.aD cs)
inductive nW (B:List Tn):Nat→List Tr→List Tr→List Tr→Prop
 |nil {n:Nat}:nW B n [] [] []
 |cons {n:Nat}{a b c:Tr}{as bs cs:List Tr}:Mv B n a b c→nW B n as bs cs→nW B n (a::as) (b::bs) (c::cs)
end
mutual
theorem Mv.monoA:∀{n:Nat}{a b c:Tr},Mv B n a b c→ ∀m,n≤m→Mv B m a b c
 |_,_,_,_, .nn h1 h2 h3=>λm h=>by
  obtain⟨m,rfl⟩:∃m',m=m'+1:=⟨m - 1,by lia⟩
  exact .nn h1 h2 (nW.monoA h3 m (by lia))
 |_,_,_,_, .ns h1 h2 h3 h4 h5=>λm h=>by
  obtain⟨m,rfl⟩:∃m',m=m'+1:=⟨m - 1,by lia⟩
  exact .ns h1 h2 h3 h4 (nW.monoA h5 m (by lia))
 |_,_,_,_, .sn h1 h2 h3 h4=>λm h=>by
  obtain⟨m,rfl⟩:∃m',m=m'+1:=⟨m - 1,by lia⟩
  exact .sn h1 h2 h3 (nW.monoA h4 m (by lia))
 |_,_,_,_, .ss h1 h2 h3 h4=>λm h=>by
  obtain⟨m,rfl⟩:∃m',m=m'+1:=⟨m - 1,by lia⟩
  exact .ss h1 h2 h3 (nW.monoA h4 m (by lia))
theorem nW.monoA:∀{n:Nat}{a b c:List Tr},nW B n a b c→ ∀m,n≤m→nW B m a b c
 |_,_,_,_, .nil=>λ_ _=> .nil
 |_,_,_,_, .cons h1 h2=>λm h=> .cons (Mv.monoA h1 m h) (nW.monoA h2 m h)
end
def Mv.mono (h:n≤m) (M:Mv B n a b c):Mv B m a b c:=Mv.monoA M m h
def nW.mono (h:n≤m) (M:nW B n a b c):nW B m a b c:=nW.monoA M m h
theorem nW.get:∀{as bs cs:List Tr}{i:Nat},nW B n as bs cs→i<cs.length→ ∃a b c,as[i]? =aa a∧bs[i]? =aa b∧cs[i]? =aa c∧Mv B n a b c
 |_,_,_,i, .nil,h=>by simp at h
 |_,_,_,0, .cons h1 _,h=>⟨_,_,_,rfl,rfl,rfl,h1⟩
 |_,_,_,i+1, .cons _ h2,h=>by
  obtain⟨a,b,c,e1,e2,e3,q⟩:=nW.get (i:=i) h2 (by simpa using h);exact⟨a,b,c,by simpa using e1,by simpa using e2,by simpa using e3,q⟩
theorem nW.of{α:Type}{f g h:α→Tr}:∀(xs:List α),(∀x∈xs,Mv B n (f x) (g x) (h x))→nW B n (xs.map f) (xs.map g) (xs.map h)
 | [],_=> .nil
 |x::xs,q=> .cons (q x aK) (nW.of xs λy hy=>q y (aI _ hy))
mutual
theorem CQ (hB:∀t∈B,p8 t.1) (h:nW B n us vs cs):∀t:Tr,t.hb ov→t.br cs.length→Mv B (n+t.depth) (t.aD us) (t.aD vs) (t.aD cs)
 | .bl k,q,f=>by
  simp only[Tr.br]at f;obtain⟨a,b,c,e1,e2,e3,m⟩:=h.get (i:=k.toNat) (by lia);simp only[Tr.aD,bv,e1,e2,e3,d8];exact m.mono (by lia)
 | .nd s ts,q,f=>by
  simp only[Tr.hb]at q;simp only[Tr.br]at f;have:=LO hB h ts q.2 f;simp only[Tr.aD,Tr.depth];rw[show n+(1+m_ ts)=n+m_ ts+1 by lia]
  exact .nn (qg hB q.1) (qg hB q.1) this
theorem LO (hB:∀t∈B,p8 t.1) (h:nW B n us vs cs):∀ts:List Tr,oy ov ts→m4 cs.length ts→nW B (n+m_ ts) (aF us ts) (aF vs ts) (aF cs ts)
 | [],q,f=>by simp only[aF];exact .nil
 |t::ts,q,f=>by
  simp only[oy]at q;simp only[m4]at f;have h1:=CQ hB h t q.1 f.1;have h2:=LO hB h ts q.2 f.2;simp only[aF,m_];exact .cons (h1.mono (by lia)) (h2.mono (by lia))
end
def pL (c d:Int→Nat):Int→Nat:=λx=>if d x=1 then 2 else c x
def BN{ws hs:List ah}{B:List Tn}{c d:Int→Nat}(b:ox ws hs B) (hm:E5 B) (hc:∀x:Int,0≤x→x<8→(c x≤1∧d x≤1)∨(c x=2∧d x=2)) {p:Pl}(h:nF hs B p):Mv B (p.dp+3*p.nt) (p.ev B c) (p.ev B d) (p.ev B (pL c d)):=by
 induction h with
 | @sign b' h ps hh hp ih=>
  rw[qe,qe,qe,Pl.dp,Pl.nt,if_pos (by decide),show 1+sj ps+3*(0+bC ps)=sj ps+3*bC ps+1 by lia]
  refine .nn (qg b.ti (b.sg h (b.sb h hh))) (qg b.ti (b.sg h (b.sb h hh))) (.of ps λp hp=>(ih p hp).mono ?_);have:=Bq hp;have:=FI hp;lia
 | @turn k b' h ps t e hl b0 b1 hp ih=>
  have ht:t∈B:=aJ e;have en:(Pl.nd k b' h ps).nt=1+bC ps:=by rw[Pl.nt,if_neg (by lia)]
  have M:nW B (sj ps+3*bC ps) (ps.map (Pl.ev B c)) (ps.map (Pl.ev B d)) (ps.map (Pl.ev B (pL c d))):= .of ps λp hp=>(ih p hp).mono (by
   have:=Bq hp;have:=FI hp;lia)
  have lc:(ps.map (Pl.ev B (pL c d))).length=t.2.1.nb:=by rw[ay,hl]
  have l1:(ps.map (Pl.ev B c)).length=t.2.1.nb:=by rw[ay,hl]
  have l2:(ps.map (Pl.ev B d)).length=t.2.1.nb:=by rw[ay,hl]
  have tt:=qZ b.nd ht;have L:=b.lf t ht;have R:=b.ri t ht;have hd:=L.dp;rw[pZ e,pZ e,pZ e,Pl.dp,en,show 1+sj ps+3*(1+bC ps)=sj ps+3*bC ps+3+1 by lia]
  have lsign:∀us,∃s ts,t.2.1.aD us= .nd s ts∧m9 B s=none:=λus=>by
   obtain⟨s,ts,el⟩:=L.nd;have hb:=L.hb;rw[el,Tr.hb]at hb;exact⟨s,aF us ts,by rw[el,Tr.aD],qg b.ti hb.1⟩
  have hp:pL c d b'=if d b'=1 then 2 else c b':=rfl;rw[hp];obtain ⟨c1,d1⟩ |⟨c2,d2⟩:=hc b' b0 b1
  ·by_cases dz:d b'=1
   ·rw[if_pos dz,dz];by_cases cz:c b'=1
    ·rw[cz];exact .ss tt tt lc (M.mono (by lia))
    ·rw[show c b'=0 by lia]
     obtain⟨s,ts,es,hs⟩:=lsign (ps.map (Pl.ev B c));have:=hm t ht _ l1;simp only[rb];rw[es]at this⊢;exact .ns hs tt this lc (M.mono (by lia))
   ·rw[if_neg dz,show d b'=0 by lia]
    by_cases cz:c b'=1
    ·rw[cz];obtain⟨s,ts,es,hs⟩:=lsign (ps.map (Pl.ev B d));have:=hm t ht _ l2;simp only[rb];rw[es]at this⊢;exact .sn tt hs this (M.mono (by lia))
    ·rw[show c b'=0 by lia]
     simp only[rb];exact(CQ b.ti M _ L.hb (by rw[lc];exact L.br)).mono (by lia)
  ·rw[d2,if_neg (by decide),c2];simp only[rb];have:=R.dp;exact(CQ b.ti M _ (R.hb b.sg) (by rw[lc];exact R.br)).mono (by lia)
theorem GS{P:ah→Prop}(hu:u.hd P):∀{ts:List Tr}(i:Nat),hds P ts→hds P (ts.set i u)
 | [],_,h=>by simpa using h
 |t::ts,0,h=>by
  simp only[hds,l_]at h⊢;exact⟨hu,h.2⟩
 |t::ts,i+1,h=>by
  simp only[hds,kx]at h⊢;exact⟨h.1,GS hu i h.2⟩
theorem MM{P:ah→Prop}:∀{ts us:List Tr},hds P ts→hds P us→hds P (ts++us)
 | [],us,_,h=>h
 |t::ts,us,h,g=>by
  simp only[hds,ck]at h⊢;exact⟨h.1,MM h.2 g⟩
mutual
inductive p7 (S:lr):Pl→W→Prop
 |nd {k b:Int}{h:ah}{ps:List Pl}{a:ai}{vs:List W}:S a=aa (.bP vs)→mQ S ps vs→p7 S (.nd k b h ps) (.bW [.int k, .int b, .str h, .ref a])
inductive mQ (S:lr):List Pl→List W→Prop
 |nil:mQ S [] []
 |cons {p:Pl}{v:W}{ps:List Pl}{vs:List W}:p7 S p v→mQ S ps vs→mQ S (p::ps) (v::vs)
end
mutual
theorem p7.sub (h:Sub S S'):∀{p:Pl}{v:W},p7 S p v→p7 S' p v
 |_,_, .nd e q=> .nd (h _ _ e) (mQ.sub h q)
theorem mQ.sub (h:Sub S S'):∀{ps:List Pl}{vs:List W},mQ S ps vs→mQ S' ps vs
 |_,_, .nil=> .nil
 |_,_, .cons a b=> .cons (p7.sub h a) (mQ.sub h b)
end
theorem mQ.len:∀{ps:List Pl}{vs:List W},mQ S ps vs→ps.length=vs.length
 |_,_, .nil=>rfl
 |_,_, .cons _ h=>congrArg (· +1) (mQ.len h)
theorem mQ.app:∀{ps qs:List Pl}{vs us:List W},mQ S ps vs→mQ S qs us→mQ S (ps++qs) (vs++us)
 |_,_,_,_, .nil,h=>h
 |_,_,_,_, .cons a b,h=> .cons a (mQ.app b h)
theorem mQ.take:∀(n:Nat) {ps:List Pl}{vs:List W},mQ S ps vs→mQ S (ps.take n) (vs.take n)
 |0,_,_,_=> .nil
 |_+1,_,_, .nil=> .nil
 |n+1,_,_, .cons a b=> .cons a (mQ.take n b)
theorem mQ.drop:∀(n:Nat) {ps:List Pl}{vs:List W},mQ S ps vs→mQ S (ps.drop n) (vs.drop n)
 |0,_,_,h=>h
 |_+1,_,_, .nil=> .nil
 |n+1,_,_, .cons _ b=>mQ.drop n b
theorem mQ.rep (h:p7 S p v):∀n:Nat,mQ S (bn n p) (bn n [v]).flatten
 |0=> .nil
 |n+1=>by
  rw[cR,cR,d5];exact .cons h (mQ.rep h n)
def ut (w:ah):Pl:= .nd (-1) 0 w []
def p9 (need:Nat) (w:ah) (ps:List Pl):List Pl:=bn (need - ps.length) (ut w)++ps
def push (need:Nat) (w:ah) (k b:Int) (h:ah) (ps:List Pl):List Pl:=
 (p9 need w ps).take ((p9 need w ps).length - need)++[.nd k b h ((p9 need w ps).drop ((p9 need w ps).length - need))]
theorem Ko (w:ah):∀n:Nat,bJ (bn n (ut w))=n
 |0=>by simp [bJ]
 |n+1=>by rw[cR,bJ,Ko w n];simp [ut,Pl.wt,bJ];lia
theorem Jq (w:ah):∀n:Nat,bC (bn n (ut w))=0
 |0=>by simp [bC]
 |n+1=>by rw[cR,bC,Jq w n];simp [ut,Pl.nt,bC]
theorem AG:∀ps:List Pl,ps.length≤bJ ps
 | []=>by simp
 |p::ps=>by have:=AG ps;have:=UM p;simp [bJ];lia
def BS (need:Nat) (w:ah) (ps:List Pl):(p9 need w ps).length=need - ps.length+ps.length:=by simp [p9]
def Yq:bJ (push need w k b h ps)=need - ps.length+bJ ps+1∧bC (push need w k b h ps)=bC ps+(if k<0 then 0 else 1)∧(push need w k b h ps).length=need - ps.length+ps.length - need+1:=by
 have hl:=BS need w ps;have h1:bJ (p9 need w ps)=need - ps.length+bJ ps:=by rw[p9,xg,Ko]
 have h2:bC (p9 need w ps)=bC ps:=by rw[p9,vX,Jq];lia
 have h3:=xg ((p9 need w ps).take ((p9 need w ps).length - need)) ((p9 need w ps).drop ((p9 need w ps).length - need));have h4:=vX ((p9 need w ps).take ((p9 need w ps).length - need)) ((p9 need w ps).drop ((p9 need w ps).length - need));rw[gM]at h3 h4;unfold push;refine⟨?_,?_,?_⟩
 ·rw[xg,bJ,bJ,Pl.wt];lia
 ·rw[vX,bC,bC,Pl.nt];lia
 ·rw[bc,cU,cB,hl];lia
def QK (ps:List Pl):((p9 need w ps).drop ((p9 need w ps).length - need)).length=need:=by
 have hl:=BS need w ps;rw[cP,hl];lia
def Jr (hw:w∈ws) (h:∀p∈ps,nF ws B p):∀p∈p9 need w ps,nF ws B p:=λp hp=>by
 obtain z |z:=bq.mp hp
 ·rw[(List.mem_replicate.mp z).2];exact .sign hw λq hq=>by cases hq
 ·exact h p z
def V4 (hw:w∈ws) (hp:∀p∈ps,nF ws B p) (hn:∀qs:List Pl,qs.length=need→(∀q∈qs,nF ws B q)→nF ws B (.nd k b h qs)):∀p∈push need w k b h ps,nF ws B p:=λp hq=>by
 obtain z |z:=bq.mp hq
 ·exact Jr hw hp p (iD z)
 ·rw[bh.mp z];exact hn _ (QK ps) λq hq=>Jr hw hp q (i7 hq)
def Ce:WS:=(nD (rG (nA (mq ux (jn 3) (wC (.int 0)))) (nA (mq uZ (jn 5) (wC (.int 5))))) (mz (mr (mq (rj λi j=> .int (i - j)) (jn 3) (wC (.int 1))) (mx 3))
  (mz (mr (nw (xr (xo (nJ (jM (m5 (jM (qX (wC (.int 1))) (jM (wC (.int 0)) (jM (mq mE (jn 2) (wC (.int 2))) (jM (nw (nJ ae)) ae))))) ae)) (mq (rj λi j=> .int (i - j)) (jn 8) (wB oP (jM (jn 4) ae)))) (jn 4))) (mx 4))
  (mz (mr (mq (rj λi j=> .int (i - j)) (wB oP (jM (jn 4) ae)) (jn 8)) (mx 11))
  (mr (nw (uG (vc (jn 4) oz (ou (jn 11))) (nJ (jM (mq om (jn 9) (m5 (jM (oD (jn 4) (ou (jn 11)) oz) ae))) ae)))) (mx 4))))) nB)
theorem VB:JM r mH=(mz (mr (mq (oH (λ_ j=>0<j) λi j=> .int (i % j)) (jn 6) (wC (.int 8))) (mx 7))
  (mz (mr (uw (nJ (jM (wC (.int 0)) (jM (wC (.int 0)) (jM (wC (.int 1)) (jM (wC (.int 2)) ae))))) (wB ui (jM (jn 7) (jM (wC (.int 3)) ae)))) (mx 8))
  (mz (mr (m5 (jM (qX (wC (.int 1))) (jM (wC (.int 0)) (jM (mq mE (jn 2) (uw (nJ (jM (wC (.int 2)) (jM (wC (.int 5)) (jM (wC (.int 3)) (jM (wC (.int 4)) ae))))) (wB ui (jM (jn 7) (jM (wC (.int 3)) ae))))) ae)))) (mx 9))
  (mz (nD (nA (mq ux (jn 7) (wC (.int 3)))) (mz (mr (mq (oH (λ_ j=>0<j) λi j=> .int (i % j)) (mq (oH sB λi j=> .int (i / j)) (jn 6) (wC (.int 8))) (wB oP (jM (jn 1) ae))) (mx 10))
  (mz (mr (mG (uK r) (jM (mq mE (mq mE (jn 1) (jn 10)) (wC (.int 1))) ae)) (mx 8))
  (mz (mr (m5 (jM (jn 10) (jM (mq (oH (λ_ j=>0<j) λi j=> .int (i % j)) (mq (oH sB λi j=> .int (i / j)) (jn 6) (wC (.int 64))) (wC (.int 8))) (jM (wC (.str "")) ae)))) (mx 9))
  (mr (mq om (jn 5) (wC (.int 1))) (mx 5))))) nB)
  Ce)))):=rfl
def Tw{w0 w1 w2 w3 w4 w5:ah}{S:lr}{aw st:ai}{E:WX}{D:mY}{need:Nat}{k b room spent:Int}{h:ah}{ps:List Pl}{vs:List W}{x0 x1 x6 x7 x10 x11:Option W}(hw:S aw=aa (.bP (qq w0 w1 w2 w3 w4 w5))) (hst:S st=aa (.bP vs)) (hp:mQ S ps vs) (hn:need≤3) (hl:ps.length≤100)
  (h1:D.nx [x0,x1,aa (.ref aw),aa (.int room),aa (.ref st),aa (.int spent),x6,x7,aa (.int need),aa (.bW [.int k, .int b, .str h]),x10,x11] S)
  (h2:0<room→spent<5→ ∀(st':ai) (S':lr) (vs':List W) (x11:Option W),Sub S S'→S' st'=aa (.bP vs')→mQ S' (push need w2 k b h ps) vs'→D.nx [x0,x1,aa (.ref aw),aa (.int (room - 1)),aa (.ref st'),aa (.int spent),x6,x7,aa (.int need),aa (.bW [.int k, .int b, .str h]),x10,x11] S') :
  Ce E D [x0,x1,aa (.ref aw),aa (.int room),aa (.ref st),aa (.int spent),x6,x7,aa (.int need),aa (.bW [.int k, .int b, .str h]),x10,x11] S:=by
 unfold Ce;ext;split
 ·rename_i c1;split
  ·rename_i c2;simp only[m8 hw,pP];have f1:=λ(a:ai) (ha:S a=none)=>keep (x:=Ob.bP []) hst ha;refine⟨aP _,λa ha=>⟨m7 (by decide),m7 (by decide),?_⟩⟩;rw[m8 (f1 a ha),m8 (f1 a ha)];have hlen:=hp.len;have en:((need:Int) - (vs.length:Int)).toNat=need - ps.length:=by lia
   rw[en];have pa:p7 (bR S a (Ob.bP [])) (ut w2) (.bW [.int (-1), .int 0, .str w2, .ref a]):= .nd mR .nil;have pp:mQ (bR S a (Ob.bP [])) (p9 need w2 ps) ((bn (need - ps.length) [W.bW [.int (-1), .int 0, .str w2, .ref a]]).flatten++vs):=(mQ.rep pa _).app (hp.sub (.bR .refl ha));have pl:=pp.len;have sub1:Sub S (bR S a (Ob.bP [])):= .bR .refl ha;have hfl:((bn (need - ps.length) [W.bW [.int (-1), .int 0, .str w2, .ref a]]).flatten).length≤3:=by
    rw[bc,BS]at pl;lia
   have e0:(1*(need - ps.length))≤sizeLine:=m7 (by lia);refine⟨⟨by lia,by lia,e0⟩,m7 (by lia),?_⟩
   generalize (bn (need - ps.length) [W.bW [.int (-1), .int 0, .str w2, .ref a]]).flatten++vs=ys at pp pl⊢;generalize bR S a (Ob.bP [])=S1 at pp sub1⊢;intro b2 hb2;have sub2:Sub S1 (bR S1 b2 (.bP ys)):= .bR .refl hb2;generalize bR S1 b2 (Ob.bP ys)=S2 at sub2⊢;have hpl:=BS need w2 ps;have ea:((ys.length:Nat):Int) - (need:Int)=((ys.length - need:Nat):Int):=by lia
   rw[ea,B1,Cb];intro p hp3;have sub3:Sub S2 (bR S2 p (.bP (ys.drop (ys.length - need)))):= .bR .refl hp3;have fp:bR S2 p (Ob.bP (ys.drop (ys.length - need))) p=aa (.bP (ys.drop (ys.length - need))):=mR;generalize bR S2 p (Ob.bP (ys.drop (ys.length - need)))=S3 at sub3 fp⊢;refine⟨m7 (by decide),m7 (by decide),m7 (by decide),m7 (by rw[cU];lia),λq hq=>?_⟩;have sub4:Sub S3 (bR S3 q (.bP (ys.take (ys.length - need)++[.bW [.int k, .int b, .str h, .ref p]]))):= .bR .refl hq;refine h2 c1 c2 q _ _ _ (((sub1.trans sub2).trans sub3).trans sub4) mR ?_;unfold push;have pp3:=pp.sub ((sub2.trans sub3).trans sub4);rw[←pl]at *;exact(pp3.take _).app (.cons (.nd (sub4 _ _ fp) (pp3.drop _)) .nil)
  ·exact h1
 ·exact h1
def Sb (n:Int) (h0:0≤n) (h1:n<8):∃m:Nat,m≤2∧nC [W.int 0,W.int 0,W.int 1,W.int 2] (if 3<n then 3 else n)=aa (.int (m:Int)):=by
 rcases(show n=0∨n=1∨n=2∨(3≤n) by lia) with rfl |rfl |rfl |h
 ·exact⟨0,by decide,rfl⟩
 ·exact⟨0,by decide,rfl⟩
 ·exact⟨1,by decide,rfl⟩
 ·have:(if 3<n then 3 else n)=3:=by split<;>lia
  rw[this];exact⟨2,by decide,rfl⟩
def Pd (n:Int) (h0:0≤n) (h1:n<8):∃(i:Int) (x:ah),x∈ [w2,w3,w4,w5]∧nC [W.int 2,W.int 5,W.int 3,W.int 4] (if 3<n then 3 else n)=aa (.int i)∧nC (qq w0 w1 w2 w3 w4 w5) i=aa (.str x):=by
 rcases(show n=0∨n=1∨n=2∨(3≤n) by lia) with rfl |rfl |rfl |h
 ·exact⟨2,w2,by simp,rfl,rfl⟩
 ·exact⟨5,w5,by simp,rfl,rfl⟩
 ·exact⟨3,w3,by simp,rfl,rfl⟩
 ·have:(if 3<n then 3 else n)=3:=by split<;>lia
  rw[this];exact⟨4,w4,by simp,rfl,rfl⟩
inductive Jm (S:lr) (ac ab aw:ai) (hs:List ah) (B:List Tn) (m:Nat) (ws:List W) (σ:mU) (S':lr):Prop
 |mk (ns:List Int) (ps:List Pl) (vs:List W) (st:ai) (room spent:Int) (x6 x7 x8 x9 x10 x11:Option W):ws=ns.map W.int→Sub S S'→S' st=aa (.bP vs)→mQ S' ps vs→(∀p∈ps,nF hs B p)→0≤room→room≤m→(bC ps:Int)≤spent→bC ps≤4→(bJ ps:Int)+ps.length≤2*(m - room)+bC ps+2→
  σ=[aa (.ref ac),aa (.ref ab),aa (.ref aw),aa (.int room),aa (.ref st),aa (.int spent),x6,x7,x8,x9,x10,x11]→Jm S ac ab aw hs B m ws σ S'
inductive Ii (S:lr) (hs:List ah) (B:List Tn) (m:Nat) (f:ai→mU) (mm:Nat) (σ:mU) (S2:lr):Prop
 |mk (ps:List Pl) (vs:List W) (st:ai):mm=ps.length→Sub S S2→S2 st=aa (.bP vs)→mQ S2 ps vs→(∀p∈ps,nF hs B p)→bC ps≤4→bJ ps+ps.length≤2*m+bC ps+2→σ=f st→Ii S hs B m f mm σ S2
def ZK{m:Nat}(hm9:m≤9) {Q:WK}{X:ah→lr→Prop}{ac ab:ai}{cells:List Int}{B:List Tn}(hc:S ac=aa (.bP (cells.map W.int))) (hb:S ab=aa (.bP (B.map mK))) (hw:S aw=aa (.bP (qq w0 w1 w2 w3 w4 w5))) (bk:ox [w0,w1,w2,w3,w4,w5] [w2,w3,w4,w5] B) (hB:B≠ [])
  (h:∀(p:Pl) (v:W) (S':lr),Sub S S'→p7 S' p v→nF [w2,w3,w4,w5] B p→p.wt≤2*m+1+p.nt→p.nt≤4→Q v S'):BF (r+10) [.ref ac, .ref ab, .ref aw, .int m] S Q X:=by
 rw[show r+10=r+9+1 from rfl,BF];ext;refine⟨aP _,λst0 hst0=>?_⟩;rw[m8 (keep hc hst0)];refine DF (Jm S ac ab aw [w2,w3,w4,w5] B m) ?_ ?_ _ _ _ ⟨cells,[],[],st0,m,0,none,none,none,none,none,none,rfl, .bR .refl hst0,mR, .nil,(λ_ h=>nomatch h),by lia,by lia,by simp [bC],by simp [bC],by simp [bC,bJ],rfl⟩
 ·rintro w ws σ S' N ⟨ns,ps,vs,st,room,spent,x6,x7,x8,x9,x10,x11,ew,sub,hst,hp,ok,r0,r1,p0,p1,p2,rfl⟩ hN;cases ns with
  |nil=>cases ew
  |cons n ns=>
  cases ew;have fw:=sub _ _ hw;have fb:=sub _ _ hb;have fc:=sub _ _ hc;have m0:0≤n % 8:=c_ _ (by decide);have m1:n % 8<8:=dj _ (by decide);have hpl:=AG ps;obtain⟨need,hneed,en⟩:=Sb (n % 8) m0 m1;obtain⟨i,hd,hhd,e1,e2⟩:=Pd (w0:=w0) (w1:=w1) (w2:=w2) (w3:=w3) (w4:=w4) (w5:=w5) (n % 8) m0 m1;have go:∀(need:Nat) (k b:Int) (hh:ah) (sp:Int) (x10:Option W),need≤3→(∀qs:List Pl,qs.length=need→(∀q∈qs,nF [w2,w3,w4,w5] B q)→nF [w2,w3,w4,w5] B (.nd k b hh qs))→(k<0∧need≤2∧sp=spent∨ ¬k<0∧sp=spent+1)→
    ∀(E:WX) (D:mY),D.nx=N→Ce E D [aa (.ref ac),aa (.ref ab),aa (.ref aw),aa (.int room),aa (.ref st),aa (.int sp),aa (.int n),aa (.int (n % 8)),aa (.int need),aa (.bW [.int k, .int b, .str hh]),x10,x11] S':=λneed k b hh sp x10 hn cG hk E D hD=>by
   subst hD;refine Tw fw hst hp hn (by lia) ?_ λc1 c2 st' S2 vs' x11 sub2 hst2 hp2=>?_
   ·refine hN _ _ S' .refl fc ⟨ns,ps,vs,st,room,sp,_,_,_,_,_,_,rfl,sub,hst,hp,ok,r0,r1,by lia,p1,p2,rfl⟩
   ·obtain⟨s1,s2,s3⟩:=Yq (need:=need) (w:=w2) (k:=k) (b:=b) (h:=hh) (ps:=ps);have hz:ps.length=0→bJ ps=0∧bC ps=0:=λz=>by
     cases ps with
     |nil=>exact⟨rfl,rfl⟩
     |cons _ _=>simp at z
    have fin:(bC (push need w2 k b hh ps):Int)≤sp→bC (push need w2 k b hh ps)≤4→(bJ (push need w2 k b hh ps):Int)+(push need w2 k b hh ps).length≤2*(m - (room - 1))+bC (push need w2 k b hh ps)+2→D.nx [aa (.ref ac),aa (.ref ab),aa (.ref aw),aa (.int (room - 1)),aa (.ref st'),aa (.int sp),aa (.int n),aa (.int (n % 8)),aa (.int need),aa (.bW [.int k, .int b, .str hh]),x10,x11] S2:=λf1 f2 f3=>
     hN _ _ S2 .refl (sub2 _ _ fc) ⟨ns,_,vs',st',room - 1,sp,_,_,_,_,_,_,rfl,sub.trans sub2,hst2,hp2,V4 (by simp) ok cG,by lia,by lia,f1,f2,f3,rfl⟩
    obtain ⟨kn,n2,es⟩ |⟨kp,es⟩:=hk
    ·rw[if_pos kn]at s2;refine fin (by lia) (by lia) ?_;obtain z |z:=ii ps.length
     ·have:=hz z;lia
     ·lia
    ·rw[if_neg kp]at s2;refine fin (by lia) (by lia) ?_;obtain z |z:=ii ps.length
     ·have:=hz z;lia
     ·lia
  rw[VB];ext;simp only[en,e1];ext;simp only[m8 fw,e2];refine⟨by decide,m7 (by decide),m7 (by decide),m7 (by decide),?_⟩;split
  ·have hbl:(B.map mK)≠ []:=by simpa using hB
   obtain⟨j,x,ej,ex⟩:=O9 (n / 8) hbl;have hlt:0<(B.map mK).length:=kW.mpr hbl;have ek:n / 8 % ((B.map mK).length:Int)=(((n / 8 % ((B.map mK).length:Int)).toNat:Nat):Int):=by
    have:=c_ (n / 8) (show((B.map mK).length:Int)≠0 by lia)
    lia
   have ek2:=sf (xs:=B.map mK) (n:=(n / 8 % ((B.map mK).length:Int)).toNat);rw[←ek,ex,aV]at ek2;cases et:B[(n / 8 % ((B.map mK).length:Int)).toNat]? with
   |none=>rw[et]at ek2;cases ek2
   |some t=>
    rw[et]at ek2;have ext:x= .bW [.str t.1,j5 t.2.1,j5 t.2.2]:=by cases ek2;rfl
    have ht:t∈B:=aJ et;have LT:=bk.lf t ht;have hLd:=LT.dp;have hLw:=LT.wt;have hLn:=LT.nb;simp only[m8 fb,ex,ext];ext;rw[show nC [W.str t.1,j5 t.2.1,j5 t.2.2] 1=aa (j5 t.2.1) from rfl];refine⟨⟨by decide,by decide⟩,by lia,?_⟩
    refine Du 4 hLd (by lia) (by lia) ⟨⟨by decide,by decide⟩,by decide,m7 (by decide),?_⟩
    have b0:0≤n / 64 % 8:=c_ _ (by decide);have b1:n / 64 % 8<8:=dj _ (by decide);refine go t.2.1.nb _ _ _ _ _ hLn (λqs hq hqs=>?_) (.inr ⟨by lia,rfl⟩) _ _ rfl;rw[ek];exact .turn et hq b0 b1 hqs
  ·exact go need (-1) 0 hd spent _ (by lia) (λqs hq hqs=> .sign hhd hqs) (.inl ⟨by decide,hneed,rfl⟩) _ _ rfl
 ·rintro σ S' ⟨ns,ps,vs,st,room,spent,x6,x7,x8,x9,x10,x11,ew,sub,hst,hp,ok,r0,r1,p0,p1,p2,rfl⟩;have hpl:=AG ps;refine⟨Ii S [w2,w3,w4,w5] B m (λst=>[aa (.ref ac),aa (.ref ab),aa (.ref aw),aa (.int room),aa (.ref st),aa (.int spent),x6,x7,x8,x9,x10,x11]),⟨_,ps,vs,st,rfl,sub,hst,hp,ok,p1,by lia,rfl⟩,?_⟩
  rintro mm σ S2 ⟨ps,vs,st,rfl,sub,hst,hp,ok,p1,p2,rfl⟩;have hlen:=hp.len;have fw:=sub _ _ hw;ext;rw[m8 hst];split
  ·rename_i hgt;simp only[KG];ext;simp only[m8 hst,m8 fw,p4];have c1:o4 vs none (aa (-2))=vs.take (vs.length - 2):=Zj 2 (by decide);have c2:o4 vs (aa (-2)) none=vs.drop (vs.length - 2):=TL 2 (by decide);rw[c1,c2];intro p hp3;have sub3:Sub S2 (bR S2 p (.bP (vs.drop (vs.length - 2)))):= .bR .refl hp3;have fp:bR S2 p (Ob.bP (vs.drop (vs.length - 2))) p=aa (.bP (vs.drop (vs.length - 2))):=mR;generalize bR S2 p (Ob.bP (vs.drop (vs.length - 2)))=S3 at sub3 fp⊢;refine⟨m7 (by decide),m7 (by decide),m7 (by rw[cU];lia),λq hq=>?_⟩;have sub4:Sub S3 (bR S3 q (.bP (vs.take (vs.length - 2)++[.bW [.int (-1), .int 0, .str w4, .ref p]]))):= .bR .refl hq;have hp4:=hp.sub (sub3.trans sub4);have hw3:=xg (ps.take (vs.length - 2)) (ps.drop (vs.length - 2));have hn3:=vX (ps.take (vs.length - 2)) (ps.drop (vs.length - 2));rw[gM]at hw3 hn3;refine⟨_,_,?_, .refl,ps.take (vs.length - 2)++[.nd (-1) 0 w4 (ps.drop (vs.length - 2))],_,q,rfl,(sub.trans sub3).trans sub4,mR,(hp4.take _).app (.cons (.nd (sub4 _ _ fp) (hp4.drop _)) .nil),λx hx=>?_,?_,?_,rfl⟩
   ·rw[bc,cU,cB];lia
   ·obtain z |z:=bq.mp hx
    ·exact ok x (iD z)
    ·rw[bh.mp z];exact .sign (by simp) λy hy=>ok y (i7 hy)
   ·rw[vX,bC,bC,Pl.nt,if_pos (by decide)];lia
   ·rw[xg,bJ,bJ,Pl.wt,bc,cU,cB,vX,bC,bC,Pl.nt,if_pos (by decide)];lia
  ·rename_i hle
   try ext
   simp only[m8 fw,pW];refine⟨aP _,λa ha=>⟨m7 (by decide),m7 (by decide),?_⟩⟩;rw[m8 (keep hst ha)];refine⟨m7 (by lia),?_⟩;cases hp with
   |nil=>
    exact⟨_, .refl,h (ut w5) _ _ (sub.trans (.bR .refl ha)) (.nd mR .nil) (.sign (by simp) λ_ z=>nomatch z) (by simp [ut,Pl.wt,bJ];lia) (by simp [ut,Pl.nt,bC])⟩
   | @cons p v ps vs h1 h2=>
    rw[ck,Bm];have e0:ps=[]:=by
     cases ps with
     |nil=>rfl
     |cons q qs=>
      have:=h2.len;simp only[aU]at this hle;lia
    subst e0;simp only[bJ,bC,aU,di]at p1 p2;exact⟨_, .refl,h p v _ (sub.trans (.bR .refl ha)) (h1.sub (.bR .refl ha)) (ok p aK) (by lia) (by lia)⟩
section
variable {r:Nat}{S:lr}{Q:WK}{E:ah→lr→Prop}{a:ai}{B:List Tn}
def XX (hx:x.length≤1000) (h:Q (.bl (vB x)) S):A_ (r+2) [.str x] S Q E:=by
 have hxl:=wq x;rw[A_];ext;unfold vB at h;rw[←hxl]at h;cases e1:decide (1≤x.length) with
 |false=>
  rw[e1]at h;have:¬1≤x.length:=by simpa using e1
  have e1':decide ((1:Int)≤(x.length:Int))=false:=by simp;lia
  rw[e1'];ext;exact⟨m7 (by lia),_, .refl,h⟩
 |true=>
  rw[e1]at h;have h1:1≤x.length:=by simpa using e1
  have e1':decide ((1:Int)≤(x.length:Int))=true:=by simp;lia
  rw[e1'];refine⟨m7 (by lia),?_⟩;ext;cases e2:decide (x.length≤8) with
  |false=>
   rw[e2]at h;have:¬x.length≤8:=by simpa using e2
   have e2':decide ((x.length:Int)≤8)=false:=by simp;lia
   rw[e2'];exact⟨_, .refl,h⟩
  |true=>
   rw[e2]at h;have h2:x.length≤8:=by simpa using e2
   have e2':decide ((x.length:Int)≤8)=true:=by simp;lia
   rw[e2'];ext;exact V1 (by lia) ⟨_, .refl,h⟩
def oM:Option Tn→W
 |some t=>mK t
 |none=> .ca
def HR (B:List Tn) (s:ah):B.findSome? (λt=>if t.1 == s then aa (mK t) else none)=(m9 B s).map mK:=by
 unfold m9
 induction B with
 |nil=>rfl
 |cons t B ih=>
  rw[eF,cb];cases e:t.1 == s with
  |true=>rfl
  |false=>simpa using ih
def wK (ha:S a=aa (.bP (B.map mK))) (h:Q (oM (m9 B s)) S):tP (r+1) [.ref a, .str s] S Q E:=by
 rw[tP];ext;rw[m8 ha];refine vv (S:=S) ?_ (λσ=>∃x,σ=[aa (.ref a),aa (.str s),x]) mK (λt=>if t.1 == s then aa (mK t) else none) B _ ⟨_,rfl⟩ (λt ht σ N hI hno hret=>?_) (λe σ hI=>?_) λw e S' sb=>?_
 ·exact ha
 ·obtain⟨x,rfl⟩:=hI;simp only[GQ];have ee:mK t= .bW [.str t.1,j5 t.2.1,j5 t.2.2]:=rfl;rw[ee];ext;cases e:t.1 == s with
  |true=>
   rw[e]at hret;exact hret _ rfl _ .refl
  |false=>
   rw[e]at hno;exact hno rfl _ _ ⟨_,rfl⟩ .refl
 ·obtain⟨x,rfl⟩:=hI;ext;rw[HR]at e;have:m9 B s=none:=by
   cases q:m9 B s with
   |none=>rfl
   |some t=>rw[q]at e;cases e
  rw[this]at h;exact⟨_, .refl,h⟩
 ·rw[HR]at e;cases q:m9 B s with
  |none=>rw[q]at e;cases e
  |some t=>
   rw[q]at e h;cases e;exact⟨_,sb,h⟩
def Yo (ts:List Tr):sH (ts.map λt=>W.bl t.dP)=aa (ts.map Tr.dP):=by
 have:=HK (ts.map Tr.dP);rw[bu]at this;exact this
theorem Ig:∀(d:Nat) {t:Tr}{r:Nat}{Q:WK}{E:ah→lr→Prop},t.depth≤d→d+5≤r→t.hd (λs=>s.length≤1000)→t.aq≤90000→Q (.bl t.dP) S→zm (r+1) [j5 t] S Q E
 |0,t,r,Q,E,hd,hr,hh,hw,h=>by have:=qB t;lia
 |d+1, .bl n,r,Q,E,hd,hr,hh,hw,h=>by simp [Tr.hd]at hh
 |d+1, .nd s ts,r,Q,E,hd,hr,hh,hw,h=>by
  simp only[Tr.depth]at hd;simp only[Tr.aq]at hw;simp only[Tr.hd]at hh;have hk:=qH ts;obtain⟨r,rfl⟩:∃r',r=r'+2:=⟨r - 2,by lia⟩
  rw[zm];simp only[j5];ext;refine XX hh.1 ?_;rw[Tr.dP]at h;cases e:vB s with
  |false=>
   rw[e]at h;ext;exact⟨_, .refl,h⟩
  |true=>
   rw[e]at h;ext;rw[o5];refine qf (λσ=>∃x,σ=[x]) j5 (λt=> .bl t.dP) trivial ts [] _ ⟨none,rfl⟩ (by simp;lia) (λx hx σ R hI hR=>?_) ?_
   ·obtain⟨y,rfl⟩:=hI;have hdx:=pY hx;have hwx:=pe hx;have:=qB x;simp only[Kt];ext;exact Ig d (t:=x) (r:=r+1) (by lia) (by lia) (mW.mp hh.2 x hx) (by lia) (hR _ _ ⟨_,rfl⟩ .refl)
   ·rw[aX,Yo];dsimp only;rw[GG]at h;rw[J9];exact⟨S, .refl,h⟩
end
def nI (f:Int):Int→Nat:=λb=>if b / f % 2=1 then 1 else 0
theorem mQ.zip:∀{ps:List Pl}{vs:List W},mQ S ps vs→ ∀x∈ps.zip vs,p7 S x.1 x.2∧x.1∈ps
 |_,_, .nil,x,h=>by simp at h
 |_,_, .cons a b,x,h=>by
  rw[gC]at h;obtain rfl |h:=az.mp h
  ·exact⟨a,aK⟩
  ·have:=mQ.zip b x h;exact⟨this.1,aI _ this.2⟩
def mQ.snd (h:mQ S ps vs):(ps.zip vs).map jV=vs:=List.map_snd_zip (by rw[h.len];exact aA _)
def mQ.fst (h:mQ S ps vs) {α:Type}(f:Pl→α):(ps.zip vs).map (λx=>f x.1)=ps.map f:=by
 have:(ps.zip vs).map Prod.fst=ps:=List.map_fst_zip (by rw[h.len];exact aA _)
 conv=>rhs;rw[←this,bu]
 rfl
theorem Ki (hf:f=1∨f=2∨f=4∨f=8) (ha:S a=aa (.bP (B.map mK))) (b:ox ws hs B):∀(d:Nat) {p:Pl}{v:W}{r:Nat}{Q:WK}{E:ah→lr→Prop},p.dp≤d→d+8≤r→p7 S p v→nF hs B p→p.wt≤1000→Q (j5 (p.ev B (nI f))) S→yn (r+1) [v, .ref a, .int f] S Q E
 |0,p,v,r,Q,E,hd,hr,hp,ok,hw,h=>by have:=Vc p;lia
 |d+1, .nd k b' hh ps,v,r,Q,E,hd,hr,hp,ok,hw,h=>by
  cases hp with
  | @nd _ _ _ _ c vs hc hps=>
  simp only[Pl.dp]at hd;simp only[Pl.wt]at hw;have hlen:=AG ps;obtain⟨r,rfl⟩:∃r',r=r'+1:=⟨r - 1,by lia⟩
  rw[yn];ext;rw[m8 hc];rw[←hps.snd];have okp:∀x∈ps,nF hs B x:=by
   cases ok with
   |sign _ h=>exact h
   |turn _ _ _ _ h=>exact h
  refine qf (λσ=>∃x,σ=[x,aa (.ref a),aa (.int f)]) jV (λx=>j5 (x.1.ev B (nI f))) ?_ (ps.zip vs) [] _ ⟨none,rfl⟩ (by simp;lia) (λx hx σ R hI hR=>?_) ?_
  ·rw[hps.snd];exact hc
  ·obtain⟨y,rfl⟩:=hI;obtain⟨h1,h2⟩:=hps.zip x hx;have:=Bq h2;have:=GN h2;simp only[Lq];ext;exact Ki hf ha b d (by lia) (by lia) h1 (okp _ h2) (by lia) (hR _ _ ⟨_,rfl⟩ .refl)
  ·rw[aX,hps.fst λp=>j5 (p.ev B (nI f))];intro q hq;have eu:(ps.map λp=>j5 (p.ev B (nI f)))=af (ps.map (Pl.ev B (nI f))):=by rw[o5,bu];rfl
   rw[eu];have fq:bR S q (Ob.bP (af (ps.map (Pl.ev B (nI f))))) q=aa (.bP (af (ps.map (Pl.ev B (nI f))))):=mR;have fa:=keep (x:=Ob.bP (af (ps.map (Pl.ev B (nI f))))) ha hq;have sub:Sub S (bR S q (Ob.bP (af (ps.map (Pl.ev B (nI f)))))):= .bR .refl hq;generalize bR S q (Ob.bP (af (ps.map (Pl.ev B (nI f)))))=S1 at fq fa sub⊢
   try ext
   cases ok with
   |sign hs' _=>
    rw[if_pos (by decide)]
    try rw[m8 fq]
    rw[qe]at h;rw[pH,ay];simp only[j5]at h;exact⟨m7 (by decide),m7 (by lia),_,sub,h⟩
   | @turn k _ _ _ t e hl b0 b1 _=>
    have ek:nC (B.map mK) (k:Int)=aa (.bW [.str t.1,j5 t.2.1,j5 t.2.2]):=by
     rw[sf,aV,e];rfl
    have hdiv:sB b' f:=by rcases hf with rfl |rfl |rfl |rfl<;>exact⟨by decide,by decide⟩
    have ht:t∈B:=aJ e;rw[pZ e]at h;rw[if_neg (by lia)];refine⟨hdiv,by decide,?_⟩
    simp only[m8 fa,ek];by_cases e1:b' / f % 2=1
    ·rw[e1];have:nI f b'=1:=by unfold nI;rw[if_pos e1]
     rw[this]at h;simp only[rb,j5]at h
     try ext
     try rw[m8 fq]
     rw[pH,ay];exact⟨m7 (by decide),m7 (by lia),_,sub,h⟩
    ·have e2:(b' / f % 2 == 1)=false:=by simpa using e1
     rw[e2];have:nI f b'=0:=by unfold nI;rw[if_neg e1]
     rw[this]at h;simp only[rb]at h;ext;rw[show nC [W.str t.1,j5 t.2.1,j5 t.2.2] 1=aa (j5 t.2.1) from rfl];dsimp only;have hLd:=(b.lf t ht).dp;have hLw:=(b.lf t ht).wt;have hLn:=(b.lf t ht).nb;exact Bl 4 hLd (by lia) fq (by rw[ay,hl];exact(b.lf t ht).br) (by lia) ⟨_,sub,h⟩
def OR (h:ov x):x.length≤1000:=by rw[wq];have:=h.2.1;lia
def UC (h:p8 x):x.length≤1000:=by rw[wq];have:=(XV h).2;lia
def oh (n:Int) (t:Tn):Tr:=if n=1 then t.2.1 else t.2.2
structure uM (g:Tn→Tr) (B:List Tn):Prop where
  br:∀t∈B,(g t).br t.2.1.nb
  dp:∀t∈B,(g t).depth≤4
  wt:∀t∈B,(g t).aq≤10
mutual
def Tr.ar (B:List Tn):Tr→Prop
 | .bl _=>False
 | .nd s ts=>(∀t,m9 B s=aa t→ts.length=t.2.1.nb)∧rL B ts
def rL (B:List Tn):List Tr→Prop
 | []=>True
 |t::ts=>t.ar B∧rL B ts
end
theorem oA:∀{ts:List Tr},rL B ts↔ ∀t∈ts,t.ar B
 | []=>by simp [rL]
 |t::ts=>by simp [rL,oA (ts:=ts)]
mutual
theorem GF:∀t:Tr,t.way B=true→t.ar B
 | .bl n,h=>by simp [Tr.way]at h
 | .nd s ts,h=>by
  simp only[Tr.way,bT]at h;simp only[Tr.ar];refine⟨λt ht=>?_,Ll ts h.2⟩;have:=h.1;rw[tj,ht]at this;simpa using this
theorem Ll:∀ts:List Tr,tH B ts=true→rL B ts
 | [],h=>by simp [rL]
 |t::ts,h=>by
  simp only[tH,bT]at h;simp only[rL];exact⟨GF t h.1,Ll ts h.2⟩
end
section
variable {n:Int}
def Kn (t:Tn) (h:n=1∨n=2):nC [W.str t.1,j5 t.2.1,j5 t.2.2] n=aa (j5 (oh n t)):=by
 rcases h with rfl |rfl<;>rfl
def F1{t:Tr}(h1:t.aq≤400) (h2:t.depth≤40):t.bo=true:=by
 unfold Tr.bo;rw[decide_eq_true h1,decide_eq_true h2];rfl
end
def CH (r:Nat):WS:=(mz (mr (nw (o9 2 [0] (tf (jn 5) (jn 6)) (pB (nQ (mx 0) (nQ (mx 1) o6))) px (Ei r (tO r)))) (mx 7))
  (mz (nD (nA (mq (pq false) (jn 4) (wC .ca))) (mS (mq om (m5 (jM (mq mE (jn 1) (wC (.int 0))) ae)) (wB rF (jM (jn 7) ae)))) nB)
  (mS (mG (u6 r) (jM (mq mE (jn 4) (wC (.int 2))) (jM (jn 7) ae))))))
def uu (r:Nat) (T:WS):WS:=(mz (nD (rG (nA (mq (pq false) (jn 3) (wC .ca))) (nA (mq (pq true) (jn 4) (wC .ca)))) (mr (mG (tU r) (jM (mq mE (jn 4) (wC (.int 1))) (jM (jn 1) ae))) (mx 5)) nB)
  (mz (nD (rG (nA (mq (pq true) (jn 3) (wC .ca))) (nA (mq (pq false) (jn 4) (wC .ca)))) (mr (mG (tU r) (jM (mq mE (jn 3) (wC (.int 1))) (jM (jn 2) ae))) (mx 6)) nB)
  T))
theorem TV:tO (r+1)=nz 8 3 (mz (mr (mG (tP r) (jM (jn 0) (jM (mq mE (jn 1) (wC (.int 0))) ae))) (mx 3))
  (mz (mr (mG (tP r) (jM (jn 0) (jM (mq mE (jn 2) (wC (.int 0))) ae))) (mx 4))
  (mz (mr (oD (jn 1) (ou (wC (.int 1))) oz) (mx 5))
  (mz (mr (oD (jn 2) (ou (wC (.int 1))) oz) (mx 6))
  (uu r (CH r)))))):=rfl
mutual
theorem wT{P:ah→Prop}:∀(l t:Tr) (ys:List Tr),l.mt t=aa ys→t.hd P→hds P ys∧mJ ys≤t.aq
 | .bl _,t,ys,h,q=>by
  simp only[Tr.mt,bH]at h;subst h;simp only[hds,mJ];exact⟨⟨q,trivial⟩,by lia⟩
 | .nd s ls, .nd z us,ys,h,q=>by
  simp only[Tr.mt]at h;simp only[Tr.hd]at q;split at h
  ·have:=GO ls us ys h q.2;simp only[Tr.aq];exact⟨this.1,by lia⟩
  ·cases h
 | .nd _ _, .bl _,ys,h,q=>by simp [Tr.mt]at h
theorem GO{P:ah→Prop}:∀(ls us ys:List Tr),nM ls us=aa ys→hds P us→hds P ys∧mJ ys≤mJ us
 | [],us,ys,h,q=>by simp only[nM,bH]at h;subst h;simp [hds,mJ]
 |l::ls,[],ys,h,q=>by simp only[nM,bH]at h;subst h;simp [hds,mJ]
 |l::ls,u::us,ys,h,q=>by
  simp only[nM]at h;simp only[hds]at q;split at h
  ·cases h
  ·rename_i xs ex;split at h
   ·cases h
   ·rename_i zs ez;simp only[bH]at h;subst h;have h1:=wT l u xs ex q.1;have h2:=GO ls us zs ez q.2;rw[A2,mJ];exact⟨MM h1.1 h2.1,by lia⟩
end
mutual
theorem uF{P:ah→Prop}:∀t:Tr,t.hd P→t.br m
 | .bl n,h=>by simp [Tr.hd]at h
 | .nd s ts,h=>by
  simp only[Tr.hd]at h;simp only[Tr.br];exact M6 ts h.2
theorem M6{P:ah→Prop}:∀ts:List Tr,hds P ts→m4 m ts
 | [],h=>by simp [m4]
 |t::ts,h=>by
  simp only[hds]at h;simp only[m4];exact⟨uF t h.1,M6 ts h.2⟩
end
theorem nW.triples:∀{as bs cs:List Tr},nW B n as bs cs→ ∃zs:List (Tr×Tr×Tr),as=zs.map (λz=>z.1)∧bs=zs.map (λz=>z.2.1)∧cs=zs.map (λz=>z.2.2)∧ ∀z∈zs,Mv B n z.1 z.2.1 z.2.2
 |_,_,_, .nil=>⟨[],rfl,rfl,rfl,λ_ h=>nomatch h⟩
 |_,_,_, .cons (a:=a) (b:=b) (c:=c) h1 h2=>by
  obtain⟨zs,e1,e2,e3,h⟩:=nW.triples h2;exact⟨(a,b,c)::zs,by rw[e1];rfl,by rw[e2];rfl,by rw[e3];rfl,λz hz=>(az.mp hz).elim (λe=>by rw[e];exact h1) (h z)⟩
theorem NJ:∀zs:List (Tr×Tr×Tr),m3 (af (zs.map λz=>z.1)) (af (zs.map λz=>z.2.1))=zs.map λz=>W.bW [j5 z.1,j5 z.2.1]
 | []=>by simp [af,m3]
 |z::zs=>by simp [af,m3,NJ zs]
def DG (f:Option Tn) (s:ah) (cs:List Tr):Tr:=match f with
 |none=> .nd s cs
 |some t=>t.2.2.aD cs
def Af (S:lr) (v:W) (ws:List W):Prop:=v= .bW ws∨ ∃q,v= .ref q∧S q=aa (.bP ws)
def Gj{Q:List W→(lr→Prop)→Prop}(h:Af S v ws) (hq:∀G:lr→Prop,G S→(∀S',Sub S S'→G S')→Q ws G):uv v S Q:=by
 obtain rfl |⟨q,rfl,e⟩:=h
 ·rw[Jh];exact hq _ trivial λ_ _=>trivial
 ·rw[B9,m8 e];exact hq _ e λS' sb=>sb _ _ e
def WM (hx:x= .nd s ts) (ha:S a=aa (.bP (B.map mK))) (h1:Af S va (af as)) (h2:Af S vb (af bs)) (M:nW B n as bs cs) (hl:as.length≤1000)
  (hR:∀t,f=aa t→t.2.2.depth≤4∧t.2.2.aq≤100∧t.2.2.br cs.length) (hr:5≤r)
  (one:∀{a' b' c':Tr}{Q:WK}{E:ah→lr→Prop},a'∈as→b'∈bs→Mv B n a' b' c'→Q (j5 c') S→tO r [.ref a,j5 a',j5 b'] S Q E) 
  (hQ:∀S',Sub S S'→D.rt (j5 (DG f s cs)) S') :
  CH r E D [aa (.ref a),aa (j5 x),aa (j5 y),aa vf,aa (oM f),aa va,aa vb,x7] S:=by
 obtain⟨zs,rfl,rfl,rfl,hz⟩:=M.triples;unfold CH;ext;refine Gj h1 λG1 g1 k1=>Gj h2 λG2 g2 k2=>?_;rw[NJ];rw[ay]at hl;refine qf (λσ=>∃x y,σ=[x,y,aa (.ref a)]) (λz=>W.bW [j5 z.1,j5 z.2.1]) (λz=>j5 z.2.2) ?_ zs [] _ ⟨none,none,rfl⟩ (by simp;lia) (λz hz' σ R hI hR=>?_) ?_
 ·exact⟨g1,g2⟩
 ·obtain⟨u,v,rfl⟩:=hI;simp only[Ei];ext;refine one (a':=z.1) (b':=z.2.1) (c':=z.2.2) (aT.mpr ⟨z,hz',rfl⟩) (aT.mpr ⟨z,hz',rfl⟩) (hz z hz') ?_;exact hR _ _ ⟨_,_,rfl⟩ .refl
 ·rw[aX];intro q hq;have eu:(zs.map λz=>j5 z.2.2)=af (zs.map λz=>z.2.2):=by rw[o5,bu];rfl
  rw[eu];have fq:bR S q (Ob.bP (af (zs.map λz=>z.2.2))) q=aa (.bP (af (zs.map λz=>z.2.2))):=mR;have sub:Sub S (bR S q (Ob.bP (af (zs.map λz=>z.2.2)))):= .bR .refl hq;generalize bR S q (Ob.bP (af (zs.map λz=>z.2.2)))=S1 at fq sub⊢;obtain⟨r,rfl⟩:∃r',r=r'+1:=⟨r - 1,by lia⟩
  cases f with
  |none=>
   subst hx;simp only[oM,j5,DG]at hQ⊢
   try ext
   try rw[m8 fq]
   rw[pH,ay];exact⟨m7 (by decide),m7 (by lia),hQ _ sub⟩
  |some t=>
   have ee:oM (aa t)= .bW [.str t.1,j5 t.2.1,j5 t.2.2]:=rfl;rw[ee]
   try ext
   rw[show nC [W.str t.1,j5 t.2.1,j5 t.2.2] 2=aa (j5 t.2.2) from rfl];dsimp only;obtain⟨g1,g2,g3⟩:=hR t rfl;exact FX 4 g1 (by lia) fq (by rw[ay];rw[ay]at g3;exact g3) (by lia) (hQ _ sub)
theorem Mv.nd:Mv B n x y z→ ∃s ts z' us,x= .nd s ts∧y= .nd z' us
 | .nn _ _ _=>⟨_,_,_,_,rfl,rfl⟩
 | .ns _ _ _ _ _=>⟨_,_,_,_,rfl,rfl⟩
 | .sn _ _ _ _=>⟨_,_,_,_,rfl,rfl⟩
 | .ss _ _ _ _=>⟨_,_,_,_,rfl,rfl⟩
def QL (h:T E D [x0,x1,x2,aa (oM none),aa (oM none),x5,x6,x7] S):uu r T E D [x0,x1,x2,aa (oM none),aa (oM none),x5,x6,x7] S:=by
 rw[show oM none=W.ca from rfl]at h⊢;unfold uu;ext;exact h
def QP (h:T E D [x0,x1,x2,aa (oM (aa t')),aa (oM (aa t)),x5,x6,x7] S):uu r T E D [x0,x1,x2,aa (oM (aa t')),aa (oM (aa t)),x5,x6,x7] S:=by
 have ee:∀t:Tn,oM (aa t)= .bW [.str t.1,j5 t.2.1,j5 t.2.2]:=λ_=>rfl;rw[ee,ee]at h⊢;unfold uu;ext;exact h
def T4 (e:t.2.1.mt x=aa ms) (hr:t.2.1.depth<r) (ft:x.br 0) (hw:t.2.1.aq≤90000) (h:∀q,S q=none→T E D [x0,aa (j5 x),x2,aa (oM none),aa (oM (aa t)),aa (.ref q),x6,x7] (bR S q (.bP (af ms)))):uu (r+1) T E D [x0,aa (j5 x),x2,aa (oM none),aa (oM (aa t)),x5,x6,x7] S:=by
 have ee:∀t:Tn,oM (aa t)= .bW [.str t.1,j5 t.2.1,j5 t.2.2]:=λ_=>rfl;have a1:∀t:Tn,nC [W.str t.1,j5 t.2.1,j5 t.2.2] 1=aa (j5 t.2.1):=λ_=>rfl;rw[ee,show oM none=W.ca from rfl]at *;unfold uu;ext;rw[a1];dsimp only;refine BC hr ft hw (λys hys q hq=>?_) λh0=>by rw[e]at h0;cases h0
 rw[e]at hys;cases hys
 try ext
 exact h q hq
def Qv (e:t.2.1.mt y=aa ms) (hr:t.2.1.depth<r) (ft:y.br 0) (hw:t.2.1.aq≤90000) (h:∀q,S q=none→T E D [x0,x1,aa (j5 y),aa (oM (aa t)),aa (oM none),x5,aa (.ref q),x7] (bR S q (.bP (af ms)))):uu (r+1) T E D [x0,x1,aa (j5 y),aa (oM (aa t)),aa (oM none),x5,x6,x7] S:=by
 have ee:∀t:Tn,oM (aa t)= .bW [.str t.1,j5 t.2.1,j5 t.2.2]:=λ_=>rfl;have a1:∀t:Tn,nC [W.str t.1,j5 t.2.1,j5 t.2.2] 1=aa (j5 t.2.1):=λ_=>rfl;rw[ee,show oM none=W.ca from rfl]at *;unfold uu;ext;rw[a1];dsimp only;refine BC hr ft hw (λys hys q hq=>?_) λh0=>by rw[e]at h0;cases h0
 rw[e]at hys;cases hys
 try ext
 exact h q hq
theorem JP (hB:∀t∈B,t.2.1.depth≤4∧t.2.1.aq≤100∧t.2.2.depth≤4∧t.2.2.aq≤100∧t.2.2.br t.2.1.nb):∀(n:Nat) {S:lr}{x y z:Tr}{r:Nat}{Q:WK}{E:ah→lr→Prop},S a=aa (.bP (B.map mK))→Mv B n x y z→n+12≤r→x.hd (λ_=>True)→y.hd (λ_=>True)→x.aq≤1000→y.aq≤1000→Q (j5 z) S→tO (r+1) [.ref a,j5 x,j5 y] S Q E
 |0,S,x,y,z,r,Q,E,ha,M,hr,hx,hy,wx,wy,h=>by cases M
 |n+1,S,x,y,z,r,Q,E,ha,M,hr,hx,hy,wx,wy,h=>by
  obtain⟨r,rfl⟩:∃r',r=r'+1:=⟨r - 1,by lia⟩
  have one:∀{as bs:List Tr},hds (λ_=>True) as→hds (λ_=>True) bs→mJ as≤1000→mJ bs≤1000→ ∀(S1:lr),Sub S S1→ ∀{a' b' c':Tr}{Q:WK}{E:ah→lr→Prop},a'∈as→b'∈bs→Mv B n a' b' c'→Q (j5 c') S1→tO (r+1) [.ref a,j5 a',j5 b'] S1 Q E:=λ{as bs} h1 h2 h3 h4 S1 sb {a' b' c' Q E} m1 m2 M q=>
   JP hB n (sb _ _ ha) M (by lia) (mW.mp h1 _ m1) (mW.mp h2 _ m2) (by have:=pe m1;lia) (by have:=pe m2;lia) q
  have start:∀{s z:ah}{ts us:List Tr}{E':WX}{D:mY}{S1:lr}{va vb vf:W}{f:Option Tn}{as bs cs:List Tr},S1 a=aa (.bP (B.map mK))→Sub S S1→Af S1 va (af as)→Af S1 vb (af bs)→nW B n as bs cs→hds (λ_=>True) as→hds (λ_=>True) bs→mJ as≤1000→mJ bs≤1000→(∀t,f=aa t→t∈B∧cs.length=t.2.1.nb)→(∀S',Sub S S'→D.rt (j5 (DG f s cs)) S')→
    CH (r+1) E' D [aa (.ref a),aa (W.bW (W.str s::af ts)),aa (W.bW (W.str z::af us)),aa vf,aa (oM f),aa va,aa vb,none] S1:=λ{s z ts us E' D S1 va vb vf f as bs cs} iU sb q1 q2 M h1 h2 h3 h4 hf hQ=>by
   have hl:=qH as;have:=WM (x:= .nd s ts) (y:= .nd z us) (vf:=vf) (f:=f) (x7:=none) (E:=E') (D:=D) rfl iU q1 q2 M (by lia) (λt ht=>by
    obtain⟨m,e⟩:=hf t ht;obtain⟨g1,g2,g3,g4,g5⟩:=hB t m;exact⟨g3,g4,by rw[e];exact g5⟩) (by lia) (one h1 h2 h3 h4 S1 sb) λS' sb'=>hQ S' (sb.trans sb')
   simpa only[j5]using this
  obtain⟨s,ts,z',us,rfl,rfl⟩:=M.nd;have ex:j5 (.nd s ts)= .bW (.str s::af ts):=by simp only[j5]
  have ey:j5 (.nd z' us)= .bW (.str z'::af us):=by simp only[j5]
  have hx':=hx;have hy':=hy;have wx':=wx;have wy':=wy;simp only[Tr.hd]at hx' hy';simp only[Tr.aq]at wx' wy';rw[TV,ex,ey];ext;refine wK ha (wK ha ?_);cases M with
  | @nn _ _ _ _ _ cs e1 e2 M=>
   rw[e1,e2];exact QL (start (f:=none) ha .refl (.inl rfl) (.inl rfl) M hx'.2 hy'.2 (by lia) (by lia) (λ_ h=>nomatch h) λS' sb=>⟨_,sb,h⟩)
  | @ns _ _ _ _ _ cs ms t e1 e2 e3 e4 M=>
   have ht:t∈B:=bX e2;have hm:=wT t.2.1 _ _ e3 hx;have ft:=uF (m:=0) _ hx;obtain⟨g1,g2,g3,g4,g5⟩:=hB t ht;rw[e1,e2,←ex];refine T4 e3 (by lia) ft (by lia) λq hq=>?_;rw[ex];exact start (f:=aa t) (keep ha hq) (.bR .refl hq) (.inr ⟨q,rfl,mR⟩) (.inl rfl) M hm.1 hy'.2 (by lia) (by lia) (λ_ h=>by cases h;exact⟨ht,e4⟩) λS' sb=>⟨_,sb,h⟩
  | @sn _ _ _ _ _ cs ms t e1 e2 e3 M=>
   have ht:t∈B:=bX e1;have hm:=wT t.2.1 _ _ e3 hy;have ft:=uF (m:=0) _ hy;obtain⟨g1,g2,g3,g4,g5⟩:=hB t ht;rw[e1,e2,←ey];refine Qv e3 (by lia) ft (by lia) λq hq=>?_;rw[ey];exact start (f:=none) (keep ha hq) (.bR .refl hq) (.inl rfl) (.inr ⟨q,rfl,mR⟩) M hx'.2 hm.1 (by lia) (by lia) (λ_ h=>nomatch h) λS' sb=>⟨_,sb,h⟩
  | @ss _ _ _ _ _ cs t t' e1 e2 e3 M=>
   have ht:t∈B:=bX e2;rw[e1,e2];exact QP (start (f:=aa t) ha .refl (.inl rfl) (.inl rfl) M hx'.2 hy'.2 (by lia) (by lia) (λ_ h=>by cases h;exact⟨ht,e3⟩) λS' sb=>⟨_,sb,h⟩)
def P1:oh 1=λt=>t.2.1:=by funext t;exact if_pos rfl
def AN:oh 2=λt=>t.2.2:=by funext t;exact if_neg (by decide)
section
variable {ws hs:List ah}{B:List Tn}
def ox.s2 (b:ox ws hs B):uM (oh 2) B:=by
 rw[AN];refine⟨λt ht=>(b.ri t ht).br,λt ht=>?_,λt ht=>?_⟩
 ·have:=(b.ri t ht).dp;show t.2.2.depth≤4;lia
 ·have:=(b.ri t ht).wt;show t.2.2.aq≤10;lia
mutual
theorem X9:∀(L t:Tr) (ys:List Tr),L.mt t=aa ys→ ∀y∈ys,y.depth≤t.depth
 | .bl n,t,ys,e,y,hy=>by
  rw[Tr.mt]at e;cases e;rw[bh]at hy;rw[hy];exact aA _
 | .nd s ls, .bl n,ys,e,y,hy=>by rw[Tr.mt]at e;cases e
 | .nd s ls, .nd z us,ys,e,y,hy=>by
  rw[Tr.mt]at e;split at e
  ·have:=A3 ls us ys e y hy;rw[Tr.depth];lia
  ·cases e
theorem A3:∀(ls us ys:List Tr),nM ls us=aa ys→ ∀y∈ys,y.depth≤m_ us
 | [],us,ys,e,y,hy=>by rw[nM]at e;cases e;cases hy
 |l::ls,[],ys,e,y,hy=>by rw[nM]at e;cases e;cases hy
 |l::ls,u::us,ys,e,y,hy=>by
  rw[nM]at e;cases q1:l.mt u with
  |none=>rw[q1]at e;cases e
  |some xs=>
   rw[q1]at e;cases q2:nM ls us with
   |none=>rw[q2]at e;cases e
   |some zs=>
    rw[q2]at e;cases e;rw[m_];obtain hy |hy:=bq.mp hy
    ·have:=X9 l u xs q1 y hy;lia
    ·have:=A3 ls us zs q2 y hy;lia
end
def W6 (c d:Int→Nat):Prop:=∀x:Int,0≤x→x<8→(c x≤1∧d x≤1)∨(c x=2∧d x=2)
end
def wU (f x:Int):nI f x≤1:=by unfold nI;split<;>lia
def MJ (B:List Tn) (s:ah) (g:Tn→W):B.findSome? (λt=>if t.1 == s then aa (g t) else none)=(m9 B s).map g:=by
 unfold m9
 induction B with
 |nil=>rfl
 |cons t B ih=>
  rw[eF,cb];cases e:t.1 == s with
  |true=>rfl
  |false=>simpa using ih
theorem Hf (hnd:(B.map λt=>t.1).Nodup) (ha:S a=aa (.bP (B.map mK))) (hn:n=1∨n=2) (hg:uM (oh n) B):∀(d:Nat) {t:Tr}{r:Nat}{Q:WK}{E:ah→lr→Prop},t.depth≤d→d+10≤r→t.ar B→t.aq≤1000→Q (j5 (t.mk B (oh n))) S→zF (r+1) [.ref a,j5 t, .int n] S Q E
 |0,t,r,Q,E,hd,hr,hh,hw,h=>by have:=qB t;lia
 |d+1, .bl k,r,Q,E,hd,hr,hh,hw,h=>by simp [Tr.ar]at hh
 |d+1, .nd s ts,r,Q,E,hd,hr,hh,hw,h=>by
  simp only[Tr.depth]at hd;simp only[Tr.aq]at hw;simp only[Tr.ar]at hh;have hk:=qH ts;obtain⟨r,rfl⟩:∃r',r=r'+1:=⟨r - 1,by lia⟩
  rw[zF];simp only[j5];walk_at "wp";rw[o5];refine qf (λσ=>∃x,σ=[x,aa (.ref a),aa (.int n)]) j5 (λt=>j5 (t.mk B (oh n))) trivial ts [] _ ⟨none,rfl⟩ (by simp;lia) (λx hx σ R hI hR=>?_) ?_
  ·obtain⟨y,rfl⟩:=hI;have hdx:=pY hx;have hwx:=pe hx;simp only[Ld];walk_at "wp";exact Hf hnd ha hn hg d (by lia) (by lia) (oA.mp hh.2 x hx) (by lia) (hR _ _ ⟨_,rfl⟩ .refl)
  ·rw[aX];intro q hq;have eu:(ts.map λt=>j5 (t.mk B (oh n)))=af (ts.map (Tr.mk B (oh n))):=by rw[o5,bu];rfl
   rw[eu,←o5];have fq:bR S q (Ob.bP (af (ts.map (Tr.mk B (oh n))))) q=aa (.bP (af (ts.map (Tr.mk B (oh n))))):=mR;have fa:=keep (x:=Ob.bP (af (ts.map (Tr.mk B (oh n))))) ha hq;have sub:Sub S (bR S q (Ob.bP (af (ts.map (Tr.mk B (oh n)))))):= .bR .refl hq;generalize bR S q (Ob.bP (af (ts.map (Tr.mk B (oh n)))))=S1 at fq fa sub⊢
   try walk_at "wp"
   rw[m8 fa];refine vv (S:=S1) ?_ (λσ=>∃x,σ=[aa (.ref a),aa (.bW (.str s::af ts)),aa (.int n),aa (.ref q),x]) mK (λt=>if t.1 == s then aa (j5 ((oh n t).aD (ts.map (Tr.mk B (oh n))))) else none) B _ ⟨_,rfl⟩ (λt ht σ N hI hno hret=>?_) (λe σ hI=>?_) λw e S' sb=>?_
   ·exact fa
   ·obtain⟨x,rfl⟩:=hI;simp only[Hy];have ee:mK t= .bW [.str t.1,j5 t.2.1,j5 t.2.2]:=rfl;rw[ee];walk_at "wp";cases e:t.1 == s with
    |true=>
     rw[e]at hret
     try walk_at "wp"
     rw[Kn t hn];dsimp only;have et:t.1=s:=by simpa using e
     have hgw:=hg.wt t ht;refine Bl 4 (hg.dp t ht) (by lia) fq ?_ (by lia) (hret _ rfl _ .refl);rw[ay,hh.1 t (by rw[←et];exact qZ hnd ht)];exact hg.br t ht
    |false=>
     rw[e]at hno;exact hno rfl _ _ ⟨_,rfl⟩ .refl
   ·obtain⟨x,rfl⟩:=hI;rw[MJ]at e;have e0:m9 B s=none:=by
     cases z:m9 B s with
     |none=>rfl
     |some t=>rw[z]at e;cases e
    rw[Ao e0]at h
    try walk_at "wp"
    rw[NH]
    try rw[m8 fq]
    try walk_at "wp"
    simp only[j5]at h;refine⟨m7 ?_,_,sub,h⟩;rw[pH,ay];lia
   ·rw[MJ]at e;cases z:m9 B s with
    |none=>rw[z]at e;cases e
    |some t=>
     rw[z]at e;rw[A1 z]at h;cases e;exact⟨_,sub.trans sb,h⟩
def sE (B:List Tn) (s:ah) (n:Nat):List (List Int):=match m9 B s with
 |none=>(bx n).map λ(i:Nat)=>[(i:Int)]
 |some t=>t.2.1.bls.map λx=>x.1
mutual
def Tr.us (B:List Tn) (p:List Int):Tr→List (List Int×ah)
 | .bl _=>[]
 | .nd s ts=>(match m9 B s with
  |none=>[]
  |some _=>[(p,s)])++vY B p (sE B s ts.length) ts
def vY (B:List Tn) (p:List Int):List (List Int)→List Tr→List (List Int×ah)
 |q::qs,t::ts=>t.us B (p++q)++vY B p qs ts
 |_,_=>[]
end
def Qk (B:List Tn) (k:Int) (n:Nat):List (List Int):=if k<0 then(bx n).map λ(i:Nat)=>[(i:Int)] else(B.getD k.toNat (⟨#[]⟩, .bl 0, .bl 0)).2.1.bls.map λx=>x.1
mutual
def Pl.ns (B:List Tn) (p:List Int):Pl→List (List Int×Int×ah)
 | .nd k b h ps=>(if k<0 then [] else [(p,b,(B.getD k.toNat (⟨#[]⟩, .bl 0, .bl 0)).1)])++Ik B p (Qk B k ps.length) ps
def Ik (B:List Tn) (p:List Int):List (List Int)→List Pl→List (List Int×Int×ah)
 |q::qs,t::ts=>t.ns B (p++q)++Ik B p qs ts
 |_,_=>[]
end
def Z' (h:m9 B s=none):(Tr.nd s ts).us B p=vY B p ((bx ts.length).map λ(i:Nat)=>[(i:Int)]) ts:=by
 rw[Tr.us,sE,h];rfl
def Xk (h:m9 B s=aa t):(Tr.nd s ts).us B p=(p,s)::vY B p (t.2.1.bls.map λx=>x.1) ts:=by
 rw[Tr.us,sE,h];rfl
def M2 (c:Int→Nat) (xs:List (List Int×Int×ah)):List (List Int×ah):=(xs.filter λx=>c x.2.1 == 1).map λx=>(x.1,x.2.2)
def o7 (B:List Tn) (t:Tr):Option Tn:=B.find? λu=>(u.2.1.mt t).isSome
mutual
def Tr.op (B:List Tn) (p:List Int):Tr→List (List Int×ah)
 | .bl _=>[]
 | .nd s ts=>(match o7 B (.nd s ts) with
  |none=>[]
  |some t=>[(p,t.1)])++pA B p 0 ts
def pA (B:List Tn) (p:List Int) (i:Nat):List Tr→List (List Int×ah)
 | []=>[]
 |t::ts=>t.op B (p++[(i:Int)])++pA B p (i+1) ts
end
def vi (hL:L∈bO n h c d):∃ts,L= .nd h ts:=by
 unfold bO at hL;split at hL<;>simp only[az,bp,or_false]at hL
 all_goals first
  | (subst hL;exact⟨_,rfl⟩)
  | (rcases hL with rfl |rfl<;>exact⟨_,rfl⟩)
def yw (h:((Tr.nd s ls).mt (.nd z us)).isSome=true):s=z:=by
 simp only[Tr.mt]at h;split at h
 ·rename_i q;simp only[bT,beq_iff_eq]at q;exact q.1
 ·cases h
def Kc (hL:L∈bO n h c d) (hM:M∈bO n h c d) (h1:(L.mt x).isSome=true) (h2:(M.mt x).isSome=true):L=M:=by
  cases x with
  |bl k=>
    obtain⟨ts,rfl⟩:=vi hL;simp [Tr.mt]at h1
  |nd s ts=>
    unfold bO at hL hM;split at hL<;>simp only[az,bp,or_false]at hL hM
    all_goals first
      | (rw[hL,hM])
      | (rcases hL with rfl |rfl<;>rcases hM with rfl |rfl<;>first
          |rfl
          | (exfalso
             obtain _ |⟨u,us⟩:=ts
             · simp [Tr.mt]at h1
             · cases u with
               |bl k=>simp [Tr.mt,nM]at h1 h2
               |nd z vs=>
                 obtain _ |⟨v,vs⟩:=vs
                 · simp [Tr.mt,nM]at h1 h2
                 · obtain _ |⟨v',vs⟩:=vs
                   · cases v with
                     |bl k=>simp [Tr.mt,nM]at h1 h2
                     |nd z' xs=>
                       obtain _ |⟨x',xs⟩:=xs
                       · simp [Tr.mt,nM]at h1 h2
                       · simp [Tr.mt,nM]at h1 h2
                   · simp [Tr.mt,nM]at h1 h2))
def mF.one (b:mF w0 w1 w2 w3 w4 w5 tt B) (G:nT w0 w1 w2 w3 w4 w5) (hu:u∈B) (hv:v∈B) (h1:(u.2.1.mt x).isSome=true) (h2:(v.2.1.mt x).isSome=true):u.2.1=v.2.1:=by
 obtain⟨n,m,e⟩:=b.lf;have mu:u.2.1∈bO n w0 w2 w3++bO m w1 w2 w3:=by rw[←e];exact aT.mpr ⟨u,hu,rfl⟩
 have mv:v.2.1∈bO n w0 w2 w3++bO m w1 w2 w3:=by rw[←e];exact aT.mpr ⟨v,hv,rfl⟩
 have key:∀{L M:Tr},L∈bO n w0 w2 w3→M∈bO m w1 w2 w3→(L.mt x).isSome=true→(M.mt x).isSome=true→False:=λ{L M} hL hM k1 k2=>by
  obtain⟨ts,rfl⟩:=vi hL;obtain⟨us,rfl⟩:=vi hM;cases x with
  |bl k=>simp [Tr.mt]at k1
  |nd s vs=>exact G.n0 w1 (by simp) ((yw k1).trans (yw k2).symm)
 rcases bq.mp mu with z |z<;>obtain y |y:=bq.mp mv
 ·exact Kc z y h1 h2
 ·exact(key z y h1 h2).elim
 ·exact(key y z h2 h1).elim
 ·exact Kc z y h1 h2
def OE (n:Nat) (h c d:ah):(bO n h c d).Nodup:=by
 unfold bO;split<;>simp
def mF.inj (b:mF w0 w1 w2 w3 w4 w5 tt B) (G:nT w0 w1 w2 w3 w4 w5):(B.map λt=>t.2.1).Nodup:=by
 obtain⟨n,m,e⟩:=b.lf;rw[e,List.nodup_append];refine⟨OE ..,OE ..,λx hx y hy=>?_⟩;obtain⟨ts,rfl⟩:=vi hx;obtain⟨us,rfl⟩:=vi hy;intro z;cases z;exact G.n0 _ (by simp) rfl
theorem Ci{α β:Type}{f:α→β}:∀{xs:List α}{x y:α},(xs.map f).Nodup→x∈xs→y∈xs→f x=f y→x=y
 |z::xs,x,y,h,hx,hy,e=>by
  rw[aC,eD]at h;obtain h1 |h1:=az.mp hx
  ·obtain h2 |h2:=az.mp hy
   ·rw[h1,h2]
   ·exact(h.1 (aT.mpr ⟨y,h2,by rw[←e,h1]⟩)).elim
  ·obtain h2 |h2:=az.mp hy
   ·exact(h.1 (aT.mpr ⟨x,h1,by rw[e,h2]⟩)).elim
   ·exact Ci h.2 h1 h2 e
def mF.open_some (b:mF w0 w1 w2 w3 w4 w5 tt B) (G:nT w0 w1 w2 w3 w4 w5) (ht:t∈B) (hu:us.length=t.2.1.nb):o7 B (t.2.1.aD us)=aa t:=by
 have hm:=b.mt t ht us hu;unfold o7;cases e:B.find? λu=>(u.2.1.mt (t.2.1.aD us)).isSome with
 |none=>
  rw[gY]at e;have:=e t ht;rw[hm]at this;simp at this
 |some u=>
  have hu':=eT e;have mu:=bX e;have:=b.one G mu ht hu' (by rw[hm];rfl);rw[Ci (b.inj G) mu ht this]
def mF.open_none (b:mF w0 w1 w2 w3 w4 w5 tt B) (h0:w0≠s) (h1:w1≠s):o7 B (.nd s ts)=none:=by
 obtain⟨n,m,e⟩:=b.lf;unfold o7;rw[gY];intro u hu hz;have mu:u.2.1∈bO n w0 w2 w3++bO m w1 w2 w3:=by rw[←e];exact aT.mpr ⟨u,hu,rfl⟩
 rcases bq.mp mu with z |z<;>obtain⟨ls,el⟩:=vi z<;>rw[el]at hz
 ·exact h0 (yw hz)
 ·exact h1 (yw hz)
def ug (B:List Tn) (p:List Int):List (List Int)→List Tr→List (List Int×ah)
 |q::qs,t::ts=>t.op B (p++q)++ug B p qs ts
 |_,_=>[]
def Mx (hL:L∈bO n h c d) (h2:∀xs,o7 B (.nd c xs)=none) (h3:∀xs,o7 B (.nd d xs)=none) (hu:us.length=L.nb) (hk:L= .nd h ks) (p:List Int):pA B p 0 (aF us ks)=ug B p (L.bls.map λx=>x.1) us:=by
 unfold bO at hL;split at hL<;>simp only[az,bp,or_false]at hL
 all_goals first
  | (subst hL;cases hk;rcases us with _ |⟨u,_ |⟨v,_ |⟨x,_ |⟨y,us⟩⟩⟩⟩<;>simp [Tr.nb,nbs,Tr.aD,aF,Tr.op,pA,h2,h3,ug,Tr.bls,Tr.plt,oG,Tr.isBl,eP]at hu⊢ <;>lia)
  | (rcases hL with rfl |rfl<;>cases hk<;>rcases us with _ |⟨u,_ |⟨v,_ |⟨x,_ |⟨y,us⟩⟩⟩⟩<;>simp [Tr.nb,nbs,Tr.aD,aF,Tr.op,pA,h2,h3,ug,Tr.bls,Tr.plt,oG,Tr.isBl,eP]at hu⊢ <;>lia)
theorem Kj:∀(ts:List Tr) (i:Nat),pA B p i ts=ug B p ((f9 i ts.length).map λ(i:Nat)=>[(i:Int)]) ts
 | [],i=>by simp [pA,ug]
 |t::ts,i=>by
  rw[pA,Kj ts (i+1),aU,gA,aC,ug]
mutual
inductive Wi (B:List Tn) (wn:List (List Int)):Nat→List Int→Tr→Tr→Prop
 |no {n:Nat}{p:List Int}{s:ah}{ts us:List Tr}:p∉wn→m9 B s=none→pC B wn n p ((bx ts.length).map λ(i:Nat)=>[(i:Int)]) ts us→Wi B wn (n+1) p (.nd s ts) (.nd s us)
 |yes {n:Nat}{p:List Int}{s:ah}{ts us ms:List Tr}{t:Tn}:p∈wn→o7 B (.nd s ts)=aa t→t.2.1.mt (.nd s ts)=aa ms→m9 B t.1=aa t→pC B wn n p (t.2.1.bls.map λx=>x.1) ms us→Wi B wn (n+1) p (.nd s ts) (.nd t.1 us)
inductive pC (B:List Tn) (wn:List (List Int)):Nat→List Int→List (List Int)→List Tr→List Tr→Prop
 |nil {n:Nat}{p:List Int}:pC B wn n p [] [] []
 |cons {n:Nat}{p q:List Int}{qs:List (List Int)}{t u:Tr}{ts us:List Tr}:Wi B wn n (p++q) t u→pC B wn n p qs ts us→pC B wn n p (q::qs) (t::ts) (u::us)
end
mutual
theorem Wi.mono:∀{n m:Nat}{p:List Int}{t u:Tr},n≤m→Wi B wn n p t u→Wi B wn m p t u
 |_+1,m,_,_,_,h, .no h1 h2 h3=>by
  obtain⟨m,rfl⟩:∃m',m=m'+1:=⟨m - 1,by lia⟩
  exact .no h1 h2 (pC.mono (by lia) h3)
 |_+1,m,_,_,_,h, .yes h1 h2 h3 h4 h5=>by
  obtain⟨m,rfl⟩:∃m',m=m'+1:=⟨m - 1,by lia⟩
  exact .yes h1 h2 h3 h4 (pC.mono (by lia) h5)
theorem pC.mono:∀{n m:Nat}{p:List Int}{qs:List (List Int)}{ts us:List Tr},n≤m→pC B wn n p qs ts us→pC B wn m p qs ts us
 |_,_,_,_,_,_,_, .nil=> .nil
 |_,_,_,_,_,_,h, .cons h1 h2=> .cons (Wi.mono h h1) (pC.mono h h2)
end
def Z2 (c:Int→Nat) (xs:List (List Int×Int×ah)):List (List Int):=(M2 c xs).map λx=>x.1
def Z0 (qs:List (List Int)):Prop:=qs.Pairwise λa b=>¬a <+:b∧ ¬b <+:a
def T_:(Tr.nd h [.bl 0]).bls.map (λx=>x.1)=[[0]]:=by simp [Tr.bls,Tr.plt,oG,Tr.isBl]
def VA:(Tr.nd h [.bl 0, .bl 1]).bls.map (λx=>x.1)=[[0],[1]]:=by simp [Tr.bls,Tr.plt,oG,Tr.isBl]
def Q9:(Tr.nd h [.nd c []]).bls.map (λx=>x.1)=[]:=by simp [Tr.bls,Tr.plt,oG,Tr.isBl]
def V3:(Tr.nd h [.nd d [.bl 0]]).bls.map (λx=>x.1)=[[0,0]]:=by simp [Tr.bls,Tr.plt,oG,Tr.isBl]
def YW:(Tr.nd h [.nd c [], .bl 0]).bls.map (λx=>x.1)=[[1]]:=by simp [Tr.bls,Tr.plt,oG,Tr.isBl]
def SB:(Tr.nd h [.nd d [.bl 0], .bl 1]).bls.map (λx=>x.1)=[[0,0],[1]]:=by simp [Tr.bls,Tr.plt,oG,Tr.isBl]
def Xi:(Tr.nd h [.nd d [.nd d [.bl 0]], .bl 1, .bl 2]).bls.map (λx=>x.1)=[[0,0,0],[1],[2]]:=by simp [Tr.bls,Tr.plt,oG,Tr.isBl]
def W0:(Tr.nd h [.nd d [.nd c []], .bl 0, .bl 1]).bls.map (λx=>x.1)=[[1],[2]]:=by simp [Tr.bls,Tr.plt,oG,Tr.isBl]
def SW:(Tr.nd h []).bls.map (λx=>x.1)=[]:=by simp [Tr.bls,Tr.plt,oG,Tr.isBl]
def encX (x:List Int×ah):W:= .bW [mB x.1, .str x.2]
structure rA (B:List Tn):Prop where
  d:∀t∈B,t.2.1.depth≤4
  w:∀t∈B,t.2.1.aq≤20
def Qo{E:ah→lr→Prop}(L:rA B) (ha:S a=aa (.bP (B.map mK))) (hl:ts.length≤1000) (hr:20≤r) (h:∀q,S q=none→Q (.ref q) (bR S q (.bP ((sE B s ts.length).map mB)))):yC (r+1) [.ref a,j5 (.nd s ts)] S Q E:=by
 obtain⟨r,rfl⟩:∃r',r=r'+1:=⟨r - 1,by lia⟩
 rw[yC];simp only[j5];ext;refine wK ha ?_;unfold sE at h;cases e:m9 B s with
 |none=>
  rw[e]at h;simp only[oM]
  try ext
  rw[pH];have e1:(((ts.length+1:Nat):Int) - 1).toNat=ts.length:=by lia
  rw[e1];refine⟨⟨by lia,by lia⟩,?_⟩
  rw[WU];refine qf (λσ=>∃x,σ=[x]) (λi:Nat=>W.int i) (λi=>mB [(i:Int)]) trivial (bx ts.length) [] _ ⟨none,rfl⟩ (by simp;lia) (λx hx σ R hI hR=>?_) ?_
  ·obtain⟨y,rfl⟩:=hI;simp only[MF];ext;exact⟨m7 (by decide),hR _ _ ⟨_,rfl⟩ .refl⟩
  ·rw[aX];intro q hq;have:=h q hq;simp only[bu]at this;exact⟨_, .refl,this⟩
 |some t=>
  rw[e]at h;have ht:t∈B:=bX e;have ee:oM (aa t)= .bW [.str t.1,j5 t.2.1,j5 t.2.2]:=rfl;rw[ee]
  try ext
  rw[show nC [W.str t.1,j5 t.2.1,j5 t.2.2] 1=aa (j5 t.2.1) from rfl];dsimp only;have h1:=L.d t ht;have h2:=L.w t ht;refine Et (by lia) (by lia) λq hq=>?_;have:=h q hq;simp only[bu]at this;exact⟨_, .refl,this⟩
def GH (B:List Tn) (x:Tr):B.findSome? (λt=>if(t.2.1.mt x).isSome then aa (mK t) else none)=(o7 B x).map mK:=by
 unfold o7
 induction B with
 |nil=>rfl
 |cons t B ih=>
  rw[eF,cb];cases e:(t.2.1.mt x).isSome with
  |true=>rfl
  |false=>simpa using ih
def IN{E:ah→lr→Prop}(L:rA B) (ha:S a=aa (.bP (B.map mK))) (hf:x.br 0) (hr:20≤r) (h:Q (oM (o7 B x)) S):yM (r+1) [.ref a,j5 x] S Q E:=by
 obtain⟨r,rfl⟩:∃r',r=r'+1:=⟨r - 1,by lia⟩
 rw[yM];ext;rw[m8 ha];refine vv (S:=S) ?_ (λσ=>∃y,σ=[aa (.ref a),aa (j5 x),y]) mK (λt=>if(t.2.1.mt x).isSome then aa (mK t) else none) B _ ⟨_,rfl⟩ (λt ht σ N hI hno hret=>?_) (λe σ hI=>?_) λw e S' sb=>?_
 ·exact ha
 ·obtain⟨y,rfl⟩:=hI;simp only[LH];have ee:mK t= .bW [.str t.1,j5 t.2.1,j5 t.2.2]:=rfl;rw[ee];ext;rw[show nC [W.str t.1,j5 t.2.1,j5 t.2.2] 1=aa (j5 t.2.1) from rfl];dsimp only;have h1:=L.d t ht;have h2:=L.w t ht;refine BC (by lia) hf (by lia) (λys hys q hq=>?_) λh0=>?_
  ·try ext
   rw[hys]at hret;exact hret _ rfl _ (.bR .refl hq)
  ·try ext
   rw[h0]at hno;exact hno rfl _ _ ⟨_,rfl⟩ .refl
 ·obtain⟨y,rfl⟩:=hI;ext;rw[GH]at e;have:o7 B x=none:=by
   cases q:o7 B x with
   |none=>rfl
   |some t=>rw[q]at e;cases e
  rw[this]at h;exact⟨_, .refl,h⟩
 ·rw[GH]at e;cases q:o7 B x with
  |none=>rw[q]at e;cases e
  |some t=>
   rw[q]at e h;cases e;exact⟨_,sb,h⟩
mutual
theorem xM (B:List Tn):∀(t:Tr) (p:List Int),(t.op B p).length≤t.aq
 | .bl n,p=>by simp [Tr.op]
 | .nd s ts,p=>by
  have:=MW B ts p 0;rw[Tr.op,bc,Tr.aq];split<;>simp<;>lia
theorem MW (B:List Tn):∀(ts:List Tr) (p:List Int) (i:Nat),(pA B p i ts).length≤mJ ts
 | [],p,i=>by simp [pA]
 |t::ts,p,i=>by
  have h1:=xM B t (p++[(i:Int)]);have h2:=MW B ts p (i+1);rw[pA,bc,mJ];lia
end
mutual
theorem IJ (L:rA B) (haf:f≠a):∀(t:Tr) {r:Nat}{p:List Int}{xs:List W}{S:lr}{Q:WK}{E:ah→lr→Prop},t.depth+25≤r→S a=aa (.bP (B.map mK))→S f=aa (.bP xs)→xs.length+t.aq≤100000→p.length+t.depth≤1000→t.hd (λ_=>True)→
  Q .ca (bR S f (.bP (xs++(t.op B p).map encX)))→xk (r+1) [.ref a,j5 t,mB p, .ref f] S Q E
 | .bl n,r,p,xs,S,Q,E,hr,ha,hf,hx,hp,hh,h=>by simp [Tr.hd]at hh
 | .nd s ts,r,p,xs,S,Q,E,hr,ha,hf,hx,hp,hh,h=>by
  have ft:=uF (m:=0) _ hh;simp only[Tr.depth]at hr hp;simp only[Tr.aq]at hx;simp only[Tr.hd]at hh;obtain⟨r,rfl⟩:∃r',r=r'+1:=⟨r - 1,by lia⟩
  rw[xk];have ee:j5 (.nd s ts)= .bW (.str s::af ts):=by simp only[j5]
  ext;refine IN L ha ft (by lia) ?_;rw[Tr.op]at h;cases e:o7 B (.nd s ts) with
  |none=>
   rw[e]at h;simp only[aX]at h;simp only[oM];rw[ee]
   try ext
   exact Fi L haf ts (by lia) ha hf (by lia) (by lia) hh.2 λx5 x6=>⟨_, .refl,h⟩
  |some t=>
   rw[e]at h;have et:oM (aa t)= .bW [.str t.1,j5 t.2.1,j5 t.2.2]:=rfl;rw[et,ee]
   try ext
   simp only[m8 hf,true_and];refine⟨m7 (by decide),qE (by lia),?_⟩;refine Fi L haf ts (xs:=xs++[encX (p,t.1)]) (by lia) (by rw[nO (bz haf)];exact ha) mR (by simp;lia) (by lia) hh.2 λx5 x6=>⟨_, .refl,?_⟩;rw[pI];simpa using h
theorem Fi (L:rA B) (haf:f≠a):∀(ts:List Tr) {r:Nat}{p:List Int}{i:Nat}{xs:List W}{S:lr}{E:WX}{D:mY}{t0 x4 x5 x6:Option W},m_ ts+25≤r→S a=aa (.bP (B.map mK))→S f=aa (.bP xs)→xs.length+mJ ts≤100000→p.length+1+m_ ts≤1000→hds (λ_=>True) ts→
  (∀x5 x6,D.nx [aa (.ref a),t0,aa (mB p),aa (.ref f),x4,x5,x6] (bR S f (.bP (xs++(pA B p i ts).map encX))))→
  mO (pB (nQ (mx 5) (nQ (mx 6) o6))) (Fd (r+1) (xk (r+1))) E D (λ_=>True) (pN i (af ts)) [aa (.ref a),t0,aa (mB p),aa (.ref f),x4,x5,x6] S
 | [],r,p,i,xs,S,E,D,t0,x4,x5,x6,hr,ha,hf,hx,hp,hh,h=>by
  simp only[af,pN,mO];have:=h x5 x6;rw[pA,cy,bg,sA hf]at this;exact this
 |t::ts,r,p,i,xs,S,E,D,t0,x4,x5,x6,hr,ha,hf,hx,hp,hh,h=>by
  simp only[m_]at hr hp;simp only[mJ]at hx;simp only[hds]at hh;simp only[af,pN];refine pU λN hN=>?_;simp only[Fd];ext;rw[GU];refine⟨m7 (by decide),m7 (by lia),?_⟩;have ol:=xM B t (p++[(i:Int)]);refine IJ L haf t (by lia) ha hf (by lia) (by simp;lia) hh.1 ?_;refine hN _ _ _ .refl trivial (Fi L haf ts (xs:=xs++(t.op B (p++[(i:Int)])).map encX) (by lia) (by rw[nO (bz haf)];exact ha) mR (by simp;lia) (by lia) hh.2 λx5 x6=>?_);rw[pI];have:=h x5 x6;rw[pA,bK]at this;simpa using this
end
def NW:om (mB p) (mB q) S Q=(p.length+q.length≤sizeLine∧Q (mB (p++q)) S):=by
 unfold mB;rw[CS,ay,ay,bK]
def PB (B:List Tn):Prop:=∀t∈B,∀x∈t.2.1.bls,x.1.length≤4
def Y_ (h:PB B):∀q∈sE B s n,q.length≤4:=λq hq=>by
 unfold sE at hq;cases e:m9 B s with
 |none=>
  rw[e]at hq;obtain⟨i,_,rfl⟩:=aT.mp hq;simp
 |some t=>
  rw[e]at hq;obtain⟨x,hx,rfl⟩:=aT.mp hq;exact h t (bX e) x hx
section
variable {a:ai}{B:List Tn}{S:lr}{r:Nat}{Q:WK}{E:ah→lr→Prop}{t:Tr}
def yr (L:rA B) (ha:S a=aa (.bP (B.map mK))) (hd:t.depth≤60) (hr:t.depth+30≤r) (hw:t.aq≤1000) (hh:t.hd (λ_=>True)) (h:∀q,S q=none→Q (.ref q) (bR S q (.bP ((t.op B []).map encX)))):uq (r+1) [.ref a,j5 t] S Q E:=by
 obtain⟨r,rfl⟩:∃r',r=r'+1:=⟨r - 1,by lia⟩
 rw[uq];ext;refine⟨aP _,λq hq=>⟨aP _,?_⟩⟩;have hqa:q≠a:=λz=>by rw[z,ha]at hq;cases hq
 refine IJ L hqa t (p:=[]) (xs:=[]) (by lia) (keep ha hq) mR (by simp;lia) (by simp;lia) hh ?_;rw[pI,aX];exact⟨_, .refl,h q hq⟩
def DL{f:ai}{xs:List (List Int×ah)}(hf:S f=aa (.bP (xs.map encX))) (hl:xs.length≤10000) (h:∀q,S q=none→Q (.ref q) (bR S q (.bP ((xs.map λx=>x.1).map mB)))):wS (r+1) [.ref f] S Q E:=by
 rw[wS];ext;rw[m8 hf];refine qf (λσ=>∃y,σ=[y]) encX (λx=>mB x.1) ?_ xs [] _ ⟨none,rfl⟩ (by simp;lia) (λx hx σ R hI hR=>?_) ?_
 ·exact hf
 ·obtain⟨y,rfl⟩:=hI;simp only[Ln,encX];ext;exact hR _ _ ⟨_,rfl⟩ .refl
 ·rw[aX];intro q hq;have:=h q hq;rw[bu]at this;exact⟨_, .refl,this⟩
def Ve (L:rA B) (ha:S a=aa (.bP (B.map mK))) (hh:(Tr.nd s ts).hd (λ_=>True)) (hw:(Tr.nd s ts).aq≤1000) (hr:25≤r) (h1:o7 B (.nd s ts)=aa u) (h2:u.2.1.mt (.nd s ts)=aa ms) (h:Q (j5 (.nd u.1 ms)) S):Bp (r+1) [.ref a,j5 (.nd s ts)] S Q E:=by
 obtain⟨r,rfl⟩:∃r',r=r'+1:=⟨r - 1,by lia⟩
 have ht:u∈B:=bX h1;have ft:=uF (m:=0) _ hh;have hm:=wT u.2.1 _ _ h2 hh;have hl:=qH ms;rw[Bp];ext;refine IN L ha ft (by lia) ?_;rw[h1];have et:oM (aa u)= .bW [.str u.1,j5 u.2.1,j5 u.2.2]:=rfl;rw[et]
 try ext
 rw[show nC [W.str u.1,j5 u.2.1,j5 u.2.2] 1=aa (j5 u.2.1) from rfl];have g1:=L.d u ht;have g2:=L.w u ht;refine⟨m7 (by decide),BC (by lia) ft (by lia) (λys hys q hq=>?_) λh0=>by rw[h2]at h0;cases h0⟩
 rw[h2]at hys;cases hys
 try ext
 rw[pH];simp only[j5]at h;exact⟨m7 (by lia),_, .bR .refl hq,h⟩
end
def RT (h:m9 B s=none):sE B s n=(bx n).map λ(i:Nat)=>[(i:Int)]:=by unfold sE;rw[h]
def Zh (h:m9 B s=aa t):sE B s n=t.2.1.bls.map λx=>x.1:=by unfold sE;rw[h]
theorem pC.len:∀{qs:List (List Int)}{ts us:List Tr},pC B wn n p qs ts us→us.length=ts.length
 |_,_,_, .nil=>rfl
 |_,_,_, .cons _ h=>by rw[aU,aU,pC.len h]
theorem LK (n:Nat) (hP4:∀{t u:Tr}{p:List Int}{r:Nat}{S:lr}{Q:WK}{E:ah→lr→Prop},Wi B wn n p t u→n+40≤r+1→S a=aa (.bP (B.map mK))→S w=aa (.dct (t4 wn))→t.hd (λ_=>True)→t.aq≤1000→p.length+4*n≤1000→Q (j5 u) S→t_ (r+1) [.ref a,j5 t,mB p, .ref w] S Q E) :
  ∀{ts us:List Tr}{qs:List (List Int)}{p:List Int},pC B wn n p qs ts us→ ∀{r:Nat}{xs:List W}{f:ai}{S:lr}{G:lr→Prop}{E:WX}{D:mY}{t0 x4 x6 x7:Option W},(∀q∈qs,q.length≤4)→n+40≤r+1→S a=aa (.bP (B.map mK))→S w=aa (.dct (t4 wn))→S f=aa (.bP xs)→f≠a→f≠w→xs.length+ts.length≤10000→mJ ts≤1000→hds (λ_=>True) ts→p.length+4+4*n≤1000→(∀o,G (bR S f o))→
  (∀x6 x7,D.nx [aa (.ref a),t0,aa (mB p),aa (.ref w),x4,aa (.ref f),x6,x7] (bR S f (.bP (xs++af us))))→
  mO (pB (nQ (mx 6) (nQ (mx 7) o6))) (CJ (r+1) (t_ (r+1))) E D G (m3 (qs.map mB) (af ts)) [aa (.ref a),t0,aa (mB p),aa (.ref w),x4,aa (.ref f),x6,x7] S
 |_,_,_,p, .nil=>by
  rename_i r xs f S G E D t0 x4 x6 x7;intro hq hr ha hw hf n1 n2 hx hwt hh hp hG h;simp only[cy,af,m3,mO];have:=h x6 x7;simp only[af,bg,sA hf]at this;exact this
 |_,_,_,p, .cons (q:=q) (t:=t) (u:=u) (ts:=ts) (us:=us) h1 h2=>by
  rename_i r xs f S G E D t0 x4 x6 x7 qs;intro hq hr ha hw hf n1 n2 hx hwt hh hp hG h;simp only[mJ]at hwt;simp only[hds]at hh;simp only[aU]at hx;have hq4:=hq q aK;simp only[aC,af,m3];refine pU λN hN=>?_;simp only[CJ];ext;simp only[m8 hf,true_and];rw[NW];refine⟨m7 (by lia),hP4 h1 hr ha hw hh.1 (by lia) (by simp;lia) ?_⟩
  try ext
  rw[m8 hf];refine⟨qE (by lia),?_⟩;refine hN _ _ _ .refl (hG _) (LK n hP4 h2 (xs:=xs++[j5 u]) (λq' hq'=>hq q' (aI _ hq')) hr (by rw[nO (bz n1)];exact ha) (by rw[nO (bz n2)];exact hw) mR n1 n2 (by simp;lia) (by lia) hh.2 hp (λo=>by rw[pI];exact hG o) λx6 x7=>?_)
  rw[pI];have:=h x6 x7;simpa [af]using this
theorem NY (L:rA B) (hP:PB B):∀(n:Nat) {t u:Tr}{p:List Int}{r:Nat}{S:lr}{Q:WK}{E:ah→lr→Prop},Wi B wn n p t u→n+40≤r+1→S a=aa (.bP (B.map mK))→S w=aa (.dct (t4 wn))→t.hd (λ_=>True)→t.aq≤1000→p.length+4*n≤1000→Q (j5 u) S→t_ (r+1) [.ref a,j5 t,mB p, .ref w] S Q E
 |0,t,u,p,r,S,Q,E,M,hr,ha,hw,hh,hwt,hp,h=>by cases M
 |n+1,t,u,p,r,S,Q,E,M,hr,ha,hw,hh,hwt,hp,h=>by
  obtain⟨r,rfl⟩:∃r',r=r'+1:=⟨r - 1,by lia⟩
  have tail:∀{s:ah}{ts us:List Tr}{t0:Option W}{E':WX},pC B wn n p (sE B s ts.length) ts us→hds (λ_=>True) ts→mJ ts≤1000→Q (j5 (.nd s us)) S→
    (1:Nat)=1→ ∀f,S f=none→yC (r+1) [.ref a, .bW (.str s::af ts)] (bR S f (.bP [])) (λx S1=>uv x S1 λxs G=>mO (pB (nQ (mx 6) (nQ (mx 7) o6))) (CJ (r+1) (t_ (r+1))) E' { nx:=mS (mq om (m5 (jM (mq mE (jn 4) (wC (W.int 0))) ae)) (wB rF (jM (jn 5) ae))) E' { nx:=λx S'=>∃S'',Sub S'' S'∧Q W.ca S'',rt:=λw S'=>∃S'',Sub S'' S'∧Q w S'' },rt:=λw S'=>∃S'',Sub S'' S'∧Q w S'' } (λS'=>G S'∧True) (m3 xs (af ts)) [aa (.ref a),t0,aa (mB p),aa (.ref w),aa (.bW (.str s::af ts)),aa (.ref f),none,none] S1) E:=λ{s ts us t0 E'} WW hd hw' hQ _ f hf=>by
   have hk:=qH ts;have n1:f≠a:=λz=>by rw[z,ha]at hf;cases hf
   have n2:f≠w:=λz=>by rw[z,hw]at hf;cases hf
   have ee:W.bW (W.str s::af ts)=j5 (.nd s ts):=by simp only[j5]
   rw[ee];refine Qo L (keep ha hf) (by lia) (by lia) λq hq=>?_;rw[B9,zt,←ee];obtain⟨hq1,hq2⟩:=qU hq;refine LK n (NY L hP n) WW (Y_ hP) (by lia) (keep (keep ha hf) hq) (keep (keep hw hf) hq) (keep mR hq) n1 n2 (by simp;lia) hw' hd (by lia) (λo=>⟨?_,trivial⟩) λx6 x7=>?_
   ·show bR _ f o q=_;rw[nO hq2];exact mR
   ·have hlu:us.length≤1000:=by
     have:=pC.len WW;lia
    ext;rw[pH];simp only[j5]at hQ;refine⟨m7 (by decide),m7 (by lia),S,?_,hQ⟩;rw[Om hq2];exact .bR (.bR .refl hf) hq1
  cases M with
  | @no _ _ s ts us h1 h2 h3=>
   simp only[Tr.hd]at hh;simp only[Tr.aq]at hwt;rw[t_];simp only[j5];ext;rw[Ft hw,KZ,decide_eq_false h1]
   try ext
   refine⟨aP _,λf hf=>?_⟩;have:=tail (t0:=aa (.bW (.str s::af ts))) (E':=λc x S'=>E c S') (by rw[RT h2];exact h3) hh.2 (by lia) h rfl f hf;simpa only[and_true]using this
  | @yes _ _ s ts us ms t h1 h2 h3 h4 h5=>
   have hm:=wT t.2.1 _ _ h3 hh;rw[t_];ext;rw[Ft hw,KZ,decide_eq_true h1]
   try ext
   refine Ve L ha hh hwt (by lia) h2 h3 ?_;simp only[j5]
   try ext
   refine⟨aP _,λf hf=>?_⟩;have:=tail (t0:=aa (.bW (.str s::af ts))) (E':=λc x S'=>E c S') (by rw[Zh h4];exact h5) hm.1 (by lia) h rfl f hf;simpa only[and_true]using this
theorem HP:∀(p q:List Int),oV (nY S (n+1)) (p.map W.int) (q.map W.int)=aa (decide (p=q))
 | [],[]=>by simp [oV]
 | [],j::q=>by simp [oV]
 |i::p,[]=>by simp [oV]
 |i::p,j::q=>by
  rw[aC,aC,oV,Km,HP p q];simp only[bH];rw[fF];simp
def F8 (p q:List Int):nY S (n+2) (mB p) (mB q)=aa (decide (p=q)):=by
 unfold mB;rw[L6,HP]
theorem F0:∀ys:List (List Int),rH S (mB x) (ys.map mB)=aa (decide (x∈ys))
 | []=>by simp [rH]
 |y::ys=>by
  rw[aC,rH,F8 (n:=57),F0 ys];simp only[bH];rw[fF];simp only[jE,decide_eq_true_eq,az];exact⟨λh=>h.elim (λe=> .inl e.symm) .inr,λh=>h.elim (λe=> .inl e.symm) .inr⟩
section
variable {a:ai}{B:List Tn}{wn:List (List Int)}{S:lr}{r n:Nat}{Q:WK}{E:ah→lr→Prop}{t u:Tr}{f:ai}
def D0 (L:rA B) (hP:PB B) (M:Wi B wn n [] t u) (hn:n≤60) (hr:110≤r) (ha:S a=aa (.bP (B.map mK))) (hf:S f=aa (.bP (wn.map mB))) (hh:t.hd (λ_=>True)) (hw:t.aq≤1000) (hl:wn.length≤10000) (h:Q (j5 u) S):xE (r+1) [.ref a,j5 t, .ref f] S Q E:=by
 obtain⟨r,rfl⟩:∃r',r=r'+1:=⟨r - 1,by lia⟩
 rw[xE];ext;refine⟨aP _,?_⟩;rw[m8 hf];refine qf (λσ=>∃y,σ=[y]) mB (λp=>W.bW [mB p, .bl true]) ?_ wn [] _ ⟨none,rfl⟩ (by simp;lia) (λx hx σ R hI hR=>?_) ?_
 ·exact hf
 ·obtain⟨y,rfl⟩:=hI;simp only[G4];ext;exact⟨m7 (by decide),hR _ _ ⟨_,rfl⟩ .refl⟩
 ·rw[aX];have e:rC (wn.map λp=>W.bW [mB p, .bl true])=aa wn:=LA wn;rw[e];refine⟨by lia,λd hd=>?_⟩;have e0:W.bW []=mB []:=rfl;rw[e0];exact NY L hP n M (by lia) (keep ha hd) mR hh hw (by simp;lia) ⟨_, .bR .refl hd,h⟩
def VE (L:rA B) (hP:PB B) (M:Wi B wn n [] t u) (hn:n≤60) (hr:115≤r) (ha:S a=aa (.bP (B.map mK))) (hf:S f=aa (.bP (wn.map mB))) (hh:t.hd (λ_=>True)) (hw:t.aq≤1000) (hd:t.depth≤60) (hl:wn.length≤10000) (hks:((t.op B []).map λx=>x.1)=ks) (hin:∀x∈wn,x∈ks) (h:Q (j5 u) S):CL (r+1) [.ref a,j5 t, .ref f] S Q E:=by
 obtain⟨r,rfl⟩:∃r',r=r'+1:=⟨r - 1,by lia⟩
 have ol:=xM B t [];rw[CL];ext;refine yr L ha hd (by lia) hw hh λq hq=>?_;refine DL mR (by lia) λq2 hq2=>?_;rw[hks];have f2:bR (bR S q (Ob.bP ((t.op B []).map encX))) q2 (Ob.bP (ks.map mB)) q2=aa (.bP (ks.map mB)):=mR;have ff:=keep (x:=Ob.bP (ks.map mB)) (keep (x:=Ob.bP ((t.op B []).map encX)) hf hq) hq2;have fa:=keep (x:=Ob.bP (ks.map mB)) (keep (x:=Ob.bP ((t.op B []).map encX)) ha hq) hq2;have sub:Sub S (bR (bR S q (Ob.bP ((t.op B []).map encX))) q2 (Ob.bP (ks.map mB))):= .trans (.bR .refl hq) (.bR .refl hq2);generalize bR (bR S q (Ob.bP ((t.op B []).map encX))) q2 (Ob.bP (ks.map mB))=S2 at f2 ff fa sub⊢
 try ext
 rw[m8 ff];refine vv (S:=S2) ?_ (λσ=>∃x,σ=[aa (.ref a),aa (j5 t),aa (.ref f),aa (.ref q2),x]) mB (λ_=>none) wn _ ⟨_,rfl⟩ (λx hx σ N hI hno hret=>?_) (λe σ hI=>?_) λw e S' sb=>?_
 ·exact ff
 ·obtain⟨y,rfl⟩:=hI;unfold GE;ext;rw[m8 f2,F0,decide_eq_true (hin x hx)]
  try ext
  exact hno rfl _ _ ⟨_,rfl⟩ .refl
 ·obtain⟨y,rfl⟩:=hI
  try ext
  exact D0 L hP M hn (by lia) fa ff hh hw hl ⟨_,sub,h⟩
 ·rw[kO.mpr (λ_ _=>rfl)]at e;cases e
end
theorem JY:∀(ls us:List Tr),(nM ls us).isSome=(ls.zip us).all λx=>(x.1.mt x.2).isSome
 | [],us=>by simp [nM]
 |l::ls,[]=>by simp [nM]
 |l::ls,u::us=>by
  rw[nM,gC,e_,←JY ls us];cases l.mt u with
  |none=>rfl
  |some xs=>cases nM ls us<;>rfl
theorem HQ:∀(ls us:List Tr),m3 (af ls) (af us)=(ls.zip us).map λx=>W.bW [j5 x.1,j5 x.2]
 | [],us=>by simp [af,m3]
 |l::ls,[]=>by simp [af,m3]
 |l::ls,u::us=>by
  simp [af,m3,HQ ls us]
theorem Of{α:Type}(g:α→Bool):∀xs:List α,sH (xs.map λx=>W.bl (g x))=aa (xs.map g)
 | []=>rfl
 |x::xs=>by rw[aC,sH,Of g xs];rfl
theorem EQ:∀(d:Nat) {l t:Tr}{r:Nat}{Q:WK}{E:ah→lr→Prop},l.depth≤d→d≤r→t.br 0→l.aq≤1000→Q (.bl (l.mt t).isSome) S→v_ (r+1) [j5 l,j5 t] S Q E
 |0,l,t,r,Q,E,hd,hr,hf,hw,h=>by have:=qB l;lia
 |d+1, .bl n,t,r,Q,E,hd,hr,hf,hw,h=>by
  rw[v_];simp only[j5];ext;simp only[Tr.mt,kI]at h;exact⟨_, .refl,h⟩
 |d+1, .nd s ls, .bl n,r,Q,E,hd,hr,hf,hw,h=>by
  simp only[Tr.br]at hf;lia
 |d+1, .nd s ls, .nd z us,r,Q,E,hd,hr,hf,hw,h=>by
  simp only[Tr.br]at hf;simp only[Tr.depth]at hd;simp only[Tr.aq]at hw;obtain⟨r,rfl⟩:∃r',r=r'+1:=⟨r - 1,by lia⟩
  have en:∀s ts,j5 (.nd s ts)= .bW (.str s::af ts):=λs ts=>by simp [j5]
  rw[v_];rw[en,en];ext;rw[pH,pH];have en2:(((ls.length+1:Nat):Int) == ((us.length+1:Nat):Int))=(ls.length == us.length):=by
   rw[fF,beq_iff_eq,beq_iff_eq];lia
  rw[en2];simp only[Tr.mt]at h;cases e1:(s == z) with
  |false=>
   rw[e1]at h;exact⟨_, .refl,h⟩
  |true=>
   rw[e1]at h;rw[if_neg (by decide)];cases e2:(ls.length == us.length) with
   |false=>
    rw[e2]at h;exact⟨_, .refl,h⟩
   |true=>
    rw[e2]at h;rw[if_neg (by decide)];simp only[Bool.and_self,if_true]at h;have hk:=qH ls;rw[HQ];refine qf (λσ=>∃x y,σ=[x,y]) (λx:Tr×Tr=> .bW [j5 x.1,j5 x.2]) (λx=> .bl (x.1.mt x.2).isSome) trivial (ls.zip us) [] _ ⟨none,none,rfl⟩ (by simp;lia) (λx hx σ R hI hR=>?_) ?_
    ·obtain⟨x1,x2,rfl⟩:=hI;simp only[Jp];ext;have m1:=(fO hx).1;have m2:=(fO hx).2;have hdd:=pY m1;have hww:=pe m1;exact EQ d (by lia) (by lia) (wk hf m2) (by lia) (hR _ _ ⟨_,_,rfl⟩ .refl)
    ·rw[aX,Of];refine⟨_, .refl,?_⟩;rw[JY]at h;rw[fv];exact h
theorem NU:∀(q:List Int) {t u:Tr}{x2:Option W},t.at q=aa u→(∀x2,D.nx [aa (j5 u),x1,x2] S)→mO (mx 2) (Fh r mH) E D (λ_=>True) (q.map W.int) [aa (j5 t),x1,x2] S
 | [],t,u,x2,h,hD=>by
  cases t<;>simp only[Tr.at,bH]at h<;>subst h<;>simpa [mO]using hD x2
 |i::q, .bl n,u,x2,h,hD=>by simp [Tr.at]at h
 |i::q, .nd s ts,u,x2,h,hD=>by
  obtain⟨a,h2,e1,e2⟩:=pR h;rw[aC];refine pU λN hN=>?_;simp only[Fh,j5];ext;have ei:(i:Int)+1=((i.toNat+1:Nat):Int):=by lia
  rw[ei,sf,bU,o5,aV,e1];exact hN _ _ _ .refl trivial (NU q e2 hD)
def Mm{E:ah→lr→Prop}(ha:t.at q=aa u) (h:Q (j5 u) S):yx (r+1) [j5 t,mB q] S Q E:=by
 rw[yx];simp only[mB];ext;refine NU q ha λx2=>?_;ext;exact⟨_, .refl,h⟩
def PH{x:List Int}{t:Tr}{p:List Int}(h:x∈t.pl p):x.length<p.length+t.depth:=by
 rw[←xP,aT]at h;obtain⟨⟨q,u⟩,hm,rfl⟩:=h;obtain⟨r,rfl,_,hr⟩:=xz t p q u hm;simp;lia
mutual
theorem Mf (p:List Int):∀(t:Tr) (q:List Int),t.pl (p++q)=(t.pl q).map (p++ ·)
 | .bl _,q=>by simp [Tr.pl]
 | .nd _ ts,q=>by simp [Tr.pl,M1 p ts q 0]
theorem M1 (p:List Int):∀(ts:List Tr) (q:List Int) (i:Nat),qz (p++q) i ts=(qz q i ts).map (p++ ·)
 | [],q,i=>by simp [qz]
 |t::ts,q,i=>by rw[qz,qz,bK,←Mf p t,M1 p ts q (i+1),bD]
end
theorem GZ{E:WX}{D:mY}{x0:Option W}{r:Nat}:∀(ts:List Tr) (one:∀u∈ts,∀{S:lr}{Q:WK}{E:ah→lr→Prop},(∀S' b,Sub S S'→S' b=aa (.bP ((u.pl []).map mB))→Q (.ref b) S')→ve r [j5 u] S Q E) (i:Nat) {acc:List (List Int)}{f:ai}{S:lr}{x2 x3:Option W},S f=aa (.bP (acc.map mB))→acc.length+mJ ts≤100000→m_ ts≤1000→
  (∀S' g x2 x3,Sub S S'→S' g=aa (.bP ((acc++qz [] i ts).map mB))→D.nx [x0,aa (.ref g),x2,x3] S')→mO (pB (nQ (mx 2) (nQ (mx 3) o6))) (ET r (ve r)) E D (λ_=>True) (pN i (af ts)) [x0,aa (.ref f),x2,x3] S
 | [],one,i,acc,f,S,x2,x3,hf,hl,hd,h=>by
  have:=h S f x2 x3 .refl (by simpa [qz]using hf);simpa [mO,pN,af]using this
 |t::ts,one,i,acc,f,S,x2,x3,hf,hl,hd,h=>by
  simp only[m_]at hd;simp only[mJ]at hl;simp only[af,pN];refine pU λN hN=>?_;simp only[ET];ext;refine one t aK λS1 b sb hb=>?_;dsimp only;rw[m8 hb];have hpl:(t.pl []).length=t.aq:=by rw[←xP,ay,wf]
  refine qf (λσ=>∃x,σ=[x,aa (.int i)]) mB (λq=>mB ((i:Int)::q)) hb (t.pl []) [] _ ⟨none,rfl⟩ (by simp;lia) (λq hq σ R hI hR=>?_) ?_
  ·obtain⟨x,rfl⟩:=hI;have hq2:=PH hq;simp only[KY];ext;have e1:W.bW [.int (i:Int)]=mB [(i:Int)]:=rfl;rw[e1,NW];refine⟨m7 (by decide),m7 (by simp at hq2⊢;lia),hR _ _ ⟨_,rfl⟩ .refl⟩
  ·rw[aX,m8 (sb _ _ hf)];refine⟨m7 (by simp;lia),λa ha=>?_⟩;have e:acc.map mB++(t.pl []).map (λq=>mB ((i:Int)::q))=(acc++t.pl [(i:Int)]).map mB:=by
    have:=Mf [(i:Int)] t [];rw[bg]at this;rw[bK,this,bu];rfl
   rw[e];have hpl2:(t.pl [(i:Int)]).length=t.aq:=by rw[←xP,ay,wf]
   refine hN _ _ _ .refl trivial (GZ ts (λu hu=>one u (aI _ hu)) (i+1) mR (by simp;lia) (by lia) λS' g x2 x3 sb' hg=>?_);exact h S' g x2 x3 ((sb.trans (.new ha)).trans sb') (by rw[qz,←bD];exact hg)
theorem MY:∀(d:Nat) {t:Tr}{r:Nat}{S:lr}{Q:WK}{E:ah→lr→Prop},t.depth≤d→d≤r→t.aq≤1000→t.depth≤1000→(∀S' b,Sub S S'→S' b=aa (.bP ((t.pl []).map mB))→Q (.ref b) S')→ve (r+1) [j5 t] S Q E
 |0,t,r,S,Q,E,hd,hr,hw,hz,h=>by have:=qB t;lia
 |d+1, .bl n,r,S,Q,E,hd,hr,hw,hz,h=>by
  rw[ve];simp only[j5];ext;refine⟨m7 (by decide),m7 (by decide),λa ha=>⟨_, .refl,h _ a (.new ha) mR⟩⟩
 |d+1, .nd s ts,r,S,Q,E,hd,hr,hw,hz,h=>by
  simp only[Tr.depth]at hd hz;simp only[Tr.aq]at hw;obtain⟨r,rfl⟩:∃r',r=r'+1:=⟨r - 1,by lia⟩
  rw[ve];simp only[j5];ext;refine⟨m7 (by decide),m7 (by decide),λa ha=>?_⟩;have en:W.bW (.str s::af ts)=j5 (.nd s ts):=by simp [j5]
  try ext
  refine GZ ts (λu hu {S Q E} q=>MY d (by have:=pY hu;lia) (by lia) (by have:=pe hu;lia) (by have:=pY hu;lia) q) 0 (acc:=[[]]) mR (by simp;lia) (by lia) λS' g x2 x3 sb hg=>?_;ext;exact⟨_, .refl,h _ g ((Sub.new ha).trans sb) (by rw[Tr.pl];exact hg)⟩
theorem Gc{α:Type}(P:α→Bool):∀(bs:List α),bs.Nodup→(∀u∈bs,∀v∈bs,P u=true→P v=true→u=v)→bs.filter P=(bs.find? P).toList
 | [],_,_=>rfl
 |b::bs,hn,hu=>by
  rw[eD]at hn;rw[eP,cb];cases e:P b with
  |false=>simpa using Gc P bs hn.2 λu h1 v h2=>hu u (aI _ h1) v (aI _ h2)
  |true=>
   simp only[if_true,Option.toList_some,fQ,true_and];rw[List.filter_eq_nil_iff];intro v hv pv;have:=hu b aK v (aI _ hv) e pv;subst this;exact hn.1 hv
def sV (B:List Tn) (x:List Int×Tr):List (List Int×ah):=(o7 B x.2).toList.map λb=>(x.1,b.1)
mutual
theorem Bt (B:List Tn):∀(t:Tr) (p:List Int),t.br 0→(t.plt p).flatMap (sV B)=t.op B p
 | .bl n,p,h=>by
  simp only[Tr.br]at h;lia
 | .nd s ts,p,h=>by
  simp only[Tr.br]at h;rw[Tr.plt,cC,Je B ts p 0 h,Tr.op,sV];cases o7 B (.nd s ts)<;>rfl
theorem Je (B:List Tn):∀(ts:List Tr) (p:List Int) (i:Nat),m4 0 ts→(oG p i ts).flatMap (sV B)=pA B p i ts
 | [],p,i,h=>by simp [oG,pA]
 |t::ts,p,i,h=>by
  simp only[m4]at h;rw[oG,pA,kf,Bt B t _ h.1,Je B ts p (i+1) h.2]
end
theorem Dg (L:rA B) (hfa:f≠a) (hu:u.br 0) (hat:t.at q=aa u) (hr:10≤r):∀(bs:List Tn) {xs:List W}{S:lr}{x4:Option W},(∀b∈bs,b∈B)→S a=aa (.bP (B.map mK))→S f=aa (.bP xs)→xs.length+bs.length≤100000→
  (∀x4,D.nx [aa (.ref a),aa (j5 t),aa (.ref f),aa (mB q),x4] (bR S f (.bP (xs++((bs.filter λb=>(b.2.1.mt u).isSome).map λb=>(q,b.1)).map encX))))→
  mO (mx 4) (FN (r+1) mH) E D (λS'=>S' a=aa (.bP (B.map mK))) (bs.map mK) [aa (.ref a),aa (j5 t),aa (.ref f),aa (mB q),x4] S
 | [],xs,S,x4,hb,ha,hf,hl,h=>by
  have:=h x4;simp only[List.filter_nil,cy,bg,sA hf]at this;simpa [mO]using this
 |b::bs,xs,S,x4,hb,ha,hf,hl,h=>by
  simp only[aU]at hl;rw[aC];refine pU λN hN=>?_;simp only[FN];have eb:mK b= .bW [.str b.1,j5 b.2.1,j5 b.2.2]:=rfl;rw[eb];ext;refine Mm hat ?_;have hm:=hb b aK;have h1:=L.d b hm;have h2:=L.w b hm;refine EQ 4 h1 (by lia) hu (by lia) ?_;rw[←eb];ext;cases e:(b.2.1.mt u).isSome with
  |false=>
   simp only[cF,if_false];refine hN _ _ _ .refl ha (Dg L hfa hu hat hr bs (λy hy=>hb y (aI _ hy)) ha hf (by lia) λx4=>?_);have:=h x4;rw[eP,e]at this;simpa using this
  |true=>
   simp only[if_true,m8 hf];refine⟨trivial,m7 (by decide),qE (by lia),?_⟩;have ha':bR S f (Ob.bP (xs++[W.bW [mB q,W.str b.1]])) a=aa (.bP (B.map mK)):=by rw[nO (bz hfa)];exact ha
   refine hN _ _ _ .refl ha' (Dg L hfa hu hat hr bs (λy hy=>hb y (aI _ hy)) ha' mR (by simp;lia) λx4=>?_);have:=h x4;rw[eP,e]at this;rw[pI];simpa [encX]using this
theorem Ib (L:rA B) (hfa:f≠a) (hfc:f≠c) (hr:10≤r) (hn:B.Nodup) (hB:B.length≤100) (U:∀x:Tr,∀u∈B,∀v∈B,(u.2.1.mt x).isSome=true→(v.2.1.mt x).isSome=true→u=v):∀(ys:List (List Int×Tr)) {xs:List W}{S:lr}{x3 x4:Option W},(∀y∈ys,t.at y.1=aa y.2∧y.2.br 0)→S a=aa (.bP (B.map mK))→S c=aa (.bP ps)→S f=aa (.bP xs)→xs.length+100*ys.length+100≤100000→
  (∀x3 x4,D.nx [aa (.ref a),aa (j5 t),aa (.ref f),x3,x4] (bR S f (.bP (xs++(ys.flatMap (sV B)).map encX))))→
  mO (mx 3) (Dc (r+1) mH) E D (λS'=>S' c=aa (.bP ps)) (ys.map λy=>mB y.1) [aa (.ref a),aa (j5 t),aa (.ref f),x3,x4] S
 | [],xs,S,x3,x4,hy,ha,hc,hf,hl,h=>by
  have:=h x3 x4;simp only[cZ,cy,bg,sA hf]at this;simpa [mO]using this
 |y::ys,xs,S,x3,x4,hy,ha,hc,hf,hl,h=>by
  simp only[aU]at hl;rw[aC];refine pU λN hN=>?_;simp only[Dc];ext;rw[m8 ha];have hy0:=hy y aK;have eo:(B.filter λb=>(b.2.1.mt y.2).isSome).map (λb=>(y.1,b.1))=sV B y:=by
   rw[Gc _ B hn (U y.2)];rfl
  have ol:(sV B y).length≤1:=by
   unfold sV;cases o7 B y.2<;>simp
  refine Dg L hfa hy0.2 hy0.1 hr B (λb hb=>hb) ha hf (by lia) λx4=>?_;rw[eo];have hc':bR S f (Ob.bP (xs++(sV B y).map encX)) c=aa (.bP ps):=by rw[nO (bz hfc)];exact hc
  have ha':bR S f (Ob.bP (xs++(sV B y).map encX)) a=aa (.bP (B.map mK)):=by rw[nO (bz hfa)];exact ha
  refine hN _ _ _ .refl hc' (Ib L hfa hfc hr hn hB U ys (λz hz=>hy z (aI _ hz)) ha' hc' mR (by simp;lia) λx3 x4=>?_);have:=h x3 x4;rw[cC,bK]at this;rw[pI];simpa using this
mutual
theorem LJ:∀(t:Tr) (p:List Int),t.br 0→ ∀y∈t.plt p,y.2.br 0
 | .bl n,p,h,y,hy=>by
  simp only[Tr.br]at h;lia
 | .nd s ts,p,h,y,hy=>by
  have h':=h;simp only[Tr.br]at h';rw[Tr.plt,az]at hy;obtain rfl |hy:=hy
  ·exact h
  ·exact IQ ts p 0 h' y hy
theorem IQ:∀(ts:List Tr) (p:List Int) (i:Nat),m4 0 ts→ ∀y∈oG p i ts,y.2.br 0
 | [],p,i,h,y,hy=>by simp [oG]at hy
 |t::ts,p,i,h,y,hy=>by
  simp only[m4]at h;rw[oG,bq]at hy;obtain hy |hy:=hy
  ·exact LJ t _ h.1 y hy
  ·exact IQ ts p (i+1) h.2 y hy
end
def RB{E:ah→lr→Prop}(L:rA B) (hn:B.Nodup) (hB:B.length≤100) (U:∀x:Tr,∀u∈B,∀v∈B,(u.2.1.mt x).isSome=true→(v.2.1.mt x).isSome=true→u=v) (ha:S a=aa (.bP (B.map mK))) (hd:t.depth≤60) (hr:t.depth+20≤r) (hw:t.aq≤900) (ht:t.br 0)
  (h:∀S' b,Sub S S'→S' b=aa (.bP ((t.op B []).map encX))→Q (.ref b) S'):vk (r+1) [.ref a,j5 t] S Q E:=by
 obtain⟨r,rfl⟩:∃r',r=r'+1:=⟨r - 1,by lia⟩
 rw[vk];ext;refine⟨aP _,λf hf=>?_⟩;refine MY t.depth (aA _) (by lia) (by lia) (by lia) λS1 c sb hc=>?_;have ff:S1 f=aa (.bP []):=sb _ _ mR;have fa:S1 a=aa (.bP (B.map mK)):=sb _ _ (keep ha hf);have hfa:f≠a:=by
  rintro rfl;rw[hf]at ha;cases ha
 have ep:(t.pl []).map mB=(t.plt []).map λy=>mB y.1:=by rw[←xP,bu];rfl
 have hfc:f≠c:=by
  rintro rfl;rw[ff]at hc;have e:=congrArg dE (Ob.bP.inj (aL hc));rw[ep,ay,wf]at e;have:=rT t;simp at e;lia
 try ext
 rw[m8 hc,ep];rw[ep]at hc;have hpl:=wf t [];refine Ib L hfa hfc (by lia) hn hB U (t.plt []) (λy hy=>⟨(Lp hy).1,LJ t [] ht y hy⟩) fa hc ff (by simp;lia) λx3 x4=>?_;ext;rw[Bt B t [] ht];exact⟨_, .refl,h _ f (Sub.bR ((Sub.new hf).trans sb) hf) mR⟩
section
variable {c:Int→Nat}
def vw (c:Int→Nat):Prop:=∀x:Int,0≤x→x<8→c x≤1
def vw.ak (hc:vw c):∀x:Int,0≤x→x<8→vg c x=0:=λx h0 h1=>by
 have:=hc x h0 h1;unfold vg;split<;>lia
end
def ZV (ha:S a=aa (.bP xs)) (hb:S b=aa (.bP xs)) (h:oV (nY S n) xs xs=aa true):nY S (n+1) (.ref a) (.ref b)=aa true:=by
 show(match S a with
  |some (.bP xs)=>match S b with
   |some (.bP ys)=>oV (nY S n) xs ys
   |_=>none
  |_=>none)=aa true
 rw[ha,hb];exact h
def td (f:Int):vw (nI f):=λx _ _=>wU f x
section
variable {c d:Int→Nat}
def zk{c d:Int→Nat}(hc:vw c) (hd:vw d):W6 c d:=λx h0 h1=> .inl ⟨hc x h0 h1,hd x h0 h1⟩
end
def u1 (B:List Tn) (p:Pl):List (List Int×ah):=M2 (nI 1) (p.ns B [])
theorem KA:∀(ls us:List Tr) (one:∀l∈ls,∀{u:Tr}{ms:List Tr}{S:lr}{Q:WK}{E:ah→lr→Prop},l.mt u=aa ms→(∀S' b,Sub S S'→S' b=aa (.bP (af ms))→Q (.ref b) S')→u7 r [j5 l,j5 u] S Q E) {ms acc:List Tr}{f:ai}{S:lr}{x3 x4:Option W},nM ls us=aa ms→S f=aa (.bP (af acc))→acc.length+mJ ls≤100000→
  (∀S' g x3 x4,Sub S S'→S' g=aa (.bP (af (acc++ms)))→D.nx [x0,x1,aa (.ref g),x3,x4] S')→mO (pB (nQ (mx 3) (nQ (mx 4) o6))) (DR r (u7 r)) E D (λ_=>True) (m3 (af ls) (af us)) [x0,x1,aa (.ref f),x3,x4] S
 | [],us,one,ms,acc,f,S,x3,x4,hm,hf,hl,h=>by
  simp only[nM,bH]at hm;subst hm;have:=h S f x3 x4 .refl (by simpa using hf);simpa [mO,m3,af]using this
 |l::ls,[],one,ms,acc,f,S,x3,x4,hm,hf,hl,h=>by
  simp only[nM,bH]at hm;subst hm;have:=h S f x3 x4 .refl (by simpa using hf);simpa [mO,m3,af]using this
 |l::ls,u::us,one,ms,acc,f,S,x3,x4,hm,hf,hl,h=>by
  simp only[nM]at hm;cases e1:l.mt u with
  |none=>rw[e1]at hm;cases hm
  |some xs=>
   cases e2:nM ls us with
   |none=>rw[e1,e2]at hm;cases hm
   |some ys=>
    rw[e1,e2]at hm;cases hm;have l1:=CZ l u xs e1;simp only[mJ]at hl;simp only[af,m3];refine pU λN hN=>?_;simp only[DR];ext;refine one l aK e1 λS1 b sb hb=>?_
    try rw[Gu]
    rw[m8 (sb _ _ hf),m8 hb,pH,pH,←xH];refine⟨m7 (by lia),λa ha=>?_⟩;refine hN _ _ _ .refl trivial (KA ls us (λu hu=>one u (aI _ hu)) e2 mR (by simp;lia) λS' g x3 x4 sb' hg=>?_);exact h S' g x3 x4 ((sb.trans (.new ha)).trans sb') (by rw[←bD];exact hg)
theorem Ov:∀(d:Nat) {l t:Tr}{ms:List Tr}{r:Nat}{S:lr}{Q:WK}{E:ah→lr→Prop},l.depth≤d→d≤r→l.aq≤1000→l.mt t=aa ms→(∀S' b,Sub S S'→S' b=aa (.bP (af ms))→Q (.ref b) S')→u7 (r+1) [j5 l,j5 t] S Q E
 |0,l,t,ms,r,S,Q,E,hd,hr,hw,hm,h=>by have:=qB l;lia
 |d+1, .bl n,t,ms,r,S,Q,E,hd,hr,hw,hm,h=>by
  simp only[Tr.mt,bH]at hm;subst hm;rw[u7];have e0:j5 (.bl n)= .int n:=by simp only[j5]
  rw[e0];ext;refine⟨m7 (by decide),λa ha=>⟨_, .refl,h _ a (.new ha) (by simpa [af]using mR)⟩⟩
 |d+1, .nd s ls, .bl n,ms,r,S,Q,E,hd,hr,hw,hm,h=>by simp [Tr.mt]at hm
 |d+1, .nd s ls, .nd z us,ms,r,S,Q,E,hd,hr,hw,hm,h=>by
  simp only[Tr.depth]at hd;simp only[Tr.aq]at hw;simp only[Tr.mt]at hm;split at hm
  ·obtain⟨r,rfl⟩:∃r',r=r'+1:=⟨r - 1,by lia⟩
   have en:∀s ts,j5 (.nd s ts)= .bW (.str s::af ts):=λs ts=>by simp [j5]
   rw[u7,en,en];ext;refine⟨m7 (by decide),λa ha=>?_⟩
   try ext
   refine KA ls us (λu hu {t ms S Q E} e q=>Ov d (by have:=pY hu;lia) (by lia) (by have:=pe hu;lia) e q) hm (acc:=[]) mR (by simp;lia) λS' g x3 x4 sb hg=>?_;ext;exact⟨_, .refl,h _ g ((Sub.new ha).trans sb) hg⟩
  ·cases hm
section
variable {S:lr}{a:ai}{B:List Tn}{w0 w1 w2 w3 w4 w5:ah}{tt:List ah}{r:Nat}{Q:WK}{E:ah→lr→Prop}
def Zi (b:mF w0 w1 w2 w3 w4 w5 tt B) (G:nT w0 w1 w2 w3 w4 w5) (L:rA B) (ha:S a=aa (.bP (B.map mK))) (ht:t∈B) (hu:us.length=t.2.1.nb) (hX:X.at q=aa (t.2.1.aD us)) (hq:q.length≤100) (hw:X.aq≤90000) (hf:(t.2.1.aD us).br 0) (hr:120≤r)
  (h:∀S',Sub S S'→Q (j5 (X.bR q (t.2.2.aD us))) S'):wQ (r+1) [.ref a,j5 X,mB q] S Q E:=by
 obtain⟨r,rfl⟩:∃r',r=r'+1:=⟨r - 1,by lia⟩
 have ho:=b.open_some G ht hu;have hm:=b.mt t ht us hu;rw[wQ];ext;refine Mm hX ?_
 try ext
 rw[m8 ha];refine vv ha (λσ=>∃y,σ=[aa (.ref a),aa (j5 X),aa (mB q),aa (j5 (t.2.1.aD us)),y]) mK (λu:Tn=>if(u.2.1.mt (t.2.1.aD us)).isSome then aa (j5 (X.bR q (t.2.2.aD us))) else none) B _ ⟨none,rfl⟩ (λu hu' σ N hI h0 h1=>?_) ?_ ?_
 ·obtain⟨y,rfl⟩:=hI;simp only[IP,mK];ext;rw[show nC [W.str u.1,j5 u.2.1,j5 u.2.2] 1=aa (j5 u.2.1) from rfl];dsimp only;refine EQ 4 (L.d u hu') (by lia) hf (by have:=L.w u hu';lia) ?_;cases e:(u.2.1.mt (t.2.1.aD us)).isSome with
  |false=>
   ext;exact h0 (by rw[e];rfl) _ _ ⟨_,rfl⟩ .refl
  |true=>
   ext;have eu:u=t:=by
    have:=b.one G hu' ht e (by rw[hm];rfl);exact Ci (b.inj G) hu' ht this
   subst eu;rw[show nC [W.str u.1,j5 u.2.1,j5 u.2.2] 2=aa (j5 u.2.2) from rfl];dsimp only;refine Ov 4 (L.d u hu') (by lia) (by have:=L.w u hu';lia) hm λS1 g sb hg=>?_;have hri:=b.ri u hu';refine Bl 4 hri.dp (by lia) hg (by rw[hu];exact hri.br) (by have:=hri.wt;lia) ?_;refine LW q hX (by lia) hw (by lia) ?_;exact h1 _ (by rw[e];rfl) _ sb
 ·intro hn σ hI;exfalso;rw[kO]at hn;have:=hn t ht;rw[hm]at this;simp at this
 ·intro w e S' sb;obtain⟨u,_,hw'⟩:=List.exists_of_findSome?_eq_some e;split at hw'
  ·cases hw';exact⟨_, .refl,h S' sb⟩
  ·cases hw'
end
mutual
def Tr.sg:Tr→Nat
 | .bl _=>0
 | .nd _ ts=>1+ub ts
def ub:List Tr→Nat
 | []=>0
 |t::ts=>t.sg+ub ts
end
mutual
def Tr.sd:Tr→Nat
 | .bl _=>0
 | .nd _ ts=>1+rZ ts
def rZ:List Tr→Nat
 | []=>0
 |t::ts=>max t.sd (rZ ts)
end
mutual
def Tr.nm:Tr→List Int
 | .bl n=>[n]
 | .nd _ ts=>pQ ts
def pQ:List Tr→List Int
 | []=>[]
 |t::ts=>t.nm++pQ ts
end
structure RX (t:Tr):Prop where
  sg:t.sg≤3
  sd:t.sd≤3
  ct:∀n,t.nm.count n≤2
def Wz{l:List Int}(h:∀n∈l,l.count n≤2):∀n,l.count n≤2:=λn=>by
 by_cases m:n∈l
 ·exact h n m
 ·rw[List.count_eq_zero_of_not_mem m];lia
section
variable {w0 w1 w2 w3 w4 w5:ah}{a:ai}{r:Nat}{S:lr}{Q:WK}{E:ah→lr→Prop}
def Rf (h1:t.depth≤4) (h2:t.br m) (h3:∀{P:ah→Prop},(∀x∈ws,P x)→t.hb P) (h4:t.aq≤7):qw ws m t:=⟨h1,h2,h3,h4⟩
def p_ (w0 w1 w2 w3 w4 w5:ah):Nat→Bool→List Tr
 |0,_=>[.nd w2 [], .nd w5 [], .nd w3 [.nd w5 []]]
 |1,g=>[.bl 0, .nd w3 [.bl 0], .nd w4 [.bl 0, .bl 0], .nd w4 [.nd w3 [.bl 0], .nd w2 []]]++(if g then [.nd w0 [.bl 0], .nd w1 [.nd w3 [.bl 0], .bl 0], .nd w3 [.nd w0 [.bl 0]]] else [.nd w2 [], .nd w3 [.nd w5 []]])
 |3,g=>[.nd w4 [.nd w4 [.bl 0, .bl 1], .bl 2], .nd w4 [.bl 2, .nd w4 [.bl 1, .bl 0]], .nd w4 [.nd w4 [.bl 0, .bl 0], .nd w4 [.bl 1, .bl 2]]]++(if g then [.nd w0 [.nd w4 [.nd w4 [.bl 2, .bl 0], .bl 1]], .nd w1 [.bl 1, .nd w4 [.bl 0, .bl 2]]] else [.bl 0, .bl 2, .nd w4 [.bl 1, .bl 1], .nd w5 []])
 |_,g=>[.nd w4 [.bl 0, .bl 1], .nd w4 [.bl 1, .bl 0], .nd w4 [.nd w3 [.bl 0], .bl 1], .nd w4 [.nd w4 [.bl 0, .bl 0], .bl 1]]++(if g then [.nd w1 [.bl 1, .bl 0], .nd w0 [.nd w4 [.bl 0, .bl 1]]] else [.bl 0, .bl 1, .nd w3 [.bl 1], .nd w5 []])
def SZ (hm:m≤3) (g:Bool):∀t∈p_ w0 w1 w2 w3 w4 w5 m g,qw [w0,w1,w2,w3,w4,w5] m t:=by
 intro t ht;obtain _ |_ |_ |_ |m:=m
 all_goals first
  |lia
  | (cases g<;>simp only[p_,ck,aX,if_true,if_false,cF,az,bp,or_false]at ht<;>(try rcases ht with rfl |rfl |rfl |rfl |rfl |rfl |rfl |rfl)<;>(try rcases ht with rfl |rfl |rfl |rfl |rfl |rfl |rfl)<;>(try rcases ht with rfl |rfl |rfl |rfl |rfl |rfl)<;>(try rcases ht with rfl |rfl |rfl |rfl |rfl)<;>(try rcases ht with rfl |rfl |rfl)<;>exact Rf (by simp [Tr.depth,m_]) (by simp [Tr.br,m4]) (λ{P} h=>by simp [Tr.hb,oy]<;>simp [h]) (by simp [Tr.aq,mJ]))
def Zn{m:Nat}(hm:m≤3) (g:Bool):∀t∈p_ w0 w1 w2 w3 w4 w5 m g,RX t:=by
 intro t ht;obtain _ |_ |_ |_ |m:=m
 all_goals first
  |lia
  | (cases g<;>simp only[p_,ck,aX,if_true,if_false,cF,az,bp,or_false]at ht<;>(try rcases ht with rfl |rfl |rfl |rfl |rfl |rfl |rfl |rfl)<;>(try rcases ht with rfl |rfl |rfl |rfl |rfl |rfl |rfl)<;>(try rcases ht with rfl |rfl |rfl |rfl |rfl |rfl)<;>(try rcases ht with rfl |rfl |rfl |rfl |rfl)<;>(try rcases ht with rfl |rfl |rfl)<;>exact⟨by simp [Tr.sg,ub],by simp [Tr.sd,rZ],Wz (by simp only[Tr.nm,pQ,aX,bg,ck]<;>decide)⟩)
def XS (g:Bool):1≤(p_ w0 w1 w2 w3 w4 w5 m g).length∧(p_ w0 w1 w2 w3 w4 w5 m g).length≤8:=by
 rcases m with _ |_ |_ |_ |m<;>cases g<;>simp [p_]
def B3 (e:WE) (σ:mU) (S:lr) (w:W):Prop:=∀(E:WX) (Q:WK),Q w S→e E σ S Q
def vz (t:WA) (σ:mU) (S:lr) (ws:List W):Prop:=∀(E:WX) (Q:List W→lr→Prop),Q ws S→t E σ S Q
def tv:B3 (wC w) σ S w:=λ_ _ q=>q
def tK (h1:σ[1]? =aa (aa (.ref a))) (ha:S a=aa (.bP xs)) (hi:nC xs i=aa w):B3 (mq mE (jn 1) (wC (.int i))) σ S w:=λE Q q=>by
 rw[D4,zL,h1];dsimp only;rw[Ep,Op,m8 ha,hi];exact q
def tF:vz ae σ S []:=λ_ _ q=>q
def tM (h1:B3 e σ S w) (h2:vz t σ S ws):vz (jM e t) σ S (w::ws):=λE Q q=>h1 E _ (h2 E _ q)
def tJ (h:vz t σ S ws) (hl:ws.length≤sizeLine):B3 (m5 t) σ S (.bW ws):=λE Q q=>h E _ ⟨hl,q⟩
def t9{E:WX}{D:mY}{σ:mU}{c:WT}{A T:WS}(hc:∀Q:Bool→lr→Prop,Q false S→c E σ S Q) (k:T E D σ S):mz (nD c A nB) T E D σ S:=hc _ k
def xQ{E:WX}{D:mY}{σ:mU}{c:WT}{A A' T:WS}(hc:∀Q:Bool→lr→Prop,Q true S→c E σ S Q) (k:A E { D with nx:=T E D } σ S):mz (nD c A A') T E D σ S:=hc _ k
def uz{E:WX}{σ:mU}{m k:Int}{b:Bool}(h0:σ[0]? =aa (aa (.int m))) (e:(m == k)=b):∀Q:Bool→lr→Prop,Q b S→nA (mq (oK false) (jn 0) (wC (.int k))) E σ S Q:=λQ q=>by
 rw[Ju,D4,zL,h0];dsimp only;rw[Ep,Ji,Es,e];cases b<;>exact q
def xR{E:WX}{σ:mU}{b:Bool}(h2:σ[2]? =aa (aa (.bl b))):∀Q:Bool→lr→Prop,Q b S→oX (jn 2) E σ S Q:=λQ q=>by
 rw[JQ,zL,h2];dsimp only;rw[J8];exact q
def F9{E:WX}{D:mY}{σ:mU}{t:WA}{T:WS}{ws:List W}(h:vz t σ S ws) (hl:ws.length≤sizeLine) (k:∀q,S q=none→T E D (σ.set 3 (aa (.ref q))) (bR S q (.bP ws))):mz (mr (nw (nJ t)) (mx 3)) T E D σ S:=h E _ ⟨hl,k⟩
def YX{E:WX}{D:mY}{σ:mU}{t:WA}{ws:List W}(h:vz t σ S ws) (hl:ws.length≤sizeLine) (k:∀q,S q=none→D.rt (.ref q) (bR S q (.bP ws))):mS (nw (nJ t)) E D σ S:=h E _ ⟨hl,k⟩
def w_{E:WX}{D:mY}{σ:mU}{t:WA}{ws xs:List W}{q:ai}(h3:σ[3]? =aa (aa (.ref q))) (hq:S q=aa (.bP xs)) (h:vz t σ S ws) (hl:ws.length≤sizeLine) (hx:xs.length+ws.length≤sizeLine) (k:∀q2,S q2=none→D.rt (.ref q2) (bR S q2 (.bP (xs++ws)))):mS (nw (rR (jn 3) (nJ t))) E D σ S:=by
 rw[L4,NG,MX,zL,h3];dsimp only;rw[MH];refine h E _ ⟨hl,?_⟩;rw[m8 hq];exact⟨hx,k⟩
def Za{m:Nat}(hm:m≤3) (g:Bool) (ha:S a=aa (.bP (qq w0 w1 w2 w3 w4 w5))) (h:∀S' b,Sub S S'→S' b=aa (.bP (af (p_ w0 w1 w2 w3 w4 w5 m g)))→Q (.ref b) S'):Bz (r+1) [.int m, .ref a, .bl g] S Q E:=by
 rw[Bz,uB];refine⟨rfl,?_⟩;obtain _ |_ |_ |_ |m:=m
 ·exact xQ (uz rfl (by decide)) (YX (ws:=[W.bW [W.str w2],W.bW [W.str w5],W.bW [W.str w3,W.bW [W.str w5]]]) (by repeat' first |exact tF |refine tM ?_ ?_ |exact tv |exact tK rfl ha (by first |exact qi |exact qj |exact pP |exact p5 |exact p4 |exact pW) |refine tJ ?_ (m7 (bF rfl))) (m7 (bF rfl)) λq hq=>⟨_, .refl,h _ q (.bR .refl hq) (by rw[mR];simp [p_,af,j5])⟩)
 ·refine t9 (uz rfl (by decide)) (xQ (uz rfl (by decide)) (F9 (ws:=[W.int 0,W.bW [W.str w3,W.int 0],W.bW [W.str w4,W.int 0,W.int 0],W.bW [W.str w4,W.bW [W.str w3,W.int 0],W.bW [W.str w2]]]) (by repeat' first |exact tF |refine tM ?_ ?_ |exact tv |exact tK rfl ha (by first |exact qi |exact qj |exact pP |exact p5 |exact p4 |exact pW) |refine tJ ?_ (m7 (bF rfl))) (m7 (bF rfl)) λq hq=>?_))
  have fa:bR S q (.bP [W.int 0,W.bW [W.str w3,W.int 0],W.bW [W.str w4,W.int 0,W.int 0],W.bW [W.str w4,W.bW [W.str w3,W.int 0],W.bW [W.str w2]]]) a=aa (.bP (qq w0 w1 w2 w3 w4 w5)):=keep ha hq;cases g
  ·exact t9 (xR rfl) (w_ (ws:=[W.bW [W.str w2],W.bW [W.str w3,W.bW [W.str w5]]]) rfl mR (by repeat' first |exact tF |refine tM ?_ ?_ |exact tv |exact tK rfl fa (by first |exact qi |exact qj |exact pP |exact p5 |exact p4 |exact pW) |refine tJ ?_ (m7 (bF rfl))) (m7 (bF rfl)) (m7 (bF rfl)) λq2 hq2=>⟨_, .refl,h _ q2 ((Sub.bR .refl hq).trans (.bR .refl hq2)) (by rw[mR];simp [p_,af,j5])⟩)
  ·exact xQ (xR rfl) (w_ (ws:=[W.bW [W.str w0,W.int 0],W.bW [W.str w1,W.bW [W.str w3,W.int 0],W.int 0],W.bW [W.str w3,W.bW [W.str w0,W.int 0]]]) rfl mR (by repeat' first |exact tF |refine tM ?_ ?_ |exact tv |exact tK rfl fa (by first |exact qi |exact qj |exact pP |exact p5 |exact p4 |exact pW) |refine tJ ?_ (m7 (bF rfl))) (m7 (bF rfl)) (m7 (bF rfl)) λq2 hq2=>⟨_, .refl,h _ q2 ((Sub.bR .refl hq).trans (.bR .refl hq2)) (by rw[mR];simp [p_,af,j5])⟩)
 ·refine t9 (uz rfl (by decide)) (t9 (uz rfl (by decide)) (t9 (uz rfl (by decide)) (F9 (ws:=[W.bW [W.str w4,W.int 0,W.int 1],W.bW [W.str w4,W.int 1,W.int 0],W.bW [W.str w4,W.bW [W.str w3,W.int 0],W.int 1],W.bW [W.str w4,W.bW [W.str w4,W.int 0,W.int 0],W.int 1]]) (by repeat' first |exact tF |refine tM ?_ ?_ |exact tv |exact tK rfl ha (by first |exact qi |exact qj |exact pP |exact p5 |exact p4 |exact pW) |refine tJ ?_ (m7 (bF rfl))) (m7 (bF rfl)) λq hq=>?_)))
  have fa:bR S q (.bP [W.bW [W.str w4,W.int 0,W.int 1],W.bW [W.str w4,W.int 1,W.int 0],W.bW [W.str w4,W.bW [W.str w3,W.int 0],W.int 1],W.bW [W.str w4,W.bW [W.str w4,W.int 0,W.int 0],W.int 1]]) a=aa (.bP (qq w0 w1 w2 w3 w4 w5)):=keep ha hq;cases g
  ·exact t9 (xR rfl) (w_ (ws:=[W.int 0,W.int 1,W.bW [W.str w3,W.int 1],W.bW [W.str w5]]) rfl mR (by repeat' first |exact tF |refine tM ?_ ?_ |exact tv |exact tK rfl fa (by first |exact qi |exact qj |exact pP |exact p5 |exact p4 |exact pW) |refine tJ ?_ (m7 (bF rfl))) (m7 (bF rfl)) (m7 (bF rfl)) λq2 hq2=>⟨_, .refl,h _ q2 ((Sub.bR .refl hq).trans (.bR .refl hq2)) (by rw[mR];simp [p_,af,j5])⟩)
  ·exact xQ (xR rfl) (w_ (ws:=[W.bW [W.str w1,W.int 1,W.int 0],W.bW [W.str w0,W.bW [W.str w4,W.int 0,W.int 1]]]) rfl mR (by repeat' first |exact tF |refine tM ?_ ?_ |exact tv |exact tK rfl fa (by first |exact qi |exact qj |exact pP |exact p5 |exact p4 |exact pW) |refine tJ ?_ (m7 (bF rfl))) (m7 (bF rfl)) (m7 (bF rfl)) λq2 hq2=>⟨_, .refl,h _ q2 ((Sub.bR .refl hq).trans (.bR .refl hq2)) (by rw[mR];simp [p_,af,j5])⟩)
 ·refine t9 (uz rfl (by decide)) (t9 (uz rfl (by decide)) (xQ (uz rfl (by decide)) (F9 (ws:=[W.bW [W.str w4,W.bW [W.str w4,W.int 0,W.int 1],W.int 2],W.bW [W.str w4,W.int 2,W.bW [W.str w4,W.int 1,W.int 0]],W.bW [W.str w4,W.bW [W.str w4,W.int 0,W.int 0],W.bW [W.str w4,W.int 1,W.int 2]]]) (by repeat' first |exact tF |refine tM ?_ ?_ |exact tv |exact tK rfl ha (by first |exact qi |exact qj |exact pP |exact p5 |exact p4 |exact pW) |refine tJ ?_ (m7 (bF rfl))) (m7 (bF rfl)) λq hq=>?_)))
  have fa:bR S q (.bP [W.bW [W.str w4,W.bW [W.str w4,W.int 0,W.int 1],W.int 2],W.bW [W.str w4,W.int 2,W.bW [W.str w4,W.int 1,W.int 0]],W.bW [W.str w4,W.bW [W.str w4,W.int 0,W.int 0],W.bW [W.str w4,W.int 1,W.int 2]]]) a=aa (.bP (qq w0 w1 w2 w3 w4 w5)):=keep ha hq;cases g
  ·exact t9 (xR rfl) (w_ (ws:=[W.int 0,W.int 2,W.bW [W.str w4,W.int 1,W.int 1],W.bW [W.str w5]]) rfl mR (by repeat' first |exact tF |refine tM ?_ ?_ |exact tv |exact tK rfl fa (by first |exact qi |exact qj |exact pP |exact p5 |exact p4 |exact pW) |refine tJ ?_ (m7 (bF rfl))) (m7 (bF rfl)) (m7 (bF rfl)) λq2 hq2=>⟨_, .refl,h _ q2 ((Sub.bR .refl hq).trans (.bR .refl hq2)) (by rw[mR];simp [p_,af,j5])⟩)
  ·exact xQ (xR rfl) (w_ (ws:=[W.bW [W.str w0,W.bW [W.str w4,W.bW [W.str w4,W.int 2,W.int 0],W.int 1]],W.bW [W.str w1,W.int 1,W.bW [W.str w4,W.int 0,W.int 2]]]) rfl mR (by repeat' first |exact tF |refine tM ?_ ?_ |exact tv |exact tK rfl fa (by first |exact qi |exact qj |exact pP |exact p5 |exact p4 |exact pW) |refine tJ ?_ (m7 (bF rfl))) (m7 (bF rfl)) (m7 (bF rfl)) λq2 hq2=>⟨_, .refl,h _ q2 ((Sub.bR .refl hq).trans (.bR .refl hq2)) (by rw[mR];simp [p_,af,j5])⟩)
 ·lia
end
def Us (h:0<Rs.length):∃R∈Rs,nC (af Rs) (d % (Rs.length:Int))=aa (j5 R):=by
 have h0:(0:Int)<Rs.length:=by lia
 have h1:=c_ d (Int.ne_of_gt h0);have h2:=dj d h0;obtain⟨n,hn⟩:=Int.eq_ofNat_of_zero_le h1;rw[hn]at h2⊢;have hl:n<Rs.length:=by lia
 refine⟨Rs[n],eJ hl,?_⟩;rw[sf,o5,aV,aS hl];rfl
def Bd (h:Sub S S'):Sub (bR S a o) (bR S' a o):=λb x e=>by
 by_cases z:b=a
 ·subst z;rw[mR]at e⊢;exact e
 ·rw[nO z]at e⊢;exact h b x e
def E8 (n:Nat) (h c d:ah):∀L∈bO n h c d,L.depth≤4∧L.aq≤7∧L.nb≤3:=by
 intro L hL;unfold bO at hL;split at hL<;>simp only[az,bp,or_false]at hL
 all_goals first
  | (subst hL;simp [Tr.depth,m_,Tr.aq,mJ,Tr.nb,nbs])
  | (rcases hL with rfl |rfl<;>simp [Tr.depth,m_,Tr.aq,mJ,Tr.nb,nbs])
section
variable {w0 w1 w2 w3 w4 w5:ah}{tt:List ah}{ns:List Int}{aw at' ab al:ai}{r:Nat}{E:WX}{D:mY}{k j:Int}{g:Bool}
theorem Ng (h6:tt.length=6) (k0:0≤k) (j0:0≤j):∀(ls:List Tr) {i:Nat}{C:List Tn}{S:lr}{G:lr→Prop}{x7 x8 x9 x10:Option W},(∀L∈ls,L.depth≤4∧L.aq≤7∧L.nb≤3)→C.length+ls.length≤6→S ab=aa (.bP (C.map mK))→S aw=aa (.bP (qq w0 w1 w2 w3 w4 w5))→S at'=aa (.bP (tt.map W.str))→ab≠aw→ab≠at'→
  (∀o,G (bR S ab o))→
  (∀(C':List Tn) (x7 x8 x9 x10:Option W),C'.map (λt=>t.2.1)=ls→(C.map (λt=>t.1)=tt.take C.length→(C++C').map (λt=>t.1)=tt.take (C++C').length)→(∀t∈C',t.2.2∈p_ w0 w1 w2 w3 w4 w5 t.2.1.nb g)→D.nx [aa (.c7 ns),aa (.int k),aa (.ref aw),aa (.ref at'),aa (.bl g),aa (.ref ab),aa (.int j),aa (.ref al),x7,x8,x9,x10] (bR S ab (.bP ((C++C').map mK))))→
  mO (pB (nQ (mx 8) (nQ (mx 9) o6))) (Ex (r+6) mH) E D G (pN i (af ls)) [aa (.c7 ns),aa (.int k),aa (.ref aw),aa (.ref at'),aa (.bl g),aa (.ref ab),aa (.int j),aa (.ref al),x7,x8,x9,x10] S
 | [],i,C,S,G,x7,x8,x9,x10,hL,hl,hb,hw,ht,n1,n2,hG,h=>by
  simp only[af,pN,mO];have:=h [] x7 x8 x9 x10 rfl (λz=>by simpa using z) (λ_ h=>nomatch h)
  rw[bg,sA hb]at this;exact this
 |L::ls,i,C,S,G,x7,x8,x9,x10,hL,hl,hb,hw,ht,n1,n2,hG,h=>by
  have hLd:=hL L aK;simp only[aU]at hl;simp only[af,pN];refine pU λN hN=>?_;simp only[Ex];ext;refine Du (r:=r+5) 4 hLd.1 (by lia) (by lia) ?_
  try dsimp only
  refine Za (r:=r+5) hLd.2.2 g hw λS1 rr sb hrr=>?_
  try ext
  refine⟨.inl ⟨by decide,by decide⟩,xL (r:=r+5) (by lia) λdraw=>?_⟩
  try ext
  obtain⟨ti,eti,_⟩:=Qz (ss:=tt) (i:=(C.length:Int)) (by lia) (by lia);simp only[m8 (sb _ _ hb),m8 (sb _ _ ht),ay,eti,true_and,m8 hrr,pH];have rl:=XS (w0:=w0) (w1:=w1) (w2:=w2) (w3:=w3) (w4:=w4) (w5:=w5) (m:=L.nb) g;obtain⟨R,hRm,hRe⟩:=Us (Rs:=p_ w0 w1 w2 w3 w4 w5 L.nb g) (d:=draw) (by lia);have hR:=hRm
  try ext
  refine⟨by lia,?_⟩
  try simp only[m8 hrr,hRe]
  try ext
  try simp only[m8 (sb _ _ hb),ay]
  refine⟨m7 (by decide),qE (by lia),?_⟩;refine hN _ _ (bR S ab (.bP ((C++[(ti,L,R)]).map mK))) (by rw[bK];exact Bd sb) (hG _) ?_;refine Ng h6 k0 j0 ls (C:=C++[(ti,L,R)]) (λM hM=>hL M (aI _ hM)) (by simp;lia) mR (by rw[nO (bz n1)];exact hw) (by rw[nO (bz n2)];exact ht) n1 n2 (λo=>by rw[pI];exact hG o) λC' x7 x8 x9 x10 e1 e2 e3=>?_
  rw[pI];have:=h ((ti,L,R)::C') x7 x8 x9 x10 (by rw[aC,e1]) (λz=>?_) (λt ht'=>?_)
  ·simpa using this
  ·have e:C++[(ti,L,R)]++C'=C++(ti,L,R)::C':=by simp
   rw[e]at e2;refine e2 ?_;rw[bK,z,bc,cB,lP];congr 1;have e4:(tt.map W.str)[C.length]? =aa (.str ti):=by rw[←sf];exact eti
   rw[aV]at e4;cases q:tt[C.length]? with
   |none=>rw[q]at e4;cases e4
   |some y=>rw[q]at e4;cases e4;rfl
  ·obtain rfl |z:=az.mp ht'
   ·exact hR
   ·exact e3 t z
def ZF{E:ah→lr→Prop}(h6:tt.length=6) (k0:0≤k) (hw:S aw=aa (.bP (qq w0 w1 w2 w3 w4 w5))) (ht:S at'=aa (.bP (tt.map W.str)))
  (h:∀(p:ai) (B:List Tn) (n m:Nat),S p=none→B.map (λt=>t.2.1)=bO n w0 w2 w3++bO m w1 w2 w3→B.map (λt=>t.1)=tt.take B.length→(∀t∈B,t.2.2∈p_ w0 w1 w2 w3 w4 w5 t.2.1.nb g)→Q (.ref p) (bR S p (.bP (B.map mK)))):BP (r+7) [.c7 ns, .int k, .ref aw, .ref at', .bl g] S Q E:=by
 rw[show r+7=r+6+1 from rfl,BP];ext;refine⟨aP _,λab hb=>⟨⟨by decide,by decide⟩,?_⟩⟩
 refine JV (λi σ S'=>∃(B:List Tn) (f:Nat→Nat) (x5 x6 x7 x8 x9 x10:Option W),B.map (λt=>t.2.1)=(bx i).flatMap (λj=>bO (f j) (r_ w0 w1 j) w2 w3)∧B.map (λt=>t.1)=tt.take B.length∧(∀t∈B,t.2.2∈p_ w0 w1 w2 w3 w4 w5 t.2.1.nb g)∧S'=bR S ab (.bP (B.map mK))∧
  σ=[aa (.c7 ns),aa (.int k),aa (.ref aw),aa (.ref at'),aa (.bl g),aa (.ref ab),x5,x6,x7,x8,x9,x10]) 2 ?_ ?_ ⟨[],λ_=>0,none,none,none,none,none,none,rfl,rfl,(λ_ h=>nomatch h),rfl,rfl⟩
 ·rintro j hj σ S' N ⟨B,f,x5,x6,x7,x8,x9,x10,e1,e2,e3,rfl,rfl⟩ hN;have fw:bR S ab (Ob.bP (B.map mK)) aw=aa (.bP (qq w0 w1 w2 w3 w4 w5)):=keep hw hb;have ft:bR S ab (Ob.bP (B.map mK)) at'=aa (.bP (tt.map W.str)):=keep ht hb;have fb:bR S ab (Ob.bP (B.map mK)) ab=aa (.bP (B.map mK)):=mR;have n1:ab≠aw:=λz=>by rw[z,hw]at hb;cases hb
  have n2:ab≠at':=λz=>by rw[z,ht]at hb;cases hb
  have eh:nC (qq w0 w1 w2 w3 w4 w5) (j:Int)=aa (.str (r_ w0 w1 j)):=by
   rcases(show j=0∨j=1 by lia) with rfl |rfl<;>rfl
  simp only[IG];ext;refine xL (by lia) λdraw=>?_;ext;simp only[m8 fw,eh,pP,p5];refine⟨by decide,RR λal n hal=>?_⟩;have hl:=Bs n (r_ w0 w1 j) w2 w3;have hB:B.length≤4:=by
   have:=congrArg dE e1;rw[ay]at this;rcases(show j=0∨j=1 by lia) with rfl |rfl
   ·simp at this;rw[this];simp
   ·simp at this;have:=Bs (f 0) (r_ w0 w1 0) w2 w3;lia
  have nal:al≠ab:=λz=>by rw[z,fb]at hal;cases hal
  try ext
  refine Ng (g:=g) h6 k0 (by lia) (bO n (r_ w0 w1 j) w2 w3) (E8 _ _ _ _) (by lia) (keep fb hal) (keep fw hal) (keep ft hal) n1 n2 (λo=>?_) λC' x7 x8 x9 x10 g1 g2 g3=>?_
  ·rw[nO nal,mR]
  ·refine hN _ _ (bR S ab (.bP ((B++C').map mK))) ?_ ⟨B++C',λi=>if i=j then n else f i,_,_,_,_,_,_,?_,g2 e2,λt ht'=>?_,rfl,rfl⟩
   ·rw[Om nal];exact .bR .refl (by rw[nO nal];exact(qU hal).1)
   ·rw[bK,e1,g1,gw,kf];congr 1
    ·rw[lL,lL];congr 1;refine dc λi hi=>?_;have:=f_.mp hi;dsimp only;rw[if_neg (by lia)]
    ·simp
   ·obtain z |z:=bq.mp ht'
    ·exact e3 t z
    ·exact g3 t z
 ·rintro σ S' ⟨B,f,x5,x6,x7,x8,x9,x10,e1,e2,e3,rfl,rfl⟩;ext;refine⟨_, .refl,h ab B (f 0) (f 1) hb ?_ e2 e3⟩;rw[e1];simp [gw,r_]
end
mutual
def Tr.ord (k:Nat):Tr→Option Nat
 | .bl n=>if n=(k:Int) then aa (k+1) else none
 | .nd _ ts=>rY k ts
def rY (k:Nat):List Tr→Option Nat
 | []=>aa k
 |t::ts=>match t.ord k with
  |some m=>rY m ts
  |none=>none
end
def AX (B:List Tn) (z:ah):Prop:=∀u∈B,∀s ls,u.2.1= .nd s ls→s≠z
structure qS (B:List Tn):Prop where
  inn:∀t∈B,∃s ls,t.2.1= .nd s ls∧oy (AX B) ls
  mt:E5 B
  fm:∀t∈B,∀x ys,t.2.1.mt x=aa ys→x=t.2.1.aD ys∧ys.length=t.2.1.nb
  one:∀u∈B,∀v∈B,∀x:Tr,(u.2.1.mt x).isSome=true→(v.2.1.mt x).isSome=true→u=v
  od:∀t∈B,t.2.1.ord 0=aa t.2.1.nb
mutual
theorem LL:∀(L x:Tr) (ys:List Tr) (k m:Nat),L.ord k=aa m→L.mt x=aa ys→ys.length+k=m∧ ∀pre post:List Tr,pre.length=k→L.aD (pre++ys++post)=x
 | .bl n,x,ys,k,m,h,e=>by
  rw[Tr.ord]at h;split at h
  ·rename_i hn;cases h;rw[Tr.mt]at e;cases e;refine⟨by simp;lia,λpre post hp=>?_⟩;rw[Tr.aD,hn,bb,bv,bD,jp (by lia),hp,gO];rfl
  ·cases h
 | .nd s ls, .bl n,ys,k,m,h,e=>by rw[Tr.mt]at e;cases e
 | .nd s ls, .nd z us,ys,k,m,h,e=>by
  rw[Tr.mt]at e;split at e
  ·rename_i hc;rw[bT,beq_iff_eq,beq_iff_eq]at hc;rw[Tr.ord]at h;obtain⟨h1,h2⟩:=JN ls us ys k m hc.2 h e;exact⟨h1,λpre post hp=>by rw[Tr.aD,h2 pre post hp,hc.1]⟩
  ·cases e
theorem JN:∀(ls us ys:List Tr) (k m:Nat),ls.length=us.length→rY k ls=aa m→nM ls us=aa ys→ys.length+k=m∧ ∀pre post:List Tr,pre.length=k→aF (pre++ys++post) ls=us
 | [],us,ys,k,m,hl,h,e=>by
  rw[rY]at h;cases h;rw[nM]at e;cases e;cases us with
  |nil=>exact⟨by simp,λ_ _ _=>by rw[aF]⟩
  |cons _ _=>cases hl
 |l::ls,[],ys,k,m,hl,h,e=>by cases hl
 |l::ls,u::us,ys,k,m,hl,h,e=>by
  rw[rY]at h;rw[nM]at e;cases q:l.ord k with
  |none=>rw[q]at h;cases h
  |some j=>
   rw[q]at h;cases q1:l.mt u with
   |none=>rw[q1]at e;cases e
   |some xs=>
    rw[q1]at e;cases q2:nM ls us with
    |none=>rw[q2]at e;cases e
    |some zs=>
     rw[q2]at e;cases e;obtain⟨h1,h2⟩:=LL l u xs k j q q1;obtain⟨h3,h4⟩:=JN ls us zs j m (by simpa using hl) h q2;refine⟨by rw[bc];lia,λpre post hp=>?_⟩;rw[aF];have e1:=h2 pre (zs++post) hp;have e2:=h4 (pre++xs) post (by rw[bc];lia);have a1:pre++(xs++zs)++post=pre++xs++(zs++post):=by simp
     have a2:pre++(xs++zs)++post=pre++xs++zs++post:=by simp
     rw[a1,e1,←a1,a2,e2]
end
def MV (hL:L∈bO n h c d):L.ord 0=aa L.nb:=by
 unfold bO at hL;split at hL<;>simp only[az,bp,or_false]at hL
 all_goals first
  | (subst hL;simp [Tr.ord,rY,Tr.nb,nbs])
  | (rcases hL with rfl |rfl<;>simp [Tr.ord,rY,Tr.nb,nbs])
def AV{P:ah→Prop}(hc:P c) (hd:P d) (hL:L∈bO n h c d):∃ls,L= .nd h ls∧oy P ls:=by
 unfold bO at hL;split at hL<;>simp only[az,bp,or_false]at hL
 all_goals first
  | (subst hL;exact⟨_,rfl,by simp [oy,Tr.hb,hc,hd]⟩)
  | (rcases hL with rfl |rfl<;>exact⟨_,rfl,by simp [oy,Tr.hb,hc,hd]⟩)
def mF.mem_lefts (b:mF w0 w1 w2 w3 w4 w5 tt B) (ht:t∈B):∃n,t.2.1∈bO n w0 w2 w3∨t.2.1∈bO n w1 w2 w3:=by
 obtain⟨n,m,e⟩:=b.lf;have:t.2.1∈bO n w0 w2 w3++bO m w1 w2 w3:=by rw[←e];exact aT.mpr ⟨t,ht,rfl⟩
 obtain z |z:=bq.mp this
 ·exact⟨n, .inl z⟩
 ·exact⟨m, .inr z⟩
def mF.ort (b:mF w0 w1 w2 w3 w4 w5 tt B) (G:nT w0 w1 w2 w3 w4 w5):qS B:=by
 have top:∀z,z≠w0→z≠w1→AX B z:=λz h0 h1 u hu s ls e=>by
  obtain⟨n,z |z⟩:=b.mem_lefts hu
  ·obtain⟨l,e',_⟩:=AV (P:=λ_=>True) trivial trivial z;rw[e]at e';cases e';exact h0.symm
  ·obtain⟨l,e',_⟩:=AV (P:=λ_=>True) trivial trivial z;rw[e]at e';cases e';exact h1.symm
 have t2:=top w2 (G.n0 w2 (by simp)).symm (G.n1 w2 (by simp)).symm;have t3:=top w3 (G.n0 w3 (by simp)).symm (G.n1 w3 (by simp)).symm;have od:∀t∈B,t.2.1.ord 0=aa t.2.1.nb:=λt ht=>by
  obtain⟨n,z |z⟩:=b.mem_lefts ht
  ·exact MV z
  ·exact MV z
 refine⟨λt ht=>?_,b.mt,λt ht x ys e=>?_,λu hu v hv x h1 h2=>Ci (b.inj G) hu hv (b.one G hu hv h1 h2),od⟩
 ·obtain⟨n,z |z⟩:=b.mem_lefts ht
  ·obtain⟨l,e',h⟩:=AV t2 t3 z;exact⟨_,_,e',h⟩
  ·obtain⟨l,e',h⟩:=AV t2 t3 z;exact⟨_,_,e',h⟩
 ·have ho:=od t ht;obtain⟨h1,h2⟩:=LL _ _ _ _ _ ho e;have:=h2 [] [] rfl;simp only[aX,bg]at this;exact⟨this.symm,by lia⟩
structure Wy (ws:List ah) (B:List Tn) (a:Tr):Prop where
  hd:a.hd λs=>s∈ws∨ ∃t∈B,t.1=s
  ar:a.ar B
abbrev ak (B:List Tn) (a:Tr):Tr:=a.mk B λt=>t.2.1
abbrev b7 (B:List Tn) (a:Tr):Tr:=a.mk B λt=>t.2.2
theorem FC{P:ah→Prop}:∀{ts:List Tr}{t:Tr},hds P ts→t∈ts→t.hd P
 |u::ts,t,h,ht=>by
  rw[hds]at h;obtain rfl |ht:=az.mp ht
  ·exact h.1
  ·exact FC h.2 ht
theorem CU:∀{ts:List Tr}{t:Tr},rL B ts→t∈ts→t.ar B
 |u::ts,t,h,ht=>by
  rw[rL]at h;obtain rfl |ht:=az.mp ht
  ·exact h.1
  ·exact CU h.2 ht
theorem Wy.cases (b:ox ws ws B) (h:Wy ws B a):(∃s as,a= .nd s as∧s∈ws∧m9 B s=none∧ ∀x∈as,Wy ws B x)∨(∃t as,t∈B∧a= .nd t.1 as∧m9 B t.1=aa t∧as.length=t.2.1.nb∧ ∀x∈as,Wy ws B x):=by
 obtain⟨h1,h2⟩:=h;cases a with
 |bl n=>rw[Tr.hd]at h1;exact h1.elim
 |nd s as=>
  rw[Tr.hd]at h1;rw[Tr.ar]at h2;have dA:∀x∈as,Wy ws B x:=λx hx=>⟨FC h1.2 hx,CU h2.2 hx⟩;obtain h |⟨t,ht,rfl⟩:=h1.1
  ·exact .inl ⟨s,as,rfl,h,qg b.ti (b.sg s h),dA⟩
  ·have e:=qZ b.nd ht;exact .inr ⟨t,as,ht,rfl,e,h2.1 t e,dA⟩
def qb{g:Tn→Tr}(h:m9 B s=none):(Tr.nd s as).mk B g= .nd s (as.map (Tr.mk B g)):=by
 rw[Tr.mk,h,wE]
def p6{g:Tn→Tr}(h:m9 B t.1=aa t):(Tr.nd t.1 as).mk B g=(g t).aD (as.map (Tr.mk B g)):=by
 rw[Tr.mk,h,wE]
mutual
theorem Sv (b:ox ws ws B) (O:qS B):∀(L a:Tr),L.hb (AX B)→Wy ws B a→(L.mt (ak B a)).isSome=true→(L.mt a).isSome=true
 | .bl n,a,_,_,_=>by rw[Tr.mt];rfl
 | .nd z ls,a,hL,ha,h=>by
  rw[Tr.hb]at hL;obtain ⟨s,as,rfl,hs,e,dA⟩ |⟨t,as,ht,rfl,e,hl,dA⟩:=ha.cases b
  ·rw[show ak B (.nd s as)= .nd s (as.map (ak B)) from qb e,Tr.mt,ay]at h;rw[Tr.mt];split at h
   ·rename_i hc;rw[if_pos hc];exact EI b O ls as hL.2 dA h
   ·cases h
  ·obtain⟨s0,l0,e0,_⟩:=O.inn t ht;rw[show ak B (.nd t.1 as)=t.2.1.aD (as.map (ak B)) from p6 e,e0,Tr.aD]at h;exact absurd (yw h).symm (hL.1 t ht s0 l0 e0)
theorem EI (b:ox ws ws B) (O:qS B):∀(ls as:List Tr),oy (AX B) ls→(∀x∈as,Wy ws B x)→(nM ls (as.map (ak B))).isSome=true→(nM ls as).isSome=true
 | [],as,_,_,_=>by rw[nM];rfl
 |l::ls,[],_,_,_=>by rw[nM];rfl
 |l::ls,a::as,hL,ha,h=>by
  rw[oy]at hL;rw[aC,nM]at h;cases q1:l.mt (ak B a) with
  |none=>rw[q1]at h;cases h
  |some xs=>
   rw[q1]at h;cases q2:nM ls (as.map (ak B)) with
   |none=>rw[q2]at h;cases h
   |some zs=>
    have h1:=Sv b O l a hL.1 (ha a (by simp)) (by rw[q1];rfl);have h2:=EI b O ls as hL.2 (λx hx=>ha x (aI _ hx)) (by rw[q2];rfl);obtain⟨x1,h1⟩:=dL.mp h1;obtain⟨x2,h2⟩:=dL.mp h2;rw[nM,h1,h2];rfl
end
def Wy.dA (h:Wy ws B (.nd s as)):∀x∈as,Wy ws B x:=λx hx=>by
 obtain⟨h1,h2⟩:=h;rw[Tr.hd]at h1;rw[Tr.ar]at h2;exact⟨FC h1.2 hx,CU h2.2 hx⟩
mutual
theorem Ga:∀(L a:Tr) (ys:List Tr),L.mt a=aa ys→Wy ws B a→ ∀y∈ys,Wy ws B y
 | .bl n,a,ys,e,h,y,hy=>by
  rw[Tr.mt]at e;cases e;rw[bh]at hy;rw[hy];exact h
 | .nd s ls, .bl n,ys,e,h,y,hy=>by rw[Tr.mt]at e;cases e
 | .nd s ls, .nd z us,ys,e,h,y,hy=>by
  rw[Tr.mt]at e;split at e
  ·exact Gh ls us ys e h.dA y hy
  ·cases e
theorem Gh:∀(ls us ys:List Tr),nM ls us=aa ys→(∀x∈us,Wy ws B x)→ ∀y∈ys,Wy ws B y
 | [],us,ys,e,h,y,hy=>by rw[nM]at e;cases e;cases hy
 |l::ls,[],ys,e,h,y,hy=>by rw[nM]at e;cases e;cases hy
 |l::ls,u::us,ys,e,h,y,hy=>by
  rw[nM]at e;cases q1:l.mt u with
  |none=>rw[q1]at e;cases e
  |some xs=>
   rw[q1]at e;cases q2:nM ls us with
   |none=>rw[q2]at e;cases e
   |some zs=>
    rw[q2]at e;cases e;obtain hy |hy:=bq.mp hy
    ·exact Ga l u xs q1 (h u (by simp)) y hy
    ·exact Gh ls us zs q2 (λx hx=>h x (aI _ hx)) y hy
end
def Kp (b:ox ws ws B) (ht:t∈B) (hl:vs.length=t.2.1.nb) (g:Tn→Tr):(t.2.1.aD vs).mk B g=t.2.1.aD (vs.map (Tr.mk B g)):=
 Bg b.ti _ (b.lf t ht).hb (by rw[hl];exact(b.lf t ht).br)
def D5 (b:ox ws ws B) (O:qS B) (ht:t∈B) (e:m9 B s=none) (hw:Wy ws B (.nd s bs)) (hl:us.length=t.2.1.nb) (h:ak B (.nd s bs)=t.2.1.aD us) :
  ∃vs, .nd s bs=t.2.1.aD vs∧vs.length=t.2.1.nb∧vs.map (ak B)=us∧(∀x∈vs,Wy ws B x)∧mJ vs≤(Tr.nd s bs).aq:=by
 obtain⟨s0,ls,e0,hin⟩:=O.inn t ht;have hm:t.2.1.mt (ak B (.nd s bs))=aa us:=by rw[h];exact O.mt t ht us hl
 have h1:(t.2.1.mt (.nd s bs)).isSome=true:=by
  have hm':=hm;rw[show ak B (.nd s bs)= .nd s (bs.map (ak B)) from qb e,e0,Tr.mt,ay]at hm';rw[e0,Tr.mt];split at hm'
  ·rename_i hc;rw[if_pos hc];exact EI b O ls bs hin hw.dA (by rw[hm'];rfl)
  ·cases hm'
 obtain⟨vs,hv⟩:=dL.mp h1;obtain⟨h2,h3⟩:=O.fm t ht _ _ hv;refine⟨vs,h2,h3,?_,Ga _ _ _ hv hw,Iq _ _ _ hv⟩;rw[h2,show ak B (t.2.1.aD vs)=_ from Kp b ht h3 _,O.mt t ht _ (by rw[ay,h3])]at hm;exact aL hm
def vJ:(Tr.nd s as).aq=1+mJ as:=by rw[Tr.aq]
inductive wN (P:Int→Prop):Pl→Prop
 |sign {b:Int}{h:ah}{ps:List Pl}:(∀p∈ps,wN P p)→wN P (.nd (-1) b h ps)
 |turn {k:Nat}{b:Int}{h:ah}{ps:List Pl}:P b→(∀p∈ps,wN P p)→wN P (.nd k b h ps)
def yl (x:Int):Prop:=x=1∨x=2∨x=3
theorem CG (b:ox ws ws B) (O:qS B):∀(n:Nat) (x y:Tr),x.aq+y.aq≤n→Wy ws B x→Wy ws B y→ak B x=ak B y→ ∃p,nF ws B p∧wN yl p∧p.ev B (nI 1)=x∧p.ev B (nI 2)=y
 |0,x,y,hn,hx,hy,e=>by
  rcases hx.cases b with⟨s,as,rfl,_⟩ |⟨t,as,_,rfl,_⟩<;>rw[vJ]at hn<;>lia
 |n+1,x,y,hn,hx,hy,e=>by
  have lists:∀(xs ys:List Tr),mJ xs+mJ ys≤n→(∀x∈xs,Wy ws B x)→(∀y∈ys,Wy ws B y)→xs.map (ak B)=ys.map (ak B)→ ∃ps:List Pl,(∀p∈ps,nF ws B p)∧(∀p∈ps,wN yl p)∧ps.map (Pl.ev B (nI 1))=xs∧ps.map (Pl.ev B (nI 2))=ys:=by
   intro xs
   induction xs with
   |nil=>
    intro ys _ _ _ e;cases ys with
    |nil=>exact⟨[],by simp,by simp,rfl,rfl⟩
    |cons y ys=>cases e
   |cons x xs ih=>
    intro ys hw h1 h2 e;cases ys with
    |nil=>cases e
    |cons y ys=>
     rw[aC,aC,fQ]at e;rw[mJ,mJ]at hw;obtain⟨p,hp,hq,e1,e2⟩:=CG b O n x y (by lia) (h1 x (by simp)) (h2 y (by simp)) e.1;obtain⟨ps,hps,hqs,e3,e4⟩:=ih ys (by lia) (λz hz=>h1 z (aI _ hz)) (λz hz=>h2 z (aI _ hz)) e.2;exact⟨p::ps,λq hq=>by
      obtain rfl |hq:=az.mp hq
      ·exact hp
      ·exact hps q hq,λq hz=>by
      obtain rfl |hz:=az.mp hz
      ·exact hq
      ·exact hqs q hz,by rw[aC,e1,e3],by rw[aC,e2,e4]⟩
  obtain ⟨s,as,rfl,hs,es,ka⟩ |⟨t,as,ht,rfl,et,la,ka⟩:=hx.cases b
  ·obtain ⟨s',bs,rfl,hs',es',kb⟩ |⟨t,bs,ht,rfl,et,lb,kb⟩:=hy.cases b
   ·rw[show ak B (.nd s as)=_ from qb es,show ak B (.nd s' bs)=_ from qb es']at e;injection e with e1 e2;subst e1;rw[vJ,vJ]at hn;obtain⟨ps,hps,hqs,e3,e4⟩:=lists as bs (by lia) ka kb e2;exact⟨.nd (-1) 0 s ps, .sign hs hps, .sign hqs,by rw[qe,e3],by rw[qe,e4]⟩
   ·rw[show ak B (.nd t.1 bs)=_ from p6 et]at e;obtain⟨vs,ev,lv,ms,kv,wv⟩:=D5 b O ht es hx (by rw[ay,lb]) e;rw[vJ (s:=t.1)]at hn;obtain⟨ps,hps,hqs,e3,e4⟩:=lists vs bs (by lia) kv kb ms;obtain⟨k,hk⟩:=jk ht;refine⟨.nd k 2 t.1 ps, .turn hk (by rw[←lb,←e4,ay]) (by decide) (by decide) hps, .turn (by unfold yl;decide) hqs,?_,?_⟩
    ·rw[pZ hk,e3,ev,show nI 1 2=0 by decide];rfl
    ·rw[pZ hk,e4,show nI 2 2=1 by decide];rfl
  ·obtain ⟨s,bs,rfl,hs,es,kb⟩ |⟨u,bs,hu,rfl,eu,lb,kb⟩:=hy.cases b
   ·rw[show ak B (.nd t.1 as)=_ from p6 et]at e;obtain⟨vs,ev,lv,ms,kv,wv⟩:=D5 b O ht es hy (by rw[ay,la]) e.symm;rw[vJ (s:=t.1)]at hn;obtain⟨ps,hps,hqs,e3,e4⟩:=lists as vs (by lia) ka kv ms.symm;obtain⟨k,hk⟩:=jk ht;refine⟨.nd k 1 t.1 ps, .turn hk (by rw[←la,←e3,ay]) (by decide) (by decide) hps, .turn (by unfold yl;decide) hqs,?_,?_⟩
    ·rw[pZ hk,e3,show nI 1 1=1 by decide];rfl
    ·rw[pZ hk,e4,ev,show nI 2 1=0 by decide];rfl
   ·rw[show ak B (.nd t.1 as)=_ from p6 et,show ak B (.nd u.1 bs)=_ from p6 eu]at e;have m1:=O.mt t ht (as.map (ak B)) (by rw[ay,la]);have m2:=O.mt u hu (bs.map (ak B)) (by rw[ay,lb]);have:t=u:=O.one t ht u hu _ (by rw[m1];rfl) (by rw[show(t.2.1.aD (as.map (ak B)))=_ from e,m2];rfl)
    subst this;have e2:as.map (ak B)=bs.map (ak B):=by
     rw[show(t.2.1.aD (as.map (ak B)))=_ from e,m2]at m1;exact(aL m1).symm
    rw[vJ,vJ]at hn;obtain⟨ps,hps,hqs,e3,e4⟩:=lists as bs (by lia) ka kb e2;obtain⟨k,hk⟩:=jk ht;refine⟨.nd k 3 t.1 ps, .turn hk (by rw[←la,←e3,ay]) (by decide) (by decide) hps, .turn (by unfold yl;decide) hqs,?_,?_⟩
    ·rw[pZ hk,e3,show nI 1 3=1 by decide];rfl
    ·rw[pZ hk,e4,show nI 2 3=1 by decide];rfl
theorem NZ:∀xs ys:List Tr,mJ (xs++ys)=mJ xs+mJ ys
 | [],ys=>by rw[aX,mJ,bG]
 |x::xs,ys=>by rw[ck,mJ,mJ,NZ xs ys,Nat.add_assoc]
mutual
theorem E1:∀(L:Tr) (k m:Nat),L.ord k=aa m→k≤m∧L.nb+k=m∧ ∀(us:List Tr),m≤us.length→(L.aD us).aq+(m - k)=L.aq+mJ ((us.drop k).take (m - k))∧ ∀u∈(us.drop k).take (m - k),u.depth≤(L.aD us).depth
 | .bl n,k,m,h=>by
  rw[Tr.ord]at h;split at h
  ·rename_i hn;cases h;refine⟨by lia,by rw[Tr.nb];lia,λus hu=>?_⟩
   have hk:k<us.length:=by lia
   have e:(us.drop k).take (k+1 - k)=[us[k]]:=by
    rw[show k+1 - k=1 by lia,gf hk]
    rfl
   have f:(Tr.bl n).aD us=us[k]:=by
    rw[Tr.aD,hn,bb,bv,aS hk];rfl
   rw[e,f];refine⟨?_,λu hu=>?_⟩
   ·simp only[Tr.aq,mJ];lia
   ·rw[bh]at hu;rw[hu];exact aA _
  ·cases h
 | .nd s ls,k,m,h=>by
  rw[Tr.ord]at h;obtain⟨h1,h2,h3⟩:=AK ls k m h;refine⟨h1,by rw[Tr.nb];exact h2,λus hu=>?_⟩
  obtain⟨h4,h5⟩:=h3 us hu;rw[Tr.aD,Tr.aq,Tr.aq,Tr.depth];exact⟨by lia,λu hu'=>aY (h5 u hu') (by lia)⟩
theorem AK:∀(ls:List Tr) (k m:Nat),rY k ls=aa m→k≤m∧nbs ls+k=m∧ ∀(us:List Tr),m≤us.length→mJ (aF us ls)+(m - k)=mJ ls+mJ ((us.drop k).take (m - k))∧ ∀u∈(us.drop k).take (m - k),u.depth≤m_ (aF us ls)
 | [],k,m,h=>by
  rw[rY]at h;cases h;refine⟨aA _,by rw[nbs];lia,λus _=>?_⟩
  rw[gO,lF,aF];exact⟨rfl,λu hu=>by cases hu⟩
 |l::ls,k,m,h=>by
  rw[rY]at h;cases q:l.ord k with
  |none=>rw[q]at h;cases h
  |some j=>
   rw[q]at h;obtain⟨h1,h2,h3⟩:=E1 l k j q;obtain⟨g1,g2,g3⟩:=AK ls j m h;refine⟨by lia,by rw[nbs];lia,λus hu=>?_⟩
   obtain⟨h4,h5⟩:=h3 us (by lia);obtain⟨g4,g5⟩:=g3 us hu;have e:(us.drop k).take (m - k)=(us.drop k).take (j - k)++(us.drop j).take (m - j):=by
    rw[show m - k=(j - k)+(m - j) by lia,kJ,kD,show k+(j - k)=j by lia]
   rw[e,NZ,aF,mJ,mJ,m_];refine⟨by lia,λu hu=>?_⟩;obtain hu |hu:=bq.mp hu
   ·have:=h5 u hu;lia
   ·have:=g5 u hu;lia
end
def Zw:∀(L:Tr),L.nb≤L.aq:=λL=>by rw[←Di];exact yA L
theorem Nf:∀ls:List Tr,nbs ls≤mJ ls
 | []=>by rw[nbs,mJ];exact aA _
 |l::ls=>by rw[nbs,mJ];have:=Zw l;have:=Nf ls;lia
def qS.aD (O:qS B) (ht:t∈B) (hl:us.length=t.2.1.nb):(t.2.1.aD us).aq+t.2.1.nb=t.2.1.aq+mJ us∧1+mJ us≤(t.2.1.aD us).aq∧1+m_ us≤(t.2.1.aD us).depth:=by
 obtain⟨s,ls,e,_⟩:=O.inn t ht;have ho:=O.od t ht;obtain⟨_,h2,h3⟩:=E1 _ _ _ ho;obtain⟨h4,_⟩:=h3 us (by lia);rw[fD,dI,dB (by lia)]at h4;have hw:1+t.2.1.nb≤t.2.1.aq:=by
  rw[e,Tr.nb,Tr.aq];have:=Nf ls;lia
 refine⟨h4,by lia,?_⟩
 rw[e]at ho hl⊢;rw[Tr.ord]at ho;obtain⟨_,_,g3⟩:=AK _ _ _ ho;obtain⟨_,g5⟩:=g3 us (by lia);rw[fD,dI,dB (by lia)]at g5;rw[Tr.aD,Tr.depth];have:=Ha g5;lia
def zr:Int→Nat:=λ_=>0
section
variable {B:List Tn}
mutual
def Tr.ne (B:List Tn):Tr→Nat
 | .bl _=>0
 | .nd s ts=>(match m9 B s with
  |none=>0
  |some _=>1)+ow B ts
def ow (B:List Tn):List Tr→Nat
 | []=>0
 |t::ts=>max (t.ne B) (ow B ts)
end
theorem xG:∀{ts:List Tr},t∈ts→t.ne B≤ow B ts
 |u::ts,h=>by
  rw[ow];obtain rfl |h:=az.mp h
  ·lia
  ·have:=xG h;lia
theorem uy:∀{ts:List Tr},(∀t∈ts,t.ne B≤n)→ow B ts≤n
 | [],_=>by rw[ow];lia
 |t::ts,h=>by
  rw[ow];have:=h t (by simp);have:=uy λu hu=>h u (aI _ hu);lia
mutual
theorem Co (hB:∀t∈B,p8 t.1):∀t:Tr,t.hb ov→(t.aD us).ne B≤ow B us
 | .bl n,_=>by
  rw[Tr.aD,bv];cases e:us[n.toNat]? with
  |none=>simp [Tr.ne]
  |some u=>exact xG (aJ e)
 | .nd s ts,h=>by
  rw[Tr.hb]at h;rw[Tr.aD,Tr.ne,qg hB h.1];have:=Mc hB (us:=us) ts h.2;simpa using this
theorem Mc (hB:∀t∈B,p8 t.1):∀ts:List Tr,oy ov ts→ow B (aF us ts)≤ow B us
 | [],_=>by rw[aF,ow];lia
 |t::ts,h=>by
  rw[oy]at h;rw[aF,ow];have:=Co hB (us:=us) t h.1;have:=Mc hB (us:=us) ts h.2;lia
end
mutual
theorem Hb:∀(L:Tr) (k m:Nat),L.ord k=aa m→ ∀(us:List Tr),m≤us.length→ ∀u∈(us.drop k).take (m - k),u.ne B≤(L.aD us).ne B
 | .bl n,k,m,h,us,hu,u,hm=>by
  rw[Tr.ord]at h;split at h
  ·rename_i hn;cases h;have hk:k<us.length:=by lia
   have e:(us.drop k).take (k+1 - k)=[us[k]]:=by
    rw[show k+1 - k=1 by lia,gf hk]
    rfl
   have f:(Tr.bl n).aD us=us[k]:=by
    rw[Tr.aD,hn,bb,bv,aS hk];rfl
   rw[e,bh]at hm;rw[f,hm];exact aA _
  ·cases h
 | .nd s ls,k,m,h,us,hu,u,hm=>by
  rw[Tr.ord]at h;have:=LN ls k m h us hu u hm;rw[Tr.aD,Tr.ne];lia
theorem LN:∀(ls:List Tr) (k m:Nat),rY k ls=aa m→ ∀(us:List Tr),m≤us.length→ ∀u∈(us.drop k).take (m - k),u.ne B≤ow B (aF us ls)
 | [],k,m,h,us,hu,u,hm=>by
  rw[rY]at h;cases h;rw[gO,lF]at hm;cases hm
 |l::ls,k,m,h,us,hu,u,hm=>by
  rw[rY]at h;cases q:l.ord k with
  |none=>rw[q]at h;cases h
  |some j=>
   rw[q]at h;obtain⟨h1,_,_⟩:=E1 l k j q;obtain⟨g1,_,_⟩:=AK ls j m h;have e:(us.drop k).take (m - k)=(us.drop k).take (j - k)++(us.drop j).take (m - j):=by
    rw[show m - k=(j - k)+(m - j) by lia,kJ,kD,show k+(j - k)=j by lia]
   rw[e]at hm;rw[aF,ow];obtain hm |hm:=bq.mp hm
   ·have:=Hb l k j q us (by lia) u hm;lia
   ·have:=LN ls j m h us hu u hm;lia
end
def qS.ne (O:qS B) (ht:t∈B) (hl:us.length=t.2.1.nb):ow B us≤(t.2.1.aD us).ne B:=uy λu hu=>by
 refine Hb _ _ _ (O.od t ht) us (by lia) u ?_;rw[fD,dI,dB (by lia)];exact hu
def KR{c:Int→Nat}{p:Pl}{ps:List Pl}(hp:p∈ps):(p.ev B c).ne B≤ow B (ps.map (Pl.ev B c)):=xG (aT.mpr ⟨p,hp,rfl⟩)
def Si{c d:Int→Nat}(b:ox ws ws B) (O:qS B) (hc:vw c) (hd:vw d) {p:Pl}(h:nF ws B p):(p.ev B (pL c d)).ne B≤(p.ev B c).ne B:=by
 induction h with
 | @sign b' h ps hh hp ih=>
  have:ow B (ps.map (Pl.ev B (pL c d)))≤ow B (ps.map (Pl.ev B c)):=uy λu hu=>by
   obtain⟨p,hp,rfl⟩:=aT.mp hu;exact aY (ih p hp) (KR hp)
  have e:=qg b.ti (b.sg h hh);rw[qe,qe,Tr.ne,Tr.ne,e];simpa using this
 | @turn k b' h ps t e hl b0 b1 hp ih=>
  have ht:t∈B:=aJ e;have key:ow B (ps.map (Pl.ev B (pL c d)))≤ow B (ps.map (Pl.ev B c)):=uy λu hu=>by
   obtain⟨p,hp,rfl⟩:=aT.mp hu;exact aY (ih p hp) (KR hp)
  have l1:(ps.map (Pl.ev B c)).length=t.2.1.nb:=by rw[ay,hl]
  have low:ow B (ps.map (Pl.ev B c))+c b'≤(rb t (c b') (ps.map (Pl.ev B c))).ne B:=by
   have:=hc b' b0 b1;by_cases h1:c b'=1
   ·rw[h1];show _≤(Tr.nd t.1 _).ne B;rw[Tr.ne,qZ b.nd ht];show _≤1+_;lia
   ·rw[show c b'=0 by lia]
    exact O.ne ht l1
  rw[pZ e,pZ e];refine aY ?_ low;have hp:pL c d b'=if d b'=1 then 2 else c b':=rfl;rw[hp];by_cases dz:d b'=1
  ·rw[if_pos dz];have:=Co b.ti (us:=ps.map (Pl.ev B (pL c d))) t.2.2 ((b.ri t ht).hb b.sg);show(t.2.2.aD _).ne B≤_;lia
  ·rw[if_neg dz];have:=hc b' b0 b1;by_cases h1:c b'=1
   ·rw[h1];show(Tr.nd t.1 _).ne B≤_;rw[Tr.ne,qZ b.nd ht];show 1+_≤_;lia
   ·rw[show c b'=0 by lia]
    have:=Co b.ti (us:=ps.map (Pl.ev B (pL c d))) t.2.1 (b.lf t ht).hb;show(t.2.1.aD _).ne B≤_;lia
end
mutual
theorem Mv.one:∀{n m:Nat}{a b c d:Tr},Mv B n a b c→Mv B m a b d→c=d
 |_,_,_,_,_,_, .nn h1 h2 h3,g=>by
  cases g with
  |nn g1 g2 g3=>rw[nW.one h3 g3]
  |ns g1 g2 g3 g4 g5=>rw[h2]at g2;cases g2
  |sn g1 g2 g3 g4=>rw[h1]at g1;cases g1
  |ss g1 g2 g3 g4=>rw[h1]at g1;cases g1
 |_,_,_,_,_,_, .ns h1 h2 h3 h4 h5,g=>by
  cases g with
  |nn g1 g2 g3=>rw[h2]at g2;cases g2
  |ns g1 g2 g3 g4 g5=>
   rw[h2]at g2;cases g2;rw[h3]at g3;cases g3;rw[nW.one h5 g5]
  |sn g1 g2 g3 g4=>rw[h1]at g1;cases g1
  |ss g1 g2 g3 g4=>rw[h1]at g1;cases g1
 |_,_,_,_,_,_, .sn h1 h2 h3 h4,g=>by
  cases g with
  |nn g1 g2 g3=>rw[h1]at g1;cases g1
  |ns g1 g2 g3 g4 g5=>rw[h1]at g1;cases g1
  |sn g1 g2 g3 g4=>
   rw[h1]at g1;cases g1;rw[h3]at g3;cases g3;rw[nW.one h4 g4]
  |ss g1 g2 g3 g4=>rw[h2]at g2;cases g2
 |_,_,_,_,_,_, .ss h1 h2 h3 h4,g=>by
  cases g with
  |nn g1 g2 g3=>rw[h1]at g1;cases g1
  |ns g1 g2 g3 g4 g5=>rw[h1]at g1;cases g1
  |sn g1 g2 g3 g4=>rw[h2]at g2;cases g2
  |ss g1 g2 g3 g4=>
   rw[h2]at g2;cases g2;rw[nW.one h4 g4]
theorem nW.one:∀{n m:Nat}{a b c d:List Tr},nW B n a b c→nW B m a b d→c=d
 |_,_,_,_,_,_, .nil,g=>by
  cases g;rfl
 |_,_,_,_,_,_, .cons h1 h2,g=>by
  cases g with
  |cons g1 g2=>rw[Mv.one h1 g1,nW.one h2 g2]
end
open Classical in
noncomputable def res (B:List Tn) (x y:Tr):Tr:=if h:∃z n,Mv B n x y z then choose h else x
def Mv.res (h:Mv B n x y z):res B x y=z:=by
 unfold L2.res;have e:∃z n,Mv B n x y z:=⟨z,n,h⟩;rw[dif_pos e];obtain⟨m,h'⟩:=lI e;exact Mv.one h' h
structure Bk3 (ws:List ah) (B:List Tn):Prop where
  b:ox ws ws B
  O:qS B
  lw:∀t∈B,t.2.1.hb λs=>s∈ws
structure Hz (ws:List ah) (B:List Tn):Prop extends Bk3 ws B where
  sl:O8 B
instance {ws:List ah}{B:List Tn}:Coe (Hz ws B) (Bk3 ws B):=⟨Hz.toBk3⟩
def Bk3.wy (K:Bk3 ws B) {c:Int→Nat}(h:nF ws B p):Wy ws B (p.ev B c):=by
 refine⟨?_,GF _ (RL K.b h)⟩
 induction h with
 | @sign b' h ps hh hp ih=>
  rw[qe,Tr.hd,mW];refine⟨.inl hh,λu hu=>?_⟩;obtain⟨p,hp,rfl⟩:=aT.mp hu;exact ih p hp
 | @turn k b' h ps t e hl b0 b1 hp ih=>
  have ht:t∈B:=aJ e;have hu:∀u∈ps.map (Pl.ev B c),u.hd λs=>s∈ws∨ ∃t∈B,t.1=s:=λu hu=>by
   obtain⟨p,hp,rfl⟩:=aT.mp hu;exact ih p hp
  rw[pZ e];unfold rb;split
  ·exact zB hu _ (HG (λs hs=> .inl hs) _ (K.lw t ht)) (by rw[ay,hl];exact(K.b.lf t ht).br)
  ·rw[Tr.hd,mW];exact⟨.inr ⟨t,ht,rfl⟩,hu⟩
  ·exact zB hu _ ((K.b.ri t ht).hb (λs hs=> .inl hs)) (by rw[ay,hl];exact(K.b.ri t ht).br)
structure xV (ws:List ah) (B:List Tn) (x y z:Tr):Prop where
  wy:Wy ws B z
  sr:ak B z=b7 B y
  go:b7 B z=b7 B (res B y x)
  ne:z.ne B≤x.ne B
def Zp (b:ox ws ws B) (h:nF ws B p):(p.ev B zr).ne B=0:=by
 induction h with
 | @sign b' h ps hh hp ih=>
  have:ow B (ps.map (Pl.ev B zr))≤0:=uy λu hu=>by
   obtain⟨p,hp,rfl⟩:=aT.mp hu;rw[ih p hp];exact aA _
  have e:=qg b.ti (b.sg h hh);rw[qe,Tr.ne,e];show 0+_=0;lia
 | @turn k b' h ps t e hl b0 b1 hp ih=>
  have ht:t∈B:=aJ e;have:ow B (ps.map (Pl.ev B zr))≤0:=uy λu hu=>by
   obtain⟨p,hp,rfl⟩:=aT.mp hu;rw[ih p hp];exact aA _
  have:=Co b.ti (us:=ps.map (Pl.ev B zr)) t.2.1 (b.lf t ht).hb;rw[pZ e];show(t.2.1.aD _).ne B=0;lia
def Bk3.ak (K:Bk3 ws B) (h:Wy ws B x):Wy ws B (ak B x)∧L2.ak B (ak B x)=L2.ak B x∧(L2.ak B x).ne B=0∧b7 B (L2.ak B x)=L2.ak B x:=by
 obtain⟨p,hp,_,rfl,_⟩:=CG K.b K.O _ x x (aA _) h h rfl;have e:L2.ak B (p.ev B (nI 1))=p.ev B zr:=by
  show(p.ev B (nI 1)).mk B (λt=>t.2.1)=_;rw[wA K.b hp];exact vR hp (td 1).ak
 rw[e];refine⟨K.wy hp,?_,Zp K.b hp,?_⟩
 ·show(p.ev B zr).mk B (λt=>t.2.1)=_;rw[wA K.b hp];rfl
 ·show(p.ev B zr).mk B (λt=>t.2.2)=_;rw[xX K.b hp];rfl
def Bk3.b7 (K:Bk3 ws B) (h:Wy ws B x):Wy ws B (b7 B x)∧L2.ak B (L2.b7 B x)=L2.b7 B x∧(L2.b7 B x).ne B=0∧L2.b7 B (L2.b7 B x)=L2.b7 B x:=by
 obtain⟨p,hp,_,rfl,_⟩:=CG K.b K.O _ x x (aA _) h h rfl;have e:L2.b7 B (p.ev B (nI 1))=p.ev B (sy (nI 1)):=xX K.b hp;have tg:∀x,sy (nI 1) x≠1:=λx=>by unfold sy;split<;>lia
 have s:L2.ak B (p.ev B (sy (nI 1)))=p.ev B (sy (nI 1)):=by
  show(p.ev B (sy (nI 1))).mk B (λt=>t.2.1)=_;rw[wA K.b hp];exact vR hp λb _ _=>by rw[vg,if_neg (tg b)]
 have w:Wy ws B (p.ev B (sy (nI 1))):=K.wy hp;rw[e];refine⟨w,s,?_,?_⟩
 ·have:=(K.ak w).2.2.1;rwa [s]at this
 ·have:=(K.ak w).2.2.2;rwa [s]at this
def oo (B:List Tn):Tr→List Tr→Tr
 |t,[]=>t
 |_,x::xs=>oo B (b7 B x) xs
def nN (ws:List ah) (B:List Tn):Tr→List Tr→Prop
 |_,[]=>True
 |t,x::xs=>Wy ws B x∧ak B x=t∧nN ws B (b7 B x) xs
def nR (B:List Tn):List Tr→Nat
 | []=>0
 |x::xs=>x.ne B+nR B xs
noncomputable def qt (B:List Tn):Tr→List Tr→List Tr
 |x,[]=>[x]
 |x,o::os=>x::qt B (res B x o) os
noncomputable def pG (B:List Tn):Tr→List Tr→List Tr
 |_,[]=>[]
 |x,o::os=>res B o x::pG B (res B x o) os
noncomputable def qJ (B:List Tn):Tr→List Tr→Tr
 |x,[]=>x
 |x,o::os=>qJ B (res B x o) os
noncomputable def vI (B:List Tn):List Tr→List Tr→List (List Tr)
 | [],_=>[]
 |x::xs,os=>qt B x os::vI B xs (pG B x os)
noncomputable def yI (B:List Tn):List Tr→List Tr→List (List Tr)
 | [],os=>[os]
 |x::xs,os=>os::yI B xs (pG B x os)
noncomputable def oE (B:List Tn):List Tr→List Tr→List Tr
 | [],_=>[]
 |x::xs,os=>qJ B x os::oE B xs (pG B x os)
noncomputable def Qh (B:List Tn):List Tr→List Tr→List Tr
 | [],os=>os
 |x::xs,os=>Qh B xs (pG B x os)
theorem NA:∀(os:List Tr) (x:Tr),(qt B x os).length=os.length+1
 | [],x=>rfl
 |o::os,x=>by rw[qt,aU,NA os];rfl
theorem Ic:∀(os:List Tr) (x:Tr),(pG B x os).length=os.length
 | [],x=>rfl
 |o::os,x=>by rw[pG,aU,Ic os];rfl
theorem Iu:∀(os:List Tr) (x:Tr),(qt B x os).getLast? =aa (qJ B x os)
 | [],x=>rfl
 |o::os,x=>by
  rw[qt,List.getLast?_cons,Iu os,qJ];rfl
theorem Cr:∀(xs os:List Tr),(oE B xs os).length=xs.length
 | [],os=>rfl
 |x::xs,os=>by rw[oE,aU,Cr xs];rfl
theorem EC{α β:Type}{R:α→β→Prop}:∀{xs:List α}{ys:List β}{xs':List α}{ys':List β},aN R xs ys→aN R xs' ys'→aN R (xs++xs') (ys++ys')
 |_,_,_,_, .nil,h=>h
 |_,_,_,_, .cons h1 h2,h=> .cons h1 (EC h2 h)
theorem u0{α β:Type}{R R':α→β→Prop}(f:∀x y,R x y→R' x y):∀{xs:List α}{ys:List β},aN R xs ys→aN R' xs ys
 |_,_, .nil=> .nil
 |_,_, .cons h1 h2=> .cons (f _ _ h1) (u0 f h2)
mutual
theorem Ja:∀(L t:Tr) (ms:List Tr) (p:List Int),L.mt t=aa ms→aN (λ(x:List Int×Tr) m=>∃e,x.1=p++e∧t.at e=aa m) ((L.plt p).filter λx=>x.2.isBl) ms
 | .bl n,t,ms,p,e=>by
  rw[Tr.mt]at e;cases e;rw[Tr.plt];exact .cons ⟨[],by simp,by rw[Tr.at]⟩ .nil
 | .nd s ls, .bl n,ms,p,e=>by rw[Tr.mt]at e;cases e
 | .nd s ls, .nd z us,ms,p,e=>by
  rw[Tr.mt]at e;split at e
  ·rename_i hc;rw[bT,beq_iff_eq,beq_iff_eq]at hc;rw[Tr.plt,lm (by simp [Tr.isBl])];refine u0 ?_ (Lw ls us ms p 0 hc.2 e);rintro x m ⟨j,e,u,h1,h2,h3⟩;refine⟨(j:Int)::e,by rw[h1,bG],?_⟩
   rw[Tr.at,if_neg (by lia),bb,h2];exact h3
  ·cases e
theorem Lw:∀(ls us ms:List Tr) (p:List Int) (i:Nat),ls.length=us.length→nM ls us=aa ms→aN (λ(x:List Int×Tr) m=>∃(j:Nat) (e:List Int) (u:Tr),x.1=p++((i+j:Nat):Int)::e∧us[j]? =aa u∧u.at e=aa m) ((oG p i ls).filter λx=>x.2.isBl) ms
 | [],us,ms,p,i,hl,e=>by
  rw[nM]at e;cases e;rw[oG];exact .nil
 |l::ls,[],ms,p,i,hl,e=>by cases hl
 |l::ls,u::us,ms,p,i,hl,e=>by
  rw[nM]at e;cases q1:l.mt u with
  |none=>rw[q1]at e;cases e
  |some xs=>
   rw[q1]at e;cases q2:nM ls us with
   |none=>rw[q2]at e;cases e
   |some zs=>
    rw[q2]at e;cases e;rw[oG,kN];refine EC (u0 ?_ (Ja l u xs _ q1)) (u0 ?_ (Lw ls us zs p (i+1) (by simpa using hl) q2))
    ·rintro x m ⟨e,h1,h2⟩;exact⟨0,e,u,by rw[h1];simp,rfl,h2⟩
    ·rintro x m ⟨j,e,v,h1,h2,h3⟩;exact⟨j+1,e,v,by rw[h1,show i+1+j=i+(j+1) by lia],by rw[bU];exact h2,h3⟩
end
def Fe{L t:Tr}{ms:List Tr}(h:L.mt t=aa ms):aN (λq m=>t.at q=aa m) (L.bls.map λx=>x.1) ms:=by
 have:=Ja L t ms [] h;clear h;unfold Tr.bls;generalize (L.plt []).filter (λx=>x.2.isBl)=xs at this⊢
 induction this with
 |nil=>exact .nil
 |cons h1 h2 ih=>
  obtain⟨e,h3,h4⟩:=h1;rw[aC];rw[aX]at h3;exact .cons (by rw[h3];exact h4) ih
def qQ (wn:List (List Int)) (p:List Int):Nat:=wn.countP λq=>p.isPrefixOf q
def Lc (wn:List (List Int)) (p q:List Int):qQ wn (p++q)≤qQ wn p:=by
 unfold qQ;refine List.countP_mono_left λx _ h=>?_;obtain⟨e,rfl⟩:=d7.mp h;exact d7.mpr ⟨q++e,by simp⟩
theorem Ho:∀(wn:List (List Int)) (p:List Int) (i:Int) (q:List Int),p∈wn→qQ wn (p++i::q)+1≤qQ wn p
 |w::wn,p,i,q,h=>by
  unfold qQ;rw[lK,lK];have hs:=Lc wn p (i::q);unfold qQ at hs;obtain rfl |h:=az.mp h
  ·have h1:(p++i::q).isPrefixOf p=false:=by
    rw[Bool.eq_false_iff];intro z;obtain⟨e,z⟩:=d7.mp z;have:=congrArg dE z;simp at this
   have h2:p.isPrefixOf p=true:=d7.mpr ⟨[],by simp⟩
   rw[h1,h2];simp;lia
  ·have ih:=Ho wn p i q h;unfold qQ at ih;have h3:(p++i::q).isPrefixOf w=true→p.isPrefixOf w=true:=λz=>by
    obtain⟨e,rfl⟩:=d7.mp z;exact d7.mpr ⟨i::q++e,by simp⟩
   by_cases z:(p++i::q).isPrefixOf w=true
   ·rw[if_pos z,if_pos (h3 z)];lia
   ·rw[if_neg z];lia
theorem Fo:∀{ts:List Tr},(∀t∈ts,t.ar B)→rL B ts
 | [],_=>by rw[rL];trivial
 |t::ts,h=>by rw[rL];exact⟨h t (by simp),Fo λu hu=>h u (aI _ hu)⟩
structure Sh (ws:List ah) (B:List Tn) (t:Tr):Prop where
  wy:Wy ws B t
  q:ak B t=t
def Sh.cases (K:Bk3 ws B) (h:Sh ws B t):∃s ts,t= .nd s ts∧s∈ws∧m9 B s=none∧ ∀x∈ts,Sh ws B x:=by
 obtain ⟨s,ts,rfl,hs,e,k⟩ |⟨u,ts,hu,rfl,e,hl,k⟩:=h.wy.cases K.b
 ·have q:=h.q;rw[show ak B (.nd s ts)=_ from qb e]at q;injection q with _ q;refine⟨s,ts,rfl,hs,e,λx hx=>⟨k x hx,?_⟩⟩;obtain⟨i,hi,rfl⟩:=fh hx;have:=congrArg (λl=>l[i]?) q;simp only[aV,aS hi]at this;exact aL this
 ·have q:=h.q;rw[show ak B (.nd u.1 ts)=_ from p6 e]at q;obtain⟨s0,l0,e0,_⟩:=K.O.inn u hu;have hb:=(K.b.lf u hu).hb;rw[e0,Tr.hb]at hb;rw[e0,Tr.aD]at q;injection q with q _;exact absurd q (B4 hb.1 (K.b.ti u hu))
def Sh.parts (K:Bk3 ws B) (h:Sh ws B t) (hu:u∈B) (e:u.2.1.mt t=aa ms):t=u.2.1.aD ms∧ms.length=u.2.1.nb∧ ∀x∈ms,Sh ws B x:=by
 obtain⟨h1,h2⟩:=K.O.fm u hu _ _ e;refine⟨h1,h2,λx hx=>⟨Ga _ _ _ e h.wy x hx,?_⟩⟩;have q:=h.q;rw[h1,show ak B (u.2.1.aD ms)=_ from Kp K.b hu h2 _]at q;have m1:=K.O.mt u hu ms h2;have m2:=K.O.mt u hu (ms.map (ak B)) (by rw[ay,h2]);rw[show u.2.1.aD (ms.map (ak B))=_ from q,m1]at m2;have q:=aL m2;obtain⟨i,hi,rfl⟩:=fh hx;have:=congrArg (λl=>l[i]?) q;simp only[aV,aS hi]at this;exact(aL this).symm
def wW (B:List Tn) (wn:List (List Int)) (p:List Int) (t:Tr):Prop:=∀q∈wn,∀e v,q=p++e→t.at e=aa v→(o7 B v).isSome=true
def r8{s:ah}{ts:List Tr}{i:Nat}{u:Tr}(h:ts[i]? =aa u) (e:List Int):(Tr.nd s ts).at ((i:Int)::e)=u.at e:=by
 rw[Tr.at,if_neg (by lia),bb,h]
theorem FH (ih:∀(t:Tr) (p:List Int),t.depth≤n→Sh ws B t→wW B wn p t→ ∃u,Wi B wn n p t u∧ak B u=t∧Wy ws B u∧u.ne B≤qQ wn p) :
  ∀{qs:List (List Int)}{ts:List Tr},aN (λq t=>t.depth≤n∧Sh ws B t∧wW B wn (p++q) t∧qQ wn (p++q)≤c) qs ts→ ∃us,pC B wn n p qs ts us∧us.map (ak B)=ts∧(∀u∈us,Wy ws B u)∧ow B us≤c
 |_,_, .nil=>⟨[], .nil,rfl,by simp,by rw[ow];lia⟩
 |_,_, .cons ⟨h1,h2,h3,h4⟩ h=>by
  obtain⟨u,w,e,y,k⟩:=ih _ _ h1 h2 h3;obtain⟨us,ws',es,ys,ks⟩:=FH ih h;refine⟨u::us, .cons w ws',by rw[aC,e,es],λv hv=>?_,by rw[ow];lia⟩
  obtain rfl |hv:=az.mp hv
  ·exact y
  ·exact ys v hv
theorem C9 (K:Bk3 ws B) {wn:List (List Int)}:∀(n:Nat) (t:Tr) (p:List Int),t.depth≤n→Sh ws B t→wW B wn p t→ ∃u,Wi B wn n p t u∧ak B u=t∧Wy ws B u∧u.ne B≤qQ wn p
 |0,t,p,hd,h,_=>by
  obtain⟨s,ts,rfl,_⟩:=h.cases K;rw[Tr.depth]at hd;lia
 |n+1,t,p,hd,h,hw=>by
  obtain⟨s,ts,rfl,hs,e,k⟩:=h.cases K;rw[Tr.depth]at hd;by_cases hp:p∈wn
  ·have ho:=hw p hp [] (.nd s ts) (by simp) (by rw[Tr.at]);obtain⟨u,ho⟩:=dL.mp ho;have hu:u∈B:=bX ho;have hm:(u.2.1.mt (.nd s ts)).isSome=true:=by simpa using eT ho
   obtain⟨ms,hm⟩:=dL.mp hm;obtain⟨f1,f2,f3⟩:=h.parts K hu hm;have ba:=Fe hm;have hdm:∀y∈ms,y.depth≤n:=λy hy=>by
    obtain⟨s0,l0,e0,_⟩:=K.O.inn u hu;rw[e0,Tr.mt]at hm;split at hm
    ·have:=A3 _ _ _ hm y hy;lia
    ·cases hm
   have hne:∀q∈u.2.1.bls.map (λx=>x.1),∃i e,q=i::e:=λq hq=>by
    obtain⟨z,hz,rfl⟩:=aT.mp hq;obtain⟨h1,h2,_⟩:=xO hz;cases hq:z.1 with
    |nil=>
     rw[hq,Tr.at]at h1;have h3:u.2.1=z.2:=aL h1;obtain⟨s0,l0,e0,_⟩:=K.O.inn u hu;rw[←h3,e0]at h2;cases h2
    |cons i is=>exact⟨i,is,rfl⟩
   have pr:∀{qs:List (List Int)}{xs:List Tr},(∀q∈qs,∃i e,q=i::e)→(∀x∈xs,x.depth≤n∧Sh ws B x)→aN (λq m=>(Tr.nd s ts).at q=aa m) qs xs→aN (λq t=>t.depth≤n∧Sh ws B t∧wW B wn (p++q) t∧qQ wn (p++q)≤qQ wn p - 1) qs xs:=by
    intro qs xs h1 h2 h3
    induction h3 with
    |nil=>exact .nil
    | @cons q m qs xs h4 _ ih=>
     obtain⟨i,e,rfl⟩:=h1 q (by simp);obtain⟨g1,g2⟩:=h2 m (by simp);refine .cons ⟨g1,g2,λq' hq' e' v' h5 h6=>hw q' hq' (i::e++e') v' (by rw[h5];simp) (by rw[uO _ e' h4];exact h6),?_⟩ (ih (λq hq=>h1 q (aI _ hq)) λx hx=>h2 x (aI _ hx));have:=Ho wn p i e hp;lia
   obtain⟨us,wi,es,ys,ks⟩:=FH (C9 K n) (pr hne (λx hx=>⟨hdm x hx,f3 x hx⟩) ba);have et:=qZ K.b.nd hu;have lu:us.length=u.2.1.nb:=by rw[←f2,←es,ay]
   refine⟨.nd u.1 us, .yes hp ho hm et wi,?_,⟨?_,?_⟩,?_⟩
   ·rw[show ak B (.nd u.1 us)=_ from p6 et,es,f1]
   ·rw[Tr.hd,mW];exact⟨.inr ⟨u,hu,rfl⟩,λx hx=>(ys x hx).hd⟩
   ·rw[Tr.ar];refine⟨λt ht=>?_,Fo λx hx=>(ys x hx).ar⟩;rw[et]at ht;cases ht;exact lu
   ·rw[Tr.ne,et];have h1:1≤qQ wn p:=by
     unfold qQ;exact List.countP_pos_iff.mpr ⟨p,hp,d7.mpr ⟨[],by simp⟩⟩
    show 1+_≤_;lia
  ·have pr:∀(i:Nat) (xs:List Tr),(∀(j:Nat) x,xs[j]? =aa x→ts[i+j]? =aa x)→aN (λq t=>t.depth≤n∧Sh ws B t∧wW B wn (p++q) t∧qQ wn (p++q)≤qQ wn p) ((f9 i xs.length).map λ(i:Nat)=>[(i:Int)]) xs:=by
    intro i xs
    induction xs generalizing i with
    |nil=>intro _;exact .nil
    |cons x xs ih=>
     intro hx;have hi:=hx 0 x rfl;rw[dO]at hi;have hm:x∈ts:=aJ hi;have hdx:=pY hm;rw[aU,gA,aC];refine .cons ⟨by lia,k x hm,λq' hq' e' v' h5 h6=>hw q' hq' ((i:Int)::e') v' (by rw[h5];simp) (by rw[r8 hi];exact h6),Lc wn p _⟩ (ih (i+1) λj y hy=>?_);have:=hx (j+1) y (by rw[bU];exact hy);rw[show i+1+j=i+(j+1) by lia]
     exact this
   have pr0:=pr 0 ts λj x h=>by rw[bG];exact h
   rw[←gG]at pr0;obtain⟨us,wi,es,ys,ks⟩:=FH (C9 K n) pr0;refine⟨.nd s us, .no hp e wi,?_,⟨?_,?_⟩,?_⟩
   ·rw[show ak B (.nd s us)=_ from qb e,es]
   ·rw[Tr.hd,mW];exact⟨.inl hs,λx hx=>(ys x hx).hd⟩
   ·rw[Tr.ar];exact⟨λt ht=>(by rw[e]at ht;cases ht),Fo λx hx=>(ys x hx).ar⟩
   ·rw[Tr.ne,e];show 0+_≤_;lia
def B'{α:Type}(xs:List α) (x:α):nC (xs++[x]) (-1)=aa x:=by
 unfold nC tw;rw[if_neg (by decide),bc,cB];rw[if_pos (by lia)];show(xs++[x])[_]? =aa x;rw[show((-1+((xs.length+1:Nat):Int)).toNat)=xs.length by lia,List.getElem?_concat_length]
structure At (S0 S:lr) (d o b:ai) (xs:List Tr):Prop where
  d:b≠d
  o:b≠o
  e:S b=aa (.bP (xs.map j5))
  z:S0 b=none
def AZ (s:Sub S0 S) (h:S q=none):S0 q=none:=by
 cases e:S0 q with
 |none=>rfl
 |some v=>rw[s _ _ e]at h;cases h
def At.sub{S0 S S':lr}{d o b:ai}{xs:List Tr}(h:At S0 S d o b xs) (s:Sub S S'):At S0 S' d o b xs:=⟨h.d,h.o,s _ _ h.e,h.z⟩
def At.pd{S0 S:lr}{d o b:ai}{xs:List Tr}{v:Ob}(h:At S0 S d o b xs):At S0 (bR S d v) d o b xs:=⟨h.d,h.o,by rw[nO h.d];exact h.e,h.z⟩
def At.po{S0 S:lr}{d o b:ai}{xs:List Tr}{v:Ob}(h:At S0 S d o b xs):At S0 (bR S o v) d o b xs:=⟨h.d,h.o,by rw[nO h.o];exact h.e,h.z⟩
abbrev vy (S0 S:lr) (d o:ai) (bs:List ai) (xss:List (List Tr)):Prop:=aN (At S0 S d o) bs xss
def ED{α β:Type}{R:α→β→Prop}{xs:List α}{ys:List β}{x:α}{y:β}(h:aN R xs ys) (g:R x y):aN R (xs++[x]) (ys++[y]):=EC h (.cons g .nil)
def Pz{X:ah→lr→Prop}(hw:t.aq≤400) (hd:t.depth≤40) (h:Q (j5 t) S):sG (r+5) [j5 t] S Q X:=by
 rw[show r+5=r+4+1 from rfl,sG];ext;refine P4 (r:=r+3) (by lia) ?_;rw[F1 hw hd]
 try ext
 exact⟨_, .refl,h⟩
theorem Ky{α β:Type}(f:α→W) (g:β→W):∀(xs:List α) (ys:List β),m3 (xs.map f) (ys.map g)=(xs.zip ys).map λp=> .bW [f p.1,g p.2]
 | [],ys=>by simp [m3]
 |x::xs,[]=>by simp [m3]
 |x::xs,y::ys=>by rw[aC,aC,m3,Ky f g xs ys];rfl
theorem Oi:∀(os:List Tr) (x:Tr),(os.zip (qt B x os)).map (λp=>res B p.1 p.2)=pG B x os
 | [],x=>rfl
 |o::os,x=>by rw[qt,gC,aC,Oi os,pG]
section
variable {ws:List ah}{B:List Tn}{l2 d o ρ:ai}{r:Nat}{E:WX}{D:mY}{T:WS}{t:Tr}{xs os:List Tr}{S:lr}{y0 y1 y2 y3 y4 y5 y6 y7:Option W}
def Py (h:∀d,S d=none→T E D [y0,y1,y2,aa (.ref d),y4,y5,y6,y7] (bR S d (.bP []))):DM r T E D [y0,y1,y2,y3,y4,y5,y6,y7] S:=by
 rw[DM];ext;exact⟨aP _,h⟩
def XT (hl:S l2=aa (.bP vs)) (h:∀ρ,S ρ=none→T E D [y0,y1,aa (.bW [j5 t, .ref l2]),y3,aa (.ref ρ),y5,y6,y7] (bR S ρ (.bP vs))):DQ r T E D [y0,y1,aa (.bW [j5 t, .ref l2]),y3,y4,y5,y6,y7] S:=by
 rw[DQ];ext;show n9 S l2 λws=>∀ρ,S ρ=none→T E D [y0,y1,aa (.bW [j5 t, .ref l2]),y3,aa (.ref ρ),y5,y6,y7] (bR S ρ (.bP ws));rw[m8 hl];exact h
def Yw (h:∀o,S o=none→T E D [y0,y1,y2,y3,aa (.ref ρ),aa (.ref o),y6,y7] (bR S o (.bP [.ref ρ]))):Ec r T E D [y0,y1,y2,y3,aa (.ref ρ),y5,y6,y7] S:=by
 rw[Ec];ext;exact⟨by decide,h⟩
def PN (hd:S d=aa (.bP vs)) (hn:vs.length≤1000) (h:T E D [y0,y1,y2,aa (.ref d),y4,y5,y6,aa (.ref q)] (bR S d (.bP (vs++[.ref q])))) :
  C2 r T E D [y0,y1,y2,aa (.ref d),y4,y5,y6,aa (.ref q)] S:=by
 rw[C2];ext;rw[m8 hd,m8 hd];exact⟨trivial,qE (by lia),h⟩
def Xz (hd:S o=aa (.bP vs)) (hn:vs.length≤1000) (h:D.nx [y0,y1,y2,y3,aa (.ref ρ),aa (.ref o),y6,y7] (bR S o (.bP (vs++[.ref ρ])))) :
  EY r E D [y0,y1,y2,y3,aa (.ref ρ),aa (.ref o),y6,y7] S:=by
 rw[EY];ext;rw[m8 hd,m8 hd];exact⟨trivial,qE (by lia),h⟩
structure P8 (S0 S:lr) (B:List Tn) (xs os:List Tr) (d o:ai):Prop where
  sub:Sub S0 S
  d0:S0 d=none
  o0:S0 o=none
  ne:d≠o
  ex:∃ds rs,S d=aa (.bP (ds.map W.ref))∧S o=aa (.bP (rs.map W.ref))∧vy S0 S d o ds (vI B xs os)∧vy S0 S d o rs (yI B xs os)
end
def zQ (B:List Tn) (t:Tr):List (List Int):=(t.op B []).map λx=>x.1
def Sh.hdT (h:Sh ws B t):t.hd λ_=>True:=vC (λ_ _=>trivial) _ h.wy.hd
def Sh.wn{ws:List ah}{B:List Tn}{t:Tr}(h:Sh ws B t) {wn:List (List Int)}(hw:∀q∈wn,q∈zQ B t):wW B wn [] t:=by
 intro q hq e v he hv;rw[aX]at he;subst he;obtain⟨x,hx,rfl⟩:=aT.mp (hw q hq);rw[←Bt B t [] (uF _ h.hdT)]at hx;obtain⟨y,hy,hx⟩:=dZ.mp hx;unfold sV at hx;obtain⟨u,hu,rfl⟩:=aT.mp hx;have:=(Lp hy).1;rw[this]at hv;cases hv;cases e:o7 B y.2 with
 |none=>rw[e]at hu;cases hu
 |some _=>rfl
section
variable {B:List Tn}{t:Tr}{xs:List Tr}
theorem Hn:∀(xs:List Tr) (t u:Tr),oo B t (xs++[u])=b7 B u
 | [],t,u=>rfl
 |x::xs,t,u=>Hn xs (b7 B x) u
end
theorem Gp{α β:Type}{R:α→β→Prop}:∀{xs:List α}{ys:List β},aN R xs ys→ ∃zs:List (α×β),zs.map (λz=>z.1)=xs∧zs.map (λz=>z.2)=ys∧ ∀z∈zs,R z.1 z.2
 |_,_, .nil=>⟨[],rfl,rfl,by simp⟩
 |_,_, .cons h1 h2=>by
  obtain⟨zs,e1,e2,h3⟩:=Gp h2;exact⟨(_,_)::zs,by rw[aC,e1],by rw[aC,e2],λz hz=>by
   obtain rfl |hz:=az.mp hz
   ·exact h1
   ·exact h3 z hz⟩
theorem Kw{α β γ:Type}{R:α→β→Prop}{R':β→γ→Prop}:∀{xs:List α}{ys:List β}{zs:List γ},aN R xs ys→aN R' ys zs→aN (λx z=>∃y,R x y∧R' y z) xs zs
 |_,_,_, .nil, .nil=> .nil
 |_,_,_, .cons h1 h2, .cons g1 g2=> .cons ⟨_,h1,g1⟩ (Kw h2 g2)
def T2 (os:List Tr) (x:Tr):∃l,qt B x os=l++[qJ B x os]:=by
 have:=Iu (B:=B) os x;rw[List.getLast?_eq_some_iff]at this;exact this
theorem JZ:∀(xs os:List Tr),aN (λline u=>∃l,line=l++[u]) (vI B xs os) (oE B xs os)
 | [],os=> .nil
 |x::xs,os=> .cons (T2 os x) (JZ xs _)
theorem IY:∀(os:List Tr) (x:Tr) (xs:List Tr),oE B os (x::xs)=oE B (pG B x os) xs
 | [],x,xs=>by rw[oE,pG,oE]
 |o::os,x,xs=>by rw[oE,pG,pG,qJ,oE,IY os]
theorem MU:∀(os:List Tr),oE B os []=os
 | []=>by rw[oE]
 |o::os=>by rw[oE,pG,qJ,MU os]
section
variable {B:List Tn}{l d o:ai}{r:Nat}{xs os:List Tr}{S:lr}{Q:WK}{X:ah→lr→Prop}
def HB (hd:S d=aa (.bP (ds.map W.ref))) (hn:xs.length≤700) (AD:vy S0 S d o ds (vI B xs os)) (h:∀q,S q=none→Q (.ref q) (bR S q (.bP ((oE B xs os).map j5)))):zZ (r+1) [.bW [.ref d, .ref o]] S Q X:=by
 obtain⟨zs,e1,e2,h3⟩:=Gp (Kw AD (JZ xs os));rw[zZ];ext;rw[m8 hd];have e3:ds.map W.ref=zs.map λz=>W.ref z.1:=by rw[←e1,bu];rfl
 have hz:zs.length=xs.length:=by rw[←Cr (B:=B) xs os,←e2,ay]
 rw[e3];refine qf (λσ=>∃y,σ=[y]) (λz:ai×Tr=>W.ref z.1) (λz=>j5 z.2) (by rw[←e3];exact hd) zs [] _ ⟨none,rfl⟩ (by simp;lia) (λz hz σ R hI hR=>?_) ?_
 ·obtain⟨y,rfl⟩:=hI;obtain⟨line,A,l,rfl⟩:=h3 z hz;rw[Jt];ext;have Ae:=A.e;rw[bK]at Ae;rw[m8 Ae,show [z.2].map j5=[j5 z.2] from rfl,B'];exact hR _ _ ⟨_,rfl⟩ .refl
 ·intro q hq;have:=h q hq;rw[←e2,bu]at this;exact⟨_, .refl,this⟩
end
mutual
def Tr.wd:Tr→Prop
 | .bl _=>True
 | .nd _ ts=>ts.length≤1000∧u9 ts
def u9:List Tr→Prop
 | []=>True
 |t::ts=>t.wd∧u9 ts
end
theorem qx:∀{ts:List Tr},u9 ts↔ ∀t∈ts,t.wd
 | []=>by simp [u9]
 |t::ts=>by simp [u9,qx (ts:=ts)]
def P_{t:Tr}(h:t.wd):t.dA.length≤1000:=by
 cases t with
 |bl n=>simp [Tr.dA]
 |nd s ts=>simpa [Tr.dA]using h.1
def O1{ts:List Tr}(h:∀x∈ts,x.wd):∀x∈ts.flatMap Tr.dA,x.wd:=λx hx=>by
 obtain⟨t,ht,hk⟩:=dZ.mp hx;have:=h t ht;cases t with
 |bl n=>simp [Tr.dA]at hk
 |nd s us=>exact qx.mp this.2 x (by simpa [Tr.dA]using hk)
theorem Lh (hba:b≠a):∀(ts:List Tr) {S:lr}{us:List Tr}{x2:Option W},S a=aa (.bP (af us))→S b=aa (.bP ps)→(∀t∈ts,t.dA.length≤1000)→us.length+1000*ts.length≤500000→
  (∀x2,D.nx [x0,aa (.ref a),x2] (bR S a (.bP (af (us++ts.flatMap Tr.dA)))))→
  mO (mx 2) (ze (r+1) mH) E D (λS'=>S' b=aa (.bP ps)) (af ts) [x0,aa (.ref a),x2] S
 | [],S,us,x2,ha,hb,hA,hl,h=>by
  have:=h x2;simp only[cZ,bg,sA ha]at this;simpa [af,mO]using this
 |t::ts,S,us,x2,ha,hb,hA,hl,h=>by
  simp only[aU]at hl;have hk:=hA t aK;simp only[af];refine pU λN hN=>?_;simp only[ze];ext;simp only[m8 ha,true_and];refine yO ?_;ext;rw[m8 ha];refine⟨m7 (by rw[pH,pH];lia),hN _ _ _ .refl (by rw[nO hba];exact hb) ?_⟩;rw[←xH];refine Lh hba ts mR (by rw[nO hba];exact hb) (λu hu=>hA u (aI _ hu)) (by rw[bc];lia) λx2=>?_;rw[pI];have:=h x2;rw[cC,←bD]at this;exact this
def Q0{E:ah→lr→Prop}(hb:S b=aa (.bP (af ts))) (hA:∀t∈ts,t.dA.length≤1000) (hw:ts.length≤400) (h:∀a,S a=none→Q (.ref a) (bR S a (.bP (af (ts.flatMap Tr.dA))))):xv (r+2) [.ref b] S Q E:=by
 rw[xv];ext;refine⟨aP _,λa ha=>?_⟩;have hba:=B8 hb ha;rw[m8 (keep hb ha)];refine Lh (us:=[]) hba ts (by simp [mR,af]) (keep hb ha) hA (by simp;lia) λx2=>?_;rw[pI];ext;exact⟨_, .refl,h a ha⟩
def Dn{t:Tr}{r:Nat}{S:lr}{Q:WK}{E:ah→lr→Prop}(hA:t.wd) (h:Q (.bl t.bo) S):xf (r+3) [j5 t] S Q E:=by
 rw[xf];ext;refine⟨m7 (by decide),λa ha=>?_⟩;refine⟨λm σ S'=>∃(ts:List Tr) (k d:Nat) (b:ai),m=mJ ts∧(∀x∈ts,x.wd)∧k+mJ ts=t.aq∧d+m_ ts=t.depth∧k≤400∧d≤40∧S b=none∧S'=bR S b (.bP (af ts))∧σ=[aa (j5 t),aa (.int k),aa (.int d),aa (.ref b)],⟨_,[t],0,0,a,rfl,(λx hx=>by rw[bh.mp hx];exact hA),by simp [mJ],by simp [m_],by decide,by decide,ha,by simp [af],rfl⟩,?_⟩
 rintro m σ S' ⟨ts,k,d,b,rfl,hds,hwt,hk,hk4,hd4,hb,rfl,rfl⟩;ext;cases ts with
 |nil=>
  simp only[af,jB];ext;simp only[m_,mJ,dO]at hk hwt;have e:t.bo=true:=by unfold Tr.bo;rw[decide_eq_true (by lia),decide_eq_true (by lia)];rfl
  rw[e]at h;exact⟨_, .bR .refl hb,h⟩
 |cons u us=>
  have hne:(af (u::us)).isEmpty=false:=by simp [af]
  rw[hne];have hfl:=E0 (u::us);have hdf:=E_ (ts:=u::us) (by simp);have hlw:=qH (u::us);simp only[FB];ext;rw[pH];have no:400<t.aq∨40<t.depth→ ∃S'',Sub S'' (bR S b (Ob.bP (af (u::us))))∧Q (W.bl false) S'':=λz=>by
   have e:t.bo=false:=by
    unfold Tr.bo;obtain z |z:=z
    ·rw[decide_eq_false (by lia)];rfl
    ·rw[decide_eq_false (p:=t.depth≤40) (by lia),gh]
   rw[e]at h;exact⟨_, .bR .refl hb,h⟩
  split
  ·exact no (.inl (by lia))
  ·split
   ·exact no (.inr (by lia))
   ·refine Q0 mR (λx hx=>P_ (hds x hx)) (by lia) λc hc=>?_;obtain⟨hc1,hc2⟩:=qU hc;refine⟨mJ ((u::us).flatMap Tr.dA),bR S c (.bP (af ((u::us).flatMap Tr.dA))),by simp only[aU]at hfl;lia, .put2 (.bR .refl hb),_,k+(u::us).length,d+1,c,rfl,O1 hds,by lia,by lia,by lia,by lia,hc1,rfl,?_⟩
    push_cast
    rfl
structure pF (g:Tn→Tr) (B:List Tn):Prop where
  br:∀t∈B,(g t).br t.2.1.nb
  dp:∀t∈B,(g t).depth≤4
  wt:∀t∈B,(g t).aq≤20
section
variable {S:lr}{a:ai}{B:List Tn}{n:Int}
theorem Eh (ha:S a=aa (.bP (B.map mK))) (hn:n=1∨n=2) (hg:pF (oh n) B):∀(d:Nat) {t:Tr}{r:Nat}{Q:WK}{E:ah→lr→Prop},t.depth≤d→d+10≤r→t.ar B→t.aq≤1000→Q (j5 (t.mk B (oh n))) S→xB (r+1) [.ref a,j5 t, .int n] S Q E
 |0,t,r,Q,E,hd,hr,hh,hw,h=>by have:=qB t;lia
 |d+1, .bl k,r,Q,E,hd,hr,hh,hw,h=>by simp [Tr.ar]at hh
 |d+1, .nd s ts,r,Q,E,hd,hr,hh,hw,h=>by
  simp only[Tr.depth]at hd;simp only[Tr.aq]at hw;simp only[Tr.ar]at hh;have hk:=qH ts;obtain⟨r,rfl⟩:∃r',r=r'+1:=⟨r - 1,by lia⟩
  rw[xB];simp only[j5];ext;rw[o5];refine qf (λσ=>∃x,σ=[x,aa (.ref a),aa (.int n)]) j5 (λt=>j5 (t.mk B (oh n))) trivial ts [] _ ⟨none,rfl⟩ (by simp;lia) (λx hx σ R hI hR=>?_) ?_
  ·obtain⟨y,rfl⟩:=hI;have hdx:=pY hx;have hwx:=pe hx;simp only[N5];ext;exact Eh ha hn hg d (by lia) (by lia) (oA.mp hh.2 x hx) (by lia) (hR _ _ ⟨_,rfl⟩ .refl)
  ·rw[aX];intro q hq;have eu:(ts.map λt=>j5 (t.mk B (oh n)))=af (ts.map (Tr.mk B (oh n))):=by rw[o5,bu];rfl
   rw[eu];have fq:bR S q (Ob.bP (af (ts.map (Tr.mk B (oh n))))) q=aa (.bP (af (ts.map (Tr.mk B (oh n))))):=mR;have fa:=keep (x:=Ob.bP (af (ts.map (Tr.mk B (oh n))))) ha hq;have sub:Sub S (bR S q (Ob.bP (af (ts.map (Tr.mk B (oh n)))))):= .bR .refl hq;generalize bR S q (Ob.bP (af (ts.map (Tr.mk B (oh n)))))=S1 at fq fa sub⊢;refine wK fa ?_;cases e:m9 B s with
   |none=>
    rw[Ao e]at h;simp only[oM]
    try ext
    try rw[m8 fq]
    rw[pH,ay];simp only[j5]at h;exact⟨m7 (by decide),m7 (by lia),_,sub,h⟩
   |some t=>
    have ht:t∈B:=bX e;have ee:oM (aa t)= .bW [.str t.1,j5 t.2.1,j5 t.2.2]:=rfl;rw[A1 e]at h;rw[ee]
    try ext
    rw[Kn t hn];dsimp only;have hgw:=hg.wt t ht;exact FX 4 (hg.dp t ht) (by lia) fq (by rw[ay,hh.1 t e];exact hg.br t ht) (by lia) ⟨_,sub,h⟩
def Qg{E:ah→lr→Prop}(ha:S a=aa (.bP (B.map mK))) (hg:pF (oh 1) B) (hd:t.depth≤40) (hr:60≤r) (hh:t.ar B) (hw:t.aq≤1000) (hwd:(t.mk B (oh 1)).wd)
  (h1:(t.mk B (oh 1)).bo=true→Q (j5 (t.mk B (oh 1))) S) (h2:(t.mk B (oh 1)).bo=false→E "TooGreat" S):BK (r+1) [.ref a,j5 t] S Q E:=by
 obtain⟨r,rfl⟩:∃r',r=r'+5:=⟨r - 5,by lia⟩
 rw[BK];ext;refine Eh ha (.inl rfl) hg 40 (r:=r+4) hd (by lia) hh hw ?_;rw[sG];ext;refine Dn (r:=r+1) hwd ?_;cases e:(t.mk B (oh 1)).bo with
 |true=>
  try ext
  exact⟨_, .refl,_, .refl,h1 e⟩
 |false=>
  try ext
  try rw[CO]
  try ext
  exact⟨m7 (by decide),h2 e⟩
def H_{E:ah→lr→Prop}(ha:S a=aa (.bP (B.map mK))) (hg:pF (oh 2) B) (hd:t.depth≤40) (hr:60≤r) (hh:t.ar B) (hw:t.aq≤1000) (hwd:(t.mk B (oh 2)).wd)
  (h1:(t.mk B (oh 2)).bo=true→Q (j5 (t.mk B (oh 2))) S) (h2:(t.mk B (oh 2)).bo=false→E "TooGreat" S):ur (r+1) [.ref a,j5 t] S Q E:=by
 obtain⟨r,rfl⟩:∃r',r=r'+5:=⟨r - 5,by lia⟩
 rw[ur];ext;refine Eh ha (.inr rfl) hg 40 (r:=r+4) hd (by lia) hh hw ?_;rw[sG];ext;refine Dn (r:=r+1) hwd ?_;cases e:(t.mk B (oh 2)).bo with
 |true=>
  try ext
  exact⟨_, .refl,_, .refl,h1 e⟩
 |false=>
  try ext
  try rw[CO]
  try ext
  exact⟨m7 (by decide),h2 e⟩
end
theorem La (us:List Tr):∀ts:List Tr,aF us ts=ts.map (Tr.aD us)
 | []=>by simp [aF]
 |t::ts=>by rw[aF,La us ts];rfl
def Ge (t:Tr):t.bo=false↔((400:Int)<t.aq∨(40:Int)<t.depth):=by
 unfold Tr.bo;rw[Bool.and_eq_false_iff,decide_eq_false_iff_not,decide_eq_false_iff_not];lia
def stk (x:Tr):List ah→Tr
 | []=>x
 |h::hs=> .nd h [stk x hs]
mutual
theorem LU (hu:∀u∈us,u.wd):∀t:Tr,t.aq≤1000→(t.aD us).wd
 | .bl n,h=>by
  rw[Tr.aD,bv];cases e:us[n.toNat]? with
  |none=>exact trivial
  |some u=>exact hu u (aJ e)
 | .nd s ts,h=>by
  rw[Tr.aq]at h;have:=qH ts;rw[Tr.aD];refine⟨?_,Lm hu ts (by lia)⟩;rw[La,ay];lia
theorem Lm (hu:∀u∈us,u.wd):∀ts:List Tr,mJ ts≤1000→u9 (aF us ts)
 | [],h=>by rw[aF];exact trivial
 |t::ts,h=>by
  rw[mJ]at h;rw[aF];exact⟨LU hu t (by lia),Lm hu ts (by lia)⟩
end
mutual
theorem Cw{g:Tn→Tr}(hg:∀t∈B,(g t).aq≤1000):∀t:Tr,t.aq≤1000→(t.mk B g).wd
 | .bl n,h=>by rw[Tr.mk];exact trivial
 | .nd s ts,h=>by
  rw[Tr.aq]at h;have hl:=qH ts;have ih:=GX hg ts (by lia);rw[wE]at ih;cases e:m9 B s with
  |none=>
   rw[Ao e];exact⟨by rw[ay];lia,ih⟩
  |some u=>
   rw[A1 e];exact LU (qx.mp ih) _ (hg u (bX e))
theorem GX{g:Tn→Tr}(hg:∀t∈B,(g t).aq≤1000):∀ts:List Tr,mJ ts≤1000→u9 (rD B g ts)
 | [],h=>by rw[rD];exact trivial
 |t::ts,h=>by
  rw[mJ]at h;rw[rD];exact⟨Cw hg t (by lia),GX hg ts (by lia)⟩
end
theorem FW{f:Tr→Tr}:∀as:List Tr,(∀x∈as,x.aq≤(f x).aq)→mJ as≤mJ (as.map f)
 | [],h=>by simp [mJ]
 |x::as,h=>by
  have:=FW as λy hy=>h y (aI _ hy);have:=h x aK;rw[aC,mJ,mJ];lia
theorem Fj{f:Tr→Tr}:∀as:List Tr,(∀x∈as,x.depth≤(f x).depth)→m_ as≤m_ (as.map f)
 | [],h=>by simp [m_]
 |x::as,h=>by
  have:=Fj as λy hy=>h y (aI _ hy);have:=h x aK;rw[aC,m_,m_];lia
section
theorem BO (K:Bk3 ws B):∀(n:Nat) (x:Tr),x.aq≤n→Wy ws B x→x.aq≤(ak B x).aq∧x.depth≤(ak B x).depth
 |0,x,hn,h=>by have:=rT x;lia
 |n+1,x,hn,h=>by
  obtain ⟨s,as,rfl,hs,e,hk⟩ |⟨t,as,ht,rfl,e,hl,hk⟩:=h.cases K.b
  ·rw[Tr.aq]at hn;have ih:∀y∈as,y.aq≤(ak B y).aq∧y.depth≤(ak B y).depth:=λy hy=>BO K n y (by have:=pe hy;lia) (hk y hy);have h1:=FW (f:=ak B) as λy hy=>(ih y hy).1;have h2:=Fj (f:=ak B) as λy hy=>(ih y hy).2;show _≤(Tr.mk B _ (Tr.nd s as)).aq∧_≤(Tr.mk B _ (Tr.nd s as)).depth;rw[qb e,Tr.aq,Tr.aq,Tr.depth,Tr.depth];exact⟨gI h1 1,gI h2 1⟩
  ·rw[Tr.aq]at hn;have ih:∀y∈as,y.aq≤(ak B y).aq∧y.depth≤(ak B y).depth:=λy hy=>BO K n y (by have:=pe hy;lia) (hk y hy);have h1:=FW (f:=ak B) as λy hy=>(ih y hy).1;have h2:=Fj (f:=ak B) as λy hy=>(ih y hy).2;obtain⟨_,g1,g2⟩:=K.O.aD ht (us:=as.map (ak B)) (by rw[ay,hl]);show _≤(Tr.mk B _ (Tr.nd t.1 as)).aq∧_≤(Tr.mk B _ (Tr.nd t.1 as)).depth;rw[p6 e,Tr.aq,Tr.depth];exact⟨aY (gI h1 1) g1,aY (gI h2 1) g2⟩
def sK (B:List Tn) (wn:List (List Int)) (p:List Int) (t:Tr):Prop:=∀e v,t.at e=aa v→(p++e∈wn↔(o7 B v).isSome=true)
theorem E3 (ih:∀{t u:Tr}{p:List Int},Wi B wn n p t u→Sh ws B t→sK B wn p t→u.us B p=t.op B p):∀{qs:List (List Int)}{ts us:List Tr},pC B wn n p qs ts us→aN (λq t=>Sh ws B t∧sK B wn (p++q) t) qs ts→vY B p qs us=ug B p qs ts
 |_,_,_, .nil,_=>rfl
 |_,_,_, .cons a b,h=>by
  cases h with
  |cons c d=>
   simp only[vY,ug];rw[ih a c.1 c.2,E3 ih b d]
theorem E7 (b:mF w0 w1 w2 w3 w4 w5 tt B) (G:nT w0 w1 w2 w3 w4 w5) (K:Bk3 ws B):∀(n:Nat) {t u:Tr}{p:List Int},Wi B wn n p t u→Sh ws B t→sK B wn p t→u.us B p=t.op B p
 |0,t,u,p,W,h,hw=>nomatch W
 |n+1,t,u,p,W,h,hw=>by
  have at0:∀(s:ah) (ts:List Tr),(Tr.nd s ts).at []=aa (.nd s ts):=λs ts=>by rw[Tr.at]
  cases W with
  | @no _ _ s ts us hp e W=>
   have ho:o7 B (.nd s ts)=none:=by
    cases k:o7 B (.nd s ts) with
    |none=>rfl
    |some v=>
     have:=(hw [] _ (at0 s ts)).mpr (by rw[k];rfl);rw[bg]at this;exact absurd this hp
   obtain⟨s',ts',e0,hs,_,k⟩:=h.cases K;cases e0;have pr:∀(i:Nat) (xs:List Tr),(∀(j:Nat) x,xs[j]? =aa x→ts[i+j]? =aa x)→aN (λq t=>Sh ws B t∧sK B wn (p++q) t) ((f9 i xs.length).map λ(i:Nat)=>[(i:Int)]) xs:=by
    intro i xs
    induction xs generalizing i with
    |nil=>intro _;exact .nil
    |cons x xs ih=>
     intro hx;have hi:=hx 0 x rfl;rw[dO]at hi;have hm:x∈ts:=aJ hi;rw[aU,gA,aC];refine .cons ⟨k x hm,λe' v' h6=>?_⟩ (ih (i+1) λj y hy=>?_)
     ·have:=hw ((i:Int)::e') v' (by rw[r8 hi];exact h6);rw[bD];exact this
     ·have:=hx (j+1) y (by rw[bU];exact hy);rw[show i+1+j=i+(j+1) by lia]
      exact this
   have pr0:=pr 0 ts λj x h=>by rw[bG];exact h
   have wl:us.length=ts.length:=W.len;rw[Z' e,wl,Tr.op,ho];show vY B p _ us=[]++pA B p 0 ts;rw[aX,Kj,gG];rw[gG]at W;exact E3 (E7 b G K n) W pr0
  | @yes _ _ s ts us ms u hp ho hm et W=>
   have hu:u∈B:=bX ho;obtain⟨f1,f2,f3⟩:=h.parts K hu hm;have pr:∀{qs:List (List Int)}{xs:List Tr},(∀x∈xs,Sh ws B x)→aN (λq m=>(Tr.nd s ts).at q=aa m) qs xs→aN (λq t=>Sh ws B t∧sK B wn (p++q) t) qs xs:=by
    intro qs xs h2 h3
    induction h3 with
    |nil=>exact .nil
    | @cons q m qs xs h4 _ ih=>
     refine .cons ⟨h2 m (by simp),λe' v' h6=>?_⟩ (ih λx hx=>h2 x (aI _ hx));have:=hw (q++e') v' (by rw[uO _ e' h4];exact h6);rw[bD];exact this
   have z:=E3 (E7 b G K n) W (pr f3 (Fe hm));rw[Xk et,z,Tr.op,ho];show _=[(p,u.1)]++pA B p 0 ts;rw[List.singleton_append];congr 1;obtain⟨m,hL⟩:=b.mem_lefts hu;have o2:∀xs,o7 B (.nd w2 xs)=none:=λxs=>b.open_none (G.n0 w2 (by simp)) (G.n1 w2 (by simp));have o3:∀xs,o7 B (.nd w3 xs)=none:=λxs=>b.open_none (G.n0 w3 (by simp)) (G.n1 w3 (by simp));obtain hL |hL:=hL
   ·obtain⟨ks,ek⟩:=vi hL;have:=Mx hL o2 o3 f2 ek p;rw[ek,Tr.aD]at f1;injection f1 with _ f1;rw[f1];exact this.symm
   ·obtain⟨ks,ek⟩:=vi hL;have:=Mx hL o2 o3 f2 ek p;rw[ek,Tr.aD]at f1;injection f1 with _ f1;rw[f1];exact this.symm
def Sh.all (h:Sh ws B t):sK B (zQ B t) [] t:=λe v hv=>by
 have ft:=uF (m:=0) _ h.hdT;rw[aX];constructor
 ·intro he;exact h.wn (λq hq=>hq) e he e v (by simp) hv
 ·intro ho;obtain⟨u,ho⟩:=dL.mp ho;have m:=AA t [] e v hv;rw[aX]at m;unfold zQ;rw[←Bt B t [] ft];refine aT.mpr ⟨(e,u.1),dZ.mpr ⟨(e,v),m,?_⟩,rfl⟩;unfold sV;rw[ho];simp
structure BW (ws:List ah) (B:List Tn) (t u:Tr):Prop where
  wi:Wi B (zQ B t) t.depth [] t u
  sr:ak B u=t
  wy:Wy ws B u
  us:u.us B []=t.op B []
def TY (b:mF w0 w1 w2 w3 w4 w5 tt B) (G:nT w0 w1 w2 w3 w4 w5) (K:Bk3 ws B) (h:Sh ws B t):∃u,BW ws B t u:=by
 obtain⟨u,wi,e,y,_⟩:=C9 K t.depth t [] (aA _) h (h.wn λq hq=>hq);exact⟨u,wi,e,y,E7 b G K _ wi h h.all⟩
open Classical in
noncomputable def fw (ws:List ah) (B:List Tn) (t:Tr):Tr:=if h:∃u,BW ws B t u then choose h else t
def wR (b:mF w0 w1 w2 w3 w4 w5 tt B) (G:nT w0 w1 w2 w3 w4 w5) (K:Bk3 ws B) (h:Sh ws B t):BW ws B t (fw ws B t):=by
 have e:=TY b G K h;unfold fw;rw[dif_pos e];exact lI e
noncomputable def hh (ws:List ah) (B:List Tn) (t:Tr):Nat→Tr
 |0=>t
 |k+1=>b7 B (fw ws B (hh ws B t k))
noncomputable def wys (ws:List ah) (B:List Tn) (t:Tr) (k:Nat):List Tr:=(bx k).map λi=>fw ws B (hh ws B t i)
def Go (ws:List ah) (B:List Tn) (t:Tr) (l:Nat) (i:Nat):Prop:=i<l∧(hh ws B t i).op B []≠ []∧(hh ws B t (i+1)).bo=true
def Gk (ws:List ah) (B:List Tn) (t:Tr) (l:Nat) (k:Nat) (z:Bool):Prop:=(∀i,i<k→Go ws B t l i)∧match z with
 |false=>l≤k∨(hh ws B t k).op B []=[]
 |true=>k<l∧(hh ws B t k).op B []≠ []∧(hh ws B t (k+1)).bo=false
theorem yG (b:mF w0 w1 w2 w3 w4 w5 tt B) (G:nT w0 w1 w2 w3 w4 w5) (K:Bk3 ws B) (h:Sh ws B t):∀k,Sh ws B (hh ws B t k)
 |0=>h
 |k+1=>by
  have f:=wR b G K (yG b G K h k);obtain⟨g1,g2,_,_⟩:=K.b7 f.wy;exact⟨g1,g2⟩
def Tp (h0:t.bo=true) (h:∀i,i<k→Go ws B t l i):(hh ws B t k).bo=true:=by
 cases k with
 |zero=>exact h0
 |succ k=>exact(h k (by lia)).2.2
def OD (k:Nat):wys ws B t (k+1)=wys ws B t k++[fw ws B (hh ws B t k)]:=by
 unfold wys;rw[gw,bK];rfl
def KQ (k:Nat):(wys ws B t k).length=k:=by
 unfold wys;rw[ay,lz]
end
def Yp (h:Sub (bR S a x) S1):Sub (bR S a y) (bR S1 a y):=λb o e=>by
 by_cases z:b=a
 ·subst z;rw[mR]at e⊢;exact e
 ·rw[nO z]at e⊢;exact h b o (by rw[nO z];exact e)
def qV{t:Tr}(h:t.bo=true):t.aq≤400∧t.depth≤40:=by
 have no:¬t.bo=false:=by rw[h];simp
 constructor
 ·obtain z |z:=gV 400 t.aq
  ·exact absurd ((Ge t).mpr (.inl (by lia))) no
  ·exact z
 ·obtain z |z:=gV 40 t.depth
  ·exact absurd ((Ge t).mpr (.inr (by lia))) no
  ·exact z
structure mZ (w0 w1 w2 w3 w4 w5:ah) (tt:List ah) (B:List Tn):Prop where
  b:mF w0 w1 w2 w3 w4 w5 tt B
  T:pE tt
  G:nT w0 w1 w2 w3 w4 w5
structure Ye (ws:List ah) (B:List Tn) (x u:Tr):Prop where
  f:BW ws B x u
  wt:u.aq≤400
  dp:u.depth≤40
  ar:u.ar B
  hd:u.hd λ_=>True
  wd:(u.mk B (oh 2)).wd
section
variable {w0 w1 w2 w3 w4 w5:ah}{tt:List ah}{B:List Tn}{t:Tr}{S:lr}{a:ai}{r:Nat}{Q:WK}{E:ah→lr→Prop}
def mZ.bk (c:mZ w0 w1 w2 w3 w4 w5 tt B):ox [w0,w1,w2,w3,w4,w5] [w2,w3,w4,w5] B:=c.b.bk c.T c.G
def mF.bk3 (b:mF w0 w1 w2 w3 w4 w5 tt B) (T:pE tt) (G:nT w0 w1 w2 w3 w4 w5):Bk3 [w0,w1,w2,w3,w4,w5] B:=by
 have k:=b.bk T G;refine⟨⟨k.ti,k.nd,k.sg,λx hx=>hx,k.lf,k.ri⟩,b.ort G,λt ht=>?_⟩;obtain⟨n,z |z⟩:=b.mem_lefts ht
 ·exact(BG (P:=λs=>s∈ [w0,w1,w2,w3,w4,w5]) (by simp) (by simp) (by simp) _ z).hb
 ·exact(BG (P:=λs=>s∈ [w0,w1,w2,w3,w4,w5]) (by simp) (by simp) (by simp) _ z).hb
def mZ.K (c:mZ w0 w1 w2 w3 w4 w5 tt B):Bk3 [w0,w1,w2,w3,w4,w5] B:=c.b.bk3 c.T c.G
def mZ.L (c:mZ w0 w1 w2 w3 w4 w5 tt B):rA B:=⟨λt ht=>(c.bk.lf t ht).dp,λt ht=>by
 have h1:=(c.bk.lf t ht).wt;have h2:=(c.bk.lf t ht).nb;lia⟩
def mZ.P (c:mZ w0 w1 w2 w3 w4 w5 tt B):PB B:=λt ht x hx=>by
 have h1:=(xO hx).2.2;have h2:=c.L.d t ht;lia
def mZ.g2 (c:mZ w0 w1 w2 w3 w4 w5 tt B):pF (oh 2) B:=⟨λt ht=>(c.b.ri t ht).br,λt ht=>(c.b.ri t ht).dp,λt ht=>aY (c.b.ri t ht).wt (by decide)⟩
def mZ.way (c:mZ w0 w1 w2 w3 w4 w5 tt B) (h:Sh [w0,w1,w2,w3,w4,w5] B x) (hs:x.bo=true):Ye [w0,w1,w2,w3,w4,w5] B x (fw [w0,w1,w2,w3,w4,w5] B x):=by
 have f:=wR c.b c.G c.K h;obtain⟨h1,h2⟩:=BO c.K _ _ (aA _) f.wy;rw[f.sr]at h1 h2;obtain⟨h3,h4⟩:=qV hs;exact⟨f,by lia,by lia,f.wy.ar,vC (λ_ _=>trivial) _ f.wy.hd,Cw (λt ht=>aY (c.g2.wt t ht) (by decide)) _ (by lia)⟩
def PC (c:mZ w0 w1 w2 w3 w4 w5 tt B) (ha:S a=aa (.bP (B.map mK))) (h:Sh [w0,w1,w2,w3,w4,w5] B x) (hs:x.bo=true) (hr:120≤r) (q:Q (j5 (fw [w0,w1,w2,w3,w4,w5] B x)) S):As (r+1) [.ref a,j5 x] S Q E:=by
 have w:=c.way h hs;obtain⟨h3,h4⟩:=qV hs;have hl:=xM B x [];obtain⟨r,rfl⟩:∃r',r=r'+1:=⟨r - 1,by lia⟩
 rw[As];ext;refine yr c.L ha (by lia) (by lia) (by lia) h.hdT λq1 hq1=>?_;refine DL mR (by lia) λq2 hq2=>?_;exact D0 c.L c.P w.f.wi (by lia) (by lia) (keep (keep ha hq1) hq2) mR h.hdT (by lia) (by unfold zQ;rw[ay];lia) ⟨_, .trans (.bR .refl hq1) (.bR .refl hq2),q⟩
def Q2 (c:mZ w0 w1 w2 w3 w4 w5 tt B) (ha:S a=aa (.bP (B.map mK))) (h:Sh [w0,w1,w2,w3,w4,w5] B t) (hs:t.bo=true) (hl:l≤10) (hr:130≤r)
  (h1:∀k,Gk [w0,w1,w2,w3,w4,w5] B t l k false→ ∀S' q,Sub S S'→S' q=aa (.bP (af (wys [w0,w1,w2,w3,w4,w5] B t k)))→Q (.bW [.bW [j5 t, .ref q], .bl ((hh [w0,w1,w2,w3,w4,w5] B t k).op B []).isEmpty]) S')
  (h2:∀k,Gk [w0,w1,w2,w3,w4,w5] B t l k true→ ∀S',Sub S S'→E "TooGreat" S'):Bn (r+1) [.ref a,j5 t, .int l] S Q E:=by
 obtain⟨r,rfl⟩:∃r',r=r'+1:=⟨r - 1,by lia⟩
 rw[Bn];ext;refine⟨aP _,λq hq=>?_⟩;refine⟨λm σ S'=>∃k x5,m=l - k∧(∀i,i<k→Go [w0,w1,w2,w3,w4,w5] B t l i)∧S'=bR S q (.bP (af (wys [w0,w1,w2,w3,w4,w5] B t k)))∧σ=[aa (.ref a),aa (j5 t),aa (.int l),aa (.ref q),aa (j5 (hh [w0,w1,w2,w3,w4,w5] B t k)),x5],⟨_,0,none,rfl,λi hi=>absurd hi (Nat.not_lt_zero i),by simp [wys,af],rfl⟩,?_⟩
 rintro m σ S' ⟨k,x5,rfl,hg,rfl,rfl⟩;have sh:=yG c.b c.G c.K h k;have sm:=Tp hs hg;obtain⟨b1,b2⟩:=qV sm;have sb:Sub S (bR S q (Ob.bP (af (wys [w0,w1,w2,w3,w4,w5] B t k)))):= .bR .refl hq;have fa:=sb _ _ ha;have fq:bR S q (Ob.bP (af (wys [w0,w1,w2,w3,w4,w5] B t k))) q=aa (.bP (af (wys [w0,w1,w2,w3,w4,w5] B t k))):=mR;have fin:∀S1,Sub (bR S q (Ob.bP (af (wys [w0,w1,w2,w3,w4,w5] B t k)))) S1→(l≤k∨(hh [w0,w1,w2,w3,w4,w5] B t k).op B []=[])→2≤sizeLine∧yh (mG (uq (r+1)) (jM (jn 0) (jM (jn 4) ae))) (λc x S'=>E c S') [aa (.ref a),aa (j5 t),aa (.int l),aa (.ref q),aa (j5 (hh [w0,w1,w2,w3,w4,w5] B t k)),x5] S1 λw S1=>2≤sizeLine∧ ∃S'',Sub S'' S1∧Q (.bW [.bW [j5 t, .ref q],w]) S'':=λS1 s1 hk=>by
  rw[Ss];ext;refine⟨m7 (by decide),yr c.L (s1 _ _ fa) (by lia) (by lia) (by lia) sh.hdT λq2 hq2=>?_⟩;ext;have ee:(((hh [w0,w1,w2,w3,w4,w5] B t k).op B []).map encX).isEmpty=((hh [w0,w1,w2,w3,w4,w5] B t k).op B []).isEmpty:=by cases(hh [w0,w1,w2,w3,w4,w5] B t k).op B []<;>rfl
  rw[ee,Bool.not_not];exact⟨m7 (by decide),_, .refl,h1 k ⟨hg,hk⟩ _ q ((sb.trans s1).trans (.bR .refl hq2)) (keep (s1 _ _ fq) hq2)⟩
 have w:=c.way sh sm;have eg:(fw [w0,w1,w2,w3,w4,w5] B (hh [w0,w1,w2,w3,w4,w5] B t k)).mk B (oh 2)=hh [w0,w1,w2,w3,w4,w5] B t (k+1):=by rw[AN];rfl
 have el:(af (wys [w0,w1,w2,w3,w4,w5] B t k)).length=k:=by rw[pH,KQ]
 ext;rw[el];split
 ·rename_i lt;refine yr c.L fa (by lia) (by lia) (by lia) sh.hdT λq2 hq2=>?_;have s2:Sub (bR S q (Ob.bP (af (wys [w0,w1,w2,w3,w4,w5] B t k)))) (bR (bR S q (Ob.bP (af (wys [w0,w1,w2,w3,w4,w5] B t k)))) q2 (Ob.bP (((hh [w0,w1,w2,w3,w4,w5] B t k).op B []).map encX))):= .bR .refl hq2;ext;cases e:(hh [w0,w1,w2,w3,w4,w5] B t k).op B []with
  |nil=>
   rw[e]at s2;simp only[cy,jB,iJ,cF,if_false];exact fin _ s2 (.inr e)
  |cons x xs=>
   rw[e]at s2;simp only[aC,il,kz,if_true]at s2⊢;generalize bR (bR S q (Ob.bP (af (wys [w0,w1,w2,w3,w4,w5] B t k)))) q2 (Ob.bP (encX x::xs.map encX))=S2 at s2⊢;have ne:(hh [w0,w1,w2,w3,w4,w5] B t k).op B []≠ []:=by rw[e];simp
   simp only[Hl];ext;refine PC c (s2 _ _ fa) sh sm (by lia) ?_;refine H_ (s2 _ _ fa) c.g2 w.dp (by lia) w.ar (by have:=w.wt;lia) w.wd (λz=>?_) λz=>?_
   ·rw[eg]at z⊢
    try ext
    rw[m8 (s2 _ _ fq)];refine⟨trivial,?_⟩;rw[m8 (s2 _ _ fq)];refine⟨qE (by rw[el];lia),l - (k+1),bR S q (.bP (af (wys [w0,w1,w2,w3,w4,w5] B t (k+1)))),by lia,?_,k+1,_,rfl,λi hi=>?_,rfl,rfl⟩
    ·rw[OD,xH];exact Yp s2
    ·obtain y |y:=gV i k
     ·exact hg i y
     ·rw[show i=k by lia]
      exact⟨by lia,ne,z⟩
   ·rw[eg]at z;exact h2 k ⟨hg,by lia,ne,z⟩ _ (sb.trans s2)
 ·exact fin _ .refl (.inl (by lia))
end
def OQ{α β:Type}{f:α→β}{xs:List α}(h:(xs.map f).Nodup):xs.Nodup:=by
 unfold jc at h⊢;rw[kF]at h;exact h.imp λ{a b} n e=>n (by rw[e])
section
variable {w0 w1 w2 w3 w4 w5:ah}{tt:List ah}{B:List Tn}{S:lr}{a:ai}{r:Nat}{Q:WK}{E:ah→lr→Prop}
def mZ.ok_open (c:mZ w0 w1 w2 w3 w4 w5 tt B) (ha:S a=aa (.bP (B.map mK))) {x:Tr}(h:Sh [w0,w1,w2,w3,w4,w5] B x) (hs:x.bo=true) (hr:80≤r) (k:∀S' b,Sub S S'→S' b=aa (.bP ((x.op B []).map encX))→Q (.ref b) S'):vk (r+1) [.ref a,j5 x] S Q E:=by
 obtain⟨b1,b2⟩:=qV hs;have hl:=c.b.len;exact RB c.L (OQ c.bk.nd) (by lia) (λx u hu v hv h1 h2=>c.K.O.one u hu v hv x h1 h2) ha (by lia) (by lia) (by lia) (uF _ h.hdT) k
end
theorem JX:∀{ts:List Tr},(∀x∈ts,x.depth≤d)→m_ ts≤d
 | [],_=>by simp [m_]
 |t::ts,h=>by
  have h1:=h t aK;have h2:=JX (ts:=ts) λx hx=>h x (aI _ hx);rw[m_];lia
def FT (K:Bk3 ws B) (hx:Wy ws B x) (hy:Wy ws B y) (e:ak B x=ak B y):∃p,nF ws B p∧p.ev B (nI 1)=x∧p.ev B (nI 2)=y∧p.ev B zr=ak B x:=by
 obtain⟨p,hp,_,e1,e2⟩:=CG K.b K.O _ x y (aA _) hx hy e;refine⟨p,hp,e1,e2,?_⟩;rw[←e1];show _=(p.ev B (nI 1)).mk B λt=>t.2.1;rw[wA K.b hp];exact vR hp λb h0 h1=>((td 1).ak b h0 h1).symm
section
variable {ws:List ah}{B:List Tn}{x t:Tr}{xs:List Tr}
def Sh.dP (K:Bk3 ws B) (h:Sh ws B x):x.dP=true:=by
 refine Ed x ?_;have:∀(n:Nat) (x:Tr),x.depth≤n→Sh ws B x→x.hd ov:=by
  intro n
  induction n with
  |zero=>
   intro x hd h;have:=qB x;lia
  |succ n ih=>
   intro x hd h;obtain⟨s,ts,rfl,hs,_,k⟩:=h.cases K;rw[Tr.depth]at hd;rw[Tr.hd,mW];exact⟨K.b.sg s hs,λu hu=>ih u (by have:=pY hu;lia) (k u hu)⟩
 exact this _ x (aA _) h
def Wy.len (K:Bk3 ws B) (h:Wy ws B x):x.hd λs=>s.length≤1000:=vC (λs hs=>by
 obtain hs |⟨t,ht,rfl⟩:=hs
 ·exact OR (K.b.sg s hs)
 ·exact UC (K.b.ti t ht)) _ h.hd
theorem Gv{α:Type}(f:α→Bool):∀(xs:List α),sH (xs.map λx=>W.bl (f x))=aa (xs.map f)
 | []=>rfl
 |x::xs=>by rw[aC,sH,Gv f xs];rfl
end
def Bk3.moved (K:Bk3 ws B) (hx:Wy ws B x) (hy:Wy ws B y) (e:L2.ak B x=L2.ak B y):xV ws B x y (res B x y):=by
 obtain⟨p,hp,rfl,rfl,_⟩:=FT K hx hy e;have o1:=td 1;have o2:=td 2;have m1:=(BN (c:=nI 1) (d:=nI 2) K.b K.O.mt (zk o1 o2) hp).res;have m2:=(BN (c:=nI 2) (d:=nI 1) K.b K.O.mt (zk o2 o1) hp).res;rw[m1];refine⟨K.wy hp,?_,?_,Si K.b K.O o1 o2 hp⟩
 ·show(p.ev B (pL (nI 1) (nI 2))).mk B (λt=>t.2.1)=(p.ev B (nI 2)).mk B λt=>t.2.2;rw[wA K.b hp,xX K.b hp];refine vR hp λx h0 h1=>?_;have a:=wU 1 x;have b:=wU 2 x;unfold vg sy pL;generalize nI 1 x=m at a⊢;generalize nI 2 x=n at b⊢;obtain rfl |rfl:m=0∨m=1:=by lia
  all_goals obtain rfl |rfl:n=0∨n=1:=by lia
  all_goals rfl
 ·rw[m2];show(p.ev B (pL (nI 1) (nI 2))).mk B (λt=>t.2.2)=(p.ev B (pL (nI 2) (nI 1))).mk B λt=>t.2.2;rw[xX K.b hp,xX K.b hp];refine vR hp λx h0 h1=>?_;have a:=wU 1 x;have b:=wU 2 x;unfold sy pL;generalize nI 1 x=m at a⊢;generalize nI 2 x=n at b⊢;obtain rfl |rfl:m=0∨m=1:=by lia
  all_goals obtain rfl |rfl:n=0∨n=1:=by lia
  all_goals rfl
theorem uW (K:Bk3 ws B):∀(os:List Tr) {x t:Tr},Wy ws B x→L2.ak B x=t→nN ws B t os→nN ws B (b7 B x) (pG B x os)∧Wy ws B (qJ B x os)∧L2.ak B (qJ B x os)=oo B t os∧oo B (b7 B x) (pG B x os)=b7 B (qJ B x os)
 | [],x,t,hx,ex,_=>⟨trivial,hx,ex,rfl⟩
 |o::os,x,t,hx,ex,⟨ho,eo,hr⟩=>by
  have m:=K.moved hx ho (ex.trans eo.symm);have m':=K.moved ho hx (eo.trans ex.symm);obtain⟨h1,h2,h3,h4⟩:=uW K os m.wy m.sr hr;refine⟨?_,h2,h3,?_⟩
  ·rw[pG];refine⟨m'.wy,m'.sr,?_⟩;rw[m'.go];exact h1
  ·rw[pG,oo,qJ,m'.go];exact h4
theorem zO (K:Bk3 ws B):∀(xs os:List Tr) {t:Tr},nN ws B t xs→nN ws B t os→nN ws B (oo B t os) (oE B xs os)
 | [],os,t,_,_=>trivial
 |x::xs,os,t,⟨hx,ex,hr⟩,ho=>by
  obtain⟨h1,h2,h3,h4⟩:=uW K os hx ex ho;rw[oE];refine⟨h2,h3,?_⟩;rw[←h4];exact zO K xs _ hr h1
theorem K9 (K:Bk3 ws B):∀(xs os:List Tr) {t:Tr},nN ws B t xs→nN ws B t os→oo B (oo B t os) (oE B xs os)=oo B (oo B t xs) (oE B os xs)
 | [],os,t,_,_=>by rw[MU,oE];rfl
 |x::xs,os,t,⟨hx,ex,hr⟩,ho=>by
  obtain⟨h1,h2,h3,h4⟩:=uW K os hx ex ho;rw[oE,oo,←h4,K9 K xs _ hr h1,oo,IY]
theorem BZ (ih:∀{t u:Tr}{p:List Int},Wi B wn n p t u→Sh ws B t→sK B wn p t→ ∀y,Wy ws B y→ak B y=t→ ∃z,Mv B n y u z∧z.hd ov):∀{qs:List (List Int)}{ts us:List Tr},pC B wn n p qs ts us→aN (λq t=>Sh ws B t∧sK B wn (p++q) t) qs ts→ ∀ys:List Tr,(∀y∈ys,Wy ws B y)→ys.map (ak B)=ts→ ∃zs,nW B n ys us zs∧hds ov zs∧zs.length=ts.length
 |_,_,_, .nil,_,ys,hy,e=>by
  have:ys=[]:=by cases ys<;>simp at e⊢
  subst this;exact⟨[], .nil,trivial,rfl⟩
 |_,_,_, .cons a b,h,ys,hy,e=>by
  cases h with
  |cons c d=>
   cases ys with
   |nil=>simp at e
   |cons y ys=>
    rw[aC]at e;injection e with e1 e2;obtain⟨z,M,hz⟩:=ih a c.1 c.2 y (hy y aK) e1;obtain⟨zs,Ms,hzs,hl⟩:=BZ ih b d ys (λx hx=>hy x (aI _ hx)) e2;exact⟨z::zs, .cons M Ms,⟨hz,hzs⟩,by simp [hl]⟩
theorem Bf (b:mF w0 w1 w2 w3 w4 w5 tt B) (G:nT w0 w1 w2 w3 w4 w5) (K:Bk3 [w0,w1,w2,w3,w4,w5] B):∀(n:Nat) {t u:Tr}{p:List Int},Wi B wn n p t u→Sh [w0,w1,w2,w3,w4,w5] B t→sK B wn p t→ ∀y,Wy [w0,w1,w2,w3,w4,w5] B y→ak B y=t→ ∃z,Mv B n y u z∧z.hd ov
 |0,t,u,p,W,h,hw,y,hy,ey=>nomatch W
 |n+1,t,u,p,W,h,hw,y,hy,ey=>by
  have at0:∀(s:ah) (ts:List Tr),(Tr.nd s ts).at []=aa (.nd s ts):=λs ts=>by rw[Tr.at]
  cases W with
  | @no _ _ s ts us hp e W=>
   have ho:o7 B (.nd s ts)=none:=by
    cases k:o7 B (.nd s ts) with
    |none=>rfl
    |some v=>
     have:=(hw [] _ (at0 s ts)).mpr (by rw[k];rfl);rw[bg]at this;exact absurd this hp
   obtain⟨s',ts',e0,hs,_,k⟩:=h.cases K;cases e0;obtain ⟨s1,as,rfl,hs1,e1,hk⟩ |⟨v,as,hv,rfl,e1,hl,hk⟩:=hy.cases K.b
   ·have q:=ey;rw[show ak B (.nd s1 as)=_ from qb e1]at q;injection q with q1 q2;subst q1;have pr:∀(i:Nat) (xs:List Tr),(∀(j:Nat) x,xs[j]? =aa x→ts[i+j]? =aa x)→aN (λq t=>Sh [w0,w1,w2,w3,w4,w5] B t∧sK B wn (p++q) t) ((f9 i xs.length).map λ(i:Nat)=>[(i:Int)]) xs:=by
     intro i xs
     induction xs generalizing i with
     |nil=>intro _;exact .nil
     |cons x xs ih=>
      intro hx;have hi:=hx 0 x rfl;rw[dO]at hi;have hm:x∈ts:=aJ hi;rw[aU,gA,aC];refine .cons ⟨k x hm,λe' v' h6=>?_⟩ (ih (i+1) λj y hy=>?_)
      ·have:=hw ((i:Int)::e') v' (by rw[r8 hi];exact h6);rw[bD];exact this
      ·have:=hx (j+1) y (by rw[bU];exact hy);rw[show i+1+j=i+(j+1) by lia]
       exact this
    have pr0:=pr 0 ts λj x h=>by rw[bG];exact h
    rw[gG]at W;obtain⟨zs,Ms,hz,_⟩:=BZ (Bf b G K n) W pr0 as hk q2;exact⟨.nd s1 zs, .nn e1 e Ms,K.b.sg s1 hs1,hz⟩
   ·exfalso;have q:=ey;rw[show ak B (.nd v.1 as)=_ from p6 e1]at q;have o:=b.open_some G hv (us:=as.map (ak B)) (by rw[ay,hl]);rw[show v.2.1.aD (as.map (ak B))=_ from q,ho]at o;cases o
  | @yes _ _ s ts us ms v hp ho hm et W=>
   have hv:v∈B:=bX ho;obtain⟨f1,f2,f3⟩:=h.parts K hv hm;have pr:∀{qs:List (List Int)}{xs:List Tr},(∀x∈xs,Sh [w0,w1,w2,w3,w4,w5] B x)→aN (λq m=>(Tr.nd s ts).at q=aa m) qs xs→aN (λq t=>Sh [w0,w1,w2,w3,w4,w5] B t∧sK B wn (p++q) t) qs xs:=by
    intro qs xs h2 h3
    induction h3 with
    |nil=>exact .nil
    | @cons q m qs xs h4 _ ih=>
     refine .cons ⟨h2 m (by simp),λe' v' h6=>?_⟩ (ih λx hx=>h2 x (aI _ hx));have:=hw (q++e') v' (by rw[uO _ e' h4];exact h6);rw[bD];exact this
   have prm:=pr f3 (Fe hm);have fin:∀zs:List Tr,hds ov zs→zs.length=v.2.1.nb→(v.2.2.aD zs).hd ov:=λzs hz hl=>zB (mW.mp hz) _ ((b.ri v hv).hb λx hx=>K.b.sg x hx) (by rw[hl];exact(b.ri v hv).br);obtain ⟨s1,as,rfl,hs1,e1,hk⟩ |⟨v',as,hv',rfl,e1,hl,hk⟩:=hy.cases K.b
   ·rw[f1]at ey;obtain⟨vs,g1,g2,g3,g4,_⟩:=D5 K.b K.O hv e1 hy f2 ey;obtain⟨zs,Ms,hz,hl⟩:=BZ (Bf b G K n) W prm vs g4 g3;refine⟨v.2.2.aD zs, .ns e1 et ?_ (by rw[hl,f2]) Ms,fin zs hz (by rw[hl,f2])⟩;rw[g1];exact K.O.mt v hv vs g2
   ·have q:=ey;rw[show ak B (.nd v'.1 as)=_ from p6 e1]at q;have o:=b.open_some G hv' (us:=as.map (ak B)) (by rw[ay,hl]);rw[show v'.2.1.aD (as.map (ak B))=_ from q,ho]at o;cases o;have m1:=K.O.mt v hv (as.map (ak B)) (by rw[ay,hl]);rw[show v.2.1.aD (as.map (ak B))=_ from q,hm]at m1;have m2:as.map (ak B)=ms:=(aL m1).symm;obtain⟨zs,Ms,hz,hl'⟩:=BZ (Bf b G K n) W prm as hk m2;exact⟨v.2.2.aD zs, .ss e1 et (by rw[hl',f2]) Ms,fin zs hz (by rw[hl',f2])⟩
def WQ (c:mZ w0 w1 w2 w3 w4 w5 tt B) (h:Sh [w0,w1,w2,w3,w4,w5] B t) (hy:Wy [w0,w1,w2,w3,w4,w5] B y) (e:ak B y=t):res B y (fw [w0,w1,w2,w3,w4,w5] B t)=b7 B (fw [w0,w1,w2,w3,w4,w5] B t):=by
 have f:=wR c.b c.G c.K h;obtain⟨z,M,hz⟩:=Bf c.b c.G c.K _ f.wi h h.all y hy e;have er:res B y (fw [w0,w1,w2,w3,w4,w5] B t)=z:=M.res;have m:=c.K.moved hy f.wy (by rw[e,f.sr]);have s:=m.sr;rw[er]at s⊢;rw[←s];exact(rK c.K.b.ti z hz).symm
theorem Fq (c:mZ w0 w1 w2 w3 w4 w5 tt B):∀(n:Nat) (y:Tr) (p:List Int),y.aq≤n→Wy [w0,w1,w2,w3,w4,w5] B y→(ak B y).op B p=[]→y.hd ov
 |0,y,p,hn,h,_=>by have:=rT y;lia
 |n+1,y,p,hn,h,ho=>by
  obtain ⟨s,as,rfl,hs,e,hk⟩ |⟨v,as,hv,rfl,e,hl,hk⟩:=h.cases c.K.b
  ·rw[Tr.aq]at hn;refine⟨c.K.b.sg s hs,?_⟩;rw[show ak B (.nd s as)=_ from qb e,Tr.op]at ho;have ho2:=(jZ.mp ho).2;have all:∀(i:Nat) (xs:List Tr),(∀x∈xs,x∈as)→pA B p i (xs.map (ak B))=[]→hds ov xs:=by
    intro i xs
    induction xs generalizing i with
    |nil=>intro _ _;exact trivial
    |cons x xs ih=>
     intro hx z;rw[aC,pA]at z;obtain⟨z1,z2⟩:=jZ.mp z;have hm:=hx x aK;exact⟨Fq c n x _ (by have:=pe hm;lia) (hk x hm) z1,ih (i+1) (λy hy=>hx y (aI _ hy)) z2⟩
   exact all 0 as (λx hx=>hx) ho2
  ·exfalso;have o:=c.b.open_some c.G hv (us:=as.map (ak B)) (by rw[ay,hl]);obtain⟨s0,l0,e0,_⟩:=c.K.O.inn v hv;rw[show ak B (.nd v.1 as)=_ from p6 e]at ho;rw[e0,Tr.aD]at ho o;rw[Tr.op,o]at ho;simp at ho
theorem Dy (c:mZ w0 w1 w2 w3 w4 w5 tt B) (h:Sh [w0,w1,w2,w3,w4,w5] B t) (hr:(hh [w0,w1,w2,w3,w4,w5] B t k).op B []=[]):∀j,hh [w0,w1,w2,w3,w4,w5] B t (k+j)=hh [w0,w1,w2,w3,w4,w5] B t k
 |0=>rfl
 |j+1=>by
  have ih:=Dy c h hr j;show b7 B (fw [w0,w1,w2,w3,w4,w5] B (hh [w0,w1,w2,w3,w4,w5] B t (k+j)))=_;have f:=wR c.b c.G c.K (yG c.b c.G c.K h k);have q:=Fq c _ _ [] (aA _) f.wy (by rw[f.sr];exact hr);rw[ih,show b7 B (fw [w0,w1,w2,w3,w4,w5] B (hh [w0,w1,w2,w3,w4,w5] B t k))=_ from rK c.K.b.ti _ q];have s:=f.sr;rwa [show ak B (fw [w0,w1,w2,w3,w4,w5] B (hh [w0,w1,w2,w3,w4,w5] B t k))=_ from rK c.K.b.ti _ q]at s
def Wy.re (w:Wy ws B (.nd h ts)) (hl:us.length=ts.length) (hu:∀x∈us,Wy ws B x):Wy ws B (.nd h us):=by
 obtain⟨h1,h2⟩:=w;rw[Tr.hd,mW]at h1;rw[Tr.ar,oA]at h2;refine⟨?_,?_⟩
 ·rw[Tr.hd,mW];exact⟨h1.1,λu hm=>(hu u hm).hd⟩
 ·rw[Tr.ar,oA];exact⟨λt e=>by rw[hl];exact h2.1 t e,λu hm=>(hu u hm).ar⟩
def LS (h:(Tr.nd s ts).at (i::p)=aa v):∃w,ts[i.toNat]? =aa w∧w.at p=aa v:=by
 simp only[Tr.at]at h;cases e:ts[i.toNat]? with
 |none=>rw[e]at h;simp at h
 |some w=>
  rw[e]at h;have h':0≤i∧w.at p=aa v:=by simpa using h
  exact⟨w,rfl,h'.2⟩
theorem L5{P:ah→Prop}:∀(q:List Int) {X v:Tr},X.hd P→X.at q=aa v→v.hd P∧v.aq≤X.aq
 | [],X,v,hX,h=>by
  cases X<;>(simp only[Tr.at,bH]at h;subst h;exact⟨hX,aA _⟩)
 |i::p, .bl n,v,hX,h=>by simp [Tr.at]at h
 |i::p, .nd s ts,v,hX,h=>by
  obtain⟨w,hw,hv⟩:=LS h;have hm:w∈ts:=aJ hw;simp only[Tr.hd]at hX;have:=L5 p (mW.mp hX.2 w hm) hv;have hwt:=pe hm;exact⟨this.1,by rw[Tr.aq];lia⟩
theorem Ie{P:ah→Prop}(hu:u.hd P):∀(q:List Int) {X v:Tr},X.hd P→X.at q=aa v→(X.bR q u).hd P
 | [],X,v,hX,h=>by rw[tq];exact hu
 |i::p, .bl n,v,hX,h=>by simp [Tr.at]at h
 |i::p, .nd s ts,v,hX,h=>by
  obtain⟨w,hw,hv⟩:=LS h;have hm:w∈ts:=aJ hw;rw[tI hw];simp only[Tr.hd]at hX⊢;exact⟨hX.1,GS (Ie hu p (mW.mp hX.2 w hm) hv) _ hX.2⟩
theorem NL{f:W→W→Option Bool}(h:∀x:List Int,f (mB x) (mB x)=aa true):∀xs:List (List Int),oV f (xs.map mB) (xs.map mB)=aa true
 | []=>rfl
 |x::xs=>by rw[aC,oV,h,NL h xs];rfl
def Zl{S:lr}{a b:ai}{xs:List (List Int)}(ha:S a=aa (.bP (xs.map mB))) (hb:S b=aa (.bP (xs.map mB))):nY S 60 (.ref a) (.ref b)=aa true:=ZV (n:=59) ha hb (NL (λx=>by rw[F8 (n:=57)];simp) xs)
def Vf (b:mF w0 w1 w2 w3 w4 w5 tt B) {X:Tr}{q:List Int}{t:Tn}{us:List Tr}(ht:t∈B) (hu:us.length=t.2.1.nb) (hX:X.at q=aa (t.2.1.aD us)) (hh:X.hd λ_=>True):(X.bR q (t.2.2.aD us)).hd (λ_=>True)∧(X.bR q (t.2.2.aD us)).aq≤7*X.aq∧(t.2.1.aD us).br 0:=by
 have h1:=L5 q hh hX;have h2:=wT _ _ _ (b.mt t ht us hu) h1.1;have ri:=b.ri t ht;have hr:(t.2.2.aD us).hd λ_=>True:=zB (mW.mp h2.1) t.2.2 (ri.hb λ_ _=>trivial) (by rw[hu];exact ri.br);have hv:1≤(t.2.1.aD us).aq:=rT _;have fw:=Na hv (λu hu'=>aY (pe hu') h2.2) t.2.2;have pw:=HH q (u:=t.2.2.aD us) hX;have rw7:t.2.2.aq*(t.2.1.aD us).aq≤7*(t.2.1.aD us).aq:=dQ _ ri.wt;refine⟨Ie hr q hh hX,?_,uF _ h1.1⟩;lia
def MC (O:qS B) (ht:t∈B) (h:t.2.1.mt (.nd s ts)=aa ms):m_ ms≤m_ ts:=by
 obtain⟨s0,l0,e0,_⟩:=O.inn t ht;rw[e0,Tr.mt]at h;split at h
 ·exact JX (A3 _ _ _ h)
 ·cases h
mutual
theorem Mv.bd (O:qS B):∀{n:Nat}{x y z:Tr},Mv B n x y z→Mv B x.depth x y z
 |_,_,_,_, .nn a b m=>by
  rw[Tr.depth,eE];exact .nn a b (nW.bd O m)
 |_,_,_,_, .ns a b c d m=>by
  rw[Tr.depth,eE];exact .ns a b c d ((nW.bd O m).monoA _ (MC O (bX b) c))
 |_,_,_,_, .sn a b c m=>by
  rw[Tr.depth,eE];exact .sn a b c (nW.bd O m)
 |_,_,_,_, .ss a b c m=>by
  rw[Tr.depth,eE];exact .ss a b c (nW.bd O m)
theorem nW.bd (O:qS B):∀{n:Nat}{xs ys zs:List Tr},nW B n xs ys zs→nW B (m_ xs) xs ys zs
 |_,_,_,_, .nil=> .nil
 |_,_,_,_, .cons a b=>by
  rw[m_];exact .cons ((Mv.bd O a).monoA _ (by lia)) ((nW.bd O b).monoA _ (by lia))
end
section
variable {ws:List ah}{B:List Tn}{x y:Tr}{a:ai}{r:Nat}{S:lr}{Q:WK}{E:ah→lr→Prop}
def Bk3.mv (K:Bk3 ws B) (hx:Wy ws B x) (hy:Wy ws B y) (e:L2.ak B x=L2.ak B y):Mv B x.depth x y (res B x y):=by
 obtain⟨p,hp,rfl,rfl,_⟩:=FT K hx hy e;have m:=BN (c:=nI 1) (d:=nI 2) K.b K.O.mt (zk (td 1) (td 2)) hp;have m1:=m.res;rw[m1];exact m.bd K.O
def Bk3.fitw (K:Bk3 ws B) (hx:Wy ws B x) (hs:(L2.ak B x).bo=true):x.depth≤40∧x.aq≤400∧x.ar B∧x.hd λ_=>True:=by
 obtain⟨g1,g2⟩:=BO K _ _ (aA _) hx;obtain⟨h1,h2⟩:=qV hs;exact⟨by lia,by lia,hx.ar,vC (λ_ _=>trivial) _ hx.hd⟩
def Bk3.gW (K:Bk3 ws B):pF (oh 2) B:=⟨λt ht=>(K.b.ri t ht).br,λt ht=>(K.b.ri t ht).dp,λt ht=>aY (K.b.ri t ht).wt (by decide)⟩
def Bk3.okmv (K:Bk3 ws B):∀t∈B,t.2.1.depth≤4∧t.2.1.aq≤100∧t.2.2.depth≤4∧t.2.2.aq≤100∧t.2.2.br t.2.1.nb:=λt ht=>by
 have h1:=K.b.lf t ht;have h2:=K.b.ri t ht;have h3:=h1.wt;have h4:=h1.nb;have h5:=h2.wt;exact⟨h1.dp,by lia,h2.dp,by lia,h2.br⟩
structure t8 (ws:List ah) (B:List Tn) (x y:Tr):Prop where
  K:Bk3 ws B
  wx:Wy ws B x
  wy:Wy ws B y
  e:ak B x=ak B y
  sm:(ak B y).bo=true
def t8.symm (h:t8 ws B x y):t8 ws B y x:=⟨h.K,h.wy,h.wx,h.e.symm,by rw[h.e];exact h.sm⟩
def t8.ok_move (h:t8 ws B x y) (ha:S a=aa (.bP (B.map mK))) (hr:60≤r) (q:Q (j5 (res B x y)) S):tO (r+1) [.ref a,j5 x,j5 y] S Q E:=by
 obtain⟨d1,w1,_,h1⟩:=h.K.fitw h.wx (by rw[h.e];exact h.sm);obtain⟨d2,w2,_,h2⟩:=h.K.fitw h.wy h.sm;exact JP h.K.okmv x.depth ha (h.K.mv h.wx h.wy h.e) (by lia) h1 h2 (by lia) (by lia) q
def Bk3.ok_goalX (K:Bk3 ws B) (hx:Wy ws B x) (hs:(L2.ak B x).bo=true) (ha:S a=aa (.bP (B.map mK))) (hr:60≤r) (h1:(L2.b7 B x).bo=true→Q (j5 (L2.b7 B x)) S) (h2:(L2.b7 B x).bo=false→E "TooGreat" S):ur (r+1) [.ref a,j5 x] S Q E:=by
 obtain⟨d1,w1,a1,_⟩:=K.fitw hx hs;have e2:x.mk B (oh 2)=L2.b7 B x:=by rw[AN]
 refine H_ ha K.gW d1 hr a1 (by lia) (Cw (λt ht=>aY (K.gW.wt t ht) (by decide)) _ (by lia)) (λz=>?_) λz=>?_
 ·rw[e2]at z⊢;exact h1 z
 ·rw[e2]at z;exact h2 z
end
theorem Im{G:lr→Prop}(K:Bk3 ws B) (hG:G S) (ha:S a=aa (.bP (B.map mK))) (hr:60≤r):∀(xs:List Tr) {t:Tr}(y1 y2:Option W),nN ws B t xs→t.bo=true→((∀x∈xs,(b7 B x).bo=true)→ ∀z,D.nx [aa (.ref a),y1,z] S)→((∃x∈xs,(b7 B x).bo=false)→ ∀σ,E "TooGreat" σ S)→mO (mx 2) (Ez (r+1) mH) E D G (xs.map j5) [aa (.ref a),y1,y2] S
 | [],t,y1,y2,_,_,h,_=>h (λ_ hx=>nomatch hx) y2
 |x::xs,t,y1,y2,⟨h1,h2,h3⟩,hs,h,hE=>by
  rw[aC];refine pU λN hN=>?_;rw[rp,Ez];ext;refine K.ok_goalX h1 (by rw[h2];exact hs) ha (by lia) (λz=>?_) λz=>hE ⟨x,aK,z⟩ _;refine hN _ _ _ .refl hG (Im K hG ha hr xs y1 _ h3 z (λk=>h λu hu=>?_) λ⟨u,hu,e⟩=>hE ⟨u,aI _ hu,e⟩);obtain e |e:=az.mp hu
  ·rw[e];exact z
  ·exact k u e
def DT{X:ah→lr→Prop}(K:Bk3 ws B) (ha:S a=aa (.bP (B.map mK))) (hl:S l=aa (.bP (xs.map j5))) (hx:nN ws B t xs) (hs:t.bo=true) (hr:60≤r) (h:(∀x∈xs,(b7 B x).bo=true)→Q .ca S) (hX:(∃x∈xs,(b7 B x).bo=false)→X "TooGreat" S):uL (r+2) [.ref a, .ref l] S Q X:=by
 rw[show r+2=r+1+1 from rfl,uL];ext;rw[m8 hl];exact Im K hl ha hr xs _ _ hx hs (λk z=>⟨_, .refl,h k⟩) λk σ=>hX k
def ue (B:List Tn):Tr→List Tr→Prop
 |_,[]=>True
 |x,o::os=>(b7 B (res B x o)).bo=true∧ue B (res B x o) os
theorem Hm{G:lr→Prop}(K:Bk3 ws B) (ha:S0 a=aa (.bP (B.map mK))) (h0:S0 q=none) (hG:∀S,Sub S0 S→G S) (hr:64≤r):∀(os:List Tr) {x t:Tr},Wy ws B x→ak B x=t→nN ws B t os→t.bo=true→(∀o∈os,(b7 B o).bo=true)→ ∀(xs:List W) {S:lr}{y1 y2 y4 y5:Option W},xs.length+os.length≤900→Sub S0 S→S q=aa (.bP (xs++[j5 x]))→
  (ue B x os→ ∀S' y4 y5,Sub S0 S'→S' q=aa (.bP (xs++(qt B x os).map j5))→D.nx [aa (.ref a),y1,y2,aa (.ref q),y4,y5] S')→(¬ue B x os→ ∀σ S',Sub S0 S'→E "TooGreat" σ S')→
  mO (mx 4) (C_ r mH) E D G (os.map j5) [aa (.ref a),y1,y2,aa (.ref q),y4,y5] S
 | [],x,t,hx,ex,hR,hs,hg=>λxs S y1 y2 y4 y5 hl sb hq h _=>h trivial S _ _ sb hq
 |o::os,x,t,hx,ex,⟨r1,r2,r3⟩,hs,hg=>by
  intro xs S y1 y2 y4 y5 hl sb hq h hE;have cl:t8 ws B x o:=⟨K,hx,r1,by rw[ex,r2],by rw[r2];exact hs⟩
  have m:=K.moved hx r1 cl.e;have go:=hg o aK;rw[aC];rw[aU]at hl;refine pU λN hN=>?_;rw[rp,C_];rw[Hi];ext;rw[m8 hq,B'];dsimp only;obtain⟨r',er⟩:∃r',r=r'+2:=⟨r - 2,by lia⟩
  rw[er];refine cl.ok_move (r:=r'+1) (sb _ _ ha) (by lia) ?_;rw[LQ];ext;refine⟨by decide,λv hv=>?_⟩;have sv:Sub S0 (bR S v (Ob.bP [j5 (res B x o)])):=sb.trans (.bR .refl hv);refine DT (xs:=[res B x o]) (t:=b7 B o) K (sv _ _ ha) mR ⟨m.wy,m.sr,trivial⟩ go (by lia) (λk=>?_) λ⟨u,hu,e⟩=>?_
  ·have k0:=k _ aK;rw[No];ext;have fq:=keep (x:=Ob.bP [j5 (res B x o)]) hq hv;rw[m8 fq,m8 fq];refine⟨trivial,qE (by rw[bc,cB];lia),?_⟩;have sb2:Sub S0 (bR (bR S v (Ob.bP [j5 (res B x o)])) q (.bP (xs++[j5 x]++[j5 (res B x o)]))):= .bR sv h0;refine hN _ _ _ .refl (hG _ sb2) (Hm K ha h0 hG hr os m.wy m.sr r3 go (λu hu=>hg u (aI _ hu)) (xs++[j5 x]) (by rw[bc,cB];lia) sb2 mR (λlk S' z4 z5 s' hq'=>?_) λnk=>hE λlk=>nk lk.2);refine h ⟨k0,lk⟩ S' z4 z5 s' ?_;rw[hq',qt,aC];simp
  ·rw[bh.mp hu]at e;exact hE (λlk=>by rw[lk.1]at e;cases e) _ _ sv
def SE{S:lr}{x t:Tr}{os:List Tr}{Q:WK}{X:ah→lr→Prop}(K:Bk3 ws B) (ha:S a=aa (.bP (B.map mK))) (hl:S l=aa (.bP (os.map j5))) (hx:Wy ws B x) (ex:ak B x=t) (hR:nN ws B t os) (hs:t.bo=true) (hg:∀o∈os,(b7 B o).bo=true) (hn:os.length≤800) (hr:64≤r)
  (h:ue B x os→ ∀S' q,Sub S S'→S q=none→S' q=aa (.bP ((qt B x os).map j5))→Q (.ref q) S') (hX:¬ue B x os→ ∀S',Sub S S'→X "TooGreat" S'):xJ (r+1) [.ref a,j5 x, .ref l] S Q X:=by
 rw[xJ,uB];refine⟨rfl,?_⟩;rw[HU];ext;refine⟨by decide,λq hq=>?_⟩;rw[Nd];ext;rw[m8 (keep hl hq)];refine Hm K ha hq (λS' sb=>sb _ _ hl) hr os hx ex hR hs hg [] (by simp;lia) (.bR .refl hq) mR (λlk S' y4 y5 sb hq'=>?_) λnk σ S' sb=>hX nk S' sb;rw[Kg];ext;exact⟨_, .refl,h lk S' q sb hq (by rw[hq',aX])⟩
def Sh.of (K:Bk3 ws B) (h:Wy ws B x):Sh ws B (ak B x):=⟨(K.ak h).1,(K.ak h).2.1⟩
theorem CY:∀{qs:List (List Int)}{ts:List Tr},qs.length=ts.length→(∀(i:Nat) q t,qs[i]? =aa q→ts[i]? =aa t→Wi B wn n (p++q) t t)→pC B wn n p qs ts ts
 | [],[],_,_=> .nil
 |q::qs,t::ts,h,f=> .cons (f 0 q t rfl rfl) (CY (by simpa using h) λi q t h1 h2=>f (i+1) q t (by simpa using h1) (by simpa using h2))
 | [],t::ts,h,f=>by simp at h
 |q::qs,[],h,f=>by simp at h
theorem DE (K:Bk3 ws B):∀(n:Nat) (v:Tr) (p:List Int),v.depth≤n→Sh ws B v→(∀r,p++r∉wn)→Wi B wn n p v v
 |0,v,p,hd,h,hn=>by have:=qB v;lia
 |n+1,v,p,hd,h,hn=>by
  obtain⟨s,ts,rfl,_,e,k⟩:=h.cases K;rw[Tr.depth]at hd;refine .no (by simpa using hn []) e (CY (by simp) λi q t h1 h2=>?_);have hm:t∈ts:=aJ h2;have:=pY hm;exact DE K n t (p++q) (by lia) (k t hm) λr=>by rw[bD];exact hn _
theorem MO:∀{qs:List (List Int)}{ts us:List Tr},qs.length=ts.length→us.length=ts.length→(∀(i:Nat) q t u,qs[i]? =aa q→ts[i]? =aa t→us[i]? =aa u→Wi B wn n (p++q) t u)→pC B wn n p qs ts us
 | [],[],[],_,_,_=> .nil
 |q::qs,t::ts,u::us,h,h',f=> .cons (f 0 q t u rfl rfl rfl) (MO (by simpa using h) (by simpa using h') λi q t u h1 h2 h3=>f (i+1) q t u (by simpa using h1) (by simpa using h2) (by simpa using h3))
 | [],t::ts,_,h,_,f=>by simp at h
 |q::qs,[],_,h,_,f=>by simp at h
 |_,t::ts,[],_,h,f=>by simp at h
 |_,[],u::us,_,h,f=>by simp at h
structure uY (B:List Tn):Prop where
  op:∀t∈B,∀us:List Tr,us.length=t.2.1.nb→o7 B (t.2.1.aD us)=aa t
  lf:∀t∈B,∃n h c d,t.2.1∈bO n h c d
mutual
theorem Wi.bd (O:qS B):∀{n:Nat}{p:List Int}{t u:Tr},Wi B wn n p t u→Wi B wn t.depth p t u
 |_,_,_,_, .no (ts:=ts) h1 h2 h3=>by
  rw[Tr.depth,eE];exact .no h1 h2 (pC.bd O h3)
 |_,_,_,_, .yes (ts:=ts) (ms:=ms) h1 h2 h3 h4 h5=>by
  rw[Tr.depth,eE];exact .yes h1 h2 h3 h4 ((pC.bd O h5).mono (MC O (bX h2) h3))
theorem pC.bd (O:qS B):∀{n:Nat}{p:List Int}{qs:List (List Int)}{ts us:List Tr},pC B wn n p qs ts us→pC B wn (m_ ts) p qs ts us
 |_,_,_,_,_, .nil=> .nil
 |_,_,_,_,_, .cons a b=>by
  rw[m_];exact .cons ((Wi.bd O a).mono (by lia)) ((pC.bd O b).mono (by lia))
end
structure Ms where
  c0:Nat
  c1:Nat
  k:Tn→Nat→Nat
mutual
def Tr.ms (B:List Tn) (m:Ms):Tr→Nat
 | .bl _=>0
 | .nd s ts=>match m9 B s with
  |none=>m.c0+nv B m (λ_=>1) 0 ts
  |some t=>m.c1+nv B m (m.k t) 0 ts
def nv (B:List Tn) (m:Ms) (f:Nat→Nat) (i:Nat):List Tr→Nat
 | []=>0
 |t::ts=>f i*t.ms B m+nv B m f (i+1) ts
end
section
variable {B:List Tn}{m:Ms}{f g:Nat→Nat}
def uU (h:m9 B s=none):(Tr.nd s ts).ms B m=m.c0+nv B m (λ_=>1) 0 ts:=by rw[Tr.ms,h]
def uD (h:m9 B s=aa t):(Tr.nd s ts).ms B m=m.c1+nv B m (m.k t) 0 ts:=by rw[Tr.ms,h]
theorem C8:∀(ts:List Tr) (i:Nat),(∀j,f j≤g j)→nv B m f i ts≤nv B m g i ts
 | [],i,h=>by rw[nv,nv];exact aA _
 |t::ts,i,h=>by
  rw[nv,nv];have h1:=dQ (t.ms B m) (h i);have h2:=C8 ts (i+1) h;lia
theorem Ee:∀(ts:List Tr) (i:Nat),nv B m (λj=>f j+g j) i ts=nv B m f i ts+nv B m g i ts
 | [],i=>by rw[nv,nv,nv]
 |t::ts,i=>by
  rw[nv,nv,nv,Ee ts (i+1),cg];lia
theorem J0:∀(ts:List Tr) (i:Nat),nv B m (λ_=>0) i ts=0
 | [],i=>by rw[nv]
 |t::ts,i=>by rw[nv,J0 ts (i+1),Nat.zero_mul]
theorem MS:∀(ts:List Tr) (i:Nat) {t:Tr},i≤n→ts[n - i]? =aa t→nv B m (λj=>if(j:Int)=(n:Int) then 1 else 0) i ts=t.ms B m
 | [],i,t,hi,h=>by simp at h
 |u::ts,i,t,hi,h=>by
  rw[nv];by_cases e:i=n
  ·subst e;rw[gO]at h;cases h;have z:nv B m (λj=>if(j:Int)=(i:Int) then 1 else 0) (i+1) ts=0:=by
    have:∀(ts:List Tr) (k:Nat),i<k→nv B m (λj=>if(j:Int)=(i:Int) then 1 else 0) k ts=0:=by
     intro ts
     induction ts with
     |nil=>intro k _;rw[nv]
     |cons u ts ih=>
      intro k hk;rw[nv,ih (k+1) (by lia)];rw[if_neg (by lia),Nat.zero_mul]
    exact this ts _ (by lia)
   rw[z];simp
  ·have:=MS (n:=n) ts (i+1) (t:=t) (by lia) (by
    rw[show n - i=n - (i+1)+1 by lia,bU]at h
    exact h)
   rw[this,if_neg (by lia)];simp
def cn (t:Tr) (j:Nat):Nat:=t.nm.count (j:Int)
mutual
theorem Nb{P:ah→Prop}(hP:∀s,P s→m9 B s=none):∀t:Tr,t.hb P→t.br us.length→(t.aD us).ms B m=m.c0*t.sg+nv B m (cn t) 0 us
 | .bl n,h,ft=>by
  rw[Tr.br]at ft;have hl:n.toNat<us.length:=by lia
  rw[Tr.aD,bv,aS hl,d8,Tr.sg,Nat.mul_zero,bG];rw[←MS (m:=m) (B:=B) (n:=n.toNat) us 0 (aP _) (aS hl)];congr 1;funext j;unfold cn;rw[Tr.nm,List.count_singleton,cm ft.1];by_cases e:(j:Int)=n
  ·rw[if_pos e,if_pos (by rw[e];exact beq_self_eq_true _)]
  ·rw[if_neg e,if_neg (λz=>e (by rw[beq_iff_eq]at z;lia))]
 | .nd s ts,h,ft=>by
  rw[Tr.br]at ft;rw[Tr.hb]at h;rw[Tr.aD,uU (hP s h.1),Ca hP ts h.2 ft 0,Tr.sg];have:cn (.nd s ts)=λ(j:Nat)=>(pQ ts).count (j:Int):=by
   funext j;unfold cn;rw[Tr.nm]
  rw[this,eY,Nat.mul_one];lia
theorem Ca{P:ah→Prop}(hP:∀s,P s→m9 B s=none):∀ts:List Tr,oy P ts→m4 us.length ts→ ∀i,nv B m (λ_=>1) i (aF us ts)=m.c0*ub ts+nv B m (λj=>(pQ ts).count (j:Int)) 0 us
 | [],h,ft,i=>by
  have:(λj:Nat=>(pQ []).count (j:Int))=λ_=>0:=by
   funext j;rw[pQ];rfl
  rw[aF,nv,ub,this,J0];rfl
 |t::ts,h,ft,i=>by
  rw[m4]at ft;rw[oy]at h;have:(λj:Nat=>(pQ (t::ts)).count (j:Int))=λj=>cn t j+(pQ ts).count (j:Int):=by
   funext j;unfold cn;rw[pQ,List.count_append]
  rw[aF,nv,Nb hP t h.1 ft.1,Ca hP ts h.2 ft.2 (i+1),ub,this,Ee,c5,eY m.c0 t.sg];lia
end
end
def mP:Ms:=⟨1,3,λ_ _=>2⟩
mutual
def Tr.dm (B:List Tn):Tr→Nat
 | .bl _=>0
 | .nd s ts=>match m9 B s with
  |none=>1+o_ B ts
  |some _=>3+o_ B ts
def o_ (B:List Tn):List Tr→Nat
 | []=>0
 |t::ts=>max (t.dm B) (o_ B ts)
end
section
variable {B:List Tn}
def ym (h:m9 B s=none):(Tr.nd s ts).dm B=1+o_ B ts:=by rw[Tr.dm,h]
def zY (h:m9 B s=aa t):(Tr.nd s ts).dm B=3+o_ B ts:=by rw[Tr.dm,h]
theorem Lf:∀{ts:List Tr},x∈ts→x.dm B≤o_ B ts
 |t::ts,h=>by
  rw[o_];obtain rfl |h:=az.mp h
  ·lia
  ·have:=Lf h;lia
mutual
theorem Jy{P:ah→Prop}(hP:∀s,P s→m9 B s=none):∀t:Tr,t.hb P→t.br us.length→(t.aD us).dm B≤t.sd+o_ B us
 | .bl n,h,ft=>by
  rw[Tr.br]at ft;have hl:n.toNat<us.length:=by lia
  rw[Tr.aD,bv,aS hl,d8,Tr.sd,bG];exact Lf (eJ ..)
 | .nd s ts,h,ft=>by
  rw[Tr.br]at ft;rw[Tr.hb]at h;have:=Eu hP ts h.2 ft;rw[Tr.aD,ym (hP s h.1),Tr.sd];lia
theorem Eu{P:ah→Prop}(hP:∀s,P s→m9 B s=none):∀ts:List Tr,oy P ts→m4 us.length ts→o_ B (aF us ts)≤rZ ts+o_ B us
 | [],h,ft=>by rw[aF,o_];lia
 |t::ts,h,ft=>by
  rw[m4]at ft;rw[oy]at h;have h1:=Jy hP t h.1 ft.1;have h2:=Eu hP ts h.2 ft.2;rw[aF,o_,rZ];lia
end
mutual
theorem Og:∀t:Tr,t.br us.length→(t.aD us).depth≤t.sd+m_ us
 | .bl n,ft=>by
  rw[Tr.br]at ft;have hl:n.toNat<us.length:=by lia
  rw[Tr.aD,bv,aS hl,d8,Tr.sd,bG];exact pY (eJ ..)
 | .nd s ts,ft=>by
  rw[Tr.br]at ft;have:=Iz ts ft;rw[Tr.aD,Tr.depth,Tr.sd];lia
theorem Iz:∀ts:List Tr,m4 us.length ts→m_ (aF us ts)≤rZ ts+m_ us
 | [],ft=>by rw[aF,m_];lia
 |t::ts,ft=>by
  rw[m4]at ft;have h1:=Og t ft.1;have h2:=Iz ts ft.2;rw[aF,m_,rZ];lia
end
end
section
variable {B:List Tn}
def xI:nv B m (λ_=>2) i ts=2*nv B m (λ_=>1) i ts:=by
 have:=Ee (B:=B) (m:=m) (f:=λ_=>1) (g:=λ_=>1) ts i;rw[show(λ_:Nat=>2)=λ_=>1+1 from rfl,this];lia
def mF.lfs (b:mF w0 w1 w2 w3 w4 w5 tt B) (G:nT w0 w1 w2 w3 w4 w5):uY B:=⟨λt ht us hu=>b.open_some G ht hu,λt ht=>by
 obtain⟨n,m,e⟩:=b.lf;have:t.2.1∈bO n w0 w2 w3++bO m w1 w2 w3:=by rw[←e];exact aT.mpr ⟨t,ht,rfl⟩
 obtain z |z:=bq.mp this
 ·exact⟨_,_,_,_,z⟩
 ·exact⟨_,_,_,_,z⟩⟩
end
theorem MB:∀(ts:List Tr) (k i:Nat) {w:Tr},ts[i]? =aa w→y∈w.op B (p++[((k+i:Nat):Int)])→y∈pA B p k ts
 | [],k,i,w,e,h=>by simp at e
 |t::ts,k,0,w,e,h=>by
  rw[jD]at e;cases e;rw[pA];exact eB _ h
 |t::ts,k,i+1,w,e,h=>by
  rw[bU]at e;rw[pA];refine cp _ (MB ts (k+1) i e ?_);rw[show k+1+i=k+(i+1) by lia]
  exact h
theorem Nc:∀(q:List Int) {t v:Tr}{p:List Int}{u:Tn},t.at q=aa v→o7 B v=aa u→v.isBl=false→(p++q,u.1)∈t.op B p
 | [],t,v,p,u,h,ho,hb=>by
  rw[pk]at h;cases h;cases t with
  |bl n=>cases hb
  |nd s ts=>
   rw[Tr.op,ho,bg];exact eB _ aK
 |i::q, .bl n,v,p,u,h,ho,hb=>by cases h
 |i::q, .nd s ts,v,p,u,h,ho,hb=>by
  obtain⟨w,h0,h1,h2⟩:=pR h;obtain⟨j,rfl⟩:∃j:Nat,i=j:=⟨i.toNat,(cm h0).symm⟩;rw[bb]at h1;rw[Tr.op];refine cp _ (MB ts 0 j h1 ?_);have:=Nc q (p:=p++[(j:Int)]) h2 ho hb;rw[bG];rw[bD]at this;exact this
mutual
theorem xn:∀x:Tr,x.dP=true→x.hd ov
 | .bl n,h=>by rw[Tr.dP]at h;cases h
 | .nd s ts,h=>by
  rw[Tr.dP,bT]at h;rw[Tr.hd];exact⟨(Bi s).mp h.1,Ih ts h.2⟩
theorem Ih:∀ts:List Tr,tL ts=true→hds ov ts
 | [],h=>by rw[hds];trivial
 |t::ts,h=>by
  rw[tL,bT]at h;rw[hds];exact⟨xn t h.1,Ih ts h.2⟩
end
def nF.up (hv:∀x∈vs,x∈ws) (h:nF vs B p):nF ws B p:=by
 induction h with
 |sign hh _ ih=>exact .sign (hv _ hh) ih
 |turn e hl b0 b1 _ ih=>exact .turn e hl b0 b1 ih
section
variable {ws:List ah}{B:List Tn}
def X2 (K:Bk3 ws B) {t:Tn}(ht:t∈B) {i:Nat}{e:List Int}(h:(t.2.1.bls.map λx=>x.1)[i]? =aa e):e≠ []:=by
 rintro rfl;obtain⟨b,hb,h0⟩:=aT.mp (aJ h);have ha:=(xO hb).1;rw[h0,pk,(xO hb).2.1]at ha;obtain⟨z0,ls,ez,_⟩:=K.O.inn t ht;rw[ez]at ha;cases ha
end
def G8{n:Nat}{h c d:ah}{L:Tr}(hL:L∈bO n h c d) {i:Nat}{e:List Int}(he:(L.bls.map λx=>x.1)[i]? =aa e):L.at e=aa (.bl i):=by
 unfold bO at hL;split at hL<;>simp only[az,bp,or_false]at hL
 ·subst hL;rw[T_]at he;obtain _ |i:=i
  ·cases he;rfl
  ·cases he
 ·subst hL;rw[VA]at he;obtain _ |_ |i:=i
  ·cases he;rfl
  ·cases he;rfl
  ·cases he
 ·obtain rfl |rfl:=hL
  ·rw[Q9]at he;cases he
  ·rw[V3]at he;obtain _ |i:=i
   ·cases he;rfl
   ·cases he
 ·obtain rfl |rfl:=hL
  ·rw[YW]at he;obtain _ |i:=i
   ·cases he;rfl
   ·cases he
  ·rw[SB]at he;obtain _ |_ |i:=i
   ·cases he;rfl
   ·cases he;rfl
   ·cases he
 ·obtain rfl |rfl:=hL
  ·rw[Xi]at he;obtain _ |_ |_ |i:=i
   ·cases he;rfl
   ·cases he;rfl
   ·cases he;rfl
   ·cases he
  ·rw[W0]at he;obtain _ |_ |i:=i
   ·cases he;rfl
   ·cases he;rfl
   ·cases he
 ·subst hL;rw[SW]at he;cases he
theorem wV:∀(e:List Int) {L:Tr}{n:Int},L.at e=aa (.bl n)→L.br us.length→(L.aD us).at e=us[n.toNat]?
 | [],L,n,h,ft=>by
  rw[pk]at h;cases h;rw[Tr.br]at ft;rw[Tr.aD,pk,bv,aS (show n.toNat<us.length by lia)]
  rfl
 |i::e, .bl k,n,h,ft=>by cases h
 |i::e, .nd s ls,n,h,ft=>by
  obtain⟨w,h0,h1,h2⟩:=pR h;rw[Tr.br]at ft;obtain⟨j,rfl⟩:∃j:Nat,i=j:=⟨i.toNat,(cm h0).symm⟩;rw[bb]at h1;have e1:(aF us ls)[j]? =aa (w.aD us):=by rw[vo,aV,h1];rfl
  rw[Tr.aD,r8 e1];exact wV e h2 (wk ft (aJ h1))
theorem Ke:∀(q:List Int) {X v:Tr},X.at q=aa v→X.bR q v=X
 | [],X,v,h=>by
  rw[pk]at h;cases h;exact tq _ _
 |i::q, .bl n,v,h=>by cases h
 |i::q, .nd s ts,v,h=>by
  obtain⟨w,h0,h1,h2⟩:=pR h;rw[tI h1,Ke q h2];congr 1;exact lM λj=>by
   rw[j4];split
   ·rename_i e;rw[←e,h1];simp [(b8.mp h1).1]
   ·rfl
theorem uN:∀(q:List Int) {X v:Tr},X.at q=aa v→q.length+v.depth≤X.depth
 | [],X,v,h=>by
  rw[pk]at h;cases h;simp
 |i::q, .bl n,v,h=>by cases h
 |i::q, .nd s ts,v,h=>by
  obtain⟨w,h0,h1,h2⟩:=pR h;have:=uN q h2;have:=pY (aJ h1);rw[Tr.depth,aU];lia
def Sh.sig (K:Bk3 ws B) (h:Sh ws B X):X.hd ov:=xn _ (h.dP K)
def Sh.mkq (K:Bk3 ws B) (h:Sh ws B X) (g:Tn→Tr):X.mk B g=X:=rK K.b.ti _ (h.sig K)
def CM (K:Bk3 ws B) {ts:List Tr}(h:∀t∈ts,Sh ws B t) (g:Tn→Tr):ts.map (Tr.mk B g)=ts:=by
 rw[dc (g:=id) λt ht=>(h t ht).mkq K g,List.map_id]
theorem Fc (K:Bk3 ws B) (g:Tn→Tr) {u:Tr}:∀(q:List Int) {X v:Tr},Sh ws B X→X.at q=aa v→(X.bR q u).mk B g=X.bR q (u.mk B g)
 | [],X,v,hs,h=>by rw[tq,tq]
 |i::q, .bl n,v,hs,h=>by cases h
 |i::q, .nd s ts,v,hs,h=>by
  obtain⟨w,h0,h1,h2⟩:=pR h;obtain⟨s',ts',e,_,e2,k⟩:=hs.cases K;cases e;rw[tI h1,tI h1,qb e2,List.map_set,CM K k,Fc K g q (k w (aJ h1)) h2]
theorem NB (hu:Wy ws B u):∀(q:List Int) {X v:Tr},Wy ws B X→X.at q=aa v→Wy ws B (X.bR q u)
 | [],X,v,hs,h=>by rw[tq];exact hu
 |i::q, .bl n,v,hs,h=>by cases h
 |i::q, .nd s ts,v,hs,h=>by
  obtain⟨w,h0,h1,h2⟩:=pR h;rw[tI h1];refine hs.re (by simp) λz hz=>?_;obtain q' |rfl:=lE hz
  ·exact hs.dA z q'
  ·exact NB hu q (hs.dA w (aJ h1)) h2
structure Ou (ws:List ah) (B:List Tn) (X:Tr) (q:List Int) (t:Tn) (us:List Tr):Prop where
  ht:t∈B
  hl:us.length=t.2.1.nb
  hat:X.at q=aa (t.2.1.aD us)
  sh:∀u∈us,Sh ws B u
def Ou.tt (K:Bk3 ws B) (o:Ou ws B X q t us):m9 B t.1=aa t:=qZ K.b.nd o.ht
def Ou.wys (K:Bk3 ws B) (o:Ou ws B X q t us):Wy ws B (.nd t.1 us):=by
 refine⟨?_,?_⟩
 ·rw[Tr.hd,mW];exact⟨.inr ⟨t,o.ht,rfl⟩,λu hu=>(o.sh u hu).wy.hd⟩
 ·rw[Tr.ar,oA];refine⟨λt' e=>?_,λu hu=>(o.sh u hu).wy.ar⟩;rw[o.tt K]at e;cases e;exact o.hl
theorem K' (K:Bk3 ws B) (F:uY B) (ht:t∈B) (hl:us.length=t.2.1.nb) (hu:∀u∈us,Sh ws B u):∀(q:List Int) {X:Tr}(p:List Int),Sh ws B X→X.at q=aa (t.2.1.aD us)→ ∃n,Wi B [p++q] n p X (X.bR q (.nd t.1 us))
 | [],X,p,hs,h=>by
  rw[pk]at h;cases h;obtain⟨s0,ts0,e3,_⟩:=hs.cases K;have ho:=F.op t ht _ hl;have hm:=K.O.mt t ht _ hl;rw[tq,e3];rw[e3]at ho hm;refine⟨m_ us+1, .yes (by simp) ho hm (qZ K.b.nd ht) (CY (by rw[ay,hl,Di]) λi q v h1 h2=>?_)⟩;have hv:v∈us:=aJ h2;refine DE K _ _ _ (pY hv) (hu v hv) λr hr=>?_;have h0:=X2 K ht h1;rw[bg,bh,bD]at hr;have:=congrArg dE hr;simp at this;exact h0 this.1
 |i::q, .bl n,p,hs,h=>by cases h
 |i::q, .nd s ts,p,hs,h=>by
  obtain⟨w,h0,h1,h2⟩:=pR h;obtain⟨s',ts',e,_,e2,k⟩:=hs.cases K;cases e;obtain⟨j,rfl⟩:∃j:Nat,i=j:=⟨i.toNat,(cm h0).symm⟩;rw[bb]at h1;obtain⟨n,hn⟩:=K' K F ht hl hu q (p++[(j:Int)]) (k w (aJ h1)) h2;rw[tI (by rw[bb];exact h1),bb];refine⟨(n+m_ ts)+1, .no (by simp) e2 (MO (by simp) (by simp) λi' q' t' u' g1 g2 g3=>?_)⟩;have g1':q'=[(i':Int)]:=by
   have hi:=(b8.mp g2).1;rw[aV,fN hi]at g1;cases g1;rfl
  subst g1';have hd:=pY (aJ g2);rw[j4]at g3;by_cases e:j=i'
  ·subst e;rw[h1]at g2;cases g2;rw[if_pos rfl,if_pos (b8.mp h1).1]at g3;cases g3;have:=hn.mono (m:=n+m_ ts) (by lia);rw[bD]at this;exact this
  ·rw[if_neg e,g2]at g3;cases g3;refine DE K _ _ _ (by lia) (k _ (aJ g2)) λr hr=>?_;rw[bh,bD,List.append_cancel_left_eq]at hr;simp at hr;lia
theorem Ht:∀(ts:List Tr) (k:Nat),y∈pA B p k ts→ ∃(j:Nat) (w:Tr),ts[j]? =aa w∧y∈w.op B (p++[((k+j:Nat):Int)])
 | [],k,h=>by rw[pA]at h;cases h
 |t::ts,k,h=>by
  rw[pA]at h;obtain h |h:=bq.mp h
  ·exact⟨0,t,rfl,h⟩
  ·obtain⟨j,w,e,h'⟩:=Ht ts (k+1) h;refine⟨j+1,w,by simpa using e,?_⟩
   rw[show k+(j+1)=k+1+j by lia]
   exact h'
theorem zb (K:Bk3 ws B):∀(n:Nat) {X:Tr}{p:List Int}{y:List Int×ah},X.depth≤n→Sh ws B X→y∈X.op B p→ ∃q t us,y.1=p++q∧Ou ws B X q t us
 |0,X,p,y,hn,h,hy=>by have:=qB X;lia
 |n+1,X,p,y,hn,h,hy=>by
  obtain⟨s,ts,rfl,_,e,k⟩:=h.cases K;rw[Tr.depth]at hn;rw[Tr.op]at hy;obtain hy |hy:=bq.mp hy
  ·cases eo:o7 B (.nd s ts) with
   |none=>rw[eo]at hy;cases hy
   |some t=>
    rw[eo]at hy;rw[bh]at hy;subst hy;have ht:t∈B:=bX eo;have hm:=eT eo;obtain⟨ms,em⟩:=dL.mp hm;obtain⟨p1,p2,p3⟩:=h.parts K ht em;exact⟨[],t,ms,by simp,ht,p2,by rw[pk,p1],p3⟩
  ·obtain⟨j,w,ew,hw⟩:=Ht ts 0 hy;have hm:=aJ ew;obtain⟨q,t,us,e1,o⟩:=zb K n (by have:=pY hm;lia) (k w hm) hw;refine⟨(j:Int)::q,t,us,by rw[e1,bG,bD];rfl,o.ht,o.hl,?_,o.sh⟩
   rw[r8 ew];exact o.hat
def wyO (X:Tr) (q:List Int) (t:Tn) (us:List Tr):Tr:=X.bR q (.nd t.1 us)
def toO (X:Tr) (q:List Int) (t:Tn) (us:List Tr):Tr:=X.bR q (t.2.2.aD us)
def Ou.ak (K:Bk3 ws B) (h:Sh ws B X) (o:Ou ws B X q t us):ak B (wyO X q t us)=X:=by
 show(X.bR q (.nd t.1 us)).mk B _=X;rw[Fc K _ q h o.hat,p6 (o.tt K),CM K o.sh];exact Ke q o.hat
def Ou.b7 (K:Bk3 ws B) (h:Sh ws B X) (o:Ou ws B X q t us):b7 B (wyO X q t us)=toO X q t us:=by
 show(X.bR q (.nd t.1 us)).mk B _=_;rw[Fc K _ q h o.hat,p6 (o.tt K),CM K o.sh];rfl
def Ou.wy (K:Bk3 ws B) (h:Sh ws B X) (o:Ou ws B X q t us):Wy ws B (wyO X q t us):=NB (o.wys K) q h.wy o.hat
def Ou.to (K:Bk3 ws B) (h:Sh ws B X) (o:Ou ws B X q t us):Sh ws B (toO X q t us):=by
 have g:=K.b7 (o.wy K h);rw[o.b7 K h]at g;exact⟨g.1,g.2.1⟩
def Ou.wi (K:Bk3 ws B) (F:uY B) (h:Sh ws B X) (o:Ou ws B X q t us):Wi B [q] X.depth [] X (wyO X q t us):=by
 obtain⟨n,hn⟩:=K' K F o.ht o.hl o.sh q [] h o.hat;exact hn.bd K.O
def Ou.op (K:Bk3 ws B) (F:uY B) (o:Ou ws B X q t us):q∈(X.op B []).map λx=>x.1:=by
 obtain⟨z,ls,ez,_⟩:=K.O.inn t o.ht;have:=Nc (B:=B) q (p:=[]) o.hat (F.op t o.ht us o.hl) (by rw[ez,Tr.aD];rfl);exact aT.mpr ⟨_,this,by simp⟩
inductive qR (ws:List ah) (B:List Tn):Tr→List (List Int)→List Tr→List Tr→Prop
 |nil {X:Tr}:Sh ws B X→X.bo=true→qR ws B X [] [] []
 |cons {X:Tr}{q:List Int}{t:Tn}{us:List Tr}{qs:List (List Int)}{ss Ys:List Tr}:Sh ws B X→X.bo=true→Ou ws B X q t us→qR ws B (toO X q t us) qs ss Ys→qR ws B X (q::qs) (wyO X q t us::ss) (toO X q t us::Ys)
def pV (X:Tr):List Tr→Tr
 | []=>X
 |Y::Ys=>pV Y Ys
theorem FO:∀(X:Tr) (Ys:List Tr),pV X (Ys++[Z])=Z
 |X,[]=>rfl
 |X,Y::Ys=>FO Y Ys
def qR.head (P:qR ws B X qs ss Ys):Sh ws B X∧X.bo=true:=by cases P with
 |nil h s=>exact⟨h,s⟩
 |cons h s _ _=>exact⟨h,s⟩
def qR.len (P:qR ws B X qs ss Ys):ss.length=qs.length∧Ys.length=qs.length:=by
 induction P with
 |nil _ _=>exact⟨rfl,rfl⟩
 |cons _ _ _ _ ih=>exact⟨by simp [ih.1],by simp [ih.2]⟩
def qR.snoc (K:Bk3 ws B) (P:qR ws B X qs ss Ys) (o:Ou ws B (pV X Ys) q t us) (hs:(toO (pV X Ys) q t us).bo=true):qR ws B X (qs++[q]) (ss++[wyO (pV X Ys) q t us]) (Ys++[toO (pV X Ys) q t us]):=by
 induction P with
 |nil h s=>exact .cons h s o (.nil (o.to K h) hs)
 |cons h s o' _ ih=>exact .cons h s o' (ih o hs)
structure Bx (w0 w1 w2 w3 w4 w5:ah) (tt:List ah) (B:List Tn):Prop where
  b:mF w0 w1 w2 w3 w4 w5 tt B
  T:pE tt
  G:nT w0 w1 w2 w3 w4 w5
  rx:∀t∈B,RX t.2.2
def Bx.k (c:Bx w0 w1 w2 w3 w4 w5 tt B):Bk3 [w0,w1,w2,w3,w4,w5] B:=c.b.bk3 c.T c.G
def Bx.fs (c:Bx w0 w1 w2 w3 w4 w5 tt B):uY B:=c.b.lfs c.G
def Bx.lf (c:Bx w0 w1 w2 w3 w4 w5 tt B):rA B:=⟨λt ht=>(c.k.b.lf t ht).dp,λt ht=>by
 have h1:=(c.k.b.lf t ht).wt;have h2:=(c.k.b.lf t ht).nb;lia⟩
def Bx.pb (c:Bx w0 w1 w2 w3 w4 w5 tt B):PB B:=λt ht y hy=>by
 have h1:=(xO hy).2.2;have h2:=(c.k.b.lf t ht).dp;lia
def Zd{rest:List (List Int)}(c:Bx w0 w1 w2 w3 w4 w5 tt B) (fb:S0 a=aa (.bP (B.map mK))) (fl:S0 l=aa (.bP F)) (h0:S0 f=none) (hr:120≤r) (P:qR [w0,w1,w2,w3,w4,w5] B X qs ss Ys):∀{S:lr}{zs:List Tr}{x5 x6:Option W},Sub S0 S→S f=aa (.bP (zs.map j5))→zs.length+ss.length≤1000→
  (∀S' x5 x6,Sub S0 S'→S' f=aa (.bP ((zs++ss).map j5))→mO (mx 5) (Cv (r+1) mH) E D (λS'=>S' l=aa (.bP F)) (rest.map mB) [aa (.ref a),aa (j5 X0),aa (.ref l),aa (.ref f),aa (j5 (pV X Ys)),x5,x6] S')→
  mO (mx 5) (Cv (r+1) mH) E D (λS'=>S' l=aa (.bP F)) ((qs++rest).map mB) [aa (.ref a),aa (j5 X0),aa (.ref l),aa (.ref f),aa (j5 X),x5,x6] S:=by
 induction P with
 | @nil X h s=>
  intro S zs x5 x6 sb ff hl k;have:=k S x5 x6 sb (by rw[bg];exact ff);exact this
 | @cons X q t us qs ss Ys h sm o P ih=>
  intro S zs x5 x6 sb ff hl k;obtain⟨s1,s2⟩:=qV sm;rw[aU]at hl;rw[ck,aC];refine pU λN hN=>?_;simp only[Cv];ext;refine⟨by decide,λg hg=>?_⟩;have fg:bR S g (Ob.bP [mB q]) g=aa (.bP ([q].map mB)):=mR;replace ff:=keep (x:=Ob.bP [mB q]) ff hg;replace sb:=sb.trans (.bR .refl hg:Sub S (bR S g (Ob.bP [mB q])));generalize bR S g (Ob.bP [mB q])=S1 at fg ff sb⊢;have fb1:=sb _ _ fb;refine VE (r:=r) (wn:=[q]) c.lf c.pb (o.wi c.k c.fs h) (by lia) (by lia) fb1 fg (vC (λ_ _=>trivial) _ h.wy.hd) (by lia) (by lia) (by simp) rfl (λy hy=>by rw[bh]at hy;rw[hy];exact o.op c.k c.fs) ?_
  try ext
  refine c.k.ok_goalX (r:=r) (o.wy c.k h) (by rw[o.ak c.k h];exact sm) fb1 (by lia) (λ_=>?_) λz=>?_
  ·rw[o.b7 c.k h]
   try ext
   simp only[m8 ff,ay];refine⟨trivial,qE (by lia),?_⟩;have e:zs.map j5++[j5 (wyO X q t us)]=(zs++[wyO X q t us]).map j5:=by rw[bK];rfl
   rw[e];have fl1:bR S1 f (Ob.bP ((zs++[wyO X q t us]).map j5)) l=aa (.bP F):=by
    rw[nO (by rintro rfl;rw[fl]at h0;cases h0)];exact sb _ _ fl
   refine hN _ _ _ .refl fl1 (ih (zs:=zs++[wyO X q t us]) (λd ob ed=>?_) mR (by simp;lia) λS' x5 x6 sb' ff'=>k S' x5 x6 sb' (by rw[List.append_cons];exact ff'));by_cases hd:d=f
   ·rw[hd,h0]at ed;cases ed
   ·rw[nO hd];exact sb d ob ed
  ·have:=P.head.2;rw[o.b7 c.k h]at z;rw[z]at this;cases this
def V2{E:ah→lr→Prop}(c:Bx w0 w1 w2 w3 w4 w5 tt B) (P:qR [w0,w1,w2,w3,w4,w5] B X qs ss Ys) (fb:S a=aa (.bP (B.map mK))) (fl:S l=aa (.bP (qs.map mB))) (hl:ss.length≤1000) (hr:122≤r) (h:∀S' k,Sub S S'→S k=none→S' k=aa (.bP (ss.map j5))→Q (.bW [j5 X, .ref k]) S'):Cs (r+1) [.ref a,j5 X, .ref l] S Q E:=by
 obtain⟨r,rfl⟩:∃r',r=r'+1:=⟨r - 1,by lia⟩
 rw[Cs];ext;refine⟨aP _,λk hk=>?_⟩
 try ext
 rw[m8 (keep fl hk)];have:=Zd (E:=λc _ S'=>E c S') (D:={ nx:=mS (m5 (jM (jn 1) (jM (jn 3) ae))) (λc _ S'=>E c S') { nx:=λ_ S'=>∃S'',Sub S'' S'∧Q W.ca S'',rt:=λw S'=>∃S'',Sub S'' S'∧Q w S'' },rt:=λw S'=>∃S'',Sub S'' S'∧Q w S'' }) (S0:=S) (X0:=X) (rest:=[]) (r:=r) c fb fl hk (by lia) P (S:=bR S k (Ob.bP [])) (zs:=[]) (x5:=none) (x6:=none) (.bR .refl hk) mR (by simp;lia) λS' x5 x6 sb ff=>?_
 ·rw[bg]at this;exact this
 ·simp only[cy,mO];ext;exact⟨by decide,S', .refl,h S' k sb hk ff⟩
def hk (w0 w1:ah):List Tn:=[(w0, .bl 0, .bl 0),(w1, .bl 0, .bl 0)]
structure Dr (w0 w1 w2 w3 w4 w5:ah) (tt:List ah) (B:List Tn):Prop where
  c:mZ w0 w1 w2 w3 w4 w5 tt B
  ri:∀t∈B,t.2.2∈p_ w0 w1 w2 w3 w4 w5 t.2.1.nb false
def X6 (h0:w0≠s) (h1:w1≠s):m9 (hk w0 w1) s=none:=by
 unfold m9 hk;simp [h0,h1]
def Nr:∃t,m9 (hk w0 w1) w0=aa t:=⟨(w0, .bl 0, .bl 0),by unfold m9 hk;simp⟩
def ZH:∃t,m9 (hk w0 w1) w1=aa t:=by
 by_cases e:w0=w1
 ·subst e;exact Nr
 ·exact⟨(w1, .bl 0, .bl 0),by unfold m9 hk;simp [e]⟩
def nT.no (G:nT w0 w1 w2 w3 w4 w5):∀s∈ [w2,w3,w4,w5],m9 (hk w0 w1) s=none:=λs hs=>X6 (G.n0 s (aI _ hs)) (G.n1 s hs)
def YD (hm:m≤3) {P:ah→Prop}(hP:∀s∈ [w2,w3,w4,w5],P s):∀t∈p_ w0 w1 w2 w3 w4 w5 m false,t.hb P:=by
 intro t ht;have h2:=hP w2 (by simp);have h3:=hP w3 (by simp);have h4:=hP w4 (by simp);have h5:=hP w5 (by simp);obtain _ |_ |_ |_ |m:=m
 all_goals first
  |lia
  | (simp only[p_,ck,aX,if_false,cF,az,bp,or_false]at ht<;>(try rcases ht with rfl |rfl |rfl |rfl |rfl |rfl |rfl |rfl)<;>(try rcases ht with rfl |rfl |rfl |rfl |rfl |rfl |rfl)<;>(try rcases ht with rfl |rfl |rfl |rfl |rfl |rfl)<;>(try rcases ht with rfl |rfl |rfl |rfl |rfl)<;>(try rcases ht with rfl |rfl |rfl)<;>simp [Tr.hb,oy,h2,h3,h4,h5])
structure Oh (w0 w1:ah) (L:Tr):Prop where
  ex:∃h ls t,L= .nd h ls∧m9 (hk w0 w1) h=aa t∧oy (λs=>m9 (hk w0 w1) s=none) ls∧ub ls≤2∧rZ ls≤2∧(pQ ls).Nodup∧ ∀i:Nat,i<L.nb→(i:Int)∈pQ ls
def JJ (ht:m9 (hk w0 w1) h=aa t) (h2:m9 (hk w0 w1) w2=none) (h3:m9 (hk w0 w1) w3=none):∀L∈bO n h w2 w3,Oh w0 w1 L:=by
 intro L hL;have one:∀i:Nat,i<1→(i:Int)∈ [(0:Int)]:=λi hi=>by
  have:i=0:=by lia
  subst this;simp
 have two:∀i:Nat,i<2→(i:Int)∈ [(0:Int),1]:=λi hi=>by
  obtain rfl |rfl:i=0∨i=1:=by lia
  ·simp
  ·simp
 have three:∀i:Nat,i<3→(i:Int)∈ [(0:Int),1,2]:=λi hi=>by
  obtain rfl |rfl |rfl:i=0∨i=1∨i=2:=by lia
  ·simp
  ·simp
  ·simp
 unfold bO at hL;split at hL<;>simp only[az,bp,or_false]at hL
 all_goals first
  | (subst hL;exact⟨_,_,t,rfl,ht,by simp [oy,Tr.hb,h2,h3],by simp [ub,Tr.sg],by simp [rZ,Tr.sd],by simp [pQ,Tr.nm],by simp only[Tr.nb,nbs,pQ,Tr.nm,ck,aX,bg,dO,bG,kK];first |exact one |exact two |exact three | (intro i hi;lia)⟩)
  | (rcases hL with rfl |rfl<;>exact⟨_,_,t,rfl,ht,by simp [oy,Tr.hb,h2,h3],by simp [ub,Tr.sg],by simp [rZ,Tr.sd],by simp [pQ,Tr.nm],by simp only[Tr.nb,nbs,pQ,Tr.nm,ck,aX,bg,dO,bG,kK];first |exact one |exact two |exact three | (intro i hi;lia)⟩)
def mZ.lh (c:mZ w0 w1 w2 w3 w4 w5 tt B) (ht:t∈B):Oh w0 w1 t.2.1:=by
 have h2:=c.G.no w2 (by simp);have h3:=c.G.no w3 (by simp);obtain⟨n,z |z⟩:=c.b.mem_lefts ht
 ·obtain⟨u,hu⟩:=Nr (w0:=w0) (w1:=w1);exact JJ hu h2 h3 _ z
 ·obtain⟨u,hu⟩:=ZH (w0:=w0) (w1:=w1);exact JJ hu h2 h3 _ z
def mZ.nb3 (c:mZ w0 w1 w2 w3 w4 w5 tt B) (ht:t∈B):t.2.1.nb≤3:=(c.bk.lf t ht).nb
def Dr.no (d:Dr w0 w1 w2 w3 w4 w5 tt B) (ht:t∈B):t.2.2.hb λs=>m9 (hk w0 w1) s=none:=YD (d.c.nb3 ht) d.c.G.no _ (d.ri t ht)
def Dr.rx (d:Dr w0 w1 w2 w3 w4 w5 tt B):∀t∈B,RX t.2.2:=λt ht=>Zn (d.c.nb3 ht) false _ (d.ri t ht)
mutual
theorem RC:∀(t:Tr) {i:Nat},(i:Int)∈t.nm→us[i]? =aa u→u.dm H≤(t.aD us).dm H
 | .bl n,i,hi,hu=>by
  rw[Tr.nm,bh]at hi;subst hi;rw[Tr.aD,bb,bv,hu];exact aA _
 | .nd s ts,i,hi,hu=>by
  rw[Tr.nm]at hi;have:=Dx (H:=H) ts hi hu;rw[Tr.aD,Tr.dm];split<;>lia
theorem Dx:∀(ts:List Tr) {i:Nat},(i:Int)∈pQ ts→us[i]? =aa u→u.dm H≤o_ H (aF us ts)
 | [],i,hi,hu=>by rw[pQ]at hi;cases hi
 |t::ts,i,hi,hu=>by
  rw[pQ]at hi;rw[aF,o_];obtain z |z:=bq.mp hi
  ·have:=RC (H:=H) t z hu;lia
  ·have:=Dx (H:=H) ts z hu;lia
end
theorem Hs:∀(us:List Tr),(∀u∈us,u.dm H≤n)→o_ H us≤n
 | [],h=>by rw[o_];lia
 |u::us,h=>by
  have:=h u aK;have:=Hs us λv hv=>h v (aI _ hv);rw[o_];lia
def mN:Ms:=⟨0,1,λ_ _=>1⟩
structure Mh (m:Ms):Prop where
  k:m.k=λ_ _=>2
  c:3*m.c0≤m.c1
theorem Gg{f g:Nat→Nat}:∀(ts:List Tr) (i:Nat),(∀j,i≤j→j<i+ts.length→f j≤g j)→nv H m f i ts≤nv H m g i ts
 | [],i,h=>by rw[nv,nv];exact aA _
 |t::ts,i,h=>by
  rw[aU]at h;rw[nv,nv];have h1:=dQ (t.ms H m) (h i (aA _) (by lia));have h2:=Gg (m:=m) (H:=H) ts (i+1) λj h3 h4=>h j (by lia) (by lia);lia
theorem C0:∀(ts:List Tr) (i:Nat),(∀x∈ts,(b7 B x).ms H m+d*x.ms B mN≤(ak B x).ms H m)→nv H m (λ_=>1) i (ts.map (b7 B))+d*nv B mN (λ_=>1) i ts≤nv H m (λ_=>1) i (ts.map (ak B))
 | [],i,h=>by simp [nv]
 |x::ts,i,h=>by
  have h1:=h x aK;have h2:=C0 ts (i+1) λy hy=>h y (aI _ hy);rw[aC,aC,nv,nv,nv,c5,c5,c5,eY];lia
theorem Dr.ms (d:Dr w0 w1 w2 w3 w4 w5 tt B) (M:Mh m):∀(n:Nat) {x:Tr},x.aq≤n→Wy [w0,w1,w2,w3,w4,w5] B x→(b7 B x).ms (hk w0 w1) m+(m.c1 - 3*m.c0)*x.ms B mN≤(ak B x).ms (hk w0 w1) m
 |0,x,hn,hx=>by have:=rT x;lia
 |n+1,x,hn,hx=>by
  have b:=d.c.K.b;obtain ⟨h,ts,rfl,_,e,k⟩ |⟨t,ts,ht,rfl,e,hl,k⟩:=Wy.cases b hx
  ·rw[Tr.aq]at hn;have ih:=C0 (B:=B) (m:=m) (d:=m.c1 - 3*m.c0) (H:=hk w0 w1) ts 0 λy hy=>Dr.ms d M n (by have:=pe hy;lia) (k y hy);have e0:(mN.c0)=0:=rfl;rw[b7,ak,qb e,qb e,uU e,e0,bG];show(Tr.nd h (ts.map (b7 B))).ms (hk w0 w1) m+_≤(Tr.nd h (ts.map (ak B))).ms (hk w0 w1) m;cases eh:m9 (hk w0 w1) h with
   |none=>rw[uU eh,uU eh];lia
   |some u=>
    rw[uD eh,uD eh,M.k];show m.c1+nv _ m (λ_=>2) 0 _+_≤m.c1+nv _ m (λ_=>2) 0 _;rw[xI,xI];have:(m.c1 - 3*m.c0)*nv B mN (λ_=>1) 0 ts≤2*((m.c1 - 3*m.c0)*nv B mN (λ_=>1) 0 ts):=by lia
    lia
  ·rw[Tr.aq]at hn;have ih:=C0 (B:=B) (m:=m) (d:=m.c1 - 3*m.c0) (H:=hk w0 w1) ts 0 λy hy=>Dr.ms d M n (by have:=pe hy;lia) (k y hy);have e1:mN.c1=1:=rfl;have rx:=d.rx t ht;have hls:(ts.map (ak B)).length=t.2.1.nb:=by rw[ay,hl]
   have hlg:(ts.map (b7 B)).length=t.2.1.nb:=by rw[ay,hl]
   obtain⟨h,ls,u,eL,eh,hb,_,_,_,nm⟩:=(d.c.lh ht).ex;have fl:=(b.lf t ht).br;have q1:=Nb (B:=hk w0 w1) (m:=m) (λ_ z=>z) (us:=ts.map (b7 B)) t.2.2 (d.no ht) (by rw[hlg];exact(b.ri t ht).br);have q2:nv (hk w0 w1) m (cn t.2.2) 0 (ts.map (b7 B))≤nv (hk w0 w1) m (λ_=>2) 0 (ts.map (b7 B)):=C8 _ 0 λj=>rx.ct _;rw[xI]at q2;have q3:=rx.sg;have q4:(ak B (.nd t.1 ts)).ms (hk w0 w1) m≥m.c1+2*nv (hk w0 w1) m (λ_=>1) 0 (ts.map (ak B)):=by
    rw[ak,p6 e];show(t.2.1.aD (ts.map (ak B))).ms (hk w0 w1) m≥_;rw[eL,Tr.br]at fl;rw[eL,Tr.aD,uD eh,M.k];show m.c1+nv _ m (λ_=>2) 0 _≥_;rw[xI,Ca (B:=hk w0 w1) (m:=m) (λ_ z=>z) ls hb (by rw[hls,eL];exact fl) 0];have:nv (hk w0 w1) m (λ_=>1) 0 (ts.map (ak B))≤nv (hk w0 w1) m (λj=>(pQ ls).count (j:Int)) 0 (ts.map (ak B)):=by
     refine Gg _ 0 λj _ hj=>List.one_le_count_iff.mpr (nm j ?_);rw[bG,hls]at hj;exact hj
    lia
   have q5:(b7 B (.nd t.1 ts)).ms (hk w0 w1) m=m.c0*t.2.2.sg+nv (hk w0 w1) m (cn t.2.2) 0 (ts.map (b7 B)):=by
    rw[←q1,b7,p6 e]
   have q6:m.c0*t.2.2.sg≤m.c0*3:=fP _ q3;have q7:(Tr.nd t.1 ts).ms B mN=1+nv B mN (λ_=>1) 0 ts:=by rw[uD e];rfl
   have q8:=M.c;rw[q5,q7,eY,Nat.mul_one];have:(m.c1 - 3*m.c0)*nv B mN (λ_=>1) 0 ts≤2*((m.c1 - 3*m.c0)*nv B mN (λ_=>1) 0 ts):=by lia
   lia
theorem DY:∀(ts:List Tr),(∀x∈ts,(b7 B x).dm H≤(ak B x).dm H)→o_ H (ts.map (b7 B))≤o_ H (ts.map (ak B))
 | [],h=>by simp
 |x::ts,h=>by
  have h1:=h x aK;have h2:=DY ts λy hy=>h y (aI _ hy);rw[aC,aC,o_,o_];lia
theorem Dr.dm (d:Dr w0 w1 w2 w3 w4 w5 tt B):∀(n:Nat) {x:Tr},x.aq≤n→Wy [w0,w1,w2,w3,w4,w5] B x→(b7 B x).dm (hk w0 w1)≤(ak B x).dm (hk w0 w1)
 |0,x,hn,hx=>by have:=rT x;lia
 |n+1,x,hn,hx=>by
  have b:=d.c.K.b;obtain ⟨h,ts,rfl,_,e,k⟩ |⟨t,ts,ht,rfl,e,hl,k⟩:=Wy.cases b hx
  ·rw[Tr.aq]at hn;have ih:=DY (B:=B) (H:=hk w0 w1) ts λy hy=>Dr.dm d n (by have:=pe hy;lia) (k y hy);rw[b7,ak,qb e,qb e];show(Tr.nd h (ts.map (b7 B))).dm (hk w0 w1)≤(Tr.nd h (ts.map (ak B))).dm (hk w0 w1);cases eh:m9 (hk w0 w1) h with
   |none=>rw[ym eh,ym eh];lia
   |some u=>rw[zY eh,zY eh];lia
  ·rw[Tr.aq]at hn;have ih:=DY (B:=B) (H:=hk w0 w1) ts λy hy=>Dr.dm d n (by have:=pe hy;lia) (k y hy);have rx:=d.rx t ht;have hls:(ts.map (ak B)).length=t.2.1.nb:=by rw[ay,hl]
   have hlg:(ts.map (b7 B)).length=t.2.1.nb:=by rw[ay,hl]
   obtain⟨h,ls,u,eL,eh,hb,_,_,_,nm⟩:=(d.c.lh ht).ex;have q1:=Jy (B:=hk w0 w1) (λ_ z=>z) (us:=ts.map (b7 B)) t.2.2 (d.no ht) (by rw[hlg];exact(b.ri t ht).br);have q3:=rx.sd;have q4:(ak B (.nd t.1 ts)).dm (hk w0 w1)≥3+o_ (hk w0 w1) (ts.map (ak B)):=by
    rw[ak,p6 e];show(t.2.1.aD (ts.map (ak B))).dm (hk w0 w1)≥_;rw[eL,Tr.aD,zY eh];have:o_ (hk w0 w1) (ts.map (ak B))≤o_ (hk w0 w1) (aF (ts.map (ak B)) ls):=Hs _ λv hv=>by
     obtain⟨i,hi,ei⟩:=fh hv;exact Dx ls (nm i (by rw[←hls];exact hi)) (by rw[aS hi,ei])
    lia
   have q5:(b7 B (.nd t.1 ts)).dm (hk w0 w1)=(t.2.2.aD (ts.map (b7 B))).dm (hk w0 w1):=by
    rw[b7,p6 e]
   rw[q5];lia
mutual
theorem G7:∀{t:Tr},(t.hd λ_=>True)→t.aq≤t.ms H mP∧t.depth≤t.dm H
 | .bl n,h=>by rw[Tr.hd]at h;exact h.elim
 | .nd s ts,h=>by
  rw[Tr.hd]at h;obtain⟨h1,h2⟩:=DC (H:=H) (f:=λ_=>1) (λ_=>aA _) h.2 0;obtain⟨h3,h4⟩:=DC (H:=H) (f:=λ_=>2) (λ_=>by lia) h.2 0
  cases e:m9 H s with
  |none=>
   rw[uU e,ym e,Tr.aq,Tr.depth];have:mP.c0=1:=rfl;lia
  |some t=>
   rw[uD e,zY e,Tr.aq,Tr.depth];have:mP.c1=3:=rfl;have e2:nv H mP (mP.k t) 0 ts=nv H mP (λ_=>2) 0 ts:=rfl;lia
theorem DC{f:Nat→Nat}(hf:∀j,1≤f j):∀{ts:List Tr},hds (λ_=>True) ts→ ∀i,mJ ts≤nv H mP f i ts∧m_ ts≤o_ H ts
 | [],h,i=>by rw[mJ,nv,m_,o_];lia
 |t::ts,h,i=>by
  rw[hds]at h;obtain⟨h1,h2⟩:=G7 (H:=H) h.1;obtain⟨h3,h4⟩:=DC (H:=H) hf h.2 (i+1);have:=l9 (t.ms H mP) (hf i);rw[mJ,nv,m_,o_];lia
end
structure Cl (w0 w1 w2 w3 w4 w5:ah) (B:List Tn) (X:Tr):Prop where
  sh:Sh [w0,w1,w2,w3,w4,w5] B X
  p:X.ms (hk w0 w1) mP≤400
  q:X.dm (hk w0 w1)≤40
def Cl.sm (h:Cl w0 w1 w2 w3 w4 w5 B X):X.bo=true:=by
 obtain⟨h1,h2⟩:=G7 (H:=hk w0 w1) (vC (λ_ _=>trivial) _ h.sh.wy.hd);have:=h.p;have:=h.q;exact F1 (by lia) (by lia)
def Dr.cl (d:Dr w0 w1 w2 w3 w4 w5 tt B) (hx:Wy [w0,w1,w2,w3,w4,w5] B x) (h:Cl w0 w1 w2 w3 w4 w5 B (ak B x)):Cl w0 w1 w2 w3 w4 w5 B (b7 B x):=by
 have h1:=d.ms (m:=mP) ⟨rfl,by decide⟩ _ (aA _) hx
 have h2:=d.dm _ (aA _) hx;have h3:=h.p;have h4:=h.q;have:=d.c.K.b7 hx;exact⟨⟨this.1,this.2.1⟩,by lia,by lia⟩
def mT:Ms:=⟨0,1,λ_ _=>2⟩
mutual
def Tr.hn (H:List Tn):Tr→Nat
 | .bl _=>0
 | .nd s ts=>match m9 H s with
  |none=>hns H ts
  |some _=>1+hns H ts
def hns (H:List Tn):List Tr→Nat
 | []=>0
 |t::ts=>max (t.hn H) (hns H ts)
end
def Fx (h:m9 H s=none):(Tr.nd s ts).hn H=hns H ts:=by rw[Tr.hn,h]
def Jc (h:m9 H s=aa t):(Tr.nd s ts).hn H=1+hns H ts:=by rw[Tr.hn,h]
theorem Dm:∀{ts:List Tr},x∈ts→x.hn H≤hns H ts
 |t::ts,h=>by
  rw[hns];obtain rfl |h:=az.mp h
  ·lia
  ·have:=Dm (H:=H) h;lia
mutual
theorem ZT{P:ah→Prop}(hP:∀s,P s→m9 H s=none):∀t:Tr,t.hb P→t.br us.length→(t.aD us).hn H≤hns H us
 | .bl n,h,ft=>by
  rw[Tr.br]at ft;have hl:n.toNat<us.length:=by lia
  rw[Tr.aD,bv,aS hl,d8];exact Dm (eJ ..)
 | .nd s ts,h,ft=>by
  rw[Tr.br]at ft;rw[Tr.hb]at h;rw[Tr.aD,Fx (hP s h.1)];exact DB hP ts h.2 ft
theorem DB{P:ah→Prop}(hP:∀s,P s→m9 H s=none):∀ts:List Tr,oy P ts→m4 us.length ts→hns H (aF us ts)≤hns H us
 | [],h,ft=>by rw[aF,hns];lia
 |t::ts,h,ft=>by
  rw[m4]at ft;rw[oy]at h;have h1:=ZT hP t h.1 ft.1;have h2:=DB hP ts h.2 ft.2;rw[aF,hns];lia
end
def O2{m1 m2 s1 s2 a b:Nat}(ha:1≤a) (hb:1≤b) (h1:m1+7≤(s1+7)*a) (h2:m2+7≤(s2+7)*b):m1+m2+7≤(s1+s2+7)*(a*b):=by
 have e1:s1*a≤s1*(a*b):=fP _ (ki _ hb);have e2:s2*b≤s2*(a*b):=fP _ (l9 _ ha);have e3:a+b≤a*b+1:=by
  obtain⟨a,rfl⟩:∃a',a=a'+1:=⟨a - 1,by lia⟩
  obtain⟨b,rfl⟩:∃b',b=b'+1:=⟨b - 1,by lia⟩
  rw[eY,cg];lia
 rw[cg]at h1 h2;rw[cg,cg];lia
def Sr (ha:1≤a) (hb:1≤b) (h1:m1+1≤a) (h2:m2+1≤b):m1+m2+1≤a*b:=by
 have e3:a+b≤a*b+1:=by
  obtain⟨a,rfl⟩:∃a',a=a'+1:=⟨a - 1,by lia⟩
  obtain⟨b,rfl⟩:∃b',b=b'+1:=⟨b - 1,by lia⟩
  rw[eY,cg];lia
 lia
structure GJ (H:List Tn) (B:List Tn) (p:Pl):Prop where
  n:p.nt≤p.wt
  a:(p.ev B zr).ms H mP+7≤(p.wt - p.nt+7)*2 ^ p.nt
  b:(p.ev B zr).ms H mT+1≤2 ^ p.nt
  c:(p.ev B zr).dm H≤p.wt+4*p.nt
  d:(p.ev B zr).hn H≤p.nt
theorem F_:∀(ps:List Pl),(∀p∈ps,GJ H B p)→ ∀i,bC ps≤bJ ps∧nv H mP (λ_=>1) i (ps.map (Pl.ev B zr))+7≤(bJ ps - bC ps+7)*2 ^ bC ps∧nv H mT (λ_=>1) i (ps.map (Pl.ev B zr))+1≤2 ^ bC ps∧o_ H (ps.map (Pl.ev B zr))≤bJ ps+4*bC ps∧hns H (ps.map (Pl.ev B zr))≤bC ps
 | [],_,i=>by simp [bC,bJ,nv,o_,hns]
 |p::ps,h,i=>by
  have q:=h p aK;obtain⟨b1,b2,b3,b4,b5⟩:=F_ ps (λq hq=>h q (aI _ hq)) (i+1);have:=O2 (gd (n:=p.nt)) (gd (n:=bC ps)) q.a b2;have t2:=Sr (gd (n:=p.nt)) (gd (n:=bC ps)) q.b b3;rw[←gm]at this t2;have h1:=q.n;have h2:=q.c;have h3:=q.d;rw[bC,bJ,aC,nv,nv,o_,hns,c5,c5];refine⟨by lia,?_,t2,by lia,by lia⟩
  rw[show p.wt+bJ ps - (p.nt+bC ps)=p.wt - p.nt+(bJ ps - bC ps) by lia]
  exact this
def mZ.plh (c:mZ w0 w1 w2 w3 w4 w5 tt B) (h:nF [w2,w3,w4,w5] B p):GJ (hk w0 w1) B p:=by
 have b:=c.bk
 induction h with
 | @sign b' h ps hh hp ih=>
  obtain⟨b1,b2,b3,b4,b5⟩:=F_ ps ih 0;have e:=c.G.no h hh;have h1:mP.c0=1:=rfl;have h2:mT.c0=0:=rfl;have h3:=gd (n:=bC ps);have n1:(Pl.nd (-1) b' h ps).nt=bC ps:=by rw[Pl.nt,if_pos (by decide),bG]
  have n2:(Pl.nd (-1) b' h ps).wt=1+bJ ps:=by rw[Pl.wt]
  refine⟨by rw[n1,n2];lia,?_,?_,?_,?_⟩
  ·rw[n1,n2,qe,uU e,h1,show 1+bJ ps - bC ps+7=(bJ ps - bC ps+7)+1 by lia,cg]
   lia
  ·rw[n1,qe,uU e,h2];lia
  ·rw[n1,n2,qe,ym e];lia
  ·rw[n1,qe,Fx e];exact b5
 | @turn k b' h ps t e hl b0 b1 hp ih=>
  obtain⟨i1,i2,i3,i4,i5⟩:=F_ ps ih 0;have ht:t∈B:=aJ e;have hl':(ps.map (Pl.ev B zr)).length=t.2.1.nb:=by rw[ay,hl]
  obtain⟨z,ls,u,eL,eh,hb,s2,d2,nd,nm⟩:=(c.lh ht).ex;have fl:=(b.lf t ht).br;rw[eL,Tr.br]at fl;have fl':m4 (ps.map (Pl.ev B zr)).length ls:=by rw[hl',eL];exact fl
  have ez:rb t (zr b') (ps.map (Pl.ev B zr))= .nd z (aF (ps.map (Pl.ev B zr)) ls):=by
   have:rb t (zr b') (ps.map (Pl.ev B zr))=t.2.1.aD (ps.map (Pl.ev B zr)):=rfl;rw[this,eL,Tr.aD]
  have ct:∀j,(pQ ls).count ((j:Nat):Int)≤1:=λj=>List.nodup_iff_count.mp nd _;have q:∀m:Ms,nv (hk w0 w1) m (λ_=>1) 0 (aF (ps.map (Pl.ev B zr)) ls)≤m.c0*2+nv (hk w0 w1) m (λ_=>1) 0 (ps.map (Pl.ev B zr)):=λm=>by
   rw[Ca (B:=hk w0 w1) (m:=m) (λ_ z=>z) ls hb fl' 0];have h1:=fP m.c0 s2;have h2:nv (hk w0 w1) m (λj=>(pQ ls).count (j:Int)) 0 (ps.map (Pl.ev B zr))≤nv (hk w0 w1) m (λ_=>1) 0 (ps.map (Pl.ev B zr)):=C8 _ 0 ct;lia
  have qP:=q mP;have qT:=q mT;have c1:mP.c0=1:=rfl;have c2:mT.c0=0:=rfl;rw[c1]at qP;rw[c2]at qT;have n1:(Pl.nd k b' h ps).nt=1+bC ps:=by rw[Pl.nt,if_neg (by lia)]
  have n2:(Pl.nd k b' h ps).wt=1+bJ ps:=by rw[Pl.wt]
  have ev:(Pl.nd k b' h ps).ev B zr= .nd z (aF (ps.map (Pl.ev B zr)) ls):=by rw[pZ e,ez]
  have p2:2 ^ (1+bC ps)=2*2 ^ bC ps:=by rw[gm,Nat.pow_one]
  refine⟨by rw[n1,n2];lia,?_,?_,?_,?_⟩
  ·rw[n1,n2,ev,uD eh];show 3+nv _ mP (λ_=>2) 0 _+7≤_;rw[xI,show 1+bJ ps - (1+bC ps)+7=bJ ps - bC ps+7 by lia,p2,←iE,Nat.mul_comm _ 2,iE]
   lia
  ·rw[n1,ev,uD eh];show 1+nv _ mT (λ_=>2) 0 _+1≤_;rw[xI,p2];lia
  ·have:=Eu (B:=hk w0 w1) (λ_ z=>z) ls hb fl';rw[n1,n2,ev,zY eh];lia
  ·have:=DB (H:=hk w0 w1) (λ_ z=>z) ls hb fl';rw[n1,ev,Jc eh];lia
inductive Lo (B:List Tn):Tr→List Int→Tr→Tr→Prop
 |top {t:Tn}{vs:List Tr}:t∈B→vs.length=t.2.1.nb→Lo B (t.2.1.aD vs) [] (.nd t.1 (vs.map (ak B))) (.nd t.1 (vs.map (b7 B)))
 |sgn {h:ah}{as bs:List Tr}{x s y:Tr}{q:List Int}:m9 B h=none→Lo B x q s y→Lo B (.nd h (as++x::bs)) ((as.length:Int)::q) (.nd h (as.map (ak B)++s::bs.map (ak B))) (.nd h (as.map (b7 B)++y::bs.map (b7 B)))
 |here {h:ah}{ts:List Tr}{t:Tn}:m9 B h=aa t→Lo B (.nd h ts) [] (.nd h (ts.map (ak B))) (t.2.2.aD (ts.map (b7 B)))
 |tit {h:ah}{t:Tn}{as bs:List Tr}{x s y:Tr}{q e:List Int}:m9 B h=aa t→(t.2.1.bls.map λx=>x.1)[as.length]? =aa e→Lo B x q s y→Lo B (.nd h (as++x::bs)) (e++q) (t.2.1.aD (as.map (ak B)++s::bs.map (ak B))) (t.2.2.aD (as.map (b7 B)++y::bs.map (b7 B)))
theorem Lz:∀(q:List Int) {L v:Tr},L.br us.length→(L.aD us).at q=aa v→(∃e r n w,q=e++r∧L.at e=aa (.bl n)∧us[n.toNat]? =aa w∧w.at r=aa v)∨ ∃s ls,L.at q=aa (.nd s ls)∧v=(Tr.nd s ls).aD us
 |q, .bl n,v,ft,h=>by
  rw[Tr.br]at ft;have hl:n.toNat<us.length:=by lia
  rw[Tr.aD,bv,aS hl,d8]at h;exact .inl ⟨[],q,n,_,rfl,pk _,aS hl,h⟩
 | [], .nd s ls,v,ft,h=>by
  rw[pk]at h;cases h;exact .inr ⟨s,ls,pk _,rfl⟩
 |i::q, .nd s ls,v,ft,h=>by
  rw[Tr.br]at ft;rw[Tr.aD]at h;obtain⟨w,h0,h1,h2⟩:=pR h;obtain⟨j,rfl⟩:∃j:Nat,i=j:=⟨i.toNat,(cm h0).symm⟩;rw[bb,vo,aV]at h1;cases e:ls[j]? with
  |none=>rw[e]at h1;cases h1
  |some l=>
   rw[e]at h1;cases h1;obtain ⟨e',r,n,w,rfl,g2,g3,g4⟩ |⟨s',ls',g1,g2⟩:=Lz q (wk ft (aJ e)) h2
   ·exact .inl ⟨(j:Int)::e',r,n,w,rfl,by rw[r8 e];exact g2,g3,g4⟩
   ·exact .inr ⟨s',ls',by rw[r8 e];exact g1,g2⟩
theorem C6{P:ah→Prop}:∀{ls:List Tr},oy P ls→l∈ls→l.hb P
 |t::ts,h,m=>by
  rw[oy]at h;obtain rfl |m:=az.mp m
  ·exact h.1
  ·exact C6 h.2 m
theorem N8{P:ah→Prop}:∀(q:List Int) {L:Tr}{s:ah}{ls:List Tr},L.hb P→L.at q=aa (.nd s ls)→P s
 | [],L,s,ls,h,e=>by
  rw[pk]at e;cases e;rw[Tr.hb]at h;exact h.1
 |i::q, .bl n,s,ls,h,e=>by cases e
 |i::q, .nd z ts,s,ls,h,e=>by
  obtain⟨w,h0,h1,h2⟩:=pR e;rw[Tr.hb]at h;exact N8 q (C6 h.2 (aJ h1)) h2
def R4 (F:uY B) {t:Tn}(ht:t∈B) {e:List Int}{n:Int}(h:t.2.1.at e=aa (.bl n)) (ft:t.2.1.br t.2.1.nb):(t.2.1.bls.map λx=>x.1)[n.toNat]? =aa e∧0≤n:=by
 have hm:(e,Tr.bl n)∈t.2.1.bls:=dS.mpr ⟨by have:=AA t.2.1 [] e _ h;simpa using this,rfl⟩;obtain⟨i,hi,ei⟩:=fh hm;have hs:(t.2.1.bls.map λx=>x.1)[i]? =aa e:=by rw[aV,aS hi,ei];rfl
 obtain⟨_,_,_,_,hL⟩:=F.lf t ht;have:=G8 hL hs;rw[h]at this;cases this;exact⟨by rw[bb];exact hs,by lia⟩
def qC (R:Tr) (i:Nat):List (List Int):=(R.bls.filter λz=>z.2.num == (i:Int)).map λz=>z.1
mutual
def Tr.lou (B:List Tn):Tr→List Int→List (List Int)
 | .bl _,_=>[]
 | .nd s ts,q=>match m9 B s with
  |some t=>rg B t 0 ts q
  |none=>match q with
   | []=>[[]]
   |i::q'=>(ua B i.toNat ts q').map (i:: ·)
def rg (B:List Tn) (t:Tn) (i:Nat):List Tr→List Int→List (List Int)
 | [],_=>[]
 |x::xs,q=>(match(t.2.1.bls.map λz=>z.1)[i]? with
  |some e=>if q.take e.length=e then(qC t.2.2 i).flatMap λb=>(x.lou B (q.drop e.length)).map (b++ ·) else []
  |none=>[])++rg B t (i+1) xs q
def ua (B:List Tn):Nat→List Tr→List Int→List (List Int)
 |_,[],_=>[]
 |0,x::_,q=>x.lou B q
 |n+1,_::xs,q=>ua B n xs q
end
inductive Rn (ws:List ah) (B:List Tn):Nat→Tr→Tr→Prop
 |z {X:Tr}:Rn ws B 0 X X
 |s {n:Nat}{x Z:Tr}:Wy ws B x→Rn ws B n (b7 B x) Z→Rn ws B (n+1) (ak B x) Z
def pX (ws:List ah) (B:List Tn) (X:Tr):Prop:=∀q t us,¬Ou ws B X q t us
theorem G3:∀{us zs:List Tr},aN (Rn ws B (n+1)) us zs→ ∃xs:List Tr,(∀x∈xs,Wy ws B x)∧us=xs.map (ak B)∧aN (Rn ws B n) (xs.map (b7 B)) zs
 |_,_, .nil=>⟨[],(λ_ h=>nomatch h),rfl, .nil⟩
 |_,_, .cons a b=>by
  obtain⟨xs,h1,h2,h3⟩:=G3 b;cases a with
  | @s _ x Z hx hr=>
   refine⟨x::xs,λy hy=>?_,by rw[aC,←h2], .cons hr h3⟩
   obtain rfl |hy:=az.mp hy
   ·exact hx
   ·exact h1 y hy
theorem Jg:∀{us zs:List Tr},aN (Rn ws B 0) us zs→us=zs
 |_,_, .nil=>rfl
 |_,_, .cons a b=>by
  cases a;rw[Jg b]
def GW (hh:h∈ws) (e:m9 B h=none) (k:∀x∈ts,Wy ws B x):Wy ws B (.nd h ts):=by
 refine⟨?_,?_⟩
 ·rw[Tr.hd,mW];exact⟨.inl hh,λx hx=>(k x hx).hd⟩
 ·rw[Tr.ar,oA];exact⟨(λt ht=>by rw[e]at ht;cases ht),λx hx=>(k x hx).ar⟩
theorem DA (hh:h∈ws) (e:m9 B h=none):∀(n:Nat) {us zs:List Tr},aN (Rn ws B n) us zs→Rn ws B n (.nd h us) (.nd h zs)
 |0,us,zs,p=>by
  rw[Jg p];exact .z
 |n+1,us,zs,p=>by
  obtain⟨xs,h1,h2,h3⟩:=G3 p;have:=DA hh e n h3;have g:b7 B (.nd h xs)= .nd h (xs.map (b7 B)):=by rw[b7,qb e]
  have s:ak B (.nd h xs)= .nd h (xs.map (ak B)):=by rw[ak,qb e]
  rw[h2,←s];rw[←g]at this;exact .s (GW hh e h1) this
def Rn.snoc (h:Rn ws B n X Y) (hx:Wy ws B x) (e:ak B x=Y):Rn ws B (n+1) X (b7 B x):=by
 induction h with
 |z=>rw[←e];exact .s hx .z
 |s hy _ ih=>exact .s hy (ih e)
def pX.kid{s:ah}{ts:List Tr}{i:Nat}{v:Tr}(h:pX ws B (.nd s ts)) (e:ts[i]? =aa v):pX ws B v:=λq t us o=>h ((i:Int)::q) t us ⟨o.ht,o.hl,by rw[r8 e];exact o.hat,o.sh⟩
theorem pX.at:∀(q:List Int) {X v:Tr},pX ws B X→X.at q=aa v→pX ws B v
 | [],X,v,h,e=>by
  rw[pk]at e;cases e;exact h
 |i::q, .bl n,v,h,e=>by cases e
 |i::q, .nd s ts,v,h,e=>by
  obtain⟨w,h0,h1,h2⟩:=pR e;exact pX.at q (h.kid h1) h2
def pX.op (K:Bk3 ws B) (h:pX ws B X) (hs:Sh ws B X) (p:List Int):X.op B p=[]:=by
 cases e:X.op B p with
 |nil=>rfl
 |cons y ys=>
  obtain⟨q,t,us,_,o⟩:=zb K _ (aA _) hs (y:=y) (by rw[e];exact aK);exact absurd o (h q t us)
def FQ (K:Bk3 ws B) (F:uY B) (h:X.op B []=[]):pX ws B X:=λq t us o=>by
 have:=o.op K F;rw[h]at this;cases this
mutual
theorem Yg:∀(t:Tr) {i:Int},i∈t.nm→ ∃q,t.at q=aa (.bl i)
 | .bl n,i,h=>by
  rw[Tr.nm,bh]at h;subst h;exact⟨[],pk _⟩
 | .nd s ts,i,h=>by
  rw[Tr.nm]at h;obtain⟨j,t,q,h1,h2⟩:=A4 ts h;exact⟨(j:Int)::q,by rw[r8 h1];exact h2⟩
theorem A4:∀(ts:List Tr) {i:Int},i∈pQ ts→ ∃(j:Nat) (t:Tr) (q:List Int),ts[j]? =aa t∧t.at q=aa (.bl i)
 | [],i,h=>by rw[pQ]at h;cases h
 |t::ts,i,h=>by
  rw[pQ]at h;obtain z |z:=bq.mp h
  ·obtain⟨q,hq⟩:=Yg t z;exact⟨0,t,q,rfl,hq⟩
  ·obtain⟨j,u,q,h1,h2⟩:=A4 ts z;exact⟨j+1,u,q,by rw[bU];exact h1,h2⟩
end
def Ou.head{w0 w1 w2 w3 w4 w5:ah}{tt:List ah}{B:List Tn}{X:Tr}(c:mZ w0 w1 w2 w3 w4 w5 tt B) (ht:t∈B) (e:Tr.nd s ts=t.2.1.aD us):m9 (hk w0 w1) s≠none:=by
 obtain⟨h,ls,u,eL,eh,_⟩:=(c.lh ht).ex;rw[eL,Tr.aD]at e;cases e;rw[eh];exact λz=>nomatch z
def Dr.rst_fill (d:Dr w0 w1 w2 w3 w4 w5 tt B) (ht:t∈B) (hl:us.length=t.2.1.nb) (hu:∀u∈us,pX [w0,w1,w2,w3,w4,w5] B u):pX [w0,w1,w2,w3,w4,w5] B (t.2.2.aD us):=λq v vs o=>by
 rcases Lz q (by rw[hl];exact(d.c.K.b.ri t ht).br) o.hat with⟨e,r,n,w,rfl,g2,g3,g4⟩ |⟨s',ls',g1,g2⟩
 ·exact hu w (aJ g3) r v vs ⟨o.ht,o.hl,g4,o.sh⟩
 ·rw[Tr.aD]at g2;exact Ou.head (X:= .bl 0) d.c o.ht g2.symm (N8 q (d.no ht) g1)
theorem Dr.nest (d:Dr w0 w1 w2 w3 w4 w5 tt B):∀(w n:Nat) {X:Tr},X.aq≤w→Sh [w0,w1,w2,w3,w4,w5] B X→X.hn (hk w0 w1)≤n→ ∃Z,Rn [w0,w1,w2,w3,w4,w5] B n X Z∧Sh [w0,w1,w2,w3,w4,w5] B Z∧pX [w0,w1,w2,w3,w4,w5] B Z
 |0,n,X,hw,hX,hn=>by have:=rT X;lia
 |w+1,n,X,hw,hX,hn=>by
  have K:=d.c.K;obtain⟨s,ts,rfl,hs,e,k⟩:=hX.cases K;rw[Tr.aq]at hw;have dA:∀m,hns (hk w0 w1) ts≤m→ ∃zs,aN (Rn [w0,w1,w2,w3,w4,w5] B m) ts zs∧ ∀z∈zs,Sh [w0,w1,w2,w3,w4,w5] B z∧pX [w0,w1,w2,w3,w4,w5] B z:=λm hm=>by
   have go:∀us:List Tr,(∀u∈us,u∈ts)→ ∃zs,aN (Rn [w0,w1,w2,w3,w4,w5] B m) us zs∧ ∀z∈zs,Sh [w0,w1,w2,w3,w4,w5] B z∧pX [w0,w1,w2,w3,w4,w5] B z:=λus=>by
    induction us with
    |nil=>exact λ_=>⟨[], .nil,(λ_ h=>nomatch h)⟩
    |cons u us ih=>
     intro h;obtain⟨zs,h1,h2⟩:=ih λv hv=>h v (aI _ hv);have hu:=h u aK;obtain⟨z,g1,g2,g3⟩:=Dr.nest d w m (X:=u) (by have:=pe hu;lia) (k u hu) (by have:=Dm (H:=hk w0 w1) hu;lia);refine⟨z::zs, .cons g1 h1,λy hy=>?_⟩;obtain rfl |hy:=az.mp hy
     ·exact⟨g2,g3⟩
     ·exact h2 y hy
   exact go ts λ_ h=>h
  have shz:∀zs:List Tr,(∀z∈zs,Sh [w0,w1,w2,w3,w4,w5] B z∧pX [w0,w1,w2,w3,w4,w5] B z)→Sh [w0,w1,w2,w3,w4,w5] B (.nd s zs):=λzs h=>⟨GW hs e λz hz=>(h z hz).1.wy,by
   rw[ak,qb e,CM K λz hz=>(h z hz).1]⟩
  have deep:∀zs:List Tr,(∀z∈zs,Sh [w0,w1,w2,w3,w4,w5] B z∧pX [w0,w1,w2,w3,w4,w5] B z)→ ∀i q t us,¬Ou [w0,w1,w2,w3,w4,w5] B (.nd s zs) (i::q) t us:=λzs h i q t us o=>by
   obtain⟨v,_,h1,h2⟩:=pR o.hat;exact(h v (aJ h1)).2 q t us ⟨o.ht,o.hl,h2,o.sh⟩
  cases eh:m9 (hk w0 w1) s with
  |none=>
   rw[Fx eh]at hn;obtain⟨zs,h1,h2⟩:=dA n hn;refine⟨.nd s zs,DA hs e n h1,shz zs h2,λq t us o=>?_⟩;cases q with
   |nil=>
    have:=o.hat;rw[pk]at this;exact Ou.head (X:= .bl 0) d.c o.ht (aL this) eh
   |cons i q=>exact deep zs h2 i q t us o
  |some th=>
   rw[Jc eh]at hn;obtain⟨n,rfl⟩:∃n',n=n'+1:=⟨n - 1,by lia⟩
   obtain⟨zs,h1,h2⟩:=dA n (by lia);have r1:=DA hs e n h1;have s1:=shz zs h2;by_cases ho:∃t us,Ou [w0,w1,w2,w3,w4,w5] B (.nd s zs) [] t us
   ·obtain⟨t,us,o⟩:=ho;have e1:=o.ak K s1;have e2:=o.b7 K s1;have e3:toO (.nd s zs) [] t us=t.2.2.aD us:=by unfold toO;rw[tq]
    rw[e3]at e2;have ha:=o.hat;rw[pk]at ha;have ha:=aL ha;refine⟨t.2.2.aD us,by rw[←e2];exact r1.snoc (o.wy K s1) e1,by rw[←e3];exact o.to K s1,d.rst_fill o.ht o.hl λu hu=>?_⟩
    obtain⟨i,hi,ei⟩:=fh hu;obtain⟨z,ls,v,eL,_,_,_,_,_,nm⟩:=(d.c.lh o.ht).ex;obtain⟨j,l,q,g1,g2⟩:=A4 ls (nm i (by rw[←o.hl];exact hi));have fl:=(K.b.lf t o.ht).br;rw[eL,Tr.br]at fl;rw[eL,Tr.aD]at ha;cases ha;have g3:(aF us ls)[j]? =aa (l.aD us):=by rw[vo,aV,g1];rfl
    have g4:(l.aD us).at q=aa u:=by
     rw[wV q g2 (by rw[o.hl,eL];exact wk fl (aJ g1)),bb,aS hi,ei]
    exact pX.at q (h2 _ (aJ g3)).2 g4
   ·refine⟨.nd s zs,?_,s1,λq t us o=>?_⟩
    ·have:=r1.snoc s1.wy s1.q;rw[show b7 B (.nd s zs)= .nd s zs from s1.mkq K _]at this;exact this
    ·cases q with
     |nil=>exact ho ⟨t,us,o⟩
     |cons i q=>exact deep zs h2 i q t us o
def Rn.strip (K:Bk3 ws B) (h:Rn ws B m t Y):∀{x:Tr},Wy ws B x→ak B x=t→ ∃y,Wy ws B y∧ak B y=Y∧ ∃m',Rn ws B m' (b7 B x) (b7 B y):=by
 induction h with
 |z=>exact λ{x} hx e=>⟨x,hx,e,0, .z⟩
 | @s n z Z hz _ ih=>
  intro x hx e;have m1:=K.moved hx hz e;have m2:=K.moved hz hx e.symm;obtain⟨y,h1,h2,m',h3⟩:=ih m1.wy m1.sr;refine⟨y,h1,h2,m'+1,?_⟩;rw[←m2.sr];refine .s m2.wy ?_;rw[m2.go];exact h3
def mZ.stay (c:mZ w0 w1 w2 w3 w4 w5 tt B) (hy:Wy [w0,w1,w2,w3,w4,w5] B y) (h:pX [w0,w1,w2,w3,w4,w5] B (ak B y)):y=ak B y∧b7 B y=ak B y:=by
 have hs:Sh [w0,w1,w2,w3,w4,w5] B (ak B y):=⟨(c.K.ak hy).1,(c.K.ak hy).2.1⟩;have q:=Fq c _ y [] (aA _) hy (h.op c.K hs []);have e1:=rK (g:=λt=>t.2.1) c.K.b.ti y q;have e2:=rK (g:=λt=>t.2.2) c.K.b.ti y q;exact⟨e1.symm,e2.trans e1.symm⟩
def mZ.stays (c:mZ w0 w1 w2 w3 w4 w5 tt B) (h:Rn [w0,w1,w2,w3,w4,w5] B n X Y):pX [w0,w1,w2,w3,w4,w5] B X→Y=X:=by
 induction h with
 |z=>exact λ_=>rfl
 | @s n x Z hx _ ih=>
  intro r;have e:=(c.stay hx r).2;rw[e]at ih;exact ih r
theorem mZ.catch (c:mZ w0 w1 w2 w3 w4 w5 tt B) (hX:Sh [w0,w1,w2,w3,w4,w5] B X):∀{n:Nat}{t Z:Tr},Rn [w0,w1,w2,w3,w4,w5] B n t Z→ ∀i,(∃m,Rn [w0,w1,w2,w3,w4,w5] B m t (hh [w0,w1,w2,w3,w4,w5] B X i))→ ∃m,Rn [w0,w1,w2,w3,w4,w5] B m Z (hh [w0,w1,w2,w3,w4,w5] B X (i+n))
 |_,_,_, .z,i,h=>h
 |_,_,_, .s (n:=n) (x:=x) hx hr,i,⟨m,h⟩=>by
  obtain⟨y,h1,h2,m',h3⟩:=h.strip c.K hx rfl;have hs:=yG c.b c.G c.K hX i;have f:=wR c.b c.G c.K hs;have m1:=c.K.moved f.wy h1 (by rw[f.sr,h2]);have e:=WQ c hs h1 h2;have g:b7 B (res B (fw [w0,w1,w2,w3,w4,w5] B (hh [w0,w1,w2,w3,w4,w5] B X i)) y)=hh [w0,w1,w2,w3,w4,w5] B X (i+1):=by
   rw[m1.go,e];exact(yG c.b c.G c.K hX (i+1)).mkq c.K _
  have r2:=Rn.snoc h3 m1.wy m1.sr;rw[g]at r2;have:=mZ.catch c hX hr (i+1) ⟨_,r2⟩;rw[show i+(n+1)=i+1+n by lia]
  exact this
def mZ.rest (c:mZ w0 w1 w2 w3 w4 w5 tt B) (hX:Sh [w0,w1,w2,w3,w4,w5] B X) (h:Rn [w0,w1,w2,w3,w4,w5] B n X Z) (r:pX [w0,w1,w2,w3,w4,w5] B Z):hh [w0,w1,w2,w3,w4,w5] B X n=Z:=by
 obtain⟨m,h1⟩:=c.catch hX h 0 ⟨0, .z⟩;rw[bG]at h1;exact c.stays h1 r
def Dr.rest (d:Dr w0 w1 w2 w3 w4 w5 tt B) (hX:Sh [w0,w1,w2,w3,w4,w5] B X) (hn:X.hn (hk w0 w1)≤n):(hh [w0,w1,w2,w3,w4,w5] B X n).op B []=[]:=by
 obtain⟨Z,h1,h2,h3⟩:=d.nest _ n (aA _) hX hn;rw[d.c.rest hX h1 h3];exact h3.op d.c.K h2 []
inductive Up (B:List Tn):Tr→List Int→Prop
 |here {h:ah}{ts:List Tr}{t:Tn}:m9 B h=aa t→Up B (.nd h ts) []
 |sgn {h:ah}{ts:List Tr}{i:Nat}{x:Tr}{q:List Int}:m9 B h=none→ts[i]? =aa x→Up B x q→Up B (.nd h ts) ((i:Int)::q)
 |tit {h:ah}{ts:List Tr}{t:Tn}{i:Nat}{x:Tr}{e q:List Int}:m9 B h=aa t→t.2.1.at e=aa (.bl (i:Int))→ts[i]? =aa x→Up B x q→Up B (.nd h ts) (e++q)
def u_ (B:List Tn) (L:Tr) (us:List Tr) (q:List Int):Prop:=∃(e:List Int) (i:Nat) (u:Tr) (r:List Int),L.at e=aa (.bl (i:Int))∧us[i]? =aa u∧Up B u r∧q=e++r
def zT (e:m9 B h=none):Up B (.nd h ts) q↔ ∃(i:Nat) (x:Tr) (r:List Int),ts[i]? =aa x∧Up B x r∧q=(i:Int)::r:=by
 constructor
 ·intro u;cases u with
  |here e'=>rw[e]at e';cases e'
  |sgn _ h1 h2=>exact⟨_,_,_,h1,h2,rfl⟩
  |tit e'=>rw[e]at e';cases e'
 ·rintro⟨i,x,r,h1,h2,rfl⟩;exact .sgn e h1 h2
def xw (e:m9 B h=aa t):Up B (.nd h ts) q↔q=[]∨u_ B t.2.1 ts q:=by
 constructor
 ·intro u;cases u with
  |here _=>exact .inl rfl
  |sgn e'=>rw[e]at e';cases e'
  |tit e' h1 h2 h3=>rw[e]at e';cases e';exact .inr ⟨_,_,_,_,h1,h2,h3,rfl⟩
 ·rintro(rfl |⟨e',i,u,r,h1,h2,h3,rfl⟩)
  ·exact .here e
  ·exact .tit e h1 h2 h3
mutual
theorem vF (hB:∀t∈B,p8 t.1):∀(R:Tr) (q:List Int),R.hb ov→R.br us.length→(Up B (R.aD us) q↔u_ B R us q)
 | .bl n,q,h,ft=>by
  rw[Tr.br]at ft;have hl:n.toNat<us.length:=by lia
  obtain⟨k,rfl⟩:∃k:Nat,n=k:=⟨n.toNat,by lia⟩
  rw[bb]at hl;rw[Tr.aD,bb,bv,aS hl,d8];constructor
  ·exact λu=>⟨[],k,_,q,pk _,aS hl,u,rfl⟩
  ·rintro⟨e,i,u,r,h1,h2,h3,rfl⟩;cases e with
   |nil=>
    rw[pk]at h1;have:(k:Int)=i:=by simpa using h1
    have:k=i:=by lia
    subst this;rw[aS hl]at h2;cases h2;exact h3
   |cons j e=>cases h1
 | .nd s ts,q,h,ft=>by
  rw[Tr.br]at ft;rw[Tr.hb]at h;have e:=qg hB h.1;rw[Tr.aD,zT e];constructor
  ·rintro⟨i,x,r,h1,h2,rfl⟩;obtain⟨l,e1,e2,h3⟩:=(FE hB ts h.2 ft i x h1).1;subst e2;obtain⟨e',j,u,r',g1,g2,g3,rfl⟩:=(h3 r).mp h2;exact⟨(i:Int)::e',j,u,r',by rw[r8 e1];exact g1,g2,g3,rfl⟩
  ·rintro⟨e',j,u,r,h1,h2,h3,rfl⟩;cases e' with
   |nil=>rw[pk]at h1;cases h1
   |cons i e'=>
    obtain⟨l,h0,g1,g2⟩:=pR h1;obtain⟨i,rfl⟩:∃i':Nat,i=i':=⟨i.toNat,by lia⟩
    rw[bb]at g1;have g3:(aF us ts)[i]? =aa (l.aD us):=by rw[vo,aV,g1];rfl
    obtain⟨l',e1,e2,h4⟩:=(FE hB ts h.2 ft i _ g3).1;rw[g1]at e1;cases e1;exact⟨i,_,e'++r,g3,(h4 _).mpr ⟨e',j,u,r,g2,h2,h3,rfl⟩,rfl⟩
theorem FE (hB:∀t∈B,p8 t.1):∀(ts:List Tr),oy ov ts→m4 us.length ts→ ∀(i:Nat) (x:Tr),(aF us ts)[i]? =aa x→(∃l,ts[i]? =aa l∧x=l.aD us∧ ∀r,(Up B (l.aD us) r↔u_ B l us r))∧True
 | [],h,ft,i,x,hx=>by rw[aF]at hx;cases hx
 |t::ts,h,ft,0,x,hx=>by
  rw[m4]at ft;rw[oy]at h;rw[aF]at hx;cases hx;exact⟨⟨t,rfl,rfl,λr=>vF hB t r h.1 ft.1⟩,trivial⟩
 |t::ts,h,ft,i+1,x,hx=>by
  rw[m4]at ft;rw[oy]at h;rw[aF,bU]at hx;obtain⟨⟨l,h1,h2,h3⟩,_⟩:=FE hB ts h.2 ft.2 i x hx;exact⟨⟨l,by rw[bU];exact h1,h2,h3⟩,trivial⟩
end
def Cd (e:m9 B h=none):(Tr.nd h ts).lou B []=[[]]:=by rw[Tr.lou,e]
def yz (e:m9 B h=aa t):(Tr.nd h ts).lou B q=rg B t 0 ts q:=by
 rw[Tr.lou.eq_def];dsimp only;rw[e]
theorem G5:∀{ts:List Tr}{i:Nat}{x:Tr}{q:List Int},ts[i]? =aa x→ua B i ts q=x.lou B q
 |x::ts,0,y,q,h=>by cases h;rw[ua]
 |x::ts,i+1,y,q,h=>by
  rw[bU]at h;rw[ua];exact G5 h
def v9{h:ah}{ts:List Tr}{i:Nat}{x:Tr}{q:List Int}(e:m9 B h=none) (hx:ts[i]? =aa x):(Tr.nd h ts).lou B ((i:Int)::q)=(x.lou B q).map ((i:Int):: ·):=by
 rw[Tr.lou,e];dsimp only;rw[bb,G5 hx]
theorem FS (hB:∀t∈B,p8 t.1) {us:List Tr}:∀(b:List Int) {R u:Tr}{i:Nat}{r:List Int},R.hb ov→R.at b=aa (.bl (i:Int))→us[i]? =aa u→(R.aD us).lou B (b++r)=(u.lou B r).map (b++ ·)
 | [],R,u,i,r,h,e,hu=>by
  rw[pk]at e;cases e;rw[Tr.aD,bb,bv,hu];simp
 |j::b, .bl n,u,i,r,h,e,hu=>by cases e
 |j::b, .nd s ts,u,i,r,h,e,hu=>by
  obtain⟨l,h0,h1,h2⟩:=pR e;obtain⟨j,rfl⟩:∃j':Nat,j=j':=⟨j.toNat,by lia⟩
  rw[bb]at h1;rw[Tr.hb]at h;have g3:(aF us ts)[j]? =aa (l.aD us):=by rw[vo,aV,h1];rfl
  rw[Tr.aD,ck,v9 (qg hB h.1) g3,FS hB b (C6 h.2 (aJ h1)) h2 hu,bu];rfl
theorem BE:∀{xs:List Tr}{i:Nat},q'∈rg B t i xs q↔ ∃(j:Nat) (x:Tr) (e b r':List Int),xs[j]? =aa x∧(t.2.1.bls.map λz=>z.1)[i+j]? =aa e∧q.take e.length=e∧b∈qC t.2.2 (i+j)∧r'∈x.lou B (q.drop e.length)∧q'=b++r'
 | [],i=>by
  rw[rg];constructor
  ·intro h;cases h
  ·rintro⟨j,x,e,b,r',h1,_⟩;cases h1
 |y::xs,i=>by
  rw[rg,bq,BE (xs:=xs) (i:=i+1)];constructor
  ·rintro(h |⟨j,x,e,b,r',h1,h2,h3⟩)
   ·cases he:(t.2.1.bls.map λz=>z.1)[i]? with
    |none=>rw[he]at h;cases h
    |some e=>
     rw[he]at h;dsimp only at h;split at h
     ·rename_i hq;obtain⟨b,hb,h⟩:=dZ.mp h;obtain⟨r',hr,rfl⟩:=aT.mp h;exact⟨0,y,e,b,r',rfl,he,hq,hb,hr,rfl⟩
     ·cases h
   ·exact⟨j+1,x,e,b,r',by rw[bU];exact h1,by rw[←h2];congr 1;lia,by rw[show i+(j+1)=i+1+j by lia];exact h3⟩
  ·rintro⟨j,x,e,b,r',h1,h2,h3,h4,h5,rfl⟩;cases j with
   |zero=>
    cases h1;refine .inl ?_;rw[dO]at h2 h4;rw[h2];dsimp only;rw[if_pos h3];exact dZ.mpr ⟨b,h4,aT.mpr ⟨r',h5,rfl⟩⟩
   |succ j=>
    rw[bU]at h1;exact .inr ⟨j,x,e,b,r',h1,by rw[←h2];congr 1;lia,h3,by rw[show i+1+j=i+(j+1) by lia];exact h4,h5,rfl⟩
def pT:b∈qC R i↔R.at b=aa (.bl (i:Int)):=by
 unfold qC;rw[aT];constructor
 ·rintro⟨⟨p,v⟩,h,rfl⟩;obtain⟨h1,h2⟩:=dS.mp h;obtain⟨h3,h4⟩:=dS.mp h1;obtain⟨r,e1,e2,_⟩:=xz R [] _ _ h3;simp at e1;subst e1;cases v with
  |nd s ts=>cases h4
  |bl n=>
   have:n=i:=by simpa [Tr.num]using h2
   subst this;exact e2
 ·intro h;refine⟨(b, .bl i),dS.mpr ⟨dS.mpr ⟨by have:=AA R [] b _ h;simpa using this,rfl⟩,?_⟩,rfl⟩;simp [Tr.num]
theorem MQ:∀(e e':List Int) {t:Tr}{n n':Int}{r:List Int},t.at e=aa (.bl n)→t.at e'=aa (.bl n')→(e++r).take e'.length=e'→e'=e
 | [],e',t,n,n',r,h,h',hr=>by
  rw[pk]at h;cases h;cases e' with
  |nil=>rfl
  |cons i e'=>cases h'
 |i::e,[],t,n,n',r,h,h',hr=>by
  rw[pk]at h';cases h';cases h
 |i::e,i'::e', .bl m,n,n',r,h,h',hr=>by cases h
 |i::e,i'::e', .nd s ts,n,n',r,h,h',hr=>by
  rw[ck,aU,mf]at hr;simp only[fQ]at hr;obtain⟨rfl,hr⟩:=hr;obtain⟨l,h0,h1,h2⟩:=pR h;obtain⟨l',_,h1',h2'⟩:=pR h';rw[h1]at h1';cases h1';rw[MQ e e' h2 h2' hr]
def mZ.F (c:mZ w0 w1 w2 w3 w4 w5 tt B):uY B:=c.b.lfs c.G
def mZ.bl (c:mZ w0 w1 w2 w3 w4 w5 tt B) {t:Tn}(ht:t∈B) {e:List Int}{i:Nat}:t.2.1.at e=aa (.bl (i:Int))↔(t.2.1.bls.map λz=>z.1)[i]? =aa e:=by
 constructor
 ·intro h;have:=(R4 c.F ht h (c.bk.lf t ht).br).1;rwa [bb]at this
 ·intro h;obtain⟨_,_,_,_,hL⟩:=c.F.lf t ht;exact G8 hL h
def mZ.bl_ex (c:mZ w0 w1 w2 w3 w4 w5 tt B) (ht:t∈B) (hi:i<t.2.1.nb):∃e,t.2.1.at e=aa (.bl (i:Int)):=by
 obtain⟨h,ls,u,eL,_,_,_,_,_,nm⟩:=(c.lh ht).ex;obtain⟨j,l,q,g1,g2⟩:=A4 ls (nm i hi);exact⟨(j:Int)::q,by rw[eL,r8 g1];exact g2⟩
def mZ.lou_tit (c:mZ w0 w1 w2 w3 w4 w5 tt B) {t:Tn}(ht:t∈B) {xs:List Tr}{i:Nat}{x:Tr}{e r q':List Int}(he:t.2.1.at e=aa (.bl (i:Int))) (hx:xs[i]? =aa x):q'∈(Tr.nd t.1 xs).lou B (e++r)↔ ∃b r',t.2.2.at b=aa (.bl (i:Int))∧r'∈x.lou B r∧q'=b++r':=by
 rw[yz (qZ c.K.b.nd ht),BE];constructor
 ·rintro⟨j,y,e',b,r',h1,h2,h3,h4,h5,rfl⟩;rw[bG]at h2 h4;have g:=(c.bl ht).mpr h2;have:=MQ e e' he g h3;subst this;rw[he]at g;have:(i:Int)=j:=by simpa using g
  have:i=j:=by lia
  subst this;rw[hx]at h1;cases h1;rw[lV]at h5;exact⟨b,r',pT.mp h4,h5,rfl⟩
 ·rintro⟨b,r',h1,h2,rfl⟩;exact⟨i,x,e,b,r',hx,by rw[bG];exact(c.bl ht).mp he,by simp,by rw[bG];exact pT.mpr h1,by rw[lV];exact h2,rfl⟩
def mZ.lou_top (c:mZ w0 w1 w2 w3 w4 w5 tt B) {t:Tn}(ht:t∈B) {xs:List Tr}{q':List Int}:¬q'∈(Tr.nd t.1 xs).lou B []:=λh=>by
 rw[yz (qZ c.K.b.nd ht),BE]at h;obtain⟨j,y,e',b,r',h1,h2,h3,_⟩:=h;have g:=(c.bl ht).mpr h2;have:e'=[]:=by rw[←h3];simp
 subst this;rw[pk]at g;obtain⟨h,ls,u,eL,_⟩:=(c.lh ht).ex;rw[eL]at g;cases g
def zj{p:Pl}{ps:List Pl}{i:Nat}{u:Tr}{f:Pl→Tr}(h:(ps.map f)[i]? =aa u):∃p,ps[i]? =aa p∧u=f p:=by
 rw[aV]at h;cases e:ps[i]? with
 |none=>rw[e]at h;cases h
 |some p=>rw[e]at h;cases h;exact⟨p,rfl,rfl⟩
def mZ.up_ev (c:mZ w0 w1 w2 w3 w4 w5 tt B) {f g:Int→Nat}(hc:∀x:Int,0≤x→x<8→f x≤1∧g x≤1) {p:Pl}(h:nF [w0,w1,w2,w3,w4,w5] B p):∀q',Up B (p.ev B (pL f g)) q'↔ ∃q,Up B (p.ev B f) q∧q'∈(p.ev B g).lou B q:=by
 have ti:=c.K.b.ti
 induction h with
 | @sign b' h ps hh hp ih=>
  intro q';have e:=qg ti (c.K.b.sg h hh);rw[qe,qe,qe,zT e];constructor
  ·rintro⟨i,x,r,h1,h2,rfl⟩;obtain⟨p,ep,rfl⟩:=zj (p:= .nd 0 0 h []) h1;obtain⟨q,g1,g2⟩:=(ih p (aJ ep) r).mp h2;refine⟨(i:Int)::q,(zT e).mpr ⟨i,_,q,by rw[aV,ep];rfl,g1,rfl⟩,?_⟩
   rw[v9 e (show(ps.map (Pl.ev B g))[i]? =aa (p.ev B g) by rw[aV,ep];rfl)]
   exact aT.mpr ⟨r,g2,rfl⟩
  ·rintro⟨q,h1,h2⟩;obtain⟨i,x,r,h4,h3,rfl⟩:=(zT e).mp h1;obtain⟨p,ep,rfl⟩:=zj (p:= .nd 0 0 h []) h4;rw[v9 e (show(ps.map (Pl.ev B g))[i]? =aa (p.ev B g) by rw[aV,ep];rfl)]at h2
   obtain⟨r',g1,rfl⟩:=aT.mp h2;exact⟨i,p.ev B (pL f g),r',by rw[aV,ep];rfl,(ih p (aJ ep) r').mpr ⟨r,h3,g1⟩,rfl⟩
 | @turn k b' h ps t e hl b0 b1 hp ih=>
  intro q';have ht:t∈B:=aJ e;have et:=qZ c.K.b.nd ht;obtain⟨f1,g1⟩:=hc b' b0 b1;have len:∀z:Int→Nat,(ps.map (Pl.ev B z)).length=t.2.1.nb:=λz=>by rw[ay,hl]
  have sL:=(c.K.b.lf t ht).hb;have fL:∀z:Int→Nat,t.2.1.br (ps.map (Pl.ev B z)).length:=λz=>by rw[len];exact(c.K.b.lf t ht).br
  have sR:t.2.2.hb ov:=(c.K.b.ri t ht).hb c.K.b.sg;have fR:∀z:Int→Nat,t.2.2.br (ps.map (Pl.ev B z)).length:=λz=>by rw[len];exact(c.K.b.ri t ht).br
  have at':∀(z:Int→Nat) {i:Nat}{p:Pl},ps[i]? =aa p→(ps.map (Pl.ev B z))[i]? =aa (p.ev B z):=λz i p ep=>by rw[aV,ep];rfl
  have lower:∀q,u_ B t.2.1 (ps.map (Pl.ev B f)) q→ ∃(e:List Int) (i:Nat) (p:Pl) (r:List Int),t.2.1.at e=aa (.bl (i:Int))∧ps[i]? =aa p∧Up B (p.ev B f) r∧q=e++r:=λq ⟨e,i,u,r,h1,h2,h3,h4⟩=>by
   obtain⟨p,ep,rfl⟩:=zj (p:= .nd 0 0 h []) h2;exact⟨e,i,p,r,h1,ep,h3,h4⟩
  rw[pZ e,pZ e,pZ e];have fz:f b'=0∨f b'=1:=by lia
  have gz:g b'=0∨g b'=1:=by lia
  obtain gz |gz:=gz
  ·-- the other has no use here
   have pz:pL f g b'=f b':=by unfold pL;rw[if_neg (by lia)]
   have ex:rb t (g b') (ps.map (Pl.ev B g))=t.2.1.aD (ps.map (Pl.ev B g)):=by rw[gz];rfl
   have below:u_ B t.2.1 (ps.map (Pl.ev B (pL f g))) q'↔ ∃q,u_ B t.2.1 (ps.map (Pl.ev B f)) q∧q'∈(t.2.1.aD (ps.map (Pl.ev B g))).lou B q:=by
    constructor
    ·rintro⟨e',i,u,r,h1,h2,h3,rfl⟩;obtain⟨p,ep,rfl⟩:=zj (p:= .nd 0 0 h []) h2;obtain⟨q,k1,k2⟩:=(ih p (aJ ep) r).mp h3;refine⟨e'++q,⟨e',i,_,q,h1,at' f ep,k1,rfl⟩,?_⟩;rw[FS ti e' sL h1 (at' g ep)];exact aT.mpr ⟨r,k2,rfl⟩
    ·rintro⟨q,hq,h2⟩;obtain⟨e',i,p,r,h1,ep,h3,rfl⟩:=lower q hq;rw[FS ti e' sL h1 (at' g ep)]at h2;obtain⟨r',k1,rfl⟩:=aT.mp h2;exact⟨e',i,_,r',h1,at' _ ep,(ih p (aJ ep) r').mpr ⟨r,h3,k1⟩,rfl⟩
   rw[pz,ex];obtain fz |fz:=fz
   ·rw[fz];show Up B (t.2.1.aD (ps.map (Pl.ev B (pL f g)))) q'↔ ∃q,Up B (t.2.1.aD (ps.map (Pl.ev B f))) q∧_;rw[vF ti _ _ sL (fL _),below];constructor
    ·rintro⟨q,h1,h2⟩;exact⟨q,(vF ti _ _ sL (fL _)).mpr h1,h2⟩
    ·rintro⟨q,h1,h2⟩;exact⟨q,(vF ti _ _ sL (fL _)).mp h1,h2⟩
   ·rw[fz];show Up B (.nd t.1 (ps.map (Pl.ev B (pL f g)))) q'↔ ∃q,Up B (.nd t.1 (ps.map (Pl.ev B f))) q∧_;obtain⟨z,ls,u,eL,_⟩:=(c.lh ht).ex;have top:(t.2.1.aD (ps.map (Pl.ev B g))).lou B []=[[]]:=by
     rw[eL,Tr.hb]at sL;rw[eL,Tr.aD,Cd (qg ti sL.1)]
    rw[xw et,below];constructor
    ·rintro(rfl |⟨q,h1,h2⟩)
     ·exact⟨[], .here et,by rw[top];exact bh.mpr rfl⟩
     ·exact⟨q,(xw et).mpr (.inr h1),h2⟩
    ·rintro⟨q,h1,h2⟩;rcases(xw et).mp h1 with rfl |h1
     ·rw[top]at h2;exact .inl (bh.mp h2)
     ·exact .inr ⟨q,h1,h2⟩
  ·-- the other has it
   have pz:pL f g b'=2:=by unfold pL;rw[if_pos gz]
   have ex:rb t (g b') (ps.map (Pl.ev B g))= .nd t.1 (ps.map (Pl.ev B g)):=by rw[gz];rfl
   rw[pz,ex];show Up B (t.2.2.aD (ps.map (Pl.ev B (pL f g)))) q'↔_;rw[vF ti _ _ sR (fR _)];have below:u_ B t.2.2 (ps.map (Pl.ev B (pL f g))) q'↔ ∃q,u_ B t.2.1 (ps.map (Pl.ev B f)) q∧q'∈(Tr.nd t.1 (ps.map (Pl.ev B g))).lou B q:=by
    constructor
    ·rintro⟨b,i,u,r,h1,h2,h3,rfl⟩;obtain⟨p,ep,rfl⟩:=zj (p:= .nd 0 0 h []) h2;obtain⟨q,k1,k2⟩:=(ih p (aJ ep) r).mp h3;obtain⟨e',he'⟩:=c.bl_ex ht (i:=i) (by rw[←hl];exact(b8.mp ep).1);exact⟨e'++q,⟨e',i,_,q,he',at' f ep,k1,rfl⟩,(c.lou_tit ht he' (at' g ep)).mpr ⟨b,r,h1,k2,rfl⟩⟩
    ·rintro⟨q,hq,h2⟩;obtain⟨e',i,p,r,h1,ep,h3,rfl⟩:=lower q hq;obtain⟨b,r',k1,k2,rfl⟩:=(c.lou_tit ht h1 (at' g ep)).mp h2;exact⟨b,i,_,r',k1,at' _ ep,(ih p (aJ ep) r').mpr ⟨r,h3,k2⟩,rfl⟩
   rw[below];obtain fz |fz:=fz
   ·rw[fz];show _↔ ∃q,Up B (t.2.1.aD (ps.map (Pl.ev B f))) q∧_;constructor
    ·rintro⟨q,h1,h2⟩;exact⟨q,(vF ti _ _ sL (fL _)).mpr h1,h2⟩
    ·rintro⟨q,h1,h2⟩;exact⟨q,(vF ti _ _ sL (fL _)).mp h1,h2⟩
   ·rw[fz];show _↔ ∃q,Up B (.nd t.1 (ps.map (Pl.ev B f))) q∧_;constructor
    ·rintro⟨q,h1,h2⟩;exact⟨q,(xw et).mpr (.inr h1),h2⟩
    ·rintro⟨q,h1,h2⟩;rcases(xw et).mp h1 with rfl |h1
     ·exact absurd h2 (c.lou_top ht)
     ·exact⟨q,h1,h2⟩
def mZ.up_res (c:mZ w0 w1 w2 w3 w4 w5 tt B) (hs:Wy [w0,w1,w2,w3,w4,w5] B s) (hx:Wy [w0,w1,w2,w3,w4,w5] B x) (e:ak B s=ak B x) (q':List Int):Up B (res B s x) q'↔ ∃q,Up B s q∧q'∈x.lou B q:=by
 obtain⟨p,hp,rfl,rfl,_⟩:=FT c.K hs hx e;have m:=BN (c:=nI 1) (d:=nI 2) c.K.b c.K.O.mt (zk (td 1) (td 2)) hp;rw[m.res];refine c.up_ev (λz z0 z1=>?_) hp q';obtain h |h:=zk (td 1) (td 2) z z0 z1
 ·exact h
 ·have:=td 1 z;lia
theorem JH{α:Type}{P Q R:α→Bool}:∀(l:List α),(∀x,P x=true→R x=true∧Q x=false)→(∀x,Q x=true→R x=true)→(l.filter P).length+(l.filter Q).length≤(l.filter R).length
 | [],_,_=>by simp
 |x::l,h1,h2=>by
  have:=JH l h1 h2;have a:=h1 x;have b:=h2 x;cases ep:P x<;>cases eq:Q x<;>cases er:R x<;>simp [eP,ep,eq,er]at a b⊢ <;>lia
def Au (h:m9 B s=none):(Tr.nd s ts).ne B=ow B ts:=by rw[Tr.ne,h];simp
def Dj (h:m9 B s=aa t):(Tr.nd s ts).ne B=1+ow B ts:=by rw[Tr.ne,h]
mutual
theorem xN (hR:∀t∈B,t.2.2.bls.length≤7):∀(x:Tr) (q:List Int),(x.lou B q).length≤7 ^ x.ne B
 | .bl n,q=>by rw[Tr.lou];exact aP _
 | .nd s ts,q=>by
  cases e:m9 B s with
  |some t=>
   have ht:t∈B:=bX e;rw[yz e,Dj e];have h1:=HZ hR t ts 0 q;have h2:(t.2.2.bls.filter λz=>decide (((0:Nat):Int)≤z.2.num)).length≤7:=aY (gq _ _) (hR t ht);rw[gm,Nat.pow_one];exact aY h1 (dQ _ h2)
  |none=>
   rw[Au e,Tr.lou.eq_def];dsimp only;rw[e];cases q with
   |nil=>exact lN _ _ (by decide)
   |cons i q=>
    dsimp only;rw[ay];exact LM hR ts i.toNat q
theorem HZ (hR:∀t∈B,t.2.2.bls.length≤7):∀(t:Tn) (xs:List Tr) (i:Nat) (q:List Int),(rg B t i xs q).length≤(t.2.2.bls.filter λz=>decide ((i:Int)≤z.2.num)).length*7 ^ ow B xs
 |t,[],i,q=>by rw[rg];exact aP _
 |t,x::xs,i,q=>by
  have h1:=HZ hR t xs (i+1) q;have h3:∀r,(x.lou B r).length≤7 ^ ow B (x::xs):=λr=>aY (xN hR x r) (dg (by decide) (by rw[ow];lia));have h4:7 ^ ow B xs≤7 ^ ow B (x::xs):=dg (by decide) (by rw[ow];lia);have hs:=JH (P:=λz:List Int×Tr=>z.2.num == (i:Int)) (Q:=λz=>decide (((i+1:Nat):Int)≤z.2.num)) (R:=λz=>decide ((i:Int)≤z.2.num)) t.2.2.bls (λz hz=>by
   rw[beq_iff_eq]at hz;exact⟨decide_eq_true (by lia),decide_eq_false (by lia)⟩) λz hz=>decide_eq_true (by have:=of_decide_eq_true hz;lia)
  have h5:∀(bs:List (List Int)) (l:List (List Int)),l.length≤7 ^ ow B (x::xs)→(bs.flatMap λb=>l.map (b++ ·)).length≤bs.length*7 ^ ow B (x::xs):=λbs l hl=>by
   induction bs with
   |nil=>simp
   |cons b bs ih=>
    rw[cC,bc,ay,aU,cg];lia
  have h6:(rg B t (i+1) xs q).length≤(t.2.2.bls.filter λz=>decide (((i+1:Nat):Int)≤z.2.num)).length*7 ^ ow B (x::xs):=aY h1 (fP _ h4);have h7:(qC t.2.2 i).length=(t.2.2.bls.filter λz=>z.2.num == (i:Int)).length:=by unfold qC;rw[ay]
  have h8:=dQ (7 ^ ow B (x::xs)) hs;rw[cg]at h8;rw[rg,bc];have h9:(match(t.2.1.bls.map λz:List Int×Tr=>z.1)[i]? with
   |some e=>if q.take e.length=e then(qC t.2.2 i).flatMap λb=>(x.lou B (q.drop e.length)).map (b++ ·) else []
   |none=>[]).length≤(qC t.2.2 i).length*7 ^ ow B (x::xs):=by
   split
   ·split
    ·exact h5 _ _ (h3 _)
    ·exact aP _
   ·exact aP _
  rw[h7]at h9;exact aY (Nat.add_le_add h9 h6) h8
theorem LM (hR:∀t∈B,t.2.2.bls.length≤7):∀(xs:List Tr) (i:Nat) (q:List Int),(ua B i xs q).length≤7 ^ ow B xs
 | [],i,q=>by rw[ua];exact aP _
 |x::xs,0,q=>by
  rw[ua];exact aY (xN hR x q) (dg (by decide) (by rw[ow];lia))
 |x::xs,i+1,q=>by
  rw[ua];exact aY (LM hR xs i q) (dg (by decide) (by rw[ow];lia))
end
def qh (B:List Tn):List Tr→List (List Int)→List (List Int)
 | [],ps=>ps
 |x::xs,ps=>qh B xs (ps.flatMap (x.lou B))
theorem F6{f:List Int→List (List Int)}:∀(ps:List (List Int)),(∀p∈ps,(f p).length≤k)→(ps.flatMap f).length≤ps.length*k
 | [],h=>by simp
 |p::ps,h=>by
  have h1:=h p aK;have h2:=F6 ps λq hq=>h q (aI _ hq);rw[cC,bc,aU,cg];lia
theorem mZ.dn_mem (c:mZ w0 w1 w2 w3 w4 w5 tt B):∀(xs:List Tr) {t s:Tr}{ps:List (List Int)},nN [w0,w1,w2,w3,w4,w5] B t xs→Wy [w0,w1,w2,w3,w4,w5] B s→ak B s=t→(∀q,q∈ps↔Up B s q)→ ∀q,q∈qh B xs ps↔Up B (qJ B s xs) q
 | [],t,s,ps,_,_,_,h,q=>h q
 |x::xs,t,s,ps,⟨x1,x2,x3⟩,hs,es,h,q=>by
  have m:=c.K.moved hs x1 (by rw[es,x2]);refine mZ.dn_mem c xs x3 m.wy m.sr (λq'=>?_) q;rw[c.up_res hs x1 (by rw[es,x2]),dZ];constructor
  ·rintro⟨r,h1,h2⟩;exact⟨r,(h r).mp h1,h2⟩
  ·rintro⟨r,h1,h2⟩;exact⟨r,(h r).mpr h1,h2⟩
def mZ.no_up (c:mZ w0 w1 w2 w3 w4 w5 tt B) (u:Up B x q):x.hd ov→False:=by
 induction u with
 |here e=>intro h;rw[Tr.hd]at h;rw[qg c.K.b.ti h.1]at e;cases e
 |sgn e hx _ ih=>intro h;rw[Tr.hd,mW]at h;exact ih (h.2 _ (aJ hx))
 |tit e _ _ _ ih=>intro h;rw[Tr.hd]at h;rw[qg c.K.b.ti h.1]at e;cases e
theorem mZ.up_hd (c:mZ w0 w1 w2 w3 w4 w5 tt B):∀(n:Nat) {x:Tr},x.aq≤n→Wy [w0,w1,w2,w3,w4,w5] B x→(∀q,¬Up B x q)→x.hd ov
 |0,x,hn,hx,h=>by have:=rT x;lia
 |n+1,x,hn,hx,h=>by
  obtain ⟨s,ts,rfl,hh,e,k⟩ |⟨t,ts,ht,rfl,e,hl,k⟩:=Wy.cases c.K.b hx
  ·rw[Tr.aq]at hn;rw[Tr.hd,mW];refine⟨c.K.b.sg s hh,λy hy=>mZ.up_hd c n (by have:=pe hy;lia) (k y hy) λq u=>?_⟩;obtain⟨i,hi,ei⟩:=fh hy;exact h _ (.sgn e (by rw[aS hi,ei]) u)
  ·exact absurd (.here e) (h [])
def mZ.up_quiet (c:mZ w0 w1 w2 w3 w4 w5 tt B) (hx:Wy [w0,w1,w2,w3,w4,w5] B x):x.dP=true↔ ∀q,¬Up B x q:=
 ⟨λh q u=>c.no_up u (xn x h),λh=>Ed x (c.up_hd _ (aA _) hx h)⟩
theorem Ou.up{w0 w1 w2 w3 w4 w5:ah}{tt:List ah}{B:List Tn}(c:mZ w0 w1 w2 w3 w4 w5 tt B) (et:m9 B t.1=aa t) (hu:∀u∈us,Sh [w0,w1,w2,w3,w4,w5] B u):∀(q:List Int) {X v:Tr},Sh [w0,w1,w2,w3,w4,w5] B X→X.at q=aa v→ ∀q',Up B (X.bR q (.nd t.1 us)) q'↔q'=q
 | [],X,v,hX,e,q'=>by
  rw[tq,xw et];constructor
  ·rintro(h |⟨e',i,u,r,_,h2,h3,_⟩)
   ·exact h
   ·exact(c.no_up h3 ((hu u (aJ h2)).sig c.K)).elim
  ·exact .inl
 |i::q, .bl n,v,hX,e,q'=>by cases e
 |i::q, .nd s ts,v,hX,e,q'=>by
  obtain⟨w,h0,h1,h2⟩:=pR e;obtain⟨i,rfl⟩:∃i':Nat,i=i':=⟨i.toNat,by lia⟩
  rw[bb]at h1;obtain⟨s',ts',e1,_,e2,k⟩:=hX.cases c.K;cases e1;rw[tI (by rw[bb];exact h1),bb,zT e2];have hi:=(b8.mp h1).1;constructor
  ·rintro⟨j,x,r,g1,g2,rfl⟩;by_cases ij:i=j
   ·subst ij;rw[gy hi]at g1;cases g1;rw[(Ou.up c et hu q (k w (aJ h1)) h2 r).mp g2]
   ·rw[iZ ij]at g1;exact(c.no_up g2 ((k x (aJ g1)).sig c.K)).elim
  ·rintro rfl;exact⟨i,_,q,gy hi,(Ou.up c et hu q (k w (aJ h1)) h2 q).mpr rfl,rfl⟩
def mZ.done (c:mZ w0 w1 w2 w3 w4 w5 tt B) (hX:Sh [w0,w1,w2,w3,w4,w5] B X) (o:Ou [w0,w1,w2,w3,w4,w5] B X q t us) (hr:nN [w0,w1,w2,w3,w4,w5] B X xs) (hw:Wy [w0,w1,w2,w3,w4,w5] B (qJ B (wyO X q t us) xs)):qh B xs [q]=[]↔(qJ B (wyO X q t us) xs).dP=true:=by
 have h:=c.dn_mem xs (ps:=[q]) hr (o.wy c.K hX) (o.ak c.K hX) λq'=>by
  rw[bh];exact(Ou.up c (o.tt c.K) o.sh q hX o.hat q').symm
 rw[c.up_quiet hw];constructor
 ·intro e q' u;have:=(h q').mpr u;rw[e]at this;cases this
 ·intro e;cases d:qh B xs [q]with
  |nil=>rfl
  |cons p ps=>exact absurd ((h p).mp (by rw[d];exact aK)) (e p)
theorem mZ.lou_at (c:mZ w0 w1 w2 w3 w4 w5 tt B):∀(n:Nat) {x:Tr}{q q':List Int}{v:Tr},x.aq≤n→Wy [w0,w1,w2,w3,w4,w5] B x→(ak B x).at q=aa v→q'∈x.lou B q→ ∃v',(b7 B x).at q'=aa v'
 |0,x,q,q',v,hn,hx,hv,h=>by have:=rT x;lia
 |n+1,x,q,q',v,hn,hx,hv,h=>by
  obtain ⟨s,ts,rfl,hh,e,k⟩ |⟨t,ts,ht,rfl,e,hl,k⟩:=Wy.cases c.K.b hx
  ·rw[Tr.aq]at hn;have es:ak B (.nd s ts)= .nd s (ts.map (ak B)):=by rw[ak,qb e]
   have eg:b7 B (.nd s ts)= .nd s (ts.map (b7 B)):=by rw[b7,qb e]
   cases q with
   |nil=>
    rw[Cd e]at h;rw[bh.mp h];exact⟨_,pk _⟩
   |cons i q=>
    rw[es]at hv;obtain⟨w,h0,h1,h2⟩:=pR hv;obtain⟨i,rfl⟩:∃i':Nat,i=i':=⟨i.toNat,by lia⟩
    rw[bb,aV]at h1;cases ei:ts[i]? with
    |none=>rw[ei]at h1;cases h1
    |some y=>
     rw[ei]at h1;cases h1;rw[v9 e ei]at h;obtain⟨r,hr,rfl⟩:=aT.mp h;have hy:=aJ ei;obtain⟨v',g⟩:=mZ.lou_at c n (by have:=pe hy;lia) (k y hy) h2 hr;exact⟨v',by rw[eg,r8 (show(ts.map (b7 B))[i]? =aa (b7 B y) by rw[aV,ei];rfl)];exact g⟩
  ·rw[Tr.aq]at hn;have es:ak B (.nd t.1 ts)=t.2.1.aD (ts.map (ak B)):=by rw[ak,p6 e]
   have eg:b7 B (.nd t.1 ts)=t.2.2.aD (ts.map (b7 B)):=by rw[b7,p6 e]
   rw[yz e,BE]at h;obtain⟨j,y,e',b,r',h1,h2,h3,h4,h5,rfl⟩:=h;rw[bG]at h2 h4;have g:=(c.bl ht).mpr h2;have hq:q=e'++q.drop e'.length:=by
    have:=gM e'.length q;rw[h3]at this;exact this.symm
   have hy:=aJ h1;have a1:(ak B (.nd t.1 ts)).at e'=aa (ak B y):=by
    rw[es,wV e' g (by rw[ay,hl];exact(c.K.b.lf t ht).br),bb,aV,h1];rfl
   have a2:(b7 B (.nd t.1 ts)).at b=aa (b7 B y):=by
    rw[eg,wV b (pT.mp h4) (by rw[ay,hl];exact(c.K.b.ri t ht).br),bb,aV,h1];rfl
   rw[hq,uO e' _ a1]at hv;obtain⟨v',g'⟩:=mZ.lou_at c n (by have:=pe hy;lia) (k y hy) hv h5;exact⟨v',by rw[uO b _ a2];exact g'⟩
mutual
theorem M8:∀t:Tr,t.aq≤1000→t.wd
 | .bl _,_=>trivial
 | .nd s ts,h=>by
  rw[Tr.aq]at h;have:=qH ts;exact⟨by lia,K4 ts (by lia)⟩
theorem K4:∀ts:List Tr,mJ ts≤1000→u9 ts
 | [],_=>trivial
 |t::ts,h=>by
  rw[mJ]at h;exact⟨M8 t (by lia),K4 ts (by lia)⟩
end
def T5 (hw:t.aq≤400) (hd:t.depth≤40) (hr:60≤r) (h:T E D [y0,aa (.bW [j5 t, .ref l1]),y2,y3,y4,y5,y6,y7] S) :
  DH r T E D [y0,aa (.bW [j5 t, .ref l1]),y2,y3,y4,y5,y6,y7] S:=by
 rw[DH];ext;obtain⟨r,rfl⟩:∃r',r=r'+5:=⟨r - 5,by lia⟩
 rw[show r+5=r+4+1 from rfl,sG];ext;refine Dn (r:=r+3) (M8 t (by lia)) ?_;rw[F1 hw hd]
 try ext
 exact⟨_, .refl,h⟩
def xp (B:List Tn):List Tr→List Tr→Prop
 | [],_=>True
 |x::xs,os=>ue B x os∧xp B xs (pG B x os)
section
variable {ws:List ah}{B:List Tn}
theorem Jv (K:Bk3 ws B):∀(os:List Tr) {x t:Tr},Wy ws B x→ak B x=t→nN ws B t os→ue B x os→ ∀u∈pG B x os,(b7 B u).bo=true
 | [],x,t,_,_,_,_,u,hu=>by cases hu
 |o::os,x,t,hx,ex,⟨r1,r2,r3⟩,⟨l1,l2⟩,u,hu=>by
  have m:=K.moved hx r1 (by rw[ex,r2]);rw[pG]at hu;obtain e |e:=az.mp hu
  ·rw[e,←m.go];exact l1
  ·exact Jv K os m.wy m.sr r3 l2 u e
theorem Hx (K:Bk3 ws B):∀(os:List Tr) {x t:Tr},Wy ws B x→ak B x=t→nN ws B t os→t.bo=true→(∀o∈os,(b7 B o).bo=true)→ ∀p∈os.zip (qt B x os),t8 ws B p.1 p.2
 | [],x,t,_,_,_,_,_,p,hp=>by cases hp
 |o::os,x,t,hx,ex,⟨r1,r2,r3⟩,hs,hg,p,hp=>by
  have cl:t8 ws B x o:=⟨K,hx,r1,by rw[ex,r2],by rw[r2];exact hs⟩
  have m:=K.moved hx r1 cl.e;rw[qt,gC]at hp;obtain rfl |hp:=az.mp hp
  ·exact cl.symm
  ·exact Hx K os m.wy m.sr r3 (hg o aK) (λu hu=>hg u (aI _ hu)) p hp
end
section
variable {ws:List ah}{B:List Tn}{a l1 l2 d o ρ:ai}{r:Nat}{E:WX}{D:mY}{T:WS}{t t':Tr}{xs os:List Tr}{S:lr}{y1 y2 y3 y4 y5 y6 y7:Option W}
def TQ (ha:S a=aa (.bP (B.map mK))) (hl:S ρ=aa (.bP (os.map j5))) (hq:S q=aa (.bP ((qt B x os).map j5))) (hc:∀p∈os.zip (qt B x os),t8 ws B p.1 p.2) (hn:os.length≤800) (hr:63≤r)
  (h:∀ρ',S ρ'=none→T E D [aa (.ref a),y1,y2,y3,aa (.ref ρ'),y5,y6,aa (.ref q)] (bR S ρ' (.bP ((pG B x os).map j5)))) :
  DI r T E D [aa (.ref a),y1,y2,y3,aa (.ref ρ),y5,y6,aa (.ref q)] S:=by
 rw[DI];ext;rw[m8 hl,m8 hq,Ky];refine qf (λσ=>∃u v,σ=[u,v,aa (.ref a)]) (λp:Tr×Tr=> .bW [j5 p.1,j5 p.2]) (λp=>j5 (res B p.1 p.2)) ⟨hl,hq⟩ (os.zip (qt B x os)) [] _ ⟨none,none,rfl⟩ (by rw[List.length_zip,NA];simp;lia) (λp hp σ R hI hR=>?_) ?_
 ·obtain⟨u,v,rfl⟩:=hI;have h2:=hc p hp;rw[FU];show nQ (mx 0) (nQ (mx 1) o6) [j5 p.1,j5 p.2] _ S _;rw[yJ];show mx 0 _ _ _ _;rw[rp,yJ];show mx 1 _ _ _ _;rw[rp,Fk,OB];show mG _ _ _ [aa (j5 p.1),aa (j5 p.2),aa (.ref a)] _ _;ext;obtain⟨r,rfl⟩:∃r',r=r'+1:=⟨r - 1,by lia⟩
  exact h2.ok_move ha (by lia) (hR _ _ ⟨_,_,rfl⟩ .refl)
 ·intro ρ' hρ;have:=h ρ' hρ;rw[←Oi,bu]at this;exact this
theorem Ku{G:lr→Prop}(K:Bk3 ws B) (ha:S0 a=aa (.bP (B.map mK))) (hd0:S0 d=none) (ho0:S0 o=none) (hdo:d≠o) (hG:∀S,Sub S0 S→G S) (hr:66≤r):∀(xs:List Tr) {os:List Tr}{t:Tr},nN ws B t xs→nN ws B t os→t.bo=true→(∀x∈xs,(b7 B x).bo=true)→(∀x∈os,(b7 B x).bo=true)→ ∀{S:lr}{ρ:ai}{ds rs:List ai}{Ds Rs:List (List Tr)}{y1 y2 y6 y7:Option W},os.length≤800→ds.length+xs.length≤800→rs.length+xs.length≤800→Sub S0 S→S d=aa (.bP (ds.map W.ref))→S o=aa (.bP (rs.map W.ref++[.ref ρ]))→vy S0 S d o ds Ds→vy S0 S d o rs Rs→At S0 S d o ρ os→
  (xp B xs os→ ∀S' ds' rs' y4 y6 y7,Sub S0 S'→S' d=aa (.bP (ds'.map W.ref))→S' o=aa (.bP (rs'.map W.ref))→vy S0 S' d o ds' (Ds++vI B xs os)→vy S0 S' d o rs' (Rs++yI B xs os)→D.nx [aa (.ref a),y1,y2,aa (.ref d),y4,aa (.ref o),y6,y7] S')→(¬xp B xs os→ ∀σ S',Sub S0 S'→E "TooGreat" σ S')→
  mO (mx 6) (ES r mH) E D G (xs.map j5) [aa (.ref a),y1,y2,aa (.ref d),aa (.ref ρ),aa (.ref o),y6,y7] S
 | [],os,t,u1,u2,u3,u4,u5=>by
  rename_i S ρ ds rs Ds Rs y1 y2 y6 y7;intro _ _ _ sb hd ho AD AR Aρ h _;refine h trivial S ds (rs++[ρ]) _ _ _ sb hd ?_ ?_ ?_
  ·rw[ho,bK];rfl
  ·rw[vI,bg];exact AD
  ·rw[yI];exact ED AR Aρ
 |x::xs,os,t,⟨x1,x2,x3⟩,hRo,hs,gx,go=>by
  rename_i S ρ ds rs Ds Rs y1 y2 y6 y7;intro n1 n2 n3 sb hd ho AD AR Aρ h hE;rw[aU]at n2 n3;rw[aC];refine pU λN hN=>?_;rw[rp,ES];rw[GK];ext;obtain⟨r',er⟩:∃r',r=r'+1:=⟨r - 1,by lia⟩
  have er2:xJ r=xJ (r'+1):=by rw[er]
  rw[er2];refine SE K (sb _ _ ha) Aρ.e x1 x2 hRo hs go n1 (by lia) (λlk S1 q s1 hq0 hq=>?_) λnk S1 s1=>hE (λgk=>nk gk.1) _ _ (sb.trans s1);refine TQ (s1 _ _ (sb _ _ ha)) (s1 _ _ Aρ.e) hq (Hx K os x1 x2 hRo hs go) n1 (by lia) λρ' hρ=>?_;have s2:Sub S (bR S1 ρ' (.bP ((pG B x os).map j5))):=s1.trans (.bR .refl hρ);have qd:q≠d:=by rintro rfl;rw[hd]at hq0;cases hq0
  have qo:q≠o:=by rintro rfl;rw[ho]at hq0;cases hq0
  have ρd:ρ'≠d:=by rintro rfl;rw[s1 _ _ hd]at hρ;cases hρ
  have ρo:ρ'≠o:=by rintro rfl;rw[s1 _ _ ho]at hρ;cases hρ
  have Aq:At S0 (bR S1 ρ' (.bP ((pG B x os).map j5))) d o q (qt B x os):=⟨qd,qo,keep hq hρ,AZ sb hq0⟩;have Aρ':At S0 (bR S1 ρ' (.bP ((pG B x os).map j5))) d o ρ' (pG B x os):=⟨ρd,ρo,mR,AZ (sb.trans s1) hρ⟩;have AD':=u0 (λ_ _ z=>At.sub z s2) AD;have AR':=u0 (λ_ _ z=>At.sub z s2) AR;have A0:=Aρ.sub s2;have hd2:=s2 _ _ hd;have ho2:=s2 _ _ ho;have sb2:=sb.trans s2;generalize bR S1 ρ' (.bP ((pG B x os).map j5))=S2 at Aq Aρ' AD' AR' A0 hd2 ho2 sb2⊢;have ld:(ds.map W.ref).length≤1000:=by rw[ay];lia
  have lo:(rs.map W.ref++[W.ref ρ]).length≤1000:=by rw[bc,ay,cB];lia
  refine PN hd2 ld ?_;refine Xz (vs:=rs.map W.ref++[.ref ρ]) (by rw[nO hdo.symm];exact ho2) lo ?_;have sb3:Sub S0 (bR (bR S2 d (.bP (ds.map W.ref++[.ref q]))) o (.bP (rs.map W.ref++[.ref ρ]++[.ref ρ']))):= .bR (.bR sb2 hd0) ho0;refine hN _ _ _ .refl (hG _ sb3) (Ku K ha hd0 ho0 hdo hG hr xs (ds:=ds++[q]) (rs:=rs++[ρ]) (Ds:=Ds++[qt B x os]) (Rs:=Rs++[os]) x3 (uW K os x1 x2 hRo).1 (gx x aK) (λu hu=>gx u (aI _ hu)) (Jv K os x1 x2 hRo lk) (by rw[Ic];exact n1) (by rw[bc,cB];lia) (by rw[bc,cB];lia) sb3 ?_ ?_ ?_ ?_ Aρ'.pd.po (λgk S' ds' rs' z4 z6 z7 s' h1 h2 h3 h4=>?_) λng=>hE λgk=>ng gk.2)
  ·rw[nO hdo,mR,bK];rfl
  ·rw[mR,bK];rfl
  ·exact ED (u0 (λ_ _ z=>At.po (At.pd z)) AD') Aq.pd.po
  ·exact ED (u0 (λ_ _ z=>At.po (At.pd z)) AR') A0.pd.po
  ·refine h ⟨lk,gk⟩ S' ds' rs' z4 z6 z7 s' h1 h2 ?_ ?_
   ·rw[vI];rw[bD]at h3;exact h3
   ·rw[yI];rw[bD]at h4;exact h4
structure ph (B:List Tn) (xs os:List Tr):Prop where
  gx:∀x∈xs,(b7 B x).bo=true
  go:∀x∈os,(b7 B x).bo=true
  ok:xp B xs os
def My{X:ah→lr→Prop}(K:Bk3 ws B) (ha:S a=aa (.bP (B.map mK))) (h1:S l1=aa (.bP (xs.map j5))) (h2:S l2=aa (.bP (os.map j5))) (hx:nN ws B t xs) (ho:nN ws B t' os) (hs:t.bo=true) (nx:xs.length≤700) (no:os.length≤700) (hr:70≤r)
  (hA:t≠t'→X "Apart" S) (hX:t=t'→ ¬ph B xs os→ ∀S',Sub S S'→X "TooGreat" S')
  (h:t=t'→ph B xs os→ ∀S' d o,P8 S S' B xs os d o→Q (.bW [.ref d, .ref o]) S'):zN (r+1) [.ref a, .bW [j5 t, .ref l1], .bW [j5 t', .ref l2]] S Q X:=by
 obtain⟨b1,b2⟩:=qV hs;rw[zN,uB];refine⟨rfl,?_⟩;rw[Mt];ext;rw[xj 60 _ _ (by lia)];cases e:t.same t' with
 |false=>
  try ext
  try rw[CO]
  try ext
  refine⟨m7 (by decide),hA λk=>?_⟩;rw[k,yB]at e;cases e
 |true=>
  have et:t=t':=(Dq _ _).mp e;subst et
  try ext
  refine T5 b1 b2 (by lia) ?_;rw[GD];ext;obtain⟨r',er⟩:∃r',r=r'+2:=⟨r - 2,by lia⟩
  have er2:uL r=uL (r'+2):=by rw[er]
  rw[er2];refine DT K ha h1 hx hs (by lia) (λgx=>?_) λ⟨u,hu,eu⟩=>hX rfl (λg=>by have:=g.gx u hu;rw[eu]at this;cases this) _ .refl
  rw[Nn];ext;rw[er2];refine DT K ha h2 ho hs (by lia) (λgo=>?_) λ⟨u,hu,eu⟩=>hX rfl (λg=>by have:=g.go u hu;rw[eu]at this;cases this) _ .refl
  refine Py λd hd=>XT (keep h2 hd) λρ hρ=>Yw λo h0=>?_;have ρd:ρ≠d:=by rintro rfl;rw[mR]at hρ;cases hρ
  have od:o≠d:=by rintro rfl;rw[nO ρd.symm,mR]at h0;cases h0
  have oρ:o≠ρ:=by rintro rfl;rw[mR]at h0;cases h0
  have oS:S o=none:=by rw[nO oρ,nO od]at h0;exact h0
  have sb:Sub S (bR (bR (bR S d (.bP [])) ρ (.bP (os.map j5))) o (.bP [.ref ρ])):=(Sub.bR .refl hd).trans ((Sub.bR .refl hρ).trans (.bR .refl h0));rw[LR];ext;show n9 _ l1 _;rw[m8 (sb _ _ h1)];refine Ku K ha hd oS od.symm (λS' s'=>s' _ _ h1) (by lia) xs (ds:=[]) (rs:=[]) (Ds:=[]) (Rs:=[]) hx ho hs gx go (by lia) (by simp;lia) (by simp;lia) sb ?_ mR .nil .nil ⟨ρd,oρ.symm,?_,by rw[nO ρd]at hρ;exact hρ⟩ (λgk S' ds rs y4 y6 y7 s' g1 g2 g3 g4=>?_) λng σ S' s'=>hX rfl (λg=>ng g.ok) _ s'
  ·rw[nO od.symm,nO ρd.symm,mR];rfl
  ·rw[nO oρ.symm,mR]
  ·rw[HM];ext;exact⟨by decide,_, .refl,h rfl ⟨gx,go,gk⟩ S' d o ⟨s',hd,oS,od.symm,ds,rs,g1,g2,g3,g4⟩⟩
end
theorem II:∀(os:List Tr) {x:Tr},ue B x os→(b7 B x).bo=true→(b7 B (qJ B x os)).bo=true
 | [],x,_,h=>h
 |o::os,x,⟨l1,l2⟩,h=>II os l2 l1
theorem Jn (K:Bk3 ws B):∀(xs os:List Tr) {t:Tr},nN ws B t xs→nN ws B t os→xp B xs os→(∀x∈xs,(b7 B x).bo=true)→ ∀u∈oE B xs os,(b7 B u).bo=true
 | [],os,t,_,_,_,_,u,hu=>by cases hu
 |x::xs,os,t,⟨x1,x2,x3⟩,ho,⟨g1,g2⟩,gx,u,hu=>by
  rw[oE]at hu;obtain e |e:=az.mp hu
  ·rw[e];exact II os g1 (gx x aK)
  ·exact Jn K xs _ x3 (uW K os x1 x2 ho).1 g2 (λv hv=>gx v (aI _ hv)) u e
theorem Ef:∀(us:List Tr) {t:Tr},nN ws B t us→t.bo=true→(∀x∈us,(b7 B x).bo=true)→ ∀u∈us,Wy ws B u∧(ak B u).bo=true
 | [],t,_,_,_,u,hu=>by cases hu
 |x::us,t,⟨x1,x2,x3⟩,hs,g,u,hu=>by
  obtain e |e:=az.mp hu
  ·rw[e];exact⟨x1,by rw[x2];exact hs⟩
  ·exact Ef us x3 (g x aK) (λv hv=>g v (aI _ hv)) u e
theorem GP:∀(us:List Tr) {t:Tr},t.bo=true→(∀x∈us,(b7 B x).bo=true)→(oo B t us).bo=true
 | [],t,hs,_=>hs
 |x::us,t,hs,g=>GP us (g x aK) λv hv=>g v (aI _ hv)
section
variable {ws:List ah}{B:List Tn}{x t t':Tr}{a l l1 l2:ai}{r:Nat}{xs os:List Tr}{S:lr}{Q:WK}{X:ah→lr→Prop}
def KC (K:Bk3 ws B) (hl:S l=aa (.bP (xs.map j5))) (tx:∀x∈xs,Wy ws B x∧(ak B x).bo=true) (hn:xs.length≤1000) (hr:62≤r) (h:Q (.bl (xs.all Tr.dP)) S):vD (r+1) [.ref l] S Q X:=by
 rw[vD];ext;rw[m8 hl];obtain⟨r,rfl⟩:∃r',r=r'+1:=⟨r - 1,by lia⟩
 refine qf (λσ=>∃y,σ=[y]) j5 (λx=>W.bl x.dP) hl xs [] _ ⟨none,rfl⟩ (by simp;lia) (λx hx σ R hI hR=>?_) ?_
 ·obtain⟨y,rfl⟩:=hI;obtain⟨h1,h2⟩:=tx x hx;obtain⟨d1,w1,_,_⟩:=K.fitw h1 h2;rw[J7];ext;exact L2.Ig 40 d1 (by lia) (h1.len K) (by lia) (hR _ _ ⟨_,rfl⟩ .refl)
 ·rw[aX,Gv];refine⟨_, .refl,?_⟩;rw[fv];exact h
def L8 (K:Bk3 ws B) (ha:S a=aa (.bP (B.map mK))) (hl:S l=aa (.bP (xs.map j5))) (tx:∀x∈xs,Wy ws B x∧(ak B x).bo=true) (gx:∀x∈xs,(b7 B x).bo=true) (hr:64≤r) (h:Q (j5 (oo B t xs)) S):yD (r+1) [.ref a, .bW [j5 t, .ref l]] S Q X:=by
 rw[yD,uB];refine⟨rfl,?_⟩;rw[J_];ext;rw[show nC [j5 t,W.ref l] 1=aa (.ref l) from rfl];ext;rw[m8 hl];obtain rfl |⟨ys,u,rfl⟩:=List.eq_nil_or_concat xs
 ·exact⟨_, .refl,h⟩
 ·rw[List.concat_eq_append]at *;have hne:((ys++[u]).map j5).isEmpty=false:=by simp
  obtain⟨h1,h2⟩:=tx u (by simp);have h3:=gx u (by simp);rw[Hn]at h
  try rw[hne]
  rw[if_neg (by decide),Lb];ext;rw[show nC [j5 t,W.ref l] 1=aa (.ref l) from rfl];ext;rw[bK]at hl;rw[m8 hl,show [u].map j5=[j5 u] from rfl,B'];obtain⟨r,rfl⟩:∃r',r=r'+1:=⟨r - 1,by lia⟩
  exact K.ok_goalX h1 h2 ha (by lia) (λ_=>⟨_, .refl,h⟩) λz=>by rw[h3]at z;cases z
def XL (K:Bk3 ws B) (ha:S a=aa (.bP (B.map mK))) (h1:S l1=aa (.bP (xs.map j5))) (h2:S l2=aa (.bP (os.map j5))) (hx:nN ws B t xs) (ho:nN ws B t' os) (hs:t.bo=true) (nx:xs.length≤700) (no:os.length≤700) (hr:75≤r)
  (hA:t≠t'→X "Apart" S) (hX:t=t'→ ¬ph B xs os→ ∀S',Sub S S'→X "TooGreat" S')
  (h:t=t'→ph B xs os→ ∀S',Sub S S'→Q (.bl ((oE B xs os).all Tr.dP)) S'):BI (r+1) [.ref a, .bW [j5 t, .ref l1], .bW [j5 t', .ref l2]] S Q X:=by
 obtain⟨r,rfl⟩:∃r',r=r'+1:=⟨r - 1,by lia⟩
 rw[BI];ext;refine My K ha h1 h2 hx ho hs nx no (by lia) hA hX λet gg S1 d o g=>?_;subst et;obtain⟨ds,rs,g1,g2,g3,g4⟩:=g.ex;refine HB g1 nx g3 λq hq=>?_;refine KC K mR (Ef _ (zO K xs os hx ho) (GP os hs gg.go) (Jn K xs os hx ho gg.ok gg.gx)) (by rw[Cr];lia) (by lia) ?_;exact⟨_, .refl,h rfl gg _ (g.sub.trans (.bR .refl hq))⟩
def Vz (K:Bk3 ws B) (ha:S a=aa (.bP (B.map mK))) (h1:S l1=aa (.bP (xs.map j5))) (h2:S l2=aa (.bP (os.map j5))) (hx:nN ws B t xs) (ho:nN ws B t' os) (hs:t.bo=true) (nx:xs.length≤700) (no:os.length≤700) (hr:75≤r)
  (hA:t≠t'→X "Apart" S) (hX:t=t'→ ¬ph B xs os→ ∀S',Sub S S'→X "TooGreat" S')
  (h:t=t'→ph B xs os→ ∀S' q,Sub S S'→S q=none→S' q=aa (.bP ((oE B xs os).map j5))→Q (.bW [j5 (oo B t os), .ref q]) S'):A7 (r+1) [.ref a, .bW [j5 t, .ref l1], .bW [j5 t', .ref l2]] S Q X:=by
 obtain⟨r,rfl⟩:∃r',r=r'+1:=⟨r - 1,by lia⟩
 rw[A7,uB];refine⟨rfl,?_⟩;rw[Gs];ext;refine My K ha h1 h2 hx ho hs nx no (by lia) hA hX λet gg S1 d o g=>?_;subst et;obtain⟨ds,rs,g1,g2,g3,g4⟩:=g.ex;refine HB g1 nx g3 λq hq=>?_;have sb:Sub S (bR S1 q (.bP ((oE B xs os).map j5))):=g.sub.trans (.bR .refl hq);have q0:S q=none:=AZ g.sub hq;have fq:bR S1 q (.bP ((oE B xs os).map j5)) q=aa (.bP ((oE B xs os).map j5)):=mR;generalize bR S1 q (.bP ((oE B xs os).map j5))=S2 at sb fq⊢;rw[LI];ext;refine L8 K (sb _ _ ha) (sb _ _ h2) (Ef os ho hs gg.go) gg.go (by lia) ?_;exact⟨by decide,_, .refl,h rfl gg _ q sb q0 fq⟩
end
section
variable {B:List Tn}{S:lr}{Q:WK}{E:ah→lr→Prop}{a:ai}{r:Nat}
def UI (hr:R.depth+6≤r) (hw:R.aq≤1000) (h:∀a,S a=none→Q (.ref a) (bR S a (.bP ((qC R i).map mB)))):Av (r+1) [j5 R, .int i] S Q E:=by
 obtain⟨r,rfl⟩:∃r',r=r'+3:=⟨r - 3,by lia⟩
 rw[Av];ext;refine Et (by lia) (by lia) λb hb=>?_;ext;have hl:=yA R;refine CK (λσ=>∃x,σ=[x,aa (.int i),aa (j5 R)]) (λx:List Int×Tr=>mB x.1) (λx=>mB x.1) (λx=>x.2.num == (i:Int)) mR R.bls [] _ ⟨none,rfl⟩ (by simp;lia) (λx hx σ R1 R0 hI h1 h0=>?_) ?_
 ·obtain⟨y,rfl⟩:=hI;obtain⟨g1,g2,_⟩:=xO hx;ext;refine GI g1 ?_;rw[g2];simp only[j5];ext;cases e:(x.2.num == (i:Int)) with
  |true=>
   have g3:(Tr.bl x.2.num).num=x.2.num:=rfl
   try simp only[if_true]
   rw[M0]
   try ext
   exact h1 e _ _ ⟨_,rfl⟩ .refl
  |false=>
   try simp only[cF,if_false]
   exact h0 e _ _ ⟨_,rfl⟩ .refl
 ·rw[aX];intro c hc;obtain⟨hb1,hb2⟩:=qU hc;have:=h c hb1;unfold qC at this;rw[bu]at this;exact⟨_, .put2 (.bR .refl hb),this⟩
def vq (B:List Tn) (a:ai) (x:Tr) (c:mI):Prop:=∀{S:lr}{Q:WK}{E:ah→lr→Prop}{q:List Int}{v:Tr},S a=aa (.bP (B.map mK))→(ak B x).at q=aa v→q.length≤1000→(∀f,S f=none→Q (.ref f) (bR S f (.bP ((x.lou B q).map mB))))→c [.ref a,j5 x,mB q] S Q E
theorem Jf{f g:ai}{l:List (List Int)}{EX:WX}{D:mY}{G:lr→Prop}{S1:lr}{y0 y1 y2 y3 y5 y6:Option W}(hg:S1 g=aa (.bP (l.map mB))) (hf:S1 f=none) (hG:∀o,G (bR S1 f o)) (hl:∀p∈l,p.length≤1000):∀(bs:List (List Int)) {L:List (List Int)}{y8:Option W},(∀b∈bs,b.length≤1000)→L.length+bs.length*l.length≤900000→
  (∀z8,D.nx [y0,y1,y2,y3,aa (.ref f),y5,y6,aa (.ref g),z8] (bR S1 f (.bP ((L++bs.flatMap λb=>l.map (b++ ·)).map mB))))→
  mO (mx 8) (Ew r mH) EX D G (bs.map mB) [y0,y1,y2,y3,aa (.ref f),y5,y6,aa (.ref g),y8] (bR S1 f (.bP (L.map mB)))
 | [],L,y8,_,hn,h=>by
  have:=h y8;rw[cZ,bg]at this;exact this
 |b::bs,L,y8,hb,hn,h=>by
  rw[aU,cg,c5]at hn;have fg:f≠g:=by rintro rfl;rw[hg]at hf;cases hf
  have hg':∀o,bR S1 f o g=aa (.bP (l.map mB)):=λo=>by rw[nO (bz fg)];exact hg
  rw[aC];refine pU λN hN=>?_;rw[rp,Ew];ext;rw[m8 (hg' _)];refine qf (λσ=>∃z,σ=[z,aa (mB b)]) mB (λp=>mB (b++p)) (hg' _) l [] _ ⟨none,rfl⟩ (by simp;lia) (λp hp σ R hI hR=>?_) ?_
  ·obtain⟨z,rfl⟩:=hI;rw[rp,KN];ext;have h1:=hb b aK;have h2:=hl p hp;unfold mB;ext;have:=hR _ _ ⟨aa (mB p),rfl⟩ .refl;unfold mB at this;rw[bK]at this;exact⟨m7 (by simp;lia),this⟩
  ·rw[aX]
   try ext
   have e1:L.map mB++l.map (λp=>mB (b++p))=(L++l.map (b++ ·)).map mB:=by rw[bK,bu];rfl
   rw[e1];refine⟨m7 (by simp;lia),hN _ _ _ .refl (hG _) ?_⟩;refine Jf hg hf hG hl bs (λc hc=>hb c (aI _ hc)) (by rw[bc,ay];lia) λz8=>?_;have:=h z8;rw[cC,←bD]at this;exact this
def BJ (h:a≠b):bR (bR S a o) b o'=bR (bR S b o') a o:=by
 funext c;unfold bR;by_cases h1:c=b
 ·subst h1;rw[if_pos rfl,if_neg (bz h),if_pos rfl]
 ·rw[if_neg h1];by_cases h2:c=a
  ·rw[if_pos h2,if_pos h2]
  ·rw[if_neg h2,if_neg h2,if_neg h1]
def Kh{s:ah}{ts:List Tr}{i:Nat}{x:Tr}(h:ts[i]? =aa x):nC (W.str s::af ts) ((i:Int)+1)=aa (j5 x):=by
 rw[show((i:Int)+1)=((i+1:Nat):Int) by lia]
 refine GL ?_;rw[bU,o5,aV,h];rfl
def Tx{s:ah}{ts:List Tr}{i:Nat}{x:Tr}(h:ts[i]? =aa x) (q:Q (j5 x) S):mE (j5 (.nd s ts)) (.int ((i:Int)+1)) S Q:=by
 rw[show j5 (.nd s ts)= .bW (.str s::af ts) by simp [j5],Cq,Kh h]
 exact q
def Ui (q:Q (j5 t.2.2) S):mE (mK t) (.int 2) S Q:=by
 unfold mK;rw[Cq,show nC [W.str t.1,j5 t.2.1,j5 t.2.2] 2=aa (j5 t.2.2) from rfl];exact q
def X4 (q:Q (j5 t.2.1) S):mE (mK t) (.int 1) S Q:=by
 unfold mK;rw[Cq,show nC [W.str t.1,j5 t.2.1,j5 t.2.2] 1=aa (j5 t.2.1) from rfl];exact q
def wJ (B:List Tn) (t:Tn) (i:Nat) (x:Tr) (e q:List Int):List (List Int):=if q.take e.length=e then(qC t.2.2 i).flatMap λb=>(x.lou B (q.drop e.length)).map (b++ ·) else []
def WP{t:Tn}{ts:List Tr}{x:Tr}{cT:mI}{i:Nat}{e q:List Int}{f:ai}{L:List (List Int)}{EX:WX}{D:mY}{S1:lr}{y7 y8:Option W}(hx:ts[i]? =aa x) (hc:vq B a x cT) (ha:S1 a=aa (.bP (B.map mK))) (hf:S1 f=none)
  (hv:q.take e.length=e→(∃v,(ak B x).at (q.drop e.length)=aa v)∧ ∀p∈x.lou B (q.drop e.length),p.length≤1000) (he:e.length≤1000) (hq:q.length≤1000) (hR:t.2.2.depth≤4∧t.2.2.aq≤7) (hr:12≤r) (hn:L.length+7*(x.lou B (q.drop e.length)).length≤900000)
  (h:∀S' z7 z8,Sub (bR S1 f (.bP ((L++wJ B t i x e q).map mB))) S'→D.nx [aa (.ref a),aa (j5 (.nd t.1 ts)),aa (mB q),aa (mK t),aa (.ref f),aa (.int i),aa (mB e),z7,z8] S') :
  yq r cT EX D [aa (.ref a),aa (j5 (.nd t.1 ts)),aa (mB q),aa (mK t),aa (.ref f),aa (.int i),aa (mB e),y7,y8] (bR S1 f (.bP (L.map mB))):=by
 have fa:f≠a:=by rintro rfl;rw[ha]at hf;cases hf
 rw[yq];have eq1:mB q= .bW (q.map W.int):=rfl;have ee1:mB e= .bW (e.map W.int):=rfl;simp only[eq1,ee1];ext;have et:nC [W.str t.1,j5 t.2.1,j5 t.2.2] 2=aa (j5 t.2.2):=rfl;have ct:(q.map W.int).take e.length=(q.take e.length).map W.int:=by rw[iL]
 have cd:(q.map W.int).drop e.length=(q.drop e.length).map W.int:=by rw[iz]
 rw[ay,B1,ct];rw[show nY (bR S1 f (.bP (L.map mB))) 60 (.bW ((q.take e.length).map W.int)) (.bW (e.map W.int))=aa (decide (q.take e.length=e)) from F8 (n:=58) _ _];by_cases hq':q.take e.length=e
 ·obtain⟨⟨v,hv⟩,hp⟩:=hv hq';rw[decide_eq_true hq']
  try simp only[if_true]
  refine Tx hx ?_;rw[Cb,cd];refine hc (q:=q.drop e.length) (by rw[nO (bz fa)];exact ha) hv (by rw[cP];lia) λg hg=>?_;obtain⟨hg1,hg2⟩:=qU hg;refine Ui ?_;obtain⟨r,rfl⟩:∃r',r=r'+1:=⟨r - 1,by lia⟩
  refine UI (by lia) (by lia) λk hk=>?_;obtain⟨hk1,hk2⟩:=qU hk;obtain⟨hk3,hk4⟩:=qU hk1;dsimp only;rw[m8 mR];have sb:Sub S1 (bR (bR S1 g (.bP ((x.lou B (q.drop e.length)).map mB))) k (.bP ((qC t.2.2 i).map mB))):=(Sub.bR .refl hg1).trans (.bR .refl (by rw[nO hk2];exact hk3));rw[BJ (S:=S1) hg2.symm,BJ hk4.symm];have pl:(qC t.2.2 i).length≤7:=by
   unfold qC;rw[ay];have:=yA t.2.2;exact aY (gq _ _) (by lia)
  refine Jf (by rw[nO hk2.symm,mR]) (by rw[nO hk4.symm,nO hg2.symm];exact hf) (λo=>by rw[nO hk4,mR]) hp (qC t.2.2 i) (λb hb=>?_) ?_ λz8=>?_
  ·have:=uN b (pT.mp hb);lia
  ·have:=dQ (x.lou B (q.drop e.length)).length pl;lia
  ·refine h _ _ _ ?_;unfold wJ;rw[if_pos hq'];exact Bd sb
 ·rw[decide_eq_false hq'];have:=h (bR S1 f (.bP (L.map mB))) y7 y8;unfold wJ at this;rw[if_neg hq',bg]at this;exact this .refl
theorem KF{G:lr→Prop}(ha:S1 a=aa (.bP (B.map mK))) (hf:S1 f=none) (hG:∀o,G (bR S1 f o)) (hq:q.length≤1000) (hR:t.2.2.depth≤4∧t.2.2.aq≤7) (hr:12≤r) :
  ∀(xs:List Tr) (es:List (List Int)) (i:Nat) {L:List (List Int)}{y5 y6 y7 y8:Option W},xs.length=es.length→(∀j,(t.2.1.bls.map λz=>z.1)[i+j]? =es[j]?)→(∀j x,xs[j]? =aa x→ts[i+j]? =aa x∧vq B a x cT∧ ∀e,es[j]? =aa e→e.length≤1000∧(q.take e.length=e→(∃v,(ak B x).at (q.drop e.length)=aa v)∧ ∀p∈x.lou B (q.drop e.length),p.length≤1000)∧(x.lou B (q.drop e.length)).length≤20000)→L.length+xs.length*140000≤500000→
  (∀S' z5 z6 z7 z8,Sub (bR S1 f (.bP ((L++rg B t i xs q).map mB))) S'→D.nx [aa (.ref a),aa (j5 (.nd t.1 ts)),aa (mB q),aa (mK t),aa (.ref f),z5,z6,z7,z8] S')→
  mO (pB (nQ (mx 5) (nQ (mx 6) o6))) (yq r cT) EX D G (pN i (es.map mB)) [aa (.ref a),aa (j5 (.nd t.1 ts)),aa (mB q),aa (mK t),aa (.ref f),y5,y6,y7,y8] (bR S1 f (.bP (L.map mB)))
 | [],[],i,L,y5,y6,y7,y8,_,_,_,_,h=>by
  rw[rg,bg]at h;exact h _ _ _ _ _ .refl
 |x::xs,e::es,i,L,y5,y6,y7,y8,hl,hb,hx,n1,h=>by
  obtain⟨g1,g2,g3⟩:=hx 0 x rfl;obtain⟨g4,g5,g7⟩:=g3 e rfl;have he:(t.2.1.bls.map λz=>z.1)[i]? =aa e:=hb 0;rw[aU]at n1;rw[aC,pN];refine pU λN hN=>?_;rw[FU];show nQ (mx 5) (nQ (mx 6) o6) [.int i,mB e] _ _ _;rw[yJ];show mx 5 _ _ _ _;rw[rp,yJ];show mx 6 _ _ _ _;rw[rp,Fk];show yq r cT _ _ [aa (.ref a),aa (j5 (.nd t.1 ts)),aa (mB q),aa (mK t),aa (.ref f),aa (.int i),aa (mB e),y7,y8] _;refine WP g1 g2 ha hf g5 g4 hq hR hr (by lia) λS' z7 z8 s'=>?_;refine hN _ _ _ s' (hG _) ?_;have el:rg B t i (x::xs) q=wJ B t i x e q++rg B t (i+1) xs q:=by
   rw[rg,he];rfl
  have ll:(wJ B t i x e q).length≤140000:=by
   unfold wJ;split
   ·have h1:=F6 (f:=λb=>(x.lou B (q.drop e.length)).map (b++ ·)) (k:=20000) (qC t.2.2 i) λb _=>by rw[ay];exact g7
    have h2:(qC t.2.2 i).length≤7:=by
     unfold qC;rw[ay];have:=yA t.2.2;exact aY (gq _ _) (by lia)
    have:=dQ 20000 h2;lia
   ·exact aP _
  refine KF ha hf hG hq hR hr xs es (i+1) (by simpa using hl) (λj=>?_) (λj y hy=>?_) (by rw[bc];lia) λS2 z5 z6 z7 z8 s2=>h S2 z5 z6 z7 z8 ?_
  ·have:=hb (j+1);rw[bU]at this;rw[←this];congr 1;lia
  ·have:=hx (j+1) y (by rw[bU];exact hy);rw[bU]at this;rw[show i+1+j=i+(j+1) by lia]
   exact this
  ·rw[el,←bD];exact s2
end
mutual
theorem IZ:∀t:Tr,t.sd≤t.depth
 | .bl n=>by rw[Tr.sd];exact aP _
 | .nd s ts=>by
  have:=Mr ts;rw[Tr.sd,Tr.depth];lia
theorem Mr:∀ts:List Tr,rZ ts≤m_ ts
 | []=>by rw[rZ];exact aP _
 |t::ts=>by
  have h1:=IZ t;have h2:=Mr ts;rw[rZ,m_];lia
end
theorem Bk3.gol_dp (K:Bk3 ws B):∀(n:Nat) {x:Tr},x.aq≤n→Wy ws B x→(L2.b7 B x).depth≤4*x.depth
 |0,x,hn,hx=>by have:=rT x;lia
 |n+1,x,hn,hx=>by
  have sup:∀(ts:List Tr),(∀y∈ts,(L2.b7 B y).depth≤4*y.depth)→m_ (ts.map (L2.b7 B))≤4*m_ ts:=λts=>by
   induction ts with
   |nil=>intro _;simp [m_]
   |cons y ts ih=>
    intro h;have h1:=h y aK;have h2:=ih λz hz=>h z (aI _ hz);rw[aC,m_,m_];lia
  obtain ⟨s,ts,rfl,hh,e,k⟩ |⟨t,ts,ht,rfl,e,hl,k⟩:=Wy.cases K.b hx
  ·rw[Tr.aq]at hn;have:=sup ts λy hy=>Bk3.gol_dp K n (by have:=pe hy;lia) (k y hy);rw[L2.b7,qb e,Tr.depth,Tr.depth];show 1+m_ (ts.map (L2.b7 B))≤_;lia
  ·rw[Tr.aq]at hn;have h1:=sup ts λy hy=>Bk3.gol_dp K n (by have:=pe hy;lia) (k y hy);have h2:=Og (us:=ts.map (L2.b7 B)) t.2.2 (by rw[ay,hl];exact(K.b.ri t ht).br);have h3:=IZ t.2.2;have h4:=(K.b.ri t ht).dp;rw[L2.b7,p6 e,Tr.depth];show(t.2.2.aD (ts.map (L2.b7 B))).depth≤_;lia
def mZ.bls7 (c:mZ w0 w1 w2 w3 w4 w5 tt B):∀t∈B,t.2.2.bls.length≤7:=λt ht=>aY (yA _) (c.b.ri t ht).wt
def mZ.ok_lbelow (c:mZ w0 w1 w2 w3 w4 w5 tt B) (ht:t∈B) (hl:ts.length=t.2.1.nb) (hx:∀x∈ts,Wy [w0,w1,w2,w3,w4,w5] B x∧vq B a x cT∧x.ne B≤5∧x.depth≤100) (ha:S a=aa (.bP (B.map mK))) (hv:(ak B (.nd t.1 ts)).at q=aa v) (hq:q.length≤1000) (hr:20≤r)
  (h:∀f,S f=none→Q (.ref f) (bR S f (.bP ((rg B t 0 ts q).map mB)))):B7 cT (r+1) [.ref a,j5 (.nd t.1 ts),mB q,mK t] S Q E:=by
 have et:=qZ c.K.b.nd ht;have es:ak B (.nd t.1 ts)=t.2.1.aD (ts.map (ak B)):=by rw[ak,p6 et]
 have hL:=c.K.b.lf t ht;have K1:=hL.wt;have K2:=hL.nb;have K3:=hL.dp;have R1:=(c.b.ri t ht).wt;have R2:=(c.b.ri t ht).dp;rw[B7];ext;refine⟨aP _,λf hf=>?_⟩;refine X4 ?_;obtain⟨r,rfl⟩:∃r',r=r'+1:=⟨r - 1,by lia⟩
 refine Et (by lia) (by lia) λz hz=>?_;obtain⟨hz1,hz2⟩:=qU hz;rw[B9,m8 mR,BJ hz2.symm];have sb:Sub S (bR S z (.bP (t.2.1.bls.map λx=>mB x.1))):= .bR .refl hz1;have fa:f≠a:=by rintro rfl;rw[ha]at hf;cases hf
 have e0:(t.2.1.bls.map λx=>mB x.1)=(t.2.1.bls.map λx=>x.1).map mB:=by rw[bu];rfl
 have bl:ts.length=(t.2.1.bls.map λx=>x.1).length:=by rw[ay,Di,hl]
 generalize hzs:(t.2.1.bls.map λx=>mB x.1)=zs at *;rw[show pN 0 zs=pN 0 ((t.2.1.bls.map λx=>x.1).map mB) by rw[e0]]
 refine KF (B:=B) (a:=a) (r:=r+1) (t:=t) (ts:=ts) (cT:=cT) (q:=q) (f:=f) (S1:=bR S z (.bP zs)) (G:=λS'=>S' z=aa (.bP zs)) (L:=[]) (y5:=none) (y6:=none) (y7:=none) (y8:=none) (sb _ _ ha) (by rw[nO hz2.symm];exact hf) (λo=>by rw[nO hz2,mR]) hq ⟨R2,R1⟩ (by lia) ts (t.2.1.bls.map λx=>x.1) 0 bl (λj=>by rw[bG]) (λj x hj=>?_) (by rw[di,hl];lia) λS' z5 z6 z7 z8 s'=>?_
 rotate_left
 ·rw[aX]at s';ext;exact⟨_,(Bd sb).trans s',h f hf⟩
 ·have hm:=aJ hj;obtain⟨g1,g2,g3,g4⟩:=hx x hm;refine⟨by rw[bG];exact hj,g2,λe he=>?_⟩;have hat:=(c.bl ht).mpr he;have hel:=uN e hat;have hsr:∀q',q=e++q'→(ak B x).at q'=aa v:=λq' hq'=>by
   have a1:(ak B (.nd t.1 ts)).at e=aa (ak B x):=by
    rw[es,wV e hat (by rw[ay,hl];exact hL.br),bb,aV,hj];rfl
   rw[hq',uO e _ a1]at hv;exact hv
  refine⟨by lia,λhq'=>?_,?_⟩
  ·have h1:=hsr (q.drop e.length) (by conv=>lhs;rw[←gM e.length q,hq']);refine⟨⟨v,h1⟩,λp hp=>?_⟩;obtain⟨v',h2⟩:=c.lou_at _ (aA _) g1 h1 hp;have h3:=uN p h2;have h4:=c.K.gol_dp _ (aA _) g1;lia
  ·exact aY (xN c.bls7 x _) (aY (dg (by decide) g3) (by decide))
def mZ.lou_s (c:mZ w0 w1 w2 w3 w4 w5 tt B) (e:m9 B s=none) (hc:∀x∈ts,vq B a x (qW r)) (hl:∀x∈ts,∀q,(x.lou B q).length≤20000) (hp:∀x∈ts,∀q v,(ak B x).at q=aa v→ ∀p∈x.lou B q,p.length≤1000):vq B a (.nd s ts) (qW (r+2)):=λ{S Q E q v} ha hv hq h=>by
 have es:ak B (.nd s ts)= .nd s (ts.map (ak B)):=by rw[ak,qb e]
 rw[es]at hv;have ex:j5 (.nd s ts)= .bW (.str s::af ts):=by simp [j5]
 rw[qW,ex];walk_at "wp";refine wK ha ?_;rw[e];simp only[oM]
 try walk_at "wp"
 refine⟨aP _,?_⟩;rw[Dz];cases q with
 |nil=>
  rw[Cd e]at h;exact⟨aP _,by decide,λf hf=>⟨_, .refl,h f hf⟩⟩
 |cons i q=>
  simp only[il,cF,if_false];obtain⟨w,h0,h1,h2⟩:=pR hv;obtain⟨i,rfl⟩:∃i':Nat,i=i':=⟨i.toNat,by lia⟩
  rw[bb,aV]at h1;cases ei:ts[i]? with
  |none=>rw[ei]at h1;cases h1
  |some x=>
   rw[ei]at h1;cases h1;have hx:=aJ ei;rw[v9 e ei]at h;rw[aU]at hq;have ep:mB ((i:Int)::q)= .bW (.int i::q.map W.int):=rfl;simp only[ep];walk_at "wp";rw[Kh ei];dsimp only
   try walk_at "wp"
   refine hc x hx (q:=q) ha h2 (by lia) λg hg=>?_;dsimp only;rw[m8 mR];have l1:=hl x hx q;refine qf (λσ=>∃z,σ=[z,aa (.int i)]) mB (λp=>mB ((i:Int)::p)) mR (x.lou B q) [] _ ⟨none,rfl⟩ (by simp;lia) (λp hp' σ R hI hR=>?_) ?_
   ·obtain⟨z,rfl⟩:=hI;rw[rp,JC];have l2:=hp x hx q _ h2 p hp';have:=hR [aa (mB p),aa (.int i)] S ⟨_,rfl⟩ ;walk_at "wp";unfold mB;walk_at "wp";have:=hR [aa (mB p),aa (.int i)] _ ⟨_,rfl⟩ .refl;unfold mB at this;rw[aC]at this;exact⟨by decide,m7 (by simp;lia),this⟩
   ·rw[aX];intro f hf;obtain⟨hf1,hf2⟩:=qU hf;have:=h f hf1;rw[bu]at this;exact⟨_, .put2 (.bR .refl hg),this⟩
def mZ.lou_t (c:mZ w0 w1 w2 w3 w4 w5 tt B) (ht:t∈B) (hl:ts.length=t.2.1.nb) (hx:∀x∈ts,Wy [w0,w1,w2,w3,w4,w5] B x∧vq B a x (qW r)∧x.ne B≤5∧x.depth≤100) (hr:20≤r):vq B a (.nd t.1 ts) (qW (r+2)):=λ{S Q E q v} ha hv hq h=>by
 have et:=qZ c.K.b.nd ht;rw[yz et]at h;have ex:j5 (.nd t.1 ts)= .bW (.str t.1::af ts):=by simp [j5]
 rw[qW,ex];walk_at "wp";refine wK ha ?_;rw[et];simp only[oM];rw[←ex]
 try walk_at "wp"
 have isT:∀K:WK,K (.bl true) S→pq true (mK t) .ca S K:=λK q=>by
  unfold mK;rw[MZ];exact q
 refine isT _ ?_;dsimp only;rw[if_pos rfl];exact c.ok_lbelow ht hl hx ha hv hq (by lia) λf hf=>⟨_, .refl,h f hf⟩
theorem mZ.ok_lou (c:mZ w0 w1 w2 w3 w4 w5 tt B):∀(n:Nat) {x:Tr}{r:Nat},x.depth≤n→n≤100→2*n+22≤r→Wy [w0,w1,w2,w3,w4,w5] B x→x.ne B≤5→vq B a x (qW r)
 |0,x,r,hn,_,hr,hx,he=>by have:=qB x;lia
 |n+1,x,r,hn,h100,hr,hx,he=>by
  obtain⟨r',er⟩:∃r',r=r'+2:=⟨r - 2,by lia⟩
  have e1:qW r=qW (r'+2):=by rw[er]
  rw[e1];obtain ⟨s,ts,rfl,hh,e,k⟩ |⟨t,ts,ht,rfl,e,hl,k⟩:=Wy.cases c.K.b hx
  ·rw[Tr.depth]at hn;rw[Au e]at he;have kid:∀x∈ts,x.depth≤n∧x.ne B≤5:=λx hx=>⟨by have:=pY hx;lia,by have:=xG (B:=B) hx;lia⟩
   refine c.lou_s e (λx hx=>mZ.ok_lou c n (kid x hx).1 (by lia) (by lia) (k x hx) (kid x hx).2) (λx hx q=>?_) λx hx q v hv p hp=>?_
   ·exact aY (xN c.bls7 x q) (aY (dg (by decide) (kid x hx).2) (by decide))
   ·obtain⟨v',h2⟩:=c.lou_at _ (aA _) (k x hx) hv hp;have h3:=uN p h2;have h4:=c.K.gol_dp _ (aA _) (k x hx);have:=(kid x hx).1;lia
  ·rw[Tr.depth]at hn;rw[Dj e]at he;exact c.lou_t ht hl (λx hx=>⟨k x hx,mZ.ok_lou c n (by have:=pY hx;lia) (by lia) (by lia) (k x hx) (by have:=xG (B:=B) hx;lia),by have:=xG (B:=B) hx;lia,by have:=pY hx;lia⟩) (by lia)
structure vG (ws:List ah) (B:List Tn) (x:Tr):Prop where
  w:Wy ws B x
  d:x.depth≤40
  n:x.ne B≤5
theorem Mw{l:ai}{f:ai}{ps0:List (List Int)}{EX:WX}{D:mY}{S1:lr}{y2:Option W}(c:mZ w0 w1 w2 w3 w4 w5 tt B) (hx:vG [w0,w1,w2,w3,w4,w5] B x) (ha:S1 a=aa (.bP (B.map mK))) (hl:S1 l=aa (.bP (ps0.map mB))) (hf:S1 f=none) (hr:102≤r):∀(ps:List (List Int)) {L:List (List Int)}{y4:Option W},(∀p∈ps,p.length≤1000∧ ∃v,(ak B x).at p=aa v)→L.length+ps.length*7 ^ x.ne B≤900000→
  (∀z4,D.nx [aa (.ref a),aa (j5 x),y2,aa (.ref f),z4] (bR S1 f (.bP ((L++ps.flatMap (x.lou B)).map mB))))→
  mO (mx 4) (Fa r mH) EX D (λS'=>S' l=aa (.bP (ps0.map mB))) (ps.map mB) [aa (.ref a),aa (j5 x),y2,aa (.ref f),y4] (bR S1 f (.bP (L.map mB)))
 | [],L,y4,_,_,h=>by
  have:=h y4;rw[cZ,bg]at this;exact this
 |p::ps,L,y4,hp,hn,h=>by
  have fa:f≠a:=by rintro rfl;rw[ha]at hf;cases hf
  have fl:f≠l:=by rintro rfl;rw[hl]at hf;cases hf
  obtain⟨p1,v,p2⟩:=hp p aK;have ll:=xN c.bls7 x p;rw[aU,cg,c5]at hn;rw[aC];refine pU λN hN=>?_;rw[rp,Fa];ext;refine c.ok_lou 40 hx.d (by decide) (by lia) hx.w hx.n (q:=p) (by rw[nO fa.symm];exact ha) p2 p1 λg hg=>?_;obtain⟨hg1,hg2⟩:=qU hg
  try ext
  rw[BJ hg2.symm];rw[m8 mR,pI];rw[←bK];refine⟨m7 (by rw[ay,ay];lia),hN _ _ (bR S1 f (.bP ((L++x.lou B p).map mB))) (Bd (.bR .refl hg1)) (by rw[nO fl.symm];exact hl) ?_⟩;refine Mw c hx ha hl hf hr ps (λq hq=>hp q (aI _ hq)) (by rw[bc];lia) λz4=>?_;have:=h z4;rw[cC,←bD]at this;exact this
def mZ.ok_still{S:lr}{Q:WK}{E:ah→lr→Prop}{l:ai}{ps:List (List Int)}(c:mZ w0 w1 w2 w3 w4 w5 tt B) (hx:vG [w0,w1,w2,w3,w4,w5] B x) (ha:S a=aa (.bP (B.map mK))) (hl:S l=aa (.bP (ps.map mB))) (hp:∀p∈ps,p.length≤1000∧ ∃v,(ak B x).at p=aa v) (hn:ps.length*7 ^ x.ne B≤900000) (hr:102≤r)
  (h:∀f,S f=none→Q (.ref f) (bR S f (.bP ((ps.flatMap (x.lou B)).map mB)))):xS (r+1) [.ref a,j5 x, .ref l] S Q E:=by
 rw[xS];ext;refine⟨aP _,λf hf=>?_⟩;have fl:f≠l:=by rintro rfl;rw[hl]at hf;cases hf
 rw[m8 (keep hl hf)];refine Mw (L:=[]) (y4:=none) c hx ha hl hf hr ps hp (by rw[di];lia) λz4=>?_;ext;exact⟨_, .refl,h f hf⟩
theorem Jb{S:lr}{lw:ai}{xs0:List Tr}{EX:WX}{D:mY}{y1:Option W}(c:mZ w0 w1 w2 w3 w4 w5 tt B) (ha:S a=aa (.bP (B.map mK))) (hl:S lw=aa (.bP (xs0.map j5))) (hr:103≤r):∀(xs:List Tr) {X:Tr}{l:ai}{ps:List (List Int)}{y2 y4:Option W},(∀x∈xs,vG [w0,w1,w2,w3,w4,w5] B x)→nN [w0,w1,w2,w3,w4,w5] B X xs→(∀p∈ps,p.length≤1000∧ ∃v,X.at p=aa v)→ps.length*7 ^ nR B xs≤900000→S l=none→
  (∀l' y2 z4,S l'=none→D.nx [aa (.ref a),y1,y2,aa (.ref l'),z4] (bR S l' (.bP ((qh B xs ps).map mB))))→
  mO (mx 4) (Fz r mH) EX D (λS'=>S' lw=aa (.bP (xs0.map j5))) (xs.map j5) [aa (.ref a),y1,y2,aa (.ref l),y4] (bR S l (.bP (ps.map mB)))
 | [],X,l,ps,y2,y4,_,_,_,_,h0,h=>h l y2 y4 h0
 |x::xs,X,l,ps,y2,y4,hx,⟨x1,x2,x3⟩,hp,hn,h0,h=>by
  have wx:=hx x aK;rw[nR,gm,←iE]at hn;have h7:=lN (nR B xs) 7 (by decide);have hn1:ps.length*7 ^ x.ne B≤900000:=aY (ki _ h7) hn;have fl:=F6 (f:=x.lou B) (k:=7 ^ x.ne B) ps λp _=>xN c.bls7 x p;rw[aC];refine pU λN hN=>?_;rw[rp,Fz];ext;obtain⟨r',er⟩:∃r',r=r'+1:=⟨r - 1,by lia⟩
  have e1:xS r=xS (r'+1):=by rw[er]
  rw[e1];refine c.ok_still wx (keep ha h0) mR (λp hp'=>?_) hn1 (by lia) λg hg=>?_
  ·obtain⟨g1,v,g2⟩:=hp p hp';exact⟨g1,v,by rw[x2];exact g2⟩
  ·obtain⟨hg1,hg2⟩:=qU hg;refine hN _ _ (bR S g (.bP ((ps.flatMap (x.lou B)).map mB))) (.put2 (.bR .refl h0)) ?_ ?_
   ·exact keep hl hg1
   ·refine Jb c ha hl hr xs (λy hy=>hx y (aI _ hy)) x3 (λp hp'=>?_) (aY (dQ _ fl) hn) hg1 h;obtain⟨q,hq,hpq⟩:=dZ.mp hp';obtain⟨g1,v,g2⟩:=hp q hq;obtain⟨v',g3⟩:=c.lou_at _ (aA _) x1 (by rw[x2];exact g2) hpq;have h3:=uN p g3;have h4:=c.K.gol_dp _ (aA _) x1;have:=wx.d;exact⟨by lia,v',g3⟩
def Y5{S:lr}{l q:ai}{ps:List (List Int)}(hl:S l=aa (.bP (ps.map mB))) (hq:S q=aa (.bP [])):nY S 60 (.ref l) (.ref q)=aa ps.isEmpty:=by
 show(match S l with
  |some (.bP xs)=>match S q with
   |some (.bP ys)=>oV (nY S 59) xs ys
   |_=>none
  |_=>none)=_
 rw[hl,hq];cases ps with
 |nil=>rfl
 |cons p ps=>rfl
def mZ.ok_isdone{E:ah→lr→Prop}(c:mZ w0 w1 w2 w3 w4 w5 tt B) (hx:∀x∈xs,vG [w0,w1,w2,w3,w4,w5] B x) (hR:nN [w0,w1,w2,w3,w4,w5] B X xs) (ha:S a=aa (.bP (B.map mK))) (hl:S lw=aa (.bP (xs.map j5))) (hq:X.at q=aa v) (hq1:q.length≤1000) (hn:nR B xs≤7) (hr:103≤r)
  (h:∀S',Sub S S'→Q (.bl (qh B xs [q]).isEmpty) S'):Bv (r+1) [.ref a,mB q, .ref lw] S Q E:=by
 rw[Bv];ext;refine⟨by decide,λl h0=>?_⟩;rw[m8 (keep hl h0)];refine Jb (ps:=[q]) (y2:=aa (.ref lw)) (y4:=none) c ha hl hr xs hx hR (λp hp=>?_) ?_ h0 λl' y2 z4 hl'=>?_
 ·rw[bh.mp hp];exact⟨hq1,v,hq⟩
 ·have:=dg (n:=7) (by decide) hn;rw[cB,c5];exact aY this (by decide)
 ·ext;refine⟨aP _,λz hz=>?_⟩;rw[Y5 (keep mR hz) mR];exact⟨_, .refl,h _ ((Sub.bR .refl hl').trans (.bR .refl hz))⟩
def vh (B:List Tn) (X:Tr) (xs:List Tr):Option (List Int):=((X.op B []).map λz=>z.1).find? λq=>(qh B xs [q]).isEmpty
def Zy:Option (List Int)→W
 |some q=>mB q
 |none=> .ca
def mZ.ok_first{E:ah→lr→Prop}(c:mZ w0 w1 w2 w3 w4 w5 tt B) (hx:∀x∈xs,vG [w0,w1,w2,w3,w4,w5] B x) (hX:Sh [w0,w1,w2,w3,w4,w5] B X) (hs:X.bo=true) (hR:nN [w0,w1,w2,w3,w4,w5] B X xs) (ha:S a=aa (.bP (B.map mK))) (hl:S lw=aa (.bP (xs.map j5))) (hn:nR B xs≤7) (hr:110≤r)
  (h:∀S',Sub S S'→Q (Zy (vh B X xs)) S'):Cm (r+1) [.ref a, .bW [j5 X, .ref lw]] S Q E:=by
 obtain⟨h3,h4⟩:=qV hs;have hol:=xM B X [];obtain⟨r,rfl⟩:∃r',r=r'+1:=⟨r - 1,by lia⟩
 rw[Cm];ext;refine yr c.L ha (by lia) (by lia) (by lia) hX.hdT λq1 hq1=>?_;refine DL mR (by lia) λq2 hq2=>?_;have sb:Sub S (bR (bR S q1 (.bP ((X.op B []).map encX))) q2 (.bP (((X.op B []).map λx=>x.1).map mB))):=(Sub.bR .refl hq1).trans (.bR .refl hq2);dsimp only;rw[m8 mR];have f2:bR (bR S q1 (.bP ((X.op B []).map encX))) q2 (.bP (((X.op B []).map λx=>x.1).map mB)) q2=aa (.bP (((X.op B []).map λx=>x.1).map mB)):=mR;generalize bR (bR S q1 (.bP ((X.op B []).map encX))) q2 (.bP (((X.op B []).map λx=>x.1).map mB))=S2 at sb f2;have fs:∀ps:List (List Int),(ps.findSome? λq=>if(qh B xs [q]).isEmpty then aa (mB q) else none)=(ps.find? λq=>(qh B xs [q]).isEmpty).map mB:=λps=>by
  induction ps with
  |nil=>rfl
  |cons p ps ih=>
   rw[eF,cb];cases e:(qh B xs [p]).isEmpty with
   |true=>rfl
   |false=>exact ih
 refine vv f2 (λσ=>∃z,σ=[aa (.ref a),aa (.bW [j5 X, .ref lw]),z]) mB (λq=>if(qh B xs [q]).isEmpty then aa (mB q) else none) _ _ ⟨none,rfl⟩ (λq hq σ N hI h1 h2=>?_) (λe σ hI=>?_) λw e S' s'=>?_
 ·obtain⟨z,rfl⟩:=hI;obtain⟨y,hy,rfl⟩:=aT.mp hq;obtain⟨q',t,us,e1,o⟩:=zb c.K _ (aA _) hX hy;rw[aX]at e1;have hd:=uN q' o.hat;rw[rp,L1];ext;rw[show nC [j5 X,W.ref lw] 1=aa (.ref lw) from rfl];dsimp only;refine c.ok_isdone hx hR (sb _ _ ha) (sb _ _ hl) (by rw[e1];exact o.hat) (by rw[e1];lia) hn (by lia) λS3 s3=>?_;ext;cases e:(qh B xs [y.1]).isEmpty with
  |true=>exact h2 _ (by rw[e];rfl) _ s3
  |false=>exact h1 (by rw[e];rfl) _ _ ⟨_,rfl⟩ s3
 ·ext;refine⟨_, .refl,?_⟩;have:=h _ sb;rw[fs]at e;unfold vh at this;cases e2:((X.op B []).map λz=>z.1).find? λq=>(qh B xs [q]).isEmpty with
  |none=>rw[e2]at this;exact this
  |some p=>rw[e2]at e;cases e
 ·rw[fs]at e;have:=h _ (sb.trans s');unfold vh at this;cases e2:((X.op B []).map λz=>z.1).find? λq=>(qh B xs [q]).isEmpty with
  |none=>rw[e2]at e;cases e
  |some p=>
   rw[e2]at e this;cases e;exact⟨_, .refl,this⟩
def mZ.shs (c:mZ w0 w1 w2 w3 w4 w5 tt B) {x:Tr}(hx:Wy [w0,w1,w2,w3,w4,w5] B x):Sh [w0,w1,w2,w3,w4,w5] B (ak B x):=⟨(c.K.ak hx).1,(c.K.ak hx).2.1⟩
def N6{α:Type}{l:List α}(h:∀x,¬x∈l):l=[]:=by
 cases l with
 |nil=>rfl
 |cons x l=>exact absurd aK (h x)
def mZ.up_ou (c:mZ w0 w1 w2 w3 w4 w5 tt B) {x:Tr}{q:List Int}(u:Up B x q):Wy [w0,w1,w2,w3,w4,w5] B x→(∃t us,Ou [w0,w1,w2,w3,w4,w5] B (ak B x) q t us)∧x.lou B q=[]:=by
 induction u with
 | @here h ts t e=>
  intro hx;have ht:t∈B:=bX e;have hh:t.1=h:=by simpa using eT e
  subst hh;have hl:ts.length=t.2.1.nb:=by
   have:=hx.ar;rw[Tr.ar]at this;exact this.1 t e
  have es:ak B (.nd t.1 ts)=t.2.1.aD (ts.map (ak B)):=by rw[ak,p6 e]
  refine⟨⟨t,ts.map (ak B),ht,by rw[ay,hl],by rw[pk,es],λy hy=>?_⟩,N6 λq'=>c.lou_top ht⟩
  obtain⟨z,hz,rfl⟩:=aT.mp hy;exact c.shs (hx.dA z hz)
 | @sgn h ts i x q e hi _ ih=>
  intro hx;obtain⟨⟨t,us,o⟩,hl⟩:=ih (hx.dA x (aJ hi));have es:ak B (.nd h ts)= .nd h (ts.map (ak B)):=by rw[ak,qb e]
  refine⟨⟨t,us,o.ht,o.hl,?_,o.sh⟩,by rw[v9 e hi,hl];rfl⟩
  rw[es,r8 (show(ts.map (ak B))[i]? =aa (ak B x) by rw[aV,hi];rfl)]
  exact o.hat
 | @tit h ts t i x e q et he hi _ ih=>
  intro hx;obtain⟨⟨t',us,o⟩,hl⟩:=ih (hx.dA x (aJ hi));have ht:t∈B:=bX et;have hh:t.1=h:=by simpa using eT et
  subst hh;have hn:ts.length=t.2.1.nb:=by
   have:=hx.ar;rw[Tr.ar]at this;exact this.1 t et
  have es:ak B (.nd t.1 ts)=t.2.1.aD (ts.map (ak B)):=by rw[ak,p6 et]
  have a1:(ak B (.nd t.1 ts)).at e=aa (ak B x):=by
   rw[es,wV e he (by rw[ay,hn];exact(c.K.b.lf t ht).br),bb,aV,hi];rfl
  refine⟨⟨t',us,o.ht,o.hl,by rw[uO e _ a1];exact o.hat,o.sh⟩,N6 λq' h=>?_⟩
  obtain⟨b,r',_,h2,_⟩:=(c.lou_tit ht he hi).mp h;rw[hl]at h2;cases h2
theorem Iy (hB:∀t∈B,p8 t.1):∀(q:List Int) {x v:Tr},x.hd ov→x.at q=aa v→x.lou B q=[q]
 | [], .bl n,v,h,e=>by rw[Tr.hd]at h;exact h.elim
 | [], .nd s ts,v,h,e=>by
  rw[Tr.hd]at h;rw[Cd (qg hB h.1)]
 |i::q, .bl n,v,h,e=>by cases e
 |i::q, .nd s ts,v,h,e=>by
  obtain⟨w,h0,h1,h2⟩:=pR e;obtain⟨i,rfl⟩:∃i':Nat,i=i':=⟨i.toNat,by lia⟩
  rw[bb]at h1;rw[Tr.hd,mW]at h;rw[v9 (qg hB h.1) h1,Iy hB q (h.2 w (aJ h1)) h2];rfl
theorem Mb:∀xs:List Tr,qh B xs []=[]
 | []=>rfl
 |x::xs=>by rw[qh,cZ];exact Mb xs
theorem mZ.some_done (c:mZ w0 w1 w2 w3 w4 w5 tt B):∀(xs:List Tr) {X:Tr},nN [w0,w1,w2,w3,w4,w5] B X xs→xs.all Tr.dP=false→ ∃q t us,Ou [w0,w1,w2,w3,w4,w5] B X q t us∧qh B xs [q]=[]
 | [],X,_,h=>by cases h
 |x::xs,X,⟨x1,x2,x3⟩,h=>by
  cases e:x.dP with
  |true=>
   rw[e_,e,jR]at h;have sg:=xn x e;have e1:ak B x=x:=rK c.K.b.ti x sg;have e2:b7 B x=x:=rK c.K.b.ti x sg;obtain⟨q,t,us,o,hd⟩:=mZ.some_done c xs x3 h;rw[e2,←e1,x2]at o;refine⟨q,t,us,o,?_⟩;rw[qh,cC,cZ,bg,Iy c.K.b.ti q sg (v:=t.2.1.aD us) (by rw[←e1,x2];exact o.hat)];exact hd
  |false=>
   have:¬ ∀q,¬Up B x q:=λz=>by
    rw[(c.up_quiet x1).mpr z]at e;cases e
   obtain⟨q,u⟩:=Classical.not_forall_not.mp this;obtain⟨⟨t,us,o⟩,hl⟩:=c.up_ou u x1;rw[x2]at o;refine⟨q,t,us,o,?_⟩;rw[qh,cC,cZ,bg,hl];exact Mb xs
def mZ.fst_some (c:mZ w0 w1 w2 w3 w4 w5 tt B) {X:Tr}{xs:List Tr}(hX:Sh [w0,w1,w2,w3,w4,w5] B X) (hR:nN [w0,w1,w2,w3,w4,w5] B X xs) (h:xs.all Tr.dP=false):∃q t us,vh B X xs=aa q∧Ou [w0,w1,w2,w3,w4,w5] B X q t us∧qh B xs [q]=[]:=by
 obtain⟨q,t,us,o,hd⟩:=c.some_done xs hR h;have hm:=o.op c.K c.F;cases e:vh B X xs with
 |none=>
  unfold vh at e;have:=gY.mp e q hm;rw[hd]at this;exact absurd rfl this
 |some p=>
  have h1:=bX e;have h2:=eT e;obtain⟨y,hy,rfl⟩:=aT.mp h1;obtain⟨q',t',us',e1,o'⟩:=zb c.K _ (aA _) hX hy;rw[aX]at e1;exact⟨y.1,t',us',rfl,by rw[e1];exact o',cA.mp h2⟩
inductive wb (ws:List ah) (B:List Tn):Tr→List Tr→List (List Int)→Prop
 |nil {X:Tr}{xs:List Tr}:xs.all Tr.dP=true→wb ws B X xs []
 |cons {X:Tr}{xs us:List Tr}{q:List Int}{t:Tn}{ps:List (List Int)}:xs.all Tr.dP=false→vh B X xs=aa q→Ou ws B X q t us→qh B xs [q]=[]→wb ws B (toO X q t us) (oE B xs [wyO X q t us]) ps→wb ws B X xs (q::ps)
structure Ny (ws:List ah) (B:List Tn) (I:Nat→Tr→List Tr→Prop):Prop where
  sh:∀{m X xs},I m X xs→Sh ws B X∧X.bo=true
  ro:∀{m X xs},I m X xs→nN ws B X xs∧xs.length≤700∧nR B xs≤7
  wy:∀{m X xs},I m X xs→ ∀x∈xs,vG ws B x∧(ak B x).bo=true
  go:∀{m X xs q t us},I m X xs→Ou ws B X q t us→qh B xs [q]=[]→xs.all Tr.dP=false→ph B xs [wyO X q t us]∧ ∃m',m'<m∧I m' (toO X q t us) (oE B xs [wyO X q t us])
def QQ{ps:List (List Int)}{y3:Option W}(hf:S f=aa (.bP (ps.map mB))) (hn:ps.length<60) (h:T EX D [aa (.ref a),y1,aa (.ref f),y3,y4] S):DK r T EX D [aa (.ref a),y1,aa (.ref f),y3,y4] S:=by
 rw[DK];ext;rw[m8 hf,ay];have e:((ps.length:Int) == 60)=false:=by rw[beq_eq_false_iff_ne];lia
 try rw[e]
 try simp only[cF,if_false]
 exact h
def ZR (c:mZ w0 w1 w2 w3 w4 w5 tt B) (hx:∀x∈xs,vG [w0,w1,w2,w3,w4,w5] B x) (hX:Sh [w0,w1,w2,w3,w4,w5] B X) (hs:X.bo=true) (hR:nN [w0,w1,w2,w3,w4,w5] B X xs) (ha:S a=aa (.bP (B.map mK))) (hl:S lw=aa (.bP (xs.map j5))) (hn:nR B xs≤7) (hr:111≤r) (hq:vh B X xs=aa q)
  (h:∀S',Sub S S'→T EX D [aa (.ref a),y1,y2,aa (.bW [j5 X, .ref lw]),aa (mB q)] S'):C5 r T EX D [aa (.ref a),y1,y2,aa (.bW [j5 X, .ref lw]),y4] S:=by
 obtain⟨r,rfl⟩:∃r',r=r'+1:=⟨r - 1,by lia⟩
 rw[C5];ext;refine c.ok_first hx hX hs hR ha hl hn (by lia) λS' s'=>?_;rw[hq];exact h S' s'
def Wk (hf:S f=aa (.bP (ps.map mB))) (hn:ps.length<60) (h:T EX D [aa (.ref a),y1,aa (.ref f),y3,aa (mB q)] (bR S f (.bP ((ps++[q]).map mB)))):Dl r T EX D [aa (.ref a),y1,aa (.ref f),y3,aa (mB q)] S:=by
 rw[Dl];ext;rw[m8 hf,m8 hf];rw[bK]at h;exact⟨trivial,qE (by rw[ay];lia),h⟩
def Uj (c:mZ w0 w1 w2 w3 w4 w5 tt B) (hX:Sh [w0,w1,w2,w3,w4,w5] B X) (hs:X.bo=true) (hR:nN [w0,w1,w2,w3,w4,w5] B X xs) (o:Ou [w0,w1,w2,w3,w4,w5] B X q t us) (gg:ph B xs [wyO X q t us]) (hlen:xs.length≤700) (ha:S a=aa (.bP (B.map mK))) (hl:S lw=aa (.bP (xs.map j5))) (hr:115≤r)
  (h:∀S' l',Sub S S'→S l'=none→S' l'=aa (.bP ((oE B xs [wyO X q t us]).map j5))→D.nx [aa (.ref a),y1,y2,aa (.bW [j5 (toO X q t us), .ref l']),aa (mB q)] S'):CP r EX D [aa (.ref a),y1,y2,aa (.bW [j5 X, .ref lw]),aa (mB q)] S:=by
 obtain⟨h3,h4⟩:=qV hs;obtain⟨r,rfl⟩:∃r',r=r'+1:=⟨r - 1,by lia⟩
 rw[CP];ext;refine⟨by decide,λp1 hp1=>?_⟩;refine D0 c.L c.P (o.wi c.K c.F hX) (by lia) (by lia) (keep ha hp1) (wn:=[q]) mR hX.hdT (by lia) (by simp) ?_;refine⟨by decide,λp2 hp2=>?_⟩;have s2:Sub S (bR (bR S p1 (.bP [mB q])) p2 (.bP [j5 (wyO X q t us)])):=(Sub.bR .refl hp1).trans (.bR .refl hp2);have f2:bR (bR S p1 (.bP [mB q])) p2 (.bP [j5 (wyO X q t us)]) p2=aa (.bP ([wyO X q t us].map j5)):=mR;generalize bR (bR S p1 (.bP [mB q])) p2 (.bP [j5 (wyO X q t us)])=S2 at s2 f2⊢;refine⟨by decide,?_⟩;have ws:=o.wy c.K hX;have es:=o.ak c.K hX;refine Vz c.K (s2 _ _ ha) (s2 _ _ hl) f2 hR ⟨ws,es,trivial⟩ hs hlen (by simp) (by lia) (λn=>absurd rfl n) (λ_ n=>absurd gg n) λ_ _ S' l' s' n' fl=>?_;have ee:oo B X [wyO X q t us]=toO X q t us:=o.b7 c.K hX;rw[ee];exact h S' l' (s2.trans s') (AZ s2 n') fl
section
variable {w0 w1 w2 w3 w4 w5:ah}{tt:List ah}{B:List Tn}{a lw:ai}{r:Nat}{X:Tr}{xs:List Tr}{S:lr}{Q:WK}{E:ah→lr→Prop}
def mZ.ok_standard (c:mZ w0 w1 w2 w3 w4 w5 tt B) {I:Nat→Tr→List Tr→Prop}(hI:Ny [w0,w1,w2,w3,w4,w5] B I) (h0:I m X xs) (hm:m≤60) (ha:S a=aa (.bP (B.map mK))) (hl:S lw=aa (.bP (xs.map j5))) (hr:116≤r)
  (h:∀S' f ps,Sub S S'→wb [w0,w1,w2,w3,w4,w5] B X xs ps→ps.length≤60→S' f=aa (.bP (ps.map mB))→Q (.ref f) S'):AE (r+1) [.ref a, .bW [j5 X, .ref lw]] S Q E:=by
 rw[AE,uB];refine⟨rfl,?_⟩;rw[KO];ext;refine⟨aP _,λf hf=>?_⟩;rw[JK];ext;rw[ME];ext;refine⟨λn σ S'=>∃(X':Tr) (xs':List Tr) (ps:List (List Int)) (l':ai) (y4:Option W),σ=[aa (.ref a),aa (.bW [j5 X, .ref lw]),aa (.ref f),aa (.bW [j5 X', .ref l']),y4]∧I n X' xs'∧ps.length+n≤60∧Sub S S'∧S' f=aa (.bP (ps.map mB))∧S' l'=aa (.bP (xs'.map j5))∧f≠l'∧ ∀rest,wb [w0,w1,w2,w3,w4,w5] B X' xs' rest→wb [w0,w1,w2,w3,w4,w5] B X xs (ps++rest),⟨m,X,xs,[],lw,none,rfl,h0,by simpa using hm, .bR .refl hf,mR,keep hl hf,(by rintro rfl;rw[hl]at hf;cases hf),λrest z=>z⟩,?_⟩
 rintro n σ S' ⟨X',xs',ps,l',y4,rfl,i1,i2,i3,i4,i5,fl',i6⟩;obtain⟨sX,mX⟩:=hI.sh i1;obtain⟨rX,lX,nX⟩:=hI.ro i1;have wX:=hI.wy i1;ext;rw[show nC [j5 X',W.ref l'] 1=aa (.ref l') from rfl];dsimp only;obtain⟨r',er⟩:∃r',r=r'+1:=⟨r - 1,by lia⟩
 have e1:vD r=vD (r'+1):=by rw[er]
 rw[e1];refine KC c.K i5 (λx hx=>⟨(wX x hx).1.w,(wX x hx).2⟩) (by lia) (by lia) ?_;ext;cases e:xs'.all Tr.dP with
 |true=>
  simp only[iJ,cF,if_false];rw[HV];ext;refine⟨_, .refl,h S' f ps i3 ?_ (by lia) i4⟩;have:=i6 [] (.nil e);rw[bg]at this;exact this
 |false=>
  simp only[kz,if_true];obtain⟨q,t,us,hq,o,hd⟩:=c.fst_some sX rX e;obtain⟨gg,m',hm',im⟩:=hI.go i1 o hd e;rw[Nw];refine QQ i4 (by lia) (ZR c (λx hx=>(wX x hx).1) sX mX rX (i3 _ _ ha) i5 nX (by lia) hq λS2 s2=>Wk (s2 _ _ i4) (by lia) ?_);have s3:Sub S (bR S2 f (.bP ((ps++[q]).map mB))):= .bR (i3.trans s2) hf;refine Uj c sX mX rX o gg lX (s3 _ _ ha) (by rw[nO fl'.symm];exact s2 _ _ i5) (by lia) λS4 l4 s4 n4 f4=>?_;refine⟨m',S4,hm', .refl,_,_,ps++[q],l4,_,rfl,im,by rw[bc,cB];lia,s3.trans s4,s4 _ _ mR,f4,(by rintro rfl;rw[mR]at n4;cases n4),λrest z=>?_⟩
  have:=i6 (q::rest) (.cons e hq o hd z);rw[bD];exact this
end
section
variable {w0 w1 w2 w3 w4 w5:ah}{tt:List ah}{B:List Tn}
theorem Mi:∀(ts:List Tr) (i j:Nat),ts[i]? =aa x→x.ms B m≤nv B m (λ_=>1) j ts
 | [],i,j,h=>by cases h
 |t::ts,0,j,h=>by
  cases h;rw[nv];lia
 |t::ts,i+1,j,h=>by
  rw[bU]at h;have:=Mi (m:=m) ts i (j+1) h;rw[nv];lia
def ZZ (u:Up B x q):1≤x.ms B mN:=by
 induction u with
 | @here h ts t e=>
  rw[uD e];have:mN.c1=1:=rfl;lia
 | @sgn h ts i x q e hi _ ih=>
  rw[uU e];have:=Mi (B:=B) (m:=mN) ts i 0 hi;lia
 | @tit h ts t i x e q et he hi _ ih=>
  rw[uD et];have:mN.c1=1:=rfl;lia
theorem Dr.roads (d:Dr w0 w1 w2 w3 w4 w5 tt B):∀(xs:List Tr) {t:Tr},nN [w0,w1,w2,w3,w4,w5] B t xs→Cl w0 w1 w2 w3 w4 w5 B t→(∀x∈xs,Wy [w0,w1,w2,w3,w4,w5] B x∧Cl w0 w1 w2 w3 w4 w5 B (ak B x)∧Cl w0 w1 w2 w3 w4 w5 B (b7 B x))∧Cl w0 w1 w2 w3 w4 w5 B (oo B t xs)
 | [],t,_,h=>⟨λx hx=>(by cases hx),h⟩
 |x::xs,t,⟨x1,x2,x3⟩,h=>by
  have h1:Cl w0 w1 w2 w3 w4 w5 B (ak B x):=by rw[x2];exact h
  have h2:=d.cl x1 h1;obtain⟨k1,k2⟩:=Dr.roads d xs x3 h2;refine⟨λy hy=>?_,k2⟩;obtain rfl |hy:=az.mp hy
  ·exact⟨x1,h1,h2⟩
  ·exact k1 y hy
theorem Dr.lok (d:Dr w0 w1 w2 w3 w4 w5 tt B):∀(os:List Tr) {x t:Tr},Wy [w0,w1,w2,w3,w4,w5] B x→ak B x=t→nN [w0,w1,w2,w3,w4,w5] B t os→Cl w0 w1 w2 w3 w4 w5 B t→ue B x os
 | [],x,t,_,_,_,_=>trivial
 |o::os,x,t,hx,ex,⟨o1,o2,o3⟩,h=>by
  have m:=d.c.K.moved hx o1 (by rw[ex,o2]);have h1:Cl w0 w1 w2 w3 w4 w5 B (b7 B o):=d.cl o1 (by rw[o2];exact h);exact⟨(d.cl m.wy (by rw[m.sr];exact h1)).sm,Dr.lok d os m.wy m.sr o3 h1⟩
theorem Dr.gok (d:Dr w0 w1 w2 w3 w4 w5 tt B):∀(xs:List Tr) {os:List Tr}{t:Tr},nN [w0,w1,w2,w3,w4,w5] B t xs→nN [w0,w1,w2,w3,w4,w5] B t os→Cl w0 w1 w2 w3 w4 w5 B t→xp B xs os
 | [],os,t,_,_,_=>trivial
 |x::xs,os,t,⟨x1,x2,x3⟩,ho,h=>by
  obtain⟨h1,_⟩:=uW d.c.K os x1 x2 ho;exact⟨d.lok os x1 x2 ho h,Dr.gok d xs x3 h1 (d.cl x1 (by rw[x2];exact h))⟩
def Dr.gg (d:Dr w0 w1 w2 w3 w4 w5 tt B) {xs os:List Tr}{t:Tr}(hx:nN [w0,w1,w2,w3,w4,w5] B t xs) (ho:nN [w0,w1,w2,w3,w4,w5] B t os) (h:Cl w0 w1 w2 w3 w4 w5 B t):ph B xs os:=
 ⟨λx k=>((d.roads xs hx h).1 x k).2.2.sm,λx k=>((d.roads os ho h).1 x k).2.2.sm,d.gok xs hx ho h⟩
end
section
variable {ws:List ah}{B:List Tn}
theorem HI (K:Bk3 ws B):∀(os:List Tr) {x t:Tr},Wy ws B x→ak B x=t→nN ws B t os→(qJ B x os).ne B≤x.ne B
 | [],x,t,_,_,_=>aA _
 |o::os,x,t,hx,ex,⟨o1,o2,o3⟩=>by
  have m:=K.moved hx o1 (by rw[ex,o2]);have h1:=HI K os m.wy m.sr o3;have h2:=m.ne;rw[qJ];lia
theorem HX (K:Bk3 ws B):∀(xs os:List Tr) {t:Tr},nN ws B t xs→nN ws B t os→(∀x∈xs,x.ne B≤n)→nR B (oE B xs os)≤nR B xs∧ ∀x∈oE B xs os,x.ne B≤n
 | [],os,t,_,_,_=>⟨aA _,λx hx=>(by cases hx)⟩
 |x::xs,os,t,⟨x1,x2,x3⟩,ho,hn=>by
  obtain⟨h1,_⟩:=uW K os x1 x2 ho;obtain⟨k1,k2⟩:=HX K xs _ x3 h1 λy hy=>hn y (aI _ hy);have h2:=HI K os x1 x2 ho;have h3:=hn x aK;rw[oE,nR,nR];refine⟨by lia,λy hy=>?_⟩;obtain rfl |hy:=az.mp hy
  ·lia
  ·exact k2 y hy
end
structure Qi (w0 w1 w2 w3 w4 w5:ah) (B:List Tn) (m:Nat) (X:Tr) (xs:List Tr):Prop where
  cl:Cl w0 w1 w2 w3 w4 w5 B X
  ro:nN [w0,w1,w2,w3,w4,w5] B X xs
  le:xs.length≤700
  nr:nR B xs≤7
  ne:∀x∈xs,x.ne B≤5
  e:X.ms (hk w0 w1) mT=m
inductive Rw (ws:List ah) (B:List Tn):Tr→List (List Int)→Tr→Prop
 |nil {X:Tr}:Rw ws B X [] X
 |cons {X Z:Tr}{us:List Tr}{q:List Int}{t:Tn}{ps:List (List Int)}:Ou ws B X q t us→Rw ws B (toO X q t us) ps Z→Rw ws B X (q::ps) Z
section
variable {w0 w1 w2 w3 w4 w5:ah}{tt:List ah}{B:List Tn}
def Dr.sti (d:Dr w0 w1 w2 w3 w4 w5 tt B):Ny [w0,w1,w2,w3,w4,w5] B (Qi w0 w1 w2 w3 w4 w5 B) where
  sh:=λi=>⟨i.cl.sh,i.cl.sm⟩
  ro:=λi=>⟨i.ro,i.le,i.nr⟩
  wy:=λi x hx=>by
    obtain⟨h1,h2,_⟩:=(d.roads _ i.ro i.cl).1 x hx;exact⟨⟨h1,(d.c.K.fitw h1 h2.sm).1,i.ne x hx⟩,h2.sm⟩
  go:=λ{m X xs q t us} i o hd hq=>by
    have hX:=i.cl.sh;have ws:=o.wy d.c.K hX;have es:=o.ak d.c.K hX;have eg:=o.b7 d.c.K hX;have ho:nN [w0,w1,w2,w3,w4,w5] B X [wyO X q t us]:=⟨ws,es,trivial⟩;have k1:=zO d.c.K _ _ i.ro ho;obtain⟨k2,k3⟩:=HX d.c.K _ _ i.ro ho i.ne;have k4:=d.cl ws (by rw[es];exact i.cl);have k5:=d.ms (m:=mT) ⟨rfl,by decide⟩ _ (aA _) ws
    have k6:=ZZ ((Ou.up d.c (o.tt d.c.K) o.sh q hX o.hat q).mpr rfl);have k7:(mT.c1 - 3*mT.c0)=1:=rfl;have k8:=i.e;have k9:=i.nr;rw[es,eg,k7,k8]at k5;rw[eg]at k4;rw[show oo B X [wyO X q t us]=toO X q t us from eg]at k1;refine⟨d.gg i.ro ho i.cl,_,?_,k4,k1,(by rw[Cr];exact i.le),(by lia),k3,rfl⟩;have:(X.bR q (.nd t.1 us)).ms B mN=(wyO X q t us).ms B mN:=rfl;lia
theorem Bk3.quiet_end (K:Bk3 ws B):∀(xs:List Tr) {X:Tr},xs.all Tr.dP=true→nN ws B X xs→oo B X xs=X
 | [],X,_,_=>rfl
 |x::xs,X,h,⟨_,x2,x3⟩=>by
  rw[e_,bT]at h;have sg:=xn x h.1;have e1:L2.ak B x=x:=rK K.b.ti x sg;have e2:L2.b7 B x=x:=rK K.b.ti x sg;rw[oo,Bk3.quiet_end K xs h.2 x3,e2,←e1,x2]
def mZ.std_rw (c:mZ w0 w1 w2 w3 w4 w5 tt B) (s:wb [w0,w1,w2,w3,w4,w5] B X xs ps):Sh [w0,w1,w2,w3,w4,w5] B X→nN [w0,w1,w2,w3,w4,w5] B X xs→Rw [w0,w1,w2,w3,w4,w5] B X ps (oo B X xs):=by
 induction s with
 | @nil X xs h=>
  intro _ hr;rw[c.K.quiet_end xs h hr];exact .nil
 | @cons X xs us q t ps h h1 o hd _ ih=>
  intro hX hr;have ws:=o.wy c.K hX;have es:=o.ak c.K hX;have eg:=o.b7 c.K hX;have ho:nN [w0,w1,w2,w3,w4,w5] B X [wyO X q t us]:=⟨ws,es,trivial⟩;have e0:oo B X [wyO X q t us]=toO X q t us:=eg;have dr:=zO c.K xs _ hr ho;have de:=K9 c.K xs _ hr ho;rw[e0]at dr de;obtain⟨_,w,sr,_⟩:=uW c.K xs ws es hr;have q0:=(c.done hX o hr w).mp hd;have:=ih (o.to c.K hX) dr;rw[de,oE,oE,oo,oo]at this;have e3:b7 B (qJ B (wyO X q t us) xs)=oo B X xs:=by
   rw[←sr];have sg:=xn _ q0;rw[b7,ak,rK c.K.b.ti _ sg,rK c.K.b.ti _ sg]
  rw[e3]at this;exact .cons o this
end
def Bk3.g1S (K:Bk3 ws B):pF (oh 1) B:=⟨λt ht=>(K.b.lf t ht).br,λt ht=>(K.b.lf t ht).dp,λt ht=>by
 have h1:=(K.b.lf t ht).wt;have h2:=(K.b.lf t ht).nb;show t.2.1.aq≤20;lia⟩
theorem Ma{G:lr→Prop}(K:Bk3 ws B) (hG:G S) (ha:S a=aa (.bP (B.map mK))) (hr:70≤r):∀(xs:List Tr) {t:Tr}{y1 y3:Option W},nN ws B t xs→t.bo=true→((∀x∈xs,(b7 B x).bo=true)→ ∀y2 y3,D.nx [aa (.ref a),y1,y2,y3] S)→((∃x∈xs,(b7 B x).bo=false)→ ∀σ,E "TooGreat" σ S)→mO (mx 3) (ye (r+1) mH) E D G (xs.map j5) [aa (.ref a),y1,aa (j5 t),y3] S
 | [],t,y1,y3,_,_,h,_=>h (λ_ hx=>nomatch hx) _ _
 |x::xs,t,y1,y3,⟨h1,h2,h3⟩,hs,h,hE=>by
  have e1:x.mk B (oh 1)=ak B x:=by rw[P1]
  have sx:(ak B x).bo=true:=by rw[h2];exact hs
  obtain⟨d1,w1,a1,_⟩:=K.fitw h1 sx;obtain⟨b1,b2⟩:=qV hs;rw[aC];refine pU λN hN=>?_;rw[rp];simp only[ye];ext;refine Qg ha K.g1S d1 (by lia) a1 (by lia) (Cw (λt ht=>aY (K.g1S.wt t ht) (by decide)) _ (by lia)) (λ_=>?_) λz=>?_
  ·rw[e1,h2,xj 60 _ _ (by lia),yB]
   try ext
   refine K.ok_goalX h1 sx ha (by lia) (λz=>?_) λz=>hE ⟨x,aK,z⟩ _;refine hN _ _ _ .refl hG (Ma K hG ha hr xs h3 z (λk=>h λu hu=>?_) λ⟨u,hu,e⟩=>hE ⟨u,aI _ hu,e⟩);obtain e |e:=az.mp hu
   ·rw[e];exact z
   ·exact k u e
  ·rw[e1,sx]at z;cases z
def Qs{X:ah→lr→Prop}(K:Bk3 ws B) (ha:S a=aa (.bP (B.map mK))) (hl:S l=aa (.bP (xs.map j5))) (hx:nN ws B t xs) (hs:t.bo=true) (hr:80≤r) (h:(∀x∈xs,(b7 B x).bo=true)→Q (.bl true) S) (hX:(∃x∈xs,(b7 B x).bo=false)→X "TooGreat" S):xx (r+1) [.ref a, .bW [j5 t, .ref l]] S Q X:=by
 obtain⟨b1,b2⟩:=qV hs;obtain⟨r',er⟩:∃r',r=r'+5:=⟨r - 5,by lia⟩
 have e1:sG r=sG (r'+5):=by rw[er]
 rw[xx];ext;rw[e1];refine Pz b1 b2 ?_;rw[show nC [j5 t,W.ref l] 1=aa (.ref l) from rfl];dsimp only
 try ext
 rw[m8 hl];have e2:ye r mH=ye (r'+4+1) mH:=by rw[er]
 rw[e2];refine Ma K hl ha (by lia) xs hx hs (λk y2 y3=>?_) λk σ=>hX k
 try ext
 exact⟨_, .refl,h k⟩
def S8{X:ah→lr→Prop}(K:Bk3 ws B) (ha:S a=aa (.bP (B.map mK))) (hl:S l=aa (.bP (xs.map j5))) (hx:nN ws B t xs) (hs:t.bo=true) (hr:82≤r) (h:(∀x∈xs,(b7 B x).bo=true)→Q (.bl true) S) (hX:(∃x∈xs,(b7 B x).bo=false)→Q (.bl false) S):Cj (r+1) [.ref a, .bW [j5 t, .ref l]] S Q X:=by
 obtain⟨r',er⟩:∃r',r=r'+1:=⟨r - 1,by lia⟩
 have e1:xx r=xx (r'+1):=by rw[er]
 rw[Cj];ext;rw[e1];exact Qs K ha hl hx hs (by lia) (λk=>⟨_, .refl,h k⟩) λk=>⟨by simp,_, .refl,hX k⟩
structure si (w0 w1 w2 w3 w4 w5:ah) (B:List Tn) (X:Tr) (qs:List (List Int)) (ss Ys:List Tr):Prop where
  P:qR [w0,w1,w2,w3,w4,w5] B X qs ss Ys
  n:qs.length≤7
  cl:Cl w0 w1 w2 w3 w4 w5 B (pV X Ys)
def Zz:nC ((qs++[q]).map mB) (-1)=aa (mB q):=by
 rw[bK];exact B' _ _
def Dr.clO (d:Dr w0 w1 w2 w3 w4 w5 tt B) (h:Cl w0 w1 w2 w3 w4 w5 B X) (o:Ou [w0,w1,w2,w3,w4,w5] B X q t us):Cl w0 w1 w2 w3 w4 w5 B (toO X q t us):=by
 have:=d.cl (o.wy d.c.K h.sh) (by rw[o.ak d.c.K h.sh];exact h);rw[o.b7 d.c.K h.sh]at this;exact this
def Dr.ok_tO{E:ah→lr→Prop}(d:Dr w0 w1 w2 w3 w4 w5 tt B) (fb:S a=aa (.bP (B.map mK))) (h:Cl w0 w1 w2 w3 w4 w5 B X) (o:Ou [w0,w1,w2,w3,w4,w5] B X q t us) (hr:120≤r) (k:∀S',Sub S S'→Q (j5 (toO X q t us)) S'):wQ (r+1) [.ref a,j5 X,mB q] S Q E:=by
 obtain⟨g1,g2⟩:=qV h.sm;have sw:=Vf d.c.b o.ht o.hl o.hat h.sh.hdT;have hq:=uN _ o.hat;exact Zi (r:=r) d.c.b d.c.G d.c.L fb o.ht o.hl o.hat (by lia) (by lia) sw.2.2 (by lia) k
theorem E9 (d:Dr w0 w1 w2 w3 w4 w5 tt B) (fb:S0 a=aa (.bP (B.map mK))) (h2:S0 l2=none) (nc2:lc≠l2) (hr:130≤r):∀(cs:List Int) {S:lr}{qs:List (List Int)}{ss Ys:List Tr}{x5 x6:Option W},si w0 w1 w2 w3 w4 w5 B X qs ss Ys→Sub S0 S→S lc=aa (.bP F)→S l2=aa (.bP (qs.map mB))→
  (∀S' qs ss Ys x5 x6,si w0 w1 w2 w3 w4 w5 B X qs ss Ys→Sub S0 S'→S' l2=aa (.bP (qs.map mB))→D.nx [aa (.ref a),aa (j5 X),aa (.ref lc),aa (j5 (pV X Ys)),aa (.ref l2),x5,x6] S')→
  mO (mx 5) (EE (r+1) mH) E D (λS'=>S' lc=aa (.bP F)) (cs.map W.int) [aa (.ref a),aa (j5 X),aa (.ref lc),aa (j5 (pV X Ys)),aa (.ref l2),x5,x6] S
 | [],S,qs,ss,Ys,x5,x6,k,sb,fc,f2,h=>by
  simp only[cy,mO];exact h S qs ss Ys _ _ k sb f2
 |n::cs,S,qs,ss,Ys,x5,x6,k,sb,fc,f2,h=>by
  have hs:=k.cl.sh;have sm:=k.cl.sm;have kn:=k.n;rw[aC];refine pU λN hN=>?_;simp only[EE];ext;refine d.c.ok_open (r:=r) (sb _ _ fb) hs sm (by lia) λS1 kn s1 fk=>?_;replace fc:=s1 _ _ fc;replace f2:=s1 _ _ f2;replace sb:=sb.trans s1;have skip:N [aa (.ref a),aa (j5 X),aa (.ref lc),aa (j5 (pV X Ys)),aa (.ref l2),aa (.int n),aa (.ref kn)] S1:=hN _ _ S1 .refl fc (E9 d fb h2 nc2 hr cs k sb fc f2 h)
  try ext
  simp only[m8 fk,ay]
  try ext
  by_cases hp:(0:Int)<(((pV X Ys).op B []).length:Int)
  ·rw[if_pos hp];simp only[m8 f2,ay];by_cases h8:(qs.length:Int)<7
   ·rw[if_pos h8];obtain⟨w,ew,mw⟩:=FP (xs:=((pV X Ys).op B []).map encX) (i:=n % (((pV X Ys).op B []).length:Int)) (c_ _ (by lia)) (by rw[ay];exact dj _ (by lia));obtain⟨u,hu,rfl⟩:=aT.mp mw;rw[ew];refine⟨trivial,hp,?_⟩;obtain⟨q,t,us,eq,o⟩:=zb d.c.K _ (aA _) hs hu;rw[aX]at eq;simp only[encX];ext;have eq2:qs.map mB++[mB q]=(qs++[q]).map mB:=by rw[bK];rfl
    rw[eq,m8 f2,eq2];have fc':bR S1 l2 (Ob.bP ((qs++[q]).map mB)) lc=aa (.bP F):=by rw[nO nc2];exact fc
    have f2':bR S1 l2 (Ob.bP ((qs++[q]).map mB)) l2=aa (.bP ((qs++[q]).map mB)):=mR;have sb':Sub S0 (bR S1 l2 (Ob.bP ((qs++[q]).map mB))):=λe ob ed=>by
     by_cases hd:e=l2
     ·rw[hd,h2]at ed;cases ed
     ·rw[nO hd];exact sb e ob ed
    refine⟨qE (by rw[ay];lia),?_⟩;generalize bR S1 l2 (Ob.bP ((qs++[q]).map mB))=S2 at fc' f2' sb'⊢
    try rw[m8 f2']
    rw[Zz];dsimp only;refine d.ok_tO (r:=r) (sb' _ _ fb) k.cl o (by lia) λS3 s3=>?_;have c':=d.clO k.cl o;have k':si w0 w1 w2 w3 w4 w5 B X (qs++[q]) (ss++[wyO (pV X Ys) q t us]) (Ys++[toO (pV X Ys) q t us]):=⟨k.P.snoc d.c.K o c'.sm,by rw[bc];simp;lia,by rw[FO];exact c'⟩
    have:=E9 (E:=E) d fb h2 nc2 hr cs (x5:=aa (.int n)) (x6:=aa (.ref kn)) k' (sb'.trans s3) (s3 _ _ fc') (s3 _ _ f2') h;rw[FO]at this;exact hN _ _ _ .refl (s3 _ _ fc') this
   ·rw[if_neg h8];exact skip
  ·rw[if_neg hp];exact skip
def Vg{S:lr}{Q:WK}{E:ah→lr→Prop}{X:Tr}{cs:List Int}(d:Dr w0 w1 w2 w3 w4 w5 tt B) (fb:S a=aa (.bP (B.map mK))) (fc:S lc=aa (.bP (cs.map W.int))) (k0:si w0 w1 w2 w3 w4 w5 B X [] [] []) (hr:132≤r)
  (h:∀S' l2 qs ss Ys,Sub S S'→si w0 w1 w2 w3 w4 w5 B X qs ss Ys→S' l2=aa (.bP (qs.map mB))→Q (.bW [.ref l2,j5 (pV X Ys)]) S'):A5 (r+1) [.ref a,j5 X, .ref lc] S Q E:=by
 obtain⟨r,rfl⟩:∃r',r=r'+1:=⟨r - 1,by lia⟩
 rw[A5];ext;refine⟨aP _,λl2 hl2=>?_⟩;have nc2:lc≠l2:=by rintro rfl;rw[fc]at hl2;cases hl2
 try ext
 rw[m8 (keep fc hl2)];refine E9 (r:=r) (S0:=S) d fb hl2 nc2 (by lia) cs (ss:=[]) (Ys:=[]) (qs:=[]) k0 (.bR .refl hl2) (keep fc hl2) mR λS' qs ss Ys x5 x6 k sb f2=>?_;ext;exact⟨by decide,S', .refl,h S' l2 qs ss Ys sb k f2⟩
def Yl (d:Dr w0 w1 w2 w3 w4 w5 tt B) (hr:130≤r) (R:Rw [w0,w1,w2,w3,w4,w5] B X ps Z):∀{S:lr}{x3:Option W},Cl w0 w1 w2 w3 w4 w5 B X→S a=aa (.bP (B.map mK))→S lc=aa (.bP F)→(∀S' x3,Sub S S'→D.nx [aa (.ref a),aa (j5 Z),aa (.ref lc),x3] S')→
  mO (mx 3) (Fu (r+1) mH) E D (λS'=>S' lc=aa (.bP F)) (ps.map mB) [aa (.ref a),aa (j5 X),aa (.ref lc),x3] S:=by
 induction R with
 |nil=>
  intro S x3 _ _ _ h;simp only[cy,mO];exact h S _ .refl
 | @cons X Z us q t ps o R ih=>
  intro S x3 cl fb fl h;have ol:=xM B X [];obtain⟨g1,g2⟩:=qV cl.sm;rw[aC];refine pU λN hN=>?_;simp only[Fu];ext;refine d.c.ok_open (r:=r) fb cl.sh cl.sm (by lia) λS1 kn s1 fk=>?_
  try ext
  try dsimp only
  rw[m8 fk];refine qf (λσ=>∃x,σ=[x]) encX (λx=>mB x.1) ?_ (X.op B []) [] _ ⟨none,rfl⟩ (by simp;lia) (λx hx σ R hI hR=>?_) ?_
  ·exact fk
  ·obtain⟨y,rfl⟩:=hI;simp only[encX,Nt];ext;exact hR _ _ ⟨_,rfl⟩ .refl
  ·rw[aX];intro l5 h5;have f5:bR S1 l5 (Ob.bP ((X.op B []).map λx=>mB x.1)) l5=aa (.bP (((X.op B []).map λx=>x.1).map mB)):=by rw[mR,bu];rfl
   have s5:Sub S (bR S1 l5 (Ob.bP ((X.op B []).map λx=>mB x.1))):=s1.trans (.bR .refl h5);generalize bR S1 l5 (Ob.bP ((X.op B []).map λx=>mB x.1))=S2 at f5 s5⊢
   try ext
   rw[show((X.op B []).map λx=>mB x.1)=((X.op B []).map λx=>x.1).map mB by rw[bu];rfl,F0,decide_eq_true (o.op d.c.K d.c.F)]
   simp only[iJ,cF,if_false]
   try ext
   refine d.ok_tO (r:=r) (s5 _ _ fb) cl o (by lia) λS3 s3=>?_;have s4:=s5.trans s3;exact hN _ _ _ .refl (s4 _ _ fl) (ih (d.clO cl o) (s4 _ _ fb) (s4 _ _ fl) λS' x3 s'=>h S' x3 (s4.trans s'))
def RZ{E:ah→lr→Prop}(d:Dr w0 w1 w2 w3 w4 w5 tt B) (hr:132≤r) (R:Rw [w0,w1,w2,w3,w4,w5] B X ps Z) (cl:Cl w0 w1 w2 w3 w4 w5 B X) (fb:S a=aa (.bP (B.map mK))) (fl:S lc=aa (.bP (ps.map mB))) (h:∀S',Sub S S'→Q (j5 Z) S'):AH (r+1) [.ref a,j5 X, .ref lc] S Q E:=by
 obtain⟨r,rfl⟩:∃r',r=r'+1:=⟨r - 1,by lia⟩
 rw[AH];ext;rw[m8 fl];refine Yl (r:=r) d (by lia) R cl fb fl λS' x3 s'=>?_;ext;exact⟨S', .refl,h S' s'⟩
theorem I_ (t:Tr):∀i,hh [w0,w1,w2,w3,w4,w5] B (b7 B (fw [w0,w1,w2,w3,w4,w5] B t)) i=hh [w0,w1,w2,w3,w4,w5] B t (i+1)
 |0=>rfl
 |i+1=>by
  show b7 B (fw [w0,w1,w2,w3,w4,w5] B (hh [w0,w1,w2,w3,w4,w5] B (b7 B (fw [w0,w1,w2,w3,w4,w5] B t)) i))=b7 B (fw [w0,w1,w2,w3,w4,w5] B (hh [w0,w1,w2,w3,w4,w5] B t (i+1)));rw[I_ t i]
def QH (t:Tr) (m:Nat):wys [w0,w1,w2,w3,w4,w5] B t (m+1)=fw [w0,w1,w2,w3,w4,w5] B t::wys [w0,w1,w2,w3,w4,w5] B (b7 B (fw [w0,w1,w2,w3,w4,w5] B t)) m:=by
 unfold wys;rw[gp,aC,bu];congr 1;apply dc;intro i _;show fw [w0,w1,w2,w3,w4,w5] B (hh [w0,w1,w2,w3,w4,w5] B t (i+1))=_;rw[I_]
theorem Kz (c:mZ w0 w1 w2 w3 w4 w5 tt B):∀(m:Nat) {t:Tr},Sh [w0,w1,w2,w3,w4,w5] B t→nN [w0,w1,w2,w3,w4,w5] B t (wys [w0,w1,w2,w3,w4,w5] B t m)
 |0,t,_=>trivial
 |m+1,t,h=>by
  have f:=wR c.b c.G c.K h;obtain⟨g1,g2,_,_⟩:=c.K.b7 f.wy;rw[QH];exact⟨f.wy,f.sr,Kz c m ⟨g1,g2⟩⟩
theorem mZ.quiet_rest (c:mZ w0 w1 w2 w3 w4 w5 tt B):∀(xs:List Tr) {t:Tr},nN [w0,w1,w2,w3,w4,w5] B t xs→pX [w0,w1,w2,w3,w4,w5] B t→xs.all Tr.dP=true
 | [],t,_,_=>rfl
 |x::xs,t,⟨x1,x2,x3⟩,h=>by
  obtain⟨e1,e2⟩:=c.stay x1 (by rw[x2];exact h);have q1:x.dP=true:=(c.up_quiet x1).mpr λq u=>c.no_up u (by rw[e1];exact(c.shs x1).sig c.K);rw[e_,q1,mZ.quiet_rest c xs x3 (by rw[e2,x2];exact h)];rfl
def mZ.within_rest (c:mZ w0 w1 w2 w3 w4 w5 tt B) {xs os:List Tr}{t:Tr}(hx:nN [w0,w1,w2,w3,w4,w5] B t xs) (ho:nN [w0,w1,w2,w3,w4,w5] B t os) (h:pX [w0,w1,w2,w3,w4,w5] B (oo B t os)):(oE B xs os).all Tr.dP=true:=c.quiet_rest _ (zO c.K xs os hx ho) h
theorem FD:∀(xs:List Tr) {t:Tr},nN ws B t xs→Rn ws B xs.length t (oo B t xs)
 | [],t,_=> .z
 |x::xs,t,⟨x1,x2,x3⟩=>by
  have:=Rn.s x1 (FD xs x3);rw[x2]at this;exact this
def mZ.one_rest (c:mZ w0 w1 w2 w3 w4 w5 tt B) {xs os:List Tr}{X:Tr}(hX:Sh [w0,w1,w2,w3,w4,w5] B X) (hx:nN [w0,w1,w2,w3,w4,w5] B X xs) (ho:nN [w0,w1,w2,w3,w4,w5] B X os) (h1:(oo B X xs).op B []=[]) (h2:(oo B X os).op B []=[]):oo B X xs=oo B X os:=by
 have r1:=c.rest hX (FD xs hx) (FQ c.K c.F h1);have r2:=c.rest hX (FD os ho) (FQ c.K c.F h2);rw[←r1]at h1;rw[←r2]at h2;obtain l |l:=Nat.le_total xs.length os.length
 ·have:=Dy c hX h1 (os.length - xs.length);rw[show xs.length+(os.length - xs.length)=os.length by lia]at this
  rw[←r1,←r2,this]
 ·have:=Dy c hX h2 (xs.length - os.length);rw[show os.length+(xs.length - os.length)=xs.length by lia]at this
  rw[←r1,←r2,this]
theorem M5:∀(xs ys:List Tr) (t:Tr),oo B t (xs++ys)=oo B (oo B t xs) ys
 | [],ys,t=>rfl
 |x::xs,ys,t=>M5 xs ys _
theorem M7 (t:Tr):∀k,oo B t (wys [w0,w1,w2,w3,w4,w5] B t k)=hh [w0,w1,w2,w3,w4,w5] B t k
 |0=>rfl
 |k+1=>by rw[OD,M5];rfl
def qR.roa (K:Bk3 ws B) (P:qR ws B X qs ss Ys):nN ws B X ss∧oo B X ss=pV X Ys:=by
 induction P with
 |nil _ _=>exact⟨trivial,rfl⟩
 | @cons X q t us qs ss Ys h sm o _ ih=>
  have e:=o.b7 K h;refine⟨⟨o.wy K h,o.ak K h,by rw[e];exact ih.1⟩,?_⟩
  rw[oo,e];exact ih.2
theorem EL (hB:∀t∈B,p8 t.1):∀(n:Nat) {x:Tr},x.aq≤n→x.hd ov→x.ne B=0
 |0,x,hn,_=>by have:=rT x;lia
 |n+1, .bl k,hn,h=>by rw[Tr.hd]at h;exact h.elim
 |n+1, .nd s ts,hn,h=>by
  rw[Tr.hd,mW]at h;rw[Tr.aq]at hn;rw[Au (qg hB h.1)];have:=uy (B:=B) (n:=0) (ts:=ts) λt ht=>by
   rw[EL hB n (by have:=pe ht;lia) (h.2 t ht)];exact aA _
  lia
theorem KM (hB:∀t∈B,p8 t.1):∀(q:List Int) {X v:Tr},X.hd ov→X.at q=aa v→(X.bR q y).ne B≤y.ne B
 | [],X,v,h,e=>by rw[tq];exact aA _
 |i::q, .bl n,v,h,e=>by cases e
 |i::q, .nd s ts,v,h,e=>by
  obtain⟨w,h0,h1,h2⟩:=pR e;rw[Tr.hd,mW]at h;rw[tI h1,Au (qg hB h.1)];refine uy λt ht=>?_;obtain g |g:=lE ht
  ·rw[EL hB _ (aA _) (h.2 t g)];lia
  ·rw[g];exact KM hB q (h.2 w (aJ h1)) h2
def Ou.ne{w0 w1 w2 w3 w4 w5:ah}{tt:List ah}{B:List Tn}(c:mZ w0 w1 w2 w3 w4 w5 tt B) (o:Ou [w0,w1,w2,w3,w4,w5] B X q t us) (hX:Sh [w0,w1,w2,w3,w4,w5] B X):(wyO X q t us).ne B≤1:=by
 have h1:=KM (B:=B) c.K.b.ti (y:= .nd t.1 us) q (hX.sig c.K) o.hat;have h2:=uy (B:=B) (n:=0) (ts:=us) λu hu=>by
  rw[EL c.K.b.ti _ (aA _) ((o.sh u hu).sig c.K)];exact aA _
 rw[Dj (o.tt c.K)]at h1;unfold wyO;lia
def qR.ne (c:mZ w0 w1 w2 w3 w4 w5 tt B) (P:qR [w0,w1,w2,w3,w4,w5] B X qs ss Ys):nR B ss≤qs.length∧ ∀x∈ss,x.ne B≤5:=by
 induction P with
 |nil _ _=>exact⟨aA _,λx hx=>by cases hx⟩
 | @cons X q t us qs ss Ys h sm o _ ih=>
  have h1:=o.ne c h;rw[nR,aU];refine⟨by have:=ih.1;lia,λx hx=>?_⟩;obtain rfl |hx:=az.mp hx
  ·lia
  ·exact ih.2 x hx
def Uv (h:∀(S':lr) (aw at' ab:ai) (w0 w1 w2 w3 w4 w5:ah) (tt:List ah) (B:List Tn),Dr w0 w1 w2 w3 w4 w5 tt B→S' aw=aa (.bP (qq w0 w1 w2 w3 w4 w5))→S' ab=aa (.bP (B.map mK))→T E D (aa (.c7 ns)::aa (.ref aw)::aa (.ref at')::aa (.ref ab)::τ) S') :
  Fb 199 (E4 199 (Dd 199 T)) E D (aa (.c7 ns)::x1::x2::x3::τ) S:=by
 unfold Fb E4 Dd;ext;refine xL (by decide) λc0=>xL (by decide) λc1=>LG λaw ws hw0 hws=>?_;obtain⟨w0,w1,w2,w3,w4,w5,rfl,G⟩:=R3 hws;have fw:bR S aw (Ob.bP ([w0,w1,w2,w3,w4,w5].map W.str)) aw=aa (.bP (qq w0 w1 w2 w3 w4 w5)):=mR;generalize bR S aw (Ob.bP ([w0,w1,w2,w3,w4,w5].map W.str))=S1 at fw⊢;refine xL (by decide) λc2=>xL (by decide) λc3=>LG λat' tt ht0 htt=>?_;have ft:bR S1 at' (Ob.bP (tt.map W.str)) at'=aa (.bP (tt.map W.str)):=mR;replace fw:=keep (x:=Ob.bP (tt.map W.str)) fw ht0;generalize bR S1 at' (Ob.bP (tt.map W.str))=S2 at fw ft⊢;have T':=XY htt;refine ZF (r:=192) T'.len (by decide) fw ft λab B n m hb0 e1 e2 e3=>?_;have nb:∀t∈B,t.2.1.nb≤3:=λt ht=>by
  have h1:t.2.1∈bO n w0 w2 w3++bO m w1 w2 w3:=by rw[←e1];exact List.mem_map_of_mem ht
  obtain z |z:=bq.mp h1
  ·exact(E8 _ _ _ _ _ z).2.2
  ·exact(E8 _ _ _ _ _ z).2.2
 have b:mF w0 w1 w2 w3 w4 w5 tt B:=⟨⟨n,m,e1⟩,e2,λt ht=>SZ (nb t ht) false _ (e3 t ht)⟩;exact h _ aw at' ab w0 w1 w2 w3 w4 w5 tt B ⟨⟨b,T',G⟩,e3⟩ (keep (x:=Ob.bP (B.map mK)) fw hb0) mR
def Wf (d:Dr w0 w1 w2 w3 w4 w5 tt B) (fw:S aw=aa (.bP (qq w0 w1 w2 w3 w4 w5))) (fb:S ab=aa (.bP (B.map mK))) (h:∀S' X,si w0 w1 w2 w3 w4 w5 B X [] [] []→X.ms (hk w0 w1) mT≤15→X.hn (hk w0 w1)≤4→S' ab=aa (.bP (B.map mK))→T E D [aa (.c7 ns),aa (.ref aw),a2,aa (.ref ab),aa (j5 X),a5,a6,a7,a8,a9,a10,a11] S') :
  Dw 199 T E D [aa (.c7 ns),aa (.ref aw),a2,aa (.ref ab),a4,a5,a6,a7,a8,a9,a10,a11] S:=by
 have bk:=d.c.bk;have ne:B≠ []:=by
  have h:=d.c.b.len;rintro rfl;simp at h
 rw[Dw];ext;intro ac hc;refine ZK (r:=189) (m:=7) (by decide) mR (keep fb hc) (keep fw hc) bk ne λp v S' sub pa po pw pn=>?_;have hdp:=Ow p;have fb:=sub _ _ (keep fb hc);obtain⟨h1,h2,h3,h4,h5⟩:=d.c.plh po;have hz:∀x:Int,0≤x→x<8→nI 8 x=0:=λx h0 h1=>by
  unfold nI;have:x / 8=0:=Int.ediv_eq_zero_of_lt h0 h1;rw[this];rfl
 have ez:p.ev B (nI 8)=p.ev B zr:=vR po λx h0 h1=>by rw[hz x h0 h1];rfl
 have wy1:=d.c.K.wy (c:=nI 1) (po.up λx hx=>aI _ (aI _ hx));have es:ak B (p.ev B (nI 1))=p.ev B (nI 8):=by
  show(p.ev B (nI 1)).mk B (λt=>t.2.1)=_;rw[wA bk po];exact vR po λx h0 h1=>by
   rw[hz x h0 h1];have:=wU 1 x;unfold vg;split<;>lia
 have sh:Sh [w0,w1,w2,w3,w4,w5] B (p.ev B (nI 8)):=by rw[←es];exact Sh.of d.c.K wy1
 rw[←ez]at h2 h3 h4 h5;have pw2:(p.wt - p.nt+7)*2 ^ p.nt≤22*16:=Nat.mul_le_mul (by lia) (dg (by decide) pn);have pw3:2 ^ p.nt≤2 ^ 4:=dg (by decide) pn;have cl:Cl w0 w1 w2 w3 w4 w5 B (p.ev B (nI 8)):=⟨sh,by lia,by lia⟩
 exact Ki (r:=198) (by decide) fb bk 23 (by lia) (by lia) pa po (by lia) (h S' _ ⟨.nil sh cl.sm,by simp,cl⟩ (by lia) (by lia) fb)
def To (d:Dr w0 w1 w2 w3 w4 w5 tt B) (k:si w0 w1 w2 w3 w4 w5 B X [] [] []) (fb:S ab=aa (.bP (B.map mK))) (h:∀S' l5 qs ss Ys,si w0 w1 w2 w3 w4 w5 B X qs ss Ys→S' ab=aa (.bP (B.map mK))→S' l5=aa (.bP (qs.map mB))→T E D [aa (.c7 ns),a1,a2,aa (.ref ab),aa (j5 X),aa (.ref l5),aa (j5 (pV X Ys)),a7,a8,a9,a10,a11] S') :
  Da 199 T E D [aa (.c7 ns),a1,a2,aa (.ref ab),aa (j5 X),a5,a6,a7,a8,a9,a10,a11] S:=by
 rw[Da];ext;intro lc hc;refine Vg (r:=198) d (keep fb hc) mR k (by decide) λS' l5 qs ss Ys sb k' f5=>?_;ext;exact h S' l5 qs ss Ys k' (sb _ _ (keep fb hc)) f5
def VW (d:Dr w0 w1 w2 w3 w4 w5 tt B) (k:si w0 w1 w2 w3 w4 w5 B X qs ss Ys) (fb:S ab=aa (.bP (B.map mK))) (f5:S l5=aa (.bP (qs.map mB))) (h:∀S' l7,S' ab=aa (.bP (B.map mK))→S' l7=aa (.bP (ss.map j5))→T E D [a0,a1,a2,aa (.ref ab),aa (j5 X),aa (.ref l5),a6,aa (.bW [j5 X, .ref l7]),a8,a9,a10,a11] S') :
  D9 199 T E D [a0,a1,a2,aa (.ref ab),aa (j5 X),aa (.ref l5),a6,a7,a8,a9,a10,a11] S:=by
 obtain⟨e1,e2⟩:=k.P.len;have hn:=k.n;rw[D9];ext;exact V2 (r:=198) ⟨d.c.b,d.c.T,d.c.G,d.rx⟩ k.P fb f5 (by lia) (by decide) λS' l7 sb _ f7=>h S' l7 (sb _ _ fb) f7
section
variable {S:lr}{ab l7 l8:ai}{w0 w1 w2 w3 w4 w5:ah}{tt:List ah}{B:List Tn}{E:WX}{D:mY}{T:WS}{X:Tr}{qs:List (List Int)}{ss Ys os:List Tr}{a0 a1 a2 a3 a4 a5 a6 a7 a8 a9 a10 a11:Option W}
structure x_ (w0 w1 w2 w3 w4 w5:ah) (B:List Tn) (X:Tr) (os:List Tr):Prop where
  r:nN [w0,w1,w2,w3,w4,w5] B X os
  n:os.length≤10
  o:(oo B X os).op B []=[]
def Yd (d:Dr w0 w1 w2 w3 w4 w5 tt B) (k:si w0 w1 w2 w3 w4 w5 B X [] [] []) (hn:X.hn (hk w0 w1)≤4) (fb:S ab=aa (.bP (B.map mK))) (f7:S l7=aa (.bP (ss.map j5))) (h:∀S' l8 os,x_ w0 w1 w2 w3 w4 w5 B X os→S' ab=aa (.bP (B.map mK))→S' l7=aa (.bP (ss.map j5))→S' l8=aa (.bP (os.map j5))→T E D [a0,a1,a2,aa (.ref ab),aa (j5 X),a5,a6,a7,aa (.bW [j5 X, .ref l8]),aa (.bl true),a10,a11] S') :
  DS 199 T E D [a0,a1,a2,aa (.ref ab),aa (j5 X),a5,a6,a7,a8,a9,a10,a11] S:=by
 have cl:Cl w0 w1 w2 w3 w4 w5 B X:=k.cl;have hX:=cl.sh;have rd:=λm=>Kz d.c m hX;have sm:∀i,(hh [w0,w1,w2,w3,w4,w5] B X i).bo=true:=λi=>by
  have:=(d.roads _ (rd i) cl).2.sm;rw[M7]at this;exact this
 rw[DS];ext;refine Q2 (r:=198) (l:=9) d.c fb hX cl.sm (by decide) (by decide) (λj ho S' l8 sb f8=>?_) λj ho=>?_
 ·have hr:(hh [w0,w1,w2,w3,w4,w5] B X j).op B []=[]:=by
   obtain z |z:=ho.2
   ·exact d.rest hX (by lia)
   ·exact z
  have hj:j≤10:=by
   obtain z |z:=gV 9 j
   ·have:=(ho.1 9 z).1;lia
   ·lia
  rw[hr];ext;rw[o5]at f8;exact h S' l8 _ ⟨rd j,by rw[KQ];exact hj,by rw[M7];exact hr⟩ (sb _ _ fb) (sb _ _ f7) f8
 ·have:=ho.2.2.2;rw[sm]at this;cases this
def YL (d:Dr w0 w1 w2 w3 w4 w5 tt B) (k:si w0 w1 w2 w3 w4 w5 B X qs ss Ys) (cl:Cl w0 w1 w2 w3 w4 w5 B X) (R:x_ w0 w1 w2 w3 w4 w5 B X os) (fb:S ab=aa (.bP (B.map mK))) (f7:S l7=aa (.bP (ss.map j5))) (f8:S l8=aa (.bP (os.map j5))) (h:∀S',Sub S S'→T E D [a0,a1,a2,aa (.ref ab),a4,a5,a6,aa (.bW [j5 X, .ref l7]),aa (.bW [j5 X, .ref l8]),aa (.bl true),a10,a11] S') :
  Ej 199 T E D [a0,a1,a2,aa (.ref ab),a4,a5,a6,aa (.bW [j5 X, .ref l7]),aa (.bW [j5 X, .ref l8]),aa (.bl true),a10,a11] S:=by
 obtain⟨e1,e2⟩:=k.P.len;have hn:=k.n;have n8:=R.n;obtain⟨rs,er⟩:=k.P.roa d.c.K;have gg:=d.gg rs R.r cl;rw[Ej];ext;refine S8 (r:=198) d.c.K fb f8 R.r cl.sm (by decide) (λ_=>?_) λ⟨x,hx,z⟩=>?_
 ·try ext
  refine XL (r:=198) d.c.K fb f7 f8 rs R.r cl.sm (by lia) (by lia) (by decide) (λn=>absurd rfl n) (λ_ n=>absurd gg n) λ_ _ S' sb=>?_;rw[d.c.within_rest rs R.r (FQ d.c.K d.c.F R.o)]
  try ext
  exact h S' sb
 ·have:=((d.roads os R.r cl).1 x hx).2.2.sm;rw[z]at this;cases this
def Pj (h:T E D [a0,a1,a2,a3,aa (j5 X),a5,a6,a7,a8,a9,aa (j5 X),a11] S):Ek 199 T E D [a0,a1,a2,a3,aa (j5 X),a5,a6,a7,a8,a9,a10,a11] S:=by
 rw[Ek];ext;exact h
theorem GT (d:Dr w0 w1 w2 w3 w4 w5 tt B) (fb:S ab=aa (.bP (B.map mK))) (f8:S l8=aa (.bP F)):∀(xs:List Tr) {X:Tr}{a11:Option W},nN [w0,w1,w2,w3,w4,w5] B X xs→Cl w0 w1 w2 w3 w4 w5 B X→(∀a11,D.nx [a0,a1,a2,aa (.ref ab),a4,a5,a6,a7,a8,a9,aa (j5 (oo B X xs)),a11] S)→
  mO (mx 11) (Dk 199 mH) E D (λS'=>S' l8=aa (.bP F)) (xs.map j5) [a0,a1,a2,aa (.ref ab),a4,a5,a6,a7,a8,a9,aa (j5 X),a11] S
 | [],X,a11,_,_,h=>by
  simp only[cy,mO];exact h _
 |x::xs,X,a11,⟨x1,x2,x3⟩,cl,h=>by
  have cx:Cl w0 w1 w2 w3 w4 w5 B (ak B x):=by rw[x2];exact cl
  obtain⟨f1,f2,f3,f4⟩:=d.c.K.fitw x1 cx.sm;rw[aC];refine pU λN hN=>?_;simp only[Dk];ext;refine Hf (r:=198) d.c.K.b.nd fb (.inr rfl) d.c.K.b.s2 40 f1 (by lia) f3 (by lia) ?_;rw[AN];exact hN _ _ S .refl f8 (GT d fb f8 xs x3 (d.cl x1 cx) h)
def Zf (d:Dr w0 w1 w2 w3 w4 w5 tt B) (cl:Cl w0 w1 w2 w3 w4 w5 B X) (R:x_ w0 w1 w2 w3 w4 w5 B X os) (fb:S ab=aa (.bP (B.map mK))) (f8:S l8=aa (.bP (os.map j5))) (h:∀a11,T E D [a0,a1,a2,aa (.ref ab),a4,a5,a6,a7,aa (.bW [j5 X, .ref l8]),a9,aa (j5 (oo B X os)),a11] S) :
  EO 199 T E D [a0,a1,a2,aa (.ref ab),a4,a5,a6,a7,aa (.bW [j5 X, .ref l8]),a9,aa (j5 X),a11] S:=by
 rw[EO];ext;rw[show nC [j5 X,W.ref l8] 1=aa (.ref l8) from rfl]
 try ext
 try dsimp only
 rw[m8 f8];exact GT d fb f8 os R.r cl h
def YZ (d:Dr w0 w1 w2 w3 w4 w5 tt B) (cl:Cl w0 w1 w2 w3 w4 w5 B X) (R:x_ w0 w1 w2 w3 w4 w5 B X os) (fb:S ab=aa (.bP (B.map mK))) (f8:S l8=aa (.bP (os.map j5))) (h:∀S',Sub S S'→T E D [a0,a1,a2,aa (.ref ab),a4,a5,a6,a7,aa (.bW [j5 X, .ref l8]),a9,aa (j5 (oo B X os)),a11] S') :
  Em 199 T E D [a0,a1,a2,aa (.ref ab),a4,a5,a6,a7,aa (.bW [j5 X, .ref l8]),a9,aa (j5 (oo B X os)),a11] S:=by
 obtain⟨k1,k2⟩:=d.roads os R.r cl;obtain⟨z1,z2⟩:=qV k2.sm;rw[Em];ext;refine L8 (r:=198) (t:=X) d.c.K fb f8 (λx hx=>⟨(k1 x hx).1,(k1 x hx).2.1.sm⟩) (λx hx=>(k1 x hx).2.2.sm) (by decide) ?_;rw[xj 60 _ _ (by lia),yB]
 try ext
 refine d.c.ok_open (r:=198) fb k2.sh k2.sm (by decide) λS1 kn s1 fk=>?_;rw[R.o]at fk
 try ext
 refine⟨aP _,λb hb=>?_⟩;rw[show nY (bR S1 b (Ob.bP [])) 60 (W.ref kn) (W.ref b)=aa true from Zl (xs:=[]) (keep fk hb) mR]
 try ext
 exact h _ (s1.trans (.bR .refl hb))
def U8 (d:Dr w0 w1 w2 w3 w4 w5 tt B) (k:si w0 w1 w2 w3 w4 w5 B X qs ss Ys) (cl:Cl w0 w1 w2 w3 w4 w5 B X) (R:x_ w0 w1 w2 w3 w4 w5 B X os) (fb:S ab=aa (.bP (B.map mK))) (h:∀S',Sub S S'→T E D [a0,a1,a2,aa (.ref ab),a4,a5,aa (j5 (pV X Ys)),a7,a8,a9,aa (j5 (oo B X os)),a11] S') :
  Ey 199 T E D [a0,a1,a2,aa (.ref ab),a4,a5,aa (j5 (pV X Ys)),a7,a8,a9,aa (j5 (oo B X os)),a11] S:=by
 obtain⟨z1,z2⟩:=qV k.cl.sm;obtain⟨rs,er⟩:=k.P.roa d.c.K;rw[Ey];ext;refine d.c.ok_open (r:=198) fb k.cl.sh k.cl.sm (by decide) λS1 kn s1 fk=>?_
 try ext
 rw[m8 fk,ay];cases e:(pV X Ys).op B []with
 |nil=>
  have ee:pV X Ys=oo B X os:=by
   rw[←er]at e⊢;exact d.c.one_rest cl.sh rs R.r e R.o
  have:=h S1 s1;rw[ee]at this z2⊢
  try ext
  rw[xj 60 _ _ (by lia),yB]
  try ext
  exact this
 |cons x xs=>
  try ext
  rw[if_neg (by rw[beq_iff_eq];lia)];exact h S1 s1
def Yn (d:Dr w0 w1 w2 w3 w4 w5 tt B) (k:si w0 w1 w2 w3 w4 w5 B X qs ss Ys) (cl:Cl w0 w1 w2 w3 w4 w5 B X) (hm:X.ms (hk w0 w1) mT≤15) (fb:S ab=aa (.bP (B.map mK))) (f7:S l7=aa (.bP (ss.map j5))) (h:∀S',Sub S S'→D.rt (.bl true) S') :
  Dp 199 E D [a0,a1,a2,aa (.ref ab),aa (j5 X),a5,aa (j5 (pV X Ys)),aa (.bW [j5 X, .ref l7]),a8,a9,a10,a11] S:=by
 obtain⟨z1,z2⟩:=qV k.cl.sm;obtain⟨rs,er⟩:=k.P.roa d.c.K;obtain⟨e1,e2⟩:=k.P.len;obtain⟨n1,n2⟩:=k.P.ne d.c;have hn:=k.n;rw[Dp];ext;refine d.c.ok_standard (r:=198) d.sti (m:=X.ms (hk w0 w1) mT) ⟨cl,rs,by lia,by lia,n2,rfl⟩ (by lia) fb f7 (by decide) λS' f ps s' st _ fl=>?_
 have R:=d.c.std_rw st cl.sh rs;rw[er]at R;refine RZ (r:=198) d (by decide) R cl (s' _ _ fb) fl λS'' s''=>?_;rw[xj 60 _ _ (by lia),yB]
 try ext
 exact h S'' (s'.trans s'')
end
def VJ (ns:List Int) (hl:ns.length≤63):wP 200 [.c7 ns] (λ_=>none) (λw _=>w= .bl true) (λ_ _=>False):=by
 rw[show(200:Nat)=199+1 from rfl,wP,uB];refine⟨rfl,?_⟩;refine Uv λS aw at' ab w0 w1 w2 w3 w4 w5 tt B d fw fb=>Wf d fw fb λS1 X k0 hm hn fb=>To d k0 fb λS2 l5 qs ss Ys k fb f5=>VW d k fb f5 λS3 l7 fb f7=>Yd d k0 hn fb f7 λS4 l8 os R fb f7 f8=>?_;have cl:Cl w0 w1 w2 w3 w4 w5 B X:=k0.cl;refine YL d k cl R fb f7 f8 λS5 s5=>Pj (Zf d cl R (s5 _ _ fb) (s5 _ _ f8) λa11=>YZ d cl R (s5 _ _ fb) (s5 _ _ f8) λS6 s6=>U8 d k cl R (s6 _ _ (s5 _ _ fb)) λS7 s7=>?_);exact Yn d k cl hm (s7 _ _ (s6 _ _ (s5 _ _ fb))) (s7 _ _ (s6 _ _ (s5 _ _ f7))) λS' s'=>⟨_, .refl,rfl⟩
end L2
end
section
namespace K56
open PySem L2 PyProof.Rows
def top (i:Nat):aW:=PySem.Challenge.pw_turnweave_k56_whole_to_rest.main.body.getD i (.Pass ⟨0,0,0,0⟩)
def tV:List En:=[⟨"parts_of",top 9,["t"],1,xD⟩,⟨"parts_of_all",top 10,["things", "found", "thing"],1,xv⟩,⟨"is_small",top 11,["t", "heavy", "deep", "level"],1,xf⟩,⟨"gather_places",top 13,["t", "place", "found", "number", "inner"],3,vM⟩,⟨"places",top 12,["t", "found"],1,Ap⟩,⟨"numbered_part",top 15,["t", "number", "parts"],2,A9⟩,⟨"part",top 14,["t", "place", "thing", "number"],2,yK⟩,⟨"blank_places",top 17,["side"],1,xa⟩,⟨"places_of_blank",top 18,["side", "number"],2,Av⟩,⟨"filled",top 19,["side", "things"],2,u6⟩,⟨"have_one_top",top 22,["one", "other"],2,AS⟩,⟨"gather_matched",top 21,["left", "t", "things", "inner", "thing"],3,uV⟩,⟨"matched",top 20,["left", "t", "things"],2,tU⟩,⟨"are_small_letters",top 26,["text"],1,Ay⟩,⟨"is_sign",top 25,["text"],1,A_⟩,⟨"turning_of",top 30,["book", "title", "turning"],2,tP⟩,⟨"is_quiet",top 32,["way"],1,zm⟩,⟨"only_small",top 35,["shape"],1,sG⟩,⟨"with_sides",top 36,["book", "way", "side", "parts", "turning"],3,xB⟩,⟨"source",top 33,["book", "way"],2,BK⟩,⟨"goal",top 34,["book", "way"],2,ur⟩,⟨"part_places",top 37,["book", "way", "turning"],2,yC⟩,⟨"open_turning",top 41,["book", "shape", "turning"],2,yM⟩,⟨"gather_open",top 40,["book", "shape", "place", "found", "turning", "number", "inner"],4,xk⟩,⟨"open_uses",top 39,["book", "shape", "found"],2,uq⟩,⟨"places_of",top 42,["pairs"],1,wS⟩,⟨"turned_top",top 47,["book", "shape", "turning"],2,Bp⟩,⟨"way_within",top 46,["book", "shape", "place", "wanted", "top", "parts", "spot", "inner"],4,t_⟩,⟨"way_with",top 45,["book", "shape", "places"],3,xE⟩,⟨"way_of",top 43,["book", "shape", "places", "known", "place"],3,CL⟩,⟨"full_way",top 44,["book", "shape"],2,As⟩,⟨"rounds",top 49,["book", "shape", "limit", "ways", "here", "way"],3,Bn⟩,⟨"moved",top 51,["book", "way", "other", "first", "second", "mine", "yours", "parts"],3,tO⟩,⟨"leads_on",top 54,["book", "thing", "here", "way"],2,xx⟩,⟨"is_road",top 53,["book", "thing"],2,Cj⟩,⟨"end",top 55,["book", "road"],2,yD⟩,⟨"check_goals",top 58,["book", "ways", "way"],2,uL⟩,⟨"moved_along",top 57,["book", "way", "ways", "line", "over", "way_on"],3,xJ⟩,⟨"grid",top 56,["book", "road", "other", "downs", "row", "overs", "way", "line"],3,zN⟩,⟨"last_downs",top 61,["downs_and_overs"],1,zZ⟩,⟨"road_behind",top 59,["book", "road", "other", "ways"],3,A7⟩,⟨"are_quiet",top 62,["ways"],1,vD⟩,⟨"within",top 60,["book", "road", "other"],3,BI⟩,⟨"road_of",top 64,["book", "shape", "places", "ways", "here", "place", "single"],3,Cs⟩,⟨"left_below",top 72,["book", "way", "place", "turning", "found", "number", "spot", "rests", "before"],4,(λr=>B7 (qW (r - 1)) r)⟩,⟨"still_at",top 70,["book", "way", "spots", "found", "place"],3,xS⟩,⟨"is_done",top 69,["book", "place", "ways", "left", "way"],3,Bv⟩,⟨"first_place",top 68,["book", "road", "place"],2,Cm⟩,⟨"standard",top 67,["book", "road", "row", "left", "place"],2,AE⟩,⟨"_law_cell",top 74,["script", "k"],2,uC⟩,⟨"_law_words",top 75,["one", "two", "great", "signs", "rest", "base", "k", "at", "words", "word"],3,zd⟩,⟨"_law_count",top 76,["side"],1,uK⟩,⟨"_law_filled",top 77,["side", "things"],2,uT⟩,⟨"_law_lefts",top 78,["way", "head", "c", "d"],4,BH⟩,⟨"_law_rights",top 79,["many", "w", "grows", "some"],3,Bz⟩,⟨"_law_book",top 80,["script", "k", "w", "titles", "grows", "book", "j", "lefts", "n", "left", "some", "draw"],5,BP⟩,⟨"_law_plan",top 81,["cells", "book", "w", "room", "stack", "spent", "cell", "way", "need", "node", "k", "at"],4,BF⟩,⟨"_law_way",top 82,["plan", "book", "by", "k", "bits", "head", "parts", "ways"],3,yn⟩,⟨"_law_made",top 83,["book", "way", "which", "parts", "turning"],3,zF⟩,⟨"_law_places",top 84,["t", "found", "i", "one"],1,ve⟩,⟨"_law_at",top 85,["t", "place", "i"],2,yx⟩,⟨"_law_stands",top 86,["left", "shape"],2,v_⟩,⟨"_law_open",top 87,["book", "shape", "found", "place", "turning"],2,vk⟩,⟨"_law_things",top 88,["left", "t", "found", "one", "other"],2,u7⟩,⟨"_law_put",top 89,["t", "place", "other", "k"],3,wI⟩,⟨"_law_turned",top 90,["book", "shape", "place", "here", "turning"],3,wQ⟩,⟨"_law_walk",top 91,["book", "shape", "cells", "here", "some", "cell", "known"],3,A5⟩,⟨"_law_row_end",top 92,["book", "shape", "row", "place"],3,AH⟩,⟨"law",top 93,["script", "w", "titles", "book", "shape", "some", "here", "road", "full", "still", "rest", "way"],1,wP⟩]
def nP:En:=⟨"left_of_use",top 71,["book", "way", "place", "turning", "number"],3,qW⟩
def tab:List En:=[nP]++tV
def EK:List (ah×W):=[("MOST_HEAVY", .int 400),("MOST_DEEP", .int 40),("MOST_LETTERS", .int 8),("LEFT", .int 1),("RIGHT", .int 2),("MOST_PLACES", .int 60)]
def hns:List ((Nat×Nat)×List ah):=[((55,11),["place", "side"]),((57,11),["place", "number", "side"]),((61,30),["inner", "things"]),((84,15),["letter"]),((95,35),["inner"]),((105,12),["inner", "book", "side"]),((113,15),["number"]),((132,11),["pair"]),((142,44),["place"]),((171,12),["inner", "outer", "book"]),((177,4),["TooGreat"]),((203,14),["over", "down", "book"]),((223,11),["line"]),((225,15),["way"]),((269,11),["rest", "number"]),((276,29),["rest", "before"]),((293,23),["j", "signs", "base", "k", "at"]),((303,15),["one"]),((307,28),["one", "things"]),((368,11),["one", "book", "by"]),((375,12),["one", "book", "which"]),((384,28),["place", "i"]),((395,15),["one", "other"]),((432,24),["one"])]
def tb:Tb:=⟨λ_=>none,λx=>EK.lookup x,["all", "dict", "enumerate", "int", "isinstance", "len", "list", "min", "range", "sum", "tuple", "zip"],["Apart", "NoPlace", "NoUse", "TooGreat"],[("TooGreat", "TooGreat")],λp=>(hns.lookup (p.line,p.col)).getD [],λx=>(["there", "wanted"]:List ah).contains x,λx=>x == ("open_uses" :ah)⟩
def X_:tab.all En.ok=true:=by decide +kernel
def Yf (kV doc pm:aj) (an:Option ai) (cdv ct a b c d e' f:aj):(tab.map λe=>e.bd kV doc pm an cdv ct [a,b,c,d,e',f])=tab.map λe=>pure (e.ps.zip [a,b,c,d,e',f]):=by kernel_rfl
def Pe:(tab.map λe=>e.c 0)=tab.map λ_=>mH:=by kernel_rfl
def US (r:Nat):(tV.map λe=>e.c (r+1))=tV.map λe=>e.rd { tb with fn:=lkT tab r }:=by kernel_rfl
def SH (r:Nat):qW (r+2)=nP.rd { tb with fn:=λx=>if x= "left_of_use" then aa (qW r) else lkT tab (r+1) x }:=by kernel_rfl
def UQ (r:Nat) (e:En) (he:e∈tab):e.c (r+1)=mH∨ ∃F,(∀x s,F x=aa s→ ∃e∈tab,e.eNm=x∧ ∃j,j≤r∧s=e.c j)∧e.c (r+1)=e.rd { tb with fn:=F }:=by
 obtain rfl |he:=az.mp he
 ·cases r with
  |zero=>exact .inl rfl
  |succ r=>exact .inr ⟨_,YK (t:=tab) (e:=nP) aK rfl,SH r⟩
 ·exact Q1 r (US r) e he
def v0 {l:gS}{w:aR}{K:ao}{h:aE}{mg:ah→Option aj}{fa:ai}(X:K.In h) (G:h.Ns bj mg) (hfa:mg "law" =aa (.ref fa)) (df:vO K tab) (bl:wu K tb.bl) (gl:vU K EK) (xs:wa K tb.xs) (ex:v8 K tb.ex):=
 Ti (l:=l) (w:=w) (e0:=tab.getLast (by decide)) (cl:=wP) (room:=200) X G hfa (List.getLast_mem _) rfl rfl rfl X_ Yf Pe UQ rfl (by decide +kernel) df bl gl xs ex
def D2{l:gS}{q:bi}{loose:List ah}{XP:(ah→Option aj)→aE→Prop}{YP:aR→aE→Prop}{d:DefRec}{K:Params→ao}(hn:l.most=aa 63) (hdf:d.params.defaults=[])
  (hY:∀(w:aR) (h:aE),YP w h→(K w.params).In h)
  (F:∀(w:aR) (mg:ah→Option aj) (fa:ai) (h:aE),(K w.params).In h→h.Ns bj mg→mg d.name=aa (.ref fa)→
   ∃fd:dq,(∀(s:am) (u:aj),eR s fd ⟨[u],[]⟩ [("script",u)])∧ ∀base:aE,(K w.params).In base→base.Ns bj mg→oO l.prog w (K w.params) mg base (rV l.prog w) 200 fa fd ["script"] (r9 (K w.params) (wP 200))) :
  ma q loose XP YP l.row.toRowW d [] (λf vs=>jm f vs):=
 L2.OT (n:=63) (k:=200) (x:= "script") (CX:=λw=>rV l.prog w) (sp:=λw=>r9 (K w.params) (wP 200)) hn (by decide) hdf ⟨rfl,by decide,by decide⟩ hY F (λw H a ns hl hO hS=>Qt hO hS (VJ ns hl)) λ_ _ _ _ _ ⟨_,_,_,_,_,_,_,_,_,z⟩=>z
end K56
structure PySem.W.Fast:Prop where
 (tw5812124891039558231 tw7036920582104095833 tw2033815448404220457 tw9965050078950819826 tw2642468068375427539 tw5060040449110050741 tw1323042080050533747 tw11339220597404704213 tw16917466165759821281 tw5302492429514929844 tw9282323937332259733 tw12454089858117300209 tw16768249078171397973 tw2844142074582940498 tw5333251753566748743 tw1243097500560613071 tw122723563203729846 tw15162748410754110609 tw14752491952625587506 tw316140439863301195 tw9599320622841152699 tw274424876060898224 tw7070876865040110449 tw5012202433227920292 tw9000361086725056139 tw10158314992664767339 tw12009397480203985896 tw6273526070137111161 tw11042600735860598863 tw7301826542454796861 tw14595710185140117954 tw17193182445144082584 tw13568300069430438804 tw1962526895223108879 tw17947270491331001073 tw11439913855760156649 tw11188952386808308930 tw5269813458959082246 tw9447814914834356387 tw9496664295114199220 tw10818039988410832157 tw17754512564446829163 tw11158416648405891417 tw8725506313575317077 tw2698626992814744521 tw662010359973159364 tw802024798217459712 tw4777102980024989901 tw930500567645413461 tw776652946194648704 tw15014339150731344203 tw15282704132095110697 tw9991738003118850153 tw1898596870408879400 tw5577687958358003421 tw9257224471248869675 tw9152980868469339913 tw15928504991795325556 tw4486532868106874273 tw16782357315475550122 tw15153357872623400119 tw18410395512191686184 tw8599484345521895588 tw9483005856187341127 tw2109247184587559213 tw10477157508653704278 tw6221692403978119251 tw3170841198093301223 tw15496056562189266537 tw786928492094886100 tw18012256804226862821 tw9388837161268608447 tw15949154142288965306 tw9174973849443438508 tw10810913486311054128 tw1929413062305366588 tw15879636038715863029 tw12908736509354203905 tw5316747594866229972 tw14082700383590469434 tw18209871053014063143 tw4082174983814281005 tw10580771786047717682 tw669387999477970572 tw5844244623596203849 tw2639938341934381007 tw1297603878037776048 tw1669653118075026072 tw1823558947824197438 tw5446442039355618022 tw11141488364285359950 tw3094792888338956914 tw10404151661833364272 tw14410302280683648930 tw17351717588896673078 tw6286017116311407328 tw10026664469932002107 tw3641658411482611152 tw7911936612285280424 tw8417062738629719713 tw11226285887223659635 tw17210155548880670097 tw15610660337841743967 tw5009425074042787810 tw9222203934862542451 tw16391251327591426643 tw2426614758225023458 tw2788924101492614168 tw1138007137298554132 tw5393474975045503807 tw13251198046090364079 tw2397313550133503606 tw2747090477915941411 tw6793143254083897279 tw9358551340687102627 tw7962524201115913082 tw3560704498422347189 tw511305127945909166 tw657424577030536041 tw8846204322617094500 tw4640412231632277894 tw13896700690639244653 tw5628743484445078873 tw5636324356603014507 tw15727065542071182404 tw7443998513389853499 tw3381229864099919422 tw11452380529563888505 tw11487265121753284240 tw12315485382816328968 tw2482416203626867831 tw12075357297866380143 tw5747511193835017191 tw11441043559455717735 tw9079600473253298328 tw2405402610093784298 tw17063969791024815863 tw15069017918695902880 tw10098106335616757205 tw2725653424967479263 tw10459733246479198318 tw3380456341255549762 tw5792135708148059946 tw4164703873894725254 tw7205387570763792831 tw17960382300381018426 tw11231906951272887668 tw14090651294565379169 tw4754254740291787900 tw9445022977608291102 tw3049544263015896198 tw12231011677124229983 tw4543740354646178190 tw16054022878250498016 tw3784802780329247179 tw17049360335845828912 tw9123675229968664194 tw11095335877094061753 tw12239859529205066308 tw8146952278932047012 tw8536480990292743177 tw37956343088132666 tw15330149210445768268 tw16377519350834210780 tw12264486905381103187 tw12825139434144579156 tw6399330461639989247 tw4765800336776313571 tw12995224097033487126 tw9660616784624357098 tw14852586816379756518 tw4402328719861082872 tw10278220641447339502 tw3148835955342537109 tw1621214983513068900 tw15706761036663144514 tw2556638026271690675 tw6730968430239773912 tw4894170336656404161 tw12434442264261206273 tw1150681857856096233 tw4637977675256146739 tw1795662481023316560 tw2806288404153572888:True)
open PySem PySem.W PyProof.Rows
set_option maxRecDepth 100000 in
set_option maxHeartbeats 0 in
theorem PySem.Challenge.cw_turnweave_k56_whole_to_rest_holds : PySem.Challenge.rw_turnweave_k56_whole_to_rest.Holds := by
 w_on;o_law;k_head;(case hw=>w_witness2)
 k_fill
 refine K56.D2 (l:=PySem.Challenge.rw_turnweave_k56_whole_to_rest) rfl rfl (λw h Y=>PySem.W.kIn_of Y) ?F
 case F=>
  intro w mg fa h KX G hmg
  refine' K56.v0 KX G hmg ?_ ?_ ?_ ?_ ?_<;>dsimp only[L2.vO,L2.wu,L2.vU,L2.wa,L2.v8,K56.tab,K56.tV,K56.nP,K56.EK,K56.tb,List.append,ck,aX]
  all_goals (repeat' first |exact dN |refine And.intro ?_ ?_ |refine' L2.dfn ?_ ?_ ?_ ?_ |refine' L2.gln ?_ |refine' L2.xch ?_ ?_ ?_ ?_ ?_ ?_ ?_ |refine' L2.exh ?_ ?_ ?_)
  all_goals first |k_is |kit_is | (dsimp only[List.map];kit_is) |kts_exm | (delta L2.Cg;k_exc) |skip
end
