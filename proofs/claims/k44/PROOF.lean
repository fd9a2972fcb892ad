import PyProof.Rows.All
import Wide.All
import OpenK.AllK
import Wide.FinOn
import Lean
import PyProof.EqAt
import PyProof.EqKinds
import PyProof.TupleCall
import PyProof.NeKinds
import PyProof.ListMulRoad
import PyProof.AttrMissHeap
import KE.KDictOf
import KE.KRevIter
import PyProof.ListRange
import KE.KSortTup
import KE.KMinKey
import PyProof.MinMaxWalk
import PyProof.Rows.CallKwBuiltin
import PySem.Challenge.RW_turnweave_k44_whole_roads_within_rounds
open Option renaming some→ae,isSome_iff_exists→dh,map_some→gv,isSome_map→gY,getD_some→iK,getD_none→iT,some→i5
open PySem renaming Shared→ag,wpAny_bind→ai,wpAny→am,starEach→ao,model→ap,eval→ax,Pos→aB,World→aC,wpAny_pure→aD,Program→aF,mainGlobals→aK,Paired→aL,Around→aM,backTo→aS,Tok→bf,compareOp→bp,Env→bA,wpAny_field→bC,FuncData→bF,IsPair→bL,pyNext→bM,binaryOp→bQ,NameKind→bT,bootBuiltins→bV,wpAny_mono→bX,IsZip→bY,Builtin→bZ,Sem→b4,Keyword→b7,wpAny_seqItems→b_,assignEach→cc,rawInt→ce,tupleKind→ci,wpAny_setField_rec→cr,IsPart→cB,IsEnum→cC,CmpOp→cI,PassesOwn→cJ,codeAny→cM,attributeBase→cN,behindInMarks→cW,bindC→cZ,atKey→c5,wpAny_call_entry→c7,wpAny_letGo→c8,pyIter→da,bindL→db,wpAny_callSpecial?_slot→de,wpAny_rule→dg,wpAny_passesOwn→di,sliceBounds→dj,wpAny_pyIter_list→dn,foldedSetIterable→du,sizeLine_eq→dv,wpAny_truthy_bool→dw,getItem→dy,callerA→dC,swapsWith→dE,Walks→dO,keywordEach→dP,wpAny_tryCatch→dQ,BindsTo→dU,Model→dX,sysModules→dY,backToKw→d7,wpAny_newObj_type→d8,call_meets→ef,typeOf→eD,mem_of_lookup→eF,plainId_quiet→eG,wpAny_holding→eJ,valueAt→eK,wpAny_typeOf→eN,PlainAttrs→eO,codeAny_builtin→eP,seqItems?→eV,wpAny_execs_nil→eW,storedH→fh,wpAny_Call_Name_kw→fG,Result→fI,preSum→fK,Params→fM,Operator→fO,wpAny_onRaise→fV,wpAny_updateSeq→f7,wpAny_getItem_str_slice→f_,post_val_or_str→gp,wpAny_attempt→gz,letOwnedTupleGo→gA,wpAny_Name→gI,typeIs_int→gJ,pick_run→gL,lastMarks→gN,typeIs_str→gU,setFlight→gZ,cellsFrom→g9,noFill_tuple_add→g_,sliceRange_one→hV,call→i',storeName→ii,ZipApart→il,builtinsNs→im,codeAny_mono→io,seq_tuple_add→iq,wpAny_updateSeq_pair→iB,IsEnumOut→iH,noteFrame→iM,concat_meets→iO,typeLookup→iP,wpAny_Constant_int→iY,wpAny_setField→iZ,isSubtype_stop→jc,wpAny_sequenceKey→jd,tupleKind_room_in1→jr,wpAny_setFlight_noneW→ju,wpAny_pyIter_tuple→jx,getattributeRaised→jM,wpAny_pyIter_enum→j9,firstArgMember→j_,wpAny_loadName_cell→kr,wpAny_loadName_local→ku,wpAny_isInstance→kx,slot_list_getitem→kC,wpAny_execs_cons→kF,wpAny_assign_Name→kG,wpAny_newTuple→kI,wpAny_pyIter_zip→kM
open Or renaming inl→aj,inr→cP
open PySem.W renaming Frag→ak,nsIn→aT,mg_of→a_,findIn→bS,mg_none_of→bU,kia_one→cp,mroIn→cR,hideAll→cU,fnOf→df,hideAll_none→dA,keepIn→dW,excIn→eB,kitOne→eX,hideAll_get→fo,of_hideAll→fB,codeIn→fS,exmOne→gB,instObj→h9,methodObj→ix,OpenLaw→iG,lookIn→iN,WalkO→iX,cellsFrom_some→jf,kitx_list→jo,plainGet→jI,kitx_dict→jQ,callWith_K→jS
open List renaming length_map→aq,mem_cons→av,map_cons→az,mem_cons_of_mem→aG,replicate→aN,mem_cons_self→aO,size_toArray→aP,getElem?_eq_getElem→aQ,nil_append→aR,mem_map→aU,length_cons→aW,Nodup→aX,length_append→aY,map_map→bb,range→bc,mem_singleton→bg,mem_append→bh,getD_eq_getElem?_getD→bt,getElem?_map→bv,not_mem_nil→bw,mem_of_getElem?→bE,append_nil→bG,map_append→bI,append_assoc→bN,find?_cons→bW,mem_of_find?_eq_some→b3,length_singleton→b6,lookup_cons→b8,replicate_succ→b9,getElem?_eq_some_iff→cb,mem_append_right→cm,length_drop→cu,take_of_length_le→cw,length_take→cK,map_congr_left→cV,all_eq_true→cX,drop_zero→c6,isPrefixOf_iff_prefix→dk,map_nil→dq,flatten_cons→dr,drop_of_length_le→dB,findSome?_cons→dF,cons_append→dG,length→dL,mem_range→dR,foldl_cons→d5,length_nil→d6,nodup_cons→d9,getElem?_cons_succ→d_,any_cons→eA,mem_append_left→eZ,all_map→e_,drop_eq_getElem_cons→fi,range'→fv,flatMap_cons→fy,getElem_mem→fD,filterMap_cons→fP,range_succ→fT,getElem?_range→fW,range'_succ→f8,range_eq_range'→gh,range_succ_eq_map→gn,mem_flatMap→gC,getElem?_of_mem→gE,zip_cons_cons→gF,forIn_cons→gP,lookup→gQ,length_pos_iff→gR,mem_of_mem_take→gS,flatMap_nil→gT,find?_eq_none→gX,mem_filterMap→ia,take_nil→ib,foldl→ic,all_cons→ie,mem_of_mem_drop→ig,getElem?_eq_none→ij,of_mem_zip→ik,length_replicate→iw,sum_cons→iy,take_length→iC,getElem?_append_right→iF,mem_filter→iQ,getElem_of_mem→iU,take_succ→iV,getElem?_replicate→i0,length_range→i4,find?_some→i8,filter_cons→jg,getElem?_cons_zero→jm,drop_drop→jp,flatMap_append→jF,getElem?_set_ne→jH,getElem?_append_left→jJ,zipIdx_nil→jK,getElem?_drop→jP,zipIdx_cons→jT,filter_cons_of_neg→jW,countP_cons→jZ,take_append_drop→j3,Pairwise→j4,isEmpty_nil→kc,getElem?_set_self→kf,filter_append→kh,forIn_nil→kj,take_add→km,flatMap_def→kq,eq_nil_of_length_eq_zero→kw,append_eq_nil_iff→ky,take_zero→kz,contains_iff_mem→kH,take_sublist→kK
open Nat renaming le_refl→au,zero_le→aZ,le_trans→bi,ne_of_lt→bu,lt_of_lt_of_le→bK,lt_irrefl→b5,ne_of_gt→cF,zero_add→cL,lt_or_ge→dt,sub_zero→dI,eq_zero_or_pos→dS,min_eq_left→fg,le_of_eq→fj,add_comm→fE,le_add_right→fH,min_eq_right→f9,add_zero→gq,add_le_add_left→gu,le_of_lt→gO,sub_self→hU,le_succ→iI,add_assoc→jD,le_of_not_lt→jE,not_lt_of_le→jN,succ_ne_self→ke
open Option.some renaming inj→aE,injEq→bD
open PySem.Heap renaming get?_push_of_some→aH,lt_size→aI,get?_push_size→bj,SameBut→cf,size_push→cq,get?_update_other→eM,get?_update_self→gG,Left→iz,ExtBut→iJ
open PySem.NameKind renaming free→aV,cell→cg
open PySem.Str renaming ofString→bq,join→cO,empty→h_,length→iA
open Ne renaming symm→br
open PySem.Value renaming ref→bx,none→cn,bool→eL,str→eS,int→fZ,type→iu,isStrOf→i9
open Bool renaming and_eq_true→bO,false_ne_true→cS,eq_iff_iff→fA,and_false→gf,false_eq_true→gr,true_and→jb,or_false→jh,false_or→jL,or_eq_true→ki
open PyProof.Rows renaming AllBare→bP,envOfC→cj,boot_int→cH,IsTup→eH,slot_tuple_getitem→eI,IntsAre→fe,callWith_type1→gd,entry_tuple_getitem→i_,args_tuple_getitem→jn,slicePart_none→jq,subscriptTail_builtinR→jV,boot_tuple→j6
open False renaming elim→ck
open Int renaming toNat_natCast→cx,emod_nonneg→cD,emod_lt_of_pos→cQ,toNat_of_nonneg→cT
open PySem.Builtin.Str renaming occurrences→cy,strSliceIndices→gm
open PySem.Builtin.SmallTypes renaming nextOf→cA,ownedTupleIsFree→dM,ownedTupleHandOut→fU
open PySem.Txt renaming slice→cE,upper→dD
open Sum renaming inr→dc
open True renaming intro→dm
open PySem.F renaming plain_max_loop→dH,slot_tuple_iterator_next→fL,slot_enumerate_next→gc,slot_zip_next→ge,entry_tuple_add→gH,slot_tuple_add→gK,slot_list_getattribute→hZ,entry_max_loop→iD,args_tuple_add_2→iE,excBase_ValueError→iS,entry_enumerate_next→je,slot_int_rmul→jk,args_enumerate_next_1→jA,plainAttrs_str→jC,slot_list_extend→jG,entry_tuple_iterator_next→j5,entry_list_extend→j7,args_tuple_iterator_next_1→kg,args_zip_next_1→ko,args_list_extend_2→kE,entry_zip_next→kL,plainAttrs_list→kQ
open ForInStep renaming yield→dJ
open PySem.Builtin.List renaming listTooLong→dN
open PySem.SeqAt renaming EqAt→dZ,RcAt→eQ,RcNeAt→eY
open ToString renaming toString→eE
open PySem.Around renaming under_plainId→eR
open PySem.Paired renaming length→eU
open Eq renaming trans→fF
open PySem.Walks renaming list→fJ
open LawfulMonad renaming pure_bind→fN
open PySem.Builtin.Tuple renaming tupleExact→fQ,tupleItemsOf→kN
open PySem.Builtin.Slice renaming slicePlaces→fR,sliceAdjust→iv,sliceApplied→jO
open MonadExcept renaming tryCatch→gi
open LawfulBEq renaming eq_of_beq→gw
open Prod renaming snd→gD
open Array renaming length_toList→gV,toList_append→iL,append_assoc→jj,getElem?_eq_getElem→jX,getElem?_eq_some_iff→kB
open PySem.Obj renaming mapSeq→ip,data_mapFields→j'
open PyProof.Rows.IsTup renaming new→iR
open PySem.Heap.SameBut renaming update→iW
open PySem.Builtin.Dict renaming updateFrom→i3
open Function renaming comp→i6
open PySem.Calls renaming evalArgs_plain→i7,callWith_builtin→jY,Name_function_global→kA
open PySem.Builtin.Builtins renaming bindParams→ja
open PySem.PassesOwn renaming never→jU
open PySem.AutoSeq1 renaming wpAny_loadPart'→j8
open Prod.mk renaming injEq→kD
open Classical renaming choose_spec→kJ
open List.cons renaming injEq→kO
set_option Elab.async false
set_option compiler.extract_closed false
set_option linter.all false
set_option maxRecDepth 100000
set_option maxHeartbeats 4000000
section
namespace L2
open PySem PySem.Spec PyProof.Rows
abbrev Key:=Sum Int Str
noncomputable def zpp:Key→Value→Bool
 | .inl k,v=>Value.isInt k v
 | .inr x,v=>i9 x v
noncomputable def zBV (w:aC):Key→Int
 | .inl k=>hashInt k
 | .inr x=>hashStr w x
theorem zbq:∀{k:Key}{v:Value},zpp k v=true→(∃i t,k=Sum.inl i∧v=fZ i t)∨(∃x t,k=dc x∧v=eS x t)
 | .inl i,v,h=>by
  obtain⟨t,e⟩:=Value.isInt_shape (k:=i) (v:=v) h;exact .inl ⟨i,t,rfl,e⟩
 | .inr x,v,h=>by
  obtain⟨t,e⟩:=Value.isStrOf_shape (x:=x) (v:=v) h;exact .inr ⟨x,t,rfl,e⟩
theorem zpM (i:Int) (t:bf):zpp (.inl i) (.int i t)=true:=by simp [zpp,Value.isInt]
theorem zrx (x:Str) (t:bf):zpp (.inr x) (.str x t)=true:=by simp [zpp,i9]
theorem zyL (a b:Int):decide ((Sum.inl a:Key)=Sum.inl b)=(a == b):=by
 by_cases e:a=b
 ·subst e;simp
 ·have h:¬(Sum.inl a:Key)=Sum.inl b:=λq=>e (Sum.inl.inj q);rw[decide_eq_false h];exact(beq_eq_false_iff_ne.mpr e).symm
theorem zxS (a b:Str):decide ((dc a:Key)=dc b)=decide (a=b):=by
 by_cases e:a=b
 ·subst e;simp
 ·have h:¬(dc a:Key)=dc b:=λq=>e (dc.inj q);rw[decide_eq_false h,decide_eq_false e]
theorem zxz (a:Int) (b:Str):decide ((Sum.inl a:Key)=dc b)=false:=decide_eq_false (λq=>nomatch q)
theorem zzt (a:Str) (b:Int):decide ((dc a:Key)=Sum.inl b)=false:=decide_eq_false (λq=>nomatch q)
noncomputable def zbw (prog:aF) (w:aC):PySem.KeyKind prog w Key where
  is:=zpp
  hash:=zBV w
  inj:=λv a b ha hb=>by
    rcases zbq ha with⟨i,t,rfl,rfl⟩ |⟨x,t,rfl,rfl⟩
    · rcases zbq hb with⟨j,u,rfl,e⟩ |⟨y,u,rfl,e⟩
      · injection e with e1 _;rw[e1]
      · exact nomatch e
    · rcases zbq hb with⟨j,u,rfl,e⟩ |⟨y,u,rfl,e⟩
      · exact nomatch e
      · injection e with e1 _;rw[e1]
  byValue:=λk v h=>by
    rcases zbq h with⟨i,t,rfl,rfl⟩ |⟨x,t,rfl,rfl⟩<;>rfl
  pyHash:=λhv h=>by
    rcases zbq hv with⟨i,t,rfl,rfl⟩ |⟨x,t,rfl,rfl⟩
    · exact wpAny_pyHash_int h
    · exact wpAny_pyHash_str h
  eqBool:=λhu hv h=>by
    rcases zbq hu with⟨i,t,rfl,rfl⟩ |⟨x,t,rfl,rfl⟩
    · rcases zbq hv with⟨j,u,rfl,rfl⟩ |⟨y,u,rfl,rfl⟩
      · rw[zyL]at h;exact wpAny_eqBool_int h
      · rw[zxz]at h;exact dZ.int_str i t y u _ _ _ _ h
    · rcases zbq hv with⟨j,u,rfl,rfl⟩ |⟨y,u,rfl,rfl⟩
      · rw[zzt]at h;exact dZ.str_int x t j u _ _ _ _ h
      · rw[zxS]at h;exact wpAny_eqBool_str h
  «strs» :=λk x t v h=>by
    rcases zbq h with⟨i,u,rfl,e⟩ |⟨y,u,rfl,e⟩
    · exact nomatch e
    · injection e with e1 _;subst e1;cases v<;>rfl
theorem zlS (prog:aF) (w:aC) (i:Int) (t:bf):(zbw prog w).is (.inl i) (.int i t)=true:=zpM i t
theorem zmf (prog:aF) (w:aC) (x:Str) (t:bf):(zbw prog w).is (.inr x) (.str x t)=true:=zrx x t
inductive V where
  |non |bl (b:Bool) |int (i:Int) |str (x:Str) |byt (b:Array UInt8) |flt (b:UInt64) |ref (a:Addr) |ty (n:String)
  deriving DecidableEq
noncomputable def RelV:V→Value→Prop
 | .non,u=>u=cn
 | .bl b,u=>u=eL b
 | .int i,u=>∃t,u=fZ i t
 | .str x,u=>∃t,u=eS x t
 | .byt b,u=>∃t,u=Value.bytes b t
 | .flt b,u=>∃t,u=Value.float b t
 | .ref a,u=>u=bx a
 | .ty n,u=>u=iu n
noncomputable abbrev Vals:List V→List Value→Prop:=aL RelV
theorem Vals.length{xs:List V}{us:List Value}(r:Vals xs us):xs.length=us.length:=eU r
theorem Vals.get:∀{xs:List V}{us:List Value}{i:Nat}{x:V},Vals xs us→xs[i]? =ae x→ ∃u,us[i]? =ae u∧RelV x u
 |_,_,_,_, .nil,e=>by simp at e
 |_,_,0,_, .cons r _,e=>by simp at e;subst e;exact⟨_,rfl,r⟩
 |_,_,i+1,x, .cons _ t,e=>by
  obtain⟨u,h1,h2⟩:=Vals.get (i:=i) (x:=x) t (by simpa using e);exact⟨u,by simpa using h1,h2⟩
theorem Vals.append:∀{xs ys:List V}{us ws:List Value},Vals xs us→Vals ys ws→Vals (xs++ys) (us++ws)
 |_,_,_,_, .nil,s=>s
 |_,_,_,_, .cons r t,s=> .cons r (Vals.append t s)
theorem Vals.take:∀{xs:List V}{us:List Value}(n:Nat),Vals xs us→Vals (xs.take n) (us.take n)
 |_,_,0,_=> .nil
 |_,_,_+1, .nil=> .nil
 |_,_,n+1, .cons r t=> .cons r (Vals.take n t)
theorem Vals.drop:∀{xs:List V}{us:List Value}(n:Nat),Vals xs us→Vals (xs.drop n) (us.drop n)
 |_,_,0,r=>r
 |_,_,_+1, .nil=> .nil
 |_,_,n+1, .cons _ t=>Vals.drop n t
noncomputable def RelO:Option V→Option Value→Prop
 |some v,ae u=>RelV v u
 |none,none=>True
 |_,_=>False
def KV {κ:Type}:List (κ×V)→List (κ×Value)→Prop:=aL λ(p:κ×V) (q:κ×Value)=>p.1=q.1∧RelV p.2 q.2
noncomputable def kV:Key→V
 | .inl i=> .int i
 | .inr x=> .str x
inductive HO where
    |lst (xs:List V)
    |tup (xs:List V)
    |dK (kvs:List (Key×V)) |dT (kvs:List (List Key×V))
    |set (S:Int→Bool) (n:Nat)
    |ins (C dx:Addr) (fs:List (Str×V))
    |own (x:Addr)
    |xd (fs:List (Str×V))
    |met (f x:Addr)
    |rng (lo hi:Int)
    |frz (o:Obj) (u:HO)
    |tbl (ps:Array Value)
    |ext (φ:Heap→Prop)
abbrev Hp:=Addr→Option HO
noncomputable def upd (H:Hp) (a:Addr) (o:HO):Hp:=λb=>if b=a then ae o else H b
theorem zay{H:Hp}{a:Addr}{o:HO}:upd H a o a=ae o:=by unfold upd;rw[if_pos rfl]
theorem zax{H:Hp}{a b:Addr}{o:HO}(h:b≠a):upd H a o b=H b:=by unfold upd;rw[if_neg h]
theorem ztz{H:Hp}{a b:Addr}{o u:HO}(h:H a=ae o) (h':H b=ae u) (d:o≠u):a≠b:=by
 intro e;subst e;rw[h]at h';exact d (aE h')
theorem zat{H:Hp}{a b:Addr}{o:HO}(h:H a=ae o) (h':H b=none):a≠b:=by
 intro e;subst e;rw[h]at h';cases h'
section
variable (P:aF) (w:aC)
noncomputable def ObjOk (H:Hp) (h:Heap) (a:Addr):HO→Prop
 | .lst xs=>xs.length≤sizeLine∧ ∃(its:List Value) (n:Nat),Vals xs its∧h.get? a=ae { cls:= .type "list",data:= .seq its.toArray n }
 | .tup xs=>xs.length≤sizeLine∧ ∃its:List Value,Vals xs its∧eH h a its.toArray
 | .dK kvs=>kvs.length≤sizeLine∧(a == dY)=false∧ ∃vs,KV kvs vs∧h.DictOf (zbw P w) a vs
 | .dT kvs=>kvs.length≤sizeLine∧(a == dY)=false∧ ∃xs:List (List Key×Addr×Value),
   aL (λ(p:List Key×V) (q:List Key×Addr×Value)=>p.1=q.1∧H q.2.1=ae (.tup (p.1.map kV))∧RelV p.2 q.2.2) kvs xs∧
   ∃o es ep,h.get? a=ae o∧o.ExactDict∧o.data= .dict es ep∧es.toList=xs.map (entryOfKey (ci (zbw P w)))∧(xs.map (·.1)).Nodup
 | .set S n=>h.SetOf (intKind P w) a S n
 | .ins C dx fs=>H dx=ae (.own a)∧fs.length≤1000∧dx≠a∧h.get? a=ae (h9 C dx)∧
   ∃mA,h.Ns1 dx mA∧(∀f,RelO (fs.lookup f) (mA f))∧PySem.Within mA (fs.map (·.1))
 | .own _=>∃o,h.get? a=ae o
 | .xd fs=>∃mA,h.Ns1 a mA∧ ∀f,RelO (fs.lookup f) (mA f)
 | .rng lo hi=>∃t u v,h.get? a=ae { cls:= .type "range",data:= .fields #[.int lo t, .int hi u, .int 1 v] }
 | .frz o u=>h.get? a=ae o∧ObjOk H h a u
 | .tbl ps=>h.get? a=ae { cls:= .none,data:= .fields ps }
 | .met f x=>h.get? a=ae (ix (.ref f) (.ref x))
 | .ext φ=>φ h∧(∃o,h.get? a=ae o)∧ ∀h1 h2:Heap,φ h1→(∀o,h1.get? a=ae o→h2.get? a=ae o)→φ h2
def HOk (H:Hp) (h:Heap):Prop:=∀a o,H a=ae o→ObjOk P w H h a o
end
section
variable {P:aF}{w:aC}{H H':Hp}{h h':Heap}{a:Addr}{o:HO}
theorem ObjOk.lt (x:ObjOk P w H h a o):a<h.objs.size:=by
 cases o with
 |lst xs=>obtain⟨_,_,_,_,e⟩:=x;exact aI e
 |tup xs=>obtain⟨_,_,_,p⟩:=x;exact p.lt
 |dK kvs=>obtain⟨_,_,_,_,o,_,_,e,_⟩:=x;exact aI e
 |dT kvs=>obtain⟨_,_,_,_,o,_,_,e,_⟩:=x;exact aI e
 |set S n=>obtain⟨o,_,_,_,e,_⟩:=x;exact aI e
 |ins C dx fs=>obtain⟨_,_,_,e,_⟩:=x;exact aI e
 |own y=>obtain⟨_,e⟩:=x;exact aI e
 |xd fs=>obtain⟨_,⟨_,_,_,e,_⟩,_⟩:=x;exact aI e
 |rng lo hi=>obtain⟨_,_,_,e⟩:=x;exact aI e
 |frz ob u=>obtain⟨e,_⟩:=x;exact aI e
 |tbl ps=>exact aI (show h.get? a=ae _ from x)
 |met f y=>exact aI (show h.get? a=ae _ from x)
 |ext φ=>obtain⟨_,⟨_,e⟩,_⟩:=x;exact aI e
theorem Paired.mapP{α β:Type}{F G:α→β→Prop}:∀{l₁:List α}{l₂:List β},aL F l₁ l₂→(∀a b,F a b→G a b)→aL G l₁ l₂
 |_,_, .nil,_=> .nil
 |_,_, .cons r t,f=> .cons (f _ _ r) (Paired.mapP t f)
theorem ObjOk.stay (x:ObjOk P w H h a o) (k:∀b u,(b=a∨H b=ae (.own a))→h.get? b=ae u→h'.get? b=ae u)
  (ho:∀b,H b=ae (.own a)→H' b=ae (.own a)) (ht:∀b xs,H b=ae (.tup xs)→H' b=ae (.tup xs)):ObjOk P w H' h' a o:=by
 induction o with
 |lst xs=>obtain⟨z,its,n,r,e⟩:=x;exact⟨z,its,n,r,k _ _ (.inl rfl) e⟩
 |tup xs=>obtain⟨z,its,r,ob,e,c⟩:=x;exact⟨z,its,r,ob,k _ _ (.inl rfl) e,c⟩
 |dK kvs=>obtain⟨z,y,vs,r,ob,es,ep,e,c⟩:=x;exact⟨z,y,vs,r,ob,es,ep,k _ _ (.inl rfl) e,c⟩
 |dT kvs=>
  obtain⟨z,y,xs,r,ob,es,ep,e,c⟩:=x;exact⟨z,y,xs,Paired.mapP r λp q z=>⟨z.1,ht _ _ z.2.1,z.2.2⟩,ob,es,ep,k _ _ (.inl rfl) e,c⟩
 |set S n=>obtain⟨ob,es,ep,t,e,c⟩:=x;exact⟨ob,es,ep,t,k _ _ (.inl rfl) e,c⟩
 |ins C dx fs=>
  obtain⟨d,z,ne,e,mA,⟨od,es,ep,e2,c⟩,r⟩:=x;exact⟨ho _ d,z,ne,k _ _ (.inl rfl) e,mA,⟨od,es,ep,k _ _ (.inr d) e2,c⟩,r⟩
 |own y=>obtain⟨ob,e⟩:=x;exact⟨ob,k _ _ (.inl rfl) e⟩
 |xd fs=>obtain⟨mA,⟨od,es,ep,e,c⟩,r⟩:=x;exact⟨mA,⟨od,es,ep,k _ _ (.inl rfl) e,c⟩,r⟩
 |rng lo hi=>obtain⟨t,u,v,e⟩:=x;exact⟨t,u,v,k _ _ (.inl rfl) e⟩
 |frz ob u ih=>obtain⟨e,q⟩:=x;exact⟨k _ _ (.inl rfl) e,ih q⟩
 |tbl ps=>
  have e:h.get? a=ae { cls:= .none,data:= .fields ps }:=x;show h'.get? a=ae { cls:= .none,data:= .fields ps };exact k a _ (.inl rfl) e
 |met f y=>
  have e:h.get? a=ae (ix (.ref f) (.ref y)):=x;show h'.get? a=ae (ix (.ref f) (.ref y));exact k a _ (.inl rfl) e
 |ext φ=>obtain⟨p,⟨o,e⟩,st⟩:=x;exact⟨st _ _ p λo q=>k _ _ (.inl rfl) q,⟨o,k _ _ (.inl rfl) e⟩,st⟩
theorem HOk.lt (x:HOk P w H h) (e:H a=ae o):a<h.objs.size:=(x a o e).lt
theorem HOk.fresh (x:HOk P w H h) (e:h.objs.size≤a):H a=none:=by
 cases q:H a with
 |none=>rfl
 |some u=>exact absurd (bK (x.lt q) e) (b5 _)
theorem HOk.kept (x:HOk P w H h) (k:∀b u,h.get? b=ae u→h'.get? b=ae u):HOk P w H h':=λa o e=>
 (x a o e).stay (λb u _ q=>k b u q) (λ_ q=>q) λ_ _ q=>q
theorem HOk.laid (x:HOk P w H h) (k:∀b u,h.get? b=ae u→h'.get? b=ae u) (hp:h.objs.size≤a) (new:ObjOk P w (upd H a o) h' a o):HOk P w (upd H a o) h':=λb u e=>by
 have hn:=x.fresh hp;by_cases hb:b=a
 ·subst hb;rw[zay]at e;cases e;exact new
 ·rw[zax hb]at e;exact(x b u e).stay (λc v _ q=>k c v q) (λc q=>by rw[zax (zat q hn)];exact q) λc xs q=>by rw[zax (zat q hn)];exact q
end
def Rd (H:Hp) (a:Addr) (u:HO):Prop:=H a=ae u∨ ∃o,H a=ae (.frz o u)
theorem Rd.ok{P:aF}{w:aC}{H:Hp}{h:Heap}{a:Addr}{u:HO}(r:Rd H a u) (x:HOk P w H h):ObjOk P w H h a u:=by
 rcases r with r |⟨o,r⟩
 ·exact x a u r
 ·obtain⟨_,q⟩:=x a _ r;exact q
noncomputable def Mut:Option HO→Prop
 |some (.lst _)=>True
 |some (.dK _)=>True
 |some (.dT _)=>True
 |some (.set _ _)=>True
 |some (.ins _ _ _)=>True
 |some (.ext _)=>True
 |_=>False
section
variable {P:aF}{w:aC}{H:Hp}{h h':Heap}{x e:Addr}{o':HO}
theorem HOk.write (ok:HOk P w H h) (mu:Mut (H x)) (he:e=x∨H e=ae (.own x)) (k:∀b u,b≠e→h.get? b=ae u→h'.get? b=ae u) (heo:∃u,h'.get? e=ae u)
  (new:ObjOk P w (upd H x o') h' x o'):HOk P w (upd H x o') h':=λb u q=>by
 have nown:∀c y,H c=ae (.own y)→c≠x:=λc y r z=>by subst z;rw[r]at mu;exact mu
 have ntup:∀c xs,H c=ae (.tup xs)→c≠x:=λc xs r z=>by subst z;rw[r]at mu;exact mu
 by_cases hb:b=x
 ·subst hb;rw[zay]at q;cases q;exact new
 ·rw[zax hb]at q;by_cases hbe:b=e
  ·have q':H b=ae (.own x):=by
    rcases he with z |z
    ·exact absurd (hbe.trans z) hb
    ·rw[hbe];exact z
   rw[q]at q';cases q';obtain⟨v,hv⟩:=heo;exact⟨v,by rw[hbe];exact hv⟩
  ·refine(ok b u q).stay (λc v hc r=>k c v ?_ r) (λc r=>by rw[zax (nown c b r)];exact r) λc xs r=>by rw[zax (ntup c xs r)];exact r
   rcases hc with rfl |hc
   ·exact hbe
   ·rintro rfl;rcases he with z |z
    ·exact nown c b hc z
    ·rw[hc]at z;cases z;exact hb rfl
end
structure Un (fs ex:List Addr) (H H':Hp) (h h':Heap):Prop where
  keep:∀b o,h.get? b=ae o→H b=none→b∉fs→b∉ex→h'.get? b=ae o
  slot:∀b o,h.get? b=ae o→H b=none→b∈fs→b∉ex→ ∃sl,h'.get? b=ae { o with slots:=sl }
  free:∀b o,h.get? b=ae o→H b=none→b∉ex→H' b=none
  there:∀b o,h.get? b=ae o→b∉ex→ ∃o',h'.get? b=ae o'
  tups:∀b xs,H b=ae (.tup xs)→H' b=ae (.tup xs)
  frzs:∀b o u,H b=ae (.frz o u)→H' b=ae (.frz o u)
  tbls:∀b ps,H b=ae (.tbl ps)→ ∃more,H' b=ae (.tbl (ps++more))
section
variable {fs ex:List Addr}{H H1 H2:Hp}{h h1 h2 h':Heap}{a x e:Addr}{o:HO}
theorem Un.any (u:Un fs ex H H1 h h1) {b:Addr}{ob:Obj}(q:h.get? b=ae ob) (n:H b=none) (hx:b∉ex):∃sl,h1.get? b=ae { ob with slots:=sl }:=by
 by_cases hb:b∈fs
 ·exact u.slot b ob q n hb hx
 ·exact⟨ob.slots,u.keep b ob q n hb hx⟩
theorem Un.trans (a:Un fs ex H H1 h h1) (b:Un fs ex H1 H2 h1 h2):Un fs ex H H2 h h2 where
  keep:=λc ob q n hc hx=>b.keep c ob (a.keep c ob q n hc hx) (a.free c ob q n hx) hc hx
  slot:=λc ob q n hc hx=>by
    obtain⟨sl,e1⟩:=a.slot c ob q n hc hx;obtain⟨sl',e2⟩:=b.slot c _ e1 (a.free c ob q n hx) hc hx;exact⟨sl',e2⟩
  free:=λc ob q n hx=>by
    obtain⟨o',e1⟩:=a.there c ob q hx;exact b.free c o' e1 (a.free c ob q n hx) hx
  there:=λc ob q hx=>by
    obtain⟨o',e1⟩:=a.there c ob q hx;exact b.there c o' e1 hx
  tups:=λc xs q=>b.tups c xs (a.tups c xs q)
  frzs:=λc ob xs q=>b.frzs c ob xs (a.frzs c ob xs q)
  tbls:=λc ps q=>by
    obtain⟨m1,e1⟩:=a.tbls c ps q;obtain⟨m2,e2⟩:=b.tbls c _ e1;exact⟨m1++m2,by rw[e2,jj]⟩
theorem Un.kept (k:∀b u,h.get? b=ae u→h'.get? b=ae u):Un fs ex H H h h':=
 ⟨λb ob q _ _ _=>k b ob q,λb ob q _ _ _=>⟨ob.slots,k b ob q⟩,λ_ _ _ n _=>n,λb ob q _=>⟨ob,k b ob q⟩,λ_ _ q=>q,λ_ _ _ q=>q,λ_ ps q=>⟨#[],by rw[q];simp⟩⟩
theorem Un.refl:Un fs ex H H h h:=Un.kept λ_ _ q=>q
theorem Un.laid (k:∀b u,h.get? b=ae u→h'.get? b=ae u) (hp:h.objs.size≤a) (hn:H a=none):Un fs ex H (upd H a o) h h' where
  keep:=λb u q _ _ _=>k b u q
  slot:=λb u q _ _ _=>⟨u.slots,k b u q⟩
  free:=λb u q n _=>by rw[zax (bu (bK (aI q) hp))];exact n
  there:=λb u q _=>⟨u,k b u q⟩
  tups:=λb xs q=>by rw[zax (zat q hn)];exact q
  frzs:=λb u xs q=>by rw[zax (zat q hn)];exact q
  tbls:=λb ps q=>⟨#[],by rw[zax (zat q hn),q];simp⟩
theorem Un.write (mu:Mut (H x)) (he:e=x∨H e=ae (.own x)) (k:∀b u,b≠e→h.get? b=ae u→h'.get? b=ae u) (heo:∃u,h'.get? e=ae u):Un fs ex H (upd H x o) h h':=by
 have hx:∀b,H b=none→b≠x:=λb n z=>by subst z;rw[n]at mu;exact mu
 have hb:∀b,H b=none→b≠e:=λb n z=>by
  subst z;rcases he with r |r
  ·exact hx b n r
  ·rw[n]at r;cases r
 have hm:∀b u,H b=ae u→ ¬Mut (ae u)→b≠x:=λb u q nm z=>by subst z;rw[q]at mu;exact nm mu
 refine⟨λb u q n _ _=>k b u (hb b n) q,λb u q n _ _=>⟨u.slots,k b u (hb b n) q⟩,λb u q n _=>by rw[zax (hx b n)];exact n,λb u q _=>?_,
  λb xs q=>by rw[zax (hm b _ q λz=>z)];exact q,λb u xs q=>by rw[zax (hm b _ q λz=>z)];exact q,λb ps q=>⟨#[],by rw[zax (hm b _ q λz=>z),q];simp⟩⟩
 by_cases hbe:b=e
 ·subst hbe;exact heo
 ·exact⟨u,k b u hbe q⟩
end
noncomputable def trk (h:Heap) (H:Hp):List Addr:=(bc h.objs.size).filter λa=>(H a).isSome
noncomputable def ztN (h:Heap) (H:Hp):Heap:=cU h (trk h H)
theorem zqt (h:Heap) (H:Hp):(ztN h H).objs.size=h.objs.size:=PySem.W.hideAll_size _ _
theorem ztI{h:Heap}{H:Hp}{b:Addr}{o:Obj}(e:h.get? b=ae o) (n:H b=none):(ztN h H).get? b=ae o:=
 fo _ e λhm=>by
  have q:(H b).isSome=true:=(iQ.mp hm).2;rw[n]at q;simp at q
theorem zvo{h:Heap}{H:Hp}{b:Addr}{o:Obj}(e:(ztN h H).get? b=ae o):h.get? b=ae o∧H b=none:=by
 have e':h.get? b=ae o:=fB (trk h H) e;refine⟨e',?_⟩;cases q:H b with
 |none=>rfl
 |some x=>
  have hm:b∈trk h H:=iQ.mpr ⟨dR.mpr (aI e'),by simp [q]⟩
  have z:(ztN h H).get? b=none:=dA (trk h H) hm;rw[z]at e;cases e
noncomputable def zvw (g h:Heap) (L:Addr):List (Addr×Obj):=(bc h.objs.size).filterMap λa=>if a=L∨(g.get? a).isSome=true then none else(h.get? a).map λo=>(a,o)
noncomputable def rest (g h:Heap) (L d:Addr):List (Addr×Obj):=(zvw g h L).filter λp=>decide (p.1≠d)
structure Mod (K:ak) (mg:Str→Option Value) (base:Heap):Prop where
  kin:K.In base
  glob:base.Ns aK mg
  blt:∃mb,base.Ns im mb∧ ∀x:Str,x≠ "__name__" →mb x=bV x
  nolimit:base.NoLimit
structure Cx where
  prog:aF
  w:aC
  K:ak
  mg:Str→Option Value
  base:Heap
  A:aM
  N:List Str
  s₀:ag
  H₀:Hp
  env:bA
  outer:List bA
  stack:List bA
  ex:List Addr
  fn:Str→Bool
  calm:Bool
  pn:List (Addr×Obj)
  xe:Value→ag→Prop
noncomputable def frs (l:List bA):List Addr:=l.filterMap (·.frame)
noncomputable abbrev Cx.fs (X:Cx):List Addr:=frs X.outer
def Vis (sc:Scope) (x:Str):Prop:=sc.names.lookup x=ae .local∨sc.names.lookup x=ae .cell∨sc.names.lookup x=ae .free
def Loc (sc:Scope) (x:Str):Prop:=sc.names.lookup x=ae .local∨sc.names.lookup x=ae .cell
def zCC (env:bA) (h:Heap) (m:Str→Option Value) (x:Str) (u:Value):Prop:=
 (env.kindOf x=ae .local∧m x=ae u)∨((env.kindOf x=ae .cell∨env.kindOf x=ae .free)∧ ∃c,env.cells.lookup x=ae c∧h.IsCell c (ae u))
structure Cx.Ok (X:Cx):Prop where
  mod:Mod X.K X.mg X.base
  kind:X.env.scope.kind= .function
  glob:X.env.globals=aK
  blt:X.env.builtins=im
  above:X.s₀.heap.objs.size≤X.env.locals
  inj:∀x y c,X.env.cells.lookup x=ae c→X.env.cells.lookup y=ae c→x=y
  has:∀x,(X.env.kindOf x=ae .cell∨X.env.kindOf x=ae .free)→ ∃c,X.env.cells.lookup x=ae c
  cab:∀x c,X.fn x=true→X.env.cells.lookup x=ae c→X.s₀.heap.objs.size≤c
  hd:X.calm=true→X.A.handled=none
  frames:X.A.frames=ae X.stack
  stk:X.stack=X.outer∨(X.stack=X.env::X.outer∧X.env.frame=ae X.env.locals)
  exf:∀b∈X.ex,b≠X.env.locals∧ ∀x c,X.env.cells.lookup x=ae c→c≠b
  bs:∀b o,X.base.get? b=ae o→X.s₀.heap.get? b=ae o∧X.H₀ b=none
  bsz:X.base.objs.size≤X.s₀.heap.objs.size
  noex:∀b o,X.base.get? b=ae o→b∉X.ex
  exfs:∀b∈X.ex,b∉X.fs
  funs:X.s₀.heap.FunFrames X.base X.outer
  frf:∀b∈X.fs,X.H₀ b=none
structure Inv (X:Cx) (pins:List (Addr×Obj)) (σ:List (Option V)) (H:Hp) (s:ag):Prop where
  ok:X.Ok
  os:s.os=X.s₀.os
  bare:bP s.gens
  base:Un X.fs X.ex X.H₀ H X.s₀.heap s.heap
  loc:∃m,s.heap.Ns X.env.locals m∧ ∀(i:Nat) (x:Str) (v:V),X.N[i]? =ae x→σ[i]? =ae (ae v)→Vis X.env.scope x→ ∃u,RelV v u∧zCC X.env s.heap m x u
  cell:∀x c,X.env.cells.lookup x=ae c→ ∃v,s.heap.IsCell c v
  free:H X.env.locals=none
  freeC:∀x c,X.env.cells.lookup x=ae c→H c=none
  pin:∀p∈X.pn++pins,s.heap.get? p.1=ae p.2∧H p.1=none∧p.1≠X.env.locals∧p.1∉X.fs∧ ∀v,p.2.data≠ .cell v
  hok:HOk X.prog X.w H s.heap
  len:σ.length=X.N.length
section
variable {X:Cx}{pins:List (Addr×Obj)}{σ:List (Option V)}{H H':Hp}{s:ag}{h':Heap}
theorem Cx.Ok.nofr (ok:X.Ok) {b:Addr}{o:Obj}(e:X.base.get? b=ae o):b∉X.fs:=λhb=>by
 have:=(ok.funs.mem hb).1;rw[e]at this;cases this
theorem Inv.bs (I:Inv X pins σ H s):∀b o,X.base.get? b=ae o→s.heap.get? b=ae o∧H b=none:=λb o e=>
 ⟨I.base.keep b o (I.ok.bs b o e).1 (I.ok.bs b o e).2 (I.ok.nofr e) (I.ok.noex b o e),I.base.free b o (I.ok.bs b o e).1 (I.ok.bs b o e).2 (I.ok.noex b o e)⟩
theorem Inv.bk (I:Inv X pins σ H s):∀b o,X.base.get? b=ae o→s.heap.get? b=ae o:=λb o e=>(I.bs b o e).1
theorem Inv.mod (I:Inv X pins σ H s):Mod X.K X.mg X.base:=I.ok.mod
theorem Inv.kIn (I:Inv X pins σ H s):X.K.In s.heap:=I.ok.mod.kin.keeps I.bk
theorem Inv.lt (I:Inv X pins σ H s):X.env.locals<s.heap.objs.size:=let ⟨_,hn,_⟩:=I.loc;hn.lt
theorem Inv.sz (I:Inv X pins σ H s):X.s₀.heap.objs.size≤s.heap.objs.size:=bi I.ok.above (gO I.lt)
theorem Inv.nofs (I:Inv X pins σ H s) {a:Addr}(h:s.heap.objs.size≤a):a∉X.fs:=λhb=>by
 obtain⟨_,o,ho,_⟩:=I.ok.funs.mem hb;exact absurd (bK (aI ho) (bi I.sz h)) (b5 _)
theorem Inv.cne (I:Inv X pins σ H s):∀x c,X.env.cells.lookup x=ae c→c≠X.env.locals:=λx c e z=>by
 obtain⟨v,o,ho,hd⟩:=I.cell x c e;obtain⟨m,⟨o',es,ep,ho',hd',_⟩,_⟩:=I.loc;rw[z,ho']at ho;cases ho;rw[hd']at hd;cases hd
theorem Inv.funs (I:Inv X pins σ H s):s.heap.FunFrames X.base X.outer:=by
 have all:∀(l:List bA),(∀b∈frs l,b∈X.fs)→X.s₀.heap.FunFrames X.base l→s.heap.FunFrames X.base l:=by
  intro l
  induction l with
  |nil=>intro _ _;trivial
  |cons env r ih=>
   intro hs hl;obtain⟨hk,⟨L,o,hf,hn,ho,hd⟩,hr⟩:=hl;have hL:L∈X.fs:=hs L (by unfold frs;rw[fP,hf];exact aO);obtain⟨sl,e⟩:=I.base.slot L o ho (I.ok.frf L hL) hL λz=>I.ok.exfs L z hL;exact⟨hk,⟨L,_,hf,hn,e,hd⟩,ih (λb hb=>hs b (by unfold frs;rw[fP,hf];exact aG _ hb)) hr⟩
 exact all X.outer (λ_ hb=>hb) I.ok.funs
theorem Inv.stack (I:Inv X pins σ H s):s.heap.FunFrames X.base X.stack:=by
 rcases I.ok.stk with e |⟨e,hf⟩
 ·rw[e];exact I.funs
 ·rw[e];obtain⟨m,hn,_⟩:=I.loc;refine .cons (by rw[I.ok.kind];decide) hf hn ?_ I.funs;exact Heap.get?_none_of_le (bi I.ok.bsz I.ok.above)
theorem Inv.stkSub (I:Inv X pins σ H s):∀b∈frs X.stack,b∈X.env.locals::X.fs:=λb hb=>by
 rcases I.ok.stk with e |⟨e,hf⟩
 ·rw[e]at hb;exact aG _ hb
 ·rw[e]at hb;unfold frs at hb;rw[fP,hf]at hb;exact hb
theorem Inv.stkFree (I:Inv X pins σ H s):∀b∈frs X.stack,H b=none:=λb hb=>by
 rcases av.mp (I.stkSub b hb) with e |hb
 ·rw[e];exact I.free
 ·obtain⟨_,o,ho,_⟩:=I.ok.funs.mem hb;exact I.base.free b o ho (I.ok.frf b hb) λz=>I.ok.exfs b z hb
theorem Inv.step{g':Array GenState}{t':Nat}{d':Drawn}{ch:List Addr}(I:Inv X pins σ H s)
  (hch:∀b∈ch,(b∈X.ex∨X.s₀.heap.objs.size≤b)∧b≠X.env.locals∧(∀x c,X.env.cells.lookup x=ae c→c≠b)∧ ∀p∈X.pn++pins,p.1≠b)
  (keep:∀b o,b≠X.env.locals→b∉X.fs→b∉ch→s.heap.get? b=ae o→H b=none→h'.get? b=ae o)
  (slot:∀b o,b≠X.env.locals→b∈X.fs→b∉ch→s.heap.get? b=ae o→H b=none→ ∃sl,h'.get? b=ae { o with slots:=sl }) (free:∀b o,b∉ch→s.heap.get? b=ae o→H b=none→H' b=none)
  (there:∀b o,b∉ch→s.heap.get? b=ae o→ ∃o',h'.get? b=ae o')
  (tups:∀b xs,H b=ae (.tup xs)→H' b=ae (.tup xs)) (frzs:∀b o u,H b=ae (.frz o u)→H' b=ae (.frz o u)) (tbls:∀b ps,H b=ae (.tbl ps)→ ∃more,H' b=ae (.tbl (ps++more)))
  (ns:∀m,s.heap.Ns X.env.locals m→h'.Ns X.env.locals m) (hok:HOk X.prog X.w H' h') (hg:bP g') :
  Inv X pins σ H' { s with heap:=h',gens:=g',drawn:=d',toks:=t' }:=by
 have neL:∀b o,X.s₀.heap.get? b=ae o→b≠X.env.locals:=λb o e=>bu (bK (aI e) I.ok.above);have neC:∀b o,X.s₀.heap.get? b=ae o→b∉X.ex→b∉ch:=λb o e hx hb=>by
  rcases(hch b hb).1 with z |z
  ·exact hx z
  ·exact absurd (bK (aI e) z) (b5 _)
 have cellK:∀x c,X.env.cells.lookup x=ae c→ ∀v,s.heap.IsCell c v→h'.IsCell c v:=λx c e v ⟨o,ho,hd⟩=>by
  have nch:c∉ch:=λz=>(hch c z).2.2.1 x c e rfl;by_cases hc:c∈X.fs
  ·obtain⟨sl,q⟩:=slot c o (I.cne x c e) hc nch ho (I.freeC x c e);exact⟨_,q,hd⟩
  ·exact⟨o,keep c o (I.cne x c e) hc nch ho (I.freeC x c e),hd⟩
 refine⟨I.ok,I.os,hg,⟨λb o e n hb hx=>?_,λb o e n hb hx=>?_,λb o e n hx=>?_,λb o e hx=>?_,λb xs e=>tups b xs (I.base.tups b xs e),λb o xs e=>frzs b o xs (I.base.frzs b o xs e),λb ps e=>?_⟩,?_,λx c e=>?_,?_,λx c e=>?_,λp hp=>?_,hok,I.len⟩
 ·exact keep b o (neL b o e) hb (neC b o e hx) (I.base.keep b o e n hb hx) (I.base.free b o e n hx)
 ·obtain⟨sl,e1⟩:=I.base.slot b o e n hb hx;obtain⟨sl',e2⟩:=slot b _ (neL b o e) hb (neC b o e hx) e1 (I.base.free b o e n hx);exact⟨sl',e2⟩
 ·obtain⟨o',e1⟩:=I.base.there b o e hx;exact free b o' (neC b o e hx) e1 (I.base.free b o e n hx)
 ·obtain⟨o',e1⟩:=I.base.there b o e hx;exact there b o' (neC b o e hx) e1
 ·obtain⟨m1,e1⟩:=I.base.tbls b ps e;obtain⟨m2,e2⟩:=tbls b _ e1;exact⟨m1++m2,by rw[e2,jj]⟩
 ·obtain⟨m,hn,hl⟩:=I.loc;refine⟨m,ns m hn,λi x v e1 e2 e3=>?_⟩;obtain⟨u,r,l⟩:=hl i x v e1 e2 e3;refine⟨u,r,?_⟩;rcases l with l |⟨k,c,e,z⟩
  ·exact .inl l
  ·exact .inr ⟨k,c,e,cellK x c e _ z⟩
 ·obtain⟨v,z⟩:=I.cell x c e;exact⟨v,cellK x c e v z⟩
 ·obtain⟨m,⟨o,_,_,ho,_⟩,_⟩:=I.loc;exact free _ o (λz=>(hch _ z).2.1 rfl) ho I.free
 ·obtain⟨v,o,ho,hd⟩:=I.cell x c e;exact free c o (λz=>(hch c z).2.2.1 x c e rfl) ho (I.freeC x c e)
 ·obtain⟨e,n,ne,nf,d⟩:=I.pin p hp;have nch:p.1∉ch:=λz=>(hch p.1 z).2.2.2 p hp rfl;exact⟨keep p.1 p.2 ne nf nch e n,free p.1 p.2 nch e n,ne,nf,d⟩
theorem Inv.un{t':Nat}(I:Inv X pins σ H s) (u:Un X.fs [] H H' s.heap h') (hok:HOk X.prog X.w H' h'):Inv X pins σ H' { s with heap:=h',toks:=t' }:=by
 obtain⟨m,⟨o,es,ep,ho,r⟩,_⟩:=id I.loc;obtain⟨sl,hL⟩:=u.any ho I.free (by simp);exact I.step (g':=s.gens) (d':=s.drawn) (ch:=[]) (λ_ z=>nomatch z) (λb o _ hb _ e n=>u.keep b o e n hb (by simp)) (λb o _ hb _ e n=>u.slot b o e n hb (by simp)) (λb o _ e n=>u.free b o e n (by simp)) (λb o _ e=>u.there b o e (by simp)) u.tups u.frzs u.tbls (λm' hm=>by
  obtain⟨o',es',ep',ho',r'⟩:=hm;rw[ho]at ho';cases ho';exact⟨_,es',ep',hL,r'⟩) hok I.bare
theorem Inv.call{g':Array GenState}{t':Nat}{d':Drawn}{ch:List Addr}(I:Inv X pins σ H s) (u:Un (frs X.stack) ch H H' s.heap h') (hok:HOk X.prog X.w H' h') (hg:bP g')
  (hch:∀b∈ch,(b∈X.ex∨X.s₀.heap.objs.size≤b)∧b≠X.env.locals∧(∀x c,X.env.cells.lookup x=ae c→c≠b)∧ ∀p∈X.pn++pins,p.1≠b) :
  Inv X pins σ H' { s with heap:=h',gens:=g',drawn:=d',toks:=t' }:=by
 obtain⟨m,⟨o,es,ep,ho,r⟩,_⟩:=id I.loc;obtain⟨sl,hL⟩:=u.any ho I.free λz=>(hch _ z).2.1 rfl;exact I.step (ch:=ch) hch (λb o hL hb hc e n=>u.keep b o e n (λz=>(av.mp (I.stkSub b z)).elim hL hb) hc) (λb o _ _ hc e n=>u.any e n hc) (λb o hc e n=>u.free b o e n hc) (λb o hc e=>u.there b o e hc) u.tups u.frzs u.tbls (λm' hm=>by
  obtain⟨o',es',ep',ho',r'⟩:=hm;rw[ho]at ho';cases ho';exact⟨_,es',ep',hL,r'⟩) hok hg
theorem Inv.turned{t':Nat}{it:Addr}(I:Inv X pins σ H s) (k:∀b o,b≠it→s.heap.get? b=ae o→h'.get? b=ae o) (hn:H it=none) (hL:it≠X.env.locals)
  (h1:it∈X.ex∨X.s₀.heap.objs.size≤it) (h2:∀x c,X.env.cells.lookup x=ae c→c≠it) (h3:∀p∈X.pn++pins,p.1≠it):Inv X pins σ H { s with heap:=h',toks:=t' }:=by
 have nit:∀b u,H b=ae u→b≠it:=λb u e z=>by rw[z,hn]at e;cases e
 refine I.step (g':=s.gens) (d':=s.drawn) (ch:=[it]) (λb hb=>?_) (λb o _ _ hc e _=>k b o (λz=>hc (by simp [z])) e) (λb o _ _ hc e _=>⟨o.slots,k b o (λz=>hc (by simp [z])) e⟩) (λ_ _ _ _ n=>n)
  (λb o hc e=>⟨o,k b o (λz=>hc (by simp [z])) e⟩) (λ_ _ e=>e) (λ_ _ _ e=>e) (λb ps e=>⟨#[],by rw[e];simp⟩) (λm hm=>?_) (λb u e=>?_) I.bare
 ·have e:b=it:=by simpa using hb
  subst e;exact⟨h1,hL,h2,h3⟩
 ·obtain⟨o,es,ep,ho,r⟩:=hm;exact⟨o,es,ep,k _ o (br hL) ho,r⟩
 ·refine(I.hok b u e).stay (λc v hc q=>k c v ?_ q) (λ_ q=>q) λ_ _ q=>q;rcases hc with z |z
  ·rw[z];exact nit b u e
  ·exact nit c _ z
theorem Inv.tok (I:Inv X pins σ H s) (t:Nat):Inv X pins σ H { s with toks:=t }:=I.un (h':=s.heap) (t':=t) Un.refl I.hok
theorem Inv.kept{t':Nat}(I:Inv X pins σ H s) (k:∀b u,s.heap.get? b=ae u→h'.get? b=ae u):Inv X pins σ H { s with heap:=h',toks:=t' }:=I.un (Un.kept k) (I.hok.kept k)
theorem Inv.laid{a:Addr}{o:HO}{t':Nat}(I:Inv X pins σ H s) (k:∀b u,s.heap.get? b=ae u→h'.get? b=ae u) (hp:s.heap.objs.size≤a) (new:ObjOk X.prog X.w (upd H a o) h' a o) :
  Inv X pins σ (upd H a o) { s with heap:=h',toks:=t' }:=I.un (Un.laid k hp (I.hok.fresh hp)) (I.hok.laid k hp new)
theorem Inv.write{x e:Addr}{o:HO}{t':Nat}(I:Inv X pins σ H s) (mu:Mut (H x)) (he:e=x∨H e=ae (.own x)) (k:∀b u,b≠e→s.heap.get? b=ae u→h'.get? b=ae u) (heo:∃u,h'.get? e=ae u)
  (new:ObjOk X.prog X.w (upd H x o) h' x o):Inv X pins σ (upd H x o) { s with heap:=h',toks:=t' }:=I.un (Un.write mu he k heo) (I.hok.write mu he k heo new)
theorem Inv.pins_of{pins':List (Addr×Obj)}(I:Inv X pins σ H s) (h:∀p∈pins',s.heap.get? p.1=ae p.2∧H p.1=none∧p.1≠X.env.locals∧p.1∉X.fs∧ ∀v,p.2.data≠ .cell v):Inv X pins' σ H s:=
 ⟨I.ok,I.os,I.bare,I.base,I.loc,I.cell,I.free,I.freeC,λp hp=>(bh.mp hp).elim (λz=>I.pin p (eZ _ z)) (h p),I.hok,I.len⟩
theorem znt{N:List Str}(hN:N.Nodup) {i j:Nat}{x:Str}(a:N[i]? =ae x) (b:N[j]? =ae x):i=j:=by
 obtain⟨h1,e1⟩:=cb.mp a;obtain⟨h2,e2⟩:=cb.mp b;exact(List.getElem_inj hN).mp (e1.trans e2.symm)
theorem zkk{M:dX}{A:aM}{E:Value→ag→Prop}{i:Nat}{x:Str}{v:V}{u:Value}{Q:Unit→ag→Prop}(I:Inv X pins σ H s) (hN:X.N.Nodup) (hi:X.N[i]? =ae x) (hx:Loc X.env.scope x) (r:RelV v u)
  (h:∀s',Inv X pins (σ.set i (ae v)) H s'→(∃a,cf a s.heap s'.heap∧(a=X.env.locals∨X.env.cells.lookup x=ae a))→Q () s') (hf:X.fn x=true∨X.env.scope.names.lookup x=ae .local:=by first |exact .inl rfl |exact .inr rfl |assumption):am M A (ii X.env x u) Q E s:=by
 obtain⟨m,hn,hl⟩:=id I.loc;have hcls:(X.env.scope.kind == .class || (X.env.scope.kind == .module&&X.env.locals != X.env.globals))=false:=by rw[I.ok.kind];rfl
 have hiσ:i<σ.length:=by rw[I.len];exact(cb.mp hi).1
 have cne:=I.cne;have tracked:∀{a:Addr}{h':Heap},(∃o,s.heap.get? a=ae o∧H a=none)→cf a s.heap h'→HOk X.prog X.w H h':=λ{a h'} ha hs b ob e=>by
  obtain⟨_,_,hfree⟩:=ha;refine(I.hok b ob e).stay (λc w' hc q=>(hs.2 c ?_).trans q) (λ_ q=>q) λ_ _ q=>q;rintro rfl;rcases hc with rfl |hc
  ·rw[hfree]at e;cases e
  ·rw[hfree]at hc;cases hc
 rcases hx with hk |hk
 ·refine wpAny_storeName_local hk hn (λh' hn' hs=>?_) hcls;obtain⟨oL,_,_,hoL,_⟩:=id hn;refine h _ ⟨I.ok,I.os,I.bare,⟨λb o e n hb hx=>?_,λb o e n hb hx=>?_,I.base.free,λb o e hx=>?_,I.base.tups,I.base.frzs,I.base.tbls⟩,⟨_,hn',λj y v' e1 e2 e3=>?_⟩,λy c e=>?_,I.free,I.freeC,λp hp=>?_,tracked ⟨oL,hoL,I.free⟩ hs,by simpa using I.len⟩ ⟨_,hs, .inl rfl⟩
  ·exact(hs.2 b (bu (bK (aI e) I.ok.above))).trans (I.base.keep b o e n hb hx)
  ·obtain⟨sl,e1⟩:=I.base.slot b o e n hb hx;exact⟨sl,(hs.2 b (bu (bK (aI e) I.ok.above))).trans e1⟩
  ·obtain⟨o',e1⟩:=I.base.there b o e hx;exact⟨o',(hs.2 b (bu (bK (aI e) I.ok.above))).trans e1⟩
  ·by_cases hj:j=i
   ·subst hj;rw[hi]at e1;cases e1;rw[kf hiσ]at e2;cases e2;exact⟨u,r, .inl ⟨hk,by simp⟩⟩
   ·rw[jH (br hj)]at e2;obtain⟨u',r',q⟩:=hl j y v' e1 e2 e3;refine⟨u',r',?_⟩;rcases q with⟨k,e⟩ |⟨k,c,e,z⟩
    ·refine .inl ⟨k,?_⟩;have:y≠x:=λe=>hj (znt hN e1 (e▸hi));simp [this,e]
    ·exact .inr ⟨k,c,e,z.sameBut hs (cne y c e)⟩
  ·obtain⟨w',z⟩:=I.cell y c e;exact⟨w',z.sameBut hs (cne y c e)⟩
  ·obtain⟨e,n,ne,nf,d⟩:=I.pin p hp;exact⟨(hs.2 p.1 ne).trans e,n,ne,nf,d⟩
 ·have hfn:X.fn x=true:=by
   rcases hf with z |z
   ·exact z
   ·rw[z]at hk;cases hk
  obtain⟨c,hc⟩:=I.ok.has x (.inl hk);obtain⟨w',z⟩:=I.cell x c hc;refine wpAny_storeName_cell I.ok.kind hk hc z (λh' hc' hs=>?_);obtain⟨oc,hoc,hocd⟩:=id z;refine h { s with heap:=h' } ⟨I.ok,I.os,I.bare,⟨λb o e n hb hx=>?_,λb o e n hb hx=>?_,I.base.free,λb o e hx=>?_,I.base.tups,I.base.frzs,I.base.tbls⟩,⟨m,hn.sameBut hs (br (cne x c hc)),λj y v' e1 e2 e3=>?_⟩,λy c' e=>?_,I.free,I.freeC,λp hp=>?_,tracked ⟨oc,hoc,I.freeC x c hc⟩ hs,by simpa using I.len⟩ ⟨c,hs, .inr hc⟩
  ·exact(hs.2 b (bu (bK (aI e) (I.ok.cab x c hfn hc)))).trans (I.base.keep b o e n hb hx)
  ·obtain⟨sl,e1⟩:=I.base.slot b o e n hb hx;exact⟨sl,(hs.2 b (bu (bK (aI e) (I.ok.cab x c hfn hc)))).trans e1⟩
  ·obtain⟨o',e1⟩:=I.base.there b o e hx;exact⟨o',(hs.2 b (bu (bK (aI e) (I.ok.cab x c hfn hc)))).trans e1⟩
  ·by_cases hj:j=i
   ·subst hj;rw[hi]at e1;cases e1;rw[kf hiσ]at e2;cases e2;exact⟨u,r, .inr ⟨.inl hk,c,hc,hc'⟩⟩
   ·rw[jH (br hj)]at e2;obtain⟨u',r',q⟩:=hl j y v' e1 e2 e3;refine⟨u',r',?_⟩;rcases q with q |⟨k,c',e,z'⟩
    ·exact .inl q
    ·refine .inr ⟨k,c',e,z'.sameBut hs ?_⟩;rintro rfl;exact hj (znt hN e1 (I.ok.inj _ _ _ e hc▸hi))
  ·by_cases hcc:c'=c
   ·subst hcc;exact⟨_,hc'⟩
   ·obtain⟨w2,z2⟩:=I.cell y c' e;exact⟨w2,z2.sameBut hs hcc⟩
  ·obtain⟨e,n,ne,nf,d⟩:=I.pin p hp;refine⟨(hs.2 p.1 ?_).trans e,n,ne,nf,d⟩;intro q;rw[q,hoc]at e;have q':oc=p.2:=aE e;exact d w' (by rw[←q'];exact hocd)
theorem zjE{M:dX}{A:aM}{E:Value→ag→Prop}{i:Nat}{x:Str}{v:V}{u:Value}{Q:Unit→ag→Prop}(I:Inv X pins σ H s) (hN:X.N.Nodup) (hi:X.N[i]? =ae x) (hx:Loc X.env.scope x) (r:RelV v u)
  (h:∀s',Inv X pins (σ.set i (ae v)) H s'→Q () s') (hf:X.fn x=true∨X.env.scope.names.lookup x=ae .local:=by first |exact .inl rfl |exact .inr rfl |assumption):am M A (ii X.env x u) Q E s:=
 zkk I hN hi hx r (λs' I' _=>h s' I') hf
theorem Inv.call'{s':ag}{ch:List Addr}(I:Inv X pins σ H s) (ho:s'.os=s.os) (u:Un (frs X.stack) ch H H' s.heap s'.heap) (hok:HOk X.prog X.w H' s'.heap) (hg:bP s'.gens)
  (hch:∀b∈ch,(b∈X.ex∨X.s₀.heap.objs.size≤b)∧b≠X.env.locals∧(∀x c,X.env.cells.lookup x=ae c→c≠b)∧ ∀p∈X.pn++pins,p.1≠b):Inv X pins σ H' s':=by
 obtain⟨h',g',d',t',o'⟩:=s';have e:o'=s.os:=ho;subst e;exact I.call (g':=g') (t':=t') (d':=d') u hok hg hch
end
abbrev XK:=Value→Option Addr→Hp→Prop
abbrev St:=List (Option V)
abbrev VK:=V→Hp→Prop
abbrev TE:=St→Hp→VK→Prop
abbrev TT:=St→Hp→(Bool→Hp→Prop)→Prop
abbrev TA:=St→Hp→(List V→Hp→Prop)→Prop
structure Ends where
  nx:St→Hp→Prop
  rt:VK
  bk:St→Hp→Prop:=λ_ _=>False
  ct:St→Hp→Prop:=λ_ _=>False
abbrev TS:=Ends→St→Hp→Prop
def EP (X:Cx) (pins:List (Addr×Obj)) (σ:St) (Q:VK) (u:Value) (s':ag):Prop:=∃v H',Inv X pins σ H' s'∧RelV v u∧Q v H'
def TP (X:Cx) (pins:List (Addr×Obj)) (σ:St) (Q:Bool→Hp→Prop) (b:Bool) (s':ag):Prop:=∃H',Inv X pins σ H' s'∧Q b H'
def AP (X:Cx) (pins:List (Addr×Obj)) (σ:St) (Q:List V→Hp→Prop) (us:List Value) (s':ag):Prop:=∃vs H',Inv X pins σ H' s'∧Vals vs us∧Q vs H'
def SP (X:Cx) (pins:List (Addr×Obj)) (D:Ends) (f:Flow) (s':ag):Prop:=
 match f with
 | .next=>∃σ' H',Inv X pins σ' H' s'∧D.nx σ' H'
 | .brk=>∃σ' H',Inv X pins σ' H' s'∧D.bk σ' H'
 | .cont=>∃σ' H',Inv X pins σ' H' s'∧D.ct σ' H'
 | .ret u=>∃v σ' H',Inv X pins σ' H' s'∧RelV v u∧D.rt v H'
def PE (X:Cx) (e:Expr) (t:TE):Prop:=
 ∀(pins:List (Addr×Obj)) (s:ag) (σ:St) (H:Hp) (Q:VK),Inv X pins σ H s→t σ H Q→am (ap X.prog X.w) X.A (ax e X.env) (EP X pins σ Q) X.xe s
def PT (X:Cx) (e:Expr) (t:TT):Prop:=
 ∀(pins:List (Addr×Obj)) (s:ag) (σ:St) (H:Hp) (Q:Bool→Hp→Prop),Inv X pins σ H s→t σ H Q→am (ap X.prog X.w) X.A (isTrue e X.env (ax e X.env)) (TP X pins σ Q) X.xe s
def PW (X:Cx) (e:Expr) (t:TT):Prop:=
 ∀(whole:b4 Value) (pins:List (Addr×Obj)) (s:ag) (σ:St) (H:Hp) (Q:Bool→Hp→Prop),Inv X pins σ H s→t σ H Q→am (ap X.prog X.w) X.A (isTrue e X.env whole) (TP X pins σ Q) X.xe s
theorem PW.pt{X:Cx}{e:Expr}{t:TT}(h:PW X e t):PT X e t:=h _
def PA (X:Cx) (es:List Expr) (t:TA):Prop:=
 ∀(pos:aB) (pins:List (Addr×Obj)) (s:ag) (σ:St) (H:Hp) (Q:List V→Hp→Prop),Inv X pins σ H s→t σ H Q→am (ap X.prog X.w) X.A (spliced (aS pos (ao es X.env))) (AP X pins σ Q) X.xe s
def PS (X:Cx) (st:Stmt) (t:TS):Prop:=
 ∀(pins:List (Addr×Obj)) (s:ag) (σ:St) (H:Hp) (D:Ends),Inv X pins σ H s→t D σ H→am (ap X.prog X.w) X.A (exec st X.env) (SP X pins D) X.xe s
def PSs (X:Cx) (st:List Stmt) (t:TS):Prop:=
 ∀(pins:List (Addr×Obj)) (s:ag) (σ:St) (H:Hp) (D:Ends),Inv X pins σ H s→t D σ H→am (ap X.prog X.w) X.A (execs st X.env) (SP X pins D) X.xe s
theorem thn{α:Type}{t:b4 α}{Q Q':α→ag→Prop}{M:dX}{A:aM}{E:Value→ag→Prop}{s:ag}(h:am M A t Q E s) (hQ:∀a s,Q a s→Q' a s):am M A t Q' E s:=bX h hQ λ_ _ x=>x
section
variable {X:Cx}
noncomputable def zCX (i:Nat):TE:=λσ H Q=>∃v,σ[i]? =ae (ae v)∧Q v H
noncomputable def tC (v:V):TE:=λ_ H Q=>Q v H
theorem zxI{i:Nat}{x:Str}{pos:aB}(hN:X.N[i]? =ae x) (hv:Vis X.env.scope x) (hd:(x == ("__debug__" :Str))=false:=by decide) (hcd:(x == ("__classdict__" :Str))=false:=by decide):PE X (.Name x pos) (zCX i):=by
 intro pins s σ H Q I h;obtain⟨v,e,h⟩:=h;obtain⟨m,hn,hl⟩:=I.loc;obtain⟨u,r,l⟩:=hl i x v hN e hv;have fin:EP X pins σ Q u s:=⟨v,H,I,r,h⟩;rcases l with⟨hk,hm⟩ |⟨hk,c,hc,hcell⟩
 ·exact gI (ku I.ok.kind hk hn hm fin) hd
 ·rcases hk with hk |hk
  ·exact gI (kr I.ok.kind hk hc hcell fin) hd
  ·exact gI (wpAny_loadName_free I.ok.kind hk hc hcell fin hcd) hd
theorem zxP{i j pos}:PE X (.Constant (.int i) j pos) (tC (.int i)):=λ_ _ _ H _ I h=>iY ⟨.int i,H,I.tok _,⟨_,rfl⟩,h⟩
theorem zBm{b j pos}:PE X (.Constant (.bool b) j pos) (tC (.bl b)):=λ_ _ _ H _ I h=>Constant_bool ⟨.bl b,H,I,rfl,h⟩
theorem zyF{j pos}:PE X (.Constant .none j pos) (tC .non):=λ_ _ _ H _ I h=>Constant_none ⟨.non,H,I,rfl,h⟩
theorem zyR{x j pos}:PE X (.Constant (.str x) j pos) (tC (.str x)):=λ_ _ _ H _ I h=>Calls.Constant_str ⟨.str x,H,I.tok _,⟨_,rfl⟩,h⟩
def Gl (X:Cx) (x:Str):Prop:=X.env.kindOf x=ae .globalImplicit
theorem zhx{E:Value→ag→Prop}{pins:List (Addr×Obj)}{s:ag}{σ:St}{H:Hp}{x:Str}{u:Value}{pos:aB}{Q:Value→ag→Prop}(I:Inv X pins σ H s) (hg:Gl X x) (hm:X.mg x=ae u) (h:Q u s)
  (hd:(x == ("__debug__" :Str))=false:=by decide):am (ap X.prog X.w) X.A (ax (.Name x pos) X.env) Q E s:=
 kA I.ok.kind hg (Calls.loadGlobal_global (by rw[I.ok.glob];exact I.mod.glob.keeps I.bk) hm h) hd
theorem zhX{E:Value→ag→Prop}{pins:List (Addr×Obj)}{s:ag}{σ:St}{H:Hp}{x:Str}{u:Value}{pos:aB}{Q:Value→ag→Prop}(I:Inv X pins σ H s) (hg:Gl X x) (hm:X.mg x=none) (hv:bV x=ae u) (h:Q u s)
  (hn:x≠ "__name__" :=by decide) (hd:(x == ("__debug__" :Str))=false:=by decide):am (ap X.prog X.w) X.A (ax (.Name x pos) X.env) Q E s:=by
 obtain⟨mb,h1,h2⟩:=I.mod.blt;exact kA I.ok.kind hg (Calls.loadGlobal_builtin (by rw[I.ok.glob];exact I.mod.glob.keeps I.bk) hm (by rw[I.ok.blt];exact h1.keeps I.bk) ((h2 x hn).trans hv) h) hd
theorem zxg{x:Str}{v:V}{u:Value}{pos:aB}(hg:Gl X x) (hm:X.mg x=ae u) (r:RelV v u) (hd:(x == ("__debug__" :Str))=false:=by decide):PE X (.Name x pos) (tC v):=
 λ_ _ _ H _ I h=>zhx I hg hm ⟨v,H,I,r,h⟩ hd
theorem zvh{x:Str}{v:V}{u:Value}{pos:aB}(hg:Gl X x) (hm:X.mg x=none) (hv:bV x=ae u) (r:RelV v u) (hn:x≠ "__name__" :=by decide) (hd:(x == ("__debug__" :Str))=false:=by decide):PE X (.Name x pos) (tC v):=
 λ_ _ _ H _ I h=>zhX I hg hm hv ⟨v,H,I,r,h⟩ hn hd
variable {a b:Expr}{ta tb:TE}{pos:aB}
variable {tA tB':TT}{rest:List Expr}
noncomputable def zCH (t u:TT):TT:=λσ H Q=>t σ H λc H1=>if c=true then u σ H1 Q else Q false H1
noncomputable def tOr (t u:TT):TT:=λσ H Q=>t σ H λc H1=>if c=true then Q true H1 else u σ H1 Q
noncomputable def zCO (t:TT):TT:=λσ H Q=>t σ H λc H1=>Q (!c) H1
theorem zwe (ha:PT X a tA):PW X (.BoolOp .And [a] pos) tA:=by
 intro wh pins s σ H Q I h;refine isTrue_and (thn (ha pins s σ H Q I h) λc s1 e=>?_);cases c with
 |true=>exact isTrue_and_nil e
 |false=>exact e
theorem zyh (ha:PT X a tA):PW X (.BoolOp .Or [a] pos) tA:=by
 intro wh pins s σ H Q I h;refine isTrue_or (thn (ha pins s σ H Q I h) λc s1 e=>?_);cases c with
 |false=>exact isTrue_or_nil e
 |true=>exact e
theorem zxU (ha:PT X a tA) (hb:PW X (.BoolOp .And (b::rest) pos) tB'):PW X (.BoolOp .And (a::b::rest) pos) (zCH tA tB'):=by
 intro wh pins s σ H Q I h;refine isTrue_and (thn (ha pins s σ H _ I h) λc s1 ⟨H1,I1,q1⟩=>?_);cases c with
 |true=>exact hb wh pins s1 σ H1 Q I1 q1
 |false=>exact⟨H1,I1,q1⟩
theorem zBz (ha:PT X a tA) (hb:PW X (.BoolOp .Or (b::rest) pos) tB'):PW X (.BoolOp .Or (a::b::rest) pos) (tOr tA tB'):=by
 intro wh pins s σ H Q I h;refine isTrue_or (thn (ha pins s σ H _ I h) λc s1 ⟨H1,I1,q1⟩=>?_);cases c with
 |true=>exact⟨H1,I1,q1⟩
 |false=>exact hb wh pins s1 σ H1 Q I1 q1
theorem zyb (ha:PT X a tA):PT X (.UnaryOp .Not a pos) (zCO tA):=by
 intro pins s σ H Q I h;exact isTrue_not (ha pins s σ H (λc H1=>Q (!c) H1) I h)
noncomputable def zAE (ta tb:TE):TE:=λσ H Q=>ta σ H λx H1=>∃c,x= .bl c∧if c=true then tb σ H1 Q else Q (.bl false) H1
noncomputable def zCJ (ta tb:TE):TE:=λσ H Q=>ta σ H λx H1=>∃c,x= .bl c∧if c=true then Q (.bl true) H1 else tb σ H1 Q
theorem zyc{op}{t:TE}(h:PE X a t):PE X (.BoolOp op [a] pos) t:=λpins s σ H Q I hw=>BoolOp_one (h pins s σ H Q I hw)
theorem zxY (ha:PE X a ta) (hb:PE X (.BoolOp .And (b::rest) pos) tb):PE X (.BoolOp .And (a::b::rest) pos) (zAE ta tb):=by
 intro pins s σ H Q I h;refine BoolOp_and (thn (ha pins s σ H _ I h) λv s1 ⟨x,H1,I1,r1,q1⟩=>?_);obtain⟨c,rfl,q1⟩:=q1;cases r1;refine dw ?_;cases c with
 |true=>exact hb pins s1 σ H1 Q I1 q1
 |false=>exact⟨.bl false,H1,I1,rfl,q1⟩
theorem zAY (ha:PE X a ta) (hb:PE X (.BoolOp .Or (b::rest) pos) tb):PE X (.BoolOp .Or (a::b::rest) pos) (zCJ ta tb):=by
 intro pins s σ H Q I h;refine BoolOp_or (thn (ha pins s σ H _ I h) λv s1 ⟨x,H1,I1,r1,q1⟩=>?_);obtain⟨c,rfl,q1⟩:=q1;cases r1;refine dw ?_;cases c with
 |false=>exact hb pins s1 σ H1 Q I1 q1
 |true=>exact⟨.bl true,H1,I1,rfl,q1⟩
noncomputable def tIf (t:TT) (ta tb:TE):TE:=λσ H Q=>t σ H λc H1=>if c=true then ta σ H1 Q else tb σ H1 Q
theorem zsX{c:Expr}(hc:PT X c tA) (ha:PE X a ta) (hb:PE X b tb):PE X (.IfExp c a b pos) (tIf tA ta tb):=by
 intro pins s σ H Q I h;refine wpAny_IfExp (thn (hc pins s σ H _ I h) λd s1 ⟨H1,I1,q1⟩=>?_);cases d with
 |true=>exact ha pins s1 σ H1 Q I1 q1
 |false=>exact hb pins s1 σ H1 Q I1 q1
end
def SqL (K:ak) (H:Hp) (a:Addr) (xs:List V):Prop:=
 Rd H a (.lst xs)∨
  ∃(o:Obj) (its:Array Value) (n:Nat),K.lookup a=ae o∧o.cls= .type "list" ∧o.dict=none∧o.data= .seq its n∧its.size≤sizeLine∧Vals xs its.toList
def SqT (K:ak) (H:Hp) (a:Addr) (xs:List V):Prop:=
 Rd H a (.tup xs)∨
  ∃(o:Obj) (its:Array Value) (n:Nat),K.lookup a=ae o∧o.cls= .type "tuple" ∧o.data= .seq its n∧its.size≤sizeLine∧Vals xs its.toList
noncomputable def zCW:Value→Option V
 | .none=>ae .non
 | .bool b=>ae (.bl b)
 | .int i _=>ae (.int i)
 | .str x _=>ae (.str x)
 | .bytes b _=>ae (.byt b)
 | .float b _=>ae (.flt b)
 | .ref a=>ae (.ref a)
 | .type n=>ae (.ty n)
 |_=>none
theorem RelV.abs{x:V}{u:Value}(r:RelV x u):zCW u=ae x:=by
 cases x with
 |non=>cases r;rfl
 |bl _=>cases r;rfl
 |int _=>obtain⟨t,rfl⟩:=r;rfl
 |str _=>obtain⟨t,rfl⟩:=r;rfl
 |byt _=>obtain⟨t,rfl⟩:=r;rfl
 |flt _=>obtain⟨t,rfl⟩:=r;rfl
 |ref _=>cases r;rfl
 |ty _=>cases r;rfl
theorem RelV.inj{x y:V}{u:Value}(r:RelV x u) (q:RelV y u):x=y:=aE (r.abs.symm.trans q.abs)
theorem Vals.inj:∀{xs ys:List V}{us:List Value},Vals xs us→Vals ys us→xs=ys
 |_,_,_, .nil, .nil=>rfl
 |_,_,_, .cons r t, .cons r' t'=>by rw[r.inj r',Vals.inj t t']
section
variable {X:Cx}{pins:List (Addr×Obj)}{σ:St}{H:Hp}{s:ag}{a:Addr}{xs ys:List V}
theorem SqL.of{K:ak}(h:H a=ae (.lst xs)):SqL K H a xs:= .inl (.inl h)
theorem SqT.of{K:ak}(h:H a=ae (.tup xs)):SqT K H a xs:= .inl (.inl h)
theorem Inv.list (I:Inv X pins σ H s) (h:SqL X.K H a xs):∃its:List Value,Vals xs its∧PlainL s.heap a its.toArray∧xs.length≤sizeLine:=by
 rcases h with h |⟨o,its,n,hk,hc,hd,hs,hz,r⟩
 ·obtain⟨z,its,n,r,e⟩:=h.ok I.hok;exact⟨its,r,⟨_,n,e,rfl,rfl,rfl⟩,z⟩
 ·refine⟨its.toList,r,⟨o,n,I.kIn a o hk,hc,hd,by simpa using hs⟩,?_⟩
  have e:=r.length;simp only[gV]at e;omega
theorem Inv.tuple (I:Inv X pins σ H s) (h:SqT X.K H a xs):∃its:List Value,Vals xs its∧eH s.heap a its.toArray∧xs.length≤sizeLine:=by
 rcases h with h |⟨o,its,n,hk,hc,hs,hz,r⟩
 ·obtain⟨z,its,r,p⟩:=h.ok I.hok;exact⟨its,r,p,z⟩
 ·refine⟨its.toList,r,⟨o,I.kIn a o hk,hc,n,by simpa using hs⟩,?_⟩
  have e:=r.length;simp only[gV]at e;omega
theorem Inv.list_inj (I:Inv X pins σ H s) (h:SqL X.K H a xs) (h':SqL X.K H a ys):xs=ys:=by
 obtain⟨its,r,⟨o,n,e,_,_,d⟩,_⟩:=I.list h;obtain⟨its',r',⟨o',n',e',_,_,d'⟩,_⟩:=I.list h';rw[e]at e';cases e';rw[d]at d';injection d' with d1 _;have:its=its':=by simpa using congrArg Array.toList d1
 subst this;exact r.inj r'
theorem Inv.tuple_inj (I:Inv X pins σ H s) (h:SqT X.K H a xs) (h':SqT X.K H a ys):xs=ys:=by
 obtain⟨its,r,⟨o,e,_,n,d⟩,_⟩:=I.tuple h;obtain⟨its',r',⟨o',e',_,n',d'⟩,_⟩:=I.tuple h';rw[e]at e';cases e';rw[d]at d';injection d' with d1 _;have:its=its':=by simpa using congrArg Array.toList d1
 subst this;exact r.inj r'
end
noncomputable abbrev Cx.wish (X:Cx) (E:Value→ag→Prop):Cx:={ X with xe:=E }
noncomputable abbrev Cx.nox (X:Cx):Cx:=X.wish λ_ _=>False
theorem Cx.Ok.wish{X:Cx}(ok:X.Ok) (E:Value→ag→Prop):(X.wish E).Ok:=
 ⟨ok.mod,ok.kind,ok.glob,ok.blt,ok.above,ok.inj,ok.has,ok.cab,ok.hd,ok.frames,ok.stk,ok.exf,ok.bs,ok.bsz,ok.noex,ok.exfs,ok.funs,ok.frf⟩
theorem Cx.Ok.unwish{X:Cx}{E:Value→ag→Prop}(ok:(X.wish E).Ok):X.Ok:=
 ⟨ok.mod,ok.kind,ok.glob,ok.blt,ok.above,ok.inj,ok.has,ok.cab,ok.hd,ok.frames,ok.stk,ok.exf,ok.bs,ok.bsz,ok.noex,ok.exfs,ok.funs,ok.frf⟩
section
variable {X:Cx}{pins:List (Addr×Obj)}{σ:St}{H:Hp}{s:ag}{E:Value→ag→Prop}
theorem Inv.wish (I:Inv X pins σ H s) (E:Value→ag→Prop):Inv (X.wish E) pins σ H s:=⟨I.ok.wish E,I.os,I.bare,I.base,I.loc,I.cell,I.free,I.freeC,I.pin,I.hok,I.len⟩
theorem Inv.unwish (I:Inv (X.wish E) pins σ H s):Inv X pins σ H s:=⟨I.ok.unwish,I.os,I.bare,I.base,I.loc,I.cell,I.free,I.freeC,I.pin,I.hok,I.len⟩
theorem SP.unwish{D:Ends}{f:Flow}{s':ag}(h:SP (X.wish E) pins D f s'):SP X pins D f s':=by
 cases f with
 |next=>obtain⟨σ',H',I,q⟩:=h;exact⟨σ',H',I.unwish,q⟩
 |brk=>obtain⟨σ',H',I,q⟩:=h;exact⟨σ',H',I.unwish,q⟩
 |cont=>obtain⟨σ',H',I,q⟩:=h;exact⟨σ',H',I.unwish,q⟩
 |ret u=>obtain⟨v,σ',H',I,r,q⟩:=h;exact⟨v,σ',H',I.unwish,r,q⟩
theorem PE.nox{e:Expr}{t:TE}(h:PE X.nox e t):PE X e t:=λpins s σ H Q I hw=>
 bX (h pins s σ H Q (I.wish _) hw) (λ_ _ ⟨v,H',I',r,q⟩=>⟨v,H',I'.unwish,r,q⟩) λ_ _ z=>ck z
end
section
variable {X:Cx}{st:Stmt}{rest:List Stmt}{t u:TS}{e:Expr}{te:TE}{pos:aB}
noncomputable def zBw:TS:=λD σ H=>D.nx σ H
noncomputable def zCQ (t u:TS):TS:=λD σ H=>t { D with nx:=u D } σ H
theorem pss_nil:PSs X [] zBw:=λ_ _ σ H _ I h=>eW ⟨σ,H,I,h⟩
theorem ztS (h1:PS X st t) (h2:PSs X rest u):PSs X (st::rest) (zCQ t u):=by
 intro pins s σ H D I h;refine kF (thn (h1 pins s σ H { D with nx:=u D } I h) λf s1 q=>?_);cases f with
 |next=>
  obtain⟨σ',H',I',q⟩:=q;exact h2 pins s1 σ' H' D I' q
 |ret v=>exact q
 |brk=>exact q
 |cont=>exact q
theorem zrh (h1:PS X st t):PSs X [st] t:=by
 intro pins s σ H D I h;refine kF (thn (h1 pins s σ H D I h) λf s1 q=>?_);cases f with
 |next=>exact eW q
 |ret v=>exact q
 |brk=>exact q
 |cont=>exact q
theorem Inv.quiet{pins:List (Addr×Obj)}{σ:St}{H:Hp}{s:ag}(I:Inv X pins σ H s):interactive X.env=false:=by simp [interactive,I.ok.kind]
noncomputable def zAX (te:TE):TS:=λD σ H=>te σ H λ_ H1=>D.nx σ H1
theorem zxb (he:PE X e te) (hs:dE e none pos.line X.env=pure false:=by rfl):PS X (.Expr e pos) (zAX te):=by
 intro pins s σ H D I h;exact wpAny_Expr_any (thn (he pins s σ H _ I h) λv s1 ⟨x,H1,I1,r1,q1⟩=>⟨σ,H1,I1,q1⟩) I.quiet hs
noncomputable def zCc (te:TE):TS:=λD σ H=>te σ H D.rt
theorem zyn (he:PE X e te):PS X (.Return (ae e) pos) (zCc te):=by
 intro pins s σ H D I h;exact wpAny_Return_some (thn (he pins s σ H _ I h) λv s1 ⟨x,H1,I1,r1,q1⟩=>⟨x,σ,H1,I1,r1,q1⟩)
noncomputable def zCh (c:TT) (t u:TS):TS:=λD σ H=>c σ H λb H1=>if b=true then t D σ H1 else u D σ H1
theorem zAT{c:Expr}{a b:List Stmt}{tc:TT}(hc:PT X c tc) (ha:PSs X a t) (hb:PSs X b u):PS X (.If c a b pos) (zCh tc t u):=by
 intro pins s σ H D I h;refine wpAny_If (thn (hc pins s σ H _ I h) λd s1 ⟨H1,I1,q1⟩=>?_);cases d with
 |true=>exact ha pins s1 σ H1 D I1 q1
 |false=>exact hb pins s1 σ H1 D I1 q1
end
abbrev TG:=V→St→Hp→(St→Hp→Prop)→Prop
abbrev TGs:=List V→St→Hp→(St→Hp→Prop)→Prop
def PG (X:Cx) (target:Expr) (t:TG):Prop:=
 ∀(pins:List (Addr×Obj)) (s:ag) (σ:St) (H:Hp) (v:V) (u:Value) (Q:St→Hp→Prop),Inv X pins σ H s→RelV v u→t v σ H Q→
  am (ap X.prog X.w) X.A (assign target X.env u) (λ_ s'=>∃σ' H',Inv X pins σ' H' s'∧Q σ' H') X.xe s
def PGs (X:Cx) (ts:List Expr) (t:TGs):Prop:=
 ∀(pins:List (Addr×Obj)) (s:ag) (σ:St) (H:Hp) (vs:List V) (us:List Value) (Q:St→Hp→Prop),Inv X pins σ H s→Vals vs us→t vs σ H Q→
  am (ap X.prog X.w) X.A (assignInOrder ((cc ts X.env).map (·.2)) us) (λ_ s'=>∃σ' H',Inv X pins σ' H' s'∧Q σ' H') X.xe s
abbrev TIp:=V→V→Hp→VK→Prop
def PIp (X:Cx) (op:fO) (t:TIp):Prop:=
 ∀(pins:List (Addr×Obj)) (s:ag) (σ:St) (H:Hp) (x y:V) (v u:Value) (Q:VK),Inv X pins σ H s→RelV x v→RelV y u→t x y H Q→
  am (ap X.prog X.w) X.A (inplaceOp op v u) (EP X pins σ Q) X.xe s
section
variable {X:Cx}{pos:aB}
noncomputable def zvv (i:Nat):TG:=λv σ H Q=>Q (σ.set i (ae v)) H
theorem zwx{i:Nat}{x:Str}(hN:X.N.Nodup) (hi:X.N[i]? =ae x) (hx:Loc X.env.scope x) (hf:X.fn x=true∨X.env.scope.names.lookup x=ae .local:=by first |exact .inl rfl |exact .inr rfl |assumption):PG X (.Name x pos) (zvv i):=by
 intro pins s σ H v u Q I r h;exact kG (zjE I hN hi hx r (λs' I'=>⟨_,H,I',h⟩) hf)
noncomputable def zBT:TGs:=λvs σ H Q=>vs=[]∧Q σ H
noncomputable def zAg (t:TG) (u:TGs):TGs:=λvs σ H Q=>∃v r,vs=v::r∧t v σ H λσ' H'=>u r σ' H' Q
theorem zvJ:PGs X [] zBT:=by
 intro pins s σ H vs us Q I r h;obtain⟨e,h⟩:=h;subst e;cases r;exact assignInOrder_nil ⟨σ,H,I,h⟩
theorem zsE{e:Expr}{es:List Expr}{t:TG}{u:TGs}(h1:PG X e t) (h2:PGs X es u)
  (hs:(cc (e::es) X.env).map (·.2)=assign e X.env::(cc es X.env).map (·.2):=by rfl):PGs X (e::es) (zAg t u):=by
 intro pins s σ H vs us Q I r h;obtain⟨v,vr,e1,h⟩:=h;subst e1;cases r with
 |cons r rr=>
  rw[hs];refine assignInOrder_cons (thn (h1 pins s σ H _ _ _ I r h) λ_ s1 ⟨σ1,H1,I1,q1⟩=>?_);exact h2 pins s1 σ1 H1 _ _ Q I1 rr q1
noncomputable def zCn (K:ak) (n:Nat) (t:TGs):TG:=λv σ H Q=>∃a xs,v= .ref a∧SqT K H a xs∧xs.length=n∧t xs σ H Q
theorem zzU{es:List Expr}{k:Nat}{t:TGs}{n:Nat}(hc:X.calm=true) (h:PGs X es t)
  (hn:(cc es X.env).length=n:=by rfl) (hst:(cc es X.env).findIdx? (·.1)=none:=by rfl):PG X (.Tuple es k pos) (zCn X.K n t):=by
 intro pins s σ H v u Q I r hw;obtain⟨a,xs,e1,hq,hl,hw⟩:=hw;subst e1;cases r;obtain⟨its,rv,ht,hz⟩:=I.tuple hq;refine assign_Tuple_tuple (I.ok.hd hc) ht (by simp [hn,←hl,rv.length]) hst λh' hx=>?_;have I1:Inv X pins σ H { s with heap:=h' }:=I.kept (t':=s.toks) λb o e=>hx b o (bu (aI e)) e;exact h pins _ σ H xs _ Q I1 (by simpa using rv) hw
noncomputable def zBo (te:TE) (g:TG):TS:=λD σ H=>te σ H λx H1=>g x σ H1 D.nx
theorem zzm{tg e:Expr}{te:TE}{g:TG}(he:PE X e te) (hg:PG X tg g) (hs:swapsWithSole [tg] e pos.line X.env=pure false:=by rfl) (hw:swappedStores [tg] e X.env=pure none:=by rfl)
  (h1:(cc [tg] X.env).map (·.2)=[assign tg X.env]:=by rfl):PS X (.Assign [tg] e pos) (zBo te g):=by
 intro pins s σ H D I h;refine wpAny_Assign_stores (thn (he pins s σ H _ I h) λv s1 ⟨x,H1,I1,r1,q1⟩=>?_) hs hw;rw[h1];exact thn (hg pins s1 σ H1 x v _ I1 r1 q1) λ_ s2 q=>q
theorem zuo{i:Nat}{x:Str}{e:Expr}{te:TE}{pos':aB}(hN:X.N.Nodup) (hi:X.N[i]? =ae x) (hx:Loc X.env.scope x) (he:PE X e te) (hs:dE e (ae (.Name x pos')) pos.line X.env=pure false:=by rfl) (hf:X.fn x=true∨X.env.scope.names.lookup x=ae .local:=by first |exact .inl rfl |exact .inr rfl |assumption) :
  PS X (.Assign [.Name x pos'] e pos) (zBo te (zvv i)):=by
 intro pins s σ H D I h;refine wpAny_Assign_Name (thn (he pins s σ H _ I h) λv s1 ⟨y,H1,I1,r1,q1⟩=>?_) hs;exact zjE I1 hN hi hx r1 (λs2 I2=>⟨_,H1,I2,q1⟩) hf
noncomputable def zCf (i:Nat) (te:TE) (ti:TIp):TS:=λD σ H=>∃x,σ[i]? =ae (ae x)∧te σ H λy H1=>ti x y H1 λz H2=>D.nx (σ.set i (ae z)) H2
theorem zxK{i:Nat}{x:Str}{e:Expr}{te:TE}{op:fO}{ti:TIp}{pos':aB}(hN:X.N.Nodup) (hi:X.N[i]? =ae x) (hx:Loc X.env.scope x) (he:PE X e te) (ho:PIp X op ti) (hf:X.fn x=true∨X.env.scope.names.lookup x=ae .local:=by first |exact .inl rfl |exact .inr rfl |assumption) :
  PS X (.AugAssign (.Name x pos') op e pos) (zCf i te ti):=by
 intro pins s σ H D I h;obtain⟨v,e1,h⟩:=h;obtain⟨m,hn,hl⟩:=I.loc;have vis:Vis X.env.scope x:=by rcases hx with k |k;exact .inl k;exact .inr (.inl k)
 obtain⟨u,r,l⟩:=hl i x v hi e1 vis;refine wpAny_AugAssign_Name ?_;have go:am (ap X.prog X.w) X.A (ax e X.env) (λw s₂=>am (ap X.prog X.w) X.A (inplaceOp op u w) (λr s₃=>am (ap X.prog X.w) X.A (ii X.env x r) (λ_=>SP X pins D .next) X.xe s₃) X.xe s₂) X.xe s:=by
  refine thn (he pins s σ H _ I h) λw s1 ⟨y,H1,I1,r1,q1⟩=>?_;refine thn (ho pins s1 σ H1 v y u w _ I1 r r1 q1) λz s2 ⟨zv,H2,I2,r2,q2⟩=>?_;exact zjE I2 hN hi hx r2 (λs3 I3=>⟨_,H2,I3,q2⟩) hf
 rcases l with⟨hk,hm⟩ |⟨hk,c,hc,hcell⟩
 ·exact ku I.ok.kind hk hn hm go
 ·rcases hk with hk |hk
  ·exact kr I.ok.kind hk hc hcell go
  ·rcases hx with k |k
   ·have:X.env.scope.names.lookup x=ae .free:=hk;rw[k]at this;cases this
   ·have:X.env.scope.names.lookup x=ae .free:=hk;rw[k]at this;cases this
noncomputable def ipI (f:Int→Int→Int):TIp:=λx y H Q=>∃i j,x= .int i∧y= .int j∧Q (.int (f i j)) H
theorem zxp:PIp X .Add (ipI λi j=>i+j):=by
 intro pins s σ H x y v u Q I r1 r2 h;obtain⟨i,j,e1,e2,q⟩:=h;subst e1;subst e2;obtain⟨t,rfl⟩:=r1;obtain⟨t',rfl⟩:=r2;exact iadd_int ⟨.int _,H,I.tok _,⟨_,rfl⟩,q⟩
end
section
variable {X:Cx}{pos:aB}
noncomputable def zxO (c:TT) (tb:TS):TS:=λD σ H=>∃W:Nat→St→Hp→Prop,(∃m,W m σ H)∧ ∀m σ H,W m σ H→
 c σ H λb H1=>if b=true then ∃N:St→Hp→Prop,(∀σ' H',N σ' H'→ ∃m',m'<m∧W m' σ' H')∧tb { D with nx:=N,ct:=N,bk:=D.nx } σ H1 else D.nx σ H1
theorem ztc{c:Expr}{body:List Stmt}{tc:TT}{tb:TS}(hp:cJ (ap X.prog X.w) X.A X.env X.xe) (hc:PT X c tc) (hb:PSs X body tb):PS X (.While c body [] pos) (zxO tc tb):=by
 intro pins s σ H D I h;obtain⟨W,⟨m0,w0⟩,turn⟩:=h;refine wpAny_While (codeAny_whileLoop (λn s'=>∃σ' H',Inv X pins σ' H' s'∧W n σ' H') ?_ m0 ⟨σ,H,I,w0⟩);rintro n s1 ⟨σ1,H1,I1,w1⟩;refine di hp (thn (hc pins s1 σ1 H1 _ I1 (turn n σ1 H1 w1)) λb s2 ⟨H2,I2,q2⟩=>?_);cases b with
 |true=>
  obtain⟨N,hN,q2⟩:=q2;rw[if_pos rfl];refine di hp (thn (hb pins s2 σ1 H2 _ I2 q2) λf s3 q3=>?_);cases f with
  |next=>
   obtain⟨σ3,H3,I3,n3⟩:=q3;obtain⟨m',hm,w3⟩:=hN σ3 H3 n3;exact⟨m',hm,σ3,H3,I3,w3⟩
  |cont=>
   obtain⟨σ3,H3,I3,n3⟩:=q3;obtain⟨m',hm,w3⟩:=hN σ3 H3 n3;exact⟨m',hm,σ3,H3,I3,w3⟩
  |brk=>exact q3
  |ret v=>exact q3
 |false=>
  rw[if_neg cS];exact eW ⟨σ1,H2,I2,q2⟩
end
structure It where
  go:Nat→Hp→Prop
  yld:Nat→Hp→V→Hp→Prop
  stop:Nat→Hp→Prop
def zjR (X:Cx) (pins:List (Addr×Obj)) (H:Hp) (b:Addr):Prop:=
 H b=none∧b≠X.env.locals∧b∉X.fs∧(b∈X.ex∨X.s₀.heap.objs.size≤b)∧(∀x c,X.env.cells.lookup x=ae c→c≠b)∧ ∀p∈X.pn++pins,p.1≠b
theorem Inv.fpOk{X:Cx}{pins:List (Addr×Obj)}{σ:St}{H H':Hp}{s:ag}{b:Addr}(I:Inv X pins σ H s) (hb:s.heap.objs.size≤b) (hn:H' b=none):zjR X pins H' b:=by
 refine⟨hn,cF (bK I.lt hb),I.nofs hb, .inr (bi I.sz hb),λx c e z=>?_,λp hp z=>?_⟩
 ·obtain⟨v,q⟩:=I.cell x c e;exact absurd (bK q.lt (by rw[z];exact hb)) (b5 _)
 ·exact absurd (bK (aI (I.pin p hp).1) (by rw[z];exact hb)) (b5 _)
structure Turn (P:aF) (w:aC) (K:ak) (tg:Expr) (J:It) (fp:List Addr) (it:Addr) (tn:Nat→Heap→Prop):Prop where
  mem:it∈fp
  obj:∀i h,tn i h→ ∀b∈fp,∃o,h.get? b=ae o∧ ∀v,o.data≠ .cell v
  keep:∀i h h',tn i h→(∀b∈fp,∀o,h.get? b=ae o→h'.get? b=ae o)→tn i h'
  item:∀(X:Cx),X.prog=P→X.w=w→X.K=K→X.calm=true→ ∀(i:Nat) (pins:List (Addr×Obj)) (s:ag) (σ:St) (H:Hp) (E:Value→ag→Prop),Inv X pins σ H s→(∀b∈fp,zjR X pins H b)→tn i s.heap→J.go i H→
    am (ap P w) X.A (bM (.ref it)) (λr s1=>∃u,r=ae u∧
      am (ap P w) X.A (gA tg (.ref it) u) (λ_ s2=>∃x H',Inv X pins σ H' s2∧RelV x u∧J.yld i H x H'∧tn (i+1) s2.heap∧ ∀b∈fp,H' b=none) E s1) E s
  done:∀(X:Cx),X.prog=P→X.w=w→X.K=K→X.calm=true→ ∀(i:Nat) (pins:List (Addr×Obj)) (s:ag) (σ:St) (H:Hp) (E:Value→ag→Prop),Inv X pins σ H s→(∀b∈fp,zjR X pins H b)→tn i s.heap→J.stop i H→
    am (ap P w) X.A (bM (.ref it)) (λr s1=>r=none∧Inv X pins σ H s1) E s
  self:∀(A:aM) (i:Nat) (s:ag) (Q:Value→ag→Prop) (E:Value→ag→Prop),tn i s.heap→Q (.ref it) s→am (ap P w) A (da (.ref it)) Q E s
abbrev TI:=St→Hp→(It→Hp→Prop)→Prop
def PIE (X:Cx) (pins:List (Addr×Obj)) (σ:St) (tg:Expr) (R:It→Hp→Prop) (itv:Value) (s2:ag):Prop:=
 ∃(it:Addr) (fp:List Addr) (tn:Nat→Heap→Prop) (J:It) (H':Hp),itv= .ref it∧Inv X pins σ H' s2∧Turn X.prog X.w X.K tg J fp it tn∧tn 0 s2.heap∧(∀b∈fp,zjR X pins H' b)∧R J H'
def PI (X:Cx) (tg iter:Expr) (wi:TI):Prop:=
 ∀(pins:List (Addr×Obj)) (s:ag) (σ:St) (H:Hp) (R:It→Hp→Prop),Inv X pins σ H s→wi σ H R→
  am (ap X.prog X.w) X.A (ax iter X.env) (λv s1=>am (ap X.prog X.w) X.A (da v) (PIE X pins σ tg R) X.xe s1) X.xe s
theorem zsR{M:dX}{A:aM}{E:Value→ag→Prop}{s:ag}{tg:Expr}{it:Addr}{u:Value}{o:Obj}{n:String}{vs:Array Value}{Q:Unit→ag→Prop}(ho:s.heap.get? it=ae o) (hc:o.cls= .type n) (hd:o.data= .fields vs)
    (hn: ["enumerate", "zip", "dict_itemiterator", "dict_reverseitemiterator", "odict_iterator", "itertools.zip_longest", "itertools.pairwise"].contains n=false) (hQ:Q () s):am M A (gA tg (.ref it) u) Q E s:=by
  unfold gA;cases tg<;>first
    |exact aD hQ
    | (cases u<;>first
        |exact aD hQ
        | (refine ai (wpAny_load ho ?_)
           rw[hc,hd];show am M A (if(["enumerate", "zip", "dict_itemiterator", "dict_reverseitemiterator", "odict_iterator", "itertools.zip_longest", "itertools.pairwise"].contains n&&vs[0]? == ae (ce _))=true then _ else _) Q E s;rw[if_neg (by intro h;rw[hn,Bool.false_and]at h;cases h)];exact aD hQ))
noncomputable def Itl (K:ak) (a:Addr):It:=
 ⟨λi H=>∃xs x,SqL K H a xs∧xs[i]? =ae x,λi H x H'=>H'=H∧ ∀xs,SqL K H a xs→xs[i]? =ae x,λi H=>∃xs,SqL K H a xs∧xs.length≤i⟩
noncomputable def Itt (K:ak) (a:Addr):It:=
 ⟨λi H=>∃xs x,SqT K H a xs∧xs[i]? =ae x,λi H x H'=>H'=H∧ ∀xs,SqT K H a xs→xs[i]? =ae x,λi H=>∃xs,SqT K H a xs∧xs.length≤i⟩
noncomputable def Itr (lo:Int) (n:Nat):It:=⟨λi _=>i<n,λi H x H'=>H'=H∧x= .int (lo+i),λi _=>n≤i⟩
theorem zjY{P:aF}{w:aC}{K:ak}{tg:Expr}(a it:Addr):Turn P w K tg (Itl K a) [it] it (λi h=>h.IsListIter it a i) where
  mem:=by simp
  obj:=λi h st b hb=>by
    have e:b=it:=by simpa using hb
    subst e;obtain⟨o,e,c,d⟩:=st;exact⟨o,e,λv z=>by rw[d]at z;cases z⟩
  keep:=λi h h' st k=>st.at λo e=>k it (by simp) o e
  item:=by
    intro X hP hw hK hc i pins s σ H E I hf st hg;subst hP hw hK;obtain⟨xs,x,hq,hx⟩:=hg;obtain⟨its,rv,p,hz⟩:=I.list hq;obtain⟨u,hu,ru⟩:=rv.get hx;obtain⟨f0,f1,f2,f3,f4,f5⟩:=hf it (by simp);refine wpAny_pyNext_list_item st p.isList (x:=u) (by simpa using hu) λh' st' sb=>?_;have I1:Inv X pins σ H { s with heap:=h' }:=I.turned (t':=s.toks) (λb o hb e=>(sb.2 b hb).trans e) f0 f1 f3 f4 f5;obtain⟨o,e,c,d⟩:=id st';exact⟨u,rfl,zsR (s:={ s with heap:=h' }) e c d (by decide) ⟨x,H,I1,ru,⟨rfl,λys hy=>by rw[I.list_inj hy hq];exact hx⟩,st',λb hb=>(hf b hb).1⟩⟩
  done:=by
    intro X hP hw hK hc i pins s σ H E I hf st hg;subst hP hw hK;obtain⟨xs,hq,hx⟩:=hg;obtain⟨its,rv,p,hz⟩:=I.list hq;obtain⟨f0,f1,f2,f3,f4,f5⟩:=hf it (by simp);have hl:=rv.length;exact wpAny_pyNext_list_end (I.ok.hd hc) st p.isList (by simp;omega) λh' eb=>⟨rfl,I.turned (t':=s.toks) (λb o hb e=>eb b o hb e) f0 f1 f3 f4 f5⟩
  self:=λ_ _ _ _ _ st h=>wpAny_pyIter_listiter st h
theorem zph{P:aF}{w:aC}{K:ak}{tg:Expr}(a it:Addr):Turn P w K tg (Itt K a) [it] it (λi h=>h.IsTupleIter it a i) where
  mem:=by simp
  obj:=λi h st b hb=>by
    have e:b=it:=by simpa using hb
    subst e;obtain⟨o,e,c,d⟩:=st;exact⟨o,e,λv z=>by rw[d]at z;cases z⟩
  keep:=λi h h' st k=>st.at λo e=>k it (by simp) o e
  item:=by
    intro X hP hw hK hc i pins s σ H E I hf st hg;subst hP hw hK;obtain⟨xs,x,hq,hx⟩:=hg;obtain⟨its,rv,p,hz⟩:=I.tuple hq;obtain⟨u,hu,ru⟩:=rv.get hx;obtain⟨f0,f1,f2,f3,f4,f5⟩:=hf it (by simp);refine wpAny_pyNext_tuple_item st (show s.heap.IsTuple a its.toArray from p) (x:=u) (by simpa using hu) λh' st' sb=>?_;have I1:Inv X pins σ H { s with heap:=h' }:=I.turned (t':=s.toks) (λb o hb e=>(sb.2 b hb).trans e) f0 f1 f3 f4 f5;obtain⟨o,e,c,d⟩:=id st';exact⟨u,rfl,zsR (s:={ s with heap:=h' }) e c d (by decide) ⟨x,H,I1,ru,⟨rfl,λys hy=>by rw[I.tuple_inj hy hq];exact hx⟩,st',λb hb=>(hf b hb).1⟩⟩
  done:=by
    intro X hP hw hK hc i pins s σ H E I hf st hg;subst hP hw hK;obtain⟨xs,hq,hx⟩:=hg;obtain⟨its,rv,p,hz⟩:=I.tuple hq;obtain⟨f0,f1,f2,f3,f4,f5⟩:=hf it (by simp);have hl:=rv.length;exact wpAny_pyNext_tuple_end (I.ok.hd hc) st (show s.heap.IsTuple a its.toArray from p) (by simp;omega) λh' eb=>⟨rfl,I.turned (t':=s.toks) (λb o hb e=>eb b o hb e) f0 f1 f3 f4 f5⟩
  self:=λ_ _ _ _ _ st h=>wpAny_pyIter_tupleiter st h
theorem zpc{P:aF}{w:aC}{K:ak}{tg:Expr}(it:Addr) (lo:Int) (n:Nat):Turn P w K tg (Itr lo n) [it] it (λi h=>IsRangeIter h it (lo+(i:Nat)*1) ((n:Int) - (i:Nat)) 1) where
  mem:=by simp
  obj:=λi h st b hb=>by
    have e:b=it:=by simpa using hb
    subst e;exact⟨_,st,λv z=>by
      have z':Data.fields _=Data.cell v:=z;cases z'⟩
  keep:=λi h h' st k=>k it (by simp) _ st
  item:=by
    intro X hP hw hK hc i pins s σ H E I hf st hg;subst hP hw hK;obtain⟨f0,f1,f2,f3,f4,f5⟩:=hf it (by simp);have W:=dO.range (prog:=X.prog) (w:=X.w) (I.ok.hd hc) it lo 1 n;refine W.item i s _ _ hg st λv h' tk hv st' kk=>?_;obtain⟨t,rfl⟩:=hv;have I1:Inv X pins σ H { s with heap:=h',toks:=tk }:=I.turned (λb o hb e=>kk b o (by simpa using hb) e) f0 f1 f3 f4 f5;refine⟨_,rfl,zsR (s:={ s with heap:=h',toks:=tk }) (n:= "range_iterator") st' rfl rfl (by decide) ⟨.int (lo+i),H,I1,⟨t,?_⟩,⟨rfl,rfl⟩,st',λb hb=>(hf b hb).1⟩⟩;rw[Int.mul_one]
  done:=by
    intro X hP hw hK hc i pins s σ H E I hf st hg;subst hP hw hK;obtain⟨f0,f1,f2,f3,f4,f5⟩:=hf it (by simp);exact wpAny_pyNext_range_end (I.ok.hd hc) st (by have:n≤i:=hg;omega) λh' eb=>⟨rfl,I.turned (t':=s.toks) (λb o hb e=>eb b o hb e) f0 f1 f3 f4 f5⟩
  self:=λ_ _ _ _ _ st h=>wpAny_pyIter_rangeiter st h
section
variable {X:Cx}{tg:Expr}
noncomputable def zAz (K:ak) (tl:TE):TI:=λσ H R=>tl σ H λx H1=>∃a,x= .ref a∧(∃xs,SqL K H1 a xs)∧R (Itl K a) H1
theorem zwy{l:Expr}{tl:TE}(hl:PE X l tl):PI X tg l (zAz X.K tl):=by
 intro pins s σ H R I h;refine thn (hl pins s σ H _ I h) λv s1 ⟨x,H1,I1,r1,q1⟩=>?_;obtain⟨a,e,⟨xs,hq⟩,q⟩:=q1;subst e;cases r1;obtain⟨its,rv,p,hz⟩:=I1.list hq;refine dn p.isList ?_;refine⟨s1.heap.objs.size,[s1.heap.objs.size],_,_,H1,rfl,I1.kept (t':=s1.toks) λb o e=>aH _ e,zjY a _,⟨_,bj _ rfl,rfl,rfl⟩,λb hb=>?_,q⟩;have e:b=s1.heap.objs.size:=by simpa using hb
 subst e;exact I1.fpOk (au _) (I1.hok.fresh (au _))
theorem ztr{pins:List (Addr×Obj)}{σ:St}{H:Hp}{s:ag}{R:It→Hp→Prop}{E:Value→ag→Prop}{lo hi:Int}{t u v:bf}{tk:Nat}(I:Inv X pins σ H s) (h1: -(2 ^ 62)≤lo) (h2:lo<2 ^ 62) (h3: -(2 ^ 62)≤hi) (h4:hi<2 ^ 62)
  (q:R (Itr lo (hi - lo).toNat) H):am (ap X.prog X.w) X.A (da (.ref s.heap.objs.size)) (PIE X pins σ tg R) E { s with heap:=s.heap.push { cls:= .type "range",data:= .fields #[.int lo t, .int hi u, .int 1 v] },toks:=tk }:=by
 refine wpAny_pyIter_range (IsRange.new ..) (small_one h1 h2 h3 h4) ?_;have I1:Inv X pins σ H { s with heap:=s.heap.push { cls:= .type "range",data:= .fields #[.int lo t, .int hi u, .int 1 v] },toks:=tk }:=I.kept λb o e=>aH _ e;refine⟨(s.heap.push { cls:= .type "range",data:= .fields #[.int lo t, .int hi u, .int 1 v] }).objs.size,[(s.heap.push { cls:= .type "range",data:= .fields #[.int lo t, .int hi u, .int 1 v] }).objs.size],_,_,H,rfl,
  I1.kept (t':=tk) λb o e=>aH _ e,zpc _ lo (hi - lo).toNat,?_,λb hb=>?_,q⟩
 ·have e1:lo+((0:Nat):Int)*1=lo:=by simp
  have e2:(((hi - lo).toNat:Nat):Int) - ((0:Nat):Int)=bZ.Range.rangeSize lo hi 1:=by rw[rangeSize_one];split<;>omega
  show IsRangeIter _ _ (lo+((0:Nat):Int)*1) ((((hi - lo).toNat:Nat):Int) - ((0:Nat):Int)) 1;rw[e1,e2];exact bj _ rfl
 ·have e:b=(s.heap.push { cls:= .type "range",data:= .fields #[.int lo t, .int hi u, .int 1 v] }).objs.size:=by simpa using hb
  subst e;exact I1.fpOk (au _) (I1.hok.fresh (au _))
noncomputable def zAq (ta:TA):TI:=λσ H R=>ta σ H λvs H1=>∃j:Int,vs=[.int j]∧ -(2 ^ 62)≤j∧j<2 ^ 62∧R (Itr 0 j.toNat) H1
theorem zrI{a:Expr}{ta:TA}{p pos:aB}(hg:Gl X "range") (hm:X.mg "range" =none) (ha:PA X [a] ta) (hs:ao [a] X.env=[(false,ax a X.env)]:=by rfl):PI X tg (.Call (.Name "range" p) [a] [] pos) (zAq ta):=by
 intro pins s σ H R I h;refine Call_ (zhX I hg hm boot_range (gd (thn (ha pos pins s σ H _ I h) λus s1 ⟨vs,H1,I1,r1,q1⟩=>?_) hs rfl));obtain⟨j,e,q1,q2,q⟩:=q1;subst e;cases r1 with
 |cons r rr=>
  cases rr;obtain⟨t,rfl⟩:=r;exact call_range_1 (ztr I1 (by omega) (by omega) q1 q2 (by simpa using q))
noncomputable def zCb (wi:TI) (g:TG) (tb:TS):TS:=λD σ H=>wi σ H λJ H1=>∃W:Nat→Nat→St→Hp→Prop,(∃m,W 0 m σ H1)∧ ∀i m σ H,W i m σ H→
 (J.stop i H∧D.nx σ H)∨(J.go i H∧ ∃N:St→Hp→Prop,(∀σ' H',N σ' H'→ ∃m',m'<m∧W (i+1) m' σ' H')∧ ∀x H',J.yld i H x H'→g x σ H' λσ2 H2=>tb { D with nx:=N,ct:=N,bk:=D.nx } σ2 H2)
noncomputable def zkW (fp:List Addr) (h:Heap):List (Addr×Obj):=fp.filterMap λb=>(h.get? b).map λo=>(b,o)
theorem zeT{fp:List Addr}{h:Heap}{b:Addr}{o:Obj}(hb:b∈fp) (e:h.get? b=ae o):(b,o)∈zkW fp h:=ia.mpr ⟨b,hb,by rw[e];rfl⟩
theorem zru{fp:List Addr}{h:Heap}{p:Addr×Obj}(hp:p∈zkW fp h):p.1∈fp∧h.get? p.1=ae p.2:=by
 obtain⟨b,hb,e⟩:=ia.mp hp;cases q:h.get? b with
 |none=>rw[q]at e;cases e
 |some o=>
  rw[q]at e;have e':(b,o)=p:=aE e;subst e';exact⟨hb,q⟩
theorem Inv.pinned{pins:List (Addr×Obj)}{σ:St}{H:Hp}{s:ag}{fp:List Addr}(I:Inv X pins σ H s) (hf:∀b∈fp,zjR X pins H b) (ho:∀b∈fp,∃o,s.heap.get? b=ae o∧ ∀v,o.data≠ .cell v):Inv X (pins++zkW fp s.heap) σ H s:=
 I.pins_of λp hp=>(bh.mp hp).elim (λz=>I.pin p (cm _ z)) λz=>by
  obtain⟨hb,e⟩:=zru z;obtain⟨f0,f1,f2,_⟩:=hf p.1 hb;obtain⟨o,e',d⟩:=ho p.1 hb;rw[e]at e';cases e';exact⟨e,f0,f1,f2,d⟩
theorem Inv.unpinned{pins pl:List (Addr×Obj)}{σ:St}{H:Hp}{s:ag}(I:Inv X (pins++pl) σ H s):Inv X pins σ H s:=I.pins_of λp hp=>I.pin p (cm _ (eZ _ hp))
theorem zyU{iter:Expr}{body:List Stmt}{wi:TI}{g:TG}{tb:TS}{pos:aB}(hp:cJ (ap X.prog X.w) X.A X.env X.xe) (hc:X.calm=true) (hi:PI X tg iter wi) (hg:PG X tg g) (hb:PSs X body tb)
  (hs:∀x,du iter X.env x=pure x:=by intro _;rfl):PS X (.For tg iter body [] pos) (zCb wi g tb):=by
 intro pins s σ H D I h;refine wpAny_For (thn (hi pins s σ H _ I h) λv s1 h1=>thn h1 λitv s2 h2=>?_) hs;obtain⟨it,fp,tn,J,H2,e,I2,T,st2,f2,W,⟨m0,w0⟩,turn⟩:=h2;subst e;have stat:∀{H':Hp},(∀b∈fp,H' b=none)→ ∀b∈fp,zjR X pins H' b:=λhn b hb=>⟨hn b hb,(f2 b hb).2⟩;refine codeAny_forLoop_any (λn s'=>∃i σ' H',Inv X pins σ' H' s'∧tn i s'.heap∧(∀b∈fp,H' b=none)∧W i n σ' H') ?_ m0 ⟨0,σ,H2,I2,st2,λb hb=>(f2 b hb).1,w0⟩;rintro n s3 ⟨i,σ3,H3,I3,st3,fr3,w3⟩;rcases turn i n σ3 H3 w3 with⟨stop,qn⟩ |⟨go,N,hN,step⟩
 ·refine di hp (thn (T.done X rfl rfl rfl hc i pins s3 σ3 H3 X.xe I3 (stat fr3) st3 stop) λr s4 ⟨hr,I4⟩=>?_);subst hr;exact eW ⟨σ3,H3,I4,qn⟩
 ·refine di hp (thn (T.item X rfl rfl rfl hc i pins s3 σ3 H3 X.xe I3 (stat fr3) st3 go) λr s4 ⟨u,hr,h4⟩=>?_);subst hr;refine di hp (thn h4 λ_ s5 ⟨x,H5,I5,r5,y5,st5,fr5⟩=>?_);have I5':=I5.pinned (stat fr5) (T.obj _ _ st5);refine di hp (thn (hg _ s5 σ3 H5 x u _ I5' r5 (step x H5 y5)) λ_ s6 ⟨σ6,H6,I6,q6⟩=>?_);refine di hp (thn (hb _ s6 σ6 H6 _ I6 q6) λf s7 q7=>?_);have again:∀{σ7:St}{H7:Hp},Inv X (pins++zkW fp s5.heap) σ7 H7 s7→N σ7 H7→ ∃m,m<n∧ ∃i σ' H',Inv X pins σ' H' s7∧tn i s7.heap∧(∀b∈fp,H' b=none)∧W i m σ' H':=λ{σ7 H7} I7 n7=>by
   obtain⟨m',hm,w7⟩:=hN σ7 H7 n7;refine⟨m',hm,i+1,σ7,H7,I7.unpinned,T.keep _ _ _ st5 λb hb o e=>(I7.pin (b,o) (cm _ (cm _ (zeT hb e)))).1,λb hb=>?_,w7⟩;obtain⟨o,e,d⟩:=T.obj _ _ st5 b hb;exact(I7.pin (b,o) (cm _ (cm _ (zeT hb e)))).2.1
  cases f with
  |next=>obtain⟨σ7,H7,I7,n7⟩:=q7;exact again I7 n7
  |cont=>obtain⟨σ7,H7,I7,n7⟩:=q7;exact again I7 n7
  |brk=>obtain⟨σ7,H7,I7,q7⟩:=q7;exact⟨σ7,H7,I7.unpinned,q7⟩
  |ret v=>obtain⟨x7,σ7,H7,I7,r7,q7⟩:=q7;exact⟨x7,σ7,H7,I7.unpinned,r7,q7⟩
end
abbrev R2:=V→V→Hp→VK→Prop
def OpR (X:Cx) (f:Value→Value→b4 Value) (r:R2):Prop:=
 ∀(pins:List (Addr×Obj)) (s:ag) (σ:St) (H:Hp) (x y:V) (v u:Value) (Q:VK),Inv X pins σ H s→RelV x v→RelV y u→r x y H Q→
  am (ap X.prog X.w) X.A (f v u) (EP X pins σ Q) X.xe s
def UnR (X:Cx) (f:Value→b4 Value) (r:V→Hp→VK→Prop):Prop:=
 ∀(pins:List (Addr×Obj)) (s:ag) (σ:St) (H:Hp) (x:V) (v:Value) (Q:VK),Inv X pins σ H s→RelV x v→r x H Q→
  am (ap X.prog X.w) X.A (f v) (EP X pins σ Q) X.xe s
def CallR (X:Cx) (f:Value) (r:List V→Hp→VK→Prop):Prop:=
 ∀(pins:List (Addr×Obj)) (s:ag) (σ:St) (H:Hp) (xs:List V) (us:List Value) (Q:VK),Inv X pins σ H s→Vals xs us→r xs H Q→
  am (ap X.prog X.w) X.A (call f us) (EP X pins σ Q) X.xe s
def zBP (X:Cx) (r:V→Hp→(Bool→Hp→Prop)→Prop):Prop:=
 ∀(pins:List (Addr×Obj)) (s:ag) (σ:St) (H:Hp) (x:V) (v:Value) (Q:Bool→Hp→Prop),Inv X pins σ H s→RelV x v→r x H Q→
  am (ap X.prog X.w) X.A (truthy v) (TP X pins σ Q) X.xe s
noncomputable def tOp (r:R2) (ta tb:TE):TE:=λσ H Q=>ta σ H λx H1=>tb σ H1 λy H2=>r x y H2 Q
noncomputable def tUn (r:V→Hp→VK→Prop) (ta:TE):TE:=λσ H Q=>ta σ H λx H1=>r x H1 Q
noncomputable def rI (C:Int→Int→Prop) (g:Int→Int→V):R2:=λx y H Q=>∃i j,x= .int i∧y= .int j∧C i j∧Q (g i j) H
noncomputable def rI0 (g:Int→Int→V):R2:=λx y H Q=>∃i j,x= .int i∧y= .int j∧Q (g i j) H
def rU (g:Int→V):V→Hp→VK→Prop:=λx H Q=>∃i,x= .int i∧Q (g i) H
section
variable {X:Cx}{a b:Expr}{ta tb:TE}{pos:aB}
theorem zBt (ha:PE X a ta) (hb:PE X b tb) {pins:List (Addr×Obj)}{s:ag}{σ:St}{H:Hp}{R:V→V→Hp→Prop}(I:Inv X pins σ H s)
  (h:ta σ H λx H1=>tb σ H1 λy H2=>R x y H2) {Q:Value→ag→Prop}{f:Value→Value→b4 Value}
  (hf:∀v u s2 x y H2,Inv X pins σ H2 s2→RelV x v→RelV y u→R x y H2→am (ap X.prog X.w) X.A (f v u) Q X.xe s2) :
  am (ap X.prog X.w) X.A (ax a X.env) (λv s₁=>am (ap X.prog X.w) X.A (ax b X.env) (λu s₂=>am (ap X.prog X.w) X.A (f v u) Q X.xe s₂) X.xe s₁) X.xe s:=by
 refine thn (ha pins s σ H _ I h) λv s1 ⟨x,H1,I1,r1,q1⟩=>?_;refine thn (hb pins s1 σ H1 _ I1 q1) λu s2 ⟨y,H2,I2,r2,q2⟩=>?_;exact hf v u s2 x y H2 I2 r1 r2 q2
theorem zrF{op:fO}{r:R2}(ho:OpR X (bQ op) r) (ha:PE X a ta) (hb:PE X b tb):PE X (.BinOp a op b pos) (tOp r ta tb):=by
 intro pins s σ H Q I h;exact wpAny_BinOp (zBt ha hb I h λv u s2 x y H2 I2 rx ry q=>ho pins s2 σ H2 x y v u Q I2 rx ry q)
theorem zBg{op:UnaryOp}{r:V→Hp→VK→Prop}(ho:UnR X (unaryOp op) r) (ha:PE X a ta):PE X (.UnaryOp op a pos) (tUn r ta):=by
 intro pins s σ H Q I h;exact UnaryOp_ (thn (ha pins s σ H _ I h) λv s1 ⟨x,H1,I1,r1,q1⟩=>ho pins s1 σ H1 x v Q I1 r1 q1)
theorem opI{f:Value→Value→b4 Value}{C:Int→Int→Prop}{g:Int→Int→Int}
  (rule:∀(i j:Int) (t u:bf) (s:ag) (Q:Value→ag→Prop) (E:Value→ag→Prop),C i j→Q (.int (g i j) s.toks) { s with toks:=s.toks+1 }→am (ap X.prog X.w) X.A (f (.int i t) (.int j u)) Q E s) :
  OpR X f (rI C λi j=> .int (g i j)):=by
 intro pins s σ H x y v u Q I rx ry h;obtain⟨i,j,rfl,rfl,hc,q⟩:=h;obtain⟨t,rfl⟩:=rx;obtain⟨t',rfl⟩:=ry;exact rule i j t t' s _ _ hc ⟨.int (g i j),H,I.tok _,⟨_,rfl⟩,q⟩
theorem zBM{f:Value→Value→b4 Value}{g:Int→Int→Int}
  (rule:∀(i j:Int) (t u:bf) (s:ag) (Q:Value→ag→Prop) (E:Value→ag→Prop),Q (.int (g i j) s.toks) { s with toks:=s.toks+1 }→am (ap X.prog X.w) X.A (f (.int i t) (.int j u)) Q E s) :
  OpR X f (rI0 λi j=> .int (g i j)):=by
 intro pins s σ H x y v u Q I rx ry h;obtain⟨i,j,rfl,rfl,q⟩:=h;obtain⟨t,rfl⟩:=rx;obtain⟨t',rfl⟩:=ry;exact rule i j t t' s _ _ ⟨.int (g i j),H,I.tok _,⟨_,rfl⟩,q⟩
theorem zzX{f:Value→Value→b4 Value}{g:Int→Int→Bool}
  (rule:∀(i j:Int) (t u:bf) (s:ag) (Q:Value→ag→Prop) (E:Value→ag→Prop),Q (.bool (g i j)) s→am (ap X.prog X.w) X.A (f (.int i t) (.int j u)) Q E s) :
  OpR X f (rI0 λi j=> .bl (g i j)):=by
 intro pins s σ H x y v u Q I rx ry h;obtain⟨i,j,rfl,rfl,q⟩:=h;obtain⟨t,rfl⟩:=rx;obtain⟨t',rfl⟩:=ry;exact rule i j t t' s _ _ ⟨.bl (g i j),H,I,rfl,q⟩
def ziD (i j:Int):Prop:=0<j∧j<1073741824
def zAl (i j:Int):Prop:=0≤j∧j≤1000000∧i.natAbs<2 ^ 64
def CMul (i j:Int):Prop:=(-(2 ^ 64)<i∧i<2 ^ 64)∨(-(2 ^ 64)<j∧j<2 ^ 64)
theorem CMul.ok{i j:Int}(h:CMul i j):IntMulOk i j:=by
 rcases h with⟨h1,h2⟩ |⟨h1,h2⟩
 ·exact .of_left (intBits_le_64 h1 h2)
 ·exact .of_right (intBits_le_64 h1 h2)
theorem op_add:OpR X (bQ .Add) (rI0 λi j=> .int (i+j)):=zBM λ_ _ _ _ _ _ _ q=>add_int q
theorem zzc:OpR X (bQ .Sub) (rI0 λi j=> .int (i - j)):=zBM λ_ _ _ _ _ _ _ q=>sub_int q
theorem zyK:OpR X (bQ .Mult) (rI CMul λi j=> .int (i*j)):=opI λ_ _ _ _ _ _ _ hc q=>mul_int q hc.ok
theorem zvx:OpR X (bQ .FloorDiv) (rI ziD λi j=> .int (i / j)):=opI λi j _ _ _ _ _ hc q=>by
 have h1:(0:Int)<j:=hc.1;have h2:j<1073741824:=hc.2;exact floordiv_int (by omega) (by rw[Int.fdiv_eq_ediv_of_nonneg i (by omega)];exact q) (.inl (PyProof.noPylong_small (by omega)))
theorem zxN:OpR X (bQ .Mod) (rI (λ_ j=>0<j) λi j=> .int (i % j)):=opI λi j _ _ _ _ _ hc q=>by
 have h1:(0:Int)<j:=hc;exact mod_int' (by omega) (by rw[Int.fmod_eq_emod_of_nonneg i (by omega)];exact q)
theorem zzI:OpR X (bQ .Pow) (rI zAl λi j=> .int (i ^ j.toNat)):=opI λ_ _ _ _ _ _ _ hc q=>pow_int_small hc.1 hc.2.1 hc.2.2 q
theorem unI{f:Value→b4 Value}{g:Int→Int}
  (rule:∀(i:Int) (t:bf) (s:ag) (Q:Value→ag→Prop) (E:Value→ag→Prop),Q (.int (g i) s.toks) { s with toks:=s.toks+1 }→am (ap X.prog X.w) X.A (f (.int i t)) Q E s) :
  UnR X f (rU λi=> .int (g i)):=by
 intro pins s σ H x v Q I rx h;obtain⟨i,rfl,q⟩:=h;obtain⟨t,rfl⟩:=rx;exact rule i t s _ _ ⟨.int (g i),H,I.tok _,⟨_,rfl⟩,q⟩
theorem zzQ:UnR X (unaryOp .USub) (rU λi=> .int (-i)):=unI λ_ _ _ _ _ q=>neg_int q
end
section
variable {X:Cx}{a b c:Expr}{ta tb tc:TE}{pos:aB}
theorem zkl{pins:List (Addr×Obj)}{σ:St}{H:Hp}{s:ag}{Q:VK}{k k':Bool}(I:Inv X pins σ H s) (q:Q (.bl k) H) (e:k=k'):EP X pins σ Q (.bool k') s:=by
 subst e;exact⟨.bl k,H,I,rfl,q⟩
theorem zBF:OpR X (bp .Lt) (rI0 λi j=> .bl (decide (i<j))):=zzX λ_ _ _ _ _ _ _ q=>lt_int q
theorem op_le:OpR X (bp .LtE) (rI0 λi j=> .bl (decide (i≤j))):=zzX λ_ _ _ _ _ _ _ q=>le_int q
theorem zze:OpR X (bp .Gt) (rI0 λi j=> .bl (decide (j<i))):=zzX λ_ _ _ _ _ _ _ q=>gt_int q
theorem zBE:OpR X (bp .GtE) (rI0 λi j=> .bl (decide (j≤i))):=zzX λ_ _ _ _ _ _ _ q=>ge_int q
theorem op_in_str:OpR X (bp .In) (λx y H Q=>∃i j,x= .str i∧y= .str j∧Q (.bl (!(cy j i 0 j.length 1).isEmpty)) H):=by
 intro pins s σ H x y v u Q I rx ry h;obtain⟨i,j,rfl,rfl,q⟩:=h;obtain⟨t,rfl⟩:=rx;obtain⟨t',rfl⟩:=ry;exact in_str (zkl I q rfl)
theorem op_isN:OpR X (bp .Is) (λx y H Q=>y= .non∧Q (.bl (decide (x= .non))) H):=by
 intro pins s σ H x y v u Q I rx ry h;obtain⟨rfl,q⟩:=h;cases ry;refine is_none_gen (zkl I q ?_);cases x<;>first
  | (cases rx;rfl)
  | (obtain⟨t,rfl⟩:=rx;rfl)
theorem op_notN:OpR X (bp .IsNot) (λx y H Q=>y= .non∧Q (.bl (!decide (x= .non))) H):=by
 intro pins s σ H x y v u Q I rx ry h;obtain⟨rfl,q⟩:=h;cases ry;refine isnot_none_gen (zkl I q ?_);cases x<;>first
  | (cases rx;rfl)
  | (obtain⟨t,rfl⟩:=rx;rfl)
theorem op_notin_str:OpR X (bp .NotIn) (λx y H Q=>∃i j,x= .str i∧y= .str j∧Q (.bl (!(!(cy j i 0 j.length 1).isEmpty))) H):=by
 intro pins s σ H x y v u Q I rx ry h;obtain⟨i,j,rfl,rfl,q⟩:=h;obtain⟨t,rfl⟩:=rx;obtain⟨t',rfl⟩:=ry;exact notIn_str (zkl I q rfl)
theorem OpR.or{f:Value→Value→b4 Value}{r r':R2}(h:OpR X f r) (h':OpR X f r'):OpR X f (λx y H Q=>r x y H Q∨r' x y H Q):=by
 intro pins s σ H x y v u Q I rx ry q;rcases q with q |q
 ·exact h pins s σ H x y v u Q I rx ry q
 ·exact h' pins s σ H x y v u Q I rx ry q
theorem nomark (b:Expr) {op:cI}(h:op≠ .In:=by decide) (h2:op≠ .NotIn:=by decide):cW op b=false:=by
 have e1:(op == cI.In)=false:=by cases op<;>first |rfl |exact absurd rfl h
 have e2:(op == cI.NotIn)=false:=by cases op<;>first |rfl |exact absurd rfl h2
 cases b<;>simp [cW,e1,e2]
theorem zxa{op:cI}{r:R2}(ho:OpR X (bp op) r) (ha:PE X a ta) (hb:PE X b tb) (hm:cW op b=false):PE X (.Compare a [op] [b] pos) (tOp r ta tb):=by
 intro pins s σ H Q I h;exact wpAny_Compare1 (zBt ha hb I h λv u s2 x y H2 I2 rx ry q=>ho pins s2 σ H2 x y v u Q I2 rx ry q) hm
noncomputable def zBb (t:TE):TT:=λσ H Q=>t σ H λx H'=>∃k,x= .bl k∧Q k H'
theorem zvr{op:cI}{r:R2}(ho:OpR X (bp op) r) (ha:PE X a ta) (hb:PE X b tb) (hm:cW op b=false):PT X (.Compare a [op] [b] pos) (zBb (tOp r ta tb)):=by
 intro pins s σ H Q I h;refine wpAny_isTrue_Compare1 (thn (ha pins s σ H _ I h) λv s1 ⟨x,H1,I1,r1,q1⟩=>thn (hb pins s1 σ H1 _ I1 q1) λu s2 ⟨y,H2,I2,r2,q2⟩=>
  thn (ho pins s2 σ H2 x y v u _ I2 r1 r2 q2) λc s3 ⟨z,H3,I3,r3,k,e,q3⟩=>?_) hm
 subst e;cases r3;exact dw ⟨H3,I3,q3⟩
noncomputable def zye (r r':R2) (ta tb tc:TE):TE:=λσ H Q=>ta σ H λx H1=>tb σ H1 λy H2=>r x y H2 λz H3=>∃k,z= .bl k∧
 (if k=true then tc σ H3 λw' H4=>r' y w' H4 Q else Q (.bl false) H3)
theorem ztY{op op':cI}{r r':R2}(ho:OpR X (bp op) r) (ho':OpR X (bp op') r') (ha:PE X a ta) (hb:PE X b tb) (hc:PE X c tc)
  (hm:gN [op,op'] [b,c]=false:=by with_unfolding_all rfl):PE X (.Compare a [op,op'] [b,c] pos) (zye r r' ta tb tc):=by
 intro pins s σ H Q I h;refine Compare_chain (thn (ha pins s σ H _ I h) λv s1 ⟨x,H1,I1,r1,q1⟩=>chain_link (thn (hb pins s1 σ H1 _ I1 q1) λu s2 ⟨y,H2,I2,r2,q2⟩=>
  thn (ho pins s2 σ H2 x y v u _ I2 r1 r2 q2) λd s3 ⟨z,H3,I3,r3,k,e,q3⟩=>?_)) hm
 subst e;cases r3;refine dw ?_;cases k with
 |false=>exact ite_ff ⟨.bl false,H3,I3,rfl,q3⟩
 |true=>exact ite_tt (chain_last (thn (hc pins s3 σ H3 _ I3 q3) λw' s4 ⟨z',H4,I4,r4,q4⟩=>ho' pins s4 σ H4 y z' u w' Q I4 r2 r4 q4))
def zAa (K:ak) (x:V) (H:Hp) (k:Bool):Prop:=
 match x with
 | .non=>k=false
 | .bl b=>k=b
 | .int i=>k=(i != 0)
 | .str y=>y.length≤sizeLine∧k=((y.length:Int) != 0)
 | .byt y=>y.size≤sizeLine∧k=((y.size:Int) != 0)
 | .ref p=>(∃xs,SqL K H p xs∧k= !xs.isEmpty)∨(∃xs,SqT K H p xs∧k= !xs.isEmpty)∨ ∃kvs,H p=ae (.dK kvs)∧k= !kvs.isEmpty
 |_=>False
theorem zpi{κ:Type}{kvs:List (κ×V)}{vs:List (κ×Value)}(r:KV kvs vs):(!vs.isEmpty)= !kvs.isEmpty:=by
 cases r<;>rfl
theorem ziL{xs:List V}{its:List Value}(r:Vals xs its):(!its.toArray.isEmpty)= !xs.isEmpty:=by
 cases r<;>simp
theorem ziS:(sizeLine:Nat)<2 ^ 63:=by rw[dv];decide
theorem zuU:zBP X (λx H Q=>∃k,zAa X.K x H k∧Q k H):=by
 intro pins s σ H x v Q I rx h;obtain⟨k,e,q⟩:=h;have hl:=ziS;have hs:sizeLine=16777216:=dv;cases x with
 |non=>
  cases rx;have e':k=false:=e;subst e';exact truthy_none ⟨H,I,q⟩
 |bl b=>
  cases rx;have e':k=b:=e;subst e';exact dw ⟨H,I,q⟩
 |int i=>
  obtain⟨t,rfl⟩:=rx;have e':k=(i != 0):=e;subst e';exact PySem.P.truthy_int ⟨H,I,q⟩
 |str y=>
  obtain⟨t,rfl⟩:=rx;obtain⟨hy,e'⟩:y.length≤sizeLine∧k=((y.length:Int) != 0):=e;subst e';exact PySem.P.truthy_str (by omega) ⟨H,I.tok _,q⟩
 |byt y=>
  obtain⟨t,rfl⟩:=rx;obtain⟨hy,e'⟩:y.size≤sizeLine∧k=((y.size:Int) != 0):=e;subst e';exact PySem.W.truthy_bytes (by omega) ⟨H,I.tok _,q⟩
 |ref p=>
  cases rx;have e':(∃xs,SqL X.K H p xs∧k= !xs.isEmpty)∨(∃xs,SqT X.K H p xs∧k= !xs.isEmpty)∨ ∃kvs,H p=ae (.dK kvs)∧k= !kvs.isEmpty:=e;rcases e' with⟨xs,hx,e'⟩ |⟨xs,hx,e'⟩ |⟨kvs,hx,e'⟩
  ·subst e';obtain⟨its,r,pl,hz⟩:=I.list hx;have hlen:=r.length;exact wpAny_truthy_list pl.isList (by simp only[aP];omega) ⟨H,I.tok _,by rw[ziL r];exact q⟩
  ·subst e';obtain⟨its,r,pl,hz⟩:=I.tuple hx;have hlen:=r.length;exact truthy_tuple pl (by simp only[aP];omega) ⟨H,I.tok _,by rw[ziL r];exact q⟩
  ·subst e';obtain⟨hz,hS,vs,r,m⟩:kvs.length≤sizeLine∧(p == dY)=false∧ ∃vs,KV kvs vs∧s.heap.DictOf (zbw X.prog X.w) p vs:=I.hok p _ hx;have hlen:kvs.length=vs.length:=eU r;exact wpAny_truthy_dict hS m (by omega) ⟨H,I.tok _,by rw[zpi r];exact q⟩
 |_=>exact(show False from e).elim
theorem ztu (ha:PE X a ta) (he:∀whole,isTrue a X.env whole=(do let v ←whole;standAt a.pos;holding [v] (truthy v))) :
  PT X a (λσ H Q=>ta σ H λx H'=>∃k,zAa X.K x H' k∧Q k H'):=by
 intro pins s σ H Q I h;exact isTrue_plain (thn (ha pins s σ H _ I h) λv s1 ⟨x,H1,I1,r1,q1⟩=>zuU pins s1 σ H1 x v Q I1 r1 q1) (he _)
theorem op_add_str:OpR X (bQ .Add) (λx y H Q=>∃i j,x= .str i∧y= .str j∧i.length+j.length≤sizeLine∧Q (.str (i++j)) H):=by
 intro pins s σ H x y v u Q I rx ry h;obtain⟨i,j,rfl,rfl,hz,q⟩:=h;obtain⟨t,rfl⟩:=rx;obtain⟨t',rfl⟩:=ry;exact add_str (λt' tk=>⟨.str (i++j),H,I.tok _,⟨_,rfl⟩,q⟩) hz
theorem ziv{x:V}{us:List Value}(r:Vals [x] us):∃u,us=[u]∧RelV x u:=by
 cases r with
 |cons r1 r2=>cases r2;exact⟨_,rfl,r1⟩
theorem zxt{x y:V}{us:List Value}(r:Vals [x,y] us):∃u w',us=[u,w']∧RelV x u∧RelV y w':=by
 cases r with
 |cons r1 r2=>
  cases r2 with
  |cons r3 r4=>cases r4;exact⟨_,_,rfl,r1,r3⟩
theorem zrX (hc:X.calm=true):CallR X (.builtin "min") (λxs H Q=>∃i j,xs=[.int i, .int j]∧Q (.int (if j<i then j else i)) H):=by
 intro pins s σ H xs us Q I r h;obtain⟨i,j,rfl,q⟩:=h;obtain⟨u,w',rfl,⟨t,rfl⟩,⟨t',rfl⟩⟩:=zxt r;refine min_two_ints (I.ok.hd hc) λh' tk k=>⟨_,H,I.kept k,?_,q⟩;by_cases hj:j<i
 ·rw[if_pos hj,if_pos hj];exact⟨_,rfl⟩
 ·rw[if_neg hj,if_neg hj];exact⟨_,rfl⟩
theorem zrU:CallR X (.type "int") (λxs H Q=>(∃i,xs=[.int i]∧Q (.int i) H)∨ ∃k,xs=[.bl k]∧Q (.int (if k then 1 else 0)) H):=by
 intro pins s σ H xs us Q I r h;rcases h with⟨i,rfl,q⟩ |⟨k,rfl,q⟩
 ·obtain⟨u,rfl,t,rfl⟩:=ziv r;exact call_int_int ⟨.int i,H,I,⟨_,rfl⟩,q⟩
 ·obtain⟨u,rfl,r1⟩:=ziv r;cases r1;exact call_int_bool ⟨.int (if k then 1 else 0),H,I.tok _,⟨_,rfl⟩,q⟩
end
structure ObjM (h:Heap) (x dx C:Addr) (mA:Str→Option Value):Prop where
  obj:h.get? x=ae (h9 C dx)
  ns:h.Ns1 dx mA
  ne:dx≠x
theorem zpF{h:Heap}{dx:Addr}{mA:Str→Option Value}(n:h.Ns1 dx mA):∃od,h.get? dx=ae od∧ ∀name,iN name od=ae (mA name):=by
 obtain⟨o,es,ep,ho,hd,hk,_,hm⟩:=n;refine⟨o,ho,λname=>?_⟩;have e:=hm name;unfold nsFind findBy at e;rw[←Array.find?_toList]at e;unfold iN;rw[hd];dsimp only;split
 ·rename_i y q;rw[q]at e;exact congrArg ae e
 ·rename_i q;rw[q]at e;have a:es.toList.any (·.refKey)=false:=by
   rw[List.any_eq_false];intro y hy;obtain⟨z,t,hkey⟩:=hk y (Array.mem_toList_iff.mp hy);simp [DictEntry.refKey,hkey]
  have a':¬es.toList.any (·.refKey)=true:=by rw[a];exact cS
  rw[if_neg a'];exact congrArg ae e
theorem ObjM.look{h:Heap}{x dx C:Addr}{mA:Str→Option Value}(I:ObjM h x dx C mA):∃od,PySem.W.InstAt h x (h9 C dx) C (ae od)∧ ∀name,iN name od=ae (mA name):=
 let ⟨od,ho,hl⟩:=zpF I.ns
 ⟨od,⟨I.obj,rfl,rfl,ho⟩,hl⟩
section
variable {P:aF}{w:aC}{H:Hp}{h:Heap}{a C dx:Addr}{fs:List (Str×V)}
theorem zvp (hok:HOk P w H h) (e:H a=ae (.ins C dx fs)):∃mA,ObjM h a dx C mA∧(∀f,RelO (fs.lookup f) (mA f))∧PySem.Within mA (fs.map (·.1))∧fs.length≤1000∧H dx=ae (.own a):=by
 obtain⟨d,z,ne,ob,mA,n,r,q⟩:=(show ObjOk P w H h a (.ins C dx fs) from hok a _ e);exact⟨mA,⟨ob,n,ne⟩,r,q,z,d⟩
end
structure Cls (K:ak) (C:Addr):Prop where
  pg:jI K C h_=true
  hd:PySem.W.hasDictIn K C=true
  po:PySem.W.plainOver K C=true
  sa:bS K (.ref C) "__setattr__" =ae (ae (.builtin "object.__setattr__"))
theorem Cls.get{K:ak}{C:Addr}(c:Cls K C) (f:Str):jI K C f=true:=c.pg
section
variable {X:Cx}{pins:List (Addr×Obj)}{σ:St}{H:Hp}{s:ag}{A:aM}{E:Value→ag→Prop}{Q:Value→ag→Prop}{c:Value}{b:Bool}
inductive TyOf (K:ak) (H:Hp):V→Value→Prop where
  |non:TyOf K H .non (.type "NoneType")
  |bl (x:Bool):TyOf K H (.bl x) (.type "bool")
  |int (i:Int):TyOf K H (.int i) (.type "int")
  |str (x:Str):TyOf K H (.str x) (.type "str")
  |flt (x:UInt64):TyOf K H (.flt x) (.type "float")
  |lst {a:Addr}{xs:List V}(e:H a=ae (.lst xs)):TyOf K H (.ref a) (.type "list")
  |frz {a:Addr}{o:Obj}{xs:List V}(e:H a=ae (.frz o (.lst xs))):TyOf K H (.ref a) (.type "list")
  |tup {a:Addr}{xs:List V}(e:H a=ae (.tup xs)):TyOf K H (.ref a) (.type "tuple")
  |dK {a:Addr}{kvs:List (Key×V)}(e:H a=ae (.dK kvs)):TyOf K H (.ref a) (.type "dict")
  |dT {a:Addr}{kvs:List (List Key×V)}(e:H a=ae (.dT kvs)):TyOf K H (.ref a) (.type "dict")
  |ins {a C dx:Addr}{fs:List (Str×V)}(e:H a=ae (.ins C dx fs)) (cl:Cls K C) (ha:bS K (.ref C) "__class__" =ae (ae (.builtin "object.__class__")))
      (hn:PySem.W.specialIn K (.builtin "object.__class__") "__get__" =ae (ae (.builtin "getset_descriptor.__get__"))) (htk:PySem.W.takesIn K (.builtin "object.__class__")=ae true)
      (hm:cR K C (.type "object")=ae true):TyOf K H (.ref a) (.ref C)
theorem zpK{x:V}{u t:Value}(I:Inv X pins σ H s) (rx:RelV x u) (ty:TyOf X.K H x t) (e:eX X.K t c=ae b) (h:∀tk,Q (.bool b) { s with toks:=tk }) :
  am (ap X.prog X.w) A (call (.builtin "isinstance") [u,c]) Q E s:=by
 cases ty with
 |non=>cases(show u=cn from rx);exact cp PySem.W.kitx_none I.kIn dm e (λz=>nomatch z) h
 |bl y=>cases(show u=eL y from rx);exact cp PySem.W.kitx_bool I.kIn dm e (λz=>nomatch z) h
 |int i=>obtain⟨t,q⟩:=(show ∃t,u=fZ i t from rx);cases q;exact cp PySem.W.kitx_int I.kIn dm e (λz=>nomatch z) h
 |str y=>obtain⟨t,q⟩:=(show ∃t,u=eS y t from rx);cases q;exact cp PySem.W.kitx_str I.kIn dm e (λz=>nomatch z) h
 |flt y=>obtain⟨t,q⟩:=(show ∃t,u=Value.float y t from rx);cases q;exact cp PySem.W.kitx_float I.kIn dm e (λz=>nomatch z) h
 | @lst a xs ea=>
  cases(show u=bx a from rx);obtain⟨_,_,n,_,h1⟩:=(show ObjOk X.prog X.w H s.heap a (.lst xs) from I.hok a _ ea);exact cp jo I.kIn ⟨_,h1,rfl⟩ e (λz=>nomatch z) h
 | @frz a ob xs ea=>
  cases(show u=bx a from rx);obtain⟨_,_,_,n,_,h1⟩:=(show ObjOk X.prog X.w H s.heap a (.frz ob (.lst xs)) from I.hok a _ ea);exact cp jo I.kIn ⟨_,h1,rfl⟩ e (λz=>nomatch z) h
 | @tup a xs ea=>
  cases(show u=bx a from rx);obtain⟨_,_,_,p⟩:=(show ObjOk X.prog X.w H s.heap a (.tup xs) from I.hok a _ ea);obtain⟨o,h1,h2,_⟩:=p;exact cp PySem.W.kitx_tuple I.kIn ⟨o,h1,h2⟩ e (λz=>nomatch z) h
 | @dK a kvs ea=>
  cases(show u=bx a from rx);obtain⟨_,_,vs,_,p⟩:=(show ObjOk X.prog X.w H s.heap a (.dK kvs) from I.hok a _ ea);obtain⟨o,es,ep,h1,h2,_⟩:=p;exact cp jQ I.kIn ⟨o,h1,h2.1⟩ e (λz=>nomatch z) h
 | @dT a kvs ea=>
  cases(show u=bx a from rx);obtain⟨_,_,xs,_,o,es,ep,h1,h2,_⟩:=(show ObjOk X.prog X.w H s.heap a (.dT kvs) from I.hok a _ ea);exact cp jQ I.kIn ⟨o,h1,h2.1⟩ e (λz=>nomatch z) h
 | @ins a C dx fs ea cl ha hn htk hm=>
  cases(show u=bx a from rx);obtain⟨mA,O,_⟩:=zvp I.hok ea;obtain⟨od,J,_⟩:=O.look;exact cp (PySem.W.kitx_own (cl.get _) cl.hd ha hn htk hm) I.kIn J e (λz=>nomatch z) h
end
structure Room (k:Nat) (A:aM):Prop where
  hd:A.handled=none
  dp:A.depth+3*k+5<recursionLimit
  un:A.units+16*k+200<cLine
theorem Room.deeper{k:Nat}{A:aM}(r:Room (k+1) A) (env:bA):Room k (A.deeper env):=
 ⟨r.hd,by have:=r.dp;show A.depth+1+3*k+5<_;omega,by have:=r.un;show A.units+3+16*k+200<_;omega⟩
theorem Room.depth{k:Nat}{A:aM}(r:Room k A):A.depth<recursionLimit:=by have:=r.dp;omega
theorem Room.units{k:Nat}{A:aM}(r:Room k A):A.units+64<cLine:=by have:=r.un;omega
noncomputable def zCT:TA:=λ_ H Q=>Q [] H
noncomputable def zAC (ta:TE) (tr:TA):TA:=λσ H Q=>ta σ H λx H1=>tr σ H1 λxs H2=>Q (x::xs) H2
section
variable {X:Cx}{e:Expr}{es:List Expr}{te:TE}{t:TA}{pos:aB}
theorem pa_nil:PA X [] zCT:=λ_ _ _ _ H Q I h=>Calls.spliced_nil ⟨[],H,I, .nil,h⟩
theorem zdy (ha:PE X e te) (hr:PA X es t) (hs:ao (e::es) X.env=(false,ax e X.env)::ao es X.env:=by rfl):PA X (e::es) (zAC te t):=by
 intro pos pins s σ H Q I h;rw[hs];show am _ _ (spliced ((false,ax e X.env)::aS pos (ao es X.env))) _ _ s;refine Calls.spliced_cons (thn (ha pins s σ H _ I h) λu s1 ⟨x,H1,I1,r1,q1⟩=>?_);exact thn (hr pos pins s1 σ H1 _ I1 q1) λus s2 ⟨xs,H2,I2,r2,q2⟩=>⟨x::xs,H2,I2, .cons r1 r2,q2⟩
noncomputable def zBS (t:TA):TE:=λσ H Q=>t σ H λxs H1=>xs.length≤sizeLine∧ ∀p,H1 p=none→Q (.ref p) (upd H1 p (.tup xs))
noncomputable def zBU (t:TA):TE:=λσ H Q=>t σ H λxs H1=>xs.length≤sizeLine∧ ∀p,H1 p=none→Q (.ref p) (upd H1 p (.lst xs))
theorem zzA{x1}(h:PA X es t):PE X (.Tuple es x1 pos) (zBS t):=by
 intro pins s σ H Q I hq;refine wpAny_Tuple_spliced (thn (h pos pins s σ H _ I hq) λus s1 ⟨xs,H1,I1,r,z,q⟩=>⟨by rw[←r.length];exact z,?_⟩);have hf:H1 s1.heap.objs.size=none:=I1.hok.fresh (au _);refine⟨.ref s1.heap.objs.size,upd H1 s1.heap.objs.size (.tup xs),I1.laid (t':=s1.toks) (λb u e=>aH _ e) (au _) ?_,rfl,q _ hf⟩;exact⟨z,us,r,⟨_,bj _ rfl,rfl,_,rfl⟩⟩
theorem zya (h:PA X es t):PE X (.List es pos) (zBU t):=by
 intro pins s σ H Q I hq;refine wpAny_List_spliced (thn (h pos pins s σ H _ I hq) λus s1 ⟨xs,H1,I1,r,z,q⟩=>⟨by rw[←r.length];exact z,?_⟩);have hf:H1 s1.heap.objs.size=none:=I1.hok.fresh (au _);refine⟨.ref s1.heap.objs.size,upd H1 s1.heap.objs.size (.lst xs),I1.laid (t':=s1.toks) (λb u e=>aH _ e) (au _) ?_,rfl,q _ hf⟩;exact⟨z,us,0,r,bj _ rfl⟩
end
abbrev Sp:=List V→Hp→VK→XK→Prop
abbrev CXT:=List bA→Hp→ag→XK→Value→ag→Prop
structure Env0 (P:aF) (w:aC) (K:ak) (mg:Str→Option Value) (base:Heap) (A:aM) (outer:List bA) (s:ag) (H:Hp):Prop where
  frames:A.frames=ae outer
  mod:Mod K mg base
  bs:∀b o,base.get? b=ae o→s.heap.get? b=ae o∧H b=none
  bsz:base.objs.size≤s.heap.objs.size
  funs:s.heap.FunFrames base outer
  frf:∀b∈frs outer,H b=none
  hok:HOk P w H s.heap
  bare:bP s.gens
def CE (outer:List bA) (P:aF) (w:aC) (H:Hp) (s:ag) (Q:VK) (u:Value) (s':ag):Prop:=
 ∃v H',s'.os=s.os∧bP s'.gens∧Un (frs outer) [] H H' s.heap s'.heap∧HOk P w H' s'.heap∧RelV v u∧Q v H'
def CR (CX:CXT) (outer:List bA) (P:aF) (w:aC) (H:Hp) (s:ag) (Q:VK) (E:XK) (r:fI) (s':ag):Prop:=
 match r with
 | .ok (.ret u)=>CE outer P w H s Q u s'
 | .ok _=>False
 | .error e=>CX outer H s E e s'
structure FnOk (P:aF) (w:aC) (K:ak) (mg:Str→Option Value) (base:Heap) (CX:CXT) (k:Nat) (f:Addr) (fd:bF) (ps:List Str) (sp:Sp):Prop where
  len:∀vs H Q E,sp vs H Q E→vs.length=ps.length
  run:∀(A:aM) (outer:List bA) (s:ag) (H:Hp) (args:Args) (us:List Value) (vs:List V) (Q:VK) (E:XK),Room k A→Env0 P w K mg base A outer s H→dU s fd args (ps.zip us)→Vals vs us→sp vs H Q E→
    cM (ap P w) A (.call (.ref f) args) (CR CX outer P w H s Q E) s
section
variable {X:Cx}{pins:List (Addr×Obj)}{σ:St}{H:Hp}{s:ag}
theorem Inv.env0 (I:Inv X pins σ H s):Env0 X.prog X.w X.K X.mg X.base X.A X.stack s H:=
 ⟨I.ok.frames,I.ok.mod,I.bs,bi I.ok.bsz I.sz,I.stack,I.stkFree,I.hok,I.bare⟩
end
def Binds (K:ak) (fd:bF) (ps:List Str) (ds:List Value):Prop:=
 ∀(s:ag) (us:List Value),K.In s.heap→(us++ds).length=ps.length→dU s fd ⟨us,[]⟩ (ps.zip (us++ds))
theorem Binds.all{K:ak}{fd:bF}{ps:List Str}(h:∀us:List Value,us.length=ps.length→bindArgs fd ⟨us,[]⟩=pure (ps.zip us)):Binds K fd ps []:=λs us _ hl=>by
 rw[bG]at hl⊢;exact .of_eq (h us hl)
structure FnScope (N P:List Str) (sc:Scope):Prop where
  kind:sc.kind= .function
  co:sc.isCoroutine=false
  gen:sc.isGenerator=false
  nd:N.Nodup
  pre:N.take P.length=P
  par:∀x∈P,sc.names.lookup x=ae .local∨sc.names.lookup x=ae .cell
  nofree:∀y∈sc.names,y.2≠ .free
theorem zkv{kindOf:Str→Option bT}{x:Str}:∀{binds:List (Str×Value)}{m:Str→Option Value},(∀v,(x,v)∉binds)→db kindOf binds m x=m x
 | [],_,_=>rfl
 | (n,v)::r,m,h=>by
  unfold db;rw[zkv λw hw=>h w (aG _ hw)];split
  ·have:x≠n:=by rintro rfl;exact h v aO
   simp [this]
  ·rfl
theorem zlC{kindOf:Str→Option bT}{x:Str}:∀{binds:List (Str×Value)}{m:Str→Option Value},(∀v,(x,v)∉binds)→cZ kindOf binds m x=m x
 | [],_,_=>rfl
 | (n,v)::r,m,h=>by
  unfold cZ;rw[zlC λw hw=>h w (aG _ hw)];split
  ·rfl
  ·have:x≠n:=by rintro rfl;exact h v aO
   simp [this]
theorem zkM{kindOf:Str→Option bT}{x:Str}{v:Value}:∀{P:List Str}{vs:List Value}{i:Nat}{m:Str→Option Value},P.Nodup→P[i]? =ae x→vs[i]? =ae v→kindOf x=ae .local→
  db kindOf (P.zip vs) m x=ae v
 | [],_,_,_,_,h,_,_=>by simp at h
 |_::_,[],_,_,_,_,h,_=>by simp at h
 |p::P,w::vs,0,m,nd,h1,h2,hk=>by
  simp at h1 h2;subst h1;subst h2;show db kindOf ((p,w)::P.zip vs) m p=_;unfold db;rw[zkv λv hv=>(d9.mp nd).1 (ik hv).1,if_pos hk];simp
 |p::P,w::vs,i+1,m,nd,h1,h2,hk=>by
  show db kindOf ((p,w)::P.zip vs) m x=_;unfold db;exact zkM (i:=i) (d9.mp nd).2 (by simpa using h1) (by simpa using h2) hk
theorem zkY{kindOf:Str→Option bT}{x:Str}{v:Value}:∀{P:List Str}{vs:List Value}{i:Nat}{m:Str→Option Value},P.Nodup→P[i]? =ae x→vs[i]? =ae v→kindOf x≠ae .local→
  cZ kindOf (P.zip vs) m x=ae v
 | [],_,_,_,_,h,_,_=>by simp at h
 |_::_,[],_,_,_,_,h,_=>by simp at h
 |p::P,w::vs,0,m,nd,h1,h2,hk=>by
  simp at h1 h2;subst h1;subst h2;show cZ kindOf ((p,w)::P.zip vs) m p=_;unfold cZ;rw[zlC λv hv=>(d9.mp nd).1 (ik hv).1,if_neg hk];simp
 |p::P,w::vs,i+1,m,nd,h1,h2,hk=>by
  show cZ kindOf ((p,w)::P.zip vs) m x=_;unfold cZ;exact zkY (i:=i) (d9.mp nd).2 (by simpa using h1) (by simpa using h2) hk
noncomputable def start (N:List Str) (vs:List V):St:=vs.map ae++aN (N.length - vs.length) none
noncomputable def zwX (CX:CXT) (P:aF) (w:aC) (K:ak) (mg:Str→Option Value) (base:Heap) (N:List Str) (qual:Str) (scope:Scope) (f:Addr) (cd:Value) (A:aM) (outer:List bA) (s:ag) (H:Hp) (E:XK):Cx where
  prog:=P
  w:=w
  K:=K
  mg:=mg
  base:=base
  A:=A.deeper (cj qual scope s.heap.objs.size f cd)
  N:=N
  s₀:=s
  H₀:=H
  env:=cj qual scope s.heap.objs.size f cd
  outer:=outer
  stack:=cj qual scope s.heap.objs.size f cd::outer
  ex:=[]
  calm:=true
  fn:=λ_=>true
  pn:=[]
  xe:=λe s'=>am (ap P w) (A.deeper (cj qual scope s.heap.objs.size f cd)) (leaving (cj qual scope s.heap.objs.size f cd) e) (λ_ s''=>CX outer H s E e s'') (λe' s''=>CX outer H s E e' s'') s'
theorem znR{sc:Scope}{n:Nat}{x:Str}(h:sc.names.lookup x=ae .cell):∃c,(g9 n sc.names []).lookup x=ae c:=by
 have q:=jf sc.names n [] (.inl h);exact dh.mp q
theorem zsj{CX:CXT}{P:aF}{w:aC}{K:ak}{mg:Str→Option Value}{base:Heap}{N ps:List Str}{qual:Str}{scope:Scope}{f:Addr}{cd:Value}{A:aM}{outer:List bA}{s s1:ag}{H:Hp}{E:XK}{us:List Value}{vs:List V}
  (S:FnScope N ps scope) (hd:A.handled=none) (e0:Env0 P w K mg base A outer s H) (hl:vs.length=ps.length) (r:Vals vs us)
  (x:InCallC s s.heap.objs.size (db (cj qual scope s.heap.objs.size f cd).kindOf (ps.zip us) λ_=>none) (g9 (s.heap.objs.size+1) scope.names []) (cZ (cj qual scope s.heap.objs.size f cd).kindOf (ps.zip us) λ_=>none) s1) :
  Inv (zwX CX P w K mg base N qual scope f cd A outer s H E) [] (start N vs) H s1:=by
 have hpl:ps.length≤N.length:=by have:=congrArg dL S.pre;rw[cK]at this;omega
 obtain⟨h1,tk,rfl,hk⟩:=x.done;have noA:∀b:Addr,b∉(zwX CX P w K mg base N qual scope f cd A outer s H E).ex:=λb z=>absurd (show b∈([]:List Addr) from z) (by simp);refine⟨⟨e0.mod,S.kind,rfl,rfl,au _,λy z c h1 h2=>?_,λy hy=>?_,λy c _ h=>?_,λ_=>hd,aM.frames_deeper e0.frames, .inr ⟨rfl,rfl⟩,λb z=>absurd z (noA b),e0.bs,e0.bsz,λb _ _=>noA b,λb z=>absurd z (noA b),e0.funs,e0.frf⟩,
  rfl,e0.bare,Un.kept hk,⟨_,x.toInCall.ns,λi y v h1 h2 h3=>?_⟩,λy c h=>⟨_,x.cell y c h⟩,e0.hok.fresh (au _),λy c h=>?_,λp hp=>absurd (show p∈([]:List (Addr×Obj)) from hp) (by simp),e0.hok.kept hk,?_⟩
 ·exact name_of_addr x.apart (eF h1) (eF h2)
 ·have hy:scope.names.lookup y=ae .cell∨scope.names.lookup y=ae .free:=hy;rcases hy with hy |hy
  ·exact znR hy
  ·exact absurd rfl (S.nofree _ (eF hy))
 ·exact gO (x.above y c (eF h))
 ·have hi:i<vs.length:=by
   unfold start at h2;by_cases hi:i<vs.length
   ·exact hi
   ·rw[iF (by simpa using hi)]at h2;rw[i0]at h2;split at h2<;>cases h2
  have ha:vs[i]? =ae v:=by
   unfold start at h2;rw[jJ (by simpa using hi),bv]at h2;cases e:vs[i]? with
   |none=>rw[e]at h2;cases h2
   |some a=>rw[e]at h2;cases h2;rfl
  obtain⟨u,hu,rv⟩:=r.get ha;have hp:ps[i]? =ae y:=by
   rw[←S.pre,List.getElem?_take_of_lt (by omega)];exact h1
  have ndP:ps.Nodup:=by rw[←S.pre];exact S.nd.sublist (kK _ _)
  refine⟨u,rv,?_⟩;rcases S.par y (bE hp) with k |k
  ·exact .inl ⟨k,zkM ndP hp hu k⟩
  ·obtain⟨c,e⟩:=znR (n:=s.heap.objs.size+1) k;refine .inr ⟨.inl k,c,e,?_⟩;have q:=x.cell y c e;rw[zkY ndP hp hu (by show scope.names.lookup y≠_;rw[k];decide)]at q;exact q
 ·exact e0.hok.fresh (gO (x.above y c (eF h)))
 ·unfold start;show _=N.length;rw[aY,aq,iw];omega
theorem zAK{CX:CXT}{P:aF}{w:aC}{K:ak}{mg:Str→Option Value}{base:Heap}{k:Nat}{f:Addr}{name qual:Str}{params:Arguments}{body:List Stmt}{scope:Scope}{dV kV doc pm cdv ct oc:Value}{an od:Option Addr}
  {osl:Array (Option Value)}{N ps:List Str}{sp:Sp}(lk:K.lookup f=ae ⟨oc,od, .func (df name qual params body scope dV kV doc pm an cdv ct),osl⟩) (hcd:fS K cdv qual=true) (S:FnScope N ps scope)
  (len:∀vs H Q E,sp vs H Q E→vs.length=ps.length)
  (hbody:∀(A:aM) (outer:List bA) (s:ag) (H:Hp) (vs:List V) (Q:VK) (E:XK),Room k (A.deeper (cj qual scope s.heap.objs.size f cdv))→sp vs H Q E→
   ∃t,PSs (zwX CX P w K mg base N qual scope f cdv A outer s H E) body t∧t { nx:=λ_ H'=>Q .non H',rt:=Q } (start N vs) H) :
  FnOk P w K mg base CX (k+1) f (df name qual params body scope dV kV doc pm an cdv ct) ps sp:=by
 refine⟨len,λA outer s H args us vs Q E hr e0 hb r hsp=>?_⟩;have hl:=len _ _ _ _ hsp;have KX:K.In s.heap:=e0.mod.kin.keeps λb o e=>(e0.bs b o e).1;have lim:s.heap.NoLimit:=e0.mod.nolimit.keeps λb o e=>(e0.bs b o e).1;have hkind:∀y∈ps.zip us,scope.names.lookup y.1=ae .local∨(scope.names.lookup y.1=ae .cell∧((g9 (s.heap.objs.size+1) scope.names []).lookup y.1).isSome=true):=λ⟨n,v⟩ hy=>by
  rcases S.par n (ik hy).1 with q |q
  ·exact .inl q
  ·exact .inr ⟨q,jf _ _ _ (.inl q)⟩
 refine codeAny_call_function hr.depth (KX _ _ lk) rfl S.co S.gen rfl (PySem.W.codeRec_of KX hcd) (hb _ _ _ _ ?_);refine wpAny_newFunctionEnv_cells S.kind hkind λenv he s1 x=>?_;subst he;refine⟨lim.keeps x.toInCall.keep,codeAny_func ?_⟩;obtain⟨t,ht,hq⟩:=hbody A outer s H vs Q E (hr.deeper _) hsp;have I:Inv (zwX CX P w K mg base N qual scope f cdv A outer s H E) [] (start N vs) H s1:=zsj S hr.hd e0 hl r x;refine bX (ht [] s1 (start N vs) H _ I hq) (λfl s' hs=>?_) λe s' hs=>hs;have fin:∀{σ':St}{H':Hp}{v:V}{u:Value},Inv (zwX CX P w K mg base N qual scope f cdv A outer s H E) [] σ' H' s'→RelV v u→Q v H'→CE outer P w H s Q u s':=
  λ{σ' H' v u} J rv q=>⟨v,H',J.os,J.bare,J.base,J.hok,rv,q⟩
 cases fl with
 |ret u=>
  obtain⟨v,σ',H',J,rv,q⟩:=hs;exact fin J rv q
 |next=>
  obtain⟨σ',H',J,q⟩:=hs;exact fin (v:=V.non) (u:=cn) J rfl q
 |brk=>
  obtain⟨_,_,_,q⟩:=hs;exact ck q
 |cont=>
  obtain⟨_,_,_,q⟩:=hs;exact ck q
section
variable {X:Cx}{x:Str}{p pos:aB}{e:Expr}{es:List Expr}{t:TA}{id T:String}{r:List V→Hp→VK→Prop}
noncomputable def tCB (r:List V→Hp→VK→Prop) (t:TA):TE:=λσ H Q=>t σ H λvs H1=>r vs H1 Q
theorem zjp (hc:CallR X (.builtin id) r) (hg:Gl X x) (hm:X.mg x=none) (hv:bV x=ae (.builtin id)) (ha:PA X (e::es) t) (hn:x≠ "__name__" :=by decide) (hdb:(x == ("__debug__" :Str))=false:=by decide)
  (he:ao (e::es) X.env=(false,ax e X.env)::ao es X.env:=by rfl) (hpl:(aS pos (ao es X.env)).any (·.1)=false:=by rfl):PE X (.Call (.Name x p) (e::es) [] pos) (tCB r t):=by
 intro pins s σ H Q I h;refine fG (zhX I hg hm hv ?_ hn hdb);exact PyProof.Rows.callWith_builtin1 (thn (ha pos pins s σ H _ I h) λus s1 ⟨vs,H1,I1,r1,q1⟩=>hc pins s1 σ H1 vs us Q I1 r1 q1) he hpl
theorem zhG (hc:CallR X (.type T) r) (hg:Gl X x) (hm:X.mg x=none) (hv:bV x=ae (.type T)) (ha:PA X (e::es) t) (hn:x≠ "__name__" :=by decide) (hdb:(x == ("__debug__" :Str))=false:=by decide)
  (he:ao (e::es) X.env=(false,ax e X.env)::ao es X.env:=by rfl) (hpl:(aS pos (ao es X.env)).any (·.1)=false:=by rfl):PE X (.Call (.Name x p) (e::es) [] pos) (tCB r t):=by
 intro pins s σ H Q I h;refine fG (zhX I hg hm hv ?_ hn hdb);exact gd (thn (ha pos pins s σ H _ I h) λus s1 ⟨vs,H1,I1,r1,q1⟩=>hc pins s1 σ H1 vs us Q I1 r1 q1) he hpl
end
end L2
namespace HT
open PySem PyProof.Rows
section
variable {prog:aF}{w:aC}{A:aM}{E:Value→ag→Prop}{s:ag}
theorem cat_tup{t b:Addr}{vs ws:List Value}{Q:Value→ag→Prop}(ht:eH s.heap t vs.toArray) (hb:eH s.heap b ws.toArray) (hv:vs≠ [])
  (h1:ws=[]→Q (.ref t) s) (h2:ws≠ []→Q (.ref s.heap.objs.size) { s with heap:=s.heap.push { cls:= .type "tuple",data:= .seq (vs++ws).toArray } })
  (hsz:vs.length+ws.length≤sizeLine):am (ap prog w) A (bQ .Add (.ref t) (.ref b)) Q E s:=by
 obtain⟨⟨cls,dd,data,sl⟩,ho,hc,n,hd⟩:=id ht;obtain⟨⟨cls2,dd2,data2,sl2⟩,ho2,hc2,n2,hd2⟩:=id hb;simp only at hc hd hc2 hd2;subst hc hd hc2 hd2;have e:vs.toArray++ws.toArray=(vs++ws).toArray:=by simp
 by_cases hw:ws=[]
 ·exact iO ⟨_,ho,rfl⟩ ⟨_,ho2,rfl⟩ g_ iq gK gH (iE _ _)
   (tuple_addW1 t b vs.toArray ws.toArray n n2 dd dd2 sl sl2 (by simpa using hv) (by simp [hw])) ⟨ho,ho2,h1 hw⟩
 ·refine iO ⟨_,ho,rfl⟩ ⟨_,ho2,rfl⟩ g_ iq gK gH (iE _ _)
   (tuple_addW2 t b vs.toArray ws.toArray n n2 dd dd2 sl sl2 (by simpa using hv) (by simpa using hw) (by rw[aP,aP];exact hsz)) ⟨ho,ho2,?_⟩
  rw[e];exact h2 hw
noncomputable def sIx (n d:Nat):Option Int→Nat
 |none=>d
 |some v=>if v<0 then(v+(n:Int)).toNat else min v.toNat n
theorem sIx_none (n d:Nat):sIx n d none=d:=rfl
theorem sIx_nat (n d k:Nat):sIx n d (ae (k:Int))=min k n:=by
 show(if(k:Int)<0 then((k:Int)+(n:Int)).toNat else min (k:Int).toNat n)=min k n;rw[if_neg (by omega),cx]
theorem sIx_le (n d:Nat) (hd:d≤n) (o:Option Int):sIx n d o≤n:=by
 cases o with
 |none=>exact hd
 |some v=>
  show(if v<0 then(v+(n:Int)).toNat else min v.toNat n)≤n;by_cases hv:v<0
  ·rw[if_pos hv];omega
  ·rw[if_neg hv];exact Nat.min_le_right _ _
theorem zrD (v:Int) (n d:Nat):(if v<0 then max (v+(n:Int)) 0 else min v (n:Int))=((sIx n d (ae v):Nat):Int):=by
 show(if v<0 then max (v+(n:Int)) 0 else min v (n:Int))=(((if v<0 then(v+(n:Int)).toNat else min v.toNat n):Nat):Int);by_cases hv:v<0
 ·simp only[if_pos hv];omega
 ·simp only[if_neg hv];omega
theorem zpy (lo hi:Option Int) (n:Nat):iv lo hi 1 (n:Int)=(((sIx n 0 lo:Nat):Int),((sIx n n hi:Nat):Int)):=by
 have h1:¬((1:Int)<0):=by omega
 unfold iv;simp only[h1,if_false];refine Prod.ext ?_ ?_
 ·cases lo with
  |none=>rfl
  |some v=>exact zrD v n 0
 ·cases hi with
  |none=>rfl
  |some v=>exact zrD v n n
theorem zoW (i j:Nat):fR (i:Int) (j:Int) 1=j - i:=by
 unfold fR;have h1:(1:Int) > 0:=by omega
 simp only[h1,if_true,Int.ediv_one];split<;>omega
theorem ziQ{v:Value}{o:Option Int}{Q:Option Int→ag→Prop}(p:cB v o) (h:Q o s):am (ap prog w) A (bZ.Slice.slicePartIndex v) Q E s:=by
 cases p with
 |none=>exact jq h
 |int i t=>exact slicePart_int h
theorem sliceApplied_gen{sl:Addr}{vl vu:Value}{lo hi:Option Int}{n:Nat}{Q:Int×Int×Nat→ag→Prop}(hs:s.heap.IsSliceOf sl vl vu .none) (pl:cB vl lo) (pu:cB vu hi)
  (h:Q (((sIx n 0 lo:Nat):Int),1,sIx n n hi - sIx n 0 lo) s):am (ap prog w) A (jO (.ref sl) (pure (n:Int))) Q E s:=by
 obtain⟨os,hos,hcs,hds⟩:=id hs;unfold jO bZ.Slice.sliceFields;refine ai (ai (bC hos hds (x:=vl) rfl (ai (bC hos hds (x:=vu) rfl (ai (bC hos hds (x:= .none) rfl (aD ?_)))))));refine ai (jq ?_);show am _ _ (if((1:Int) == 0)=true then _ else _) _ _ s;rw[if_neg (by decide)];refine ai (ziQ pl (ai (ziQ pu (ai (aD ?_)))));show am _ _ (match iv lo hi 1 (n:Int) with | (lo,hi)=>pure (lo,(1:Int),fR lo hi 1)) _ _ s;rw[zpy lo hi n];show am _ _ (pure (((sIx n 0 lo:Nat):Int),(1:Int),fR ((sIx n 0 lo:Nat):Int) ((sIx n n hi:Nat):Int) 1)) _ _ s;rw[zoW];exact aD h
theorem ztU (xs:Array Value) (i k:Nat):((bc k).filterMap λ(m:Nat)=>xs[((i:Int)+(m:Int)*1).toNat]?).toArray=((xs.toList.drop i).take k).toArray:=by
 have e:(λ(m:Nat)=>xs[((i:Int)+(m:Int)*1).toNat]?)=λm=>xs[i+m]? :=by
  funext m;have:((i:Int)+(m:Int)*1).toNat=i+m:=by omega
  rw[this]
 rw[e];have:=gL xs i k;rw[List.filterMap_map]at this;have e2:((λx=>xs[x]?)∘λx=>i+x)=λm=>xs[i+m]? :=rfl;rw[e2]at this;rw[this]
theorem getItem_tuple_cut{t sl:Addr}{items:Array Value}{vl vu:Value}{lo hi:Option Int}{Q:Value→ag→Prop}(ht:eH s.heap t items) (hs:s.heap.IsSliceOf sl vl vu .none) (pl:cB vl lo) (pu:cB vu hi)
  (hw:¬(sIx items.size 0 lo=0∧sIx items.size items.size hi=items.size))
  (h:Q (.ref s.heap.objs.size) { s with heap:=s.heap.push { cls:= .type "tuple",data:= .seq ((items.toList.drop (sIx items.size 0 lo)).take (sIx items.size items.size hi - sIx items.size 0 lo)).toArray } })
  (hsz:items.size≤sizeLine):am (ap prog w) A (dy (.ref t) (.ref sl)) Q E s:=by
 have htake:sizeOk (.seq ((items.toList.drop (sIx items.size 0 lo)).take (sIx items.size items.size hi - sIx items.size 0 lo)).toArray):=by
  show((items.toList.drop (sIx items.size 0 lo)).take (sIx items.size items.size hi - sIx items.size 0 lo)).toArray.size≤sizeLine;rw[aP,cK,cu,gV];omega
 have hj:sIx items.size items.size hi≤items.size:=sIx_le _ _ (au _) hi;obtain⟨os,hos,hcs,hds⟩:=id hs;have hTs:s.TypeIs (.ref sl) "slice" :=⟨os,hos,hcs⟩;unfold dy
 try with_reducible refine eJ ?_
 first |refine ai (aD ?_) |skip
 refine ai (jd ht.typeIs (by decide) ?_);refine ai (de (name:=bq "__getitem__") ht.typeIs eI
  (c7 eI ht.typeIs i_ ?_ (jn _ _)))
 show am _ _ (kN (.ref t) >>= _) _ _ s;refine ai (tupleItemsOf_ ht ?_);refine ai (eN hTs ?_);rw[if_pos (by decide)];refine ai (sliceApplied_gen hs pl pu ?_);have hno:¬((((sIx items.size 0 lo:Nat):Int) == 0&&(1:Int) == 1&&(sIx items.size items.size hi - sIx items.size 0 lo) == items.size)=true):=by
  intro q;rw[bO,bO]at q;have q1:((sIx items.size 0 lo:Nat):Int)=0:=gw q.1.1;have q2:sIx items.size items.size hi - sIx items.size 0 lo=items.size:=gw q.2;exact hw ⟨by omega,by omega⟩
 show am _ _ (if(((sIx items.size 0 lo:Nat):Int) == 0&&(1:Int) == 1&&(sIx items.size items.size hi - sIx items.size 0 lo) == items.size)=true then _ else _) _ _ s;rw[if_neg hno,ztU]
 first
  |exact ai (m:=fQ _) (d8 (aD ⟨_,rfl,aD h⟩) htake)
  |exact ai (m:=fQ _) (d8 (ai (aD (aD ⟨_,rfl,aD h⟩))) htake)
  |exact ai (ai (m:=fQ _) (d8 (aD (aD ⟨_,rfl,aD h⟩)) htake))
  |exact ai (ai (m:=fQ _) (d8 (aD ⟨_,rfl,aD h⟩) htake))
end
end HT
namespace L2
open PySem PySem.Spec PyProof.Rows
abbrev TO:=St→Hp→(Option Int→Hp→Prop)→Prop
def PO (X:Cx) (e:Option Expr) (t:TO):Prop:=
 ∀(pins:List (Addr×Obj)) (s:ag) (σ:St) (H:Hp) (Q:Option Int→Hp→Prop),Inv X pins σ H s→t σ H Q→
  am (ap X.prog X.w) X.A (evalPart e X.env) (λu s'=>∃o H',Inv X pins σ H' s'∧cB u o∧Q o H') X.xe s
noncomputable def zxd:TO:=λ_ H Q=>Q none H
noncomputable def zAw (t:TE):TO:=λσ H Q=>t σ H λx H1=>∃i,x= .int i∧Q (ae i) H1
section
variable {X:Cx}{e:Expr}{te:TE}{lo hi:Option Expr}{tl th:TO}{pos p2:aB}
theorem po_none:PO X none zxd:=by
 intro pins s σ H Q I h;rw[evalPart_none];exact aD ⟨none,H,I, .none,h⟩
theorem zwT (h:PE X e te):PO X (ae e) (zAw te):=by
 intro pins s σ H Q I hw;rw[evalPart_some];refine thn (h pins s σ H _ I hw) λu s1 ⟨x,H1,I1,r1,q1⟩=>?_;obtain⟨i,rfl,q⟩:=q1;obtain⟨t,rfl⟩:=r1;exact⟨ae i,H1,I1, .int i t,q⟩
def SlR (X:Cx) (r:V→Option Int→Option Int→Hp→VK→Prop):Prop:=
 ∀(pins:List (Addr×Obj)) (s:ag) (σ:St) (H:Hp) (x:V) (v vl vu:Value) (lo hi:Option Int) (sl:Addr) (Q:VK),Inv X pins σ H s→RelV x v→s.heap.IsSliceOf sl vl vu .none→cB vl lo→cB vu hi→r x lo hi H Q→
  ∃T id,iP (.type T) "__getitem__" =pure (ae (.builtin id))∧s.TypeIs v T∧am (ap X.prog X.w) X.A (dy v (.ref sl)) (EP X pins σ Q) X.xe s
theorem SlR.or{r r':V→Option Int→Option Int→Hp→VK→Prop}(h:SlR X r) (h':SlR X r'):SlR X (λx lo hi H Q=>r x lo hi H Q∨r' x lo hi H Q):=by
 intro pins s σ H x v vl vu lo hi sl Q I rx hs pl pu q;rcases q with q |q
 ·exact h pins s σ H x v vl vu lo hi sl Q I rx hs pl pu q
 ·exact h' pins s σ H x v vl vu lo hi sl Q I rx hs pl pu q
noncomputable def tSl (r:V→Option Int→Option Int→Hp→VK→Prop) (te:TE) (tl th:TO):TE:=λσ H Q=>te σ H λx H1=>tl σ H1 λl H2=>th σ H2 λu H3=>r x l u H3 Q
theorem zmV{r:V→Option Int→Option Int→Hp→VK→Prop}(hr:SlR X r) (he:PE X e te) (hl:PO X lo tl) (hu:PO X hi th):PE X (.Subscript e (.Slice lo hi none p2) pos) (tSl r te tl th):=by
 intro pins s σ H Q I h;refine Subscript_ (thn (he pins s σ H _ I h) λv s1 ⟨x,H1,I1,r1,q1⟩=>?_);refine wpAny_Slice (thn (hl pins s1 σ H1 _ I1 q1) λvl s2 ⟨l,H2,I2,pl,q2⟩=>thn (hu pins s2 σ H2 _ I2 q2) λvu s3 ⟨u,H3,I3,pu,q3⟩=>?_);rw[evalPart_none];refine aD ?_;have I4:Inv X pins σ H3 { s3 with heap:=s3.heap.push { cls:= .type "slice",data:= .fields #[vl,vu, .none] } }:=I3.kept (t':=s3.toks) λb ob q=>aH _ q;obtain⟨T,id,hT,ht,hg⟩:=hr pins { s3 with heap:=s3.heap.push { cls:= .type "slice",data:= .fields #[vl,vu, .none] } } σ H3 x v vl vu l u s3.heap.objs.size Q I4 r1 (Heap.IsSliceOf.new ..) pl pu q3;show am (ap X.prog X.w) X.A (subscriptTail e (.Slice lo hi none p2) v (.ref s3.heap.objs.size)) (EP X pins σ Q) X.xe { s3 with heap:=s3.heap.push { cls:= .type "slice",data:= .fields #[vl,vu, .none] } };exact tail_any (ops:=[.ref s3.heap.objs.size,v]) ht hT hg (by with_unfolding_all rfl)
noncomputable def zqD (xs:List V) (lo hi:Option Int):List V:=(xs.drop (HT.sIx xs.length 0 lo)).take (HT.sIx xs.length xs.length hi - HT.sIx xs.length 0 lo)
theorem zig (xs:List V) (lo hi:Option Int):(zqD xs lo hi).length≤xs.length:=by
 unfold zqD;rw[cK,cu];omega
def zCz (K:ak):V→Option Int→Option Int→Hp→VK→Prop:=λx lo hi H Q=>∃a xs,x= .ref a∧SqT K H a xs∧
 ¬(HT.sIx xs.length 0 lo=0∧HT.sIx xs.length xs.length hi=xs.length)∧ ∀p,H p=none→Q (.ref p) (upd H p (.tup (zqD xs lo hi)))
theorem zzj:SlR X (zCz X.K):=by
 intro pins s σ H x v vl vu lo hi sl Q I rx hs pl pu h;obtain⟨a,xs,rfl,hx,hw,q⟩:=h;cases rx;obtain⟨its,r,ht,hz⟩:=I.tuple hx;have hlen:its.toArray.size=xs.length:=by rw[aP];exact r.length.symm
 refine⟨"tuple",_,eI.lookup,ht.typeIs,?_⟩;refine HT.getItem_tuple_cut ht hs pl pu (by rw[hlen];exact hw) ?_ (by rw[hlen];exact hz);rw[hlen];refine⟨.ref s.heap.objs.size,_,I.laid (t':=s.toks) (o:= .tup (zqD xs lo hi)) (λb ob q=>aH _ q) (au _) ?_,rfl,q _ (I.hok.fresh (au _))⟩;exact⟨bi (zig xs lo hi) hz,_,(r.drop (HT.sIx xs.length 0 lo)).take (HT.sIx xs.length xs.length hi - HT.sIx xs.length 0 lo),iR _ _⟩
noncomputable def zxc (K:ak):R2:=λx y H Q=>∃a b xs ys,x= .ref a∧y= .ref b∧SqT K H a xs∧SqT K H b ys∧xs≠ []∧xs.length+ys.length≤sizeLine∧
 (ys=[]→Q (.ref a) H)∧(ys≠ []→ ∀p,H p=none→Q (.ref p) (upd H p (.tup (xs++ys))))
theorem Vals.nil_iff{xs:List V}{us:List Value}(r:Vals xs us):us=[]↔xs=[]:=by
 cases r with
 |nil=>simp
 |cons _ _=>simp
theorem op_catT:OpR X (bQ .Add) (zxc X.K):=by
 intro pins s σ H x y v u Q I rx ry h;obtain⟨a,b,xs,ys,rfl,rfl,ha,hb,hx,hz,q1,q2⟩:=h;cases rx;cases ry;obtain⟨its,r1,p1,_⟩:=I.tuple ha;obtain⟨its2,r2,p2,_⟩:=I.tuple hb;refine HT.cat_tup p1 p2 (λz=>hx (r1.nil_iff.mp z)) (λz=>⟨.ref a,H,I,rfl,q1 (r2.nil_iff.mp z)⟩) (λz=>?_) (by rw[←r1.length,←r2.length];exact hz);refine⟨.ref s.heap.objs.size,_,I.laid (t':=s.toks) (o:= .tup (xs++ys)) (λb ob q=>aH _ q) (au _) ?_,rfl,q2 (λw=>z (r2.nil_iff.mpr w)) _ (I.hok.fresh (au _))⟩;exact⟨by rw[aY];exact hz,_,r1.append r2,iR _ _⟩
end
noncomputable def ixN (n:Nat) (i:Int):Option Nat:=if 0≤i then(if i<n then ae i.toNat else none) else if -(n:Int)≤i then ae (i+n).toNat else none
noncomputable def atI {α:Type}(xs:List α) (i:Int):Option α:=(ixN xs.length i).bind λj=>xs[j]?
theorem zvu{n:Nat}{i:Int}{j:Nat}(h:ixN n i=ae j):seqIndex? i n=ae j∧j<n∧ -(n:Int)≤i∧i<n:=by
 unfold ixN at h;by_cases h0:0≤i
 ·rw[if_pos h0]at h;by_cases h1:i<n
  ·rw[if_pos h1]at h;have e:i.toNat=j:=aE h;exact⟨by rw[seqIndex_of h0 h1,e],by omega,by omega,h1⟩
  ·rw[if_neg h1]at h;cases h
 ·rw[if_neg h0]at h;by_cases h1: -(n:Int)≤i
  ·rw[if_pos h1]at h;have e:(i+n).toNat=j:=aE h;exact⟨by rw[seqIndex_neg (by omega) h1,e],by omega,h1,by omega⟩
  ·rw[if_neg h1]at h;cases h
theorem zml{α:Type}{xs:List α}{i:Int}{v:α}(h:atI xs i=ae v):∃j,seqIndex? i xs.length=ae j∧xs[j]? =ae v∧j<xs.length∧ -(xs.length:Int)≤i∧i<xs.length:=by
 unfold atI at h;cases e:ixN xs.length i with
 |none=>rw[e]at h;cases h
 |some j=>
  rw[e]at h;obtain⟨h1,h2,h3,h4⟩:=zvu e;exact⟨j,h1,h,h2,h3,h4⟩
theorem zvg{α:Type}{xs:List α}{j:Nat}{v:α}(h:xs[j]? =ae v):atI xs (j:Int)=ae v:=by
 have hj:j<xs.length:=(cb.mp h).1;have e:ixN xs.length (j:Int)=ae j:=by
  unfold ixN;rw[if_pos (by omega),if_pos (by omega)];simp
 unfold atI;rw[e];exact h
def zlK (b:Expr):Prop:=∀o i,subscripted b false o i=operate [o,i] (dy o i)
def IxR (X:Cx) (r:R2):Prop:=
 ∀(value slice:Expr) (pins:List (Addr×Obj)) (s:ag) (σ:St) (H:Hp) (x y:V) (v u:Value) (Q:VK),Inv X pins σ H s→RelV x v→RelV y u→r x y H Q→
  subscripted slice false v u=operate [v,u] (dy v u)→am (ap X.prog X.w) X.A (subscriptTail value slice v u) (EP X pins σ Q) X.xe s
def MtR (X:Cx) (id:String) (r:V→List V→Hp→VK→Prop):Prop:=
 ∀(pins:List (Addr×Obj)) (s:ag) (σ:St) (H:Hp) (x:V) (xs:List V) (v:Value) (us:List Value) (Q:VK),Inv X pins σ H s→RelV x v→Vals xs us→r x xs H Q→
  am (ap X.prog X.w) X.A (call (.builtin id) (v::us)) (EP X pins σ Q) X.xe s
section
variable {X:Cx}{a b:Expr}{ta tb:TE}{pos:aB}
theorem IxR.or{r r':R2}(h:IxR X r) (h':IxR X r'):IxR X (λx y H Q=>r x y H Q∨r' x y H Q):=by
 intro value slice pins s σ H x y v u Q I rx ry q hs;rcases q with q |q
 ·exact h value slice pins s σ H x y v u Q I rx ry q hs
 ·exact h' value slice pins s σ H x y v u Q I rx ry q hs
theorem MtR.or{id:String}{r r':V→List V→Hp→VK→Prop}(h:MtR X id r) (h':MtR X id r'):MtR X id (λx xs H Q=>r x xs H Q∨r' x xs H Q):=by
 intro pins s σ H x xs v us Q I rx rs q;rcases q with q |q
 ·exact h pins s σ H x xs v us Q I rx rs q
 ·exact h' pins s σ H x xs v us Q I rx rs q
theorem zxF{r:R2}(hr:IxR X r) (ha:PE X a ta) (hb:PE X b tb) (hs:zlK b):PE X (.Subscript a b pos) (tOp r ta tb):=by
 intro pins s σ H Q I h;exact Subscript_ (zBt ha hb I h λv u s2 x y H2 I2 rx ry q=>hr a b pins s2 σ H2 x y v u Q I2 rx ry q (hs _ _))
noncomputable def zBJ (K:ak):R2:=λx y H Q=>∃p xs i v,x= .ref p∧y= .int i∧SqL K H p xs∧atI xs i=ae v∧Q v H
noncomputable def zBK (K:ak):R2:=λx y H Q=>∃p xs i v,x= .ref p∧y= .int i∧SqT K H p xs∧atI xs i=ae v∧Q v H
noncomputable def zBI:R2:=λx y H Q=>∃z i c,x= .str z∧y= .int i∧z.length≤sizeLine∧atI z.cps.toList i=ae c∧Q (.str ⟨#[c]⟩) H
theorem ix_list:IxR X (zBJ X.K):=by
 intro value slice pins s σ H x y v u Q I rx ry h hs;obtain⟨p,xs,i,z,rfl,rfl,hq,he,q⟩:=h;cases rx;obtain⟨t,rfl⟩:=ry;obtain⟨its,r,pl,hz⟩:=I.list hq;obtain⟨j,h1,h2,h3,h4,h5⟩:=zml he;obtain⟨w,ew,rw'⟩:=r.get h2;have hl:=r.length;have hn:=ziS;have fin:EP X pins σ Q w s:=⟨z,H,I,rw',q⟩;by_cases h0:0≤i
 ·have hj:i.toNat=j:=by
   rw[seqIndex_of h0 h5]at h1;exact aE h1
  exact item_listR pl.isList h0 (by omega) (by rw[hj];simpa using ew) fin hs
 ·have hj:(i+(its.toArray.size:Int)).toNat=j:=by
   rw[seqIndex_neg (by omega) h4]at h1;rw[aP,←hl];exact aE h1
  exact jV (x:=w) pl.isList.typeIs kC.lookup
   (wpAny_getItem_list_neg (Q:=λr s'=>r=w∧EP X pins σ Q r s') pl.isList (by omega) (by rw[aP]<;>omega) (by omega) (by rw[hj];simpa using ew) ⟨rfl,fin⟩) hs
theorem ix_tup:IxR X (zBK X.K):=by
 intro value slice pins s σ H x y v u Q I rx ry h hs;obtain⟨p,xs,i,z,rfl,rfl,hq,he,q⟩:=h;cases rx;obtain⟨t,rfl⟩:=ry;obtain⟨its,r,pl,hz⟩:=I.tuple hq;obtain⟨j,h1,h2,h3,h4,h5⟩:=zml he;obtain⟨w,ew,rw'⟩:=r.get h2;have hl:=r.length;have hn:=ziS;have fin:EP X pins σ Q w s:=⟨z,H,I,rw',q⟩;exact jV (x:=w) pl.typeIs slot_tuple_getitem.lookup
  (getItem_tuple (j:=j) (Q:=λr s'=>r=w∧EP X pins σ Q r s') pl (by omega) (by omega) (by rw[aP,←hl];exact h1) (by simpa using ew) ⟨rfl,fin⟩) hs
theorem zxq:IxR X zBI:=by
 intro value slice pins s σ H x y v u Q I rx ry h hs;obtain⟨z,i,c,rfl,rfl,hz,he,q⟩:=h;obtain⟨t,rfl⟩:=rx;obtain⟨t',rfl⟩:=ry;obtain⟨j,h1,h2,h3,h4,h5⟩:=zml he;have hl:z.cps.toList.length=z.length:=by simp [iA]
 rw[hl]at h1 h4 h5;have hn:=ziS;exact tail_any (gU s z t) slot_str_getitem.lookup (getItem_str (c:=c) (by
  have e1:decide (i< -(2 ^ 63:Int))=false:=decide_eq_false (by omega);have e2:decide (i≥2 ^ 63)=false:=decide_eq_false (by omega);rw[e1,e2,jh]) (by rw[h1];simpa using h2) ⟨.str ⟨#[c]⟩,H,I.tok _,⟨_,rfl⟩,q⟩) hs
noncomputable def rIx (K:ak):R2:=λx y H Q=>zBJ K x y H Q∨zBK K x y H Q∨zBI x y H Q
theorem zuO:IxR X (rIx X.K):=ix_list.or (ix_tup.or zxq)
theorem zkf (lo hi:Option Int) (n:Nat):(dj lo hi none n).1=((HT.sIx n 0 lo:Nat):Int)∧(dj lo hi none n).2.1=((HT.sIx n n hi:Nat):Int)∧(dj lo hi none n).2.2=1:=by
 refine⟨?_,?_,rfl⟩
 ·cases lo with
  |none=>simp [dj,HT.sIx]
  |some i=>
   simp only[dj,HT.sIx,iT,show(1:Int) > 0 by decide,if_true]
   by_cases h:i<0
   ·simp only[h,if_true]<;>omega
   ·simp only[h,if_false]<;>omega
 ·cases hi with
  |none=>simp [dj,HT.sIx]
  |some i=>
   simp only[dj,HT.sIx,iT,show(1:Int) > 0 by decide,if_true]
   by_cases h:i<0
   ·simp only[h,if_true]<;>omega
   ·simp only[h,if_false]<;>omega
theorem zjn (its:List Value) (lo hi:Option Int):slicePick its.toArray lo hi none=((its.drop (HT.sIx its.length 0 lo)).take (HT.sIx its.length its.length hi - HT.sIx its.length 0 lo)).toArray:=by
 obtain⟨h1,h2,h3⟩:=zkf lo hi its.toArray.size;unfold slicePick;rw[h1,h2,h3];simp only[hV,gL,aP]<;>rfl
def zCo (K:ak):V→Option Int→Option Int→Hp→VK→Prop:=λx lo hi H Q=>∃a xs,x= .ref a∧SqL K H a xs∧ ∀p,H p=none→Q (.ref p) (upd H p (.lst (zqD xs lo hi)))
theorem zqd:SlR X (zCo X.K):=by
 intro pins s σ H x v vl vu lo hi sl Q I rx hs pl pu h;obtain⟨a,xs,rfl,hx,q⟩:=h;cases rx;obtain⟨its,r,ht,hz⟩:=I.list hx;have hlen:=r.length;refine⟨"list",_,kC.lookup,ht.isList.typeIs,?_⟩;refine wpAny_getItem_list_slice ht.isList hs pl pu .none (by simp) ?_ (by rw[aP]<;>omega);rw[zjn,←hlen];refine⟨.ref s.heap.objs.size,_,I.laid (t':=s.toks) (o:= .lst (zqD xs lo hi)) (λb ob q=>aH _ q) (au _) ?_,rfl,q _ (I.hok.fresh (au _))⟩;exact⟨bi (zig xs lo hi) hz,_,0,(r.drop (HT.sIx xs.length 0 lo)).take (HT.sIx xs.length xs.length hi - HT.sIx xs.length 0 lo),bj _ rfl⟩
theorem call_len_seq:CallR X (.builtin "len") (λxs H Q=>∃p ys,xs=[.ref p]∧(SqL X.K H p ys∨SqT X.K H p ys)∧Q (.int ys.length) H):=by
 intro pins s σ H xs us Q I r h;obtain⟨p,ys,rfl,hq,q⟩:=h;obtain⟨u,rfl,rx⟩:=ziv r;cases rx;have hn:=ziS;rcases hq with hq |hq
 ·obtain⟨its,r',pl,hz⟩:=I.list hq;have hlen:=r'.length;exact Calls.call_len_list pl.isList (by simp only[aP]<;>omega) ⟨.int ys.length,H,I.tok _,⟨s.toks+1,by rw[aP,hlen]⟩,q⟩
 ·obtain⟨its,r',pl,hz⟩:=I.tuple hq;have hlen:=r'.length;exact len_tuple pl (by simp only[aP]<;>omega) ⟨.int ys.length,H,I.tok _,⟨s.toks+1,by rw[aP,hlen]⟩,q⟩
theorem zjZ:CallR X (.builtin "len") (λxs H Q=>∃z,xs=[.str z]∧z.length≤sizeLine∧Q (.int z.length) H):=by
 intro pins s σ H xs us Q I r h;obtain⟨z,rfl,hz,q⟩:=h;obtain⟨u,rfl,t,rfl⟩:=ziv r;have hn:=ziS;exact len_str (by omega) ⟨.int z.length,H,I.tok _,⟨_,rfl⟩,q⟩
theorem CallR.or{f:Value}{r r':List V→Hp→VK→Prop}(h:CallR X f r) (h':CallR X f r'):CallR X f (λxs H Q=>r xs H Q∨r' xs H Q):=by
 intro pins s σ H xs us Q I rs q;rcases q with q |q
 ·exact h pins s σ H xs us Q I rs q
 ·exact h' pins s σ H xs us Q I rs q
theorem zlt:CallR X (.type "list") (λxs H Q=>∃p ys,xs=[.ref p]∧(SqL X.K H p ys∨SqT X.K H p ys)∧ ∀l,H l=none→Q (.ref l) (upd H l (.lst ys))):=by
 intro pins s σ H xs us Q I r h;obtain⟨p,ys,rfl,hq,q⟩:=h;obtain⟨u,rfl,rx⟩:=ziv r;cases rx;have fin:∀(its:List Value),Vals ys its→ys.length≤sizeLine→ ∀(h':Heap) (c':Nat),(∀b o',s.heap.get? b=ae o'→h'.get? b=ae o')→
   h'.get? s.heap.objs.size=ae { cls:= .type "list",dict:=none,data:= .seq its.toArray c',slots:= #[] }→EP X pins σ Q (.ref s.heap.objs.size) { s with heap:=h' }:=λits r' hz h' c' kp e=>
  ⟨.ref s.heap.objs.size,_,I.laid (t':=s.toks) kp (au _) (show ObjOk X.prog X.w _ h' _ (.lst ys) from⟨hz,its,c',r',e⟩),rfl,q _ (I.hok.fresh (au _))⟩
 rcases hq with hq |hq
 ·obtain⟨its,r',pl,hz⟩:=I.list hq;have hlen:=r'.length;obtain⟨o,ho,hc,n,hd⟩:=pl.isList;exact call_list_seq p (.inl rfl) ho hc hd (λh' c' kp e=>fin its r' hz h' c' kp e) (by simp only[aP]<;>omega)
 ·obtain⟨its,r',pl,hz⟩:=I.tuple hq;have hlen:=r'.length;obtain⟨o,ho,hc,n,hd⟩:=pl;exact call_list_seq p (.inr rfl) ho hc hd (λh' c' kp e=>fin its r' hz h' c' kp e) (by simp only[aP]<;>omega)
theorem zfI:CallR X (.type "tuple") (λxs H Q=>∃p ys,xs=[.ref p]∧((SqL X.K H p ys∧ ∀l,H l=none→Q (.ref l) (upd H l (.tup ys)))∨(SqT X.K H p ys∧Q (.ref p) H))):=by
 intro pins s σ H xs us Q I r h;obtain⟨p,ys,rfl,h⟩:=h;obtain⟨u,rfl,rx⟩:=ziv r;cases rx;rcases h with⟨hq,q⟩ |⟨hq,q⟩
 ·obtain⟨its,r',pl,hz⟩:=I.list hq;have hlen:=r'.length;refine call_tuple_list pl.isList (λh' kp=>?_) (by simp only[aP]<;>omega);have I1:Inv X pins σ H { s with heap:=h' }:=I.kept (t':=s.toks) kp;have I2:Inv X pins σ (upd H h'.objs.size (.tup ys)) { s with heap:=h'.push { cls:= .type "tuple",data:= .seq its.toArray } }:=
   I1.laid (t':=s.toks) (λb o e=>aH _ e) (au _) (show ObjOk X.prog X.w _ _ _ (.tup ys) from⟨hz,its,r',iR _ _⟩)
  exact⟨.ref h'.objs.size,_,I2,rfl,q _ (I1.hok.fresh (au _))⟩
 ·obtain⟨its,r',pl,hz⟩:=I.tuple hq;exact call_tuple_same pl ⟨.ref p,H,I,rfl,q⟩
def tyV (K:ak) (T:String) (x:V) (H:Hp):Prop:=match x with
 | .str _=>T= "str"
 | .int _=>T= "int"
 | .ref p=>(T= "list" ∧ ∃xs,SqL K H p xs)∨(T= "tuple" ∧ ∃o,K.lookup p=ae o∧o.cls= .type "tuple" ∧o.dict=none)∨
   (T= "dict" ∧((∃kvs,H p=ae (.dK kvs))∨ ∃kvs,H p=ae (.dT kvs)))∨(T= "set" ∧ ∃S n,H p=ae (.set S n))
 |_=>False
theorem zuX{pins:List (Addr×Obj)}{σ:St}{H:Hp}{s:ag}{T:String}{x:V}{v:Value}(I:Inv X pins σ H s) (r:RelV x v) (ty:tyV X.K T x H) :
  s.TypeIs v T∧ ∀a,v= .ref a→ ∃ob,s.heap.get? a=ae ob∧ob.dict=none:=by
 cases x with
 |str z=>
  obtain⟨t,rfl⟩:=r;cases(show T= "str" from ty);exact⟨gU s z t,λ_ e=>nomatch e⟩
 |int i=>
  obtain⟨t,rfl⟩:=r;cases(show T= "int" from ty);exact⟨gJ s i t,λ_ e=>nomatch e⟩
 |ref p=>
  cases r;rcases ty with⟨rfl,xs,hq⟩ |⟨rfl,o,hk,hc,hd⟩ |⟨rfl,hk⟩ |⟨rfl,S,n,hk⟩
  ·obtain⟨its,_,pl,_⟩:=I.list hq;refine⟨pl.isList.typeIs,λa e=>?_⟩;cases e;obtain⟨o,n,e,c,hd,_⟩:=pl;exact⟨o,e,hd⟩
  ·refine⟨⟨o,I.kIn p o hk,hc⟩,λa e=>?_⟩;cases e;exact⟨o,I.kIn _ o hk,hd⟩
  ·have z:∃o,s.heap.get? p=ae o∧o.ExactDict:=by
    rcases hk with⟨kvs,hk⟩ |⟨kvs,hk⟩
    ·obtain⟨_,_,_,_,o,_,_,e,ex,_⟩:=I.hok p _ hk;exact⟨o,e,ex⟩
    ·obtain⟨_,_,_,_,o,_,_,e,ex,_⟩:=I.hok p _ hk;exact⟨o,e,ex⟩
   obtain⟨o,e,ex⟩:=z;refine⟨⟨o,e,ex.1⟩,λa e2=>?_⟩;cases e2;exact⟨o,e,ex.2.1⟩
  ·obtain⟨o,_,_,_,e,ex,_⟩:=I.hok p _ hk;refine⟨⟨o,e,ex.1⟩,λa e2=>?_⟩;cases e2;exact⟨o,e,ex.2.1⟩
 |_=>exact ck ty
noncomputable def zBX (K:ak) (T:String) (r:V→List V→Hp→VK→Prop) (to:TE):TE:=λσ H Q=>to σ H λx H1=>tyV K T x H1∧r x [] H1 Q
noncomputable def tBM (K:ak) (T:String) (r:V→List V→Hp→VK→Prop) (to:TE) (t:TA):TE:=λσ H Q=>to σ H λx H1=>tyV K T x H1∧t σ H1 λxs H2=>r x xs H2 Q
variable {o e:Expr}{es:List Expr}{to:TE}{t:TA}{name:Str}{apos cpos:aB}{T id:String}{r:V→List V→Hp→VK→Prop}
theorem zzl (pa:eO T) (slot:Slot T name id) (hty:eD (.builtin id)=pure (.type "method_descriptor")) (hm:MtR X id r) (ho:PE X o to)
  (hbase:cN o name X.env (ax o X.env)=ax o X.env:=by rfl) (hline:(apos.endLine == cpos.line)=true:=by rfl):PE X (.Call (.Attribute o name apos) [] [] cpos) (zBX X.K T r to):=by
 intro pins s σ H Q I h;refine wpAny_Call_method0_late hbase hline (thn (ho pins s σ H _ I h) λv s1 ⟨x,H1,I1,r1,ty,q1⟩=>?_);obtain⟨h1,h2⟩:=zuX I1 r1 ty;exact⟨T,id,pa,slot,hty,h1,h2,jY rfl (PySem.evalArgs_none (hm pins s1 σ H1 x [] v [] Q I1 r1 .nil q1))⟩
theorem zyY (pa:eO T) (slot:Slot T name id) (hty:eD (.builtin id)=pure (.type "method_descriptor")) (hm:MtR X id r) (ho:PE X o to) (ha:PA X (e::es) t)
  (hbase:cN o name X.env (ax o X.env)=ax o X.env:=by rfl)
  (hfew:((aS cpos (ao (e::es) X.env)).all (λx=> !x.1)&&(d7 cpos (dP [] X.env)).all (λx=>x.1.isSome)
   &&decide ((e::es).length+([]:List b7).length+(if([]:List b7).isEmpty then 0 else 1)<30))=true:=by rfl)
  (hline:(apos.endLine == cpos.line)=true:=by rfl) (hs:ao (e::es) X.env=(false,ax e X.env)::ao es X.env:=by rfl) (hplain:(aS cpos (ao es X.env)).any (·.1)=false:=by rfl) :
  PE X (.Call (.Attribute o name apos) (e::es) [] cpos) (tBM X.K T r to t):=by
 intro pins s σ H Q I h;refine wpAny_Call_method_late hbase hfew hline rfl (thn (ho pins s σ H _ I h) λv s1 ⟨x,H1,I1,r1,ty,q1⟩=>?_);obtain⟨h1,h2⟩:=zuX I1 r1 ty;refine⟨T,id,pa,slot,hty,h1,h2,?_⟩;have hA:=ha cpos pins s1 σ H1 _ I1 q1;rw[hs]at hA⊢;refine jY (by show(false || (aS cpos (ao es X.env)).any (·.1))=false;rw[hplain]<;>rfl) (i7 ?_)
 exact thn hA λus s2 ⟨vs,H2,I2,r2,q2⟩=>hm pins s2 σ H2 x vs v us Q I2 r1 r2 q2
end
def MtM (X:Cx) (id:String) (r:V→List V→Hp→VK→Prop):Prop:=
 ∀(pins:List (Addr×Obj)) (s:ag) (σ:St) (H:Hp) (x:V) (xs:List V) (v:Value) (us:List Value) (Q:VK),Inv X pins σ H s→RelV x v→Vals xs us→r x xs H Q→
  am (ap X.prog X.w) X.A (call (.builtin id) (v::us)) (EP X pins σ Q) X.xe s
theorem Vals.one:∀{x:V}{us:List Value},Vals [x] us→ ∃u,us=[u]∧RelV x u
 |_,_, .cons r .nil=>⟨_,rfl,r⟩
theorem Vals.rep{xs:List V}{us:List Value}(h:Vals xs us):∀k:Nat,Vals (aN k xs).flatten (aN k us).flatten
 |0=> .nil
 |k+1=>by
  rw[b9,b9,dr,dr];exact Vals.append h (Vals.rep h k)
theorem zlv (its:List Value):∀(k:Nat) (acc:List Value),
  ic (λx1 x2=>x1++x2) acc.toArray (aN k its.toArray)=(acc++(aN k its).flatten).toArray
 |0,acc=>by simp
 |k+1,acc=>by
  have e:acc.toArray++its.toArray=(acc++its).toArray:=by simp
  have e2:(acc++its)++(aN k its).flatten=acc++(aN (k+1) its).flatten:=by
   rw[b9,dr,bN]
  rw[←e2,←zlv its k (acc++its),←e,b9,d5]
section
variable {X:Cx}{pins:List (Addr×Obj)}{σ:St}{H:Hp}{s:ag}{l:Addr}{xs ys:List V}
theorem Inv.lset{its its':List Value}{n:Nat}{f:Array Value→Array Value}{t':Nat}(I:Inv X pins σ H s) (hH:H l=ae (.lst xs))
  (e:s.heap.get? l=ae { cls:= .type "list",data:= .seq its.toArray n }) (hf:f its.toArray=its'.toArray) (hv:Vals ys its') (hz:ys.length≤sizeLine) :
  Inv X pins σ (upd H l (.lst ys)) { s with heap:=s.heap.update l (ip f),toks:=t' }:=by
 have q:=PySem.IsL.update e f;rw[hf]at q;refine I.write (x:=l) (e:=l) (by rw[hH];exact trivial) (.inl rfl) (λb' u hb hu=>(eM s.heap (ip f) (br hb)).trans hu) ⟨_,q⟩ ?_;exact⟨hz,its',_,hv,q⟩
theorem Inv.lnew{its:List Value}{t':Nat}(I:Inv X pins σ H s) (hv:Vals ys its) (hz:ys.length≤sizeLine) :
  Inv X pins σ (upd H s.heap.objs.size (.lst ys)) { s with heap:=s.heap.push { cls:= .type "list",data:= .seq its.toArray },toks:=t' }:=
 I.laid (λ_ _ q=>aH _ q) (au _) ⟨hz,its,0,hv,bj _ rfl⟩
theorem Inv.fresh (I:Inv X pins σ H s):H s.heap.objs.size=none:=I.hok.fresh (au _)
theorem Inv.lstM (I:Inv X pins σ H s) (hH:H l=ae (.lst xs)):xs.length≤sizeLine∧ ∃(its:List Value) (n:Nat),Vals xs its∧xs.length=its.length∧s.heap.get? l=ae { cls:= .type "list",data:= .seq its.toArray n }:=by
 obtain⟨z,its,n,r,e⟩:=I.hok l _ hH;exact⟨z,its,n,r,r.length,e⟩
theorem zjk{n:Nat}(h:n≤sizeLine):dN n=false:=by
 unfold dN;exact decide_eq_false (by omega)
end
section
variable {X:Cx}
def zqy:V→List V→Hp→VK→Prop:=λx vs H Q=>∃l xs y,x= .ref l∧vs=[y]∧H l=ae (.lst xs)∧xs.length<sizeLine∧Q .non (upd H l (.lst (xs++[y])))
theorem zlB:MtM X "list.append" zqy:=by
 intro pins s σ H x vs v us Q I rx rv h;obtain⟨l,xs,y,rfl,rfl,hH,hz,q⟩:=h;cases rx;obtain⟨u,rfl,ru⟩:=rv.one;obtain⟨z,its,n,r,hl,e⟩:=I.lstM hH;refine ef F.slot_list_append ⟨_,e,rfl⟩ F.entry_list_append (F.args_list_append_2 _ _) (PySem.list_append l its.toArray n u (by rw[aP];omega)) ⟨e,?_⟩;refine⟨.non,_,I.lset (its':=its++[u]) hH e (by simp) (r.append (.cons ru .nil)) ?_,rfl,q⟩;rw[aY,b6];omega
def zqY:V→List V→Hp→VK→Prop:=λx vs H Q=>∃l b xs zs,x= .ref l∧vs=[.ref b]∧H l=ae (.lst xs)∧H b=ae (.lst zs)∧xs.length+zs.length≤sizeLine∧Q .non (upd H l (.lst (xs++zs)))
theorem zrC:MtM X "list.extend" zqY:=by
 intro pins s σ H x vs v us Q I rx rv h;obtain⟨l,b,xs,zs,rfl,rfl,hH,hB,hz,q⟩:=h;cases rx;obtain⟨u,rfl,ru⟩:=rv.one;cases ru;obtain⟨z,its,n,r,hl,e⟩:=I.lstM hH;obtain⟨z2,its2,n2,r2,hl2,e2⟩:=I.lstM hB;have hsz:its.toArray.size+its2.toArray.size≤sizeLine:=by rw[aP,aP];omega
 have hlong:¬(!its.toArray.isEmpty&&dN (its.toArray.size+its2.toArray.size))=true:=by
  rw[zjk hsz,gf];exact cS
 refine ef jG ⟨_,e,rfl⟩ j7 (kE _ _)
  (AutoSeq1.list_extend_list_list_0 l its.toArray n b its2.toArray n2 hlong (by rw[aP];omega) (by omega)) ⟨e,e2,?_⟩
 refine⟨.non,_,I.lset (its':=its++its2) hH e (by simp) (r.append r2) ?_,rfl,q⟩;rw[aY];omega
noncomputable def zAh:R2:=λx y H Q=>∃l b xs zs,x= .ref l∧y= .ref b∧H l=ae (.lst xs)∧H b=ae (.lst zs)∧xs.length+zs.length≤sizeLine∧ ∀p,H p=none→Q (.ref p) (upd H p (.lst (xs++zs)))
theorem zmP:OpR X (bQ .Add) zAh:=by
 intro pins s σ H x y v u Q I rx ry h;obtain⟨l,b,xs,zs,rfl,rfl,hH,hB,hz,q⟩:=h;cases rx;cases ry;obtain⟨z,its,n,r,hl,e⟩:=I.lstM hH;obtain⟨z2,its2,n2,r2,hl2,e2⟩:=I.lstM hB;refine PySem.P.add_list e e2 ?_ (by rw[aP,aP];omega);have ea:its.toArray++its2.toArray=(its++its2).toArray:=by simp
 rw[ea];exact⟨.ref _,_,I.lnew (t':=s.toks) (r.append r2) (by rw[aY];omega),rfl,q _ I.fresh⟩
noncomputable def zCF:R2:=λx y H Q=>∃l k xs,x= .ref l∧y= .int k∧H l=ae (.lst xs)∧ -(2 ^ 63)≤k∧k<2 ^ 63∧xs.length*k.toNat≤sizeLine∧
 ∀p,H p=none→Q (.ref p) (upd H p (.lst (aN k.toNat xs).flatten))
theorem zvl{α:Type}(xs:List α) (k:Nat):(aN k xs).flatten.length=k*xs.length:=by
 induction k with
 |zero=>simp
 |succ k ih=>rw[b9,dr,aY,ih,Nat.succ_mul,fE]
theorem zyW:OpR X (bQ .Mult) zCF:=by
 intro pins s σ H x y v u Q I rx ry h;obtain⟨l,k,xs,rfl,rfl,hH,h1,h2,hz,q⟩:=h;cases rx;obtain⟨t,rfl⟩:=ry;obtain⟨z,its,n,r,hl,e⟩:=I.lstM hH;have hlen:its.toArray.size*k.toNat≤sizeLine:=by rw[aP,←hl];exact hz
 have hcap:¬its.toArray.size*k.toNat > (2 ^ 63 - 1) / 8:=by
  have:(sizeLine:Nat)≤(2 ^ 63 - 1) / 8:=by decide
  omega
 have hfit:¬(!Builtin.List.listFitsIndex k)=true:=by
  rw[fitsIndex_both h1 h2];exact cS
 have hlong:¬dN (its.toArray.size*k.toNat)=true:=by
  rw[zjk hlen];exact cS
 have hnew:ic (λx1 x2=>x1++x2) #[] (aN (if its.toArray.isEmpty=true then 0 else k.toNat) its.toArray)=(aN k.toNat its).flatten.toArray:=by
  have f0:∀m:Nat,ic (λx1 x2=>x1++x2) #[] (aN m its.toArray)=(aN m its).flatten.toArray:=λm=>by
   have:=zlv its m [];rw[aR]at this;exact this
  rw[f0];cases its with
  |nil=>simp
  |cons a r'=>rw[if_neg (by simp)]
 refine wpAny_binaryOp_repeat_ref (T:= "list") (U:= "int") (by decide) ⟨_,e,rfl⟩ (λs'=>gJ s' k t) noFill_list_mul F.fills_int_mul jk repeat_list F.slot_int_index.lookup
  (ef jk (gJ s k t) F.entry_int_rmul (F.args_int_rmul_2 _ _) (int___rmul___int_list k t l its.toArray n)
   ⟨e,rfl,⟨_,e,rfl⟩,ef F.slot_list_mul ⟨_,e,rfl⟩ F.entry_list_mul (F.args_list_mul_2 _ _) (AutoListH.list___mul___list_int_3 l its.toArray n k t hfit hcap hlong) ⟨e,?_⟩⟩)
 rw[hnew];exact⟨.ref _,_,I.lnew (t':=s.toks) (r.rep k.toNat) (by rw[zvl,Nat.mul_comm];exact hz),rfl,q _ I.fresh⟩
end
end L2
namespace Att
open PySem PySem.W PySem.Calls PyProof.Rows
theorem zhN{P:fM}{h:Heap}:∀(ns:List Int) (vs:List Value),WellAll P h vs (ns.map WData.int)→fe vs ns:=by
 intro ns
 induction ns with
 |nil=>
  intro vs w;rw[dq]at w;cases w;exact .nil
 |cons n ns ih=>
  intro vs w;rw[az]at w;cases w with
  |cons a b=>
   cases a;exact .cons _ _ (ih _ b)
theorem zqW{l:OpenLaw}{n:Nat}(hn:l.most=ae n) {P:fM}{h:Heap}{args:List WData}{vals:List Value}
  (hpre:l.row.toRowW.claim.pre args=true) (hwl:WellAll P h vals args) :
  ∃a vs ns,vals=[bx a]∧args=[WData.list (ns.map WData.int)]∧h.get? a=ae { cls:= .type "list",data:= .seq vs.toArray }∧fe vs ns∧ns.length≤n:=by
 have hsh:WShape.hasAll [] args [.list .int]=true:=(pre_splitW hpre).1;have hc:l.pre.holds [] { args:=args }=true:=(pre_splitW hpre).2;obtain⟨d,r,rfl,h1,h2⟩:=hasAllW_cons hsh;obtain rfl:=hasAllW_nil h2;obtain⟨xs,rfl,h3⟩:=hasW_list h1;obtain⟨ns,rfl⟩:=items_int h3;have hlen:ns.length≤n:=by
  unfold OpenLaw.pre at hc;have h4:(WTm.not (.lt (.lit (.int (n:Int))) (.len (.arg 0)))).holds [] { args:=[.list (ns.map .int)] }=true:=by
   have h4:=(holds_andW hc).1;rw[hn]at h4;exact h4
  have h5:=condW_of h4 (w_not (w_lt w_lit (w_len_list (w_arg rfl))));rw[aq]at h5;refine jE λq=>?_;have q':(n:Int)<((ns.length:Nat):Int):=by omega
  first
   | (rw[decide_eq_true q']at h5;exact absurd h5 (by decide))
   | (simp at h5;omega)
 cases hwl with
 |cons w1 w2=>
  cases w2;cases w1 with
  |list ho hall=>exact⟨_,_,ns,rfl,rfl,ho,zhN ns _ hall,hlen⟩
theorem zqr (l:OpenLaw) (args:List WData):l.row.toRowW.claim.post args (.bool true) args=true:=
 postW_of (r:=l.row.toRowW) (X:=(true == true))
  (show WShape.has [] (.bool true) .bool=true by first |rfl |decide |simp [WShape.has,WShape.arms,WShape.armsAll])
  (show(WTm.eq .res (.lit (.bool true))).value [] { args:=args,res:=ae (.bool true),after:=args }=ae (.bool (true == true)) from w_eq_bool (w_res rfl) w_lit) rfl
theorem attach_call{l:OpenLaw}{n:Nat}{q:aF}{loose:List Str}{XP:(Str→Option Value)→Heap→Prop}{YP:aC→Heap→Prop}{d:DefRec}
  (hn:l.most=ae n) (hdf:d.params.defaults=[])
  (call:∀(w:aC) (s₀ s₁:ag) (mg mb:Str→Option Value) (fa:Addr) (o:Obj) (pm cd doc:Value) (a:Addr) (vs:List Value) (ns:List Int),
   Ground q loose [] XP w s₀ mg mb s₁.heap→YP w s₁.heap→
   s₁.heap.get? fa=ae o→o.data= .func (docDef d.name d.params d.body d.scope pm cd doc)→s₁.heap.CodeRec cd d.name→mg d.name=ae (.ref fa)→
   s₁.heap.get? a=ae { cls:= .type "list",data:= .seq vs.toArray }→fe vs ns→ns.length≤n→s₁.gens= #[]→
   cM (ap l.prog w) dC (.call (.ref fa) ⟨[.ref a],[]⟩) (λr s'=>r= .ok (.ret (.bool true))∧OldK s₁.heap s'.heap∧s'.os=s₁.os∧bP s'.gens) s₁) :
  WalkO q loose XP YP l.row.toRowW d [] (λf vs=>i' f vs):=by
 intro w s₀ s₁ mg mb G Y fa o pm cd doc dV kV ho hd hcd hD hmg hg args vals as hpre hlay hrd hwl hlo;obtain rfl:dV= .none:=Dflts.none hD hdf;obtain rfl:kV= .none:=Dflts.noKw hD;obtain⟨a,vs,ns,rfl,rfl,hobj,hints,hlen⟩:=zqW hn hpre hwl;refine enter_call (io (call w s₀ s₁ mg mb fa o pm cd doc a vs ns G Y ho (fd_plain hd) hcd hmg hobj hints hlen hg) λr s' hq=>?_);obtain⟨rfl,h2,h3,h4⟩:=hq;exact⟨.inl ⟨.bool true, .bool true,[],rfl,λ_=>rfl, .bool true,zqr l _,λ_=>⟨j4.nil,λ_ hm=>(nomatch hm)⟩⟩,h2,h3,h4⟩
end Att
namespace L2
open PySem PySem.Spec PyProof.Rows
theorem zkG:∀{vs:List Value}{ns:List Int},fe vs ns→Vals (ns.map V.int) vs
 |_,_, .nil=> .nil
 |_,_, .cons n t h=> .cons ⟨t,rfl⟩ (zkG h)
def zAe (H:Hp):Prop:=∀b,H b=none∨ ∃o xs,H b=ae (.frz o (.lst xs))
theorem zue{P:aF}{w:aC}{K:ak}{mg mb:Str→Option Value}{CX:CXT}{k:Nat}{fa a:Addr}{fd:bF}{x:Str}{sp:Sp}{s₁:ag}{vs:List Value}{ns:List Int}
  (KX:K.In s₁.heap) (hns:s₁.heap.Ns aK mg) (hb:s₁.heap.Ns im mb) (hbb:∀x:Str,x≠ "__name__" →mb x=bV x) (hlim:s₁.heap.NoLimit) (hg:s₁.gens= #[])
  (ha:s₁.heap.get? a=ae { cls:= .type "list",data:= .seq vs.toArray }) (hi:fe vs ns) (hl:ns.length≤sizeLine) (hr:Room k dC)
  (F:∀base:Heap,K.In base→base.Ns aK mg→FnOk P w K mg base CX k fa fd [x] sp) (hbind:∀(s:ag) (u:Value),dU s fd ⟨[u],[]⟩ [(x,u)])
  (hsp:∀H:Hp,zAe H→SqL K H a (ns.map V.int)→sp [.ref a] H (λv _=>v= .bl true) λ_ _ _=>False)
  (hCX:∀H e s',CX [] H s₁ (λ_ _ _=>False) e s'→False) :
  cM (ap P w) dC (.call (.ref fa) ⟨[.ref a],[]⟩) (λr s'=>r= .ok (.ret (.bool true))∧OldK s₁.heap s'.heap∧s'.os=s₁.os∧bP s'.gens) s₁:=by
 have rv:=zkG hi;have lenV:=hi.length;have core:∀H:Hp,zAe H→SqL K H a (ns.map V.int)→HOk P w H s₁.heap→(∀b,H b≠none→b=a)→(H a≠none→K.lookup a=none)→
   cM (ap P w) dC (.call (.ref fa) ⟨[.ref a],[]⟩) (λr s'=>r= .ok (.ret (.bool true))∧OldK s₁.heap s'.heap∧s'.os=s₁.os∧bP s'.gens) s₁:=by
  intro H hO hS hok hA hK;have base_of:∀{b:Addr}{o:Obj},s₁.heap.get? b=ae o→H b=none→(ztN s₁.heap H).get? b=ae o:=λe n=>ztI e n;have noA:∀{b:Addr}{o:Obj}{es:Array DictEntry}{ep:Nat},s₁.heap.get? b=ae o→o.data= .dict es ep→H b=none:=λ{b o es ep} e d=>by
   cases q:H b with
   |none=>rfl
   |some u=>
    have e':b=a:=hA b (by rw[q];simp);subst e';rw[ha]at e;cases e;have d':Data.seq vs.toArray _=Data.dict es ep:=d;cases d'
  have nsK:∀{b:Addr}{m:Str→Option Value},s₁.heap.Ns b m→(ztN s₁.heap H).Ns b m:=λ{b m} ⟨o,es,ep,e,d,r⟩=>⟨o,es,ep,base_of e (noA e d),d,r⟩;have hKb:K.In (ztN s₁.heap H):=λb o e=>base_of (KX b o e) (by
   cases q:H b with
   |none=>rfl
   |some u=>
    have e':b=a:=hA b (by rw[q];simp);subst e';rw[hK (by rw[q];simp)]at e;cases e)
  have hM:Mod K mg (ztN s₁.heap H):=⟨hKb,nsK hns,⟨mb,nsK hb,hbb⟩,let ⟨mc,h1,h2⟩:=hlim;⟨mc,nsK h1,h2⟩⟩;have e0:Env0 P w K mg (ztN s₁.heap H) dC [] s₁ H:=⟨rfl,hM,λb o e=>zvo e,fj (zqt _ _),trivial,λb hb=>absurd (show b∈([]:List Addr) from hb) (by simp),hok, .of_eq hg⟩;refine io ((F _ hKb (nsK hns)).run dC [] s₁ H ⟨[.ref a],[]⟩ [.ref a] [.ref a] _ _ hr e0 (hbind s₁ (.ref a)) (.cons rfl .nil) (hsp H hO hS)) λr s' h=>?_;cases r with
  |error e=>exact(hCX H e s' h).elim
  |ok fl=>
   cases fl with
   |next=>exact ck h
   |brk=>exact ck h
   |cont=>exact ck h
   |ret u=>
    obtain⟨v,H',os,bare,un,hok',r',q⟩:=h;have q':v= .bl true:=q;subst q';obtain rfl:u=eL true:=r';refine⟨rfl,OldK.of_keep λb o e=>?_,os,bare⟩;cases q:H b with
    |none=>exact un.keep b o e q (by intro z;exact absurd (show b∈([]:List Addr) from z) (by simp)) (by simp)
    |some u=>
     rcases hO b with z |⟨ob,xs,z⟩
     ·rw[q]at z;cases z
     ·have z2:=un.frzs b ob _ z;obtain⟨e1,_⟩:=hok b _ z;obtain⟨e2,_⟩:=hok' b _ z2;rw[e]at e1;cases e1;exact e2
 cases hk:K.lookup a with
 |some o=>
  have e:=KX a o hk;rw[ha]at e;cases e;refine core (λ_=>none) (λ_=> .inl rfl) (.inr ⟨_,vs.toArray,_,hk,rfl,rfl,rfl,by rw[aP,lenV];exact hl,by simpa using rv⟩) (λb u z=>by have z':(none:Option HO)=ae u:=z;cases z') (λb z=>absurd rfl z) λz=>absurd rfl z
 |none=>
  refine core (λb=>if b=a then ae (.frz { cls:= .type "list",data:= .seq vs.toArray } (.lst (ns.map V.int))) else none) (λb=>?_) (.inl (.inr ⟨{ cls:= .type "list",data:= .seq vs.toArray },if_pos rfl⟩)) (λb u z=>?_) (λb z=>?_) λ_=>hk
  ·by_cases hb:b=a
   ·exact .inr ⟨_,_,if_pos hb⟩
   ·exact .inl (if_neg hb)
  ·by_cases hb:b=a
   ·have z':=(if_pos hb).symm.trans z;cases z';subst hb;exact⟨ha,by rw[aq];exact hl,vs,_,rv,ha⟩
   ·have z':=(if_neg hb).symm.trans z;cases z'
  ·by_cases hb:b=a
   ·exact hb
   ·exact absurd (if_neg hb) z
theorem zwm{l:iG}{n k:Nat}{q:aF}{loose:List Str}{XP:(Str→Option Value)→Heap→Prop}{YP:aC→Heap→Prop}{d:DefRec}{K:fM→ak}{CX:aC→CXT}{sp:aC→Sp}{x:Str}
  (hn:l.most=ae n) (hn2:n≤sizeLine) (hdf:d.params.defaults=[]) (hr:Room k dC)
  (hY:∀(w:aC) (h:Heap),YP w h→(K w.params).In h)
  (F:∀(w:aC) (mg:Str→Option Value) (fa:Addr) (h:Heap),(K w.params).In h→h.Ns aK mg→mg d.name=ae (.ref fa)→
   ∃fd:bF,(∀(s:ag) (u:Value),dU s fd ⟨[u],[]⟩ [(x,u)])∧
    ∀base:Heap,(K w.params).In base→base.Ns aK mg→FnOk l.prog w (K w.params) mg base (CX w) k fa fd [x] (sp w))
  (hsp:∀(w:aC) (H:Hp) (a:Addr) (ns:List Int),ns.length≤n→zAe H→SqL (K w.params) H a (ns.map V.int)→sp w [.ref a] H (λv _=>v= .bl true) λ_ _ _=>False)
  (hCX:∀(w:aC) (H:Hp) (s:ag) (e:Value) (s':ag),CX w [] H s (λ_ _ _=>False) e s'→False) :
  iX q loose XP YP l.row.toRowW d [] (λf vs=>i' f vs):=by
 refine Att.attach_call hn hdf λw s₀ s₁ mg mb fa o pm cd doc a vs ns G Y ho hd hcd hmg hobj hints hlen hg=>?_;have KX:=hY w _ Y;obtain⟨fd,hb,hF⟩:=F w mg fa _ KX G.T.g hmg;exact zue KX G.T.g G.T.b G.T.builtins G.T.nolimit hg hobj hints (bi hlen hn2) hr hF hb (λH hO hS=>hsp w H a ns hlen hO hS) λH e s'=>hCX w H s₁ e s'
noncomputable def zhA (s:Stmt):Arguments:=match s with
 | .FunctionDef _ a _ _ _ _ _ _ _ _=>a
 |_=>{ posonlyargs:=[],args:=[],vararg:=none,kwonlyargs:=[],kw_defaults:=[],kwarg:=none,defaults:=[] }
noncomputable def zgq (s:Stmt):List Stmt:=match s with
 | .FunctionDef _ _ b _ _ _ _ _ _ _=>b
 |_=>[]
noncomputable def zaj (s:Stmt):Scope:=match s with
 | .FunctionDef _ _ _ _ _ _ sc _ _ _=>sc
 |_=>{ kind:= .function,names:=[],isGenerator:=false,isCoroutine:=false }
structure Fun (K:ak) (x qual:Str) (st:Stmt) (f:Addr) (fd:bF):Prop where
  ex:∃(oc:Value) (od:Option Addr) (kV doc pm:Value) (an:Option Addr) (cdv ct:Value) (osl:Array (Option Value)),
    fd=df x qual (zhA st) (zgq st) (zaj st) .none kV doc pm an cdv ct∧K.lookup f=ae ⟨oc,od, .func fd,osl⟩∧fS K cdv qual=true
  kp:dW K (.ref f)=true
section
variable {K:ak}
theorem Fun.binds{x qual:Str}{st:Stmt}{f:Addr}{fd:bF}{ps:List Str}(F:Fun K x qual st f fd)
  (h:∀(kV doc pm:Value) (an:Option Addr) (cdv ct:Value) (us:List Value),us.length=ps.length→bindArgs (df x qual (zhA st) (zgq st) (zaj st) .none kV doc pm an cdv ct) ⟨us,[]⟩=pure (ps.zip us)):Binds K fd ps []:=by
 obtain⟨oc,od,kV,doc,pm,an,cdv,ct,osl,rfl,lk,hcd⟩:=F.ex;exact .all (h kV doc pm an cdv ct)
theorem zxC{x qual:Str}{st:Stmt}{f:Addr}{oc:Value}{od an:Option Addr}{osl:Array (Option Value)}{kV doc pm cdv ct:Value}(l:K.lookup f=ae ⟨oc,od, .func (df x qual (zhA st) (zgq st) (zaj st) .none kV doc pm an cdv ct),osl⟩)
  (c:fS K cdv qual=true) (k:dW K (.ref f)=true):Fun K x qual st f (df x qual (zhA st) (zgq st) (zaj st) .none kV doc pm an cdv ct):=⟨⟨oc,od,kV,doc,pm,an,cdv,ct,osl,rfl,l,c⟩,k⟩
end
theorem zCm{A B:Prop}(h:B):if false=true then A else B:=by
 rw[if_neg cS];exact h
theorem zCk{A B:Prop}(h:A):if true=true then A else B:=by
 rw[if_pos rfl];exact h
def Same (H H':Hp):Prop:=∀b o,H b=ae o→H' b=ae o
theorem Same.trans{H H1 H2:Hp}(a:Same H H1) (b:Same H1 H2):Same H H2:=λc o h=>b c o (a c o h)
section
variable {κ:Type} [DecidableEq κ]
noncomputable def zog (kvs:List (κ×V)) (k:κ):Option V:=(kvs.find? λkv=>decide (kv.1=k)).map (·.2)
noncomputable def zqa (kvs:List (κ×V)) (k:κ) (v:V):List (κ×V):=
 if(kvs.any λkv=>decide (kv.1=k))=true then kvs.map (λkv=>if kv.1=k then(kv.1,v) else kv) else kvs++[(k,v)]
theorem zhn{p:κ×V}{r:List (κ×V)}{k:κ}(e:p.1=k):zog (p::r) k=ae p.2:=by simp [zog,bW,e]
theorem zhb{p:κ×V}{r:List (κ×V)}{k:κ}(e:¬p.1=k):zog (p::r) k=zog r k:=by simp [zog,bW,e]
theorem znZ (k:κ):∀kvs:List (κ×V),(kvs.any λkv=>decide (kv.1=k))=(zog kvs k).isSome
 | []=>rfl
 |p::r=>by
  rw[eA];by_cases e:p.1=k
  ·simp only[zhn e,decide_eq_true e,Bool.true_or,Option.isSome_some]
  ·rw[zhb e,decide_eq_false e,jL];exact znZ k r
theorem zlI (kvs:List (κ×V)) (k:κ) (v:V):(zqa kvs k v).length≤kvs.length+1:=by
 unfold zqa;split
 ·rw[aq];omega
 ·rw[aY,aW,d6];omega
theorem RelO.isSome_eq{o:Option V}{u:Option Value}(r:RelO o u):o.isSome=u.isSome:=by
 cases o with
 |none=>cases u with
  |none=>rfl
  |some _=>exact(show False from r).elim
 |some _=>cases u with
  |none=>exact(show False from r).elim
  |some _=>rfl
theorem RelO.getD{o:Option V}{u:Option Value}{d:V}{d':Value}(r:RelO o u) (rd:RelV d d'):RelV (o.getD d) (u.getD d'):=by
 cases o with
 |none=>cases u with
  |none=>exact rd
  |some _=>exact(show False from r).elim
 |some _=>cases u with
  |none=>exact(show False from r).elim
  |some _=>exact r
theorem KV.val{kvs:List (κ×V)}{vs:List (κ×Value)}(r:KV kvs vs) (k:κ):RelO (zog kvs k) (eK vs k):=by
 unfold KV at r
 induction r with
 |nil=>exact dm
 | @cons p q ps qs h t ih=>
  obtain⟨h1,h2⟩:=h;by_cases e:p.1=k
  ·have e':q.1=k:=h1.symm.trans e;have b:eK (q::qs) k=ae q.2:=by simp [eK,bW,e']
   rw[zhn e,b];exact h2
  ·have e':¬q.1=k:=λz=>e (h1.trans z);have b:eK (q::qs) k=eK qs k:=by simp [eK,bW,e']
   rw[zhb e,b];exact ih
theorem KV.length{kvs:List (κ×V)}{vs:List (κ×Value)}(r:KV kvs vs):kvs.length=vs.length:=eU r
end
theorem zxx{P:aF}{w:aC}{k:Key}{u:Value}(r:RelV (kV k) u):(zbw P w).is k u=true:=by
 cases k with
 |inl i=>obtain⟨t,e⟩:=(show ∃t,u=fZ i t from r);subst e;exact zlS P w i t
 |inr x=>obtain⟨t,e⟩:=(show ∃t,u=eS x t from r);subst e;exact zmf P w x t
theorem zlf{P:aF}{w:aC}:∀{ks:List Key}{us:List Value},Vals (ks.map kV) us→ItemsAre (zbw P w) ks us
 | [],_,r=>by rw[dq]at r;cases r;exact .nil
 |k::ks,_,r=>by
  rw[az]at r;cases r with
  |cons h t=>exact .cons (zxx h) (zlf t)
noncomputable abbrev KT (H:Hp):List (List Key×V)→List (List Key×Addr×Value)→Prop:=aL λp q=>p.1=q.1∧H q.2.1=ae (.tup (p.1.map kV))∧RelV p.2 q.2.2
theorem KT.val{H:Hp}{kvs:List (List Key×V)}{xs:List (List Key×Addr×Value)}(r:KT H kvs xs) (k:List Key):RelO (zog kvs k) ((c5 xs k).map (·.2)):=by
 induction r with
 |nil=>exact dm
 | @cons p q ps qs h t ih=>
  obtain⟨h1,_,h2⟩:=h;by_cases e:p.1=k
  ·have e':q.1=k:=h1.symm.trans e;have b:c5 (q::qs) k=ae q.2:=by simp [c5,bW,e']
   rw[zhn e,b];exact h2
  ·have e':¬q.1=k:=λz=>e (h1.trans z);have b:c5 (q::qs) k=c5 qs k:=by simp [c5,bW,e']
   rw[zhb e,b];exact ih
theorem KT.repl{H:Hp}{kvs:List (List Key×V)}{xs:List (List Key×Addr×Value)}(r:KT H kvs xs) (k:List Key) {y:V}{u:Value}(ry:RelV y u) :
  KT H (kvs.map λkv=>if kv.1=k then(kv.1,y) else kv) (xs.map (putAt k u)):=by
 induction r with
 |nil=>exact .nil
 | @cons p q ps qs h t ih=>
  rw[az,az];refine .cons ?_ ih;obtain⟨h1,h2,h3⟩:=h;unfold putAt;by_cases e:p.1=k
  ·rw[if_pos e,if_pos (h1.symm.trans e)];exact⟨h1,h2,ry⟩
  ·rw[if_neg e,if_neg (λz=>e (h1.trans z))];exact⟨h1,h2,h3⟩
theorem KT.put{H:Hp}{kvs:List (List Key×V)}{xs:List (List Key×Addr×Value)}(r:KT H kvs xs) (k:List Key) {b:Addr}{y:V}{u:Value}(hb:H b=ae (.tup (k.map kV))) (ry:RelV y u) :
  KT H (zqa kvs k y) (fh xs k b u):=by
 have e:(kvs.any λkv=>decide (kv.1=k))=(c5 xs k).isSome:=by
  rw[znZ,(r.val k).isSome_eq,gY]
 unfold zqa fh;rw[e];by_cases q:(c5 xs k).isSome=true
 ·rw[if_pos q,if_pos q];exact r.repl k ry
 ·rw[if_neg q,if_neg q];exact aL.snoc r ⟨rfl,hb,ry⟩
theorem KT.keeps{H H':Hp}{kvs:List (List Key×V)}{xs:List (List Key×Addr×Value)}(r:KT H kvs xs) (ht:∀b ys,H b=ae (.tup ys)→H' b=ae (.tup ys)):KT H' kvs xs:=
 Paired.mapP r λ_ _ z=>⟨z.1,ht _ _ z.2.1,z.2.2⟩
section
variable {P:aF}{w:aC}{H:Hp}{h:Heap}{a:Addr}
theorem zyE{u:HO}(ok:HOk P w H h) (e:Rd H a u):ObjOk P w H h a u:=e.ok ok
theorem zBu{kvs:List (Key×V)}(ok:HOk P w H h) (e:Rd H a (.dK kvs)):kvs.length≤sizeLine∧(a == dY)=false∧ ∃vs,KV kvs vs∧h.DictOf (zbw P w) a vs:=
 show ObjOk P w H h a (.dK kvs) from zyE ok e
theorem zrH{ks:List Key}(ok:HOk P w H h) (e:H a=ae (.tup (ks.map kV))):(ci (zbw P w)).is h ks a:=by
 obtain⟨_,its,r,o,h1,h2,n,h3⟩:=(show ObjOk P w H h a (.tup (ks.map kV)) from ok a _ e);exact⟨o,its.toArray,n,h1,h2,h3,by simpa using zlf r⟩
theorem zAr{kvs:List (List Key×V)}(ok:HOk P w H h) (e:Rd H a (.dT kvs)):kvs.length≤sizeLine∧(a == dY)=false∧
  ∃xs,KT H kvs xs∧h.DictOfH (ci (zbw P w)) a xs:=by
 obtain⟨z,y,xs,r,o,es,ep,h1,h2,h3,h4,h5⟩:=(show ObjOk P w H h a (.dT kvs) from zyE ok e);refine⟨z,y,xs,r,o,es,ep,h1,h2,h3,h4,λx hx=>?_,h5⟩;have all:∀{l:List (List Key×V)}{m:List (List Key×Addr×Value)},KT H l m→ ∀x∈m,(ci (zbw P w)).is h x.1 x.2.1:=by
  intro l m q
  induction q with
  |nil=>intro x hx;exact nomatch hx
  | @cons p q ps qs hq t ih=>
   intro x hx;rcases av.mp hx with e |hx
   ·subst e;exact zrH ok (by rw[←hq.1];exact hq.2.1)
   ·exact ih x hx
 exact all r x hx
end
def DGet (H:Hp) (a:Addr) (y:V) (r:Option V):Prop:=
 (∃kvs k,Rd H a (.dK kvs)∧y=kV k∧r=zog kvs k)∨ ∃kvs k b,Rd H a (.dT kvs)∧y= .ref b∧H b=ae (.tup (k.map kV))∧r=zog kvs k
theorem DGet.t{H:Hp}{a b:Addr}{kvs:List (List Key×V)}{k:List Key}(e:H a=ae (.dT kvs)) (eb:H b=ae (.tup (k.map kV))):DGet H a (.ref b) (zog kvs k):= .inr ⟨kvs,k,b, .inl e,rfl,eb,rfl⟩
section
variable {X:Cx}{pins:List (Addr×Obj)}{σ:St}{H:Hp}{s:ag}{a:Addr}{y:V}{u:Value}{o:Option V}{A:aM}{E:Value→ag→Prop}
theorem Inv.big (I:Inv X pins σ H s):dY<s.heap.objs.size:=by
 have h:aK<s.heap.objs.size:=(I.mod.glob.keeps I.bk).lt;exact Nat.lt_trans (by decide) h
theorem zBW{Q:Value→ag→Prop}(hu:A.units+1<cLine) (I:Inv X pins σ H s) (g:DGet H a y o) (ry:RelV y u) (h:∀s',Inv X pins σ H s'→Q (.bool o.isSome) s') :
  am (ap X.prog X.w) A (bp .In u (.ref a)) Q E s:=by
 rcases g with⟨kvs,k,e,ey,l⟩ |⟨kvs,k,b,e,ey,eb,l⟩
 ·subst ey;obtain⟨z,hd,vs,rel,dd⟩:=zBu I.hok e;refine wpAny_in_of (zxx ry) hd dd.mapOf ?_;rw[←(rel.val k).isSome_eq,←l];exact h _ (I.tok _)
 ·subst ey;cases(show u=bx b from ry);obtain⟨z,hd,xs,rel,dd⟩:=zAr I.hok e;refine wpAny_in_heap (jr hu) (zrH I.hok eb) hd dd ?_;have q:=(rel.val k).isSome_eq;rw[gY]at q;rw[←q,←l];exact h _ (I.tok _)
end
end L2
namespace Att
open PySem PySem.W PySem.Calls PyProof.Rows
end Att
namespace L2
open PySem PySem.Spec PyProof.Rows
section
variable {prog:aF}{w:aC}{A:aM}{R:fI→ag→Prop}{s:ag}
theorem zkA{elt target iter:Expr}{ifs:List Expr}{scope:Scope}{pos:aB}{it acc:Value}{env:bA}(I:Nat→ag→Prop)
  (turn:∀n s,I n s→am (ap prog w) A (bM it) (λr s₁=>match r with
   |none=>R (.ok .next) s₁
   |some v=>am (ap prog w) A (gA target it v) (λ_ s₀=>am (ap prog w) A (assign target env v) (λ_ s₂=>
     am (ap prog w) A (forIn ifs true λc r=>if r=true then do let ok ←isTrue c env (ax c env);pure (dJ ok) else pure (dJ r)) (λok s₃=>
      if ok=true then am (ap prog w) A (ax elt env) (λx s₄=>
       am (ap prog w) A (call (.builtin "list.append") [acc,x]) (λ_ s₅=>∃m,m<n∧I m s₅) (λ_ _=>False) s₄) (λ_ _=>False) s₃
      else ∃m,m<n∧I m s₃) (λ_ _=>False) s₂) (λ_ _=>False) s₀) (λ_ _=>False) s₁) (λ_ _=>False) s)
  (n:Nat) (h:I n s) :
  cM (ap prog w) A (.compLoop (.ListComp elt [⟨target,iter,ifs,0⟩] scope pos) 0 it acc env) R s:=by
 refine codeAny_loop rfl I (λn s hI=>?_) n h;show am _ A ((compTurn (.ListComp elt [⟨target,iter,ifs,0⟩] scope pos) 0 it acc env).onRaise (λx=>do iM x env;theTreesLotGoes x)) _ _ s;refine wpAny_noted ?_;rw[compTurn_list];refine ai (wpAny_standAt (ai (bX (turn n s hI) (λr s₁ h₁=>?_) λ_ _ h'=>h'.elim)));cases r with
 |none=>exact aD h₁
 |some v=>
  refine ai (bX h₁ (λ_ s₀ h₀=>?_) λ_ _ h'=>h'.elim);refine ai (bX h₀ (λ_ s₂ h₂=>ai (bX h₂ (λok s₃ h₃=>?_) λ_ _ h'=>h'.elim)) λ_ _ h'=>h'.elim);cases ok with
  |false=>exact aD ⟨rfl,h₃⟩
  |true=>
   exact ai (ai (bX h₃ (λx s₄ h₄=>ai (bX h₄ (λ_ s₅ h₅=>aD (aD ⟨rfl,h₅⟩)) λ_ _ h'=>h'.elim)) λ_ _ h'=>h'.elim))
end
noncomputable def zio (cells:List (Str×Addr)):List (Str×bT)→List (Str×Addr)→List (Str×Addr)
 | [],acc=>acc
 | (n,k)::r,acc=>if(k == aV)=true then zio cells r ((n,(cells.lookup n).getD 0)::acc) else zio cells r acc
theorem zpk{scope:Scope}{env:bA}(h:∀y∈scope.names,y.2= .free→ ∃c,env.cells.lookup y.1=ae c) :
  closureFor scope env=pure (zio env.cells scope.names []):=by
 have go:∀(l:List (Str×bT)) (acc:List (Str×Addr)),(∀y∈l,y.2= .free→ ∃c,env.cells.lookup y.1=ae c)→
   (forIn l acc λ(x:Str×bT) (cs:List (Str×Addr))=>(if(x.2 == aV)=true then(do let a ←cellOf env x.1;pure (dJ ((x.1,a)::cs))) else pure (dJ cs):b4 (ForInStep (List (Str×Addr)))))=(pure (zio env.cells l acc):b4 (List (Str×Addr))):=by
  intro l
  induction l with
  |nil=>intro acc _;rfl
  |cons x l ih=>
   intro acc hl;obtain⟨n,k⟩:=x;have hr:=λy hy=>hl y (aG _ hy);rw[gP];by_cases hk:k= .free
   ·subst hk;obtain⟨c,hc⟩:=hl (n, .free) aO rfl;have hc':env.cells.lookup n=ae c:=hc;have e:cellOf env n=pure c:=by unfold cellOf;rw[hc']
    have e2:zio env.cells ((n,aV)::l) acc=zio env.cells l ((n,c)::acc):=by
     show(if(aV == aV)=true then zio env.cells l ((n,(env.cells.lookup n).getD 0)::acc) else zio env.cells l acc)=_;rw[if_pos (by rfl),hc'];rfl
    dsimp only;rw[if_pos (by rfl),e,fN,fN,e2];exact ih _ hr
   ·have hb:¬(k == aV)=true:=by simpa using hk
    have e2:zio env.cells ((n,k)::l) acc=zio env.cells l acc:=by
     show(if(k == aV)=true then zio env.cells l ((n,(env.cells.lookup n).getD 0)::acc) else zio env.cells l acc)=_;rw[if_neg hb]
    dsimp only;rw[if_neg hb,fN,e2];exact ih _ hr
 have q:=go scope.names [] h;unfold closureFor
 first
  |exact(bind_pure _).trans q
  | (simp only[bind_pure];exact q)
  | (simp only[fN,bind_assoc,bind_pure];exact q)
theorem zja{cells:List (Str×Addr)}{x:Str}{c:Addr}:∀(l:List (Str×bT)) (acc:List (Str×Addr)),(∀y∈l,y.2= .free→ ∃c,cells.lookup y.1=ae c)→
  (zio cells l acc).lookup x=ae c→acc.lookup x=ae c∨cells.lookup x=ae c
 | [],acc,_,h=> .inl h
 | (n,k)::r,acc,hl,h=>by
  have hr:=λy hy=>hl y (aG (n,k) hy);by_cases hk:k= .free
  ·subst hk;have h':(zio cells r ((n,(cells.lookup n).getD 0)::acc)).lookup x=ae c:=h;rcases zja r _ hr h' with q |q
   ·rw[b8]at q;cases e:x == n with
    |true=>
     rw[e]at q;obtain⟨d,hd⟩:=hl (n, .free) aO rfl;have hd':cells.lookup n=ae d:=hd;have e1:x=n:=gw e;rw[hd']at q;have q':d=c:=aE q;exact .inr (by rw[e1,hd',q'])
    |false=>
     rw[e]at q;exact .inl q
   ·exact .inr q
  ·have hb:¬(k == aV)=true:=by simpa using hk
   have h':(if(k == aV)=true then zio cells r ((n,(cells.lookup n).getD 0)::acc) else zio cells r acc).lookup x=ae c:=h;rw[if_neg hb]at h';exact zja r acc hr h'
theorem zhg{cells:List (Str×Addr)}{x:Str}:∀(l:List (Str×bT)) (acc:List (Str×Addr)),((x,aV)∈l∨ ∃c,acc.lookup x=ae c)→ ∃c,(zio cells l acc).lookup x=ae c
 | [],acc,h=>by
  rcases h with h |h
  ·cases h
  ·exact h
 | (n,k)::r,acc,h=>by
  by_cases hk:k= .free
  ·subst hk;refine zhg r ((n,(cells.lookup n).getD 0)::acc) ?_;cases e:x == n with
   |true=>exact .inr ⟨_,by rw[b8,e]⟩
   |false=>
    rcases h with h |⟨c,h⟩
    ·rcases av.mp h with q |q
     ·have:x=n:=congrArg Prod.fst q;rw[this]at e;simp at e
     ·exact .inl q
    ·exact .inr ⟨c,by rw[b8,e];exact h⟩
  ·have hb:¬(k == aV)=true:=by simpa using hk
   show ∃c,(if(k == aV)=true then zio cells r ((n,(cells.lookup n).getD 0)::acc) else zio cells r acc).lookup x=ae c;rw[if_neg hb];refine zhg r acc ?_;rcases h with h |h
   ·rcases av.mp h with q |q
    ·exact absurd (congrArg gD q).symm hk
    ·exact .inl q
   ·exact .inr h
theorem zdL{env:bA}{x:Str}{k:bT}:∀{names:List (Str×bT)},(∀y∈names,y.2≠ .cell)→
  (names.map λ(n,k)=>if(k == aV&&env.scope.kind == .function&&env.kindOf n == ae .cell) then(n,cg) else(n,k)).lookup x=ae k→(k= .cell∨k= .free)→(x,aV)∈names
 | [],_,h,_=>by simp at h
 | (n,j)::r,hc,h,hk=>by
  have h':gQ x ((if(j == aV&&env.scope.kind == .function&&env.kindOf n == ae .cell)=true then(n,cg) else(n,j)) ::
   (r.map λ(n,k)=>if(k == aV&&env.scope.kind == .function&&env.kindOf n == ae .cell) then(n,cg) else(n,k)))=ae k:=h
  have hr:=λy hy=>hc y (aG (n,j) hy);have hj:j≠ .cell:=hc (n,j) aO;cases e:x == n with
  |true=>
   have e1:x=n:=gw e;subst e1;by_cases c:(j == aV&&env.scope.kind == .function&&env.kindOf x == ae .cell)=true
   ·have c1:(j == aV)=true:=by
     cases q:(j == aV) with
     |true=>rfl
     |false=>rw[q]at c;simp at c
    have c2:j= .free:=by simpa using c1
    rw[c2];exact aO
   ·rw[if_neg c]at h';simp only[b8,beq_self_eq_true]at h';have h2:j=k:=aE h';rcases hk with z |z
    ·exact absurd (h2.trans z) hj
    ·rw[h2,z];exact aO
  |false=>
   by_cases c:(j == aV&&env.scope.kind == .function&&env.kindOf n == ae .cell)=true
   ·rw[if_pos c]at h';simp only[b8,e]at h';exact aG _ (zdL hr h' hk)
   ·rw[if_neg c]at h';simp only[b8,e]at h';exact aG _ (zdL hr h' hk)
theorem zeM{env:bA}{x:Str}:∀{names:List (Str×bT)},names.lookup x=ae .free→
  (names.map λ(n,k)=>if(k == aV&&env.scope.kind == .function&&env.kindOf n == ae .cell) then(n,cg) else(n,k)).lookup x=ae .cell∨
  (names.map λ(n,k)=>if(k == aV&&env.scope.kind == .function&&env.kindOf n == ae .cell) then(n,cg) else(n,k)).lookup x=ae .free
 | [],h=>by simp at h
 | (n,j)::r,h=>by
  show gQ x ((if(j == aV&&env.scope.kind == .function&&env.kindOf n == ae .cell)=true then(n,cg) else(n,j)) ::
   (r.map λ(n,k)=>if(k == aV&&env.scope.kind == .function&&env.kindOf n == ae .cell) then(n,cg) else(n,k)))=_∨
   gQ x ((if(j == aV&&env.scope.kind == .function&&env.kindOf n == ae .cell)=true then(n,cg) else(n,j)) ::
   (r.map λ(n,k)=>if(k == aV&&env.scope.kind == .function&&env.kindOf n == ae .cell) then(n,cg) else(n,k)))=_
  cases e:x == n with
  |true=>
   simp only[b8,e]at h;have h2:j= .free:=aE h;subst h2;by_cases c:(aV == aV&&env.scope.kind == .function&&env.kindOf n == ae .cell)=true
   ·rw[if_pos c];simp only[b8,e];exact .inl trivial
   ·rw[if_neg c];simp only[b8,e];exact .inr trivial
  |false=>
   simp only[b8,e]at h;by_cases c:(j == aV&&env.scope.kind == .function&&env.kindOf n == ae .cell)=true
   ·rw[if_pos c];simp only[b8,e];exact zeM h
   ·rw[if_neg c];simp only[b8,e];exact zeM h
noncomputable def zbB (X:Cx) (scope:Scope) (N:List Str) (s:ag) (H:Hp) (fp:List Addr) (pins:List (Addr×Obj)):Cx:=
 { X with N:=N,s₀:=s,H₀:=H,env:=compEnvC scope (zio X.env.cells scope.names []) s.heap.objs.size X.env,outer:=X.stack,stack:=X.stack,ex:=fp,fn:=λ_=>false,pn:=X.pn++pins,xe:=λ_ _=>False }
structure CompSc (X:Cx) (scope:Scope) (N:List Str) (k:Nat) (fr:List Nat):Prop where
  kind:scope.kind= .function
  nd:N.Nodup
  len:N.length=k+fr.length
  cell:(scope.names.all λy=>y.2 != cg)=true
  loc:(scope.names.all λy=>y.2 != bT.local || scope.names.lookup y.1 == ae bT.local)=true
  free:(scope.names.all λy=>y.2 != aV || X.env.kindOf y.1 == ae cg || X.env.kindOf y.1 == ae aV)=true
  frs:((N.drop k).all λx=>scope.names.lookup x == ae aV)=true
  pl:N.drop k=fr.map λj=>X.N.getD j h_
  plen:(fr.all λj=>decide (j<X.N.length))=true
noncomputable def zhs (σ:St) (fr:List Nat):St:=fr.map λj=>(σ[j]?).join
noncomputable def znx (σ:St) (k:Nat) (fr:List Nat):St:=aN k none++zhs σ fr
section
variable {X:Cx}{scope:Scope}{N:List Str}{k:Nat}{fr:List Nat}
theorem CompSc.cell' (S:CompSc X scope N k fr):∀y∈scope.names,y.2≠ .cell:=λy hy=>by
 have q:=cX.mp S.cell y hy;simpa using q
theorem CompSc.loc' (S:CompSc X scope N k fr):∀y∈scope.names,y.2= .local→scope.names.lookup y.1=ae .local:=λy hy e=>by
 have q:=cX.mp S.loc y hy;rw[e]at q;simpa using q
theorem CompSc.kinds (S:CompSc X scope N k fr):∀y∈scope.names,y.2= .free→X.env.kindOf y.1=ae .cell∨X.env.kindOf y.1=ae .free:=λy hy e=>by
 have q:=cX.mp S.free y hy;rw[e]at q;simpa using q
theorem CompSc.hasCell (S:CompSc X scope N k fr) (ok:X.Ok):∀y∈scope.names,y.2= .free→ ∃c,X.env.cells.lookup y.1=ae c:=λy hy e=>ok.has y.1 (S.kinds y hy e)
theorem CompSc.sub (S:CompSc X scope N k fr) (ok:X.Ok) {x:Str}{c:Addr}(h:(zio X.env.cells scope.names []).lookup x=ae c):X.env.cells.lookup x=ae c:=by
 rcases zja scope.names [] (S.hasCell ok) h with q |q
 ·simp at q
 ·exact q
end
section
variable {X:Cx}{pins:List (Addr×Obj)}{σ:St}{H:Hp}{s:ag}{scope:Scope}{N:List Str}{k:Nat}{fr:List Nat}{fp:List Addr}
theorem zwU (I:Inv X pins σ H s) (S:CompSc X scope N k fr) (hfp:∀b∈fp,zjR X pins H b) (hob:∀b∈fp,∃o,s.heap.get? b=ae o):(zbB X scope N s H fp pins).Ok where
  mod:=I.ok.mod
  kind:=S.kind
  glob:=I.ok.glob
  blt:=I.ok.blt
  above:=au _
  inj:=λx y c h1 h2=>I.ok.inj x y c (S.sub I.ok h1) (S.sub I.ok h2)
  has:=λx hx=>zhg scope.names [] (.inl (by
    rcases hx with hx |hx
    · exact zdL S.cell' hx (.inl rfl)
    · exact zdL S.cell' hx (.inr rfl)))
  cab:=λx c h _=>absurd h (by show ¬(false=true);decide)
  hd:=I.ok.hd
  frames:=I.ok.frames
  stk:= .inl rfl
  exf:=λb hb=>⟨by
    obtain⟨o,e⟩:=hob b hb;exact bu (aI e),λx c h=>(hfp b hb).2.2.2.2.1 x c (S.sub I.ok h)⟩
  bs:=I.bs
  bsz:=bi I.ok.bsz I.sz
  noex:=λb o e hb=>by
    rcases(hfp b hb).2.2.2.1 with z |z
    · exact I.ok.noex b o e z
    · exact absurd (bK (aI (I.ok.bs b o e).1) z) (b5 _)
  exfs:=λb hb z=>by
    rcases av.mp (I.stkSub b z) with q |q
    · exact(hfp b hb).2.1 q
    · exact(hfp b hb).2.2.1 q
  funs:=I.stack
  frf:=I.stkFree
theorem zwV (I:Inv X pins σ H s) (S:CompSc X scope N k fr) {H':Hp}{b:Addr}(hb:b∈fp) (hf:zjR X pins H b) (hob:∃o,s.heap.get? b=ae o) (hn:H' b=none):zjR (zbB X scope N s H fp pins) [] H' b:=by
 refine⟨hn,?_,λz=>?_, .inl hb,λx c h=>hf.2.2.2.2.1 x c (S.sub I.ok h),λp hp=>?_⟩
 ·obtain⟨o,e⟩:=hob;exact bu (aI e)
 ·rcases av.mp (I.stkSub b z) with q |q
  ·exact hf.2.1 q
  ·exact hf.2.2.1 q
 ·rcases bh.mp hp with z |z
  ·exact hf.2.2.2.2.2 p z
  ·cases z
theorem zpx{j:Nat}{v:V}(h:(zhs σ fr)[j]? =ae (ae v)):∃i,fr[j]? =ae i∧σ[i]? =ae (ae v):=by
 unfold zhs at h;rw[bv]at h;cases e:fr[j]? with
 |none=>rw[e]at h;cases h
 |some i=>
  rw[e]at h;have h':(σ[i]?).join=ae v:=aE h;refine⟨i,rfl,?_⟩;cases q:σ[i]? with
  |none=>rw[q]at h';cases h'
  |some o=>
   rw[q]at h';have h2:o=ae v:=h';rw[h2]
theorem ztg (I:Inv X pins σ H s) (S:CompSc X scope N k fr) (hfp:∀b∈fp,zjR X pins H b) (hob:∀b∈fp,∃o,s.heap.get? b=ae o) {h1:Heap}{tk:Nat}{m:Str→Option Value}
    (hns:h1.Ns s.heap.objs.size m) (hk:∀b o,s.heap.get? b=ae o→h1.get? b=ae o):Inv (zbB X scope N s H fp pins) [] (znx σ k fr) H { s with heap:=h1,toks:=tk } where
  ok:=zwU I S hfp hob
  os:=rfl
  bare:=I.bare
  base:=Un.kept hk
  loc:=⟨m,hns,λi x v e1 e2 e3=>by
    have e2':(aN k (none:Option V)++zhs σ fr)[i]? =ae (ae v):=e2;have hi:k≤i:=by
      refine jE λz=>?_;rw[jJ (by simpa using z),i0]at e2';split at e2'<;>cases e2'
    rw[iF (by simpa using hi),iw]at e2';obtain⟨j,f1,f2⟩:=zpx e2';have e1':N[i]? =ae x:=e1;have d1:(N.drop k)[i - k]? =ae x:=by
      rw[jP];have:k+(i - k)=i:=by omega
      rw[this];exact e1'
    have d2:=d1;rw[S.pl,bv,f1]at d2;have d3:X.N.getD j h_=x:=aE d2;have jl:j<X.N.length:=of_decide_eq_true (cX.mp S.plen j (bE f1));have d4:X.N[j]? =ae x:=by
      rw[bt,aQ jl]at d3;rw[aQ jl];exact congrArg ae d3
    have fk:scope.names.lookup x=ae .free:=by
      have q:=cX.mp S.frs x (bE d1);simpa using q
    have hmem:(x,aV)∈scope.names:=eF fk;have kd:=S.kinds _ hmem rfl;have vis:Vis X.env.scope x:=by
      rcases kd with z |z
      · exact .inr (.inl z)
      · exact .inr (.inr z)
    obtain⟨m0,_,hl⟩:=I.loc;obtain⟨u,ru,lk⟩:=hl j x v d4 f2 vis;refine⟨u,ru, .inr ⟨zeM fk,?_⟩⟩;have kd':X.env.kindOf x=ae .cell∨X.env.kindOf x=ae .free:=kd;rcases lk with⟨z,_⟩ |⟨_,c,hc,hcell⟩
    · rcases kd' with q |q<;>(rw[z]at q;cases q)
    · obtain⟨c',hc'⟩:=zhg (cells:=X.env.cells) scope.names [] (.inl hmem);have e:=S.sub I.ok hc';rw[hc]at e;cases e;exact⟨c,hc',hcell.keeps hk⟩⟩
  cell:=λx c h=>by
    obtain⟨v,z⟩:=I.cell x c (S.sub I.ok h);exact⟨v,z.keeps hk⟩
  free:=I.hok.fresh (au _)
  freeC:=λx c h=>I.freeC x c (S.sub I.ok h)
  pin:=λp hp=>by
    have hp':p∈X.pn++pins:=by
      rcases bh.mp hp with z |z
      · exact z
      · cases z
    obtain⟨e,n,ne,nf,d⟩:=I.pin p hp';refine⟨hk _ _ e,n,bu (aI e),λz=>?_,d⟩;rcases av.mp (I.stkSub p.1 z) with q |q
    · exact ne q
    · exact nf q
  hok:=I.hok.kept hk
  len:=by
    show(aN k (none:Option V)++zhs σ fr).length=N.length;rw[aY,iw,S.len];unfold zhs;rw[aq]
theorem zkD{σ':St}{H':Hp}{s':ag}{h':Heap}(I:Inv X pins σ H s) (hfp:∀b∈fp,zjR X pins H b) (J:Inv (zbB X scope N s H fp pins) [] σ' H' s') (sb:cf s.heap.objs.size s'.heap h'):Inv X pins σ H' { s' with heap:=h' }:=by
 have neC:∀b o,s.heap.get? b=ae o→b≠s.heap.objs.size:=λb o e=>bu (aI e);have frC:H' s.heap.objs.size=none:=J.free;refine Inv.call' (s':={ s' with heap:=h' }) (ch:=fp) I J.os ⟨λb o e n hf hx=>?_,λb o e n hf hx=>?_,λb o e n hx=>J.base.free b o e n hx,λb o e hx=>?_,J.base.tups,J.base.frzs,J.base.tbls⟩ (λb o e=>?_) J.bare λb hb=>⟨(hfp b hb).2.2.2.1,(hfp b hb).2.1,(hfp b hb).2.2.2.2.1,(hfp b hb).2.2.2.2.2⟩
 ·exact(sb.2 b (neC b o e)).trans (J.base.keep b o e n hf hx)
 ·obtain⟨sl,q⟩:=J.base.slot b o e n hf hx;exact⟨sl,(sb.2 b (neC b o e)).trans q⟩
 ·obtain⟨o',q⟩:=J.base.there b o e hx;exact⟨o',(sb.2 b (neC b o e)).trans q⟩
 ·refine(J.hok b o e).stay (λc v hc q=>(sb.2 c ?_).trans q) (λ_ q=>q) λ_ _ q=>q;rintro rfl;rcases hc with rfl |hc
  ·rw[frC]at e;cases e
  ·rw[frC]at hc;cases hc
end
def PTs (X:Cx) (ifs:List Expr) (t:TT):Prop:=
 ∀(pins:List (Addr×Obj)) (s:ag) (σ:St) (H:Hp) (Q:Bool→Hp→Prop),Inv X pins σ H s→t σ H Q→
  am (ap X.prog X.w) X.A (forIn ifs true λc r=>if r=true then do let ok ←isTrue c X.env (ax c X.env);pure (dJ ok) else pure (dJ r)) (TP X pins σ Q) X.xe s
noncomputable def zBY:TT:=λ_ H Q=>Q true H
theorem zvK{X:Cx}:PTs X [] zBY:=λ_ _ _ H _ I h=>wpAny_tests_nil ⟨H,I,h⟩
theorem zvA{X:Cx}{c:Expr}{t:TT}(h:PT X c t):PTs X [c] t:=λpins s σ H Q I q=>wpAny_tests_one (h pins s σ H Q I q)
def zAW (X:Cx) (scope:Scope) (N:List Str) (tg:Expr) (ifs:List Expr) (elt:Expr) (l:Addr) (x:V) (σ:St) (H:Hp) (M:St→Hp→Prop):Prop:=
 ∀(s₀:ag) (H₀:Hp) (fp:List Addr) (pn:List (Addr×Obj)),∃(g:TG) (tt:TT) (te:TE),PG (zbB X scope N s₀ H₀ fp pn) tg g∧PTs (zbB X scope N s₀ H₀ fp pn) ifs tt∧PE (zbB X scope N s₀ H₀ fp pn) elt te∧
  g x σ H λσ2 H2=>tt σ2 H2 λb H3=>if b=true then te σ2 H3 λy H4=>∃ys,H4 l=ae (.lst ys)∧ys.length<sizeLine∧M σ2 (upd H4 l (.lst (ys++[y]))) else M σ2 H3
def zxf (X:Cx) (scope:Scope) (N:List Str) (k:Nat) (fr:List Nat) (tg:Expr) (ifs:List Expr) (elt:Expr) (σ:St) (Q:VK) (J:It) (H1:Hp):Prop:=∀l,H1 l=none→
 ∃W:Nat→Nat→St→Hp→Prop,(∃m,W 0 m (znx σ k fr) (upd H1 l (.lst [])))∧ ∀i m σ' H',W i m σ' H'→
  (J.stop i H'∧Q (.ref l) H')∨(J.go i H'∧ ∃M:St→Hp→Prop,(∀σ'' H'',M σ'' H''→ ∃m',m'<m∧W (i+1) m' σ'' H'')∧ ∀x H2,J.yld i H' x H2→zAW X scope N tg ifs elt l x σ' H2 M)
noncomputable def zsU (X:Cx) (scope:Scope) (N:List Str) (k:Nat) (fr:List Nat) (tg:Expr) (ifs:List Expr) (elt:Expr) (wi:TI):TE:=λσ H Q=>wi σ H λJ H1=>zxf X scope N k fr tg ifs elt σ Q J H1
theorem zkV{X:Cx}{use:Option (Value→b4 Unit)}{Qf:Value→ag→Prop}{pins:List (Addr×Obj)}{s:ag}{σ:St}{H:Hp}{Q:VK}{scope:Scope}{N:List Str}{k:Nat}{fr:List Nat}{tg iter elt:Expr}{ifs:List Expr}{wi:TI}{pos:aB}(hx:X.xe=λ_ _=>False) (hc:X.calm=true) (S:CompSc X scope N k fr) (hi:PI X tg iter wi) (I:Inv X pins σ H s)
  (fin:∀{s3 s6:ag}{H3 H5:Hp}{fp:List Addr}{σ5:St}{l:Addr}{a:Flow},Inv X pins σ H3 s3→(∀b∈fp,zjR X pins H3 b)→Inv (zbB X scope N s3 H3 fp pins) [] σ5 H5 s6→Q (.ref l) H5→compPost (ap X.prog X.w) X.A X.xe use Qf (.ref l) s3.heap.objs.size (.ok a) s6)
  (h:zsU X scope N k fr tg ifs elt wi σ H Q)
  (hs:∀x,du iter X.env x=pure x:=by intro _;rfl):am (ap X.prog X.w) X.A (comprehension (.ListComp elt [⟨tg,iter,ifs,0⟩] scope pos) scope X.env (firstIterPos [⟨tg,iter,ifs,0⟩] pos) (newList []) (firstAsync [⟨tg,iter,ifs,0⟩]) (firstIter [⟨tg,iter,ifs,0⟩] X.env) use) Qf X.xe s:=by
 refine wpAny_comprehension_free (use:=use) rfl hs (zpk (S.hasCell I.ok)) S.kind S.loc' (thn (hi pins s σ H _ I h) λv s1 h1=>thn h1 λitv s2 h2=>?_);obtain⟨it,fp,tn,J,H2,e,I2,T,st2,f2,h2⟩:=h2;subst e;have fr2:H2 s2.heap.objs.size=none:=I2.hok.fresh (au _);obtain⟨W,⟨m0,w0⟩,turn⟩:=h2 s2.heap.objs.size fr2;refine wpAny_newList ?_ (by show 0≤sizeLine;exact aZ _);have I3:Inv X pins σ (upd H2 s2.heap.objs.size (.lst [])) { s2 with heap:=s2.heap.push { cls:= .type "list",data:= .seq ([]:List Value).toArray } }:=I2.lnew (t':=s2.toks) (ys:=[]) .nil (aZ _);have old:∀b o,s2.heap.get? b=ae o→(s2.heap.push { cls:= .type "list",data:= .seq ([]:List Value).toArray }).get? b=ae o:=λb o e=>aH _ e;have fpo2:∀b∈fp,∃o,s2.heap.get? b=ae o:=λb hb=>by
  obtain⟨o,e,_⟩:=T.obj _ _ st2 b hb;exact⟨o,e⟩
 have fpo:∀b∈fp,∃o,(s2.heap.push { cls:= .type "list",data:= .seq ([]:List Value).toArray }).get? b=ae o:=λb hb=>by
  obtain⟨o,e⟩:=fpo2 b hb;exact⟨o,old b o e⟩
 have f3:∀b∈fp,zjR X pins (upd H2 s2.heap.objs.size (.lst [])) b:=λb hb=>by
  obtain⟨o,e⟩:=fpo2 b hb;refine⟨?_,(f2 b hb).2⟩;rw[zax (bu (aI e))];exact(f2 b hb).1
 generalize hs3:({ s2 with heap:=s2.heap.push { cls:= .type "list",data:= .seq ([]:List Value).toArray } }:ag)=s3 at I3⊢;have st3:tn 0 s3.heap:=by
  rw[←hs3];exact T.keep _ _ _ st2 λb _ o e=>old b o e
 have fpo3:∀b∈fp,∃o,s3.heap.get? b=ae o:=by rw[←hs3];exact fpo
 clear fpo old hs3;refine wpAny_newFunctionEnv S.cell' (by intro y hy;simp at hy) (λh1 hns1 hsb1=>?_) S.kind;have hk1:∀b o,s3.heap.get? b=ae o→h1.get? b=ae o:=λb o e=>hsb1.extBut b o (bu (aI e)) (aH _ e);have I4:=ztg (tk:=s3.toks+([]:List (Str×Value)).length) I3 S f3 fpo3 hns1 hk1;have st4:tn 0 h1:=T.keep _ _ _ st3 λb _ o e=>hk1 b o e;have stat:∀{H':Hp},(∀b∈fp,H' b=none)→ ∀b∈fp,zjR (zbB X scope N s3 (upd H2 s2.heap.objs.size (.lst [])) fp pins) [] H' b:=λhn b hb=>zwV I3 S hb (f3 b hb) (fpo3 b hb) (hn b hb);have loop:∀s4:ag,s4={ s3 with heap:=h1,toks:=s3.toks+([]:List (Str×Value)).length }→
   cM (ap X.prog X.w) X.A (.compLoop (.ListComp elt [⟨tg,iter,ifs,0⟩] scope pos) 0 (.ref it) (.ref s2.heap.objs.size) (compEnvC scope (zio X.env.cells scope.names []) s3.heap.objs.size X.env))
    (compPost (ap X.prog X.w) X.A X.xe use Qf (.ref s2.heap.objs.size) s3.heap.objs.size) s4:=by
  rintro s4 rfl;refine zkA (λn s'=>∃i σ' H',Inv (zbB X scope N s3 (upd H2 s2.heap.objs.size (.lst [])) fp pins) [] σ' H' s'∧tn i s'.heap∧(∀b∈fp,H' b=none)∧W i n σ' H') ?_ m0 ⟨0,_,_,I4,st4,λb hb=>(f3 b hb).1,w0⟩;rintro n s5 ⟨i,σ5,H5,I5,st5,fr5,w5⟩;rcases turn i n σ5 H5 w5 with⟨stop,qn⟩ |⟨go,M,hM,step⟩
  ·refine thn (T.done (zbB X scope N s3 (upd H2 s2.heap.objs.size (.lst [])) fp pins) rfl rfl rfl hc i [] s5 σ5 H5 _ I5 (stat fr5) st5 stop) λr s6 ⟨hr,I6⟩=>?_;subst hr;exact fin I3 f3 I6 qn
  ·refine thn (T.item (zbB X scope N s3 (upd H2 s2.heap.objs.size (.lst [])) fp pins) rfl rfl rfl hc i [] s5 σ5 H5 _ I5 (stat fr5) st5 go) λr s6 ⟨u,hr,h6⟩=>?_;subst hr;refine thn h6 λ_ s7 ⟨x,H7,I7,r7,y7,st7,fr7⟩=>?_;have I7':=I7.pinned (stat fr7) (T.obj _ _ st7);obtain⟨g,tt,te,hg,ht,he,q⟩:=step x H7 y7 s3 (upd H2 s2.heap.objs.size (.lst [])) fp pins;have again:∀{s8:ag}{σ8:St}{H8:Hp},Inv (zbB X scope N s3 (upd H2 s2.heap.objs.size (.lst [])) fp pins) ([]++zkW fp s7.heap) σ8 H8 s8→M σ8 H8→
     ∃m,m<n∧ ∃i σ' H',Inv (zbB X scope N s3 (upd H2 s2.heap.objs.size (.lst [])) fp pins) [] σ' H' s8∧tn i s8.heap∧(∀b∈fp,H' b=none)∧W i m σ' H':=λ{s8 σ8 H8} I8 n8=>by
    obtain⟨m',hm,w8⟩:=hM σ8 H8 n8;refine⟨m',hm,i+1,σ8,H8,I8.unpinned,T.keep _ _ _ st7 λb hb o e=>(I8.pin (b,o) (cm _ (cm _ (zeT hb e)))).1,λb hb=>?_,w8⟩;obtain⟨o,e,d⟩:=T.obj _ _ st7 b hb;exact(I8.pin (b,o) (cm _ (cm _ (zeT hb e)))).2.1
   refine thn (hg _ s7 σ5 H7 x u _ I7' r7 q) λ_ s8 ⟨σ8,H8,I8,q8⟩=>?_;refine thn (ht _ s8 σ8 H8 _ I8 q8) λb s9 ⟨H9,I9,q9⟩=>?_;cases b with
   |false=>exact again I9 q9
   |true=>
    refine thn (he _ s9 σ8 H9 _ I9 q9) λy s10 ⟨yv,H10,I10,r10,ys,hl,hz,qM⟩=>?_;exact thn (zlB _ s10 σ8 H10 (.ref s2.heap.objs.size) [yv] (.ref s2.heap.objs.size) [y] (λ_ H'=>M σ8 H') I10 rfl (.cons r10 .nil) ⟨_,ys,yv,rfl,rfl,hl,hz,qM⟩) λ_ s11 ⟨_,H11,I11,_,q11⟩=>again I11 q11
 exact codeAny_compStart_list (loop _ rfl) (T.self _ 0 _ _ _ st4 (loop _ rfl))
theorem zwK{X:Cx}{scope:Scope}{N:List Str}{k:Nat}{fr:List Nat}{tg iter elt:Expr}{ifs:List Expr}{wi:TI}{pos:aB}(hx:X.xe=λ_ _=>False) (hc:X.calm=true) (S:CompSc X scope N k fr) (hi:PI X tg iter wi)
  (hs:∀x,du iter X.env x=pure x:=by intro _;rfl):PE X (.ListComp elt [⟨tg,iter,ifs,0⟩] scope pos) (zsU X scope N k fr tg ifs elt wi):=by
 intro pins s σ H Q I h;rw[eval_ListComp];refine zkV hx hc S hi I (λ{s3 s6 H3 H5 fp σ5 l a} I3 f3 I6 qn=>?_) h hs;obtain⟨m6,ns6,_⟩:=I6.loc;exact⟨m6,ns6,λh' sb=>⟨.ref l,H5,zkD I3 f3 I6 sb,rfl,qn⟩⟩
theorem zvc{X:Cx}{scope:Scope}{N:List Str}{k:Nat}{fr:List Nat}{tg iter elt:Expr}{ifs:List Expr}{wi:TI}{pos spos pos':aB}{i:Nat}{x:Str}(hx:X.xe=λ_ _=>False) (hc:X.calm=true) (S:CompSc X scope N k fr) (hi:PI X tg iter wi)
  (hN:X.N.Nodup) (hxi:X.N[i]? =ae x) (hxl:Loc X.env.scope x) (hw:dE (.ListComp elt [⟨tg,iter,ifs,0⟩] scope pos) (ae (.Name x pos')) spos.line X.env=pure true) (hf:X.fn x=true∨X.env.scope.names.lookup x=ae .local)
  (hs:∀x,du iter X.env x=pure x:=by intro _;rfl):PS X (.Assign [.Name x pos'] (.ListComp elt [⟨tg,iter,ifs,0⟩] scope pos) spos) (zBo (zsU X scope N k fr tg ifs elt wi) (zvv i)):=by
 intro pins s σ H D I h;rw[exec_Assign_Name_used x pos' _ spos hw];refine ai (wpAny_standAt (ai ?_));rw[arm_evalThenUse_ListComp];refine ai ?_;refine zkV (Qf:=λ_ s'=>am (ap X.prog X.w) X.A (pure ()) (λ_ s2=>am (ap X.prog X.w) X.A (pure Flow.next) (SP X pins D) X.xe s2) X.xe s') hx hc S hi I (λ{s3 s6 H3 H5 fp σ5 l a} I3 f3 I6 qn=>?_) h hs;have IX:Inv X pins σ H5 s6:=zkD (h':=s6.heap) I3 f3 I6 ⟨rfl,λ_ _=>rfl⟩;obtain⟨m6,ns6,_⟩:=I6.loc;have ns6:s6.heap.Ns s3.heap.objs.size m6:=ns6;have frC:H5 s3.heap.objs.size=none:=I6.free;have fC:zjR X pins H5 s3.heap.objs.size:=I3.fpOk (au _) frC;refine kG (zkk IX hN hxi hxl (v:= .ref l) rfl (λs7 I7 ⟨b,sb,hb⟩=>?_) hf);have hbC:s3.heap.objs.size≠b:=by
  rcases hb with rfl |hb
  ·exact fC.2.1
  ·exact br (fC.2.2.2.2.1 _ _ hb)
 refine⟨m6,ns6.sameBut sb hbC,λh' sb2=>aD (aD ⟨_,H5,?_,qn⟩)⟩;refine Inv.call' (s':={ s7 with heap:=h' }) (ch:=[s3.heap.objs.size]) I7 rfl ⟨λc o e n hfs hex=>?_,λc o e n hfs hex=>?_,λc o e n _=>n,λc o e hex=>?_,λ_ _ q=>q,λ_ _ _ q=>q,λ_ ps q=>⟨#[],by simpa using q⟩⟩ (λc o e=>?_) I7.bare λc hcm=>?_
 ·exact(sb2.2 c (λz=>hex (by simp [z]))).trans e
 ·exact⟨o.slots,(sb2.2 c (λz=>hex (by simp [z]))).trans e⟩
 ·exact⟨o,(sb2.2 c (λz=>hex (by simp [z]))).trans e⟩
 ·refine(I7.hok c o e).stay (λd v hd q=>(sb2.2 d ?_).trans q) (λ_ q=>q) λ_ _ q=>q;rintro rfl;rcases hd with rfl |hd
  ·rw[frC]at e;cases e
  ·rw[frC]at hd;cases hd
 ·rw[bg.mp hcm];exact⟨fC.2.2.2.1,fC.2.1,fC.2.2.2.2.1,fC.2.2.2.2.2⟩
noncomputable def Its (x:Str):It:=⟨λi _=>i<x.cps.size,λi H v H'=>H'=H∧ ∃c,x.cps[i]? =ae c∧v= .str ⟨#[c]⟩,λi _=>i=x.cps.size⟩
theorem znH{P:aF}{w:aC}{K:ak}{tg:Expr}(it:Addr) (x:Str) (t:bf) (ty:String)
    (hn: ["enumerate", "zip", "dict_itemiterator", "dict_reverseitemiterator", "odict_iterator", "itertools.zip_longest", "itertools.pairwise"].contains ty=false)
    (hW:∀A':aM,A'.handled=none→dO P w A' it [it] [it] x.cps.size (SignAt x) (λi h=>h.IsStrIter it ty x t i))
    (hself:∀(A:aM) (i:Nat) (s:ag) (Q:Value→ag→Prop) (E:Value→ag→Prop),s.heap.IsStrIter it ty x t i→Q (.ref it) s→am (ap P w) A (da (.ref it)) Q E s) :
    Turn P w K tg (Its x) [it] it (λi h=>h.IsStrIter it ty x t i) where
  mem:=by simp
  obj:=λi h st b hb=>by
    have e:b=it:=by simpa using hb
    subst e;obtain⟨o,e,c,d⟩:=st;exact⟨o,e,λv z=>by rw[d]at z;cases z⟩
  keep:=λi h h' st k=>by
    obtain⟨o,e,r⟩:=st;exact⟨o,k it (by simp) o e,r⟩
  item:=by
    intro X hP hw hK hc i pins s σ H E I hf st hg;subst hP hw hK;obtain⟨f0,f1,f2,f3,f4,f5⟩:=hf it (by simp);refine(hW X.A (I.ok.hd hc)).item i s _ _ hg st λv h' tk hv st' kk=>?_;obtain⟨c,u,hc',rfl⟩:=hv;have I1:Inv X pins σ H { s with heap:=h',toks:=tk }:=I.turned (λb o hb e=>kk b o (by simpa using hb) e) f0 f1 f3 f4 f5;obtain⟨o,e,c',d⟩:=id st';exact⟨_,rfl,zsR (s:={ s with heap:=h',toks:=tk }) e c' d hn ⟨.str ⟨#[c]⟩,H,I1,⟨u,rfl⟩,⟨rfl,c,hc',rfl⟩,st',λb hb=>(hf b hb).1⟩⟩
  done:=by
    intro X hP hw hK hc i pins s σ H E I hf st hg;subst hP hw hK;obtain⟨f0,f1,f2,f3,f4,f5⟩:=hf it (by simp);have hi:i=x.cps.size:=hg;subst hi;exact(hW X.A (I.ok.hd hc)).done s _ _ st λh' tk kk=>⟨rfl,I.turned (λb o hb e=>kk b o (by simpa using hb) e) f0 f1 f3 f4 f5⟩
  self:=hself
def TupsOn (H H':Hp):Prop:=∀b xs,H b=ae (.tup xs)→H' b=ae (.tup xs)
theorem TupsOn.trans{H H1 H2:Hp}(a:TupsOn H H1) (b:TupsOn H1 H2):TupsOn H H2:=λc xs h=>b c xs (a c xs h)
section
variable {X:Cx}
theorem zkJ:OpR X (bp .LtE) (λx y H Q=>∃i j,x= .str i∧y= .str j∧Q (.bl (!decide (j.cps.toList<i.cps.toList))) H):=by
 intro pins s σ H x y v u Q I rx ry h;obtain⟨i,j,rfl,rfl,q⟩:=h;obtain⟨t,rfl⟩:=rx;obtain⟨t',rfl⟩:=ry;exact PySem.P.le_str (zkl I q rfl)
theorem zmX (a b:Nat):(([a]:List Nat)< [b])↔a<b:=by
 rw[List.cons_lt_cons_iff];constructor
 ·rintro(h |⟨_,h⟩)
  ·exact h
  ·exact absurd h (List.lt_irrefl _)
 ·exact .inl
def rSlS:V→Option Int→Option Int→Hp→VK→Prop:=λx lo hi H Q=>∃z,x= .str z∧z.length≤sizeLine∧Q (.str (cE z lo hi)) H
theorem sl_str:SlR X rSlS:=by
 intro pins s σ H x v vl vu lo hi sl Q I rx hs pl pu h;obtain⟨z,rfl,hz,q⟩:=h;obtain⟨t,rfl⟩:=rx;refine⟨"str",_,F.slot_str_getitem.lookup,gU _ _ _,?_⟩;obtain⟨o,ho,hc,hd⟩:=hs;have fin:∀t' k,EP X pins σ Q (.str (cE z lo hi) t') { s with toks:=k }:=λt' k=>⟨.str _,H,I.tok _,⟨t',rfl⟩,q⟩;have le:=bi (Txt.slice_le z lo hi) hz;cases pl with
 |none=>
  cases pu with
  |none=>exact f_ (l:=none) (u:=none) (st:=none) ⟨o,ho,hc,hd⟩ rfl (gp ⟨le,fin⟩)
  |int j u=>exact f_ (l:=none) (u:=ae (j,u)) (st:=none) ⟨o,ho,hc,hd⟩ rfl (gp ⟨le,fin⟩)
 |int i w=>
  cases pu with
  |none=>exact f_ (l:=ae (i,w)) (u:=none) (st:=none) ⟨o,ho,hc,hd⟩ rfl (gp ⟨le,fin⟩)
  |int j u=>exact f_ (l:=ae (i,w)) (u:=ae (j,u)) (st:=none) ⟨o,ho,hc,hd⟩ rfl (gp ⟨le,fin⟩)
noncomputable def zAf (xs:List Nat) (lo hi:Option Int):List Nat:=(xs.drop (HT.sIx xs.length 0 lo)).take (HT.sIx xs.length xs.length hi - HT.sIx xs.length 0 lo)
theorem zuh (lo hi:Option Int) (n:Nat):gm lo hi 1 n=sliceRange ((HT.sIx n 0 lo:Nat):Int) ((HT.sIx n n hi:Nat):Int) 1:=by
 have one:(1:Int) > 0:=by decide
 have a:∀(v:Option Int) (d:Nat),(match v with |none=>(d:Int) |some i=>(if(1:Int) > 0 then max 0 (min (if i<0 then i+(n:Int) else i) (n:Int)) else max (-1) (min (if i<0 then i+(n:Int) else i) ((n:Int) - 1))))=((HT.sIx n d v:Nat):Int):=by
  intro v d;cases v with
  |none=>rfl
  |some i=>
   simp only[HT.sIx,one,if_true];by_cases h:i<0
   ·simp only[h,if_true];omega
   ·simp only[h,if_false];omega
 have l:=a lo 0;have u:=a hi n;unfold gm;simp only[one,if_true]at l u⊢
 first
  |rw[l,u]
  | (cases lo<;>cases hi<;>simp_all)
theorem zqH (z:Str) (lo hi:Option Int):(cE z lo hi).cps.toList=zAf z.cps.toList lo hi:=by
 have hn:z.length=z.cps.toList.length:=by simp [iA]
 have hp:(gm lo hi 1 z.length).filterMap (z.cps[·]?)=zAf z.cps.toList lo hi:=by
  rw[zuh,hV,gL,hn];rfl
 unfold cE;split
 ·rename_i h;have h1:(gm lo hi 1 z.length).length=z.length:=by simpa using h
  rw[zuh,hV,aq,i4]at h1;have le1:=HT.sIx_le z.length z.length (au _) hi;unfold zAf;rw[←hn];have e0:HT.sIx z.length 0 lo=0∨z.length=0:=by omega
  have hz:z.cps.toList.length=z.length:=hn.symm;rcases e0 with e0 |e0
  ·rw[e0,c6,cw (by omega)]
  ·have:z.cps.toList=[]:=kw (by omega);rw[this];simp
 ·show(List.filterMap _ _).toArray.toList=_;rw[hp]
theorem ztL (hc:X.calm=true):CallR X (.builtin "all") (λxs H Q=>∃(p:Addr) (bs:List Bool),xs=[.ref p]∧SqL X.K H p (bs.map V.bl)∧Q (.bl (bs.all id)) H):=by
 intro pins s σ H xs us Q I r h;obtain⟨p,bs,rfl,hq,q⟩:=h;obtain⟨u,rfl,rx⟩:=ziv r;cases rx;obtain⟨its,r',pl,hz⟩:=I.list hq;have hlen:bs.length=its.length:=by have:=r'.length;rw[aq]at this;exact this
 have hp:p<s.heap.objs.size:=by obtain⟨o,n,e,_⟩:=pl;exact aI e
 have hd:X.A.in1.handled=none:=I.ok.hd hc;have get:∀(i:Nat) (v:Value),its.toArray[i]? =ae v→v= .bool (bs.getD i false):=λi v e=>by
  have e':its[i]? =ae v:=by simpa using e
  have hi:i<bs.length:=by rw[hlen];exact(cb.mp e').1
  obtain⟨u,hu,ru⟩:=r'.get (i:=i) (x:= .bl (bs.getD i false)) (by rw[bv,aQ hi,bt,aQ hi];rfl);rw[e']at hu;cases hu;exact ru
 refine call_all_walk (dn pl.isList ?_);refine⟨s.heap.objs.size,_,_,_,_,_,λi=>bs.getD i false,rfl,fJ hd _ p (bu hp) its.toArray,⟨⟨_,bj _ rfl,rfl,rfl⟩,pl.isList.push _⟩,λi v s' Q' E' hP hQ=>?_,λh' tk hk=>?_⟩
 ·rw[get i v hP];exact dw hQ
 ·have e:(bc its.toArray.size).all (λi=>bs.getD i false)=bs.all id:=by
   rw[aP,←hlen];have:bs=(bc bs.length).map λi=>bs.getD i false:=by
    apply List.ext_getElem?;intro i;rw[bv];by_cases hi:i<bs.length
    ·rw[fW hi,aQ hi];show ae bs[i]=ae (bs.getD i false);rw[bt,aQ hi];rfl
    ·rw[ij (by omega),ij (by simpa using hi)];rfl
   conv=>rhs;rw[this]
   rw[e_];rfl
  have I1:Inv X pins σ H { s with heap:=h',toks:=tk }:=I.kept λb o e=>hk b o (λz=>by
   have z':b=s.heap.objs.size:=by simpa using z
   rw[z']at e;exact absurd (aI e) (b5 _)) (aH _ e)
  exact⟨.bl _,H,I1,by rw[e];exact rfl,q⟩
theorem zti:CallR X (.builtin "isinstance") (λxs H Q=>∃x t c b,xs=[x, .ty c]∧TyOf X.K H x t∧eX X.K t (.type c)=ae b∧Q (.bl b) H):=by
 intro pins s σ H xs us Q I r h;obtain⟨x,t,c,b,rfl,ty,e,q⟩:=h;obtain⟨u,v,rfl,rx,ry⟩:=zxt r;cases(show v=iu c from ry);exact zpK I rx ty e λtk=>⟨.bl b,H,I.tok _,rfl,q⟩
end
section
variable {X:Cx}
theorem zfs (l:Addr) (items:Array Value) (n:Nat) (b:Addr) (items2:Array Value) (n2:Nat) (dd:Option Addr) (sl:Array (Option Value)) (hs0:¬(!items.isEmpty&&dN (items.size+items2.size))=true) (hs1:items.size≤sizeLine) (hs2:items.size+items2.size≤sizeLine+1) :
  Meets (bZ.«list.extend» ⟨[.ref l, .ref b],[]⟩) (λ_ R s=>s.heap.get? l=ae { cls:= .type "list",dict:=none,data:= .seq items n,slots:= #[] }∧s.heap.get? b=ae { cls:= .type "tuple",dict:=dd,data:= .seq items2 n2,slots:=sl }∧R (.ok (.ret cn)) { s with heap:=s.heap.update l (ip λx=>x++items2),toks:=s.toks }):=
 .of_wp λprog w A R s h=>by
  obtain⟨hp,g,d,tk,os⟩:=s;obtain⟨hl,hb,h⟩:=h;have f1:=AutoSeq1.idx_int;have f2:=AutoSeq1.sub_tuple_tuple;have f3:=AutoSeq1.sub_list_list;have f4:=AutoSeq1.sub_tuple_list;have f5:=AutoSeq1.sub_list_tuple;have hz':(items++items2).size≤sizeLine+1:=by rw[Array.size_append];exact hs2
  wp_walk using(f7 hl rfl (hz:=hs1) (_hz':=hz')),j8 hl,j8 hb;exact⟨_,rfl,h⟩
def znF (K:ak):V→List V→Hp→VK→Prop:=λx vs H Q=>∃l b xs zs,x= .ref l∧vs=[.ref b]∧H l=ae (.lst xs)∧SqT K H b zs∧xs.length+zs.length≤sizeLine∧Q .non (upd H l (.lst (xs++zs)))
theorem zpa:MtM X "list.extend" (znF X.K):=by
 intro pins s σ H x vs v us Q I rx rv h;obtain⟨l,b,xs,zs,rfl,rfl,hH,hB,hz,q⟩:=h;cases rx;obtain⟨u,rfl,ru⟩:=rv.one;cases ru;obtain⟨z,its,n,r,hl,e⟩:=I.lstM hH;obtain⟨its2,r2,ht,hz2⟩:=I.tuple hB;obtain⟨⟨cls,dd,data,sl⟩,e2,hc,n2,hd⟩:=ht;simp only at hc hd;subst hc hd;have hl2:=r2.length;have hsz:its.toArray.size+its2.toArray.size≤sizeLine:=by rw[aP,aP];omega
 have hlong:¬(!its.toArray.isEmpty&&dN (its.toArray.size+its2.toArray.size))=true:=by
  rw[zjk hsz,gf];exact cS
 refine ef jG ⟨_,e,rfl⟩ j7 (kE _ _)
  (zfs l its.toArray n b its2.toArray n2 dd sl hlong (by rw[aP];omega) (by omega)) ⟨e,e2,?_⟩
 refine⟨.non,_,I.lset (its':=its++its2) hH e (by simp) (r.append r2) ?_,rfl,q⟩;rw[aY];omega
def zzk (K:ak):V→List V→Hp→VK→Prop:=λx vs H Q=>∃(z:Str) (b:Addr) (ys:List Str),x= .str z∧vs=[.ref b]∧SqL K H b (ys.map V.str)∧(ys.map (·.length)).sum+ys.length*z.length≤16777216∧Q (.str (cO z ys)) H
theorem zwN{ys:List Str}:∀{us:List Value},Vals (ys.map V.str) us→StrsAre us ys:=by
 induction ys with
 |nil=>
  intro us r;cases r;exact .nil
 |cons y ys ih=>
  intro us r;cases r with
  |cons a b=>
   obtain⟨t,rfl⟩:=a;exact .cons y t (ih b)
theorem zwA:MtM X "str.join" (zzk X.K):=by
 intro pins s σ H x vs v us Q I rx rv h;obtain⟨z,b,ys,rfl,rfl,hB,hz,q⟩:=h;obtain⟨t,rfl⟩:=rx;obtain⟨u,rfl,ru⟩:=rv.one;cases ru;obtain⟨its,r,pl,_⟩:=I.list hB;refine join_list pl.isList (by simpa using zwN r) hz λt' k=>⟨.str (cO z ys),H,I.tok _,⟨t',?_⟩,q⟩;show eS (bZ.Str.glued z ys) t'=_;rw[StrLaws.glued_eq_join]
end
inductive W where
  |non |bl (b:Bool) |int (i:Int) |str (x:Str) |tup (ws:List W) |ref (a:Addr) |scr (ns:List Int)
inductive Ob where
  |lst (ws:List W)
  |dct (kvs:List (List Int×W))
  |ins (C:Addr) (fs:List (Str×W))
abbrev Sto:=Addr→Option Ob
noncomputable def put (S:Sto) (a:Addr) (o:Ob):Sto:=λb=>if b=a then ae o else S b
def FzL (K:ak) (H:Hp) (a:Addr) (xs:List V):Prop:=
 (∃o,H a=ae (.frz o (.lst xs)))∨
  ∃(o:Obj) (its:Array Value) (n:Nat),K.lookup a=ae o∧o.cls= .type "list" ∧o.dict=none∧o.data= .seq its n∧its.size≤sizeLine∧Vals xs its.toList
mutual
inductive Rep (K:ak) (H:Hp):W→V→Prop
 |non:Rep K H .non .non
 |bl (b:Bool):Rep K H (.bl b) (.bl b)
 |int (i:Int):Rep K H (.int i) (.int i)
 |str (x:Str):Rep K H (.str x) (.str x)
 |ref (a:Addr):Rep K H (.ref a) (.ref a)
 |scr {a:Addr}{ns:List Int}:FzL K H a (ns.map V.int)→Rep K H (.scr ns) (.ref a)
 |tup {a:Addr}{vs:List V}{ws:List W}:H a=ae (.tup vs)→Reps K H ws vs→Rep K H (.tup ws) (.ref a)
inductive Reps (K:ak) (H:Hp):List W→List V→Prop
 |nil:Reps K H [] []
 |cons {w:W}{v:V}{ws:List W}{vs:List V}:Rep K H w v→Reps K H ws vs→Reps K H (w::ws) (v::vs)
end
structure Ext (H:Hp) (S:Sto) (H':Hp) (S':Sto):Prop where
  tup:∀b xs,H b=ae (.tup xs)→H' b=ae (.tup xs)
  frz:∀b o u,H b=ae (.frz o u)→H' b=ae (.frz o u)
  fr:∀b xs,H b=ae (.lst xs)→S b=none→H' b=ae (.lst xs)∧S' b=none
  all:∀b o,H b=ae o→ ∃o',H' b=ae o'
def Sub (S S':Sto):Prop:=∀a o,S a=ae o→S' a=ae o
section
variable {K:ak}{H H' H1 H2:Hp}{S S' S1 S2:Sto}
theorem zah{a:Addr}{o:Ob}:put S a o a=ae o:=by unfold put;rw[if_pos rfl]
theorem zaG{a b:Addr}{o:Ob}(h:b≠a):put S a o b=S b:=by unfold put;rw[if_neg h]
theorem zaY{a:Addr}{o o':Ob}:put (put S a o) a o'=put S a o':=by funext b;unfold put;split<;>rfl
theorem Ext.refl:Ext H S H S:=⟨λ_ _ h=>h,λ_ _ _ h=>h,λ_ _ h g=>⟨h,g⟩,λ_ o h=>⟨o,h⟩⟩
theorem Ext.trans (a:Ext H S H1 S1) (b:Ext H1 S1 H2 S2):Ext H S H2 S2:=⟨λc xs h=>b.tup c xs (a.tup c xs h),λc o u h=>b.frz c o u (a.frz c o u h),
 λc o h g=>by
  obtain⟨h1,g1⟩:=a.fr c o h g;exact b.fr c o h1 g1,λc o h=>by
  obtain⟨o1,h1⟩:=a.all c o h;exact b.all c o1 h1⟩
theorem Ext.new{p:Addr}{o:HO}(h:H p=none):Ext H S (upd H p o) S:=
  ⟨λb xs e=>by rw[zax (zat e h)];exact e,λb ob u e=>by rw[zax (zat e h)];exact e,
   λb ob e g=>⟨by rw[zax (zat e h)];exact e,g⟩,λb ob e=>⟨ob,by rw[zax (zat e h)];exact e⟩⟩
theorem Ext.newS{p:Addr}{o:HO}{ob:Ob}(h:H p=none):Ext H S (upd H p o) (put S p ob):=
  ⟨λb xs e=>by rw[zax (zat e h)];exact e,λb ob u e=>by rw[zax (zat e h)];exact e,
   λb ob e g=>⟨by rw[zax (zat e h)];exact e,by rw[zaG (zat e h)];exact g⟩,λb ob e=>⟨ob,by rw[zax (zat e h)];exact e⟩⟩
theorem Ext.mut{p:Addr}{o u:HO}{ob ob0:Ob}(h:H p=ae u) (hs:S p=ae ob0) (ht:∀xs,u≠ .tup xs) (hf:∀ob q,u≠ .frz ob q):Ext H S (upd H p o) (put S p ob):=
  ⟨λb xs e=>by rw[zax (ztz e h λz=>ht xs z.symm)];exact e,λb ob q e=>by rw[zax (ztz e h λz=>hf ob q z.symm)];exact e,
   λb ob e g=>by
     have hb:b≠p:=by rintro rfl;rw[hs]at g;cases g
     exact⟨by rw[zax hb];exact e,by rw[zaG hb];exact g⟩,λb ob e=>by
     by_cases hb:b=p
     · subst hb;exact⟨o,zay⟩
     · exact⟨ob,by rw[zax hb];exact e⟩⟩
theorem Ext.lst{p:Addr}{o:HO}{ob ob0:Ob}{xs:List V}(h:H p=ae (.lst xs)) (hs:S p=ae ob0):Ext H S (upd H p o) (put S p ob):= .mut h hs (λ_ z=>nomatch z) λ_ _ z=>nomatch z
theorem Ext.drop (h:Sub S' S):Ext H S H S':=⟨λ_ _ h=>h,λ_ _ _ h=>h,λb o e g=>⟨e,by
 cases q:S' b with
 |none=>rfl
 |some z=>rw[h b z q]at g;cases g⟩,λ_ o h=>⟨o,h⟩⟩
theorem Ext.free (e:Ext H S H' S') {p:Addr}(h:H' p=none):H p=none:=by
 cases q:H p with
 |none=>rfl
 |some o=>obtain⟨o',z⟩:=e.all p o q;rw[h]at z;cases z
theorem Ext.fz{a:Addr}{xs:List V}(e:Ext H S H' S') (h:FzL K H a xs):FzL K H' a xs:=by
 rcases h with⟨o,h⟩ |h
 ·exact .inl ⟨o,e.frz _ _ _ h⟩
 ·exact .inr h
theorem FzL.sq{a:Addr}{xs:List V}(h:FzL K H a xs):SqL K H a xs:=by
 rcases h with⟨o,h⟩ |h
 ·exact .inl (.inr ⟨o,h⟩)
 ·exact .inr h
mutual
theorem Rep.ext (e:Ext H S H' S') {w:W}{v:V}:Rep K H w v→Rep K H' w v
 | .non=> .non
 | .bl b=> .bl b
 | .int i=> .int i
 | .str x=> .str x
 | .ref a=> .ref a
 | .scr h=> .scr (e.fz h)
 | .tup h hs=> .tup (e.tup _ _ h) (Reps.ext e hs)
theorem Reps.ext (e:Ext H S H' S') {ws:List W}{vs:List V}:Reps K H ws vs→Reps K H' ws vs
 | .nil=> .nil
 | .cons h hs=> .cons (Rep.ext e h) (Reps.ext e hs)
end
theorem Reps.length:∀{ws:List W}{vs:List V},Reps K H ws vs→ws.length=vs.length
 |_,_, .nil=>rfl
 |_,_, .cons _ hs=>congrArg (· +1) (Reps.length hs)
theorem Reps.get:∀{ws:List W}{vs:List V}{i:Nat}{w:W},Reps K H ws vs→ws[i]? =ae w→ ∃v,vs[i]? =ae v∧Rep K H w v
 |_,_,_,_, .nil,e=>by simp at e
 |_,_,0,_, .cons h _,e=>by simp at e;subst e;exact⟨_,rfl,h⟩
 |_,_,i+1,w, .cons _ hs,e=>by
  obtain⟨v,h1,h2⟩:=Reps.get (i:=i) (w:=w) hs (by simpa using e);exact⟨v,by simpa using h1,h2⟩
theorem Reps.append:∀{ws us:List W}{vs xs:List V},Reps K H ws vs→Reps K H us xs→Reps K H (ws++us) (vs++xs)
 |_,_,_,_, .nil,h=>h
 |_,_,_,_, .cons r t,h=> .cons r (Reps.append t h)
theorem Reps.take:∀{ws:List W}{vs:List V}(n:Nat),Reps K H ws vs→Reps K H (ws.take n) (vs.take n)
 |_,_,0,_=> .nil
 |_,_,_+1, .nil=> .nil
 |_,_,n+1, .cons r t=> .cons r (Reps.take n t)
theorem Reps.drop:∀{ws:List W}{vs:List V}(n:Nat),Reps K H ws vs→Reps K H (ws.drop n) (vs.drop n)
 |_,_,0,r=>r
 |_,_,_+1, .nil=> .nil
 |_,_,n+1, .cons _ t=>Reps.drop n t
theorem Reps.one{w:W}{v:V}(h:Rep K H w v):Reps K H [w] [v]:= .cons h .nil
theorem Reps.ofInts:∀(ns:List Int),Reps K H (ns.map W.int) (ns.map V.int)
 | []=> .nil
 |n::ns=> .cons (.int n) (Reps.ofInts ns)
end
noncomputable def RepO (K:ak) (H:Hp) (a:Addr):Ob→Prop
 | .lst ws=>∃vs,H a=ae (.lst vs)∧Reps K H ws vs
 | .dct kvs=>∃ps:List (List Key×V),H a=ae (.dT ps)∧aL (λq p=>p.1=q.1.map Sum.inl∧Rep K H q.2 p.2) kvs ps
 | .ins C fs=>False
def RepS (K:ak) (H:Hp) (S:Sto):Prop:=∀a o,S a=ae o→RepO K H a o
section
variable {K:ak}{H H':Hp}{S S' S0 S0':Sto}{a b p:Addr}{o:Ob}
theorem Sub.refl:Sub S S:=λ_ _ h=>h
theorem Sub.trans{S1 S2 S3:Sto}(h:Sub S1 S2) (g:Sub S2 S3):Sub S1 S3:=λa o e=>g a o (h a o e)
theorem RepS.sub (h:RepS K H S') (q:Sub S S'):RepS K H S:=λa o e=>h a o (q a o e)
theorem RepO.some (h:RepO K H a o):∃u,H a=ae u:=by
 cases o with
 |lst ws=>obtain⟨vs,e,_⟩:=h;exact⟨_,e⟩
 |dct kvs=>obtain⟨vs,e,_⟩:=h;exact⟨_,e⟩
 |ins C fs=>exact h.elim
theorem RepS.free (h:RepS K H S) (e:H p=none):S p=none:=by
 cases q:S p with
 |none=>rfl
 |some o=>obtain⟨u,z⟩:=(h p o q).some;rw[e]at z;cases z
theorem RepO.keep (e:Ext H S0 H' S0') (k:∀u,H a=i5 u→H' a=i5 u) (h:RepO K H a o):RepO K H' a o:=by
 cases o with
 |lst ws=>obtain⟨vs,e1,r⟩:=h;exact⟨vs,k _ e1,r.ext e⟩
 |dct kvs=>obtain⟨vs,e1,r⟩:=h;exact⟨vs,k _ e1,Paired.mapP r λ_ _ z=>⟨z.1,z.2.ext e⟩⟩
 |ins C fs=>exact h.elim
theorem RepS.new{u:HO}(h:RepS K H S) (e:H p=none):RepS K (upd H p u) S:=λa o q=>
 (h a o q).keep (.new (S:=S) e) λv z=>by rw[zax (zat z e)];exact z
theorem RepS.put_lst{ws:List W}{vs:List V}(h:RepS K H S) (e:H p=none) (r:Reps K (upd H p (.lst vs)) ws vs):RepS K (upd H p (.lst vs)) (put S p (.lst ws)):=λa o q=>by
 by_cases ha:a=p
 ·subst ha;rw[zah]at q;cases q;exact⟨vs,zay,r⟩
 ·rw[zaG ha]at q;exact h.new e a o q
theorem RepS.set_lst{ws0 ws:List W}{vs:List V}(h:RepS K H S) (e:S a=ae (.lst ws0)) (r:Reps K H ws vs):Ext H S (upd H a (.lst vs)) (put S a (.lst ws))∧RepS K (upd H a (.lst vs)) (put S a (.lst ws)):=by
 obtain⟨vs0,e0,_⟩:=h a _ e;have x:Ext H S (upd H a (.lst vs)) (put S a (.lst ws)):= .lst e0 e;refine⟨x,λb o q=>?_⟩;by_cases hb:b=a
 ·subst hb;rw[zah]at q;cases q;exact⟨vs,zay,r.ext x⟩
 ·rw[zaG hb]at q;exact(h b o q).keep x λu z=>by rw[zax hb];exact z
end
abbrev WSt:=List (Option W)
abbrev WK:=W→Sto→Prop
abbrev WX:=Str→WSt→Sto→Prop
abbrev WE:=WX→WSt→Sto→WK→Prop
abbrev WT:=WX→WSt→Sto→(Bool→Sto→Prop)→Prop
abbrev WA:=WX→WSt→Sto→(List W→Sto→Prop)→Prop
structure WEnds where
  nx:WSt→Sto→Prop
  rt:WK
  bk:WSt→Sto→Prop:=λ_ _=>False
  ct:WSt→Sto→Prop:=λ_ _=>False
abbrev WS:=WX→WEnds→WSt→Sto→Prop
abbrev WG:=W→WSt→Sto→(WSt→Sto→Prop)→Prop
abbrev WSp:=List W→Sto→WK→(Str→Sto→Prop)→Prop
abbrev WI:=WX→WSt→Sto→(List W→(Sto→Prop)→Sto→Prop)→Prop
abbrev WL:=WX→WSt→Sto→(List W→Sto→Prop)→Prop
noncomputable def RpO (K:ak) (H:Hp):Option W→Option V→Prop
 |none,_=>True
 |some w,ae v=>Rep K H w v
 |some _,none=>False
def RpSt (K:ak) (H:Hp) (σW:WSt) (σ:St):Prop:=aL (RpO K H) σW σ
section
variable {K:ak}{H H':Hp}{S S':Sto}
theorem RpO.ext (e:Ext H S H' S'):∀{w:Option W}{v:Option V},RpO K H w v→RpO K H' w v
 |none,_,_=>trivial
 |some _,ae _,h=>Rep.ext e h
 |some _,none,h=>h.elim
theorem RpSt.ext (e:Ext H S H' S') {σW:WSt}{σ:St}(h:RpSt K H σW σ):RpSt K H' σW σ:=Paired.mapP h λ_ _ r=>RpO.ext e r
theorem RpSt.get:∀{σW:WSt}{σ:St}{i:Nat}{w:W},RpSt K H σW σ→σW[i]? =ae (ae w)→ ∃v,σ[i]? =ae (ae v)∧Rep K H w v
 |_,_,_,_, .nil,e=>by simp at e
 |_,_,0,_, .cons (b:=b) h _,e=>by
  simp at e;subst e;cases b with
  |none=>exact(show False from h).elim
  |some v=>exact⟨v,rfl,h⟩
 |_,_,i+1,w, .cons _ hs,e=>by
  obtain⟨v,h1,h2⟩:=RpSt.get (i:=i) (w:=w) hs (by simpa using e);exact⟨v,by simpa using h1,h2⟩
theorem RpSt.set{w:W}{v:V}(h:Rep K H w v):∀{σW:WSt}{σ:St}(i:Nat),RpSt K H σW σ→RpSt K H (σW.set i (ae w)) (σ.set i (ae v))
 |_,_,_, .nil=> .nil
 |_,_,0, .cons _ t=> .cons h t
 |_,_,i+1, .cons q t=> .cons q (RpSt.set h i t)
end
def Wish (K:ak) (H:Hp) (S:Sto) (QW:WK) (Q:VK):Prop:=∀w S' v H',Ext H S H' S'→Rep K H' w v→RepS K H' S'→QW w S'→Q v H'
noncomputable def zAc (K:ak) (t:WSt→Sto→WK→Prop):TE:=λσ H Q=>∃σW S QW,RpSt K H σW σ∧RepS K H S∧t σW S QW∧Wish K H S QW Q
noncomputable def zwB (K:ak) (t:WSt→Sto→(Bool→Sto→Prop)→Prop):TT:=λσ H Q=>∃σW S QW,RpSt K H σW σ∧RepS K H S∧t σW S QW∧ ∀b S' H',Ext H S H' S'→RepS K H' S'→QW b S'→Q b H'
noncomputable def zBx (K:ak) (t:WSt→Sto→(List W→Sto→Prop)→Prop):TA:=λσ H Q=>∃σW S QW,RpSt K H σW σ∧RepS K H S∧t σW S QW∧ ∀ws S' vs H',Ext H S H' S'→Reps K H' ws vs→RepS K H' S'→QW ws S'→Q vs H'
def Goes (K:ak) (H:Hp) (S:Sto) (P:WSt→Sto→Prop) (Q:St→Hp→Prop):Prop:=∀σW S' σ H',Ext H S H' S'→RpSt K H' σW σ→RepS K H' S'→P σW S'→Q σ H'
structure Meets (K:ak) (H:Hp) (S:Sto) (DW:WEnds) (D:Ends):Prop where
  nx:Goes K H S DW.nx D.nx
  rt:Wish K H S DW.rt D.rt
  bk:Goes K H S DW.bk D.bk
  ct:Goes K H S DW.ct D.ct
noncomputable def zzK (K:ak) (t:WEnds→WSt→Sto→Prop):TS:=λD σ H=>∃σW S DW,RpSt K H σW σ∧RepS K H S∧t DW σW S∧Meets K H S DW D
noncomputable def zBD (K:ak) (t:WG):TG:=λv σ H Q=>∃w σW S P,Rep K H w v∧RpSt K H σW σ∧RepS K H S∧t w σW S P∧Goes K H S P Q
def ItW (K:ak) (J:It) (ws:List W) (G:Sto→Prop) (H0:Hp) (S0:Sto):Prop:=∀i S H,Ext H0 S0 H S→RepS K H S→G S→
 (∀w,ws[i]? =ae w→J.go i H∧ ∀x H',J.yld i H x H'→Ext H S H' S∧RepS K H' S∧Rep K H' w x)∧(i=ws.length→J.stop i H)
noncomputable def zzf (K:ak) (t:WSt→Sto→(List W→(Sto→Prop)→Sto→Prop)→Prop):TI:=λσ H R=>∃σW S QW,RpSt K H σW σ∧RepS K H S∧t σW S QW∧
 ∀ws G S' J H',Ext H S H' S'→RepS K H' S'→G S'→ItW K J ws G H' S'→QW ws G S'→R J H'
noncomputable def zzN (K:ak) (t:WSt→Sto→(List W→Sto→Prop)→Prop):TE:=λσ H Q=>∃σW S QW,RpSt K H σW σ∧RepS K H S∧t σW S QW∧
 ∀ws S' vs a H',Ext H S H' S'→H a=none→H' a=ae (.lst vs)→S' a=none→Reps K H' ws vs→RepS K H' S'→QW ws S'→Q (.ref a) H'
noncomputable def zdh (K:ak) (sp:WSp):Sp:=λvs H Q E=>∃ws S QW EW,Reps K H ws vs∧RepS K H S∧sp ws S QW EW∧Wish K H S QW Q∧
 ∀cl C S' H',aT K aK cl=ae (ae (.ref C))→RepS K H' S'→EW cl S'→E (.ref C) none H'
def Fly (g h:Heap) (H:Hp) (a C:Addr):Prop:=g.get? a=none∧H a=none∧ ∃oe vs T oT ts,h.get? a=ae oe∧oe.cls= .ref C∧oe.data= .fields vs∧vs[1]? =ae (.ref T)∧
 g.get? T=none∧H T=none∧T≠a∧h.get? T=ae oT∧oT.data= .fields ts∧ts[3]? =ae .none
noncomputable def CX1 (P:aF) (w:aC):CXT:=λouter H s E e s'=>∃a C H',e= .ref a∧s'.os=s.os∧bP s'.gens∧Un (frs outer) [] H H' s.heap s'.heap∧HOk P w H' s'.heap∧Fly s.heap s'.heap H' a C∧E (.ref C) none H'
structure Hook (X:Cx) (E:WX):Prop where
  own:cJ (ap X.prog X.w) X.A X.env X.xe
  far:∀(pins:List (Addr×Obj)) (σ:St) (H:Hp) (s:ag) (σW:WSt) (cl:Str) (C a:Addr) (H':Hp) (S':Sto) (s':ag),Inv X pins σ H s→RpSt X.K H σW σ→aT X.K aK cl=ae (ae (.ref C))→
    s'.os=s.os→bP s'.gens→Un (frs X.stack) [] H H' s.heap s'.heap→HOk X.prog X.w H' s'.heap→Fly s.heap s'.heap H' a C→RepS X.K H' S'→E cl σW S'→X.xe (.ref a) s'
  near:∀(pins:List (Addr×Obj)) (σ:St) (H:Hp) (s:ag) (σW:WSt) (cl:Str) (C a:Addr) (S:Sto) (h':Heap) (args:List Value),Inv X pins σ H s→RpSt X.K H σW σ→aT X.K aK cl=ae (ae (.ref C))→
    Heap.MadeExcOf s.heap h' a (.ref C) args→RepS X.K H S→E cl σW S→X.xe (.ref a) { s with heap:=h' }
def JE (X:Cx) (e:Expr) (t:WE):Prop:=∀E,Hook X E→PE X e (zAc X.K (t E))
def JT (X:Cx) (e:Expr) (t:WT):Prop:=∀E,Hook X E→PT X e (zwB X.K (t E))
def JW (X:Cx) (e:Expr) (t:WT):Prop:=∀E,Hook X E→PW X e (zwB X.K (t E))
def JA (X:Cx) (es:List Expr) (t:WA):Prop:=∀E,Hook X E→PA X es (zBx X.K (t E))
def JS (X:Cx) (st:Stmt) (t:WS):Prop:=∀E,Hook X E→PS X st (zzK X.K (t E))
def JSs (X:Cx) (st:List Stmt) (t:WS):Prop:=∀E,Hook X E→PSs X st (zzK X.K (t E))
def JG (X:Cx) (tg:Expr) (t:WG):Prop:=∀E,Hook X E→PG X tg (zBD X.K t)
def JI (X:Cx) (tg iter:Expr) (t:WI):Prop:=∀E,Hook X E→PI X tg iter (zzf X.K (t E))
def JL (X:Cx) (e:Expr) (t:WL):Prop:=∀E,Hook X E→PE X e (zzN X.K (t E))
theorem PE.mono{X:Cx}{e:Expr}{t t':TE}(h:PE X e t) (q:∀σ H Q,t' σ H Q→t σ H Q):PE X e t':=λpins s σ H Q I z=>h pins s σ H Q I (q σ H Q z)
theorem PT.mono{X:Cx}{e:Expr}{t t':TT}(h:PT X e t) (q:∀σ H Q,t' σ H Q→t σ H Q):PT X e t':=λpins s σ H Q I z=>h pins s σ H Q I (q σ H Q z)
theorem PW.mono{X:Cx}{e:Expr}{t t':TT}(h:PW X e t) (q:∀σ H Q,t' σ H Q→t σ H Q):PW X e t':=λwh pins s σ H Q I z=>h wh pins s σ H Q I (q σ H Q z)
theorem PA.mono{X:Cx}{e:List Expr}{t t':TA}(h:PA X e t) (q:∀σ H Q,t' σ H Q→t σ H Q):PA X e t':=λpos pins s σ H Q I z=>h pos pins s σ H Q I (q σ H Q z)
theorem PS.mono{X:Cx}{e:Stmt}{t t':TS}(h:PS X e t) (q:∀D σ H,t' D σ H→t D σ H):PS X e t':=λpins s σ H D I z=>h pins s σ H D I (q D σ H z)
theorem PSs.mono{X:Cx}{e:List Stmt}{t t':TS}(h:PSs X e t) (q:∀D σ H,t' D σ H→t D σ H):PSs X e t':=λpins s σ H D I z=>h pins s σ H D I (q D σ H z)
theorem PG.mono{X:Cx}{e:Expr}{t t':TG}(h:PG X e t) (q:∀v σ H Q,t' v σ H Q→t v σ H Q):PG X e t':=λpins s σ H v u Q I r z=>h pins s σ H v u Q I r (q v σ H Q z)
theorem PI.mono{X:Cx}{tg e:Expr}{t t':TI}(h:PI X tg e t) (q:∀σ H R,t' σ H R→t σ H R):PI X tg e t':=λpins s σ H R I z=>h pins s σ H R I (q σ H R z)
noncomputable def wVar (i:Nat):WE:=λ_ σ S Q=>match σ[i]? with
 |some (ae w)=>Q w S
 |_=>False
noncomputable def wC (w:W):WE:=λ_ _ S Q=>Q w S
section
variable {X:Cx}
theorem jv (i:Nat) {x:Str}{pos:aB}(hN:X.N[i]? =ae x:=by rfl) (hv:Vis X.env.scope x:=by first |exact aj rfl |exact cP (aj rfl) |exact cP (cP rfl)) (hd:(x == ("__debug__" :Str))=false:=by decide)
  (hcd:(x == ("__classdict__" :Str))=false:=by decide):JE X (.Name x pos) (wVar i):=λE hE=>(zxI hN hv hd hcd).mono λσ H Q ⟨σW,S,QW,hσ,hS,ht,hQ⟩=>by
 unfold wVar at ht;split at ht
 ·rename_i w e;obtain⟨v,e',r⟩:=hσ.get e;exact⟨v,e',hQ w S v H .refl r hS ht⟩
 ·exact ht.elim
theorem zsk{e:Expr}{v:V}{w:W}(h:PE X e (tC v)) (r:∀K H,Rep K H w v):JE X e (wC w):=λE hE=>h.mono λσ H Q ⟨σW,S,QW,hσ,hS,ht,hQ⟩=>hQ w S v H .refl (r _ _) hS ht
theorem zae{i j pos}:JE X (.Constant (.int i) j pos) (wC (.int i)):=zsk zxP λ_ _=> .int i
theorem zfa{b j pos}:JE X (.Constant (.bool b) j pos) (wC (.bl b)):=zsk zBm λ_ _=> .bl b
theorem zcH{j pos}:JE X (.Constant .none j pos) (wC .non):=zsk zyF λ_ _=> .non
theorem zfn{x j pos}:JE X (.Constant (.str x) j pos) (wC (.str x)):=zsk zyR λ_ _=> .str x
theorem zdq{x:Str}{i:Int}{u:bf}{pos:aB}(hg:Gl X x) (hm:X.mg x=ae (.int i u)) (hd:(x == ("__debug__" :Str))=false:=by decide):JE X (.Name x pos) (wC (.int i)):=zsk (v:= .int i) (zxg hg hm ⟨u,rfl⟩ hd) λ_ _=> .int i
end
abbrev W2:=W→W→Sto→WK→Prop
noncomputable def wOp (r:W2) (a b:WE):WE:=λE σ S Q=>a E σ S λx S1=>b E σ S1 λy S2=>r x y S2 Q
def OpW (K:ak) (r:R2) (wr:W2):Prop:=∀H x y wx wy S (Q:VK) (QW:WK),Rep K H wx x→Rep K H wy y→RepS K H S→wr wx wy S QW→Wish K H S QW Q→r x y H Q
theorem Wish.from{K:ak}{H H':Hp}{S S':Sto}{QW:WK}{Q:VK}(h:Wish K H S QW Q) (e:Ext H S H' S'):Wish K H' S' QW Q:=λw S v H'' e' r hS q=>h w S v H'' (e.trans e') r hS q
theorem Goes.from{K:ak}{H H':Hp}{S S':Sto}{P:WSt→Sto→Prop}{Q:St→Hp→Prop}(h:Goes K H S P Q) (e:Ext H S H' S'):Goes K H' S' P Q:=λσW S σ H'' e' r hS q=>h σW S σ H'' (e.trans e') r hS q
theorem Meets.from{K:ak}{H H':Hp}{S S':Sto}{DW:WEnds}{D:Ends}(h:Meets K H S DW D) (e:Ext H S H' S'):Meets K H' S' DW D:=⟨h.nx.from e,h.rt.from e,h.bk.from e,h.ct.from e⟩
section
variable {X:Cx}{a b:Expr}{pos:aB}
theorem zha{K:ak}{ta tb:WSt→Sto→WK→Prop}{wr:W→W→Sto→WK→Prop}{σ:St}{H:Hp}{Q:VK}{R:V→V→Hp→Prop}
  (h:zAc K (λσ S Q=>ta σ S λx S1=>tb σ S1 λy S2=>wr x y S2 Q) σ H Q)
  (hR:∀H2 x y wx wy S (QW:WK),Rep K H2 wx x→Rep K H2 wy y→RepS K H2 S→wr wx wy S QW→Wish K H2 S QW Q→R x y H2) :
  zAc K ta σ H λx H1=>zAc K tb σ H1 λy H2=>R x y H2:=by
 obtain⟨σW,S,QW,hσ,hS,ht,hQ⟩:=h;refine⟨σW,S,_,hσ,hS,ht,λw1 S1 v1 H1 e1 r1 hS1 h1=>?_⟩;refine⟨σW,S1,_,hσ.ext e1,hS1,h1,λw2 S2 v2 H2 e2 r2 hS2 h2=>?_⟩;exact hR H2 v1 v2 w1 w2 S2 QW (r1.ext e2) r2 hS2 h2 (hQ.from (e1.trans e2))
theorem zpu{op:fO}{r:R2}{wr:W2}{ta tb:WE}(ho:OpR X (bQ op) r) (hw:OpW X.K r wr) (ha:JE X a ta) (hb:JE X b tb):JE X (.BinOp a op b pos) (wOp wr ta tb):=λE hE=>
 (zrF ho (ha E hE) (hb E hE)).mono λσ H Q h=>zha h λH2 x y wx wy S QW rx ry hS q hQ=>hw H2 x y wx wy S Q QW rx ry hS q hQ
theorem zsf{op:cI}{r:R2}{wr:W2}{ta tb:WE}(ho:OpR X (bp op) r) (hw:OpW X.K r wr) (ha:JE X a ta) (hb:JE X b tb) (hm:cW op b=false):JE X (.Compare a [op] [b] pos) (wOp wr ta tb):=λE hE=>
 (zxa ho (ha E hE) (hb E hE) hm).mono λσ H Q h=>zha h λH2 x y wx wy S QW rx ry hS q hQ=>hw H2 x y wx wy S Q QW rx ry hS q hQ
end
theorem ObjOk.ex{P:aF}{w:aC}{H:Hp}{h:Heap}{a:Addr}{o:HO}(x:ObjOk P w H h a o):∃u,h.get? a=ae u:=by
 cases o with
 |lst xs=>obtain⟨_,_,_,_,e⟩:=x;exact⟨_,e⟩
 |tup xs=>obtain⟨_,_,_,o,e,_⟩:=x;exact⟨_,e⟩
 |dK kvs=>obtain⟨_,_,_,_,o,_,_,e,_⟩:=x;exact⟨_,e⟩
 |dT kvs=>obtain⟨_,_,_,_,o,_,_,e,_⟩:=x;exact⟨_,e⟩
 |set S n=>obtain⟨o,_,_,_,e,_⟩:=x;exact⟨_,e⟩
 |ins C dx fs=>obtain⟨_,_,_,e,_⟩:=x;exact⟨_,e⟩
 |own y=>exact x
 |xd fs=>obtain⟨_,⟨_,_,_,e,_⟩,_⟩:=x;exact⟨_,e⟩
 |rng lo hi=>obtain⟨_,_,_,e⟩:=x;exact⟨_,e⟩
 |frz ob u=>obtain⟨e,_⟩:=x;exact⟨_,e⟩
 |tbl ps=>exact⟨_,show h.get? a=ae _ from x⟩
 |met f y=>exact⟨_,show h.get? a=ae _ from x⟩
 |ext φ=>exact x.2.1
noncomputable def unt (H:Hp) (S:Sto):Hp:=λb=>match H b with
 |some (.lst xs)=>match S b with
  |none=>none
  |some _=>ae (.lst xs)
 |o=>o
noncomputable def rtk (H:Hp) (S:Sto) (H':Hp):Hp:=λb=>match unt H S b with
 |none=>match H b with
  |some o=>ae o
  |none=>H' b
 |some _=>match H' b with
  |some o=>ae o
  |none=>ae (.ext λh=>∃o,h.get? b=ae o)
section
variable {w:aC}{K:ak}{H:Hp}{S:Sto}{h:Heap}{b:Addr}{o:HO}
theorem zoi (e:unt H S b=ae o):H b=ae o:=by
 unfold unt at e;split at e
 ·rename_i xs q;split at e
  ·cases e
  ·rw[q];exact e
 ·exact e
theorem zfr (e:H b=none):unt H S b=none:=by unfold unt;rw[e]
theorem znw (e:H b=ae o) (n:∀xs,o≠ .lst xs):unt H S b=ae o:=by
 unfold unt;rw[e];cases o<;>first |rfl |exact absurd rfl (n _)
theorem zuD{u:Ob}(e:H b=ae o) (hs:S b=ae u):unt H S b=ae o:=by
 unfold unt;rw[e];cases o<;>first |rfl | (dsimp only;rw[hs])
theorem zrL{xs:List V}(e:H b=ae (.lst xs)) (hs:S b=none):unt H S b=none:=by
 unfold unt;rw[e];dsimp only;rw[hs]
theorem zxW (e:unt H S b=none) (q:H b=ae o):(∃xs,o= .lst xs)∧S b=none:=by
 unfold unt at e;rw[q]at e;cases o<;>first |cases e |skip;rename_i xs;dsimp only at e;split at e
 ·exact⟨⟨xs,rfl⟩, ‹_›⟩
 ·cases e
mutual
theorem Rep.mv{H1:Hp}(t:∀b xs,H b=ae (.tup xs)→H1 b=ae (.tup xs)) (f:∀b o u,H b=ae (.frz o u)→H1 b=ae (.frz o u)) {w:W}{v:V}:Rep K H w v→Rep K H1 w v
 | .non=> .non
 | .bl b=> .bl b
 | .int i=> .int i
 | .str x=> .str x
 | .ref a=> .ref a
 | .scr h=> .scr (by
  rcases h with⟨o,h⟩ |h
  ·exact .inl ⟨o,f _ _ _ h⟩
  ·exact .inr h)
 | .tup h hs=> .tup (t _ _ h) (Reps.mv t f hs)
theorem Reps.mv{H1:Hp}(t:∀b xs,H b=ae (.tup xs)→H1 b=ae (.tup xs)) (f:∀b o u,H b=ae (.frz o u)→H1 b=ae (.frz o u)) {ws:List W}{vs:List V}:Reps K H ws vs→Reps K H1 ws vs
 | .nil=> .nil
 | .cons h hs=> .cons (Rep.mv t f h) (Reps.mv t f hs)
end
theorem zhB:∀b xs,H b=ae (.tup xs)→unt H S b=ae (.tup xs):=λb xs e=>znw e λ_ z=>nomatch z
theorem zjv:∀b o u,H b=ae (.frz o u)→unt H S b=ae (.frz o u):=λb o u e=>znw e λ_ z=>nomatch z
theorem RepS.unt (r:RepS K H S):RepS K (unt H S) S:=λa o e=>by
 have q:=r a o e;cases o with
 |lst ws=>obtain⟨vs,z,rs⟩:=q;exact⟨vs,zuD z e,Reps.mv zhB zjv rs⟩
 |dct kvs=>obtain⟨ps,z,rs⟩:=q;exact⟨ps,zuD z e,Paired.mapP rs λ_ _ z=>⟨z.1,Rep.mv zhB zjv z.2⟩⟩
 |ins C fs=>exact q.elim
theorem HOk.unt (x:HOk P w H h):HOk P w (unt H S) h:=λa o e=>
 (x a o (zoi e)).stay (λ_ _ _ q=>q) (λb q=>znw q λ_ z=>nomatch z) λb xs q=>zhB b xs q
theorem zfd (ok:HOk P w H h) (un:Un fs [] (unt H S) H' h h') (e:H' b=ae o):rtk H S H' b=ae o:=by
 unfold rtk;split
 ·rename_i q;split
  ·rename_i u z;obtain⟨ob,eo⟩:=(ok b u z).ex;rw[un.free b ob eo q (by simp)]at e;cases e
  ·exact e
 ·rw[e]
theorem znm (un:Un fs [] (unt H S) H' h h') (ok:HOk P w H h):Un fs [] H (rtk H S H') h h' where
  keep:=λb o e n hb hx=>un.keep b o e (zfr n) hb hx
  slot:=λb o e n hb hx=>un.slot b o e (zfr n) hb hx
  free:=λb o e n hx=>by
    unfold rtk;rw[zfr n,n];exact un.free b o e (zfr n) hx
  there:=un.there
  tups:=λb xs e=>zfd ok un (un.tups b xs (zhB b xs e))
  frzs:=λb o u e=>zfd ok un (un.frzs b o u (zjv b o u e))
  tbls:=λb ps e=>by
    obtain⟨m,z⟩:=un.tbls b ps (znw e λ_ z=>nomatch z);exact⟨m,zfd ok un z⟩
theorem zul (un:Un fs [] (unt H S) H' h h') (ok:HOk P w H h) (ok':HOk P w H' h') (hf:∀b∈fs,H b=none):HOk P w (rtk H S H') h':=λb o e=>by
 have back:∀{o},H' b=ae o→ObjOk P w (rtk H S H') h' b o:=λ{o} q=>(ok' b o q).stay (λ_ _ _ z=>z) (λc z=>zfd ok un z) λc xs z=>zfd ok un z;unfold rtk at e;split at e
 ·rename_i q;split at e
  ·rename_i u z;cases e;obtain⟨⟨xs,rfl⟩,_⟩:=zxW q z;obtain⟨l,its,n,r,g⟩:=ok b _ z;exact⟨l,its,n,r,un.keep b _ g q (λhb=>by rw[hf b hb]at z;cases z) (by simp)⟩
  ·exact back e
 ·rename_i u q;split at e
  ·rename_i u' z;cases e;exact back z
  ·rename_i z;cases e;obtain⟨ob,eo⟩:=(ok b u (zoi q)).ex;obtain⟨ob',eo'⟩:=un.there b ob eo (by simp);exact⟨⟨ob',eo'⟩,⟨ob',eo'⟩,λh1 h2 ⟨o,z⟩ k=>⟨o,k o z⟩⟩
theorem zvR (e:H b=ae o):∃o',rtk H S H' b=ae o':=by
 unfold rtk;split
 ·rw[e];exact⟨_,rfl⟩
 ·split
  ·exact⟨_,rfl⟩
  ·exact⟨_,rfl⟩
theorem zqL (un:Un fs [] (unt H S) H' h h') (ok:HOk P w H h) (r:RepS K H' S'):Ext H S (rtk H S H') S' where
  tup:=λb xs e=>(znm un ok).tups b xs e
  frz:=λb o u e=>(znm un ok).frzs b o u e
  fr:=λb xs e hs=>by
    refine⟨?_,?_⟩
    · unfold rtk;rw[zrL e hs,e]
    · cases q:S' b with
      |none=>rfl
      |some u=>
        obtain⟨v,z⟩:=(r b u q).some;obtain⟨ob,eo⟩:=(ok b _ e).ex;rw[un.free b ob eo (zrL e hs) (by simp)]at z;cases z
  all:=λb o e=>zvR e
theorem zuR (un:Un fs [] (unt H S) H' h h') (ok:HOk P w H h):Ext H' S' (rtk H S H') S' where
  tup:=λb xs e=>zfd ok un e
  frz:=λb o u e=>zfd ok un e
  fr:=λb xs e hs=>⟨zfd ok un e,hs⟩
  all:=λb o e=>⟨o,zfd ok un e⟩
theorem zyT (un:Un fs [] (unt H S) H' h h') (ok:HOk P w H h) (r:RepS K H' S'):RepS K (rtk H S H') S':=λa o e=>(r a o e).keep (zuR (S':=S') un ok) λu z=>zfd ok un z
end
theorem zxR{X:Cx}{k:Nat}{f:Addr}{fd:bF}{ps:List Str}{c:WSp}{E:WX}{pins:List (Addr×Obj)}{σ:St}{σW:WSt}{H:Hp}{S:Sto}{s:ag}{Q:VK}{QW:WK}{us:List Value}{vs:List V}{ws:List W}
  (F:FnOk X.prog X.w X.K X.mg X.base (CX1 X.prog X.w) k f fd ps (zdh X.K c)) (hr:Room k X.A) (hb:Binds X.K fd ps []) (I:Inv X pins σ H s) (r:Vals vs us) (rs:Reps X.K H ws vs) (hσ:RpSt X.K H σW σ) (hS:RepS X.K H S)
  (h:c ws S QW λcl S'=>E cl σW S') (hQ:Wish X.K H S QW Q)
  (hx:∀(cl:Str) (C a:Addr) (H':Hp) (S':Sto) (s':ag),aT X.K aK cl=ae (ae (.ref C))→s'.os=s.os→bP s'.gens→Un (frs X.stack) [] H H' s.heap s'.heap→HOk X.prog X.w H' s'.heap→Fly s.heap s'.heap H' a C→Ext H S H' S'→RepS X.K H' S'→E cl σW S'→X.xe (.ref a) s'):am (ap X.prog X.w) X.A (call (.ref f) us) (EP X pins σ Q) X.xe s:=by
 have e0:=I.env0;have sp:zdh X.K c vs (unt H S) (λv H'=>∃w S',Rep X.K H' w v∧RepS X.K H' S'∧QW w S') (λcv _ H'=>∃cl C S',cv= .ref C∧aT X.K aK cl=ae (ae (.ref C))∧RepS X.K H' S'∧E cl σW S'):=
  ⟨ws,S,QW,_,Reps.mv zhB zjv rs,hS.unt,h,λw S' v H' _ r1 r2 q=>⟨w,S',r1,r2,q⟩,λcl C S' H' hn hS' q=>⟨cl,C,S',rfl,hn,hS',q⟩⟩
 have e1:Env0 X.prog X.w X.K X.mg X.base X.A X.stack s (unt H S):=⟨e0.frames,e0.mod,λb o e=>⟨(e0.bs b o e).1,zfr (e0.bs b o e).2⟩,e0.bsz,e0.funs,λb hb=>zfr (e0.frf b hb),e0.hok.unt,e0.bare⟩;have hl:us.length=ps.length:=by rw[←r.length];exact F.len _ _ _ _ sp
 have hb':=hb s us I.kIn (by rw[bG];exact hl);rw[bG]at hb';refine wpAny_call (io (F.run X.A X.stack s (unt H S) ⟨us,[]⟩ us vs _ _ hr e1 hb' r sp) λrr s' hq=>?_);cases rr with
 |error e=>
  obtain⟨a,C,H',rfl,os,bare,un,ok',fly,cl,C',S',ec,hn,hS',q⟩:=hq;cases ec;refine hx cl C a (rtk H S H') S' s' hn os bare (znm un I.hok) (zul un I.hok ok' e0.frf) ?_ (zqL un I.hok hS') (zyT un I.hok hS') q;obtain⟨g1,g2,oe,vs',T,oT,ts,a1,a2,a3,a4,a5,a6,a7⟩:=fly;have free:∀{b:Addr},s.heap.get? b=none→H' b=none→rtk H S H' b=none:=λ{b} q1 q2=>by
   have hn:H b=none:=by
    cases z:H b with
    |none=>rfl
    |some u=>obtain⟨ob,eo⟩:=(I.hok b u z).ex;rw[q1]at eo;cases eo
   unfold rtk;rw[zfr hn,hn];exact q2
  exact⟨g1,free g1 g2,oe,vs',T,oT,ts,a1,a2,a3,a4,a5,free a5 a6,a7⟩
 |ok fl=>
  cases fl with
  |ret u=>
   obtain⟨v,H',os,bare,un,ok',rv,w,S',r1,r2,q⟩:=hq;exact⟨v,rtk H S H',I.call' os (znm un I.hok) (zul un I.hok ok' e0.frf) bare (λ_ z=>nomatch z),rv,hQ w S' v _ (zqL un I.hok r2) (r1.ext (zuR (S':=S') un I.hok)) (zyT un I.hok r2) q⟩
  |next=>exact ck hq
  |brk=>exact ck hq
  |cont=>exact ck hq
theorem zBh{X:Cx}{k:Nat}{f:Addr}{fd:bF}{ps:List Str}{c:WSp}{E:WX}{pins:List (Addr×Obj)}{σ:St}{σW:WSt}{H:Hp}{S:Sto}{s:ag}{Q:VK}{QW:WK}{us:List Value}{vs:List V}{ws:List W}
  (F:FnOk X.prog X.w X.K X.mg X.base (CX1 X.prog X.w) k f fd ps (zdh X.K c)) (hr:Room k X.A) (hb:Binds X.K fd ps []) (hE:Hook X E) (I:Inv X pins σ H s) (r:Vals vs us) (rs:Reps X.K H ws vs) (hσ:RpSt X.K H σW σ) (hS:RepS X.K H S)
  (h:c ws S QW λcl S'=>E cl σW S') (hQ:Wish X.K H S QW Q):am (ap X.prog X.w) X.A (call (.ref f) us) (EP X pins σ Q) X.xe s:=
 zxR (E:=E) F hr hb I r rs hσ hS h hQ λcl C a H' S' s' hn os bare un ok fly _ hS' q=>hE.far pins σ H s σW cl C a H' S' s' I hσ hn os bare un ok fly hS' q
theorem zqe{X:Cx}{pins:List (Addr×Obj)}{σ:St}{H':Hp}{s':ag}{a C:Addr}{hid:List Addr}{h':Heap}(I:Inv X pins σ H' s') (hst:X.stack=X.env::X.outer) (hf:X.env.frame=ae X.env.locals) (hex:X.ex=[])
  (h0:∀b∈hid,X.s₀.heap.get? b=none∧H' b=none) (ha:a∈hid) (L:iz (cU s'.heap (hid++frs X.stack)) X.stack a (.ref C) s'.heap h') :
  Un X.fs [] X.H₀ H' X.s₀.heap h'∧HOk X.prog X.w H' h'∧Fly X.s₀.heap h' H' a C:=by
 obtain⟨st,ff,tr,sl⟩:=L;have keepB:∀b o,s'.heap.get? b=ae o→b∉hid→b∉frs X.stack→h'.get? b=ae o:=λb o e h1 h2=>st b o (fo _ e λz=>(bh.mp z).elim h1 h2);have nh:∀b o,X.s₀.heap.get? b=ae o→b∉hid:=λb o e hb=>by rw[(h0 b hb).1]at e;cases e
 have slotB:∀b o,b∈frs X.stack→s'.heap.get? b=ae o→ ∃sl,h'.get? b=ae { o with slots:=sl }:=λb o hb e=>by
  obtain⟨_,o',eo',nf⟩:=I.stack.mem hb;rw[e]at eo';cases eo';exact sl b o e nf
 have nx:∀b:Addr,b∉X.ex:=λb=>by rw[hex];simp
 have fsS:∀b∈X.fs,b∈frs X.stack:=λb hb=>by
  rw[hst];unfold frs;rw[fP,hf];exact aG _ hb
 refine⟨⟨λb o e n hb _=>?_,λb o e n hb _=>?_,λb o e n _=>I.base.free b o e n (nx b),λb o e _=>?_,I.base.tups,I.base.frzs,I.base.tbls⟩,λb o e=>?_,(h0 a ha).1,(h0 a ha).2,?_⟩
 ·refine keepB b o (I.base.keep b o e n hb (nx b)) (nh b o e) λz=>?_;rcases av.mp (I.stkSub b z) with q |q
  ·exact absurd (bK (aI e) I.ok.above) (by rw[q];exact b5 _)
  ·exact hb q
 ·obtain⟨sl1,e1⟩:=I.base.slot b o e n hb (nx b);obtain⟨sl2,e2⟩:=slotB b _ (fsS b hb) e1;exact⟨sl2,e2⟩
 ·obtain⟨o',e1⟩:=I.base.there b o e (nx b);by_cases hb:b∈frs X.stack
  ·obtain⟨sl2,e2⟩:=slotB b _ hb e1;exact⟨_,e2⟩
  ·exact⟨o',keepB b o' e1 (nh b o e) hb⟩
 ·refine(I.hok b o e).stay (λc u hc q=>?_) (λ_ q=>q) λ_ _ q=>q;have tk:∃v,H' c=ae v:=by
   rcases hc with z |z
   ·exact⟨o,by rw[z];exact e⟩
   ·exact⟨_,z⟩
  obtain⟨v,tk⟩:=tk;exact keepB c u q (λz=>by rw[(h0 c z).2]at tk;cases tk) λz=>by rw[I.stkFree c z]at tk;cases tk
 ·obtain⟨oe,vs,T,oT,ts,e1,e2,e3,e4,e5,e6,e7,e8,e9⟩:=tr;have nf:T∉frs X.stack:=λhb=>by
   obtain⟨_,o,eo,nf⟩:=ff.mem hb;rw[e7]at eo;cases eo;exact nf ts e8
  have both:X.s₀.heap.get? T=none∧H' T=none:=by
   by_cases hT:T∈hid
   ·exact h0 T hT
   ·have z:s'.heap.get? T=none:=by
     cases q:s'.heap.get? T with
     |none=>rfl
     |some o=>
      rw[fo _ q λz=>(bh.mp z).elim hT nf]at e5;cases e5
    constructor
    ·cases q:X.s₀.heap.get? T with
     |none=>rfl
     |some o=>obtain⟨o',q'⟩:=I.base.there T o q (nx T);rw[z]at q';cases q'
    ·cases q:H' T with
     |none=>rfl
     |some u=>obtain⟨o',q'⟩:=(I.hok T u q).ex;rw[z]at q';cases q'
  exact⟨oe,vs,T,oT,ts,e1,e2,e3,e4,both.1,both.2,e6,e7,e8,e9⟩
theorem zjm{h base:Heap}{l:List bA}{hid:List Addr}(hl:h.FunFrames base l):h.FunFrames (cU h (hid++frs l)) l:=
 PySem.W.funFrames_hide hl λenv he a ha=>cm _ (ia.mpr ⟨env,he,ha⟩)
theorem zsP{P:aF}{w:aC}{K:ak}{mg:Str→Option Value}{base:Heap}{N:List Str}{qual:Str}{scope:Scope}{f:Addr}{cdv:Value}{A:aM}{outer:List bA}{s:ag}{H:Hp}{E:XK}{EW:Str→Sto→Prop}
    (hEW:∀cl C S' H',aT K aK cl=ae (ae (.ref C))→RepS K H' S'→EW cl S'→E (.ref C) none H'):Hook (zwX (CX1 P w) P w K mg base N qual scope f cdv A outer s H E) (λc _ S'=>EW c S') where
  own:=cJ.leaving
  far:=λpins σ H1 s1 σW cl C a H' S' s' I hσ hn os bare un ok fly hS q=>by
    have I':=I.call' os un ok bare (λ_ z=>nomatch z);obtain⟨g1,g2,oe,vs,T,oT,ts,e1,e2,e3,e4,g3,g4,e5,e6,e7,e8⟩:=fly;have s0:∀{b:Addr},s1.heap.get? b=none→s.heap.get? b=none:=λ{b} z=>by
      cases q:s.heap.get? b with
      |none=>rfl
      |some o=>obtain⟨o',q'⟩:=I.base.there b o q (by exact λz=>nomatch z);rw[z]at q';cases q'
    refine wpAny_leaving_next (base:=cU s'.heap ([a,T]++frs (cj qual scope s.heap.objs.size f cdv::outer))) I'.ok.frames (zjm I'.stack) rfl ⟨oe,vs,T,oT,ts,e1,e2,e3,e4,dA _ (by simp),e5,e6,e7,e8⟩ (λb o z=>fB _ z) (dA _ (by simp)) λh' L=>?_;obtain⟨u1,u2,u3⟩:=zqe (hid:=[a,T]) I' rfl rfl rfl (λb hb=>by
      rcases av.mp hb with rfl |hb
      · exact⟨s0 g1,g2⟩
      · rw[bg.mp hb];exact⟨s0 g3,g4⟩) (by simp) L
    exact⟨a,C,H',rfl,I'.os,I'.bare,u1,u2,u3,hEW cl C S' H' hn hS q⟩
  near:=λpins σ H1 s1 σW cl C a S h' args I hσ hn me hS q=>by
    have I':=I.kept (t':=s1.toks) me.keeps;obtain⟨t,e1,_,_⟩:=me.there;have s0:s.heap.get? a=none:=by
      cases q:s.heap.get? a with
      |none=>rfl
      |some o=>obtain⟨o',q'⟩:=I.base.there a o q (by exact λz=>nomatch z);rw[me.new]at q';cases q'
    have h1:H1 a=none:=by
      cases q:H1 a with
      |none=>rfl
      |some u=>obtain⟨o',q'⟩:=(I.hok a u q).ex;rw[me.new]at q';cases q'
    refine wpAny_leaving_first (base:=cU h' ([a]++frs (cj qual scope s.heap.objs.size f cdv::outer))) (s:={ s1 with heap:=h' }) I'.ok.frames (zjm I'.stack) rfl e1 (λb o z=>fB _ z) (dA _ (by simp)) rfl rfl λh'' L=>?_;obtain⟨u1,u2,u3⟩:=zqe (hid:=[a]) I' rfl rfl rfl (λb hb=>by rw[bg.mp hb];exact⟨s0,h1⟩) (by simp) L
    exact⟨a,C,H1,rfl,I'.os,I'.bare,u1,u2,u3,hEW cl C S H1 hn hS q⟩
def zcU (S:Sto) (a:Addr) (Q:List W→Prop):Prop:=match S a with
 |some (.lst ws)=>Q ws
 |_=>False
theorem zai{S:Sto}{a:Addr}{Q:List W→Prop}{ws:List W}(h:S a=ae (.lst ws)):zcU S a Q=Q ws:=by unfold zcU;rw[h]
theorem zbm{S:Sto}{a:Addr}{Q:List W→Prop}(h:zcU S a Q):∃ws,S a=ae (.lst ws)∧Q ws:=by
 unfold zcU at h;split at h
 ·exact⟨_, ‹_›,h⟩
 ·exact h.elim
noncomputable def zsw:W→Sto→(Bool→Sto→Prop)→Prop
 | .non,S,Q=>Q false S
 | .bl b,S,Q=>Q b S
 | .int i,S,Q=>Q (i != 0) S
 | .str x,S,Q=>x.length≤sizeLine∧Q ((x.length:Int) != 0) S
 | .tup ws,S,Q=>Q (!ws.isEmpty) S
 | .ref a,S,Q=>zcU S a λws=>Q (!ws.isEmpty) S
 | .scr ns,S,Q=>Q (!ns.isEmpty) S
noncomputable def zgN (t:WE):WT:=λE σ S Q=>t E σ S λw S'=>zsw w S' Q
noncomputable def wTb (t:WE):WT:=λE σ S Q=>t E σ S λw S'=>match w with
 | .bl b=>Q b S'
 |_=>False
noncomputable def znC (t u:WT):WT:=λE σ S Q=>t E σ S λc S1=>if c=true then u E σ S1 Q else Q false S1
noncomputable def wOr (t u:WT):WT:=λE σ S Q=>t E σ S λc S1=>if c=true then Q true S1 else u E σ S1 Q
noncomputable def ztE (t:WT):WT:=λE σ S Q=>t E σ S λc S1=>Q (!c) S1
noncomputable def zqR (t u:WE):WE:=λE σ S Q=>t E σ S λw S1=>match w with
 | .bl true=>u E σ S1 Q
 | .bl false=>Q (.bl false) S1
 |_=>False
noncomputable def zAj (t u:WE):WE:=λE σ S Q=>t E σ S λw S1=>match w with
 | .bl false=>u E σ S1 Q
 | .bl true=>Q (.bl true) S1
 |_=>False
noncomputable def wIf (c:WT) (t u:WE):WE:=λE σ S Q=>c E σ S λb S1=>if b=true then t E σ S1 Q else u E σ S1 Q
noncomputable def zcq (c:WT) (t u:WS):WS:=λE D σ S=>c E σ S λb S1=>if b=true then t E D σ S1 else u E D σ S1
noncomputable def wNext:WS:=λ_ D σ S=>D.nx σ S
noncomputable def zas (t u:WS):WS:=λE D σ S=>t E { D with nx:=u E D } σ S
noncomputable def wRet (e:WE):WS:=λE D σ S=>e E σ S D.rt
noncomputable def zcG (e:WE):WS:=λE D σ S=>e E σ S λ_ S1=>D.nx σ S1
noncomputable def wGN (i:Nat):WG:=λw σ S Q=>Q (σ.set i (ae w)) S
noncomputable def wAsg (e:WE) (g:WG):WS:=λE D σ S=>e E σ S λw S1=>g w σ S1 D.nx
abbrev WGs:=List W→WSt→Sto→(WSt→Sto→Prop)→Prop
noncomputable def zdP:WGs:=λws σ S Q=>match ws with
 | []=>Q σ S
 |_=>False
noncomputable def zaD (g:WG) (u:WGs):WGs:=λws σ S Q=>match ws with
 | []=>False
 |w::r=>g w σ S λσ' S'=>u r σ' S' Q
noncomputable def wGT (u:WGs):WG:=λw σ S Q=>match w with
 | .tup ws=>u ws σ S Q
 |_=>False
section
variable {X:Cx}{a b c e:Expr}{pos:aB}{ta tb:WE}{tc tA tB':WT}{st:Stmt}{rest:List Stmt}{t u:WS}
theorem zrG{K:ak}{H:Hp}{w:W}{v:V}{S:Sto}{QW:Bool→Sto→Prop}(r:Rep K H w v) (hS:RepS K H S) (h:zsw w S QW):∃k,zAa K v H k∧QW k S:=by
 cases r with
 |non=>exact⟨false,rfl,h⟩
 |bl b=>exact⟨b,rfl,h⟩
 |int i=>exact⟨_,rfl,h⟩
 |str x=>exact⟨_,⟨h.1,rfl⟩,h.2⟩
 |ref a=>
  obtain⟨ws,e,h⟩:=zbm h;obtain⟨vs,e1,r1⟩:=hS a _ e;refine⟨_, .inl ⟨vs, .of e1,rfl⟩,?_⟩;have q:vs.isEmpty=ws.isEmpty:=by cases r1<;>rfl
  rw[q];exact h
 | @scr a ns f=>
  refine⟨_, .inl ⟨_,f.sq,rfl⟩,?_⟩;have q:(ns.map V.int).isEmpty=ns.isEmpty:=by cases ns<;>rfl
  rw[q];exact h
 | @tup a vs ws f hs=>
  refine⟨_, .inr (.inl ⟨vs, .of f,rfl⟩),?_⟩;have q:vs.isEmpty=ws.isEmpty:=by cases hs<;>rfl
  rw[q];exact h
theorem zbA (ha:JE X a ta) (he:∀whole,isTrue a X.env whole=(do let v ←whole;standAt a.pos;holding [v] (truthy v)):=by intro _;rfl):JT X a (zgN ta):=λE hE=>
 (ztu (ha E hE) he).mono λσ H Q ⟨σW,S,QW,hσ,hS,ht,hQ⟩=>⟨σW,S,_,hσ,hS,ht,λw S1 v H1 e1 r1 hS1 h1=>by
  obtain⟨k,hk,q⟩:=zrG r1 hS1 h1;exact⟨k,hk,hQ k S1 H1 e1 hS1 q⟩⟩
theorem zgk{op:cI}{r:R2}{wr:W2}(ho:OpR X (bp op) r) (hw:OpW X.K r wr) (ha:JE X a ta) (hb:JE X b tb) (hm:cW op b=false):JT X (.Compare a [op] [b] pos) (wTb (wOp wr ta tb)):=λE hE=>
 (zvr ho (ha E hE) (hb E hE) hm).mono λσ H Q ⟨σW,S,QW,hσ,hS,ht,hQ⟩=>by
  refine zha (Q:=λv H1=>∃k,v= .bl k∧Q k H1) ⟨σW,S,λw S'=>match w with
   | .bl b=>QW b S'
   |_=>False,hσ,hS,ht,λw S1 v H1 e1 r1 hS1 h1=>?_⟩ λH2 x y wx wy S QW rx ry hS q hQ=>hw H2 x y wx wy S _ QW rx ry hS q hQ
  cases r1 with
  |bl k=>exact⟨k,rfl,hQ k S1 H1 e1 hS1 h1⟩
  |_=>exact h1.elim
theorem zhI (ha:JT X a tA):JT X (.UnaryOp .Not a pos) (ztE tA):=λE hE=>
 (zyb (ha E hE)).mono λσ H Q ⟨σW,S,QW,hσ,hS,ht,hQ⟩=>⟨σW,S,_,hσ,hS,ht,λb S1 H1 e1 hS1 h1=>hQ _ S1 H1 e1 hS1 h1⟩
theorem JW.jt (h:JW X a tA):JT X a tA:=λE hE=>(h E hE).pt
theorem zen (ha:JT X a tA):JW X (.BoolOp .And [a] pos) tA:=λE hE=>zwe (ha E hE)
theorem zjW (ha:JT X a tA):JW X (.BoolOp .Or [a] pos) tA:=λE hE=>zyh (ha E hE)
theorem zgd{rest:List Expr}(ha:JT X a tA) (hb:JW X (.BoolOp .And (b::rest) pos) tB'):JW X (.BoolOp .And (a::b::rest) pos) (znC tA tB'):=λE hE=>
 (zxU (ha E hE) (hb E hE)).mono λσ H Q ⟨σW,S,QW,hσ,hS,ht,hQ⟩=>⟨σW,S,_,hσ,hS,ht,λb S1 H1 e1 hS1 h1=>by
  cases b with
  |true=>exact⟨σW,S1,_,hσ.ext e1,hS1,h1,λb S2 H2 e2 hS2 h2=>hQ b S2 H2 (e1.trans e2) hS2 h2⟩
  |false=>exact hQ _ S1 H1 e1 hS1 h1⟩
theorem zqf{rest:List Expr}(ha:JT X a tA) (hb:JW X (.BoolOp .Or (b::rest) pos) tB'):JW X (.BoolOp .Or (a::b::rest) pos) (wOr tA tB'):=λE hE=>
 (zBz (ha E hE) (hb E hE)).mono λσ H Q ⟨σW,S,QW,hσ,hS,ht,hQ⟩=>⟨σW,S,_,hσ,hS,ht,λb S1 H1 e1 hS1 h1=>by
  cases b with
  |false=>exact⟨σW,S1,_,hσ.ext e1,hS1,h1,λb S2 H2 e2 hS2 h2=>hQ b S2 H2 (e1.trans e2) hS2 h2⟩
  |true=>exact hQ _ S1 H1 e1 hS1 h1⟩
theorem zos{op}(h:JE X a ta):JE X (.BoolOp op [a] pos) ta:=λE hE=>zyc (h E hE)
theorem zqK{rest:List Expr}(ha:JE X a ta) (hb:JE X (.BoolOp .And (b::rest) pos) tb):JE X (.BoolOp .And (a::b::rest) pos) (zqR ta tb):=λE hE=>
 (zxY (ha E hE) (hb E hE)).mono λσ H Q ⟨σW,S,QW,hσ,hS,ht,hQ⟩=>⟨σW,S,_,hσ,hS,ht,λw S1 v H1 e1 r1 hS1 h1=>by
  cases r1 with
  |bl k=>
   refine⟨k,rfl,?_⟩;cases k with
   |true=>exact⟨σW,S1,_,hσ.ext e1,hS1,h1,hQ.from e1⟩
   |false=>exact hQ _ S1 _ H1 e1 (.bl false) hS1 h1
  |_=>exact h1.elim⟩
theorem zBn{rest:List Expr}(ha:JE X a ta) (hb:JE X (.BoolOp .Or (b::rest) pos) tb):JE X (.BoolOp .Or (a::b::rest) pos) (zAj ta tb):=λE hE=>
 (zAY (ha E hE) (hb E hE)).mono λσ H Q ⟨σW,S,QW,hσ,hS,ht,hQ⟩=>⟨σW,S,_,hσ,hS,ht,λw S1 v H1 e1 r1 hS1 h1=>by
  cases r1 with
  |bl k=>
   refine⟨k,rfl,?_⟩;cases k with
   |false=>exact⟨σW,S1,_,hσ.ext e1,hS1,h1,hQ.from e1⟩
   |true=>exact hQ _ S1 _ H1 e1 (.bl true) hS1 h1
  |_=>exact h1.elim⟩
theorem zBd (hc:JT X c tc) (ha:JE X a ta) (hb:JE X b tb):JE X (.IfExp c a b pos) (wIf tc ta tb):=λE hE=>
 (zsX (hc E hE) (ha E hE) (hb E hE)).mono λσ H Q ⟨σW,S,QW,hσ,hS,ht,hQ⟩=>⟨σW,S,_,hσ,hS,ht,λk S1 H1 e1 hS1 h1=>by
  cases k with
  |true=>exact⟨σW,S1,_,hσ.ext e1,hS1,h1,hQ.from e1⟩
  |false=>exact⟨σW,S1,_,hσ.ext e1,hS1,h1,hQ.from e1⟩⟩
theorem zav:JSs X [] wNext:=λE hE=>pss_nil.mono λD σ H ⟨σW,S,DW,hσ,hS,ht,hD⟩=>hD.nx σW S σ H .refl hσ hS ht
theorem zad (h1:JS X st t) (h2:JSs X rest u):JSs X (st::rest) (zas t u):=λE hE=>
 (ztS (h1 E hE) (h2 E hE)).mono λD σ H ⟨σW,S,DW,hσ,hS,ht,hD⟩=>
  ⟨σW,S,{ DW with nx:=u E DW },hσ,hS,ht,⟨λσW' S' σ' H' e r hS' q=>⟨σW',S',DW,r,hS',q,hD.from e⟩,hD.rt,hD.bk,hD.ct⟩⟩
theorem zag (h1:JS X st t):JSs X [st] t:=λE hE=>zrh (h1 E hE)
theorem zaQ (he:JE X e ta) (hs:dE e none pos.line X.env=pure false:=by rfl):JS X (.Expr e pos) (zcG ta):=λE hE=>
 (zxb (he E hE) hs).mono λD σ H ⟨σW,S,DW,hσ,hS,ht,hD⟩=>⟨σW,S,_,hσ,hS,ht,λw S1 v H1 e1 r1 hS1 h1=>hD.nx σW S1 σ H1 e1 (hσ.ext e1) hS1 h1⟩
theorem zam (he:JE X e ta):JS X (.Return (ae e) pos) (wRet ta):=λE hE=>
 (zyn (he E hE)).mono λD σ H ⟨σW,S,DW,hσ,hS,ht,hD⟩=>⟨σW,S,_,hσ,hS,ht,hD.rt⟩
theorem zaL{a b:List Stmt}(hc:JT X c tc) (ha:JSs X a t) (hb:JSs X b u):JS X (.If c a b pos) (zcq tc t u):=λE hE=>
 (zAT (hc E hE) (ha E hE) (hb E hE)).mono λD σ H ⟨σW,S,DW,hσ,hS,ht,hD⟩=>⟨σW,S,_,hσ,hS,ht,λk S1 H1 e1 hS1 h1=>by
  cases k with
  |true=>exact⟨σW,S1,DW,hσ.ext e1,hS1,h1,hD.from e1⟩
  |false=>exact⟨σW,S1,DW,hσ.ext e1,hS1,h1,hD.from e1⟩⟩
theorem zap{i:Nat}{x:Str}(hN:X.N.Nodup) (hi:X.N[i]? =ae x) (hx:Loc X.env.scope x) (hf:X.fn x=true∨X.env.scope.names.lookup x=ae .local:=by first |exact .inl rfl |exact .inr rfl |assumption):JG X (.Name x pos) (wGN i):=λE hE=>
 (zwx hN hi hx hf).mono λv σ H Q ⟨w,σW,S,P,r,hσ,hS,ht,hP⟩=>hP _ S _ H .refl (hσ.set r i) hS ht
def JGs (X:Cx) (tgs:List Expr) (t:WGs):Prop:=∀E,Hook X E→PGs X tgs (λvs σ H Q=>∃ws σW S P,Reps X.K H ws vs∧RpSt X.K H σW σ∧RepS X.K H S∧t ws σW S P∧Goes X.K H S P Q)
theorem zem:JGs X [] zdP:=λE hE pins s σ H vs us Q I r h=>by
 obtain⟨ws,σW,S,P,rs,hσ,hS,ht,hP⟩:=h;unfold zdP at ht;split at ht
 ·cases rs;exact zvJ pins s σ H [] us Q I r ⟨rfl,hP σW S σ H .refl hσ hS ht⟩
 ·exact ht.elim
theorem zaO{es:List Expr}{g:WG}{gs:WGs}(h1:JG X e g) (h2:JGs X es gs)
  (hs:(cc (e::es) X.env).map (·.2)=assign e X.env::(cc es X.env).map (·.2):=by rfl):JGs X (e::es) (zaD g gs):=λE hE pins s σ H vs us Q I r h=>by
 obtain⟨ws,σW,S,P,rs,hσ,hS,ht,hP⟩:=h;unfold zaD at ht;split at ht
 ·exact ht.elim
 ·cases rs with
  |cons r1 r2=>
   refine zsE (h1 E hE) (h2 E hE) hs pins s σ H _ us Q I r ⟨_,_,rfl,⟨_,σW,S,_,r1,hσ,hS,ht,λσW' S' σ' H' e' rr hS' q=>?_⟩⟩;exact⟨_,σW',S',P,r2.ext e',rr,hS',q,hP.from e'⟩
theorem zfY{es:List Expr}{k n:Nat}{gs:WGs}(h:JGs X es gs) (hlen:∀ws σ S P,gs ws σ S P→ws.length=n)
  (hn:(cc es X.env).length=n:=by rfl) (hst:(cc es X.env).findIdx? (·.1)=none:=by rfl) (hcl:X.calm=true:=by rfl):JG X (.Tuple es k pos) (wGT gs):=λE hE=>
 (zzU hcl (h E hE) hn hst).mono λv σ H Q ⟨w,σW,S,P,r,hσ,hS,ht,hP⟩=>by
  cases r with
  |tup f hs=>exact⟨_,_,rfl, .of f,by rw[←hs.length];exact hlen _ _ _ _ ht,⟨_,σW,S,P,hs,hσ,hS,ht,hP⟩⟩
  |_=>exact ht.elim
theorem zyD{tg:Expr}{g:WG}(he:JE X e ta) (hg:JG X tg g) (hs:swapsWithSole [tg] e pos.line X.env=pure false:=by rfl) (hw:swappedStores [tg] e X.env=pure none:=by rfl)
  (h1:(cc [tg] X.env).map (·.2)=[assign tg X.env]:=by rfl):JS X (.Assign [tg] e pos) (wAsg ta g):=λE hE=>
 (zzm (he E hE) (hg E hE) hs hw h1).mono λD σ H ⟨σW,S,DW,hσ,hS,ht,hD⟩=>⟨σW,S,_,hσ,hS,ht,λw S1 v H1 e1 r1 hS1 h1=>⟨w,σW,S1,_,r1,hσ.ext e1,hS1,h1,hD.nx.from e1⟩⟩
theorem zao{i:Nat}{x:Str}{pos':aB}(hN:X.N.Nodup) (hi:X.N[i]? =ae x) (hx:Loc X.env.scope x) (he:JE X e ta) (hs:dE e (ae (.Name x pos')) pos.line X.env=pure false:=by rfl)
  (hf:X.fn x=true∨X.env.scope.names.lookup x=ae .local:=by first |exact .inl rfl |exact .inr rfl |assumption):JS X (.Assign [.Name x pos'] e pos) (wAsg ta (wGN i)):=λE hE=>
 (zuo hN hi hx (he E hE) hs hf).mono λD σ H ⟨σW,S,DW,hσ,hS,ht,hD⟩=>⟨σW,S,_,hσ,hS,ht,λw S1 v H1 e1 r1 hS1 h1=>hD.nx _ S1 _ H1 e1 ((hσ.ext e1).set r1 i) hS1 h1⟩
end
noncomputable def waNil:WA:=λ_ _ S Q=>Q [] S
noncomputable def zab (t:WE) (u:WA):WA:=λE σ S Q=>t E σ S λw S1=>u E σ S1 λws S2=>Q (w::ws) S2
noncomputable def zcf (t:WA):WE:=λE σ S Q=>t E σ S λws S1=>ws.length≤sizeLine∧Q (.tup ws) S1
noncomputable def zdF (t:WA):WL:=λE σ S Q=>t E σ S λws S1=>ws.length≤sizeLine∧Q ws S1
noncomputable def zcX (t:WL):WE:=λE σ S Q=>t E σ S λws S1=>∀a,S1 a=none→Q (.ref a) (put S1 a (.lst ws))
section
variable {X:Cx}{e:Expr}{es:List Expr}{te:WE}{ta:WA}{tl:WL}{pos:aB}
theorem zac:JA X [] waNil:=λE hE=>pa_nil.mono λσ H Q ⟨σW,S,QW,hσ,hS,ht,hQ⟩=>hQ [] S [] H .refl .nil hS ht
theorem zaa (ha:JE X e te) (hr:JA X es ta) (hs:ao (e::es) X.env=(false,ax e X.env)::ao es X.env:=by rfl):JA X (e::es) (zab te ta):=λE hE=>
 (zdy (ha E hE) (hr E hE) hs).mono λσ H Q ⟨σW,S,QW,hσ,hS,ht,hQ⟩=>⟨σW,S,_,hσ,hS,ht,λw S1 v H1 e1 r1 hS1 h1=>⟨σW,S1,_,hσ.ext e1,hS1,h1,λws S2 vs H2 e2 r2 hS2 h2=>
  hQ (w::ws) S2 (v::vs) H2 (e1.trans e2) (.cons (r1.ext e2) r2) hS2 h2⟩⟩
theorem zau{x1}(h:JA X es ta):JE X (.Tuple es x1 pos) (zcf ta):=λE hE=>
 (zzA (h E hE)).mono λσ H Q ⟨σW,S,QW,hσ,hS,ht,hQ⟩=>⟨σW,S,_,hσ,hS,ht,λws S1 vs H1 e1 r1 hS1 h1=>by
  refine⟨by rw[←r1.length];exact h1.1,λp hp=>hQ (.tup ws) S1 _ _ (e1.trans (.new hp)) (.tup zay (r1.ext (.new (S:=S1) hp))) (hS1.new hp) h1.2⟩⟩
theorem zaK (h:JA X es ta):JL X (.List es pos) (zdF ta):=λE hE=>
 (zya (h E hE)).mono λσ H Q ⟨σW,S,QW,hσ,hS,ht,hQ⟩=>⟨σW,S,_,hσ,hS,ht,λws S1 vs H1 e1 r1 hS1 h1=>by
  refine⟨by rw[←r1.length];exact h1.1,λp hp=>hQ ws S1 vs p _ (e1.trans (.new hp)) (e1.free hp) zay (hS1.free hp) (r1.ext (.new (S:=S1) hp)) (hS1.new hp) h1.2⟩⟩
theorem zaI (h:JL X e tl):JE X e (zcX tl):=λE hE=>
 (h E hE).mono λσ H Q ⟨σW,S,QW,hσ,hS,ht,hQ⟩=>⟨σW,S,_,hσ,hS,ht,λws S1 vs a H1 e1 fa ea na r1 hS1 h1=>by
  refine hQ (.ref a) (put S1 a (.lst ws)) (.ref a) H1 ⟨e1.tup,e1.frz,λb o q g=>by
   have hb:b≠a:=by rintro rfl;rw[fa]at q;cases q
   rw[zaG hb];exact e1.fr b o q g,e1.all⟩ (.ref a) (λb o q=>?_) (h1 a na)
  by_cases hb:b=a
  ·subst hb;rw[zah]at q;cases q;exact⟨vs,ea,r1⟩
  ·rw[zaG hb]at q;exact hS1 b o q⟩
end
noncomputable def zan (c:WSp) (t:WA):WE:=λE σ S Q=>t E σ S λws S1=>c ws S1 Q λcl S2=>E cl σ S2
noncomputable def zca (n k:Nat) (body:WS):WSp:=λws S Q E=>ws.length=k∧body (λc _ S'=>E c S') { nx:=λ_ S'=>∃S'',Sub S'' S'∧Q .non S'',rt:=λw S'=>∃S'',Sub S'' S'∧Q w S'' } (ws.map ae++aN (n - k) none) S
section
variable {X:Cx}{k:Nat}{f:Addr}{fd:bF}{ps:List Str}{c:WSp}{x:Str}{p pos:aB}{e:Expr}{es:List Expr}{t:WA}
theorem zaf (F:FnOk X.prog X.w X.K X.mg X.base (CX1 X.prog X.w) k f fd ps (zdh X.K c)) (hr:Room k X.A) (hg:Gl X x) (hm:X.mg x=ae (.ref f)) (hk:dW X.K (.ref f)=true) (hb:Binds X.K fd ps [])
  (ha:JA X (e::es) t) (hdb:(x == ("__debug__" :Str))=false:=by decide) (he:ao (e::es) X.env=(false,ax e X.env)::ao es X.env:=by rfl) (hpl:(aS pos (ao es X.env)).any (·.1)=false:=by rfl) :
  JE X (.Call (.Name x p) (e::es) [] pos) (zan c t):=λE hE pins s σ H Q I h=>by
 obtain⟨σW,S,QW,hσ,hS,ht,hQ⟩:=h;refine fG (zhx I hg hm ?_ hdb);refine jS (h₀:=X.base) I.ok.mod.kin hk (thn (ha E hE pos pins s σ H (λvs H1=>∃ws S1,Reps X.K H1 ws vs∧RpSt X.K H1 σW σ∧RepS X.K H1 S1∧c ws S1 QW (λcl S'=>E cl σW S')∧Wish X.K H1 S1 QW Q) I
  ⟨σW,S,_,hσ,hS,ht,λws S1 vs H1 e1 r1 hS1 h1=>⟨ws,S1,r1,hσ.ext e1,hS1,h1,hQ.from e1⟩⟩) λus s1 ⟨vs,H1,I1,r,ws,S1,r1,hσ1,hS1,h1,hQ1⟩=>⟨I1.kIn,?_⟩) he hpl
 exact zBh F hr hb hE I1 r r1 hσ1 hS1 h1 hQ1
theorem zqU{K:ak}{H:Hp}{N:List Str}{ws:List W}{vs:List V}(h:Reps K H ws vs):RpSt K H (ws.map ae++aN (N.length - ws.length) none) (start N vs):=by
 have go:∀{ws:List W}{vs:List V}(m:Nat),Reps K H ws vs→RpSt K H (ws.map ae++aN m none) (vs.map ae++aN m none):=by
  intro ws
  induction ws with
  |nil=>
   intro vs m h;cases h
   induction m with
   |zero=>exact .nil
   |succ m ih=>exact .cons trivial ih
  |cons w ws ih=>
   intro vs m h;cases h with
   |cons r rs=>exact .cons r (ih m rs)
 unfold start;rw[←h.length];exact go _ h
theorem zaE{P:aF}{w:aC}{K:ak}{mg:Str→Option Value}{base:Heap}{x qual:Str}{st:Stmt}{f:Addr}{fd:bF}{N ps:List Str}{r n k:Nat}{body:WS}(F:Fun K x qual st f fd) (S:FnScope N ps (zaj st)) (hn:N.length=n) (hk:ps.length=k)
  (hbody:∀(cdv:Value) (A:aM) (outer:List bA) (s:ag) (H:Hp) (E:XK),Room r (A.deeper (cj qual (zaj st) s.heap.objs.size f cdv))→
   JSs (zwX (CX1 P w) P w K mg base N qual (zaj st) f cdv A outer s H E) (zgq st) body):FnOk P w K mg base (CX1 P w) (r+1) f fd ps (zdh K (zca n k body)):=by
 obtain⟨oc,od,kV,doc,pm,an,cdv,ct,osl,rfl,lk,hcd⟩:=F.ex;refine zAK lk hcd S (λvs H Q E h=>?_) λA outer s H vs Q E hr h=>?_
 ·obtain⟨ws,S,QW,EW,rs,_,h,_⟩:=h;rw[←rs.length,h.1,hk]
 ·obtain⟨ws,S',QW,EW,rs,hS,h,hQ,hEW⟩:=h;refine⟨_,hbody cdv A outer s H E hr (λc _ S'=>EW c S') (zsP hEW),?_⟩;refine⟨_,S',{ nx:=λ_ S'=>∃S'',Sub S'' S'∧QW .non S'',rt:=λw S'=>∃S'',Sub S'' S'∧QW w S'' },zqU (N:=N) rs,hS,by rw[hn,h.1];exact h.2,⟨λσW S1 σ H1 e1 rr hS1 q=>?_,λw S1 v H1 e1 rr hS1 q=>?_,λ_ _ _ _ _ _ _ q=>q,λ_ _ _ _ _ _ _ q=>q⟩⟩
  ·obtain⟨S2,sb,q⟩:=q;exact hQ .non S2 .non H1 (e1.trans (.drop sb)) .non (hS1.sub sb) q
  ·obtain⟨S2,sb,q⟩:=q;exact hQ w S2 v H1 (e1.trans (.drop sb)) rr (hS1.sub sb) q
end
noncomputable def zdk (C:Int→Int→Prop) (g:Int→Int→W):W2
 | .int i, .int j,S,Q=>C i j∧Q (g i j) S
 |_,_,_,_=>False
noncomputable def zfK (g:Int→Int→W):W2
 | .int i, .int j,S,Q=>Q (g i j) S
 |_,_,_,_=>False
theorem zjs{K:ak}{C:Int→Int→Prop}{g:Int→Int→Int}:OpW K (rI C λi j=> .int (g i j)) (zdk C λi j=> .int (g i j)):=λH x y wx wy S Q QW rx ry hS h hQ=>by
 cases rx<;>cases ry<;>first |exact⟨_,_,rfl,rfl,h.1,hQ _ S _ H .refl (.int _) hS h.2⟩ |exact h.elim
theorem zsW{K:ak}{g:Int→Int→Int}:OpW K (rI0 λi j=> .int (g i j)) (zfK λi j=> .int (g i j)):=λH x y wx wy S Q QW rx ry hS h hQ=>by
 cases rx<;>cases ry<;>first |exact⟨_,_,rfl,rfl,hQ _ S _ H .refl (.int _) hS h⟩ |exact h.elim
theorem zgY{K:ak}{g:Int→Int→Bool}:OpW K (rI0 λi j=> .bl (g i j)) (zfK λi j=> .bl (g i j)):=λH x y wx wy S Q QW rx ry hS h hQ=>by
 cases rx<;>cases ry<;>first |exact⟨_,_,rfl,rfl,hQ _ S _ H .refl (.bl _) hS h⟩ |exact h.elim
noncomputable def zdT:W2
 | .int i, .int j,S,Q=>Q (.int (i+j)) S
 | .str x, .str y,S,Q=>x.length+y.length≤sizeLine∧Q (.str (x++y)) S
 | .tup xs, .tup ys,S,Q=>xs.length+ys.length≤sizeLine∧Q (.tup (xs++ys)) S
 | .ref a, .ref b,S,Q=>zcU S a λxs=>zcU S b λys=>xs.length+ys.length≤sizeLine∧ ∀p,S p=none→Q (.ref p) (put S p (.lst (xs++ys)))
 |_,_,_,_=>False
section
variable {X:Cx}
theorem Reps.nil_r{K:ak}{H:Hp}{ws:List W}(h:Reps K H ws []):ws=[]:=by cases h;rfl
theorem op_catT0:OpR X (bQ .Add) (λx y H Q=>∃a b ys,x= .ref a∧y= .ref b∧SqT X.K H a []∧SqT X.K H b ys∧Q (.ref b) H):=by
 intro pins s σ H x y v u Q I rx ry h;obtain⟨a,b,ys,rfl,rfl,ha,hb,q⟩:=h;cases rx;cases ry;obtain⟨its,r1,p1,_⟩:=I.tuple ha;obtain⟨its2,r2,p2,_⟩:=I.tuple hb;cases r1;obtain⟨⟨cls,dd,data,sl⟩,ho,hc,n,hd⟩:=id p1;obtain⟨⟨cls2,dd2,data2,sl2⟩,ho2,hc2,n2,hd2⟩:=id p2;simp only at hc hd hc2 hd2;subst hc hd hc2 hd2;exact iO ⟨_,ho,rfl⟩ ⟨_,ho2,rfl⟩ g_ iq gK gH (iE _ _)
   (tuple_addW0 a b _ _ n n2 dd dd2 sl sl2 (by simp)) ⟨ho,ho2,⟨.ref b,H,I,rfl,q⟩⟩
theorem zqj:OpR X (bQ .Add) (λx y H Q=>(rI0 λi j=> .int (i+j)) x y H Q∨(∃i j,x= .str i∧y= .str j∧i.length+j.length≤sizeLine∧Q (.str (i++j)) H)∨
  (∃a b ys,x= .ref a∧y= .ref b∧SqT X.K H a []∧SqT X.K H b ys∧Q (.ref b) H)∨zxc X.K x y H Q∨zAh x y H Q):=op_add.or (op_add_str.or (op_catT0.or (op_catT.or zmP)))
theorem zwr{K:ak}:OpW K (λx y H Q=>(rI0 λi j=> .int (i+j)) x y H Q∨(∃i j,x= .str i∧y= .str j∧i.length+j.length≤sizeLine∧Q (.str (i++j)) H)∨
  (∃a b ys,x= .ref a∧y= .ref b∧SqT K H a []∧SqT K H b ys∧Q (.ref b) H)∨zxc K x y H Q∨zAh x y H Q) zdT:=λH x y wx wy S Q QW rx ry hS h hQ=>by
 cases rx with
 |int i=>
  cases ry with
  |int j=>exact .inl ⟨i,j,rfl,rfl,hQ _ S _ H .refl (.int _) hS h⟩
  |_=>exact h.elim
 |str i=>
  cases ry with
  |str j=>exact .inr (.inl ⟨i,j,rfl,rfl,h.1,hQ _ S _ H .refl (.str _) hS h.2⟩)
  |_=>exact h.elim
 | @tup a vs ws f hs=>
  cases ry with
  | @tup b us zs g ks=>
   cases hs with
   |nil=>exact .inr (.inr (.inl ⟨a,b,us,rfl,rfl, .of f, .of g,hQ (.tup zs) S _ H .refl (.tup g ks) hS h.2⟩))
   |cons h1 h2=>
    refine .inr (.inr (.inr (.inl ⟨a,b,_,us,rfl,rfl, .of f, .of g,by simp,?_,λe=>?_,λe p hp=>?_⟩)))
    ·rw[←(Reps.cons h1 h2).length,←ks.length];exact h.1
    ·subst e;have e':=ks.nil_r;subst e';have q:=h.2;rw[bG]at q;exact hQ _ S _ H .refl (.tup f (.cons h1 h2)) hS q
    ·exact hQ _ S _ _ (.new hp) (.tup zay (((Reps.cons h1 h2).append ks).ext (.new (S:=S) hp))) (hS.new hp) h.2
  |_=>exact h.elim
 |ref a=>
  cases ry with
  |ref b=>
   obtain⟨xs,ea,h⟩:=zbm h;obtain⟨ys,eb,h⟩:=zbm h;obtain⟨vs,e1,r1⟩:=hS a _ ea;obtain⟨us,e2,r2⟩:=hS b _ eb;refine .inr (.inr (.inr (.inr ⟨a,b,vs,us,rfl,rfl,e1,e2,by rw[←r1.length,←r2.length];exact h.1,λp hp=>?_⟩)))
   exact hQ _ _ _ _ (.newS hp) (.ref p) (hS.put_lst hp ((r1.append r2).ext (.new (S:=S) hp))) (h.2 p (hS.free hp))
  |_=>exact h.elim
 |_=>exact h.elim
variable {a b:Expr}{pos:aB}{ta tb:WE}
theorem zbg (ha:JE X a ta) (hb:JE X b tb):JE X (.BinOp a .Add b pos) (wOp zdT ta tb):=zpu zqj zwr ha hb
theorem zof (ha:JE X a ta) (hb:JE X b tb):JE X (.BinOp a .Sub b pos) (wOp (zfK λi j=> .int (i - j)) ta tb):=zpu zzc zsW ha hb
theorem zuu (ha:JE X a ta) (hb:JE X b tb):JE X (.BinOp a .Mult b pos) (wOp (zdk CMul λi j=> .int (i*j)) ta tb):=zpu zyK zjs ha hb
theorem zcD (ha:JE X a ta) (hb:JE X b tb):JE X (.BinOp a .FloorDiv b pos) (wOp (zdk ziD λi j=> .int (i / j)) ta tb):=zpu zvx zjs ha hb
theorem zcn (ha:JE X a ta) (hb:JE X b tb):JE X (.BinOp a .Mod b pos) (wOp (zdk (λ_ j=>0<j) λi j=> .int (i % j)) ta tb):=zpu zxN zjs ha hb
theorem zzH (ha:JE X a ta) (hb:JE X b tb):JE X (.BinOp a .Pow b pos) (wOp (zdk zAl λi j=> .int (i ^ j.toNat)) ta tb):=zpu zzI zjs ha hb
noncomputable def zmc (t:WE):WE:=λE σ S Q=>t E σ S λw S1=>match w with
 | .int i=>Q (.int (-i)) S1
 |_=>False
theorem zeB (ha:JE X a ta):JE X (.UnaryOp .USub a pos) (zmc ta):=λE hE=>
 (zBg zzQ (ha E hE)).mono λσ H Q ⟨σW,S,QW,hσ,hS,ht,hQ⟩=>⟨σW,S,_,hσ,hS,ht,λw S1 v H1 e1 r1 hS1 h1=>by
  cases r1 with
  |int i=>exact⟨i,rfl,hQ _ S1 _ H1 e1 (.int _) hS1 h1⟩
  |_=>exact h1.elim⟩
noncomputable def zBa (t u:WE):WL:=λE σ S Q=>t E σ S λx S1=>u E σ S1 λy S2=>match x,y with
 | .ref a, .ref b=>zcU S2 a λxs=>zcU S2 b λys=>xs.length+ys.length≤sizeLine∧Q (xs++ys) S2
 |_,_=>False
end
noncomputable def zgo (f:W→W→Option Bool):List W→List W→Option Bool
 | [],[]=>ae true
 | [],_=>ae false
 |_,[]=>ae false
 |x::xs,y::ys=>match f x y,zgo f xs ys with
  |some a,ae b=>ae (a&&b)
  |_,_=>none
noncomputable def eqF (S:Sto):Nat→W→W→Option Bool
 |0,_,_=>none
 |n+1,w,u=>match w,u with
  | .non, .non=>ae true
  | .bl a, .bl b=>ae (a == b)
  | .int a, .int b=>ae (a == b)
  | .str a, .str b=>ae (a == b)
  | .tup _, .int _=>ae false
  | .int _, .tup _=>ae false
  | .tup xs, .tup ys=>zgo (eqF S n) xs ys
  | .ref a, .ref b=>match S a with
   |some (.lst xs)=>match S b with
    |some (.lst ys)=>zgo (eqF S n) xs ys
    |_=>none
   |_=>none
  |_,_=>none
theorem zmK{f:W→W→Option Bool}:∀{xs ys:List W}{b:Bool},zgo f xs ys=ae b→
  (∀j,j<xs.length→j<ys.length→ ∃c,f (xs.getD j .non) (ys.getD j .non)=ae c)∧
  ((bc (min xs.length ys.length)).all (λj=>(f (xs.getD j .non) (ys.getD j .non)).getD true)&&xs.length == ys.length)=b
 | [],[],b,h=>by
  have:true=b:=aE h;subst this;exact⟨λj h=>absurd h (by simp),by simp⟩
 | [],y::ys,b,h=>by
  have:false=b:=aE h;subst this;exact⟨λj h=>absurd h (by simp),by simp⟩
 |x::xs,[],b,h=>by
  have:false=b:=aE h;subst this;exact⟨λj _ h=>absurd h (by simp),by simp⟩
 |x::xs,y::ys,b,h=>by
  unfold zgo at h;split at h
  ·rename_i c d e1 e2;have hb:(c&&d)=b:=aE h;obtain⟨h1,h2⟩:=zmK e2;refine⟨λj j1 j2=>?_,?_⟩
   ·cases j with
    |zero=>exact⟨c,by simpa using e1⟩
    |succ j=>simpa using h1 j (by simpa using j1) (by simpa using j2)
   ·have hm:min (xs.length+1) (ys.length+1)=min xs.length ys.length+1:=by omega
    have hl:(xs.length+1 == ys.length+1)=(xs.length == ys.length):=by simp
    rw[aW,aW,hm,gn,ie,e_,hl];have q:((λj=>(f ((x::xs).getD j .non) ((y::ys).getD j .non)).getD true)∘Nat.succ)=λj=>(f (xs.getD j .non) (ys.getD j .non)).getD true:=by
     funext j;simp
    rw[q,Bool.and_assoc,h2];have q0:(f ((x::xs).getD 0 .non) ((y::ys).getD 0 .non)).getD true=c:=by simp [e1]
    rw[q0,hb]
  ·cases h
section
variable {X:Cx}{pins:List (Addr×Obj)}{σ:St}{H:Hp}{s:ag}{S:Sto}
theorem zjK (I:Inv X pins σ H s):∀(n:Nat) {wx wy:W}{v:V}{b:Bool},Rep X.K H wx v→Rep X.K H wy v→RepS X.K H S→eqF S n wx wy=ae b→b=true
 |0,_,_,_,_,_,_,_,h=>by cases h
 |n+1,wx,wy,v,b,rx,ry,hS,h=>by
  have list:∀{ws us:List W}{vs:List V}{b:Bool},Reps X.K H ws vs→Reps X.K H us vs→zgo (eqF S n) ws us=ae b→b=true:=by
   intro ws
   induction ws with
   |nil=>
    intro us vs b r1 r2 e;cases r1;cases r2;exact(aE e).symm
   |cons w ws ih=>
    intro us vs b r1 r2 e;cases r1 with
    |cons a1 a2=>
     cases r2 with
     |cons c1 c2=>
      unfold zgo at e;split at e
      ·rename_i c d e1 e2;have q1:=zjK I n a1 c1 hS e1;have q2:=ih a2 c2 e2;have:=aE e;rw[q1,q2]at this;exact this.symm
      ·cases e
  cases rx with
  |non=>cases ry;exact(aE h).symm
  |bl k=>cases ry;have:=aE h;simpa using this.symm
  |int k=>cases ry;have:=aE h;simpa using this.symm
  |str k=>cases ry;have:=aE h;simpa using this.symm
  |ref a=>
   cases ry with
   |ref _=>
    have h':(match S a with
     |some (.lst xs)=>match S a with
      |some (.lst ys)=>zgo (eqF S n) xs ys
      |_=>none
     |_=>none)=ae b:=h
    cases e:S a with
    |none=>rw[e]at h';cases h'
    |some o=>
     rw[e]at h';cases o with
     |lst ws=>
      obtain⟨vs,_,r⟩:=hS a _ e;exact list r r h'
     |dct _=>cases h'
     |ins _ _=>cases h'
   |scr _=>cases h
   |tup _ _=>cases h
  |scr f=>cases ry<;>cases h
  |tup f hs=>
   cases ry with
   |ref _=>cases h
   |scr _=>cases h
   |tup g ks=>
    have e:=I.tuple_inj (.of f) (.of g);subst e;exact list hs ks h
theorem zkb{A:aM}:A.in1.units=A.units+1:=rfl
theorem zod (I:Inv X pins σ H s) (hS:RepS X.K H S):∀(n:Nat) {A:aM}{wx wy:W}{x y:V}{u v:Value}{b:Bool},A.units+n<cLine→Rep X.K H wx x→Rep X.K H wy y→RelV x u→RelV y v→eqF S n wx wy=ae b→
  dZ A s u v b∧eQ A s u v b∧eY A s u v (!b)
 |0,_,_,_,_,_,_,_,_,_,_,_,_,_,h=>by cases h
 |n+1,A,wx,wy,x,y,u,v,b,hu,rx,ry,ru,rv,h=>by
  have hu0:A.units<cLine:=by omega
  have items:∀{ws zs:List W}{xs ys:List V}{us vs:List Value}{b:Bool},Reps X.K H ws xs→Reps X.K H zs ys→Vals xs us→Vals ys vs→zgo (eqF S n) ws zs=ae b→
    (∀j (h1:j<us.toArray.size) (h2:j<vs.toArray.size),dZ A.in1 s us.toArray[j] vs.toArray[j] ((eqF S n (ws.getD j .non) (zs.getD j .non)).getD true))∧
    ((bc (min us.toArray.size vs.toArray.size)).all (λj=>(eqF S n (ws.getD j .non) (zs.getD j .non)).getD true)&&us.toArray.size == vs.toArray.size)=b:=by
   intro ws zs xs ys us vs b r1 r2 q1 q2 e;obtain⟨h1,h2⟩:=zmK e;have l1:=r1.length;have l2:=r2.length;have l3:=q1.length;have l4:=q2.length;refine⟨λj j1 j2=>?_,?_⟩
   ·rw[aP]at j1 j2;obtain⟨c,hc⟩:=h1 j (by omega) (by omega);have jw:j<ws.length:=by omega
    have jz:j<zs.length:=by omega
    obtain⟨x',ex,rx'⟩:=r1.get (aQ jw);obtain⟨y',ey,ry'⟩:=r2.get (aQ jz);obtain⟨u',eu,ru'⟩:=q1.get ex;obtain⟨v',ev,rv'⟩:=q2.get ey;have e1:us.toArray[j]=u':=by
     obtain⟨_,e⟩:=cb.mp eu;simpa using e
    have e2:vs.toArray[j]=v':=by
     obtain⟨_,e⟩:=cb.mp ev;simpa using e
    have g1:ws.getD j .non=ws[j]:=by rw[bt,aQ jw];rfl
    have g2:zs.getD j .non=zs[j]:=by rw[bt,aQ jz];rfl
    rw[e1,e2,hc];rw[g1,g2]at hc;exact(zod I hS n (by rw[zkb];omega) rx' ry' ru' rv' hc).1
   ·rw[aP,aP,←l3,←l4,←l1,←l2];exact h2
  cases rx with
  |non=>
   cases(show u=cn from ru);cases ry with
   |non=>cases(show v=cn from rv);cases h;exact⟨.same _, .none_none, .none_none⟩
   |_=>cases h
  |bl k=>
   cases(show u=eL k from ru);cases ry with
   |bl j=>cases(show v=eL j from rv);cases h;exact⟨.bool_bool _ _, .bool_bool _ _, .bool_bool _ _⟩
   |_=>cases h
  |int k=>
   obtain⟨t0,rfl⟩:=ru;cases ry with
   |int j=>obtain⟨t,rfl⟩:=rv;cases h;exact⟨.int_int _ _ _ _, .int_int _ _ _ _, .int_int _ _ _ _⟩
   |tup f hs=>cases(show v=bx _ from rv);cases h;obtain⟨its,_,p,_⟩:=I.tuple (.of f);exact⟨.int_tuple _ _ p hu0, .int_tuple _ _ p hu0, .int_tuple _ _ p hu0⟩
   |_=>cases h
  |str k=>
   obtain⟨t0,rfl⟩:=ru;cases ry with
   |str j=>obtain⟨t,rfl⟩:=rv;cases h;exact⟨.str_str _ _ _ _, .str_str _ _ _ _, .str_str _ _ _ _⟩
   |_=>cases h
  | @tup a xs ws f hs=>
   cases(show u=bx a from ru);obtain⟨its,q1,p,_⟩:=I.tuple (.of f);cases ry with
   |int j=>obtain⟨t,rfl⟩:=rv;cases h;exact⟨.tuple_int _ _ p hu0, .tuple_int _ _ p hu0, .tuple_int _ _ p hu0⟩
   | @tup c ys zs g ks=>
    cases(show v=bx c from rv);obtain⟨its2,q2,p2,_⟩:=I.tuple (.of g);obtain⟨h1,h2⟩:=items hs ks q1 q2 h;have rc:eQ A s (.ref a) (.ref c) b:=by
     have:=eQ.tuples p p2 hu0 h1;rw[h2]at this;exact this
    have rn:eY A s (.ref a) (.ref c) (!b):=by
     have:=eY.tuples p p2 hu0 h1;rw[h2]at this;exact this
    refine⟨?_,rc,rn⟩;by_cases e:a=c
    ·subst e;have:=zjK I (n+1) (.tup f hs) (.tup g ks) hS h;rw[this];exact .same _
    ·exact .of_refs e rc
   |_=>cases h
  |ref a=>
   cases(show u=bx a from ru);cases ry with
   |ref c=>
    cases(show v=bx c from rv);have h':(match S a with
     |some (.lst xs)=>match S c with
      |some (.lst ys)=>zgo (eqF S n) xs ys
      |_=>none
     |_=>none)=ae b:=h
    cases e:S a with
    |none=>rw[e]at h';cases h'
    |some o=>
     rw[e]at h';cases o with
     |dct _=>cases h'
     |ins _ _=>cases h'
     |lst ws=>
      cases e2:S c with
      |none=>rw[e2]at h';cases h'
      |some o2=>
       rw[e2]at h';cases o2 with
       |dct _=>cases h'
       |ins _ _=>cases h'
       |lst zs=>
        obtain⟨xs,f,hs⟩:=hS a _ e;obtain⟨ys,g,ks⟩:=hS c _ e2;obtain⟨its,q1,p,_⟩:=I.list (.of f);obtain⟨its2,q2,p2,_⟩:=I.list (.of g);obtain⟨h1,h2⟩:=items hs ks q1 q2 h';have both:eQ A s (.ref a) (.ref c) b∧eY A s (.ref a) (.ref c) (!b):=by
         by_cases hz:its.toArray.size=its2.toArray.size
         ·have t1:=eQ.lists p.isList p2.isList hz hu0 h1;have t2:=eY.lists p.isList p2.isList hz hu0 h1;rw[←hz,Nat.min_self,beq_self_eq_true,Bool.and_true]at h2;rw[h2]at t1 t2;exact⟨t1,t2⟩
         ·have hz':(its.toArray.size != its2.toArray.size)=true:=by simpa using hz
          have hz2:(its.toArray.size == its2.toArray.size)=false:=by simpa using hz
          rw[hz2,gf]at h2;subst h2;exact⟨.lists_lengths p.isList p2.isList hz' hu0, .lists_lengths p.isList p2.isList hz' hu0⟩
        refine⟨?_,both.1,both.2⟩;by_cases ee:a=c
        ·subst ee;have:=zjK I (n+1) (.ref a) (.ref a) hS h;rw[this];exact .same _
        ·exact .of_refs ee both.1
   |_=>cases h
  |scr f=>cases ry<;>cases h
end
noncomputable def oEq (neg:Bool):W2:=λx y S Q=>match eqF S 60 x y with
 |some b=>Q (.bl (if neg then !b else b)) S
 |none=>False
noncomputable def zAn (K:ak) (neg:Bool):R2:=λx y H Q=>∃wx wy S b,Rep K H wx x∧Rep K H wy y∧RepS K H S∧eqF S 60 wx wy=ae b∧Q (.bl (if neg then !b else b)) H
section
variable {X:Cx}
theorem zus (hu:X.A.units+60<cLine):OpR X (bp .Eq) (zAn X.K false):=by
 intro pins s σ H x y v u Q I rx ry h;obtain⟨wx,wy,S,b,r1,r2,hS,e,q⟩:=h;exact(zod I hS 60 hu r1 r2 rx ry e).2.1 _ _ _ _ ⟨.bl b,H,I,rfl,q⟩
theorem zyw (hu:X.A.units+60<cLine):OpR X (bp .NotEq) (zAn X.K true):=by
 intro pins s σ H x y v u Q I rx ry h;obtain⟨wx,wy,S,b,r1,r2,hS,e,q⟩:=h;exact(zod I hS 60 hu r1 r2 rx ry e).2.2 _ _ _ _ ⟨.bl (!b),H,I,rfl,q⟩
theorem zpE{K:ak}{neg:Bool}:OpW K (zAn K neg) (oEq neg):=λH x y wx wy S Q QW rx ry hS h hQ=>by
 unfold oEq at h;split at h
 ·rename_i b e;exact⟨wx,wy,S,b,rx,ry,hS,e,hQ _ S _ H .refl (.bl _) hS h⟩
 ·exact h.elim
variable {a b c:Expr}{pos:aB}{ta tb:WE}
theorem zvb{k:Nat}(hr:Room k X.A) (ha:JE X a ta) (hb:JE X b tb):JE X (.Compare a [.Eq] [b] pos) (wOp (oEq false) ta tb):=zsf (zus (by have:=hr.units;omega)) zpE ha hb (nomark b)
theorem zez{k:Nat}(hr:Room k X.A) (ha:JE X a ta) (hb:JE X b tb):JT X (.Compare a [.Eq] [b] pos) (wTb (wOp (oEq false) ta tb)):=zgk (zus (by have:=hr.units;omega)) zpE ha hb (nomark b)
theorem zvW{k:Nat}(hr:Room k X.A) (ha:JE X a ta) (hb:JE X b tb):JT X (.Compare a [.NotEq] [b] pos) (wTb (wOp (oEq true) ta tb)):=zgk (zyw (by have:=hr.units;omega)) zpE ha hb (nomark b)
noncomputable abbrev oLt:W2:=zfK λi j=> .bl (decide (i<j))
noncomputable abbrev oGt:W2:=zfK λi j=> .bl (decide (j<i))
noncomputable abbrev oGe:W2:=zfK λi j=> .bl (decide (j≤i))
noncomputable def oLe:W2
 | .int i, .int j,S,Q=>Q (.bl (decide (i≤j))) S
 | .str i, .str j,S,Q=>Q (.bl (!decide (j.cps.toList<i.cps.toList))) S
 |_,_,_,_=>False
theorem zum{K:ak}:OpW K (λx y H Q=>rI0 (λi j=> .bl (decide (i≤j))) x y H Q∨(∃i j,x= .str i∧y= .str j∧Q (.bl (!decide (j.cps.toList<i.cps.toList))) H)) oLe:=λH x y wx wy S Q QW rx ry hS h hQ=>by
 cases rx with
 |int i=>
  cases ry with
  |int j=>exact .inl ⟨i,j,rfl,rfl,hQ _ S _ H .refl (.bl _) hS h⟩
  |_=>exact h.elim
 |str i=>
  cases ry with
  |str j=>exact .inr ⟨i,j,rfl,rfl,hQ _ S _ H .refl (.bl _) hS h⟩
  |_=>exact h.elim
 |_=>exact h.elim
theorem zps (ha:JE X a ta) (hb:JE X b tb):JT X (.Compare a [.Lt] [b] pos) (wTb (wOp oLt ta tb)):=zgk zBF zgY ha hb (nomark b)
theorem zxB (ha:JE X a ta) (hb:JE X b tb):JE X (.Compare a [.Gt] [b] pos) (wOp oGt ta tb):=zsf zze zgY ha hb (nomark b)
theorem zkL (ha:JE X a ta) (hb:JE X b tb):JT X (.Compare a [.Gt] [b] pos) (wTb (wOp oGt ta tb)):=zgk zze zgY ha hb (nomark b)
theorem zAs (ha:JE X a ta) (hb:JE X b tb):JT X (.Compare a [.GtE] [b] pos) (wTb (wOp oGe ta tb)):=zgk zBE zgY ha hb (nomark b)
noncomputable def zll (r r':W2) (a b c:WE):WE:=λE σ S Q=>a E σ S λx S1=>b E σ S1 λy S2=>r x y S2 λz S3=>match z with
 | .bl true=>c E σ S3 λu S4=>r' y u S4 Q
 | .bl false=>Q (.bl false) S3
 |_=>False
noncomputable def oIs (neg:Bool):W2
 | .non, .non,S,Q=>Q (.bl (!neg)) S
 | .bl a, .bl b,S,Q=>Q (.bl (if neg then a != b else a == b)) S
 | .bl _, .non,S,Q=>Q (.bl neg) S
 | .int _, .non,S,Q=>Q (.bl neg) S
 | .str _, .non,S,Q=>Q (.bl neg) S
 | .tup _, .non,S,Q=>Q (.bl neg) S
 | .ref _, .non,S,Q=>Q (.bl neg) S
 |_,_,_,_=>False
theorem zyC:OpR X (bp .Is) (λx y H Q=>(y= .non∧Q (.bl (decide (x= .non))) H)∨ ∃a b,x= .bl a∧y= .bl b∧Q (.bl (a == b)) H):=op_isN.or (by
 intro pins s σ H x y v u Q I rx ry h;obtain⟨a,b,rfl,rfl,q⟩:=h;cases rx;cases ry;exact is_bool ⟨.bl _,H,I,rfl,q⟩)
theorem zqg:OpR X (bp .IsNot) (λx y H Q=>(y= .non∧Q (.bl (!decide (x= .non))) H)∨ ∃a b,x= .bl a∧y= .bl b∧Q (.bl (a != b)) H):=op_notN.or (by
 intro pins s σ H x y v u Q I rx ry h;obtain⟨a,b,rfl,rfl,q⟩:=h;cases rx;cases ry;exact isnot_bool ⟨.bl _,H,I,rfl,q⟩)
theorem zzE{K:ak}:OpW K (λx y H Q=>(y= .non∧Q (.bl (decide (x= .non))) H)∨ ∃a b,x= .bl a∧y= .bl b∧Q (.bl (a == b)) H) (oIs false):=λH x y wx wy S Q QW rx ry hS h hQ=>by
 cases ry with
 |non=>cases rx<;>first |exact .inl ⟨rfl,by simpa using hQ _ S _ H .refl (.bl _) hS h⟩ |exact h.elim
 |bl b=>
  cases rx with
  |bl a=>exact .inr ⟨a,b,rfl,rfl,hQ _ S _ H .refl (.bl _) hS h⟩
  |_=>exact h.elim
 |_=>cases rx<;>exact h.elim
theorem zpJ{K:ak}:OpW K (λx y H Q=>(y= .non∧Q (.bl (!decide (x= .non))) H)∨ ∃a b,x= .bl a∧y= .bl b∧Q (.bl (a != b)) H) (oIs true):=λH x y wx wy S Q QW rx ry hS h hQ=>by
 cases ry with
 |non=>cases rx<;>first |exact .inl ⟨rfl,by simpa using hQ _ S _ H .refl (.bl _) hS h⟩ |exact h.elim
 |bl b=>
  cases rx with
  |bl a=>exact .inr ⟨a,b,rfl,rfl,hQ _ S _ H .refl (.bl _) hS h⟩
  |_=>exact h.elim
 |_=>cases rx<;>exact h.elim
theorem zsh (ha:JE X a ta) (hb:JE X b tb):JT X (.Compare a [.Is] [b] pos) (wTb (wOp (oIs false) ta tb)):=zgk zyC zzE ha hb (nomark b)
theorem zel (ha:JE X a ta) (hb:JE X b tb):JT X (.Compare a [.IsNot] [b] pos) (wTb (wOp (oIs true) ta tb)):=zgk zqg zpJ ha hb (nomark b)
end
noncomputable def inF (S:Sto) (x:W):List W→Option Bool
 | []=>ae false
 |w::ws=>match eqF S 59 w x with
  |some a=>match inF S x ws with
   |some b=>ae (a || b)
   |none=>none
  |none=>none
section
variable {X:Cx}{pins:List (Addr×Obj)}{σ:St}{H:Hp}{s:ag}{S:Sto}
theorem zlZ (I:Inv X pins σ H s) (hS:RepS X.K H S):∀(n:Nat) {w w' u:W}{v:V}{b b':Bool},Rep X.K H w v→Rep X.K H w' v→eqF S n w u=ae b→eqF S n w' u=ae b'→b=b'
 |0,_,_,_,_,_,_,_,_,h,_=>by cases h
 |n+1,w,w',u,v,b,b',r,r',h,h'=>by
  have list:∀{us ws zs:List W}{vs:List V}{b b':Bool},Reps X.K H ws vs→Reps X.K H zs vs→zgo (eqF S n) ws us=ae b→zgo (eqF S n) zs us=ae b'→b=b':=by
   intro us
   induction us with
   |nil=>
    intro ws zs vs b b' r1 r2 e1 e2;cases r1 with
    |nil=>cases r2;rw[e1]at e2;exact aE e2
    |cons _ _=>cases r2 with
     |cons _ _=>have:=aE e1;have:=aE e2;subst_vars;rfl
   |cons u us ih=>
    intro ws zs vs b b' r1 r2 e1 e2;cases r1 with
    |nil=>cases r2;rw[e1]at e2;exact aE e2
    |cons a1 a2=>
     cases r2 with
     |cons c1 c2=>
      unfold zgo at e1 e2;split at e1
      ·rename_i p q f1 f2;split at e2
       ·rename_i p' q' g1 g2;have h1:=zlZ I hS n a1 c1 f1 g1;have h2:=ih a2 c2 f2 g2;rw[←aE e1,←aE e2,h1,h2]
       ·cases e2
      ·cases e1
  have nolist:∀{a:Addr}{vs:List V}{ws:List W},H a=ae (.tup vs)→S a=ae (.lst ws)→False:=λf e=>by
   obtain⟨_,g,_⟩:=hS _ _ e;rw[f]at g;cases g
  cases r with
  |non=>cases r';rw[h]at h';exact aE h'
  |bl k=>cases r';rw[h]at h';exact aE h'
  |int k=>cases r';rw[h]at h';exact aE h'
  |str k=>cases r';rw[h]at h';exact aE h'
  |scr f=>cases u<;>cases h
  | @tup a vs ws f hs=>
   cases r' with
   | @tup _ us zs g ks=>
    rw[f]at g;cases g;cases u with
    |tup us=>exact list hs ks h h'
    |int _=>have:=aE h;have:=aE h';subst_vars;rfl
    |_=>cases h
   |scr _=>cases u<;>cases h'
   |ref _=>
    exfalso;cases u with
    |ref c=>
     have h2:(match S a with
      |some (.lst xs)=>match S c with
       |some (.lst ys)=>zgo (eqF S n) xs ys
       |_=>none
      |_=>none)=ae b':=h'
     split at h2
     ·exact nolist f ‹_›
     ·cases h2
    |_=>cases h'
  |ref a=>
   cases r' with
   |ref _=>rw[h]at h';exact aE h'
   |scr _=>cases u<;>cases h'
   |tup f hs=>
    exfalso;cases u with
    |ref c=>
     have h2:(match S a with
      |some (.lst xs)=>match S c with
       |some (.lst ys)=>zgo (eqF S n) xs ys
       |_=>none
      |_=>none)=ae b:=h
     split at h2
     ·exact nolist f ‹_›
     ·cases h2
    |_=>cases h
open Classical in
theorem znW (I:Inv X pins σ H s) (hS:RepS X.K H S) {A:aM}{ws:List W}{vs:List V}{us:List Value}{wx:W}{x:V}{u:Value}{b:Bool}(hu:A.units+60<cLine) (r:Reps X.K H ws vs) (rv:Vals vs us) (rx:Rep X.K H wx x) (ru:RelV x u) (h:inF S wx ws=ae b) :
  ∃e:Value→Bool,(∀y,y∈us.toArray→dZ A.in1 s y u (e y))∧us.toArray.any e=b:=by
 refine⟨λy=>decide (∃w v,Rep X.K H w v∧RelV v y∧eqF S 59 w wx=ae true),?_,?_⟩
 ·have go:∀{ws:List W}{vs:List V}{us:List Value}{b:Bool},Reps X.K H ws vs→Vals vs us→inF S wx ws=ae b→ ∀y∈us,dZ A.in1 s y u (decide (∃w v,Rep X.K H w v∧RelV v y∧eqF S 59 w wx=ae true)):=by
   intro ws
   induction ws with
   |nil=>intro vs us b r rv h y hy;cases r;cases rv;cases hy
   |cons w ws ih=>
    intro vs us b r rv h y hy;cases r with
    |cons r1 r2=>
     cases rv with
     |cons q1 q2=>
      unfold inF at h;split at h
      ·rename_i c e1;split at h
       ·rename_i d e2;rcases av.mp hy with rfl |hy
        ·have ok:=(zod I hS 59 (A:=A.in1) (by rw[zkb];omega) r1 rx q1 ru e1).1;have ec:c=decide (∃w v,Rep X.K H w v∧RelV v y∧eqF S 59 w wx=ae true):=by
          cases c with
          |true=>exact(decide_eq_true ⟨w,_,r1,q1,e1⟩).symm
          |false=>
           symm;refine decide_eq_false λ⟨w',v',r',q',e'⟩=>?_;have:=RelV.inj q' q1;subst this;exact absurd (zlZ I hS 59 r1 r' e1 e') (by simp)
         rw[←ec];exact ok
        ·exact ih r2 q2 e2 y hy
       ·cases h
      ·cases h
  intro y hy;exact go r rv h y (by simpa using hy)
 ·have go:∀{ws:List W}{vs:List V}{us:List Value}{b:Bool},Reps X.K H ws vs→Vals vs us→inF S wx ws=ae b→us.any (λy=>decide (∃w v,Rep X.K H w v∧RelV v y∧eqF S 59 w wx=ae true))=b:=by
   intro ws
   induction ws with
   |nil=>intro vs us b r rv h;cases r;cases rv;exact aE h
   |cons w ws ih=>
    intro vs us b r rv h;cases r with
    |cons r1 r2=>
     cases rv with
     | @cons _ _ _ _ q1 q2=>
      rename_i y _;unfold inF at h;split at h
      ·rename_i c e1;split at h
       ·rename_i d e2;have ec:decide (∃w v,Rep X.K H w v∧RelV v y∧eqF S 59 w wx=ae true)=c:=by
          cases c with
          |true=>exact decide_eq_true ⟨w,_,r1,q1,e1⟩
          |false=>
           refine decide_eq_false λ⟨w',v',r',q',e'⟩=>?_;have:=RelV.inj q' q1;subst this;exact absurd (zlZ I hS 59 r1 r' e1 e') (by simp)
        rw[eA,ih r2 q2 e2,ec];exact aE h
       ·cases h
      ·cases h
  have:=go r rv h;simpa using this
end
noncomputable def oIn (neg:Bool):W2:=λx y S Q=>match y with
 | .str j=>match x with
  | .str i=>Q (.bl (if neg then !(!(cy j i 0 j.length 1).isEmpty) else !(cy j i 0 j.length 1).isEmpty)) S
  |_=>False
 | .tup ws=>match inF S x ws with
  |some b=>Q (.bl (if neg then !b else b)) S
  |none=>False
 | .ref a=>zcU S a λws=>match inF S x ws with
  |some b=>Q (.bl (if neg then !b else b)) S
  |none=>False
 |_=>False
noncomputable def zAk (K:ak) (neg:Bool):R2:=λx y H Q=>∃wx ws vs S p b,y= .ref p∧(SqL K H p vs∨SqT K H p vs)∧Reps K H ws vs∧Rep K H wx x∧RepS K H S∧inF S wx ws=ae b∧Q (.bl (if neg then !b else b)) H
section
variable {X:Cx}{a b:Expr}{pos:aB}{ta tb:WE}
theorem zxV (hu:X.A.units+60<cLine):OpR X (bp .In) (zAk X.K false):=by
 intro pins s σ H x y v u Q I rx ry h;obtain⟨wx,ws,vs,S,p,b,rfl,hq,rs,r,hS,e,q⟩:=h;cases ry;rcases hq with hq |hq
 ·obtain⟨its,rv,p,_⟩:=I.list hq;obtain⟨f,h1,h2⟩:=znW I hS hu rs rv r rx e;exact SeqAt.in_listAt f p.isList h1 (by rw[h2];exact⟨.bl b,H,I,rfl,q⟩)
 ·obtain⟨its,rv,p,_⟩:=I.tuple hq;obtain⟨f,h1,h2⟩:=znW I hS hu rs rv r rx e;exact SeqAt.in_tupleAt f p h1 (by rw[h2];exact⟨.bl b,H,I,rfl,q⟩)
theorem zrj (hu:X.A.units+60<cLine):OpR X (bp .NotIn) (zAk X.K true):=by
 intro pins s σ H x y v u Q I rx ry h;obtain⟨wx,ws,vs,S,p,b,rfl,hq,rs,r,hS,e,q⟩:=h;cases ry;rcases hq with hq |hq
 ·obtain⟨its,rv,p,_⟩:=I.list hq;obtain⟨f,h1,h2⟩:=znW I hS hu rs rv r rx e;exact SeqAt.notIn_listAt f p.isList h1 (by rw[h2];exact⟨.bl (!b),H,I,rfl,q⟩)
 ·obtain⟨its,rv,p,_⟩:=I.tuple hq;obtain⟨f,h1,h2⟩:=znW I hS hu rs rv r rx e;exact SeqAt.notIn_tupleAt f p h1 (by rw[h2];exact⟨.bl (!b),H,I,rfl,q⟩)
theorem ziH{K:ak}{neg:Bool}{H:Hp}{x y:V}{wx wy:W}{S:Sto}{Q:VK}{QW:WK}(rx:Rep K H wx x) (ry:Rep K H wy y) (hS:RepS K H S) (h:oIn neg wx wy S QW) (hQ:Wish K H S QW Q) :
  (∃i j,x= .str i∧y= .str j∧Q (.bl (if neg then !(!(cy j i 0 j.length 1).isEmpty) else !(cy j i 0 j.length 1).isEmpty)) H)∨zAk K neg x y H Q:=by
 cases ry with
 |str j=>
  cases rx with
  |str i=>exact .inl ⟨i,j,rfl,rfl,hQ _ S _ H .refl (.bl _) hS h⟩
  |_=>exact h.elim
 |tup f hs=>
  refine .inr ?_;unfold oIn at h;dsimp only at h;split at h
  ·exact⟨wx,_,_,S,_,_,rfl, .inr (.of f),hs,rx,hS, ‹_›,hQ _ S _ H .refl (.bl _) hS h⟩
  ·exact h.elim
 |ref a=>
  refine .inr ?_;obtain⟨ws,e,h⟩:=zbm h;obtain⟨vs,f,hs⟩:=hS a _ e;split at h
  ·exact⟨wx,_,_,S,_,_,rfl, .inl (.of f),hs,rx,hS, ‹_›,hQ _ S _ H .refl (.bl _) hS h⟩
  ·exact h.elim
 |_=>exact h.elim
theorem zBs{k:Nat}(hr:Room k X.A) (ha:JE X a ta) (hb:JE X b tb) (hm:cW .In b=false:=by with_unfolding_all rfl):JE X (.Compare a [.In] [b] pos) (wOp (oIn false) ta tb):=
 zsf (op_in_str.or (zxV (by have:=hr.units;omega))) (λH x y wx wy S Q QW rx ry hS h hQ=>ziH rx ry hS h hQ) ha hb hm
theorem zsC{k:Nat}(hr:Room k X.A) (ha:JE X a ta) (hb:JE X b tb) (hm:cW .NotIn b=false:=by with_unfolding_all rfl):JT X (.Compare a [.NotIn] [b] pos) (wTb (wOp (oIn true) ta tb)):=
 zgk (op_notin_str.or (zrj (by have:=hr.units;omega))) (λH x y wx wy S Q QW rx ry hS h hQ=>ziH rx ry hS h hQ) ha hb hm
end
noncomputable def oIx:W2:=λx y S Q=>match y with
 | .int i=>match x with
  | .tup ws=>match atI ws i with
   |some w=>Q w S
   |none=>False
  | .ref a=>zcU S a λws=>match atI ws i with
   |some w=>Q w S
   |none=>False
  | .scr ns=>match atI ns i with
   |some n=>Q (.int n) S
   |none=>False
  | .str x=>x.length≤sizeLine∧match atI x.cps.toList i with
   |some c=>Q (.str ⟨#[c]⟩) S
   |none=>False
  |_=>False
 |_=>False
theorem zlP{K:ak}{H:Hp}{ws:List W}{vs:List V}{i:Int}{w:W}(r:Reps K H ws vs) (e:atI ws i=ae w):∃v,atI vs i=ae v∧Rep K H w v:=by
 unfold atI at e⊢;rw[←r.length];cases q:ixN ws.length i with
 |none=>rw[q]at e;cases e
 |some j=>rw[q]at e;exact r.get e
theorem zwC{α β:Type}{f:α→β}{xs:List α}{i:Int}{x:α}(e:atI xs i=ae x):atI (xs.map f) i=ae (f x):=by
 unfold atI at e⊢;rw[aq];cases q:ixN xs.length i with
 |none=>rw[q]at e;cases e
 |some j=>
  rw[q]at e;show(xs.map f)[j]? =_;rw[bv,show xs[j]? =ae x from e];rfl
theorem zyp{K:ak}:OpW K (rIx K) oIx:=λH x y wx wy S Q QW rx ry hS h hQ=>by
 cases ry with
 |int i=>
  cases rx with
  |tup f hs=>
   unfold oIx at h;dsimp only at h;split at h
   ·obtain⟨v,ev,r⟩:=zlP hs ‹_›;exact .inr (.inl ⟨_,_,i,v,rfl,rfl, .of f,ev,hQ _ S _ H .refl r hS h⟩)
   ·exact h.elim
  |ref a=>
   obtain⟨ws,e,h⟩:=zbm h;obtain⟨vs,f,hs⟩:=hS a _ e;split at h
   ·obtain⟨v,ev,r⟩:=zlP hs ‹_›;exact .inl ⟨_,_,i,v,rfl,rfl, .of f,ev,hQ _ S _ H .refl r hS h⟩
   ·exact h.elim
  |scr f=>
   unfold oIx at h;dsimp only at h;split at h
   ·exact .inl ⟨_,_,i,_,rfl,rfl,f.sq,zwC ‹_›,hQ _ S _ H .refl (.int _) hS h⟩
   ·exact h.elim
  |str z=>
   unfold oIx at h;dsimp only at h;obtain⟨hz,h⟩:=h;split at h
   ·exact .inr (.inr ⟨z,i,_,rfl,rfl,hz, ‹_›,hQ _ S _ H .refl (.str _) hS h⟩)
   ·exact h.elim
  |_=>exact h.elim
 |_=>exact h.elim
section
variable {X:Cx}{a b e:Expr}{pos p2:aB}{ta tb te:WE}{lo hi:Option Expr}
theorem zar (ha:JE X a ta) (hb:JE X b tb) (hs:zlK b:=by intro _ _;rfl):JE X (.Subscript a b pos) (wOp oIx ta tb):=λE hE=>
 (zxF zuO (ha E hE) (hb E hE) hs).mono λσ H Q h=>zha h λH2 x y wx wy S QW rx ry hS q hQ=>zyp H2 x y wx wy S Q QW rx ry hS q hQ
abbrev WO:=WX→WSt→Sto→(Option Int→Sto→Prop)→Prop
noncomputable def zAD (K:ak) (t:WSt→Sto→(Option Int→Sto→Prop)→Prop):TO:=λσ H Q=>∃σW S QW,RpSt K H σW σ∧RepS K H S∧t σW S QW∧ ∀b S' H',Ext H S H' S'→RepS K H' S'→QW b S'→Q b H'
def JO (X:Cx) (e:Option Expr) (t:WO):Prop:=∀E,Hook X E→PO X e (zAD X.K (t E))
noncomputable def woN:WO:=λ_ _ S Q=>Q none S
noncomputable def woS (t:WE):WO:=λE σ S Q=>t E σ S λw S1=>match w with
 | .int i=>Q (ae i) S1
 |_=>False
theorem PO.mono{X:Cx}{e:Option Expr}{t t':TO}(h:PO X e t) (q:∀σ H Q,t' σ H Q→t σ H Q):PO X e t':=λpins s σ H Q I z=>h pins s σ H Q I (q σ H Q z)
theorem zaH:JO X none woN:=λE hE=>po_none.mono λσ H Q ⟨σW,S,QW,hσ,hS,ht,hQ⟩=>hQ none S H .refl hS ht
theorem zaF (h:JE X e te):JO X (ae e) (woS te):=λE hE=>(zwT (h E hE)).mono λσ H Q ⟨σW,S,QW,hσ,hS,ht,hQ⟩=>⟨σW,S,_,hσ,hS,ht,λw S1 v H1 e1 r1 hS1 h1=>by
 cases r1 with
 |int i=>exact⟨i,rfl,hQ _ S1 H1 e1 hS1 h1⟩
 |_=>exact h1.elim⟩
noncomputable def zer {α:Type}(xs:List α) (lo hi:Option Int):List α:=(xs.drop (HT.sIx xs.length 0 lo)).take (HT.sIx xs.length xs.length hi - HT.sIx xs.length 0 lo)
theorem zjP{K:ak}{H:Hp}{ws:List W}{vs:List V}{lo hi:Option Int}(r:Reps K H ws vs):Reps K H (zer ws lo hi) (zqD vs lo hi):=by
 unfold zer zqD;rw[r.length];exact(r.drop _).take _
theorem zoD{α β:Type}{f:α→β}{xs:List α}{lo hi:Option Int}:zer (xs.map f) lo hi=(zer xs lo hi).map f:=by
 unfold zer;rw[aq,List.map_take,List.map_drop]
theorem zft{prog:aF}{w:aC}{A:aM}{E:Value→ag→Prop}{s:ag}{t sl:Addr}{items:Array Value}{vl vu:Value}{lo hi:Option Int}{Q:Value→ag→Prop}(ht:eH s.heap t items) (hs:s.heap.IsSliceOf sl vl vu .none) (pl:cB vl lo) (pu:cB vu hi)
  (hw:HT.sIx items.size 0 lo=0∧HT.sIx items.size items.size hi=items.size) (h:Q (.ref t) s):am (ap prog w) A (dy (.ref t) (.ref sl)) Q E s:=by
 obtain⟨os,hos,hcs,hds⟩:=id hs;have hTs:s.TypeIs (.ref sl) "slice" :=⟨os,hos,hcs⟩;unfold dy
 try with_reducible refine eJ ?_
 first |refine ai (aD ?_) |skip
 refine ai (jd ht.typeIs (by decide) ?_);refine ai (de (name:=bq "__getitem__") ht.typeIs eI
  (c7 eI ht.typeIs i_ ?_ (jn _ _)))
 show am _ _ (kN (.ref t) >>= _) _ _ s;refine ai (tupleItemsOf_ ht ?_);refine ai (eN hTs ?_);rw[if_pos (by decide)];refine ai (HT.sliceApplied_gen hs pl pu ?_);show am _ _ (if(((HT.sIx items.size 0 lo:Nat):Int) == 0&&(1:Int) == 1&&(HT.sIx items.size items.size hi - HT.sIx items.size 0 lo) == items.size)=true then _ else _) _ _ s;rw[hw.1,hw.2,if_pos (by simp)];unfold bZ.Tuple.tupleIsExact;refine ai (ai (eN ht.typeIs (aD ?_)));rw[if_pos (by decide)];exact ai (dg (aD ⟨_,rfl,aD h⟩))
theorem sl_tupW:SlR X (λx lo hi H Q=>∃a xs,x= .ref a∧SqT X.K H a xs∧((HT.sIx xs.length 0 lo=0∧HT.sIx xs.length xs.length hi=xs.length)∧Q (.ref a) H∨ ¬(HT.sIx xs.length 0 lo=0∧HT.sIx xs.length xs.length hi=xs.length)∧ ∀p,H p=none→Q (.ref p) (upd H p (.tup (zqD xs lo hi))))):=by
 intro pins s σ H x v vl vu lo hi sl Q I rx hs pl pu h;obtain⟨a,xs,rfl,hx,⟨hw,q⟩ |⟨hw,q⟩⟩:=h
 ·cases rx;obtain⟨its,r,ht,hz⟩:=I.tuple hx;have hlen:its.toArray.size=xs.length:=by rw[aP];exact r.length.symm
  refine⟨"tuple",_,eI.lookup,ht.typeIs,?_⟩;exact zft ht hs pl pu (by rw[hlen];exact hw) ⟨.ref a,H,I,rfl,q⟩
 ·exact zzj pins s σ H _ v vl vu lo hi sl Q I rx hs pl pu ⟨a,xs,rfl,hx,hw,q⟩
noncomputable def oSl:W→Option Int→Option Int→Sto→WK→Prop
 | .tup ws,lo,hi,S,Q=>Q (.tup (zer ws lo hi)) S
 | .str z,lo,hi,S,Q=>z.length≤sizeLine∧Q (.str (cE z lo hi)) S
 | .ref a,lo,hi,S,Q=>zcU S a λws=>∀p,S p=none→Q (.ref p) (put S p (.lst (zer ws lo hi)))
 | .scr ns,lo,hi,S,Q=>∀p,S p=none→Q (.ref p) (put S p (.lst ((zer ns lo hi).map W.int)))
 |_,_,_,_,_=>False
noncomputable def wSl (t:WE) (l h:WO):WE:=λE σ S Q=>t E σ S λx S1=>l E σ S1 λlo S2=>h E σ S2 λhi S3=>oSl x lo hi S3 Q
theorem zpj{α:Type}{xs:List α}{lo hi:Option Int}(h:HT.sIx xs.length 0 lo=0∧HT.sIx xs.length xs.length hi=xs.length):zer xs lo hi=xs:=by
 unfold zer;rw[h.1,h.2,c6,dI,iC]
theorem zda{tl th:WO}(he:JE X e te) (hl:JO X lo tl) (hh:JO X hi th):JE X (.Subscript e (.Slice lo hi none p2) pos) (wSl te tl th):=λE hE=>
 (zmV (sl_tupW.or (sl_str.or zqd)) (he E hE) (hl E hE) (hh E hE)).mono λσ H Q ⟨σW,S,QW,hσ,hS,ht,hQ⟩=>
  ⟨σW,S,_,hσ,hS,ht,λw S1 v H1 e1 r1 hS1 h1=>⟨σW,S1,_,hσ.ext e1,hS1,h1,λlo S2 H2 e2 hS2 h2=>⟨σW,S2,_,(hσ.ext e1).ext e2,hS2,h2,λhi S3 H3 e3 hS3 h3=>by
   have hQ':=hQ.from (e1.trans (e2.trans e3));have r3:=(r1.ext e2).ext e3;cases r3 with
   | @tup a vs ws f hs=>
    refine .inl ⟨a,vs,rfl, .of f,?_⟩;by_cases hw:HT.sIx vs.length 0 lo=0∧HT.sIx vs.length vs.length hi=vs.length
    ·refine .inl ⟨hw,hQ' (.tup ws) S3 _ H3 .refl (.tup f hs) hS3 ?_⟩;have:=zpj (xs:=ws) (lo:=lo) (hi:=hi) (by rw[hs.length];exact hw);have h3':QW (.tup (zer ws lo hi)) S3:=h3;rw[this]at h3';exact h3'
    ·exact .inr ⟨hw,λp hp=>hQ' _ S3 _ _ (.new hp) (.tup zay ((zjP hs).ext (.new (S:=S3) hp))) (hS3.new hp) h3⟩
   |str z=>exact .inr (.inl ⟨z,rfl,h3.1,hQ' _ S3 _ H3 .refl (.str _) hS3 h3.2⟩)
   |ref a=>
    obtain⟨ws,ea,h⟩:=zbm h3;obtain⟨vs,f,hs⟩:=hS3 a _ ea;exact .inr (.inr ⟨a,vs,rfl, .of f,λp hp=>hQ' _ _ _ _ (.newS hp) (.ref p) (hS3.put_lst hp ((zjP hs).ext (.new (S:=S3) hp))) (h p (hS3.free hp))⟩)
   | @scr a ns f=>
    refine .inr (.inr ⟨a,_,rfl,f.sq,λp hp=>hQ' _ _ _ _ (.newS hp) (.ref p) (hS3.put_lst hp ?_) (h3 p (hS3.free hp))⟩);have q:zqD (ns.map V.int) lo hi=(zer ns lo hi).map V.int:=zoD;rw[q];exact Reps.ofInts _
   |_=>exact h3.elim⟩⟩⟩
noncomputable def zxn (t:WE) (l h:WO):WL:=λE σ S Q=>t E σ S λx S1=>l E σ S1 λlo S2=>h E σ S2 λhi S3=>match x with
 | .ref a=>zcU S3 a λws=>Q (zer ws lo hi) S3
 | .scr ns=>Q ((zer ns lo hi).map W.int) S3
 |_=>False
theorem zwa{tl th:WO}(he:JE X e te) (hl:JO X lo tl) (hh:JO X hi th):JL X (.Subscript e (.Slice lo hi none p2) pos) (zxn te tl th):=λE hE=>
 (zmV zqd (he E hE) (hl E hE) (hh E hE)).mono λσ H Q ⟨σW,S,QW,hσ,hS,ht,hQ⟩=>
  ⟨σW,S,_,hσ,hS,ht,λw S1 v H1 e1 r1 hS1 h1=>⟨σW,S1,_,hσ.ext e1,hS1,h1,λlo S2 H2 e2 hS2 h2=>⟨σW,S2,_,(hσ.ext e1).ext e2,hS2,h2,λhi S3 H3 e3 hS3 h3=>by
   have e':=e1.trans (e2.trans e3);have r3:=(r1.ext e2).ext e3;cases r3 with
   |ref a=>
    obtain⟨ws,ea,h⟩:=zbm h3;obtain⟨vs,f,hs⟩:=hS3 a _ ea;exact⟨a,vs,rfl, .of f,λp hp=>hQ _ S3 _ p _ (e'.trans (.new hp)) (e'.free hp) zay (hS3.free hp) ((zjP hs).ext (.new (S:=S3) hp)) (hS3.new hp) h⟩
   | @scr a ns f=>
    refine⟨a,_,rfl,f.sq,λp hp=>hQ _ S3 _ p _ (e'.trans (.new hp)) (e'.free hp) zay (hS3.free hp) ?_ (hS3.new hp) h3⟩;have q:zqD (ns.map V.int) lo hi=(zer ns lo hi).map V.int:=zoD;rw[q];exact Reps.ofInts _
   |_=>exact h3.elim⟩⟩⟩
end
abbrev WF:=List W→Sto→WK→Prop
noncomputable def wB (f:WF) (t:WA):WE:=λE σ S Q=>t E σ S λws S1=>f ws S1 Q
def zlQ (K:ak) (r:List V→Hp→VK→Prop) (f:WF):Prop:=∀H vs ws S (Q:VK) (QW:WK),Reps K H ws vs→RepS K H S→f ws S QW→Wish K H S QW Q→r vs H Q
noncomputable def wBL (f:WF) (t:WL):WE:=λE σ S Q=>t E σ S λws S1=>f ws S1 Q
def zoS (K:ak) (r:List V→Hp→VK→Prop) (f:WF):Prop:=∀H a vs ws S (Q:VK) (QW:WK),H a=ae (.lst vs)→S a=none→Reps K H ws vs→RepS K H S→f ws S QW→Wish K H S QW Q→r [.ref a] H Q
section
variable {X:Cx}{x:Str}{p pos:aB}{e:Expr}{es:List Expr}{t:WA}{tl:WL}{id T:String}{r:List V→Hp→VK→Prop}{f:WF}
theorem zuI (hc:CallR X (.builtin id) r) (hw:zlQ X.K r f) (hg:Gl X x) (hm:X.mg x=none) (hv:bV x=ae (.builtin id)) (ha:JA X (e::es) t) (hn:x≠ "__name__" :=by decide) (hdb:(x == ("__debug__" :Str))=false:=by decide)
  (he:ao (e::es) X.env=(false,ax e X.env)::ao es X.env:=by rfl) (hpl:(aS pos (ao es X.env)).any (·.1)=false:=by rfl):JE X (.Call (.Name x p) (e::es) [] pos) (wB f t):=λE hE=>
 (zjp hc hg hm hv (ha E hE) hn hdb he hpl).mono λσ H Q ⟨σW,S,QW,hσ,hS,ht,hQ⟩=>⟨σW,S,_,hσ,hS,ht,λws S1 vs H1 e1 r1 hS1 h1=>hw H1 vs ws S1 Q QW r1 hS1 h1 (hQ.from e1)⟩
theorem zyl (hc:CallR X (.type T) r) (hw:zlQ X.K r f) (hg:Gl X x) (hm:X.mg x=none) (hv:bV x=ae (.type T)) (ha:JA X (e::es) t) (hn:x≠ "__name__" :=by decide) (hdb:(x == ("__debug__" :Str))=false:=by decide)
  (he:ao (e::es) X.env=(false,ax e X.env)::ao es X.env:=by rfl) (hpl:(aS pos (ao es X.env)).any (·.1)=false:=by rfl):JE X (.Call (.Name x p) (e::es) [] pos) (wB f t):=λE hE=>
 (zhG hc hg hm hv (ha E hE) hn hdb he hpl).mono λσ H Q ⟨σW,S,QW,hσ,hS,ht,hQ⟩=>⟨σW,S,_,hσ,hS,ht,λws S1 vs H1 e1 r1 hS1 h1=>hw H1 vs ws S1 Q QW r1 hS1 h1 (hQ.from e1)⟩
theorem zrd (hc:CallR X (.builtin id) r) (hw:zoS X.K r f) (hg:Gl X x) (hm:X.mg x=none) (hv:bV x=ae (.builtin id)) (ha:JL X e tl) (hn:x≠ "__name__" :=by decide) (hdb:(x == ("__debug__" :Str))=false:=by decide)
  (he:ao [e] X.env=(false,ax e X.env)::ao [] X.env:=by rfl) (hpl:(aS pos (ao [] X.env)).any (·.1)=false:=by rfl):JE X (.Call (.Name x p) [e] [] pos) (wBL f tl):=λE hE=>
 (zjp hc hg hm hv (zdy (ha E hE) pa_nil he) hn hdb he hpl).mono λσ H Q ⟨σW,S,QW,hσ,hS,ht,hQ⟩=>⟨σW,S,_,hσ,hS,ht,λws S1 vs a H1 e1 fa ea na r1 hS1 h1=>hw H1 a vs ws S1 Q QW ea na r1 hS1 h1 (hQ.from e1)⟩
theorem zux (hc:CallR X (.type T) r) (hw:zoS X.K r f) (hg:Gl X x) (hm:X.mg x=none) (hv:bV x=ae (.type T)) (ha:JL X e tl) (hn:x≠ "__name__" :=by decide) (hdb:(x == ("__debug__" :Str))=false:=by decide)
  (he:ao [e] X.env=(false,ax e X.env)::ao [] X.env:=by rfl) (hpl:(aS pos (ao [] X.env)).any (·.1)=false:=by rfl):JE X (.Call (.Name x p) [e] [] pos) (wBL f tl):=λE hE=>
 (zhG hc hg hm hv (zdy (ha E hE) pa_nil he) hn hdb he hpl).mono λσ H Q ⟨σW,S,QW,hσ,hS,ht,hQ⟩=>⟨σW,S,_,hσ,hS,ht,λws S1 vs a H1 e1 fa ea na r1 hS1 h1=>hw H1 a vs ws S1 Q QW ea na r1 hS1 h1 (hQ.from e1)⟩
noncomputable def zfz:WF:=λws S Q=>match ws with
 | [.tup us]=>Q (.int us.length) S
 | [.ref a]=>zcU S a λus=>Q (.int us.length) S
 | [.scr ns]=>Q (.int ns.length) S
 | [.str z]=>z.length≤sizeLine∧Q (.int z.length) S
 |_=>False
theorem zsc{K:ak}:zlQ K (λxs H Q=>(∃p ys,xs=[.ref p]∧(SqL K H p ys∨SqT K H p ys)∧Q (.int ys.length) H)∨ ∃z,xs=[.str z]∧z.length≤sizeLine∧Q (.int z.length) H) zfz:=λH vs ws S Q QW r hS h hQ=>by
 cases r with
 |nil=>exact h.elim
 |cons r1 r2=>
  cases r2 with
  |cons _ _=>cases r1<;>exact h.elim
  |nil=>
   cases r1 with
   |tup f hs=>exact .inl ⟨_,_,rfl, .inr (.of f),by rw[←hs.length];exact hQ _ S _ H .refl (.int _) hS h⟩
   |ref a=>
    obtain⟨us,e,h⟩:=zbm h;obtain⟨vs,f,hs⟩:=hS a _ e;exact .inl ⟨_,_,rfl, .inl (.of f),by rw[←hs.length];exact hQ _ S _ H .refl (.int _) hS h⟩
   |scr f=>exact .inl ⟨_,_,rfl, .inl f.sq,by rw[aq];exact hQ _ S _ H .refl (.int _) hS h⟩
   |str z=>exact .inr ⟨z,rfl,h.1,hQ _ S _ H .refl (.int _) hS h.2⟩
   |_=>exact h.elim
theorem zcc (hg:Gl X "len") (hm:X.mg "len" =none) (ha:JA X (e::es) t) 
  (he:ao (e::es) X.env=(false,ax e X.env)::ao es X.env:=by rfl) (hpl:(aS pos (ao es X.env)).any (·.1)=false:=by rfl):JE X (.Call (.Name "len" p) (e::es) [] pos) (wB zfz t):=
 zuI (call_len_seq.or zjZ) zsc hg hm PySem.boot_len ha (by decide) (by decide) he hpl
noncomputable def zea:WF:=λws S Q=>match ws with
 | [.tup us]=>Q (.tup us) S
 | [.ref a]=>zcU S a λus=>Q (.tup us) S
 |_=>False
theorem zmn{K:ak}:zlQ K (λxs H Q=>∃p ys,xs=[.ref p]∧((SqL K H p ys∧ ∀l,H l=none→Q (.ref l) (upd H l (.tup ys)))∨(SqT K H p ys∧Q (.ref p) H))) zea:=λH vs ws S Q QW r hS h hQ=>by
 cases r with
 |nil=>exact h.elim
 |cons r1 r2=>
  cases r2 with
  |cons _ _=>cases r1<;>exact h.elim
  |nil=>
   cases r1 with
   |tup f hs=>exact⟨_,_,rfl, .inr ⟨.of f,hQ _ S _ H .refl (.tup f hs) hS h⟩⟩
   |ref a=>
    obtain⟨us,e,h⟩:=zbm h;obtain⟨vs,f,hs⟩:=hS a _ e;exact⟨_,_,rfl, .inl ⟨.of f,λl hl=>hQ _ S _ _ (.new hl) (.tup zay (hs.ext (.new (S:=S) hl))) (hS.new hl) h⟩⟩
   |_=>exact h.elim
noncomputable def zgz:WF:=λws S Q=>Q (.tup ws) S
theorem zmt{K:ak}:zoS K (λxs H Q=>∃p ys,xs=[.ref p]∧((SqL K H p ys∧ ∀l,H l=none→Q (.ref l) (upd H l (.tup ys)))∨(SqT K H p ys∧Q (.ref p) H))) zgz:=λH a vs ws S Q QW ea na r hS h hQ=>
 ⟨a,vs,rfl, .inl ⟨.of ea,λl hl=>hQ _ S _ _ (.new hl) (.tup zay (r.ext (.new (S:=S) hl))) (hS.new hl) h⟩⟩
noncomputable def zjr (t:WE):WL:=λE σ S Q=>t E σ S λw S1=>match w with
 | .tup ws=>Q ws S1
 | .ref a=>zcU S1 a λws=>Q ws S1
 | .scr ns=>Q (ns.map W.int) S1
 |_=>False
theorem zrm{te:WE}(hg:Gl X "list") (hm:X.mg "list" =none) (ha:JE X e te)
  (he:ao [e] X.env=(false,ax e X.env)::ao [] X.env:=by rfl) (hpl:(aS pos (ao [] X.env)).any (·.1)=false:=by rfl):JL X (.Call (.Name "list" p) [e] [] pos) (zjr te):=λE hE=>
 (zhG zlt hg hm PyProof.Rows.boot_list (zdy (ha E hE) pa_nil he) (by decide) (by decide) he hpl).mono λσ H Q ⟨σW,S,QW,hσ,hS,ht,hQ⟩=>⟨σW,S,_,hσ,hS,ht,λw S1 v H1 e1 r1 hS1 h1=>by
  cases r1 with
  |tup f hs=>exact⟨_,_,rfl, .inr (.of f),λl hl=>hQ _ S1 _ l _ (e1.trans (.new hl)) (e1.free hl) zay (hS1.free hl) (hs.ext (.new (S:=S1) hl)) (hS1.new hl) h1⟩
  |ref a=>
   obtain⟨ws,ea,h⟩:=zbm h1;obtain⟨vs,f,hs⟩:=hS1 a _ ea;exact⟨_,_,rfl, .inl (.of f),λl hl=>hQ _ S1 _ l _ (e1.trans (.new hl)) (e1.free hl) zay (hS1.free hl) (hs.ext (.new (S:=S1) hl)) (hS1.new hl) h⟩
  |scr f=>exact⟨_,_,rfl, .inl f.sq,λl hl=>hQ _ S1 _ l _ (e1.trans (.new hl)) (e1.free hl) zay (hS1.free hl) (Reps.ofInts _) (hS1.new hl) h1⟩
  |_=>exact h1.elim⟩
noncomputable def zih:List W→Option (List Bool)
 | []=>ae []
 | .bl b::ws=>(zih ws).map (b:: ·)
 |_=>none
theorem zpZ{K:ak}{H:Hp}:∀{ws:List W}{vs:List V}{bs:List Bool},Reps K H ws vs→zih ws=ae bs→vs=bs.map V.bl
 | [],_,_, .nil,e=>by have:=aE e;subst this;rfl
 |w::ws,_,_, .cons r rs,e=>by
  cases r with
  |bl b=>
   have e':(zih ws).map (b:: ·)=ae _:=e;cases q:zih ws with
   |none=>rw[q]at e';cases e'
   |some cs=>
    rw[q]at e';have:=aE e';subst this;rw[az,zpZ rs q]
  |_=>cases e
noncomputable def zms:WF:=λws S Q=>match zih ws with
 |some bs=>Q (.bl (bs.all _root_.id)) S
 |none=>False
theorem zss{K:ak}:zoS K (λxs H Q=>∃(p:Addr) (bs:List Bool),xs=[.ref p]∧SqL K H p (bs.map V.bl)∧Q (.bl (bs.all _root_.id)) H) zms:=λH a vs ws S Q QW ea na r hS h hQ=>by
 unfold zms at h;split at h
 ·rename_i bs e;have:=zpZ r e;subst this;exact⟨a,bs,rfl, .of ea,hQ _ S _ H .refl (.bl _) hS h⟩
 ·exact h.elim
noncomputable def tyW:W→Sto→(String→Prop)→Prop
 | .non,_,Q=>Q "NoneType"
 | .bl _,_,Q=>Q "bool"
 | .int _,_,Q=>Q "int"
 | .str _,_,Q=>Q "str"
 | .tup _,_,Q=>Q "tuple"
 | .ref a,S,Q=>zcU S a λ_=>Q "list"
 | .scr _,_,_=>False
noncomputable def zcu (A B:String):Bool:=A == B || (A == "bool" &&B == "int")
noncomputable def zsx (T:String) (t:WE):WE:=λE σ S Q=>t E σ S λw S1=>tyW w S1 λA=>Q (.bl (zcu A T)) S1
theorem zgM{a:Expr}{ta:WE}{p2:aB}{T:Str}{T':String}(hg:Gl X "isinstance") (hm:X.mg "isinstance" =none) (hgT:Gl X T) (hmT:X.mg T=none) (hv:bV T=ae (.type T')) (ha:JE X a ta) (hn:T≠ "__name__") (hd:(T == ("__debug__" :Str))=false)
  (hk:∀A∈ ["NoneType", "bool", "int", "str", "tuple", "list"],eX X.K (.type A) (.type T')=ae (zcu A T'))
  (he:ao [a, .Name T p2] X.env=(false,ax a X.env)::ao [.Name T p2] X.env:=by rfl) (he2:ao [.Name T p2] X.env=(false,ax (.Name T p2) X.env)::ao [] X.env:=by rfl) (hpl:(aS pos (ao [.Name T p2] X.env)).any (·.1)=false:=by rfl) :
  JE X (.Call (.Name "isinstance" p) [a, .Name T p2] [] pos) (zsx T' ta):=λE hE=>
 (zjp zti hg hm PyProof.Rows.boot_isinstance (zdy (ha E hE) (zdy (zvh (v:= .ty T') hgT hmT hv rfl hn hd) pa_nil he2) he) (by decide) (by decide) he hpl).mono λσ H Q ⟨σW,S,QW,hσ,hS,ht,hQ⟩=>⟨σW,S,_,hσ,hS,ht,λw S1 v H1 e1 r1 hS1 h1=>by
  have fin:∀{t:Value}(A:String),t= .type A→A∈ ["NoneType", "bool", "int", "str", "tuple", "list"]→TyOf X.K H1 v t→QW (.bl (zcu A T')) S1→ ∃x t c b,[v,V.ty T']=[x, .ty c]∧TyOf X.K H1 x t∧eX X.K t (.type c)=ae b∧Q (.bl b) H1:=λA e hA ty q=>by
   subst e;exact⟨v,_,T',_,rfl,ty,hk A hA,hQ _ S1 _ H1 e1 (.bl _) hS1 q⟩
  cases r1 with
  |non=>exact fin _ rfl (by simp) .non h1
  |bl b=>exact fin _ rfl (by simp) (.bl b) h1
  |int i=>exact fin _ rfl (by simp) (.int i) h1
  |str z=>exact fin _ rfl (by simp) (.str z) h1
  |tup f hs=>exact fin _ rfl (by simp) (.tup f) h1
  |ref a=>
   obtain⟨ws,ea,h⟩:=zbm h1;obtain⟨vs,f,hs⟩:=hS1 a _ ea;exact fin _ rfl (by simp) (.lst f) h
  |scr f=>exact h1.elim⟩
end
abbrev WMf:=W→List W→Sto→WK→Prop
noncomputable def rvL:W→Sto→Prop
 | .ref a,S=>zcU S a λ_=>True
 |_,_=>False
noncomputable def rvS:W→Sto→Prop
 | .str _,_=>True
 |_,_=>False
noncomputable def wM (rv:W→Sto→Prop) (f:WMf) (to:WE) (t:WA):WE:=λE σ S Q=>to E σ S λw S1=>rv w S1∧t E σ S1 λws S2=>f w ws S2 Q
noncomputable def wML (rv:W→Sto→Prop) (f:WMf) (to:WE) (t:WL):WE:=λE σ S Q=>to E σ S λw S1=>rv w S1∧t E σ S1 λws S2=>f w ws S2 Q
def MtW (K:ak) (r:V→List V→Hp→VK→Prop) (f:WMf):Prop:=∀H x w vs ws S (Q:VK) (QW:WK),Rep K H w x→Reps K H ws vs→RepS K H S→f w ws S QW→Wish K H S QW Q→r x vs H Q
def MtL (K:ak) (r:V→List V→Hp→VK→Prop) (f:WMf):Prop:=∀H x w a vs ws S (Q:VK) (QW:WK),Rep K H w x→H a=ae (.lst vs)→S a=none→Reps K H ws vs→RepS K H S→f w ws S QW→Wish K H S QW Q→r x [.ref a] H Q
def zxA (K:ak) (T:String) (rv:W→Sto→Prop):Prop:=∀H w v S,Rep K H w v→RepS K H S→rv w S→tyV K T v H
theorem zuq{K:ak}:zxA K "list" rvL:=λH w v S r hS h=>by
 cases r with
 |ref a=>
  obtain⟨ws,e,_⟩:=zbm h;obtain⟨vs,f,_⟩:=hS a _ e;exact .inl ⟨rfl,vs, .of f⟩
 |_=>exact h.elim
theorem zug{K:ak}:zxA K "str" rvS:=λH w v S r hS h=>by
 cases r with
 |str x=>exact rfl
 |_=>exact h.elim
section
variable {X:Cx}{o e:Expr}{es:List Expr}{to:WE}{t:WA}{tl:WL}{name:Str}{apos cpos:aB}{id T:String}{r:V→List V→Hp→VK→Prop}{f:WMf}{rv:W→Sto→Prop}
theorem zBL (pa:eO T) (slot:Slot T name id) (hty:eD (.builtin id)=pure (.type "method_descriptor")) (hrv:zxA X.K T rv) (hm:MtR X id r) (hw:MtW X.K r f) (ho:JE X o to) (ha:JA X (e::es) t)
  (hbase:cN o name X.env (ax o X.env)=ax o X.env:=by rfl)
  (hfew:((aS cpos (ao (e::es) X.env)).all (λx=> !x.1)&&(d7 cpos (dP [] X.env)).all (λx=>x.1.isSome)
   &&decide ((e::es).length+([]:List b7).length+(if([]:List b7).isEmpty then 0 else 1)<30))=true:=by rfl)
  (hline:(apos.endLine == cpos.line)=true:=by rfl) (hs:ao (e::es) X.env=(false,ax e X.env)::ao es X.env:=by rfl) (hplain:(aS cpos (ao es X.env)).any (·.1)=false:=by rfl) :
  JE X (.Call (.Attribute o name apos) (e::es) [] cpos) (wM rv f to t):=λE hE=>
 (zyY pa slot hty hm (ho E hE) (ha E hE) hbase hfew hline hs hplain).mono λσ H Q ⟨σW,S,QW,hσ,hS,ht,hQ⟩=>⟨σW,S,_,hσ,hS,ht,λw S1 v H1 e1 r1 hS1 h1=>
  ⟨hrv H1 w v S1 r1 hS1 h1.1,σW,S1,_,hσ.ext e1,hS1,h1.2,λws S2 vs H2 e2 r2 hS2 h2=>hw H2 v w vs ws S2 Q QW (r1.ext e2) r2 hS2 h2 (hQ.from (e1.trans e2))⟩⟩
theorem zAP (pa:eO T) (slot:Slot T name id) (hty:eD (.builtin id)=pure (.type "method_descriptor")) (hrv:zxA X.K T rv) (hm:MtR X id r) (hw:MtL X.K r f) (ho:JE X o to) (ha:JL X e tl)
  (hbase:cN o name X.env (ax o X.env)=ax o X.env:=by rfl)
  (hfew:((aS cpos (ao [e] X.env)).all (λx=> !x.1)&&(d7 cpos (dP [] X.env)).all (λx=>x.1.isSome)
   &&decide ([e].length+([]:List b7).length+(if([]:List b7).isEmpty then 0 else 1)<30))=true:=by rfl)
  (hline:(apos.endLine == cpos.line)=true:=by rfl) (hs:ao [e] X.env=(false,ax e X.env)::ao [] X.env:=by rfl) (hplain:(aS cpos (ao [] X.env)).any (·.1)=false:=by rfl) :
  JE X (.Call (.Attribute o name apos) [e] [] cpos) (wML rv f to tl):=λE hE=>
 (zyY pa slot hty hm (ho E hE) (zdy (ha E hE) pa_nil hs) hbase hfew hline hs hplain).mono λσ H Q ⟨σW,S,QW,hσ,hS,ht,hQ⟩=>⟨σW,S,_,hσ,hS,ht,λw S1 v H1 e1 r1 hS1 h1=>
  ⟨hrv H1 w v S1 r1 hS1 h1.1,σW,S1,_,hσ.ext e1,hS1,h1.2,λws S2 vs a H2 e2 fa ea na r2 hS2 h2=>hw H2 v w a vs ws S2 Q QW (r1.ext e2) ea na r2 hS2 h2 (hQ.from (e1.trans e2))⟩⟩
theorem zAF (pa:eO T) (slot:Slot T name id) (hty:eD (.builtin id)=pure (.type "method_descriptor")) (hrv:zxA X.K T rv) (hm:MtR X id r) (hw:MtW X.K r f) (ho:JE X o to)
  (hbase:cN o name X.env (ax o X.env)=ax o X.env:=by rfl) (hline:(apos.endLine == cpos.line)=true:=by rfl):JE X (.Call (.Attribute o name apos) [] [] cpos) (wM rv f to waNil):=λE hE=>
 (zzl pa slot hty hm (ho E hE) hbase hline).mono λσ H Q ⟨σW,S,QW,hσ,hS,ht,hQ⟩=>⟨σW,S,_,hσ,hS,ht,λw S1 v H1 e1 r1 hS1 h1=>
  ⟨hrv H1 w v S1 r1 hS1 h1.1,hw H1 v w [] [] S1 Q QW r1 .nil hS1 h1.2 (hQ.from e1)⟩⟩
noncomputable def zbQ:WMf:=λw ws S Q=>match w with
 | .ref a=>zcU S a λxs=>match ws with
  | [y]=>xs.length<sizeLine∧Q .non (put S a (.lst (xs++[y])))
  |_=>False
 |_=>False
theorem zoT{K:ak}:MtW K zqy zbQ:=λH x w vs ws S Q QW r rs hS h hQ=>by
 cases r with
 |ref a=>
  obtain⟨xs,ea,h⟩:=zbm h;obtain⟨us,f,hs⟩:=hS a _ ea;cases rs with
  |nil=>exact h.elim
  |cons r1 r2=>
   cases r2 with
   |cons _ _=>exact h.elim
   |nil=>
    obtain⟨e,hS'⟩:=hS.set_lst ea (hs.append (.one r1));exact⟨a,us,_,rfl,rfl,f,by rw[←hs.length];exact h.1,hQ _ _ _ _ e .non hS' h.2⟩
 |_=>exact h.elim
theorem zbd (ho:JE X o to) (ha:JA X (e::es) t)
  (hbase:cN o "append" X.env (ax o X.env)=ax o X.env:=by rfl)
  (hfew:((aS cpos (ao (e::es) X.env)).all (λx=> !x.1)&&(d7 cpos (dP [] X.env)).all (λx=>x.1.isSome)
   &&decide ((e::es).length+([]:List b7).length+(if([]:List b7).isEmpty then 0 else 1)<30))=true:=by rfl)
  (hline:(apos.endLine == cpos.line)=true:=by rfl) (hs:ao (e::es) X.env=(false,ax e X.env)::ao es X.env:=by rfl) (hplain:(aS cpos (ao es X.env)).any (·.1)=false:=by rfl) :
  JE X (.Call (.Attribute o "append" apos) (e::es) [] cpos) (wM rvL zbQ to t):=zBL kQ PySem.F.slot_list_append PySem.F.type_list_append zuq zlB zoT ho ha hbase hfew hline hs hplain
noncomputable def zCP:WMf:=λw ws S Q=>match w with
 | .ref a=>zcU S a λxs=>match ws with
  | []=>match xs[xs.length - 1]? with
   |some y=>Q y (put S a (.lst xs.dropLast))
   |none=>False
  |_=>False
 |_=>False
noncomputable def zim:WMf:=λw ws S Q=>match w with
 | .ref a=>zcU S a λxs=>match ws with
  | [.tup ys]=>xs.length+ys.length≤sizeLine∧Q .non (put S a (.lst (xs++ys)))
  | [.ref b]=>zcU S b λys=>xs.length+ys.length≤sizeLine∧Q .non (put S a (.lst (xs++ys)))
  |_=>False
 |_=>False
theorem zpB{K:ak}:MtW K (λx vs H Q=>zqY x vs H Q∨znF K x vs H Q) zim:=λH x w vs ws S Q QW r rs hS h hQ=>by
 cases r with
 |ref a=>
  obtain⟨xs,ea,h⟩:=zbm h;obtain⟨us,f,hs⟩:=hS a _ ea;cases rs with
  |nil=>exact h.elim
  |cons r1 r2=>
   cases r2 with
   |cons _ _=>cases r1<;>exact h.elim
   |nil=>
    cases r1 with
    |tup g ks=>
     obtain⟨e,hS'⟩:=hS.set_lst ea (hs.append ks);exact .inr ⟨a,_,us,_,rfl,rfl,f, .of g,by rw[←hs.length,←ks.length];exact h.1,hQ _ _ _ _ e .non hS' h.2⟩
    |ref b=>
     obtain⟨ys,eb,h⟩:=zbm h;obtain⟨zs,g,ks⟩:=hS b _ eb;obtain⟨e,hS'⟩:=hS.set_lst ea (hs.append ks);exact .inl ⟨a,b,us,zs,rfl,rfl,f,g,by rw[←hs.length,←ks.length];exact h.1,hQ _ _ _ _ e .non hS' h.2⟩
    |_=>exact h.elim
 |_=>exact h.elim
theorem zqs (ho:JE X o to) (ha:JA X (e::es) t)
  (hbase:cN o "extend" X.env (ax o X.env)=ax o X.env:=by rfl)
  (hfew:((aS cpos (ao (e::es) X.env)).all (λx=> !x.1)&&(d7 cpos (dP [] X.env)).all (λx=>x.1.isSome)
   &&decide ((e::es).length+([]:List b7).length+(if([]:List b7).isEmpty then 0 else 1)<30))=true:=by rfl)
  (hline:(apos.endLine == cpos.line)=true:=by rfl) (hs:ao (e::es) X.env=(false,ax e X.env)::ao es X.env:=by rfl) (hplain:(aS cpos (ao es X.env)).any (·.1)=false:=by rfl) :
  JE X (.Call (.Attribute o "extend" apos) (e::es) [] cpos) (wM rvL zim to t):=zBL kQ PySem.F.slot_list_extend PySem.F.type_list_extend zuq (MtR.or zrC zpa) zpB ho ha hbase hfew hline hs hplain
noncomputable def zsy:WMf:=λw ws S Q=>match w with
 | .ref a=>zcU S a λxs=>xs.length+ws.length≤sizeLine∧Q .non (put S a (.lst (xs++ws)))
 |_=>False
noncomputable def zgL:List W→Option (List Str)
 | []=>ae []
 | .str b::ws=>(zgL ws).map (b:: ·)
 |_=>none
theorem znh{K:ak}{H:Hp}:∀{ws:List W}{vs:List V}{bs:List Str},Reps K H ws vs→zgL ws=ae bs→vs=bs.map V.str
 | [],_,_, .nil,e=>by have:=aE e;subst this;rfl
 |w::ws,_,_, .cons r rs,e=>by
  cases r with
  |str b=>
   have e':(zgL ws).map (b:: ·)=ae _:=e;cases q:zgL ws with
   |none=>rw[q]at e';cases e'
   |some cs=>
    rw[q]at e';have:=aE e';subst this;rw[az,znh rs q]
  |_=>cases e
noncomputable def zld:WMf:=λw ws S Q=>match w with
 | .str z=>match zgL ws with
  |some ys=>(ys.map (·.length)).sum+ys.length*z.length≤16777216∧Q (.str (cO z ys)) S
  |none=>False
 |_=>False
theorem ztQ{K:ak}:MtL K (zzk K) zld:=λH x w a vs ws S Q QW r ea na rs hS h hQ=>by
 cases r with
 |str z=>
  unfold zld at h;dsimp only at h;split at h
  ·rename_i ys e;have:=znh rs e;subst this;exact⟨z,a,ys,rfl,rfl, .of ea,h.1,hQ _ S _ H .refl (.str _) hS h.2⟩
  ·exact h.elim
 |_=>exact h.elim
theorem zsT (ho:JE X o to) (ha:JL X e tl)
  (hbase:cN o "join" X.env (ax o X.env)=ax o X.env:=by rfl)
  (hfew:((aS cpos (ao [e] X.env)).all (λx=> !x.1)&&(d7 cpos (dP [] X.env)).all (λx=>x.1.isSome)
   &&decide ([e].length+([]:List b7).length+(if([]:List b7).isEmpty then 0 else 1)<30))=true:=by rfl)
  (hline:(apos.endLine == cpos.line)=true:=by rfl) (hs:ao [e] X.env=(false,ax e X.env)::ao [] X.env:=by rfl) (hplain:(aS cpos (ao [] X.env)).any (·.1)=false:=by rfl) :
  JE X (.Call (.Attribute o "join" apos) [e] [] cpos) (wML rvS zld to tl):=zAP jC PySem.F.slot_str_join PySem.F.type_str_join zug zwA ztQ ho ha hbase hfew hline hs hplain
noncomputable def zyJ:WMf:=λw ws S Q=>match w with
 | .str z=>match ws with
  | [.str y]=>match cy z y 0 z.length 1 with
   |i::_=>Q (.int i) S
   | []=>False
  |_=>False
 |_=>False
end
noncomputable def zzB (i:Nat) (g:Int→Int→Int) (e:WE):WS:=λE D σ S=>match σ[i]? with
 |some (ae (.int a))=>e E σ S λw S1=>match w with
  | .int b=>D.nx (σ.set i (ae (.int (g a b)))) S1
  |_=>False
 |_=>False
section
variable {X:Cx}{e:Expr}{te:WE}{pos pos':aB}
theorem zuk{i:Nat}{x:Str}(hN:X.N.Nodup) (hi:X.N[i]? =ae x) (hx:Loc X.env.scope x) (he:JE X e te) (hf:X.fn x=true∨X.env.scope.names.lookup x=ae .local:=by first |exact .inl rfl |exact .inr rfl |assumption) :
  JS X (.AugAssign (.Name x pos') .Add e pos) (zzB i (λa b=>a+b) te):=λE hE=>
 (zxK hN hi hx (he E hE) zxp hf).mono λD σ H ⟨σW,S,DW,hσ,hS,ht,hD⟩=>by
  unfold zzB at ht;split at ht
  ·rename_i a ea;obtain⟨v,ev,rv⟩:=hσ.get ea;cases rv;refine⟨_,ev,σW,S,_,hσ,hS,ht,λw S1 v H1 e1 r1 hS1 h1=>?_⟩;cases r1 with
   |int b=>exact⟨a,b,rfl,rfl,hD.nx _ S1 _ H1 e1 ((hσ.ext e1).set (.int _) i) hS1 h1⟩
   |_=>exact h1.elim
  ·exact ht.elim
end
noncomputable def zot (c:WT) (b:WS):WS:=λE D σ S=>∃I:Nat→WSt→Sto→Prop,(∃m,I m σ S)∧ ∀m σ S,I m σ S→c E σ S λk S1=>if k=true then
 b E { D with nx:=λσ' S'=>∃m' S'',m'<m∧Sub S'' S'∧I m' σ' S'',ct:=λσ' S'=>∃m' S'',m'<m∧Sub S'' S'∧I m' σ' S'',bk:=D.nx } σ S1 else D.nx σ S1
section
variable {X:Cx}{c:Expr}{body:List Stmt}{tc:WT}{tb:WS}{pos:aB}
theorem zjy (hc:JT X c tc) (hb:JSs X body tb):JS X (.While c body [] pos) (zot tc tb):=λE hE=>
 (ztc hE.own (hc E hE) (hb E hE)).mono λD σ H ⟨σW,S,DW,hσ,hS,⟨J,⟨n,ht⟩,step⟩,hD⟩=>by
  refine⟨λm σ1 H1=>∃σW1 S1,Ext H S H1 S1∧RpSt X.K H1 σW1 σ1∧RepS X.K H1 S1∧J m σW1 S1,⟨n,σW,S, .refl,hσ,hS,ht⟩,?_⟩;rintro m σ1 H1 ⟨σW1,S1,e1,hσ1,hS1,h1⟩;refine⟨σW1,S1,_,hσ1,hS1,step m σW1 S1 h1,λk S2 H2 e2 hS2 h2=>?_⟩;cases k with
  |false=>exact hD.nx σW1 S2 σ1 H2 (e1.trans e2) (hσ1.ext e2) hS2 h2
  |true=>
   rw[if_pos rfl]at h2⊢;refine⟨λσ' H'=>∃m',m'<m∧ ∃σW1 S1,Ext H S H' S1∧RpSt X.K H' σW1 σ'∧RepS X.K H' S1∧J m' σW1 S1,λσ' H' n'=>n',σW1,S2,_,hσ1.ext e2,hS2,h2,?_⟩;have e12:=e1.trans e2;have go:Goes X.K H2 S2 (λσ' S'=>∃m' S'',m'<m∧Sub S'' S'∧J m' σ' S'') (λσ' H'=>∃m',m'<m∧ ∃σW1 S1,Ext H S H' S1∧RpSt X.K H' σW1 σ'∧RepS X.K H' S1∧J m' σW1 S1):=λσW3 S3 σ3 H3 e3 hσ3 hS3 ⟨m',S4,hm,sb,q⟩=>
    ⟨m',hm,σW3,S4,(e12.trans e3).trans (.drop sb),hσ3,hS3.sub sb,q⟩
   exact⟨go,hD.rt.from e12,hD.nx.from e12,go⟩
end
noncomputable def forL (g:WG) (b:WS) (E:WX) (D:WEnds) (G:Sto→Prop):List W→WSt→Sto→Prop
 | [],σ,S=>D.nx σ S
 |w::ws,σ,S=>g w σ S λσ1 S1=>b E { D with nx:=λσ' S'=>∃S'',Sub S'' S'∧G S''∧forL g b E D G ws σ' S'',ct:=λσ' S'=>∃S'',Sub S'' S'∧G S''∧forL g b E D G ws σ' S'',bk:=D.nx } σ1 S1
noncomputable def zgO (q:WI) (g:WG) (b:WS):WS:=λE D σ S=>q E σ S λws G S1=>forL g b E D G ws σ S1
section
variable {X:Cx}{tg iter:Expr}{body:List Stmt}{q:WI}{g:WG}{tb:WS}{pos:aB}
theorem zbL (hi:JI X tg iter q) (hg:JG X tg g) (hb:JSs X body tb) (hcl:X.calm=true:=by rfl)
  (hs:∀x,du iter X.env x=pure x:=by intro _;rfl):JS X (.For tg iter body [] pos) (zgO q g tb):=λE hE=>
 (zyU hE.own hcl (hi E hE) (hg E hE) (hb E hE) hs).mono λD σ H ⟨σW,S,DW,hσ,hS,ht,hD⟩=>by
  refine⟨σW,S,_,hσ,hS,ht,λws G S1 J H1 e1 hS1 hG1 hJ h1=>?_⟩;refine⟨λi m σ2 H2=>∃σW2 S2,Ext H1 S1 H2 S2∧RpSt X.K H2 σW2 σ2∧RepS X.K H2 S2∧G S2∧m=ws.length - i∧i≤ws.length∧forL g tb E DW G (ws.drop i) σW2 S2,
   ⟨ws.length,σW,S1, .refl,hσ.ext e1,hS1,hG1,rfl,aZ _,h1⟩,?_⟩
  rintro i m σ2 H2 ⟨σW2,S2,e2,hσ2,hS2,hG2,rfl,hi2,h2⟩;obtain⟨ji,js⟩:=hJ i S2 H2 e2 hS2 hG2;by_cases hlt:i<ws.length
  ·obtain⟨jgo,jy⟩:=ji ws[i] (aQ hlt);refine .inr ⟨jgo,λσ' H'=>∃σW2 S2,Ext H1 S1 H' S2∧RpSt X.K H' σW2 σ'∧RepS X.K H' S2∧G S2∧ws.length - (i+1)=ws.length - (i+1)∧i+1≤ws.length∧forL g tb E DW G (ws.drop (i+1)) σW2 S2,λσ' H' z=>⟨_,by omega,z⟩,λx H3 y3=>?_⟩
   obtain⟨e3,hS3,r3⟩:=jy x H3 y3;rw[fi hlt]at h2;refine⟨_,σW2,S2,_,r3,hσ2.ext e3,hS3,h2,λσW4 S4 σ4 H4 e4 hσ4 hS4 h4=>?_⟩;have e14:Ext H1 S1 H4 S4:=(e2.trans e3).trans e4;refine⟨σW4,S4,_,hσ4,hS4,h4,?_⟩;have go:Goes X.K H4 S4 (λσ' S'=>∃S'',Sub S'' S'∧G S''∧forL g tb E DW G (ws.drop (i+1)) σ' S'') (λσ' H'=>∃σW2 S2,Ext H1 S1 H' S2∧RpSt X.K H' σW2 σ'∧RepS X.K H' S2∧G S2∧ws.length - (i+1)=ws.length - (i+1)∧i+1≤ws.length∧forL g tb E DW G (ws.drop (i+1)) σW2 S2):=
    λσW5 S5 σ5 H5 e5 hσ5 hS5 ⟨S6,sb,hG6,q⟩=>⟨σW5,S6,(e14.trans e5).trans (.drop sb),hσ5,hS5.sub sb,hG6,rfl,hlt,q⟩
   exact⟨go,hD.rt.from (e1.trans e14),hD.nx.from (e1.trans e14),go⟩
  ·have hl:i=ws.length:=by omega
   rw[dB (fj hl.symm)]at h2;exact .inl ⟨js hl,hD.nx σW2 S2 σ2 H2 (e1.trans e2) hσ2 hS2 h2⟩
end
section
variable {X:Cx}{tg:Expr}
noncomputable def zCu (K:ak) (tl:TE):TI:=λσ H R=>tl σ H λx H1=>(∃a,x= .ref a∧(∃xs,SqL K H1 a xs)∧R (Itl K a) H1)∨(∃a,x= .ref a∧(∃xs,SqT K H1 a xs)∧R (Itt K a) H1)∨ ∃z,x= .str z∧R (Its z) H1
theorem zzo{l:Expr}{tl:TE}(hl:PE X l tl):PI X tg l (zCu X.K tl):=by
 intro pins s σ H R I h;refine thn (hl pins s σ H _ I h) λv s1 ⟨x,H1,I1,r1,q1⟩=>?_;have fp:∀b∈ [s1.heap.objs.size],zjR X pins H1 b:=λb hb=>by
  have e:b=s1.heap.objs.size:=by simpa using hb
  subst e;exact I1.fpOk (au _) (I1.hok.fresh (au _))
 rcases q1 with⟨a,e,⟨xs,hq⟩,q⟩ |⟨a,e,⟨xs,hq⟩,q⟩ |⟨z,e,q⟩
 ·subst e;cases r1;obtain⟨its,rv,p,hz⟩:=I1.list hq;refine dn p.isList ?_;exact⟨s1.heap.objs.size,[s1.heap.objs.size],_,_,H1,rfl,I1.kept (t':=s1.toks) λb o e=>aH _ e,zjY a _,⟨_,bj _ rfl,rfl,rfl⟩,fp,q⟩
 ·subst e;cases r1;obtain⟨its,rv,p,hz⟩:=I1.tuple hq;refine jx (show s1.heap.IsTuple a its.toArray from p) ?_;exact⟨s1.heap.objs.size,[s1.heap.objs.size],_,_,H1,rfl,I1.kept (t':=s1.toks) λb o e=>aH _ e,zph a _,⟨_,bj _ rfl,rfl,rfl⟩,fp,q⟩
 ·subst e;obtain⟨t,rfl⟩:=r1;cases ha:z.cps.all (· <128)
  ·refine wpAny_pyIter_wide ha ?_;exact⟨s1.heap.objs.size,[s1.heap.objs.size],_,_,H1,rfl,I1.kept (t':=s1.toks) λb o e=>aH _ e,
    znH _ z t "str_iterator" (by decide) (λA' hA=>dO.strWide hA _ z t) (λ_ _ _ _ _ st h=>wpAny_pyIter_striter_wide st h),⟨_,bj _ rfl,rfl,rfl⟩,fp,q⟩
  ·refine wpAny_pyIter_ascii ha ?_;exact⟨s1.heap.objs.size,[s1.heap.objs.size],_,_,H1,rfl,I1.kept (t':=s1.toks) λb o e=>aH _ e,
    znH _ z t "str_ascii_iterator" (by decide) (λA' hA=>dO.strAscii hA _ z t) (λ_ _ _ _ _ st h=>wpAny_pyIter_striter_ascii st h),⟨_,bj _ rfl,rfl,rfl⟩,fp,q⟩
noncomputable def zkS (z:Str):List W:=z.cps.toList.map λc=> .str ⟨#[c]⟩
noncomputable def wIv (t:WE):WI:=λE σ S Q=>t E σ S λw S1=>match w with
 | .tup ws=>Q ws (λ_=>True) S1
 | .ref a=>zcU S1 a λws=>Q ws (λS'=>S' a=ae (.lst ws)) S1
 | .scr ns=>Q (ns.map W.int) (λ_=>True) S1
 | .str z=>Q (zkS z) (λ_=>True) S1
 |_=>False
theorem zmw{K:ak}{a:Addr}{ws:List W}{G:Sto→Prop}{H0:Hp}{S0:Sto}(h:∀S H,Ext H0 S0 H S→RepS K H S→G S→ ∃vs,SqL K H a vs∧Reps K H ws vs):ItW K (Itl K a) ws G H0 S0:=λi S H e hS hG=>by
 obtain⟨vs,hq,r⟩:=h S H e hS hG;refine⟨λw ew=>?_,λhl=>⟨vs,hq,by rw[←r.length,hl];exact au _⟩⟩
 obtain⟨v,ev,rv⟩:=r.get ew;refine⟨⟨vs,v,hq,ev⟩,λx H' ⟨e1,e2⟩=>?_⟩;subst e1;have e3:=e2 vs hq;rw[ev]at e3;cases e3;exact⟨.refl,hS,rv⟩
theorem zxH{K:ak}{a:Addr}{ws:List W}{vs:List V}{H0:Hp}{S0:Sto}(f:H0 a=ae (.tup vs)) (r:Reps K H0 ws vs):ItW K (Itt K a) ws (λ_=>True) H0 S0:=λi S H e hS hG=>by
 have f':=e.tup _ _ f;have r':=r.ext e;refine⟨λw ew=>?_,λhl=>⟨vs, .of f',by rw[←r'.length,hl];exact au _⟩⟩
 obtain⟨v,ev,rv⟩:=r'.get ew;refine⟨⟨vs,v, .of f',ev⟩,λx H' ⟨e1,e2⟩=>?_⟩;subst e1;have e3:=e2 vs (.of f');rw[ev]at e3;cases e3;exact⟨.refl,hS,rv⟩
theorem zxJ{K:ak}{z:Str}{H0:Hp}{S0:Sto}:ItW K (Its z) (zkS z) (λ_=>True) H0 S0:=λi S H e hS hG=>by
 unfold zkS;refine⟨λw ew=>?_,λhl=>?_⟩
 ·rw[bv]at ew;cases ec:z.cps.toList[i]? with
  |none=>rw[ec]at ew;cases ew
  |some c=>
   rw[ec]at ew;have ew':=aE ew;subst ew';have hi:i<z.cps.size:=by
    have:=(cb.mp ec).1;simpa using this
   refine⟨hi,λx H' ⟨e1,c',e2,e3⟩=>?_⟩;subst e1 e3;have:c'=c:=by
    have q:z.cps.toList[i]? =ae c':=by rw[←e2];simp
    rw[ec]at q;exact(aE q).symm
   subst this;exact⟨.refl,hS, .str _⟩
 ·show i=z.cps.size;simpa using hl
theorem zaM{l:Expr}{tl:WE}(hl:JE X l tl):JI X tg l (wIv tl):=λE hE=>
 (zzo (hl E hE)).mono λσ H R ⟨σW,S,QW,hσ,hS,ht,hR⟩=>⟨σW,S,_,hσ,hS,ht,λw S1 v H1 e1 r1 hS1 h1=>by
  cases r1 with
  |tup f hs=>exact .inr (.inl ⟨_,rfl,⟨_, .of f⟩,hR _ _ S1 _ H1 e1 hS1 trivial (zxH f hs) h1⟩)
  |ref a=>
   obtain⟨ws,ea,h⟩:=zbm h1;obtain⟨vs,f,hs⟩:=hS1 a _ ea;refine .inl ⟨_,rfl,⟨_, .of f⟩,hR _ _ S1 _ H1 e1 hS1 ea (zmw λS2 H2 e2 hS2 g2=>?_) h⟩;obtain⟨vs2,f2,hs2⟩:=hS2 a _ g2;exact⟨vs2, .of f2,hs2⟩
  |scr f=>exact .inl ⟨_,rfl,⟨_,f.sq⟩,hR _ _ S1 _ H1 e1 hS1 trivial (zmw λS2 H2 e2 hS2 g2=>⟨_,(e2.fz f).sq,Reps.ofInts _⟩) h1⟩
  |str z=>exact .inr (.inr ⟨z,rfl,hR _ _ S1 _ H1 e1 hS1 trivial zxJ h1⟩)
  |_=>exact h1.elim⟩
noncomputable def wIl (t:WL):WI:=λE σ S Q=>t E σ S λws S1=>Q ws (λ_=>True) S1
theorem zzF{l:Expr}{tl:WL}(hl:JL X l tl):JI X tg l (wIl tl):=λE hE=>
 (zwy (hl E hE)).mono λσ H R ⟨σW,S,QW,hσ,hS,ht,hR⟩=>⟨σW,S,_,hσ,hS,ht,λws S1 vs a H1 e1 fa ea na r1 hS1 h1=>
  ⟨a,rfl,⟨vs, .of ea⟩,hR _ _ S1 _ H1 e1 hS1 trivial (zmw λS2 H2 e2 hS2 g2=>⟨vs, .of (e2.fr a _ ea na).1,r1.ext e2⟩) h1⟩⟩
noncomputable def zpm (lo:Int) (n:Nat):List W:=(bc n).map λ(i:Nat)=> .int (lo+(i:Int))
theorem zyu{K:ak}{lo:Int}{n:Nat}{H0:Hp}{S0:Sto}:ItW K (Itr lo n) (zpm lo n) (λ_=>True) H0 S0:=λi S H e hS hG=>by
 unfold zpm;refine⟨λw ew=>?_,λhl=>by
  have:i=n:=by simpa using hl
  exact fj this.symm⟩
 rw[bv]at ew;by_cases hi:i<n
 ·rw[fW hi]at ew;have ew':=aE ew;subst ew';refine⟨hi,λx H' ⟨e1,e2⟩=>?_⟩;subst e1 e2;exact⟨.refl,hS, .int _⟩
 ·rw[ij (by simpa using hi)]at ew;cases ew
noncomputable def zvV (t:WA):WI:=λE σ S Q=>t E σ S λws S1=>match ws with
 | [.int j]=>(-(2 ^ 62)≤j∧j<2 ^ 62)∧Q (zpm 0 j.toNat) (λ_=>True) S1
 |_=>False
theorem zfL{a:Expr}{ta:WA}{p pos:aB}(hg:Gl X "range") (hm:X.mg "range" =none) (ha:JA X [a] ta) (hs:ao [a] X.env=[(false,ax a X.env)]:=by rfl):JI X tg (.Call (.Name "range" p) [a] [] pos) (zvV ta):=λE hE=>
 (zrI hg hm (ha E hE) hs).mono λσ H R ⟨σW,S,QW,hσ,hS,ht,hR⟩=>⟨σW,S,_,hσ,hS,ht,λws S1 vs H1 e1 r1 hS1 h1=>by
  cases r1 with
  |nil=>exact h1.elim
  |cons r2 r3=>
   cases r3 with
   |cons _ _=>cases r2<;>exact h1.elim
   |nil=>
    cases r2 with
    |int j=>exact⟨j,rfl,h1.1.1,h1.1.2,hR _ _ S1 _ H1 e1 hS1 trivial zyu h1.2⟩
    |_=>exact h1.elim⟩
end
noncomputable def zfg:WT:=λ_ _ S Q=>Q true S
def JTs (X:Cx) (ifs:List Expr) (t:WT):Prop:=∀E,Hook X E→PTs X ifs (zwB X.K (t E))
theorem zaR{X:Cx}:JTs X [] zfg:=λE hE pins s σ H Q I ⟨σW,S,QW,hσ,hS,ht,hQ⟩=>zvK pins s σ H Q I (hQ true S H .refl hS ht)
theorem zvO{X:Cx}{c:Expr}{t:WT}(h:JT X c t):JTs X [c] t:=λE hE=>zvA (h E hE)
noncomputable def zfb (g:WG) (c:WT) (e:WE) (E:WX) (G:Sto→Prop) (Q:List W→Sto→Prop):List W→List W→WSt→Sto→Prop
 | [],acc,_,S=>Q acc S
 |w::ws,acc,σ,S=>g w σ S λσ1 S1=>c E σ1 S1 λb S2=>if b=true then e E σ1 S2 λy S3=>acc.length<sizeLine∧ ∃S4,Sub S4 S3∧G S4∧zfb g c e E G Q ws (acc++[y]) σ1 S4
   else ∃S4,Sub S4 S2∧G S4∧zfb g c e E G Q ws acc σ1 S4
noncomputable abbrev noE:WX:=λ_ _ _=>False
theorem zmi{X:Cx}(h:X.xe=λ_ _=>False):Hook X noE:=⟨by rw[h];exact jU,λ_ _ _ _ _ _ _ _ _ _ _ _ _ _ _ _ _ _ _ _ z=>z.elim,λ_ _ _ _ _ _ _ _ _ _ _ _ _ _ _ _ z=>z.elim⟩
theorem PS.nox{X:Cx}{st:Stmt}{t:TS}(h:PS X.nox st t):PS X st t:=λpins s σ H D I hw=>
 bX (h pins s σ H D (I.wish _) hw) (λ_ _ q=>q.unwish) λ_ _ z=>ck z
noncomputable def zck (k:Nat) (fr:List Nat) (q:WI) (g:WG) (c:WT) (e:WE):WL:=λ_ σ S Q=>q noE σ S λws G S1=>zfb g c e noE G Q ws [] (aN k none++fr.map λj=>(σ[j]?).join) S1
theorem zpA{K:ak}{H:Hp}{σW:WSt}{σ:St}{k:Nat}{fr:List Nat}(h:RpSt K H σW σ):RpSt K H (aN k none++fr.map λj=>(σW[j]?).join) (znx σ k fr):=by
 have one:∀j:Nat,RpO K H (σW[j]?).join (σ[j]?).join:=λj=>by
  cases e:σW[j]? with
  |none=>exact trivial
  |some w=>
   cases w with
   |none=>exact trivial
   |some w=>
    obtain⟨v,ev,r⟩:=h.get e;rw[ev];exact r
 have go:∀fr:List Nat,RpSt K H (fr.map λj=>(σW[j]?).join) (zhs σ fr):=by
  intro fr
  induction fr with
  |nil=>exact .nil
  |cons j fr ih=>exact .cons (one j) ih
 unfold znx
 induction k with
 |zero=>exact go fr
 |succ k ih=>exact .cons trivial ih
section
variable {X:Cx}{scope:Scope}{N:List Str}{k:Nat}{fr:List Nat}{tg iter elt:Expr}{ifs:List Expr}{pos:aB}{q:WI}{g:WG}{c:WT}{e:WE}
theorem Ext.loose{H H':Hp}(a:∀b xs,H b=ae (.tup xs)→H' b=ae (.tup xs)) (b:∀c o u,H c=ae (.frz o u)→H' c=ae (.frz o u)) (d:∀b o,H b=ae o→ ∃o',H' b=ae o'):Ext H (λ_=>ae (.lst [])) H' (λ_=>ae (.lst [])):=
 ⟨a,b,(λ_ _ _ g=>nomatch g),d⟩
theorem Ext.over{H H':Hp}{S S':Sto}{l:Addr}{o:HO}(e:Ext H S H' S') (h:H l=none):Ext H S (upd H' l o) S':=
 ⟨λb xs q=>by rw[zax (zat q h)];exact e.tup b xs q,λb ob u q=>by rw[zax (zat q h)];exact e.frz b ob u q,λb ob q z=>by rw[zax (zat q h)];exact e.fr b ob q z,λb ob q=>by rw[zax (zat q h)];exact e.all b ob q⟩
theorem zkH (hg:∀s₀ H₀ fp pn,JG (zbB X scope N s₀ H₀ fp pn) tg g) (hc:∀s₀ H₀ fp pn,JTs (zbB X scope N s₀ H₀ fp pn) ifs c) (he:∀s₀ H₀ fp pn,JE (zbB X scope N s₀ H₀ fp pn) elt e)
  {E:WX}(σ:St) (H:Hp) (Q:VK):zzN X.K (zck k fr q g c e E) σ H Q→zsU X scope N k fr tg ifs elt (zzf X.K (q noE)) σ H Q:=λ⟨σW,S0,QW,hσ,hS,ht,hQ⟩=>by
  refine⟨σW,S0,_,hσ,hS,ht,λws G S1 J H1 e1 hS1 hG1 hJ h1 l hl=>?_⟩;have upl:∀{H':Hp}{vs us:List V}{S':Sto},H' l=ae (.lst vs)→S' l=none→RepS X.K H' S'→Ext H' (λ_=>ae (.lst [])) (upd H' l (.lst us)) (λ_=>ae (.lst []))∧RepS X.K (upd H' l (.lst us)) S':=λ{H' vs us S'} f n hS'=>by
   have x:Ext H' (λ_=>ae (.lst [])) (upd H' l (.lst us)) (λ_=>ae (.lst [])):= .loose (λb xs q=>by rw[zax (ztz q f λz=>nomatch z)];exact q) (λb o u q=>by rw[zax (ztz q f λz=>nomatch z)];exact q) λb o q=>by
    by_cases hb:b=l
    ·subst hb;exact⟨_,zay⟩
    ·exact⟨o,by rw[zax hb];exact q⟩
   refine⟨x,λa o q=>(hS' a o q).keep x λu z=>?_⟩;have ha:a≠l:=by rintro rfl;rw[n]at q;cases q
   rw[zax ha];exact z
  refine⟨λi m σ' H'=>∃σW' S' acc vs,Ext H1 S1 H' S'∧H' l=ae (.lst vs)∧S' l=none∧Reps X.K H' acc vs∧RpSt X.K H' σW' σ'∧RepS X.K H' S'∧G S'∧m=ws.length - i∧i≤ws.length∧zfb g c e noE G QW (ws.drop i) acc σW' S',
   ⟨ws.length,_,S1,[],[], .new hl,zay,hS1.free hl, .nil,zpA (hσ.ext (e1.trans (.new (S:=S1) hl))),hS1.new hl,hG1,rfl,aZ _,h1⟩,?_⟩
  rintro i m σ' H' ⟨σW',S',acc,vs,e2,f2,n2,ra,hσ2,hS2,hG2,rfl,hi2,h2⟩;obtain⟨ji,js⟩:=hJ i S' H' e2 hS2 hG2;by_cases hlt:i<ws.length
  ·obtain⟨jgo,jy⟩:=ji ws[i] (aQ hlt);refine .inr ⟨jgo,λσ'' H''=>∃σW' S' acc vs,Ext H1 S1 H'' S'∧H'' l=ae (.lst vs)∧S' l=none∧Reps X.K H'' acc vs∧RpSt X.K H'' σW' σ''∧RepS X.K H'' S'∧G S'∧ws.length - (i+1)=ws.length - (i+1)∧i+1≤ws.length∧zfb g c e noE G QW (ws.drop (i+1)) acc σW' S',
    λσ'' H'' z=>⟨_,by omega,z⟩,λx H3 y3=>?_⟩
   obtain⟨e3,hS3,r3⟩:=jy x H3 y3;rw[fi hlt]at h2;intro s₀ H₀ fp pn;have hk:Hook (zbB X scope N s₀ H₀ fp pn) noE:=zmi rfl;refine⟨_,_,_,hg s₀ H₀ fp pn noE hk,hc s₀ H₀ fp pn noE hk,he s₀ H₀ fp pn noE hk,?_⟩;refine⟨_,σW',S',_,r3,hσ2.ext e3,hS3,h2,λσW4 S4 σ4 H4 e4 hσ4 hS4 h4=>?_⟩;refine⟨σW4,S4,_,hσ4,hS4,h4,λb S5 H5 e5 hS5 h5=>?_⟩;have e15:Ext H' S' H5 S5:=(e3.trans e4).trans e5;have hσ5:=hσ4.ext e5;obtain⟨f5,n5⟩:=e15.fr l _ f2 n2;cases b with
   |false=>
    have h5:∃S4,Sub S4 S5∧G S4∧zfb g c e noE G QW (ws.drop (i+1)) acc σW4 S4:=h5;refine zCm ?_;obtain⟨S6,sb,hG6,h6⟩:=h5;have e16:=e15.trans (.drop sb);exact⟨σW4,S6,acc,vs,e2.trans e16,f5,(e16.fr l _ f2 n2).2,ra.ext e15,hσ5,hS5.sub sb,hG6,rfl,hlt,h6⟩
   |true=>
    rw[if_pos rfl]at h5;refine zCk ?_;refine⟨σW4,S5,_,hσ5,hS5,h5,λy S6 v H6 e6 r6 hS6 h6=>?_⟩;have e17:=e15.trans e6;obtain⟨f6,n6⟩:=e17.fr l _ f2 n2;obtain⟨hz,S7,sb,hG7,h7⟩:=h6;obtain⟨x6,hS6'⟩:=upl (us:=vs++[v]) f6 n6 hS6;have ra6:Reps X.K H6 (acc++[y]) (vs++[v]):=(ra.ext e17).append (.one r6);refine⟨vs,f6,by rw[←ra.length];exact hz,σW4,S7,acc++[y],vs++[v],?_,zay,((e17.trans (.drop sb)).fr l _ f2 n2).2,ra6.ext x6,(hσ5.ext e6).ext x6,hS6'.sub sb,hG7,rfl,hlt,h7⟩
    exact(e2.trans (e17.trans (.drop sb))).over hl
  ·have hll:i=ws.length:=by omega
   rw[dB (fj hll.symm)]at h2;exact .inl ⟨js hll,hQ acc S' vs l H' (e1.trans e2) (e1.free hl) f2 n2 ra hS2 h2⟩
theorem zbK (S:CompSc X.nox scope N k fr) (hi:JI X.nox tg iter q) (hg:∀s₀ H₀ fp pn,JG (zbB X.nox scope N s₀ H₀ fp pn) tg g) (hc:∀s₀ H₀ fp pn,JTs (zbB X.nox scope N s₀ H₀ fp pn) ifs c) (he:∀s₀ H₀ fp pn,JE (zbB X.nox scope N s₀ H₀ fp pn) elt e)
  (hs:∀x,du iter X.env x=pure x:=by intro _;rfl) (hcl:X.calm=true:=by rfl):JL X (.ListComp elt [⟨tg,iter,ifs,0⟩] scope pos) (zck k fr q g c e):=λE hE=>
 (PE.nox (zwK rfl hcl S (hi noE (zmi rfl)) hs)).mono (zkH (X:=X.nox) hg hc he)
theorem zew{i:Nat}{x:Str}{pos' spos:aB}(hN:X.N.Nodup) (hxi:X.N[i]? =ae x) (hxl:Loc X.env.scope x) (S:CompSc X.nox scope N k fr) (hi:JI X.nox tg iter q) (hg:∀s₀ H₀ fp pn,JG (zbB X.nox scope N s₀ H₀ fp pn) tg g) (hc:∀s₀ H₀ fp pn,JTs (zbB X.nox scope N s₀ H₀ fp pn) ifs c) (he:∀s₀ H₀ fp pn,JE (zbB X.nox scope N s₀ H₀ fp pn) elt e)
  (hw:dE (.ListComp elt [⟨tg,iter,ifs,0⟩] scope pos) (ae (.Name x pos')) spos.line X.env=pure true:=by rfl) (hf:X.fn x=true∨X.env.scope.names.lookup x=ae .local:=by first |exact .inl rfl |exact .inr rfl |assumption)
  (hs:∀x,du iter X.env x=pure x:=by intro _;rfl) (hcl:X.calm=true:=by rfl):JS X (.Assign [.Name x pos'] (.ListComp elt [⟨tg,iter,ifs,0⟩] scope pos) spos) (wAsg (zcX (zck k fr q g c e)) (wGN i)):=λE hE=>
 (PS.nox (zvc (X:=X.nox) rfl hcl S (hi noE (zmi rfl)) hN hxi hxl hw hf hs)).mono λD σ H ⟨σW,S0,DW,hσ,hS,ht,hD⟩=>
  zkH (X:=X.nox) (E:=E) hg hc he σ H _ ⟨σW,S0,_,hσ,hS,ht,λws S1 vs a H1 e1 fa ea na r1 hS1 h1=>by
   have ex:Ext H S0 H1 (put S1 a (.lst ws)):=⟨e1.tup,e1.frz,λb o q g=>by
    have hb:b≠a:=by rintro rfl;rw[fa]at q;cases q
    rw[zaG hb];exact e1.fr b o q g,e1.all⟩
   refine hD.nx _ (put S1 a (.lst ws)) _ H1 ex ((hσ.ext ex).set (.ref a) i) (λb o q=>?_) (h1 a na);by_cases hb:b=a
   ·subst hb;rw[zah]at q;cases q;exact⟨vs,ea,r1⟩
   ·rw[zaG hb]at q;exact hS1 b o q⟩
end
def SeqIt (k:Bool) (h:Heap) (it a:Addr) (i:Nat):Prop:=if k=true then h.IsListIter it a i else h.IsTupleIter it a i
def SeqIs (k:Bool) (h:Heap) (a:Addr) (its:Array Value):Prop:=if k=true then h.IsList a its else h.IsTuple a its
section
variable {k:Bool}{h h':Heap}{it a:Addr}{i:Nat}{its:Array Value}
theorem SeqIt.at (x:SeqIt k h it a i) (e:∀o,h.get? it=ae o→h'.get? it=ae o):SeqIt k h' it a i:=by
 cases k with
 |true=>exact Heap.IsListIter.at (show h.IsListIter it a i from x) e
 |false=>exact Heap.IsTupleIter.at (show h.IsTupleIter it a i from x) e
theorem SeqIs.at (x:SeqIs k h a its) (e:∀o,h.get? a=ae o→h'.get? a=ae o):SeqIs k h' a its:=by
 cases k with
 |true=>exact Heap.IsList.at (show h.IsList a its from x) e
 |false=>obtain⟨o,ho,r⟩:=(show h.IsTuple a its from x);exact⟨o,e o ho,r⟩
theorem SeqIt.ob (x:SeqIt k h it a i):∃o vs,h.get? it=ae o∧o.data= .fields vs:=by
 cases k with
 |true=>obtain⟨o,ho,_,hd⟩:=(show h.IsListIter it a i from x);exact⟨o,_,ho,hd⟩
 |false=>obtain⟨o,ho,_,hd⟩:=(show h.IsTupleIter it a i from x);exact⟨o,_,ho,hd⟩
end
section
variable {prog:aF}{w:aC}{A:aM}{E:Value→ag→Prop}{s:ag}
theorem zii{it t:Addr}{i:Nat}{its:Array Value}{x:Value}{Q:Value→ag→Prop}(hit:s.heap.IsTupleIter it t i) (ht:s.heap.IsTuple t its) (hx:its[i]? =ae x)
  (hQ:∀g,g.IsTupleIter it t (i+1)→cf it s.heap g→Q x { s with heap:=g }):am (ap prog w) A (cA (.ref it)) Q E s:=by
 obtain⟨o,ho,hc,hd⟩:=id hit;obtain⟨ot,hot,_,nt,hdt⟩:=ht;unfold cA;refine ai (de (name:=bq "__next__") hit.typeIs fL (c7 fL hit.typeIs j5 ?_ (kg _)));show am _ _ (field (.ref it) 0 >>= _) _ _ s;refine ai (bC ho hd (x:= .ref t) rfl ?_);show am _ _ (if(bx t == cn)=true then _ else _) _ _ s;rw[if_neg (show ¬((bx t == cn)=true) from cS)];show am _ _ (field (.ref it) 1 >>= _) _ _ s;refine ai (bC ho hd (x:= .int i 0) rfl ?_);show am _ _ (eV (.ref t) >>= _) _ _ s;refine ai (b_ hot hdt ?_);simp only[cx,hx];refine ai (iZ ho hd (by simp) (aD ⟨x,rfl,aD (hQ _ ?_ (iW ..))⟩));exact⟨_,gG _ ho (Obj.isFreed_of_fields (j' hd _)),(Obj.cls_mapFields ..).trans hc,by rw[j' hd];simp [ce]⟩
theorem zis{it t:Addr}{i:Nat}{its:Array Value}{Q:Value→ag→Prop}(hh:A.handled=none) (hit:s.heap.IsTupleIter it t i) (ht:s.heap.IsTuple t its) (hx:its[i]? =none)
  (hE:∀g e,iJ it s.heap g→(∃o,g.get? e=ae o∧o.cls= .type "StopIteration")→E (.ref e) { s with heap:=g }):am (ap prog w) A (cA (.ref it)) Q E s:=by
 obtain⟨o,ho,hc,hd⟩:=id hit;obtain⟨ot,hot,_,nt,hdt⟩:=ht;unfold cA;refine ai (de (name:=bq "__next__") hit.typeIs fL (c7 fL hit.typeIs j5 ?_ (kg _)));show am _ _ (field (.ref it) 0 >>= _) _ _ s;refine ai (bC ho hd (x:= .ref t) rfl ?_);show am _ _ (if(bx t == cn)=true then _ else _) _ _ s;rw[if_neg (show ¬((bx t == cn)=true) from cS)];show am _ _ (field (.ref it) 1 >>= _) _ _ s;refine ai (bC ho hd (x:= .int i 0) rfl ?_);show am _ _ (eV (.ref t) >>= _) _ _ s;refine ai (b_ hot hdt ?_);simp only[cx,hx];refine ai (dg (ai (iZ ho hd (by simp) ?_)));show am _ _ (newExc (.type "StopIteration") [] >>= _) _ _ _;refine ai ?_;simp only[newExc,newTuple];refine ai (d8 ?_ (by size_fits));refine ai (m:=j_ _ _) (wpAny_of_eq (a:=cn) (by first |rfl | (simp only[j_];rfl)) ?_);refine d8 ?_ (by size_fits);simp only[raiseNew];refine ai (wpAny_handled ?_)
 first |rw[show A.in1.handled=none from hh] |rw[hh]
 refine ai (aD (wpAny_throw ?_));exact hE _ _ (((iW ..).extBut.push _).push _) ⟨_,bj _ rfl,rfl⟩
theorem zfW{k:Bool}{it t:Addr}{i:Nat}{its:Array Value}{x:Value}{Q:Value→ag→Prop}(hit:SeqIt k s.heap it t i) (ht:SeqIs k s.heap t its) (hx:its[i]? =ae x)
  (hQ:∀g,SeqIt k g it t (i+1)→cf it s.heap g→Q x { s with heap:=g }):am (ap prog w) A (cA (.ref it)) Q E s:=by
 cases k with
 |true=>exact wpAny_nextOf_list_item hit ht hx hQ
 |false=>exact zii hit ht hx hQ
theorem zjL{k:Bool}{it t:Addr}{i:Nat}{its:Array Value}{Q:Value→ag→Prop}(hh:A.handled=none) (hit:SeqIt k s.heap it t i) (ht:SeqIs k s.heap t its) (hx:its[i]? =none)
  (hE:∀g e,iJ it s.heap g→(∃o,g.get? e=ae o∧o.cls= .type "StopIteration")→E (.ref e) { s with heap:=g }):am (ap prog w) A (cA (.ref it)) Q E s:=by
 cases k with
 |true=>exact wpAny_nextOf_list_end hh hit ht hx hE
 |false=>exact zis hh hit ht hx hE
theorem zso{k:Bool}{e it l:Addr}{i:Nat}{its:Array Value}{x old:Value}{Q:Option Value→ag→Prop}
  (he:cC s.heap e it i old) (hit:SeqIt k s.heap it l i) (hl:SeqIs k s.heap l its) (hx:its[i]? =ae x) (hne:e≠it)
  (hQ:∀g,iH g e it ((i:Int)+1) x s.heap.objs.size→SeqIt k g it l (i+1)→g.get? s.heap.objs.size=ae { cls:= .type "tuple",data:= .seq #[.int i s.toks,x] }→g.objs.size=s.heap.objs.size+1→
   (∀b o,b≠e→b≠it→s.heap.get? b=ae o→g.get? b=ae o)→Q (ae (.ref s.heap.objs.size)) { s with heap:=g,toks:=s.toks+1 }):am (ap prog w) A (bM (.ref e)) Q E s:=by
 have hT:s.TypeIs (.ref e) "enumerate" :=⟨_,he,rfl⟩;unfold bM;refine ai (gz (de (name:=bq "__next__") hT gc (c7 gc hT je ?_ (jA _))));obtain⟨hp,g,d,tk,os⟩:=s;show am _ _ (field (.ref e) 2 >>= _) _ _ _;refine ai (bC he rfl (x:= .ref it) rfl ?_);refine ai (zfW hit hl hx λg1 hit1 hs1=>?_);replace hs1:cf it hp g1:=hs1;have he1:cC g1 e it i old:=(hs1.2 e hne).trans he;show am _ _ (field (.ref e) 3 >>= _) _ _ ⟨g1,g,d,tk,os⟩;refine ai (bC he1 rfl (x:=ce i) rfl ?_);show am _ _ (field (.ref e) 4 >>= _) _ _ ⟨g1,g,d,tk,os⟩;refine ai (bC he1 rfl (x:= .none) rfl ?_);show am _ _ (mkInt i >>= _) _ _ ⟨g1,g,d,tk,os⟩;refine ai (wpAny_mkInt ?_);show am _ _ (setField (.ref e) 3 (ce ((i:Int)+1)) >>= _) _ _ ⟨g1,g,d,tk+1,os⟩;refine ai (cr he1 (by simp) λg2 he2 hs2=>?_);replace hs2:cf e g1 g2:=hs2;replace he2:cC g2 e it ((i:Int)+1) old:=he2;show am _ _ (setField (.ref e) 4 .none >>= _) _ _ ⟨g2,g,d,tk+1,os⟩;refine ai (cr he2 (by simp) λg3 he3 hs3=>?_);replace hs3:cf e g2 g3:=hs3;replace he3:cC g3 e it ((i:Int)+1) old:=he3;show am _ _ (newTuple [.int i tk,x] >>= _) _ _ ⟨g3,g,d,tk+1,os⟩;refine ai (kI ?_);have he4:cC (g3.push { cls:= .type "tuple",data:= .seq #[.int i tk,x] }) e it ((i:Int)+1) old:=aH _ he3;generalize hg4:g3.push { cls:= .type "tuple",data:= .seq #[.int i tk,x] }=g4 at he4;have hsz:g3.objs.size=hp.objs.size:=by rw[hs3.1,hs2.1,hs1.1]
 have hel:e<hp.objs.size:=aI he;have ht4:g4.get? hp.objs.size=ae { cls:= .type "tuple",data:= .seq #[.int i tk,x] }:=by rw[←hg4,←hsz];exact bj _ rfl
 have hz4:g4.objs.size=hp.objs.size+1:=by rw[←hg4,cq,hsz]
 have hk4:∀b o,b≠e→b≠it→hp.get? b=ae o→g4.get? b=ae o:=λb o hbe hbi hb=>by rw[←hg4];exact aH _ (hs3.extBut b o hbe (hs2.extBut b o hbe (hs1.extBut b o hbi hb)))
 have hit4:SeqIt k g4 it l (i+1):=by rw[←hg4];exact hit1.at λo ho=>aH _ (hs3.extBut it o (br hne) (hs2.extBut it o (br hne) ho))
 show am _ _ (dM (.ref e) >>= _) _ _ ⟨g4,g,d,tk+1,os⟩;rw[hsz];clear hg4 he3 hs3 he2 hs2 he1 hs1 hit1 hsz g3 g2 g1;refine ai ?_;unfold dM;refine ai (bC he4 rfl (x:= .none) rfl (aD ?_));simp only[if_true];refine ai (dg ?_);refine ai (bC he4 rfl (x:=old) rfl ?_);refine ai (cr he4 (by simp) λg5 he5 hs5=>?_);replace hs5:cf e g4 g5:=hs5;replace he5:cC g5 e it ((i:Int)+1) x:=he5;show am _ _ (fU (.ref e) (.ref hp.objs.size) >>= _) _ _ ⟨g5,g,d,tk+1,os⟩;refine ai ?_;unfold fU;refine ai (cr he5 (by simp) λg6 he6 hs6=>?_);replace hs6:cf e g5 g6:=hs6;replace he6:iH g6 e it ((i:Int)+1) x hp.objs.size:=he6;refine cr he6 (by simp) λg7 he7 hs7=>?_;replace hs7:cf e g6 g7:=hs7;replace he7:iH g7 e it ((i:Int)+1) x hp.objs.size:=he7;refine ai (c8 (aD ⟨_,rfl,aD (hQ g7 he7 ?_ ?_ ?_ ?_)⟩))
 ·exact hit4.at λo ho=>hs7.extBut it o (br hne) (hs6.extBut it o (br hne) (hs5.extBut it o (br hne) ho))
 ·exact hs7.extBut _ _ (cF hel) (hs6.extBut _ _ (cF hel) (hs5.extBut _ _ (cF hel) ht4))
 ·rw[hs7.1,hs6.1,hs5.1,hz4]
 ·exact λb o hbe hbi hb=>hs7.extBut b o hbe (hs6.extBut b o hbe (hs5.extBut b o hbe (hk4 b o hbe hbi hb)))
theorem zsz{k:Bool}{e it l:Addr}{i:Nat}{its:Array Value}{old:Value}{Q:Option Value→ag→Prop}(hh:A.handled=none)
  (he:cC s.heap e it i old) (hit:SeqIt k s.heap it l i) (hl:SeqIs k s.heap l its) (hx:its[i]? =none) (hQ:∀g,iJ it s.heap g→Q none { s with heap:=g }):am (ap prog w) A (bM (.ref e)) Q E s:=by
 have hT:s.TypeIs (.ref e) "enumerate" :=⟨_,he,rfl⟩;unfold bM;refine ai (gz (de (name:=bq "__next__") hT gc (c7 gc hT je ?_ (jA _))));show am _ _ (field (.ref e) 2 >>= _) _ _ _;refine ai (bC he rfl (x:= .ref it) rfl ?_);refine ai (zjL hh hit hl hx λg x he' hx'=>?_);obtain⟨o,ho,hc⟩:=hx';refine ai (kx (T:= "StopIteration") (b:=true) ⟨o,ho,hc⟩ jc ?_);exact aD (hQ _ he')
end
noncomputable def zeJ (k:Bool) (a:Addr):Obj:={ cls:= .type (if k=true then "list_iterator" else "tuple_iterator"),data:= .fields #[.ref a, .int 0 0] }
theorem zjw{k:Bool}{h:Heap}{it a:Addr}(e:h.get? it=ae (zeJ k a)):SeqIt k h it a 0:=by
 cases k with
 |true=>exact⟨_,e,rfl,rfl⟩
 |false=>exact⟨_,e,rfl,rfl⟩
theorem zgx{k:Bool}{a:Addr}:(zeJ k a).isFreed=false:=by cases k<;>rfl
section
variable {prog:aF}{w:aC}{A:aM}{E:Value→ag→Prop}{s:ag}
theorem zjz{k:Bool}{a:Addr}{its:Array Value}{Q:Value→ag→Prop}(ha:SeqIs k s.heap a its) (hQ:Q (.ref s.heap.objs.size) { s with heap:=s.heap.push (zeJ k a) }):am (ap prog w) A (da (.ref a)) Q E s:=by
 cases k with
 |true=>exact dn ha hQ
 |false=>exact jx ha hQ
end
theorem SeqIs.push{k:Bool}{h:Heap}{a:Addr}{its:Array Value}(x:SeqIs k h a its) (o:Obj):SeqIs k (h.push o) a its:=x.at λ_ e=>aH _ e
theorem zpg{k:Bool}(l:Addr) (its:Array Value) :
  PySem.Meets (bZ.«enumerate.__new__» ⟨[.type "enumerate", .ref l],[]⟩) (λ_ R s=>SeqIs k s.heap l its∧
   R (.ok (.ret (.ref (s.heap.push (zeJ k l)).objs.size))) { s with heap:=(s.heap.push (zeJ k l)).push { cls:= .type "enumerate",data:= .fields #[.none, .bool false, .ref s.heap.objs.size,ce 0, .none, .none] } }):=
 .of_wp λprog w A R s h=>by
  obtain⟨hp,g,d,tk,os⟩:=s;obtain⟨hl,h⟩:=h;have hsub:=sub_enumerate;have hL:SeqIs k (ag.heap ⟨hp,g,d,tk,os⟩) l its:=hl;have fin:∀{A:aM}{E:Value→ag→Prop}{Q:Value→ag→Prop},Q (.ref hp.objs.size) ⟨hp.push (zeJ k l),g,d,tk,os⟩→am (ap prog w) A (da (.ref l)) Q E ⟨hp,g,d,tk,os⟩:=λq=>zjz hL q
  wp_walk
  refine wpAny_stack_any λst=>aD ?_;split
  ·rename_i c _ _ _ _ _;cases(c == iu "enumerate")
   ·wp_walk using fin
    exact⟨_,rfl,h⟩
   ·wp_walk using fin
    exact⟨_,rfl,h⟩
  ·wp_walk using fin
   exact⟨_,rfl,h⟩
section
variable {prog:aF}{w:aC}{A:aM}{E:Value→ag→Prop}{s:ag}
theorem zrS{k:Bool}{l:Addr}{its:Array Value}{Q:Value→ag→Prop}(hL:SeqIs k s.heap l its)
  (h:∀g,cC g (s.heap.objs.size+1) s.heap.objs.size 0 .none→SeqIt k g s.heap.objs.size l 0→g.objs.size=s.heap.objs.size+2→(∀b o,s.heap.get? b=ae o→g.get? b=ae o)→Q (.ref (s.heap.objs.size+1)) { s with heap:=g }) :
  am (ap prog w) A (call (.type "enumerate") [.ref l]) Q E s:=by
 refine callType_new PySem.F.called_enumerate (by decide) (PySem.F.typeCall_enumerate_1 _) (PySem.F.newCall_enumerate_1 _) (λobj=>PySem.F.args_object_init_2 obj _) PySem.F.entry_enumerate_new (zpg (k:=k) l its) ⟨hL,?_⟩;have hz:(s.heap.push (zeJ k l)).objs.size=s.heap.objs.size+1:=cq ..;show _∧_;rw[hz];have he:cC ((s.heap.push (zeJ k l)).push { cls:= .type "enumerate",data:= .fields #[.none, .bool false, .ref s.heap.objs.size,ce 0, .none, .none] }) (s.heap.objs.size+1) s.heap.objs.size 0 .none:=by
  have:=bj (s.heap.push (zeJ k l)) (o:={ cls:= .type "enumerate",data:= .fields #[.none, .bool false, .ref s.heap.objs.size,ce 0, .none, .none] }) rfl;rw[hz]at this;exact this
 exact⟨⟨_,he,rfl⟩,h _ he (zjw (aH _ (bj _ zgx))) (by rw[cq,hz]) λb o x=>aH _ (aH _ x)⟩
end
section
variable {X:Cx}{pins:List (Addr×Obj)}{σ:St}{H:Hp}{s:ag}{g:Heap}{fp:List Addr}
theorem Inv.turnNew{p:Addr}{o:HO}{t':Nat}(I:Inv X pins σ H s) (hp:s.heap.objs.size≤p) (k:∀b u,b∉fp→s.heap.get? b=ae u→g.get? b=ae u) (hf:∀b∈fp,zjR X pins H b) (new:ObjOk X.prog X.w (upd H p o) g p o) :
  Inv X pins σ (upd H p o) { s with heap:=g,toks:=t' }:=by
 have hn:=I.hok.fresh hp;have lt:∀{b u},s.heap.get? b=ae u→b≠p:=λe=>bu (bK (aI e) hp);have nfp:∀{b u},H b=ae u→b∉fp:=λe z=>by rw[(hf _ z).1]at e;cases e
 refine I.call (g':=s.gens) (d':=s.drawn) (ch:=fp) ⟨λb u e _ _ hx=>k b u hx e,λb u e _ _ hx=>⟨u.slots,k b u hx e⟩,λb u e n _=>by rw[zax (lt e)];exact n,λb u e hx=>⟨u,k b u hx e⟩,
  λb xs e=>by rw[zax (zat e hn)];exact e,λb u xs e=>by rw[zax (zat e hn)];exact e,λb ps e=>⟨#[],by rw[zax (zat e hn),e];simp⟩⟩ (λb u e=>?_) I.bare λb hb=>⟨(hf b hb).2.2.2.1,(hf b hb).2.1,(hf b hb).2.2.2.2.1,(hf b hb).2.2.2.2.2⟩
 by_cases hb:b=p
 ·subst hb;rw[zay]at e;cases e;exact new
 ·rw[zax hb]at e;refine(I.hok b u e).stay (λc v hc q=>k c v ?_ q) (λc q=>by rw[zax (zat q hn)];exact q) λc xs q=>by rw[zax (zat q hn)];exact q
  rcases hc with rfl |hc
  ·exact nfp e
  ·exact nfp hc
theorem Inv.turnedL{t':Nat}(I:Inv X pins σ H s) (k:∀b u,b∉fp→s.heap.get? b=ae u→g.get? b=ae u) (hf:∀b∈fp,zjR X pins H b):Inv X pins σ H { s with heap:=g,toks:=t' }:=by
 have nfp:∀{b u},H b=ae u→b∉fp:=λe z=>by rw[(hf _ z).1]at e;cases e
 refine I.call (g':=s.gens) (d':=s.drawn) (ch:=fp) ⟨λb u e _ _ hx=>k b u hx e,λb u e _ _ hx=>⟨u.slots,k b u hx e⟩,λb u e n _=>n,λb u e hx=>⟨u,k b u hx e⟩,
  λb xs e=>e,λb u xs e=>e,λb ps e=>⟨#[],by rw[e];simp⟩⟩ (λb u e=>?_) I.bare λb hb=>⟨(hf b hb).2.2.2.1,(hf b hb).2.1,(hf b hb).2.2.2.2.1,(hf b hb).2.2.2.2.2⟩
 refine(I.hok b u e).stay (λc v hc q=>k c v ?_ q) (λc q=>q) λc xs q=>q;rcases hc with rfl |hc
 ·exact nfp e
 ·exact nfp hc
def SqK (k:Bool) (K:ak) (H:Hp) (a:Addr) (xs:List V):Prop:=if k=true then SqL K H a xs else SqT K H a xs
theorem Inv.seq{k:Bool}{a:Addr}{xs:List V}(I:Inv X pins σ H s) (h:SqK k X.K H a xs):∃its:List Value,Vals xs its∧SeqIs k s.heap a its.toArray∧xs.length≤sizeLine:=by
 cases k with
 |true=>obtain⟨its,r,p,z⟩:=I.list h;exact⟨its,r,p.isList,z⟩
 |false=>obtain⟨its,r,p,z⟩:=I.tuple h;exact⟨its,r,p,z⟩
theorem Inv.seq_inj{k:Bool}{a:Addr}{xs ys:List V}(I:Inv X pins σ H s) (h:SqK k X.K H a xs) (h':SqK k X.K H a ys):xs=ys:=by
 cases k with
 |true=>exact I.list_inj h h'
 |false=>exact I.tuple_inj h h'
end
noncomputable def Ite (k:Bool) (K:ak) (a:Addr):It:=
 ⟨λi H=>∃xs x,SqK k K H a xs∧xs[i]? =ae x,λi H v H'=>∃p x,H p=none∧v= .ref p∧H'=upd H p (.tup [.int i,x])∧ ∀xs,SqK k K H a xs→xs[i]? =ae x,λi H=>∃xs,SqK k K H a xs∧xs.length≤i⟩
theorem zqk{P:aF}{w:aC}{K:ak}{es:List Expr}{x1:Nat}{pos:aB}(k:Bool) (a e it:Addr) (hne:e≠it):Turn P w K (.Tuple es x1 pos) (Ite k K a) [e,it] e (λi h=>(∃old,cC h e it (i:Nat) old)∧SeqIt k h it a i) where
  mem:=by simp
  obj:=λi h ⟨⟨old,he⟩,hit⟩ b hb=>by
    rcases av.mp hb with rfl |hb
    · exact⟨_,he,λv z=>by cases z⟩
    · have q:b=it:=by simpa using hb
      subst q;obtain⟨o,vs,e,d⟩:=hit.ob;exact⟨o,e,λv z=>by rw[d]at z;cases z⟩
  keep:=λi h h' ⟨⟨old,he⟩,hit⟩ kk=>⟨⟨old,kk e (by simp) _ he⟩,hit.at λo q=>kk it (by simp) o q⟩
  item:=by
    intro X hP hw hK hc i pins s σ H E I hf st hg;subst hP hw hK;obtain⟨xs,x,hq,hx⟩:=hg;obtain⟨⟨old,he⟩,hit⟩:=st;obtain⟨its,rv,p,hz⟩:=I.seq hq;obtain⟨u,hu,ru⟩:=rv.get hx;refine zso he hit p (x:=u) (by simpa using hu) hne λg ho hit' ht hz' kk=>⟨_,rfl,?_⟩;refine wpAny_letOwnedTupleGo_enum ho λg2 he2 hs2=>?_;have hlt:s.heap.objs.size≠e:=cF (aI he);have kk2:∀b o,b∉ [e,it]→s.heap.get? b=ae o→g2.get? b=ae o:=λb o hb q=>by
      have h1:b≠e:=λz=>hb (by simp [z]);have h2:b≠it:=λz=>hb (by simp [z]);exact(hs2.2 b h1).trans (kk b o h1 h2 q)
    have hn:=I.hok.fresh (au s.heap.objs.size);have ht2:g2.get? s.heap.objs.size=ae { cls:= .type "tuple",data:= .seq #[.int i s.toks,u] }:=(hs2.2 _ hlt).trans ht;refine⟨.ref s.heap.objs.size,upd H s.heap.objs.size (.tup [.int i,x]),I.turnNew (fp:=[e,it]) (t':=s.toks+1) (au _) kk2 hf ⟨by show 2≤sizeLine;rw[dv];decide,[.int i s.toks,u], .cons ⟨_,rfl⟩ (.cons ru .nil),⟨_,ht2,rfl,_,rfl⟩⟩,rfl,
      ⟨_,x,hn,rfl,rfl,λys hy=>by rw[I.seq_inj hy hq];exact hx⟩,⟨⟨u,by simpa using he2⟩,hit'.at λo q=>(hs2.2 it (br hne)).trans q⟩,λb hb=>?_⟩
    have hb':=(hf b hb).1;have:b≠s.heap.objs.size:=by
      rcases av.mp hb with rfl |hb
      · exact br hlt
      · have q:b=it:=by simpa using hb
        subst q;obtain⟨o,vs,e,d⟩:=hit.ob;exact bu (aI e)
    rw[zax this];exact hb'
  done:=by
    intro X hP hw hK hc i pins s σ H E I hf st hg;subst hP hw hK;obtain⟨xs,hq,hx⟩:=hg;obtain⟨⟨old,he⟩,hit⟩:=st;obtain⟨its,rv,p,hz⟩:=I.seq hq;have hl:=rv.length;exact zsz (I.ok.hd hc) he hit p (by simp;omega) λg eb=>⟨rfl,I.turnedL (fp:=[e,it]) (t':=s.toks) (λb o hb q=>eb b o (λz=>hb (by simp [z])) q) hf⟩
  self:=λA i s Q E ⟨⟨old,he⟩,hit⟩ h=>j9 he h
section
variable {X:Cx}{es:List Expr}{x1:Nat}{tpos:aB}
noncomputable def zBl (K:ak) (ta:TA):TI:=λσ H R=>ta σ H λvs H1=>∃k a xs,vs=[.ref a]∧SqK k K H1 a xs∧R (Ite k K a) H1
theorem zwu{a:Expr}{ta:TA}{p pos:aB}(hg:Gl X "enumerate") (hm:X.mg "enumerate" =none) (ha:PA X [a] ta) (hs:ao [a] X.env=[(false,ax a X.env)]:=by rfl):PI X (.Tuple es x1 tpos) (.Call (.Name "enumerate" p) [a] [] pos) (zBl X.K ta):=by
 intro pins s σ H R I h;refine Call_ (zhX I hg hm boot_enumerate (gd (thn (ha pos pins s σ H _ I h) λus s1 ⟨vs,H1,I1,r1,q1⟩=>?_) hs rfl));obtain⟨k,a,xs,e,hq,q⟩:=q1;subst e;cases r1 with
 |cons r rr=>
  cases rr;cases(show _=bx a from r);obtain⟨its,rv,pl,hz⟩:=I1.seq hq;refine zrS pl λg he hit hz' kk=>j9 he ?_;have I2:Inv X pins σ H1 { s1 with heap:=g }:=I1.kept (t':=s1.toks) kk;refine⟨s1.heap.objs.size+1,[s1.heap.objs.size+1,s1.heap.objs.size],_,_,H1,rfl,I2,zqk k a _ _ (ke _),⟨⟨.none,he⟩,hit⟩,λb hb=>?_,q⟩;have hb':s1.heap.objs.size≤b:=by
   rcases av.mp hb with rfl |hb
   ·exact iI _
   ·have q:b=s1.heap.objs.size:=by simpa using hb
    exact fj q.symm
  exact I1.fpOk hb' (I1.hok.fresh hb')
noncomputable def ziN:Nat→List W→List W
 |_,[]=>[]
 |n,w::ws=> .tup [.int n,w]::ziN (n+1) ws
theorem zmU:∀{ws:List W}{n i:Nat}{u:W},(ziN n ws)[i]? =ae u→ ∃w,ws[i]? =ae w∧u= .tup [.int ((n+i:Nat):Int),w]
 | [],_,_,_,h=>by simp [ziN]at h
 |w::ws,n,0,u,h=>by
  simp [ziN]at h;exact⟨w,rfl,by rw[←h];rfl⟩
 |w::ws,n,i+1,u,h=>by
  obtain⟨w',e,q⟩:=zmU (ws:=ws) (n:=n+1) (i:=i) (u:=u) (by simpa [ziN]using h);refine⟨w',by simpa using e,?_⟩
  rw[q,show n+1+i=n+(i+1) by omega]
theorem zmT:∀{ws:List W}{n:Nat},(ziN n ws).length=ws.length
 | [],_=>rfl
 |w::ws,n=>by simp [ziN,zmT (ws:=ws)]
theorem zvi{K:ak}{k:Bool}{a:Addr}{ws:List W}{G:Sto→Prop}{H0:Hp}{S0:Sto}(h:∀S H,Ext H0 S0 H S→RepS K H S→G S→ ∃vs,SqK k K H a vs∧Reps K H ws vs):ItW K (Ite k K a) (ziN 0 ws) G H0 S0:=λi S H e hS hG=>by
 obtain⟨vs,hq,r⟩:=h S H e hS hG;refine⟨λu eu=>?_,λhl=>⟨vs,hq,by rw[←r.length,hl,zmT];exact au _⟩⟩
 obtain⟨w,ew,rfl⟩:=zmU eu;obtain⟨v,ev,rv⟩:=r.get ew;refine⟨⟨vs,v,hq,ev⟩,λx H' ⟨p,y,hp,e1,e2,e3⟩=>?_⟩;subst e1 e2;have e4:=e3 vs hq;rw[ev]at e4;cases e4;rw[cL];exact⟨.new hp,hS.new hp, .tup zay (.cons (.int _) (.cons (rv.ext (.new (S:=S) hp)) .nil))⟩
noncomputable def zpD:W→Sto→(List W→(Sto→Prop)→Prop)→Prop
 | .tup ws,_,Q=>Q ws λ_=>True
 | .ref a,S,Q=>zcU S a λws=>Q ws λS'=>S' a=ae (.lst ws)
 | .scr ns,_,Q=>Q (ns.map W.int) λ_=>True
 |_,_,_=>False
theorem zwh{K:ak}{H:Hp}{S:Sto}{w:W}{v:V}{Q:List W→(Sto→Prop)→Prop}(r:Rep K H w v) (hS:RepS K H S) (h:zpD w S Q) :
  ∃k a ws G,v= .ref a∧G S∧(∀S' H',Ext H S H' S'→RepS K H' S'→G S'→ ∃vs,SqK k K H' a vs∧Reps K H' ws vs)∧Q ws G:=by
 cases r with
 |tup f hs=>exact⟨false,_,_,_,rfl,trivial,λS' H' e hS' _=>⟨_, .of (e.tup _ _ f),hs.ext e⟩,h⟩
 |ref a=>
  obtain⟨ws,ea,h⟩:=zbm h;exact⟨true,_,ws,_,rfl,ea,λS' H' e hS' g=>by
   obtain⟨vs,f,hs⟩:=hS' a _ g;exact⟨vs, .of f,hs⟩,h⟩
 |scr f=>exact⟨true,_,_,_,rfl,trivial,λS' H' e hS' _=>⟨_,(e.fz f).sq,Reps.ofInts _⟩,h⟩
 |_=>exact h.elim
noncomputable def zqo (t:WE):WI:=λE σ S Q=>t E σ S λw S1=>zpD w S1 λws G=>Q (ziN 0 ws) G S1
theorem zmj{a:Expr}{ta:WE}{p pos:aB}(hg:Gl X "enumerate") (hm:X.mg "enumerate" =none) (ha:JE X a ta) (hs:ao [a] X.env=[(false,ax a X.env)]:=by rfl) (hs2:ao [a] X.env=(false,ax a X.env)::ao [] X.env:=by rfl):JI X (.Tuple es x1 tpos) (.Call (.Name "enumerate" p) [a] [] pos) (zqo ta):=λE hE=>
 (zwu hg hm (zdy (ha E hE) pa_nil hs2) hs).mono λσ H R ⟨σW,S,QW,hσ,hS,ht,hR⟩=>⟨σW,S,_,hσ,hS,ht,λw S1 v H1 e1 r1 hS1 h1=>by
  obtain⟨k,a,ws,G,rfl,hG,hq,h⟩:=zwh r1 hS1 h1;obtain⟨vs,hv,_⟩:=hq S1 H1 .refl hS1 hG;exact⟨k,a,vs,rfl,hv,hR _ _ S1 _ H1 e1 hS1 hG (zvi hq) h⟩⟩
end
section
variable {prog:aF}{w:aC}{A:aM}{E:Value→ag→Prop}{s:ag}
theorem ztl{k1 k2:Bool}{z TI TO i1 i2 l1 l2:Addr}{n1 n2:Nat}{xs ys:Array Value}{x y a b:Value}{Q:Option Value→ag→Prop}(D:il z TI TO i1 i2 l1 l2)
  (hz:bY s.heap z TI TO .none) (hTI:bL s.heap TI (.ref i1) (.ref i2)) (hTO:bL s.heap TO a b) (h1:SeqIt k1 s.heap i1 l1 n1) (h2:SeqIt k2 s.heap i2 l2 n2) (hl1:SeqIs k1 s.heap l1 xs) (hl2:SeqIs k2 s.heap l2 ys) (hx:xs[n1]? =ae x) (hy:ys[n2]? =ae y)
  (hQ:∀g,bY g z TI TO (ce s.heap.objs.size)→bL g TO x y→SeqIt k1 g i1 l1 (n1+1)→SeqIt k2 g i2 l2 (n2+1)→bL g s.heap.objs.size x y→g.objs.size=s.heap.objs.size+1→
   (∀c o,c≠z→c≠TO→c≠i1→c≠i2→s.heap.get? c=ae o→g.get? c=ae o)→Q (ae (.ref s.heap.objs.size)) { s with heap:=g }):am (ap prog w) A (bM (.ref z)) Q E s:=by
 have hT:s.TypeIs (.ref z) "zip" :=⟨_,hz,rfl⟩;unfold bM;refine ai (gz (de (name:=bq "__next__") hT ge (c7 ge hT kL ?_ (ko _))));show am _ _ (field (.ref z) 2 >>= _) _ _ _;refine ai (bC hz rfl (x:= .bool false) rfl ?_);show am _ _ (field (.ref z) 3 >>= _) _ _ _;refine ai (bC hz rfl (x:= .ref TI) rfl ?_);refine ai (b_ hTI rfl ?_);show am _ _ (dM (.ref z) >>= _) _ _ _;refine ai ?_;unfold dM;refine ai (bC hz rfl (x:= .none) rfl (aD ?_));simp only[if_true];refine ai (dg ?_);refine ai (bC hz rfl (x:= .ref TO) rfl ?_);refine ai (cr hz (by simp) λg1 hz1 hs1=>?_);replace hz1:bY g1 z TI TO .ellipsis:=hz1;refine ai ?_;simp only[jT,jK,gP,kj];refine ai (ai (fV ?_));show am _ _ (cA (.ref i1) >>= _) _ _ _;refine ai (zfW (h1.at λo e=>hs1.extBut _ o D.i1z e) (hl1.at λo e=>hs1.extBut _ o D.l1z e) hx λg2 h12 hs2=>aD ?_);have hTO2:bL g2 TO a b:=hs2.extBut _ _ D.TOi1 (hs1.extBut _ _ D.TOz hTO);refine ai (b_ hTO2 rfl ?_);refine ai (iB hTO2 λg3 hTO3 hs3=>?_);replace hTO3:bL g3 TO x b:=hTO3;refine ai (c8 (aD ?_));refine ai (ai (fV ?_));show am _ _ (cA (.ref i2) >>= _) _ _ _;refine ai (zfW (h2.at λo e=>hs3.extBut _ o D.TOi2.symm (hs2.extBut _ o D.i12.symm (hs1.extBut _ o D.i2z e))) (hl2.at λo e=>hs3.extBut _ o D.l2TO (hs2.extBut _ o D.l2i1 (hs1.extBut _ o D.l2z e))) hy λg4 h24 hs4=>aD ?_);have hTO4:bL g4 TO x b:=hs4.extBut _ _ D.TOi2 hTO3;refine ai (b_ hTO4 rfl ?_);refine ai (iB hTO4 λg5 hTO5 hs5=>?_);replace hTO5:bL g5 TO x y:=hTO5;refine ai (c8 (aD (aD ?_)));refine ai (b_ hTO5 rfl ?_);refine ai (kI ?_);have hsz:g5.objs.size=s.heap.objs.size:=by rw[hs5.1,hs4.1,hs3.1,hs2.1,hs1.1]
 have hz5:bY g5 z TI TO .ellipsis:=hs5.extBut _ _ D.TOz.symm (hs4.extBut _ _ D.i2z.symm (hs3.extBut _ _ D.TOz.symm (hs2.extBut _ _ D.i1z.symm hz1)));have hk5:∀c o,c≠z→c≠TO→c≠i1→c≠i2→s.heap.get? c=ae o→g5.get? c=ae o:=λc o c1 c2 c3 c4 e=>hs5.extBut _ _ c2 (hs4.extBut _ _ c4 (hs3.extBut _ _ c2 (hs2.extBut _ _ c3 (hs1.extBut _ _ c1 e))));have h15:SeqIt k1 g5 i1 l1 (n1+1):=h12.at λo e=>hs5.extBut _ o D.TOi1.symm (hs4.extBut _ o D.i12 (hs3.extBut _ o D.TOi1.symm e));have h25:SeqIt k2 g5 i2 l2 (n2+1):=h24.at λo e=>hs5.extBut _ o D.TOi2.symm e;have hzlt:z<g5.objs.size:=aI hz5;show am _ _ (fU (.ref z) (.ref g5.objs.size) >>= _) _ _ _;refine ai ?_;unfold fU;have hz6:bY (g5.push { cls:= .type "tuple",data:= .seq #[x,y] }) z TI TO .ellipsis:=aH _ hz5;refine ai (cr hz6 (by simp) λg7 hz7 hs7=>?_);replace hz7:bY g7 z TI TO (ce g5.objs.size):=hz7;refine cr hz7 (by simp) λg8 hz8 hs8=>?_;replace hz8:bY g8 z TI TO (ce g5.objs.size):=hz8;have up:∀c o,c≠z→g5.get? c=ae o→g8.get? c=ae o:=λc o c1 e=>hs8.extBut _ _ c1 (hs7.extBut _ _ c1 (aH _ e));have hT8:bL g8 g5.objs.size x y:=hs8.extBut _ _ (cF hzlt) (hs7.extBut _ _ (cF hzlt) (bj _ rfl));have hzz:g8.objs.size=g5.objs.size+1:=by rw[hs8.1,hs7.1,cq]
 rw[hsz]at hz8 hT8 hzz;refine aD ⟨_,rfl,aD ?_⟩;show Q (ae (.ref g5.objs.size)) _;rw[hsz];exact hQ g8 hz8 (up _ _ D.TOz hTO5) (h15.at λo e=>up _ o D.i1z e) (h25.at λo e=>up _ o D.i2z e) hT8 hzz λc o c1 c2 c3 c4 e=>up c o c1 (hk5 c o c1 c2 c3 c4 e)
theorem zwl{k1 k2:Bool}{z TI TO i1 i2 l1 l2:Addr}{n1 n2:Nat}{xs ys:Array Value}{a b:Value}{Q:Option Value→ag→Prop}(hh:A.handled=none) (D:il z TI TO i1 i2 l1 l2)
  (hz:bY s.heap z TI TO .none) (hTI:bL s.heap TI (.ref i1) (.ref i2)) (hTO:bL s.heap TO a b) (h1:SeqIt k1 s.heap i1 l1 n1) (h2:SeqIt k2 s.heap i2 l2 n2) (hl1:SeqIs k1 s.heap l1 xs) (hl2:SeqIs k2 s.heap l2 ys) (hend:xs[n1]? =none∨ys[n2]? =none)
  (hQ:∀g,(∀c o,c≠z→c≠TO→c≠i1→c≠i2→s.heap.get? c=ae o→g.get? c=ae o)→Q none { s with heap:=g }):am (ap prog w) A (bM (.ref z)) Q E s:=by
 have hT:s.TypeIs (.ref z) "zip" :=⟨_,hz,rfl⟩;have fin:∀(g:Heap) (e:Addr),(∀c o,c≠z→c≠TO→c≠i1→c≠i2→s.heap.get? c=ae o→g.get? c=ae o)→(∃o,g.get? e=ae o∧o.cls= .type "StopIteration")→
   am (ap prog w) A (do if(←isInstance (.ref e) (.type "StopIteration")) then pure none else throw (.ref e)) Q E { s with heap:=g }:=λg e hk ⟨o,ho,hc⟩=>
  ai (kx (T:= "StopIteration") (b:=true) ⟨o,ho,hc⟩ jc (aD (hQ _ hk)))
 unfold bM;refine ai (gz (de (name:=bq "__next__") hT ge (c7 ge hT kL ?_ (ko _))));show am _ _ (field (.ref z) 2 >>= _) _ _ _;refine ai (bC hz rfl (x:= .bool false) rfl ?_);show am _ _ (field (.ref z) 3 >>= _) _ _ _;refine ai (bC hz rfl (x:= .ref TI) rfl ?_);refine ai (b_ hTI rfl ?_);show am _ _ (dM (.ref z) >>= _) _ _ _;refine ai ?_;unfold dM;refine ai (bC hz rfl (x:= .none) rfl (aD ?_));simp only[if_true];refine ai (dg ?_);refine ai (bC hz rfl (x:= .ref TO) rfl ?_);refine ai (cr hz (by simp) λg1 hz1 hs1=>?_);replace hz1:bY g1 z TI TO .ellipsis:=hz1;refine ai ?_;simp only[jT,jK,gP,kj];refine ai (ai (fV ?_));show am _ _ (cA (.ref i1) >>= _) _ _ _;cases hx:xs[n1]? with
 |none=>
  refine ai (zjL hh (h1.at λo e=>hs1.extBut _ o D.i1z e) (hl1.at λo e=>hs1.extBut _ o D.l1z e) hx λg2 e hs2 he=>?_);obtain⟨oe,hoe,hce⟩:=he;have hz2:bY g2 z TI TO .ellipsis:=hs2 _ _ D.i1z.symm hz1;have hez:e≠z:=λx=>by subst x;rw[hz2]at hoe;cases hoe;simp at hce
  refine cr hz2 (by simp) λg3 _ hs3=>fin g3 e (λc o c1 _ c3 _ x=>hs3.extBut _ _ c1 (hs2 _ _ c3 (hs1.extBut _ _ c1 x))) ⟨oe,hs3.extBut _ _ hez hoe,hce⟩
 |some x=>
  have hy:ys[n2]? =none:=by rcases hend with h |h;rw[hx]at h;cases h;exact h
  refine ai (zfW (h1.at λo e=>hs1.extBut _ o D.i1z e) (hl1.at λo e=>hs1.extBut _ o D.l1z e) hx λg2 h12 hs2=>aD ?_);have hTO2:bL g2 TO a b:=hs2.extBut _ _ D.TOi1 (hs1.extBut _ _ D.TOz hTO);refine ai (b_ hTO2 rfl ?_);refine ai (iB hTO2 λg3 hTO3 hs3=>?_);refine ai (c8 (aD ?_));refine ai (ai (fV ?_));show am _ _ (cA (.ref i2) >>= _) _ _ _;refine ai (zjL hh (h2.at λo e=>hs3.extBut _ o D.TOi2.symm (hs2.extBut _ o D.i12.symm (hs1.extBut _ o D.i2z e))) (hl2.at λo e=>hs3.extBut _ o D.l2TO (hs2.extBut _ o D.l2i1 (hs1.extBut _ o D.l2z e))) hy λg4 e hs4 he=>?_);obtain⟨oe,hoe,hce⟩:=he;have hz4:bY g4 z TI TO .ellipsis:=hs4 _ _ D.i2z.symm (hs3.extBut _ _ D.TOz.symm (hs2.extBut _ _ D.i1z.symm hz1));have hez:e≠z:=λx=>by subst x;rw[hz4]at hoe;cases hoe;simp at hce
  refine cr hz4 (by simp) λg5 _ hs5=>fin g5 e (λc o c1 c2 c3 c4 x=>hs5.extBut _ _ c1 (hs4 _ _ c4 (hs3.extBut _ _ c2 (hs2.extBut _ _ c3 (hs1.extBut _ _ c1 x))))) ⟨oe,hs5.extBut _ _ hez hoe,hce⟩
end
noncomputable abbrev zH1 (k1:Bool) (h:Heap) (l1:Addr):Heap:=h.push (zeJ k1 l1)
noncomputable abbrev zH2 (k1 k2:Bool) (h:Heap) (l1 l2:Addr):Heap:=(zH1 k1 h l1).push (zeJ k2 l2)
noncomputable abbrev zH3 (k1 k2:Bool) (h:Heap) (l1 l2:Addr):Heap:=(zH2 k1 k2 h l1 l2).push { cls:= .type "tuple",data:= .seq #[.ref h.objs.size, .ref (zH1 k1 h l1).objs.size] }
noncomputable abbrev zH4 (k1 k2:Bool) (h:Heap) (l1 l2:Addr):Heap:=(zH3 k1 k2 h l1 l2).push { cls:= .type "tuple",data:= .seq #[.none, .none] }
noncomputable abbrev zH5 (k1 k2:Bool) (h:Heap) (l1 l2:Addr):Heap:=(zH4 k1 k2 h l1 l2).push { cls:= .type "zip",data:= .fields #[.none, .bool false, .bool false, .ref (zH2 k1 k2 h l1 l2).objs.size, .ref (zH3 k1 k2 h l1 l2).objs.size] }
theorem zoP{k1 k2:Bool}(l1 l2:Addr) (xs ys:Array Value) :
  PySem.Meets (bZ.«zip.__new__» ⟨[.type "zip", .ref l1, .ref l2],[]⟩) (λ_ R s=>SeqIs k1 s.heap l1 xs∧SeqIs k2 s.heap l2 ys∧R (.ok (.ret (.ref (zH4 k1 k2 s.heap l1 l2).objs.size))) { s with heap:=zH5 k1 k2 s.heap l1 l2 }):=
 .of_wp λprog w A R s h=>by
  obtain⟨hp,g,d,tk,os⟩:=s;obtain⟨hl1,hl2,h⟩:=h;have hsub:=sub_zip;have f1:∀{A:aM}{E:Value→ag→Prop}{Q:Value→ag→Prop},Q (.ref hp.objs.size) ⟨hp.push (zeJ k1 l1),g,d,tk,os⟩→am (ap prog w) A (da (.ref l1)) Q E ⟨hp,g,d,tk,os⟩:=λq=>zjz (s:=⟨hp,g,d,tk,os⟩) hl1 q;have f2:∀{A:aM}{E:Value→ag→Prop}{Q:Value→ag→Prop},Q (.ref (hp.push (zeJ k1 l1)).objs.size) ⟨(hp.push (zeJ k1 l1)).push (zeJ k2 l2),g,d,tk,os⟩→am (ap prog w) A (da (.ref l2)) Q E ⟨hp.push (zeJ k1 l1),g,d,tk,os⟩:=λq=>zjz (s:=⟨hp.push (zeJ k1 l1),g,d,tk,os⟩) (hl2.push _) q
  wp_walk using f1,f2
  exact⟨_,rfl,h⟩
section
variable {prog:aF}{w:aC}{A:aM}{E:Value→ag→Prop}{s:ag}
theorem ztC{k1 k2:Bool}{l1 l2:Addr}{xs ys:Array Value}{Q:Value→ag→Prop}(hl1:SeqIs k1 s.heap l1 xs) (hl2:SeqIs k2 s.heap l2 ys)
  (h:∀g,bY g (s.heap.objs.size+4) (s.heap.objs.size+2) (s.heap.objs.size+3) .none→bL g (s.heap.objs.size+2) (.ref s.heap.objs.size) (.ref (s.heap.objs.size+1))→
   bL g (s.heap.objs.size+3) .none .none→SeqIt k1 g s.heap.objs.size l1 0→SeqIt k2 g (s.heap.objs.size+1) l2 0→g.objs.size=s.heap.objs.size+5→
   (∀c o,s.heap.get? c=ae o→g.get? c=ae o)→Q (.ref (s.heap.objs.size+4)) { s with heap:=g }):am (ap prog w) A (call (.type "zip") [.ref l1, .ref l2]) Q E s:=by
 refine callType_new PySem.F.called_zip (by decide) (PySem.F.typeCall_zip_2 _ _) (PySem.F.newCall_zip_2 _ _) (λobj=>PySem.F.args_object_init_3 obj _ _) PySem.F.entry_zip_new (zoP (k1:=k1) (k2:=k2) l1 l2 xs ys) ⟨hl1,hl2,?_⟩;have z1:(zH1 k1 s.heap l1).objs.size=s.heap.objs.size+1:=cq ..;have z2:(zH2 k1 k2 s.heap l1 l2).objs.size=s.heap.objs.size+2:=by rw[cq,z1]
 have z3:(zH3 k1 k2 s.heap l1 l2).objs.size=s.heap.objs.size+3:=by rw[cq,z2]
 have z4:(zH4 k1 k2 s.heap l1 l2).objs.size=s.heap.objs.size+4:=by rw[cq,z3]
 have z5:(zH5 k1 k2 s.heap l1 l2).objs.size=s.heap.objs.size+5:=by rw[cq,z4]
 have g5:(zH5 k1 k2 s.heap l1 l2).get? (zH4 k1 k2 s.heap l1 l2).objs.size=ae _:=bj _ rfl;have g4:(zH5 k1 k2 s.heap l1 l2).get? (zH3 k1 k2 s.heap l1 l2).objs.size=ae _:=aH _ (bj _ rfl);have g3:(zH5 k1 k2 s.heap l1 l2).get? (zH2 k1 k2 s.heap l1 l2).objs.size=ae _:=aH _ (aH _ (bj _ rfl));have g2:(zH5 k1 k2 s.heap l1 l2).get? (zH1 k1 s.heap l1).objs.size=ae _:=aH _ (aH _ (aH _ (bj _ zgx)));have g1:(zH5 k1 k2 s.heap l1 l2).get? s.heap.objs.size=ae _:=aH _ (aH _ (aH _ (aH _ (bj _ zgx))));show _∧_;rw[z2,z3,z4]at g5;rw[z1,z2]at g3;rw[z3]at g4;rw[z1]at g2;rw[z4];exact⟨⟨_,g5,rfl⟩,h _ g5 g3 g4 (zjw g1) (zjw g2) z5 λc o x=>aH _ (aH _ (aH _ (aH _ (aH _ x))))⟩
end
def SqZ (k:Bool) (K:ak) (H:Hp) (a:Addr) (xs:List V):Prop:=if k=true then SqL K H a xs else H a=ae (.tup xs)
theorem SqZ.sq{k:Bool}{K:ak}{H:Hp}{a:Addr}{xs:List V}(h:SqZ k K H a xs):SqK k K H a xs:=by
 cases k with
 |true=>exact h
 |false=>exact .of h
theorem SeqIs.ob{k:Bool}{h:Heap}{a:Addr}{its:Array Value}(x:SeqIs k h a its):∃o n,h.get? a=ae o∧o.data= .seq its n∧(k=true→o.cls= .type "list"):=by
 cases k with
 |true=>obtain⟨o,ho,hc,n,hd⟩:=(show h.IsList a its from x);exact⟨o,n,ho,hd,λ_=>hc⟩
 |false=>obtain⟨o,ho,hc,n,hd⟩:=(show h.IsTuple a its from x);exact⟨o,n,ho,hd,λz=>by cases z⟩
theorem SeqIs.ne_fields{k:Bool}{h:Heap}{a b:Addr}{its:Array Value}{o:Obj}{vs:Array Value}(x:SeqIs k h a its) (e:h.get? b=ae o) (d:o.data= .fields vs):a≠b:=λz=>by
 subst z;obtain⟨o',n,ho,hd,_⟩:=x.ob;rw[ho]at e;cases e;rw[hd]at d;cases d
noncomputable def Itz (k1 k2:Bool) (K:ak) (a b:Addr):It:=
  ⟨λi H=>∃xs ys x y,SqZ k1 K H a xs∧SqZ k2 K H b ys∧xs[i]? =ae x∧ys[i]? =ae y,
   λi H v H'=>∃p x y,H p=none∧v= .ref p∧H'=upd H p (.tup [x,y])∧(∀xs,SqZ k1 K H a xs→xs[i]? =ae x)∧ ∀ys,SqZ k2 K H b ys→ys[i]? =ae y,
   λi H=>∃xs ys,SqZ k1 K H a xs∧SqZ k2 K H b ys∧(xs.length≤i∨ys.length≤i)⟩
structure ZipFar (z TI TO i1 i2:Addr):Prop where
  TIz:TI≠z
  TOz:TO≠z
  i1z:i1≠z
  i2z:i2≠z
  TITO:TI≠TO
  TIi1:TI≠i1
  TIi2:TI≠i2
  TOi1:TO≠i1
  TOi2:TO≠i2
  i12:i1≠i2
def zyA (k1 k2:Bool) (z TI TO i1 i2 a b:Addr) (i:Nat) (h:Heap):Prop:=bY h z TI TO .none∧bL h TI (.ref i1) (.ref i2)∧(∃u v,bL h TO u v)∧SeqIt k1 h i1 a i∧SeqIt k2 h i2 b i
section
variable {X:Cx}{pins:List (Addr×Obj)}{σ:St}{H:Hp}{s:ag}
theorem zkc{k1 k2:Bool}{z TI TO i1 i2 a b:Addr}{i:Nat}{xs ys:List V}(I:Inv X pins σ H s) (hTO:H TO=none) (D:ZipFar z TI TO i1 i2) (st:zyA k1 k2 z TI TO i1 i2 a b i s.heap) (ha:SqZ k1 X.K H a xs) (hb:SqZ k2 X.K H b ys):il z TI TO i1 i2 a b:=by
 obtain⟨hz,hTI,⟨u,v,hTOo⟩,h1,h2⟩:=st;obtain⟨o1,v1,e1,d1⟩:=h1.ob;obtain⟨o2,v2,e2,d2⟩:=h2.ob;obtain⟨its,_,pa,_⟩:=I.seq ha.sq;obtain⟨its2,_,pb,_⟩:=I.seq hb.sq;have nTO:∀{k:Bool}{c:Addr}{zs:List V}{its:Array Value},SqZ k X.K H c zs→SeqIs k s.heap c its→c≠TO:=λ{k c zs its} hc pc e=>by
  subst e;cases k with
  |false=>rw[show H c=ae (.tup zs) from hc]at hTO;cases hTO
  |true=>
   obtain⟨o,n,ho,_,hcl⟩:=pc.ob;rw[hTOo]at ho;cases ho;have:=hcl rfl;simp at this
 exact⟨D.TIz,D.TOz,D.i1z,D.i2z,D.TITO,D.TIi1,D.TIi2,D.TOi1,D.TOi2,D.i12,pa.ne_fields hz rfl,nTO ha pa,pa.ne_fields e1 d1,pa.ne_fields e2 d2,pb.ne_fields hz rfl,nTO hb pb,pb.ne_fields e1 d1,pb.ne_fields e2 d2⟩
end
theorem zts{P:aF}{w:aC}{K:ak}{es:List Expr}{x1:Nat}{pos:aB}(k1 k2:Bool) (a b z TI TO i1 i2:Addr) (D:ZipFar z TI TO i1 i2):Turn P w K (.Tuple es x1 pos) (Itz k1 k2 K a b) [z,TI,TO,i1,i2] z (zyA k1 k2 z TI TO i1 i2 a b) where
  mem:=by simp
  obj:=λi h ⟨hz,hTI,⟨u,v,hTO⟩,h1,h2⟩ c hc=>by
    obtain⟨o1,v1,e1,d1⟩:=h1.ob;obtain⟨o2,v2,e2,d2⟩:=h2.ob;simp only[av,bw,or_false]at hc;rcases hc with rfl |rfl |rfl |rfl |rfl
    · exact⟨_,hz,λv z=>by cases z⟩
    · exact⟨_,hTI,λv z=>by cases z⟩
    · exact⟨_,hTO,λv z=>by cases z⟩
    · exact⟨_,e1,λv z=>by rw[d1]at z;cases z⟩
    · exact⟨_,e2,λv z=>by rw[d2]at z;cases z⟩
  keep:=λi h h' ⟨hz,hTI,⟨u,v,hTO⟩,h1,h2⟩ kk=>⟨kk z (by simp) _ hz,kk TI (by simp) _ hTI,⟨u,v,kk TO (by simp) _ hTO⟩,h1.at λo q=>kk i1 (by simp) o q,h2.at λo q=>kk i2 (by simp) o q⟩
  item:=by
    intro X hP hw hK hc i pins s σ H E I hf st hg;subst hP hw hK;obtain⟨xs,ys,x,y,ha,hb,hx,hy⟩:=hg;have Z:=zkc I (hf TO (by simp)).1 D st ha hb;obtain⟨hz,hTI,⟨c0,d0,hTO⟩,h1,h2⟩:=st;obtain⟨its,rv,pa,_⟩:=I.seq ha.sq;obtain⟨its2,rv2,pb,_⟩:=I.seq hb.sq;obtain⟨u,hu,ru⟩:=rv.get hx;obtain⟨u2,hu2,ru2⟩:=rv2.get hy;refine ztl Z hz hTI hTO h1 h2 pa pb (x:=u) (y:=u2) (by simpa using hu) (by simpa using hu2) λg hz1 hTO1 h11 h21 hp hz' kk=>⟨_,rfl,?_⟩;refine wpAny_letOwnedTupleGo_zip hz1 λg2 hz2 hs2=>?_;have hs2':∀c o,c≠z→g.get? c=ae o→g2.get? c=ae o:=λc o hc e=>(hs2.2 c hc).trans e;have kk2:∀c o,c∉ [z,TI,TO,i1,i2]→s.heap.get? c=ae o→g2.get? c=ae o:=λc o hc q=>by
      simp only[av,bw,or_false,not_or]at hc;exact hs2' c o hc.1 (kk c o hc.1 hc.2.2.1 hc.2.2.2.1 hc.2.2.2.2 q)
    have hn:=I.hok.fresh (au s.heap.objs.size);have hpz:s.heap.objs.size≠z:=cF (aI hz);have ht2:g2.get? s.heap.objs.size=ae { cls:= .type "tuple",data:= .seq #[u,u2] }:=hs2' _ _ hpz hp;refine⟨.ref s.heap.objs.size,upd H s.heap.objs.size (.tup [x,y]),I.turnNew (fp:=[z,TI,TO,i1,i2]) (t':=s.toks) (au _) kk2 hf ⟨by show 2≤sizeLine;rw[dv];decide,[u,u2], .cons ru (.cons ru2 .nil),⟨_,ht2,rfl,_,rfl⟩⟩,rfl,
      ⟨_,x,y,hn,rfl,rfl,λzs hy=>by rw[I.seq_inj hy.sq ha.sq];exact hx,λzs hy'=>by rw[I.seq_inj hy'.sq hb.sq];exact hy⟩,
      ⟨hz2,hs2' _ _ D.TIz (kk _ _ D.TIz D.TITO D.TIi1 D.TIi2 hTI),⟨u,u2,hs2' _ _ D.TOz hTO1⟩,h11.at λo q=>hs2' _ o D.i1z q,h21.at λo q=>hs2' _ o D.i2z q⟩,λc hc=>?_⟩
    have hlt:∃o,s.heap.get? c=ae o:=by
      obtain⟨o1,v1,e1,d1⟩:=h1.ob;obtain⟨o2,v2,e2,d2⟩:=h2.ob;simp only[av,bw,or_false]at hc;rcases hc with rfl |rfl |rfl |rfl |rfl
      · exact⟨_,hz⟩
      · exact⟨_,hTI⟩
      · exact⟨_,hTO⟩
      · exact⟨_,e1⟩
      · exact⟨_,e2⟩
    obtain⟨o,ho⟩:=hlt;rw[zax (bu (aI ho))];exact(hf c hc).1
  done:=by
    intro X hP hw hK hc i pins s σ H E I hf st hg;subst hP hw hK;obtain⟨xs,ys,ha,hb,hx⟩:=hg;have Z:=zkc I (hf TO (by simp)).1 D st ha hb;obtain⟨hz,hTI,⟨c0,d0,hTO⟩,h1,h2⟩:=st;obtain⟨its,rv,pa,_⟩:=I.seq ha.sq;obtain⟨its2,rv2,pb,_⟩:=I.seq hb.sq;have hl:=rv.length;have hl2:=rv2.length;refine zwl (I.ok.hd hc) Z hz hTI hTO h1 h2 pa pb ?_ λg eb=>⟨rfl,I.turnedL (fp:=[z,TI,TO,i1,i2]) (t':=s.toks) (λc o hc q=>?_) hf⟩
    · rcases hx with hx |hx
      · exact .inl (by simp;omega)
      · exact .inr (by simp;omega)
    · simp only[av,bw,or_false,not_or]at hc;exact eb c o hc.1 hc.2.2.1 hc.2.2.2.1 hc.2.2.2.2 q
  self:=λA i s Q E st h=>kM st.1 h
section
variable {X:Cx}{es:List Expr}{x1:Nat}{tpos:aB}
noncomputable def zCU (K:ak) (ta:TA):TI:=λσ H R=>ta σ H λvs H1=>∃k1 k2 a b xs ys,vs=[.ref a, .ref b]∧SqZ k1 K H1 a xs∧SqZ k2 K H1 b ys∧R (Itz k1 k2 K a b) H1
theorem zxD{a b:Expr}{ta:TA}{p pos:aB}(hg:Gl X "zip") (hm:X.mg "zip" =none) (ha:PA X [a,b] ta) (hs:ao [a,b] X.env=[(false,ax a X.env),(false,ax b X.env)]:=by rfl) (hs2:ao [b] X.env=[(false,ax b X.env)]:=by rfl):PI X (.Tuple es x1 tpos) (.Call (.Name "zip" p) [a,b] [] pos) (zCU X.K ta):=by
 intro pins s σ H R I h;refine Call_ (zhX I hg hm boot_zip (gd (thn (ha pos pins s σ H _ I h) λus s1 ⟨vs,H1,I1,r1,q1⟩=>?_) (by rw[hs,hs2]) (by rw[hs2];rfl)));obtain⟨k1,k2,a,b,xs,ys,e,hq1,hq2,q⟩:=q1;subst e;cases r1 with
 |cons r rr=>
  cases rr with
  |cons r' rr=>
   cases rr;cases(show _=bx a from r);cases(show _=bx b from r');obtain⟨its,rv,pl,_⟩:=I1.seq hq1.sq;obtain⟨its2,rv2,pl2,_⟩:=I1.seq hq2.sq;refine ztC pl pl2 λg hz hTI hTO h1 h2 hz' kk=>kM hz ?_;have I2:Inv X pins σ H1 { s1 with heap:=g }:=I1.kept (t':=s1.toks) kk;have ne:∀(n i j:Nat),i≠j→n+i≠n+j:=λn i j h e=>h (Nat.add_left_cancel e);have D:ZipFar (s1.heap.objs.size+4) (s1.heap.objs.size+2) (s1.heap.objs.size+3) s1.heap.objs.size (s1.heap.objs.size+1):=
    ⟨ne _ 2 4 (by decide),ne _ 3 4 (by decide),ne _ 0 4 (by decide),ne _ 1 4 (by decide),ne _ 2 3 (by decide),ne _ 2 0 (by decide),ne _ 2 1 (by decide),ne _ 3 0 (by decide),ne _ 3 1 (by decide),ne _ 0 1 (by decide)⟩
   refine⟨_,_,_,_,H1,rfl,I2,zts k1 k2 a b _ _ _ _ _ D,⟨hz,hTI,⟨_,_,hTO⟩,h1,h2⟩,λc hc=>?_,q⟩;have hb':s1.heap.objs.size≤c:=by
    simp only[av,bw,or_false]at hc;rcases hc with rfl |rfl |rfl |rfl |rfl
    ·exact fH _ _
    ·exact fH _ _
    ·exact fH _ _
    ·exact au _
    ·exact fH _ _
   exact I1.fpOk hb' (I1.hok.fresh hb')
noncomputable def pairs:List W→List W→List W
 |x::xs,y::ys=> .tup [x,y]::pairs xs ys
 |_,_=>[]
theorem zkZ:∀{xs ys:List W}{i:Nat}{u:W},(pairs xs ys)[i]? =ae u→ ∃x y,xs[i]? =ae x∧ys[i]? =ae y∧u= .tup [x,y]
 | [],_,_,_,h=>by simp [pairs]at h
 |_::_,[],_,_,h=>by simp [pairs]at h
 |x::xs,y::ys,0,u,h=>by
  simp [pairs]at h;exact⟨x,y,rfl,rfl,h.symm⟩
 |x::xs,y::ys,i+1,u,h=>by simpa using zkZ (xs:=xs) (ys:=ys) (i:=i) (u:=u) (by simpa [pairs]using h)
theorem zkP:∀{xs ys:List W},(pairs xs ys).length=min xs.length ys.length
 | [],_=>by simp [pairs]
 |_::_,[]=>by simp [pairs]
 |x::xs,y::ys=>by simp [pairs,zkP (xs:=xs) (ys:=ys)]
theorem zzW{K:ak}{k1 k2:Bool}{a b:Addr}{ws us:List W}{G:Sto→Prop}{H0:Hp}{S0:Sto}(h:∀S H,Ext H0 S0 H S→RepS K H S→G S→(∃vs,SqZ k1 K H a vs∧Reps K H ws vs)∧ ∃vs,SqZ k2 K H b vs∧Reps K H us vs):ItW K (Itz k1 k2 K a b) (pairs ws us) G H0 S0:=λi S H e hS hG=>by
 obtain⟨⟨xs,hq,r⟩,⟨ys,hq2,r2⟩⟩:=h S H e hS hG;refine⟨λu eu=>?_,λhl=>⟨xs,ys,hq,hq2,?_⟩⟩
 ·obtain⟨x,y,ex,ey,rfl⟩:=zkZ eu;obtain⟨v,ev,rv⟩:=r.get ex;obtain⟨v2,ev2,rv2⟩:=r2.get ey;refine⟨⟨xs,ys,v,v2,hq,hq2,ev,ev2⟩,λx H' ⟨p,y1,y2,hp,e1,e2,e3,e4⟩=>?_⟩;subst e1 e2;have f1:=e3 xs hq;have f2:=e4 ys hq2;rw[ev]at f1;cases f1;rw[ev2]at f2;cases f2;exact⟨.new hp,hS.new hp, .tup zay (.cons (rv.ext (.new (S:=S) hp)) (.cons (rv2.ext (.new (S:=S) hp)) .nil))⟩
 ·rw[zkP]at hl;rw[←r.length,←r2.length];omega
theorem znX{K:ak}{H:Hp}{S:Sto}{w:W}{v:V}{Q:List W→(Sto→Prop)→Prop}(r:Rep K H w v) (hS:RepS K H S) (h:zpD w S Q) :
  ∃k a ws G,v= .ref a∧G S∧(∀S' H',Ext H S H' S'→RepS K H' S'→G S'→ ∃vs,SqZ k K H' a vs∧Reps K H' ws vs)∧Q ws G:=by
 cases r with
 |tup f hs=>exact⟨false,_,_,_,rfl,trivial,λS' H' e hS' _=>⟨_,e.tup _ _ f,hs.ext e⟩,h⟩
 |ref a=>
  obtain⟨ws,ea,h⟩:=zbm h;exact⟨true,_,ws,_,rfl,ea,λS' H' e hS' g=>by
   obtain⟨vs,f,hs⟩:=hS' a _ g;exact⟨vs, .of f,hs⟩,h⟩
 |scr f=>exact⟨true,_,_,_,rfl,trivial,λS' H' e hS' _=>⟨_,(e.fz f).sq,Reps.ofInts _⟩,h⟩
 |_=>exact h.elim
noncomputable def zvT (t u:WE):WI:=λE σ S Q=>t E σ S λx S1=>u E σ S1 λy S2=>zpD x S2 λxs G=>zpD y S2 λys G'=>Q (pairs xs ys) (λS'=>G S'∧G' S') S2
theorem zoh{a b:Expr}{ta tb:WE}{p pos:aB}(hg:Gl X "zip") (hm:X.mg "zip" =none) (ha:JE X a ta) (hb:JE X b tb) (hs:ao [a,b] X.env=[(false,ax a X.env),(false,ax b X.env)]:=by rfl) (hs2:ao [b] X.env=[(false,ax b X.env)]:=by rfl)
  (h3:ao [a,b] X.env=(false,ax a X.env)::ao [b] X.env:=by rfl) (h4:ao [b] X.env=(false,ax b X.env)::ao [] X.env:=by rfl):JI X (.Tuple es x1 tpos) (.Call (.Name "zip" p) [a,b] [] pos) (zvT ta tb):=λE hE=>
 (zxD hg hm (zdy (ha E hE) (zdy (hb E hE) pa_nil h4) h3) hs hs2).mono λσ H R ⟨σW,S,QW,hσ,hS,ht,hR⟩=>⟨σW,S,_,hσ,hS,ht,λx S1 v H1 e1 r1 hS1 h1=>⟨σW,S1,_,hσ.ext e1,hS1,h1,λy S2 v2 H2 e2 r2 hS2 h2=>by
  obtain⟨k1,a,ws,G,rfl,hG,hq,h⟩:=znX (r1.ext e2) hS2 h2;obtain⟨k2,b,us,G',rfl,hG',hq',h⟩:=znX r2 hS2 h;obtain⟨vs,hv,_⟩:=hq S2 H2 .refl hS2 hG;obtain⟨vs',hv',_⟩:=hq' S2 H2 .refl hS2 hG';exact⟨k1,k2,a,b,vs,vs',rfl,hv,hv',hR _ _ S2 _ H2 (e1.trans e2) hS2 ⟨hG,hG'⟩ (zzW λS' H' e hS' g=>⟨hq S' H' e hS' g.1,hq' S' H' e hS' g.2⟩) h⟩⟩⟩
end
section
noncomputable def zzy (hi:Int) (n:Nat):List W:=(bc n).map λ(i:Nat)=> .int (hi - (i:Int))
noncomputable def zCj (t:WA):WI:=λE σ S Q=>t E σ S λws S1=>match ws with
 | [.int i, .int j, .int c]=>c= -1∧(-(2 ^ 62)≤i∧i<2 ^ 62∧ -(2 ^ 62)≤j∧j<2 ^ 62)∧Q (zzy i (i - j).toNat) (λ_=>True) S1
 |_=>False
end
section
variable {X:Cx}{a b c:Expr}{pos:aB}{ta tb tc:WE}
theorem zth{op op':cI}{r r':R2}{wr wr':W2}(ho:OpR X (bp op) r) (hw:OpW X.K r wr) (ho':OpR X (bp op') r') (hw':OpW X.K r' wr') (ha:JE X a ta) (hb:JE X b tb) (hc:JE X c tc)
  (hm:gN [op,op'] [b,c]=false:=by with_unfolding_all rfl):JE X (.Compare a [op,op'] [b,c] pos) (zll wr wr' ta tb tc):=λE hE=>
 (ztY ho ho' (ha E hE) (hb E hE) (hc E hE) hm).mono λσ H Q ⟨σW,S,QW,hσ,hS,ht,hQ⟩=>by
  refine⟨σW,S,_,hσ,hS,ht,λx S1 v1 H1 e1 r1 hS1 h1=>⟨σW,S1,_,hσ.ext e1,hS1,h1,λy S2 v2 H2 e2 r2 hS2 h2=>?_⟩⟩;refine hw H2 v1 v2 x y S2 _ _ (r1.ext e2) r2 hS2 h2 λz S3 v3 H3 e3 r3 hS3 h3=>?_;cases r3 with
  |bl k=>
   refine⟨k,rfl,?_⟩;cases k with
   |true=>
    refine⟨σW,S3,_,((hσ.ext e1).ext e2).ext e3,hS3,h3,λu S4 v4 H4 e4 r4 hS4 h4=>?_⟩;exact hw' H4 v2 v4 y u S4 Q QW ((r2.ext e3).ext e4) r4 hS4 h4 (hQ.from (((e1.trans e2).trans e3).trans e4))
   |false=>exact hQ _ S3 _ H3 ((e1.trans e2).trans e3) (.bl false) hS3 h3
  |_=>exact h3.elim
theorem zrJ (ha:JE X a ta) (hb:JE X b tb) (hc:JE X c tc) (hm:gN [.LtE, .LtE] [b,c]=false:=by with_unfolding_all rfl):JE X (.Compare a [.LtE, .LtE] [b,c] pos) (zll oLe oLe ta tb tc):=zth (op_le.or zkJ) zum (op_le.or zkJ) zum ha hb hc hm
end
section
variable {X:Cx}{e:Expr}{es:List Expr}{t:WA}{p pos:aB}
noncomputable def zxm:WF:=λws S Q=>match ws with
 | [.int i]=>Q (.int i) S
 | [.bl b]=>Q (.int (if b then 1 else 0)) S
 |_=>False
theorem zqM{K:ak}:zlQ K (λxs H Q=>(∃i,xs=[.int i]∧Q (.int i) H)∨ ∃k,xs=[.bl k]∧Q (.int (if k then 1 else 0)) H) zxm:=λH vs ws S Q QW r hS h hQ=>by
 cases r with
 |nil=>exact h.elim
 |cons r1 r2=>
  cases r2 with
  |cons _ _=>cases r1<;>exact h.elim
  |nil=>
   cases r1 with
   |int i=>exact .inl ⟨i,rfl,hQ _ S _ H .refl (.int _) hS h⟩
   |bl b=>exact .inr ⟨b,rfl,hQ _ S _ H .refl (.int _) hS h⟩
   |_=>exact h.elim
theorem zpR (hg:Gl X "int") (hm:X.mg "int" =none) (ha:JA X (e::es) t)
  (he:ao (e::es) X.env=(false,ax e X.env)::ao es X.env:=by rfl) (hpl:(aS pos (ao es X.env)).any (·.1)=false:=by rfl):JE X (.Call (.Name "int" p) (e::es) [] pos) (wB zxm t):=
 zyl zrU zqM hg hm cH ha (by decide) (by decide) he hpl
noncomputable def zBC:WF:=λws S Q=>match ws with
 | [.int i, .int j]=>Q (.int (if j > i then j else i)) S
 |_=>False
noncomputable def zkK:WF:=λws S Q=>match ws with
 | [.int i, .int j]=>Q (.int (if j<i then j else i)) S
 |_=>False
theorem zpd{K:ak}:zlQ K (λxs H Q=>∃i j,xs=[.int i, .int j]∧Q (.int (if j<i then j else i)) H) zkK:=λH vs ws S Q QW r hS h hQ=>by
 unfold zkK at h;split at h
 ·cases r with
  |cons r1 r2=>cases r2 with
   |cons r2 r3=>cases r3;cases r1;cases r2;exact⟨_,_,rfl,hQ _ S _ H .refl (.int _) hS h⟩
 ·exact h.elim
theorem zsd{id:String}{r:List V→Hp→VK→Prop}{f:WF}{x:Str}(hc:X.calm=true→CallR X (.builtin id) r) (hw:zlQ X.K r f) (hg:Gl X x) (hm:X.mg x=none) (hv:bV x=ae (.builtin id)) (ha:JA X (e::es) t) (hn:x≠ "__name__" :=by decide) (hdb:(x == ("__debug__" :Str))=false:=by decide)
  (he:ao (e::es) X.env=(false,ax e X.env)::ao es X.env:=by rfl) (hpl:(aS pos (ao es X.env)).any (·.1)=false:=by rfl) (hcl:X.calm=true:=by rfl):JE X (.Call (.Name x p) (e::es) [] pos) (wB f t):=λE hE=>zuI (hc hcl) hw hg hm hv ha hn hdb he hpl E hE
theorem zrq (hg:Gl X "min") (hm:X.mg "min" =none) (ha:JA X (e::es) t)
  (he:ao (e::es) X.env=(false,ax e X.env)::ao es X.env:=by rfl) (hpl:(aS pos (ao es X.env)).any (·.1)=false:=by rfl) (hcl:X.calm=true:=by rfl):JE X (.Call (.Name "min" p) (e::es) [] pos) (wB zkK t):=zsd zrX zpd hg hm PyProof.Rows.boot_min ha (by decide) (by decide) he hpl hcl
theorem zlG{tl:WL}(hg:Gl X "all") (hm:X.mg "all" =none) (ha:JL X e tl)
  (he:ao [e] X.env=(false,ax e X.env)::ao [] X.env:=by rfl) (hpl:(aS pos (ao [] X.env)).any (·.1)=false:=by rfl) (hcl:X.calm=true:=by rfl):JE X (.Call (.Name "all" p) [e] [] pos) (wBL zms tl):=λE hE=>zrd (ztL hcl) zss hg hm PyProof.Rows.boot_all ha (by decide) (by decide) he hpl E hE
theorem zic{tl:WL}(hg:Gl X "tuple") (hm:X.mg "tuple" =none) (ha:JL X e tl)
  (he:ao [e] X.env=(false,ax e X.env)::ao [] X.env:=by rfl) (hpl:(aS pos (ao [] X.env)).any (·.1)=false:=by rfl):JE X (.Call (.Name "tuple" p) [e] [] pos) (wBL zgz tl):=zux zfI zmt hg hm j6 ha (by decide) (by decide) he hpl
theorem zes (hg:Gl X "tuple") (hm:X.mg "tuple" =none) (ha:JA X (e::es) t)
  (he:ao (e::es) X.env=(false,ax e X.env)::ao es X.env:=by rfl) (hpl:(aS pos (ao es X.env)).any (·.1)=false:=by rfl):JE X (.Call (.Name "tuple" p) (e::es) [] pos) (wB zea t):=zyl zfI zmn hg hm j6 ha (by decide) (by decide) he hpl
end
theorem zuH{K:ak}:∀T∈ ["int", "bool", "str", "tuple", "list"],∀A∈ ["NoneType", "bool", "int", "str", "tuple", "list"],eX K (.type A) (.type T)=ae (zcu A T):=by
 intro T hT A hA;simp only[av,bw,or_false]at hT hA;rcases hT with rfl |rfl |rfl |rfl |rfl<;>rcases hA with rfl |rfl |rfl |rfl |rfl |rfl<;>rfl
theorem gl0:∀(ws:List W) (σ:WSt) (S:Sto) (P:WSt→Sto→Prop),zdP ws σ S P→ws.length=0:=λws σ S P h=>by
 cases ws with
 |nil=>rfl
 |cons _ _=>exact h.elim
theorem glS{i n:Nat}{u:WGs}(h:∀(ws:List W) (σ:WSt) (S:Sto) (P:WSt→Sto→Prop),u ws σ S P→ws.length=n):∀(ws:List W) (σ:WSt) (S:Sto) (P:WSt→Sto→Prop),zaD (wGN i) u ws σ S P→ws.length=n+1:=λws σ S P q=>by
 cases ws with
 |nil=>exact q.elim
 |cons w ws=>exact congrArg (· +1) (h _ _ _ _ q)
noncomputable def zaJ:WSp:=λ_ _ _ _=>False
theorem zyj{P:aF}{w:aC}{K:ak}{mg:Str→Option Value}{base:Heap}{f:Addr}{fd:bF}{ps:List Str}{k:Nat}:FnOk P w K mg base (CX1 P w) k f fd ps (zdh K zaJ):=
 ⟨λvs H Q E ⟨_,_,_,_,_,_,h,_⟩=>h.elim,λA outer s H args us vs Q E _ _ _ _ ⟨_,_,_,_,_,_,h,_⟩=>h.elim⟩
section
variable {X:Cx}{a b:Expr}{pos:aB}{ta tb:WE}{la lb:WL}
noncomputable def ztV (t:WL) (u:WE):WE:=λE σ S Q=>t E σ S λws S1=>u E σ S1 λy S2=>match y with
 | .int i=>match atI ws i with
  |some w=>Q w S2
  |none=>False
 |_=>False
theorem zlo (ha:JL X a la) (hb:JE X b tb) (hs:zlK b:=by intro _ _;rfl):JE X (.Subscript a b pos) (ztV la tb):=λE hE=>
 (zxF zuO (ha E hE) (hb E hE) hs).mono λσ H Q ⟨σW,S,QW,hσ,hS,ht,hQ⟩=>⟨σW,S,_,hσ,hS,ht,λws S1 vs p H1 e1 fp ep np r1 hS1 h1=>⟨σW,S1,_,hσ.ext e1,hS1,h1,λy S2 v2 H2 e2 r2 hS2 h2=>by
  cases r2 with
  |int i=>
   dsimp only at h2;split at h2
   ·obtain⟨v,ev,r⟩:=zlP (r1.ext e2) ‹_›;exact .inl ⟨p,vs,i,v,rfl,rfl, .of (e2.fr p _ ep np).1,ev,hQ _ S2 _ H2 (e1.trans e2) r hS2 h2⟩
   ·exact h2.elim
  |_=>exact h2.elim⟩⟩
noncomputable def zwD (t:WE) (u:WL):WL:=λE σ S Q=>t E σ S λx S1=>u E σ S1 λys S2=>match x with
 | .ref a=>zcU S2 a λxs=>xs.length+ys.length≤sizeLine∧Q (xs++ys) S2
 |_=>False
noncomputable def zoU (t u:WL):WL:=λE σ S Q=>t E σ S λxs S1=>u E σ S1 λys S2=>xs.length+ys.length≤sizeLine∧Q (xs++ys) S2
noncomputable def zuc (t:WL) (u:WE):WL:=λE σ S Q=>t E σ S λxs S1=>u E σ S1 λy S2=>match y with
 | .ref a=>zcU S2 a λys=>xs.length+ys.length≤sizeLine∧Q (xs++ys) S2
 |_=>False
theorem zxe (ha:JE X a ta) (hb:JL X b lb):JL X (.BinOp a .Add b pos) (zwD ta lb):=λE hE=>
 (zrF zmP (ha E hE) (hb E hE)).mono λσ H Q ⟨σW,S,QW,hσ,hS,ht,hQ⟩=>⟨σW,S,_,hσ,hS,ht,λw1 S1 v1 H1 e1 r1 hS1 h1=>⟨σW,S1,_,hσ.ext e1,hS1,h1,λys S2 us q H2 e2 fq eq nq r2 hS2 h2=>by
  cases r1 with
  |ref p=>
   obtain⟨xs,ea,h⟩:=zbm h2;obtain⟨vs,f1,q1⟩:=hS2 p _ ea;exact⟨p,q,vs,us,rfl,rfl,f1,eq,by rw[←q1.length,←r2.length];exact h.1,λp hp=>hQ _ S2 _ p _ ((e1.trans e2).trans (.new hp)) ((e1.trans e2).free hp) zay (hS2.free hp) ((q1.append r2).ext (.new (S:=S2) hp)) (hS2.new hp) h.2⟩
  |_=>exact h2.elim⟩⟩
theorem zlT (ha:JL X a la) (hb:JL X b lb):JL X (.BinOp a .Add b pos) (zoU la lb):=λE hE=>
 (zrF zmP (ha E hE) (hb E hE)).mono λσ H Q ⟨σW,S,QW,hσ,hS,ht,hQ⟩=>⟨σW,S,_,hσ,hS,ht,λxs S1 vs p H1 e1 fp ep np r1 hS1 h1=>⟨σW,S1,_,hσ.ext e1,hS1,h1,λys S2 us q H2 e2 fq eq nq r2 hS2 h2=>
  ⟨p,q,vs,us,rfl,rfl,(e2.fr p _ ep np).1,eq,by rw[←r1.length,←r2.length];exact h2.1,λz hz=>hQ _ S2 _ z _ ((e1.trans e2).trans (.new hz)) ((e1.trans e2).free hz) zay (hS2.free hz) (((r1.ext e2).append r2).ext (.new (S:=S2) hz)) (hS2.new hz) h2.2⟩⟩⟩
theorem zvL (ha:JL X a la) (hb:JE X b tb):JL X (.BinOp a .Add b pos) (zuc la tb):=λE hE=>
 (zrF zmP (ha E hE) (hb E hE)).mono λσ H Q ⟨σW,S,QW,hσ,hS,ht,hQ⟩=>⟨σW,S,_,hσ,hS,ht,λxs S1 vs p H1 e1 fp ep np r1 hS1 h1=>⟨σW,S1,_,hσ.ext e1,hS1,h1,λy S2 v2 H2 e2 r2 hS2 h2=>by
  cases r2 with
  |ref q=>
   obtain⟨ys,ea,h⟩:=zbm h2;obtain⟨us,f2,q2⟩:=hS2 q _ ea;exact⟨p,q,vs,us,rfl,rfl,(e2.fr p _ ep np).1,f2,by rw[←r1.length,←q2.length];exact h.1,λz hz=>hQ _ S2 _ z _ ((e1.trans e2).trans (.new hz)) ((e1.trans e2).free hz) zay (hS2.free hz) (((r1.ext e2).append q2).ext (.new (S:=S2) hz)) (hS2.new hz) h.2⟩
  |_=>exact h2.elim⟩⟩
noncomputable def zsL (t:WL) (u:WE):WL:=λE σ S Q=>t E σ S λxs S1=>u E σ S1 λy S2=>match y with
 | .int k=>(-(2 ^ 63)≤k∧k<2 ^ 63∧xs.length*k.toNat≤sizeLine)∧Q (aN k.toNat xs).flatten S2
 |_=>False
theorem Reps.rep{K:ak}{H:Hp}{ws:List W}{vs:List V}(h:Reps K H ws vs):∀k:Nat,Reps K H (aN k ws).flatten (aN k vs).flatten
 |0=> .nil
 |k+1=>by
  rw[b9,b9,dr,dr];exact h.append (Reps.rep h k)
theorem zzL (ha:JL X a la) (hb:JE X b tb):JL X (.BinOp a .Mult b pos) (zsL la tb):=λE hE=>
 (zrF zyW (ha E hE) (hb E hE)).mono λσ H Q ⟨σW,S,QW,hσ,hS,ht,hQ⟩=>⟨σW,S,_,hσ,hS,ht,λxs S1 vs p H1 e1 fp ep np r1 hS1 h1=>⟨σW,S1,_,hσ.ext e1,hS1,h1,λy S2 v2 H2 e2 r2 hS2 h2=>by
  cases r2 with
  |int k=>
   obtain⟨⟨k1,k2,k3⟩,h⟩:=h2;exact⟨p,k,vs,rfl,rfl,(e2.fr p _ ep np).1,k1,k2,by rw[←r1.length];exact k3,λz hz=>hQ _ S2 _ z _ ((e1.trans e2).trans (.new hz)) ((e1.trans e2).free hz) zay (hS2.free hz) (((r1.ext e2).rep k.toNat).ext (.new (S:=S2) hz)) (hS2.new hz) h⟩
  |_=>exact h2.elim⟩⟩
end
theorem zsF{K:ak}{H:Hp}{a:Addr}{ns:List Int}{c:WSp}{E:XK}(hO:zAe H) (hS:SqL K H a (ns.map V.int)) (h:c [.scr ns] (λ_=>none) (λw _=>w= .bl true) (λ_ _=>False)):zdh K c [.ref a] H (λv _=>v= .bl true) E:=by
 have fz:FzL K H a (ns.map V.int):=by
  rcases hS with(hS |⟨o,hS⟩) |hS
  ·rcases hO a with z |⟨o,xs,z⟩
   ·rw[hS]at z;cases z
   ·rw[hS]at z;cases z
  ·exact .inl ⟨o,hS⟩
  ·exact .inr hS
 refine⟨[.scr ns],λ_=>none,_,λ_ _=>False, .one (.scr fz),(λa o e=>by cases e),h,λw S v H' e r hS' q=>?_,λ_ _ _ _ _ _ z=>z.elim⟩
 subst q;cases r;rfl
section
noncomputable def zAN:W2
 | .tup xs, .int k,S,Q=>(xs≠ []∧ -(2 ^ 63)≤k∧k<2 ^ 63∧xs.length*k.toNat≤sizeLine)∧Q (.tup (aN k.toNat xs).flatten) S
 |_,_,_,_=>False
end
noncomputable def zgH (kvs:List (List Int×W)) (k:List Int):Option W:=(kvs.find? λkv=>decide (kv.1=k)).map (·.2)
noncomputable def zvf (kvs:List (List Int×W)) (k:List Int) (v:W):List (List Int×W):=
 if(kvs.any λkv=>decide (kv.1=k))=true then kvs.map (λkv=>if kv.1=k then(kv.1,v) else kv) else kvs++[(k,v)]
noncomputable def zbt:List W→Option (List Int)
 | []=>ae []
 | .int i::ws=>(zbt ws).map (i:: ·)
 |_=>none
noncomputable def zqI:W→Option (List Int)
 | .tup ws=>zbt ws
 |_=>none
def ztn (S:Sto) (a:Addr) (P:List (List Int×W)→Prop):Prop:=match S a with
 |some (.dct kvs)=>P kvs
 |_=>False
theorem zva{S:Sto}{a:Addr}{P:List (List Int×W)→Prop}(h:ztn S a P):∃kvs,S a=ae (.dct kvs)∧P kvs:=by
 unfold ztn at h;split at h
 ·exact⟨_, ‹_›,h⟩
 ·exact h.elim
theorem zmA{S:Sto}{a:Addr}{kvs:List (List Int×W)}{P:List (List Int×W)→Prop}(e:S a=ae (.dct kvs)):ztn S a P=P kvs:=by unfold ztn;rw[e]
section
variable {K:ak}{H:Hp}
noncomputable abbrev RepD (K:ak) (H:Hp):List (List Int×W)→List (List Key×V)→Prop:=aL λq p=>p.1=q.1.map Sum.inl∧Rep K H q.2 p.2
theorem zjq:∀{a b:List Int},a.map (Sum.inl:Int→Key)=b.map Sum.inl→a=b
 | [],[],_=>rfl
 | [],_::_,h=>by simp at h
 |_::_,[],h=>by simp at h
 |x::xs,y::ys,h=>by
  simp only[az,kO,Sum.inl.injEq]at h;rw[h.1,zjq h.2]
theorem RepD.val{kvs:List (List Int×W)}{ps:List (List Key×V)}(r:RepD K H kvs ps) (k:List Int):(∀w,zgH kvs k=ae w→ ∃v,zog ps (k.map Sum.inl)=ae v∧Rep K H w v)∧(zgH kvs k=none→zog ps (k.map Sum.inl)=none):=by
 induction r with
 |nil=>exact⟨λw h=>by simp [zgH]at h,λ_=>rfl⟩
 | @cons q p kvs ps h t ih=>
  by_cases hk:q.1=k
  ·have e:p.1=k.map Sum.inl:=by rw[h.1,hk]
   rw[zhn e];have ew:zgH (q::kvs) k=ae q.2:=by simp [zgH,bW,hk]
   rw[ew];exact⟨λw z=>by cases z;exact⟨_,rfl,h.2⟩,λz=>by cases z⟩
  ·have e:¬p.1=k.map Sum.inl:=by rw[h.1];exact λz=>hk (zjq z)
   rw[zhb e];have ew:zgH (q::kvs) k=zgH kvs k:=by simp [zgH,bW,hk]
   rw[ew];exact ih
theorem RepD.any{kvs:List (List Int×W)}{ps:List (List Key×V)}(r:RepD K H kvs ps) (k:List Int):(ps.any λkv=>decide (kv.1=k.map Sum.inl))=kvs.any λkv=>decide (kv.1=k):=by
 induction r with
 |nil=>rfl
 | @cons q p kvs ps h t ih=>
  rw[eA,eA,ih];congr 1;apply decide_eq_decide.mpr;rw[h.1];exact⟨zjq,λz=>by rw[z]⟩
theorem RepD.put{kvs:List (List Int×W)}{ps:List (List Key×V)}(r:RepD K H kvs ps) (k:List Int) {w:W}{v:V}(rw':Rep K H w v):RepD K H (zvf kvs k w) (zqa ps (k.map Sum.inl) v):=by
 unfold zvf zqa;rw[r.any k];split
 ·rename_i hany;clear hany
  induction r with
  |nil=>exact .nil
  | @cons q p kvs ps h t ih=>
   rw[az,az];refine .cons ?_ ih;by_cases hk:q.1=k
   ·rw[if_pos hk,if_pos (by rw[h.1,hk])];exact⟨h.1,rw'⟩
   ·rw[if_neg hk,if_neg (by rw[h.1];exact λz=>hk (zjq z))];exact h
 ·rename_i hany;clear hany
  induction r with
  |nil=>exact .cons ⟨rfl,rw'⟩ .nil
  |cons h t ih=>exact .cons h ih
theorem RepD.length{kvs:List (List Int×W)}{ps:List (List Key×V)}(r:RepD K H kvs ps):kvs.length=ps.length:=eU r
theorem ziX:∀{ws:List W}{vs:List V}{k:List Int},Reps K H ws vs→zbt ws=ae k→vs=(k.map (Sum.inl:Int→Key)).map kV
 | [],_,_, .nil,e=>by cases e;rfl
 |w::ws,_,k, .cons r rs,e=>by
  cases r with
  |int i=>
   cases q:zbt ws with
   |none=>simp [zbt,q]at e
   |some ks=>
    simp only[zbt,q,gv,bD]at e;subst e;rw[ziX rs q];rfl
  |_=>simp [zbt]at e
theorem zna{w:W}{v:V}{k:List Int}(r:Rep K H w v) (e:zqI w=ae k):∃b,v= .ref b∧H b=ae (.tup ((k.map (Sum.inl:Int→Key)).map kV)):=by
 cases r with
 |tup f hs=>exact⟨_,rfl,by rw[f,ziX hs e]⟩
 |_=>simp [zqI]at e
theorem zvk{S:Sto}{a:Addr}{kvs:List (List Int×W)}{y:V}{wy:W}{k:List Int}(hS:RepS K H S) (e:S a=ae (.dct kvs)) (ry:Rep K H wy y) (ek:zqI wy=ae k):∃o,DGet H a y o∧(zgH kvs k=none→o=none)∧ ∀w,zgH kvs k=ae w→ ∃v,o=ae v∧Rep K H w v:=by
 obtain⟨ps,e1,r⟩:=hS a _ e;obtain⟨b,rfl,eb⟩:=zna ry ek;have rv:=RepD.val r k;exact⟨zog ps (k.map Sum.inl), .t e1 eb,rv.2,rv.1⟩
end
noncomputable def zzR (neg:Bool):W2:=λy x S Q=>match x with
 | .ref a=>match zqI y with
  |some k=>ztn S a λkvs=>Q (.bl (if neg then !(zgH kvs k).isSome else(zgH kvs k).isSome)) S
  |none=>False
 |_=>False
noncomputable def zAV:W2:=λx y S Q=>match x with
 | .ref a=>match zqI y with
  |some k=>ztn S a λkvs=>match zgH kvs k with
   |some w=>Q w S
   |none=>False
  |none=>False
 |_=>False
section
variable {X:Cx}{a b o:Expr}{pos:aB}{ta tb:WE}
noncomputable def zBN (neg:Bool):R2:=λy x H Q=>∃a o,x= .ref a∧DGet H a y o∧Q (.bl (if neg then !o.isSome else o.isSome)) H
theorem zxv (hu:X.A.units+1<cLine):OpR X (bp .In) (zBN false):=by
 intro pins s σ H x y v u Q I rx ry h;obtain⟨a,o,rfl,g,q⟩:=h;cases ry;exact zBW hu I g rx λs3 I3=>⟨.bl o.isSome,H,I3,rfl,q⟩
theorem zvN{K:ak}{neg:Bool}:OpW K (zBN neg) (zzR neg):=λH x y wx wy S Q QW rx ry hS h hQ=>by
 unfold zzR at h;split at h
 ·split at h
  ·rename_i k ek;obtain⟨kvs,ea,h⟩:=zva h;cases ry;obtain⟨o,g,g0,g1⟩:=zvk hS ea rx ek;have eo:o.isSome=(zgH kvs k).isSome:=by
    cases q:zgH kvs k with
    |none=>rw[g0 q];rfl
    |some w=>obtain⟨v,ev,_⟩:=g1 w q;rw[ev];rfl
   exact⟨_,o,rfl,g,by rw[eo];exact hQ _ S _ H .refl (.bl _) hS h⟩
  ·exact h.elim
 ·exact h.elim
theorem zyV{k:Nat}(hr:Room k X.A) (ha:JE X a ta) (hb:JE X b tb) (hm:cW .In b=false:=by with_unfolding_all rfl):JT X (.Compare a [.In] [b] pos) (wTb (wOp (zzR false) ta tb)):=
 zgk (zxv (by have:=hr.units;omega)) zvN ha hb hm
end
section
variable {X:Cx}{o e:Expr}{to:WE}{tl:WL}{apos cpos p pos:aB}
def zut:V→List V→Hp→VK→Prop:=λx vs H Q=>∃z:Str,x= .str z∧vs=[]∧z.length≤5592405∧Q (.str (dD z)) H
theorem ztd:MtR X "str.upper" zut:=by
 intro pins s σ H x vs v us Q I rx rv h;obtain⟨z,rfl,rfl,hz,q⟩:=h;obtain⟨t,rfl⟩:=rx;cases rv;exact SCL.upper hz λ_=>⟨.str (dD z),H,I.tok _,⟨_,rfl⟩,q⟩
noncomputable def zop:WMf:=λw ws S Q=>match w,ws with
 | .str z,[]=>z.length≤5592405∧Q (.str (dD z)) S
 |_,_=>False
theorem zsu{K:ak}:MtW K zut zop:=λH x w vs ws S Q QW r rs hS h hQ=>by
 cases r with
 |str z=>
  cases rs with
  |nil=>exact⟨z,rfl,rfl,h.1,hQ _ S _ H .refl (.str _) hS h.2⟩
  |cons _ _=>exact h.elim
 |_=>exact h.elim
theorem ztw (ho:JE X o to) (hbase:cN o "upper" X.env (ax o X.env)=ax o X.env:=by rfl) (hline:(apos.endLine == cpos.line)=true:=by rfl):JE X (.Call (.Attribute o "upper" apos) [] [] cpos) (wM rvS zop to waNil):=
 zAF jC PySem.F.slot_str_upper PySem.F.type_str_upper zug ztd zsu ho hbase hline
theorem zhE:∀(ns:List Int) (n:Nat),n≤ns.length→fK (λi=>ns.getD i 0) n=(ns.take n).sum
 |ns,0,_=>by simp [fK]
 |ns,n+1,h=>by
  rw[fK,zhE ns n (by omega),iV,List.sum_append];congr 1;rw[bt,aQ (by omega)];simp
theorem zsr (hc:X.calm=true):CallR X (.builtin "sum") (λxs H Q=>∃(p:Addr) (ns:List Int),xs=[.ref p]∧SqL X.K H p (ns.map V.int)∧Q (.int ns.sum) H):=by
 intro pins s σ H xs us Q I r h;obtain⟨p,ns,rfl,hq,q⟩:=h;obtain⟨u,rfl,rx⟩:=ziv r;cases rx;obtain⟨its,r',pl,hz⟩:=I.list hq;have hlen:ns.length=its.length:=by have:=r'.length;rw[aq]at this;exact this
 have hp:p<s.heap.objs.size:=by obtain⟨o,n,e,_⟩:=pl;exact aI e
 have hd:X.A.in1.handled=none:=I.ok.hd hc;have get:∀(i:Nat) (v:Value),its.toArray[i]? =ae v→ ∃t,v= .int (ns.getD i 0) t:=λi v e=>by
  have e':its[i]? =ae v:=by simpa using e
  have hi:i<ns.length:=by rw[hlen];exact(cb.mp e').1
  obtain⟨u,hu,ru⟩:=r'.get (i:=i) (x:= .int (ns.getD i 0)) (by rw[bv,aQ hi,bt,aQ hi];rfl);rw[e']at hu;cases hu;exact ru
 refine call_sum_walkG (dn pl.isList ?_);refine⟨s.heap.objs.size,_,_,_,_,_,λi=>ns.getD i 0,rfl,fJ hd _ p (bu hp) its.toArray,⟨⟨_,bj _ rfl,rfl,rfl⟩,pl.isList.push _⟩,?_,λi v hP=>get i v hP,λh' tk t' hk=>?_⟩
 ·intro b hb;have hsz:∀o:Obj,(s.heap.push o).objs.size=s.heap.objs.size+1:=λo=>cq ..;simp only[av,bw,or_false]at hb;show b<(s.heap.push _).objs.size;rw[hsz];rcases hb with rfl |rfl
  ·exact Nat.lt_succ_self _
  ·exact Nat.lt_succ_of_lt hp
 ·have e:fK (λi=>ns.getD i 0) its.toArray.size=ns.sum:=by
   rw[aP,←hlen,zhE ns _ (au _),iC]
  have I1:Inv X pins σ H { s with heap:=h',toks:=tk }:=I.kept λb o e=>hk b o (λz=>by
   have z':b=s.heap.objs.size:=by simpa using z
   rw[z']at e;exact absurd (aI e) (b5 _)) (aH _ e)
  exact⟨.int _,H,I1,⟨t',by rw[e]⟩,q⟩
noncomputable def zmu:WF:=λws S Q=>match zbt ws with
 |some ns=>Q (.int ns.sum) S
 |none=>False
theorem zfw{K:ak}{H:Hp}:∀{ws:List W}{vs:List V}{ns:List Int},Reps K H ws vs→zbt ws=ae ns→vs=ns.map V.int
 | [],_,_, .nil,e=>by cases e;rfl
 |w::ws,_,ns, .cons r rs,e=>by
  cases r with
  |int i=>
   cases q:zbt ws with
   |none=>simp [zbt,q]at e
   |some ks=>
    simp only[zbt,q,gv,bD]at e;subst e;rw[zfw rs q];rfl
  |_=>simp [zbt]at e
theorem zsb{K:ak}:zoS K (λxs H Q=>∃(p:Addr) (ns:List Int),xs=[.ref p]∧SqL K H p (ns.map V.int)∧Q (.int ns.sum) H) zmu:=λH a vs ws S Q QW ea na r hS h hQ=>by
 unfold zmu at h;split at h
 ·rename_i ns e;have:=zfw r e;subst this;exact⟨a,ns,rfl, .of ea,hQ _ S _ H .refl (.int _) hS h⟩
 ·exact h.elim
theorem zmh (hg:Gl X "sum") (hm:X.mg "sum" =none) (ha:JL X e tl)
  (he:ao [e] X.env=(false,ax e X.env)::ao [] X.env:=by rfl) (hpl:(aS pos (ao [] X.env)).any (·.1)=false:=by rfl) (hcl:X.calm=true:=by rfl):JE X (.Call (.Name "sum" p) [e] [] pos) (wBL zmu tl):=λE hE=>
 zrd (zsr hcl) zsb hg hm PyProof.Rows.boot_sum ha (by decide) (by decide) he hpl E hE
end
theorem zry:iP (.type "list") "keys" =pure none:=by rw[typeLookup_type,builtinLookup_eq_fast];kernel_rfl
theorem zke:entryFor table "dict.update.loop" =ae bZ.«dict.update.loop» :=entryFor_of_tree (by kernel_rfl)
theorem zfJ:plainId "dict.update.loop" =true:=by decide +kernel
section
variable {prog:aF}{w:aC}{A:aM}{E:Value→ag→Prop}{s:ag}
theorem zjI{a:Addr}{o:Obj}{xs:Array Value}{k:Nat}{name:Str}{Q:Option Value→ag→Prop}
  (hx : s.heap.get? a = ae o) (hc : o.cls = .type "list") (hdat : o.data = .seq xs k) (hd : o.dict = none) (hmiss : iP (.type "list") name = pure none) (hname : (["__module__", "__name__", "__qualname__", "__doc__", "__annotations__"] : List Str).contains name = false) (hA : A.handled = none)
  (h:∀h' tk,(∀b o,s.heap.get? b=ae o→h'.get? b=ae o)→Q none { s with heap:=h',toks:=tk }) (hsz:name.length+100≤sizeLine:=by size_fits) :
  am (ap prog w) A (getAttr? (.ref a) name) Q E s:=by
 obtain⟨c,dct,dat,sl⟩:=o;simp only at hc hdat hd;subst hc hdat hd;obtain⟨hp,g,d,tk,os⟩:=s;have hT:∀tk',(⟨hp,g,d,tk',os⟩:ag).TypeIs (.ref a) "list" :=λ_=>⟨_,hx,rfl⟩;have f1:=sub_AttributeError;have f3:=hZ.lookup;have f4:=hZ.bind (.ref a);have f5:=am_list_getattr_none;unfold getAttr? getAttrBy? getAttrBy
 repeat (any_goals (first |assumption |exact hT _ | ((with_reducible show am _ _ (call (Value.builtin "list.__getattribute__") _ _) _ _ _);refine ef hZ (hT _) am_entry_list_getattribute (F.args_list_getattribute_2 _ _) (meets_getattribute_miss_list a xs k sl name _ hmiss hname hsz) ⟨hx,hA,λh' tk' e hx'=>?_⟩) |wp_step))
 obtain⟨t',u',he⟩:=hx'.there;have hTe:∀tk',(⟨h',g,d,tk',os⟩:ag).TypeIs (.ref e) "AttributeError" :=λ_=>⟨_,he,rfl⟩;show am _ _ (jM _ _ _ _ _ _ _) _ _ _;unfold jM
 repeat (any_goals (first |assumption |exact hTe _ |wp_step))
 exact h h' tk' hx'.keeps
end
section
variable {prog:aF}{w:aC}{A:aM}{R:fI→ag→Prop}{I l d:Addr}{items:Array Value}
noncomputable def zwL (xs:List (List Key×Addr×Value)) (ps:List (List Key×Addr)):List (List Key×Addr×Value):=ps.foldl (λxs p=>fh xs p.1 p.2 (.bool true)) xs
theorem zpf (hu:(ci (zbw prog w)).room A.in1) (hh:A.in1.handled=none) (hne:l≠I) (hdI:d≠I) (hdl:d≠l) (h0:Heap) (hd0:h0.get? d=none) (hI0:h0.get? I=none) (ps:List (List Key×Addr)) (hps:ps.length=items.size)
  (hp:∀(i:Nat) (p:List Key×Addr) (v:Value),ps[i]? =ae p→items[i]? =ae v→ ∃(t:Addr) (o:Obj) (n:Nat),v= .ref t∧h0.get? t=ae o∧o.cls= .type "tuple" ∧o.data= .seq #[.ref p.2, .bool true] n)
  (hk:∀p∈ps,(ci (zbw prog w)).is h0 p.1 p.2) :
  ∀(k i:Nat) (s:ag) (xs:List (List Key×Addr×Value)),items.size - i=k→i≤items.size→s.heap.IsListIter I l i→s.heap.IsList l items→(∀b o,h0.get? b=ae o→s.heap.get? b=ae o)→s.heap.DictOfH (ci (zbw prog w)) d xs→xs.length+(items.size - i)≤sizeLine→
  (∀h' tk,(∀b o,h0.get? b=ae o→h'.get? b=ae o)→h'.DictOfH (ci (zbw prog w)) d (zwL xs (ps.drop i))→R (.ok (.ret .none)) { s with heap:=h',toks:=tk })→
  cM (ap prog w) A (.builtin "dict.update.loop" ⟨[.ref d, .ref I,ce i, .none],[]⟩) R s:=by
 have W:=fJ (prog:=prog) (w:=w) (A:=A.in1) hh I l hne items;intro k
 induction k with
 |zero=>
  intro i s xs hki hi hit hl hold hd hsz hR;have hin:i=items.size:=by omega
  subst hin;refine eP zke ?_;rw[eR zfJ _];show am _ A.in1 (bM (.ref I) >>= _) _ _ s;refine ai (W.done s _ _ ⟨hit,hl⟩ λh' tk hk'=>?_);have hd':h'.DictOfH (ci (zbw prog w)) d xs:=by
   obtain⟨q,es,ep,q1,q2,q3,q4,q5,q6⟩:=hd;refine⟨q,es,ep,hk' d q (λz=>hdI (bg.mp z)) q1,q2,q3,q4,λx hx=>?_,q6⟩;obtain⟨ob,its,m,k1,k2,k3,k4⟩:=q5 x hx;refine⟨ob,its,m,hk' _ _ (λz=>?_) k1,k2,k3,k4⟩;obtain⟨oi,hi1,hi2,_⟩:=hit;rw[bg.mp z,hi1]at k1;cases k1;rw[k2]at hi2;exact absurd hi2 (by decide)
  show am _ A.in1 (bZ.Dict.addKeywords d [] >>= _) _ _ _;refine ai (aD (aD (hR h' tk (λb o e=>hk' b o (λz=>by rw[bg.mp z,hI0]at e;cases e) (hold b o e)) ?_)))
  rw[dB (by omega)];exact hd'
 |succ k ih=>
  intro i s xs hki hi hit hl hold hd hsz hR;have hlt:i<items.size:=by omega
  refine eP zke ?_;rw[eR zfJ _];show am _ A.in1 (bM (.ref I) >>= _) _ _ s;refine ai (W.item i s _ _ hlt ⟨hit,hl⟩ λv h' tk hP hst' hk'=>?_);obtain⟨p,hpi⟩:∃p,ps[i]? =ae p:=⟨ps[i],aQ (by omega)⟩;obtain⟨t,o,n,rfl,ho,hc,hdat⟩:=hp i p v hpi hP;have ho':=hk' t o (λz=>by rw[bg.mp z]at ho;rw[hI0]at ho;cases ho) (hold t o ho)
  have hkey:(ci (zbw prog w)).is h' p.1 p.2:=by
   obtain⟨ob,its,m,k1,k2,k3,k4⟩:=hk p (bE hpi);exact⟨ob,its,m,hk' _ _ (λz=>by rw[bg.mp z]at k1;rw[hI0]at k1;cases k1) (hold _ _ k1),k2,k3,k4⟩
  have hd':h'.DictOfH (ci (zbw prog w)) d xs:=by
   obtain⟨q,es,ep,q1,q2,q3,q4,q5,q6⟩:=hd;refine⟨q,es,ep,hk' d q (λz=>hdI (bg.mp z)) q1,q2,q3,q4,λx hx=>?_,q6⟩;obtain⟨ob,its,m,k1,k2,k3,k4⟩:=q5 x hx;refine⟨ob,its,m,hk' _ _ (λz=>?_) k1,k2,k3,k4⟩;obtain⟨oi,hi1,hi2,_⟩:=hit;rw[bg.mp z,hi1]at k1;cases k1;rw[k2]at hi2;exact absurd hi2 (by decide)
  show am _ A.in1 (holding [.ref t] _ >>= _) _ _ _;refine ai (eJ ?_);refine ai (dQ ?_);unfold bZ.Dict.pairItems;refine ai (eN (T:= "tuple") ⟨o,ho',hc⟩ ?_);rw[if_pos (by decide)];refine ai (b_ ho' hdat ?_);refine aD ?_;show am _ A.in1 (holding [.ref p.2, .bool true] (dictSet d (.ref p.2) (.bool true))) _ _ _;refine eJ (wpAny_dictSet_heap (hsz:=by omega) hu hkey hd' λh2 hd2 hs2=>?_)
  refine aD ⟨eG zfJ _,?_⟩;have ei:((i:Int)+1)=((i+1:Nat):Int):=by omega
  rw[ei];have hln:(fh xs p.1 p.2 (eL true)).length≤xs.length+1:=by
   unfold fh;split<;>simp
  have hst2:=W.frame (i+1) h' h2 hst' λb hb o e=>by
   have hbd:b≠d:=by
    rcases av.mp hb with z |z
    ·rw[z];exact br hdI
    ·rw[bg.mp z];exact br hdl
   exact(hs2.2 b hbd).trans e
  refine ih (i+1) _ _ (by omega) (by omega) hst2.1 hst2.2 (λb o e=>?_) hd2 (by omega) λh3 tk3 old3 hd3=>?_
  ·have hbd:b≠d:=λz=>by rw[z,hd0]at e;cases e
   have hbI:b∉ [I]:=λz=>by rw[bg.mp z,hI0]at e;cases e
   exact(hs2.2 b hbd).trans (hk' b o hbI (hold b o e))
  ·refine hR h3 tk3 old3 ?_;have ed:ps.drop i=p::ps.drop (i+1):=by
    have hi':i<ps.length:=by omega
    rw[fi hi'];rw[aQ hi']at hpi;cases hpi;rfl
   rw[ed];exact hd3
end
section
variable {X:Cx}{e:Expr}{p pos:aB}{tl:WL}
def zoy (H:Hp) (q:List Key) (v:V):Prop:=∃t b,v= .ref t∧H t=ae (.tup [.ref b, .bl true])∧H b=ae (.tup (q.map kV))
noncomputable def zoL (qs:List (List Key)):List (List Key×V):=qs.foldl (λkvs q=>zqa kvs q (.bl true)) []
theorem zjX:∀(qs:List (List Key)) (kvs:List (List Key×V)),(qs.foldl (λkvs q=>zqa kvs q (V.bl true)) kvs).length≤kvs.length+qs.length
 | [],kvs=>by simp
 |q::qs,kvs=>by
  have h1:=zlI kvs q (V.bl true);have h2:=zjX qs (zqa kvs q (.bl true));rw[d5,aW];omega
theorem KT.fold{H:Hp}:∀(ps:List (List Key×Addr)) {kvs:List (List Key×V)}{xs:List (List Key×Addr×Value)},KT H kvs xs→(∀p∈ps,H p.2=ae (.tup (p.1.map kV)))→KT H ((ps.map λp=>p.1).foldl (λkvs q=>zqa kvs q (.bl true)) kvs) (zwL xs ps)
 | [],_,_,r,_=>r
 |p::ps,kvs,xs,r,h=>by
  rw[az,d5];exact KT.fold ps (r.put p.1 (h p aO) rfl) λp' hp'=>h p' (aG _ hp')
theorem znb{P:aF}{w:aC}{H:Hp}{h:Heap}(ok:HOk P w H h):∀{qs:List (List Key)}{vs:List V}{its:List Value},aL (zoy H) qs vs→Vals vs its→ ∃ps:List (List Key×Addr),(ps.map λp=>p.1)=qs∧
  (∀(i:Nat) (p:List Key×Addr) (v:Value),ps[i]? =ae p→its[i]? =ae v→ ∃(t:Addr) (o:Obj) (n:Nat),v= .ref t∧h.get? t=ae o∧o.cls= .type "tuple" ∧o.data= .seq #[.ref p.2, .bool true] n)∧ ∀p∈ps,H p.2=ae (.tup (p.1.map kV))
 |_,_,_, .nil, .nil=>⟨[],rfl,(λi p v h=>by simp at h),λ_ h=>nomatch h⟩
 |_,_,_, .cons (a:=q) hq hs, .cons hv hvs=>by
  obtain⟨ps,e,h1,h2⟩:=znb ok hs hvs;obtain⟨t,b,rfl,ht,hb⟩:=hq;refine⟨(q,b)::ps,by rw[az,e],λi p v hp hv'=>?_,λp hp=>?_⟩
  ·cases i with
   |zero=>
    simp only[jm,bD]at hp hv';subst hp hv';obtain⟨_,its,r,o,g1,g2,n,g3⟩:=(show ObjOk P w H h t (.tup [.ref b, .bl true]) from ok t _ ht);cases r with
    |cons r1 r2=>
     cases r2 with
     |cons r3 r4=>
      cases r4;cases r1;cases r3;exact⟨t,o,n,hv,g1,g2,by simpa using g3⟩
   |succ i=>
    simp only[d_]at hp hv';exact h1 i p v hp hv'
  ·rcases av.mp hp with rfl |hp
   ·exact hb
   ·exact h2 p hp
theorem zoQ (hc:X.calm=true) (hu:X.A.units+2<cLine):CallR X (.type "dict") (λxs H Q=>∃(l:Addr) (vs:List V) (qs:List (List Key)),xs=[.ref l]∧SqL X.K H l vs∧aL (zoy H) qs vs∧qs.length≤sizeLine∧ ∀d,H d=none→Q (.ref d) (upd H d (.dT (zoL qs)))):=by
 intro pins s σ H xs us Q I r h;obtain⟨l,vs,qs,rfl,hq,hp,hlen,q⟩:=h;obtain⟨u,rfl,rx⟩:=ziv r;cases rx;obtain⟨its,r',pl,hz⟩:=I.list hq;have hd:X.A.in1.handled=none:=I.ok.hd hc;have hl:l<s.heap.objs.size:=by obtain⟨o,n,e,_⟩:=pl;exact aI e
 refine callType_codes (Q₁:=λobj s₁=>obj= .ref s.heap.objs.size∧s₁={ s with heap:=s.heap.push { cls:= .type "dict",data:= .dict #[] } }) F.kt_called_dict (F.kt_typeCall_dict_1 _) F.entry_dict_init (kt_code_dict_new _ ⟨rfl,rfl⟩) ?_;rintro obj s₁ ⟨rfl,rfl⟩;have hT:({ s with heap:=s.heap.push { cls:= .type "dict",data:= .dict #[] } }:ag).TypeIs (.ref s.heap.objs.size) "dict" :=⟨_,bj _ rfl,rfl⟩;refine⟨hT,F.args_dict_init_2 _ _,?_⟩;unfold bZ.«dict.__init__»;refine ai ?_;unfold bZ.Dict.selfAndRest;refine ai (wpAny_notOrdered_dict hT ?_);show am _ _ (pure (s.heap.objs.size,[bx l])) _ _ _;refine aD ?_;show am _ _ (i3 "dict.__init__" s.heap.objs.size (.ref l) [] .none) _ _ _;unfold i3;obtain⟨ol,nl,hol,hcl,hdl,hnl⟩:=pl;have hol1:=aH { cls:= .type "dict",data:= .dict #[] } hol;obtain⟨ps,eqs,hps,hks⟩:=znb I.hok hp r';have hplen:ps.length=its.toArray.size:=by
  have h1:=congrArg dL eqs;have h2:=eU hp;have h3:=r'.length;rw[aq]at h1;rw[aP];omega
 refine ai (eN (T:= "list") ⟨ol,hol1,hcl⟩ ?_);dsimp only;rw[if_pos (by decide)];refine ai (zjI hol1 hcl hnl hdl zry (by decide +kernel) hd λh1 tk1 kp1=>?_);rw[if_pos (show(none:Option Value).isNone=true from rfl)];refine ai (dg ?_);have hl1:h1.IsList l its.toArray:=⟨ol,kp1 _ _ hol1,hcl,nl,hnl⟩;refine ai (dn hl1 ?_);refine aD ⟨eG zfJ _,?_⟩;have hd1:h1.get? s.heap.objs.size=ae { cls:= .type "dict",data:= .dict #[] }:=kp1 _ _ (bj _ rfl);have hdlt:=aI hd1;have hI0:s.heap.get? h1.objs.size=none:=by
  cases z:s.heap.get? h1.objs.size with
  |none=>rfl
  |some ob=>exact absurd (aI (kp1 _ _ (aH _ z))) (b5 _)
 have hd0:s.heap.get? s.heap.objs.size=none:=by
  cases z:s.heap.get? s.heap.objs.size with
  |none=>rfl
  |some ob=>exact absurd (aI z) (b5 _)
 refine zpf (A:=X.A.in1) (I:=h1.objs.size) (l:=l) (d:=s.heap.objs.size) (items:=its.toArray) ?_ hd (bu (Nat.lt_trans hl hdlt)) (bu hdlt) (cF hl) s.heap hd0 hI0 ps hplen (λi p v h1 h2=>hps i p v h1 (by simpa using h2)) (λp hp=>zrH I.hok (hks p hp)) _ 0 _ [] rfl (aZ _) ?_ ?_ ?_ ?_ ?_ λh' tk' old' hd'=>?_
 ·exact jr (A:=X.A.in1) (show X.A.in1.units+1<cLine from by have:X.A.in1.units=X.A.units+1:=rfl;omega)
 ·exact⟨_,bj _ rfl,rfl,rfl⟩
 ·exact hl1.push _
 ·exact λb o e=>aH _ (kp1 _ _ (aH _ e))
 ·refine⟨_, #[],0,aH _ hd1,?_,rfl,rfl,(λx hx=>nomatch hx),List.nodup_nil⟩
  first |exact⟨rfl,rfl⟩ |exact rfl |exact .inl rfl | (unfold Obj.ExactDict;simp)
 ·rw[d6,←hplen];have h1:=congrArg dL eqs;rw[aq]at h1;omega
 ·rw[c6]at hd';obtain⟨o',es,ep,g1,g2,g3,g4,g5,g6⟩:=hd';have hl0:=zjX qs [];have kt:KT H (zoL qs) (zwL [] ps):=by
   have:=KT.fold ps (show KT H [] [] from .nil) hks;rw[eqs]at this;exact this
  refine⟨rfl, .ref s.heap.objs.size,_,I.laid (t':=tk') (o:= .dT (zoL qs)) old' (au _) ⟨?_,?_,_,kt.keeps λb ys eb=>?_,o',es,ep,g1,g2,g3,g4,g6⟩,rfl,q _ (I.hok.fresh (au _))⟩
  ·simp only[d6,cL]at hl0;exact bi hl0 hlen
  ·have:=I.big;exact beq_eq_false_iff_ne.mpr (cF this)
  ·rw[zax (zat eb (I.hok.fresh (au _)))];exact eb
noncomputable def zfc:List W→Option (List (List Int))
 | []=>ae []
 | .tup [k, .bl true]::ws=>match zqI k,zfc ws with
  |some q,ae qs=>ae (q::qs)
  |_,_=>none
 |_=>none
noncomputable def ziq (qs:List (List Int)):List (List Int×W):=qs.foldl (λkvs k=>zvf kvs k (.bl true)) []
noncomputable def zkC:WF:=λws S Q=>match zfc ws with
 |some qs=>qs.length≤1000000∧ ∀a,S a=none→Q (.ref a) (put S a (.dct (ziq qs)))
 |none=>False
theorem zlm{K:ak}{H:Hp}:∀{ws:List W}{vs:List V}{qs:List (List Int)},Reps K H ws vs→zfc ws=ae qs→aL (zoy H) (qs.map λq=>q.map Sum.inl) vs
 | [],_,_, .nil,e=>by
  simp only[zfc,bD]at e;subst e;exact .nil
 |w::ws,_,qs, .cons r rs,e=>by
  cases w with
  |tup us=>
   rcases us with _ |⟨k,_ |⟨b,_ |⟨x,us⟩⟩⟩
   ·simp [zfc]at e
   ·simp [zfc]at e
   ·cases b with
    |bl b=>
     cases b with
     |true=>
      simp only[zfc]at e;cases e1:zqI k with
      |none=>rw[e1]at e;simp at e
      |some q=>
       cases e2:zfc ws with
       |none=>rw[e1,e2]at e;simp at e
       |some qs'=>
        rw[e1,e2]at e;simp only[bD]at e;subst e;cases r with
        | @tup t vs' _ ft hs=>
         cases hs with
         |cons r1 r2=>
          cases r2 with
          |cons r3 r4=>
           cases r4;cases r3;obtain⟨b,rfl,eb⟩:=zna r1 e1;exact .cons ⟨t,b,rfl,ft,eb⟩ (zlm rs e2)
     |false=>simp [zfc]at e
    |_=>simp [zfc]at e
   ·cases b<;>simp [zfc]at e
  |_=>simp [zfc]at e
theorem zla{K:ak}{H:Hp}:∀(qs:List (List Int)) {kvs:List (List Int×W)}{ps:List (List Key×V)},RepD K H kvs ps→RepD K H (qs.foldl (λkvs k=>zvf kvs k (.bl true)) kvs) ((qs.map λq=>q.map Sum.inl).foldl (λkvs q=>zqa kvs q (.bl true)) ps)
 | [],_,_,r=>r
 |q::qs,_,_,r=>by
  rw[az,d5,d5];exact zla qs (r.put q (.bl true))
theorem zpo{K:ak}:zoS K (λxs H Q=>∃(l:Addr) (vs:List V) (qs:List (List Key)),xs=[.ref l]∧SqL K H l vs∧aL (zoy H) qs vs∧qs.length≤sizeLine∧ ∀d,H d=none→Q (.ref d) (upd H d (.dT (zoL qs)))) zkC:=λH a vs ws S Q QW ea na r hS h hQ=>by
 unfold zkC at h;split at h
 ·rename_i qs e;have hp:=zlm r e;refine⟨a,vs,_,rfl, .of ea,hp,?_,λd hd=>?_⟩
  ·rw[aq,dv];omega
  ·have rd:RepD K H (ziq qs) (zoL (qs.map λq=>q.map Sum.inl)):=zla qs (show RepD K H [] [] from .nil);have x:Ext H S (upd H d (.dT (zoL (qs.map λq=>q.map Sum.inl)))) (put S d (.dct (ziq qs))):= .newS hd;refine hQ (.ref d) (put S d (.dct (ziq qs))) (.ref d) _ x (.ref d) (λb o q=>?_) (h.2 d (hS.free hd));by_cases hb:b=d
   ·subst hb;rw[zah]at q;cases q;exact⟨_,zay,Paired.mapP rd λ_ _ z=>⟨z.1,z.2.ext x⟩⟩
   ·rw[zaG hb]at q;exact hS.new hd b o q
 ·exact h.elim
theorem zta{k:Nat}(hr:Room k X.A) (hg:Gl X "dict") (hm:X.mg "dict" =none) (ha:JL X e tl)
  (he:ao [e] X.env=(false,ax e X.env)::ao [] X.env:=by rfl) (hpl:(aS pos (ao [] X.env)).any (·.1)=false:=by rfl) (hcl:X.calm=true:=by rfl):JE X (.Call (.Name "dict" p) [e] [] pos) (wBL zkC tl):=λE hE=>
 zux (zoQ hcl (by have:=hr.units;omega)) zpo hg hm PyProof.Rows.boot_dict ha (by decide) (by decide) he hpl E hE
theorem _root_.pz{a b:Prop}(h:a→b) (g:b→a):a=b:=propext ⟨h,g⟩
theorem zsY{ws:List W}{S:Sto}{Q:WK}:(zkC ws S Q)=(match zfc ws with
 |some qs=>qs.length≤1000000∧ ∀a,S a=none→Q (.ref a) (put S a (.dct (ziq qs)))
 |none=>False):=pz id id
theorem zle:∀ps:List (List Int),zfc (ps.map λp=>W.tup [.tup (p.map W.int), .bl true])=ae ps
 | []=>rfl
 |p::ps=>by
  have e:zqI (.tup (p.map W.int))=ae p:=by
   show zbt (p.map W.int)=ae p
   induction p with
   |nil=>rfl
   |cons i p ih=>rw[az,zbt,ih];rfl
  rw[az,zfc,e,zle ps]
theorem zud (kvs:List (List Int×W)) (q k:List Int) (v:W):(zgH (zvf kvs q v) k).isSome=(decide (k=q) || (zgH kvs k).isSome):=by
 have e:∀kvs:List (List Int×W),(zgH kvs k).isSome=kvs.any λkv=>decide (kv.1=k):=λkvs=>by
  unfold zgH;rw[gY]
  induction kvs with
  |nil=>rfl
  |cons a kvs ih=>
   rw[bW,eA];cases decide (a.1=k) with
   |true=>rfl
   |false=>simpa using ih
 rw[e,e];unfold zvf;split
 ·rename_i h;have:(kvs.map λkv=>if kv.1=q then(kv.1,v) else kv).any (λkv=>decide (kv.1=k))=kvs.any λkv=>decide (kv.1=k):=by
   rw[List.any_map];congr 1;funext kv;simp only[i6];split<;>rfl
  rw[this];by_cases hk:k=q
  ·subst hk;rw[h];simp
  ·rw[decide_eq_false hk,jL]
 ·rw[List.any_append];simp only[eA,List.any_nil,jh];rw[Bool.or_comm];congr 1;apply decide_eq_decide.mpr;exact eq_comm
theorem znl:∀(qs:List (List Int)) (kvs:List (List Int×W)) (k:List Int),(zgH (qs.foldl (λkvs k=>zvf kvs k (.bl true)) kvs) k).isSome=(decide (k∈qs) || (zgH kvs k).isSome)
 | [],kvs,k=>by simp
 |q::qs,kvs,k=>by
  rw[d5,znl qs,zud,←Bool.or_assoc];congr 1;rw[fA];simp only[ki,decide_eq_true_eq,av];exact or_comm
theorem zky (qs:List (List Int)) (k:List Int):(zgH (ziq qs) k).isSome=decide (k∈qs):=by
 unfold ziq;rw[znl];simp [zgH]
end
end L2
end
section
namespace L2
open PySem PySem.Spec PyProof.Rows PySem.W PySem.Calls Builtin Builtin.ObjectAttr Builtin.Getset_descriptor
structure XcOk (K:Frag) (C:Addr):Prop where
  ga:findIn K (.ref C) "__getattribute__" =ae (ae (.builtin "BaseException.__getattribute__"))
  gt:findIn K (.ref C) "__getattr__" =ae none
  cl:findIn K (.ref C) "__class__" =ae (ae (.builtin "object.__class__"))
  ob:mroIn K C (.type "object")=ae true
  be:mroIn K C (.type "BaseException")=ae true
section
variable {h:Heap}{a C:Addr}{o:Obj}
theorem zBp{M:dX}(hx:h.get? a=ae o) (hc:o.cls= .ref C):Looks M h (eD (.ref a)) (.ref C):=hc▸(Looks.ld hx).andThen .now
end
noncomputable abbrev bmV:List Value:=[.type "ValueError", .type "Exception", .type "BaseException", .type "object"]
structure XcIn (K:ak) (x:Str) (C:Addr):Prop where
  nm:aT K aK x=ae (ae (.ref C))
  ex:eB K C bmV "ValueError.__new__" =true
  xc:XcOk K C
theorem XcIn.own{K:ak}{x:Str}{C:Addr}{h:Heap}{mg:Str→Option Value}(O:XcIn K x C) (X:K.In h) (G:h.Ns aK mg):OwnCls x C bmV "ValueError.__new__" mg h:=by
 have q:=O.ex;refine⟨a_ X G O.nm,?_⟩;unfold eB at q;split at q
 ·rename_i dd cd sl ho;split at q
  ·rename_i C' bm k0 k1 k2 k3 n k5 hm hs;simp only[bO,beq_iff_eq,Bool.not_eq_true']at q;obtain⟨⟨⟨⟨⟨rfl,hnn⟩,hdel⟩,ht⟩,hok⟩,hni⟩:=q;obtain⟨nm,bs,mro,ns,qn,hd,sn,sub,ab,col,del⟩:=cd;dsimp only at hm hdel hok hni;subst hm hdel;have hsl:sl= #[k0,k1,k2,k3,ae (.builtin n),k5]:=by
    obtain⟨l⟩:=sl;simp only at hs;rw[hs]
   subst hsl;subst hnn;exact⟨bm,ns,nm,qn,bs,hd,sn,sub,ab,col,dd,k0,k1,k2,k3,k5,_,X _ _ ho, .of_isNs (PySem.W.isNs_of_in X hok),PySem.W.nsMap_none_of_in X hok hni,PySem.W.tail_of_in X ht⟩
  ·cases q
 ·cases q
noncomputable def zhU (x:Str) (t:WA):WS:=λE _ σ S=>t E σ S λws S1=>ws.length≤sizeLine∧E x σ S1
theorem zgg{X:Cx}{x:Str}{C:Addr}{e:Expr}{es:List Expr}{t:WA}{np cpos pos:aB}(O:XcIn X.K x C) (hg:Gl X x) (hm:X.mg x=ae (.ref C)) (ha:JA X (e::es) t) (hcl:X.calm=true:=by rfl) (hdb:(x == ("__debug__" :Str))=false:=by decide)
  (he:ao (e::es) X.env=(false,ax e X.env)::ao es X.env:=by rfl) (hpl:(aS cpos (ao es X.env)).any (·.1)=false:=by rfl) :
  JS X (.Raise (ae (.Call (.Name x np) (e::es) [] cpos)) none pos) (zhU x t):=λE hE pins s σ H D I z=>by
 obtain⟨σW,S,DW,hσ,hS,ht,hD⟩:=z;have OC:=(O.own I.mod.kin I.mod.glob).keeps I.bk;obtain⟨tl,N,nm,q,bs,hdct,sn,sub,ab,col,dd,k0,k1,k2,k3,k5,mN,hC,hN,hni,T⟩:=(O.own I.mod.kin I.mod.glob).obj;refine wpAny_Raise_call_subT (C:=C) (nm:=nm) (q:=q) (N:=N) (bs:=bs) (bm:=tl) (hdct:=hdct) (sn:=sn) (sub:=sub) (ab:=ab) (col:=col) (dd:=dd) (k0:=k0) (k1:=k1) (k2:=k2) (k3:=k3) (k5:=k5)
  iS (mN:=mN) (T.hasType iS.hasBase) (I.ok.hd hcl) (by rw[he];show(false || (aS cpos (ao es X.env)).any (·.1))=false;rw[hpl];rfl) hni (zhx I hg hm ⟨rfl,?_⟩ hdb)
 have go:=ha E hE cpos pins s σ H (λvs H1=>∃ws S1,Reps X.K H1 ws vs∧RpSt X.K H1 σW σ∧RepS X.K H1 S1∧ws.length≤sizeLine∧E x σW S1) I ⟨σW,S,_,hσ,hS,ht,λws S1 vs H1 e1 r1 hS1 h1=>⟨ws,S1,r1,hσ.ext e1,hS1,h1.1,h1.2⟩⟩;rw[he]at go⊢;refine i7 (bX go (λus s2 ⟨vs,H1,I1,r,ws,S1,r1,hσ1,hS1,hl,h1⟩=>?_) λ_ _ y=>y);refine⟨rfl,by rw[←r.length,←r1.length];exact hl,I1.bk _ _ hC,hN.keeps I1.bk,T.keeps I1.bk,λh' a me=>?_⟩
 exact hE.near pins σ H1 s2 σW x C a S1 h' us I1 hσ1 O.nm me hS1 h1
noncomputable abbrev noX:WX:=λ_ _ _=>False
theorem zxL{X:Cx}(h:cJ (ap X.prog X.w) X.A X.env X.xe):Hook X noX:=⟨h,λ_ _ _ _ _ _ _ _ _ _ _ _ _ _ _ _ _ _ _ _ z=>z.elim,λ_ _ _ _ _ _ _ _ _ _ _ _ _ _ _ _ z=>z.elim⟩
noncomputable abbrev Cx.at (X:Cx) (pn:List (Addr×Obj)) (E:Value→ag→Prop):Cx:={ X with pn:=pn,xe:=E }
section
variable {X:Cx}{pins pins':List (Addr×Obj)}{σ:St}{H:Hp}{s:ag}{E:Value→ag→Prop}
theorem Cx.Ok.at (ok:X.Ok) (pn:List (Addr×Obj)) (E:Value→ag→Prop):(X.at pn E).Ok:=
 ⟨ok.mod,ok.kind,ok.glob,ok.blt,ok.above,ok.inj,ok.has,ok.cab,ok.hd,ok.frames,ok.stk,ok.exf,ok.bs,ok.bsz,ok.noex,ok.exfs,ok.funs,ok.frf⟩
theorem Cx.Ok.unat{pn:List (Addr×Obj)}(ok:(X.at pn E).Ok):X.Ok:=
 ⟨ok.mod,ok.kind,ok.glob,ok.blt,ok.above,ok.inj,ok.has,ok.cab,ok.hd,ok.frames,ok.stk,ok.exf,ok.bs,ok.bsz,ok.noex,ok.exfs,ok.funs,ok.frf⟩
theorem Inv.at (I:Inv X pins σ H s) (E:Value→ag→Prop):Inv (X.at (X.pn++pins) E) [] σ H s:=⟨I.ok.at _ E,I.os,I.bare,I.base,I.loc,I.cell,I.free,I.freeC,λp hp=>I.pin p (by simpa using hp),I.hok,I.len⟩
theorem Inv.unat (I:Inv (X.at (X.pn++pins) E) pins' σ H s):Inv X pins σ H s:=⟨I.ok.unat,I.os,I.bare,I.base,I.loc,I.cell,I.free,I.freeC,λp hp=>I.pin p (eZ _ hp),I.hok,I.len⟩
theorem SP.unat{D:Ends}{f:Flow}{s':ag}(h:SP (X.at (X.pn++pins) E) [] D f s'):SP X pins D f s':=by
 cases f with
 |next=>obtain⟨σ',H',I,q⟩:=h;exact⟨σ',H',I.unat,q⟩
 |brk=>obtain⟨σ',H',I,q⟩:=h;exact⟨σ',H',I.unat,q⟩
 |cont=>obtain⟨σ',H',I,q⟩:=h;exact⟨σ',H',I.unat,q⟩
 |ret u=>obtain⟨v,σ',H',I,r,q⟩:=h;exact⟨v,σ',H',I.unat,r,q⟩
end
def zyv (X:Cx) (pins:List (Addr×Obj)) (σ:St) (σW:WSt) (H:Hp) (S:Sto) (E:WX) (e:Value) (s':ag):Prop:=∃(cl:Str) (C a:Addr) (H1:Hp) (s1:ag) (H':Hp) (S':Sto),e= .ref a∧aT X.K aK cl=ae (ae (.ref C))∧Inv X pins σ H1 s1∧
 s'.os=s1.os∧bP s'.gens∧Un (frs X.stack) [] H1 H' s1.heap s'.heap∧HOk X.prog X.w H' s'.heap∧Fly s1.heap s'.heap H' a C∧Ext H S H' S'∧RepS X.K H' S'∧E cl σW S'
noncomputable def zAA (X:Cx) (E:WX) (t:WE):TE:=λσ H Q=>∃σW S QW,RpSt X.K H σW σ∧RepS X.K H S∧t E σW S QW∧Wish X.K H S QW Q∧ ∀pins e s',zyv X pins σ σW H S E e s'→X.xe e s'
noncomputable def zuF (X:Cx) (E:WX) (t:WS):TS:=λD σ H=>∃σW S DW,RpSt X.K H σW σ∧RepS X.K H S∧t E DW σW S∧Meets X.K H S DW D∧ ∀pins e s',zyv X pins σ σW H S E e s'→X.xe e s'
def JXE (X:Cx) (e:Expr) (t:WE):Prop:=∀E,cJ (ap X.prog X.w) X.A X.env X.xe→PE X e (zAA X E t)
def JXS (X:Cx) (st:Stmt) (t:WS):Prop:=∀E,cJ (ap X.prog X.w) X.A X.env X.xe→PS X st (zuF X E t)
def JXs (X:Cx) (st:List Stmt) (t:WS):Prop:=∀E,cJ (ap X.prog X.w) X.A X.env X.xe→PSs X st (zuF X E t)
noncomputable def zol (c:WSp) (t:WA):WE:=λE σ S Q=>t noX σ S λws S1=>c ws S1 Q λcl S2=>E cl σ S2
section
variable {X:Cx}{k:Nat}{f:Addr}{fd:bF}{ps:List Str}{c:WSp}{x:Str}{p pos:aB}{e:Expr}{es:List Expr}{t:WA}{te:WE}{st:Stmt}{a:List Stmt}{ta:WS}
theorem zrA (F:FnOk X.prog X.w X.K X.mg X.base (CX1 X.prog X.w) k f fd ps (zdh X.K c)) (hr:Room k X.A) (hg:Gl X x) (hm:X.mg x=ae (.ref f)) (hk:dW X.K (.ref f)=true) (hb:Binds X.K fd ps [])
  (ha:JA X (e::es) t) (hdb:(x == ("__debug__" :Str))=false:=by decide) (he:ao (e::es) X.env=(false,ax e X.env)::ao es X.env:=by rfl) (hpl:(aS pos (ao es X.env)).any (·.1)=false:=by rfl) :
  JXE X (.Call (.Name x p) (e::es) [] pos) (zol c t):=λE hp pins s σ H Q I h=>by
 obtain⟨σW,S,QW,hσ,hS,ht,hQ,hF⟩:=h;refine fG (zhx I hg hm ?_ hdb);refine jS (h₀:=X.base) I.ok.mod.kin hk (thn (ha noX (zxL hp) pos pins s σ H (λvs H1=>∃ws S1,Reps X.K H1 ws vs∧RpSt X.K H1 σW σ∧RepS X.K H1 S1∧c ws S1 QW (λcl S'=>E cl σW S')∧Wish X.K H1 S1 QW Q∧Ext H S H1 S1) I
  ⟨σW,S,_,hσ,hS,ht,λws S1 vs H1 e1 r1 hS1 h1=>⟨ws,S1,r1,hσ.ext e1,hS1,h1,hQ.from e1,e1⟩⟩) λus s1 ⟨vs,H1,I1,r,ws,S1,r1,hσ1,hS1,h1,hQ1,e1⟩=>⟨I1.kIn,?_⟩) he hpl
 exact zxR (E:=E) F hr hb I1 r r1 hσ1 hS1 h1 hQ1 λcl C a H' S' s' hn os bare un ok fly ex hS' q=>hF pins _ s' ⟨cl,C,a,H1,s1,H',S',rfl,hn,I1,os,bare,un,ok,fly,e1.trans ex,hS',q⟩
theorem zuG{i:Nat}{pos':aB}(hN:X.N.Nodup) (hi:X.N[i]? =ae x) (hx:Loc X.env.scope x) (he:JXE X e te) (hs:dE e (ae (.Name x pos')) pos.line X.env=pure false:=by rfl)
  (hf:X.fn x=true∨X.env.scope.names.lookup x=ae .local:=by first |exact .inl rfl |exact .inr rfl |assumption):JXS X (.Assign [.Name x pos'] e pos) (wAsg te (wGN i)):=λE hp=>
 (zuo hN hi hx (he E hp) hs hf).mono λD σ H ⟨σW,S,DW,hσ,hS,ht,hD,hF⟩=>⟨σW,S,_,hσ,hS,ht,λw S1 v H1 e1 r1 hS1 h1=>hD.nx _ S1 _ H1 e1 ((hσ.ext e1).set r1 i) hS1 h1,hF⟩
theorem zur (h:JXS X st ta):JXs X [st] ta:=λE hp=>zrh (h E hp)
end
theorem zxo{P:aF}{w:aC}{base g h h3:Heap}{l:List bA}{H1 H':Hp}{a C:Addr}{hid:List Addr}(un:Un (frs l) [] H1 H' g h) (ok:HOk P w H' h) (ff0:h.FunFrames base l) (fr:∀b∈frs l,H' b=none)
  (h0:∀b∈hid,g.get? b=none∧H' b=none) (ha:a∈hid) (L:iz (cU h (hid++frs l)) l a (.ref C) h h3):Un (frs l) [] H1 H' g h3∧HOk P w H' h3∧Fly g h3 H' a C:=by
 obtain⟨st,ff,tr,sl⟩:=L;have keepB:∀b o,h.get? b=ae o→b∉hid→b∉frs l→h3.get? b=ae o:=λb o e h1 h2=>st b o (fo _ e λz=>(bh.mp z).elim h1 h2);have nh:∀b o,g.get? b=ae o→b∉hid:=λb o e hb=>by rw[(h0 b hb).1]at e;cases e
 have slotB:∀b o,b∈frs l→h.get? b=ae o→ ∃sl,h3.get? b=ae { o with slots:=sl }:=λb o hb e=>by
  obtain⟨_,o',eo',nf⟩:=ff0.mem hb;rw[e]at eo';cases eo';exact sl b o e nf
 have nx:∀b:Addr,b∉([]:List Addr):=λb=>by simp
 refine⟨⟨λb o e n hb _=>keepB b o (un.keep b o e n hb (nx b)) (nh b o e) hb,λb o e n hb _=>?_,λb o e n _=>un.free b o e n (nx b),λb o e _=>?_,un.tups,un.frzs,un.tbls⟩,λb o e=>?_,(h0 a ha).1,(h0 a ha).2,?_⟩
 ·obtain⟨sl1,e1⟩:=un.slot b o e n hb (nx b);obtain⟨sl2,e2⟩:=slotB b _ hb e1;exact⟨sl2,e2⟩
 ·obtain⟨o',e1⟩:=un.there b o e (nx b);by_cases hb:b∈frs l
  ·obtain⟨sl2,e2⟩:=slotB b _ hb e1;exact⟨_,e2⟩
  ·exact⟨o',keepB b o' e1 (nh b o e) hb⟩
 ·refine(ok b o e).stay (λc u hc q=>?_) (λ_ q=>q) λ_ _ q=>q;have tk:∃v,H' c=ae v:=by
   rcases hc with z |z
   ·exact⟨o,by rw[z];exact e⟩
   ·exact⟨_,z⟩
  obtain⟨v,tk⟩:=tk;exact keepB c u q (λz=>by rw[(h0 c z).2]at tk;cases tk) λz=>by rw[fr c z]at tk;cases tk
 ·obtain⟨oe,vs,T,oT,ts,e1,e2,e3,e4,e5,e6,e7,e8,e9⟩:=tr;have nf:T∉frs l:=λhb=>by
   obtain⟨_,o,eo,nf⟩:=ff.mem hb;rw[e7]at eo;cases eo;exact nf ts e8
  have both:g.get? T=none∧H' T=none:=by
   by_cases hT:T∈hid
   ·exact h0 T hT
   ·have z:h.get? T=none:=by
     cases q:h.get? T with
     |none=>rfl
     |some o=>
      rw[fo _ q λz=>(bh.mp z).elim hT nf]at e5;cases e5
    constructor
    ·cases q:g.get? T with
     |none=>rfl
     |some o=>obtain⟨o',q'⟩:=un.there T o q (nx T);rw[z]at q';cases q'
    ·cases q:H' T with
     |none=>rfl
     |some u=>obtain⟨o',q'⟩:=(ok T u q).ex;rw[z]at q';cases q'
  exact⟨oe,vs,T,oT,ts,e1,e2,e3,e4,both.1,both.2,e6,e7,e8,e9⟩
theorem Heap.TracedW.tr{h base:Heap}{e:Addr}{cls a0:Value}(x:Heap.TracedW h base e cls a0):Heap.Traced h base e cls:=by
 obtain⟨oe,vs,T,oT,ts,he,⟨hcls,h0⟩,r⟩:=x;exact⟨oe,vs,T,oT,ts,he,hcls,r⟩
section
variable {X:Cx}{pins:List (Addr×Obj)}{σ:St}{H1 H':Hp}{s1 s':ag}{a C:Addr}{M:dX}{A:aM}{E:Value→ag→Prop}{R:ag→Prop}
theorem zqu (I1:Inv X pins σ H1 s1) (hst:X.stack=X.env::X.outer) (hf:X.env.frame=ae X.env.locals) (os:s'.os=s1.os) (bare:bP s'.gens) (un:Un (frs X.stack) [] H1 H' s1.heap s'.heap) (ok:HOk X.prog X.w H' s'.heap) (fly:Fly s1.heap s'.heap H' a C) (hA:A.frames=ae X.stack)
  (k:∀h3,Inv X pins σ H' { s' with heap:=h3 }→Un (frs X.stack) [] H1 H' s1.heap h3→HOk X.prog X.w H' h3→Fly s1.heap h3 H' a C→R { s' with heap:=h3 }) :
  am M A (iM (.ref a) X.env) (λ_ s₂=>am M A (gZ (.ref a) none) (λ_ s₃=>R s₃) E s₂) E s':=by
 have I2:Inv X pins σ H' s':=I1.call' os un ok bare (λ_ z=>nomatch z);have ff:=I2.stack;have fr:=I2.stkFree;obtain⟨g1,g2,oe,vs,T,oT,ts,e1,e2,e3,e4,g3,g4,e5,e6,e7,e8⟩:=fly;have sz:1<vs.size:=(kB.mp e4).1;have hid:∀b∈ [a,T],s1.heap.get? b=none∧H' b=none:=λb hb=>by
  rcases av.mp hb with rfl |hb
  ·exact⟨g1,g2⟩
  ·rw[bg.mp hb];exact⟨g3,g4⟩
 have st:∀h3,iz (cU s'.heap ([a,T]++frs X.stack)) X.stack a (.ref C) s'.heap h3→R { s' with heap:=h3 }:=λh3 L=>by
  obtain⟨u1,u2,u3⟩:=zxo un ok ff fr hid (by simp) L;exact k h3 (I1.call' (s':={ s' with heap:=h3 }) os u1 u2 bare (λ_ z=>nomatch z)) u1 u2 u3
 rw[hst]at hA ff st;refine wpAny_noteFrame_onW (base:=cU s'.heap ([a,T]++frs (X.env::X.outer))) (cls:= .ref C) (a0:=vs[0]) hA (zjm ff) hf ⟨oe,vs,T,oT,ts,e1,⟨e2,jX _⟩,e3,e4,dA _ (by simp),e5,e6,e7,e8⟩ (λb o z=>fB _ z) (dA _ (by simp)) λh2 N=>?_;obtain⟨n1,n2,n3,n4⟩:=N;refine ju (s:={ s' with heap:=h2 }) n1 n2 n3 λh3 k1 k2 k3 k4=>?_;exact st h3 ⟨k1,k2,Heap.TracedW.tr k3,λb o e nf=>by
  obtain⟨sl,z⟩:=n4 b o e nf;exact⟨sl,k4 b _ z nf⟩⟩
theorem zCa (I1:Inv X pins σ H1 s1) (os:s'.os=s1.os) (bare:bP s'.gens) (un:Un (frs X.stack) [] H1 H' s1.heap s'.heap) (ok:HOk X.prog X.w H' s'.heap) (fly:Fly s1.heap s'.heap H' a C)
  (k:∀h3,Inv X pins σ H' { s' with heap:=h3 }→Fly s1.heap h3 H' a C→R { s' with heap:=h3 }):am M A (gZ (.ref a) none) (λ_ s₃=>R s₃) E s':=by
 have I2:Inv X pins σ H' s':=I1.call' os un ok bare (λ_ z=>nomatch z);have ff:=I2.stack;have fr:=I2.stkFree;obtain⟨g1,g2,oe,vs,T,oT,ts,e1,e2,e3,e4,g3,g4,e5,e6,e7,e8⟩:=fly;have sz:1<vs.size:=(kB.mp e4).1;have hid:∀b∈ [a,T],s1.heap.get? b=none∧H' b=none:=λb hb=>by
  rcases av.mp hb with rfl |hb
  ·exact⟨g1,g2⟩
  ·rw[bg.mp hb];exact⟨g3,g4⟩
 refine ju (base:=cU s'.heap ([a,T]++frs X.stack)) (l:=X.stack) (cls:= .ref C) (a0:=vs[0]) (fl:= .none) (λb o z=>fB _ z) (zjm ff) ⟨oe,vs,T,oT,ts,e1,⟨e2,jX _⟩,e3,e4,dA _ (by simp),e5,e6,e7,e8⟩ λh3 k1 k2 k3 k4=>?_;obtain⟨u1,u2,u3⟩:=zxo un ok ff fr hid (by simp) ⟨k1,k2,Heap.TracedW.tr k3,λb o e nf=>⟨o.slots,k4 b o e nf⟩⟩;exact k h3 (I1.call' (s':={ s' with heap:=h3 }) os u1 u2 bare (λ_ z=>nomatch z)) u3
end
noncomputable abbrev Cx.hot (X:Cx) (a:Addr) (pn:List (Addr×Obj)):Cx:={ X with A:=X.A.mark (ae (.ref a)),calm:=false,pn:=pn,xe:=λ_ _=>False }
section
variable {X:Cx}{pins pins':List (Addr×Obj)}{σ:St}{H:Hp}{s:ag}{a:Addr}{oa:Obj}
theorem Cx.Ok.hot (ok:X.Ok) (a:Addr) (pn:List (Addr×Obj)):(X.hot a pn).Ok:=
 ⟨ok.mod,ok.kind,ok.glob,ok.blt,ok.above,ok.inj,ok.has,ok.cab,(λz=>nomatch z),ok.frames,ok.stk,ok.exf,ok.bs,ok.bsz,ok.noex,ok.exfs,ok.funs,ok.frf⟩
theorem Inv.hot{vs:Array Value}(I:Inv X pins σ H s) (e:s.heap.get? a=ae oa) (n:H a=none) (d:oa.data= .fields vs):Inv (X.hot a (X.pn++pins++[(a,oa)])) [] σ H s:=
 ⟨I.ok.hot a _,I.os,I.bare,I.base,I.loc,I.cell,I.free,I.freeC,(λp hp=>by
  rw[bG]at hp;rcases bh.mp hp with hp |hp
  ·exact I.pin p hp
  ·rw[bg.mp hp];refine⟨e,n,λz=>?_,λz=>?_,λv z=>?_⟩
   ·obtain⟨m,⟨o,es,ep,ho,hd,_⟩,_⟩:=I.loc;have e':s.heap.get? X.env.locals=ae oa:=by rw[←show a=X.env.locals from z];exact e
    rw[ho]at e';cases e';rw[hd]at d;cases d
   ·obtain⟨_,o,ho,nf⟩:=I.funs.mem z;have e':s.heap.get? a=ae o:=ho;rw[e]at e';cases e';exact nf vs d
   ·have z':oa.data= .cell v:=z;rw[d]at z';cases z'),I.hok,I.len⟩
theorem Inv.unhot (I0:X.Ok) (I:Inv (X.hot a (X.pn++pins++[(a,oa)])) pins' σ H s):Inv X pins σ H s:=
 ⟨I0,I.os,I.bare,I.base,I.loc,I.cell,I.free,I.freeC,λp hp=>I.pin p (eZ _ (eZ _ hp)),I.hok,I.len⟩
end
noncomputable def zAb (al:List Str) (t u:WS):WS:=λ_ D σ S=>t (λcl σ' S'=>cl∈al∧u noX D σ' S') D σ S
section
variable {X:Cx}{b:List Stmt}{x:Str}{CT:Addr}{b₀:Stmt}{suite:List Stmt}{np hpos pos:aB}{t:WS}{v:WS}{al:List Str}
theorem zAt{X:Cx}(h:X.xe=λ_ _=>False):Hook X noX:=zxL (by rw[h];exact jU)
theorem zuN (hb:∀pn xe,JXs (X.at pn xe) b t)
  (hal:∀cl∈al,∃C,XcIn X.K cl C∧gB X.K (.ref C) (.ref CT)=ae true) (hs:∀(a:Addr) (pn:List (Addr×Obj)),JSs (X.hot a pn) (b₀::suite) v)
  (hg:Gl X x) (hm:X.mg x=ae (.ref CT)) (hst:X.stack=X.env::X.outer:=by rfl) (hf:X.env.frame=ae X.env.locals:=by rfl) (hdb:(x == ("__debug__" :Str))=false:=by decide) :
  JS X (.Try b [.ExceptHandler (ae (.Name x np)) none (b₀::suite) hpos] [] [] pos) (zAb al t v):=λE hE pins s σ H D I z=>by
 obtain⟨σW,S,DW,hσ,hS,ht,hD⟩:=z;refine wpAny_Try_except ?_;refine bX (hb (X.pn++pins) (λe s₁=>am (ap X.prog X.w) X.A (iM e X.env) (λ_ s₂=>am (ap X.prog X.w) X.A (gZ e none) (λ_ s₃=>am (ap X.prog X.w) X.A (handleBy e X.env [.ExceptHandler (ae (.Name x np)) none (b₀::suite) hpos]) (SP X pins D) X.xe s₃) X.xe s₂) X.xe s₁)
  _ cJ.looking [] s σ H D (I.at _) ⟨σW,S,DW,hσ,hS,ht,hD,λpins' e s' F=>?_⟩) (λf s1 q=>?_) λe s1 q=>q
 ·obtain⟨cl,C,a,H1,s1,H',S',rfl,hn,I1,os,bare,un,ok,fly,ex,hS',hcl,hu⟩:=F;obtain⟨C',O,hx⟩:=hal cl hcl;have hn':aT X.K aK cl=ae (ae (.ref C)):=hn;have eC:C'=C:=by
   have:=O.nm;rw[hn']at this;exact(bx.inj (aE (aE this))).symm
  subst eC;refine zqu (X:=X) (pins:=pins) I1.unat hst hf os bare un ok fly I.ok.frames λh3 I3 u3 ok3 fly3=>?_;obtain⟨g1,g2,oe,vs,_,_,_,e1,e2,e3,_⟩:=id fly3;refine wpAny_handleBy_cons (codeAny_handlers_test ?_) (by intro q;cases q);refine zhx (X:=X.hot a (X.pn++pins++[(a,oe)])) (I3.hot e1 g2 e3) hg hm ?_ hdb;refine(PySem.W.exm_one I3.kIn (zBp e1 e2) hx).here ?_;refine codeAny_handlers_suite ?_;refine zCa (X:=X) (pins:=pins) (s':={ s' with heap:=h3 }) I1.unat os bare u3 ok3 fly3 λh4 I4 fly4=>?_;obtain⟨g1',g2',oe4,vs4,_,_,_,e1',e2',e3',_⟩:=id fly4;refine bX (hs a (X.pn++pins++[(a,oe4)]) noX (zAt rfl) [] { s' with heap:=h4 } σ H' D (I4.hot e1' g2' e3') ⟨_,S',_,hσ.ext ex,hS',hu,hD.from ex⟩) (λf s6 q=>?_) λ_ _ z=>z.elim;cases f with
  |next=>obtain⟨σ',H'',I6,q⟩:=q;exact⟨_,H'',I6.unhot I.ok,q⟩
  |brk=>obtain⟨σ',H'',I6,q⟩:=q;exact⟨_,H'',I6.unhot I.ok,q⟩
  |cont=>obtain⟨σ',H'',I6,q⟩:=q;exact⟨_,H'',I6.unhot I.ok,q⟩
  |ret w=>obtain⟨v,σ',H'',I6,r,q⟩:=q;exact⟨v,_,H'',I6.unhot I.ok,r,q⟩
 ·cases f with
  |next=>exact eW q.unat
  |ret v=>exact q.unat
  |brk=>exact q.unat
  |cont=>exact q.unat
end
theorem aln{P:Str→Prop}:∀cl∈([]:List Str),P cl:=λ_ h=>nomatch h
theorem alc{P:Str→Prop}{c:Str}{l:List Str}(h:P c) (t:∀cl∈l,P cl):∀cl∈c::l,P cl:=λcl m=>by
 rcases av.mp m with rfl |m
 ·exact h
 ·exact t cl m
noncomputable def pmx (ns:List Int):Nat→Int
 |0=>ns.getD 0 0
 |j+1=>if ns.getD (j+1) 0 > pmx ns j then ns.getD (j+1) 0 else pmx ns j
section
variable {prog:aF}{w:aC}{A:aM}{R:fI→ag→Prop}{I:Addr}{fp wr:List Addr}{n:Nat}{P:Nat→Value→Prop}{St:Nat→Heap→Prop}
theorem zpS (a d:Value):argsOk "max" ⟨[a],[("default",d)]⟩:=by unfold argsOk;kernel_rfl
theorem zqN (W:dO prog w A.in1 I fp wr n P St) {ns:List Int}{d:Value}(hv:∀i v,P i v→ ∃t,v= .int (ns.getD i 0) t) (S:Addr) (hSf:S∉fp) :
  ∀(k j:Nat) (s:ag) (u:bf) (c:Nat),n - (j+1)=k→j+1≤n→St (j+1) s.heap→
  s.heap.get? S=ae { cls:= .type "list",dict:=none,data:= .seq #[.int (pmx ns j) u, .int (pmx ns j) u] c,slots:= #[] }→
  (∀u' h' tk,(∀b o,b∉wr→b≠S→s.heap.get? b=ae o→h'.get? b=ae o)→R (.ok (.ret (.int (pmx ns (n - 1)) u'))) { s with heap:=h',toks:=tk })→
  cM (ap prog w) A (.builtin "max.loop" ⟨[.ref I, .none, .ref S],[("default",d)]⟩) R s:=by
 have hSw:S∉wr:=λh=>hSf (W.sub _ h);have hname:(eE "max" ++eE ".loop" :String)= "max.loop" :=by decide
 intro k
 induction k with
 |zero=>
  intro j s u c hk hj hst hS hR;have hin:j+1=n:=by omega
  refine eP iD ?_;rw[eR dH _];show am _ A.in1 (eV (.ref S) >>= _) _ _ s;refine ai (b_ hS rfl ?_);show am _ A.in1 (gi (bM (.ref I)) _ >>= _) _ _ s;refine ai (dQ (W.done s _ _ (hin▸hst) λh' tk hk'=>?_));have hS':=hk' S _ hSw hS;show am _ A.in1 (updateSeq S (λ_=> #[]) >>= _) _ _ _;refine ai (f7 hS' rfl (ai (c8 (aD ?_))));have e:n - 1=j:=by omega
  rw[←e];exact hR u _ tk λb o hbw hbS e=>(eM _ _ (br hbS)).trans (hk' b o hbw e)
 |succ k ih=>
  intro j s u c hk hj hst hS hR;have hlt:j+1<n:=by omega
  refine eP iD ?_;rw[eR dH _];show am _ A.in1 (eV (.ref S) >>= _) _ _ s;refine ai (b_ hS rfl ?_);show am _ A.in1 (gi (bM (.ref I)) _ >>= _) _ _ s;refine ai (dQ (W.item (j+1) s _ _ hlt hst λv h' tk hP hst' hk'=>?_));obtain⟨t,rfl⟩:=hv _ _ hP;have hS':=hk' S _ hSw hS;show am _ A.in1 (gi (holding [_,_] (richCompare .Gt _ _ >>= _)) _ >>= _) _ _ _;refine ai (dQ (eJ (ai (PyProof.Rows.gt_int ?_:am _ _ (bp .Gt _ _) _ _ _))));refine ai (eJ (dw ?_));refine ai (c8 (aD ?_));by_cases hb:ns.getD (j+1) 0 > pmx ns j
  ·rw[decide_eq_true hb];simp only[if_true];have ep:pmx ns (j+1)=ns.getD (j+1) 0:=by rw[pmx,if_pos hb]
   refine ai (f7 hS' rfl (ai (c8 ?_)));rw[hname];refine aD ⟨eG dH _,ih (j+1) _ t _ (by omega) hlt (W.frame _ _ _ hst' λb hbf o e=>?_) (by rw[ep];exact gG _ hS' rfl) λu' h'' tk'' hk''=>?_⟩
   ·exact(eM _ _ (λh:S=b=>hSf (by rw[h];exact hbf))).trans e
   ·exact hR u' h'' tk'' λb o hbw hbS e=>hk'' b o hbw hbS ((eM _ _ (br hbS)).trans (hk' b o hbw e))
  ·rw[decide_eq_false hb];simp only[gr,if_false];have ep:pmx ns (j+1)=pmx ns j:=by rw[pmx,if_neg hb]
   refine ai (c8 ?_);rw[hname];refine aD ⟨eG dH _,ih (j+1) _ u c (by omega) hlt hst' (by rw[ep];exact hS') λu' h'' tk'' hk''=>?_⟩;exact hR u' h'' tk'' λb o hbw hbS e=>hk'' b o hbw hbS (hk' b o hbw e)
theorem zpz (W:dO prog w A.in1 I fp wr n P St) {ns:List Int}{x:Int}{t0:bf}(hv:∀i v,P i v→ ∃t,v= .int (ns.getD i 0) t) (S:Addr) (hSf:S∉fp) {s:ag}{c:Nat}(hst:St 0 s.heap)
  (hS:s.heap.get? S=ae { cls:= .type "list",dict:=none,data:= .seq #[] c,slots:= #[] })
  (hR:∀u' h' tk,(∀b o,b∉wr→b≠S→s.heap.get? b=ae o→h'.get? b=ae o)→R (.ok (.ret (.int (if n=0 then x else pmx ns (n - 1)) u'))) { s with heap:=h',toks:=tk }) :
  cM (ap prog w) A (.builtin "max.loop" ⟨[.ref I, .none, .ref S],[("default", .int x t0)]⟩) R s:=by
 have hSw:S∉wr:=λh=>hSf (W.sub _ h);have hname:(eE "max" ++eE ".loop" :String)= "max.loop" :=by decide
 refine eP iD ?_;rw[eR dH _];show am _ A.in1 (eV (.ref S) >>= _) _ _ s;refine ai (b_ hS rfl ?_);show am _ A.in1 (gi (bM (.ref I)) _ >>= _) _ _ s;rcases dS n with h0 |hn
 ·refine ai (dQ (W.done s _ _ (h0▸hst) λh' tk hk'=>?_));show am _ A.in1 (rule "max.default" >>= _) _ _ _;refine ai (dg ?_);refine aD ?_;have:=hR t0 h' tk λb o hbw _ e=>hk' b o hbw e;rw[if_pos h0]at this;exact this
 ·refine ai (dQ (W.item 0 s _ _ hn hst λv h' tk hP hst' hk'=>?_));obtain⟨t,rfl⟩:=hv _ _ hP;have hS':=hk' S _ hSw hS;show am _ A.in1 (updateSeq S (λ_=> #[_,_]) >>= _) _ _ _;refine ai (f7 hS' rfl ?_);rw[hname];refine aD ⟨eG dH _,zqN W hv S hSf _ 0 _ t _ rfl hn (W.frame _ _ _ hst' λb hbf o e=>?_) (gG _ hS' rfl) λu' h'' tk'' hk''=>?_⟩
  ·exact(eM _ _ (λh:S=b=>hSf (by rw[h];exact hbf))).trans e
  ·have:=hR u' h'' tk'' λb o hbw hbS e=>hk'' b o hbw hbS ((eM _ _ (br hbS)).trans (hk' b o hbw e));rw[if_neg (by omega)]at this;exact this
end
section
variable {X:Cx}
theorem zqS{pins:List (Addr×Obj)}{s:ag}{σ:St}{H:Hp}{Q:VK}{p:Addr}{ns:List Int}{x:Int}{t0:bf}(hc:X.calm=true) (I:Inv X pins σ H s) (hq:SqL X.K H p (ns.map V.int)) (q:Q (.int (if ns=[] then x else pmx ns (ns.length - 1))) H) :
  am (ap X.prog X.w) X.A (call (.builtin "max") [.ref p] [("default", .int x t0)]) (EP X pins σ Q) X.xe s:=by
 obtain⟨its,r',pl,hz⟩:=I.list hq;have hlen:ns.length=its.length:=by have:=r'.length;rw[aq]at this;exact this
 have hp:p<s.heap.objs.size:=by obtain⟨o,n,e,_⟩:=pl;exact aI e
 have hd:X.A.in1.handled=none:=I.ok.hd hc;have get:∀(i:Nat) (v:Value),its.toArray[i]? =ae v→ ∃t,v= .int (ns.getD i 0) t:=λi v e=>by
  have e':its[i]? =ae v:=by simpa using e
  have hi:i<ns.length:=by rw[hlen];exact(cb.mp e').1
  obtain⟨u,hu,ru⟩:=r'.get (i:=i) (x:= .int (ns.getD i 0)) (by rw[bv,aQ hi,bt,aQ hi];rfl);rw[e']at hu;cases hu;exact ru
 have hname:(eE "max" ++eE ".loop" :String)= "max.loop" :=by decide
 refine PyProof.Rows.kmk_tree F.kind_max F.plain_max F.entry_max (zpS _ _) ?_;show am _ X.A.in1 (ja "max" ["key", "default"] 0 ⟨[],[("default", .int x t0)]⟩ >>= _) _ _ s;refine ai (wpAny_of_eq (show ja "max" ["key", "default"] 0 ⟨[],[("default", .int x t0)]⟩=pure [none,ae (.int x t0)] from rfl) ?_);refine ai (aD ?_);refine ai (dn pl.isList ?_);refine ai (wpAny_newList ?_ (aZ _));rw[hname];refine aD ⟨eG dH _,?_⟩;have hsz:∀(h:Heap) (o:Obj),(h.push o).objs.size=h.objs.size+1:=λh o=>cq ..;refine zpz (prog:=X.prog) (w:=X.w) (A:=X.A) (n:=its.toArray.size) (ns:=ns) (x:=x) (t0:=t0) (fJ hd s.heap.objs.size p (bu hp) its.toArray) get _ (λhm=>?_) ?_ (c:=0) ?_ λu' h' tk hk=>?_
 ·have hm':(s.heap.push { cls:= .type "list_iterator",data:= .fields #[.ref p, .int 0 0] }).objs.size∈ [s.heap.objs.size,p]:=hm;rw[hsz]at hm';rcases av.mp hm' with z |z
  ·exact absurd z (ke _)
  ·exact absurd hp (by rw[←bg.mp z];exact jN (iI _))
 ·exact⟨⟨_,aH _ (bj _ rfl),rfl,rfl⟩,(pl.isList.push _).push _⟩
 ·exact bj _ rfl
 ·have e:(if its.toArray.size=0 then x else pmx ns (its.toArray.size - 1))=(if ns=[] then x else pmx ns (ns.length - 1)):=by
   rw[aP,←hlen];cases ns<;>simp
  rw[e];refine⟨.int _,H,I.kept λb o e=>hk b o (λz=>?_) (λz=>?_) (aH _ (aH _ e)),⟨u',rfl⟩,q⟩
  ·have z':b=s.heap.objs.size:=by simpa using z
   rw[z']at e;exact absurd (aI e) (b5 _)
  ·have h1:=aI e;have z':b=s.heap.objs.size+1:=z.trans (hsz _ _);rw[z']at h1;exact absurd h1 (jN (iI _))
noncomputable def zng (tl:WL) (td:WE):WE:=λE σ S Q=>tl E σ S λws S1=>td E σ S1 λw S2=>match zbt ws,w with
 |some ns, .int x=>Q (.int (if ns=[] then x else pmx ns (ns.length - 1))) S2
 |_,_=>False
theorem znc{tl:WL}{td:WE}{E:WX}{σ:WSt}{S:Sto}{Q:WK}:zng tl td E σ S Q=tl E σ S λws S1=>td E σ S1 λw S2=>match zbt ws,w with
 |some ns, .int x=>Q (.int (if ns=[] then x else pmx ns (ns.length - 1))) S2
 |_,_=>False:=rfl
theorem zob{p pos kp kp2:aB}{e:Expr}{j:Nat}{x:Int}{tl:WL}(hg:Gl X "max") (hm:X.mg "max" =none) (ha:JL X e tl)
  (he:ao [e] X.env=(false,ax e X.env)::ao [] X.env:=by rfl) (hcl:X.calm=true:=by rfl):JE X (.Call (.Name "max" p) [e] [⟨ae "default", .Constant (.int x) j kp,kp2⟩] pos) (zng tl (wC (.int x))):=λE hE=>by
 intro pins s σ H Q I h;obtain⟨σW,S,QW,hσ,hS,ht,hQ⟩:=h;refine fG (zhX I hg hm PyProof.Rows.boot_max ?_ (by decide) (by decide));refine callWith_kw (env:=X.env) ?_ (by rw[he];rfl) (by rw[he];rfl);refine thn (zdy (ha E hE) pa_nil he pos pins s σ H (λvs H1=>∃a ns,vs=[.ref a]∧SqL X.K H1 a (ns.map V.int)∧Q (.int (if ns=[] then x else pmx ns (ns.length - 1))) H1) I ⟨σW,S,_,hσ,hS,ht,λws S1 vs a H1 e1 fa ea na r1 hS1 h1=>?_⟩) λus s1 ⟨vs,H1,I1,r1,a,ns,hvs,hq,q1⟩=>?_
 ·have h2:(match zbt ws,W.int x with
   |some ns, .int x=>QW (.int (if ns=[] then x else pmx ns (ns.length - 1))) S1
   |_,_=>False):=h1
  cases ei:zbt ws with
  |none=>rw[ei]at h2;exact h2.elim
  |some ns=>
   rw[ei]at h2;have:=zfw r1 ei;subst this;exact⟨a,ns,rfl, .of ea,hQ _ S1 _ H1 e1 (.int _) hS1 h2⟩
 ·subst hvs;obtain⟨u,rfl,rx⟩:=ziv r1;cases rx;refine kws_cons (iY (kws_nil ?_));exact zqS hcl (I1.tok _) hq q1
end
theorem zvE{X:Cx}{a:Expr}{pos:aB}{ta:TE}(ha:PE X a ta):PE X (.UnaryOp .Not a pos) (λσ H Q=>ta σ H λx H1=>∃k,zAa X.K x H1 k∧Q (.bl (!k)) H1):=by
 intro pins s σ H Q I h;refine UnaryOp_ (thn (ha pins s σ H _ I h) λv s1 ⟨x,H1,I1,r1,q1⟩=>?_);obtain⟨k,hk,q1⟩:=q1;exact not_of (thn (zuU pins s1 σ H1 x v (λc H2=>Q (.bl (!c)) H2) I1 r1 ⟨k,hk,q1⟩) λc s2 ⟨H2,I2,q2⟩=>⟨.bl (!c),H2,I2,rfl,q2⟩)
noncomputable def zsM (t:WE):WE:=λE σ S Q=>t E σ S λw S1=>zsw w S1 λb S2=>Q (.bl !b) S2
theorem zwq{X:Cx}{a:Expr}{pos:aB}{ta:WE}(ha:JE X a ta):JE X (.UnaryOp .Not a pos) (zsM ta):=λE hE=>
 (zvE (ha E hE)).mono λσ H Q ⟨σW,S,QW,hσ,hS,ht,hQ⟩=>⟨σW,S,_,hσ,hS,ht,λw S1 v H1 e1 r1 hS1 h1=>by
  obtain⟨k,hk,q⟩:=zrG r1 hS1 h1;exact⟨k,hk,hQ _ S1 _ H1 e1 (.bl _) hS1 q⟩⟩
theorem zwt{t:WE}{E:WX}{σ:WSt}{S:Sto}{Q:WK}:(zsM t E σ S Q)=(t E σ S λw S1=>zsw w S1 λb S2=>Q (.bl !b) S2):=pz id id
inductive Tr where
  |bl (n:Int)
  |nd (s:Str) (ts:List Tr)
noncomputable def Tr.kids:Tr→List Tr
 | .bl _=>[]
 | .nd _ ts=>ts
mutual
noncomputable def Tr.weight:Tr→Nat
 | .bl _=>1
 | .nd _ ts=>1+wts ts
noncomputable def wts:List Tr→Nat
 | []=>0
 |t::ts=>t.weight+wts ts
end
mutual
noncomputable def Tr.depth:Tr→Nat
 | .bl _=>1
 | .nd _ ts=>1+dts ts
noncomputable def dts:List Tr→Nat
 | []=>0
 |t::ts=>max t.depth (dts ts)
end
theorem zqV:wts []=0:=by unfold wts;rfl
theorem zeY (t:Tr) (ts:List Tr):wts (t::ts)=t.weight+wts ts:=by
 conv=>lhs;unfold wts
theorem zeU:∀(ts us:List Tr),wts (ts++us)=wts ts+wts us
 | [],us=>by
  show wts us=wts []+wts us;rw[zqV];omega
 |t::ts,us=>by
  show wts (t::(ts++us))=_;rw[zeY,zeY,zeU ts us];omega
theorem zmz:dts []=0:=by unfold dts;rfl
theorem zfX (t:Tr) (ts:List Tr):dts (t::ts)=max t.depth (dts ts):=by
 conv=>lhs;unfold dts
theorem zfx (t:Tr):t.weight=1+wts t.kids:=by
 cases t with
 |bl n=>
  show Tr.weight (.bl n)=1+wts [];unfold Tr.weight wts;rfl
 |nd s ts=>
  show Tr.weight (.nd s ts)=1+wts ts
  conv=>lhs;unfold Tr.weight
theorem zeZ (t:Tr):t.depth=1+dts t.kids:=by
 cases t with
 |bl n=>
  show Tr.depth (.bl n)=1+dts [];unfold Tr.depth dts;rfl
 |nd s ts=>
  show Tr.depth (.nd s ts)=1+dts ts
  conv=>lhs;unfold Tr.depth
theorem zdW (t:Tr):1≤t.weight:=by rw[zfx];omega
theorem zbc (t:Tr):1≤t.depth:=by rw[zeZ];omega
theorem ziy:∀(ts us:List Tr),dts (ts++us)=max (dts ts) (dts us)
 | [],us=>by
  show dts us=max (dts []) (dts us);rw[zmz];omega
 |t::ts,us=>by
  show dts (t::(ts++us))=_;rw[zfX,zfX,ziy ts us];exact(Nat.max_assoc _ _ _).symm
theorem zbx:∀(ts:List Tr),ts.length≤wts ts
 | []=>aZ _
 |t::ts=>by
  have:=zbx ts;have:=zdW t;rw[zeY,aW];omega
theorem zcl{t:Tr}:∀{ts:List Tr},t∈ts→t.weight≤wts ts
 | [],h=>by cases h
 |u::ts,h=>by
  rw[zeY];rcases av.mp h with e |h
  ·rw[e];omega
  ·have:=zcl h;omega
theorem znJ:∀{ts:List Tr},ts≠ []→dts ts=1+dts (ts.flatMap Tr.kids)
 | [],h=>absurd rfl h
 | [t],_=>by
  rw[fy,gT,bG,zfX,zmz,zeZ];omega
 |t::u::r,_=>by
  have ih:=znJ (ts:=u::r) (by simp);have e:(t::u::r).flatMap Tr.kids=t.kids++(u::r).flatMap Tr.kids:=fy ..;rw[zfX,ih,e,ziy,zeZ];omega
theorem znP:∀(ts:List Tr),wts (ts.flatMap Tr.kids)+ts.length=wts ts
 | []=>by rw[gT,zqV];rfl
 |t::ts=>by
  have ih:=znP ts;rw[fy,zeU,zeY,aW,zfx];omega
mutual
theorem zeL:∀t:Tr,t.depth≤t.weight
 | .bl n=>by unfold Tr.depth Tr.weight;exact au _
 | .nd s ts=>by
  have:=ziK ts;rw[zeZ,zfx];show 1+dts ts≤1+wts ts;omega
theorem ziK:∀ts:List Tr,dts ts≤wts ts
 | []=>by rw[zmz];exact aZ _
 |t::ts=>by
  have:=zeL t;have:=ziK ts;rw[zfX,zeY];omega
end
mutual
noncomputable def enc:Tr→W
 | .bl n=> .int n
 | .nd s ts=> .tup (.str s::encs ts)
noncomputable def encs:List Tr→List W
 | []=>[]
 |t::ts=>enc t::encs ts
end
theorem zaB:∀ts:List Tr,encs ts=ts.map enc
 | []=>by simp [encs]
 |t::ts=>by simp [encs,zaB ts]
theorem zbh (ts:List Tr):(encs ts).length=ts.length:=by rw[zaB,aq]
noncomputable def zbZ (p:List Int):W:= .tup (p.map W.int)
theorem zmk:zcu "int" "int" =true:=by decide +kernel
theorem zkq:zcu "int" "bool" =false:=by decide +kernel
theorem zmq:zcu "int" "str" =false:=by decide +kernel
theorem ziZ:zcu "int" "tuple" =false:=by decide +kernel
theorem zks:zcu "int" "list" =false:=by decide +kernel
theorem zlb:zcu "bool" "int" =true:=by decide +kernel
theorem zjt:zcu "bool" "bool" =true:=by decide +kernel
theorem zkz:zcu "bool" "str" =false:=by decide +kernel
theorem ziw:zcu "bool" "tuple" =false:=by decide +kernel
theorem zjJ:zcu "bool" "list" =false:=by decide +kernel
theorem zmd:zcu "str" "int" =false:=by decide +kernel
theorem zko:zcu "str" "bool" =false:=by decide +kernel
theorem zlE:zcu "str" "str" =true:=by decide +kernel
theorem zjO:zcu "str" "tuple" =false:=by decide +kernel
theorem zkI:zcu "str" "list" =false:=by decide +kernel
theorem zjh:zcu "tuple" "int" =false:=by decide +kernel
theorem zir:zcu "tuple" "bool" =false:=by decide +kernel
theorem zjg:zcu "tuple" "str" =false:=by decide +kernel
theorem sub_tuple_tuple:zcu "tuple" "tuple" =true:=by decide +kernel
theorem sub_tuple_list:zcu "tuple" "list" =false:=by decide +kernel
theorem zlh:zcu "list" "int" =false:=by decide +kernel
theorem zju:zcu "list" "bool" =false:=by decide +kernel
theorem zlx:zcu "list" "str" =false:=by decide +kernel
theorem sub_list_tuple:zcu "list" "tuple" =false:=by decide +kernel
theorem sub_list_list:zcu "list" "list" =true:=by decide +kernel
section
variable {α:Type}{x:α}{xs:List α}
theorem znj (n:Nat):zer xs (ae (n:Int)) none=xs.drop n:=by
 unfold zer;rw[HT.sIx_nat,HT.sIx_none];by_cases h:n≤xs.length
 ·rw[fg h,cw (by rw[cu];omega)]
 ·rw[f9 (by omega),dB (au _),dB (by omega),ib]
theorem znp (n:Nat):zer xs none (ae (n:Int))=xs.take n:=by
 unfold zer;rw[HT.sIx_nat,HT.sIx_none,c6,dI];by_cases h:n≤xs.length
 ·rw[fg h]
 ·rw[f9 (by omega),iC,cw (by omega)]
theorem zwc (n m:Nat):zer xs (ae (n:Int)) (ae (m:Int))=(xs.drop n).take (m - n):=by
 unfold zer;rw[HT.sIx_nat,HT.sIx_nat];by_cases h:n≤xs.length
 ·rw[fg h];by_cases h2:m≤xs.length
  ·rw[fg h2]
  ·rw[f9 (by omega),cw (by rw[cu];omega),cw (by rw[cu];omega)]
 ·rw[f9 (show xs.length≤n by omega),dB (au _),dB (show xs.length≤n by omega),ib,ib]
theorem zwH:zer (x::xs) (ae 1) none=xs:=by rw[show(1:Int)=((1:Nat):Int) from rfl,znj];rfl
theorem zrN{n d k:Nat}(h:0<k):HT.sIx n d (ae (-(k:Int)))=n - k:=by
 show(if(-(k:Int))<0 then(-(k:Int)+(n:Int)).toNat else min (-(k:Int)).toNat n)=n - k;rw[if_pos (by omega)];omega
theorem zie (k:Nat) (h:0<k):zer xs none (ae (-(k:Int)))=xs.take (xs.length - k):=by
 unfold zer;rw[zrN h,HT.sIx_none,c6,dI]
theorem zpV (k:Nat) (h:0<k):zer xs (ae (-(k:Int))) none=xs.drop (xs.length - k):=by
 unfold zer;rw[zrN h,HT.sIx_none,cw (by rw[cu];omega)]
theorem zcy{n:Nat}:atI xs (n:Int)=xs[n]? :=by
 unfold atI ixN;rw[if_pos (by omega)];by_cases h:n<xs.length
 ·rw[if_pos (by omega)];simp
 ·rw[if_neg (by omega)];simp;omega
theorem zjQ:atI (x::xs) 0=ae x:=zcy (n:=0)
end
section
variable {S S':Sto}{a b:Addr}{o:Ob}{Q:List W→Prop}{ws:List W}
theorem znA{u:Ob}(h:b≠a):put (put S a o) b u=put (put S b u) a o:=by
 funext c;unfold put;by_cases h1:c=b
 ·rw[if_pos h1,if_pos h1,if_neg (by rw[h1];exact h)]
 ·rw[if_neg h1,if_neg h1]
theorem znY{u o':Ob}(h:b≠a):put (put (put S a o) b u) a o'=put (put S a o') b u:=by rw[znA h,zaY,znA h]
theorem zhd:zcU (put S a (.lst ws)) a Q=Q ws:=zai zah
theorem zeu (h:put S a o b=none):S b=none∧b≠a:=by
 have hb:b≠a:=by rintro rfl;rw[zah]at h;cases h
 rw[zaG hb]at h;exact⟨h,hb⟩
theorem zqP{u:Ob}(h:S a=ae u) (n:S b=none):a≠b:=by rintro rfl;rw[h]at n;cases n
theorem Sub.put (h:Sub S S') (n:S a=none):Sub S (L2.put S' a o):=λb u e=>by rw[zaG (zqP e n)];exact h b u e
theorem Sub.put2{u:Ob}(h:Sub S S'):Sub (L2.put S a u) (L2.put S' a u):=λb w e=>by
 by_cases hb:b=a
 ·subst hb;rw[zah]at e⊢;exact e
 ·rw[zaG hb]at e⊢;exact h b w e
end
theorem zzi (S:Sto) (a b:Int):eqF S 60 (.int a) (.int b)=ae (a == b):=by have h:eqF S 60 (.int a) (.int b)=ae (a == b):=rfl;exact h
theorem zym (S:Sto) (a b:Str):eqF S 60 (.str a) (.str b)=ae (a == b):=by have h:eqF S 60 (.str a) (.str b)=ae (a == b):=rfl;exact h
theorem zBi (S:Sto) (a b:Bool):eqF S 60 (.bl a) (.bl b)=ae (a == b):=by have h:eqF S 60 (.bl a) (.bl b)=ae (a == b):=rfl;exact h
theorem zak{n:Nat}(h:n≤16777216):n≤sizeLine:=by rw[dv];exact h
theorem zbv{n:Nat}(h:n<16777216):n<sizeLine:=by rw[dv];exact h
section
variable {S:Sto}{Q:WK}{QB:Bool→Sto→Prop}{QS:List W→(Sto→Prop)→Prop}{QT:String→Prop}
theorem zfj{a:Addr}{o:Ob}(h:S a=ae o):put S a o=S:=by
 funext b;unfold put;split
 ·rename_i e;rw[e,h]
 ·rfl
theorem ztG{b:Bool}:zsw (.bl b) S QB=QB b S:=pz id id
theorem zpP{i:Int}:zsw (.int i) S QB=QB (i != 0) S:=pz id id
theorem zrk{ws:List W}:zsw (.tup ws) S QB=QB (!ws.isEmpty) S:=pz id id
theorem zrw{a:Addr}:zsw (.ref a) S QB=zcU S a λws=>QB (!ws.isEmpty) S:=pz id id
theorem zpI:zsw .non S QB=QB false S:=pz id id
theorem zjV{ws:List W}:zpD (.tup ws) S QS=QS ws λ_=>True:=pz id id
theorem zid{a:Addr}:zpD (.ref a) S QS=zcU S a λws=>QS ws λS'=>S' a=ae (.lst ws):=pz id id
theorem zvH{b:Bool}:tyW (.bl b) S QT=QT "bool" :=pz id id
theorem zsJ{i:Int}:tyW (.int i) S QT=QT "int" :=pz id id
theorem zsD{i:Str}:tyW (.str i) S QT=QT "str" :=pz id id
theorem ztP{i:List W}:tyW (.tup i) S QT=QT "tuple" :=pz id id
theorem zsQ:tyW .non S QT=QT "NoneType" :=pz id id
theorem ztv{a:Addr}:tyW (.ref a) S QT=zcU S a λ_=>QT "list" :=pz id id
theorem zqh{i j:Int}:zdT (.int i) (.int j) S Q=Q (.int (i+j)) S:=pz id id
theorem zrT{i j:Str}:zdT (.str i) (.str j) S Q=(i.length+j.length≤sizeLine∧Q (.str (i++j)) S):=pz id id
theorem zhO{i j:List W}:zdT (.tup i) (.tup j) S Q=(i.length+j.length≤sizeLine∧Q (.tup (i++j)) S):=pz id id
theorem zrg{a b:Addr}:zdT (.ref a) (.ref b) S Q=zcU S a λxs=>zcU S b λys=>xs.length+ys.length≤sizeLine∧ ∀p,S p=none→Q (.ref p) (put S p (.lst (xs++ys))):=pz id id
theorem zBv{C:Int→Int→Prop}{g:Int→Int→W}{i j:Int}:zdk C g (.int i) (.int j) S Q=(C i j∧Q (g i j) S):=pz id id
theorem zyx{g:Int→Int→W}{i j:Int}:zfK g (.int i) (.int j) S Q=Q (g i j) S:=pz id id
theorem zsK{i j:Int}:oLe (.int i) (.int j) S Q=Q (.bl (decide (i≤j))) S:=pz id id
theorem zua{i j:Str}:oLe (.str i) (.str j) S Q=Q (.bl (!decide (j.cps.toList<i.cps.toList))) S:=pz id id
theorem zqn{us:List W}:zfz [.tup us] S Q=Q (.int us.length) S:=pz id id
theorem zrn{a:Addr}:zfz [.ref a] S Q=zcU S a λus=>Q (.int us.length) S:=pz id id
theorem zqc{ns:List Int}:zfz [.scr ns] S Q=Q (.int ns.length) S:=pz id id
theorem zql{z:Str}:zfz [.str z] S Q=(z.length≤sizeLine∧Q (.int z.length) S):=pz id id
theorem ztA{ws:List W}{i:Int}:oIx (.tup ws) (.int i) S Q=match atI ws i with
 |some w=>Q w S
 |none=>False:=pz id id
theorem ztK{a:Addr}{i:Int}:oIx (.ref a) (.int i) S Q=zcU S a λws=>match atI ws i with
 |some w=>Q w S
 |none=>False:=pz id id
theorem zsA{ns:List Int}{i:Int}:oIx (.scr ns) (.int i) S Q=match atI ns i with
 |some n=>Q (.int n) S
 |none=>False:=pz id id
theorem ztq{x:Str}{i:Int}:oIx (.str x) (.int i) S Q=(x.length≤sizeLine∧match atI x.cps.toList i with
 |some c=>Q (.str ⟨#[c]⟩) S
 |none=>False):=pz id id
theorem zsS{ws:List W}{lo hi:Option Int}:oSl (.tup ws) lo hi S Q=Q (.tup (zer ws lo hi)) S:=pz id id
theorem ztR{z:Str}{lo hi:Option Int}:oSl (.str z) lo hi S Q=(z.length≤sizeLine∧Q (.str (cE z lo hi)) S):=pz id id
theorem zsB{a:Addr}{lo hi:Option Int}:oSl (.ref a) lo hi S Q=zcU S a λws=>∀p,S p=none→Q (.ref p) (put S p (.lst (zer ws lo hi))):=pz id id
theorem ztj{ns:List Int}{lo hi:Option Int}:oSl (.scr ns) lo hi S Q= ∀p,S p=none→Q (.ref p) (put S p (.lst ((zer ns lo hi).map W.int))):=pz id id
theorem zmo{us:List W}:zea [.tup us] S Q=Q (.tup us) S:=pz id id
theorem zmH{a:Addr}:zea [.ref a] S Q=zcU S a λus=>Q (.tup us) S:=pz id id
theorem ztX{a:Addr}{y:W}:zbQ (.ref a) [y] S Q=zcU S a λxs=>xs.length<sizeLine∧Q .non (put S a (.lst (xs++[y]))):=pz id id
theorem zAi{a:Addr}:zCP (.ref a) [] S Q=zcU S a λxs=>match xs[xs.length - 1]? with
 |some y=>Q y (put S a (.lst xs.dropLast))
 |none=>False:=pz id id
theorem zkU{a:Addr}{ys:List W}:zim (.ref a) [.tup ys] S Q=zcU S a λxs=>xs.length+ys.length≤sizeLine∧Q .non (put S a (.lst (xs++ys))):=pz id id
theorem zkx{a b:Addr}:zim (.ref a) [.ref b] S Q=zcU S a λxs=>zcU S b λys=>xs.length+ys.length≤sizeLine∧Q .non (put S a (.lst (xs++ys))):=pz id id
theorem zqB{a:Addr}{ws:List W}:zsy (.ref a) ws S Q=zcU S a λxs=>xs.length+ws.length≤sizeLine∧Q .non (put S a (.lst (xs++ws))):=pz id id
theorem zAp{a:Addr}:rvL (.ref a) S=zcU S a λ_=>True:=pz id id
theorem zAQ{x:Str}:rvS (.str x) S=True:=pz id id
theorem zsG{b:Bool}:zxm [.bl b] S Q=Q (.int (if b then 1 else 0)) S:=pz id id
theorem zpN{i:Int}:zxm [.int i] S Q=Q (.int i) S:=pz id id
theorem zzM{i j:Int}:zBC [.int i, .int j] S Q=Q (.int (if j > i then j else i)) S:=pz id id
theorem zzx{i j:Int}:zkK [.int i, .int j] S Q=Q (.int (if j<i then j else i)) S:=pz id id
theorem zzq{z:Str}{ws:List W}:zld (.str z) ws S Q=match zgL ws with
 |some ys=>(ys.map (·.length)).sum+ys.length*z.length≤16777216∧Q (.str (cO z ys)) S
 |none=>False:=pz id id
theorem zve{z y:Str}:zyJ (.str z) [.str y] S Q=match cy z y 0 z.length 1 with
 |i::_=>Q (.int i) S
 | []=>False:=pz id id
theorem ztM{neg:Bool}:oIs neg .non .non S Q=Q (.bl (!neg)) S:=pz id id
theorem zwb{neg a b:Bool}:oIs neg (.bl a) (.bl b) S Q=Q (.bl (if neg then a != b else a == b)) S:=pz id id
theorem zvI{neg a:Bool}:oIs neg (.bl a) .non S Q=Q (.bl neg) S:=pz id id
theorem zvn{neg:Bool}{ws:List W}:oIs neg (.tup ws) .non S Q=Q (.bl neg) S:=pz id id
theorem zwj{neg:Bool}{a:Addr}:oIs neg (.ref a) .non S Q=Q (.bl neg) S:=pz id id
theorem zwG{neg:Bool}{a:Int}:oIs neg (.int a) .non S Q=Q (.bl neg) S:=pz id id
theorem ztJ{neg:Bool}{x:W}{ws:List W}:oIn neg x (.tup ws) S Q=match inF S x ws with
 |some b=>Q (.bl (if neg then !b else b)) S
 |none=>False:=pz id id
theorem ztO{neg:Bool}{x:W}{a:Addr}:oIn neg x (.ref a) S Q=zcU S a λws=>match inF S x ws with
 |some b=>Q (.bl (if neg then !b else b)) S
 |none=>False:=pz id id
theorem ztF{neg:Bool}{i j:Str}:oIn neg (.str i) (.str j) S Q=Q (.bl (if neg then !(!(cy j i 0 j.length 1).isEmpty) else !(cy j i 0 j.length 1).isEmpty)) S:=pz id id
end
theorem zmb{g:WG}{b:WS}{E:WX}{D:WEnds}{G:Sto→Prop}(I:List W→WSt→Sto→Prop)
  (step:∀w ws σ S (N:WSt→Sto→Prop),I (w::ws) σ S→(∀σ' S' S'',Sub S'' S'→G S''→I ws σ' S''→N σ' S')→g w σ S λσ1 S1=>b E { D with nx:=N,ct:=N,bk:=D.nx } σ1 S1)
  (done:∀σ S,I [] σ S→D.nx σ S):∀(ws:List W) (σ:WSt) (S:Sto),I ws σ S→forL g b E D G ws σ S
 | [],σ,S,h=>done σ S h
 |w::ws,σ,S,h=>step w ws σ S _ h λσ' S' S'' sb hG hI=>⟨S'',sb,hG,zmb I step done ws σ' S'' hI⟩
section
variable {E:WX}{σ:WSt}{S:Sto}{Q:WK}{QB:Bool→Sto→Prop}{QA:List W→Sto→Prop}{QI:List W→(Sto→Prop)→Sto→Prop}{QO:Option Int→Sto→Prop}{P:WSt→Sto→Prop}{D:WEnds}{w x y:W}{ws:List W}{EX:Str→Sto→Prop}
theorem zzS{i:Nat}:(wVar i E σ S Q)=(match σ[i]? with
 |some (ae w)=>Q w S
 |_=>False):=pz id id
theorem zCw{w:W}:(wC w E σ S Q)=(Q w S):=pz id id
theorem zBG{r:W2}{a b:WE}:(wOp r a b E σ S Q)=(a E σ S λx S1=>b E σ S1 λy S2=>r x y S2 Q):=pz id id
theorem zxZ{t:WE}:(zgN t E σ S QB)=(t E σ S λw S'=>zsw w S' QB):=pz id id
theorem zBB{t:WE}:(wTb t E σ S QB)=(t E σ S λw S'=>match w with
 | .bl b=>QB b S'
 |_=>False):=pz id id
theorem zzp{t u:WT}:(znC t u E σ S QB)=(t E σ S λc S1=>if c=true then u E σ S1 QB else QB false S1):=pz id id
theorem zAy{t u:WT}:(wOr t u E σ S QB)=(t E σ S λc S1=>if c=true then QB true S1 else u E σ S1 QB):=pz id id
theorem zxs{t:WT}:(ztE t E σ S QB)=(t E σ S λc S1=>QB (!c) S1):=pz id id
theorem zvj{t u:WE}:(zqR t u E σ S Q)=(t E σ S λw S1=>match w with
 | .bl true=>u E σ S1 Q
 | .bl false=>Q (.bl false) S1
 |_=>False):=pz id id
theorem zyQ{t u:WE}:(zAj t u E σ S Q)=(t E σ S λw S1=>match w with
 | .bl false=>u E σ S1 Q
 | .bl true=>Q (.bl true) S1
 |_=>False):=pz id id
theorem zBr{c:WT}{t u:WE}:(wIf c t u E σ S Q)=(c E σ S λb S1=>if b=true then t E σ S1 Q else u E σ S1 Q):=pz id id
theorem zxX{c:WT}{t u:WS}:(zcq c t u E D σ S)=(c E σ S λb S1=>if b=true then t E D σ S1 else u E D σ S1):=pz id id
theorem zvD:(wNext  E D σ S)=(D.nx σ S):=pz id id
theorem zyd{t u:WS}:(zas t u E D σ S)=(t E { D with nx:=u E D } σ S):=pz id id
theorem zxM{e:WE}:(wRet e E D σ S)=(e E σ S D.rt):=pz id id
theorem zws{e:WE}:(zcG e E D σ S)=(e E σ S λ_ S1=>D.nx σ S1):=pz id id
theorem zhP{i:Nat}:(wGN i w σ S P)=(P (σ.set i (ae w)) S):=pz id id
theorem zzJ{e:WE}{g:WG}:(wAsg e g E D σ S)=(e E σ S λw S1=>g w σ S1 D.nx):=pz id id
theorem zqi:(zdP  ws σ S P)=(match ws with
 | []=>P σ S
 |_=>False):=pz id id
theorem zjF{g:WG}{u:WGs}:(zaD g u ws σ S P)=(match ws with
 | []=>False
 |w::r=>g w σ S λσ' S'=>u r σ' S' P):=pz id id
theorem zyO{u:WGs}:(wGT u w σ S P)=(match w with
 | .tup ws=>u ws σ S P
 |_=>False):=pz id id
theorem zwp:(waNil  E σ S QA)=(QA [] S):=pz id id
theorem zsO{t:WE}{u:WA}:(zab t u E σ S QA)=(t E σ S λw S1=>u E σ S1 λws S2=>QA (w::ws) S2):=pz id id
theorem zzT{t:WA}:(zcf t E σ S Q)=(t E σ S λws S1=>ws.length≤sizeLine∧Q (.tup ws) S1):=pz id id
theorem zzd{t:WA}:(zdF t E σ S QA)=(t E σ S λws S1=>ws.length≤sizeLine∧QA ws S1):=pz id id
theorem zxy{t:WL}:(zcX t E σ S Q)=(t E σ S λws S1=>∀a,S1 a=none→Q (.ref a) (put S1 a (.lst ws))):=pz id id
theorem zwQ{c:WSp}{t:WA}:(zan c t E σ S Q)=(t E σ S λws S1=>c ws S1 Q λcl S2=>E cl σ S2):=pz id id
theorem zfD{n k:Nat}{body:WS}:(zca n k body ws S Q EX)=(ws.length=k∧body (λc _ S'=>EX c S') { nx:=λ_ S'=>∃S'',Sub S'' S'∧Q .non S'',rt:=λw S'=>∃S'',Sub S'' S'∧Q w S'' } (ws.map ae++aN (n - k) none) S):=pz id id
theorem zyr{t:WE}:(zmc t E σ S Q)=(t E σ S λw S1=>match w with
 | .int i=>Q (.int (-i)) S1
 |_=>False):=pz id id
theorem zAm{t u:WE}:(zBa t u E σ S QA)=(t E σ S λx S1=>u E σ S1 λy S2=>match x,y with
 | .ref a, .ref b=>zcU S2 a λxs=>zcU S2 b λys=>xs.length+ys.length≤sizeLine∧QA (xs++ys) S2
 |_,_=>False):=pz id id
theorem zAG{neg:Bool}:(oEq neg x y S Q)=(match eqF S 60 x y with
 |some b=>Q (.bl (if neg then !b else b)) S
 |none=>False):=pz id id
theorem ztf{r r':W2}{a b c:WE}:(zll r r' a b c E σ S Q)=(a E σ S λx S1=>b E σ S1 λy S2=>r x y S2 λz S3=>match z with
 | .bl true=>c E σ S3 λu S4=>r' y u S4 Q
 | .bl false=>Q (.bl false) S3
 |_=>False):=pz id id
theorem zBc:(woN  E σ S QO)=(QO none S):=pz id id
theorem zBA{t:WE}:(woS t E σ S QO)=(t E σ S λw S1=>match w with
 | .int i=>QO (ae i) S1
 |_=>False):=pz id id
theorem zAB{t:WE}{l h:WO}:(wSl t l h E σ S Q)=(t E σ S λx S1=>l E σ S1 λlo S2=>h E σ S2 λhi S3=>oSl x lo hi S3 Q):=pz id id
theorem zBR{f:WF}{t:WA}:(wB f t E σ S Q)=(t E σ S λws S1=>f ws S1 Q):=pz id id
theorem zAO{f:WF}{t:WL}:(wBL f t E σ S Q)=(t E σ S λws S1=>f ws S1 Q):=pz id id
theorem zqG:(zgz  ws S Q)=(Q (.tup ws) S):=pz id id
theorem zpW{t:WE}:(zjr t E σ S QA)=(t E σ S λw S1=>match w with
 | .tup ws=>QA ws S1
 | .ref a=>zcU S1 a λws=>QA ws S1
 | .scr ns=>QA (ns.map W.int) S1
 |_=>False):=pz id id
theorem zvS:(zms  ws S Q)=(match zih ws with
 |some bs=>Q (.bl (bs.all _root_.id)) S
 |none=>False):=pz id id
theorem zys{T:String}{t:WE}:(zsx T t E σ S Q)=(t E σ S λw S1=>tyW w S1 λA=>Q (.bl (zcu A T)) S1):=pz id id
theorem zCL{rv:W→Sto→Prop}{f:WMf}{to:WE}{t:WA}:(wM rv f to t E σ S Q)=(to E σ S λw S1=>rv w S1∧t E σ S1 λws S2=>f w ws S2 Q):=pz id id
theorem zAI{rv:W→Sto→Prop}{f:WMf}{to:WE}{t:WL}:(wML rv f to t E σ S Q)=(to E σ S λw S1=>rv w S1∧t E σ S1 λws S2=>f w ws S2 Q):=pz id id
theorem zzP{i:Nat}{g:Int→Int→Int}{e:WE}:(zzB i g e E D σ S)=(match σ[i]? with
 |some (ae (.int a))=>e E σ S λw S1=>match w with
  | .int b=>D.nx (σ.set i (ae (.int (g a b)))) S1
  |_=>False
 |_=>False):=pz id id
theorem zzw{q:WI}{g:WG}{b:WS}:(zgO q g b E D σ S)=(q E σ S λws G S1=>forL g b E D G ws σ S1):=pz id id
theorem zBy{t:WE}:(wIv t E σ S QI)=(t E σ S λw S1=>match w with
 | .tup ws=>QI ws (λ_=>True) S1
 | .ref a=>zcU S1 a λws=>QI ws (λS'=>S' a=ae (.lst ws)) S1
 | .scr ns=>QI (ns.map W.int) (λ_=>True) S1
 | .str z=>QI (zkS z) (λ_=>True) S1
 |_=>False):=pz id id
theorem zAU{t:WL}:(wIl t E σ S QI)=(t E σ S λws S1=>QI ws (λ_=>True) S1):=pz id id
theorem zzD{t:WA}:(zvV t E σ S QI)=(t E σ S λws S1=>match ws with
 | [.int j]=>(-(2 ^ 62)≤j∧j<2 ^ 62)∧QI (zpm 0 j.toNat) (λ_=>True) S1
 |_=>False):=pz id id
theorem zzn:(zfg  E σ S QB)=(QB true S):=pz id id
theorem zvs{k:Nat}{fr:List Nat}{q:WI}{g:WG}{c:WT}{e:WE}:(zck k fr q g c e E σ S QA)=(q noE σ S λws G S1=>zfb g c e noE G QA ws [] (aN k none++fr.map λj=>(σ[j]?).join) S1):=pz id id
theorem zwg{t:WE}:(zqo t E σ S QI)=(t E σ S λw S1=>zpD w S1 λws G=>QI (ziN 0 ws) G S1):=pz id id
theorem zzs{t u:WE}:(zvT t u E σ S QI)=(t E σ S λx S1=>u E σ S1 λy S2=>zpD x S2 λxs G=>zpD y S2 λys G'=>QI (pairs xs ys) (λS'=>G S'∧G' S') S2):=pz id id
theorem zvM{t:WE}{l h:WO}:(zxn t l h E σ S QA)=(t E σ S λx S1=>l E σ S1 λlo S2=>h E σ S2 λhi S3=>match x with
 | .ref a=>zcU S3 a λws=>QA (zer ws lo hi) S3
 | .scr ns=>QA ((zer ns lo hi).map W.int) S3
 |_=>False):=pz id id
theorem zza{t:WL}{u:WE}:(ztV t u E σ S Q)=(t E σ S λws S1=>u E σ S1 λy S2=>match y with
 | .int i=>match atI ws i with
  |some w=>Q w S2
  |none=>False
 |_=>False):=pz id id
theorem zwi{t:WE}{u:WL}:(zwD t u E σ S QA)=(t E σ S λx S1=>u E σ S1 λys S2=>match x with
 | .ref a=>zcU S2 a λxs=>xs.length+ys.length≤sizeLine∧QA (xs++ys) S2
 |_=>False):=pz id id
theorem zuZ{t u:WL}:(zoU t u E σ S QA)=(t E σ S λxs S1=>u E σ S1 λys S2=>xs.length+ys.length≤sizeLine∧QA (xs++ys) S2):=pz id id
theorem zvq{t:WL}{u:WE}:(zuc t u E σ S QA)=(t E σ S λxs S1=>u E σ S1 λy S2=>match y with
 | .ref a=>zcU S2 a λys=>xs.length+ys.length≤sizeLine∧QA (xs++ys) S2
 |_=>False):=pz id id
theorem zwI{t:WL}{u:WE}:(zsL t u E σ S QA)=(t E σ S λxs S1=>u E σ S1 λy S2=>match y with
 | .int k=>(-(2 ^ 63)≤k∧k<2 ^ 63∧xs.length*k.toNat≤sizeLine)∧QA (aN k.toNat xs).flatten S2
 |_=>False):=pz id id
end
section
variable {S:Sto}{Q:WK}
theorem zzh{xs:List W}{k:Int}:zAN (.tup xs) (.int k) S Q=((xs≠ []∧ -(2 ^ 63)≤k∧k<2 ^ 63∧xs.length*k.toNat≤sizeLine)∧Q (.tup (aN k.toNat xs).flatten) S):=pz id id
theorem zBe{neg:Bool}{y:W}{a:Addr}:zzR neg y (.ref a) S Q=(match zqI y with
 |some k=>ztn S a λkvs=>Q (.bl (if neg then !(zgH kvs k).isSome else(zgH kvs k).isSome)) S
 |none=>False):=pz id id
theorem zzO{y:W}{a:Addr}:zAV (.ref a) y S Q=(match zqI y with
 |some k=>ztn S a λkvs=>match zgH kvs k with
  |some w=>Q w S
  |none=>False
 |none=>False):=pz id id
theorem zwJ{ws:List W}:(zmu ws S Q)=(match zbt ws with
 |some ns=>Q (.int ns.sum) S
 |none=>False):=pz id id
theorem zwv{z:Str}:zop (.str z) [] S Q=(z.length≤5592405∧Q (.str (dD z)) S):=pz id id
theorem zgu:∀p:List Int,zbt (p.map W.int)=ae p
 | []=>rfl
 |i::p=>by rw[az,zbt,zgu p];rfl
theorem zAu (p:List Int):zqI (zbZ p)=ae p:=zgu p
theorem zsN{a:Addr}{kvs:List (List Int×W)}{P:List (List Int×W)→Prop}:ztn (put S a (.dct kvs)) a P=P kvs:=zmA zah
end
end L2
end
section
def L2.wZ (d:String):Lean.MacroM (Lean.TSyntax `tactic):=do
  let a:Array Lean.Term:=(("L2.zzS L2.zCw L2.zBG L2.zxZ L2.zBB L2.zzp L2.zAy L2.zxs L2.zvj L2.zyQ L2.zBr L2.zxX L2.zvD L2.zyd L2.zxM L2.zws L2.zhP L2.zzJ L2.zqi L2.zjF L2.zyO L2.zwp L2.zsO L2.zzT L2.zzd L2.zxy L2.zwQ L2.zfD L2.zyr L2.zAG L2.ztf L2.zBc L2.zBA L2.zAB L2.zBR L2.zAO L2.zqG L2.zpW L2.zvS L2.zys L2.zCL L2.zAI L2.zzP L2.zzw L2.zBy L2.zAU L2.zzD L2.zzn L2.zvs L2.zwg L2.zzs L2.zvM L2.zza L2.zwi L2.zuZ L2.zvq L2.zwI ztx zyf L2.zzh L2.zBe L2.zzO L2.zwJ L2.zsY L2.zwv L2.zAu L2.zsN L2.zhd L2.zaY L2.zzi L2.zym L2.zBi L2.zwH L2.zjQ L2.zmk L2.zkq L2.zmq L2.ziZ L2.zks L2.zlb L2.zjt L2.zkz L2.ziw L2.zjJ L2.zmd L2.zko L2.zlE L2.zjO L2.zkI L2.zjh L2.zir L2.zjg L2.sub_tuple_tuple L2.sub_tuple_list L2.zlh L2.zju L2.zlx L2.sub_list_tuple L2.sub_list_list L2.ztG L2.zpP L2.zrk L2.zrw L2.zpI L2.zjV L2.zid L2.zvH L2.zsJ L2.zsD L2.ztP L2.zsQ L2.ztv L2.zqh L2.zrT L2.zhO L2.zrg L2.zBv L2.zyx L2.zsK L2.zua L2.zqn L2.zrn L2.zqc L2.zql L2.ztA L2.ztK L2.zsA L2.ztq L2.zsS L2.ztR L2.zsB L2.ztj L2.zmo L2.zmH L2.ztX L2.zAi L2.zkU L2.zkx L2.zqB L2.zAp L2.zAQ L2.zsG L2.zpN L2.zzM L2.zzx L2.zzq L2.zve L2.ztM L2.zwb L2.zvI L2.zvn L2.zwj L2.zwG L2.ztJ L2.ztO L2.ztF List.map_cons List.map_nil List.length_cons List.length_nil List.cons_append List.nil_append List.append_nil List.replicate List.getElem?_cons_zero List.getElem?_cons_succ List.getElem?_nil List.set_cons_zero List.set_cons_succ Nat.reduceAdd Nat.reduceSub true_and and_true if_true if_false Bool.false_eq_true reduceIte Bool.not_true Bool.not_false Option.join_some Option.join_none decide_eq_true_eq and_self".splitOn " ").filter (· != d)).toArray.map λs=>Lean.mkIdent s.toName
  `(tactic| simp only [$[$a:term],*])
local macro_rules | `(tactic| walk_at "wp") => L2.wZ ""
section
namespace L2
open PySem PySem.Spec PyProof.Rows
section
variable {E:WX}{D:WEnds}{σ:WSt}{S:Sto}{Q:WK}
theorem ztx{c:WSp}{t:WA}:(zol c t E σ S Q)=(t noX σ S λws S1=>c ws S1 Q λcl S2=>E cl σ S2):=pz id id
theorem zhi{x:Str}{t:WA}:(zhU x t E D σ S)=(t E σ S λws S1=>ws.length≤sizeLine∧E x σ S1):=pz id id
theorem zyf{al:List Str}{t u:WS}:(zAb al t u E D σ S)=(t (λcl σ' S'=>cl∈al∧u noX D σ' S') D σ S):=pz id id
end
noncomputable def zcS:Nat→WSp
 |0=>zaJ
 |r+1=>zca 1 1 (zas (zcq (zgN (zsx "int" (wVar 0))) (wRet (zcf waNil)) wNext)
  (wRet (wSl (wVar 0) (woS (wC (.int 1))) woN)))
noncomputable def zdg (r:Nat) (self:WSp):WS:=(zcG (wM rvL zim (wVar 1) (zab (zan (zcS r) (zab (wVar 2) waNil)) waNil)))
noncomputable def zcd:Nat→WSp
 |0=>zaJ
 |r+1=>zca 3 1 (zas (wAsg (zcX (zdF waNil)) (wGN 1))
  (zas (zgO (wIv (wVar 0)) (wGN 2) (zdg r zaJ))
  (wRet (wVar 1))))
noncomputable def zgK (r:Nat) (self:WSp):WS:=(zas (zzB 1 (λa b=>a+b) (wB zfz (zab (wVar 3) waNil)))
  (zas (zzB 2 (λa b=>a+b) (wC (.int 1)))
  (zas (zcq (wOr (wTb (wOp oGt (wVar 1) (wC (.int 400)))) (wTb (wOp oGt (wVar 2) (wC (.int 40))))) (wRet (wC (.bl false))) wNext)
  (wAsg (zan (zcd r) (zab (wVar 3) waNil)) (wGN 3)))))
noncomputable def zdZ:Nat→WSp
 |0=>zaJ
 |r+1=>zca 4 1 (zas (wAsg (wC (.int 0)) (wGN 1))
  (zas (wAsg (wC (.int 0)) (wGN 2))
  (zas (wAsg (zcX (zdF (zab (wVar 0) waNil))) (wGN 3))
  (zas (zot (zgN (wVar 3)) (zgK r zaJ))
  (wRet (wC (.bl true)))))))
noncomputable def zcR (r:Nat) (self:WSp):WS:=(zcG (zan self (zab (wVar 4) (zab (wOp zdT (wVar 1) (zcf (zab (wVar 3) waNil))) (zab (wVar 2) waNil)))))
noncomputable def zaP:Nat→WSp
 |0=>zaJ
 |r+1=>zca 5 3 (zas (zcG (wM rvL zbQ (wVar 2) (zab (wVar 1) waNil)))
  (zgO (zqo (zan (zcS r) (zab (wVar 0) waNil))) (wGT (zaD (wGN 3) (zaD (wGN 4) zdP))) (zcR r (zaP r))))
noncomputable def zfR:Nat→WSp
 |0=>zaJ
 |r+1=>zca 2 1 (zas (wAsg (zcX (zdF waNil)) (wGN 1))
  (zas (zcG (zan (zaP r) (zab (wVar 0) (zab (zcf waNil) (zab (wVar 1) waNil)))))
  (wRet (wVar 1))))
noncomputable def zbM:Nat→WSp
 |0=>zaJ
 |r+1=>zca 3 2 (zas (wAsg (zan (zcS r) (zab (wVar 0) waNil)) (wGN 2))
  (zas (zcq (wOr (wTb (wOp oLt (wVar 1) (wC (.int 0)))) (wTb (wOp oGe (wVar 1) (wB zfz (zab (wVar 2) waNil))))) (zhU "NoPlace" (zab (wC (.str "there is no such place")) waNil)) wNext)
  (wRet (wOp oIx (wVar 2) (wVar 1)))))
noncomputable def zjl (r:Nat) (self:WSp):WS:=(wAsg (zan (zbM r) (zab (wVar 2) (zab (wVar 3) waNil))) (wGN 2))
noncomputable def zkt:Nat→WSp
 |0=>zaJ
 |r+1=>zca 4 2 (zas (wAsg (wVar 0) (wGN 2))
  (zas (zgO (wIv (wVar 1)) (wGN 3) (zjl r zaJ))
  (wRet (wVar 2))))
noncomputable def zgR (r:Nat) (self:WSp):WE:=(wVar 0)
noncomputable def zce:Nat→WSp
 |0=>zaJ
 |r+1=>zca 1 1 (wRet (zcX (zck 1 [0] (wIv (zan (zfR r) (zab (wVar 0) waNil))) (wGN 0) (zgN (zsx "int" (zan (zkt r) (zab (wVar 1) (zab (wVar 0) waNil))))) (zgR r zaJ))))
noncomputable def ziT (r:Nat) (self:WSp):WE:=(zan self (zab (wVar 0) (zab (wVar 1) waNil)))
noncomputable def zdj:Nat→WSp
 |0=>zaJ
 |r+1=>zca 2 2 (zas (zcq (zgN (zsx "int" (wVar 0))) (wRet (wOp oIx (wVar 1) (wVar 0))) wNext)
  (wRet (wOp zdT (zcf (zab (wOp oIx (wVar 0) (wC (.int 0))) waNil)) (wBL zgz (zck 1 [1] (wIv (wSl (wVar 0) (woS (wC (.int 1))) woN)) (wGN 0) zfg (ziT r (zdj r)))))))
noncomputable def zcb:Nat→WSp
 |0=>zaJ
 |r+1=>zca 2 2 (wRet (zqR (wOp (oEq false) (wOp oIx (wVar 0) (wC (.int 0))) (wOp oIx (wVar 1) (wC (.int 0)))) (wOp (oEq false) (wB zfz (zab (wVar 0) waNil)) (wB zfz (zab (wVar 1) waNil)))))
noncomputable def zcA (r:Nat) (self:WSp):WS:=(zcq (ztE (zgN (zan self (zab (wVar 3) (zab (wVar 4) (zab (wVar 2) waNil)))))) (wRet (wC (.bl false))) wNext)
noncomputable def zaC:Nat→WSp
 |0=>zaJ
 |r+1=>zca 5 3 (zas (zcq (zgN (zsx "int" (wVar 0))) (zas (zcG (wM rvL zbQ (wVar 2) (zab (wVar 1) waNil)))
  (wRet (wC (.bl true)))) wNext)
  (zas (zcq (ztE (zgN (zan (zcb r) (zab (wVar 0) (zab (wVar 1) waNil))))) (wRet (wC (.bl false))) wNext)
  (zas (zgO (zvT (wSl (wVar 0) (woS (wC (.int 1))) woN) (wSl (wVar 1) (woS (wC (.int 1))) woN)) (wGT (zaD (wGN 3) (zaD (wGN 4) zdP))) (zcA r (zaC r)))
  (wRet (wC (.bl true))))))
noncomputable def zcg:Nat→WSp
 |0=>zaJ
 |r+1=>zca 3 2 (zas (wAsg (zcX (zdF waNil)) (wGN 2))
  (zas (zcq (zgN (zan (zaC r) (zab (wVar 0) (zab (wVar 1) (zab (wVar 2) waNil))))) (wRet (wVar 2)) wNext)
  (wRet (wC .non))))
noncomputable def zde (r:Nat) (self:WSp):WE:=(zll oLe oLe (wC (.str "a")) (wVar 0) (wC (.str "z")))
noncomputable def zaX:Nat→WSp
 |0=>zaJ
 |r+1=>zca 1 1 (wRet (wBL zms (zck 1 [] (wIv (wVar 0)) (wGN 0) zfg (zde r zaJ))))
noncomputable def zeC:Nat→WSp
 |0=>zaJ
 |r+1=>zca 1 1 (wRet (zqR (zll oLe oLe (wC (.int 1)) (wB zfz (zab (wVar 0) waNil)) (wC (.int 8))) (zan (zaX r) (zab (wVar 0) waNil))))
noncomputable def zff (r:Nat) (self:WSp):WS:=(zcq (wTb (wOp (oEq false) (wOp oIx (wVar 2) (wC (.int 0))) (wVar 1))) (wRet (wVar 2)) wNext)
noncomputable def zaU:Nat→WSp
 |0=>zaJ
 |r+1=>zca 3 2 (zas (zgO (wIv (wVar 0)) (wGN 2) (zff r zaJ))
  (wRet (wC .non)))
noncomputable def zgD (r:Nat) (self:WSp):WE:=(zan self (zab (wVar 0) waNil))
noncomputable def zdm:Nat→WSp
 |0=>zaJ
 |r+1=>zca 1 1 (wRet (zqR (zan (zeC r) (zab (wOp oIx (wVar 0) (wC (.int 0))) waNil)) (wBL zms (zck 1 [] (wIv (wSl (wVar 0) (woS (wC (.int 1))) woN)) (wGN 0) zfg (zgD r (zdm r))))))
noncomputable def zbo:Nat→WSp
 |0=>zaJ
 |r+1=>zca 1 1 (zas (zcq (ztE (zgN (zan (zdZ r) (zab (wVar 0) waNil)))) (zhU "TooGreat" (zab (wC (.str "the shape is not small")) waNil)) wNext)
  (wRet (wVar 0)))
noncomputable def zfm (r:Nat) (self:WSp):WE:=(zan self (zab (wVar 1) (zab (wVar 0) (zab (wVar 2) waNil))))
noncomputable def zbP:Nat→WSp
 |0=>zaJ
 |r+1=>zca 5 3 (zas (wAsg (zcX (zck 1 [0,2] (wIv (wSl (wVar 1) (woS (wC (.int 1))) woN)) (wGN 0) zfg (zfm r (zbP r)))) (wGN 3))
  (zas (wAsg (zan (zaU r) (zab (wVar 0) (zab (wOp oIx (wVar 1) (wC (.int 0))) waNil))) (wGN 4))
  (zas (zcq (wTb (wOp (oIs false) (wVar 4) (wC .non))) (wRet (wOp zdT (zcf (zab (wOp oIx (wVar 1) (wC (.int 0))) waNil)) (wB zea (zab (wVar 3) waNil)))) wNext)
  (wRet (zan (zdj r) (zab (wOp oIx (wVar 4) (wVar 2)) (zab (wVar 3) waNil)))))))
noncomputable def zeS:Nat→WSp
 |0=>zaJ
 |r+1=>zca 2 2 (wRet (zan (zbo r) (zab (zan (zbP r) (zab (wVar 0) (zab (wVar 1) (zab (wC (.int 1)) waNil)))) waNil)))
noncomputable def zfk:Nat→WSp
 |0=>zaJ
 |r+1=>zca 2 2 (wRet (zan (zbo r) (zab (zan (zbP r) (zab (wVar 0) (zab (wVar 1) (zab (wC (.int 2)) waNil)))) waNil)))
noncomputable def zeG (r:Nat) (self:WSp):WE:=(zcf (zab (wVar 0) waNil))
noncomputable def zbU:Nat→WSp
 |0=>zaJ
 |r+1=>zca 3 2 (zas (wAsg (zan (zaU r) (zab (wVar 0) (zab (wOp oIx (wVar 1) (wC (.int 0))) waNil))) (wGN 2))
  (zas (zcq (wTb (wOp (oIs false) (wVar 2) (wC .non))) (wRet (zcX (zck 1 [] (zvV (zab (wOp (zfK λi j=> .int (i - j)) (wB zfz (zab (wVar 1) waNil)) (wC (.int 1))) waNil)) (wGN 0) zfg (zeG r zaJ)))) wNext)
  (wRet (zan (zce r) (zab (wOp oIx (wVar 2) (wC (.int 1))) waNil)))))
noncomputable def zey (r:Nat) (self:WSp):WS:=(zcq (wTb (wOp (oIs true) (zan (zcg r) (zab (wOp oIx (wVar 2) (wC (.int 1))) (zab (wVar 1) waNil))) (wC .non))) (wRet (wVar 2)) wNext)
noncomputable def zbu:Nat→WSp
 |0=>zaJ
 |r+1=>zca 3 2 (zas (zgO (wIv (wVar 0)) (wGN 2) (zey r zaJ))
  (wRet (wC .non)))
noncomputable def zdz (r:Nat) (self:WSp):WS:=(zcG (zan self (zab (wVar 0) (zab (wVar 6) (zab (wOp zdT (wVar 2) (zcf (zab (wVar 5) waNil))) (zab (wVar 3) waNil))))))
noncomputable def zbr:Nat→WSp
 |0=>zaJ
 |r+1=>zca 7 4 (zas (wAsg (zan (zbu r) (zab (wVar 0) (zab (wVar 1) waNil))) (wGN 4))
  (zas (zcq (wTb (wOp (oIs true) (wVar 4) (wC .non))) (zcG (wM rvL zbQ (wVar 3) (zab (zcf (zab (wVar 2) (zab (wOp oIx (wVar 4) (wC (.int 0))) waNil))) waNil))) wNext)
  (zgO (zqo (wSl (wVar 1) (woS (wC (.int 1))) woN)) (wGT (zaD (wGN 5) (zaD (wGN 6) zdP))) (zdz r (zbr r)))))
noncomputable def zbj:Nat→WSp
 |0=>zaJ
 |r+1=>zca 3 2 (zas (wAsg (zcX (zdF waNil)) (wGN 2))
  (zas (zcG (zan (zbr r) (zab (wVar 0) (zab (wVar 1) (zab (zcf waNil) (zab (wVar 2) waNil))))))
  (wRet (wVar 2))))
noncomputable def zgb (r:Nat) (self:WSp):WE:=(wOp oIx (wVar 0) (wC (.int 0)))
noncomputable def zcI:Nat→WSp
 |0=>zaJ
 |r+1=>zca 1 1 (wRet (zcX (zck 1 [] (wIv (wVar 0)) (wGN 0) zfg (zgb r zaJ))))
noncomputable def zcY:Nat→WSp
 |0=>zaJ
 |r+1=>zca 3 2 (zas (wAsg (zan (zbu r) (zab (wVar 0) (zab (wVar 1) waNil))) (wGN 2))
  (wRet (wOp zdT (zcf (zab (wOp oIx (wVar 2) (wC (.int 0))) waNil)) (wB zea (zab (zan (zcg r) (zab (wOp oIx (wVar 2) (wC (.int 1))) (zab (wVar 1) waNil))) waNil)))))
noncomputable def zcV (r:Nat) (self:WSp):WS:=(zcG (wM rvL zbQ (wVar 5) (zab (zan self (zab (wVar 0) (zab (wVar 7) (zab (wOp zdT (wVar 2) (wVar 6)) (zab (wVar 3) waNil))))) waNil)))
noncomputable def zaV:Nat→WSp
 |0=>zaJ
 |r+1=>zca 8 4 (zas (wAsg (wIf (wTb (wOp (zzR false) (wVar 2) (wVar 3))) (zan (zcY r) (zab (wVar 0) (zab (wVar 1) waNil))) (wVar 1)) (wGN 4))
  (zas (wAsg (zcX (zdF waNil)) (wGN 5))
  (zas (zgO (zvT (zan (zbU r) (zab (wVar 0) (zab (wVar 4) waNil))) (wSl (wVar 4) (woS (wC (.int 1))) woN)) (wGT (zaD (wGN 6) (zaD (wGN 7) zdP))) (zcV r (zaV r)))
  (wRet (wOp zdT (zcf (zab (wOp oIx (wVar 4) (wC (.int 0))) waNil)) (wB zea (zab (wVar 5) waNil)))))))
noncomputable def zgE (r:Nat) (self:WSp):WE:=(zcf (zab (wVar 0) (zab (wC (.bl true)) waNil)))
noncomputable def zdl:Nat→WSp
 |0=>zaJ
 |r+1=>zca 3 3 (wRet (zan (zaV r) (zab (wVar 0) (zab (wVar 1) (zab (zcf waNil) (zab (wBL zkC (zck 1 [] (wIv (wVar 2)) (wGN 0) zfg (zgE r zaJ))) waNil))))))
noncomputable def ziJ (r:Nat) (self:WSp):WS:=(zcq (wTb (wOp (oIn true) (wVar 4) (wVar 3))) (zhU "NoUse" (zab (wC (.str "no use is open at one of the places")) waNil)) wNext)
noncomputable def zfH:Nat→WSp
 |0=>zaJ
 |r+1=>zca 5 3 (zas (wAsg (zan (zcI r) (zab (zan (zbj r) (zab (wVar 0) (zab (wVar 1) waNil))) waNil)) (wGN 3))
  (zas (zgO (wIv (wVar 2)) (wGN 4) (ziJ r zaJ))
  (wRet (zan (zdl r) (zab (wVar 0) (zab (wVar 1) (zab (wVar 2) waNil)))))))
noncomputable def zee:Nat→WSp
 |0=>zaJ
 |r+1=>zca 2 2 (wRet (zan (zdl r) (zab (wVar 0) (zab (wVar 1) (zab (zan (zcI r) (zab (zan (zbj r) (zab (wVar 0) (zab (wVar 1) waNil))) waNil)) waNil)))))
noncomputable def ziB (r:Nat) (self:WSp):WS:=(zas (wAsg (zan (zee r) (zab (wVar 0) (zab (wVar 4) waNil))) (wGN 5))
  (zas (wAsg (zan (zfk r) (zab (wVar 0) (zab (wVar 5) waNil))) (wGN 4))
  (zcG (wM rvL zbQ (wVar 3) (zab (wVar 5) waNil)))))
noncomputable def zfC:Nat→WSp
 |0=>zaJ
 |r+1=>zca 6 3 (zas (wAsg (zcX (zdF waNil)) (wGN 3))
  (zas (wAsg (wVar 1) (wGN 4))
  (zas (zot (znC (wTb (wOp oLt (wB zfz (zab (wVar 3) waNil)) (wVar 2))) (zgN (zan (zbj r) (zab (wVar 0) (zab (wVar 4) waNil))))) (ziB r zaJ))
  (wRet (zcf (zab (zcf (zab (wVar 1) (zab (wVar 3) waNil))) (zab (zsM (zan (zbj r) (zab (wVar 0) (zab (wVar 4) waNil)))) waNil)))))))
noncomputable def zcp:Nat→WSp
 |0=>zaJ
 |r+1=>zca 4 3 (zas (wAsg (zan (zeS r) (zab (wVar 0) (zab (wVar 1) waNil))) (wGN 3))
  (zas (zcq (wTb (wOp (oEq true) (zan (zeS r) (zab (wVar 0) (zab (wVar 2) waNil))) (wVar 3))) (zhU "Apart" (zab (wC (.str "the ways have not the same source")) waNil)) wNext)
  (wRet (wVar 3))))
noncomputable def zhM (r:Nat) (self:WSp):WE:=(zan self (zab (wVar 2) (zab (wVar 0) (zab (wVar 1) waNil))))
noncomputable def zcJ:Nat→WSp
 |0=>zaJ
 |r+1=>zca 8 3 (zas (wAsg (zan (zaU r) (zab (wVar 0) (zab (wOp oIx (wVar 1) (wC (.int 0))) waNil))) (wGN 3))
  (zas (wAsg (zan (zaU r) (zab (wVar 0) (zab (wOp oIx (wVar 2) (wC (.int 0))) waNil))) (wGN 4))
  (zas (wAsg (wSl (wVar 1) (woS (wC (.int 1))) woN) (wGN 5))
  (zas (wAsg (wSl (wVar 2) (woS (wC (.int 1))) woN) (wGN 6))
  (zas (zcq (znC (wTb (wOp (oIs false) (wVar 3) (wC .non))) (wTb (wOp (oIs true) (wVar 4) (wC .non)))) (wAsg (zan (zcg r) (zab (wOp oIx (wVar 4) (wC (.int 1))) (zab (wVar 1) waNil))) (wGN 5)) wNext)
  (zas (zcq (znC (wTb (wOp (oIs true) (wVar 3) (wC .non))) (wTb (wOp (oIs false) (wVar 4) (wC .non)))) (wAsg (zan (zcg r) (zab (wOp oIx (wVar 3) (wC (.int 1))) (zab (wVar 2) waNil))) (wGN 6)) wNext)
  (zas (wAsg (zcX (zck 2 [0] (zvT (wVar 5) (wVar 6)) (wGT (zaD (wGN 0) (zaD (wGN 1) zdP))) zfg (zhM r (zcJ r)))) (wGN 7))
  (zas (zcq (wTb (wOp (oIs false) (wVar 4) (wC .non))) (wRet (wOp zdT (zcf (zab (wOp oIx (wVar 1) (wC (.int 0))) waNil)) (wB zea (zab (wVar 7) waNil)))) wNext)
  (wRet (zan (zdj r) (zab (wOp oIx (wVar 4) (wC (.int 2))) (zab (wVar 7) waNil))))))))))))
noncomputable def zdi:Nat→WSp
 |0=>zaJ
 |r+1=>zca 3 3 (zas (zcG (zan (zcp r) (zab (wVar 0) (zab (wVar 1) (zab (wVar 2) waNil)))))
  (zas (zcG (zan (zfk r) (zab (wVar 0) (zab (wVar 2) waNil))))
  (wRet (zan (zcJ r) (zab (wVar 0) (zab (wVar 1) (zab (wVar 2) waNil)))))))
noncomputable def zlV (r:Nat):WS:=(wRet (zan (zfk r) (zab (wVar 0) (zab (wOp oIx (wOp oIx (wVar 1) (wC (.int 1))) (zmc (wC (.int 1)))) waNil))))
noncomputable def zlW (r:Nat) (T:WS):WS:=(zas (zcq (ztE (zgN (wOp oIx (wVar 1) (wC (.int 1))))) (wRet (wOp oIx (wVar 1) (wC (.int 0)))) wNext) T)
noncomputable def zoF:Nat→WSp
 |0=>zaJ
 |r+1=>zca 2 2 (zlW r (zlV r))
noncomputable def zdr (r:Nat) (self:WSp):WS:=(zcG (zan (zfk r) (zab (wVar 0) (zab (wVar 2) waNil))))
noncomputable def zaT:Nat→WSp
 |0=>zaJ
 |r+1=>zca 3 2 (zgO (wIv (wVar 1)) (wGN 2) (zdr r zaJ))
noncomputable def zcz (r:Nat):WS:=(wRet (wVar 3))
noncomputable def zch (r:Nat):WS:=(zcG (wM rvL zbQ (wVar 3) (zab (wVar 5) waNil)))
noncomputable def zcj (r:Nat) (T:WS):WS:=(zas (zcG (zan (zaT r) (zab (wVar 0) (zab (zcX (zdF (zab (wVar 5) waNil))) waNil)))) T)
noncomputable def zci (r:Nat) (T:WS):WS:=(zas (wAsg (zan (zcJ r) (zab (wVar 0) (zab (wOp oIx (wVar 3) (zmc (wC (.int 1)))) (zab (wVar 4) waNil)))) (wGN 5)) T)
noncomputable def zcv (r:Nat) (self:WSp):WS:=(zci r (zcj r (zch r)))
noncomputable def zcC (r:Nat) (T:WS):WS:=(zas (zgO (wIv (wVar 2)) (wGN 4) (zcv r zaJ)) T)
noncomputable def zcx (r:Nat) (T:WS):WS:=(zas (wAsg (zcX (zdF (zab (wVar 1) waNil))) (wGN 3)) T)
noncomputable def zbs:Nat→WSp
 |0=>zaJ
 |r+1=>zca 6 3 (zcx r (zcC r (zcz r)))
noncomputable def zhh (r:Nat):WS:=(wRet (zcf (zab (wVar 3) (zab (wVar 5) waNil))))
noncomputable def zmL (r:Nat) (self:WSp):WE:=(zan (zcJ r) (zab (wVar 2) (zab (wVar 0) (zab (wVar 1) waNil))))
noncomputable def zeQ (r:Nat):WS:=(zcG (wM rvL zbQ (wVar 5) (zab (wVar 4) waNil)))
noncomputable def zeI (r:Nat) (T:WS):WS:=(zas (zcG (wM rvL zbQ (wVar 3) (zab (wVar 7) waNil))) T)
noncomputable def zeH (r:Nat) (T:WS):WS:=(zas (wAsg (zcX (zck 2 [0] (zvT (wVar 4) (wVar 7)) (wGT (zaD (wGN 0) (zaD (wGN 1) zdP))) zfg (zmL r zaJ))) (wGN 4)) T)
noncomputable def zgl (r:Nat) (T:WS):WS:=(zas (wAsg (zan (zbs r) (zab (wVar 0) (zab (wVar 6) (zab (wVar 4) waNil)))) (wGN 7)) T)
noncomputable def zhj (r:Nat) (self:WSp):WS:=(zgl r (zeH r (zeI r (zeQ r))))
noncomputable def zhp (r:Nat) (T:WS):WS:=(zas (zgO (wIv (wOp oIx (wVar 1) (wC (.int 1)))) (wGN 6) (zhj r zaJ)) T)
noncomputable def zfT (r:Nat) (T:WS):WS:=(zas (wAsg (zcX (zdF (zab (wVar 4) waNil))) (wGN 5)) T)
noncomputable def zfF (r:Nat) (T:WS):WS:=(zas (wAsg (zcX (zjr (wOp oIx (wVar 2) (wC (.int 1))))) (wGN 4)) T)
noncomputable def zfG (r:Nat) (T:WS):WS:=(zas (wAsg (zcX (zdF waNil)) (wGN 3)) T)
noncomputable def zhe (r:Nat) (T:WS):WS:=(zas (zcG (zan (zaT r) (zab (wVar 0) (zab (wOp oIx (wVar 2) (wC (.int 1))) waNil)))) T)
noncomputable def zgZ (r:Nat) (T:WS):WS:=(zas (zcG (zan (zaT r) (zab (wVar 0) (zab (wOp oIx (wVar 1) (wC (.int 1))) waNil)))) T)
noncomputable def zgh (r:Nat) (T:WS):WS:=(zas (zcG (zan (zbo r) (zab (wOp oIx (wVar 1) (wC (.int 0))) waNil))) T)
noncomputable def zgS (r:Nat) (T:WS):WS:=(zas (zcq (wTb (wOp (oEq true) (wOp oIx (wVar 1) (wC (.int 0))) (wOp oIx (wVar 2) (wC (.int 0))))) (zhU "Apart" (zab (wC (.str "the roads are not from one shape")) waNil)) wNext) T)
noncomputable def ziF:Nat→WSp
 |0=>zaJ
 |r+1=>zca 8 3 (zgS r (zgh r (zgZ r (zhe r (zfG r (zfF r (zfT r (zhp r (zhh r)))))))))
noncomputable def zdw (r:Nat):WS:=(wRet (zcf (zab (wOp oIx (wVar 1) (wC (.int 0))) (zab (wOp zdT (wOp oIx (wVar 1) (wC (.int 1))) (wOp oIx (wVar 3) (zmc (wC (.int 1))))) waNil))))
noncomputable def zdt (r:Nat) (T:WS):WS:=(zas (wAsg (wOp oIx (zan (ziF r) (zab (wVar 0) (zab (wVar 1) (zab (wVar 2) waNil)))) (wC (.int 1))) (wGN 3)) T)
noncomputable def zcw:Nat→WSp
 |0=>zaJ
 |r+1=>zca 4 3 (zdt r (zdw r))
noncomputable def zfN (r:Nat) (self:WSp):WE:=(zan (zdm r) (zab (wVar 0) waNil))
noncomputable def zdB:Nat→WSp
 |0=>zaJ
 |r+1=>zca 1 1 (wRet (wBL zms (zck 1 [] (wIv (wVar 0)) (wGN 0) zfg (zfN r zaJ))))
noncomputable def zfh (r:Nat) (self:WSp):WE:=(wOp oIx (wVar 0) (zmc (wC (.int 1))))
noncomputable def zdc:Nat→WSp
 |0=>zaJ
 |r+1=>zca 1 1 (wRet (zcX (zck 1 [] (wIv (wOp oIx (wVar 0) (wC (.int 0)))) (wGN 0) zfg (zfh r zaJ))))
noncomputable def zfS:Nat→WSp
 |0=>zaJ
 |r+1=>zca 3 3 (wRet (zan (zdB r) (zab (zan (zdc r) (zab (zan (ziF r) (zab (wVar 0) (zab (wVar 1) (zab (wVar 2) waNil)))) waNil)) waNil)))
noncomputable def zaz:Nat→WSp
 |0=>zaJ
 |r+1=>zca 2 2 (zas (zcq (wTb (wOp oLt (wVar 1) (wB zfz (zab (wVar 0) waNil)))) (wRet (wOp oIx (wVar 0) (wVar 1))) wNext)
  (wRet (wC (.int 0))))
noncomputable def zfi (r:Nat) (self:WSp):WE:=(wOp oIx (wVar 1) (wOp (zdk (λ_ j=>0<j) λi j=> .int (i % j)) (wOp zdT (wOp oIx (wVar 2) (wVar 0)) (wOp (zdk CMul λi j=> .int (i*j)) (wVar 3) (wB zxm (zab (wOp (oEq false) (wVar 0) (wVar 4)) waNil)))) (wC (.int 26))))
noncomputable def zfl (r:Nat) (self:WSp):WS:=(zas (wAsg (wML rvS zld (wC (.str "")) (zck 1 [3,5,6,7] (zvV (zab (wB zfz (zab (wVar 5) waNil)) waNil)) (wGN 0) zfg (zfi r zaJ))) (wGN 9))
  (zas (zcq (zgN (wVar 2)) (wAsg (wOp zdT (wM rvS zop (wOp oIx (wVar 9) (wC (.int 0))) waNil) (wSl (wVar 9) (woS (wC (.int 1))) woN)) (wGN 9)) wNext)
  (zcG (wM rvL zbQ (wVar 8) (zab (wVar 9) waNil)))))
noncomputable def zdM (r:Nat) (self:WSp):WS:=(zas (zcG (wM rvL zbQ (wVar 5) (zab (wOp (zdk (λ_ j=>0<j) λi j=> .int (i % j)) (wVar 4) (wC (.int 26))) waNil)))
  (wAsg (wOp (zdk ziD λi j=> .int (i / j)) (wVar 4) (wC (.int 26))) (wGN 4)))
noncomputable def zbp:Nat→WSp
 |0=>zaJ
 |r+1=>zca 10 3 (zas (wAsg (wC (.str "abcdefghijklmnopqrstuvwxyz")) (wGN 3))
  (zas (wAsg (wOp (zdk (λ_ j=>0<j) λi j=> .int (i % j)) (wVar 1) (wOp (zdk zAl λi j=> .int (i ^ j.toNat)) (wC (.int 26)) (wC (.int 8)))) (wGN 4))
  (zas (wAsg (zcX (zdF waNil)) (wGN 5))
  (zas (zgO (zvV (zab (wOp zdT (wC (.int 1)) (wOp (zdk (λ_ j=>0<j) λi j=> .int (i % j)) (wVar 0) (wC (.int 8)))) waNil)) (wGN 6) (zdM r zaJ))
  (zas (wAsg (wOp (zdk (λ_ j=>0<j) λi j=> .int (i % j)) (wOp (zdk ziD λi j=> .int (i / j)) (wVar 0) (wC (.int 8))) (wB zfz (zab (wVar 5) waNil))) (wGN 7))
  (zas (wAsg (zcX (zdF waNil)) (wGN 8))
  (zas (zgO (zvV (zab (wC (.int 6)) waNil)) (wGN 6) (zfl r zaJ))
  (zas (zcq (znC (wTb (wOp (oEq false) (wOp (zdk (λ_ j=>0<j) λi j=> .int (i % j)) (wOp (zdk ziD λi j=> .int (i / j)) (wVar 0) (wC (.int 64))) (wC (.int 2))) (wC (.int 1)))) (ztE (zgN (wVar 2)))) (wAsg (zcX (zoU (zxn (wVar 8) woN (woS (wC (.int 3)))) (zdF (zab (wOp oIx (wVar 8) (wC (.int 2))) (zab (wOp oIx (wVar 8) (wC (.int 2))) (zab (wOp oIx (wVar 8) (wC (.int 5))) waNil)))))) (wGN 8)) wNext)
  (wRet (wVar 8))))))))))
noncomputable def zdE (r:Nat) (self:WSp):WE:=(zan self (zab (wVar 0) waNil))
noncomputable def zaA:Nat→WSp
 |0=>zaJ
 |r+1=>zca 1 1 (zas (zcq (zgN (zsx "int" (wVar 0))) (wRet (wC (.int 1))) wNext)
  (wRet (wBL zmu (zck 1 [] (wIv (wSl (wVar 0) (woS (wC (.int 1))) woN)) (wGN 0) zfg (zdE r (zaA r))))))
noncomputable def zeE (r:Nat) (self:WSp):WE:=(zan self (zab (wVar 0) (zab (wVar 1) waNil)))
noncomputable def zbi:Nat→WSp
 |0=>zaJ
 |r+1=>zca 2 2 (zas (zcq (zgN (zsx "int" (wVar 0))) (wRet (wOp oIx (wVar 1) (wVar 0))) wNext)
  (wRet (wOp zdT (wSl (wVar 0) woN (woS (wC (.int 1)))) (wBL zgz (zck 1 [1] (wIv (wSl (wVar 0) (woS (wC (.int 1))) woN)) (wGN 0) zfg (zeE r (zbi r)))))))
noncomputable def zcL:Nat→WSp
 |0=>zaJ
 |r+1=>zca 3 3 (zas (zcq (znC (wTb (wOp oGt (wVar 1) (wC (.int 0)))) (wTb (wOp oGt (wOp (zdk (λ_ j=>0<j) λi j=> .int (i % j)) (wVar 0) (wC (.int 4))) (wC (.int 0))))) (wRet (wOp (zdk (λ_ j=>0<j) λi j=> .int (i % j)) (wOp (zdk ziD λi j=> .int (i / j)) (wVar 0) (wC (.int 4))) (wVar 1))) wNext)
  (wRet (zcf (zab (wOp oIx (wVar 2) (ztV (zdF (zab (wC (.int 2)) (zab (wC (.int 5)) waNil))) (wOp (zdk (λ_ j=>0<j) λi j=> .int (i % j)) (wOp (zdk ziD λi j=> .int (i / j)) (wVar 0) (wC (.int 4))) (wC (.int 2))))) waNil))))
noncomputable def zcZ:Nat→WSp
 |0=>zaJ
 |r+1=>zca 6 3 (zas (wAsg (zan (zcL r) (zab (wOp (zdk ziD λi j=> .int (i / j)) (wVar 0) (wC (.int 7))) (zab (wVar 1) (zab (wVar 2) waNil)))) (wGN 3))
  (zas (wAsg (zan (zcL r) (zab (wOp (zdk ziD λi j=> .int (i / j)) (wVar 0) (wC (.int 700))) (zab (wVar 1) (zab (wVar 2) waNil)))) (wGN 4))
  (zas (wAsg (wOp (zdk (λ_ j=>0<j) λi j=> .int (i % j)) (wVar 0) (wC (.int 7))) (wGN 5))
  (zas (zcq (wTb (wOp (oEq false) (wVar 5) (wC (.int 0)))) (wRet (wVar 3)) wNext)
  (zas (zcq (wOr (wTb (wOp (oEq false) (wVar 5) (wC (.int 1)))) (wTb (wOp (oEq false) (wVar 1) (wC (.int 0))))) (wRet (zcf (zab (wOp oIx (wVar 2) (wC (.int 3))) (zab (wVar 3) waNil)))) wNext)
  (zas (zcq (wTb (wOp (oEq false) (wVar 5) (wC (.int 2)))) (wRet (zcf (zab (wOp oIx (wVar 2) (wC (.int 4))) (zab (wVar 3) (zab (wVar 4) waNil))))) wNext)
  (zas (zcq (wTb (wOp (oEq false) (wVar 5) (wC (.int 3)))) (wRet (zcf (zab (wOp oIx (wVar 2) (wC (.int 4))) (zab (wVar 3) (zab (wVar 3) waNil))))) wNext)
  (zas (zcq (wTb (wOp (oEq false) (wVar 5) (wC (.int 4)))) (wRet (zcf (zab (wOp oIx (wVar 2) (wC (.int 4))) (zab (zcf (zab (wOp oIx (wVar 2) (wC (.int 3))) (zab (wVar 3) waNil))) (zab (wVar 4) waNil))))) wNext)
  (zas (zcq (wTb (wOp (oEq false) (wVar 5) (wC (.int 5)))) (wRet (zcf (zab (wOp oIx (wVar 2) (wC (.int 0))) (zab (wVar 3) waNil)))) wNext)
  (wRet (zcf (zab (wOp oIx (wVar 2) (wC (.int 1))) (zab (wVar 3) (zab (wVar 4) waNil))))))))))))))
noncomputable def zdd:Nat→WSp
 |0=>zaJ
 |r+1=>zca 4 4 (zas (zcq (wTb (wOp (oEq false) (wVar 0) (wC (.int 0)))) (wRet (zcX (zdF (zab (zcf (zab (wVar 1) (zab (wC (.int 0)) waNil))) waNil)))) wNext)
  (zas (zcq (wTb (wOp (oEq false) (wVar 0) (wC (.int 1)))) (wRet (zcX (zdF (zab (zcf (zab (wVar 1) (zab (wC (.int 0)) (zab (wC (.int 1)) waNil)))) waNil)))) wNext)
  (zas (zcq (wTb (wOp (oEq false) (wVar 0) (wC (.int 2)))) (wRet (zcX (zdF (zab (zcf (zab (wVar 1) (zab (zcf (zab (wVar 2) waNil)) waNil))) (zab (zcf (zab (wVar 1) (zab (zcf (zab (wVar 3) (zab (wC (.int 0)) waNil))) waNil))) waNil))))) wNext)
  (zas (zcq (wTb (wOp (oEq false) (wVar 0) (wC (.int 3)))) (wRet (zcX (zdF (zab (zcf (zab (wVar 1) (zab (zcf (zab (wVar 2) waNil)) (zab (wC (.int 0)) waNil)))) (zab (zcf (zab (wVar 1) (zab (zcf (zab (wVar 3) (zab (wC (.int 0)) waNil))) (zab (wC (.int 1)) waNil)))) waNil))))) wNext)
  (zas (zcq (wTb (wOp (oEq false) (wVar 0) (wC (.int 4)))) (wRet (zcX (zdF (zab (zcf (zab (wVar 1) (zab (zcf (zab (wVar 3) (zab (zcf (zab (wVar 3) (zab (wC (.int 0)) waNil))) waNil))) (zab (wC (.int 1)) (zab (wC (.int 2)) waNil))))) (zab (zcf (zab (wVar 1) (zab (zcf (zab (wVar 3) (zab (zcf (zab (wVar 2) waNil)) waNil))) (zab (wC (.int 0)) (zab (wC (.int 1)) waNil))))) waNil))))) wNext)
  (wRet (zcX (zdF (zab (zcf (zab (wVar 1) waNil)) waNil)))))))))
noncomputable def zex (r:Nat) (self:WSp):WS:=(zas (wAsg (zan (zcZ r) (zab (zan (zaz r) (zab (wVar 0) (zab (wOp zdT (wOp zdT (wOp zdT (wVar 1) (wC (.int 2))) (wOp (zdk CMul λi j=> .int (i*j)) (wC (.int 2)) (wVar 5))) (wVar 7)) waNil))) (zab (zan (zaA r) (zab (wVar 8) waNil)) (zab (wVar 2) waNil)))) (wGN 9))
  (zcG (wM rvL zbQ (wVar 4) (zab (zcf (zab (wOp oIx (wVar 3) (wB zfz (zab (wVar 4) waNil))) (zab (wVar 8) (zab (wVar 9) waNil)))) waNil))))
noncomputable def zfO (r:Nat) (self:WSp):WS:=(zas (wAsg (zan (zdd r) (zab (wOp (zdk (λ_ j=>0<j) λi j=> .int (i % j)) (zan (zaz r) (zab (wVar 0) (zab (wOp zdT (wVar 1) (wVar 5)) waNil))) (wC (.int 6))) (zab (wOp oIx (wVar 2) (wVar 5)) (zab (wOp oIx (wVar 2) (wC (.int 2))) (zab (wOp oIx (wVar 2) (wC (.int 3))) waNil))))) (wGN 6))
  (zgO (zqo (wVar 6)) (wGT (zaD (wGN 7) (zaD (wGN 8) zdP))) (zex r zaJ)))
noncomputable def zcN:Nat→WSp
 |0=>zaJ
 |r+1=>zca 10 4 (zas (wAsg (zcX (zdF waNil)) (wGN 4))
  (zas (zgO (zvV (zab (wC (.int 2)) waNil)) (wGN 5) (zfO r zaJ))
  (wRet (wVar 4))))
noncomputable def zge (r:Nat) (self:WSp):WS:=(wAsg (zcX (zoU (zxn (wVar 4) woN (woS (zmc (wC (.int 2))))) (zdF (zab (zcf (zab (zmc (wC (.int 1))) (zab (wC (.int 0)) (zab (wOp oIx (wVar 2) (wC (.int 4))) (zab (wSl (wVar 4) (woS (zmc (wC (.int 2)))) woN) waNil))))) waNil)))) (wGN 4))
noncomputable def zgn (r:Nat) (self:WSp):WS:=(zas (wAsg (wOp (zdk (λ_ j=>0<j) λi j=> .int (i % j)) (wVar 6) (wC (.int 8))) (wGN 7))
  (zas (wAsg (ztV (zdF (zab (wC (.int 0)) (zab (wC (.int 0)) (zab (wC (.int 1)) (zab (wC (.int 2)) waNil))))) (wB zkK (zab (wVar 7) (zab (wC (.int 3)) waNil)))) (wGN 8))
  (zas (wAsg (zcf (zab (zmc (wC (.int 1))) (zab (wC (.int 0)) (zab (wOp oIx (wVar 2) (ztV (zdF (zab (wC (.int 2)) (zab (wC (.int 5)) (zab (wC (.int 3)) (zab (wC (.int 4)) waNil))))) (wB zkK (zab (wVar 7) (zab (wC (.int 3)) waNil))))) waNil)))) (wGN 9))
  (zas (zcq (wTb (wOp oGt (wVar 7) (wC (.int 3)))) (zas (wAsg (wOp (zdk (λ_ j=>0<j) λi j=> .int (i % j)) (wOp (zdk ziD λi j=> .int (i / j)) (wVar 6) (wC (.int 8))) (wB zfz (zab (wVar 1) waNil))) (wGN 10))
  (zas (wAsg (zan (zaA r) (zab (wOp oIx (wOp oIx (wVar 1) (wVar 10)) (wC (.int 1))) waNil)) (wGN 8))
  (zas (wAsg (zcf (zab (wVar 10) (zab (wOp (zdk (λ_ j=>0<j) λi j=> .int (i % j)) (wOp (zdk ziD λi j=> .int (i / j)) (wVar 6) (wC (.int 64))) (wC (.int 8))) (zab (wC (.str "")) waNil)))) (wGN 9))
  (wAsg (wOp zdT (wVar 5) (wC (.int 1))) (wGN 5))))) wNext)
  (zcq (znC (wTb (wOp oGt (wVar 3) (wC (.int 0)))) (wTb (wOp oLt (wVar 5) (wC (.int 5))))) (zas (wAsg (wOp (zfK λi j=> .int (i - j)) (wVar 3) (wC (.int 1))) (wGN 3))
  (zas (wAsg (zcX (zuc (zsL (zdF (zab (zcf (zab (zmc (wC (.int 1))) (zab (wC (.int 0)) (zab (wOp oIx (wVar 2) (wC (.int 2))) (zab (zcX (zdF waNil)) waNil))))) waNil)) (wOp (zfK λi j=> .int (i - j)) (wVar 8) (wB zfz (zab (wVar 4) waNil)))) (wVar 4))) (wGN 4))
  (zas (wAsg (wOp (zfK λi j=> .int (i - j)) (wB zfz (zab (wVar 4) waNil)) (wVar 8)) (wGN 11))
  (wAsg (zcX (zoU (zxn (wVar 4) woN (woS (wVar 11))) (zdF (zab (wOp zdT (wVar 9) (zcf (zab (wSl (wVar 4) (woS (wVar 11)) woN) waNil))) waNil)))) (wGN 4))))) wNext)))))
noncomputable def zcK:Nat→WSp
 |0=>zaJ
 |r+1=>zca 12 4 (zas (wAsg (zcX (zdF waNil)) (wGN 4))
  (zas (wAsg (wC (.int 0)) (wGN 5))
  (zas (zgO (wIv (wVar 0)) (wGN 6) (zgn r zaJ))
  (zas (zot (wTb (wOp oGt (wB zfz (zab (wVar 4) waNil)) (wC (.int 1)))) (zge r zaJ))
  (wRet (ztV (zwD (wVar 4) (zdF (zab (zcf (zab (zmc (wC (.int 1))) (zab (wC (.int 0)) (zab (wOp oIx (wVar 2) (wC (.int 5))) (zab (zcX (zdF waNil)) waNil))))) waNil))) (wC (.int 0))))))))
noncomputable def zgC (r:Nat) (self:WSp):WE:=(zan self (zab (wVar 0) (zab (wVar 1) (zab (wVar 2) waNil))))
noncomputable def zcO:Nat→WSp
 |0=>zaJ
 |r+1=>zca 8 3 (zas (wAsg (wVar 0) (wGT (zaD (wGN 3) (zaD (wGN 4) (zaD (wGN 5) (zaD (wGN 6) zdP))))))
  (zas (wAsg (zcX (zck 1 [1,2] (wIv (wVar 6)) (wGN 0) zfg (zgC r (zcO r)))) (wGN 7))
  (zas (zcq (wTb (wOp oLt (wVar 3) (wC (.int 0)))) (wRet (wOp zdT (zcf (zab (wVar 5) waNil)) (wB zea (zab (wVar 7) waNil)))) wNext)
  (zas (zcq (wTb (wOp (oEq false) (wOp (zdk (λ_ j=>0<j) λi j=> .int (i % j)) (wOp (zdk ziD λi j=> .int (i / j)) (wVar 4) (wVar 2)) (wC (.int 2))) (wC (.int 1)))) (wRet (wOp zdT (zcf (zab (wOp oIx (wOp oIx (wVar 1) (wVar 3)) (wC (.int 0))) waNil)) (wB zea (zab (wVar 7) waNil)))) wNext)
  (wRet (zan (zbi r) (zab (wOp oIx (wOp oIx (wVar 1) (wVar 3)) (wC (.int 1))) (zab (wVar 7) waNil))))))))
noncomputable def zgc (r:Nat) (self:WSp):WS:=(zcq (wTb (wOp (oEq false) (wOp oIx (wVar 4) (wC (.int 0))) (wOp oIx (wVar 1) (wC (.int 0))))) (wRet (zan (zbi r) (zab (wOp oIx (wVar 4) (wVar 2)) (zab (wVar 3) waNil)))) wNext)
noncomputable def zfU (r:Nat) (self:WSp):WE:=(zan self (zab (wVar 1) (zab (wVar 0) (zab (wVar 2) waNil))))
noncomputable def zbJ:Nat→WSp
 |0=>zaJ
 |r+1=>zca 5 3 (zas (wAsg (zcX (zck 1 [0,2] (wIv (wSl (wVar 1) (woS (wC (.int 1))) woN)) (wGN 0) zfg (zfU r (zbJ r)))) (wGN 3))
  (zas (zgO (wIv (wVar 0)) (wGN 4) (zgc r zaJ))
  (wRet (wOp zdT (wSl (wVar 1) woN (woS (wC (.int 1)))) (wB zea (zab (wVar 3) waNil))))))
noncomputable def zdJ (r:Nat) (self:WSp):WE:=(wOp oIx (wVar 0) (wC (.int 0)))
noncomputable def zdC (r:Nat) (self:WSp):WE:=(wOp oIx (wVar 0) (wC (.int 1)))
noncomputable def zdD (r:Nat) (self:WSp):WE:=(zan self (zab (wVar 0) (zab (wVar 1) waNil)))
noncomputable def zaS:Nat→WSp
 |0=>zaJ
 |r+1=>zca 3 2 (zas (zcq (zgN (zsx "int" (wVar 0))) (wRet (wOp oIx (wVar 1) (wVar 0))) wNext)
  (zas (wAsg (zcX (zck 1 [1] (wIv (wSl (wVar 0) (woS (wC (.int 1))) woN)) (wGN 0) zfg (zdD r (zaS r)))) (wGN 2))
  (wRet (zcf (zab (wOp zdT (wC (.int 1)) (wBL zmu (zck 1 [] (wIv (wVar 2)) (wGN 0) zfg (zdJ r zaJ)))) (zab (wOp zdT (wC (.int 1)) (zng (zck 1 [] (wIv (wVar 2)) (wGN 0) zfg (zdC r zaJ)) (wC (.int 0)))) waNil))))))
noncomputable def zdY (r:Nat) (self:WSp):WE:=(wOp oIx (wVar 0) (wC (.int 0)))
noncomputable def zed (r:Nat) (self:WSp):WE:=(wOp oIx (wVar 0) (wC (.int 1)))
noncomputable def zef (r:Nat) (self:WSp):WS:=(zcq (wTb (wOp (oEq false) (wOp oIx (wVar 3) (wC (.int 0))) (wOp oIx (wVar 1) (wC (.int 0))))) (wRet (zan (zaS r) (zab (wOp oIx (wVar 3) (wC (.int 2))) (zab (wVar 2) waNil)))) wNext)
noncomputable def zei (r:Nat) (self:WSp):WE:=(zan self (zab (wVar 1) (zab (wVar 0) waNil)))
noncomputable def zbk:Nat→WSp
 |0=>zaJ
 |r+1=>zca 4 2 (zas (wAsg (zcX (zck 1 [0] (wIv (wSl (wVar 1) (woS (wC (.int 1))) woN)) (wGN 0) zfg (zei r (zbk r)))) (wGN 2))
  (zas (zgO (wIv (wVar 0)) (wGN 3) (zef r zaJ))
  (wRet (zcf (zab (wOp zdT (wC (.int 1)) (wBL zmu (zck 1 [] (wIv (wVar 2)) (wGN 0) zfg (zdY r zaJ)))) (zab (wOp zdT (wC (.int 1)) (zng (zck 1 [] (wIv (wVar 2)) (wGN 0) zfg (zed r zaJ)) (wC (.int 0)))) waNil))))))
noncomputable def zaq:Nat→WSp
 |0=>zaJ
 |r+1=>zca 3 2 (zas (wAsg (zan (zbk r) (zab (wVar 0) (zab (wVar 1) waNil))) (wGN 2))
  (wRet (zAj (wOp oGt (wOp oIx (wVar 2) (wC (.int 0))) (wC (.int 400))) (wOp oGt (wOp oIx (wVar 2) (wC (.int 1))) (wC (.int 40))))))
noncomputable def zev (r:Nat) (self:WSp):WE:=(zan self (zab (wVar 0) (zab (wVar 1) (zab (wVar 2) waNil))))
noncomputable def zbI:Nat→WSp
 |0=>zaJ
 |r+1=>zca 3 3 (zas (zcq (zgN (zsx "int" (wVar 0))) (zas (zcG (wM rvL zbQ (wVar 1) (zab (wVar 0) waNil)))
  (wRet (ztV (zdF (zab (wVar 0) (zab (zcf (zab (wVar 2) waNil)) waNil))) (wB zxm (zab (wOp (oIn false) (wVar 0) (wSl (wVar 1) woN (woS (zmc (wC (.int 1)))))) waNil))))) wNext)
  (wRet (wOp zdT (wSl (wVar 0) woN (woS (wC (.int 1)))) (wBL zgz (zck 1 [1,2] (wIv (wSl (wVar 0) (woS (wC (.int 1))) woN)) (wGN 0) zfg (zev r (zbI r)))))))
noncomputable def zbT (r:Nat):WS:=(wRet (zcf (zab (wVar 1) (zab (wVar 4) waNil))))
noncomputable def zdS (r:Nat) (self:WSp):WE:=(wOp oIx (wVar 0) (wC (.int 0)))
noncomputable def zbC (r:Nat):WS:=(wAsg (zan (zbJ r) (zab (wVar 0) (zab (wVar 9) (zab (wC (.int 2)) waNil)))) (wGN 5))
noncomputable def zbE (r:Nat) (T:WS):WS:=(zas (zcG (wM rvL zbQ (wVar 4) (zab (wVar 9) waNil))) T)
noncomputable def zbF (r:Nat):WS:=(zcq (ztE (zgN (zan (zaq r) (zab (wVar 0) (zab (wVar 9) waNil))))) (zbE r (zbC r)) wNext)
noncomputable def zbe (r:Nat) (T:WS):WS:=(zas (wAsg (zan (zfH r) (zab (wVar 0) (zab (wVar 5) (zab (wSl (wVar 8) woN (woS (wOp zdT (wC (.int 1)) (wOp (zdk (λ_ j=>0<j) λi j=> .int (i % j)) (wOp (zdk ziD λi j=> .int (i / j)) (wVar 6) (wC (.int 4096))) (wC (.int 2)))))) waNil)))) (wGN 9)) T)
noncomputable def zbb (r:Nat) (T:WS):WS:=(zas (wAsg (zcX (zdF (zab (wOp oIx (wVar 7) (wOp (zdk (λ_ j=>0<j) λi j=> .int (i % j)) (wVar 6) (wB zfz (zab (wVar 7) waNil)))) (zab (wOp oIx (wVar 7) (wOp (zdk (λ_ j=>0<j) λi j=> .int (i % j)) (wOp (zdk ziD λi j=> .int (i / j)) (wVar 6) (wC (.int 64))) (wB zfz (zab (wVar 7) waNil)))) waNil)))) (wGN 8)) T)
noncomputable def zbz (r:Nat):WS:=(zcq (znC (wTb (wOp oGt (wB zfz (zab (wVar 7) waNil)) (wC (.int 0)))) (wTb (wOp oLt (wB zfz (zab (wVar 4) waNil)) (wVar 3)))) (zbb r (zbe r (zbF r))) wNext)
noncomputable def zaZ (r:Nat) (T:WS):WS:=(zas (wAsg (zcX (zck 1 [] (wIv (zan (zbj r) (zab (wVar 0) (zab (wVar 5) waNil)))) (wGN 0) zfg (zdS r zaJ))) (wGN 7)) T)
noncomputable def zbD (r:Nat) (self:WSp):WS:=(zaZ r (zbz r))
noncomputable def zbV (r:Nat) (T:WS):WS:=(zas (zgO (wIv (wVar 2)) (wGN 6) (zbD r zaJ)) T)
noncomputable def zbS (r:Nat) (T:WS):WS:=(zas (wAsg (wVar 1) (wGN 5)) T)
noncomputable def zbW (r:Nat) (T:WS):WS:=(zas (wAsg (zcX (zdF waNil)) (wGN 4)) T)
noncomputable def zbO:Nat→WSp
 |0=>zaJ
 |r+1=>zca 10 4 (zbW r (zbS r (zbV r (zbT r))))
noncomputable def zeP (r:Nat) (self:WSp):WS:=(zas (zcq (wOr (zgN (zan (zaq r) (zab (wVar 0) (zab (wVar 4) waNil)))) (zgN (zan (zaq r) (zab (wVar 0) (zab (wVar 6) waNil))))) (wRet (wC (.bl false))) wNext)
  (zas (zcG (wM rvL zbQ (wVar 5) (zab (zan (zdi r) (zab (wVar 0) (zab (wVar 6) (zab (wVar 4) waNil)))) waNil)))
  (wAsg (zan (zdi r) (zab (wVar 0) (zab (wVar 4) (zab (wVar 6) waNil)))) (wGN 4))))
noncomputable def zeK (r:Nat) (self:WSp):WS:=(zas (wAsg (zcX (zdF waNil)) (wGN 5))
  (zas (zgO (wIv (wVar 3)) (wGN 6) (zeP r zaJ))
  (zas (zcq (zgN (zan (zaq r) (zab (wVar 0) (zab (wVar 4) waNil)))) (wRet (wC (.bl false))) wNext)
  (wAsg (wVar 5) (wGN 3)))))
noncomputable def zdX:Nat→WSp
 |0=>zaJ
 |r+1=>zca 7 3 (zas (wAsg (zcX (zjr (wVar 2))) (wGN 3))
  (zas (zgO (wIv (wVar 1)) (wGN 4) (zeK r zaJ))
  (wRet (wC (.bl true)))))
noncomputable def zcB:Nat→WSp
 |0=>zaJ
 |r+1=>zca 4 3 (zas (wAsg (wC .non) (wGN 3))
  (zas (zAb ["TooGreat"] (wAsg (zol (zfC r) (zab (wVar 0) (zab (wVar 1) (zab (wVar 2) waNil)))) (wGN 3)) (wAsg (wC .non) (wGN 3)))
  (wRet (wVar 3))))
noncomputable def zcE:Nat→WSp
 |0=>zaJ
 |r+1=>zca 4 3 (zas (wAsg (wC .non) (wGN 3))
  (zas (zAb ["TooGreat"] (wAsg (zol (zfS r) (zab (wVar 0) (zab (wVar 1) (zab (wVar 2) waNil)))) (wGN 3)) (wAsg (wC .non) (wGN 3)))
  (wRet (wVar 3))))
noncomputable def zeo (r:Nat):WS:=(wRet (wC (.bl true)))
noncomputable def zdG (r:Nat):WS:=(zcq (wTb (wOp (oEq true) (zan (zoF r) (zab (wVar 3) (zab (wVar 10) waNil))) (zan (zoF r) (zab (wVar 3) (zab (wOp oIx (wVar 7) (wC (.int 0))) waNil))))) (wRet (wC (.bl false))) wNext)
noncomputable def zdI (r:Nat) (T:WS):WS:=(zas (wAsg (zan (zcw r) (zab (wVar 3) (zab (wVar 5) (zab (wOp oIx (wVar 7) (wC (.int 0))) waNil)))) (wGN 10)) T)
noncomputable def zbf (r:Nat):WS:=(zcq (zgN (wVar 8)) (zdI r (zdG r)) wNext)
noncomputable def zba (r:Nat) (T:WS):WS:=(zas (zcq (wOr (znC (zgN (wVar 8)) (wTb (wOp (oIs true) (wVar 9) (wC (.bl true))))) (znC (ztE (zgN (wVar 8))) (wTb (wOp (oIs true) (wVar 9) (wC .non))))) (wRet (wC (.bl false))) wNext) T)
noncomputable def zbN (r:Nat) (T:WS):WS:=(zas (wAsg (zan (zcE r) (zab (wVar 3) (zab (wVar 5) (zab (wOp oIx (wVar 7) (wC (.int 0))) waNil)))) (wGN 9)) T)
noncomputable def zbH (r:Nat) (T:WS):WS:=(zas (wAsg (zan (zdX r) (zab (wVar 3) (zab (wOp oIx (wVar 5) (wC (.int 1))) (zab (wOp oIx (wOp oIx (wVar 7) (wC (.int 0))) (wC (.int 1))) waNil)))) (wGN 8)) T)
noncomputable def zbR (r:Nat):WS:=(zcq (wTb (wOp (oIs true) (wVar 7) (wC .non))) (zbH r (zbN r (zba r (zbf r)))) wNext)
noncomputable def zdf (r:Nat) (T:WS):WS:=(zas (wAsg (zan (zcB r) (zab (wVar 3) (zab (wVar 4) (zab (wVar 6) waNil)))) (wGN 7)) T)
noncomputable def zdK (r:Nat) (self:WSp):WS:=(zdf r (zbR r))
noncomputable def zdA (r:Nat) (T:WS):WS:=(zas (zgO (wIl (zdF (zab (wB zfz (zab (wOp oIx (wVar 5) (wC (.int 1))) waNil)) (zab (wOp zdT (wB zfz (zab (wOp oIx (wVar 5) (wC (.int 1))) waNil)) (wC (.int 1))) waNil)))) (wGN 6) (zdK r zaJ)) T)
noncomputable def zdu (r:Nat) (T:WS):WS:=(zas (wAsg (zan (zbO r) (zab (wVar 3) (zab (wVar 4) (zab (wSl (wVar 0) (woS (wC (.int 10))) (woS (wC (.int 13)))) (zab (wOp (zdk (λ_ j=>0<j) λi j=> .int (i % j)) (wOp (zdk ziD λi j=> .int (i / j)) (zan (zaz r) (zab (wVar 0) (zab (wC (.int 12)) waNil))) (wC (.int 6))) (wC (.int 4))) waNil))))) (wGN 5)) T)
noncomputable def zdp (r:Nat) (T:WS):WS:=(zas (wAsg (zan (zcO r) (zab (zan (zcK r) (zab (wSl (wVar 0) (woS (wC (.int 13))) woN) (zab (wVar 3) (zab (wVar 1) (zab (wC (.int 6)) waNil))))) (zab (wVar 3) (zab (wC (.int 8)) waNil)))) (wGN 4)) T)
noncomputable def zgG (r:Nat) (self:WSp):WE:=(zcf (zab (wVar 0) (zab (wVar 1) (zab (zan (zbI r) (zab (wVar 2) (zab (zcX (zdF waNil)) (zab (wOp oIx (wVar 3) (wC (.int 2))) waNil)))) waNil))))
noncomputable def zdx (r:Nat) (T:WS):WS:=(zas (zcq (wTb (wOp (oEq false) (wOp (zdk (λ_ j=>0<j) λi j=> .int (i % j)) (wOp (zdk ziD λi j=> .int (i / j)) (zan (zaz r) (zab (wVar 0) (zab (wC (.int 12)) waNil))) (wC (.int 3))) (wC (.int 2))) (wC (.int 1)))) (wAsg (zcX (zck 3 [1] (wIv (wVar 3)) (wGT (zaD (wGN 0) (zaD (wGN 1) (zaD (wGN 2) zdP)))) zfg (zgG r zaJ))) (wGN 3)) wNext) T)
noncomputable def zeq (r:Nat) (T:WS):WS:=(zas (wAsg (zan (zcN r) (zab (wVar 0) (zab (wC (.int 4)) (zab (wVar 1) (zab (wVar 2) waNil))))) (wGN 3)) T)
noncomputable def zet (r:Nat) (T:WS):WS:=(zas (wAsg (zan (zbp r) (zab (zan (zaz r) (zab (wVar 0) (zab (wC (.int 2)) waNil))) (zab (zan (zaz r) (zab (wVar 0) (zab (wC (.int 3)) waNil))) (zab (wC (.bl true)) waNil)))) (wGN 2)) T)
noncomputable def zej (r:Nat) (T:WS):WS:=(zas (wAsg (zan (zbp r) (zab (zan (zaz r) (zab (wVar 0) (zab (wC (.int 0)) waNil))) (zab (zan (zaz r) (zab (wVar 0) (zab (wC (.int 1)) waNil))) (zab (wC (.bl false)) waNil)))) (wGN 1)) T)
noncomputable def zdU:Nat→WSp
 |0=>zaJ
 |r+1=>zca 11 1 (zej r (zet r (zeq r (zdx r (zdp r (zdu r (zdA r (zeo r))))))))
theorem zgT{r:Nat}{t:Tr}{S:Sto}{Q:WK}{E:Str→Sto→Prop}(h:Q (.tup (encs t.kids)) S):zcS (r+1) [enc t] S Q E:=by
 rw[zcS];cases t with
 |bl n=>
  simp only[enc];walk_at "wp";exact⟨aZ _,S, .refl,h⟩
 |nd s ts=>
  simp only[enc];walk_at "wp";exact⟨S, .refl,h⟩
mutual
noncomputable def Tr.pl (p:List Int):Tr→List (List Int)
 | .bl _=>[p]
 | .nd _ ts=>p::pls p 0 ts
noncomputable def pls (p:List Int) (i:Nat):List Tr→List (List Int)
 | []=>[]
 |t::ts=>t.pl (p++[(i:Int)])++pls p (i+1) ts
end
mutual
theorem zuy:∀(t:Tr) (p:List Int),(t.pl p).length=t.weight
 | .bl _,p=>by simp [Tr.pl,Tr.weight]
 | .nd _ ts,p=>by simp [Tr.pl,Tr.weight,zre ts p 0];omega
theorem zre:∀(ts:List Tr) (p:List Int) (i:Nat),(pls p i ts).length=wts ts
 | [],p,i=>by simp [pls,wts]
 |t::ts,p,i=>by simp [pls,wts,zuy t,zre ts p (i+1)]
end
theorem znq{p:List Int}{i:Int}{S:Sto}{Q:WK}:zdT (zbZ p) (.tup [.int i]) S Q=(p.length+1≤sizeLine∧Q (zbZ (p++[i])) S):=by
 unfold zbZ;rw[zhO];simp
mutual
theorem zkB:∀(t:Tr) {r:Nat}{p:List Int}{a:Addr}{xs:List W}{S:Sto}{Q:WK}{E:Str→Sto→Prop},t.depth≤r→S a=ae (.lst xs)→xs.length+t.weight≤1000000→p.length+t.depth≤1000000→
  Q .non (put S a (.lst (xs++(t.pl p).map zbZ)))→zaP (r+1) [enc t,zbZ p, .ref a] S Q E
 | .bl n,r,p,a,xs,S,Q,E,hr,ha,hx,hp,h=>by
  obtain⟨r,rfl⟩:∃r',r=r'+1:=⟨r - 1,by simp [Tr.depth]at hr;omega⟩
  rw[zaP];walk_at "wp";simp only[zai ha,true_and];simp [Tr.weight]at hx;refine⟨zbv (by omega),?_⟩;refine zgT ?_;simp only[Tr.kids,encs,ziN,forL];simp only[Tr.pl,az,dq]at h;exact⟨_, .refl,h⟩
 | .nd s ts,r,p,a,xs,S,Q,E,hr,ha,hx,hp,h=>by
  simp only[Tr.depth]at hr hp;simp only[Tr.weight]at hx;obtain⟨r,rfl⟩:∃r',r=r'+1:=⟨r - 1,by omega⟩
  rw[zaP];walk_at "wp";simp only[zai ha,true_and];refine⟨zbv (by omega),?_⟩;refine zgT ?_;dsimp only[Tr.kids];refine ziA ts (xs:=xs++[zbZ p]) (by omega) zah (by simp;omega) (by omega) λx y=>?_;rw[zaY];refine⟨_, .refl,?_⟩;simpa [Tr.pl,bN]using h
theorem ziA:∀(ts:List Tr) {r:Nat}{p:List Int}{i:Nat}{a:Addr}{xs:List W}{S:Sto}{E:WX}{D:WEnds}{t0 x y:Option W},dts ts≤r→S a=ae (.lst xs)→xs.length+wts ts≤1000000→p.length+1+dts ts≤1000000→
  (∀x y,D.nx [t0,ae (zbZ p),ae (.ref a),x,y] (put S a (.lst (xs++(pls p i ts).map zbZ))))→
  forL (wGT (zaD (wGN 3) (zaD (wGN 4) zdP))) (zcR (r+1) (zaP (r+1))) E D (λ_=>True) (ziN i (encs ts)) [t0,ae (zbZ p),ae (.ref a),x,y] S
 | [],r,p,i,a,xs,S,E,D,t0,x,y,hr,ha,hx,hp,h=>by
  simp only[encs,ziN,forL];have:=h x y;simp only[pls,dq,bG,zfj ha]at this;exact this
 |t::ts,r,p,i,a,xs,S,E,D,t0,x,y,hr,ha,hx,hp,h=>by
  simp only[dts]at hr hp;simp only[wts]at hx;simp only[encs,ziN,forL,zcR];walk_at "wp";rw[znq];refine⟨zak (by omega),zak (by omega),zkB t (p:=p++[(i:Int)]) (by omega) ha (by omega) (by simp;omega) ?_⟩;refine⟨_, .refl,ziA ts (by omega) zah (by simp [zuy];omega) (by omega) λx y=>?_⟩;rw[zaY];simpa [pls,bN]using h x y
end
theorem zra{t:Tr}{r:Nat}{S:Sto}{Q:WK}{E:Str→Sto→Prop}(hr:t.depth+1≤r) (hw:t.weight≤100000) (hd:t.depth≤100000) (h:∀a,S a=none→Q (.ref a) (put S a (.lst ((t.pl []).map zbZ)))):zfR (r+1) [enc t] S Q E:=by
 obtain⟨r,rfl⟩:∃r',r=r'+1:=⟨r - 1,by omega⟩
 rw[zfR];walk_at "wp";refine⟨aZ _,λa ha=>⟨aZ _,zkB t (p:=[]) (xs:=[]) (by omega) zah (by simp;omega) (by simp;omega) ?_⟩⟩;rw[zaY,aR];exact⟨_, .refl,h a ha⟩
noncomputable def Tr.at:Tr→List Int→Option Tr
 |t,[]=>ae t
 | .bl _,_::_=>none
 | .nd _ ts,i::p=>if i<0 then none else match ts[i.toNat]? with
  |some u=>u.at p
  |none=>none
theorem zma{t u:Tr}{i:Int}{r:Nat}{S:Sto}{Q:WK}{E:Str→Sto→Prop}(hi:0≤i) (hu:t.kids[i.toNat]? =ae u) (h:Q (enc u) S):zbM (r+2) [enc t, .int i] S Q E:=by
 rw[zbM];walk_at "wp";refine zgT ?_;have hl:i.toNat<t.kids.length:=(cb.mp hu).1;walk_at "wp";rw[zbh];rw[if_neg (by omega),if_neg (by omega)];have e:atI (encs t.kids) i=ae (enc u):=by
  have q:=zcy (xs:=encs t.kids) (n:=i.toNat);rw[cT hi]at q;rw[q,zaB,bv,hu];rfl
 rw[e];exact⟨S, .refl,h⟩
theorem zmF{p:List Int}:∀{t u:Tr}{r:Nat}{S:Sto}{E:WX}{D:WEnds}{x y z:Option W},t.at p=ae u→(∀z,D.nx [x,y,ae (enc u),z] S)→
  forL (wGN 3) (zjl (r+2) zaJ) E D (λ_=>True) (p.map W.int) [x,y,ae (enc t),z] S:=by
 induction p with
 |nil=>
  intro t u r S E D x y z e h;unfold Tr.at at e;cases e;exact h z
 |cons i p ih=>
  intro t u r S E D x y z e h;cases t with
  |bl n=>cases e
  |nd s ts=>
   unfold Tr.at at e;split at e
   ·cases e
   ·rename_i hi;split at e
    ·rename_i v ev;simp only[az,forL,zjl];walk_at "wp";refine zma (t:= .nd s ts) (u:=v) (by omega) ev ⟨S, .refl,?_⟩;exact ih e h
    ·cases e
theorem zvy{t u:Tr}{p:List Int}{r:Nat}{S:Sto}{Q:WK}{E:Str→Sto→Prop}(e:t.at p=ae u) (h:Q (enc u) S):zkt (r+3) [enc t,zbZ p] S Q E:=by
 rw[zkt];walk_at "wp";unfold zbZ;dsimp only;exact zmF e λz=>⟨S, .refl,h⟩
def Low (c:Nat):Prop:=97≤c∧c≤122
def zct (x:Str):Prop:=1≤x.cps.toList.length∧x.cps.toList.length≤8∧ ∀c∈x.cps.toList,Low c
def zdb (x:Str):Prop:=∃c r,x.cps.toList=c::r∧65≤c∧c≤90∧r.length≤7∧ ∀d∈r,Low d
theorem zvt:(bq "abcdefghijklmnopqrstuvwxyz").cps.toList=fv 97 26:=by decide +kernel
theorem zzv:(bq "abcdefghijklmnopqrstuvwxyz").length=26:=by decide +kernel
theorem zlw:∀cs:List Nat,(cO (bq "") (cs.map λc=>(⟨#[c]⟩:Str))).cps.toList=cs
 | []=>rfl
 | [c]=>rfl
 |c::d::r=>by
  have ih:=zlw (d::r);show((⟨#[c]⟩:Str)++bq "" ++cO (bq "") ((d::r).map λc=>(⟨#[c]⟩:Str))).cps.toList=_;show(#[c]++(bq "").cps++(cO (bq "") ((d::r).map λc=>(⟨#[c]⟩:Str))).cps).toList=_;rw[iL,iL,ih];rfl
theorem ztH (cs:List Nat):((cs.map λc=>(⟨#[c]⟩:Str)).map (·.length)).sum=cs.length:=by
 induction cs with
 |nil=>rfl
 |cons c r ih=>
  rw[az,az,iy,ih,aW];show 1+r.length=r.length+1;omega
theorem zif:∀cs:List Nat,zgL (cs.map λc=>W.str ⟨#[c]⟩)=ae (cs.map λc=>(⟨#[c]⟩:Str))
 | []=>rfl
 |c::cs=>by rw[az,zgL,zif cs];rfl
theorem zrB (cs:List Nat) (h:cs.length≤1000):(List.map (λx=>x.length) (cs.map λc=>(⟨#[c]⟩:Str))).sum+(cs.map λc=>(⟨#[c]⟩:Str)).length*(bq "").length≤16777216:=by
 have e:=ztH cs;have z:(bq "").length=0:=by decide +kernel
 rw[e,z];omega
theorem zmQ{lo:Int}{n:Nat}:(zpm lo n).length=n:=by simp [zpm]
theorem zrf{α:Type}{xs:List α}(n:Int) (h:xs≠ []):∃(i:Nat) (x:α),xs[i]? =ae x∧atI xs (n % (xs.length:Int))=ae x:=by
 have hp:0<xs.length:=gR.mpr h;have h0:0≤n % (xs.length:Int):=cD _ (by omega);have h1:n % (xs.length:Int)<(xs.length:Int):=cQ _ (by omega);have hlt:(n % (xs.length:Int)).toNat<xs.length:=by omega
 refine⟨(n % (xs.length:Int)).toNat,xs[(n % (xs.length:Int)).toNat],aQ hlt,?_⟩;have e:=zvg (xs:=xs) (j:=(n % (xs.length:Int)).toNat) (v:=xs[(n % (xs.length:Int)).toNat]) (aQ hlt);rw[cT h0]at e;exact e
theorem zfo (ts us:List Tr):encs (ts++us)=encs ts++encs us:=by rw[zaB,zaB,zaB,bI]
mutual
noncomputable def Tr.plt (p:List Int):Tr→List (List Int×Tr)
 | .bl n=>[(p, .bl n)]
 | .nd s ts=>(p, .nd s ts)::zgQ p 0 ts
noncomputable def zgQ (p:List Int) (i:Nat):List Tr→List (List Int×Tr)
 | []=>[]
 |t::ts=>t.plt (p++[(i:Int)])++zgQ p (i+1) ts
end
mutual
theorem zqX:∀(t:Tr) (p:List Int),(t.plt p).map (·.1)=t.pl p
 | .bl _,p=>by simp [Tr.plt,Tr.pl]
 | .nd _ ts,p=>by simp [Tr.plt,Tr.pl,zmW ts p 0]
theorem zmW:∀(ts:List Tr) (p:List Int) (i:Nat),(zgQ p i ts).map (·.1)=pls p i ts
 | [],p,i=>by simp [zgQ,pls]
 |t::ts,p,i=>by simp [zgQ,pls,zqX t,zmW ts p (i+1)]
end
mutual
theorem zmy:∀(t:Tr) (p:List Int),(t.plt p).length=t.weight
 | .bl _,p=>by simp [Tr.plt,Tr.weight]
 | .nd _ ts,p=>by simp [Tr.plt,Tr.weight,zow ts p 0];omega
theorem zow:∀(ts:List Tr) (p:List Int) (i:Nat),(zgQ p i ts).length=wts ts
 | [],p,i=>by simp [zgQ,wts]
 |t::ts,p,i=>by simp [zgQ,wts,zmy t,zow ts p (i+1)]
end
theorem zqQ{s:Str}{ts:List Tr}{i:Nat}{q:List Int}{u:Tr}(h:ts[i]? =ae u):(Tr.nd s ts).at ((i:Int)::q)=u.at q:=by
 rw[Tr.at,if_neg (by omega)];simp [h]
mutual
theorem znN:∀(t:Tr) (p q:List Int) (u:Tr),(q,u)∈t.plt p→ ∃r,q=p++r∧t.at r=ae u∧r.length<t.depth
 | .bl n,p,q,u,h=>by
  simp only[Tr.plt,bg,kD]at h;obtain⟨rfl,rfl⟩:=h;exact⟨[],by simp,by simp [Tr.at],by simp [Tr.depth]⟩
 | .nd s ts,p,q,u,h=>by
  simp only[Tr.plt,av,kD]at h;rcases h with⟨rfl,rfl⟩ |h
  ·exact⟨[],by simp,by simp [Tr.at],by simp [Tr.depth];omega⟩
  ·obtain⟨j,v,r,h1,h2,h3,h4⟩:=zrM ts p 0 q u h;refine⟨(j:Int)::r,by rw[h2];simp,by rw[zqQ h1];exact h3,by simp [Tr.depth];omega⟩
theorem zrM:∀(ts:List Tr) (p:List Int) (i:Nat) (q:List Int) (u:Tr),(q,u)∈zgQ p i ts→ ∃(j:Nat) (v:Tr) (r:List Int),ts[j]? =ae v∧q=p++[((i+j:Nat):Int)]++r∧v.at r=ae u∧r.length<dts ts
 | [],p,i,q,u,h=>by simp [zgQ]at h
 |t::ts,p,i,q,u,h=>by
  simp only[zgQ,bh]at h;rcases h with h |h
  ·obtain⟨r,h1,h2,h3⟩:=znN t _ q u h;exact⟨0,t,r,rfl,by simpa using h1,h2,by simp [dts];omega⟩
  ·obtain⟨j,v,r,h1,h2,h3,h4⟩:=zrM ts p (i+1) q u h;refine⟨j+1,v,r,by simpa using h1,?_,h3,by simp [dts];omega⟩
   rw[h2,show i+1+j=i+(j+1) by omega]
end
theorem keep{S:Sto}{a p:Addr}{o x:Ob}(f:S a=ae o) (h:S p=none):put S p x a=ae o:=by rw[zaG (zqP f h)];exact f
theorem zcP{u:Tr}:∀{ts:List Tr},u∈ts→u.depth≤dts ts
 |t::ts,h=>by
  rcases av.mp h with rfl |h
  ·simp [dts];omega
  ·have:=zcP h;simp [dts];omega
theorem zaw{α:Type}{g:WG}{e:WE}{E:WX}{G:Sto→Prop}{Q:List W→Sto→Prop}{S:Sto}(I:WSt→Prop) (k f:α→W) (hG:G S):∀(xs:List α) (acc:List W) (σ:WSt),I σ→acc.length+xs.length≤1000000→
  (∀x∈xs,∀σ (R:WSt→W→Sto→Prop),I σ→(∀σ1 S3,I σ1→Sub S S3→R σ1 (f x) S3)→g (k x) σ S λσ1 S1=>e E σ1 S1 λy S3=>R σ1 y S3)→
  Q (acc++xs.map f) S→zfb g zfg e E G Q (xs.map k) acc σ S
 | [],acc,σ,hI,hl,step,hQ=>by simpa [zfb]using hQ
 |x::xs,acc,σ,hI,hl,step,hQ=>by
  simp only[az,zfb,zfg,if_true];simp only[aW]at hl;refine step x aO σ _ hI λσ1 S3 hI1 sb=>⟨zbv (by omega),S,sb,hG,zaw I k f hG xs (acc++[f x]) σ1 hI1 (by simp;omega) (λy hy=>step y (aG _ hy)) ?_⟩;simpa using hQ
theorem zhS{α:Type}{g:WG}{c:WT}{e:WE}{E:WX}{G:Sto→Prop}{Q:List W→Sto→Prop}{S:Sto}(I:WSt→Prop) (k f:α→W) (P:α→Bool) (hG:G S):∀(xs:List α) (acc:List W) (σ:WSt),I σ→acc.length+xs.length≤1000000→
  (∀x∈xs,∀σ (R1:WSt→W→Sto→Prop) (R0:WSt→Sto→Prop),I σ→(P x=true→ ∀σ1 S3,I σ1→Sub S S3→R1 σ1 (f x) S3)→(P x=false→ ∀σ1 S3,I σ1→Sub S S3→R0 σ1 S3)→
   g (k x) σ S λσ1 S1=>c E σ1 S1 λb S2=>if b=true then e E σ1 S2 λy S3=>R1 σ1 y S3 else R0 σ1 S2)→
  Q (acc++(xs.filter P).map f) S→zfb g c e E G Q (xs.map k) acc σ S
 | [],acc,σ,hI,hl,step,hQ=>by simpa [zfb]using hQ
 |x::xs,acc,σ,hI,hl,step,hQ=>by
  simp only[az,zfb];simp only[aW]at hl;refine step x aO σ _ _ hI (λhp σ1 S3 hI1 sb=>⟨zbv (by omega),S,sb,hG,zhS I k f P hG xs (acc++[f x]) σ1 hI1 (by simp;omega) (λy hy=>step y (aG _ hy)) ?_⟩)
   λhp σ1 S3 hI1 sb=>⟨S,sb,hG,zhS I k f P hG xs acc σ1 hI1 (by omega) (λy hy=>step y (aG _ hy)) ?_⟩
  ·rw[List.filter_cons_of_pos hp]at hQ;simpa using hQ
  ·rw[jW (by rw[hp];simp)]at hQ;exact hQ
noncomputable def Tr.isBl:Tr→Bool
 | .bl _=>true
 | .nd _ _=>false
noncomputable def Tr.num:Tr→Int
 | .bl n=>n
 | .nd _ _=>0
noncomputable def Tr.bls (t:Tr):List (List Int×Tr):=(t.plt []).filter λx=>x.2.isBl
theorem zrc{t:Tr}{x:List Int×Tr}(h:x∈t.bls):t.at x.1=ae x.2∧x.2= .bl x.2.num∧x.1.length<t.depth:=by
 obtain⟨h1,h2⟩:=iQ.mp h;obtain⟨r,h3,h4,h5⟩:=znN t [] x.1 x.2 h1;simp at h3;subst h3;refine⟨h4,?_,h5⟩;obtain⟨p,u⟩:=x;cases u with
 |bl n=>rfl
 |nd s ts=>simp [Tr.isBl]at h2
theorem zxh (t:Tr):t.bls.length≤t.weight:=by
 unfold Tr.bls;exact bi (List.length_filter_le ..) (by rw[zmy];exact au _)
theorem zoZ{t:Tr}{r:Nat}{S:Sto}{Q:WK}{E:Str→Sto→Prop}(hr:t.depth+4≤r) (hw:t.weight≤90000) (h:∀a,S a=none→Q (.ref a) (put S a (.lst (t.bls.map λx=>zbZ x.1)))):zce (r+1) [enc t] S Q E:=by
 have hd:=zeL t;obtain⟨r,rfl⟩:∃r',r=r'+3:=⟨r - 3,by omega⟩
 rw[zce];walk_at "wp";refine zra (by omega) (by omega) (by omega) λa ha=>?_;walk_at "wp";rw[←zqX,bb];refine zhS (λσ=>∃x,σ=[x,ae (enc t)]) (λx=>zbZ x.1) (λx=>zbZ x.1) (λx=>x.2.isBl) ?_ (t.plt []) [] _ ⟨none,rfl⟩ (by simp [zmy];omega) (λx hx σ R1 R0 hI h1 h0=>?_) ?_
 ·exact zah
 ·obtain⟨y,rfl⟩:=hI;obtain⟨q,h3,h4,h5⟩:=znN t [] x.1 x.2 hx;simp at h3;subst h3;walk_at "wp";refine zvy h4 ?_;obtain⟨p,u⟩:=x;cases u with
  |bl n=>
   simp only[enc];walk_at "wp";exact h1 rfl _ _ ⟨_,rfl⟩ .refl
  |nd s ts=>
   simp only[enc];walk_at "wp";exact h0 rfl _ _ ⟨_,rfl⟩ .refl
 ·rw[aR];intro b hb;obtain⟨hb1,hb2⟩:=zeu hb;exact⟨_, .put2 (.put .refl ha),h b hb1⟩
mutual
noncomputable def Tr.fill (us:List Tr):Tr→Tr
 | .bl n=>us.getD n.toNat (.bl n)
 | .nd s ts=> .nd s (fills us ts)
noncomputable def fills (us:List Tr):List Tr→List Tr
 | []=>[]
 |t::ts=>t.fill us::fills us ts
end
mutual
noncomputable def Tr.fits (m:Nat):Tr→Prop
 | .bl n=>0≤n∧n<m
 | .nd _ ts=>fitss m ts
noncomputable def fitss (m:Nat):List Tr→Prop
 | []=>True
 |t::ts=>t.fits m∧fitss m ts
end
theorem zhT (us:List Tr):∀ts:List Tr,fills us ts=ts.map (Tr.fill us)
 | []=>by simp [fills]
 |t::ts=>by simp [fills,zhT us ts]
theorem zgf{m:Nat}{t:Tr}:∀{ts:List Tr},fitss m ts→t∈ts→t.fits m
 |u::ts,h,hm=>by
  simp only[fitss]at h;rcases av.mp hm with rfl |hm
  ·exact h.1
  ·exact zgf h.2 hm
theorem zib{us:List Tr}{a:Addr}:∀(d:Nat) {t:Tr}{r:Nat}{S:Sto}{Q:WK}{E:Str→Sto→Prop},t.depth≤d→d≤r+1→S a=ae (.lst (encs us))→t.fits us.length→t.weight≤90000→Q (enc (t.fill us)) S→zdj (r+1) [enc t, .ref a] S Q E
 |0,t,r,S,Q,E,hd,hr,ha,hf,hw,h=>by have:=zbc t;omega
 |d+1, .bl n,r,S,Q,E,hd,hr,ha,hf,hw,h=>by
  simp only[Tr.fits]at hf;simp only[Tr.fill]at h;rw[zdj];simp only[enc];walk_at "wp";have e:atI (encs us) n=ae (enc (us.getD n.toNat (.bl n))):=by
   have q:=zcy (xs:=encs us) (n:=n.toNat);rw[cT hf.1]at q;rw[q,zaB,bv,bt,aQ (by omega)];rfl
  rw[zai ha,e];exact⟨S, .refl,h⟩
 |d+1, .nd s ts,r,S,Q,E,hd,hr,ha,hf,hw,h=>by
  simp only[Tr.fits]at hf;simp only[Tr.fill]at h;simp only[Tr.depth]at hd;simp only[Tr.weight]at hw;have hk:=zbx ts;rw[zdj];simp only[enc]at h⊢;walk_at "wp";refine⟨zak (by decide),?_⟩;rw[zaB];refine zaw (λσ=>∃x,σ=[x,ae (.ref a)]) enc (λt=>enc (t.fill us)) trivial ts [] _ ⟨none,rfl⟩ (by simp;omega) (λx hx σ R hI hR=>?_) ?_
  ·obtain⟨y,rfl⟩:=hI;have hdx:=zcP hx;have hwx:=zcl hx;have:=zbc x;obtain⟨r,rfl⟩:∃r',r=r'+1:=⟨r - 1,by omega⟩
   simp only[ziT];walk_at "wp";exact zib d (t:=x) (r:=r) (by omega) (by omega) ha (zgf hf hx) (by omega) (hR _ _ ⟨_,rfl⟩ .refl)
  ·rw[aR];refine⟨zak (by simp;omega),S, .refl,?_⟩;have e:encs (fills us ts)=ts.map λt=>enc (t.fill us):=by rw[zaB,zhT,bb];rfl
   rw[e]at h;exact h
theorem zrE (t:Tr):t.at []=ae t:=by cases t<;>rfl
theorem zyG{s:Str}{ts:List Tr}{i:Int}{p:List Int}{u:Tr}(h:(Tr.nd s ts).at (i::p)=ae u):∃v,0≤i∧ts[i.toNat]? =ae v∧v.at p=ae u:=by
 unfold Tr.at at h;split at h
 ·cases h
 ·split at h
  ·exact⟨_,by omega, ‹_›,h⟩
  ·cases h
theorem znB:∀(q:List Int) {D t:Tr}(r:List Int),D.at q=ae t→D.at (q++r)=t.at r
 | [],D,t,r,h=>by rw[zrE]at h;cases h;rfl
 |i::q, .bl n,t,r,h=>by cases h
 |i::q, .nd s ts,t,r,h=>by
  obtain⟨v,h0,h1,h2⟩:=zyG h;rw[dG];have e:(i:Int)=((i.toNat:Nat):Int):=(cT h0).symm;rw[e,zqQ h1];exact znB q r h2
mutual
noncomputable def Tr.same:Tr→Tr→Bool
 | .bl n, .bl m=>n == m
 | .nd s ts, .nd z us=>s == z&&zgP ts us
 |_,_=>false
noncomputable def zgP:List Tr→List Tr→Bool
 | [],[]=>true
 |t::ts,u::us=>t.same u&&zgP ts us
 |_,_=>false
end
mutual
theorem zhm:∀(t u:Tr),t.same u=true↔t=u
 | .bl n, .bl m=>by simp [Tr.same]
 | .nd s ts, .nd z us=>by simp [Tr.same,zkE ts us]
 | .bl n, .nd z us=>by simp [Tr.same]
 | .nd s ts, .bl m=>by simp [Tr.same]
theorem zkE:∀(ts us:List Tr),zgP ts us=true↔ts=us
 | [],[]=>by simp [zgP]
 |t::ts,u::us=>by simp [zgP,zhm t u,zkE ts us]
 | [],u::us=>by simp [zgP]
 |t::ts,[]=>by simp [zgP]
end
theorem zhw (t:Tr):t.same t=true:=(zhm t t).mpr rfl
theorem zuL{S:Sto}{n:Nat}{xs ys:List W}:eqF S (n+1) (.tup xs) (.tup ys)=zgo (eqF S n) xs ys:=fF (b:=zgo (eqF S n) xs ys) rfl rfl
theorem zxG{S:Sto}{n:Nat}{x y:Str}:eqF S (n+1) (.str x) (.str y)=ae (x == y):=fF (b:=ae (x == y)) rfl rfl
theorem zrZ{S:Sto}{n:Nat}{x y:Int}:eqF S (n+1) (.int x) (.int y)=ae (x == y):=fF (b:=ae (x == y)) rfl rfl
theorem zzV{S:Sto}{n:Nat}{x:Int}{ys:List W}:eqF S (n+1) (.int x) (.tup ys)=ae false:=fF (b:=ae false) rfl rfl
theorem zzu{S:Sto}{n:Nat}{x:Int}{ys:List W}:eqF S (n+1) (.tup ys) (.int x)=ae false:=fF (b:=ae false) rfl rfl
mutual
theorem ztZ{S:Sto}:∀(n:Nat) (t u:Tr),t.depth<n→eqF S n (enc t) (enc u)=ae (t.same u)
 |0,t,u,h=>by omega
 |n+1, .bl k, .bl m,h=>by simp only[enc,zrZ,Tr.same]
 |n+1, .nd s ts, .nd z us,h=>by
  simp only[Tr.depth]at h;obtain⟨n,rfl⟩:∃m,n=m+1:=⟨n - 1,by omega⟩
  simp only[enc,zuL,zgo,zxG,Tr.same];rw[zuv (n+1) ts us (by omega)]
 |n+1, .bl k, .nd z us,h=>by simp only[enc,zzV,Tr.same]
 |n+1, .nd s ts, .bl m,h=>by simp only[enc,zzu,Tr.same]
theorem zuv{S:Sto}:∀(n:Nat) (ts us:List Tr),dts ts<n→zgo (eqF S n) (encs ts) (encs us)=ae (zgP ts us)
 |n,[],[],h=>by simp only[encs,zgo,zgP]
 |n,[],u::us,h=>by simp only[encs,zgo,zgP]
 |n,t::ts,[],h=>by simp only[encs,zgo,zgP]
 |n,t::ts,u::us,h=>by
  simp only[dts]at h;simp only[encs,zgo,zgP,ztZ n t u (by omega),zuv n ts us (by omega)]
end
theorem zoN (n:Int):n % 2=0∨n % 2=1:=by omega
theorem zjT (j:Int) (m:Nat):zpm j (m+1)= .int j::zpm (j+1) m:=by
 unfold zpm;rw[gn,az,bb];congr 1
 ·simp
 ·apply cV;intro i _;simp only[i6,W.int.injEq];omega
theorem zlr{α:Type}{xs:List α}{i:Int}(h0:0≤i) (h1:i<xs.length):∃x,atI xs i=ae x∧x∈xs:=by
 have q:=zcy (xs:=xs) (n:=i.toNat);rw[cT h0,aQ (by omega)]at q;exact⟨_,q,fD ..⟩
theorem zwE{ss:List Str}{i:Int}(h0:0≤i) (h1:i<ss.length):∃x,atI (ss.map W.str) i=ae (.str x)∧x∈ss:=by
 obtain⟨w,h,m⟩:=zlr (xs:=ss.map W.str) h0 (by simpa using h1);obtain⟨x,hx,rfl⟩:=aU.mp m;exact⟨x,h,hx⟩
theorem zpQ{g:WG}{b:WS}{E:WX}{D:WEnds}(I:Nat→WSt→Sto→Prop) (n:Nat)
  (step:∀i,i<n→ ∀σ S (N:WSt→Sto→Prop),I i σ S→(∀σ' S' S'',Sub S'' S'→I (i+1) σ' S''→N σ' S')→g (.int i) σ S λσ1 S1=>b E { D with nx:=N,ct:=N,bk:=D.nx } σ1 S1)
  (done:∀σ S,I n σ S→D.nx σ S) {σ:WSt}{S:Sto}(h:I 0 σ S):forL g b E D (λ_=>True) (zpm 0 n) σ S:=by
 refine zmb (λws σ S=>∃i,i≤n∧ws=zpm (i:Int) (n - i)∧I i σ S) ?_ ?_ _ _ _ ⟨0,aZ _,rfl,h⟩
 ·rintro w ws σ S N ⟨i,hi,e,hI⟩ hN;obtain⟨m,hm⟩:∃m,n - i=m+1:=by
   rcases dS (n - i) with z |z
   ·rw[z]at e;cases e
   ·exact⟨n - i - 1,by omega⟩
  rw[hm,zjT]at e;cases e;exact step i (by omega) σ S N hI λσ' S' S'' sb h'=>hN σ' S' S'' sb trivial ⟨i+1,by omega,by rw[show n - (i+1)=m by omega];push_cast;rfl,h'⟩
 ·rintro σ S ⟨i,hi,e,hI⟩;have:n - i=0:=by
   rcases dS (n - i) with z |z
   ·exact z
   ·obtain⟨m,hm⟩:∃m,n - i=m+1:=⟨n - i - 1,by omega⟩
    rw[hm,zjT]at e;cases e
  rw[show i=n by omega]at hI
  exact done σ S hI
theorem zuw{k:Nat}:∀{ts:List Tr},(∀t∈ts,t.depth≤k)→dts ts≤k
 | [],_=>by simp [dts]
 |t::ts,h=>by
  have:=h t aO;have:=zuw (ts:=ts) λu hu=>h u (aG _ hu);simp only[dts];omega
theorem zby{g:WG}{b:WS}{E:WX}{D:WEnds}{G:Sto→Prop}{w:W}{ws:List W}{σ:WSt}{S:Sto}(h:∀N:WSt→Sto→Prop,(∀σ S S',Sub S' S→G S'→forL g b E D G ws σ S'→N σ S)→g w σ S λσ1 S1=>b E { D with nx:=N,ct:=N,bk:=D.nx } σ1 S1):forL g b E D G (w::ws) σ S:=h _ λσ S S' a c d=>⟨S',a,c,d⟩
mutual
noncomputable def Tr.mt:Tr→Tr→Option (List Tr)
 | .bl _,t=>ae [t]
 | .nd s ls, .nd z us=>if s == z&&ls.length == us.length then mts ls us else none
 | .nd _ _, .bl _=>none
noncomputable def mts:List Tr→List Tr→Option (List Tr)
 | [],_=>ae []
 |_::_,[]=>ae []
 |l::ls,u::us=>match l.mt u with
  |none=>none
  |some xs=>match mts ls us with
   |none=>none
   |some ys=>ae (xs++ys)
end
theorem zyZ{s z:Str}{ls us:List Tr}{r:Nat}{S:Sto}{Q:WK}{E:Str→Sto→Prop}(h:Q (.bl (s == z&&ls.length == us.length)) S):zcb (r+1) [enc (.nd s ls),enc (.nd z us)] S Q E:=by
 rw[zcb];simp only[enc];walk_at "wp";cases e:s == z with
 |false=>
  rw[e]at h;exact⟨_, .refl,h⟩
 |true=>
  rw[e]at h;walk_at "wp";refine⟨_, .refl,?_⟩;have:(((encs ls).length+1:Nat):Int)=((encs us).length+1:Nat)↔ls.length=us.length:=by rw[zbh,zbh];omega
  have e2:((((encs ls).length+1:Nat):Int) == ((encs us).length+1:Nat))=(ls.length == us.length):=by
   rw[fA,beq_iff_eq,beq_iff_eq];exact this
  rw[e2];simpa using h
mutual
theorem zuM:∀(l t:Tr) (ys:List Tr),l.mt t=ae ys→ys.length≤l.weight
 | .bl _,t,ys,h=>by simp only[Tr.mt,bD]at h;subst h;simp [Tr.weight]
 | .nd s ls, .nd z us,ys,h=>by
  simp only[Tr.mt]at h;split at h
  ·have:=zqZ ls us ys h;simp only[Tr.weight];omega
  ·cases h
 | .nd _ _, .bl _,ys,h=>by simp [Tr.mt]at h
theorem zqZ:∀(ls us ys:List Tr),mts ls us=ae ys→ys.length≤wts ls
 | [],us,ys,h=>by simp only[mts,bD]at h;subst h;simp
 |l::ls,[],ys,h=>by simp only[mts,bD]at h;subst h;simp
 |l::ls,u::us,ys,h=>by
  simp only[mts]at h;split at h
  ·cases h
  ·rename_i xs e1;split at h
   ·cases h
   ·rename_i zs e2;cases h;have:=zuM l u xs e1;have:=zqZ ls us zs e2;simp only[aY,wts];omega
end
theorem zhV{r:Nat}{a:Addr}{E:WX}{D:WEnds}{x0 x1:Option W}:∀(ls us:List Tr)
  (one:∀l∈ls,∀{t:Tr}{S:Sto}{xs:List W}{Q:WK}{E:Str→Sto→Prop},t.fits 0→S a=ae (.lst xs)→xs.length+l.weight≤100000→(∀ys,l.mt t=ae ys→Q (.bl true) (put S a (.lst (xs++encs ys))))→(l.mt t=none→ ∀ys,Q (.bl false) (put S a (.lst (xs++ys))))→zaC r [enc l,enc t, .ref a] S Q E)
  {S:Sto}{xs:List W}{x3 x4:Option W},fitss 0 us→S a=ae (.lst xs)→xs.length+wts ls≤100000→
  (∀ys x3 x4,mts ls us=ae ys→D.nx [x0,x1,ae (.ref a),x3,x4] (put S a (.lst (xs++encs ys))))→(mts ls us=none→ ∀ys,D.rt (.bl false) (put S a (.lst (xs++ys))))→
  forL (wGT (zaD (wGN 3) (zaD (wGN 4) zdP))) (zcA r (zaC r)) E D (λ_=>True) (pairs (encs ls) (encs us)) [x0,x1,ae (.ref a),x3,x4] S
 | [],us,one,S,xs,x3,x4,hf,ha,hl,h1,h0=>by
  have q:=h1 [] x3 x4 (by simp [mts]);simp only[encs,bG,zfj ha]at q;simpa [encs,pairs,forL]using q
 |l::ls,[],one,S,xs,x3,x4,hf,ha,hl,h1,h0=>by
  have q:=h1 [] x3 x4 (by simp [mts]);simp only[encs,bG,zfj ha]at q;simpa [encs,pairs,forL]using q
 |l::ls,u::us,one,S,xs,x3,x4,hf,ha,hl,h1,h0=>by
  simp only[fitss]at hf;simp only[wts]at hl;simp only[encs,pairs];refine zby λN hN=>?_;simp only[zcA];walk_at "wp";refine one l aO hf.1 ha (by omega) (λys e=>?_) λe ys=>?_
  ·walk_at "wp";have hyl:=zuM l u ys e;refine hN _ _ _ .refl trivial (zhV ls us (λl' hl'=>one l' (aG _ hl')) hf.2 zah (by rw[aY,zbh];omega) (λzs x3 x4 e2=>?_) λe2 zs=>?_)
   ·rw[zaY,bN,←zfo];exact h1 _ _ _ (by simp only[mts,e,e2])
   ·rw[zaY,bN];exact h0 (by simp only[mts,e,e2]) _
  ·walk_at "wp";exact h0 (by simp only[mts,e]) ys
theorem znf{a:Addr}:∀(d:Nat) {l t:Tr}{r:Nat}{S:Sto}{xs:List W}{Q:WK}{E:Str→Sto→Prop},l.depth≤d→d≤r→t.fits 0→S a=ae (.lst xs)→xs.length+l.weight≤100000→
  (∀ys,l.mt t=ae ys→Q (.bl true) (put S a (.lst (xs++encs ys))))→(l.mt t=none→ ∀ys,Q (.bl false) (put S a (.lst (xs++ys))))→zaC (r+1) [enc l,enc t, .ref a] S Q E
 |0,l,t,r,S,xs,Q,E,hd,hr,hf,ha,hl,h1,h0=>by have:=zbc l;omega
 |d+1, .bl n,t,r,S,xs,Q,E,hd,hr,hf,ha,hl,h1,h0=>by
  have hw:=zdW (.bl n);rw[zaC];simp only[enc];walk_at "wp";simp only[zai ha,true_and];refine⟨zbv (by omega),_, .refl,?_⟩;have:=h1 [t] (by simp [Tr.mt]);simpa only[encs]using this
 |d+1, .nd s ls, .bl n,r,S,xs,Q,E,hd,hr,hf,ha,hl,h1,h0=>by
  simp only[Tr.fits]at hf;omega
 |d+1, .nd s ls, .nd z us,r,S,xs,Q,E,hd,hr,hf,ha,hl,h1,h0=>by
  simp only[Tr.fits]at hf;simp only[Tr.depth]at hd;simp only[Tr.weight]at hl;obtain⟨r,rfl⟩:∃r',r=r'+1:=⟨r - 1,by omega⟩
  have en:∀s ts,enc (.nd s ts)= .tup (.str s::encs ts):=λs ts=>by simp [enc]
  rw[zaC];walk_at "wp";rw[en,en];walk_at "wp";rw[←en,←en];refine zyZ ?_;rw[en,en];walk_at "wp";simp only[Tr.mt]at h1 h0;cases e:(s == z&&ls.length == us.length) with
  |false=>
   rw[e]at h0;have:=h0 (by simp) [];rw[bG,zfj ha]at this;exact⟨_, .refl,this⟩
  |true=>
   rw[e]at h0 h1;simp only[if_true]at h0 h1;walk_at "wp";refine zhV ls us (λl hl' {t S xs Q E} f1 f2 f3 f4 f5=>znf d (by have:=zcP hl';omega) (by omega) f1 f2 f3 f4 f5) hf ha (by omega) (λys x3 x4 e=>?_) λe ys=>?_
   ·walk_at "wp";exact⟨_, .refl,h1 ys e⟩
   ·exact⟨_, .refl,h0 e ys⟩
theorem zeW{l t:Tr}{r:Nat}{S:Sto}{Q:WK}{E:Str→Sto→Prop}(hr:l.depth<r) (hf:t.fits 0) (hw:l.weight≤90000) (h1:∀ys,l.mt t=ae ys→ ∀a,S a=none→Q (.ref a) (put S a (.lst (encs ys)))) (h0:l.mt t=none→Q .non S):zcg (r+1) [enc l,enc t] S Q E:=by
 obtain⟨r,rfl⟩:∃r',r=r'+1:=⟨r - 1,by omega⟩
 rw[zcg];walk_at "wp";refine⟨aZ _,λa ha=>znf l.depth (au _) (by omega) hf zah (by simpa using(by omega:l.weight≤100000)) (λys e=>?_) λe ys=>?_⟩
 ·walk_at "wp";exact⟨_, .refl,h1 ys e a ha⟩
 ·walk_at "wp";exact⟨_, .put .refl ha,h0 e⟩
mutual
theorem zki:∀(l t:Tr) (ys:List Tr),l.mt t=ae ys→wts ys≤t.weight
 | .bl _,t,ys,h=>by simp only[Tr.mt,bD]at h;subst h;simp [wts]
 | .nd s ls, .nd z us,ys,h=>by
  simp only[Tr.mt]at h;split at h
  ·have:=ziW ls us ys h;simp only[Tr.weight];omega
  ·cases h
 | .nd _ _, .bl _,ys,h=>by simp [Tr.mt]at h
theorem ziW:∀(ls us ys:List Tr),mts ls us=ae ys→wts ys≤wts us
 | [],us,ys,h=>by simp only[mts,bD]at h;subst h;simp [wts]
 |l::ls,[],ys,h=>by simp only[mts,bD]at h;subst h;simp [wts]
 |l::ls,u::us,ys,h=>by
  simp only[mts]at h;split at h
  ·cases h
  ·rename_i xs e1;split at h
   ·cases h
   ·rename_i zs e2;cases h;have:=zki l u xs e1;have:=ziW ls us zs e2;simp only[zeU,wts];omega
end
noncomputable def ziR (c:Nat):Bool:=decide (97≤c)&&decide (c≤122)
noncomputable def small (xs:List Nat):Bool:=xs.all ziR
theorem zwR{s:Str}{a:Nat}(hs:s.cps.toList=[a]) (c:Nat):(!decide ((⟨#[c]⟩:Str).cps.toList<s.cps.toList))=decide (a≤c):=by
 rw[hs];show(!decide (([c]:List Nat)< [a]))=_;by_cases h:a≤c
 ·rw[decide_eq_true h,decide_eq_false (λz=>by have:=(zmX c a).mp z;omega)];rfl
 ·rw[decide_eq_false h,decide_eq_true ((zmX c a).mpr (by omega))];rfl
theorem zxj{s:Str}{a:Nat}(hs:s.cps.toList=[a]) (c:Nat):(!decide (s.cps.toList<(⟨#[c]⟩:Str).cps.toList))=decide (c≤a):=by
 rw[hs];show(!decide (([a]:List Nat)< [c]))=_;by_cases h:c≤a
 ·rw[decide_eq_true h,decide_eq_false (λz=>by have:=(zmX a c).mp z;omega)];rfl
 ·rw[decide_eq_false h,decide_eq_true ((zmX a c).mpr (by omega))];rfl
theorem zyq:(bq "a").cps.toList=[97]:=by decide +kernel
theorem zyB:(bq "z").cps.toList=[122]:=by decide +kernel
theorem zmO (x:Str):(cE x (ae 1) none).cps.toList=x.cps.toList.drop 1:=by
 rw[zqH];unfold zAf;rw[HT.sIx_none];have ez:HT.sIx x.cps.toList.length 0 (ae 1)=min 1 x.cps.toList.length:=HT.sIx_nat x.cps.toList.length 0 1;rw[ez];by_cases h:1≤x.cps.toList.length
 ·rw[fg h,cw (by rw[cu];exact au _)]
 ·have:x.cps.toList=[]:=kw (by omega);rw[this];rfl
theorem zfv (x:Str):x.length=x.cps.toList.length:=by simp [iA]
theorem zkQ (bs:List Bool):zih (bs.map W.bl)=ae bs:=by
 induction bs with
 |nil=>rfl
 |cons b bs ih=>rw[az,zih,ih];rfl
theorem zlg{α:Type}(xs:List α) (f:α→Bool):((xs.map f).all _root_.id)=xs.all f:=by rw[e_];rfl
theorem zse{x:Str}{r:Nat}{S:Sto}{Q:WK}{E:Str→Sto→Prop}(hx:x.length≤1000) (h:Q (.bl (small x.cps.toList)) S):zaX (r+1) [.str x] S Q E:=by
 rw[zfv]at hx;rw[zaX];walk_at "wp";unfold zkS;refine zaw (λσ=>∃x,σ=[x]) (λc=> .str ⟨#[c]⟩) (λc=> .bl (ziR c)) ?_ x.cps.toList [] _ ⟨none,rfl⟩ (by rw[d6];omega) (λc hc σ R hI hR=>?_) ?_
 ·exact trivial
 ·obtain⟨y,rfl⟩:=hI;simp only[zde];walk_at "wp";rw[zwR zyq,zxj zyB];unfold ziR at hR;cases e:decide (97≤c) with
  |false=>rw[e]at hR;exact hR _ _ ⟨_,rfl⟩ .refl
  |true=>rw[e]at hR;exact hR _ _ ⟨_,rfl⟩ .refl
 ·have e:x.cps.toList.map (λc=>W.bl (ziR c))=(x.cps.toList.map ziR).map W.bl:=by rw[bb];rfl
  rw[aR,e,zkQ];dsimp only;rw[zlg];exact⟨_, .refl,h⟩
theorem zrR{S:Sto}{x:Int}:∀xs:List Int,inF S (.int x) (xs.map W.int)=ae (xs.contains x)
 | []=>rfl
 |y::ys=>by
  simp only[az,inF,zrZ,zrR ys,List.contains_cons];rw[show(y == x)=(x == y) from by rw[fA,beq_iff_eq,beq_iff_eq];exact eq_comm]
mutual
theorem zuz:∀(t:Tr) (p q:List Int) (u:Tr),t.at q=ae u→(p++q,u)∈t.plt p
 | .bl n,p,[],u,h=>by rw[zrE]at h;cases h;simp [Tr.plt]
 | .bl n,p,i::q,u,h=>by cases h
 | .nd s ts,p,[],u,h=>by rw[zrE]at h;cases h;simp [Tr.plt]
 | .nd s ts,p,i::q,u,h=>by
  obtain⟨v,h0,e1,e2⟩:=zyG h;simp only[Tr.plt,av];refine .inr ?_;have:=zqz ts p 0 i.toNat q u v e1 e2;rw[cL,cT h0]at this;simpa using this
theorem zqz:∀(ts:List Tr) (p:List Int) (i j:Nat) (q:List Int) (u v:Tr),ts[j]? =ae v→v.at q=ae u→(p++((i+j:Nat):Int)::q,u)∈zgQ p i ts
 | [],p,i,j,q,u,v,h1,h2=>by simp at h1
 |t::ts,p,i,0,q,u,v,h1,h2=>by
  simp at h1;subst h1;simp only[zgQ,bh];refine .inl ?_;have:=zuz t (p++[(i:Int)]) q u h2;simpa using this
 |t::ts,p,i,j+1,q,u,v,h1,h2=>by
  simp only[zgQ,bh];refine .inr ?_;have:=zqz ts p (i+1) j q u v (by simpa using h1) h2;rw[show i+1+j=i+(j+1) by omega]at this
  exact this
end
theorem zvz{t:Tr}{x:List Int×Tr}(h:x∈t.plt []):t.at x.1=ae x.2∧x.1.length<t.depth:=by
 obtain⟨q,h3,h4,h5⟩:=znN t [] x.1 x.2 h;simp at h3;subst h3;exact⟨h4,h5⟩
theorem zeR{α:Type}{g:WG}{b:WS}{E:WX}{D:WEnds}{G:Sto→Prop}{S:Sto}(hG:G S) (I:WSt→Prop) (key:α→W) (f:α→Option W):∀(xs:List α) (σ:WSt),I σ→
  (∀x∈xs,∀σ (N:WSt→Sto→Prop),I σ→(f x=none→ ∀σ' S',I σ'→Sub S S'→N σ' S')→(∀w,f x=ae w→ ∀S',Sub S S'→D.rt w S')→g (key x) σ S λσ1 S1=>b E { D with nx:=N,ct:=N,bk:=D.nx } σ1 S1)→
  (xs.findSome? f=none→ ∀σ,I σ→D.nx σ S)→(∀w,xs.findSome? f=ae w→ ∀S',Sub S S'→D.rt w S')→forL g b E D G (xs.map key) σ S
 | [],σ,hI,step,done,ret=>by
  have:=done rfl σ hI;simpa [forL]using this
 |x::xs,σ,hI,step,done,ret=>by
  rw[az];refine zby λN hN=>?_;refine step x aO σ N hI (λe σ' S' hI' sb=>?_) λw e S' sb=>ret w (by rw[dF,e]) S' sb;refine hN _ _ S sb hG (zeR hG I key f xs σ' hI' (λy hy=>step y (aG _ hy)) (λe2=>done (by rw[dF,e];exact e2)) λw e2=>ret w (by rw[dF,e];exact e2))
abbrev Tn:=Str×Tr×Tr
noncomputable def zaW (t:Tn):W:= .tup [.str t.1,enc t.2.1,enc t.2.2]
noncomputable def Tn0:Tn:=("", .bl 0, .bl 0)
noncomputable def lf (ts:List Tn) (j:Nat):Tr:=(ts.getD j Tn0).2.1
theorem zpw (n:Nat):zpm 0 n=(bc n).map λ(i:Nat)=>W.int i:=by
 unfold zpm;apply cV;intro i _;simp
noncomputable def Tr.small (t:Tr):Bool:=decide (t.weight≤400)&&decide (t.depth≤40)
theorem zeA{ns:List Int}{k:Int}{r:Nat}{S:Sto}{Q:WK}{E:Str→Sto→Prop}(h0:0≤k) (h:∀n:Int,Q (.int n) S):zaz (r+1) [.scr ns, .int k] S Q E:=by
 rw[zaz];walk_at "wp";split
 ·obtain⟨x,e,_⟩:=zlr (xs:=ns) (i:=k) h0 (by omega);rw[e];exact⟨S, .refl,h _⟩
 ·exact⟨S, .refl,h _⟩
noncomputable def lt (rs:List Int) (pos:Int) (k j:Nat):Nat:=97+((rs.getD j 0+(k:Int)*(if(0+(j:Int) == pos)=true then 1 else 0)) % 26).toNat
noncomputable def zfZ (rs:List Int) (pos:Int) (k:Nat):List Nat:=(bc rs.length).map (lt rs pos k)
noncomputable def wd0 (rs:List Int) (pos:Int) (k:Nat):Str:=cO (bq "") ((zfZ rs pos k).map λc=>(⟨#[c]⟩:Str))
noncomputable def wd1 (rs:List Int) (pos:Int) (k:Nat):Str:=dD ⟨#[lt rs pos k 0]⟩++cE (wd0 rs pos k) (ae 1) none
noncomputable def wd (great:Bool) (rs:List Int) (pos:Int) (k:Nat):Str:=if great then wd1 rs pos k else wd0 rs pos k
theorem ziP (rs:List Int) (pos:Int) (k j:Nat):Low (lt rs pos k j):=by
 have h0:=cD (rs.getD j 0+(k:Int)*(if(0+(j:Int) == pos)=true then 1 else 0)) (show(26:Int)≠0 by decide)
 have h1:=cQ (rs.getD j 0+(k:Int)*(if(0+(j:Int) == pos)=true then 1 else 0)) (show(0:Int)<26 by decide)
 unfold lt Low;omega
theorem zxE{n:Int}(h0:0≤n) (h1:n<26):atI (bq "abcdefghijklmnopqrstuvwxyz").cps.toList n=ae (97+n.toNat):=by
 have e:=zcy (xs:=(bq "abcdefghijklmnopqrstuvwxyz").cps.toList) (n:=n.toNat);rw[cT h0]at e;rw[e,zvt,List.getElem?_range' (by omega)];simp
theorem zhf (rs:List Int) (pos:Int) (k:Nat):(wd0 rs pos k).cps.toList=zfZ rs pos k:=zlw _
theorem zia (rs:List Int) (pos:Int) (k:Nat):(zfZ rs pos k).length=rs.length:=by simp [zfZ]
theorem zkF{rs:List Int}{pos:Int}{k c:Nat}(h:c∈zfZ rs pos k):Low c:=by
 obtain⟨j,_,rfl⟩:=aU.mp h;exact ziP rs pos k j
theorem zoM{rs:List Int}(pos:Int) (k:Nat) (h:1≤rs.length):zfZ rs pos k=lt rs pos k 0::(zfZ rs pos k).drop 1:=by
 unfold zfZ;obtain⟨n,hn⟩:∃n,rs.length=n+1:=⟨rs.length - 1,by omega⟩
 rw[hn,gn];simp
theorem zlj{c:Nat}(h:Low c):dD ⟨#[c]⟩=⟨#[c - 32]⟩:=by
 unfold Low at h;rw[PySem.W.KOpn.upper_one (by omega),if_pos h]
theorem znv{rs:List Int}(pos:Int) (k:Nat):(wd1 rs pos k).cps.toList=(lt rs pos k 0 - 32)::(zfZ rs pos k).drop 1:=by
 unfold wd1;rw[zlj (ziP _ _ _ _)];show((#[lt rs pos k 0 - 32]:Array Nat)++(cE (wd0 rs pos k) (ae 1) none).cps).toList=_;rw[iL,zmO,zhf];rfl
structure Base (rs:List Int) (pos:Int):Prop where
  l1:1≤rs.length
  l8:rs.length≤8
  p0:0≤pos
  p1:pos<rs.length
theorem zno{rs:List Int}{pos:Int}(b:Base rs pos) (k:Nat):zct (wd0 rs pos k):=by
 unfold zct;rw[zhf,zia];exact⟨b.l1,b.l8,λc hc=>zkF hc⟩
theorem zsm{rs:List Int}{pos:Int}(b:Base rs pos) (k:Nat):zdb (wd1 rs pos k):=by
 have:=ziP rs pos k 0;have hl:=b.l8;unfold Low at this;refine⟨_,_,znv pos k,by omega,by omega,by rw[cu,zia];omega,λd hd=>zkF (ig hd)⟩
theorem zAR{rs:List Int}{pos:Int}(b:Base rs pos) {k m:Nat}(hk:k<26) (hm:m<26) (h:k≠m):lt rs pos k pos.toNat≠lt rs pos m pos.toNat:=by
 have p0:=b.p0;have e:(0+((pos.toNat:Nat):Int) == pos)=true:=by rw[beq_iff_eq];omega
 unfold lt;rw[e,if_pos rfl];omega
theorem zxQ{great:Bool}{rs:List Int}{pos:Int}(b:Base rs pos) {k m:Nat}(hk:k<26) (hm:m<26) (h:k≠m):wd great rs pos k≠wd great rs pos m:=by
 have hn:=zAR b hk hm h;have p0:=b.p0;have p1:=b.p1;intro e;have e':=congrArg (λx:Str=>x.cps.toList) e;cases great with
 |false=>
  simp only[wd,gr,if_false,zhf]at e';have e2:=congrArg (λl=>l[pos.toNat]?) e';simp only[zfZ,bv,fW (show pos.toNat<rs.length by omega),gv,bD]at e2
  exact hn e2
 |true=>
  simp only[wd,if_true,znv]at e';have e2:=congrArg (λl=>l[pos.toNat]?) e';cases hp:pos.toNat with
  |zero=>
   rw[hp]at hn;have h1:=ziP rs pos k 0;have h2:=ziP rs pos m 0;unfold Low at h1 h2;simp only[hp,jm,bD]at e2;omega
  |succ n=>
   rw[hp]at hn;simp only[hp,d_,jP,zfZ,bv]at e2;rw[show 1+n=n+1 by omega,fW (show n+1<rs.length by omega)]at e2
   simp only[gv,bD]at e2;exact hn e2
def zlH (great:Bool) (ws:List Str):Prop:=∃rs pos,Base rs pos∧(ws=(bc 6).map (wd great rs pos)∨(great=false∧ws=[wd0 rs pos 0,wd0 rs pos 1,wd0 rs pos 2,wd0 rs pos 2,wd0 rs pos 2,wd0 rs pos 5]))
structure Signs (w0 w1 w2 w3 w4 w5:Str):Prop where
  ok:∀x∈ [w0,w1,w2,w3,w4,w5],zct x
  n0:∀x∈ [w1,w2,w3,w4,w5],w0≠x
  n1:∀x∈ [w2,w3,w4,w5],w1≠x
  n5:∀x∈ [w2,w3,w4],w5≠x
theorem zmE{ws:List Str}(h:zlH false ws):∃w0 w1 w2 w3 w4 w5,ws=[w0,w1,w2,w3,w4,w5]∧Signs w0 w1 w2 w3 w4 w5:=by
 obtain⟨rs,pos,b,h⟩:=h;have hs:=λk=>zno b k;have hn:∀k m:Nat,k<26→m<26→k≠m→wd0 rs pos k≠wd0 rs pos m:=λk m h1 h2 h3=>zxQ (great:=false) b h1 h2 h3;rcases h with rfl |⟨_,rfl⟩
 ·refine⟨_,_,_,_,_,_,rfl,⟨?_,?_,?_,?_⟩⟩
  ·simp only[av,bw,or_false,forall_eq_or_imp,forall_eq];exact⟨hs 0,hs 1,hs 2,hs 3,hs 4,hs 5⟩
  ·simp only[av,bw,or_false,forall_eq_or_imp,forall_eq];exact⟨hn 0 1 (by decide) (by decide) (by decide),hn 0 2 (by decide) (by decide) (by decide),hn 0 3 (by decide) (by decide) (by decide),hn 0 4 (by decide) (by decide) (by decide),hn 0 5 (by decide) (by decide) (by decide)⟩
  ·simp only[av,bw,or_false,forall_eq_or_imp,forall_eq];exact⟨hn 1 2 (by decide) (by decide) (by decide),hn 1 3 (by decide) (by decide) (by decide),hn 1 4 (by decide) (by decide) (by decide),hn 1 5 (by decide) (by decide) (by decide)⟩
  ·simp only[av,bw,or_false,forall_eq_or_imp,forall_eq];exact⟨hn 5 2 (by decide) (by decide) (by decide),hn 5 3 (by decide) (by decide) (by decide),hn 5 4 (by decide) (by decide) (by decide)⟩
 ·refine⟨_,_,_,_,_,_,rfl,⟨?_,?_,?_,?_⟩⟩
  ·simp only[av,bw,or_false,forall_eq_or_imp,forall_eq];exact⟨hs 0,hs 1,hs 2,hs 2,hs 2,hs 5⟩
  ·simp only[av,bw,or_false,forall_eq_or_imp,forall_eq];exact⟨hn 0 1 (by decide) (by decide) (by decide),hn 0 2 (by decide) (by decide) (by decide),hn 0 2 (by decide) (by decide) (by decide),hn 0 2 (by decide) (by decide) (by decide),hn 0 5 (by decide) (by decide) (by decide)⟩
  ·simp only[av,bw,or_false,forall_eq_or_imp,forall_eq];exact⟨hn 1 2 (by decide) (by decide) (by decide),hn 1 2 (by decide) (by decide) (by decide),hn 1 2 (by decide) (by decide) (by decide),hn 1 5 (by decide) (by decide) (by decide)⟩
  ·simp only[av,bw,or_false,forall_eq_or_imp,forall_eq];exact⟨hn 5 2 (by decide) (by decide) (by decide),hn 5 2 (by decide) (by decide) (by decide),hn 5 2 (by decide) (by decide) (by decide)⟩
structure Titles (ts:List Str):Prop where
  len:ts.length=6
  ok:∀x∈ts,zdb x
  nd:ts.Nodup
theorem zgF{ws:List Str}(h:zlH true ws):Titles ws:=by
 obtain⟨rs,pos,b,h⟩:=h;rcases h with rfl |⟨e,_⟩
 ·refine⟨by simp,λx hx=>?_,?_⟩
  ·obtain⟨k,_,rfl⟩:=aU.mp hx;exact zsm b k
  ·rw[aX,List.pairwise_map];refine j4.imp_of_mem (λ{a c} ha hc hne=>?_) (List.nodup_range (n:=6));have ha:=dR.mp ha;have hc:=dR.mp hc;exact zxQ b (by omega) (by omega) hne
 ·cases e
theorem zkN:∀(ws:List W) {rs:List Int}{sp:Int}{a:Addr}{r:Nat}{S:Sto}{E:WX}{D:WEnds}{x0 x1 x2 x3 x6 x7 x8 x9:Option W},S a=ae (.lst (rs.map W.int))→rs.length+ws.length≤1000→
  (∀(rs':List Int) sp' x6',rs'.length=rs.length+ws.length→D.nx [x0,x1,x2,x3,ae (.int sp'),ae (.ref a),x6',x7,x8,x9] (put S a (.lst (rs'.map W.int))))→
  forL (wGN 6) (zdM r zaJ) E D (λ_=>True) ws [x0,x1,x2,x3,ae (.int sp),ae (.ref a),x6,x7,x8,x9] S
 | [],rs,sp,a,r,S,E,D,x0,x1,x2,x3,x6,x7,x8,x9,ha,hl,h=>by
  simp only[forL];have:=h rs sp x6 (by simp);rw[zfj ha]at this;exact this
 |w::ws,rs,sp,a,r,S,E,D,x0,x1,x2,x3,x6,x7,x8,x9,ha,hl,h=>by
  simp only[forL,zdM];walk_at "wp";simp only[aW]at hl h;simp only[zai ha,true_and];refine⟨by decide,zbv (by simp;omega),⟨by decide,by decide⟩,_, .refl,?_⟩
  refine zkN (r:=r) ws (rs:=rs++[sp % 26]) (by rw[zah];simp) (by simp;omega) λrs' sp' x6' h1=>?_;rw[zaY];exact h rs' sp' x6' (by simp at h1;omega)
theorem zpC{c:Prop} [Decidable c] {a b:Prop}(h1:c→a) (h2:¬c→b):if c then a else b:=by split<;>simp_all
theorem zor{A T:WS}{E:WX}{D:WEnds}{σ:WSt}{S:Sto}(h:∀T',T'=T→zas A T' E D σ S):zas A T E D σ S:=h T rfl
theorem znI{one two:Int}{great:Bool}{r:Nat}{S:Sto}{Q:WK}{E:Str→Sto→Prop}(h:∀(a:Addr) (ws:List Str),S a=none→zlH great ws→Q (.ref a) (put S a (.lst (ws.map W.str)))):zbp (r+1) [.int one, .int two, .bl great] S Q E:=by
 rw[zbp];walk_at "wp";have o0:0≤one % 8:=cD _ (by decide);have o1:one % 8<8:=cQ _ (by decide);refine⟨⟨by decide,by decide,by decide⟩,by decide,aZ _,λa ha=>⟨by decide,⟨by omega,by omega⟩,?_⟩⟩
 refine zkN _ (rs:=[]) zah (by simp [zmQ];omega) λrs sp x6 hl=>?_;rw[zaY];simp only[d6,zmQ,cL]at hl;have hl':(rs.length:Int)=1+one % 8:=by rw[hl];omega
 have p0:0≤one / 8 % (rs.length:Int):=cD _ (by omega);have p1:one / 8 % (rs.length:Int)<(rs.length:Int):=cQ _ (by omega);have B:Base rs (one / 8 % (rs.length:Int)):=⟨by omega,by omega,p0,p1⟩
 walk_at "wp";simp only[aq];refine⟨⟨by decide,by decide⟩,by omega,aZ _,λb hb=>⟨⟨by decide,by decide⟩,?_⟩⟩
 obtain⟨hb1,hb2⟩:=zeu hb;generalize hpos:one / 8 % (rs.length:Int)=pos at B p0 p1⊢;refine zpQ (λi σ S'=>∃x6 x9,S'=put (put S a (.lst (rs.map W.int))) b (.lst (((bc i).map (wd great rs pos)).map W.str))∧σ=[ae (.int one),ae (.int two),ae (.bl great),ae (.str (bq "abcdefghijklmnopqrstuvwxyz")),ae (.int sp),ae (.ref a),x6,ae (.int pos),ae (.ref b),x9]) 6 ?_ ?_ ⟨x6,none,rfl,rfl⟩
 ·rintro k hk σ S' N ⟨x6,x9,rfl,rfl⟩ hN;have ea:put (put S a (Ob.lst (rs.map W.int))) b (Ob.lst (((bc k).map (wd great rs pos)).map W.str)) a=ae (.lst (rs.map W.int)):=by rw[zaG (br hb2),zah]
  simp only[zfl];walk_at "wp";rw[zai ea];simp only[aq];refine⟨⟨by omega,by omega⟩,?_⟩
  rw[cx];refine zaw (λσ=>∃x,σ=[x,ae (.str (bq "abcdefghijklmnopqrstuvwxyz")),ae (.ref a),ae (.int (k:Int)),ae (.int pos)]) (λi:Nat=>W.int (0+(i:Int))) (λi=>W.str ⟨#[lt rs pos k i]⟩) trivial (bc rs.length) [] _ ⟨none,rfl⟩ (by simp;omega) (λi hi σ R hI hR=>?_) ?_
  ·obtain⟨x,rfl⟩:=hI;have hi:=dR.mp hi;simp only[zfi];walk_at "wp";have e:=zcy (xs:=rs.map W.int) (n:=i);rw[show(i:Int)=0+(i:Int) by omega,bv,aQ hi]at e
   rw[zai ea,e];dsimp only[Option.map];walk_at "wp";have ec:=zxE (n:=(rs[i]+(k:Int)*(if(0+(i:Int) == pos)=true then 1 else 0)) % 26) (cD _ (by decide)) (cQ _ (by decide));rw[ec];have el:lt rs pos k i=97+((rs[i]+(k:Int)*(if(0+(i:Int) == pos)=true then 1 else 0)) % 26).toNat:=by
    unfold lt;rw[bt,aQ hi];rfl
   rw[←el];exact⟨.inl ⟨by omega,by omega⟩,by decide,zak (by rw[zzv];decide),hR _ _ ⟨_,rfl⟩ .refl⟩
  ·have es:(bc rs.length).map (λi=>W.str ⟨#[lt rs pos k i]⟩)=(zfZ rs pos k).map λc=>W.str ⟨#[c]⟩:=by
    unfold zfZ;rw[bb];rfl
   have hw:=zno B k;rw[aR,es,zif];refine⟨zrB _ (by rw[zia];omega),?_⟩;show _;have ew:cO (bq "") ((zfZ rs pos k).map λc=>(⟨#[c]⟩:Str))=wd0 rs pos k:=rfl;rw[ew];have hl8:(wd0 rs pos k).length≤8:=by rw[zfv];exact hw.2.1
   have fin:∀z:Str,z=wd great rs pos k→ ∀x9:Option W,N [ae (.int one),ae (.int two),ae (.bl great),ae (.str (bq "abcdefghijklmnopqrstuvwxyz")),ae (.int sp),ae (.ref a),ae (.int (k:Int)),ae (.int pos),ae (.ref b),x9] (put (put S a (.lst (rs.map W.int))) b (.lst (((bc k).map (wd great rs pos)).map W.str++[.str z]))):=λz hz x9=>by
    subst hz;refine hN _ _ _ .refl ⟨_,_,?_,rfl⟩;rw[fT,bI,bI];rfl
   have hxl:(((bc k).map (wd great rs pos)).map W.str).length<sizeLine:=zbv (by simp;omega);cases great with
   |false=>
    try walk_at "wp"
    try simp only[zhd,zaY,true_and]
    exact⟨hxl,fin _ rfl _⟩
   |true=>
    walk_at "wp";rw[zhf,zoM pos k B.l1,zjQ];dsimp only
    try walk_at "wp"
    try simp only[zhd,zaY,true_and]
    refine⟨zak (by omega),?_⟩;have h1:(⟨#[lt rs pos k 0]⟩:Str).length=1:=rfl;have h2:(dD ⟨#[lt rs pos k 0]⟩).length=1:=by rw[zlj (ziP _ _ _ _)];rfl
    have h3:(cE (wd0 rs pos k) (ae 1) none).length≤8:=by
     rw[zfv,zmO,cu,←zfv];omega
    exact⟨by omega,zak (by omega),zak (by omega),hxl,fin _ rfl _⟩
 ·rintro σ S' ⟨x6,x9,rfl,rfl⟩;have eb:put (put S a (Ob.lst (rs.map W.int))) b (Ob.lst (((bc 6).map (wd great rs pos)).map W.str)) b=ae (.lst (((bc 6).map (wd great rs pos)).map W.str)):=zah;walk_at "wp";cases great with
  |true=>
   walk_at "wp";refine⟨⟨by decide,by decide⟩,by decide,?_⟩
   split
   ·exact⟨_, .put2 (.put .refl ha),h b _ hb1 ⟨rs,pos,B, .inl rfl⟩⟩
   ·exact⟨_, .put2 (.put .refl ha),h b _ hb1 ⟨rs,pos,B, .inl rfl⟩⟩
  |false=>
   walk_at "wp";refine⟨⟨by decide,by decide⟩,by decide,?_⟩
   split
   ·have e6:((bc 6).map (wd false rs pos)).map W.str=[.str (wd0 rs pos 0), .str (wd0 rs pos 1), .str (wd0 rs pos 2), .str (wd0 rs pos 3), .str (wd0 rs pos 4), .str (wd0 rs pos 5)]:=rfl;simp only[e6]
    try walk_at "wp"
    have c3:zer [W.str (wd0 rs pos 0), .str (wd0 rs pos 1), .str (wd0 rs pos 2), .str (wd0 rs pos 3), .str (wd0 rs pos 4), .str (wd0 rs pos 5)] none (ae 3)=[.str (wd0 rs pos 0), .str (wd0 rs pos 1), .str (wd0 rs pos 2)]:=rfl;have a2:atI [W.str (wd0 rs pos 0), .str (wd0 rs pos 1), .str (wd0 rs pos 2), .str (wd0 rs pos 3), .str (wd0 rs pos 4), .str (wd0 rs pos 5)] 2=ae (.str (wd0 rs pos 2)):=rfl;have a5:atI [W.str (wd0 rs pos 0), .str (wd0 rs pos 1), .str (wd0 rs pos 2), .str (wd0 rs pos 3), .str (wd0 rs pos 4), .str (wd0 rs pos 5)] 5=ae (.str (wd0 rs pos 5)):=rfl;simp only[c3,a2,a5]
    try walk_at "wp"
    refine⟨zak (by decide),zak (by decide),λc hc=>?_⟩;obtain⟨hc1,hc2⟩:=zeu hc;obtain⟨hc1,hc3⟩:=zeu hc1;exact⟨_, .put2 (.put (.put .refl ha) hb1),h c _ hc1 ⟨rs,pos,B, .inr ⟨rfl,rfl⟩⟩⟩
   ·exact⟨_, .put2 (.put .refl ha),h b _ hb1 ⟨rs,pos,B, .inl rfl⟩⟩
mutual
noncomputable def Tr.nb:Tr→Nat
 | .bl _=>1
 | .nd _ ts=>nbs ts
noncomputable def nbs:List Tr→Nat
 | []=>0
 |t::ts=>t.nb+nbs ts
end
mutual
theorem zuV:∀(t:Tr) (p:List Int),((t.plt p).filter λx=>x.2.isBl).length=t.nb
 | .bl n,p=>by simp [Tr.plt,Tr.isBl,Tr.nb]
 | .nd s ts,p=>by
  have:=zrK ts p 0;simpa [Tr.plt,Tr.isBl,Tr.nb]using this
theorem zrK:∀(ts:List Tr) (p:List Int) (i:Nat),((zgQ p i ts).filter λx=>x.2.isBl).length=nbs ts
 | [],p,i=>by simp [zgQ,nbs]
 |t::ts,p,i=>by
  have h1:=zuV t (p++[(i:Int)]);have h2:=zrK ts p (i+1);rw[zgQ,kh,aY,h1,h2,nbs]
end
theorem zzb (t:Tr):t.bls.length=t.nb:=zuV t []
theorem zrl:∀ts:List Tr,(ts.map λt=>(t.nb:Int)).sum=(nbs ts:Int)
 | []=>by simp [nbs]
 |t::ts=>by
  rw[az,iy,zrl ts,nbs];omega
theorem zwZ (ts:List Tr):zbt (ts.map λt=>W.int (t.nb:Int))=ae (ts.map λt=>(t.nb:Int)):=by
 have:=zgu (ts.map λt=>(t.nb:Int));rw[bb]at this;exact this
theorem zjx:∀(d:Nat) {t:Tr}{r:Nat}{S:Sto}{Q:WK}{E:Str→Sto→Prop},t.depth≤d→d≤r+1→t.weight≤90000→Q (.int t.nb) S→zaA (r+1) [enc t] S Q E
 |0,t,r,S,Q,E,hd,hr,hw,h=>by have:=zbc t;omega
 |d+1, .bl n,r,S,Q,E,hd,hr,hw,h=>by
  rw[zaA];simp only[enc];walk_at "wp";simp only[Tr.nb]at h;exact⟨S, .refl,h⟩
 |d+1, .nd s ts,r,S,Q,E,hd,hr,hw,h=>by
  simp only[Tr.depth]at hd;simp only[Tr.weight]at hw;have hk:=zbx ts;rw[zaA];simp only[enc];walk_at "wp";rw[zaB];refine zaw (λσ=>∃x,σ=[x]) enc (λt=> .int (t.nb:Int)) trivial ts [] _ ⟨none,rfl⟩ (by simp;omega) (λx hx σ R hI hR=>?_) ?_
  ·obtain⟨y,rfl⟩:=hI;have hdx:=zcP hx;have hwx:=zcl hx;have:=zbc x;obtain⟨r,rfl⟩:∃r',r=r'+1:=⟨r - 1,by omega⟩
   simp only[zdE];walk_at "wp";exact zjx d (t:=x) (r:=r) (by omega) (by omega) (by omega) (hR _ _ ⟨_,rfl⟩ .refl)
  ·rw[aR,zwZ];dsimp only;rw[zrl];simp only[Tr.nb]at h;exact⟨S, .refl,h⟩
theorem zjo{w:W}{ws:List W}:zer (w::ws) none (ae 1)=[w]:=by
 rw[show(1:Int)=((1:Nat):Int) from rfl,znp];rfl
theorem zgv{us:List Tr}{a:Addr}:∀(d:Nat) {t:Tr}{r:Nat}{S:Sto}{Q:WK}{E:Str→Sto→Prop},t.depth≤d→d≤r+1→S a=ae (.lst (encs us))→t.fits us.length→t.weight≤90000→Q (enc (t.fill us)) S→zbi (r+1) [enc t, .ref a] S Q E
 |0,t,r,S,Q,E,hd,hr,ha,hf,hw,h=>by have:=zbc t;omega
 |d+1, .bl n,r,S,Q,E,hd,hr,ha,hf,hw,h=>by
  simp only[Tr.fits]at hf;simp only[Tr.fill]at h;rw[zbi];simp only[enc];walk_at "wp";have e:atI (encs us) n=ae (enc (us.getD n.toNat (.bl n))):=by
   have q:=zcy (xs:=encs us) (n:=n.toNat);rw[cT hf.1]at q;rw[q,zaB,bv,bt,aQ (by omega)];rfl
  rw[zai ha,e];exact⟨S, .refl,h⟩
 |d+1, .nd s ts,r,S,Q,E,hd,hr,ha,hf,hw,h=>by
  simp only[Tr.fits]at hf;simp only[Tr.fill]at h;simp only[Tr.depth]at hd;simp only[Tr.weight]at hw;have hk:=zbx ts;rw[zbi];simp only[enc]at h⊢;walk_at "wp";rw[zjo];rw[zaB];refine zaw (λσ=>∃x,σ=[x,ae (.ref a)]) enc (λt=>enc (t.fill us)) trivial ts [] _ ⟨none,rfl⟩ (by simp;omega) (λx hx σ R hI hR=>?_) ?_
  ·obtain⟨y,rfl⟩:=hI;have hdx:=zcP hx;have hwx:=zcl hx;have:=zbc x;obtain⟨r,rfl⟩:∃r',r=r'+1:=⟨r - 1,by omega⟩
   simp only[zeE];walk_at "wp";exact zgv d (t:=x) (r:=r) (by omega) (by omega) ha (zgf hf hx) (by omega) (hR _ _ ⟨_,rfl⟩ .refl)
  ·rw[aR];walk_at "wp";refine⟨zak (by simp;omega),S, .refl,?_⟩;have e:encs (fills us ts)=ts.map λt=>enc (t.fill us):=by rw[zaB,zhT,bb];rfl
   rw[e]at h;exact h
inductive Item (ws:List Str) (m:Nat):Tr→Prop
 |bl {n:Int}:0≤n→n<m→Item ws m (.bl n)
 |nd {s:Str}:s∈ws→Item ws m (.nd s [])
inductive RightT (ws:List Str) (m:Nat):Tr→Prop
 |one {t:Tr}:Item ws m t→RightT ws m t
 |un {s:Str}{t:Tr}:s∈ws→Item ws m t→RightT ws m (.nd s [t])
 |two {s:Str}{t u:Tr}:s∈ws→0<m→Item ws m t→Item ws m u→RightT ws m (.nd s [t,u])
 |deep {s z:Str}{t u:Tr}:s∈ws→z∈ws→0<m→Item ws m t→Item ws m u→RightT ws m (.nd s [.nd z [t],u])
noncomputable def leftsL (n:Nat) (h c d:Str):List Tr:=
 match n with
 |0=>[.nd h [.bl 0]]
 |1=>[.nd h [.bl 0, .bl 1]]
 |2=>[.nd h [.nd c []], .nd h [.nd d [.bl 0]]]
 |3=>[.nd h [.nd c [], .bl 0], .nd h [.nd d [.bl 0], .bl 1]]
 |4=>[.nd h [.nd d [.nd d [.bl 0]], .bl 1, .bl 2], .nd h [.nd d [.nd c []], .bl 0, .bl 1]]
 |_=>[.nd h []]
section
variable {w0 w1 w2 w3 w4 w5:Str}{r:Nat}{S:Sto}{Q:WK}{E:Str→Sto→Prop}{a:Addr}
noncomputable abbrev six (w0 w1 w2 w3 w4 w5:Str):List W:=[.str w0, .str w1, .str w2, .str w3, .str w4, .str w5]
theorem zCB:atI (six w0 w1 w2 w3 w4 w5) 0=ae (.str w0):=rfl
theorem zCx:atI (six w0 w1 w2 w3 w4 w5) 1=ae (.str w1):=rfl
theorem six2:atI (six w0 w1 w2 w3 w4 w5) 2=ae (.str w2):=rfl
theorem zAo:atI (six w0 w1 w2 w3 w4 w5) 3=ae (.str w3):=rfl
theorem six4:atI (six w0 w1 w2 w3 w4 w5) 4=ae (.str w4):=rfl
theorem zCi:atI (six w0 w1 w2 w3 w4 w5) 5=ae (.str w5):=rfl
theorem zqJ{draw:Int}{m:Nat}(ha:S a=ae (.lst (six w0 w1 w2 w3 w4 w5))) (h:∀t,Item [w0,w1,w2,w3,w4,w5] m t→Q (enc t) S):zcL (r+1) [.int draw, .int m, .ref a] S Q E:=by
 rw[zcL];walk_at "wp";have fin:∀w:Str,w∈ [w0,w1,w2,w3,w4,w5]→ ∃S'',Sub S'' S∧Q (.tup [.str w]) S'':=λw hw=>⟨S, .refl,by
  have:=h _ (.nd hw);simpa only[enc,encs]using this⟩
 have pick:∃x:Str,x∈ [w0,w1,w2,w3,w4,w5]∧ ∃i:Int,atI [W.int 2,W.int 5] (draw / 4 % 2)=ae (.int i)∧atI (six w0 w1 w2 w3 w4 w5) i=ae (.str x):=by
  rcases zoN (draw / 4) with e |e
  ·exact⟨w2,by simp,2,by rw[e];rfl,rfl⟩
  ·exact⟨w5,by simp,5,by rw[e];rfl,rfl⟩
 obtain⟨x,hx,i,e1,e2⟩:=pick;simp only[e1];walk_at "wp";simp only[zai ha,e2];have tail:2≤sizeLine∧ziD draw 4∧(0:Int)<2∧1≤sizeLine∧ ∃S'',Sub S'' S∧Q (.tup [.str x]) S'':=⟨zak (by decide),⟨by decide,by decide⟩,by decide,zak (by decide),fin x hx⟩
 split
 ·rename_i hm;refine⟨by decide,?_⟩;split
  ·refine⟨⟨by decide,by decide⟩,hm,S, .refl,?_⟩
   have:=h (.bl (draw / 4 % (m:Int))) (.bl (cD _ (by omega)) (cQ _ hm));simpa only[enc]using this
  ·exact tail
 ·exact tail
theorem zsZ{draw:Int}{m:Nat}(ha:S a=ae (.lst (six w0 w1 w2 w3 w4 w5))) (h:∀t,RightT [w0,w1,w2,w3,w4,w5] m t→Q (enc t) S):zcZ (r+2) [.int draw, .int m, .ref a] S Q E:=by
 rw[zcZ,zfD];refine⟨rfl,zor λT hT=>?_⟩;walk_at "wp";refine⟨⟨by decide,by decide⟩,zqJ ha λt ht=>?_⟩
 subst hT;refine zor λT hT=>?_;walk_at "wp";refine⟨⟨by decide,by decide⟩,zqJ ha λu hu=>?_⟩
 subst hT;refine zor λT hT=>?_;walk_at "wp";refine⟨by decide,?_⟩;subst hT;have q1:=h _ (.one ht);have q2:=λ(s:Str) (hs:s∈ [w0,w1,w2,w3,w4,w5])=>h _ (.un hs ht);have q3:=λ(s:Str) (hs:s∈ [w0,w1,w2,w3,w4,w5]) (h0:0<m)=>h _ (.two hs h0 ht hu);have q4:=λ(s:Str) (hs:s∈ [w0,w1,w2,w3,w4,w5]) (h0:0<m)=>h _ (.two hs h0 ht ht);have q5:=λ(s z:Str) (hs:s∈ [w0,w1,w2,w3,w4,w5]) (hz:z∈ [w0,w1,w2,w3,w4,w5]) (h0:0<m)=>h _ (.deep hs hz h0 ht hu);simp only[enc,encs]at q2 q3 q4 q5;have l2:2≤sizeLine:=zak (by decide);have l3:3≤sizeLine:=zak (by decide);refine zor λT hT=>?_;walk_at "wp";refine zpC (λ_=>⟨S, .refl,q1⟩) λ_=>?_;subst hT;refine zor λT hT=>?_;walk_at "wp";simp only[zai ha,zAo];refine zpC (λ_=>⟨l2,S, .refl,q2 _ (by simp)⟩) λ_=>zpC (λ_=>⟨l2,S, .refl,q2 _ (by simp)⟩) λhm=>?_;subst hT;have h0:0<m:=by
  rcases dS m with z |z
  ·rw[z]at hm;exact absurd rfl hm
  ·exact z
 refine zor λT hT=>?_;walk_at "wp";simp only[zai ha,six4];refine zpC (λ_=>⟨l3,S, .refl,q3 _ (by simp) h0⟩) λ_=>?_;subst hT;refine zor λT hT=>?_;walk_at "wp";simp only[zai ha,six4];refine zpC (λ_=>⟨l3,S, .refl,q4 _ (by simp) h0⟩) λ_=>?_;subst hT;refine zor λT hT=>?_;walk_at "wp";simp only[zai ha,zAo,six4];refine zpC (λ_=>⟨l2,l3,S, .refl,q5 _ _ (by simp) (by simp) h0⟩) λ_=>?_;subst hT;refine zor λT hT=>?_;walk_at "wp";simp only[zai ha,zCB];refine zpC (λ_=>⟨l2,S, .refl,q2 _ (by simp)⟩) λ_=>?_;subst hT;walk_at "wp";simp only[zai ha,zCx];exact⟨l3,S, .refl,q3 _ (by simp) h0⟩
theorem ztp{n:Int}{h c d:Str}(H:∀(p:Addr) (k:Nat),S p=none→Q (.ref p) (put S p (.lst (encs (leftsL k h c d))))):zdd (r+1) [.int n, .str h, .str c, .str d] S Q E:=by
 rw[zdd,zfD];refine⟨rfl,?_⟩;have l1:1≤sizeLine:=zak (by decide);have l2:2≤sizeLine:=zak (by decide);have l3:3≤sizeLine:=zak (by decide);have l4:4≤sizeLine:=zak (by decide);refine zor λT hT=>?_;walk_at "wp";refine zpC (λ_=>⟨l2,l1,λp hp=>⟨_, .refl,by simpa only[leftsL,enc,encs]using H p 0 hp⟩⟩) λ_=>?_
 subst hT;refine zor λT hT=>?_;walk_at "wp";refine zpC (λ_=>⟨l3,l1,λp hp=>⟨_, .refl,by simpa only[leftsL,enc,encs]using H p 1 hp⟩⟩) λ_=>?_
 subst hT;refine zor λT hT=>?_;walk_at "wp";refine zpC (λ_=>⟨l1,l2,l2,l2,l2,λp hp=>⟨_, .refl,by simpa only[leftsL,enc,encs]using H p 2 hp⟩⟩) λ_=>?_
 subst hT;refine zor λT hT=>?_;walk_at "wp";refine zpC (λ_=>⟨l1,l3,l2,l3,l2,λp hp=>⟨_, .refl,by simpa only[leftsL,enc,encs]using H p 3 hp⟩⟩) λ_=>?_
 subst hT;refine zor λT hT=>?_;walk_at "wp";refine zpC (λ_=>⟨l2,l2,l4,l1,l2,l4,l2,λp hp=>⟨_, .refl,by simpa only[leftsL,enc,encs]using H p 4 hp⟩⟩) λ_=>?_
 subst hT;walk_at "wp";exact⟨l1,l1,λp hp=>⟨_, .refl,by simpa only[leftsL,enc,encs]using H p 5 hp⟩⟩
end
section
variable {w0 w1 w2 w3 w4 w5:Str}{tt:List Str}{ns:List Int}{aw at' ab al:Addr}{r:Nat}{E:WX}{D:WEnds}{k j:Int}
theorem zoj (h6:tt.length=6) (k0:0≤k) (j0:0≤j):∀(ls:List Tr) {i:Nat}{C:List Tn}{S:Sto}{G:Sto→Prop}{x7 x8 x9:Option W},(∀L∈ls,L.depth≤4∧L.weight≤7)→C.length+ls.length≤6→S ab=ae (.lst (C.map zaW))→S aw=ae (.lst (six w0 w1 w2 w3 w4 w5))→S at'=ae (.lst (tt.map W.str))→ab≠aw→ab≠at'→
  (∀o,G (put S ab o))→
  (∀(C':List Tn) (x7 x8 x9:Option W),C'.map (λt=>t.2.1)=ls→(C.map (λt=>t.1)=tt.take C.length→(C++C').map (λt=>t.1)=tt.take (C++C').length)→(∀t∈C',RightT [w0,w1,w2,w3,w4,w5] t.2.1.nb t.2.2)→D.nx [ae (.scr ns),ae (.int k),ae (.ref aw),ae (.ref at'),ae (.ref ab),ae (.int j),ae (.ref al),x7,x8,x9] (put S ab (.lst ((C++C').map zaW))))→
  forL (wGT (zaD (wGN 7) (zaD (wGN 8) zdP))) (zex (r+6) zaJ) E D G (ziN i (encs ls)) [ae (.scr ns),ae (.int k),ae (.ref aw),ae (.ref at'),ae (.ref ab),ae (.int j),ae (.ref al),x7,x8,x9] S
 | [],i,C,S,G,x7,x8,x9,hL,hl,hb,hw,ht,n1,n2,hG,h=>by
  simp only[encs,ziN,forL];have:=h [] x7 x8 x9 rfl (λz=>by simpa using z) (λ_ h=>nomatch h)
  rw[bG,zfj hb]at this;exact this
 |L::ls,i,C,S,G,x7,x8,x9,hL,hl,hb,hw,ht,n1,n2,hG,h=>by
  have hLd:=hL L aO;simp only[aW]at hl;simp only[encs,ziN];refine zby λN hN=>?_;simp only[zex];walk_at "wp";refine⟨.inl ⟨by decide,by decide⟩,zeA (by omega) λdraw=>zjx 4 hLd.1 (by omega) (by omega) (zsZ hw λR hR=>?_)⟩
  try walk_at "wp"
  obtain⟨ti,eti,_⟩:=zwE (ss:=tt) (i:=(C.length:Int)) (by omega) (by omega);simp only[zai hb,zai ht,aq,eti,true_and];refine⟨zak (by decide),zbv (by omega),?_⟩;refine hN _ _ (put S ab (.lst ((C++[(ti,L,R)]).map zaW))) (by rw[bI];exact .refl) (hG _) ?_;refine zoj h6 k0 j0 ls (C:=C++[(ti,L,R)]) (λM hM=>hL M (aG _ hM)) (by simp;omega) zah (by rw[zaG (br n1)];exact hw) (by rw[zaG (br n2)];exact ht) n1 n2 (λo=>by rw[zaY];exact hG o) λC' x7 x8 x9 e1 e2 e3=>?_
  rw[zaY];have:=h ((ti,L,R)::C') x7 x8 x9 (by rw[az,e1]) (λz=>?_) (λt ht'=>?_)
  ·simpa using this
  ·have e:C++[(ti,L,R)]++C'=C++(ti,L,R)::C':=by simp
   rw[e]at e2;refine e2 ?_;rw[bI,z,aY,b6,iV];congr 1;have e4:(tt.map W.str)[C.length]? =ae (.str ti):=by rw[←zcy];exact eti
   rw[bv]at e4;cases q:tt[C.length]? with
   |none=>rw[q]at e4;cases e4
   |some y=>rw[q]at e4;cases e4;rfl
  ·rcases av.mp ht' with rfl |z
   ·exact hR
   ·exact e3 t z
theorem zlF (n:Nat) (h c d:Str):∀L∈leftsL n h c d,L.depth≤4∧L.weight≤7:=by
 intro L hL;unfold leftsL at hL;split at hL<;>simp only[av,bw,or_false]at hL
 all_goals first
  | (subst hL;simp [Tr.depth,dts,Tr.weight,wts])
  | (rcases hL with rfl |rfl<;>simp [Tr.depth,dts,Tr.weight,wts])
theorem zfM (n:Nat) (h c d:Str):1≤(leftsL n h c d).length∧(leftsL n h c d).length≤2:=by
 unfold leftsL;split<;>simp
noncomputable def hdOf (w0 w1:Str) (j:Nat):Str:=if j=0 then w0 else w1
theorem zvm{S:Sto}{Q:WK}{E:Str→Sto→Prop}(h6:tt.length=6) (k0:0≤k) (hw:S aw=ae (.lst (six w0 w1 w2 w3 w4 w5))) (ht:S at'=ae (.lst (tt.map W.str)))
  (h:∀(p:Addr) (B:List Tn) (n m:Nat),S p=none→B.map (λt=>t.2.1)=leftsL n w0 w2 w3++leftsL m w1 w2 w3→B.map (λt=>t.1)=tt.take B.length→(∀t∈B,RightT [w0,w1,w2,w3,w4,w5] t.2.1.nb t.2.2)→Q (.ref p) (put S p (.lst (B.map zaW)))):zcN (r+7) [.scr ns, .int k, .ref aw, .ref at'] S Q E:=by
 rw[show r+7=r+6+1 from rfl,zcN];walk_at "wp";refine⟨aZ _,λab hb=>⟨⟨by decide,by decide⟩,?_⟩⟩
 refine zpQ (λi σ S'=>∃(B:List Tn) (f:Nat→Nat) (x5 x6 x7 x8 x9:Option W),B.map (λt=>t.2.1)=(bc i).flatMap (λj=>leftsL (f j) (hdOf w0 w1 j) w2 w3)∧B.map (λt=>t.1)=tt.take B.length∧(∀t∈B,RightT [w0,w1,w2,w3,w4,w5] t.2.1.nb t.2.2)∧S'=put S ab (.lst (B.map zaW))∧
  σ=[ae (.scr ns),ae (.int k),ae (.ref aw),ae (.ref at'),ae (.ref ab),x5,x6,x7,x8,x9]) 2 ?_ ?_ ⟨[],λ_=>0,none,none,none,none,none,rfl,rfl,(λ_ h=>nomatch h),rfl,rfl⟩
 ·rintro j hj σ S' N ⟨B,f,x5,x6,x7,x8,x9,e1,e2,e3,rfl,rfl⟩ hN;have fw:put S ab (Ob.lst (B.map zaW)) aw=ae (.lst (six w0 w1 w2 w3 w4 w5)):=keep hw hb;have ft:put S ab (Ob.lst (B.map zaW)) at'=ae (.lst (tt.map W.str)):=keep ht hb;have fb:put S ab (Ob.lst (B.map zaW)) ab=ae (.lst (B.map zaW)):=zah;have n1:ab≠aw:=λz=>by rw[z,hw]at hb;cases hb
  have n2:ab≠at':=λz=>by rw[z,ht]at hb;cases hb
  have eh:atI (six w0 w1 w2 w3 w4 w5) (j:Int)=ae (.str (hdOf w0 w1 j)):=by
   rcases(show j=0∨j=1 by omega) with rfl |rfl<;>rfl
  simp only[zfO];walk_at "wp";refine zeA (by omega) λdraw=>?_;walk_at "wp";simp only[zai fw,eh,six2,zAo];refine⟨by decide,ztp λal n hal=>?_⟩;have hl:=zfM n (hdOf w0 w1 j) w2 w3;have hB:B.length≤4:=by
   have:=congrArg dL e1;rw[aq]at this;rcases(show j=0∨j=1 by omega) with rfl |rfl
   ·simp at this;rw[this];simp
   ·simp at this;have:=zfM (f 0) (hdOf w0 w1 0) w2 w3;omega
  have nal:al≠ab:=λz=>by rw[z,fb]at hal;cases hal
  try walk_at "wp"
  refine zoj h6 k0 (by omega) (leftsL n (hdOf w0 w1 j) w2 w3) (zlF _ _ _ _) (by omega) (keep fb hal) (keep fw hal) (keep ft hal) n1 n2 (λo=>?_) λC' x7 x8 x9 g1 g2 g3=>?_
  ·rw[zaG nal,zah]
  ·refine hN _ _ (put S ab (.lst ((B++C').map zaW))) ?_ ⟨B++C',λi=>if i=j then n else f i,_,_,_,_,_,?_,g2 e2,λt ht'=>?_,rfl,rfl⟩
   ·rw[znY nal];exact .put .refl (by rw[zaG nal];exact(zeu hal).1)
   ·rw[bI,e1,g1,fT,jF];congr 1
    ·rw[kq,kq];congr 1;refine cV λi hi=>?_;have:=dR.mp hi;dsimp only;rw[if_neg (by omega)]
    ·simp
   ·rcases bh.mp ht' with z |z
    ·exact e3 t z
    ·exact g3 t z
 ·rintro σ S' ⟨B,f,x5,x6,x7,x8,x9,e1,e2,e3,rfl,rfl⟩;walk_at "wp";refine⟨_, .refl,h ab B (f 0) (f 1) hb ?_ e2 e3⟩;rw[e1];simp [fT,hdOf]
end
noncomputable def signB (x:Str):Bool:=decide (1≤x.cps.toList.length)&&(decide (x.cps.toList.length≤8)&&small x.cps.toList)
theorem zrp (xs:List Nat):small xs=true↔ ∀c∈xs,Low c:=by
 unfold small;rw[cX];simp only[ziR,Low,bO,decide_eq_true_eq]
theorem zgj (x:Str):signB x=true↔zct x:=by
 unfold signB zct;rw[bO,bO,decide_eq_true_eq,decide_eq_true_eq,zrp]
theorem zeX{x y:Str}(h:zct x) (g:zdb y):x≠y:=by
 rintro rfl;obtain⟨c,r,e,h1,h2,_⟩:=g;have:=h.2.2 c (by rw[e];exact aO);unfold Low at this;omega
theorem zrV{y:Str}(g:zdb y):1≤y.cps.toList.length∧y.cps.toList.length≤8:=by
 obtain⟨c,r,e,h1,h2,h3,_⟩:=g;rw[e,aW];omega
mutual
noncomputable def Tr.hd (P:Str→Prop):Tr→Prop
 | .bl _=>False
 | .nd s ts=>P s∧hds P ts
noncomputable def hds (P:Str→Prop):List Tr→Prop
 | []=>True
 |t::ts=>t.hd P∧hds P ts
end
mutual
noncomputable def Tr.hb (P:Str→Prop):Tr→Prop
 | .bl _=>True
 | .nd s ts=>P s∧hbs P ts
noncomputable def hbs (P:Str→Prop):List Tr→Prop
 | []=>True
 |t::ts=>t.hb P∧hbs P ts
end
theorem hds_iff{P:Str→Prop}:∀{ts:List Tr},hds P ts↔ ∀t∈ts,t.hd P
 | []=>by simp [hds]
 |t::ts=>by simp [hds,hds_iff (ts:=ts)]
mutual
theorem zhR{P P':Str→Prop}(h:∀s,P s→P' s):∀(t:Tr),t.hd P→t.hd P'
 | .bl _,q=>by simp [Tr.hd]at q
 | .nd s ts,q=>by
  simp only[Tr.hd]at q⊢;exact⟨h s q.1,znM h ts q.2⟩
theorem znM{P P':Str→Prop}(h:∀s,P s→P' s):∀(ts:List Tr),hds P ts→hds P' ts
 | [],_=>by simp [hds]
 |t::ts,q=>by
  simp only[hds]at q⊢;exact⟨zhR h t q.1,znM h ts q.2⟩
end
mutual
theorem zst{P P':Str→Prop}(h:∀s,P s→P' s):∀(t:Tr),t.hb P→t.hb P'
 | .bl _,q=>by simp [Tr.hb]
 | .nd s ts,q=>by
  simp only[Tr.hb]at q⊢;exact⟨h s q.1,zmZ h ts q.2⟩
theorem zmZ{P P':Str→Prop}(h:∀s,P s→P' s):∀(ts:List Tr),hbs P ts→hbs P' ts
 | [],_=>by simp [hbs]
 |t::ts,q=>by
  simp only[hbs]at q⊢;exact⟨zst h t q.1,zmZ h ts q.2⟩
end
mutual
theorem zje{P:Str→Prop}{us:List Tr}(hu:∀u∈us,u.hd P):∀(t:Tr),t.hb P→t.fits us.length→(t.fill us).hd P
 | .bl n,h,f=>by
  simp only[Tr.fits]at f;simp only[Tr.fill];rw[bt,aQ (show n.toNat<us.length by omega)]
  exact hu _ (fD ..)
 | .nd s ts,h,f=>by
  simp only[Tr.fits]at f;simp only[Tr.hb]at h;simp only[Tr.fill,Tr.hd];exact⟨h.1,zoq hu ts h.2 f⟩
theorem zoq{P:Str→Prop}{us:List Tr}(hu:∀u∈us,u.hd P):∀(ts:List Tr),hbs P ts→fitss us.length ts→hds P (fills us ts)
 | [],h,f=>by simp [fills,hds]
 |t::ts,h,f=>by
  simp only[fitss]at f;simp only[hbs]at h;simp only[fills,hds];exact⟨zje hu t h.1 f.1,zoq hu ts h.2 f.2⟩
end
structure RightW (ws:List Str) (m:Nat) (t:Tr):Prop where
  dp:t.depth≤4
  fits:t.fits m
  hb:∀{P:Str→Prop},(∀x∈ws,P x)→t.hb P
  wt:t.weight≤7
def Slim (B:List Tn):Prop:=∀t∈B,∀(us:List Tr) (M:Nat),us.length=t.2.1.nb→1≤M→(∀u∈us,u.weight≤M)→(t.2.2.fill us).weight≤2+2*M∧(t.2.1.nb=0→(t.2.2.fill us).weight≤1+M)
structure BookOk (w0 w1 w2 w3 w4 w5:Str) (tt:List Str) (B:List Tn):Prop where
  lf:∃n m:Nat,B.map (λt=>t.2.1)=leftsL n w0 w2 w3++leftsL m w1 w2 w3
  ti:B.map (λt=>t.1)=tt.take B.length
  ri:∀t∈B,RightW [w0,w1,w2,w3,w4,w5] t.2.1.nb t.2.2
structure LeftT (P:Str→Prop) (L:Tr):Prop where
  hb:L.hb P
  fits:L.fits L.nb
  wt:L.weight≤L.nb+3
  dp:L.depth≤4
  nb:L.nb≤3
  nd:∃s ts,L= .nd s ts
  fw:∀us:List Tr,us.length=L.nb→(L.fill us).weight≤3+wts us
  fw0:L.nb=0→(L.fill []).weight≤2
theorem zgX{P:Str→Prop}{n:Nat}{h c d:Str}(hh:P h) (hc:P c) (hd:P d):∀L∈leftsL n h c d,LeftT P L:=by
 unfold leftsL;intro L hL;split at hL<;>simp only[av,bw,or_false]at hL
 all_goals first
  | (subst hL;exact⟨by simp [Tr.hb,hbs,hh,hc,hd],by simp [Tr.fits,fitss,Tr.nb,nbs],by simp [Tr.weight,wts,Tr.nb,nbs],by simp [Tr.depth,dts],by simp [Tr.nb,nbs],⟨_,_,rfl⟩,λus hu=>by rcases us with _ |⟨u,_ |⟨v,_ |⟨x,_ |⟨y,us⟩⟩⟩⟩<;>simp [Tr.nb,nbs,Tr.fill,fills,Tr.weight,wts]at hu⊢ <;>omega,λh0=>by simp [Tr.nb,nbs,Tr.fill,fills,Tr.weight,wts]at h0⊢⟩)
  | (rcases hL with rfl |rfl<;>exact⟨by simp [Tr.hb,hbs,hh,hc,hd],by simp [Tr.fits,fitss,Tr.nb,nbs],by simp [Tr.weight,wts,Tr.nb,nbs],by simp [Tr.depth,dts],by simp [Tr.nb,nbs],⟨_,_,rfl⟩,λus hu=>by rcases us with _ |⟨u,_ |⟨v,_ |⟨x,_ |⟨y,us⟩⟩⟩⟩<;>simp [Tr.nb,nbs,Tr.fill,fills,Tr.weight,wts]at hu⊢ <;>omega,λh0=>by simp [Tr.nb,nbs,Tr.fill,fills,Tr.weight,wts]at h0⊢⟩)
section
variable {w0 w1 w2 w3 w4 w5:Str}{tt:List Str}{B:List Tn}
theorem BookOk.len (b:BookOk w0 w1 w2 w3 w4 w5 tt B):2≤B.length∧B.length≤4:=by
 obtain⟨n,m,e⟩:=b.lf;have h1:=zfM n w0 w2 w3;have h2:=zfM m w1 w2 w3;have e':=congrArg dL e;rw[aq,aY]at e';omega
theorem BookOk.left (b:BookOk w0 w1 w2 w3 w4 w5 tt B) {P:Str→Prop}(h0:P w0) (h1:P w1) (h2:P w2) (h3:P w3) {t:Tn}(ht:t∈B):LeftT P t.2.1:=by
 obtain⟨n,m,e⟩:=b.lf;have:t.2.1∈leftsL n w0 w2 w3++leftsL m w1 w2 w3:=by rw[←e];exact aU.mpr ⟨t,ht,rfl⟩
 rcases bh.mp this with z |z
 ·exact zgX h0 h2 h3 _ z
 ·exact zgX h1 h2 h3 _ z
theorem BookOk.nodup (b:BookOk w0 w1 w2 w3 w4 w5 tt B) (T:Titles tt):(B.map λt=>t.1).Nodup:=by
 rw[b.ti];exact aX.sublist (kK ..) T.nd
theorem BookOk.mem (b:BookOk w0 w1 w2 w3 w4 w5 tt B) {t:Tn}(ht:t∈B):t.1∈tt:=by
 have:t.1∈B.map λt=>t.1:=aU.mpr ⟨t,ht,rfl⟩;rw[b.ti]at this;exact gS this
end
noncomputable def zaN (B:List Tn) (s:Str):Option Tn:=B.find? λt=>t.1 == s
theorem zcW:∀{B:List Tn}{t:Tn},(B.map λt=>t.1).Nodup→t∈B→zaN B t.1=ae t
 |u::B,t,hn,ht=>by
  unfold zaN;rw[az,d9]at hn;rw[bW];rcases av.mp ht with rfl |ht
  ·simp
  ·have hne:u.1≠t.1:=λz=>hn.1 (by rw[z];exact aU.mpr ⟨t,ht,rfl⟩);have:(u.1 == t.1)=false:=by simpa using hne
   rw[this];exact zcW hn.2 ht
theorem zhz{B:List Tn}{s:Str}(h:∀t∈B,t.1≠s):zaN B s=none:=by
 unfold zaN;rw[gX];intro t ht;simpa using h t ht
noncomputable def topB (B:List Tn) (s:Str) (n:Nat):Bool:=match zaN B s with
 |none=>signB s
 |some t=>n == t.2.1.nb
mutual
noncomputable def Tr.way (B:List Tn):Tr→Bool
 | .bl _=>false
 | .nd s ts=>topB B s ts.length&&zgI B ts
noncomputable def zgI (B:List Tn):List Tr→Bool
 | []=>true
 |t::ts=>t.way B&&zgI B ts
end
mutual
noncomputable def Tr.quiet:Tr→Bool
 | .bl _=>false
 | .nd s ts=>signB s&&zfe ts
noncomputable def zfe:List Tr→Bool
 | []=>true
 |t::ts=>t.quiet&&zfe ts
end
theorem zjD (B:List Tn):∀ts:List Tr,zgI B ts=ts.all (Tr.way B)
 | []=>by simp [zgI]
 |t::ts=>by simp [zgI,zjD B ts]
theorem ziY:∀ts:List Tr,zfe ts=ts.all Tr.quiet
 | []=>by simp [zfe]
 |t::ts=>by simp [zfe,ziY ts]
mutual
theorem ziO:∀t:Tr,t.hd zct→t.quiet=true
 | .bl n,h=>by simp [Tr.hd]at h
 | .nd s ts,h=>by
  simp only[Tr.hd]at h;rw[Tr.quiet,(zgj s).mpr h.1,zhF ts h.2];rfl
theorem zhF:∀ts:List Tr,hds zct ts→zfe ts=true
 | [],h=>by simp [zfe]
 |t::ts,h=>by
  simp only[hds]at h;rw[zfe,ziO t h.1,zhF ts h.2];rfl
end
mutual
theorem zjA{B:List Tn}(hB:∀t∈B,zdb t.1) {us:List Tr}(hu:∀u∈us,u.way B=true):∀(t:Tr),t.hb zct→t.fits us.length→(t.fill us).way B=true
 | .bl n,h,f=>by
  simp only[Tr.fits]at f;simp only[Tr.fill];rw[bt,aQ (show n.toNat<us.length by omega)]
  exact hu _ (fD ..)
 | .nd s ts,h,f=>by
  simp only[Tr.fits]at f;simp only[Tr.hb]at h;simp only[Tr.fill,Tr.way];rw[zln hB hu ts h.2 f,topB,zhz λt ht=>(zeX h.1 (hB t ht)).symm,(zgj s).mpr h.1];rfl
theorem zln{B:List Tn}(hB:∀t∈B,zdb t.1) {us:List Tr}(hu:∀u∈us,u.way B=true):∀(ts:List Tr),hbs zct ts→fitss us.length ts→zgI B (fills us ts)=true
 | [],h,f=>by simp [fills,zgI]
 |t::ts,h,f=>by
  simp only[fitss]at f;simp only[hbs]at h;rw[fills,zgI,zjA hB hu t h.1 f.1,zln hB hu ts h.2 f.2];rfl
end
inductive Pl where
  |nd (k bits:Int) (head:Str) (ps:List Pl)
mutual
noncomputable def Pl.wt:Pl→Nat
 | .nd _ _ _ ps=>1+pwts ps
noncomputable def pwts:List Pl→Nat
 | []=>0
 |p::ps=>p.wt+pwts ps
end
mutual
noncomputable def Pl.dp:Pl→Nat
 | .nd _ _ _ ps=>1+zoI ps
noncomputable def zoI:List Pl→Nat
 | []=>0
 |p::ps=>max p.dp (zoI ps)
end
mutual
noncomputable def Pl.nt:Pl→Nat
 | .nd k _ _ ps=>(if k<0 then 0 else 1)+pnts ps
noncomputable def pnts:List Pl→Nat
 | []=>0
 |p::ps=>p.nt+pnts ps
end
inductive PlOk (ws:List Str) (B:List Tn):Pl→Prop
 |sign {b:Int}{h:Str}{ps:List Pl}:h∈ws→(∀p∈ps,PlOk ws B p)→PlOk ws B (.nd (-1) b h ps)
 |turn {k:Nat}{b:Int}{h:Str}{ps:List Pl}{t:Tn}:B[k]? =ae t→ps.length=t.2.1.nb→0≤b→b<8→(∀p∈ps,PlOk ws B p)→PlOk ws B (.nd k b h ps)
mutual
noncomputable def Pl.ev (B:List Tn) (c:Int→Nat):Pl→Tr
 | .nd k b h ps=>if k<0 then .nd h (evs B c ps) else match c b with
  |0=>(B.getD k.toNat (h, .bl 0, .bl 0)).2.1.fill (evs B c ps)
  |1=> .nd (B.getD k.toNat (h, .bl 0, .bl 0)).1 (evs B c ps)
  |_=>(B.getD k.toNat (h, .bl 0, .bl 0)).2.2.fill (evs B c ps)
noncomputable def evs (B:List Tn) (c:Int→Nat):List Pl→List Tr
 | []=>[]
 |p::ps=>p.ev B c::evs B c ps
end
theorem zlM (B:List Tn) (c:Int→Nat):∀ps:List Pl,evs B c ps=ps.map (Pl.ev B c)
 | []=>by simp [evs]
 |p::ps=>by simp [evs,zlM B c ps]
theorem zcQ:∀ps qs:List Pl,pwts (ps++qs)=pwts ps+pwts qs
 | [],qs=>by simp [pwts]
 |p::ps,qs=>by simp [pwts,zcQ ps qs];omega
theorem zcm:∀ps qs:List Pl,pnts (ps++qs)=pnts ps+pnts qs
 | [],qs=>by simp [pnts]
 |p::ps,qs=>by simp [pnts,zcm ps qs];omega
theorem zhl{p:Pl}:∀{ps:List Pl},p∈ps→p.dp≤zoI ps
 |q::ps,h=>by
  rcases av.mp h with rfl |h
  ·simp [zoI];omega
  ·have:=zhl h;simp [zoI];omega
mutual
theorem zns:∀p:Pl,p.dp≤p.wt
 | .nd k b h ps=>by have:=zqb ps;simp [Pl.dp,Pl.wt];omega
theorem zqb:∀ps:List Pl,zoI ps≤pwts ps
 | []=>by simp [zoI]
 |p::ps=>by have:=zns p;have:=zqb ps;simp [zoI,pwts];omega
end
theorem zvC (p:Pl):1≤p.dp:=by cases p;simp [Pl.dp]
theorem zvQ (p:Pl):1≤p.wt:=by cases p;simp [Pl.wt]
theorem zbY{B:List Tn}{c:Int→Nat}{b:Int}{h:Str}{ps:List Pl}:(Pl.nd (-1) b h ps).ev B c= .nd h (ps.map (Pl.ev B c)):=by
 rw[Pl.ev,if_pos (by decide),zlM]
noncomputable def evT (t:Tn) (n:Nat) (us:List Tr):Tr:=match n with
 |0=>t.2.1.fill us
 |1=> .nd t.1 us
 |_=>t.2.2.fill us
theorem zbn{B:List Tn}{c:Int→Nat}{b:Int}{h:Str}{ps:List Pl}{k:Nat}{t:Tn}(e:B[k]? =ae t):(Pl.nd k b h ps).ev B c=evT t (c b) (ps.map (Pl.ev B c)):=by
 rw[Pl.ev,if_neg (by omega),zlM,cx,bt,e];rfl
section
variable {ws:List Str}{m:Nat}{t:Tr}
theorem zdn (h:Item ws m t):t.depth=1:=by
 cases h<;>simp [Tr.depth,dts]
theorem zlO (h:RightT ws m t):t.depth≤3:=by
 cases h with
 |one h=>rw[zdn h];decide
 |un hs h=>simp [Tr.depth,dts,zdn h]
 |two hs h0 h h'=>simp [Tr.depth,dts,zdn h,zdn h']
 |deep hs hz h0 h h'=>simp [Tr.depth,dts,zdn h,zdn h']
theorem zec (h:Item ws m t):t.fits m:=by
 cases h with
 |bl h0 h1=>exact⟨h0,h1⟩
 |nd hs=>simp [Tr.fits,fitss]
theorem zpt (h:RightT ws m t):t.fits m:=by
 cases h with
 |one h=>exact zec h
 |un hs h=>simp [Tr.fits,fitss,zec h]
 |two hs h0 h h'=>simp [Tr.fits,fitss,zec h,zec h']
 |deep hs hz h0 h h'=>simp [Tr.fits,fitss,zec h,zec h']
theorem zgp{P:Str→Prop}(hP:∀x∈ws,P x) (h:Item ws m t):t.hb P:=by
 cases h with
 |bl h0 h1=>simp [Tr.hb]
 |nd hs=>simp [Tr.hb,hbs,hP _ hs]
theorem ztm{P:Str→Prop}(hP:∀x∈ws,P x) (h:RightT ws m t):t.hb P:=by
 cases h with
 |one h=>exact zgp hP h
 |un hs h=>simp [Tr.hb,hbs,zgp hP h,hP _ hs]
 |two hs h0 h h'=>simp [Tr.hb,hbs,zgp hP h,zgp hP h',hP _ hs]
 |deep hs hz h0 h h'=>simp [Tr.hb,hbs,zgp hP h,zgp hP h',hP _ hs,hP _ hz]
theorem zcM (h:Item ws m t):t.weight=1:=by
 cases h<;>simp [Tr.weight,wts]
theorem zjU (h:RightT ws m t):t.weight≤4:=by
 cases h with
 |one h=>rw[zcM h];decide
 |un hs h=>simp [Tr.weight,wts,zcM h]
 |two hs h0 h h'=>simp [Tr.weight,wts,zcM h,zcM h']
 |deep hs hz h0 h h'=>simp [Tr.weight,wts,zcM h,zcM h']
theorem zdV (h:Item ws m t) {us:List Tr}{M:Nat}(hl:us.length=m) (hM:1≤M) (hu:∀u∈us,u.weight≤M):(t.fill us).weight≤M:=by
 cases h with
 | @bl n h0 h1=>
  simp only[Tr.fill];rw[bt,aQ (show n.toNat<us.length by omega)]
  exact hu _ (fD ..)
 |nd hs=>simp [Tr.fill,fills,Tr.weight,wts];omega
theorem zpl (h:RightT ws m t) {us:List Tr}{M:Nat}(hl:us.length=m) (hM:1≤M) (hu:∀u∈us,u.weight≤M):(t.fill us).weight≤2+2*M∧(m=0→(t.fill us).weight≤1+M):=by
 cases h with
 |one h=>
  have:=zdV h hl hM hu;omega
 |un hs h=>
  have:=zdV h hl hM hu;simp only[Tr.fill,fills,Tr.weight,wts];omega
 |two hs h0 h h'=>
  have:=zdV h hl hM hu;have:=zdV h' hl hM hu;simp only[Tr.fill,fills,Tr.weight,wts];omega
 |deep hs hz h0 h h'=>
  have:=zdV h hl hM hu;have:=zdV h' hl hM hu;simp only[Tr.fill,fills,Tr.weight,wts];omega
end
theorem RightT.w{ws:List Str}{m:Nat}{t:Tr}(h:RightT ws m t):RightW ws m t:=⟨Nat.le_succ_of_le (zlO h),zpt h,λhP=>ztm hP h,bi (zjU h) (by decide)⟩
theorem zxi{ws:List Str}{B:List Tn}(h:∀t∈B,RightT ws t.2.1.nb t.2.2):Slim B:=λt ht us M hl hM hu=>zpl (h t ht) hl hM hu
structure BkOk (ws hs:List Str) (B:List Tn):Prop where
  ti:∀t∈B,zdb t.1
  nd:(B.map λt=>t.1).Nodup
  sg:∀x∈ws,zct x
  sb:∀x∈hs,x∈ws
  lf:∀t∈B,LeftT zct t.2.1
  ri:∀t∈B,RightW ws t.2.1.nb t.2.2
theorem BookOk.bk{w0 w1 w2 w3 w4 w5:Str}{tt:List Str}{B:List Tn}(b:BookOk w0 w1 w2 w3 w4 w5 tt B) (T:Titles tt) (G:Signs w0 w1 w2 w3 w4 w5):BkOk [w0,w1,w2,w3,w4,w5] [w2,w3,w4,w5] B:=
 ⟨λt ht=>T.ok _ (b.mem ht),b.nodup T,G.ok,λx hx=>aG _ (aG _ hx),λt ht=>b.left (G.ok _ (by simp)) (G.ok _ (by simp)) (G.ok _ (by simp)) (G.ok _ (by simp)) ht,b.ri⟩
section
variable {ws hs:List Str}{B:List Tn}{c:Int→Nat}
theorem zxT (b:BkOk ws hs B) {p:Pl}(h:PlOk hs B p):(p.ev B c).way B=true:=by
 induction h with
 | @sign b' h ps hh hp ih=>
  rw[zbY,Tr.way,topB,zhz λt ht=>(zeX (b.sg h (b.sb h hh)) (b.ti t ht)).symm,zjD,(zgj h).mpr (b.sg h (b.sb h hh))];simp only[e_,jb,cX];exact λp hp=>ih p hp
 | @turn k b' h ps t e hl b0 b1 hp ih=>
  have ht:t∈B:=bE e;have hu:∀u∈ps.map (Pl.ev B c),u.way B=true:=λu hu=>by
   obtain⟨p,hp,rfl⟩:=aU.mp hu;exact ih p hp
  rw[zbn e];unfold evT;split
  ·exact zjA b.ti hu _ (b.lf t ht).hb (by rw[aq,hl];exact(b.lf t ht).fits)
  ·rw[Tr.way,topB,zcW b.nd ht,zjD];simp only[aq,hl,beq_self_eq_true,jb,cX];exact hu
  ·exact zjA b.ti hu _ ((b.ri t ht).hb b.sg) (by rw[aq,hl];exact(b.ri t ht).fits)
theorem zjj{p:Pl}:∀{ps:List Pl},p∈ps→p.nt≤pnts ps
 |q::ps,h=>by
  rcases av.mp h with rfl |h
  ·simp [pnts]
  ·have:=zjj h;simp [pnts];omega
theorem znU{p:Pl}:∀{ps:List Pl},p∈ps→p.wt≤pwts ps
 |q::ps,h=>by
  rcases av.mp h with rfl |h
  ·simp [pwts]
  ·have:=znU h;simp [pwts];omega
theorem zlX (n:Nat):1≤2 ^ n:=Nat.one_le_two_pow
end
mutual
noncomputable def Tr.mk (B:List Tn) (g:Tn→Tr):Tr→Tr
 | .bl n=> .bl n
 | .nd s ts=>match zaN B s with
  |none=> .nd s (mks B g ts)
  |some t=>(g t).fill (mks B g ts)
noncomputable def mks (B:List Tn) (g:Tn→Tr):List Tr→List Tr
 | []=>[]
 |t::ts=>t.mk B g::mks B g ts
end
theorem zgA (B:List Tn) (g:Tn→Tr):∀ts:List Tr,mks B g ts=ts.map (Tr.mk B g)
 | []=>by simp [mks]
 |t::ts=>by simp [mks,zgA B g ts]
theorem zhv{B:List Tn}{g:Tn→Tr}{s:Str}{ts:List Tr}(h:zaN B s=none):(Tr.nd s ts).mk B g= .nd s (ts.map (Tr.mk B g)):=by
 rw[Tr.mk,h,zgA]
theorem zik{B:List Tn}{g:Tn→Tr}{s:Str}{ts:List Tr}{t:Tn}(h:zaN B s=ae t):(Tr.nd s ts).mk B g=(g t).fill (ts.map (Tr.mk B g)):=by
 rw[Tr.mk,h,zgA]
theorem zbl{B:List Tn}(hB:∀t∈B,zdb t.1) {s:Str}(h:zct s):zaN B s=none:=zhz λt ht=>(zeX h (hB t ht)).symm
mutual
theorem zfP{B:List Tn}{g:Tn→Tr}(hB:∀t∈B,zdb t.1):∀t:Tr,t.hd zct→t.mk B g=t
 | .bl n,h=>by simp [Tr.hd]at h
 | .nd s ts,h=>by
  simp only[Tr.hd]at h;rw[Tr.mk,zbl hB h.1,zkh hB ts h.2]
theorem zkh{B:List Tn}{g:Tn→Tr}(hB:∀t∈B,zdb t.1):∀ts:List Tr,hds zct ts→mks B g ts=ts
 | [],h=>by simp [mks]
 |t::ts,h=>by
  simp only[hds]at h;rw[mks,zfP hB t h.1,zkh hB ts h.2]
end
mutual
theorem zjH{B:List Tn}{g:Tn→Tr}(hB:∀t∈B,zdb t.1) {us:List Tr}:∀t:Tr,t.hb zct→t.fits us.length→(t.fill us).mk B g=t.fill (us.map (Tr.mk B g))
 | .bl n,h,f=>by
  simp only[Tr.fits]at f;simp only[Tr.fill];rw[bt,bt,bv,aQ (show n.toNat<us.length by omega)]
  rfl
 | .nd s ts,h,f=>by
  simp only[Tr.hb]at h;simp only[Tr.fits]at f;simp only[Tr.fill];rw[Tr.mk,zbl hB h.1];simp only[];rw[zoz hB ts h.2 f]
theorem zoz{B:List Tn}{g:Tn→Tr}(hB:∀t∈B,zdb t.1) {us:List Tr}:∀ts:List Tr,hbs zct ts→fitss us.length ts→mks B g (fills us ts)=fills (us.map (Tr.mk B g)) ts
 | [],h,f=>by simp [fills,mks]
 |t::ts,h,f=>by
  simp only[hbs]at h;simp only[fitss]at f;rw[fills,mks,fills,zjH hB t h.1 f.1,zoz hB ts h.2 f.2]
end
section
variable {ws hs:List Str}{B:List Tn}{c d:Int→Nat}
theorem zzz (b:BkOk ws hs B) {g:Tn→Tr}(hg:∀t∈B,∀x:Int,0≤x→x<8→c x=1→ ∀us,(g t).fill us=evT t (d x) us) (h0:∀x:Int,0≤x→x<8→c x≠1→d x=c x) {p:Pl}(h:PlOk hs B p):(p.ev B c).mk B g=p.ev B d:=by
 induction h with
 | @sign b' h ps hh hp ih=>
  rw[zbY,zbY,zhv (zbl b.ti (b.sg h (b.sb h hh))),bb];congr 1;exact cV λp hp=>ih p hp
 | @turn k b' h ps t e hl b0 b1 hp ih=>
  have ht:t∈B:=bE e;have em:(ps.map (Pl.ev B c)).map (Tr.mk B g)=ps.map (Pl.ev B d):=by
   rw[bb];exact cV λp hp=>ih p hp
  rw[zbn e,zbn e];by_cases hc:c b'=1
  ·rw[←hg t ht b' b0 b1 hc,hc];show(Tr.nd t.1 _).mk B g=_;rw[zik (zcW b.nd ht),em]
  ·rw[h0 b' b0 b1 hc];unfold evT;split
   ·rw[zjH b.ti _ (b.lf t ht).hb (by rw[aq,hl];exact(b.lf t ht).fits),em]
   ·rename_i z;exact absurd z hc
   ·rw[zjH b.ti _ ((b.ri t ht).hb b.sg) (by rw[aq,hl];exact(b.ri t ht).fits),em]
noncomputable def zmv (c:Int→Nat):Int→Nat:=λx=>if c x=1 then 0 else c x
noncomputable def zeh (c:Int→Nat):Int→Nat:=λx=>if c x=1 then 2 else c x
theorem ziG (b:BkOk ws hs B) {p:Pl}(h:PlOk hs B p):(p.ev B c).mk B (λt=>t.2.1)=p.ev B (zmv c):=
 zzz b (λt ht x _ _ hx us=>by rw[zmv,if_pos hx];rfl) (λx _ _ hx=>by rw[zmv,if_neg hx]) h
theorem zgs (b:BkOk ws hs B) {p:Pl}(h:PlOk hs B p):(p.ev B c).mk B (λt=>t.2.2)=p.ev B (zeh c):=
 zzz b (λt ht x _ _ hx us=>by rw[zeh,if_pos hx];rfl) (λx _ _ hx=>by rw[zeh,if_neg hx]) h
theorem zeN{p:Pl}(h:PlOk hs B p) (hc:∀x:Int,0≤x→x<8→c x=d x):p.ev B c=p.ev B d:=by
 induction h with
 | @sign b' h ps hh hp ih=>
  rw[zbY,zbY];congr 1;exact cV λp hp=>ih p hp
 | @turn k b' h ps t e hl b0 b1 hp ih=>
  rw[zbn e,zbn e,hc b' b0 b1];congr 1;exact cV λp hp=>ih p hp
end
theorem zov{n:Nat}{h c d:Str}{L:Tr}(hL:L∈leftsL n h c d) {us:List Tr}(hu:us.length=L.nb):L.mt (L.fill us)=ae us:=by
 unfold leftsL at hL;split at hL<;>simp only[av,bw,or_false]at hL
 all_goals first
  | (subst hL;rcases us with _ |⟨u,_ |⟨v,_ |⟨x,_ |⟨y,us⟩⟩⟩⟩<;>simp [Tr.nb,nbs,Tr.fill,fills,Tr.mt,mts]at hu⊢ <;>omega)
  | (rcases hL with rfl |rfl<;>rcases us with _ |⟨u,_ |⟨v,_ |⟨x,_ |⟨y,us⟩⟩⟩⟩<;>simp [Tr.nb,nbs,Tr.fill,fills,Tr.mt,mts]at hu⊢ <;>omega)
def zzY (B:List Tn):Prop:=∀t∈B,∀us:List Tr,us.length=t.2.1.nb→t.2.1.mt (t.2.1.fill us)=ae us
theorem BookOk.mt{w0 w1 w2 w3 w4 w5:Str}{tt:List Str}{B:List Tn}(b:BookOk w0 w1 w2 w3 w4 w5 tt B):zzY B:=λt ht us hu=>by
 obtain⟨n,m,e⟩:=b.lf;have:t.2.1∈leftsL n w0 w2 w3++leftsL m w1 w2 w3:=by rw[←e];exact aU.mpr ⟨t,ht,rfl⟩
 rcases bh.mp this with z |z
 ·exact zov z hu
 ·exact zov z hu
mutual
inductive Mv (B:List Tn):Nat→Tr→Tr→Tr→Prop
 |nn {n:Nat}{s z:Str}{ts us cs:List Tr}:zaN B s=none→zaN B z=none→Mvs B n ts us cs→Mv B (n+1) (.nd s ts) (.nd z us) (.nd s cs)
 |ns {n:Nat}{s z:Str}{ts us cs ms:List Tr}{t:Tn}:zaN B s=none→zaN B z=ae t→t.2.1.mt (.nd s ts)=ae ms→cs.length=t.2.1.nb→Mvs B n ms us cs→Mv B (n+1) (.nd s ts) (.nd z us) (t.2.2.fill cs)
 |sn {n:Nat}{s z:Str}{ts us cs ms:List Tr}{t:Tn}:zaN B s=ae t→zaN B z=none→t.2.1.mt (.nd z us)=ae ms→Mvs B n ts ms cs→Mv B (n+1) (.nd s ts) (.nd z us) (.nd s cs)
 |ss {n:Nat}{s z:Str}{ts us cs:List Tr}{t t':Tn}:zaN B s=ae t'→zaN B z=ae t→cs.length=t.2.1.nb→Mvs B n ts us cs→Mv B (n+1) (.nd s ts) (.nd z us) (t.2.2.fill cs)
inductive Mvs (B:List Tn):Nat→List Tr→List Tr→List Tr→Prop
 |nil {n:Nat}:Mvs B n [] [] []
 |cons {n:Nat}{a b c:Tr}{as bs cs:List Tr}:Mv B n a b c→Mvs B n as bs cs→Mvs B n (a::as) (b::bs) (c::cs)
end
mutual
theorem Mv.monoA{B:List Tn}:∀{n:Nat}{a b c:Tr},Mv B n a b c→ ∀m,n≤m→Mv B m a b c
 |_,_,_,_, .nn h1 h2 h3=>λm h=>by
  obtain⟨m,rfl⟩:∃m',m=m'+1:=⟨m - 1,by omega⟩
  exact .nn h1 h2 (Mvs.monoA h3 m (by omega))
 |_,_,_,_, .ns h1 h2 h3 h4 h5=>λm h=>by
  obtain⟨m,rfl⟩:∃m',m=m'+1:=⟨m - 1,by omega⟩
  exact .ns h1 h2 h3 h4 (Mvs.monoA h5 m (by omega))
 |_,_,_,_, .sn h1 h2 h3 h4=>λm h=>by
  obtain⟨m,rfl⟩:∃m',m=m'+1:=⟨m - 1,by omega⟩
  exact .sn h1 h2 h3 (Mvs.monoA h4 m (by omega))
 |_,_,_,_, .ss h1 h2 h3 h4=>λm h=>by
  obtain⟨m,rfl⟩:∃m',m=m'+1:=⟨m - 1,by omega⟩
  exact .ss h1 h2 h3 (Mvs.monoA h4 m (by omega))
theorem Mvs.monoA{B:List Tn}:∀{n:Nat}{a b c:List Tr},Mvs B n a b c→ ∀m,n≤m→Mvs B m a b c
 |_,_,_,_, .nil=>λ_ _=> .nil
 |_,_,_,_, .cons h1 h2=>λm h=> .cons (Mv.monoA h1 m h) (Mvs.monoA h2 m h)
end
theorem Mv.mono{B:List Tn}{n m:Nat}{a b c:Tr}(h:n≤m) (M:Mv B n a b c):Mv B m a b c:=Mv.monoA M m h
theorem Mvs.mono{B:List Tn}{n m:Nat}{a b c:List Tr}(h:n≤m) (M:Mvs B n a b c):Mvs B m a b c:=Mvs.monoA M m h
theorem Mvs.get{B:List Tn}{n:Nat}:∀{as bs cs:List Tr}{i:Nat},Mvs B n as bs cs→i<cs.length→ ∃a b c,as[i]? =ae a∧bs[i]? =ae b∧cs[i]? =ae c∧Mv B n a b c
 |_,_,_,i, .nil,h=>by simp at h
 |_,_,_,0, .cons h1 _,h=>⟨_,_,_,rfl,rfl,rfl,h1⟩
 |_,_,_,i+1, .cons _ h2,h=>by
  obtain⟨a,b,c,e1,e2,e3,q⟩:=Mvs.get (i:=i) h2 (by simpa using h);exact⟨a,b,c,by simpa using e1,by simpa using e2,by simpa using e3,q⟩
theorem Mvs.of{B:List Tn}{n:Nat}{α:Type}{f g h:α→Tr}:∀(xs:List α),(∀x∈xs,Mv B n (f x) (g x) (h x))→Mvs B n (xs.map f) (xs.map g) (xs.map h)
 | [],_=> .nil
 |x::xs,q=> .cons (q x aO) (Mvs.of xs λy hy=>q y (aG _ hy))
mutual
theorem zlY{B:List Tn}(hB:∀t∈B,zdb t.1) {n:Nat}{us vs cs:List Tr}(h:Mvs B n us vs cs):∀t:Tr,t.hb zct→t.fits cs.length→Mv B (n+t.depth) (t.fill us) (t.fill vs) (t.fill cs)
 | .bl k,q,f=>by
  simp only[Tr.fits]at f;obtain⟨a,b,c,e1,e2,e3,m⟩:=h.get (i:=k.toNat) (by omega);simp only[Tr.fill,bt,e1,e2,e3,iK];exact m.mono (by omega)
 | .nd s ts,q,f=>by
  simp only[Tr.hb]at q;simp only[Tr.fits]at f;have:=zok hB h ts q.2 f;simp only[Tr.fill,Tr.depth];rw[show n+(1+dts ts)=n+dts ts+1 by omega]
  exact .nn (zbl hB q.1) (zbl hB q.1) this
theorem zok{B:List Tn}(hB:∀t∈B,zdb t.1) {n:Nat}{us vs cs:List Tr}(h:Mvs B n us vs cs):∀ts:List Tr,hbs zct ts→fitss cs.length ts→Mvs B (n+dts ts) (fills us ts) (fills vs ts) (fills cs ts)
 | [],q,f=>by simp only[fills];exact .nil
 |t::ts,q,f=>by
  simp only[hbs]at q;simp only[fitss]at f;have h1:=zlY hB h t q.1 f.1;have h2:=zok hB h ts q.2 f.2;simp only[fills,dts];exact .cons (h1.mono (by omega)) (h2.mono (by omega))
end
noncomputable def zlD (c d:Int→Nat):Int→Nat:=λx=>if d x=1 then 2 else c x
theorem zhC{ws hs:List Str}{B:List Tn}{c d:Int→Nat}(b:BkOk ws hs B) (hm:zzY B) (hc:∀x:Int,0≤x→x<8→(c x≤1∧d x≤1)∨(c x=2∧d x=2)) {p:Pl}(h:PlOk hs B p):Mv B (p.dp+3*p.nt) (p.ev B c) (p.ev B d) (p.ev B (zlD c d)):=by
 induction h with
 | @sign b' h ps hh hp ih=>
  rw[zbY,zbY,zbY,Pl.dp,Pl.nt,if_pos (by decide),show 1+zoI ps+3*(0+pnts ps)=zoI ps+3*pnts ps+1 by omega]
  refine .nn (zbl b.ti (b.sg h (b.sb h hh))) (zbl b.ti (b.sg h (b.sb h hh))) (.of ps λp hp=>(ih p hp).mono ?_);have:=zhl hp;have:=zjj hp;omega
 | @turn k b' h ps t e hl b0 b1 hp ih=>
  have ht:t∈B:=bE e;have en:(Pl.nd k b' h ps).nt=1+pnts ps:=by rw[Pl.nt,if_neg (by omega)]
  have M:Mvs B (zoI ps+3*pnts ps) (ps.map (Pl.ev B c)) (ps.map (Pl.ev B d)) (ps.map (Pl.ev B (zlD c d))):= .of ps λp hp=>(ih p hp).mono (by
   have:=zhl hp;have:=zjj hp;omega)
  have lc:(ps.map (Pl.ev B (zlD c d))).length=t.2.1.nb:=by rw[aq,hl]
  have l1:(ps.map (Pl.ev B c)).length=t.2.1.nb:=by rw[aq,hl]
  have l2:(ps.map (Pl.ev B d)).length=t.2.1.nb:=by rw[aq,hl]
  have tt:=zcW b.nd ht;have L:=b.lf t ht;have R:=b.ri t ht;have hd:=L.dp;rw[zbn e,zbn e,zbn e,Pl.dp,en,show 1+zoI ps+3*(1+pnts ps)=zoI ps+3*pnts ps+3+1 by omega]
  have lsign:∀us,∃s ts,t.2.1.fill us= .nd s ts∧zaN B s=none:=λus=>by
   obtain⟨s,ts,el⟩:=L.nd;have hb:=L.hb;rw[el,Tr.hb]at hb;exact⟨s,fills us ts,by rw[el,Tr.fill],zbl b.ti hb.1⟩
  have hp:zlD c d b'=if d b'=1 then 2 else c b':=rfl;rw[hp];rcases hc b' b0 b1 with⟨c1,d1⟩ |⟨c2,d2⟩
  ·by_cases dz:d b'=1
   ·rw[if_pos dz,dz];by_cases cz:c b'=1
    ·rw[cz];exact .ss tt tt lc (M.mono (by omega))
    ·rw[show c b'=0 by omega]
     obtain⟨s,ts,es,hs⟩:=lsign (ps.map (Pl.ev B c));have:=hm t ht _ l1;simp only[evT];rw[es]at this⊢;exact .ns hs tt this lc (M.mono (by omega))
   ·rw[if_neg dz,show d b'=0 by omega]
    by_cases cz:c b'=1
    ·rw[cz];obtain⟨s,ts,es,hs⟩:=lsign (ps.map (Pl.ev B d));have:=hm t ht _ l2;simp only[evT];rw[es]at this⊢;exact .sn tt hs this (M.mono (by omega))
    ·rw[show c b'=0 by omega]
     simp only[evT];exact(zlY b.ti M _ L.hb (by rw[lc];exact L.fits)).mono (by omega)
  ·rw[d2,if_neg (by decide),c2];simp only[evT];have:=R.dp;exact(zlY b.ti M _ (R.hb b.sg) (by rw[lc];exact R.fits)).mono (by omega)
theorem zsi{P:Str→Prop}:∀{ts us:List Tr},hds P ts→hds P us→hds P (ts++us)
 | [],us,_,h=>h
 |t::ts,us,h,g=>by
  simp only[hds,dG]at h⊢;exact⟨h.1,zsi h.2 g⟩
mutual
inductive PlAt (S:Sto):Pl→W→Prop
 |nd {k b:Int}{h:Str}{ps:List Pl}{a:Addr}{vs:List W}:S a=ae (.lst vs)→PlsAt S ps vs→PlAt S (.nd k b h ps) (.tup [.int k, .int b, .str h, .ref a])
inductive PlsAt (S:Sto):List Pl→List W→Prop
 |nil:PlsAt S [] []
 |cons {p:Pl}{v:W}{ps:List Pl}{vs:List W}:PlAt S p v→PlsAt S ps vs→PlsAt S (p::ps) (v::vs)
end
mutual
theorem PlAt.sub{S S':Sto}(h:Sub S S'):∀{p:Pl}{v:W},PlAt S p v→PlAt S' p v
 |_,_, .nd e q=> .nd (h _ _ e) (PlsAt.sub h q)
theorem PlsAt.sub{S S':Sto}(h:Sub S S'):∀{ps:List Pl}{vs:List W},PlsAt S ps vs→PlsAt S' ps vs
 |_,_, .nil=> .nil
 |_,_, .cons a b=> .cons (PlAt.sub h a) (PlsAt.sub h b)
end
section
variable {S:Sto}
theorem PlsAt.len:∀{ps:List Pl}{vs:List W},PlsAt S ps vs→ps.length=vs.length
 |_,_, .nil=>rfl
 |_,_, .cons _ h=>congrArg (· +1) (PlsAt.len h)
theorem PlsAt.app:∀{ps qs:List Pl}{vs us:List W},PlsAt S ps vs→PlsAt S qs us→PlsAt S (ps++qs) (vs++us)
 |_,_,_,_, .nil,h=>h
 |_,_,_,_, .cons a b,h=> .cons a (PlsAt.app b h)
theorem PlsAt.take:∀(n:Nat) {ps:List Pl}{vs:List W},PlsAt S ps vs→PlsAt S (ps.take n) (vs.take n)
 |0,_,_,_=> .nil
 |_+1,_,_, .nil=> .nil
 |n+1,_,_, .cons a b=> .cons a (PlsAt.take n b)
theorem PlsAt.drop:∀(n:Nat) {ps:List Pl}{vs:List W},PlsAt S ps vs→PlsAt S (ps.drop n) (vs.drop n)
 |0,_,_,h=>h
 |_+1,_,_, .nil=> .nil
 |n+1,_,_, .cons _ b=>PlsAt.drop n b
theorem PlsAt.rep{p:Pl}{v:W}(h:PlAt S p v):∀n:Nat,PlsAt S (aN n p) (aN n [v]).flatten
 |0=> .nil
 |n+1=>by
  rw[b9,b9,dr];exact .cons h (PlsAt.rep h n)
end
noncomputable def pad (w:Str):Pl:= .nd (-1) 0 w []
noncomputable def zbX (need:Nat) (w:Str) (ps:List Pl):List Pl:=aN (need - ps.length) (pad w)++ps
noncomputable def push (need:Nat) (w:Str) (k b:Int) (h:Str) (ps:List Pl):List Pl:=
 (zbX need w ps).take ((zbX need w ps).length - need)++[.nd k b h ((zbX need w ps).drop ((zbX need w ps).length - need))]
theorem zni (w:Str):∀n:Nat,pwts (aN n (pad w))=n
 |0=>by simp [pwts]
 |n+1=>by rw[b9,pwts,zni w n];simp [pad,Pl.wt,pwts];omega
theorem zom (w:Str):∀n:Nat,pnts (aN n (pad w))=0
 |0=>by simp [pnts]
 |n+1=>by rw[b9,pnts,zom w n];simp [pad,Pl.nt,pnts]
theorem zgW:∀ps:List Pl,ps.length≤pwts ps
 | []=>by simp
 |p::ps=>by have:=zgW ps;have:=zvQ p;simp [pwts];omega
theorem zeV (need:Nat) (w:Str) (ps:List Pl):(zbX need w ps).length=need - ps.length+ps.length:=by simp [zbX]
theorem zpX{need:Nat}{w:Str}{k b:Int}{h:Str}{ps:List Pl}:pwts (push need w k b h ps)=need - ps.length+pwts ps+1∧pnts (push need w k b h ps)=pnts ps+(if k<0 then 0 else 1)∧(push need w k b h ps).length=need - ps.length+ps.length - need+1:=by
 have hl:=zeV need w ps;have h1:pwts (zbX need w ps)=need - ps.length+pwts ps:=by rw[zbX,zcQ,zni]
 have h2:pnts (zbX need w ps)=pnts ps:=by rw[zbX,zcm,zom];omega
 have h3:=zcQ ((zbX need w ps).take ((zbX need w ps).length - need)) ((zbX need w ps).drop ((zbX need w ps).length - need));have h4:=zcm ((zbX need w ps).take ((zbX need w ps).length - need)) ((zbX need w ps).drop ((zbX need w ps).length - need));rw[j3]at h3 h4;unfold push;refine⟨?_,?_,?_⟩
 ·rw[zcQ,pwts,pwts,Pl.wt];omega
 ·rw[zcm,pnts,pnts,Pl.nt];omega
 ·rw[aY,cK,b6,hl];omega
theorem zoK{need:Nat}{w:Str}(ps:List Pl):((zbX need w ps).drop ((zbX need w ps).length - need)).length=need:=by
 have hl:=zeV need w ps;rw[cu,hl];omega
theorem zka{ws:List Str}{B:List Tn}{need:Nat}{w:Str}{ps:List Pl}(hw:w∈ws) (h:∀p∈ps,PlOk ws B p):∀p∈zbX need w ps,PlOk ws B p:=λp hp=>by
 rcases bh.mp hp with z |z
 ·rw[(List.mem_replicate.mp z).2];exact .sign hw λq hq=>by cases hq
 ·exact h p z
theorem zwk{ws:List Str}{B:List Tn}{need:Nat}{w:Str}{k b:Int}{h:Str}{ps:List Pl}(hw:w∈ws) (hp:∀p∈ps,PlOk ws B p) (hn:∀qs:List Pl,qs.length=need→(∀q∈qs,PlOk ws B q)→PlOk ws B (.nd k b h qs)):∀p∈push need w k b h ps,PlOk ws B p:=λp hq=>by
 rcases bh.mp hq with z |z
 ·exact zka hw hp p (gS z)
 ·rw[bg.mp z];exact hn _ (zoK ps) λq hq=>zka hw hp q (ig hq)
noncomputable def zte:WS:=(zcq (znC (wTb (wOp oGt (wVar 3) (wC (.int 0)))) (wTb (wOp oLt (wVar 5) (wC (.int 5))))) (zas (wAsg (wOp (zfK λi j=> .int (i - j)) (wVar 3) (wC (.int 1))) (wGN 3))
  (zas (wAsg (zcX (zuc (zsL (zdF (zab (zcf (zab (zmc (wC (.int 1))) (zab (wC (.int 0)) (zab (wOp oIx (wVar 2) (wC (.int 2))) (zab (zcX (zdF waNil)) waNil))))) waNil)) (wOp (zfK λi j=> .int (i - j)) (wVar 8) (wB zfz (zab (wVar 4) waNil)))) (wVar 4))) (wGN 4))
  (zas (wAsg (wOp (zfK λi j=> .int (i - j)) (wB zfz (zab (wVar 4) waNil)) (wVar 8)) (wGN 11))
  (wAsg (zcX (zoU (zxn (wVar 4) woN (woS (wVar 11))) (zdF (zab (wOp zdT (wVar 9) (zcf (zab (wSl (wVar 4) (woS (wVar 11)) woN) waNil))) waNil)))) (wGN 4))))) wNext)
theorem zrY{r:Nat}:zgn r zaJ=(zas (wAsg (wOp (zdk (λ_ j=>0<j) λi j=> .int (i % j)) (wVar 6) (wC (.int 8))) (wGN 7))
  (zas (wAsg (ztV (zdF (zab (wC (.int 0)) (zab (wC (.int 0)) (zab (wC (.int 1)) (zab (wC (.int 2)) waNil))))) (wB zkK (zab (wVar 7) (zab (wC (.int 3)) waNil)))) (wGN 8))
  (zas (wAsg (zcf (zab (zmc (wC (.int 1))) (zab (wC (.int 0)) (zab (wOp oIx (wVar 2) (ztV (zdF (zab (wC (.int 2)) (zab (wC (.int 5)) (zab (wC (.int 3)) (zab (wC (.int 4)) waNil))))) (wB zkK (zab (wVar 7) (zab (wC (.int 3)) waNil))))) waNil)))) (wGN 9))
  (zas (zcq (wTb (wOp oGt (wVar 7) (wC (.int 3)))) (zas (wAsg (wOp (zdk (λ_ j=>0<j) λi j=> .int (i % j)) (wOp (zdk ziD λi j=> .int (i / j)) (wVar 6) (wC (.int 8))) (wB zfz (zab (wVar 1) waNil))) (wGN 10))
  (zas (wAsg (zan (zaA r) (zab (wOp oIx (wOp oIx (wVar 1) (wVar 10)) (wC (.int 1))) waNil)) (wGN 8))
  (zas (wAsg (zcf (zab (wVar 10) (zab (wOp (zdk (λ_ j=>0<j) λi j=> .int (i % j)) (wOp (zdk ziD λi j=> .int (i / j)) (wVar 6) (wC (.int 64))) (wC (.int 8))) (zab (wC (.str "")) waNil)))) (wGN 9))
  (wAsg (wOp zdT (wVar 5) (wC (.int 1))) (wGN 5))))) wNext)
  zte)))):=rfl
section
variable {w0 w1 w2 w3 w4 w5:Str}{r:Nat}{S:Sto}{aw st:Addr}{E:WX}{D:WEnds}
theorem zrW{need:Nat}{k b room spent:Int}{h:Str}{ps:List Pl}{vs:List W}{x0 x1 x6 x7 x10 x11:Option W}(hw:S aw=ae (.lst (six w0 w1 w2 w3 w4 w5))) (hst:S st=ae (.lst vs)) (hp:PlsAt S ps vs) (hn:need≤3) (hl:ps.length≤100)
  (h1:D.nx [x0,x1,ae (.ref aw),ae (.int room),ae (.ref st),ae (.int spent),x6,x7,ae (.int need),ae (.tup [.int k, .int b, .str h]),x10,x11] S)
  (h2:0<room→spent<5→ ∀(st':Addr) (S':Sto) (vs':List W) (x11:Option W),Sub S S'→S' st'=ae (.lst vs')→PlsAt S' (push need w2 k b h ps) vs'→D.nx [x0,x1,ae (.ref aw),ae (.int (room - 1)),ae (.ref st'),ae (.int spent),x6,x7,ae (.int need),ae (.tup [.int k, .int b, .str h]),x10,x11] S') :
  zte E D [x0,x1,ae (.ref aw),ae (.int room),ae (.ref st),ae (.int spent),x6,x7,ae (.int need),ae (.tup [.int k, .int b, .str h]),x10,x11] S:=by
 unfold zte;walk_at "wp";split
 ·rename_i c1;split
  ·rename_i c2;simp only[zai hw,six2];have f1:=λ(a:Addr) (ha:S a=none)=>keep (x:=Ob.lst []) hst ha;refine⟨aZ _,λa ha=>⟨zak (by decide),zak (by decide),?_⟩⟩;rw[zai (f1 a ha),zai (f1 a ha)];have hlen:=hp.len;have en:((need:Int) - (vs.length:Int)).toNat=need - ps.length:=by omega
   rw[en];have pa:PlAt (put S a (Ob.lst [])) (pad w2) (.tup [.int (-1), .int 0, .str w2, .ref a]):= .nd zah .nil;have pp:PlsAt (put S a (Ob.lst [])) (zbX need w2 ps) ((aN (need - ps.length) [W.tup [.int (-1), .int 0, .str w2, .ref a]]).flatten++vs):=(PlsAt.rep pa _).app (hp.sub (.put .refl ha));have pl:=pp.len;have sub1:Sub S (put S a (Ob.lst [])):= .put .refl ha;have hfl:((aN (need - ps.length) [W.tup [.int (-1), .int 0, .str w2, .ref a]]).flatten).length≤3:=by
    rw[aY,zeV]at pl;omega
   have e0:(1*(need - ps.length))≤sizeLine:=zak (by omega);refine⟨⟨by omega,by omega,e0⟩,zak (by omega),?_⟩
   generalize (aN (need - ps.length) [W.tup [.int (-1), .int 0, .str w2, .ref a]]).flatten++vs=ys at pp pl⊢;generalize put S a (Ob.lst [])=S1 at pp sub1⊢;intro b2 hb2;have sub2:Sub S1 (put S1 b2 (.lst ys)):= .put .refl hb2;generalize put S1 b2 (Ob.lst ys)=S2 at sub2⊢;have hpl:=zeV need w2 ps;have ea:((ys.length:Nat):Int) - (need:Int)=((ys.length - need:Nat):Int):=by omega
   rw[ea,znp,znj];intro p hp3;have sub3:Sub S2 (put S2 p (.lst (ys.drop (ys.length - need)))):= .put .refl hp3;have fp:put S2 p (Ob.lst (ys.drop (ys.length - need))) p=ae (.lst (ys.drop (ys.length - need))):=zah;generalize put S2 p (Ob.lst (ys.drop (ys.length - need)))=S3 at sub3 fp⊢;refine⟨zak (by decide),zak (by decide),zak (by decide),zak (by rw[cK];omega),λq hq=>?_⟩;have sub4:Sub S3 (put S3 q (.lst (ys.take (ys.length - need)++[.tup [.int k, .int b, .str h, .ref p]]))):= .put .refl hq;refine h2 c1 c2 q _ _ _ (((sub1.trans sub2).trans sub3).trans sub4) zah ?_;unfold push;have pp3:=pp.sub ((sub2.trans sub3).trans sub4);rw[←pl]at *;exact(pp3.take _).app (.cons (.nd (sub4 _ _ fp) (pp3.drop _)) .nil)
  ·exact h1
 ·exact h1
theorem zvF (n:Int) (h0:0≤n) (h1:n<8):∃m:Nat,m≤2∧atI [W.int 0,W.int 0,W.int 1,W.int 2] (if 3<n then 3 else n)=ae (.int (m:Int)):=by
 rcases(show n=0∨n=1∨n=2∨(3≤n) by omega) with rfl |rfl |rfl |h
 ·exact⟨0,by decide,rfl⟩
 ·exact⟨0,by decide,rfl⟩
 ·exact⟨1,by decide,rfl⟩
 ·have:(if 3<n then 3 else n)=3:=by split<;>omega
  rw[this];exact⟨2,by decide,rfl⟩
theorem zww (n:Int) (h0:0≤n) (h1:n<8):∃(i:Int) (x:Str),x∈ [w2,w3,w4,w5]∧atI [W.int 2,W.int 5,W.int 3,W.int 4] (if 3<n then 3 else n)=ae (.int i)∧atI (six w0 w1 w2 w3 w4 w5) i=ae (.str x):=by
 rcases(show n=0∨n=1∨n=2∨(3≤n) by omega) with rfl |rfl |rfl |h
 ·exact⟨2,w2,by simp,rfl,rfl⟩
 ·exact⟨5,w5,by simp,rfl,rfl⟩
 ·exact⟨3,w3,by simp,rfl,rfl⟩
 ·have:(if 3<n then 3 else n)=3:=by split<;>omega
  rw[this];exact⟨4,w4,by simp,rfl,rfl⟩
inductive PlI (S:Sto) (ac ab aw:Addr) (hs:List Str) (B:List Tn) (m:Nat) (ws:List W) (σ:WSt) (S':Sto):Prop
 |mk (ns:List Int) (ps:List Pl) (vs:List W) (st:Addr) (room spent:Int) (x6 x7 x8 x9 x10 x11:Option W):ws=ns.map W.int→Sub S S'→S' st=ae (.lst vs)→PlsAt S' ps vs→(∀p∈ps,PlOk hs B p)→0≤room→room≤m→(pnts ps:Int)≤spent→pnts ps≤4→(pwts ps:Int)+ps.length≤2*(m - room)+pnts ps+2→
  σ=[ae (.ref ac),ae (.ref ab),ae (.ref aw),ae (.int room),ae (.ref st),ae (.int spent),x6,x7,x8,x9,x10,x11]→PlI S ac ab aw hs B m ws σ S'
inductive PlW (S:Sto) (hs:List Str) (B:List Tn) (m:Nat) (f:Addr→WSt) (mm:Nat) (σ:WSt) (S2:Sto):Prop
 |mk (ps:List Pl) (vs:List W) (st:Addr):mm=ps.length→Sub S S2→S2 st=ae (.lst vs)→PlsAt S2 ps vs→(∀p∈ps,PlOk hs B p)→pnts ps≤4→pwts ps+ps.length≤2*m+pnts ps+2→σ=f st→PlW S hs B m f mm σ S2
theorem ztk{m:Nat}(hm9:m≤9) {Q:WK}{X:Str→Sto→Prop}{ac ab:Addr}{cells:List Int}{B:List Tn}(hc:S ac=ae (.lst (cells.map W.int))) (hb:S ab=ae (.lst (B.map zaW))) (hw:S aw=ae (.lst (six w0 w1 w2 w3 w4 w5))) (bk:BkOk [w0,w1,w2,w3,w4,w5] [w2,w3,w4,w5] B) (hB:B≠ [])
  (h:∀(p:Pl) (v:W) (S':Sto),Sub S S'→PlAt S' p v→PlOk [w2,w3,w4,w5] B p→p.wt≤2*m+1+p.nt→p.nt≤4→Q v S'):zcK (r+10) [.ref ac, .ref ab, .ref aw, .int m] S Q X:=by
 rw[show r+10=r+9+1 from rfl,zcK];walk_at "wp";refine⟨aZ _,λst0 hst0=>?_⟩;rw[zai (keep hc hst0)];refine zmb (PlI S ac ab aw [w2,w3,w4,w5] B m) ?_ ?_ _ _ _ ⟨cells,[],[],st0,m,0,none,none,none,none,none,none,rfl, .put .refl hst0,zah, .nil,(λ_ h=>nomatch h),by omega,by omega,by simp [pnts],by simp [pnts],by simp [pnts,pwts],rfl⟩
 ·rintro w ws σ S' N ⟨ns,ps,vs,st,room,spent,x6,x7,x8,x9,x10,x11,ew,sub,hst,hp,ok,r0,r1,p0,p1,p2,rfl⟩ hN;cases ns with
  |nil=>cases ew
  |cons n ns=>
  cases ew;have fw:=sub _ _ hw;have fb:=sub _ _ hb;have fc:=sub _ _ hc;have m0:0≤n % 8:=cD _ (by decide);have m1:n % 8<8:=cQ _ (by decide);have hpl:=zgW ps;obtain⟨need,hneed,en⟩:=zvF (n % 8) m0 m1;obtain⟨i,hd,hhd,e1,e2⟩:=zww (w0:=w0) (w1:=w1) (w2:=w2) (w3:=w3) (w4:=w4) (w5:=w5) (n % 8) m0 m1;have go:∀(need:Nat) (k b:Int) (hh:Str) (sp:Int) (x10:Option W),need≤3→(∀qs:List Pl,qs.length=need→(∀q∈qs,PlOk [w2,w3,w4,w5] B q)→PlOk [w2,w3,w4,w5] B (.nd k b hh qs))→(k<0∧need≤2∧sp=spent∨ ¬k<0∧sp=spent+1)→
    ∀(E:WX) (D:WEnds),D.nx=N→zte E D [ae (.ref ac),ae (.ref ab),ae (.ref aw),ae (.int room),ae (.ref st),ae (.int sp),ae (.int n),ae (.int (n % 8)),ae (.int need),ae (.tup [.int k, .int b, .str hh]),x10,x11] S':=λneed k b hh sp x10 hn hok hk E D hD=>by
   subst hD;refine zrW fw hst hp hn (by omega) ?_ λc1 c2 st' S2 vs' x11 sub2 hst2 hp2=>?_
   ·refine hN _ _ S' .refl fc ⟨ns,ps,vs,st,room,sp,_,_,_,_,_,_,rfl,sub,hst,hp,ok,r0,r1,by omega,p1,p2,rfl⟩
   ·obtain⟨s1,s2,s3⟩:=zpX (need:=need) (w:=w2) (k:=k) (b:=b) (h:=hh) (ps:=ps);have hz:ps.length=0→pwts ps=0∧pnts ps=0:=λz=>by
     cases ps with
     |nil=>exact⟨rfl,rfl⟩
     |cons _ _=>simp at z
    have fin:(pnts (push need w2 k b hh ps):Int)≤sp→pnts (push need w2 k b hh ps)≤4→(pwts (push need w2 k b hh ps):Int)+(push need w2 k b hh ps).length≤2*(m - (room - 1))+pnts (push need w2 k b hh ps)+2→D.nx [ae (.ref ac),ae (.ref ab),ae (.ref aw),ae (.int (room - 1)),ae (.ref st'),ae (.int sp),ae (.int n),ae (.int (n % 8)),ae (.int need),ae (.tup [.int k, .int b, .str hh]),x10,x11] S2:=λf1 f2 f3=>
     hN _ _ S2 .refl (sub2 _ _ fc) ⟨ns,_,vs',st',room - 1,sp,_,_,_,_,_,_,rfl,sub.trans sub2,hst2,hp2,zwk (by simp) ok hok,by omega,by omega,f1,f2,f3,rfl⟩
    rcases hk with⟨kn,n2,es⟩ |⟨kp,es⟩
    ·rw[if_pos kn]at s2;refine fin (by omega) (by omega) ?_;rcases dS ps.length with z |z
     ·have:=hz z;omega
     ·omega
    ·rw[if_neg kp]at s2;refine fin (by omega) (by omega) ?_;rcases dS ps.length with z |z
     ·have:=hz z;omega
     ·omega
  rw[zrY];walk_at "wp";simp only[en,e1];walk_at "wp";simp only[zai fw,e2];refine⟨by decide,zak (by decide),zak (by decide),zak (by decide),?_⟩;split
  ·have hbl:(B.map zaW)≠ []:=by simpa using hB
   obtain⟨j,x,ej,ex⟩:=zrf (n / 8) hbl;have hlt:0<(B.map zaW).length:=gR.mpr hbl;have ek:n / 8 % ((B.map zaW).length:Int)=(((n / 8 % ((B.map zaW).length:Int)).toNat:Nat):Int):=by
    have:=cD (n / 8) (show((B.map zaW).length:Int)≠0 by omega)
    omega
   have ek2:=zcy (xs:=B.map zaW) (n:=(n / 8 % ((B.map zaW).length:Int)).toNat);rw[←ek,ex,bv]at ek2;cases et:B[(n / 8 % ((B.map zaW).length:Int)).toNat]? with
   |none=>rw[et]at ek2;cases ek2
   |some t=>
    rw[et]at ek2;have ext:x= .tup [.str t.1,enc t.2.1,enc t.2.2]:=by cases ek2;rfl
    have ht:t∈B:=bE et;have LT:=bk.lf t ht;have hLd:=LT.dp;have hLw:=LT.wt;have hLn:=LT.nb;simp only[zai fb,ex,ext];walk_at "wp";rw[show atI [W.str t.1,enc t.2.1,enc t.2.2] 1=ae (enc t.2.1) from rfl];refine⟨⟨by decide,by decide⟩,by omega,?_⟩
    refine zjx 4 hLd (by omega) (by omega) ⟨⟨by decide,by decide⟩,by decide,zak (by decide),?_⟩
    have b0:0≤n / 64 % 8:=cD _ (by decide);have b1:n / 64 % 8<8:=cQ _ (by decide);refine go t.2.1.nb _ _ _ _ _ hLn (λqs hq hqs=>?_) (.inr ⟨by omega,rfl⟩) _ _ rfl;rw[ek];exact .turn et hq b0 b1 hqs
  ·exact go need (-1) 0 hd spent _ (by omega) (λqs hq hqs=> .sign hhd hqs) (.inl ⟨by decide,hneed,rfl⟩) _ _ rfl
 ·rintro σ S' ⟨ns,ps,vs,st,room,spent,x6,x7,x8,x9,x10,x11,ew,sub,hst,hp,ok,r0,r1,p0,p1,p2,rfl⟩;have hpl:=zgW ps;refine⟨PlW S [w2,w3,w4,w5] B m (λst=>[ae (.ref ac),ae (.ref ab),ae (.ref aw),ae (.int room),ae (.ref st),ae (.int spent),x6,x7,x8,x9,x10,x11]),⟨_,ps,vs,st,rfl,sub,hst,hp,ok,p1,by omega,rfl⟩,?_⟩
  rintro mm σ S2 ⟨ps,vs,st,rfl,sub,hst,hp,ok,p1,p2,rfl⟩;have hlen:=hp.len;have fw:=sub _ _ hw;walk_at "wp";rw[zai hst];split
  ·rename_i hgt;simp only[zge];walk_at "wp";simp only[zai hst,zai fw,six4];have c1:zer vs none (ae (-2))=vs.take (vs.length - 2):=zie 2 (by decide);have c2:zer vs (ae (-2)) none=vs.drop (vs.length - 2):=zpV 2 (by decide);rw[c1,c2];intro p hp3;have sub3:Sub S2 (put S2 p (.lst (vs.drop (vs.length - 2)))):= .put .refl hp3;have fp:put S2 p (Ob.lst (vs.drop (vs.length - 2))) p=ae (.lst (vs.drop (vs.length - 2))):=zah;generalize put S2 p (Ob.lst (vs.drop (vs.length - 2)))=S3 at sub3 fp⊢;refine⟨zak (by decide),zak (by decide),zak (by rw[cK];omega),λq hq=>?_⟩;have sub4:Sub S3 (put S3 q (.lst (vs.take (vs.length - 2)++[.tup [.int (-1), .int 0, .str w4, .ref p]]))):= .put .refl hq;have hp4:=hp.sub (sub3.trans sub4);have hw3:=zcQ (ps.take (vs.length - 2)) (ps.drop (vs.length - 2));have hn3:=zcm (ps.take (vs.length - 2)) (ps.drop (vs.length - 2));rw[j3]at hw3 hn3;refine⟨_,_,?_, .refl,ps.take (vs.length - 2)++[.nd (-1) 0 w4 (ps.drop (vs.length - 2))],_,q,rfl,(sub.trans sub3).trans sub4,zah,(hp4.take _).app (.cons (.nd (sub4 _ _ fp) (hp4.drop _)) .nil),λx hx=>?_,?_,?_,rfl⟩
   ·rw[aY,cK,b6];omega
   ·rcases bh.mp hx with z |z
    ·exact ok x (gS z)
    ·rw[bg.mp z];exact .sign (by simp) λy hy=>ok y (ig hy)
   ·rw[zcm,pnts,pnts,Pl.nt,if_pos (by decide)];omega
   ·rw[zcQ,pwts,pwts,Pl.wt,aY,cK,b6,zcm,pnts,pnts,Pl.nt,if_pos (by decide)];omega
  ·rename_i hle
   try walk_at "wp"
   simp only[zai fw,zCi];refine⟨aZ _,λa ha=>⟨zak (by decide),zak (by decide),?_⟩⟩;rw[zai (keep hst ha)];refine⟨zak (by omega),?_⟩;cases hp with
   |nil=>
    exact⟨_, .refl,h (pad w5) _ _ (sub.trans (.put .refl ha)) (.nd zah .nil) (.sign (by simp) λ_ z=>nomatch z) (by simp [pad,Pl.wt,pwts];omega) (by simp [pad,Pl.nt,pnts])⟩
   | @cons p v ps vs h1 h2=>
    rw[dG,zjQ];have e0:ps=[]:=by
     cases ps with
     |nil=>rfl
     |cons q qs=>
      have:=h2.len;simp only[aW]at this hle;omega
    subst e0;simp only[pwts,pnts,aW,d6]at p1 p2;exact⟨_, .refl,h p v _ (sub.trans (.put .refl ha)) (h1.sub (.put .refl ha)) (ok p aO) (by omega) (by omega)⟩
end
section
variable {r:Nat}{S:Sto}{Q:WK}{E:Str→Sto→Prop}{a:Addr}{B:List Tn}
theorem zwM{x:Str}(hx:x.length≤1000) (h:Q (.bl (signB x)) S):zeC (r+2) [.str x] S Q E:=by
 have hxl:=zfv x;rw[zeC];walk_at "wp";unfold signB at h;rw[←hxl]at h;cases e1:decide (1≤x.length) with
 |false=>
  rw[e1]at h;have:¬1≤x.length:=by simpa using e1
  have e1':decide ((1:Int)≤(x.length:Int))=false:=by simp;omega
  rw[e1'];walk_at "wp";exact⟨zak (by omega),_, .refl,h⟩
 |true=>
  rw[e1]at h;have h1:1≤x.length:=by simpa using e1
  have e1':decide ((1:Int)≤(x.length:Int))=true:=by simp;omega
  rw[e1'];refine⟨zak (by omega),?_⟩;walk_at "wp";cases e2:decide (x.length≤8) with
  |false=>
   rw[e2]at h;have:¬x.length≤8:=by simpa using e2
   have e2':decide ((x.length:Int)≤8)=false:=by simp;omega
   rw[e2'];exact⟨_, .refl,h⟩
  |true=>
   rw[e2]at h;have h2:x.length≤8:=by simpa using e2
   have e2':decide ((x.length:Int)≤8)=true:=by simp;omega
   rw[e2'];walk_at "wp";exact zse (by omega) ⟨_, .refl,h⟩
noncomputable def zeF:Option Tn→W
 |some t=>zaW t
 |none=> .non
theorem zkp (B:List Tn) (s:Str):B.findSome? (λt=>if t.1 == s then ae (zaW t) else none)=(zaN B s).map zaW:=by
 unfold zaN
 induction B with
 |nil=>rfl
 |cons t B ih=>
  rw[dF,bW];cases e:t.1 == s with
  |true=>rfl
  |false=>simpa using ih
theorem zfB{s:Str}(ha:S a=ae (.lst (B.map zaW))) (h:Q (zeF (zaN B s)) S):zaU (r+1) [.ref a, .str s] S Q E:=by
 rw[zaU];walk_at "wp";rw[zai ha];refine zeR (S:=S) ?_ (λσ=>∃x,σ=[ae (.ref a),ae (.str s),x]) zaW (λt=>if t.1 == s then ae (zaW t) else none) B _ ⟨_,rfl⟩ (λt ht σ N hI hno hret=>?_) (λe σ hI=>?_) λw e S' sb=>?_
 ·exact ha
 ·obtain⟨x,rfl⟩:=hI;simp only[zff];have ee:zaW t= .tup [.str t.1,enc t.2.1,enc t.2.2]:=rfl;rw[ee];walk_at "wp";cases e:t.1 == s with
  |true=>
   rw[e]at hret;exact hret _ rfl _ .refl
  |false=>
   rw[e]at hno;exact hno rfl _ _ ⟨_,rfl⟩ .refl
 ·obtain⟨x,rfl⟩:=hI;walk_at "wp";rw[zkp]at e;have:zaN B s=none:=by
   cases q:zaN B s with
   |none=>rfl
   |some t=>rw[q]at e;cases e
  rw[this]at h;exact⟨_, .refl,h⟩
 ·rw[zkp]at e;cases q:zaN B s with
  |none=>rw[q]at e;cases e
  |some t=>
   rw[q]at e h;cases e;exact⟨_,sb,h⟩
theorem zoJ (ts:List Tr):zih (ts.map λt=>W.bl t.quiet)=ae (ts.map Tr.quiet):=by
 have:=zkQ (ts.map Tr.quiet);rw[bb]at this;exact this
theorem znT:∀(d:Nat) {t:Tr}{r:Nat}{Q:WK}{E:Str→Sto→Prop},t.depth≤d→d+5≤r→t.hd (λs=>s.length≤1000)→t.weight≤90000→Q (.bl t.quiet) S→zdm (r+1) [enc t] S Q E
 |0,t,r,Q,E,hd,hr,hh,hw,h=>by have:=zbc t;omega
 |d+1, .bl n,r,Q,E,hd,hr,hh,hw,h=>by simp [Tr.hd]at hh
 |d+1, .nd s ts,r,Q,E,hd,hr,hh,hw,h=>by
  simp only[Tr.depth]at hd;simp only[Tr.weight]at hw;simp only[Tr.hd]at hh;have hk:=zbx ts;obtain⟨r,rfl⟩:∃r',r=r'+2:=⟨r - 2,by omega⟩
  rw[zdm];simp only[enc];walk_at "wp";refine zwM hh.1 ?_;rw[Tr.quiet]at h;cases e:signB s with
  |false=>
   rw[e]at h;walk_at "wp";exact⟨_, .refl,h⟩
  |true=>
   rw[e]at h;walk_at "wp";rw[zaB];refine zaw (λσ=>∃x,σ=[x]) enc (λt=> .bl t.quiet) trivial ts [] _ ⟨none,rfl⟩ (by simp;omega) (λx hx σ R hI hR=>?_) ?_
   ·obtain⟨y,rfl⟩:=hI;have hdx:=zcP hx;have hwx:=zcl hx;have:=zbc x;simp only[zgD];walk_at "wp";exact znT d (t:=x) (r:=r+1) (by omega) (by omega) (hds_iff.mp hh.2 x hx) (by omega) (hR _ _ ⟨_,rfl⟩ .refl)
   ·rw[aR,zoJ];dsimp only;rw[ziY]at h;rw[zlg];exact⟨S, .refl,h⟩
end
noncomputable def byC (f:Int):Int→Nat:=λb=>if b / f % 2=1 then 1 else 0
theorem PlsAt.zip{S:Sto}:∀{ps:List Pl}{vs:List W},PlsAt S ps vs→ ∀x∈ps.zip vs,PlAt S x.1 x.2∧x.1∈ps
 |_,_, .nil,x,h=>by simp at h
 |_,_, .cons a b,x,h=>by
  rw[gF]at h;rcases av.mp h with rfl |h
  ·exact⟨a,aO⟩
  ·have:=PlsAt.zip b x h;exact⟨this.1,aG _ this.2⟩
theorem PlsAt.snd{S:Sto}{ps:List Pl}{vs:List W}(h:PlsAt S ps vs):(ps.zip vs).map gD=vs:=List.map_snd_zip (by rw[h.len];exact au _)
theorem PlsAt.fst{S:Sto}{ps:List Pl}{vs:List W}(h:PlsAt S ps vs) {α:Type}(f:Pl→α):(ps.zip vs).map (λx=>f x.1)=ps.map f:=by
 have:(ps.zip vs).map Prod.fst=ps:=List.map_fst_zip (by rw[h.len];exact au _)
 conv=>rhs;rw[←this,bb]
 rfl
section
variable {S:Sto}{a:Addr}{ws hs:List Str}{B:List Tn}
theorem zuE{f:Int}(hf:f=1∨f=2∨f=4∨f=8) (ha:S a=ae (.lst (B.map zaW))) (b:BkOk ws hs B):∀(d:Nat) {p:Pl}{v:W}{r:Nat}{Q:WK}{E:Str→Sto→Prop},p.dp≤d→d+8≤r→PlAt S p v→PlOk hs B p→p.wt≤1000→Q (enc (p.ev B (byC f))) S→zcO (r+1) [v, .ref a, .int f] S Q E
 |0,p,v,r,Q,E,hd,hr,hp,ok,hw,h=>by have:=zvC p;omega
 |d+1, .nd k b' hh ps,v,r,Q,E,hd,hr,hp,ok,hw,h=>by
  cases hp with
  | @nd _ _ _ _ c vs hc hps=>
  simp only[Pl.dp]at hd;simp only[Pl.wt]at hw;have hlen:=zgW ps;obtain⟨r,rfl⟩:∃r',r=r'+1:=⟨r - 1,by omega⟩
  rw[zcO];walk_at "wp";rw[zai hc];rw[←hps.snd];have okp:∀x∈ps,PlOk hs B x:=by
   cases ok with
   |sign _ h=>exact h
   |turn _ _ _ _ h=>exact h
  refine zaw (λσ=>∃x,σ=[x,ae (.ref a),ae (.int f)]) gD (λx=>enc (x.1.ev B (byC f))) ?_ (ps.zip vs) [] _ ⟨none,rfl⟩ (by simp;omega) (λx hx σ R hI hR=>?_) ?_
  ·rw[hps.snd];exact hc
  ·obtain⟨y,rfl⟩:=hI;obtain⟨h1,h2⟩:=hps.zip x hx;have:=zhl h2;have:=znU h2;simp only[zgC];walk_at "wp";exact zuE hf ha b d (by omega) (by omega) h1 (okp _ h2) (by omega) (hR _ _ ⟨_,rfl⟩ .refl)
  ·rw[aR,hps.fst λp=>enc (p.ev B (byC f))];intro q hq;have eu:(ps.map λp=>enc (p.ev B (byC f)))=encs (ps.map (Pl.ev B (byC f))):=by rw[zaB,bb];rfl
   rw[eu];have fq:put S q (Ob.lst (encs (ps.map (Pl.ev B (byC f))))) q=ae (.lst (encs (ps.map (Pl.ev B (byC f))))):=zah;have fa:=keep (x:=Ob.lst (encs (ps.map (Pl.ev B (byC f))))) ha hq;have sub:Sub S (put S q (Ob.lst (encs (ps.map (Pl.ev B (byC f)))))):= .put .refl hq;generalize put S q (Ob.lst (encs (ps.map (Pl.ev B (byC f)))))=S1 at fq fa sub⊢
   try walk_at "wp"
   cases ok with
   |sign hs' _=>
    rw[if_pos (by decide)]
    try rw[zai fq]
    rw[zbY]at h;rw[zbh,aq];simp only[enc]at h;exact⟨zak (by decide),zak (by omega),_,sub,h⟩
   | @turn k _ _ _ t e hl b0 b1 _=>
    have ek:atI (B.map zaW) (k:Int)=ae (.tup [.str t.1,enc t.2.1,enc t.2.2]):=by
     rw[zcy,bv,e];rfl
    have hdiv:ziD b' f:=by rcases hf with rfl |rfl |rfl |rfl<;>exact⟨by decide,by decide⟩
    have ht:t∈B:=bE e;rw[zbn e]at h;rw[if_neg (by omega)];refine⟨hdiv,by decide,?_⟩
    simp only[zai fa,ek];by_cases e1:b' / f % 2=1
    ·rw[e1];have:byC f b'=1:=by unfold byC;rw[if_pos e1]
     rw[this]at h;simp only[evT,enc]at h
     try walk_at "wp"
     try rw[zai fq]
     rw[zbh,aq];exact⟨zak (by decide),zak (by omega),_,sub,h⟩
    ·have e2:(b' / f % 2 == 1)=false:=by simpa using e1
     rw[e2];have:byC f b'=0:=by unfold byC;rw[if_neg e1]
     rw[this]at h;simp only[evT]at h;walk_at "wp";rw[show atI [W.str t.1,enc t.2.1,enc t.2.2] 1=ae (enc t.2.1) from rfl];dsimp only;have hLd:=(b.lf t ht).dp;have hLw:=(b.lf t ht).wt;have hLn:=(b.lf t ht).nb;exact zgv 4 hLd (by omega) fq (by rw[aq,hl];exact(b.lf t ht).fits) (by omega) ⟨_,sub,h⟩
end
theorem ztb{x:Str}(h:zct x):x.length≤1000:=by rw[zfv];have:=h.2.1;omega
theorem zpq{x:Str}(h:zdb x):x.length≤1000:=by rw[zfv];have:=(zrV h).2;omega
noncomputable def zal (n:Int) (t:Tn):Tr:=if n=1 then t.2.1 else t.2.2
mutual
noncomputable def Tr.ar (B:List Tn):Tr→Prop
 | .bl _=>False
 | .nd s ts=>(∀t,zaN B s=ae t→ts.length=t.2.1.nb)∧ars B ts
noncomputable def ars (B:List Tn):List Tr→Prop
 | []=>True
 |t::ts=>t.ar B∧ars B ts
end
theorem ars_iff{B:List Tn}:∀{ts:List Tr},ars B ts↔ ∀t∈ts,t.ar B
 | []=>by simp [ars]
 |t::ts=>by simp [ars,ars_iff (ts:=ts)]
mutual
theorem zyS{B:List Tn}:∀t:Tr,t.way B=true→t.ar B
 | .bl n,h=>by simp [Tr.way]at h
 | .nd s ts,h=>by
  simp only[Tr.way,bO]at h;simp only[Tr.ar];refine⟨λt ht=>?_,zup ts h.2⟩;have:=h.1;rw[topB,ht]at this;simpa using this
theorem zup{B:List Tn}:∀ts:List Tr,zgI B ts=true→ars B ts
 | [],h=>by simp [ars]
 |t::ts,h=>by
  simp only[zgI,bO]at h;simp only[ars];exact⟨zyS t h.1,zup ts h.2⟩
end
section
variable {n:Int}
theorem zmD (t:Tn) (h:n=1∨n=2):atI [W.str t.1,enc t.2.1,enc t.2.2] n=ae (enc (zal n t)):=by
 rcases h with rfl |rfl<;>rfl
theorem zmY{t:Tr}(h1:t.weight≤400) (h2:t.depth≤40):t.small=true:=by
 unfold Tr.small;rw[decide_eq_true h1,decide_eq_true h2];rfl
end
noncomputable def zAd (r:Nat):WS:=(zas (wAsg (zcX (zck 2 [0] (zvT (wVar 5) (wVar 6)) (wGT (zaD (wGN 0) (zaD (wGN 1) zdP))) zfg (zhM r (zcJ r)))) (wGN 7))
  (zas (zcq (wTb (wOp (oIs false) (wVar 4) (wC .non))) (wRet (wOp zdT (zcf (zab (wOp oIx (wVar 1) (wC (.int 0))) waNil)) (wB zea (zab (wVar 7) waNil)))) wNext)
  (wRet (zan (zdj r) (zab (wOp oIx (wVar 4) (wC (.int 2))) (zab (wVar 7) waNil))))))
noncomputable def ztt (r:Nat) (T:WS):WS:=(zas (zcq (znC (wTb (wOp (oIs false) (wVar 3) (wC .non))) (wTb (wOp (oIs true) (wVar 4) (wC .non)))) (wAsg (zan (zcg r) (zab (wOp oIx (wVar 4) (wC (.int 1))) (zab (wVar 1) waNil))) (wGN 5)) wNext)
  (zas (zcq (znC (wTb (wOp (oIs true) (wVar 3) (wC .non))) (wTb (wOp (oIs false) (wVar 4) (wC .non)))) (wAsg (zan (zcg r) (zab (wOp oIx (wVar 3) (wC (.int 1))) (zab (wVar 2) waNil))) (wGN 6)) wNext)
  T))
theorem zoG{r:Nat}:zcJ (r+1)=zca 8 3 (zas (wAsg (zan (zaU r) (zab (wVar 0) (zab (wOp oIx (wVar 1) (wC (.int 0))) waNil))) (wGN 3))
  (zas (wAsg (zan (zaU r) (zab (wVar 0) (zab (wOp oIx (wVar 2) (wC (.int 0))) waNil))) (wGN 4))
  (zas (wAsg (wSl (wVar 1) (woS (wC (.int 1))) woN) (wGN 5))
  (zas (wAsg (wSl (wVar 2) (woS (wC (.int 1))) woN) (wGN 6))
  (ztt r (zAd r)))))):=rfl
mutual
theorem zrv{P:Str→Prop}:∀(l t:Tr) (ys:List Tr),l.mt t=ae ys→t.hd P→hds P ys∧wts ys≤t.weight
 | .bl _,t,ys,h,q=>by
  simp only[Tr.mt,bD]at h;subst h;simp only[hds,wts];exact⟨⟨q,trivial⟩,by omega⟩
 | .nd s ls, .nd z us,ys,h,q=>by
  simp only[Tr.mt]at h;simp only[Tr.hd]at q;split at h
  ·have:=zuj ls us ys h q.2;simp only[Tr.weight];exact⟨this.1,by omega⟩
  ·cases h
 | .nd _ _, .bl _,ys,h,q=>by simp [Tr.mt]at h
theorem zuj{P:Str→Prop}:∀(ls us ys:List Tr),mts ls us=ae ys→hds P us→hds P ys∧wts ys≤wts us
 | [],us,ys,h,q=>by simp only[mts,bD]at h;subst h;simp [hds,wts]
 |l::ls,[],ys,h,q=>by simp only[mts,bD]at h;subst h;simp [hds,wts]
 |l::ls,u::us,ys,h,q=>by
  simp only[mts]at h;simp only[hds]at q;split at h
  ·cases h
  ·rename_i xs ex;split at h
   ·cases h
   ·rename_i zs ez;simp only[bD]at h;subst h;have h1:=zrv l u xs ex q.1;have h2:=zuj ls us zs ez q.2;rw[zeU,wts];exact⟨zsi h1.1 h2.1,by omega⟩
end
mutual
theorem zfy{P:Str→Prop}{m:Nat}:∀t:Tr,t.hd P→t.fits m
 | .bl n,h=>by simp [Tr.hd]at h
 | .nd s ts,h=>by
  simp only[Tr.hd]at h;simp only[Tr.fits];exact zoA ts h.2
theorem zoA{P:Str→Prop}{m:Nat}:∀ts:List Tr,hds P ts→fitss m ts
 | [],h=>by simp [fitss]
 |t::ts,h=>by
  simp only[hds]at h;simp only[fitss];exact⟨zfy t h.1,zoA ts h.2⟩
end
theorem Mvs.triples{B:List Tn}{n:Nat}:∀{as bs cs:List Tr},Mvs B n as bs cs→ ∃zs:List (Tr×Tr×Tr),as=zs.map (λz=>z.1)∧bs=zs.map (λz=>z.2.1)∧cs=zs.map (λz=>z.2.2)∧ ∀z∈zs,Mv B n z.1 z.2.1 z.2.2
 |_,_,_, .nil=>⟨[],rfl,rfl,rfl,λ_ h=>nomatch h⟩
 |_,_,_, .cons (a:=a) (b:=b) (c:=c) h1 h2=>by
  obtain⟨zs,e1,e2,e3,h⟩:=Mvs.triples h2;exact⟨(a,b,c)::zs,by rw[e1];rfl,by rw[e2];rfl,by rw[e3];rfl,λz hz=>(av.mp hz).elim (λe=>by rw[e];exact h1) (h z)⟩
theorem zkd:∀zs:List (Tr×Tr×Tr),pairs (encs (zs.map λz=>z.1)) (encs (zs.map λz=>z.2.1))=zs.map λz=>W.tup [enc z.1,enc z.2.1]
 | []=>by simp [encs,pairs]
 |z::zs=>by simp [encs,pairs,zkd zs]
noncomputable def zAZ (f:Option Tn) (s:Str) (cs:List Tr):Tr:=match f with
 |none=> .nd s cs
 |some t=>t.2.2.fill cs
def zyX (S:Sto) (v:W) (ws:List W):Prop:=v= .tup ws∨ ∃q,v= .ref q∧S q=ae (.lst ws)
section
variable {S:Sto}{a:Addr}{B:List Tn}
theorem zqw{v:W}{ws:List W}{Q:List W→(Sto→Prop)→Prop}(h:zyX S v ws) (hq:∀G:Sto→Prop,G S→(∀S',Sub S S'→G S')→Q ws G):zpD v S Q:=by
 rcases h with rfl |⟨q,rfl,e⟩
 ·rw[zjV];exact hq _ trivial λ_ _=>trivial
 ·rw[zid,zai e];exact hq _ e λS' sb=>sb _ _ e
theorem ztD{n r:Nat}{x y:Tr}{as bs cs:List Tr}{va vb vf:W}{f:Option Tn}{x7:Option W}{s:Str}{ts:List Tr}(hx:x= .nd s ts) (ha:S a=ae (.lst (B.map zaW))) (h1:zyX S va (encs as)) (h2:zyX S vb (encs bs)) (M:Mvs B n as bs cs) (hl:as.length≤1000)
  (hR:∀t,f=ae t→t.2.2.depth≤4∧t.2.2.weight≤100∧t.2.2.fits cs.length) (hr:5≤r)
  (one:∀{a' b' c':Tr}{Q:WK}{E:Str→Sto→Prop},a'∈as→b'∈bs→Mv B n a' b' c'→Q (enc c') S→zcJ r [.ref a,enc a',enc b'] S Q E) {E:WX}{D:WEnds}
  (hQ:∀S',Sub S S'→D.rt (enc (zAZ f s cs)) S') :
  zAd r E D [ae (.ref a),ae (enc x),ae (enc y),ae vf,ae (zeF f),ae va,ae vb,x7] S:=by
 obtain⟨zs,rfl,rfl,rfl,hz⟩:=M.triples;unfold zAd;walk_at "wp";refine zqw h1 λG1 g1 k1=>zqw h2 λG2 g2 k2=>?_;rw[zkd];rw[aq]at hl;refine zaw (λσ=>∃x y,σ=[x,y,ae (.ref a)]) (λz=>W.tup [enc z.1,enc z.2.1]) (λz=>enc z.2.2) ?_ zs [] _ ⟨none,none,rfl⟩ (by simp;omega) (λz hz' σ R hI hR=>?_) ?_
 ·exact⟨g1,g2⟩
 ·obtain⟨u,v,rfl⟩:=hI;simp only[zhM];walk_at "wp";refine one (a':=z.1) (b':=z.2.1) (c':=z.2.2) (aU.mpr ⟨z,hz',rfl⟩) (aU.mpr ⟨z,hz',rfl⟩) (hz z hz') ?_;exact hR _ _ ⟨_,_,rfl⟩ .refl
 ·rw[aR];intro q hq;have eu:(zs.map λz=>enc z.2.2)=encs (zs.map λz=>z.2.2):=by rw[zaB,bb];rfl
  rw[eu];have fq:put S q (Ob.lst (encs (zs.map λz=>z.2.2))) q=ae (.lst (encs (zs.map λz=>z.2.2))):=zah;have sub:Sub S (put S q (Ob.lst (encs (zs.map λz=>z.2.2)))):= .put .refl hq;generalize put S q (Ob.lst (encs (zs.map λz=>z.2.2)))=S1 at fq sub⊢;obtain⟨r,rfl⟩:∃r',r=r'+1:=⟨r - 1,by omega⟩
  cases f with
  |none=>
   subst hx;simp only[zeF,enc,zAZ]at hQ⊢
   try walk_at "wp"
   try rw[zai fq]
   rw[zbh,aq];exact⟨zak (by decide),zak (by omega),hQ _ sub⟩
  |some t=>
   have ee:zeF (ae t)= .tup [.str t.1,enc t.2.1,enc t.2.2]:=rfl;rw[ee]
   try walk_at "wp"
   rw[show atI [W.str t.1,enc t.2.1,enc t.2.2] 2=ae (enc t.2.2) from rfl];dsimp only;obtain⟨g1,g2,g3⟩:=hR t rfl;exact zib 4 g1 (by omega) fq (by rw[aq];rw[aq]at g3;exact g3) (by omega) (hQ _ sub)
theorem Mv.nd{n:Nat}{x y z:Tr}:Mv B n x y z→ ∃s ts z' us,x= .nd s ts∧y= .nd z' us
 | .nn _ _ _=>⟨_,_,_,_,rfl,rfl⟩
 | .ns _ _ _ _ _=>⟨_,_,_,_,rfl,rfl⟩
 | .sn _ _ _ _=>⟨_,_,_,_,rfl,rfl⟩
 | .ss _ _ _ _=>⟨_,_,_,_,rfl,rfl⟩
section
variable {T:WS}{E:WX}{D:WEnds}{r:Nat}{x0 x1 x2 x5 x6 x7:Option W}
theorem zwF (h:T E D [x0,x1,x2,ae (zeF none),ae (zeF none),x5,x6,x7] S):ztt r T E D [x0,x1,x2,ae (zeF none),ae (zeF none),x5,x6,x7] S:=by
 rw[show zeF none=W.non from rfl]at h⊢;unfold ztt;walk_at "wp";exact h
theorem zwn{t t':Tn}(h:T E D [x0,x1,x2,ae (zeF (ae t')),ae (zeF (ae t)),x5,x6,x7] S):ztt r T E D [x0,x1,x2,ae (zeF (ae t')),ae (zeF (ae t)),x5,x6,x7] S:=by
 have ee:∀t:Tn,zeF (ae t)= .tup [.str t.1,enc t.2.1,enc t.2.2]:=λ_=>rfl;rw[ee,ee]at h⊢;unfold ztt;walk_at "wp";exact h
theorem zwd{t:Tn}{x:Tr}{ms:List Tr}(e:t.2.1.mt x=ae ms) (hr:t.2.1.depth<r) (ft:x.fits 0) (hw:t.2.1.weight≤90000) (h:∀q,S q=none→T E D [x0,ae (enc x),x2,ae (zeF none),ae (zeF (ae t)),ae (.ref q),x6,x7] (put S q (.lst (encs ms)))):ztt (r+1) T E D [x0,ae (enc x),x2,ae (zeF none),ae (zeF (ae t)),x5,x6,x7] S:=by
 have ee:∀t:Tn,zeF (ae t)= .tup [.str t.1,enc t.2.1,enc t.2.2]:=λ_=>rfl;have a1:∀t:Tn,atI [W.str t.1,enc t.2.1,enc t.2.2] 1=ae (enc t.2.1):=λ_=>rfl;rw[ee,show zeF none=W.non from rfl]at *;unfold ztt;walk_at "wp";rw[a1];dsimp only;refine zeW hr ft hw (λys hys q hq=>?_) λh0=>by rw[e]at h0;cases h0
 rw[e]at hys;cases hys
 try walk_at "wp"
 exact h q hq
theorem zwW{t:Tn}{y:Tr}{ms:List Tr}(e:t.2.1.mt y=ae ms) (hr:t.2.1.depth<r) (ft:y.fits 0) (hw:t.2.1.weight≤90000) (h:∀q,S q=none→T E D [x0,x1,ae (enc y),ae (zeF (ae t)),ae (zeF none),x5,ae (.ref q),x7] (put S q (.lst (encs ms)))):ztt (r+1) T E D [x0,x1,ae (enc y),ae (zeF (ae t)),ae (zeF none),x5,x6,x7] S:=by
 have ee:∀t:Tn,zeF (ae t)= .tup [.str t.1,enc t.2.1,enc t.2.2]:=λ_=>rfl;have a1:∀t:Tn,atI [W.str t.1,enc t.2.1,enc t.2.2] 1=ae (enc t.2.1):=λ_=>rfl;rw[ee,show zeF none=W.non from rfl]at *;unfold ztt;walk_at "wp";rw[a1];dsimp only;refine zeW hr ft hw (λys hys q hq=>?_) λh0=>by rw[e]at h0;cases h0
 rw[e]at hys;cases hys
 try walk_at "wp"
 exact h q hq
end
theorem zmN (hB:∀t∈B,t.2.1.depth≤4∧t.2.1.weight≤100∧t.2.2.depth≤4∧t.2.2.weight≤100∧t.2.2.fits t.2.1.nb):∀(n:Nat) {S:Sto}{x y z:Tr}{r:Nat}{Q:WK}{E:Str→Sto→Prop},S a=ae (.lst (B.map zaW))→Mv B n x y z→n+12≤r→x.hd (λ_=>True)→y.hd (λ_=>True)→x.weight≤1000→y.weight≤1000→Q (enc z) S→zcJ (r+1) [.ref a,enc x,enc y] S Q E
 |0,S,x,y,z,r,Q,E,ha,M,hr,hx,hy,wx,wy,h=>by cases M
 |n+1,S,x,y,z,r,Q,E,ha,M,hr,hx,hy,wx,wy,h=>by
  obtain⟨r,rfl⟩:∃r',r=r'+1:=⟨r - 1,by omega⟩
  have one:∀{as bs:List Tr},hds (λ_=>True) as→hds (λ_=>True) bs→wts as≤1000→wts bs≤1000→ ∀(S1:Sto),Sub S S1→ ∀{a' b' c':Tr}{Q:WK}{E:Str→Sto→Prop},a'∈as→b'∈bs→Mv B n a' b' c'→Q (enc c') S1→zcJ (r+1) [.ref a,enc a',enc b'] S1 Q E:=λ{as bs} h1 h2 h3 h4 S1 sb {a' b' c' Q E} m1 m2 M q=>
   zmN hB n (sb _ _ ha) M (by omega) (hds_iff.mp h1 _ m1) (hds_iff.mp h2 _ m2) (by have:=zcl m1;omega) (by have:=zcl m2;omega) q
  have start:∀{s z:Str}{ts us:List Tr}{E':WX}{D:WEnds}{S1:Sto}{va vb vf:W}{f:Option Tn}{as bs cs:List Tr},S1 a=ae (.lst (B.map zaW))→Sub S S1→zyX S1 va (encs as)→zyX S1 vb (encs bs)→Mvs B n as bs cs→hds (λ_=>True) as→hds (λ_=>True) bs→wts as≤1000→wts bs≤1000→(∀t,f=ae t→t∈B∧cs.length=t.2.1.nb)→(∀S',Sub S S'→D.rt (enc (zAZ f s cs)) S')→
    zAd (r+1) E' D [ae (.ref a),ae (W.tup (W.str s::encs ts)),ae (W.tup (W.str z::encs us)),ae vf,ae (zeF f),ae va,ae vb,none] S1:=λ{s z ts us E' D S1 va vb vf f as bs cs} hS1 sb q1 q2 M h1 h2 h3 h4 hf hQ=>by
   have hl:=zbx as;have:=ztD (x:= .nd s ts) (y:= .nd z us) (vf:=vf) (f:=f) (x7:=none) (E:=E') (D:=D) rfl hS1 q1 q2 M (by omega) (λt ht=>by
    obtain⟨m,e⟩:=hf t ht;obtain⟨g1,g2,g3,g4,g5⟩:=hB t m;exact⟨g3,g4,by rw[e];exact g5⟩) (by omega) (one h1 h2 h3 h4 S1 sb) λS' sb'=>hQ S' (sb.trans sb')
   simpa only[enc]using this
  obtain⟨s,ts,z',us,rfl,rfl⟩:=M.nd;have ex:enc (.nd s ts)= .tup (.str s::encs ts):=by simp only[enc]
  have ey:enc (.nd z' us)= .tup (.str z'::encs us):=by simp only[enc]
  have hx':=hx;have hy':=hy;have wx':=wx;have wy':=wy;simp only[Tr.hd]at hx' hy';simp only[Tr.weight]at wx' wy';rw[zoG,ex,ey];walk_at "wp";refine zfB ha (zfB ha ?_);cases M with
  | @nn _ _ _ _ _ cs e1 e2 M=>
   rw[e1,e2];exact zwF (start (f:=none) ha .refl (.inl rfl) (.inl rfl) M hx'.2 hy'.2 (by omega) (by omega) (λ_ h=>nomatch h) λS' sb=>⟨_,sb,h⟩)
  | @ns _ _ _ _ _ cs ms t e1 e2 e3 e4 M=>
   have ht:t∈B:=b3 e2;have hm:=zrv t.2.1 _ _ e3 hx;have ft:=zfy (m:=0) _ hx;obtain⟨g1,g2,g3,g4,g5⟩:=hB t ht;rw[e1,e2,←ex];refine zwd e3 (by omega) ft (by omega) λq hq=>?_;rw[ex];exact start (f:=ae t) (keep ha hq) (.put .refl hq) (.inr ⟨q,rfl,zah⟩) (.inl rfl) M hm.1 hy'.2 (by omega) (by omega) (λ_ h=>by cases h;exact⟨ht,e4⟩) λS' sb=>⟨_,sb,h⟩
  | @sn _ _ _ _ _ cs ms t e1 e2 e3 M=>
   have ht:t∈B:=b3 e1;have hm:=zrv t.2.1 _ _ e3 hy;have ft:=zfy (m:=0) _ hy;obtain⟨g1,g2,g3,g4,g5⟩:=hB t ht;rw[e1,e2,←ey];refine zwW e3 (by omega) ft (by omega) λq hq=>?_;rw[ey];exact start (f:=none) (keep ha hq) (.put .refl hq) (.inl rfl) (.inr ⟨q,rfl,zah⟩) M hx'.2 hm.1 (by omega) (by omega) (λ_ h=>nomatch h) λS' sb=>⟨_,sb,h⟩
  | @ss _ _ _ _ _ cs t t' e1 e2 e3 M=>
   have ht:t∈B:=b3 e2;rw[e1,e2];exact zwn (start (f:=ae t) ha .refl (.inl rfl) (.inl rfl) M hx'.2 hy'.2 (by omega) (by omega) (λ_ h=>by cases h;exact⟨ht,e3⟩) λS' sb=>⟨_,sb,h⟩)
end
theorem zAS:zal 1=λt=>t.2.1:=by funext t;exact if_pos rfl
theorem zto:zal 2=λt=>t.2.2:=by funext t;exact if_neg (by decide)
section
mutual
theorem zAL:∀(L t:Tr) (ys:List Tr),L.mt t=ae ys→ ∀y∈ys,y.depth≤t.depth
 | .bl n,t,ys,e,y,hy=>by
  rw[Tr.mt]at e;cases e;rw[bg]at hy;rw[hy];exact au _
 | .nd s ls, .bl n,ys,e,y,hy=>by rw[Tr.mt]at e;cases e
 | .nd s ls, .nd z us,ys,e,y,hy=>by
  rw[Tr.mt]at e;split at e
  ·have:=zoe ls us ys e y hy;rw[Tr.depth];omega
  ·cases e
theorem zoe:∀(ls us ys:List Tr),mts ls us=ae ys→ ∀y∈ys,y.depth≤dts us
 | [],us,ys,e,y,hy=>by rw[mts]at e;cases e;cases hy
 |l::ls,[],ys,e,y,hy=>by rw[mts]at e;cases e;cases hy
 |l::ls,u::us,ys,e,y,hy=>by
  rw[mts]at e;cases q1:l.mt u with
  |none=>rw[q1]at e;cases e
  |some xs=>
   rw[q1]at e;cases q2:mts ls us with
   |none=>rw[q2]at e;cases e
   |some zs=>
    rw[q2]at e;cases e;rw[dts];rcases bh.mp hy with hy |hy
    ·have:=zAL l u xs q1 y hy;omega
    ·have:=zoe ls us zs q2 y hy;omega
end
structure Pk (ws hs:List Str) (B:List Tn) (p:Pl):Prop where
  b:BkOk ws hs B
  m:zzY B
  o:PlOk hs B p
  dp:∀{c:Int→Nat},(p.ev B c).depth≤40
  wt:∀{c:Int→Nat},(p.ev B c).weight≤400
def Ok2 (c d:Int→Nat):Prop:=∀x:Int,0≤x→x<8→(c x≤1∧d x≤1)∨(c x=2∧d x=2)
theorem zlA{x y e1 e2 e3:W}(k1:∀{Q:WK}{E:Str→Sto→Prop},Q e1 S→zcp r [.ref a,x,y] S Q E) (k2:∀{Q:WK}{E:Str→Sto→Prop},Q e2 S→zfk r [.ref a,y] S Q E) (k3:∀{Q:WK}{E:Str→Sto→Prop},Q e3 S→zcJ r [.ref a,x,y] S Q E) (h:Q e3 S):zdi (r+1) [.ref a,x,y] S Q E:=by
 rw[zdi];walk_at "wp";exact k1 (k2 (k3 ⟨_, .refl,h⟩))
end
theorem zqC (f x:Int):byC f x≤1:=by unfold byC;split<;>omega
section
variable {B:List Tn}
theorem zku (B:List Tn) (s:Str) (g:Tn→W):B.findSome? (λt=>if t.1 == s then ae (g t) else none)=(zaN B s).map g:=by
 unfold zaN
 induction B with
 |nil=>rfl
 |cons t B ih=>
  rw[dF,bW];cases e:t.1 == s with
  |true=>rfl
  |false=>simpa using ih
end
noncomputable def pps (B:List Tn) (s:Str) (n:Nat):List (List Int):=match zaN B s with
 |none=>(bc n).map λ(i:Nat)=>[(i:Int)]
 |some t=>t.2.1.bls.map λx=>x.1
mutual
noncomputable def Tr.us (B:List Tn) (p:List Int):Tr→List (List Int×Str)
 | .bl _=>[]
 | .nd s ts=>(match zaN B s with
  |none=>[]
  |some _=>[(p,s)])++usz B p (pps B s ts.length) ts
noncomputable def usz (B:List Tn) (p:List Int):List (List Int)→List Tr→List (List Int×Str)
 |q::qs,t::ts=>t.us B (p++q)++usz B p qs ts
 |_,_=>[]
end
noncomputable def ppl (B:List Tn) (k:Int) (n:Nat):List (List Int):=if k<0 then(bc n).map λ(i:Nat)=>[(i:Int)] else(B.getD k.toNat (⟨#[]⟩, .bl 0, .bl 0)).2.1.bls.map λx=>x.1
mutual
noncomputable def Pl.ns (B:List Tn) (p:List Int):Pl→List (List Int×Int×Str)
 | .nd k b h ps=>(if k<0 then [] else [(p,b,(B.getD k.toNat (⟨#[]⟩, .bl 0, .bl 0)).1)])++nsz B p (ppl B k ps.length) ps
noncomputable def nsz (B:List Tn) (p:List Int):List (List Int)→List Pl→List (List Int×Int×Str)
 |q::qs,t::ts=>t.ns B (p++q)++nsz B p qs ts
 |_,_=>[]
end
theorem zwO{B:List Tn}{p:List Int}{s:Str}{ts:List Tr}(h:zaN B s=none):(Tr.nd s ts).us B p=usz B p ((bc ts.length).map λ(i:Nat)=>[(i:Int)]) ts:=by
 rw[Tr.us,pps,h];rfl
theorem zvB{B:List Tn}{p:List Int}{s:Str}{ts:List Tr}{t:Tn}(h:zaN B s=ae t):(Tr.nd s ts).us B p=(p,s)::usz B p (t.2.1.bls.map λx=>x.1) ts:=by
 rw[Tr.us,pps,h];rfl
noncomputable def zBH (c:Int→Nat) (xs:List (List Int×Int×Str)):List (List Int×Str):=(xs.filter λx=>c x.2.1 == 1).map λx=>(x.1,x.2.2)
noncomputable def zcT (B:List Tn) (t:Tr):Option Tn:=B.find? λu=>(u.2.1.mt t).isSome
mutual
noncomputable def Tr.op (B:List Tn) (p:List Int):Tr→List (List Int×Str)
 | .bl _=>[]
 | .nd s ts=>(match zcT B (.nd s ts) with
  |none=>[]
  |some t=>[(p,t.1)])++ops B p 0 ts
noncomputable def ops (B:List Tn) (p:List Int) (i:Nat):List Tr→List (List Int×Str)
 | []=>[]
 |t::ts=>t.op B (p++[(i:Int)])++ops B p (i+1) ts
end
theorem zcs{n:Nat}{h c d:Str}{L:Tr}(hL:L∈leftsL n h c d):∃ts,L= .nd h ts:=by
 unfold leftsL at hL;split at hL<;>simp only[av,bw,or_false]at hL
 all_goals first
  | (subst hL;exact⟨_,rfl⟩)
  | (rcases hL with rfl |rfl<;>exact⟨_,rfl⟩)
theorem zhH{s z:Str}{ls us:List Tr}(h:((Tr.nd s ls).mt (.nd z us)).isSome=true):s=z:=by
 simp only[Tr.mt]at h;split at h
 ·rename_i q;simp only[bO,beq_iff_eq]at q;exact q.1
 ·cases h
theorem zli{n:Nat}{h c d:Str}{L M x:Tr}(hL:L∈leftsL n h c d) (hM:M∈leftsL n h c d) (h1:(L.mt x).isSome=true) (h2:(M.mt x).isSome=true):L=M:=by
  cases x with
  |bl k=>
    obtain⟨ts,rfl⟩:=zcs hL;simp [Tr.mt]at h1
  |nd s ts=>
    unfold leftsL at hL hM;split at hL<;>simp only[av,bw,or_false]at hL hM
    all_goals first
      | (rw[hL,hM])
      | (rcases hL with rfl |rfl<;>rcases hM with rfl |rfl<;>first
          |rfl
          | (exfalso
             rcases ts with _ |⟨u,us⟩
             · simp [Tr.mt]at h1
             · cases u with
               |bl k=>simp [Tr.mt,mts]at h1 h2
               |nd z vs=>
                 rcases vs with _ |⟨v,vs⟩
                 · simp [Tr.mt,mts]at h1 h2
                 · rcases vs with _ |⟨v',vs⟩
                   · cases v with
                     |bl k=>simp [Tr.mt,mts]at h1 h2
                     |nd z' xs=>
                       rcases xs with _ |⟨x',xs⟩
                       · simp [Tr.mt,mts]at h1 h2
                       · simp [Tr.mt,mts]at h1 h2
                   · simp [Tr.mt,mts]at h1 h2))
section
variable {w0 w1 w2 w3 w4 w5:Str}{tt:List Str}{B:List Tn}
theorem BookOk.one (b:BookOk w0 w1 w2 w3 w4 w5 tt B) (G:Signs w0 w1 w2 w3 w4 w5) {u v:Tn}(hu:u∈B) (hv:v∈B) {x:Tr}(h1:(u.2.1.mt x).isSome=true) (h2:(v.2.1.mt x).isSome=true):u.2.1=v.2.1:=by
 obtain⟨n,m,e⟩:=b.lf;have mu:u.2.1∈leftsL n w0 w2 w3++leftsL m w1 w2 w3:=by rw[←e];exact aU.mpr ⟨u,hu,rfl⟩
 have mv:v.2.1∈leftsL n w0 w2 w3++leftsL m w1 w2 w3:=by rw[←e];exact aU.mpr ⟨v,hv,rfl⟩
 have key:∀{L M:Tr},L∈leftsL n w0 w2 w3→M∈leftsL m w1 w2 w3→(L.mt x).isSome=true→(M.mt x).isSome=true→False:=λ{L M} hL hM k1 k2=>by
  obtain⟨ts,rfl⟩:=zcs hL;obtain⟨us,rfl⟩:=zcs hM;cases x with
  |bl k=>simp [Tr.mt]at k1
  |nd s vs=>exact G.n0 w1 (by simp) ((zhH k1).trans (zhH k2).symm)
 rcases bh.mp mu with z |z<;>rcases bh.mp mv with y |y
 ·exact zli z y h1 h2
 ·exact(key z y h1 h2).elim
 ·exact(key y z h2 h1).elim
 ·exact zli z y h1 h2
theorem zhy (n:Nat) (h c d:Str):(leftsL n h c d).Nodup:=by
 unfold leftsL;split<;>simp
theorem BookOk.inj (b:BookOk w0 w1 w2 w3 w4 w5 tt B) (G:Signs w0 w1 w2 w3 w4 w5):(B.map λt=>t.2.1).Nodup:=by
 obtain⟨n,m,e⟩:=b.lf;rw[e,List.nodup_append];refine⟨zhy ..,zhy ..,λx hx y hy=>?_⟩;obtain⟨ts,rfl⟩:=zcs hx;obtain⟨us,rfl⟩:=zcs hy;intro z;cases z;exact G.n0 _ (by simp) rfl
theorem zsq{α β:Type}{f:α→β}:∀{xs:List α}{x y:α},(xs.map f).Nodup→x∈xs→y∈xs→f x=f y→x=y
 |z::xs,x,y,h,hx,hy,e=>by
  rw[az,d9]at h;rcases av.mp hx with h1 |h1
  ·rcases av.mp hy with h2 |h2
   ·rw[h1,h2]
   ·exact(h.1 (aU.mpr ⟨y,h2,by rw[←e,h1]⟩)).elim
  ·rcases av.mp hy with h2 |h2
   ·exact(h.1 (aU.mpr ⟨x,h1,by rw[e,h2]⟩)).elim
   ·exact zsq h.2 h1 h2 e
theorem BookOk.open_some (b:BookOk w0 w1 w2 w3 w4 w5 tt B) (G:Signs w0 w1 w2 w3 w4 w5) {t:Tn}(ht:t∈B) {us:List Tr}(hu:us.length=t.2.1.nb):zcT B (t.2.1.fill us)=ae t:=by
 have hm:=b.mt t ht us hu;unfold zcT;cases e:B.find? λu=>(u.2.1.mt (t.2.1.fill us)).isSome with
 |none=>
  rw[gX]at e;have:=e t ht;rw[hm]at this;simp at this
 |some u=>
  have hu':=i8 e;have mu:=b3 e;have:=b.one G mu ht hu' (by rw[hm];rfl);rw[zsq (b.inj G) mu ht this]
theorem BookOk.open_none (b:BookOk w0 w1 w2 w3 w4 w5 tt B) {s:Str}{ts:List Tr}(h0:w0≠s) (h1:w1≠s):zcT B (.nd s ts)=none:=by
 obtain⟨n,m,e⟩:=b.lf;unfold zcT;rw[gX];intro u hu hz;have mu:u.2.1∈leftsL n w0 w2 w3++leftsL m w1 w2 w3:=by rw[←e];exact aU.mpr ⟨u,hu,rfl⟩
 rcases bh.mp mu with z |z<;>obtain⟨ls,el⟩:=zcs z<;>rw[el]at hz
 ·exact h0 (zhH hz)
 ·exact h1 (zhH hz)
end
noncomputable def opz (B:List Tn) (p:List Int):List (List Int)→List Tr→List (List Int×Str)
 |q::qs,t::ts=>t.op B (p++q)++opz B p qs ts
 |_,_=>[]
theorem zkT{B:List Tn}{n:Nat}{h c d:Str}{L:Tr}(hL:L∈leftsL n h c d) (h2:∀xs,zcT B (.nd c xs)=none) (h3:∀xs,zcT B (.nd d xs)=none) {us ks:List Tr}(hu:us.length=L.nb) (hk:L= .nd h ks) (p:List Int):ops B p 0 (fills us ks)=opz B p (L.bls.map λx=>x.1) us:=by
 unfold leftsL at hL;split at hL<;>simp only[av,bw,or_false]at hL
 all_goals first
  | (subst hL;cases hk;rcases us with _ |⟨u,_ |⟨v,_ |⟨x,_ |⟨y,us⟩⟩⟩⟩<;>simp [Tr.nb,nbs,Tr.fill,fills,Tr.op,ops,h2,h3,opz,Tr.bls,Tr.plt,zgQ,Tr.isBl,jg]at hu⊢ <;>omega)
  | (rcases hL with rfl |rfl<;>cases hk<;>rcases us with _ |⟨u,_ |⟨v,_ |⟨x,_ |⟨y,us⟩⟩⟩⟩<;>simp [Tr.nb,nbs,Tr.fill,fills,Tr.op,ops,h2,h3,opz,Tr.bls,Tr.plt,zgQ,Tr.isBl,jg]at hu⊢ <;>omega)
theorem zri{B:List Tn}{p:List Int}:∀(ts:List Tr) (i:Nat),ops B p i ts=opz B p ((fv i ts.length).map λ(i:Nat)=>[(i:Int)]) ts
 | [],i=>by simp [ops,opz]
 |t::ts,i=>by
  rw[ops,zri ts (i+1),aW,f8,az,opz]
mutual
inductive Wi (B:List Tn) (wn:List (List Int)):Nat→List Int→Tr→Tr→Prop
 |no {n:Nat}{p:List Int}{s:Str}{ts us:List Tr}:p∉wn→zaN B s=none→Wis B wn n p ((bc ts.length).map λ(i:Nat)=>[(i:Int)]) ts us→Wi B wn (n+1) p (.nd s ts) (.nd s us)
 |yes {n:Nat}{p:List Int}{s:Str}{ts us ms:List Tr}{t:Tn}:p∈wn→zcT B (.nd s ts)=ae t→t.2.1.mt (.nd s ts)=ae ms→zaN B t.1=ae t→Wis B wn n p (t.2.1.bls.map λx=>x.1) ms us→Wi B wn (n+1) p (.nd s ts) (.nd t.1 us)
inductive Wis (B:List Tn) (wn:List (List Int)):Nat→List Int→List (List Int)→List Tr→List Tr→Prop
 |nil {n:Nat}{p:List Int}:Wis B wn n p [] [] []
 |cons {n:Nat}{p q:List Int}{qs:List (List Int)}{t u:Tr}{ts us:List Tr}:Wi B wn n (p++q) t u→Wis B wn n p qs ts us→Wis B wn n p (q::qs) (t::ts) (u::us)
end
noncomputable def zly (c:Int→Nat) (xs:List (List Int×Int×Str)):List (List Int):=(zBH c xs).map λx=>x.1
def zht (qs:List (List Int)):Prop:=qs.Pairwise λa b=>¬a <+:b∧ ¬b <+:a
noncomputable def encX (x:List Int×Str):W:= .tup [zbZ x.1, .str x.2]
section
variable {a:Addr}{B:List Tn}
structure Lft (B:List Tn):Prop where
  d:∀t∈B,t.2.1.depth≤4
  w:∀t∈B,t.2.1.weight≤20
theorem zoH{S:Sto}{r:Nat}{Q:WK}{E:Str→Sto→Prop}{s:Str}{ts:List Tr}(L:Lft B) (ha:S a=ae (.lst (B.map zaW))) (hl:ts.length≤1000) (hr:20≤r) (h:∀q,S q=none→Q (.ref q) (put S q (.lst ((pps B s ts.length).map zbZ)))):zbU (r+1) [.ref a,enc (.nd s ts)] S Q E:=by
 obtain⟨r,rfl⟩:∃r',r=r'+1:=⟨r - 1,by omega⟩
 rw[zbU];simp only[enc];walk_at "wp";refine zfB ha ?_;unfold pps at h;cases e:zaN B s with
 |none=>
  rw[e]at h;simp only[zeF]
  try walk_at "wp"
  rw[zbh];have e1:(((ts.length+1:Nat):Int) - 1).toNat=ts.length:=by omega
  rw[e1];refine⟨⟨by omega,by omega⟩,?_⟩
  rw[zpw];refine zaw (λσ=>∃x,σ=[x]) (λi:Nat=>W.int i) (λi=>zbZ [(i:Int)]) trivial (bc ts.length) [] _ ⟨none,rfl⟩ (by simp;omega) (λx hx σ R hI hR=>?_) ?_
  ·obtain⟨y,rfl⟩:=hI;simp only[zeG];walk_at "wp";exact⟨zak (by decide),hR _ _ ⟨_,rfl⟩ .refl⟩
  ·rw[aR];intro q hq;have:=h q hq;simp only[bb]at this;exact⟨_, .refl,this⟩
 |some t=>
  rw[e]at h;have ht:t∈B:=b3 e;have ee:zeF (ae t)= .tup [.str t.1,enc t.2.1,enc t.2.2]:=rfl;rw[ee]
  try walk_at "wp"
  rw[show atI [W.str t.1,enc t.2.1,enc t.2.2] 1=ae (enc t.2.1) from rfl];dsimp only;have h1:=L.d t ht;have h2:=L.w t ht;refine zoZ (by omega) (by omega) λq hq=>?_;have:=h q hq;simp only[bb]at this;exact⟨_, .refl,this⟩
theorem zkn (B:List Tn) (x:Tr):B.findSome? (λt=>if(t.2.1.mt x).isSome then ae (zaW t) else none)=(zcT B x).map zaW:=by
 unfold zcT
 induction B with
 |nil=>rfl
 |cons t B ih=>
  rw[dF,bW];cases e:(t.2.1.mt x).isSome with
  |true=>rfl
  |false=>simpa using ih
theorem zhu{S:Sto}{r:Nat}{Q:WK}{E:Str→Sto→Prop}{x:Tr}(L:Lft B) (ha:S a=ae (.lst (B.map zaW))) (hf:x.fits 0) (hr:20≤r) (h:Q (zeF (zcT B x)) S):zbu (r+1) [.ref a,enc x] S Q E:=by
 obtain⟨r,rfl⟩:∃r',r=r'+1:=⟨r - 1,by omega⟩
 rw[zbu];walk_at "wp";rw[zai ha];refine zeR (S:=S) ?_ (λσ=>∃y,σ=[ae (.ref a),ae (enc x),y]) zaW (λt=>if(t.2.1.mt x).isSome then ae (zaW t) else none) B _ ⟨_,rfl⟩ (λt ht σ N hI hno hret=>?_) (λe σ hI=>?_) λw e S' sb=>?_
 ·exact ha
 ·obtain⟨y,rfl⟩:=hI;simp only[zey];have ee:zaW t= .tup [.str t.1,enc t.2.1,enc t.2.2]:=rfl;rw[ee];walk_at "wp";rw[show atI [W.str t.1,enc t.2.1,enc t.2.2] 1=ae (enc t.2.1) from rfl];dsimp only;have h1:=L.d t ht;have h2:=L.w t ht;refine zeW (by omega) hf (by omega) (λys hys q hq=>?_) λh0=>?_
  ·try walk_at "wp"
   rw[hys]at hret;exact hret _ rfl _ (.put .refl hq)
  ·try walk_at "wp"
   rw[h0]at hno;exact hno rfl _ _ ⟨_,rfl⟩ .refl
 ·obtain⟨y,rfl⟩:=hI;walk_at "wp";rw[zkn]at e;have:zcT B x=none:=by
   cases q:zcT B x with
   |none=>rfl
   |some t=>rw[q]at e;cases e
  rw[this]at h;exact⟨_, .refl,h⟩
 ·rw[zkn]at e;cases q:zcT B x with
  |none=>rw[q]at e;cases e
  |some t=>
   rw[q]at e h;cases e;exact⟨_,sb,h⟩
end
mutual
theorem zls (B:List Tn):∀(t:Tr) (p:List Int),(t.op B p).length≤t.weight
 | .bl n,p=>by simp [Tr.op]
 | .nd s ts,p=>by
  have:=zqm B ts p 0;rw[Tr.op,aY,Tr.weight];split<;>simp<;>omega
theorem zqm (B:List Tn):∀(ts:List Tr) (p:List Int) (i:Nat),(ops B p i ts).length≤wts ts
 | [],p,i=>by simp [ops]
 |t::ts,p,i=>by
  have h1:=zls B t (p++[(i:Int)]);have h2:=zqm B ts p (i+1);rw[ops,aY,wts];omega
end
section
variable {a f:Addr}{B:List Tn}
mutual
theorem znK (L:Lft B) (haf:f≠a):∀(t:Tr) {r:Nat}{p:List Int}{xs:List W}{S:Sto}{Q:WK}{E:Str→Sto→Prop},t.depth+25≤r→S a=ae (.lst (B.map zaW))→S f=ae (.lst xs)→xs.length+t.weight≤100000→p.length+t.depth≤1000→t.hd (λ_=>True)→
  Q .non (put S f (.lst (xs++(t.op B p).map encX)))→zbr (r+1) [.ref a,enc t,zbZ p, .ref f] S Q E
 | .bl n,r,p,xs,S,Q,E,hr,ha,hf,hx,hp,hh,h=>by simp [Tr.hd]at hh
 | .nd s ts,r,p,xs,S,Q,E,hr,ha,hf,hx,hp,hh,h=>by
  have ft:=zfy (m:=0) _ hh;simp only[Tr.depth]at hr hp;simp only[Tr.weight]at hx;simp only[Tr.hd]at hh;obtain⟨r,rfl⟩:∃r',r=r'+1:=⟨r - 1,by omega⟩
  rw[zbr];have ee:enc (.nd s ts)= .tup (.str s::encs ts):=by simp only[enc]
  walk_at "wp";refine zhu L ha ft (by omega) ?_;rw[Tr.op]at h;cases e:zcT B (.nd s ts) with
  |none=>
   rw[e]at h;simp only[aR]at h;simp only[zeF];rw[ee]
   try walk_at "wp"
   exact zin L haf ts (by omega) ha hf (by omega) (by omega) hh.2 λx5 x6=>⟨_, .refl,h⟩
  |some t=>
   rw[e]at h;have et:zeF (ae t)= .tup [.str t.1,enc t.2.1,enc t.2.2]:=rfl;rw[et,ee]
   try walk_at "wp"
   simp only[zai hf,true_and];refine⟨zak (by decide),zbv (by omega),?_⟩;refine zin L haf ts (xs:=xs++[encX (p,t.1)]) (by omega) (by rw[zaG (br haf)];exact ha) zah (by simp;omega) (by omega) hh.2 λx5 x6=>⟨_, .refl,?_⟩;rw[zaY];simpa using h
theorem zin (L:Lft B) (haf:f≠a):∀(ts:List Tr) {r:Nat}{p:List Int}{i:Nat}{xs:List W}{S:Sto}{E:WX}{D:WEnds}{t0 x4 x5 x6:Option W},dts ts+25≤r→S a=ae (.lst (B.map zaW))→S f=ae (.lst xs)→xs.length+wts ts≤100000→p.length+1+dts ts≤1000→hds (λ_=>True) ts→
  (∀x5 x6,D.nx [ae (.ref a),t0,ae (zbZ p),ae (.ref f),x4,x5,x6] (put S f (.lst (xs++(ops B p i ts).map encX))))→
  forL (wGT (zaD (wGN 5) (zaD (wGN 6) zdP))) (zdz (r+1) (zbr (r+1))) E D (λ_=>True) (ziN i (encs ts)) [ae (.ref a),t0,ae (zbZ p),ae (.ref f),x4,x5,x6] S
 | [],r,p,i,xs,S,E,D,t0,x4,x5,x6,hr,ha,hf,hx,hp,hh,h=>by
  simp only[encs,ziN,forL];have:=h x5 x6;rw[ops,dq,bG,zfj hf]at this;exact this
 |t::ts,r,p,i,xs,S,E,D,t0,x4,x5,x6,hr,ha,hf,hx,hp,hh,h=>by
  simp only[dts]at hr hp;simp only[wts]at hx;simp only[hds]at hh;simp only[encs,ziN];refine zby λN hN=>?_;simp only[zdz];walk_at "wp";rw[znq];refine⟨zak (by decide),zak (by omega),?_⟩;have ol:=zls B t (p++[(i:Int)]);refine znK L haf t (by omega) ha hf (by omega) (by simp;omega) hh.1 ?_;refine hN _ _ _ .refl trivial (zin L haf ts (xs:=xs++(t.op B (p++[(i:Int)])).map encX) (by omega) (by rw[zaG (br haf)];exact ha) zah (by simp;omega) (by omega) hh.2 λx5 x6=>?_);rw[zaY];have:=h x5 x6;rw[ops,bI]at this;simpa using this
end
theorem zyt{p q:List Int}{S:Sto}{Q:WK}:zdT (zbZ p) (zbZ q) S Q=(p.length+q.length≤sizeLine∧Q (zbZ (p++q)) S):=by
 unfold zbZ;rw[zhO,aq,aq,bI]
def PB (B:List Tn):Prop:=∀t∈B,∀x∈t.2.1.bls,x.1.length≤4
theorem zpU{s:Str}{n:Nat}(h:PB B):∀q∈pps B s n,q.length≤4:=λq hq=>by
 unfold pps at hq;cases e:zaN B s with
 |none=>
  rw[e]at hq;obtain⟨i,_,rfl⟩:=aU.mp hq;simp
 |some t=>
  rw[e]at hq;obtain⟨x,hx,rfl⟩:=aU.mp hq;exact h t (b3 e) x hx
end
section
variable {a:Addr}{B:List Tn}{S:Sto}{r:Nat}{Q:WK}{E:Str→Sto→Prop}{t:Tr}
theorem zdv (L:Lft B) (ha:S a=ae (.lst (B.map zaW))) (hd:t.depth≤60) (hr:t.depth+30≤r) (hw:t.weight≤1000) (hh:t.hd (λ_=>True)) (h:∀q,S q=none→Q (.ref q) (put S q (.lst ((t.op B []).map encX)))):zbj (r+1) [.ref a,enc t] S Q E:=by
 obtain⟨r,rfl⟩:∃r',r=r'+1:=⟨r - 1,by omega⟩
 rw[zbj];walk_at "wp";refine⟨aZ _,λq hq=>⟨aZ _,?_⟩⟩;have hqa:q≠a:=λz=>by rw[z,ha]at hq;cases hq
 refine znK L hqa t (p:=[]) (xs:=[]) (by omega) (keep ha hq) zah (by simp;omega) (by simp;omega) hh ?_;rw[zaY,aR];exact⟨_, .refl,h q hq⟩
theorem zhZ{f:Addr}{xs:List (List Int×Str)}(hf:S f=ae (.lst (xs.map encX))) (hl:xs.length≤10000) (h:∀q,S q=none→Q (.ref q) (put S q (.lst ((xs.map λx=>x.1).map zbZ)))):zcI (r+1) [.ref f] S Q E:=by
 rw[zcI];walk_at "wp";rw[zai hf];refine zaw (λσ=>∃y,σ=[y]) encX (λx=>zbZ x.1) ?_ xs [] _ ⟨none,rfl⟩ (by simp;omega) (λx hx σ R hI hR=>?_) ?_
 ·exact hf
 ·obtain⟨y,rfl⟩:=hI;simp only[zgb,encX];walk_at "wp";exact hR _ _ ⟨_,rfl⟩ .refl
 ·rw[aR];intro q hq;have:=h q hq;rw[bb]at this;exact⟨_, .refl,this⟩
theorem zkj{s:Str}{ts ms:List Tr}{u:Tn}(L:Lft B) (ha:S a=ae (.lst (B.map zaW))) (hh:(Tr.nd s ts).hd (λ_=>True)) (hw:(Tr.nd s ts).weight≤1000) (hr:25≤r) (h1:zcT B (.nd s ts)=ae u) (h2:u.2.1.mt (.nd s ts)=ae ms) (h:Q (enc (.nd u.1 ms)) S):zcY (r+1) [.ref a,enc (.nd s ts)] S Q E:=by
 obtain⟨r,rfl⟩:∃r',r=r'+1:=⟨r - 1,by omega⟩
 have ht:u∈B:=b3 h1;have ft:=zfy (m:=0) _ hh;have hm:=zrv u.2.1 _ _ h2 hh;have hl:=zbx ms;rw[zcY];walk_at "wp";refine zhu L ha ft (by omega) ?_;rw[h1];have et:zeF (ae u)= .tup [.str u.1,enc u.2.1,enc u.2.2]:=rfl;rw[et]
 try walk_at "wp"
 rw[show atI [W.str u.1,enc u.2.1,enc u.2.2] 1=ae (enc u.2.1) from rfl];have g1:=L.d u ht;have g2:=L.w u ht;refine⟨zak (by decide),zeW (by omega) ft (by omega) (λys hys q hq=>?_) λh0=>by rw[h2]at h0;cases h0⟩
 rw[h2]at hys;cases hys
 try walk_at "wp"
 rw[zbh];simp only[enc]at h;exact⟨zak (by omega),_, .put .refl hq,h⟩
end
theorem zuf{B:List Tn}{s:Str}{n:Nat}(h:zaN B s=none):pps B s n=(bc n).map λ(i:Nat)=>[(i:Int)]:=by unfold pps;rw[h]
theorem zty{B:List Tn}{s:Str}{n:Nat}{t:Tn}(h:zaN B s=ae t):pps B s n=t.2.1.bls.map λx=>x.1:=by unfold pps;rw[h]
theorem Wis.len{B:List Tn}{wn:List (List Int)}{n:Nat}{p:List Int}:∀{qs:List (List Int)}{ts us:List Tr},Wis B wn n p qs ts us→us.length=ts.length
 |_,_,_, .nil=>rfl
 |_,_,_, .cons _ h=>by rw[aW,aW,Wis.len h]
section
variable {a w:Addr}{B:List Tn}{wn:List (List Int)}
theorem zhq (n:Nat) (hP4:∀{t u:Tr}{p:List Int}{r:Nat}{S:Sto}{Q:WK}{E:Str→Sto→Prop},Wi B wn n p t u→n+40≤r+1→S a=ae (.lst (B.map zaW))→S w=ae (.dct (ziq wn))→t.hd (λ_=>True)→t.weight≤1000→p.length+4*n≤1000→Q (enc u) S→zaV (r+1) [.ref a,enc t,zbZ p, .ref w] S Q E) :
  ∀{ts us:List Tr}{qs:List (List Int)}{p:List Int},Wis B wn n p qs ts us→ ∀{r:Nat}{xs:List W}{f:Addr}{S:Sto}{G:Sto→Prop}{E:WX}{D:WEnds}{t0 x4 x6 x7:Option W},(∀q∈qs,q.length≤4)→n+40≤r+1→S a=ae (.lst (B.map zaW))→S w=ae (.dct (ziq wn))→S f=ae (.lst xs)→f≠a→f≠w→xs.length+ts.length≤10000→wts ts≤1000→hds (λ_=>True) ts→p.length+4+4*n≤1000→(∀o,G (put S f o))→
  (∀x6 x7,D.nx [ae (.ref a),t0,ae (zbZ p),ae (.ref w),x4,ae (.ref f),x6,x7] (put S f (.lst (xs++encs us))))→
  forL (wGT (zaD (wGN 6) (zaD (wGN 7) zdP))) (zcV (r+1) (zaV (r+1))) E D G (pairs (qs.map zbZ) (encs ts)) [ae (.ref a),t0,ae (zbZ p),ae (.ref w),x4,ae (.ref f),x6,x7] S
 |_,_,_,p, .nil=>by
  rename_i r xs f S G E D t0 x4 x6 x7;intro hq hr ha hw hf n1 n2 hx hwt hh hp hG h;simp only[dq,encs,pairs,forL];have:=h x6 x7;simp only[encs,bG,zfj hf]at this;exact this
 |_,_,_,p, .cons (q:=q) (t:=t) (u:=u) (ts:=ts) (us:=us) h1 h2=>by
  rename_i r xs f S G E D t0 x4 x6 x7 qs;intro hq hr ha hw hf n1 n2 hx hwt hh hp hG h;simp only[wts]at hwt;simp only[hds]at hh;simp only[aW]at hx;have hq4:=hq q aO;simp only[az,encs,pairs];refine zby λN hN=>?_;simp only[zcV];walk_at "wp";simp only[zai hf,true_and];rw[zyt];refine⟨zak (by omega),hP4 h1 hr ha hw hh.1 (by omega) (by simp;omega) ?_⟩
  try walk_at "wp"
  rw[zai hf];refine⟨zbv (by omega),?_⟩;refine hN _ _ _ .refl (hG _) (zhq n hP4 h2 (xs:=xs++[enc u]) (λq' hq'=>hq q' (aG _ hq')) hr (by rw[zaG (br n1)];exact ha) (by rw[zaG (br n2)];exact hw) zah n1 n2 (by simp;omega) (by omega) hh.2 hp (λo=>by rw[zaY];exact hG o) λx6 x7=>?_)
  rw[zaY];have:=h x6 x7;simpa [encs]using this
theorem zkO (L:Lft B) (hP:PB B):∀(n:Nat) {t u:Tr}{p:List Int}{r:Nat}{S:Sto}{Q:WK}{E:Str→Sto→Prop},Wi B wn n p t u→n+40≤r+1→S a=ae (.lst (B.map zaW))→S w=ae (.dct (ziq wn))→t.hd (λ_=>True)→t.weight≤1000→p.length+4*n≤1000→Q (enc u) S→zaV (r+1) [.ref a,enc t,zbZ p, .ref w] S Q E
 |0,t,u,p,r,S,Q,E,M,hr,ha,hw,hh,hwt,hp,h=>by cases M
 |n+1,t,u,p,r,S,Q,E,M,hr,ha,hw,hh,hwt,hp,h=>by
  obtain⟨r,rfl⟩:∃r',r=r'+1:=⟨r - 1,by omega⟩
  have tail:∀{s:Str}{ts us:List Tr}{t0:Option W}{E':WX},Wis B wn n p (pps B s ts.length) ts us→hds (λ_=>True) ts→wts ts≤1000→Q (enc (.nd s us)) S→
    (1:Nat)=1→ ∀f,S f=none→zbU (r+1) [.ref a, .tup (.str s::encs ts)] (put S f (.lst [])) (λx S1=>zpD x S1 λxs G=>forL (wGT (zaD (wGN 6) (zaD (wGN 7) zdP))) (zcV (r+1) (zaV (r+1))) E' { nx:=wRet (wOp zdT (zcf (zab (wOp oIx (wVar 4) (wC (W.int 0))) waNil)) (wB zea (zab (wVar 5) waNil))) E' { nx:=λx S'=>∃S'',Sub S'' S'∧Q W.non S'',rt:=λw S'=>∃S'',Sub S'' S'∧Q w S'' },rt:=λw S'=>∃S'',Sub S'' S'∧Q w S'' } (λS'=>G S'∧True) (pairs xs (encs ts)) [ae (.ref a),t0,ae (zbZ p),ae (.ref w),ae (.tup (.str s::encs ts)),ae (.ref f),none,none] S1) E:=λ{s ts us t0 E'} WW hd hw' hQ _ f hf=>by
   have hk:=zbx ts;have n1:f≠a:=λz=>by rw[z,ha]at hf;cases hf
   have n2:f≠w:=λz=>by rw[z,hw]at hf;cases hf
   have ee:W.tup (W.str s::encs ts)=enc (.nd s ts):=by simp only[enc]
   rw[ee];refine zoH L (keep ha hf) (by omega) (by omega) λq hq=>?_;rw[zid,zhd,←ee];obtain⟨hq1,hq2⟩:=zeu hq;refine zhq n (zkO L hP n) WW (zpU hP) (by omega) (keep (keep ha hf) hq) (keep (keep hw hf) hq) (keep zah hq) n1 n2 (by simp;omega) hw' hd (by omega) (λo=>⟨?_,trivial⟩) λx6 x7=>?_
   ·show put _ f o q=_;rw[zaG hq2];exact zah
   ·have hlu:us.length≤1000:=by
     have:=Wis.len WW;omega
    walk_at "wp";rw[zbh];simp only[enc]at hQ;refine⟨zak (by decide),zak (by omega),S,?_,hQ⟩;rw[znY hq2];exact .put (.put .refl hf) hq1
  cases M with
  | @no _ _ s ts us h1 h2 h3=>
   simp only[Tr.hd]at hh;simp only[Tr.weight]at hwt;rw[zaV];simp only[enc];walk_at "wp";rw[zmA hw,zky,decide_eq_false h1]
   try walk_at "wp"
   refine⟨aZ _,λf hf=>?_⟩;have:=tail (t0:=ae (.tup (.str s::encs ts))) (E':=λc x S'=>E c S') (by rw[zuf h2];exact h3) hh.2 (by omega) h rfl f hf;simpa only[and_true]using this
  | @yes _ _ s ts us ms t h1 h2 h3 h4 h5=>
   have hm:=zrv t.2.1 _ _ h3 hh;rw[zaV];walk_at "wp";rw[zmA hw,zky,decide_eq_true h1]
   try walk_at "wp"
   refine zkj L ha hh hwt (by omega) h2 h3 ?_;simp only[enc]
   try walk_at "wp"
   refine⟨aZ _,λf hf=>?_⟩;have:=tail (t0:=ae (.tup (.str s::encs ts))) (E':=λc x S'=>E c S') (by rw[zty h4];exact h5) hm.1 (by omega) h rfl f hf;simpa only[and_true]using this
end
theorem zlz{S:Sto}{n:Nat}:∀(p q:List Int),zgo (eqF S (n+1)) (p.map W.int) (q.map W.int)=ae (decide (p=q))
 | [],[]=>by simp [zgo]
 | [],j::q=>by simp [zgo]
 |i::p,[]=>by simp [zgo]
 |i::p,j::q=>by
  rw[az,az,zgo,zrZ,zlz p q];simp only[bD];rw[fA];simp
theorem zBk{S:Sto}{n:Nat}(p q:List Int):eqF S (n+2) (zbZ p) (zbZ q)=ae (decide (p=q)):=by
 unfold zbZ;rw[zuL,zlz]
theorem zyz{S:Sto}{x:List Int}:∀ys:List (List Int),inF S (zbZ x) (ys.map zbZ)=ae (decide (x∈ys))
 | []=>by simp [inF]
 |y::ys=>by
  rw[az,inF,zBk (n:=57),zyz ys];simp only[bD];rw[fA];simp only[ki,decide_eq_true_eq,av];exact⟨λh=>h.elim (λe=> .inl e.symm) .inr,λh=>h.elim (λe=> .inl e.symm) .inr⟩
section
variable {a:Addr}{B:List Tn}{wn:List (List Int)}{S:Sto}{r n:Nat}{Q:WK}{E:Str→Sto→Prop}{t u:Tr}{f:Addr}
theorem zix (L:Lft B) (hP:PB B) (M:Wi B wn n [] t u) (hn:n≤60) (hr:110≤r) (ha:S a=ae (.lst (B.map zaW))) (hf:S f=ae (.lst (wn.map zbZ))) (hh:t.hd (λ_=>True)) (hw:t.weight≤1000) (hl:wn.length≤10000) (h:Q (enc u) S):zdl (r+1) [.ref a,enc t, .ref f] S Q E:=by
 obtain⟨r,rfl⟩:∃r',r=r'+1:=⟨r - 1,by omega⟩
 rw[zdl];walk_at "wp";refine⟨aZ _,?_⟩;rw[zai hf];refine zaw (λσ=>∃y,σ=[y]) zbZ (λp=>W.tup [zbZ p, .bl true]) ?_ wn [] _ ⟨none,rfl⟩ (by simp;omega) (λx hx σ R hI hR=>?_) ?_
 ·exact hf
 ·obtain⟨y,rfl⟩:=hI;simp only[zgE];walk_at "wp";exact⟨zak (by decide),hR _ _ ⟨_,rfl⟩ .refl⟩
 ·rw[aR];have e:zfc (wn.map λp=>W.tup [zbZ p, .bl true])=ae wn:=zle wn;rw[e];refine⟨by omega,λd hd=>?_⟩;have e0:W.tup []=zbZ []:=rfl;rw[e0];exact zkO L hP n M (by omega) (keep ha hd) zah hh hw (by simp;omega) ⟨_, .put .refl hd,h⟩
theorem ztB{ks:List (List Int)}(L:Lft B) (hP:PB B) (M:Wi B wn n [] t u) (hn:n≤60) (hr:115≤r) (ha:S a=ae (.lst (B.map zaW))) (hf:S f=ae (.lst (wn.map zbZ))) (hh:t.hd (λ_=>True)) (hw:t.weight≤1000) (hd:t.depth≤60) (hl:wn.length≤10000) (hks:((t.op B []).map λx=>x.1)=ks) (hin:∀x∈wn,x∈ks) (h:Q (enc u) S):zfH (r+1) [.ref a,enc t, .ref f] S Q E:=by
 obtain⟨r,rfl⟩:∃r',r=r'+1:=⟨r - 1,by omega⟩
 have ol:=zls B t [];rw[zfH];walk_at "wp";refine zdv L ha hd (by omega) hw hh λq hq=>?_;refine zhZ zah (by omega) λq2 hq2=>?_;rw[hks];have f2:put (put S q (Ob.lst ((t.op B []).map encX))) q2 (Ob.lst (ks.map zbZ)) q2=ae (.lst (ks.map zbZ)):=zah;have ff:=keep (x:=Ob.lst (ks.map zbZ)) (keep (x:=Ob.lst ((t.op B []).map encX)) hf hq) hq2;have fa:=keep (x:=Ob.lst (ks.map zbZ)) (keep (x:=Ob.lst ((t.op B []).map encX)) ha hq) hq2;have sub:Sub S (put (put S q (Ob.lst ((t.op B []).map encX))) q2 (Ob.lst (ks.map zbZ))):= .trans (.put .refl hq) (.put .refl hq2);generalize put (put S q (Ob.lst ((t.op B []).map encX))) q2 (Ob.lst (ks.map zbZ))=S2 at f2 ff fa sub⊢
 try walk_at "wp"
 rw[zai ff];refine zeR (S:=S2) ?_ (λσ=>∃x,σ=[ae (.ref a),ae (enc t),ae (.ref f),ae (.ref q2),x]) zbZ (λ_=>none) wn _ ⟨_,rfl⟩ (λx hx σ N hI hno hret=>?_) (λe σ hI=>?_) λw e S' sb=>?_
 ·exact ff
 ·obtain⟨y,rfl⟩:=hI;unfold ziJ;walk_at "wp";rw[zai f2,zyz,decide_eq_true (hin x hx)]
  try walk_at "wp"
  exact hno rfl _ _ ⟨_,rfl⟩ .refl
 ·obtain⟨y,rfl⟩:=hI
  try walk_at "wp"
  exact zix L hP M hn (by omega) fa ff hh hw hl ⟨_,sub,h⟩
 ·rw[List.findSome?_eq_none_iff.mpr (λ_ _=>rfl)]at e;cases e
end
section
variable {c:Int→Nat}
def One (c:Int→Nat):Prop:=∀x:Int,0≤x→x<8→c x≤1
theorem One.src (hc:One c):∀x:Int,0≤x→x<8→zmv c x=0:=λx h0 h1=>by
 have:=hc x h0 h1;unfold zmv;split<;>omega
end
theorem zfA (f:Int):One (byC f):=λx _ _=>zqC f x
noncomputable def zzg (B:List Tn) (x:List Int×Tr):List (List Int×Str):=(zcT B x.2).toList.map λb=>(x.1,b.1)
mutual
theorem zsl (B:List Tn):∀(t:Tr) (p:List Int),t.fits 0→(t.plt p).flatMap (zzg B)=t.op B p
 | .bl n,p,h=>by
  simp only[Tr.fits]at h;omega
 | .nd s ts,p,h=>by
  simp only[Tr.fits]at h;rw[Tr.plt,fy,zsp B ts p 0 h,Tr.op,zzg];cases zcT B (.nd s ts)<;>rfl
theorem zsp (B:List Tn):∀(ts:List Tr) (p:List Int) (i:Nat),fitss 0 ts→(zgQ p i ts).flatMap (zzg B)=ops B p i ts
 | [],p,i,h=>by simp [zgQ,ops]
 |t::ts,p,i,h=>by
  simp only[fitss]at h;rw[zgQ,ops,jF,zsl B t _ h.1,zsp B ts p (i+1) h.2]
end
theorem zsH (x:Int) (h0:0≤x) (h8:x<8):byC 8 x=0:=by
 have:∀n:Nat,n<8→byC 8 (n:Int)=0:=by decide
 obtain⟨n,rfl⟩:=Int.eq_ofNat_of_zero_le h0;exact this n (by omega)
structure Pre (S:Sto) (aw at' ab:Addr) (w0 w1 w2 w3 w4 w5:Str) (tt:List Str) (B:List Tn):Prop where
  G:Signs w0 w1 w2 w3 w4 w5
  T:Titles tt
  b:BookOk w0 w1 w2 w3 w4 w5 tt B
  fw:S aw=ae (.lst (six w0 w1 w2 w3 w4 w5))
  ft:S at'=ae (.lst (tt.map W.str))
  fb:S ab=ae (.lst (B.map zaW))
  sl:Slim B
theorem Pre.bk{S:Sto}{aw at' ab:Addr}{w0 w1 w2 w3 w4 w5:Str}{tt:List Str}{B:List Tn}(P:Pre S aw at' ab w0 w1 w2 w3 w4 w5 tt B):BkOk [w0,w1,w2,w3,w4,w5] [w2,w3,w4,w5] B:=P.b.bk P.T P.G
theorem Pre.ne{S:Sto}{aw at' ab:Addr}{w0 w1 w2 w3 w4 w5:Str}{tt:List Str}{B:List Tn}(P:Pre S aw at' ab w0 w1 w2 w3 w4 w5 tt B):B≠ []:=by
 have h:=P.b.len;rintro rfl;simp at h
theorem Pre.sub{S S':Sto}{aw at' ab:Addr}{w0 w1 w2 w3 w4 w5:Str}{tt:List Str}{B:List Tn}(P:Pre S aw at' ab w0 w1 w2 w3 w4 w5 tt B) (h:Sub S S'):Pre S' aw at' ab w0 w1 w2 w3 w4 w5 tt B:=⟨P.G,P.T,P.b,h _ _ P.fw,h _ _ P.ft,h _ _ P.fb,P.sl⟩
theorem zwS{T:WS}{E:WX}{D:WEnds}{ns:List Int}{x1 x2 x3:Option W}{τ:WSt}{S:Sto}(h:∀(S':Sto) (aw at' ab:Addr) (w0 w1 w2 w3 w4 w5:Str) (tt:List Str) (B:List Tn),Pre S' aw at' ab w0 w1 w2 w3 w4 w5 tt B→T E D (ae (.scr ns)::ae (.ref aw)::ae (.ref at')::ae (.ref ab)::τ) S') :
  zas (wAsg (zan (zbp 199) (zab (zan (zaz 199) (zab (wVar 0) (zab (wC (.int 0)) waNil))) (zab (zan (zaz 199) (zab (wVar 0) (zab (wC (.int 1)) waNil))) (zab (wC (.bl false)) waNil)))) (wGN 1))
  (zas (wAsg (zan (zbp 199) (zab (zan (zaz 199) (zab (wVar 0) (zab (wC (.int 2)) waNil))) (zab (zan (zaz 199) (zab (wVar 0) (zab (wC (.int 3)) waNil))) (zab (wC (.bl true)) waNil)))) (wGN 2))
  (zas (wAsg (zan (zcN 199) (zab (wVar 0) (zab (wC (.int 4)) (zab (wVar 1) (zab (wVar 2) waNil))))) (wGN 3)) T)) E D (ae (.scr ns)::x1::x2::x3::τ) S:=by
 walk_at "wp";refine zeA (by decide) λc0=>zeA (by decide) λc1=>znI λaw ws hw0 hws=>?_;obtain⟨w0,w1,w2,w3,w4,w5,rfl,G⟩:=zmE hws;have fw:put S aw (Ob.lst ([w0,w1,w2,w3,w4,w5].map W.str)) aw=ae (.lst (six w0 w1 w2 w3 w4 w5)):=zah;generalize put S aw (Ob.lst ([w0,w1,w2,w3,w4,w5].map W.str))=S1 at fw⊢;refine zeA (by decide) λc2=>zeA (by decide) λc3=>znI λat' tt ht0 htt=>?_;have ft:put S1 at' (Ob.lst (tt.map W.str)) at'=ae (.lst (tt.map W.str)):=zah;replace fw:=keep (x:=Ob.lst (tt.map W.str)) fw ht0;generalize put S1 at' (Ob.lst (tt.map W.str))=S2 at fw ft⊢;refine zvm (r:=192) (zgF htt).len (by decide) fw ft λab B n m hb0 e1 e2 e3=>?_;exact h _ aw at' ab w0 w1 w2 w3 w4 w5 tt B ⟨G,zgF htt,⟨⟨n,m,e1⟩,e2,λt ht=>(e3 t ht).w⟩,keep (x:=Ob.lst (B.map zaW)) fw hb0,keep (x:=Ob.lst (B.map zaW)) ft hb0,zah,zxi e3⟩
section
variable {c d:Int→Nat}
theorem zhK{c d:Int→Nat}(hc:One c) (hd:One d):Ok2 c d:=λx h0 h1=> .inl ⟨hc x h0 h1,hd x h0 h1⟩
end
noncomputable def u1 (B:List Tn) (p:Pl):List (List Int×Str):=zBH (byC 1) (p.ns B [])
mutual
noncomputable def Tr.ord (k:Nat):Tr→Option Nat
 | .bl n=>if n=(k:Int) then ae (k+1) else none
 | .nd _ ts=>zpr k ts
noncomputable def zpr (k:Nat):List Tr→Option Nat
 | []=>ae k
 |t::ts=>match t.ord k with
  |some m=>zpr m ts
  |none=>none
end
def zzZ (B:List Tn) (z:Str):Prop:=∀u∈B,∀s ls,u.2.1= .nd s ls→s≠z
structure Ort (B:List Tn):Prop where
  inn:∀t∈B,∃s ls,t.2.1= .nd s ls∧hbs (zzZ B) ls
  mt:zzY B
  fm:∀t∈B,∀x ys,t.2.1.mt x=ae ys→x=t.2.1.fill ys∧ys.length=t.2.1.nb
  one:∀u∈B,∀v∈B,∀x:Tr,(u.2.1.mt x).isSome=true→(v.2.1.mt x).isSome=true→u=v
  od:∀t∈B,t.2.1.ord 0=ae t.2.1.nb
mutual
theorem zuP:∀(L x:Tr) (ys:List Tr) (k m:Nat),L.ord k=ae m→L.mt x=ae ys→ys.length+k=m∧ ∀pre post:List Tr,pre.length=k→L.fill (pre++ys++post)=x
 | .bl n,x,ys,k,m,h,e=>by
  rw[Tr.ord]at h;split at h
  ·rename_i hn;cases h;rw[Tr.mt]at e;cases e;refine⟨by simp;omega,λpre post hp=>?_⟩;rw[Tr.fill,hn,cx,bt,bN,iF (by omega),hp,hU];rfl
  ·cases h
 | .nd s ls, .bl n,ys,k,m,h,e=>by rw[Tr.mt]at e;cases e
 | .nd s ls, .nd z us,ys,k,m,h,e=>by
  rw[Tr.mt]at e;split at e
  ·rename_i hc;rw[bO,beq_iff_eq,beq_iff_eq]at hc;rw[Tr.ord]at h;obtain⟨h1,h2⟩:=zsg ls us ys k m hc.2 h e;exact⟨h1,λpre post hp=>by rw[Tr.fill,h2 pre post hp,hc.1]⟩
  ·cases e
theorem zsg:∀(ls us ys:List Tr) (k m:Nat),ls.length=us.length→zpr k ls=ae m→mts ls us=ae ys→ys.length+k=m∧ ∀pre post:List Tr,pre.length=k→fills (pre++ys++post) ls=us
 | [],us,ys,k,m,hl,h,e=>by
  rw[zpr]at h;cases h;rw[mts]at e;cases e;cases us with
  |nil=>exact⟨by simp,λ_ _ _=>by rw[fills]⟩
  |cons _ _=>cases hl
 |l::ls,[],ys,k,m,hl,h,e=>by cases hl
 |l::ls,u::us,ys,k,m,hl,h,e=>by
  rw[zpr]at h;rw[mts]at e;cases q:l.ord k with
  |none=>rw[q]at h;cases h
  |some j=>
   rw[q]at h;cases q1:l.mt u with
   |none=>rw[q1]at e;cases e
   |some xs=>
    rw[q1]at e;cases q2:mts ls us with
    |none=>rw[q2]at e;cases e
    |some zs=>
     rw[q2]at e;cases e;obtain⟨h1,h2⟩:=zuP l u xs k j q q1;obtain⟨h3,h4⟩:=zsg ls us zs j m (by simpa using hl) h q2;refine⟨by rw[aY];omega,λpre post hp=>?_⟩;rw[fills];have e1:=h2 pre (zs++post) hp;have e2:=h4 (pre++xs) post (by rw[aY];omega);have a1:pre++(xs++zs)++post=pre++xs++(zs++post):=by simp
     have a2:pre++(xs++zs)++post=pre++xs++zs++post:=by simp
     rw[a1,e1,←a1,a2,e2]
end
theorem zoc{n:Nat}{h c d:Str}{L:Tr}(hL:L∈leftsL n h c d):L.ord 0=ae L.nb:=by
 unfold leftsL at hL;split at hL<;>simp only[av,bw,or_false]at hL
 all_goals first
  | (subst hL;simp [Tr.ord,zpr,Tr.nb,nbs])
  | (rcases hL with rfl |rfl<;>simp [Tr.ord,zpr,Tr.nb,nbs])
theorem zho{n:Nat}{h c d:Str}{P:Str→Prop}(hc:P c) (hd:P d) {L:Tr}(hL:L∈leftsL n h c d):∃ls,L= .nd h ls∧hbs P ls:=by
 unfold leftsL at hL;split at hL<;>simp only[av,bw,or_false]at hL
 all_goals first
  | (subst hL;exact⟨_,rfl,by simp [hbs,Tr.hb,hc,hd]⟩)
  | (rcases hL with rfl |rfl<;>exact⟨_,rfl,by simp [hbs,Tr.hb,hc,hd]⟩)
section
variable {w0 w1 w2 w3 w4 w5:Str}{tt:List Str}{B:List Tn}
theorem BookOk.mem_lefts (b:BookOk w0 w1 w2 w3 w4 w5 tt B) {t:Tn}(ht:t∈B):∃n,t.2.1∈leftsL n w0 w2 w3∨t.2.1∈leftsL n w1 w2 w3:=by
 obtain⟨n,m,e⟩:=b.lf;have:t.2.1∈leftsL n w0 w2 w3++leftsL m w1 w2 w3:=by rw[←e];exact aU.mpr ⟨t,ht,rfl⟩
 rcases bh.mp this with z |z
 ·exact⟨n, .inl z⟩
 ·exact⟨m, .inr z⟩
theorem BookOk.ort (b:BookOk w0 w1 w2 w3 w4 w5 tt B) (G:Signs w0 w1 w2 w3 w4 w5):Ort B:=by
 have top:∀z,z≠w0→z≠w1→zzZ B z:=λz h0 h1 u hu s ls e=>by
  obtain⟨n,z |z⟩:=b.mem_lefts hu
  ·obtain⟨l,e',_⟩:=zho (P:=λ_=>True) trivial trivial z;rw[e]at e';cases e';exact h0.symm
  ·obtain⟨l,e',_⟩:=zho (P:=λ_=>True) trivial trivial z;rw[e]at e';cases e';exact h1.symm
 have t2:=top w2 (G.n0 w2 (by simp)).symm (G.n1 w2 (by simp)).symm;have t3:=top w3 (G.n0 w3 (by simp)).symm (G.n1 w3 (by simp)).symm;have od:∀t∈B,t.2.1.ord 0=ae t.2.1.nb:=λt ht=>by
  obtain⟨n,z |z⟩:=b.mem_lefts ht
  ·exact zoc z
  ·exact zoc z
 refine⟨λt ht=>?_,b.mt,λt ht x ys e=>?_,λu hu v hv x h1 h2=>zsq (b.inj G) hu hv (b.one G hu hv h1 h2),od⟩
 ·obtain⟨n,z |z⟩:=b.mem_lefts ht
  ·obtain⟨l,e',h⟩:=zho t2 t3 z;exact⟨_,_,e',h⟩
  ·obtain⟨l,e',h⟩:=zho t2 t3 z;exact⟨_,_,e',h⟩
 ·have ho:=od t ht;obtain⟨h1,h2⟩:=zuP _ _ _ _ _ ho e;have:=h2 [] [] rfl;simp only[aR,bG]at this;exact⟨this.symm,by omega⟩
end
structure Wy (ws:List Str) (B:List Tn) (a:Tr):Prop where
  hd:a.hd λs=>s∈ws∨ ∃t∈B,t.1=s
  ar:a.ar B
noncomputable abbrev src (B:List Tn) (a:Tr):Tr:=a.mk B λt=>t.2.1
noncomputable abbrev gol (B:List Tn) (a:Tr):Tr:=a.mk B λt=>t.2.2
section
variable {ws:List Str}{B:List Tn}
theorem zmx{P:Str→Prop}:∀{ts:List Tr}{t:Tr},hds P ts→t∈ts→t.hd P
 |u::ts,t,h,ht=>by
  rw[hds]at h;rcases av.mp ht with rfl |ht
  ·exact h.1
  ·exact zmx h.2 ht
theorem zlL:∀{ts:List Tr}{t:Tr},ars B ts→t∈ts→t.ar B
 |u::ts,t,h,ht=>by
  rw[ars]at h;rcases av.mp ht with rfl |ht
  ·exact h.1
  ·exact zlL h.2 ht
theorem Wy.cases (b:BkOk ws ws B) {a:Tr}(h:Wy ws B a):(∃s as,a= .nd s as∧s∈ws∧zaN B s=none∧ ∀x∈as,Wy ws B x)∨(∃t as,t∈B∧a= .nd t.1 as∧zaN B t.1=ae t∧as.length=t.2.1.nb∧ ∀x∈as,Wy ws B x):=by
 obtain⟨h1,h2⟩:=h;cases a with
 |bl n=>rw[Tr.hd]at h1;exact h1.elim
 |nd s as=>
  rw[Tr.hd]at h1;rw[Tr.ar]at h2;have kids:∀x∈as,Wy ws B x:=λx hx=>⟨zmx h1.2 hx,zlL h2.2 hx⟩;rcases h1.1 with h |⟨t,ht,rfl⟩
  ·exact .inl ⟨s,as,rfl,h,zbl b.ti (b.sg s h),kids⟩
  ·have e:=zcW b.nd ht;exact .inr ⟨t,as,ht,rfl,e,h2.1 t e,kids⟩
theorem zdQ{g:Tn→Tr}{s:Str}{as:List Tr}(h:zaN B s=none):(Tr.nd s as).mk B g= .nd s (as.map (Tr.mk B g)):=by
 rw[Tr.mk,h,zgA]
theorem zds{g:Tn→Tr}{t:Tn}{as:List Tr}(h:zaN B t.1=ae t):(Tr.nd t.1 as).mk B g=(g t).fill (as.map (Tr.mk B g)):=by
 rw[Tr.mk,h,zgA]
mutual
theorem zyg (b:BkOk ws ws B) (O:Ort B):∀(L a:Tr),L.hb (zzZ B)→Wy ws B a→(L.mt (src B a)).isSome=true→(L.mt a).isSome=true
 | .bl n,a,_,_,_=>by rw[Tr.mt];rfl
 | .nd z ls,a,hL,ha,h=>by
  rw[Tr.hb]at hL;rcases ha.cases b with⟨s,as,rfl,hs,e,kids⟩ |⟨t,as,ht,rfl,e,hl,kids⟩
  ·rw[show src B (.nd s as)= .nd s (as.map (src B)) from zdQ e,Tr.mt,aq]at h;rw[Tr.mt];split at h
   ·rename_i hc;rw[if_pos hc];exact zmC b O ls as hL.2 kids h
   ·cases h
  ·obtain⟨s0,l0,e0,_⟩:=O.inn t ht;rw[show src B (.nd t.1 as)=t.2.1.fill (as.map (src B)) from zds e,e0,Tr.fill]at h;exact absurd (zhH h).symm (hL.1 t ht s0 l0 e0)
theorem zmC (b:BkOk ws ws B) (O:Ort B):∀(ls as:List Tr),hbs (zzZ B) ls→(∀x∈as,Wy ws B x)→(mts ls (as.map (src B))).isSome=true→(mts ls as).isSome=true
 | [],as,_,_,_=>by rw[mts];rfl
 |l::ls,[],_,_,_=>by rw[mts];rfl
 |l::ls,a::as,hL,ha,h=>by
  rw[hbs]at hL;rw[az,mts]at h;cases q1:l.mt (src B a) with
  |none=>rw[q1]at h;cases h
  |some xs=>
   rw[q1]at h;cases q2:mts ls (as.map (src B)) with
   |none=>rw[q2]at h;cases h
   |some zs=>
    have h1:=zyg b O l a hL.1 (ha a (by simp)) (by rw[q1];rfl);have h2:=zmC b O ls as hL.2 (λx hx=>ha x (aG _ hx)) (by rw[q2];rfl);obtain⟨x1,h1⟩:=dh.mp h1;obtain⟨x2,h2⟩:=dh.mp h2;rw[mts,h1,h2];rfl
end
end
section
variable {ws:List Str}{B:List Tn}
theorem Wy.kids{s:Str}{as:List Tr}(h:Wy ws B (.nd s as)):∀x∈as,Wy ws B x:=λx hx=>by
 obtain⟨h1,h2⟩:=h;rw[Tr.hd]at h1;rw[Tr.ar]at h2;exact⟨zmx h1.2 hx,zlL h2.2 hx⟩
mutual
theorem zvP:∀(L a:Tr) (ys:List Tr),L.mt a=ae ys→Wy ws B a→ ∀y∈ys,Wy ws B y
 | .bl n,a,ys,e,h,y,hy=>by
  rw[Tr.mt]at e;cases e;rw[bg]at hy;rw[hy];exact h
 | .nd s ls, .bl n,ys,e,h,y,hy=>by rw[Tr.mt]at e;cases e
 | .nd s ls, .nd z us,ys,e,h,y,hy=>by
  rw[Tr.mt]at e;split at e
  ·exact zun ls us ys e h.kids y hy
  ·cases e
theorem zun:∀(ls us ys:List Tr),mts ls us=ae ys→(∀x∈us,Wy ws B x)→ ∀y∈ys,Wy ws B y
 | [],us,ys,e,h,y,hy=>by rw[mts]at e;cases e;cases hy
 |l::ls,[],ys,e,h,y,hy=>by rw[mts]at e;cases e;cases hy
 |l::ls,u::us,ys,e,h,y,hy=>by
  rw[mts]at e;cases q1:l.mt u with
  |none=>rw[q1]at e;cases e
  |some xs=>
   rw[q1]at e;cases q2:mts ls us with
   |none=>rw[q2]at e;cases e
   |some zs=>
    rw[q2]at e;cases e;rcases bh.mp hy with hy |hy
    ·exact zvP l u xs q1 (h u (by simp)) y hy
    ·exact zun ls us zs q2 (λx hx=>h x (aG _ hx)) y hy
end
theorem zoB (b:BkOk ws ws B) {t:Tn}(ht:t∈B) {vs:List Tr}(hl:vs.length=t.2.1.nb) (g:Tn→Tr):(t.2.1.fill vs).mk B g=t.2.1.fill (vs.map (Tr.mk B g)):=
 zjH b.ti _ (b.lf t ht).hb (by rw[hl];exact(b.lf t ht).fits)
theorem zfu (b:BkOk ws ws B) (O:Ort B) {t:Tn}(ht:t∈B) {s:Str}{bs us:List Tr}(e:zaN B s=none) (hw:Wy ws B (.nd s bs)) (hl:us.length=t.2.1.nb) (h:src B (.nd s bs)=t.2.1.fill us) :
  ∃vs, .nd s bs=t.2.1.fill vs∧vs.length=t.2.1.nb∧vs.map (src B)=us∧(∀x∈vs,Wy ws B x)∧wts vs≤(Tr.nd s bs).weight:=by
 obtain⟨s0,ls,e0,hin⟩:=O.inn t ht;have hm:t.2.1.mt (src B (.nd s bs))=ae us:=by rw[h];exact O.mt t ht us hl
 have h1:(t.2.1.mt (.nd s bs)).isSome=true:=by
  have hm':=hm;rw[show src B (.nd s bs)= .nd s (bs.map (src B)) from zdQ e,e0,Tr.mt,aq]at hm';rw[e0,Tr.mt];split at hm'
  ·rename_i hc;rw[if_pos hc];exact zmC b O ls bs hin hw.kids (by rw[hm'];rfl)
  ·cases hm'
 obtain⟨vs,hv⟩:=dh.mp h1;obtain⟨h2,h3⟩:=O.fm t ht _ _ hv;refine⟨vs,h2,h3,?_,zvP _ _ _ hv hw,zki _ _ _ hv⟩;rw[h2,show src B (t.2.1.fill vs)=_ from zoB b ht h3 _,O.mt t ht _ (by rw[aq,h3])]at hm;exact aE hm
theorem zgi{s:Str}{as:List Tr}:(Tr.nd s as).weight=1+wts as:=by rw[Tr.weight]
inductive PlB (P:Int→Prop):Pl→Prop
 |sign {b:Int}{h:Str}{ps:List Pl}:(∀p∈ps,PlB P p)→PlB P (.nd (-1) b h ps)
 |turn {k:Nat}{b:Int}{h:Str}{ps:List Pl}:P b→(∀p∈ps,PlB P p)→PlB P (.nd k b h ps)
def zyi (x:Int):Prop:=x=1∨x=2∨x=3
theorem zsI (b:BkOk ws ws B) (O:Ort B):∀(n:Nat) (x y:Tr),x.weight+y.weight≤n→Wy ws B x→Wy ws B y→src B x=src B y→ ∃p,PlOk ws B p∧PlB zyi p∧p.ev B (byC 1)=x∧p.ev B (byC 2)=y
 |0,x,y,hn,hx,hy,e=>by
  rcases hx.cases b with⟨s,as,rfl,_⟩ |⟨t,as,_,rfl,_⟩<;>rw[zgi]at hn<;>omega
 |n+1,x,y,hn,hx,hy,e=>by
  have lists:∀(xs ys:List Tr),wts xs+wts ys≤n→(∀x∈xs,Wy ws B x)→(∀y∈ys,Wy ws B y)→xs.map (src B)=ys.map (src B)→ ∃ps:List Pl,(∀p∈ps,PlOk ws B p)∧(∀p∈ps,PlB zyi p)∧ps.map (Pl.ev B (byC 1))=xs∧ps.map (Pl.ev B (byC 2))=ys:=by
   intro xs
   induction xs with
   |nil=>
    intro ys _ _ _ e;cases ys with
    |nil=>exact⟨[],by simp,by simp,rfl,rfl⟩
    |cons y ys=>cases e
   |cons x xs ih=>
    intro ys hw h1 h2 e;cases ys with
    |nil=>cases e
    |cons y ys=>
     rw[az,az,kO]at e;rw[wts,wts]at hw;obtain⟨p,hp,hq,e1,e2⟩:=zsI b O n x y (by omega) (h1 x (by simp)) (h2 y (by simp)) e.1;obtain⟨ps,hps,hqs,e3,e4⟩:=ih ys (by omega) (λz hz=>h1 z (aG _ hz)) (λz hz=>h2 z (aG _ hz)) e.2;exact⟨p::ps,λq hq=>by
      rcases av.mp hq with rfl |hq
      ·exact hp
      ·exact hps q hq,λq hz=>by
      rcases av.mp hz with rfl |hz
      ·exact hq
      ·exact hqs q hz,by rw[az,e1,e3],by rw[az,e2,e4]⟩
  rcases hx.cases b with⟨s,as,rfl,hs,es,ka⟩ |⟨t,as,ht,rfl,et,la,ka⟩
  ·rcases hy.cases b with⟨s',bs,rfl,hs',es',kb⟩ |⟨t,bs,ht,rfl,et,lb,kb⟩
   ·rw[show src B (.nd s as)=_ from zdQ es,show src B (.nd s' bs)=_ from zdQ es']at e;injection e with e1 e2;subst e1;rw[zgi,zgi]at hn;obtain⟨ps,hps,hqs,e3,e4⟩:=lists as bs (by omega) ka kb e2;exact⟨.nd (-1) 0 s ps, .sign hs hps, .sign hqs,by rw[zbY,e3],by rw[zbY,e4]⟩
   ·rw[show src B (.nd t.1 bs)=_ from zds et]at e;obtain⟨vs,ev,lv,ms,kv,wv⟩:=zfu b O ht es hx (by rw[aq,lb]) e;rw[zgi (s:=t.1)]at hn;obtain⟨ps,hps,hqs,e3,e4⟩:=lists vs bs (by omega) kv kb ms;obtain⟨k,hk⟩:=gE ht;refine⟨.nd k 2 t.1 ps, .turn hk (by rw[←lb,←e4,aq]) (by decide) (by decide) hps, .turn (by unfold zyi;decide) hqs,?_,?_⟩
    ·rw[zbn hk,e3,ev,show byC 1 2=0 by decide];rfl
    ·rw[zbn hk,e4,show byC 2 2=1 by decide];rfl
  ·rcases hy.cases b with⟨s,bs,rfl,hs,es,kb⟩ |⟨u,bs,hu,rfl,eu,lb,kb⟩
   ·rw[show src B (.nd t.1 as)=_ from zds et]at e;obtain⟨vs,ev,lv,ms,kv,wv⟩:=zfu b O ht es hy (by rw[aq,la]) e.symm;rw[zgi (s:=t.1)]at hn;obtain⟨ps,hps,hqs,e3,e4⟩:=lists as vs (by omega) ka kv ms.symm;obtain⟨k,hk⟩:=gE ht;refine⟨.nd k 1 t.1 ps, .turn hk (by rw[←la,←e3,aq]) (by decide) (by decide) hps, .turn (by unfold zyi;decide) hqs,?_,?_⟩
    ·rw[zbn hk,e3,show byC 1 1=1 by decide];rfl
    ·rw[zbn hk,e4,ev,show byC 2 1=0 by decide];rfl
   ·rw[show src B (.nd t.1 as)=_ from zds et,show src B (.nd u.1 bs)=_ from zds eu]at e;have m1:=O.mt t ht (as.map (src B)) (by rw[aq,la]);have m2:=O.mt u hu (bs.map (src B)) (by rw[aq,lb]);have:t=u:=O.one t ht u hu _ (by rw[m1];rfl) (by rw[show(t.2.1.fill (as.map (src B)))=_ from e,m2];rfl)
    subst this;have e2:as.map (src B)=bs.map (src B):=by
     rw[show(t.2.1.fill (as.map (src B)))=_ from e,m2]at m1;exact(aE m1).symm
    rw[zgi,zgi]at hn;obtain⟨ps,hps,hqs,e3,e4⟩:=lists as bs (by omega) ka kb e2;obtain⟨k,hk⟩:=gE ht;refine⟨.nd k 3 t.1 ps, .turn hk (by rw[←la,←e3,aq]) (by decide) (by decide) hps, .turn (by unfold zyi;decide) hqs,?_,?_⟩
    ·rw[zbn hk,e3,show byC 1 3=1 by decide];rfl
    ·rw[zbn hk,e4,show byC 2 3=1 by decide];rfl
end
theorem zsv:∀xs ys:List Tr,wts (xs++ys)=wts xs+wts ys
 | [],ys=>by rw[aR,wts,cL]
 |x::xs,ys=>by rw[dG,wts,wts,zsv xs ys,jD]
mutual
theorem zjd:∀(L:Tr) (k m:Nat),L.ord k=ae m→k≤m∧L.nb+k=m∧ ∀(us:List Tr),m≤us.length→(L.fill us).weight+(m - k)=L.weight+wts ((us.drop k).take (m - k))∧ ∀u∈(us.drop k).take (m - k),u.depth≤(L.fill us).depth
 | .bl n,k,m,h=>by
  rw[Tr.ord]at h;split at h
  ·rename_i hn;cases h;refine⟨by omega,by rw[Tr.nb];omega,λus hu=>?_⟩
   have hk:k<us.length:=by omega
   have e:(us.drop k).take (k+1 - k)=[us[k]]:=by
    rw[show k+1 - k=1 by omega,fi hk]
    rfl
   have f:(Tr.bl n).fill us=us[k]:=by
    rw[Tr.fill,hn,cx,bt,aQ hk];rfl
   rw[e,f];refine⟨?_,λu hu=>?_⟩
   ·simp only[Tr.weight,wts];omega
   ·rw[bg]at hu;rw[hu];exact au _
  ·cases h
 | .nd s ls,k,m,h=>by
  rw[Tr.ord]at h;obtain⟨h1,h2,h3⟩:=zfV ls k m h;refine⟨h1,by rw[Tr.nb];exact h2,λus hu=>?_⟩
  obtain⟨h4,h5⟩:=h3 us hu;rw[Tr.fill,Tr.weight,Tr.weight,Tr.depth];exact⟨by omega,λu hu'=>bi (h5 u hu') (by omega)⟩
theorem zfV:∀(ls:List Tr) (k m:Nat),zpr k ls=ae m→k≤m∧nbs ls+k=m∧ ∀(us:List Tr),m≤us.length→wts (fills us ls)+(m - k)=wts ls+wts ((us.drop k).take (m - k))∧ ∀u∈(us.drop k).take (m - k),u.depth≤dts (fills us ls)
 | [],k,m,h=>by
  rw[zpr]at h;cases h;refine⟨au _,by rw[nbs];omega,λus _=>?_⟩
  rw[hU,kz,fills];exact⟨rfl,λu hu=>by cases hu⟩
 |l::ls,k,m,h=>by
  rw[zpr]at h;cases q:l.ord k with
  |none=>rw[q]at h;cases h
  |some j=>
   rw[q]at h;obtain⟨h1,h2,h3⟩:=zjd l k j q;obtain⟨g1,g2,g3⟩:=zfV ls j m h;refine⟨by omega,by rw[nbs];omega,λus hu=>?_⟩
   obtain⟨h4,h5⟩:=h3 us (by omega);obtain⟨g4,g5⟩:=g3 us hu;have e:(us.drop k).take (m - k)=(us.drop k).take (j - k)++(us.drop j).take (m - j):=by
    rw[show m - k=(j - k)+(m - j) by omega,km,jp,show k+(j - k)=j by omega]
   rw[e,zsv,fills,wts,wts,dts];refine⟨by omega,λu hu=>?_⟩;rcases bh.mp hu with hu |hu
   ·have:=h5 u hu;omega
   ·have:=g5 u hu;omega
end
theorem zpL:∀(L:Tr),L.nb≤L.weight:=λL=>by rw[←zzb];exact zxh L
theorem zqF:∀ls:List Tr,nbs ls≤wts ls
 | []=>by rw[nbs,wts];exact au _
 |l::ls=>by rw[nbs,wts];have:=zpL l;have:=zqF ls;omega
section
variable {B:List Tn}
theorem Ort.fill (O:Ort B) {t:Tn}(ht:t∈B) {us:List Tr}(hl:us.length=t.2.1.nb):(t.2.1.fill us).weight+t.2.1.nb=t.2.1.weight+wts us∧1+wts us≤(t.2.1.fill us).weight∧1+dts us≤(t.2.1.fill us).depth:=by
 obtain⟨s,ls,e,_⟩:=O.inn t ht;have ho:=O.od t ht;obtain⟨_,h2,h3⟩:=zjd _ _ _ ho;obtain⟨h4,_⟩:=h3 us (by omega);rw[dI,c6,cw (by omega)]at h4;have hw:1+t.2.1.nb≤t.2.1.weight:=by
  rw[e,Tr.nb,Tr.weight];have:=zqF ls;omega
 refine⟨h4,by omega,?_⟩
 rw[e]at ho hl⊢;rw[Tr.ord]at ho;obtain⟨_,_,g3⟩:=zfV _ _ _ ho;obtain⟨_,g5⟩:=g3 us (by omega);rw[dI,c6,cw (by omega)]at g5;rw[Tr.fill,Tr.depth];have:=zuw g5;omega
noncomputable def zr:Int→Nat:=λ_=>0
end
section
variable {B:List Tn}
mutual
noncomputable def Tr.ne (B:List Tn):Tr→Nat
 | .bl _=>0
 | .nd s ts=>(match zaN B s with
  |none=>0
  |some _=>1)+nes B ts
noncomputable def nes (B:List Tn):List Tr→Nat
 | []=>0
 |t::ts=>max (t.ne B) (nes B ts)
end
theorem zlU{t:Tr}:∀{ts:List Tr},t∈ts→t.ne B≤nes B ts
 |u::ts,h=>by
  rw[nes];rcases av.mp h with rfl |h
  ·omega
  ·have:=zlU h;omega
theorem ziz{n:Nat}:∀{ts:List Tr},(∀t∈ts,t.ne B≤n)→nes B ts≤n
 | [],_=>by rw[nes];omega
 |t::ts,h=>by
  rw[nes];have:=h t (by simp);have:=ziz λu hu=>h u (aG _ hu);omega
mutual
theorem zjM (hB:∀t∈B,zdb t.1) {us:List Tr}:∀t:Tr,t.hb zct→(t.fill us).ne B≤nes B us
 | .bl n,_=>by
  rw[Tr.fill,bt];cases e:us[n.toNat]? with
  |none=>simp [Tr.ne]
  |some u=>exact zlU (bE e)
 | .nd s ts,h=>by
  rw[Tr.hb]at h;rw[Tr.fill,Tr.ne,zbl hB h.1];have:=znn hB (us:=us) ts h.2;simpa using this
theorem znn (hB:∀t∈B,zdb t.1) {us:List Tr}:∀ts:List Tr,hbs zct ts→nes B (fills us ts)≤nes B us
 | [],_=>by rw[fills,nes];omega
 |t::ts,h=>by
  rw[hbs]at h;rw[fills,nes];have:=zjM hB (us:=us) t h.1;have:=znn hB (us:=us) ts h.2;omega
end
mutual
theorem zuS:∀(L:Tr) (k m:Nat),L.ord k=ae m→ ∀(us:List Tr),m≤us.length→ ∀u∈(us.drop k).take (m - k),u.ne B≤(L.fill us).ne B
 | .bl n,k,m,h,us,hu,u,hm=>by
  rw[Tr.ord]at h;split at h
  ·rename_i hn;cases h;have hk:k<us.length:=by omega
   have e:(us.drop k).take (k+1 - k)=[us[k]]:=by
    rw[show k+1 - k=1 by omega,fi hk]
    rfl
   have f:(Tr.bl n).fill us=us[k]:=by
    rw[Tr.fill,hn,cx,bt,aQ hk];rfl
   rw[e,bg]at hm;rw[f,hm];exact au _
  ·cases h
 | .nd s ls,k,m,h,us,hu,u,hm=>by
  rw[Tr.ord]at h;have:=zrO ls k m h us hu u hm;rw[Tr.fill,Tr.ne];omega
theorem zrO:∀(ls:List Tr) (k m:Nat),zpr k ls=ae m→ ∀(us:List Tr),m≤us.length→ ∀u∈(us.drop k).take (m - k),u.ne B≤nes B (fills us ls)
 | [],k,m,h,us,hu,u,hm=>by
  rw[zpr]at h;cases h;rw[hU,kz]at hm;cases hm
 |l::ls,k,m,h,us,hu,u,hm=>by
  rw[zpr]at h;cases q:l.ord k with
  |none=>rw[q]at h;cases h
  |some j=>
   rw[q]at h;obtain⟨h1,_,_⟩:=zjd l k j q;obtain⟨g1,_,_⟩:=zfV ls j m h;have e:(us.drop k).take (m - k)=(us.drop k).take (j - k)++(us.drop j).take (m - j):=by
    rw[show m - k=(j - k)+(m - j) by omega,km,jp,show k+(j - k)=j by omega]
   rw[e]at hm;rw[fills,nes];rcases bh.mp hm with hm |hm
   ·have:=zuS l k j q us (by omega) u hm;omega
   ·have:=zrO ls j m h us hu u hm;omega
end
theorem Ort.ne (O:Ort B) {t:Tn}(ht:t∈B) {us:List Tr}(hl:us.length=t.2.1.nb):nes B us≤(t.2.1.fill us).ne B:=ziz λu hu=>by
 refine zuS _ _ _ (O.od t ht) us (by omega) u ?_;rw[dI,c6,cw (by omega)];exact hu
theorem zpG{c:Int→Nat}{p:Pl}{ps:List Pl}(hp:p∈ps):(p.ev B c).ne B≤nes B (ps.map (Pl.ev B c)):=zlU (aU.mpr ⟨p,hp,rfl⟩)
theorem zwz{c d:Int→Nat}(b:BkOk ws ws B) (O:Ort B) (hc:One c) (hd:One d) {p:Pl}(h:PlOk ws B p):(p.ev B (zlD c d)).ne B≤(p.ev B c).ne B:=by
 induction h with
 | @sign b' h ps hh hp ih=>
  have:nes B (ps.map (Pl.ev B (zlD c d)))≤nes B (ps.map (Pl.ev B c)):=ziz λu hu=>by
   obtain⟨p,hp,rfl⟩:=aU.mp hu;exact bi (ih p hp) (zpG hp)
  have e:=zbl b.ti (b.sg h hh);rw[zbY,zbY,Tr.ne,Tr.ne,e];simpa using this
 | @turn k b' h ps t e hl b0 b1 hp ih=>
  have ht:t∈B:=bE e;have key:nes B (ps.map (Pl.ev B (zlD c d)))≤nes B (ps.map (Pl.ev B c)):=ziz λu hu=>by
   obtain⟨p,hp,rfl⟩:=aU.mp hu;exact bi (ih p hp) (zpG hp)
  have l1:(ps.map (Pl.ev B c)).length=t.2.1.nb:=by rw[aq,hl]
  have low:nes B (ps.map (Pl.ev B c))+c b'≤(evT t (c b') (ps.map (Pl.ev B c))).ne B:=by
   have:=hc b' b0 b1;by_cases h1:c b'=1
   ·rw[h1];show _≤(Tr.nd t.1 _).ne B;rw[Tr.ne,zcW b.nd ht];show _≤1+_;omega
   ·rw[show c b'=0 by omega]
    exact O.ne ht l1
  rw[zbn e,zbn e];refine bi ?_ low;have hp:zlD c d b'=if d b'=1 then 2 else c b':=rfl;rw[hp];by_cases dz:d b'=1
  ·rw[if_pos dz];have:=zjM b.ti (us:=ps.map (Pl.ev B (zlD c d))) t.2.2 ((b.ri t ht).hb b.sg);show(t.2.2.fill _).ne B≤_;omega
  ·rw[if_neg dz];have:=hc b' b0 b1;by_cases h1:c b'=1
   ·rw[h1];show(Tr.nd t.1 _).ne B≤_;rw[Tr.ne,zcW b.nd ht];show 1+_≤_;omega
   ·rw[show c b'=0 by omega]
    have:=zjM b.ti (us:=ps.map (Pl.ev B (zlD c d))) t.2.1 (b.lf t ht).hb;show(t.2.1.fill _).ne B≤_;omega
end
mutual
theorem Mv.one{B:List Tn}:∀{n m:Nat}{a b c d:Tr},Mv B n a b c→Mv B m a b d→c=d
 |_,_,_,_,_,_, .nn h1 h2 h3,g=>by
  cases g with
  |nn g1 g2 g3=>rw[Mvs.one h3 g3]
  |ns g1 g2 g3 g4 g5=>rw[h2]at g2;cases g2
  |sn g1 g2 g3 g4=>rw[h1]at g1;cases g1
  |ss g1 g2 g3 g4=>rw[h1]at g1;cases g1
 |_,_,_,_,_,_, .ns h1 h2 h3 h4 h5,g=>by
  cases g with
  |nn g1 g2 g3=>rw[h2]at g2;cases g2
  |ns g1 g2 g3 g4 g5=>
   rw[h2]at g2;cases g2;rw[h3]at g3;cases g3;rw[Mvs.one h5 g5]
  |sn g1 g2 g3 g4=>rw[h1]at g1;cases g1
  |ss g1 g2 g3 g4=>rw[h1]at g1;cases g1
 |_,_,_,_,_,_, .sn h1 h2 h3 h4,g=>by
  cases g with
  |nn g1 g2 g3=>rw[h1]at g1;cases g1
  |ns g1 g2 g3 g4 g5=>rw[h1]at g1;cases g1
  |sn g1 g2 g3 g4=>
   rw[h1]at g1;cases g1;rw[h3]at g3;cases g3;rw[Mvs.one h4 g4]
  |ss g1 g2 g3 g4=>rw[h2]at g2;cases g2
 |_,_,_,_,_,_, .ss h1 h2 h3 h4,g=>by
  cases g with
  |nn g1 g2 g3=>rw[h1]at g1;cases g1
  |ns g1 g2 g3 g4 g5=>rw[h1]at g1;cases g1
  |sn g1 g2 g3 g4=>rw[h2]at g2;cases g2
  |ss g1 g2 g3 g4=>
   rw[h2]at g2;cases g2;rw[Mvs.one h4 g4]
theorem Mvs.one{B:List Tn}:∀{n m:Nat}{a b c d:List Tr},Mvs B n a b c→Mvs B m a b d→c=d
 |_,_,_,_,_,_, .nil,g=>by
  cases g;rfl
 |_,_,_,_,_,_, .cons h1 h2,g=>by
  cases g with
  |cons g1 g2=>rw[Mv.one h1 g1,Mvs.one h2 g2]
end
open Classical in
noncomputable def res (B:List Tn) (x y:Tr):Tr:=if h:∃z n,Mv B n x y z then choose h else x
theorem Mv.res{B:List Tn}{n:Nat}{x y z:Tr}(h:Mv B n x y z):res B x y=z:=by
 unfold L2.res;have e:∃z n,Mv B n x y z:=⟨z,n,h⟩;rw[dif_pos e];obtain⟨m,h'⟩:=kJ e;exact Mv.one h' h
structure Bk3 (ws:List Str) (B:List Tn):Prop where
  b:BkOk ws ws B
  O:Ort B
  lw:∀t∈B,t.2.1.hb λs=>s∈ws
structure Bk2 (ws:List Str) (B:List Tn):Prop extends Bk3 ws B where
  sl:Slim B
instance {ws:List Str}{B:List Tn}:Coe (Bk2 ws B) (Bk3 ws B):=⟨Bk2.toBk3⟩
theorem BookOk.bk2{w0 w1 w2 w3 w4 w5:Str}{tt:List Str}{B:List Tn}(b:BookOk w0 w1 w2 w3 w4 w5 tt B) (T:Titles tt) (G:Signs w0 w1 w2 w3 w4 w5) (sl:Slim B):Bk2 [w0,w1,w2,w3,w4,w5] B:=by
 have k:=b.bk T G;refine⟨⟨⟨k.ti,k.nd,k.sg,λx hx=>hx,k.lf,k.ri⟩,b.ort G,λt ht=>?_⟩,sl⟩;obtain⟨n,z |z⟩:=b.mem_lefts ht
 ·exact(zgX (P:=λs=>s∈ [w0,w1,w2,w3,w4,w5]) (by simp) (by simp) (by simp) _ z).hb
 ·exact(zgX (P:=λs=>s∈ [w0,w1,w2,w3,w4,w5]) (by simp) (by simp) (by simp) _ z).hb
section
variable {ws:List Str}{B:List Tn}{x y:Tr}{p:Pl}
theorem Bk3.wy (K:Bk3 ws B) {c:Int→Nat}{p:Pl}(h:PlOk ws B p):Wy ws B (p.ev B c):=by
 refine⟨?_,zyS _ (zxT K.b h)⟩
 induction h with
 | @sign b' h ps hh hp ih=>
  rw[zbY,Tr.hd,hds_iff];refine⟨.inl hh,λu hu=>?_⟩;obtain⟨p,hp,rfl⟩:=aU.mp hu;exact ih p hp
 | @turn k b' h ps t e hl b0 b1 hp ih=>
  have ht:t∈B:=bE e;have hu:∀u∈ps.map (Pl.ev B c),u.hd λs=>s∈ws∨ ∃t∈B,t.1=s:=λu hu=>by
   obtain⟨p,hp,rfl⟩:=aU.mp hu;exact ih p hp
  rw[zbn e];unfold evT;split
  ·exact zje hu _ (zst (λs hs=> .inl hs) _ (K.lw t ht)) (by rw[aq,hl];exact(K.b.lf t ht).fits)
  ·rw[Tr.hd,hds_iff];exact⟨.inr ⟨t,ht,rfl⟩,hu⟩
  ·exact zje hu _ ((K.b.ri t ht).hb (λs hs=> .inl hs)) (by rw[aq,hl];exact(K.b.ri t ht).fits)
structure Two (ws:List Str) (B:List Tn) (x y:Tr):Prop where
  K:Bk3 ws B
  ex:∃p c d,Pk ws ws B p∧One c∧One d∧p.ev B c=x∧p.ev B d=y
theorem Two.symm (h:Two ws B x y):Two ws B y x:=by
 obtain⟨p,c,d,k,hc,hd,e1,e2⟩:=h.ex;exact⟨h.K,p,d,c,k,hd,hc,e2,e1⟩
structure Moved (ws:List Str) (B:List Tn) (x y z:Tr):Prop where
  wy:Wy ws B z
  sr:src B z=gol B y
  go:gol B z=gol B (res B y x)
  ne:z.ne B≤x.ne B
end
section
variable {ws:List Str}{B:List Tn}{x t:Tr}
structure Bd (t:Tr) (n:Nat):Prop where
  w:2 ^ n*t.weight≤400
  d:t.depth+3*n≤40
theorem zAv (b:BkOk ws ws B) {p:Pl}(h:PlOk ws B p):(p.ev B zr).ne B=0:=by
 induction h with
 | @sign b' h ps hh hp ih=>
  have:nes B (ps.map (Pl.ev B zr))≤0:=ziz λu hu=>by
   obtain⟨p,hp,rfl⟩:=aU.mp hu;rw[ih p hp];exact au _
  have e:=zbl b.ti (b.sg h hh);rw[zbY,Tr.ne,e];show 0+_=0;omega
 | @turn k b' h ps t e hl b0 b1 hp ih=>
  have ht:t∈B:=bE e;have:nes B (ps.map (Pl.ev B zr))≤0:=ziz λu hu=>by
   obtain⟨p,hp,rfl⟩:=aU.mp hu;rw[ih p hp];exact au _
  have:=zjM b.ti (us:=ps.map (Pl.ev B zr)) t.2.1 (b.lf t ht).hb;rw[zbn e];show(t.2.1.fill _).ne B=0;omega
theorem zBZ:∀x:Int,0≤x→x<8→zr x=byC 8 x:=λx h0 h8=>(zsH x h0 h8).symm
theorem Bk3.src (K:Bk3 ws B) (h:Wy ws B x):Wy ws B (src B x)∧L2.src B (src B x)=L2.src B x∧(L2.src B x).ne B=0∧gol B (L2.src B x)=L2.src B x:=by
 obtain⟨p,hp,_,rfl,_⟩:=zsI K.b K.O _ x x (au _) h h rfl;have e:L2.src B (p.ev B (byC 1))=p.ev B zr:=by
  show(p.ev B (byC 1)).mk B (λt=>t.2.1)=_;rw[ziG K.b hp];exact zeN hp (zfA 1).src
 rw[e];refine⟨K.wy hp,?_,zAv K.b hp,?_⟩
 ·show(p.ev B zr).mk B (λt=>t.2.1)=_;rw[ziG K.b hp];rfl
 ·show(p.ev B zr).mk B (λt=>t.2.2)=_;rw[zgs K.b hp];rfl
theorem Bk3.gol (K:Bk3 ws B) (h:Wy ws B x):Wy ws B (gol B x)∧L2.src B (L2.gol B x)=L2.gol B x∧(L2.gol B x).ne B=0∧L2.gol B (L2.gol B x)=L2.gol B x:=by
 obtain⟨p,hp,_,rfl,_⟩:=zsI K.b K.O _ x x (au _) h h rfl;have e:L2.gol B (p.ev B (byC 1))=p.ev B (zeh (byC 1)):=zgs K.b hp;have tg:∀x,zeh (byC 1) x≠1:=λx=>by unfold zeh;split<;>omega
 have s:L2.src B (p.ev B (zeh (byC 1)))=p.ev B (zeh (byC 1)):=by
  show(p.ev B (zeh (byC 1))).mk B (λt=>t.2.1)=_;rw[ziG K.b hp];exact zeN hp λb _ _=>by rw[zmv,if_neg (tg b)]
 have w:Wy ws B (p.ev B (zeh (byC 1))):=K.wy hp;rw[e];refine⟨w,s,?_,?_⟩
 ·have:=(K.src w).2.2.1;rwa [s]at this
 ·have:=(K.src w).2.2.2;rwa [s]at this
end
noncomputable def zeg (B:List Tn):Tr→List Tr→Tr
 |t,[]=>t
 |_,x::xs=>zeg B (gol B x) xs
noncomputable def Roa (ws:List Str) (B:List Tn):Tr→List Tr→Prop
 |_,[]=>True
 |t,x::xs=>Wy ws B x∧src B x=t∧Roa ws B (gol B x) xs
noncomputable def nR (B:List Tn):List Tr→Nat
 | []=>0
 |x::xs=>x.ne B+nR B xs
noncomputable def zep (B:List Tn):Tr→List Tr→List Tr
 |x,[]=>[x]
 |x,o::os=>x::zep B (res B x o) os
noncomputable def zdR (B:List Tn):Tr→List Tr→List Tr
 |_,[]=>[]
 |x,o::os=>res B o x::zdR B (res B x o) os
noncomputable def zcF (B:List Tn):Tr→List Tr→Tr
 |x,[]=>x
 |x,o::os=>zcF B (res B x o) os
noncomputable def zmB (B:List Tn):List Tr→List Tr→List (List Tr)
 | [],_=>[]
 |x::xs,os=>zep B x os::zmB B xs (zdR B x os)
noncomputable def zmm (B:List Tn):List Tr→List Tr→List (List Tr)
 | [],os=>[os]
 |x::xs,os=>os::zmm B xs (zdR B x os)
noncomputable def zbG (B:List Tn):List Tr→List Tr→List Tr
 | [],_=>[]
 |x::xs,os=>zcF B x os::zbG B xs (zdR B x os)
noncomputable def zdO (B:List Tn):List Tr→List Tr→List Tr
 | [],os=>os
 |x::xs,os=>zdO B xs (zdR B x os)
section
variable {ws:List Str}{B:List Tn}
theorem zon:∀(os:List Tr) (x:Tr),(zep B x os).length=os.length+1
 | [],x=>rfl
 |o::os,x=>by rw[zep,aW,zon os];rfl
theorem zjN:∀(os:List Tr) (x:Tr),(zdR B x os).length=os.length
 | [],x=>rfl
 |o::os,x=>by rw[zdR,aW,zjN os];rfl
theorem zkm:∀(os:List Tr) (x:Tr),(zep B x os).getLast? =ae (zcF B x os)
 | [],x=>rfl
 |o::os,x=>by
  rw[zep,List.getLast?_cons,zkm os,zcF];rfl
theorem zjC:∀(xs os:List Tr),(zbG B xs os).length=xs.length
 | [],os=>rfl
 |x::xs,os=>by rw[zbG,aW,zjC xs];rfl
theorem zmM:∀(xs os:List Tr),(zdO B xs os).length=os.length
 | [],os=>rfl
 |x::xs,os=>by rw[zdO,zmM xs,zjN]
theorem Roa.end_wy (K:Bk3 ws B):∀(xs:List Tr) {t:Tr},Roa ws B t xs→Wy ws B t→src B t=t→Wy ws B (zeg B t xs)∧src B (zeg B t xs)=zeg B t xs
 | [],t,_,h,e=>⟨h,e⟩
 |x::xs,t,⟨hx,ex,hr⟩,_,_=>Roa.end_wy K xs hr (K.gol hx).1 (K.gol hx).2.1
end
theorem zgr{α β:Type}{R:α→β→Prop}:∀{xs:List α}{ys:List β}{xs':List α}{ys':List β},aL R xs ys→aL R xs' ys'→aL R (xs++xs') (ys++ys')
 |_,_,_,_, .nil,h=>h
 |_,_,_,_, .cons h1 h2,h=> .cons h1 (zgr h2 h)
theorem zco{α β:Type}{R R':α→β→Prop}(f:∀x y,R x y→R' x y):∀{xs:List α}{ys:List β},aL R xs ys→aL R' xs ys
 |_,_, .nil=> .nil
 |_,_, .cons h1 h2=> .cons (f _ _ h1) (zco f h2)
mutual
theorem zxr:∀(L t:Tr) (ms:List Tr) (p:List Int),L.mt t=ae ms→aL (λ(x:List Int×Tr) m=>∃e,x.1=p++e∧t.at e=ae m) ((L.plt p).filter λx=>x.2.isBl) ms
 | .bl n,t,ms,p,e=>by
  rw[Tr.mt]at e;cases e;rw[Tr.plt];exact .cons ⟨[],by simp,by rw[Tr.at]⟩ .nil
 | .nd s ls, .bl n,ms,p,e=>by rw[Tr.mt]at e;cases e
 | .nd s ls, .nd z us,ms,p,e=>by
  rw[Tr.mt]at e;split at e
  ·rename_i hc;rw[bO,beq_iff_eq,beq_iff_eq]at hc;rw[Tr.plt,jW (by simp [Tr.isBl])];refine zco ?_ (zui ls us ms p 0 hc.2 e);rintro x m ⟨j,e,u,h1,h2,h3⟩;refine⟨(j:Int)::e,by rw[h1,cL],?_⟩
   rw[Tr.at,if_neg (by omega),cx,h2];exact h3
  ·cases e
theorem zui:∀(ls us ms:List Tr) (p:List Int) (i:Nat),ls.length=us.length→mts ls us=ae ms→aL (λ(x:List Int×Tr) m=>∃(j:Nat) (e:List Int) (u:Tr),x.1=p++((i+j:Nat):Int)::e∧us[j]? =ae u∧u.at e=ae m) ((zgQ p i ls).filter λx=>x.2.isBl) ms
 | [],us,ms,p,i,hl,e=>by
  rw[mts]at e;cases e;rw[zgQ];exact .nil
 |l::ls,[],ms,p,i,hl,e=>by cases hl
 |l::ls,u::us,ms,p,i,hl,e=>by
  rw[mts]at e;cases q1:l.mt u with
  |none=>rw[q1]at e;cases e
  |some xs=>
   rw[q1]at e;cases q2:mts ls us with
   |none=>rw[q2]at e;cases e
   |some zs=>
    rw[q2]at e;cases e;rw[zgQ,kh];refine zgr (zco ?_ (zxr l u xs _ q1)) (zco ?_ (zui ls us zs p (i+1) (by simpa using hl) q2))
    ·rintro x m ⟨e,h1,h2⟩;exact⟨0,e,u,by rw[h1];simp,rfl,h2⟩
    ·rintro x m ⟨j,e,v,h1,h2,h3⟩;exact⟨j+1,e,v,by rw[h1,show i+1+j=i+(j+1) by omega],by rw[d_];exact h2,h3⟩
end
theorem zrb{L t:Tr}{ms:List Tr}(h:L.mt t=ae ms):aL (λq m=>t.at q=ae m) (L.bls.map λx=>x.1) ms:=by
 have:=zxr L t ms [] h;clear h;unfold Tr.bls;generalize (L.plt []).filter (λx=>x.2.isBl)=xs at this⊢
 induction this with
 |nil=>exact .nil
 |cons h1 h2 ih=>
  obtain⟨e,h3,h4⟩:=h1;rw[az];rw[aR]at h3;exact .cons (by rw[h3];exact h4) ih
noncomputable def cnt (wn:List (List Int)) (p:List Int):Nat:=wn.countP λq=>p.isPrefixOf q
theorem zpH (wn:List (List Int)) (p q:List Int):cnt wn (p++q)≤cnt wn p:=by
 unfold cnt;refine List.countP_mono_left λx _ h=>?_;obtain⟨e,rfl⟩:=dk.mp h;exact dk.mpr ⟨q++e,by simp⟩
theorem zuA:∀(wn:List (List Int)) (p:List Int) (i:Int) (q:List Int),p∈wn→cnt wn (p++i::q)+1≤cnt wn p
 |w::wn,p,i,q,h=>by
  unfold cnt;rw[jZ,jZ];have hs:=zpH wn p (i::q);unfold cnt at hs;rcases av.mp h with rfl |h
  ·have h1:(p++i::q).isPrefixOf p=false:=by
    rw[Bool.eq_false_iff];intro z;obtain⟨e,z⟩:=dk.mp z;have:=congrArg dL z;simp at this
   have h2:p.isPrefixOf p=true:=dk.mpr ⟨[],by simp⟩
   rw[h1,h2];simp;omega
  ·have ih:=zuA wn p i q h;unfold cnt at ih;have h3:(p++i::q).isPrefixOf w=true→p.isPrefixOf w=true:=λz=>by
    obtain⟨e,rfl⟩:=dk.mp z;exact dk.mpr ⟨i::q++e,by simp⟩
   by_cases z:(p++i::q).isPrefixOf w=true
   ·rw[if_pos z,if_pos (h3 z)];omega
   ·rw[if_neg z];omega
theorem zmp{B:List Tn}:∀{ts:List Tr},(∀t∈ts,t.ar B)→ars B ts
 | [],_=>by rw[ars];trivial
 |t::ts,h=>by rw[ars];exact⟨h t (by simp),zmp λu hu=>h u (aG _ hu)⟩
structure Sh (ws:List Str) (B:List Tn) (t:Tr):Prop where
  wy:Wy ws B t
  q:src B t=t
section
variable {ws:List Str}{B:List Tn}
theorem Sh.cases (K:Bk3 ws B) {t:Tr}(h:Sh ws B t):∃s ts,t= .nd s ts∧s∈ws∧zaN B s=none∧ ∀x∈ts,Sh ws B x:=by
 rcases h.wy.cases K.b with⟨s,ts,rfl,hs,e,k⟩ |⟨u,ts,hu,rfl,e,hl,k⟩
 ·have q:=h.q;rw[show src B (.nd s ts)=_ from zdQ e]at q;injection q with _ q;refine⟨s,ts,rfl,hs,e,λx hx=>⟨k x hx,?_⟩⟩;obtain⟨i,hi,rfl⟩:=iU hx;have:=congrArg (λl=>l[i]?) q;simp only[bv,aQ hi]at this;exact aE this
 ·have q:=h.q;rw[show src B (.nd u.1 ts)=_ from zds e]at q;obtain⟨s0,l0,e0,_⟩:=K.O.inn u hu;have hb:=(K.b.lf u hu).hb;rw[e0,Tr.hb]at hb;rw[e0,Tr.fill]at q;injection q with q _;exact absurd q (zeX hb.1 (K.b.ti u hu))
theorem Sh.parts (K:Bk3 ws B) {t:Tr}(h:Sh ws B t) {u:Tn}(hu:u∈B) {ms:List Tr}(e:u.2.1.mt t=ae ms):t=u.2.1.fill ms∧ms.length=u.2.1.nb∧ ∀x∈ms,Sh ws B x:=by
 obtain⟨h1,h2⟩:=K.O.fm u hu _ _ e;refine⟨h1,h2,λx hx=>⟨zvP _ _ _ e h.wy x hx,?_⟩⟩;have q:=h.q;rw[h1,show src B (u.2.1.fill ms)=_ from zoB K.b hu h2 _]at q;have m1:=K.O.mt u hu ms h2;have m2:=K.O.mt u hu (ms.map (src B)) (by rw[aq,h2]);rw[show u.2.1.fill (ms.map (src B))=_ from q,m1]at m2;have q:=aE m2;obtain⟨i,hi,rfl⟩:=iU hx;have:=congrArg (λl=>l[i]?) q;simp only[bv,aQ hi]at this;exact(aE this).symm
def zxl (B:List Tn) (wn:List (List Int)) (p:List Int) (t:Tr):Prop:=∀q∈wn,∀e v,q=p++e→t.at e=ae v→(zcT B v).isSome=true
theorem zsa{s:Str}{ts:List Tr}{i:Nat}{u:Tr}(h:ts[i]? =ae u) (e:List Int):(Tr.nd s ts).at ((i:Int)::e)=u.at e:=by
 rw[Tr.at,if_neg (by omega),cx,h]
theorem zsn{wn:List (List Int)}{n:Nat}{p:List Int}{c:Nat}(ih:∀(t:Tr) (p:List Int),t.depth≤n→Sh ws B t→zxl B wn p t→ ∃u,Wi B wn n p t u∧src B u=t∧Wy ws B u∧u.ne B≤cnt wn p) :
  ∀{qs:List (List Int)}{ts:List Tr},aL (λq t=>t.depth≤n∧Sh ws B t∧zxl B wn (p++q) t∧cnt wn (p++q)≤c) qs ts→ ∃us,Wis B wn n p qs ts us∧us.map (src B)=ts∧(∀u∈us,Wy ws B u)∧nes B us≤c
 |_,_, .nil=>⟨[], .nil,rfl,by simp,by rw[nes];omega⟩
 |_,_, .cons ⟨h1,h2,h3,h4⟩ h=>by
  obtain⟨u,w,e,y,k⟩:=ih _ _ h1 h2 h3;obtain⟨us,ws',es,ys,ks⟩:=zsn ih h;refine⟨u::us, .cons w ws',by rw[az,e,es],λv hv=>?_,by rw[nes];omega⟩
  rcases av.mp hv with rfl |hv
  ·exact y
  ·exact ys v hv
theorem ztT (K:Bk3 ws B) {wn:List (List Int)}:∀(n:Nat) (t:Tr) (p:List Int),t.depth≤n→Sh ws B t→zxl B wn p t→ ∃u,Wi B wn n p t u∧src B u=t∧Wy ws B u∧u.ne B≤cnt wn p
 |0,t,p,hd,h,_=>by
  obtain⟨s,ts,rfl,_⟩:=h.cases K;rw[Tr.depth]at hd;omega
 |n+1,t,p,hd,h,hw=>by
  obtain⟨s,ts,rfl,hs,e,k⟩:=h.cases K;rw[Tr.depth]at hd;by_cases hp:p∈wn
  ·have ho:=hw p hp [] (.nd s ts) (by simp) (by rw[Tr.at]);obtain⟨u,ho⟩:=dh.mp ho;have hu:u∈B:=b3 ho;have hm:(u.2.1.mt (.nd s ts)).isSome=true:=by simpa using i8 ho
   obtain⟨ms,hm⟩:=dh.mp hm;obtain⟨f1,f2,f3⟩:=h.parts K hu hm;have ba:=zrb hm;have hdm:∀y∈ms,y.depth≤n:=λy hy=>by
    obtain⟨s0,l0,e0,_⟩:=K.O.inn u hu;rw[e0,Tr.mt]at hm;split at hm
    ·have:=zoe _ _ _ hm y hy;omega
    ·cases hm
   have hne:∀q∈u.2.1.bls.map (λx=>x.1),∃i e,q=i::e:=λq hq=>by
    obtain⟨z,hz,rfl⟩:=aU.mp hq;obtain⟨h1,h2,_⟩:=zrc hz;cases hq:z.1 with
    |nil=>
     rw[hq,Tr.at]at h1;have h3:u.2.1=z.2:=aE h1;obtain⟨s0,l0,e0,_⟩:=K.O.inn u hu;rw[←h3,e0]at h2;cases h2
    |cons i is=>exact⟨i,is,rfl⟩
   have pr:∀{qs:List (List Int)}{xs:List Tr},(∀q∈qs,∃i e,q=i::e)→(∀x∈xs,x.depth≤n∧Sh ws B x)→aL (λq m=>(Tr.nd s ts).at q=ae m) qs xs→aL (λq t=>t.depth≤n∧Sh ws B t∧zxl B wn (p++q) t∧cnt wn (p++q)≤cnt wn p - 1) qs xs:=by
    intro qs xs h1 h2 h3
    induction h3 with
    |nil=>exact .nil
    | @cons q m qs xs h4 _ ih=>
     obtain⟨i,e,rfl⟩:=h1 q (by simp);obtain⟨g1,g2⟩:=h2 m (by simp);refine .cons ⟨g1,g2,λq' hq' e' v' h5 h6=>hw q' hq' (i::e++e') v' (by rw[h5];simp) (by rw[znB _ e' h4];exact h6),?_⟩ (ih (λq hq=>h1 q (aG _ hq)) λx hx=>h2 x (aG _ hx));have:=zuA wn p i e hp;omega
   obtain⟨us,wi,es,ys,ks⟩:=zsn (ztT K n) (pr hne (λx hx=>⟨hdm x hx,f3 x hx⟩) ba);have et:=zcW K.b.nd hu;have lu:us.length=u.2.1.nb:=by rw[←f2,←es,aq]
   refine⟨.nd u.1 us, .yes hp ho hm et wi,?_,⟨?_,?_⟩,?_⟩
   ·rw[show src B (.nd u.1 us)=_ from zds et,es,f1]
   ·rw[Tr.hd,hds_iff];exact⟨.inr ⟨u,hu,rfl⟩,λx hx=>(ys x hx).hd⟩
   ·rw[Tr.ar];refine⟨λt ht=>?_,zmp λx hx=>(ys x hx).ar⟩;rw[et]at ht;cases ht;exact lu
   ·rw[Tr.ne,et];have h1:1≤cnt wn p:=by
     unfold cnt;exact List.countP_pos_iff.mpr ⟨p,hp,dk.mpr ⟨[],by simp⟩⟩
    show 1+_≤_;omega
  ·have pr:∀(i:Nat) (xs:List Tr),(∀(j:Nat) x,xs[j]? =ae x→ts[i+j]? =ae x)→aL (λq t=>t.depth≤n∧Sh ws B t∧zxl B wn (p++q) t∧cnt wn (p++q)≤cnt wn p) ((fv i xs.length).map λ(i:Nat)=>[(i:Int)]) xs:=by
    intro i xs
    induction xs generalizing i with
    |nil=>intro _;exact .nil
    |cons x xs ih=>
     intro hx;have hi:=hx 0 x rfl;rw[gq]at hi;have hm:x∈ts:=bE hi;have hdx:=zcP hm;rw[aW,f8,az];refine .cons ⟨by omega,k x hm,λq' hq' e' v' h5 h6=>hw q' hq' ((i:Int)::e') v' (by rw[h5];simp) (by rw[zsa hi];exact h6),zpH wn p _⟩ (ih (i+1) λj y hy=>?_);have:=hx (j+1) y (by rw[d_];exact hy);rw[show i+1+j=i+(j+1) by omega]
     exact this
   have pr0:=pr 0 ts λj x h=>by rw[cL];exact h
   rw[←gh]at pr0;obtain⟨us,wi,es,ys,ks⟩:=zsn (ztT K n) pr0;refine⟨.nd s us, .no hp e wi,?_,⟨?_,?_⟩,?_⟩
   ·rw[show src B (.nd s us)=_ from zdQ e,es]
   ·rw[Tr.hd,hds_iff];exact⟨.inl hs,λx hx=>(ys x hx).hd⟩
   ·rw[Tr.ar];exact⟨λt ht=>(by rw[e]at ht;cases ht),zmp λx hx=>(ys x hx).ar⟩
   ·rw[Tr.ne,e];show 0+_≤_;omega
end
mutual
theorem zgJ:∀t:Tr,t.depth≤t.weight
 | .bl _=>by rw[Tr.depth,Tr.weight];exact au _
 | .nd _ ts=>by rw[Tr.depth,Tr.weight];have:=zga ts;omega
theorem zga:∀ts:List Tr,dts ts≤wts ts
 | []=>by rw[dts,wts];exact au _
 |t::ts=>by rw[dts,wts];have:=zgJ t;have:=zga ts;omega
end
theorem zpO{B:List Tn}:∀(ps:List Pl),(∀p∈ps,(p.ev B zr).weight≤p.wt+2*p.nt)→wts (ps.map (Pl.ev B zr))≤pwts ps+2*pnts ps
 | [],_=>by simp [wts]
 |p::ps,h=>by
  have h1:=h p aO;have h2:=zpO ps λq hq=>h q (aG _ hq);rw[az,wts,pwts,pnts];omega
theorem zqx{ws hs:List Str}{B:List Tn}(b:BkOk ws hs B) {p:Pl}(h:PlOk hs B p):(p.ev B zr).weight≤p.wt+2*p.nt:=by
 induction h with
 | @sign b' h ps hh hp ih=>
  have:=zpO ps ih;rw[zbY,Tr.weight,Pl.wt,Pl.nt,if_pos (by decide)];omega
 | @turn k b' h ps t e hl b0 b1 hp ih=>
  have ht:t∈B:=bE e;have:=zpO ps ih;have:=(b.lf t ht).fw (ps.map (Pl.ev B zr)) (by rw[aq,hl]);rw[zbn e,Pl.wt,Pl.nt,if_neg (by omega)];show(t.2.1.fill _).weight≤_;omega
theorem PlOk.sub{ws hs:List Str}{B:List Tn}(h:∀x∈hs,x∈ws) {p:Pl}(hp:PlOk hs B p):PlOk ws B p:=by
 induction hp with
 |sign h1 _ ih=>exact .sign (h _ h1) ih
 |turn e hl b0 b1 _ ih=>exact .turn e hl b0 b1 ih
section
variable {w0 w1 w2 w3 w4 w5:Str}{tt:List Str}{B:List Tn}{S:Sto}{aw at' ab ac:Addr}{cs:List Int}{Q:WK}{X:Str→Sto→Prop}
theorem Pre.bk2 (P:Pre S aw at' ab w0 w1 w2 w3 w4 w5 tt B):Bk2 [w0,w1,w2,w3,w4,w5] B:=P.b.bk2 P.T P.G P.sl
theorem Pre.ok_shape{Y:Str→Sto→Prop}{v8:Int}(h8:v8=8) (P:Pre S aw at' ab w0 w1 w2 w3 w4 w5 tt B) (hc:S ac=ae (.lst (cs.map W.int)))
  (h:∀(t:Tr) (S':Sto),Sub S S'→Sh [w0,w1,w2,w3,w4,w5] B t→Bd t 4→Q (enc t) S'):zcK 199 [.ref ac, .ref ab, .ref aw, .int 6] S (λv S1=>zcO 199 [v, .ref ab, .int v8] S1 Q Y) X:=by
 subst h8;refine L2.ztk (r:=189) (m:=6) (by decide) hc P.fb P.fw P.bk P.ne λp v S' sub pa po pw pn=>?_;have K:=P.bk2;have po2:PlOk [w0,w1,w2,w3,w4,w5] B p:=po.sub λx hx=>aG _ (aG _ hx);have hdp:=zns p;refine L2.zuE (r:=198) (by decide) (sub _ _ P.fb) P.bk 23 (by omega) (by omega) pa po (by omega) ?_;have e:p.ev B (byC 8)=p.ev B zr:=zeN po λx h0 h1=>(zBZ x h0 h1).symm;rw[e];have hw:=zqx P.bk po;have hd:=zgJ (p.ev B zr);refine h _ S' sub ⟨K.wy po2,?_⟩ ⟨by omega,by omega⟩
 show(p.ev B zr).mk B (λt=>t.2.1)=_;rw[ziG K.b po2];rfl
end
section
theorem zjb{α:Type}(xs:List α) (x:α):atI (xs++[x]) (-1)=ae x:=by
 unfold atI ixN;rw[if_neg (by decide),aY,b6];rw[if_pos (by omega)];show(xs++[x])[_]? =ae x;rw[show((-1+((xs.length+1:Nat):Int)).toNat)=xs.length by omega,List.getElem?_concat_length]
end
structure At (S0 S:Sto) (d o b:Addr) (xs:List Tr):Prop where
  d:b≠d
  o:b≠o
  e:S b=ae (.lst (xs.map enc))
  z:S0 b=none
theorem zjf{S0 S:Sto}{q:Addr}(s:Sub S0 S) (h:S q=none):S0 q=none:=by
 cases e:S0 q with
 |none=>rfl
 |some v=>rw[s _ _ e]at h;cases h
theorem At.sub{S0 S S':Sto}{d o b:Addr}{xs:List Tr}(h:At S0 S d o b xs) (s:Sub S S'):At S0 S' d o b xs:=⟨h.d,h.o,s _ _ h.e,h.z⟩
theorem At.pd{S0 S:Sto}{d o b:Addr}{xs:List Tr}{v:Ob}(h:At S0 S d o b xs):At S0 (put S d v) d o b xs:=⟨h.d,h.o,by rw[zaG h.d];exact h.e,h.z⟩
theorem At.po{S0 S:Sto}{d o b:Addr}{xs:List Tr}{v:Ob}(h:At S0 S d o b xs):At S0 (put S o v) d o b xs:=⟨h.d,h.o,by rw[zaG h.o];exact h.e,h.z⟩
noncomputable abbrev Ats (S0 S:Sto) (d o:Addr) (bs:List Addr) (xss:List (List Tr)):Prop:=aL (At S0 S d o) bs xss
theorem zfp{α β:Type}{R:α→β→Prop}{xs:List α}{ys:List β}{x:α}{y:β}(h:aL R xs ys) (g:R x y):aL R (xs++[x]) (ys++[y]):=zgr h (.cons g .nil)
theorem zkX{α β:Type}(f:α→W) (g:β→W):∀(xs:List α) (ys:List β),pairs (xs.map f) (ys.map g)=(xs.zip ys).map λp=> .tup [f p.1,g p.2]
 | [],ys=>by simp [pairs]
 |x::xs,[]=>by simp [pairs]
 |x::xs,y::ys=>by rw[az,az,pairs,zkX f g xs ys];rfl
theorem zrz{B:List Tn}:∀(os:List Tr) (x:Tr),(os.zip (zep B x os)).map (λp=>res B p.1 p.2)=zdR B x os
 | [],x=>rfl
 |o::os,x=>by rw[zep,gF,az,zrz os,zdR]
section
variable {ws:List Str}{B:List Tn}{l2 d o ρ:Addr}{r:Nat}{E:WX}{D:WEnds}{T:WS}{t:Tr}{xs os:List Tr}{S:Sto}{y0 y1 y2 y3 y4 y5 y6 y7:Option W}
theorem zCD (h:∀d,S d=none→T E D [y0,y1,y2,ae (.ref d),y4,y5,y6,y7] (put S d (.lst []))):zfG r T E D [y0,y1,y2,y3,y4,y5,y6,y7] S:=by
 rw[zfG];walk_at "wp";exact⟨aZ _,h⟩
theorem zCs{vs:List W}(hl:S l2=ae (.lst vs)) (h:∀ρ,S ρ=none→T E D [y0,y1,ae (.tup [enc t, .ref l2]),y3,ae (.ref ρ),y5,y6,y7] (put S ρ (.lst vs))):zfF r T E D [y0,y1,ae (.tup [enc t, .ref l2]),y3,y4,y5,y6,y7] S:=by
 rw[zfF];walk_at "wp";show zcU S l2 λws=>∀ρ,S ρ=none→T E D [y0,y1,ae (.tup [enc t, .ref l2]),y3,ae (.ref ρ),y5,y6,y7] (put S ρ (.lst ws));rw[zai hl];exact h
theorem zCK (h:∀o,S o=none→T E D [y0,y1,y2,y3,ae (.ref ρ),ae (.ref o),y6,y7] (put S o (.lst [.ref ρ]))):zfT r T E D [y0,y1,y2,y3,ae (.ref ρ),y5,y6,y7] S:=by
 rw[zfT];walk_at "wp";exact⟨by decide,h⟩
theorem zBj{q:Addr}{vs:List W}(hd:S d=ae (.lst vs)) (hn:vs.length≤1000) (h:T E D [y0,y1,y2,ae (.ref d),y4,y5,y6,ae (.ref q)] (put S d (.lst (vs++[.ref q])))) :
  zeI r T E D [y0,y1,y2,ae (.ref d),y4,y5,y6,ae (.ref q)] S:=by
 rw[zeI];walk_at "wp";rw[zai hd,zai hd];exact⟨trivial,zbv (by omega),h⟩
theorem zAM{vs:List W}(hd:S o=ae (.lst vs)) (hn:vs.length≤1000) (h:D.nx [y0,y1,y2,y3,ae (.ref ρ),ae (.ref o),y6,y7] (put S o (.lst (vs++[.ref ρ])))) :
  zeQ r E D [y0,y1,y2,y3,ae (.ref ρ),ae (.ref o),y6,y7] S:=by
 rw[zeQ];walk_at "wp";rw[zai hd,zai hd];exact⟨trivial,zbv (by omega),h⟩
structure Grd (S0 S:Sto) (B:List Tn) (xs os:List Tr) (d o:Addr):Prop where
  sub:Sub S0 S
  d0:S0 d=none
  o0:S0 o=none
  ne:d≠o
  ex:∃ds rs,S d=ae (.lst (ds.map W.ref))∧S o=ae (.lst (rs.map W.ref))∧Ats S0 S d o ds (zmB B xs os)∧Ats S0 S d o rs (zmm B xs os)
end
noncomputable def opl (B:List Tn) (t:Tr):List (List Int):=(t.op B []).map λx=>x.1
theorem Sh.hdT{ws:List Str}{B:List Tn}{t:Tr}(h:Sh ws B t):t.hd λ_=>True:=zhR (λ_ _=>trivial) _ h.wy.hd
theorem Sh.wn{ws:List Str}{B:List Tn}{t:Tr}(h:Sh ws B t) {wn:List (List Int)}(hw:∀q∈wn,q∈opl B t):zxl B wn [] t:=by
 intro q hq e v he hv;rw[aR]at he;subst he;obtain⟨x,hx,rfl⟩:=aU.mp (hw q hq);rw[←zsl B t [] (zfy _ h.hdT)]at hx;obtain⟨y,hy,hx⟩:=gC.mp hx;unfold zzg at hx;obtain⟨u,hu,rfl⟩:=aU.mp hx;have:=(zvz hy).1;rw[this]at hv;cases hv;cases e:zcT B y.2 with
 |none=>rw[e]at hu;cases hu
 |some _=>rfl
section
variable {ws:List Str}{B:List Tn}{t:Tr}{xs:List Tr}
theorem Roa.snoc:∀(xs:List Tr) {t u:Tr},Roa ws B t xs→Wy ws B u→src B u=zeg B t xs→Roa ws B t (xs++[u])
 | [],t,u,_,hu,e=>⟨hu,e,trivial⟩
 |x::xs,t,u,⟨h1,h2,h3⟩,hu,e=>⟨h1,h2,Roa.snoc xs h3 hu e⟩
theorem zgV:∀(xs:List Tr) (t u:Tr),zeg B t (xs++[u])=gol B u
 | [],t,u=>rfl
 |x::xs,t,u=>zgV xs (gol B x) u
theorem Bd.small{n:Nat}(h:Bd t n):t.weight≤400∧t.depth≤40:=by
 have h1:=h.w;have h2:=h.d;exact⟨bi (Nat.le_mul_of_pos_left _ (zlX _)) h1,by omega⟩
end
theorem ziM{α β:Type}{R:α→β→Prop}:∀{xs:List α}{ys:List β},aL R xs ys→ ∃zs:List (α×β),zs.map (λz=>z.1)=xs∧zs.map (λz=>z.2)=ys∧ ∀z∈zs,R z.1 z.2
 |_,_, .nil=>⟨[],rfl,rfl,by simp⟩
 |_,_, .cons h1 h2=>by
  obtain⟨zs,e1,e2,h3⟩:=ziM h2;exact⟨(_,_)::zs,by rw[az,e1],by rw[az,e2],λz hz=>by
   rcases av.mp hz with rfl |hz
   ·exact h1
   ·exact h3 z hz⟩
theorem zhL{α β γ:Type}{R:α→β→Prop}{R':β→γ→Prop}:∀{xs:List α}{ys:List β}{zs:List γ},aL R xs ys→aL R' ys zs→aL (λx z=>∃y,R x y∧R' y z) xs zs
 |_,_,_, .nil, .nil=> .nil
 |_,_,_, .cons h1 h2, .cons g1 g2=> .cons ⟨_,h1,g1⟩ (zhL h2 g2)
theorem zhr{α β:Type}{R:α→β→Prop}:∀{ys:List β}{xs:List α}{y:β},aL R xs (ys++[y])→ ∃pre x,xs=pre++[x]∧R x y
 | [],_,y, .cons h .nil=>⟨[],_,rfl,h⟩
 |_::ys,_,y, .cons (a:=a) h g=>by
  obtain⟨pre,x,e,h⟩:=zhr g;exact⟨a::pre,x,by rw[e];rfl,h⟩
section
variable {ws:List Str}{B:List Tn}
theorem zpT (os:List Tr) (x:Tr):∃l,zep B x os=l++[zcF B x os]:=by
 have:=zkm (B:=B) os x;rw[List.getLast?_eq_some_iff]at this;exact this
theorem zkr:∀(xs os:List Tr),aL (λline u=>∃l,line=l++[u]) (zmB B xs os) (zbG B xs os)
 | [],os=> .nil
 |x::xs,os=> .cons (zpT os x) (zkr xs _)
theorem zlc:∀(xs os:List Tr),∃l,zmm B xs os=l++[zdO B xs os]
 | [],os=>⟨[],rfl⟩
 |x::xs,os=>by
  obtain⟨l,e⟩:=zlc xs (zdR B x os);exact⟨os::l,by rw[zmm,e,zdO];rfl⟩
theorem zgm:∀(os:List Tr) (x:Tr) (xs:List Tr),zbG B os (x::xs)=zbG B (zdR B x os) xs
 | [],x,xs=>by rw[zbG,zdR,zbG]
 |o::os,x,xs=>by rw[zbG,zdR,zdR,zcF,zbG,zgm os]
theorem zhc:∀(os:List Tr),zbG B os []=os
 | []=>by rw[zbG]
 |o::os=>by rw[zbG,zdR,zcF,zhc os]
theorem zeb:∀(xs os:List Tr),zdO B xs os=zbG B os xs
 | [],os=>by rw[zdO,zhc]
 |x::xs,os=>by rw[zdO,zgm,zeb xs]
theorem zlN:∀(xs ys:List Tr) (t:Tr),zeg B t (xs++ys)=zeg B (zeg B t xs) ys
 | [],ys,t=>rfl
 |x::xs,ys,t=>zlN xs ys (gol B x)
theorem Roa.app:∀(xs:List Tr) {ys:List Tr}{t:Tr},Roa ws B t xs→Roa ws B (zeg B t xs) ys→Roa ws B t (xs++ys)
 | [],_,_,_,h=>h
 |x::xs,_,_,⟨h1,h2,h3⟩,h=>⟨h1,h2,Roa.app xs h3 h⟩
end
section
variable {B:List Tn}{l d o:Addr}{r:Nat}{xs os:List Tr}{S:Sto}{Q:WK}{X:Str→Sto→Prop}
theorem zkR{S0:Sto}{ds:List Addr}(hd:S d=ae (.lst (ds.map W.ref))) (hn:xs.length≤700) (AD:Ats S0 S d o ds (zmB B xs os)) (h:∀q,S q=none→Q (.ref q) (put S q (.lst ((zbG B xs os).map enc)))):zdc (r+1) [.tup [.ref d, .ref o]] S Q X:=by
 obtain⟨zs,e1,e2,h3⟩:=ziM (zhL AD (zkr xs os));rw[zdc];walk_at "wp";rw[zai hd];have e3:ds.map W.ref=zs.map λz=>W.ref z.1:=by rw[←e1,bb];rfl
 have hz:zs.length=xs.length:=by rw[←zjC (B:=B) xs os,←e2,aq]
 rw[e3];refine zaw (λσ=>∃y,σ=[y]) (λz:Addr×Tr=>W.ref z.1) (λz=>enc z.2) (by rw[←e3];exact hd) zs [] _ ⟨none,rfl⟩ (by simp;omega) (λz hz σ R hI hR=>?_) ?_
 ·obtain⟨y,rfl⟩:=hI;obtain⟨line,A,l,rfl⟩:=h3 z hz;rw[zfh];walk_at "wp";have Ae:=A.e;rw[bI]at Ae;rw[zai Ae,show [z.2].map enc=[enc z.2] from rfl,zjb];exact hR _ _ ⟨_,rfl⟩ .refl
 ·intro q hq;have:=h q hq;rw[←e2,bb]at this;exact⟨_, .refl,this⟩
end
structure Rds (S:Sto) (ws:List Str) (B:List Tn) (ab:Addr) (t:Tr) (l1 l2:Addr) (xs os:List Tr):Prop where
  K:Bk2 ws B
  fb:S ab=ae (.lst (B.map zaW))
  sh:Sh ws B t
  bd:Bd t 4
  f1:S l1=ae (.lst (xs.map enc))
  f2:S l2=ae (.lst (os.map enc))
  r1:Roa ws B t xs
  r2:Roa ws B t os
  n:nR B xs+nR B os≤4
  x3:xs.length≤3
  o3:os.length≤3
  hB:B.length≤1000
theorem Rds.symm{S:Sto}{ws:List Str}{B:List Tn}{ab:Addr}{t:Tr}{l1 l2:Addr}{xs os:List Tr}(h:Rds S ws B ab t l1 l2 xs os):Rds S ws B ab t l2 l1 os xs:=⟨h.K,h.fb,h.sh,h.bd,h.f2,h.f1,h.r2,h.r1,by have:=h.n;omega,h.o3,h.x3,h.hB⟩
theorem zCV (ns:List Int) (i:Nat):(zer ns (ae (i:Int)) (ae ((i+3:Nat):Int))).length≤3:=by
 rw[zwc i (i+3),cK];omega
section
variable {ws:List Str}{B:List Tn}{x t g:Tr}
theorem zmG{y:Tr}(K:Bk3 ws B) (hx:Wy ws B x) (hy:Wy ws B y) (e:src B x=src B y):∃p,PlOk ws B p∧p.ev B (byC 1)=x∧p.ev B (byC 2)=y∧p.ev B zr=src B x:=by
 obtain⟨p,hp,_,e1,e2⟩:=zsI K.b K.O _ x y (au _) hx hy e;refine⟨p,hp,e1,e2,?_⟩;rw[←e1];show _=(p.ev B (byC 1)).mk B λt=>t.2.1;rw[ziG K.b hp];exact zeN hp λb h0 h1=>((zfA 1).src b h0 h1).symm
theorem zuY:One zr:=λ_ _ _=>aZ _
theorem Bk3.plan1 (K:Bk3 ws B) (h:Wy ws B x):∃p,PlOk ws B p∧p.ev B (byC 1)=x∧p.ev B zr=L2.src B x:=by
 obtain⟨p,hp,e1,_,hs⟩:=zmG K h h rfl;exact⟨p,hp,e1,hs⟩
theorem Bk3.res_src (K:Bk3 ws B) (h:Wy ws B x):res B x (L2.src B x)=x:=by
 obtain⟨p,hp,e1,hs⟩:=K.plan1 h;have m:=(zhC (c:=byC 1) (d:=zr) K.b K.O.mt (zhK (zfA 1) zuY) hp).res;rw[hs,e1]at m;rw[m];exact e1▸zeN hp λb _ _=>rfl
theorem Bk3.src_res (K:Bk3 ws B) (h:Wy ws B x):res B (L2.src B x) x=L2.gol B x:=by
 obtain⟨p,hp,e1,hs⟩:=K.plan1 h;have m:=(zhC (c:=zr) (d:=byC 1) K.b K.O.mt (zhK zuY (zfA 1)) hp).res;rw[hs,e1]at m;rw[m,←e1];show _=(p.ev B (byC 1)).mk B λt=>t.2.2;rw[zgs K.b hp];refine zeN hp λb h0 h1=>?_;have:=zfA 1 b h0 h1;unfold zlD zeh zr;split<;>omega
theorem zhJ (K:Bk3 ws B):∀(os:List Tr) {g:Tr},Roa ws B g os→zdR B g os=os∧zcF B g os=zeg B g os
 | [],g,_=>⟨rfl,rfl⟩
 |o::os,g,⟨ho,eo,hr⟩=>by
  have h1:=K.res_src ho;have h2:=K.src_res ho;rw[eo]at h1 h2;obtain⟨h3,h4⟩:=zhJ K os hr;rw[zdR,zcF,h1,h2,h3,h4];exact⟨rfl,rfl⟩
theorem znD:∀(xs ys os:List Tr),zdO B (xs++ys) os=zdO B ys (zdO B xs os)
 | [],ys,os=>rfl
 |x::xs,ys,os=>by rw[dG,zdO,zdO,znD xs ys]
theorem zoV (xs os zs:List Tr):zbG B xs (os++zs)=zbG B (zbG B xs os) zs:=by
 rw[←zeb,znD,zeb,zeb]
theorem zrQ:∀(os zs:List Tr) (x:Tr),zdR B x (os++zs)=zdR B x os++zdR B (zcF B x os) zs
 | [],zs,x=>rfl
 |o::os,zs,x=>by rw[dG,zdR,zdR,zcF,zrQ os zs,dG]
end
section
variable {ws:List Str}{B:List Tn}{x t:Tr}{xs:List Tr}
theorem Sh.quiet (K:Bk3 ws B) (h:Sh ws B x):x.quiet=true:=by
 refine ziO x ?_;have:∀(n:Nat) (x:Tr),x.depth≤n→Sh ws B x→x.hd zct:=by
  intro n
  induction n with
  |zero=>
   intro x hd h;have:=zbc x;omega
  |succ n ih=>
   intro x hd h;obtain⟨s,ts,rfl,hs,_,k⟩:=h.cases K;rw[Tr.depth]at hd;rw[Tr.hd,hds_iff];exact⟨K.b.sg s hs,λu hu=>ih u (by have:=zcP hu;omega) (k u hu)⟩
 exact this _ x (au _) h
theorem Wy.len (K:Bk3 ws B) (h:Wy ws B x):x.hd λs=>s.length≤1000:=zhR (λs hs=>by
 rcases hs with hs |⟨t,ht,rfl⟩
 ·exact ztb (K.b.sg s hs)
 ·exact zpq (K.b.ti t ht)) _ h.hd
theorem zox{α:Type}(f:α→Bool):∀(xs:List α),zih (xs.map λx=>W.bl (f x))=ae (xs.map f)
 | []=>rfl
 |x::xs=>by rw[az,zih,zox f xs];rfl
end
section
variable {ws:List Str}{B:List Tn}
theorem Bk3.moved (K:Bk3 ws B) {x y:Tr}(hx:Wy ws B x) (hy:Wy ws B y) (e:L2.src B x=L2.src B y):Moved ws B x y (res B x y):=by
 obtain⟨p,hp,rfl,rfl,_⟩:=zmG K hx hy e;have o1:=zfA 1;have o2:=zfA 2;have m1:=(zhC (c:=byC 1) (d:=byC 2) K.b K.O.mt (zhK o1 o2) hp).res;have m2:=(zhC (c:=byC 2) (d:=byC 1) K.b K.O.mt (zhK o2 o1) hp).res;rw[m1];refine⟨K.wy hp,?_,?_,zwz K.b K.O o1 o2 hp⟩
 ·show(p.ev B (zlD (byC 1) (byC 2))).mk B (λt=>t.2.1)=(p.ev B (byC 2)).mk B λt=>t.2.2;rw[ziG K.b hp,zgs K.b hp];refine zeN hp λx h0 h1=>?_;have a:=zqC 1 x;have b:=zqC 2 x;unfold zmv zeh zlD;generalize byC 1 x=m at a⊢;generalize byC 2 x=n at b⊢;obtain rfl |rfl:m=0∨m=1:=by omega
  all_goals obtain rfl |rfl:n=0∨n=1:=by omega
  all_goals rfl
 ·rw[m2];show(p.ev B (zlD (byC 1) (byC 2))).mk B (λt=>t.2.2)=(p.ev B (zlD (byC 2) (byC 1))).mk B λt=>t.2.2;rw[zgs K.b hp,zgs K.b hp];refine zeN hp λx h0 h1=>?_;have a:=zqC 1 x;have b:=zqC 2 x;unfold zeh zlD;generalize byC 1 x=m at a⊢;generalize byC 2 x=n at b⊢;obtain rfl |rfl:m=0∨m=1:=by omega
  all_goals obtain rfl |rfl:n=0∨n=1:=by omega
  all_goals rfl
theorem zdH (K:Bk3 ws B):∀(os:List Tr) {x t:Tr},Wy ws B x→L2.src B x=t→Roa ws B t os→Roa ws B (gol B x) (zdR B x os)∧Wy ws B (zcF B x os)∧L2.src B (zcF B x os)=zeg B t os∧zeg B (gol B x) (zdR B x os)=gol B (zcF B x os)
 | [],x,t,hx,ex,_=>⟨trivial,hx,ex,rfl⟩
 |o::os,x,t,hx,ex,⟨ho,eo,hr⟩=>by
  have m:=K.moved hx ho (ex.trans eo.symm);have m':=K.moved ho hx (eo.trans ex.symm);obtain⟨h1,h2,h3,h4⟩:=zdH K os m.wy m.sr hr;refine⟨?_,h2,h3,?_⟩
  ·rw[zdR];refine⟨m'.wy,m'.sr,?_⟩;rw[m'.go];exact h1
  ·rw[zdR,zeg,zcF,m'.go];exact h4
theorem zeD (K:Bk3 ws B):∀(xs os:List Tr) {t:Tr},Roa ws B t xs→Roa ws B t os→Roa ws B (zeg B t os) (zbG B xs os)
 | [],os,t,_,_=>trivial
 |x::xs,os,t,⟨hx,ex,hr⟩,ho=>by
  obtain⟨h1,h2,h3,h4⟩:=zdH K os hx ex ho;rw[zbG];refine⟨h2,h3,?_⟩;rw[←h4];exact zeD K xs _ hr h1
theorem zou (K:Bk3 ws B):∀(xs os:List Tr) {t:Tr},Roa ws B t xs→Roa ws B t os→zeg B (zeg B t os) (zbG B xs os)=zeg B (zeg B t xs) (zbG B os xs)
 | [],os,t,_,_=>by rw[zhc,zbG];rfl
 |x::xs,os,t,⟨hx,ex,hr⟩,ho=>by
  obtain⟨h1,h2,h3,h4⟩:=zdH K os hx ex ho;rw[zbG,zeg,←h4,zou K xs _ hr h1,zeg,zgm]
end
section
variable {ws:List Str}{B:List Tn}{t x:Tr}{b:List Tr}
theorem ziV:∀{ts:List Tr}{u:Tr},zfe ts=true→u∈ts→u.quiet=true
 |t::ts,u,h,hu=>by
  rw[zfe,bO]at h;rcases av.mp hu with rfl |hu
  ·exact h.1
  ·exact ziV h.2 hu
theorem zmR (K:Bk3 ws B):∀(n:Nat) (x:Tr),x.weight≤n→Wy ws B x→x.quiet=true→Sh ws B x
 |0,x,hn,hx,q=>by
  rcases hx.cases K.b with⟨s,as,rfl,_⟩ |⟨t,as,_,rfl,_⟩<;>rw[zgi]at hn<;>omega
 |n+1,x,hn,hx,q=>by
  rcases hx.cases K.b with⟨s,as,rfl,hs,es,ka⟩ |⟨t,as,ht,rfl,et,la,ka⟩
  ·rw[Tr.quiet,bO]at q;rw[zgi]at hn;refine⟨hx,?_⟩;rw[show src B (.nd s as)=_ from zdQ es];congr 1;refine(cV λu hu=>?_).trans (List.map_id _);exact(zmR K n u (by have:=zcl hu;omega) (ka u hu) (ziV q.2 hu)).q
  ·rw[Tr.quiet,bO]at q;have:=zbl K.b.ti ((zgj _).mp q.1);rw[et]at this;cases this
end
mutual
noncomputable def Tr.wd:Tr→Prop
 | .bl _=>True
 | .nd _ ts=>ts.length≤1000∧wds ts
noncomputable def wds:List Tr→Prop
 | []=>True
 |t::ts=>t.wd∧wds ts
end
theorem wds_iff:∀{ts:List Tr},wds ts↔ ∀t∈ts,t.wd
 | []=>by simp [wds]
 |t::ts=>by simp [wds,wds_iff (ts:=ts)]
theorem zvZ{t:Tr}(h:t.wd):t.kids.length≤1000:=by
 cases t with
 |bl n=>simp [Tr.kids]
 |nd s ts=>simpa [Tr.kids]using h.1
theorem zvd{ts:List Tr}(h:∀x∈ts,x.wd):∀x∈ts.flatMap Tr.kids,x.wd:=λx hx=>by
 obtain⟨t,ht,hk⟩:=gC.mp hx;have:=h t ht;cases t with
 |bl n=>simp [Tr.kids]at hk
 |nd s us=>exact wds_iff.mp this.2 x (by simpa [Tr.kids]using hk)
theorem zhY{r:Nat}{a b:Addr}{ps:List W}{E:WX}{D:WEnds}{x0:Option W}(hba:b≠a):∀(ts:List Tr) {S:Sto}{us:List Tr}{x2:Option W},S a=ae (.lst (encs us))→S b=ae (.lst ps)→(∀t∈ts,t.kids.length≤1000)→us.length+1000*ts.length≤500000→
  (∀x2,D.nx [x0,ae (.ref a),x2] (put S a (.lst (encs (us++ts.flatMap Tr.kids)))))→
  forL (wGN 2) (zdg (r+1) zaJ) E D (λS'=>S' b=ae (.lst ps)) (encs ts) [x0,ae (.ref a),x2] S
 | [],S,us,x2,ha,hb,hA,hl,h=>by
  have:=h x2;simp only[gT,bG,zfj ha]at this;simpa [encs,forL]using this
 |t::ts,S,us,x2,ha,hb,hA,hl,h=>by
  simp only[aW]at hl;have hk:=hA t aO;simp only[encs];refine zby λN hN=>?_;simp only[zdg];walk_at "wp";simp only[zai ha,true_and];refine zgT ?_;walk_at "wp";rw[zai ha];refine⟨zak (by rw[zbh,zbh];omega),hN _ _ _ .refl (by rw[zaG hba];exact hb) ?_⟩;rw[←zfo];refine zhY hba ts zah (by rw[zaG hba];exact hb) (λu hu=>hA u (aG _ hu)) (by rw[aY];omega) λx2=>?_;rw[zaY];have:=h x2;rw[fy,←bN]at this;exact this
theorem zlp{ts:List Tr}{b:Addr}{r:Nat}{S:Sto}{Q:WK}{E:Str→Sto→Prop}(hb:S b=ae (.lst (encs ts))) (hA:∀t∈ts,t.kids.length≤1000) (hw:ts.length≤400) (h:∀a,S a=none→Q (.ref a) (put S a (.lst (encs (ts.flatMap Tr.kids))))):zcd (r+2) [.ref b] S Q E:=by
 rw[zcd];walk_at "wp";refine⟨aZ _,λa ha=>?_⟩;have hba:=zqP hb ha;rw[zai (keep hb ha)];refine zhY (us:=[]) hba ts (by simp [zah,encs]) (keep hb ha) hA (by simp;omega) λx2=>?_;rw[zaY];walk_at "wp";exact⟨_, .refl,h a ha⟩
theorem zfq{t:Tr}{r:Nat}{S:Sto}{Q:WK}{E:Str→Sto→Prop}(hA:t.wd) (h:Q (.bl t.small) S):zdZ (r+3) [enc t] S Q E:=by
 rw[zdZ];walk_at "wp";refine⟨zak (by decide),λa ha=>?_⟩;refine⟨λm σ S'=>∃(ts:List Tr) (k d:Nat) (b:Addr),m=wts ts∧(∀x∈ts,x.wd)∧k+wts ts=t.weight∧d+dts ts=t.depth∧k≤400∧d≤40∧S b=none∧S'=put S b (.lst (encs ts))∧σ=[ae (enc t),ae (.int k),ae (.int d),ae (.ref b)],⟨_,[t],0,0,a,rfl,(λx hx=>by rw[bg.mp hx];exact hA),by simp [wts],by simp [dts],by decide,by decide,ha,by simp [encs],rfl⟩,?_⟩
 rintro m σ S' ⟨ts,k,d,b,rfl,hds,hwt,hk,hk4,hd4,hb,rfl,rfl⟩;walk_at "wp";cases ts with
 |nil=>
  simp only[encs,kc];walk_at "wp";simp only[dts,wts,gq]at hk hwt;have e:t.small=true:=by unfold Tr.small;rw[decide_eq_true (by omega),decide_eq_true (by omega)];rfl
  rw[e]at h;exact⟨_, .put .refl hb,h⟩
 |cons u us=>
  have hne:(encs (u::us)).isEmpty=false:=by simp [encs]
  rw[hne];have hfl:=znP (u::us);have hdf:=znJ (ts:=u::us) (by simp);have hlw:=zbx (u::us);simp only[zgK];walk_at "wp";rw[zbh];have no:400<t.weight∨40<t.depth→ ∃S'',Sub S'' (put S b (Ob.lst (encs (u::us))))∧Q (W.bl false) S'':=λz=>by
   have e:t.small=false:=by
    unfold Tr.small;rcases z with z |z
    ·rw[decide_eq_false (by omega)];rfl
    ·rw[decide_eq_false (p:=t.depth≤40) (by omega),gf]
   rw[e]at h;exact⟨_, .put .refl hb,h⟩
  split
  ·exact no (.inl (by omega))
  ·split
   ·exact no (.inr (by omega))
   ·refine zlp zah (λx hx=>zvZ (hds x hx)) (by omega) λc hc=>?_;obtain⟨hc1,hc2⟩:=zeu hc;refine⟨wts ((u::us).flatMap Tr.kids),put S c (.lst (encs ((u::us).flatMap Tr.kids))),by simp only[aW]at hfl;omega, .put2 (.put .refl hb),_,k+(u::us).length,d+1,c,rfl,zvd hds,by omega,by omega,by omega,by omega,hc1,rfl,?_⟩
    push_cast
    rfl
structure SidesW (g:Tn→Tr) (B:List Tn):Prop where
  fits:∀t∈B,(g t).fits t.2.1.nb
  dp:∀t∈B,(g t).depth≤4
  wt:∀t∈B,(g t).weight≤20
section
variable {S:Sto}{a:Addr}{B:List Tn}{n:Int}
theorem zhQ (ha:S a=ae (.lst (B.map zaW))) (hn:n=1∨n=2) (hg:SidesW (zal n) B):∀(d:Nat) {t:Tr}{r:Nat}{Q:WK}{E:Str→Sto→Prop},t.depth≤d→d+10≤r→t.ar B→t.weight≤1000→Q (enc (t.mk B (zal n))) S→zbP (r+1) [.ref a,enc t, .int n] S Q E
 |0,t,r,Q,E,hd,hr,hh,hw,h=>by have:=zbc t;omega
 |d+1, .bl k,r,Q,E,hd,hr,hh,hw,h=>by simp [Tr.ar]at hh
 |d+1, .nd s ts,r,Q,E,hd,hr,hh,hw,h=>by
  simp only[Tr.depth]at hd;simp only[Tr.weight]at hw;simp only[Tr.ar]at hh;have hk:=zbx ts;obtain⟨r,rfl⟩:∃r',r=r'+1:=⟨r - 1,by omega⟩
  rw[zbP];simp only[enc];walk_at "wp";rw[zaB];refine zaw (λσ=>∃x,σ=[x,ae (.ref a),ae (.int n)]) enc (λt=>enc (t.mk B (zal n))) trivial ts [] _ ⟨none,rfl⟩ (by simp;omega) (λx hx σ R hI hR=>?_) ?_
  ·obtain⟨y,rfl⟩:=hI;have hdx:=zcP hx;have hwx:=zcl hx;simp only[zfm];walk_at "wp";exact zhQ ha hn hg d (by omega) (by omega) (ars_iff.mp hh.2 x hx) (by omega) (hR _ _ ⟨_,rfl⟩ .refl)
  ·rw[aR];intro q hq;have eu:(ts.map λt=>enc (t.mk B (zal n)))=encs (ts.map (Tr.mk B (zal n))):=by rw[zaB,bb];rfl
   rw[eu];have fq:put S q (Ob.lst (encs (ts.map (Tr.mk B (zal n))))) q=ae (.lst (encs (ts.map (Tr.mk B (zal n))))):=zah;have fa:=keep (x:=Ob.lst (encs (ts.map (Tr.mk B (zal n))))) ha hq;have sub:Sub S (put S q (Ob.lst (encs (ts.map (Tr.mk B (zal n)))))):= .put .refl hq;generalize put S q (Ob.lst (encs (ts.map (Tr.mk B (zal n)))))=S1 at fq fa sub⊢;refine zfB fa ?_;cases e:zaN B s with
   |none=>
    rw[zhv e]at h;simp only[zeF]
    try walk_at "wp"
    try rw[zai fq]
    rw[zbh,aq];simp only[enc]at h;exact⟨zak (by decide),zak (by omega),_,sub,h⟩
   |some t=>
    have ht:t∈B:=b3 e;have ee:zeF (ae t)= .tup [.str t.1,enc t.2.1,enc t.2.2]:=rfl;rw[zik e]at h;rw[ee]
    try walk_at "wp"
    rw[zmD t hn];dsimp only;have hgw:=hg.wt t ht;exact zib 4 (hg.dp t ht) (by omega) fq (by rw[aq,hh.1 t e];exact hg.fits t ht) (by omega) ⟨_,sub,h⟩
theorem zne (hnd:(B.map λt=>t.1).Nodup) (ha:S a=ae (.lst (B.map zaW))) (hn:n=1∨n=2) (hg:SidesW (zal n) B):∀(d:Nat) {t:Tr}{r:Nat}{Q:WK}{E:Str→Sto→Prop},t.depth≤d→d+10≤r→t.ar B→t.weight≤1000→Q (enc (t.mk B (zal n))) S→zbJ (r+1) [.ref a,enc t, .int n] S Q E
 |0,t,r,Q,E,hd,hr,hh,hw,h=>by have:=zbc t;omega
 |d+1, .bl k,r,Q,E,hd,hr,hh,hw,h=>by simp [Tr.ar]at hh
 |d+1, .nd s ts,r,Q,E,hd,hr,hh,hw,h=>by
  simp only[Tr.depth]at hd;simp only[Tr.weight]at hw;simp only[Tr.ar]at hh;have hk:=zbx ts;obtain⟨r,rfl⟩:∃r',r=r'+1:=⟨r - 1,by omega⟩
  rw[zbJ];simp only[enc];walk_at "wp";rw[zaB];refine zaw (λσ=>∃x,σ=[x,ae (.ref a),ae (.int n)]) enc (λt=>enc (t.mk B (zal n))) trivial ts [] _ ⟨none,rfl⟩ (by simp;omega) (λx hx σ R hI hR=>?_) ?_
  ·obtain⟨y,rfl⟩:=hI;have hdx:=zcP hx;have hwx:=zcl hx;simp only[zfU];walk_at "wp";exact zne hnd ha hn hg d (by omega) (by omega) (ars_iff.mp hh.2 x hx) (by omega) (hR _ _ ⟨_,rfl⟩ .refl)
  ·rw[aR];intro q hq;have eu:(ts.map λt=>enc (t.mk B (zal n)))=encs (ts.map (Tr.mk B (zal n))):=by rw[zaB,bb];rfl
   rw[eu,←zaB];have fq:put S q (Ob.lst (encs (ts.map (Tr.mk B (zal n))))) q=ae (.lst (encs (ts.map (Tr.mk B (zal n))))):=zah;have fa:=keep (x:=Ob.lst (encs (ts.map (Tr.mk B (zal n))))) ha hq;have sub:Sub S (put S q (Ob.lst (encs (ts.map (Tr.mk B (zal n)))))):= .put .refl hq;generalize put S q (Ob.lst (encs (ts.map (Tr.mk B (zal n)))))=S1 at fq fa sub⊢
   try walk_at "wp"
   rw[zai fa];refine zeR (S:=S1) ?_ (λσ=>∃x,σ=[ae (.ref a),ae (.tup (.str s::encs ts)),ae (.int n),ae (.ref q),x]) zaW (λt=>if t.1 == s then ae (enc ((zal n t).fill (ts.map (Tr.mk B (zal n))))) else none) B _ ⟨_,rfl⟩ (λt ht σ N hI hno hret=>?_) (λe σ hI=>?_) λw e S' sb=>?_
   ·exact fa
   ·obtain⟨x,rfl⟩:=hI;simp only[zgc];have ee:zaW t= .tup [.str t.1,enc t.2.1,enc t.2.2]:=rfl;rw[ee];walk_at "wp";cases e:t.1 == s with
    |true=>
     rw[e]at hret
     try walk_at "wp"
     rw[zmD t hn];dsimp only;have et:t.1=s:=by simpa using e
     have hgw:=hg.wt t ht;refine zgv 4 (hg.dp t ht) (by omega) fq ?_ (by omega) (hret _ rfl _ .refl);rw[aq,hh.1 t (by rw[←et];exact zcW hnd ht)];exact hg.fits t ht
    |false=>
     rw[e]at hno;exact hno rfl _ _ ⟨_,rfl⟩ .refl
   ·obtain⟨x,rfl⟩:=hI;rw[zku]at e;have e0:zaN B s=none:=by
     cases z:zaN B s with
     |none=>rfl
     |some t=>rw[z]at e;cases e
    rw[zhv e0]at h
    try walk_at "wp"
    rw[zjo]
    try rw[zai fq]
    try walk_at "wp"
    simp only[enc]at h;refine⟨zak ?_,_,sub,h⟩;rw[zbh,aq];omega
   ·rw[zku]at e;cases z:zaN B s with
    |none=>rw[z]at e;cases e
    |some t=>
     rw[z]at e;rw[zik z]at h;cases e;exact⟨_,sub.trans sb,h⟩
theorem ziI{t:Tr}{r:Nat}{Q:WK}{E:Str→Sto→Prop}(ha:S a=ae (.lst (B.map zaW))) (hg:SidesW (zal 1) B) (hd:t.depth≤40) (hr:60≤r) (hh:t.ar B) (hw:t.weight≤1000) (hwd:(t.mk B (zal 1)).wd)
  (h1:(t.mk B (zal 1)).small=true→Q (enc (t.mk B (zal 1))) S) (h2:(t.mk B (zal 1)).small=false→E "TooGreat" S):zeS (r+1) [.ref a,enc t] S Q E:=by
 obtain⟨r,rfl⟩:∃r',r=r'+5:=⟨r - 5,by omega⟩
 rw[zeS];walk_at "wp";refine zhQ ha (.inl rfl) hg 40 (r:=r+4) hd (by omega) hh hw ?_;rw[zbo];walk_at "wp";refine zfq (r:=r+1) hwd ?_;cases e:(t.mk B (zal 1)).small with
 |true=>
  try walk_at "wp"
  exact⟨_, .refl,_, .refl,h1 e⟩
 |false=>
  try walk_at "wp"
  try rw[zhi]
  try walk_at "wp"
  exact⟨zak (by decide),h2 e⟩
theorem znQ{t:Tr}{r:Nat}{Q:WK}{E:Str→Sto→Prop}(ha:S a=ae (.lst (B.map zaW))) (hg:SidesW (zal 2) B) (hd:t.depth≤40) (hr:60≤r) (hh:t.ar B) (hw:t.weight≤1000) (hwd:(t.mk B (zal 2)).wd)
  (h1:(t.mk B (zal 2)).small=true→Q (enc (t.mk B (zal 2))) S) (h2:(t.mk B (zal 2)).small=false→E "TooGreat" S):zfk (r+1) [.ref a,enc t] S Q E:=by
 obtain⟨r,rfl⟩:∃r',r=r'+5:=⟨r - 5,by omega⟩
 rw[zfk];walk_at "wp";refine zhQ ha (.inr rfl) hg 40 (r:=r+4) hd (by omega) hh hw ?_;rw[zbo];walk_at "wp";refine zfq (r:=r+1) hwd ?_;cases e:(t.mk B (zal 2)).small with
 |true=>
  try walk_at "wp"
  exact⟨_, .refl,_, .refl,h1 e⟩
 |false=>
  try walk_at "wp"
  try rw[zhi]
  try walk_at "wp"
  exact⟨zak (by decide),h2 e⟩
end
noncomputable def szW (t:Tr):W:= .tup [.int t.weight, .int t.depth]
theorem zij{α:Type}(f:α→Int):∀xs:List α,zbt (xs.map λx=>W.int (f x))=ae (xs.map f)
 | []=>rfl
 |x::xs=>by rw[az,zbt,zij f xs];rfl
theorem zlJ:∀ts:List Tr,(ts.map λt=>(t.weight:Int)).sum=(wts ts:Int)
 | []=>rfl
 |t::ts=>by rw[az,iy,zlJ ts,wts];push_cast;rfl
theorem zuB (ns:List Int):∀(k j:Nat),j≤k→ns.getD j 0≤pmx ns k
 |0,j,h=>by
  rw[Nat.le_zero.mp h,pmx];exact Int.le_refl _
 |k+1,j,h=>by
  rw[pmx];rcases dt j (k+1) with z |z
  ·have:=zuB ns k j (by omega);split<;>omega
  ·have e:j=k+1:=by omega
   subst e;split<;>omega
theorem zuW (ns:List Int):∀k:Nat,∃j,j≤k∧pmx ns k=ns.getD j 0
 |0=>⟨0,au _,rfl⟩
 |k+1=>by
  rw[pmx];split
  ·exact⟨k+1,au _,rfl⟩
  ·obtain⟨j,h1,h2⟩:=zuW ns k;exact⟨j,by omega,h2⟩
theorem zuJ:∀{ts:List Tr},ts≠ []→ ∃t∈ts,t.depth=dts ts
 | [],h=>absurd rfl h
 | [t],_=>⟨t,by simp,by simp [dts]⟩
 |t::u::ts,_=>by
  obtain⟨x,hx,e⟩:=zuJ (ts:=u::ts) (by simp);rcases Nat.le_total t.depth (dts (u::ts)) with z |z
  ·exact⟨x,aG _ hx,e.trans (Nat.max_eq_right z).symm⟩
  ·exact⟨t,aO,(Nat.max_eq_left z).symm⟩
theorem zqp (ts:List Tr):(if(ts.map λt=>(t.depth:Int))=[] then(0:Int) else pmx (ts.map λt=>(t.depth:Int)) ((ts.map λt=>(t.depth:Int)).length - 1))=(dts ts:Int):=by
 by_cases h:ts=[]
 ·subst h;rfl
 ·have hl:0<ts.length:=gR.mpr h;rw[if_neg (by simpa using h),aq];have g:∀j,j<ts.length→(ts.map λt=>(t.depth:Int)).getD j 0=((ts[j]?.getD (.bl 0)).depth:Int):=λj hj=>by simp [hj]
  apply Int.le_antisymm
  ·obtain⟨j,h1,h2⟩:=zuW (ts.map λt=>(t.depth:Int)) (ts.length - 1);rw[h2,g j (by omega),aQ (by omega)];have:=zcP (fD (l:=ts) (n:=j) (by omega));simp only[iK];omega
  ·obtain⟨t,ht,e⟩:=zuJ h;obtain⟨j,hj,ej⟩:=List.mem_iff_getElem.mp ht;have:=zuB (ts.map λt=>(t.depth:Int)) (ts.length - 1) j (by omega);rw[g j hj,aQ hj,ej]at this;simp only[iK]at this;omega
theorem zgw (us:List Tr):∀ts:List Tr,fills us ts=ts.map (Tr.fill us)
 | []=>by simp [fills]
 |t::ts=>by rw[fills,zgw us ts];rfl
section
variable {t:Tn}
theorem zdo (t:Tr):t.small=false↔((400:Int)<t.weight∨(40:Int)<t.depth):=by
 unfold Tr.small;rw[Bool.and_eq_false_iff,decide_eq_false_iff_not,decide_eq_false_iff_not];omega
end
noncomputable def stk (x:Tr):List Str→Tr
 | []=>x
 |h::hs=> .nd h [stk x hs]
section
variable {w1 w2:Str}
structure Fit (B:List Tn) (X:Tr):Prop where
  dp:X.depth≤40
  wt:X.weight≤1000
  ar:X.ar B
  w1:(X.mk B (zal 1)).wd
  w2:(X.mk B (zal 2)).wd
  hd:X.hd λ_=>True
end
theorem zyo (s:Str) (ts:List Tr):szW (.nd s ts)= .tup [.int (1+(wts ts:Int)), .int (1+(dts ts:Int))]:=by
 unfold szW;rw[Tr.weight,Tr.depth]
 push_cast
 rfl
section
variable {B:List Tn}
theorem zhD{g:Tn→W}(s:Str):∀B:List Tn,B.findSome? (λt=>if t.1 == s then ae (g t) else none)=(zaN B s).map g
 | []=>rfl
 |t::B=>by
  unfold zaN;rw[dF,bW];cases e:t.1 == s with
  |true=>rfl
  |false=>exact zhD s B
end
section
variable {S:Sto}{a:Addr}{B:List Tn}{r:Nat}{Q:WK}{E:Str→Sto→Prop}{X Y:Tr}
theorem zub{t:Tr}(h:t.small=true):t.depth<60:=by
 rcases dt t.depth 60 with z |z
 ·exact z
 ·have:=(zdo t).mpr (.inr (by omega));rw[this]at h;cases h
theorem zoO (ha:S a=ae (.lst (B.map zaW))) (hg:SidesW (zal 1) B) (fX:Fit B X) (fY:Fit B Y) (hr:62≤r)
  (h1:(X.mk B (zal 1)).small=false∨(Y.mk B (zal 1)).small=false→E "TooGreat" S)
  (h2:(X.mk B (zal 1)).small=true→(Y.mk B (zal 1)).small=true→X.mk B (zal 1)≠Y.mk B (zal 1)→E "Apart" S)
  (h3:(X.mk B (zal 1)).small=true→(Y.mk B (zal 1)).small=true→X.mk B (zal 1)=Y.mk B (zal 1)→Q (enc (X.mk B (zal 1))) S):zcp (r+1) [.ref a,enc X,enc Y] S Q E:=by
 obtain⟨r,rfl⟩:∃r',r=r'+1:=⟨r - 1,by omega⟩
 rw[zcp];walk_at "wp";refine ziI ha hg fX.dp (by omega) fX.ar fX.wt fX.w1 (λe=>?_) λe=>h1 (.inl e);refine ziI ha hg fY.dp (by omega) fY.ar fY.wt fY.w1 (λe2=>?_) λe2=>h1 (.inr e2);rw[ztZ 60 _ _ (zub e2)];cases z:(Y.mk B (zal 1)).same (X.mk B (zal 1)) with
 |true=>
  try walk_at "wp"
  exact⟨_, .refl,h3 e e2 ((zhm _ _).mp z).symm⟩
 |false=>
  try walk_at "wp"
  try rw[zhi]
  try walk_at "wp"
  refine⟨zak (by decide),h2 e e2 λk=>?_⟩;rw[k,zhw]at z;cases z
end
section
theorem znd{us:List Tr}{q:Addr}:∀(d:Nat) {t:Tr}{r:Nat}{S:Sto}{Q:WK}{E:Str→Sto→Prop},t.depth≤d→d≤r→S q=ae (.lst (us.map szW))→t.fits us.length→t.weight≤1000→Q (szW (t.fill us)) S→zaS (r+1) [enc t, .ref q] S Q E
 |0,t,r,S,Q,E,hd,hr,hq,hf,hw,h=>by have:=zbc t;omega
 |d+1, .bl n,r,S,Q,E,hd,hr,hq,hf,hw,h=>by
  simp only[Tr.fits]at hf;simp only[Tr.fill]at h;rw[zaS];have e0:enc (.bl n)= .int n:=by simp only[enc]
  rw[e0];walk_at "wp";have e:atI (us.map szW) n=ae (szW (us.getD n.toNat (.bl n))):=by
   have q:=zcy (xs:=us.map szW) (n:=n.toNat);rw[cT hf.1]at q;rw[q,bv,bt,aQ (by omega)];rfl
  rw[zai hq,e];exact⟨S, .refl,h⟩
 |d+1, .nd s ts,r,S,Q,E,hd,hr,hq,hf,hw,h=>by
  simp only[Tr.depth]at hd;simp only[Tr.weight]at hw;simp only[Tr.fits]at hf;have hk:=zbx ts;obtain⟨r,rfl⟩:∃r',r=r'+1:=⟨r - 1,by omega⟩
  have en:enc (.nd s ts)= .tup (.str s::encs ts):=by simp [enc]
  rw[zaS,en];walk_at "wp";rw[zaB];refine zaw (λσ=>∃x,σ=[x,ae (.ref q)]) enc (λt=>szW (t.fill us)) trivial ts [] _ ⟨none,rfl⟩ (by simp;omega) (λx hx σ R hI hR=>?_) ?_
  ·obtain⟨y,rfl⟩:=hI;simp only[zdD];walk_at "wp";exact znd d (by have:=zcP hx;omega) (by omega) hq (zgf hf hx) (by have:=zcl hx;omega) (hR _ _ ⟨_,rfl⟩ .refl)
  ·rw[aR];intro q2 hq2;have fq:put S q2 (Ob.lst (ts.map λt=>szW (t.fill us))) q2=ae (.lst (ts.map λt=>szW (t.fill us))):=zah;have sub:Sub S (put S q2 (Ob.lst (ts.map λt=>szW (t.fill us)))):= .put .refl hq2;generalize put S q2 (Ob.lst (ts.map λt=>szW (t.fill us)))=S1 at fq sub⊢
   try walk_at "wp"
   try rw[zai fq]
   refine zaw (λσ=>∃x,σ=[x]) (λt:Tr=>szW (t.fill us)) (λt=>W.int ((t.fill us).weight:Int)) fq ts [] _ ⟨none,rfl⟩ (by simp;omega) (λx hx σ R hI hR=>?_) ?_
   ·obtain⟨y,rfl⟩:=hI;simp only[zdJ,szW];walk_at "wp";exact hR _ _ ⟨_,rfl⟩ .refl
   ·rw[aR,zij λt:Tr=>((t.fill us).weight:Int)];dsimp only;rw[znc];walk_at "wp"
    try rw[zai fq]
    refine zaw (λσ=>∃x,σ=[x]) (λt:Tr=>szW (t.fill us)) (λt=>W.int ((t.fill us).depth:Int)) fq ts [] _ ⟨none,rfl⟩ (by simp;omega) (λx hx σ R hI hR=>?_) ?_
    ·obtain⟨y,rfl⟩:=hI;simp only[zdC,szW];walk_at "wp";exact hR _ _ ⟨_,rfl⟩ .refl
    ·rw[aR,zij λt:Tr=>((t.fill us).depth:Int)]
     try walk_at "wp"
     have em:∀f:Tr→Int,(ts.map λt=>f (t.fill us))=(ts.map (Tr.fill us)).map f:=λf=>by rw[bb];rfl
     have e1:=zlJ (ts.map (Tr.fill us));have e2:=zqp (ts.map (Tr.fill us));rw[←em λt=>(t.weight:Int)]at e1;rw[←em λt=>(t.depth:Int)]at e2;rw[e1,e2];refine⟨zak (by decide),_,sub,?_⟩;rw[Tr.fill,zgw,zyo]at h;exact h
end
section
variable {S:Sto}{a:Addr}{B:List Tn}
theorem zkg (hnd:(B.map λt=>t.1).Nodup) (ha:S a=ae (.lst (B.map zaW))) (hg:SidesW (zal 2) B):∀(d:Nat) {t:Tr}{r:Nat}{Q:WK}{E:Str→Sto→Prop},t.depth≤d→d+10≤r→t.ar B→t.weight≤1000→Q (szW (t.mk B (zal 2))) S→zbk (r+1) [.ref a,enc t] S Q E
 |0,t,r,Q,E,hd,hr,hh,hw,h=>by have:=zbc t;omega
 |d+1, .bl k,r,Q,E,hd,hr,hh,hw,h=>by simp [Tr.ar]at hh
 |d+1, .nd s ts,r,Q,E,hd,hr,hh,hw,h=>by
  simp only[Tr.depth]at hd;simp only[Tr.weight]at hw;simp only[Tr.ar]at hh;have hk:=zbx ts;obtain⟨r,rfl⟩:∃r',r=r'+1:=⟨r - 1,by omega⟩
  have en:enc (.nd s ts)= .tup (.str s::encs ts):=by simp [enc]
  rw[zbk,en];walk_at "wp";rw[zaB];refine zaw (λσ=>∃x,σ=[x,ae (.ref a)]) enc (λt=>szW (t.mk B (zal 2))) trivial ts [] _ ⟨none,rfl⟩ (by simp;omega) (λx hx σ R hI hR=>?_) ?_
  ·obtain⟨y,rfl⟩:=hI;have hdx:=zcP hx;have hwx:=zcl hx;simp only[zei];walk_at "wp";exact zkg hnd ha hg d (by omega) (by omega) (ars_iff.mp hh.2 x hx) (by omega) (hR _ _ ⟨_,rfl⟩ .refl)
  ·rw[aR];intro q hq;have em:(ts.map λt=>szW (t.mk B (zal 2)))=(ts.map (Tr.mk B (zal 2))).map szW:=by rw[bb];rfl
   have fq:put S q (Ob.lst (ts.map λt=>szW (t.mk B (zal 2)))) q=ae (.lst (ts.map λt=>szW (t.mk B (zal 2)))):=zah;have fa:=keep (x:=Ob.lst (ts.map λt=>szW (t.mk B (zal 2)))) ha hq;have sub:Sub S (put S q (Ob.lst (ts.map λt=>szW (t.mk B (zal 2))))):= .put .refl hq;rw[←zaB];generalize put S q (Ob.lst (ts.map λt=>szW (t.mk B (zal 2))))=S1 at fq fa sub⊢
   try walk_at "wp"
   rw[zai fa];refine zeR (S:=S1) ?_ (λσ=>∃x,σ=[ae (.ref a),ae (.tup (.str s::encs ts)),ae (.ref q),x]) zaW (λt=>if t.1 == s then ae (szW ((zal 2 t).fill (ts.map (Tr.mk B (zal 2))))) else none) B _ ⟨_,rfl⟩ (λt ht σ N hI hno hret=>?_) (λe σ hI=>?_) λw e S' sb=>?_
   ·exact fa
   ·obtain⟨x,rfl⟩:=hI;simp only[zef];have ee:zaW t= .tup [.str t.1,enc t.2.1,enc t.2.2]:=rfl;rw[ee];walk_at "wp";cases e:t.1 == s with
    |true=>
     rw[e]at hret
     try walk_at "wp"
     rw[zmD t (.inr rfl)];dsimp only;have et:t.1=s:=by simpa using e
     have hgw:=hg.wt t ht;rw[em]at fq;refine znd 4 (hg.dp t ht) (by omega) fq ?_ (by omega) (hret _ rfl _ .refl);rw[aq,hh.1 t (by rw[←et];exact zcW hnd ht)];exact hg.fits t ht
    |false=>
     rw[e]at hno;exact hno rfl _ _ ⟨_,rfl⟩ .refl
   ·obtain⟨x,rfl⟩:=hI;rw[zhD]at e;have e0:zaN B s=none:=by
     cases z:zaN B s with
     |none=>rfl
     |some t=>rw[z]at e;cases e
    rw[zhv e0]at h
    try walk_at "wp"
    try rw[zai fq]
    refine zaw (λσ=>∃x,σ=[x]) (λt:Tr=>szW (t.mk B (zal 2))) (λt=>W.int ((t.mk B (zal 2)).weight:Int)) fq ts [] _ ⟨none,rfl⟩ (by simp;omega) (λx hx σ R hI hR=>?_) ?_
    ·obtain⟨y,rfl⟩:=hI;simp only[zdY,szW];walk_at "wp";exact hR _ _ ⟨_,rfl⟩ .refl
    ·rw[aR,zij λt:Tr=>((t.mk B (zal 2)).weight:Int)];dsimp only;rw[znc];walk_at "wp"
     try rw[zai fq]
     refine zaw (λσ=>∃x,σ=[x]) (λt:Tr=>szW (t.mk B (zal 2))) (λt=>W.int ((t.mk B (zal 2)).depth:Int)) fq ts [] _ ⟨none,rfl⟩ (by simp;omega) (λx hx σ R hI hR=>?_) ?_
     ·obtain⟨y,rfl⟩:=hI;simp only[zed,szW];walk_at "wp";exact hR _ _ ⟨_,rfl⟩ .refl
     ·rw[aR,zij λt:Tr=>((t.mk B (zal 2)).depth:Int)]
      try walk_at "wp"
      have ew:∀f:Tr→Int,(ts.map λt=>f (t.mk B (zal 2)))=(ts.map (Tr.mk B (zal 2))).map f:=λf=>by rw[bb];rfl
      have e1:=zlJ (ts.map (Tr.mk B (zal 2)));have e2:=zqp (ts.map (Tr.mk B (zal 2)));rw[←ew λt=>(t.weight:Int)]at e1;rw[←ew λt=>(t.depth:Int)]at e2;rw[e1,e2];refine⟨zak (by decide),_,sub,?_⟩;rw[zyo]at h;exact h
   ·rw[zhD]at e;cases z:zaN B s with
    |none=>rw[z]at e;cases e
    |some t=>
     rw[z]at e;rw[zik z]at h;cases e;exact⟨_,sub.trans sb,h⟩
theorem zpv{t:Tr}{r:Nat}{Q:WK}{E:Str→Sto→Prop}(hnd:(B.map λt=>t.1).Nodup) (ha:S a=ae (.lst (B.map zaW))) (hg:SidesW (zal 2) B) (hdp:t.depth≤40) (har:t.ar B) (hwt:t.weight≤1000) (hr:60≤r) (h:Q (.bl (!(t.mk B (zal 2)).small)) S):zaq (r+1) [.ref a,enc t] S Q E:=by
 obtain⟨r,rfl⟩:∃r',r=r'+1:=⟨r - 1,by omega⟩
 rw[zaq];walk_at "wp";refine zkg hnd ha hg 40 hdp (by omega) har hwt ?_;unfold szW
 try walk_at "wp"
 have e1:atI [W.int ((t.mk B (zal 2)).weight:Int),W.int ((t.mk B (zal 2)).depth:Int)] 0=ae (W.int ((t.mk B (zal 2)).weight:Int)):=rfl;have e2:atI [W.int ((t.mk B (zal 2)).weight:Int),W.int ((t.mk B (zal 2)).depth:Int)] 1=ae (W.int ((t.mk B (zal 2)).depth:Int)):=rfl
 try simp only[e1,e2]
 try walk_at "wp"
 by_cases z:(400:Int)<((t.mk B (zal 2)).weight:Int)
 ·rw[(zdo _).mpr (.inl z)]at h;simp only[z,decide_true,if_true];exact⟨_, .refl,h⟩
 ·simp only[z,decide_false,if_false,gr];by_cases y:(40:Int)<((t.mk B (zal 2)).depth:Int)
  ·rw[(zdo _).mpr (.inr y)]at h;simp only[y,decide_true];exact⟨_, .refl,h⟩
  ·have e:(t.mk B (zal 2)).small=true:=by
    cases e:(t.mk B (zal 2)).small with
    |true=>rfl
    |false=>rcases(zdo _).mp e with k |k<;>contradiction
   rw[e]at h;simp only[y,decide_false];exact⟨_, .refl,h⟩
end
mutual
theorem znz{us:List Tr}(hu:∀u∈us,u.wd):∀t:Tr,t.weight≤1000→(t.fill us).wd
 | .bl n,h=>by
  rw[Tr.fill,bt];cases e:us[n.toNat]? with
  |none=>exact trivial
  |some u=>exact hu u (bE e)
 | .nd s ts,h=>by
  rw[Tr.weight]at h;have:=zbx ts;rw[Tr.fill];refine⟨?_,zlu hu ts (by omega)⟩;rw[zgw,aq];omega
theorem zlu{us:List Tr}(hu:∀u∈us,u.wd):∀ts:List Tr,wts ts≤1000→wds (fills us ts)
 | [],h=>by rw[fills];exact trivial
 |t::ts,h=>by
  rw[wts]at h;rw[fills];exact⟨znz hu t (by omega),zlu hu ts (by omega)⟩
end
mutual
theorem zrr{B:List Tn}{g:Tn→Tr}(hg:∀t∈B,(g t).weight≤1000):∀t:Tr,t.weight≤1000→(t.mk B g).wd
 | .bl n,h=>by rw[Tr.mk];exact trivial
 | .nd s ts,h=>by
  rw[Tr.weight]at h;have hl:=zbx ts;have ih:=zuK hg ts (by omega);rw[zgA]at ih;cases e:zaN B s with
  |none=>
   rw[zhv e];exact⟨by rw[aq];omega,ih⟩
  |some u=>
   rw[zik e];exact znz (wds_iff.mp ih) _ (hg u (b3 e))
theorem zuK{B:List Tn}{g:Tn→Tr}(hg:∀t∈B,(g t).weight≤1000):∀ts:List Tr,wts ts≤1000→wds (mks B g ts)
 | [],h=>by rw[mks];exact trivial
 |t::ts,h=>by
  rw[wts]at h;rw[mks];exact⟨zrr hg t (by omega),zuK hg ts (by omega)⟩
end
theorem zgt{f:Tr→Tr}:∀as:List Tr,(∀x∈as,x.weight≤(f x).weight)→wts as≤wts (as.map f)
 | [],h=>by simp [wts]
 |x::as,h=>by
  have:=zgt as λy hy=>h y (aG _ hy);have:=h x aO;rw[az,wts,wts];omega
theorem zgB{f:Tr→Tr}:∀as:List Tr,(∀x∈as,x.depth≤(f x).depth)→dts as≤dts (as.map f)
 | [],h=>by simp [dts]
 |x::as,h=>by
  have:=zgB as λy hy=>h y (aG _ hy);have:=h x aO;rw[az,dts,dts];omega
section
variable {ws:List Str}{B:List Tn}
theorem znO (K:Bk3 ws B):∀(n:Nat) (x:Tr),x.weight≤n→Wy ws B x→x.weight≤(src B x).weight∧x.depth≤(src B x).depth
 |0,x,hn,h=>by have:=zdW x;omega
 |n+1,x,hn,h=>by
  rcases h.cases K.b with⟨s,as,rfl,hs,e,hk⟩ |⟨t,as,ht,rfl,e,hl,hk⟩
  ·rw[Tr.weight]at hn;have ih:∀y∈as,y.weight≤(src B y).weight∧y.depth≤(src B y).depth:=λy hy=>znO K n y (by have:=zcl hy;omega) (hk y hy);have h1:=zgt (f:=src B) as λy hy=>(ih y hy).1;have h2:=zgB (f:=src B) as λy hy=>(ih y hy).2;show _≤(Tr.mk B _ (Tr.nd s as)).weight∧_≤(Tr.mk B _ (Tr.nd s as)).depth;rw[zdQ e,Tr.weight,Tr.weight,Tr.depth,Tr.depth];exact⟨gu h1 1,gu h2 1⟩
  ·rw[Tr.weight]at hn;have ih:∀y∈as,y.weight≤(src B y).weight∧y.depth≤(src B y).depth:=λy hy=>znO K n y (by have:=zcl hy;omega) (hk y hy);have h1:=zgt (f:=src B) as λy hy=>(ih y hy).1;have h2:=zgB (f:=src B) as λy hy=>(ih y hy).2;obtain⟨_,g1,g2⟩:=K.O.fill ht (us:=as.map (src B)) (by rw[aq,hl]);show _≤(Tr.mk B _ (Tr.nd t.1 as)).weight∧_≤(Tr.mk B _ (Tr.nd t.1 as)).depth;rw[zds e,Tr.weight,Tr.depth];exact⟨bi (gu h1 1) g1,bi (gu h2 1) g2⟩
def zil (B:List Tn) (wn:List (List Int)) (p:List Int) (t:Tr):Prop:=∀e v,t.at e=ae v→(p++e∈wn↔(zcT B v).isSome=true)
theorem zjG{wn:List (List Int)}{n:Nat}{p:List Int}(ih:∀{t u:Tr}{p:List Int},Wi B wn n p t u→Sh ws B t→zil B wn p t→u.us B p=t.op B p):∀{qs:List (List Int)}{ts us:List Tr},Wis B wn n p qs ts us→aL (λq t=>Sh ws B t∧zil B wn (p++q) t) qs ts→usz B p qs us=opz B p qs ts
 |_,_,_, .nil,_=>rfl
 |_,_,_, .cons a b,h=>by
  cases h with
  |cons c d=>
   simp only[usz,opz];rw[ih a c.1 c.2,zjG ih b d]
theorem zlR{w0 w1 w2 w3 w4 w5:Str}{tt:List Str}(b:BookOk w0 w1 w2 w3 w4 w5 tt B) (G:Signs w0 w1 w2 w3 w4 w5) (K:Bk3 ws B) {wn:List (List Int)}:∀(n:Nat) {t u:Tr}{p:List Int},Wi B wn n p t u→Sh ws B t→zil B wn p t→u.us B p=t.op B p
 |0,t,u,p,W,h,hw=>nomatch W
 |n+1,t,u,p,W,h,hw=>by
  have at0:∀(s:Str) (ts:List Tr),(Tr.nd s ts).at []=ae (.nd s ts):=λs ts=>by rw[Tr.at]
  cases W with
  | @no _ _ s ts us hp e W=>
   have ho:zcT B (.nd s ts)=none:=by
    cases k:zcT B (.nd s ts) with
    |none=>rfl
    |some v=>
     have:=(hw [] _ (at0 s ts)).mpr (by rw[k];rfl);rw[bG]at this;exact absurd this hp
   obtain⟨s',ts',e0,hs,_,k⟩:=h.cases K;cases e0;have pr:∀(i:Nat) (xs:List Tr),(∀(j:Nat) x,xs[j]? =ae x→ts[i+j]? =ae x)→aL (λq t=>Sh ws B t∧zil B wn (p++q) t) ((fv i xs.length).map λ(i:Nat)=>[(i:Int)]) xs:=by
    intro i xs
    induction xs generalizing i with
    |nil=>intro _;exact .nil
    |cons x xs ih=>
     intro hx;have hi:=hx 0 x rfl;rw[gq]at hi;have hm:x∈ts:=bE hi;rw[aW,f8,az];refine .cons ⟨k x hm,λe' v' h6=>?_⟩ (ih (i+1) λj y hy=>?_)
     ·have:=hw ((i:Int)::e') v' (by rw[zsa hi];exact h6);rw[bN];exact this
     ·have:=hx (j+1) y (by rw[d_];exact hy);rw[show i+1+j=i+(j+1) by omega]
      exact this
   have pr0:=pr 0 ts λj x h=>by rw[cL];exact h
   have wl:us.length=ts.length:=W.len;rw[zwO e,wl,Tr.op,ho];show usz B p _ us=[]++ops B p 0 ts;rw[aR,zri,gh];rw[gh]at W;exact zjG (zlR b G K n) W pr0
  | @yes _ _ s ts us ms u hp ho hm et W=>
   have hu:u∈B:=b3 ho;obtain⟨f1,f2,f3⟩:=h.parts K hu hm;have pr:∀{qs:List (List Int)}{xs:List Tr},(∀x∈xs,Sh ws B x)→aL (λq m=>(Tr.nd s ts).at q=ae m) qs xs→aL (λq t=>Sh ws B t∧zil B wn (p++q) t) qs xs:=by
    intro qs xs h2 h3
    induction h3 with
    |nil=>exact .nil
    | @cons q m qs xs h4 _ ih=>
     refine .cons ⟨h2 m (by simp),λe' v' h6=>?_⟩ (ih λx hx=>h2 x (aG _ hx));have:=hw (q++e') v' (by rw[znB _ e' h4];exact h6);rw[bN];exact this
   have z:=zjG (zlR b G K n) W (pr f3 (zrb hm));rw[zvB et,z,Tr.op,ho];show _=[(p,u.1)]++ops B p 0 ts;rw[List.singleton_append];congr 1;obtain⟨m,hL⟩:=b.mem_lefts hu;have o2:∀xs,zcT B (.nd w2 xs)=none:=λxs=>b.open_none (G.n0 w2 (by simp)) (G.n1 w2 (by simp));have o3:∀xs,zcT B (.nd w3 xs)=none:=λxs=>b.open_none (G.n0 w3 (by simp)) (G.n1 w3 (by simp));rcases hL with hL |hL
   ·obtain⟨ks,ek⟩:=zcs hL;have:=zkT hL o2 o3 f2 ek p;rw[ek,Tr.fill]at f1;injection f1 with _ f1;rw[f1];exact this.symm
   ·obtain⟨ks,ek⟩:=zcs hL;have:=zkT hL o2 o3 f2 ek p;rw[ek,Tr.fill]at f1;injection f1 with _ f1;rw[f1];exact this.symm
theorem Sh.all{t:Tr}(h:Sh ws B t):zil B (opl B t) [] t:=λe v hv=>by
 have ft:=zfy (m:=0) _ h.hdT;rw[aR];constructor
 ·intro he;exact h.wn (λq hq=>hq) e he e v (by simp) hv
 ·intro ho;obtain⟨u,ho⟩:=dh.mp ho;have m:=zuz t [] e v hv;rw[aR]at m;unfold opl;rw[←zsl B t [] ft];refine aU.mpr ⟨(e,u.1),gC.mpr ⟨(e,v),m,?_⟩,rfl⟩;unfold zzg;rw[ho];simp
structure Ful (ws:List Str) (B:List Tn) (t u:Tr):Prop where
  wi:Wi B (opl B t) t.depth [] t u
  sr:src B u=t
  wy:Wy ws B u
  us:u.us B []=t.op B []
theorem zxw{w0 w1 w2 w3 w4 w5:Str}{tt:List Str}(b:BookOk w0 w1 w2 w3 w4 w5 tt B) (G:Signs w0 w1 w2 w3 w4 w5) (K:Bk3 ws B) {t:Tr}(h:Sh ws B t):∃u,Ful ws B t u:=by
 obtain⟨u,wi,e,y,_⟩:=ztT K t.depth t [] (au _) h (h.wn λq hq=>hq);exact⟨u,wi,e,y,zlR b G K _ wi h h.all⟩
open Classical in
noncomputable def fw (ws:List Str) (B:List Tn) (t:Tr):Tr:=if h:∃u,Ful ws B t u then choose h else t
theorem zjS{w0 w1 w2 w3 w4 w5:Str}{tt:List Str}(b:BookOk w0 w1 w2 w3 w4 w5 tt B) (G:Signs w0 w1 w2 w3 w4 w5) (K:Bk3 ws B) {t:Tr}(h:Sh ws B t):Ful ws B t (fw ws B t):=by
 have e:=zxw b G K h;unfold fw;rw[dif_pos e];exact kJ e
noncomputable def hh (ws:List Str) (B:List Tn) (t:Tr):Nat→Tr
 |0=>t
 |k+1=>gol B (fw ws B (hh ws B t k))
noncomputable def wys (ws:List Str) (B:List Tn) (t:Tr) (k:Nat):List Tr:=(bc k).map λi=>fw ws B (hh ws B t i)
def Go (ws:List Str) (B:List Tn) (t:Tr) (l:Nat) (i:Nat):Prop:=i<l∧(hh ws B t i).op B []≠ []∧(hh ws B t (i+1)).small=true
def Out (ws:List Str) (B:List Tn) (t:Tr) (l:Nat) (k:Nat) (z:Bool):Prop:=(∀i,i<k→Go ws B t l i)∧match z with
 |false=>l≤k∨(hh ws B t k).op B []=[]
 |true=>k<l∧(hh ws B t k).op B []≠ []∧(hh ws B t (k+1)).small=false
theorem zqv{w0 w1 w2 w3 w4 w5:Str}{tt:List Str}(b:BookOk w0 w1 w2 w3 w4 w5 tt B) (G:Signs w0 w1 w2 w3 w4 w5) (K:Bk3 ws B) {t:Tr}(h:Sh ws B t):∀k,Sh ws B (hh ws B t k)
 |0=>h
 |k+1=>by
  have f:=zjS b G K (zqv b G K h k);obtain⟨g1,g2,_,_⟩:=K.gol f.wy;exact⟨g1,g2⟩
theorem znr{t:Tr}{l k:Nat}(h0:t.small=true) (h:∀i,i<k→Go ws B t l i):(hh ws B t k).small=true:=by
 cases k with
 |zero=>exact h0
 |succ k=>exact(h k (by omega)).2.2
theorem zjB{t:Tr}(k:Nat):wys ws B t (k+1)=wys ws B t k++[fw ws B (hh ws B t k)]:=by
 unfold wys;rw[fT,bI];rfl
theorem zme{t:Tr}(k:Nat):(wys ws B t k).length=k:=by
 unfold wys;rw[aq,i4]
end
theorem ztW{S S1:Sto}{a:Addr}{x y:Ob}(h:Sub (put S a x) S1):Sub (put S a y) (put S1 a y):=λb o e=>by
 by_cases z:b=a
 ·subst z;rw[zah]at e⊢;exact e
 ·rw[zaG z]at e⊢;exact h b o (by rw[zaG z];exact e)
theorem zek{t:Tr}(h:t.small=true):t.weight≤400∧t.depth≤40:=by
 have no:¬t.small=false:=by rw[h];simp
 constructor
 ·rcases dt 400 t.weight with z |z
  ·exact absurd ((zdo t).mpr (.inl (by omega))) no
  ·exact z
 ·rcases dt 40 t.depth with z |z
  ·exact absurd ((zdo t).mpr (.inr (by omega))) no
  ·exact z
structure CxB (w0 w1 w2 w3 w4 w5:Str) (tt:List Str) (B:List Tn):Prop where
  b:BookOk w0 w1 w2 w3 w4 w5 tt B
  T:Titles tt
  G:Signs w0 w1 w2 w3 w4 w5
  sl:Slim B
structure WyF (ws:List Str) (B:List Tn) (x u:Tr):Prop where
  f:Ful ws B x u
  wt:u.weight≤400
  dp:u.depth≤40
  ar:u.ar B
  hd:u.hd λ_=>True
  wd:(u.mk B (zal 2)).wd
section
variable {w0 w1 w2 w3 w4 w5:Str}{tt:List Str}{B:List Tn}{t:Tr}{S:Sto}{a:Addr}{r:Nat}{Q:WK}{E:Str→Sto→Prop}
theorem CxB.bk (c:CxB w0 w1 w2 w3 w4 w5 tt B):BkOk [w0,w1,w2,w3,w4,w5] [w2,w3,w4,w5] B:=c.b.bk c.T c.G
theorem CxB.K (c:CxB w0 w1 w2 w3 w4 w5 tt B):Bk2 [w0,w1,w2,w3,w4,w5] B:=c.b.bk2 c.T c.G c.sl
theorem CxB.L (c:CxB w0 w1 w2 w3 w4 w5 tt B):Lft B:=⟨λt ht=>(c.bk.lf t ht).dp,λt ht=>by
 have h1:=(c.bk.lf t ht).wt;have h2:=(c.bk.lf t ht).nb;omega⟩
theorem CxB.P (c:CxB w0 w1 w2 w3 w4 w5 tt B):PB B:=λt ht x hx=>by
 have h1:=(zrc hx).2.2;have h2:=c.L.d t ht;omega
theorem CxB.g2 (c:CxB w0 w1 w2 w3 w4 w5 tt B):SidesW (zal 2) B:=⟨λt ht=>(c.b.ri t ht).fits,λt ht=>(c.b.ri t ht).dp,λt ht=>bi (c.b.ri t ht).wt (by decide)⟩
theorem CxB.way (c:CxB w0 w1 w2 w3 w4 w5 tt B) {x:Tr}(h:Sh [w0,w1,w2,w3,w4,w5] B x) (hs:x.small=true):WyF [w0,w1,w2,w3,w4,w5] B x (fw [w0,w1,w2,w3,w4,w5] B x):=by
 have f:=zjS c.b c.G c.K h;obtain⟨h1,h2⟩:=znO c.K _ _ (au _) f.wy;rw[f.sr]at h1 h2;obtain⟨h3,h4⟩:=zek hs;exact⟨f,by omega,by omega,f.wy.ar,zhR (λ_ _=>trivial) _ f.wy.hd,zrr (λt ht=>bi (c.g2.wt t ht) (by decide)) _ (by omega)⟩
theorem zpe (c:CxB w0 w1 w2 w3 w4 w5 tt B) (ha:S a=ae (.lst (B.map zaW))) {x:Tr}(h:Sh [w0,w1,w2,w3,w4,w5] B x) (hs:x.small=true) (hr:120≤r) (q:Q (enc (fw [w0,w1,w2,w3,w4,w5] B x)) S):zee (r+1) [.ref a,enc x] S Q E:=by
 have w:=c.way h hs;obtain⟨h3,h4⟩:=zek hs;have hl:=zls B x [];obtain⟨r,rfl⟩:∃r',r=r'+1:=⟨r - 1,by omega⟩
 rw[zee];walk_at "wp";refine zdv c.L ha (by omega) (by omega) (by omega) h.hdT λq1 hq1=>?_;refine zhZ zah (by omega) λq2 hq2=>?_;exact zix c.L c.P w.f.wi (by omega) (by omega) (keep (keep ha hq1) hq2) zah h.hdT (by omega) (by unfold opl;rw[aq];omega) ⟨_, .trans (.put .refl hq1) (.put .refl hq2),q⟩
theorem zrs (c:CxB w0 w1 w2 w3 w4 w5 tt B) (ha:S a=ae (.lst (B.map zaW))) (h:Sh [w0,w1,w2,w3,w4,w5] B t) (hs:t.small=true) {l:Nat}(hl:l≤10) (hr:130≤r)
  (h1:∀k,Out [w0,w1,w2,w3,w4,w5] B t l k false→ ∀S' q,Sub S S'→S' q=ae (.lst (encs (wys [w0,w1,w2,w3,w4,w5] B t k)))→Q (.tup [.tup [enc t, .ref q], .bl ((hh [w0,w1,w2,w3,w4,w5] B t k).op B []).isEmpty]) S')
  (h2:∀k,Out [w0,w1,w2,w3,w4,w5] B t l k true→ ∀S',Sub S S'→E "TooGreat" S'):zfC (r+1) [.ref a,enc t, .int l] S Q E:=by
 obtain⟨r,rfl⟩:∃r',r=r'+1:=⟨r - 1,by omega⟩
 rw[zfC];walk_at "wp";refine⟨aZ _,λq hq=>?_⟩;refine⟨λm σ S'=>∃k x5,m=l - k∧(∀i,i<k→Go [w0,w1,w2,w3,w4,w5] B t l i)∧S'=put S q (.lst (encs (wys [w0,w1,w2,w3,w4,w5] B t k)))∧σ=[ae (.ref a),ae (enc t),ae (.int l),ae (.ref q),ae (enc (hh [w0,w1,w2,w3,w4,w5] B t k)),x5],⟨_,0,none,rfl,λi hi=>absurd hi (Nat.not_lt_zero i),by simp [wys,encs],rfl⟩,?_⟩
 rintro m σ S' ⟨k,x5,rfl,hg,rfl,rfl⟩;have sh:=zqv c.b c.G c.K h k;have sm:=znr hs hg;obtain⟨b1,b2⟩:=zek sm;have sb:Sub S (put S q (Ob.lst (encs (wys [w0,w1,w2,w3,w4,w5] B t k)))):= .put .refl hq;have fa:=sb _ _ ha;have fq:put S q (Ob.lst (encs (wys [w0,w1,w2,w3,w4,w5] B t k))) q=ae (.lst (encs (wys [w0,w1,w2,w3,w4,w5] B t k))):=zah;have fin:∀S1,Sub (put S q (Ob.lst (encs (wys [w0,w1,w2,w3,w4,w5] B t k)))) S1→(l≤k∨(hh [w0,w1,w2,w3,w4,w5] B t k).op B []=[])→2≤sizeLine∧zsM (zan (zbj (r+1)) (zab (wVar 0) (zab (wVar 4) waNil))) (λc x S'=>E c S') [ae (.ref a),ae (enc t),ae (.int l),ae (.ref q),ae (enc (hh [w0,w1,w2,w3,w4,w5] B t k)),x5] S1 λw S1=>2≤sizeLine∧ ∃S'',Sub S'' S1∧Q (.tup [.tup [enc t, .ref q],w]) S'':=λS1 s1 hk=>by
  rw[zwt];walk_at "wp";refine⟨zak (by decide),zdv c.L (s1 _ _ fa) (by omega) (by omega) (by omega) sh.hdT λq2 hq2=>?_⟩;walk_at "wp";have ee:(((hh [w0,w1,w2,w3,w4,w5] B t k).op B []).map encX).isEmpty=((hh [w0,w1,w2,w3,w4,w5] B t k).op B []).isEmpty:=by cases(hh [w0,w1,w2,w3,w4,w5] B t k).op B []<;>rfl
  rw[ee,Bool.not_not];exact⟨zak (by decide),_, .refl,h1 k ⟨hg,hk⟩ _ q ((sb.trans s1).trans (.put .refl hq2)) (keep (s1 _ _ fq) hq2)⟩
 have w:=c.way sh sm;have eg:(fw [w0,w1,w2,w3,w4,w5] B (hh [w0,w1,w2,w3,w4,w5] B t k)).mk B (zal 2)=hh [w0,w1,w2,w3,w4,w5] B t (k+1):=by rw[zto];rfl
 have el:(encs (wys [w0,w1,w2,w3,w4,w5] B t k)).length=k:=by rw[zbh,zme]
 walk_at "wp";rw[el];split
 ·rename_i lt;refine zdv c.L fa (by omega) (by omega) (by omega) sh.hdT λq2 hq2=>?_;have s2:Sub (put S q (Ob.lst (encs (wys [w0,w1,w2,w3,w4,w5] B t k)))) (put (put S q (Ob.lst (encs (wys [w0,w1,w2,w3,w4,w5] B t k)))) q2 (Ob.lst (((hh [w0,w1,w2,w3,w4,w5] B t k).op B []).map encX))):= .put .refl hq2;walk_at "wp";cases e:(hh [w0,w1,w2,w3,w4,w5] B t k).op B []with
  |nil=>
   rw[e]at s2;simp only[dq,kc,Bool.not_true,gr,if_false];exact fin _ s2 (.inr e)
  |cons x xs=>
   rw[e]at s2;simp only[az,List.isEmpty_cons,Bool.not_false,if_true]at s2⊢;generalize put (put S q (Ob.lst (encs (wys [w0,w1,w2,w3,w4,w5] B t k)))) q2 (Ob.lst (encX x::xs.map encX))=S2 at s2⊢;have ne:(hh [w0,w1,w2,w3,w4,w5] B t k).op B []≠ []:=by rw[e];simp
   simp only[ziB];walk_at "wp";refine zpe c (s2 _ _ fa) sh sm (by omega) ?_;refine znQ (s2 _ _ fa) c.g2 w.dp (by omega) w.ar (by have:=w.wt;omega) w.wd (λz=>?_) λz=>?_
   ·rw[eg]at z⊢
    try walk_at "wp"
    rw[zai (s2 _ _ fq)];refine⟨trivial,?_⟩;rw[zai (s2 _ _ fq)];refine⟨zbv (by rw[el];omega),l - (k+1),put S q (.lst (encs (wys [w0,w1,w2,w3,w4,w5] B t (k+1)))),by omega,?_,k+1,_,rfl,λi hi=>?_,rfl,rfl⟩
    ·rw[zjB,zfo];exact ztW s2
    ·rcases dt i k with y |y
     ·exact hg i y
     ·rw[show i=k by omega]
      exact⟨by omega,ne,z⟩
   ·rw[eg]at z;exact h2 k ⟨hg,by omega,ne,z⟩ _ (sb.trans s2)
 ·exact fin _ .refl (.inl (by omega))
end
theorem zrt{d:Nat}:∀{ts:List Tr},(∀x∈ts,x.depth≤d)→dts ts≤d
 | [],_=>by simp [dts]
 |t::ts,h=>by
  have h1:=h t aO;have h2:=zrt (ts:=ts) λx hx=>h x (aG _ hx);rw[dts];omega
section
variable {ws:List Str}{B:List Tn}
theorem zhk{wn:List (List Int)}{n:Nat}{p:List Int}(ih:∀{t u:Tr}{p:List Int},Wi B wn n p t u→Sh ws B t→zil B wn p t→ ∀y,Wy ws B y→src B y=t→ ∃z,Mv B n y u z∧z.hd zct):∀{qs:List (List Int)}{ts us:List Tr},Wis B wn n p qs ts us→aL (λq t=>Sh ws B t∧zil B wn (p++q) t) qs ts→ ∀ys:List Tr,(∀y∈ys,Wy ws B y)→ys.map (src B)=ts→ ∃zs,Mvs B n ys us zs∧hds zct zs∧zs.length=ts.length
 |_,_,_, .nil,_,ys,hy,e=>by
  have:ys=[]:=by cases ys<;>simp at e⊢
  subst this;exact⟨[], .nil,trivial,rfl⟩
 |_,_,_, .cons a b,h,ys,hy,e=>by
  cases h with
  |cons c d=>
   cases ys with
   |nil=>simp at e
   |cons y ys=>
    rw[az]at e;injection e with e1 e2;obtain⟨z,M,hz⟩:=ih a c.1 c.2 y (hy y aO) e1;obtain⟨zs,Ms,hzs,hl⟩:=zhk ih b d ys (λx hx=>hy x (aG _ hx)) e2;exact⟨z::zs, .cons M Ms,⟨hz,hzs⟩,by simp [hl]⟩
theorem zjc{w0 w1 w2 w3 w4 w5:Str}{tt:List Str}(b:BookOk w0 w1 w2 w3 w4 w5 tt B) (G:Signs w0 w1 w2 w3 w4 w5) (K:Bk3 [w0,w1,w2,w3,w4,w5] B) {wn:List (List Int)}:∀(n:Nat) {t u:Tr}{p:List Int},Wi B wn n p t u→Sh [w0,w1,w2,w3,w4,w5] B t→zil B wn p t→ ∀y,Wy [w0,w1,w2,w3,w4,w5] B y→src B y=t→ ∃z,Mv B n y u z∧z.hd zct
 |0,t,u,p,W,h,hw,y,hy,ey=>nomatch W
 |n+1,t,u,p,W,h,hw,y,hy,ey=>by
  have at0:∀(s:Str) (ts:List Tr),(Tr.nd s ts).at []=ae (.nd s ts):=λs ts=>by rw[Tr.at]
  cases W with
  | @no _ _ s ts us hp e W=>
   have ho:zcT B (.nd s ts)=none:=by
    cases k:zcT B (.nd s ts) with
    |none=>rfl
    |some v=>
     have:=(hw [] _ (at0 s ts)).mpr (by rw[k];rfl);rw[bG]at this;exact absurd this hp
   obtain⟨s',ts',e0,hs,_,k⟩:=h.cases K;cases e0;rcases hy.cases K.b with⟨s1,as,rfl,hs1,e1,hk⟩ |⟨v,as,hv,rfl,e1,hl,hk⟩
   ·have q:=ey;rw[show src B (.nd s1 as)=_ from zdQ e1]at q;injection q with q1 q2;subst q1;have pr:∀(i:Nat) (xs:List Tr),(∀(j:Nat) x,xs[j]? =ae x→ts[i+j]? =ae x)→aL (λq t=>Sh [w0,w1,w2,w3,w4,w5] B t∧zil B wn (p++q) t) ((fv i xs.length).map λ(i:Nat)=>[(i:Int)]) xs:=by
     intro i xs
     induction xs generalizing i with
     |nil=>intro _;exact .nil
     |cons x xs ih=>
      intro hx;have hi:=hx 0 x rfl;rw[gq]at hi;have hm:x∈ts:=bE hi;rw[aW,f8,az];refine .cons ⟨k x hm,λe' v' h6=>?_⟩ (ih (i+1) λj y hy=>?_)
      ·have:=hw ((i:Int)::e') v' (by rw[zsa hi];exact h6);rw[bN];exact this
      ·have:=hx (j+1) y (by rw[d_];exact hy);rw[show i+1+j=i+(j+1) by omega]
       exact this
    have pr0:=pr 0 ts λj x h=>by rw[cL];exact h
    rw[gh]at W;obtain⟨zs,Ms,hz,_⟩:=zhk (zjc b G K n) W pr0 as hk q2;exact⟨.nd s1 zs, .nn e1 e Ms,K.b.sg s1 hs1,hz⟩
   ·exfalso;have q:=ey;rw[show src B (.nd v.1 as)=_ from zds e1]at q;have o:=b.open_some G hv (us:=as.map (src B)) (by rw[aq,hl]);rw[show v.2.1.fill (as.map (src B))=_ from q,ho]at o;cases o
  | @yes _ _ s ts us ms v hp ho hm et W=>
   have hv:v∈B:=b3 ho;obtain⟨f1,f2,f3⟩:=h.parts K hv hm;have pr:∀{qs:List (List Int)}{xs:List Tr},(∀x∈xs,Sh [w0,w1,w2,w3,w4,w5] B x)→aL (λq m=>(Tr.nd s ts).at q=ae m) qs xs→aL (λq t=>Sh [w0,w1,w2,w3,w4,w5] B t∧zil B wn (p++q) t) qs xs:=by
    intro qs xs h2 h3
    induction h3 with
    |nil=>exact .nil
    | @cons q m qs xs h4 _ ih=>
     refine .cons ⟨h2 m (by simp),λe' v' h6=>?_⟩ (ih λx hx=>h2 x (aG _ hx));have:=hw (q++e') v' (by rw[znB _ e' h4];exact h6);rw[bN];exact this
   have prm:=pr f3 (zrb hm);have fin:∀zs:List Tr,hds zct zs→zs.length=v.2.1.nb→(v.2.2.fill zs).hd zct:=λzs hz hl=>zje (hds_iff.mp hz) _ ((b.ri v hv).hb λx hx=>K.b.sg x hx) (by rw[hl];exact(b.ri v hv).fits);rcases hy.cases K.b with⟨s1,as,rfl,hs1,e1,hk⟩ |⟨v',as,hv',rfl,e1,hl,hk⟩
   ·rw[f1]at ey;obtain⟨vs,g1,g2,g3,g4,_⟩:=zfu K.b K.O hv e1 hy f2 ey;obtain⟨zs,Ms,hz,hl⟩:=zhk (zjc b G K n) W prm vs g4 g3;refine⟨v.2.2.fill zs, .ns e1 et ?_ (by rw[hl,f2]) Ms,fin zs hz (by rw[hl,f2])⟩;rw[g1];exact K.O.mt v hv vs g2
   ·have q:=ey;rw[show src B (.nd v'.1 as)=_ from zds e1]at q;have o:=b.open_some G hv' (us:=as.map (src B)) (by rw[aq,hl]);rw[show v'.2.1.fill (as.map (src B))=_ from q,ho]at o;cases o;have m1:=K.O.mt v hv (as.map (src B)) (by rw[aq,hl]);rw[show v.2.1.fill (as.map (src B))=_ from q,hm]at m1;have m2:as.map (src B)=ms:=(aE m1).symm;obtain⟨zs,Ms,hz,hl'⟩:=zhk (zjc b G K n) W prm as hk m2;exact⟨v.2.2.fill zs, .ss e1 et (by rw[hl',f2]) Ms,fin zs hz (by rw[hl',f2])⟩
theorem znV{w0 w1 w2 w3 w4 w5:Str}{tt:List Str}(c:CxB w0 w1 w2 w3 w4 w5 tt B) {t y:Tr}(h:Sh [w0,w1,w2,w3,w4,w5] B t) (hy:Wy [w0,w1,w2,w3,w4,w5] B y) (e:src B y=t):res B y (fw [w0,w1,w2,w3,w4,w5] B t)=gol B (fw [w0,w1,w2,w3,w4,w5] B t):=by
 have f:=zjS c.b c.G c.K h;obtain⟨z,M,hz⟩:=zjc c.b c.G c.K _ f.wi h h.all y hy e;have er:res B y (fw [w0,w1,w2,w3,w4,w5] B t)=z:=M.res;have m:=c.K.moved hy f.wy (by rw[e,f.sr]);have s:=m.sr;rw[er]at s⊢;rw[←s];exact(zfP c.K.b.ti z hz).symm
theorem zmr{w0 w1 w2 w3 w4 w5:Str}{tt:List Str}(c:CxB w0 w1 w2 w3 w4 w5 tt B):∀(n:Nat) (y:Tr) (p:List Int),y.weight≤n→Wy [w0,w1,w2,w3,w4,w5] B y→(src B y).op B p=[]→y.hd zct
 |0,y,p,hn,h,_=>by have:=zdW y;omega
 |n+1,y,p,hn,h,ho=>by
  rcases h.cases c.K.b with⟨s,as,rfl,hs,e,hk⟩ |⟨v,as,hv,rfl,e,hl,hk⟩
  ·rw[Tr.weight]at hn;refine⟨c.K.b.sg s hs,?_⟩;rw[show src B (.nd s as)=_ from zdQ e,Tr.op]at ho;have ho2:=(ky.mp ho).2;have all:∀(i:Nat) (xs:List Tr),(∀x∈xs,x∈as)→ops B p i (xs.map (src B))=[]→hds zct xs:=by
    intro i xs
    induction xs generalizing i with
    |nil=>intro _ _;exact trivial
    |cons x xs ih=>
     intro hx z;rw[az,ops]at z;obtain⟨z1,z2⟩:=ky.mp z;have hm:=hx x aO;exact⟨zmr c n x _ (by have:=zcl hm;omega) (hk x hm) z1,ih (i+1) (λy hy=>hx y (aG _ hy)) z2⟩
   exact all 0 as (λx hx=>hx) ho2
  ·exfalso;have o:=c.b.open_some c.G hv (us:=as.map (src B)) (by rw[aq,hl]);obtain⟨s0,l0,e0,_⟩:=c.K.O.inn v hv;rw[show src B (.nd v.1 as)=_ from zds e]at ho;rw[e0,Tr.fill]at ho o;rw[Tr.op,o]at ho;simp at ho
theorem zrP{w0 w1 w2 w3 w4 w5:Str}{tt:List Str}(c:CxB w0 w1 w2 w3 w4 w5 tt B) {t:Tr}(h:Sh [w0,w1,w2,w3,w4,w5] B t) {k:Nat}(hr:(hh [w0,w1,w2,w3,w4,w5] B t k).op B []=[]):∀j,hh [w0,w1,w2,w3,w4,w5] B t (k+j)=hh [w0,w1,w2,w3,w4,w5] B t k
 |0=>rfl
 |j+1=>by
  have ih:=zrP c h hr j;show gol B (fw [w0,w1,w2,w3,w4,w5] B (hh [w0,w1,w2,w3,w4,w5] B t (k+j)))=_;have f:=zjS c.b c.G c.K (zqv c.b c.G c.K h k);have q:=zmr c _ _ [] (au _) f.wy (by rw[f.sr];exact hr);rw[ih,show gol B (fw [w0,w1,w2,w3,w4,w5] B (hh [w0,w1,w2,w3,w4,w5] B t k))=_ from zfP c.K.b.ti _ q];have s:=f.sr;rwa [show src B (fw [w0,w1,w2,w3,w4,w5] B (hh [w0,w1,w2,w3,w4,w5] B t k))=_ from zfP c.K.b.ti _ q]at s
end
section
variable {w0 w1 w2 w3 w4 w5:Str}{tt:List Str}{B:List Tn}{t:Tr}{S:Sto}{a:Addr}{r:Nat}{Q:WK}{E:Str→Sto→Prop}
theorem zoR (c:CxB w0 w1 w2 w3 w4 w5 tt B) (ha:S a=ae (.lst (B.map zaW))) (h:Sh [w0,w1,w2,w3,w4,w5] B t) (hs:t.small=true) {l:Nat}(hl:l≤10) (hr:140≤r)
  (h1:∀k,Out [w0,w1,w2,w3,w4,w5] B t l k false→ ∀S' q,Sub S S'→S' q=ae (.lst (encs (wys [w0,w1,w2,w3,w4,w5] B t k)))→Q (.tup [.tup [enc t, .ref q], .bl ((hh [w0,w1,w2,w3,w4,w5] B t k).op B []).isEmpty]) S')
  (h2:∀k,Out [w0,w1,w2,w3,w4,w5] B t l k true→ ∀S',Sub S S'→Q .non S'):zcB (r+1) [.ref a,enc t, .int l] S Q E:=by
 obtain⟨r,rfl⟩:∃r',r=r'+1:=⟨r - 1,by omega⟩
 rw[zcB];walk_at "wp";refine zrs c ha h hs hl (by omega) (λk ho S2 q s2 fq=>?_) λk ho S2 s2=>?_
 ·try walk_at "wp"
  exact⟨_, .refl,h1 k ho _ _ s2 fq⟩
 ·exact⟨by simp,_, .refl,h2 k ho _ s2⟩
end
mutual
noncomputable def Tr.onc (c:Str):Tr→List Int→Tr×List Int
 | .bl n,sn=>(if n∈sn then .nd c [] else .bl n,sn++[n])
 | .nd s ts,sn=>(.nd s (zoa c ts sn).1,(zoa c ts sn).2)
noncomputable def zoa (c:Str):List Tr→List Int→List Tr×List Int
 | [],sn=>([],sn)
 |t::ts,sn=>((t.onc c sn).1::(zoa c ts (t.onc c sn).2).1,(zoa c ts (t.onc c sn).2).2)
end
structure OncOk (c:Str) (t u:Tr):Prop where
  dp:u.depth=t.depth
  wt:u.weight=t.weight
  ft:∀m,t.fits m→u.fits m
  hb:∀{P:Str→Prop},P c→t.hb P→u.hb P
  fw:∀us:List Tr,(u.fill us).weight≤(t.fill us).weight
structure OncsOk (c:Str) (ts us:List Tr):Prop where
  dp:dts us=dts ts
  wt:wts us=wts ts
  ft:∀m,fitss m ts→fitss m us
  hb:∀{P:Str→Prop},P c→hbs P ts→hbs P us
  fw:∀vs:List Tr,wts (fills vs us)≤wts (fills vs ts)
mutual
theorem zoo (c:Str):∀(t:Tr) (sn:List Int),OncOk c t (t.onc c sn).1∧(t.onc c sn).2.length≤sn.length+t.weight
 | .bl n,sn=>by
  rw[Tr.onc];refine⟨?_,by simp [Tr.weight]⟩
  dsimp only;split
  ·exact⟨by simp [Tr.depth,dts],by simp [Tr.weight,wts],λm _=>(by simp [Tr.fits,fitss]),λh _=>(by simpa [Tr.hb,hbs]using h),λus=>by
    have:=zdW ((Tr.bl n).fill us);simpa [Tr.fill,fills,Tr.weight,wts]using this⟩
  ·exact⟨rfl,rfl,λm h=>h,λ_ h=>h,λus=>au _⟩
 | .nd s ts,sn=>by
  obtain⟨h,hl⟩:=zmg c ts sn;rw[Tr.onc];refine⟨⟨by rw[Tr.depth,Tr.depth,h.dp],by rw[Tr.weight,Tr.weight,h.wt],λm hm=>?_,λhc hm=>?_,λus=>?_⟩,by rw[Tr.weight];dsimp only;omega⟩
  ·rw[Tr.fits]at hm⊢;exact h.ft m hm
  ·rw[Tr.hb]at hm⊢;exact⟨hm.1,h.hb hc hm.2⟩
  ·rw[Tr.fill,Tr.fill,Tr.weight,Tr.weight];have:=h.fw us;omega
theorem zmg (c:Str):∀(ts:List Tr) (sn:List Int),OncsOk c ts (zoa c ts sn).1∧(zoa c ts sn).2.length≤sn.length+wts ts
 | [],sn=>by
  rw[zoa];exact⟨⟨rfl,rfl,λm h=>h,λ_ h=>h,λus=>au _⟩,by simp⟩
 |t::ts,sn=>by
  obtain⟨h,hl⟩:=zoo c t sn;obtain⟨g,gl⟩:=zmg c ts (t.onc c sn).2;rw[zoa];refine⟨⟨by rw[dts,dts,h.dp,g.dp],by rw[wts,wts,h.wt,g.wt],λm hm=>?_,λhc hm=>?_,λus=>?_⟩,by rw[wts];dsimp only;omega⟩
  ·rw[fitss]at hm⊢;exact⟨h.ft m hm.1,g.ft m hm.2⟩
  ·rw[hbs]at hm⊢;exact⟨h.hb hc hm.1,g.hb hc hm.2⟩
  ·rw[fills,fills,wts,wts];have:=h.fw us;have:=g.fw us;omega
end
theorem zyP{r:Nat}{self:WSp}{E:WX}{σ:WSt}{S:Sto}{Q:WK}:zev r self E σ S Q=zan self (zab (wVar 0) (zab (wVar 1) (zab (wVar 2) waNil))) E σ S Q:=rfl
section
variable {c:Str}{q:Addr}
mutual
theorem zqA:∀(t:Tr) {r:Nat}{sn:List Int}{S:Sto}{Q:WK}{E:Str→Sto→Prop},t.depth≤r→S q=ae (.lst (sn.map W.int))→sn.length+t.weight≤1000→Q (enc (t.onc c sn).1) (put S q (.lst ((t.onc c sn).2.map W.int)))→zbI (r+1) [enc t, .ref q, .str c] S Q E
 | .bl n,r,sn,S,Q,E,hd,hq,hl,h=>by
  rw[Tr.onc]at h;rw[zbI];have e0:enc (.bl n)= .int n:=by simp only[enc]
  rw[e0];rw[Tr.weight]at hl;walk_at "wp";rw[zai hq];refine⟨trivial,?_⟩;rw[zai hq];refine⟨zbv (by rw[aq];omega),zak (by decide),zak (by decide),λp hp=>?_⟩;have ec:zer (sn.map W.int++[W.int n]) none (ae (-1))=sn.map W.int:=by
   rw[show zer (sn.map W.int++[W.int n]) none (ae (-1))=_ from zie 1 (by decide)];simp
  rw[ec,zrR];dsimp only;by_cases z:n∈sn
  ·rw[if_pos z]at h;rw[if_pos (kH.mpr z),show atI [W.int n,W.tup [W.str c]] 1=ae (W.tup [W.str c]) from rfl];refine⟨_, .put .refl hp,?_⟩;simpa [enc,encs]using h
  ·rw[if_neg z]at h;rw[if_neg (λk=>z (kH.mp k)),show atI [W.int n,W.tup [W.str c]] 0=ae (W.int n) from rfl];refine⟨_, .put .refl hp,?_⟩;simpa [enc,encs]using h
 | .nd s ts,r,sn,S,Q,E,hd,hq,hl,h=>by
  rw[Tr.onc]at h;rw[Tr.depth]at hd;rw[Tr.weight]at hl;obtain⟨r,rfl⟩:∃r',r=r'+1:=⟨r - 1,by omega⟩
  have en:∀us,enc (.nd s us)= .tup (.str s::encs us):=λus=>by simp [enc]
  rw[en]at h⊢;rw[zbI];walk_at "wp";refine znS ts (by omega) hq (by omega) (by have:=zbx ts;simp;omega) ?_;rw[zjo,aR,zbh];have ol:(zoa c ts sn).1.length≤wts ts:=by
   have h1:=zbx (zoa c ts sn).1;rw[(zmg c ts sn).1.wt]at h1;exact h1
  exact⟨zak (by simp;omega),_, .refl,h⟩
theorem znS:∀(ts:List Tr) {r:Nat}{sn:List Int}{acc:List W}{x0:Option W}{S:Sto}{E:WX}{Q:List W→Sto→Prop},dts ts≤r→S q=ae (.lst (sn.map W.int))→sn.length+wts ts≤1000→acc.length+ts.length≤1000→Q (acc++encs (zoa c ts sn).1) (put S q (.lst ((zoa c ts sn).2.map W.int)))→zfb (wGN 0) zfg (zev (r+1) (zbI (r+1))) E (λ_=>True) Q (encs ts) acc [x0,ae (.ref q),ae (.str c)] S
 | [],r,sn,acc,x0,S,E,Q,hd,hq,hl,ha,h=>by
  rw[zoa]at h;simp only[encs,bG,zfj hq]at h;simpa [encs,zfb]using h
 |t::ts,r,sn,acc,x0,S,E,Q,hd,hq,hl,ha,h=>by
  rw[zoa]at h;rw[dts]at hd;rw[wts]at hl;rw[aW]at ha;have hk:=(zoo c t sn).2;simp only[encs,zfb,zfg,if_true];walk_at "wp";rw[zyP];walk_at "wp";refine zqA t (by omega) hq (by omega) ⟨zbv (by omega),_, .refl,?_⟩;refine znS ts (by omega) zah (by omega) (by simp;omega) ?_;rw[zaY];simpa [encs]using h
end
noncomputable def onB (w2:Str) (t:Tn):Tn:=(t.1,t.2.1,(t.2.2.onc w2 []).1)
end
section
variable {w0 w1 w2 w3 w4 w5:Str}{tt:List Str}{B:List Tn}
theorem BookOk.onc (b:BookOk w0 w1 w2 w3 w4 w5 tt B):BookOk w0 w1 w2 w3 w4 w5 tt (B.map (onB w2)):=by
 obtain⟨n,m,e⟩:=b.lf;refine⟨⟨n,m,by rw[bb,←e];rfl⟩,?_,λt ht=>?_⟩
 ·rw[bb,aq,←b.ti];rfl
 ·obtain⟨u,hu,rfl⟩:=aU.mp ht;have h:=b.ri u hu;have o:=(zoo w2 u.2.2 []).1;exact⟨by show(u.2.2.onc w2 []).1.depth≤4;rw[o.dp];exact h.dp,o.ft _ h.fits,λ{P} hP=>o.hb (hP w2 (by simp)) (h.hb hP),by show(u.2.2.onc w2 []).1.weight≤7;rw[o.wt];exact h.wt⟩
theorem Slim.onc (sl:Slim B):Slim (B.map (onB w2)):=λt ht us M h1 h2 h3=>by
 obtain⟨u,hu,rfl⟩:=aU.mp ht;have o:=(zoo w2 u.2.2 []).1.fw us;obtain⟨g1,g2⟩:=sl u hu us M h1 h2 h3;exact⟨bi o g1,λz=>bi o (g2 z)⟩
end
section
variable {w0 w1 w2 w3 w4 w5:Str}{tt:List Str}{B:List Tn}{t:Tr}
theorem zvX (t:Tr):∀k,zeg B t (wys [w0,w1,w2,w3,w4,w5] B t k)=hh [w0,w1,w2,w3,w4,w5] B t k
 |0=>rfl
 |k+1=>by rw[zjB,zgV];rfl
theorem zwf (c:CxB w0 w1 w2 w3 w4 w5 tt B) (h:Sh [w0,w1,w2,w3,w4,w5] B t) (hs:t.small=true) {l k:Nat}(ho:∀i,i<k→Go [w0,w1,w2,w3,w4,w5] B t l i):∀x∈wys [w0,w1,w2,w3,w4,w5] B t k,x.depth≤40∧x.weight≤1000∧x.ar B∧(gol B x).small=true:=λx hx=>by
 unfold wys at hx;obtain⟨i,hi,rfl⟩:=aU.mp hx;have hi:=dR.mp hi;have w:=c.way (zqv c.b c.G c.K h i) (znr hs λj hj=>ho j (by omega));exact⟨w.dp,by have:=w.wt;omega,w.ar,(ho i hi).2.2⟩
end
theorem zxu{B:List Tn}(O:Ort B) {t:Tn}(ht:t∈B) {s:Str}{ts ms:List Tr}(h:t.2.1.mt (.nd s ts)=ae ms):dts ms≤dts ts:=by
 obtain⟨s0,l0,e0,_⟩:=O.inn t ht;rw[e0,Tr.mt]at h;split at h
 ·exact zrt (zoe _ _ _ h)
 ·cases h
mutual
theorem Mv.bd{B:List Tn}(O:Ort B):∀{n:Nat}{x y z:Tr},Mv B n x y z→Mv B x.depth x y z
 |_,_,_,_, .nn a b m=>by
  rw[Tr.depth,fE];exact .nn a b (Mvs.bd O m)
 |_,_,_,_, .ns a b c d m=>by
  rw[Tr.depth,fE];exact .ns a b c d ((Mvs.bd O m).monoA _ (zxu O (b3 b) c))
 |_,_,_,_, .sn a b c m=>by
  rw[Tr.depth,fE];exact .sn a b c (Mvs.bd O m)
 |_,_,_,_, .ss a b c m=>by
  rw[Tr.depth,fE];exact .ss a b c (Mvs.bd O m)
theorem Mvs.bd{B:List Tn}(O:Ort B):∀{n:Nat}{xs ys zs:List Tr},Mvs B n xs ys zs→Mvs B (dts xs) xs ys zs
 |_,_,_,_, .nil=> .nil
 |_,_,_,_, .cons a b=>by
  rw[dts];exact .cons ((Mv.bd O a).monoA _ (by omega)) ((Mvs.bd O b).monoA _ (by omega))
end
section
variable {ws:List Str}{B:List Tn}{x y:Tr}{a:Addr}{r:Nat}{S:Sto}{Q:WK}{E:Str→Sto→Prop}
theorem Bk3.mv (K:Bk3 ws B) (hx:Wy ws B x) (hy:Wy ws B y) (e:L2.src B x=L2.src B y):Mv B x.depth x y (res B x y):=by
 obtain⟨p,hp,rfl,rfl,_⟩:=zmG K hx hy e;have m:=zhC (c:=byC 1) (d:=byC 2) K.b K.O.mt (zhK (zfA 1) (zfA 2)) hp;have m1:=m.res;rw[m1];exact m.bd K.O
theorem Bk3.fitw (K:Bk3 ws B) (hx:Wy ws B x) (hs:(L2.src B x).small=true):x.depth≤40∧x.weight≤400∧x.ar B∧x.hd λ_=>True:=by
 obtain⟨g1,g2⟩:=znO K _ _ (au _) hx;obtain⟨h1,h2⟩:=zek hs;exact⟨by omega,by omega,hx.ar,zhR (λ_ _=>trivial) _ hx.hd⟩
theorem Bk3.gW (K:Bk3 ws B):SidesW (zal 2) B:=⟨λt ht=>(K.b.ri t ht).fits,λt ht=>(K.b.ri t ht).dp,λt ht=>bi (K.b.ri t ht).wt (by decide)⟩
theorem Bk3.okmv (K:Bk3 ws B):∀t∈B,t.2.1.depth≤4∧t.2.1.weight≤100∧t.2.2.depth≤4∧t.2.2.weight≤100∧t.2.2.fits t.2.1.nb:=λt ht=>by
 have h1:=K.b.lf t ht;have h2:=K.b.ri t ht;have h3:=h1.wt;have h4:=h1.nb;have h5:=h2.wt;exact⟨h1.dp,by omega,h2.dp,by omega,h2.fits⟩
structure Cel (ws:List Str) (B:List Tn) (x y:Tr):Prop where
  K:Bk3 ws B
  wx:Wy ws B x
  wy:Wy ws B y
  e:src B x=src B y
  sm:(src B y).small=true
theorem Cel.symm (h:Cel ws B x y):Cel ws B y x:=⟨h.K,h.wy,h.wx,h.e.symm,by rw[h.e];exact h.sm⟩
theorem Cel.ok_move (h:Cel ws B x y) (ha:S a=ae (.lst (B.map zaW))) (hr:60≤r) (q:Q (enc (res B x y)) S):zcJ (r+1) [.ref a,enc x,enc y] S Q E:=by
 obtain⟨d1,w1,_,h1⟩:=h.K.fitw h.wx (by rw[h.e];exact h.sm);obtain⟨d2,w2,_,h2⟩:=h.K.fitw h.wy h.sm;exact zmN h.K.okmv x.depth ha (h.K.mv h.wx h.wy h.e) (by omega) h1 h2 (by omega) (by omega) q
theorem Bk3.ok_goalX (K:Bk3 ws B) (hx:Wy ws B x) (hs:(L2.src B x).small=true) (ha:S a=ae (.lst (B.map zaW))) (hr:60≤r) (h1:(L2.gol B x).small=true→Q (enc (L2.gol B x)) S) (h2:(L2.gol B x).small=false→E "TooGreat" S):zfk (r+1) [.ref a,enc x] S Q E:=by
 obtain⟨d1,w1,a1,_⟩:=K.fitw hx hs;have e2:x.mk B (zal 2)=L2.gol B x:=by rw[zto]
 refine znQ ha K.gW d1 hr a1 (by omega) (zrr (λt ht=>bi (K.gW.wt t ht) (by decide)) _ (by omega)) (λz=>?_) λz=>?_
 ·rw[e2]at z⊢;exact h1 z
 ·rw[e2]at z;exact h2 z
end
section
variable {ws:List Str}{B:List Tn}{a l q:Addr}{r:Nat}{E:WX}{D:WEnds}
theorem znG{S:Sto}{G:Sto→Prop}(K:Bk3 ws B) (hG:G S) (ha:S a=ae (.lst (B.map zaW))) (hr:60≤r):∀(xs:List Tr) {t:Tr}(y1 y2:Option W),Roa ws B t xs→t.small=true→((∀x∈xs,(gol B x).small=true)→ ∀z,D.nx [ae (.ref a),y1,z] S)→((∃x∈xs,(gol B x).small=false)→ ∀σ,E "TooGreat" σ S)→forL (wGN 2) (zdr (r+1) zaJ) E D G (xs.map enc) [ae (.ref a),y1,y2] S
 | [],t,y1,y2,_,_,h,_=>h (λ_ hx=>nomatch hx) y2
 |x::xs,t,y1,y2,⟨h1,h2,h3⟩,hs,h,hE=>by
  rw[az];refine zby λN hN=>?_;rw[zhP,zdr];walk_at "wp";refine K.ok_goalX h1 (by rw[h2];exact hs) ha (by omega) (λz=>?_) λz=>hE ⟨x,aO,z⟩ _;refine hN _ _ _ .refl hG (znG K hG ha hr xs y1 _ h3 z (λk=>h λu hu=>?_) λ⟨u,hu,e⟩=>hE ⟨u,aG _ hu,e⟩);rcases av.mp hu with e |e
  ·rw[e];exact z
  ·exact k u e
theorem zdN{S:Sto}{xs:List Tr}{t:Tr}{Q:WK}{X:Str→Sto→Prop}(K:Bk3 ws B) (ha:S a=ae (.lst (B.map zaW))) (hl:S l=ae (.lst (xs.map enc))) (hx:Roa ws B t xs) (hs:t.small=true) (hr:60≤r) (h:(∀x∈xs,(gol B x).small=true)→Q .non S) (hX:(∃x∈xs,(gol B x).small=false)→X "TooGreat" S):zaT (r+2) [.ref a, .ref l] S Q X:=by
 rw[show r+2=r+1+1 from rfl,zaT];walk_at "wp";rw[zai hl];exact znG K hl ha hr xs _ _ hx hs (λk z=>⟨_, .refl,h k⟩) λk σ=>hX k
noncomputable def LOk (B:List Tn):Tr→List Tr→Prop
 |_,[]=>True
 |x,o::os=>(gol B (res B x o)).small=true∧LOk B (res B x o) os
theorem znE{S0:Sto}{G:Sto→Prop}(K:Bk3 ws B) (ha:S0 a=ae (.lst (B.map zaW))) (h0:S0 q=none) (hG:∀S,Sub S0 S→G S) (hr:64≤r):∀(os:List Tr) {x t:Tr},Wy ws B x→src B x=t→Roa ws B t os→t.small=true→(∀o∈os,(gol B o).small=true)→ ∀(xs:List W) {S:Sto}{y1 y2 y4 y5:Option W},xs.length+os.length≤900→Sub S0 S→S q=ae (.lst (xs++[enc x]))→
  (LOk B x os→ ∀S' y4 y5,Sub S0 S'→S' q=ae (.lst (xs++(zep B x os).map enc))→D.nx [ae (.ref a),y1,y2,ae (.ref q),y4,y5] S')→(¬LOk B x os→ ∀σ S',Sub S0 S'→E "TooGreat" σ S')→
  forL (wGN 4) (zcv r zaJ) E D G (os.map enc) [ae (.ref a),y1,y2,ae (.ref q),y4,y5] S
 | [],x,t,hx,ex,hR,hs,hg=>λxs S y1 y2 y4 y5 hl sb hq h _=>h trivial S _ _ sb hq
 |o::os,x,t,hx,ex,⟨r1,r2,r3⟩,hs,hg=>by
  intro xs S y1 y2 y4 y5 hl sb hq h hE;have cl:Cel ws B x o:=⟨K,hx,r1,by rw[ex,r2],by rw[r2];exact hs⟩
  have m:=K.moved hx r1 cl.e;have go:=hg o aO;rw[az];rw[aW]at hl;refine zby λN hN=>?_;rw[zhP,zcv];rw[zci];walk_at "wp";rw[zai hq,zjb];dsimp only;obtain⟨r',er⟩:∃r',r=r'+2:=⟨r - 2,by omega⟩
  rw[er];refine cl.ok_move (r:=r'+1) (sb _ _ ha) (by omega) ?_;rw[zcj];walk_at "wp";refine⟨by decide,λv hv=>?_⟩;have sv:Sub S0 (put S v (Ob.lst [enc (res B x o)])):=sb.trans (.put .refl hv);refine zdN (xs:=[res B x o]) (t:=gol B o) K (sv _ _ ha) zah ⟨m.wy,m.sr,trivial⟩ go (by omega) (λk=>?_) λ⟨u,hu,e⟩=>?_
  ·have k0:=k _ aO;rw[zch];walk_at "wp";have fq:=keep (x:=Ob.lst [enc (res B x o)]) hq hv;rw[zai fq,zai fq];refine⟨trivial,zbv (by rw[aY,b6];omega),?_⟩;have sb2:Sub S0 (put (put S v (Ob.lst [enc (res B x o)])) q (.lst (xs++[enc x]++[enc (res B x o)]))):= .put sv h0;refine hN _ _ _ .refl (hG _ sb2) (znE K ha h0 hG hr os m.wy m.sr r3 go (λu hu=>hg u (aG _ hu)) (xs++[enc x]) (by rw[aY,b6];omega) sb2 zah (λlk S' z4 z5 s' hq'=>?_) λnk=>hE λlk=>nk lk.2);refine h ⟨k0,lk⟩ S' z4 z5 s' ?_;rw[hq',zep,az];simp
  ·rw[bg.mp hu]at e;exact hE (λlk=>by rw[lk.1]at e;cases e) _ _ sv
theorem zit{S:Sto}{x t:Tr}{os:List Tr}{Q:WK}{X:Str→Sto→Prop}(K:Bk3 ws B) (ha:S a=ae (.lst (B.map zaW))) (hl:S l=ae (.lst (os.map enc))) (hx:Wy ws B x) (ex:src B x=t) (hR:Roa ws B t os) (hs:t.small=true) (hg:∀o∈os,(gol B o).small=true) (hn:os.length≤800) (hr:64≤r)
  (h:LOk B x os→ ∀S' q,Sub S S'→S q=none→S' q=ae (.lst ((zep B x os).map enc))→Q (.ref q) S') (hX:¬LOk B x os→ ∀S',Sub S S'→X "TooGreat" S'):zbs (r+1) [.ref a,enc x, .ref l] S Q X:=by
 rw[zbs,zfD];refine⟨rfl,?_⟩;rw[zcx];walk_at "wp";refine⟨by decide,λq hq=>?_⟩;rw[zcC];walk_at "wp";rw[zai (keep hl hq)];refine znE K ha hq (λS' sb=>sb _ _ hl) hr os hx ex hR hs hg [] (by simp;omega) (.put .refl hq) zah (λlk S' y4 y5 sb hq'=>?_) λnk σ S' sb=>hX nk S' sb;rw[zcz];walk_at "wp";exact⟨_, .refl,h lk S' q sb hq (by rw[hq',aR])⟩
end
mutual
theorem zzC:∀t:Tr,t.weight≤1000→t.wd
 | .bl _,_=>trivial
 | .nd s ts,h=>by
  rw[Tr.weight]at h;have:=zbx ts;exact⟨by omega,zuC ts (by omega)⟩
theorem zuC:∀ts:List Tr,wts ts≤1000→wds ts
 | [],_=>trivial
 |t::ts,h=>by
  rw[wts]at h;exact⟨zzC t (by omega),zuC ts (by omega)⟩
end
theorem zBq{l1:Addr}{r:Nat}{E:WX}{D:WEnds}{T:WS}{t:Tr}{S:Sto}{y0 y2 y3 y4 y5 y6 y7:Option W}(hw:t.weight≤400) (hd:t.depth≤40) (hr:60≤r) (h:T E D [y0,ae (.tup [enc t, .ref l1]),y2,y3,y4,y5,y6,y7] S) :
  zgh r T E D [y0,ae (.tup [enc t, .ref l1]),y2,y3,y4,y5,y6,y7] S:=by
 rw[zgh];walk_at "wp";obtain⟨r,rfl⟩:∃r',r=r'+5:=⟨r - 5,by omega⟩
 rw[show r+5=r+4+1 from rfl,zbo];walk_at "wp";refine zfq (r:=r+3) (zzC t (by omega)) ?_;rw[zmY hw hd]
 try walk_at "wp"
 exact⟨_, .refl,h⟩
noncomputable def GOk (B:List Tn):List Tr→List Tr→Prop
 | [],_=>True
 |x::xs,os=>LOk B x os∧GOk B xs (zdR B x os)
section
variable {ws:List Str}{B:List Tn}
theorem zfE (K:Bk3 ws B):∀(os:List Tr) {x t:Tr},Wy ws B x→src B x=t→Roa ws B t os→LOk B x os→ ∀u∈zdR B x os,(gol B u).small=true
 | [],x,t,_,_,_,_,u,hu=>by cases hu
 |o::os,x,t,hx,ex,⟨r1,r2,r3⟩,⟨l1,l2⟩,u,hu=>by
  have m:=K.moved hx r1 (by rw[ex,r2]);rw[zdR]at hu;rcases av.mp hu with e |e
  ·rw[e,←m.go];exact l1
  ·exact zfE K os m.wy m.sr r3 l2 u e
theorem zmJ (K:Bk3 ws B):∀(os:List Tr) {x t:Tr},Wy ws B x→src B x=t→Roa ws B t os→t.small=true→(∀o∈os,(gol B o).small=true)→ ∀p∈os.zip (zep B x os),Cel ws B p.1 p.2
 | [],x,t,_,_,_,_,_,p,hp=>by cases hp
 |o::os,x,t,hx,ex,⟨r1,r2,r3⟩,hs,hg,p,hp=>by
  have cl:Cel ws B x o:=⟨K,hx,r1,by rw[ex,r2],by rw[r2];exact hs⟩
  have m:=K.moved hx r1 cl.e;rw[zep,gF]at hp;rcases av.mp hp with rfl |hp
  ·exact cl.symm
  ·exact zmJ K os m.wy m.sr r3 (hg o aO) (λu hu=>hg u (aG _ hu)) p hp
end
section
variable {ws:List Str}{B:List Tn}{a l1 l2 d o ρ:Addr}{r:Nat}{E:WX}{D:WEnds}{T:WS}{t t':Tr}{xs os:List Tr}{S:Sto}{y1 y2 y3 y4 y5 y6 y7:Option W}
theorem zyH{x:Tr}{q:Addr}(ha:S a=ae (.lst (B.map zaW))) (hl:S ρ=ae (.lst (os.map enc))) (hq:S q=ae (.lst ((zep B x os).map enc))) (hc:∀p∈os.zip (zep B x os),Cel ws B p.1 p.2) (hn:os.length≤800) (hr:63≤r)
  (h:∀ρ',S ρ'=none→T E D [ae (.ref a),y1,y2,y3,ae (.ref ρ'),y5,y6,ae (.ref q)] (put S ρ' (.lst ((zdR B x os).map enc)))) :
  zeH r T E D [ae (.ref a),y1,y2,y3,ae (.ref ρ),y5,y6,ae (.ref q)] S:=by
 rw[zeH];walk_at "wp";rw[zai hl,zai hq,zkX];refine zaw (λσ=>∃u v,σ=[u,v,ae (.ref a)]) (λp:Tr×Tr=> .tup [enc p.1,enc p.2]) (λp=>enc (res B p.1 p.2)) ⟨hl,hq⟩ (os.zip (zep B x os)) [] _ ⟨none,none,rfl⟩ (by rw[List.length_zip,zon];simp;omega) (λp hp σ R hI hR=>?_) ?_
 ·obtain⟨u,v,rfl⟩:=hI;have h2:=hc p hp;rw[zyO];show zaD (wGN 0) (zaD (wGN 1) zdP) [enc p.1,enc p.2] _ S _;rw[zjF];show wGN 0 _ _ _ _;rw[zhP,zjF];show wGN 1 _ _ _ _;rw[zhP,zqi,zmL];show zan _ _ _ [ae (enc p.1),ae (enc p.2),ae (.ref a)] _ _;walk_at "wp";obtain⟨r,rfl⟩:∃r',r=r'+1:=⟨r - 1,by omega⟩
  exact h2.ok_move ha (by omega) (hR _ _ ⟨_,_,rfl⟩ .refl)
 ·intro ρ' hρ;have:=h ρ' hρ;rw[←zrz,bb]at this;exact this
theorem znL{S0:Sto}{G:Sto→Prop}(K:Bk3 ws B) (ha:S0 a=ae (.lst (B.map zaW))) (hd0:S0 d=none) (ho0:S0 o=none) (hdo:d≠o) (hG:∀S,Sub S0 S→G S) (hr:66≤r):∀(xs:List Tr) {os:List Tr}{t:Tr},Roa ws B t xs→Roa ws B t os→t.small=true→(∀x∈xs,(gol B x).small=true)→(∀x∈os,(gol B x).small=true)→ ∀{S:Sto}{ρ:Addr}{ds rs:List Addr}{Ds Rs:List (List Tr)}{y1 y2 y6 y7:Option W},os.length≤800→ds.length+xs.length≤800→rs.length+xs.length≤800→Sub S0 S→S d=ae (.lst (ds.map W.ref))→S o=ae (.lst (rs.map W.ref++[.ref ρ]))→Ats S0 S d o ds Ds→Ats S0 S d o rs Rs→At S0 S d o ρ os→
  (GOk B xs os→ ∀S' ds' rs' y4 y6 y7,Sub S0 S'→S' d=ae (.lst (ds'.map W.ref))→S' o=ae (.lst (rs'.map W.ref))→Ats S0 S' d o ds' (Ds++zmB B xs os)→Ats S0 S' d o rs' (Rs++zmm B xs os)→D.nx [ae (.ref a),y1,y2,ae (.ref d),y4,ae (.ref o),y6,y7] S')→(¬GOk B xs os→ ∀σ S',Sub S0 S'→E "TooGreat" σ S')→
  forL (wGN 6) (zhj r zaJ) E D G (xs.map enc) [ae (.ref a),y1,y2,ae (.ref d),ae (.ref ρ),ae (.ref o),y6,y7] S
 | [],os,t,u1,u2,u3,u4,u5=>by
  rename_i S ρ ds rs Ds Rs y1 y2 y6 y7;intro _ _ _ sb hd ho AD AR Aρ h _;refine h trivial S ds (rs++[ρ]) _ _ _ sb hd ?_ ?_ ?_
  ·rw[ho,bI];rfl
  ·rw[zmB,bG];exact AD
  ·rw[zmm];exact zfp AR Aρ
 |x::xs,os,t,⟨x1,x2,x3⟩,hRo,hs,gx,go=>by
  rename_i S ρ ds rs Ds Rs y1 y2 y6 y7;intro n1 n2 n3 sb hd ho AD AR Aρ h hE;rw[aW]at n2 n3;rw[az];refine zby λN hN=>?_;rw[zhP,zhj];rw[zgl];walk_at "wp";obtain⟨r',er⟩:∃r',r=r'+1:=⟨r - 1,by omega⟩
  have er2:zbs r=zbs (r'+1):=by rw[er]
  rw[er2];refine zit K (sb _ _ ha) Aρ.e x1 x2 hRo hs go n1 (by omega) (λlk S1 q s1 hq0 hq=>?_) λnk S1 s1=>hE (λgk=>nk gk.1) _ _ (sb.trans s1);refine zyH (s1 _ _ (sb _ _ ha)) (s1 _ _ Aρ.e) hq (zmJ K os x1 x2 hRo hs go) n1 (by omega) λρ' hρ=>?_;have s2:Sub S (put S1 ρ' (.lst ((zdR B x os).map enc))):=s1.trans (.put .refl hρ);have qd:q≠d:=by rintro rfl;rw[hd]at hq0;cases hq0
  have qo:q≠o:=by rintro rfl;rw[ho]at hq0;cases hq0
  have ρd:ρ'≠d:=by rintro rfl;rw[s1 _ _ hd]at hρ;cases hρ
  have ρo:ρ'≠o:=by rintro rfl;rw[s1 _ _ ho]at hρ;cases hρ
  have Aq:At S0 (put S1 ρ' (.lst ((zdR B x os).map enc))) d o q (zep B x os):=⟨qd,qo,keep hq hρ,zjf sb hq0⟩;have Aρ':At S0 (put S1 ρ' (.lst ((zdR B x os).map enc))) d o ρ' (zdR B x os):=⟨ρd,ρo,zah,zjf (sb.trans s1) hρ⟩;have AD':=zco (λ_ _ z=>At.sub z s2) AD;have AR':=zco (λ_ _ z=>At.sub z s2) AR;have A0:=Aρ.sub s2;have hd2:=s2 _ _ hd;have ho2:=s2 _ _ ho;have sb2:=sb.trans s2;generalize put S1 ρ' (.lst ((zdR B x os).map enc))=S2 at Aq Aρ' AD' AR' A0 hd2 ho2 sb2⊢;have ld:(ds.map W.ref).length≤1000:=by rw[aq];omega
  have lo:(rs.map W.ref++[W.ref ρ]).length≤1000:=by rw[aY,aq,b6];omega
  refine zBj hd2 ld ?_;refine zAM (vs:=rs.map W.ref++[.ref ρ]) (by rw[zaG hdo.symm];exact ho2) lo ?_;have sb3:Sub S0 (put (put S2 d (.lst (ds.map W.ref++[.ref q]))) o (.lst (rs.map W.ref++[.ref ρ]++[.ref ρ']))):= .put (.put sb2 hd0) ho0;refine hN _ _ _ .refl (hG _ sb3) (znL K ha hd0 ho0 hdo hG hr xs (ds:=ds++[q]) (rs:=rs++[ρ]) (Ds:=Ds++[zep B x os]) (Rs:=Rs++[os]) x3 (zdH K os x1 x2 hRo).1 (gx x aO) (λu hu=>gx u (aG _ hu)) (zfE K os x1 x2 hRo lk) (by rw[zjN];exact n1) (by rw[aY,b6];omega) (by rw[aY,b6];omega) sb3 ?_ ?_ ?_ ?_ Aρ'.pd.po (λgk S' ds' rs' z4 z6 z7 s' h1 h2 h3 h4=>?_) λng=>hE λgk=>ng gk.2)
  ·rw[zaG hdo,zah,bI];rfl
  ·rw[zah,bI];rfl
  ·exact zfp (zco (λ_ _ z=>At.po (At.pd z)) AD') Aq.pd.po
  ·exact zfp (zco (λ_ _ z=>At.po (At.pd z)) AR') A0.pd.po
  ·refine h ⟨lk,gk⟩ S' ds' rs' z4 z6 z7 s' h1 h2 ?_ ?_
   ·rw[zmB];rw[bN]at h3;exact h3
   ·rw[zmm];rw[bN]at h4;exact h4
structure GGood (B:List Tn) (xs os:List Tr):Prop where
  gx:∀x∈xs,(gol B x).small=true
  go:∀x∈os,(gol B x).small=true
  ok:GOk B xs os
theorem znu{Q:WK}{X:Str→Sto→Prop}(K:Bk3 ws B) (ha:S a=ae (.lst (B.map zaW))) (h1:S l1=ae (.lst (xs.map enc))) (h2:S l2=ae (.lst (os.map enc))) (hx:Roa ws B t xs) (ho:Roa ws B t' os) (hs:t.small=true) (nx:xs.length≤700) (no:os.length≤700) (hr:70≤r)
  (hA:t≠t'→X "Apart" S) (hX:t=t'→ ¬GGood B xs os→ ∀S',Sub S S'→X "TooGreat" S')
  (h:t=t'→GGood B xs os→ ∀S' d o,Grd S S' B xs os d o→Q (.tup [.ref d, .ref o]) S'):ziF (r+1) [.ref a, .tup [enc t, .ref l1], .tup [enc t', .ref l2]] S Q X:=by
 obtain⟨b1,b2⟩:=zek hs;rw[ziF,zfD];refine⟨rfl,?_⟩;rw[zgS];walk_at "wp";rw[ztZ 60 _ _ (by omega)];cases e:t.same t' with
 |false=>
  try walk_at "wp"
  try rw[zhi]
  try walk_at "wp"
  refine⟨zak (by decide),hA λk=>?_⟩;rw[k,zhw]at e;cases e
 |true=>
  have et:t=t':=(zhm _ _).mp e;subst et
  try walk_at "wp"
  refine zBq b1 b2 (by omega) ?_;rw[zgZ];walk_at "wp";obtain⟨r',er⟩:∃r',r=r'+2:=⟨r - 2,by omega⟩
  have er2:zaT r=zaT (r'+2):=by rw[er]
  rw[er2];refine zdN K ha h1 hx hs (by omega) (λgx=>?_) λ⟨u,hu,eu⟩=>hX rfl (λg=>by have:=g.gx u hu;rw[eu]at this;cases this) _ .refl
  rw[zhe];walk_at "wp";rw[er2];refine zdN K ha h2 ho hs (by omega) (λgo=>?_) λ⟨u,hu,eu⟩=>hX rfl (λg=>by have:=g.go u hu;rw[eu]at this;cases this) _ .refl
  refine zCD λd hd=>zCs (keep h2 hd) λρ hρ=>zCK λo h0=>?_;have ρd:ρ≠d:=by rintro rfl;rw[zah]at hρ;cases hρ
  have od:o≠d:=by rintro rfl;rw[zaG ρd.symm,zah]at h0;cases h0
  have oρ:o≠ρ:=by rintro rfl;rw[zah]at h0;cases h0
  have oS:S o=none:=by rw[zaG oρ,zaG od]at h0;exact h0
  have sb:Sub S (put (put (put S d (.lst [])) ρ (.lst (os.map enc))) o (.lst [.ref ρ])):=(Sub.put .refl hd).trans ((Sub.put .refl hρ).trans (.put .refl h0));rw[zhp];walk_at "wp";show zcU _ l1 _;rw[zai (sb _ _ h1)];refine znL K ha hd oS od.symm (λS' s'=>s' _ _ h1) (by omega) xs (ds:=[]) (rs:=[]) (Ds:=[]) (Rs:=[]) hx ho hs gx go (by omega) (by simp;omega) (by simp;omega) sb ?_ zah .nil .nil ⟨ρd,oρ.symm,?_,by rw[zaG ρd]at hρ;exact hρ⟩ (λgk S' ds rs y4 y6 y7 s' g1 g2 g3 g4=>?_) λng σ S' s'=>hX rfl (λg=>ng g.ok) _ s'
  ·rw[zaG od.symm,zaG ρd.symm,zah];rfl
  ·rw[zaG oρ.symm,zah]
  ·rw[zhh];walk_at "wp";exact⟨by decide,_, .refl,h rfl ⟨gx,go,gk⟩ S' d o ⟨s',hd,oS,od.symm,ds,rs,g1,g2,g3,g4⟩⟩
end
section
variable {ws:List Str}{B:List Tn}
theorem ziE:∀(os:List Tr) {x:Tr},LOk B x os→(gol B x).small=true→(gol B (zcF B x os)).small=true
 | [],x,_,h=>h
 |o::os,x,⟨l1,l2⟩,h=>ziE os l2 l1
theorem ziU (K:Bk3 ws B):∀(xs os:List Tr) {t:Tr},Roa ws B t xs→Roa ws B t os→GOk B xs os→(∀x∈xs,(gol B x).small=true)→ ∀u∈zbG B xs os,(gol B u).small=true
 | [],os,t,_,_,_,_,u,hu=>by cases hu
 |x::xs,os,t,⟨x1,x2,x3⟩,ho,⟨g1,g2⟩,gx,u,hu=>by
  rw[zbG]at hu;rcases av.mp hu with e |e
  ·rw[e];exact ziE os g1 (gx x aO)
  ·exact ziU K xs _ x3 (zdH K os x1 x2 ho).1 g2 (λv hv=>gx v (aG _ hv)) u e
theorem ziC (K:Bk3 ws B):∀(xs os:List Tr) {t:Tr},Roa ws B t xs→Roa ws B t os→GOk B xs os→(∀x∈os,(gol B x).small=true)→ ∀u∈zdO B xs os,(gol B u).small=true
 | [],os,t,_,_,_,go,u,hu=>go u hu
 |x::xs,os,t,⟨x1,x2,x3⟩,ho,⟨g1,g2⟩,go,u,hu=>by
  rw[zdO]at hu;exact ziC K xs _ x3 (zdH K os x1 x2 ho).1 g2 (zfE K os x1 x2 ho g1) u hu
theorem zgU:∀(us:List Tr) {t:Tr},Roa ws B t us→t.small=true→(∀x∈us,(gol B x).small=true)→ ∀u∈us,Wy ws B u∧(src B u).small=true
 | [],t,_,_,_,u,hu=>by cases hu
 |x::us,t,⟨x1,x2,x3⟩,hs,g,u,hu=>by
  rcases av.mp hu with e |e
  ·rw[e];exact⟨x1,by rw[x2];exact hs⟩
  ·exact zgU us x3 (g x aO) (λv hv=>g v (aG _ hv)) u e
theorem zeO:∀(us:List Tr) {t:Tr},t.small=true→(∀x∈us,(gol B x).small=true)→(zeg B t us).small=true
 | [],t,hs,_=>hs
 |x::us,t,hs,g=>zeO us (g x aO) λv hv=>g v (aG _ hv)
theorem zro (K:Bk3 ws B) {xs os:List Tr}{t:Tr}(hx:Roa ws B t xs) (ho:Roa ws B t os):Roa ws B (zeg B t xs) (zdO B xs os):=by
 rw[zeb];exact zeD K os xs ho hx
end
section
variable {ws:List Str}{B:List Tn}{x t t':Tr}{a l l1 l2:Addr}{r:Nat}{xs os:List Tr}{S:Sto}{Q:WK}{X:Str→Sto→Prop}
theorem zlq (K:Bk3 ws B) (hl:S l=ae (.lst (xs.map enc))) (tx:∀x∈xs,Wy ws B x∧(src B x).small=true) (hn:xs.length≤1000) (hr:62≤r) (h:Q (.bl (xs.all Tr.quiet)) S):zdB (r+1) [.ref l] S Q X:=by
 rw[zdB];walk_at "wp";rw[zai hl];obtain⟨r,rfl⟩:∃r',r=r'+1:=⟨r - 1,by omega⟩
 refine zaw (λσ=>∃y,σ=[y]) enc (λx=>W.bl x.quiet) hl xs [] _ ⟨none,rfl⟩ (by simp;omega) (λx hx σ R hI hR=>?_) ?_
 ·obtain⟨y,rfl⟩:=hI;obtain⟨h1,h2⟩:=tx x hx;obtain⟨d1,w1,_,_⟩:=K.fitw h1 h2;rw[zfN];walk_at "wp";exact L2.znT 40 d1 (by omega) (h1.len K) (by omega) (hR _ _ ⟨_,rfl⟩ .refl)
 ·rw[aR,zox];refine⟨_, .refl,?_⟩;rw[e_];exact h
theorem zqT (K:Bk3 ws B) (ha:S a=ae (.lst (B.map zaW))) (hl:S l=ae (.lst (xs.map enc))) (tx:∀x∈xs,Wy ws B x∧(src B x).small=true) (gx:∀x∈xs,(gol B x).small=true) (hr:64≤r) (h:Q (enc (zeg B t xs)) S):zoF (r+1) [.ref a, .tup [enc t, .ref l]] S Q X:=by
 rw[zoF,zfD];refine⟨rfl,?_⟩;rw[zlW];walk_at "wp";rw[show atI [enc t,W.ref l] 1=ae (.ref l) from rfl];walk_at "wp";rw[zai hl];rcases List.eq_nil_or_concat xs with rfl |⟨ys,u,rfl⟩
 ·exact⟨_, .refl,h⟩
 ·rw[List.concat_eq_append]at *;have hne:((ys++[u]).map enc).isEmpty=false:=by simp
  obtain⟨h1,h2⟩:=tx u (by simp);have h3:=gx u (by simp);rw[zgV]at h
  try rw[hne]
  rw[if_neg (by decide),zlV];walk_at "wp";rw[show atI [enc t,W.ref l] 1=ae (.ref l) from rfl];walk_at "wp";rw[bI]at hl;rw[zai hl,show [u].map enc=[enc u] from rfl,zjb];obtain⟨r,rfl⟩:∃r',r=r'+1:=⟨r - 1,by omega⟩
  exact K.ok_goalX h1 h2 ha (by omega) (λ_=>⟨_, .refl,h⟩) λz=>by rw[h3]at z;cases z
theorem zpb (K:Bk3 ws B) (ha:S a=ae (.lst (B.map zaW))) (h1:S l1=ae (.lst (xs.map enc))) (h2:S l2=ae (.lst (os.map enc))) (hx:Roa ws B t xs) (ho:Roa ws B t' os) (hs:t.small=true) (nx:xs.length≤700) (no:os.length≤700) (hr:75≤r)
  (hA:t≠t'→X "Apart" S) (hX:t=t'→ ¬GGood B xs os→ ∀S',Sub S S'→X "TooGreat" S')
  (h:t=t'→GGood B xs os→ ∀S',Sub S S'→Q (.bl ((zbG B xs os).all Tr.quiet)) S'):zfS (r+1) [.ref a, .tup [enc t, .ref l1], .tup [enc t', .ref l2]] S Q X:=by
 obtain⟨r,rfl⟩:∃r',r=r'+1:=⟨r - 1,by omega⟩
 rw[zfS];walk_at "wp";refine znu K ha h1 h2 hx ho hs nx no (by omega) hA hX λet gg S1 d o g=>?_;subst et;obtain⟨ds,rs,g1,g2,g3,g4⟩:=g.ex;refine zkR g1 nx g3 λq hq=>?_;refine zlq K zah (zgU _ (zeD K xs os hx ho) (zeO os hs gg.go) (ziU K xs os hx ho gg.ok gg.gx)) (by rw[zjC];omega) (by omega) ?_;exact⟨_, .refl,h rfl gg _ (g.sub.trans (.put .refl hq))⟩
theorem ziu (K:Bk3 ws B) (ha:S a=ae (.lst (B.map zaW))) (h1:S l1=ae (.lst (xs.map enc))) (h2:S l2=ae (.lst (os.map enc))) (hx:Roa ws B t xs) (ho:Roa ws B t' os) (hs:t.small=true) (nx:xs.length≤700) (no:os.length≤700) (hr:75≤r)
  (hA:t≠t'→X "Apart" S) (hX:t=t'→ ¬GGood B xs os→ ∀S',Sub S S'→X "TooGreat" S')
  (h:t=t'→GGood B xs os→ ∀S' q,Sub S S'→S q=none→S' q=ae (.lst ((xs++zdO B xs os).map enc))→Q (.tup [enc t, .ref q]) S'):zcw (r+1) [.ref a, .tup [enc t, .ref l1], .tup [enc t', .ref l2]] S Q X:=by
 obtain⟨r,rfl⟩:∃r',r=r'+1:=⟨r - 1,by omega⟩
 rw[zcw,zfD];refine⟨rfl,?_⟩;rw[zdt];walk_at "wp";refine znu K ha h1 h2 hx ho hs nx no (by omega) hA hX λet gg S1 d o g=>?_;subst et;obtain⟨ds,rs,g1,g2,g3,g4⟩:=g.ex;obtain⟨pl,el⟩:=zlc (B:=B) xs os;rw[el]at g4;obtain⟨pre,ρ,rfl,Aρ⟩:=zhr g4;rw[bI]at g2;rw[zdw];walk_at "wp";rw[show atI [W.ref d,W.ref o] 1=ae (.ref o) from rfl,show atI [enc t,W.ref l1] 1=ae (.ref l1) from rfl];walk_at "wp";rw[zai g2,show [ρ].map W.ref=[W.ref ρ] from rfl,zjb];walk_at "wp";have h1':=g.sub _ _ h1;have Ae:=Aρ.e;have lo:(zdO B xs os).length≤700:=by rw[zmM];exact no
 rw[zai h1',zai Ae];refine⟨zak (by rw[aq,aq];omega),λq hq=>⟨by decide,_, .refl,?_⟩⟩;exact h rfl gg _ q (g.sub.trans (.put .refl hq)) (zjf g.sub hq) (by rw[zah,bI])
end
section
variable {w0 w1 w2 w3 w4 w5:Str}{tt:List Str}{B:List Tn}
theorem znk (t:Tr):∀i,hh [w0,w1,w2,w3,w4,w5] B (gol B (fw [w0,w1,w2,w3,w4,w5] B t)) i=hh [w0,w1,w2,w3,w4,w5] B t (i+1)
 |0=>rfl
 |i+1=>by
  show gol B (fw [w0,w1,w2,w3,w4,w5] B (hh [w0,w1,w2,w3,w4,w5] B (gol B (fw [w0,w1,w2,w3,w4,w5] B t)) i))=gol B (fw [w0,w1,w2,w3,w4,w5] B (hh [w0,w1,w2,w3,w4,w5] B t (i+1)));rw[znk t i]
theorem zmI (t:Tr) (m:Nat):wys [w0,w1,w2,w3,w4,w5] B t (m+1)=fw [w0,w1,w2,w3,w4,w5] B t::wys [w0,w1,w2,w3,w4,w5] B (gol B (fw [w0,w1,w2,w3,w4,w5] B t)) m:=by
 unfold wys;rw[gn,az,bb];congr 1;apply cV;intro i _;show fw [w0,w1,w2,w3,w4,w5] B (hh [w0,w1,w2,w3,w4,w5] B t (i+1))=_;rw[znk]
theorem zfQ (c:CxB w0 w1 w2 w3 w4 w5 tt B):∀(m:Nat) {t:Tr},Sh [w0,w1,w2,w3,w4,w5] B t→Roa [w0,w1,w2,w3,w4,w5] B t (wys [w0,w1,w2,w3,w4,w5] B t m)
 |0,t,_=>trivial
 |m+1,t,h=>by
  have f:=zjS c.b c.G c.K h;obtain⟨g1,g2,_,_⟩:=c.K.gol f.wy;rw[zmI];exact⟨f.wy,f.sr,zfQ c m ⟨g1,g2⟩⟩
theorem zwo (c:CxB w0 w1 w2 w3 w4 w5 tt B) {t x:Tr}(h:Sh [w0,w1,w2,w3,w4,w5] B t) (hx:Wy [w0,w1,w2,w3,w4,w5] B x) (ex:src B x=t) (m:Nat):zdR B x (wys [w0,w1,w2,w3,w4,w5] B t (m+1))=res B (fw [w0,w1,w2,w3,w4,w5] B t) x::wys [w0,w1,w2,w3,w4,w5] B (gol B (fw [w0,w1,w2,w3,w4,w5] B t)) m∧Sh [w0,w1,w2,w3,w4,w5] B (zcF B x (wys [w0,w1,w2,w3,w4,w5] B t (m+1))):=by
 have f:=zjS c.b c.G c.K h;obtain⟨g1,g2,_,_⟩:=c.K.gol f.wy;have r:=zfQ c m (t:=gol B (fw [w0,w1,w2,w3,w4,w5] B t)) ⟨g1,g2⟩;obtain⟨q1,q2⟩:=zhJ c.K _ r;rw[zmI,zdR,zcF,znV c h hx ex,q1,q2];have e:=Roa.end_wy c.K _ r g1 g2;exact⟨rfl,e.1,e.2⟩
theorem zoE:∀(os zs:List Tr) (x:Tr),zcF B x (os++zs)=zcF B (zcF B x os) zs
 | [],_,_=>rfl
 |o::os,zs,x=>zoE os zs (res B x o)
theorem zhW (c:CxB w0 w1 w2 w3 w4 w5 tt B):∀(xs us:List Tr) {t:Tr}{m:Nat},Sh [w0,w1,w2,w3,w4,w5] B t→Roa [w0,w1,w2,w3,w4,w5] B t us→Roa [w0,w1,w2,w3,w4,w5] B t xs→xs.length≤m→(zbG B xs (us++wys [w0,w1,w2,w3,w4,w5] B (zeg B t us) m)).all Tr.quiet=true
 | [],us,t,m,_,_,_,_=>rfl
 |x::xs,us,t,m,h,hu,⟨x1,x2,x3⟩,hl=>by
  rw[aW]at hl;obtain⟨m,rfl⟩:∃k,m=k+1:=⟨m - 1,by omega⟩
  obtain⟨g1,g2,_,_⟩:=c.K.gol x1;have e:=Roa.end_wy c.K us hu h.wy h.q;have h1:Sh [w0,w1,w2,w3,w4,w5] B (zeg B t us):=⟨e.1,e.2⟩;obtain⟨r1,r2,r3,r4⟩:=zdH c.K us x1 x2 hu;obtain⟨q1,q2⟩:=zwo c h1 r2 r3 m;have f:=zjS c.b c.G c.K h1;have mv:=c.K.moved f.wy r2 (by rw[f.sr,r3]);have z:gol B (res B (fw [w0,w1,w2,w3,w4,w5] B (zeg B t us)) (zcF B x us))=gol B (fw [w0,w1,w2,w3,w4,w5] B (zeg B t us)):=by
   rw[mv.go,znV c h1 r2 r3];exact(c.K.gol f.wy).2.2.2
  have e2:zeg B (gol B x) (zdR B x us++[res B (fw [w0,w1,w2,w3,w4,w5] B (zeg B t us)) (zcF B x us)])=gol B (fw [w0,w1,w2,w3,w4,w5] B (zeg B t us)):=by
   rw[zlN];exact z
  have ih:=zhW c xs (zdR B x us++[res B (fw [w0,w1,w2,w3,w4,w5] B (zeg B t us)) (zcF B x us)]) (m:=m) ⟨g1,g2⟩ (Roa.snoc _ r1 mv.wy (by rw[mv.sr,r4])) x3 (by omega);rw[e2,bN]at ih;rw[zbG,ie,zrQ,zoE,q1,q2.quiet c.K];exact ih
theorem zgy (c:CxB w0 w1 w2 w3 w4 w5 tt B) (xs:List Tr) {t:Tr}{m:Nat}(h:Sh [w0,w1,w2,w3,w4,w5] B t) (hx:Roa [w0,w1,w2,w3,w4,w5] B t xs) (hl:xs.length≤m):(zbG B xs (wys [w0,w1,w2,w3,w4,w5] B t m)).all Tr.quiet=true:=zhW c xs [] h trivial hx hl
theorem zkw (c:CxB w0 w1 w2 w3 w4 w5 tt B):∀(us:List Tr) {g:Tr},Roa [w0,w1,w2,w3,w4,w5] B g us→us.all Tr.quiet=true→zeg B g us=g
 | [],g,_,_=>rfl
 |u::us,g,⟨u1,u2,u3⟩,h=>by
  rw[ie,bO]at h;have s:=zmR c.K _ u (au _) u1 h.1;have e:gol B u=u:=by
   have:=(c.K.src u1).2.2.2;rw[s.q]at this;exact this
  show zeg B (gol B u) us=g;rw[zkw c us u3 h.2,e,←u2];exact s.q.symm
theorem zoX (c:CxB w0 w1 w2 w3 w4 w5 tt B) {xs os:List Tr}{t:Tr}(hx:Roa [w0,w1,w2,w3,w4,w5] B t xs) (ho:Roa [w0,w1,w2,w3,w4,w5] B t os) (h:(zbG B xs os).all Tr.quiet=true):zeg B t (xs++zdO B xs os)=zeg B t os:=by
 rw[zlN,zeb,←zou c.K xs os hx ho];exact zkw c _ (zeD c.K xs os hx ho) h
end
section
variable {w0 w1 w2 w3 w4 w5:Str}{tt:List Str}{B:List Tn}
theorem zxk (c:CxB w0 w1 w2 w3 w4 w5 tt B) {g:Tr}(h:Sh [w0,w1,w2,w3,w4,w5] B g) (hr:g.op B []=[]):fw [w0,w1,w2,w3,w4,w5] B g=g:=by
 have f:=zjS c.b c.G c.K h;have q:=zmr c _ _ [] (au _) f.wy (by rw[f.sr];exact hr);have s:=f.sr;rwa [show src B (fw [w0,w1,w2,w3,w4,w5] B g)=_ from zfP c.K.b.ti _ q]at s
theorem zoC (c:CxB w0 w1 w2 w3 w4 w5 tt B) {t:Tr}(h:Sh [w0,w1,w2,w3,w4,w5] B t) {k:Nat}(hr:(hh [w0,w1,w2,w3,w4,w5] B t k).op B []=[]):∀j,wys [w0,w1,w2,w3,w4,w5] B t (k+j)=wys [w0,w1,w2,w3,w4,w5] B t k++aN j (hh [w0,w1,w2,w3,w4,w5] B t k)
 |0=>by simp
 |j+1=>by
  rw[←jD,zjB,zoC c h hr j,zrP c h hr j,zxk c (zqv c.b c.G c.K h k) hr,bN,List.replicate_succ']
theorem zlk (c:CxB w0 w1 w2 w3 w4 w5 tt B) {g:Tr}:∀(j:Nat) {us:List Tr},Roa [w0,w1,w2,w3,w4,w5] B g us→zbG B us (aN j g)=us
 |0,us,_=>by rw[List.replicate_zero,zhc]
 |j+1,us,h=>by rw[b9,zgm,(zhJ c.K us h).1,zlk c j h]
theorem zpn (c:CxB w0 w1 w2 w3 w4 w5 tt B) {xs:List Tr}{t:Tr}(h:Sh [w0,w1,w2,w3,w4,w5] B t) (hx:Roa [w0,w1,w2,w3,w4,w5] B t xs) {l k:Nat}(ho:Out [w0,w1,w2,w3,w4,w5] B t l k false) (hl:xs.length≤l):(zbG B xs (wys [w0,w1,w2,w3,w4,w5] B t k)).all Tr.quiet=true:=by
 rcases ho.2 with z |z
 ·exact zgy c xs h hx (by omega)
 ·rcases dt k l with y |y
  ·have:=zgy c xs (m:=k+(l - k)) h hx (by omega);have rd:=zeD c.K xs _ hx (zfQ c k h);rw[zvX]at rd;rw[zoC c h z,zoV,zlk c _ rd]at this;exact this
  ·exact zgy c xs h hx (by omega)
end
section
variable {ws:List Str}{B:List Tn}{x y t:Tr}{a l1 l2:Addr}{r:Nat}{S:Sto}{Q:WK}{X:Str→Sto→Prop}
theorem Bk3.g1W (K:Bk3 ws B):SidesW (zal 1) B:=⟨λt ht=>(K.b.lf t ht).fits,λt ht=>(K.b.lf t ht).dp,λt ht=>by
 have h1:=(K.b.lf t ht).wt;have h2:=(K.b.lf t ht).nb;show t.2.1.weight≤20;omega⟩
theorem Bk3.fitF (K:Bk3 ws B) (hx:Wy ws B x) (hs:(L2.src B x).small=true):Fit B x:=by
 obtain⟨d1,w1,a1,h1⟩:=K.fitw hx hs;exact⟨d1,by omega,a1,zrr (λt ht=>bi (K.g1W.wt t ht) (by decide)) _ (by omega),zrr (λt ht=>bi (K.gW.wt t ht) (by decide)) _ (by omega),h1⟩
theorem Cel.ok_behind (h:Cel ws B x y) (gy:(gol B y).small=true) (ha:S a=ae (.lst (B.map zaW))) (hr:70≤r) (q:Q (enc (res B x y)) S):zdi (r+2) [.ref a,enc x,enc y] S Q X:=by
 have e1:∀z:Tr,z.mk B (zal 1)=src B z:=λz=>by rw[zAS]
 have sx:(src B x).small=true:=by rw[h.e];exact h.sm
 refine zlA (r:=r+1) (e1:=enc (x.mk B (zal 1))) (e2:=enc (gol B y)) (λ{Q E} q=>?_) (λ{Q E} q=>?_) (λ{Q E} q=>h.ok_move ha (by omega) q) q
 ·refine zoO ha h.K.g1W (h.K.fitF h.wx sx) (h.K.fitF h.wy h.sm) (by omega) (λz=>?_) (λ_ _ z=>?_) λ_ _ _=>q
  ·rw[e1,e1,sx,h.sm]at z;rcases z with z |z<;>cases z
  ·rw[e1,e1]at z;exact absurd h.e z
 ·exact h.K.ok_goalX h.wy h.sm ha (by omega) (λ_=>q) λz=>by rw[gy]at z;cases z
theorem Bk3.ok_gr43 (K:Bk3 ws B) (hx:Wy ws B x) (hs:(L2.src B x).small=true) (ha:S a=ae (.lst (B.map zaW))) (hr:60≤r) (q:Q (.bl (!(L2.gol B x).small)) S):zaq (r+1) [.ref a,enc x] S Q X:=by
 obtain⟨d1,w1,a1,_⟩:=K.fitw hx hs;refine zpv K.b.nd ha K.gW d1 a1 (by omega) hr ?_;rw[show x.mk B (zal 2)=L2.gol B x by rw[zto]]
 exact q
noncomputable def PL (B:List Tn):Tr→List Tr→Prop
 |_,[]=>True
 |x,o::os=>(gol B x).small=true∧PL B (res B x o) os
theorem zuQ:∀(os:List Tr) {x:Tr},PL B x os→(gol B (zcF B x os)).small=true→(gol B x).small=true∧LOk B x os
 | [],x,_,h=>⟨h,trivial⟩
 |o::os,x,⟨p1,p2⟩,h=>⟨p1,zuQ os p2 h⟩
theorem zny:∀(os:List Tr) {x:Tr},(gol B x).small=true→LOk B x os→PL B x os∧(gol B (zcF B x os)).small=true
 | [],x,h,_=>⟨trivial,h⟩
 |o::os,x,h,⟨l1,l2⟩=>⟨⟨h,(zny os l1 l2).1⟩,(zny os l1 l2).2⟩
end
section
variable {ws:List Str}{B:List Tn}{a tn:Addr}{r:Nat}{E:WX}{D:WEnds}
theorem zqq{S0:Sto}{G:Sto→Prop}(K:Bk3 ws B) (ha:S0 a=ae (.lst (B.map zaW))) (h0:S0 tn=none) (hG:∀S,Sub S0 S→G S) (hr:80≤r):∀(os:List Tr) {x t:Tr},Wy ws B x→src B x=t→Roa ws B t os→t.small=true→(∀o∈os,(gol B o).small=true)→ ∀(acc:List Tr) {S:Sto}{y1 y2 y3 y6:Option W},acc.length+os.length≤900→Sub S0 S→S tn=ae (.lst (acc.map enc))→
  (PL B x os→ ∀S' y6,Sub S0 S'→S' tn=ae (.lst ((acc++zdR B x os).map enc))→D.nx [ae (.ref a),y1,y2,y3,ae (enc (zcF B x os)),ae (.ref tn),y6] S')→(¬PL B x os→ ∀S',Sub S0 S'→D.rt (.bl false) S')→
  forL (wGN 6) (zeP r zaJ) E D G (os.map enc) [ae (.ref a),y1,y2,y3,ae (enc x),ae (.ref tn),y6] S
 | [],x,t,hx,ex,hR,hs,hg=>λacc S y1 y2 y3 y6 hl sb hq h _=>by
  have:=h trivial S y6 sb (by rw[zdR,bG];exact hq);exact this
 |o::os,x,t,hx,ex,⟨r1,r2,r3⟩,hs,hg=>by
  intro acc S y1 y2 y3 y6 hl sb hq h hE;have cl:Cel ws B x o:=⟨K,hx,r1,by rw[ex,r2],by rw[r2];exact hs⟩
  have m:=K.moved hx r1 cl.e;have go:=hg o aO;have fa:=sb _ _ ha;obtain⟨r',er⟩:∃r',r=r'+2:=⟨r - 2,by omega⟩
  rw[az];rw[aW]at hl;refine zby λN hN=>?_;rw[zhP];have eb:zdi r=zdi (r'+2):=by rw[er]
  have eg:zaq r=zaq (r'+1+1):=by rw[er]
  simp only[zeP];walk_at "wp";rw[eg];refine K.ok_gr43 (r:=r'+1) hx (by rw[ex];exact hs) fa (by omega) ?_;cases e:(gol B x).small with
  |false=>
   try walk_at "wp"
   exact hE (λp=>by rw[p.1]at e;cases e) _ sb
  |true=>
   try walk_at "wp"
   refine K.ok_gr43 (r:=r'+1) r1 cl.sm fa (by omega) ?_;rw[go]
   try walk_at "wp"
   rw[zai hq];refine⟨trivial,?_⟩;rw[eb];refine cl.symm.ok_behind e fa (by omega) ?_;rw[zai hq];refine⟨zbv (by rw[aq];omega),?_⟩;have na:a≠tn:=zqP ha h0;have sb2:Sub S0 (put S tn (Ob.lst (acc.map enc++[enc (res B o x)]))):= .put sb h0;have f2:put S tn (Ob.lst (acc.map enc++[enc (res B o x)])) tn=ae (.lst ((acc++[res B o x]).map enc)):=by rw[zah,bI];rfl
   generalize put S tn (Ob.lst (acc.map enc++[enc (res B o x)]))=S2 at sb2 f2⊢;refine cl.ok_behind go (sb2 _ _ ha) (by omega) ?_;refine hN _ _ _ .refl (hG _ sb2) (zqq K ha h0 hG hr os m.wy m.sr r3 go (λu hu=>hg u (aG _ hu)) (acc++[res B o x]) (by rw[aY,b6];omega) sb2 f2 (λpl S' z6 s' hq'=>?_) λnp=>hE λp=>np p.2);refine h ⟨e,pl⟩ S' z6 s' ?_;rw[hq',zdR,bN];rfl
theorem zqO{S0:Sto}{G:Sto→Prop}(K:Bk3 ws B) (ha:S0 a=ae (.lst (B.map zaW))) (hG:∀S,Sub S0 S→G S) (hr:80≤r):∀(xs:List Tr) {os:List Tr}{t:Tr},Roa ws B t xs→Roa ws B t os→t.small=true→(∀x∈xs,(gol B x).small=true)→(∀x∈os,(gol B x).small=true)→ ∀{S:Sto}{l:Addr}{y1 y2 y4 y5 y6:Option W},os.length≤800→Sub S0 S→S l=ae (.lst (os.map enc))→
  (GOk B xs os→ ∀S' y3 y4 y5 y6,Sub S0 S'→D.nx [ae (.ref a),y1,y2,y3,y4,y5,y6] S')→(¬GOk B xs os→ ∀S',Sub S0 S'→D.rt (.bl false) S')→
  forL (wGN 4) (zeK r zaJ) E D G (xs.map enc) [ae (.ref a),y1,y2,ae (.ref l),y4,y5,y6] S
 | [],os,t,u1,u2,u3,u4,u5=>by
  rename_i S l y1 y2 y4 y5 y6;intro hn sb hl h _;exact h trivial S _ _ _ _ sb
 |x::xs,os,t,⟨x1,x2,x3⟩,hRo,hs,gx,go=>by
  rename_i S l y1 y2 y4 y5 y6;intro hn sb hl h hE;rw[az];refine zby λN hN=>?_;rw[zhP];simp only[zeK];walk_at "wp";refine⟨aZ _,λtn htn=>?_⟩;have s1:Sub S (put S tn (Ob.lst [])):= .put .refl htn;rw[zai (s1 _ _ hl)];refine zqq (S0:=S) K (sb _ _ ha) htn ?_ hr os x1 x2 hRo hs go [] (by simp;omega) s1 zah (λpl S2 z6 s2 f2=>?_) λnp S2 s2=>?_
  ·exact λS' s'=>s' _ _ hl
  ·have gx0:=gx x aO;obtain⟨q1,q2,q3,q4⟩:=zdH K os x1 x2 hRo;obtain⟨r',er⟩:∃r',r=r'+1:=⟨r - 1,by omega⟩
   have eb:zaq r=zaq (r'+1):=by rw[er]
   try walk_at "wp"
   rw[eb];refine K.ok_gr43 q2 (by rw[q3];exact zeO os hs go) (s2 _ _ (sb _ _ ha)) (by omega) ?_;cases e:(gol B (zcF B x os)).small with
   |false=>
    try walk_at "wp"
    refine hE (λg=>?_) _ (sb.trans s2);rw[(zny os gx0 g.1).2]at e;cases e
   |true=>
    have lk:=(zuQ os pl e).2
    try walk_at "wp"
    rw[aR]at f2;exact hN _ _ _ .refl (hG _ (sb.trans s2)) (zqO K ha hG hr xs x3 q1 gx0 (λu hu=>gx u (aG _ hu)) (zfE K os x1 x2 hRo lk) (by rw[zjN];exact hn) (sb.trans s2) f2 (λgk=>h ⟨lk,gk⟩) λng=>hE λg=>ng g.2)
  ·exact hE (λg=>np (zny os (gx x aO) g.1).1) _ (sb.trans s2)
theorem zsV{S:Sto}{xs os:List Tr}{t:Tr}{l1 l2:Addr}{Q:WK}{X:Str→Sto→Prop}(K:Bk3 ws B) (ha:S a=ae (.lst (B.map zaW))) (h1:S l1=ae (.lst (xs.map enc))) (h2:S l2=ae (.lst (os.map enc))) (hx:Roa ws B t xs) (ho:Roa ws B t os) (hs:t.small=true) (gx:∀x∈xs,(gol B x).small=true) (go:∀x∈os,(gol B x).small=true) (hn:os.length≤800) (hr:80≤r)
  (h:GOk B xs os→ ∀S',Sub S S'→Q (.bl true) S') (hX:¬GOk B xs os→ ∀S',Sub S S'→Q (.bl false) S'):zdX (r+1) [.ref a, .ref l1, .ref l2] S Q X:=by
 rw[zdX];walk_at "wp";rw[zai h2];intro l hl;have s1:Sub S (put S l (Ob.lst (os.map enc))):= .put .refl hl;rw[zai (s1 _ _ h1)];refine zqO K ha (λS' s'=>s' _ _ h1) hr xs hx ho hs gx go hn s1 zah (λgk S' y3 y4 y5 y6 s'=>?_) λng S' s'=>⟨_, .refl,hX ng _ s'⟩
 try walk_at "wp"
 exact⟨_, .refl,h gk _ s'⟩
theorem zoY{S:Sto}{xs os:List Tr}{t:Tr}{l1 l2:Addr}{Q:WK}{X:Str→Sto→Prop}(K:Bk3 ws B) (ha:S a=ae (.lst (B.map zaW))) (h1:S l1=ae (.lst (xs.map enc))) (h2:S l2=ae (.lst (os.map enc))) (hx:Roa ws B t xs) (ho:Roa ws B t os) (hs:t.small=true) (nx:xs.length≤700) (no:os.length≤700) (hr:80≤r)
  (h:GGood B xs os→ ∀S',Sub S S'→Q (.bl ((zbG B xs os).all Tr.quiet)) S') (hX:¬GGood B xs os→ ∀S',Sub S S'→Q .non S'):zcE (r+1) [.ref a, .tup [enc t, .ref l1], .tup [enc t, .ref l2]] S Q X:=by
 obtain⟨r,rfl⟩:∃r',r=r'+1:=⟨r - 1,by omega⟩
 rw[zcE];walk_at "wp";refine zpb K ha h1 h2 hx ho hs nx no (by omega) (λz=>absurd rfl z) (λ_ ng S' s'=>?_) λ_ gg S' s'=>?_
 ·exact⟨by simp,_, .refl,hX ng _ s'⟩
 ·try walk_at "wp"
  exact⟨_, .refl,h gg _ s'⟩
end
section
variable {ws:List Str}{B:List Tn}{a m:Addr}{r:Nat}{E:WX}{D:WEnds}{T:WS}{t:Tr}{S:Sto}{y0 y1 y2 y3 y4 y5 y6 y7 y8 y9:Option W}{c:Int}
theorem zzG (L:Lft B) (ha:S a=ae (.lst (B.map zaW))) (h:Sh ws B t) (hw:t.weight≤400) (hd:t.depth≤40) (hr:80≤r) (k:∀S' m,Sub S S'→S' m=ae (.lst ((opl B t).map zbZ))→T E D [ae (.ref a),y1,y2,y3,y4,ae (enc t),y6,ae (.ref m),y8,y9] S') :
  zaZ r T E D [ae (.ref a),y1,y2,y3,y4,ae (enc t),y6,y7,y8,y9] S:=by
 rw[zaZ];walk_at "wp";obtain⟨r,rfl⟩:∃r',r=r'+1:=⟨r - 1,by omega⟩
 refine zdv L ha (by omega) (by omega) (by omega) h.hdT λq hq=>?_;show zcU (put S q (.lst ((t.op B []).map encX))) q _;rw[zai zah];have hol:=zls B t [];refine zaw (λσ=>∃y,σ=[y]) encX (λx=>zbZ x.1) zah (t.op B []) [] _ ⟨none,rfl⟩ (by simp;omega) (λx hx σ R hI hR=>?_) ?_
 ·obtain⟨y,rfl⟩:=hI;rw[zdS];unfold encX;walk_at "wp";exact hR _ _ ⟨_,rfl⟩ .refl
 ·intro m hm;refine k _ m ((Sub.put .refl hq).trans (.put .refl hm)) ?_;rw[zah,aR];unfold opl;rw[bb];rfl
theorem zyk{ps:List (List Int)}(hm:S m=ae (.lst (ps.map zbZ))) (hp:0<ps.length) (k:∀p1 p2 b,p1∈ps→p2∈ps→S b=none→T E D [y0,y1,y2,y3,y4,y5,ae (.int c),ae (.ref m),ae (.ref b),y9] (put S b (.lst [zbZ p1,zbZ p2]))) :
  zbb r T E D [y0,y1,y2,y3,y4,y5,ae (.int c),ae (.ref m),y8,y9] S:=by
 rw[zbb];walk_at "wp";rw[zai hm];have hne:ps.map zbZ≠ []:=by
  intro z;rw[List.map_eq_nil_iff]at z;rw[z]at hp;exact absurd hp (by decide)
 obtain⟨j1,x1,e1,f1⟩:=zrf c hne;obtain⟨j2,x2,e2,f2⟩:=zrf (c / 64) hne;obtain⟨p1,m1,rfl⟩:=aU.mp (bE e1);obtain⟨p2,m2,rfl⟩:=aU.mp (bE e2);have hl:(0:Int)<((ps.map zbZ).length:Int):=by rw[aq];omega
 refine⟨hl,?_⟩;rw[zai hm,f1];refine⟨⟨by decide,by decide⟩,?_⟩
 rw[zai hm];refine⟨hl,?_⟩;rw[zai hm,f2];exact⟨by decide,λb hb=>k p1 p2 b m1 m2 hb⟩
theorem zyM{p1 p2:List Int}{b:Addr}(K:Bk3 ws B) (L:Lft B) (hP:PB B) (ha:S a=ae (.lst (B.map zaW))) (hb:S b=ae (.lst [zbZ p1,zbZ p2])) (h:Sh ws B t) (hw:t.weight≤400) (hd:t.depth≤40) (m1:p1∈opl B t) (m2:p2∈opl B t) (hr:120≤r)
  (k:∀u S',Wy ws B u→src B u=t→Sub S S'→T E D [ae (.ref a),y1,y2,y3,y4,ae (enc t),ae (.int c),y7,ae (.ref b),ae (enc u)] S') :
  zbe r T E D [ae (.ref a),y1,y2,y3,y4,ae (enc t),ae (.int c),y7,ae (.ref b),y9] S:=by
 rw[zbe];walk_at "wp";refine⟨⟨by decide,by decide⟩,by decide,?_⟩
 rw[zai hb];have b0:=cD (c / 4096) (show(2:Int)≠0 by decide)
 have b1:=cQ (c / 4096) (show(0:Int)<2 by decide)
 have ex:∃wn:List (List Int),zer [zbZ p1,zbZ p2] none (ae (1+c / 4096 % 2))=wn.map zbZ∧(∀q∈wn,q∈opl B t)∧wn.length≤2:=by
  rcases(show c / 4096 % 2=0∨c / 4096 % 2=1 by omega) with z |z
  ·rw[z];exact⟨[p1],rfl,λq hq=>by rw[bg.mp hq];exact m1,by simp⟩
  ·rw[z];refine⟨[p1,p2],rfl,λq hq=>?_,by simp⟩
   rcases av.mp hq with e |e
   ·rw[e];exact m1
   ·rw[bg.mp e];exact m2
 obtain⟨wn,ew,hi,hl⟩:=ex;rw[ew];intro q hq;obtain⟨u,wi,e,y,_⟩:=ztT K t.depth t [] (au _) h (h.wn hi);obtain⟨r,rfl⟩:∃r',r=r'+1:=⟨r - 1,by omega⟩
 exact ztB (ks:=opl B t) L hP wi (by omega) (by omega) (keep ha hq) zah h.hdT (by omega) (by omega) (by omega) rfl hi (k u _ y e (.put .refl hq))
end
section
variable {w0 w1 w2 w3 w4 w5:Str}{tt:List Str}{B:List Tn}{t:Tr}{a lw m:Addr}{r:Nat}{lim:Int}
theorem zji{S0:Sto}{G:Sto→Prop}{E:WX}{D:WEnds}(c:CxB w0 w1 w2 w3 w4 w5 tt B) (ha:S0 a=ae (.lst (B.map zaW))) (h0:S0 lw=none) (hG:∀S,Sub S0 S→G S) (ht:Sh [w0,w1,w2,w3,w4,w5] B t) (hs:t.small=true) (hr:120≤r):∀(cs:List Int) {xs:List Tr}{S:Sto}{y1 y2 y6 y7 y8 y9:Option W},Sub S0 S→S lw=ae (.lst (xs.map enc))→Roa [w0,w1,w2,w3,w4,w5] B t xs→(∀x∈xs,(gol B x).small=true)→xs.length+cs.length≤3→
  (∀S' zs y5 y6 y7 y8 y9,Sub S0 S'→S' lw=ae (.lst (zs.map enc))→Roa [w0,w1,w2,w3,w4,w5] B t zs→(∀x∈zs,(gol B x).small=true)→zs.length≤3→D.nx [ae (.ref a),y1,y2,ae (.int lim),ae (.ref lw),y5,y6,y7,y8,y9] S')→
  forL (wGN 6) (zbD r zaJ) E D G (cs.map W.int) [ae (.ref a),y1,y2,ae (.int lim),ae (.ref lw),ae (enc (zeg B t xs)),y6,y7,y8,y9] S
 | [],xs,S,y1,y2,y6,y7,y8,y9,sb,hw,hx,h1,hl,h=>h S xs _ _ _ _ _ sb hw hx h1 (by simp at hl;omega)
 |k::cs,xs,S,y1,y2,y6,y7,y8,y9,sb,hw,hx,h1,hl,h=>by
  rw[aW]at hl;have he:=Roa.end_wy c.K xs hx ht.wy ht.q;have sh:Sh [w0,w1,w2,w3,w4,w5] B (zeg B t xs):=⟨he.1,he.2⟩;have se:=zeO xs hs h1;obtain⟨w1,w2⟩:=zek se;rw[az];refine zby λF hF=>?_;rw[zhP,zbD];refine zzG c.L (sb _ _ ha) sh w1 w2 (by omega) λS1 m s1 hm=>?_;have sb1:=sb.trans s1;have hw1:=s1 _ _ hw;have skip:∀S2 y6 y7 y8 y9,Sub S1 S2→F [ae (.ref a),y1,y2,ae (.int lim),ae (.ref lw),ae (enc (zeg B t xs)),y6,y7,y8,y9] S2:=λS2 y6 y7 y8 y9 s2=>hF _ _ _ .refl (hG _ (sb1.trans s2)) (zji c ha h0 hG ht hs hr cs (sb1.trans s2) (s2 _ _ hw1) hx h1 (by omega) h);rw[zbz];walk_at "wp";rw[zai hm];split
  ·rename_i hp;rw[aq]at hp;rw[zai hw1];split
   ·refine zyk hm (by omega) λp1 p2 b m1 m2 hb=>?_;have s2:Sub S1 (put S1 b (Ob.lst [zbZ p1,zbZ p2])):= .put .refl hb;refine zyM c.K c.L c.P (s2 _ _ (sb1 _ _ ha)) zah sh w1 w2 m1 m2 hr λu S3 hu eu s3=>?_;have s13:=s2.trans s3;have f3:=s13 _ _ (sb1 _ _ ha);have su:(src B u).small=true:=by rw[eu];exact se
    obtain⟨d1,d2,d3,_⟩:=c.K.fitw hu su;obtain⟨r',er⟩:∃r',r=r'+1:=⟨r - 1,by omega⟩
    have eg:zaq r=zaq (r'+1):=by rw[er]
    have em:zbJ r=zbJ (r'+1):=by rw[er]
    rw[zbF];walk_at "wp";rw[eg];refine c.K.ok_gr43 hu su f3 (by omega) ?_;cases e:(gol B u).small with
    |false=>
     try walk_at "wp"
     exact skip _ _ _ _ _ s13
    |true=>
     try walk_at "wp"
     rw[zbE];walk_at "wp";have fw3:=s13 _ _ hw1;rw[zai fw3,zai fw3];refine⟨trivial,zbv (by rw[aq];omega),?_⟩;have na:a≠lw:=zqP ha h0;rw[zbC];walk_at "wp";rw[em];refine zne c.bk.nd (by rw[zaG na];exact f3) (.inr rfl) c.g2 40 d1 (by omega) d3 (by omega) ?_;rw[show u.mk B (zal 2)=zeg B t (xs++[u]) by rw[zto,zgV]]
     have s4:Sub S0 (put S3 lw (Ob.lst (xs.map enc++[enc u]))):= .put (sb1.trans s13) h0;refine hF _ _ _ .refl (hG _ s4) (zji c ha h0 hG ht hs hr cs s4 (by rw[zah,bI];rfl) (Roa.snoc xs hx hu eu) (λv hv=>?_) (by rw[aY];simp;omega) h);rcases bh.mp hv with z |z
     ·exact h1 v z
     ·rw[bg.mp z];exact e
   ·exact skip _ _ _ _ _ .refl
  ·exact skip _ _ _ _ _ .refl
theorem zpY{S:Sto}{Q:WK}{E:Str→Sto→Prop}(c:CxB w0 w1 w2 w3 w4 w5 tt B) (ha:S a=ae (.lst (B.map zaW))) {ac:Addr}{cs:List Int}(hc:S ac=ae (.lst (cs.map W.int))) (hcl:cs.length≤3) (ht:Sh [w0,w1,w2,w3,w4,w5] B t) (hs:t.small=true) (hr:122≤r)
  (h:∀S' q zs,Sub S S'→S' q=ae (.lst (zs.map enc))→Roa [w0,w1,w2,w3,w4,w5] B t zs→(∀x∈zs,(gol B x).small=true)→zs.length≤3→Q (.tup [enc t, .ref q]) S'):zbO (r+1) [.ref a,enc t, .ref ac, .int lim] S Q E:=by
 rw[zbO,zfD];refine⟨rfl,?_⟩;rw[zbW];walk_at "wp";refine⟨aZ _,λlw hlw=>?_⟩;rw[zbS];walk_at "wp";rw[zbV];walk_at "wp";rw[zai (keep hc hlw)];have s0:Sub S (put S lw (Ob.lst [])):= .put .refl hlw;refine zji (S0:=S) (t:=t) (xs:=[]) c ha hlw (λS' sb=>sb _ _ hc) ht hs (by omega) cs s0 zah trivial (λ_ hx=>nomatch hx) (by simpa using hcl) λS' zs y5 y6 y7 y8 y9 sb hz hR hg hn=>?_;rw[zbT];walk_at "wp";exact⟨zak (by decide),_, .refl,h S' lw zs sb hz hR hg hn⟩
end
section
variable {w0 w1 w2 w3 w4 w5:Str}{tt:List Str}{B:List Tn}{S:Sto}{aw at' ab:Addr}
theorem zAx{E:WX}{D:WEnds}{T:WS}{ns:List Int}{a4 a5 a6 a7 a8 a9 a10:Option W}(P:Pre S aw at' ab w0 w1 w2 w3 w4 w5 tt B) (h:∀S' ab B,Pre S' aw at' ab w0 w1 w2 w3 w4 w5 tt B→T E D [ae (.scr ns),ae (.ref aw),ae (.ref at'),ae (.ref ab),a4,a5,a6,a7,a8,a9,a10] S'):zdx 199 T E D [ae (.scr ns),ae (.ref aw),ae (.ref at'),ae (.ref ab),a4,a5,a6,a7,a8,a9,a10] S:=by
 rw[zdx];walk_at "wp";refine zeA (by decide) λc=>?_
 try walk_at "wp"
 refine⟨⟨by decide,by decide⟩,by decide,?_⟩
 split
 ·rw[zai P.fb];have hl:=P.b.len;refine zaw (λσ=>∃x y z,σ=[x,y,z,ae (.ref aw)]) zaW (λt=>zaW (onB w2 t)) P.fb B [] _ ⟨none,none,none,rfl⟩ (by simp;omega) (λt ht σ R hI hR=>?_) ?_
  ·obtain⟨x,y,z,rfl⟩:=hI;rw[show zaW t= .tup [.str t.1,enc t.2.1,enc t.2.2] from rfl];simp only[zgG];walk_at "wp";refine⟨aZ _,λq hq=>?_⟩;rw[zai (keep P.fw hq),six2];dsimp only;have hri:=P.b.ri t ht;refine zqA (r:=198) (sn:=[]) t.2.2 (by have:=hri.dp;omega) zah (by have:=hri.wt;simp;omega) ⟨zak (by decide),hR _ _ ⟨_,_,_,rfl⟩ ?_⟩;rw[zaY];exact .put .refl hq
  ·intro ab' hb';refine h _ ab' (B.map (onB w2)) ⟨P.G,P.T,P.b.onc,keep P.fw hb',keep P.ft hb',?_,P.sl.onc⟩;rw[zah,aR,bb];rfl
 ·exact h _ _ _ P
end
section
variable {S:Sto}{aw at' ab l1:Addr}{w0 w1 w2 w3 w4 w5:Str}{tt:List Str}{B:List Tn}{t:Tr}{xs:List Tr}{E:WX}{D:WEnds}{T:WS}{ns:List Int}{a1 a2 a3 a4 a5 a6 a7 a8 a9 a10:Option W}
theorem zAJ (P:Pre S aw at' ab w0 w1 w2 w3 w4 w5 tt B) (h:∀t S',Pre S' aw at' ab w0 w1 w2 w3 w4 w5 tt B→Sh [w0,w1,w2,w3,w4,w5] B t→Bd t 4→T E D [ae (.scr ns),ae (.ref aw),ae (.ref at'),ae (.ref ab),ae (enc t),a5,a6,a7,a8,a9,a10] S'):zdp 199 T E D [ae (.scr ns),ae (.ref aw),ae (.ref at'),ae (.ref ab),a4,a5,a6,a7,a8,a9,a10] S:=by
 rw[zdp];walk_at "wp";intro ac hc;exact(P.sub (.put .refl hc)).ok_shape rfl zah λt S' sb sh bd=>h t S' (P.sub ((Sub.put .refl hc).trans sb)) sh bd
theorem zAH (c:CxB w0 w1 w2 w3 w4 w5 tt B) (ha:S ab=ae (.lst (B.map zaW))) (ht:Sh [w0,w1,w2,w3,w4,w5] B t) (hs:t.small=true) (h:∀S' q zs,Sub S S'→S' q=ae (.lst (zs.map enc))→Roa [w0,w1,w2,w3,w4,w5] B t zs→(∀x∈zs,(gol B x).small=true)→zs.length≤3→T E D [ae (.scr ns),a1,a2,ae (.ref ab),ae (enc t),ae (.tup [enc t, .ref q]),a6,a7,a8,a9,a10] S'):zdu 199 T E D [ae (.scr ns),a1,a2,ae (.ref ab),ae (enc t),a5,a6,a7,a8,a9,a10] S:=by
 rw[zdu];walk_at "wp";intro ac hc;refine zeA (by decide) λc12=>?_
 try walk_at "wp"
 refine⟨⟨by decide,by decide⟩,by decide,?_⟩
 exact zpY (r:=198) c (keep ha hc) zah (zCV ns 10) ht hs (by omega) λS' q zs s f R g n=>h S' q zs ((Sub.put .refl hc).trans s) f R g n
theorem zyN (c:CxB w0 w1 w2 w3 w4 w5 tt B) (ha:S ab=ae (.lst (B.map zaW))) (ht:Sh [w0,w1,w2,w3,w4,w5] B t) (hs:t.small=true) (f1:S l1=ae (.lst (xs.map enc))) (hx:Roa [w0,w1,w2,w3,w4,w5] B t xs) (nx:xs.length≤3) {l k:Nat}{q:Addr}{v:W}(ho:Out [w0,w1,w2,w3,w4,w5] B t l k false) (kl:k≤10) (fq:S q=ae (.lst ((wys [w0,w1,w2,w3,w4,w5] B t k).map enc))) (gg:GGood B xs (wys [w0,w1,w2,w3,w4,w5] B t k)) (qd:(zbG B xs (wys [w0,w1,w2,w3,w4,w5] B t k)).all Tr.quiet=true) (g:∀S' x10,Sub S S'→D.nx [ae (.scr ns),a1,a2,ae (.ref ab),ae (enc t),ae (.tup [enc t, .ref l1]),a6,ae (.tup [.tup [enc t, .ref q],v]),ae (.bl true),a9,x10] S') :
  zbf 199 E D [ae (.scr ns),a1,a2,ae (.ref ab),ae (enc t),ae (.tup [enc t, .ref l1]),a6,ae (.tup [.tup [enc t, .ref q],v]),ae (.bl true),a9,a10] S:=by
 have ro:=zfQ c k ht;have lk:=zme (ws:=[w0,w1,w2,w3,w4,w5]) (B:=B) (t:=t) k;rw[zbf];walk_at "wp";rw[zdI];walk_at "wp";refine ziu (r:=198) c.K ha f1 fq hx ro hs (by omega) (by omega) (by omega) (λz=>absurd rfl z) (λ_ ng=>absurd gg ng) λ_ _ S1 q2 s1 _ f2=>?_;rw[zdG];walk_at "wp";have e1:=zoX c hx ro qd;have rj:Roa [w0,w1,w2,w3,w4,w5] B t (xs++zdO B xs (wys [w0,w1,w2,w3,w4,w5] B t k)):=Roa.app xs hx (zro c.K hx ro);have gj:∀x∈xs++zdO B xs (wys [w0,w1,w2,w3,w4,w5] B t k),(gol B x).small=true:=λx hm=>by
  rcases bh.mp hm with z |z
  ·exact gg.gx x z
  ·exact ziC c.K xs _ hx ro gg.ok gg.go x z
 refine zqT (r:=198) c.K (s1 _ _ ha) f2 (zgU _ rj hs gj) gj (by omega) ?_;refine zqT (r:=198) c.K (s1 _ _ ha) (s1 _ _ fq) (zgU _ ro hs gg.go) gg.go (by omega) ?_;have es:=zeO _ hs gg.go;have:=(zek es).2;rw[e1,ztZ 60 _ _ (by omega),zhw]
 try walk_at "wp"
 exact g _ _ s1
theorem zyI (c:CxB w0 w1 w2 w3 w4 w5 tt B) (ha:S ab=ae (.lst (B.map zaW))) (ht:Sh [w0,w1,w2,w3,w4,w5] B t) (hs:t.small=true) {l:Nat}(l4:l≤4)
  (h1:∀k,Out [w0,w1,w2,w3,w4,w5] B t l k false→ ∀S' q,Sub S S'→S' q=ae (.lst ((wys [w0,w1,w2,w3,w4,w5] B t k).map enc))→T E D [ae (.scr ns),a1,a2,ae (.ref ab),ae (enc t),a5,ae (.int l),ae (.tup [.tup [enc t, .ref q], .bl ((hh [w0,w1,w2,w3,w4,w5] B t k).op B []).isEmpty]),a8,a9,a10] S')
  (h2:∀S',Sub S S'→T E D [ae (.scr ns),a1,a2,ae (.ref ab),ae (enc t),a5,ae (.int l),ae .non,a8,a9,a10] S'):zdf 199 T E D [ae (.scr ns),a1,a2,ae (.ref ab),ae (enc t),a5,ae (.int l),a7,a8,a9,a10] S:=by
 rw[zdf];walk_at "wp";refine zoR (r:=198) (l:=l) c ha ht hs (by omega) (by omega) (λk ho S1 q s1 fq=>?_) λk ho S1 s1=>h2 _ s1;rw[zaB]at fq;exact h1 k ho S1 q s1 fq
theorem zvG (g:D.nx [ae (.scr ns),a1,a2,a3,a4,a5,a6,ae .non,a8,a9,a10] S):zbR 199 E D [ae (.scr ns),a1,a2,a3,a4,a5,a6,ae .non,a8,a9,a10] S:=by
 rw[zbR];walk_at "wp";exact g
theorem zvU{v w:W}(g:zbH 199 (zbN 199 (zba 199 (zbf 199))) E D [ae (.scr ns),a1,a2,a3,a4,a5,a6,ae (.tup [v,w]),a8,a9,a10] S):zbR 199 E D [ae (.scr ns),a1,a2,a3,a4,a5,a6,ae (.tup [v,w]),a8,a9,a10] S:=by
 rw[zbR];generalize zbH 199 (zbN 199 (zba 199 (zbf 199)))=U at g⊢;walk_at "wp";exact g
theorem zzr (c:CxB w0 w1 w2 w3 w4 w5 tt B) (ha:S ab=ae (.lst (B.map zaW))) (hs:t.small=true) (f1:S l1=ae (.lst (xs.map enc))) (hx:Roa [w0,w1,w2,w3,w4,w5] B t xs) (gx:∀x∈xs,(gol B x).small=true) {q:Addr}{os:List Tr}{v:W}(fq:S q=ae (.lst (os.map enc))) (ro:Roa [w0,w1,w2,w3,w4,w5] B t os) (go:∀x∈os,(gol B x).small=true) (no:os.length≤10)
  (h1:GOk B xs os→ ∀S',Sub S S'→T E D [ae (.scr ns),a1,a2,ae (.ref ab),ae (enc t),ae (.tup [enc t, .ref l1]),a6,ae (.tup [.tup [enc t, .ref q],v]),ae (.bl true),a9,a10] S')
  (h2:¬GOk B xs os→ ∀S',Sub S S'→T E D [ae (.scr ns),a1,a2,ae (.ref ab),ae (enc t),ae (.tup [enc t, .ref l1]),a6,ae (.tup [.tup [enc t, .ref q],v]),ae (.bl false),a9,a10] S'):zbH 199 T E D [ae (.scr ns),a1,a2,ae (.ref ab),ae (enc t),ae (.tup [enc t, .ref l1]),a6,ae (.tup [.tup [enc t, .ref q],v]),a8,a9,a10] S:=by
 rw[zbH];walk_at "wp";rw[show atI [enc t,W.ref l1] 1=ae (W.ref l1) from rfl];dsimp only
 try walk_at "wp"
 rw[show atI [enc t,W.ref q] 1=ae (W.ref q) from rfl];dsimp only
 try walk_at "wp"
 exact zsV (r:=198) c.K ha f1 fq hx ro hs gx go (by omega) (by omega) (λgk S2 s2=>h1 gk S2 s2) λng S2 s2=>h2 ng S2 s2
theorem zuT (c:CxB w0 w1 w2 w3 w4 w5 tt B) (ha:S ab=ae (.lst (B.map zaW))) (hs:t.small=true) (f1:S l1=ae (.lst (xs.map enc))) (hx:Roa [w0,w1,w2,w3,w4,w5] B t xs) (nx:xs.length≤3) {q:Addr}{os:List Tr}{v:W}(fq:S q=ae (.lst (os.map enc))) (ro:Roa [w0,w1,w2,w3,w4,w5] B t os) (no:os.length≤10)
  (h1:GGood B xs os→ ∀S',Sub S S'→T E D [ae (.scr ns),a1,a2,ae (.ref ab),ae (enc t),ae (.tup [enc t, .ref l1]),a6,ae (.tup [.tup [enc t, .ref q],v]),a8,ae (.bl ((zbG B xs os).all Tr.quiet)),a10] S')
  (h2:¬GGood B xs os→ ∀S',Sub S S'→T E D [ae (.scr ns),a1,a2,ae (.ref ab),ae (enc t),ae (.tup [enc t, .ref l1]),a6,ae (.tup [.tup [enc t, .ref q],v]),a8,ae .non,a10] S'):zbN 199 T E D [ae (.scr ns),a1,a2,ae (.ref ab),ae (enc t),ae (.tup [enc t, .ref l1]),a6,ae (.tup [.tup [enc t, .ref q],v]),a8,a9,a10] S:=by
 rw[zbN];walk_at "wp";exact zoY (r:=198) c.K ha f1 fq hx ro hs (by omega) (by omega) (by omega) (λgg S3 s3=>h1 gg S3 s3) λng S3 s3=>h2 ng S3 s3
theorem zwY (g:T E D [ae (.scr ns),a1,a2,a3,a4,a5,a6,a7,ae (.bl true),ae (.bl true),a10] S):zba 199 T E D [ae (.scr ns),a1,a2,a3,a4,a5,a6,a7,ae (.bl true),ae (.bl true),a10] S:=by
 rw[zba];walk_at "wp";exact g
theorem zwP (g:T E D [ae (.scr ns),a1,a2,a3,a4,a5,a6,a7,ae (.bl false),ae .non,a10] S):zba 199 T E D [ae (.scr ns),a1,a2,a3,a4,a5,a6,a7,ae (.bl false),ae .non,a10] S:=by
 rw[zba];walk_at "wp";exact g
theorem zvY (g:D.nx [ae (.scr ns),a1,a2,a3,a4,a5,a6,a7,ae (.bl false),a9,a10] S):zbf 199 E D [ae (.scr ns),a1,a2,a3,a4,a5,a6,a7,ae (.bl false),a9,a10] S:=by
 rw[zbf];walk_at "wp";exact g
theorem zmS (c:CxB w0 w1 w2 w3 w4 w5 tt B) (ha:S ab=ae (.lst (B.map zaW))) (ht:Sh [w0,w1,w2,w3,w4,w5] B t) (hs:t.small=true) (f1:S l1=ae (.lst (xs.map enc))) (hx:Roa [w0,w1,w2,w3,w4,w5] B t xs) (gx:∀x∈xs,(gol B x).small=true) (nx:xs.length≤3) {l:Nat}(hl:xs.length≤l) (l4:l≤4) (g:∀S' x7 x8 x9 x10,Sub S S'→D.nx [ae (.scr ns),a1,a2,ae (.ref ab),ae (enc t),ae (.tup [enc t, .ref l1]),ae (.int l),x7,x8,x9,x10] S') :
  zdK 199 zaJ E D [ae (.scr ns),a1,a2,ae (.ref ab),ae (enc t),ae (.tup [enc t, .ref l1]),ae (.int l),a7,a8,a9,a10] S:=by
 rw[zdK];refine zyI c ha ht hs l4 (λk ho S1 q s1 fq=>?_) λS1 s1=>zvG (g _ _ _ _ _ s1);have ro:=zfQ c k ht;have lk:=zme (ws:=[w0,w1,w2,w3,w4,w5]) (B:=B) (t:=t) k;have kl:k≤10:=by
  rcases dt l k with z |z
  ·exact absurd (ho.1 l z).1 (by omega)
  ·omega
 have go:∀x∈wys [w0,w1,w2,w3,w4,w5] B t k,(gol B x).small=true:=λx hm=>(zwf c ht hs ho.1 x hm).2.2.2;have qd:=zpn c ht hx ho hl;have fa:=s1 _ _ ha;have fx:=s1 _ _ f1;refine zvU (zzr c fa hs fx hx gx fq ro go (by omega) (λgk S2 s2=>?_) λng S2 s2=>?_)
 ·have gg:GGood B xs (wys [w0,w1,w2,w3,w4,w5] B t k):=⟨gx,go,gk⟩;refine zuT c (s2 _ _ fa) hs (s2 _ _ fx) hx nx (s2 _ _ fq) ro (by omega) (λ_ S3 s3=>?_) λng=>absurd gg ng;rw[qd];have s13:=s2.trans s3;exact zwY (zyN c (s13 _ _ fa) ht hs (s13 _ _ fx) hx nx ho kl (s13 _ _ fq) gg qd λS4 x10 s4=>g _ _ _ _ _ ((s1.trans s13).trans s4))
 ·refine zuT c (s2 _ _ fa) hs (s2 _ _ fx) hx nx (s2 _ _ fq) ro (by omega) (λgg=>absurd gg.ok ng) λ_ S3 s3=>?_;exact zwP (zvY (g _ _ _ _ _ ((s1.trans s2).trans s3)))
theorem zBf (c:CxB w0 w1 w2 w3 w4 w5 tt B) (ha:S ab=ae (.lst (B.map zaW))) (ht:Sh [w0,w1,w2,w3,w4,w5] B t) (hs:t.small=true) (f1:S l1=ae (.lst (xs.map enc))) (hx:Roa [w0,w1,w2,w3,w4,w5] B t xs) (gx:∀x∈xs,(gol B x).small=true) (nx:xs.length≤3) (g:∀S' σ,T E D σ S') :
  zdA 199 T E D [ae (.scr ns),a1,a2,ae (.ref ab),ae (enc t),ae (.tup [enc t, .ref l1]),a6,a7,a8,a9,a10] S:=by
 rw[zdA];walk_at "wp";rw[show atI [enc t,W.ref l1] 1=ae (W.ref l1) from rfl];dsimp only;walk_at "wp";rw[zai f1,zai f1,aq];refine⟨zak (by decide),zby λN hN=>?_⟩;rw[zhP];refine zmS (l:=xs.length) c ha ht hs f1 hx gx nx (au _) (by omega) λS1 x7 x8 x9 x10 s1=>hN _ _ _ .refl trivial (zby λN2 hN2=>?_);rw[zhP,show((xs.length:Int)+1)=((xs.length+1:Nat):Int) by omega]
 refine zmS (l:=xs.length+1) c (s1 _ _ ha) ht hs (s1 _ _ f1) hx gx nx (by omega) (by omega) λS2 z7 z8 z9 z10 s2=>hN2 _ _ _ .refl trivial ?_;simp only[forL];exact g _ _
end
theorem zyy (ns:List Int) (hl:ns.length≤63):zdU 200 [.scr ns] (λ_=>none) (λw _=>w= .bl true) (λ_ _=>False):=by
 rw[show(200:Nat)=199+1 from rfl,zdU,zfD];refine⟨rfl,?_⟩;unfold zej zet zeq;refine zwS λS aw at' ab w0 w1 w2 w3 w4 w5 tt B P=>zAx P λS1 ab B P=>zAJ P λt S2 P sh bd=>?_;have c:CxB w0 w1 w2 w3 w4 w5 tt B:=⟨P.b,P.T,P.G,P.sl⟩;have hs:t.small=true:=zmY bd.small.1 bd.small.2;refine zAH c P.fb sh hs λS3 q zs s3 f5 hR hg hn=>zBf c (s3 _ _ P.fb) sh hs f5 hR hg hn λS4 σ=>?_;rw[zeo];walk_at "wp"
 first |exact⟨_, .refl,rfl⟩ |exact⟨_, .refl⟩
end L2
end
end
section
namespace K44
open PySem L2 PyProof.Rows
noncomputable def top (i:Nat):Stmt:=PySem.Challenge.pw_turnweave_k44_whole_roads_within_rounds.main.body.getD i (.Pass ⟨0,0,0,0⟩)
structure Cal (P:aF) (w:aC) (K:ak) (mg:Str→Option Value) (base:Heap) (nm:Str) (ps:List Str) (c:Nat→WSp) where
  zf:Addr
  zd:bF
  zg:∀r,FnOk P w K mg base (CX1 P w) r zf zd ps (zdh K (c r))
  zb:Binds K zd ps []
  zk:dW K (.ref zf)=true
  zm:mg nm=ae (.ref zf)
noncomputable def mkC {P:aF}{w:aC}{K:ak}{h:Heap}{mg:Str→Option Value}{base:Heap}{nm:Str}{st:Stmt}{ps:List Str}{c:Nat→WSp}{f:Addr}{d:bF}(X:K.In h) (G:h.Ns aK mg) (F:Fun K nm nm st f d) (a:aT K aK nm=ae (ae (.ref f))) (g:∀r,FnOk P w K mg base (CX1 P w) r f d ps (zdh K (c r))) (b:Binds K d ps []):Cal P w K mg base nm ps c:=⟨f,d,g,b,F.kp,a_ X G a⟩
def Dfn (K:ak) (nm:Str) (st:Stmt):Prop:=∃f d,aT K aK nm=ae (ae (.ref f))∧Fun K nm nm st f d
theorem dfn{K:ak}{x:Str}{st:Stmt}{f:Addr}{oc:Value}{od an:Option Addr}{osl:Array (Option Value)}{kV doc pm cdv ct:Value}(a:aT K aK x=ae (ae (.ref f))) (l:K.lookup f=ae ⟨oc,od, .func (df x x (zhA st) (zgq st) (zaj st) .none kV doc pm an cdv ct),osl⟩) (c:fS K cdv x=true) (k:dW K (.ref f)=true):Dfn K x st:=⟨f,_,a,zxC l c k⟩
theorem nC{p:List Value→Prop}{k:Nat}(h:∀a us,us.length=k→p (a::us)):∀us,us.length=k+1→p us:=λus e=>by
 cases us with
 |nil=>cases e
 |cons a us=>exact h a us (Nat.succ.inj e)
theorem n0{p:List Value→Prop}(h:p []):∀us,us.length=0→p us:=λus e=>by
 cases us with
 |nil=>exact h
 |cons a us=>cases e
theorem n1{p:List Value→Prop}(h:∀a,p [a]):∀us,us.length=1→p us:=nC λa=>n0 (p:=λus=>p (a::us)) (h a)
theorem n2{p:List Value→Prop}(h:∀a b,p [a,b]):∀us,us.length=2→p us:=nC λa=>n1 (p:=λus=>p (a::us)) (h a)
theorem n3{p:List Value→Prop}(h:∀a b c,p [a,b,c]):∀us,us.length=3→p us:=nC λa=>n2 (p:=λus=>p (a::us)) (h a)
theorem n4{p:List Value→Prop}(h:∀a b c d,p [a,b,c,d]):∀us,us.length=4→p us:=nC λa=>n3 (p:=λus=>p (a::us)) (h a)
theorem n5{p:List Value→Prop}(h:∀a b c d e,p [a,b,c,d,e]):∀us,us.length=5→p us:=nC λa=>n4 (p:=λus=>p (a::us)) (h a)
theorem n6{p:List Value→Prop}(h:∀a b c d e f,p [a,b,c,d,e,f]):∀us,us.length=6→p us:=nC λa=>n5 (p:=λus=>p (a::us)) (h a)
local macro_rules | `(tactic| walk_at "sc") => `(tactic| (refine ⟨rfl, rfl, rfl, ?_, rfl, ?_, ?_⟩ <;> decide +kernel))
noncomputable abbrev Ok (P:aF) (w:aC) (K:ak) (mg:Str→Option Value) (base:Heap) (f:Addr) (d:bF) (ps:List Str) (c:Nat→WSp):Prop:=∀r,FnOk P w K mg base (CX1 P w) r f d ps (zdh K (c r))
theorem zcr{P:aF}{w:aC}{K:ak}{mg:Str→Option Value}{base:Heap}{f:Addr}{d:bF}{ps:List Str}{c:Nat→WSp}(h0:c 0=zaJ) (h:∀r,FnOk P w K mg base (CX1 P w) r f d ps (zdh K (c r))→FnOk P w K mg base (CX1 P w) (r+1) f d ps (zdh K (c (r+1)))):Ok P w K mg base f d ps c:=λr=>by
 induction r with
 |zero=>rw[h0];exact zyj
 |succ r ih=>exact h r ih
structure Ncl (mg:Str→Option Value) (x:Str) where
  xC:Addr
  xm:mg x=ae (.ref xC)
theorem zqE:bV "ValueError" =ae (.type "ValueError"):=by first |rfl |decide +kernel | (unfold bV;decide +kernel)
noncomputable abbrev s0:Stmt:=top 9
theorem sc0:FnScope ["t"] ["t"] (zaj s0):=by walk_at "sc"
noncomputable abbrev s1:Stmt:=top 10
theorem sc1:FnScope ["things", "found", "thing"] ["things"] (zaj s1):=by walk_at "sc"
noncomputable abbrev s2:Stmt:=top 11
theorem sc2:FnScope ["t", "heavy", "deep", "level"] ["t"] (zaj s2):=by walk_at "sc"
noncomputable abbrev s3:Stmt:=top 13
theorem sc3:FnScope ["t", "place", "found", "number", "inner"] ["t", "place", "found"] (zaj s3):=by walk_at "sc"
noncomputable abbrev s4:Stmt:=top 12
theorem sc4:FnScope ["t", "found"] ["t"] (zaj s4):=by walk_at "sc"
noncomputable abbrev s5:Stmt:=top 15
theorem sc5:FnScope ["t", "number", "parts"] ["t", "number"] (zaj s5):=by walk_at "sc"
noncomputable abbrev s6:Stmt:=top 14
theorem sc6:FnScope ["t", "place", "thing", "number"] ["t", "place"] (zaj s6):=by walk_at "sc"
noncomputable abbrev s7:Stmt:=top 17
theorem sc7:FnScope ["side"] ["side"] (zaj s7):=by walk_at "sc"
noncomputable abbrev s8:Stmt:=top 18
theorem sc8:FnScope ["side", "things"] ["side", "things"] (zaj s8):=by walk_at "sc"
noncomputable abbrev s9:Stmt:=top 21
theorem sc9:FnScope ["one", "other"] ["one", "other"] (zaj s9):=by walk_at "sc"
noncomputable abbrev s10:Stmt:=top 20
theorem sc10:FnScope ["left", "t", "things", "inner", "thing"] ["left", "t", "things"] (zaj s10):=by walk_at "sc"
noncomputable abbrev s11:Stmt:=top 19
theorem sc11:FnScope ["left", "t", "things"] ["left", "t"] (zaj s11):=by walk_at "sc"
noncomputable abbrev s12:Stmt:=top 25
theorem zCM:FnScope ["text"] ["text"] (zaj s12):=by walk_at "sc"
noncomputable abbrev s13:Stmt:=top 24
theorem zCE:FnScope ["text"] ["text"] (zaj s13):=by walk_at "sc"
noncomputable abbrev s14:Stmt:=top 29
theorem sc14:FnScope ["book", "title", "turning"] ["book", "title"] (zaj s14):=by walk_at "sc"
noncomputable abbrev s15:Stmt:=top 31
theorem zCe:FnScope ["way"] ["way"] (zaj s15):=by walk_at "sc"
noncomputable abbrev s16:Stmt:=top 34
theorem zCd:FnScope ["shape"] ["shape"] (zaj s16):=by walk_at "sc"
noncomputable abbrev s17:Stmt:=top 35
theorem sc17:FnScope ["book", "way", "side", "parts", "turning"] ["book", "way", "side"] (zaj s17):=by walk_at "sc"
noncomputable abbrev s18:Stmt:=top 32
theorem zCp:FnScope ["book", "way"] ["book", "way"] (zaj s18):=by walk_at "sc"
noncomputable abbrev s19:Stmt:=top 33
theorem zCA:FnScope ["book", "way"] ["book", "way"] (zaj s19):=by walk_at "sc"
noncomputable abbrev s20:Stmt:=top 36
theorem sc20:FnScope ["book", "way", "turning"] ["book", "way"] (zaj s20):=by walk_at "sc"
noncomputable abbrev s21:Stmt:=top 40
theorem sc21:FnScope ["book", "shape", "turning"] ["book", "shape"] (zaj s21):=by walk_at "sc"
noncomputable abbrev s22:Stmt:=top 39
theorem sc22:FnScope ["book", "shape", "place", "found", "turning", "number", "inner"] ["book", "shape", "place", "found"] (zaj s22):=by walk_at "sc"
noncomputable abbrev s23:Stmt:=top 38
theorem sc23:FnScope ["book", "shape", "found"] ["book", "shape"] (zaj s23):=by walk_at "sc"
noncomputable abbrev s24:Stmt:=top 41
theorem zCg:FnScope ["pairs"] ["pairs"] (zaj s24):=by walk_at "sc"
noncomputable abbrev s25:Stmt:=top 46
theorem sc25:FnScope ["book", "shape", "turning"] ["book", "shape"] (zaj s25):=by walk_at "sc"
noncomputable abbrev s26:Stmt:=top 45
theorem sc26:FnScope ["book", "shape", "place", "wanted", "top", "parts", "spot", "inner"] ["book", "shape", "place", "wanted"] (zaj s26):=by walk_at "sc"
noncomputable abbrev s27:Stmt:=top 44
theorem zCI:FnScope ["book", "shape", "places"] ["book", "shape", "places"] (zaj s27):=by walk_at "sc"
noncomputable abbrev s28:Stmt:=top 42
theorem sc28:FnScope ["book", "shape", "places", "known", "place"] ["book", "shape", "places"] (zaj s28):=by walk_at "sc"
noncomputable abbrev s29:Stmt:=top 43
theorem zCG:FnScope ["book", "shape"] ["book", "shape"] (zaj s29):=by walk_at "sc"
noncomputable abbrev s30:Stmt:=top 48
theorem sc30:FnScope ["book", "shape", "limit", "ways", "here", "way"] ["book", "shape", "limit"] (zaj s30):=by walk_at "sc"
noncomputable abbrev s31:Stmt:=top 51
theorem sc31:FnScope ["book", "way", "other", "shape"] ["book", "way", "other"] (zaj s31):=by walk_at "sc"
noncomputable abbrev s32:Stmt:=top 52
theorem sc32:FnScope ["book", "way", "other", "first", "second", "mine", "yours", "parts"] ["book", "way", "other"] (zaj s32):=by walk_at "sc"
noncomputable abbrev s33:Stmt:=top 50
theorem zCq:FnScope ["book", "way", "other"] ["book", "way", "other"] (zaj s33):=by walk_at "sc"
noncomputable abbrev s34:Stmt:=top 54
theorem zCr:FnScope ["book", "road"] ["book", "road"] (zaj s34):=by walk_at "sc"
noncomputable abbrev s35:Stmt:=top 57
theorem sc35:FnScope ["book", "ways", "way"] ["book", "ways"] (zaj s35):=by walk_at "sc"
noncomputable abbrev s36:Stmt:=top 56
theorem sc36:FnScope ["book", "way", "ways", "line", "over", "way_on"] ["book", "way", "ways"] (zaj s36):=by walk_at "sc"
noncomputable abbrev s37:Stmt:=top 55
theorem sc37:FnScope ["book", "road", "other", "downs", "row", "overs", "way", "line"] ["book", "road", "other"] (zaj s37):=by walk_at "sc"
noncomputable abbrev s38:Stmt:=top 58
theorem sc38:FnScope ["book", "road", "other", "overs"] ["book", "road", "other"] (zaj s38):=by walk_at "sc"
noncomputable abbrev s39:Stmt:=top 61
theorem zBQ:FnScope ["ways"] ["ways"] (zaj s39):=by walk_at "sc"
noncomputable abbrev s40:Stmt:=top 60
theorem zCN:FnScope ["downs_and_overs"] ["downs_and_overs"] (zaj s40):=by walk_at "sc"
noncomputable abbrev s41:Stmt:=top 59
theorem zCy:FnScope ["book", "road", "other"] ["book", "road", "other"] (zaj s41):=by walk_at "sc"
noncomputable abbrev s42:Stmt:=top 63
theorem zCv:FnScope ["script", "k"] ["script", "k"] (zaj s42):=by walk_at "sc"
noncomputable abbrev s43:Stmt:=top 64
theorem sc43:FnScope ["one", "two", "great", "signs", "rest", "base", "k", "at", "words", "word"] ["one", "two", "great"] (zaj s43):=by walk_at "sc"
noncomputable abbrev s44:Stmt:=top 65
theorem zCt:FnScope ["side"] ["side"] (zaj s44):=by walk_at "sc"
noncomputable abbrev s45:Stmt:=top 66
theorem zCR:FnScope ["side", "things"] ["side", "things"] (zaj s45):=by walk_at "sc"
noncomputable abbrev s46:Stmt:=top 67
theorem zCl:FnScope ["draw", "many", "w"] ["draw", "many", "w"] (zaj s46):=by walk_at "sc"
noncomputable abbrev s47:Stmt:=top 68
theorem sc47:FnScope ["draw", "many", "w", "one", "other", "way"] ["draw", "many", "w"] (zaj s47):=by walk_at "sc"
noncomputable abbrev s48:Stmt:=top 69
theorem zBO:FnScope ["way", "head", "c", "d"] ["way", "head", "c", "d"] (zaj s48):=by walk_at "sc"
noncomputable abbrev s49:Stmt:=top 70
theorem sc49:FnScope ["script", "k", "w", "titles", "book", "j", "lefts", "n", "left", "right"] ["script", "k", "w", "titles"] (zaj s49):=by walk_at "sc"
noncomputable abbrev s50:Stmt:=top 71
theorem sc50:FnScope ["cells", "book", "w", "room", "stack", "spent", "cell", "way", "need", "node", "k", "at"] ["cells", "book", "w", "room"] (zaj s50):=by walk_at "sc"
noncomputable abbrev s51:Stmt:=top 72
theorem sc51:FnScope ["plan", "book", "by", "k", "bits", "head", "parts", "ways"] ["plan", "book", "by"] (zaj s51):=by walk_at "sc"
noncomputable abbrev s52:Stmt:=top 73
theorem sc52:FnScope ["book", "way", "which", "parts", "turning"] ["book", "way", "which"] (zaj s52):=by walk_at "sc"
noncomputable abbrev s53:Stmt:=top 75
theorem sc53:FnScope ["side", "sizes", "inner"] ["side", "sizes"] (zaj s53):=by walk_at "sc"
noncomputable abbrev s54:Stmt:=top 74
theorem sc54:FnScope ["book", "way", "sizes", "turning"] ["book", "way"] (zaj s54):=by walk_at "sc"
noncomputable abbrev s55:Stmt:=top 76
theorem sc55:FnScope ["book", "way", "size"] ["book", "way"] (zaj s55):=by walk_at "sc"
noncomputable abbrev s56:Stmt:=top 77
theorem zCS:FnScope ["side", "seen", "c"] ["side", "seen", "c"] (zaj s56):=by walk_at "sc"
noncomputable abbrev s57:Stmt:=top 78
theorem sc57:FnScope ["book", "shape", "cells", "limit", "ways", "here", "cell", "some", "both", "way"] ["book", "shape", "cells", "limit"] (zaj s57):=by walk_at "sc"
noncomputable abbrev s58:Stmt:=top 79
theorem sc58:FnScope ["book", "one", "other", "overs", "way", "turned", "over"] ["book", "one", "other"] (zaj s58):=by walk_at "sc"
noncomputable abbrev s59:Stmt:=top 80
theorem sc59:FnScope ["book", "shape", "limit", "found"] ["book", "shape", "limit"] (zaj s59):=by walk_at "sc"
noncomputable abbrev s60:Stmt:=top 81
theorem sc60:FnScope ["book", "road", "other", "found"] ["book", "road", "other"] (zaj s60):=by walk_at "sc"
noncomputable abbrev s61:Stmt:=top 82
theorem sc61:FnScope ["script", "w", "titles", "book", "shape", "road", "many", "found", "fits", "told", "every"] ["script"] (zaj s61):=by walk_at "sc"
section
variable (P:aF) (w:aC) (K:ak) (mg:Str→Option Value) (base:Heap)
abbrev C0:=Cal P w K mg base "parts_of" ["t"] zcS
abbrev C1:=Cal P w K mg base "parts_of_all" ["things"] zcd
abbrev C2:=Cal P w K mg base "is_small" ["t"] zdZ
abbrev C3:=Cal P w K mg base "gather_places" ["t", "place", "found"] zaP
abbrev C4:=Cal P w K mg base "places" ["t"] zfR
abbrev C5:=Cal P w K mg base "numbered_part" ["t", "number"] zbM
abbrev C6:=Cal P w K mg base "part" ["t", "place"] zkt
abbrev C7:=Cal P w K mg base "blank_places" ["side"] zce
abbrev C8:=Cal P w K mg base "filled" ["side", "things"] zdj
abbrev C9:=Cal P w K mg base "have_one_top" ["one", "other"] zcb
abbrev C10:=Cal P w K mg base "gather_matched" ["left", "t", "things"] zaC
abbrev C11:=Cal P w K mg base "matched" ["left", "t"] zcg
abbrev C12:=Cal P w K mg base "are_small_letters" ["text"] zaX
abbrev C13:=Cal P w K mg base "is_sign" ["text"] zeC
abbrev C14:=Cal P w K mg base "turning_of" ["book", "title"] zaU
abbrev C15:=Cal P w K mg base "is_quiet" ["way"] zdm
abbrev C16:=Cal P w K mg base "only_small" ["shape"] zbo
abbrev C17:=Cal P w K mg base "with_sides" ["book", "way", "side"] zbP
abbrev C18:=Cal P w K mg base "source" ["book", "way"] zeS
abbrev C19:=Cal P w K mg base "goal" ["book", "way"] zfk
abbrev C20:=Cal P w K mg base "part_places" ["book", "way"] zbU
abbrev C21:=Cal P w K mg base "open_turning" ["book", "shape"] zbu
abbrev C22:=Cal P w K mg base "gather_open" ["book", "shape", "place", "found"] zbr
abbrev C23:=Cal P w K mg base "open_uses" ["book", "shape"] zbj
abbrev C24:=Cal P w K mg base "places_of" ["pairs"] zcI
abbrev C25:=Cal P w K mg base "turned_top" ["book", "shape"] zcY
abbrev C26:=Cal P w K mg base "way_within" ["book", "shape", "place", "wanted"] zaV
abbrev C27:=Cal P w K mg base "way_with" ["book", "shape", "places"] zdl
abbrev C28:=Cal P w K mg base "way_of" ["book", "shape", "places"] zfH
abbrev C29:=Cal P w K mg base "full_way" ["book", "shape"] zee
abbrev C30:=Cal P w K mg base "rounds" ["book", "shape", "limit"] zfC
abbrev C31:=Cal P w K mg base "one_source" ["book", "way", "other"] zcp
abbrev C32:=Cal P w K mg base "moved" ["book", "way", "other"] zcJ
abbrev C33:=Cal P w K mg base "behind" ["book", "way", "other"] zdi
abbrev C34:=Cal P w K mg base "end" ["book", "road"] zoF
abbrev C35:=Cal P w K mg base "check_goals" ["book", "ways"] zaT
abbrev C36:=Cal P w K mg base "moved_along" ["book", "way", "ways"] zbs
abbrev C37:=Cal P w K mg base "grid" ["book", "road", "other"] ziF
abbrev C38:=Cal P w K mg base "road_joined" ["book", "road", "other"] zcw
abbrev C39:=Cal P w K mg base "are_quiet" ["ways"] zdB
abbrev C40:=Cal P w K mg base "last_downs" ["downs_and_overs"] zdc
abbrev C41:=Cal P w K mg base "within" ["book", "road", "other"] zfS
abbrev C42:=Cal P w K mg base "_law_cell" ["script", "k"] zaz
abbrev C43:=Cal P w K mg base "_law_words" ["one", "two", "great"] zbp
abbrev C44:=Cal P w K mg base "_law_count" ["side"] zaA
abbrev C45:=Cal P w K mg base "_law_filled" ["side", "things"] zbi
abbrev C46:=Cal P w K mg base "_law_item" ["draw", "many", "w"] zcL
abbrev C47:=Cal P w K mg base "_law_right" ["draw", "many", "w"] zcZ
abbrev C48:=Cal P w K mg base "_law_lefts" ["way", "head", "c", "d"] zdd
abbrev C49:=Cal P w K mg base "_law_book" ["script", "k", "w", "titles"] zcN
abbrev C50:=Cal P w K mg base "_law_plan" ["cells", "book", "w", "room"] zcK
abbrev C51:=Cal P w K mg base "_law_way" ["plan", "book", "by"] zcO
abbrev C52:=Cal P w K mg base "_law_made" ["book", "way", "which"] zbJ
abbrev C53:=Cal P w K mg base "_law_side_size" ["side", "sizes"] zaS
abbrev C54:=Cal P w K mg base "_law_size" ["book", "way"] zbk
abbrev C55:=Cal P w K mg base "_law_great" ["book", "way"] zaq
abbrev C56:=Cal P w K mg base "_law_once" ["side", "seen", "c"] zbI
abbrev C57:=Cal P w K mg base "_law_road" ["book", "shape", "cells", "limit"] zbO
abbrev C58:=Cal P w K mg base "_law_fit" ["book", "one", "other"] zdX
abbrev C59:=Cal P w K mg base "_law_rounds" ["book", "shape", "limit"] zcB
abbrev C60:=Cal P w K mg base "_law_within" ["book", "road", "other"] zcE
end
section
variable {P:aF}{w:aC}{K:ak}{mg:Str→Option Value}{base:Heap}
variable {f:Addr}{d:bF}
theorem o0 (F:Fun K "parts_of" "parts_of" s0 f d) (n_i:mg "isinstance" =none) (n_n:mg "int" =none):Ok P w K mg base f d ["t"] zcS:=zcr rfl λr ih=>zaE F sc0 rfl rfl λ_ _ _ _ _ _ hr=>(zad (zaL (zbA (zgM rfl n_i rfl n_n cH (jv 0) (by decide) (by decide) (zuH _ (by simp)))) (zag (zam (zau zac))) zav)
  (zag (zam (zda (jv 0) (zaF zae) zaH))))
theorem o1 (F:Fun K "parts_of_all" "parts_of_all" s1 f d) (x0:C0 P w K mg base):Ok P w K mg base f d ["things"] zcd:=zcr rfl λr ih=>zaE F sc1 rfl rfl λ_ _ _ _ _ _ hr=>(zad (zao (i:=1) sc1.nd rfl (aj rfl) (zaI (zaK zac)))
  (zad (zbL (zaM (jv 0)) (zap (i:=2) sc1.nd rfl (aj rfl)) (zag (zaQ (zqs (jv 1) (zaa (zaf (x0.zg r) hr rfl x0.zm x0.zk x0.zb (zaa (jv 2) zac)) zac)))))
  (zag (zam (jv 1)))))
theorem o2 (F:Fun K "is_small" "is_small" s2 f d) (x1:C1 P w K mg base) (n_l:mg "len" =none) {t_MOST_HEAVY:bf}(g_MOST_HEAVY:mg "MOST_HEAVY" =ae (.int 400 t_MOST_HEAVY)) {t_MOST_DEEP:bf}(g_MOST_DEEP:mg "MOST_DEEP" =ae (.int 40 t_MOST_DEEP)):Ok P w K mg base f d ["t"] zdZ:=zcr rfl λr ih=>zaE F sc2 rfl rfl λ_ _ _ _ _ _ hr=>(zad (zao (i:=1) sc2.nd rfl (aj rfl) zae)
  (zad (zao (i:=2) sc2.nd rfl (aj rfl) zae)
  (zad (zao (i:=3) sc2.nd rfl (aj rfl) (zaI (zaK (zaa (jv 0) zac))))
  (zad (zjy (zbA (jv 3)) (zad (zuk (i:=1) sc2.nd rfl (aj rfl) (zcc rfl n_l (zaa (jv 3) zac)))
  (zad (zuk (i:=2) sc2.nd rfl (aj rfl) zae)
  (zad (zaL (JW.jt (zqf (zkL (jv 1) (zdq rfl g_MOST_HEAVY)) (zjW (zkL (jv 2) (zdq rfl g_MOST_DEEP))))) (zag (zam zfa)) zav)
  (zag (zao (i:=3) sc2.nd rfl (aj rfl) (zaf (x1.zg r) hr rfl x1.zm x1.zk x1.zb (zaa (jv 3) zac))))))))
  (zag (zam zfa))))))
theorem o3 (F:Fun K "gather_places" "gather_places" s3 f d) (x0:C0 P w K mg base) (b:Binds K d ["t", "place", "found"] []) (m:mg "gather_places" =ae (.ref f)) (n_e:mg "enumerate" =none):Ok P w K mg base f d ["t", "place", "found"] zaP:=zcr rfl λr ih=>zaE F sc3 rfl rfl λ_ _ _ _ _ _ hr=>(zad (zaQ (zbd (jv 2) (zaa (jv 1) zac)))
  (zag (zbL (zmj rfl n_e (zaf (x0.zg r) hr rfl x0.zm x0.zk x0.zb (zaa (jv 0) zac))) (zfY (zaO (zap (i:=3) sc3.nd rfl (aj rfl)) (zaO (zap (i:=4) sc3.nd rfl (aj rfl)) zem)) (glS (glS gl0))) (zag (zaQ (zaf ih hr rfl m F.kp b (zaa (jv 4) (zaa (zbg (jv 1) (zau (zaa (jv 3) zac))) (zaa (jv 2) zac)))))))))
theorem o4 (F:Fun K "places" "places" s4 f d) (x3:C3 P w K mg base):Ok P w K mg base f d ["t"] zfR:=zcr rfl λr ih=>zaE F sc4 rfl rfl λ_ _ _ _ _ _ hr=>(zad (zao (i:=1) sc4.nd rfl (aj rfl) (zaI (zaK zac)))
  (zad (zaQ (zaf (x3.zg r) hr rfl x3.zm x3.zk x3.zb (zaa (jv 0) (zaa (zau zac) (zaa (jv 1) zac)))))
  (zag (zam (jv 1)))))
theorem o5 (F:Fun K "numbered_part" "numbered_part" s5 f d) (x0:C0 P w K mg base) (n_l:mg "len" =none) (y_NoPlace:Ncl mg "NoPlace") (v_NoPlace:XcIn K "NoPlace" y_NoPlace.xC):Ok P w K mg base f d ["t", "number"] zbM:=zcr rfl λr ih=>zaE F sc5 rfl rfl λ_ _ _ _ _ _ hr=>(zad (zao (i:=2) sc5.nd rfl (aj rfl) (zaf (x0.zg r) hr rfl x0.zm x0.zk x0.zb (zaa (jv 0) zac)))
  (zad (zaL (JW.jt (zqf (zps (jv 1) zae) (zjW (zAs (jv 1) (zcc rfl n_l (zaa (jv 2) zac)))))) (zag (zgg v_NoPlace rfl y_NoPlace.xm (zaa zfn zac))) zav)
  (zag (zam (zar (jv 2) (jv 1))))))
theorem o6 (F:Fun K "part" "part" s6 f d) (x5:C5 P w K mg base):Ok P w K mg base f d ["t", "place"] zkt:=zcr rfl λr ih=>zaE F sc6 rfl rfl λ_ _ _ _ _ _ hr=>(zad (zao (i:=2) sc6.nd rfl (aj rfl) (jv 0))
  (zad (zbL (zaM (jv 1)) (zap (i:=3) sc6.nd rfl (aj rfl)) (zag (zao (i:=2) sc6.nd rfl (aj rfl) (zaf (x5.zg r) hr rfl x5.zm x5.zk x5.zb (zaa (jv 2) (zaa (jv 3) zac))))))
  (zag (zam (jv 2)))))
theorem o7 (F:Fun K "blank_places" "blank_places" s7 f d) (x4:C4 P w K mg base) (x6:C6 P w K mg base) (n_i:mg "isinstance" =none) (n_n:mg "int" =none):Ok P w K mg base f d ["side"] zce:=zcr rfl λr ih=>zaE F sc7 rfl rfl λ_ _ _ _ _ _ hr=>(zag (zam (zaI (zbK (N:=["place", "side"]) (k:=1) (fr:=[0]) ⟨rfl,by decide +kernel,rfl,rfl,rfl,rfl,rfl,rfl,rfl⟩ (zaM (zaf (x4.zg r) hr rfl x4.zm x4.zk x4.zb (zaa (jv 0) zac))) (λ_ _ _ _=>(zap (i:=0) (show aX [("place" :Str),("side" :Str)] from by decide +kernel) rfl (aj rfl))) (λ_ _ _ _=>(zvO (zbA (zgM rfl n_i rfl n_n cH (zaf (x6.zg r) hr rfl x6.zm x6.zk x6.zb (zaa (jv 1) (zaa (jv 0) zac))) (by decide) (by decide) (zuH _ (by simp)))))) (λ_ _ _ _=>(jv 0))))))
theorem o8 (F:Fun K "filled" "filled" s8 f d) (b:Binds K d ["side", "things"] []) (m:mg "filled" =ae (.ref f)) (n_i:mg "isinstance" =none) (n_n:mg "int" =none) (n_t:mg "tuple" =none):Ok P w K mg base f d ["side", "things"] zdj:=zcr rfl λr ih=>zaE F sc8 rfl rfl λ_ _ _ _ _ _ hr=>(zad (zaL (zbA (zgM rfl n_i rfl n_n cH (jv 0) (by decide) (by decide) (zuH _ (by simp)))) (zag (zam (zar (jv 1) (jv 0)))) zav)
  (zag (zam (zbg (zau (zaa (zar (jv 0) zae) zac)) (zic rfl n_t (zbK (N:=["inner", "things"]) (k:=1) (fr:=[1]) ⟨rfl,by decide +kernel,rfl,rfl,rfl,rfl,rfl,rfl,rfl⟩ (zaM (zda (jv 0) (zaF zae) zaH)) (λ_ _ _ _=>(zap (i:=0) (show aX [("inner" :Str),("things" :Str)] from by decide +kernel) rfl (aj rfl))) (λ_ _ _ _=>zaR) (λ_ _ _ _=>(zaf ih hr rfl m F.kp b (zaa (jv 0) (zaa (jv 1) zac))))))))))
theorem o9 (F:Fun K "have_one_top" "have_one_top" s9 f d) (n_l:mg "len" =none):Ok P w K mg base f d ["one", "other"] zcb:=zcr rfl λr ih=>zaE F sc9 rfl rfl λ_ _ _ _ _ _ hr=>(zag (zam (zqK (zvb hr (zar (jv 0) zae) (zar (jv 1) zae)) (zos (zvb hr (zcc rfl n_l (zaa (jv 0) zac)) (zcc rfl n_l (zaa (jv 1) zac)))))))
theorem o10 (F:Fun K "gather_matched" "gather_matched" s10 f d) (x9:C9 P w K mg base) (b:Binds K d ["left", "t", "things"] []) (m:mg "gather_matched" =ae (.ref f)) (n_i:mg "isinstance" =none) (n_n:mg "int" =none) (n_z:mg "zip" =none):Ok P w K mg base f d ["left", "t", "things"] zaC:=zcr rfl λr ih=>zaE F sc10 rfl rfl λ_ _ _ _ _ _ hr=>(zad (zaL (zbA (zgM rfl n_i rfl n_n cH (jv 0) (by decide) (by decide) (zuH _ (by simp)))) (zad (zaQ (zbd (jv 2) (zaa (jv 1) zac)))
  (zag (zam zfa))) zav)
  (zad (zaL (zhI (zbA (zaf (x9.zg r) hr rfl x9.zm x9.zk x9.zb (zaa (jv 0) (zaa (jv 1) zac))))) (zag (zam zfa)) zav)
  (zad (zbL (zoh rfl n_z (zda (jv 0) (zaF zae) zaH) (zda (jv 1) (zaF zae) zaH)) (zfY (zaO (zap (i:=3) sc10.nd rfl (aj rfl)) (zaO (zap (i:=4) sc10.nd rfl (aj rfl)) zem)) (glS (glS gl0))) (zag (zaL (zhI (zbA (zaf ih hr rfl m F.kp b (zaa (jv 3) (zaa (jv 4) (zaa (jv 2) zac)))))) (zag (zam zfa)) zav)))
  (zag (zam zfa)))))
theorem o11 (F:Fun K "matched" "matched" s11 f d) (x10:C10 P w K mg base):Ok P w K mg base f d ["left", "t"] zcg:=zcr rfl λr ih=>zaE F sc11 rfl rfl λ_ _ _ _ _ _ hr=>(zad (zao (i:=2) sc11.nd rfl (aj rfl) (zaI (zaK zac)))
  (zad (zaL (zbA (zaf (x10.zg r) hr rfl x10.zm x10.zk x10.zb (zaa (jv 0) (zaa (jv 1) (zaa (jv 2) zac))))) (zag (zam (jv 2))) zav)
  (zag (zam zcH))))
theorem o12 (F:Fun K "are_small_letters" "are_small_letters" s12 f d) (n_a:mg "all" =none):Ok P w K mg base f d ["text"] zaX:=zcr rfl λr ih=>zaE F zCM rfl rfl λ_ _ _ _ _ _ hr=>(zag (zam (zlG rfl n_a (zbK (N:=["letter"]) (k:=1) (fr:=[]) ⟨rfl,by decide +kernel,rfl,rfl,rfl,rfl,rfl,rfl,rfl⟩ (zaM (jv 0)) (λ_ _ _ _=>(zap (i:=0) (show aX [("letter" :Str)] from by decide +kernel) rfl (aj rfl))) (λ_ _ _ _=>zaR) (λ_ _ _ _=>(zrJ zfn (jv 0) zfn))))))
theorem o13 (F:Fun K "is_sign" "is_sign" s13 f d) (x12:C12 P w K mg base) (n_l:mg "len" =none) {t_MOST_LETTERS:bf}(g_MOST_LETTERS:mg "MOST_LETTERS" =ae (.int 8 t_MOST_LETTERS)):Ok P w K mg base f d ["text"] zeC:=zcr rfl λr ih=>zaE F zCE rfl rfl λ_ _ _ _ _ _ hr=>(zag (zam (zqK (zrJ zae (zcc rfl n_l (zaa (jv 0) zac)) (zdq rfl g_MOST_LETTERS)) (zos (zaf (x12.zg r) hr rfl x12.zm x12.zk x12.zb (zaa (jv 0) zac))))))
theorem o14 (F:Fun K "turning_of" "turning_of" s14 f d):Ok P w K mg base f d ["book", "title"] zaU:=zcr rfl λr ih=>zaE F sc14 rfl rfl λ_ _ _ _ _ _ hr=>(zad (zbL (zaM (jv 0)) (zap (i:=2) sc14.nd rfl (aj rfl)) (zag (zaL (zez hr (zar (jv 2) zae) (jv 1)) (zag (zam (jv 2))) zav)))
  (zag (zam zcH)))
theorem o15 (F:Fun K "is_quiet" "is_quiet" s15 f d) (x13:C13 P w K mg base) (b:Binds K d ["way"] []) (m:mg "is_quiet" =ae (.ref f)) (n_a:mg "all" =none):Ok P w K mg base f d ["way"] zdm:=zcr rfl λr ih=>zaE F zCe rfl rfl λ_ _ _ _ _ _ hr=>(zag (zam (zqK (zaf (x13.zg r) hr rfl x13.zm x13.zk x13.zb (zaa (zar (jv 0) zae) zac)) (zos (zlG rfl n_a (zbK (N:=["inner"]) (k:=1) (fr:=[]) ⟨rfl,by decide +kernel,rfl,rfl,rfl,rfl,rfl,rfl,rfl⟩ (zaM (zda (jv 0) (zaF zae) zaH)) (λ_ _ _ _=>(zap (i:=0) (show aX [("inner" :Str)] from by decide +kernel) rfl (aj rfl))) (λ_ _ _ _=>zaR) (λ_ _ _ _=>(zaf ih hr rfl m F.kp b (zaa (jv 0) zac)))))))))
theorem o16 (F:Fun K "only_small" "only_small" s16 f d) (x2:C2 P w K mg base) (yT:Ncl mg "TooGreat") (v_TooGreat:XcIn K "TooGreat" yT.xC):Ok P w K mg base f d ["shape"] zbo:=zcr rfl λr ih=>zaE F zCd rfl rfl λ_ _ _ _ _ _ hr=>(zad (zaL (zhI (zbA (zaf (x2.zg r) hr rfl x2.zm x2.zk x2.zb (zaa (jv 0) zac)))) (zag (zgg v_TooGreat rfl yT.xm (zaa zfn zac))) zav)
  (zag (zam (jv 0))))
theorem o17 (F:Fun K "with_sides" "with_sides" s17 f d) (x14:C14 P w K mg base) (x8:C8 P w K mg base) (b:Binds K d ["book", "way", "side"] []) (m:mg "with_sides" =ae (.ref f)) (n_t:mg "tuple" =none):Ok P w K mg base f d ["book", "way", "side"] zbP:=zcr rfl λr ih=>zaE F sc17 rfl rfl λ_ _ _ _ _ _ hr=>(zad (zew (i:=3) (N:=["inner", "book", "side"]) (k:=1) (fr:=[0,2]) sc17.nd rfl (aj rfl) ⟨rfl,by decide +kernel,rfl,rfl,rfl,rfl,rfl,rfl,rfl⟩ (zaM (zda (jv 1) (zaF zae) zaH)) (λ_ _ _ _=>(zap (i:=0) (show aX [("inner" :Str),("book" :Str),("side" :Str)] from by decide +kernel) rfl (aj rfl))) (λ_ _ _ _=>zaR) (λ_ _ _ _=>(zaf ih hr rfl m F.kp b (zaa (jv 1) (zaa (jv 0) (zaa (jv 2) zac))))))
  (zad (zao (i:=4) sc17.nd rfl (aj rfl) (zaf (x14.zg r) hr rfl x14.zm x14.zk x14.zb (zaa (jv 0) (zaa (zar (jv 1) zae) zac))))
  (zad (zaL (zsh (jv 4) zcH) (zag (zam (zbg (zau (zaa (zar (jv 1) zae) zac)) (zes rfl n_t (zaa (jv 3) zac))))) zav)
  (zag (zam (zaf (x8.zg r) hr rfl x8.zm x8.zk x8.zb (zaa (zar (jv 4) (jv 2)) (zaa (jv 3) zac))))))))
theorem o18 (F:Fun K "source" "source" s18 f d) (x16:C16 P w K mg base) (x17:C17 P w K mg base) {t_LEFT:bf}(g_LEFT:mg "LEFT" =ae (.int 1 t_LEFT)):Ok P w K mg base f d ["book", "way"] zeS:=zcr rfl λr ih=>zaE F zCp rfl rfl λ_ _ _ _ _ _ hr=>(zag (zam (zaf (x16.zg r) hr rfl x16.zm x16.zk x16.zb (zaa (zaf (x17.zg r) hr rfl x17.zm x17.zk x17.zb (zaa (jv 0) (zaa (jv 1) (zaa (zdq rfl g_LEFT) zac)))) zac))))
theorem o19 (F:Fun K "goal" "goal" s19 f d) (x16:C16 P w K mg base) (x17:C17 P w K mg base) {t_RIGHT:bf}(g_RIGHT:mg "RIGHT" =ae (.int 2 t_RIGHT)):Ok P w K mg base f d ["book", "way"] zfk:=zcr rfl λr ih=>zaE F zCA rfl rfl λ_ _ _ _ _ _ hr=>(zag (zam (zaf (x16.zg r) hr rfl x16.zm x16.zk x16.zb (zaa (zaf (x17.zg r) hr rfl x17.zm x17.zk x17.zb (zaa (jv 0) (zaa (jv 1) (zaa (zdq rfl g_RIGHT) zac)))) zac))))
theorem o20 (F:Fun K "part_places" "part_places" s20 f d) (x14:C14 P w K mg base) (x7:C7 P w K mg base) (n_r:mg "range" =none) (n_l:mg "len" =none) {t_LEFT:bf}(g_LEFT:mg "LEFT" =ae (.int 1 t_LEFT)):Ok P w K mg base f d ["book", "way"] zbU:=zcr rfl λr ih=>zaE F sc20 rfl rfl λ_ _ _ _ _ _ hr=>(zad (zao (i:=2) sc20.nd rfl (aj rfl) (zaf (x14.zg r) hr rfl x14.zm x14.zk x14.zb (zaa (jv 0) (zaa (zar (jv 1) zae) zac))))
  (zad (zaL (zsh (jv 2) zcH) (zag (zam (zaI (zbK (N:=["number"]) (k:=1) (fr:=[]) ⟨rfl,by decide +kernel,rfl,rfl,rfl,rfl,rfl,rfl,rfl⟩ (zfL rfl n_r (zaa (zof (zcc rfl n_l (zaa (jv 1) zac)) zae) zac)) (λ_ _ _ _=>(zap (i:=0) (show aX [("number" :Str)] from by decide +kernel) rfl (aj rfl))) (λ_ _ _ _=>zaR) (λ_ _ _ _=>(zau (zaa (jv 0) zac))))))) zav)
  (zag (zam (zaf (x7.zg r) hr rfl x7.zm x7.zk x7.zb (zaa (zar (jv 2) (zdq rfl g_LEFT)) zac))))))
theorem o21 (F:Fun K "open_turning" "open_turning" s21 f d) (x11:C11 P w K mg base) {t_LEFT:bf}(g_LEFT:mg "LEFT" =ae (.int 1 t_LEFT)):Ok P w K mg base f d ["book", "shape"] zbu:=zcr rfl λr ih=>zaE F sc21 rfl rfl λ_ _ _ _ _ _ hr=>(zad (zbL (zaM (jv 0)) (zap (i:=2) sc21.nd rfl (aj rfl)) (zag (zaL (zel (zaf (x11.zg r) hr rfl x11.zm x11.zk x11.zb (zaa (zar (jv 2) (zdq rfl g_LEFT)) (zaa (jv 1) zac))) zcH) (zag (zam (jv 2))) zav)))
  (zag (zam zcH)))
theorem o22 (F:Fun K "gather_open" "gather_open" s22 f d) (x21:C21 P w K mg base) (b:Binds K d ["book", "shape", "place", "found"] []) (m:mg "gather_open" =ae (.ref f)) (n_e:mg "enumerate" =none):Ok P w K mg base f d ["book", "shape", "place", "found"] zbr:=zcr rfl λr ih=>zaE F sc22 rfl rfl λ_ _ _ _ _ _ hr=>(zad (zao (i:=4) sc22.nd rfl (aj rfl) (zaf (x21.zg r) hr rfl x21.zm x21.zk x21.zb (zaa (jv 0) (zaa (jv 1) zac))))
  (zad (zaL (zel (jv 4) zcH) (zag (zaQ (zbd (jv 3) (zaa (zau (zaa (jv 2) (zaa (zar (jv 4) zae) zac))) zac)))) zav)
  (zag (zbL (zmj rfl n_e (zda (jv 1) (zaF zae) zaH)) (zfY (zaO (zap (i:=5) sc22.nd rfl (aj rfl)) (zaO (zap (i:=6) sc22.nd rfl (aj rfl)) zem)) (glS (glS gl0))) (zag (zaQ (zaf ih hr rfl m F.kp b (zaa (jv 0) (zaa (jv 6) (zaa (zbg (jv 2) (zau (zaa (jv 5) zac))) (zaa (jv 3) zac)))))))))))
theorem o23 (F:Fun K "open_uses" "open_uses" s23 f d) (x22:C22 P w K mg base):Ok P w K mg base f d ["book", "shape"] zbj:=zcr rfl λr ih=>zaE F sc23 rfl rfl λ_ _ _ _ _ _ hr=>(zad (zao (i:=2) sc23.nd rfl (aj rfl) (zaI (zaK zac)))
  (zad (zaQ (zaf (x22.zg r) hr rfl x22.zm x22.zk x22.zb (zaa (jv 0) (zaa (jv 1) (zaa (zau zac) (zaa (jv 2) zac))))))
  (zag (zam (jv 2)))))
theorem o24 (F:Fun K "places_of" "places_of" s24 f d):Ok P w K mg base f d ["pairs"] zcI:=zcr rfl λr ih=>zaE F zCg rfl rfl λ_ _ _ _ _ _ hr=>(zag (zam (zaI (zbK (N:=["pair"]) (k:=1) (fr:=[]) ⟨rfl,by decide +kernel,rfl,rfl,rfl,rfl,rfl,rfl,rfl⟩ (zaM (jv 0)) (λ_ _ _ _=>(zap (i:=0) (show aX [("pair" :Str)] from by decide +kernel) rfl (aj rfl))) (λ_ _ _ _=>zaR) (λ_ _ _ _=>(zar (jv 0) zae))))))
theorem o25 (F:Fun K "turned_top" "turned_top" s25 f d) (x21:C21 P w K mg base) (x11:C11 P w K mg base) (n_t:mg "tuple" =none) {t_LEFT:bf}(g_LEFT:mg "LEFT" =ae (.int 1 t_LEFT)):Ok P w K mg base f d ["book", "shape"] zcY:=zcr rfl λr ih=>zaE F sc25 rfl rfl λ_ _ _ _ _ _ hr=>(zad (zao (i:=2) sc25.nd rfl (aj rfl) (zaf (x21.zg r) hr rfl x21.zm x21.zk x21.zb (zaa (jv 0) (zaa (jv 1) zac))))
  (zag (zam (zbg (zau (zaa (zar (jv 2) zae) zac)) (zes rfl n_t (zaa (zaf (x11.zg r) hr rfl x11.zm x11.zk x11.zb (zaa (zar (jv 2) (zdq rfl g_LEFT)) (zaa (jv 1) zac))) zac))))))
theorem o26 (F:Fun K "way_within" "way_within" s26 f d) (x25:C25 P w K mg base) (x20:C20 P w K mg base) (b:Binds K d ["book", "shape", "place", "wanted"] []) (m:mg "way_within" =ae (.ref f)) (n_z:mg "zip" =none) (n_t:mg "tuple" =none):Ok P w K mg base f d ["book", "shape", "place", "wanted"] zaV:=zcr rfl λr ih=>zaE F sc26 rfl rfl λ_ _ _ _ _ _ hr=>(zad (zao (i:=4) sc26.nd rfl (aj rfl) (zBd (zyV hr (jv 2) (jv 3)) (zaf (x25.zg r) hr rfl x25.zm x25.zk x25.zb (zaa (jv 0) (zaa (jv 1) zac))) (jv 1)))
  (zad (zao (i:=5) sc26.nd rfl (aj rfl) (zaI (zaK zac)))
  (zad (zbL (zoh rfl n_z (zaf (x20.zg r) hr rfl x20.zm x20.zk x20.zb (zaa (jv 0) (zaa (jv 4) zac))) (zda (jv 4) (zaF zae) zaH)) (zfY (zaO (zap (i:=6) sc26.nd rfl (aj rfl)) (zaO (zap (i:=7) sc26.nd rfl (aj rfl)) zem)) (glS (glS gl0))) (zag (zaQ (zbd (jv 5) (zaa (zaf ih hr rfl m F.kp b (zaa (jv 0) (zaa (jv 7) (zaa (zbg (jv 2) (jv 6)) (zaa (jv 3) zac))))) zac)))))
  (zag (zam (zbg (zau (zaa (zar (jv 4) zae) zac)) (zes rfl n_t (zaa (jv 5) zac))))))))
theorem o27 (F:Fun K "way_with" "way_with" s27 f d) (x26:C26 P w K mg base) (n_d:mg "dict" =none):Ok P w K mg base f d ["book", "shape", "places"] zdl:=zcr rfl λr ih=>zaE F zCI rfl rfl λ_ _ _ _ _ _ hr=>(zag (zam (zaf (x26.zg r) hr rfl x26.zm x26.zk x26.zb (zaa (jv 0) (zaa (jv 1) (zaa (zau zac) (zaa (zta hr rfl n_d (zbK (N:=["place"]) (k:=1) (fr:=[]) ⟨rfl,by decide +kernel,rfl,rfl,rfl,rfl,rfl,rfl,rfl⟩ (zaM (jv 2)) (λ_ _ _ _=>(zap (i:=0) (show aX [("place" :Str)] from by decide +kernel) rfl (aj rfl))) (λ_ _ _ _=>zaR) (λ_ _ _ _=>(zau (zaa (jv 0) (zaa zfa zac)))))) zac)))))))
theorem o28 (F:Fun K "way_of" "way_of" s28 f d) (x24:C24 P w K mg base) (x27:C27 P w K mg base) (x23:C23 P w K mg base) (y_NoUse:Ncl mg "NoUse") (v_NoUse:XcIn K "NoUse" y_NoUse.xC):Ok P w K mg base f d ["book", "shape", "places"] zfH:=zcr rfl λr ih=>zaE F sc28 rfl rfl λ_ _ _ _ _ _ hr=>(zad (zao (i:=3) sc28.nd rfl (aj rfl) (zaf (x24.zg r) hr rfl x24.zm x24.zk x24.zb (zaa (zaf (x23.zg r) hr rfl x23.zm x23.zk x23.zb (zaa (jv 0) (zaa (jv 1) zac))) zac)))
  (zad (zbL (zaM (jv 2)) (zap (i:=4) sc28.nd rfl (aj rfl)) (zag (zaL (zsC hr (jv 4) (jv 3)) (zag (zgg v_NoUse rfl y_NoUse.xm (zaa zfn zac))) zav)))
  (zag (zam (zaf (x27.zg r) hr rfl x27.zm x27.zk x27.zb (zaa (jv 0) (zaa (jv 1) (zaa (jv 2) zac))))))))
theorem o29 (F:Fun K "full_way" "full_way" s29 f d) (x27:C27 P w K mg base) (x24:C24 P w K mg base) (x23:C23 P w K mg base):Ok P w K mg base f d ["book", "shape"] zee:=zcr rfl λr ih=>zaE F zCG rfl rfl λ_ _ _ _ _ _ hr=>(zag (zam (zaf (x27.zg r) hr rfl x27.zm x27.zk x27.zb (zaa (jv 0) (zaa (jv 1) (zaa (zaf (x24.zg r) hr rfl x24.zm x24.zk x24.zb (zaa (zaf (x23.zg r) hr rfl x23.zm x23.zk x23.zb (zaa (jv 0) (zaa (jv 1) zac))) zac)) zac))))))
theorem o30 (F:Fun K "rounds" "rounds" s30 f d) (x23:C23 P w K mg base) (x29:C29 P w K mg base) (x19:C19 P w K mg base) (n_l:mg "len" =none):Ok P w K mg base f d ["book", "shape", "limit"] zfC:=zcr rfl λr ih=>zaE F sc30 rfl rfl λ_ _ _ _ _ _ hr=>(zad (zao (i:=3) sc30.nd rfl (aj rfl) (zaI (zaK zac)))
  (zad (zao (i:=4) sc30.nd rfl (aj rfl) (jv 1))
  (zad (zjy (JW.jt (zgd (zps (zcc rfl n_l (zaa (jv 3) zac)) (jv 2)) (zen (zbA (zaf (x23.zg r) hr rfl x23.zm x23.zk x23.zb (zaa (jv 0) (zaa (jv 4) zac))))))) (zad (zao (i:=5) sc30.nd rfl (aj rfl) (zaf (x29.zg r) hr rfl x29.zm x29.zk x29.zb (zaa (jv 0) (zaa (jv 4) zac))))
  (zad (zao (i:=4) sc30.nd rfl (aj rfl) (zaf (x19.zg r) hr rfl x19.zm x19.zk x19.zb (zaa (jv 0) (zaa (jv 5) zac))))
  (zag (zaQ (zbd (jv 3) (zaa (jv 5) zac)))))))
  (zag (zam (zau (zaa (zau (zaa (jv 1) (zaa (jv 3) zac))) (zaa (zwq (zaf (x23.zg r) hr rfl x23.zm x23.zk x23.zb (zaa (jv 0) (zaa (jv 4) zac)))) zac))))))))
theorem o31 (F:Fun K "one_source" "one_source" s31 f d) (x18:C18 P w K mg base) (y_Apart:Ncl mg "Apart") (v_Apart:XcIn K "Apart" y_Apart.xC):Ok P w K mg base f d ["book", "way", "other"] zcp:=zcr rfl λr ih=>zaE F sc31 rfl rfl λ_ _ _ _ _ _ hr=>(zad (zao (i:=3) sc31.nd rfl (aj rfl) (zaf (x18.zg r) hr rfl x18.zm x18.zk x18.zb (zaa (jv 0) (zaa (jv 1) zac))))
  (zad (zaL (zvW hr (zaf (x18.zg r) hr rfl x18.zm x18.zk x18.zb (zaa (jv 0) (zaa (jv 2) zac))) (jv 3)) (zag (zgg v_Apart rfl y_Apart.xm (zaa zfn zac))) zav)
  (zag (zam (jv 3)))))
theorem o32 (F:Fun K "moved" "moved" s32 f d) (x14:C14 P w K mg base) (x8:C8 P w K mg base) (x11:C11 P w K mg base) (b:Binds K d ["book", "way", "other"] []) (m:mg "moved" =ae (.ref f)) (n_z:mg "zip" =none) (n_t:mg "tuple" =none) {t_RIGHT:bf}(g_RIGHT:mg "RIGHT" =ae (.int 2 t_RIGHT)) {t_LEFT:bf}(g_LEFT:mg "LEFT" =ae (.int 1 t_LEFT)):Ok P w K mg base f d ["book", "way", "other"] zcJ:=zcr rfl λr ih=>zaE F sc32 rfl rfl λ_ _ _ _ _ _ hr=>(zad (zao (i:=3) sc32.nd rfl (aj rfl) (zaf (x14.zg r) hr rfl x14.zm x14.zk x14.zb (zaa (jv 0) (zaa (zar (jv 1) zae) zac))))
  (zad (zao (i:=4) sc32.nd rfl (aj rfl) (zaf (x14.zg r) hr rfl x14.zm x14.zk x14.zb (zaa (jv 0) (zaa (zar (jv 2) zae) zac))))
  (zad (zao (i:=5) sc32.nd rfl (aj rfl) (zda (jv 1) (zaF zae) zaH))
  (zad (zao (i:=6) sc32.nd rfl (aj rfl) (zda (jv 2) (zaF zae) zaH))
  (zad (zaL (JW.jt (zgd (zsh (jv 3) zcH) (zen (zel (jv 4) zcH)))) (zag (zao (i:=5) sc32.nd rfl (aj rfl) (zaf (x11.zg r) hr rfl x11.zm x11.zk x11.zb (zaa (zar (jv 4) (zdq rfl g_LEFT)) (zaa (jv 1) zac))))) zav)
  (zad (zaL (JW.jt (zgd (zel (jv 3) zcH) (zen (zsh (jv 4) zcH)))) (zag (zao (i:=6) sc32.nd rfl (aj rfl) (zaf (x11.zg r) hr rfl x11.zm x11.zk x11.zb (zaa (zar (jv 3) (zdq rfl g_LEFT)) (zaa (jv 2) zac))))) zav)
  (zad (zew (i:=7) (N:=["inner", "outer", "book"]) (k:=2) (fr:=[0]) sc32.nd rfl (aj rfl) ⟨rfl,by decide +kernel,rfl,rfl,rfl,rfl,rfl,rfl,rfl⟩ (zoh rfl n_z (jv 5) (jv 6)) (λ_ _ _ _=>(zfY (zaO (zap (i:=0) (show aX [("inner" :Str),("outer" :Str),("book" :Str)] from by decide +kernel) rfl (aj rfl)) (zaO (zap (i:=1) (show aX [("inner" :Str),("outer" :Str),("book" :Str)] from by decide +kernel) rfl (aj rfl)) zem)) (glS (glS gl0)))) (λ_ _ _ _=>zaR) (λ_ _ _ _=>(zaf ih hr rfl m F.kp b (zaa (jv 2) (zaa (jv 0) (zaa (jv 1) zac))))))
  (zad (zaL (zsh (jv 4) zcH) (zag (zam (zbg (zau (zaa (zar (jv 1) zae) zac)) (zes rfl n_t (zaa (jv 7) zac))))) zav)
  (zag (zam (zaf (x8.zg r) hr rfl x8.zm x8.zk x8.zb (zaa (zar (jv 4) (zdq rfl g_RIGHT)) (zaa (jv 7) zac)))))))))))))
theorem o33 (F:Fun K "behind" "behind" s33 f d) (x31:C31 P w K mg base) (x19:C19 P w K mg base) (x32:C32 P w K mg base):Ok P w K mg base f d ["book", "way", "other"] zdi:=zcr rfl λr ih=>zaE F zCq rfl rfl λ_ _ _ _ _ _ hr=>(zad (zaQ (zaf (x31.zg r) hr rfl x31.zm x31.zk x31.zb (zaa (jv 0) (zaa (jv 1) (zaa (jv 2) zac)))))
  (zad (zaQ (zaf (x19.zg r) hr rfl x19.zm x19.zk x19.zb (zaa (jv 0) (zaa (jv 2) zac))))
  (zag (zam (zaf (x32.zg r) hr rfl x32.zm x32.zk x32.zb (zaa (jv 0) (zaa (jv 1) (zaa (jv 2) zac))))))))
theorem o34 (F:Fun K "end" "end" s34 f d) (x19:C19 P w K mg base):Ok P w K mg base f d ["book", "road"] zoF:=zcr rfl λr ih=>by
  refine zaE F zCr rfl rfl λ_ _ _ _ _ _ hr=>?_;delta zlV zlW;exact(zad (zaL (zhI (zbA (zar (jv 1) zae))) (zag (zam (zar (jv 1) zae))) zav)
  (zag (zam (zaf (x19.zg r) hr rfl x19.zm x19.zk x19.zb (zaa (jv 0) (zaa (zar (zar (jv 1) zae) (zeB zae)) zac))))))
theorem o35 (F:Fun K "check_goals" "check_goals" s35 f d) (x19:C19 P w K mg base):Ok P w K mg base f d ["book", "ways"] zaT:=zcr rfl λr ih=>zaE F sc35 rfl rfl λ_ _ _ _ _ _ hr=>(zag (zbL (zaM (jv 1)) (zap (i:=2) sc35.nd rfl (aj rfl)) (zag (zaQ (zaf (x19.zg r) hr rfl x19.zm x19.zk x19.zb (zaa (jv 0) (zaa (jv 2) zac)))))))
theorem o36 (F:Fun K "moved_along" "moved_along" s36 f d) (x32:C32 P w K mg base) (x35:C35 P w K mg base):Ok P w K mg base f d ["book", "way", "ways"] zbs:=zcr rfl λr ih=>by
  refine zaE F sc36 rfl rfl λ_ _ _ _ _ _ hr=>?_;delta zcz zch zcj zci zcC zcx;delta zcv;delta zcz zch zcj zci zcC zcx;exact(zad (zao (i:=3) sc36.nd rfl (aj rfl) (zaI (zaK (zaa (jv 1) zac))))
  (zad (zbL (zaM (jv 2)) (zap (i:=4) sc36.nd rfl (aj rfl)) (zad (zao (i:=5) sc36.nd rfl (aj rfl) (zaf (x32.zg r) hr rfl x32.zm x32.zk x32.zb (zaa (jv 0) (zaa (zar (jv 3) (zeB zae)) (zaa (jv 4) zac)))))
  (zad (zaQ (zaf (x35.zg r) hr rfl x35.zm x35.zk x35.zb (zaa (jv 0) (zaa (zaI (zaK (zaa (jv 5) zac))) zac))))
  (zag (zaQ (zbd (jv 3) (zaa (jv 5) zac)))))))
  (zag (zam (jv 3)))))
theorem o37 (F:Fun K "grid" "grid" s37 f d) (x16:C16 P w K mg base) (x35:C35 P w K mg base) (x36:C36 P w K mg base) (x32:C32 P w K mg base) (n_s:mg "list" =none) (n_z:mg "zip" =none) (y_Apart:Ncl mg "Apart") (v_Apart:XcIn K "Apart" y_Apart.xC):Ok P w K mg base f d ["book", "road", "other"] ziF:=zcr rfl λr ih=>by
  refine zaE F sc37 rfl rfl λ_ _ _ _ _ _ hr=>?_;delta zhh zeQ zeI zeH zgl zhp zfT zfF zfG zhe zgZ zgh zgS;delta zhj;delta zhh zeQ zeI zeH zgl zhp zfT zfF zfG zhe zgZ zgh zgS;exact(zad (zaL (zvW hr (zar (jv 1) zae) (zar (jv 2) zae)) (zag (zgg v_Apart rfl y_Apart.xm (zaa zfn zac))) zav)
  (zad (zaQ (zaf (x16.zg r) hr rfl x16.zm x16.zk x16.zb (zaa (zar (jv 1) zae) zac)))
  (zad (zaQ (zaf (x35.zg r) hr rfl x35.zm x35.zk x35.zb (zaa (jv 0) (zaa (zar (jv 1) zae) zac))))
  (zad (zaQ (zaf (x35.zg r) hr rfl x35.zm x35.zk x35.zb (zaa (jv 0) (zaa (zar (jv 2) zae) zac))))
  (zad (zao (i:=3) sc37.nd rfl (aj rfl) (zaI (zaK zac)))
  (zad (zao (i:=4) sc37.nd rfl (aj rfl) (zaI (zrm rfl n_s (zar (jv 2) zae))))
  (zad (zao (i:=5) sc37.nd rfl (aj rfl) (zaI (zaK (zaa (jv 4) zac))))
  (zad (zbL (zaM (zar (jv 1) zae)) (zap (i:=6) sc37.nd rfl (aj rfl)) (zad (zao (i:=7) sc37.nd rfl (aj rfl) (zaf (x36.zg r) hr rfl x36.zm x36.zk x36.zb (zaa (jv 0) (zaa (jv 6) (zaa (jv 4) zac)))))
  (zad (zew (i:=4) (N:=["over", "down", "book"]) (k:=2) (fr:=[0]) sc37.nd rfl (aj rfl) ⟨rfl,by decide +kernel,rfl,rfl,rfl,rfl,rfl,rfl,rfl⟩ (zoh rfl n_z (jv 4) (jv 7)) (λ_ _ _ _=>(zfY (zaO (zap (i:=0) (show aX [("over" :Str),("down" :Str),("book" :Str)] from by decide +kernel) rfl (aj rfl)) (zaO (zap (i:=1) (show aX [("over" :Str),("down" :Str),("book" :Str)] from by decide +kernel) rfl (aj rfl)) zem)) (glS (glS gl0)))) (λ_ _ _ _=>zaR) (λ_ _ _ _=>(zaf (x32.zg r) hr rfl x32.zm x32.zk x32.zb (zaa (jv 2) (zaa (jv 0) (zaa (jv 1) zac))))))
  (zad (zaQ (zbd (jv 3) (zaa (jv 7) zac)))
  (zag (zaQ (zbd (jv 5) (zaa (jv 4) zac))))))))
  (zag (zam (zau (zaa (jv 3) (zaa (jv 5) zac)))))))))))))
theorem o38 (F:Fun K "road_joined" "road_joined" s38 f d) (x37:C37 P w K mg base):Ok P w K mg base f d ["book", "road", "other"] zcw:=zcr rfl λr ih=>by
  refine zaE F sc38 rfl rfl λ_ _ _ _ _ _ hr=>?_;delta zdw zdt;exact(zad (zao (i:=3) sc38.nd rfl (aj rfl) (zar (zaf (x37.zg r) hr rfl x37.zm x37.zk x37.zb (zaa (jv 0) (zaa (jv 1) (zaa (jv 2) zac)))) zae))
  (zag (zam (zau (zaa (zar (jv 1) zae) (zaa (zbg (zar (jv 1) zae) (zar (jv 3) (zeB zae))) zac))))))
theorem o39 (F:Fun K "are_quiet" "are_quiet" s39 f d) (x15:C15 P w K mg base) (n_a:mg "all" =none):Ok P w K mg base f d ["ways"] zdB:=zcr rfl λr ih=>zaE F zBQ rfl rfl λ_ _ _ _ _ _ hr=>(zag (zam (zlG rfl n_a (zbK (N:=["way"]) (k:=1) (fr:=[]) ⟨rfl,by decide +kernel,rfl,rfl,rfl,rfl,rfl,rfl,rfl⟩ (zaM (jv 0)) (λ_ _ _ _=>(zap (i:=0) (show aX [("way" :Str)] from by decide +kernel) rfl (aj rfl))) (λ_ _ _ _=>zaR) (λ_ _ _ _=>(zaf (x15.zg r) hr rfl x15.zm x15.zk x15.zb (zaa (jv 0) zac)))))))
theorem o40 (F:Fun K "last_downs" "last_downs" s40 f d):Ok P w K mg base f d ["downs_and_overs"] zdc:=zcr rfl λr ih=>zaE F zCN rfl rfl λ_ _ _ _ _ _ hr=>(zag (zam (zaI (zbK (N:=["line"]) (k:=1) (fr:=[]) ⟨rfl,by decide +kernel,rfl,rfl,rfl,rfl,rfl,rfl,rfl⟩ (zaM (zar (jv 0) zae)) (λ_ _ _ _=>(zap (i:=0) (show aX [("line" :Str)] from by decide +kernel) rfl (aj rfl))) (λ_ _ _ _=>zaR) (λ_ _ _ _=>(zar (jv 0) (zeB zae)))))))
theorem o41 (F:Fun K "within" "within" s41 f d) (x39:C39 P w K mg base) (x40:C40 P w K mg base) (x37:C37 P w K mg base):Ok P w K mg base f d ["book", "road", "other"] zfS:=zcr rfl λr ih=>zaE F zCy rfl rfl λ_ _ _ _ _ _ hr=>(zag (zam (zaf (x39.zg r) hr rfl x39.zm x39.zk x39.zb (zaa (zaf (x40.zg r) hr rfl x40.zm x40.zk x40.zb (zaa (zaf (x37.zg r) hr rfl x37.zm x37.zk x37.zb (zaa (jv 0) (zaa (jv 1) (zaa (jv 2) zac)))) zac)) zac))))
theorem o42 (F:Fun K "_law_cell" "_law_cell" s42 f d) (n_l:mg "len" =none):Ok P w K mg base f d ["script", "k"] zaz:=zcr rfl λr ih=>zaE F zCv rfl rfl λ_ _ _ _ _ _ hr=>(zad (zaL (zps (jv 1) (zcc rfl n_l (zaa (jv 0) zac))) (zag (zam (zar (jv 0) (jv 1)))) zav)
  (zag (zam zae)))
theorem o43 (F:Fun K "_law_words" "_law_words" s43 f d) (n_r:mg "range" =none) (n_l:mg "len" =none) (n_n:mg "int" =none):Ok P w K mg base f d ["one", "two", "great"] zbp:=zcr rfl λr ih=>zaE F sc43 rfl rfl λ_ _ _ _ _ _ hr=>(zad (zao (i:=3) sc43.nd rfl (cP rfl) zfn)
  (zad (zao (i:=4) sc43.nd rfl (aj rfl) (zcn (jv 1) (zzH zae zae)))
  (zad (zao (i:=5) sc43.nd rfl (cP rfl) (zaI (zaK zac)))
  (zad (zbL (zfL rfl n_r (zaa (zbg zae (zcn (jv 0) zae)) zac)) (zap (i:=6) sc43.nd rfl (cP rfl)) (zad (zaQ (zbd (jv 5) (zaa (zcn (jv 4) zae) zac)))
  (zag (zao (i:=4) sc43.nd rfl (aj rfl) (zcD (jv 4) zae)))))
  (zad (zao (i:=7) sc43.nd rfl (cP rfl) (zcn (zcD (jv 0) zae) (zcc rfl n_l (zaa (jv 5) zac))))
  (zad (zao (i:=8) sc43.nd rfl (aj rfl) (zaI (zaK zac)))
  (zad (zbL (zfL rfl n_r (zaa zae zac)) (zap (i:=6) sc43.nd rfl (cP rfl)) (zad (zao (i:=9) sc43.nd rfl (aj rfl) (zsT zfn (zbK (N:=["j", "signs", "base", "k", "at"]) (k:=1) (fr:=[3,5,6,7]) ⟨rfl,by decide +kernel,rfl,rfl,rfl,rfl,rfl,rfl,rfl⟩ (zfL rfl n_r (zaa (zcc rfl n_l (zaa (jv 5) zac)) zac)) (λ_ _ _ _=>(zap (i:=0) (show aX [("j" :Str),("signs" :Str),("base" :Str),("k" :Str),("at" :Str)] from by decide +kernel) rfl (aj rfl))) (λ_ _ _ _=>zaR) (λ_ _ _ _=>(zar (jv 1) (zcn (zbg (zar (jv 2) (jv 0)) (zuu (jv 3) (zpR rfl n_n (zaa (zvb hr (jv 0) (jv 4)) zac)))) zae))))))
  (zad (zaL (zbA (jv 2)) (zag (zao (i:=9) sc43.nd rfl (aj rfl) (zbg (ztw (zar (jv 9) zae)) (zda (jv 9) (zaF zae) zaH)))) zav)
  (zag (zaQ (zbd (jv 8) (zaa (jv 9) zac)))))))
  (zad (zaL (JW.jt (zgd (zez hr (zcn (zcD (jv 0) zae) zae) zae) (zen (zhI (zbA (jv 2)))))) (zag (zao (i:=8) sc43.nd rfl (aj rfl) (zaI (zlT (zwa (jv 8) zaH (zaF zae)) (zaK (zaa (zar (jv 8) zae) (zaa (zar (jv 8) zae) (zaa (zar (jv 8) zae) zac)))))))) zav)
  (zag (zam (jv 8)))))))))))
theorem o44 (F:Fun K "_law_count" "_law_count" s44 f d) (b:Binds K d ["side"] []) (m:mg "_law_count" =ae (.ref f)) (n_i:mg "isinstance" =none) (n_n:mg "int" =none) (n_u:mg "sum" =none):Ok P w K mg base f d ["side"] zaA:=zcr rfl λr ih=>zaE F zCt rfl rfl λ_ _ _ _ _ _ hr=>(zad (zaL (zbA (zgM rfl n_i rfl n_n cH (jv 0) (by decide) (by decide) (zuH _ (by simp)))) (zag (zam zae)) zav)
  (zag (zam (zmh rfl n_u (zbK (N:=["one"]) (k:=1) (fr:=[]) ⟨rfl,by decide +kernel,rfl,rfl,rfl,rfl,rfl,rfl,rfl⟩ (zaM (zda (jv 0) (zaF zae) zaH)) (λ_ _ _ _=>(zap (i:=0) (show aX [("one" :Str)] from by decide +kernel) rfl (aj rfl))) (λ_ _ _ _=>zaR) (λ_ _ _ _=>(zaf ih hr rfl m F.kp b (zaa (jv 0) zac))))))))
theorem o45 (F:Fun K "_law_filled" "_law_filled" s45 f d) (b:Binds K d ["side", "things"] []) (m:mg "_law_filled" =ae (.ref f)) (n_i:mg "isinstance" =none) (n_n:mg "int" =none) (n_t:mg "tuple" =none):Ok P w K mg base f d ["side", "things"] zbi:=zcr rfl λr ih=>zaE F zCR rfl rfl λ_ _ _ _ _ _ hr=>(zad (zaL (zbA (zgM rfl n_i rfl n_n cH (jv 0) (by decide) (by decide) (zuH _ (by simp)))) (zag (zam (zar (jv 1) (jv 0)))) zav)
  (zag (zam (zbg (zda (jv 0) zaH (zaF zae)) (zic rfl n_t (zbK (N:=["one", "things"]) (k:=1) (fr:=[1]) ⟨rfl,by decide +kernel,rfl,rfl,rfl,rfl,rfl,rfl,rfl⟩ (zaM (zda (jv 0) (zaF zae) zaH)) (λ_ _ _ _=>(zap (i:=0) (show aX [("one" :Str),("things" :Str)] from by decide +kernel) rfl (aj rfl))) (λ_ _ _ _=>zaR) (λ_ _ _ _=>(zaf ih hr rfl m F.kp b (zaa (jv 0) (zaa (jv 1) zac))))))))))
theorem o46 (F:Fun K "_law_item" "_law_item" s46 f d):Ok P w K mg base f d ["draw", "many", "w"] zcL:=zcr rfl λr ih=>zaE F zCl rfl rfl λ_ _ _ _ _ _ hr=>(zad (zaL (JW.jt (zgd (zkL (jv 1) zae) (zen (zkL (zcn (jv 0) zae) zae)))) (zag (zam (zcn (zcD (jv 0) zae) (jv 1)))) zav)
  (zag (zam (zau (zaa (zar (jv 2) (zlo (zaK (zaa zae (zaa zae zac))) (zcn (zcD (jv 0) zae) zae))) zac)))))
theorem o47 (F:Fun K "_law_right" "_law_right" s47 f d) (x46:C46 P w K mg base):Ok P w K mg base f d ["draw", "many", "w"] zcZ:=zcr rfl λr ih=>zaE F sc47 rfl rfl λ_ _ _ _ _ _ hr=>(zad (zao (i:=3) sc47.nd rfl (aj rfl) (zaf (x46.zg r) hr rfl x46.zm x46.zk x46.zb (zaa (zcD (jv 0) zae) (zaa (jv 1) (zaa (jv 2) zac)))))
  (zad (zao (i:=4) sc47.nd rfl (aj rfl) (zaf (x46.zg r) hr rfl x46.zm x46.zk x46.zb (zaa (zcD (jv 0) zae) (zaa (jv 1) (zaa (jv 2) zac)))))
  (zad (zao (i:=5) sc47.nd rfl (aj rfl) (zcn (jv 0) zae))
  (zad (zaL (zez hr (jv 5) zae) (zag (zam (jv 3))) zav)
  (zad (zaL (JW.jt (zqf (zez hr (jv 5) zae) (zjW (zez hr (jv 1) zae)))) (zag (zam (zau (zaa (zar (jv 2) zae) (zaa (jv 3) zac))))) zav)
  (zad (zaL (zez hr (jv 5) zae) (zag (zam (zau (zaa (zar (jv 2) zae) (zaa (jv 3) (zaa (jv 4) zac)))))) zav)
  (zad (zaL (zez hr (jv 5) zae) (zag (zam (zau (zaa (zar (jv 2) zae) (zaa (jv 3) (zaa (jv 3) zac)))))) zav)
  (zad (zaL (zez hr (jv 5) zae) (zag (zam (zau (zaa (zar (jv 2) zae) (zaa (zau (zaa (zar (jv 2) zae) (zaa (jv 3) zac))) (zaa (jv 4) zac)))))) zav)
  (zad (zaL (zez hr (jv 5) zae) (zag (zam (zau (zaa (zar (jv 2) zae) (zaa (jv 3) zac))))) zav)
  (zag (zam (zau (zaa (zar (jv 2) zae) (zaa (jv 3) (zaa (jv 4) zac)))))))))))))))
theorem o48 (F:Fun K "_law_lefts" "_law_lefts" s48 f d):Ok P w K mg base f d ["way", "head", "c", "d"] zdd:=zcr rfl λr ih=>zaE F zBO rfl rfl λ_ _ _ _ _ _ hr=>(zad (zaL (zez hr (jv 0) zae) (zag (zam (zaI (zaK (zaa (zau (zaa (jv 1) (zaa zae zac))) zac))))) zav)
  (zad (zaL (zez hr (jv 0) zae) (zag (zam (zaI (zaK (zaa (zau (zaa (jv 1) (zaa zae (zaa zae zac)))) zac))))) zav)
  (zad (zaL (zez hr (jv 0) zae) (zag (zam (zaI (zaK (zaa (zau (zaa (jv 1) (zaa (zau (zaa (jv 2) zac)) zac))) (zaa (zau (zaa (jv 1) (zaa (zau (zaa (jv 3) (zaa zae zac))) zac))) zac)))))) zav)
  (zad (zaL (zez hr (jv 0) zae) (zag (zam (zaI (zaK (zaa (zau (zaa (jv 1) (zaa (zau (zaa (jv 2) zac)) (zaa zae zac)))) (zaa (zau (zaa (jv 1) (zaa (zau (zaa (jv 3) (zaa zae zac))) (zaa zae zac)))) zac)))))) zav)
  (zad (zaL (zez hr (jv 0) zae) (zag (zam (zaI (zaK (zaa (zau (zaa (jv 1) (zaa (zau (zaa (jv 3) (zaa (zau (zaa (jv 3) (zaa zae zac))) zac))) (zaa zae (zaa zae zac))))) (zaa (zau (zaa (jv 1) (zaa (zau (zaa (jv 3) (zaa (zau (zaa (jv 2) zac)) zac))) (zaa zae (zaa zae zac))))) zac)))))) zav)
  (zag (zam (zaI (zaK (zaa (zau (zaa (jv 1) zac)) zac))))))))))
theorem o49 (F:Fun K "_law_book" "_law_book" s49 f d) (x48:C48 P w K mg base) (x47:C47 P w K mg base) (x42:C42 P w K mg base) (x44:C44 P w K mg base) (n_r:mg "range" =none) (n_e:mg "enumerate" =none) (n_l:mg "len" =none):Ok P w K mg base f d ["script", "k", "w", "titles"] zcN:=zcr rfl λr ih=>zaE F sc49 rfl rfl λ_ _ _ _ _ _ hr=>(zad (zao (i:=4) sc49.nd rfl (aj rfl) (zaI (zaK zac)))
  (zad (zbL (zfL rfl n_r (zaa zae zac)) (zap (i:=5) sc49.nd rfl (aj rfl)) (zad (zao (i:=6) sc49.nd rfl (aj rfl) (zaf (x48.zg r) hr rfl x48.zm x48.zk x48.zb (zaa (zcn (zaf (x42.zg r) hr rfl x42.zm x42.zk x42.zb (zaa (jv 0) (zaa (zbg (jv 1) (jv 5)) zac))) zae) (zaa (zar (jv 2) (jv 5)) (zaa (zar (jv 2) zae) (zaa (zar (jv 2) zae) zac))))))
  (zag (zbL (zmj rfl n_e (jv 6)) (zfY (zaO (zap (i:=7) sc49.nd rfl (aj rfl)) (zaO (zap (i:=8) sc49.nd rfl (aj rfl)) zem)) (glS (glS gl0))) (zad (zao (i:=9) sc49.nd rfl (aj rfl) (zaf (x47.zg r) hr rfl x47.zm x47.zk x47.zb (zaa (zaf (x42.zg r) hr rfl x42.zm x42.zk x42.zb (zaa (jv 0) (zaa (zbg (zbg (zbg (jv 1) zae) (zuu zae (jv 5))) (jv 7)) zac))) (zaa (zaf (x44.zg r) hr rfl x44.zm x44.zk x44.zb (zaa (jv 8) zac)) (zaa (jv 2) zac)))))
  (zag (zaQ (zbd (jv 4) (zaa (zau (zaa (zar (jv 3) (zcc rfl n_l (zaa (jv 4) zac))) (zaa (jv 8) (zaa (jv 9) zac)))) zac)))))))))
  (zag (zam (jv 4)))))
theorem o50 (F:Fun K "_law_plan" "_law_plan" s50 f d) (x44:C44 P w K mg base) (n_l:mg "len" =none) (n_m:mg "min" =none):Ok P w K mg base f d ["cells", "book", "w", "room"] zcK:=zcr rfl λr ih=>zaE F sc50 rfl rfl λ_ _ _ _ _ _ hr=>(zad (zao (i:=4) sc50.nd rfl (aj rfl) (zaI (zaK zac)))
  (zad (zao (i:=5) sc50.nd rfl (aj rfl) zae)
  (zad (zbL (zaM (jv 0)) (zap (i:=6) sc50.nd rfl (aj rfl)) (zad (zao (i:=7) sc50.nd rfl (aj rfl) (zcn (jv 6) zae))
  (zad (zao (i:=8) sc50.nd rfl (aj rfl) (zlo (zaK (zaa zae (zaa zae (zaa zae (zaa zae zac))))) (zrq rfl n_m (zaa (jv 7) (zaa zae zac)))))
  (zad (zao (i:=9) sc50.nd rfl (aj rfl) (zau (zaa (zeB zae) (zaa zae (zaa (zar (jv 2) (zlo (zaK (zaa zae (zaa zae (zaa zae (zaa zae zac))))) (zrq rfl n_m (zaa (jv 7) (zaa zae zac))))) zac)))))
  (zad (zaL (zkL (jv 7) zae) (zad (zao (i:=10) sc50.nd rfl (aj rfl) (zcn (zcD (jv 6) zae) (zcc rfl n_l (zaa (jv 1) zac))))
  (zad (zao (i:=8) sc50.nd rfl (aj rfl) (zaf (x44.zg r) hr rfl x44.zm x44.zk x44.zb (zaa (zar (zar (jv 1) (jv 10)) zae) zac)))
  (zad (zao (i:=9) sc50.nd rfl (aj rfl) (zau (zaa (jv 10) (zaa (zcn (zcD (jv 6) zae) zae) (zaa zfn zac)))))
  (zag (zao (i:=5) sc50.nd rfl (aj rfl) (zbg (jv 5) zae)))))) zav)
  (zag (zaL (JW.jt (zgd (zkL (jv 3) zae) (zen (zps (jv 5) zae)))) (zad (zao (i:=3) sc50.nd rfl (aj rfl) (zof (jv 3) zae))
  (zad (zao (i:=4) sc50.nd rfl (aj rfl) (zaI (zvL (zzL (zaK (zaa (zau (zaa (zeB zae) (zaa zae (zaa (zar (jv 2) zae) (zaa (zaI (zaK zac)) zac))))) zac)) (zof (jv 8) (zcc rfl n_l (zaa (jv 4) zac)))) (jv 4))))
  (zad (zao (i:=11) sc50.nd rfl (aj rfl) (zof (zcc rfl n_l (zaa (jv 4) zac)) (jv 8)))
  (zag (zao (i:=4) sc50.nd rfl (aj rfl) (zaI (zlT (zwa (jv 4) zaH (zaF (jv 11))) (zaK (zaa (zbg (jv 9) (zau (zaa (zda (jv 4) (zaF (jv 11)) zaH) zac))) zac))))))))) zav)))))))
  (zad (zjy (zkL (zcc rfl n_l (zaa (jv 4) zac)) zae) (zag (zao (i:=4) sc50.nd rfl (aj rfl) (zaI (zlT (zwa (jv 4) zaH (zaF (zeB zae))) (zaK (zaa (zau (zaa (zeB zae) (zaa zae (zaa (zar (jv 2) zae) (zaa (zda (jv 4) (zaF (zeB zae)) zaH) zac))))) zac)))))))
  (zag (zam (zlo (zxe (jv 4) (zaK (zaa (zau (zaa (zeB zae) (zaa zae (zaa (zar (jv 2) zae) (zaa (zaI (zaK zac)) zac))))) zac))) zae)))))))
theorem o51 (F:Fun K "_law_way" "_law_way" s51 f d) (x45:C45 P w K mg base) (b:Binds K d ["plan", "book", "by"] []) (m:mg "_law_way" =ae (.ref f)) (n_t:mg "tuple" =none):Ok P w K mg base f d ["plan", "book", "by"] zcO:=zcr rfl λr ih=>zaE F sc51 rfl rfl λ_ _ _ _ _ _ hr=>(zad (zyD (jv 0) (zfY (zaO (zap (i:=3) sc51.nd rfl (aj rfl)) (zaO (zap (i:=4) sc51.nd rfl (aj rfl)) (zaO (zap (i:=5) sc51.nd rfl (aj rfl)) (zaO (zap (i:=6) sc51.nd rfl (aj rfl)) zem)))) (glS (glS (glS (glS gl0))))))
  (zad (zew (i:=7) (N:=["one", "book", "by"]) (k:=1) (fr:=[1,2]) sc51.nd rfl (aj rfl) ⟨rfl,by decide +kernel,rfl,rfl,rfl,rfl,rfl,rfl,rfl⟩ (zaM (jv 6)) (λ_ _ _ _=>(zap (i:=0) (show aX [("one" :Str),("book" :Str),("by" :Str)] from by decide +kernel) rfl (aj rfl))) (λ_ _ _ _=>zaR) (λ_ _ _ _=>(zaf ih hr rfl m F.kp b (zaa (jv 0) (zaa (jv 1) (zaa (jv 2) zac))))))
  (zad (zaL (zps (jv 3) zae) (zag (zam (zbg (zau (zaa (jv 5) zac)) (zes rfl n_t (zaa (jv 7) zac))))) zav)
  (zad (zaL (zez hr (zcn (zcD (jv 4) (jv 2)) zae) zae) (zag (zam (zbg (zau (zaa (zar (zar (jv 1) (jv 3)) zae) zac)) (zes rfl n_t (zaa (jv 7) zac))))) zav)
  (zag (zam (zaf (x45.zg r) hr rfl x45.zm x45.zk x45.zb (zaa (zar (zar (jv 1) (jv 3)) zae) (zaa (jv 7) zac)))))))))
theorem o52 (F:Fun K "_law_made" "_law_made" s52 f d) (b:Binds K d ["book", "way", "which"] []) (m:mg "_law_made" =ae (.ref f)) (x45:C45 P w K mg base) (n_t:mg "tuple" =none):Ok P w K mg base f d ["book", "way", "which"] zbJ:=zcr rfl λr ih=>zaE F sc52 rfl rfl λ_ _ _ _ _ _ hr=>(zad (zew (i:=3) (N:=["one", "book", "which"]) (k:=1) (fr:=[0,2]) sc52.nd rfl (aj rfl) ⟨rfl,by decide +kernel,rfl,rfl,rfl,rfl,rfl,rfl,rfl⟩ (zaM (zda (jv 1) (zaF zae) zaH)) (λ_ _ _ _=>(zap (i:=0) (show aX [("one" :Str),("book" :Str),("which" :Str)] from by decide +kernel) rfl (aj rfl))) (λ_ _ _ _=>zaR) (λ_ _ _ _=>(zaf ih hr rfl m F.kp b (zaa (jv 1) (zaa (jv 0) (zaa (jv 2) zac))))))
  (zad (zbL (zaM (jv 0)) (zap (i:=4) sc52.nd rfl (aj rfl)) (zag (zaL (zez hr (zar (jv 4) zae) (zar (jv 1) zae)) (zag (zam (zaf (x45.zg r) hr rfl x45.zm x45.zk x45.zb (zaa (zar (jv 4) (jv 2)) (zaa (jv 3) zac))))) zav)))
  (zag (zam (zbg (zda (jv 1) zaH (zaF zae)) (zes rfl n_t (zaa (jv 3) zac)))))))
theorem o53 (F:Fun K "_law_side_size" "_law_side_size" s53 f d) (b:Binds K d ["side", "sizes"] []) (m:mg "_law_side_size" =ae (.ref f)) (n_i:mg "isinstance" =none) (n_n:mg "int" =none) (n_u:mg "sum" =none) (n_x:mg "max" =none):Ok P w K mg base f d ["side", "sizes"] zaS:=zcr rfl λr ih=>zaE F sc53 rfl rfl λ_ _ _ _ _ _ hr=>(zad (zaL (zbA (zgM rfl n_i rfl n_n cH (jv 0) (by decide) (by decide) (zuH _ (by simp)))) (zag (zam (zar (jv 1) (jv 0)))) zav)
  (zad (zew (i:=2) (N:=["one", "sizes"]) (k:=1) (fr:=[1]) sc53.nd rfl (aj rfl) ⟨rfl,by decide +kernel,rfl,rfl,rfl,rfl,rfl,rfl,rfl⟩ (zaM (zda (jv 0) (zaF zae) zaH)) (λ_ _ _ _=>(zap (i:=0) (show aX [("one" :Str),("sizes" :Str)] from by decide +kernel) rfl (aj rfl))) (λ_ _ _ _=>zaR) (λ_ _ _ _=>(zaf ih hr rfl m F.kp b (zaa (jv 0) (zaa (jv 1) zac)))))
  (zag (zam (zau (zaa (zbg zae (zmh rfl n_u (zbK (N:=["one"]) (k:=1) (fr:=[]) ⟨rfl,by decide +kernel,rfl,rfl,rfl,rfl,rfl,rfl,rfl⟩ (zaM (jv 2)) (λ_ _ _ _=>(zap (i:=0) (show aX [("one" :Str)] from by decide +kernel) rfl (aj rfl))) (λ_ _ _ _=>zaR) (λ_ _ _ _=>(zar (jv 0) zae))))) (zaa (zbg zae (zob rfl n_x (zbK (N:=["one"]) (k:=1) (fr:=[]) ⟨rfl,by decide +kernel,rfl,rfl,rfl,rfl,rfl,rfl,rfl⟩ (zaM (jv 2)) (λ_ _ _ _=>(zap (i:=0) (show aX [("one" :Str)] from by decide +kernel) rfl (aj rfl))) (λ_ _ _ _=>zaR) (λ_ _ _ _=>(zar (jv 0) zae))))) zac)))))))
theorem o54 (F:Fun K "_law_size" "_law_size" s54 f d) (b:Binds K d ["book", "way"] []) (m:mg "_law_size" =ae (.ref f)) (x53:C53 P w K mg base) (n_u:mg "sum" =none) (n_x:mg "max" =none):Ok P w K mg base f d ["book", "way"] zbk:=zcr rfl λr ih=>zaE F sc54 rfl rfl λ_ _ _ _ _ _ hr=>(zad (zew (i:=2) (N:=["one", "book"]) (k:=1) (fr:=[0]) sc54.nd rfl (aj rfl) ⟨rfl,by decide +kernel,rfl,rfl,rfl,rfl,rfl,rfl,rfl⟩ (zaM (zda (jv 1) (zaF zae) zaH)) (λ_ _ _ _=>(zap (i:=0) (show aX [("one" :Str),("book" :Str)] from by decide +kernel) rfl (aj rfl))) (λ_ _ _ _=>zaR) (λ_ _ _ _=>(zaf ih hr rfl m F.kp b (zaa (jv 1) (zaa (jv 0) zac)))))
  (zad (zbL (zaM (jv 0)) (zap (i:=3) sc54.nd rfl (aj rfl)) (zag (zaL (zez hr (zar (jv 3) zae) (zar (jv 1) zae)) (zag (zam (zaf (x53.zg r) hr rfl x53.zm x53.zk x53.zb (zaa (zar (jv 3) zae) (zaa (jv 2) zac))))) zav)))
  (zag (zam (zau (zaa (zbg zae (zmh rfl n_u (zbK (N:=["one"]) (k:=1) (fr:=[]) ⟨rfl,by decide +kernel,rfl,rfl,rfl,rfl,rfl,rfl,rfl⟩ (zaM (jv 2)) (λ_ _ _ _=>(zap (i:=0) (show aX [("one" :Str)] from by decide +kernel) rfl (aj rfl))) (λ_ _ _ _=>zaR) (λ_ _ _ _=>(zar (jv 0) zae))))) (zaa (zbg zae (zob rfl n_x (zbK (N:=["one"]) (k:=1) (fr:=[]) ⟨rfl,by decide +kernel,rfl,rfl,rfl,rfl,rfl,rfl,rfl⟩ (zaM (jv 2)) (λ_ _ _ _=>(zap (i:=0) (show aX [("one" :Str)] from by decide +kernel) rfl (aj rfl))) (λ_ _ _ _=>zaR) (λ_ _ _ _=>(zar (jv 0) zae))))) zac)))))))
theorem o55 (F:Fun K "_law_great" "_law_great" s55 f d) (x54:C54 P w K mg base):Ok P w K mg base f d ["book", "way"] zaq:=zcr rfl λr ih=>zaE F sc55 rfl rfl λ_ _ _ _ _ _ hr=>(zad (zao (i:=2) sc55.nd rfl (aj rfl) (zaf (x54.zg r) hr rfl x54.zm x54.zk x54.zb (zaa (jv 0) (zaa (jv 1) zac))))
  (zag (zam (zBn (zxB (zar (jv 2) zae) zae) (zos (zxB (zar (jv 2) zae) zae))))))
theorem o56 (F:Fun K "_law_once" "_law_once" s56 f d) (b:Binds K d ["side", "seen", "c"] []) (m:mg "_law_once" =ae (.ref f)) (n_i:mg "isinstance" =none) (n_n:mg "int" =none) (n_t:mg "tuple" =none):Ok P w K mg base f d ["side", "seen", "c"] zbI:=zcr rfl λr ih=>zaE F zCS rfl rfl λ_ _ _ _ _ _ hr=>(zad (zaL (zbA (zgM rfl n_i rfl n_n cH (jv 0) (by decide) (by decide) (zuH _ (by simp)))) (zad (zaQ (zbd (jv 1) (zaa (jv 0) zac)))
  (zag (zam (zlo (zaK (zaa (jv 0) (zaa (zau (zaa (jv 2) zac)) zac))) (zpR rfl n_n (zaa (zBs hr (jv 0) (zda (jv 1) zaH (zaF (zeB zae)))) zac)))))) zav)
  (zag (zam (zbg (zda (jv 0) zaH (zaF zae)) (zic rfl n_t (zbK (N:=["one", "seen", "c"]) (k:=1) (fr:=[1,2]) ⟨rfl,by decide +kernel,rfl,rfl,rfl,rfl,rfl,rfl,rfl⟩ (zaM (zda (jv 0) (zaF zae) zaH)) (λ_ _ _ _=>(zap (i:=0) (show aX [("one" :Str),("seen" :Str),("c" :Str)] from by decide +kernel) rfl (aj rfl))) (λ_ _ _ _=>zaR) (λ_ _ _ _=>(zaf ih hr rfl m F.kp b (zaa (jv 0) (zaa (jv 1) (zaa (jv 2) zac)))))))))))
theorem o57 (F:Fun K "_law_road" "_law_road" s57 f d) (x28:C28 P w K mg base) (x23:C23 P w K mg base) (x55:C55 P w K mg base) (x52:C52 P w K mg base) (n_l:mg "len" =none):Ok P w K mg base f d ["book", "shape", "cells", "limit"] zbO:=zcr rfl λr ih=>by
  refine zaE F sc57 rfl rfl λ_ _ _ _ _ _ hr=>?_;delta zbT zbC zbE zbF zbe zbb zbz zaZ zbV zbS zbW;delta zbD;delta zbT zbC zbE zbF zbe zbb zbz zaZ zbV zbS zbW;exact(zad (zao (i:=4) sc57.nd rfl (aj rfl) (zaI (zaK zac)))
  (zad (zao (i:=5) sc57.nd rfl (aj rfl) (jv 1))
  (zad (zbL (zaM (jv 2)) (zap (i:=6) sc57.nd rfl (aj rfl)) (zad (zew (i:=7) (N:=["one"]) (k:=1) (fr:=[]) sc57.nd rfl (aj rfl) ⟨rfl,by decide +kernel,rfl,rfl,rfl,rfl,rfl,rfl,rfl⟩ (zaM (zaf (x23.zg r) hr rfl x23.zm x23.zk x23.zb (zaa (jv 0) (zaa (jv 5) zac)))) (λ_ _ _ _=>(zap (i:=0) (show aX [("one" :Str)] from by decide +kernel) rfl (aj rfl))) (λ_ _ _ _=>zaR) (λ_ _ _ _=>(zar (jv 0) zae)))
  (zag (zaL (JW.jt (zgd (zkL (zcc rfl n_l (zaa (jv 7) zac)) zae) (zen (zps (zcc rfl n_l (zaa (jv 4) zac)) (jv 3))))) (zad (zao (i:=8) sc57.nd rfl (aj rfl) (zaI (zaK (zaa (zar (jv 7) (zcn (jv 6) (zcc rfl n_l (zaa (jv 7) zac)))) (zaa (zar (jv 7) (zcn (zcD (jv 6) zae) (zcc rfl n_l (zaa (jv 7) zac)))) zac)))))
  (zad (zao (i:=9) sc57.nd rfl (aj rfl) (zaf (x28.zg r) hr rfl x28.zm x28.zk x28.zb (zaa (jv 0) (zaa (jv 5) (zaa (zda (jv 8) zaH (zaF (zbg zae (zcn (zcD (jv 6) zae) zae)))) zac)))))
  (zag (zaL (zhI (zbA (zaf (x55.zg r) hr rfl x55.zm x55.zk x55.zb (zaa (jv 0) (zaa (jv 9) zac))))) (zad (zaQ (zbd (jv 4) (zaa (jv 9) zac)))
  (zag (zao (i:=5) sc57.nd rfl (aj rfl) (zaf (x52.zg r) hr rfl x52.zm x52.zk x52.zb (zaa (jv 0) (zaa (jv 9) (zaa zae zac))))))) zav)))) zav))))
  (zag (zam (zau (zaa (jv 1) (zaa (jv 4) zac))))))))
theorem o58 (F:Fun K "_law_fit" "_law_fit" s58 f d) (x55:C55 P w K mg base) (x33:C33 P w K mg base) (n_s:mg "list" =none):Ok P w K mg base f d ["book", "one", "other"] zdX:=zcr rfl λr ih=>zaE F sc58 rfl rfl λ_ _ _ _ _ _ hr=>(zad (zao (i:=3) sc58.nd rfl (aj rfl) (zaI (zrm rfl n_s (jv 2))))
  (zad (zbL (zaM (jv 1)) (zap (i:=4) sc58.nd rfl (aj rfl)) (zad (zao (i:=5) sc58.nd rfl (aj rfl) (zaI (zaK zac)))
  (zad (zbL (zaM (jv 3)) (zap (i:=6) sc58.nd rfl (aj rfl)) (zad (zaL (JW.jt (zqf (zbA (zaf (x55.zg r) hr rfl x55.zm x55.zk x55.zb (zaa (jv 0) (zaa (jv 4) zac)))) (zjW (zbA (zaf (x55.zg r) hr rfl x55.zm x55.zk x55.zb (zaa (jv 0) (zaa (jv 6) zac))))))) (zag (zam zfa)) zav)
  (zad (zaQ (zbd (jv 5) (zaa (zaf (x33.zg r) hr rfl x33.zm x33.zk x33.zb (zaa (jv 0) (zaa (jv 6) (zaa (jv 4) zac)))) zac)))
  (zag (zao (i:=4) sc58.nd rfl (aj rfl) (zaf (x33.zg r) hr rfl x33.zm x33.zk x33.zb (zaa (jv 0) (zaa (jv 4) (zaa (jv 6) zac)))))))))
  (zad (zaL (zbA (zaf (x55.zg r) hr rfl x55.zm x55.zk x55.zb (zaa (jv 0) (zaa (jv 4) zac)))) (zag (zam zfa)) zav)
  (zag (zao (i:=3) sc58.nd rfl (aj rfl) (jv 5)))))))
  (zag (zam zfa))))
theorem o59 (F:Fun K "_law_rounds" "_law_rounds" s59 f d) (x30:C30 P w K mg base) (yT:Ncl mg "TooGreat") (eT:gB K (.ref yT.xC) (.ref yT.xC)=ae true) (v_TooGreat:XcIn K "TooGreat" yT.xC):Ok P w K mg base f d ["book", "shape", "limit"] zcB:=zcr rfl λr ih=>zaE F sc59 rfl rfl λ_ _ _ _ _ _ hr=>(zad (zao (i:=3) sc59.nd rfl (aj rfl) zcH)
  (zad (zuN (λ_ _=>(zur (zuG (i:=3) sc59.nd rfl (aj rfl) (zrA (x30.zg r) hr rfl x30.zm x30.zk x30.zb (zaa (jv 0) (zaa (jv 1) (zaa (jv 2) zac))))))) (alc ⟨yT.xC,v_TooGreat,eT⟩ aln) (λ_ _=>(zag (zao (i:=3) sc59.nd rfl (aj rfl) zcH))) rfl yT.xm)
  (zag (zam (jv 3)))))
theorem o60 (F:Fun K "_law_within" "_law_within" s60 f d) (x41:C41 P w K mg base) (yT:Ncl mg "TooGreat") (eT:gB K (.ref yT.xC) (.ref yT.xC)=ae true) (v_TooGreat:XcIn K "TooGreat" yT.xC):Ok P w K mg base f d ["book", "road", "other"] zcE:=zcr rfl λr ih=>zaE F sc60 rfl rfl λ_ _ _ _ _ _ hr=>(zad (zao (i:=3) sc60.nd rfl (aj rfl) zcH)
  (zad (zuN (λ_ _=>(zur (zuG (i:=3) sc60.nd rfl (aj rfl) (zrA (x41.zg r) hr rfl x41.zm x41.zk x41.zb (zaa (jv 0) (zaa (jv 1) (zaa (jv 2) zac))))))) (alc ⟨yT.xC,v_TooGreat,eT⟩ aln) (λ_ _=>(zag (zao (i:=3) sc60.nd rfl (aj rfl) zcH))) rfl yT.xm)
  (zag (zam (jv 3)))))
theorem o61 (F:Fun K "law" "law" s61 f d) (x43:C43 P w K mg base) (x49:C49 P w K mg base) (x51:C51 P w K mg base) (x57:C57 P w K mg base) (x42:C42 P w K mg base) (x50:C50 P w K mg base) (x59:C59 P w K mg base) (x58:C58 P w K mg base) (x60:C60 P w K mg base) (x56:C56 P w K mg base) (x38:C38 P w K mg base) (x34:C34 P w K mg base) (n_l:mg "len" =none):Ok P w K mg base f d ["script"] zdU:=zcr rfl λr ih=>by
  refine zaE F sc61 rfl rfl λ_ _ _ _ _ _ hr=>?_;delta zeo zdG zdI zbf zba zbN zbH zbR zdf zdA zdu zdp zdx zeq zet zej;delta zdK;delta zeo zdG zdI zbf zba zbN zbH zbR zdf zdA zdu zdp zdx zeq zet zej;exact(zad (zao (i:=1) sc61.nd rfl (cP rfl) (zaf (x43.zg r) hr rfl x43.zm x43.zk x43.zb (zaa (zaf (x42.zg r) hr rfl x42.zm x42.zk x42.zb (zaa (jv 0) (zaa zae zac))) (zaa (zaf (x42.zg r) hr rfl x42.zm x42.zk x42.zb (zaa (jv 0) (zaa zae zac))) (zaa zfa zac)))))
  (zad (zao (i:=2) sc61.nd rfl (aj rfl) (zaf (x43.zg r) hr rfl x43.zm x43.zk x43.zb (zaa (zaf (x42.zg r) hr rfl x42.zm x42.zk x42.zb (zaa (jv 0) (zaa zae zac))) (zaa (zaf (x42.zg r) hr rfl x42.zm x42.zk x42.zb (zaa (jv 0) (zaa zae zac))) (zaa zfa zac)))))
  (zad (zao (i:=3) sc61.nd rfl (aj rfl) (zaf (x49.zg r) hr rfl x49.zm x49.zk x49.zb (zaa (jv 0) (zaa zae (zaa (jv 1) (zaa (jv 2) zac))))))
  (zad (zaL (zez hr (zcn (zcD (zaf (x42.zg r) hr rfl x42.zm x42.zk x42.zb (zaa (jv 0) (zaa zae zac))) zae) zae) zae) (zag (zew (i:=3) (N:=["title", "left", "right", "w"]) (k:=3) (fr:=[1]) sc61.nd rfl (aj rfl) ⟨rfl,by decide +kernel,rfl,rfl,rfl,rfl,rfl,rfl,rfl⟩ (zaM (jv 3)) (λ_ _ _ _=>(zfY (zaO (zap (i:=0) (show aX [("title" :Str),("left" :Str),("right" :Str),("w" :Str)] from by decide +kernel) rfl (aj rfl)) (zaO (zap (i:=1) (show aX [("title" :Str),("left" :Str),("right" :Str),("w" :Str)] from by decide +kernel) rfl (aj rfl)) (zaO (zap (i:=2) (show aX [("title" :Str),("left" :Str),("right" :Str),("w" :Str)] from by decide +kernel) rfl (aj rfl)) zem))) (glS (glS (glS gl0))))) (λ_ _ _ _=>zaR) (λ_ _ _ _=>(zau (zaa (jv 0) (zaa (jv 1) (zaa (zaf (x56.zg r) hr rfl x56.zm x56.zk x56.zb (zaa (jv 2) (zaa (zaI (zaK zac)) (zaa (zar (jv 3) zae) zac)))) zac))))))) zav)
  (zad (zao (i:=4) sc61.nd rfl (aj rfl) (zaf (x51.zg r) hr rfl x51.zm x51.zk x51.zb (zaa (zaf (x50.zg r) hr rfl x50.zm x50.zk x50.zb (zaa (zda (jv 0) (zaF zae) zaH) (zaa (jv 3) (zaa (jv 1) (zaa zae zac))))) (zaa (jv 3) (zaa zae zac)))))
  (zad (zao (i:=5) sc61.nd rfl (aj rfl) (zaf (x57.zg r) hr rfl x57.zm x57.zk x57.zb (zaa (jv 3) (zaa (jv 4) (zaa (zda (jv 0) (zaF zae) (zaF zae)) (zaa (zcn (zcD (zaf (x42.zg r) hr rfl x42.zm x42.zk x42.zb (zaa (jv 0) (zaa zae zac))) zae) zae) zac))))))
  (zad (zbL (zzF (zaK (zaa (zcc rfl n_l (zaa (zar (jv 5) zae) zac)) (zaa (zbg (zcc rfl n_l (zaa (zar (jv 5) zae) zac)) zae) zac)))) (zap (i:=6) sc61.nd rfl (aj rfl)) (zad (zao (i:=7) sc61.nd rfl (aj rfl) (zaf (x59.zg r) hr rfl x59.zm x59.zk x59.zb (zaa (jv 3) (zaa (jv 4) (zaa (jv 6) zac)))))
  (zag (zaL (zel (jv 7) zcH) (zad (zao (i:=8) sc61.nd rfl (aj rfl) (zaf (x58.zg r) hr rfl x58.zm x58.zk x58.zb (zaa (jv 3) (zaa (zar (jv 5) zae) (zaa (zar (zar (jv 7) zae) zae) zac)))))
  (zad (zao (i:=9) sc61.nd rfl (aj rfl) (zaf (x60.zg r) hr rfl x60.zm x60.zk x60.zb (zaa (jv 3) (zaa (jv 5) (zaa (zar (jv 7) zae) zac)))))
  (zad (zaL (JW.jt (zqf (JW.jt (zgd (zbA (jv 8)) (zen (zel (jv 9) zfa)))) (zjW (JW.jt (zgd (zhI (zbA (jv 8))) (zen (zel (jv 9) zcH))))))) (zag (zam zfa)) zav)
  (zag (zaL (zbA (jv 8)) (zad (zao (i:=10) sc61.nd rfl (aj rfl) (zaf (x38.zg r) hr rfl x38.zm x38.zk x38.zb (zaa (jv 3) (zaa (jv 5) (zaa (zar (jv 7) zae) zac)))))
  (zag (zaL (zvW hr (zaf (x34.zg r) hr rfl x34.zm x34.zk x34.zb (zaa (jv 3) (zaa (jv 10) zac))) (zaf (x34.zg r) hr rfl x34.zm x34.zk x34.zb (zaa (jv 3) (zaa (zar (jv 7) zae) zac)))) (zag (zam zfa)) zav))) zav))))) zav))))
  (zag (zam zfa)))))))))
end
theorem all_mk{l:iG}{w:aC}{K:ak}{h:Heap}{mg:Str→Option Value}{fa:Addr}(X:K.In h) (G:h.Ns aK mg) (hfa:mg "law" =ae (.ref fa))
  (D0:Dfn K "parts_of" s0)
  (D1:Dfn K "parts_of_all" s1)
  (D2:Dfn K "is_small" s2)
  (D4:Dfn K "places" s4)
  (D3:Dfn K "gather_places" s3)
  (D6:Dfn K "part" s6)
  (D5:Dfn K "numbered_part" s5)
  (D7:Dfn K "blank_places" s7)
  (D8:Dfn K "filled" s8)
  (D11:Dfn K "matched" s11)
  (D10:Dfn K "gather_matched" s10)
  (D9:Dfn K "have_one_top" s9)
  (D13:Dfn K "is_sign" s13)
  (D12:Dfn K "are_small_letters" s12)
  (D14:Dfn K "turning_of" s14)
  (D15:Dfn K "is_quiet" s15)
  (D18:Dfn K "source" s18)
  (D19:Dfn K "goal" s19)
  (D16:Dfn K "only_small" s16)
  (D17:Dfn K "with_sides" s17)
  (D20:Dfn K "part_places" s20)
  (D23:Dfn K "open_uses" s23)
  (D22:Dfn K "gather_open" s22)
  (D21:Dfn K "open_turning" s21)
  (D24:Dfn K "places_of" s24)
  (D28:Dfn K "way_of" s28)
  (D29:Dfn K "full_way" s29)
  (D27:Dfn K "way_with" s27)
  (D26:Dfn K "way_within" s26)
  (D25:Dfn K "turned_top" s25)
  (D30:Dfn K "rounds" s30)
  (D33:Dfn K "behind" s33)
  (D31:Dfn K "one_source" s31)
  (D32:Dfn K "moved" s32)
  (D34:Dfn K "end" s34)
  (D37:Dfn K "grid" s37)
  (D36:Dfn K "moved_along" s36)
  (D35:Dfn K "check_goals" s35)
  (D38:Dfn K "road_joined" s38)
  (D41:Dfn K "within" s41)
  (D40:Dfn K "last_downs" s40)
  (D39:Dfn K "are_quiet" s39)
  (D42:Dfn K "_law_cell" s42)
  (D43:Dfn K "_law_words" s43)
  (D44:Dfn K "_law_count" s44)
  (D45:Dfn K "_law_filled" s45)
  (D46:Dfn K "_law_item" s46)
  (D47:Dfn K "_law_right" s47)
  (D48:Dfn K "_law_lefts" s48)
  (D49:Dfn K "_law_book" s49)
  (D50:Dfn K "_law_plan" s50)
  (D51:Dfn K "_law_way" s51)
  (D52:Dfn K "_law_made" s52)
  (D54:Dfn K "_law_size" s54)
  (D53:Dfn K "_law_side_size" s53)
  (D55:Dfn K "_law_great" s55)
  (D56:Dfn K "_law_once" s56)
  (D57:Dfn K "_law_road" s57)
  (D58:Dfn K "_law_fit" s58)
  (D59:Dfn K "_law_rounds" s59)
  (D60:Dfn K "_law_within" s60)
  (D61:Dfn K "law" s61)
  (z_ValueError:aT K aK "ValueError" =ae none)
  (z_a:aT K aK "all" =ae none)
  (z_d:aT K aK "dict" =ae none)
  (z_e:aT K aK "enumerate" =ae none)
  (z_n:aT K aK "int" =ae none)
  (z_i:aT K aK "isinstance" =ae none)
  (z_l:aT K aK "len" =ae none)
  (z_s:aT K aK "list" =ae none)
  (z_x:aT K aK "max" =ae none)
  (z_m:aT K aK "min" =ae none)
  (z_r:aT K aK "range" =ae none)
  (z_u:aT K aK "sum" =ae none)
  (z_t:aT K aK "tuple" =ae none)
  (z_z:aT K aK "zip" =ae none)
  {t_MOST_HEAVY:bf}(z_MOST_HEAVY:aT K aK "MOST_HEAVY" =ae (ae (.int 400 t_MOST_HEAVY)))
  {t_MOST_DEEP:bf}(z_MOST_DEEP:aT K aK "MOST_DEEP" =ae (ae (.int 40 t_MOST_DEEP)))
  {t_MOST_LETTERS:bf}(z_MOST_LETTERS:aT K aK "MOST_LETTERS" =ae (ae (.int 8 t_MOST_LETTERS)))
  {t_LEFT:bf}(z_LEFT:aT K aK "LEFT" =ae (ae (.int 1 t_LEFT)))
  {t_RIGHT:bf}(z_RIGHT:aT K aK "RIGHT" =ae (ae (.int 2 t_RIGHT)))
  {C_Apart:Addr}(z_Apart:aT K aK "Apart" =ae (ae (.ref C_Apart)))
  {C_NoPlace:Addr}(z_NoPlace:aT K aK "NoPlace" =ae (ae (.ref C_NoPlace)))
  {C_NoUse:Addr}(z_NoUse:aT K aK "NoUse" =ae (ae (.ref C_NoUse)))
  {C_TooGreat:Addr}(z_TooGreat:aT K aK "TooGreat" =ae (ae (.ref C_TooGreat)))
  (zeT:gB K (.ref C_TooGreat) (.ref C_TooGreat)=ae true)
  (za_Apart:eB K C_Apart bmV "ValueError.__new__" =true) (zb_Apart:bS K (.ref C_Apart) "__getattribute__" =ae (ae (.builtin "BaseException.__getattribute__"))) (zc_Apart:bS K (.ref C_Apart) "__getattr__" =ae none) (zd_Apart:bS K (.ref C_Apart) "__class__" =ae (ae (.builtin "object.__class__"))) (ze_Apart:cR K C_Apart (.type "object")=ae true) (zf_Apart:cR K C_Apart (.type "BaseException")=ae true)
  (za_NoPlace:eB K C_NoPlace bmV "ValueError.__new__" =true) (zb_NoPlace:bS K (.ref C_NoPlace) "__getattribute__" =ae (ae (.builtin "BaseException.__getattribute__"))) (zc_NoPlace:bS K (.ref C_NoPlace) "__getattr__" =ae none) (zd_NoPlace:bS K (.ref C_NoPlace) "__class__" =ae (ae (.builtin "object.__class__"))) (ze_NoPlace:cR K C_NoPlace (.type "object")=ae true) (zf_NoPlace:cR K C_NoPlace (.type "BaseException")=ae true)
  (za_NoUse:eB K C_NoUse bmV "ValueError.__new__" =true) (zb_NoUse:bS K (.ref C_NoUse) "__getattribute__" =ae (ae (.builtin "BaseException.__getattribute__"))) (zc_NoUse:bS K (.ref C_NoUse) "__getattr__" =ae none) (zd_NoUse:bS K (.ref C_NoUse) "__class__" =ae (ae (.builtin "object.__class__"))) (ze_NoUse:cR K C_NoUse (.type "object")=ae true) (zf_NoUse:cR K C_NoUse (.type "BaseException")=ae true)
  (za_TooGreat:eB K C_TooGreat bmV "ValueError.__new__" =true) (zb_TooGreat:bS K (.ref C_TooGreat) "__getattribute__" =ae (ae (.builtin "BaseException.__getattribute__"))) (zc_TooGreat:bS K (.ref C_TooGreat) "__getattr__" =ae none) (zd_TooGreat:bS K (.ref C_TooGreat) "__class__" =ae (ae (.builtin "object.__class__"))) (ze_TooGreat:cR K C_TooGreat (.type "object")=ae true) (zf_TooGreat:cR K C_TooGreat (.type "BaseException")=ae true)
  :∃fd:bF,(∀(s:ag) (v:Value),dU s fd ⟨[v],[]⟩ [("script",v)])∧ ∀base:Heap,K.In base→base.Ns aK mg→FnOk l.prog w K mg base (CX1 l.prog w) 200 fa fd ["script"] (zdh K (zdU 200)):=by
 obtain⟨f61,d61,a61,F61⟩:=D61;have e:=hfa.symm.trans (a_ X G a61);cases e;have n_ValueError:=bU X G z_ValueError;have n_a:=bU X G z_a;have n_d:=bU X G z_d;have n_e:=bU X G z_e;have n_n:=bU X G z_n;have n_i:=bU X G z_i;have n_l:=bU X G z_l;have n_s:=bU X G z_s;have n_x:=bU X G z_x;have n_m:=bU X G z_m;have n_r:=bU X G z_r;have n_u:=bU X G z_u;have n_t:=bU X G z_t;have n_z:=bU X G z_z;have g_MOST_HEAVY:=a_ X G z_MOST_HEAVY;have g_MOST_DEEP:=a_ X G z_MOST_DEEP;have g_MOST_LETTERS:=a_ X G z_MOST_LETTERS;have g_LEFT:=a_ X G z_LEFT;have g_RIGHT:=a_ X G z_RIGHT;refine⟨d61,λs v=>?_,λbase _ _=>?_⟩
 ·obtain⟨oc,od,kV,doc,pm,an,cdv,ct,osl,rfl,lk,hcd⟩:=F61.ex;exact .of_eq rfl
 obtain⟨f,d,a,F⟩:=D0;have x0:=mkC (base:=base) X G F a (o0 (P:=l.prog) (w:=w) F n_i n_n) (F.binds λ_ _ _ _ _ _=>n1 λ_=>rfl);obtain⟨f,d,a,F⟩:=D1;have x1:=mkC (base:=base) X G F a (o1 (P:=l.prog) (w:=w) F x0) (F.binds λ_ _ _ _ _ _=>n1 λ_=>rfl);obtain⟨f,d,a,F⟩:=D2;have x2:=mkC (base:=base) X G F a (o2 (P:=l.prog) (w:=w) F x1 n_l g_MOST_HEAVY g_MOST_DEEP) (F.binds λ_ _ _ _ _ _=>n1 λ_=>rfl);obtain⟨f,d,a,F⟩:=D3;have x3:=mkC (base:=base) X G F a (o3 (P:=l.prog) (w:=w) F x0 (F.binds λ_ _ _ _ _ _=>n3 λ_ _ _=>rfl) (a_ X G a) n_e) (F.binds λ_ _ _ _ _ _=>n3 λ_ _ _=>rfl);obtain⟨f,d,a,F⟩:=D4;have x4:=mkC (base:=base) X G F a (o4 (P:=l.prog) (w:=w) F x3) (F.binds λ_ _ _ _ _ _=>n1 λ_=>rfl);obtain⟨f,d,a,F⟩:=D5;have x5:=mkC (base:=base) X G F a (o5 (P:=l.prog) (w:=w) F x0 n_l ⟨C_NoPlace,a_ X G z_NoPlace⟩ ⟨z_NoPlace,za_NoPlace,⟨zb_NoPlace,zc_NoPlace,zd_NoPlace,ze_NoPlace,zf_NoPlace⟩⟩) (F.binds λ_ _ _ _ _ _=>n2 λ_ _=>rfl);obtain⟨f,d,a,F⟩:=D6;have x6:=mkC (base:=base) X G F a (o6 (P:=l.prog) (w:=w) F x5) (F.binds λ_ _ _ _ _ _=>n2 λ_ _=>rfl);obtain⟨f,d,a,F⟩:=D7;have x7:=mkC (base:=base) X G F a (o7 (P:=l.prog) (w:=w) F x4 x6 n_i n_n) (F.binds λ_ _ _ _ _ _=>n1 λ_=>rfl);obtain⟨f,d,a,F⟩:=D8;have x8:=mkC (base:=base) X G F a (o8 (P:=l.prog) (w:=w) F (F.binds λ_ _ _ _ _ _=>n2 λ_ _=>rfl) (a_ X G a) n_i n_n n_t) (F.binds λ_ _ _ _ _ _=>n2 λ_ _=>rfl);obtain⟨f,d,a,F⟩:=D9;have x9:=mkC (base:=base) X G F a (o9 (P:=l.prog) (w:=w) F n_l) (F.binds λ_ _ _ _ _ _=>n2 λ_ _=>rfl);obtain⟨f,d,a,F⟩:=D10;have x10:=mkC (base:=base) X G F a (o10 (P:=l.prog) (w:=w) F x9 (F.binds λ_ _ _ _ _ _=>n3 λ_ _ _=>rfl) (a_ X G a) n_i n_n n_z) (F.binds λ_ _ _ _ _ _=>n3 λ_ _ _=>rfl);obtain⟨f,d,a,F⟩:=D11;have x11:=mkC (base:=base) X G F a (o11 (P:=l.prog) (w:=w) F x10) (F.binds λ_ _ _ _ _ _=>n2 λ_ _=>rfl);obtain⟨f,d,a,F⟩:=D12;have x12:=mkC (base:=base) X G F a (o12 (P:=l.prog) (w:=w) F n_a) (F.binds λ_ _ _ _ _ _=>n1 λ_=>rfl);obtain⟨f,d,a,F⟩:=D13;have x13:=mkC (base:=base) X G F a (o13 (P:=l.prog) (w:=w) F x12 n_l g_MOST_LETTERS) (F.binds λ_ _ _ _ _ _=>n1 λ_=>rfl);obtain⟨f,d,a,F⟩:=D14;have x14:=mkC (base:=base) X G F a (o14 (P:=l.prog) (w:=w) F) (F.binds λ_ _ _ _ _ _=>n2 λ_ _=>rfl);obtain⟨f,d,a,F⟩:=D15;have x15:=mkC (base:=base) X G F a (o15 (P:=l.prog) (w:=w) F x13 (F.binds λ_ _ _ _ _ _=>n1 λ_=>rfl) (a_ X G a) n_a) (F.binds λ_ _ _ _ _ _=>n1 λ_=>rfl);obtain⟨f,d,a,F⟩:=D16;have x16:=mkC (base:=base) X G F a (o16 (P:=l.prog) (w:=w) F x2 ⟨C_TooGreat,a_ X G z_TooGreat⟩ ⟨z_TooGreat,za_TooGreat,⟨zb_TooGreat,zc_TooGreat,zd_TooGreat,ze_TooGreat,zf_TooGreat⟩⟩) (F.binds λ_ _ _ _ _ _=>n1 λ_=>rfl);obtain⟨f,d,a,F⟩:=D17;have x17:=mkC (base:=base) X G F a (o17 (P:=l.prog) (w:=w) F x14 x8 (F.binds λ_ _ _ _ _ _=>n3 λ_ _ _=>rfl) (a_ X G a) n_t) (F.binds λ_ _ _ _ _ _=>n3 λ_ _ _=>rfl);obtain⟨f,d,a,F⟩:=D18;have x18:=mkC (base:=base) X G F a (o18 (P:=l.prog) (w:=w) F x16 x17 g_LEFT) (F.binds λ_ _ _ _ _ _=>n2 λ_ _=>rfl);obtain⟨f,d,a,F⟩:=D19;have x19:=mkC (base:=base) X G F a (o19 (P:=l.prog) (w:=w) F x16 x17 g_RIGHT) (F.binds λ_ _ _ _ _ _=>n2 λ_ _=>rfl);obtain⟨f,d,a,F⟩:=D20;have x20:=mkC (base:=base) X G F a (o20 (P:=l.prog) (w:=w) F x14 x7 n_r n_l g_LEFT) (F.binds λ_ _ _ _ _ _=>n2 λ_ _=>rfl);obtain⟨f,d,a,F⟩:=D21;have x21:=mkC (base:=base) X G F a (o21 (P:=l.prog) (w:=w) F x11 g_LEFT) (F.binds λ_ _ _ _ _ _=>n2 λ_ _=>rfl);obtain⟨f,d,a,F⟩:=D22;have x22:=mkC (base:=base) X G F a (o22 (P:=l.prog) (w:=w) F x21 (F.binds λ_ _ _ _ _ _=>n4 λ_ _ _ _=>rfl) (a_ X G a) n_e) (F.binds λ_ _ _ _ _ _=>n4 λ_ _ _ _=>rfl);obtain⟨f,d,a,F⟩:=D23;have x23:=mkC (base:=base) X G F a (o23 (P:=l.prog) (w:=w) F x22) (F.binds λ_ _ _ _ _ _=>n2 λ_ _=>rfl);obtain⟨f,d,a,F⟩:=D24;have x24:=mkC (base:=base) X G F a (o24 (P:=l.prog) (w:=w) F) (F.binds λ_ _ _ _ _ _=>n1 λ_=>rfl);obtain⟨f,d,a,F⟩:=D25;have x25:=mkC (base:=base) X G F a (o25 (P:=l.prog) (w:=w) F x21 x11 n_t g_LEFT) (F.binds λ_ _ _ _ _ _=>n2 λ_ _=>rfl);obtain⟨f,d,a,F⟩:=D26;have x26:=mkC (base:=base) X G F a (o26 (P:=l.prog) (w:=w) F x25 x20 (F.binds λ_ _ _ _ _ _=>n4 λ_ _ _ _=>rfl) (a_ X G a) n_z n_t) (F.binds λ_ _ _ _ _ _=>n4 λ_ _ _ _=>rfl);obtain⟨f,d,a,F⟩:=D27;have x27:=mkC (base:=base) X G F a (o27 (P:=l.prog) (w:=w) F x26 n_d) (F.binds λ_ _ _ _ _ _=>n3 λ_ _ _=>rfl);obtain⟨f,d,a,F⟩:=D28;have x28:=mkC (base:=base) X G F a (o28 (P:=l.prog) (w:=w) F x24 x27 x23 ⟨C_NoUse,a_ X G z_NoUse⟩ ⟨z_NoUse,za_NoUse,⟨zb_NoUse,zc_NoUse,zd_NoUse,ze_NoUse,zf_NoUse⟩⟩) (F.binds λ_ _ _ _ _ _=>n3 λ_ _ _=>rfl);obtain⟨f,d,a,F⟩:=D29;have x29:=mkC (base:=base) X G F a (o29 (P:=l.prog) (w:=w) F x27 x24 x23) (F.binds λ_ _ _ _ _ _=>n2 λ_ _=>rfl);obtain⟨f,d,a,F⟩:=D30;have x30:=mkC (base:=base) X G F a (o30 (P:=l.prog) (w:=w) F x23 x29 x19 n_l) (F.binds λ_ _ _ _ _ _=>n3 λ_ _ _=>rfl);obtain⟨f,d,a,F⟩:=D31;have x31:=mkC (base:=base) X G F a (o31 (P:=l.prog) (w:=w) F x18 ⟨C_Apart,a_ X G z_Apart⟩ ⟨z_Apart,za_Apart,⟨zb_Apart,zc_Apart,zd_Apart,ze_Apart,zf_Apart⟩⟩) (F.binds λ_ _ _ _ _ _=>n3 λ_ _ _=>rfl);obtain⟨f,d,a,F⟩:=D32;have x32:=mkC (base:=base) X G F a (o32 (P:=l.prog) (w:=w) F x14 x8 x11 (F.binds λ_ _ _ _ _ _=>n3 λ_ _ _=>rfl) (a_ X G a) n_z n_t g_RIGHT g_LEFT) (F.binds λ_ _ _ _ _ _=>n3 λ_ _ _=>rfl);obtain⟨f,d,a,F⟩:=D33;have x33:=mkC (base:=base) X G F a (o33 (P:=l.prog) (w:=w) F x31 x19 x32) (F.binds λ_ _ _ _ _ _=>n3 λ_ _ _=>rfl);obtain⟨f,d,a,F⟩:=D34;have x34:=mkC (base:=base) X G F a (o34 (P:=l.prog) (w:=w) F x19) (F.binds λ_ _ _ _ _ _=>n2 λ_ _=>rfl);obtain⟨f,d,a,F⟩:=D35;have x35:=mkC (base:=base) X G F a (o35 (P:=l.prog) (w:=w) F x19) (F.binds λ_ _ _ _ _ _=>n2 λ_ _=>rfl);obtain⟨f,d,a,F⟩:=D36;have x36:=mkC (base:=base) X G F a (o36 (P:=l.prog) (w:=w) F x32 x35) (F.binds λ_ _ _ _ _ _=>n3 λ_ _ _=>rfl);obtain⟨f,d,a,F⟩:=D37;have x37:=mkC (base:=base) X G F a (o37 (P:=l.prog) (w:=w) F x16 x35 x36 x32 n_s n_z ⟨C_Apart,a_ X G z_Apart⟩ ⟨z_Apart,za_Apart,⟨zb_Apart,zc_Apart,zd_Apart,ze_Apart,zf_Apart⟩⟩) (F.binds λ_ _ _ _ _ _=>n3 λ_ _ _=>rfl);obtain⟨f,d,a,F⟩:=D38;have x38:=mkC (base:=base) X G F a (o38 (P:=l.prog) (w:=w) F x37) (F.binds λ_ _ _ _ _ _=>n3 λ_ _ _=>rfl);obtain⟨f,d,a,F⟩:=D39;have x39:=mkC (base:=base) X G F a (o39 (P:=l.prog) (w:=w) F x15 n_a) (F.binds λ_ _ _ _ _ _=>n1 λ_=>rfl);obtain⟨f,d,a,F⟩:=D40;have x40:=mkC (base:=base) X G F a (o40 (P:=l.prog) (w:=w) F) (F.binds λ_ _ _ _ _ _=>n1 λ_=>rfl);obtain⟨f,d,a,F⟩:=D41;have x41:=mkC (base:=base) X G F a (o41 (P:=l.prog) (w:=w) F x39 x40 x37) (F.binds λ_ _ _ _ _ _=>n3 λ_ _ _=>rfl);obtain⟨f,d,a,F⟩:=D42;have x42:=mkC (base:=base) X G F a (o42 (P:=l.prog) (w:=w) F n_l) (F.binds λ_ _ _ _ _ _=>n2 λ_ _=>rfl);obtain⟨f,d,a,F⟩:=D43;have x43:=mkC (base:=base) X G F a (o43 (P:=l.prog) (w:=w) F n_r n_l n_n) (F.binds λ_ _ _ _ _ _=>n3 λ_ _ _=>rfl);obtain⟨f,d,a,F⟩:=D44;have x44:=mkC (base:=base) X G F a (o44 (P:=l.prog) (w:=w) F (F.binds λ_ _ _ _ _ _=>n1 λ_=>rfl) (a_ X G a) n_i n_n n_u) (F.binds λ_ _ _ _ _ _=>n1 λ_=>rfl);obtain⟨f,d,a,F⟩:=D45;have x45:=mkC (base:=base) X G F a (o45 (P:=l.prog) (w:=w) F (F.binds λ_ _ _ _ _ _=>n2 λ_ _=>rfl) (a_ X G a) n_i n_n n_t) (F.binds λ_ _ _ _ _ _=>n2 λ_ _=>rfl);obtain⟨f,d,a,F⟩:=D46;have x46:=mkC (base:=base) X G F a (o46 (P:=l.prog) (w:=w) F) (F.binds λ_ _ _ _ _ _=>n3 λ_ _ _=>rfl);obtain⟨f,d,a,F⟩:=D47;have x47:=mkC (base:=base) X G F a (o47 (P:=l.prog) (w:=w) F x46) (F.binds λ_ _ _ _ _ _=>n3 λ_ _ _=>rfl);obtain⟨f,d,a,F⟩:=D48;have x48:=mkC (base:=base) X G F a (o48 (P:=l.prog) (w:=w) F) (F.binds λ_ _ _ _ _ _=>n4 λ_ _ _ _=>rfl);obtain⟨f,d,a,F⟩:=D49;have x49:=mkC (base:=base) X G F a (o49 (P:=l.prog) (w:=w) F x48 x47 x42 x44 n_r n_e n_l) (F.binds λ_ _ _ _ _ _=>n4 λ_ _ _ _=>rfl);obtain⟨f,d,a,F⟩:=D50;have x50:=mkC (base:=base) X G F a (o50 (P:=l.prog) (w:=w) F x44 n_l n_m) (F.binds λ_ _ _ _ _ _=>n4 λ_ _ _ _=>rfl);obtain⟨f,d,a,F⟩:=D51;have x51:=mkC (base:=base) X G F a (o51 (P:=l.prog) (w:=w) F x45 (F.binds λ_ _ _ _ _ _=>n3 λ_ _ _=>rfl) (a_ X G a) n_t) (F.binds λ_ _ _ _ _ _=>n3 λ_ _ _=>rfl);obtain⟨f,d,a,F⟩:=D52;have x52:=mkC (base:=base) X G F a (o52 (P:=l.prog) (w:=w) F (F.binds λ_ _ _ _ _ _=>n3 λ_ _ _=>rfl) (a_ X G a) x45 n_t) (F.binds λ_ _ _ _ _ _=>n3 λ_ _ _=>rfl);obtain⟨f,d,a,F⟩:=D53;have x53:=mkC (base:=base) X G F a (o53 (P:=l.prog) (w:=w) F (F.binds λ_ _ _ _ _ _=>n2 λ_ _=>rfl) (a_ X G a) n_i n_n n_u n_x) (F.binds λ_ _ _ _ _ _=>n2 λ_ _=>rfl);obtain⟨f,d,a,F⟩:=D54;have x54:=mkC (base:=base) X G F a (o54 (P:=l.prog) (w:=w) F (F.binds λ_ _ _ _ _ _=>n2 λ_ _=>rfl) (a_ X G a) x53 n_u n_x) (F.binds λ_ _ _ _ _ _=>n2 λ_ _=>rfl);obtain⟨f,d,a,F⟩:=D55;have x55:=mkC (base:=base) X G F a (o55 (P:=l.prog) (w:=w) F x54) (F.binds λ_ _ _ _ _ _=>n2 λ_ _=>rfl);obtain⟨f,d,a,F⟩:=D56;have x56:=mkC (base:=base) X G F a (o56 (P:=l.prog) (w:=w) F (F.binds λ_ _ _ _ _ _=>n3 λ_ _ _=>rfl) (a_ X G a) n_i n_n n_t) (F.binds λ_ _ _ _ _ _=>n3 λ_ _ _=>rfl);obtain⟨f,d,a,F⟩:=D57;have x57:=mkC (base:=base) X G F a (o57 (P:=l.prog) (w:=w) F x28 x23 x55 x52 n_l) (F.binds λ_ _ _ _ _ _=>n4 λ_ _ _ _=>rfl);obtain⟨f,d,a,F⟩:=D58;have x58:=mkC (base:=base) X G F a (o58 (P:=l.prog) (w:=w) F x55 x33 n_s) (F.binds λ_ _ _ _ _ _=>n3 λ_ _ _=>rfl);obtain⟨f,d,a,F⟩:=D59;have x59:=mkC (base:=base) X G F a (o59 (P:=l.prog) (w:=w) F x30 ⟨C_TooGreat,a_ X G z_TooGreat⟩ zeT ⟨z_TooGreat,za_TooGreat,⟨zb_TooGreat,zc_TooGreat,zd_TooGreat,ze_TooGreat,zf_TooGreat⟩⟩) (F.binds λ_ _ _ _ _ _=>n3 λ_ _ _=>rfl);obtain⟨f,d,a,F⟩:=D60;have x60:=mkC (base:=base) X G F a (o60 (P:=l.prog) (w:=w) F x41 ⟨C_TooGreat,a_ X G z_TooGreat⟩ zeT ⟨z_TooGreat,za_TooGreat,⟨zb_TooGreat,zc_TooGreat,zd_TooGreat,ze_TooGreat,zf_TooGreat⟩⟩) (F.binds λ_ _ _ _ _ _=>n3 λ_ _ _=>rfl);exact o61 F61 x43 x49 x51 x57 x42 x50 x59 x58 x60 x56 x38 x34 n_l 200
theorem walk{l:iG}{q:aF}{loose:List Str}{XP:(Str→Option Value)→Heap→Prop}{YP:aC→Heap→Prop}{d:DefRec}{K:fM→ak}(hn:l.most=ae 63) (hdf:d.params.defaults=[])
  (hY:∀(w:aC) (h:Heap),YP w h→(K w.params).In h)
  (F:∀(w:aC) (mg:Str→Option Value) (fa:Addr) (h:Heap),(K w.params).In h→h.Ns aK mg→mg d.name=ae (.ref fa)→
   ∃fd:bF,(∀(s:ag) (u:Value),dU s fd ⟨[u],[]⟩ [("script",u)])∧ ∀base:Heap,(K w.params).In base→base.Ns aK mg→FnOk l.prog w (K w.params) mg base (CX1 l.prog w) 200 fa fd ["script"] (zdh (K w.params) (zdU 200))) :
  iX q loose XP YP l.row.toRowW d [] (λf vs=>i' f vs):=
 L2.zwm (n:=63) (k:=200) (x:= "script") (CX:=λw=>CX1 l.prog w) (sp:=λw=>zdh (K w.params) (zdU 200)) hn (by decide) hdf ⟨rfl,by decide,by decide⟩ hY F (λw H a ns hl hO hS=>zsF hO hS (zyy ns hl)) λ_ _ _ _ _ ⟨_,_,_,_,_,_,_,_,_,z⟩=>z
end K44
namespace PySem.W.Fast
def tw10060655027720922484:=Nat
def tw10116125278407895517:=Nat
def tw10200170242914676106:=Nat
def tw10204849697469667545:=Nat
def tw10205520793989008916:=Nat
def tw10442432279624246442:=Nat
def tw10555525059188464201:=Nat
def tw10586463142804019029:=Nat
def tw10619507103123572337:=Nat
def tw10623020687335708350:=Nat
def tw10640985241374247252:=Nat
def tw10711522558998186227:=Nat
def tw10740433745848182634:=Nat
def tw10781558586987415715:=Nat
def tw10910497117112525907:=Nat
def tw11010807304347674056:=Nat
def tw11115946427618453003:=Nat
def tw11147582763776471252:=Nat
def tw11280793676091472338:=Nat
def tw11282645650104961838:=Nat
def tw11298655953570002984:=Nat
def tw11313392027329145802:=Nat
def tw11367514484913519384:=Nat
def tw1139421754048134842:=Nat
def tw11424265625394873992:=Nat
def tw11528206750915704905:=Nat
def tw11707696797545104722:=Nat
def tw11719594311783586344:=Nat
def tw11724458670500972315:=Nat
def tw1176339328117446311:=Nat
def tw11804664826329359189:=Nat
def tw1180657776663572814:=Nat
def tw11932983611227423020:=Nat
def tw11983357568079874853:=Nat
def tw12254928632483310272:=Nat
def tw12341295398226632294:=Nat
def tw12402715125179101203:=Nat
def tw12494586858487719113:=Nat
def tw12562839922957382744:=Nat
def tw12640790670806071605:=Nat
def tw12654467084737817275:=Nat
def tw12899375588131289041:=Nat
def tw13039666702870821816:=Nat
def tw13089018938319608221:=Nat
def tw13165407479344380603:=Nat
def tw13239031674167237152:=Nat
def tw13286840009182742770:=Nat
def tw13289559520562280127:=Nat
def tw13365264997520300715:=Nat
def tw1337095481150837715:=Nat
def tw13411966938730083226:=Nat
def tw13446171856661401753:=Nat
def tw13484114890559609314:=Nat
def tw13506448569257318024:=Nat
def tw13515864946725887564:=Nat
def tw13535824736418820312:=Nat
def tw13575844698447082225:=Nat
def tw1373150876183863359:=Nat
def tw13791948331713972694:=Nat
def tw13797502759859081337:=Nat
def tw13800859637846639072:=Nat
def tw13824680402307054579:=Nat
def tw13877252132924115442:=Nat
def tw13899454652842714920:=Nat
def tw13909511603133551383:=Nat
def tw13914770615408190400:=Nat
def tw14008763907286552459:=Nat
def tw1409063863712786715:=Nat
def tw14107385967777332403:=Nat
def tw14112987760694967104:=Nat
def tw14141580393446518202:=Nat
def tw14203733973655442764:=Nat
def tw14315695466576540986:=Nat
def tw14405445081889127842:=Nat
def tw14602241314069143944:=Nat
def tw14638369365811997372:=Nat
def tw14722653304371607422:=Nat
def tw14779866422484275887:=Nat
def tw1484936147637303664:=Nat
def tw14873164668774715595:=Nat
def tw14876999202444299616:=Nat
def tw1489965192636200207:=Nat
def tw14966215319479997949:=Nat
def tw15035261597351264813:=Nat
def tw15046320372057457632:=Nat
def tw15144260447300892300:=Nat
def tw15154862771865967398:=Nat
def tw15197679450215793287:=Nat
def tw15269126160482253635:=Nat
def tw15408337597463989917:=Nat
def tw15473914731346330036:=Nat
def tw15475577751763762093:=Nat
def tw15559496362007507176:=Nat
def tw1557493078996356709:=Nat
def tw15599917535205862460:=Nat
def tw15706772752528280688:=Nat
def tw15841381965099495321:=Nat
def tw15987645886860451564:=Nat
def tw16023110292113745222:=Nat
def tw16048220216665403682:=Nat
def tw16049542288747112457:=Nat
def tw16101170333701533302:=Nat
def tw16120099742028164056:=Nat
def tw16178910472296628858:=Nat
def tw16205056891056204734:=Nat
def tw1626140479431363020:=Nat
def tw16383287174403146527:=Nat
def tw16445630737689703857:=Nat
def tw16494740733687489428:=Nat
def tw16507250453117197752:=Nat
def tw16657523235192088874:=Nat
def tw16820779746914824813:=Nat
def tw16952329438120610527:=Nat
def tw16965043772373025974:=Nat
def tw16980372817677849896:=Nat
def tw16990363371000752893:=Nat
def tw1708143736588058758:=Nat
def tw17128940901428001830:=Nat
def tw17130044173372535373:=Nat
def tw17246956467189469508:=Nat
def tw17285584127397622171:=Nat
def tw17338004794412685085:=Nat
def tw17380263181792923055:=Nat
def tw17407232638481300549:=Nat
def tw17418046408032966476:=Nat
def tw17658680328661063222:=Nat
def tw176653036431623979:=Nat
def tw17691031922793973248:=Nat
def tw1774700433812685243:=Nat
def tw17767468366836729320:=Nat
def tw17852326100066062257:=Nat
def tw17960658371355331477:=Nat
def tw18145683796534736403:=Nat
def tw18153410385617560560:=Nat
def tw18245155870045346435:=Nat
def tw18247438791593428043:=Nat
def tw18291803238989508550:=Nat
def tw18391535073992700267:=Nat
def tw18431194580543460880:=Nat
def tw18637584746553941:=Nat
def tw19054726726964662:=Nat
def tw2012321448784027102:=Nat
def tw2060253732519109272:=Nat
def tw2088634482943604185:=Nat
def tw2135561857668757375:=Nat
def tw2289881128866453880:=Nat
def tw2295095712818494648:=Nat
def tw23244394139634046:=Nat
def tw2540004052133304556:=Nat
def tw2641248868270629892:=Nat
def tw2741279064838158378:=Nat
def tw2779432142967900202:=Nat
def tw2829234992878623547:=Nat
def tw2908026400843441854:=Nat
def tw2990412640430880935:=Nat
def tw2996617647982118201:=Nat
def tw3020811781256232780:=Nat
def tw3031801171983942721:=Nat
def tw3122695268490534165:=Nat
def tw3238276200116080439:=Nat
def tw3256298950276693235:=Nat
def tw3280636137782043041:=Nat
def tw3290096040733826633:=Nat
def tw3311995071739915520:=Nat
def tw3325133942589134387:=Nat
def tw3421852940262612198:=Nat
def tw3508843217061150130:=Nat
def tw3745859958692845215:=Nat
def tw3782001597322338565:=Nat
def tw3785575646398791568:=Nat
def tw380551093830259592:=Nat
def tw388934726348109130:=Nat
def tw3937800351934587404:=Nat
def tw4043497801976797389:=Nat
def tw4160709661923195828:=Nat
def tw422781968133652222:=Nat
def tw44002791568999103:=Nat
def tw4444907066133370625:=Nat
def tw4488429076440641976:=Nat
def tw4594127411259790232:=Nat
def tw4654033036984705446:=Nat
def tw4723688936593255088:=Nat
def tw4779179083932621814:=Nat
def tw4789799102059177890:=Nat
def tw4854833859609968268:=Nat
def tw4862691738017658013:=Nat
def tw4962070785980834364:=Nat
def tw5012534126640474895:=Nat
def tw506086024679478199:=Nat
def tw5110234382178054905:=Nat
def tw5115617449774139332:=Nat
def tw5138461038535478584:=Nat
def tw5201882877456172058:=Nat
def tw5281079980213122876:=Nat
def tw5554788091798000489:=Nat
def tw5555730630095565853:=Nat
def tw5639021248841575585:=Nat
def tw5680845331371469333:=Nat
def tw5712291933837973292:=Nat
def tw575603413919975268:=Nat
def tw5769966011531898903:=Nat
def tw5836638020844960354:=Nat
def tw5849542879823489218:=Nat
def tw5869282342226107238:=Nat
def tw5925298048990931847:=Nat
def tw5929360478285832130:=Nat
def tw5999996438237286040:=Nat
def tw6020909039524643451:=Nat
def tw6022512652641016202:=Nat
def tw6025831057052480327:=Nat
def tw6104972973752497921:=Nat
def tw624695637798364980:=Nat
def tw6311872821625927217:=Nat
def tw634658442200975143:=Nat
def tw6406628256860752998:=Nat
def tw6420263508227553106:=Nat
def tw6465599746390689185:=Nat
def tw6522163889573002605:=Nat
def tw6556401985689783334:=Nat
def tw6566510170350369262:=Nat
def tw6578696364660320697:=Nat
def tw6672680815328166401:=Nat
def tw667893502494133708:=Nat
def tw6727123357363617294:=Nat
def tw6778982549368428848:=Nat
def tw7005429331691495761:=Nat
def tw7187632217545347501:=Nat
def tw7200807206142103085:=Nat
def tw7215257434438044359:=Nat
def tw7253171955975010365:=Nat
def tw7380881585844422749:=Nat
def tw7399506993084271010:=Nat
def tw7481165428198027162:=Nat
def tw7504557787825821936:=Nat
def tw7550599617425575132:=Nat
def tw755188814013307681:=Nat
def tw7639912019751040484:=Nat
def tw7644157324683577802:=Nat
def tw7723637327473388146:=Nat
def tw773963883653595393:=Nat
def tw7803585113993560849:=Nat
def tw7821054300379453320:=Nat
def tw7827701850453659453:=Nat
def tw7830604765095875718:=Nat
def tw785894025335065600:=Nat
def tw7888374264836061848:=Nat
def tw7930769740421244986:=Nat
def tw7956775787440211259:=Nat
def tw802464982735715128:=Nat
def tw808437465962260822:=Nat
def tw8145949444939591354:=Nat
def tw8167639072669814435:=Nat
def tw8243028594287712275:=Nat
def tw8243270809372659899:=Nat
def tw827544046188842325:=Nat
def tw8277434233272193291:=Nat
def tw8313581933967638334:=Nat
def tw8415673441921371096:=Nat
def tw8474176143429691147:=Nat
def tw8591138941563438392:=Nat
def tw865800461611132363:=Nat
def tw8768595245832080105:=Nat
def tw8782407024413407692:=Nat
def tw896242990939157966:=Nat
def tw9011723107835984592:=Nat
def tw9049206953403330095:=Nat
def tw9089668379016452353:=Nat
def tw9167068718934536367:=Nat
def tw9169057436846900848:=Nat
def tw9499815591095296953:=Nat
def tw9511861022307238097:=Nat
def tw9764631761396946475:=Nat
def tw988992579980774797:=Nat
def tw9943152128245709427:=Nat
def tw9950564419518080877:=Nat
end PySem.W.Fast
open PySem PySem.W PyProof.Rows
set_option maxRecDepth 100000 in
set_option maxHeartbeats 0 in
theorem PySem.Challenge.cw_turnweave_k44_whole_roads_within_rounds_holds : PySem.Challenge.rw_turnweave_k44_whole_roads_within_rounds.Holds := by
 w_on;o_law;k_head;(case hw=>w_witness2)
 k_fill
 refine K44.walk (l:=PySem.Challenge.rw_turnweave_k44_whole_roads_within_rounds) rfl rfl (λw h Y=>PySem.W.kIn_of Y) ?F
 case F=>
  intro w mg fa h KX G hmg
  refine' K44.all_mk KX G hmg (K44.dfn ?_ ?_ ?_ ?_) (K44.dfn ?_ ?_ ?_ ?_) (K44.dfn ?_ ?_ ?_ ?_) (K44.dfn ?_ ?_ ?_ ?_) (K44.dfn ?_ ?_ ?_ ?_) (K44.dfn ?_ ?_ ?_ ?_) (K44.dfn ?_ ?_ ?_ ?_) (K44.dfn ?_ ?_ ?_ ?_) (K44.dfn ?_ ?_ ?_ ?_) (K44.dfn ?_ ?_ ?_ ?_) (K44.dfn ?_ ?_ ?_ ?_) (K44.dfn ?_ ?_ ?_ ?_) (K44.dfn ?_ ?_ ?_ ?_) (K44.dfn ?_ ?_ ?_ ?_) (K44.dfn ?_ ?_ ?_ ?_) (K44.dfn ?_ ?_ ?_ ?_) (K44.dfn ?_ ?_ ?_ ?_) (K44.dfn ?_ ?_ ?_ ?_) (K44.dfn ?_ ?_ ?_ ?_) (K44.dfn ?_ ?_ ?_ ?_) (K44.dfn ?_ ?_ ?_ ?_) (K44.dfn ?_ ?_ ?_ ?_) (K44.dfn ?_ ?_ ?_ ?_) (K44.dfn ?_ ?_ ?_ ?_) (K44.dfn ?_ ?_ ?_ ?_) (K44.dfn ?_ ?_ ?_ ?_) (K44.dfn ?_ ?_ ?_ ?_) (K44.dfn ?_ ?_ ?_ ?_) (K44.dfn ?_ ?_ ?_ ?_) (K44.dfn ?_ ?_ ?_ ?_) (K44.dfn ?_ ?_ ?_ ?_) (K44.dfn ?_ ?_ ?_ ?_) (K44.dfn ?_ ?_ ?_ ?_) (K44.dfn ?_ ?_ ?_ ?_) (K44.dfn ?_ ?_ ?_ ?_) (K44.dfn ?_ ?_ ?_ ?_) (K44.dfn ?_ ?_ ?_ ?_) (K44.dfn ?_ ?_ ?_ ?_) (K44.dfn ?_ ?_ ?_ ?_) (K44.dfn ?_ ?_ ?_ ?_) (K44.dfn ?_ ?_ ?_ ?_) (K44.dfn ?_ ?_ ?_ ?_) (K44.dfn ?_ ?_ ?_ ?_) (K44.dfn ?_ ?_ ?_ ?_) (K44.dfn ?_ ?_ ?_ ?_) (K44.dfn ?_ ?_ ?_ ?_) (K44.dfn ?_ ?_ ?_ ?_) (K44.dfn ?_ ?_ ?_ ?_) (K44.dfn ?_ ?_ ?_ ?_) (K44.dfn ?_ ?_ ?_ ?_) (K44.dfn ?_ ?_ ?_ ?_) (K44.dfn ?_ ?_ ?_ ?_) (K44.dfn ?_ ?_ ?_ ?_) (K44.dfn ?_ ?_ ?_ ?_) (K44.dfn ?_ ?_ ?_ ?_) (K44.dfn ?_ ?_ ?_ ?_) (K44.dfn ?_ ?_ ?_ ?_) (K44.dfn ?_ ?_ ?_ ?_) (K44.dfn ?_ ?_ ?_ ?_) (K44.dfn ?_ ?_ ?_ ?_) (K44.dfn ?_ ?_ ?_ ?_) (K44.dfn ?_ ?_ ?_ ?_) ?_ ?_ ?_ ?_ ?_ ?_ ?_ ?_ ?_ ?_ ?_ ?_ ?_ ?_ ?_ ?_ ?_ ?_ ?_ ?_ ?_ ?_ ?_ ?_ ?_ ?_ ?_ ?_ ?_ ?_ ?_ ?_ ?_ ?_ ?_ ?_ ?_ ?_ ?_ ?_ ?_ ?_ ?_ ?_ ?_ ?_ ?_ ?_<;>first |k_is |kit_is | (dsimp only[List.map];kit_is) |kts_exm | (delta L2.bmV;k_exc) |skip
end
