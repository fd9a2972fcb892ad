import PyProof.Rows.All
import Wide.All
import OpenK.AllK
import Wide.FinOn
import Lean
import PyProof.EqAt
import PyProof.EqKinds
import PyProof.TupleCall
import PyProof.NeKinds
import PyProof.ListMulRoad
import PyProof.AttrMissHeap
import KE.KDictOf
import KE.KRevIter
import PyProof.ListRange
import KE.KSortTup
import KE.KMinKey
import PyProof.MinMaxWalk
import PyProof.Rows.CallKwBuiltin
import PyProof.Rows.SetFrom
import PyProof.Rows.SeqMore
import PySem.Challenge.RW_turnweave_k35_roads_of_singles
open Option renaming some→ae,isSome_iff_exists→eE,map_some→fR,isSome_map→iJ,isSome_some→kf,getD_none→kR,bind_eq_some_iff→kU,some→k6
open PySem renaming Shared→ah,wpAny_bind→ak,wpAny→am,starEach→ao,model→ap,eval→au,World→ax,Pos→ay,wpAny_pure→aE,Program→aF,mainGlobals→aL,Around→aM,backTo→aP,Tok→bc,Env→bw,wpAny_field→bB,Builtin→bD,FuncData→bF,compareOp→bH,IsPair→bO,binaryOp→bP,Paired→bR,NameKind→bV,bootBuiltins→bW,pyNext→bX,wpAny_mono→b3,IsZip→b5,Sem→b7,Keyword→b8,rawInt→cm,assignEach→cu,wpAny_setField_rec→cA,tupleKind→cE,IsEnum→cF,call_meets→cH,IsPart→cN,attributeBase→cR,codeAny→cU,wpAny_seqItems→cV,PassesOwn→cY,bindC→cZ,Model→c6,wpAny_call_entry→c7,behindInMarks→c8,wpAny_ite_split→db,bindL→de,wpAny_callSpecial?_slot→df,atKey→di,pyIter→dn,getItem→dr,foldedSetIterable→du,callerA→dv,sliceBounds→dy,sizeLine_eq→dC,swapsWith→dF,CmpOp→dG,wpAny_passesOwn→dI,wpAny_rule→dJ,keywordEach→dO,valueAt→dR,backToKw→dZ,sysModules→d5,typeOf→d6,mem_of_lookup→d8,BindsTo→d_,wpAny_newObj_type→eB,wpAny_pyIter_list→eQ,storedH→eU,Result→eX,typeIs_int→fh,PlainAttrs→fj,wpAny_execs_nil→fo,wpAny_typeOf→fu,wpAny_truthy_bool→fG,wpAny_holding→fL,getAttr?→fS,Params→fV,wpAny_onRaise→fX,post_val_or_str→fZ,wpAny_Call_Name_kw→f9,wpAny_attempt→gc,wpAny_getItem_str_slice→gd,Operator→gk,letOwnedTupleGo→gp,preSum→gy,wpAny_letGo→gz,concat_meets→gB,wpAny_Name→gG,cellsFrom→gP,typeIs_str→gR,setFlight→gS,codeAny_builtin→g_,call→hU,codeAny_mono→ic,wpAny_loadPart_at→ig,GenState→ij,typeLookup→im,pick_run→ip,builtinsNs→ir,seq_tuple_add→ix,storeName→iy,ZipApart→iA,sliceRange_one→iD,noFill_tuple_add→iE,noteFrame→iH,IsEnumOut→iP,wpAny_updateSeq_pair→iS,isInstance→iW,wpAny_pyIter_enum→i3,wpAny_newTuple→i5,seqSlot_of→i8,wpAny_binaryOp_repeat_ref→jh,codeAny_call_builtin→jj,wpAny_sequenceKey→jo,wpAny_isInstance→ju,wpAny_setField→jT,wpAny_setFlight_noneW→jV,slot_list_getitem→ke,tupleKind_room_in1→kg,wpAny_execs_cons→kj,wpAny_loadName_cell→kl,isSubtype_stop→km,firstArgMember→kq,wpAny_assign_Name→kx,checkBuiltinCall→kG,wpAny_pyIter_zip→kN,wpAny_pyIter_tuple→kO,wpAny_loadName_local→kZ,getattributeRaised→k7
open PySem.W renaming Frag→ai,nsIn→aT,mg_of→aY,kitOne→bQ,mg_none_of→bY,kia_one→b_,findIn→ci,hideAll→cW,hideAll_none→dw,fnOf→dz,mroIn→dB,keepIn→dQ,excIn→eW,of_hideAll→fv,hideAll_get→fx,codeIn→fQ,exmOne→gF,lookIn→iw,OpenLaw→iC,instObj→iN,methodObj→iT,kitx_list→i0,plainGet→jH,kitx_dict→jZ,cellsFrom_some→j4,WalkO→j8,callWith_K→kE
open Or renaming inl→aj,inr→b4
open List renaming length_map→aq,mem_cons→av,map_cons→aD,mem_cons_of_mem→aH,replicate→aJ,mem_cons_self→aN,range→aO,size_toArray→aQ,nil_append→aR,getElem?_eq_getElem→aU,length_cons→aV,getElem?_map→aX,mem_map→aZ,mem_of_getElem?→a_,length_append→ba,mem_append→bb,append_nil→bf,mem_singleton→bn,not_mem_nil→bo,Nodup→bA,getD_eq_getElem?_getD→bE,map_map→bG,append_assoc→bI,getElem?_eq_some_iff→bL,map_append→bN,find?_cons→bS,getElem?_cons_succ→bU,mem_append_right→bZ,length_take→b9,lookup_cons→cb,replicate_succ→cf,length_drop→ck,map_nil→cw,cons_append→cG,map_congr_left→c_,mem_of_find?_eq_some→da,all_eq_true→dg,drop_zero→dh,mem_append_left→dj,length→dk,nodup_cons→dq,take_of_length_le→dD,flatten_cons→dE,foldl→dL,any_cons→dN,foldl_cons→dP,flatMap_cons→dS,map→dX,length_nil→ef,findSome?_cons→er,mem_range→eM,getElem_mem→eV,of_mem_zip→fy,length_singleton→fA,getElem?_range→fB,drop_of_length_le→fD,drop_eq_getElem_cons→fE,length_pos_iff→fI,set_cons_zero→fK,filterMap_cons→fW,all_map→fY,flatMap_nil→f_,mem_filter→gi,set_cons_succ→gl,take_append_drop→gn,length_replicate→gr,getElem?_cons_zero→gw,map_take→gC,mem_of_mem_take→gD,mem_filterMap→gH,getElem?_set_self→gI,getElem?_append_right→gK,range_succ→gN,sum_cons→gQ,mem_of_mem_drop→gU,getElem?_of_mem→gY,map_drop→g9,take_length→h9,getElem_of_mem→ia,getElem?_eq_none→ib,filter_cons→ie,range_succ_eq_map→ii,lookup→io,eq_nil_of_length_eq_zero→iq,getElem?_set_ne→iz,forIn_cons→iG,mem_flatMap→iM,find?_eq_none→iR,zipIdx_nil→iY,forIn_nil→i4,take_zero→i7,find?_some→i9,all_cons→j',zipIdx_cons→jd,sum_append→je,length_filter_le→jg,ext_getElem?→jr,range'_succ→jA,pairwise_map→jC,getElem?_drop→jJ,flatMap_append→jU,Pairwise→jY,flatMap_def→kc,zip_cons_cons→kh,take_succ→kB,getElem?_replicate→kH,findSome?_eq_none_iff→kJ,take_sublist→kM,getElem?_set→kP,getElem?_append_left→kW
open Nat renaming le_refl→aB,zero_le→aS,le_of_ble_eq_true→bp,ne_of_lt→bx,lt_of_lt_of_le→bJ,le_trans→bM,lt_irrefl→cp,ne_of_gt→cM,zero_add→cP,sub_zero→eS,le_of_eq→fe,le_add_right→fF,add_le_add_left→f8,eq_zero_or_pos→gg,add_comm→gV,le_of_lt→gZ,mul_comm→iv,min_eq_left→iO,le_of_not_lt→jF,max_assoc→jP,min_eq_right→kL
open Option.some renaming inj→aG,injEq→bq
open PySem.Heap renaming lt_size→aI,get?_push_of_some→aK,get?_push_size→bt,SameBut→cj,size_push→cJ,Left→gL,ExtBut→iu
open PySem.NameKind renaming free→aW,cell→cC
open Ne renaming symm→bg
open PySem.Value renaming ref→br,none→cz,bool→dW,builtin→eg,str→eH,int→fJ,type→gm,isStrOf→jx
open PySem.Str renaming ofString→bu,join→cQ,length→gM,empty→ik
open Int renaming toNat_natCast→bK,emod_nonneg→cg,emod_lt_of_pos→cn,toNat_of_nonneg→cB,toNat→iL,eq_ofNat_of_zero_le→jL
open PyProof.Rows renaming AllBare→bT,boot_int→cy,envOfC→cD,IsTup→dM,slot_tuple_getitem→d7,IntsAre→eK,callWith_type1→gb,boot_tuple→h_,entry_tuple_getitem→iX,boot_isinstance→i_,subscriptTail_builtinR→jM,args_tuple_getitem→ko,boot_list→kI,slicePart_none→kQ
open Bool renaming and_eq_true→ce,false_ne_true→cX,eq_false_iff→dH,false_eq_true→d9,eq_iff_iff→eF,and_false→fT,true_and→iZ,not_false→jQ,or_false→j_,or_eq_true→kK,false_or→kX
open False renaming elim→cr
open PySem.Txt renaming slice→cL,upper→dA
open PySem.Builtin.SmallTypes renaming nextOf→cO,ownedTupleIsFree→dY,ownedTupleHandOut→fH
open PySem.Builtin.Str renaming occurrences→cS,strSliceIndices→gx
open PySem.AutoSeq1 renaming wpAny_loadPart'→cT,sub_tuple_tuple→fO,idx_int→gu
open Sum renaming inr→dc
open True renaming intro→dt
open PySem.SeqAt renaming EqAt→dU,RcAt→eJ,RcNeAt→e_
open PySem.Builtin.List renaming listTooLong→eA
open ForInStep renaming yield→eD
open PySem.F renaming slot_tuple_mul→eG,slot_tuple_iterator_next→fN,slot_int_rmul→fU,slot_enumerate_next→gq,slot_zip_next→gv,slot_tuple_add→gA,args_tuple_mul_2→gE,entry_tuple_add→hV,args_tuple_add_2→iI,entry_tuple_mul→iK,slot_list_getattribute→iU,entry_tuple_iterator_next→i6,excBase_ValueError→ja,entry_int_rmul→jf,args_tuple_iterator_next_1→jk,plainAttrs_str→jm,entry_enumerate_next→jn,slot_tuple_rmul→jp,plainAttrs_list→jB,fills_int_mul→jD,args_list_extend_2→jE,typeOf_object_class→jS,entry_list_extend→j3,entry_zip_next→j6,slot_int_index→ki,excAttr_ValueError→ky,slot_list_extend→kz,args_zip_next_1→kC,args_enumerate_next_1→kD,args_int_rmul_2→kS
open Eq renaming trans→eI
open PySem.Paired renaming length→eO
open LawfulMonad renaming pure_bind→fM
open PySem.Builtin.Tuple renaming tupleExact→ge,tupleItemsOf→j7
open LawfulBEq renaming eq_of_beq→gf
open PySem.Builtin.Slice renaming slicePlaces→gh,sliceAdjust→iQ,sliceApplied→kF
open PyProof.Rows.IsTup renaming new→gj
open Array renaming length_toList→gJ,toList_append→il,append_assoc→jX,getElem?_eq_getElem→j9,getElem?_eq_some_iff→ku
open PySem.Obj renaming mapSeq→gO,data_mapFields→jR
open Prod renaming snd→iB
open List.cons renaming injEq→iF
open PySem.Walks renaming list→iV
open PySem.Calls renaming Name_function_global→jb,evalArgs_plain→j5,callWith_builtin→kr
open Prod.mk renaming injEq→jc
open PySem.Value.ref renaming inj→jG
open Function renaming comp→jI
open PySem.Around renaming under_plainId→jN
open PySem.PassesOwn renaming never→jO
open PySem.Builtin.Dict renaming updateFrom→kT
open PySem.Heap.SameBut renaming update→kY
set_option Elab.async false
set_option compiler.extract_closed false
set_option linter.all false
set_option maxRecDepth 100000
set_option maxHeartbeats 4000000
section
namespace L2
open PySem PySem.Spec PyProof.Rows
abbrev Key:=Sum Int Str
noncomputable def zmq:Key→Value→Bool
 | .inl k,v=>Value.isInt k v
 | .inr x,v=>jx x v
noncomputable def zAm (w:ax):Key→Int
 | .inl k=>hashInt k
 | .inr x=>hashStr w x
theorem zbo:∀{k:Key}{v:Value},zmq k v=true→(∃i t,k=Sum.inl i∧v=fJ i t)∨(∃x t,k=dc x∧v=eH x t)
 | .inl i,v,h=>by
  obtain⟨t,e⟩:=Value.isInt_shape (k:=i) (v:=v) h;exact .inl ⟨i,t,rfl,e⟩
 | .inr x,v,h=>by
  obtain⟨t,e⟩:=Value.isStrOf_shape (x:=x) (v:=v) h;exact .inr ⟨x,t,rfl,e⟩
theorem znS (i:Int) (t:bc):zmq (.inl i) (.int i t)=true:=by simp [zmq,Value.isInt]
theorem znh (x:Str) (t:bc):zmq (.inr x) (.str x t)=true:=by simp [zmq,jx]
theorem zwv (a b:Int):decide ((Sum.inl a:Key)=Sum.inl b)=(a == b):=by
 by_cases e:a=b
 ·subst e;simp
 ·have h:¬(Sum.inl a:Key)=Sum.inl b:=λq=>e (Sum.inl.inj q);rw[decide_eq_false h];exact(beq_eq_false_iff_ne.mpr e).symm
theorem zwK (a b:Str):decide ((dc a:Key)=dc b)=decide (a=b):=by
 by_cases e:a=b
 ·subst e;simp
 ·have h:¬(dc a:Key)=dc b:=λq=>e (dc.inj q);rw[decide_eq_false h,decide_eq_false e]
theorem zwa (a:Int) (b:Str):decide ((Sum.inl a:Key)=dc b)=false:=decide_eq_false (λq=>nomatch q)
theorem zuX (a:Str) (b:Int):decide ((dc a:Key)=Sum.inl b)=false:=decide_eq_false (λq=>nomatch q)
noncomputable def zbr (prog:aF) (w:ax):PySem.KeyKind prog w Key where
  is:=zmq
  hash:=zAm w
  inj:=λv a b ha hb=>by
    rcases zbo ha with⟨i,t,rfl,rfl⟩ |⟨x,t,rfl,rfl⟩
    · rcases zbo hb with⟨j,u,rfl,e⟩ |⟨y,u,rfl,e⟩
      · injection e with e1 _;rw[e1]
      · exact nomatch e
    · rcases zbo hb with⟨j,u,rfl,e⟩ |⟨y,u,rfl,e⟩
      · exact nomatch e
      · injection e with e1 _;rw[e1]
  byValue:=λk v h=>by
    rcases zbo h with⟨i,t,rfl,rfl⟩ |⟨x,t,rfl,rfl⟩<;>rfl
  pyHash:=λhv h=>by
    rcases zbo hv with⟨i,t,rfl,rfl⟩ |⟨x,t,rfl,rfl⟩
    · exact wpAny_pyHash_int h
    · exact wpAny_pyHash_str h
  eqBool:=λhu hv h=>by
    rcases zbo hu with⟨i,t,rfl,rfl⟩ |⟨x,t,rfl,rfl⟩
    · rcases zbo hv with⟨j,u,rfl,rfl⟩ |⟨y,u,rfl,rfl⟩
      · rw[zwv]at h;exact wpAny_eqBool_int h
      · rw[zwa]at h;exact dU.int_str i t y u _ _ _ _ h
    · rcases zbo hv with⟨j,u,rfl,rfl⟩ |⟨y,u,rfl,rfl⟩
      · rw[zuX]at h;exact dU.str_int x t j u _ _ _ _ h
      · rw[zwK]at h;exact wpAny_eqBool_str h
  «strs» :=λk x t v h=>by
    rcases zbo h with⟨i,u,rfl,e⟩ |⟨y,u,rfl,e⟩
    · exact nomatch e
    · injection e with e1 _;subst e1;cases v<;>rfl
theorem zki (prog:aF) (w:ax) (i:Int) (t:bc):(zbr prog w).is (.inl i) (.int i t)=true:=znS i t
theorem zkH (prog:aF) (w:ax) (x:Str) (t:bc):(zbr prog w).is (.inr x) (.str x t)=true:=znh x t
inductive V where
  |non |bl (b:Bool) |int (i:Int) |str (x:Str) |byt (b:Array UInt8) |flt (b:UInt64) |ref (a:Addr) |ty (n:String)
  deriving DecidableEq
noncomputable def RelV:V→Value→Prop
 | .non,u=>u=cz
 | .bl b,u=>u=dW b
 | .int i,u=>∃t,u=fJ i t
 | .str x,u=>∃t,u=eH x t
 | .byt b,u=>∃t,u=Value.bytes b t
 | .flt b,u=>∃t,u=Value.float b t
 | .ref a,u=>u=br a
 | .ty n,u=>u=gm n
noncomputable abbrev Vals:List V→List Value→Prop:=bR RelV
theorem Vals.length{xs:List V}{us:List Value}(r:Vals xs us):xs.length=us.length:=eO r
theorem Vals.get:∀{xs:List V}{us:List Value}{i:Nat}{x:V},Vals xs us→xs[i]? =ae x→ ∃u,us[i]? =ae u∧RelV x u
 |_,_,_,_, .nil,e=>by simp at e
 |_,_,0,_, .cons r _,e=>by simp at e;subst e;exact⟨_,rfl,r⟩
 |_,_,i+1,x, .cons _ t,e=>by
  obtain⟨u,h1,h2⟩:=Vals.get (i:=i) (x:=x) t (by simpa using e);exact⟨u,by simpa using h1,h2⟩
theorem Vals.append:∀{xs ys:List V}{us ws:List Value},Vals xs us→Vals ys ws→Vals (xs++ys) (us++ws)
 |_,_,_,_, .nil,s=>s
 |_,_,_,_, .cons r t,s=> .cons r (Vals.append t s)
theorem Vals.take:∀{xs:List V}{us:List Value}(n:Nat),Vals xs us→Vals (xs.take n) (us.take n)
 |_,_,0,_=> .nil
 |_,_,_+1, .nil=> .nil
 |_,_,n+1, .cons r t=> .cons r (Vals.take n t)
theorem Vals.drop:∀{xs:List V}{us:List Value}(n:Nat),Vals xs us→Vals (xs.drop n) (us.drop n)
 |_,_,0,r=>r
 |_,_,_+1, .nil=> .nil
 |_,_,n+1, .cons _ t=>Vals.drop n t
noncomputable def RelO:Option V→Option Value→Prop
 |some v,ae u=>RelV v u
 |none,none=>True
 |_,_=>False
def KV {κ:Type}:List (κ×V)→List (κ×Value)→Prop:=bR λ(p:κ×V) (q:κ×Value)=>p.1=q.1∧RelV p.2 q.2
noncomputable def kV:Key→V
 | .inl i=> .int i
 | .inr x=> .str x
inductive HO where
    |lst (xs:List V)
    |tup (xs:List V)
    |dK (kvs:List (Key×V)) |dT (kvs:List (List Key×V))
    |set (S:Int→Bool) (n:Nat)
    |ins (C dx:Addr) (fs:List (Str×V))
    |own (x:Addr)
    |xd (fs:List (Str×V))
    |met (f x:Addr)
    |rng (lo hi:Int)
    |frz (o:Obj) (u:HO)
    |tbl (ps:Array Value)
    |ext (φ:Heap→Prop)
abbrev Hp:=Addr→Option HO
noncomputable def upd (H:Hp) (a:Addr) (o:HO):Hp:=λb=>if b=a then ae o else H b
theorem zaA{H:Hp}{a:Addr}{o:HO}:upd H a o a=ae o:=by unfold upd;rw[if_pos rfl]
theorem zaB{H:Hp}{a b:Addr}{o:HO}(h:b≠a):upd H a o b=H b:=by unfold upd;rw[if_neg h]
theorem zqe{H:Hp}{a b:Addr}{o u:HO}(h:H a=ae o) (h':H b=ae u) (d:o≠u):a≠b:=by
 intro e;subst e;rw[h]at h';exact d (aG h')
theorem zas{H:Hp}{a b:Addr}{o:HO}(h:H a=ae o) (h':H b=none):a≠b:=by
 intro e;subst e;rw[h]at h';cases h'
section
variable (P:aF) (w:ax)
noncomputable def ObjOk (H:Hp) (h:Heap) (a:Addr):HO→Prop
 | .lst xs=>xs.length≤sizeLine∧ ∃(its:List Value) (n:Nat),Vals xs its∧h.get? a=ae { cls:= .type "list",data:= .seq its.toArray n }
 | .tup xs=>xs.length≤sizeLine∧ ∃its:List Value,Vals xs its∧dM h a its.toArray
 | .dK kvs=>kvs.length≤sizeLine∧(a == d5)=false∧ ∃vs,KV kvs vs∧h.DictOf (zbr P w) a vs
 | .dT kvs=>kvs.length≤sizeLine∧(a == d5)=false∧ ∃xs:List (List Key×Addr×Value),
   bR (λ(p:List Key×V) (q:List Key×Addr×Value)=>p.1=q.1∧H q.2.1=ae (.tup (p.1.map kV))∧RelV p.2 q.2.2) kvs xs∧
   ∃o es ep,h.get? a=ae o∧o.ExactDict∧o.data= .dict es ep∧es.toList=xs.map (entryOfKey (cE (zbr P w)))∧(xs.map (·.1)).Nodup
 | .set S n=>h.SetOf (intKind P w) a S n
 | .ins C dx fs=>H dx=ae (.own a)∧fs.length≤1000∧dx≠a∧h.get? a=ae (iN C dx)∧
   ∃mA,h.Ns1 dx mA∧(∀f,RelO (fs.lookup f) (mA f))∧PySem.Within mA (fs.map (·.1))
 | .own _=>∃o,h.get? a=ae o
 | .xd fs=>∃mA,h.Ns1 a mA∧ ∀f,RelO (fs.lookup f) (mA f)
 | .rng lo hi=>∃t u v,h.get? a=ae { cls:= .type "range",data:= .fields #[.int lo t, .int hi u, .int 1 v] }
 | .frz o u=>h.get? a=ae o∧ObjOk H h a u
 | .tbl ps=>h.get? a=ae { cls:= .none,data:= .fields ps }
 | .met f x=>h.get? a=ae (iT (.ref f) (.ref x))
 | .ext φ=>φ h∧(∃o,h.get? a=ae o)∧ ∀h1 h2:Heap,φ h1→(∀o,h1.get? a=ae o→h2.get? a=ae o)→φ h2
def HOk (H:Hp) (h:Heap):Prop:=∀a o,H a=ae o→ObjOk P w H h a o
end
section
variable {P:aF}{w:ax}{H H':Hp}{h h':Heap}{a:Addr}{o:HO}
theorem ObjOk.lt (x:ObjOk P w H h a o):a<h.objs.size:=by
 cases o with
 |lst xs=>obtain⟨_,_,_,_,e⟩:=x;exact aI e
 |tup xs=>obtain⟨_,_,_,p⟩:=x;exact p.lt
 |dK kvs=>obtain⟨_,_,_,_,o,_,_,e,_⟩:=x;exact aI e
 |dT kvs=>obtain⟨_,_,_,_,o,_,_,e,_⟩:=x;exact aI e
 |set S n=>obtain⟨o,_,_,_,e,_⟩:=x;exact aI e
 |ins C dx fs=>obtain⟨_,_,_,e,_⟩:=x;exact aI e
 |own y=>obtain⟨_,e⟩:=x;exact aI e
 |xd fs=>obtain⟨_,⟨_,_,_,e,_⟩,_⟩:=x;exact aI e
 |rng lo hi=>obtain⟨_,_,_,e⟩:=x;exact aI e
 |frz ob u=>obtain⟨e,_⟩:=x;exact aI e
 |tbl ps=>exact aI (show h.get? a=ae _ from x)
 |met f y=>exact aI (show h.get? a=ae _ from x)
 |ext φ=>obtain⟨_,⟨_,e⟩,_⟩:=x;exact aI e
theorem Paired.mapP{α β:Type}{F G:α→β→Prop}:∀{l₁:List α}{l₂:List β},bR F l₁ l₂→(∀a b,F a b→G a b)→bR G l₁ l₂
 |_,_, .nil,_=> .nil
 |_,_, .cons r t,f=> .cons (f _ _ r) (Paired.mapP t f)
theorem ObjOk.stay (x:ObjOk P w H h a o) (k:∀b u,(b=a∨H b=ae (.own a))→h.get? b=ae u→h'.get? b=ae u)
  (ho:∀b,H b=ae (.own a)→H' b=ae (.own a)) (ht:∀b xs,H b=ae (.tup xs)→H' b=ae (.tup xs)):ObjOk P w H' h' a o:=by
 induction o with
 |lst xs=>obtain⟨z,its,n,r,e⟩:=x;exact⟨z,its,n,r,k _ _ (.inl rfl) e⟩
 |tup xs=>obtain⟨z,its,r,ob,e,c⟩:=x;exact⟨z,its,r,ob,k _ _ (.inl rfl) e,c⟩
 |dK kvs=>obtain⟨z,y,vs,r,ob,es,ep,e,c⟩:=x;exact⟨z,y,vs,r,ob,es,ep,k _ _ (.inl rfl) e,c⟩
 |dT kvs=>
  obtain⟨z,y,xs,r,ob,es,ep,e,c⟩:=x;exact⟨z,y,xs,Paired.mapP r λp q z=>⟨z.1,ht _ _ z.2.1,z.2.2⟩,ob,es,ep,k _ _ (.inl rfl) e,c⟩
 |set S n=>obtain⟨ob,es,ep,t,e,c⟩:=x;exact⟨ob,es,ep,t,k _ _ (.inl rfl) e,c⟩
 |ins C dx fs=>
  obtain⟨d,z,ne,e,mA,⟨od,es,ep,e2,c⟩,r⟩:=x;exact⟨ho _ d,z,ne,k _ _ (.inl rfl) e,mA,⟨od,es,ep,k _ _ (.inr d) e2,c⟩,r⟩
 |own y=>obtain⟨ob,e⟩:=x;exact⟨ob,k _ _ (.inl rfl) e⟩
 |xd fs=>obtain⟨mA,⟨od,es,ep,e,c⟩,r⟩:=x;exact⟨mA,⟨od,es,ep,k _ _ (.inl rfl) e,c⟩,r⟩
 |rng lo hi=>obtain⟨t,u,v,e⟩:=x;exact⟨t,u,v,k _ _ (.inl rfl) e⟩
 |frz ob u ih=>obtain⟨e,q⟩:=x;exact⟨k _ _ (.inl rfl) e,ih q⟩
 |tbl ps=>
  have e:h.get? a=ae { cls:= .none,data:= .fields ps }:=x;show h'.get? a=ae { cls:= .none,data:= .fields ps };exact k a _ (.inl rfl) e
 |met f y=>
  have e:h.get? a=ae (iT (.ref f) (.ref y)):=x;show h'.get? a=ae (iT (.ref f) (.ref y));exact k a _ (.inl rfl) e
 |ext φ=>obtain⟨p,⟨o,e⟩,st⟩:=x;exact⟨st _ _ p λo q=>k _ _ (.inl rfl) q,⟨o,k _ _ (.inl rfl) e⟩,st⟩
theorem HOk.lt (x:HOk P w H h) (e:H a=ae o):a<h.objs.size:=(x a o e).lt
theorem HOk.fresh (x:HOk P w H h) (e:h.objs.size≤a):H a=none:=by
 cases q:H a with
 |none=>rfl
 |some u=>exact absurd (bJ (x.lt q) e) (cp _)
theorem HOk.kept (x:HOk P w H h) (k:∀b u,h.get? b=ae u→h'.get? b=ae u):HOk P w H h':=λa o e=>
 (x a o e).stay (λb u _ q=>k b u q) (λ_ q=>q) λ_ _ q=>q
theorem HOk.laid (x:HOk P w H h) (k:∀b u,h.get? b=ae u→h'.get? b=ae u) (hp:h.objs.size≤a) (new:ObjOk P w (upd H a o) h' a o):HOk P w (upd H a o) h':=λb u e=>by
 have hn:=x.fresh hp;by_cases hb:b=a
 ·subst hb;rw[zaA]at e;cases e;exact new
 ·rw[zaB hb]at e;exact(x b u e).stay (λc v _ q=>k c v q) (λc q=>by rw[zaB (zas q hn)];exact q) λc xs q=>by rw[zaB (zas q hn)];exact q
end
def Rd (H:Hp) (a:Addr) (u:HO):Prop:=H a=ae u∨ ∃o,H a=ae (.frz o u)
theorem Rd.ok{P:aF}{w:ax}{H:Hp}{h:Heap}{a:Addr}{u:HO}(r:Rd H a u) (x:HOk P w H h):ObjOk P w H h a u:=by
 rcases r with r |⟨o,r⟩
 ·exact x a u r
 ·obtain⟨_,q⟩:=x a _ r;exact q
noncomputable def Mut:Option HO→Prop
 |some (.lst _)=>True
 |some (.dK _)=>True
 |some (.dT _)=>True
 |some (.set _ _)=>True
 |some (.ins _ _ _)=>True
 |some (.ext _)=>True
 |_=>False
section
variable {P:aF}{w:ax}{H:Hp}{h h':Heap}{x e:Addr}{o':HO}
theorem HOk.write (ok:HOk P w H h) (mu:Mut (H x)) (he:e=x∨H e=ae (.own x)) (k:∀b u,b≠e→h.get? b=ae u→h'.get? b=ae u) (heo:∃u,h'.get? e=ae u)
  (new:ObjOk P w (upd H x o') h' x o'):HOk P w (upd H x o') h':=λb u q=>by
 have nown:∀c y,H c=ae (.own y)→c≠x:=λc y r z=>by subst z;rw[r]at mu;exact mu
 have ntup:∀c xs,H c=ae (.tup xs)→c≠x:=λc xs r z=>by subst z;rw[r]at mu;exact mu
 by_cases hb:b=x
 ·subst hb;rw[zaA]at q;cases q;exact new
 ·rw[zaB hb]at q;by_cases hbe:b=e
  ·have q':H b=ae (.own x):=by
    rcases he with z |z
    ·exact absurd (hbe.trans z) hb
    ·rw[hbe];exact z
   rw[q]at q';cases q';obtain⟨v,hv⟩:=heo;exact⟨v,by rw[hbe];exact hv⟩
  ·refine(ok b u q).stay (λc v hc r=>k c v ?_ r) (λc r=>by rw[zaB (nown c b r)];exact r) λc xs r=>by rw[zaB (ntup c xs r)];exact r
   rcases hc with rfl |hc
   ·exact hbe
   ·rintro rfl;rcases he with z |z
    ·exact nown c b hc z
    ·rw[hc]at z;cases z;exact hb rfl
end
structure Un (fs ex:List Addr) (H H':Hp) (h h':Heap):Prop where
  keep:∀b o,h.get? b=ae o→H b=none→b∉fs→b∉ex→h'.get? b=ae o
  slot:∀b o,h.get? b=ae o→H b=none→b∈fs→b∉ex→ ∃sl,h'.get? b=ae { o with slots:=sl }
  free:∀b o,h.get? b=ae o→H b=none→b∉ex→H' b=none
  there:∀b o,h.get? b=ae o→b∉ex→ ∃o',h'.get? b=ae o'
  tups:∀b xs,H b=ae (.tup xs)→H' b=ae (.tup xs)
  frzs:∀b o u,H b=ae (.frz o u)→H' b=ae (.frz o u)
  tbls:∀b ps,H b=ae (.tbl ps)→ ∃more,H' b=ae (.tbl (ps++more))
section
variable {fs ex:List Addr}{H H1 H2:Hp}{h h1 h2 h':Heap}{a x e:Addr}{o:HO}
theorem Un.any (u:Un fs ex H H1 h h1) {b:Addr}{ob:Obj}(q:h.get? b=ae ob) (n:H b=none) (hx:b∉ex):∃sl,h1.get? b=ae { ob with slots:=sl }:=by
 by_cases hb:b∈fs
 ·exact u.slot b ob q n hb hx
 ·exact⟨ob.slots,u.keep b ob q n hb hx⟩
theorem Un.trans (a:Un fs ex H H1 h h1) (b:Un fs ex H1 H2 h1 h2):Un fs ex H H2 h h2 where
  keep:=λc ob q n hc hx=>b.keep c ob (a.keep c ob q n hc hx) (a.free c ob q n hx) hc hx
  slot:=λc ob q n hc hx=>by
    obtain⟨sl,e1⟩:=a.slot c ob q n hc hx;obtain⟨sl',e2⟩:=b.slot c _ e1 (a.free c ob q n hx) hc hx;exact⟨sl',e2⟩
  free:=λc ob q n hx=>by
    obtain⟨o',e1⟩:=a.there c ob q hx;exact b.free c o' e1 (a.free c ob q n hx) hx
  there:=λc ob q hx=>by
    obtain⟨o',e1⟩:=a.there c ob q hx;exact b.there c o' e1 hx
  tups:=λc xs q=>b.tups c xs (a.tups c xs q)
  frzs:=λc ob xs q=>b.frzs c ob xs (a.frzs c ob xs q)
  tbls:=λc ps q=>by
    obtain⟨m1,e1⟩:=a.tbls c ps q;obtain⟨m2,e2⟩:=b.tbls c _ e1;exact⟨m1++m2,by rw[e2,jX]⟩
theorem Un.kept (k:∀b u,h.get? b=ae u→h'.get? b=ae u):Un fs ex H H h h':=
 ⟨λb ob q _ _ _=>k b ob q,λb ob q _ _ _=>⟨ob.slots,k b ob q⟩,λ_ _ _ n _=>n,λb ob q _=>⟨ob,k b ob q⟩,λ_ _ q=>q,λ_ _ _ q=>q,λ_ ps q=>⟨#[],by rw[q];simp⟩⟩
theorem Un.refl:Un fs ex H H h h:=Un.kept λ_ _ q=>q
theorem Un.laid (k:∀b u,h.get? b=ae u→h'.get? b=ae u) (hp:h.objs.size≤a) (hn:H a=none):Un fs ex H (upd H a o) h h' where
  keep:=λb u q _ _ _=>k b u q
  slot:=λb u q _ _ _=>⟨u.slots,k b u q⟩
  free:=λb u q n _=>by rw[zaB (bx (bJ (aI q) hp))];exact n
  there:=λb u q _=>⟨u,k b u q⟩
  tups:=λb xs q=>by rw[zaB (zas q hn)];exact q
  frzs:=λb u xs q=>by rw[zaB (zas q hn)];exact q
  tbls:=λb ps q=>⟨#[],by rw[zaB (zas q hn),q];simp⟩
theorem Un.write (mu:Mut (H x)) (he:e=x∨H e=ae (.own x)) (k:∀b u,b≠e→h.get? b=ae u→h'.get? b=ae u) (heo:∃u,h'.get? e=ae u):Un fs ex H (upd H x o) h h':=by
 have hx:∀b,H b=none→b≠x:=λb n z=>by subst z;rw[n]at mu;exact mu
 have hb:∀b,H b=none→b≠e:=λb n z=>by
  subst z;rcases he with r |r
  ·exact hx b n r
  ·rw[n]at r;cases r
 have hm:∀b u,H b=ae u→ ¬Mut (ae u)→b≠x:=λb u q nm z=>by subst z;rw[q]at mu;exact nm mu
 refine⟨λb u q n _ _=>k b u (hb b n) q,λb u q n _ _=>⟨u.slots,k b u (hb b n) q⟩,λb u q n _=>by rw[zaB (hx b n)];exact n,λb u q _=>?_,
  λb xs q=>by rw[zaB (hm b _ q λz=>z)];exact q,λb u xs q=>by rw[zaB (hm b _ q λz=>z)];exact q,λb ps q=>⟨#[],by rw[zaB (hm b _ q λz=>z),q];simp⟩⟩
 by_cases hbe:b=e
 ·subst hbe;exact heo
 ·exact⟨u,k b u hbe q⟩
end
noncomputable def trk (h:Heap) (H:Hp):List Addr:=(aO h.objs.size).filter λa=>(H a).isSome
noncomputable def zrk (h:Heap) (H:Hp):Heap:=cW h (trk h H)
theorem zoi (h:Heap) (H:Hp):(zrk h H).objs.size=h.objs.size:=PySem.W.hideAll_size _ _
theorem zqJ{h:Heap}{H:Hp}{b:Addr}{o:Obj}(e:h.get? b=ae o) (n:H b=none):(zrk h H).get? b=ae o:=
 fx _ e λhm=>by
  have q:(H b).isSome=true:=(gi.mp hm).2;rw[n]at q;simp at q
theorem ztK{h:Heap}{H:Hp}{b:Addr}{o:Obj}(e:(zrk h H).get? b=ae o):h.get? b=ae o∧H b=none:=by
 have e':h.get? b=ae o:=fv (trk h H) e;refine⟨e',?_⟩;cases q:H b with
 |none=>rfl
 |some x=>
  have hm:b∈trk h H:=gi.mpr ⟨eM.mpr (aI e'),by simp [q]⟩
  have z:(zrk h H).get? b=none:=dw (trk h H) hm;rw[z]at e;cases e
noncomputable def zsO (g h:Heap) (L:Addr):List (Addr×Obj):=(aO h.objs.size).filterMap λa=>if a=L∨(g.get? a).isSome=true then none else(h.get? a).map λo=>(a,o)
noncomputable def rest (g h:Heap) (L d:Addr):List (Addr×Obj):=(zsO g h L).filter λp=>decide (p.1≠d)
structure Mod (K:ai) (mg:Str→Option Value) (base:Heap):Prop where
  kin:K.In base
  glob:base.Ns aL mg
  blt:∃mb,base.Ns ir mb∧ ∀x:Str,x≠ "__name__" →mb x=bW x
  nolimit:base.NoLimit
structure Cx where
  prog:aF
  w:ax
  K:ai
  mg:Str→Option Value
  base:Heap
  A:aM
  N:List Str
  s₀:ah
  H₀:Hp
  env:bw
  outer:List bw
  stack:List bw
  ex:List Addr
  fn:Str→Bool
  calm:Bool
  pn:List (Addr×Obj)
  xe:Value→ah→Prop
noncomputable def frs (l:List bw):List Addr:=l.filterMap (·.frame)
noncomputable abbrev Cx.fs (X:Cx):List Addr:=frs X.outer
def Vis (sc:Scope) (x:Str):Prop:=sc.names.lookup x=ae .local∨sc.names.lookup x=ae .cell∨sc.names.lookup x=ae .free
def Loc (sc:Scope) (x:Str):Prop:=sc.names.lookup x=ae .local∨sc.names.lookup x=ae .cell
def zAn (env:bw) (h:Heap) (m:Str→Option Value) (x:Str) (u:Value):Prop:=
 (env.kindOf x=ae .local∧m x=ae u)∨((env.kindOf x=ae .cell∨env.kindOf x=ae .free)∧ ∃c,env.cells.lookup x=ae c∧h.IsCell c (ae u))
structure Cx.Ok (X:Cx):Prop where
  mod:Mod X.K X.mg X.base
  kind:X.env.scope.kind= .function
  glob:X.env.globals=aL
  blt:X.env.builtins=ir
  above:X.s₀.heap.objs.size≤X.env.locals
  inj:∀x y c,X.env.cells.lookup x=ae c→X.env.cells.lookup y=ae c→x=y
  has:∀x,(X.env.kindOf x=ae .cell∨X.env.kindOf x=ae .free)→ ∃c,X.env.cells.lookup x=ae c
  cab:∀x c,X.fn x=true→X.env.cells.lookup x=ae c→X.s₀.heap.objs.size≤c
  hd:X.calm=true→X.A.handled=none
  frames:X.A.frames=ae X.stack
  stk:X.stack=X.outer∨(X.stack=X.env::X.outer∧X.env.frame=ae X.env.locals)
  exf:∀b∈X.ex,b≠X.env.locals∧ ∀x c,X.env.cells.lookup x=ae c→c≠b
  bs:∀b o,X.base.get? b=ae o→X.s₀.heap.get? b=ae o∧X.H₀ b=none
  bsz:X.base.objs.size≤X.s₀.heap.objs.size
  noex:∀b o,X.base.get? b=ae o→b∉X.ex
  exfs:∀b∈X.ex,b∉X.fs
  funs:X.s₀.heap.FunFrames X.base X.outer
  frf:∀b∈X.fs,X.H₀ b=none
structure Inv (X:Cx) (pins:List (Addr×Obj)) (σ:List (Option V)) (H:Hp) (s:ah):Prop where
  ok:X.Ok
  os:s.os=X.s₀.os
  bare:bT s.gens
  base:Un X.fs X.ex X.H₀ H X.s₀.heap s.heap
  loc:∃m,s.heap.Ns X.env.locals m∧ ∀(i:Nat) (x:Str) (v:V),X.N[i]? =ae x→σ[i]? =ae (ae v)→Vis X.env.scope x→ ∃u,RelV v u∧zAn X.env s.heap m x u
  cell:∀x c,X.env.cells.lookup x=ae c→ ∃v,s.heap.IsCell c v
  free:H X.env.locals=none
  freeC:∀x c,X.env.cells.lookup x=ae c→H c=none
  pin:∀p∈X.pn++pins,s.heap.get? p.1=ae p.2∧H p.1=none∧p.1≠X.env.locals∧p.1∉X.fs∧ ∀v,p.2.data≠ .cell v
  hok:HOk X.prog X.w H s.heap
  len:σ.length=X.N.length
section
variable {X:Cx}{pins:List (Addr×Obj)}{σ:List (Option V)}{H H':Hp}{s:ah}{h':Heap}
theorem Cx.Ok.nofr (ok:X.Ok) {b:Addr}{o:Obj}(e:X.base.get? b=ae o):b∉X.fs:=λhb=>by
 have:=(ok.funs.mem hb).1;rw[e]at this;cases this
theorem Inv.bs (I:Inv X pins σ H s):∀b o,X.base.get? b=ae o→s.heap.get? b=ae o∧H b=none:=λb o e=>
 ⟨I.base.keep b o (I.ok.bs b o e).1 (I.ok.bs b o e).2 (I.ok.nofr e) (I.ok.noex b o e),I.base.free b o (I.ok.bs b o e).1 (I.ok.bs b o e).2 (I.ok.noex b o e)⟩
theorem Inv.bk (I:Inv X pins σ H s):∀b o,X.base.get? b=ae o→s.heap.get? b=ae o:=λb o e=>(I.bs b o e).1
theorem Inv.mod (I:Inv X pins σ H s):Mod X.K X.mg X.base:=I.ok.mod
theorem Inv.kIn (I:Inv X pins σ H s):X.K.In s.heap:=I.ok.mod.kin.keeps I.bk
theorem Inv.lt (I:Inv X pins σ H s):X.env.locals<s.heap.objs.size:=let ⟨_,hn,_⟩:=I.loc;hn.lt
theorem Inv.sz (I:Inv X pins σ H s):X.s₀.heap.objs.size≤s.heap.objs.size:=bM I.ok.above (gZ I.lt)
theorem Inv.nofs (I:Inv X pins σ H s) {a:Addr}(h:s.heap.objs.size≤a):a∉X.fs:=λhb=>by
 obtain⟨_,o,ho,_⟩:=I.ok.funs.mem hb;exact absurd (bJ (aI ho) (bM I.sz h)) (cp _)
theorem Inv.cne (I:Inv X pins σ H s):∀x c,X.env.cells.lookup x=ae c→c≠X.env.locals:=λx c e z=>by
 obtain⟨v,o,ho,hd⟩:=I.cell x c e;obtain⟨m,⟨o',es,ep,ho',hd',_⟩,_⟩:=I.loc;rw[z,ho']at ho;cases ho;rw[hd']at hd;cases hd
theorem Inv.funs (I:Inv X pins σ H s):s.heap.FunFrames X.base X.outer:=by
 have all:∀(l:List bw),(∀b∈frs l,b∈X.fs)→X.s₀.heap.FunFrames X.base l→s.heap.FunFrames X.base l:=by
  intro l
  induction l with
  |nil=>intro _ _;trivial
  |cons env r ih=>
   intro hs hl;obtain⟨hk,⟨L,o,hf,hn,ho,hd⟩,hr⟩:=hl;have hL:L∈X.fs:=hs L (by unfold frs;rw[fW,hf];exact aN);obtain⟨sl,e⟩:=I.base.slot L o ho (I.ok.frf L hL) hL λz=>I.ok.exfs L z hL;exact⟨hk,⟨L,_,hf,hn,e,hd⟩,ih (λb hb=>hs b (by unfold frs;rw[fW,hf];exact aH _ hb)) hr⟩
 exact all X.outer (λ_ hb=>hb) I.ok.funs
theorem Inv.stack (I:Inv X pins σ H s):s.heap.FunFrames X.base X.stack:=by
 rcases I.ok.stk with e |⟨e,hf⟩
 ·rw[e];exact I.funs
 ·rw[e];obtain⟨m,hn,_⟩:=I.loc;refine .cons (by rw[I.ok.kind];decide) hf hn ?_ I.funs;exact Heap.get?_none_of_le (bM I.ok.bsz I.ok.above)
theorem Inv.stkSub (I:Inv X pins σ H s):∀b∈frs X.stack,b∈X.env.locals::X.fs:=λb hb=>by
 rcases I.ok.stk with e |⟨e,hf⟩
 ·rw[e]at hb;exact aH _ hb
 ·rw[e]at hb;unfold frs at hb;rw[fW,hf]at hb;exact hb
theorem Inv.stkFree (I:Inv X pins σ H s):∀b∈frs X.stack,H b=none:=λb hb=>by
 rcases av.mp (I.stkSub b hb) with e |hb
 ·rw[e];exact I.free
 ·obtain⟨_,o,ho,_⟩:=I.ok.funs.mem hb;exact I.base.free b o ho (I.ok.frf b hb) λz=>I.ok.exfs b z hb
theorem Inv.step{g':Array ij}{t':Nat}{d':Drawn}{ch:List Addr}(I:Inv X pins σ H s)
  (hch:∀b∈ch,(b∈X.ex∨X.s₀.heap.objs.size≤b)∧b≠X.env.locals∧(∀x c,X.env.cells.lookup x=ae c→c≠b)∧ ∀p∈X.pn++pins,p.1≠b)
  (keep:∀b o,b≠X.env.locals→b∉X.fs→b∉ch→s.heap.get? b=ae o→H b=none→h'.get? b=ae o)
  (slot:∀b o,b≠X.env.locals→b∈X.fs→b∉ch→s.heap.get? b=ae o→H b=none→ ∃sl,h'.get? b=ae { o with slots:=sl }) (free:∀b o,b∉ch→s.heap.get? b=ae o→H b=none→H' b=none)
  (there:∀b o,b∉ch→s.heap.get? b=ae o→ ∃o',h'.get? b=ae o')
  (tups:∀b xs,H b=ae (.tup xs)→H' b=ae (.tup xs)) (frzs:∀b o u,H b=ae (.frz o u)→H' b=ae (.frz o u)) (tbls:∀b ps,H b=ae (.tbl ps)→ ∃more,H' b=ae (.tbl (ps++more)))
  (ns:∀m,s.heap.Ns X.env.locals m→h'.Ns X.env.locals m) (hok:HOk X.prog X.w H' h') (hg:bT g') :
  Inv X pins σ H' { s with heap:=h',gens:=g',drawn:=d',toks:=t' }:=by
 have neL:∀b o,X.s₀.heap.get? b=ae o→b≠X.env.locals:=λb o e=>bx (bJ (aI e) I.ok.above);have neC:∀b o,X.s₀.heap.get? b=ae o→b∉X.ex→b∉ch:=λb o e hx hb=>by
  rcases(hch b hb).1 with z |z
  ·exact hx z
  ·exact absurd (bJ (aI e) z) (cp _)
 have cellK:∀x c,X.env.cells.lookup x=ae c→ ∀v,s.heap.IsCell c v→h'.IsCell c v:=λx c e v ⟨o,ho,hd⟩=>by
  have nch:c∉ch:=λz=>(hch c z).2.2.1 x c e rfl;by_cases hc:c∈X.fs
  ·obtain⟨sl,q⟩:=slot c o (I.cne x c e) hc nch ho (I.freeC x c e);exact⟨_,q,hd⟩
  ·exact⟨o,keep c o (I.cne x c e) hc nch ho (I.freeC x c e),hd⟩
 refine⟨I.ok,I.os,hg,⟨λb o e n hb hx=>?_,λb o e n hb hx=>?_,λb o e n hx=>?_,λb o e hx=>?_,λb xs e=>tups b xs (I.base.tups b xs e),λb o xs e=>frzs b o xs (I.base.frzs b o xs e),λb ps e=>?_⟩,?_,λx c e=>?_,?_,λx c e=>?_,λp hp=>?_,hok,I.len⟩
 ·exact keep b o (neL b o e) hb (neC b o e hx) (I.base.keep b o e n hb hx) (I.base.free b o e n hx)
 ·obtain⟨sl,e1⟩:=I.base.slot b o e n hb hx;obtain⟨sl',e2⟩:=slot b _ (neL b o e) hb (neC b o e hx) e1 (I.base.free b o e n hx);exact⟨sl',e2⟩
 ·obtain⟨o',e1⟩:=I.base.there b o e hx;exact free b o' (neC b o e hx) e1 (I.base.free b o e n hx)
 ·obtain⟨o',e1⟩:=I.base.there b o e hx;exact there b o' (neC b o e hx) e1
 ·obtain⟨m1,e1⟩:=I.base.tbls b ps e;obtain⟨m2,e2⟩:=tbls b _ e1;exact⟨m1++m2,by rw[e2,jX]⟩
 ·obtain⟨m,hn,hl⟩:=I.loc;refine⟨m,ns m hn,λi x v e1 e2 e3=>?_⟩;obtain⟨u,r,l⟩:=hl i x v e1 e2 e3;refine⟨u,r,?_⟩;rcases l with l |⟨k,c,e,z⟩
  ·exact .inl l
  ·exact .inr ⟨k,c,e,cellK x c e _ z⟩
 ·obtain⟨v,z⟩:=I.cell x c e;exact⟨v,cellK x c e v z⟩
 ·obtain⟨m,⟨o,_,_,ho,_⟩,_⟩:=I.loc;exact free _ o (λz=>(hch _ z).2.1 rfl) ho I.free
 ·obtain⟨v,o,ho,hd⟩:=I.cell x c e;exact free c o (λz=>(hch c z).2.2.1 x c e rfl) ho (I.freeC x c e)
 ·obtain⟨e,n,ne,nf,d⟩:=I.pin p hp;have nch:p.1∉ch:=λz=>(hch p.1 z).2.2.2 p hp rfl;exact⟨keep p.1 p.2 ne nf nch e n,free p.1 p.2 nch e n,ne,nf,d⟩
theorem Inv.un{t':Nat}(I:Inv X pins σ H s) (u:Un X.fs [] H H' s.heap h') (hok:HOk X.prog X.w H' h'):Inv X pins σ H' { s with heap:=h',toks:=t' }:=by
 obtain⟨m,⟨o,es,ep,ho,r⟩,_⟩:=id I.loc;obtain⟨sl,hL⟩:=u.any ho I.free (by simp);exact I.step (g':=s.gens) (d':=s.drawn) (ch:=[]) (λ_ z=>nomatch z) (λb o _ hb _ e n=>u.keep b o e n hb (by simp)) (λb o _ hb _ e n=>u.slot b o e n hb (by simp)) (λb o _ e n=>u.free b o e n (by simp)) (λb o _ e=>u.there b o e (by simp)) u.tups u.frzs u.tbls (λm' hm=>by
  obtain⟨o',es',ep',ho',r'⟩:=hm;rw[ho]at ho';cases ho';exact⟨_,es',ep',hL,r'⟩) hok I.bare
theorem Inv.call{g':Array ij}{t':Nat}{d':Drawn}{ch:List Addr}(I:Inv X pins σ H s) (u:Un (frs X.stack) ch H H' s.heap h') (hok:HOk X.prog X.w H' h') (hg:bT g')
  (hch:∀b∈ch,(b∈X.ex∨X.s₀.heap.objs.size≤b)∧b≠X.env.locals∧(∀x c,X.env.cells.lookup x=ae c→c≠b)∧ ∀p∈X.pn++pins,p.1≠b) :
  Inv X pins σ H' { s with heap:=h',gens:=g',drawn:=d',toks:=t' }:=by
 obtain⟨m,⟨o,es,ep,ho,r⟩,_⟩:=id I.loc;obtain⟨sl,hL⟩:=u.any ho I.free λz=>(hch _ z).2.1 rfl;exact I.step (ch:=ch) hch (λb o hL hb hc e n=>u.keep b o e n (λz=>(av.mp (I.stkSub b z)).elim hL hb) hc) (λb o _ _ hc e n=>u.any e n hc) (λb o hc e n=>u.free b o e n hc) (λb o hc e=>u.there b o e hc) u.tups u.frzs u.tbls (λm' hm=>by
  obtain⟨o',es',ep',ho',r'⟩:=hm;rw[ho]at ho';cases ho';exact⟨_,es',ep',hL,r'⟩) hok hg
theorem Inv.turned{t':Nat}{it:Addr}(I:Inv X pins σ H s) (k:∀b o,b≠it→s.heap.get? b=ae o→h'.get? b=ae o) (hn:H it=none) (hL:it≠X.env.locals)
  (h1:it∈X.ex∨X.s₀.heap.objs.size≤it) (h2:∀x c,X.env.cells.lookup x=ae c→c≠it) (h3:∀p∈X.pn++pins,p.1≠it):Inv X pins σ H { s with heap:=h',toks:=t' }:=by
 have nit:∀b u,H b=ae u→b≠it:=λb u e z=>by rw[z,hn]at e;cases e
 refine I.step (g':=s.gens) (d':=s.drawn) (ch:=[it]) (λb hb=>?_) (λb o _ _ hc e _=>k b o (λz=>hc (by simp [z])) e) (λb o _ _ hc e _=>⟨o.slots,k b o (λz=>hc (by simp [z])) e⟩) (λ_ _ _ _ n=>n)
  (λb o hc e=>⟨o,k b o (λz=>hc (by simp [z])) e⟩) (λ_ _ e=>e) (λ_ _ _ e=>e) (λb ps e=>⟨#[],by rw[e];simp⟩) (λm hm=>?_) (λb u e=>?_) I.bare
 ·have e:b=it:=by simpa using hb
  subst e;exact⟨h1,hL,h2,h3⟩
 ·obtain⟨o,es,ep,ho,r⟩:=hm;exact⟨o,es,ep,k _ o (bg hL) ho,r⟩
 ·refine(I.hok b u e).stay (λc v hc q=>k c v ?_ q) (λ_ q=>q) λ_ _ q=>q;rcases hc with z |z
  ·rw[z];exact nit b u e
  ·exact nit c _ z
theorem Inv.tok (I:Inv X pins σ H s) (t:Nat):Inv X pins σ H { s with toks:=t }:=I.un (h':=s.heap) (t':=t) Un.refl I.hok
theorem Inv.kept{t':Nat}(I:Inv X pins σ H s) (k:∀b u,s.heap.get? b=ae u→h'.get? b=ae u):Inv X pins σ H { s with heap:=h',toks:=t' }:=I.un (Un.kept k) (I.hok.kept k)
theorem Inv.laid{a:Addr}{o:HO}{t':Nat}(I:Inv X pins σ H s) (k:∀b u,s.heap.get? b=ae u→h'.get? b=ae u) (hp:s.heap.objs.size≤a) (new:ObjOk X.prog X.w (upd H a o) h' a o) :
  Inv X pins σ (upd H a o) { s with heap:=h',toks:=t' }:=I.un (Un.laid k hp (I.hok.fresh hp)) (I.hok.laid k hp new)
theorem Inv.write{x e:Addr}{o:HO}{t':Nat}(I:Inv X pins σ H s) (mu:Mut (H x)) (he:e=x∨H e=ae (.own x)) (k:∀b u,b≠e→s.heap.get? b=ae u→h'.get? b=ae u) (heo:∃u,h'.get? e=ae u)
  (new:ObjOk X.prog X.w (upd H x o) h' x o):Inv X pins σ (upd H x o) { s with heap:=h',toks:=t' }:=I.un (Un.write mu he k heo) (I.hok.write mu he k heo new)
theorem Inv.pins_of{pins':List (Addr×Obj)}(I:Inv X pins σ H s) (h:∀p∈pins',s.heap.get? p.1=ae p.2∧H p.1=none∧p.1≠X.env.locals∧p.1∉X.fs∧ ∀v,p.2.data≠ .cell v):Inv X pins' σ H s:=
 ⟨I.ok,I.os,I.bare,I.base,I.loc,I.cell,I.free,I.freeC,λp hp=>(bb.mp hp).elim (λz=>I.pin p (dj _ z)) (h p),I.hok,I.len⟩
theorem zhQ{N:List Str}(hN:N.Nodup) {i j:Nat}{x:Str}(a:N[i]? =ae x) (b:N[j]? =ae x):i=j:=by
 obtain⟨h1,e1⟩:=bL.mp a;obtain⟨h2,e2⟩:=bL.mp b;exact(List.getElem_inj hN).mp (e1.trans e2.symm)
theorem zjd{M:c6}{A:aM}{E:Value→ah→Prop}{i:Nat}{x:Str}{v:V}{u:Value}{Q:Unit→ah→Prop}(I:Inv X pins σ H s) (hN:X.N.Nodup) (hi:X.N[i]? =ae x) (hx:Loc X.env.scope x) (r:RelV v u)
  (h:∀s',Inv X pins (σ.set i (ae v)) H s'→(∃a,cj a s.heap s'.heap∧(a=X.env.locals∨X.env.cells.lookup x=ae a))→Q () s') (hf:X.fn x=true∨X.env.scope.names.lookup x=ae .local:=by first |exact .inl rfl |exact .inr rfl |assumption):am M A (iy X.env x u) Q E s:=by
 obtain⟨m,hn,hl⟩:=id I.loc;have hcls:(X.env.scope.kind == .class || (X.env.scope.kind == .module&&X.env.locals != X.env.globals))=false:=by rw[I.ok.kind];rfl
 have hiσ:i<σ.length:=by rw[I.len];exact(bL.mp hi).1
 have cne:=I.cne;have tracked:∀{a:Addr}{h':Heap},(∃o,s.heap.get? a=ae o∧H a=none)→cj a s.heap h'→HOk X.prog X.w H h':=λ{a h'} ha hs b ob e=>by
  obtain⟨_,_,hfree⟩:=ha;refine(I.hok b ob e).stay (λc w' hc q=>(hs.2 c ?_).trans q) (λ_ q=>q) λ_ _ q=>q;rintro rfl;rcases hc with rfl |hc
  ·rw[hfree]at e;cases e
  ·rw[hfree]at hc;cases hc
 rcases hx with hk |hk
 ·refine wpAny_storeName_local hk hn (λh' hn' hs=>?_) hcls;obtain⟨oL,_,_,hoL,_⟩:=id hn;refine h _ ⟨I.ok,I.os,I.bare,⟨λb o e n hb hx=>?_,λb o e n hb hx=>?_,I.base.free,λb o e hx=>?_,I.base.tups,I.base.frzs,I.base.tbls⟩,⟨_,hn',λj y v' e1 e2 e3=>?_⟩,λy c e=>?_,I.free,I.freeC,λp hp=>?_,tracked ⟨oL,hoL,I.free⟩ hs,by simpa using I.len⟩ ⟨_,hs, .inl rfl⟩
  ·exact(hs.2 b (bx (bJ (aI e) I.ok.above))).trans (I.base.keep b o e n hb hx)
  ·obtain⟨sl,e1⟩:=I.base.slot b o e n hb hx;exact⟨sl,(hs.2 b (bx (bJ (aI e) I.ok.above))).trans e1⟩
  ·obtain⟨o',e1⟩:=I.base.there b o e hx;exact⟨o',(hs.2 b (bx (bJ (aI e) I.ok.above))).trans e1⟩
  ·by_cases hj:j=i
   ·subst hj;rw[hi]at e1;cases e1;rw[gI hiσ]at e2;cases e2;exact⟨u,r, .inl ⟨hk,by simp⟩⟩
   ·rw[iz (bg hj)]at e2;obtain⟨u',r',q⟩:=hl j y v' e1 e2 e3;refine⟨u',r',?_⟩;rcases q with⟨k,e⟩ |⟨k,c,e,z⟩
    ·refine .inl ⟨k,?_⟩;have:y≠x:=λe=>hj (zhQ hN e1 (e▸hi));simp [this,e]
    ·exact .inr ⟨k,c,e,z.sameBut hs (cne y c e)⟩
  ·obtain⟨w',z⟩:=I.cell y c e;exact⟨w',z.sameBut hs (cne y c e)⟩
  ·obtain⟨e,n,ne,nf,d⟩:=I.pin p hp;exact⟨(hs.2 p.1 ne).trans e,n,ne,nf,d⟩
 ·have hfn:X.fn x=true:=by
   rcases hf with z |z
   ·exact z
   ·rw[z]at hk;cases hk
  obtain⟨c,hc⟩:=I.ok.has x (.inl hk);obtain⟨w',z⟩:=I.cell x c hc;refine wpAny_storeName_cell I.ok.kind hk hc z (λh' hc' hs=>?_);obtain⟨oc,hoc,hocd⟩:=id z;refine h { s with heap:=h' } ⟨I.ok,I.os,I.bare,⟨λb o e n hb hx=>?_,λb o e n hb hx=>?_,I.base.free,λb o e hx=>?_,I.base.tups,I.base.frzs,I.base.tbls⟩,⟨m,hn.sameBut hs (bg (cne x c hc)),λj y v' e1 e2 e3=>?_⟩,λy c' e=>?_,I.free,I.freeC,λp hp=>?_,tracked ⟨oc,hoc,I.freeC x c hc⟩ hs,by simpa using I.len⟩ ⟨c,hs, .inr hc⟩
  ·exact(hs.2 b (bx (bJ (aI e) (I.ok.cab x c hfn hc)))).trans (I.base.keep b o e n hb hx)
  ·obtain⟨sl,e1⟩:=I.base.slot b o e n hb hx;exact⟨sl,(hs.2 b (bx (bJ (aI e) (I.ok.cab x c hfn hc)))).trans e1⟩
  ·obtain⟨o',e1⟩:=I.base.there b o e hx;exact⟨o',(hs.2 b (bx (bJ (aI e) (I.ok.cab x c hfn hc)))).trans e1⟩
  ·by_cases hj:j=i
   ·subst hj;rw[hi]at e1;cases e1;rw[gI hiσ]at e2;cases e2;exact⟨u,r, .inr ⟨.inl hk,c,hc,hc'⟩⟩
   ·rw[iz (bg hj)]at e2;obtain⟨u',r',q⟩:=hl j y v' e1 e2 e3;refine⟨u',r',?_⟩;rcases q with q |⟨k,c',e,z'⟩
    ·exact .inl q
    ·refine .inr ⟨k,c',e,z'.sameBut hs ?_⟩;rintro rfl;exact hj (zhQ hN e1 (I.ok.inj _ _ _ e hc▸hi))
  ·by_cases hcc:c'=c
   ·subst hcc;exact⟨_,hc'⟩
   ·obtain⟨w2,z2⟩:=I.cell y c' e;exact⟨w2,z2.sameBut hs hcc⟩
  ·obtain⟨e,n,ne,nf,d⟩:=I.pin p hp;refine⟨(hs.2 p.1 ?_).trans e,n,ne,nf,d⟩;intro q;rw[q,hoc]at e;have q':oc=p.2:=aG e;exact d w' (by rw[←q'];exact hocd)
theorem zfM{M:c6}{A:aM}{E:Value→ah→Prop}{i:Nat}{x:Str}{v:V}{u:Value}{Q:Unit→ah→Prop}(I:Inv X pins σ H s) (hN:X.N.Nodup) (hi:X.N[i]? =ae x) (hx:Loc X.env.scope x) (r:RelV v u)
  (h:∀s',Inv X pins (σ.set i (ae v)) H s'→Q () s') (hf:X.fn x=true∨X.env.scope.names.lookup x=ae .local:=by first |exact .inl rfl |exact .inr rfl |assumption):am M A (iy X.env x u) Q E s:=
 zjd I hN hi hx r (λs' I' _=>h s' I') hf
theorem Inv.call'{s':ah}{ch:List Addr}(I:Inv X pins σ H s) (ho:s'.os=s.os) (u:Un (frs X.stack) ch H H' s.heap s'.heap) (hok:HOk X.prog X.w H' s'.heap) (hg:bT s'.gens)
  (hch:∀b∈ch,(b∈X.ex∨X.s₀.heap.objs.size≤b)∧b≠X.env.locals∧(∀x c,X.env.cells.lookup x=ae c→c≠b)∧ ∀p∈X.pn++pins,p.1≠b):Inv X pins σ H' s':=by
 obtain⟨h',g',d',t',o'⟩:=s';have e:o'=s.os:=ho;subst e;exact I.call (g':=g') (t':=t') (d':=d') u hok hg hch
end
abbrev XK:=Value→Option Addr→Hp→Prop
abbrev St:=List (Option V)
abbrev VK:=V→Hp→Prop
abbrev TE:=St→Hp→VK→Prop
abbrev TT:=St→Hp→(Bool→Hp→Prop)→Prop
abbrev TA:=St→Hp→(List V→Hp→Prop)→Prop
structure Ends where
  nx:St→Hp→Prop
  rt:VK
  bk:St→Hp→Prop:=λ_ _=>False
  ct:St→Hp→Prop:=λ_ _=>False
abbrev TS:=Ends→St→Hp→Prop
def EP (X:Cx) (pins:List (Addr×Obj)) (σ:St) (Q:VK) (u:Value) (s':ah):Prop:=∃v H',Inv X pins σ H' s'∧RelV v u∧Q v H'
def TP (X:Cx) (pins:List (Addr×Obj)) (σ:St) (Q:Bool→Hp→Prop) (b:Bool) (s':ah):Prop:=∃H',Inv X pins σ H' s'∧Q b H'
def AP (X:Cx) (pins:List (Addr×Obj)) (σ:St) (Q:List V→Hp→Prop) (us:List Value) (s':ah):Prop:=∃vs H',Inv X pins σ H' s'∧Vals vs us∧Q vs H'
def SP (X:Cx) (pins:List (Addr×Obj)) (D:Ends) (f:Flow) (s':ah):Prop:=
 match f with
 | .next=>∃σ' H',Inv X pins σ' H' s'∧D.nx σ' H'
 | .brk=>∃σ' H',Inv X pins σ' H' s'∧D.bk σ' H'
 | .cont=>∃σ' H',Inv X pins σ' H' s'∧D.ct σ' H'
 | .ret u=>∃v σ' H',Inv X pins σ' H' s'∧RelV v u∧D.rt v H'
def PE (X:Cx) (e:Expr) (t:TE):Prop:=
 ∀(pins:List (Addr×Obj)) (s:ah) (σ:St) (H:Hp) (Q:VK),Inv X pins σ H s→t σ H Q→am (ap X.prog X.w) X.A (au e X.env) (EP X pins σ Q) X.xe s
def PT (X:Cx) (e:Expr) (t:TT):Prop:=
 ∀(pins:List (Addr×Obj)) (s:ah) (σ:St) (H:Hp) (Q:Bool→Hp→Prop),Inv X pins σ H s→t σ H Q→am (ap X.prog X.w) X.A (isTrue e X.env (au e X.env)) (TP X pins σ Q) X.xe s
def PW (X:Cx) (e:Expr) (t:TT):Prop:=
 ∀(whole:b7 Value) (pins:List (Addr×Obj)) (s:ah) (σ:St) (H:Hp) (Q:Bool→Hp→Prop),Inv X pins σ H s→t σ H Q→am (ap X.prog X.w) X.A (isTrue e X.env whole) (TP X pins σ Q) X.xe s
theorem PW.pt{X:Cx}{e:Expr}{t:TT}(h:PW X e t):PT X e t:=h _
def PA (X:Cx) (es:List Expr) (t:TA):Prop:=
 ∀(pos:ay) (pins:List (Addr×Obj)) (s:ah) (σ:St) (H:Hp) (Q:List V→Hp→Prop),Inv X pins σ H s→t σ H Q→am (ap X.prog X.w) X.A (spliced (aP pos (ao es X.env))) (AP X pins σ Q) X.xe s
def PS (X:Cx) (st:Stmt) (t:TS):Prop:=
 ∀(pins:List (Addr×Obj)) (s:ah) (σ:St) (H:Hp) (D:Ends),Inv X pins σ H s→t D σ H→am (ap X.prog X.w) X.A (exec st X.env) (SP X pins D) X.xe s
def PSs (X:Cx) (st:List Stmt) (t:TS):Prop:=
 ∀(pins:List (Addr×Obj)) (s:ah) (σ:St) (H:Hp) (D:Ends),Inv X pins σ H s→t D σ H→am (ap X.prog X.w) X.A (execs st X.env) (SP X pins D) X.xe s
theorem thn{α:Type}{t:b7 α}{Q Q':α→ah→Prop}{M:c6}{A:aM}{E:Value→ah→Prop}{s:ah}(h:am M A t Q E s) (hQ:∀a s,Q a s→Q' a s):am M A t Q' E s:=b3 h hQ λ_ _ x=>x
section
variable {X:Cx}
noncomputable def zzv (i:Nat):TE:=λσ H Q=>∃v,σ[i]? =ae (ae v)∧Q v H
noncomputable def tC (v:V):TE:=λ_ H Q=>Q v H
theorem zny{i:Nat}{x:Str}{pos:ay}(hN:X.N[i]? =ae x) (hv:Vis X.env.scope x) (hd:(x == ("__debug__" :Str))=false:=by decide) (hcd:(x == ("__classdict__" :Str))=false:=by decide):PE X (.Name x pos) (zzv i):=by
 intro pins s σ H Q I h;obtain⟨v,e,h⟩:=h;obtain⟨m,hn,hl⟩:=I.loc;obtain⟨u,r,l⟩:=hl i x v hN e hv;have fin:EP X pins σ Q u s:=⟨v,H,I,r,h⟩;rcases l with⟨hk,hm⟩ |⟨hk,c,hc,hcell⟩
 ·exact gG (kZ I.ok.kind hk hn hm fin) hd
 ·rcases hk with hk |hk
  ·exact gG (kl I.ok.kind hk hc hcell fin) hd
  ·exact gG (wpAny_loadName_free I.ok.kind hk hc hcell fin hcd) hd
theorem zvE{i j pos}:PE X (.Constant (.int i) j pos) (tC (.int i)):=λ_ _ _ H _ I h=>wpAny_Constant_int ⟨.int i,H,I.tok _,⟨_,rfl⟩,h⟩
theorem zzp{b j pos}:PE X (.Constant (.bool b) j pos) (tC (.bl b)):=λ_ _ _ H _ I h=>Constant_bool ⟨.bl b,H,I,rfl,h⟩
theorem zxb{j pos}:PE X (.Constant .none j pos) (tC .non):=λ_ _ _ H _ I h=>Constant_none ⟨.non,H,I,rfl,h⟩
theorem zvq{x j pos}:PE X (.Constant (.str x) j pos) (tC (.str x)):=λ_ _ _ H _ I h=>Calls.Constant_str ⟨.str x,H,I.tok _,⟨_,rfl⟩,h⟩
def Gl (X:Cx) (x:Str):Prop:=X.env.kindOf x=ae .globalImplicit
theorem zgO{E:Value→ah→Prop}{pins:List (Addr×Obj)}{s:ah}{σ:St}{H:Hp}{x:Str}{u:Value}{pos:ay}{Q:Value→ah→Prop}(I:Inv X pins σ H s) (hg:Gl X x) (hm:X.mg x=ae u) (h:Q u s)
  (hd:(x == ("__debug__" :Str))=false:=by decide):am (ap X.prog X.w) X.A (au (.Name x pos) X.env) Q E s:=
 jb I.ok.kind hg (Calls.loadGlobal_global (by rw[I.ok.glob];exact I.mod.glob.keeps I.bk) hm h) hd
theorem zhu{E:Value→ah→Prop}{pins:List (Addr×Obj)}{s:ah}{σ:St}{H:Hp}{x:Str}{u:Value}{pos:ay}{Q:Value→ah→Prop}(I:Inv X pins σ H s) (hg:Gl X x) (hm:X.mg x=none) (hv:bW x=ae u) (h:Q u s)
  (hn:x≠ "__name__" :=by decide) (hd:(x == ("__debug__" :Str))=false:=by decide):am (ap X.prog X.w) X.A (au (.Name x pos) X.env) Q E s:=by
 obtain⟨mb,h1,h2⟩:=I.mod.blt;exact jb I.ok.kind hg (Calls.loadGlobal_builtin (by rw[I.ok.glob];exact I.mod.glob.keeps I.bk) hm (by rw[I.ok.blt];exact h1.keeps I.bk) ((h2 x hn).trans hv) h) hd
theorem zog{x:Str}{v:V}{u:Value}{pos:ay}(hg:Gl X x) (hm:X.mg x=ae u) (r:RelV v u) (hd:(x == ("__debug__" :Str))=false:=by decide):PE X (.Name x pos) (tC v):=
 λ_ _ _ H _ I h=>zgO I hg hm ⟨v,H,I,r,h⟩ hd
theorem zug{x:Str}{v:V}{u:Value}{pos:ay}(hg:Gl X x) (hm:X.mg x=none) (hv:bW x=ae u) (r:RelV v u) (hn:x≠ "__name__" :=by decide) (hd:(x == ("__debug__" :Str))=false:=by decide):PE X (.Name x pos) (tC v):=
 λ_ _ _ H _ I h=>zhu I hg hm hv ⟨v,H,I,r,h⟩ hn hd
variable {a b:Expr}{ta tb:TE}{pos:ay}
variable {tA tB':TT}{rest:List Expr}
noncomputable def zzR (t u:TT):TT:=λσ H Q=>t σ H λc H1=>if c=true then u σ H1 Q else Q false H1
noncomputable def tOr (t u:TT):TT:=λσ H Q=>t σ H λc H1=>if c=true then Q true H1 else u σ H1 Q
noncomputable def zAi (t:TT):TT:=λσ H Q=>t σ H λc H1=>Q (!c) H1
theorem zul (ha:PT X a tA):PW X (.BoolOp .And [a] pos) tA:=by
 intro wh pins s σ H Q I h;refine isTrue_and (thn (ha pins s σ H Q I h) λc s1 e=>?_);cases c with
 |true=>exact isTrue_and_nil e
 |false=>exact e
theorem zvt (ha:PT X a tA):PW X (.BoolOp .Or [a] pos) tA:=by
 intro wh pins s σ H Q I h;refine isTrue_or (thn (ha pins s σ H Q I h) λc s1 e=>?_);cases c with
 |false=>exact isTrue_or_nil e
 |true=>exact e
theorem zxK (ha:PT X a tA) (hb:PW X (.BoolOp .And (b::rest) pos) tB'):PW X (.BoolOp .And (a::b::rest) pos) (zzR tA tB'):=by
 intro wh pins s σ H Q I h;refine isTrue_and (thn (ha pins s σ H _ I h) λc s1 ⟨H1,I1,q1⟩=>?_);cases c with
 |true=>exact hb wh pins s1 σ H1 Q I1 q1
 |false=>exact⟨H1,I1,q1⟩
theorem zyj (ha:PT X a tA) (hb:PW X (.BoolOp .Or (b::rest) pos) tB'):PW X (.BoolOp .Or (a::b::rest) pos) (tOr tA tB'):=by
 intro wh pins s σ H Q I h;refine isTrue_or (thn (ha pins s σ H _ I h) λc s1 ⟨H1,I1,q1⟩=>?_);cases c with
 |true=>exact⟨H1,I1,q1⟩
 |false=>exact hb wh pins s1 σ H1 Q I1 q1
theorem zwA (ha:PT X a tA):PT X (.UnaryOp .Not a pos) (zAi tA):=by
 intro pins s σ H Q I h;exact isTrue_not (ha pins s σ H (λc H1=>Q (!c) H1) I h)
noncomputable def zyl (ta tb:TE):TE:=λσ H Q=>ta σ H λx H1=>∃c,x= .bl c∧if c=true then tb σ H1 Q else Q (.bl false) H1
theorem zxv{op}{t:TE}(h:PE X a t):PE X (.BoolOp op [a] pos) t:=λpins s σ H Q I hw=>BoolOp_one (h pins s σ H Q I hw)
theorem zwl (ha:PE X a ta) (hb:PE X (.BoolOp .And (b::rest) pos) tb):PE X (.BoolOp .And (a::b::rest) pos) (zyl ta tb):=by
 intro pins s σ H Q I h;refine BoolOp_and (thn (ha pins s σ H _ I h) λv s1 ⟨x,H1,I1,r1,q1⟩=>?_);obtain⟨c,rfl,q1⟩:=q1;cases r1;refine fG ?_;cases c with
 |true=>exact hb pins s1 σ H1 Q I1 q1
 |false=>exact⟨.bl false,H1,I1,rfl,q1⟩
noncomputable def tIf (t:TT) (ta tb:TE):TE:=λσ H Q=>t σ H λc H1=>if c=true then ta σ H1 Q else tb σ H1 Q
theorem zqc{c:Expr}(hc:PT X c tA) (ha:PE X a ta) (hb:PE X b tb):PE X (.IfExp c a b pos) (tIf tA ta tb):=by
 intro pins s σ H Q I h;refine wpAny_IfExp (thn (hc pins s σ H _ I h) λd s1 ⟨H1,I1,q1⟩=>?_);cases d with
 |true=>exact ha pins s1 σ H1 Q I1 q1
 |false=>exact hb pins s1 σ H1 Q I1 q1
end
def SqL (K:ai) (H:Hp) (a:Addr) (xs:List V):Prop:=
 Rd H a (.lst xs)∨
  ∃(o:Obj) (its:Array Value) (n:Nat),K.lookup a=ae o∧o.cls= .type "list" ∧o.dict=none∧o.data= .seq its n∧its.size≤sizeLine∧Vals xs its.toList
def SqT (K:ai) (H:Hp) (a:Addr) (xs:List V):Prop:=
 Rd H a (.tup xs)∨
  ∃(o:Obj) (its:Array Value) (n:Nat),K.lookup a=ae o∧o.cls= .type "tuple" ∧o.data= .seq its n∧its.size≤sizeLine∧Vals xs its.toList
noncomputable def zAf:Value→Option V
 | .none=>ae .non
 | .bool b=>ae (.bl b)
 | .int i _=>ae (.int i)
 | .str x _=>ae (.str x)
 | .bytes b _=>ae (.byt b)
 | .float b _=>ae (.flt b)
 | .ref a=>ae (.ref a)
 | .type n=>ae (.ty n)
 |_=>none
theorem RelV.abs{x:V}{u:Value}(r:RelV x u):zAf u=ae x:=by
 cases x with
 |non=>cases r;rfl
 |bl _=>cases r;rfl
 |int _=>obtain⟨t,rfl⟩:=r;rfl
 |str _=>obtain⟨t,rfl⟩:=r;rfl
 |byt _=>obtain⟨t,rfl⟩:=r;rfl
 |flt _=>obtain⟨t,rfl⟩:=r;rfl
 |ref _=>cases r;rfl
 |ty _=>cases r;rfl
theorem RelV.inj{x y:V}{u:Value}(r:RelV x u) (q:RelV y u):x=y:=aG (r.abs.symm.trans q.abs)
theorem Vals.inj:∀{xs ys:List V}{us:List Value},Vals xs us→Vals ys us→xs=ys
 |_,_,_, .nil, .nil=>rfl
 |_,_,_, .cons r t, .cons r' t'=>by rw[r.inj r',Vals.inj t t']
section
variable {X:Cx}{pins:List (Addr×Obj)}{σ:St}{H:Hp}{s:ah}{a:Addr}{xs ys:List V}
theorem SqL.of{K:ai}(h:H a=ae (.lst xs)):SqL K H a xs:= .inl (.inl h)
theorem SqT.of{K:ai}(h:H a=ae (.tup xs)):SqT K H a xs:= .inl (.inl h)
theorem Inv.list (I:Inv X pins σ H s) (h:SqL X.K H a xs):∃its:List Value,Vals xs its∧PlainL s.heap a its.toArray∧xs.length≤sizeLine:=by
 rcases h with h |⟨o,its,n,hk,hc,hd,hs,hz,r⟩
 ·obtain⟨z,its,n,r,e⟩:=h.ok I.hok;exact⟨its,r,⟨_,n,e,rfl,rfl,rfl⟩,z⟩
 ·refine⟨its.toList,r,⟨o,n,I.kIn a o hk,hc,hd,by simpa using hs⟩,?_⟩
  have e:=r.length;simp only[gJ]at e;omega
theorem Inv.tuple (I:Inv X pins σ H s) (h:SqT X.K H a xs):∃its:List Value,Vals xs its∧dM s.heap a its.toArray∧xs.length≤sizeLine:=by
 rcases h with h |⟨o,its,n,hk,hc,hs,hz,r⟩
 ·obtain⟨z,its,r,p⟩:=h.ok I.hok;exact⟨its,r,p,z⟩
 ·refine⟨its.toList,r,⟨o,I.kIn a o hk,hc,n,by simpa using hs⟩,?_⟩
  have e:=r.length;simp only[gJ]at e;omega
theorem Inv.list_inj (I:Inv X pins σ H s) (h:SqL X.K H a xs) (h':SqL X.K H a ys):xs=ys:=by
 obtain⟨its,r,⟨o,n,e,_,_,d⟩,_⟩:=I.list h;obtain⟨its',r',⟨o',n',e',_,_,d'⟩,_⟩:=I.list h';rw[e]at e';cases e';rw[d]at d';injection d' with d1 _;have:its=its':=by simpa using congrArg Array.toList d1
 subst this;exact r.inj r'
theorem Inv.tuple_inj (I:Inv X pins σ H s) (h:SqT X.K H a xs) (h':SqT X.K H a ys):xs=ys:=by
 obtain⟨its,r,⟨o,e,_,n,d⟩,_⟩:=I.tuple h;obtain⟨its',r',⟨o',e',_,n',d'⟩,_⟩:=I.tuple h';rw[e]at e';cases e';rw[d]at d';injection d' with d1 _;have:its=its':=by simpa using congrArg Array.toList d1
 subst this;exact r.inj r'
end
noncomputable abbrev Cx.wish (X:Cx) (E:Value→ah→Prop):Cx:={ X with xe:=E }
noncomputable abbrev Cx.nox (X:Cx):Cx:=X.wish λ_ _=>False
theorem Cx.Ok.wish{X:Cx}(ok:X.Ok) (E:Value→ah→Prop):(X.wish E).Ok:=
 ⟨ok.mod,ok.kind,ok.glob,ok.blt,ok.above,ok.inj,ok.has,ok.cab,ok.hd,ok.frames,ok.stk,ok.exf,ok.bs,ok.bsz,ok.noex,ok.exfs,ok.funs,ok.frf⟩
theorem Cx.Ok.unwish{X:Cx}{E:Value→ah→Prop}(ok:(X.wish E).Ok):X.Ok:=
 ⟨ok.mod,ok.kind,ok.glob,ok.blt,ok.above,ok.inj,ok.has,ok.cab,ok.hd,ok.frames,ok.stk,ok.exf,ok.bs,ok.bsz,ok.noex,ok.exfs,ok.funs,ok.frf⟩
section
variable {X:Cx}{pins:List (Addr×Obj)}{σ:St}{H:Hp}{s:ah}{E:Value→ah→Prop}
theorem Inv.wish (I:Inv X pins σ H s) (E:Value→ah→Prop):Inv (X.wish E) pins σ H s:=⟨I.ok.wish E,I.os,I.bare,I.base,I.loc,I.cell,I.free,I.freeC,I.pin,I.hok,I.len⟩
theorem Inv.unwish (I:Inv (X.wish E) pins σ H s):Inv X pins σ H s:=⟨I.ok.unwish,I.os,I.bare,I.base,I.loc,I.cell,I.free,I.freeC,I.pin,I.hok,I.len⟩
theorem SP.unwish{D:Ends}{f:Flow}{s':ah}(h:SP (X.wish E) pins D f s'):SP X pins D f s':=by
 cases f with
 |next=>obtain⟨σ',H',I,q⟩:=h;exact⟨σ',H',I.unwish,q⟩
 |brk=>obtain⟨σ',H',I,q⟩:=h;exact⟨σ',H',I.unwish,q⟩
 |cont=>obtain⟨σ',H',I,q⟩:=h;exact⟨σ',H',I.unwish,q⟩
 |ret u=>obtain⟨v,σ',H',I,r,q⟩:=h;exact⟨v,σ',H',I.unwish,r,q⟩
theorem PE.nox{e:Expr}{t:TE}(h:PE X.nox e t):PE X e t:=λpins s σ H Q I hw=>
 b3 (h pins s σ H Q (I.wish _) hw) (λ_ _ ⟨v,H',I',r,q⟩=>⟨v,H',I'.unwish,r,q⟩) λ_ _ z=>cr z
end
section
variable {X:Cx}{st:Stmt}{rest:List Stmt}{t u:TS}{e:Expr}{te:TE}{pos:ay}
noncomputable def zyT:TS:=λD σ H=>D.nx σ H
noncomputable def zzT (t u:TS):TS:=λD σ H=>t { D with nx:=u D } σ H
theorem pss_nil:PSs X [] zyT:=λ_ _ σ H _ I h=>fo ⟨σ,H,I,h⟩
theorem zql (h1:PS X st t) (h2:PSs X rest u):PSs X (st::rest) (zzT t u):=by
 intro pins s σ H D I h;refine kj (thn (h1 pins s σ H { D with nx:=u D } I h) λf s1 q=>?_);cases f with
 |next=>
  obtain⟨σ',H',I',q⟩:=q;exact h2 pins s1 σ' H' D I' q
 |ret v=>exact q
 |brk=>exact q
 |cont=>exact q
theorem zpL (h1:PS X st t):PSs X [st] t:=by
 intro pins s σ H D I h;refine kj (thn (h1 pins s σ H D I h) λf s1 q=>?_);cases f with
 |next=>exact fo q
 |ret v=>exact q
 |brk=>exact q
 |cont=>exact q
theorem Inv.quiet{pins:List (Addr×Obj)}{σ:St}{H:Hp}{s:ah}(I:Inv X pins σ H s):interactive X.env=false:=by simp [interactive,I.ok.kind]
noncomputable def zyV (te:TE):TS:=λD σ H=>te σ H λ_ H1=>D.nx σ H1
theorem zpI (he:PE X e te) (hs:dF e none pos.line X.env=pure false:=by rfl):PS X (.Expr e pos) (zyV te):=by
 intro pins s σ H D I h;exact wpAny_Expr_any (thn (he pins s σ H _ I h) λv s1 ⟨x,H1,I1,r1,q1⟩=>⟨σ,H1,I1,q1⟩) I.quiet hs
noncomputable def zzK (te:TE):TS:=λD σ H=>te σ H D.rt
theorem zxa (he:PE X e te):PS X (.Return (ae e) pos) (zzK te):=by
 intro pins s σ H D I h;exact wpAny_Return_some (thn (he pins s σ H _ I h) λv s1 ⟨x,H1,I1,r1,q1⟩=>⟨x,σ,H1,I1,r1,q1⟩)
noncomputable def zAe (c:TT) (t u:TS):TS:=λD σ H=>c σ H λb H1=>if b=true then t D σ H1 else u D σ H1
theorem zyc{c:Expr}{a b:List Stmt}{tc:TT}(hc:PT X c tc) (ha:PSs X a t) (hb:PSs X b u):PS X (.If c a b pos) (zAe tc t u):=by
 intro pins s σ H D I h;refine wpAny_If (thn (hc pins s σ H _ I h) λd s1 ⟨H1,I1,q1⟩=>?_);cases d with
 |true=>exact ha pins s1 σ H1 D I1 q1
 |false=>exact hb pins s1 σ H1 D I1 q1
end
abbrev TG:=V→St→Hp→(St→Hp→Prop)→Prop
abbrev TGs:=List V→St→Hp→(St→Hp→Prop)→Prop
def PG (X:Cx) (target:Expr) (t:TG):Prop:=
 ∀(pins:List (Addr×Obj)) (s:ah) (σ:St) (H:Hp) (v:V) (u:Value) (Q:St→Hp→Prop),Inv X pins σ H s→RelV v u→t v σ H Q→
  am (ap X.prog X.w) X.A (assign target X.env u) (λ_ s'=>∃σ' H',Inv X pins σ' H' s'∧Q σ' H') X.xe s
def PGs (X:Cx) (ts:List Expr) (t:TGs):Prop:=
 ∀(pins:List (Addr×Obj)) (s:ah) (σ:St) (H:Hp) (vs:List V) (us:List Value) (Q:St→Hp→Prop),Inv X pins σ H s→Vals vs us→t vs σ H Q→
  am (ap X.prog X.w) X.A (assignInOrder ((cu ts X.env).map (·.2)) us) (λ_ s'=>∃σ' H',Inv X pins σ' H' s'∧Q σ' H') X.xe s
abbrev TIp:=V→V→Hp→VK→Prop
def PIp (X:Cx) (op:gk) (t:TIp):Prop:=
 ∀(pins:List (Addr×Obj)) (s:ah) (σ:St) (H:Hp) (x y:V) (v u:Value) (Q:VK),Inv X pins σ H s→RelV x v→RelV y u→t x y H Q→
  am (ap X.prog X.w) X.A (inplaceOp op v u) (EP X pins σ Q) X.xe s
section
variable {X:Cx}{pos:ay}
noncomputable def ztB (i:Nat):TG:=λv σ H Q=>Q (σ.set i (ae v)) H
theorem zuj{i:Nat}{x:Str}(hN:X.N.Nodup) (hi:X.N[i]? =ae x) (hx:Loc X.env.scope x) (hf:X.fn x=true∨X.env.scope.names.lookup x=ae .local:=by first |exact .inl rfl |exact .inr rfl |assumption):PG X (.Name x pos) (ztB i):=by
 intro pins s σ H v u Q I r h;exact kx (zfM I hN hi hx r (λs' I'=>⟨_,H,I',h⟩) hf)
noncomputable def zzO:TGs:=λvs σ H Q=>vs=[]∧Q σ H
noncomputable def zyY (t:TG) (u:TGs):TGs:=λvs σ H Q=>∃v r,vs=v::r∧t v σ H λσ' H'=>u r σ' H' Q
theorem ztk:PGs X [] zzO:=by
 intro pins s σ H vs us Q I r h;obtain⟨e,h⟩:=h;subst e;cases r;exact assignInOrder_nil ⟨σ,H,I,h⟩
theorem zrA{e:Expr}{es:List Expr}{t:TG}{u:TGs}(h1:PG X e t) (h2:PGs X es u)
  (hs:(cu (e::es) X.env).map (·.2)=assign e X.env::(cu es X.env).map (·.2):=by rfl):PGs X (e::es) (zyY t u):=by
 intro pins s σ H vs us Q I r h;obtain⟨v,vr,e1,h⟩:=h;subst e1;cases r with
 |cons r rr=>
  rw[hs];refine assignInOrder_cons (thn (h1 pins s σ H _ _ _ I r h) λ_ s1 ⟨σ1,H1,I1,q1⟩=>?_);exact h2 pins s1 σ1 H1 _ _ Q I1 rr q1
noncomputable def zAu (K:ai) (n:Nat) (t:TGs):TG:=λv σ H Q=>∃a xs,v= .ref a∧SqT K H a xs∧xs.length=n∧t xs σ H Q
theorem zwf{es:List Expr}{k:Nat}{t:TGs}{n:Nat}(hc:X.calm=true) (h:PGs X es t)
  (hn:(cu es X.env).length=n:=by rfl) (hst:(cu es X.env).findIdx? (·.1)=none:=by rfl):PG X (.Tuple es k pos) (zAu X.K n t):=by
 intro pins s σ H v u Q I r hw;obtain⟨a,xs,e1,hq,hl,hw⟩:=hw;subst e1;cases r;obtain⟨its,rv,ht,hz⟩:=I.tuple hq;refine assign_Tuple_tuple (I.ok.hd hc) ht (by simp [hn,←hl,rv.length]) hst λh' hx=>?_;have I1:Inv X pins σ H { s with heap:=h' }:=I.kept (t':=s.toks) λb o e=>hx b o (bx (aI e)) e;exact h pins _ σ H xs _ Q I1 (by simpa using rv) hw
noncomputable def zzi (te:TE) (g:TG):TS:=λD σ H=>te σ H λx H1=>g x σ H1 D.nx
theorem zxu{tg e:Expr}{te:TE}{g:TG}(he:PE X e te) (hg:PG X tg g) (hs:swapsWithSole [tg] e pos.line X.env=pure false:=by rfl) (hw:swappedStores [tg] e X.env=pure none:=by rfl)
  (h1:(cu [tg] X.env).map (·.2)=[assign tg X.env]:=by rfl):PS X (.Assign [tg] e pos) (zzi te g):=by
 intro pins s σ H D I h;refine wpAny_Assign_stores (thn (he pins s σ H _ I h) λv s1 ⟨x,H1,I1,r1,q1⟩=>?_) hs hw;rw[h1];exact thn (hg pins s1 σ H1 x v _ I1 r1 q1) λ_ s2 q=>q
theorem zwy{i:Nat}{x:Str}{e:Expr}{te:TE}{pos':ay}(hN:X.N.Nodup) (hi:X.N[i]? =ae x) (hx:Loc X.env.scope x) (he:PE X e te) (hs:dF e (ae (.Name x pos')) pos.line X.env=pure false:=by rfl) (hf:X.fn x=true∨X.env.scope.names.lookup x=ae .local:=by first |exact .inl rfl |exact .inr rfl |assumption) :
  PS X (.Assign [.Name x pos'] e pos) (zzi te (ztB i)):=by
 intro pins s σ H D I h;refine wpAny_Assign_Name (thn (he pins s σ H _ I h) λv s1 ⟨y,H1,I1,r1,q1⟩=>?_) hs;exact zfM I1 hN hi hx r1 (λs2 I2=>⟨_,H1,I2,q1⟩) hf
noncomputable def zAt (i:Nat) (te:TE) (ti:TIp):TS:=λD σ H=>∃x,σ[i]? =ae (ae x)∧te σ H λy H1=>ti x y H1 λz H2=>D.nx (σ.set i (ae z)) H2
theorem zvr{i:Nat}{x:Str}{e:Expr}{te:TE}{op:gk}{ti:TIp}{pos':ay}(hN:X.N.Nodup) (hi:X.N[i]? =ae x) (hx:Loc X.env.scope x) (he:PE X e te) (ho:PIp X op ti) (hf:X.fn x=true∨X.env.scope.names.lookup x=ae .local:=by first |exact .inl rfl |exact .inr rfl |assumption) :
  PS X (.AugAssign (.Name x pos') op e pos) (zAt i te ti):=by
 intro pins s σ H D I h;obtain⟨v,e1,h⟩:=h;obtain⟨m,hn,hl⟩:=I.loc;have vis:Vis X.env.scope x:=by rcases hx with k |k;exact .inl k;exact .inr (.inl k)
 obtain⟨u,r,l⟩:=hl i x v hi e1 vis;refine wpAny_AugAssign_Name ?_;have go:am (ap X.prog X.w) X.A (au e X.env) (λw s₂=>am (ap X.prog X.w) X.A (inplaceOp op u w) (λr s₃=>am (ap X.prog X.w) X.A (iy X.env x r) (λ_=>SP X pins D .next) X.xe s₃) X.xe s₂) X.xe s:=by
  refine thn (he pins s σ H _ I h) λw s1 ⟨y,H1,I1,r1,q1⟩=>?_;refine thn (ho pins s1 σ H1 v y u w _ I1 r r1 q1) λz s2 ⟨zv,H2,I2,r2,q2⟩=>?_;exact zfM I2 hN hi hx r2 (λs3 I3=>⟨_,H2,I3,q2⟩) hf
 rcases l with⟨hk,hm⟩ |⟨hk,c,hc,hcell⟩
 ·exact kZ I.ok.kind hk hn hm go
 ·rcases hk with hk |hk
  ·exact kl I.ok.kind hk hc hcell go
  ·rcases hx with k |k
   ·have:X.env.scope.names.lookup x=ae .free:=hk;rw[k]at this;cases this
   ·have:X.env.scope.names.lookup x=ae .free:=hk;rw[k]at this;cases this
noncomputable def ipI (f:Int→Int→Int):TIp:=λx y H Q=>∃i j,x= .int i∧y= .int j∧Q (.int (f i j)) H
theorem zvi:PIp X .Add (ipI λi j=>i+j):=by
 intro pins s σ H x y v u Q I r1 r2 h;obtain⟨i,j,e1,e2,q⟩:=h;subst e1;subst e2;obtain⟨t,rfl⟩:=r1;obtain⟨t',rfl⟩:=r2;exact iadd_int ⟨.int _,H,I.tok _,⟨_,rfl⟩,q⟩
end
section
variable {X:Cx}{pos:ay}
noncomputable def zwW (c:TT) (tb:TS):TS:=λD σ H=>∃W:Nat→St→Hp→Prop,(∃m,W m σ H)∧ ∀m σ H,W m σ H→
 c σ H λb H1=>if b=true then ∃N:St→Hp→Prop,(∀σ' H',N σ' H'→ ∃m',m'<m∧W m' σ' H')∧tb { D with nx:=N,ct:=N,bk:=D.nx } σ H1 else D.nx σ H1
theorem zrn{c:Expr}{body:List Stmt}{tc:TT}{tb:TS}(hp:cY (ap X.prog X.w) X.A X.env X.xe) (hc:PT X c tc) (hb:PSs X body tb):PS X (.While c body [] pos) (zwW tc tb):=by
 intro pins s σ H D I h;obtain⟨W,⟨m0,w0⟩,turn⟩:=h;refine wpAny_While (codeAny_whileLoop (λn s'=>∃σ' H',Inv X pins σ' H' s'∧W n σ' H') ?_ m0 ⟨σ,H,I,w0⟩);rintro n s1 ⟨σ1,H1,I1,w1⟩;refine dI hp (thn (hc pins s1 σ1 H1 _ I1 (turn n σ1 H1 w1)) λb s2 ⟨H2,I2,q2⟩=>?_);cases b with
 |true=>
  obtain⟨N,hN,q2⟩:=q2;rw[if_pos rfl];refine dI hp (thn (hb pins s2 σ1 H2 _ I2 q2) λf s3 q3=>?_);cases f with
  |next=>
   obtain⟨σ3,H3,I3,n3⟩:=q3;obtain⟨m',hm,w3⟩:=hN σ3 H3 n3;exact⟨m',hm,σ3,H3,I3,w3⟩
  |cont=>
   obtain⟨σ3,H3,I3,n3⟩:=q3;obtain⟨m',hm,w3⟩:=hN σ3 H3 n3;exact⟨m',hm,σ3,H3,I3,w3⟩
  |brk=>exact q3
  |ret v=>exact q3
 |false=>
  rw[if_neg cX];exact fo ⟨σ1,H2,I2,q2⟩
end
structure It where
  go:Nat→Hp→Prop
  yld:Nat→Hp→V→Hp→Prop
  stop:Nat→Hp→Prop
def zio (X:Cx) (pins:List (Addr×Obj)) (H:Hp) (b:Addr):Prop:=
 H b=none∧b≠X.env.locals∧b∉X.fs∧(b∈X.ex∨X.s₀.heap.objs.size≤b)∧(∀x c,X.env.cells.lookup x=ae c→c≠b)∧ ∀p∈X.pn++pins,p.1≠b
theorem Inv.fpOk{X:Cx}{pins:List (Addr×Obj)}{σ:St}{H H':Hp}{s:ah}{b:Addr}(I:Inv X pins σ H s) (hb:s.heap.objs.size≤b) (hn:H' b=none):zio X pins H' b:=by
 refine⟨hn,cM (bJ I.lt hb),I.nofs hb, .inr (bM I.sz hb),λx c e z=>?_,λp hp z=>?_⟩
 ·obtain⟨v,q⟩:=I.cell x c e;exact absurd (bJ q.lt (by rw[z];exact hb)) (cp _)
 ·exact absurd (bJ (aI (I.pin p hp).1) (by rw[z];exact hb)) (cp _)
structure Turn (P:aF) (w:ax) (K:ai) (tg:Expr) (J:It) (fp:List Addr) (it:Addr) (tn:Nat→Heap→Prop):Prop where
  mem:it∈fp
  obj:∀i h,tn i h→ ∀b∈fp,∃o,h.get? b=ae o∧ ∀v,o.data≠ .cell v
  keep:∀i h h',tn i h→(∀b∈fp,∀o,h.get? b=ae o→h'.get? b=ae o)→tn i h'
  item:∀(X:Cx),X.prog=P→X.w=w→X.K=K→X.calm=true→ ∀(i:Nat) (pins:List (Addr×Obj)) (s:ah) (σ:St) (H:Hp) (E:Value→ah→Prop),Inv X pins σ H s→(∀b∈fp,zio X pins H b)→tn i s.heap→J.go i H→
    am (ap P w) X.A (bX (.ref it)) (λr s1=>∃u,r=ae u∧
      am (ap P w) X.A (gp tg (.ref it) u) (λ_ s2=>∃x H',Inv X pins σ H' s2∧RelV x u∧J.yld i H x H'∧tn (i+1) s2.heap∧ ∀b∈fp,H' b=none) E s1) E s
  done:∀(X:Cx),X.prog=P→X.w=w→X.K=K→X.calm=true→ ∀(i:Nat) (pins:List (Addr×Obj)) (s:ah) (σ:St) (H:Hp) (E:Value→ah→Prop),Inv X pins σ H s→(∀b∈fp,zio X pins H b)→tn i s.heap→J.stop i H→
    am (ap P w) X.A (bX (.ref it)) (λr s1=>r=none∧Inv X pins σ H s1) E s
  self:∀(A:aM) (i:Nat) (s:ah) (Q:Value→ah→Prop) (E:Value→ah→Prop),tn i s.heap→Q (.ref it) s→am (ap P w) A (dn (.ref it)) Q E s
abbrev TI:=St→Hp→(It→Hp→Prop)→Prop
def PIE (X:Cx) (pins:List (Addr×Obj)) (σ:St) (tg:Expr) (R:It→Hp→Prop) (itv:Value) (s2:ah):Prop:=
 ∃(it:Addr) (fp:List Addr) (tn:Nat→Heap→Prop) (J:It) (H':Hp),itv= .ref it∧Inv X pins σ H' s2∧Turn X.prog X.w X.K tg J fp it tn∧tn 0 s2.heap∧(∀b∈fp,zio X pins H' b)∧R J H'
def PI (X:Cx) (tg iter:Expr) (wi:TI):Prop:=
 ∀(pins:List (Addr×Obj)) (s:ah) (σ:St) (H:Hp) (R:It→Hp→Prop),Inv X pins σ H s→wi σ H R→
  am (ap X.prog X.w) X.A (au iter X.env) (λv s1=>am (ap X.prog X.w) X.A (dn v) (PIE X pins σ tg R) X.xe s1) X.xe s
theorem zqs{M:c6}{A:aM}{E:Value→ah→Prop}{s:ah}{tg:Expr}{it:Addr}{u:Value}{o:Obj}{n:String}{vs:Array Value}{Q:Unit→ah→Prop}(ho:s.heap.get? it=ae o) (hc:o.cls= .type n) (hd:o.data= .fields vs)
    (hn: ["enumerate", "zip", "dict_itemiterator", "dict_reverseitemiterator", "odict_iterator", "itertools.zip_longest", "itertools.pairwise"].contains n=false) (hQ:Q () s):am M A (gp tg (.ref it) u) Q E s:=by
  unfold gp;cases tg<;>first
    |exact aE hQ
    | (cases u<;>first
        |exact aE hQ
        | (refine ak (wpAny_load ho ?_)
           rw[hc,hd];show am M A (if(["enumerate", "zip", "dict_itemiterator", "dict_reverseitemiterator", "odict_iterator", "itertools.zip_longest", "itertools.pairwise"].contains n&&vs[0]? == ae (cm _))=true then _ else _) Q E s;rw[if_neg (by intro h;rw[hn,Bool.false_and]at h;cases h)];exact aE hQ))
noncomputable def Itl (K:ai) (a:Addr):It:=
 ⟨λi H=>∃xs x,SqL K H a xs∧xs[i]? =ae x,λi H x H'=>H'=H∧ ∀xs,SqL K H a xs→xs[i]? =ae x,λi H=>∃xs,SqL K H a xs∧xs.length≤i⟩
noncomputable def Itt (K:ai) (a:Addr):It:=
 ⟨λi H=>∃xs x,SqT K H a xs∧xs[i]? =ae x,λi H x H'=>H'=H∧ ∀xs,SqT K H a xs→xs[i]? =ae x,λi H=>∃xs,SqT K H a xs∧xs.length≤i⟩
noncomputable def Itr (lo:Int) (n:Nat):It:=⟨λi _=>i<n,λi H x H'=>H'=H∧x= .int (lo+i),λi _=>n≤i⟩
theorem zpe{P:aF}{w:ax}{K:ai}{tg:Expr}(a it:Addr):Turn P w K tg (Itl K a) [it] it (λi h=>h.IsListIter it a i) where
  mem:=by simp
  obj:=λi h st b hb=>by
    have e:b=it:=by simpa using hb
    subst e;obtain⟨o,e,c,d⟩:=st;exact⟨o,e,λv z=>by rw[d]at z;cases z⟩
  keep:=λi h h' st k=>st.at λo e=>k it (by simp) o e
  item:=by
    intro X hP hw hK hc i pins s σ H E I hf st hg;subst hP hw hK;obtain⟨xs,x,hq,hx⟩:=hg;obtain⟨its,rv,p,hz⟩:=I.list hq;obtain⟨u,hu,ru⟩:=rv.get hx;obtain⟨f0,f1,f2,f3,f4,f5⟩:=hf it (by simp);refine wpAny_pyNext_list_item st p.isList (x:=u) (by simpa using hu) λh' st' sb=>?_;have I1:Inv X pins σ H { s with heap:=h' }:=I.turned (t':=s.toks) (λb o hb e=>(sb.2 b hb).trans e) f0 f1 f3 f4 f5;obtain⟨o,e,c,d⟩:=id st';exact⟨u,rfl,zqs (s:={ s with heap:=h' }) e c d (by decide) ⟨x,H,I1,ru,⟨rfl,λys hy=>by rw[I.list_inj hy hq];exact hx⟩,st',λb hb=>(hf b hb).1⟩⟩
  done:=by
    intro X hP hw hK hc i pins s σ H E I hf st hg;subst hP hw hK;obtain⟨xs,hq,hx⟩:=hg;obtain⟨its,rv,p,hz⟩:=I.list hq;obtain⟨f0,f1,f2,f3,f4,f5⟩:=hf it (by simp);have hl:=rv.length;exact wpAny_pyNext_list_end (I.ok.hd hc) st p.isList (by simp;omega) λh' eb=>⟨rfl,I.turned (t':=s.toks) (λb o hb e=>eb b o hb e) f0 f1 f3 f4 f5⟩
  self:=λ_ _ _ _ _ st h=>wpAny_pyIter_listiter st h
theorem zmA{P:aF}{w:ax}{K:ai}{tg:Expr}(a it:Addr):Turn P w K tg (Itt K a) [it] it (λi h=>h.IsTupleIter it a i) where
  mem:=by simp
  obj:=λi h st b hb=>by
    have e:b=it:=by simpa using hb
    subst e;obtain⟨o,e,c,d⟩:=st;exact⟨o,e,λv z=>by rw[d]at z;cases z⟩
  keep:=λi h h' st k=>st.at λo e=>k it (by simp) o e
  item:=by
    intro X hP hw hK hc i pins s σ H E I hf st hg;subst hP hw hK;obtain⟨xs,x,hq,hx⟩:=hg;obtain⟨its,rv,p,hz⟩:=I.tuple hq;obtain⟨u,hu,ru⟩:=rv.get hx;obtain⟨f0,f1,f2,f3,f4,f5⟩:=hf it (by simp);refine wpAny_pyNext_tuple_item st (show s.heap.IsTuple a its.toArray from p) (x:=u) (by simpa using hu) λh' st' sb=>?_;have I1:Inv X pins σ H { s with heap:=h' }:=I.turned (t':=s.toks) (λb o hb e=>(sb.2 b hb).trans e) f0 f1 f3 f4 f5;obtain⟨o,e,c,d⟩:=id st';exact⟨u,rfl,zqs (s:={ s with heap:=h' }) e c d (by decide) ⟨x,H,I1,ru,⟨rfl,λys hy=>by rw[I.tuple_inj hy hq];exact hx⟩,st',λb hb=>(hf b hb).1⟩⟩
  done:=by
    intro X hP hw hK hc i pins s σ H E I hf st hg;subst hP hw hK;obtain⟨xs,hq,hx⟩:=hg;obtain⟨its,rv,p,hz⟩:=I.tuple hq;obtain⟨f0,f1,f2,f3,f4,f5⟩:=hf it (by simp);have hl:=rv.length;exact wpAny_pyNext_tuple_end (I.ok.hd hc) st (show s.heap.IsTuple a its.toArray from p) (by simp;omega) λh' eb=>⟨rfl,I.turned (t':=s.toks) (λb o hb e=>eb b o hb e) f0 f1 f3 f4 f5⟩
  self:=λ_ _ _ _ _ st h=>wpAny_pyIter_tupleiter st h
theorem zmJ{P:aF}{w:ax}{K:ai}{tg:Expr}(it:Addr) (lo:Int) (n:Nat):Turn P w K tg (Itr lo n) [it] it (λi h=>IsRangeIter h it (lo+(i:Nat)*1) ((n:Int) - (i:Nat)) 1) where
  mem:=by simp
  obj:=λi h st b hb=>by
    have e:b=it:=by simpa using hb
    subst e;exact⟨_,st,λv z=>by
      have z':Data.fields _=Data.cell v:=z;cases z'⟩
  keep:=λi h h' st k=>k it (by simp) _ st
  item:=by
    intro X hP hw hK hc i pins s σ H E I hf st hg;subst hP hw hK;obtain⟨f0,f1,f2,f3,f4,f5⟩:=hf it (by simp);have W:=Walks.range (prog:=X.prog) (w:=X.w) (I.ok.hd hc) it lo 1 n;refine W.item i s _ _ hg st λv h' tk hv st' kk=>?_;obtain⟨t,rfl⟩:=hv;have I1:Inv X pins σ H { s with heap:=h',toks:=tk }:=I.turned (λb o hb e=>kk b o (by simpa using hb) e) f0 f1 f3 f4 f5;refine⟨_,rfl,zqs (s:={ s with heap:=h',toks:=tk }) (n:= "range_iterator") st' rfl rfl (by decide) ⟨.int (lo+i),H,I1,⟨t,?_⟩,⟨rfl,rfl⟩,st',λb hb=>(hf b hb).1⟩⟩;rw[Int.mul_one]
  done:=by
    intro X hP hw hK hc i pins s σ H E I hf st hg;subst hP hw hK;obtain⟨f0,f1,f2,f3,f4,f5⟩:=hf it (by simp);exact wpAny_pyNext_range_end (I.ok.hd hc) st (by have:n≤i:=hg;omega) λh' eb=>⟨rfl,I.turned (t':=s.toks) (λb o hb e=>eb b o hb e) f0 f1 f3 f4 f5⟩
  self:=λ_ _ _ _ _ st h=>wpAny_pyIter_rangeiter st h
section
variable {X:Cx}{tg:Expr}
theorem zqp{pins:List (Addr×Obj)}{σ:St}{H:Hp}{s:ah}{R:It→Hp→Prop}{E:Value→ah→Prop}{lo hi:Int}{t u v:bc}{tk:Nat}(I:Inv X pins σ H s) (h1: -(2 ^ 62)≤lo) (h2:lo<2 ^ 62) (h3: -(2 ^ 62)≤hi) (h4:hi<2 ^ 62)
  (q:R (Itr lo (hi - lo).toNat) H):am (ap X.prog X.w) X.A (dn (.ref s.heap.objs.size)) (PIE X pins σ tg R) E { s with heap:=s.heap.push { cls:= .type "range",data:= .fields #[.int lo t, .int hi u, .int 1 v] },toks:=tk }:=by
 refine wpAny_pyIter_range (IsRange.new ..) (small_one h1 h2 h3 h4) ?_;have I1:Inv X pins σ H { s with heap:=s.heap.push { cls:= .type "range",data:= .fields #[.int lo t, .int hi u, .int 1 v] },toks:=tk }:=I.kept λb o e=>aK _ e;refine⟨(s.heap.push { cls:= .type "range",data:= .fields #[.int lo t, .int hi u, .int 1 v] }).objs.size,[(s.heap.push { cls:= .type "range",data:= .fields #[.int lo t, .int hi u, .int 1 v] }).objs.size],_,_,H,rfl,
  I1.kept (t':=tk) λb o e=>aK _ e,zmJ _ lo (hi - lo).toNat,?_,λb hb=>?_,q⟩
 ·have e1:lo+((0:Nat):Int)*1=lo:=by simp
  have e2:(((hi - lo).toNat:Nat):Int) - ((0:Nat):Int)=bD.Range.rangeSize lo hi 1:=by rw[rangeSize_one];split<;>omega
  show IsRangeIter _ _ (lo+((0:Nat):Int)*1) ((((hi - lo).toNat:Nat):Int) - ((0:Nat):Int)) 1;rw[e1,e2];exact bt _ rfl
 ·have e:b=(s.heap.push { cls:= .type "range",data:= .fields #[.int lo t, .int hi u, .int 1 v] }).objs.size:=by simpa using hb
  subst e;exact I1.fpOk (aB _) (I1.hok.fresh (aB _))
noncomputable def zyI (ta:TA):TI:=λσ H R=>ta σ H λvs H1=>∃j:Int,vs=[.int j]∧ -(2 ^ 62)≤j∧j<2 ^ 62∧R (Itr 0 j.toNat) H1
theorem zoG{a:Expr}{ta:TA}{p pos:ay}(hg:Gl X "range") (hm:X.mg "range" =none) (ha:PA X [a] ta) (hs:ao [a] X.env=[(false,au a X.env)]:=by rfl):PI X tg (.Call (.Name "range" p) [a] [] pos) (zyI ta):=by
 intro pins s σ H R I h;refine Call_ (zhu I hg hm boot_range (gb (thn (ha pos pins s σ H _ I h) λus s1 ⟨vs,H1,I1,r1,q1⟩=>?_) hs rfl));obtain⟨j,e,q1,q2,q⟩:=q1;subst e;cases r1 with
 |cons r rr=>
  cases rr;obtain⟨t,rfl⟩:=r;exact call_range_1 (zqp I1 (by omega) (by omega) q1 q2 (by simpa using q))
noncomputable def zzM (wi:TI) (g:TG) (tb:TS):TS:=λD σ H=>wi σ H λJ H1=>∃W:Nat→Nat→St→Hp→Prop,(∃m,W 0 m σ H1)∧ ∀i m σ H,W i m σ H→
 (J.stop i H∧D.nx σ H)∨(J.go i H∧ ∃N:St→Hp→Prop,(∀σ' H',N σ' H'→ ∃m',m'<m∧W (i+1) m' σ' H')∧ ∀x H',J.yld i H x H'→g x σ H' λσ2 H2=>tb { D with nx:=N,ct:=N,bk:=D.nx } σ2 H2)
noncomputable def zjk (fp:List Addr) (h:Heap):List (Addr×Obj):=fp.filterMap λb=>(h.get? b).map λo=>(b,o)
theorem zeo{fp:List Addr}{h:Heap}{b:Addr}{o:Obj}(hb:b∈fp) (e:h.get? b=ae o):(b,o)∈zjk fp h:=gH.mpr ⟨b,hb,by rw[e];rfl⟩
theorem znn{fp:List Addr}{h:Heap}{p:Addr×Obj}(hp:p∈zjk fp h):p.1∈fp∧h.get? p.1=ae p.2:=by
 obtain⟨b,hb,e⟩:=gH.mp hp;cases q:h.get? b with
 |none=>rw[q]at e;cases e
 |some o=>
  rw[q]at e;have e':(b,o)=p:=aG e;subst e';exact⟨hb,q⟩
theorem Inv.pinned{pins:List (Addr×Obj)}{σ:St}{H:Hp}{s:ah}{fp:List Addr}(I:Inv X pins σ H s) (hf:∀b∈fp,zio X pins H b) (ho:∀b∈fp,∃o,s.heap.get? b=ae o∧ ∀v,o.data≠ .cell v):Inv X (pins++zjk fp s.heap) σ H s:=
 I.pins_of λp hp=>(bb.mp hp).elim (λz=>I.pin p (bZ _ z)) λz=>by
  obtain⟨hb,e⟩:=znn z;obtain⟨f0,f1,f2,_⟩:=hf p.1 hb;obtain⟨o,e',d⟩:=ho p.1 hb;rw[e]at e';cases e';exact⟨e,f0,f1,f2,d⟩
theorem Inv.unpinned{pins pl:List (Addr×Obj)}{σ:St}{H:Hp}{s:ah}(I:Inv X (pins++pl) σ H s):Inv X pins σ H s:=I.pins_of λp hp=>I.pin p (bZ _ (dj _ hp))
theorem zwr{iter:Expr}{body:List Stmt}{wi:TI}{g:TG}{tb:TS}{pos:ay}(hp:cY (ap X.prog X.w) X.A X.env X.xe) (hc:X.calm=true) (hi:PI X tg iter wi) (hg:PG X tg g) (hb:PSs X body tb)
  (hs:∀x,du iter X.env x=pure x:=by intro _;rfl):PS X (.For tg iter body [] pos) (zzM wi g tb):=by
 intro pins s σ H D I h;refine wpAny_For (thn (hi pins s σ H _ I h) λv s1 h1=>thn h1 λitv s2 h2=>?_) hs;obtain⟨it,fp,tn,J,H2,e,I2,T,st2,f2,W,⟨m0,w0⟩,turn⟩:=h2;subst e;have stat:∀{H':Hp},(∀b∈fp,H' b=none)→ ∀b∈fp,zio X pins H' b:=λhn b hb=>⟨hn b hb,(f2 b hb).2⟩;refine codeAny_forLoop_any (λn s'=>∃i σ' H',Inv X pins σ' H' s'∧tn i s'.heap∧(∀b∈fp,H' b=none)∧W i n σ' H') ?_ m0 ⟨0,σ,H2,I2,st2,λb hb=>(f2 b hb).1,w0⟩;rintro n s3 ⟨i,σ3,H3,I3,st3,fr3,w3⟩;rcases turn i n σ3 H3 w3 with⟨stop,qn⟩ |⟨go,N,hN,step⟩
 ·refine dI hp (thn (T.done X rfl rfl rfl hc i pins s3 σ3 H3 X.xe I3 (stat fr3) st3 stop) λr s4 ⟨hr,I4⟩=>?_);subst hr;exact fo ⟨σ3,H3,I4,qn⟩
 ·refine dI hp (thn (T.item X rfl rfl rfl hc i pins s3 σ3 H3 X.xe I3 (stat fr3) st3 go) λr s4 ⟨u,hr,h4⟩=>?_);subst hr;refine dI hp (thn h4 λ_ s5 ⟨x,H5,I5,r5,y5,st5,fr5⟩=>?_);have I5':=I5.pinned (stat fr5) (T.obj _ _ st5);refine dI hp (thn (hg _ s5 σ3 H5 x u _ I5' r5 (step x H5 y5)) λ_ s6 ⟨σ6,H6,I6,q6⟩=>?_);refine dI hp (thn (hb _ s6 σ6 H6 _ I6 q6) λf s7 q7=>?_);have again:∀{σ7:St}{H7:Hp},Inv X (pins++zjk fp s5.heap) σ7 H7 s7→N σ7 H7→ ∃m,m<n∧ ∃i σ' H',Inv X pins σ' H' s7∧tn i s7.heap∧(∀b∈fp,H' b=none)∧W i m σ' H':=λ{σ7 H7} I7 n7=>by
   obtain⟨m',hm,w7⟩:=hN σ7 H7 n7;refine⟨m',hm,i+1,σ7,H7,I7.unpinned,T.keep _ _ _ st5 λb hb o e=>(I7.pin (b,o) (bZ _ (bZ _ (zeo hb e)))).1,λb hb=>?_,w7⟩;obtain⟨o,e,d⟩:=T.obj _ _ st5 b hb;exact(I7.pin (b,o) (bZ _ (bZ _ (zeo hb e)))).2.1
  cases f with
  |next=>obtain⟨σ7,H7,I7,n7⟩:=q7;exact again I7 n7
  |cont=>obtain⟨σ7,H7,I7,n7⟩:=q7;exact again I7 n7
  |brk=>obtain⟨σ7,H7,I7,q7⟩:=q7;exact⟨σ7,H7,I7.unpinned,q7⟩
  |ret v=>obtain⟨x7,σ7,H7,I7,r7,q7⟩:=q7;exact⟨x7,σ7,H7,I7.unpinned,r7,q7⟩
end
abbrev R2:=V→V→Hp→VK→Prop
def OpR (X:Cx) (f:Value→Value→b7 Value) (r:R2):Prop:=
 ∀(pins:List (Addr×Obj)) (s:ah) (σ:St) (H:Hp) (x y:V) (v u:Value) (Q:VK),Inv X pins σ H s→RelV x v→RelV y u→r x y H Q→
  am (ap X.prog X.w) X.A (f v u) (EP X pins σ Q) X.xe s
def UnR (X:Cx) (f:Value→b7 Value) (r:V→Hp→VK→Prop):Prop:=
 ∀(pins:List (Addr×Obj)) (s:ah) (σ:St) (H:Hp) (x:V) (v:Value) (Q:VK),Inv X pins σ H s→RelV x v→r x H Q→
  am (ap X.prog X.w) X.A (f v) (EP X pins σ Q) X.xe s
def CallR (X:Cx) (f:Value) (r:List V→Hp→VK→Prop):Prop:=
 ∀(pins:List (Addr×Obj)) (s:ah) (σ:St) (H:Hp) (xs:List V) (us:List Value) (Q:VK),Inv X pins σ H s→Vals xs us→r xs H Q→
  am (ap X.prog X.w) X.A (call f us) (EP X pins σ Q) X.xe s
def zzX (X:Cx) (r:V→Hp→(Bool→Hp→Prop)→Prop):Prop:=
 ∀(pins:List (Addr×Obj)) (s:ah) (σ:St) (H:Hp) (x:V) (v:Value) (Q:Bool→Hp→Prop),Inv X pins σ H s→RelV x v→r x H Q→
  am (ap X.prog X.w) X.A (truthy v) (TP X pins σ Q) X.xe s
noncomputable def tOp (r:R2) (ta tb:TE):TE:=λσ H Q=>ta σ H λx H1=>tb σ H1 λy H2=>r x y H2 Q
noncomputable def tUn (r:V→Hp→VK→Prop) (ta:TE):TE:=λσ H Q=>ta σ H λx H1=>r x H1 Q
noncomputable def rI (C:Int→Int→Prop) (g:Int→Int→V):R2:=λx y H Q=>∃i j,x= .int i∧y= .int j∧C i j∧Q (g i j) H
noncomputable def rI0 (g:Int→Int→V):R2:=λx y H Q=>∃i j,x= .int i∧y= .int j∧Q (g i j) H
def rU (g:Int→V):V→Hp→VK→Prop:=λx H Q=>∃i,x= .int i∧Q (g i) H
section
variable {X:Cx}{a b:Expr}{ta tb:TE}{pos:ay}
theorem zyU (ha:PE X a ta) (hb:PE X b tb) {pins:List (Addr×Obj)}{s:ah}{σ:St}{H:Hp}{R:V→V→Hp→Prop}(I:Inv X pins σ H s)
  (h:ta σ H λx H1=>tb σ H1 λy H2=>R x y H2) {Q:Value→ah→Prop}{f:Value→Value→b7 Value}
  (hf:∀v u s2 x y H2,Inv X pins σ H2 s2→RelV x v→RelV y u→R x y H2→am (ap X.prog X.w) X.A (f v u) Q X.xe s2) :
  am (ap X.prog X.w) X.A (au a X.env) (λv s₁=>am (ap X.prog X.w) X.A (au b X.env) (λu s₂=>am (ap X.prog X.w) X.A (f v u) Q X.xe s₂) X.xe s₁) X.xe s:=by
 refine thn (ha pins s σ H _ I h) λv s1 ⟨x,H1,I1,r1,q1⟩=>?_;refine thn (hb pins s1 σ H1 _ I1 q1) λu s2 ⟨y,H2,I2,r2,q2⟩=>?_;exact hf v u s2 x y H2 I2 r1 r2 q2
theorem zno{op:gk}{r:R2}(ho:OpR X (bP op) r) (ha:PE X a ta) (hb:PE X b tb):PE X (.BinOp a op b pos) (tOp r ta tb):=by
 intro pins s σ H Q I h;exact wpAny_BinOp (zyU ha hb I h λv u s2 x y H2 I2 rx ry q=>ho pins s2 σ H2 x y v u Q I2 rx ry q)
theorem zyd{op:UnaryOp}{r:V→Hp→VK→Prop}(ho:UnR X (unaryOp op) r) (ha:PE X a ta):PE X (.UnaryOp op a pos) (tUn r ta):=by
 intro pins s σ H Q I h;exact UnaryOp_ (thn (ha pins s σ H _ I h) λv s1 ⟨x,H1,I1,r1,q1⟩=>ho pins s1 σ H1 x v Q I1 r1 q1)
theorem opI{f:Value→Value→b7 Value}{C:Int→Int→Prop}{g:Int→Int→Int}
  (rule:∀(i j:Int) (t u:bc) (s:ah) (Q:Value→ah→Prop) (E:Value→ah→Prop),C i j→Q (.int (g i j) s.toks) { s with toks:=s.toks+1 }→am (ap X.prog X.w) X.A (f (.int i t) (.int j u)) Q E s) :
  OpR X f (rI C λi j=> .int (g i j)):=by
 intro pins s σ H x y v u Q I rx ry h;obtain⟨i,j,rfl,rfl,hc,q⟩:=h;obtain⟨t,rfl⟩:=rx;obtain⟨t',rfl⟩:=ry;exact rule i j t t' s _ _ hc ⟨.int (g i j),H,I.tok _,⟨_,rfl⟩,q⟩
theorem zzt{f:Value→Value→b7 Value}{g:Int→Int→Int}
  (rule:∀(i j:Int) (t u:bc) (s:ah) (Q:Value→ah→Prop) (E:Value→ah→Prop),Q (.int (g i j) s.toks) { s with toks:=s.toks+1 }→am (ap X.prog X.w) X.A (f (.int i t) (.int j u)) Q E s) :
  OpR X f (rI0 λi j=> .int (g i j)):=by
 intro pins s σ H x y v u Q I rx ry h;obtain⟨i,j,rfl,rfl,q⟩:=h;obtain⟨t,rfl⟩:=rx;obtain⟨t',rfl⟩:=ry;exact rule i j t t' s _ _ ⟨.int (g i j),H,I.tok _,⟨_,rfl⟩,q⟩
theorem zxU{f:Value→Value→b7 Value}{g:Int→Int→Bool}
  (rule:∀(i j:Int) (t u:bc) (s:ah) (Q:Value→ah→Prop) (E:Value→ah→Prop),Q (.bool (g i j)) s→am (ap X.prog X.w) X.A (f (.int i t) (.int j u)) Q E s) :
  OpR X f (rI0 λi j=> .bl (g i j)):=by
 intro pins s σ H x y v u Q I rx ry h;obtain⟨i,j,rfl,rfl,q⟩:=h;obtain⟨t,rfl⟩:=rx;obtain⟨t',rfl⟩:=ry;exact rule i j t t' s _ _ ⟨.bl (g i j),H,I,rfl,q⟩
def zmp (i j:Int):Prop:=0<j∧j<1073741824
def zzc (i j:Int):Prop:=0≤j∧j≤1000000∧i.natAbs<2 ^ 64
def CMul (i j:Int):Prop:=(-(2 ^ 64)<i∧i<2 ^ 64)∨(-(2 ^ 64)<j∧j<2 ^ 64)
theorem CMul.ok{i j:Int}(h:CMul i j):IntMulOk i j:=by
 rcases h with⟨h1,h2⟩ |⟨h1,h2⟩
 ·exact .of_left (intBits_le_64 h1 h2)
 ·exact .of_right (intBits_le_64 h1 h2)
theorem op_add:OpR X (bP .Add) (rI0 λi j=> .int (i+j)):=zzt λ_ _ _ _ _ _ _ q=>add_int q
theorem zxC:OpR X (bP .Sub) (rI0 λi j=> .int (i - j)):=zzt λ_ _ _ _ _ _ _ q=>sub_int q
theorem zvK:OpR X (bP .Mult) (rI CMul λi j=> .int (i*j)):=opI λ_ _ _ _ _ _ _ hc q=>mul_int q hc.ok
theorem ztD:OpR X (bP .FloorDiv) (rI zmp λi j=> .int (i / j)):=opI λi j _ _ _ _ _ hc q=>by
 have h1:(0:Int)<j:=hc.1;have h2:j<1073741824:=hc.2;exact floordiv_int (by omega) (by rw[Int.fdiv_eq_ediv_of_nonneg i (by omega)];exact q) (.inl (PyProof.noPylong_small (by omega)))
theorem zxn:OpR X (bP .Mod) (rI (λ_ j=>0<j) λi j=> .int (i % j)):=opI λi j _ _ _ _ _ hc q=>by
 have h1:(0:Int)<j:=hc;exact mod_int' (by omega) (by rw[Int.fmod_eq_emod_of_nonneg i (by omega)];exact q)
theorem zvz:OpR X (bP .Pow) (rI zzc λi j=> .int (i ^ j.toNat)):=opI λ_ _ _ _ _ _ _ hc q=>pow_int_small hc.1 hc.2.1 hc.2.2 q
theorem unI{f:Value→b7 Value}{g:Int→Int}
  (rule:∀(i:Int) (t:bc) (s:ah) (Q:Value→ah→Prop) (E:Value→ah→Prop),Q (.int (g i) s.toks) { s with toks:=s.toks+1 }→am (ap X.prog X.w) X.A (f (.int i t)) Q E s) :
  UnR X f (rU λi=> .int (g i)):=by
 intro pins s σ H x v Q I rx h;obtain⟨i,rfl,q⟩:=h;obtain⟨t,rfl⟩:=rx;exact rule i t s _ _ ⟨.int (g i),H,I.tok _,⟨_,rfl⟩,q⟩
theorem zwZ:UnR X (unaryOp .USub) (rU λi=> .int (-i)):=unI λ_ _ _ _ _ q=>neg_int q
end
section
variable {X:Cx}{a b c:Expr}{ta tb:TE}{pos:ay}
theorem zlt{pins:List (Addr×Obj)}{σ:St}{H:Hp}{s:ah}{Q:VK}{k k':Bool}(I:Inv X pins σ H s) (q:Q (.bl k) H) (e:k=k'):EP X pins σ Q (.bool k') s:=by
 subst e;exact⟨.bl k,H,I,rfl,q⟩
theorem zxZ:OpR X (bH .Lt) (rI0 λi j=> .bl (decide (i<j))):=zxU λ_ _ _ _ _ _ _ q=>lt_int q
theorem op_le:OpR X (bH .LtE) (rI0 λi j=> .bl (decide (i≤j))):=zxU λ_ _ _ _ _ _ _ q=>le_int q
theorem zzo:OpR X (bH .Gt) (rI0 λi j=> .bl (decide (j<i))):=zxU λ_ _ _ _ _ _ _ q=>gt_int q
theorem zyq:OpR X (bH .GtE) (rI0 λi j=> .bl (decide (j≤i))):=zxU λ_ _ _ _ _ _ _ q=>ge_int q
theorem op_isN:OpR X (bH .Is) (λx y H Q=>y= .non∧Q (.bl (decide (x= .non))) H):=by
 intro pins s σ H x y v u Q I rx ry h;obtain⟨rfl,q⟩:=h;cases ry;refine is_none_gen (zlt I q ?_);cases x<;>first
  | (cases rx;rfl)
  | (obtain⟨t,rfl⟩:=rx;rfl)
theorem op_notN:OpR X (bH .IsNot) (λx y H Q=>y= .non∧Q (.bl (!decide (x= .non))) H):=by
 intro pins s σ H x y v u Q I rx ry h;obtain⟨rfl,q⟩:=h;cases ry;refine isnot_none_gen (zlt I q ?_);cases x<;>first
  | (cases rx;rfl)
  | (obtain⟨t,rfl⟩:=rx;rfl)
theorem op_notin_str:OpR X (bH .NotIn) (λx y H Q=>∃i j,x= .str i∧y= .str j∧Q (.bl (!(!(cS j i 0 j.length 1).isEmpty))) H):=by
 intro pins s σ H x y v u Q I rx ry h;obtain⟨i,j,rfl,rfl,q⟩:=h;obtain⟨t,rfl⟩:=rx;obtain⟨t',rfl⟩:=ry;exact notIn_str (zlt I q rfl)
theorem OpR.or{f:Value→Value→b7 Value}{r r':R2}(h:OpR X f r) (h':OpR X f r'):OpR X f (λx y H Q=>r x y H Q∨r' x y H Q):=by
 intro pins s σ H x y v u Q I rx ry q;rcases q with q |q
 ·exact h pins s σ H x y v u Q I rx ry q
 ·exact h' pins s σ H x y v u Q I rx ry q
theorem nomark (b:Expr) {op:dG}(h:op≠ .In:=by decide) (h2:op≠ .NotIn:=by decide):c8 op b=false:=by
 have e1:(op == dG.In)=false:=by cases op<;>first |rfl |exact absurd rfl h
 have e2:(op == dG.NotIn)=false:=by cases op<;>first |rfl |exact absurd rfl h2
 cases b<;>simp [c8,e1,e2]
theorem ztw{op:dG}{r:R2}(ho:OpR X (bH op) r) (ha:PE X a ta) (hb:PE X b tb) (hm:c8 op b=false):PE X (.Compare a [op] [b] pos) (tOp r ta tb):=by
 intro pins s σ H Q I h;exact wpAny_Compare1 (zyU ha hb I h λv u s2 x y H2 I2 rx ry q=>ho pins s2 σ H2 x y v u Q I2 rx ry q) hm
noncomputable def zyn (t:TE):TT:=λσ H Q=>t σ H λx H'=>∃k,x= .bl k∧Q k H'
theorem zuz{op:dG}{r:R2}(ho:OpR X (bH op) r) (ha:PE X a ta) (hb:PE X b tb) (hm:c8 op b=false):PT X (.Compare a [op] [b] pos) (zyn (tOp r ta tb)):=by
 intro pins s σ H Q I h;refine wpAny_isTrue_Compare1 (thn (ha pins s σ H _ I h) λv s1 ⟨x,H1,I1,r1,q1⟩=>thn (hb pins s1 σ H1 _ I1 q1) λu s2 ⟨y,H2,I2,r2,q2⟩=>
  thn (ho pins s2 σ H2 x y v u _ I2 r1 r2 q2) λc s3 ⟨z,H3,I3,r3,k,e,q3⟩=>?_) hm
 subst e;cases r3;exact fG ⟨H3,I3,q3⟩
def zyR (K:ai) (x:V) (H:Hp) (k:Bool):Prop:=
 match x with
 | .non=>k=false
 | .bl b=>k=b
 | .int i=>k=(i != 0)
 | .str y=>y.length≤sizeLine∧k=((y.length:Int) != 0)
 | .byt y=>y.size≤sizeLine∧k=((y.size:Int) != 0)
 | .ref p=>(∃xs,SqL K H p xs∧k= !xs.isEmpty)∨(∃xs,SqT K H p xs∧k= !xs.isEmpty)∨ ∃kvs,H p=ae (.dK kvs)∧k= !kvs.isEmpty
 |_=>False
theorem zmE{κ:Type}{kvs:List (κ×V)}{vs:List (κ×Value)}(r:KV kvs vs):(!vs.isEmpty)= !kvs.isEmpty:=by
 cases r<;>rfl
theorem zhs{xs:List V}{its:List Value}(r:Vals xs its):(!its.toArray.isEmpty)= !xs.isEmpty:=by
 cases r<;>simp
theorem zhn:(sizeLine:Nat)<2 ^ 63:=by rw[dC];decide
theorem zwk:zzX X (λx H Q=>∃k,zyR X.K x H k∧Q k H):=by
 intro pins s σ H x v Q I rx h;obtain⟨k,e,q⟩:=h;have hl:=zhn;have hs:sizeLine=16777216:=dC;cases x with
 |non=>
  cases rx;have e':k=false:=e;subst e';exact truthy_none ⟨H,I,q⟩
 |bl b=>
  cases rx;have e':k=b:=e;subst e';exact fG ⟨H,I,q⟩
 |int i=>
  obtain⟨t,rfl⟩:=rx;have e':k=(i != 0):=e;subst e';exact PySem.P.truthy_int ⟨H,I,q⟩
 |str y=>
  obtain⟨t,rfl⟩:=rx;obtain⟨hy,e'⟩:y.length≤sizeLine∧k=((y.length:Int) != 0):=e;subst e';exact PySem.P.truthy_str (by omega) ⟨H,I.tok _,q⟩
 |byt y=>
  obtain⟨t,rfl⟩:=rx;obtain⟨hy,e'⟩:y.size≤sizeLine∧k=((y.size:Int) != 0):=e;subst e';exact PySem.W.truthy_bytes (by omega) ⟨H,I.tok _,q⟩
 |ref p=>
  cases rx;have e':(∃xs,SqL X.K H p xs∧k= !xs.isEmpty)∨(∃xs,SqT X.K H p xs∧k= !xs.isEmpty)∨ ∃kvs,H p=ae (.dK kvs)∧k= !kvs.isEmpty:=e;rcases e' with⟨xs,hx,e'⟩ |⟨xs,hx,e'⟩ |⟨kvs,hx,e'⟩
  ·subst e';obtain⟨its,r,pl,hz⟩:=I.list hx;have hlen:=r.length;exact wpAny_truthy_list pl.isList (by simp only[aQ];omega) ⟨H,I.tok _,by rw[zhs r];exact q⟩
  ·subst e';obtain⟨its,r,pl,hz⟩:=I.tuple hx;have hlen:=r.length;exact truthy_tuple pl (by simp only[aQ];omega) ⟨H,I.tok _,by rw[zhs r];exact q⟩
  ·subst e';obtain⟨hz,hS,vs,r,m⟩:kvs.length≤sizeLine∧(p == d5)=false∧ ∃vs,KV kvs vs∧s.heap.DictOf (zbr X.prog X.w) p vs:=I.hok p _ hx;have hlen:kvs.length=vs.length:=eO r;exact wpAny_truthy_dict hS m (by omega) ⟨H,I.tok _,by rw[zmE r];exact q⟩
 |_=>exact(show False from e).elim
theorem zqg (ha:PE X a ta) (he:∀whole,isTrue a X.env whole=(do let v ←whole;standAt a.pos;holding [v] (truthy v))) :
  PT X a (λσ H Q=>ta σ H λx H'=>∃k,zyR X.K x H' k∧Q k H'):=by
 intro pins s σ H Q I h;exact isTrue_plain (thn (ha pins s σ H _ I h) λv s1 ⟨x,H1,I1,r1,q1⟩=>zwk pins s1 σ H1 x v Q I1 r1 q1) (he _)
theorem op_add_str:OpR X (bP .Add) (λx y H Q=>∃i j,x= .str i∧y= .str j∧i.length+j.length≤sizeLine∧Q (.str (i++j)) H):=by
 intro pins s σ H x y v u Q I rx ry h;obtain⟨i,j,rfl,rfl,hz,q⟩:=h;obtain⟨t,rfl⟩:=rx;obtain⟨t',rfl⟩:=ry;exact add_str (λt' tk=>⟨.str (i++j),H,I.tok _,⟨_,rfl⟩,q⟩) hz
theorem zil{x:V}{us:List Value}(r:Vals [x] us):∃u,us=[u]∧RelV x u:=by
 cases r with
 |cons r1 r2=>cases r2;exact⟨_,rfl,r1⟩
theorem zxR{x y:V}{us:List Value}(r:Vals [x,y] us):∃u w',us=[u,w']∧RelV x u∧RelV y w':=by
 cases r with
 |cons r1 r2=>
  cases r2 with
  |cons r3 r4=>cases r4;exact⟨_,_,rfl,r1,r3⟩
theorem zpJ (hc:X.calm=true):CallR X (.builtin "min") (λxs H Q=>∃i j,xs=[.int i, .int j]∧Q (.int (if j<i then j else i)) H):=by
 intro pins s σ H xs us Q I r h;obtain⟨i,j,rfl,q⟩:=h;obtain⟨u,w',rfl,⟨t,rfl⟩,⟨t',rfl⟩⟩:=zxR r;refine min_two_ints (I.ok.hd hc) λh' tk k=>⟨_,H,I.kept k,?_,q⟩;by_cases hj:j<i
 ·rw[if_pos hj,if_pos hj];exact⟨_,rfl⟩
 ·rw[if_neg hj,if_neg hj];exact⟨_,rfl⟩
theorem zoO:CallR X (.type "int") (λxs H Q=>(∃i,xs=[.int i]∧Q (.int i) H)∨ ∃k,xs=[.bl k]∧Q (.int (if k then 1 else 0)) H):=by
 intro pins s σ H xs us Q I r h;rcases h with⟨i,rfl,q⟩ |⟨k,rfl,q⟩
 ·obtain⟨u,rfl,t,rfl⟩:=zil r;exact call_int_int ⟨.int i,H,I,⟨_,rfl⟩,q⟩
 ·obtain⟨u,rfl,r1⟩:=zil r;cases r1;exact call_int_bool ⟨.int (if k then 1 else 0),H,I.tok _,⟨_,rfl⟩,q⟩
end
structure ObjM (h:Heap) (x dx C:Addr) (mA:Str→Option Value):Prop where
  obj:h.get? x=ae (iN C dx)
  ns:h.Ns1 dx mA
  ne:dx≠x
theorem zot{h:Heap}{dx:Addr}{mA:Str→Option Value}(n:h.Ns1 dx mA):∃od,h.get? dx=ae od∧ ∀name,iw name od=ae (mA name):=by
 obtain⟨o,es,ep,ho,hd,hk,_,hm⟩:=n;refine⟨o,ho,λname=>?_⟩;have e:=hm name;unfold nsFind findBy at e;rw[←Array.find?_toList]at e;unfold iw;rw[hd];dsimp only;split
 ·rename_i y q;rw[q]at e;exact congrArg ae e
 ·rename_i q;rw[q]at e;have a:es.toList.any (·.refKey)=false:=by
   rw[List.any_eq_false];intro y hy;obtain⟨z,t,hkey⟩:=hk y (Array.mem_toList_iff.mp hy);simp [DictEntry.refKey,hkey]
  have a':¬es.toList.any (·.refKey)=true:=by rw[a];exact cX
  rw[if_neg a'];exact congrArg ae e
theorem ObjM.look{h:Heap}{x dx C:Addr}{mA:Str→Option Value}(I:ObjM h x dx C mA):∃od,PySem.W.InstAt h x (iN C dx) C (ae od)∧ ∀name,iw name od=ae (mA name):=
 let ⟨od,ho,hl⟩:=zot I.ns
 ⟨od,⟨I.obj,rfl,rfl,ho⟩,hl⟩
section
variable {P:aF}{w:ax}{H:Hp}{h:Heap}{a C dx:Addr}{fs:List (Str×V)}
theorem zsQ (hok:HOk P w H h) (e:H a=ae (.ins C dx fs)):∃mA,ObjM h a dx C mA∧(∀f,RelO (fs.lookup f) (mA f))∧PySem.Within mA (fs.map (·.1))∧fs.length≤1000∧H dx=ae (.own a):=by
 obtain⟨d,z,ne,ob,mA,n,r,q⟩:=(show ObjOk P w H h a (.ins C dx fs) from hok a _ e);exact⟨mA,⟨ob,n,ne⟩,r,q,z,d⟩
end
structure Cls (K:ai) (C:Addr):Prop where
  pg:jH K C ik=true
  hd:PySem.W.hasDictIn K C=true
  po:PySem.W.plainOver K C=true
  sa:ci K (.ref C) "__setattr__" =ae (ae (.builtin "object.__setattr__"))
theorem Cls.get{K:ai}{C:Addr}(c:Cls K C) (f:Str):jH K C f=true:=c.pg
section
variable {X:Cx}{pins:List (Addr×Obj)}{σ:St}{H:Hp}{s:ah}{A:aM}{E:Value→ah→Prop}{Q:Value→ah→Prop}{c:Value}{b:Bool}
inductive TyOf (K:ai) (H:Hp):V→Value→Prop where
  |non:TyOf K H .non (.type "NoneType")
  |bl (x:Bool):TyOf K H (.bl x) (.type "bool")
  |int (i:Int):TyOf K H (.int i) (.type "int")
  |str (x:Str):TyOf K H (.str x) (.type "str")
  |flt (x:UInt64):TyOf K H (.flt x) (.type "float")
  |lst {a:Addr}{xs:List V}(e:H a=ae (.lst xs)):TyOf K H (.ref a) (.type "list")
  |frz {a:Addr}{o:Obj}{xs:List V}(e:H a=ae (.frz o (.lst xs))):TyOf K H (.ref a) (.type "list")
  |tup {a:Addr}{xs:List V}(e:H a=ae (.tup xs)):TyOf K H (.ref a) (.type "tuple")
  |dK {a:Addr}{kvs:List (Key×V)}(e:H a=ae (.dK kvs)):TyOf K H (.ref a) (.type "dict")
  |dT {a:Addr}{kvs:List (List Key×V)}(e:H a=ae (.dT kvs)):TyOf K H (.ref a) (.type "dict")
  |ins {a C dx:Addr}{fs:List (Str×V)}(e:H a=ae (.ins C dx fs)) (cl:Cls K C) (ha:ci K (.ref C) "__class__" =ae (ae (.builtin "object.__class__")))
      (hn:PySem.W.specialIn K (.builtin "object.__class__") "__get__" =ae (ae (.builtin "getset_descriptor.__get__"))) (htk:PySem.W.takesIn K (.builtin "object.__class__")=ae true)
      (hm:dB K C (.type "object")=ae true):TyOf K H (.ref a) (.ref C)
theorem zpg{x:V}{u t:Value}(I:Inv X pins σ H s) (rx:RelV x u) (ty:TyOf X.K H x t) (e:bQ X.K t c=ae b) (h:∀tk,Q (.bool b) { s with toks:=tk }) :
  am (ap X.prog X.w) A (call (.builtin "isinstance") [u,c]) Q E s:=by
 cases ty with
 |non=>cases(show u=cz from rx);exact b_ PySem.W.kitx_none I.kIn dt e (λz=>nomatch z) h
 |bl y=>cases(show u=dW y from rx);exact b_ PySem.W.kitx_bool I.kIn dt e (λz=>nomatch z) h
 |int i=>obtain⟨t,q⟩:=(show ∃t,u=fJ i t from rx);cases q;exact b_ PySem.W.kitx_int I.kIn dt e (λz=>nomatch z) h
 |str y=>obtain⟨t,q⟩:=(show ∃t,u=eH y t from rx);cases q;exact b_ PySem.W.kitx_str I.kIn dt e (λz=>nomatch z) h
 |flt y=>obtain⟨t,q⟩:=(show ∃t,u=Value.float y t from rx);cases q;exact b_ PySem.W.kitx_float I.kIn dt e (λz=>nomatch z) h
 | @lst a xs ea=>
  cases(show u=br a from rx);obtain⟨_,_,n,_,h1⟩:=(show ObjOk X.prog X.w H s.heap a (.lst xs) from I.hok a _ ea);exact b_ i0 I.kIn ⟨_,h1,rfl⟩ e (λz=>nomatch z) h
 | @frz a ob xs ea=>
  cases(show u=br a from rx);obtain⟨_,_,_,n,_,h1⟩:=(show ObjOk X.prog X.w H s.heap a (.frz ob (.lst xs)) from I.hok a _ ea);exact b_ i0 I.kIn ⟨_,h1,rfl⟩ e (λz=>nomatch z) h
 | @tup a xs ea=>
  cases(show u=br a from rx);obtain⟨_,_,_,p⟩:=(show ObjOk X.prog X.w H s.heap a (.tup xs) from I.hok a _ ea);obtain⟨o,h1,h2,_⟩:=p;exact b_ PySem.W.kitx_tuple I.kIn ⟨o,h1,h2⟩ e (λz=>nomatch z) h
 | @dK a kvs ea=>
  cases(show u=br a from rx);obtain⟨_,_,vs,_,p⟩:=(show ObjOk X.prog X.w H s.heap a (.dK kvs) from I.hok a _ ea);obtain⟨o,es,ep,h1,h2,_⟩:=p;exact b_ jZ I.kIn ⟨o,h1,h2.1⟩ e (λz=>nomatch z) h
 | @dT a kvs ea=>
  cases(show u=br a from rx);obtain⟨_,_,xs,_,o,es,ep,h1,h2,_⟩:=(show ObjOk X.prog X.w H s.heap a (.dT kvs) from I.hok a _ ea);exact b_ jZ I.kIn ⟨o,h1,h2.1⟩ e (λz=>nomatch z) h
 | @ins a C dx fs ea cl ha hn htk hm=>
  cases(show u=br a from rx);obtain⟨mA,O,_⟩:=zsQ I.hok ea;obtain⟨od,J,_⟩:=O.look;exact b_ (PySem.W.kitx_own (cl.get _) cl.hd ha hn htk hm) I.kIn J e (λz=>nomatch z) h
end
structure Room (k:Nat) (A:aM):Prop where
  hd:A.handled=none
  dp:A.depth+3*k+5<recursionLimit
  un:A.units+16*k+200<cLine
theorem Room.deeper{k:Nat}{A:aM}(r:Room (k+1) A) (env:bw):Room k (A.deeper env):=
 ⟨r.hd,by have:=r.dp;show A.depth+1+3*k+5<_;omega,by have:=r.un;show A.units+3+16*k+200<_;omega⟩
theorem Room.depth{k:Nat}{A:aM}(r:Room k A):A.depth<recursionLimit:=by have:=r.dp;omega
theorem Room.units{k:Nat}{A:aM}(r:Room k A):A.units+64<cLine:=by have:=r.un;omega
noncomputable def zzE:TA:=λ_ H Q=>Q [] H
noncomputable def zyi (ta:TE) (tr:TA):TA:=λσ H Q=>ta σ H λx H1=>tr σ H1 λxs H2=>Q (x::xs) H2
section
variable {X:Cx}{e:Expr}{es:List Expr}{te:TE}{t:TA}{pos:ay}
theorem pa_nil:PA X [] zzE:=λ_ _ _ _ H Q I h=>Calls.spliced_nil ⟨[],H,I, .nil,h⟩
theorem zcD (ha:PE X e te) (hr:PA X es t) (hs:ao (e::es) X.env=(false,au e X.env)::ao es X.env:=by rfl):PA X (e::es) (zyi te t):=by
 intro pos pins s σ H Q I h;rw[hs];show am _ _ (spliced ((false,au e X.env)::aP pos (ao es X.env))) _ _ s;refine Calls.spliced_cons (thn (ha pins s σ H _ I h) λu s1 ⟨x,H1,I1,r1,q1⟩=>?_);exact thn (hr pos pins s1 σ H1 _ I1 q1) λus s2 ⟨xs,H2,I2,r2,q2⟩=>⟨x::xs,H2,I2, .cons r1 r2,q2⟩
noncomputable def zAj (t:TA):TE:=λσ H Q=>t σ H λxs H1=>xs.length≤sizeLine∧ ∀p,H1 p=none→Q (.ref p) (upd H1 p (.tup xs))
noncomputable def zzD (t:TA):TE:=λσ H Q=>t σ H λxs H1=>xs.length≤sizeLine∧ ∀p,H1 p=none→Q (.ref p) (upd H1 p (.lst xs))
theorem zvy{x1}(h:PA X es t):PE X (.Tuple es x1 pos) (zAj t):=by
 intro pins s σ H Q I hq;refine wpAny_Tuple_spliced (thn (h pos pins s σ H _ I hq) λus s1 ⟨xs,H1,I1,r,z,q⟩=>⟨by rw[←r.length];exact z,?_⟩);have hf:H1 s1.heap.objs.size=none:=I1.hok.fresh (aB _);refine⟨.ref s1.heap.objs.size,upd H1 s1.heap.objs.size (.tup xs),I1.laid (t':=s1.toks) (λb u e=>aK _ e) (aB _) ?_,rfl,q _ hf⟩;exact⟨z,us,r,⟨_,bt _ rfl,rfl,_,rfl⟩⟩
theorem zxI (h:PA X es t):PE X (.List es pos) (zzD t):=by
 intro pins s σ H Q I hq;refine wpAny_List_spliced (thn (h pos pins s σ H _ I hq) λus s1 ⟨xs,H1,I1,r,z,q⟩=>⟨by rw[←r.length];exact z,?_⟩);have hf:H1 s1.heap.objs.size=none:=I1.hok.fresh (aB _);refine⟨.ref s1.heap.objs.size,upd H1 s1.heap.objs.size (.lst xs),I1.laid (t':=s1.toks) (λb u e=>aK _ e) (aB _) ?_,rfl,q _ hf⟩;exact⟨z,us,0,r,bt _ rfl⟩
end
abbrev Sp:=List V→Hp→VK→XK→Prop
abbrev CXT:=List bw→Hp→ah→XK→Value→ah→Prop
structure Env0 (P:aF) (w:ax) (K:ai) (mg:Str→Option Value) (base:Heap) (A:aM) (outer:List bw) (s:ah) (H:Hp):Prop where
  frames:A.frames=ae outer
  mod:Mod K mg base
  bs:∀b o,base.get? b=ae o→s.heap.get? b=ae o∧H b=none
  bsz:base.objs.size≤s.heap.objs.size
  funs:s.heap.FunFrames base outer
  frf:∀b∈frs outer,H b=none
  hok:HOk P w H s.heap
  bare:bT s.gens
def CE (outer:List bw) (P:aF) (w:ax) (H:Hp) (s:ah) (Q:VK) (u:Value) (s':ah):Prop:=
 ∃v H',s'.os=s.os∧bT s'.gens∧Un (frs outer) [] H H' s.heap s'.heap∧HOk P w H' s'.heap∧RelV v u∧Q v H'
def CR (CX:CXT) (outer:List bw) (P:aF) (w:ax) (H:Hp) (s:ah) (Q:VK) (E:XK) (r:eX) (s':ah):Prop:=
 match r with
 | .ok (.ret u)=>CE outer P w H s Q u s'
 | .ok _=>False
 | .error e=>CX outer H s E e s'
structure FnOk (P:aF) (w:ax) (K:ai) (mg:Str→Option Value) (base:Heap) (CX:CXT) (k:Nat) (f:Addr) (fd:bF) (ps:List Str) (sp:Sp):Prop where
  len:∀vs H Q E,sp vs H Q E→vs.length=ps.length
  run:∀(A:aM) (outer:List bw) (s:ah) (H:Hp) (args:Args) (us:List Value) (vs:List V) (Q:VK) (E:XK),Room k A→Env0 P w K mg base A outer s H→d_ s fd args (ps.zip us)→Vals vs us→sp vs H Q E→
    cU (ap P w) A (.call (.ref f) args) (CR CX outer P w H s Q E) s
section
variable {X:Cx}{pins:List (Addr×Obj)}{σ:St}{H:Hp}{s:ah}
theorem Inv.env0 (I:Inv X pins σ H s):Env0 X.prog X.w X.K X.mg X.base X.A X.stack s H:=
 ⟨I.ok.frames,I.ok.mod,I.bs,bM I.ok.bsz I.sz,I.stack,I.stkFree,I.hok,I.bare⟩
end
def Binds (K:ai) (fd:bF) (ps:List Str) (ds:List Value):Prop:=
 ∀(s:ah) (us:List Value),K.In s.heap→(us++ds).length=ps.length→d_ s fd ⟨us,[]⟩ (ps.zip (us++ds))
theorem Binds.all{K:ai}{fd:bF}{ps:List Str}(h:∀us:List Value,us.length=ps.length→bindArgs fd ⟨us,[]⟩=pure (ps.zip us)):Binds K fd ps []:=λs us _ hl=>by
 rw[bf]at hl⊢;exact .of_eq (h us hl)
structure FnScope (N P:List Str) (sc:Scope):Prop where
  kind:sc.kind= .function
  co:sc.isCoroutine=false
  gen:sc.isGenerator=false
  nd:N.Nodup
  pre:N.take P.length=P
  par:∀x∈P,sc.names.lookup x=ae .local∨sc.names.lookup x=ae .cell
  nofree:∀y∈sc.names,y.2≠ .free
theorem zjf{kindOf:Str→Option bV}{x:Str}:∀{binds:List (Str×Value)}{m:Str→Option Value},(∀v,(x,v)∉binds)→de kindOf binds m x=m x
 | [],_,_=>rfl
 | (n,v)::r,m,h=>by
  unfold de;rw[zjf λw hw=>h w (aH _ hw)];split
  ·have:x≠n:=by rintro rfl;exact h v aN
   simp [this]
  ·rfl
theorem zjA{kindOf:Str→Option bV}{x:Str}:∀{binds:List (Str×Value)}{m:Str→Option Value},(∀v,(x,v)∉binds)→cZ kindOf binds m x=m x
 | [],_,_=>rfl
 | (n,v)::r,m,h=>by
  unfold cZ;rw[zjA λw hw=>h w (aH _ hw)];split
  ·rfl
  ·have:x≠n:=by rintro rfl;exact h v aN
   simp [this]
theorem zjl{kindOf:Str→Option bV}{x:Str}{v:Value}:∀{P:List Str}{vs:List Value}{i:Nat}{m:Str→Option Value},P.Nodup→P[i]? =ae x→vs[i]? =ae v→kindOf x=ae .local→
  de kindOf (P.zip vs) m x=ae v
 | [],_,_,_,_,h,_,_=>by simp at h
 |_::_,[],_,_,_,_,h,_=>by simp at h
 |p::P,w::vs,0,m,nd,h1,h2,hk=>by
  simp at h1 h2;subst h1;subst h2;show de kindOf ((p,w)::P.zip vs) m p=_;unfold de;rw[zjf λv hv=>(dq.mp nd).1 (fy hv).1,if_pos hk];simp
 |p::P,w::vs,i+1,m,nd,h1,h2,hk=>by
  show de kindOf ((p,w)::P.zip vs) m x=_;unfold de;exact zjl (i:=i) (dq.mp nd).2 (by simpa using h1) (by simpa using h2) hk
theorem ziw{kindOf:Str→Option bV}{x:Str}{v:Value}:∀{P:List Str}{vs:List Value}{i:Nat}{m:Str→Option Value},P.Nodup→P[i]? =ae x→vs[i]? =ae v→kindOf x≠ae .local→
  cZ kindOf (P.zip vs) m x=ae v
 | [],_,_,_,_,h,_,_=>by simp at h
 |_::_,[],_,_,_,_,h,_=>by simp at h
 |p::P,w::vs,0,m,nd,h1,h2,hk=>by
  simp at h1 h2;subst h1;subst h2;show cZ kindOf ((p,w)::P.zip vs) m p=_;unfold cZ;rw[zjA λv hv=>(dq.mp nd).1 (fy hv).1,if_neg hk];simp
 |p::P,w::vs,i+1,m,nd,h1,h2,hk=>by
  show cZ kindOf ((p,w)::P.zip vs) m x=_;unfold cZ;exact ziw (i:=i) (dq.mp nd).2 (by simpa using h1) (by simpa using h2) hk
noncomputable def zhy (N:List Str) (vs:List V):St:=vs.map ae++aJ (N.length - vs.length) none
noncomputable def zsV (CX:CXT) (P:aF) (w:ax) (K:ai) (mg:Str→Option Value) (base:Heap) (N:List Str) (qual:Str) (scope:Scope) (f:Addr) (cd:Value) (A:aM) (outer:List bw) (s:ah) (H:Hp) (E:XK):Cx where
  prog:=P
  w:=w
  K:=K
  mg:=mg
  base:=base
  A:=A.deeper (cD qual scope s.heap.objs.size f cd)
  N:=N
  s₀:=s
  H₀:=H
  env:=cD qual scope s.heap.objs.size f cd
  outer:=outer
  stack:=cD qual scope s.heap.objs.size f cd::outer
  ex:=[]
  calm:=true
  fn:=λ_=>true
  pn:=[]
  xe:=λe s'=>am (ap P w) (A.deeper (cD qual scope s.heap.objs.size f cd)) (leaving (cD qual scope s.heap.objs.size f cd) e) (λ_ s''=>CX outer H s E e s'') (λe' s''=>CX outer H s E e' s'') s'
theorem zlL{sc:Scope}{n:Nat}{x:Str}(h:sc.names.lookup x=ae .cell):∃c,(gP n sc.names []).lookup x=ae c:=by
 have q:=j4 sc.names n [] (.inl h);exact eE.mp q
theorem zoI{CX:CXT}{P:aF}{w:ax}{K:ai}{mg:Str→Option Value}{base:Heap}{N ps:List Str}{qual:Str}{scope:Scope}{f:Addr}{cd:Value}{A:aM}{outer:List bw}{s s1:ah}{H:Hp}{E:XK}{us:List Value}{vs:List V}
  (S:FnScope N ps scope) (hd:A.handled=none) (e0:Env0 P w K mg base A outer s H) (hl:vs.length=ps.length) (r:Vals vs us)
  (x:InCallC s s.heap.objs.size (de (cD qual scope s.heap.objs.size f cd).kindOf (ps.zip us) λ_=>none) (gP (s.heap.objs.size+1) scope.names []) (cZ (cD qual scope s.heap.objs.size f cd).kindOf (ps.zip us) λ_=>none) s1) :
  Inv (zsV CX P w K mg base N qual scope f cd A outer s H E) [] (zhy N vs) H s1:=by
 have hpl:ps.length≤N.length:=by have:=congrArg dk S.pre;rw[b9]at this;omega
 obtain⟨h1,tk,rfl,hk⟩:=x.done;have noA:∀b:Addr,b∉(zsV CX P w K mg base N qual scope f cd A outer s H E).ex:=λb z=>absurd (show b∈([]:List Addr) from z) (by simp);refine⟨⟨e0.mod,S.kind,rfl,rfl,aB _,λy z c h1 h2=>?_,λy hy=>?_,λy c _ h=>?_,λ_=>hd,aM.frames_deeper e0.frames, .inr ⟨rfl,rfl⟩,λb z=>absurd z (noA b),e0.bs,e0.bsz,λb _ _=>noA b,λb z=>absurd z (noA b),e0.funs,e0.frf⟩,
  rfl,e0.bare,Un.kept hk,⟨_,x.toInCall.ns,λi y v h1 h2 h3=>?_⟩,λy c h=>⟨_,x.cell y c h⟩,e0.hok.fresh (aB _),λy c h=>?_,λp hp=>absurd (show p∈([]:List (Addr×Obj)) from hp) (by simp),e0.hok.kept hk,?_⟩
 ·exact name_of_addr x.apart (d8 h1) (d8 h2)
 ·have hy:scope.names.lookup y=ae .cell∨scope.names.lookup y=ae .free:=hy;rcases hy with hy |hy
  ·exact zlL hy
  ·exact absurd rfl (S.nofree _ (d8 hy))
 ·exact gZ (x.above y c (d8 h))
 ·have hi:i<vs.length:=by
   unfold zhy at h2;by_cases hi:i<vs.length
   ·exact hi
   ·rw[gK (by simpa using hi)]at h2;rw[kH]at h2;split at h2<;>cases h2
  have ha:vs[i]? =ae v:=by
   unfold zhy at h2;rw[kW (by simpa using hi),aX]at h2;cases e:vs[i]? with
   |none=>rw[e]at h2;cases h2
   |some a=>rw[e]at h2;cases h2;rfl
  obtain⟨u,hu,rv⟩:=r.get ha;have hp:ps[i]? =ae y:=by
   rw[←S.pre,List.getElem?_take_of_lt (by omega)];exact h1
  have ndP:ps.Nodup:=by rw[←S.pre];exact S.nd.sublist (kM _ _)
  refine⟨u,rv,?_⟩;rcases S.par y (a_ hp) with k |k
  ·exact .inl ⟨k,zjl ndP hp hu k⟩
  ·obtain⟨c,e⟩:=zlL (n:=s.heap.objs.size+1) k;refine .inr ⟨.inl k,c,e,?_⟩;have q:=x.cell y c e;rw[ziw ndP hp hu (by show scope.names.lookup y≠_;rw[k];decide)]at q;exact q
 ·exact e0.hok.fresh (gZ (x.above y c (d8 h)))
 ·unfold zhy;show _=N.length;rw[ba,aq,gr];omega
theorem zyB{CX:CXT}{P:aF}{w:ax}{K:ai}{mg:Str→Option Value}{base:Heap}{k:Nat}{f:Addr}{name qual:Str}{params:Arguments}{body:List Stmt}{scope:Scope}{dV kV doc pm cdv ct oc:Value}{an od:Option Addr}
  {osl:Array (Option Value)}{N ps:List Str}{sp:Sp}(lk:K.lookup f=ae ⟨oc,od, .func (dz name qual params body scope dV kV doc pm an cdv ct),osl⟩) (hcd:fQ K cdv qual=true) (S:FnScope N ps scope)
  (len:∀vs H Q E,sp vs H Q E→vs.length=ps.length)
  (hbody:∀(A:aM) (outer:List bw) (s:ah) (H:Hp) (vs:List V) (Q:VK) (E:XK),Room k (A.deeper (cD qual scope s.heap.objs.size f cdv))→sp vs H Q E→
   ∃t,PSs (zsV CX P w K mg base N qual scope f cdv A outer s H E) body t∧t { nx:=λ_ H'=>Q .non H',rt:=Q } (zhy N vs) H) :
  FnOk P w K mg base CX (k+1) f (dz name qual params body scope dV kV doc pm an cdv ct) ps sp:=by
 refine⟨len,λA outer s H args us vs Q E hr e0 hb r hsp=>?_⟩;have hl:=len _ _ _ _ hsp;have KX:K.In s.heap:=e0.mod.kin.keeps λb o e=>(e0.bs b o e).1;have lim:s.heap.NoLimit:=e0.mod.nolimit.keeps λb o e=>(e0.bs b o e).1;have hkind:∀y∈ps.zip us,scope.names.lookup y.1=ae .local∨(scope.names.lookup y.1=ae .cell∧((gP (s.heap.objs.size+1) scope.names []).lookup y.1).isSome=true):=λ⟨n,v⟩ hy=>by
  rcases S.par n (fy hy).1 with q |q
  ·exact .inl q
  ·exact .inr ⟨q,j4 _ _ _ (.inl q)⟩
 refine codeAny_call_function hr.depth (KX _ _ lk) rfl S.co S.gen rfl (PySem.W.codeRec_of KX hcd) (hb _ _ _ _ ?_);refine wpAny_newFunctionEnv_cells S.kind hkind λenv he s1 x=>?_;subst he;refine⟨lim.keeps x.toInCall.keep,codeAny_func ?_⟩;obtain⟨t,ht,hq⟩:=hbody A outer s H vs Q E (hr.deeper _) hsp;have I:Inv (zsV CX P w K mg base N qual scope f cdv A outer s H E) [] (zhy N vs) H s1:=zoI S hr.hd e0 hl r x;refine b3 (ht [] s1 (zhy N vs) H _ I hq) (λfl s' hs=>?_) λe s' hs=>hs;have fin:∀{σ':St}{H':Hp}{v:V}{u:Value},Inv (zsV CX P w K mg base N qual scope f cdv A outer s H E) [] σ' H' s'→RelV v u→Q v H'→CE outer P w H s Q u s':=
  λ{σ' H' v u} J rv q=>⟨v,H',J.os,J.bare,J.base,J.hok,rv,q⟩
 cases fl with
 |ret u=>
  obtain⟨v,σ',H',J,rv,q⟩:=hs;exact fin J rv q
 |next=>
  obtain⟨σ',H',J,q⟩:=hs;exact fin (v:=V.non) (u:=cz) J rfl q
 |brk=>
  obtain⟨_,_,_,q⟩:=hs;exact cr q
 |cont=>
  obtain⟨_,_,_,q⟩:=hs;exact cr q
section
variable {X:Cx}{x:Str}{p pos:ay}{e:Expr}{es:List Expr}{t:TA}{id T:String}{r:List V→Hp→VK→Prop}
noncomputable def tCB (r:List V→Hp→VK→Prop) (t:TA):TE:=λσ H Q=>t σ H λvs H1=>r vs H1 Q
theorem zfJ (hc:CallR X (.builtin id) r) (hg:Gl X x) (hm:X.mg x=none) (hv:bW x=ae (.builtin id)) (ha:PA X (e::es) t) (hn:x≠ "__name__" :=by decide) (hdb:(x == ("__debug__" :Str))=false:=by decide)
  (he:ao (e::es) X.env=(false,au e X.env)::ao es X.env:=by rfl) (hpl:(aP pos (ao es X.env)).any (·.1)=false:=by rfl):PE X (.Call (.Name x p) (e::es) [] pos) (tCB r t):=by
 intro pins s σ H Q I h;refine f9 (zhu I hg hm hv ?_ hn hdb);exact PyProof.Rows.callWith_builtin1 (thn (ha pos pins s σ H _ I h) λus s1 ⟨vs,H1,I1,r1,q1⟩=>hc pins s1 σ H1 vs us Q I1 r1 q1) he hpl
theorem zgx (hc:CallR X (.type T) r) (hg:Gl X x) (hm:X.mg x=none) (hv:bW x=ae (.type T)) (ha:PA X (e::es) t) (hn:x≠ "__name__" :=by decide) (hdb:(x == ("__debug__" :Str))=false:=by decide)
  (he:ao (e::es) X.env=(false,au e X.env)::ao es X.env:=by rfl) (hpl:(aP pos (ao es X.env)).any (·.1)=false:=by rfl):PE X (.Call (.Name x p) (e::es) [] pos) (tCB r t):=by
 intro pins s σ H Q I h;refine f9 (zhu I hg hm hv ?_ hn hdb);exact gb (thn (ha pos pins s σ H _ I h) λus s1 ⟨vs,H1,I1,r1,q1⟩=>hc pins s1 σ H1 vs us Q I1 r1 q1) he hpl
end
end L2
namespace HT
open PySem PyProof.Rows
section
variable {prog:aF}{w:ax}{A:aM}{E:Value→ah→Prop}{s:ah}
theorem cat_tup{t b:Addr}{vs ws:List Value}{Q:Value→ah→Prop}(ht:dM s.heap t vs.toArray) (hb:dM s.heap b ws.toArray) (hv:vs≠ [])
  (h1:ws=[]→Q (.ref t) s) (h2:ws≠ []→Q (.ref s.heap.objs.size) { s with heap:=s.heap.push { cls:= .type "tuple",data:= .seq (vs++ws).toArray } })
  (hsz:vs.length+ws.length≤sizeLine):am (ap prog w) A (bP .Add (.ref t) (.ref b)) Q E s:=by
 obtain⟨⟨cls,dd,data,sl⟩,ho,hc,n,hd⟩:=id ht;obtain⟨⟨cls2,dd2,data2,sl2⟩,ho2,hc2,n2,hd2⟩:=id hb;simp only at hc hd hc2 hd2;subst hc hd hc2 hd2;have e:vs.toArray++ws.toArray=(vs++ws).toArray:=by simp
 by_cases hw:ws=[]
 ·exact gB ⟨_,ho,rfl⟩ ⟨_,ho2,rfl⟩ iE ix gA hV (iI _ _)
   (tuple_addW1 t b vs.toArray ws.toArray n n2 dd dd2 sl sl2 (by simpa using hv) (by simp [hw])) ⟨ho,ho2,h1 hw⟩
 ·refine gB ⟨_,ho,rfl⟩ ⟨_,ho2,rfl⟩ iE ix gA hV (iI _ _)
   (tuple_addW2 t b vs.toArray ws.toArray n n2 dd dd2 sl sl2 (by simpa using hv) (by simpa using hw) (by rw[aQ,aQ];exact hsz)) ⟨ho,ho2,?_⟩
  rw[e];exact h2 hw
noncomputable def sIx (n d:Nat):Option Int→Nat
 |none=>d
 |some v=>if v<0 then(v+(n:Int)).toNat else min v.toNat n
theorem sIx_none (n d:Nat):sIx n d none=d:=rfl
theorem sIx_nat (n d k:Nat):sIx n d (ae (k:Int))=min k n:=by
 show(if(k:Int)<0 then((k:Int)+(n:Int)).toNat else min (k:Int).toNat n)=min k n;rw[if_neg (by omega),bK]
theorem sIx_le (n d:Nat) (hd:d≤n) (o:Option Int):sIx n d o≤n:=by
 cases o with
 |none=>exact hd
 |some v=>
  show(if v<0 then(v+(n:Int)).toNat else min v.toNat n)≤n;by_cases hv:v<0
  ·rw[if_pos hv];omega
  ·rw[if_neg hv];exact Nat.min_le_right _ _
theorem znw (v:Int) (n d:Nat):(if v<0 then max (v+(n:Int)) 0 else min v (n:Int))=((sIx n d (ae v):Nat):Int):=by
 show(if v<0 then max (v+(n:Int)) 0 else min v (n:Int))=(((if v<0 then(v+(n:Int)).toNat else min v.toNat n):Nat):Int);by_cases hv:v<0
 ·simp only[if_pos hv];omega
 ·simp only[if_neg hv];omega
theorem zmV (lo hi:Option Int) (n:Nat):iQ lo hi 1 (n:Int)=(((sIx n 0 lo:Nat):Int),((sIx n n hi:Nat):Int)):=by
 have h1:¬((1:Int)<0):=by omega
 unfold iQ;simp only[h1,if_false];refine Prod.ext ?_ ?_
 ·cases lo with
  |none=>rfl
  |some v=>exact znw v n 0
 ·cases hi with
  |none=>rfl
  |some v=>exact znw v n n
theorem zmv (i j:Nat):gh (i:Int) (j:Int) 1=j - i:=by
 unfold gh;have h1:(1:Int) > 0:=by omega
 simp only[h1,if_true,Int.ediv_one];split<;>omega
theorem zhq{v:Value}{o:Option Int}{Q:Option Int→ah→Prop}(p:cN v o) (h:Q o s):am (ap prog w) A (bD.Slice.slicePartIndex v) Q E s:=by
 cases p with
 |none=>exact kQ h
 |int i t=>exact slicePart_int h
theorem sliceApplied_gen{sl:Addr}{vl vu:Value}{lo hi:Option Int}{n:Nat}{Q:Int×Int×Nat→ah→Prop}(hs:s.heap.IsSliceOf sl vl vu .none) (pl:cN vl lo) (pu:cN vu hi)
  (h:Q (((sIx n 0 lo:Nat):Int),1,sIx n n hi - sIx n 0 lo) s):am (ap prog w) A (kF (.ref sl) (pure (n:Int))) Q E s:=by
 obtain⟨os,hos,hcs,hds⟩:=id hs;unfold kF bD.Slice.sliceFields;refine ak (ak (bB hos hds (x:=vl) rfl (ak (bB hos hds (x:=vu) rfl (ak (bB hos hds (x:= .none) rfl (aE ?_)))))));refine ak (kQ ?_);show am _ _ (if((1:Int) == 0)=true then _ else _) _ _ s;rw[if_neg (by decide)];refine ak (zhq pl (ak (zhq pu (ak (aE ?_)))));show am _ _ (match iQ lo hi 1 (n:Int) with | (lo,hi)=>pure (lo,(1:Int),gh lo hi 1)) _ _ s;rw[zmV lo hi n];show am _ _ (pure (((sIx n 0 lo:Nat):Int),(1:Int),gh ((sIx n 0 lo:Nat):Int) ((sIx n n hi:Nat):Int) 1)) _ _ s;rw[zmv];exact aE h
theorem zrg (xs:Array Value) (i k:Nat):((aO k).filterMap λ(m:Nat)=>xs[((i:Int)+(m:Int)*1).toNat]?).toArray=((xs.toList.drop i).take k).toArray:=by
 have e:(λ(m:Nat)=>xs[((i:Int)+(m:Int)*1).toNat]?)=λm=>xs[i+m]? :=by
  funext m;have:((i:Int)+(m:Int)*1).toNat=i+m:=by omega
  rw[this]
 rw[e];have:=ip xs i k;rw[List.filterMap_map]at this;have e2:((λx=>xs[x]?)∘λx=>i+x)=λm=>xs[i+m]? :=rfl;rw[e2]at this;rw[this]
theorem getItem_tuple_cut{t sl:Addr}{items:Array Value}{vl vu:Value}{lo hi:Option Int}{Q:Value→ah→Prop}(ht:dM s.heap t items) (hs:s.heap.IsSliceOf sl vl vu .none) (pl:cN vl lo) (pu:cN vu hi)
  (hw:¬(sIx items.size 0 lo=0∧sIx items.size items.size hi=items.size))
  (h:Q (.ref s.heap.objs.size) { s with heap:=s.heap.push { cls:= .type "tuple",data:= .seq ((items.toList.drop (sIx items.size 0 lo)).take (sIx items.size items.size hi - sIx items.size 0 lo)).toArray } })
  (hsz:items.size≤sizeLine):am (ap prog w) A (dr (.ref t) (.ref sl)) Q E s:=by
 have htake:sizeOk (.seq ((items.toList.drop (sIx items.size 0 lo)).take (sIx items.size items.size hi - sIx items.size 0 lo)).toArray):=by
  show((items.toList.drop (sIx items.size 0 lo)).take (sIx items.size items.size hi - sIx items.size 0 lo)).toArray.size≤sizeLine;rw[aQ,b9,ck,gJ];omega
 have hj:sIx items.size items.size hi≤items.size:=sIx_le _ _ (aB _) hi;obtain⟨os,hos,hcs,hds⟩:=id hs;have hTs:s.TypeIs (.ref sl) "slice" :=⟨os,hos,hcs⟩;unfold dr
 try with_reducible refine fL ?_
 first |refine ak (aE ?_) |skip
 refine ak (jo ht.typeIs (by decide) ?_);refine ak (df (name:=bu "__getitem__") ht.typeIs d7
  (c7 d7 ht.typeIs iX ?_ (ko _ _)))
 show am _ _ (j7 (.ref t) >>= _) _ _ s;refine ak (tupleItemsOf_ ht ?_);refine ak (fu hTs ?_);rw[if_pos (by decide)];refine ak (sliceApplied_gen hs pl pu ?_);have hno:¬((((sIx items.size 0 lo:Nat):Int) == 0&&(1:Int) == 1&&(sIx items.size items.size hi - sIx items.size 0 lo) == items.size)=true):=by
  intro q;rw[ce,ce]at q;have q1:((sIx items.size 0 lo:Nat):Int)=0:=gf q.1.1;have q2:sIx items.size items.size hi - sIx items.size 0 lo=items.size:=gf q.2;exact hw ⟨by omega,by omega⟩
 show am _ _ (if(((sIx items.size 0 lo:Nat):Int) == 0&&(1:Int) == 1&&(sIx items.size items.size hi - sIx items.size 0 lo) == items.size)=true then _ else _) _ _ s;rw[if_neg hno,zrg]
 first
  |exact ak (m:=ge _) (eB (aE ⟨_,rfl,aE h⟩) htake)
  |exact ak (m:=ge _) (eB (ak (aE (aE ⟨_,rfl,aE h⟩))) htake)
  |exact ak (ak (m:=ge _) (eB (aE (aE ⟨_,rfl,aE h⟩)) htake))
  |exact ak (ak (m:=ge _) (eB (aE ⟨_,rfl,aE h⟩) htake))
end
end HT
namespace L2
open PySem PySem.Spec PyProof.Rows
abbrev TO:=St→Hp→(Option Int→Hp→Prop)→Prop
def PO (X:Cx) (e:Option Expr) (t:TO):Prop:=
 ∀(pins:List (Addr×Obj)) (s:ah) (σ:St) (H:Hp) (Q:Option Int→Hp→Prop),Inv X pins σ H s→t σ H Q→
  am (ap X.prog X.w) X.A (evalPart e X.env) (λu s'=>∃o H',Inv X pins σ H' s'∧cN u o∧Q o H') X.xe s
noncomputable def zsJ:TO:=λ_ H Q=>Q none H
noncomputable def zzh (t:TE):TO:=λσ H Q=>t σ H λx H1=>∃i,x= .int i∧Q (ae i) H1
section
variable {X:Cx}{e:Expr}{te:TE}{lo hi:Option Expr}{tl th:TO}{pos p2:ay}
theorem po_none:PO X none zsJ:=by
 intro pins s σ H Q I h;rw[evalPart_none];exact aE ⟨none,H,I, .none,h⟩
theorem ztJ (h:PE X e te):PO X (ae e) (zzh te):=by
 intro pins s σ H Q I hw;rw[evalPart_some];refine thn (h pins s σ H _ I hw) λu s1 ⟨x,H1,I1,r1,q1⟩=>?_;obtain⟨i,rfl,q⟩:=q1;obtain⟨t,rfl⟩:=r1;exact⟨ae i,H1,I1, .int i t,q⟩
def SlR (X:Cx) (r:V→Option Int→Option Int→Hp→VK→Prop):Prop:=
 ∀(pins:List (Addr×Obj)) (s:ah) (σ:St) (H:Hp) (x:V) (v vl vu:Value) (lo hi:Option Int) (sl:Addr) (Q:VK),Inv X pins σ H s→RelV x v→s.heap.IsSliceOf sl vl vu .none→cN vl lo→cN vu hi→r x lo hi H Q→
  ∃T id,im (.type T) "__getitem__" =pure (ae (.builtin id))∧s.TypeIs v T∧am (ap X.prog X.w) X.A (dr v (.ref sl)) (EP X pins σ Q) X.xe s
theorem SlR.or{r r':V→Option Int→Option Int→Hp→VK→Prop}(h:SlR X r) (h':SlR X r'):SlR X (λx lo hi H Q=>r x lo hi H Q∨r' x lo hi H Q):=by
 intro pins s σ H x v vl vu lo hi sl Q I rx hs pl pu q;rcases q with q |q
 ·exact h pins s σ H x v vl vu lo hi sl Q I rx hs pl pu q
 ·exact h' pins s σ H x v vl vu lo hi sl Q I rx hs pl pu q
noncomputable def tSl (r:V→Option Int→Option Int→Hp→VK→Prop) (te:TE) (tl th:TO):TE:=λσ H Q=>te σ H λx H1=>tl σ H1 λl H2=>th σ H2 λu H3=>r x l u H3 Q
theorem zmm{r:V→Option Int→Option Int→Hp→VK→Prop}(hr:SlR X r) (he:PE X e te) (hl:PO X lo tl) (hu:PO X hi th):PE X (.Subscript e (.Slice lo hi none p2) pos) (tSl r te tl th):=by
 intro pins s σ H Q I h;refine Subscript_ (thn (he pins s σ H _ I h) λv s1 ⟨x,H1,I1,r1,q1⟩=>?_);refine wpAny_Slice (thn (hl pins s1 σ H1 _ I1 q1) λvl s2 ⟨l,H2,I2,pl,q2⟩=>thn (hu pins s2 σ H2 _ I2 q2) λvu s3 ⟨u,H3,I3,pu,q3⟩=>?_);rw[evalPart_none];refine aE ?_;have I4:Inv X pins σ H3 { s3 with heap:=s3.heap.push { cls:= .type "slice",data:= .fields #[vl,vu, .none] } }:=I3.kept (t':=s3.toks) λb ob q=>aK _ q;obtain⟨T,id,hT,ht,hg⟩:=hr pins { s3 with heap:=s3.heap.push { cls:= .type "slice",data:= .fields #[vl,vu, .none] } } σ H3 x v vl vu l u s3.heap.objs.size Q I4 r1 (Heap.IsSliceOf.new ..) pl pu q3;show am (ap X.prog X.w) X.A (subscriptTail e (.Slice lo hi none p2) v (.ref s3.heap.objs.size)) (EP X pins σ Q) X.xe { s3 with heap:=s3.heap.push { cls:= .type "slice",data:= .fields #[vl,vu, .none] } };exact tail_any (ops:=[.ref s3.heap.objs.size,v]) ht hT hg (by with_unfolding_all rfl)
noncomputable def zpn (xs:List V) (lo hi:Option Int):List V:=(xs.drop (HT.sIx xs.length 0 lo)).take (HT.sIx xs.length xs.length hi - HT.sIx xs.length 0 lo)
theorem zgw (xs:List V) (lo hi:Option Int):(zpn xs lo hi).length≤xs.length:=by
 unfold zpn;rw[b9,ck];omega
def zzJ (K:ai):V→Option Int→Option Int→Hp→VK→Prop:=λx lo hi H Q=>∃a xs,x= .ref a∧SqT K H a xs∧
 ¬(HT.sIx xs.length 0 lo=0∧HT.sIx xs.length xs.length hi=xs.length)∧ ∀p,H p=none→Q (.ref p) (upd H p (.tup (zpn xs lo hi)))
theorem zwT:SlR X (zzJ X.K):=by
 intro pins s σ H x v vl vu lo hi sl Q I rx hs pl pu h;obtain⟨a,xs,rfl,hx,hw,q⟩:=h;cases rx;obtain⟨its,r,ht,hz⟩:=I.tuple hx;have hlen:its.toArray.size=xs.length:=by rw[aQ];exact r.length.symm
 refine⟨"tuple",_,d7.lookup,ht.typeIs,?_⟩;refine HT.getItem_tuple_cut ht hs pl pu (by rw[hlen];exact hw) ?_ (by rw[hlen];exact hz);rw[hlen];refine⟨.ref s.heap.objs.size,_,I.laid (t':=s.toks) (o:= .tup (zpn xs lo hi)) (λb ob q=>aK _ q) (aB _) ?_,rfl,q _ (I.hok.fresh (aB _))⟩;exact⟨bM (zgw xs lo hi) hz,_,(r.drop (HT.sIx xs.length 0 lo)).take (HT.sIx xs.length xs.length hi - HT.sIx xs.length 0 lo),gj _ _⟩
noncomputable def ztP (K:ai):R2:=λx y H Q=>∃a b xs ys,x= .ref a∧y= .ref b∧SqT K H a xs∧SqT K H b ys∧xs≠ []∧xs.length+ys.length≤sizeLine∧
 (ys=[]→Q (.ref a) H)∧(ys≠ []→ ∀p,H p=none→Q (.ref p) (upd H p (.tup (xs++ys))))
theorem Vals.nil_iff{xs:List V}{us:List Value}(r:Vals xs us):us=[]↔xs=[]:=by
 cases r with
 |nil=>simp
 |cons _ _=>simp
theorem op_catT:OpR X (bP .Add) (ztP X.K):=by
 intro pins s σ H x y v u Q I rx ry h;obtain⟨a,b,xs,ys,rfl,rfl,ha,hb,hx,hz,q1,q2⟩:=h;cases rx;cases ry;obtain⟨its,r1,p1,_⟩:=I.tuple ha;obtain⟨its2,r2,p2,_⟩:=I.tuple hb;refine HT.cat_tup p1 p2 (λz=>hx (r1.nil_iff.mp z)) (λz=>⟨.ref a,H,I,rfl,q1 (r2.nil_iff.mp z)⟩) (λz=>?_) (by rw[←r1.length,←r2.length];exact hz);refine⟨.ref s.heap.objs.size,_,I.laid (t':=s.toks) (o:= .tup (xs++ys)) (λb ob q=>aK _ q) (aB _) ?_,rfl,q2 (λw=>z (r2.nil_iff.mpr w)) _ (I.hok.fresh (aB _))⟩;exact⟨by rw[ba];exact hz,_,r1.append r2,gj _ _⟩
end
noncomputable def ixN (n:Nat) (i:Int):Option Nat:=if 0≤i then(if i<n then ae i.toNat else none) else if -(n:Int)≤i then ae (i+n).toNat else none
noncomputable def atI {α:Type}(xs:List α) (i:Int):Option α:=(ixN xs.length i).bind λj=>xs[j]?
theorem zty{n:Nat}{i:Int}{j:Nat}(h:ixN n i=ae j):seqIndex? i n=ae j∧j<n∧ -(n:Int)≤i∧i<n:=by
 unfold ixN at h;by_cases h0:0≤i
 ·rw[if_pos h0]at h;by_cases h1:i<n
  ·rw[if_pos h1]at h;have e:i.toNat=j:=aG h;exact⟨by rw[seqIndex_of h0 h1,e],by omega,by omega,h1⟩
  ·rw[if_neg h1]at h;cases h
 ·rw[if_neg h0]at h;by_cases h1: -(n:Int)≤i
  ·rw[if_pos h1]at h;have e:(i+n).toNat=j:=aG h;exact⟨by rw[seqIndex_neg (by omega) h1,e],by omega,h1,by omega⟩
  ·rw[if_neg h1]at h;cases h
theorem zkC{α:Type}{xs:List α}{i:Int}{v:α}(h:atI xs i=ae v):∃j,seqIndex? i xs.length=ae j∧xs[j]? =ae v∧j<xs.length∧ -(xs.length:Int)≤i∧i<xs.length:=by
 unfold atI at h;cases e:ixN xs.length i with
 |none=>rw[e]at h;cases h
 |some j=>
  rw[e]at h;obtain⟨h1,h2,h3,h4⟩:=zty e;exact⟨j,h1,h,h2,h3,h4⟩
theorem zuw{α:Type}{xs:List α}{j:Nat}{v:α}(h:xs[j]? =ae v):atI xs (j:Int)=ae v:=by
 have hj:j<xs.length:=(bL.mp h).1;have e:ixN xs.length (j:Int)=ae j:=by
  unfold ixN;rw[if_pos (by omega),if_pos (by omega)];simp
 unfold atI;rw[e];exact h
def zku (b:Expr):Prop:=∀o i,subscripted b false o i=operate [o,i] (dr o i)
def IxR (X:Cx) (r:R2):Prop:=
 ∀(value slice:Expr) (pins:List (Addr×Obj)) (s:ah) (σ:St) (H:Hp) (x y:V) (v u:Value) (Q:VK),Inv X pins σ H s→RelV x v→RelV y u→r x y H Q→
  subscripted slice false v u=operate [v,u] (dr v u)→am (ap X.prog X.w) X.A (subscriptTail value slice v u) (EP X pins σ Q) X.xe s
def MtR (X:Cx) (id:String) (r:V→List V→Hp→VK→Prop):Prop:=
 ∀(pins:List (Addr×Obj)) (s:ah) (σ:St) (H:Hp) (x:V) (xs:List V) (v:Value) (us:List Value) (Q:VK),Inv X pins σ H s→RelV x v→Vals xs us→r x xs H Q→
  am (ap X.prog X.w) X.A (call (.builtin id) (v::us)) (EP X pins σ Q) X.xe s
section
variable {X:Cx}{a b:Expr}{ta tb:TE}{pos:ay}
theorem IxR.or{r r':R2}(h:IxR X r) (h':IxR X r'):IxR X (λx y H Q=>r x y H Q∨r' x y H Q):=by
 intro value slice pins s σ H x y v u Q I rx ry q hs;rcases q with q |q
 ·exact h value slice pins s σ H x y v u Q I rx ry q hs
 ·exact h' value slice pins s σ H x y v u Q I rx ry q hs
theorem MtR.or{id:String}{r r':V→List V→Hp→VK→Prop}(h:MtR X id r) (h':MtR X id r'):MtR X id (λx xs H Q=>r x xs H Q∨r' x xs H Q):=by
 intro pins s σ H x xs v us Q I rx rs q;rcases q with q |q
 ·exact h pins s σ H x xs v us Q I rx rs q
 ·exact h' pins s σ H x xs v us Q I rx rs q
theorem zwE{r:R2}(hr:IxR X r) (ha:PE X a ta) (hb:PE X b tb) (hs:zku b):PE X (.Subscript a b pos) (tOp r ta tb):=by
 intro pins s σ H Q I h;exact Subscript_ (zyU ha hb I h λv u s2 x y H2 I2 rx ry q=>hr a b pins s2 σ H2 x y v u Q I2 rx ry q (hs _ _))
noncomputable def zzB (K:ai):R2:=λx y H Q=>∃p xs i v,x= .ref p∧y= .int i∧SqL K H p xs∧atI xs i=ae v∧Q v H
noncomputable def zzA (K:ai):R2:=λx y H Q=>∃p xs i v,x= .ref p∧y= .int i∧SqT K H p xs∧atI xs i=ae v∧Q v H
noncomputable def zzw:R2:=λx y H Q=>∃z i c,x= .str z∧y= .int i∧z.length≤sizeLine∧atI z.cps.toList i=ae c∧Q (.str ⟨#[c]⟩) H
theorem ix_list:IxR X (zzB X.K):=by
 intro value slice pins s σ H x y v u Q I rx ry h hs;obtain⟨p,xs,i,z,rfl,rfl,hq,he,q⟩:=h;cases rx;obtain⟨t,rfl⟩:=ry;obtain⟨its,r,pl,hz⟩:=I.list hq;obtain⟨j,h1,h2,h3,h4,h5⟩:=zkC he;obtain⟨w,ew,rw'⟩:=r.get h2;have hl:=r.length;have hn:=zhn;have fin:EP X pins σ Q w s:=⟨z,H,I,rw',q⟩;by_cases h0:0≤i
 ·have hj:i.toNat=j:=by
   rw[seqIndex_of h0 h5]at h1;exact aG h1
  exact item_listR pl.isList h0 (by omega) (by rw[hj];simpa using ew) fin hs
 ·have hj:(i+(its.toArray.size:Int)).toNat=j:=by
   rw[seqIndex_neg (by omega) h4]at h1;rw[aQ,←hl];exact aG h1
  exact jM (x:=w) pl.isList.typeIs ke.lookup
   (wpAny_getItem_list_neg (Q:=λr s'=>r=w∧EP X pins σ Q r s') pl.isList (by omega) (by rw[aQ]<;>omega) (by omega) (by rw[hj];simpa using ew) ⟨rfl,fin⟩) hs
theorem ix_tup:IxR X (zzA X.K):=by
 intro value slice pins s σ H x y v u Q I rx ry h hs;obtain⟨p,xs,i,z,rfl,rfl,hq,he,q⟩:=h;cases rx;obtain⟨t,rfl⟩:=ry;obtain⟨its,r,pl,hz⟩:=I.tuple hq;obtain⟨j,h1,h2,h3,h4,h5⟩:=zkC he;obtain⟨w,ew,rw'⟩:=r.get h2;have hl:=r.length;have hn:=zhn;have fin:EP X pins σ Q w s:=⟨z,H,I,rw',q⟩;exact jM (x:=w) pl.typeIs slot_tuple_getitem.lookup
  (getItem_tuple (j:=j) (Q:=λr s'=>r=w∧EP X pins σ Q r s') pl (by omega) (by omega) (by rw[aQ,←hl];exact h1) (by simpa using ew) ⟨rfl,fin⟩) hs
theorem zwz:IxR X zzw:=by
 intro value slice pins s σ H x y v u Q I rx ry h hs;obtain⟨z,i,c,rfl,rfl,hz,he,q⟩:=h;obtain⟨t,rfl⟩:=rx;obtain⟨t',rfl⟩:=ry;obtain⟨j,h1,h2,h3,h4,h5⟩:=zkC he;have hl:z.cps.toList.length=z.length:=by simp [gM]
 rw[hl]at h1 h4 h5;have hn:=zhn;exact tail_any (gR s z t) slot_str_getitem.lookup (getItem_str (c:=c) (by
  have e1:decide (i< -(2 ^ 63:Int))=false:=decide_eq_false (by omega);have e2:decide (i≥2 ^ 63)=false:=decide_eq_false (by omega);rw[e1,e2,j_]) (by rw[h1];simpa using h2) ⟨.str ⟨#[c]⟩,H,I.tok _,⟨_,rfl⟩,q⟩) hs
noncomputable def rIx (K:ai):R2:=λx y H Q=>zzB K x y H Q∨zzA K x y H Q∨zzw x y H Q
theorem zsx:IxR X (rIx X.K):=ix_list.or (ix_tup.or zwz)
theorem ziS (lo hi:Option Int) (n:Nat):(dy lo hi none n).1=((HT.sIx n 0 lo:Nat):Int)∧(dy lo hi none n).2.1=((HT.sIx n n hi:Nat):Int)∧(dy lo hi none n).2.2=1:=by
 refine⟨?_,?_,rfl⟩
 ·cases lo with
  |none=>simp [dy,HT.sIx]
  |some i=>
   simp only[dy,HT.sIx,kR,show(1:Int) > 0 by decide,if_true]
   by_cases h:i<0
   ·simp only[h,if_true]<;>omega
   ·simp only[h,if_false]<;>omega
 ·cases hi with
  |none=>simp [dy,HT.sIx]
  |some i=>
   simp only[dy,HT.sIx,kR,show(1:Int) > 0 by decide,if_true]
   by_cases h:i<0
   ·simp only[h,if_true]<;>omega
   ·simp only[h,if_false]<;>omega
theorem zhI (its:List Value) (lo hi:Option Int):slicePick its.toArray lo hi none=((its.drop (HT.sIx its.length 0 lo)).take (HT.sIx its.length its.length hi - HT.sIx its.length 0 lo)).toArray:=by
 obtain⟨h1,h2,h3⟩:=ziS lo hi its.toArray.size;unfold slicePick;rw[h1,h2,h3];simp only[iD,ip,aQ]<;>rfl
def zAo (K:ai):V→Option Int→Option Int→Hp→VK→Prop:=λx lo hi H Q=>∃a xs,x= .ref a∧SqL K H a xs∧ ∀p,H p=none→Q (.ref p) (upd H p (.lst (zpn xs lo hi)))
theorem zoL:SlR X (zAo X.K):=by
 intro pins s σ H x v vl vu lo hi sl Q I rx hs pl pu h;obtain⟨a,xs,rfl,hx,q⟩:=h;cases rx;obtain⟨its,r,ht,hz⟩:=I.list hx;have hlen:=r.length;refine⟨"list",_,ke.lookup,ht.isList.typeIs,?_⟩;refine wpAny_getItem_list_slice ht.isList hs pl pu .none (by simp) ?_ (by rw[aQ]<;>omega);rw[zhI,←hlen];refine⟨.ref s.heap.objs.size,_,I.laid (t':=s.toks) (o:= .lst (zpn xs lo hi)) (λb ob q=>aK _ q) (aB _) ?_,rfl,q _ (I.hok.fresh (aB _))⟩;exact⟨bM (zgw xs lo hi) hz,_,0,(r.drop (HT.sIx xs.length 0 lo)).take (HT.sIx xs.length xs.length hi - HT.sIx xs.length 0 lo),bt _ rfl⟩
theorem call_len_seq:CallR X (.builtin "len") (λxs H Q=>∃p ys,xs=[.ref p]∧(SqL X.K H p ys∨SqT X.K H p ys)∧Q (.int ys.length) H):=by
 intro pins s σ H xs us Q I r h;obtain⟨p,ys,rfl,hq,q⟩:=h;obtain⟨u,rfl,rx⟩:=zil r;cases rx;have hn:=zhn;rcases hq with hq |hq
 ·obtain⟨its,r',pl,hz⟩:=I.list hq;have hlen:=r'.length;exact Calls.call_len_list pl.isList (by simp only[aQ]<;>omega) ⟨.int ys.length,H,I.tok _,⟨s.toks+1,by rw[aQ,hlen]⟩,q⟩
 ·obtain⟨its,r',pl,hz⟩:=I.tuple hq;have hlen:=r'.length;exact len_tuple pl (by simp only[aQ]<;>omega) ⟨.int ys.length,H,I.tok _,⟨s.toks+1,by rw[aQ,hlen]⟩,q⟩
theorem zjr:CallR X (.builtin "len") (λxs H Q=>∃z,xs=[.str z]∧z.length≤sizeLine∧Q (.int z.length) H):=by
 intro pins s σ H xs us Q I r h;obtain⟨z,rfl,hz,q⟩:=h;obtain⟨u,rfl,t,rfl⟩:=zil r;have hn:=zhn;exact len_str (by omega) ⟨.int z.length,H,I.tok _,⟨_,rfl⟩,q⟩
theorem CallR.or{f:Value}{r r':List V→Hp→VK→Prop}(h:CallR X f r) (h':CallR X f r'):CallR X f (λxs H Q=>r xs H Q∨r' xs H Q):=by
 intro pins s σ H xs us Q I rs q;rcases q with q |q
 ·exact h pins s σ H xs us Q I rs q
 ·exact h' pins s σ H xs us Q I rs q
theorem ziv:CallR X (.type "list") (λxs H Q=>∃p ys,xs=[.ref p]∧(SqL X.K H p ys∨SqT X.K H p ys)∧ ∀l,H l=none→Q (.ref l) (upd H l (.lst ys))):=by
 intro pins s σ H xs us Q I r h;obtain⟨p,ys,rfl,hq,q⟩:=h;obtain⟨u,rfl,rx⟩:=zil r;cases rx;have fin:∀(its:List Value),Vals ys its→ys.length≤sizeLine→ ∀(h':Heap) (c':Nat),(∀b o',s.heap.get? b=ae o'→h'.get? b=ae o')→
   h'.get? s.heap.objs.size=ae { cls:= .type "list",dict:=none,data:= .seq its.toArray c',slots:= #[] }→EP X pins σ Q (.ref s.heap.objs.size) { s with heap:=h' }:=λits r' hz h' c' kp e=>
  ⟨.ref s.heap.objs.size,_,I.laid (t':=s.toks) kp (aB _) (show ObjOk X.prog X.w _ h' _ (.lst ys) from⟨hz,its,c',r',e⟩),rfl,q _ (I.hok.fresh (aB _))⟩
 rcases hq with hq |hq
 ·obtain⟨its,r',pl,hz⟩:=I.list hq;have hlen:=r'.length;obtain⟨o,ho,hc,n,hd⟩:=pl.isList;exact call_list_seq p (.inl rfl) ho hc hd (λh' c' kp e=>fin its r' hz h' c' kp e) (by simp only[aQ]<;>omega)
 ·obtain⟨its,r',pl,hz⟩:=I.tuple hq;have hlen:=r'.length;obtain⟨o,ho,hc,n,hd⟩:=pl;exact call_list_seq p (.inr rfl) ho hc hd (λh' c' kp e=>fin its r' hz h' c' kp e) (by simp only[aQ]<;>omega)
theorem zeN:CallR X (.type "tuple") (λxs H Q=>∃p ys,xs=[.ref p]∧((SqL X.K H p ys∧ ∀l,H l=none→Q (.ref l) (upd H l (.tup ys)))∨(SqT X.K H p ys∧Q (.ref p) H))):=by
 intro pins s σ H xs us Q I r h;obtain⟨p,ys,rfl,h⟩:=h;obtain⟨u,rfl,rx⟩:=zil r;cases rx;rcases h with⟨hq,q⟩ |⟨hq,q⟩
 ·obtain⟨its,r',pl,hz⟩:=I.list hq;have hlen:=r'.length;refine call_tuple_list pl.isList (λh' kp=>?_) (by simp only[aQ]<;>omega);have I1:Inv X pins σ H { s with heap:=h' }:=I.kept (t':=s.toks) kp;have I2:Inv X pins σ (upd H h'.objs.size (.tup ys)) { s with heap:=h'.push { cls:= .type "tuple",data:= .seq its.toArray } }:=
   I1.laid (t':=s.toks) (λb o e=>aK _ e) (aB _) (show ObjOk X.prog X.w _ _ _ (.tup ys) from⟨hz,its,r',gj _ _⟩)
  exact⟨.ref h'.objs.size,_,I2,rfl,q _ (I1.hok.fresh (aB _))⟩
 ·obtain⟨its,r',pl,hz⟩:=I.tuple hq;exact call_tuple_same pl ⟨.ref p,H,I,rfl,q⟩
def tyV (K:ai) (T:String) (x:V) (H:Hp):Prop:=match x with
 | .str _=>T= "str"
 | .int _=>T= "int"
 | .ref p=>(T= "list" ∧ ∃xs,SqL K H p xs)∨(T= "tuple" ∧ ∃o,K.lookup p=ae o∧o.cls= .type "tuple" ∧o.dict=none)∨
   (T= "dict" ∧((∃kvs,H p=ae (.dK kvs))∨ ∃kvs,H p=ae (.dT kvs)))∨(T= "set" ∧ ∃S n,H p=ae (.set S n))
 |_=>False
theorem zsl{pins:List (Addr×Obj)}{σ:St}{H:Hp}{s:ah}{T:String}{x:V}{v:Value}(I:Inv X pins σ H s) (r:RelV x v) (ty:tyV X.K T x H) :
  s.TypeIs v T∧ ∀a,v= .ref a→ ∃ob,s.heap.get? a=ae ob∧ob.dict=none:=by
 cases x with
 |str z=>
  obtain⟨t,rfl⟩:=r;cases(show T= "str" from ty);exact⟨gR s z t,λ_ e=>nomatch e⟩
 |int i=>
  obtain⟨t,rfl⟩:=r;cases(show T= "int" from ty);exact⟨fh s i t,λ_ e=>nomatch e⟩
 |ref p=>
  cases r;rcases ty with⟨rfl,xs,hq⟩ |⟨rfl,o,hk,hc,hd⟩ |⟨rfl,hk⟩ |⟨rfl,S,n,hk⟩
  ·obtain⟨its,_,pl,_⟩:=I.list hq;refine⟨pl.isList.typeIs,λa e=>?_⟩;cases e;obtain⟨o,n,e,c,hd,_⟩:=pl;exact⟨o,e,hd⟩
  ·refine⟨⟨o,I.kIn p o hk,hc⟩,λa e=>?_⟩;cases e;exact⟨o,I.kIn _ o hk,hd⟩
  ·have z:∃o,s.heap.get? p=ae o∧o.ExactDict:=by
    rcases hk with⟨kvs,hk⟩ |⟨kvs,hk⟩
    ·obtain⟨_,_,_,_,o,_,_,e,ex,_⟩:=I.hok p _ hk;exact⟨o,e,ex⟩
    ·obtain⟨_,_,_,_,o,_,_,e,ex,_⟩:=I.hok p _ hk;exact⟨o,e,ex⟩
   obtain⟨o,e,ex⟩:=z;refine⟨⟨o,e,ex.1⟩,λa e2=>?_⟩;cases e2;exact⟨o,e,ex.2.1⟩
  ·obtain⟨o,_,_,_,e,ex,_⟩:=I.hok p _ hk;refine⟨⟨o,e,ex.1⟩,λa e2=>?_⟩;cases e2;exact⟨o,e,ex.2.1⟩
 |_=>exact cr ty
noncomputable def zzP (K:ai) (T:String) (r:V→List V→Hp→VK→Prop) (to:TE):TE:=λσ H Q=>to σ H λx H1=>tyV K T x H1∧r x [] H1 Q
noncomputable def tBM (K:ai) (T:String) (r:V→List V→Hp→VK→Prop) (to:TE) (t:TA):TE:=λσ H Q=>to σ H λx H1=>tyV K T x H1∧t σ H1 λxs H2=>r x xs H2 Q
variable {o e:Expr}{es:List Expr}{to:TE}{t:TA}{name:Str}{apos cpos:ay}{T id:String}{r:V→List V→Hp→VK→Prop}
theorem zxy (pa:fj T) (slot:Slot T name id) (hty:d6 (.builtin id)=pure (.type "method_descriptor")) (hm:MtR X id r) (ho:PE X o to)
  (hbase:cR o name X.env (au o X.env)=au o X.env:=by rfl) (hline:(apos.endLine == cpos.line)=true:=by rfl):PE X (.Call (.Attribute o name apos) [] [] cpos) (zzP X.K T r to):=by
 intro pins s σ H Q I h;refine wpAny_Call_method0_late hbase hline (thn (ho pins s σ H _ I h) λv s1 ⟨x,H1,I1,r1,ty,q1⟩=>?_);obtain⟨h1,h2⟩:=zsl I1 r1 ty;exact⟨T,id,pa,slot,hty,h1,h2,kr rfl (PySem.evalArgs_none (hm pins s1 σ H1 x [] v [] Q I1 r1 .nil q1))⟩
theorem zvc (pa:fj T) (slot:Slot T name id) (hty:d6 (.builtin id)=pure (.type "method_descriptor")) (hm:MtR X id r) (ho:PE X o to) (ha:PA X (e::es) t)
  (hbase:cR o name X.env (au o X.env)=au o X.env:=by rfl)
  (hfew:((aP cpos (ao (e::es) X.env)).all (λx=> !x.1)&&(dZ cpos (dO [] X.env)).all (λx=>x.1.isSome)
   &&decide ((e::es).length+([]:List b8).length+(if([]:List b8).isEmpty then 0 else 1)<30))=true:=by rfl)
  (hline:(apos.endLine == cpos.line)=true:=by rfl) (hs:ao (e::es) X.env=(false,au e X.env)::ao es X.env:=by rfl) (hplain:(aP cpos (ao es X.env)).any (·.1)=false:=by rfl) :
  PE X (.Call (.Attribute o name apos) (e::es) [] cpos) (tBM X.K T r to t):=by
 intro pins s σ H Q I h;refine wpAny_Call_method_late hbase hfew hline rfl (thn (ho pins s σ H _ I h) λv s1 ⟨x,H1,I1,r1,ty,q1⟩=>?_);obtain⟨h1,h2⟩:=zsl I1 r1 ty;refine⟨T,id,pa,slot,hty,h1,h2,?_⟩;have hA:=ha cpos pins s1 σ H1 _ I1 q1;rw[hs]at hA⊢;refine kr (by show(false || (aP cpos (ao es X.env)).any (·.1))=false;rw[hplain]<;>rfl) (j5 ?_)
 exact thn hA λus s2 ⟨vs,H2,I2,r2,q2⟩=>hm pins s2 σ H2 x vs v us Q I2 r1 r2 q2
end
def MtM (X:Cx) (id:String) (r:V→List V→Hp→VK→Prop):Prop:=
 ∀(pins:List (Addr×Obj)) (s:ah) (σ:St) (H:Hp) (x:V) (xs:List V) (v:Value) (us:List Value) (Q:VK),Inv X pins σ H s→RelV x v→Vals xs us→r x xs H Q→
  am (ap X.prog X.w) X.A (call (.builtin id) (v::us)) (EP X pins σ Q) X.xe s
theorem Vals.one:∀{x:V}{us:List Value},Vals [x] us→ ∃u,us=[u]∧RelV x u
 |_,_, .cons r .nil=>⟨_,rfl,r⟩
theorem Vals.rep{xs:List V}{us:List Value}(h:Vals xs us):∀k:Nat,Vals (aJ k xs).flatten (aJ k us).flatten
 |0=> .nil
 |k+1=>by
  rw[cf,cf,dE,dE];exact Vals.append h (Vals.rep h k)
theorem zgB (its:List Value):∀(k:Nat) (acc:List Value),
  dL (λx1 x2=>x1++x2) acc.toArray (aJ k its.toArray)=(acc++(aJ k its).flatten).toArray
 |0,acc=>by simp
 |k+1,acc=>by
  have e:acc.toArray++its.toArray=(acc++its).toArray:=by simp
  have e2:(acc++its)++(aJ k its).flatten=acc++(aJ (k+1) its).flatten:=by
   rw[cf,dE,bI]
  rw[←e2,←zgB its k (acc++its),←e,cf,dP]
section
variable {X:Cx}{pins:List (Addr×Obj)}{σ:St}{H:Hp}{s:ah}{l:Addr}{xs ys:List V}
theorem Inv.lset{its its':List Value}{n:Nat}{f:Array Value→Array Value}{t':Nat}(I:Inv X pins σ H s) (hH:H l=ae (.lst xs))
  (e:s.heap.get? l=ae { cls:= .type "list",data:= .seq its.toArray n }) (hf:f its.toArray=its'.toArray) (hv:Vals ys its') (hz:ys.length≤sizeLine) :
  Inv X pins σ (upd H l (.lst ys)) { s with heap:=s.heap.update l (gO f),toks:=t' }:=by
 have q:=PySem.IsL.update e f;rw[hf]at q;refine I.write (x:=l) (e:=l) (by rw[hH];exact trivial) (.inl rfl) (λb' u hb hu=>(Heap.get?_update_other s.heap (gO f) (bg hb)).trans hu) ⟨_,q⟩ ?_;exact⟨hz,its',_,hv,q⟩
theorem Inv.lnew{its:List Value}{t':Nat}(I:Inv X pins σ H s) (hv:Vals ys its) (hz:ys.length≤sizeLine) :
  Inv X pins σ (upd H s.heap.objs.size (.lst ys)) { s with heap:=s.heap.push { cls:= .type "list",data:= .seq its.toArray },toks:=t' }:=
 I.laid (λ_ _ q=>aK _ q) (aB _) ⟨hz,its,0,hv,bt _ rfl⟩
theorem Inv.fresh (I:Inv X pins σ H s):H s.heap.objs.size=none:=I.hok.fresh (aB _)
theorem Inv.lstM (I:Inv X pins σ H s) (hH:H l=ae (.lst xs)):xs.length≤sizeLine∧ ∃(its:List Value) (n:Nat),Vals xs its∧xs.length=its.length∧s.heap.get? l=ae { cls:= .type "list",data:= .seq its.toArray n }:=by
 obtain⟨z,its,n,r,e⟩:=I.hok l _ hH;exact⟨z,its,n,r,r.length,e⟩
theorem zhz{n:Nat}(h:n≤sizeLine):eA n=false:=by
 unfold eA;exact decide_eq_false (by omega)
end
section
variable {X:Cx}
def zoF:V→List V→Hp→VK→Prop:=λx vs H Q=>∃l xs y,x= .ref l∧vs=[y]∧H l=ae (.lst xs)∧xs.length<sizeLine∧Q .non (upd H l (.lst (xs++[y])))
theorem zir:MtM X "list.append" zoF:=by
 intro pins s σ H x vs v us Q I rx rv h;obtain⟨l,xs,y,rfl,rfl,hH,hz,q⟩:=h;cases rx;obtain⟨u,rfl,ru⟩:=rv.one;obtain⟨z,its,n,r,hl,e⟩:=I.lstM hH;refine cH F.slot_list_append ⟨_,e,rfl⟩ F.entry_list_append (F.args_list_append_2 _ _) (PySem.list_append l its.toArray n u (by rw[aQ];omega)) ⟨e,?_⟩;refine⟨.non,_,I.lset (its':=its++[u]) hH e (by simp) (r.append (.cons ru .nil)) ?_,rfl,q⟩;rw[ba,fA];omega
def znV:V→List V→Hp→VK→Prop:=λx vs H Q=>∃l b xs zs,x= .ref l∧vs=[.ref b]∧H l=ae (.lst xs)∧H b=ae (.lst zs)∧xs.length+zs.length≤sizeLine∧Q .non (upd H l (.lst (xs++zs)))
theorem znr:MtM X "list.extend" znV:=by
 intro pins s σ H x vs v us Q I rx rv h;obtain⟨l,b,xs,zs,rfl,rfl,hH,hB,hz,q⟩:=h;cases rx;obtain⟨u,rfl,ru⟩:=rv.one;cases ru;obtain⟨z,its,n,r,hl,e⟩:=I.lstM hH;obtain⟨z2,its2,n2,r2,hl2,e2⟩:=I.lstM hB;have hsz:its.toArray.size+its2.toArray.size≤sizeLine:=by rw[aQ,aQ];omega
 have hlong:¬(!its.toArray.isEmpty&&eA (its.toArray.size+its2.toArray.size))=true:=by
  rw[zhz hsz,fT];exact cX
 refine cH kz ⟨_,e,rfl⟩ j3 (jE _ _)
  (AutoSeq1.list_extend_list_list_0 l its.toArray n b its2.toArray n2 hlong (by rw[aQ];omega) (by omega)) ⟨e,e2,?_⟩
 refine⟨.non,_,I.lset (its':=its++its2) hH e (by simp) (r.append r2) ?_,rfl,q⟩;rw[ba];omega
noncomputable def zze:R2:=λx y H Q=>∃l b xs zs,x= .ref l∧y= .ref b∧H l=ae (.lst xs)∧H b=ae (.lst zs)∧xs.length+zs.length≤sizeLine∧ ∀p,H p=none→Q (.ref p) (upd H p (.lst (xs++zs)))
theorem zmn:OpR X (bP .Add) zze:=by
 intro pins s σ H x y v u Q I rx ry h;obtain⟨l,b,xs,zs,rfl,rfl,hH,hB,hz,q⟩:=h;cases rx;cases ry;obtain⟨z,its,n,r,hl,e⟩:=I.lstM hH;obtain⟨z2,its2,n2,r2,hl2,e2⟩:=I.lstM hB;refine PySem.P.add_list e e2 ?_ (by rw[aQ,aQ];omega);have ea:its.toArray++its2.toArray=(its++its2).toArray:=by simp
 rw[ea];exact⟨.ref _,_,I.lnew (t':=s.toks) (r.append r2) (by rw[ba];omega),rfl,q _ I.fresh⟩
noncomputable def zzZ:R2:=λx y H Q=>∃l k xs,x= .ref l∧y= .int k∧H l=ae (.lst xs)∧ -(2 ^ 63)≤k∧k<2 ^ 63∧xs.length*k.toNat≤sizeLine∧
 ∀p,H p=none→Q (.ref p) (upd H p (.lst (aJ k.toNat xs).flatten))
theorem znu{α:Type}(xs:List α) (k:Nat):(aJ k xs).flatten.length=k*xs.length:=by
 induction k with
 |zero=>simp
 |succ k ih=>rw[cf,dE,ba,ih,Nat.succ_mul,gV]
theorem zwc:OpR X (bP .Mult) zzZ:=by
 intro pins s σ H x y v u Q I rx ry h;obtain⟨l,k,xs,rfl,rfl,hH,h1,h2,hz,q⟩:=h;cases rx;obtain⟨t,rfl⟩:=ry;obtain⟨z,its,n,r,hl,e⟩:=I.lstM hH;have hlen:its.toArray.size*k.toNat≤sizeLine:=by rw[aQ,←hl];exact hz
 have hcap:¬its.toArray.size*k.toNat > (2 ^ 63 - 1) / 8:=by
  have:(sizeLine:Nat)≤(2 ^ 63 - 1) / 8:=by decide
  omega
 have hfit:¬(!Builtin.List.listFitsIndex k)=true:=by
  rw[fitsIndex_both h1 h2];exact cX
 have hlong:¬eA (its.toArray.size*k.toNat)=true:=by
  rw[zhz hlen];exact cX
 have hnew:dL (λx1 x2=>x1++x2) #[] (aJ (if its.toArray.isEmpty=true then 0 else k.toNat) its.toArray)=(aJ k.toNat its).flatten.toArray:=by
  have f0:∀m:Nat,dL (λx1 x2=>x1++x2) #[] (aJ m its.toArray)=(aJ m its).flatten.toArray:=λm=>by
   have:=zgB its m [];rw[aR]at this;exact this
  rw[f0];cases its with
  |nil=>simp
  |cons a r'=>rw[if_neg (by simp)]
 refine jh (T:= "list") (U:= "int") (by decide) ⟨_,e,rfl⟩ (λs'=>fh s' k t) noFill_list_mul jD fU repeat_list ki.lookup
  (cH fU (fh s k t) jf (kS _ _) (int___rmul___int_list k t l its.toArray n)
   ⟨e,rfl,⟨_,e,rfl⟩,cH F.slot_list_mul ⟨_,e,rfl⟩ F.entry_list_mul (F.args_list_mul_2 _ _) (AutoListH.list___mul___list_int_3 l its.toArray n k t hfit hcap hlong) ⟨e,?_⟩⟩)
 rw[hnew];exact⟨.ref _,_,I.lnew (t':=s.toks) (r.rep k.toNat) (by rw[znu,iv];exact hz),rfl,q _ I.fresh⟩
end
end L2
namespace Att
open PySem PySem.W PySem.Calls PyProof.Rows
theorem zgJ{P:fV}{h:Heap}:∀(ns:List Int) (vs:List Value),WellAll P h vs (ns.map WData.int)→eK vs ns:=by
 intro ns
 induction ns with
 |nil=>
  intro vs w;rw[cw]at w;cases w;exact .nil
 |cons n ns ih=>
  intro vs w;rw[aD]at w;cases w with
  |cons a b=>
   cases a;exact .cons _ _ (ih _ b)
theorem zoK{l:OpenLaw}{n:Nat}(hn:l.most=ae n) {P:fV}{h:Heap}{args:List WData}{vals:List Value}
  (hpre:l.row.toRowW.claim.pre args=true) (hwl:WellAll P h vals args) :
  ∃a vs ns,vals=[br a]∧args=[WData.list (ns.map WData.int)]∧h.get? a=ae { cls:= .type "list",data:= .seq vs.toArray }∧eK vs ns∧ns.length≤n:=by
 have hsh:WShape.hasAll [] args [.list .int]=true:=(pre_splitW hpre).1;have hc:l.pre.holds [] { args:=args }=true:=(pre_splitW hpre).2;obtain⟨d,r,rfl,h1,h2⟩:=hasAllW_cons hsh;obtain rfl:=hasAllW_nil h2;obtain⟨xs,rfl,h3⟩:=hasW_list h1;obtain⟨ns,rfl⟩:=items_int h3;have hlen:ns.length≤n:=by
  unfold OpenLaw.pre at hc;have h4:(WTm.not (.lt (.lit (.int (n:Int))) (.len (.arg 0)))).holds [] { args:=[.list (ns.map .int)] }=true:=by
   have h4:=(holds_andW hc).1;rw[hn]at h4;exact h4
  have h5:=condW_of h4 (w_not (w_lt w_lit (w_len_list (w_arg rfl))));rw[aq]at h5;refine jF λq=>?_;have q':(n:Int)<((ns.length:Nat):Int):=by omega
  first
   | (rw[decide_eq_true q']at h5;exact absurd h5 (by decide))
   | (simp at h5;omega)
 cases hwl with
 |cons w1 w2=>
  cases w2;cases w1 with
  |list ho hall=>exact⟨_,_,ns,rfl,rfl,ho,zgJ ns _ hall,hlen⟩
theorem zpz (l:OpenLaw) (args:List WData):l.row.toRowW.claim.post args (.bool true) args=true:=
 postW_of (r:=l.row.toRowW) (X:=(true == true))
  (show WShape.has [] (.bool true) .bool=true by first |rfl |decide |simp [WShape.has,WShape.arms,WShape.armsAll])
  (show(WTm.eq .res (.lit (.bool true))).value [] { args:=args,res:=ae (.bool true),after:=args }=ae (.bool (true == true)) from w_eq_bool (w_res rfl) w_lit) rfl
theorem attach_call{l:OpenLaw}{n:Nat}{q:aF}{loose:List Str}{XP:(Str→Option Value)→Heap→Prop}{YP:ax→Heap→Prop}{d:DefRec}
  (hn:l.most=ae n) (hdf:d.params.defaults=[])
  (call:∀(w:ax) (s₀ s₁:ah) (mg mb:Str→Option Value) (fa:Addr) (o:Obj) (pm cd doc:Value) (a:Addr) (vs:List Value) (ns:List Int),
   Ground q loose [] XP w s₀ mg mb s₁.heap→YP w s₁.heap→
   s₁.heap.get? fa=ae o→o.data= .func (docDef d.name d.params d.body d.scope pm cd doc)→s₁.heap.CodeRec cd d.name→mg d.name=ae (.ref fa)→
   s₁.heap.get? a=ae { cls:= .type "list",data:= .seq vs.toArray }→eK vs ns→ns.length≤n→s₁.gens= #[]→
   cU (ap l.prog w) dv (.call (.ref fa) ⟨[.ref a],[]⟩) (λr s'=>r= .ok (.ret (.bool true))∧OldK s₁.heap s'.heap∧s'.os=s₁.os∧bT s'.gens) s₁) :
  WalkO q loose XP YP l.row.toRowW d [] (λf vs=>hU f vs):=by
 intro w s₀ s₁ mg mb G Y fa o pm cd doc dV kV ho hd hcd hD hmg hg args vals as hpre hlay hrd hwl hlo;obtain rfl:dV= .none:=Dflts.none hD hdf;obtain rfl:kV= .none:=Dflts.noKw hD;obtain⟨a,vs,ns,rfl,rfl,hobj,hints,hlen⟩:=zoK hn hpre hwl;refine enter_call (ic (call w s₀ s₁ mg mb fa o pm cd doc a vs ns G Y ho (fd_plain hd) hcd hmg hobj hints hlen hg) λr s' hq=>?_);obtain⟨rfl,h2,h3,h4⟩:=hq;exact⟨.inl ⟨.bool true, .bool true,[],rfl,λ_=>rfl, .bool true,zpz l _,λ_=>⟨jY.nil,λ_ hm=>(nomatch hm)⟩⟩,h2,h3,h4⟩
end Att
namespace L2
open PySem PySem.Spec PyProof.Rows
theorem zjx:∀{vs:List Value}{ns:List Int},eK vs ns→Vals (ns.map V.int) vs
 |_,_, .nil=> .nil
 |_,_, .cons n t h=> .cons ⟨t,rfl⟩ (zjx h)
def zxS (H:Hp):Prop:=∀b,H b=none∨ ∃o xs,H b=ae (.frz o (.lst xs))
theorem zqF{P:aF}{w:ax}{K:ai}{mg mb:Str→Option Value}{CX:CXT}{k:Nat}{fa a:Addr}{fd:bF}{x:Str}{sp:Sp}{s₁:ah}{vs:List Value}{ns:List Int}
  (KX:K.In s₁.heap) (hns:s₁.heap.Ns aL mg) (hb:s₁.heap.Ns ir mb) (hbb:∀x:Str,x≠ "__name__" →mb x=bW x) (hlim:s₁.heap.NoLimit) (hg:s₁.gens= #[])
  (ha:s₁.heap.get? a=ae { cls:= .type "list",data:= .seq vs.toArray }) (hi:eK vs ns) (hl:ns.length≤sizeLine) (hr:Room k dv)
  (F:∀base:Heap,K.In base→base.Ns aL mg→FnOk P w K mg base CX k fa fd [x] sp) (hbind:∀(s:ah) (u:Value),d_ s fd ⟨[u],[]⟩ [(x,u)])
  (hsp:∀H:Hp,zxS H→SqL K H a (ns.map V.int)→sp [.ref a] H (λv _=>v= .bl true) λ_ _ _=>False)
  (hCX:∀H e s',CX [] H s₁ (λ_ _ _=>False) e s'→False) :
  cU (ap P w) dv (.call (.ref fa) ⟨[.ref a],[]⟩) (λr s'=>r= .ok (.ret (.bool true))∧OldK s₁.heap s'.heap∧s'.os=s₁.os∧bT s'.gens) s₁:=by
 have rv:=zjx hi;have lenV:=hi.length;have core:∀H:Hp,zxS H→SqL K H a (ns.map V.int)→HOk P w H s₁.heap→(∀b,H b≠none→b=a)→(H a≠none→K.lookup a=none)→
   cU (ap P w) dv (.call (.ref fa) ⟨[.ref a],[]⟩) (λr s'=>r= .ok (.ret (.bool true))∧OldK s₁.heap s'.heap∧s'.os=s₁.os∧bT s'.gens) s₁:=by
  intro H hO hS hok hA hK;have base_of:∀{b:Addr}{o:Obj},s₁.heap.get? b=ae o→H b=none→(zrk s₁.heap H).get? b=ae o:=λe n=>zqJ e n;have noA:∀{b:Addr}{o:Obj}{es:Array DictEntry}{ep:Nat},s₁.heap.get? b=ae o→o.data= .dict es ep→H b=none:=λ{b o es ep} e d=>by
   cases q:H b with
   |none=>rfl
   |some u=>
    have e':b=a:=hA b (by rw[q];simp);subst e';rw[ha]at e;cases e;have d':Data.seq vs.toArray _=Data.dict es ep:=d;cases d'
  have nsK:∀{b:Addr}{m:Str→Option Value},s₁.heap.Ns b m→(zrk s₁.heap H).Ns b m:=λ{b m} ⟨o,es,ep,e,d,r⟩=>⟨o,es,ep,base_of e (noA e d),d,r⟩;have hKb:K.In (zrk s₁.heap H):=λb o e=>base_of (KX b o e) (by
   cases q:H b with
   |none=>rfl
   |some u=>
    have e':b=a:=hA b (by rw[q];simp);subst e';rw[hK (by rw[q];simp)]at e;cases e)
  have hM:Mod K mg (zrk s₁.heap H):=⟨hKb,nsK hns,⟨mb,nsK hb,hbb⟩,let ⟨mc,h1,h2⟩:=hlim;⟨mc,nsK h1,h2⟩⟩;have e0:Env0 P w K mg (zrk s₁.heap H) dv [] s₁ H:=⟨rfl,hM,λb o e=>ztK e,fe (zoi _ _),trivial,λb hb=>absurd (show b∈([]:List Addr) from hb) (by simp),hok, .of_eq hg⟩;refine ic ((F _ hKb (nsK hns)).run dv [] s₁ H ⟨[.ref a],[]⟩ [.ref a] [.ref a] _ _ hr e0 (hbind s₁ (.ref a)) (.cons rfl .nil) (hsp H hO hS)) λr s' h=>?_;cases r with
  |error e=>exact(hCX H e s' h).elim
  |ok fl=>
   cases fl with
   |next=>exact cr h
   |brk=>exact cr h
   |cont=>exact cr h
   |ret u=>
    obtain⟨v,H',os,bare,un,hok',r',q⟩:=h;have q':v= .bl true:=q;subst q';obtain rfl:u=dW true:=r';refine⟨rfl,OldK.of_keep λb o e=>?_,os,bare⟩;cases q:H b with
    |none=>exact un.keep b o e q (by intro z;exact absurd (show b∈([]:List Addr) from z) (by simp)) (by simp)
    |some u=>
     rcases hO b with z |⟨ob,xs,z⟩
     ·rw[q]at z;cases z
     ·have z2:=un.frzs b ob _ z;obtain⟨e1,_⟩:=hok b _ z;obtain⟨e2,_⟩:=hok' b _ z2;rw[e]at e1;cases e1;exact e2
 cases hk:K.lookup a with
 |some o=>
  have e:=KX a o hk;rw[ha]at e;cases e;refine core (λ_=>none) (λ_=> .inl rfl) (.inr ⟨_,vs.toArray,_,hk,rfl,rfl,rfl,by rw[aQ,lenV];exact hl,by simpa using rv⟩) (λb u z=>by have z':(none:Option HO)=ae u:=z;cases z') (λb z=>absurd rfl z) λz=>absurd rfl z
 |none=>
  refine core (λb=>if b=a then ae (.frz { cls:= .type "list",data:= .seq vs.toArray } (.lst (ns.map V.int))) else none) (λb=>?_) (.inl (.inr ⟨{ cls:= .type "list",data:= .seq vs.toArray },if_pos rfl⟩)) (λb u z=>?_) (λb z=>?_) λ_=>hk
  ·by_cases hb:b=a
   ·exact .inr ⟨_,_,if_pos hb⟩
   ·exact .inl (if_neg hb)
  ·by_cases hb:b=a
   ·have z':=(if_pos hb).symm.trans z;cases z';subst hb;exact⟨ha,by rw[aq];exact hl,vs,_,rv,ha⟩
   ·have z':=(if_neg hb).symm.trans z;cases z'
  ·by_cases hb:b=a
   ·exact hb
   ·exact absurd (if_neg hb) z
theorem ztn{l:iC}{n k:Nat}{q:aF}{loose:List Str}{XP:(Str→Option Value)→Heap→Prop}{YP:ax→Heap→Prop}{d:DefRec}{K:fV→ai}{CX:ax→CXT}{sp:ax→Sp}{x:Str}
  (hn:l.most=ae n) (hn2:n≤sizeLine) (hdf:d.params.defaults=[]) (hr:Room k dv)
  (hY:∀(w:ax) (h:Heap),YP w h→(K w.params).In h)
  (F:∀(w:ax) (mg:Str→Option Value) (fa:Addr) (h:Heap),(K w.params).In h→h.Ns aL mg→mg d.name=ae (.ref fa)→
   ∃fd:bF,(∀(s:ah) (u:Value),d_ s fd ⟨[u],[]⟩ [(x,u)])∧
    ∀base:Heap,(K w.params).In base→base.Ns aL mg→FnOk l.prog w (K w.params) mg base (CX w) k fa fd [x] (sp w))
  (hsp:∀(w:ax) (H:Hp) (a:Addr) (ns:List Int),ns.length≤n→zxS H→SqL (K w.params) H a (ns.map V.int)→sp w [.ref a] H (λv _=>v= .bl true) λ_ _ _=>False)
  (hCX:∀(w:ax) (H:Hp) (s:ah) (e:Value) (s':ah),CX w [] H s (λ_ _ _=>False) e s'→False) :
  j8 q loose XP YP l.row.toRowW d [] (λf vs=>hU f vs):=by
 refine Att.attach_call hn hdf λw s₀ s₁ mg mb fa o pm cd doc a vs ns G Y ho hd hcd hmg hobj hints hlen hg=>?_;have KX:=hY w _ Y;obtain⟨fd,hb,hF⟩:=F w mg fa _ KX G.T.g hmg;exact zqF KX G.T.g G.T.b G.T.builtins G.T.nolimit hg hobj hints (bM hlen hn2) hr hF hb (λH hO hS=>hsp w H a ns hlen hO hS) λH e s'=>hCX w H s₁ e s'
noncomputable def zgk (s:Stmt):Arguments:=match s with
 | .FunctionDef _ a _ _ _ _ _ _ _ _=>a
 |_=>{ posonlyargs:=[],args:=[],vararg:=none,kwonlyargs:=[],kw_defaults:=[],kwarg:=none,defaults:=[] }
noncomputable def zfk (s:Stmt):List Stmt:=match s with
 | .FunctionDef _ _ b _ _ _ _ _ _ _=>b
 |_=>[]
noncomputable def zal (s:Stmt):Scope:=match s with
 | .FunctionDef _ _ _ _ _ _ sc _ _ _=>sc
 |_=>{ kind:= .function,names:=[],isGenerator:=false,isCoroutine:=false }
structure Fun (K:ai) (x qual:Str) (st:Stmt) (f:Addr) (fd:bF):Prop where
  ex:∃(oc:Value) (od:Option Addr) (kV doc pm:Value) (an:Option Addr) (cdv ct:Value) (osl:Array (Option Value)),
    fd=dz x qual (zgk st) (zfk st) (zal st) .none kV doc pm an cdv ct∧K.lookup f=ae ⟨oc,od, .func fd,osl⟩∧fQ K cdv qual=true
  kp:dQ K (.ref f)=true
section
variable {K:ai}
theorem Fun.binds{x qual:Str}{st:Stmt}{f:Addr}{fd:bF}{ps:List Str}(F:Fun K x qual st f fd)
  (h:∀(kV doc pm:Value) (an:Option Addr) (cdv ct:Value) (us:List Value),us.length=ps.length→bindArgs (dz x qual (zgk st) (zfk st) (zal st) .none kV doc pm an cdv ct) ⟨us,[]⟩=pure (ps.zip us)):Binds K fd ps []:=by
 obtain⟨oc,od,kV,doc,pm,an,cdv,ct,osl,rfl,lk,hcd⟩:=F.ex;exact .all (h kV doc pm an cdv ct)
theorem zwo{x qual:Str}{st:Stmt}{f:Addr}{oc:Value}{od an:Option Addr}{osl:Array (Option Value)}{kV doc pm cdv ct:Value}(l:K.lookup f=ae ⟨oc,od, .func (dz x qual (zgk st) (zfk st) (zal st) .none kV doc pm an cdv ct),osl⟩)
  (c:fQ K cdv qual=true) (k:dQ K (.ref f)=true):Fun K x qual st f (dz x qual (zgk st) (zfk st) (zal st) .none kV doc pm an cdv ct):=⟨⟨oc,od,kV,doc,pm,an,cdv,ct,osl,rfl,l,c⟩,k⟩
end
section
variable {X:Cx}
theorem pv (i:Nat) {x:Str}{pos:ay}(hN:X.N[i]? =ae x:=by rfl) (hv:Vis X.env.scope x:=by first |exact aj rfl |exact b4 (aj rfl) |exact b4 (b4 rfl)) (hd:(x == ("__debug__" :Str))=false:=by decide)
  (hcd:(x == ("__classdict__" :Str))=false:=by decide):PE X (.Name x pos) (zzv i):=zny hN hv hd hcd
end
theorem zAh{A B:Prop}(h:B):if false=true then A else B:=by
 rw[if_neg cX];exact h
theorem zzQ{A B:Prop}(h:A):if true=true then A else B:=by
 rw[if_pos rfl];exact h
def Same (H H':Hp):Prop:=∀b o,H b=ae o→H' b=ae o
theorem Same.trans{H H1 H2:Hp}(a:Same H H1) (b:Same H1 H2):Same H H2:=λc o h=>b c o (a c o h)
section
variable {κ:Type} [DecidableEq κ]
noncomputable def zlJ (kvs:List (κ×V)) (k:κ):Option V:=(kvs.find? λkv=>decide (kv.1=k)).map (·.2)
noncomputable def zoD (kvs:List (κ×V)) (k:κ) (v:V):List (κ×V):=
 if(kvs.any λkv=>decide (kv.1=k))=true then kvs.map (λkv=>if kv.1=k then(kv.1,v) else kv) else kvs++[(k,v)]
theorem zfS{p:κ×V}{r:List (κ×V)}{k:κ}(e:p.1=k):zlJ (p::r) k=ae p.2:=by simp [zlJ,bS,e]
theorem zfI{p:κ×V}{r:List (κ×V)}{k:κ}(e:¬p.1=k):zlJ (p::r) k=zlJ r k:=by simp [zlJ,bS,e]
theorem zls (k:κ):∀kvs:List (κ×V),(kvs.any λkv=>decide (kv.1=k))=(zlJ kvs k).isSome
 | []=>rfl
 |p::r=>by
  rw[dN];by_cases e:p.1=k
  ·simp only[zfS e,decide_eq_true e,Bool.true_or,kf]
  ·rw[zfI e,decide_eq_false e,kX];exact zls k r
theorem zkN (kvs:List (κ×V)) (k:κ) (v:V):(zoD kvs k v).length≤kvs.length+1:=by
 unfold zoD;split
 ·rw[aq];omega
 ·rw[ba,aV,ef];omega
theorem RelO.isSome_eq{o:Option V}{u:Option Value}(r:RelO o u):o.isSome=u.isSome:=by
 cases o with
 |none=>cases u with
  |none=>rfl
  |some _=>exact(show False from r).elim
 |some _=>cases u with
  |none=>exact(show False from r).elim
  |some _=>rfl
theorem RelO.getD{o:Option V}{u:Option Value}{d:V}{d':Value}(r:RelO o u) (rd:RelV d d'):RelV (o.getD d) (u.getD d'):=by
 cases o with
 |none=>cases u with
  |none=>exact rd
  |some _=>exact(show False from r).elim
 |some _=>cases u with
  |none=>exact(show False from r).elim
  |some _=>exact r
theorem KV.val{kvs:List (κ×V)}{vs:List (κ×Value)}(r:KV kvs vs) (k:κ):RelO (zlJ kvs k) (dR vs k):=by
 unfold KV at r
 induction r with
 |nil=>exact dt
 | @cons p q ps qs h t ih=>
  obtain⟨h1,h2⟩:=h;by_cases e:p.1=k
  ·have e':q.1=k:=h1.symm.trans e;have b:dR (q::qs) k=ae q.2:=by simp [dR,bS,e']
   rw[zfS e,b];exact h2
  ·have e':¬q.1=k:=λz=>e (h1.trans z);have b:dR (q::qs) k=dR qs k:=by simp [dR,bS,e']
   rw[zfI e,b];exact ih
theorem KV.length{kvs:List (κ×V)}{vs:List (κ×Value)}(r:KV kvs vs):kvs.length=vs.length:=eO r
end
theorem zvW{P:aF}{w:ax}{k:Key}{u:Value}(r:RelV (kV k) u):(zbr P w).is k u=true:=by
 cases k with
 |inl i=>obtain⟨t,e⟩:=(show ∃t,u=fJ i t from r);subst e;exact zki P w i t
 |inr x=>obtain⟨t,e⟩:=(show ∃t,u=eH x t from r);subst e;exact zkH P w x t
theorem zjh{P:aF}{w:ax}:∀{ks:List Key}{us:List Value},Vals (ks.map kV) us→ItemsAre (zbr P w) ks us
 | [],_,r=>by rw[cw]at r;cases r;exact .nil
 |k::ks,_,r=>by
  rw[aD]at r;cases r with
  |cons h t=>exact .cons (zvW h) (zjh t)
noncomputable abbrev KT (H:Hp):List (List Key×V)→List (List Key×Addr×Value)→Prop:=bR λp q=>p.1=q.1∧H q.2.1=ae (.tup (p.1.map kV))∧RelV p.2 q.2.2
theorem KT.val{H:Hp}{kvs:List (List Key×V)}{xs:List (List Key×Addr×Value)}(r:KT H kvs xs) (k:List Key):RelO (zlJ kvs k) ((di xs k).map (·.2)):=by
 induction r with
 |nil=>exact dt
 | @cons p q ps qs h t ih=>
  obtain⟨h1,_,h2⟩:=h;by_cases e:p.1=k
  ·have e':q.1=k:=h1.symm.trans e;have b:di (q::qs) k=ae q.2:=by simp [di,bS,e']
   rw[zfS e,b];exact h2
  ·have e':¬q.1=k:=λz=>e (h1.trans z);have b:di (q::qs) k=di qs k:=by simp [di,bS,e']
   rw[zfI e,b];exact ih
theorem KT.repl{H:Hp}{kvs:List (List Key×V)}{xs:List (List Key×Addr×Value)}(r:KT H kvs xs) (k:List Key) {y:V}{u:Value}(ry:RelV y u) :
  KT H (kvs.map λkv=>if kv.1=k then(kv.1,y) else kv) (xs.map (putAt k u)):=by
 induction r with
 |nil=>exact .nil
 | @cons p q ps qs h t ih=>
  rw[aD,aD];refine .cons ?_ ih;obtain⟨h1,h2,h3⟩:=h;unfold putAt;by_cases e:p.1=k
  ·rw[if_pos e,if_pos (h1.symm.trans e)];exact⟨h1,h2,ry⟩
  ·rw[if_neg e,if_neg (λz=>e (h1.trans z))];exact⟨h1,h2,h3⟩
theorem KT.put{H:Hp}{kvs:List (List Key×V)}{xs:List (List Key×Addr×Value)}(r:KT H kvs xs) (k:List Key) {b:Addr}{y:V}{u:Value}(hb:H b=ae (.tup (k.map kV))) (ry:RelV y u) :
  KT H (zoD kvs k y) (eU xs k b u):=by
 have e:(kvs.any λkv=>decide (kv.1=k))=(di xs k).isSome:=by
  rw[zls,(r.val k).isSome_eq,iJ]
 unfold zoD eU;rw[e];by_cases q:(di xs k).isSome=true
 ·rw[if_pos q,if_pos q];exact r.repl k ry
 ·rw[if_neg q,if_neg q];exact bR.snoc r ⟨rfl,hb,ry⟩
theorem KT.keeps{H H':Hp}{kvs:List (List Key×V)}{xs:List (List Key×Addr×Value)}(r:KT H kvs xs) (ht:∀b ys,H b=ae (.tup ys)→H' b=ae (.tup ys)):KT H' kvs xs:=
 Paired.mapP r λ_ _ z=>⟨z.1,ht _ _ z.2.1,z.2.2⟩
section
variable {P:aF}{w:ax}{H:Hp}{h:Heap}{a:Addr}
theorem zxx{u:HO}(ok:HOk P w H h) (e:Rd H a u):ObjOk P w H h a u:=e.ok ok
theorem zyX{kvs:List (Key×V)}(ok:HOk P w H h) (e:Rd H a (.dK kvs)):kvs.length≤sizeLine∧(a == d5)=false∧ ∃vs,KV kvs vs∧h.DictOf (zbr P w) a vs:=
 show ObjOk P w H h a (.dK kvs) from zxx ok e
theorem zpE{ks:List Key}(ok:HOk P w H h) (e:H a=ae (.tup (ks.map kV))):(cE (zbr P w)).is h ks a:=by
 obtain⟨_,its,r,o,h1,h2,n,h3⟩:=(show ObjOk P w H h a (.tup (ks.map kV)) from ok a _ e);exact⟨o,its.toArray,n,h1,h2,h3,by simpa using zjh r⟩
theorem zzr{kvs:List (List Key×V)}(ok:HOk P w H h) (e:Rd H a (.dT kvs)):kvs.length≤sizeLine∧(a == d5)=false∧
  ∃xs,KT H kvs xs∧h.DictOfH (cE (zbr P w)) a xs:=by
 obtain⟨z,y,xs,r,o,es,ep,h1,h2,h3,h4,h5⟩:=(show ObjOk P w H h a (.dT kvs) from zxx ok e);refine⟨z,y,xs,r,o,es,ep,h1,h2,h3,h4,λx hx=>?_,h5⟩;have all:∀{l:List (List Key×V)}{m:List (List Key×Addr×Value)},KT H l m→ ∀x∈m,(cE (zbr P w)).is h x.1 x.2.1:=by
  intro l m q
  induction q with
  |nil=>intro x hx;exact nomatch hx
  | @cons p q ps qs hq t ih=>
   intro x hx;rcases av.mp hx with e |hx
   ·subst e;exact zpE ok (by rw[←hq.1];exact hq.2.1)
   ·exact ih x hx
 exact all r x hx
end
def DGet (H:Hp) (a:Addr) (y:V) (r:Option V):Prop:=
 (∃kvs k,Rd H a (.dK kvs)∧y=kV k∧r=zlJ kvs k)∨ ∃kvs k b,Rd H a (.dT kvs)∧y= .ref b∧H b=ae (.tup (k.map kV))∧r=zlJ kvs k
theorem DGet.t{H:Hp}{a b:Addr}{kvs:List (List Key×V)}{k:List Key}(e:H a=ae (.dT kvs)) (eb:H b=ae (.tup (k.map kV))):DGet H a (.ref b) (zlJ kvs k):= .inr ⟨kvs,k,b, .inl e,rfl,eb,rfl⟩
section
variable {X:Cx}{pins:List (Addr×Obj)}{σ:St}{H:Hp}{s:ah}{a:Addr}{y:V}{u:Value}{o:Option V}{A:aM}{E:Value→ah→Prop}
theorem Inv.big (I:Inv X pins σ H s):d5<s.heap.objs.size:=by
 have h:aL<s.heap.objs.size:=(I.mod.glob.keeps I.bk).lt;exact Nat.lt_trans (by decide) h
theorem zAa{Q:Value→ah→Prop}(hu:A.units+1<cLine) (I:Inv X pins σ H s) (g:DGet H a y o) (ry:RelV y u) (h:∀s',Inv X pins σ H s'→Q (.bool o.isSome) s') :
  am (ap X.prog X.w) A (bH .In u (.ref a)) Q E s:=by
 rcases g with⟨kvs,k,e,ey,l⟩ |⟨kvs,k,b,e,ey,eb,l⟩
 ·subst ey;obtain⟨z,hd,vs,rel,dd⟩:=zyX I.hok e;refine wpAny_in_of (zvW ry) hd dd.mapOf ?_;rw[←(rel.val k).isSome_eq,←l];exact h _ (I.tok _)
 ·subst ey;cases(show u=br b from ry);obtain⟨z,hd,xs,rel,dd⟩:=zzr I.hok e;refine wpAny_in_heap (kg hu) (zpE I.hok eb) hd dd ?_;have q:=(rel.val k).isSome_eq;rw[iJ]at q;rw[←q,←l];exact h _ (I.tok _)
end
end L2
namespace Att
open PySem PySem.W PySem.Calls PyProof.Rows
end Att
namespace L2
open PySem PySem.Spec PyProof.Rows
section
variable {prog:aF}{w:ax}{A:aM}{R:eX→ah→Prop}{s:ah}
theorem zju{elt target iter:Expr}{ifs:List Expr}{scope:Scope}{pos:ay}{it acc:Value}{env:bw}(I:Nat→ah→Prop)
  (turn:∀n s,I n s→am (ap prog w) A (bX it) (λr s₁=>match r with
   |none=>R (.ok .next) s₁
   |some v=>am (ap prog w) A (gp target it v) (λ_ s₀=>am (ap prog w) A (assign target env v) (λ_ s₂=>
     am (ap prog w) A (forIn ifs true λc r=>if r=true then do let ok ←isTrue c env (au c env);pure (eD ok) else pure (eD r)) (λok s₃=>
      if ok=true then am (ap prog w) A (au elt env) (λx s₄=>
       am (ap prog w) A (call (.builtin "list.append") [acc,x]) (λ_ s₅=>∃m,m<n∧I m s₅) (λ_ _=>False) s₄) (λ_ _=>False) s₃
      else ∃m,m<n∧I m s₃) (λ_ _=>False) s₂) (λ_ _=>False) s₀) (λ_ _=>False) s₁) (λ_ _=>False) s)
  (n:Nat) (h:I n s) :
  cU (ap prog w) A (.compLoop (.ListComp elt [⟨target,iter,ifs,0⟩] scope pos) 0 it acc env) R s:=by
 refine codeAny_loop rfl I (λn s hI=>?_) n h;show am _ A ((compTurn (.ListComp elt [⟨target,iter,ifs,0⟩] scope pos) 0 it acc env).onRaise (λx=>do iH x env;theTreesLotGoes x)) _ _ s;refine wpAny_noted ?_;rw[compTurn_list];refine ak (wpAny_standAt (ak (b3 (turn n s hI) (λr s₁ h₁=>?_) λ_ _ h'=>h'.elim)));cases r with
 |none=>exact aE h₁
 |some v=>
  refine ak (b3 h₁ (λ_ s₀ h₀=>?_) λ_ _ h'=>h'.elim);refine ak (b3 h₀ (λ_ s₂ h₂=>ak (b3 h₂ (λok s₃ h₃=>?_) λ_ _ h'=>h'.elim)) λ_ _ h'=>h'.elim);cases ok with
  |false=>exact aE ⟨rfl,h₃⟩
  |true=>
   exact ak (ak (b3 h₃ (λx s₄ h₄=>ak (b3 h₄ (λ_ s₅ h₅=>aE (aE ⟨rfl,h₅⟩)) λ_ _ h'=>h'.elim)) λ_ _ h'=>h'.elim))
end
noncomputable def zgQ (cells:List (Str×Addr)):List (Str×bV)→List (Str×Addr)→List (Str×Addr)
 | [],acc=>acc
 | (n,k)::r,acc=>if(k == aW)=true then zgQ cells r ((n,(cells.lookup n).getD 0)::acc) else zgQ cells r acc
theorem zmW{scope:Scope}{env:bw}(h:∀y∈scope.names,y.2= .free→ ∃c,env.cells.lookup y.1=ae c) :
  closureFor scope env=pure (zgQ env.cells scope.names []):=by
 have go:∀(l:List (Str×bV)) (acc:List (Str×Addr)),(∀y∈l,y.2= .free→ ∃c,env.cells.lookup y.1=ae c)→
   (forIn l acc λ(x:Str×bV) (cs:List (Str×Addr))=>(if(x.2 == aW)=true then(do let a ←cellOf env x.1;pure (eD ((x.1,a)::cs))) else pure (eD cs):b7 (ForInStep (List (Str×Addr)))))=(pure (zgQ env.cells l acc):b7 (List (Str×Addr))):=by
  intro l
  induction l with
  |nil=>intro acc _;rfl
  |cons x l ih=>
   intro acc hl;obtain⟨n,k⟩:=x;have hr:=λy hy=>hl y (aH _ hy);rw[iG];by_cases hk:k= .free
   ·subst hk;obtain⟨c,hc⟩:=hl (n, .free) aN rfl;have hc':env.cells.lookup n=ae c:=hc;have e:cellOf env n=pure c:=by unfold cellOf;rw[hc']
    have e2:zgQ env.cells ((n,aW)::l) acc=zgQ env.cells l ((n,c)::acc):=by
     show(if(aW == aW)=true then zgQ env.cells l ((n,(env.cells.lookup n).getD 0)::acc) else zgQ env.cells l acc)=_;rw[if_pos (by rfl),hc'];rfl
    dsimp only;rw[if_pos (by rfl),e,fM,fM,e2];exact ih _ hr
   ·have hb:¬(k == aW)=true:=by simpa using hk
    have e2:zgQ env.cells ((n,k)::l) acc=zgQ env.cells l acc:=by
     show(if(k == aW)=true then zgQ env.cells l ((n,(env.cells.lookup n).getD 0)::acc) else zgQ env.cells l acc)=_;rw[if_neg hb]
    dsimp only;rw[if_neg hb,fM,e2];exact ih _ hr
 have q:=go scope.names [] h;unfold closureFor
 first
  |exact(bind_pure _).trans q
  | (simp only[bind_pure];exact q)
  | (simp only[fM,bind_assoc,bind_pure];exact q)
theorem zhP{cells:List (Str×Addr)}{x:Str}{c:Addr}:∀(l:List (Str×bV)) (acc:List (Str×Addr)),(∀y∈l,y.2= .free→ ∃c,cells.lookup y.1=ae c)→
  (zgQ cells l acc).lookup x=ae c→acc.lookup x=ae c∨cells.lookup x=ae c
 | [],acc,_,h=> .inl h
 | (n,k)::r,acc,hl,h=>by
  have hr:=λy hy=>hl y (aH (n,k) hy);by_cases hk:k= .free
  ·subst hk;have h':(zgQ cells r ((n,(cells.lookup n).getD 0)::acc)).lookup x=ae c:=h;rcases zhP r _ hr h' with q |q
   ·rw[cb]at q;cases e:x == n with
    |true=>
     rw[e]at q;obtain⟨d,hd⟩:=hl (n, .free) aN rfl;have hd':cells.lookup n=ae d:=hd;have e1:x=n:=gf e;rw[hd']at q;have q':d=c:=aG q;exact .inr (by rw[e1,hd',q'])
    |false=>
     rw[e]at q;exact .inl q
   ·exact .inr q
  ·have hb:¬(k == aW)=true:=by simpa using hk
   have h':(if(k == aW)=true then zgQ cells r ((n,(cells.lookup n).getD 0)::acc) else zgQ cells r acc).lookup x=ae c:=h;rw[if_neg hb]at h';exact zhP r acc hr h'
theorem zfN{cells:List (Str×Addr)}{x:Str}:∀(l:List (Str×bV)) (acc:List (Str×Addr)),((x,aW)∈l∨ ∃c,acc.lookup x=ae c)→ ∃c,(zgQ cells l acc).lookup x=ae c
 | [],acc,h=>by
  rcases h with h |h
  ·cases h
  ·exact h
 | (n,k)::r,acc,h=>by
  by_cases hk:k= .free
  ·subst hk;refine zfN r ((n,(cells.lookup n).getD 0)::acc) ?_;cases e:x == n with
   |true=>exact .inr ⟨_,by rw[cb,e]⟩
   |false=>
    rcases h with h |⟨c,h⟩
    ·rcases av.mp h with q |q
     ·have:x=n:=congrArg Prod.fst q;rw[this]at e;simp at e
     ·exact .inl q
    ·exact .inr ⟨c,by rw[cb,e];exact h⟩
  ·have hb:¬(k == aW)=true:=by simpa using hk
   show ∃c,(if(k == aW)=true then zgQ cells r ((n,(cells.lookup n).getD 0)::acc) else zgQ cells r acc).lookup x=ae c;rw[if_neg hb];refine zfN r acc ?_;rcases h with h |h
   ·rcases av.mp h with q |q
    ·exact absurd (congrArg iB q).symm hk
    ·exact .inl q
   ·exact .inr h
theorem zdh{env:bw}{x:Str}{k:bV}:∀{names:List (Str×bV)},(∀y∈names,y.2≠ .cell)→
  (names.map λ(n,k)=>if(k == aW&&env.scope.kind == .function&&env.kindOf n == ae .cell) then(n,cC) else(n,k)).lookup x=ae k→(k= .cell∨k= .free)→(x,aW)∈names
 | [],_,h,_=>by simp at h
 | (n,j)::r,hc,h,hk=>by
  have h':io x ((if(j == aW&&env.scope.kind == .function&&env.kindOf n == ae .cell)=true then(n,cC) else(n,j)) ::
   (r.map λ(n,k)=>if(k == aW&&env.scope.kind == .function&&env.kindOf n == ae .cell) then(n,cC) else(n,k)))=ae k:=h
  have hr:=λy hy=>hc y (aH (n,j) hy);have hj:j≠ .cell:=hc (n,j) aN;cases e:x == n with
  |true=>
   have e1:x=n:=gf e;subst e1;by_cases c:(j == aW&&env.scope.kind == .function&&env.kindOf x == ae .cell)=true
   ·have c1:(j == aW)=true:=by
     cases q:(j == aW) with
     |true=>rfl
     |false=>rw[q]at c;simp at c
    have c2:j= .free:=by simpa using c1
    rw[c2];exact aN
   ·rw[if_neg c]at h';simp only[cb,beq_self_eq_true]at h';have h2:j=k:=aG h';rcases hk with z |z
    ·exact absurd (h2.trans z) hj
    ·rw[h2,z];exact aN
  |false=>
   by_cases c:(j == aW&&env.scope.kind == .function&&env.kindOf n == ae .cell)=true
   ·rw[if_pos c]at h';simp only[cb,e]at h';exact aH _ (zdh hr h' hk)
   ·rw[if_neg c]at h';simp only[cb,e]at h';exact aH _ (zdh hr h' hk)
theorem zec{env:bw}{x:Str}:∀{names:List (Str×bV)},names.lookup x=ae .free→
  (names.map λ(n,k)=>if(k == aW&&env.scope.kind == .function&&env.kindOf n == ae .cell) then(n,cC) else(n,k)).lookup x=ae .cell∨
  (names.map λ(n,k)=>if(k == aW&&env.scope.kind == .function&&env.kindOf n == ae .cell) then(n,cC) else(n,k)).lookup x=ae .free
 | [],h=>by simp at h
 | (n,j)::r,h=>by
  show io x ((if(j == aW&&env.scope.kind == .function&&env.kindOf n == ae .cell)=true then(n,cC) else(n,j)) ::
   (r.map λ(n,k)=>if(k == aW&&env.scope.kind == .function&&env.kindOf n == ae .cell) then(n,cC) else(n,k)))=_∨
   io x ((if(j == aW&&env.scope.kind == .function&&env.kindOf n == ae .cell)=true then(n,cC) else(n,j)) ::
   (r.map λ(n,k)=>if(k == aW&&env.scope.kind == .function&&env.kindOf n == ae .cell) then(n,cC) else(n,k)))=_
  cases e:x == n with
  |true=>
   simp only[cb,e]at h;have h2:j= .free:=aG h;subst h2;by_cases c:(aW == aW&&env.scope.kind == .function&&env.kindOf n == ae .cell)=true
   ·rw[if_pos c];simp only[cb,e];exact .inl trivial
   ·rw[if_neg c];simp only[cb,e];exact .inr trivial
  |false=>
   simp only[cb,e]at h;by_cases c:(j == aW&&env.scope.kind == .function&&env.kindOf n == ae .cell)=true
   ·rw[if_pos c];simp only[cb,e];exact zec h
   ·rw[if_neg c];simp only[cb,e];exact zec h
noncomputable def zbs (X:Cx) (scope:Scope) (N:List Str) (s:ah) (H:Hp) (fp:List Addr) (pins:List (Addr×Obj)):Cx:=
 { X with N:=N,s₀:=s,H₀:=H,env:=compEnvC scope (zgQ X.env.cells scope.names []) s.heap.objs.size X.env,outer:=X.stack,stack:=X.stack,ex:=fp,fn:=λ_=>false,pn:=X.pn++pins,xe:=λ_ _=>False }
structure CompSc (X:Cx) (scope:Scope) (N:List Str) (k:Nat) (fr:List Nat):Prop where
  kind:scope.kind= .function
  nd:N.Nodup
  len:N.length=k+fr.length
  cell:(scope.names.all λy=>y.2 != cC)=true
  loc:(scope.names.all λy=>y.2 != bV.local || scope.names.lookup y.1 == ae bV.local)=true
  free:(scope.names.all λy=>y.2 != aW || X.env.kindOf y.1 == ae cC || X.env.kindOf y.1 == ae aW)=true
  frs:((N.drop k).all λx=>scope.names.lookup x == ae aW)=true
  pl:N.drop k=fr.map λj=>X.N.getD j ik
  plen:(fr.all λj=>decide (j<X.N.length))=true
noncomputable def zgC (σ:St) (fr:List Nat):St:=fr.map λj=>(σ[j]?).join
noncomputable def zlm (σ:St) (k:Nat) (fr:List Nat):St:=aJ k none++zgC σ fr
section
variable {X:Cx}{scope:Scope}{N:List Str}{k:Nat}{fr:List Nat}
theorem CompSc.cell' (S:CompSc X scope N k fr):∀y∈scope.names,y.2≠ .cell:=λy hy=>by
 have q:=dg.mp S.cell y hy;simpa using q
theorem CompSc.loc' (S:CompSc X scope N k fr):∀y∈scope.names,y.2= .local→scope.names.lookup y.1=ae .local:=λy hy e=>by
 have q:=dg.mp S.loc y hy;rw[e]at q;simpa using q
theorem CompSc.kinds (S:CompSc X scope N k fr):∀y∈scope.names,y.2= .free→X.env.kindOf y.1=ae .cell∨X.env.kindOf y.1=ae .free:=λy hy e=>by
 have q:=dg.mp S.free y hy;rw[e]at q;simpa using q
theorem CompSc.hasCell (S:CompSc X scope N k fr) (ok:X.Ok):∀y∈scope.names,y.2= .free→ ∃c,X.env.cells.lookup y.1=ae c:=λy hy e=>ok.has y.1 (S.kinds y hy e)
theorem CompSc.sub (S:CompSc X scope N k fr) (ok:X.Ok) {x:Str}{c:Addr}(h:(zgQ X.env.cells scope.names []).lookup x=ae c):X.env.cells.lookup x=ae c:=by
 rcases zhP scope.names [] (S.hasCell ok) h with q |q
 ·simp at q
 ·exact q
end
section
variable {X:Cx}{pins:List (Addr×Obj)}{σ:St}{H:Hp}{s:ah}{scope:Scope}{N:List Str}{k:Nat}{fr:List Nat}{fp:List Addr}
theorem ztE (I:Inv X pins σ H s) (S:CompSc X scope N k fr) (hfp:∀b∈fp,zio X pins H b) (hob:∀b∈fp,∃o,s.heap.get? b=ae o):(zbs X scope N s H fp pins).Ok where
  mod:=I.ok.mod
  kind:=S.kind
  glob:=I.ok.glob
  blt:=I.ok.blt
  above:=aB _
  inj:=λx y c h1 h2=>I.ok.inj x y c (S.sub I.ok h1) (S.sub I.ok h2)
  has:=λx hx=>zfN scope.names [] (.inl (by
    rcases hx with hx |hx
    · exact zdh S.cell' hx (.inl rfl)
    · exact zdh S.cell' hx (.inr rfl)))
  cab:=λx c h _=>absurd h (by show ¬(false=true);decide)
  hd:=I.ok.hd
  frames:=I.ok.frames
  stk:= .inl rfl
  exf:=λb hb=>⟨by
    obtain⟨o,e⟩:=hob b hb;exact bx (aI e),λx c h=>(hfp b hb).2.2.2.2.1 x c (S.sub I.ok h)⟩
  bs:=I.bs
  bsz:=bM I.ok.bsz I.sz
  noex:=λb o e hb=>by
    rcases(hfp b hb).2.2.2.1 with z |z
    · exact I.ok.noex b o e z
    · exact absurd (bJ (aI (I.ok.bs b o e).1) z) (cp _)
  exfs:=λb hb z=>by
    rcases av.mp (I.stkSub b z) with q |q
    · exact(hfp b hb).2.1 q
    · exact(hfp b hb).2.2.1 q
  funs:=I.stack
  frf:=I.stkFree
theorem ztr (I:Inv X pins σ H s) (S:CompSc X scope N k fr) {H':Hp}{b:Addr}(hb:b∈fp) (hf:zio X pins H b) (hob:∃o,s.heap.get? b=ae o) (hn:H' b=none):zio (zbs X scope N s H fp pins) [] H' b:=by
 refine⟨hn,?_,λz=>?_, .inl hb,λx c h=>hf.2.2.2.2.1 x c (S.sub I.ok h),λp hp=>?_⟩
 ·obtain⟨o,e⟩:=hob;exact bx (aI e)
 ·rcases av.mp (I.stkSub b z) with q |q
  ·exact hf.2.1 q
  ·exact hf.2.2.1 q
 ·rcases bb.mp hp with z |z
  ·exact hf.2.2.2.2.2 p z
  ·cases z
theorem zmN{j:Nat}{v:V}(h:(zgC σ fr)[j]? =ae (ae v)):∃i,fr[j]? =ae i∧σ[i]? =ae (ae v):=by
 unfold zgC at h;rw[aX]at h;cases e:fr[j]? with
 |none=>rw[e]at h;cases h
 |some i=>
  rw[e]at h;have h':(σ[i]?).join=ae v:=aG h;refine⟨i,rfl,?_⟩;cases q:σ[i]? with
  |none=>rw[q]at h';cases h'
  |some o=>
   rw[q]at h';have h2:o=ae v:=h';rw[h2]
theorem zrK (I:Inv X pins σ H s) (S:CompSc X scope N k fr) (hfp:∀b∈fp,zio X pins H b) (hob:∀b∈fp,∃o,s.heap.get? b=ae o) {h1:Heap}{tk:Nat}{m:Str→Option Value}
    (hns:h1.Ns s.heap.objs.size m) (hk:∀b o,s.heap.get? b=ae o→h1.get? b=ae o):Inv (zbs X scope N s H fp pins) [] (zlm σ k fr) H { s with heap:=h1,toks:=tk } where
  ok:=ztE I S hfp hob
  os:=rfl
  bare:=I.bare
  base:=Un.kept hk
  loc:=⟨m,hns,λi x v e1 e2 e3=>by
    have e2':(aJ k (none:Option V)++zgC σ fr)[i]? =ae (ae v):=e2;have hi:k≤i:=by
      refine jF λz=>?_;rw[kW (by simpa using z),kH]at e2';split at e2'<;>cases e2'
    rw[gK (by simpa using hi),gr]at e2';obtain⟨j,f1,f2⟩:=zmN e2';have e1':N[i]? =ae x:=e1;have d1:(N.drop k)[i - k]? =ae x:=by
      rw[jJ];have:k+(i - k)=i:=by omega
      rw[this];exact e1'
    have d2:=d1;rw[S.pl,aX,f1]at d2;have d3:X.N.getD j ik=x:=aG d2;have jl:j<X.N.length:=of_decide_eq_true (dg.mp S.plen j (a_ f1));have d4:X.N[j]? =ae x:=by
      rw[bE,aU jl]at d3;rw[aU jl];exact congrArg ae d3
    have fk:scope.names.lookup x=ae .free:=by
      have q:=dg.mp S.frs x (a_ d1);simpa using q
    have hmem:(x,aW)∈scope.names:=d8 fk;have kd:=S.kinds _ hmem rfl;have vis:Vis X.env.scope x:=by
      rcases kd with z |z
      · exact .inr (.inl z)
      · exact .inr (.inr z)
    obtain⟨m0,_,hl⟩:=I.loc;obtain⟨u,ru,lk⟩:=hl j x v d4 f2 vis;refine⟨u,ru, .inr ⟨zec fk,?_⟩⟩;have kd':X.env.kindOf x=ae .cell∨X.env.kindOf x=ae .free:=kd;rcases lk with⟨z,_⟩ |⟨_,c,hc,hcell⟩
    · rcases kd' with q |q<;>(rw[z]at q;cases q)
    · obtain⟨c',hc'⟩:=zfN (cells:=X.env.cells) scope.names [] (.inl hmem);have e:=S.sub I.ok hc';rw[hc]at e;cases e;exact⟨c,hc',hcell.keeps hk⟩⟩
  cell:=λx c h=>by
    obtain⟨v,z⟩:=I.cell x c (S.sub I.ok h);exact⟨v,z.keeps hk⟩
  free:=I.hok.fresh (aB _)
  freeC:=λx c h=>I.freeC x c (S.sub I.ok h)
  pin:=λp hp=>by
    have hp':p∈X.pn++pins:=by
      rcases bb.mp hp with z |z
      · exact z
      · cases z
    obtain⟨e,n,ne,nf,d⟩:=I.pin p hp';refine⟨hk _ _ e,n,bx (aI e),λz=>?_,d⟩;rcases av.mp (I.stkSub p.1 z) with q |q
    · exact ne q
    · exact nf q
  hok:=I.hok.kept hk
  len:=by
    show(aJ k (none:Option V)++zgC σ fr).length=N.length;rw[ba,gr,S.len];unfold zgC;rw[aq]
theorem zjC{σ':St}{H':Hp}{s':ah}{h':Heap}(I:Inv X pins σ H s) (hfp:∀b∈fp,zio X pins H b) (J:Inv (zbs X scope N s H fp pins) [] σ' H' s') (sb:cj s.heap.objs.size s'.heap h'):Inv X pins σ H' { s' with heap:=h' }:=by
 have neC:∀b o,s.heap.get? b=ae o→b≠s.heap.objs.size:=λb o e=>bx (aI e);have frC:H' s.heap.objs.size=none:=J.free;refine Inv.call' (s':={ s' with heap:=h' }) (ch:=fp) I J.os ⟨λb o e n hf hx=>?_,λb o e n hf hx=>?_,λb o e n hx=>J.base.free b o e n hx,λb o e hx=>?_,J.base.tups,J.base.frzs,J.base.tbls⟩ (λb o e=>?_) J.bare λb hb=>⟨(hfp b hb).2.2.2.1,(hfp b hb).2.1,(hfp b hb).2.2.2.2.1,(hfp b hb).2.2.2.2.2⟩
 ·exact(sb.2 b (neC b o e)).trans (J.base.keep b o e n hf hx)
 ·obtain⟨sl,q⟩:=J.base.slot b o e n hf hx;exact⟨sl,(sb.2 b (neC b o e)).trans q⟩
 ·obtain⟨o',q⟩:=J.base.there b o e hx;exact⟨o',(sb.2 b (neC b o e)).trans q⟩
 ·refine(J.hok b o e).stay (λc v hc q=>(sb.2 c ?_).trans q) (λ_ q=>q) λ_ _ q=>q;rintro rfl;rcases hc with rfl |hc
  ·rw[frC]at e;cases e
  ·rw[frC]at hc;cases hc
end
def PTs (X:Cx) (ifs:List Expr) (t:TT):Prop:=
 ∀(pins:List (Addr×Obj)) (s:ah) (σ:St) (H:Hp) (Q:Bool→Hp→Prop),Inv X pins σ H s→t σ H Q→
  am (ap X.prog X.w) X.A (forIn ifs true λc r=>if r=true then do let ok ←isTrue c X.env (au c X.env);pure (eD ok) else pure (eD r)) (TP X pins σ Q) X.xe s
noncomputable def zzH:TT:=λ_ H Q=>Q true H
theorem ztN{X:Cx}:PTs X [] zzH:=λ_ _ _ H _ I h=>wpAny_tests_nil ⟨H,I,h⟩
theorem zsX{X:Cx}{c:Expr}{t:TT}(h:PT X c t):PTs X [c] t:=λpins s σ H Q I q=>wpAny_tests_one (h pins s σ H Q I q)
def zyb (X:Cx) (scope:Scope) (N:List Str) (tg:Expr) (ifs:List Expr) (elt:Expr) (l:Addr) (x:V) (σ:St) (H:Hp) (M:St→Hp→Prop):Prop:=
 ∀(s₀:ah) (H₀:Hp) (fp:List Addr) (pn:List (Addr×Obj)),∃(g:TG) (tt:TT) (te:TE),PG (zbs X scope N s₀ H₀ fp pn) tg g∧PTs (zbs X scope N s₀ H₀ fp pn) ifs tt∧PE (zbs X scope N s₀ H₀ fp pn) elt te∧
  g x σ H λσ2 H2=>tt σ2 H2 λb H3=>if b=true then te σ2 H3 λy H4=>∃ys,H4 l=ae (.lst ys)∧ys.length<sizeLine∧M σ2 (upd H4 l (.lst (ys++[y]))) else M σ2 H3
def ztm (X:Cx) (scope:Scope) (N:List Str) (k:Nat) (fr:List Nat) (tg:Expr) (ifs:List Expr) (elt:Expr) (σ:St) (Q:VK) (J:It) (H1:Hp):Prop:=∀l,H1 l=none→
 ∃W:Nat→Nat→St→Hp→Prop,(∃m,W 0 m (zlm σ k fr) (upd H1 l (.lst [])))∧ ∀i m σ' H',W i m σ' H'→
  (J.stop i H'∧Q (.ref l) H')∨(J.go i H'∧ ∃M:St→Hp→Prop,(∀σ'' H'',M σ'' H''→ ∃m',m'<m∧W (i+1) m' σ'' H'')∧ ∀x H2,J.yld i H' x H2→zyb X scope N tg ifs elt l x σ' H2 M)
noncomputable def zqH (X:Cx) (scope:Scope) (N:List Str) (k:Nat) (fr:List Nat) (tg:Expr) (ifs:List Expr) (elt:Expr) (wi:TI):TE:=λσ H Q=>wi σ H λJ H1=>ztm X scope N k fr tg ifs elt σ Q J H1
theorem zjR{X:Cx}{use:Option (Value→b7 Unit)}{Qf:Value→ah→Prop}{pins:List (Addr×Obj)}{s:ah}{σ:St}{H:Hp}{Q:VK}{scope:Scope}{N:List Str}{k:Nat}{fr:List Nat}{tg iter elt:Expr}{ifs:List Expr}{wi:TI}{pos:ay}(hx:X.xe=λ_ _=>False) (hc:X.calm=true) (S:CompSc X scope N k fr) (hi:PI X tg iter wi) (I:Inv X pins σ H s)
  (fin:∀{s3 s6:ah}{H3 H5:Hp}{fp:List Addr}{σ5:St}{l:Addr}{a:Flow},Inv X pins σ H3 s3→(∀b∈fp,zio X pins H3 b)→Inv (zbs X scope N s3 H3 fp pins) [] σ5 H5 s6→Q (.ref l) H5→compPost (ap X.prog X.w) X.A X.xe use Qf (.ref l) s3.heap.objs.size (.ok a) s6)
  (h:zqH X scope N k fr tg ifs elt wi σ H Q)
  (hs:∀x,du iter X.env x=pure x:=by intro _;rfl):am (ap X.prog X.w) X.A (comprehension (.ListComp elt [⟨tg,iter,ifs,0⟩] scope pos) scope X.env (firstIterPos [⟨tg,iter,ifs,0⟩] pos) (newList []) (firstAsync [⟨tg,iter,ifs,0⟩]) (firstIter [⟨tg,iter,ifs,0⟩] X.env) use) Qf X.xe s:=by
 refine wpAny_comprehension_free (use:=use) rfl hs (zmW (S.hasCell I.ok)) S.kind S.loc' (thn (hi pins s σ H _ I h) λv s1 h1=>thn h1 λitv s2 h2=>?_);obtain⟨it,fp,tn,J,H2,e,I2,T,st2,f2,h2⟩:=h2;subst e;have fr2:H2 s2.heap.objs.size=none:=I2.hok.fresh (aB _);obtain⟨W,⟨m0,w0⟩,turn⟩:=h2 s2.heap.objs.size fr2;refine wpAny_newList ?_ (by show 0≤sizeLine;exact aS _);have I3:Inv X pins σ (upd H2 s2.heap.objs.size (.lst [])) { s2 with heap:=s2.heap.push { cls:= .type "list",data:= .seq ([]:List Value).toArray } }:=I2.lnew (t':=s2.toks) (ys:=[]) .nil (aS _);have old:∀b o,s2.heap.get? b=ae o→(s2.heap.push { cls:= .type "list",data:= .seq ([]:List Value).toArray }).get? b=ae o:=λb o e=>aK _ e;have fpo2:∀b∈fp,∃o,s2.heap.get? b=ae o:=λb hb=>by
  obtain⟨o,e,_⟩:=T.obj _ _ st2 b hb;exact⟨o,e⟩
 have fpo:∀b∈fp,∃o,(s2.heap.push { cls:= .type "list",data:= .seq ([]:List Value).toArray }).get? b=ae o:=λb hb=>by
  obtain⟨o,e⟩:=fpo2 b hb;exact⟨o,old b o e⟩
 have f3:∀b∈fp,zio X pins (upd H2 s2.heap.objs.size (.lst [])) b:=λb hb=>by
  obtain⟨o,e⟩:=fpo2 b hb;refine⟨?_,(f2 b hb).2⟩;rw[zaB (bx (aI e))];exact(f2 b hb).1
 generalize hs3:({ s2 with heap:=s2.heap.push { cls:= .type "list",data:= .seq ([]:List Value).toArray } }:ah)=s3 at I3⊢;have st3:tn 0 s3.heap:=by
  rw[←hs3];exact T.keep _ _ _ st2 λb _ o e=>old b o e
 have fpo3:∀b∈fp,∃o,s3.heap.get? b=ae o:=by rw[←hs3];exact fpo
 clear fpo old hs3;refine wpAny_newFunctionEnv S.cell' (by intro y hy;simp at hy) (λh1 hns1 hsb1=>?_) S.kind;have hk1:∀b o,s3.heap.get? b=ae o→h1.get? b=ae o:=λb o e=>hsb1.extBut b o (bx (aI e)) (aK _ e);have I4:=zrK (tk:=s3.toks+([]:List (Str×Value)).length) I3 S f3 fpo3 hns1 hk1;have st4:tn 0 h1:=T.keep _ _ _ st3 λb _ o e=>hk1 b o e;have stat:∀{H':Hp},(∀b∈fp,H' b=none)→ ∀b∈fp,zio (zbs X scope N s3 (upd H2 s2.heap.objs.size (.lst [])) fp pins) [] H' b:=λhn b hb=>ztr I3 S hb (f3 b hb) (fpo3 b hb) (hn b hb);have loop:∀s4:ah,s4={ s3 with heap:=h1,toks:=s3.toks+([]:List (Str×Value)).length }→
   cU (ap X.prog X.w) X.A (.compLoop (.ListComp elt [⟨tg,iter,ifs,0⟩] scope pos) 0 (.ref it) (.ref s2.heap.objs.size) (compEnvC scope (zgQ X.env.cells scope.names []) s3.heap.objs.size X.env))
    (compPost (ap X.prog X.w) X.A X.xe use Qf (.ref s2.heap.objs.size) s3.heap.objs.size) s4:=by
  rintro s4 rfl;refine zju (λn s'=>∃i σ' H',Inv (zbs X scope N s3 (upd H2 s2.heap.objs.size (.lst [])) fp pins) [] σ' H' s'∧tn i s'.heap∧(∀b∈fp,H' b=none)∧W i n σ' H') ?_ m0 ⟨0,_,_,I4,st4,λb hb=>(f3 b hb).1,w0⟩;rintro n s5 ⟨i,σ5,H5,I5,st5,fr5,w5⟩;rcases turn i n σ5 H5 w5 with⟨stop,qn⟩ |⟨go,M,hM,step⟩
  ·refine thn (T.done (zbs X scope N s3 (upd H2 s2.heap.objs.size (.lst [])) fp pins) rfl rfl rfl hc i [] s5 σ5 H5 _ I5 (stat fr5) st5 stop) λr s6 ⟨hr,I6⟩=>?_;subst hr;exact fin I3 f3 I6 qn
  ·refine thn (T.item (zbs X scope N s3 (upd H2 s2.heap.objs.size (.lst [])) fp pins) rfl rfl rfl hc i [] s5 σ5 H5 _ I5 (stat fr5) st5 go) λr s6 ⟨u,hr,h6⟩=>?_;subst hr;refine thn h6 λ_ s7 ⟨x,H7,I7,r7,y7,st7,fr7⟩=>?_;have I7':=I7.pinned (stat fr7) (T.obj _ _ st7);obtain⟨g,tt,te,hg,ht,he,q⟩:=step x H7 y7 s3 (upd H2 s2.heap.objs.size (.lst [])) fp pins;have again:∀{s8:ah}{σ8:St}{H8:Hp},Inv (zbs X scope N s3 (upd H2 s2.heap.objs.size (.lst [])) fp pins) ([]++zjk fp s7.heap) σ8 H8 s8→M σ8 H8→
     ∃m,m<n∧ ∃i σ' H',Inv (zbs X scope N s3 (upd H2 s2.heap.objs.size (.lst [])) fp pins) [] σ' H' s8∧tn i s8.heap∧(∀b∈fp,H' b=none)∧W i m σ' H':=λ{s8 σ8 H8} I8 n8=>by
    obtain⟨m',hm,w8⟩:=hM σ8 H8 n8;refine⟨m',hm,i+1,σ8,H8,I8.unpinned,T.keep _ _ _ st7 λb hb o e=>(I8.pin (b,o) (bZ _ (bZ _ (zeo hb e)))).1,λb hb=>?_,w8⟩;obtain⟨o,e,d⟩:=T.obj _ _ st7 b hb;exact(I8.pin (b,o) (bZ _ (bZ _ (zeo hb e)))).2.1
   refine thn (hg _ s7 σ5 H7 x u _ I7' r7 q) λ_ s8 ⟨σ8,H8,I8,q8⟩=>?_;refine thn (ht _ s8 σ8 H8 _ I8 q8) λb s9 ⟨H9,I9,q9⟩=>?_;cases b with
   |false=>exact again I9 q9
   |true=>
    refine thn (he _ s9 σ8 H9 _ I9 q9) λy s10 ⟨yv,H10,I10,r10,ys,hl,hz,qM⟩=>?_;exact thn (zir _ s10 σ8 H10 (.ref s2.heap.objs.size) [yv] (.ref s2.heap.objs.size) [y] (λ_ H'=>M σ8 H') I10 rfl (.cons r10 .nil) ⟨_,ys,yv,rfl,rfl,hl,hz,qM⟩) λ_ s11 ⟨_,H11,I11,_,q11⟩=>again I11 q11
 exact codeAny_compStart_list (loop _ rfl) (T.self _ 0 _ _ _ st4 (loop _ rfl))
theorem zuD{X:Cx}{scope:Scope}{N:List Str}{k:Nat}{fr:List Nat}{tg iter elt:Expr}{ifs:List Expr}{wi:TI}{pos:ay}(hx:X.xe=λ_ _=>False) (hc:X.calm=true) (S:CompSc X scope N k fr) (hi:PI X tg iter wi)
  (hs:∀x,du iter X.env x=pure x:=by intro _;rfl):PE X (.ListComp elt [⟨tg,iter,ifs,0⟩] scope pos) (zqH X scope N k fr tg ifs elt wi):=by
 intro pins s σ H Q I h;rw[eval_ListComp];refine zjR hx hc S hi I (λ{s3 s6 H3 H5 fp σ5 l a} I3 f3 I6 qn=>?_) h hs;obtain⟨m6,ns6,_⟩:=I6.loc;exact⟨m6,ns6,λh' sb=>⟨.ref l,H5,zjC I3 f3 I6 sb,rfl,qn⟩⟩
theorem zsT{X:Cx}{scope:Scope}{N:List Str}{k:Nat}{fr:List Nat}{tg iter elt:Expr}{ifs:List Expr}{wi:TI}{pos spos pos':ay}{i:Nat}{x:Str}(hx:X.xe=λ_ _=>False) (hc:X.calm=true) (S:CompSc X scope N k fr) (hi:PI X tg iter wi)
  (hN:X.N.Nodup) (hxi:X.N[i]? =ae x) (hxl:Loc X.env.scope x) (hw:dF (.ListComp elt [⟨tg,iter,ifs,0⟩] scope pos) (ae (.Name x pos')) spos.line X.env=pure true) (hf:X.fn x=true∨X.env.scope.names.lookup x=ae .local)
  (hs:∀x,du iter X.env x=pure x:=by intro _;rfl):PS X (.Assign [.Name x pos'] (.ListComp elt [⟨tg,iter,ifs,0⟩] scope pos) spos) (zzi (zqH X scope N k fr tg ifs elt wi) (ztB i)):=by
 intro pins s σ H D I h;rw[exec_Assign_Name_used x pos' _ spos hw];refine ak (wpAny_standAt (ak ?_));rw[arm_evalThenUse_ListComp];refine ak ?_;refine zjR (Qf:=λ_ s'=>am (ap X.prog X.w) X.A (pure ()) (λ_ s2=>am (ap X.prog X.w) X.A (pure Flow.next) (SP X pins D) X.xe s2) X.xe s') hx hc S hi I (λ{s3 s6 H3 H5 fp σ5 l a} I3 f3 I6 qn=>?_) h hs;have IX:Inv X pins σ H5 s6:=zjC (h':=s6.heap) I3 f3 I6 ⟨rfl,λ_ _=>rfl⟩;obtain⟨m6,ns6,_⟩:=I6.loc;have ns6:s6.heap.Ns s3.heap.objs.size m6:=ns6;have frC:H5 s3.heap.objs.size=none:=I6.free;have fC:zio X pins H5 s3.heap.objs.size:=I3.fpOk (aB _) frC;refine kx (zjd IX hN hxi hxl (v:= .ref l) rfl (λs7 I7 ⟨b,sb,hb⟩=>?_) hf);have hbC:s3.heap.objs.size≠b:=by
  rcases hb with rfl |hb
  ·exact fC.2.1
  ·exact bg (fC.2.2.2.2.1 _ _ hb)
 refine⟨m6,ns6.sameBut sb hbC,λh' sb2=>aE (aE ⟨_,H5,?_,qn⟩)⟩;refine Inv.call' (s':={ s7 with heap:=h' }) (ch:=[s3.heap.objs.size]) I7 rfl ⟨λc o e n hfs hex=>?_,λc o e n hfs hex=>?_,λc o e n _=>n,λc o e hex=>?_,λ_ _ q=>q,λ_ _ _ q=>q,λ_ ps q=>⟨#[],by simpa using q⟩⟩ (λc o e=>?_) I7.bare λc hcm=>?_
 ·exact(sb2.2 c (λz=>hex (by simp [z]))).trans e
 ·exact⟨o.slots,(sb2.2 c (λz=>hex (by simp [z]))).trans e⟩
 ·exact⟨o,(sb2.2 c (λz=>hex (by simp [z]))).trans e⟩
 ·refine(I7.hok c o e).stay (λd v hd q=>(sb2.2 d ?_).trans q) (λ_ q=>q) λ_ _ q=>q;rintro rfl;rcases hd with rfl |hd
  ·rw[frC]at e;cases e
  ·rw[frC]at hd;cases hd
 ·rw[bn.mp hcm];exact⟨fC.2.2.2.1,fC.2.1,fC.2.2.2.2.1,fC.2.2.2.2.2⟩
noncomputable def Its (x:Str):It:=⟨λi _=>i<x.cps.size,λi H v H'=>H'=H∧ ∃c,x.cps[i]? =ae c∧v= .str ⟨#[c]⟩,λi _=>i=x.cps.size⟩
theorem zlE{P:aF}{w:ax}{K:ai}{tg:Expr}(it:Addr) (x:Str) (t:bc) (ty:String)
    (hn: ["enumerate", "zip", "dict_itemiterator", "dict_reverseitemiterator", "odict_iterator", "itertools.zip_longest", "itertools.pairwise"].contains ty=false)
    (hW:∀A':aM,A'.handled=none→Walks P w A' it [it] [it] x.cps.size (SignAt x) (λi h=>h.IsStrIter it ty x t i))
    (hself:∀(A:aM) (i:Nat) (s:ah) (Q:Value→ah→Prop) (E:Value→ah→Prop),s.heap.IsStrIter it ty x t i→Q (.ref it) s→am (ap P w) A (dn (.ref it)) Q E s) :
    Turn P w K tg (Its x) [it] it (λi h=>h.IsStrIter it ty x t i) where
  mem:=by simp
  obj:=λi h st b hb=>by
    have e:b=it:=by simpa using hb
    subst e;obtain⟨o,e,c,d⟩:=st;exact⟨o,e,λv z=>by rw[d]at z;cases z⟩
  keep:=λi h h' st k=>by
    obtain⟨o,e,r⟩:=st;exact⟨o,k it (by simp) o e,r⟩
  item:=by
    intro X hP hw hK hc i pins s σ H E I hf st hg;subst hP hw hK;obtain⟨f0,f1,f2,f3,f4,f5⟩:=hf it (by simp);refine(hW X.A (I.ok.hd hc)).item i s _ _ hg st λv h' tk hv st' kk=>?_;obtain⟨c,u,hc',rfl⟩:=hv;have I1:Inv X pins σ H { s with heap:=h',toks:=tk }:=I.turned (λb o hb e=>kk b o (by simpa using hb) e) f0 f1 f3 f4 f5;obtain⟨o,e,c',d⟩:=id st';exact⟨_,rfl,zqs (s:={ s with heap:=h',toks:=tk }) e c' d hn ⟨.str ⟨#[c]⟩,H,I1,⟨u,rfl⟩,⟨rfl,c,hc',rfl⟩,st',λb hb=>(hf b hb).1⟩⟩
  done:=by
    intro X hP hw hK hc i pins s σ H E I hf st hg;subst hP hw hK;obtain⟨f0,f1,f2,f3,f4,f5⟩:=hf it (by simp);have hi:i=x.cps.size:=hg;subst hi;exact(hW X.A (I.ok.hd hc)).done s _ _ st λh' tk kk=>⟨rfl,I.turned (λb o hb e=>kk b o (by simpa using hb) e) f0 f1 f3 f4 f5⟩
  self:=hself
def TupsOn (H H':Hp):Prop:=∀b xs,H b=ae (.tup xs)→H' b=ae (.tup xs)
theorem TupsOn.trans{H H1 H2:Hp}(a:TupsOn H H1) (b:TupsOn H1 H2):TupsOn H H2:=λc xs h=>b c xs (a c xs h)
section
variable {X:Cx}
theorem zob:OpR X (bH .LtE) (λx y H Q=>∃i j,x= .str i∧y= .str j∧Q (.bl (!decide (j.cps.toList<i.cps.toList))) H):=by
 intro pins s σ H x y v u Q I rx ry h;obtain⟨i,j,rfl,rfl,q⟩:=h;obtain⟨t,rfl⟩:=rx;obtain⟨t',rfl⟩:=ry;exact PySem.P.le_str (zlt I q rfl)
def zAl:V→Option Int→Option Int→Hp→VK→Prop:=λx lo hi H Q=>∃z,x= .str z∧z.length≤sizeLine∧Q (.str (cL z lo hi)) H
theorem sl_str:SlR X zAl:=by
 intro pins s σ H x v vl vu lo hi sl Q I rx hs pl pu h;obtain⟨z,rfl,hz,q⟩:=h;obtain⟨t,rfl⟩:=rx;refine⟨"str",_,F.slot_str_getitem.lookup,gR _ _ _,?_⟩;obtain⟨o,ho,hc,hd⟩:=hs;have fin:∀t' k,EP X pins σ Q (.str (cL z lo hi) t') { s with toks:=k }:=λt' k=>⟨.str _,H,I.tok _,⟨t',rfl⟩,q⟩;have le:=bM (Txt.slice_le z lo hi) hz;cases pl with
 |none=>
  cases pu with
  |none=>exact gd (l:=none) (u:=none) (st:=none) ⟨o,ho,hc,hd⟩ rfl (fZ ⟨le,fin⟩)
  |int j u=>exact gd (l:=none) (u:=ae (j,u)) (st:=none) ⟨o,ho,hc,hd⟩ rfl (fZ ⟨le,fin⟩)
 |int i w=>
  cases pu with
  |none=>exact gd (l:=ae (i,w)) (u:=none) (st:=none) ⟨o,ho,hc,hd⟩ rfl (fZ ⟨le,fin⟩)
  |int j u=>exact gd (l:=ae (i,w)) (u:=ae (j,u)) (st:=none) ⟨o,ho,hc,hd⟩ rfl (fZ ⟨le,fin⟩)
noncomputable def zxV (xs:List Nat) (lo hi:Option Int):List Nat:=(xs.drop (HT.sIx xs.length 0 lo)).take (HT.sIx xs.length xs.length hi - HT.sIx xs.length 0 lo)
theorem zrQ (lo hi:Option Int) (n:Nat):gx lo hi 1 n=sliceRange ((HT.sIx n 0 lo:Nat):Int) ((HT.sIx n n hi:Nat):Int) 1:=by
 have one:(1:Int) > 0:=by decide
 have a:∀(v:Option Int) (d:Nat),(match v with |none=>(d:Int) |some i=>(if(1:Int) > 0 then max 0 (min (if i<0 then i+(n:Int) else i) (n:Int)) else max (-1) (min (if i<0 then i+(n:Int) else i) ((n:Int) - 1))))=((HT.sIx n d v:Nat):Int):=by
  intro v d;cases v with
  |none=>rfl
  |some i=>
   simp only[HT.sIx,one,if_true];by_cases h:i<0
   ·simp only[h,if_true];omega
   ·simp only[h,if_false];omega
 have l:=a lo 0;have u:=a hi n;unfold gx;simp only[one,if_true]at l u⊢
 first
  |rw[l,u]
  | (cases lo<;>cases hi<;>simp_all)
theorem znR (z:Str) (lo hi:Option Int):(cL z lo hi).cps.toList=zxV z.cps.toList lo hi:=by
 have hn:z.length=z.cps.toList.length:=by simp [gM]
 have hp:(gx lo hi 1 z.length).filterMap (z.cps[·]?)=zxV z.cps.toList lo hi:=by
  rw[zrQ,iD,ip,hn];rfl
 unfold cL;split
 ·rename_i h;have h1:(gx lo hi 1 z.length).length=z.length:=by simpa using h
  rw[zrQ,iD,aq,List.length_range]at h1;have le1:=HT.sIx_le z.length z.length (aB _) hi;unfold zxV;rw[←hn];have e0:HT.sIx z.length 0 lo=0∨z.length=0:=by omega
  have hz:z.cps.toList.length=z.length:=hn.symm;rcases e0 with e0 |e0
  ·rw[e0,dh,dD (by omega)]
  ·have:z.cps.toList=[]:=iq (by omega);rw[this];simp
 ·show(List.filterMap _ _).toArray.toList=_;rw[hp]
theorem zqt (hc:X.calm=true):CallR X (.builtin "all") (λxs H Q=>∃(p:Addr) (bs:List Bool),xs=[.ref p]∧SqL X.K H p (bs.map V.bl)∧Q (.bl (bs.all id)) H):=by
 intro pins s σ H xs us Q I r h;obtain⟨p,bs,rfl,hq,q⟩:=h;obtain⟨u,rfl,rx⟩:=zil r;cases rx;obtain⟨its,r',pl,hz⟩:=I.list hq;have hlen:bs.length=its.length:=by have:=r'.length;rw[aq]at this;exact this
 have hp:p<s.heap.objs.size:=by obtain⟨o,n,e,_⟩:=pl;exact aI e
 have hd:X.A.in1.handled=none:=I.ok.hd hc;have get:∀(i:Nat) (v:Value),its.toArray[i]? =ae v→v= .bool (bs.getD i false):=λi v e=>by
  have e':its[i]? =ae v:=by simpa using e
  have hi:i<bs.length:=by rw[hlen];exact(bL.mp e').1
  obtain⟨u,hu,ru⟩:=r'.get (i:=i) (x:= .bl (bs.getD i false)) (by rw[aX,aU hi,bE,aU hi];rfl);rw[e']at hu;cases hu;exact ru
 refine call_all_walk (eQ pl.isList ?_);refine⟨s.heap.objs.size,_,_,_,_,_,λi=>bs.getD i false,rfl,iV hd _ p (bx hp) its.toArray,⟨⟨_,bt _ rfl,rfl,rfl⟩,pl.isList.push _⟩,λi v s' Q' E' hP hQ=>?_,λh' tk hk=>?_⟩
 ·rw[get i v hP];exact fG hQ
 ·have e:(aO its.toArray.size).all (λi=>bs.getD i false)=bs.all id:=by
   rw[aQ,←hlen];have:bs=(aO bs.length).map λi=>bs.getD i false:=by
    apply jr;intro i;rw[aX];by_cases hi:i<bs.length
    ·rw[fB hi,aU hi];show ae bs[i]=ae (bs.getD i false);rw[bE,aU hi];rfl
    ·rw[ib (by omega),ib (by simpa using hi)];rfl
   conv=>rhs;rw[this]
   rw[fY];rfl
  have I1:Inv X pins σ H { s with heap:=h',toks:=tk }:=I.kept λb o e=>hk b o (λz=>by
   have z':b=s.heap.objs.size:=by simpa using z
   rw[z']at e;exact absurd (aI e) (cp _)) (aK _ e)
  exact⟨.bl _,H,I1,by rw[e];exact rfl,q⟩
theorem zqY:CallR X (.builtin "isinstance") (λxs H Q=>∃x t c b,xs=[x, .ty c]∧TyOf X.K H x t∧bQ X.K t (.type c)=ae b∧Q (.bl b) H):=by
 intro pins s σ H xs us Q I r h;obtain⟨x,t,c,b,rfl,ty,e,q⟩:=h;obtain⟨u,v,rfl,rx,ry⟩:=zxR r;cases(show v=gm c from ry);exact zpg I rx ty e λtk=>⟨.bl b,H,I.tok _,rfl,q⟩
end
section
variable {X:Cx}
theorem zeH (l:Addr) (items:Array Value) (n:Nat) (b:Addr) (items2:Array Value) (n2:Nat) (dd:Option Addr) (sl:Array (Option Value)) (hs0:¬(!items.isEmpty&&eA (items.size+items2.size))=true) (hs1:items.size≤sizeLine) (hs2:items.size+items2.size≤sizeLine+1) :
  Meets (bD.«list.extend» ⟨[.ref l, .ref b],[]⟩) (λ_ R s=>s.heap.get? l=ae { cls:= .type "list",dict:=none,data:= .seq items n,slots:= #[] }∧s.heap.get? b=ae { cls:= .type "tuple",dict:=dd,data:= .seq items2 n2,slots:=sl }∧R (.ok (.ret cz)) { s with heap:=s.heap.update l (gO λx=>x++items2),toks:=s.toks }):=
 .of_wp λprog w A R s h=>by
  obtain⟨hp,g,d,tk,os⟩:=s;obtain⟨hl,hb,h⟩:=h;have f1:=gu;have f2:=fO;have f3:=AutoSeq1.sub_list_list;have f4:=AutoSeq1.sub_tuple_list;have f5:=AutoSeq1.sub_list_tuple;have hz':(items++items2).size≤sizeLine+1:=by rw[Array.size_append];exact hs2
  wp_walk using(wpAny_updateSeq hl rfl (hz:=hs1) (_hz':=hz')),cT hl,cT hb;exact⟨_,rfl,h⟩
def zme (K:ai):V→List V→Hp→VK→Prop:=λx vs H Q=>∃l b xs zs,x= .ref l∧vs=[.ref b]∧H l=ae (.lst xs)∧SqT K H b zs∧xs.length+zs.length≤sizeLine∧Q .non (upd H l (.lst (xs++zs)))
theorem zmG:MtM X "list.extend" (zme X.K):=by
 intro pins s σ H x vs v us Q I rx rv h;obtain⟨l,b,xs,zs,rfl,rfl,hH,hB,hz,q⟩:=h;cases rx;obtain⟨u,rfl,ru⟩:=rv.one;cases ru;obtain⟨z,its,n,r,hl,e⟩:=I.lstM hH;obtain⟨its2,r2,ht,hz2⟩:=I.tuple hB;obtain⟨⟨cls,dd,data,sl⟩,e2,hc,n2,hd⟩:=ht;simp only at hc hd;subst hc hd;have hl2:=r2.length;have hsz:its.toArray.size+its2.toArray.size≤sizeLine:=by rw[aQ,aQ];omega
 have hlong:¬(!its.toArray.isEmpty&&eA (its.toArray.size+its2.toArray.size))=true:=by
  rw[zhz hsz,fT];exact cX
 refine cH kz ⟨_,e,rfl⟩ j3 (jE _ _)
  (zeH l its.toArray n b its2.toArray n2 dd sl hlong (by rw[aQ];omega) (by omega)) ⟨e,e2,?_⟩
 refine⟨.non,_,I.lset (its':=its++its2) hH e (by simp) (r.append r2) ?_,rfl,q⟩;rw[ba];omega
def zxr (K:ai):V→List V→Hp→VK→Prop:=λx vs H Q=>∃(z:Str) (b:Addr) (ys:List Str),x= .str z∧vs=[.ref b]∧SqL K H b (ys.map V.str)∧(ys.map (·.length)).sum+ys.length*z.length≤16777216∧Q (.str (cQ z ys)) H
theorem zue{ys:List Str}:∀{us:List Value},Vals (ys.map V.str) us→StrsAre us ys:=by
 induction ys with
 |nil=>
  intro us r;cases r;exact .nil
 |cons y ys ih=>
  intro us r;cases r with
  |cons a b=>
   obtain⟨t,rfl⟩:=a;exact .cons y t (ih b)
theorem ztc:MtM X "str.join" (zxr X.K):=by
 intro pins s σ H x vs v us Q I rx rv h;obtain⟨z,b,ys,rfl,rfl,hB,hz,q⟩:=h;obtain⟨t,rfl⟩:=rx;obtain⟨u,rfl,ru⟩:=rv.one;cases ru;obtain⟨its,r,pl,_⟩:=I.list hB;refine join_list pl.isList (by simpa using zue r) hz λt' k=>⟨.str (cQ z ys),H,I.tok _,⟨t',?_⟩,q⟩;show eH (bD.Str.glued z ys) t'=_;rw[StrLaws.glued_eq_join]
end
theorem zfA:fillsNumberSlot (.type "tuple") "mul" =pure false:=
 PySem.fillsNumberSlot_seq (id:= "tuple.__mul__") (r:=ae (.builtin "tuple.__rmul__")) eG.lookup (by decide +kernel) jp.lookup (by decide +kernel)
theorem zjy:seqRepeat? (.type "tuple")=pure (ae (.builtin "tuple.__mul__")):=by
 unfold seqRepeat?;rw[i8 (T:= "tuple") (name:= "__mul__") (id:= "tuple.__mul__") eG.lookup (by decide +kernel),i8 (T:= "tuple") (name:= "__rmul__") (id:= "tuple.__rmul__") jp.lookup (by decide +kernel)];rfl
theorem zmB (a:Int) (t:bc) (l:Addr) (items:Array Value) (n:Nat) (dd:Option Addr) (sl:Array (Option Value)) :
  Meets (bD.«int.__rmul__» ⟨[.int a t, .ref l],[]⟩) (λ_ R s=>s.heap.get? l=ae { cls:= .type "tuple",dict:=dd,data:= .seq items n,slots:=sl }∧R (.ok (.ret Value.notImplemented)) s):=
 .of_wp λprog w A R s h=>by obtain⟨hp,g,d,tk,os⟩:=s;obtain⟨hl,h⟩:=h;wp_walk;exact⟨_,rfl,h⟩
theorem zhB (l:Addr) (items:Array Value) (n:Nat) (dd:Option Addr) (sl:Array (Option Value)) (u:bc) :
  Meets (bD.«tuple.__mul__» ⟨[.ref l, .int 1 u],[]⟩) (λ_ R s=>s.heap.get? l=ae { cls:= .type "tuple",dict:=dd,data:= .seq items n,slots:=sl }∧R (.ok (.ret (.ref l))) s):=
 .of_wp λprog w A R s h=>by
  obtain⟨hp,g,d,tk,os⟩:=s;obtain⟨hl,h⟩:=h;have f1:=gu;have f2:=fO
  wp_walk using cT hl
  exact⟨_,rfl,h⟩
theorem zif (l:Addr) (items:Array Value) (n:Nat) (dd:Option Addr) (sl:Array (Option Value)) (x:Int) (u:bc) (h0:x≤0) (h1: -(2 ^ 63)≤x) (hne:items.isEmpty=false) :
  Meets (bD.«tuple.__mul__» ⟨[.ref l, .int x u],[]⟩) (λ_ R s=>s.heap.get? l=ae { cls:= .type "tuple",dict:=dd,data:= .seq items n,slots:=sl }∧R (.ok (.ret (.ref s.heap.objs.size))) { s with heap:=s.heap.push { cls:= .type "tuple",data:= .seq #[] } }):=
 .of_wp λprog w A R s h=>by
  obtain⟨hp,g,d,tk,os⟩:=s;obtain⟨hl,h⟩:=h;have f1:=gu;have f2:=fO;have c1:(decide (x< -2 ^ 63) || decide (x≥2 ^ 63))=false:=by
   rw[decide_eq_false (by omega),decide_eq_false (by omega)];rfl
  have c2:(items.isEmpty || x == 1)=false:=by
   rw[hne,beq_false_of_ne (by omega)];rfl
  have c3:(decide (x≤0) || items.isEmpty)=true:=by rw[decide_eq_true h0];rfl
  wp_walk using cT hl
  refine db (λz=>absurd z (dH.mp c1)) λ_=>?_
  wp_walk using cT hl
  refine db (λz=>absurd z (dH.mp c2)) λ_=>?_;refine db (λ_=>?_) (λz=>absurd c3 z)
  wp_walk using cT hl
  exact⟨_,rfl,h⟩
theorem zgT (l:Addr) (items:Array Value) (n:Nat) (dd:Option Addr) (sl:Array (Option Value)) (x:Int) (u:bc) (h0:2≤x) (h1:x<2 ^ 63) (hne:items.isEmpty=false) (hz:items.size*x.toNat≤sizeLine) :
  Meets (bD.«tuple.__mul__» ⟨[.ref l, .int x u],[]⟩) (λ_ R s=>s.heap.get? l=ae { cls:= .type "tuple",dict:=dd,data:= .seq items n,slots:=sl }∧R (.ok (.ret (.ref s.heap.objs.size))) { s with heap:=s.heap.push { cls:= .type "tuple",data:= .seq (dL (λx1 x2=>x1++x2) #[] (aJ x.toNat items)) } }):=
 .of_wp λprog w A R s h=>by
  obtain⟨hp,g,d,tk,os⟩:=s;obtain⟨hl,h⟩:=h;have f1:=gu;have f2:=fO;have hx:((x.toNat:Nat):Int)=x:=by omega
  have hzi:(items.size:Int)*x≤16777216:=by
   have:((items.size*x.toNat:Nat):Int)≤(sizeLine:Nat):=by exact_mod_cast hz
   rw[Int.natCast_mul,hx]at this;exact this
  have c1:(decide (x< -2 ^ 63) || decide (x≥2 ^ 63))=false:=by
   rw[decide_eq_false (by omega),decide_eq_false (by omega)];rfl
  have c2:(items.isEmpty || x == 1)=false:=by
   rw[hne,beq_false_of_ne (by omega)];rfl
  have c3:(decide (x≤0) || items.isEmpty)=false:=by rw[hne,decide_eq_false (by omega)];rfl
  have c4:¬(items.size:Int)*x > (2 ^ 63 - 1) / 8:=by omega
  have c5:bD.Tuple.tupleTooMany ((items.size:Int)*x)=false:=decide_eq_false (by
   have:((sizeLine:Nat):Int)=16777216:=by decide
   omega)
  have hsz:(dL (λx1 x2=>x1++x2) #[] (aJ x.toNat items)).size≤sizeLine:=by
   rw[AutoSeq1.size_joined];simp;rw[iv];exact hz
  wp_walk using cT hl
  refine db (λz=>absurd z (dH.mp c1)) λ_=>?_
  wp_walk using cT hl
  refine db (λz=>absurd z (dH.mp c2)) λ_=>?_;refine db (λz=>absurd z (dH.mp c3)) λ_=>?_;refine db (λz=>absurd z c4) λ_=>?_;refine db (λz=>absurd z (dH.mp c5)) λ_=>?_
  wp_walk using cT hl
  exact⟨_,rfl,h⟩
section
variable {X:Cx}
noncomputable def zvu (K:ai):R2:=λx y H Q=>∃a k xs,x= .ref a∧y= .int k∧SqT K H a xs∧xs≠ []∧ -(2 ^ 63)≤k∧k<2 ^ 63∧xs.length*k.toNat≤sizeLine∧
 (k=1→Q (.ref a) H)∧(k≠1→ ∀p,H p=none→Q (.ref p) (upd H p (.tup (aJ k.toNat xs).flatten)))
theorem ztH:OpR X (bP .Mult) (zvu X.K):=by
 intro pins s σ H x y v u Q I rx ry h;obtain⟨a,k,xs,rfl,rfl,ha,hne,h1,h2,hz,q1,q2⟩:=h;cases rx;obtain⟨t,rfl⟩:=ry;obtain⟨its,r,ht,hz0⟩:=I.tuple ha;have hlen:=r.length;have ty:=ht.typeIs;obtain⟨⟨cls,dd,data,sl⟩,e,hc,n,hd⟩:=ht;simp only at hc hd;subst hc hd;have hemp:its.toArray.isEmpty=false:=by
  cases its with
  |nil=>
   have:xs=[]:=iq (by rw[hlen];rfl);exact absurd this hne
  |cons b bs=>rfl
 have fin:∀{its':List Value}{ys:List V},Vals ys its'→ys.length≤sizeLine→(∀p,H p=none→Q (.ref p) (upd H p (.tup ys)))→EP X pins σ Q (.ref s.heap.objs.size) { s with heap:=s.heap.push { cls:= .type "tuple",data:= .seq its'.toArray } }:=λ{its' ys} rv hl q=>
  ⟨.ref s.heap.objs.size,_,I.laid (t':=s.toks) (o:= .tup ys) (λb ob q=>aK _ q) (aB _) ⟨hl,_,rv,gj _ _⟩,rfl,q _ (I.hok.fresh (aB _))⟩
 refine jh (T:= "tuple") (U:= "int") (by decide) ty (λs'=>fh s' k t) zfA jD fU zjy ki.lookup
  (cH fU (fh s k t) jf (kS _ _) (zmB k t a its.toArray n dd sl) ⟨e,rfl,ty,?_⟩)
 by_cases hk:k=1
 ·subst hk;exact cH eG ty iK (gE _ _) (zhB a its.toArray n dd sl t) ⟨e, .ref a,H,I,rfl,q1 rfl⟩
 ·by_cases h0:k≤0
  ·refine cH eG ty iK (gE _ _) (zif a its.toArray n dd sl k t h0 h1 hemp) ⟨e,?_⟩;have z:k.toNat=0:=by omega
   have q2':=q2 hk;rw[z]at q2';exact fin (its':=[]) (ys:=[]) .nil (aS _) q2'
  ·refine cH eG ty iK (gE _ _) (zgT a its.toArray n dd sl k t (by omega) h2 hemp (by rw[aQ,←hlen];exact hz)) ⟨e,?_⟩;have hf:=zgB its k.toNat [];rw[aR]at hf;have hf':dL (λx1 x2=>x1++x2) #[] (aJ k.toNat its.toArray)=(aJ k.toNat its).flatten.toArray:=hf;rw[hf'];exact fin (r.rep k.toNat) (by rw[znu,iv];exact hz) (q2 hk)
end
inductive W where
  |non |bl (b:Bool) |int (i:Int) |str (x:Str) |tup (ws:List W) |ref (a:Addr) |scr (ns:List Int)
inductive Ob where
  |lst (ws:List W)
  |dct (kvs:List (List Int×W))
  |ins (C:Addr) (fs:List (Str×W))
abbrev Sto:=Addr→Option Ob
noncomputable def put (S:Sto) (a:Addr) (o:Ob):Sto:=λb=>if b=a then ae o else S b
def FzL (K:ai) (H:Hp) (a:Addr) (xs:List V):Prop:=
 (∃o,H a=ae (.frz o (.lst xs)))∨
  ∃(o:Obj) (its:Array Value) (n:Nat),K.lookup a=ae o∧o.cls= .type "list" ∧o.dict=none∧o.data= .seq its n∧its.size≤sizeLine∧Vals xs its.toList
mutual
inductive Rep (K:ai) (H:Hp):W→V→Prop
 |non:Rep K H .non .non
 |bl (b:Bool):Rep K H (.bl b) (.bl b)
 |int (i:Int):Rep K H (.int i) (.int i)
 |str (x:Str):Rep K H (.str x) (.str x)
 |ref (a:Addr):Rep K H (.ref a) (.ref a)
 |scr {a:Addr}{ns:List Int}:FzL K H a (ns.map V.int)→Rep K H (.scr ns) (.ref a)
 |tup {a:Addr}{vs:List V}{ws:List W}:H a=ae (.tup vs)→Reps K H ws vs→Rep K H (.tup ws) (.ref a)
inductive Reps (K:ai) (H:Hp):List W→List V→Prop
 |nil:Reps K H [] []
 |cons {w:W}{v:V}{ws:List W}{vs:List V}:Rep K H w v→Reps K H ws vs→Reps K H (w::ws) (v::vs)
end
structure Ext (H:Hp) (S:Sto) (H':Hp) (S':Sto):Prop where
  tup:∀b xs,H b=ae (.tup xs)→H' b=ae (.tup xs)
  frz:∀b o u,H b=ae (.frz o u)→H' b=ae (.frz o u)
  fr:∀b xs,H b=ae (.lst xs)→S b=none→H' b=ae (.lst xs)∧S' b=none
  all:∀b o,H b=ae o→ ∃o',H' b=ae o'
def Sub (S S':Sto):Prop:=∀a o,S a=ae o→S' a=ae o
section
variable {K:ai}{H H' H1 H2:Hp}{S S' S1 S2:Sto}
theorem zag{a:Addr}{o:Ob}:put S a o a=ae o:=by unfold put;rw[if_pos rfl]
theorem zaN{a b:Addr}{o:Ob}(h:b≠a):put S a o b=S b:=by unfold put;rw[if_neg h]
theorem zbe{a:Addr}{o o':Ob}:put (put S a o) a o'=put S a o':=by funext b;unfold put;split<;>rfl
theorem Ext.refl:Ext H S H S:=⟨λ_ _ h=>h,λ_ _ _ h=>h,λ_ _ h g=>⟨h,g⟩,λ_ o h=>⟨o,h⟩⟩
theorem Ext.trans (a:Ext H S H1 S1) (b:Ext H1 S1 H2 S2):Ext H S H2 S2:=⟨λc xs h=>b.tup c xs (a.tup c xs h),λc o u h=>b.frz c o u (a.frz c o u h),
 λc o h g=>by
  obtain⟨h1,g1⟩:=a.fr c o h g;exact b.fr c o h1 g1,λc o h=>by
  obtain⟨o1,h1⟩:=a.all c o h;exact b.all c o1 h1⟩
theorem Ext.new{p:Addr}{o:HO}(h:H p=none):Ext H S (upd H p o) S:=
  ⟨λb xs e=>by rw[zaB (zas e h)];exact e,λb ob u e=>by rw[zaB (zas e h)];exact e,
   λb ob e g=>⟨by rw[zaB (zas e h)];exact e,g⟩,λb ob e=>⟨ob,by rw[zaB (zas e h)];exact e⟩⟩
theorem Ext.newS{p:Addr}{o:HO}{ob:Ob}(h:H p=none):Ext H S (upd H p o) (put S p ob):=
  ⟨λb xs e=>by rw[zaB (zas e h)];exact e,λb ob u e=>by rw[zaB (zas e h)];exact e,
   λb ob e g=>⟨by rw[zaB (zas e h)];exact e,by rw[zaN (zas e h)];exact g⟩,λb ob e=>⟨ob,by rw[zaB (zas e h)];exact e⟩⟩
theorem Ext.mut{p:Addr}{o u:HO}{ob ob0:Ob}(h:H p=ae u) (hs:S p=ae ob0) (ht:∀xs,u≠ .tup xs) (hf:∀ob q,u≠ .frz ob q):Ext H S (upd H p o) (put S p ob):=
  ⟨λb xs e=>by rw[zaB (zqe e h λz=>ht xs z.symm)];exact e,λb ob q e=>by rw[zaB (zqe e h λz=>hf ob q z.symm)];exact e,
   λb ob e g=>by
     have hb:b≠p:=by rintro rfl;rw[hs]at g;cases g
     exact⟨by rw[zaB hb];exact e,by rw[zaN hb];exact g⟩,λb ob e=>by
     by_cases hb:b=p
     · subst hb;exact⟨o,zaA⟩
     · exact⟨ob,by rw[zaB hb];exact e⟩⟩
theorem Ext.lst{p:Addr}{o:HO}{ob ob0:Ob}{xs:List V}(h:H p=ae (.lst xs)) (hs:S p=ae ob0):Ext H S (upd H p o) (put S p ob):= .mut h hs (λ_ z=>nomatch z) λ_ _ z=>nomatch z
theorem Ext.drop (h:Sub S' S):Ext H S H S':=⟨λ_ _ h=>h,λ_ _ _ h=>h,λb o e g=>⟨e,by
 cases q:S' b with
 |none=>rfl
 |some z=>rw[h b z q]at g;cases g⟩,λ_ o h=>⟨o,h⟩⟩
theorem Ext.free (e:Ext H S H' S') {p:Addr}(h:H' p=none):H p=none:=by
 cases q:H p with
 |none=>rfl
 |some o=>obtain⟨o',z⟩:=e.all p o q;rw[h]at z;cases z
theorem Ext.fz{a:Addr}{xs:List V}(e:Ext H S H' S') (h:FzL K H a xs):FzL K H' a xs:=by
 rcases h with⟨o,h⟩ |h
 ·exact .inl ⟨o,e.frz _ _ _ h⟩
 ·exact .inr h
theorem FzL.sq{a:Addr}{xs:List V}(h:FzL K H a xs):SqL K H a xs:=by
 rcases h with⟨o,h⟩ |h
 ·exact .inl (.inr ⟨o,h⟩)
 ·exact .inr h
mutual
theorem Rep.ext (e:Ext H S H' S') {w:W}{v:V}:Rep K H w v→Rep K H' w v
 | .non=> .non
 | .bl b=> .bl b
 | .int i=> .int i
 | .str x=> .str x
 | .ref a=> .ref a
 | .scr h=> .scr (e.fz h)
 | .tup h hs=> .tup (e.tup _ _ h) (Reps.ext e hs)
theorem Reps.ext (e:Ext H S H' S') {ws:List W}{vs:List V}:Reps K H ws vs→Reps K H' ws vs
 | .nil=> .nil
 | .cons h hs=> .cons (Rep.ext e h) (Reps.ext e hs)
end
theorem Reps.length:∀{ws:List W}{vs:List V},Reps K H ws vs→ws.length=vs.length
 |_,_, .nil=>rfl
 |_,_, .cons _ hs=>congrArg (· +1) (Reps.length hs)
theorem Reps.get:∀{ws:List W}{vs:List V}{i:Nat}{w:W},Reps K H ws vs→ws[i]? =ae w→ ∃v,vs[i]? =ae v∧Rep K H w v
 |_,_,_,_, .nil,e=>by simp at e
 |_,_,0,_, .cons h _,e=>by simp at e;subst e;exact⟨_,rfl,h⟩
 |_,_,i+1,w, .cons _ hs,e=>by
  obtain⟨v,h1,h2⟩:=Reps.get (i:=i) (w:=w) hs (by simpa using e);exact⟨v,by simpa using h1,h2⟩
theorem Reps.append:∀{ws us:List W}{vs xs:List V},Reps K H ws vs→Reps K H us xs→Reps K H (ws++us) (vs++xs)
 |_,_,_,_, .nil,h=>h
 |_,_,_,_, .cons r t,h=> .cons r (Reps.append t h)
theorem Reps.take:∀{ws:List W}{vs:List V}(n:Nat),Reps K H ws vs→Reps K H (ws.take n) (vs.take n)
 |_,_,0,_=> .nil
 |_,_,_+1, .nil=> .nil
 |_,_,n+1, .cons r t=> .cons r (Reps.take n t)
theorem Reps.drop:∀{ws:List W}{vs:List V}(n:Nat),Reps K H ws vs→Reps K H (ws.drop n) (vs.drop n)
 |_,_,0,r=>r
 |_,_,_+1, .nil=> .nil
 |_,_,n+1, .cons _ t=>Reps.drop n t
theorem Reps.one{w:W}{v:V}(h:Rep K H w v):Reps K H [w] [v]:= .cons h .nil
theorem Reps.ofInts:∀(ns:List Int),Reps K H (ns.map W.int) (ns.map V.int)
 | []=> .nil
 |n::ns=> .cons (.int n) (Reps.ofInts ns)
end
noncomputable def RepO (K:ai) (H:Hp) (a:Addr):Ob→Prop
 | .lst ws=>∃vs,H a=ae (.lst vs)∧Reps K H ws vs
 | .dct kvs=>∃ps:List (List Key×V),H a=ae (.dT ps)∧bR (λq p=>p.1=q.1.map Sum.inl∧Rep K H q.2 p.2) kvs ps
 | .ins C fs=>False
def RepS (K:ai) (H:Hp) (S:Sto):Prop:=∀a o,S a=ae o→RepO K H a o
section
variable {K:ai}{H H':Hp}{S S' S0 S0':Sto}{a b p:Addr}{o:Ob}
theorem Sub.refl:Sub S S:=λ_ _ h=>h
theorem Sub.trans{S1 S2 S3:Sto}(h:Sub S1 S2) (g:Sub S2 S3):Sub S1 S3:=λa o e=>g a o (h a o e)
theorem Sub.new (h:S a=none):Sub S (put S a o):=λb u e=>by rw[zaN (by rintro rfl;rw[h]at e;cases e)];exact e
theorem RepS.sub (h:RepS K H S') (q:Sub S S'):RepS K H S:=λa o e=>h a o (q a o e)
theorem RepO.some (h:RepO K H a o):∃u,H a=ae u:=by
 cases o with
 |lst ws=>obtain⟨vs,e,_⟩:=h;exact⟨_,e⟩
 |dct kvs=>obtain⟨vs,e,_⟩:=h;exact⟨_,e⟩
 |ins C fs=>exact h.elim
theorem RepS.free (h:RepS K H S) (e:H p=none):S p=none:=by
 cases q:S p with
 |none=>rfl
 |some o=>obtain⟨u,z⟩:=(h p o q).some;rw[e]at z;cases z
theorem RepO.keep (e:Ext H S0 H' S0') (k:∀u,H a=k6 u→H' a=k6 u) (h:RepO K H a o):RepO K H' a o:=by
 cases o with
 |lst ws=>obtain⟨vs,e1,r⟩:=h;exact⟨vs,k _ e1,r.ext e⟩
 |dct kvs=>obtain⟨vs,e1,r⟩:=h;exact⟨vs,k _ e1,Paired.mapP r λ_ _ z=>⟨z.1,z.2.ext e⟩⟩
 |ins C fs=>exact h.elim
theorem RepS.new{u:HO}(h:RepS K H S) (e:H p=none):RepS K (upd H p u) S:=λa o q=>
 (h a o q).keep (.new (S:=S) e) λv z=>by rw[zaB (zas z e)];exact z
theorem RepS.put_lst{ws:List W}{vs:List V}(h:RepS K H S) (e:H p=none) (r:Reps K (upd H p (.lst vs)) ws vs):RepS K (upd H p (.lst vs)) (put S p (.lst ws)):=λa o q=>by
 by_cases ha:a=p
 ·subst ha;rw[zag]at q;cases q;exact⟨vs,zaA,r⟩
 ·rw[zaN ha]at q;exact h.new e a o q
theorem RepS.set_lst{ws0 ws:List W}{vs:List V}(h:RepS K H S) (e:S a=ae (.lst ws0)) (r:Reps K H ws vs):Ext H S (upd H a (.lst vs)) (put S a (.lst ws))∧RepS K (upd H a (.lst vs)) (put S a (.lst ws)):=by
 obtain⟨vs0,e0,_⟩:=h a _ e;have x:Ext H S (upd H a (.lst vs)) (put S a (.lst ws)):= .lst e0 e;refine⟨x,λb o q=>?_⟩;by_cases hb:b=a
 ·subst hb;rw[zag]at q;cases q;exact⟨vs,zaA,r.ext x⟩
 ·rw[zaN hb]at q;exact(h b o q).keep x λu z=>by rw[zaB hb];exact z
end
abbrev WSt:=List (Option W)
abbrev WK:=W→Sto→Prop
abbrev WX:=Str→WSt→Sto→Prop
abbrev WE:=WX→WSt→Sto→WK→Prop
abbrev WT:=WX→WSt→Sto→(Bool→Sto→Prop)→Prop
abbrev WA:=WX→WSt→Sto→(List W→Sto→Prop)→Prop
structure WEnds where
  nx:WSt→Sto→Prop
  rt:WK
  bk:WSt→Sto→Prop:=λ_ _=>False
  ct:WSt→Sto→Prop:=λ_ _=>False
abbrev WS:=WX→WEnds→WSt→Sto→Prop
abbrev WG:=W→WSt→Sto→(WSt→Sto→Prop)→Prop
abbrev WSp:=List W→Sto→WK→(Str→Sto→Prop)→Prop
abbrev WI:=WX→WSt→Sto→(List W→(Sto→Prop)→Sto→Prop)→Prop
abbrev WL:=WX→WSt→Sto→(List W→Sto→Prop)→Prop
noncomputable def RpO (K:ai) (H:Hp):Option W→Option V→Prop
 |none,_=>True
 |some w,ae v=>Rep K H w v
 |some _,none=>False
def RpSt (K:ai) (H:Hp) (σW:WSt) (σ:St):Prop:=bR (RpO K H) σW σ
section
variable {K:ai}{H H':Hp}{S S':Sto}
theorem RpO.ext (e:Ext H S H' S'):∀{w:Option W}{v:Option V},RpO K H w v→RpO K H' w v
 |none,_,_=>trivial
 |some _,ae _,h=>Rep.ext e h
 |some _,none,h=>h.elim
theorem RpSt.ext (e:Ext H S H' S') {σW:WSt}{σ:St}(h:RpSt K H σW σ):RpSt K H' σW σ:=Paired.mapP h λ_ _ r=>RpO.ext e r
theorem RpSt.get:∀{σW:WSt}{σ:St}{i:Nat}{w:W},RpSt K H σW σ→σW[i]? =ae (ae w)→ ∃v,σ[i]? =ae (ae v)∧Rep K H w v
 |_,_,_,_, .nil,e=>by simp at e
 |_,_,0,_, .cons (b:=b) h _,e=>by
  simp at e;subst e;cases b with
  |none=>exact(show False from h).elim
  |some v=>exact⟨v,rfl,h⟩
 |_,_,i+1,w, .cons _ hs,e=>by
  obtain⟨v,h1,h2⟩:=RpSt.get (i:=i) (w:=w) hs (by simpa using e);exact⟨v,by simpa using h1,h2⟩
theorem RpSt.set{w:W}{v:V}(h:Rep K H w v):∀{σW:WSt}{σ:St}(i:Nat),RpSt K H σW σ→RpSt K H (σW.set i (ae w)) (σ.set i (ae v))
 |_,_,_, .nil=> .nil
 |_,_,0, .cons _ t=> .cons h t
 |_,_,i+1, .cons q t=> .cons q (RpSt.set h i t)
end
def Wish (K:ai) (H:Hp) (S:Sto) (QW:WK) (Q:VK):Prop:=∀w S' v H',Ext H S H' S'→Rep K H' w v→RepS K H' S'→QW w S'→Q v H'
noncomputable def zxW (K:ai) (t:WSt→Sto→WK→Prop):TE:=λσ H Q=>∃σW S QW,RpSt K H σW σ∧RepS K H S∧t σW S QW∧Wish K H S QW Q
noncomputable def zuI (K:ai) (t:WSt→Sto→(Bool→Sto→Prop)→Prop):TT:=λσ H Q=>∃σW S QW,RpSt K H σW σ∧RepS K H S∧t σW S QW∧ ∀b S' H',Ext H S H' S'→RepS K H' S'→QW b S'→Q b H'
noncomputable def zyQ (K:ai) (t:WSt→Sto→(List W→Sto→Prop)→Prop):TA:=λσ H Q=>∃σW S QW,RpSt K H σW σ∧RepS K H S∧t σW S QW∧ ∀ws S' vs H',Ext H S H' S'→Reps K H' ws vs→RepS K H' S'→QW ws S'→Q vs H'
def Goes (K:ai) (H:Hp) (S:Sto) (P:WSt→Sto→Prop) (Q:St→Hp→Prop):Prop:=∀σW S' σ H',Ext H S H' S'→RpSt K H' σW σ→RepS K H' S'→P σW S'→Q σ H'
structure Meets (K:ai) (H:Hp) (S:Sto) (DW:WEnds) (D:Ends):Prop where
  nx:Goes K H S DW.nx D.nx
  rt:Wish K H S DW.rt D.rt
  bk:Goes K H S DW.bk D.bk
  ct:Goes K H S DW.ct D.ct
noncomputable def zvw (K:ai) (t:WEnds→WSt→Sto→Prop):TS:=λD σ H=>∃σW S DW,RpSt K H σW σ∧RepS K H S∧t DW σW S∧Meets K H S DW D
noncomputable def zyM (K:ai) (t:WG):TG:=λv σ H Q=>∃w σW S P,Rep K H w v∧RpSt K H σW σ∧RepS K H S∧t w σW S P∧Goes K H S P Q
def ItW (K:ai) (J:It) (ws:List W) (G:Sto→Prop) (H0:Hp) (S0:Sto):Prop:=∀i S H,Ext H0 S0 H S→RepS K H S→G S→
 (∀w,ws[i]? =ae w→J.go i H∧ ∀x H',J.yld i H x H'→Ext H S H' S∧RepS K H' S∧Rep K H' w x)∧(i=ws.length→J.stop i H)
noncomputable def zvB (K:ai) (t:WSt→Sto→(List W→(Sto→Prop)→Sto→Prop)→Prop):TI:=λσ H R=>∃σW S QW,RpSt K H σW σ∧RepS K H S∧t σW S QW∧
 ∀ws G S' J H',Ext H S H' S'→RepS K H' S'→G S'→ItW K J ws G H' S'→QW ws G S'→R J H'
noncomputable def zve (K:ai) (t:WSt→Sto→(List W→Sto→Prop)→Prop):TE:=λσ H Q=>∃σW S QW,RpSt K H σW σ∧RepS K H S∧t σW S QW∧
 ∀ws S' vs a H',Ext H S H' S'→H a=none→H' a=ae (.lst vs)→S' a=none→Reps K H' ws vs→RepS K H' S'→QW ws S'→Q (.ref a) H'
noncomputable def zcG (K:ai) (sp:WSp):Sp:=λvs H Q E=>∃ws S QW EW,Reps K H ws vs∧RepS K H S∧sp ws S QW EW∧Wish K H S QW Q∧
 ∀cl C S' H',aT K aL cl=ae (ae (.ref C))→RepS K H' S'→EW cl S'→E (.ref C) none H'
def Fly (g h:Heap) (H:Hp) (a C:Addr):Prop:=g.get? a=none∧H a=none∧ ∃oe vs T oT ts,h.get? a=ae oe∧oe.cls= .ref C∧oe.data= .fields vs∧vs[1]? =ae (.ref T)∧
 g.get? T=none∧H T=none∧T≠a∧h.get? T=ae oT∧oT.data= .fields ts∧ts[3]? =ae .none
noncomputable def CX1 (P:aF) (w:ax):CXT:=λouter H s E e s'=>∃a C H',e= .ref a∧s'.os=s.os∧bT s'.gens∧Un (frs outer) [] H H' s.heap s'.heap∧HOk P w H' s'.heap∧Fly s.heap s'.heap H' a C∧E (.ref C) none H'
structure Hook (X:Cx) (E:WX):Prop where
  own:cY (ap X.prog X.w) X.A X.env X.xe
  far:∀(pins:List (Addr×Obj)) (σ:St) (H:Hp) (s:ah) (σW:WSt) (cl:Str) (C a:Addr) (H':Hp) (S':Sto) (s':ah),Inv X pins σ H s→RpSt X.K H σW σ→aT X.K aL cl=ae (ae (.ref C))→
    s'.os=s.os→bT s'.gens→Un (frs X.stack) [] H H' s.heap s'.heap→HOk X.prog X.w H' s'.heap→Fly s.heap s'.heap H' a C→RepS X.K H' S'→E cl σW S'→X.xe (.ref a) s'
  near:∀(pins:List (Addr×Obj)) (σ:St) (H:Hp) (s:ah) (σW:WSt) (cl:Str) (C a:Addr) (S:Sto) (h':Heap) (args:List Value),Inv X pins σ H s→RpSt X.K H σW σ→aT X.K aL cl=ae (ae (.ref C))→
    Heap.MadeExcOf s.heap h' a (.ref C) args→RepS X.K H S→E cl σW S→X.xe (.ref a) { s with heap:=h' }
def JE (X:Cx) (e:Expr) (t:WE):Prop:=∀E,Hook X E→PE X e (zxW X.K (t E))
def JT (X:Cx) (e:Expr) (t:WT):Prop:=∀E,Hook X E→PT X e (zuI X.K (t E))
def JW (X:Cx) (e:Expr) (t:WT):Prop:=∀E,Hook X E→PW X e (zuI X.K (t E))
def JA (X:Cx) (es:List Expr) (t:WA):Prop:=∀E,Hook X E→PA X es (zyQ X.K (t E))
def JS (X:Cx) (st:Stmt) (t:WS):Prop:=∀E,Hook X E→PS X st (zvw X.K (t E))
def JSs (X:Cx) (st:List Stmt) (t:WS):Prop:=∀E,Hook X E→PSs X st (zvw X.K (t E))
def JG (X:Cx) (tg:Expr) (t:WG):Prop:=∀E,Hook X E→PG X tg (zyM X.K t)
def JI (X:Cx) (tg iter:Expr) (t:WI):Prop:=∀E,Hook X E→PI X tg iter (zvB X.K (t E))
def JL (X:Cx) (e:Expr) (t:WL):Prop:=∀E,Hook X E→PE X e (zve X.K (t E))
theorem PE.mono{X:Cx}{e:Expr}{t t':TE}(h:PE X e t) (q:∀σ H Q,t' σ H Q→t σ H Q):PE X e t':=λpins s σ H Q I z=>h pins s σ H Q I (q σ H Q z)
theorem PT.mono{X:Cx}{e:Expr}{t t':TT}(h:PT X e t) (q:∀σ H Q,t' σ H Q→t σ H Q):PT X e t':=λpins s σ H Q I z=>h pins s σ H Q I (q σ H Q z)
theorem PW.mono{X:Cx}{e:Expr}{t t':TT}(h:PW X e t) (q:∀σ H Q,t' σ H Q→t σ H Q):PW X e t':=λwh pins s σ H Q I z=>h wh pins s σ H Q I (q σ H Q z)
theorem PA.mono{X:Cx}{e:List Expr}{t t':TA}(h:PA X e t) (q:∀σ H Q,t' σ H Q→t σ H Q):PA X e t':=λpos pins s σ H Q I z=>h pos pins s σ H Q I (q σ H Q z)
theorem PS.mono{X:Cx}{e:Stmt}{t t':TS}(h:PS X e t) (q:∀D σ H,t' D σ H→t D σ H):PS X e t':=λpins s σ H D I z=>h pins s σ H D I (q D σ H z)
theorem PSs.mono{X:Cx}{e:List Stmt}{t t':TS}(h:PSs X e t) (q:∀D σ H,t' D σ H→t D σ H):PSs X e t':=λpins s σ H D I z=>h pins s σ H D I (q D σ H z)
theorem PG.mono{X:Cx}{e:Expr}{t t':TG}(h:PG X e t) (q:∀v σ H Q,t' v σ H Q→t v σ H Q):PG X e t':=λpins s σ H v u Q I r z=>h pins s σ H v u Q I r (q v σ H Q z)
theorem PI.mono{X:Cx}{tg e:Expr}{t t':TI}(h:PI X tg e t) (q:∀σ H R,t' σ H R→t σ H R):PI X tg e t':=λpins s σ H R I z=>h pins s σ H R I (q σ H R z)
noncomputable def zaf (i:Nat):WE:=λ_ σ S Q=>match σ[i]? with
 |some (ae w)=>Q w S
 |_=>False
noncomputable def wC (w:W):WE:=λ_ _ S Q=>Q w S
section
variable {X:Cx}
theorem jv (i:Nat) {x:Str}{pos:ay}(hN:X.N[i]? =ae x:=by rfl) (hv:Vis X.env.scope x:=by first |exact aj rfl |exact b4 (aj rfl) |exact b4 (b4 rfl)) (hd:(x == ("__debug__" :Str))=false:=by decide)
  (hcd:(x == ("__classdict__" :Str))=false:=by decide):JE X (.Name x pos) (zaf i):=λE hE=>(zny hN hv hd hcd).mono λσ H Q ⟨σW,S,QW,hσ,hS,ht,hQ⟩=>by
 unfold zaf at ht;split at ht
 ·rename_i w e;obtain⟨v,e',r⟩:=hσ.get e;exact⟨v,e',hQ w S v H .refl r hS ht⟩
 ·exact ht.elim
theorem znD{e:Expr}{v:V}{w:W}(h:PE X e (tC v)) (r:∀K H,Rep K H w v):JE X e (wC w):=λE hE=>h.mono λσ H Q ⟨σW,S,QW,hσ,hS,ht,hQ⟩=>hQ w S v H .refl (r _ _) hS ht
theorem zad{i j pos}:JE X (.Constant (.int i) j pos) (wC (.int i)):=znD zvE λ_ _=> .int i
theorem zdE{b j pos}:JE X (.Constant (.bool b) j pos) (wC (.bl b)):=znD zzp λ_ _=> .bl b
theorem zgN{j pos}:JE X (.Constant .none j pos) (wC .non):=znD zxb λ_ _=> .non
theorem zhh{x j pos}:JE X (.Constant (.str x) j pos) (wC (.str x)):=znD zvq λ_ _=> .str x
theorem zfq{x:Str}{i:Int}{u:bc}{pos:ay}(hg:Gl X x) (hm:X.mg x=ae (.int i u)) (hd:(x == ("__debug__" :Str))=false:=by decide):JE X (.Name x pos) (wC (.int i)):=znD (v:= .int i) (zog hg hm ⟨u,rfl⟩ hd) λ_ _=> .int i
end
abbrev W2:=W→W→Sto→WK→Prop
noncomputable def wOp (r:W2) (a b:WE):WE:=λE σ S Q=>a E σ S λx S1=>b E σ S1 λy S2=>r x y S2 Q
def OpW (K:ai) (r:R2) (wr:W2):Prop:=∀H x y wx wy S (Q:VK) (QW:WK),Rep K H wx x→Rep K H wy y→RepS K H S→wr wx wy S QW→Wish K H S QW Q→r x y H Q
theorem Wish.from{K:ai}{H H':Hp}{S S':Sto}{QW:WK}{Q:VK}(h:Wish K H S QW Q) (e:Ext H S H' S'):Wish K H' S' QW Q:=λw S v H'' e' r hS q=>h w S v H'' (e.trans e') r hS q
theorem Goes.from{K:ai}{H H':Hp}{S S':Sto}{P:WSt→Sto→Prop}{Q:St→Hp→Prop}(h:Goes K H S P Q) (e:Ext H S H' S'):Goes K H' S' P Q:=λσW S σ H'' e' r hS q=>h σW S σ H'' (e.trans e') r hS q
theorem Meets.from{K:ai}{H H':Hp}{S S':Sto}{DW:WEnds}{D:Ends}(h:Meets K H S DW D) (e:Ext H S H' S'):Meets K H' S' DW D:=⟨h.nx.from e,h.rt.from e,h.bk.from e,h.ct.from e⟩
section
variable {X:Cx}{a b:Expr}{pos:ay}
theorem zfO{K:ai}{ta tb:WSt→Sto→WK→Prop}{wr:W→W→Sto→WK→Prop}{σ:St}{H:Hp}{Q:VK}{R:V→V→Hp→Prop}
  (h:zxW K (λσ S Q=>ta σ S λx S1=>tb σ S1 λy S2=>wr x y S2 Q) σ H Q)
  (hR:∀H2 x y wx wy S (QW:WK),Rep K H2 wx x→Rep K H2 wy y→RepS K H2 S→wr wx wy S QW→Wish K H2 S QW Q→R x y H2) :
  zxW K ta σ H λx H1=>zxW K tb σ H1 λy H2=>R x y H2:=by
 obtain⟨σW,S,QW,hσ,hS,ht,hQ⟩:=h;refine⟨σW,S,_,hσ,hS,ht,λw1 S1 v1 H1 e1 r1 hS1 h1=>?_⟩;refine⟨σW,S1,_,hσ.ext e1,hS1,h1,λw2 S2 v2 H2 e2 r2 hS2 h2=>?_⟩;exact hR H2 v1 v2 w1 w2 S2 QW (r1.ext e2) r2 hS2 h2 (hQ.from (e1.trans e2))
theorem zkx{op:gk}{r:R2}{wr:W2}{ta tb:WE}(ho:OpR X (bP op) r) (hw:OpW X.K r wr) (ha:JE X a ta) (hb:JE X b tb):JE X (.BinOp a op b pos) (wOp wr ta tb):=λE hE=>
 (zno ho (ha E hE) (hb E hE)).mono λσ H Q h=>zfO h λH2 x y wx wy S QW rx ry hS q hQ=>hw H2 x y wx wy S Q QW rx ry hS q hQ
theorem zwu{op:dG}{r:R2}{wr:W2}{ta tb:WE}(ho:OpR X (bH op) r) (hw:OpW X.K r wr) (ha:JE X a ta) (hb:JE X b tb) (hm:c8 op b=false):JE X (.Compare a [op] [b] pos) (wOp wr ta tb):=λE hE=>
 (ztw ho (ha E hE) (hb E hE) hm).mono λσ H Q h=>zfO h λH2 x y wx wy S QW rx ry hS q hQ=>hw H2 x y wx wy S Q QW rx ry hS q hQ
end
theorem ObjOk.ex{P:aF}{w:ax}{H:Hp}{h:Heap}{a:Addr}{o:HO}(x:ObjOk P w H h a o):∃u,h.get? a=ae u:=by
 cases o with
 |lst xs=>obtain⟨_,_,_,_,e⟩:=x;exact⟨_,e⟩
 |tup xs=>obtain⟨_,_,_,o,e,_⟩:=x;exact⟨_,e⟩
 |dK kvs=>obtain⟨_,_,_,_,o,_,_,e,_⟩:=x;exact⟨_,e⟩
 |dT kvs=>obtain⟨_,_,_,_,o,_,_,e,_⟩:=x;exact⟨_,e⟩
 |set S n=>obtain⟨o,_,_,_,e,_⟩:=x;exact⟨_,e⟩
 |ins C dx fs=>obtain⟨_,_,_,e,_⟩:=x;exact⟨_,e⟩
 |own y=>exact x
 |xd fs=>obtain⟨_,⟨_,_,_,e,_⟩,_⟩:=x;exact⟨_,e⟩
 |rng lo hi=>obtain⟨_,_,_,e⟩:=x;exact⟨_,e⟩
 |frz ob u=>obtain⟨e,_⟩:=x;exact⟨_,e⟩
 |tbl ps=>exact⟨_,show h.get? a=ae _ from x⟩
 |met f y=>exact⟨_,show h.get? a=ae _ from x⟩
 |ext φ=>exact x.2.1
noncomputable def unt (H:Hp) (S:Sto):Hp:=λb=>match H b with
 |some (.lst xs)=>match S b with
  |none=>none
  |some _=>ae (.lst xs)
 |o=>o
noncomputable def rtk (H:Hp) (S:Sto) (H':Hp):Hp:=λb=>match unt H S b with
 |none=>match H b with
  |some o=>ae o
  |none=>H' b
 |some _=>match H' b with
  |some o=>ae o
  |none=>ae (.ext λh=>∃o,h.get? b=ae o)
section
variable {w:ax}{K:ai}{H:Hp}{S:Sto}{h:Heap}{b:Addr}{o:HO}
theorem zlG (e:unt H S b=ae o):H b=ae o:=by
 unfold unt at e;split at e
 ·rename_i xs q;split at e
  ·cases e
  ·rw[q];exact e
 ·exact e
theorem zeF (e:H b=none):unt H S b=none:=by unfold unt;rw[e]
theorem zmh (e:H b=ae o) (n:∀xs,o≠ .lst xs):unt H S b=ae o:=by
 unfold unt;rw[e];cases o<;>first |rfl |exact absurd rfl (n _)
theorem zsD{u:Ob}(e:H b=ae o) (hs:S b=ae u):unt H S b=ae o:=by
 unfold unt;rw[e];cases o<;>first |rfl | (dsimp only;rw[hs])
theorem zpm{xs:List V}(e:H b=ae (.lst xs)) (hs:S b=none):unt H S b=none:=by
 unfold unt;rw[e];dsimp only;rw[hs]
theorem zwF (e:unt H S b=none) (q:H b=ae o):(∃xs,o= .lst xs)∧S b=none:=by
 unfold unt at e;rw[q]at e;cases o<;>first |cases e |skip;rename_i xs;dsimp only at e;split at e
 ·exact⟨⟨xs,rfl⟩, ‹_›⟩
 ·cases e
mutual
theorem Rep.mv{H1:Hp}(t:∀b xs,H b=ae (.tup xs)→H1 b=ae (.tup xs)) (f:∀b o u,H b=ae (.frz o u)→H1 b=ae (.frz o u)) {w:W}{v:V}:Rep K H w v→Rep K H1 w v
 | .non=> .non
 | .bl b=> .bl b
 | .int i=> .int i
 | .str x=> .str x
 | .ref a=> .ref a
 | .scr h=> .scr (by
  rcases h with⟨o,h⟩ |h
  ·exact .inl ⟨o,f _ _ _ h⟩
  ·exact .inr h)
 | .tup h hs=> .tup (t _ _ h) (Reps.mv t f hs)
theorem Reps.mv{H1:Hp}(t:∀b xs,H b=ae (.tup xs)→H1 b=ae (.tup xs)) (f:∀b o u,H b=ae (.frz o u)→H1 b=ae (.frz o u)) {ws:List W}{vs:List V}:Reps K H ws vs→Reps K H1 ws vs
 | .nil=> .nil
 | .cons h hs=> .cons (Rep.mv t f h) (Reps.mv t f hs)
end
theorem zgL:∀b xs,H b=ae (.tup xs)→unt H S b=ae (.tup xs):=λb xs e=>zmh e λ_ z=>nomatch z
theorem zhJ:∀b o u,H b=ae (.frz o u)→unt H S b=ae (.frz o u):=λb o u e=>zmh e λ_ z=>nomatch z
theorem RepS.unt (r:RepS K H S):RepS K (unt H S) S:=λa o e=>by
 have q:=r a o e;cases o with
 |lst ws=>obtain⟨vs,z,rs⟩:=q;exact⟨vs,zsD z e,Reps.mv zgL zhJ rs⟩
 |dct kvs=>obtain⟨ps,z,rs⟩:=q;exact⟨ps,zsD z e,Paired.mapP rs λ_ _ z=>⟨z.1,Rep.mv zgL zhJ z.2⟩⟩
 |ins C fs=>exact q.elim
theorem HOk.unt (x:HOk P w H h):HOk P w (unt H S) h:=λa o e=>
 (x a o (zlG e)).stay (λ_ _ _ q=>q) (λb q=>zmh q λ_ z=>nomatch z) λb xs q=>zgL b xs q
theorem zeu (ok:HOk P w H h) (un:Un fs [] (unt H S) H' h h') (e:H' b=ae o):rtk H S H' b=ae o:=by
 unfold rtk;split
 ·rename_i q;split
  ·rename_i u z;obtain⟨ob,eo⟩:=(ok b u z).ex;rw[un.free b ob eo q (by simp)]at e;cases e
  ·exact e
 ·rw[e]
theorem zlR (un:Un fs [] (unt H S) H' h h') (ok:HOk P w H h):Un fs [] H (rtk H S H') h h' where
  keep:=λb o e n hb hx=>un.keep b o e (zeF n) hb hx
  slot:=λb o e n hb hx=>un.slot b o e (zeF n) hb hx
  free:=λb o e n hx=>by
    unfold rtk;rw[zeF n,n];exact un.free b o e (zeF n) hx
  there:=un.there
  tups:=λb xs e=>zeu ok un (un.tups b xs (zgL b xs e))
  frzs:=λb o u e=>zeu ok un (un.frzs b o u (zhJ b o u e))
  tbls:=λb ps e=>by
    obtain⟨m,z⟩:=un.tbls b ps (zmh e λ_ z=>nomatch z);exact⟨m,zeu ok un z⟩
theorem zrP (un:Un fs [] (unt H S) H' h h') (ok:HOk P w H h) (ok':HOk P w H' h') (hf:∀b∈fs,H b=none):HOk P w (rtk H S H') h':=λb o e=>by
 have back:∀{o},H' b=ae o→ObjOk P w (rtk H S H') h' b o:=λ{o} q=>(ok' b o q).stay (λ_ _ _ z=>z) (λc z=>zeu ok un z) λc xs z=>zeu ok un z;unfold rtk at e;split at e
 ·rename_i q;split at e
  ·rename_i u z;cases e;obtain⟨⟨xs,rfl⟩,_⟩:=zwF q z;obtain⟨l,its,n,r,g⟩:=ok b _ z;exact⟨l,its,n,r,un.keep b _ g q (λhb=>by rw[hf b hb]at z;cases z) (by simp)⟩
  ·exact back e
 ·rename_i u q;split at e
  ·rename_i u' z;cases e;exact back z
  ·rename_i z;cases e;obtain⟨ob,eo⟩:=(ok b u (zlG q)).ex;obtain⟨ob',eo'⟩:=un.there b ob eo (by simp);exact⟨⟨ob',eo'⟩,⟨ob',eo'⟩,λh1 h2 ⟨o,z⟩ k=>⟨o,k o z⟩⟩
theorem zsW (e:H b=ae o):∃o',rtk H S H' b=ae o':=by
 unfold rtk;split
 ·rw[e];exact⟨_,rfl⟩
 ·split
  ·exact⟨_,rfl⟩
  ·exact⟨_,rfl⟩
theorem zoE (un:Un fs [] (unt H S) H' h h') (ok:HOk P w H h) (r:RepS K H' S'):Ext H S (rtk H S H') S' where
  tup:=λb xs e=>(zlR un ok).tups b xs e
  frz:=λb o u e=>(zlR un ok).frzs b o u e
  fr:=λb xs e hs=>by
    refine⟨?_,?_⟩
    · unfold rtk;rw[zpm e hs,e]
    · cases q:S' b with
      |none=>rfl
      |some u=>
        obtain⟨v,z⟩:=(r b u q).some;obtain⟨ob,eo⟩:=(ok b _ e).ex;rw[un.free b ob eo (zpm e hs) (by simp)]at z;cases z
  all:=λb o e=>zsW e
theorem zse (un:Un fs [] (unt H S) H' h h') (ok:HOk P w H h):Ext H' S' (rtk H S H') S' where
  tup:=λb xs e=>zeu ok un e
  frz:=λb o u e=>zeu ok un e
  fr:=λb xs e hs=>⟨zeu ok un e,hs⟩
  all:=λb o e=>⟨o,zeu ok un e⟩
theorem zvM (un:Un fs [] (unt H S) H' h h') (ok:HOk P w H h) (r:RepS K H' S'):RepS K (rtk H S H') S':=λa o e=>(r a o e).keep (zse (S':=S') un ok) λu z=>zeu ok un z
end
theorem zxQ{X:Cx}{k:Nat}{f:Addr}{fd:bF}{ps:List Str}{c:WSp}{E:WX}{pins:List (Addr×Obj)}{σ:St}{σW:WSt}{H:Hp}{S:Sto}{s:ah}{Q:VK}{QW:WK}{us:List Value}{vs:List V}{ws:List W}
  (F:FnOk X.prog X.w X.K X.mg X.base (CX1 X.prog X.w) k f fd ps (zcG X.K c)) (hr:Room k X.A) (hb:Binds X.K fd ps []) (I:Inv X pins σ H s) (r:Vals vs us) (rs:Reps X.K H ws vs) (hσ:RpSt X.K H σW σ) (hS:RepS X.K H S)
  (h:c ws S QW λcl S'=>E cl σW S') (hQ:Wish X.K H S QW Q)
  (hx:∀(cl:Str) (C a:Addr) (H':Hp) (S':Sto) (s':ah),aT X.K aL cl=ae (ae (.ref C))→s'.os=s.os→bT s'.gens→Un (frs X.stack) [] H H' s.heap s'.heap→HOk X.prog X.w H' s'.heap→Fly s.heap s'.heap H' a C→Ext H S H' S'→RepS X.K H' S'→E cl σW S'→X.xe (.ref a) s'):am (ap X.prog X.w) X.A (call (.ref f) us) (EP X pins σ Q) X.xe s:=by
 have e0:=I.env0;have sp:zcG X.K c vs (unt H S) (λv H'=>∃w S',Rep X.K H' w v∧RepS X.K H' S'∧QW w S') (λcv _ H'=>∃cl C S',cv= .ref C∧aT X.K aL cl=ae (ae (.ref C))∧RepS X.K H' S'∧E cl σW S'):=
  ⟨ws,S,QW,_,Reps.mv zgL zhJ rs,hS.unt,h,λw S' v H' _ r1 r2 q=>⟨w,S',r1,r2,q⟩,λcl C S' H' hn hS' q=>⟨cl,C,S',rfl,hn,hS',q⟩⟩
 have e1:Env0 X.prog X.w X.K X.mg X.base X.A X.stack s (unt H S):=⟨e0.frames,e0.mod,λb o e=>⟨(e0.bs b o e).1,zeF (e0.bs b o e).2⟩,e0.bsz,e0.funs,λb hb=>zeF (e0.frf b hb),e0.hok.unt,e0.bare⟩;have hl:us.length=ps.length:=by rw[←r.length];exact F.len _ _ _ _ sp
 have hb':=hb s us I.kIn (by rw[bf];exact hl);rw[bf]at hb';refine wpAny_call (ic (F.run X.A X.stack s (unt H S) ⟨us,[]⟩ us vs _ _ hr e1 hb' r sp) λrr s' hq=>?_);cases rr with
 |error e=>
  obtain⟨a,C,H',rfl,os,bare,un,ok',fly,cl,C',S',ec,hn,hS',q⟩:=hq;cases ec;refine hx cl C a (rtk H S H') S' s' hn os bare (zlR un I.hok) (zrP un I.hok ok' e0.frf) ?_ (zoE un I.hok hS') (zvM un I.hok hS') q;obtain⟨g1,g2,oe,vs',T,oT,ts,a1,a2,a3,a4,a5,a6,a7⟩:=fly;have free:∀{b:Addr},s.heap.get? b=none→H' b=none→rtk H S H' b=none:=λ{b} q1 q2=>by
   have hn:H b=none:=by
    cases z:H b with
    |none=>rfl
    |some u=>obtain⟨ob,eo⟩:=(I.hok b u z).ex;rw[q1]at eo;cases eo
   unfold rtk;rw[zeF hn,hn];exact q2
  exact⟨g1,free g1 g2,oe,vs',T,oT,ts,a1,a2,a3,a4,a5,free a5 a6,a7⟩
 |ok fl=>
  cases fl with
  |ret u=>
   obtain⟨v,H',os,bare,un,ok',rv,w,S',r1,r2,q⟩:=hq;exact⟨v,rtk H S H',I.call' os (zlR un I.hok) (zrP un I.hok ok' e0.frf) bare (λ_ z=>nomatch z),rv,hQ w S' v _ (zoE un I.hok r2) (r1.ext (zse (S':=S') un I.hok)) (zvM un I.hok r2) q⟩
  |next=>exact cr hq
  |brk=>exact cr hq
  |cont=>exact cr hq
theorem zxY{X:Cx}{k:Nat}{f:Addr}{fd:bF}{ps:List Str}{c:WSp}{E:WX}{pins:List (Addr×Obj)}{σ:St}{σW:WSt}{H:Hp}{S:Sto}{s:ah}{Q:VK}{QW:WK}{us:List Value}{vs:List V}{ws:List W}
  (F:FnOk X.prog X.w X.K X.mg X.base (CX1 X.prog X.w) k f fd ps (zcG X.K c)) (hr:Room k X.A) (hb:Binds X.K fd ps []) (hE:Hook X E) (I:Inv X pins σ H s) (r:Vals vs us) (rs:Reps X.K H ws vs) (hσ:RpSt X.K H σW σ) (hS:RepS X.K H S)
  (h:c ws S QW λcl S'=>E cl σW S') (hQ:Wish X.K H S QW Q):am (ap X.prog X.w) X.A (call (.ref f) us) (EP X pins σ Q) X.xe s:=
 zxQ (E:=E) F hr hb I r rs hσ hS h hQ λcl C a H' S' s' hn os bare un ok fly _ hS' q=>hE.far pins σ H s σW cl C a H' S' s' I hσ hn os bare un ok fly hS' q
theorem zpq{X:Cx}{pins:List (Addr×Obj)}{σ:St}{H':Hp}{s':ah}{a C:Addr}{hid:List Addr}{h':Heap}(I:Inv X pins σ H' s') (hst:X.stack=X.env::X.outer) (hf:X.env.frame=ae X.env.locals) (hex:X.ex=[])
  (h0:∀b∈hid,X.s₀.heap.get? b=none∧H' b=none) (ha:a∈hid) (L:gL (cW s'.heap (hid++frs X.stack)) X.stack a (.ref C) s'.heap h') :
  Un X.fs [] X.H₀ H' X.s₀.heap h'∧HOk X.prog X.w H' h'∧Fly X.s₀.heap h' H' a C:=by
 obtain⟨st,ff,tr,sl⟩:=L;have keepB:∀b o,s'.heap.get? b=ae o→b∉hid→b∉frs X.stack→h'.get? b=ae o:=λb o e h1 h2=>st b o (fx _ e λz=>(bb.mp z).elim h1 h2);have nh:∀b o,X.s₀.heap.get? b=ae o→b∉hid:=λb o e hb=>by rw[(h0 b hb).1]at e;cases e
 have slotB:∀b o,b∈frs X.stack→s'.heap.get? b=ae o→ ∃sl,h'.get? b=ae { o with slots:=sl }:=λb o hb e=>by
  obtain⟨_,o',eo',nf⟩:=I.stack.mem hb;rw[e]at eo';cases eo';exact sl b o e nf
 have nx:∀b:Addr,b∉X.ex:=λb=>by rw[hex];simp
 have fsS:∀b∈X.fs,b∈frs X.stack:=λb hb=>by
  rw[hst];unfold frs;rw[fW,hf];exact aH _ hb
 refine⟨⟨λb o e n hb _=>?_,λb o e n hb _=>?_,λb o e n _=>I.base.free b o e n (nx b),λb o e _=>?_,I.base.tups,I.base.frzs,I.base.tbls⟩,λb o e=>?_,(h0 a ha).1,(h0 a ha).2,?_⟩
 ·refine keepB b o (I.base.keep b o e n hb (nx b)) (nh b o e) λz=>?_;rcases av.mp (I.stkSub b z) with q |q
  ·exact absurd (bJ (aI e) I.ok.above) (by rw[q];exact cp _)
  ·exact hb q
 ·obtain⟨sl1,e1⟩:=I.base.slot b o e n hb (nx b);obtain⟨sl2,e2⟩:=slotB b _ (fsS b hb) e1;exact⟨sl2,e2⟩
 ·obtain⟨o',e1⟩:=I.base.there b o e (nx b);by_cases hb:b∈frs X.stack
  ·obtain⟨sl2,e2⟩:=slotB b _ hb e1;exact⟨_,e2⟩
  ·exact⟨o',keepB b o' e1 (nh b o e) hb⟩
 ·refine(I.hok b o e).stay (λc u hc q=>?_) (λ_ q=>q) λ_ _ q=>q;have tk:∃v,H' c=ae v:=by
   rcases hc with z |z
   ·exact⟨o,by rw[z];exact e⟩
   ·exact⟨_,z⟩
  obtain⟨v,tk⟩:=tk;exact keepB c u q (λz=>by rw[(h0 c z).2]at tk;cases tk) λz=>by rw[I.stkFree c z]at tk;cases tk
 ·obtain⟨oe,vs,T,oT,ts,e1,e2,e3,e4,e5,e6,e7,e8,e9⟩:=tr;have nf:T∉frs X.stack:=λhb=>by
   obtain⟨_,o,eo,nf⟩:=ff.mem hb;rw[e7]at eo;cases eo;exact nf ts e8
  have both:X.s₀.heap.get? T=none∧H' T=none:=by
   by_cases hT:T∈hid
   ·exact h0 T hT
   ·have z:s'.heap.get? T=none:=by
     cases q:s'.heap.get? T with
     |none=>rfl
     |some o=>
      rw[fx _ q λz=>(bb.mp z).elim hT nf]at e5;cases e5
    constructor
    ·cases q:X.s₀.heap.get? T with
     |none=>rfl
     |some o=>obtain⟨o',q'⟩:=I.base.there T o q (nx T);rw[z]at q';cases q'
    ·cases q:H' T with
     |none=>rfl
     |some u=>obtain⟨o',q'⟩:=(I.hok T u q).ex;rw[z]at q';cases q'
  exact⟨oe,vs,T,oT,ts,e1,e2,e3,e4,both.1,both.2,e6,e7,e8,e9⟩
theorem zii{h base:Heap}{l:List bw}{hid:List Addr}(hl:h.FunFrames base l):h.FunFrames (cW h (hid++frs l)) l:=
 PySem.W.funFrames_hide hl λenv he a ha=>bZ _ (gH.mpr ⟨env,he,ha⟩)
theorem zqW{P:aF}{w:ax}{K:ai}{mg:Str→Option Value}{base:Heap}{N:List Str}{qual:Str}{scope:Scope}{f:Addr}{cdv:Value}{A:aM}{outer:List bw}{s:ah}{H:Hp}{E:XK}{EW:Str→Sto→Prop}
    (hEW:∀cl C S' H',aT K aL cl=ae (ae (.ref C))→RepS K H' S'→EW cl S'→E (.ref C) none H'):Hook (zsV (CX1 P w) P w K mg base N qual scope f cdv A outer s H E) (λc _ S'=>EW c S') where
  own:=cY.leaving
  far:=λpins σ H1 s1 σW cl C a H' S' s' I hσ hn os bare un ok fly hS q=>by
    have I':=I.call' os un ok bare (λ_ z=>nomatch z);obtain⟨g1,g2,oe,vs,T,oT,ts,e1,e2,e3,e4,g3,g4,e5,e6,e7,e8⟩:=fly;have s0:∀{b:Addr},s1.heap.get? b=none→s.heap.get? b=none:=λ{b} z=>by
      cases q:s.heap.get? b with
      |none=>rfl
      |some o=>obtain⟨o',q'⟩:=I.base.there b o q (by exact λz=>nomatch z);rw[z]at q';cases q'
    refine wpAny_leaving_next (base:=cW s'.heap ([a,T]++frs (cD qual scope s.heap.objs.size f cdv::outer))) I'.ok.frames (zii I'.stack) rfl ⟨oe,vs,T,oT,ts,e1,e2,e3,e4,dw _ (by simp),e5,e6,e7,e8⟩ (λb o z=>fv _ z) (dw _ (by simp)) λh' L=>?_;obtain⟨u1,u2,u3⟩:=zpq (hid:=[a,T]) I' rfl rfl rfl (λb hb=>by
      rcases av.mp hb with rfl |hb
      · exact⟨s0 g1,g2⟩
      · rw[bn.mp hb];exact⟨s0 g3,g4⟩) (by simp) L
    exact⟨a,C,H',rfl,I'.os,I'.bare,u1,u2,u3,hEW cl C S' H' hn hS q⟩
  near:=λpins σ H1 s1 σW cl C a S h' args I hσ hn me hS q=>by
    have I':=I.kept (t':=s1.toks) me.keeps;obtain⟨t,e1,_,_⟩:=me.there;have s0:s.heap.get? a=none:=by
      cases q:s.heap.get? a with
      |none=>rfl
      |some o=>obtain⟨o',q'⟩:=I.base.there a o q (by exact λz=>nomatch z);rw[me.new]at q';cases q'
    have h1:H1 a=none:=by
      cases q:H1 a with
      |none=>rfl
      |some u=>obtain⟨o',q'⟩:=(I.hok a u q).ex;rw[me.new]at q';cases q'
    refine wpAny_leaving_first (base:=cW h' ([a]++frs (cD qual scope s.heap.objs.size f cdv::outer))) (s:={ s1 with heap:=h' }) I'.ok.frames (zii I'.stack) rfl e1 (λb o z=>fv _ z) (dw _ (by simp)) rfl rfl λh'' L=>?_;obtain⟨u1,u2,u3⟩:=zpq (hid:=[a]) I' rfl rfl rfl (λb hb=>by rw[bn.mp hb];exact⟨s0,h1⟩) (by simp) L
    exact⟨a,C,H1,rfl,I'.os,I'.bare,u1,u2,u3,hEW cl C S H1 hn hS q⟩
def zcz (S:Sto) (a:Addr) (Q:List W→Prop):Prop:=match S a with
 |some (.lst ws)=>Q ws
 |_=>False
theorem zaj{S:Sto}{a:Addr}{Q:List W→Prop}{ws:List W}(h:S a=ae (.lst ws)):zcz S a Q=Q ws:=by unfold zcz;rw[h]
theorem zbj{S:Sto}{a:Addr}{Q:List W→Prop}(h:zcz S a Q):∃ws,S a=ae (.lst ws)∧Q ws:=by
 unfold zcz at h;split at h
 ·exact⟨_, ‹_›,h⟩
 ·exact h.elim
noncomputable def zsq:W→Sto→(Bool→Sto→Prop)→Prop
 | .non,S,Q=>Q false S
 | .bl b,S,Q=>Q b S
 | .int i,S,Q=>Q (i != 0) S
 | .str x,S,Q=>x.length≤sizeLine∧Q ((x.length:Int) != 0) S
 | .tup ws,S,Q=>Q (!ws.isEmpty) S
 | .ref a,S,Q=>zcz S a λws=>Q (!ws.isEmpty) S
 | .scr ns,S,Q=>Q (!ns.isEmpty) S
noncomputable def zfm (t:WE):WT:=λE σ S Q=>t E σ S λw S'=>zsq w S' Q
noncomputable def wTb (t:WE):WT:=λE σ S Q=>t E σ S λw S'=>match w with
 | .bl b=>Q b S'
 |_=>False
noncomputable def zuN (t u:WT):WT:=λE σ S Q=>t E σ S λc S1=>if c=true then u E σ S1 Q else Q false S1
noncomputable def wOr (t u:WT):WT:=λE σ S Q=>t E σ S λc S1=>if c=true then Q true S1 else u E σ S1 Q
noncomputable def zqU (t:WT):WT:=λE σ S Q=>t E σ S λc S1=>Q (!c) S1
noncomputable def zum (t u:WE):WE:=λE σ S Q=>t E σ S λw S1=>match w with
 | .bl true=>u E σ S1 Q
 | .bl false=>Q (.bl false) S1
 |_=>False
noncomputable def wIf (c:WT) (t u:WE):WE:=λE σ S Q=>c E σ S λb S1=>if b=true then t E σ S1 Q else u E σ S1 Q
noncomputable def zca (c:WT) (t u:WS):WS:=λE D σ S=>c E σ S λb S1=>if b=true then t E D σ S1 else u E D σ S1
noncomputable def zaP:WS:=λ_ D σ S=>D.nx σ S
noncomputable def zaw (t u:WS):WS:=λE D σ S=>t E { D with nx:=u E D } σ S
noncomputable def zbf (e:WE):WS:=λE D σ S=>e E σ S D.rt
noncomputable def zdo (e:WE):WS:=λE D σ S=>e E σ S λ_ S1=>D.nx σ S1
noncomputable def wGN (i:Nat):WG:=λw σ S Q=>Q (σ.set i (ae w)) S
noncomputable def wAsg (e:WE) (g:WG):WS:=λE D σ S=>e E σ S λw S1=>g w σ S1 D.nx
abbrev WGs:=List W→WSt→Sto→(WSt→Sto→Prop)→Prop
noncomputable def zcn:WGs:=λws σ S Q=>match ws with
 | []=>Q σ S
 |_=>False
noncomputable def zay (g:WG) (u:WGs):WGs:=λws σ S Q=>match ws with
 | []=>False
 |w::r=>g w σ S λσ' S'=>u r σ' S' Q
noncomputable def wGT (u:WGs):WG:=λw σ S Q=>match w with
 | .tup ws=>u ws σ S Q
 |_=>False
section
variable {X:Cx}{a b c e:Expr}{pos:ay}{ta tb:WE}{tc tA tB':WT}{st:Stmt}{rest:List Stmt}{t u:WS}
theorem ztL{K:ai}{H:Hp}{w:W}{v:V}{S:Sto}{QW:Bool→Sto→Prop}(r:Rep K H w v) (hS:RepS K H S) (h:zsq w S QW):∃k,zyR K v H k∧QW k S:=by
 cases r with
 |non=>exact⟨false,rfl,h⟩
 |bl b=>exact⟨b,rfl,h⟩
 |int i=>exact⟨_,rfl,h⟩
 |str x=>exact⟨_,⟨h.1,rfl⟩,h.2⟩
 |ref a=>
  obtain⟨ws,e,h⟩:=zbj h;obtain⟨vs,e1,r1⟩:=hS a _ e;refine⟨_, .inl ⟨vs, .of e1,rfl⟩,?_⟩;have q:vs.isEmpty=ws.isEmpty:=by cases r1<;>rfl
  rw[q];exact h
 | @scr a ns f=>
  refine⟨_, .inl ⟨_,f.sq,rfl⟩,?_⟩;have q:(ns.map V.int).isEmpty=ns.isEmpty:=by cases ns<;>rfl
  rw[q];exact h
 | @tup a vs ws f hs=>
  refine⟨_, .inr (.inl ⟨vs, .of f,rfl⟩),?_⟩;have q:vs.isEmpty=ws.isEmpty:=by cases hs<;>rfl
  rw[q];exact h
theorem zbt (ha:JE X a ta) (he:∀whole,isTrue a X.env whole=(do let v ←whole;standAt a.pos;holding [v] (truthy v)):=by intro _;rfl):JT X a (zfm ta):=λE hE=>
 (zqg (ha E hE) he).mono λσ H Q ⟨σW,S,QW,hσ,hS,ht,hQ⟩=>⟨σW,S,_,hσ,hS,ht,λw S1 v H1 e1 r1 hS1 h1=>by
  obtain⟨k,hk,q⟩:=ztL r1 hS1 h1;exact⟨k,hk,hQ k S1 H1 e1 hS1 q⟩⟩
theorem zeA{op:dG}{r:R2}{wr:W2}(ho:OpR X (bH op) r) (hw:OpW X.K r wr) (ha:JE X a ta) (hb:JE X b tb) (hm:c8 op b=false):JT X (.Compare a [op] [b] pos) (wTb (wOp wr ta tb)):=λE hE=>
 (zuz ho (ha E hE) (hb E hE) hm).mono λσ H Q ⟨σW,S,QW,hσ,hS,ht,hQ⟩=>by
  refine zfO (Q:=λv H1=>∃k,v= .bl k∧Q k H1) ⟨σW,S,λw S'=>match w with
   | .bl b=>QW b S'
   |_=>False,hσ,hS,ht,λw S1 v H1 e1 r1 hS1 h1=>?_⟩ λH2 x y wx wy S QW rx ry hS q hQ=>hw H2 x y wx wy S _ QW rx ry hS q hQ
  cases r1 with
  |bl k=>exact⟨k,rfl,hQ k S1 H1 e1 hS1 h1⟩
  |_=>exact h1.elim
theorem zgs (ha:JT X a tA):JT X (.UnaryOp .Not a pos) (zqU tA):=λE hE=>
 (zwA (ha E hE)).mono λσ H Q ⟨σW,S,QW,hσ,hS,ht,hQ⟩=>⟨σW,S,_,hσ,hS,ht,λb S1 H1 e1 hS1 h1=>hQ _ S1 H1 e1 hS1 h1⟩
theorem JW.jt (h:JW X a tA):JT X a tA:=λE hE=>(h E hE).pt
theorem zkf (ha:JT X a tA):JW X (.BoolOp .And [a] pos) tA:=λE hE=>zul (ha E hE)
theorem zhj (ha:JT X a tA):JW X (.BoolOp .Or [a] pos) tA:=λE hE=>zvt (ha E hE)
theorem znf{rest:List Expr}(ha:JT X a tA) (hb:JW X (.BoolOp .And (b::rest) pos) tB'):JW X (.BoolOp .And (a::b::rest) pos) (zuN tA tB'):=λE hE=>
 (zxK (ha E hE) (hb E hE)).mono λσ H Q ⟨σW,S,QW,hσ,hS,ht,hQ⟩=>⟨σW,S,_,hσ,hS,ht,λb S1 H1 e1 hS1 h1=>by
  cases b with
  |true=>exact⟨σW,S1,_,hσ.ext e1,hS1,h1,λb S2 H2 e2 hS2 h2=>hQ b S2 H2 (e1.trans e2) hS2 h2⟩
  |false=>exact hQ _ S1 H1 e1 hS1 h1⟩
theorem zjo{rest:List Expr}(ha:JT X a tA) (hb:JW X (.BoolOp .Or (b::rest) pos) tB'):JW X (.BoolOp .Or (a::b::rest) pos) (wOr tA tB'):=λE hE=>
 (zyj (ha E hE) (hb E hE)).mono λσ H Q ⟨σW,S,QW,hσ,hS,ht,hQ⟩=>⟨σW,S,_,hσ,hS,ht,λb S1 H1 e1 hS1 h1=>by
  cases b with
  |false=>exact⟨σW,S1,_,hσ.ext e1,hS1,h1,λb S2 H2 e2 hS2 h2=>hQ b S2 H2 (e1.trans e2) hS2 h2⟩
  |true=>exact hQ _ S1 H1 e1 hS1 h1⟩
theorem zwP{op}(h:JE X a ta):JE X (.BoolOp op [a] pos) ta:=λE hE=>zxv (h E hE)
theorem zvp{rest:List Expr}(ha:JE X a ta) (hb:JE X (.BoolOp .And (b::rest) pos) tb):JE X (.BoolOp .And (a::b::rest) pos) (zum ta tb):=λE hE=>
 (zwl (ha E hE) (hb E hE)).mono λσ H Q ⟨σW,S,QW,hσ,hS,ht,hQ⟩=>⟨σW,S,_,hσ,hS,ht,λw S1 v H1 e1 r1 hS1 h1=>by
  cases r1 with
  |bl k=>
   refine⟨k,rfl,?_⟩;cases k with
   |true=>exact⟨σW,S1,_,hσ.ext e1,hS1,h1,hQ.from e1⟩
   |false=>exact hQ _ S1 _ H1 e1 (.bl false) hS1 h1
  |_=>exact h1.elim⟩
theorem zyv (hc:JT X c tc) (ha:JE X a ta) (hb:JE X b tb):JE X (.IfExp c a b pos) (wIf tc ta tb):=λE hE=>
 (zqc (hc E hE) (ha E hE) (hb E hE)).mono λσ H Q ⟨σW,S,QW,hσ,hS,ht,hQ⟩=>⟨σW,S,_,hσ,hS,ht,λk S1 H1 e1 hS1 h1=>by
  cases k with
  |true=>exact⟨σW,S1,_,hσ.ext e1,hS1,h1,hQ.from e1⟩
  |false=>exact⟨σW,S1,_,hσ.ext e1,hS1,h1,hQ.from e1⟩⟩
theorem zaz:JSs X [] zaP:=λE hE=>pss_nil.mono λD σ H ⟨σW,S,DW,hσ,hS,ht,hD⟩=>hD.nx σW S σ H .refl hσ hS ht
theorem zae (h1:JS X st t) (h2:JSs X rest u):JSs X (st::rest) (zaw t u):=λE hE=>
 (zql (h1 E hE) (h2 E hE)).mono λD σ H ⟨σW,S,DW,hσ,hS,ht,hD⟩=>
  ⟨σW,S,{ DW with nx:=u E DW },hσ,hS,ht,⟨λσW' S' σ' H' e r hS' q=>⟨σW',S',DW,r,hS',q,hD.from e⟩,hD.rt,hD.bk,hD.ct⟩⟩
theorem zai (h1:JS X st t):JSs X [st] t:=λE hE=>zpL (h1 E hE)
theorem zbC (he:JE X e ta) (hs:dF e none pos.line X.env=pure false:=by rfl):JS X (.Expr e pos) (zdo ta):=λE hE=>
 (zpI (he E hE) hs).mono λD σ H ⟨σW,S,DW,hσ,hS,ht,hD⟩=>⟨σW,S,_,hσ,hS,ht,λw S1 v H1 e1 r1 hS1 h1=>hD.nx σW S1 σ H1 e1 (hσ.ext e1) hS1 h1⟩
theorem zan (he:JE X e ta):JS X (.Return (ae e) pos) (zbf ta):=λE hE=>
 (zxa (he E hE)).mono λD σ H ⟨σW,S,DW,hσ,hS,ht,hD⟩=>⟨σW,S,_,hσ,hS,ht,hD.rt⟩
theorem zaT{a b:List Stmt}(hc:JT X c tc) (ha:JSs X a t) (hb:JSs X b u):JS X (.If c a b pos) (zca tc t u):=λE hE=>
 (zyc (hc E hE) (ha E hE) (hb E hE)).mono λD σ H ⟨σW,S,DW,hσ,hS,ht,hD⟩=>⟨σW,S,_,hσ,hS,ht,λk S1 H1 e1 hS1 h1=>by
  cases k with
  |true=>exact⟨σW,S1,DW,hσ.ext e1,hS1,h1,hD.from e1⟩
  |false=>exact⟨σW,S1,DW,hσ.ext e1,hS1,h1,hD.from e1⟩⟩
theorem zap{i:Nat}{x:Str}(hN:X.N.Nodup) (hi:X.N[i]? =ae x) (hx:Loc X.env.scope x) (hf:X.fn x=true∨X.env.scope.names.lookup x=ae .local:=by first |exact .inl rfl |exact .inr rfl |assumption):JG X (.Name x pos) (wGN i):=λE hE=>
 (zuj hN hi hx hf).mono λv σ H Q ⟨w,σW,S,P,r,hσ,hS,ht,hP⟩=>hP _ S _ H .refl (hσ.set r i) hS ht
def JGs (X:Cx) (tgs:List Expr) (t:WGs):Prop:=∀E,Hook X E→PGs X tgs (λvs σ H Q=>∃ws σW S P,Reps X.K H ws vs∧RpSt X.K H σW σ∧RepS X.K H S∧t ws σW S P∧Goes X.K H S P Q)
theorem zcE:JGs X [] zcn:=λE hE pins s σ H vs us Q I r h=>by
 obtain⟨ws,σW,S,P,rs,hσ,hS,ht,hP⟩:=h;unfold zcn at ht;split at ht
 ·cases rs;exact ztk pins s σ H [] us Q I r ⟨rfl,hP σW S σ H .refl hσ hS ht⟩
 ·exact ht.elim
theorem zaE{es:List Expr}{g:WG}{gs:WGs}(h1:JG X e g) (h2:JGs X es gs)
  (hs:(cu (e::es) X.env).map (·.2)=assign e X.env::(cu es X.env).map (·.2):=by rfl):JGs X (e::es) (zay g gs):=λE hE pins s σ H vs us Q I r h=>by
 obtain⟨ws,σW,S,P,rs,hσ,hS,ht,hP⟩:=h;unfold zay at ht;split at ht
 ·exact ht.elim
 ·cases rs with
  |cons r1 r2=>
   refine zrA (h1 E hE) (h2 E hE) hs pins s σ H _ us Q I r ⟨_,_,rfl,⟨_,σW,S,_,r1,hσ,hS,ht,λσW' S' σ' H' e' rr hS' q=>?_⟩⟩;exact⟨_,σW',S',P,r2.ext e',rr,hS',q,hP.from e'⟩
theorem zdQ{es:List Expr}{k n:Nat}{gs:WGs}(h:JGs X es gs) (hlen:∀ws σ S P,gs ws σ S P→ws.length=n)
  (hn:(cu es X.env).length=n:=by rfl) (hst:(cu es X.env).findIdx? (·.1)=none:=by rfl) (hcl:X.calm=true:=by rfl):JG X (.Tuple es k pos) (wGT gs):=λE hE=>
 (zwf hcl (h E hE) hn hst).mono λv σ H Q ⟨w,σW,S,P,r,hσ,hS,ht,hP⟩=>by
  cases r with
  |tup f hs=>exact⟨_,_,rfl, .of f,by rw[←hs.length];exact hlen _ _ _ _ ht,⟨_,σW,S,P,hs,hσ,hS,ht,hP⟩⟩
  |_=>exact ht.elim
theorem zrR{tg:Expr}{g:WG}(he:JE X e ta) (hg:JG X tg g) (hs:swapsWithSole [tg] e pos.line X.env=pure false:=by rfl) (hw:swappedStores [tg] e X.env=pure none:=by rfl)
  (h1:(cu [tg] X.env).map (·.2)=[assign tg X.env]:=by rfl):JS X (.Assign [tg] e pos) (wAsg ta g):=λE hE=>
 (zxu (he E hE) (hg E hE) hs hw h1).mono λD σ H ⟨σW,S,DW,hσ,hS,ht,hD⟩=>⟨σW,S,_,hσ,hS,ht,λw S1 v H1 e1 r1 hS1 h1=>⟨w,σW,S1,_,r1,hσ.ext e1,hS1,h1,hD.nx.from e1⟩⟩
theorem zao{i:Nat}{x:Str}{pos':ay}(hN:X.N.Nodup) (hi:X.N[i]? =ae x) (hx:Loc X.env.scope x) (he:JE X e ta) (hs:dF e (ae (.Name x pos')) pos.line X.env=pure false:=by rfl)
  (hf:X.fn x=true∨X.env.scope.names.lookup x=ae .local:=by first |exact .inl rfl |exact .inr rfl |assumption):JS X (.Assign [.Name x pos'] e pos) (wAsg ta (wGN i)):=λE hE=>
 (zwy hN hi hx (he E hE) hs hf).mono λD σ H ⟨σW,S,DW,hσ,hS,ht,hD⟩=>⟨σW,S,_,hσ,hS,ht,λw S1 v H1 e1 r1 hS1 h1=>hD.nx _ S1 _ H1 e1 ((hσ.ext e1).set r1 i) hS1 h1⟩
end
noncomputable def waNil:WA:=λ_ _ S Q=>Q [] S
noncomputable def zab (t:WE) (u:WA):WA:=λE σ S Q=>t E σ S λw S1=>u E σ S1 λws S2=>Q (w::ws) S2
noncomputable def zaS (t:WA):WE:=λE σ S Q=>t E σ S λws S1=>ws.length≤sizeLine∧Q (.tup ws) S1
noncomputable def zbR (t:WA):WL:=λE σ S Q=>t E σ S λws S1=>ws.length≤sizeLine∧Q ws S1
noncomputable def zby (t:WL):WE:=λE σ S Q=>t E σ S λws S1=>∀a,S1 a=none→Q (.ref a) (put S1 a (.lst ws))
section
variable {X:Cx}{e:Expr}{es:List Expr}{te:WE}{ta:WA}{tl:WL}{pos:ay}
theorem zac:JA X [] waNil:=λE hE=>pa_nil.mono λσ H Q ⟨σW,S,QW,hσ,hS,ht,hQ⟩=>hQ [] S [] H .refl .nil hS ht
theorem zaa (ha:JE X e te) (hr:JA X es ta) (hs:ao (e::es) X.env=(false,au e X.env)::ao es X.env:=by rfl):JA X (e::es) (zab te ta):=λE hE=>
 (zcD (ha E hE) (hr E hE) hs).mono λσ H Q ⟨σW,S,QW,hσ,hS,ht,hQ⟩=>⟨σW,S,_,hσ,hS,ht,λw S1 v H1 e1 r1 hS1 h1=>⟨σW,S1,_,hσ.ext e1,hS1,h1,λws S2 vs H2 e2 r2 hS2 h2=>
  hQ (w::ws) S2 (v::vs) H2 (e1.trans e2) (.cons (r1.ext e2) r2) hS2 h2⟩⟩
theorem zam{x1}(h:JA X es ta):JE X (.Tuple es x1 pos) (zaS ta):=λE hE=>
 (zvy (h E hE)).mono λσ H Q ⟨σW,S,QW,hσ,hS,ht,hQ⟩=>⟨σW,S,_,hσ,hS,ht,λws S1 vs H1 e1 r1 hS1 h1=>by
  refine⟨by rw[←r1.length];exact h1.1,λp hp=>hQ (.tup ws) S1 _ _ (e1.trans (.new hp)) (.tup zaA (r1.ext (.new (S:=S1) hp))) (hS1.new hp) h1.2⟩⟩
theorem zax (h:JA X es ta):JL X (.List es pos) (zbR ta):=λE hE=>
 (zxI (h E hE)).mono λσ H Q ⟨σW,S,QW,hσ,hS,ht,hQ⟩=>⟨σW,S,_,hσ,hS,ht,λws S1 vs H1 e1 r1 hS1 h1=>by
  refine⟨by rw[←r1.length];exact h1.1,λp hp=>hQ ws S1 vs p _ (e1.trans (.new hp)) (e1.free hp) zaA (hS1.free hp) (r1.ext (.new (S:=S1) hp)) (hS1.new hp) h1.2⟩⟩
theorem zau (h:JL X e tl):JE X e (zby tl):=λE hE=>
 (h E hE).mono λσ H Q ⟨σW,S,QW,hσ,hS,ht,hQ⟩=>⟨σW,S,_,hσ,hS,ht,λws S1 vs a H1 e1 fa ea na r1 hS1 h1=>by
  refine hQ (.ref a) (put S1 a (.lst ws)) (.ref a) H1 ⟨e1.tup,e1.frz,λb o q g=>by
   have hb:b≠a:=by rintro rfl;rw[fa]at q;cases q
   rw[zaN hb];exact e1.fr b o q g,e1.all⟩ (.ref a) (λb o q=>?_) (h1 a na)
  by_cases hb:b=a
  ·subst hb;rw[zag]at q;cases q;exact⟨vs,ea,r1⟩
  ·rw[zaN hb]at q;exact hS1 b o q⟩
end
noncomputable def zar (c:WSp) (t:WA):WE:=λE σ S Q=>t E σ S λws S1=>c ws S1 Q λcl S2=>E cl σ S2
noncomputable def zcB (n k:Nat) (body:WS):WSp:=λws S Q E=>ws.length=k∧body (λc _ S'=>E c S') { nx:=λ_ S'=>∃S'',Sub S'' S'∧Q .non S'',rt:=λw S'=>∃S'',Sub S'' S'∧Q w S'' } (ws.map ae++aJ (n - k) none) S
section
variable {X:Cx}{k:Nat}{f:Addr}{fd:bF}{ps:List Str}{c:WSp}{x:Str}{p pos:ay}{e:Expr}{es:List Expr}{t:WA}
theorem zak (F:FnOk X.prog X.w X.K X.mg X.base (CX1 X.prog X.w) k f fd ps (zcG X.K c)) (hr:Room k X.A) (hg:Gl X x) (hm:X.mg x=ae (.ref f)) (hk:dQ X.K (.ref f)=true) (hb:Binds X.K fd ps [])
  (ha:JA X (e::es) t) (hdb:(x == ("__debug__" :Str))=false:=by decide) (he:ao (e::es) X.env=(false,au e X.env)::ao es X.env:=by rfl) (hpl:(aP pos (ao es X.env)).any (·.1)=false:=by rfl) :
  JE X (.Call (.Name x p) (e::es) [] pos) (zar c t):=λE hE pins s σ H Q I h=>by
 obtain⟨σW,S,QW,hσ,hS,ht,hQ⟩:=h;refine f9 (zgO I hg hm ?_ hdb);refine kE (h₀:=X.base) I.ok.mod.kin hk (thn (ha E hE pos pins s σ H (λvs H1=>∃ws S1,Reps X.K H1 ws vs∧RpSt X.K H1 σW σ∧RepS X.K H1 S1∧c ws S1 QW (λcl S'=>E cl σW S')∧Wish X.K H1 S1 QW Q) I
  ⟨σW,S,_,hσ,hS,ht,λws S1 vs H1 e1 r1 hS1 h1=>⟨ws,S1,r1,hσ.ext e1,hS1,h1,hQ.from e1⟩⟩) λus s1 ⟨vs,H1,I1,r,ws,S1,r1,hσ1,hS1,h1,hQ1⟩=>⟨I1.kIn,?_⟩) he hpl
 exact zxY F hr hb hE I1 r r1 hσ1 hS1 h1 hQ1
theorem zoB{K:ai}{H:Hp}{N:List Str}{ws:List W}{vs:List V}(h:Reps K H ws vs):RpSt K H (ws.map ae++aJ (N.length - ws.length) none) (zhy N vs):=by
 have go:∀{ws:List W}{vs:List V}(m:Nat),Reps K H ws vs→RpSt K H (ws.map ae++aJ m none) (vs.map ae++aJ m none):=by
  intro ws
  induction ws with
  |nil=>
   intro vs m h;cases h
   induction m with
   |zero=>exact .nil
   |succ m ih=>exact .cons trivial ih
  |cons w ws ih=>
   intro vs m h;cases h with
   |cons r rs=>exact .cons r (ih m rs)
 unfold zhy;rw[←h.length];exact go _ h
theorem zaX{P:aF}{w:ax}{K:ai}{mg:Str→Option Value}{base:Heap}{x qual:Str}{st:Stmt}{f:Addr}{fd:bF}{N ps:List Str}{r n k:Nat}{body:WS}(F:Fun K x qual st f fd) (S:FnScope N ps (zal st)) (hn:N.length=n) (hk:ps.length=k)
  (hbody:∀(cdv:Value) (A:aM) (outer:List bw) (s:ah) (H:Hp) (E:XK),Room r (A.deeper (cD qual (zal st) s.heap.objs.size f cdv))→
   JSs (zsV (CX1 P w) P w K mg base N qual (zal st) f cdv A outer s H E) (zfk st) body):FnOk P w K mg base (CX1 P w) (r+1) f fd ps (zcG K (zcB n k body)):=by
 obtain⟨oc,od,kV,doc,pm,an,cdv,ct,osl,rfl,lk,hcd⟩:=F.ex;refine zyB lk hcd S (λvs H Q E h=>?_) λA outer s H vs Q E hr h=>?_
 ·obtain⟨ws,S,QW,EW,rs,_,h,_⟩:=h;rw[←rs.length,h.1,hk]
 ·obtain⟨ws,S',QW,EW,rs,hS,h,hQ,hEW⟩:=h;refine⟨_,hbody cdv A outer s H E hr (λc _ S'=>EW c S') (zqW hEW),?_⟩;refine⟨_,S',{ nx:=λ_ S'=>∃S'',Sub S'' S'∧QW .non S'',rt:=λw S'=>∃S'',Sub S'' S'∧QW w S'' },zoB (N:=N) rs,hS,by rw[hn,h.1];exact h.2,⟨λσW S1 σ H1 e1 rr hS1 q=>?_,λw S1 v H1 e1 rr hS1 q=>?_,λ_ _ _ _ _ _ _ q=>q,λ_ _ _ _ _ _ _ q=>q⟩⟩
  ·obtain⟨S2,sb,q⟩:=q;exact hQ .non S2 .non H1 (e1.trans (.drop sb)) .non (hS1.sub sb) q
  ·obtain⟨S2,sb,q⟩:=q;exact hQ w S2 v H1 (e1.trans (.drop sb)) rr (hS1.sub sb) q
end
noncomputable def zdP (C:Int→Int→Prop) (g:Int→Int→W):W2
 | .int i, .int j,S,Q=>C i j∧Q (g i j) S
 |_,_,_,_=>False
noncomputable def zep (g:Int→Int→W):W2
 | .int i, .int j,S,Q=>Q (g i j) S
 |_,_,_,_=>False
theorem zhA{K:ai}{C:Int→Int→Prop}{g:Int→Int→Int}:OpW K (rI C λi j=> .int (g i j)) (zdP C λi j=> .int (g i j)):=λH x y wx wy S Q QW rx ry hS h hQ=>by
 cases rx<;>cases ry<;>first |exact⟨_,_,rfl,rfl,h.1,hQ _ S _ H .refl (.int _) hS h.2⟩ |exact h.elim
theorem zrc{K:ai}{g:Int→Int→Int}:OpW K (rI0 λi j=> .int (g i j)) (zep λi j=> .int (g i j)):=λH x y wx wy S Q QW rx ry hS h hQ=>by
 cases rx<;>cases ry<;>first |exact⟨_,_,rfl,rfl,hQ _ S _ H .refl (.int _) hS h⟩ |exact h.elim
theorem zhU{K:ai}{g:Int→Int→Bool}:OpW K (rI0 λi j=> .bl (g i j)) (zep λi j=> .bl (g i j)):=λH x y wx wy S Q QW rx ry hS h hQ=>by
 cases rx<;>cases ry<;>first |exact⟨_,_,rfl,rfl,hQ _ S _ H .refl (.bl _) hS h⟩ |exact h.elim
noncomputable def zdl:W2
 | .int i, .int j,S,Q=>Q (.int (i+j)) S
 | .str x, .str y,S,Q=>x.length+y.length≤sizeLine∧Q (.str (x++y)) S
 | .tup xs, .tup ys,S,Q=>xs.length+ys.length≤sizeLine∧Q (.tup (xs++ys)) S
 | .ref a, .ref b,S,Q=>zcz S a λxs=>zcz S b λys=>xs.length+ys.length≤sizeLine∧ ∀p,S p=none→Q (.ref p) (put S p (.lst (xs++ys)))
 |_,_,_,_=>False
section
variable {X:Cx}
theorem Reps.nil_r{K:ai}{H:Hp}{ws:List W}(h:Reps K H ws []):ws=[]:=by cases h;rfl
theorem op_catT0:OpR X (bP .Add) (λx y H Q=>∃a b ys,x= .ref a∧y= .ref b∧SqT X.K H a []∧SqT X.K H b ys∧Q (.ref b) H):=by
 intro pins s σ H x y v u Q I rx ry h;obtain⟨a,b,ys,rfl,rfl,ha,hb,q⟩:=h;cases rx;cases ry;obtain⟨its,r1,p1,_⟩:=I.tuple ha;obtain⟨its2,r2,p2,_⟩:=I.tuple hb;cases r1;obtain⟨⟨cls,dd,data,sl⟩,ho,hc,n,hd⟩:=id p1;obtain⟨⟨cls2,dd2,data2,sl2⟩,ho2,hc2,n2,hd2⟩:=id p2;simp only at hc hd hc2 hd2;subst hc hd hc2 hd2;exact gB ⟨_,ho,rfl⟩ ⟨_,ho2,rfl⟩ iE ix gA hV (iI _ _)
   (tuple_addW0 a b _ _ n n2 dd dd2 sl sl2 (by simp)) ⟨ho,ho2,⟨.ref b,H,I,rfl,q⟩⟩
theorem znW:OpR X (bP .Add) (λx y H Q=>(rI0 λi j=> .int (i+j)) x y H Q∨(∃i j,x= .str i∧y= .str j∧i.length+j.length≤sizeLine∧Q (.str (i++j)) H)∨
  (∃a b ys,x= .ref a∧y= .ref b∧SqT X.K H a []∧SqT X.K H b ys∧Q (.ref b) H)∨ztP X.K x y H Q∨zze x y H Q):=op_add.or (op_add_str.or (op_catT0.or (op_catT.or zmn)))
theorem zsZ{K:ai}:OpW K (λx y H Q=>(rI0 λi j=> .int (i+j)) x y H Q∨(∃i j,x= .str i∧y= .str j∧i.length+j.length≤sizeLine∧Q (.str (i++j)) H)∨
  (∃a b ys,x= .ref a∧y= .ref b∧SqT K H a []∧SqT K H b ys∧Q (.ref b) H)∨ztP K x y H Q∨zze x y H Q) zdl:=λH x y wx wy S Q QW rx ry hS h hQ=>by
 cases rx with
 |int i=>
  cases ry with
  |int j=>exact .inl ⟨i,j,rfl,rfl,hQ _ S _ H .refl (.int _) hS h⟩
  |_=>exact h.elim
 |str i=>
  cases ry with
  |str j=>exact .inr (.inl ⟨i,j,rfl,rfl,h.1,hQ _ S _ H .refl (.str _) hS h.2⟩)
  |_=>exact h.elim
 | @tup a vs ws f hs=>
  cases ry with
  | @tup b us zs g ks=>
   cases hs with
   |nil=>exact .inr (.inr (.inl ⟨a,b,us,rfl,rfl, .of f, .of g,hQ (.tup zs) S _ H .refl (.tup g ks) hS h.2⟩))
   |cons h1 h2=>
    refine .inr (.inr (.inr (.inl ⟨a,b,_,us,rfl,rfl, .of f, .of g,by simp,?_,λe=>?_,λe p hp=>?_⟩)))
    ·rw[←(Reps.cons h1 h2).length,←ks.length];exact h.1
    ·subst e;have e':=ks.nil_r;subst e';have q:=h.2;rw[bf]at q;exact hQ _ S _ H .refl (.tup f (.cons h1 h2)) hS q
    ·exact hQ _ S _ _ (.new hp) (.tup zaA (((Reps.cons h1 h2).append ks).ext (.new (S:=S) hp))) (hS.new hp) h.2
  |_=>exact h.elim
 |ref a=>
  cases ry with
  |ref b=>
   obtain⟨xs,ea,h⟩:=zbj h;obtain⟨ys,eb,h⟩:=zbj h;obtain⟨vs,e1,r1⟩:=hS a _ ea;obtain⟨us,e2,r2⟩:=hS b _ eb;refine .inr (.inr (.inr (.inr ⟨a,b,vs,us,rfl,rfl,e1,e2,by rw[←r1.length,←r2.length];exact h.1,λp hp=>?_⟩)))
   exact hQ _ _ _ _ (.newS hp) (.ref p) (hS.put_lst hp ((r1.append r2).ext (.new (S:=S) hp))) (h.2 p (hS.free hp))
  |_=>exact h.elim
 |_=>exact h.elim
variable {a b:Expr}{pos:ay}{ta tb:WE}
theorem zaZ (ha:JE X a ta) (hb:JE X b tb):JE X (.BinOp a .Add b pos) (wOp zdl ta tb):=zkx znW zsZ ha hb
theorem zhp (ha:JE X a ta) (hb:JE X b tb):JE X (.BinOp a .Sub b pos) (wOp (zep λi j=> .int (i - j)) ta tb):=zkx zxC zrc ha hb
theorem zsj (ha:JE X a ta) (hb:JE X b tb):JE X (.BinOp a .Mult b pos) (wOp (zdP CMul λi j=> .int (i*j)) ta tb):=zkx zvK zhA ha hb
theorem zed (ha:JE X a ta) (hb:JE X b tb):JE X (.BinOp a .FloorDiv b pos) (wOp (zdP zmp λi j=> .int (i / j)) ta tb):=zkx ztD zhA ha hb
theorem zcF (ha:JE X a ta) (hb:JE X b tb):JE X (.BinOp a .Mod b pos) (wOp (zdP (λ_ j=>0<j) λi j=> .int (i % j)) ta tb):=zkx zxn zhA ha hb
theorem zvj (ha:JE X a ta) (hb:JE X b tb):JE X (.BinOp a .Pow b pos) (wOp (zdP zzc λi j=> .int (i ^ j.toNat)) ta tb):=zkx zvz zhA ha hb
noncomputable def zmH (t:WE):WE:=λE σ S Q=>t E σ S λw S1=>match w with
 | .int i=>Q (.int (-i)) S1
 |_=>False
theorem zeX (ha:JE X a ta):JE X (.UnaryOp .USub a pos) (zmH ta):=λE hE=>
 (zyd zwZ (ha E hE)).mono λσ H Q ⟨σW,S,QW,hσ,hS,ht,hQ⟩=>⟨σW,S,_,hσ,hS,ht,λw S1 v H1 e1 r1 hS1 h1=>by
  cases r1 with
  |int i=>exact⟨i,rfl,hQ _ S1 _ H1 e1 (.int _) hS1 h1⟩
  |_=>exact h1.elim⟩
noncomputable def zyZ (t u:WE):WL:=λE σ S Q=>t E σ S λx S1=>u E σ S1 λy S2=>match x,y with
 | .ref a, .ref b=>zcz S2 a λxs=>zcz S2 b λys=>xs.length+ys.length≤sizeLine∧Q (xs++ys) S2
 |_,_=>False
end
noncomputable def zet (f:W→W→Option Bool):List W→List W→Option Bool
 | [],[]=>ae true
 | [],_=>ae false
 |_,[]=>ae false
 |x::xs,y::ys=>match f x y,zet f xs ys with
  |some a,ae b=>ae (a&&b)
  |_,_=>none
noncomputable def eqF (S:Sto):Nat→W→W→Option Bool
 |0,_,_=>none
 |n+1,w,u=>match w,u with
  | .non, .non=>ae true
  | .bl a, .bl b=>ae (a == b)
  | .int a, .int b=>ae (a == b)
  | .str a, .str b=>ae (a == b)
  | .tup _, .int _=>ae false
  | .int _, .tup _=>ae false
  | .tup xs, .tup ys=>zet (eqF S n) xs ys
  | .ref a, .ref b=>match S a with
   |some (.lst xs)=>match S b with
    |some (.lst ys)=>zet (eqF S n) xs ys
    |_=>none
   |_=>none
  |_,_=>none
theorem zlv{f:W→W→Option Bool}:∀{xs ys:List W}{b:Bool},zet f xs ys=ae b→
  (∀j,j<xs.length→j<ys.length→ ∃c,f (xs.getD j .non) (ys.getD j .non)=ae c)∧
  ((aO (min xs.length ys.length)).all (λj=>(f (xs.getD j .non) (ys.getD j .non)).getD true)&&xs.length == ys.length)=b
 | [],[],b,h=>by
  have:true=b:=aG h;subst this;exact⟨λj h=>absurd h (by simp),by simp⟩
 | [],y::ys,b,h=>by
  have:false=b:=aG h;subst this;exact⟨λj h=>absurd h (by simp),by simp⟩
 |x::xs,[],b,h=>by
  have:false=b:=aG h;subst this;exact⟨λj _ h=>absurd h (by simp),by simp⟩
 |x::xs,y::ys,b,h=>by
  unfold zet at h;split at h
  ·rename_i c d e1 e2;have hb:(c&&d)=b:=aG h;obtain⟨h1,h2⟩:=zlv e2;refine⟨λj j1 j2=>?_,?_⟩
   ·cases j with
    |zero=>exact⟨c,by simpa using e1⟩
    |succ j=>simpa using h1 j (by simpa using j1) (by simpa using j2)
   ·have hm:min (xs.length+1) (ys.length+1)=min xs.length ys.length+1:=by omega
    have hl:(xs.length+1 == ys.length+1)=(xs.length == ys.length):=by simp
    rw[aV,aV,hm,ii,j',fY,hl];have q:((λj=>(f ((x::xs).getD j .non) ((y::ys).getD j .non)).getD true)∘Nat.succ)=λj=>(f (xs.getD j .non) (ys.getD j .non)).getD true:=by
     funext j;simp
    rw[q,Bool.and_assoc,h2];have q0:(f ((x::xs).getD 0 .non) ((y::ys).getD 0 .non)).getD true=c:=by simp [e1]
    rw[q0,hb]
  ·cases h
section
variable {X:Cx}{pins:List (Addr×Obj)}{σ:St}{H:Hp}{s:ah}{S:Sto}
theorem zig (I:Inv X pins σ H s):∀(n:Nat) {wx wy:W}{v:V}{b:Bool},Rep X.K H wx v→Rep X.K H wy v→RepS X.K H S→eqF S n wx wy=ae b→b=true
 |0,_,_,_,_,_,_,_,h=>by cases h
 |n+1,wx,wy,v,b,rx,ry,hS,h=>by
  have list:∀{ws us:List W}{vs:List V}{b:Bool},Reps X.K H ws vs→Reps X.K H us vs→zet (eqF S n) ws us=ae b→b=true:=by
   intro ws
   induction ws with
   |nil=>
    intro us vs b r1 r2 e;cases r1;cases r2;exact(aG e).symm
   |cons w ws ih=>
    intro us vs b r1 r2 e;cases r1 with
    |cons a1 a2=>
     cases r2 with
     |cons c1 c2=>
      unfold zet at e;split at e
      ·rename_i c d e1 e2;have q1:=zig I n a1 c1 hS e1;have q2:=ih a2 c2 e2;have:=aG e;rw[q1,q2]at this;exact this.symm
      ·cases e
  cases rx with
  |non=>cases ry;exact(aG h).symm
  |bl k=>cases ry;have:=aG h;simpa using this.symm
  |int k=>cases ry;have:=aG h;simpa using this.symm
  |str k=>cases ry;have:=aG h;simpa using this.symm
  |ref a=>
   cases ry with
   |ref _=>
    have h':(match S a with
     |some (.lst xs)=>match S a with
      |some (.lst ys)=>zet (eqF S n) xs ys
      |_=>none
     |_=>none)=ae b:=h
    cases e:S a with
    |none=>rw[e]at h';cases h'
    |some o=>
     rw[e]at h';cases o with
     |lst ws=>
      obtain⟨vs,_,r⟩:=hS a _ e;exact list r r h'
     |dct _=>cases h'
     |ins _ _=>cases h'
   |scr _=>cases h
   |tup _ _=>cases h
  |scr f=>cases ry<;>cases h
  |tup f hs=>
   cases ry with
   |ref _=>cases h
   |scr _=>cases h
   |tup g ks=>
    have e:=I.tuple_inj (.of f) (.of g);subst e;exact list hs ks h
theorem ziL{A:aM}:A.in1.units=A.units+1:=rfl
theorem zlc (I:Inv X pins σ H s) (hS:RepS X.K H S):∀(n:Nat) {A:aM}{wx wy:W}{x y:V}{u v:Value}{b:Bool},A.units+n<cLine→Rep X.K H wx x→Rep X.K H wy y→RelV x u→RelV y v→eqF S n wx wy=ae b→
  dU A s u v b∧eJ A s u v b∧e_ A s u v (!b)
 |0,_,_,_,_,_,_,_,_,_,_,_,_,_,h=>by cases h
 |n+1,A,wx,wy,x,y,u,v,b,hu,rx,ry,ru,rv,h=>by
  have hu0:A.units<cLine:=by omega
  have items:∀{ws zs:List W}{xs ys:List V}{us vs:List Value}{b:Bool},Reps X.K H ws xs→Reps X.K H zs ys→Vals xs us→Vals ys vs→zet (eqF S n) ws zs=ae b→
    (∀j (h1:j<us.toArray.size) (h2:j<vs.toArray.size),dU A.in1 s us.toArray[j] vs.toArray[j] ((eqF S n (ws.getD j .non) (zs.getD j .non)).getD true))∧
    ((aO (min us.toArray.size vs.toArray.size)).all (λj=>(eqF S n (ws.getD j .non) (zs.getD j .non)).getD true)&&us.toArray.size == vs.toArray.size)=b:=by
   intro ws zs xs ys us vs b r1 r2 q1 q2 e;obtain⟨h1,h2⟩:=zlv e;have l1:=r1.length;have l2:=r2.length;have l3:=q1.length;have l4:=q2.length;refine⟨λj j1 j2=>?_,?_⟩
   ·rw[aQ]at j1 j2;obtain⟨c,hc⟩:=h1 j (by omega) (by omega);have jw:j<ws.length:=by omega
    have jz:j<zs.length:=by omega
    obtain⟨x',ex,rx'⟩:=r1.get (aU jw);obtain⟨y',ey,ry'⟩:=r2.get (aU jz);obtain⟨u',eu,ru'⟩:=q1.get ex;obtain⟨v',ev,rv'⟩:=q2.get ey;have e1:us.toArray[j]=u':=by
     obtain⟨_,e⟩:=bL.mp eu;simpa using e
    have e2:vs.toArray[j]=v':=by
     obtain⟨_,e⟩:=bL.mp ev;simpa using e
    have g1:ws.getD j .non=ws[j]:=by rw[bE,aU jw];rfl
    have g2:zs.getD j .non=zs[j]:=by rw[bE,aU jz];rfl
    rw[e1,e2,hc];rw[g1,g2]at hc;exact(zlc I hS n (by rw[ziL];omega) rx' ry' ru' rv' hc).1
   ·rw[aQ,aQ,←l3,←l4,←l1,←l2];exact h2
  cases rx with
  |non=>
   cases(show u=cz from ru);cases ry with
   |non=>cases(show v=cz from rv);cases h;exact⟨.same _, .none_none, .none_none⟩
   |_=>cases h
  |bl k=>
   cases(show u=dW k from ru);cases ry with
   |bl j=>cases(show v=dW j from rv);cases h;exact⟨.bool_bool _ _, .bool_bool _ _, .bool_bool _ _⟩
   |_=>cases h
  |int k=>
   obtain⟨t0,rfl⟩:=ru;cases ry with
   |int j=>obtain⟨t,rfl⟩:=rv;cases h;exact⟨.int_int _ _ _ _, .int_int _ _ _ _, .int_int _ _ _ _⟩
   |tup f hs=>cases(show v=br _ from rv);cases h;obtain⟨its,_,p,_⟩:=I.tuple (.of f);exact⟨.int_tuple _ _ p hu0, .int_tuple _ _ p hu0, .int_tuple _ _ p hu0⟩
   |_=>cases h
  |str k=>
   obtain⟨t0,rfl⟩:=ru;cases ry with
   |str j=>obtain⟨t,rfl⟩:=rv;cases h;exact⟨.str_str _ _ _ _, .str_str _ _ _ _, .str_str _ _ _ _⟩
   |_=>cases h
  | @tup a xs ws f hs=>
   cases(show u=br a from ru);obtain⟨its,q1,p,_⟩:=I.tuple (.of f);cases ry with
   |int j=>obtain⟨t,rfl⟩:=rv;cases h;exact⟨.tuple_int _ _ p hu0, .tuple_int _ _ p hu0, .tuple_int _ _ p hu0⟩
   | @tup c ys zs g ks=>
    cases(show v=br c from rv);obtain⟨its2,q2,p2,_⟩:=I.tuple (.of g);obtain⟨h1,h2⟩:=items hs ks q1 q2 h;have rc:eJ A s (.ref a) (.ref c) b:=by
     have:=eJ.tuples p p2 hu0 h1;rw[h2]at this;exact this
    have rn:e_ A s (.ref a) (.ref c) (!b):=by
     have:=e_.tuples p p2 hu0 h1;rw[h2]at this;exact this
    refine⟨?_,rc,rn⟩;by_cases e:a=c
    ·subst e;have:=zig I (n+1) (.tup f hs) (.tup g ks) hS h;rw[this];exact .same _
    ·exact .of_refs e rc
   |_=>cases h
  |ref a=>
   cases(show u=br a from ru);cases ry with
   |ref c=>
    cases(show v=br c from rv);have h':(match S a with
     |some (.lst xs)=>match S c with
      |some (.lst ys)=>zet (eqF S n) xs ys
      |_=>none
     |_=>none)=ae b:=h
    cases e:S a with
    |none=>rw[e]at h';cases h'
    |some o=>
     rw[e]at h';cases o with
     |dct _=>cases h'
     |ins _ _=>cases h'
     |lst ws=>
      cases e2:S c with
      |none=>rw[e2]at h';cases h'
      |some o2=>
       rw[e2]at h';cases o2 with
       |dct _=>cases h'
       |ins _ _=>cases h'
       |lst zs=>
        obtain⟨xs,f,hs⟩:=hS a _ e;obtain⟨ys,g,ks⟩:=hS c _ e2;obtain⟨its,q1,p,_⟩:=I.list (.of f);obtain⟨its2,q2,p2,_⟩:=I.list (.of g);obtain⟨h1,h2⟩:=items hs ks q1 q2 h';have both:eJ A s (.ref a) (.ref c) b∧e_ A s (.ref a) (.ref c) (!b):=by
         by_cases hz:its.toArray.size=its2.toArray.size
         ·have t1:=eJ.lists p.isList p2.isList hz hu0 h1;have t2:=e_.lists p.isList p2.isList hz hu0 h1;rw[←hz,Nat.min_self,beq_self_eq_true,Bool.and_true]at h2;rw[h2]at t1 t2;exact⟨t1,t2⟩
         ·have hz':(its.toArray.size != its2.toArray.size)=true:=by simpa using hz
          have hz2:(its.toArray.size == its2.toArray.size)=false:=by simpa using hz
          rw[hz2,fT]at h2;subst h2;exact⟨.lists_lengths p.isList p2.isList hz' hu0, .lists_lengths p.isList p2.isList hz' hu0⟩
        refine⟨?_,both.1,both.2⟩;by_cases ee:a=c
        ·subst ee;have:=zig I (n+1) (.ref a) (.ref a) hS h;rw[this];exact .same _
        ·exact .of_refs ee both.1
   |_=>cases h
  |scr f=>cases ry<;>cases h
end
noncomputable def oEq (neg:Bool):W2:=λx y S Q=>match eqF S 60 x y with
 |some b=>Q (.bl (if neg then !b else b)) S
 |none=>False
noncomputable def zzd (K:ai) (neg:Bool):R2:=λx y H Q=>∃wx wy S b,Rep K H wx x∧Rep K H wy y∧RepS K H S∧eqF S 60 wx wy=ae b∧Q (.bl (if neg then !b else b)) H
section
variable {X:Cx}
theorem zsA (hu:X.A.units+60<cLine):OpR X (bH .Eq) (zzd X.K false):=by
 intro pins s σ H x y v u Q I rx ry h;obtain⟨wx,wy,S,b,r1,r2,hS,e,q⟩:=h;exact(zlc I hS 60 hu r1 r2 rx ry e).2.1 _ _ _ _ ⟨.bl b,H,I,rfl,q⟩
theorem zwM (hu:X.A.units+60<cLine):OpR X (bH .NotEq) (zzd X.K true):=by
 intro pins s σ H x y v u Q I rx ry h;obtain⟨wx,wy,S,b,r1,r2,hS,e,q⟩:=h;exact(zlc I hS 60 hu r1 r2 rx ry e).2.2 _ _ _ _ ⟨.bl (!b),H,I,rfl,q⟩
theorem zpA{K:ai}{neg:Bool}:OpW K (zzd K neg) (oEq neg):=λH x y wx wy S Q QW rx ry hS h hQ=>by
 unfold oEq at h;split at h
 ·rename_i b e;exact⟨wx,wy,S,b,rx,ry,hS,e,hQ _ S _ H .refl (.bl _) hS h⟩
 ·exact h.elim
variable {a b:Expr}{pos:ay}{ta tb:WE}
theorem znv{k:Nat}(hr:Room k X.A) (ha:JE X a ta) (hb:JE X b tb):JE X (.Compare a [.Eq] [b] pos) (wOp (oEq false) ta tb):=zwu (zsA (by have:=hr.units;omega)) zpA ha hb (nomark b)
theorem zeR{k:Nat}(hr:Room k X.A) (ha:JE X a ta) (hb:JE X b tb):JT X (.Compare a [.Eq] [b] pos) (wTb (wOp (oEq false) ta tb)):=zeA (zsA (by have:=hr.units;omega)) zpA ha hb (nomark b)
theorem zhM{k:Nat}(hr:Room k X.A) (ha:JE X a ta) (hb:JE X b tb):JT X (.Compare a [.NotEq] [b] pos) (wTb (wOp (oEq true) ta tb)):=zeA (zwM (by have:=hr.units;omega)) zpA ha hb (nomark b)
noncomputable abbrev oLt:W2:=zep λi j=> .bl (decide (i<j))
noncomputable abbrev oGt:W2:=zep λi j=> .bl (decide (j<i))
noncomputable abbrev oGe:W2:=zep λi j=> .bl (decide (j≤i))
noncomputable def oLe:W2
 | .int i, .int j,S,Q=>Q (.bl (decide (i≤j))) S
 | .str i, .str j,S,Q=>Q (.bl (!decide (j.cps.toList<i.cps.toList))) S
 |_,_,_,_=>False
theorem zvv{K:ai}:OpW K (λx y H Q=>rI0 (λi j=> .bl (decide (i≤j))) x y H Q∨(∃i j,x= .str i∧y= .str j∧Q (.bl (!decide (j.cps.toList<i.cps.toList))) H)) oLe:=λH x y wx wy S Q QW rx ry hS h hQ=>by
 cases rx with
 |int i=>
  cases ry with
  |int j=>exact .inl ⟨i,j,rfl,rfl,hQ _ S _ H .refl (.bl _) hS h⟩
  |_=>exact h.elim
 |str i=>
  cases ry with
  |str j=>exact .inr ⟨i,j,rfl,rfl,hQ _ S _ H .refl (.bl _) hS h⟩
  |_=>exact h.elim
 |_=>exact h.elim
theorem zoS (ha:JE X a ta) (hb:JE X b tb):JT X (.Compare a [.Lt] [b] pos) (wTb (wOp oLt ta tb)):=zeA zxZ zhU ha hb (nomark b)
theorem zms (ha:JE X a ta) (hb:JE X b tb):JT X (.Compare a [.Gt] [b] pos) (wTb (wOp oGt ta tb)):=zeA zzo zhU ha hb (nomark b)
theorem zzn (ha:JE X a ta) (hb:JE X b tb):JT X (.Compare a [.GtE] [b] pos) (wTb (wOp oGe ta tb)):=zeA zyq zhU ha hb (nomark b)
theorem zzm (ha:JE X a ta) (hb:JE X b tb):JT X (.Compare a [.LtE] [b] pos) (wTb (wOp oLe ta tb)):=zeA (op_le.or zob) zvv ha hb (nomark b)
noncomputable def oIs (neg:Bool):W2
 | .non, .non,S,Q=>Q (.bl (!neg)) S
 | .bl a, .bl b,S,Q=>Q (.bl (if neg then a != b else a == b)) S
 | .bl _, .non,S,Q=>Q (.bl neg) S
 | .int _, .non,S,Q=>Q (.bl neg) S
 | .str _, .non,S,Q=>Q (.bl neg) S
 | .tup _, .non,S,Q=>Q (.bl neg) S
 | .ref _, .non,S,Q=>Q (.bl neg) S
 |_,_,_,_=>False
theorem zxP:OpR X (bH .Is) (λx y H Q=>(y= .non∧Q (.bl (decide (x= .non))) H)∨ ∃a b,x= .bl a∧y= .bl b∧Q (.bl (a == b)) H):=op_isN.or (by
 intro pins s σ H x y v u Q I rx ry h;obtain⟨a,b,rfl,rfl,q⟩:=h;cases rx;cases ry;exact is_bool ⟨.bl _,H,I,rfl,q⟩)
theorem zoa:OpR X (bH .IsNot) (λx y H Q=>(y= .non∧Q (.bl (!decide (x= .non))) H)∨ ∃a b,x= .bl a∧y= .bl b∧Q (.bl (a != b)) H):=op_notN.or (by
 intro pins s σ H x y v u Q I rx ry h;obtain⟨a,b,rfl,rfl,q⟩:=h;cases rx;cases ry;exact isnot_bool ⟨.bl _,H,I,rfl,q⟩)
theorem zvb{K:ai}:OpW K (λx y H Q=>(y= .non∧Q (.bl (decide (x= .non))) H)∨ ∃a b,x= .bl a∧y= .bl b∧Q (.bl (a == b)) H) (oIs false):=λH x y wx wy S Q QW rx ry hS h hQ=>by
 cases ry with
 |non=>cases rx<;>first |exact .inl ⟨rfl,by simpa using hQ _ S _ H .refl (.bl _) hS h⟩ |exact h.elim
 |bl b=>
  cases rx with
  |bl a=>exact .inr ⟨a,b,rfl,rfl,hQ _ S _ H .refl (.bl _) hS h⟩
  |_=>exact h.elim
 |_=>cases rx<;>exact h.elim
theorem zpZ{K:ai}:OpW K (λx y H Q=>(y= .non∧Q (.bl (!decide (x= .non))) H)∨ ∃a b,x= .bl a∧y= .bl b∧Q (.bl (a != b)) H) (oIs true):=λH x y wx wy S Q QW rx ry hS h hQ=>by
 cases ry with
 |non=>cases rx<;>first |exact .inl ⟨rfl,by simpa using hQ _ S _ H .refl (.bl _) hS h⟩ |exact h.elim
 |bl b=>
  cases rx with
  |bl a=>exact .inr ⟨a,b,rfl,rfl,hQ _ S _ H .refl (.bl _) hS h⟩
  |_=>exact h.elim
 |_=>cases rx<;>exact h.elim
theorem zxN (ha:JE X a ta) (hb:JE X b tb):JT X (.Compare a [.Is] [b] pos) (wTb (wOp (oIs false) ta tb)):=zeA zxP zvb ha hb (nomark b)
theorem zkO (ha:JE X a ta) (hb:JE X b tb):JT X (.Compare a [.IsNot] [b] pos) (wTb (wOp (oIs true) ta tb)):=zeA zoa zpZ ha hb (nomark b)
end
noncomputable def inF (S:Sto) (x:W):List W→Option Bool
 | []=>ae false
 |w::ws=>match eqF S 59 w x with
  |some a=>match inF S x ws with
   |some b=>ae (a || b)
   |none=>none
  |none=>none
section
variable {X:Cx}{pins:List (Addr×Obj)}{σ:St}{H:Hp}{s:ah}{S:Sto}
theorem zkJ (I:Inv X pins σ H s) (hS:RepS X.K H S):∀(n:Nat) {w w' u:W}{v:V}{b b':Bool},Rep X.K H w v→Rep X.K H w' v→eqF S n w u=ae b→eqF S n w' u=ae b'→b=b'
 |0,_,_,_,_,_,_,_,_,h,_=>by cases h
 |n+1,w,w',u,v,b,b',r,r',h,h'=>by
  have list:∀{us ws zs:List W}{vs:List V}{b b':Bool},Reps X.K H ws vs→Reps X.K H zs vs→zet (eqF S n) ws us=ae b→zet (eqF S n) zs us=ae b'→b=b':=by
   intro us
   induction us with
   |nil=>
    intro ws zs vs b b' r1 r2 e1 e2;cases r1 with
    |nil=>cases r2;rw[e1]at e2;exact aG e2
    |cons _ _=>cases r2 with
     |cons _ _=>have:=aG e1;have:=aG e2;subst_vars;rfl
   |cons u us ih=>
    intro ws zs vs b b' r1 r2 e1 e2;cases r1 with
    |nil=>cases r2;rw[e1]at e2;exact aG e2
    |cons a1 a2=>
     cases r2 with
     |cons c1 c2=>
      unfold zet at e1 e2;split at e1
      ·rename_i p q f1 f2;split at e2
       ·rename_i p' q' g1 g2;have h1:=zkJ I hS n a1 c1 f1 g1;have h2:=ih a2 c2 f2 g2;rw[←aG e1,←aG e2,h1,h2]
       ·cases e2
      ·cases e1
  have nolist:∀{a:Addr}{vs:List V}{ws:List W},H a=ae (.tup vs)→S a=ae (.lst ws)→False:=λf e=>by
   obtain⟨_,g,_⟩:=hS _ _ e;rw[f]at g;cases g
  cases r with
  |non=>cases r';rw[h]at h';exact aG h'
  |bl k=>cases r';rw[h]at h';exact aG h'
  |int k=>cases r';rw[h]at h';exact aG h'
  |str k=>cases r';rw[h]at h';exact aG h'
  |scr f=>cases u<;>cases h
  | @tup a vs ws f hs=>
   cases r' with
   | @tup _ us zs g ks=>
    rw[f]at g;cases g;cases u with
    |tup us=>exact list hs ks h h'
    |int _=>have:=aG h;have:=aG h';subst_vars;rfl
    |_=>cases h
   |scr _=>cases u<;>cases h'
   |ref _=>
    exfalso;cases u with
    |ref c=>
     have h2:(match S a with
      |some (.lst xs)=>match S c with
       |some (.lst ys)=>zet (eqF S n) xs ys
       |_=>none
      |_=>none)=ae b':=h'
     split at h2
     ·exact nolist f ‹_›
     ·cases h2
    |_=>cases h'
  |ref a=>
   cases r' with
   |ref _=>rw[h]at h';exact aG h'
   |scr _=>cases u<;>cases h'
   |tup f hs=>
    exfalso;cases u with
    |ref c=>
     have h2:(match S a with
      |some (.lst xs)=>match S c with
       |some (.lst ys)=>zet (eqF S n) xs ys
       |_=>none
      |_=>none)=ae b:=h
     split at h2
     ·exact nolist f ‹_›
     ·cases h2
    |_=>cases h
open Classical in
theorem zsb (I:Inv X pins σ H s) (hS:RepS X.K H S) {A:aM}{ws:List W}{vs:List V}{us:List Value}{wx:W}{x:V}{u:Value}{b:Bool}(hu:A.units+60<cLine) (r:Reps X.K H ws vs) (rv:Vals vs us) (rx:Rep X.K H wx x) (ru:RelV x u) (h:inF S wx ws=ae b) :
  ∃e:Value→Bool,(∀y,y∈us.toArray→dU A.in1 s y u (e y))∧us.toArray.any e=b:=by
 refine⟨λy=>decide (∃w v,Rep X.K H w v∧RelV v y∧eqF S 59 w wx=ae true),?_,?_⟩
 ·have go:∀{ws:List W}{vs:List V}{us:List Value}{b:Bool},Reps X.K H ws vs→Vals vs us→inF S wx ws=ae b→ ∀y∈us,dU A.in1 s y u (decide (∃w v,Rep X.K H w v∧RelV v y∧eqF S 59 w wx=ae true)):=by
   intro ws
   induction ws with
   |nil=>intro vs us b r rv h y hy;cases r;cases rv;cases hy
   |cons w ws ih=>
    intro vs us b r rv h y hy;cases r with
    |cons r1 r2=>
     cases rv with
     |cons q1 q2=>
      unfold inF at h;split at h
      ·rename_i c e1;split at h
       ·rename_i d e2;rcases av.mp hy with rfl |hy
        ·have ok:=(zlc I hS 59 (A:=A.in1) (by rw[ziL];omega) r1 rx q1 ru e1).1;have ec:c=decide (∃w v,Rep X.K H w v∧RelV v y∧eqF S 59 w wx=ae true):=by
          cases c with
          |true=>exact(decide_eq_true ⟨w,_,r1,q1,e1⟩).symm
          |false=>
           symm;refine decide_eq_false λ⟨w',v',r',q',e'⟩=>?_;have:=RelV.inj q' q1;subst this;exact absurd (zkJ I hS 59 r1 r' e1 e') (by simp)
         rw[←ec];exact ok
        ·exact ih r2 q2 e2 y hy
       ·cases h
      ·cases h
  intro y hy;exact go r rv h y (by simpa using hy)
 ·have go:∀{ws:List W}{vs:List V}{us:List Value}{b:Bool},Reps X.K H ws vs→Vals vs us→inF S wx ws=ae b→us.any (λy=>decide (∃w v,Rep X.K H w v∧RelV v y∧eqF S 59 w wx=ae true))=b:=by
   intro ws
   induction ws with
   |nil=>intro vs us b r rv h;cases r;cases rv;exact aG h
   |cons w ws ih=>
    intro vs us b r rv h;cases r with
    |cons r1 r2=>
     cases rv with
     | @cons _ _ _ _ q1 q2=>
      rename_i y _;unfold inF at h;split at h
      ·rename_i c e1;split at h
       ·rename_i d e2;have ec:decide (∃w v,Rep X.K H w v∧RelV v y∧eqF S 59 w wx=ae true)=c:=by
          cases c with
          |true=>exact decide_eq_true ⟨w,_,r1,q1,e1⟩
          |false=>
           refine decide_eq_false λ⟨w',v',r',q',e'⟩=>?_;have:=RelV.inj q' q1;subst this;exact absurd (zkJ I hS 59 r1 r' e1 e') (by simp)
        rw[dN,ih r2 q2 e2,ec];exact aG h
       ·cases h
      ·cases h
  have:=go r rv h;simpa using this
end
noncomputable def oIn (neg:Bool):W2:=λx y S Q=>match y with
 | .str j=>match x with
  | .str i=>Q (.bl (if neg then !(!(cS j i 0 j.length 1).isEmpty) else !(cS j i 0 j.length 1).isEmpty)) S
  |_=>False
 | .tup ws=>match inF S x ws with
  |some b=>Q (.bl (if neg then !b else b)) S
  |none=>False
 | .ref a=>zcz S a λws=>match inF S x ws with
  |some b=>Q (.bl (if neg then !b else b)) S
  |none=>False
 |_=>False
noncomputable def zzu (K:ai) (neg:Bool):R2:=λx y H Q=>∃wx ws vs S p b,y= .ref p∧(SqL K H p vs∨SqT K H p vs)∧Reps K H ws vs∧Rep K H wx x∧RepS K H S∧inF S wx ws=ae b∧Q (.bl (if neg then !b else b)) H
section
variable {X:Cx}{a b:Expr}{pos:ay}{ta tb:WE}
theorem zpY (hu:X.A.units+60<cLine):OpR X (bH .NotIn) (zzu X.K true):=by
 intro pins s σ H x y v u Q I rx ry h;obtain⟨wx,ws,vs,S,p,b,rfl,hq,rs,r,hS,e,q⟩:=h;cases ry;rcases hq with hq |hq
 ·obtain⟨its,rv,p,_⟩:=I.list hq;obtain⟨f,h1,h2⟩:=zsb I hS hu rs rv r rx e;exact SeqAt.notIn_listAt f p.isList h1 (by rw[h2];exact⟨.bl (!b),H,I,rfl,q⟩)
 ·obtain⟨its,rv,p,_⟩:=I.tuple hq;obtain⟨f,h1,h2⟩:=zsb I hS hu rs rv r rx e;exact SeqAt.notIn_tupleAt f p h1 (by rw[h2];exact⟨.bl (!b),H,I,rfl,q⟩)
theorem zmO{K:ai}{neg:Bool}{H:Hp}{x y:V}{wx wy:W}{S:Sto}{Q:VK}{QW:WK}(rx:Rep K H wx x) (ry:Rep K H wy y) (hS:RepS K H S) (h:oIn neg wx wy S QW) (hQ:Wish K H S QW Q) :
  (∃i j,x= .str i∧y= .str j∧Q (.bl (if neg then !(!(cS j i 0 j.length 1).isEmpty) else !(cS j i 0 j.length 1).isEmpty)) H)∨zzu K neg x y H Q:=by
 cases ry with
 |str j=>
  cases rx with
  |str i=>exact .inl ⟨i,j,rfl,rfl,hQ _ S _ H .refl (.bl _) hS h⟩
  |_=>exact h.elim
 |tup f hs=>
  refine .inr ?_;unfold oIn at h;dsimp only at h;split at h
  ·exact⟨wx,_,_,S,_,_,rfl, .inr (.of f),hs,rx,hS, ‹_›,hQ _ S _ H .refl (.bl _) hS h⟩
  ·exact h.elim
 |ref a=>
  refine .inr ?_;obtain⟨ws,e,h⟩:=zbj h;obtain⟨vs,f,hs⟩:=hS a _ e;split at h
  ·exact⟨wx,_,_,S,_,_,rfl, .inl (.of f),hs,rx,hS, ‹_›,hQ _ S _ H .refl (.bl _) hS h⟩
  ·exact h.elim
 |_=>exact h.elim
theorem zlA{k:Nat}(hr:Room k X.A) (ha:JE X a ta) (hb:JE X b tb) (hm:c8 .NotIn b=false:=by with_unfolding_all rfl):JT X (.Compare a [.NotIn] [b] pos) (wTb (wOp (oIn true) ta tb)):=
 zeA (op_notin_str.or (zpY (by have:=hr.units;omega))) (λH x y wx wy S Q QW rx ry hS h hQ=>zmO rx ry hS h hQ) ha hb hm
end
noncomputable def oIx:W2:=λx y S Q=>match y with
 | .int i=>match x with
  | .tup ws=>match atI ws i with
   |some w=>Q w S
   |none=>False
  | .ref a=>zcz S a λws=>match atI ws i with
   |some w=>Q w S
   |none=>False
  | .scr ns=>match atI ns i with
   |some n=>Q (.int n) S
   |none=>False
  | .str x=>x.length≤sizeLine∧match atI x.cps.toList i with
   |some c=>Q (.str ⟨#[c]⟩) S
   |none=>False
  |_=>False
 |_=>False
theorem zkk{K:ai}{H:Hp}{ws:List W}{vs:List V}{i:Int}{w:W}(r:Reps K H ws vs) (e:atI ws i=ae w):∃v,atI vs i=ae v∧Rep K H w v:=by
 unfold atI at e⊢;rw[←r.length];cases q:ixN ws.length i with
 |none=>rw[q]at e;cases e
 |some j=>rw[q]at e;exact r.get e
theorem zsP{α β:Type}{f:α→β}{xs:List α}{i:Int}{x:α}(e:atI xs i=ae x):atI (xs.map f) i=ae (f x):=by
 unfold atI at e⊢;rw[aq];cases q:ixN xs.length i with
 |none=>rw[q]at e;cases e
 |some j=>
  rw[q]at e;show(xs.map f)[j]? =_;rw[aX,show xs[j]? =ae x from e];rfl
theorem zww{K:ai}:OpW K (rIx K) oIx:=λH x y wx wy S Q QW rx ry hS h hQ=>by
 cases ry with
 |int i=>
  cases rx with
  |tup f hs=>
   unfold oIx at h;dsimp only at h;split at h
   ·obtain⟨v,ev,r⟩:=zkk hs ‹_›;exact .inr (.inl ⟨_,_,i,v,rfl,rfl, .of f,ev,hQ _ S _ H .refl r hS h⟩)
   ·exact h.elim
  |ref a=>
   obtain⟨ws,e,h⟩:=zbj h;obtain⟨vs,f,hs⟩:=hS a _ e;split at h
   ·obtain⟨v,ev,r⟩:=zkk hs ‹_›;exact .inl ⟨_,_,i,v,rfl,rfl, .of f,ev,hQ _ S _ H .refl r hS h⟩
   ·exact h.elim
  |scr f=>
   unfold oIx at h;dsimp only at h;split at h
   ·exact .inl ⟨_,_,i,_,rfl,rfl,f.sq,zsP ‹_›,hQ _ S _ H .refl (.int _) hS h⟩
   ·exact h.elim
  |str z=>
   unfold oIx at h;dsimp only at h;obtain⟨hz,h⟩:=h;split at h
   ·exact .inr (.inr ⟨z,i,_,rfl,rfl,hz, ‹_›,hQ _ S _ H .refl (.str _) hS h⟩)
   ·exact h.elim
  |_=>exact h.elim
 |_=>exact h.elim
section
variable {X:Cx}{a b e:Expr}{pos p2:ay}{ta tb te:WE}{lo hi:Option Expr}
theorem zaq (ha:JE X a ta) (hb:JE X b tb) (hs:zku b:=by intro _ _;rfl):JE X (.Subscript a b pos) (wOp oIx ta tb):=λE hE=>
 (zwE zsx (ha E hE) (hb E hE) hs).mono λσ H Q h=>zfO h λH2 x y wx wy S QW rx ry hS q hQ=>zww H2 x y wx wy S Q QW rx ry hS q hQ
abbrev WO:=WX→WSt→Sto→(Option Int→Sto→Prop)→Prop
noncomputable def zym (K:ai) (t:WSt→Sto→(Option Int→Sto→Prop)→Prop):TO:=λσ H Q=>∃σW S QW,RpSt K H σW σ∧RepS K H S∧t σW S QW∧ ∀b S' H',Ext H S H' S'→RepS K H' S'→QW b S'→Q b H'
def JO (X:Cx) (e:Option Expr) (t:WO):Prop:=∀E,Hook X E→PO X e (zym X.K (t E))
noncomputable def woN:WO:=λ_ _ S Q=>Q none S
noncomputable def woS (t:WE):WO:=λE σ S Q=>t E σ S λw S1=>match w with
 | .int i=>Q (ae i) S1
 |_=>False
theorem PO.mono{X:Cx}{e:Option Expr}{t t':TO}(h:PO X e t) (q:∀σ H Q,t' σ H Q→t σ H Q):PO X e t':=λpins s σ H Q I z=>h pins s σ H Q I (q σ H Q z)
theorem zaL:JO X none woN:=λE hE=>po_none.mono λσ H Q ⟨σW,S,QW,hσ,hS,ht,hQ⟩=>hQ none S H .refl hS ht
theorem zaC (h:JE X e te):JO X (ae e) (woS te):=λE hE=>(ztJ (h E hE)).mono λσ H Q ⟨σW,S,QW,hσ,hS,ht,hQ⟩=>⟨σW,S,_,hσ,hS,ht,λw S1 v H1 e1 r1 hS1 h1=>by
 cases r1 with
 |int i=>exact⟨i,rfl,hQ _ S1 H1 e1 hS1 h1⟩
 |_=>exact h1.elim⟩
noncomputable def zer {α:Type}(xs:List α) (lo hi:Option Int):List α:=(xs.drop (HT.sIx xs.length 0 lo)).take (HT.sIx xs.length xs.length hi - HT.sIx xs.length 0 lo)
theorem zhG{K:ai}{H:Hp}{ws:List W}{vs:List V}{lo hi:Option Int}(r:Reps K H ws vs):Reps K H (zer ws lo hi) (zpn vs lo hi):=by
 unfold zer zpn;rw[r.length];exact(r.drop _).take _
theorem zml{α β:Type}{f:α→β}{xs:List α}{lo hi:Option Int}:zer (xs.map f) lo hi=(zer xs lo hi).map f:=by
 unfold zer;rw[aq,gC,g9]
theorem zeI{prog:aF}{w:ax}{A:aM}{E:Value→ah→Prop}{s:ah}{t sl:Addr}{items:Array Value}{vl vu:Value}{lo hi:Option Int}{Q:Value→ah→Prop}(ht:dM s.heap t items) (hs:s.heap.IsSliceOf sl vl vu .none) (pl:cN vl lo) (pu:cN vu hi)
  (hw:HT.sIx items.size 0 lo=0∧HT.sIx items.size items.size hi=items.size) (h:Q (.ref t) s):am (ap prog w) A (dr (.ref t) (.ref sl)) Q E s:=by
 obtain⟨os,hos,hcs,hds⟩:=id hs;have hTs:s.TypeIs (.ref sl) "slice" :=⟨os,hos,hcs⟩;unfold dr
 try with_reducible refine fL ?_
 first |refine ak (aE ?_) |skip
 refine ak (jo ht.typeIs (by decide) ?_);refine ak (df (name:=bu "__getitem__") ht.typeIs d7
  (c7 d7 ht.typeIs iX ?_ (ko _ _)))
 show am _ _ (j7 (.ref t) >>= _) _ _ s;refine ak (tupleItemsOf_ ht ?_);refine ak (fu hTs ?_);rw[if_pos (by decide)];refine ak (HT.sliceApplied_gen hs pl pu ?_);show am _ _ (if(((HT.sIx items.size 0 lo:Nat):Int) == 0&&(1:Int) == 1&&(HT.sIx items.size items.size hi - HT.sIx items.size 0 lo) == items.size)=true then _ else _) _ _ s;rw[hw.1,hw.2,if_pos (by simp)];unfold bD.Tuple.tupleIsExact;refine ak (ak (fu ht.typeIs (aE ?_)));rw[if_pos (by decide)];exact ak (dJ (aE ⟨_,rfl,aE h⟩))
theorem sl_tupW:SlR X (λx lo hi H Q=>∃a xs,x= .ref a∧SqT X.K H a xs∧((HT.sIx xs.length 0 lo=0∧HT.sIx xs.length xs.length hi=xs.length)∧Q (.ref a) H∨ ¬(HT.sIx xs.length 0 lo=0∧HT.sIx xs.length xs.length hi=xs.length)∧ ∀p,H p=none→Q (.ref p) (upd H p (.tup (zpn xs lo hi))))):=by
 intro pins s σ H x v vl vu lo hi sl Q I rx hs pl pu h;obtain⟨a,xs,rfl,hx,⟨hw,q⟩ |⟨hw,q⟩⟩:=h
 ·cases rx;obtain⟨its,r,ht,hz⟩:=I.tuple hx;have hlen:its.toArray.size=xs.length:=by rw[aQ];exact r.length.symm
  refine⟨"tuple",_,d7.lookup,ht.typeIs,?_⟩;exact zeI ht hs pl pu (by rw[hlen];exact hw) ⟨.ref a,H,I,rfl,q⟩
 ·exact zwT pins s σ H _ v vl vu lo hi sl Q I rx hs pl pu ⟨a,xs,rfl,hx,hw,q⟩
noncomputable def oSl:W→Option Int→Option Int→Sto→WK→Prop
 | .tup ws,lo,hi,S,Q=>Q (.tup (zer ws lo hi)) S
 | .str z,lo,hi,S,Q=>z.length≤sizeLine∧Q (.str (cL z lo hi)) S
 | .ref a,lo,hi,S,Q=>zcz S a λws=>∀p,S p=none→Q (.ref p) (put S p (.lst (zer ws lo hi)))
 | .scr ns,lo,hi,S,Q=>∀p,S p=none→Q (.ref p) (put S p (.lst ((zer ns lo hi).map W.int)))
 |_,_,_,_,_=>False
noncomputable def wSl (t:WE) (l h:WO):WE:=λE σ S Q=>t E σ S λx S1=>l E σ S1 λlo S2=>h E σ S2 λhi S3=>oSl x lo hi S3 Q
theorem zmr{α:Type}{xs:List α}{lo hi:Option Int}(h:HT.sIx xs.length 0 lo=0∧HT.sIx xs.length xs.length hi=xs.length):zer xs lo hi=xs:=by
 unfold zer;rw[h.1,h.2,dh,eS,h9]
theorem zcc{tl th:WO}(he:JE X e te) (hl:JO X lo tl) (hh:JO X hi th):JE X (.Subscript e (.Slice lo hi none p2) pos) (wSl te tl th):=λE hE=>
 (zmm (sl_tupW.or (sl_str.or zoL)) (he E hE) (hl E hE) (hh E hE)).mono λσ H Q ⟨σW,S,QW,hσ,hS,ht,hQ⟩=>
  ⟨σW,S,_,hσ,hS,ht,λw S1 v H1 e1 r1 hS1 h1=>⟨σW,S1,_,hσ.ext e1,hS1,h1,λlo S2 H2 e2 hS2 h2=>⟨σW,S2,_,(hσ.ext e1).ext e2,hS2,h2,λhi S3 H3 e3 hS3 h3=>by
   have hQ':=hQ.from (e1.trans (e2.trans e3));have r3:=(r1.ext e2).ext e3;cases r3 with
   | @tup a vs ws f hs=>
    refine .inl ⟨a,vs,rfl, .of f,?_⟩;by_cases hw:HT.sIx vs.length 0 lo=0∧HT.sIx vs.length vs.length hi=vs.length
    ·refine .inl ⟨hw,hQ' (.tup ws) S3 _ H3 .refl (.tup f hs) hS3 ?_⟩;have:=zmr (xs:=ws) (lo:=lo) (hi:=hi) (by rw[hs.length];exact hw);have h3':QW (.tup (zer ws lo hi)) S3:=h3;rw[this]at h3';exact h3'
    ·exact .inr ⟨hw,λp hp=>hQ' _ S3 _ _ (.new hp) (.tup zaA ((zhG hs).ext (.new (S:=S3) hp))) (hS3.new hp) h3⟩
   |str z=>exact .inr (.inl ⟨z,rfl,h3.1,hQ' _ S3 _ H3 .refl (.str _) hS3 h3.2⟩)
   |ref a=>
    obtain⟨ws,ea,h⟩:=zbj h3;obtain⟨vs,f,hs⟩:=hS3 a _ ea;exact .inr (.inr ⟨a,vs,rfl, .of f,λp hp=>hQ' _ _ _ _ (.newS hp) (.ref p) (hS3.put_lst hp ((zhG hs).ext (.new (S:=S3) hp))) (h p (hS3.free hp))⟩)
   | @scr a ns f=>
    refine .inr (.inr ⟨a,_,rfl,f.sq,λp hp=>hQ' _ _ _ _ (.newS hp) (.ref p) (hS3.put_lst hp ?_) (h3 p (hS3.free hp))⟩);have q:zpn (ns.map V.int) lo hi=(zer ns lo hi).map V.int:=zml;rw[q];exact Reps.ofInts _
   |_=>exact h3.elim⟩⟩⟩
noncomputable def zss (t:WE) (l h:WO):WL:=λE σ S Q=>t E σ S λx S1=>l E σ S1 λlo S2=>h E σ S2 λhi S3=>match x with
 | .ref a=>zcz S3 a λws=>Q (zer ws lo hi) S3
 | .scr ns=>Q ((zer ns lo hi).map W.int) S3
 |_=>False
theorem zpX{tl th:WO}(he:JE X e te) (hl:JO X lo tl) (hh:JO X hi th):JL X (.Subscript e (.Slice lo hi none p2) pos) (zss te tl th):=λE hE=>
 (zmm zoL (he E hE) (hl E hE) (hh E hE)).mono λσ H Q ⟨σW,S,QW,hσ,hS,ht,hQ⟩=>
  ⟨σW,S,_,hσ,hS,ht,λw S1 v H1 e1 r1 hS1 h1=>⟨σW,S1,_,hσ.ext e1,hS1,h1,λlo S2 H2 e2 hS2 h2=>⟨σW,S2,_,(hσ.ext e1).ext e2,hS2,h2,λhi S3 H3 e3 hS3 h3=>by
   have e':=e1.trans (e2.trans e3);have r3:=(r1.ext e2).ext e3;cases r3 with
   |ref a=>
    obtain⟨ws,ea,h⟩:=zbj h3;obtain⟨vs,f,hs⟩:=hS3 a _ ea;exact⟨a,vs,rfl, .of f,λp hp=>hQ _ S3 _ p _ (e'.trans (.new hp)) (e'.free hp) zaA (hS3.free hp) ((zhG hs).ext (.new (S:=S3) hp)) (hS3.new hp) h⟩
   | @scr a ns f=>
    refine⟨a,_,rfl,f.sq,λp hp=>hQ _ S3 _ p _ (e'.trans (.new hp)) (e'.free hp) zaA (hS3.free hp) ?_ (hS3.new hp) h3⟩;have q:zpn (ns.map V.int) lo hi=(zer ns lo hi).map V.int:=zml;rw[q];exact Reps.ofInts _
   |_=>exact h3.elim⟩⟩⟩
end
abbrev WF:=List W→Sto→WK→Prop
noncomputable def wB (f:WF) (t:WA):WE:=λE σ S Q=>t E σ S λws S1=>f ws S1 Q
def zjZ (K:ai) (r:List V→Hp→VK→Prop) (f:WF):Prop:=∀H vs ws S (Q:VK) (QW:WK),Reps K H ws vs→RepS K H S→f ws S QW→Wish K H S QW Q→r vs H Q
noncomputable def wBL (f:WF) (t:WL):WE:=λE σ S Q=>t E σ S λws S1=>f ws S1 Q
def zmx (K:ai) (r:List V→Hp→VK→Prop) (f:WF):Prop:=∀H a vs ws S (Q:VK) (QW:WK),H a=ae (.lst vs)→S a=none→Reps K H ws vs→RepS K H S→f ws S QW→Wish K H S QW Q→r [.ref a] H Q
section
variable {X:Cx}{x:Str}{p pos:ay}{e:Expr}{es:List Expr}{t:WA}{tl:WL}{id T:String}{r:List V→Hp→VK→Prop}{f:WF}
theorem zsn (hc:CallR X (.builtin id) r) (hw:zjZ X.K r f) (hg:Gl X x) (hm:X.mg x=none) (hv:bW x=ae (.builtin id)) (ha:JA X (e::es) t) (hn:x≠ "__name__" :=by decide) (hdb:(x == ("__debug__" :Str))=false:=by decide)
  (he:ao (e::es) X.env=(false,au e X.env)::ao es X.env:=by rfl) (hpl:(aP pos (ao es X.env)).any (·.1)=false:=by rfl):JE X (.Call (.Name x p) (e::es) [] pos) (wB f t):=λE hE=>
 (zfJ hc hg hm hv (ha E hE) hn hdb he hpl).mono λσ H Q ⟨σW,S,QW,hσ,hS,ht,hQ⟩=>⟨σW,S,_,hσ,hS,ht,λws S1 vs H1 e1 r1 hS1 h1=>hw H1 vs ws S1 Q QW r1 hS1 h1 (hQ.from e1)⟩
theorem zxq (hc:CallR X (.type T) r) (hw:zjZ X.K r f) (hg:Gl X x) (hm:X.mg x=none) (hv:bW x=ae (.type T)) (ha:JA X (e::es) t) (hn:x≠ "__name__" :=by decide) (hdb:(x == ("__debug__" :Str))=false:=by decide)
  (he:ao (e::es) X.env=(false,au e X.env)::ao es X.env:=by rfl) (hpl:(aP pos (ao es X.env)).any (·.1)=false:=by rfl):JE X (.Call (.Name x p) (e::es) [] pos) (wB f t):=λE hE=>
 (zgx hc hg hm hv (ha E hE) hn hdb he hpl).mono λσ H Q ⟨σW,S,QW,hσ,hS,ht,hQ⟩=>⟨σW,S,_,hσ,hS,ht,λws S1 vs H1 e1 r1 hS1 h1=>hw H1 vs ws S1 Q QW r1 hS1 h1 (hQ.from e1)⟩
theorem znL (hc:CallR X (.builtin id) r) (hw:zmx X.K r f) (hg:Gl X x) (hm:X.mg x=none) (hv:bW x=ae (.builtin id)) (ha:JL X e tl) (hn:x≠ "__name__" :=by decide) (hdb:(x == ("__debug__" :Str))=false:=by decide)
  (he:ao [e] X.env=(false,au e X.env)::ao [] X.env:=by rfl) (hpl:(aP pos (ao [] X.env)).any (·.1)=false:=by rfl):JE X (.Call (.Name x p) [e] [] pos) (wBL f tl):=λE hE=>
 (zfJ hc hg hm hv (zcD (ha E hE) pa_nil he) hn hdb he hpl).mono λσ H Q ⟨σW,S,QW,hσ,hS,ht,hQ⟩=>⟨σW,S,_,hσ,hS,ht,λws S1 vs a H1 e1 fa ea na r1 hS1 h1=>hw H1 a vs ws S1 Q QW ea na r1 hS1 h1 (hQ.from e1)⟩
theorem zrO (hc:CallR X (.type T) r) (hw:zmx X.K r f) (hg:Gl X x) (hm:X.mg x=none) (hv:bW x=ae (.type T)) (ha:JL X e tl) (hn:x≠ "__name__" :=by decide) (hdb:(x == ("__debug__" :Str))=false:=by decide)
  (he:ao [e] X.env=(false,au e X.env)::ao [] X.env:=by rfl) (hpl:(aP pos (ao [] X.env)).any (·.1)=false:=by rfl):JE X (.Call (.Name x p) [e] [] pos) (wBL f tl):=λE hE=>
 (zgx hc hg hm hv (zcD (ha E hE) pa_nil he) hn hdb he hpl).mono λσ H Q ⟨σW,S,QW,hσ,hS,ht,hQ⟩=>⟨σW,S,_,hσ,hS,ht,λws S1 vs a H1 e1 fa ea na r1 hS1 h1=>hw H1 a vs ws S1 Q QW ea na r1 hS1 h1 (hQ.from e1)⟩
noncomputable def zdW:WF:=λws S Q=>match ws with
 | [.tup us]=>Q (.int us.length) S
 | [.ref a]=>zcz S a λus=>Q (.int us.length) S
 | [.scr ns]=>Q (.int ns.length) S
 | [.str z]=>z.length≤sizeLine∧Q (.int z.length) S
 |_=>False
theorem zpQ{K:ai}:zjZ K (λxs H Q=>(∃p ys,xs=[.ref p]∧(SqL K H p ys∨SqT K H p ys)∧Q (.int ys.length) H)∨ ∃z,xs=[.str z]∧z.length≤sizeLine∧Q (.int z.length) H) zdW:=λH vs ws S Q QW r hS h hQ=>by
 cases r with
 |nil=>exact h.elim
 |cons r1 r2=>
  cases r2 with
  |cons _ _=>cases r1<;>exact h.elim
  |nil=>
   cases r1 with
   |tup f hs=>exact .inl ⟨_,_,rfl, .inr (.of f),by rw[←hs.length];exact hQ _ S _ H .refl (.int _) hS h⟩
   |ref a=>
    obtain⟨us,e,h⟩:=zbj h;obtain⟨vs,f,hs⟩:=hS a _ e;exact .inl ⟨_,_,rfl, .inl (.of f),by rw[←hs.length];exact hQ _ S _ H .refl (.int _) hS h⟩
   |scr f=>exact .inl ⟨_,_,rfl, .inl f.sq,by rw[aq];exact hQ _ S _ H .refl (.int _) hS h⟩
   |str z=>exact .inr ⟨z,rfl,h.1,hQ _ S _ H .refl (.int _) hS h.2⟩
   |_=>exact h.elim
theorem zbm (hg:Gl X "len") (hm:X.mg "len" =none) (ha:JA X (e::es) t) 
  (he:ao (e::es) X.env=(false,au e X.env)::ao es X.env:=by rfl) (hpl:(aP pos (ao es X.env)).any (·.1)=false:=by rfl):JE X (.Call (.Name "len" p) (e::es) [] pos) (wB zdW t):=
 zsn (call_len_seq.or zjr) zpQ hg hm PySem.boot_len ha (by decide) (by decide) he hpl
noncomputable def zdZ:WF:=λws S Q=>match ws with
 | [.tup us]=>Q (.tup us) S
 | [.ref a]=>zcz S a λus=>Q (.tup us) S
 |_=>False
theorem zkm{K:ai}:zjZ K (λxs H Q=>∃p ys,xs=[.ref p]∧((SqL K H p ys∧ ∀l,H l=none→Q (.ref l) (upd H l (.tup ys)))∨(SqT K H p ys∧Q (.ref p) H))) zdZ:=λH vs ws S Q QW r hS h hQ=>by
 cases r with
 |nil=>exact h.elim
 |cons r1 r2=>
  cases r2 with
  |cons _ _=>cases r1<;>exact h.elim
  |nil=>
   cases r1 with
   |tup f hs=>exact⟨_,_,rfl, .inr ⟨.of f,hQ _ S _ H .refl (.tup f hs) hS h⟩⟩
   |ref a=>
    obtain⟨us,e,h⟩:=zbj h;obtain⟨vs,f,hs⟩:=hS a _ e;exact⟨_,_,rfl, .inl ⟨.of f,λl hl=>hQ _ S _ _ (.new hl) (.tup zaA (hs.ext (.new (S:=S) hl))) (hS.new hl) h⟩⟩
   |_=>exact h.elim
noncomputable def zfX:WF:=λws S Q=>Q (.tup ws) S
theorem zjY{K:ai}:zmx K (λxs H Q=>∃p ys,xs=[.ref p]∧((SqL K H p ys∧ ∀l,H l=none→Q (.ref l) (upd H l (.tup ys)))∨(SqT K H p ys∧Q (.ref p) H))) zfX:=λH a vs ws S Q QW ea na r hS h hQ=>
 ⟨a,vs,rfl, .inl ⟨.of ea,λl hl=>hQ _ S _ _ (.new hl) (.tup zaA (r.ext (.new (S:=S) hl))) (hS.new hl) h⟩⟩
noncomputable def zkh (t:WE):WL:=λE σ S Q=>t E σ S λw S1=>match w with
 | .tup ws=>Q ws S1
 | .ref a=>zcz S1 a λws=>Q ws S1
 | .scr ns=>Q (ns.map W.int) S1
 |_=>False
theorem zur{te:WE}(hg:Gl X "list") (hm:X.mg "list" =none) (ha:JE X e te)
  (he:ao [e] X.env=(false,au e X.env)::ao [] X.env:=by rfl) (hpl:(aP pos (ao [] X.env)).any (·.1)=false:=by rfl):JL X (.Call (.Name "list" p) [e] [] pos) (zkh te):=λE hE=>
 (zgx ziv hg hm kI (zcD (ha E hE) pa_nil he) (by decide) (by decide) he hpl).mono λσ H Q ⟨σW,S,QW,hσ,hS,ht,hQ⟩=>⟨σW,S,_,hσ,hS,ht,λw S1 v H1 e1 r1 hS1 h1=>by
  cases r1 with
  |tup f hs=>exact⟨_,_,rfl, .inr (.of f),λl hl=>hQ _ S1 _ l _ (e1.trans (.new hl)) (e1.free hl) zaA (hS1.free hl) (hs.ext (.new (S:=S1) hl)) (hS1.new hl) h1⟩
  |ref a=>
   obtain⟨ws,ea,h⟩:=zbj h1;obtain⟨vs,f,hs⟩:=hS1 a _ ea;exact⟨_,_,rfl, .inl (.of f),λl hl=>hQ _ S1 _ l _ (e1.trans (.new hl)) (e1.free hl) zaA (hS1.free hl) (hs.ext (.new (S:=S1) hl)) (hS1.new hl) h⟩
  |scr f=>exact⟨_,_,rfl, .inl f.sq,λl hl=>hQ _ S1 _ l _ (e1.trans (.new hl)) (e1.free hl) zaA (hS1.free hl) (Reps.ofInts _) (hS1.new hl) h1⟩
  |_=>exact h1.elim⟩
noncomputable def ziW:List W→Option (List Bool)
 | []=>ae []
 | .bl b::ws=>(ziW ws).map (b:: ·)
 |_=>none
theorem zpP{K:ai}{H:Hp}:∀{ws:List W}{vs:List V}{bs:List Bool},Reps K H ws vs→ziW ws=ae bs→vs=bs.map V.bl
 | [],_,_, .nil,e=>by have:=aG e;subst this;rfl
 |w::ws,_,_, .cons r rs,e=>by
  cases r with
  |bl b=>
   have e':(ziW ws).map (b:: ·)=ae _:=e;cases q:ziW ws with
   |none=>rw[q]at e';cases e'
   |some cs=>
    rw[q]at e';have:=aG e';subst this;rw[aD,zpP rs q]
  |_=>cases e
noncomputable def znq:WF:=λws S Q=>match ziW ws with
 |some bs=>Q (.bl (bs.all _root_.id)) S
 |none=>False
theorem znQ{K:ai}:zmx K (λxs H Q=>∃(p:Addr) (bs:List Bool),xs=[.ref p]∧SqL K H p (bs.map V.bl)∧Q (.bl (bs.all _root_.id)) H) znq:=λH a vs ws S Q QW ea na r hS h hQ=>by
 unfold znq at h;split at h
 ·rename_i bs e;have:=zpP r e;subst this;exact⟨a,bs,rfl, .of ea,hQ _ S _ H .refl (.bl _) hS h⟩
 ·exact h.elim
noncomputable def tyW:W→Sto→(String→Prop)→Prop
 | .non,_,Q=>Q "NoneType"
 | .bl _,_,Q=>Q "bool"
 | .int _,_,Q=>Q "int"
 | .str _,_,Q=>Q "str"
 | .tup _,_,Q=>Q "tuple"
 | .ref a,S,Q=>zcz S a λ_=>Q "list"
 | .scr _,_,_=>False
noncomputable def zbS (A B:String):Bool:=A == B || (A == "bool" &&B == "int")
noncomputable def zlb (T:String) (t:WE):WE:=λE σ S Q=>t E σ S λw S1=>tyW w S1 λA=>Q (.bl (zbS A T)) S1
theorem zdR{a:Expr}{ta:WE}{p2:ay}{T:Str}{T':String}(hg:Gl X "isinstance") (hm:X.mg "isinstance" =none) (hgT:Gl X T) (hmT:X.mg T=none) (hv:bW T=ae (.type T')) (ha:JE X a ta) (hn:T≠ "__name__") (hd:(T == ("__debug__" :Str))=false)
  (hk:∀A∈ ["NoneType", "bool", "int", "str", "tuple", "list"],bQ X.K (.type A) (.type T')=ae (zbS A T'))
  (he:ao [a, .Name T p2] X.env=(false,au a X.env)::ao [.Name T p2] X.env:=by rfl) (he2:ao [.Name T p2] X.env=(false,au (.Name T p2) X.env)::ao [] X.env:=by rfl) (hpl:(aP pos (ao [.Name T p2] X.env)).any (·.1)=false:=by rfl) :
  JE X (.Call (.Name "isinstance" p) [a, .Name T p2] [] pos) (zlb T' ta):=λE hE=>
 (zfJ zqY hg hm i_ (zcD (ha E hE) (zcD (zug (v:= .ty T') hgT hmT hv rfl hn hd) pa_nil he2) he) (by decide) (by decide) he hpl).mono λσ H Q ⟨σW,S,QW,hσ,hS,ht,hQ⟩=>⟨σW,S,_,hσ,hS,ht,λw S1 v H1 e1 r1 hS1 h1=>by
  have fin:∀{t:Value}(A:String),t= .type A→A∈ ["NoneType", "bool", "int", "str", "tuple", "list"]→TyOf X.K H1 v t→QW (.bl (zbS A T')) S1→ ∃x t c b,[v,V.ty T']=[x, .ty c]∧TyOf X.K H1 x t∧bQ X.K t (.type c)=ae b∧Q (.bl b) H1:=λA e hA ty q=>by
   subst e;exact⟨v,_,T',_,rfl,ty,hk A hA,hQ _ S1 _ H1 e1 (.bl _) hS1 q⟩
  cases r1 with
  |non=>exact fin _ rfl (by simp) .non h1
  |bl b=>exact fin _ rfl (by simp) (.bl b) h1
  |int i=>exact fin _ rfl (by simp) (.int i) h1
  |str z=>exact fin _ rfl (by simp) (.str z) h1
  |tup f hs=>exact fin _ rfl (by simp) (.tup f) h1
  |ref a=>
   obtain⟨ws,ea,h⟩:=zbj h1;obtain⟨vs,f,hs⟩:=hS1 a _ ea;exact fin _ rfl (by simp) (.lst f) h
  |scr f=>exact h1.elim⟩
end
abbrev WMf:=W→List W→Sto→WK→Prop
noncomputable def rvL:W→Sto→Prop
 | .ref a,S=>zcz S a λ_=>True
 |_,_=>False
noncomputable def rvS:W→Sto→Prop
 | .str _,_=>True
 |_,_=>False
noncomputable def wM (rv:W→Sto→Prop) (f:WMf) (to:WE) (t:WA):WE:=λE σ S Q=>to E σ S λw S1=>rv w S1∧t E σ S1 λws S2=>f w ws S2 Q
noncomputable def wML (rv:W→Sto→Prop) (f:WMf) (to:WE) (t:WL):WE:=λE σ S Q=>to E σ S λw S1=>rv w S1∧t E σ S1 λws S2=>f w ws S2 Q
def MtW (K:ai) (r:V→List V→Hp→VK→Prop) (f:WMf):Prop:=∀H x w vs ws S (Q:VK) (QW:WK),Rep K H w x→Reps K H ws vs→RepS K H S→f w ws S QW→Wish K H S QW Q→r x vs H Q
def MtL (K:ai) (r:V→List V→Hp→VK→Prop) (f:WMf):Prop:=∀H x w a vs ws S (Q:VK) (QW:WK),Rep K H w x→H a=ae (.lst vs)→S a=none→Reps K H ws vs→RepS K H S→f w ws S QW→Wish K H S QW Q→r x [.ref a] H Q
def zvZ (K:ai) (T:String) (rv:W→Sto→Prop):Prop:=∀H w v S,Rep K H w v→RepS K H S→rv w S→tyV K T v H
theorem zrZ{K:ai}:zvZ K "list" rvL:=λH w v S r hS h=>by
 cases r with
 |ref a=>
  obtain⟨ws,e,_⟩:=zbj h;obtain⟨vs,f,_⟩:=hS a _ e;exact .inl ⟨rfl,vs, .of f⟩
 |_=>exact h.elim
theorem zsz{K:ai}:zvZ K "str" rvS:=λH w v S r hS h=>by
 cases r with
 |str x=>exact rfl
 |_=>exact h.elim
section
variable {X:Cx}{o e:Expr}{es:List Expr}{to:WE}{t:WA}{tl:WL}{name:Str}{apos cpos:ay}{id T:String}{r:V→List V→Hp→VK→Prop}{f:WMf}{rv:W→Sto→Prop}
theorem zzy (pa:fj T) (slot:Slot T name id) (hty:d6 (.builtin id)=pure (.type "method_descriptor")) (hrv:zvZ X.K T rv) (hm:MtR X id r) (hw:MtW X.K r f) (ho:JE X o to) (ha:JA X (e::es) t)
  (hbase:cR o name X.env (au o X.env)=au o X.env:=by rfl)
  (hfew:((aP cpos (ao (e::es) X.env)).all (λx=> !x.1)&&(dZ cpos (dO [] X.env)).all (λx=>x.1.isSome)
   &&decide ((e::es).length+([]:List b8).length+(if([]:List b8).isEmpty then 0 else 1)<30))=true:=by rfl)
  (hline:(apos.endLine == cpos.line)=true:=by rfl) (hs:ao (e::es) X.env=(false,au e X.env)::ao es X.env:=by rfl) (hplain:(aP cpos (ao es X.env)).any (·.1)=false:=by rfl) :
  JE X (.Call (.Attribute o name apos) (e::es) [] cpos) (wM rv f to t):=λE hE=>
 (zvc pa slot hty hm (ho E hE) (ha E hE) hbase hfew hline hs hplain).mono λσ H Q ⟨σW,S,QW,hσ,hS,ht,hQ⟩=>⟨σW,S,_,hσ,hS,ht,λw S1 v H1 e1 r1 hS1 h1=>
  ⟨hrv H1 w v S1 r1 hS1 h1.1,σW,S1,_,hσ.ext e1,hS1,h1.2,λws S2 vs H2 e2 r2 hS2 h2=>hw H2 v w vs ws S2 Q QW (r1.ext e2) r2 hS2 h2 (hQ.from (e1.trans e2))⟩⟩
theorem zyP (pa:fj T) (slot:Slot T name id) (hty:d6 (.builtin id)=pure (.type "method_descriptor")) (hrv:zvZ X.K T rv) (hm:MtR X id r) (hw:MtL X.K r f) (ho:JE X o to) (ha:JL X e tl)
  (hbase:cR o name X.env (au o X.env)=au o X.env:=by rfl)
  (hfew:((aP cpos (ao [e] X.env)).all (λx=> !x.1)&&(dZ cpos (dO [] X.env)).all (λx=>x.1.isSome)
   &&decide ([e].length+([]:List b8).length+(if([]:List b8).isEmpty then 0 else 1)<30))=true:=by rfl)
  (hline:(apos.endLine == cpos.line)=true:=by rfl) (hs:ao [e] X.env=(false,au e X.env)::ao [] X.env:=by rfl) (hplain:(aP cpos (ao [] X.env)).any (·.1)=false:=by rfl) :
  JE X (.Call (.Attribute o name apos) [e] [] cpos) (wML rv f to tl):=λE hE=>
 (zvc pa slot hty hm (ho E hE) (zcD (ha E hE) pa_nil hs) hbase hfew hline hs hplain).mono λσ H Q ⟨σW,S,QW,hσ,hS,ht,hQ⟩=>⟨σW,S,_,hσ,hS,ht,λw S1 v H1 e1 r1 hS1 h1=>
  ⟨hrv H1 w v S1 r1 hS1 h1.1,σW,S1,_,hσ.ext e1,hS1,h1.2,λws S2 vs a H2 e2 fa ea na r2 hS2 h2=>hw H2 v w a vs ws S2 Q QW (r1.ext e2) ea na r2 hS2 h2 (hQ.from (e1.trans e2))⟩⟩
theorem zyr (pa:fj T) (slot:Slot T name id) (hty:d6 (.builtin id)=pure (.type "method_descriptor")) (hrv:zvZ X.K T rv) (hm:MtR X id r) (hw:MtW X.K r f) (ho:JE X o to)
  (hbase:cR o name X.env (au o X.env)=au o X.env:=by rfl) (hline:(apos.endLine == cpos.line)=true:=by rfl):JE X (.Call (.Attribute o name apos) [] [] cpos) (wM rv f to waNil):=λE hE=>
 (zxy pa slot hty hm (ho E hE) hbase hline).mono λσ H Q ⟨σW,S,QW,hσ,hS,ht,hQ⟩=>⟨σW,S,_,hσ,hS,ht,λw S1 v H1 e1 r1 hS1 h1=>
  ⟨hrv H1 w v S1 r1 hS1 h1.1,hw H1 v w [] [] S1 Q QW r1 .nil hS1 h1.2 (hQ.from e1)⟩⟩
noncomputable def zbV:WMf:=λw ws S Q=>match w with
 | .ref a=>zcz S a λxs=>match ws with
  | [y]=>xs.length<sizeLine∧Q .non (put S a (.lst (xs++[y])))
  |_=>False
 |_=>False
theorem zmI{K:ai}:MtW K zoF zbV:=λH x w vs ws S Q QW r rs hS h hQ=>by
 cases r with
 |ref a=>
  obtain⟨xs,ea,h⟩:=zbj h;obtain⟨us,f,hs⟩:=hS a _ ea;cases rs with
  |nil=>exact h.elim
  |cons r1 r2=>
   cases r2 with
   |cons _ _=>exact h.elim
   |nil=>
    obtain⟨e,hS'⟩:=hS.set_lst ea (hs.append (.one r1));exact⟨a,us,_,rfl,rfl,f,by rw[←hs.length];exact h.1,hQ _ _ _ _ e .non hS' h.2⟩
 |_=>exact h.elim
theorem zbv (ho:JE X o to) (ha:JA X (e::es) t)
  (hbase:cR o "append" X.env (au o X.env)=au o X.env:=by rfl)
  (hfew:((aP cpos (ao (e::es) X.env)).all (λx=> !x.1)&&(dZ cpos (dO [] X.env)).all (λx=>x.1.isSome)
   &&decide ((e::es).length+([]:List b8).length+(if([]:List b8).isEmpty then 0 else 1)<30))=true:=by rfl)
  (hline:(apos.endLine == cpos.line)=true:=by rfl) (hs:ao (e::es) X.env=(false,au e X.env)::ao es X.env:=by rfl) (hplain:(aP cpos (ao es X.env)).any (·.1)=false:=by rfl) :
  JE X (.Call (.Attribute o "append" apos) (e::es) [] cpos) (wM rvL zbV to t):=zzy jB PySem.F.slot_list_append PySem.F.type_list_append zrZ zir zmI ho ha hbase hfew hline hs hplain
noncomputable def zzY:WMf:=λw ws S Q=>match w with
 | .ref a=>zcz S a λxs=>match ws with
  | []=>match xs[xs.length - 1]? with
   |some y=>Q y (put S a (.lst xs.dropLast))
   |none=>False
  |_=>False
 |_=>False
noncomputable def zgc:WMf:=λw ws S Q=>match w with
 | .ref a=>zcz S a λxs=>match ws with
  | [.tup ys]=>xs.length+ys.length≤sizeLine∧Q .non (put S a (.lst (xs++ys)))
  | [.ref b]=>zcz S b λys=>xs.length+ys.length≤sizeLine∧Q .non (put S a (.lst (xs++ys)))
  |_=>False
 |_=>False
theorem zmz{K:ai}:MtW K (λx vs H Q=>znV x vs H Q∨zme K x vs H Q) zgc:=λH x w vs ws S Q QW r rs hS h hQ=>by
 cases r with
 |ref a=>
  obtain⟨xs,ea,h⟩:=zbj h;obtain⟨us,f,hs⟩:=hS a _ ea;cases rs with
  |nil=>exact h.elim
  |cons r1 r2=>
   cases r2 with
   |cons _ _=>cases r1<;>exact h.elim
   |nil=>
    cases r1 with
    |tup g ks=>
     obtain⟨e,hS'⟩:=hS.set_lst ea (hs.append ks);exact .inr ⟨a,_,us,_,rfl,rfl,f, .of g,by rw[←hs.length,←ks.length];exact h.1,hQ _ _ _ _ e .non hS' h.2⟩
    |ref b=>
     obtain⟨ys,eb,h⟩:=zbj h;obtain⟨zs,g,ks⟩:=hS b _ eb;obtain⟨e,hS'⟩:=hS.set_lst ea (hs.append ks);exact .inl ⟨a,b,us,zs,rfl,rfl,f,g,by rw[←hs.length,←ks.length];exact h.1,hQ _ _ _ _ e .non hS' h.2⟩
    |_=>exact h.elim
 |_=>exact h.elim
theorem znP (ho:JE X o to) (ha:JA X (e::es) t)
  (hbase:cR o "extend" X.env (au o X.env)=au o X.env:=by rfl)
  (hfew:((aP cpos (ao (e::es) X.env)).all (λx=> !x.1)&&(dZ cpos (dO [] X.env)).all (λx=>x.1.isSome)
   &&decide ((e::es).length+([]:List b8).length+(if([]:List b8).isEmpty then 0 else 1)<30))=true:=by rfl)
  (hline:(apos.endLine == cpos.line)=true:=by rfl) (hs:ao (e::es) X.env=(false,au e X.env)::ao es X.env:=by rfl) (hplain:(aP cpos (ao es X.env)).any (·.1)=false:=by rfl) :
  JE X (.Call (.Attribute o "extend" apos) (e::es) [] cpos) (wM rvL zgc to t):=zzy jB PySem.F.slot_list_extend PySem.F.type_list_extend zrZ (MtR.or znr zmG) zmz ho ha hbase hfew hline hs hplain
noncomputable def zre:WMf:=λw ws S Q=>match w with
 | .ref a=>zcz S a λxs=>xs.length+ws.length≤sizeLine∧Q .non (put S a (.lst (xs++ws)))
 |_=>False
noncomputable def zfs:List W→Option (List Str)
 | []=>ae []
 | .str b::ws=>(zfs ws).map (b:: ·)
 |_=>none
theorem zlg{K:ai}{H:Hp}:∀{ws:List W}{vs:List V}{bs:List Str},Reps K H ws vs→zfs ws=ae bs→vs=bs.map V.str
 | [],_,_, .nil,e=>by have:=aG e;subst this;rfl
 |w::ws,_,_, .cons r rs,e=>by
  cases r with
  |str b=>
   have e':(zfs ws).map (b:: ·)=ae _:=e;cases q:zfs ws with
   |none=>rw[q]at e';cases e'
   |some cs=>
    rw[q]at e';have:=aG e';subst this;rw[aD,zlg rs q]
  |_=>cases e
noncomputable def ziz:WMf:=λw ws S Q=>match w with
 | .str z=>match zfs ws with
  |some ys=>(ys.map (·.length)).sum+ys.length*z.length≤16777216∧Q (.str (cQ z ys)) S
  |none=>False
 |_=>False
theorem zqx{K:ai}:MtL K (zxr K) ziz:=λH x w a vs ws S Q QW r ea na rs hS h hQ=>by
 cases r with
 |str z=>
  unfold ziz at h;dsimp only at h;split at h
  ·rename_i ys e;have:=zlg rs e;subst this;exact⟨z,a,ys,rfl,rfl, .of ea,h.1,hQ _ S _ H .refl (.str _) hS h.2⟩
  ·exact h.elim
 |_=>exact h.elim
theorem zrv (ho:JE X o to) (ha:JL X e tl)
  (hbase:cR o "join" X.env (au o X.env)=au o X.env:=by rfl)
  (hfew:((aP cpos (ao [e] X.env)).all (λx=> !x.1)&&(dZ cpos (dO [] X.env)).all (λx=>x.1.isSome)
   &&decide ([e].length+([]:List b8).length+(if([]:List b8).isEmpty then 0 else 1)<30))=true:=by rfl)
  (hline:(apos.endLine == cpos.line)=true:=by rfl) (hs:ao [e] X.env=(false,au e X.env)::ao [] X.env:=by rfl) (hplain:(aP cpos (ao [] X.env)).any (·.1)=false:=by rfl) :
  JE X (.Call (.Attribute o "join" apos) [e] [] cpos) (wML rvS ziz to tl):=zyP jm PySem.F.slot_str_join PySem.F.type_str_join zsz ztc zqx ho ha hbase hfew hline hs hplain
noncomputable def zxm:WMf:=λw ws S Q=>match w with
 | .str z=>match ws with
  | [.str y]=>match cS z y 0 z.length 1 with
   |i::_=>Q (.int i) S
   | []=>False
  |_=>False
 |_=>False
end
noncomputable def zvY (i:Nat) (g:Int→Int→Int) (e:WE):WS:=λE D σ S=>match σ[i]? with
 |some (ae (.int a))=>e E σ S λw S1=>match w with
  | .int b=>D.nx (σ.set i (ae (.int (g a b)))) S1
  |_=>False
 |_=>False
section
variable {X:Cx}{e:Expr}{te:WE}{pos pos':ay}
theorem zsp{i:Nat}{x:Str}(hN:X.N.Nodup) (hi:X.N[i]? =ae x) (hx:Loc X.env.scope x) (he:JE X e te) (hf:X.fn x=true∨X.env.scope.names.lookup x=ae .local:=by first |exact .inl rfl |exact .inr rfl |assumption) :
  JS X (.AugAssign (.Name x pos') .Add e pos) (zvY i (λa b=>a+b) te):=λE hE=>
 (zvr hN hi hx (he E hE) zvi hf).mono λD σ H ⟨σW,S,DW,hσ,hS,ht,hD⟩=>by
  unfold zvY at ht;split at ht
  ·rename_i a ea;obtain⟨v,ev,rv⟩:=hσ.get ea;cases rv;refine⟨_,ev,σW,S,_,hσ,hS,ht,λw S1 v H1 e1 r1 hS1 h1=>?_⟩;cases r1 with
   |int b=>exact⟨a,b,rfl,rfl,hD.nx _ S1 _ H1 e1 ((hσ.ext e1).set (.int _) i) hS1 h1⟩
   |_=>exact h1.elim
  ·exact ht.elim
end
noncomputable def znJ (c:WT) (b:WS):WS:=λE D σ S=>∃I:Nat→WSt→Sto→Prop,(∃m,I m σ S)∧ ∀m σ S,I m σ S→c E σ S λk S1=>if k=true then
 b E { D with nx:=λσ' S'=>∃m' S'',m'<m∧Sub S'' S'∧I m' σ' S'',ct:=λσ' S'=>∃m' S'',m'<m∧Sub S'' S'∧I m' σ' S'',bk:=D.nx } σ S1 else D.nx σ S1
section
variable {X:Cx}{c:Expr}{body:List Stmt}{tc:WT}{tb:WS}{pos:ay}
theorem zmg (hc:JT X c tc) (hb:JSs X body tb):JS X (.While c body [] pos) (znJ tc tb):=λE hE=>
 (zrn hE.own (hc E hE) (hb E hE)).mono λD σ H ⟨σW,S,DW,hσ,hS,⟨J,⟨n,ht⟩,step⟩,hD⟩=>by
  refine⟨λm σ1 H1=>∃σW1 S1,Ext H S H1 S1∧RpSt X.K H1 σW1 σ1∧RepS X.K H1 S1∧J m σW1 S1,⟨n,σW,S, .refl,hσ,hS,ht⟩,?_⟩;rintro m σ1 H1 ⟨σW1,S1,e1,hσ1,hS1,h1⟩;refine⟨σW1,S1,_,hσ1,hS1,step m σW1 S1 h1,λk S2 H2 e2 hS2 h2=>?_⟩;cases k with
  |false=>exact hD.nx σW1 S2 σ1 H2 (e1.trans e2) (hσ1.ext e2) hS2 h2
  |true=>
   rw[if_pos rfl]at h2⊢;refine⟨λσ' H'=>∃m',m'<m∧ ∃σW1 S1,Ext H S H' S1∧RpSt X.K H' σW1 σ'∧RepS X.K H' S1∧J m' σW1 S1,λσ' H' n'=>n',σW1,S2,_,hσ1.ext e2,hS2,h2,?_⟩;have e12:=e1.trans e2;have go:Goes X.K H2 S2 (λσ' S'=>∃m' S'',m'<m∧Sub S'' S'∧J m' σ' S'') (λσ' H'=>∃m',m'<m∧ ∃σW1 S1,Ext H S H' S1∧RpSt X.K H' σW1 σ'∧RepS X.K H' S1∧J m' σW1 S1):=λσW3 S3 σ3 H3 e3 hσ3 hS3 ⟨m',S4,hm,sb,q⟩=>
    ⟨m',hm,σW3,S4,(e12.trans e3).trans (.drop sb),hσ3,hS3.sub sb,q⟩
   exact⟨go,hD.rt.from e12,hD.nx.from e12,go⟩
end
noncomputable def forL (g:WG) (b:WS) (E:WX) (D:WEnds) (G:Sto→Prop):List W→WSt→Sto→Prop
 | [],σ,S=>D.nx σ S
 |w::ws,σ,S=>g w σ S λσ1 S1=>b E { D with nx:=λσ' S'=>∃S'',Sub S'' S'∧G S''∧forL g b E D G ws σ' S'',ct:=λσ' S'=>∃S'',Sub S'' S'∧G S''∧forL g b E D G ws σ' S'',bk:=D.nx } σ1 S1
noncomputable def zfg (q:WI) (g:WG) (b:WS):WS:=λE D σ S=>q E σ S λws G S1=>forL g b E D G ws σ S1
section
variable {X:Cx}{tg iter:Expr}{body:List Stmt}{q:WI}{g:WG}{tb:WS}{pos:ay}
theorem zbl (hi:JI X tg iter q) (hg:JG X tg g) (hb:JSs X body tb) (hcl:X.calm=true:=by rfl)
  (hs:∀x,du iter X.env x=pure x:=by intro _;rfl):JS X (.For tg iter body [] pos) (zfg q g tb):=λE hE=>
 (zwr hE.own hcl (hi E hE) (hg E hE) (hb E hE) hs).mono λD σ H ⟨σW,S,DW,hσ,hS,ht,hD⟩=>by
  refine⟨σW,S,_,hσ,hS,ht,λws G S1 J H1 e1 hS1 hG1 hJ h1=>?_⟩;refine⟨λi m σ2 H2=>∃σW2 S2,Ext H1 S1 H2 S2∧RpSt X.K H2 σW2 σ2∧RepS X.K H2 S2∧G S2∧m=ws.length - i∧i≤ws.length∧forL g tb E DW G (ws.drop i) σW2 S2,
   ⟨ws.length,σW,S1, .refl,hσ.ext e1,hS1,hG1,rfl,aS _,h1⟩,?_⟩
  rintro i m σ2 H2 ⟨σW2,S2,e2,hσ2,hS2,hG2,rfl,hi2,h2⟩;obtain⟨ji,js⟩:=hJ i S2 H2 e2 hS2 hG2;by_cases hlt:i<ws.length
  ·obtain⟨jgo,jy⟩:=ji ws[i] (aU hlt);refine .inr ⟨jgo,λσ' H'=>∃σW2 S2,Ext H1 S1 H' S2∧RpSt X.K H' σW2 σ'∧RepS X.K H' S2∧G S2∧ws.length - (i+1)=ws.length - (i+1)∧i+1≤ws.length∧forL g tb E DW G (ws.drop (i+1)) σW2 S2,λσ' H' z=>⟨_,by omega,z⟩,λx H3 y3=>?_⟩
   obtain⟨e3,hS3,r3⟩:=jy x H3 y3;rw[fE hlt]at h2;refine⟨_,σW2,S2,_,r3,hσ2.ext e3,hS3,h2,λσW4 S4 σ4 H4 e4 hσ4 hS4 h4=>?_⟩;have e14:Ext H1 S1 H4 S4:=(e2.trans e3).trans e4;refine⟨σW4,S4,_,hσ4,hS4,h4,?_⟩;have go:Goes X.K H4 S4 (λσ' S'=>∃S'',Sub S'' S'∧G S''∧forL g tb E DW G (ws.drop (i+1)) σ' S'') (λσ' H'=>∃σW2 S2,Ext H1 S1 H' S2∧RpSt X.K H' σW2 σ'∧RepS X.K H' S2∧G S2∧ws.length - (i+1)=ws.length - (i+1)∧i+1≤ws.length∧forL g tb E DW G (ws.drop (i+1)) σW2 S2):=
    λσW5 S5 σ5 H5 e5 hσ5 hS5 ⟨S6,sb,hG6,q⟩=>⟨σW5,S6,(e14.trans e5).trans (.drop sb),hσ5,hS5.sub sb,hG6,rfl,hlt,q⟩
   exact⟨go,hD.rt.from (e1.trans e14),hD.nx.from (e1.trans e14),go⟩
  ·have hl:i=ws.length:=by omega
   rw[fD (fe hl.symm)]at h2;exact .inl ⟨js hl,hD.nx σW2 S2 σ2 H2 (e1.trans e2) hσ2 hS2 h2⟩
end
section
variable {X:Cx}{tg:Expr}
noncomputable def zzS (K:ai) (tl:TE):TI:=λσ H R=>tl σ H λx H1=>(∃a,x= .ref a∧(∃xs,SqL K H1 a xs)∧R (Itl K a) H1)∨(∃a,x= .ref a∧(∃xs,SqT K H1 a xs)∧R (Itt K a) H1)∨ ∃z,x= .str z∧R (Its z) H1
theorem zvT{l:Expr}{tl:TE}(hl:PE X l tl):PI X tg l (zzS X.K tl):=by
 intro pins s σ H R I h;refine thn (hl pins s σ H _ I h) λv s1 ⟨x,H1,I1,r1,q1⟩=>?_;have fp:∀b∈ [s1.heap.objs.size],zio X pins H1 b:=λb hb=>by
  have e:b=s1.heap.objs.size:=by simpa using hb
  subst e;exact I1.fpOk (aB _) (I1.hok.fresh (aB _))
 rcases q1 with⟨a,e,⟨xs,hq⟩,q⟩ |⟨a,e,⟨xs,hq⟩,q⟩ |⟨z,e,q⟩
 ·subst e;cases r1;obtain⟨its,rv,p,hz⟩:=I1.list hq;refine eQ p.isList ?_;exact⟨s1.heap.objs.size,[s1.heap.objs.size],_,_,H1,rfl,I1.kept (t':=s1.toks) λb o e=>aK _ e,zpe a _,⟨_,bt _ rfl,rfl,rfl⟩,fp,q⟩
 ·subst e;cases r1;obtain⟨its,rv,p,hz⟩:=I1.tuple hq;refine kO (show s1.heap.IsTuple a its.toArray from p) ?_;exact⟨s1.heap.objs.size,[s1.heap.objs.size],_,_,H1,rfl,I1.kept (t':=s1.toks) λb o e=>aK _ e,zmA a _,⟨_,bt _ rfl,rfl,rfl⟩,fp,q⟩
 ·subst e;obtain⟨t,rfl⟩:=r1;cases ha:z.cps.all (· <128)
  ·refine wpAny_pyIter_wide ha ?_;exact⟨s1.heap.objs.size,[s1.heap.objs.size],_,_,H1,rfl,I1.kept (t':=s1.toks) λb o e=>aK _ e,
    zlE _ z t "str_iterator" (by decide) (λA' hA=>Walks.strWide hA _ z t) (λ_ _ _ _ _ st h=>wpAny_pyIter_striter_wide st h),⟨_,bt _ rfl,rfl,rfl⟩,fp,q⟩
  ·refine wpAny_pyIter_ascii ha ?_;exact⟨s1.heap.objs.size,[s1.heap.objs.size],_,_,H1,rfl,I1.kept (t':=s1.toks) λb o e=>aK _ e,
    zlE _ z t "str_ascii_iterator" (by decide) (λA' hA=>Walks.strAscii hA _ z t) (λ_ _ _ _ _ st h=>wpAny_pyIter_striter_ascii st h),⟨_,bt _ rfl,rfl,rfl⟩,fp,q⟩
noncomputable def zks (z:Str):List W:=z.cps.toList.map λc=> .str ⟨#[c]⟩
noncomputable def wIv (t:WE):WI:=λE σ S Q=>t E σ S λw S1=>match w with
 | .tup ws=>Q ws (λ_=>True) S1
 | .ref a=>zcz S1 a λws=>Q ws (λS'=>S' a=ae (.lst ws)) S1
 | .scr ns=>Q (ns.map W.int) (λ_=>True) S1
 | .str z=>Q (zks z) (λ_=>True) S1
 |_=>False
theorem zps{K:ai}{a:Addr}{ws:List W}{G:Sto→Prop}{H0:Hp}{S0:Sto}(h:∀S H,Ext H0 S0 H S→RepS K H S→G S→ ∃vs,SqL K H a vs∧Reps K H ws vs):ItW K (Itl K a) ws G H0 S0:=λi S H e hS hG=>by
 obtain⟨vs,hq,r⟩:=h S H e hS hG;refine⟨λw ew=>?_,λhl=>⟨vs,hq,by rw[←r.length,hl];exact aB _⟩⟩
 obtain⟨v,ev,rv⟩:=r.get ew;refine⟨⟨vs,v,hq,ev⟩,λx H' ⟨e1,e2⟩=>?_⟩;subst e1;have e3:=e2 vs hq;rw[ev]at e3;cases e3;exact⟨.refl,hS,rv⟩
theorem zvd{K:ai}{a:Addr}{ws:List W}{vs:List V}{H0:Hp}{S0:Sto}(f:H0 a=ae (.tup vs)) (r:Reps K H0 ws vs):ItW K (Itt K a) ws (λ_=>True) H0 S0:=λi S H e hS hG=>by
 have f':=e.tup _ _ f;have r':=r.ext e;refine⟨λw ew=>?_,λhl=>⟨vs, .of f',by rw[←r'.length,hl];exact aB _⟩⟩
 obtain⟨v,ev,rv⟩:=r'.get ew;refine⟨⟨vs,v, .of f',ev⟩,λx H' ⟨e1,e2⟩=>?_⟩;subst e1;have e3:=e2 vs (.of f');rw[ev]at e3;cases e3;exact⟨.refl,hS,rv⟩
theorem zwh{K:ai}{z:Str}{H0:Hp}{S0:Sto}:ItW K (Its z) (zks z) (λ_=>True) H0 S0:=λi S H e hS hG=>by
 unfold zks;refine⟨λw ew=>?_,λhl=>?_⟩
 ·rw[aX]at ew;cases ec:z.cps.toList[i]? with
  |none=>rw[ec]at ew;cases ew
  |some c=>
   rw[ec]at ew;have ew':=aG ew;subst ew';have hi:i<z.cps.size:=by
    have:=(bL.mp ec).1;simpa using this
   refine⟨hi,λx H' ⟨e1,c',e2,e3⟩=>?_⟩;subst e1 e3;have:c'=c:=by
    have q:z.cps.toList[i]? =ae c':=by rw[←e2];simp
    rw[ec]at q;exact(aG q).symm
   subst this;exact⟨.refl,hS, .str _⟩
 ·show i=z.cps.size;simpa using hl
theorem zbi{l:Expr}{tl:WE}(hl:JE X l tl):JI X tg l (wIv tl):=λE hE=>
 (zvT (hl E hE)).mono λσ H R ⟨σW,S,QW,hσ,hS,ht,hR⟩=>⟨σW,S,_,hσ,hS,ht,λw S1 v H1 e1 r1 hS1 h1=>by
  cases r1 with
  |tup f hs=>exact .inr (.inl ⟨_,rfl,⟨_, .of f⟩,hR _ _ S1 _ H1 e1 hS1 trivial (zvd f hs) h1⟩)
  |ref a=>
   obtain⟨ws,ea,h⟩:=zbj h1;obtain⟨vs,f,hs⟩:=hS1 a _ ea;refine .inl ⟨_,rfl,⟨_, .of f⟩,hR _ _ S1 _ H1 e1 hS1 ea (zps λS2 H2 e2 hS2 g2=>?_) h⟩;obtain⟨vs2,f2,hs2⟩:=hS2 a _ g2;exact⟨vs2, .of f2,hs2⟩
  |scr f=>exact .inl ⟨_,rfl,⟨_,f.sq⟩,hR _ _ S1 _ H1 e1 hS1 trivial (zps λS2 H2 e2 hS2 g2=>⟨_,(e2.fz f).sq,Reps.ofInts _⟩) h1⟩
  |str z=>exact .inr (.inr ⟨z,rfl,hR _ _ S1 _ H1 e1 hS1 trivial zwh h1⟩)
  |_=>exact h1.elim⟩
noncomputable def zmL (lo:Int) (n:Nat):List W:=(aO n).map λ(i:Nat)=> .int (lo+(i:Int))
theorem zxA{K:ai}{lo:Int}{n:Nat}{H0:Hp}{S0:Sto}:ItW K (Itr lo n) (zmL lo n) (λ_=>True) H0 S0:=λi S H e hS hG=>by
 unfold zmL;refine⟨λw ew=>?_,λhl=>by
  have:i=n:=by simpa using hl
  exact fe this.symm⟩
 rw[aX]at ew;by_cases hi:i<n
 ·rw[fB hi]at ew;have ew':=aG ew;subst ew';refine⟨hi,λx H' ⟨e1,e2⟩=>?_⟩;subst e1 e2;exact⟨.refl,hS, .int _⟩
 ·rw[ib (by simpa using hi)]at ew;cases ew
noncomputable def zsy (t:WA):WI:=λE σ S Q=>t E σ S λws S1=>match ws with
 | [.int j]=>(-(2 ^ 62)≤j∧j<2 ^ 62)∧Q (zmL 0 j.toNat) (λ_=>True) S1
 |_=>False
theorem zef{a:Expr}{ta:WA}{p pos:ay}(hg:Gl X "range") (hm:X.mg "range" =none) (ha:JA X [a] ta) (hs:ao [a] X.env=[(false,au a X.env)]:=by rfl):JI X tg (.Call (.Name "range" p) [a] [] pos) (zsy ta):=λE hE=>
 (zoG hg hm (ha E hE) hs).mono λσ H R ⟨σW,S,QW,hσ,hS,ht,hR⟩=>⟨σW,S,_,hσ,hS,ht,λws S1 vs H1 e1 r1 hS1 h1=>by
  cases r1 with
  |nil=>exact h1.elim
  |cons r2 r3=>
   cases r3 with
   |cons _ _=>cases r2<;>exact h1.elim
   |nil=>
    cases r2 with
    |int j=>exact⟨j,rfl,h1.1.1,h1.1.2,hR _ _ S1 _ H1 e1 hS1 trivial zxA h1.2⟩
    |_=>exact h1.elim⟩
end
noncomputable def zhx:WT:=λ_ _ S Q=>Q true S
def JTs (X:Cx) (ifs:List Expr) (t:WT):Prop:=∀E,Hook X E→PTs X ifs (zuI X.K (t E))
theorem zbK{X:Cx}:JTs X [] zhx:=λE hE pins s σ H Q I ⟨σW,S,QW,hσ,hS,ht,hQ⟩=>ztN pins s σ H Q I (hQ true S H .refl hS ht)
theorem zka{X:Cx}{c:Expr}{t:WT}(h:JT X c t):JTs X [c] t:=λE hE=>zsX (h E hE)
noncomputable def zes (g:WG) (c:WT) (e:WE) (E:WX) (G:Sto→Prop) (Q:List W→Sto→Prop):List W→List W→WSt→Sto→Prop
 | [],acc,_,S=>Q acc S
 |w::ws,acc,σ,S=>g w σ S λσ1 S1=>c E σ1 S1 λb S2=>if b=true then e E σ1 S2 λy S3=>acc.length<sizeLine∧ ∃S4,Sub S4 S3∧G S4∧zes g c e E G Q ws (acc++[y]) σ1 S4
   else ∃S4,Sub S4 S2∧G S4∧zes g c e E G Q ws acc σ1 S4
noncomputable abbrev noE:WX:=λ_ _ _=>False
theorem zkb{X:Cx}(h:X.xe=λ_ _=>False):Hook X noE:=⟨by rw[h];exact jO,λ_ _ _ _ _ _ _ _ _ _ _ _ _ _ _ _ _ _ _ _ z=>z.elim,λ_ _ _ _ _ _ _ _ _ _ _ _ _ _ _ _ z=>z.elim⟩
theorem PS.nox{X:Cx}{st:Stmt}{t:TS}(h:PS X.nox st t):PS X st t:=λpins s σ H D I hw=>
 b3 (h pins s σ H D (I.wish _) hw) (λ_ _ q=>q.unwish) λ_ _ z=>cr z
noncomputable def zdd (k:Nat) (fr:List Nat) (q:WI) (g:WG) (c:WT) (e:WE):WL:=λ_ σ S Q=>q noE σ S λws G S1=>zes g c e noE G Q ws [] (aJ k none++fr.map λj=>(σ[j]?).join) S1
theorem zmU{K:ai}{H:Hp}{σW:WSt}{σ:St}{k:Nat}{fr:List Nat}(h:RpSt K H σW σ):RpSt K H (aJ k none++fr.map λj=>(σW[j]?).join) (zlm σ k fr):=by
 have one:∀j:Nat,RpO K H (σW[j]?).join (σ[j]?).join:=λj=>by
  cases e:σW[j]? with
  |none=>exact trivial
  |some w=>
   cases w with
   |none=>exact trivial
   |some w=>
    obtain⟨v,ev,r⟩:=h.get e;rw[ev];exact r
 have go:∀fr:List Nat,RpSt K H (fr.map λj=>(σW[j]?).join) (zgC σ fr):=by
  intro fr
  induction fr with
  |nil=>exact .nil
  |cons j fr ih=>exact .cons (one j) ih
 unfold zlm
 induction k with
 |zero=>exact go fr
 |succ k ih=>exact .cons trivial ih
section
variable {X:Cx}{scope:Scope}{N:List Str}{k:Nat}{fr:List Nat}{tg iter elt:Expr}{ifs:List Expr}{pos:ay}{q:WI}{g:WG}{c:WT}{e:WE}
theorem Ext.loose{H H':Hp}(a:∀b xs,H b=ae (.tup xs)→H' b=ae (.tup xs)) (b:∀c o u,H c=ae (.frz o u)→H' c=ae (.frz o u)) (d:∀b o,H b=ae o→ ∃o',H' b=ae o'):Ext H (λ_=>ae (.lst [])) H' (λ_=>ae (.lst [])):=
 ⟨a,b,(λ_ _ _ g=>nomatch g),d⟩
theorem Ext.over{H H':Hp}{S S':Sto}{l:Addr}{o:HO}(e:Ext H S H' S') (h:H l=none):Ext H S (upd H' l o) S':=
 ⟨λb xs q=>by rw[zaB (zas q h)];exact e.tup b xs q,λb ob u q=>by rw[zaB (zas q h)];exact e.frz b ob u q,λb ob q z=>by rw[zaB (zas q h)];exact e.fr b ob q z,λb ob q=>by rw[zaB (zas q h)];exact e.all b ob q⟩
theorem zjV (hg:∀s₀ H₀ fp pn,JG (zbs X scope N s₀ H₀ fp pn) tg g) (hc:∀s₀ H₀ fp pn,JTs (zbs X scope N s₀ H₀ fp pn) ifs c) (he:∀s₀ H₀ fp pn,JE (zbs X scope N s₀ H₀ fp pn) elt e)
  {E:WX}(σ:St) (H:Hp) (Q:VK):zve X.K (zdd k fr q g c e E) σ H Q→zqH X scope N k fr tg ifs elt (zvB X.K (q noE)) σ H Q:=λ⟨σW,S0,QW,hσ,hS,ht,hQ⟩=>by
  refine⟨σW,S0,_,hσ,hS,ht,λws G S1 J H1 e1 hS1 hG1 hJ h1 l hl=>?_⟩;have upl:∀{H':Hp}{vs us:List V}{S':Sto},H' l=ae (.lst vs)→S' l=none→RepS X.K H' S'→Ext H' (λ_=>ae (.lst [])) (upd H' l (.lst us)) (λ_=>ae (.lst []))∧RepS X.K (upd H' l (.lst us)) S':=λ{H' vs us S'} f n hS'=>by
   have x:Ext H' (λ_=>ae (.lst [])) (upd H' l (.lst us)) (λ_=>ae (.lst [])):= .loose (λb xs q=>by rw[zaB (zqe q f λz=>nomatch z)];exact q) (λb o u q=>by rw[zaB (zqe q f λz=>nomatch z)];exact q) λb o q=>by
    by_cases hb:b=l
    ·subst hb;exact⟨_,zaA⟩
    ·exact⟨o,by rw[zaB hb];exact q⟩
   refine⟨x,λa o q=>(hS' a o q).keep x λu z=>?_⟩;have ha:a≠l:=by rintro rfl;rw[n]at q;cases q
   rw[zaB ha];exact z
  refine⟨λi m σ' H'=>∃σW' S' acc vs,Ext H1 S1 H' S'∧H' l=ae (.lst vs)∧S' l=none∧Reps X.K H' acc vs∧RpSt X.K H' σW' σ'∧RepS X.K H' S'∧G S'∧m=ws.length - i∧i≤ws.length∧zes g c e noE G QW (ws.drop i) acc σW' S',
   ⟨ws.length,_,S1,[],[], .new hl,zaA,hS1.free hl, .nil,zmU (hσ.ext (e1.trans (.new (S:=S1) hl))),hS1.new hl,hG1,rfl,aS _,h1⟩,?_⟩
  rintro i m σ' H' ⟨σW',S',acc,vs,e2,f2,n2,ra,hσ2,hS2,hG2,rfl,hi2,h2⟩;obtain⟨ji,js⟩:=hJ i S' H' e2 hS2 hG2;by_cases hlt:i<ws.length
  ·obtain⟨jgo,jy⟩:=ji ws[i] (aU hlt);refine .inr ⟨jgo,λσ'' H''=>∃σW' S' acc vs,Ext H1 S1 H'' S'∧H'' l=ae (.lst vs)∧S' l=none∧Reps X.K H'' acc vs∧RpSt X.K H'' σW' σ''∧RepS X.K H'' S'∧G S'∧ws.length - (i+1)=ws.length - (i+1)∧i+1≤ws.length∧zes g c e noE G QW (ws.drop (i+1)) acc σW' S',
    λσ'' H'' z=>⟨_,by omega,z⟩,λx H3 y3=>?_⟩
   obtain⟨e3,hS3,r3⟩:=jy x H3 y3;rw[fE hlt]at h2;intro s₀ H₀ fp pn;have hk:Hook (zbs X scope N s₀ H₀ fp pn) noE:=zkb rfl;refine⟨_,_,_,hg s₀ H₀ fp pn noE hk,hc s₀ H₀ fp pn noE hk,he s₀ H₀ fp pn noE hk,?_⟩;refine⟨_,σW',S',_,r3,hσ2.ext e3,hS3,h2,λσW4 S4 σ4 H4 e4 hσ4 hS4 h4=>?_⟩;refine⟨σW4,S4,_,hσ4,hS4,h4,λb S5 H5 e5 hS5 h5=>?_⟩;have e15:Ext H' S' H5 S5:=(e3.trans e4).trans e5;have hσ5:=hσ4.ext e5;obtain⟨f5,n5⟩:=e15.fr l _ f2 n2;cases b with
   |false=>
    have h5:∃S4,Sub S4 S5∧G S4∧zes g c e noE G QW (ws.drop (i+1)) acc σW4 S4:=h5;refine zAh ?_;obtain⟨S6,sb,hG6,h6⟩:=h5;have e16:=e15.trans (.drop sb);exact⟨σW4,S6,acc,vs,e2.trans e16,f5,(e16.fr l _ f2 n2).2,ra.ext e15,hσ5,hS5.sub sb,hG6,rfl,hlt,h6⟩
   |true=>
    rw[if_pos rfl]at h5;refine zzQ ?_;refine⟨σW4,S5,_,hσ5,hS5,h5,λy S6 v H6 e6 r6 hS6 h6=>?_⟩;have e17:=e15.trans e6;obtain⟨f6,n6⟩:=e17.fr l _ f2 n2;obtain⟨hz,S7,sb,hG7,h7⟩:=h6;obtain⟨x6,hS6'⟩:=upl (us:=vs++[v]) f6 n6 hS6;have ra6:Reps X.K H6 (acc++[y]) (vs++[v]):=(ra.ext e17).append (.one r6);refine⟨vs,f6,by rw[←ra.length];exact hz,σW4,S7,acc++[y],vs++[v],?_,zaA,((e17.trans (.drop sb)).fr l _ f2 n2).2,ra6.ext x6,(hσ5.ext e6).ext x6,hS6'.sub sb,hG7,rfl,hlt,h7⟩
    exact(e2.trans (e17.trans (.drop sb))).over hl
  ·have hll:i=ws.length:=by omega
   rw[fD (fe hll.symm)]at h2;exact .inl ⟨js hll,hQ acc S' vs l H' (e1.trans e2) (e1.free hl) f2 n2 ra hS2 h2⟩
theorem zch (S:CompSc X.nox scope N k fr) (hi:JI X.nox tg iter q) (hg:∀s₀ H₀ fp pn,JG (zbs X.nox scope N s₀ H₀ fp pn) tg g) (hc:∀s₀ H₀ fp pn,JTs (zbs X.nox scope N s₀ H₀ fp pn) ifs c) (he:∀s₀ H₀ fp pn,JE (zbs X.nox scope N s₀ H₀ fp pn) elt e)
  (hs:∀x,du iter X.env x=pure x:=by intro _;rfl) (hcl:X.calm=true:=by rfl):JL X (.ListComp elt [⟨tg,iter,ifs,0⟩] scope pos) (zdd k fr q g c e):=λE hE=>
 (PE.nox (zuD rfl hcl S (hi noE (zkb rfl)) hs)).mono (zjV (X:=X.nox) hg hc he)
theorem zge{i:Nat}{x:Str}{pos' spos:ay}(hN:X.N.Nodup) (hxi:X.N[i]? =ae x) (hxl:Loc X.env.scope x) (S:CompSc X.nox scope N k fr) (hi:JI X.nox tg iter q) (hg:∀s₀ H₀ fp pn,JG (zbs X.nox scope N s₀ H₀ fp pn) tg g) (hc:∀s₀ H₀ fp pn,JTs (zbs X.nox scope N s₀ H₀ fp pn) ifs c) (he:∀s₀ H₀ fp pn,JE (zbs X.nox scope N s₀ H₀ fp pn) elt e)
  (hw:dF (.ListComp elt [⟨tg,iter,ifs,0⟩] scope pos) (ae (.Name x pos')) spos.line X.env=pure true:=by rfl) (hf:X.fn x=true∨X.env.scope.names.lookup x=ae .local:=by first |exact .inl rfl |exact .inr rfl |assumption)
  (hs:∀x,du iter X.env x=pure x:=by intro _;rfl) (hcl:X.calm=true:=by rfl):JS X (.Assign [.Name x pos'] (.ListComp elt [⟨tg,iter,ifs,0⟩] scope pos) spos) (wAsg (zby (zdd k fr q g c e)) (wGN i)):=λE hE=>
 (PS.nox (zsT (X:=X.nox) rfl hcl S (hi noE (zkb rfl)) hN hxi hxl hw hf hs)).mono λD σ H ⟨σW,S0,DW,hσ,hS,ht,hD⟩=>
  zjV (X:=X.nox) (E:=E) hg hc he σ H _ ⟨σW,S0,_,hσ,hS,ht,λws S1 vs a H1 e1 fa ea na r1 hS1 h1=>by
   have ex:Ext H S0 H1 (put S1 a (.lst ws)):=⟨e1.tup,e1.frz,λb o q g=>by
    have hb:b≠a:=by rintro rfl;rw[fa]at q;cases q
    rw[zaN hb];exact e1.fr b o q g,e1.all⟩
   refine hD.nx _ (put S1 a (.lst ws)) _ H1 ex ((hσ.ext ex).set (.ref a) i) (λb o q=>?_) (h1 a na);by_cases hb:b=a
   ·subst hb;rw[zag]at q;cases q;exact⟨vs,ea,r1⟩
   ·rw[zaN hb]at q;exact hS1 b o q⟩
end
def SeqIt (k:Bool) (h:Heap) (it a:Addr) (i:Nat):Prop:=if k=true then h.IsListIter it a i else h.IsTupleIter it a i
def SeqIs (k:Bool) (h:Heap) (a:Addr) (its:Array Value):Prop:=if k=true then h.IsList a its else h.IsTuple a its
section
variable {k:Bool}{h h':Heap}{it a:Addr}{i:Nat}{its:Array Value}
theorem SeqIt.at (x:SeqIt k h it a i) (e:∀o,h.get? it=ae o→h'.get? it=ae o):SeqIt k h' it a i:=by
 cases k with
 |true=>exact Heap.IsListIter.at (show h.IsListIter it a i from x) e
 |false=>exact Heap.IsTupleIter.at (show h.IsTupleIter it a i from x) e
theorem SeqIs.at (x:SeqIs k h a its) (e:∀o,h.get? a=ae o→h'.get? a=ae o):SeqIs k h' a its:=by
 cases k with
 |true=>exact Heap.IsList.at (show h.IsList a its from x) e
 |false=>obtain⟨o,ho,r⟩:=(show h.IsTuple a its from x);exact⟨o,e o ho,r⟩
theorem SeqIt.ob (x:SeqIt k h it a i):∃o vs,h.get? it=ae o∧o.data= .fields vs:=by
 cases k with
 |true=>obtain⟨o,ho,_,hd⟩:=(show h.IsListIter it a i from x);exact⟨o,_,ho,hd⟩
 |false=>obtain⟨o,ho,_,hd⟩:=(show h.IsTupleIter it a i from x);exact⟨o,_,ho,hd⟩
end
section
variable {prog:aF}{w:ax}{A:aM}{E:Value→ah→Prop}{s:ah}
theorem zfV{it t:Addr}{i:Nat}{its:Array Value}{x:Value}{Q:Value→ah→Prop}(hit:s.heap.IsTupleIter it t i) (ht:s.heap.IsTuple t its) (hx:its[i]? =ae x)
  (hQ:∀g,g.IsTupleIter it t (i+1)→cj it s.heap g→Q x { s with heap:=g }):am (ap prog w) A (cO (.ref it)) Q E s:=by
 obtain⟨o,ho,hc,hd⟩:=id hit;obtain⟨ot,hot,_,nt,hdt⟩:=ht;unfold cO;refine ak (df (name:=bu "__next__") hit.typeIs fN (c7 fN hit.typeIs i6 ?_ (jk _)));show am _ _ (field (.ref it) 0 >>= _) _ _ s;refine ak (bB ho hd (x:= .ref t) rfl ?_);show am _ _ (if(br t == cz)=true then _ else _) _ _ s;rw[if_neg (show ¬((br t == cz)=true) from cX)];show am _ _ (field (.ref it) 1 >>= _) _ _ s;refine ak (bB ho hd (x:= .int i 0) rfl ?_);show am _ _ (seqItems? (.ref t) >>= _) _ _ s;refine ak (cV hot hdt ?_);simp only[bK,hx];refine ak (jT ho hd (by simp) (aE ⟨x,rfl,aE (hQ _ ?_ (kY ..))⟩));exact⟨_,Heap.get?_update_self _ ho (Obj.isFreed_of_fields (jR hd _)),(Obj.cls_mapFields ..).trans hc,by rw[jR hd];simp [cm]⟩
theorem zgS{it t:Addr}{i:Nat}{its:Array Value}{Q:Value→ah→Prop}(hh:A.handled=none) (hit:s.heap.IsTupleIter it t i) (ht:s.heap.IsTuple t its) (hx:its[i]? =none)
  (hE:∀g e,iu it s.heap g→(∃o,g.get? e=ae o∧o.cls= .type "StopIteration")→E (.ref e) { s with heap:=g }):am (ap prog w) A (cO (.ref it)) Q E s:=by
 obtain⟨o,ho,hc,hd⟩:=id hit;obtain⟨ot,hot,_,nt,hdt⟩:=ht;unfold cO;refine ak (df (name:=bu "__next__") hit.typeIs fN (c7 fN hit.typeIs i6 ?_ (jk _)));show am _ _ (field (.ref it) 0 >>= _) _ _ s;refine ak (bB ho hd (x:= .ref t) rfl ?_);show am _ _ (if(br t == cz)=true then _ else _) _ _ s;rw[if_neg (show ¬((br t == cz)=true) from cX)];show am _ _ (field (.ref it) 1 >>= _) _ _ s;refine ak (bB ho hd (x:= .int i 0) rfl ?_);show am _ _ (seqItems? (.ref t) >>= _) _ _ s;refine ak (cV hot hdt ?_);simp only[bK,hx];refine ak (dJ (ak (jT ho hd (by simp) ?_)));show am _ _ (newExc (.type "StopIteration") [] >>= _) _ _ _;refine ak ?_;simp only[newExc,newTuple];refine ak (eB ?_ (by size_fits));refine ak (m:=kq _ _) (wpAny_of_eq (a:=cz) (by first |rfl | (simp only[kq];rfl)) ?_);refine eB ?_ (by size_fits);simp only[raiseNew];refine ak (wpAny_handled ?_)
 first |rw[show A.in1.handled=none from hh] |rw[hh]
 refine ak (aE (wpAny_throw ?_));exact hE _ _ (((kY ..).extBut.push _).push _) ⟨_,bt _ rfl,rfl⟩
theorem zeT{k:Bool}{it t:Addr}{i:Nat}{its:Array Value}{x:Value}{Q:Value→ah→Prop}(hit:SeqIt k s.heap it t i) (ht:SeqIs k s.heap t its) (hx:its[i]? =ae x)
  (hQ:∀g,SeqIt k g it t (i+1)→cj it s.heap g→Q x { s with heap:=g }):am (ap prog w) A (cO (.ref it)) Q E s:=by
 cases k with
 |true=>exact wpAny_nextOf_list_item hit ht hx hQ
 |false=>exact zfV hit ht hx hQ
theorem zhF{k:Bool}{it t:Addr}{i:Nat}{its:Array Value}{Q:Value→ah→Prop}(hh:A.handled=none) (hit:SeqIt k s.heap it t i) (ht:SeqIs k s.heap t its) (hx:its[i]? =none)
  (hE:∀g e,iu it s.heap g→(∃o,g.get? e=ae o∧o.cls= .type "StopIteration")→E (.ref e) { s with heap:=g }):am (ap prog w) A (cO (.ref it)) Q E s:=by
 cases k with
 |true=>exact wpAny_nextOf_list_end hh hit ht hx hE
 |false=>exact zgS hh hit ht hx hE
theorem znx{k:Bool}{e it l:Addr}{i:Nat}{its:Array Value}{x old:Value}{Q:Option Value→ah→Prop}
  (he:cF s.heap e it i old) (hit:SeqIt k s.heap it l i) (hl:SeqIs k s.heap l its) (hx:its[i]? =ae x) (hne:e≠it)
  (hQ:∀g,iP g e it ((i:Int)+1) x s.heap.objs.size→SeqIt k g it l (i+1)→g.get? s.heap.objs.size=ae { cls:= .type "tuple",data:= .seq #[.int i s.toks,x] }→g.objs.size=s.heap.objs.size+1→
   (∀b o,b≠e→b≠it→s.heap.get? b=ae o→g.get? b=ae o)→Q (ae (.ref s.heap.objs.size)) { s with heap:=g,toks:=s.toks+1 }):am (ap prog w) A (bX (.ref e)) Q E s:=by
 have hT:s.TypeIs (.ref e) "enumerate" :=⟨_,he,rfl⟩;unfold bX;refine ak (gc (df (name:=bu "__next__") hT gq (c7 gq hT jn ?_ (kD _))));obtain⟨hp,g,d,tk,os⟩:=s;show am _ _ (field (.ref e) 2 >>= _) _ _ _;refine ak (bB he rfl (x:= .ref it) rfl ?_);refine ak (zeT hit hl hx λg1 hit1 hs1=>?_);replace hs1:cj it hp g1:=hs1;have he1:cF g1 e it i old:=(hs1.2 e hne).trans he;show am _ _ (field (.ref e) 3 >>= _) _ _ ⟨g1,g,d,tk,os⟩;refine ak (bB he1 rfl (x:=cm i) rfl ?_);show am _ _ (field (.ref e) 4 >>= _) _ _ ⟨g1,g,d,tk,os⟩;refine ak (bB he1 rfl (x:= .none) rfl ?_);show am _ _ (mkInt i >>= _) _ _ ⟨g1,g,d,tk,os⟩;refine ak (wpAny_mkInt ?_);show am _ _ (setField (.ref e) 3 (cm ((i:Int)+1)) >>= _) _ _ ⟨g1,g,d,tk+1,os⟩;refine ak (cA he1 (by simp) λg2 he2 hs2=>?_);replace hs2:cj e g1 g2:=hs2;replace he2:cF g2 e it ((i:Int)+1) old:=he2;show am _ _ (setField (.ref e) 4 .none >>= _) _ _ ⟨g2,g,d,tk+1,os⟩;refine ak (cA he2 (by simp) λg3 he3 hs3=>?_);replace hs3:cj e g2 g3:=hs3;replace he3:cF g3 e it ((i:Int)+1) old:=he3;show am _ _ (newTuple [.int i tk,x] >>= _) _ _ ⟨g3,g,d,tk+1,os⟩;refine ak (i5 ?_);have he4:cF (g3.push { cls:= .type "tuple",data:= .seq #[.int i tk,x] }) e it ((i:Int)+1) old:=aK _ he3;generalize hg4:g3.push { cls:= .type "tuple",data:= .seq #[.int i tk,x] }=g4 at he4;have hsz:g3.objs.size=hp.objs.size:=by rw[hs3.1,hs2.1,hs1.1]
 have hel:e<hp.objs.size:=aI he;have ht4:g4.get? hp.objs.size=ae { cls:= .type "tuple",data:= .seq #[.int i tk,x] }:=by rw[←hg4,←hsz];exact bt _ rfl
 have hz4:g4.objs.size=hp.objs.size+1:=by rw[←hg4,cJ,hsz]
 have hk4:∀b o,b≠e→b≠it→hp.get? b=ae o→g4.get? b=ae o:=λb o hbe hbi hb=>by rw[←hg4];exact aK _ (hs3.extBut b o hbe (hs2.extBut b o hbe (hs1.extBut b o hbi hb)))
 have hit4:SeqIt k g4 it l (i+1):=by rw[←hg4];exact hit1.at λo ho=>aK _ (hs3.extBut it o (bg hne) (hs2.extBut it o (bg hne) ho))
 show am _ _ (dY (.ref e) >>= _) _ _ ⟨g4,g,d,tk+1,os⟩;rw[hsz];clear hg4 he3 hs3 he2 hs2 he1 hs1 hit1 hsz g3 g2 g1;refine ak ?_;unfold dY;refine ak (bB he4 rfl (x:= .none) rfl (aE ?_));simp only[if_true];refine ak (dJ ?_);refine ak (bB he4 rfl (x:=old) rfl ?_);refine ak (cA he4 (by simp) λg5 he5 hs5=>?_);replace hs5:cj e g4 g5:=hs5;replace he5:cF g5 e it ((i:Int)+1) x:=he5;show am _ _ (fH (.ref e) (.ref hp.objs.size) >>= _) _ _ ⟨g5,g,d,tk+1,os⟩;refine ak ?_;unfold fH;refine ak (cA he5 (by simp) λg6 he6 hs6=>?_);replace hs6:cj e g5 g6:=hs6;replace he6:iP g6 e it ((i:Int)+1) x hp.objs.size:=he6;refine cA he6 (by simp) λg7 he7 hs7=>?_;replace hs7:cj e g6 g7:=hs7;replace he7:iP g7 e it ((i:Int)+1) x hp.objs.size:=he7;refine ak (gz (aE ⟨_,rfl,aE (hQ g7 he7 ?_ ?_ ?_ ?_)⟩))
 ·exact hit4.at λo ho=>hs7.extBut it o (bg hne) (hs6.extBut it o (bg hne) (hs5.extBut it o (bg hne) ho))
 ·exact hs7.extBut _ _ (cM hel) (hs6.extBut _ _ (cM hel) (hs5.extBut _ _ (cM hel) ht4))
 ·rw[hs7.1,hs6.1,hs5.1,hz4]
 ·exact λb o hbe hbi hb=>hs7.extBut b o hbe (hs6.extBut b o hbe (hs5.extBut b o hbe (hk4 b o hbe hbi hb)))
theorem zqy{k:Bool}{e it l:Addr}{i:Nat}{its:Array Value}{old:Value}{Q:Option Value→ah→Prop}(hh:A.handled=none)
  (he:cF s.heap e it i old) (hit:SeqIt k s.heap it l i) (hl:SeqIs k s.heap l its) (hx:its[i]? =none) (hQ:∀g,iu it s.heap g→Q none { s with heap:=g }):am (ap prog w) A (bX (.ref e)) Q E s:=by
 have hT:s.TypeIs (.ref e) "enumerate" :=⟨_,he,rfl⟩;unfold bX;refine ak (gc (df (name:=bu "__next__") hT gq (c7 gq hT jn ?_ (kD _))));show am _ _ (field (.ref e) 2 >>= _) _ _ _;refine ak (bB he rfl (x:= .ref it) rfl ?_);refine ak (zhF hh hit hl hx λg x he' hx'=>?_);obtain⟨o,ho,hc⟩:=hx';refine ak (ju (T:= "StopIteration") (b:=true) ⟨o,ho,hc⟩ km ?_);exact aE (hQ _ he')
end
noncomputable def zdY (k:Bool) (a:Addr):Obj:={ cls:= .type (if k=true then "list_iterator" else "tuple_iterator"),data:= .fields #[.ref a, .int 0 0] }
theorem zhY{k:Bool}{h:Heap}{it a:Addr}(e:h.get? it=ae (zdY k a)):SeqIt k h it a 0:=by
 cases k with
 |true=>exact⟨_,e,rfl,rfl⟩
 |false=>exact⟨_,e,rfl,rfl⟩
theorem zfj{k:Bool}{a:Addr}:(zdY k a).isFreed=false:=by cases k<;>rfl
section
variable {prog:aF}{w:ax}{A:aM}{E:Value→ah→Prop}{s:ah}
theorem zhH{k:Bool}{a:Addr}{its:Array Value}{Q:Value→ah→Prop}(ha:SeqIs k s.heap a its) (hQ:Q (.ref s.heap.objs.size) { s with heap:=s.heap.push (zdY k a) }):am (ap prog w) A (dn (.ref a)) Q E s:=by
 cases k with
 |true=>exact eQ ha hQ
 |false=>exact kO ha hQ
end
theorem SeqIs.push{k:Bool}{h:Heap}{a:Addr}{its:Array Value}(x:SeqIs k h a its) (o:Obj):SeqIs k (h.push o) a its:=x.at λ_ e=>aK _ e
theorem zmy{k:Bool}(l:Addr) (its:Array Value) :
  PySem.Meets (bD.«enumerate.__new__» ⟨[.type "enumerate", .ref l],[]⟩) (λ_ R s=>SeqIs k s.heap l its∧
   R (.ok (.ret (.ref (s.heap.push (zdY k l)).objs.size))) { s with heap:=(s.heap.push (zdY k l)).push { cls:= .type "enumerate",data:= .fields #[.none, .bool false, .ref s.heap.objs.size,cm 0, .none, .none] } }):=
 .of_wp λprog w A R s h=>by
  obtain⟨hp,g,d,tk,os⟩:=s;obtain⟨hl,h⟩:=h;have hsub:=sub_enumerate;have hL:SeqIs k (ah.heap ⟨hp,g,d,tk,os⟩) l its:=hl;have fin:∀{A:aM}{E:Value→ah→Prop}{Q:Value→ah→Prop},Q (.ref hp.objs.size) ⟨hp.push (zdY k l),g,d,tk,os⟩→am (ap prog w) A (dn (.ref l)) Q E ⟨hp,g,d,tk,os⟩:=λq=>zhH hL q
  wp_walk
  refine wpAny_stack_any λst=>aE ?_;split
  ·rename_i c _ _ _ _ _;cases(c == gm "enumerate")
   ·wp_walk using fin
    exact⟨_,rfl,h⟩
   ·wp_walk using fin
    exact⟨_,rfl,h⟩
  ·wp_walk using fin
   exact⟨_,rfl,h⟩
section
variable {prog:aF}{w:ax}{A:aM}{E:Value→ah→Prop}{s:ah}
theorem zpB{k:Bool}{l:Addr}{its:Array Value}{Q:Value→ah→Prop}(hL:SeqIs k s.heap l its)
  (h:∀g,cF g (s.heap.objs.size+1) s.heap.objs.size 0 .none→SeqIt k g s.heap.objs.size l 0→g.objs.size=s.heap.objs.size+2→(∀b o,s.heap.get? b=ae o→g.get? b=ae o)→Q (.ref (s.heap.objs.size+1)) { s with heap:=g }) :
  am (ap prog w) A (call (.type "enumerate") [.ref l]) Q E s:=by
 refine callType_new PySem.F.called_enumerate (by decide) (PySem.F.typeCall_enumerate_1 _) (PySem.F.newCall_enumerate_1 _) (λobj=>PySem.F.args_object_init_2 obj _) PySem.F.entry_enumerate_new (zmy (k:=k) l its) ⟨hL,?_⟩;have hz:(s.heap.push (zdY k l)).objs.size=s.heap.objs.size+1:=cJ ..;show _∧_;rw[hz];have he:cF ((s.heap.push (zdY k l)).push { cls:= .type "enumerate",data:= .fields #[.none, .bool false, .ref s.heap.objs.size,cm 0, .none, .none] }) (s.heap.objs.size+1) s.heap.objs.size 0 .none:=by
  have:=bt (s.heap.push (zdY k l)) (o:={ cls:= .type "enumerate",data:= .fields #[.none, .bool false, .ref s.heap.objs.size,cm 0, .none, .none] }) rfl;rw[hz]at this;exact this
 exact⟨⟨_,he,rfl⟩,h _ he (zhY (aK _ (bt _ zfj))) (by rw[cJ,hz]) λb o x=>aK _ (aK _ x)⟩
end
section
variable {X:Cx}{pins:List (Addr×Obj)}{σ:St}{H:Hp}{s:ah}{g:Heap}{fp:List Addr}
theorem Inv.turnNew{p:Addr}{o:HO}{t':Nat}(I:Inv X pins σ H s) (hp:s.heap.objs.size≤p) (k:∀b u,b∉fp→s.heap.get? b=ae u→g.get? b=ae u) (hf:∀b∈fp,zio X pins H b) (new:ObjOk X.prog X.w (upd H p o) g p o) :
  Inv X pins σ (upd H p o) { s with heap:=g,toks:=t' }:=by
 have hn:=I.hok.fresh hp;have lt:∀{b u},s.heap.get? b=ae u→b≠p:=λe=>bx (bJ (aI e) hp);have nfp:∀{b u},H b=ae u→b∉fp:=λe z=>by rw[(hf _ z).1]at e;cases e
 refine I.call (g':=s.gens) (d':=s.drawn) (ch:=fp) ⟨λb u e _ _ hx=>k b u hx e,λb u e _ _ hx=>⟨u.slots,k b u hx e⟩,λb u e n _=>by rw[zaB (lt e)];exact n,λb u e hx=>⟨u,k b u hx e⟩,
  λb xs e=>by rw[zaB (zas e hn)];exact e,λb u xs e=>by rw[zaB (zas e hn)];exact e,λb ps e=>⟨#[],by rw[zaB (zas e hn),e];simp⟩⟩ (λb u e=>?_) I.bare λb hb=>⟨(hf b hb).2.2.2.1,(hf b hb).2.1,(hf b hb).2.2.2.2.1,(hf b hb).2.2.2.2.2⟩
 by_cases hb:b=p
 ·subst hb;rw[zaA]at e;cases e;exact new
 ·rw[zaB hb]at e;refine(I.hok b u e).stay (λc v hc q=>k c v ?_ q) (λc q=>by rw[zaB (zas q hn)];exact q) λc xs q=>by rw[zaB (zas q hn)];exact q
  rcases hc with rfl |hc
  ·exact nfp e
  ·exact nfp hc
theorem Inv.turnedL{t':Nat}(I:Inv X pins σ H s) (k:∀b u,b∉fp→s.heap.get? b=ae u→g.get? b=ae u) (hf:∀b∈fp,zio X pins H b):Inv X pins σ H { s with heap:=g,toks:=t' }:=by
 have nfp:∀{b u},H b=ae u→b∉fp:=λe z=>by rw[(hf _ z).1]at e;cases e
 refine I.call (g':=s.gens) (d':=s.drawn) (ch:=fp) ⟨λb u e _ _ hx=>k b u hx e,λb u e _ _ hx=>⟨u.slots,k b u hx e⟩,λb u e n _=>n,λb u e hx=>⟨u,k b u hx e⟩,
  λb xs e=>e,λb u xs e=>e,λb ps e=>⟨#[],by rw[e];simp⟩⟩ (λb u e=>?_) I.bare λb hb=>⟨(hf b hb).2.2.2.1,(hf b hb).2.1,(hf b hb).2.2.2.2.1,(hf b hb).2.2.2.2.2⟩
 refine(I.hok b u e).stay (λc v hc q=>k c v ?_ q) (λc q=>q) λc xs q=>q;rcases hc with rfl |hc
 ·exact nfp e
 ·exact nfp hc
def SqK (k:Bool) (K:ai) (H:Hp) (a:Addr) (xs:List V):Prop:=if k=true then SqL K H a xs else SqT K H a xs
theorem Inv.seq{k:Bool}{a:Addr}{xs:List V}(I:Inv X pins σ H s) (h:SqK k X.K H a xs):∃its:List Value,Vals xs its∧SeqIs k s.heap a its.toArray∧xs.length≤sizeLine:=by
 cases k with
 |true=>obtain⟨its,r,p,z⟩:=I.list h;exact⟨its,r,p.isList,z⟩
 |false=>obtain⟨its,r,p,z⟩:=I.tuple h;exact⟨its,r,p,z⟩
theorem Inv.seq_inj{k:Bool}{a:Addr}{xs ys:List V}(I:Inv X pins σ H s) (h:SqK k X.K H a xs) (h':SqK k X.K H a ys):xs=ys:=by
 cases k with
 |true=>exact I.list_inj h h'
 |false=>exact I.tuple_inj h h'
end
noncomputable def Ite (k:Bool) (K:ai) (a:Addr):It:=
 ⟨λi H=>∃xs x,SqK k K H a xs∧xs[i]? =ae x,λi H v H'=>∃p x,H p=none∧v= .ref p∧H'=upd H p (.tup [.int i,x])∧ ∀xs,SqK k K H a xs→xs[i]? =ae x,λi H=>∃xs,SqK k K H a xs∧xs.length≤i⟩
theorem znl{P:aF}{w:ax}{K:ai}{es:List Expr}{x1:Nat}{pos:ay}(k:Bool) (a e it:Addr) (hne:e≠it):Turn P w K (.Tuple es x1 pos) (Ite k K a) [e,it] e (λi h=>(∃old,cF h e it (i:Nat) old)∧SeqIt k h it a i) where
  mem:=by simp
  obj:=λi h ⟨⟨old,he⟩,hit⟩ b hb=>by
    rcases av.mp hb with rfl |hb
    · exact⟨_,he,λv z=>by cases z⟩
    · have q:b=it:=by simpa using hb
      subst q;obtain⟨o,vs,e,d⟩:=hit.ob;exact⟨o,e,λv z=>by rw[d]at z;cases z⟩
  keep:=λi h h' ⟨⟨old,he⟩,hit⟩ kk=>⟨⟨old,kk e (by simp) _ he⟩,hit.at λo q=>kk it (by simp) o q⟩
  item:=by
    intro X hP hw hK hc i pins s σ H E I hf st hg;subst hP hw hK;obtain⟨xs,x,hq,hx⟩:=hg;obtain⟨⟨old,he⟩,hit⟩:=st;obtain⟨its,rv,p,hz⟩:=I.seq hq;obtain⟨u,hu,ru⟩:=rv.get hx;refine znx he hit p (x:=u) (by simpa using hu) hne λg ho hit' ht hz' kk=>⟨_,rfl,?_⟩;refine wpAny_letOwnedTupleGo_enum ho λg2 he2 hs2=>?_;have hlt:s.heap.objs.size≠e:=cM (aI he);have kk2:∀b o,b∉ [e,it]→s.heap.get? b=ae o→g2.get? b=ae o:=λb o hb q=>by
      have h1:b≠e:=λz=>hb (by simp [z]);have h2:b≠it:=λz=>hb (by simp [z]);exact(hs2.2 b h1).trans (kk b o h1 h2 q)
    have hn:=I.hok.fresh (aB s.heap.objs.size);have ht2:g2.get? s.heap.objs.size=ae { cls:= .type "tuple",data:= .seq #[.int i s.toks,u] }:=(hs2.2 _ hlt).trans ht;refine⟨.ref s.heap.objs.size,upd H s.heap.objs.size (.tup [.int i,x]),I.turnNew (fp:=[e,it]) (t':=s.toks+1) (aB _) kk2 hf ⟨by show 2≤sizeLine;rw[dC];decide,[.int i s.toks,u], .cons ⟨_,rfl⟩ (.cons ru .nil),⟨_,ht2,rfl,_,rfl⟩⟩,rfl,
      ⟨_,x,hn,rfl,rfl,λys hy=>by rw[I.seq_inj hy hq];exact hx⟩,⟨⟨u,by simpa using he2⟩,hit'.at λo q=>(hs2.2 it (bg hne)).trans q⟩,λb hb=>?_⟩
    have hb':=(hf b hb).1;have:b≠s.heap.objs.size:=by
      rcases av.mp hb with rfl |hb
      · exact bg hlt
      · have q:b=it:=by simpa using hb
        subst q;obtain⟨o,vs,e,d⟩:=hit.ob;exact bx (aI e)
    rw[zaB this];exact hb'
  done:=by
    intro X hP hw hK hc i pins s σ H E I hf st hg;subst hP hw hK;obtain⟨xs,hq,hx⟩:=hg;obtain⟨⟨old,he⟩,hit⟩:=st;obtain⟨its,rv,p,hz⟩:=I.seq hq;have hl:=rv.length;exact zqy (I.ok.hd hc) he hit p (by simp;omega) λg eb=>⟨rfl,I.turnedL (fp:=[e,it]) (t':=s.toks) (λb o hb q=>eb b o (λz=>hb (by simp [z])) q) hf⟩
  self:=λA i s Q E ⟨⟨old,he⟩,hit⟩ h=>i3 he h
section
variable {X:Cx}{es:List Expr}{x1:Nat}{tpos:ay}
noncomputable def zyo (K:ai) (ta:TA):TI:=λσ H R=>ta σ H λvs H1=>∃k a xs,vs=[.ref a]∧SqK k K H1 a xs∧R (Ite k K a) H1
theorem zua{a:Expr}{ta:TA}{p pos:ay}(hg:Gl X "enumerate") (hm:X.mg "enumerate" =none) (ha:PA X [a] ta) (hs:ao [a] X.env=[(false,au a X.env)]:=by rfl):PI X (.Tuple es x1 tpos) (.Call (.Name "enumerate" p) [a] [] pos) (zyo X.K ta):=by
 intro pins s σ H R I h;refine Call_ (zhu I hg hm boot_enumerate (gb (thn (ha pos pins s σ H _ I h) λus s1 ⟨vs,H1,I1,r1,q1⟩=>?_) hs rfl));obtain⟨k,a,xs,e,hq,q⟩:=q1;subst e;cases r1 with
 |cons r rr=>
  cases rr;cases(show _=br a from r);obtain⟨its,rv,pl,hz⟩:=I1.seq hq;refine zpB pl λg he hit hz' kk=>i3 he ?_;have I2:Inv X pins σ H1 { s1 with heap:=g }:=I1.kept (t':=s1.toks) kk;refine⟨s1.heap.objs.size+1,[s1.heap.objs.size+1,s1.heap.objs.size],_,_,H1,rfl,I2,znl k a _ _ (Nat.succ_ne_self _),⟨⟨.none,he⟩,hit⟩,λb hb=>?_,q⟩;have hb':s1.heap.objs.size≤b:=by
   rcases av.mp hb with rfl |hb
   ·exact Nat.le_succ _
   ·have q:b=s1.heap.objs.size:=by simpa using hb
    exact fe q.symm
  exact I1.fpOk hb' (I1.hok.fresh hb')
noncomputable def zfv:Nat→List W→List W
 |_,[]=>[]
 |n,w::ws=> .tup [.int n,w]::zfv (n+1) ws
theorem zlC:∀{ws:List W}{n i:Nat}{u:W},(zfv n ws)[i]? =ae u→ ∃w,ws[i]? =ae w∧u= .tup [.int ((n+i:Nat):Int),w]
 | [],_,_,_,h=>by simp [zfv]at h
 |w::ws,n,0,u,h=>by
  simp [zfv]at h;exact⟨w,rfl,by rw[←h];rfl⟩
 |w::ws,n,i+1,u,h=>by
  obtain⟨w',e,q⟩:=zlC (ws:=ws) (n:=n+1) (i:=i) (u:=u) (by simpa [zfv]using h);refine⟨w',by simpa using e,?_⟩
  rw[q,show n+1+i=n+(i+1) by omega]
theorem zmk:∀{ws:List W}{n:Nat},(zfv n ws).length=ws.length
 | [],_=>rfl
 |w::ws,n=>by simp [zfv,zmk (ws:=ws)]
theorem zto{K:ai}{k:Bool}{a:Addr}{ws:List W}{G:Sto→Prop}{H0:Hp}{S0:Sto}(h:∀S H,Ext H0 S0 H S→RepS K H S→G S→ ∃vs,SqK k K H a vs∧Reps K H ws vs):ItW K (Ite k K a) (zfv 0 ws) G H0 S0:=λi S H e hS hG=>by
 obtain⟨vs,hq,r⟩:=h S H e hS hG;refine⟨λu eu=>?_,λhl=>⟨vs,hq,by rw[←r.length,hl,zmk];exact aB _⟩⟩
 obtain⟨w,ew,rfl⟩:=zlC eu;obtain⟨v,ev,rv⟩:=r.get ew;refine⟨⟨vs,v,hq,ev⟩,λx H' ⟨p,y,hp,e1,e2,e3⟩=>?_⟩;subst e1 e2;have e4:=e3 vs hq;rw[ev]at e4;cases e4;rw[cP];exact⟨.new hp,hS.new hp, .tup zaA (.cons (.int _) (.cons (rv.ext (.new (S:=S) hp)) .nil))⟩
noncomputable def zpc:W→Sto→(List W→(Sto→Prop)→Prop)→Prop
 | .tup ws,_,Q=>Q ws λ_=>True
 | .ref a,S,Q=>zcz S a λws=>Q ws λS'=>S' a=ae (.lst ws)
 | .scr ns,_,Q=>Q (ns.map W.int) λ_=>True
 |_,_,_=>False
theorem zus{K:ai}{H:Hp}{S:Sto}{w:W}{v:V}{Q:List W→(Sto→Prop)→Prop}(r:Rep K H w v) (hS:RepS K H S) (h:zpc w S Q) :
  ∃k a ws G,v= .ref a∧G S∧(∀S' H',Ext H S H' S'→RepS K H' S'→G S'→ ∃vs,SqK k K H' a vs∧Reps K H' ws vs)∧Q ws G:=by
 cases r with
 |tup f hs=>exact⟨false,_,_,_,rfl,trivial,λS' H' e hS' _=>⟨_, .of (e.tup _ _ f),hs.ext e⟩,h⟩
 |ref a=>
  obtain⟨ws,ea,h⟩:=zbj h;exact⟨true,_,ws,_,rfl,ea,λS' H' e hS' g=>by
   obtain⟨vs,f,hs⟩:=hS' a _ g;exact⟨vs, .of f,hs⟩,h⟩
 |scr f=>exact⟨true,_,_,_,rfl,trivial,λS' H' e hS' _=>⟨_,(e.fz f).sq,Reps.ofInts _⟩,h⟩
 |_=>exact h.elim
noncomputable def zkA (t:WE):WI:=λE σ S Q=>t E σ S λw S1=>zpc w S1 λws G=>Q (zfv 0 ws) G S1
theorem zgM{a:Expr}{ta:WE}{p pos:ay}(hg:Gl X "enumerate") (hm:X.mg "enumerate" =none) (ha:JE X a ta) (hs:ao [a] X.env=[(false,au a X.env)]:=by rfl) (hs2:ao [a] X.env=(false,au a X.env)::ao [] X.env:=by rfl):JI X (.Tuple es x1 tpos) (.Call (.Name "enumerate" p) [a] [] pos) (zkA ta):=λE hE=>
 (zua hg hm (zcD (ha E hE) pa_nil hs2) hs).mono λσ H R ⟨σW,S,QW,hσ,hS,ht,hR⟩=>⟨σW,S,_,hσ,hS,ht,λw S1 v H1 e1 r1 hS1 h1=>by
  obtain⟨k,a,ws,G,rfl,hG,hq,h⟩:=zus r1 hS1 h1;obtain⟨vs,hv,_⟩:=hq S1 H1 .refl hS1 hG;exact⟨k,a,vs,rfl,hv,hR _ _ S1 _ H1 e1 hS1 hG (zto hq) h⟩⟩
end
section
variable {prog:aF}{w:ax}{A:aM}{E:Value→ah→Prop}{s:ah}
theorem zqS{k1 k2:Bool}{z TI TO i1 i2 l1 l2:Addr}{n1 n2:Nat}{xs ys:Array Value}{x y a b:Value}{Q:Option Value→ah→Prop}(D:iA z TI TO i1 i2 l1 l2)
  (hz:b5 s.heap z TI TO .none) (hTI:bO s.heap TI (.ref i1) (.ref i2)) (hTO:bO s.heap TO a b) (h1:SeqIt k1 s.heap i1 l1 n1) (h2:SeqIt k2 s.heap i2 l2 n2) (hl1:SeqIs k1 s.heap l1 xs) (hl2:SeqIs k2 s.heap l2 ys) (hx:xs[n1]? =ae x) (hy:ys[n2]? =ae y)
  (hQ:∀g,b5 g z TI TO (cm s.heap.objs.size)→bO g TO x y→SeqIt k1 g i1 l1 (n1+1)→SeqIt k2 g i2 l2 (n2+1)→bO g s.heap.objs.size x y→g.objs.size=s.heap.objs.size+1→
   (∀c o,c≠z→c≠TO→c≠i1→c≠i2→s.heap.get? c=ae o→g.get? c=ae o)→Q (ae (.ref s.heap.objs.size)) { s with heap:=g }):am (ap prog w) A (bX (.ref z)) Q E s:=by
 have hT:s.TypeIs (.ref z) "zip" :=⟨_,hz,rfl⟩;unfold bX;refine ak (gc (df (name:=bu "__next__") hT gv (c7 gv hT j6 ?_ (kC _))));show am _ _ (field (.ref z) 2 >>= _) _ _ _;refine ak (bB hz rfl (x:= .bool false) rfl ?_);show am _ _ (field (.ref z) 3 >>= _) _ _ _;refine ak (bB hz rfl (x:= .ref TI) rfl ?_);refine ak (cV hTI rfl ?_);show am _ _ (dY (.ref z) >>= _) _ _ _;refine ak ?_;unfold dY;refine ak (bB hz rfl (x:= .none) rfl (aE ?_));simp only[if_true];refine ak (dJ ?_);refine ak (bB hz rfl (x:= .ref TO) rfl ?_);refine ak (cA hz (by simp) λg1 hz1 hs1=>?_);replace hz1:b5 g1 z TI TO .ellipsis:=hz1;refine ak ?_;simp only[jd,iY,iG,i4];refine ak (ak (fX ?_));show am _ _ (cO (.ref i1) >>= _) _ _ _;refine ak (zeT (h1.at λo e=>hs1.extBut _ o D.i1z e) (hl1.at λo e=>hs1.extBut _ o D.l1z e) hx λg2 h12 hs2=>aE ?_);have hTO2:bO g2 TO a b:=hs2.extBut _ _ D.TOi1 (hs1.extBut _ _ D.TOz hTO);refine ak (cV hTO2 rfl ?_);refine ak (iS hTO2 λg3 hTO3 hs3=>?_);replace hTO3:bO g3 TO x b:=hTO3;refine ak (gz (aE ?_));refine ak (ak (fX ?_));show am _ _ (cO (.ref i2) >>= _) _ _ _;refine ak (zeT (h2.at λo e=>hs3.extBut _ o D.TOi2.symm (hs2.extBut _ o D.i12.symm (hs1.extBut _ o D.i2z e))) (hl2.at λo e=>hs3.extBut _ o D.l2TO (hs2.extBut _ o D.l2i1 (hs1.extBut _ o D.l2z e))) hy λg4 h24 hs4=>aE ?_);have hTO4:bO g4 TO x b:=hs4.extBut _ _ D.TOi2 hTO3;refine ak (cV hTO4 rfl ?_);refine ak (iS hTO4 λg5 hTO5 hs5=>?_);replace hTO5:bO g5 TO x y:=hTO5;refine ak (gz (aE (aE ?_)));refine ak (cV hTO5 rfl ?_);refine ak (i5 ?_);have hsz:g5.objs.size=s.heap.objs.size:=by rw[hs5.1,hs4.1,hs3.1,hs2.1,hs1.1]
 have hz5:b5 g5 z TI TO .ellipsis:=hs5.extBut _ _ D.TOz.symm (hs4.extBut _ _ D.i2z.symm (hs3.extBut _ _ D.TOz.symm (hs2.extBut _ _ D.i1z.symm hz1)));have hk5:∀c o,c≠z→c≠TO→c≠i1→c≠i2→s.heap.get? c=ae o→g5.get? c=ae o:=λc o c1 c2 c3 c4 e=>hs5.extBut _ _ c2 (hs4.extBut _ _ c4 (hs3.extBut _ _ c2 (hs2.extBut _ _ c3 (hs1.extBut _ _ c1 e))));have h15:SeqIt k1 g5 i1 l1 (n1+1):=h12.at λo e=>hs5.extBut _ o D.TOi1.symm (hs4.extBut _ o D.i12 (hs3.extBut _ o D.TOi1.symm e));have h25:SeqIt k2 g5 i2 l2 (n2+1):=h24.at λo e=>hs5.extBut _ o D.TOi2.symm e;have hzlt:z<g5.objs.size:=aI hz5;show am _ _ (fH (.ref z) (.ref g5.objs.size) >>= _) _ _ _;refine ak ?_;unfold fH;have hz6:b5 (g5.push { cls:= .type "tuple",data:= .seq #[x,y] }) z TI TO .ellipsis:=aK _ hz5;refine ak (cA hz6 (by simp) λg7 hz7 hs7=>?_);replace hz7:b5 g7 z TI TO (cm g5.objs.size):=hz7;refine cA hz7 (by simp) λg8 hz8 hs8=>?_;replace hz8:b5 g8 z TI TO (cm g5.objs.size):=hz8;have up:∀c o,c≠z→g5.get? c=ae o→g8.get? c=ae o:=λc o c1 e=>hs8.extBut _ _ c1 (hs7.extBut _ _ c1 (aK _ e));have hT8:bO g8 g5.objs.size x y:=hs8.extBut _ _ (cM hzlt) (hs7.extBut _ _ (cM hzlt) (bt _ rfl));have hzz:g8.objs.size=g5.objs.size+1:=by rw[hs8.1,hs7.1,cJ]
 rw[hsz]at hz8 hT8 hzz;refine aE ⟨_,rfl,aE ?_⟩;show Q (ae (.ref g5.objs.size)) _;rw[hsz];exact hQ g8 hz8 (up _ _ D.TOz hTO5) (h15.at λo e=>up _ o D.i1z e) (h25.at λo e=>up _ o D.i2z e) hT8 hzz λc o c1 c2 c3 c4 e=>up c o c1 (hk5 c o c1 c2 c3 c4 e)
theorem zut{k1 k2:Bool}{z TI TO i1 i2 l1 l2:Addr}{n1 n2:Nat}{xs ys:Array Value}{a b:Value}{Q:Option Value→ah→Prop}(hh:A.handled=none) (D:iA z TI TO i1 i2 l1 l2)
  (hz:b5 s.heap z TI TO .none) (hTI:bO s.heap TI (.ref i1) (.ref i2)) (hTO:bO s.heap TO a b) (h1:SeqIt k1 s.heap i1 l1 n1) (h2:SeqIt k2 s.heap i2 l2 n2) (hl1:SeqIs k1 s.heap l1 xs) (hl2:SeqIs k2 s.heap l2 ys) (hend:xs[n1]? =none∨ys[n2]? =none)
  (hQ:∀g,(∀c o,c≠z→c≠TO→c≠i1→c≠i2→s.heap.get? c=ae o→g.get? c=ae o)→Q none { s with heap:=g }):am (ap prog w) A (bX (.ref z)) Q E s:=by
 have hT:s.TypeIs (.ref z) "zip" :=⟨_,hz,rfl⟩;have fin:∀(g:Heap) (e:Addr),(∀c o,c≠z→c≠TO→c≠i1→c≠i2→s.heap.get? c=ae o→g.get? c=ae o)→(∃o,g.get? e=ae o∧o.cls= .type "StopIteration")→
   am (ap prog w) A (do if(←iW (.ref e) (.type "StopIteration")) then pure none else throw (.ref e)) Q E { s with heap:=g }:=λg e hk ⟨o,ho,hc⟩=>
  ak (ju (T:= "StopIteration") (b:=true) ⟨o,ho,hc⟩ km (aE (hQ _ hk)))
 unfold bX;refine ak (gc (df (name:=bu "__next__") hT gv (c7 gv hT j6 ?_ (kC _))));show am _ _ (field (.ref z) 2 >>= _) _ _ _;refine ak (bB hz rfl (x:= .bool false) rfl ?_);show am _ _ (field (.ref z) 3 >>= _) _ _ _;refine ak (bB hz rfl (x:= .ref TI) rfl ?_);refine ak (cV hTI rfl ?_);show am _ _ (dY (.ref z) >>= _) _ _ _;refine ak ?_;unfold dY;refine ak (bB hz rfl (x:= .none) rfl (aE ?_));simp only[if_true];refine ak (dJ ?_);refine ak (bB hz rfl (x:= .ref TO) rfl ?_);refine ak (cA hz (by simp) λg1 hz1 hs1=>?_);replace hz1:b5 g1 z TI TO .ellipsis:=hz1;refine ak ?_;simp only[jd,iY,iG,i4];refine ak (ak (fX ?_));show am _ _ (cO (.ref i1) >>= _) _ _ _;cases hx:xs[n1]? with
 |none=>
  refine ak (zhF hh (h1.at λo e=>hs1.extBut _ o D.i1z e) (hl1.at λo e=>hs1.extBut _ o D.l1z e) hx λg2 e hs2 he=>?_);obtain⟨oe,hoe,hce⟩:=he;have hz2:b5 g2 z TI TO .ellipsis:=hs2 _ _ D.i1z.symm hz1;have hez:e≠z:=λx=>by subst x;rw[hz2]at hoe;cases hoe;simp at hce
  refine cA hz2 (by simp) λg3 _ hs3=>fin g3 e (λc o c1 _ c3 _ x=>hs3.extBut _ _ c1 (hs2 _ _ c3 (hs1.extBut _ _ c1 x))) ⟨oe,hs3.extBut _ _ hez hoe,hce⟩
 |some x=>
  have hy:ys[n2]? =none:=by rcases hend with h |h;rw[hx]at h;cases h;exact h
  refine ak (zeT (h1.at λo e=>hs1.extBut _ o D.i1z e) (hl1.at λo e=>hs1.extBut _ o D.l1z e) hx λg2 h12 hs2=>aE ?_);have hTO2:bO g2 TO a b:=hs2.extBut _ _ D.TOi1 (hs1.extBut _ _ D.TOz hTO);refine ak (cV hTO2 rfl ?_);refine ak (iS hTO2 λg3 hTO3 hs3=>?_);refine ak (gz (aE ?_));refine ak (ak (fX ?_));show am _ _ (cO (.ref i2) >>= _) _ _ _;refine ak (zhF hh (h2.at λo e=>hs3.extBut _ o D.TOi2.symm (hs2.extBut _ o D.i12.symm (hs1.extBut _ o D.i2z e))) (hl2.at λo e=>hs3.extBut _ o D.l2TO (hs2.extBut _ o D.l2i1 (hs1.extBut _ o D.l2z e))) hy λg4 e hs4 he=>?_);obtain⟨oe,hoe,hce⟩:=he;have hz4:b5 g4 z TI TO .ellipsis:=hs4 _ _ D.i2z.symm (hs3.extBut _ _ D.TOz.symm (hs2.extBut _ _ D.i1z.symm hz1));have hez:e≠z:=λx=>by subst x;rw[hz4]at hoe;cases hoe;simp at hce
  refine cA hz4 (by simp) λg5 _ hs5=>fin g5 e (λc o c1 c2 c3 c4 x=>hs5.extBut _ _ c1 (hs4 _ _ c4 (hs3.extBut _ _ c2 (hs2.extBut _ _ c3 (hs1.extBut _ _ c1 x))))) ⟨oe,hs5.extBut _ _ hez hoe,hce⟩
end
noncomputable abbrev zH1 (k1:Bool) (h:Heap) (l1:Addr):Heap:=h.push (zdY k1 l1)
noncomputable abbrev zH2 (k1 k2:Bool) (h:Heap) (l1 l2:Addr):Heap:=(zH1 k1 h l1).push (zdY k2 l2)
noncomputable abbrev zH3 (k1 k2:Bool) (h:Heap) (l1 l2:Addr):Heap:=(zH2 k1 k2 h l1 l2).push { cls:= .type "tuple",data:= .seq #[.ref h.objs.size, .ref (zH1 k1 h l1).objs.size] }
noncomputable abbrev zH4 (k1 k2:Bool) (h:Heap) (l1 l2:Addr):Heap:=(zH3 k1 k2 h l1 l2).push { cls:= .type "tuple",data:= .seq #[.none, .none] }
noncomputable abbrev zH5 (k1 k2:Bool) (h:Heap) (l1 l2:Addr):Heap:=(zH4 k1 k2 h l1 l2).push { cls:= .type "zip",data:= .fields #[.none, .bool false, .bool false, .ref (zH2 k1 k2 h l1 l2).objs.size, .ref (zH3 k1 k2 h l1 l2).objs.size] }
theorem zmo{k1 k2:Bool}(l1 l2:Addr) (xs ys:Array Value) :
  PySem.Meets (bD.«zip.__new__» ⟨[.type "zip", .ref l1, .ref l2],[]⟩) (λ_ R s=>SeqIs k1 s.heap l1 xs∧SeqIs k2 s.heap l2 ys∧R (.ok (.ret (.ref (zH4 k1 k2 s.heap l1 l2).objs.size))) { s with heap:=zH5 k1 k2 s.heap l1 l2 }):=
 .of_wp λprog w A R s h=>by
  obtain⟨hp,g,d,tk,os⟩:=s;obtain⟨hl1,hl2,h⟩:=h;have hsub:=sub_zip;have f1:∀{A:aM}{E:Value→ah→Prop}{Q:Value→ah→Prop},Q (.ref hp.objs.size) ⟨hp.push (zdY k1 l1),g,d,tk,os⟩→am (ap prog w) A (dn (.ref l1)) Q E ⟨hp,g,d,tk,os⟩:=λq=>zhH (s:=⟨hp,g,d,tk,os⟩) hl1 q;have f2:∀{A:aM}{E:Value→ah→Prop}{Q:Value→ah→Prop},Q (.ref (hp.push (zdY k1 l1)).objs.size) ⟨(hp.push (zdY k1 l1)).push (zdY k2 l2),g,d,tk,os⟩→am (ap prog w) A (dn (.ref l2)) Q E ⟨hp.push (zdY k1 l1),g,d,tk,os⟩:=λq=>zhH (s:=⟨hp.push (zdY k1 l1),g,d,tk,os⟩) (hl2.push _) q
  wp_walk using f1,f2
  exact⟨_,rfl,h⟩
section
variable {prog:aF}{w:ax}{A:aM}{E:Value→ah→Prop}{s:ah}
theorem zqR{k1 k2:Bool}{l1 l2:Addr}{xs ys:Array Value}{Q:Value→ah→Prop}(hl1:SeqIs k1 s.heap l1 xs) (hl2:SeqIs k2 s.heap l2 ys)
  (h:∀g,b5 g (s.heap.objs.size+4) (s.heap.objs.size+2) (s.heap.objs.size+3) .none→bO g (s.heap.objs.size+2) (.ref s.heap.objs.size) (.ref (s.heap.objs.size+1))→
   bO g (s.heap.objs.size+3) .none .none→SeqIt k1 g s.heap.objs.size l1 0→SeqIt k2 g (s.heap.objs.size+1) l2 0→g.objs.size=s.heap.objs.size+5→
   (∀c o,s.heap.get? c=ae o→g.get? c=ae o)→Q (.ref (s.heap.objs.size+4)) { s with heap:=g }):am (ap prog w) A (call (.type "zip") [.ref l1, .ref l2]) Q E s:=by
 refine callType_new PySem.F.called_zip (by decide) (PySem.F.typeCall_zip_2 _ _) (PySem.F.newCall_zip_2 _ _) (λobj=>PySem.F.args_object_init_3 obj _ _) PySem.F.entry_zip_new (zmo (k1:=k1) (k2:=k2) l1 l2 xs ys) ⟨hl1,hl2,?_⟩;have z1:(zH1 k1 s.heap l1).objs.size=s.heap.objs.size+1:=cJ ..;have z2:(zH2 k1 k2 s.heap l1 l2).objs.size=s.heap.objs.size+2:=by rw[cJ,z1]
 have z3:(zH3 k1 k2 s.heap l1 l2).objs.size=s.heap.objs.size+3:=by rw[cJ,z2]
 have z4:(zH4 k1 k2 s.heap l1 l2).objs.size=s.heap.objs.size+4:=by rw[cJ,z3]
 have z5:(zH5 k1 k2 s.heap l1 l2).objs.size=s.heap.objs.size+5:=by rw[cJ,z4]
 have g5:(zH5 k1 k2 s.heap l1 l2).get? (zH4 k1 k2 s.heap l1 l2).objs.size=ae _:=bt _ rfl;have g4:(zH5 k1 k2 s.heap l1 l2).get? (zH3 k1 k2 s.heap l1 l2).objs.size=ae _:=aK _ (bt _ rfl);have g3:(zH5 k1 k2 s.heap l1 l2).get? (zH2 k1 k2 s.heap l1 l2).objs.size=ae _:=aK _ (aK _ (bt _ rfl));have g2:(zH5 k1 k2 s.heap l1 l2).get? (zH1 k1 s.heap l1).objs.size=ae _:=aK _ (aK _ (aK _ (bt _ zfj)));have g1:(zH5 k1 k2 s.heap l1 l2).get? s.heap.objs.size=ae _:=aK _ (aK _ (aK _ (aK _ (bt _ zfj))));show _∧_;rw[z2,z3,z4]at g5;rw[z1,z2]at g3;rw[z3]at g4;rw[z1]at g2;rw[z4];exact⟨⟨_,g5,rfl⟩,h _ g5 g3 g4 (zhY g1) (zhY g2) z5 λc o x=>aK _ (aK _ (aK _ (aK _ (aK _ x))))⟩
end
def SqZ (k:Bool) (K:ai) (H:Hp) (a:Addr) (xs:List V):Prop:=if k=true then SqL K H a xs else H a=ae (.tup xs)
theorem SqZ.sq{k:Bool}{K:ai}{H:Hp}{a:Addr}{xs:List V}(h:SqZ k K H a xs):SqK k K H a xs:=by
 cases k with
 |true=>exact h
 |false=>exact .of h
theorem SeqIs.ob{k:Bool}{h:Heap}{a:Addr}{its:Array Value}(x:SeqIs k h a its):∃o n,h.get? a=ae o∧o.data= .seq its n∧(k=true→o.cls= .type "list"):=by
 cases k with
 |true=>obtain⟨o,ho,hc,n,hd⟩:=(show h.IsList a its from x);exact⟨o,n,ho,hd,λ_=>hc⟩
 |false=>obtain⟨o,ho,hc,n,hd⟩:=(show h.IsTuple a its from x);exact⟨o,n,ho,hd,λz=>by cases z⟩
theorem SeqIs.ne_fields{k:Bool}{h:Heap}{a b:Addr}{its:Array Value}{o:Obj}{vs:Array Value}(x:SeqIs k h a its) (e:h.get? b=ae o) (d:o.data= .fields vs):a≠b:=λz=>by
 subst z;obtain⟨o',n,ho,hd,_⟩:=x.ob;rw[ho]at e;cases e;rw[hd]at d;cases d
noncomputable def Itz (k1 k2:Bool) (K:ai) (a b:Addr):It:=
  ⟨λi H=>∃xs ys x y,SqZ k1 K H a xs∧SqZ k2 K H b ys∧xs[i]? =ae x∧ys[i]? =ae y,
   λi H v H'=>∃p x y,H p=none∧v= .ref p∧H'=upd H p (.tup [x,y])∧(∀xs,SqZ k1 K H a xs→xs[i]? =ae x)∧ ∀ys,SqZ k2 K H b ys→ys[i]? =ae y,
   λi H=>∃xs ys,SqZ k1 K H a xs∧SqZ k2 K H b ys∧(xs.length≤i∨ys.length≤i)⟩
structure ZipFar (z TI TO i1 i2:Addr):Prop where
  TIz:TI≠z
  TOz:TO≠z
  i1z:i1≠z
  i2z:i2≠z
  TITO:TI≠TO
  TIi1:TI≠i1
  TIi2:TI≠i2
  TOi1:TO≠i1
  TOi2:TO≠i2
  i12:i1≠i2
def zxM (k1 k2:Bool) (z TI TO i1 i2 a b:Addr) (i:Nat) (h:Heap):Prop:=b5 h z TI TO .none∧bO h TI (.ref i1) (.ref i2)∧(∃u v,bO h TO u v)∧SeqIt k1 h i1 a i∧SeqIt k2 h i2 b i
section
variable {X:Cx}{pins:List (Addr×Obj)}{σ:St}{H:Hp}{s:ah}
theorem zjT{k1 k2:Bool}{z TI TO i1 i2 a b:Addr}{i:Nat}{xs ys:List V}(I:Inv X pins σ H s) (hTO:H TO=none) (D:ZipFar z TI TO i1 i2) (st:zxM k1 k2 z TI TO i1 i2 a b i s.heap) (ha:SqZ k1 X.K H a xs) (hb:SqZ k2 X.K H b ys):iA z TI TO i1 i2 a b:=by
 obtain⟨hz,hTI,⟨u,v,hTOo⟩,h1,h2⟩:=st;obtain⟨o1,v1,e1,d1⟩:=h1.ob;obtain⟨o2,v2,e2,d2⟩:=h2.ob;obtain⟨its,_,pa,_⟩:=I.seq ha.sq;obtain⟨its2,_,pb,_⟩:=I.seq hb.sq;have nTO:∀{k:Bool}{c:Addr}{zs:List V}{its:Array Value},SqZ k X.K H c zs→SeqIs k s.heap c its→c≠TO:=λ{k c zs its} hc pc e=>by
  subst e;cases k with
  |false=>rw[show H c=ae (.tup zs) from hc]at hTO;cases hTO
  |true=>
   obtain⟨o,n,ho,_,hcl⟩:=pc.ob;rw[hTOo]at ho;cases ho;have:=hcl rfl;simp at this
 exact⟨D.TIz,D.TOz,D.i1z,D.i2z,D.TITO,D.TIi1,D.TIi2,D.TOi1,D.TOi2,D.i12,pa.ne_fields hz rfl,nTO ha pa,pa.ne_fields e1 d1,pa.ne_fields e2 d2,pb.ne_fields hz rfl,nTO hb pb,pb.ne_fields e1 d1,pb.ne_fields e2 d2⟩
end
theorem zqk{P:aF}{w:ax}{K:ai}{es:List Expr}{x1:Nat}{pos:ay}(k1 k2:Bool) (a b z TI TO i1 i2:Addr) (D:ZipFar z TI TO i1 i2):Turn P w K (.Tuple es x1 pos) (Itz k1 k2 K a b) [z,TI,TO,i1,i2] z (zxM k1 k2 z TI TO i1 i2 a b) where
  mem:=by simp
  obj:=λi h ⟨hz,hTI,⟨u,v,hTO⟩,h1,h2⟩ c hc=>by
    obtain⟨o1,v1,e1,d1⟩:=h1.ob;obtain⟨o2,v2,e2,d2⟩:=h2.ob;simp only[av,bo,or_false]at hc;rcases hc with rfl |rfl |rfl |rfl |rfl
    · exact⟨_,hz,λv z=>by cases z⟩
    · exact⟨_,hTI,λv z=>by cases z⟩
    · exact⟨_,hTO,λv z=>by cases z⟩
    · exact⟨_,e1,λv z=>by rw[d1]at z;cases z⟩
    · exact⟨_,e2,λv z=>by rw[d2]at z;cases z⟩
  keep:=λi h h' ⟨hz,hTI,⟨u,v,hTO⟩,h1,h2⟩ kk=>⟨kk z (by simp) _ hz,kk TI (by simp) _ hTI,⟨u,v,kk TO (by simp) _ hTO⟩,h1.at λo q=>kk i1 (by simp) o q,h2.at λo q=>kk i2 (by simp) o q⟩
  item:=by
    intro X hP hw hK hc i pins s σ H E I hf st hg;subst hP hw hK;obtain⟨xs,ys,x,y,ha,hb,hx,hy⟩:=hg;have Z:=zjT I (hf TO (by simp)).1 D st ha hb;obtain⟨hz,hTI,⟨c0,d0,hTO⟩,h1,h2⟩:=st;obtain⟨its,rv,pa,_⟩:=I.seq ha.sq;obtain⟨its2,rv2,pb,_⟩:=I.seq hb.sq;obtain⟨u,hu,ru⟩:=rv.get hx;obtain⟨u2,hu2,ru2⟩:=rv2.get hy;refine zqS Z hz hTI hTO h1 h2 pa pb (x:=u) (y:=u2) (by simpa using hu) (by simpa using hu2) λg hz1 hTO1 h11 h21 hp hz' kk=>⟨_,rfl,?_⟩;refine wpAny_letOwnedTupleGo_zip hz1 λg2 hz2 hs2=>?_;have hs2':∀c o,c≠z→g.get? c=ae o→g2.get? c=ae o:=λc o hc e=>(hs2.2 c hc).trans e;have kk2:∀c o,c∉ [z,TI,TO,i1,i2]→s.heap.get? c=ae o→g2.get? c=ae o:=λc o hc q=>by
      simp only[av,bo,or_false,not_or]at hc;exact hs2' c o hc.1 (kk c o hc.1 hc.2.2.1 hc.2.2.2.1 hc.2.2.2.2 q)
    have hn:=I.hok.fresh (aB s.heap.objs.size);have hpz:s.heap.objs.size≠z:=cM (aI hz);have ht2:g2.get? s.heap.objs.size=ae { cls:= .type "tuple",data:= .seq #[u,u2] }:=hs2' _ _ hpz hp;refine⟨.ref s.heap.objs.size,upd H s.heap.objs.size (.tup [x,y]),I.turnNew (fp:=[z,TI,TO,i1,i2]) (t':=s.toks) (aB _) kk2 hf ⟨by show 2≤sizeLine;rw[dC];decide,[u,u2], .cons ru (.cons ru2 .nil),⟨_,ht2,rfl,_,rfl⟩⟩,rfl,
      ⟨_,x,y,hn,rfl,rfl,λzs hy=>by rw[I.seq_inj hy.sq ha.sq];exact hx,λzs hy'=>by rw[I.seq_inj hy'.sq hb.sq];exact hy⟩,
      ⟨hz2,hs2' _ _ D.TIz (kk _ _ D.TIz D.TITO D.TIi1 D.TIi2 hTI),⟨u,u2,hs2' _ _ D.TOz hTO1⟩,h11.at λo q=>hs2' _ o D.i1z q,h21.at λo q=>hs2' _ o D.i2z q⟩,λc hc=>?_⟩
    have hlt:∃o,s.heap.get? c=ae o:=by
      obtain⟨o1,v1,e1,d1⟩:=h1.ob;obtain⟨o2,v2,e2,d2⟩:=h2.ob;simp only[av,bo,or_false]at hc;rcases hc with rfl |rfl |rfl |rfl |rfl
      · exact⟨_,hz⟩
      · exact⟨_,hTI⟩
      · exact⟨_,hTO⟩
      · exact⟨_,e1⟩
      · exact⟨_,e2⟩
    obtain⟨o,ho⟩:=hlt;rw[zaB (bx (aI ho))];exact(hf c hc).1
  done:=by
    intro X hP hw hK hc i pins s σ H E I hf st hg;subst hP hw hK;obtain⟨xs,ys,ha,hb,hx⟩:=hg;have Z:=zjT I (hf TO (by simp)).1 D st ha hb;obtain⟨hz,hTI,⟨c0,d0,hTO⟩,h1,h2⟩:=st;obtain⟨its,rv,pa,_⟩:=I.seq ha.sq;obtain⟨its2,rv2,pb,_⟩:=I.seq hb.sq;have hl:=rv.length;have hl2:=rv2.length;refine zut (I.ok.hd hc) Z hz hTI hTO h1 h2 pa pb ?_ λg eb=>⟨rfl,I.turnedL (fp:=[z,TI,TO,i1,i2]) (t':=s.toks) (λc o hc q=>?_) hf⟩
    · rcases hx with hx |hx
      · exact .inl (by simp;omega)
      · exact .inr (by simp;omega)
    · simp only[av,bo,or_false,not_or]at hc;exact eb c o hc.1 hc.2.2.1 hc.2.2.2.1 hc.2.2.2.2 q
  self:=λA i s Q E st h=>kN st.1 h
section
variable {X:Cx}{es:List Expr}{x1:Nat}{tpos:ay}
noncomputable def zAr (K:ai) (ta:TA):TI:=λσ H R=>ta σ H λvs H1=>∃k1 k2 a b xs ys,vs=[.ref a, .ref b]∧SqZ k1 K H1 a xs∧SqZ k2 K H1 b ys∧R (Itz k1 k2 K a b) H1
theorem zvX{a b:Expr}{ta:TA}{p pos:ay}(hg:Gl X "zip") (hm:X.mg "zip" =none) (ha:PA X [a,b] ta) (hs:ao [a,b] X.env=[(false,au a X.env),(false,au b X.env)]:=by rfl) (hs2:ao [b] X.env=[(false,au b X.env)]:=by rfl):PI X (.Tuple es x1 tpos) (.Call (.Name "zip" p) [a,b] [] pos) (zAr X.K ta):=by
 intro pins s σ H R I h;refine Call_ (zhu I hg hm boot_zip (gb (thn (ha pos pins s σ H _ I h) λus s1 ⟨vs,H1,I1,r1,q1⟩=>?_) (by rw[hs,hs2]) (by rw[hs2];rfl)));obtain⟨k1,k2,a,b,xs,ys,e,hq1,hq2,q⟩:=q1;subst e;cases r1 with
 |cons r rr=>
  cases rr with
  |cons r' rr=>
   cases rr;cases(show _=br a from r);cases(show _=br b from r');obtain⟨its,rv,pl,_⟩:=I1.seq hq1.sq;obtain⟨its2,rv2,pl2,_⟩:=I1.seq hq2.sq;refine zqR pl pl2 λg hz hTI hTO h1 h2 hz' kk=>kN hz ?_;have I2:Inv X pins σ H1 { s1 with heap:=g }:=I1.kept (t':=s1.toks) kk;have ne:∀(n i j:Nat),i≠j→n+i≠n+j:=λn i j h e=>h (Nat.add_left_cancel e);have D:ZipFar (s1.heap.objs.size+4) (s1.heap.objs.size+2) (s1.heap.objs.size+3) s1.heap.objs.size (s1.heap.objs.size+1):=
    ⟨ne _ 2 4 (by decide),ne _ 3 4 (by decide),ne _ 0 4 (by decide),ne _ 1 4 (by decide),ne _ 2 3 (by decide),ne _ 2 0 (by decide),ne _ 2 1 (by decide),ne _ 3 0 (by decide),ne _ 3 1 (by decide),ne _ 0 1 (by decide)⟩
   refine⟨_,_,_,_,H1,rfl,I2,zqk k1 k2 a b _ _ _ _ _ D,⟨hz,hTI,⟨_,_,hTO⟩,h1,h2⟩,λc hc=>?_,q⟩;have hb':s1.heap.objs.size≤c:=by
    simp only[av,bo,or_false]at hc;rcases hc with rfl |rfl |rfl |rfl |rfl
    ·exact fF _ _
    ·exact fF _ _
    ·exact fF _ _
    ·exact aB _
    ·exact fF _ _
   exact I1.fpOk hb' (I1.hok.fresh hb')
noncomputable def pairs:List W→List W→List W
 |x::xs,y::ys=> .tup [x,y]::pairs xs ys
 |_,_=>[]
theorem ziI:∀{xs ys:List W}{i:Nat}{u:W},(pairs xs ys)[i]? =ae u→ ∃x y,xs[i]? =ae x∧ys[i]? =ae y∧u= .tup [x,y]
 | [],_,_,_,h=>by simp [pairs]at h
 |_::_,[],_,_,h=>by simp [pairs]at h
 |x::xs,y::ys,0,u,h=>by
  simp [pairs]at h;exact⟨x,y,rfl,rfl,h.symm⟩
 |x::xs,y::ys,i+1,u,h=>by simpa using ziI (xs:=xs) (ys:=ys) (i:=i) (u:=u) (by simpa [pairs]using h)
theorem zjq:∀{xs ys:List W},(pairs xs ys).length=min xs.length ys.length
 | [],_=>by simp [pairs]
 |_::_,[]=>by simp [pairs]
 |x::xs,y::ys=>by simp [pairs,zjq (xs:=xs) (ys:=ys)]
theorem zvC{K:ai}{k1 k2:Bool}{a b:Addr}{ws us:List W}{G:Sto→Prop}{H0:Hp}{S0:Sto}(h:∀S H,Ext H0 S0 H S→RepS K H S→G S→(∃vs,SqZ k1 K H a vs∧Reps K H ws vs)∧ ∃vs,SqZ k2 K H b vs∧Reps K H us vs):ItW K (Itz k1 k2 K a b) (pairs ws us) G H0 S0:=λi S H e hS hG=>by
 obtain⟨⟨xs,hq,r⟩,⟨ys,hq2,r2⟩⟩:=h S H e hS hG;refine⟨λu eu=>?_,λhl=>⟨xs,ys,hq,hq2,?_⟩⟩
 ·obtain⟨x,y,ex,ey,rfl⟩:=ziI eu;obtain⟨v,ev,rv⟩:=r.get ex;obtain⟨v2,ev2,rv2⟩:=r2.get ey;refine⟨⟨xs,ys,v,v2,hq,hq2,ev,ev2⟩,λx H' ⟨p,y1,y2,hp,e1,e2,e3,e4⟩=>?_⟩;subst e1 e2;have f1:=e3 xs hq;have f2:=e4 ys hq2;rw[ev]at f1;cases f1;rw[ev2]at f2;cases f2;exact⟨.new hp,hS.new hp, .tup zaA (.cons (rv.ext (.new (S:=S) hp)) (.cons (rv2.ext (.new (S:=S) hp)) .nil))⟩
 ·rw[zjq]at hl;rw[←r.length,←r2.length];omega
theorem zkY{K:ai}{H:Hp}{S:Sto}{w:W}{v:V}{Q:List W→(Sto→Prop)→Prop}(r:Rep K H w v) (hS:RepS K H S) (h:zpc w S Q) :
  ∃k a ws G,v= .ref a∧G S∧(∀S' H',Ext H S H' S'→RepS K H' S'→G S'→ ∃vs,SqZ k K H' a vs∧Reps K H' ws vs)∧Q ws G:=by
 cases r with
 |tup f hs=>exact⟨false,_,_,_,rfl,trivial,λS' H' e hS' _=>⟨_,e.tup _ _ f,hs.ext e⟩,h⟩
 |ref a=>
  obtain⟨ws,ea,h⟩:=zbj h;exact⟨true,_,ws,_,rfl,ea,λS' H' e hS' g=>by
   obtain⟨vs,f,hs⟩:=hS' a _ g;exact⟨vs, .of f,hs⟩,h⟩
 |scr f=>exact⟨true,_,_,_,rfl,trivial,λS' H' e hS' _=>⟨_,(e.fz f).sq,Reps.ofInts _⟩,h⟩
 |_=>exact h.elim
noncomputable def zuL (t u:WE):WI:=λE σ S Q=>t E σ S λx S1=>u E σ S1 λy S2=>zpc x S2 λxs G=>zpc y S2 λys G'=>Q (pairs xs ys) (λS'=>G S'∧G' S') S2
theorem ziB{a b:Expr}{ta tb:WE}{p pos:ay}(hg:Gl X "zip") (hm:X.mg "zip" =none) (ha:JE X a ta) (hb:JE X b tb) (hs:ao [a,b] X.env=[(false,au a X.env),(false,au b X.env)]:=by rfl) (hs2:ao [b] X.env=[(false,au b X.env)]:=by rfl)
  (h3:ao [a,b] X.env=(false,au a X.env)::ao [b] X.env:=by rfl) (h4:ao [b] X.env=(false,au b X.env)::ao [] X.env:=by rfl):JI X (.Tuple es x1 tpos) (.Call (.Name "zip" p) [a,b] [] pos) (zuL ta tb):=λE hE=>
 (zvX hg hm (zcD (ha E hE) (zcD (hb E hE) pa_nil h4) h3) hs hs2).mono λσ H R ⟨σW,S,QW,hσ,hS,ht,hR⟩=>⟨σW,S,_,hσ,hS,ht,λx S1 v H1 e1 r1 hS1 h1=>⟨σW,S1,_,hσ.ext e1,hS1,h1,λy S2 v2 H2 e2 r2 hS2 h2=>by
  obtain⟨k1,a,ws,G,rfl,hG,hq,h⟩:=zkY (r1.ext e2) hS2 h2;obtain⟨k2,b,us,G',rfl,hG',hq',h⟩:=zkY r2 hS2 h;obtain⟨vs,hv,_⟩:=hq S2 H2 .refl hS2 hG;obtain⟨vs',hv',_⟩:=hq' S2 H2 .refl hS2 hG';exact⟨k1,k2,a,b,vs,vs',rfl,hv,hv',hR _ _ S2 _ H2 (e1.trans e2) hS2 ⟨hG,hG'⟩ (zvC λS' H' e hS' g=>⟨hq S' H' e hS' g.1,hq' S' H' e hS' g.2⟩) h⟩⟩⟩
end
section
noncomputable def zxj (hi:Int) (n:Nat):List W:=(aO n).map λ(i:Nat)=> .int (hi - (i:Int))
noncomputable def zAq (t:WA):WI:=λE σ S Q=>t E σ S λws S1=>match ws with
 | [.int i, .int j, .int c]=>c= -1∧(-(2 ^ 62)≤i∧i<2 ^ 62∧ -(2 ^ 62)≤j∧j<2 ^ 62)∧Q (zxj i (i - j).toNat) (λ_=>True) S1
 |_=>False
end
section
variable {X:Cx}{e:Expr}{es:List Expr}{t:WA}{p pos:ay}
noncomputable def zuU:WF:=λws S Q=>match ws with
 | [.int i]=>Q (.int i) S
 | [.bl b]=>Q (.int (if b then 1 else 0)) S
 |_=>False
theorem znj{K:ai}:zjZ K (λxs H Q=>(∃i,xs=[.int i]∧Q (.int i) H)∨ ∃k,xs=[.bl k]∧Q (.int (if k then 1 else 0)) H) zuU:=λH vs ws S Q QW r hS h hQ=>by
 cases r with
 |nil=>exact h.elim
 |cons r1 r2=>
  cases r2 with
  |cons _ _=>cases r1<;>exact h.elim
  |nil=>
   cases r1 with
   |int i=>exact .inl ⟨i,rfl,hQ _ S _ H .refl (.int _) hS h⟩
   |bl b=>exact .inr ⟨b,rfl,hQ _ S _ H .refl (.int _) hS h⟩
   |_=>exact h.elim
theorem zsM (hg:Gl X "int") (hm:X.mg "int" =none) (ha:JA X (e::es) t)
  (he:ao (e::es) X.env=(false,au e X.env)::ao es X.env:=by rfl) (hpl:(aP pos (ao es X.env)).any (·.1)=false:=by rfl):JE X (.Call (.Name "int" p) (e::es) [] pos) (wB zuU t):=
 zxq zoO znj hg hm cy ha (by decide) (by decide) he hpl
noncomputable def zzk:WF:=λws S Q=>match ws with
 | [.int i, .int j]=>Q (.int (if j > i then j else i)) S
 |_=>False
noncomputable def ziT:WF:=λws S Q=>match ws with
 | [.int i, .int j]=>Q (.int (if j<i then j else i)) S
 |_=>False
theorem zmF{K:ai}:zjZ K (λxs H Q=>∃i j,xs=[.int i, .int j]∧Q (.int (if j<i then j else i)) H) ziT:=λH vs ws S Q QW r hS h hQ=>by
 unfold ziT at h;split at h
 ·cases r with
  |cons r1 r2=>cases r2 with
   |cons r2 r3=>cases r3;cases r1;cases r2;exact⟨_,_,rfl,hQ _ S _ H .refl (.int _) hS h⟩
 ·exact h.elim
theorem zof{id:String}{r:List V→Hp→VK→Prop}{f:WF}{x:Str}(hc:X.calm=true→CallR X (.builtin id) r) (hw:zjZ X.K r f) (hg:Gl X x) (hm:X.mg x=none) (hv:bW x=ae (.builtin id)) (ha:JA X (e::es) t) (hn:x≠ "__name__" :=by decide) (hdb:(x == ("__debug__" :Str))=false:=by decide)
  (he:ao (e::es) X.env=(false,au e X.env)::ao es X.env:=by rfl) (hpl:(aP pos (ao es X.env)).any (·.1)=false:=by rfl) (hcl:X.calm=true:=by rfl):JE X (.Call (.Name x p) (e::es) [] pos) (wB f t):=λE hE=>zsn (hc hcl) hw hg hm hv ha hn hdb he hpl E hE
theorem zoX (hg:Gl X "min") (hm:X.mg "min" =none) (ha:JA X (e::es) t)
  (he:ao (e::es) X.env=(false,au e X.env)::ao es X.env:=by rfl) (hpl:(aP pos (ao es X.env)).any (·.1)=false:=by rfl) (hcl:X.calm=true:=by rfl):JE X (.Call (.Name "min" p) (e::es) [] pos) (wB ziT t):=zof zpJ zmF hg hm PyProof.Rows.boot_min ha (by decide) (by decide) he hpl hcl
theorem zub{tl:WL}(hg:Gl X "all") (hm:X.mg "all" =none) (ha:JL X e tl)
  (he:ao [e] X.env=(false,au e X.env)::ao [] X.env:=by rfl) (hpl:(aP pos (ao [] X.env)).any (·.1)=false:=by rfl) (hcl:X.calm=true:=by rfl):JE X (.Call (.Name "all" p) [e] [] pos) (wBL znq tl):=λE hE=>znL (zqt hcl) znQ hg hm PyProof.Rows.boot_all ha (by decide) (by decide) he hpl E hE
theorem zjG{tl:WL}(hg:Gl X "tuple") (hm:X.mg "tuple" =none) (ha:JL X e tl)
  (he:ao [e] X.env=(false,au e X.env)::ao [] X.env:=by rfl) (hpl:(aP pos (ao [] X.env)).any (·.1)=false:=by rfl):JE X (.Call (.Name "tuple" p) [e] [] pos) (wBL zfX tl):=zrO zeN zjY hg hm h_ ha (by decide) (by decide) he hpl
theorem zej (hg:Gl X "tuple") (hm:X.mg "tuple" =none) (ha:JA X (e::es) t)
  (he:ao (e::es) X.env=(false,au e X.env)::ao es X.env:=by rfl) (hpl:(aP pos (ao es X.env)).any (·.1)=false:=by rfl):JE X (.Call (.Name "tuple" p) (e::es) [] pos) (wB zdZ t):=zxq zeN zkm hg hm h_ ha (by decide) (by decide) he hpl
end
theorem zmZ{K:ai}:∀T∈ ["int", "bool", "str", "tuple", "list"],∀A∈ ["NoneType", "bool", "int", "str", "tuple", "list"],bQ K (.type A) (.type T)=ae (zbS A T):=by
 intro T hT A hA;simp only[av,bo,or_false]at hT hA;rcases hT with rfl |rfl |rfl |rfl |rfl<;>rcases hA with rfl |rfl |rfl |rfl |rfl |rfl<;>rfl
theorem gl0:∀(ws:List W) (σ:WSt) (S:Sto) (P:WSt→Sto→Prop),zcn ws σ S P→ws.length=0:=λws σ S P h=>by
 cases ws with
 |nil=>rfl
 |cons _ _=>exact h.elim
theorem glS{i n:Nat}{u:WGs}(h:∀(ws:List W) (σ:WSt) (S:Sto) (P:WSt→Sto→Prop),u ws σ S P→ws.length=n):∀(ws:List W) (σ:WSt) (S:Sto) (P:WSt→Sto→Prop),zay (wGN i) u ws σ S P→ws.length=n+1:=λws σ S P q=>by
 cases ws with
 |nil=>exact q.elim
 |cons w ws=>exact congrArg (· +1) (h _ _ _ _ q)
noncomputable def zba:WSp:=λ_ _ _ _=>False
theorem zvk{P:aF}{w:ax}{K:ai}{mg:Str→Option Value}{base:Heap}{f:Addr}{fd:bF}{ps:List Str}{k:Nat}:FnOk P w K mg base (CX1 P w) k f fd ps (zcG K zba):=
 ⟨λvs H Q E ⟨_,_,_,_,_,_,h,_⟩=>h.elim,λA outer s H args us vs Q E _ _ _ _ ⟨_,_,_,_,_,_,h,_⟩=>h.elim⟩
section
variable {X:Cx}{a b:Expr}{pos:ay}{ta tb:WE}{la lb:WL}
noncomputable def zuy (t:WL) (u:WE):WE:=λE σ S Q=>t E σ S λws S1=>u E σ S1 λy S2=>match y with
 | .int i=>match atI ws i with
  |some w=>Q w S2
  |none=>False
 |_=>False
theorem zod (ha:JL X a la) (hb:JE X b tb) (hs:zku b:=by intro _ _;rfl):JE X (.Subscript a b pos) (zuy la tb):=λE hE=>
 (zwE zsx (ha E hE) (hb E hE) hs).mono λσ H Q ⟨σW,S,QW,hσ,hS,ht,hQ⟩=>⟨σW,S,_,hσ,hS,ht,λws S1 vs p H1 e1 fp ep np r1 hS1 h1=>⟨σW,S1,_,hσ.ext e1,hS1,h1,λy S2 v2 H2 e2 r2 hS2 h2=>by
  cases r2 with
  |int i=>
   dsimp only at h2;split at h2
   ·obtain⟨v,ev,r⟩:=zkk (r1.ext e2) ‹_›;exact .inl ⟨p,vs,i,v,rfl,rfl, .of (e2.fr p _ ep np).1,ev,hQ _ S2 _ H2 (e1.trans e2) r hS2 h2⟩
   ·exact h2.elim
  |_=>exact h2.elim⟩⟩
noncomputable def zfC (t:WE) (u:WL):WL:=λE σ S Q=>t E σ S λx S1=>u E σ S1 λys S2=>match x with
 | .ref a=>zcz S2 a λxs=>xs.length+ys.length≤sizeLine∧Q (xs++ys) S2
 |_=>False
noncomputable def zjj (t u:WL):WL:=λE σ S Q=>t E σ S λxs S1=>u E σ S1 λys S2=>xs.length+ys.length≤sizeLine∧Q (xs++ys) S2
noncomputable def zrJ (t:WL) (u:WE):WL:=λE σ S Q=>t E σ S λxs S1=>u E σ S1 λy S2=>match y with
 | .ref a=>zcz S2 a λys=>xs.length+ys.length≤sizeLine∧Q (xs++ys) S2
 |_=>False
theorem zdH (ha:JE X a ta) (hb:JL X b lb):JL X (.BinOp a .Add b pos) (zfC ta lb):=λE hE=>
 (zno zmn (ha E hE) (hb E hE)).mono λσ H Q ⟨σW,S,QW,hσ,hS,ht,hQ⟩=>⟨σW,S,_,hσ,hS,ht,λw1 S1 v1 H1 e1 r1 hS1 h1=>⟨σW,S1,_,hσ.ext e1,hS1,h1,λys S2 us q H2 e2 fq eq nq r2 hS2 h2=>by
  cases r1 with
  |ref p=>
   obtain⟨xs,ea,h⟩:=zbj h2;obtain⟨vs,f1,q1⟩:=hS2 p _ ea;exact⟨p,q,vs,us,rfl,rfl,f1,eq,by rw[←q1.length,←r2.length];exact h.1,λp hp=>hQ _ S2 _ p _ ((e1.trans e2).trans (.new hp)) ((e1.trans e2).free hp) zaA (hS2.free hp) ((q1.append r2).ext (.new (S:=S2) hp)) (hS2.new hp) h.2⟩
  |_=>exact h2.elim⟩⟩
theorem zgj (ha:JL X a la) (hb:JL X b lb):JL X (.BinOp a .Add b pos) (zjj la lb):=λE hE=>
 (zno zmn (ha E hE) (hb E hE)).mono λσ H Q ⟨σW,S,QW,hσ,hS,ht,hQ⟩=>⟨σW,S,_,hσ,hS,ht,λxs S1 vs p H1 e1 fp ep np r1 hS1 h1=>⟨σW,S1,_,hσ.ext e1,hS1,h1,λys S2 us q H2 e2 fq eq nq r2 hS2 h2=>
  ⟨p,q,vs,us,rfl,rfl,(e2.fr p _ ep np).1,eq,by rw[←r1.length,←r2.length];exact h2.1,λz hz=>hQ _ S2 _ z _ ((e1.trans e2).trans (.new hz)) ((e1.trans e2).free hz) zaA (hS2.free hz) (((r1.ext e2).append r2).ext (.new (S:=S2) hz)) (hS2.new hz) h2.2⟩⟩⟩
theorem zuF (ha:JL X a la) (hb:JE X b tb):JL X (.BinOp a .Add b pos) (zrJ la tb):=λE hE=>
 (zno zmn (ha E hE) (hb E hE)).mono λσ H Q ⟨σW,S,QW,hσ,hS,ht,hQ⟩=>⟨σW,S,_,hσ,hS,ht,λxs S1 vs p H1 e1 fp ep np r1 hS1 h1=>⟨σW,S1,_,hσ.ext e1,hS1,h1,λy S2 v2 H2 e2 r2 hS2 h2=>by
  cases r2 with
  |ref q=>
   obtain⟨ys,ea,h⟩:=zbj h2;obtain⟨us,f2,q2⟩:=hS2 q _ ea;exact⟨p,q,vs,us,rfl,rfl,(e2.fr p _ ep np).1,f2,by rw[←r1.length,←q2.length];exact h.1,λz hz=>hQ _ S2 _ z _ ((e1.trans e2).trans (.new hz)) ((e1.trans e2).free hz) zaA (hS2.free hz) (((r1.ext e2).append q2).ext (.new (S:=S2) hz)) (hS2.new hz) h.2⟩
  |_=>exact h2.elim⟩⟩
noncomputable def zrz (t:WL) (u:WE):WL:=λE σ S Q=>t E σ S λxs S1=>u E σ S1 λy S2=>match y with
 | .int k=>(-(2 ^ 63)≤k∧k<2 ^ 63∧xs.length*k.toNat≤sizeLine)∧Q (aJ k.toNat xs).flatten S2
 |_=>False
theorem Reps.rep{K:ai}{H:Hp}{ws:List W}{vs:List V}(h:Reps K H ws vs):∀k:Nat,Reps K H (aJ k ws).flatten (aJ k vs).flatten
 |0=> .nil
 |k+1=>by
  rw[cf,cf,dE,dE];exact h.append (Reps.rep h k)
theorem zwd (ha:JL X a la) (hb:JE X b tb):JL X (.BinOp a .Mult b pos) (zrz la tb):=λE hE=>
 (zno zwc (ha E hE) (hb E hE)).mono λσ H Q ⟨σW,S,QW,hσ,hS,ht,hQ⟩=>⟨σW,S,_,hσ,hS,ht,λxs S1 vs p H1 e1 fp ep np r1 hS1 h1=>⟨σW,S1,_,hσ.ext e1,hS1,h1,λy S2 v2 H2 e2 r2 hS2 h2=>by
  cases r2 with
  |int k=>
   obtain⟨⟨k1,k2,k3⟩,h⟩:=h2;exact⟨p,k,vs,rfl,rfl,(e2.fr p _ ep np).1,k1,k2,by rw[←r1.length];exact k3,λz hz=>hQ _ S2 _ z _ ((e1.trans e2).trans (.new hz)) ((e1.trans e2).free hz) zaA (hS2.free hz) (((r1.ext e2).rep k.toNat).ext (.new (S:=S2) hz)) (hS2.new hz) h⟩
  |_=>exact h2.elim⟩⟩
end
theorem zrf{K:ai}{H:Hp}{a:Addr}{ns:List Int}{c:WSp}{E:XK}(hO:zxS H) (hS:SqL K H a (ns.map V.int)) (h:c [.scr ns] (λ_=>none) (λw _=>w= .bl true) (λ_ _=>False)):zcG K c [.ref a] H (λv _=>v= .bl true) E:=by
 have fz:FzL K H a (ns.map V.int):=by
  rcases hS with(hS |⟨o,hS⟩) |hS
  ·rcases hO a with z |⟨o,xs,z⟩
   ·rw[hS]at z;cases z
   ·rw[hS]at z;cases z
  ·exact .inl ⟨o,hS⟩
  ·exact .inr hS
 refine⟨[.scr ns],λ_=>none,_,λ_ _=>False, .one (.scr fz),(λa o e=>by cases e),h,λw S v H' e r hS' q=>?_,λ_ _ _ _ _ _ z=>z.elim⟩
 subst q;cases r;rfl
section
variable {X:Cx}{a b:Expr}{p pos:ay}
noncomputable def zqN:W2
 | .tup xs, .int k,S,Q=>(xs≠ []∧ -(2 ^ 63)≤k∧k<2 ^ 63∧xs.length*k.toNat≤sizeLine)∧Q (.tup (aJ k.toNat xs).flatten) S
 |_,_,_,_=>False
theorem zrD{K:ai}:OpW K (zvu K) zqN:=λH x y wx wy S Q QW rx ry hS h hQ=>by
 cases rx with
 | @tup a vs ws f hs=>
  cases ry with
  |int k=>
   obtain⟨⟨h0,h1,h2,h3⟩,h⟩:=h;have hl:=hs.length;refine⟨a,k,vs,rfl,rfl, .of f,?_,h1,h2,by rw[←hl];exact h3,λhk=>?_,λhk p hp=>?_⟩
   ·rintro rfl;cases hs;exact h0 rfl
   ·subst hk;have:(aJ (iL 1) ws).flatten=ws:=by simp
    rw[this]at h;exact hQ _ S _ H .refl (.tup f hs) hS h
   ·exact hQ _ S _ _ (.new hp) (.tup zaA ((hs.rep k.toNat).ext (.new (S:=S) hp))) (hS.new hp) h
  |_=>exact h.elim
 |_=>cases ry<;>exact h.elim
theorem zsS{ta tb:WE}(ha:JE X a ta) (hb:JE X b tb):JE X (.BinOp a .Mult b pos) (wOp zqN ta tb):=zkx ztH zrD ha hb
end
noncomputable def zfy (kvs:List (List Int×W)) (k:List Int):Option W:=(kvs.find? λkv=>decide (kv.1=k)).map (·.2)
noncomputable def zuc (kvs:List (List Int×W)) (k:List Int) (v:W):List (List Int×W):=
 if(kvs.any λkv=>decide (kv.1=k))=true then kvs.map (λkv=>if kv.1=k then(kv.1,v) else kv) else kvs++[(k,v)]
noncomputable def zbW:List W→Option (List Int)
 | []=>ae []
 | .int i::ws=>(zbW ws).map (i:: ·)
 |_=>none
noncomputable def znC:W→Option (List Int)
 | .tup ws=>zbW ws
 |_=>none
def zrr (S:Sto) (a:Addr) (P:List (List Int×W)→Prop):Prop:=match S a with
 |some (.dct kvs)=>P kvs
 |_=>False
theorem ztq{S:Sto}{a:Addr}{P:List (List Int×W)→Prop}(h:zrr S a P):∃kvs,S a=ae (.dct kvs)∧P kvs:=by
 unfold zrr at h;split at h
 ·exact⟨_, ‹_›,h⟩
 ·exact h.elim
theorem zkM{S:Sto}{a:Addr}{kvs:List (List Int×W)}{P:List (List Int×W)→Prop}(e:S a=ae (.dct kvs)):zrr S a P=P kvs:=by unfold zrr;rw[e]
section
variable {K:ai}{H:Hp}
noncomputable abbrev RepD (K:ai) (H:Hp):List (List Int×W)→List (List Key×V)→Prop:=bR λq p=>p.1=q.1.map Sum.inl∧Rep K H q.2 p.2
theorem zhC:∀{a b:List Int},a.map (Sum.inl:Int→Key)=b.map Sum.inl→a=b
 | [],[],_=>rfl
 | [],_::_,h=>by simp at h
 |_::_,[],h=>by simp at h
 |x::xs,y::ys,h=>by
  simp only[aD,iF,Sum.inl.injEq]at h;rw[h.1,zhC h.2]
theorem RepD.val{kvs:List (List Int×W)}{ps:List (List Key×V)}(r:RepD K H kvs ps) (k:List Int):(∀w,zfy kvs k=ae w→ ∃v,zlJ ps (k.map Sum.inl)=ae v∧Rep K H w v)∧(zfy kvs k=none→zlJ ps (k.map Sum.inl)=none):=by
 induction r with
 |nil=>exact⟨λw h=>by simp [zfy]at h,λ_=>rfl⟩
 | @cons q p kvs ps h t ih=>
  by_cases hk:q.1=k
  ·have e:p.1=k.map Sum.inl:=by rw[h.1,hk]
   rw[zfS e];have ew:zfy (q::kvs) k=ae q.2:=by simp [zfy,bS,hk]
   rw[ew];exact⟨λw z=>by cases z;exact⟨_,rfl,h.2⟩,λz=>by cases z⟩
  ·have e:¬p.1=k.map Sum.inl:=by rw[h.1];exact λz=>hk (zhC z)
   rw[zfI e];have ew:zfy (q::kvs) k=zfy kvs k:=by simp [zfy,bS,hk]
   rw[ew];exact ih
theorem RepD.any{kvs:List (List Int×W)}{ps:List (List Key×V)}(r:RepD K H kvs ps) (k:List Int):(ps.any λkv=>decide (kv.1=k.map Sum.inl))=kvs.any λkv=>decide (kv.1=k):=by
 induction r with
 |nil=>rfl
 | @cons q p kvs ps h t ih=>
  rw[dN,dN,ih];congr 1;apply decide_eq_decide.mpr;rw[h.1];exact⟨zhC,λz=>by rw[z]⟩
theorem RepD.put{kvs:List (List Int×W)}{ps:List (List Key×V)}(r:RepD K H kvs ps) (k:List Int) {w:W}{v:V}(rw':Rep K H w v):RepD K H (zuc kvs k w) (zoD ps (k.map Sum.inl) v):=by
 unfold zuc zoD;rw[r.any k];split
 ·rename_i hany;clear hany
  induction r with
  |nil=>exact .nil
  | @cons q p kvs ps h t ih=>
   rw[aD,aD];refine .cons ?_ ih;by_cases hk:q.1=k
   ·rw[if_pos hk,if_pos (by rw[h.1,hk])];exact⟨h.1,rw'⟩
   ·rw[if_neg hk,if_neg (by rw[h.1];exact λz=>hk (zhC z))];exact h
 ·rename_i hany;clear hany
  induction r with
  |nil=>exact .cons ⟨rfl,rw'⟩ .nil
  |cons h t ih=>exact .cons h ih
theorem RepD.length{kvs:List (List Int×W)}{ps:List (List Key×V)}(r:RepD K H kvs ps):kvs.length=ps.length:=eO r
theorem zhi:∀{ws:List W}{vs:List V}{k:List Int},Reps K H ws vs→zbW ws=ae k→vs=(k.map (Sum.inl:Int→Key)).map kV
 | [],_,_, .nil,e=>by cases e;rfl
 |w::ws,_,k, .cons r rs,e=>by
  cases r with
  |int i=>
   cases q:zbW ws with
   |none=>simp [zbW,q]at e
   |some ks=>
    simp only[zbW,q,fR,bq]at e;subst e;rw[zhi rs q];rfl
  |_=>simp [zbW]at e
theorem zkP{w:W}{v:V}{k:List Int}(r:Rep K H w v) (e:znC w=ae k):∃b,v= .ref b∧H b=ae (.tup ((k.map (Sum.inl:Int→Key)).map kV)):=by
 cases r with
 |tup f hs=>exact⟨_,rfl,by rw[f,zhi hs e]⟩
 |_=>simp [znC]at e
theorem ztS{S:Sto}{a:Addr}{kvs:List (List Int×W)}{y:V}{wy:W}{k:List Int}(hS:RepS K H S) (e:S a=ae (.dct kvs)) (ry:Rep K H wy y) (ek:znC wy=ae k):∃o,DGet H a y o∧(zfy kvs k=none→o=none)∧ ∀w,zfy kvs k=ae w→ ∃v,o=ae v∧Rep K H w v:=by
 obtain⟨ps,e1,r⟩:=hS a _ e;obtain⟨b,rfl,eb⟩:=zkP ry ek;have rv:=RepD.val r k;exact⟨zlJ ps (k.map Sum.inl), .t e1 eb,rv.2,rv.1⟩
end
noncomputable def zwN (neg:Bool):W2:=λy x S Q=>match x with
 | .ref a=>match znC y with
  |some k=>zrr S a λkvs=>Q (.bl (if neg then !(zfy kvs k).isSome else(zfy kvs k).isSome)) S
  |none=>False
 |_=>False
noncomputable def zyN:W2:=λx y S Q=>match x with
 | .ref a=>match znC y with
  |some k=>zrr S a λkvs=>match zfy kvs k with
   |some w=>Q w S
   |none=>False
  |none=>False
 |_=>False
section
variable {X:Cx}{a b o:Expr}{pos:ay}{ta tb:WE}
noncomputable def zzz (neg:Bool):R2:=λy x H Q=>∃a o,x= .ref a∧DGet H a y o∧Q (.bl (if neg then !o.isSome else o.isSome)) H
theorem zvO (hu:X.A.units+1<cLine):OpR X (bH .In) (zzz false):=by
 intro pins s σ H x y v u Q I rx ry h;obtain⟨a,o,rfl,g,q⟩:=h;cases ry;exact zAa hu I g rx λs3 I3=>⟨.bl o.isSome,H,I3,rfl,q⟩
theorem ztl{K:ai}{neg:Bool}:OpW K (zzz neg) (zwN neg):=λH x y wx wy S Q QW rx ry hS h hQ=>by
 unfold zwN at h;split at h
 ·split at h
  ·rename_i k ek;obtain⟨kvs,ea,h⟩:=ztq h;cases ry;obtain⟨o,g,g0,g1⟩:=ztS hS ea rx ek;have eo:o.isSome=(zfy kvs k).isSome:=by
    cases q:zfy kvs k with
    |none=>rw[g0 q];rfl
    |some w=>obtain⟨v,ev,_⟩:=g1 w q;rw[ev];rfl
   exact⟨_,o,rfl,g,by rw[eo];exact hQ _ S _ H .refl (.bl _) hS h⟩
  ·exact h.elim
 ·exact h.elim
theorem zwJ{k:Nat}(hr:Room k X.A) (ha:JE X a ta) (hb:JE X b tb) (hm:c8 .In b=false:=by with_unfolding_all rfl):JT X (.Compare a [.In] [b] pos) (wTb (wOp (zwN false) ta tb)):=
 zeA (zvO (by have:=hr.units;omega)) ztl ha hb hm
end
section
variable {X:Cx}{o e:Expr}{to:WE}{tl:WL}{apos cpos p pos:ay}
def zrS:V→List V→Hp→VK→Prop:=λx vs H Q=>∃z:Str,x= .str z∧vs=[]∧z.length≤5592405∧Q (.str (dA z)) H
theorem zrw:MtR X "str.upper" zrS:=by
 intro pins s σ H x vs v us Q I rx rv h;obtain⟨z,rfl,rfl,hz,q⟩:=h;obtain⟨t,rfl⟩:=rx;cases rv;exact SCL.upper hz λ_=>⟨.str (dA z),H,I.tok _,⟨_,rfl⟩,q⟩
noncomputable def zla:WMf:=λw ws S Q=>match w,ws with
 | .str z,[]=>z.length≤5592405∧Q (.str (dA z)) S
 |_,_=>False
theorem zpU{K:ai}:MtW K zrS zla:=λH x w vs ws S Q QW r rs hS h hQ=>by
 cases r with
 |str z=>
  cases rs with
  |nil=>exact⟨z,rfl,rfl,h.1,hQ _ S _ H .refl (.str _) hS h.2⟩
  |cons _ _=>exact h.elim
 |_=>exact h.elim
theorem zqL (ho:JE X o to) (hbase:cR o "upper" X.env (au o X.env)=au o X.env:=by rfl) (hline:(apos.endLine == cpos.line)=true:=by rfl):JE X (.Call (.Attribute o "upper" apos) [] [] cpos) (wM rvS zla to waNil):=
 zyr jm PySem.F.slot_str_upper PySem.F.type_str_upper zsz zrw zpU ho hbase hline
theorem zgK:∀(ns:List Int) (n:Nat),n≤ns.length→gy (λi=>ns.getD i 0) n=(ns.take n).sum
 |ns,0,_=>by simp [gy]
 |ns,n+1,h=>by
  rw[gy,zgK ns n (by omega),kB,je];congr 1;rw[bE,aU (by omega)];simp
theorem zpS (hc:X.calm=true):CallR X (.builtin "sum") (λxs H Q=>∃(p:Addr) (ns:List Int),xs=[.ref p]∧SqL X.K H p (ns.map V.int)∧Q (.int ns.sum) H):=by
 intro pins s σ H xs us Q I r h;obtain⟨p,ns,rfl,hq,q⟩:=h;obtain⟨u,rfl,rx⟩:=zil r;cases rx;obtain⟨its,r',pl,hz⟩:=I.list hq;have hlen:ns.length=its.length:=by have:=r'.length;rw[aq]at this;exact this
 have hp:p<s.heap.objs.size:=by obtain⟨o,n,e,_⟩:=pl;exact aI e
 have hd:X.A.in1.handled=none:=I.ok.hd hc;have get:∀(i:Nat) (v:Value),its.toArray[i]? =ae v→ ∃t,v= .int (ns.getD i 0) t:=λi v e=>by
  have e':its[i]? =ae v:=by simpa using e
  have hi:i<ns.length:=by rw[hlen];exact(bL.mp e').1
  obtain⟨u,hu,ru⟩:=r'.get (i:=i) (x:= .int (ns.getD i 0)) (by rw[aX,aU hi,bE,aU hi];rfl);rw[e']at hu;cases hu;exact ru
 refine call_sum_walkG (eQ pl.isList ?_);refine⟨s.heap.objs.size,_,_,_,_,_,λi=>ns.getD i 0,rfl,iV hd _ p (bx hp) its.toArray,⟨⟨_,bt _ rfl,rfl,rfl⟩,pl.isList.push _⟩,?_,λi v hP=>get i v hP,λh' tk t' hk=>?_⟩
 ·intro b hb;have hsz:∀o:Obj,(s.heap.push o).objs.size=s.heap.objs.size+1:=λo=>cJ ..;simp only[av,bo,or_false]at hb;show b<(s.heap.push _).objs.size;rw[hsz];rcases hb with rfl |rfl
  ·exact Nat.lt_succ_self _
  ·exact Nat.lt_succ_of_lt hp
 ·have e:gy (λi=>ns.getD i 0) its.toArray.size=ns.sum:=by
   rw[aQ,←hlen,zgK ns _ (aB _),h9]
  have I1:Inv X pins σ H { s with heap:=h',toks:=tk }:=I.kept λb o e=>hk b o (λz=>by
   have z':b=s.heap.objs.size:=by simpa using z
   rw[z']at e;exact absurd (aI e) (cp _)) (aK _ e)
  exact⟨.int _,H,I1,⟨t',by rw[e]⟩,q⟩
noncomputable def zmM:WF:=λws S Q=>match zbW ws with
 |some ns=>Q (.int ns.sum) S
 |none=>False
theorem zgH{K:ai}{H:Hp}:∀{ws:List W}{vs:List V}{ns:List Int},Reps K H ws vs→zbW ws=ae ns→vs=ns.map V.int
 | [],_,_, .nil,e=>by cases e;rfl
 |w::ws,_,ns, .cons r rs,e=>by
  cases r with
  |int i=>
   cases q:zbW ws with
   |none=>simp [zbW,q]at e
   |some ks=>
    simp only[zbW,q,fR,bq]at e;subst e;rw[zgH rs q];rfl
  |_=>simp [zbW]at e
theorem zpR{K:ai}:zmx K (λxs H Q=>∃(p:Addr) (ns:List Int),xs=[.ref p]∧SqL K H p (ns.map V.int)∧Q (.int ns.sum) H) zmM:=λH a vs ws S Q QW ea na r hS h hQ=>by
 unfold zmM at h;split at h
 ·rename_i ns e;have:=zgH r e;subst this;exact⟨a,ns,rfl, .of ea,hQ _ S _ H .refl (.int _) hS h⟩
 ·exact h.elim
theorem zpC (hg:Gl X "sum") (hm:X.mg "sum" =none) (ha:JL X e tl)
  (he:ao [e] X.env=(false,au e X.env)::ao [] X.env:=by rfl) (hpl:(aP pos (ao [] X.env)).any (·.1)=false:=by rfl) (hcl:X.calm=true:=by rfl):JE X (.Call (.Name "sum" p) [e] [] pos) (wBL zmM tl):=λE hE=>
 znL (zpS hcl) zpR hg hm PyProof.Rows.boot_sum ha (by decide) (by decide) he hpl E hE
end
theorem zoJ:im (.type "list") "keys" =pure none:=by rw[typeLookup_type,builtinLookup_eq_fast];kernel_rfl
theorem zjz:entryFor table "dict.update.loop" =ae bD.«dict.update.loop» :=entryFor_of_tree (by kernel_rfl)
theorem zeY:plainId "dict.update.loop" =true:=by decide +kernel
section
variable {prog:aF}{w:ax}{A:aM}{E:Value→ah→Prop}{s:ah}
theorem zih{a:Addr}{o:Obj}{xs:Array Value}{k:Nat}{name:Str}{Q:Option Value→ah→Prop}
  (hx : s.heap.get? a = ae o) (hc : o.cls = .type "list") (hdat : o.data = .seq xs k) (hd : o.dict = none) (hmiss : im (.type "list") name = pure none) (hname : (["__module__", "__name__", "__qualname__", "__doc__", "__annotations__"] : List Str).contains name = false) (hA : A.handled = none)
  (h:∀h' tk,(∀b o,s.heap.get? b=ae o→h'.get? b=ae o)→Q none { s with heap:=h',toks:=tk }) (hsz:name.length+100≤sizeLine:=by size_fits) :
  am (ap prog w) A (fS (.ref a) name) Q E s:=by
 obtain⟨c,dct,dat,sl⟩:=o;simp only at hc hdat hd;subst hc hdat hd;obtain⟨hp,g,d,tk,os⟩:=s;have hT:∀tk',(⟨hp,g,d,tk',os⟩:ah).TypeIs (.ref a) "list" :=λ_=>⟨_,hx,rfl⟩;have f1:=sub_AttributeError;have f3:=iU.lookup;have f4:=iU.bind (.ref a);have f5:=am_list_getattr_none;unfold fS getAttrBy? getAttrBy
 repeat (any_goals (first |assumption |exact hT _ | ((with_reducible show am _ _ (call (eg "list.__getattribute__") _ _) _ _ _);refine cH iU (hT _) am_entry_list_getattribute (F.args_list_getattribute_2 _ _) (meets_getattribute_miss_list a xs k sl name _ hmiss hname hsz) ⟨hx,hA,λh' tk' e hx'=>?_⟩) |wp_step))
 obtain⟨t',u',he⟩:=hx'.there;have hTe:∀tk',(⟨h',g,d,tk',os⟩:ah).TypeIs (.ref e) "AttributeError" :=λ_=>⟨_,he,rfl⟩;show am _ _ (k7 _ _ _ _ _ _ _) _ _ _;unfold k7
 repeat (any_goals (first |assumption |exact hTe _ |wp_step))
 exact h h' tk' hx'.keeps
end
section
variable {prog:aF}{w:ax}{A:aM}{R:eX→ah→Prop}{I l d:Addr}{items:Array Value}
noncomputable def zuk (xs:List (List Key×Addr×Value)) (ps:List (List Key×Addr)):List (List Key×Addr×Value):=ps.foldl (λxs p=>eU xs p.1 p.2 (.bool true)) xs
theorem zmC (hu:(cE (zbr prog w)).room A.in1) (hh:A.in1.handled=none) (hne:l≠I) (hdI:d≠I) (hdl:d≠l) (h0:Heap) (hd0:h0.get? d=none) (hI0:h0.get? I=none) (ps:List (List Key×Addr)) (hps:ps.length=items.size)
  (hp:∀(i:Nat) (p:List Key×Addr) (v:Value),ps[i]? =ae p→items[i]? =ae v→ ∃(t:Addr) (o:Obj) (n:Nat),v= .ref t∧h0.get? t=ae o∧o.cls= .type "tuple" ∧o.data= .seq #[.ref p.2, .bool true] n)
  (hk:∀p∈ps,(cE (zbr prog w)).is h0 p.1 p.2) :
  ∀(k i:Nat) (s:ah) (xs:List (List Key×Addr×Value)),items.size - i=k→i≤items.size→s.heap.IsListIter I l i→s.heap.IsList l items→(∀b o,h0.get? b=ae o→s.heap.get? b=ae o)→s.heap.DictOfH (cE (zbr prog w)) d xs→xs.length+(items.size - i)≤sizeLine→
  (∀h' tk,(∀b o,h0.get? b=ae o→h'.get? b=ae o)→h'.DictOfH (cE (zbr prog w)) d (zuk xs (ps.drop i))→R (.ok (.ret .none)) { s with heap:=h',toks:=tk })→
  cU (ap prog w) A (.builtin "dict.update.loop" ⟨[.ref d, .ref I,cm i, .none],[]⟩) R s:=by
 have W:=iV (prog:=prog) (w:=w) (A:=A.in1) hh I l hne items;intro k
 induction k with
 |zero=>
  intro i s xs hki hi hit hl hold hd hsz hR;have hin:i=items.size:=by omega
  subst hin;refine g_ zjz ?_;rw[jN zeY _];show am _ A.in1 (bX (.ref I) >>= _) _ _ s;refine ak (W.done s _ _ ⟨hit,hl⟩ λh' tk hk'=>?_);have hd':h'.DictOfH (cE (zbr prog w)) d xs:=by
   obtain⟨q,es,ep,q1,q2,q3,q4,q5,q6⟩:=hd;refine⟨q,es,ep,hk' d q (λz=>hdI (bn.mp z)) q1,q2,q3,q4,λx hx=>?_,q6⟩;obtain⟨ob,its,m,k1,k2,k3,k4⟩:=q5 x hx;refine⟨ob,its,m,hk' _ _ (λz=>?_) k1,k2,k3,k4⟩;obtain⟨oi,hi1,hi2,_⟩:=hit;rw[bn.mp z,hi1]at k1;cases k1;rw[k2]at hi2;exact absurd hi2 (by decide)
  show am _ A.in1 (bD.Dict.addKeywords d [] >>= _) _ _ _;refine ak (aE (aE (hR h' tk (λb o e=>hk' b o (λz=>by rw[bn.mp z,hI0]at e;cases e) (hold b o e)) ?_)))
  rw[fD (by omega)];exact hd'
 |succ k ih=>
  intro i s xs hki hi hit hl hold hd hsz hR;have hlt:i<items.size:=by omega
  refine g_ zjz ?_;rw[jN zeY _];show am _ A.in1 (bX (.ref I) >>= _) _ _ s;refine ak (W.item i s _ _ hlt ⟨hit,hl⟩ λv h' tk hP hst' hk'=>?_);obtain⟨p,hpi⟩:∃p,ps[i]? =ae p:=⟨ps[i],aU (by omega)⟩;obtain⟨t,o,n,rfl,ho,hc,hdat⟩:=hp i p v hpi hP;have ho':=hk' t o (λz=>by rw[bn.mp z]at ho;rw[hI0]at ho;cases ho) (hold t o ho)
  have hkey:(cE (zbr prog w)).is h' p.1 p.2:=by
   obtain⟨ob,its,m,k1,k2,k3,k4⟩:=hk p (a_ hpi);exact⟨ob,its,m,hk' _ _ (λz=>by rw[bn.mp z]at k1;rw[hI0]at k1;cases k1) (hold _ _ k1),k2,k3,k4⟩
  have hd':h'.DictOfH (cE (zbr prog w)) d xs:=by
   obtain⟨q,es,ep,q1,q2,q3,q4,q5,q6⟩:=hd;refine⟨q,es,ep,hk' d q (λz=>hdI (bn.mp z)) q1,q2,q3,q4,λx hx=>?_,q6⟩;obtain⟨ob,its,m,k1,k2,k3,k4⟩:=q5 x hx;refine⟨ob,its,m,hk' _ _ (λz=>?_) k1,k2,k3,k4⟩;obtain⟨oi,hi1,hi2,_⟩:=hit;rw[bn.mp z,hi1]at k1;cases k1;rw[k2]at hi2;exact absurd hi2 (by decide)
  show am _ A.in1 (holding [.ref t] _ >>= _) _ _ _;refine ak (fL ?_);refine ak (wpAny_tryCatch ?_);unfold bD.Dict.pairItems;refine ak (fu (T:= "tuple") ⟨o,ho',hc⟩ ?_);rw[if_pos (by decide)];refine ak (cV ho' hdat ?_);refine aE ?_;show am _ A.in1 (holding [.ref p.2, .bool true] (dictSet d (.ref p.2) (.bool true))) _ _ _;refine fL (wpAny_dictSet_heap (hsz:=by omega) hu hkey hd' λh2 hd2 hs2=>?_)
  refine aE ⟨plainId_quiet zeY _,?_⟩;have ei:((i:Int)+1)=((i+1:Nat):Int):=by omega
  rw[ei];have hln:(eU xs p.1 p.2 (dW true)).length≤xs.length+1:=by
   unfold eU;split<;>simp
  have hst2:=W.frame (i+1) h' h2 hst' λb hb o e=>by
   have hbd:b≠d:=by
    rcases av.mp hb with z |z
    ·rw[z];exact bg hdI
    ·rw[bn.mp z];exact bg hdl
   exact(hs2.2 b hbd).trans e
  refine ih (i+1) _ _ (by omega) (by omega) hst2.1 hst2.2 (λb o e=>?_) hd2 (by omega) λh3 tk3 old3 hd3=>?_
  ·have hbd:b≠d:=λz=>by rw[z,hd0]at e;cases e
   have hbI:b∉ [I]:=λz=>by rw[bn.mp z,hI0]at e;cases e
   exact(hs2.2 b hbd).trans (hk' b o hbI (hold b o e))
  ·refine hR h3 tk3 old3 ?_;have ed:ps.drop i=p::ps.drop (i+1):=by
    have hi':i<ps.length:=by omega
    rw[fE hi'];rw[aU hi']at hpi;cases hpi;rfl
   rw[ed];exact hd3
end
section
variable {X:Cx}{e:Expr}{p pos:ay}{tl:WL}
def zkT (H:Hp) (q:List Key) (v:V):Prop:=∃t b,v= .ref t∧H t=ae (.tup [.ref b, .bl true])∧H b=ae (.tup (q.map kV))
noncomputable def zmu (qs:List (List Key)):List (List Key×V):=qs.foldl (λkvs q=>zoD kvs q (.bl true)) []
theorem zis:∀(qs:List (List Key)) (kvs:List (List Key×V)),(qs.foldl (λkvs q=>zoD kvs q (V.bl true)) kvs).length≤kvs.length+qs.length
 | [],kvs=>by simp
 |q::qs,kvs=>by
  have h1:=zkN kvs q (V.bl true);have h2:=zis qs (zoD kvs q (.bl true));rw[dP,aV];omega
theorem KT.fold{H:Hp}:∀(ps:List (List Key×Addr)) {kvs:List (List Key×V)}{xs:List (List Key×Addr×Value)},KT H kvs xs→(∀p∈ps,H p.2=ae (.tup (p.1.map kV)))→KT H ((ps.map λp=>p.1).foldl (λkvs q=>zoD kvs q (.bl true)) kvs) (zuk xs ps)
 | [],_,_,r,_=>r
 |p::ps,kvs,xs,r,h=>by
  rw[aD,dP];exact KT.fold ps (r.put p.1 (h p aN) rfl) λp' hp'=>h p' (aH _ hp')
theorem zkZ{P:aF}{w:ax}{H:Hp}{h:Heap}(ok:HOk P w H h):∀{qs:List (List Key)}{vs:List V}{its:List Value},bR (zkT H) qs vs→Vals vs its→ ∃ps:List (List Key×Addr),(ps.map λp=>p.1)=qs∧
  (∀(i:Nat) (p:List Key×Addr) (v:Value),ps[i]? =ae p→its[i]? =ae v→ ∃(t:Addr) (o:Obj) (n:Nat),v= .ref t∧h.get? t=ae o∧o.cls= .type "tuple" ∧o.data= .seq #[.ref p.2, .bool true] n)∧ ∀p∈ps,H p.2=ae (.tup (p.1.map kV))
 |_,_,_, .nil, .nil=>⟨[],rfl,(λi p v h=>by simp at h),λ_ h=>nomatch h⟩
 |_,_,_, .cons (a:=q) hq hs, .cons hv hvs=>by
  obtain⟨ps,e,h1,h2⟩:=zkZ ok hs hvs;obtain⟨t,b,rfl,ht,hb⟩:=hq;refine⟨(q,b)::ps,by rw[aD,e],λi p v hp hv'=>?_,λp hp=>?_⟩
  ·cases i with
   |zero=>
    simp only[gw,bq]at hp hv';subst hp hv';obtain⟨_,its,r,o,g1,g2,n,g3⟩:=(show ObjOk P w H h t (.tup [.ref b, .bl true]) from ok t _ ht);cases r with
    |cons r1 r2=>
     cases r2 with
     |cons r3 r4=>
      cases r4;cases r1;cases r3;exact⟨t,o,n,hv,g1,g2,by simpa using g3⟩
   |succ i=>
    simp only[bU]at hp hv';exact h1 i p v hp hv'
  ·rcases av.mp hp with rfl |hp
   ·exact hb
   ·exact h2 p hp
theorem zmK (hc:X.calm=true) (hu:X.A.units+2<cLine):CallR X (.type "dict") (λxs H Q=>∃(l:Addr) (vs:List V) (qs:List (List Key)),xs=[.ref l]∧SqL X.K H l vs∧bR (zkT H) qs vs∧qs.length≤sizeLine∧ ∀d,H d=none→Q (.ref d) (upd H d (.dT (zmu qs)))):=by
 intro pins s σ H xs us Q I r h;obtain⟨l,vs,qs,rfl,hq,hp,hlen,q⟩:=h;obtain⟨u,rfl,rx⟩:=zil r;cases rx;obtain⟨its,r',pl,hz⟩:=I.list hq;have hd:X.A.in1.handled=none:=I.ok.hd hc;have hl:l<s.heap.objs.size:=by obtain⟨o,n,e,_⟩:=pl;exact aI e
 refine callType_codes (Q₁:=λobj s₁=>obj= .ref s.heap.objs.size∧s₁={ s with heap:=s.heap.push { cls:= .type "dict",data:= .dict #[] } }) F.kt_called_dict (F.kt_typeCall_dict_1 _) F.entry_dict_init (kt_code_dict_new _ ⟨rfl,rfl⟩) ?_;rintro obj s₁ ⟨rfl,rfl⟩;have hT:({ s with heap:=s.heap.push { cls:= .type "dict",data:= .dict #[] } }:ah).TypeIs (.ref s.heap.objs.size) "dict" :=⟨_,bt _ rfl,rfl⟩;refine⟨hT,F.args_dict_init_2 _ _,?_⟩;unfold bD.«dict.__init__»;refine ak ?_;unfold bD.Dict.selfAndRest;refine ak (wpAny_notOrdered_dict hT ?_);show am _ _ (pure (s.heap.objs.size,[br l])) _ _ _;refine aE ?_;show am _ _ (kT "dict.__init__" s.heap.objs.size (.ref l) [] .none) _ _ _;unfold kT;obtain⟨ol,nl,hol,hcl,hdl,hnl⟩:=pl;have hol1:=aK { cls:= .type "dict",data:= .dict #[] } hol;obtain⟨ps,eqs,hps,hks⟩:=zkZ I.hok hp r';have hplen:ps.length=its.toArray.size:=by
  have h1:=congrArg dk eqs;have h2:=eO hp;have h3:=r'.length;rw[aq]at h1;rw[aQ];omega
 refine ak (fu (T:= "list") ⟨ol,hol1,hcl⟩ ?_);dsimp only;rw[if_pos (by decide)];refine ak (zih hol1 hcl hnl hdl zoJ (by decide +kernel) hd λh1 tk1 kp1=>?_);rw[if_pos (show(none:Option Value).isNone=true from rfl)];refine ak (dJ ?_);have hl1:h1.IsList l its.toArray:=⟨ol,kp1 _ _ hol1,hcl,nl,hnl⟩;refine ak (eQ hl1 ?_);refine aE ⟨plainId_quiet zeY _,?_⟩;have hd1:h1.get? s.heap.objs.size=ae { cls:= .type "dict",data:= .dict #[] }:=kp1 _ _ (bt _ rfl);have hdlt:=aI hd1;have hI0:s.heap.get? h1.objs.size=none:=by
  cases z:s.heap.get? h1.objs.size with
  |none=>rfl
  |some ob=>exact absurd (aI (kp1 _ _ (aK _ z))) (cp _)
 have hd0:s.heap.get? s.heap.objs.size=none:=by
  cases z:s.heap.get? s.heap.objs.size with
  |none=>rfl
  |some ob=>exact absurd (aI z) (cp _)
 refine zmC (A:=X.A.in1) (I:=h1.objs.size) (l:=l) (d:=s.heap.objs.size) (items:=its.toArray) ?_ hd (bx (Nat.lt_trans hl hdlt)) (bx hdlt) (cM hl) s.heap hd0 hI0 ps hplen (λi p v h1 h2=>hps i p v h1 (by simpa using h2)) (λp hp=>zpE I.hok (hks p hp)) _ 0 _ [] rfl (aS _) ?_ ?_ ?_ ?_ ?_ λh' tk' old' hd'=>?_
 ·exact kg (A:=X.A.in1) (show X.A.in1.units+1<cLine from by have:X.A.in1.units=X.A.units+1:=rfl;omega)
 ·exact⟨_,bt _ rfl,rfl,rfl⟩
 ·exact hl1.push _
 ·exact λb o e=>aK _ (kp1 _ _ (aK _ e))
 ·refine⟨_, #[],0,aK _ hd1,?_,rfl,rfl,(λx hx=>nomatch hx),List.nodup_nil⟩
  first |exact⟨rfl,rfl⟩ |exact rfl |exact .inl rfl | (unfold Obj.ExactDict;simp)
 ·rw[ef,←hplen];have h1:=congrArg dk eqs;rw[aq]at h1;omega
 ·rw[dh]at hd';obtain⟨o',es,ep,g1,g2,g3,g4,g5,g6⟩:=hd';have hl0:=zis qs [];have kt:KT H (zmu qs) (zuk [] ps):=by
   have:=KT.fold ps (show KT H [] [] from .nil) hks;rw[eqs]at this;exact this
  refine⟨rfl, .ref s.heap.objs.size,_,I.laid (t':=tk') (o:= .dT (zmu qs)) old' (aB _) ⟨?_,?_,_,kt.keeps λb ys eb=>?_,o',es,ep,g1,g2,g3,g4,g6⟩,rfl,q _ (I.hok.fresh (aB _))⟩
  ·simp only[ef,cP]at hl0;exact bM hl0 hlen
  ·have:=I.big;exact beq_eq_false_iff_ne.mpr (cM this)
  ·rw[zaB (zas eb (I.hok.fresh (aB _)))];exact eb
noncomputable def zeq:List W→Option (List (List Int))
 | []=>ae []
 | .tup [k, .bl true]::ws=>match znC k,zeq ws with
  |some q,ae qs=>ae (q::qs)
  |_,_=>none
 |_=>none
noncomputable def zgW (qs:List (List Int)):List (List Int×W):=qs.foldl (λkvs k=>zuc kvs k (.bl true)) []
noncomputable def zjW:WF:=λws S Q=>match zeq ws with
 |some qs=>qs.length≤1000000∧ ∀a,S a=none→Q (.ref a) (put S a (.dct (zgW qs)))
 |none=>False
theorem zjv{K:ai}{H:Hp}:∀{ws:List W}{vs:List V}{qs:List (List Int)},Reps K H ws vs→zeq ws=ae qs→bR (zkT H) (qs.map λq=>q.map Sum.inl) vs
 | [],_,_, .nil,e=>by
  simp only[zeq,bq]at e;subst e;exact .nil
 |w::ws,_,qs, .cons r rs,e=>by
  cases w with
  |tup us=>
   rcases us with _ |⟨k,_ |⟨b,_ |⟨x,us⟩⟩⟩
   ·simp [zeq]at e
   ·simp [zeq]at e
   ·cases b with
    |bl b=>
     cases b with
     |true=>
      simp only[zeq]at e;cases e1:znC k with
      |none=>rw[e1]at e;simp at e
      |some q=>
       cases e2:zeq ws with
       |none=>rw[e1,e2]at e;simp at e
       |some qs'=>
        rw[e1,e2]at e;simp only[bq]at e;subst e;cases r with
        | @tup t vs' _ ft hs=>
         cases hs with
         |cons r1 r2=>
          cases r2 with
          |cons r3 r4=>
           cases r4;cases r3;obtain⟨b,rfl,eb⟩:=zkP r1 e1;exact .cons ⟨t,b,rfl,ft,eb⟩ (zjv rs e2)
     |false=>simp [zeq]at e
    |_=>simp [zeq]at e
   ·cases b<;>simp [zeq]at e
  |_=>simp [zeq]at e
theorem zjQ{K:ai}{H:Hp}:∀(qs:List (List Int)) {kvs:List (List Int×W)}{ps:List (List Key×V)},RepD K H kvs ps→RepD K H (qs.foldl (λkvs k=>zuc kvs k (.bl true)) kvs) ((qs.map λq=>q.map Sum.inl).foldl (λkvs q=>zoD kvs q (.bl true)) ps)
 | [],_,_,r=>r
 |q::qs,_,_,r=>by
  rw[aD,dP,dP];exact zjQ qs (r.put q (.bl true))
theorem zmS{K:ai}:zmx K (λxs H Q=>∃(l:Addr) (vs:List V) (qs:List (List Key)),xs=[.ref l]∧SqL K H l vs∧bR (zkT H) qs vs∧qs.length≤sizeLine∧ ∀d,H d=none→Q (.ref d) (upd H d (.dT (zmu qs)))) zjW:=λH a vs ws S Q QW ea na r hS h hQ=>by
 unfold zjW at h;split at h
 ·rename_i qs e;have hp:=zjv r e;refine⟨a,vs,_,rfl, .of ea,hp,?_,λd hd=>?_⟩
  ·rw[aq,dC];omega
  ·have rd:RepD K H (zgW qs) (zmu (qs.map λq=>q.map Sum.inl)):=zjQ qs (show RepD K H [] [] from .nil);have x:Ext H S (upd H d (.dT (zmu (qs.map λq=>q.map Sum.inl)))) (put S d (.dct (zgW qs))):= .newS hd;refine hQ (.ref d) (put S d (.dct (zgW qs))) (.ref d) _ x (.ref d) (λb o q=>?_) (h.2 d (hS.free hd));by_cases hb:b=d
   ·subst hb;rw[zag]at q;cases q;exact⟨_,zaA,Paired.mapP rd λ_ _ z=>⟨z.1,z.2.ext x⟩⟩
   ·rw[zaN hb]at q;exact hS.new hd b o q
 ·exact h.elim
theorem zrp{k:Nat}(hr:Room k X.A) (hg:Gl X "dict") (hm:X.mg "dict" =none) (ha:JL X e tl)
  (he:ao [e] X.env=(false,au e X.env)::ao [] X.env:=by rfl) (hpl:(aP pos (ao [] X.env)).any (·.1)=false:=by rfl) (hcl:X.calm=true:=by rfl):JE X (.Call (.Name "dict" p) [e] [] pos) (wBL zjW tl):=λE hE=>
 zrO (zmK hcl (by have:=hr.units;omega)) zmS hg hm PyProof.Rows.boot_dict ha (by decide) (by decide) he hpl E hE
theorem _root_.pz{a b:Prop}(h:a→b) (g:b→a):a=b:=propext ⟨h,g⟩
theorem zrG{ws:List W}{S:Sto}{Q:WK}:(zjW ws S Q)=(match zeq ws with
 |some qs=>qs.length≤1000000∧ ∀a,S a=none→Q (.ref a) (put S a (.dct (zgW qs)))
 |none=>False):=pz id id
theorem zjw:∀ps:List (List Int),zeq (ps.map λp=>W.tup [.tup (p.map W.int), .bl true])=ae ps
 | []=>rfl
 |p::ps=>by
  have e:znC (.tup (p.map W.int))=ae p:=by
   show zbW (p.map W.int)=ae p
   induction p with
   |nil=>rfl
   |cons i p ih=>rw[aD,zbW,ih];rfl
  rw[aD,zeq,e,zjw ps]
theorem zrH (kvs:List (List Int×W)) (q k:List Int) (v:W):(zfy (zuc kvs q v) k).isSome=(decide (k=q) || (zfy kvs k).isSome):=by
 have e:∀kvs:List (List Int×W),(zfy kvs k).isSome=kvs.any λkv=>decide (kv.1=k):=λkvs=>by
  unfold zfy;rw[iJ]
  induction kvs with
  |nil=>rfl
  |cons a kvs ih=>
   rw[bS,dN];cases decide (a.1=k) with
   |true=>rfl
   |false=>simpa using ih
 rw[e,e];unfold zuc;split
 ·rename_i h;have:(kvs.map λkv=>if kv.1=q then(kv.1,v) else kv).any (λkv=>decide (kv.1=k))=kvs.any λkv=>decide (kv.1=k):=by
   rw[List.any_map];congr 1;funext kv;simp only[jI];split<;>rfl
  rw[this];by_cases hk:k=q
  ·subst hk;rw[h];simp
  ·rw[decide_eq_false hk,kX]
 ·rw[List.any_append];simp only[dN,List.any_nil,j_];rw[Bool.or_comm];congr 1;apply decide_eq_decide.mpr;exact eq_comm
theorem zlz:∀(qs:List (List Int)) (kvs:List (List Int×W)) (k:List Int),(zfy (qs.foldl (λkvs k=>zuc kvs k (.bl true)) kvs) k).isSome=(decide (k∈qs) || (zfy kvs k).isSome)
 | [],kvs,k=>by simp
 |q::qs,kvs,k=>by
  rw[dP,zlz qs,zrH,←Bool.or_assoc];congr 1;rw[eF];simp only[kK,decide_eq_true_eq,av];exact or_comm
theorem zjJ (qs:List (List Int)) (k:List Int):(zfy (zgW qs) k).isSome=decide (k∈qs):=by
 unfold zgW;rw[zlz];simp [zfy]
end
end L2
end
section
namespace L2
open PySem PySem.Spec PyProof.Rows PySem.W PySem.Calls Builtin Builtin.ObjectAttr Builtin.Getset_descriptor
structure XcOk (K:Frag) (C:Addr):Prop where
  ga:findIn K (.ref C) "__getattribute__" =ae (ae (.builtin "BaseException.__getattribute__"))
  gt:findIn K (.ref C) "__getattr__" =ae none
  cl:findIn K (.ref C) "__class__" =ae (ae (.builtin "object.__class__"))
  ob:mroIn K C (.type "object")=ae true
  be:mroIn K C (.type "BaseException")=ae true
section
variable {prog:aF}{w:ax}{A:aM}{E:Value→ah→Prop}{h:Heap}{g:Array ij}{d:Drawn}{t:Nat}{os:OsState}{a C:Addr}{o:Obj}{K:Frag}
theorem zsU{M:c6}(hx:h.get? a=ae o) (hc:o.cls= .ref C):Looks M h (d6 (.ref a)) (.ref C):=hc▸(Looks.ld hx).andThen .now
theorem zxl{R:eX→ah→Prop}(O:XcOk K C) (X:K.In h) (hx:h.get? a=ae o) (hc:o.cls= .ref C) (hq:R (.ok (.ret (.ref C))) ⟨h,g,d,t,os⟩) :
  cU (ap prog w) A (.call (.builtin "getset_descriptor.__get__") ⟨[.builtin "object.__class__", .ref a, .ref C],[]⟩) R ⟨h,g,d,t,os⟩:=by
 have L0:=zsU (M:=ap prog w) hx hc;have L1:=looks_mroIn (M:=ap prog w) X O.ob;refine jj KF.slot_gs.plain KF.entry_gs (KF.slot_gs.check _ _ _ _ _ _ _ _ KF.type_class (KF.args_gs _ _ _) ?_);unfold bD.«getset_descriptor.__get__» descrGet;rw[dga_obj];refine ak (aE ?_);unfold descrGetter descrCheckInstance descrNameAndClass iW;simp only[KF.owner_class]
 repeat lk
 refine⟨Code.quiet_builtin _ (by decide +kernel),g_ KF.entry_class ?_⟩;unfold bD.«object.__class__» shownTypeOf
 repeat lk
 exact hq
theorem zrj{tk:bc}{Q:Fin→ah→Prop}(O:XcOk K C) (X:K.In h) (hx:h.get? a=ae o) (hc:o.cls= .ref C) (hq:Q (.done (.ret (.ref C))) ⟨h,g,d,t,os⟩) :
  am (ap prog w) A (bD.«object.__getattribute__» ⟨[.ref a, .str "__class__" tk],[]⟩) Q E ⟨h,g,d,t,os⟩:=by
 have hT5:(⟨h,g,d,t,os⟩:ah).TypeIs (.builtin "object.__class__") "getset_descriptor" :=jS;have f5:=jS;have f6:=F.slot_gs_get.lookup;have f7:=F.slot_gs_set.lookup;have L1:=looks_findIn (M:=ap prog w) X O.cl
 repeat (any_goals (first |assumption | (with_reducible refine ig hx ?_;rw[hc]) |with_reducible refine L1.at ?_ |wp_step))
 refine zxl O X hx hc ?_
 repeat (any_goals (first |assumption |wp_step))
theorem zqi{M:c6}{nameV:Value}{Q:Unit→ah→Prop}(O:XcOk K C) (X:K.In h) (hx:h.get? a=ae o) (hc:o.cls= .ref C) (hq:Q () ⟨h,g,d,t,os⟩):am M A (kG "BaseException.__getattribute__" ⟨[.ref a,nameV],[]⟩) Q E ⟨h,g,d,t,os⟩:=by
 have hk:builtinKind "BaseException.__getattribute__" =ae .slot:=by decide +kernel
 have hsplit:splitId "BaseException.__getattribute__" =ae ("BaseException", "__getattribute__"):=by decide +kernel
 have L1:=looks_mroIn (M:=M) X O.be;have ha:=F.args_bexc_ga (.ref a) nameV;simp only[kG,hk,hsplit];refine ak ?_;unfold iW
 repeat (first | (with_reducible refine ig hx ?_;rw[hc]) |with_reducible refine L1.at ?_ |wp_step)
 exact hq
theorem zuf{tk:bc}{R:eX→ah→Prop}(O:XcOk K C) (X:K.In h) (hx:h.get? a=ae o) (hc:o.cls= .ref C) (hq:R (.ok (.ret (.ref C))) ⟨h,g,d,t,os⟩) :
  cU (ap prog w) A (.call (.builtin "BaseException.__getattribute__") ⟨[.ref a, .str "__class__" tk],[]⟩) R ⟨h,g,d,t,os⟩:=
 jj ky.ga.plain F.entry_bexc_ga (zqi O X hx hc (zrj O X hx hc hq))
theorem zya{tk:bc}{fill expr:Bool}{Q:Value→ah→Prop}(O:XcOk K C) (X:K.In h) (hx:h.get? a=ae o) (hc:o.cls= .ref C) (hq:Q (.ref C) ⟨h,g,d,t,os⟩) :
  am (ap prog w) A (getAttrBy (.ref a) (.str "__class__" tk) fill expr) Q E ⟨h,g,d,t,os⟩:=by
 have f3:=ky.ga.bind (.ref a);have hx0:(expr&&onTheHeap (eg "BaseException.__getattribute__"))=false:=by cases expr<;>rfl
 have hx2:(eg "BaseException.__getattribute__" == eg "object.__getattribute__")=false:=by decide +kernel
 have hx1:(onTheHeap (br C)&&eg "BaseException.__getattribute__" == eg "object.__getattribute__")=false:=by rw[hx2];rfl
 have L1:=looks_findIn (M:=ap prog w) X O.ga;have L2:=looks_findIn (M:=ap prog w) X O.gt
 repeat (any_goals (first |assumption | (with_reducible refine ig hx ?_;rw[hc]) |with_reducible refine L1.at ?_ |with_reducible refine L2.at ?_ |wp_step))
 refine zuf O X hx hc ?_
 repeat (any_goals (first |assumption |wp_step))
theorem ztf{Q:Option Value→ah→Prop}(O:XcOk K C) (X:K.In h) (hx:h.get? a=ae o) (hc:o.cls= .ref C) (hq:Q (ae (.ref C)) ⟨h,g,d,t+1,os⟩):am (ap prog w) A (fS (.ref a) "__class__") Q E ⟨h,g,d,t,os⟩:=by
 unfold fS getAttrBy?
 repeat (any_goals (first |assumption |with_reducible apply zya O X hx hc |wp_step))
theorem zqX (O:XcOk K C):KitX K (.ref a) (.ref C) (λh=>∃o,h.get? a=ae o∧o.cls= .ref C) where
  ty:=λ_ _ _ ⟨o,hx,hc⟩=>zsU hx hc
  it:=λ_ _ X _=>by
    obtain⟨cd,hcD,_⟩:=kU.mp O.ob;unfold clsIn at hcD;split at hcD
    · rename_i c' d' cd' sl' ho;intro A' Q' E' s' k q;unfold isType loadHead;exact ak (wpAny_loadPart (k _ _ (X _ _ ho)) (aE q))
    · cases hcD
  ne:=λh tp dd its n sl X htp=>by
    obtain⟨cd,hcD,_⟩:=kU.mp O.ob;refine dH.mpr λq=>?_;have e:C=tp:=jG (beq_iff_eq.mp q);subst e;unfold clsIn at hcD;split at hcD
    · rename_i c' d' cd' sl' ho;have z:=(X _ _ ho).symm.trans htp;cases z
    · cases hcD
  ca:=λ{_ _ _ _ _ s} X ⟨o,hx,hc⟩ k=>by
    obtain⟨h,g,d,t,os⟩:=s;exact ztf O X hx hc k
end
noncomputable abbrev bmV:List Value:=[.type "ValueError", .type "Exception", .type "BaseException", .type "object"]
structure XcIn (K:ai) (x:Str) (C:Addr):Prop where
  nm:aT K aL x=ae (ae (.ref C))
  ex:eW K C bmV "ValueError.__new__" =true
  xc:XcOk K C
theorem XcIn.own{K:ai}{x:Str}{C:Addr}{h:Heap}{mg:Str→Option Value}(O:XcIn K x C) (X:K.In h) (G:h.Ns aL mg):OwnCls x C bmV "ValueError.__new__" mg h:=by
 have q:=O.ex;refine⟨aY X G O.nm,?_⟩;unfold eW at q;split at q
 ·rename_i dd cd sl ho;split at q
  ·rename_i C' bm k0 k1 k2 k3 n k5 hm hs;simp only[ce,beq_iff_eq,Bool.not_eq_true']at q;obtain⟨⟨⟨⟨⟨rfl,hnn⟩,hdel⟩,ht⟩,hok⟩,hni⟩:=q;obtain⟨nm,bs,mro,ns,qn,hd,sn,sub,ab,col,del⟩:=cd;dsimp only at hm hdel hok hni;subst hm hdel;have hsl:sl= #[k0,k1,k2,k3,ae (.builtin n),k5]:=by
    obtain⟨l⟩:=sl;simp only at hs;rw[hs]
   subst hsl;subst hnn;exact⟨bm,ns,nm,qn,bs,hd,sn,sub,ab,col,dd,k0,k1,k2,k3,k5,_,X _ _ ho, .of_isNs (PySem.W.isNs_of_in X hok),PySem.W.nsMap_none_of_in X hok hni,PySem.W.tail_of_in X ht⟩
  ·cases q
 ·cases q
noncomputable def ziV (x:Str) (t:WA):WS:=λE _ σ S=>t E σ S λws S1=>ws.length≤sizeLine∧E x σ S1
theorem zhK{X:Cx}{x:Str}{C:Addr}{e:Expr}{es:List Expr}{t:WA}{np cpos pos:ay}(O:XcIn X.K x C) (hg:Gl X x) (hm:X.mg x=ae (.ref C)) (ha:JA X (e::es) t) (hcl:X.calm=true:=by rfl) (hdb:(x == ("__debug__" :Str))=false:=by decide)
  (he:ao (e::es) X.env=(false,au e X.env)::ao es X.env:=by rfl) (hpl:(aP cpos (ao es X.env)).any (·.1)=false:=by rfl) :
  JS X (.Raise (ae (.Call (.Name x np) (e::es) [] cpos)) none pos) (ziV x t):=λE hE pins s σ H D I z=>by
 obtain⟨σW,S,DW,hσ,hS,ht,hD⟩:=z;have OC:=(O.own I.mod.kin I.mod.glob).keeps I.bk;obtain⟨tl,N,nm,q,bs,hdct,sn,sub,ab,col,dd,k0,k1,k2,k3,k5,mN,hC,hN,hni,T⟩:=(O.own I.mod.kin I.mod.glob).obj;refine wpAny_Raise_call_subT (C:=C) (nm:=nm) (q:=q) (N:=N) (bs:=bs) (bm:=tl) (hdct:=hdct) (sn:=sn) (sub:=sub) (ab:=ab) (col:=col) (dd:=dd) (k0:=k0) (k1:=k1) (k2:=k2) (k3:=k3) (k5:=k5)
  ja (mN:=mN) (T.hasType ja.hasBase) (I.ok.hd hcl) (by rw[he];show(false || (aP cpos (ao es X.env)).any (·.1))=false;rw[hpl];rfl) hni (zgO I hg hm ⟨rfl,?_⟩ hdb)
 have go:=ha E hE cpos pins s σ H (λvs H1=>∃ws S1,Reps X.K H1 ws vs∧RpSt X.K H1 σW σ∧RepS X.K H1 S1∧ws.length≤sizeLine∧E x σW S1) I ⟨σW,S,_,hσ,hS,ht,λws S1 vs H1 e1 r1 hS1 h1=>⟨ws,S1,r1,hσ.ext e1,hS1,h1.1,h1.2⟩⟩;rw[he]at go⊢;refine j5 (b3 go (λus s2 ⟨vs,H1,I1,r,ws,S1,r1,hσ1,hS1,hl,h1⟩=>?_) λ_ _ y=>y);refine⟨rfl,by rw[←r.length,←r1.length];exact hl,I1.bk _ _ hC,hN.keeps I1.bk,T.keeps I1.bk,λh' a me=>?_⟩
 exact hE.near pins σ H1 s2 σW x C a S1 h' us I1 hσ1 O.nm me hS1 h1
noncomputable abbrev noX:WX:=λ_ _ _=>False
theorem zwO{X:Cx}(h:cY (ap X.prog X.w) X.A X.env X.xe):Hook X noX:=⟨h,λ_ _ _ _ _ _ _ _ _ _ _ _ _ _ _ _ _ _ _ _ z=>z.elim,λ_ _ _ _ _ _ _ _ _ _ _ _ _ _ _ _ z=>z.elim⟩
noncomputable abbrev Cx.at (X:Cx) (pn:List (Addr×Obj)) (E:Value→ah→Prop):Cx:={ X with pn:=pn,xe:=E }
section
variable {X:Cx}{pins pins':List (Addr×Obj)}{σ:St}{H:Hp}{s:ah}{E:Value→ah→Prop}
theorem Cx.Ok.at (ok:X.Ok) (pn:List (Addr×Obj)) (E:Value→ah→Prop):(X.at pn E).Ok:=
 ⟨ok.mod,ok.kind,ok.glob,ok.blt,ok.above,ok.inj,ok.has,ok.cab,ok.hd,ok.frames,ok.stk,ok.exf,ok.bs,ok.bsz,ok.noex,ok.exfs,ok.funs,ok.frf⟩
theorem Cx.Ok.unat{pn:List (Addr×Obj)}(ok:(X.at pn E).Ok):X.Ok:=
 ⟨ok.mod,ok.kind,ok.glob,ok.blt,ok.above,ok.inj,ok.has,ok.cab,ok.hd,ok.frames,ok.stk,ok.exf,ok.bs,ok.bsz,ok.noex,ok.exfs,ok.funs,ok.frf⟩
theorem Inv.at (I:Inv X pins σ H s) (E:Value→ah→Prop):Inv (X.at (X.pn++pins) E) [] σ H s:=⟨I.ok.at _ E,I.os,I.bare,I.base,I.loc,I.cell,I.free,I.freeC,λp hp=>I.pin p (by simpa using hp),I.hok,I.len⟩
theorem Inv.unat (I:Inv (X.at (X.pn++pins) E) pins' σ H s):Inv X pins σ H s:=⟨I.ok.unat,I.os,I.bare,I.base,I.loc,I.cell,I.free,I.freeC,λp hp=>I.pin p (dj _ hp),I.hok,I.len⟩
theorem SP.unat{D:Ends}{f:Flow}{s':ah}(h:SP (X.at (X.pn++pins) E) [] D f s'):SP X pins D f s':=by
 cases f with
 |next=>obtain⟨σ',H',I,q⟩:=h;exact⟨σ',H',I.unat,q⟩
 |brk=>obtain⟨σ',H',I,q⟩:=h;exact⟨σ',H',I.unat,q⟩
 |cont=>obtain⟨σ',H',I,q⟩:=h;exact⟨σ',H',I.unat,q⟩
 |ret u=>obtain⟨v,σ',H',I,r,q⟩:=h;exact⟨v,σ',H',I.unat,r,q⟩
end
def zwQ (X:Cx) (pins:List (Addr×Obj)) (σ:St) (σW:WSt) (H:Hp) (S:Sto) (E:WX) (e:Value) (s':ah):Prop:=∃(cl:Str) (C a:Addr) (H1:Hp) (s1:ah) (H':Hp) (S':Sto),e= .ref a∧aT X.K aL cl=ae (ae (.ref C))∧Inv X pins σ H1 s1∧
 s'.os=s1.os∧bT s'.gens∧Un (frs X.stack) [] H1 H' s1.heap s'.heap∧HOk X.prog X.w H' s'.heap∧Fly s1.heap s'.heap H' a C∧Ext H S H' S'∧RepS X.K H' S'∧E cl σW S'
noncomputable def zyJ (X:Cx) (E:WX) (t:WE):TE:=λσ H Q=>∃σW S QW,RpSt X.K H σW σ∧RepS X.K H S∧t E σW S QW∧Wish X.K H S QW Q∧ ∀pins e s',zwQ X pins σ σW H S E e s'→X.xe e s'
noncomputable def zsv (X:Cx) (E:WX) (t:WS):TS:=λD σ H=>∃σW S DW,RpSt X.K H σW σ∧RepS X.K H S∧t E DW σW S∧Meets X.K H S DW D∧ ∀pins e s',zwQ X pins σ σW H S E e s'→X.xe e s'
def JXE (X:Cx) (e:Expr) (t:WE):Prop:=∀E,cY (ap X.prog X.w) X.A X.env X.xe→PE X e (zyJ X E t)
def JXS (X:Cx) (st:Stmt) (t:WS):Prop:=∀E,cY (ap X.prog X.w) X.A X.env X.xe→PS X st (zsv X E t)
def JXs (X:Cx) (st:List Stmt) (t:WS):Prop:=∀E,cY (ap X.prog X.w) X.A X.env X.xe→PSs X st (zsv X E t)
noncomputable def zni (c:WSp) (t:WA):WE:=λE σ S Q=>t noX σ S λws S1=>c ws S1 Q λcl S2=>E cl σ S2
section
variable {X:Cx}{k:Nat}{f:Addr}{fd:bF}{ps:List Str}{c:WSp}{x:Str}{p pos:ay}{e:Expr}{es:List Expr}{t:WA}{te:WE}{st:Stmt}{a:List Stmt}{ta:WS}
theorem zsL (F:FnOk X.prog X.w X.K X.mg X.base (CX1 X.prog X.w) k f fd ps (zcG X.K c)) (hr:Room k X.A) (hg:Gl X x) (hm:X.mg x=ae (.ref f)) (hk:dQ X.K (.ref f)=true) (hb:Binds X.K fd ps [])
  (ha:JA X (e::es) t) (hdb:(x == ("__debug__" :Str))=false:=by decide) (he:ao (e::es) X.env=(false,au e X.env)::ao es X.env:=by rfl) (hpl:(aP pos (ao es X.env)).any (·.1)=false:=by rfl) :
  JXE X (.Call (.Name x p) (e::es) [] pos) (zni c t):=λE hp pins s σ H Q I h=>by
 obtain⟨σW,S,QW,hσ,hS,ht,hQ,hF⟩:=h;refine f9 (zgO I hg hm ?_ hdb);refine kE (h₀:=X.base) I.ok.mod.kin hk (thn (ha noX (zwO hp) pos pins s σ H (λvs H1=>∃ws S1,Reps X.K H1 ws vs∧RpSt X.K H1 σW σ∧RepS X.K H1 S1∧c ws S1 QW (λcl S'=>E cl σW S')∧Wish X.K H1 S1 QW Q∧Ext H S H1 S1) I
  ⟨σW,S,_,hσ,hS,ht,λws S1 vs H1 e1 r1 hS1 h1=>⟨ws,S1,r1,hσ.ext e1,hS1,h1,hQ.from e1,e1⟩⟩) λus s1 ⟨vs,H1,I1,r,ws,S1,r1,hσ1,hS1,h1,hQ1,e1⟩=>⟨I1.kIn,?_⟩) he hpl
 exact zxQ (E:=E) F hr hb I1 r r1 hσ1 hS1 h1 hQ1 λcl C a H' S' s' hn os bare un ok fly ex hS' q=>hF pins _ s' ⟨cl,C,a,H1,s1,H',S',rfl,hn,I1,os,bare,un,ok,fly,e1.trans ex,hS',q⟩
theorem zuA (he:JXE X e te) (hs:dF e none pos.line X.env=pure false:=by rfl):JXS X (.Expr e pos) (zdo te):=λE hp=>
 (zpI (he E hp) hs).mono λD σ H ⟨σW,S,DW,hσ,hS,ht,hD,hF⟩=>⟨σW,S,_,hσ,hS,ht,λw S1 v H1 e1 r1 hS1 h1=>hD.nx σW S1 σ H1 e1 (hσ.ext e1) hS1 h1,hF⟩
theorem zxs (h:JXS X st ta):JXs X [st] ta:=λE hp=>zpL (h E hp)
end
theorem zvx{P:aF}{w:ax}{base g h h3:Heap}{l:List bw}{H1 H':Hp}{a C:Addr}{hid:List Addr}(un:Un (frs l) [] H1 H' g h) (ok:HOk P w H' h) (ff0:h.FunFrames base l) (fr:∀b∈frs l,H' b=none)
  (h0:∀b∈hid,g.get? b=none∧H' b=none) (ha:a∈hid) (L:gL (cW h (hid++frs l)) l a (.ref C) h h3):Un (frs l) [] H1 H' g h3∧HOk P w H' h3∧Fly g h3 H' a C:=by
 obtain⟨st,ff,tr,sl⟩:=L;have keepB:∀b o,h.get? b=ae o→b∉hid→b∉frs l→h3.get? b=ae o:=λb o e h1 h2=>st b o (fx _ e λz=>(bb.mp z).elim h1 h2);have nh:∀b o,g.get? b=ae o→b∉hid:=λb o e hb=>by rw[(h0 b hb).1]at e;cases e
 have slotB:∀b o,b∈frs l→h.get? b=ae o→ ∃sl,h3.get? b=ae { o with slots:=sl }:=λb o hb e=>by
  obtain⟨_,o',eo',nf⟩:=ff0.mem hb;rw[e]at eo';cases eo';exact sl b o e nf
 have nx:∀b:Addr,b∉([]:List Addr):=λb=>by simp
 refine⟨⟨λb o e n hb _=>keepB b o (un.keep b o e n hb (nx b)) (nh b o e) hb,λb o e n hb _=>?_,λb o e n _=>un.free b o e n (nx b),λb o e _=>?_,un.tups,un.frzs,un.tbls⟩,λb o e=>?_,(h0 a ha).1,(h0 a ha).2,?_⟩
 ·obtain⟨sl1,e1⟩:=un.slot b o e n hb (nx b);obtain⟨sl2,e2⟩:=slotB b _ hb e1;exact⟨sl2,e2⟩
 ·obtain⟨o',e1⟩:=un.there b o e (nx b);by_cases hb:b∈frs l
  ·obtain⟨sl2,e2⟩:=slotB b _ hb e1;exact⟨_,e2⟩
  ·exact⟨o',keepB b o' e1 (nh b o e) hb⟩
 ·refine(ok b o e).stay (λc u hc q=>?_) (λ_ q=>q) λ_ _ q=>q;have tk:∃v,H' c=ae v:=by
   rcases hc with z |z
   ·exact⟨o,by rw[z];exact e⟩
   ·exact⟨_,z⟩
  obtain⟨v,tk⟩:=tk;exact keepB c u q (λz=>by rw[(h0 c z).2]at tk;cases tk) λz=>by rw[fr c z]at tk;cases tk
 ·obtain⟨oe,vs,T,oT,ts,e1,e2,e3,e4,e5,e6,e7,e8,e9⟩:=tr;have nf:T∉frs l:=λhb=>by
   obtain⟨_,o,eo,nf⟩:=ff.mem hb;rw[e7]at eo;cases eo;exact nf ts e8
  have both:g.get? T=none∧H' T=none:=by
   by_cases hT:T∈hid
   ·exact h0 T hT
   ·have z:h.get? T=none:=by
     cases q:h.get? T with
     |none=>rfl
     |some o=>
      rw[fx _ q λz=>(bb.mp z).elim hT nf]at e5;cases e5
    constructor
    ·cases q:g.get? T with
     |none=>rfl
     |some o=>obtain⟨o',q'⟩:=un.there T o q (nx T);rw[z]at q';cases q'
    ·cases q:H' T with
     |none=>rfl
     |some u=>obtain⟨o',q'⟩:=(ok T u q).ex;rw[z]at q';cases q'
  exact⟨oe,vs,T,oT,ts,e1,e2,e3,e4,both.1,both.2,e6,e7,e8,e9⟩
theorem Heap.TracedW.tr{h base:Heap}{e:Addr}{cls a0:Value}(x:Heap.TracedW h base e cls a0):Heap.Traced h base e cls:=by
 obtain⟨oe,vs,T,oT,ts,he,⟨hcls,h0⟩,r⟩:=x;exact⟨oe,vs,T,oT,ts,he,hcls,r⟩
section
variable {X:Cx}{pins:List (Addr×Obj)}{σ:St}{H1 H':Hp}{s1 s':ah}{a C:Addr}{M:c6}{A:aM}{E:Value→ah→Prop}{R:ah→Prop}
theorem znK (I1:Inv X pins σ H1 s1) (hst:X.stack=X.env::X.outer) (hf:X.env.frame=ae X.env.locals) (os:s'.os=s1.os) (bare:bT s'.gens) (un:Un (frs X.stack) [] H1 H' s1.heap s'.heap) (ok:HOk X.prog X.w H' s'.heap) (fly:Fly s1.heap s'.heap H' a C) (hA:A.frames=ae X.stack)
  (k:∀h3,Inv X pins σ H' { s' with heap:=h3 }→Un (frs X.stack) [] H1 H' s1.heap h3→HOk X.prog X.w H' h3→Fly s1.heap h3 H' a C→R { s' with heap:=h3 }) :
  am M A (iH (.ref a) X.env) (λ_ s₂=>am M A (gS (.ref a) none) (λ_ s₃=>R s₃) E s₂) E s':=by
 have I2:Inv X pins σ H' s':=I1.call' os un ok bare (λ_ z=>nomatch z);have ff:=I2.stack;have fr:=I2.stkFree;obtain⟨g1,g2,oe,vs,T,oT,ts,e1,e2,e3,e4,g3,g4,e5,e6,e7,e8⟩:=fly;have sz:1<vs.size:=(ku.mp e4).1;have hid:∀b∈ [a,T],s1.heap.get? b=none∧H' b=none:=λb hb=>by
  rcases av.mp hb with rfl |hb
  ·exact⟨g1,g2⟩
  ·rw[bn.mp hb];exact⟨g3,g4⟩
 have st:∀h3,gL (cW s'.heap ([a,T]++frs X.stack)) X.stack a (.ref C) s'.heap h3→R { s' with heap:=h3 }:=λh3 L=>by
  obtain⟨u1,u2,u3⟩:=zvx un ok ff fr hid (by simp) L;exact k h3 (I1.call' (s':={ s' with heap:=h3 }) os u1 u2 bare (λ_ z=>nomatch z)) u1 u2 u3
 rw[hst]at hA ff st;refine wpAny_noteFrame_onW (base:=cW s'.heap ([a,T]++frs (X.env::X.outer))) (cls:= .ref C) (a0:=vs[0]) hA (zii ff) hf ⟨oe,vs,T,oT,ts,e1,⟨e2,j9 _⟩,e3,e4,dw _ (by simp),e5,e6,e7,e8⟩ (λb o z=>fv _ z) (dw _ (by simp)) λh2 N=>?_;obtain⟨n1,n2,n3,n4⟩:=N;refine jV (s:={ s' with heap:=h2 }) n1 n2 n3 λh3 k1 k2 k3 k4=>?_;exact st h3 ⟨k1,k2,Heap.TracedW.tr k3,λb o e nf=>by
  obtain⟨sl,z⟩:=n4 b o e nf;exact⟨sl,k4 b _ z nf⟩⟩
theorem zAg (I1:Inv X pins σ H1 s1) (os:s'.os=s1.os) (bare:bT s'.gens) (un:Un (frs X.stack) [] H1 H' s1.heap s'.heap) (ok:HOk X.prog X.w H' s'.heap) (fly:Fly s1.heap s'.heap H' a C)
  (k:∀h3,Inv X pins σ H' { s' with heap:=h3 }→Fly s1.heap h3 H' a C→R { s' with heap:=h3 }):am M A (gS (.ref a) none) (λ_ s₃=>R s₃) E s':=by
 have I2:Inv X pins σ H' s':=I1.call' os un ok bare (λ_ z=>nomatch z);have ff:=I2.stack;have fr:=I2.stkFree;obtain⟨g1,g2,oe,vs,T,oT,ts,e1,e2,e3,e4,g3,g4,e5,e6,e7,e8⟩:=fly;have sz:1<vs.size:=(ku.mp e4).1;have hid:∀b∈ [a,T],s1.heap.get? b=none∧H' b=none:=λb hb=>by
  rcases av.mp hb with rfl |hb
  ·exact⟨g1,g2⟩
  ·rw[bn.mp hb];exact⟨g3,g4⟩
 refine jV (base:=cW s'.heap ([a,T]++frs X.stack)) (l:=X.stack) (cls:= .ref C) (a0:=vs[0]) (fl:= .none) (λb o z=>fv _ z) (zii ff) ⟨oe,vs,T,oT,ts,e1,⟨e2,j9 _⟩,e3,e4,dw _ (by simp),e5,e6,e7,e8⟩ λh3 k1 k2 k3 k4=>?_;obtain⟨u1,u2,u3⟩:=zvx un ok ff fr hid (by simp) ⟨k1,k2,Heap.TracedW.tr k3,λb o e nf=>⟨o.slots,k4 b o e nf⟩⟩;exact k h3 (I1.call' (s':={ s' with heap:=h3 }) os u1 u2 bare (λ_ z=>nomatch z)) u3
end
noncomputable abbrev Cx.hot (X:Cx) (a:Addr) (pn:List (Addr×Obj)):Cx:={ X with A:=X.A.mark (ae (.ref a)),calm:=false,pn:=pn,xe:=λ_ _=>False }
section
variable {X:Cx}{pins pins':List (Addr×Obj)}{σ:St}{H:Hp}{s:ah}{a:Addr}{oa:Obj}
theorem Cx.Ok.hot (ok:X.Ok) (a:Addr) (pn:List (Addr×Obj)):(X.hot a pn).Ok:=
 ⟨ok.mod,ok.kind,ok.glob,ok.blt,ok.above,ok.inj,ok.has,ok.cab,(λz=>nomatch z),ok.frames,ok.stk,ok.exf,ok.bs,ok.bsz,ok.noex,ok.exfs,ok.funs,ok.frf⟩
theorem Inv.hot{vs:Array Value}(I:Inv X pins σ H s) (e:s.heap.get? a=ae oa) (n:H a=none) (d:oa.data= .fields vs):Inv (X.hot a (X.pn++pins++[(a,oa)])) [] σ H s:=
 ⟨I.ok.hot a _,I.os,I.bare,I.base,I.loc,I.cell,I.free,I.freeC,(λp hp=>by
  rw[bf]at hp;rcases bb.mp hp with hp |hp
  ·exact I.pin p hp
  ·rw[bn.mp hp];refine⟨e,n,λz=>?_,λz=>?_,λv z=>?_⟩
   ·obtain⟨m,⟨o,es,ep,ho,hd,_⟩,_⟩:=I.loc;have e':s.heap.get? X.env.locals=ae oa:=by rw[←show a=X.env.locals from z];exact e
    rw[ho]at e';cases e';rw[hd]at d;cases d
   ·obtain⟨_,o,ho,nf⟩:=I.funs.mem z;have e':s.heap.get? a=ae o:=ho;rw[e]at e';cases e';exact nf vs d
   ·have z':oa.data= .cell v:=z;rw[d]at z';cases z'),I.hok,I.len⟩
theorem Inv.unhot (I0:X.Ok) (I:Inv (X.hot a (X.pn++pins++[(a,oa)])) pins' σ H s):Inv X pins σ H s:=
 ⟨I0,I.os,I.bare,I.base,I.loc,I.cell,I.free,I.freeC,λp hp=>I.pin p (dj _ (dj _ hp)),I.hok,I.len⟩
theorem zxT{M:c6}{A:aM}{E:Value→ah→Prop}{i:Nat}{n:Str}{pos:ay}{Q:Unit→ah→Prop}(I:Inv X pins σ H s) (hN:X.N.Nodup) (hi:X.N[i]? =ae n) (hl:X.env.scope.names.lookup n=ae .local)
  (h:∀s',Inv X pins (σ.set i none) H s'→Q () s'):am M A (do bindName X.env n .none;unbindBehindTheSuite X.env n pos) Q E s:=by
 obtain⟨m,hn,hlk⟩:=id I.loc;have hcls:(X.env.scope.kind == .class || (X.env.scope.kind == .module&&X.env.locals != X.env.globals))=false:=by rw[I.ok.kind];rfl
 have hiσ:i<σ.length:=by rw[I.len];exact(bL.mp hi).1
 have cne:=I.cne;refine wpAny_nameGoes_keeps (show X.env.kindOf n=ae .local from hl) hn hcls λh' v hn' hs=>?_;obtain⟨oL,_,_,hoL,_⟩:=id hn;have lt:∀b o,X.s₀.heap.get? b=ae o→b≠X.env.locals:=λb o e=>bx (bJ (aI e) I.ok.above);refine h _ ⟨I.ok,I.os,I.bare,⟨λb o e n hb hx=>?_,λb o e n hb hx=>?_,I.base.free,λb o e hx=>?_,I.base.tups,I.base.frzs,I.base.tbls⟩,⟨_,hn',λj y v' e1 e2 e3=>?_⟩,λy c e=>?_,I.free,I.freeC,λp hp=>?_,λb ob e=>?_,by simpa using I.len⟩
 ·exact(hs.2 b (lt b o e)).trans (I.base.keep b o e n hb hx)
 ·obtain⟨sl,e1⟩:=I.base.slot b o e n hb hx;exact⟨sl,(hs.2 b (lt b o e)).trans e1⟩
 ·obtain⟨o',e1⟩:=I.base.there b o e hx;exact⟨o',(hs.2 b (lt b o e)).trans e1⟩
 ·by_cases hj:j=i
  ·subst hj;rw[gI hiσ]at e2;cases e2
  ·rw[iz (bg hj)]at e2;obtain⟨u',r',q⟩:=hlk j y v' e1 e2 e3;refine⟨u',r',?_⟩;rcases q with⟨k,e⟩ |⟨k,c,e,z⟩
   ·refine .inl ⟨k,?_⟩;have:y≠n:=λe=>hj (zhQ hN e1 (e▸hi));simp [this,e]
   ·exact .inr ⟨k,c,e,z.sameBut hs (cne y c e)⟩
 ·obtain⟨w',z⟩:=I.cell y c e;exact⟨w',z.sameBut hs (cne y c e)⟩
 ·obtain⟨e,n,ne,nf,d⟩:=I.pin p hp;exact⟨(hs.2 p.1 ne).trans e,n,ne,nf,d⟩
 ·refine(I.hok b ob e).stay (λc w' hc q=>(hs.2 c ?_).trans q) (λ_ q=>q) λ_ _ q=>q;rintro rfl;rcases hc with z |hc
  ·rw[←z,I.free]at e;cases e
  ·rw[I.free]at hc;cases hc
end
theorem RpSt.setN{K:ai}{H:Hp}:∀{σW:WSt}{σ:St}(i:Nat),RpSt K H σW σ→RpSt K H (σW.set i none) (σ.set i none)
 |_,_,_, .nil=> .nil
 |_,_,0, .cons _ t=> .cons trivial t
 |_,_,i+1, .cons q t=> .cons q (RpSt.setN i t)
noncomputable def zoQ (i:Nat) (al:List Str) (t:WS) (u:Str→Addr→WS):WS:=λ_ D σ S=>t (λcl σ' S'=>cl∈al∧ ∀a,u cl a noX { nx:=λσ'' S''=>D.nx (σ''.set i none) S'',rt:=D.rt,bk:=λσ'' S''=>D.bk (σ''.set i none) S'',ct:=λσ'' S''=>D.ct (σ''.set i none) S'' } (σ'.set i (ae (.ref a))) S') D σ S
section
variable {X:Cx}{b:List Stmt}{x n:Str}{CT:Addr}{b₀:Stmt}{suite:List Stmt}{np hpos pos:ay}{i:Nat}{t:WS}{u:Str→Addr→WS}{v:WS}{al:List Str}
theorem zzl{X:Cx}(h:X.xe=λ_ _=>False):Hook X noX:=zwO (by rw[h];exact jO)
theorem zrM (hb:∀pn xe,JXs (X.at pn xe) b t)
  (hal:∀cl∈al,∃C,XcIn X.K cl C∧gF X.K (.ref C) (.ref CT)=ae true∧ ∀(a:Addr) (oa:Obj) (pn:List (Addr×Obj)),(a,oa)∈pn→oa.cls= .ref C→JSs (X.hot a pn) (b₀::suite) (u cl a))
  (hg:Gl X x) (hm:X.mg x=ae (.ref CT)) (hN:X.N.Nodup) (hi:X.N[i]? =ae n) (hl:X.env.scope.names.lookup n=ae .local) (hst:X.stack=X.env::X.outer:=by rfl) (hf:X.env.frame=ae X.env.locals:=by rfl) (hdb:(x == ("__debug__" :Str))=false:=by decide) :
  JS X (.Try b [.ExceptHandler (ae (.Name x np)) (ae n) (b₀::suite) hpos] [] [] pos) (zoQ i al t u):=λE hE pins s σ H D I z=>by
 obtain⟨σW,S,DW,hσ,hS,ht,hD⟩:=z;refine wpAny_Try_except ?_;refine b3 (hb (X.pn++pins) (λe s₁=>am (ap X.prog X.w) X.A (iH e X.env) (λ_ s₂=>am (ap X.prog X.w) X.A (gS e none) (λ_ s₃=>am (ap X.prog X.w) X.A (handleBy e X.env [.ExceptHandler (ae (.Name x np)) (ae n) (b₀::suite) hpos]) (SP X pins D) X.xe s₃) X.xe s₂) X.xe s₁)
  _ cY.looking [] s σ H D (I.at _) ⟨σW,S,DW,hσ,hS,ht,hD,λpins' e s' F=>?_⟩) (λf s1 q=>?_) λe s1 q=>q
 ·obtain⟨cl,C,a,H1,s1,H',S',rfl,hn,I1,os,bare,un,ok,fly,ex,hS',hcl,hu⟩:=F;obtain⟨C',O,hx,hs⟩:=hal cl hcl;have hn':aT X.K aL cl=ae (ae (.ref C)):=hn;have eC:C'=C:=by
   have:=O.nm;rw[hn']at this;exact(jG (aG (aG this))).symm
  subst eC;refine znK (X:=X) (pins:=pins) I1.unat hst hf os bare un ok fly I.ok.frames λh3 I3 u3 ok3 fly3=>?_;obtain⟨g1,g2,oe,vs,_,_,_,e1,e2,e3,_⟩:=id fly3;refine wpAny_handleBy_cons (codeAny_handlers_test ?_) (by intro q;cases q);refine zgO (X:=X.hot a (X.pn++pins++[(a,oe)])) (I3.hot e1 g2 e3) hg hm ?_ hdb;refine(PySem.W.exm_one I3.kIn (zsU e1 e2) hx).here ?_;refine codeAny_handlers_suite_as ?_;refine zAg (X:=X) (pins:=pins) (s':={ s' with heap:=h3 }) I1.unat os bare u3 ok3 fly3 λh4 I4 fly4=>?_;obtain⟨g1',g2',oe4,vs4,_,_,_,e1',e2',e3',_⟩:=id fly4;refine zfM (X:=X.hot a (X.pn++pins++[(a,oe4)])) (I4.hot e1' g2' e3') hN hi (.inl hl) (v:= .ref a) rfl (λs5 I5=>?_) (.inr hl);have me:Meets X.K H' S' { nx:=λσ'' S''=>DW.nx (σ''.set i none) S'',rt:=DW.rt,bk:=λσ'' S''=>DW.bk (σ''.set i none) S'',ct:=λσ'' S''=>DW.ct (σ''.set i none) S'' } { nx:=λσ H=>D.nx (σ.set i none) H,rt:=D.rt,bk:=λσ H=>D.bk (σ.set i none) H,ct:=λσ H=>D.ct (σ.set i none) H }:=by
   have hD':=hD.from ex;exact⟨λσW3 S3 σ3 H3 e3 r3 hS3 q=>hD'.nx _ S3 _ H3 e3 (r3.setN i) hS3 q,hD'.rt,λσW3 S3 σ3 H3 e3 r3 hS3 q=>hD'.bk _ S3 _ H3 e3 (r3.setN i) hS3 q,λσW3 S3 σ3 H3 e3 r3 hS3 q=>hD'.ct _ S3 _ H3 e3 (r3.setN i) hS3 q⟩
  refine b3 (hs a oe4 (X.pn++pins++[(a,oe4)]) (by simp) e2' noX (zzl rfl) [] s5 (σ.set i (ae (.ref a))) H' _ I5 ⟨_,S',_,(hσ.ext ex).set (.ref a) i,hS',hu a,me⟩) (λf s6 q=>?_) λ_ _ z=>z.elim;cases f with
  |next=>obtain⟨σ',H'',I6,q⟩:=q;exact zxT (I6.unhot I.ok) hN hi hl λs7 I7=>⟨_,H'',I7,q⟩
  |brk=>obtain⟨σ',H'',I6,q⟩:=q;exact zxT (I6.unhot I.ok) hN hi hl λs7 I7=>⟨_,H'',I7,q⟩
  |cont=>obtain⟨σ',H'',I6,q⟩:=q;exact zxT (I6.unhot I.ok) hN hi hl λs7 I7=>⟨_,H'',I7,q⟩
  |ret w=>obtain⟨v,σ',H'',I6,r,q⟩:=q;exact zxT (I6.unhot I.ok) hN hi hl λs7 I7=>⟨v,_,H'',I7,r,q⟩
 ·cases f with
  |next=>exact fo q.unat
  |ret v=>exact q.unat
  |brk=>exact q.unat
  |cont=>exact q.unat
end
section
variable {X:Cx}{a C:Addr}{oa:Obj}
theorem zrN (hp:(a,oa)∈X.pn) (hc:oa.cls= .ref C) (O:XcOk X.K C):CallR X (.builtin "isinstance") (λxs H Q=>∃c b,((∃D,xs=[.ref a, .ref D]∧c=br D)∨(∃T,xs=[.ref a, .ty T]∧c=gm T))∧bQ X.K (.ref C) c=ae b∧Q (.bl b) H):=by
 intro pins s σ H xs us Q I r h;obtain⟨c,b,hx,e,q⟩:=h;have at':=(I.pin (a,oa) (dj _ hp)).1;have eu:us=[.ref a,c]:=by
  rcases hx with⟨D,rfl,rfl⟩ |⟨T,rfl,rfl⟩
  ·cases r with
   |cons r1 r2=>cases r2 with
    |cons r2 r3=>cases r3;cases r1;cases r2;rfl
  ·cases r with
   |cons r1 r2=>cases r2 with
    |cons r2 r3=>cases r3;cases r1;cases r2;rfl
 subst eu;exact b_ (zqX O) I.kIn ⟨oa,at',hc⟩ e (by intro z;cases z) λtk=>⟨.bl b,H,I.tok tk,rfl,q⟩
end
noncomputable def zuO (i:Nat) (a:Addr) (b:Bool):WE:=λ_ σ S Q=>σ[i]? =ae (ae (.ref a))∧Q (.bl b) S
section
variable {X:Cx}{a C D:Addr}{oa:Obj}{i:Nat}{n x:Str}{b:Bool}{p p1 p2 pos:ay}
theorem zuo{K:ai}{H:Hp}{v:V}(h:Rep K H (.ref a) v):v= .ref a:=by cases h;rfl
theorem zlK (hp:(a,oa)∈X.pn) (hc:oa.cls= .ref C) (O:XcOk X.K C) (hb:bQ X.K (.ref C) (.ref D)=ae b) (hg:Gl X "isinstance") (hm:X.mg "isinstance" =none) (hN:X.N[i]? =ae n) (hv:Vis X.env.scope n) (hgD:Gl X x) (hmD:X.mg x=ae (.ref D))
  (hd:(n == ("__debug__" :Str))=false:=by decide) (hcd:(n == ("__classdict__" :Str))=false:=by decide) (hdD:(x == ("__debug__" :Str))=false:=by decide)
  (he:ao (.Name n p1::[.Name x p2]) X.env=(false,au (.Name n p1) X.env)::ao [.Name x p2] X.env:=by rfl) (hpl:(aP pos (ao [.Name x p2] X.env)).any (·.1)=false:=by rfl) (he2:ao (.Name x p2::[]) X.env=(false,au (.Name x p2) X.env)::ao [] X.env:=by rfl) :
  JE X (.Call (.Name "isinstance" p) [.Name n p1, .Name x p2] [] pos) (zuO i a b):=λE hE=>
 (zfJ (zrN hp hc O) hg hm i_ (zcD (zny hN hv hd hcd) (zcD (zog (v:= .ref D) hgD hmD rfl hdD) pa_nil he2) he) (by decide) (by decide) he hpl).mono λσ H Q ⟨σW,S,QW,hσ,hS,⟨hi,h⟩,hQ⟩=>by
  obtain⟨v,e',r⟩:=hσ.get hi;have:=zuo r;subst this;exact⟨_,e', .ref D,b, .inl ⟨D,rfl,rfl⟩,hb,hQ (.bl b) S (.bl b) H .refl (.bl b) hS h⟩
end
noncomputable def zmY (cl D:Str):Bool:=cl == D || (D == "TurnError" || D == "ValueError")
theorem aln{P:Str→Prop}:∀cl∈([]:List Str),P cl:=λ_ h=>nomatch h
theorem alc{P:Str→Prop}{c:Str}{l:List Str}(h:P c) (t:∀cl∈l,P cl):∀cl∈c::l,P cl:=λcl m=>by
 rcases av.mp m with rfl |m
 ·exact h
 ·exact t cl m
inductive Tr where
  |bl (n:Int)
  |nd (s:Str) (ts:List Tr)
noncomputable def Tr.kids:Tr→List Tr
 | .bl _=>[]
 | .nd _ ts=>ts
mutual
noncomputable def Tr.weight:Tr→Nat
 | .bl _=>1
 | .nd _ ts=>1+wts ts
noncomputable def wts:List Tr→Nat
 | []=>0
 |t::ts=>t.weight+wts ts
end
mutual
noncomputable def Tr.depth:Tr→Nat
 | .bl _=>1
 | .nd _ ts=>1+dts ts
noncomputable def dts:List Tr→Nat
 | []=>0
 |t::ts=>max t.depth (dts ts)
end
theorem zpx:wts []=0:=by unfold wts;rfl
theorem zcj (t:Tr) (ts:List Tr):wts (t::ts)=t.weight+wts ts:=by
 conv=>lhs;unfold wts
theorem zeh:∀(ts us:List Tr),wts (ts++us)=wts ts+wts us
 | [],us=>by
  show wts us=wts []+wts us;rw[zpx];omega
 |t::ts,us=>by
  show wts (t::(ts++us))=_;rw[zcj,zcj,zeh ts us];omega
theorem zkd:dts []=0:=by unfold dts;rfl
theorem zeU (t:Tr) (ts:List Tr):dts (t::ts)=max t.depth (dts ts):=by
 conv=>lhs;unfold dts
theorem zeJ (t:Tr):t.weight=1+wts t.kids:=by
 cases t with
 |bl n=>
  show Tr.weight (.bl n)=1+wts [];unfold Tr.weight wts;rfl
 |nd s ts=>
  show Tr.weight (.nd s ts)=1+wts ts
  conv=>lhs;unfold Tr.weight
theorem zek (t:Tr):t.depth=1+dts t.kids:=by
 cases t with
 |bl n=>
  show Tr.depth (.bl n)=1+dts [];unfold Tr.depth dts;rfl
 |nd s ts=>
  show Tr.depth (.nd s ts)=1+dts ts
  conv=>lhs;unfold Tr.depth
theorem zdq (t:Tr):1≤t.weight:=by rw[zeJ];omega
theorem zaH (t:Tr):1≤t.depth:=by rw[zek];omega
theorem zhe:∀(ts us:List Tr),dts (ts++us)=max (dts ts) (dts us)
 | [],us=>by
  show dts us=max (dts []) (dts us);rw[zkd];omega
 |t::ts,us=>by
  show dts (t::(ts++us))=_;rw[zeU,zeU,zhe ts us];exact(jP _ _ _).symm
theorem zbJ:∀(ts:List Tr),ts.length≤wts ts
 | []=>aS _
 |t::ts=>by
  have:=zbJ ts;have:=zdq t;rw[zcj,aV];omega
theorem zbA{t:Tr}:∀{ts:List Tr},t∈ts→t.weight≤wts ts
 | [],h=>by cases h
 |u::ts,h=>by
  rw[zcj];rcases av.mp h with e |h
  ·rw[e];omega
  ·have:=zbA h;omega
theorem zlO:∀{ts:List Tr},ts≠ []→dts ts=1+dts (ts.flatMap Tr.kids)
 | [],h=>absurd rfl h
 | [t],_=>by
  rw[dS,f_,bf,zeU,zkd,zek];omega
 |t::u::r,_=>by
  have ih:=zlO (ts:=u::r) (by simp);have e:(t::u::r).flatMap Tr.kids=t.kids++(u::r).flatMap Tr.kids:=dS ..;rw[zeU,ih,e,zhe,zek];omega
theorem zlU:∀(ts:List Tr),wts (ts.flatMap Tr.kids)+ts.length=wts ts
 | []=>by rw[f_,zpx];rfl
 |t::ts=>by
  have ih:=zlU ts;rw[dS,zeh,zcj,aV,zeJ];omega
mutual
theorem zee:∀t:Tr,t.depth≤t.weight
 | .bl n=>by unfold Tr.depth Tr.weight;exact aB _
 | .nd s ts=>by
  have:=zgZ ts;rw[zek,zeJ];show 1+dts ts≤1+wts ts;omega
theorem zgZ:∀ts:List Tr,dts ts≤wts ts
 | []=>by rw[zkd];exact aS _
 |t::ts=>by
  have:=zee t;have:=zgZ ts;rw[zeU,zcj];omega
end
mutual
noncomputable def enc:Tr→W
 | .bl n=> .int n
 | .nd s ts=> .tup (.str s::encs ts)
noncomputable def encs:List Tr→List W
 | []=>[]
 |t::ts=>enc t::encs ts
end
theorem zaD:∀ts:List Tr,encs ts=ts.map enc
 | []=>by simp [encs]
 |t::ts=>by simp [encs,zaD ts]
theorem zaM (ts:List Tr):(encs ts).length=ts.length:=by rw[zaD,aq]
noncomputable def zat (p:List Int):W:= .tup (p.map W.int)
theorem zkD:zbS "int" "int" =true:=by decide +kernel
theorem ziy:zbS "int" "bool" =false:=by decide +kernel
theorem zjX:zbS "int" "str" =false:=by decide +kernel
theorem zik:zbS "int" "tuple" =false:=by decide +kernel
theorem zjt:zbS "int" "list" =false:=by decide +kernel
theorem zjD:zbS "bool" "int" =true:=by decide +kernel
theorem zhW:zbS "bool" "bool" =true:=by decide +kernel
theorem ziP:zbS "bool" "str" =false:=by decide +kernel
theorem zgU:zbS "bool" "tuple" =false:=by decide +kernel
theorem zhZ:zbS "bool" "list" =false:=by decide +kernel
theorem zkn:zbS "str" "int" =false:=by decide +kernel
theorem ziN:zbS "str" "bool" =false:=by decide +kernel
theorem zkt:zbS "str" "str" =true:=by decide +kernel
theorem zhE:zbS "str" "tuple" =false:=by decide +kernel
theorem ziA:zbS "str" "list" =false:=by decide +kernel
theorem zid:zbS "tuple" "int" =false:=by decide +kernel
theorem zgV:zbS "tuple" "bool" =false:=by decide +kernel
theorem zic:zbS "tuple" "str" =false:=by decide +kernel
theorem sub_tuple_tuple:zbS "tuple" "tuple" =true:=by decide +kernel
theorem sub_tuple_list:zbS "tuple" "list" =false:=by decide +kernel
theorem ziK:zbS "list" "int" =false:=by decide +kernel
theorem zhS:zbS "list" "bool" =false:=by decide +kernel
theorem zjB:zbS "list" "str" =false:=by decide +kernel
theorem sub_list_tuple:zbS "list" "tuple" =false:=by decide +kernel
theorem sub_list_list:zbS "list" "list" =true:=by decide +kernel
section
variable {α:Type}{x:α}{xs:List α}
theorem zfF (n:Nat):zer xs (ae (n:Int)) none=xs.drop n:=by
 unfold zer;rw[HT.sIx_nat,HT.sIx_none];by_cases h:n≤xs.length
 ·rw[iO h,dD (by rw[ck];omega)]
 ·rw[kL (by omega),fD (aB _),fD (by omega),List.take_nil]
theorem zfP (n:Nat):zer xs none (ae (n:Int))=xs.take n:=by
 unfold zer;rw[HT.sIx_nat,HT.sIx_none,dh,eS];by_cases h:n≤xs.length
 ·rw[iO h]
 ·rw[kL (by omega),h9,dD (by omega)]
theorem zuq:zer (x::xs) (ae 1) none=xs:=by rw[show(1:Int)=((1:Nat):Int) from rfl,zfF];rfl
theorem znX{n d k:Nat}(h:0<k):HT.sIx n d (ae (-(k:Int)))=n - k:=by
 show(if(-(k:Int))<0 then(-(k:Int)+(n:Int)).toNat else min (-(k:Int)).toNat n)=n - k;rw[if_pos (by omega)];omega
theorem zke (k:Nat) (h:0<k):zer xs none (ae (-(k:Int)))=xs.take (xs.length - k):=by
 unfold zer;rw[znX h,HT.sIx_none,dh,eS]
theorem zov (k:Nat) (h:0<k):zer xs (ae (-(k:Int))) none=xs.drop (xs.length - k):=by
 unfold zer;rw[znX h,HT.sIx_none,dD (by rw[ck];omega)]
theorem zaU{n:Nat}:atI xs (n:Int)=xs[n]? :=by
 unfold atI ixN;rw[if_pos (by omega)];by_cases h:n<xs.length
 ·rw[if_pos (by omega)];simp
 ·rw[if_neg (by omega)];simp;omega
theorem zhR:atI (x::xs) 0=ae x:=zaU (n:=0)
end
section
variable {S S':Sto}{a b:Addr}{o:Ob}{Q:List W→Prop}{ws:List W}
theorem zlM{u:Ob}(h:b≠a):put (put S a o) b u=put (put S b u) a o:=by
 funext c;unfold put;by_cases h1:c=b
 ·rw[if_pos h1,if_pos h1,if_neg (by rw[h1];exact h)]
 ·rw[if_neg h1,if_neg h1]
theorem zlw{u o':Ob}(h:b≠a):put (put (put S a o) b u) a o'=put (put S a o') b u:=by rw[zlM h,zbe,zlM h]
theorem zfG:zcz (put S a (.lst ws)) a Q=Q ws:=zaj zag
theorem zde (h:put S a o b=none):S b=none∧b≠a:=by
 have hb:b≠a:=by rintro rfl;rw[zag]at h;cases h
 rw[zaN hb]at h;exact⟨h,hb⟩
theorem ztR{u:Ob}(h:S a=ae u) (n:S b=none):a≠b:=by rintro rfl;rw[h]at n;cases n
theorem Sub.put (h:Sub S S') (n:S a=none):Sub S (L2.put S' a o):=λb u e=>by rw[zaN (ztR e n)];exact h b u e
theorem Sub.put2{u:Ob}(h:Sub S S'):Sub (L2.put S a u) (L2.put S' a u):=λb w e=>by
 by_cases hb:b=a
 ·subst hb;rw[zag]at e⊢;exact e
 ·rw[zaN hb]at e⊢;exact h b w e
end
theorem zsr (S:Sto) (a b:Int):eqF S 60 (.int a) (.int b)=ae (a == b):=by have h:eqF S 60 (.int a) (.int b)=ae (a == b):=rfl;exact h
theorem zvJ (S:Sto) (a b:Str):eqF S 60 (.str a) (.str b)=ae (a == b):=by have h:eqF S 60 (.str a) (.str b)=ae (a == b):=rfl;exact h
theorem zyw (S:Sto) (a b:Bool):eqF S 60 (.bl a) (.bl b)=ae (a == b):=by have h:eqF S 60 (.bl a) (.bl b)=ae (a == b):=rfl;exact h
theorem zah{n:Nat}(h:n≤16777216):n≤sizeLine:=by rw[dC];exact h
theorem zbH{n:Nat}(h:n<16777216):n<sizeLine:=by rw[dC];exact h
section
variable {S:Sto}{Q:WK}{QB:Bool→Sto→Prop}{QS:List W→(Sto→Prop)→Prop}{QT:String→Prop}
theorem zeb{a:Addr}{o:Ob}(h:S a=ae o):put S a o=S:=by
 funext b;unfold put;split
 ·rename_i e;rw[e,h]
 ·rfl
theorem zmj{b:Bool}:zsq (.bl b) S QB=QB b S:=pz id id
theorem zpt{i:Int}:zsq (.int i) S QB=QB (i != 0) S:=pz id id
theorem zpW{ws:List W}:zsq (.tup ws) S QB=QB (!ws.isEmpty) S:=pz id id
theorem znU{a:Addr}:zsq (.ref a) S QB=zcz S a λws=>QB (!ws.isEmpty) S:=pz id id
theorem zpl:zsq .non S QB=QB false S:=pz id id
theorem znN{ws:List W}:zpc (.tup ws) S QS=QS ws λ_=>True:=pz id id
theorem zgy{a:Addr}:zpc (.ref a) S QS=zcz S a λws=>QS ws λS'=>S' a=ae (.lst ws):=pz id id
theorem ztG{b:Bool}:tyW (.bl b) S QT=QT "bool" :=pz id id
theorem zqn{i:Int}:tyW (.int i) S QT=QT "int" :=pz id id
theorem zqT{i:Str}:tyW (.str i) S QT=QT "str" :=pz id id
theorem zri{i:List W}:tyW (.tup i) S QT=QT "tuple" :=pz id id
theorem zqo:tyW .non S QT=QT "NoneType" :=pz id id
theorem zqw{a:Addr}:tyW (.ref a) S QT=zcz S a λ_=>QT "list" :=pz id id
theorem znM{i j:Int}:zdl (.int i) (.int j) S Q=Q (.int (i+j)) S:=pz id id
theorem zns{i j:Str}:zdl (.str i) (.str j) S Q=(i.length+j.length≤sizeLine∧Q (.str (i++j)) S):=pz id id
theorem zfT{i j:List W}:zdl (.tup i) (.tup j) S Q=(i.length+j.length≤sizeLine∧Q (.tup (i++j)) S):=pz id id
theorem zgu{a b:Addr}:zdl (.ref a) (.ref b) S Q=zcz S a λxs=>zcz S b λys=>xs.length+ys.length≤sizeLine∧ ∀p,S p=none→Q (.ref p) (put S p (.lst (xs++ys))):=pz id id
theorem zyf{C:Int→Int→Prop}{g:Int→Int→W}{i j:Int}:zdP C g (.int i) (.int j) S Q=(C i j∧Q (g i j) S):=pz id id
theorem zvn{g:Int→Int→W}{i j:Int}:zep g (.int i) (.int j) S Q=Q (g i j) S:=pz id id
theorem zra{i j:Int}:oLe (.int i) (.int j) S Q=Q (.bl (decide (i≤j))) S:=pz id id
theorem zqC{i j:Str}:oLe (.str i) (.str j) S Q=Q (.bl (!decide (j.cps.toList<i.cps.toList))) S:=pz id id
theorem zom{us:List W}:zdW [.tup us] S Q=Q (.int us.length) S:=pz id id
theorem zpH{a:Addr}:zdW [.ref a] S Q=zcz S a λus=>Q (.int us.length) S:=pz id id
theorem znm{ns:List Int}:zdW [.scr ns] S Q=Q (.int ns.length) S:=pz id id
theorem znc{z:Str}:zdW [.str z] S Q=(z.length≤sizeLine∧Q (.int z.length) S):=pz id id
theorem zqB{ws:List W}{i:Int}:oIx (.tup ws) (.int i) S Q=match atI ws i with
 |some w=>Q w S
 |none=>False:=pz id id
theorem zlf{a:Addr}{i:Int}:oIx (.ref a) (.int i) S Q=zcz S a λws=>match atI ws i with
 |some w=>Q w S
 |none=>False:=pz id id
theorem zqj{ns:List Int}{i:Int}:oIx (.scr ns) (.int i) S Q=match atI ns i with
 |some n=>Q (.int n) S
 |none=>False:=pz id id
theorem zqZ{x:Str}{i:Int}:oIx (.str x) (.int i) S Q=(x.length≤sizeLine∧match atI x.cps.toList i with
 |some c=>Q (.str ⟨#[c]⟩) S
 |none=>False):=pz id id
theorem zrI{ws:List W}{lo hi:Option Int}:oSl (.tup ws) lo hi S Q=Q (.tup (zer ws lo hi)) S:=pz id id
theorem zrm{z:Str}{lo hi:Option Int}:oSl (.str z) lo hi S Q=(z.length≤sizeLine∧Q (.str (cL z lo hi)) S):=pz id id
theorem zqD{a:Addr}{lo hi:Option Int}:oSl (.ref a) lo hi S Q=zcz S a λws=>∀p,S p=none→Q (.ref p) (put S p (.lst (zer ws lo hi))):=pz id id
theorem zqG{ns:List Int}{lo hi:Option Int}:oSl (.scr ns) lo hi S Q= ∀p,S p=none→Q (.ref p) (put S p (.lst ((zer ns lo hi).map W.int))):=pz id id
theorem zky{us:List W}:zdZ [.tup us] S Q=Q (.tup us) S:=pz id id
theorem zkG{a:Addr}:zdZ [.ref a] S Q=zcz S a λus=>Q (.tup us) S:=pz id id
theorem zrL{a:Addr}{y:W}:zbV (.ref a) [y] S Q=zcz S a λxs=>xs.length<sizeLine∧Q .non (put S a (.lst (xs++[y]))):=pz id id
theorem zyp{a:Addr}:zzY (.ref a) [] S Q=zcz S a λxs=>match xs[xs.length - 1]? with
 |some y=>Q y (put S a (.lst xs.dropLast))
 |none=>False:=pz id id
theorem ziF{a:Addr}{ys:List W}:zgc (.ref a) [.tup ys] S Q=zcz S a λxs=>xs.length+ys.length≤sizeLine∧Q .non (put S a (.lst (xs++ys))):=pz id id
theorem zjs{a b:Addr}:zgc (.ref a) [.ref b] S Q=zcz S a λxs=>zcz S b λys=>xs.length+ys.length≤sizeLine∧Q .non (put S a (.lst (xs++ys))):=pz id id
theorem zoZ{a:Addr}{ws:List W}:zre (.ref a) ws S Q=zcz S a λxs=>xs.length+ws.length≤sizeLine∧Q .non (put S a (.lst (xs++ws))):=pz id id
theorem zyE{a:Addr}:rvL (.ref a) S=zcz S a λ_=>True:=pz id id
theorem zzg{x:Str}:rvS (.str x) S=True:=pz id id
theorem zro{b:Bool}:zuU [.bl b] S Q=Q (.int (if b then 1 else 0)) S:=pz id id
theorem zoY{i:Int}:zuU [.int i] S Q=Q (.int i) S:=pz id id
theorem zwC{i j:Int}:zzk [.int i, .int j] S Q=Q (.int (if j > i then j else i)) S:=pz id id
theorem zvR{i j:Int}:ziT [.int i, .int j] S Q=Q (.int (if j<i then j else i)) S:=pz id id
theorem zwe{z:Str}{ws:List W}:ziz (.str z) ws S Q=match zfs ws with
 |some ys=>(ys.map (·.length)).sum+ys.length*z.length≤16777216∧Q (.str (cQ z ys)) S
 |none=>False:=pz id id
theorem zsK{z y:Str}:zxm (.str z) [.str y] S Q=match cS z y 0 z.length 1 with
 |i::_=>Q (.int i) S
 | []=>False:=pz id id
theorem zqm{neg:Bool}:oIs neg .non .non S Q=Q (.bl (!neg)) S:=pz id id
theorem zuv{neg a b:Bool}:oIs neg (.bl a) (.bl b) S Q=Q (.bl (if neg then a != b else a == b)) S:=pz id id
theorem ztv{neg a:Bool}:oIs neg (.bl a) .non S Q=Q (.bl neg) S:=pz id id
theorem zui{neg:Bool}{ws:List W}:oIs neg (.tup ws) .non S Q=Q (.bl neg) S:=pz id id
theorem ztO{neg:Bool}{a:Addr}:oIs neg (.ref a) .non S Q=Q (.bl neg) S:=pz id id
theorem zuu{neg:Bool}{a:Int}:oIs neg (.int a) .non S Q=Q (.bl neg) S:=pz id id
theorem zqK{neg:Bool}{x:W}{ws:List W}:oIn neg x (.tup ws) S Q=match inF S x ws with
 |some b=>Q (.bl (if neg then !b else b)) S
 |none=>False:=pz id id
theorem zrs{neg:Bool}{x:W}{a:Addr}:oIn neg x (.ref a) S Q=zcz S a λws=>match inF S x ws with
 |some b=>Q (.bl (if neg then !b else b)) S
 |none=>False:=pz id id
theorem zry{neg:Bool}{i j:Str}:oIn neg (.str i) (.str j) S Q=Q (.bl (if neg then !(!(cS j i 0 j.length 1).isEmpty) else !(cS j i 0 j.length 1).isEmpty)) S:=pz id id
end
theorem zkc{g:WG}{b:WS}{E:WX}{D:WEnds}{G:Sto→Prop}(I:List W→WSt→Sto→Prop)
  (step:∀w ws σ S (N:WSt→Sto→Prop),I (w::ws) σ S→(∀σ' S' S'',Sub S'' S'→G S''→I ws σ' S''→N σ' S')→g w σ S λσ1 S1=>b E { D with nx:=N,ct:=N,bk:=D.nx } σ1 S1)
  (done:∀σ S,I [] σ S→D.nx σ S):∀(ws:List W) (σ:WSt) (S:Sto),I ws σ S→forL g b E D G ws σ S
 | [],σ,S,h=>done σ S h
 |w::ws,σ,S,h=>step w ws σ S _ h λσ' S' S'' sb hG hI=>⟨S'',sb,hG,zkc I step done ws σ' S'' hI⟩
section
variable {E:WX}{σ:WSt}{S:Sto}{Q:WK}{QB:Bool→Sto→Prop}{QA:List W→Sto→Prop}{QI:List W→(Sto→Prop)→Sto→Prop}{QO:Option Int→Sto→Prop}{P:WSt→Sto→Prop}{D:WEnds}{w x y:W}{ws:List W}{EX:Str→Sto→Prop}
theorem zjU{i:Nat}:(zaf i E σ S Q)=(match σ[i]? with
 |some (ae w)=>Q w S
 |_=>False):=pz id id
theorem zyS{w:W}:(wC w E σ S Q)=(Q w S):=pz id id
theorem zuh{r:W2}{a b:WE}:(wOp r a b E σ S Q)=(a E σ S λx S1=>b E σ S1 λy S2=>r x y S2 Q):=pz id id
theorem zsH{t:WE}:(zfm t E σ S QB)=(t E σ S λw S'=>zsq w S' QB):=pz id id
theorem zwY{t:WE}:(wTb t E σ S QB)=(t E σ S λw S'=>match w with
 | .bl b=>QB b S'
 |_=>False):=pz id id
theorem zuS{t u:WT}:(zuN t u E σ S QB)=(t E σ S λc S1=>if c=true then u E σ S1 QB else QB false S1):=pz id id
theorem zzj{t u:WT}:(wOr t u E σ S QB)=(t E σ S λc S1=>if c=true then QB true S1 else u E σ S1 QB):=pz id id
theorem zvS{t:WT}:(zqU t E σ S QB)=(t E σ S λc S1=>QB (!c) S1):=pz id id
theorem zuH{t u:WE}:(zum t u E σ S Q)=(t E σ S λw S1=>match w with
 | .bl true=>u E σ S1 Q
 | .bl false=>Q (.bl false) S1
 |_=>False):=pz id id
theorem zyL{c:WT}{t u:WE}:(wIf c t u E σ S Q)=(c E σ S λb S1=>if b=true then t E σ S1 Q else u E σ S1 Q):=pz id id
theorem zwH{c:WT}{t u:WS}:(zca c t u E D σ S)=(c E σ S λb S1=>if b=true then t E D σ S1 else u E D σ S1):=pz id id
theorem ztZ:(zaP  E D σ S)=(D.nx σ S):=pz id id
theorem zwb{t u:WS}:(zaw t u E D σ S)=(t E { D with nx:=u E D } σ S):=pz id id
theorem zsf{e:WE}:(zbf e E D σ S)=(e E σ S D.rt):=pz id id
theorem zsN{e:WE}:(zdo e E D σ S)=(e E σ S λ_ S1=>D.nx σ S1):=pz id id
theorem zwx{i:Nat}:(wGN i w σ S P)=(P (σ.set i (ae w)) S):=pz id id
theorem zvl{e:WE}{g:WG}:(wAsg e g E D σ S)=(e E σ S λw S1=>g w σ S1 D.nx):=pz id id
theorem ztA:(zcn  ws σ S P)=(match ws with
 | []=>P σ S
 |_=>False):=pz id id
theorem zqA{g:WG}{u:WGs}:(zay g u ws σ S P)=(match ws with
 | []=>False
 |w::r=>g w σ S λσ' S'=>u r σ' S' P):=pz id id
theorem zys{u:WGs}:(wGT u w σ S P)=(match w with
 | .tup ws=>u ws σ S P
 |_=>False):=pz id id
theorem ztI:(waNil  E σ S QA)=(QA [] S):=pz id id
theorem zrd{t:WE}{u:WA}:(zab t u E σ S QA)=(t E σ S λw S1=>u E σ S1 λws S2=>QA (w::ws) S2):=pz id id
theorem zvU{t:WA}:(zaS t E σ S Q)=(t E σ S λws S1=>ws.length≤sizeLine∧Q (.tup ws) S1):=pz id id
theorem zrU{t:WA}:(zbR t E σ S QA)=(t E σ S λws S1=>ws.length≤sizeLine∧QA ws S1):=pz id id
theorem zrT{t:WL}:(zby t E σ S Q)=(t E σ S λws S1=>∀a,S1 a=none→Q (.ref a) (put S1 a (.lst ws))):=pz id id
theorem ztt{c:WSp}{t:WA}:(zar c t E σ S Q)=(t E σ S λws S1=>c ws S1 Q λcl S2=>E cl σ S2):=pz id id
theorem zlV{n k:Nat}{body:WS}:(zcB n k body ws S Q EX)=(ws.length=k∧body (λc _ S'=>EX c S') { nx:=λ_ S'=>∃S'',Sub S'' S'∧Q .non S'',rt:=λw S'=>∃S'',Sub S'' S'∧Q w S'' } (ws.map ae++aJ (n - k) none) S):=pz id id
theorem zvf{t:WE}:(zmH t E σ S Q)=(t E σ S λw S1=>match w with
 | .int i=>Q (.int (-i)) S1
 |_=>False):=pz id id
theorem zyA{t u:WE}:(zyZ t u E σ S QA)=(t E σ S λx S1=>u E σ S1 λy S2=>match x,y with
 | .ref a, .ref b=>zcz S2 a λxs=>zcz S2 b λys=>xs.length+ys.length≤sizeLine∧QA (xs++ys) S2
 |_,_=>False):=pz id id
theorem zvh{neg:Bool}:(oEq neg x y S Q)=(match eqF S 60 x y with
 |some b=>Q (.bl (if neg then !b else b)) S
 |none=>False):=pz id id
theorem zyO:(woN  E σ S QO)=(QO none S):=pz id id
theorem zyC{t:WE}:(woS t E σ S QO)=(t E σ S λw S1=>match w with
 | .int i=>QO (ae i) S1
 |_=>False):=pz id id
theorem zyW{t:WE}{l h:WO}:(wSl t l h E σ S Q)=(t E σ S λx S1=>l E σ S1 λlo S2=>h E σ S2 λhi S3=>oSl x lo hi S3 Q):=pz id id
theorem zzI{f:WF}{t:WA}:(wB f t E σ S Q)=(t E σ S λws S1=>f ws S1 Q):=pz id id
theorem zyy{f:WF}{t:WL}:(wBL f t E σ S Q)=(t E σ S λws S1=>f ws S1 Q):=pz id id
theorem zpD:(zfX  ws S Q)=(Q (.tup ws) S):=pz id id
theorem zpa{t:WE}:(zkh t E σ S QA)=(t E σ S λw S1=>match w with
 | .tup ws=>QA ws S1
 | .ref a=>zcz S1 a λws=>QA ws S1
 | .scr ns=>QA (ns.map W.int) S1
 |_=>False):=pz id id
theorem zuG:(znq  ws S Q)=(match ziW ws with
 |some bs=>Q (.bl (bs.all _root_.id)) S
 |none=>False):=pz id id
theorem zxD{T:String}{t:WE}:(zlb T t E σ S Q)=(t E σ S λw S1=>tyW w S1 λA=>Q (.bl (zbS A T)) S1):=pz id id
theorem zzG{rv:W→Sto→Prop}{f:WMf}{to:WE}{t:WA}:(wM rv f to t E σ S Q)=(to E σ S λw S1=>rv w S1∧t E σ S1 λws S2=>f w ws S2 Q):=pz id id
theorem zyh{rv:W→Sto→Prop}{f:WMf}{to:WE}{t:WL}:(wML rv f to t E σ S Q)=(to E σ S λw S1=>rv w S1∧t E σ S1 λws S2=>f w ws S2 Q):=pz id id
theorem zwn{i:Nat}{g:Int→Int→Int}{e:WE}:(zvY i g e E D σ S)=(match σ[i]? with
 |some (ae (.int a))=>e E σ S λw S1=>match w with
  | .int b=>D.nx (σ.set i (ae (.int (g a b)))) S1
  |_=>False
 |_=>False):=pz id id
theorem zuP{q:WI}{g:WG}{b:WS}:(zfg q g b E D σ S)=(q E σ S λws G S1=>forL g b E D G ws σ S1):=pz id id
theorem zyu{t:WE}:(wIv t E σ S QI)=(t E σ S λw S1=>match w with
 | .tup ws=>QI ws (λ_=>True) S1
 | .ref a=>zcz S1 a λws=>QI ws (λS'=>S' a=ae (.lst ws)) S1
 | .scr ns=>QI (ns.map W.int) (λ_=>True) S1
 | .str z=>QI (zks z) (λ_=>True) S1
 |_=>False):=pz id id
theorem zxE{t:WA}:(zsy t E σ S QI)=(t E σ S λws S1=>match ws with
 | [.int j]=>(-(2 ^ 62)≤j∧j<2 ^ 62)∧QI (zmL 0 j.toNat) (λ_=>True) S1
 |_=>False):=pz id id
theorem zvN:(zhx  E σ S QB)=(QB true S):=pz id id
theorem ztC{k:Nat}{fr:List Nat}{q:WI}{g:WG}{c:WT}{e:WE}:(zdd k fr q g c e E σ S QA)=(q noE σ S λws G S1=>zes g c e noE G QA ws [] (aJ k none++fr.map λj=>(σ[j]?).join) S1):=pz id id
theorem zte{t:WE}:(zkA t E σ S QI)=(t E σ S λw S1=>zpc w S1 λws G=>QI (zfv 0 ws) G S1):=pz id id
theorem zuR{t u:WE}:(zuL t u E σ S QI)=(t E σ S λx S1=>u E σ S1 λy S2=>zpc x S2 λxs G=>zpc y S2 λys G'=>QI (pairs xs ys) (λS'=>G S'∧G' S') S2):=pz id id
theorem zux{t:WE}{l h:WO}:(zss t l h E σ S QA)=(t E σ S λx S1=>l E σ S1 λlo S2=>h E σ S2 λhi S3=>match x with
 | .ref a=>zcz S3 a λws=>QA (zer ws lo hi) S3
 | .scr ns=>QA ((zer ns lo hi).map W.int) S3
 |_=>False):=pz id id
theorem zwX{t:WL}{u:WE}:(zuy t u E σ S Q)=(t E σ S λws S1=>u E σ S1 λy S2=>match y with
 | .int i=>match atI ws i with
  |some w=>Q w S2
  |none=>False
 |_=>False):=pz id id
theorem zpk{t:WE}{u:WL}:(zfC t u E σ S QA)=(t E σ S λx S1=>u E σ S1 λys S2=>match x with
 | .ref a=>zcz S2 a λxs=>xs.length+ys.length≤sizeLine∧QA (xs++ys) S2
 |_=>False):=pz id id
theorem ztp{t u:WL}:(zjj t u E σ S QA)=(t E σ S λxs S1=>u E σ S1 λys S2=>xs.length+ys.length≤sizeLine∧QA (xs++ys) S2):=pz id id
theorem ztj{t:WL}{u:WE}:(zrJ t u E σ S QA)=(t E σ S λxs S1=>u E σ S1 λy S2=>match y with
 | .ref a=>zcz S2 a λys=>xs.length+ys.length≤sizeLine∧QA (xs++ys) S2
 |_=>False):=pz id id
theorem ztz{t:WL}{u:WE}:(zrz t u E σ S QA)=(t E σ S λxs S1=>u E σ S1 λy S2=>match y with
 | .int k=>(-(2 ^ 63)≤k∧k<2 ^ 63∧xs.length*k.toNat≤sizeLine)∧QA (aJ k.toNat xs).flatten S2
 |_=>False):=pz id id
end
section
variable {S:Sto}{Q:WK}
theorem zva{xs:List W}{k:Int}:zqN (.tup xs) (.int k) S Q=((xs≠ []∧ -(2 ^ 63)≤k∧k<2 ^ 63∧xs.length*k.toNat≤sizeLine)∧Q (.tup (aJ k.toNat xs).flatten) S):=pz id id
theorem zyx{neg:Bool}{y:W}{a:Addr}:zwN neg y (.ref a) S Q=(match znC y with
 |some k=>zrr S a λkvs=>Q (.bl (if neg then !(zfy kvs k).isSome else(zfy kvs k).isSome)) S
 |none=>False):=pz id id
theorem zvo{y:W}{a:Addr}:zyN (.ref a) y S Q=(match znC y with
 |some k=>zrr S a λkvs=>match zfy kvs k with
  |some w=>Q w S
  |none=>False
 |none=>False):=pz id id
theorem ztx{ws:List W}:(zmM ws S Q)=(match zbW ws with
 |some ns=>Q (.int ns.sum) S
 |none=>False):=pz id id
theorem ztY{z:Str}:zla (.str z) [] S Q=(z.length≤5592405∧Q (.str (dA z)) S):=pz id id
theorem zei:∀p:List Int,zbW (p.map W.int)=ae p
 | []=>rfl
 |i::p=>by rw[aD,zbW,zei p];rfl
theorem zyk (p:List Int):znC (zat p)=ae p:=zei p
theorem zrh{a:Addr}{kvs:List (List Int×W)}{P:List (List Int×W)→Prop}:zrr (put S a (.dct kvs)) a P=P kvs:=zkM zag
end
end L2
end
section
def L2.wZ (d:String):Lean.MacroM (Lean.TSyntax `tactic):=do
  let a:Array Lean.Term:=(("L2.zjU L2.zyS L2.zuh L2.zsH L2.zwY L2.zuS L2.zzj L2.zvS L2.zuH L2.zyL L2.zwH L2.ztZ L2.zwb L2.zsf L2.zsN L2.zwx L2.zvl L2.ztA L2.zqA L2.zys L2.ztI L2.zrd L2.zvU L2.zrU L2.zrT L2.ztt L2.zlV L2.zvf L2.zvh L2.zyO L2.zyC L2.zyW L2.zzI L2.zyy L2.zpD L2.zpa L2.zuG L2.zxD L2.zzG L2.zyh L2.zwn L2.zuP L2.zyu L2.zxE L2.zvN L2.ztC L2.zte L2.zuR L2.zux L2.zwX L2.zpk L2.ztp L2.ztj L2.ztz zqM zxk zqf L2.zva L2.zyx L2.zvo L2.ztx L2.zrG L2.ztY L2.zyk L2.zrh L2.zfG L2.zbe L2.zsr L2.zvJ L2.zyw L2.zuq L2.zhR L2.zkD L2.ziy L2.zjX L2.zik L2.zjt L2.zjD L2.zhW L2.ziP L2.zgU L2.zhZ L2.zkn L2.ziN L2.zkt L2.zhE L2.ziA L2.zid L2.zgV L2.zic L2.sub_tuple_tuple L2.sub_tuple_list L2.ziK L2.zhS L2.zjB L2.sub_list_tuple L2.sub_list_list L2.zmj L2.zpt L2.zpW L2.znU L2.zpl L2.znN L2.zgy L2.ztG L2.zqn L2.zqT L2.zri L2.zqo L2.zqw L2.znM L2.zns L2.zfT L2.zgu L2.zyf L2.zvn L2.zra L2.zqC L2.zom L2.zpH L2.znm L2.znc L2.zqB L2.zlf L2.zqj L2.zqZ L2.zrI L2.zrm L2.zqD L2.zqG L2.zky L2.zkG L2.zrL L2.zyp L2.ziF L2.zjs L2.zoZ L2.zyE L2.zzg L2.zro L2.zoY L2.zwC L2.zvR L2.zwe L2.zsK L2.zqm L2.zuv L2.ztv L2.zui L2.ztO L2.zuu L2.zqK L2.zrs L2.zry List.map_cons List.map_nil List.length_cons List.length_nil List.cons_append List.nil_append List.append_nil List.replicate List.getElem?_cons_zero List.getElem?_cons_succ List.getElem?_nil List.set_cons_zero List.set_cons_succ Nat.reduceAdd Nat.reduceSub true_and and_true if_true if_false Bool.false_eq_true reduceIte Bool.not_true Bool.not_false Option.join_some Option.join_none decide_eq_true_eq and_self".splitOn " ").filter (· != d)).toArray.map λs=>Lean.mkIdent s.toName
  `(tactic| simp only [$[$a:term],*])
local macro_rules | `(tactic| walk_at "wp") => L2.wZ ""
section
namespace L2
open PySem PySem.Spec PyProof.Rows
section
variable {E:WX}{D:WEnds}{σ:WSt}{S:Sto}{Q:WK}
theorem zqM{c:WSp}{t:WA}:(zni c t E σ S Q)=(t noX σ S λws S1=>c ws S1 Q λcl S2=>E cl σ S2):=pz id id
theorem zxk{i:Nat}{a:Addr}{b:Bool}:(zuO i a b E σ S Q)=(σ[i]? =ae (ae (.ref a))∧Q (.bl b) S):=pz id id
theorem zkW{x:Str}{t:WA}:(ziV x t E D σ S)=(t E σ S λws S1=>ws.length≤sizeLine∧E x σ S1):=pz id id
theorem zqf{i:Nat}{al:List Str}{t:WS}{u:Str→Addr→WS}:(zoQ i al t u E D σ S)=(t (λcl σ' S'=>cl∈al∧ ∀a,u cl a noX { nx:=λσ'' S''=>D.nx (σ''.set i none) S'',rt:=D.rt,bk:=λσ'' S''=>D.bk (σ''.set i none) S'',ct:=λσ'' S''=>D.ct (σ''.set i none) S'' } (σ'.set i (ae (.ref a))) S') D σ S):=pz id id
end
noncomputable def zcb:Nat→WSp
 |0=>zba
 |r+1=>zcB 1 1 (zaw (zca (zfm (zlb "int" (zaf 0))) (zbf (zaS waNil)) zaP)
  (zbf (wSl (zaf 0) (woS (wC (.int 1))) woN)))
noncomputable def zcC (r:Nat) (self:WSp):WS:=(zdo (wM rvL zgc (zaf 1) (zab (zar (zcb r) (zab (zaf 2) waNil)) waNil)))
noncomputable def zbD:Nat→WSp
 |0=>zba
 |r+1=>zcB 3 1 (zaw (wAsg (zby (zbR waNil)) (wGN 1))
  (zaw (zfg (wIv (zaf 0)) (wGN 2) (zcC r zba))
  (zbf (zaf 1))))
noncomputable def zft (r:Nat) (self:WSp):WS:=(zaw (zvY 1 (λa b=>a+b) (wB zdW (zab (zaf 3) waNil)))
  (zaw (zvY 2 (λa b=>a+b) (wC (.int 1)))
  (zaw (zca (wOr (wTb (wOp oGt (zaf 1) (wC (.int 400)))) (wTb (wOp oGt (zaf 2) (wC (.int 40))))) (zbf (wC (.bl false))) zaP)
  (wAsg (zar (zbD r) (zab (zaf 3) waNil)) (wGN 3)))))
noncomputable def zdz:Nat→WSp
 |0=>zba
 |r+1=>zcB 4 1 (zaw (wAsg (wC (.int 0)) (wGN 1))
  (zaw (wAsg (wC (.int 0)) (wGN 2))
  (zaw (wAsg (zby (zbR (zab (zaf 0) waNil))) (wGN 3))
  (zaw (znJ (zfm (zaf 3)) (zft r zba))
  (zbf (wC (.bl true)))))))
noncomputable def zcf (r:Nat) (self:WSp):WS:=(zdo (zar self (zab (zaf 4) (zab (wOp zdl (zaf 1) (zaS (zab (zaf 3) waNil))) (zab (zaf 2) waNil)))))
noncomputable def zaR:Nat→WSp
 |0=>zba
 |r+1=>zcB 5 3 (zaw (zdo (wM rvL zbV (zaf 2) (zab (zaf 1) waNil)))
  (zfg (zkA (zar (zcb r) (zab (zaf 0) waNil))) (wGT (zay (wGN 3) (zay (wGN 4) zcn))) (zcf r (zaR r))))
noncomputable def zfc:Nat→WSp
 |0=>zba
 |r+1=>zcB 2 1 (zaw (wAsg (zby (zbR waNil)) (wGN 1))
  (zaw (zdo (zar (zaR r) (zab (zaf 0) (zab (zaS waNil) (zab (zaf 1) waNil)))))
  (zbf (zaf 1))))
noncomputable def zbx:Nat→WSp
 |0=>zba
 |r+1=>zcB 3 2 (zaw (wAsg (zar (zcb r) (zab (zaf 0) waNil)) (wGN 2))
  (zaw (zca (wOr (wTb (wOp oLt (zaf 1) (wC (.int 0)))) (wTb (wOp oGe (zaf 1) (wB zdW (zab (zaf 2) waNil))))) (ziV "NoPlace" (zab (wC (.str "there is no such place")) waNil)) zaP)
  (zbf (wOp oIx (zaf 2) (zaf 1)))))
noncomputable def zhX (r:Nat) (self:WSp):WS:=(wAsg (zar (zbx r) (zab (zaf 2) (zab (zaf 3) waNil))) (wGN 2))
noncomputable def zjF:Nat→WSp
 |0=>zba
 |r+1=>zcB 4 2 (zaw (wAsg (zaf 0) (wGN 2))
  (zaw (zfg (wIv (zaf 1)) (wGN 3) (zhX r zba))
  (zbf (zaf 2))))
noncomputable def zfD (r:Nat) (self:WSp):WE:=(zaf 0)
noncomputable def zbE:Nat→WSp
 |0=>zba
 |r+1=>zcB 1 1 (zbf (zby (zdd 1 [0] (wIv (zar (zfc r) (zab (zaf 0) waNil))) (wGN 0) (zfm (zlb "int" (zar (zjF r) (zab (zaf 1) (zab (zaf 0) waNil))))) (zfD r zba))))
noncomputable def zgX (r:Nat) (self:WSp):WE:=(zar self (zab (zaf 0) (zab (zaf 1) waNil)))
noncomputable def zdC:Nat→WSp
 |0=>zba
 |r+1=>zcB 2 2 (zaw (zca (zfm (zlb "int" (zaf 0))) (zbf (wOp oIx (zaf 1) (zaf 0))) zaP)
  (zbf (wOp zdl (zaS (zab (wOp oIx (zaf 0) (wC (.int 0))) waNil)) (wBL zfX (zdd 1 [1] (wIv (wSl (zaf 0) (woS (wC (.int 1))) woN)) (wGN 0) zhx (zgX r (zdC r)))))))
noncomputable def zbF:Nat→WSp
 |0=>zba
 |r+1=>zcB 2 2 (zbf (zum (wOp (oEq false) (wOp oIx (zaf 0) (wC (.int 0))) (wOp oIx (zaf 1) (wC (.int 0)))) (wOp (oEq false) (wB zdW (zab (zaf 0) waNil)) (wB zdW (zab (zaf 1) waNil)))))
noncomputable def zbU (r:Nat) (self:WSp):WS:=(zca (zqU (zfm (zar self (zab (zaf 3) (zab (zaf 4) (zab (zaf 2) waNil)))))) (zbf (wC (.bl false))) zaP)
noncomputable def zaG:Nat→WSp
 |0=>zba
 |r+1=>zcB 5 3 (zaw (zca (zfm (zlb "int" (zaf 0))) (zaw (zdo (wM rvL zbV (zaf 2) (zab (zaf 1) waNil)))
  (zbf (wC (.bl true)))) zaP)
  (zaw (zca (zqU (zfm (zar (zbF r) (zab (zaf 0) (zab (zaf 1) waNil))))) (zbf (wC (.bl false))) zaP)
  (zaw (zfg (zuL (wSl (zaf 0) (woS (wC (.int 1))) woN) (wSl (zaf 1) (woS (wC (.int 1))) woN)) (wGT (zay (wGN 3) (zay (wGN 4) zcn))) (zbU r (zaG r)))
  (zbf (wC (.bl true))))))
noncomputable def zdp:Nat→WSp
 |0=>zba
 |r+1=>zcB 3 2 (zaw (wAsg (zby (zbR waNil)) (wGN 2))
  (zaw (zca (zfm (zar (zaG r) (zab (zaf 0) (zab (zaf 1) (zab (zaf 2) waNil))))) (zbf (zaf 2)) zaP)
  (zbf (wC .non))))
noncomputable def zey (r:Nat) (self:WSp):WS:=(zca (wTb (wOp (oEq false) (wOp oIx (zaf 2) (wC (.int 0))) (zaf 1))) (zbf (zaf 2)) zaP)
noncomputable def zbQ:Nat→WSp
 |0=>zba
 |r+1=>zcB 3 2 (zaw (zfg (wIv (zaf 0)) (wGN 2) (zey r zba))
  (zbf (wC .non)))
noncomputable def zdi:Nat→WSp
 |0=>zba
 |r+1=>zcB 1 1 (zaw (zca (zqU (zfm (zar (zdz r) (zab (zaf 0) waNil)))) (ziV "TooGreat" (zab (wC (.str "the shape is not small")) waNil)) zaP)
  (zbf (zaf 0)))
noncomputable def zeD (r:Nat) (self:WSp):WE:=(zar self (zab (zaf 1) (zab (zaf 0) (zab (zaf 2) waNil))))
noncomputable def zbO:Nat→WSp
 |0=>zba
 |r+1=>zcB 5 3 (zaw (wAsg (zby (zdd 1 [0,2] (wIv (wSl (zaf 1) (woS (wC (.int 1))) woN)) (wGN 0) zhx (zeD r (zbO r)))) (wGN 3))
  (zaw (wAsg (zar (zbQ r) (zab (zaf 0) (zab (wOp oIx (zaf 1) (wC (.int 0))) waNil))) (wGN 4))
  (zaw (zca (wTb (wOp (oIs false) (zaf 4) (wC .non))) (zbf (wOp zdl (zaS (zab (wOp oIx (zaf 1) (wC (.int 0))) waNil)) (wB zdZ (zab (zaf 3) waNil)))) zaP)
  (zbf (zar (zdC r) (zab (wOp oIx (zaf 4) (zaf 2)) (zab (zaf 3) waNil)))))))
noncomputable def zhk:Nat→WSp
 |0=>zba
 |r+1=>zcB 2 2 (zbf (zar (zdi r) (zab (zar (zbO r) (zab (zaf 0) (zab (zaf 1) (zab (wC (.int 2)) waNil)))) waNil)))
noncomputable def zdV (r:Nat) (self:WSp):WE:=(zaS (zab (zaf 0) waNil))
noncomputable def zbz:Nat→WSp
 |0=>zba
 |r+1=>zcB 3 2 (zaw (wAsg (zar (zbQ r) (zab (zaf 0) (zab (wOp oIx (zaf 1) (wC (.int 0))) waNil))) (wGN 2))
  (zaw (zca (wTb (wOp (oIs false) (zaf 2) (wC .non))) (zbf (zby (zdd 1 [] (zsy (zab (wOp (zep λi j=> .int (i - j)) (wB zdW (zab (zaf 1) waNil)) (wC (.int 1))) waNil)) (wGN 0) zhx (zdV r zba)))) zaP)
  (zbf (zar (zbE r) (zab (wOp oIx (zaf 2) (wC (.int 1))) waNil)))))
noncomputable def zdS (r:Nat) (self:WSp):WS:=(zca (wTb (wOp (oIs true) (zar (zdp r) (zab (wOp oIx (zaf 2) (wC (.int 1))) (zab (zaf 1) waNil))) (wC .non))) (zbf (zaf 2)) zaP)
noncomputable def zbq:Nat→WSp
 |0=>zba
 |r+1=>zcB 3 2 (zaw (zfg (wIv (zaf 0)) (wGN 2) (zdS r zba))
  (zbf (wC .non)))
noncomputable def zcM (r:Nat) (self:WSp):WS:=(zdo (zar self (zab (zaf 0) (zab (zaf 6) (zab (wOp zdl (zaf 2) (zaS (zab (zaf 5) waNil))) (zab (zaf 3) waNil))))))
noncomputable def zbn:Nat→WSp
 |0=>zba
 |r+1=>zcB 7 4 (zaw (wAsg (zar (zbq r) (zab (zaf 0) (zab (zaf 1) waNil))) (wGN 4))
  (zaw (zca (wTb (wOp (oIs true) (zaf 4) (wC .non))) (zdo (wM rvL zbV (zaf 3) (zab (zaS (zab (zaf 2) (zab (wOp oIx (zaf 4) (wC (.int 0))) waNil))) waNil))) zaP)
  (zfg (zkA (wSl (zaf 1) (woS (wC (.int 1))) woN)) (wGT (zay (wGN 5) (zay (wGN 6) zcn))) (zcM r (zbn r)))))
noncomputable def zcQ:Nat→WSp
 |0=>zba
 |r+1=>zcB 3 2 (zaw (wAsg (zby (zbR waNil)) (wGN 2))
  (zaw (zdo (zar (zbn r) (zab (zaf 0) (zab (zaf 1) (zab (zaS waNil) (zab (zaf 2) waNil))))))
  (zbf (zaf 2))))
noncomputable def zeP (r:Nat) (self:WSp):WE:=(wOp oIx (zaf 0) (wC (.int 0)))
noncomputable def zcU:Nat→WSp
 |0=>zba
 |r+1=>zcB 1 1 (zbf (zby (zdd 1 [] (wIv (zaf 0)) (wGN 0) zhx (zeP r zba))))
noncomputable def zcl:Nat→WSp
 |0=>zba
 |r+1=>zcB 3 2 (zaw (wAsg (zar (zbq r) (zab (zaf 0) (zab (zaf 1) waNil))) (wGN 2))
  (zbf (wOp zdl (zaS (zab (wOp oIx (zaf 2) (wC (.int 0))) waNil)) (wB zdZ (zab (zar (zdp r) (zab (wOp oIx (zaf 2) (wC (.int 1))) (zab (zaf 1) waNil))) waNil)))))
noncomputable def zck (r:Nat) (self:WSp):WS:=(zdo (wM rvL zbV (zaf 5) (zab (zar self (zab (zaf 0) (zab (zaf 7) (zab (wOp zdl (zaf 2) (zaf 6)) (zab (zaf 3) waNil))))) waNil)))
noncomputable def zaY:Nat→WSp
 |0=>zba
 |r+1=>zcB 8 4 (zaw (wAsg (wIf (wTb (wOp (zwN false) (zaf 2) (zaf 3))) (zar (zcl r) (zab (zaf 0) (zab (zaf 1) waNil))) (zaf 1)) (wGN 4))
  (zaw (wAsg (zby (zbR waNil)) (wGN 5))
  (zaw (zfg (zuL (zar (zbz r) (zab (zaf 0) (zab (zaf 4) waNil))) (wSl (zaf 4) (woS (wC (.int 1))) woN)) (wGT (zay (wGN 6) (zay (wGN 7) zcn))) (zck r (zaY r)))
  (zbf (wOp zdl (zaS (zab (wOp oIx (zaf 4) (wC (.int 0))) waNil)) (wB zdZ (zab (zaf 5) waNil)))))))
noncomputable def zfz (r:Nat) (self:WSp):WE:=(zaS (zab (zaf 0) (zab (wC (.bl true)) waNil)))
noncomputable def zdt:Nat→WSp
 |0=>zba
 |r+1=>zcB 3 3 (zbf (zar (zaY r) (zab (zaf 0) (zab (zaf 1) (zab (zaS waNil) (zab (wBL zjW (zdd 1 [] (wIv (zaf 2)) (wGN 0) zhx (zfz r zba))) waNil))))))
noncomputable def zen (r:Nat) (self:WSp):WS:=(zca (wTb (wOp (oIn true) (zaf 4) (zaf 3))) (ziV "NoUse" (zab (wC (.str "no use is open at one of the places")) waNil)) zaP)
noncomputable def zdB:Nat→WSp
 |0=>zba
 |r+1=>zcB 5 3 (zaw (wAsg (zar (zcU r) (zab (zar (zcQ r) (zab (zaf 0) (zab (zaf 1) waNil))) waNil)) (wGN 3))
  (zaw (zfg (wIv (zaf 2)) (wGN 4) (zen r zba))
  (zbf (zar (zdt r) (zab (zaf 0) (zab (zaf 1) (zab (zaf 2) waNil)))))))
noncomputable def zdb (r:Nat) (self:WSp):WS:=(zaw (wAsg (zar (zdB r) (zab (zaf 0) (zab (zaf 4) (zab (zby (zbR (zab (zaf 5) waNil))) waNil)))) (wGN 6))
  (zaw (wAsg (zar (zhk r) (zab (zaf 0) (zab (zaf 6) waNil))) (wGN 4))
  (zdo (wM rvL zbV (zaf 3) (zab (zaf 6) waNil)))))
noncomputable def zcs:Nat→WSp
 |0=>zba
 |r+1=>zcB 7 3 (zaw (wAsg (zby (zbR waNil)) (wGN 3))
  (zaw (wAsg (zaf 1) (wGN 4))
  (zaw (zfg (wIv (zaf 2)) (wGN 5) (zdb r zba))
  (zbf (zaS (zab (zaf 1) (zab (zaf 3) waNil)))))))
noncomputable def zaO:Nat→WSp
 |0=>zba
 |r+1=>zcB 2 2 (zaw (zca (wTb (wOp oLt (zaf 1) (wB zdW (zab (zaf 0) waNil)))) (zbf (wOp oIx (zaf 0) (zaf 1))) zaP)
  (zbf (wC (.int 0))))
noncomputable def zex (r:Nat) (self:WSp):WE:=(wOp oIx (zaf 1) (wOp (zdP (λ_ j=>0<j) λi j=> .int (i % j)) (wOp zdl (wOp oIx (zaf 2) (zaf 0)) (wOp (zdP CMul λi j=> .int (i*j)) (zaf 3) (wB zuU (zab (wOp (oEq false) (zaf 0) (zaf 4)) waNil)))) (wC (.int 26))))
noncomputable def zeB (r:Nat) (self:WSp):WS:=(zaw (wAsg (wML rvS ziz (wC (.str "")) (zdd 1 [3,5,6,7] (zsy (zab (wB zdW (zab (zaf 5) waNil)) waNil)) (wGN 0) zhx (zex r zba))) (wGN 9))
  (zaw (zca (zfm (zaf 2)) (wAsg (wOp zdl (wM rvS zla (wOp oIx (zaf 9) (wC (.int 0))) waNil) (wSl (zaf 9) (woS (wC (.int 1))) woN)) (wGN 9)) zaP)
  (zdo (wM rvL zbV (zaf 8) (zab (zaf 9) waNil)))))
noncomputable def zdm (r:Nat) (self:WSp):WS:=(zaw (zdo (wM rvL zbV (zaf 5) (zab (wOp (zdP (λ_ j=>0<j) λi j=> .int (i % j)) (zaf 4) (wC (.int 26))) waNil)))
  (wAsg (wOp (zdP zmp λi j=> .int (i / j)) (zaf 4) (wC (.int 26))) (wGN 4)))
noncomputable def zbP:Nat→WSp
 |0=>zba
 |r+1=>zcB 10 3 (zaw (wAsg (wC (.str "abcdefghijklmnopqrstuvwxyz")) (wGN 3))
  (zaw (wAsg (wOp (zdP (λ_ j=>0<j) λi j=> .int (i % j)) (zaf 1) (wOp (zdP zzc λi j=> .int (i ^ j.toNat)) (wC (.int 26)) (wC (.int 8)))) (wGN 4))
  (zaw (wAsg (zby (zbR waNil)) (wGN 5))
  (zaw (zfg (zsy (zab (wOp zdl (wC (.int 1)) (wOp (zdP (λ_ j=>0<j) λi j=> .int (i % j)) (zaf 0) (wC (.int 8)))) waNil)) (wGN 6) (zdm r zba))
  (zaw (wAsg (wOp (zdP (λ_ j=>0<j) λi j=> .int (i % j)) (wOp (zdP zmp λi j=> .int (i / j)) (zaf 0) (wC (.int 8))) (wB zdW (zab (zaf 5) waNil))) (wGN 7))
  (zaw (wAsg (zby (zbR waNil)) (wGN 8))
  (zaw (zfg (zsy (zab (wC (.int 6)) waNil)) (wGN 6) (zeB r zba))
  (zaw (zca (zuN (wTb (wOp (oEq false) (wOp (zdP (λ_ j=>0<j) λi j=> .int (i % j)) (wOp (zdP zmp λi j=> .int (i / j)) (zaf 0) (wC (.int 64))) (wC (.int 2))) (wC (.int 1)))) (zqU (zfm (zaf 2)))) (wAsg (zby (zjj (zss (zaf 8) woN (woS (wC (.int 3)))) (zbR (zab (wOp oIx (zaf 8) (wC (.int 2))) (zab (wOp oIx (zaf 8) (wC (.int 2))) (zab (wOp oIx (zaf 8) (wC (.int 5))) waNil)))))) (wGN 8)) zaP)
  (zbf (zaf 8))))))))))
noncomputable def zdg (r:Nat) (self:WSp):WE:=(zar self (zab (zaf 0) waNil))
noncomputable def zaF:Nat→WSp
 |0=>zba
 |r+1=>zcB 1 1 (zaw (zca (zfm (zlb "int" (zaf 0))) (zbf (wC (.int 1))) zaP)
  (zbf (wBL zmM (zdd 1 [] (wIv (wSl (zaf 0) (woS (wC (.int 1))) woN)) (wGN 0) zhx (zdg r (zaF r))))))
noncomputable def zdX (r:Nat) (self:WSp):WE:=(zar self (zab (zaf 0) (zab (zaf 1) waNil)))
noncomputable def zaW:Nat→WSp
 |0=>zba
 |r+1=>zcB 2 2 (zaw (zca (zfm (zlb "int" (zaf 0))) (zbf (wOp oIx (zaf 1) (zaf 0))) zaP)
  (zbf (wOp zdl (wSl (zaf 0) woN (woS (wC (.int 1)))) (wBL zfX (zdd 1 [1] (wIv (wSl (zaf 0) (woS (wC (.int 1))) woN)) (wGN 0) zhx (zdX r (zaW r)))))))
noncomputable def zcu:Nat→WSp
 |0=>zba
 |r+1=>zcB 4 4 (zaw (zca (wTb (wOp (oEq false) (zaf 0) (wC (.int 0)))) (zbf (zby (zbR (zab (zaS (zab (zaf 1) (zab (wC (.int 0)) waNil))) waNil)))) zaP)
  (zaw (zca (wTb (wOp (oEq false) (zaf 0) (wC (.int 1)))) (zbf (zby (zbR (zab (zaS (zab (zaf 1) (zab (wC (.int 0)) (zab (wC (.int 1)) waNil)))) waNil)))) zaP)
  (zaw (zca (wTb (wOp (oEq false) (zaf 0) (wC (.int 2)))) (zbf (zby (zbR (zab (zaS (zab (zaf 1) (zab (zaS (zab (zaf 2) waNil)) waNil))) (zab (zaS (zab (zaf 1) (zab (zaS (zab (zaf 3) (zab (wC (.int 0)) waNil))) waNil))) waNil))))) zaP)
  (zaw (zca (wTb (wOp (oEq false) (zaf 0) (wC (.int 3)))) (zbf (zby (zbR (zab (zaS (zab (zaf 1) (zab (zaS (zab (zaf 2) waNil)) (zab (wC (.int 0)) waNil)))) (zab (zaS (zab (zaf 1) (zab (zaS (zab (zaf 3) (zab (wC (.int 0)) waNil))) (zab (wC (.int 1)) waNil)))) waNil))))) zaP)
  (zaw (zca (wTb (wOp (oEq false) (zaf 0) (wC (.int 4)))) (zbf (zby (zbR (zab (zaS (zab (zaf 1) (zab (zaS (zab (zaf 3) (zab (zaS (zab (zaf 3) (zab (wC (.int 0)) waNil))) waNil))) (zab (wC (.int 1)) (zab (wC (.int 2)) waNil))))) (zab (zaS (zab (zaf 1) (zab (zaS (zab (zaf 3) (zab (zaS (zab (zaf 2) waNil)) waNil))) (zab (wC (.int 0)) (zab (wC (.int 1)) waNil))))) waNil))))) zaP)
  (zbf (zby (zbR (zab (zaS (zab (zaf 1) waNil)) waNil)))))))))
noncomputable def zbY:Nat→WSp
 |0=>zba
 |r+1=>zcB 4 3 (zaw (zca (wTb (wOp (oEq false) (zaf 0) (wC (.int 0)))) (zbf (zby (zbR (zab (zaS (zab (wOp oIx (zaf 1) (wC (.int 2))) waNil)) (zab (zaS (zab (wOp oIx (zaf 1) (wC (.int 5))) waNil)) (zab (zaS (zab (wOp oIx (zaf 1) (wC (.int 3))) (zab (zaS (zab (wOp oIx (zaf 1) (wC (.int 5))) waNil)) waNil))) waNil)))))) zaP)
  (zaw (zca (wTb (wOp (oEq false) (zaf 0) (wC (.int 1)))) (zaw (wAsg (zby (zbR (zab (wC (.int 0)) (zab (zaS (zab (wOp oIx (zaf 1) (wC (.int 3))) (zab (wC (.int 0)) waNil))) (zab (zaS (zab (wOp oIx (zaf 1) (wC (.int 4))) (zab (wC (.int 0)) (zab (wC (.int 0)) waNil)))) (zab (zaS (zab (wOp oIx (zaf 1) (wC (.int 4))) (zab (zaS (zab (wOp oIx (zaf 1) (wC (.int 3))) (zab (wC (.int 0)) waNil))) (zab (zaS (zab (wOp oIx (zaf 1) (wC (.int 2))) waNil)) waNil)))) waNil)))))) (wGN 3))
  (zaw (zca (zfm (zaf 2)) (zbf (zby (zfC (zaf 3) (zbR (zab (zaS (zab (wOp oIx (zaf 1) (wC (.int 0))) (zab (wC (.int 0)) waNil))) (zab (zaS (zab (wOp oIx (zaf 1) (wC (.int 1))) (zab (zaS (zab (wOp oIx (zaf 1) (wC (.int 3))) (zab (wC (.int 0)) waNil))) (zab (wC (.int 0)) waNil)))) (zab (zaS (zab (wOp oIx (zaf 1) (wC (.int 3))) (zab (zaS (zab (wOp oIx (zaf 1) (wC (.int 0))) (zab (wC (.int 0)) waNil))) waNil))) waNil))))))) zaP)
  (zbf (zby (zfC (zaf 3) (zbR (zab (zaS (zab (wOp oIx (zaf 1) (wC (.int 2))) waNil)) (zab (zaS (zab (wOp oIx (zaf 1) (wC (.int 3))) (zab (zaS (zab (wOp oIx (zaf 1) (wC (.int 5))) waNil)) waNil))) waNil)))))))) zaP)
  (zaw (zca (wTb (wOp (oEq false) (zaf 0) (wC (.int 3)))) (zaw (wAsg (zby (zbR (zab (zaS (zab (wOp oIx (zaf 1) (wC (.int 4))) (zab (zaS (zab (wOp oIx (zaf 1) (wC (.int 4))) (zab (wC (.int 0)) (zab (wC (.int 1)) waNil)))) (zab (wC (.int 2)) waNil)))) (zab (zaS (zab (wOp oIx (zaf 1) (wC (.int 4))) (zab (wC (.int 2)) (zab (zaS (zab (wOp oIx (zaf 1) (wC (.int 4))) (zab (wC (.int 1)) (zab (wC (.int 0)) waNil)))) waNil)))) (zab (zaS (zab (wOp oIx (zaf 1) (wC (.int 4))) (zab (zaS (zab (wOp oIx (zaf 1) (wC (.int 4))) (zab (wC (.int 0)) (zab (wC (.int 0)) waNil)))) (zab (zaS (zab (wOp oIx (zaf 1) (wC (.int 4))) (zab (wC (.int 1)) (zab (wC (.int 2)) waNil)))) waNil)))) waNil))))) (wGN 3))
  (zaw (zca (zfm (zaf 2)) (zbf (zby (zfC (zaf 3) (zbR (zab (zaS (zab (wOp oIx (zaf 1) (wC (.int 0))) (zab (zaS (zab (wOp oIx (zaf 1) (wC (.int 4))) (zab (zaS (zab (wOp oIx (zaf 1) (wC (.int 4))) (zab (wC (.int 2)) (zab (wC (.int 0)) waNil)))) (zab (wC (.int 1)) waNil)))) waNil))) (zab (zaS (zab (wOp oIx (zaf 1) (wC (.int 1))) (zab (wC (.int 1)) (zab (zaS (zab (wOp oIx (zaf 1) (wC (.int 4))) (zab (wC (.int 0)) (zab (wC (.int 2)) waNil)))) waNil)))) waNil)))))) zaP)
  (zbf (zby (zfC (zaf 3) (zbR (zab (wC (.int 0)) (zab (wC (.int 2)) (zab (zaS (zab (wOp oIx (zaf 1) (wC (.int 4))) (zab (wC (.int 1)) (zab (wC (.int 1)) waNil)))) (zab (zaS (zab (wOp oIx (zaf 1) (wC (.int 5))) waNil)) waNil)))))))))) zaP)
  (zaw (wAsg (zby (zbR (zab (zaS (zab (wOp oIx (zaf 1) (wC (.int 4))) (zab (wC (.int 0)) (zab (wC (.int 1)) waNil)))) (zab (zaS (zab (wOp oIx (zaf 1) (wC (.int 4))) (zab (wC (.int 1)) (zab (wC (.int 0)) waNil)))) (zab (zaS (zab (wOp oIx (zaf 1) (wC (.int 4))) (zab (zaS (zab (wOp oIx (zaf 1) (wC (.int 3))) (zab (wC (.int 0)) waNil))) (zab (wC (.int 1)) waNil)))) (zab (zaS (zab (wOp oIx (zaf 1) (wC (.int 4))) (zab (zaS (zab (wOp oIx (zaf 1) (wC (.int 4))) (zab (wC (.int 0)) (zab (wC (.int 0)) waNil)))) (zab (wC (.int 1)) waNil)))) waNil)))))) (wGN 3))
  (zaw (zca (zfm (zaf 2)) (zbf (zby (zfC (zaf 3) (zbR (zab (zaS (zab (wOp oIx (zaf 1) (wC (.int 1))) (zab (wC (.int 1)) (zab (wC (.int 0)) waNil)))) (zab (zaS (zab (wOp oIx (zaf 1) (wC (.int 0))) (zab (zaS (zab (wOp oIx (zaf 1) (wC (.int 4))) (zab (wC (.int 0)) (zab (wC (.int 1)) waNil)))) waNil))) waNil)))))) zaP)
  (zbf (zby (zfC (zaf 3) (zbR (zab (wC (.int 0)) (zab (wC (.int 1)) (zab (zaS (zab (wOp oIx (zaf 1) (wC (.int 3))) (zab (wC (.int 1)) waNil))) (zab (zaS (zab (wOp oIx (zaf 1) (wC (.int 5))) waNil)) waNil)))))))))))))
noncomputable def zcd (r:Nat) (self:WSp):WS:=(zaw (wAsg (zar (zbY r) (zab (zar (zaF r) (zab (zaf 9) waNil)) (zab (zaf 2) (zab (zaf 4) waNil)))) (wGN 10))
  (zaw (wAsg (zar (zaO r) (zab (zaf 0) (zab (wOp zdl (wOp zdl (wOp zdl (zaf 1) (wC (.int 2))) (wOp (zdP CMul λi j=> .int (i*j)) (wC (.int 2)) (zaf 6))) (zaf 8)) waNil))) (wGN 11))
  (zdo (wM rvL zbV (zaf 5) (zab (zaS (zab (wOp oIx (zaf 3) (wB zdW (zab (zaf 5) waNil))) (zab (zaf 9) (zab (wOp oIx (zaf 10) (wOp (zdP (λ_ j=>0<j) λi j=> .int (i % j)) (zaf 11) (wB zdW (zab (zaf 10) waNil)))) waNil)))) waNil)))))
noncomputable def zdx (r:Nat) (self:WSp):WS:=(zaw (wAsg (zar (zcu r) (zab (wOp (zdP (λ_ j=>0<j) λi j=> .int (i % j)) (zar (zaO r) (zab (zaf 0) (zab (wOp zdl (zaf 1) (zaf 6)) waNil))) (wC (.int 6))) (zab (wOp oIx (zaf 2) (zaf 6)) (zab (wOp oIx (zaf 2) (wC (.int 2))) (zab (wOp oIx (zaf 2) (wC (.int 3))) waNil))))) (wGN 7))
  (zfg (zkA (zaf 7)) (wGT (zay (wGN 8) (zay (wGN 9) zcn))) (zcd r zba)))
noncomputable def zbu:Nat→WSp
 |0=>zba
 |r+1=>zcB 12 5 (zaw (wAsg (zby (zbR waNil)) (wGN 5))
  (zaw (zfg (zsy (zab (wC (.int 2)) waNil)) (wGN 6) (zdx r zba))
  (zbf (zaf 5))))
noncomputable def zeZ (r:Nat) (self:WSp):WS:=(wAsg (zby (zjj (zss (zaf 4) woN (woS (zmH (wC (.int 2))))) (zbR (zab (zaS (zab (zmH (wC (.int 1))) (zab (wC (.int 0)) (zab (wOp oIx (zaf 2) (wC (.int 4))) (zab (wSl (zaf 4) (woS (zmH (wC (.int 2)))) woN) waNil))))) waNil)))) (wGN 4))
noncomputable def zeV (r:Nat) (self:WSp):WS:=(zaw (wAsg (wOp (zdP (λ_ j=>0<j) λi j=> .int (i % j)) (zaf 6) (wC (.int 8))) (wGN 7))
  (zaw (wAsg (zuy (zbR (zab (wC (.int 0)) (zab (wC (.int 0)) (zab (wC (.int 1)) (zab (wC (.int 2)) waNil))))) (wB ziT (zab (zaf 7) (zab (wC (.int 3)) waNil)))) (wGN 8))
  (zaw (wAsg (zaS (zab (zmH (wC (.int 1))) (zab (wC (.int 0)) (zab (wOp oIx (zaf 2) (zuy (zbR (zab (wC (.int 2)) (zab (wC (.int 5)) (zab (wC (.int 3)) (zab (wC (.int 4)) waNil))))) (wB ziT (zab (zaf 7) (zab (wC (.int 3)) waNil))))) waNil)))) (wGN 9))
  (zaw (zca (wTb (wOp oGt (zaf 7) (wC (.int 3)))) (zaw (wAsg (wOp (zdP (λ_ j=>0<j) λi j=> .int (i % j)) (wOp (zdP zmp λi j=> .int (i / j)) (zaf 6) (wC (.int 8))) (wB zdW (zab (zaf 1) waNil))) (wGN 10))
  (zaw (wAsg (zar (zaF r) (zab (wOp oIx (wOp oIx (zaf 1) (zaf 10)) (wC (.int 1))) waNil)) (wGN 8))
  (zaw (wAsg (zaS (zab (zaf 10) (zab (wOp (zdP (λ_ j=>0<j) λi j=> .int (i % j)) (wOp (zdP zmp λi j=> .int (i / j)) (zaf 6) (wC (.int 64))) (wC (.int 8))) (zab (wC (.str "")) waNil)))) (wGN 9))
  (wAsg (wOp zdl (zaf 5) (wC (.int 1))) (wGN 5))))) zaP)
  (zca (zuN (wTb (wOp oGt (zaf 3) (wC (.int 0)))) (wTb (wOp oLt (zaf 5) (wC (.int 5))))) (zaw (wAsg (wOp (zep λi j=> .int (i - j)) (zaf 3) (wC (.int 1))) (wGN 3))
  (zaw (wAsg (zby (zrJ (zrz (zbR (zab (zaS (zab (zmH (wC (.int 1))) (zab (wC (.int 0)) (zab (wOp oIx (zaf 2) (wC (.int 2))) (zab (zby (zbR waNil)) waNil))))) waNil)) (wOp (zep λi j=> .int (i - j)) (zaf 8) (wB zdW (zab (zaf 4) waNil)))) (zaf 4))) (wGN 4))
  (zaw (wAsg (wOp (zep λi j=> .int (i - j)) (wB zdW (zab (zaf 4) waNil)) (zaf 8)) (wGN 11))
  (wAsg (zby (zjj (zss (zaf 4) woN (woS (zaf 11))) (zbR (zab (wOp zdl (zaf 9) (zaS (zab (wSl (zaf 4) (woS (zaf 11)) woN) waNil))) waNil)))) (wGN 4))))) zaP)))))
noncomputable def zcJ:Nat→WSp
 |0=>zba
 |r+1=>zcB 12 4 (zaw (wAsg (zby (zbR waNil)) (wGN 4))
  (zaw (wAsg (wC (.int 0)) (wGN 5))
  (zaw (zfg (wIv (zaf 0)) (wGN 6) (zeV r zba))
  (zaw (znJ (wTb (wOp oGt (wB zdW (zab (zaf 4) waNil)) (wC (.int 1)))) (zeZ r zba))
  (zbf (zuy (zfC (zaf 4) (zbR (zab (zaS (zab (zmH (wC (.int 1))) (zab (wC (.int 0)) (zab (wOp oIx (zaf 2) (wC (.int 5))) (zab (zby (zbR waNil)) waNil))))) waNil))) (wC (.int 0))))))))
noncomputable def zfx (r:Nat) (self:WSp):WE:=(zar self (zab (zaf 0) (zab (zaf 1) (zab (zaf 2) waNil))))
noncomputable def zcI:Nat→WSp
 |0=>zba
 |r+1=>zcB 8 3 (zaw (wAsg (zaf 0) (wGT (zay (wGN 3) (zay (wGN 4) (zay (wGN 5) (zay (wGN 6) zcn))))))
  (zaw (wAsg (zby (zdd 1 [1,2] (wIv (zaf 6)) (wGN 0) zhx (zfx r (zcI r)))) (wGN 7))
  (zaw (zca (wTb (wOp oLt (zaf 3) (wC (.int 0)))) (zbf (wOp zdl (zaS (zab (zaf 5) waNil)) (wB zdZ (zab (zaf 7) waNil)))) zaP)
  (zaw (zca (wTb (wOp (oEq false) (wOp (zdP (λ_ j=>0<j) λi j=> .int (i % j)) (wOp (zdP zmp λi j=> .int (i / j)) (zaf 4) (zaf 2)) (wC (.int 2))) (wC (.int 1)))) (zbf (wOp zdl (zaS (zab (wOp oIx (wOp oIx (zaf 1) (zaf 3)) (wC (.int 0))) waNil)) (wB zdZ (zab (zaf 7) waNil)))) zaP)
  (zbf (zar (zaW r) (zab (wOp oIx (wOp oIx (zaf 1) (zaf 3)) (wC (.int 1))) (zab (zaf 7) waNil))))))))
noncomputable def zfe (r:Nat) (self:WSp):WS:=(zca (wTb (wOp (oEq false) (wOp oIx (zaf 4) (wC (.int 0))) (wOp oIx (zaf 1) (wC (.int 0))))) (zbf (zar (zaW r) (zab (wOp oIx (zaf 4) (zaf 2)) (zab (zaf 3) waNil)))) zaP)
noncomputable def zeS (r:Nat) (self:WSp):WE:=(zar self (zab (zaf 1) (zab (zaf 0) (zab (zaf 2) waNil))))
noncomputable def zbN:Nat→WSp
 |0=>zba
 |r+1=>zcB 5 3 (zaw (wAsg (zby (zdd 1 [0,2] (wIv (wSl (zaf 1) (woS (wC (.int 1))) woN)) (wGN 0) zhx (zeS r (zbN r)))) (wGN 3))
  (zaw (zfg (wIv (zaf 0)) (wGN 4) (zfe r zba))
  (zbf (wOp zdl (wSl (zaf 1) woN (woS (wC (.int 1)))) (wB zdZ (zab (zaf 3) waNil))))))
noncomputable def zcO (r:Nat) (self:WSp):WE:=(wOp zdl (zaS (zab (zaf 1) waNil)) (zaf 0))
noncomputable def zbL (r:Nat) (self:WSp):WS:=(wAsg (zby (zfC (zaf 1) (zdd 1 [2] (wIv (zar self (zab (zaf 3) waNil))) (wGN 0) zhx (zcO r zba)))) (wGN 1))
noncomputable def zav:Nat→WSp
 |0=>zba
 |r+1=>zcB 4 1 (zaw (wAsg (zby (zbR (zab (zaS waNil) waNil))) (wGN 1))
  (zaw (zca (zqU (zfm (zlb "int" (zaf 0)))) (zfg (zkA (wSl (zaf 0) (woS (wC (.int 1))) woN)) (wGT (zay (wGN 2) (zay (wGN 3) zcn))) (zbL r (zav r))) zaP)
  (zbf (zaf 1))))
noncomputable def zcZ (r:Nat) (self:WSp):WS:=(wAsg (wOp oIx (zaf 0) (wOp zdl (zaf 2) (wC (.int 1)))) (wGN 0))
noncomputable def zbp:Nat→WSp
 |0=>zba
 |r+1=>zcB 3 2 (zaw (zfg (wIv (zaf 1)) (wGN 2) (zcZ r zba))
  (zbf (zaf 0)))
noncomputable def zcS (r:Nat) (self:WSp):WE:=(zar self (zab (zaf 0) (zab (zaf 1) waNil)))
noncomputable def zaK:Nat→WSp
 |0=>zba
 |r+1=>zcB 2 2 (zaw (zca (zfm (zlb "int" (zaf 0))) (zbf (wC (.bl true))) zaP)
  (zaw (zca (wOr (wTb (wOp (oEq true) (wOp oIx (zaf 0) (wC (.int 0))) (wOp oIx (zaf 1) (wC (.int 0))))) (wTb (wOp (oEq true) (wB zdW (zab (zaf 0) waNil)) (wB zdW (zab (zaf 1) waNil))))) (zbf (wC (.bl false))) zaP)
  (zbf (wBL znq (zdd 2 [] (zuL (wSl (zaf 0) (woS (wC (.int 1))) woN) (wSl (zaf 1) (woS (wC (.int 1))) woN)) (wGT (zay (wGN 0) (zay (wGN 1) zcn))) zhx (zcS r (zaK r)))))))
noncomputable def zdJ (r:Nat) (self:WSp):WS:=(zca (zfm (zar (zaK r) (zab (wOp oIx (zaf 4) (wC (.int 1))) (zab (zar (zbp r) (zab (zaf 1) (zab (zaf 3) waNil))) waNil)))) (zdo (wM rvL zbV (zaf 2) (zab (zaS (zab (zaf 3) (zab (wOp oIx (zaf 4) (wC (.int 0))) waNil))) waNil))) zaP)
noncomputable def zdN (r:Nat) (self:WSp):WS:=(zfg (wIv (zaf 0)) (wGN 4) (zdJ r zba))
noncomputable def zbI:Nat→WSp
 |0=>zba
 |r+1=>zcB 5 2 (zaw (wAsg (zby (zbR waNil)) (wGN 2))
  (zaw (zfg (wIv (zar (zav r) (zab (zaf 1) waNil))) (wGN 3) (zdN r zba))
  (zbf (zaf 2))))
noncomputable def zcW (r:Nat) (self:WSp):WS:=(wAsg (wOp zdl (zaf 2) (zar self (zab (zaf 3) (zab (zaf 4) waNil)))) (wGN 2))
noncomputable def zaV:Nat→WSp
 |0=>zba
 |r+1=>zcB 5 2 (zaw (zca (zfm (zlb "int" (zaf 0))) (zbf (zby (zbR (zab (zaf 1) waNil)))) zaP)
  (zaw (wAsg (zby (zbR waNil)) (wGN 2))
  (zaw (zfg (zuL (wSl (zaf 0) (woS (wC (.int 1))) woN) (wSl (zaf 1) (woS (wC (.int 1))) woN)) (wGT (zay (wGN 3) (zay (wGN 4) zcn))) (zcW r (zaV r)))
  (zbf (zaf 2)))))
noncomputable def zce:Nat→WSp
 |0=>zba
 |r+1=>zcB 4 3 (zaw (zca (wTb (wOp (oEq false) (zaf 1) (zaS waNil))) (zbf (zaf 2)) zaP)
  (zaw (wAsg (wOp zdl (wOp oIx (zaf 1) (wC (.int 0))) (wC (.int 1))) (wGN 3))
  (zbf (wOp zdl (wOp zdl (wSl (zaf 0) woN (woS (zaf 3))) (zaS (zab (zar (zce r) (zab (wOp oIx (zaf 0) (zaf 3)) (zab (wSl (zaf 1) (woS (wC (.int 1))) woN) (zab (zaf 2) waNil)))) waNil))) (wSl (zaf 0) (woS (wOp zdl (zaf 3) (wC (.int 1)))) woN)))))
noncomputable def zea (r:Nat) (self:WSp):WS:=(zca (zfm (zar (zaK r) (zab (wOp oIx (zaf 4) (wC (.int 1))) (zab (zaf 3) waNil)))) (zbf (zar (zce r) (zab (zaf 1) (zab (zaf 2) (zab (zar (zaW r) (zab (wOp oIx (zaf 4) (wC (.int 2))) (zab (zar (zaV r) (zab (wOp oIx (zaf 4) (wC (.int 1))) (zab (zaf 3) waNil))) waNil))) waNil))))) zaP)
noncomputable def zbX:Nat→WSp
 |0=>zba
 |r+1=>zcB 5 3 (zaw (wAsg (zar (zbp r) (zab (zaf 1) (zab (zaf 2) waNil))) (wGN 3))
  (zaw (zfg (wIv (zaf 0)) (wGN 4) (zea r zba))
  (zbf (zaf 1))))
noncomputable def zbG (r:Nat) (self:WSp):WE:=(zar self (zab (zaf 0) waNil))
noncomputable def zaJ:Nat→WSp
 |0=>zba
 |r+1=>zcB 1 1 (zbf (wOp zdl (wC (.int 1)) (wBL zmM (zdd 1 [] (wIv (wSl (zaf 0) (woS (wC (.int 1))) woN)) (wGN 0) zhx (zbG r (zaJ r))))))
noncomputable def zeC (r:Nat) (self:WSp):WE:=(zaf 0)
noncomputable def zcx:Nat→WSp
 |0=>zba
 |r+1=>zcB 1 1 (zbf (zby (zdd 1 [0] (wIv (zar (zav r) (zab (zaf 0) waNil))) (wGN 0) (zfm (zlb "int" (zar (zbp r) (zab (zaf 1) (zab (zaf 0) waNil))))) (zeC r zba))))
noncomputable def zdF (r:Nat) (self:WSp):WS:=(wAsg (wOp zdl (zaf 6) (zar self (zab (zaf 0) (zab (zaf 7) (zab (wOp zdl (zaf 2) (zaf 8)) waNil))))) (wGN 6))
noncomputable def zdD (r:Nat) (self:WSp):WS:=(zca (wTb (wOp (oEq false) (wOp oIx (zaf 5) (wC (.int 0))) (wOp oIx (zaf 1) (wC (.int 0))))) (zaw (wAsg (zar (zcx r) (zab (wOp oIx (zaf 5) (wC (.int 1))) waNil)) (wGN 3))
  (wAsg (zby (zbR (zab (zaf 2) waNil))) (wGN 4))) zaP)
noncomputable def zfd (r:Nat) (self:WSp):WE:=(zaS (zab (zaf 0) waNil))
noncomputable def zbw:Nat→WSp
 |0=>zba
 |r+1=>zcB 9 3 (zaw (wAsg (zby (zdd 1 [] (zsy (zab (wOp (zep λi j=> .int (i - j)) (wB zdW (zab (zaf 1) waNil)) (wC (.int 1))) waNil)) (wGN 0) zhx (zfd r zba))) (wGN 3))
  (zaw (wAsg (zby (zbR waNil)) (wGN 4))
  (zaw (zfg (wIv (zaf 0)) (wGN 5) (zdD r zba))
  (zaw (wAsg (zby (zbR waNil)) (wGN 6))
  (zaw (zfg (zuL (wSl (zaf 1) (woS (wC (.int 1))) woN) (zaf 3)) (wGT (zay (wGN 7) (zay (wGN 8) zcn))) (zdF r (zbw r)))
  (zbf (wOp zdl (zaf 6) (zaf 4))))))))
noncomputable def zbg:Nat→WSp
 |0=>zba
 |r+1=>zcB 5 3 (zaw (wAsg (zby (zbR waNil)) (wGN 3))
  (zaw (zoQ 4 ["NoUse"] (zdo (zni (zcs r) (zab (zaf 0) (zab (zaf 1) (zab (zaf 2) waNil))))) (λcl a=>(wAsg (zby (zbR (zab (zuO 4 a (zmY cl "NoUse")) (zab (zuO 4 a (zmY cl "NoPlace")) (zab (zuO 4 a (zmY cl "Apart")) (zab (zuO 4 a (zmY cl "TooGreat")) waNil)))))) (wGN 3))))
  (zbf (wOp (oEq false) (zaf 3) (zby (zbR (zab (wC (.bl true)) (zab (wC (.bl false)) (zab (wC (.bl false)) (zab (wC (.bl false)) waNil))))))))))
noncomputable def zdK (r:Nat) (self:WSp):WS:=(zaw (wAsg (zar (zbI r) (zab (zaf 0) (zab (wOp oIx (zaf 3) (zmH (wC (.int 1)))) waNil))) (wGN 6))
  (zca (zuN (wTb (wOp oGt (wB zdW (zab (zaf 6) waNil)) (wC (.int 0)))) (wTb (wOp oLt (wB zdW (zab (zaf 4) waNil)) (wC (.int 8))))) (zaw (wAsg (wOp oIx (wOp oIx (zaf 6) (wOp (zdP (λ_ j=>0<j) λi j=> .int (i % j)) (zaf 5) (wB zdW (zab (zaf 6) waNil)))) (wC (.int 0))) (wGN 7))
  (zaw (wAsg (zar (zbX r) (zab (zaf 0) (zab (wOp oIx (zaf 3) (zmH (wC (.int 1)))) (zab (zaf 7) waNil)))) (wGN 8))
  (zca (wTb (wOp oLe (zar (zaJ r) (zab (zaf 8) waNil)) (wC (.int 100)))) (zaw (zdo (wM rvL zbV (zaf 3) (zab (zaf 8) waNil)))
  (zdo (wM rvL zbV (zaf 4) (zab (zaf 7) waNil)))) zaP))) zaP))
noncomputable def zdc:Nat→WSp
 |0=>zba
 |r+1=>zcB 9 3 (zaw (wAsg (zby (zbR (zab (zaf 1) waNil))) (wGN 3))
  (zaw (wAsg (zby (zbR waNil)) (wGN 4))
  (zaw (zfg (wIv (zaf 2)) (wGN 5) (zdK r zba))
  (zbf (zaS (zab (zaf 3) (zab (zaf 4) waNil)))))))
noncomputable def zco (r:Nat):WS:=(zbf (zar (zbg r) (zab (zaf 3) (zab (zaf 4) (zab (zby (zjj (zjj (zss (zaf 6) woN (woS (zaf 11))) (zbR (zab (zaf 14) waNil))) (zss (zaf 6) (woS (zaf 11)) woN))) waNil)))))
noncomputable def zcq (r:Nat) (T:WS):WS:=(zaw (wAsg (wOp oIx (zaf 13) (wOp (zdP (λ_ j=>0<j) λi j=> .int (i % j)) (wOp (zdP zmp λi j=> .int (i / j)) (zar (zaO r) (zab (zaf 0) (zab (wC (.int 10)) waNil))) (wC (.int 18))) (wB zdW (zab (zaf 13) waNil)))) (wGN 14)) T)
noncomputable def zct (r:Nat) (T:WS):WS:=(zaw (wAsg (zby (zfC (zaf 13) (zbR (zab (zaS (zab (zmH (wC (.int 1))) waNil)) (zab (zaS (zab (wOp (zep λi j=> .int (i - j)) (wB zdW (zab (wOp oIx (zaf 5) (zaf 11)) waNil)) (wC (.int 1))) waNil)) (zab (wOp zqN (zaS (zab (wC (.int 0)) waNil)) (wC (.int 50))) waNil)))))) (wGN 13)) T)
noncomputable def zfY (r:Nat) (self:WSp):WE:=(zaf 0)
noncomputable def zcv (r:Nat) (T:WS):WS:=(zaw (wAsg (zby (zdd 1 [12] (wIv (zar (zav r) (zab (wOp oIx (zaf 5) (zaf 11)) waNil))) (wGN 0) (wTb (wOp (oIn true) (zaf 0) (zaf 1))) (zfY r zba))) (wGN 13)) T)
noncomputable def zfZ (r:Nat) (self:WSp):WE:=(wOp oIx (zaf 0) (wC (.int 0)))
noncomputable def zcp (r:Nat) (T:WS):WS:=(zaw (wAsg (zby (zdd 1 [] (wIv (zar (zbI r) (zab (zaf 3) (zab (wOp oIx (zaf 5) (zaf 11)) waNil)))) (wGN 0) zhx (zfZ r zba))) (wGN 12)) T)
noncomputable def zcy (r:Nat) (T:WS):WS:=(zaw (wAsg (wOp (zdP (λ_ j=>0<j) λi j=> .int (i % j)) (wOp (zdP zmp λi j=> .int (i / j)) (zar (zaO r) (zab (zaf 0) (zab (wC (.int 10)) waNil))) (wC (.int 2))) (wB zdW (zab (zaf 5) waNil))) (wGN 11)) T)
noncomputable def zcr (r:Nat):WS:=(zca (wTb (wOp (oEq true) (zar (zbw r) (zab (zaf 3) (zab (zaf 10) (zab (zaS waNil) waNil)))) (zby (zbR (zab (wOp oIx (zaf 6) (zaf 9)) waNil))))) (zbf (wC (.bl false))) zaP)
noncomputable def zcw (r:Nat) (T:WS):WS:=(zaw (zca (wOr (wTb (wOp (oEq true) (zar (zbN r) (zab (zaf 3) (zab (zaf 10) (zab (wC (.int 1)) waNil)))) (wOp oIx (zaf 5) (zaf 9)))) (wTb (wOp (oEq true) (zar (zbN r) (zab (zaf 3) (zab (zaf 10) (zab (wC (.int 2)) waNil)))) (wOp oIx (zaf 5) (wOp zdl (zaf 9) (wC (.int 1))))))) (zbf (wC (.bl false))) zaP) T)
noncomputable def zdf (r:Nat) (self:WSp):WS:=(zcw r (zcr r))
noncomputable def zcm (r:Nat) (T:WS):WS:=(zaw (zfg (zkA (wOp oIx (zaf 8) (wC (.int 1)))) (wGT (zay (wGN 9) (zay (wGN 10) zcn))) (zdf r zba)) T)
noncomputable def zcP (r:Nat) (T:WS):WS:=(zaw (zca (wOr (zqU (zfm (zlb "list" (wOp oIx (zaf 8) (wC (.int 1)))))) (wTb (wOp (oEq true) (wB zdW (zab (wOp oIx (zaf 8) (wC (.int 1))) waNil)) (wB zdW (zab (zaf 6) waNil))))) (zbf (wC (.bl false))) zaP) T)
noncomputable def zda (r:Nat) (T:WS):WS:=(zaw (zca (wOr (wTb (wOp (oEq true) (zaf 7) (zaf 6))) (wOr (zqU (zfm (zlb "tuple" (zaf 8)))) (wOr (wTb (wOp (oEq true) (wB zdW (zab (zaf 8) waNil)) (wC (.int 2)))) (wTb (wOp (oEq true) (wOp oIx (zaf 8) (wC (.int 0))) (zaf 4)))))) (zbf (wC (.bl false))) zaP) T)
noncomputable def zcT (r:Nat) (T:WS):WS:=(zaw (wAsg (zar (zcs r) (zab (zaf 3) (zab (zaf 4) (zab (zaf 7) waNil)))) (wGN 8)) T)
noncomputable def zcL (r:Nat) (T:WS):WS:=(zaw (wAsg (zby (zkh (zaf 6))) (wGN 7)) T)
noncomputable def zcX (r:Nat) (T:WS):WS:=(zaw (wAsg (zar (zdc r) (zab (zaf 3) (zab (zaf 4) (zab (wSl (zaf 0) (woS (wC (.int 23))) (woS (wC (.int 63)))) waNil)))) (wGT (zay (wGN 5) (zay (wGN 6) zcn)))) T)
noncomputable def zcK (r:Nat) (T:WS):WS:=(zaw (wAsg (zar (zcI r) (zab (zar (zcJ r) (zab (wSl (zaf 0) (woS (wC (.int 11))) (woS (wC (.int 23)))) (zab (zaf 3) (zab (zaf 1) (zab (wC (.int 9)) waNil))))) (zab (zaf 3) (zab (wC (.int 8)) waNil)))) (wGN 4)) T)
noncomputable def zcY (r:Nat) (T:WS):WS:=(zaw (wAsg (zar (zbu r) (zab (zaf 0) (zab (wC (.int 4)) (zab (zaf 1) (zab (zaf 2) (zab (wOp (oEq false) (wOp (zdP (λ_ j=>0<j) λi j=> .int (i % j)) (zar (zaO r) (zab (zaf 0) (zab (wC (.int 10)) waNil))) (wC (.int 2))) (wC (.int 1))) waNil)))))) (wGN 3)) T)
noncomputable def zcV (r:Nat) (T:WS):WS:=(zaw (wAsg (zar (zbP r) (zab (zar (zaO r) (zab (zaf 0) (zab (wC (.int 2)) waNil))) (zab (zar (zaO r) (zab (zaf 0) (zab (wC (.int 3)) waNil))) (zab (wC (.bl true)) waNil)))) (wGN 2)) T)
noncomputable def zcR (r:Nat) (T:WS):WS:=(zaw (wAsg (zar (zbP r) (zab (zar (zaO r) (zab (zaf 0) (zab (wC (.int 0)) waNil))) (zab (zar (zaO r) (zab (zaf 0) (zab (wC (.int 1)) waNil))) (zab (wC (.bl false)) waNil)))) (wGN 1)) T)
noncomputable def zdr:Nat→WSp
 |0=>zba
 |r+1=>zcB 15 1 (zcR r (zcV r (zcY r (zcK r (zcX r (zcL r (zcT r (zda r (zcP r (zcm r (zcy r (zcp r (zcv r (zct r (zcq r (zco r))))))))))))))))
theorem zfE{r:Nat}{t:Tr}{S:Sto}{Q:WK}{E:Str→Sto→Prop}(h:Q (.tup (encs t.kids)) S):zcb (r+1) [enc t] S Q E:=by
 rw[zcb];cases t with
 |bl n=>
  simp only[enc];walk_at "wp";exact⟨aS _,S, .refl,h⟩
 |nd s ts=>
  simp only[enc];walk_at "wp";exact⟨S, .refl,h⟩
mutual
noncomputable def Tr.pl (p:List Int):Tr→List (List Int)
 | .bl _=>[p]
 | .nd _ ts=>p::pls p 0 ts
noncomputable def pls (p:List Int) (i:Nat):List Tr→List (List Int)
 | []=>[]
 |t::ts=>t.pl (p++[(i:Int)])++pls p (i+1) ts
end
mutual
theorem zpK:∀(t:Tr) (p:List Int),(t.pl p).length=t.weight
 | .bl _,p=>by simp [Tr.pl,Tr.weight]
 | .nd _ ts,p=>by simp [Tr.pl,Tr.weight,zol ts p 0];omega
theorem zol:∀(ts:List Tr) (p:List Int) (i:Nat),(pls p i ts).length=wts ts
 | [],p,i=>by simp [pls,wts]
 |t::ts,p,i=>by simp [pls,wts,zpK t,zol ts p (i+1)]
end
theorem zkQ{p:List Int}{i:Int}{S:Sto}{Q:WK}:zdl (zat p) (.tup [.int i]) S Q=(p.length+1≤sizeLine∧Q (zat (p++[i])) S):=by
 unfold zat;rw[zfT];simp
mutual
theorem ziH:∀(t:Tr) {r:Nat}{p:List Int}{a:Addr}{xs:List W}{S:Sto}{Q:WK}{E:Str→Sto→Prop},t.depth≤r→S a=ae (.lst xs)→xs.length+t.weight≤1000000→p.length+t.depth≤1000000→
  Q .non (put S a (.lst (xs++(t.pl p).map zat)))→zaR (r+1) [enc t,zat p, .ref a] S Q E
 | .bl n,r,p,a,xs,S,Q,E,hr,ha,hx,hp,h=>by
  obtain⟨r,rfl⟩:∃r',r=r'+1:=⟨r - 1,by simp [Tr.depth]at hr;omega⟩
  rw[zaR];walk_at "wp";simp only[zaj ha,true_and];simp [Tr.weight]at hx;refine⟨zbH (by omega),?_⟩;refine zfE ?_;simp only[Tr.kids,encs,zfv,forL];simp only[Tr.pl,aD,cw]at h;exact⟨_, .refl,h⟩
 | .nd s ts,r,p,a,xs,S,Q,E,hr,ha,hx,hp,h=>by
  simp only[Tr.depth]at hr hp;simp only[Tr.weight]at hx;obtain⟨r,rfl⟩:∃r',r=r'+1:=⟨r - 1,by omega⟩
  rw[zaR];walk_at "wp";simp only[zaj ha,true_and];refine⟨zbH (by omega),?_⟩;refine zfE ?_;dsimp only[Tr.kids];refine zhl ts (xs:=xs++[zat p]) (by omega) zag (by simp;omega) (by omega) λx y=>?_;rw[zbe];refine⟨_, .refl,?_⟩;simpa [Tr.pl,bI]using h
theorem zhl:∀(ts:List Tr) {r:Nat}{p:List Int}{i:Nat}{a:Addr}{xs:List W}{S:Sto}{E:WX}{D:WEnds}{t0 x y:Option W},dts ts≤r→S a=ae (.lst xs)→xs.length+wts ts≤1000000→p.length+1+dts ts≤1000000→
  (∀x y,D.nx [t0,ae (zat p),ae (.ref a),x,y] (put S a (.lst (xs++(pls p i ts).map zat))))→
  forL (wGT (zay (wGN 3) (zay (wGN 4) zcn))) (zcf (r+1) (zaR (r+1))) E D (λ_=>True) (zfv i (encs ts)) [t0,ae (zat p),ae (.ref a),x,y] S
 | [],r,p,i,a,xs,S,E,D,t0,x,y,hr,ha,hx,hp,h=>by
  simp only[encs,zfv,forL];have:=h x y;simp only[pls,cw,bf,zeb ha]at this;exact this
 |t::ts,r,p,i,a,xs,S,E,D,t0,x,y,hr,ha,hx,hp,h=>by
  simp only[dts]at hr hp;simp only[wts]at hx;simp only[encs,zfv,forL,zcf];walk_at "wp";rw[zkQ];refine⟨zah (by omega),zah (by omega),ziH t (p:=p++[(i:Int)]) (by omega) ha (by omega) (by simp;omega) ?_⟩;refine⟨_, .refl,zhl ts (by omega) zag (by simp [zpK];omega) (by omega) λx y=>?_⟩;rw[zbe];simpa [pls,bI]using h x y
end
theorem zox{t:Tr}{r:Nat}{S:Sto}{Q:WK}{E:Str→Sto→Prop}(hr:t.depth+1≤r) (hw:t.weight≤100000) (hd:t.depth≤100000) (h:∀a,S a=none→Q (.ref a) (put S a (.lst ((t.pl []).map zat)))):zfc (r+1) [enc t] S Q E:=by
 obtain⟨r,rfl⟩:∃r',r=r'+1:=⟨r - 1,by omega⟩
 rw[zfc];walk_at "wp";refine⟨aS _,λa ha=>⟨aS _,ziH t (p:=[]) (xs:=[]) (by omega) zag (by simp;omega) (by simp;omega) ?_⟩⟩;rw[zbe,aR];exact⟨_, .refl,h a ha⟩
noncomputable def Tr.at:Tr→List Int→Option Tr
 |t,[]=>ae t
 | .bl _,_::_=>none
 | .nd _ ts,i::p=>if i<0 then none else match ts[i.toNat]? with
  |some u=>u.at p
  |none=>none
theorem zkr{t u:Tr}{i:Int}{r:Nat}{S:Sto}{Q:WK}{E:Str→Sto→Prop}(hi:0≤i) (hu:t.kids[i.toNat]? =ae u) (h:Q (enc u) S):zbx (r+2) [enc t, .int i] S Q E:=by
 rw[zbx];walk_at "wp";refine zfE ?_;have hl:i.toNat<t.kids.length:=(bL.mp hu).1;walk_at "wp";rw[zaM];rw[if_neg (by omega),if_neg (by omega)];have e:atI (encs t.kids) i=ae (enc u):=by
  have q:=zaU (xs:=encs t.kids) (n:=i.toNat);rw[cB hi]at q;rw[q,zaD,aX,hu];rfl
 rw[e];exact⟨S, .refl,h⟩
theorem zkl{p:List Int}:∀{t u:Tr}{r:Nat}{S:Sto}{E:WX}{D:WEnds}{x y z:Option W},t.at p=ae u→(∀z,D.nx [x,y,ae (enc u),z] S)→
  forL (wGN 3) (zhX (r+2) zba) E D (λ_=>True) (p.map W.int) [x,y,ae (enc t),z] S:=by
 induction p with
 |nil=>
  intro t u r S E D x y z e h;unfold Tr.at at e;cases e;exact h z
 |cons i p ih=>
  intro t u r S E D x y z e h;cases t with
  |bl n=>cases e
  |nd s ts=>
   unfold Tr.at at e;split at e
   ·cases e
   ·rename_i hi;split at e
    ·rename_i v ev;simp only[aD,forL,zhX];walk_at "wp";refine zkr (t:= .nd s ts) (u:=v) (by omega) ev ⟨S, .refl,?_⟩;exact ih e h
    ·cases e
theorem ztM{t u:Tr}{p:List Int}{r:Nat}{S:Sto}{Q:WK}{E:Str→Sto→Prop}(e:t.at p=ae u) (h:Q (enc u) S):zjF (r+3) [enc t,zat p] S Q E:=by
 rw[zjF];walk_at "wp";unfold zat;dsimp only;exact zkl e λz=>⟨S, .refl,h⟩
def Low (c:Nat):Prop:=97≤c∧c≤122
def zcN (x:Str):Prop:=1≤x.cps.toList.length∧x.cps.toList.length≤8∧ ∀c∈x.cps.toList,Low c
def zdy (x:Str):Prop:=∃c r,x.cps.toList=c::r∧65≤c∧c≤90∧r.length≤7∧ ∀d∈r,Low d
theorem ztb:(bu "abcdefghijklmnopqrstuvwxyz").cps.toList=List.range' 97 26:=by decide +kernel
theorem zxo:(bu "abcdefghijklmnopqrstuvwxyz").length=26:=by decide +kernel
theorem zjH:∀cs:List Nat,(cQ (bu "") (cs.map λc=>(⟨#[c]⟩:Str))).cps.toList=cs
 | []=>rfl
 | [c]=>rfl
 |c::d::r=>by
  have ih:=zjH (d::r);show((⟨#[c]⟩:Str)++bu "" ++cQ (bu "") ((d::r).map λc=>(⟨#[c]⟩:Str))).cps.toList=_;show(#[c]++(bu "").cps++(cQ (bu "") ((d::r).map λc=>(⟨#[c]⟩:Str))).cps).toList=_;rw[il,il,ih];rfl
theorem zqq (cs:List Nat):((cs.map λc=>(⟨#[c]⟩:Str)).map (·.length)).sum=cs.length:=by
 induction cs with
 |nil=>rfl
 |cons c r ih=>
  rw[aD,aD,gQ,ih,aV];show 1+r.length=r.length+1;omega
theorem zgg:∀cs:List Nat,zfs (cs.map λc=>W.str ⟨#[c]⟩)=ae (cs.map λc=>(⟨#[c]⟩:Str))
 | []=>rfl
 |c::cs=>by rw[aD,zfs,zgg cs];rfl
theorem znd (cs:List Nat) (h:cs.length≤1000):(dX (λx=>x.length) (cs.map λc=>(⟨#[c]⟩:Str))).sum+(cs.map λc=>(⟨#[c]⟩:Str)).length*(bu "").length≤16777216:=by
 have e:=zqq cs;have z:(bu "").length=0:=by decide +kernel
 rw[e,z];omega
theorem zmb{lo:Int}{n:Nat}:(zmL lo n).length=n:=by simp [zmL]
theorem zwR{α:Type}{xs:List α}(n:Int) (h:xs≠ []):∃(i:Nat) (x:α),xs[i]? =ae x∧atI xs (n % (xs.length:Int))=ae x:=by
 have hp:0<xs.length:=fI.mpr h;have h0:0≤n % (xs.length:Int):=cg _ (by omega);have h1:n % (xs.length:Int)<(xs.length:Int):=cn _ (by omega);have hlt:(n % (xs.length:Int)).toNat<xs.length:=by omega
 refine⟨(n % (xs.length:Int)).toNat,xs[(n % (xs.length:Int)).toNat],aU hlt,?_⟩;have e:=zuw (xs:=xs) (j:=(n % (xs.length:Int)).toNat) (v:=xs[(n % (xs.length:Int)).toNat]) (aU hlt);rw[cB h0]at e;exact e
theorem zdO (ts us:List Tr):encs (ts++us)=encs ts++encs us:=by rw[zaD,zaD,zaD,bN]
theorem zpO (ts:List Tr) (n:Nat):(encs ts).take n=encs (ts.take n):=by rw[zaD,zaD,gC]
theorem zpu (ts:List Tr) (n:Nat):(encs ts).drop n=encs (ts.drop n):=by rw[zaD,zaD,g9]
mutual
noncomputable def Tr.plt (p:List Int):Tr→List (List Int×Tr)
 | .bl n=>[(p, .bl n)]
 | .nd s ts=>(p, .nd s ts)::zeE p 0 ts
noncomputable def zeE (p:List Int) (i:Nat):List Tr→List (List Int×Tr)
 | []=>[]
 |t::ts=>t.plt (p++[(i:Int)])++zeE p (i+1) ts
end
mutual
theorem zdL:∀(t:Tr) (p:List Int),(t.plt p).map (·.1)=t.pl p
 | .bl _,p=>by simp [Tr.plt,Tr.pl]
 | .nd _ ts,p=>by simp [Tr.plt,Tr.pl,zlk ts p 0]
theorem zlk:∀(ts:List Tr) (p:List Int) (i:Nat),(zeE p i ts).map (·.1)=pls p i ts
 | [],p,i=>by simp [zeE,pls]
 |t::ts,p,i=>by simp [zeE,pls,zdL t,zlk ts p (i+1)]
end
mutual
theorem zdU:∀(t:Tr) (p:List Int),(t.plt p).length=t.weight
 | .bl _,p=>by simp [Tr.plt,Tr.weight]
 | .nd _ ts,p=>by simp [Tr.plt,Tr.weight,zlu ts p 0];omega
theorem zlu:∀(ts:List Tr) (p:List Int) (i:Nat),(zeE p i ts).length=wts ts
 | [],p,i=>by simp [zeE,wts]
 |t::ts,p,i=>by simp [zeE,wts,zdU t,zlu ts p (i+1)]
end
theorem zun{s:Str}{ts:List Tr}{i:Nat}{q:List Int}{u:Tr}(h:ts[i]? =ae u):(Tr.nd s ts).at ((i:Int)::q)=u.at q:=by
 rw[Tr.at,if_neg (by omega)];simp [h]
mutual
theorem zit:∀(t:Tr) (p q:List Int) (u:Tr),(q,u)∈t.plt p→ ∃r,q=p++r∧t.at r=ae u∧r.length<t.depth
 | .bl n,p,q,u,h=>by
  simp only[Tr.plt,bn,jc]at h;obtain⟨rfl,rfl⟩:=h;exact⟨[],by simp,by simp [Tr.at],by simp [Tr.depth]⟩
 | .nd s ts,p,q,u,h=>by
  simp only[Tr.plt,av,jc]at h;rcases h with⟨rfl,rfl⟩ |h
  ·exact⟨[],by simp,by simp [Tr.at],by simp [Tr.depth];omega⟩
  ·obtain⟨j,v,r,h1,h2,h3,h4⟩:=zpM ts p 0 q u h;refine⟨(j:Int)::r,by rw[h2];simp,by rw[zun h1];exact h3,by simp [Tr.depth];omega⟩
theorem zpM:∀(ts:List Tr) (p:List Int) (i:Nat) (q:List Int) (u:Tr),(q,u)∈zeE p i ts→ ∃(j:Nat) (v:Tr) (r:List Int),ts[j]? =ae v∧q=p++[((i+j:Nat):Int)]++r∧v.at r=ae u∧r.length<dts ts
 | [],p,i,q,u,h=>by simp [zeE]at h
 |t::ts,p,i,q,u,h=>by
  simp only[zeE,bb]at h;rcases h with h |h
  ·obtain⟨r,h1,h2,h3⟩:=zit t _ q u h;exact⟨0,t,r,rfl,by simpa using h1,h2,by simp [dts];omega⟩
  ·obtain⟨j,v,r,h1,h2,h3,h4⟩:=zpM ts p (i+1) q u h;refine⟨j+1,v,r,by simpa using h1,?_,h3,by simp [dts];omega⟩
   rw[h2,show i+1+j=i+(j+1) by omega]
end
theorem keep{S:Sto}{a p:Addr}{o x:Ob}(f:S a=ae o) (h:S p=none):put S p x a=ae o:=by rw[zaN (ztR f h)];exact f
noncomputable def sw:List (List Int×Tr)→Nat
 | []=>0
 |x::xs=>x.2.weight+sw xs
theorem zbd{u:Tr}:∀{ts:List Tr},u∈ts→u.depth≤dts ts
 |t::ts,h=>by
  rcases av.mp h with rfl |h
  ·simp [dts];omega
  ·have:=zbd h;simp [dts];omega
theorem zbb{α:Type}{g:WG}{e:WE}{E:WX}{G:Sto→Prop}{Q:List W→Sto→Prop}{S:Sto}(I:WSt→Prop) (k f:α→W) (hG:G S):∀(xs:List α) (acc:List W) (σ:WSt),I σ→acc.length+xs.length≤1000000→
  (∀x∈xs,∀σ (R:WSt→W→Sto→Prop),I σ→(∀σ1 S3,I σ1→Sub S S3→R σ1 (f x) S3)→g (k x) σ S λσ1 S1=>e E σ1 S1 λy S3=>R σ1 y S3)→
  Q (acc++xs.map f) S→zes g zhx e E G Q (xs.map k) acc σ S
 | [],acc,σ,hI,hl,step,hQ=>by simpa [zes]using hQ
 |x::xs,acc,σ,hI,hl,step,hQ=>by
  simp only[aD,zes,zhx,if_true];simp only[aV]at hl;refine step x aN σ _ hI λσ1 S3 hI1 sb=>⟨zbH (by omega),S,sb,hG,zbb I k f hG xs (acc++[f x]) σ1 hI1 (by simp;omega) (λy hy=>step y (aH _ hy)) ?_⟩;simpa using hQ
theorem zdT{α:Type}{g:WG}{c:WT}{e:WE}{E:WX}{G:Sto→Prop}{Q:List W→Sto→Prop}{S:Sto}(I:WSt→Prop) (k f:α→W) (P:α→Bool) (hG:G S):∀(xs:List α) (acc:List W) (σ:WSt),I σ→acc.length+xs.length≤1000000→
  (∀x∈xs,∀σ (R1:WSt→W→Sto→Prop) (R0:WSt→Sto→Prop),I σ→(P x=true→ ∀σ1 S3,I σ1→Sub S S3→R1 σ1 (f x) S3)→(P x=false→ ∀σ1 S3,I σ1→Sub S S3→R0 σ1 S3)→
   g (k x) σ S λσ1 S1=>c E σ1 S1 λb S2=>if b=true then e E σ1 S2 λy S3=>R1 σ1 y S3 else R0 σ1 S2)→
  Q (acc++(xs.filter P).map f) S→zes g c e E G Q (xs.map k) acc σ S
 | [],acc,σ,hI,hl,step,hQ=>by simpa [zes]using hQ
 |x::xs,acc,σ,hI,hl,step,hQ=>by
  simp only[aD,zes];simp only[aV]at hl;refine step x aN σ _ _ hI (λhp σ1 S3 hI1 sb=>⟨zbH (by omega),S,sb,hG,zdT I k f P hG xs (acc++[f x]) σ1 hI1 (by simp;omega) (λy hy=>step y (aH _ hy)) ?_⟩)
   λhp σ1 S3 hI1 sb=>⟨S,sb,hG,zdT I k f P hG xs acc σ1 hI1 (by omega) (λy hy=>step y (aH _ hy)) ?_⟩
  ·rw[List.filter_cons_of_pos hp]at hQ;simpa using hQ
  ·rw[List.filter_cons_of_neg (by rw[hp];simp)]at hQ;exact hQ
noncomputable def Tr.isBl:Tr→Bool
 | .bl _=>true
 | .nd _ _=>false
noncomputable def Tr.num:Tr→Int
 | .bl n=>n
 | .nd _ _=>0
noncomputable def Tr.bls (t:Tr):List (List Int×Tr):=(t.plt []).filter λx=>x.2.isBl
theorem zkv{t:Tr}{x:List Int×Tr}(h:x∈t.bls):t.at x.1=ae x.2∧x.2= .bl x.2.num∧x.1.length<t.depth:=by
 obtain⟨h1,h2⟩:=gi.mp h;obtain⟨r,h3,h4,h5⟩:=zit t [] x.1 x.2 h1;simp at h3;subst h3;refine⟨h4,?_,h5⟩;obtain⟨p,u⟩:=x;cases u with
 |bl n=>rfl
 |nd s ts=>simp [Tr.isBl]at h2
theorem zti (t:Tr):t.bls.length≤t.weight:=by
 unfold Tr.bls;exact bM (jg ..) (by rw[zdU];exact aB _)
theorem zmP{t:Tr}{r:Nat}{S:Sto}{Q:WK}{E:Str→Sto→Prop}(hr:t.depth+4≤r) (hw:t.weight≤90000) (h:∀a,S a=none→Q (.ref a) (put S a (.lst (t.bls.map λx=>zat x.1)))):zbE (r+1) [enc t] S Q E:=by
 have hd:=zee t;obtain⟨r,rfl⟩:∃r',r=r'+3:=⟨r - 3,by omega⟩
 rw[zbE];walk_at "wp";refine zox (by omega) (by omega) (by omega) λa ha=>?_;walk_at "wp";rw[←zdL,bG];refine zdT (λσ=>∃x,σ=[x,ae (enc t)]) (λx=>zat x.1) (λx=>zat x.1) (λx=>x.2.isBl) ?_ (t.plt []) [] _ ⟨none,rfl⟩ (by simp [zdU];omega) (λx hx σ R1 R0 hI h1 h0=>?_) ?_
 ·exact zag
 ·obtain⟨y,rfl⟩:=hI;obtain⟨q,h3,h4,h5⟩:=zit t [] x.1 x.2 hx;simp at h3;subst h3;walk_at "wp";refine ztM h4 ?_;obtain⟨p,u⟩:=x;cases u with
  |bl n=>
   simp only[enc];walk_at "wp";exact h1 rfl _ _ ⟨_,rfl⟩ .refl
  |nd s ts=>
   simp only[enc];walk_at "wp";exact h0 rfl _ _ ⟨_,rfl⟩ .refl
 ·rw[aR];intro b hb;obtain⟨hb1,hb2⟩:=zde hb;exact⟨_, .put2 (.put .refl ha),h b hb1⟩
mutual
noncomputable def Tr.fill (us:List Tr):Tr→Tr
 | .bl n=>us.getD n.toNat (.bl n)
 | .nd s ts=> .nd s (fills us ts)
noncomputable def fills (us:List Tr):List Tr→List Tr
 | []=>[]
 |t::ts=>t.fill us::fills us ts
end
mutual
noncomputable def Tr.fits (m:Nat):Tr→Prop
 | .bl n=>0≤n∧n<m
 | .nd _ ts=>fitss m ts
noncomputable def fitss (m:Nat):List Tr→Prop
 | []=>True
 |t::ts=>t.fits m∧fitss m ts
end
theorem zgp (us:List Tr):∀ts:List Tr,fills us ts=ts.map (Tr.fill us)
 | []=>by simp [fills]
 |t::ts=>by simp [fills,zgp us ts]
theorem zeO{m:Nat}{t:Tr}:∀{ts:List Tr},fitss m ts→t∈ts→t.fits m
 |u::ts,h,hm=>by
  simp only[fitss]at h;rcases av.mp hm with rfl |hm
  ·exact h.1
  ·exact zeO h.2 hm
theorem zjc{us:List Tr}{a:Addr}:∀(d:Nat) {t:Tr}{r:Nat}{S:Sto}{Q:WK}{E:Str→Sto→Prop},t.depth≤d→d≤r+1→S a=ae (.lst (encs us))→t.fits us.length→t.weight≤90000→Q (enc (t.fill us)) S→zdC (r+1) [enc t, .ref a] S Q E
 |0,t,r,S,Q,E,hd,hr,ha,hf,hw,h=>by have:=zaH t;omega
 |d+1, .bl n,r,S,Q,E,hd,hr,ha,hf,hw,h=>by
  simp only[Tr.fits]at hf;simp only[Tr.fill]at h;rw[zdC];simp only[enc];walk_at "wp";have e:atI (encs us) n=ae (enc (us.getD n.toNat (.bl n))):=by
   have q:=zaU (xs:=encs us) (n:=n.toNat);rw[cB hf.1]at q;rw[q,zaD,aX,bE,aU (by omega)];rfl
  rw[zaj ha,e];exact⟨S, .refl,h⟩
 |d+1, .nd s ts,r,S,Q,E,hd,hr,ha,hf,hw,h=>by
  simp only[Tr.fits]at hf;simp only[Tr.fill]at h;simp only[Tr.depth]at hd;simp only[Tr.weight]at hw;have hk:=zbJ ts;rw[zdC];simp only[enc]at h⊢;walk_at "wp";refine⟨zah (by decide),?_⟩;rw[zaD];refine zbb (λσ=>∃x,σ=[x,ae (.ref a)]) enc (λt=>enc (t.fill us)) trivial ts [] _ ⟨none,rfl⟩ (by simp;omega) (λx hx σ R hI hR=>?_) ?_
  ·obtain⟨y,rfl⟩:=hI;have hdx:=zbd hx;have hwx:=zbA hx;have:=zaH x;obtain⟨r,rfl⟩:∃r',r=r'+1:=⟨r - 1,by omega⟩
   simp only[zgX];walk_at "wp";exact zjc d (t:=x) (r:=r) (by omega) (by omega) ha (zeO hf hx) (by omega) (hR _ _ ⟨_,rfl⟩ .refl)
  ·rw[aR];refine⟨zah (by simp;omega),S, .refl,?_⟩;have e:encs (fills us ts)=ts.map λt=>enc (t.fill us):=by rw[zaD,zgp,bG];rfl
   rw[e]at h;exact h
noncomputable def Tr.put:Tr→List Int→Tr→Tr
 |_,[],u=>u
 | .bl n,_::_,_=> .bl n
 | .nd s ts,i::p,u=>match ts[i.toNat]? with
  |some v=> .nd s (ts.set i.toNat (v.put p u))
  |none=> .nd s ts
theorem zeW (t:Tr):t.at []=ae t:=by cases t<;>rfl
theorem zdn (t u:Tr):t.put [] u=u:=by cases t<;>rfl
theorem zeQ{s:Str}{ts:List Tr}{i:Int}{p:List Int}{u:Tr}(h:(Tr.nd s ts).at (i::p)=ae u):∃v,0≤i∧ts[i.toNat]? =ae v∧v.at p=ae u:=by
 unfold Tr.at at h;split at h
 ·cases h
 ·split at h
  ·exact⟨_,by omega, ‹_›,h⟩
  ·cases h
theorem zev{s:Str}{ts:List Tr}{i:Int}{p:List Int}{u v:Tr}(h:ts[i.toNat]? =ae v):(Tr.nd s ts).put (i::p) u= .nd s (ts.set i.toNat (v.put p u)):=by
 rw[Tr.put,h]
theorem zlS{S:Sto}{p:List Int}:eqF S 60 (zat p) (.tup [])=ae p.isEmpty:=by
 cases p<;>rfl
theorem zoh{u:Tr}:∀(p:List Int) {t v:Tr}{r:Nat}{S:Sto}{Q:WK}{E:Str→Sto→Prop},t.at p=ae v→p.length≤r→t.weight≤90000→p.length≤90000→Q (enc (t.put p u)) S→zce (r+1) [enc t,zat p,enc u] S Q E
 | [],t,v,r,S,Q,E,h,hr,hw,hp,q=>by
  rw[zdn]at q;rw[zce];walk_at "wp";rw[zlS];exact⟨aS _,S, .refl,q⟩
 |i::p, .bl n,v,r,S,Q,E,h,hr,hw,hp,q=>by cases h
 |i::p, .nd s ts,v,r,S,Q,E,h,hr,hw,hp,q=>by
  obtain⟨w,h0,h1,h2⟩:=zeQ h;obtain⟨j,rfl⟩:∃j:Nat,i=j:=⟨i.toNat,(cB h0).symm⟩;rw[bK]at h1;rw[zev (by rw[bK];exact h1),bK]at q;simp only[aV]at hr hp;simp only[Tr.weight]at hw;have hk:=zbJ ts;have hl:=(bL.mp h1).1;have hm:=zbA (a_ h1);obtain⟨r,rfl⟩:∃r',r=r'+1:=⟨r - 1,by omega⟩
  rw[zce];walk_at "wp";rw[zlS];simp only[List.isEmpty_cons,d9,if_false];have ep:zat ((j:Int)::p)= .tup (.int j::p.map W.int):=rfl;simp only[ep,enc];walk_at "wp";rw[show((j:Int)+1)=((j+1:Nat):Int) by omega,zaU,bU,zaD,aX,h1]
  dsimp only[Option.map];rw[show((j+1:Nat):Int)+1=((j+2:Nat):Int) by omega,zfP,zfF]
  refine⟨aS _,zoh p (r:=r) h2 (by omega) (by omega) (by omega) ?_⟩;simp only[List.take_succ_cons,List.drop_succ_cons,←zaD,zpO,zpu];walk_at "wp";simp only[zaM,b9,ck];refine⟨zah (by decide),zah (by omega),zah (by simp only[ba,zaM,b9,aV,ef,ck];omega),S, .refl,?_⟩;have e:enc (.nd s (ts.set j (w.put p u)))= .tup (.str s::(encs (ts.take j)++[enc (w.put p u)]++encs (ts.drop (j+1)))):=by
   simp only[enc];rw[List.set_eq_take_append_cons_drop,if_pos hl,zdO];simp [encs]
  rw[e]at q;simpa using q
mutual
noncomputable def Tr.same:Tr→Tr→Bool
 | .bl n, .bl m=>n == m
 | .nd s ts, .nd z us=>s == z&&zfB ts us
 |_,_=>false
noncomputable def zfB:List Tr→List Tr→Bool
 | [],[]=>true
 |t::ts,u::us=>t.same u&&zfB ts us
 |_,_=>false
end
mutual
theorem zlT:∀(t u:Tr),t.same u=true↔t=u
 | .bl n, .bl m=>by simp [Tr.same]
 | .nd s ts, .nd z us=>by simp [Tr.same,ziq ts us]
 | .bl n, .nd z us=>by simp [Tr.same]
 | .nd s ts, .bl m=>by simp [Tr.same]
theorem ziq:∀(ts us:List Tr),zfB ts us=true↔ts=us
 | [],[]=>by simp [zfB]
 |t::ts,u::us=>by simp [zfB,zlT t u,ziq ts us]
 | [],u::us=>by simp [zfB]
 |t::ts,[]=>by simp [zfB]
end
theorem zgG (t:Tr):t.same t=true:=(zlT t t).mpr rfl
theorem zsE{S:Sto}{n:Nat}{xs ys:List W}:eqF S (n+1) (.tup xs) (.tup ys)=zet (eqF S n) xs ys:=eI (b:=zet (eqF S n) xs ys) rfl rfl
theorem zxB{S:Sto}{n:Nat}{x y:Str}:eqF S (n+1) (.str x) (.str y)=ae (x == y):=eI (b:=ae (x == y)) rfl rfl
theorem zsm{S:Sto}{n:Nat}{x y:Int}:eqF S (n+1) (.int x) (.int y)=ae (x == y):=eI (b:=ae (x == y)) rfl rfl
theorem zvm{S:Sto}{n:Nat}{x:Int}{ys:List W}:eqF S (n+1) (.int x) (.tup ys)=ae false:=eI (b:=ae false) rfl rfl
theorem zvs{S:Sto}{n:Nat}{x:Int}{ys:List W}:eqF S (n+1) (.tup ys) (.int x)=ae false:=eI (b:=ae false) rfl rfl
mutual
theorem zqV{S:Sto}:∀(n:Nat) (t u:Tr),t.depth<n→eqF S n (enc t) (enc u)=ae (t.same u)
 |0,t,u,h=>by omega
 |n+1, .bl k, .bl m,h=>by simp only[enc,zsm,Tr.same]
 |n+1, .nd s ts, .nd z us,h=>by
  simp only[Tr.depth]at h;obtain⟨n,rfl⟩:∃m,n=m+1:=⟨n - 1,by omega⟩
  simp only[enc,zsE,zet,zxB,Tr.same];rw[zsu (n+1) ts us (by omega)]
 |n+1, .bl k, .nd z us,h=>by simp only[enc,zvm,Tr.same]
 |n+1, .nd s ts, .bl m,h=>by simp only[enc,zvs,Tr.same]
theorem zsu{S:Sto}:∀(n:Nat) (ts us:List Tr),dts ts<n→zet (eqF S n) (encs ts) (encs us)=ae (zfB ts us)
 |n,[],[],h=>by simp only[encs,zet,zfB]
 |n,[],u::us,h=>by simp only[encs,zet,zfB]
 |n,t::ts,[],h=>by simp only[encs,zet,zfB]
 |n,t::ts,u::us,h=>by
  simp only[dts]at h;simp only[encs,zet,zfB,zqV n t u (by omega),zsu n ts us (by omega)]
end
theorem ziG (j:Int) (m:Nat):zmL j (m+1)= .int j::zmL (j+1) m:=by
 unfold zmL;rw[ii,aD,bG];congr 1
 ·simp
 ·apply c_;intro i _;simp only[jI,W.int.injEq];omega
theorem zeM{α:Type}{xs:List α}{i:Int}(h0:0≤i) (h1:i<xs.length):∃x,atI xs i=ae x∧x∈xs:=by
 have q:=zaU (xs:=xs) (n:=i.toNat);rw[cB h0,aU (by omega)]at q;exact⟨_,q,eV ..⟩
theorem ztW{ss:List Str}{i:Int}(h0:0≤i) (h1:i<ss.length):∃x,atI (ss.map W.str) i=ae (.str x)∧x∈ss:=by
 obtain⟨w,h,m⟩:=zeM (xs:=ss.map W.str) h0 (by simpa using h1);obtain⟨x,hx,rfl⟩:=aZ.mp m;exact⟨x,h,hx⟩
theorem zpT{g:WG}{b:WS}{E:WX}{D:WEnds}(I:Nat→WSt→Sto→Prop) (n:Nat)
  (step:∀i,i<n→ ∀σ S (N:WSt→Sto→Prop),I i σ S→(∀σ' S' S'',Sub S'' S'→I (i+1) σ' S''→N σ' S')→g (.int i) σ S λσ1 S1=>b E { D with nx:=N,ct:=N,bk:=D.nx } σ1 S1)
  (done:∀σ S,I n σ S→D.nx σ S) {σ:WSt}{S:Sto}(h:I 0 σ S):forL g b E D (λ_=>True) (zmL 0 n) σ S:=by
 refine zkc (λws σ S=>∃i,i≤n∧ws=zmL (i:Int) (n - i)∧I i σ S) ?_ ?_ _ _ _ ⟨0,aS _,rfl,h⟩
 ·rintro w ws σ S N ⟨i,hi,e,hI⟩ hN;obtain⟨m,hm⟩:∃m,n - i=m+1:=by
   rcases gg (n - i) with z |z
   ·rw[z]at e;cases e
   ·exact⟨n - i - 1,by omega⟩
  rw[hm,ziG]at e;cases e;exact step i (by omega) σ S N hI λσ' S' S'' sb h'=>hN σ' S' S'' sb trivial ⟨i+1,by omega,by rw[show n - (i+1)=m by omega];push_cast;rfl,h'⟩
 ·rintro σ S ⟨i,hi,e,hI⟩;have:n - i=0:=by
   rcases gg (n - i) with z |z
   ·exact z
   ·obtain⟨m,hm⟩:∃m,n - i=m+1:=⟨n - i - 1,by omega⟩
    rw[hm,ziG]at e;cases e
  rw[show i=n by omega]at hI
  exact done σ S hI
theorem zpf:∀{ts:List Tr}{i:Nat}{v u:Tr},ts[i]? =ae v→wts (ts.set i u)+v.weight=wts ts+u.weight
 | [],i,v,u,h=>by simp at h
 |t::ts,0,v,u,h=>by
  simp at h;subst h;rw[fK,zcj,zcj];omega
 |t::ts,i+1,v,u,h=>by
  have:=zpf (ts:=ts) (i:=i) (v:=v) (u:=u) (by simpa using h);rw[gl,zcj,zcj];omega
theorem zgY:∀(p:List Int) {D u v:Tr},D.at p=ae v→(D.put p u).weight+v.weight=D.weight+u.weight
 | [],D,u,v,h=>by rw[zeW]at h;cases h;rw[zdn];omega
 |i::p, .bl n,u,v,h=>by cases h
 |i::p, .nd s ts,u,v,h=>by
  obtain⟨w,h0,e1,e2⟩:=zeQ h;rw[zev e1];have h1:=zgY p (u:=u) e2;have h2:=zpf (u:=w.put p u) e1;simp only[Tr.weight];omega
mutual
theorem zgA{us:List Tr}{k:Nat}(hk:1≤k) (hu:∀u∈us,u.weight≤k):∀t:Tr,(t.fill us).weight≤t.weight*k
 | .bl n=>by
  simp only[Tr.fill,Tr.weight,Nat.one_mul];rw[bE];cases e:us[n.toNat]? with
  |none=>simpa [Tr.weight]using hk
  |some u=>exact hu u (a_ e)
 | .nd s ts=>by
  have:=zfu hk hu ts;simp only[Tr.fill,Tr.weight];rw[Nat.add_mul];omega
theorem zfu{us:List Tr}{k:Nat}(hk:1≤k) (hu:∀u∈us,u.weight≤k):∀ts:List Tr,wts (fills us ts)≤wts ts*k
 | []=>by simp [fills,wts]
 |t::ts=>by
  have:=zgA hk hu t;have:=zfu hk hu ts;simp only[fills,wts];rw[Nat.add_mul];omega
end
theorem zsG{k:Nat}:∀{ts:List Tr},(∀t∈ts,t.depth≤k)→dts ts≤k
 | [],_=>by simp [dts]
 |t::ts,h=>by
  have:=h t aN;have:=zsG (ts:=ts) λu hu=>h u (aH _ hu);simp only[dts];omega
theorem zbc{g:WG}{b:WS}{E:WX}{D:WEnds}{G:Sto→Prop}{w:W}{ws:List W}{σ:WSt}{S:Sto}(h:∀N:WSt→Sto→Prop,(∀σ S S',Sub S' S→G S'→forL g b E D G ws σ S'→N σ S)→g w σ S λσ1 S1=>b E { D with nx:=N,ct:=N,bk:=D.nx } σ1 S1):forL g b E D G (w::ws) σ S:=h _ λσ S S' a c d=>⟨S',a,c,d⟩
mutual
noncomputable def Tr.mt:Tr→Tr→Option (List Tr)
 | .bl _,t=>ae [t]
 | .nd s ls, .nd z us=>if s == z&&ls.length == us.length then mts ls us else none
 | .nd _ _, .bl _=>none
noncomputable def mts:List Tr→List Tr→Option (List Tr)
 | [],_=>ae []
 |_::_,[]=>ae []
 |l::ls,u::us=>match l.mt u with
  |none=>none
  |some xs=>match mts ls us with
   |none=>none
   |some ys=>ae (xs++ys)
end
theorem zuV{s z:Str}{ls us:List Tr}{r:Nat}{S:Sto}{Q:WK}{E:Str→Sto→Prop}(h:Q (.bl (s == z&&ls.length == us.length)) S):zbF (r+1) [enc (.nd s ls),enc (.nd z us)] S Q E:=by
 rw[zbF];simp only[enc];walk_at "wp";cases e:s == z with
 |false=>
  rw[e]at h;exact⟨_, .refl,h⟩
 |true=>
  rw[e]at h;walk_at "wp";refine⟨_, .refl,?_⟩;have:(((encs ls).length+1:Nat):Int)=((encs us).length+1:Nat)↔ls.length=us.length:=by rw[zaM,zaM];omega
  have e2:((((encs ls).length+1:Nat):Int) == ((encs us).length+1:Nat))=(ls.length == us.length):=by
   rw[eF,beq_iff_eq,beq_iff_eq];exact this
  rw[e2];simpa using h
mutual
theorem zop:∀(l t:Tr) (ys:List Tr),l.mt t=ae ys→ys.length≤l.weight
 | .bl _,t,ys,h=>by simp only[Tr.mt,bq]at h;subst h;simp [Tr.weight]
 | .nd s ls, .nd z us,ys,h=>by
  simp only[Tr.mt]at h;split at h
  ·have:=zoH ls us ys h;simp only[Tr.weight];omega
  ·cases h
 | .nd _ _, .bl _,ys,h=>by simp [Tr.mt]at h
theorem zoH:∀(ls us ys:List Tr),mts ls us=ae ys→ys.length≤wts ls
 | [],us,ys,h=>by simp only[mts,bq]at h;subst h;simp
 |l::ls,[],ys,h=>by simp only[mts,bq]at h;subst h;simp
 |l::ls,u::us,ys,h=>by
  simp only[mts]at h;split at h
  ·cases h
  ·rename_i xs e1;split at h
   ·cases h
   ·rename_i zs e2;cases h;have:=zop l u xs e1;have:=zoH ls us zs e2;simp only[ba,wts];omega
end
theorem zgm{r:Nat}{a:Addr}{E:WX}{D:WEnds}{x0 x1:Option W}:∀(ls us:List Tr)
  (one:∀l∈ls,∀{t:Tr}{S:Sto}{xs:List W}{Q:WK}{E:Str→Sto→Prop},t.fits 0→S a=ae (.lst xs)→xs.length+l.weight≤100000→(∀ys,l.mt t=ae ys→Q (.bl true) (put S a (.lst (xs++encs ys))))→(l.mt t=none→ ∀ys,Q (.bl false) (put S a (.lst (xs++ys))))→zaG r [enc l,enc t, .ref a] S Q E)
  {S:Sto}{xs:List W}{x3 x4:Option W},fitss 0 us→S a=ae (.lst xs)→xs.length+wts ls≤100000→
  (∀ys x3 x4,mts ls us=ae ys→D.nx [x0,x1,ae (.ref a),x3,x4] (put S a (.lst (xs++encs ys))))→(mts ls us=none→ ∀ys,D.rt (.bl false) (put S a (.lst (xs++ys))))→
  forL (wGT (zay (wGN 3) (zay (wGN 4) zcn))) (zbU r (zaG r)) E D (λ_=>True) (pairs (encs ls) (encs us)) [x0,x1,ae (.ref a),x3,x4] S
 | [],us,one,S,xs,x3,x4,hf,ha,hl,h1,h0=>by
  have q:=h1 [] x3 x4 (by simp [mts]);simp only[encs,bf,zeb ha]at q;simpa [encs,pairs,forL]using q
 |l::ls,[],one,S,xs,x3,x4,hf,ha,hl,h1,h0=>by
  have q:=h1 [] x3 x4 (by simp [mts]);simp only[encs,bf,zeb ha]at q;simpa [encs,pairs,forL]using q
 |l::ls,u::us,one,S,xs,x3,x4,hf,ha,hl,h1,h0=>by
  simp only[fitss]at hf;simp only[wts]at hl;simp only[encs,pairs];refine zbc λN hN=>?_;simp only[zbU];walk_at "wp";refine one l aN hf.1 ha (by omega) (λys e=>?_) λe ys=>?_
  ·walk_at "wp";have hyl:=zop l u ys e;refine hN _ _ _ .refl trivial (zgm ls us (λl' hl'=>one l' (aH _ hl')) hf.2 zag (by rw[ba,zaM];omega) (λzs x3 x4 e2=>?_) λe2 zs=>?_)
   ·rw[zbe,bI,←zdO];exact h1 _ _ _ (by simp only[mts,e,e2])
   ·rw[zbe,bI];exact h0 (by simp only[mts,e,e2]) _
  ·walk_at "wp";exact h0 (by simp only[mts,e]) ys
theorem zkR{a:Addr}:∀(d:Nat) {l t:Tr}{r:Nat}{S:Sto}{xs:List W}{Q:WK}{E:Str→Sto→Prop},l.depth≤d→d≤r→t.fits 0→S a=ae (.lst xs)→xs.length+l.weight≤100000→
  (∀ys,l.mt t=ae ys→Q (.bl true) (put S a (.lst (xs++encs ys))))→(l.mt t=none→ ∀ys,Q (.bl false) (put S a (.lst (xs++ys))))→zaG (r+1) [enc l,enc t, .ref a] S Q E
 |0,l,t,r,S,xs,Q,E,hd,hr,hf,ha,hl,h1,h0=>by have:=zaH l;omega
 |d+1, .bl n,t,r,S,xs,Q,E,hd,hr,hf,ha,hl,h1,h0=>by
  have hw:=zdq (.bl n);rw[zaG];simp only[enc];walk_at "wp";simp only[zaj ha,true_and];refine⟨zbH (by omega),_, .refl,?_⟩;have:=h1 [t] (by simp [Tr.mt]);simpa only[encs]using this
 |d+1, .nd s ls, .bl n,r,S,xs,Q,E,hd,hr,hf,ha,hl,h1,h0=>by
  simp only[Tr.fits]at hf;omega
 |d+1, .nd s ls, .nd z us,r,S,xs,Q,E,hd,hr,hf,ha,hl,h1,h0=>by
  simp only[Tr.fits]at hf;simp only[Tr.depth]at hd;simp only[Tr.weight]at hl;obtain⟨r,rfl⟩:∃r',r=r'+1:=⟨r - 1,by omega⟩
  have en:∀s ts,enc (.nd s ts)= .tup (.str s::encs ts):=λs ts=>by simp [enc]
  rw[zaG];walk_at "wp";rw[en,en];walk_at "wp";rw[←en,←en];refine zuV ?_;rw[en,en];walk_at "wp";simp only[Tr.mt]at h1 h0;cases e:(s == z&&ls.length == us.length) with
  |false=>
   rw[e]at h0;have:=h0 (by simp) [];rw[bf,zeb ha]at this;exact⟨_, .refl,this⟩
  |true=>
   rw[e]at h0 h1;simp only[if_true]at h0 h1;walk_at "wp";refine zgm ls us (λl hl' {t S xs Q E} f1 f2 f3 f4 f5=>zkR d (by have:=zbd hl';omega) (by omega) f1 f2 f3 f4 f5) hf ha (by omega) (λys x3 x4 e=>?_) λe ys=>?_
   ·walk_at "wp";exact⟨_, .refl,h1 ys e⟩
   ·exact⟨_, .refl,h0 e ys⟩
theorem zhb{l t:Tr}{r:Nat}{S:Sto}{Q:WK}{E:Str→Sto→Prop}(hr:l.depth<r) (hf:t.fits 0) (hw:l.weight≤90000) (h1:∀ys,l.mt t=ae ys→ ∀a,S a=none→Q (.ref a) (put S a (.lst (encs ys)))) (h0:l.mt t=none→Q .non S):zdp (r+1) [enc l,enc t] S Q E:=by
 obtain⟨r,rfl⟩:∃r',r=r'+1:=⟨r - 1,by omega⟩
 rw[zdp];walk_at "wp";refine⟨aS _,λa ha=>zkR l.depth (aB _) (by omega) hf zag (by simpa using(by omega:l.weight≤100000)) (λys e=>?_) λe ys=>?_⟩
 ·walk_at "wp";exact⟨_, .refl,h1 ys e a ha⟩
 ·walk_at "wp";exact⟨_, .put .refl ha,h0 e⟩
mutual
theorem zjm:∀(l t:Tr) (ys:List Tr),l.mt t=ae ys→wts ys≤t.weight
 | .bl _,t,ys,h=>by simp only[Tr.mt,bq]at h;subst h;simp [wts]
 | .nd s ls, .nd z us,ys,h=>by
  simp only[Tr.mt]at h;split at h
  ·have:=zhr ls us ys h;simp only[Tr.weight];omega
  ·cases h
 | .nd _ _, .bl _,ys,h=>by simp [Tr.mt]at h
theorem zhr:∀(ls us ys:List Tr),mts ls us=ae ys→wts ys≤wts us
 | [],us,ys,h=>by simp only[mts,bq]at h;subst h;simp [wts]
 |l::ls,[],ys,h=>by simp only[mts,bq]at h;subst h;simp [wts]
 |l::ls,u::us,ys,h=>by
  simp only[mts]at h;split at h
  ·cases h
  ·rename_i xs e1;split at h
   ·cases h
   ·rename_i zs e2;cases h;have:=zjm l u xs e1;have:=zhr ls us zs e2;simp only[zeh,wts];omega
end
noncomputable def zsc (c:Nat):Bool:=decide (97≤c)&&decide (c≤122)
noncomputable def small (xs:List Nat):Bool:=xs.all zsc
theorem zkU (x:Str):(cL x (ae 1) none).cps.toList=x.cps.toList.drop 1:=by
 rw[znR];unfold zxV;rw[HT.sIx_none];have ez:HT.sIx x.cps.toList.length 0 (ae 1)=min 1 x.cps.toList.length:=HT.sIx_nat x.cps.toList.length 0 1;rw[ez];by_cases h:1≤x.cps.toList.length
 ·rw[iO h,dD (by rw[ck];exact aB _)]
 ·have:x.cps.toList=[]:=iq (by omega);rw[this];rfl
theorem zkL (x:Str):x.length=x.cps.toList.length:=by simp [gM]
mutual
theorem zrX:∀(t:Tr) (p q:List Int) (u:Tr),t.at q=ae u→(p++q,u)∈t.plt p
 | .bl n,p,[],u,h=>by rw[zeW]at h;cases h;simp [Tr.plt]
 | .bl n,p,i::q,u,h=>by cases h
 | .nd s ts,p,[],u,h=>by rw[zeW]at h;cases h;simp [Tr.plt]
 | .nd s ts,p,i::q,u,h=>by
  obtain⟨v,h0,e1,e2⟩:=zeQ h;simp only[Tr.plt,av];refine .inr ?_;have:=zpw ts p 0 i.toNat q u v e1 e2;rw[cP,cB h0]at this;simpa using this
theorem zpw:∀(ts:List Tr) (p:List Int) (i j:Nat) (q:List Int) (u v:Tr),ts[j]? =ae v→v.at q=ae u→(p++((i+j:Nat):Int)::q,u)∈zeE p i ts
 | [],p,i,j,q,u,v,h1,h2=>by simp at h1
 |t::ts,p,i,0,q,u,v,h1,h2=>by
  simp at h1;subst h1;simp only[zeE,bb];refine .inl ?_;have:=zrX t (p++[(i:Int)]) q u h2;simpa using this
 |t::ts,p,i,j+1,q,u,v,h1,h2=>by
  simp only[zeE,bb];refine .inr ?_;have:=zpw ts p (i+1) j q u v (by simpa using h1) h2;rw[show i+1+j=i+(j+1) by omega]at this
  exact this
end
theorem zhL{t:Tr}{x:List Int×Tr}(h:x∈t.plt []):t.at x.1=ae x.2∧x.1.length<t.depth:=by
 obtain⟨q,h3,h4,h5⟩:=zit t [] x.1 x.2 h;simp at h3;subst h3;exact⟨h4,h5⟩
theorem zel{α:Type}{g:WG}{b:WS}{E:WX}{D:WEnds}{G:Sto→Prop}{S:Sto}(hG:G S) (I:WSt→Prop) (key:α→W) (f:α→Option W):∀(xs:List α) (σ:WSt),I σ→
  (∀x∈xs,∀σ (N:WSt→Sto→Prop),I σ→(f x=none→ ∀σ' S',I σ'→Sub S S'→N σ' S')→(∀w,f x=ae w→ ∀S',Sub S S'→D.rt w S')→g (key x) σ S λσ1 S1=>b E { D with nx:=N,ct:=N,bk:=D.nx } σ1 S1)→
  (xs.findSome? f=none→ ∀σ,I σ→D.nx σ S)→(∀w,xs.findSome? f=ae w→ ∀S',Sub S S'→D.rt w S')→forL g b E D G (xs.map key) σ S
 | [],σ,hI,step,done,ret=>by
  have:=done rfl σ hI;simpa [forL]using this
 |x::xs,σ,hI,step,done,ret=>by
  rw[aD];refine zbc λN hN=>?_;refine step x aN σ N hI (λe σ' S' hI' sb=>?_) λw e S' sb=>ret w (by rw[er,e]) S' sb;refine hN _ _ S sb hG (zel hG I key f xs σ' hI' (λy hy=>step y (aH _ hy)) (λe2=>done (by rw[er,e];exact e2)) λw e2=>ret w (by rw[er,e];exact e2))
abbrev Tn:=Str×Tr×Tr
noncomputable def zbh (t:Tn):W:= .tup [.str t.1,enc t.2.1,enc t.2.2]
noncomputable def Tn0:Tn:=("", .bl 0, .bl 0)
noncomputable def lf (ts:List Tn) (j:Nat):Tr:=(ts.getD j Tn0).2.1
theorem zhf (n:Nat):zmL 0 n=(aO n).map λ(i:Nat)=>W.int i:=by
 unfold zmL;apply c_;intro i _;simp
noncomputable def Tr.small (t:Tr):Bool:=decide (t.weight≤400)&&decide (t.depth≤40)
theorem zdA{ns:List Int}{k:Int}{r:Nat}{S:Sto}{Q:WK}{E:Str→Sto→Prop}(h0:0≤k) (h:∀n:Int,Q (.int n) S):zaO (r+1) [.scr ns, .int k] S Q E:=by
 rw[zaO];walk_at "wp";split
 ·obtain⟨x,e,_⟩:=zeM (xs:=ns) (i:=k) h0 (by omega);rw[e];exact⟨S, .refl,h _⟩
 ·exact⟨S, .refl,h _⟩
noncomputable def lt (rs:List Int) (pos:Int) (k j:Nat):Nat:=97+((rs.getD j 0+(k:Int)*(if(0+(j:Int) == pos)=true then 1 else 0)) % 26).toNat
noncomputable def zfa (rs:List Int) (pos:Int) (k:Nat):List Nat:=(aO rs.length).map (lt rs pos k)
noncomputable def wd0 (rs:List Int) (pos:Int) (k:Nat):Str:=cQ (bu "") ((zfa rs pos k).map λc=>(⟨#[c]⟩:Str))
noncomputable def wd1 (rs:List Int) (pos:Int) (k:Nat):Str:=dA ⟨#[lt rs pos k 0]⟩++cL (wd0 rs pos k) (ae 1) none
noncomputable def wd (great:Bool) (rs:List Int) (pos:Int) (k:Nat):Str:=if great then wd1 rs pos k else wd0 rs pos k
theorem zhw (rs:List Int) (pos:Int) (k j:Nat):Low (lt rs pos k j):=by
 have h0:=cg (rs.getD j 0+(k:Int)*(if(0+(j:Int) == pos)=true then 1 else 0)) (show(26:Int)≠0 by decide)
 have h1:=cn (rs.getD j 0+(k:Int)*(if(0+(j:Int) == pos)=true then 1 else 0)) (show(0:Int)<26 by decide)
 unfold lt Low;omega
theorem zxO{n:Int}(h0:0≤n) (h1:n<26):atI (bu "abcdefghijklmnopqrstuvwxyz").cps.toList n=ae (97+n.toNat):=by
 have e:=zaU (xs:=(bu "abcdefghijklmnopqrstuvwxyz").cps.toList) (n:=n.toNat);rw[cB h0]at e;rw[e,ztb,List.getElem?_range' (by omega)];simp
theorem zfR (rs:List Int) (pos:Int) (k:Nat):(wd0 rs pos k).cps.toList=zfa rs pos k:=zjH _
theorem zgh (rs:List Int) (pos:Int) (k:Nat):(zfa rs pos k).length=rs.length:=by simp [zfa]
theorem ziE{rs:List Int}{pos:Int}{k c:Nat}(h:c∈zfa rs pos k):Low c:=by
 obtain⟨j,_,rfl⟩:=aZ.mp h;exact zhw rs pos k j
theorem zmQ{rs:List Int}(pos:Int) (k:Nat) (h:1≤rs.length):zfa rs pos k=lt rs pos k 0::(zfa rs pos k).drop 1:=by
 unfold zfa;obtain⟨n,hn⟩:∃n,rs.length=n+1:=⟨rs.length - 1,by omega⟩
 rw[hn,ii];simp
theorem zjN{c:Nat}(h:Low c):dA ⟨#[c]⟩=⟨#[c - 32]⟩:=by
 unfold Low at h;rw[PySem.W.KOpn.upper_one (by omega),if_pos h]
theorem zmf{rs:List Int}(pos:Int) (k:Nat):(wd1 rs pos k).cps.toList=(lt rs pos k 0 - 32)::(zfa rs pos k).drop 1:=by
 unfold wd1;rw[zjN (zhw _ _ _ _)];show((#[lt rs pos k 0 - 32]:Array Nat)++(cL (wd0 rs pos k) (ae 1) none).cps).toList=_;rw[il,zkU,zfR];rfl
structure Base (rs:List Int) (pos:Int):Prop where
  l1:1≤rs.length
  l8:rs.length≤8
  p0:0≤pos
  p1:pos<rs.length
theorem zlr{rs:List Int}{pos:Int}(b:Base rs pos) (k:Nat):zcN (wd0 rs pos k):=by
 unfold zcN;rw[zfR,zgh];exact⟨b.l1,b.l8,λc hc=>ziE hc⟩
theorem znk{rs:List Int}{pos:Int}(b:Base rs pos) (k:Nat):zdy (wd1 rs pos k):=by
 have:=zhw rs pos k 0;have hl:=b.l8;unfold Low at this;refine⟨_,_,zmf pos k,by omega,by omega,by rw[ck,zgh];omega,λd hd=>ziE (gU hd)⟩
theorem zyK{rs:List Int}{pos:Int}(b:Base rs pos) {k m:Nat}(hk:k<26) (hm:m<26) (h:k≠m):lt rs pos k pos.toNat≠lt rs pos m pos.toNat:=by
 have p0:=b.p0;have e:(0+((pos.toNat:Nat):Int) == pos)=true:=by rw[beq_iff_eq];omega
 unfold lt;rw[e,if_pos rfl];omega
theorem zxd{great:Bool}{rs:List Int}{pos:Int}(b:Base rs pos) {k m:Nat}(hk:k<26) (hm:m<26) (h:k≠m):wd great rs pos k≠wd great rs pos m:=by
 have hn:=zyK b hk hm h;have p0:=b.p0;have p1:=b.p1;intro e;have e':=congrArg (λx:Str=>x.cps.toList) e;cases great with
 |false=>
  simp only[wd,d9,if_false,zfR]at e';have e2:=congrArg (λl=>l[pos.toNat]?) e';simp only[zfa,aX,fB (show pos.toNat<rs.length by omega),fR,bq]at e2
  exact hn e2
 |true=>
  simp only[wd,if_true,zmf]at e';have e2:=congrArg (λl=>l[pos.toNat]?) e';cases hp:pos.toNat with
  |zero=>
   rw[hp]at hn;have h1:=zhw rs pos k 0;have h2:=zhw rs pos m 0;unfold Low at h1 h2;simp only[hp,gw,bq]at e2;omega
  |succ n=>
   rw[hp]at hn;simp only[hp,bU,jJ,zfa,aX]at e2;rw[show 1+n=n+1 by omega,fB (show n+1<rs.length by omega)]at e2
   simp only[fR,bq]at e2;exact hn e2
def zkj (great:Bool) (ws:List Str):Prop:=∃rs pos,Base rs pos∧(ws=(aO 6).map (wd great rs pos)∨(great=false∧ws=[wd0 rs pos 0,wd0 rs pos 1,wd0 rs pos 2,wd0 rs pos 2,wd0 rs pos 2,wd0 rs pos 5]))
structure Signs (w0 w1 w2 w3 w4 w5:Str):Prop where
  ok:∀x∈ [w0,w1,w2,w3,w4,w5],zcN x
  n0:∀x∈ [w1,w2,w3,w4,w5],w0≠x
  n1:∀x∈ [w2,w3,w4,w5],w1≠x
  n5:∀x∈ [w2,w3,w4],w5≠x
theorem zkg{ws:List Str}(h:zkj false ws):∃w0 w1 w2 w3 w4 w5,ws=[w0,w1,w2,w3,w4,w5]∧Signs w0 w1 w2 w3 w4 w5:=by
 obtain⟨rs,pos,b,h⟩:=h;have hs:=λk=>zlr b k;have hn:∀k m:Nat,k<26→m<26→k≠m→wd0 rs pos k≠wd0 rs pos m:=λk m h1 h2 h3=>zxd (great:=false) b h1 h2 h3;rcases h with rfl |⟨_,rfl⟩
 ·refine⟨_,_,_,_,_,_,rfl,⟨?_,?_,?_,?_⟩⟩
  ·simp only[av,bo,or_false,forall_eq_or_imp,forall_eq];exact⟨hs 0,hs 1,hs 2,hs 3,hs 4,hs 5⟩
  ·simp only[av,bo,or_false,forall_eq_or_imp,forall_eq];exact⟨hn 0 1 (by decide) (by decide) (by decide),hn 0 2 (by decide) (by decide) (by decide),hn 0 3 (by decide) (by decide) (by decide),hn 0 4 (by decide) (by decide) (by decide),hn 0 5 (by decide) (by decide) (by decide)⟩
  ·simp only[av,bo,or_false,forall_eq_or_imp,forall_eq];exact⟨hn 1 2 (by decide) (by decide) (by decide),hn 1 3 (by decide) (by decide) (by decide),hn 1 4 (by decide) (by decide) (by decide),hn 1 5 (by decide) (by decide) (by decide)⟩
  ·simp only[av,bo,or_false,forall_eq_or_imp,forall_eq];exact⟨hn 5 2 (by decide) (by decide) (by decide),hn 5 3 (by decide) (by decide) (by decide),hn 5 4 (by decide) (by decide) (by decide)⟩
 ·refine⟨_,_,_,_,_,_,rfl,⟨?_,?_,?_,?_⟩⟩
  ·simp only[av,bo,or_false,forall_eq_or_imp,forall_eq];exact⟨hs 0,hs 1,hs 2,hs 2,hs 2,hs 5⟩
  ·simp only[av,bo,or_false,forall_eq_or_imp,forall_eq];exact⟨hn 0 1 (by decide) (by decide) (by decide),hn 0 2 (by decide) (by decide) (by decide),hn 0 2 (by decide) (by decide) (by decide),hn 0 2 (by decide) (by decide) (by decide),hn 0 5 (by decide) (by decide) (by decide)⟩
  ·simp only[av,bo,or_false,forall_eq_or_imp,forall_eq];exact⟨hn 1 2 (by decide) (by decide) (by decide),hn 1 2 (by decide) (by decide) (by decide),hn 1 2 (by decide) (by decide) (by decide),hn 1 5 (by decide) (by decide) (by decide)⟩
  ·simp only[av,bo,or_false,forall_eq_or_imp,forall_eq];exact⟨hn 5 2 (by decide) (by decide) (by decide),hn 5 2 (by decide) (by decide) (by decide),hn 5 2 (by decide) (by decide) (by decide)⟩
structure Titles (ts:List Str):Prop where
  len:ts.length=6
  ok:∀x∈ts,zdy x
  nd:ts.Nodup
theorem zfw{ws:List Str}(h:zkj true ws):Titles ws:=by
 obtain⟨rs,pos,b,h⟩:=h;rcases h with rfl |⟨e,_⟩
 ·refine⟨by simp,λx hx=>?_,?_⟩
  ·obtain⟨k,_,rfl⟩:=aZ.mp hx;exact znk b k
  ·rw[bA,jC];refine jY.imp_of_mem (λ{a c} ha hc hne=>?_) (List.nodup_range (n:=6));have ha:=eM.mp ha;have hc:=eM.mp hc;exact zxd b (by omega) (by omega) hne
 ·cases e
theorem ziZ:∀(ws:List W) {rs:List Int}{sp:Int}{a:Addr}{r:Nat}{S:Sto}{E:WX}{D:WEnds}{x0 x1 x2 x3 x6 x7 x8 x9:Option W},S a=ae (.lst (rs.map W.int))→rs.length+ws.length≤1000→
  (∀(rs':List Int) sp' x6',rs'.length=rs.length+ws.length→D.nx [x0,x1,x2,x3,ae (.int sp'),ae (.ref a),x6',x7,x8,x9] (put S a (.lst (rs'.map W.int))))→
  forL (wGN 6) (zdm r zba) E D (λ_=>True) ws [x0,x1,x2,x3,ae (.int sp),ae (.ref a),x6,x7,x8,x9] S
 | [],rs,sp,a,r,S,E,D,x0,x1,x2,x3,x6,x7,x8,x9,ha,hl,h=>by
  simp only[forL];have:=h rs sp x6 (by simp);rw[zeb ha]at this;exact this
 |w::ws,rs,sp,a,r,S,E,D,x0,x1,x2,x3,x6,x7,x8,x9,ha,hl,h=>by
  simp only[forL,zdm];walk_at "wp";simp only[aV]at hl h;simp only[zaj ha,true_and];refine⟨by decide,zbH (by simp;omega),⟨by decide,by decide⟩,_, .refl,?_⟩
  refine ziZ (r:=r) ws (rs:=rs++[sp % 26]) (by rw[zag];simp) (by simp;omega) λrs' sp' x6' h1=>?_;rw[zbe];exact h rs' sp' x6' (by simp at h1;omega)
theorem zvV{c:Prop} [Decidable c] {a b:Prop}(h1:c→a) (h2:¬c→b):if c then a else b:=by split<;>simp_all
theorem zwD{A T:WS}{E:WX}{D:WEnds}{σ:WSt}{S:Sto}(h:∀T',T'=T→zaw A T' E D σ S):zaw A T E D σ S:=h T rfl
theorem zlF{one two:Int}{great:Bool}{r:Nat}{S:Sto}{Q:WK}{E:Str→Sto→Prop}(h:∀(a:Addr) (ws:List Str),S a=none→zkj great ws→Q (.ref a) (put S a (.lst (ws.map W.str)))):zbP (r+1) [.int one, .int two, .bl great] S Q E:=by
 rw[zbP];walk_at "wp";have o0:0≤one % 8:=cg _ (by decide);have o1:one % 8<8:=cn _ (by decide);refine⟨⟨by decide,by decide,by decide⟩,by decide,aS _,λa ha=>⟨by decide,⟨by omega,by omega⟩,?_⟩⟩
 refine ziZ _ (rs:=[]) zag (by simp [zmb];omega) λrs sp x6 hl=>?_;rw[zbe];simp only[ef,zmb,cP]at hl;have hl':(rs.length:Int)=1+one % 8:=by rw[hl];omega
 have p0:0≤one / 8 % (rs.length:Int):=cg _ (by omega);have p1:one / 8 % (rs.length:Int)<(rs.length:Int):=cn _ (by omega);have B:Base rs (one / 8 % (rs.length:Int)):=⟨by omega,by omega,p0,p1⟩
 walk_at "wp";simp only[aq];refine⟨⟨by decide,by decide⟩,by omega,aS _,λb hb=>⟨⟨by decide,by decide⟩,?_⟩⟩
 obtain⟨hb1,hb2⟩:=zde hb;generalize hpos:one / 8 % (rs.length:Int)=pos at B p0 p1⊢;refine zpT (λi σ S'=>∃x6 x9,S'=put (put S a (.lst (rs.map W.int))) b (.lst (((aO i).map (wd great rs pos)).map W.str))∧σ=[ae (.int one),ae (.int two),ae (.bl great),ae (.str (bu "abcdefghijklmnopqrstuvwxyz")),ae (.int sp),ae (.ref a),x6,ae (.int pos),ae (.ref b),x9]) 6 ?_ ?_ ⟨x6,none,rfl,rfl⟩
 ·rintro k hk σ S' N ⟨x6,x9,rfl,rfl⟩ hN;have ea:put (put S a (Ob.lst (rs.map W.int))) b (Ob.lst (((aO k).map (wd great rs pos)).map W.str)) a=ae (.lst (rs.map W.int)):=by rw[zaN (bg hb2),zag]
  simp only[zeB];walk_at "wp";rw[zaj ea];simp only[aq];refine⟨⟨by omega,by omega⟩,?_⟩
  rw[bK];refine zbb (λσ=>∃x,σ=[x,ae (.str (bu "abcdefghijklmnopqrstuvwxyz")),ae (.ref a),ae (.int (k:Int)),ae (.int pos)]) (λi:Nat=>W.int (0+(i:Int))) (λi=>W.str ⟨#[lt rs pos k i]⟩) trivial (aO rs.length) [] _ ⟨none,rfl⟩ (by simp;omega) (λi hi σ R hI hR=>?_) ?_
  ·obtain⟨x,rfl⟩:=hI;have hi:=eM.mp hi;simp only[zex];walk_at "wp";have e:=zaU (xs:=rs.map W.int) (n:=i);rw[show(i:Int)=0+(i:Int) by omega,aX,aU hi]at e
   rw[zaj ea,e];dsimp only[Option.map];walk_at "wp";have ec:=zxO (n:=(rs[i]+(k:Int)*(if(0+(i:Int) == pos)=true then 1 else 0)) % 26) (cg _ (by decide)) (cn _ (by decide));rw[ec];have el:lt rs pos k i=97+((rs[i]+(k:Int)*(if(0+(i:Int) == pos)=true then 1 else 0)) % 26).toNat:=by
    unfold lt;rw[bE,aU hi];rfl
   rw[←el];exact⟨.inl ⟨by omega,by omega⟩,by decide,zah (by rw[zxo];decide),hR _ _ ⟨_,rfl⟩ .refl⟩
  ·have es:(aO rs.length).map (λi=>W.str ⟨#[lt rs pos k i]⟩)=(zfa rs pos k).map λc=>W.str ⟨#[c]⟩:=by
    unfold zfa;rw[bG];rfl
   have hw:=zlr B k;rw[aR,es,zgg];refine⟨znd _ (by rw[zgh];omega),?_⟩;show _;have ew:cQ (bu "") ((zfa rs pos k).map λc=>(⟨#[c]⟩:Str))=wd0 rs pos k:=rfl;rw[ew];have hl8:(wd0 rs pos k).length≤8:=by rw[zkL];exact hw.2.1
   have fin:∀z:Str,z=wd great rs pos k→ ∀x9:Option W,N [ae (.int one),ae (.int two),ae (.bl great),ae (.str (bu "abcdefghijklmnopqrstuvwxyz")),ae (.int sp),ae (.ref a),ae (.int (k:Int)),ae (.int pos),ae (.ref b),x9] (put (put S a (.lst (rs.map W.int))) b (.lst (((aO k).map (wd great rs pos)).map W.str++[.str z]))):=λz hz x9=>by
    subst hz;refine hN _ _ _ .refl ⟨_,_,?_,rfl⟩;rw[gN,bN,bN];rfl
   have hxl:(((aO k).map (wd great rs pos)).map W.str).length<sizeLine:=zbH (by simp;omega);cases great with
   |false=>
    try walk_at "wp"
    try simp only[zfG,zbe,true_and]
    exact⟨hxl,fin _ rfl _⟩
   |true=>
    walk_at "wp";rw[zfR,zmQ pos k B.l1,zhR];dsimp only
    try walk_at "wp"
    try simp only[zfG,zbe,true_and]
    refine⟨zah (by omega),?_⟩;have h1:(⟨#[lt rs pos k 0]⟩:Str).length=1:=rfl;have h2:(dA ⟨#[lt rs pos k 0]⟩).length=1:=by rw[zjN (zhw _ _ _ _)];rfl
    have h3:(cL (wd0 rs pos k) (ae 1) none).length≤8:=by
     rw[zkL,zkU,ck,←zkL];omega
    exact⟨by omega,zah (by omega),zah (by omega),hxl,fin _ rfl _⟩
 ·rintro σ S' ⟨x6,x9,rfl,rfl⟩;have eb:put (put S a (Ob.lst (rs.map W.int))) b (Ob.lst (((aO 6).map (wd great rs pos)).map W.str)) b=ae (.lst (((aO 6).map (wd great rs pos)).map W.str)):=zag;walk_at "wp";cases great with
  |true=>
   walk_at "wp";refine⟨⟨by decide,by decide⟩,by decide,?_⟩
   split
   ·exact⟨_, .put2 (.put .refl ha),h b _ hb1 ⟨rs,pos,B, .inl rfl⟩⟩
   ·exact⟨_, .put2 (.put .refl ha),h b _ hb1 ⟨rs,pos,B, .inl rfl⟩⟩
  |false=>
   walk_at "wp";refine⟨⟨by decide,by decide⟩,by decide,?_⟩
   split
   ·have e6:((aO 6).map (wd false rs pos)).map W.str=[.str (wd0 rs pos 0), .str (wd0 rs pos 1), .str (wd0 rs pos 2), .str (wd0 rs pos 3), .str (wd0 rs pos 4), .str (wd0 rs pos 5)]:=rfl;simp only[e6]
    try walk_at "wp"
    have c3:zer [W.str (wd0 rs pos 0), .str (wd0 rs pos 1), .str (wd0 rs pos 2), .str (wd0 rs pos 3), .str (wd0 rs pos 4), .str (wd0 rs pos 5)] none (ae 3)=[.str (wd0 rs pos 0), .str (wd0 rs pos 1), .str (wd0 rs pos 2)]:=rfl;have a2:atI [W.str (wd0 rs pos 0), .str (wd0 rs pos 1), .str (wd0 rs pos 2), .str (wd0 rs pos 3), .str (wd0 rs pos 4), .str (wd0 rs pos 5)] 2=ae (.str (wd0 rs pos 2)):=rfl;have a5:atI [W.str (wd0 rs pos 0), .str (wd0 rs pos 1), .str (wd0 rs pos 2), .str (wd0 rs pos 3), .str (wd0 rs pos 4), .str (wd0 rs pos 5)] 5=ae (.str (wd0 rs pos 5)):=rfl;simp only[c3,a2,a5]
    try walk_at "wp"
    refine⟨zah (by decide),zah (by decide),λc hc=>?_⟩;obtain⟨hc1,hc2⟩:=zde hc;obtain⟨hc1,hc3⟩:=zde hc1;exact⟨_, .put2 (.put (.put .refl ha) hb1),h c _ hc1 ⟨rs,pos,B, .inr ⟨rfl,rfl⟩⟩⟩
   ·exact⟨_, .put2 (.put .refl ha),h b _ hb1 ⟨rs,pos,B, .inl rfl⟩⟩
mutual
noncomputable def Tr.nb:Tr→Nat
 | .bl _=>1
 | .nd _ ts=>nbs ts
noncomputable def nbs:List Tr→Nat
 | []=>0
 |t::ts=>t.nb+nbs ts
end
mutual
theorem zrV:∀(t:Tr) (p:List Int),((t.plt p).filter λx=>x.2.isBl).length=t.nb
 | .bl n,p=>by simp [Tr.plt,Tr.isBl,Tr.nb]
 | .nd s ts,p=>by
  have:=znY ts p 0;simpa [Tr.plt,Tr.isBl,Tr.nb]using this
theorem znY:∀(ts:List Tr) (p:List Int) (i:Nat),((zeE p i ts).filter λx=>x.2.isBl).length=nbs ts
 | [],p,i=>by simp [zeE,nbs]
 |t::ts,p,i=>by
  have h1:=zrV t (p++[(i:Int)]);have h2:=znY ts p (i+1);rw[zeE,List.filter_append,ba,h1,h2,nbs]
end
theorem zos (t:Tr):t.bls.length=t.nb:=zrV t []
theorem zna:∀ts:List Tr,(ts.map λt=>(t.nb:Int)).sum=(nbs ts:Int)
 | []=>by simp [nbs]
 |t::ts=>by
  rw[aD,gQ,zna ts,nbs];omega
theorem zuB (ts:List Tr):zbW (ts.map λt=>W.int (t.nb:Int))=ae (ts.map λt=>(t.nb:Int)):=by
 have:=zei (ts.map λt=>(t.nb:Int));rw[bG]at this;exact this
theorem zij:∀(d:Nat) {t:Tr}{r:Nat}{S:Sto}{Q:WK}{E:Str→Sto→Prop},t.depth≤d→d≤r+1→t.weight≤90000→Q (.int t.nb) S→zaF (r+1) [enc t] S Q E
 |0,t,r,S,Q,E,hd,hr,hw,h=>by have:=zaH t;omega
 |d+1, .bl n,r,S,Q,E,hd,hr,hw,h=>by
  rw[zaF];simp only[enc];walk_at "wp";simp only[Tr.nb]at h;exact⟨S, .refl,h⟩
 |d+1, .nd s ts,r,S,Q,E,hd,hr,hw,h=>by
  simp only[Tr.depth]at hd;simp only[Tr.weight]at hw;have hk:=zbJ ts;rw[zaF];simp only[enc];walk_at "wp";rw[zaD];refine zbb (λσ=>∃x,σ=[x]) enc (λt=> .int (t.nb:Int)) trivial ts [] _ ⟨none,rfl⟩ (by simp;omega) (λx hx σ R hI hR=>?_) ?_
  ·obtain⟨y,rfl⟩:=hI;have hdx:=zbd hx;have hwx:=zbA hx;have:=zaH x;obtain⟨r,rfl⟩:∃r',r=r'+1:=⟨r - 1,by omega⟩
   simp only[zdg];walk_at "wp";exact zij d (t:=x) (r:=r) (by omega) (by omega) (by omega) (hR _ _ ⟨_,rfl⟩ .refl)
  ·rw[aR,zuB];dsimp only;rw[zna];simp only[Tr.nb]at h;exact⟨S, .refl,h⟩
theorem zlq{w:W}{ws:List W}:zer (w::ws) none (ae 1)=[w]:=by
 rw[show(1:Int)=((1:Nat):Int) from rfl,zfP];rfl
theorem zeg{us:List Tr}{a:Addr}:∀(d:Nat) {t:Tr}{r:Nat}{S:Sto}{Q:WK}{E:Str→Sto→Prop},t.depth≤d→d≤r+1→S a=ae (.lst (encs us))→t.fits us.length→t.weight≤90000→Q (enc (t.fill us)) S→zaW (r+1) [enc t, .ref a] S Q E
 |0,t,r,S,Q,E,hd,hr,ha,hf,hw,h=>by have:=zaH t;omega
 |d+1, .bl n,r,S,Q,E,hd,hr,ha,hf,hw,h=>by
  simp only[Tr.fits]at hf;simp only[Tr.fill]at h;rw[zaW];simp only[enc];walk_at "wp";have e:atI (encs us) n=ae (enc (us.getD n.toNat (.bl n))):=by
   have q:=zaU (xs:=encs us) (n:=n.toNat);rw[cB hf.1]at q;rw[q,zaD,aX,bE,aU (by omega)];rfl
  rw[zaj ha,e];exact⟨S, .refl,h⟩
 |d+1, .nd s ts,r,S,Q,E,hd,hr,ha,hf,hw,h=>by
  simp only[Tr.fits]at hf;simp only[Tr.fill]at h;simp only[Tr.depth]at hd;simp only[Tr.weight]at hw;have hk:=zbJ ts;rw[zaW];simp only[enc]at h⊢;walk_at "wp";rw[zlq];rw[zaD];refine zbb (λσ=>∃x,σ=[x,ae (.ref a)]) enc (λt=>enc (t.fill us)) trivial ts [] _ ⟨none,rfl⟩ (by simp;omega) (λx hx σ R hI hR=>?_) ?_
  ·obtain⟨y,rfl⟩:=hI;have hdx:=zbd hx;have hwx:=zbA hx;have:=zaH x;obtain⟨r,rfl⟩:∃r',r=r'+1:=⟨r - 1,by omega⟩
   simp only[zdX];walk_at "wp";exact zeg d (t:=x) (r:=r) (by omega) (by omega) ha (zeO hf hx) (by omega) (hR _ _ ⟨_,rfl⟩ .refl)
  ·rw[aR];walk_at "wp";refine⟨zah (by simp;omega),S, .refl,?_⟩;have e:encs (fills us ts)=ts.map λt=>enc (t.fill us):=by rw[zaD,zgp,bG];rfl
   rw[e]at h;exact h
noncomputable def leftsL (n:Nat) (h c d:Str):List Tr:=
 match n with
 |0=>[.nd h [.bl 0]]
 |1=>[.nd h [.bl 0, .bl 1]]
 |2=>[.nd h [.nd c []], .nd h [.nd d [.bl 0]]]
 |3=>[.nd h [.nd c [], .bl 0], .nd h [.nd d [.bl 0], .bl 1]]
 |4=>[.nd h [.nd d [.nd d [.bl 0]], .bl 1, .bl 2], .nd h [.nd d [.nd c []], .bl 0, .bl 1]]
 |_=>[.nd h []]
section
variable {w0 w1 w2 w3 w4 w5:Str}{r:Nat}{S:Sto}{Q:WK}{E:Str→Sto→Prop}
noncomputable abbrev six (w0 w1 w2 w3 w4 w5:Str):List W:=[.str w0, .str w1, .str w2, .str w3, .str w4, .str w5]
theorem six0:atI (six w0 w1 w2 w3 w4 w5) 0=ae (.str w0):=rfl
theorem six1:atI (six w0 w1 w2 w3 w4 w5) 1=ae (.str w1):=rfl
theorem six2:atI (six w0 w1 w2 w3 w4 w5) 2=ae (.str w2):=rfl
theorem six3:atI (six w0 w1 w2 w3 w4 w5) 3=ae (.str w3):=rfl
theorem six4:atI (six w0 w1 w2 w3 w4 w5) 4=ae (.str w4):=rfl
theorem six5:atI (six w0 w1 w2 w3 w4 w5) 5=ae (.str w5):=rfl
theorem zrq{n:Int}{h c d:Str}(H:∀(p:Addr) (k:Nat),S p=none→Q (.ref p) (put S p (.lst (encs (leftsL k h c d))))):zcu (r+1) [.int n, .str h, .str c, .str d] S Q E:=by
 rw[zcu,zlV];refine⟨rfl,?_⟩;have l1:1≤sizeLine:=zah (by decide);have l2:2≤sizeLine:=zah (by decide);have l3:3≤sizeLine:=zah (by decide);have l4:4≤sizeLine:=zah (by decide);refine zwD λT hT=>?_;walk_at "wp";refine zvV (λ_=>⟨l2,l1,λp hp=>⟨_, .refl,by simpa only[leftsL,enc,encs]using H p 0 hp⟩⟩) λ_=>?_
 subst hT;refine zwD λT hT=>?_;walk_at "wp";refine zvV (λ_=>⟨l3,l1,λp hp=>⟨_, .refl,by simpa only[leftsL,enc,encs]using H p 1 hp⟩⟩) λ_=>?_
 subst hT;refine zwD λT hT=>?_;walk_at "wp";refine zvV (λ_=>⟨l1,l2,l2,l2,l2,λp hp=>⟨_, .refl,by simpa only[leftsL,enc,encs]using H p 2 hp⟩⟩) λ_=>?_
 subst hT;refine zwD λT hT=>?_;walk_at "wp";refine zvV (λ_=>⟨l1,l3,l2,l3,l2,λp hp=>⟨_, .refl,by simpa only[leftsL,enc,encs]using H p 3 hp⟩⟩) λ_=>?_
 subst hT;refine zwD λT hT=>?_;walk_at "wp";refine zvV (λ_=>⟨l2,l2,l4,l1,l2,l4,l2,λp hp=>⟨_, .refl,by simpa only[leftsL,enc,encs]using H p 4 hp⟩⟩) λ_=>?_
 subst hT;walk_at "wp";exact⟨l1,l1,λp hp=>⟨_, .refl,by simpa only[leftsL,enc,encs]using H p 5 hp⟩⟩
end
section
variable {w0 w1:Str}{j:Int}
theorem zfb (n:Nat) (h c d:Str):1≤(leftsL n h c d).length∧(leftsL n h c d).length≤2:=by
 unfold leftsL;split<;>simp
noncomputable def hdOf (w0 w1:Str) (j:Nat):Str:=if j=0 then w0 else w1
end
noncomputable def zqh (x:Str):Bool:=decide (1≤x.cps.toList.length)&&(decide (x.cps.toList.length≤8)&&small x.cps.toList)
theorem znI (xs:List Nat):small xs=true↔ ∀c∈xs,Low c:=by
 unfold small;rw[dg];simp only[zsc,Low,ce,decide_eq_true_eq]
theorem zeL (x:Str):zqh x=true↔zcN x:=by
 unfold zqh zcN;rw[ce,ce,decide_eq_true_eq,decide_eq_true_eq,znI]
theorem zem{x y:Str}(h:zcN x) (g:zdy y):x≠y:=by
 rintro rfl;obtain⟨c,r,e,h1,h2,_⟩:=g;have:=h.2.2 c (by rw[e];exact aN);unfold Low at this;omega
mutual
noncomputable def Tr.hd (P:Str→Prop):Tr→Prop
 | .bl _=>False
 | .nd s ts=>P s∧hds P ts
noncomputable def hds (P:Str→Prop):List Tr→Prop
 | []=>True
 |t::ts=>t.hd P∧hds P ts
end
mutual
noncomputable def Tr.hb (P:Str→Prop):Tr→Prop
 | .bl _=>True
 | .nd s ts=>P s∧hbs P ts
noncomputable def hbs (P:Str→Prop):List Tr→Prop
 | []=>True
 |t::ts=>t.hb P∧hbs P ts
end
theorem hds_iff{P:Str→Prop}:∀{ts:List Tr},hds P ts↔ ∀t∈ts,t.hd P
 | []=>by simp [hds]
 |t::ts=>by simp [hds,hds_iff (ts:=ts)]
mutual
theorem zfo{P P':Str→Prop}(h:∀s,P s→P' s):∀(t:Tr),t.hd P→t.hd P'
 | .bl _,q=>by simp [Tr.hd]at q
 | .nd s ts,q=>by
  simp only[Tr.hd]at q⊢;exact⟨h s q.1,zll h ts q.2⟩
theorem zll{P P':Str→Prop}(h:∀s,P s→P' s):∀(ts:List Tr),hds P ts→hds P' ts
 | [],_=>by simp [hds]
 |t::ts,q=>by
  simp only[hds]at q⊢;exact⟨zfo h t q.1,zll h ts q.2⟩
end
mutual
theorem zou{P P':Str→Prop}(h:∀s,P s→P' s):∀(t:Tr),t.hb P→t.hb P'
 | .bl _,q=>by simp [Tr.hb]
 | .nd s ts,q=>by
  simp only[Tr.hb]at q⊢;exact⟨h s q.1,zlj h ts q.2⟩
theorem zlj{P P':Str→Prop}(h:∀s,P s→P' s):∀(ts:List Tr),hbs P ts→hbs P' ts
 | [],_=>by simp [hbs]
 |t::ts,q=>by
  simp only[hbs]at q⊢;exact⟨zou h t q.1,zlj h ts q.2⟩
end
mutual
theorem zie{P:Str→Prop}{us:List Tr}(hu:∀u∈us,u.hd P):∀(t:Tr),t.hb P→t.fits us.length→(t.fill us).hd P
 | .bl n,h,f=>by
  simp only[Tr.fits]at f;simp only[Tr.fill];rw[bE,aU (show n.toNat<us.length by omega)]
  exact hu _ (eV ..)
 | .nd s ts,h,f=>by
  simp only[Tr.fits]at f;simp only[Tr.hb]at h;simp only[Tr.fill,Tr.hd];exact⟨h.1,zlZ hu ts h.2 f⟩
theorem zlZ{P:Str→Prop}{us:List Tr}(hu:∀u∈us,u.hd P):∀(ts:List Tr),hbs P ts→fitss us.length ts→hds P (fills us ts)
 | [],h,f=>by simp [fills,hds]
 |t::ts,h,f=>by
  simp only[fitss]at f;simp only[hbs]at h;simp only[fills,hds];exact⟨zie hu t h.1 f.1,zlZ hu ts h.2 f.2⟩
end
structure RightW (ws:List Str) (m:Nat) (t:Tr):Prop where
  dp:t.depth≤4
  fits:t.fits m
  hb:∀{P:Str→Prop},(∀x∈ws,P x)→t.hb P
  wt:t.weight≤7
def zzF (B:List Tn):Prop:=∀t∈B,∀(us:List Tr) (M:Nat),us.length=t.2.1.nb→1≤M→(∀u∈us,u.weight≤M)→(t.2.2.fill us).weight≤2+2*M∧(t.2.1.nb=0→(t.2.2.fill us).weight≤1+M)
structure BookOk (w0 w1 w2 w3 w4 w5:Str) (tt:List Str) (B:List Tn):Prop where
  lf:∃n m:Nat,B.map (λt=>t.2.1)=leftsL n w0 w2 w3++leftsL m w1 w2 w3
  ti:B.map (λt=>t.1)=tt.take B.length
  ri:∀t∈B,RightW [w0,w1,w2,w3,w4,w5] t.2.1.nb t.2.2
structure LeftT (P:Str→Prop) (L:Tr):Prop where
  hb:L.hb P
  fits:L.fits L.nb
  wt:L.weight≤L.nb+3
  dp:L.depth≤4
  nb:L.nb≤3
  nd:∃s ts,L= .nd s ts
  fw:∀us:List Tr,us.length=L.nb→(L.fill us).weight≤3+wts us
  fw0:L.nb=0→(L.fill []).weight≤2
theorem zfQ{P:Str→Prop}{n:Nat}{h c d:Str}(hh:P h) (hc:P c) (hd:P d):∀L∈leftsL n h c d,LeftT P L:=by
 unfold leftsL;intro L hL;split at hL<;>simp only[av,bo,or_false]at hL
 all_goals first
  | (subst hL;exact⟨by simp [Tr.hb,hbs,hh,hc,hd],by simp [Tr.fits,fitss,Tr.nb,nbs],by simp [Tr.weight,wts,Tr.nb,nbs],by simp [Tr.depth,dts],by simp [Tr.nb,nbs],⟨_,_,rfl⟩,λus hu=>by rcases us with _ |⟨u,_ |⟨v,_ |⟨x,_ |⟨y,us⟩⟩⟩⟩<;>simp [Tr.nb,nbs,Tr.fill,fills,Tr.weight,wts]at hu⊢ <;>omega,λh0=>by simp [Tr.nb,nbs,Tr.fill,fills,Tr.weight,wts]at h0⊢⟩)
  | (rcases hL with rfl |rfl<;>exact⟨by simp [Tr.hb,hbs,hh,hc,hd],by simp [Tr.fits,fitss,Tr.nb,nbs],by simp [Tr.weight,wts,Tr.nb,nbs],by simp [Tr.depth,dts],by simp [Tr.nb,nbs],⟨_,_,rfl⟩,λus hu=>by rcases us with _ |⟨u,_ |⟨v,_ |⟨x,_ |⟨y,us⟩⟩⟩⟩<;>simp [Tr.nb,nbs,Tr.fill,fills,Tr.weight,wts]at hu⊢ <;>omega,λh0=>by simp [Tr.nb,nbs,Tr.fill,fills,Tr.weight,wts]at h0⊢⟩)
section
variable {w0 w1 w2 w3 w4 w5:Str}{tt:List Str}{B:List Tn}
theorem BookOk.len (b:BookOk w0 w1 w2 w3 w4 w5 tt B):2≤B.length∧B.length≤4:=by
 obtain⟨n,m,e⟩:=b.lf;have h1:=zfb n w0 w2 w3;have h2:=zfb m w1 w2 w3;have e':=congrArg dk e;rw[aq,ba]at e';omega
theorem BookOk.left (b:BookOk w0 w1 w2 w3 w4 w5 tt B) {P:Str→Prop}(h0:P w0) (h1:P w1) (h2:P w2) (h3:P w3) {t:Tn}(ht:t∈B):LeftT P t.2.1:=by
 obtain⟨n,m,e⟩:=b.lf;have:t.2.1∈leftsL n w0 w2 w3++leftsL m w1 w2 w3:=by rw[←e];exact aZ.mpr ⟨t,ht,rfl⟩
 rcases bb.mp this with z |z
 ·exact zfQ h0 h2 h3 _ z
 ·exact zfQ h1 h2 h3 _ z
theorem BookOk.nodup (b:BookOk w0 w1 w2 w3 w4 w5 tt B) (T:Titles tt):(B.map λt=>t.1).Nodup:=by
 rw[b.ti];exact bA.sublist (kM ..) T.nd
theorem BookOk.mem (b:BookOk w0 w1 w2 w3 w4 w5 tt B) {t:Tn}(ht:t∈B):t.1∈tt:=by
 have:t.1∈B.map λt=>t.1:=aZ.mpr ⟨t,ht,rfl⟩;rw[b.ti]at this;exact gD this
end
noncomputable def zaI (B:List Tn) (s:Str):Option Tn:=B.find? λt=>t.1 == s
theorem zdG:∀{B:List Tn}{t:Tn},(B.map λt=>t.1).Nodup→t∈B→zaI B t.1=ae t
 |u::B,t,hn,ht=>by
  unfold zaI;rw[aD,dq]at hn;rw[bS];rcases av.mp ht with rfl |ht
  ·simp
  ·have hne:u.1≠t.1:=λz=>hn.1 (by rw[z];exact aZ.mpr ⟨t,ht,rfl⟩);have:(u.1 == t.1)=false:=by simpa using hne
   rw[this];exact zdG hn.2 ht
theorem zga{B:List Tn}{s:Str}(h:∀t∈B,t.1≠s):zaI B s=none:=by
 unfold zaI;rw[iR];intro t ht;simpa using h t ht
noncomputable def topB (B:List Tn) (s:Str) (n:Nat):Bool:=match zaI B s with
 |none=>zqh s
 |some t=>n == t.2.1.nb
mutual
noncomputable def Tr.way (B:List Tn):Tr→Bool
 | .bl _=>false
 | .nd s ts=>topB B s ts.length&&zmX B ts
noncomputable def zmX (B:List Tn):List Tr→Bool
 | []=>true
 |t::ts=>t.way B&&zmX B ts
end
mutual
noncomputable def Tr.quiet:Tr→Bool
 | .bl _=>false
 | .nd s ts=>zqh s&&zgr ts
noncomputable def zgr:List Tr→Bool
 | []=>true
 |t::ts=>t.quiet&&zgr ts
end
theorem zin (B:List Tn):∀ts:List Tr,zmX B ts=ts.all (Tr.way B)
 | []=>by simp [zmX]
 |t::ts=>by simp [zmX,zin B ts]
mutual
theorem zhv:∀t:Tr,t.hd zcN→t.quiet=true
 | .bl n,h=>by simp [Tr.hd]at h
 | .nd s ts,h=>by
  simp only[Tr.hd]at h;rw[Tr.quiet,(zeL s).mpr h.1,zgt ts h.2];rfl
theorem zgt:∀ts:List Tr,hds zcN ts→zgr ts=true
 | [],h=>by simp [zgr]
 |t::ts,h=>by
  simp only[hds]at h;rw[zgr,zhv t h.1,zgt ts h.2];rfl
end
mutual
theorem zim{B:List Tn}(hB:∀t∈B,zdy t.1) {us:List Tr}(hu:∀u∈us,u.way B=true):∀(t:Tr),t.hb zcN→t.fits us.length→(t.fill us).way B=true
 | .bl n,h,f=>by
  simp only[Tr.fits]at f;simp only[Tr.fill];rw[bE,aU (show n.toNat<us.length by omega)]
  exact hu _ (eV ..)
 | .nd s ts,h,f=>by
  simp only[Tr.fits]at f;simp only[Tr.hb]at h;simp only[Tr.fill,Tr.way];rw[ziC hB hu ts h.2 f,topB,zga λt ht=>(zem h.1 (hB t ht)).symm,(zeL s).mpr h.1];rfl
theorem ziC{B:List Tn}(hB:∀t∈B,zdy t.1) {us:List Tr}(hu:∀u∈us,u.way B=true):∀(ts:List Tr),hbs zcN ts→fitss us.length ts→zmX B (fills us ts)=true
 | [],h,f=>by simp [fills,zmX]
 |t::ts,h,f=>by
  simp only[fitss]at f;simp only[hbs]at h;rw[fills,zmX,zim hB hu t h.1 f.1,ziC hB hu ts h.2 f.2];rfl
end
inductive Pl where
  |nd (k bits:Int) (head:Str) (ps:List Pl)
mutual
noncomputable def Pl.wt:Pl→Nat
 | .nd _ _ _ ps=>1+pwts ps
noncomputable def pwts:List Pl→Nat
 | []=>0
 |p::ps=>p.wt+pwts ps
end
mutual
noncomputable def Pl.dp:Pl→Nat
 | .nd _ _ _ ps=>1+zfp ps
noncomputable def zfp:List Pl→Nat
 | []=>0
 |p::ps=>max p.dp (zfp ps)
end
mutual
noncomputable def Pl.nt:Pl→Nat
 | .nd k _ _ ps=>(if k<0 then 0 else 1)+pnts ps
noncomputable def pnts:List Pl→Nat
 | []=>0
 |p::ps=>p.nt+pnts ps
end
inductive PlOk (ws:List Str) (B:List Tn):Pl→Prop
 |sign {b:Int}{h:Str}{ps:List Pl}:h∈ws→(∀p∈ps,PlOk ws B p)→PlOk ws B (.nd (-1) b h ps)
 |turn {k:Nat}{b:Int}{h:Str}{ps:List Pl}{t:Tn}:B[k]? =ae t→ps.length=t.2.1.nb→0≤b→b<8→(∀p∈ps,PlOk ws B p)→PlOk ws B (.nd k b h ps)
mutual
noncomputable def Pl.ev (B:List Tn) (c:Int→Nat):Pl→Tr
 | .nd k b h ps=>if k<0 then .nd h (evs B c ps) else match c b with
  |0=>(B.getD k.toNat (h, .bl 0, .bl 0)).2.1.fill (evs B c ps)
  |1=> .nd (B.getD k.toNat (h, .bl 0, .bl 0)).1 (evs B c ps)
  |_=>(B.getD k.toNat (h, .bl 0, .bl 0)).2.2.fill (evs B c ps)
noncomputable def evs (B:List Tn) (c:Int→Nat):List Pl→List Tr
 | []=>[]
 |p::ps=>p.ev B c::evs B c ps
end
theorem zkB (B:List Tn) (c:Int→Nat):∀ps:List Pl,evs B c ps=ps.map (Pl.ev B c)
 | []=>by simp [evs]
 |p::ps=>by simp [evs,zkB B c ps]
theorem zcg:∀ps qs:List Pl,pwts (ps++qs)=pwts ps+pwts qs
 | [],qs=>by simp [pwts]
 |p::ps,qs=>by simp [pwts,zcg ps qs];omega
theorem zbM:∀ps qs:List Pl,pnts (ps++qs)=pnts ps+pnts qs
 | [],qs=>by simp [pnts]
 |p::ps,qs=>by simp [pnts,zbM ps qs];omega
theorem zlQ{p:Pl}:∀{ps:List Pl},p∈ps→p.dp≤zfp ps
 |q::ps,h=>by
  rcases av.mp h with rfl |h
  ·simp [zfp];omega
  ·have:=zlQ h;simp [zfp];omega
mutual
theorem zlp:∀p:Pl,p.dp≤p.wt
 | .nd k b h ps=>by have:=zor ps;simp [Pl.dp,Pl.wt];omega
theorem zor:∀ps:List Pl,zfp ps≤pwts ps
 | []=>by simp [zfp]
 |p::ps=>by have:=zlp p;have:=zor ps;simp [zfp,pwts];omega
end
theorem zud (p:Pl):1≤p.dp:=by cases p;simp [Pl.dp]
theorem zuK (p:Pl):1≤p.wt:=by cases p;simp [Pl.wt]
theorem zcA{B:List Tn}{c:Int→Nat}{b:Int}{h:Str}{ps:List Pl}:(Pl.nd (-1) b h ps).ev B c= .nd h (ps.map (Pl.ev B c)):=by
 rw[Pl.ev,if_pos (by decide),zkB]
noncomputable def evT (t:Tn) (n:Nat) (us:List Tr):Tr:=match n with
 |0=>t.2.1.fill us
 |1=> .nd t.1 us
 |_=>t.2.2.fill us
theorem zbB{B:List Tn}{c:Int→Nat}{b:Int}{h:Str}{ps:List Pl}{k:Nat}{t:Tn}(e:B[k]? =ae t):(Pl.nd k b h ps).ev B c=evT t (c b) (ps.map (Pl.ev B c)):=by
 rw[Pl.ev,if_neg (by omega),zkB,bK,bE,e];rfl
structure BkOk (ws hs:List Str) (B:List Tn):Prop where
  ti:∀t∈B,zdy t.1
  nd:(B.map λt=>t.1).Nodup
  sg:∀x∈ws,zcN x
  sb:∀x∈hs,x∈ws
  lf:∀t∈B,LeftT zcN t.2.1
  ri:∀t∈B,RightW ws t.2.1.nb t.2.2
theorem BookOk.bk{w0 w1 w2 w3 w4 w5:Str}{tt:List Str}{B:List Tn}(b:BookOk w0 w1 w2 w3 w4 w5 tt B) (T:Titles tt) (G:Signs w0 w1 w2 w3 w4 w5):BkOk [w0,w1,w2,w3,w4,w5] [w2,w3,w4,w5] B:=
 ⟨λt ht=>T.ok _ (b.mem ht),b.nodup T,G.ok,λx hx=>aH _ (aH _ hx),λt ht=>b.left (G.ok _ (by simp)) (G.ok _ (by simp)) (G.ok _ (by simp)) (G.ok _ (by simp)) ht,b.ri⟩
section
variable {ws hs:List Str}{B:List Tn}{c:Int→Nat}
theorem zxF (b:BkOk ws hs B) {p:Pl}(h:PlOk hs B p):(p.ev B c).way B=true:=by
 induction h with
 | @sign b' h ps hh hp ih=>
  rw[zcA,Tr.way,topB,zga λt ht=>(zem (b.sg h (b.sb h hh)) (b.ti t ht)).symm,zin,(zeL h).mpr (b.sg h (b.sb h hh))];simp only[fY,iZ,dg];exact λp hp=>ih p hp
 | @turn k b' h ps t e hl b0 b1 hp ih=>
  have ht:t∈B:=a_ e;have hu:∀u∈ps.map (Pl.ev B c),u.way B=true:=λu hu=>by
   obtain⟨p,hp,rfl⟩:=aZ.mp hu;exact ih p hp
  rw[zbB e];unfold evT;split
  ·exact zim b.ti hu _ (b.lf t ht).hb (by rw[aq,hl];exact(b.lf t ht).fits)
  ·rw[Tr.way,topB,zdG b.nd ht,zin];simp only[aq,hl,beq_self_eq_true,iZ,dg];exact hu
  ·exact zim b.ti hu _ ((b.ri t ht).hb b.sg) (by rw[aq,hl];exact(b.ri t ht).fits)
theorem zmc{p:Pl}:∀{ps:List Pl},p∈ps→p.wt≤pwts ps
 |q::ps,h=>by
  rcases av.mp h with rfl |h
  ·simp [pwts]
  ·have:=zmc h;simp [pwts];omega
end
mutual
noncomputable def Tr.mk (B:List Tn) (g:Tn→Tr):Tr→Tr
 | .bl n=> .bl n
 | .nd s ts=>match zaI B s with
  |none=> .nd s (mks B g ts)
  |some t=>(g t).fill (mks B g ts)
noncomputable def mks (B:List Tn) (g:Tn→Tr):List Tr→List Tr
 | []=>[]
 |t::ts=>t.mk B g::mks B g ts
end
theorem zfl (B:List Tn) (g:Tn→Tr):∀ts:List Tr,mks B g ts=ts.map (Tr.mk B g)
 | []=>by simp [mks]
 |t::ts=>by simp [mks,zfl B g ts]
theorem zib{B:List Tn}{g:Tn→Tr}{s:Str}{ts:List Tr}(h:zaI B s=none):(Tr.nd s ts).mk B g= .nd s (ts.map (Tr.mk B g)):=by
 rw[Tr.mk,h,zfl]
theorem zia{B:List Tn}{g:Tn→Tr}{s:Str}{ts:List Tr}{t:Tn}(h:zaI B s=ae t):(Tr.nd s ts).mk B g=(g t).fill (ts.map (Tr.mk B g)):=by
 rw[Tr.mk,h,zfl]
theorem zdu{B:List Tn}(hB:∀t∈B,zdy t.1) {s:Str}(h:zcN s):zaI B s=none:=zga λt ht=>(zem h (hB t ht)).symm
mutual
theorem zld{B:List Tn}{g:Tn→Tr}(hB:∀t∈B,zdy t.1):∀t:Tr,t.hd zcN→t.mk B g=t
 | .bl n,h=>by simp [Tr.hd]at h
 | .nd s ts,h=>by
  simp only[Tr.hd]at h;rw[Tr.mk,zdu hB h.1,ziY hB ts h.2]
theorem ziY{B:List Tn}{g:Tn→Tr}(hB:∀t∈B,zdy t.1):∀ts:List Tr,hds zcN ts→mks B g ts=ts
 | [],h=>by simp [mks]
 |t::ts,h=>by
  simp only[hds]at h;rw[mks,zld hB t h.1,ziY hB ts h.2]
end
mutual
theorem zhV{B:List Tn}{g:Tn→Tr}(hB:∀t∈B,zdy t.1) {us:List Tr}:∀t:Tr,t.hb zcN→t.fits us.length→(t.fill us).mk B g=t.fill (us.map (Tr.mk B g))
 | .bl n,h,f=>by
  simp only[Tr.fits]at f;simp only[Tr.fill];rw[bE,bE,aX,aU (show n.toNat<us.length by omega)]
  rfl
 | .nd s ts,h,f=>by
  simp only[Tr.hb]at h;simp only[Tr.fits]at f;simp only[Tr.fill];rw[Tr.mk,zdu hB h.1];simp only[];rw[zkX hB ts h.2 f]
theorem zkX{B:List Tn}{g:Tn→Tr}(hB:∀t∈B,zdy t.1) {us:List Tr}:∀ts:List Tr,hbs zcN ts→fitss us.length ts→mks B g (fills us ts)=fills (us.map (Tr.mk B g)) ts
 | [],h,f=>by simp [fills,mks]
 |t::ts,h,f=>by
  simp only[hbs]at h;simp only[fitss]at f;rw[fills,mks,fills,zhV hB t h.1 f.1,zkX hB ts h.2 f.2]
end
section
variable {ws hs:List Str}{B:List Tn}{c d:Int→Nat}
theorem zws (b:BkOk ws hs B) {g:Tn→Tr}(hg:∀t∈B,∀x:Int,0≤x→x<8→c x=1→ ∀us,(g t).fill us=evT t (d x) us) (h0:∀x:Int,0≤x→x<8→c x≠1→d x=c x) {p:Pl}(h:PlOk hs B p):(p.ev B c).mk B g=p.ev B d:=by
 induction h with
 | @sign b' h ps hh hp ih=>
  rw[zcA,zcA,zib (zdu b.ti (b.sg h (b.sb h hh))),bG];congr 1;exact c_ λp hp=>ih p hp
 | @turn k b' h ps t e hl b0 b1 hp ih=>
  have ht:t∈B:=a_ e;have em:(ps.map (Pl.ev B c)).map (Tr.mk B g)=ps.map (Pl.ev B d):=by
   rw[bG];exact c_ λp hp=>ih p hp
  rw[zbB e,zbB e];by_cases hc:c b'=1
  ·rw[←hg t ht b' b0 b1 hc,hc];show(Tr.nd t.1 _).mk B g=_;rw[zia (zdG b.nd ht),em]
  ·rw[h0 b' b0 b1 hc];unfold evT;split
   ·rw[zhV b.ti _ (b.lf t ht).hb (by rw[aq,hl];exact(b.lf t ht).fits),em]
   ·rename_i z;exact absurd z hc
   ·rw[zhV b.ti _ ((b.ri t ht).hb b.sg) (by rw[aq,hl];exact(b.ri t ht).fits),em]
noncomputable def zkq (c:Int→Nat):Int→Nat:=λx=>if c x=1 then 0 else c x
noncomputable def zew (c:Int→Nat):Int→Nat:=λx=>if c x=1 then 2 else c x
theorem zlI (b:BkOk ws hs B) {p:Pl}(h:PlOk hs B p):(p.ev B c).mk B (λt=>t.2.1)=p.ev B (zkq c):=
 zws b (λt ht x _ _ hx us=>by rw[zkq,if_pos hx];rfl) (λx _ _ hx=>by rw[zkq,if_neg hx]) h
theorem zpo (b:BkOk ws hs B) {p:Pl}(h:PlOk hs B p):(p.ev B c).mk B (λt=>t.2.2)=p.ev B (zew c):=
 zws b (λt ht x _ _ hx us=>by rw[zew,if_pos hx];rfl) (λx _ _ hx=>by rw[zew,if_neg hx]) h
theorem zkI{p:Pl}(h:PlOk hs B p) (hc:∀x:Int,0≤x→x<8→c x=d x):p.ev B c=p.ev B d:=by
 induction h with
 | @sign b' h ps hh hp ih=>
  rw[zcA,zcA];congr 1;exact c_ λp hp=>ih p hp
 | @turn k b' h ps t e hl b0 b1 hp ih=>
  rw[zbB e,zbB e,hc b' b0 b1];congr 1;exact c_ λp hp=>ih p hp
end
theorem zlB{n:Nat}{h c d:Str}{L:Tr}(hL:L∈leftsL n h c d) {us:List Tr}(hu:us.length=L.nb):L.mt (L.fill us)=ae us:=by
 unfold leftsL at hL;split at hL<;>simp only[av,bo,or_false]at hL
 all_goals first
  | (subst hL;rcases us with _ |⟨u,_ |⟨v,_ |⟨x,_ |⟨y,us⟩⟩⟩⟩<;>simp [Tr.nb,nbs,Tr.fill,fills,Tr.mt,mts]at hu⊢ <;>omega)
  | (rcases hL with rfl |rfl<;>rcases us with _ |⟨u,_ |⟨v,_ |⟨x,_ |⟨y,us⟩⟩⟩⟩<;>simp [Tr.nb,nbs,Tr.fill,fills,Tr.mt,mts]at hu⊢ <;>omega)
def zza (B:List Tn):Prop:=∀t∈B,∀us:List Tr,us.length=t.2.1.nb→t.2.1.mt (t.2.1.fill us)=ae us
theorem BookOk.mt{w0 w1 w2 w3 w4 w5:Str}{tt:List Str}{B:List Tn}(b:BookOk w0 w1 w2 w3 w4 w5 tt B):zza B:=λt ht us hu=>by
 obtain⟨n,m,e⟩:=b.lf;have:t.2.1∈leftsL n w0 w2 w3++leftsL m w1 w2 w3:=by rw[←e];exact aZ.mpr ⟨t,ht,rfl⟩
 rcases bb.mp this with z |z
 ·exact zlB z hu
 ·exact zlB z hu
mutual
inductive Mv (B:List Tn):Nat→Tr→Tr→Tr→Prop
 |nn {n:Nat}{s z:Str}{ts us cs:List Tr}:zaI B s=none→zaI B z=none→Mvs B n ts us cs→Mv B (n+1) (.nd s ts) (.nd z us) (.nd s cs)
 |ns {n:Nat}{s z:Str}{ts us cs ms:List Tr}{t:Tn}:zaI B s=none→zaI B z=ae t→t.2.1.mt (.nd s ts)=ae ms→cs.length=t.2.1.nb→Mvs B n ms us cs→Mv B (n+1) (.nd s ts) (.nd z us) (t.2.2.fill cs)
 |sn {n:Nat}{s z:Str}{ts us cs ms:List Tr}{t:Tn}:zaI B s=ae t→zaI B z=none→t.2.1.mt (.nd z us)=ae ms→Mvs B n ts ms cs→Mv B (n+1) (.nd s ts) (.nd z us) (.nd s cs)
 |ss {n:Nat}{s z:Str}{ts us cs:List Tr}{t t':Tn}:zaI B s=ae t'→zaI B z=ae t→cs.length=t.2.1.nb→Mvs B n ts us cs→Mv B (n+1) (.nd s ts) (.nd z us) (t.2.2.fill cs)
inductive Mvs (B:List Tn):Nat→List Tr→List Tr→List Tr→Prop
 |nil {n:Nat}:Mvs B n [] [] []
 |cons {n:Nat}{a b c:Tr}{as bs cs:List Tr}:Mv B n a b c→Mvs B n as bs cs→Mvs B n (a::as) (b::bs) (c::cs)
end
theorem zoT{P:Str→Prop}{u:Tr}(hu:u.hd P):∀{ts:List Tr}(i:Nat),hds P ts→hds P (ts.set i u)
 | [],_,h=>by simpa using h
 |t::ts,0,h=>by
  simp only[hds,fK]at h⊢;exact⟨hu,h.2⟩
 |t::ts,i+1,h=>by
  simp only[hds,gl]at h⊢;exact⟨h.1,zoT hu i h.2⟩
theorem zpd{P:Str→Prop}:∀{ts us:List Tr},hds P ts→hds P us→hds P (ts++us)
 | [],us,_,h=>h
 |t::ts,us,h,g=>by
  simp only[hds,cG]at h⊢;exact⟨h.1,zpd h.2 g⟩
mutual
inductive PlAt (S:Sto):Pl→W→Prop
 |nd {k b:Int}{h:Str}{ps:List Pl}{a:Addr}{vs:List W}:S a=ae (.lst vs)→PlsAt S ps vs→PlAt S (.nd k b h ps) (.tup [.int k, .int b, .str h, .ref a])
inductive PlsAt (S:Sto):List Pl→List W→Prop
 |nil:PlsAt S [] []
 |cons {p:Pl}{v:W}{ps:List Pl}{vs:List W}:PlAt S p v→PlsAt S ps vs→PlsAt S (p::ps) (v::vs)
end
mutual
theorem PlAt.sub{S S':Sto}(h:Sub S S'):∀{p:Pl}{v:W},PlAt S p v→PlAt S' p v
 |_,_, .nd e q=> .nd (h _ _ e) (PlsAt.sub h q)
theorem PlsAt.sub{S S':Sto}(h:Sub S S'):∀{ps:List Pl}{vs:List W},PlsAt S ps vs→PlsAt S' ps vs
 |_,_, .nil=> .nil
 |_,_, .cons a b=> .cons (PlAt.sub h a) (PlsAt.sub h b)
end
section
variable {S:Sto}
theorem PlsAt.len:∀{ps:List Pl}{vs:List W},PlsAt S ps vs→ps.length=vs.length
 |_,_, .nil=>rfl
 |_,_, .cons _ h=>congrArg (· +1) (PlsAt.len h)
theorem PlsAt.app:∀{ps qs:List Pl}{vs us:List W},PlsAt S ps vs→PlsAt S qs us→PlsAt S (ps++qs) (vs++us)
 |_,_,_,_, .nil,h=>h
 |_,_,_,_, .cons a b,h=> .cons a (PlsAt.app b h)
theorem PlsAt.take:∀(n:Nat) {ps:List Pl}{vs:List W},PlsAt S ps vs→PlsAt S (ps.take n) (vs.take n)
 |0,_,_,_=> .nil
 |_+1,_,_, .nil=> .nil
 |n+1,_,_, .cons a b=> .cons a (PlsAt.take n b)
theorem PlsAt.drop:∀(n:Nat) {ps:List Pl}{vs:List W},PlsAt S ps vs→PlsAt S (ps.drop n) (vs.drop n)
 |0,_,_,h=>h
 |_+1,_,_, .nil=> .nil
 |n+1,_,_, .cons _ b=>PlsAt.drop n b
theorem PlsAt.rep{p:Pl}{v:W}(h:PlAt S p v):∀n:Nat,PlsAt S (aJ n p) (aJ n [v]).flatten
 |0=> .nil
 |n+1=>by
  rw[cf,cf,dE];exact .cons h (PlsAt.rep h n)
end
noncomputable def pad (w:Str):Pl:= .nd (-1) 0 w []
noncomputable def zbk (need:Nat) (w:Str) (ps:List Pl):List Pl:=aJ (need - ps.length) (pad w)++ps
noncomputable def push (need:Nat) (w:Str) (k b:Int) (h:Str) (ps:List Pl):List Pl:=
 (zbk need w ps).take ((zbk need w ps).length - need)++[.nd k b h ((zbk need w ps).drop ((zbk need w ps).length - need))]
theorem zlN (w:Str):∀n:Nat,pwts (aJ n (pad w))=n
 |0=>by simp [pwts]
 |n+1=>by rw[cf,pwts,zlN w n];simp [pad,Pl.wt,pwts];omega
theorem zkS (w:Str):∀n:Nat,pnts (aJ n (pad w))=0
 |0=>by simp [pnts]
 |n+1=>by rw[cf,pnts,zkS w n];simp [pad,Pl.nt,pnts]
theorem zfL:∀ps:List Pl,ps.length≤pwts ps
 | []=>by simp
 |p::ps=>by have:=zfL ps;have:=zuK p;simp [pwts];omega
theorem zds (need:Nat) (w:Str) (ps:List Pl):(zbk need w ps).length=need - ps.length+ps.length:=by simp [zbk]
theorem znB{need:Nat}{w:Str}{k b:Int}{h:Str}{ps:List Pl}:pwts (push need w k b h ps)=need - ps.length+pwts ps+1∧pnts (push need w k b h ps)=pnts ps+(if k<0 then 0 else 1)∧(push need w k b h ps).length=need - ps.length+ps.length - need+1:=by
 have hl:=zds need w ps;have h1:pwts (zbk need w ps)=need - ps.length+pwts ps:=by rw[zbk,zcg,zlN]
 have h2:pnts (zbk need w ps)=pnts ps:=by rw[zbk,zbM,zkS];omega
 have h3:=zcg ((zbk need w ps).take ((zbk need w ps).length - need)) ((zbk need w ps).drop ((zbk need w ps).length - need));have h4:=zbM ((zbk need w ps).take ((zbk need w ps).length - need)) ((zbk need w ps).drop ((zbk need w ps).length - need));rw[gn]at h3 h4;unfold push;refine⟨?_,?_,?_⟩
 ·rw[zcg,pwts,pwts,Pl.wt];omega
 ·rw[zbM,pnts,pnts,Pl.nt];omega
 ·rw[ba,b9,fA,hl];omega
theorem zmR{need:Nat}{w:Str}(ps:List Pl):((zbk need w ps).drop ((zbk need w ps).length - need)).length=need:=by
 have hl:=zds need w ps;rw[ck,hl];omega
theorem ziJ{ws:List Str}{B:List Tn}{need:Nat}{w:Str}{ps:List Pl}(hw:w∈ws) (h:∀p∈ps,PlOk ws B p):∀p∈zbk need w ps,PlOk ws B p:=λp hp=>by
 rcases bb.mp hp with z |z
 ·rw[(List.mem_replicate.mp z).2];exact .sign hw λq hq=>by cases hq
 ·exact h p z
theorem ztU{ws:List Str}{B:List Tn}{need:Nat}{w:Str}{k b:Int}{h:Str}{ps:List Pl}(hw:w∈ws) (hp:∀p∈ps,PlOk ws B p) (hn:∀qs:List Pl,qs.length=need→(∀q∈qs,PlOk ws B q)→PlOk ws B (.nd k b h qs)):∀p∈push need w k b h ps,PlOk ws B p:=λp hq=>by
 rcases bb.mp hq with z |z
 ·exact ziJ hw hp p (gD z)
 ·rw[bn.mp z];exact hn _ (zmR ps) λq hq=>ziJ hw hp q (gU hq)
noncomputable def zqO:WS:=(zca (zuN (wTb (wOp oGt (zaf 3) (wC (.int 0)))) (wTb (wOp oLt (zaf 5) (wC (.int 5))))) (zaw (wAsg (wOp (zep λi j=> .int (i - j)) (zaf 3) (wC (.int 1))) (wGN 3))
  (zaw (wAsg (zby (zrJ (zrz (zbR (zab (zaS (zab (zmH (wC (.int 1))) (zab (wC (.int 0)) (zab (wOp oIx (zaf 2) (wC (.int 2))) (zab (zby (zbR waNil)) waNil))))) waNil)) (wOp (zep λi j=> .int (i - j)) (zaf 8) (wB zdW (zab (zaf 4) waNil)))) (zaf 4))) (wGN 4))
  (zaw (wAsg (wOp (zep λi j=> .int (i - j)) (wB zdW (zab (zaf 4) waNil)) (zaf 8)) (wGN 11))
  (wAsg (zby (zjj (zss (zaf 4) woN (woS (zaf 11))) (zbR (zab (wOp zdl (zaf 9) (zaS (zab (wSl (zaf 4) (woS (zaf 11)) woN) waNil))) waNil)))) (wGN 4))))) zaP)
theorem zoz{r:Nat}:zeV r zba=(zaw (wAsg (wOp (zdP (λ_ j=>0<j) λi j=> .int (i % j)) (zaf 6) (wC (.int 8))) (wGN 7))
  (zaw (wAsg (zuy (zbR (zab (wC (.int 0)) (zab (wC (.int 0)) (zab (wC (.int 1)) (zab (wC (.int 2)) waNil))))) (wB ziT (zab (zaf 7) (zab (wC (.int 3)) waNil)))) (wGN 8))
  (zaw (wAsg (zaS (zab (zmH (wC (.int 1))) (zab (wC (.int 0)) (zab (wOp oIx (zaf 2) (zuy (zbR (zab (wC (.int 2)) (zab (wC (.int 5)) (zab (wC (.int 3)) (zab (wC (.int 4)) waNil))))) (wB ziT (zab (zaf 7) (zab (wC (.int 3)) waNil))))) waNil)))) (wGN 9))
  (zaw (zca (wTb (wOp oGt (zaf 7) (wC (.int 3)))) (zaw (wAsg (wOp (zdP (λ_ j=>0<j) λi j=> .int (i % j)) (wOp (zdP zmp λi j=> .int (i / j)) (zaf 6) (wC (.int 8))) (wB zdW (zab (zaf 1) waNil))) (wGN 10))
  (zaw (wAsg (zar (zaF r) (zab (wOp oIx (wOp oIx (zaf 1) (zaf 10)) (wC (.int 1))) waNil)) (wGN 8))
  (zaw (wAsg (zaS (zab (zaf 10) (zab (wOp (zdP (λ_ j=>0<j) λi j=> .int (i % j)) (wOp (zdP zmp λi j=> .int (i / j)) (zaf 6) (wC (.int 64))) (wC (.int 8))) (zab (wC (.str "")) waNil)))) (wGN 9))
  (wAsg (wOp zdl (zaf 5) (wC (.int 1))) (wGN 5))))) zaP)
  zqO)))):=rfl
section
variable {w0 w1 w2 w3 w4 w5:Str}{S:Sto}{aw st:Addr}{E:WX}{D:WEnds}
theorem zoC{need:Nat}{k b room spent:Int}{h:Str}{ps:List Pl}{vs:List W}{x0 x1 x6 x7 x10 x11:Option W}(hw:S aw=ae (.lst (six w0 w1 w2 w3 w4 w5))) (hst:S st=ae (.lst vs)) (hp:PlsAt S ps vs) (hn:need≤3) (hl:ps.length≤100)
  (h1:D.nx [x0,x1,ae (.ref aw),ae (.int room),ae (.ref st),ae (.int spent),x6,x7,ae (.int need),ae (.tup [.int k, .int b, .str h]),x10,x11] S)
  (h2:0<room→spent<5→ ∀(st':Addr) (S':Sto) (vs':List W) (x11:Option W),Sub S S'→S' st'=ae (.lst vs')→PlsAt S' (push need w2 k b h ps) vs'→D.nx [x0,x1,ae (.ref aw),ae (.int (room - 1)),ae (.ref st'),ae (.int spent),x6,x7,ae (.int need),ae (.tup [.int k, .int b, .str h]),x10,x11] S') :
  zqO E D [x0,x1,ae (.ref aw),ae (.int room),ae (.ref st),ae (.int spent),x6,x7,ae (.int need),ae (.tup [.int k, .int b, .str h]),x10,x11] S:=by
 unfold zqO;walk_at "wp";split
 ·rename_i c1;split
  ·rename_i c2;simp only[zaj hw,six2];have f1:=λ(a:Addr) (ha:S a=none)=>keep (x:=Ob.lst []) hst ha;refine⟨aS _,λa ha=>⟨zah (by decide),zah (by decide),?_⟩⟩;rw[zaj (f1 a ha),zaj (f1 a ha)];have hlen:=hp.len;have en:((need:Int) - (vs.length:Int)).toNat=need - ps.length:=by omega
   rw[en];have pa:PlAt (put S a (Ob.lst [])) (pad w2) (.tup [.int (-1), .int 0, .str w2, .ref a]):= .nd zag .nil;have pp:PlsAt (put S a (Ob.lst [])) (zbk need w2 ps) ((aJ (need - ps.length) [W.tup [.int (-1), .int 0, .str w2, .ref a]]).flatten++vs):=(PlsAt.rep pa _).app (hp.sub (.put .refl ha));have pl:=pp.len;have sub1:Sub S (put S a (Ob.lst [])):= .put .refl ha;have hfl:((aJ (need - ps.length) [W.tup [.int (-1), .int 0, .str w2, .ref a]]).flatten).length≤3:=by
    rw[ba,zds]at pl;omega
   have e0:(1*(need - ps.length))≤sizeLine:=zah (by omega);refine⟨⟨by omega,by omega,e0⟩,zah (by omega),?_⟩
   generalize (aJ (need - ps.length) [W.tup [.int (-1), .int 0, .str w2, .ref a]]).flatten++vs=ys at pp pl⊢;generalize put S a (Ob.lst [])=S1 at pp sub1⊢;intro b2 hb2;have sub2:Sub S1 (put S1 b2 (.lst ys)):= .put .refl hb2;generalize put S1 b2 (Ob.lst ys)=S2 at sub2⊢;have hpl:=zds need w2 ps;have ea:((ys.length:Nat):Int) - (need:Int)=((ys.length - need:Nat):Int):=by omega
   rw[ea,zfP,zfF];intro p hp3;have sub3:Sub S2 (put S2 p (.lst (ys.drop (ys.length - need)))):= .put .refl hp3;have fp:put S2 p (Ob.lst (ys.drop (ys.length - need))) p=ae (.lst (ys.drop (ys.length - need))):=zag;generalize put S2 p (Ob.lst (ys.drop (ys.length - need)))=S3 at sub3 fp⊢;refine⟨zah (by decide),zah (by decide),zah (by decide),zah (by rw[b9];omega),λq hq=>?_⟩;have sub4:Sub S3 (put S3 q (.lst (ys.take (ys.length - need)++[.tup [.int k, .int b, .str h, .ref p]]))):= .put .refl hq;refine h2 c1 c2 q _ _ _ (((sub1.trans sub2).trans sub3).trans sub4) zag ?_;unfold push;have pp3:=pp.sub ((sub2.trans sub3).trans sub4);rw[←pl]at *;exact(pp3.take _).app (.cons (.nd (sub4 _ _ fp) (pp3.drop _)) .nil)
  ·exact h1
 ·exact h1
theorem ztQ (n:Int) (h0:0≤n) (h1:n<8):∃m:Nat,m≤2∧atI [W.int 0,W.int 0,W.int 1,W.int 2] (if 3<n then 3 else n)=ae (.int (m:Int)):=by
 rcases(show n=0∨n=1∨n=2∨(3≤n) by omega) with rfl |rfl |rfl |h
 ·exact⟨0,by decide,rfl⟩
 ·exact⟨0,by decide,rfl⟩
 ·exact⟨1,by decide,rfl⟩
 ·have:(if 3<n then 3 else n)=3:=by split<;>omega
  rw[this];exact⟨2,by decide,rfl⟩
theorem ztX (n:Int) (h0:0≤n) (h1:n<8):∃(i:Int) (x:Str),x∈ [w2,w3,w4,w5]∧atI [W.int 2,W.int 5,W.int 3,W.int 4] (if 3<n then 3 else n)=ae (.int i)∧atI (six w0 w1 w2 w3 w4 w5) i=ae (.str x):=by
 rcases(show n=0∨n=1∨n=2∨(3≤n) by omega) with rfl |rfl |rfl |h
 ·exact⟨2,w2,by simp,rfl,rfl⟩
 ·exact⟨5,w5,by simp,rfl,rfl⟩
 ·exact⟨3,w3,by simp,rfl,rfl⟩
 ·have:(if 3<n then 3 else n)=3:=by split<;>omega
  rw[this];exact⟨4,w4,by simp,rfl,rfl⟩
end
section
variable {r:Nat}{S:Sto}{Q:WK}{E:Str→Sto→Prop}{a:Addr}{B:List Tn}
noncomputable def zrt:Option Tn→W
 |some t=>zbh t
 |none=> .non
theorem zjS (B:List Tn) (s:Str):B.findSome? (λt=>if t.1 == s then ae (zbh t) else none)=(zaI B s).map zbh:=by
 unfold zaI
 induction B with
 |nil=>rfl
 |cons t B ih=>
  rw[er,bS];cases e:t.1 == s with
  |true=>rfl
  |false=>simpa using ih
theorem ziX{s:Str}(ha:S a=ae (.lst (B.map zbh))) (h:Q (zrt (zaI B s)) S):zbQ (r+1) [.ref a, .str s] S Q E:=by
 rw[zbQ];walk_at "wp";rw[zaj ha];refine zel (S:=S) ?_ (λσ=>∃x,σ=[ae (.ref a),ae (.str s),x]) zbh (λt=>if t.1 == s then ae (zbh t) else none) B _ ⟨_,rfl⟩ (λt ht σ N hI hno hret=>?_) (λe σ hI=>?_) λw e S' sb=>?_
 ·exact ha
 ·obtain⟨x,rfl⟩:=hI;simp only[zey];have ee:zbh t= .tup [.str t.1,enc t.2.1,enc t.2.2]:=rfl;rw[ee];walk_at "wp";cases e:t.1 == s with
  |true=>
   rw[e]at hret;exact hret _ rfl _ .refl
  |false=>
   rw[e]at hno;exact hno rfl _ _ ⟨_,rfl⟩ .refl
 ·obtain⟨x,rfl⟩:=hI;walk_at "wp";rw[zjS]at e;have:zaI B s=none:=by
   cases q:zaI B s with
   |none=>rfl
   |some t=>rw[q]at e;cases e
  rw[this]at h;exact⟨_, .refl,h⟩
 ·rw[zjS]at e;cases q:zaI B s with
  |none=>rw[q]at e;cases e
  |some t=>
   rw[q]at e h;cases e;exact⟨_,sb,h⟩
end
noncomputable def byC (f:Int):Int→Nat:=λb=>if b / f % 2=1 then 1 else 0
theorem PlsAt.zip{S:Sto}:∀{ps:List Pl}{vs:List W},PlsAt S ps vs→ ∀x∈ps.zip vs,PlAt S x.1 x.2∧x.1∈ps
 |_,_, .nil,x,h=>by simp at h
 |_,_, .cons a b,x,h=>by
  rw[kh]at h;rcases av.mp h with rfl |h
  ·exact⟨a,aN⟩
  ·have:=PlsAt.zip b x h;exact⟨this.1,aH _ this.2⟩
theorem PlsAt.snd{S:Sto}{ps:List Pl}{vs:List W}(h:PlsAt S ps vs):(ps.zip vs).map iB=vs:=List.map_snd_zip (by rw[h.len];exact aB _)
theorem PlsAt.fst{S:Sto}{ps:List Pl}{vs:List W}(h:PlsAt S ps vs) {α:Type}(f:Pl→α):(ps.zip vs).map (λx=>f x.1)=ps.map f:=by
 have:(ps.zip vs).map Prod.fst=ps:=List.map_fst_zip (by rw[h.len];exact aB _)
 conv=>rhs;rw[←this,bG]
 rfl
section
variable {S:Sto}{a:Addr}{ws hs:List Str}{B:List Tn}
theorem zso{f:Int}(hf:f=1∨f=2∨f=4∨f=8) (ha:S a=ae (.lst (B.map zbh))) (b:BkOk ws hs B):∀(d:Nat) {p:Pl}{v:W}{r:Nat}{Q:WK}{E:Str→Sto→Prop},p.dp≤d→d+8≤r→PlAt S p v→PlOk hs B p→p.wt≤1000→Q (enc (p.ev B (byC f))) S→zcI (r+1) [v, .ref a, .int f] S Q E
 |0,p,v,r,Q,E,hd,hr,hp,ok,hw,h=>by have:=zud p;omega
 |d+1, .nd k b' hh ps,v,r,Q,E,hd,hr,hp,ok,hw,h=>by
  cases hp with
  | @nd _ _ _ _ c vs hc hps=>
  simp only[Pl.dp]at hd;simp only[Pl.wt]at hw;have hlen:=zfL ps;obtain⟨r,rfl⟩:∃r',r=r'+1:=⟨r - 1,by omega⟩
  rw[zcI];walk_at "wp";rw[zaj hc];rw[←hps.snd];have okp:∀x∈ps,PlOk hs B x:=by
   cases ok with
   |sign _ h=>exact h
   |turn _ _ _ _ h=>exact h
  refine zbb (λσ=>∃x,σ=[x,ae (.ref a),ae (.int f)]) iB (λx=>enc (x.1.ev B (byC f))) ?_ (ps.zip vs) [] _ ⟨none,rfl⟩ (by simp;omega) (λx hx σ R hI hR=>?_) ?_
  ·rw[hps.snd];exact hc
  ·obtain⟨y,rfl⟩:=hI;obtain⟨h1,h2⟩:=hps.zip x hx;have:=zlQ h2;have:=zmc h2;simp only[zfx];walk_at "wp";exact zso hf ha b d (by omega) (by omega) h1 (okp _ h2) (by omega) (hR _ _ ⟨_,rfl⟩ .refl)
  ·rw[aR,hps.fst λp=>enc (p.ev B (byC f))];intro q hq;have eu:(ps.map λp=>enc (p.ev B (byC f)))=encs (ps.map (Pl.ev B (byC f))):=by rw[zaD,bG];rfl
   rw[eu];have fq:put S q (Ob.lst (encs (ps.map (Pl.ev B (byC f))))) q=ae (.lst (encs (ps.map (Pl.ev B (byC f))))):=zag;have fa:=keep (x:=Ob.lst (encs (ps.map (Pl.ev B (byC f))))) ha hq;have sub:Sub S (put S q (Ob.lst (encs (ps.map (Pl.ev B (byC f)))))):= .put .refl hq;generalize put S q (Ob.lst (encs (ps.map (Pl.ev B (byC f)))))=S1 at fq fa sub⊢
   try walk_at "wp"
   cases ok with
   |sign hs' _=>
    rw[if_pos (by decide)]
    try rw[zaj fq]
    rw[zcA]at h;rw[zaM,aq];simp only[enc]at h;exact⟨zah (by decide),zah (by omega),_,sub,h⟩
   | @turn k _ _ _ t e hl b0 b1 _=>
    have ek:atI (B.map zbh) (k:Int)=ae (.tup [.str t.1,enc t.2.1,enc t.2.2]):=by
     rw[zaU,aX,e];rfl
    have hdiv:zmp b' f:=by rcases hf with rfl |rfl |rfl |rfl<;>exact⟨by decide,by decide⟩
    have ht:t∈B:=a_ e;rw[zbB e]at h;rw[if_neg (by omega)];refine⟨hdiv,by decide,?_⟩
    simp only[zaj fa,ek];by_cases e1:b' / f % 2=1
    ·rw[e1];have:byC f b'=1:=by unfold byC;rw[if_pos e1]
     rw[this]at h;simp only[evT,enc]at h
     try walk_at "wp"
     try rw[zaj fq]
     rw[zaM,aq];exact⟨zah (by decide),zah (by omega),_,sub,h⟩
    ·have e2:(b' / f % 2 == 1)=false:=by simpa using e1
     rw[e2];have:byC f b'=0:=by unfold byC;rw[if_neg e1]
     rw[this]at h;simp only[evT]at h;walk_at "wp";rw[show atI [W.str t.1,enc t.2.1,enc t.2.2] 1=ae (enc t.2.1) from rfl];dsimp only;have hLd:=(b.lf t ht).dp;have hLw:=(b.lf t ht).wt;have hLn:=(b.lf t ht).nb;exact zeg 4 hLd (by omega) fq (by rw[aq,hl];exact(b.lf t ht).fits) (by omega) ⟨_,sub,h⟩
end
noncomputable def zaQ (n:Int) (t:Tn):Tr:=if n=1 then t.2.1 else t.2.2
structure Sides (g:Tn→Tr) (B:List Tn):Prop where
  fits:∀t∈B,(g t).fits t.2.1.nb
  dp:∀t∈B,(g t).depth≤4
  wt:∀t∈B,(g t).weight≤10
mutual
noncomputable def Tr.ar (B:List Tn):Tr→Prop
 | .bl _=>False
 | .nd s ts=>(∀t,zaI B s=ae t→ts.length=t.2.1.nb)∧ars B ts
noncomputable def ars (B:List Tn):List Tr→Prop
 | []=>True
 |t::ts=>t.ar B∧ars B ts
end
theorem ars_iff{B:List Tn}:∀{ts:List Tr},ars B ts↔ ∀t∈ts,t.ar B
 | []=>by simp [ars]
 |t::ts=>by simp [ars,ars_iff (ts:=ts)]
mutual
theorem zxi{B:List Tn}:∀t:Tr,t.way B=true→t.ar B
 | .bl n,h=>by simp [Tr.way]at h
 | .nd s ts,h=>by
  simp only[Tr.way,ce]at h;simp only[Tr.ar];refine⟨λt ht=>?_,zsB ts h.2⟩;have:=h.1;rw[topB,ht]at this;simpa using this
theorem zsB{B:List Tn}:∀ts:List Tr,zmX B ts=true→ars B ts
 | [],h=>by simp [ars]
 |t::ts,h=>by
  simp only[zmX,ce]at h;simp only[ars];exact⟨zxi t h.1,zsB ts h.2⟩
end
section
variable {n:Int}
theorem znZ (t:Tn) (h:n=1∨n=2):atI [W.str t.1,enc t.2.1,enc t.2.2] n=ae (enc (zaQ n t)):=by
 rcases h with rfl |rfl<;>rfl
theorem zlP{t:Tr}(h1:t.weight≤400) (h2:t.depth≤40):t.small=true:=by
 unfold Tr.small;rw[decide_eq_true h1,decide_eq_true h2];rfl
end
mutual
theorem zqQ{P:Str→Prop}:∀(l t:Tr) (ys:List Tr),l.mt t=ae ys→t.hd P→hds P ys∧wts ys≤t.weight
 | .bl _,t,ys,h,q=>by
  simp only[Tr.mt,bq]at h;subst h;simp only[hds,wts];exact⟨⟨q,trivial⟩,by omega⟩
 | .nd s ls, .nd z us,ys,h,q=>by
  simp only[Tr.mt]at h;simp only[Tr.hd]at q;split at h
  ·have:=zsa ls us ys h q.2;simp only[Tr.weight];exact⟨this.1,by omega⟩
  ·cases h
 | .nd _ _, .bl _,ys,h,q=>by simp [Tr.mt]at h
theorem zsa{P:Str→Prop}:∀(ls us ys:List Tr),mts ls us=ae ys→hds P us→hds P ys∧wts ys≤wts us
 | [],us,ys,h,q=>by simp only[mts,bq]at h;subst h;simp [hds,wts]
 |l::ls,[],ys,h,q=>by simp only[mts,bq]at h;subst h;simp [hds,wts]
 |l::ls,u::us,ys,h,q=>by
  simp only[mts]at h;simp only[hds]at q;split at h
  ·cases h
  ·rename_i xs ex;split at h
   ·cases h
   ·rename_i zs ez;simp only[bq]at h;subst h;have h1:=zqQ l u xs ex q.1;have h2:=zsa ls us zs ez q.2;rw[zeh,wts];exact⟨zpd h1.1 h2.1,by omega⟩
end
mutual
theorem zeG{P:Str→Prop}{m:Nat}:∀t:Tr,t.hd P→t.fits m
 | .bl n,h=>by simp [Tr.hd]at h
 | .nd s ts,h=>by
  simp only[Tr.hd]at h;simp only[Tr.fits];exact zma ts h.2
theorem zma{P:Str→Prop}{m:Nat}:∀ts:List Tr,hds P ts→fitss m ts
 | [],h=>by simp [fitss]
 |t::ts,h=>by
  simp only[hds]at h;simp only[fitss];exact⟨zeG t h.1,zma ts h.2⟩
end
section
variable {B:List Tn}
theorem Mv.nd{n:Nat}{x y z:Tr}:Mv B n x y z→ ∃s ts z' us,x= .nd s ts∧y= .nd z' us
 | .nn _ _ _=>⟨_,_,_,_,rfl,rfl⟩
 | .ns _ _ _ _ _=>⟨_,_,_,_,rfl,rfl⟩
 | .sn _ _ _ _=>⟨_,_,_,_,rfl,rfl⟩
 | .ss _ _ _ _=>⟨_,_,_,_,rfl,rfl⟩
end
theorem zxt:zaQ 1=λt=>t.2.1:=by funext t;exact if_pos rfl
theorem zuC:zaQ 2=λt=>t.2.2:=by funext t;exact if_neg (by decide)
section
variable {ws hs:List Str}{B:List Tn}
theorem BkOk.s1 (b:BkOk ws hs B):Sides (zaQ 1) B:=by
 rw[zxt];refine⟨λt ht=>(b.lf t ht).fits,λt ht=>(b.lf t ht).dp,λt ht=>?_⟩;have h1:=(b.lf t ht).wt;have h2:=(b.lf t ht).nb;show t.2.1.weight≤10;omega
theorem BkOk.s2 (b:BkOk ws hs B):Sides (zaQ 2) B:=by
 rw[zuC];refine⟨λt ht=>(b.ri t ht).fits,λt ht=>?_,λt ht=>?_⟩
 ·have:=(b.ri t ht).dp;show t.2.2.depth≤4;omega
 ·have:=(b.ri t ht).wt;show t.2.2.weight≤10;omega
mutual
theorem zyg:∀(L t:Tr) (ys:List Tr),L.mt t=ae ys→ ∀y∈ys,y.depth≤t.depth
 | .bl n,t,ys,e,y,hy=>by
  rw[Tr.mt]at e;cases e;rw[bn]at hy;rw[hy];exact aB _
 | .nd s ls, .bl n,ys,e,y,hy=>by rw[Tr.mt]at e;cases e
 | .nd s ls, .nd z us,ys,e,y,hy=>by
  rw[Tr.mt]at e;split at e
  ·have:=zoM ls us ys e y hy;rw[Tr.depth];omega
  ·cases e
theorem zoM:∀(ls us ys:List Tr),mts ls us=ae ys→ ∀y∈ys,y.depth≤dts us
 | [],us,ys,e,y,hy=>by rw[mts]at e;cases e;cases hy
 |l::ls,[],ys,e,y,hy=>by rw[mts]at e;cases e;cases hy
 |l::ls,u::us,ys,e,y,hy=>by
  rw[mts]at e;cases q1:l.mt u with
  |none=>rw[q1]at e;cases e
  |some xs=>
   rw[q1]at e;cases q2:mts ls us with
   |none=>rw[q2]at e;cases e
   |some zs=>
    rw[q2]at e;cases e;rw[dts];rcases bb.mp hy with hy |hy
    ·have:=zyg l u xs q1 y hy;omega
    ·have:=zoM ls us zs q2 y hy;omega
end
structure Pk (ws hs:List Str) (B:List Tn) (p:Pl):Prop where
  b:BkOk ws hs B
  m:zza B
  o:PlOk hs B p
  dp:∀{c:Int→Nat},(p.ev B c).depth≤40
  wt:∀{c:Int→Nat},(p.ev B c).weight≤400
end
theorem zvL (f x:Int):byC f x≤1:=by unfold byC;split<;>omega
section
variable {S:Sto}{a:Addr}{B:List Tn}{n:Int}
theorem ziQ (B:List Tn) (s:Str) (g:Tn→W):B.findSome? (λt=>if t.1 == s then ae (g t) else none)=(zaI B s).map g:=by
 unfold zaI
 induction B with
 |nil=>rfl
 |cons t B ih=>
  rw[er,bS];cases e:t.1 == s with
  |true=>rfl
  |false=>simpa using ih
theorem zkp (hnd:(B.map λt=>t.1).Nodup) (ha:S a=ae (.lst (B.map zbh))) (hn:n=1∨n=2) (hg:Sides (zaQ n) B):∀(d:Nat) {t:Tr}{r:Nat}{Q:WK}{E:Str→Sto→Prop},t.depth≤d→d+10≤r→t.ar B→t.weight≤1000→Q (enc (t.mk B (zaQ n))) S→zbN (r+1) [.ref a,enc t, .int n] S Q E
 |0,t,r,Q,E,hd,hr,hh,hw,h=>by have:=zaH t;omega
 |d+1, .bl k,r,Q,E,hd,hr,hh,hw,h=>by simp [Tr.ar]at hh
 |d+1, .nd s ts,r,Q,E,hd,hr,hh,hw,h=>by
  simp only[Tr.depth]at hd;simp only[Tr.weight]at hw;simp only[Tr.ar]at hh;have hk:=zbJ ts;obtain⟨r,rfl⟩:∃r',r=r'+1:=⟨r - 1,by omega⟩
  rw[zbN];simp only[enc];walk_at "wp";rw[zaD];refine zbb (λσ=>∃x,σ=[x,ae (.ref a),ae (.int n)]) enc (λt=>enc (t.mk B (zaQ n))) trivial ts [] _ ⟨none,rfl⟩ (by simp;omega) (λx hx σ R hI hR=>?_) ?_
  ·obtain⟨y,rfl⟩:=hI;have hdx:=zbd hx;have hwx:=zbA hx;simp only[zeS];walk_at "wp";exact zkp hnd ha hn hg d (by omega) (by omega) (ars_iff.mp hh.2 x hx) (by omega) (hR _ _ ⟨_,rfl⟩ .refl)
  ·rw[aR];intro q hq;have eu:(ts.map λt=>enc (t.mk B (zaQ n)))=encs (ts.map (Tr.mk B (zaQ n))):=by rw[zaD,bG];rfl
   rw[eu,←zaD];have fq:put S q (Ob.lst (encs (ts.map (Tr.mk B (zaQ n))))) q=ae (.lst (encs (ts.map (Tr.mk B (zaQ n))))):=zag;have fa:=keep (x:=Ob.lst (encs (ts.map (Tr.mk B (zaQ n))))) ha hq;have sub:Sub S (put S q (Ob.lst (encs (ts.map (Tr.mk B (zaQ n)))))):= .put .refl hq;generalize put S q (Ob.lst (encs (ts.map (Tr.mk B (zaQ n)))))=S1 at fq fa sub⊢
   try walk_at "wp"
   rw[zaj fa];refine zel (S:=S1) ?_ (λσ=>∃x,σ=[ae (.ref a),ae (.tup (.str s::encs ts)),ae (.int n),ae (.ref q),x]) zbh (λt=>if t.1 == s then ae (enc ((zaQ n t).fill (ts.map (Tr.mk B (zaQ n))))) else none) B _ ⟨_,rfl⟩ (λt ht σ N hI hno hret=>?_) (λe σ hI=>?_) λw e S' sb=>?_
   ·exact fa
   ·obtain⟨x,rfl⟩:=hI;simp only[zfe];have ee:zbh t= .tup [.str t.1,enc t.2.1,enc t.2.2]:=rfl;rw[ee];walk_at "wp";cases e:t.1 == s with
    |true=>
     rw[e]at hret
     try walk_at "wp"
     rw[znZ t hn];dsimp only;have et:t.1=s:=by simpa using e
     have hgw:=hg.wt t ht;refine zeg 4 (hg.dp t ht) (by omega) fq ?_ (by omega) (hret _ rfl _ .refl);rw[aq,hh.1 t (by rw[←et];exact zdG hnd ht)];exact hg.fits t ht
    |false=>
     rw[e]at hno;exact hno rfl _ _ ⟨_,rfl⟩ .refl
   ·obtain⟨x,rfl⟩:=hI;rw[ziQ]at e;have e0:zaI B s=none:=by
     cases z:zaI B s with
     |none=>rfl
     |some t=>rw[z]at e;cases e
    rw[zib e0]at h
    try walk_at "wp"
    rw[zlq]
    try rw[zaj fq]
    try walk_at "wp"
    simp only[enc]at h;refine⟨zah ?_,_,sub,h⟩;rw[zaM,aq];omega
   ·rw[ziQ]at e;cases z:zaI B s with
    |none=>rw[z]at e;cases e
    |some t=>
     rw[z]at e;rw[zia z]at h;cases e;exact⟨_,sub.trans sb,h⟩
end
noncomputable def pps (B:List Tn) (s:Str) (n:Nat):List (List Int):=match zaI B s with
 |none=>(aO n).map λ(i:Nat)=>[(i:Int)]
 |some t=>t.2.1.bls.map λx=>x.1
mutual
noncomputable def Tr.us (B:List Tn) (p:List Int):Tr→List (List Int×Str)
 | .bl _=>[]
 | .nd s ts=>(match zaI B s with
  |none=>[]
  |some _=>[(p,s)])++usz B p (pps B s ts.length) ts
noncomputable def usz (B:List Tn) (p:List Int):List (List Int)→List Tr→List (List Int×Str)
 |q::qs,t::ts=>t.us B (p++q)++usz B p qs ts
 |_,_=>[]
end
noncomputable def ppl (B:List Tn) (k:Int) (n:Nat):List (List Int):=if k<0 then(aO n).map λ(i:Nat)=>[(i:Int)] else(B.getD k.toNat (⟨#[]⟩, .bl 0, .bl 0)).2.1.bls.map λx=>x.1
mutual
noncomputable def Pl.ns (B:List Tn) (p:List Int):Pl→List (List Int×Int×Str)
 | .nd k b h ps=>(if k<0 then [] else [(p,b,(B.getD k.toNat (⟨#[]⟩, .bl 0, .bl 0)).1)])++nsz B p (ppl B k ps.length) ps
noncomputable def nsz (B:List Tn) (p:List Int):List (List Int)→List Pl→List (List Int×Int×Str)
 |q::qs,t::ts=>t.ns B (p++q)++nsz B p qs ts
 |_,_=>[]
end
noncomputable def zzx (c:Int→Nat) (xs:List (List Int×Int×Str)):List (List Int×Str):=(xs.filter λx=>c x.2.1 == 1).map λx=>(x.1,x.2.2)
noncomputable def zdj (B:List Tn) (t:Tr):Option Tn:=B.find? λu=>(u.2.1.mt t).isSome
mutual
noncomputable def Tr.op (B:List Tn) (p:List Int):Tr→List (List Int×Str)
 | .bl _=>[]
 | .nd s ts=>(match zdj B (.nd s ts) with
  |none=>[]
  |some t=>[(p,t.1)])++ops B p 0 ts
noncomputable def ops (B:List Tn) (p:List Int) (i:Nat):List Tr→List (List Int×Str)
 | []=>[]
 |t::ts=>t.op B (p++[(i:Int)])++ops B p (i+1) ts
end
theorem zdv{n:Nat}{h c d:Str}{L:Tr}(hL:L∈leftsL n h c d):∃ts,L= .nd h ts:=by
 unfold leftsL at hL;split at hL<;>simp only[av,bo,or_false]at hL
 all_goals first
  | (subst hL;exact⟨_,rfl⟩)
  | (rcases hL with rfl |rfl<;>exact⟨_,rfl⟩)
theorem zkE{s z:Str}{ls us:List Tr}(h:((Tr.nd s ls).mt (.nd z us)).isSome=true):s=z:=by
 simp only[Tr.mt]at h;split at h
 ·rename_i q;simp only[ce,beq_iff_eq]at q;exact q.1
 ·cases h
theorem zjb{n:Nat}{h c d:Str}{L M x:Tr}(hL:L∈leftsL n h c d) (hM:M∈leftsL n h c d) (h1:(L.mt x).isSome=true) (h2:(M.mt x).isSome=true):L=M:=by
  cases x with
  |bl k=>
    obtain⟨ts,rfl⟩:=zdv hL;simp [Tr.mt]at h1
  |nd s ts=>
    unfold leftsL at hL hM;split at hL<;>simp only[av,bo,or_false]at hL hM
    all_goals first
      | (rw[hL,hM])
      | (rcases hL with rfl |rfl<;>rcases hM with rfl |rfl<;>first
          |rfl
          | (exfalso
             rcases ts with _ |⟨u,us⟩
             · simp [Tr.mt]at h1
             · cases u with
               |bl k=>simp [Tr.mt,mts]at h1 h2
               |nd z vs=>
                 rcases vs with _ |⟨v,vs⟩
                 · simp [Tr.mt,mts]at h1 h2
                 · rcases vs with _ |⟨v',vs⟩
                   · cases v with
                     |bl k=>simp [Tr.mt,mts]at h1 h2
                     |nd z' xs=>
                       rcases xs with _ |⟨x',xs⟩
                       · simp [Tr.mt,mts]at h1 h2
                       · simp [Tr.mt,mts]at h1 h2
                   · simp [Tr.mt,mts]at h1 h2))
section
variable {w0 w1 w2 w3 w4 w5:Str}{tt:List Str}{B:List Tn}
theorem BookOk.one (b:BookOk w0 w1 w2 w3 w4 w5 tt B) (G:Signs w0 w1 w2 w3 w4 w5) {u v:Tn}(hu:u∈B) (hv:v∈B) {x:Tr}(h1:(u.2.1.mt x).isSome=true) (h2:(v.2.1.mt x).isSome=true):u.2.1=v.2.1:=by
 obtain⟨n,m,e⟩:=b.lf;have mu:u.2.1∈leftsL n w0 w2 w3++leftsL m w1 w2 w3:=by rw[←e];exact aZ.mpr ⟨u,hu,rfl⟩
 have mv:v.2.1∈leftsL n w0 w2 w3++leftsL m w1 w2 w3:=by rw[←e];exact aZ.mpr ⟨v,hv,rfl⟩
 have key:∀{L M:Tr},L∈leftsL n w0 w2 w3→M∈leftsL m w1 w2 w3→(L.mt x).isSome=true→(M.mt x).isSome=true→False:=λ{L M} hL hM k1 k2=>by
  obtain⟨ts,rfl⟩:=zdv hL;obtain⟨us,rfl⟩:=zdv hM;cases x with
  |bl k=>simp [Tr.mt]at k1
  |nd s vs=>exact G.n0 w1 (by simp) ((zkE k1).trans (zkE k2).symm)
 rcases bb.mp mu with z |z<;>rcases bb.mp mv with y |y
 ·exact zjb z y h1 h2
 ·exact(key z y h1 h2).elim
 ·exact(key y z h2 h1).elim
 ·exact zjb z y h1 h2
theorem zgq (n:Nat) (h c d:Str):(leftsL n h c d).Nodup:=by
 unfold leftsL;split<;>simp
theorem BookOk.inj (b:BookOk w0 w1 w2 w3 w4 w5 tt B) (G:Signs w0 w1 w2 w3 w4 w5):(B.map λt=>t.2.1).Nodup:=by
 obtain⟨n,m,e⟩:=b.lf;rw[e,List.nodup_append];refine⟨zgq ..,zgq ..,λx hx y hy=>?_⟩;obtain⟨ts,rfl⟩:=zdv hx;obtain⟨us,rfl⟩:=zdv hy;intro z;cases z;exact G.n0 _ (by simp) rfl
theorem zlo{α β:Type}{f:α→β}:∀{xs:List α}{x y:α},(xs.map f).Nodup→x∈xs→y∈xs→f x=f y→x=y
 |z::xs,x,y,h,hx,hy,e=>by
  rw[aD,dq]at h;rcases av.mp hx with h1 |h1
  ·rcases av.mp hy with h2 |h2
   ·rw[h1,h2]
   ·exact(h.1 (aZ.mpr ⟨y,h2,by rw[←e,h1]⟩)).elim
  ·rcases av.mp hy with h2 |h2
   ·exact(h.1 (aZ.mpr ⟨x,h1,by rw[e,h2]⟩)).elim
   ·exact zlo h.2 h1 h2 e
theorem BookOk.open_some (b:BookOk w0 w1 w2 w3 w4 w5 tt B) (G:Signs w0 w1 w2 w3 w4 w5) {t:Tn}(ht:t∈B) {us:List Tr}(hu:us.length=t.2.1.nb):zdj B (t.2.1.fill us)=ae t:=by
 have hm:=b.mt t ht us hu;unfold zdj;cases e:B.find? λu=>(u.2.1.mt (t.2.1.fill us)).isSome with
 |none=>
  rw[iR]at e;have:=e t ht;rw[hm]at this;simp at this
 |some u=>
  have hu':=i9 e;have mu:=da e;have:=b.one G mu ht hu' (by rw[hm];rfl);rw[zlo (b.inj G) mu ht this]
end
mutual
inductive Wi (B:List Tn) (wn:List (List Int)):Nat→List Int→Tr→Tr→Prop
 |no {n:Nat}{p:List Int}{s:Str}{ts us:List Tr}:p∉wn→zaI B s=none→Wis B wn n p ((aO ts.length).map λ(i:Nat)=>[(i:Int)]) ts us→Wi B wn (n+1) p (.nd s ts) (.nd s us)
 |yes {n:Nat}{p:List Int}{s:Str}{ts us ms:List Tr}{t:Tn}:p∈wn→zdj B (.nd s ts)=ae t→t.2.1.mt (.nd s ts)=ae ms→zaI B t.1=ae t→Wis B wn n p (t.2.1.bls.map λx=>x.1) ms us→Wi B wn (n+1) p (.nd s ts) (.nd t.1 us)
inductive Wis (B:List Tn) (wn:List (List Int)):Nat→List Int→List (List Int)→List Tr→List Tr→Prop
 |nil {n:Nat}{p:List Int}:Wis B wn n p [] [] []
 |cons {n:Nat}{p q:List Int}{qs:List (List Int)}{t u:Tr}{ts us:List Tr}:Wi B wn n (p++q) t u→Wis B wn n p qs ts us→Wis B wn n p (q::qs) (t::ts) (u::us)
end
mutual
theorem Wi.mono{B:List Tn}{wn:List (List Int)}:∀{n m:Nat}{p:List Int}{t u:Tr},n≤m→Wi B wn n p t u→Wi B wn m p t u
 |_+1,m,_,_,_,h, .no h1 h2 h3=>by
  obtain⟨m,rfl⟩:∃m',m=m'+1:=⟨m - 1,by omega⟩
  exact .no h1 h2 (Wis.mono (by omega) h3)
 |_+1,m,_,_,_,h, .yes h1 h2 h3 h4 h5=>by
  obtain⟨m,rfl⟩:∃m',m=m'+1:=⟨m - 1,by omega⟩
  exact .yes h1 h2 h3 h4 (Wis.mono (by omega) h5)
theorem Wis.mono{B:List Tn}{wn:List (List Int)}:∀{n m:Nat}{p:List Int}{qs:List (List Int)}{ts us:List Tr},n≤m→Wis B wn n p qs ts us→Wis B wn m p qs ts us
 |_,_,_,_,_,_,_, .nil=> .nil
 |_,_,_,_,_,_,h, .cons h1 h2=> .cons (Wi.mono h h1) (Wis.mono h h2)
end
noncomputable def zjP (c:Int→Nat) (xs:List (List Int×Int×Str)):List (List Int):=(zzx c xs).map λx=>x.1
def znz (qs:List (List Int)):Prop:=qs.Pairwise λa b=>¬a <+:b∧ ¬b <+:a
theorem zvG{h:Str}:(Tr.nd h [.bl 0]).bls.map (λx=>x.1)=[[0]]:=by simp [Tr.bls,Tr.plt,zeE,Tr.isBl]
theorem zuZ{h:Str}:(Tr.nd h [.bl 0, .bl 1]).bls.map (λx=>x.1)=[[0],[1]]:=by simp [Tr.bls,Tr.plt,zeE,Tr.isBl]
theorem zvF{h c:Str}:(Tr.nd h [.nd c []]).bls.map (λx=>x.1)=[]:=by simp [Tr.bls,Tr.plt,zeE,Tr.isBl]
theorem zwL{h d:Str}:(Tr.nd h [.nd d [.bl 0]]).bls.map (λx=>x.1)=[[0,0]]:=by simp [Tr.bls,Tr.plt,zeE,Tr.isBl]
theorem zvP{h c:Str}:(Tr.nd h [.nd c [], .bl 0]).bls.map (λx=>x.1)=[[1]]:=by simp [Tr.bls,Tr.plt,zeE,Tr.isBl]
theorem zwi{h d:Str}:(Tr.nd h [.nd d [.bl 0], .bl 1]).bls.map (λx=>x.1)=[[0,0],[1]]:=by simp [Tr.bls,Tr.plt,zeE,Tr.isBl]
theorem zxp{h d:Str}:(Tr.nd h [.nd d [.nd d [.bl 0]], .bl 1, .bl 2]).bls.map (λx=>x.1)=[[0,0,0],[1],[2]]:=by simp [Tr.bls,Tr.plt,zeE,Tr.isBl]
theorem zxw{h c d:Str}:(Tr.nd h [.nd d [.nd c []], .bl 0, .bl 1]).bls.map (λx=>x.1)=[[1],[2]]:=by simp [Tr.bls,Tr.plt,zeE,Tr.isBl]
theorem zwS{h:Str}:(Tr.nd h []).bls.map (λx=>x.1)=[]:=by simp [Tr.bls,Tr.plt,zeE,Tr.isBl]
noncomputable def zff (x:List Int×Str):W:= .tup [zat x.1, .str x.2]
section
variable {a:Addr}{B:List Tn}
structure Lft (B:List Tn):Prop where
  d:∀t∈B,t.2.1.depth≤4
  w:∀t∈B,t.2.1.weight≤20
theorem zmw{S:Sto}{r:Nat}{Q:WK}{E:Str→Sto→Prop}{s:Str}{ts:List Tr}(L:Lft B) (ha:S a=ae (.lst (B.map zbh))) (hl:ts.length≤1000) (hr:20≤r) (h:∀q,S q=none→Q (.ref q) (put S q (.lst ((pps B s ts.length).map zat)))):zbz (r+1) [.ref a,enc (.nd s ts)] S Q E:=by
 obtain⟨r,rfl⟩:∃r',r=r'+1:=⟨r - 1,by omega⟩
 rw[zbz];simp only[enc];walk_at "wp";refine ziX ha ?_;unfold pps at h;cases e:zaI B s with
 |none=>
  rw[e]at h;simp only[zrt]
  try walk_at "wp"
  rw[zaM];have e1:(((ts.length+1:Nat):Int) - 1).toNat=ts.length:=by omega
  rw[e1];refine⟨⟨by omega,by omega⟩,?_⟩
  rw[zhf];refine zbb (λσ=>∃x,σ=[x]) (λi:Nat=>W.int i) (λi=>zat [(i:Int)]) trivial (aO ts.length) [] _ ⟨none,rfl⟩ (by simp;omega) (λx hx σ R hI hR=>?_) ?_
  ·obtain⟨y,rfl⟩:=hI;simp only[zdV];walk_at "wp";exact⟨zah (by decide),hR _ _ ⟨_,rfl⟩ .refl⟩
  ·rw[aR];intro q hq;have:=h q hq;simp only[bG]at this;exact⟨_, .refl,this⟩
 |some t=>
  rw[e]at h;have ht:t∈B:=da e;have ee:zrt (ae t)= .tup [.str t.1,enc t.2.1,enc t.2.2]:=rfl;rw[ee]
  try walk_at "wp"
  rw[show atI [W.str t.1,enc t.2.1,enc t.2.2] 1=ae (enc t.2.1) from rfl];dsimp only;have h1:=L.d t ht;have h2:=L.w t ht;refine zmP (by omega) (by omega) λq hq=>?_;have:=h q hq;simp only[bG]at this;exact⟨_, .refl,this⟩
theorem zjO (B:List Tn) (x:Tr):B.findSome? (λt=>if(t.2.1.mt x).isSome then ae (zbh t) else none)=(zdj B x).map zbh:=by
 unfold zdj
 induction B with
 |nil=>rfl
 |cons t B ih=>
  rw[er,bS];cases e:(t.2.1.mt x).isSome with
  |true=>rfl
  |false=>simpa using ih
theorem zgE{S:Sto}{r:Nat}{Q:WK}{E:Str→Sto→Prop}{x:Tr}(L:Lft B) (ha:S a=ae (.lst (B.map zbh))) (hf:x.fits 0) (hr:20≤r) (h:Q (zrt (zdj B x)) S):zbq (r+1) [.ref a,enc x] S Q E:=by
 obtain⟨r,rfl⟩:∃r',r=r'+1:=⟨r - 1,by omega⟩
 rw[zbq];walk_at "wp";rw[zaj ha];refine zel (S:=S) ?_ (λσ=>∃y,σ=[ae (.ref a),ae (enc x),y]) zbh (λt=>if(t.2.1.mt x).isSome then ae (zbh t) else none) B _ ⟨_,rfl⟩ (λt ht σ N hI hno hret=>?_) (λe σ hI=>?_) λw e S' sb=>?_
 ·exact ha
 ·obtain⟨y,rfl⟩:=hI;simp only[zdS];have ee:zbh t= .tup [.str t.1,enc t.2.1,enc t.2.2]:=rfl;rw[ee];walk_at "wp";rw[show atI [W.str t.1,enc t.2.1,enc t.2.2] 1=ae (enc t.2.1) from rfl];dsimp only;have h1:=L.d t ht;have h2:=L.w t ht;refine zhb (by omega) hf (by omega) (λys hys q hq=>?_) λh0=>?_
  ·try walk_at "wp"
   rw[hys]at hret;exact hret _ rfl _ (.put .refl hq)
  ·try walk_at "wp"
   rw[h0]at hno;exact hno rfl _ _ ⟨_,rfl⟩ .refl
 ·obtain⟨y,rfl⟩:=hI;walk_at "wp";rw[zjO]at e;have:zdj B x=none:=by
   cases q:zdj B x with
   |none=>rfl
   |some t=>rw[q]at e;cases e
  rw[this]at h;exact⟨_, .refl,h⟩
 ·rw[zjO]at e;cases q:zdj B x with
  |none=>rw[q]at e;cases e
  |some t=>
   rw[q]at e h;cases e;exact⟨_,sb,h⟩
end
mutual
theorem ziu (B:List Tn):∀(t:Tr) (p:List Int),(t.op B p).length≤t.weight
 | .bl n,p=>by simp [Tr.op]
 | .nd s ts,p=>by
  have:=zoq B ts p 0;rw[Tr.op,ba,Tr.weight];split<;>simp<;>omega
theorem zoq (B:List Tn):∀(ts:List Tr) (p:List Int) (i:Nat),(ops B p i ts).length≤wts ts
 | [],p,i=>by simp [ops]
 |t::ts,p,i=>by
  have h1:=ziu B t (p++[(i:Int)]);have h2:=zoq B ts p (i+1);rw[ops,ba,wts];omega
end
section
variable {a f:Addr}{B:List Tn}
mutual
theorem zli (L:Lft B) (haf:f≠a):∀(t:Tr) {r:Nat}{p:List Int}{xs:List W}{S:Sto}{Q:WK}{E:Str→Sto→Prop},t.depth+25≤r→S a=ae (.lst (B.map zbh))→S f=ae (.lst xs)→xs.length+t.weight≤100000→p.length+t.depth≤1000→t.hd (λ_=>True)→
  Q .non (put S f (.lst (xs++(t.op B p).map zff)))→zbn (r+1) [.ref a,enc t,zat p, .ref f] S Q E
 | .bl n,r,p,xs,S,Q,E,hr,ha,hf,hx,hp,hh,h=>by simp [Tr.hd]at hh
 | .nd s ts,r,p,xs,S,Q,E,hr,ha,hf,hx,hp,hh,h=>by
  have ft:=zeG (m:=0) _ hh;simp only[Tr.depth]at hr hp;simp only[Tr.weight]at hx;simp only[Tr.hd]at hh;obtain⟨r,rfl⟩:∃r',r=r'+1:=⟨r - 1,by omega⟩
  rw[zbn];have ee:enc (.nd s ts)= .tup (.str s::encs ts):=by simp only[enc]
  walk_at "wp";refine zgE L ha ft (by omega) ?_;rw[Tr.op]at h;cases e:zdj B (.nd s ts) with
  |none=>
   rw[e]at h;simp only[aR]at h;simp only[zrt];rw[ee]
   try walk_at "wp"
   exact zgi L haf ts (by omega) ha hf (by omega) (by omega) hh.2 λx5 x6=>⟨_, .refl,h⟩
  |some t=>
   rw[e]at h;have et:zrt (ae t)= .tup [.str t.1,enc t.2.1,enc t.2.2]:=rfl;rw[et,ee]
   try walk_at "wp"
   simp only[zaj hf,true_and];refine⟨zah (by decide),zbH (by omega),?_⟩;refine zgi L haf ts (xs:=xs++[zff (p,t.1)]) (by omega) (by rw[zaN (bg haf)];exact ha) zag (by simp;omega) (by omega) hh.2 λx5 x6=>⟨_, .refl,?_⟩;rw[zbe];simpa using h
theorem zgi (L:Lft B) (haf:f≠a):∀(ts:List Tr) {r:Nat}{p:List Int}{i:Nat}{xs:List W}{S:Sto}{E:WX}{D:WEnds}{t0 x4 x5 x6:Option W},dts ts+25≤r→S a=ae (.lst (B.map zbh))→S f=ae (.lst xs)→xs.length+wts ts≤100000→p.length+1+dts ts≤1000→hds (λ_=>True) ts→
  (∀x5 x6,D.nx [ae (.ref a),t0,ae (zat p),ae (.ref f),x4,x5,x6] (put S f (.lst (xs++(ops B p i ts).map zff))))→
  forL (wGT (zay (wGN 5) (zay (wGN 6) zcn))) (zcM (r+1) (zbn (r+1))) E D (λ_=>True) (zfv i (encs ts)) [ae (.ref a),t0,ae (zat p),ae (.ref f),x4,x5,x6] S
 | [],r,p,i,xs,S,E,D,t0,x4,x5,x6,hr,ha,hf,hx,hp,hh,h=>by
  simp only[encs,zfv,forL];have:=h x5 x6;rw[ops,cw,bf,zeb hf]at this;exact this
 |t::ts,r,p,i,xs,S,E,D,t0,x4,x5,x6,hr,ha,hf,hx,hp,hh,h=>by
  simp only[dts]at hr hp;simp only[wts]at hx;simp only[hds]at hh;simp only[encs,zfv];refine zbc λN hN=>?_;simp only[zcM];walk_at "wp";rw[zkQ];refine⟨zah (by decide),zah (by omega),?_⟩;have ol:=ziu B t (p++[(i:Int)]);refine zli L haf t (by omega) ha hf (by omega) (by simp;omega) hh.1 ?_;refine hN _ _ _ .refl trivial (zgi L haf ts (xs:=xs++(t.op B (p++[(i:Int)])).map zff) (by omega) (by rw[zaN (bg haf)];exact ha) zag (by simp;omega) (by omega) hh.2 λx5 x6=>?_);rw[zbe];have:=h x5 x6;rw[ops,bN]at this;simpa using this
end
theorem zne{p q:List Int}{S:Sto}{Q:WK}:zdl (zat p) (zat q) S Q=(p.length+q.length≤sizeLine∧Q (zat (p++q)) S):=by
 unfold zat;rw[zfT,aq,aq,bN]
def PB (B:List Tn):Prop:=∀t∈B,∀x∈t.2.1.bls,x.1.length≤4
theorem ziO{s:Str}{n:Nat}(h:PB B):∀q∈pps B s n,q.length≤4:=λq hq=>by
 unfold pps at hq;cases e:zaI B s with
 |none=>
  rw[e]at hq;obtain⟨i,_,rfl⟩:=aZ.mp hq;simp
 |some t=>
  rw[e]at hq;obtain⟨x,hx,rfl⟩:=aZ.mp hq;exact h t (da e) x hx
end
section
variable {a:Addr}{B:List Tn}{S:Sto}{r:Nat}{Q:WK}{E:Str→Sto→Prop}{t:Tr}
theorem zgd (L:Lft B) (ha:S a=ae (.lst (B.map zbh))) (hd:t.depth≤60) (hr:t.depth+30≤r) (hw:t.weight≤1000) (hh:t.hd (λ_=>True)) (h:∀q,S q=none→Q (.ref q) (put S q (.lst ((t.op B []).map zff)))):zcQ (r+1) [.ref a,enc t] S Q E:=by
 obtain⟨r,rfl⟩:∃r',r=r'+1:=⟨r - 1,by omega⟩
 rw[zcQ];walk_at "wp";refine⟨aS _,λq hq=>⟨aS _,?_⟩⟩;have hqa:q≠a:=λz=>by rw[z,ha]at hq;cases hq
 refine zli L hqa t (p:=[]) (xs:=[]) (by omega) (keep ha hq) zag (by simp;omega) (by simp;omega) hh ?_;rw[zbe,aR];exact⟨_, .refl,h q hq⟩
theorem zgl{f:Addr}{xs:List (List Int×Str)}(hf:S f=ae (.lst (xs.map zff))) (hl:xs.length≤10000) (h:∀q,S q=none→Q (.ref q) (put S q (.lst ((xs.map λx=>x.1).map zat)))):zcU (r+1) [.ref f] S Q E:=by
 rw[zcU];walk_at "wp";rw[zaj hf];refine zbb (λσ=>∃y,σ=[y]) zff (λx=>zat x.1) ?_ xs [] _ ⟨none,rfl⟩ (by simp;omega) (λx hx σ R hI hR=>?_) ?_
 ·exact hf
 ·obtain⟨y,rfl⟩:=hI;simp only[zeP,zff];walk_at "wp";exact hR _ _ ⟨_,rfl⟩ .refl
 ·rw[aR];intro q hq;have:=h q hq;rw[bG]at this;exact⟨_, .refl,this⟩
theorem zix{s:Str}{ts ms:List Tr}{u:Tn}(L:Lft B) (ha:S a=ae (.lst (B.map zbh))) (hh:(Tr.nd s ts).hd (λ_=>True)) (hw:(Tr.nd s ts).weight≤1000) (hr:25≤r) (h1:zdj B (.nd s ts)=ae u) (h2:u.2.1.mt (.nd s ts)=ae ms) (h:Q (enc (.nd u.1 ms)) S):zcl (r+1) [.ref a,enc (.nd s ts)] S Q E:=by
 obtain⟨r,rfl⟩:∃r',r=r'+1:=⟨r - 1,by omega⟩
 have ht:u∈B:=da h1;have ft:=zeG (m:=0) _ hh;have hm:=zqQ u.2.1 _ _ h2 hh;have hl:=zbJ ms;rw[zcl];walk_at "wp";refine zgE L ha ft (by omega) ?_;rw[h1];have et:zrt (ae u)= .tup [.str u.1,enc u.2.1,enc u.2.2]:=rfl;rw[et]
 try walk_at "wp"
 rw[show atI [W.str u.1,enc u.2.1,enc u.2.2] 1=ae (enc u.2.1) from rfl];have g1:=L.d u ht;have g2:=L.w u ht;refine⟨zah (by decide),zhb (by omega) ft (by omega) (λys hys q hq=>?_) λh0=>by rw[h2]at h0;cases h0⟩
 rw[h2]at hys;cases hys
 try walk_at "wp"
 rw[zaM];simp only[enc]at h;exact⟨zah (by omega),_, .put .refl hq,h⟩
end
theorem zqE{B:List Tn}{s:Str}{n:Nat}(h:zaI B s=none):pps B s n=(aO n).map λ(i:Nat)=>[(i:Int)]:=by unfold pps;rw[h]
theorem zrC{B:List Tn}{s:Str}{n:Nat}{t:Tn}(h:zaI B s=ae t):pps B s n=t.2.1.bls.map λx=>x.1:=by unfold pps;rw[h]
theorem Wis.len{B:List Tn}{wn:List (List Int)}{n:Nat}{p:List Int}:∀{qs:List (List Int)}{ts us:List Tr},Wis B wn n p qs ts us→us.length=ts.length
 |_,_,_, .nil=>rfl
 |_,_,_, .cons _ h=>by rw[aV,aV,Wis.len h]
section
variable {a w:Addr}{B:List Tn}{wn:List (List Int)}
theorem zfW (n:Nat) (hP4:∀{t u:Tr}{p:List Int}{r:Nat}{S:Sto}{Q:WK}{E:Str→Sto→Prop},Wi B wn n p t u→n+40≤r+1→S a=ae (.lst (B.map zbh))→S w=ae (.dct (zgW wn))→t.hd (λ_=>True)→t.weight≤1000→p.length+4*n≤1000→Q (enc u) S→zaY (r+1) [.ref a,enc t,zat p, .ref w] S Q E) :
  ∀{ts us:List Tr}{qs:List (List Int)}{p:List Int},Wis B wn n p qs ts us→ ∀{r:Nat}{xs:List W}{f:Addr}{S:Sto}{G:Sto→Prop}{E:WX}{D:WEnds}{t0 x4 x6 x7:Option W},(∀q∈qs,q.length≤4)→n+40≤r+1→S a=ae (.lst (B.map zbh))→S w=ae (.dct (zgW wn))→S f=ae (.lst xs)→f≠a→f≠w→xs.length+ts.length≤10000→wts ts≤1000→hds (λ_=>True) ts→p.length+4+4*n≤1000→(∀o,G (put S f o))→
  (∀x6 x7,D.nx [ae (.ref a),t0,ae (zat p),ae (.ref w),x4,ae (.ref f),x6,x7] (put S f (.lst (xs++encs us))))→
  forL (wGT (zay (wGN 6) (zay (wGN 7) zcn))) (zck (r+1) (zaY (r+1))) E D G (pairs (qs.map zat) (encs ts)) [ae (.ref a),t0,ae (zat p),ae (.ref w),x4,ae (.ref f),x6,x7] S
 |_,_,_,p, .nil=>by
  rename_i r xs f S G E D t0 x4 x6 x7;intro hq hr ha hw hf n1 n2 hx hwt hh hp hG h;simp only[cw,encs,pairs,forL];have:=h x6 x7;simp only[encs,bf,zeb hf]at this;exact this
 |_,_,_,p, .cons (q:=q) (t:=t) (u:=u) (ts:=ts) (us:=us) h1 h2=>by
  rename_i r xs f S G E D t0 x4 x6 x7 qs;intro hq hr ha hw hf n1 n2 hx hwt hh hp hG h;simp only[wts]at hwt;simp only[hds]at hh;simp only[aV]at hx;have hq4:=hq q aN;simp only[aD,encs,pairs];refine zbc λN hN=>?_;simp only[zck];walk_at "wp";simp only[zaj hf,true_and];rw[zne];refine⟨zah (by omega),hP4 h1 hr ha hw hh.1 (by omega) (by simp;omega) ?_⟩
  try walk_at "wp"
  rw[zaj hf];refine⟨zbH (by omega),?_⟩;refine hN _ _ _ .refl (hG _) (zfW n hP4 h2 (xs:=xs++[enc u]) (λq' hq'=>hq q' (aH _ hq')) hr (by rw[zaN (bg n1)];exact ha) (by rw[zaN (bg n2)];exact hw) zag n1 n2 (by simp;omega) (by omega) hh.2 hp (λo=>by rw[zbe];exact hG o) λx6 x7=>?_)
  rw[zbe];have:=h x6 x7;simpa [encs]using this
theorem zjM (L:Lft B) (hP:PB B):∀(n:Nat) {t u:Tr}{p:List Int}{r:Nat}{S:Sto}{Q:WK}{E:Str→Sto→Prop},Wi B wn n p t u→n+40≤r+1→S a=ae (.lst (B.map zbh))→S w=ae (.dct (zgW wn))→t.hd (λ_=>True)→t.weight≤1000→p.length+4*n≤1000→Q (enc u) S→zaY (r+1) [.ref a,enc t,zat p, .ref w] S Q E
 |0,t,u,p,r,S,Q,E,M,hr,ha,hw,hh,hwt,hp,h=>by cases M
 |n+1,t,u,p,r,S,Q,E,M,hr,ha,hw,hh,hwt,hp,h=>by
  obtain⟨r,rfl⟩:∃r',r=r'+1:=⟨r - 1,by omega⟩
  have tail:∀{s:Str}{ts us:List Tr}{t0:Option W}{E':WX},Wis B wn n p (pps B s ts.length) ts us→hds (λ_=>True) ts→wts ts≤1000→Q (enc (.nd s us)) S→
    (1:Nat)=1→ ∀f,S f=none→zbz (r+1) [.ref a, .tup (.str s::encs ts)] (put S f (.lst [])) (λx S1=>zpc x S1 λxs G=>forL (wGT (zay (wGN 6) (zay (wGN 7) zcn))) (zck (r+1) (zaY (r+1))) E' { nx:=zbf (wOp zdl (zaS (zab (wOp oIx (zaf 4) (wC (W.int 0))) waNil)) (wB zdZ (zab (zaf 5) waNil))) E' { nx:=λx S'=>∃S'',Sub S'' S'∧Q W.non S'',rt:=λw S'=>∃S'',Sub S'' S'∧Q w S'' },rt:=λw S'=>∃S'',Sub S'' S'∧Q w S'' } (λS'=>G S'∧True) (pairs xs (encs ts)) [ae (.ref a),t0,ae (zat p),ae (.ref w),ae (.tup (.str s::encs ts)),ae (.ref f),none,none] S1) E:=λ{s ts us t0 E'} WW hd hw' hQ _ f hf=>by
   have hk:=zbJ ts;have n1:f≠a:=λz=>by rw[z,ha]at hf;cases hf
   have n2:f≠w:=λz=>by rw[z,hw]at hf;cases hf
   have ee:W.tup (W.str s::encs ts)=enc (.nd s ts):=by simp only[enc]
   rw[ee];refine zmw L (keep ha hf) (by omega) (by omega) λq hq=>?_;rw[zgy,zfG,←ee];obtain⟨hq1,hq2⟩:=zde hq;refine zfW n (zjM L hP n) WW (ziO hP) (by omega) (keep (keep ha hf) hq) (keep (keep hw hf) hq) (keep zag hq) n1 n2 (by simp;omega) hw' hd (by omega) (λo=>⟨?_,trivial⟩) λx6 x7=>?_
   ·show put _ f o q=_;rw[zaN hq2];exact zag
   ·have hlu:us.length≤1000:=by
     have:=Wis.len WW;omega
    walk_at "wp";rw[zaM];simp only[enc]at hQ;refine⟨zah (by decide),zah (by omega),S,?_,hQ⟩;rw[zlw hq2];exact .put (.put .refl hf) hq1
  cases M with
  | @no _ _ s ts us h1 h2 h3=>
   simp only[Tr.hd]at hh;simp only[Tr.weight]at hwt;rw[zaY];simp only[enc];walk_at "wp";rw[zkM hw,zjJ,decide_eq_false h1]
   try walk_at "wp"
   refine⟨aS _,λf hf=>?_⟩;have:=tail (t0:=ae (.tup (.str s::encs ts))) (E':=λc x S'=>E c S') (by rw[zqE h2];exact h3) hh.2 (by omega) h rfl f hf;simpa only[and_true]using this
  | @yes _ _ s ts us ms t h1 h2 h3 h4 h5=>
   have hm:=zqQ t.2.1 _ _ h3 hh;rw[zaY];walk_at "wp";rw[zkM hw,zjJ,decide_eq_true h1]
   try walk_at "wp"
   refine zix L ha hh hwt (by omega) h2 h3 ?_;simp only[enc]
   try walk_at "wp"
   refine⟨aS _,λf hf=>?_⟩;have:=tail (t0:=ae (.tup (.str s::encs ts))) (E':=λc x S'=>E c S') (by rw[zrC h4];exact h5) hm.1 (by omega) h rfl f hf;simpa only[and_true]using this
end
theorem zjI{S:Sto}{n:Nat}:∀(p q:List Int),zet (eqF S (n+1)) (p.map W.int) (q.map W.int)=ae (decide (p=q))
 | [],[]=>by simp [zet]
 | [],j::q=>by simp [zet]
 |i::p,[]=>by simp [zet]
 |i::p,j::q=>by
  rw[aD,aD,zet,zsm,zjI p q];simp only[bq];rw[eF];simp
theorem zxe{S:Sto}{n:Nat}(p q:List Int):eqF S (n+2) (zat p) (zat q)=ae (decide (p=q)):=by
 unfold zat;rw[zsE,zjI]
theorem zqd{S:Sto}{x:List Int}:∀ys:List (List Int),inF S (zat x) (ys.map zat)=ae (decide (x∈ys))
 | []=>by simp [inF]
 |y::ys=>by
  rw[aD,inF,zxe (n:=57),zqd ys];simp only[bq];rw[eF];simp only[kK,decide_eq_true_eq,av];exact⟨λh=>h.elim (λe=> .inl e.symm) .inr,λh=>h.elim (λe=> .inl e.symm) .inr⟩
section
variable {a:Addr}{B:List Tn}{wn:List (List Int)}{S:Sto}{r n:Nat}{Q:WK}{E:Str→Sto→Prop}{t u:Tr}{f:Addr}
theorem zmD (L:Lft B) (hP:PB B) (M:Wi B wn n [] t u) (hn:n≤60) (hr:110≤r) (ha:S a=ae (.lst (B.map zbh))) (hf:S f=ae (.lst (wn.map zat))) (hh:t.hd (λ_=>True)) (hw:t.weight≤1000) (hl:wn.length≤10000) (h:Q (enc u) S):zdt (r+1) [.ref a,enc t, .ref f] S Q E:=by
 obtain⟨r,rfl⟩:∃r',r=r'+1:=⟨r - 1,by omega⟩
 rw[zdt];walk_at "wp";refine⟨aS _,?_⟩;rw[zaj hf];refine zbb (λσ=>∃y,σ=[y]) zat (λp=>W.tup [zat p, .bl true]) ?_ wn [] _ ⟨none,rfl⟩ (by simp;omega) (λx hx σ R hI hR=>?_) ?_
 ·exact hf
 ·obtain⟨y,rfl⟩:=hI;simp only[zfz];walk_at "wp";exact⟨zah (by decide),hR _ _ ⟨_,rfl⟩ .refl⟩
 ·rw[aR];have e:zeq (wn.map λp=>W.tup [zat p, .bl true])=ae wn:=zjw wn;rw[e];refine⟨by omega,λd hd=>?_⟩;have e0:W.tup []=zat []:=rfl;rw[e0];exact zjM L hP n M (by omega) (keep ha hd) zag hh hw (by simp;omega) ⟨_, .put .refl hd,h⟩
theorem zrF{ks:List (List Int)}(L:Lft B) (hP:PB B) (M:Wi B wn n [] t u) (hn:n≤60) (hr:115≤r) (ha:S a=ae (.lst (B.map zbh))) (hf:S f=ae (.lst (wn.map zat))) (hh:t.hd (λ_=>True)) (hw:t.weight≤1000) (hd:t.depth≤60) (hl:wn.length≤10000) (hks:((t.op B []).map λx=>x.1)=ks) (hin:∀x∈wn,x∈ks) (h:Q (enc u) S):zdB (r+1) [.ref a,enc t, .ref f] S Q E:=by
 obtain⟨r,rfl⟩:∃r',r=r'+1:=⟨r - 1,by omega⟩
 have ol:=ziu B t [];rw[zdB];walk_at "wp";refine zgd L ha hd (by omega) hw hh λq hq=>?_;refine zgl zag (by omega) λq2 hq2=>?_;rw[hks];have f2:put (put S q (Ob.lst ((t.op B []).map zff))) q2 (Ob.lst (ks.map zat)) q2=ae (.lst (ks.map zat)):=zag;have ff:=keep (x:=Ob.lst (ks.map zat)) (keep (x:=Ob.lst ((t.op B []).map zff)) hf hq) hq2;have fa:=keep (x:=Ob.lst (ks.map zat)) (keep (x:=Ob.lst ((t.op B []).map zff)) ha hq) hq2;have sub:Sub S (put (put S q (Ob.lst ((t.op B []).map zff))) q2 (Ob.lst (ks.map zat))):= .trans (.put .refl hq) (.put .refl hq2);generalize put (put S q (Ob.lst ((t.op B []).map zff))) q2 (Ob.lst (ks.map zat))=S2 at f2 ff fa sub⊢
 try walk_at "wp"
 rw[zaj ff];refine zel (S:=S2) ?_ (λσ=>∃x,σ=[ae (.ref a),ae (enc t),ae (.ref f),ae (.ref q2),x]) zat (λ_=>none) wn _ ⟨_,rfl⟩ (λx hx σ N hI hno hret=>?_) (λe σ hI=>?_) λw e S' sb=>?_
 ·exact ff
 ·obtain⟨y,rfl⟩:=hI;unfold zen;walk_at "wp";rw[zaj f2,zqd,decide_eq_true (hin x hx)]
  try walk_at "wp"
  exact hno rfl _ _ ⟨_,rfl⟩ .refl
 ·obtain⟨y,rfl⟩:=hI
  try walk_at "wp"
  exact zmD L hP M hn (by omega) fa ff hh hw hl ⟨_,sub,h⟩
 ·rw[kJ.mpr (λ_ _=>rfl)]at e;cases e
end
section
variable {c:Int→Nat}
def One (c:Int→Nat):Prop:=∀x:Int,0≤x→x<8→c x≤1
theorem One.src (hc:One c):∀x:Int,0≤x→x<8→zkq c x=0:=λx h0 h1=>by
 have:=hc x h0 h1;unfold zkq;split<;>omega
end
theorem zxz (f:Int):One (byC f):=λx _ _=>zvL f x
theorem zoW:∀(ls us:List Tr),(mts ls us).isSome=(ls.zip us).all λx=>(x.1.mt x.2).isSome
 | [],us=>by simp [mts]
 |l::ls,[]=>by simp [mts]
 |l::ls,u::us=>by
  rw[mts,kh,j',←zoW ls us];cases l.mt u with
  |none=>rfl
  |some xs=>cases mts ls us<;>rfl
theorem zhc:∀(ls us:List Tr),pairs (encs ls) (encs us)=(ls.zip us).map λx=>W.tup [enc x.1,enc x.2]
 | [],us=>by simp [encs,pairs]
 |l::ls,[]=>by simp [encs,pairs]
 |l::ls,u::us=>by
  simp [encs,pairs,zhc ls us]
theorem zpi{α:Type}(g:α→Bool):∀xs:List α,ziW (xs.map λx=>W.bl (g x))=ae (xs.map g)
 | []=>rfl
 |x::xs=>by rw[aD,ziW,zpi g xs];rfl
theorem znF{S:Sto}:∀(d:Nat) {l t:Tr}{r:Nat}{Q:WK}{E:Str→Sto→Prop},l.depth≤d→d≤r→t.fits 0→l.weight≤1000→Q (.bl (l.mt t).isSome) S→zaK (r+1) [enc l,enc t] S Q E
 |0,l,t,r,Q,E,hd,hr,hf,hw,h=>by have:=zaH l;omega
 |d+1, .bl n,t,r,Q,E,hd,hr,hf,hw,h=>by
  rw[zaK];simp only[enc];walk_at "wp";simp only[Tr.mt,kf]at h;exact⟨_, .refl,h⟩
 |d+1, .nd s ls, .bl n,r,Q,E,hd,hr,hf,hw,h=>by
  simp only[Tr.fits]at hf;omega
 |d+1, .nd s ls, .nd z us,r,Q,E,hd,hr,hf,hw,h=>by
  simp only[Tr.fits]at hf;simp only[Tr.depth]at hd;simp only[Tr.weight]at hw;obtain⟨r,rfl⟩:∃r',r=r'+1:=⟨r - 1,by omega⟩
  have en:∀s ts,enc (.nd s ts)= .tup (.str s::encs ts):=λs ts=>by simp [enc]
  rw[zaK];rw[en,en];walk_at "wp";rw[zaM,zaM];have en2:(((ls.length+1:Nat):Int) == ((us.length+1:Nat):Int))=(ls.length == us.length):=by
   rw[eF,beq_iff_eq,beq_iff_eq];omega
  rw[en2];simp only[Tr.mt]at h;cases e1:(s == z) with
  |false=>
   rw[e1]at h;exact⟨_, .refl,h⟩
  |true=>
   rw[e1]at h;rw[if_neg (by decide)];cases e2:(ls.length == us.length) with
   |false=>
    rw[e2]at h;exact⟨_, .refl,h⟩
   |true=>
    rw[e2]at h;rw[if_neg (by decide)];simp only[Bool.and_self,if_true]at h;have hk:=zbJ ls;rw[zhc];refine zbb (λσ=>∃x y,σ=[x,y]) (λx:Tr×Tr=> .tup [enc x.1,enc x.2]) (λx=> .bl (x.1.mt x.2).isSome) trivial (ls.zip us) [] _ ⟨none,none,rfl⟩ (by simp;omega) (λx hx σ R hI hR=>?_) ?_
    ·obtain⟨x1,x2,rfl⟩:=hI;simp only[zcS];walk_at "wp";have m1:=(fy hx).1;have m2:=(fy hx).2;have hdd:=zbd m1;have hww:=zbA m1;exact znF d (by omega) (by omega) (zeO hf m2) (by omega) (hR _ _ ⟨_,_,rfl⟩ .refl)
    ·rw[aR,zpi];refine⟨_, .refl,?_⟩;rw[zoW]at h;rw[fY];exact h
theorem zoA{S:Sto}{E:WX}{D:WEnds}{x1:Option W}{r:Nat}:∀(q:List Int) {t u:Tr}{x2:Option W},t.at q=ae u→(∀x2,D.nx [ae (enc u),x1,x2] S)→forL (wGN 2) (zcZ r zba) E D (λ_=>True) (q.map W.int) [ae (enc t),x1,x2] S
 | [],t,u,x2,h,hD=>by
  cases t<;>simp only[Tr.at,bq]at h<;>subst h<;>simpa [forL]using hD x2
 |i::q, .bl n,u,x2,h,hD=>by simp [Tr.at]at h
 |i::q, .nd s ts,u,x2,h,hD=>by
  obtain⟨a,h2,e1,e2⟩:=zeQ h;rw[aD];refine zbc λN hN=>?_;simp only[zcZ,enc];walk_at "wp";have ei:(i:Int)+1=((i.toNat+1:Nat):Int):=by omega
  rw[ei,zaU,bU,zaD,aX,e1];exact hN _ _ _ .refl trivial (zoA q e2 hD)
theorem zpV{S:Sto}{q:List Int}{t u:Tr}{r:Nat}{Q:WK}{E:Str→Sto→Prop}(ha:t.at q=ae u) (h:Q (enc u) S):zbp (r+1) [enc t,zat q] S Q E:=by
 rw[zbp];simp only[zat];walk_at "wp";refine zoA q ha λx2=>?_;walk_at "wp";exact⟨_, .refl,h⟩
theorem zwG{x:List Int}{t:Tr}{p:List Int}(h:x∈t.pl p):x.length<p.length+t.depth:=by
 rw[←zdL,aZ]at h;obtain⟨⟨q,u⟩,hm,rfl⟩:=h;obtain⟨r,rfl,_,hr⟩:=zit t p q u hm;simp;omega
mutual
theorem zsi (p:List Int):∀(t:Tr) (q:List Int),t.pl (p++q)=(t.pl q).map (p++ ·)
 | .bl _,q=>by simp [Tr.pl]
 | .nd _ ts,q=>by simp [Tr.pl,zoo p ts q 0]
theorem zoo (p:List Int):∀(ts:List Tr) (q:List Int) (i:Nat),pls (p++q) i ts=(pls q i ts).map (p++ ·)
 | [],q,i=>by simp [pls]
 |t::ts,q,i=>by rw[pls,pls,bN,←zsi p t,zoo p ts q (i+1),bI]
end
theorem zkV{E:WX}{D:WEnds}{x0:Option W}{r:Nat}:∀(ts:List Tr) (one:∀u∈ts,∀{S:Sto}{Q:WK}{E:Str→Sto→Prop},(∀S' b,Sub S S'→S' b=ae (.lst ((u.pl []).map zat))→Q (.ref b) S')→zav r [enc u] S Q E) (i:Nat) {acc:List (List Int)}{f:Addr}{S:Sto}{x2 x3:Option W},S f=ae (.lst (acc.map zat))→acc.length+wts ts≤100000→dts ts≤1000→
  (∀S' g x2 x3,Sub S S'→S' g=ae (.lst ((acc++pls [] i ts).map zat))→D.nx [x0,ae (.ref g),x2,x3] S')→forL (wGT (zay (wGN 2) (zay (wGN 3) zcn))) (zbL r (zav r)) E D (λ_=>True) (zfv i (encs ts)) [x0,ae (.ref f),x2,x3] S
 | [],one,i,acc,f,S,x2,x3,hf,hl,hd,h=>by
  have:=h S f x2 x3 .refl (by simpa [pls]using hf);simpa [forL,zfv,encs]using this
 |t::ts,one,i,acc,f,S,x2,x3,hf,hl,hd,h=>by
  simp only[dts]at hd;simp only[wts]at hl;simp only[encs,zfv];refine zbc λN hN=>?_;simp only[zbL];walk_at "wp";refine one t aN λS1 b sb hb=>?_;dsimp only;rw[zaj hb];have hpl:(t.pl []).length=t.weight:=by rw[←zdL,aq,zdU]
  refine zbb (λσ=>∃x,σ=[x,ae (.int i)]) zat (λq=>zat ((i:Int)::q)) hb (t.pl []) [] _ ⟨none,rfl⟩ (by simp;omega) (λq hq σ R hI hR=>?_) ?_
  ·obtain⟨x,rfl⟩:=hI;have hq2:=zwG hq;simp only[zcO];walk_at "wp";have e1:W.tup [.int (i:Int)]=zat [(i:Int)]:=rfl;rw[e1,zne];refine⟨zah (by decide),zah (by simp at hq2⊢;omega),hR _ _ ⟨_,rfl⟩ .refl⟩
  ·rw[aR,zaj (sb _ _ hf)];refine⟨zah (by simp;omega),λa ha=>?_⟩;have e:acc.map zat++(t.pl []).map (λq=>zat ((i:Int)::q))=(acc++t.pl [(i:Int)]).map zat:=by
    have:=zsi [(i:Int)] t [];rw[bf]at this;rw[bN,this,bG];rfl
   rw[e];have hpl2:(t.pl [(i:Int)]).length=t.weight:=by rw[←zdL,aq,zdU]
   refine hN _ _ _ .refl trivial (zkV ts (λu hu=>one u (aH _ hu)) (i+1) zag (by simp;omega) (by omega) λS' g x2 x3 sb' hg=>?_);exact h S' g x2 x3 ((sb.trans (.new ha)).trans sb') (by rw[pls,←bI];exact hg)
theorem zlx:∀(d:Nat) {t:Tr}{r:Nat}{S:Sto}{Q:WK}{E:Str→Sto→Prop},t.depth≤d→d≤r→t.weight≤1000→t.depth≤1000→(∀S' b,Sub S S'→S' b=ae (.lst ((t.pl []).map zat))→Q (.ref b) S')→zav (r+1) [enc t] S Q E
 |0,t,r,S,Q,E,hd,hr,hw,hz,h=>by have:=zaH t;omega
 |d+1, .bl n,r,S,Q,E,hd,hr,hw,hz,h=>by
  rw[zav];simp only[enc];walk_at "wp";refine⟨zah (by decide),zah (by decide),λa ha=>⟨_, .refl,h _ a (.new ha) zag⟩⟩
 |d+1, .nd s ts,r,S,Q,E,hd,hr,hw,hz,h=>by
  simp only[Tr.depth]at hd hz;simp only[Tr.weight]at hw;obtain⟨r,rfl⟩:∃r',r=r'+1:=⟨r - 1,by omega⟩
  rw[zav];simp only[enc];walk_at "wp";refine⟨zah (by decide),zah (by decide),λa ha=>?_⟩;have en:W.tup (.str s::encs ts)=enc (.nd s ts):=by simp [enc]
  try walk_at "wp"
  refine zkV ts (λu hu {S Q E} q=>zlx d (by have:=zbd hu;omega) (by omega) (by have:=zbA hu;omega) (by have:=zbd hu;omega) q) 0 (acc:=[[]]) zag (by simp;omega) (by omega) λS' g x2 x3 sb hg=>?_;walk_at "wp";exact⟨_, .refl,h _ g ((Sub.new ha).trans sb) (by rw[Tr.pl];exact hg)⟩
theorem zgI{α:Type}(P:α→Bool):∀(bs:List α),bs.Nodup→(∀u∈bs,∀v∈bs,P u=true→P v=true→u=v)→bs.filter P=(bs.find? P).toList
 | [],_,_=>rfl
 |b::bs,hn,hu=>by
  rw[dq]at hn;rw[ie,bS];cases e:P b with
  |false=>simpa using zgI P bs hn.2 λu h1 v h2=>hu u (aH _ h1) v (aH _ h2)
  |true=>
   simp only[if_true,Option.toList_some,iF,true_and];rw[List.filter_eq_nil_iff];intro v hv pv;have:=hu b aN v (aH _ hv) e pv;subst this;exact hn.1 hv
noncomputable def zow (B:List Tn) (x:List Int×Tr):List (List Int×Str):=(zdj B x.2).toList.map λb=>(x.1,b.1)
mutual
theorem zlh (B:List Tn):∀(t:Tr) (p:List Int),t.fits 0→(t.plt p).flatMap (zow B)=t.op B p
 | .bl n,p,h=>by
  simp only[Tr.fits]at h;omega
 | .nd s ts,p,h=>by
  simp only[Tr.fits]at h;rw[Tr.plt,dS,znp B ts p 0 h,Tr.op,zow];cases zdj B (.nd s ts)<;>rfl
theorem znp (B:List Tn):∀(ts:List Tr) (p:List Int) (i:Nat),fitss 0 ts→(zeE p i ts).flatMap (zow B)=ops B p i ts
 | [],p,i,h=>by simp [zeE,ops]
 |t::ts,p,i,h=>by
  simp only[fitss]at h;rw[zeE,ops,jU,zlh B t _ h.1,znp B ts p (i+1) h.2]
end
theorem ztu{E:WX}{D:WEnds}{r:Nat}{a f:Addr}{B:List Tn}{t u:Tr}{q:List Int}(L:Lft B) (hfa:f≠a) (hu:u.fits 0) (hat:t.at q=ae u) (hr:10≤r):∀(bs:List Tn) {xs:List W}{S:Sto}{x4:Option W},(∀b∈bs,b∈B)→S a=ae (.lst (B.map zbh))→S f=ae (.lst xs)→xs.length+bs.length≤100000→
  (∀x4,D.nx [ae (.ref a),ae (enc t),ae (.ref f),ae (zat q),x4] (put S f (.lst (xs++((bs.filter λb=>(b.2.1.mt u).isSome).map λb=>(q,b.1)).map zff))))→
  forL (wGN 4) (zdJ (r+1) zba) E D (λS'=>S' a=ae (.lst (B.map zbh))) (bs.map zbh) [ae (.ref a),ae (enc t),ae (.ref f),ae (zat q),x4] S
 | [],xs,S,x4,hb,ha,hf,hl,h=>by
  have:=h x4;simp only[List.filter_nil,cw,bf,zeb hf]at this;simpa [forL]using this
 |b::bs,xs,S,x4,hb,ha,hf,hl,h=>by
  simp only[aV]at hl;rw[aD];refine zbc λN hN=>?_;simp only[zdJ];have eb:zbh b= .tup [.str b.1,enc b.2.1,enc b.2.2]:=rfl;rw[eb];walk_at "wp";refine zpV hat ?_;have hm:=hb b aN;have h1:=L.d b hm;have h2:=L.w b hm;refine znF 4 h1 (by omega) hu (by omega) ?_;rw[←eb];walk_at "wp";cases e:(b.2.1.mt u).isSome with
  |false=>
   simp only[d9,if_false];refine hN _ _ _ .refl ha (ztu L hfa hu hat hr bs (λy hy=>hb y (aH _ hy)) ha hf (by omega) λx4=>?_);have:=h x4;rw[ie,e]at this;simpa using this
  |true=>
   simp only[if_true,zaj hf];refine⟨trivial,zah (by decide),zbH (by omega),?_⟩;have ha':put S f (Ob.lst (xs++[W.tup [zat q,W.str b.1]])) a=ae (.lst (B.map zbh)):=by rw[zaN (bg hfa)];exact ha
   refine hN _ _ _ .refl ha' (ztu L hfa hu hat hr bs (λy hy=>hb y (aH _ hy)) ha' zag (by simp;omega) λx4=>?_);have:=h x4;rw[ie,e]at this;rw[zbe];simpa [zff]using this
theorem zsd{E:WX}{D:WEnds}{r:Nat}{a f c:Addr}{B:List Tn}{t:Tr}{ps:List W}(L:Lft B) (hfa:f≠a) (hfc:f≠c) (hr:10≤r) (hn:B.Nodup) (hB:B.length≤100) (U:∀x:Tr,∀u∈B,∀v∈B,(u.2.1.mt x).isSome=true→(v.2.1.mt x).isSome=true→u=v):∀(ys:List (List Int×Tr)) {xs:List W}{S:Sto}{x3 x4:Option W},(∀y∈ys,t.at y.1=ae y.2∧y.2.fits 0)→S a=ae (.lst (B.map zbh))→S c=ae (.lst ps)→S f=ae (.lst xs)→xs.length+100*ys.length+100≤100000→
  (∀x3 x4,D.nx [ae (.ref a),ae (enc t),ae (.ref f),x3,x4] (put S f (.lst (xs++(ys.flatMap (zow B)).map zff))))→
  forL (wGN 3) (zdN (r+1) zba) E D (λS'=>S' c=ae (.lst ps)) (ys.map λy=>zat y.1) [ae (.ref a),ae (enc t),ae (.ref f),x3,x4] S
 | [],xs,S,x3,x4,hy,ha,hc,hf,hl,h=>by
  have:=h x3 x4;simp only[f_,cw,bf,zeb hf]at this;simpa [forL]using this
 |y::ys,xs,S,x3,x4,hy,ha,hc,hf,hl,h=>by
  simp only[aV]at hl;rw[aD];refine zbc λN hN=>?_;simp only[zdN];walk_at "wp";rw[zaj ha];have hy0:=hy y aN;have eo:(B.filter λb=>(b.2.1.mt y.2).isSome).map (λb=>(y.1,b.1))=zow B y:=by
   rw[zgI _ B hn (U y.2)];rfl
  have ol:(zow B y).length≤1:=by
   unfold zow;cases zdj B y.2<;>simp
  refine ztu L hfa hy0.2 hy0.1 hr B (λb hb=>hb) ha hf (by omega) λx4=>?_;rw[eo];have hc':put S f (Ob.lst (xs++(zow B y).map zff)) c=ae (.lst ps):=by rw[zaN (bg hfc)];exact hc
  have ha':put S f (Ob.lst (xs++(zow B y).map zff)) a=ae (.lst (B.map zbh)):=by rw[zaN (bg hfa)];exact ha
  refine hN _ _ _ .refl hc' (zsd L hfa hfc hr hn hB U ys (λz hz=>hy z (aH _ hz)) ha' hc' zag (by simp;omega) λx3 x4=>?_);have:=h x3 x4;rw[dS,bN]at this;rw[zbe];simpa using this
mutual
theorem ziU:∀(t:Tr) (p:List Int),t.fits 0→ ∀y∈t.plt p,y.2.fits 0
 | .bl n,p,h,y,hy=>by
  simp only[Tr.fits]at h;omega
 | .nd s ts,p,h,y,hy=>by
  have h':=h;simp only[Tr.fits]at h';rw[Tr.plt,av]at hy;rcases hy with rfl |hy
  ·exact h
  ·exact zhm ts p 0 h' y hy
theorem zhm:∀(ts:List Tr) (p:List Int) (i:Nat),fitss 0 ts→ ∀y∈zeE p i ts,y.2.fits 0
 | [],p,i,h,y,hy=>by simp [zeE]at hy
 |t::ts,p,i,h,y,hy=>by
  simp only[fitss]at h;rw[zeE,bb]at hy;rcases hy with hy |hy
  ·exact ziU t _ h.1 y hy
  ·exact zhm ts p (i+1) h.2 y hy
end
theorem zru{S:Sto}{a:Addr}{B:List Tn}{t:Tr}{r:Nat}{Q:WK}{E:Str→Sto→Prop}(L:Lft B) (hn:B.Nodup) (hB:B.length≤100) (U:∀x:Tr,∀u∈B,∀v∈B,(u.2.1.mt x).isSome=true→(v.2.1.mt x).isSome=true→u=v) (ha:S a=ae (.lst (B.map zbh))) (hd:t.depth≤60) (hr:t.depth+20≤r) (hw:t.weight≤900) (ht:t.fits 0)
  (h:∀S' b,Sub S S'→S' b=ae (.lst ((t.op B []).map zff))→Q (.ref b) S'):zbI (r+1) [.ref a,enc t] S Q E:=by
 obtain⟨r,rfl⟩:∃r',r=r'+1:=⟨r - 1,by omega⟩
 rw[zbI];walk_at "wp";refine⟨aS _,λf hf=>?_⟩;refine zlx t.depth (aB _) (by omega) (by omega) (by omega) λS1 c sb hc=>?_;have ff:S1 f=ae (.lst []):=sb _ _ zag;have fa:S1 a=ae (.lst (B.map zbh)):=sb _ _ (keep ha hf);have hfa:f≠a:=by
  rintro rfl;rw[hf]at ha;cases ha
 have ep:(t.pl []).map zat=(t.plt []).map λy=>zat y.1:=by rw[←zdL,bG];rfl
 have hfc:f≠c:=by
  rintro rfl;rw[ff]at hc;have e:=congrArg dk (Ob.lst.inj (aG hc));rw[ep,aq,zdU]at e;have:=zdq t;simp at e;omega
 try walk_at "wp"
 rw[zaj hc,ep];rw[ep]at hc;have hpl:=zdU t [];refine zsd L hfa hfc (by omega) hn hB U (t.plt []) (λy hy=>⟨(zhL hy).1,ziU t [] ht y hy⟩) fa hc ff (by simp;omega) λx3 x4=>?_;walk_at "wp";rw[zlh B t [] ht];exact⟨_, .refl,h _ f (Sub.put ((Sub.new hf).trans sb) hf) zag⟩
theorem zuJ{S:Sto}{n:Nat}{a b:Addr}{xs:List W}(ha:S a=ae (.lst xs)) (hb:S b=ae (.lst xs)) (h:zet (eqF S n) xs xs=ae true):eqF S (n+1) (.ref a) (.ref b)=ae true:=by
 show(match S a with
  |some (.lst xs)=>match S b with
   |some (.lst ys)=>zet (eqF S n) xs ys
   |_=>none
  |_=>none)=ae true
 rw[ha,hb];exact h
noncomputable def u1 (B:List Tn) (p:Pl):List (List Int×Str):=zzx (byC 1) (p.ns B [])
mutual
noncomputable def Tr.ord (k:Nat):Tr→Option Nat
 | .bl n=>if n=(k:Int) then ae (k+1) else none
 | .nd _ ts=>zqa k ts
noncomputable def zqa (k:Nat):List Tr→Option Nat
 | []=>ae k
 |t::ts=>match t.ord k with
  |some m=>zqa m ts
  |none=>none
end
def zxX (B:List Tn) (z:Str):Prop:=∀u∈B,∀s ls,u.2.1= .nd s ls→s≠z
structure Ort (B:List Tn):Prop where
  inn:∀t∈B,∃s ls,t.2.1= .nd s ls∧hbs (zxX B) ls
  mt:zza B
  fm:∀t∈B,∀x ys,t.2.1.mt x=ae ys→x=t.2.1.fill ys∧ys.length=t.2.1.nb
  one:∀u∈B,∀v∈B,∀x:Tr,(u.2.1.mt x).isSome=true→(v.2.1.mt x).isSome=true→u=v
  od:∀t∈B,t.2.1.ord 0=ae t.2.1.nb
mutual
theorem zsh:∀(L x:Tr) (ys:List Tr) (k m:Nat),L.ord k=ae m→L.mt x=ae ys→ys.length+k=m∧ ∀pre post:List Tr,pre.length=k→L.fill (pre++ys++post)=x
 | .bl n,x,ys,k,m,h,e=>by
  rw[Tr.ord]at h;split at h
  ·rename_i hn;cases h;rw[Tr.mt]at e;cases e;refine⟨by simp;omega,λpre post hp=>?_⟩;rw[Tr.fill,hn,bK,bE,bI,gK (by omega),hp,Nat.sub_self];rfl
  ·cases h
 | .nd s ls, .bl n,ys,k,m,h,e=>by rw[Tr.mt]at e;cases e
 | .nd s ls, .nd z us,ys,k,m,h,e=>by
  rw[Tr.mt]at e;split at e
  ·rename_i hc;rw[ce,beq_iff_eq,beq_iff_eq]at hc;rw[Tr.ord]at h;obtain⟨h1,h2⟩:=zpr ls us ys k m hc.2 h e;exact⟨h1,λpre post hp=>by rw[Tr.fill,h2 pre post hp,hc.1]⟩
  ·cases e
theorem zpr:∀(ls us ys:List Tr) (k m:Nat),ls.length=us.length→zqa k ls=ae m→mts ls us=ae ys→ys.length+k=m∧ ∀pre post:List Tr,pre.length=k→fills (pre++ys++post) ls=us
 | [],us,ys,k,m,hl,h,e=>by
  rw[zqa]at h;cases h;rw[mts]at e;cases e;cases us with
  |nil=>exact⟨by simp,λ_ _ _=>by rw[fills]⟩
  |cons _ _=>cases hl
 |l::ls,[],ys,k,m,hl,h,e=>by cases hl
 |l::ls,u::us,ys,k,m,hl,h,e=>by
  rw[zqa]at h;rw[mts]at e;cases q:l.ord k with
  |none=>rw[q]at h;cases h
  |some j=>
   rw[q]at h;cases q1:l.mt u with
   |none=>rw[q1]at e;cases e
   |some xs=>
    rw[q1]at e;cases q2:mts ls us with
    |none=>rw[q2]at e;cases e
    |some zs=>
     rw[q2]at e;cases e;obtain⟨h1,h2⟩:=zsh l u xs k j q q1;obtain⟨h3,h4⟩:=zpr ls us zs j m (by simpa using hl) h q2;refine⟨by rw[ba];omega,λpre post hp=>?_⟩;rw[fills];have e1:=h2 pre (zs++post) hp;have e2:=h4 (pre++xs) post (by rw[ba];omega);have a1:pre++(xs++zs)++post=pre++xs++(zs++post):=by simp
     have a2:pre++(xs++zs)++post=pre++xs++zs++post:=by simp
     rw[a1,e1,←a1,a2,e2]
end
theorem zlW{n:Nat}{h c d:Str}{L:Tr}(hL:L∈leftsL n h c d):L.ord 0=ae L.nb:=by
 unfold leftsL at hL;split at hL<;>simp only[av,bo,or_false]at hL
 all_goals first
  | (subst hL;simp [Tr.ord,zqa,Tr.nb,nbs])
  | (rcases hL with rfl |rfl<;>simp [Tr.ord,zqa,Tr.nb,nbs])
theorem zfH{n:Nat}{h c d:Str}{P:Str→Prop}(hc:P c) (hd:P d) {L:Tr}(hL:L∈leftsL n h c d):∃ls,L= .nd h ls∧hbs P ls:=by
 unfold leftsL at hL;split at hL<;>simp only[av,bo,or_false]at hL
 all_goals first
  | (subst hL;exact⟨_,rfl,by simp [hbs,Tr.hb,hc,hd]⟩)
  | (rcases hL with rfl |rfl<;>exact⟨_,rfl,by simp [hbs,Tr.hb,hc,hd]⟩)
section
variable {w0 w1 w2 w3 w4 w5:Str}{tt:List Str}{B:List Tn}
theorem BookOk.mem_lefts (b:BookOk w0 w1 w2 w3 w4 w5 tt B) {t:Tn}(ht:t∈B):∃n,t.2.1∈leftsL n w0 w2 w3∨t.2.1∈leftsL n w1 w2 w3:=by
 obtain⟨n,m,e⟩:=b.lf;have:t.2.1∈leftsL n w0 w2 w3++leftsL m w1 w2 w3:=by rw[←e];exact aZ.mpr ⟨t,ht,rfl⟩
 rcases bb.mp this with z |z
 ·exact⟨n, .inl z⟩
 ·exact⟨m, .inr z⟩
theorem BookOk.ort (b:BookOk w0 w1 w2 w3 w4 w5 tt B) (G:Signs w0 w1 w2 w3 w4 w5):Ort B:=by
 have top:∀z,z≠w0→z≠w1→zxX B z:=λz h0 h1 u hu s ls e=>by
  obtain⟨n,z |z⟩:=b.mem_lefts hu
  ·obtain⟨l,e',_⟩:=zfH (P:=λ_=>True) trivial trivial z;rw[e]at e';cases e';exact h0.symm
  ·obtain⟨l,e',_⟩:=zfH (P:=λ_=>True) trivial trivial z;rw[e]at e';cases e';exact h1.symm
 have t2:=top w2 (G.n0 w2 (by simp)).symm (G.n1 w2 (by simp)).symm;have t3:=top w3 (G.n0 w3 (by simp)).symm (G.n1 w3 (by simp)).symm;have od:∀t∈B,t.2.1.ord 0=ae t.2.1.nb:=λt ht=>by
  obtain⟨n,z |z⟩:=b.mem_lefts ht
  ·exact zlW z
  ·exact zlW z
 refine⟨λt ht=>?_,b.mt,λt ht x ys e=>?_,λu hu v hv x h1 h2=>zlo (b.inj G) hu hv (b.one G hu hv h1 h2),od⟩
 ·obtain⟨n,z |z⟩:=b.mem_lefts ht
  ·obtain⟨l,e',h⟩:=zfH t2 t3 z;exact⟨_,_,e',h⟩
  ·obtain⟨l,e',h⟩:=zfH t2 t3 z;exact⟨_,_,e',h⟩
 ·have ho:=od t ht;obtain⟨h1,h2⟩:=zsh _ _ _ _ _ ho e;have:=h2 [] [] rfl;simp only[aR,bf]at this;exact⟨this.symm,by omega⟩
end
structure Wy (ws:List Str) (B:List Tn) (a:Tr):Prop where
  hd:a.hd λs=>s∈ws∨ ∃t∈B,t.1=s
  ar:a.ar B
noncomputable abbrev src (B:List Tn) (a:Tr):Tr:=a.mk B λt=>t.2.1
noncomputable abbrev gol (B:List Tn) (a:Tr):Tr:=a.mk B λt=>t.2.2
section
variable {ws:List Str}{B:List Tn}
theorem zkK{P:Str→Prop}:∀{ts:List Tr}{t:Tr},hds P ts→t∈ts→t.hd P
 |u::ts,t,h,ht=>by
  rw[hds]at h;rcases av.mp ht with rfl |ht
  ·exact h.1
  ·exact zkK h.2 ht
theorem zkF:∀{ts:List Tr}{t:Tr},ars B ts→t∈ts→t.ar B
 |u::ts,t,h,ht=>by
  rw[ars]at h;rcases av.mp ht with rfl |ht
  ·exact h.1
  ·exact zkF h.2 ht
theorem Wy.cases (b:BkOk ws ws B) {a:Tr}(h:Wy ws B a):(∃s as,a= .nd s as∧s∈ws∧zaI B s=none∧ ∀x∈as,Wy ws B x)∨(∃t as,t∈B∧a= .nd t.1 as∧zaI B t.1=ae t∧as.length=t.2.1.nb∧ ∀x∈as,Wy ws B x):=by
 obtain⟨h1,h2⟩:=h;cases a with
 |bl n=>rw[Tr.hd]at h1;exact h1.elim
 |nd s as=>
  rw[Tr.hd]at h1;rw[Tr.ar]at h2;have kids:∀x∈as,Wy ws B x:=λx hx=>⟨zkK h1.2 hx,zkF h2.2 hx⟩;rcases h1.1 with h |⟨t,ht,rfl⟩
  ·exact .inl ⟨s,as,rfl,h,zdu b.ti (b.sg s h),kids⟩
  ·have e:=zdG b.nd ht;exact .inr ⟨t,as,ht,rfl,e,h2.1 t e,kids⟩
theorem zeK{g:Tn→Tr}{s:Str}{as:List Tr}(h:zaI B s=none):(Tr.nd s as).mk B g= .nd s (as.map (Tr.mk B g)):=by
 rw[Tr.mk,h,zfl]
theorem zdM{g:Tn→Tr}{t:Tn}{as:List Tr}(h:zaI B t.1=ae t):(Tr.nd t.1 as).mk B g=(g t).fill (as.map (Tr.mk B g)):=by
 rw[Tr.mk,h,zfl]
mutual
theorem zwp (b:BkOk ws ws B) (O:Ort B):∀(L a:Tr),L.hb (zxX B)→Wy ws B a→(L.mt (src B a)).isSome=true→(L.mt a).isSome=true
 | .bl n,a,_,_,_=>by rw[Tr.mt];rfl
 | .nd z ls,a,hL,ha,h=>by
  rw[Tr.hb]at hL;rcases ha.cases b with⟨s,as,rfl,hs,e,kids⟩ |⟨t,as,ht,rfl,e,hl,kids⟩
  ·rw[show src B (.nd s as)= .nd s (as.map (src B)) from zeK e,Tr.mt,aq]at h;rw[Tr.mt];split at h
   ·rename_i hc;rw[if_pos hc];exact zko b O ls as hL.2 kids h
   ·cases h
  ·obtain⟨s0,l0,e0,_⟩:=O.inn t ht;rw[show src B (.nd t.1 as)=t.2.1.fill (as.map (src B)) from zdM e,e0,Tr.fill]at h;exact absurd (zkE h).symm (hL.1 t ht s0 l0 e0)
theorem zko (b:BkOk ws ws B) (O:Ort B):∀(ls as:List Tr),hbs (zxX B) ls→(∀x∈as,Wy ws B x)→(mts ls (as.map (src B))).isSome=true→(mts ls as).isSome=true
 | [],as,_,_,_=>by rw[mts];rfl
 |l::ls,[],_,_,_=>by rw[mts];rfl
 |l::ls,a::as,hL,ha,h=>by
  rw[hbs]at hL;rw[aD,mts]at h;cases q1:l.mt (src B a) with
  |none=>rw[q1]at h;cases h
  |some xs=>
   rw[q1]at h;cases q2:mts ls (as.map (src B)) with
   |none=>rw[q2]at h;cases h
   |some zs=>
    have h1:=zwp b O l a hL.1 (ha a (by simp)) (by rw[q1];rfl);have h2:=zko b O ls as hL.2 (λx hx=>ha x (aH _ hx)) (by rw[q2];rfl);obtain⟨x1,h1⟩:=eE.mp h1;obtain⟨x2,h2⟩:=eE.mp h2;rw[mts,h1,h2];rfl
end
end
section
variable {ws:List Str}{B:List Tn}
theorem Wy.kids{s:Str}{as:List Tr}(h:Wy ws B (.nd s as)):∀x∈as,Wy ws B x:=λx hx=>by
 obtain⟨h1,h2⟩:=h;rw[Tr.hd]at h1;rw[Tr.ar]at h2;exact⟨zkK h1.2 hx,zkF h2.2 hx⟩
mutual
theorem zuE:∀(L a:Tr) (ys:List Tr),L.mt a=ae ys→Wy ws B a→ ∀y∈ys,Wy ws B y
 | .bl n,a,ys,e,h,y,hy=>by
  rw[Tr.mt]at e;cases e;rw[bn]at hy;rw[hy];exact h
 | .nd s ls, .bl n,ys,e,h,y,hy=>by rw[Tr.mt]at e;cases e
 | .nd s ls, .nd z us,ys,e,h,y,hy=>by
  rw[Tr.mt]at e;split at e
  ·exact zsC ls us ys e h.kids y hy
  ·cases e
theorem zsC:∀(ls us ys:List Tr),mts ls us=ae ys→(∀x∈us,Wy ws B x)→ ∀y∈ys,Wy ws B y
 | [],us,ys,e,h,y,hy=>by rw[mts]at e;cases e;cases hy
 |l::ls,[],ys,e,h,y,hy=>by rw[mts]at e;cases e;cases hy
 |l::ls,u::us,ys,e,h,y,hy=>by
  rw[mts]at e;cases q1:l.mt u with
  |none=>rw[q1]at e;cases e
  |some xs=>
   rw[q1]at e;cases q2:mts ls us with
   |none=>rw[q2]at e;cases e
   |some zs=>
    rw[q2]at e;cases e;rcases bb.mp hy with hy |hy
    ·exact zuE l u xs q1 (h u (by simp)) y hy
    ·exact zsC ls us zs q2 (λx hx=>h x (aH _ hx)) y hy
end
theorem zly (b:BkOk ws ws B) {t:Tn}(ht:t∈B) {vs:List Tr}(hl:vs.length=t.2.1.nb) (g:Tn→Tr):(t.2.1.fill vs).mk B g=t.2.1.fill (vs.map (Tr.mk B g)):=
 zhV b.ti _ (b.lf t ht).hb (by rw[hl];exact(b.lf t ht).fits)
theorem zgb (b:BkOk ws ws B) (O:Ort B) {t:Tn}(ht:t∈B) {s:Str}{bs us:List Tr}(e:zaI B s=none) (hw:Wy ws B (.nd s bs)) (hl:us.length=t.2.1.nb) (h:src B (.nd s bs)=t.2.1.fill us) :
  ∃vs, .nd s bs=t.2.1.fill vs∧vs.length=t.2.1.nb∧vs.map (src B)=us∧(∀x∈vs,Wy ws B x)∧wts vs≤(Tr.nd s bs).weight:=by
 obtain⟨s0,ls,e0,hin⟩:=O.inn t ht;have hm:t.2.1.mt (src B (.nd s bs))=ae us:=by rw[h];exact O.mt t ht us hl
 have h1:(t.2.1.mt (.nd s bs)).isSome=true:=by
  have hm':=hm;rw[show src B (.nd s bs)= .nd s (bs.map (src B)) from zeK e,e0,Tr.mt,aq]at hm';rw[e0,Tr.mt];split at hm'
  ·rename_i hc;rw[if_pos hc];exact zko b O ls bs hin hw.kids (by rw[hm'];rfl)
  ·cases hm'
 obtain⟨vs,hv⟩:=eE.mp h1;obtain⟨h2,h3⟩:=O.fm t ht _ _ hv;refine⟨vs,h2,h3,?_,zuE _ _ _ hv hw,zjm _ _ _ hv⟩;rw[h2,show src B (t.2.1.fill vs)=_ from zly b ht h3 _,O.mt t ht _ (by rw[aq,h3])]at hm;exact aG hm
theorem zfU{s:Str}{as:List Tr}:(Tr.nd s as).weight=1+wts as:=by rw[Tr.weight]
inductive PlB (P:Int→Prop):Pl→Prop
 |sign {b:Int}{h:Str}{ps:List Pl}:(∀p∈ps,PlB P p)→PlB P (.nd (-1) b h ps)
 |turn {k:Nat}{b:Int}{h:Str}{ps:List Pl}:P b→(∀p∈ps,PlB P p)→PlB P (.nd k b h ps)
def zvI (x:Int):Prop:=x=1∨x=2∨x=3
theorem ztg (b:BkOk ws ws B) (O:Ort B):∀(n:Nat) (x y:Tr),x.weight+y.weight≤n→Wy ws B x→Wy ws B y→src B x=src B y→ ∃p,PlOk ws B p∧PlB zvI p∧p.ev B (byC 1)=x∧p.ev B (byC 2)=y
 |0,x,y,hn,hx,hy,e=>by
  rcases hx.cases b with⟨s,as,rfl,_⟩ |⟨t,as,_,rfl,_⟩<;>rw[zfU]at hn<;>omega
 |n+1,x,y,hn,hx,hy,e=>by
  have lists:∀(xs ys:List Tr),wts xs+wts ys≤n→(∀x∈xs,Wy ws B x)→(∀y∈ys,Wy ws B y)→xs.map (src B)=ys.map (src B)→ ∃ps:List Pl,(∀p∈ps,PlOk ws B p)∧(∀p∈ps,PlB zvI p)∧ps.map (Pl.ev B (byC 1))=xs∧ps.map (Pl.ev B (byC 2))=ys:=by
   intro xs
   induction xs with
   |nil=>
    intro ys _ _ _ e;cases ys with
    |nil=>exact⟨[],by simp,by simp,rfl,rfl⟩
    |cons y ys=>cases e
   |cons x xs ih=>
    intro ys hw h1 h2 e;cases ys with
    |nil=>cases e
    |cons y ys=>
     rw[aD,aD,iF]at e;rw[wts,wts]at hw;obtain⟨p,hp,hq,e1,e2⟩:=ztg b O n x y (by omega) (h1 x (by simp)) (h2 y (by simp)) e.1;obtain⟨ps,hps,hqs,e3,e4⟩:=ih ys (by omega) (λz hz=>h1 z (aH _ hz)) (λz hz=>h2 z (aH _ hz)) e.2;exact⟨p::ps,λq hq=>by
      rcases av.mp hq with rfl |hq
      ·exact hp
      ·exact hps q hq,λq hz=>by
      rcases av.mp hz with rfl |hz
      ·exact hq
      ·exact hqs q hz,by rw[aD,e1,e3],by rw[aD,e2,e4]⟩
  rcases hx.cases b with⟨s,as,rfl,hs,es,ka⟩ |⟨t,as,ht,rfl,et,la,ka⟩
  ·rcases hy.cases b with⟨s',bs,rfl,hs',es',kb⟩ |⟨t,bs,ht,rfl,et,lb,kb⟩
   ·rw[show src B (.nd s as)=_ from zeK es,show src B (.nd s' bs)=_ from zeK es']at e;injection e with e1 e2;subst e1;rw[zfU,zfU]at hn;obtain⟨ps,hps,hqs,e3,e4⟩:=lists as bs (by omega) ka kb e2;exact⟨.nd (-1) 0 s ps, .sign hs hps, .sign hqs,by rw[zcA,e3],by rw[zcA,e4]⟩
   ·rw[show src B (.nd t.1 bs)=_ from zdM et]at e;obtain⟨vs,ev,lv,ms,kv,wv⟩:=zgb b O ht es hx (by rw[aq,lb]) e;rw[zfU (s:=t.1)]at hn;obtain⟨ps,hps,hqs,e3,e4⟩:=lists vs bs (by omega) kv kb ms;obtain⟨k,hk⟩:=gY ht;refine⟨.nd k 2 t.1 ps, .turn hk (by rw[←lb,←e4,aq]) (by decide) (by decide) hps, .turn (by unfold zvI;decide) hqs,?_,?_⟩
    ·rw[zbB hk,e3,ev,show byC 1 2=0 by decide];rfl
    ·rw[zbB hk,e4,show byC 2 2=1 by decide];rfl
  ·rcases hy.cases b with⟨s,bs,rfl,hs,es,kb⟩ |⟨u,bs,hu,rfl,eu,lb,kb⟩
   ·rw[show src B (.nd t.1 as)=_ from zdM et]at e;obtain⟨vs,ev,lv,ms,kv,wv⟩:=zgb b O ht es hy (by rw[aq,la]) e.symm;rw[zfU (s:=t.1)]at hn;obtain⟨ps,hps,hqs,e3,e4⟩:=lists as vs (by omega) ka kv ms.symm;obtain⟨k,hk⟩:=gY ht;refine⟨.nd k 1 t.1 ps, .turn hk (by rw[←la,←e3,aq]) (by decide) (by decide) hps, .turn (by unfold zvI;decide) hqs,?_,?_⟩
    ·rw[zbB hk,e3,show byC 1 1=1 by decide];rfl
    ·rw[zbB hk,e4,ev,show byC 2 1=0 by decide];rfl
   ·rw[show src B (.nd t.1 as)=_ from zdM et,show src B (.nd u.1 bs)=_ from zdM eu]at e;have m1:=O.mt t ht (as.map (src B)) (by rw[aq,la]);have m2:=O.mt u hu (bs.map (src B)) (by rw[aq,lb]);have:t=u:=O.one t ht u hu _ (by rw[m1];rfl) (by rw[show(t.2.1.fill (as.map (src B)))=_ from e,m2];rfl)
    subst this;have e2:as.map (src B)=bs.map (src B):=by
     rw[show(t.2.1.fill (as.map (src B)))=_ from e,m2]at m1;exact(aG m1).symm
    rw[zfU,zfU]at hn;obtain⟨ps,hps,hqs,e3,e4⟩:=lists as bs (by omega) ka kb e2;obtain⟨k,hk⟩:=gY ht;refine⟨.nd k 3 t.1 ps, .turn hk (by rw[←la,←e3,aq]) (by decide) (by decide) hps, .turn (by unfold zvI;decide) hqs,?_,?_⟩
    ·rw[zbB hk,e3,show byC 1 3=1 by decide];rfl
    ·rw[zbB hk,e4,show byC 2 3=1 by decide];rfl
end
theorem zpv:∀xs ys:List Tr,wts (xs++ys)=wts xs+wts ys
 | [],ys=>by rw[aR,wts,cP]
 |x::xs,ys=>by rw[cG,wts,wts,zpv xs ys,Nat.add_assoc]
mutual
theorem zmi:∀(L:Tr) (k m:Nat),L.ord k=ae m→k≤m∧L.nb+k=m∧ ∀(us:List Tr),m≤us.length→(L.fill us).weight+(m - k)=L.weight+wts ((us.drop k).take (m - k))∧ ∀u∈(us.drop k).take (m - k),u.depth≤(L.fill us).depth
 | .bl n,k,m,h=>by
  rw[Tr.ord]at h;split at h
  ·rename_i hn;cases h;refine⟨by omega,by rw[Tr.nb];omega,λus hu=>?_⟩
   have hk:k<us.length:=by omega
   have e:(us.drop k).take (k+1 - k)=[us[k]]:=by
    rw[show k+1 - k=1 by omega,fE hk]
    rfl
   have f:(Tr.bl n).fill us=us[k]:=by
    rw[Tr.fill,hn,bK,bE,aU hk];rfl
   rw[e,f];refine⟨?_,λu hu=>?_⟩
   ·simp only[Tr.weight,wts];omega
   ·rw[bn]at hu;rw[hu];exact aB _
  ·cases h
 | .nd s ls,k,m,h=>by
  rw[Tr.ord]at h;obtain⟨h1,h2,h3⟩:=zgv ls k m h;refine⟨h1,by rw[Tr.nb];exact h2,λus hu=>?_⟩
  obtain⟨h4,h5⟩:=h3 us hu;rw[Tr.fill,Tr.weight,Tr.weight,Tr.depth];exact⟨by omega,λu hu'=>bM (h5 u hu') (by omega)⟩
theorem zgv:∀(ls:List Tr) (k m:Nat),zqa k ls=ae m→k≤m∧nbs ls+k=m∧ ∀(us:List Tr),m≤us.length→wts (fills us ls)+(m - k)=wts ls+wts ((us.drop k).take (m - k))∧ ∀u∈(us.drop k).take (m - k),u.depth≤dts (fills us ls)
 | [],k,m,h=>by
  rw[zqa]at h;cases h;refine⟨aB _,by rw[nbs];omega,λus _=>?_⟩
  rw[Nat.sub_self,i7,fills];exact⟨rfl,λu hu=>by cases hu⟩
 |l::ls,k,m,h=>by
  rw[zqa]at h;cases q:l.ord k with
  |none=>rw[q]at h;cases h
  |some j=>
   rw[q]at h;obtain⟨h1,h2,h3⟩:=zmi l k j q;obtain⟨g1,g2,g3⟩:=zgv ls j m h;refine⟨by omega,by rw[nbs];omega,λus hu=>?_⟩
   obtain⟨h4,h5⟩:=h3 us (by omega);obtain⟨g4,g5⟩:=g3 us hu;have e:(us.drop k).take (m - k)=(us.drop k).take (j - k)++(us.drop j).take (m - j):=by
    rw[show m - k=(j - k)+(m - j) by omega,List.take_add,List.drop_drop,show k+(j - k)=j by omega]
   rw[e,zpv,fills,wts,wts,dts];refine⟨by omega,λu hu=>?_⟩;rcases bb.mp hu with hu |hu
   ·have:=h5 u hu;omega
   ·have:=g5 u hu;omega
end
theorem zpp:∀(L:Tr),L.nb≤L.weight:=λL=>by rw[←zos];exact zti L
theorem zoj:∀ls:List Tr,nbs ls≤wts ls
 | []=>by rw[nbs,wts];exact aB _
 |l::ls=>by rw[nbs,wts];have:=zpp l;have:=zoj ls;omega
section
variable {B:List Tn}
theorem Ort.fill (O:Ort B) {t:Tn}(ht:t∈B) {us:List Tr}(hl:us.length=t.2.1.nb):(t.2.1.fill us).weight+t.2.1.nb=t.2.1.weight+wts us∧1+wts us≤(t.2.1.fill us).weight∧1+dts us≤(t.2.1.fill us).depth:=by
 obtain⟨s,ls,e,_⟩:=O.inn t ht;have ho:=O.od t ht;obtain⟨_,h2,h3⟩:=zmi _ _ _ ho;obtain⟨h4,_⟩:=h3 us (by omega);rw[eS,dh,dD (by omega)]at h4;have hw:1+t.2.1.nb≤t.2.1.weight:=by
  rw[e,Tr.nb,Tr.weight];have:=zoj ls;omega
 refine⟨h4,by omega,?_⟩
 rw[e]at ho hl⊢;rw[Tr.ord]at ho;obtain⟨_,_,g3⟩:=zgv _ _ _ ho;obtain⟨_,g5⟩:=g3 us (by omega);rw[eS,dh,dD (by omega)]at g5;rw[Tr.fill,Tr.depth];have:=zsG g5;omega
noncomputable def zr:Int→Nat:=λ_=>0
end
section
variable {B:List Tn}
mutual
noncomputable def Tr.ne (B:List Tn):Tr→Nat
 | .bl _=>0
 | .nd s ts=>(match zaI B s with
  |none=>0
  |some _=>1)+nes B ts
noncomputable def nes (B:List Tn):List Tr→Nat
 | []=>0
 |t::ts=>max (t.ne B) (nes B ts)
end
theorem znH{t:Tr}:∀{ts:List Tr},t∈ts→t.ne B≤nes B ts
 |u::ts,h=>by
  rw[nes];rcases av.mp h with rfl |h
  ·omega
  ·have:=znH h;omega
theorem znb{n:Nat}:∀{ts:List Tr},(∀t∈ts,t.ne B≤n)→nes B ts≤n
 | [],_=>by rw[nes];omega
 |t::ts,h=>by
  rw[nes];have:=h t (by simp);have:=znb λu hu=>h u (aH _ hu);omega
mutual
theorem znO (hB:∀t∈B,zdy t.1) {us:List Tr}:∀t:Tr,t.hb zcN→(t.fill us).ne B≤nes B us
 | .bl n,_=>by
  rw[Tr.fill,bE];cases e:us[n.toNat]? with
  |none=>simp [Tr.ne]
  |some u=>exact znH (a_ e)
 | .nd s ts,h=>by
  rw[Tr.hb]at h;rw[Tr.fill,Tr.ne,zdu hB h.1];have:=zle hB (us:=us) ts h.2;simpa using this
theorem zle (hB:∀t∈B,zdy t.1) {us:List Tr}:∀ts:List Tr,hbs zcN ts→nes B (fills us ts)≤nes B us
 | [],_=>by rw[fills,nes];omega
 |t::ts,h=>by
  rw[hbs]at h;rw[fills,nes];have:=znO hB (us:=us) t h.1;have:=zle hB (us:=us) ts h.2;omega
end
end
open Classical in
noncomputable def res (B:List Tn) (x y:Tr):Tr:=if h:∃z n,Mv B n x y z then choose h else x
structure Bk3 (ws:List Str) (B:List Tn):Prop where
  b:BkOk ws ws B
  O:Ort B
  lw:∀t∈B,t.2.1.hb λs=>s∈ws
structure Bk2 (ws:List Str) (B:List Tn):Prop extends Bk3 ws B where
  sl:zzF B
instance {ws:List Str}{B:List Tn}:Coe (Bk2 ws B) (Bk3 ws B):=⟨Bk2.toBk3⟩
section
variable {ws:List Str}{B:List Tn}{x y:Tr}{p:Pl}
theorem Bk3.wy (K:Bk3 ws B) {c:Int→Nat}{p:Pl}(h:PlOk ws B p):Wy ws B (p.ev B c):=by
 refine⟨?_,zxi _ (zxF K.b h)⟩
 induction h with
 | @sign b' h ps hh hp ih=>
  rw[zcA,Tr.hd,hds_iff];refine⟨.inl hh,λu hu=>?_⟩;obtain⟨p,hp,rfl⟩:=aZ.mp hu;exact ih p hp
 | @turn k b' h ps t e hl b0 b1 hp ih=>
  have ht:t∈B:=a_ e;have hu:∀u∈ps.map (Pl.ev B c),u.hd λs=>s∈ws∨ ∃t∈B,t.1=s:=λu hu=>by
   obtain⟨p,hp,rfl⟩:=aZ.mp hu;exact ih p hp
  rw[zbB e];unfold evT;split
  ·exact zie hu _ (zou (λs hs=> .inl hs) _ (K.lw t ht)) (by rw[aq,hl];exact(K.b.lf t ht).fits)
  ·rw[Tr.hd,hds_iff];exact⟨.inr ⟨t,ht,rfl⟩,hu⟩
  ·exact zie hu _ ((K.b.ri t ht).hb (λs hs=> .inl hs)) (by rw[aq,hl];exact(K.b.ri t ht).fits)
structure Two (ws:List Str) (B:List Tn) (x y:Tr):Prop where
  K:Bk3 ws B
  ex:∃p c d,Pk ws ws B p∧One c∧One d∧p.ev B c=x∧p.ev B d=y
theorem Two.symm (h:Two ws B x y):Two ws B y x:=by
 obtain⟨p,c,d,k,hc,hd,e1,e2⟩:=h.ex;exact⟨h.K,p,d,c,k,hd,hc,e2,e1⟩
end
section
variable {ws:List Str}{B:List Tn}{x t:Tr}
structure Bd (t:Tr) (n:Nat):Prop where
  w:2 ^ n*t.weight≤400
  d:t.depth+3*n≤40
theorem zyt (b:BkOk ws ws B) {p:Pl}(h:PlOk ws B p):(p.ev B zr).ne B=0:=by
 induction h with
 | @sign b' h ps hh hp ih=>
  have:nes B (ps.map (Pl.ev B zr))≤0:=znb λu hu=>by
   obtain⟨p,hp,rfl⟩:=aZ.mp hu;rw[ih p hp];exact aB _
  have e:=zdu b.ti (b.sg h hh);rw[zcA,Tr.ne,e];show 0+_=0;omega
 | @turn k b' h ps t e hl b0 b1 hp ih=>
  have ht:t∈B:=a_ e;have:nes B (ps.map (Pl.ev B zr))≤0:=znb λu hu=>by
   obtain⟨p,hp,rfl⟩:=aZ.mp hu;rw[ih p hp];exact aB _
  have:=znO b.ti (us:=ps.map (Pl.ev B zr)) t.2.1 (b.lf t ht).hb;rw[zbB e];show(t.2.1.fill _).ne B=0;omega
theorem Bk3.src (K:Bk3 ws B) (h:Wy ws B x):Wy ws B (src B x)∧L2.src B (src B x)=L2.src B x∧(L2.src B x).ne B=0∧gol B (L2.src B x)=L2.src B x:=by
 obtain⟨p,hp,_,rfl,_⟩:=ztg K.b K.O _ x x (aB _) h h rfl;have e:L2.src B (p.ev B (byC 1))=p.ev B zr:=by
  show(p.ev B (byC 1)).mk B (λt=>t.2.1)=_;rw[zlI K.b hp];exact zkI hp (zxz 1).src
 rw[e];refine⟨K.wy hp,?_,zyt K.b hp,?_⟩
 ·show(p.ev B zr).mk B (λt=>t.2.1)=_;rw[zlI K.b hp];rfl
 ·show(p.ev B zr).mk B (λt=>t.2.2)=_;rw[zpo K.b hp];rfl
theorem Bk3.gol (K:Bk3 ws B) (h:Wy ws B x):Wy ws B (gol B x)∧L2.src B (L2.gol B x)=L2.gol B x∧(L2.gol B x).ne B=0∧L2.gol B (L2.gol B x)=L2.gol B x:=by
 obtain⟨p,hp,_,rfl,_⟩:=ztg K.b K.O _ x x (aB _) h h rfl;have e:L2.gol B (p.ev B (byC 1))=p.ev B (zew (byC 1)):=zpo K.b hp;have tg:∀x,zew (byC 1) x≠1:=λx=>by unfold zew;split<;>omega
 have s:L2.src B (p.ev B (zew (byC 1)))=p.ev B (zew (byC 1)):=by
  show(p.ev B (zew (byC 1))).mk B (λt=>t.2.1)=_;rw[zlI K.b hp];exact zkI hp λb _ _=>by rw[zkq,if_neg (tg b)]
 have w:Wy ws B (p.ev B (zew (byC 1))):=K.wy hp;rw[e];refine⟨w,s,?_,?_⟩
 ·have:=(K.src w).2.2.1;rwa [s]at this
 ·have:=(K.src w).2.2.2;rwa [s]at this
end
noncomputable def Roa (ws:List Str) (B:List Tn):Tr→List Tr→Prop
 |_,[]=>True
 |t,x::xs=>Wy ws B x∧src B x=t∧Roa ws B (gol B x) xs
noncomputable def nR (B:List Tn):List Tr→Nat
 | []=>0
 |x::xs=>x.ne B+nR B xs
noncomputable def zqP (B:List Tn):Tr→List Tr→List Tr
 |x,[]=>[x]
 |x,o::os=>x::zqP B (res B x o) os
noncomputable def zvg (B:List Tn):Tr→List Tr→List Tr
 |_,[]=>[]
 |x,o::os=>res B o x::zvg B (res B x o) os
noncomputable def zwg (B:List Tn):Tr→List Tr→Tr
 |x,[]=>x
 |x,o::os=>zwg B (res B x o) os
noncomputable def zwj (B:List Tn):List Tr→List Tr→List (List Tr)
 | [],_=>[]
 |x::xs,os=>zqP B x os::zwj B xs (zvg B x os)
noncomputable def zwB (B:List Tn):List Tr→List Tr→List (List Tr)
 | [],os=>[os]
 |x::xs,os=>os::zwB B xs (zvg B x os)
noncomputable def zyz (B:List Tn):List Tr→List Tr→List Tr
 | [],_=>[]
 |x::xs,os=>zwg B x os::zyz B xs (zvg B x os)
noncomputable def zyG (B:List Tn):List Tr→List Tr→List Tr
 | [],os=>os
 |x::xs,os=>zyG B xs (zvg B x os)
section
variable {B:List Tn}
theorem zqr:∀(os:List Tr) (x:Tr),(zqP B x os).length=os.length+1
 | [],x=>rfl
 |o::os,x=>by rw[zqP,aV,zqr os];rfl
end
structure Sh (ws:List Str) (B:List Tn) (t:Tr):Prop where
  wy:Wy ws B t
  q:src B t=t
section
variable {ws:List Str}{B:List Tn}
theorem Sh.cases (K:Bk3 ws B) {t:Tr}(h:Sh ws B t):∃s ts,t= .nd s ts∧s∈ws∧zaI B s=none∧ ∀x∈ts,Sh ws B x:=by
 rcases h.wy.cases K.b with⟨s,ts,rfl,hs,e,k⟩ |⟨u,ts,hu,rfl,e,hl,k⟩
 ·have q:=h.q;rw[show src B (.nd s ts)=_ from zeK e]at q;injection q with _ q;refine⟨s,ts,rfl,hs,e,λx hx=>⟨k x hx,?_⟩⟩;obtain⟨i,hi,rfl⟩:=ia hx;have:=congrArg (λl=>l[i]?) q;simp only[aX,aU hi]at this;exact aG this
 ·have q:=h.q;rw[show src B (.nd u.1 ts)=_ from zdM e]at q;obtain⟨s0,l0,e0,_⟩:=K.O.inn u hu;have hb:=(K.b.lf u hu).hb;rw[e0,Tr.hb]at hb;rw[e0,Tr.fill]at q;injection q with q _;exact absurd q (zem hb.1 (K.b.ti u hu))
theorem Sh.parts (K:Bk3 ws B) {t:Tr}(h:Sh ws B t) {u:Tn}(hu:u∈B) {ms:List Tr}(e:u.2.1.mt t=ae ms):t=u.2.1.fill ms∧ms.length=u.2.1.nb∧ ∀x∈ms,Sh ws B x:=by
 obtain⟨h1,h2⟩:=K.O.fm u hu _ _ e;refine⟨h1,h2,λx hx=>⟨zuE _ _ _ e h.wy x hx,?_⟩⟩;have q:=h.q;rw[h1,show src B (u.2.1.fill ms)=_ from zly K.b hu h2 _]at q;have m1:=K.O.mt u hu ms h2;have m2:=K.O.mt u hu (ms.map (src B)) (by rw[aq,h2]);rw[show u.2.1.fill (ms.map (src B))=_ from q,m1]at m2;have q:=aG m2;obtain⟨i,hi,rfl⟩:=ia hx;have:=congrArg (λl=>l[i]?) q;simp only[aX,aU hi]at this;exact(aG this).symm
def zAd (B:List Tn) (wn:List (List Int)) (p:List Int) (t:Tr):Prop:=∀q∈wn,∀e v,q=p++e→t.at e=ae v→(zdj B v).isSome=true
theorem zuY{s:Str}{ts:List Tr}{i:Nat}{u:Tr}(h:ts[i]? =ae u) (e:List Int):(Tr.nd s ts).at ((i:Int)::e)=u.at e:=by
 rw[Tr.at,if_neg (by omega),bK,h]
end
structure At (S0 S:Sto) (d o b:Addr) (xs:List Tr):Prop where
  d:b≠d
  o:b≠o
  e:S b=ae (.lst (xs.map enc))
  z:S0 b=none
noncomputable abbrev Ats (S0 S:Sto) (d o:Addr) (bs:List Addr) (xss:List (List Tr)):Prop:=bR (At S0 S d o) bs xss
section
variable {B:List Tn}{d o:Addr}{xs os:List Tr}{S:Sto}
structure Grd (S0 S:Sto) (B:List Tn) (xs os:List Tr) (d o:Addr):Prop where
  sub:Sub S0 S
  d0:S0 d=none
  o0:S0 o=none
  ne:d≠o
  ex:∃ds rs,S d=ae (.lst (ds.map W.ref))∧S o=ae (.lst (rs.map W.ref))∧Ats S0 S d o ds (zwj B xs os)∧Ats S0 S d o rs (zwB B xs os)
end
noncomputable def opl (B:List Tn) (t:Tr):List (List Int):=(t.op B []).map λx=>x.1
theorem Sh.hdT{ws:List Str}{B:List Tn}{t:Tr}(h:Sh ws B t):t.hd λ_=>True:=zfo (λ_ _=>trivial) _ h.wy.hd
theorem Sh.wn{ws:List Str}{B:List Tn}{t:Tr}(h:Sh ws B t) {wn:List (List Int)}(hw:∀q∈wn,q∈opl B t):zAd B wn [] t:=by
 intro q hq e v he hv;rw[aR]at he;subst he;obtain⟨x,hx,rfl⟩:=aZ.mp (hw q hq);rw[←zlh B t [] (zeG _ h.hdT)]at hx;obtain⟨y,hy,hx⟩:=iM.mp hx;unfold zow at hx;obtain⟨u,hu,rfl⟩:=aZ.mp hx;have:=(zhL hy).1;rw[this]at hv;cases hv;cases e:zdj B y.2 with
 |none=>rw[e]at hu;cases hu
 |some _=>rfl
structure Rds (S:Sto) (ws:List Str) (B:List Tn) (ab:Addr) (t:Tr) (l1 l2:Addr) (xs os:List Tr):Prop where
  K:Bk2 ws B
  fb:S ab=ae (.lst (B.map zbh))
  sh:Sh ws B t
  bd:Bd t 4
  f1:S l1=ae (.lst (xs.map enc))
  f2:S l2=ae (.lst (os.map enc))
  r1:Roa ws B t xs
  r2:Roa ws B t os
  n:nR B xs+nR B os≤4
  x3:xs.length≤3
  o3:os.length≤3
  hB:B.length≤1000
theorem Rds.symm{S:Sto}{ws:List Str}{B:List Tn}{ab:Addr}{t:Tr}{l1 l2:Addr}{xs os:List Tr}(h:Rds S ws B ab t l1 l2 xs os):Rds S ws B ab t l2 l1 os xs:=⟨h.K,h.fb,h.sh,h.bd,h.f2,h.f1,h.r2,h.r1,by have:=h.n;omega,h.o3,h.x3,h.hB⟩
section
variable {ws:List Str}{B:List Tn}{x:Tr}
theorem Sh.quiet (K:Bk3 ws B) (h:Sh ws B x):x.quiet=true:=by
 refine zhv x ?_;have:∀(n:Nat) (x:Tr),x.depth≤n→Sh ws B x→x.hd zcN:=by
  intro n
  induction n with
  |zero=>
   intro x hd h;have:=zaH x;omega
  |succ n ih=>
   intro x hd h;obtain⟨s,ts,rfl,hs,_,k⟩:=h.cases K;rw[Tr.depth]at hd;rw[Tr.hd,hds_iff];exact⟨K.b.sg s hs,λu hu=>ih u (by have:=zbd hu;omega) (k u hu)⟩
 exact this _ x (aB _) h
end
mutual
noncomputable def Tr.wd:Tr→Prop
 | .bl _=>True
 | .nd _ ts=>ts.length≤1000∧wds ts
noncomputable def wds:List Tr→Prop
 | []=>True
 |t::ts=>t.wd∧wds ts
end
theorem wds_iff:∀{ts:List Tr},wds ts↔ ∀t∈ts,t.wd
 | []=>by simp [wds]
 |t::ts=>by simp [wds,wds_iff (ts:=ts)]
theorem zsR{t:Tr}(h:t.wd):t.kids.length≤1000:=by
 cases t with
 |bl n=>simp [Tr.kids]
 |nd s ts=>simpa [Tr.kids]using h.1
theorem ztT{ts:List Tr}(h:∀x∈ts,x.wd):∀x∈ts.flatMap Tr.kids,x.wd:=λx hx=>by
 obtain⟨t,ht,hk⟩:=iM.mp hx;have:=h t ht;cases t with
 |bl n=>simp [Tr.kids]at hk
 |nd s us=>exact wds_iff.mp this.2 x (by simpa [Tr.kids]using hk)
theorem zgf{r:Nat}{a b:Addr}{ps:List W}{E:WX}{D:WEnds}{x0:Option W}(hba:b≠a):∀(ts:List Tr) {S:Sto}{us:List Tr}{x2:Option W},S a=ae (.lst (encs us))→S b=ae (.lst ps)→(∀t∈ts,t.kids.length≤1000)→us.length+1000*ts.length≤500000→
  (∀x2,D.nx [x0,ae (.ref a),x2] (put S a (.lst (encs (us++ts.flatMap Tr.kids)))))→
  forL (wGN 2) (zcC (r+1) zba) E D (λS'=>S' b=ae (.lst ps)) (encs ts) [x0,ae (.ref a),x2] S
 | [],S,us,x2,ha,hb,hA,hl,h=>by
  have:=h x2;simp only[f_,bf,zeb ha]at this;simpa [encs,forL]using this
 |t::ts,S,us,x2,ha,hb,hA,hl,h=>by
  simp only[aV]at hl;have hk:=hA t aN;simp only[encs];refine zbc λN hN=>?_;simp only[zcC];walk_at "wp";simp only[zaj ha,true_and];refine zfE ?_;walk_at "wp";rw[zaj ha];refine⟨zah (by rw[zaM,zaM];omega),hN _ _ _ .refl (by rw[zaN hba];exact hb) ?_⟩;rw[←zdO];refine zgf hba ts zag (by rw[zaN hba];exact hb) (λu hu=>hA u (aH _ hu)) (by rw[ba];omega) λx2=>?_;rw[zbe];have:=h x2;rw[dS,←bI]at this;exact this
theorem zjg{ts:List Tr}{b:Addr}{r:Nat}{S:Sto}{Q:WK}{E:Str→Sto→Prop}(hb:S b=ae (.lst (encs ts))) (hA:∀t∈ts,t.kids.length≤1000) (hw:ts.length≤400) (h:∀a,S a=none→Q (.ref a) (put S a (.lst (encs (ts.flatMap Tr.kids))))):zbD (r+2) [.ref b] S Q E:=by
 rw[zbD];walk_at "wp";refine⟨aS _,λa ha=>?_⟩;have hba:=ztR hb ha;rw[zaj (keep hb ha)];refine zgf (us:=[]) hba ts (by simp [zag,encs]) (keep hb ha) hA (by simp;omega) λx2=>?_;rw[zbe];walk_at "wp";exact⟨_, .refl,h a ha⟩
theorem zkw{t:Tr}{r:Nat}{S:Sto}{Q:WK}{E:Str→Sto→Prop}(hA:t.wd) (h:Q (.bl t.small) S):zdz (r+3) [enc t] S Q E:=by
 rw[zdz];walk_at "wp";refine⟨zah (by decide),λa ha=>?_⟩;refine⟨λm σ S'=>∃(ts:List Tr) (k d:Nat) (b:Addr),m=wts ts∧(∀x∈ts,x.wd)∧k+wts ts=t.weight∧d+dts ts=t.depth∧k≤400∧d≤40∧S b=none∧S'=put S b (.lst (encs ts))∧σ=[ae (enc t),ae (.int k),ae (.int d),ae (.ref b)],⟨_,[t],0,0,a,rfl,(λx hx=>by rw[bn.mp hx];exact hA),by simp [wts],by simp [dts],by decide,by decide,ha,by simp [encs],rfl⟩,?_⟩
 rintro m σ S' ⟨ts,k,d,b,rfl,hds,hwt,hk,hk4,hd4,hb,rfl,rfl⟩;walk_at "wp";cases ts with
 |nil=>
  simp only[encs,List.isEmpty_nil];walk_at "wp";simp only[dts,wts,Nat.add_zero]at hk hwt;have e:t.small=true:=by unfold Tr.small;rw[decide_eq_true (by omega),decide_eq_true (by omega)];rfl
  rw[e]at h;exact⟨_, .put .refl hb,h⟩
 |cons u us=>
  have hne:(encs (u::us)).isEmpty=false:=by simp [encs]
  rw[hne];have hfl:=zlU (u::us);have hdf:=zlO (ts:=u::us) (by simp);have hlw:=zbJ (u::us);simp only[zft];walk_at "wp";rw[zaM];have no:400<t.weight∨40<t.depth→ ∃S'',Sub S'' (put S b (Ob.lst (encs (u::us))))∧Q (W.bl false) S'':=λz=>by
   have e:t.small=false:=by
    unfold Tr.small;rcases z with z |z
    ·rw[decide_eq_false (by omega)];rfl
    ·rw[decide_eq_false (p:=t.depth≤40) (by omega),fT]
   rw[e]at h;exact⟨_, .put .refl hb,h⟩
  split
  ·exact no (.inl (by omega))
  ·split
   ·exact no (.inr (by omega))
   ·refine zjg zag (λx hx=>zsR (hds x hx)) (by omega) λc hc=>?_;obtain⟨hc1,hc2⟩:=zde hc;refine⟨wts ((u::us).flatMap Tr.kids),put S c (.lst (encs ((u::us).flatMap Tr.kids))),by simp only[aV]at hfl;omega, .put2 (.put .refl hb),_,k+(u::us).length,d+1,c,rfl,ztT hds,by omega,by omega,by omega,by omega,hc1,rfl,?_⟩
    push_cast
    rfl
structure SidesW (g:Tn→Tr) (B:List Tn):Prop where
  fits:∀t∈B,(g t).fits t.2.1.nb
  dp:∀t∈B,(g t).depth≤4
  wt:∀t∈B,(g t).weight≤20
section
variable {S:Sto}{a:Addr}{B:List Tn}{n:Int}
theorem ziR (ha:S a=ae (.lst (B.map zbh))) (hn:n=1∨n=2) (hg:SidesW (zaQ n) B):∀(d:Nat) {t:Tr}{r:Nat}{Q:WK}{E:Str→Sto→Prop},t.depth≤d→d+10≤r→t.ar B→t.weight≤1000→Q (enc (t.mk B (zaQ n))) S→zbO (r+1) [.ref a,enc t, .int n] S Q E
 |0,t,r,Q,E,hd,hr,hh,hw,h=>by have:=zaH t;omega
 |d+1, .bl k,r,Q,E,hd,hr,hh,hw,h=>by simp [Tr.ar]at hh
 |d+1, .nd s ts,r,Q,E,hd,hr,hh,hw,h=>by
  simp only[Tr.depth]at hd;simp only[Tr.weight]at hw;simp only[Tr.ar]at hh;have hk:=zbJ ts;obtain⟨r,rfl⟩:∃r',r=r'+1:=⟨r - 1,by omega⟩
  rw[zbO];simp only[enc];walk_at "wp";rw[zaD];refine zbb (λσ=>∃x,σ=[x,ae (.ref a),ae (.int n)]) enc (λt=>enc (t.mk B (zaQ n))) trivial ts [] _ ⟨none,rfl⟩ (by simp;omega) (λx hx σ R hI hR=>?_) ?_
  ·obtain⟨y,rfl⟩:=hI;have hdx:=zbd hx;have hwx:=zbA hx;simp only[zeD];walk_at "wp";exact ziR ha hn hg d (by omega) (by omega) (ars_iff.mp hh.2 x hx) (by omega) (hR _ _ ⟨_,rfl⟩ .refl)
  ·rw[aR];intro q hq;have eu:(ts.map λt=>enc (t.mk B (zaQ n)))=encs (ts.map (Tr.mk B (zaQ n))):=by rw[zaD,bG];rfl
   rw[eu];have fq:put S q (Ob.lst (encs (ts.map (Tr.mk B (zaQ n))))) q=ae (.lst (encs (ts.map (Tr.mk B (zaQ n))))):=zag;have fa:=keep (x:=Ob.lst (encs (ts.map (Tr.mk B (zaQ n))))) ha hq;have sub:Sub S (put S q (Ob.lst (encs (ts.map (Tr.mk B (zaQ n)))))):= .put .refl hq;generalize put S q (Ob.lst (encs (ts.map (Tr.mk B (zaQ n)))))=S1 at fq fa sub⊢;refine ziX fa ?_;cases e:zaI B s with
   |none=>
    rw[zib e]at h;simp only[zrt]
    try walk_at "wp"
    try rw[zaj fq]
    rw[zaM,aq];simp only[enc]at h;exact⟨zah (by decide),zah (by omega),_,sub,h⟩
   |some t=>
    have ht:t∈B:=da e;have ee:zrt (ae t)= .tup [.str t.1,enc t.2.1,enc t.2.2]:=rfl;rw[zia e]at h;rw[ee]
    try walk_at "wp"
    rw[znZ t hn];dsimp only;have hgw:=hg.wt t ht;exact zjc 4 (hg.dp t ht) (by omega) fq (by rw[aq,hh.1 t e];exact hg.fits t ht) (by omega) ⟨_,sub,h⟩
theorem zqz{t:Tr}{r:Nat}{Q:WK}{E:Str→Sto→Prop}(ha:S a=ae (.lst (B.map zbh))) (hg:SidesW (zaQ 2) B) (hd:t.depth≤40) (hr:60≤r) (hh:t.ar B) (hw:t.weight≤1000) (hwd:(t.mk B (zaQ 2)).wd)
  (h1:(t.mk B (zaQ 2)).small=true→Q (enc (t.mk B (zaQ 2))) S) (h2:(t.mk B (zaQ 2)).small=false→E "TooGreat" S):zhk (r+1) [.ref a,enc t] S Q E:=by
 obtain⟨r,rfl⟩:∃r',r=r'+5:=⟨r - 5,by omega⟩
 rw[zhk];walk_at "wp";refine ziR ha (.inr rfl) hg 40 (r:=r+4) hd (by omega) hh hw ?_;rw[zdi];walk_at "wp";refine zkw (r:=r+1) hwd ?_;cases e:(t.mk B (zaQ 2)).small with
 |true=>
  try walk_at "wp"
  exact⟨_, .refl,_, .refl,h1 e⟩
 |false=>
  try walk_at "wp"
  try rw[zkW]
  try walk_at "wp"
  exact⟨zah (by decide),h2 e⟩
end
theorem zht (us:List Tr):∀ts:List Tr,fills us ts=ts.map (Tr.fill us)
 | []=>by simp [fills]
 |t::ts=>by rw[fills,zht us ts];rfl
section
variable {t:Tn}
theorem zhg (t:Tr):t.small=false↔((400:Int)<t.weight∨(40:Int)<t.depth):=by
 unfold Tr.small;rw[Bool.and_eq_false_iff,decide_eq_false_iff_not,decide_eq_false_iff_not];omega
end
noncomputable def stk (x:Tr):List Str→Tr
 | []=>x
 |h::hs=> .nd h [stk x hs]
mutual
theorem zlX{us:List Tr}(hu:∀u∈us,u.wd):∀t:Tr,t.weight≤1000→(t.fill us).wd
 | .bl n,h=>by
  rw[Tr.fill,bE];cases e:us[n.toNat]? with
  |none=>exact trivial
  |some u=>exact hu u (a_ e)
 | .nd s ts,h=>by
  rw[Tr.weight]at h;have:=zbJ ts;rw[Tr.fill];refine⟨?_,zja hu ts (by omega)⟩;rw[zht,aq];omega
theorem zja{us:List Tr}(hu:∀u∈us,u.wd):∀ts:List Tr,wts ts≤1000→wds (fills us ts)
 | [],h=>by rw[fills];exact trivial
 |t::ts,h=>by
  rw[wts]at h;rw[fills];exact⟨zlX hu t (by omega),zja hu ts (by omega)⟩
end
mutual
theorem zxG{B:List Tn}{g:Tn→Tr}(hg:∀t∈B,(g t).weight≤1000):∀t:Tr,t.weight≤1000→(t.mk B g).wd
 | .bl n,h=>by rw[Tr.mk];exact trivial
 | .nd s ts,h=>by
  rw[Tr.weight]at h;have hl:=zbJ ts;have ih:=zsF hg ts (by omega);rw[zfl]at ih;cases e:zaI B s with
  |none=>
   rw[zib e];exact⟨by rw[aq];omega,ih⟩
  |some u=>
   rw[zia e];exact zlX (wds_iff.mp ih) _ (hg u (da e))
theorem zsF{B:List Tn}{g:Tn→Tr}(hg:∀t∈B,(g t).weight≤1000):∀ts:List Tr,wts ts≤1000→wds (mks B g ts)
 | [],h=>by rw[mks];exact trivial
 |t::ts,h=>by
  rw[wts]at h;rw[mks];exact⟨zxG hg t (by omega),zsF hg ts (by omega)⟩
end
theorem zfr{f:Tr→Tr}:∀as:List Tr,(∀x∈as,x.weight≤(f x).weight)→wts as≤wts (as.map f)
 | [],h=>by simp [wts]
 |x::as,h=>by
  have:=zfr as λy hy=>h y (aH _ hy);have:=h x aN;rw[aD,wts,wts];omega
theorem zfh{f:Tr→Tr}:∀as:List Tr,(∀x∈as,x.depth≤(f x).depth)→dts as≤dts (as.map f)
 | [],h=>by simp [dts]
 |x::as,h=>by
  have:=zfh as λy hy=>h y (aH _ hy);have:=h x aN;rw[aD,dts,dts];omega
section
variable {ws:List Str}{B:List Tn}
theorem zpN (K:Bk3 ws B):∀(n:Nat) (x:Tr),x.weight≤n→Wy ws B x→x.weight≤(src B x).weight∧x.depth≤(src B x).depth
 |0,x,hn,h=>by have:=zdq x;omega
 |n+1,x,hn,h=>by
  rcases h.cases K.b with⟨s,as,rfl,hs,e,hk⟩ |⟨t,as,ht,rfl,e,hl,hk⟩
  ·rw[Tr.weight]at hn;have ih:∀y∈as,y.weight≤(src B y).weight∧y.depth≤(src B y).depth:=λy hy=>zpN K n y (by have:=zbA hy;omega) (hk y hy);have h1:=zfr (f:=src B) as λy hy=>(ih y hy).1;have h2:=zfh (f:=src B) as λy hy=>(ih y hy).2;show _≤(Tr.mk B _ (Tr.nd s as)).weight∧_≤(Tr.mk B _ (Tr.nd s as)).depth;rw[zeK e,Tr.weight,Tr.weight,Tr.depth,Tr.depth];exact⟨f8 h1 1,f8 h2 1⟩
  ·rw[Tr.weight]at hn;have ih:∀y∈as,y.weight≤(src B y).weight∧y.depth≤(src B y).depth:=λy hy=>zpN K n y (by have:=zbA hy;omega) (hk y hy);have h1:=zfr (f:=src B) as λy hy=>(ih y hy).1;have h2:=zfh (f:=src B) as λy hy=>(ih y hy).2;obtain⟨_,g1,g2⟩:=K.O.fill ht (us:=as.map (src B)) (by rw[aq,hl]);show _≤(Tr.mk B _ (Tr.nd t.1 as)).weight∧_≤(Tr.mk B _ (Tr.nd t.1 as)).depth;rw[zdM e,Tr.weight,Tr.depth];exact⟨bM (f8 h1 1) g1,bM (f8 h2 1) g2⟩
def zzq (B:List Tn) (wn:List (List Int)) (p:List Int) (t:Tr):Prop:=∀e v,t.at e=ae v→(p++e∈wn↔(zdj B v).isSome=true)
theorem Sh.all{t:Tr}(h:Sh ws B t):zzq B (opl B t) [] t:=λe v hv=>by
 have ft:=zeG (m:=0) _ h.hdT;rw[aR];constructor
 ·intro he;exact h.wn (λq hq=>hq) e he e v (by simp) hv
 ·intro ho;obtain⟨u,ho⟩:=eE.mp ho;have m:=zrX t [] e v hv;rw[aR]at m;unfold opl;rw[←zlh B t [] ft];refine aZ.mpr ⟨(e,u.1),iM.mpr ⟨(e,v),m,?_⟩,rfl⟩;unfold zow;rw[ho];simp
structure Ful (ws:List Str) (B:List Tn) (t u:Tr):Prop where
  wi:Wi B (opl B t) t.depth [] t u
  sr:src B u=t
  wy:Wy ws B u
  us:u.us B []=t.op B []
open Classical in
noncomputable def fw (ws:List Str) (B:List Tn) (t:Tr):Tr:=if h:∃u,Ful ws B t u then choose h else t
noncomputable def hh (ws:List Str) (B:List Tn) (t:Tr):Nat→Tr
 |0=>t
 |k+1=>gol B (fw ws B (hh ws B t k))
noncomputable def wys (ws:List Str) (B:List Tn) (t:Tr) (k:Nat):List Tr:=(aO k).map λi=>fw ws B (hh ws B t i)
end
theorem zbZ{t:Tr}(h:t.small=true):t.weight≤400∧t.depth≤40:=by
 have no:¬t.small=false:=by rw[h];simp
 constructor
 ·rcases Nat.lt_or_ge 400 t.weight with z |z
  ·exact absurd ((zhg t).mpr (.inl (by omega))) no
  ·exact z
 ·rcases Nat.lt_or_ge 40 t.depth with z |z
  ·exact absurd ((zhg t).mpr (.inr (by omega))) no
  ·exact z
structure CxB (w0 w1 w2 w3 w4 w5:Str) (tt:List Str) (B:List Tn):Prop where
  b:BookOk w0 w1 w2 w3 w4 w5 tt B
  T:Titles tt
  G:Signs w0 w1 w2 w3 w4 w5
structure WyF (ws:List Str) (B:List Tn) (x u:Tr):Prop where
  f:Ful ws B x u
  wt:u.weight≤400
  dp:u.depth≤40
  ar:u.ar B
  hd:u.hd λ_=>True
  wd:(u.mk B (zaQ 2)).wd
section
variable {w0 w1 w2 w3 w4 w5:Str}{tt:List Str}{B:List Tn}{t:Tr}
theorem CxB.bk (c:CxB w0 w1 w2 w3 w4 w5 tt B):BkOk [w0,w1,w2,w3,w4,w5] [w2,w3,w4,w5] B:=c.b.bk c.T c.G
theorem BookOk.bk3 (b:BookOk w0 w1 w2 w3 w4 w5 tt B) (T:Titles tt) (G:Signs w0 w1 w2 w3 w4 w5):Bk3 [w0,w1,w2,w3,w4,w5] B:=by
 have k:=b.bk T G;refine⟨⟨k.ti,k.nd,k.sg,λx hx=>hx,k.lf,k.ri⟩,b.ort G,λt ht=>?_⟩;obtain⟨n,z |z⟩:=b.mem_lefts ht
 ·exact(zfQ (P:=λs=>s∈ [w0,w1,w2,w3,w4,w5]) (by simp) (by simp) (by simp) _ z).hb
 ·exact(zfQ (P:=λs=>s∈ [w0,w1,w2,w3,w4,w5]) (by simp) (by simp) (by simp) _ z).hb
theorem CxB.K (c:CxB w0 w1 w2 w3 w4 w5 tt B):Bk3 [w0,w1,w2,w3,w4,w5] B:=c.b.bk3 c.T c.G
theorem CxB.L (c:CxB w0 w1 w2 w3 w4 w5 tt B):Lft B:=⟨λt ht=>(c.bk.lf t ht).dp,λt ht=>by
 have h1:=(c.bk.lf t ht).wt;have h2:=(c.bk.lf t ht).nb;omega⟩
end
theorem zmT{α β:Type}{f:α→β}{xs:List α}(h:(xs.map f).Nodup):xs.Nodup:=by
 unfold bA at h⊢;rw[jC]at h;exact h.imp λ{a b} n e=>n (by rw[e])
section
variable {w0 w1 w2 w3 w4 w5:Str}{tt:List Str}{B:List Tn}{S:Sto}{a:Addr}{r:Nat}{Q:WK}{E:Str→Sto→Prop}
theorem CxB.ok_open (c:CxB w0 w1 w2 w3 w4 w5 tt B) (ha:S a=ae (.lst (B.map zbh))) {x:Tr}(h:Sh [w0,w1,w2,w3,w4,w5] B x) (hs:x.small=true) (hr:80≤r) (k:∀S' b,Sub S S'→S' b=ae (.lst ((x.op B []).map zff))→Q (.ref b) S'):zbI (r+1) [.ref a,enc x] S Q E:=by
 obtain⟨b1,b2⟩:=zbZ hs;have hl:=c.b.len;exact zru c.L (zmT c.bk.nd) (by omega) (λx u hu v hv h1 h2=>c.K.O.one u hu v hv x h1 h2) ha (by omega) (by omega) (by omega) (zeG _ h.hdT) k
end
theorem zoN{d:Nat}:∀{ts:List Tr},(∀x∈ts,x.depth≤d)→dts ts≤d
 | [],_=>by simp [dts]
 |t::ts,h=>by
  have h1:=h t aN;have h2:=zoN (ts:=ts) λx hx=>h x (aH _ hx);rw[dts];omega
theorem zxJ{B:List Tn}(O:Ort B) {t:Tn}(ht:t∈B) {s:Str}{ts ms:List Tr}(h:t.2.1.mt (.nd s ts)=ae ms):dts ms≤dts ts:=by
 obtain⟨s0,l0,e0,_⟩:=O.inn t ht;rw[e0,Tr.mt]at h;split at h
 ·exact zoN (zoM _ _ _ h)
 ·cases h
section
variable {ws:List Str}{B:List Tn}{x y:Tr}{a:Addr}{r:Nat}{S:Sto}{Q:WK}{E:Str→Sto→Prop}
theorem Bk3.fitw (K:Bk3 ws B) (hx:Wy ws B x) (hs:(L2.src B x).small=true):x.depth≤40∧x.weight≤400∧x.ar B∧x.hd λ_=>True:=by
 obtain⟨g1,g2⟩:=zpN K _ _ (aB _) hx;obtain⟨h1,h2⟩:=zbZ hs;exact⟨by omega,by omega,hx.ar,zfo (λ_ _=>trivial) _ hx.hd⟩
theorem Bk3.gW (K:Bk3 ws B):SidesW (zaQ 2) B:=⟨λt ht=>(K.b.ri t ht).fits,λt ht=>(K.b.ri t ht).dp,λt ht=>bM (K.b.ri t ht).wt (by decide)⟩
structure Cel (ws:List Str) (B:List Tn) (x y:Tr):Prop where
  K:Bk3 ws B
  wx:Wy ws B x
  wy:Wy ws B y
  e:src B x=src B y
  sm:(src B y).small=true
theorem Cel.symm (h:Cel ws B x y):Cel ws B y x:=⟨h.K,h.wy,h.wx,h.e.symm,by rw[h.e];exact h.sm⟩
theorem Bk3.ok_goalX (K:Bk3 ws B) (hx:Wy ws B x) (hs:(L2.src B x).small=true) (ha:S a=ae (.lst (B.map zbh))) (hr:60≤r) (h1:(L2.gol B x).small=true→Q (enc (L2.gol B x)) S) (h2:(L2.gol B x).small=false→E "TooGreat" S):zhk (r+1) [.ref a,enc x] S Q E:=by
 obtain⟨d1,w1,a1,_⟩:=K.fitw hx hs;have e2:x.mk B (zaQ 2)=L2.gol B x:=by rw[zuC]
 refine zqz ha K.gW d1 hr a1 (by omega) (zxG (λt ht=>bM (K.gW.wt t ht) (by decide)) _ (by omega)) (λz=>?_) λz=>?_
 ·rw[e2]at z⊢;exact h1 z
 ·rw[e2]at z;exact h2 z
end
mutual
noncomputable def Tr.lo (B:List Tn) (p:List Int):Tr→List (List Int)
 | .bl _=>[]
 | .nd s ts=>loz B p (pps B s ts.length) ts++(match zaI B s with
  |none=>[]
  |some _=>[p])
noncomputable def loz (B:List Tn) (p:List Int):List (List Int)→List Tr→List (List Int)
 |q::qs,t::ts=>t.lo B (p++q)++loz B p qs ts
 |_,_=>[]
end
mutual
theorem zoU (B:List Tn):∀(t:Tr) (p:List Int),(t.lo B p).length≤t.weight
 | .bl _,p=>by simp [Tr.lo]
 | .nd s ts,p=>by
  have:=znT B ts (pps B s ts.length) p;rw[Tr.lo,ba,Tr.weight];split<;>simp<;>omega
theorem znT (B:List Tn):∀(ts:List Tr) (qs:List (List Int)) (p:List Int),(loz B p qs ts).length≤wts ts
 | [],qs,p=>by cases qs<;>simp [loz]
 |t::ts,[],p=>by simp [loz]
 |t::ts,q::qs,p=>by
  have h1:=zoU B t (p++q);have h2:=znT B ts qs p;rw[loz,ba,wts];omega
end
theorem zoP{B:List Tn}{p:List Int}{s:Str}{ts:List Tr}(h:zaI B s=none):(Tr.nd s ts).lo B p=loz B p ((aO ts.length).map λ(i:Nat)=>[(i:Int)]) ts:=by
 rw[Tr.lo,pps,h,bf]
theorem zth{B:List Tn}{p:List Int}{s:Str}{ts:List Tr}{t:Tn}(h:zaI B s=ae t):(Tr.nd s ts).lo B p=loz B p (t.2.1.bls.map λx=>x.1) ts++[p]:=by
 rw[Tr.lo,pps,h]
structure Fram (G:List Tr→Tr) (n:Nat) (rs:List (List Int)):Prop where
  len:rs.length=n
  sh:∀r∈rs,r.length≤3
  at':∀(us:List Tr) (i:Nat) (r:List Int),us.length=n→rs[i]? =ae r→(G us).at r=us[i]?
  put':∀(us:List Tr) (i:Nat) (r:List Int) (v:Tr),us.length=n→rs[i]? =ae r→(G us).put r v=G (us.set i v)
theorem zpG{n:Nat}{h c d:Str}{L:Tr}(hL:L∈leftsL n h c d):Fram L.fill L.nb (L.bls.map λx=>x.1):=by
 have key:∀{M:Tr}{rs:List (List Int)},M.bls.map (λx=>x.1)=rs→rs.length=M.nb→(∀r∈rs,r.length≤3)→(∀(us:List Tr) (i:Nat) (r:List Int),us.length=M.nb→rs[i]? =ae r→(M.fill us).at r=us[i]? ∧ ∀v,(M.fill us).put r v=M.fill (us.set i v))→Fram M.fill M.nb (M.bls.map λx=>x.1):=λe h1 h2 h3=>by
  rw[e];exact⟨h1,h2,λus i r hu hr=>(h3 us i r hu hr).1,λus i r v hu hr=>(h3 us i r hu hr).2 v⟩
 unfold leftsL at hL;split at hL<;>simp only[av,bo,or_false]at hL
 ·subst hL;refine key zvG (by simp [Tr.nb,nbs]) (by simp) λus i r hu hr=>?_
  (rcases us with _ |⟨u,_ |⟨v,_ |⟨x,_ |⟨y,us⟩⟩⟩⟩<;>simp [Tr.nb,nbs]at hu<;>rcases i with _ |_ |_ |i<;>simp at hr<;>(subst hr;exact⟨by simp [Tr.fill,fills,Tr.at],λw=>by simp [Tr.fill,fills,Tr.put]⟩))
 ·subst hL;refine key zuZ (by simp [Tr.nb,nbs]) (by simp) λus i r hu hr=>?_
  (rcases us with _ |⟨u,_ |⟨v,_ |⟨x,_ |⟨y,us⟩⟩⟩⟩<;>simp [Tr.nb,nbs]at hu<;>rcases i with _ |_ |_ |i<;>simp at hr<;>(subst hr;exact⟨by simp [Tr.fill,fills,Tr.at],λw=>by simp [Tr.fill,fills,Tr.put]⟩))
 ·rcases hL with rfl |rfl
  ·refine key zvF (by simp [Tr.nb,nbs]) (by simp) λus i r hu hr=>?_;simp at hr
  ·refine key zwL (by simp [Tr.nb,nbs]) (by simp) λus i r hu hr=>?_
   (rcases us with _ |⟨u,_ |⟨v,_ |⟨x,_ |⟨y,us⟩⟩⟩⟩<;>simp [Tr.nb,nbs]at hu<;>rcases i with _ |_ |_ |i<;>simp at hr<;>(subst hr;exact⟨by simp [Tr.fill,fills,Tr.at],λw=>by simp [Tr.fill,fills,Tr.put]⟩))
 ·rcases hL with rfl |rfl
  ·refine key zvP (by simp [Tr.nb,nbs]) (by simp) λus i r hu hr=>?_
   (rcases us with _ |⟨u,_ |⟨v,_ |⟨x,_ |⟨y,us⟩⟩⟩⟩<;>simp [Tr.nb,nbs]at hu<;>rcases i with _ |_ |_ |i<;>simp at hr<;>(subst hr;exact⟨by simp [Tr.fill,fills,Tr.at],λw=>by simp [Tr.fill,fills,Tr.put]⟩))
  ·refine key zwi (by simp [Tr.nb,nbs]) (by simp) λus i r hu hr=>?_
   (rcases us with _ |⟨u,_ |⟨v,_ |⟨x,_ |⟨y,us⟩⟩⟩⟩<;>simp [Tr.nb,nbs]at hu<;>rcases i with _ |_ |_ |i<;>simp at hr<;>(subst hr;exact⟨by simp [Tr.fill,fills,Tr.at],λw=>by simp [Tr.fill,fills,Tr.put]⟩))
 ·rcases hL with rfl |rfl
  ·refine key zxp (by simp [Tr.nb,nbs]) (by simp) λus i r hu hr=>?_
   (rcases us with _ |⟨u,_ |⟨v,_ |⟨x,_ |⟨y,us⟩⟩⟩⟩<;>simp [Tr.nb,nbs]at hu<;>rcases i with _ |_ |_ |i<;>simp at hr<;>(subst hr;exact⟨by simp [Tr.fill,fills,Tr.at],λw=>by simp [Tr.fill,fills,Tr.put]⟩))
  ·refine key zxw (by simp [Tr.nb,nbs]) (by simp) λus i r hu hr=>?_
   (rcases us with _ |⟨u,_ |⟨v,_ |⟨x,_ |⟨y,us⟩⟩⟩⟩<;>simp [Tr.nb,nbs]at hu<;>rcases i with _ |_ |_ |i<;>simp at hr<;>(subst hr;exact⟨by simp [Tr.fill,fills,Tr.at],λw=>by simp [Tr.fill,fills,Tr.put]⟩))
 ·subst hL;refine key zwS (by simp [Tr.nb,nbs]) (by simp) λus i r hu hr=>?_;simp at hr
theorem zgn{E:WX}{D:WEnds}{x0 x1:Option W}{r:Nat}:∀(ls us:List Tr) (one:∀l∈ls,∀{u:Tr}{ms:List Tr}{S:Sto}{Q:WK}{E:Str→Sto→Prop},l.mt u=ae ms→(∀S' b,Sub S S'→S' b=ae (.lst (encs ms))→Q (.ref b) S')→zaV r [enc l,enc u] S Q E) {ms acc:List Tr}{f:Addr}{S:Sto}{x3 x4:Option W},mts ls us=ae ms→S f=ae (.lst (encs acc))→acc.length+wts ls≤100000→
  (∀S' g x3 x4,Sub S S'→S' g=ae (.lst (encs (acc++ms)))→D.nx [x0,x1,ae (.ref g),x3,x4] S')→forL (wGT (zay (wGN 3) (zay (wGN 4) zcn))) (zcW r (zaV r)) E D (λ_=>True) (pairs (encs ls) (encs us)) [x0,x1,ae (.ref f),x3,x4] S
 | [],us,one,ms,acc,f,S,x3,x4,hm,hf,hl,h=>by
  simp only[mts,bq]at hm;subst hm;have:=h S f x3 x4 .refl (by simpa using hf);simpa [forL,pairs,encs]using this
 |l::ls,[],one,ms,acc,f,S,x3,x4,hm,hf,hl,h=>by
  simp only[mts,bq]at hm;subst hm;have:=h S f x3 x4 .refl (by simpa using hf);simpa [forL,pairs,encs]using this
 |l::ls,u::us,one,ms,acc,f,S,x3,x4,hm,hf,hl,h=>by
  simp only[mts]at hm;cases e1:l.mt u with
  |none=>rw[e1]at hm;cases hm
  |some xs=>
   cases e2:mts ls us with
   |none=>rw[e1,e2]at hm;cases hm
   |some ys=>
    rw[e1,e2]at hm;cases hm;have l1:=zop l u xs e1;simp only[wts]at hl;simp only[encs,pairs];refine zbc λN hN=>?_;simp only[zcW];walk_at "wp";refine one l aN e1 λS1 b sb hb=>?_
    try rw[zgu]
    rw[zaj (sb _ _ hf),zaj hb,zaM,zaM,←zdO];refine⟨zah (by omega),λa ha=>?_⟩;refine hN _ _ _ .refl trivial (zgn ls us (λu hu=>one u (aH _ hu)) e2 zag (by simp;omega) λS' g x3 x4 sb' hg=>?_);exact h S' g x3 x4 ((sb.trans (.new ha)).trans sb') (by rw[←bI];exact hg)
theorem zjK:∀(d:Nat) {l t:Tr}{ms:List Tr}{r:Nat}{S:Sto}{Q:WK}{E:Str→Sto→Prop},l.depth≤d→d≤r→l.weight≤1000→l.mt t=ae ms→(∀S' b,Sub S S'→S' b=ae (.lst (encs ms))→Q (.ref b) S')→zaV (r+1) [enc l,enc t] S Q E
 |0,l,t,ms,r,S,Q,E,hd,hr,hw,hm,h=>by have:=zaH l;omega
 |d+1, .bl n,t,ms,r,S,Q,E,hd,hr,hw,hm,h=>by
  simp only[Tr.mt,bq]at hm;subst hm;rw[zaV];have e0:enc (.bl n)= .int n:=by simp only[enc]
  rw[e0];walk_at "wp";refine⟨zah (by decide),λa ha=>⟨_, .refl,h _ a (.new ha) (by simpa [encs]using zag)⟩⟩
 |d+1, .nd s ls, .bl n,ms,r,S,Q,E,hd,hr,hw,hm,h=>by simp [Tr.mt]at hm
 |d+1, .nd s ls, .nd z us,ms,r,S,Q,E,hd,hr,hw,hm,h=>by
  simp only[Tr.depth]at hd;simp only[Tr.weight]at hw;simp only[Tr.mt]at hm;split at hm
  ·obtain⟨r,rfl⟩:∃r',r=r'+1:=⟨r - 1,by omega⟩
   have en:∀s ts,enc (.nd s ts)= .tup (.str s::encs ts):=λs ts=>by simp [enc]
   rw[zaV,en,en];walk_at "wp";refine⟨zah (by decide),λa ha=>?_⟩
   try walk_at "wp"
   refine zgn ls us (λu hu {t ms S Q E} e q=>zjK d (by have:=zbd hu;omega) (by omega) (by have:=zbA hu;omega) e q) hm (acc:=[]) zag (by simp;omega) λS' g x3 x4 sb hg=>?_;walk_at "wp";exact⟨_, .refl,h _ g ((Sub.new ha).trans sb) hg⟩
  ·cases hm
section
variable {S:Sto}{a:Addr}{B:List Tn}{w0 w1 w2 w3 w4 w5:Str}{tt:List Str}{r:Nat}{Q:WK}{E:Str→Sto→Prop}
theorem zpy (b:BookOk w0 w1 w2 w3 w4 w5 tt B) (G:Signs w0 w1 w2 w3 w4 w5) (L:Lft B) (ha:S a=ae (.lst (B.map zbh))) {X:Tr}{q:List Int}{t:Tn}{us:List Tr}(ht:t∈B) (hu:us.length=t.2.1.nb) (hX:X.at q=ae (t.2.1.fill us)) (hq:q.length≤100) (hw:X.weight≤90000) (hf:(t.2.1.fill us).fits 0) (hr:120≤r)
  (h:∀S',Sub S S'→Q (enc (X.put q (t.2.2.fill us))) S'):zbX (r+1) [.ref a,enc X,zat q] S Q E:=by
 obtain⟨r,rfl⟩:∃r',r=r'+1:=⟨r - 1,by omega⟩
 have ho:=b.open_some G ht hu;have hm:=b.mt t ht us hu;rw[zbX];walk_at "wp";refine zpV hX ?_
 try walk_at "wp"
 rw[zaj ha];refine zel ha (λσ=>∃y,σ=[ae (.ref a),ae (enc X),ae (zat q),ae (enc (t.2.1.fill us)),y]) zbh (λu:Tn=>if(u.2.1.mt (t.2.1.fill us)).isSome then ae (enc (X.put q (t.2.2.fill us))) else none) B _ ⟨none,rfl⟩ (λu hu' σ N hI h0 h1=>?_) ?_ ?_
 ·obtain⟨y,rfl⟩:=hI;simp only[zea,zbh];walk_at "wp";rw[show atI [W.str u.1,enc u.2.1,enc u.2.2] 1=ae (enc u.2.1) from rfl];dsimp only;refine znF 4 (L.d u hu') (by omega) hf (by have:=L.w u hu';omega) ?_;cases e:(u.2.1.mt (t.2.1.fill us)).isSome with
  |false=>
   walk_at "wp";exact h0 (by rw[e];rfl) _ _ ⟨_,rfl⟩ .refl
  |true=>
   walk_at "wp";have eu:u=t:=by
    have:=b.one G hu' ht e (by rw[hm];rfl);exact zlo (b.inj G) hu' ht this
   subst eu;rw[show atI [W.str u.1,enc u.2.1,enc u.2.2] 2=ae (enc u.2.2) from rfl];dsimp only;refine zjK 4 (L.d u hu') (by omega) (by have:=L.w u hu';omega) hm λS1 g sb hg=>?_;have hri:=b.ri u hu';refine zeg 4 hri.dp (by omega) hg (by rw[hu];exact hri.fits) (by have:=hri.wt;omega) ?_;refine zoh q hX (by omega) hw (by omega) ?_;exact h1 _ (by rw[e];rfl) _ sb
 ·intro hn σ hI;exfalso;rw[kJ]at hn;have:=hn t ht;rw[hm]at this;simp at this
 ·intro w e S' sb;obtain⟨u,_,hw'⟩:=List.exists_of_findSome?_eq_some e;split at hw'
  ·cases hw';exact⟨_, .refl,h S' sb⟩
  ·cases hw'
end
noncomputable def zuM (t:Tr) (q:List Int):Bool:=match t.at q with
 |some u=>u.isBl
 |none=>false
theorem zqu (t:Tr):(t.pl []).filter (zuM t)=t.bls.map λx=>x.1:=by
 unfold Tr.bls;rw[←zdL,List.filter_map];congr 1;refine List.filter_congr λx hx=>?_;show zuM t x.1=x.2.isBl;unfold zuM;rw[(zhL hx).1]
theorem zrx{t:Tr}{r:Nat}{S:Sto}{Q:WK}{E:Str→Sto→Prop}(hd:t.depth≤10) (hr:15≤r) (hw:t.weight≤1000) (h:∀S' b,Sub S S'→S' b=ae (.lst ((t.bls.map λx=>x.1).map zat))→Q (.ref b) S'):zcx (r+1) [enc t] S Q E:=by
 obtain⟨r,rfl⟩:∃r',r=r'+1:=⟨r - 1,by omega⟩
 rw[zcx];walk_at "wp";refine zlx 10 hd (by omega) hw (by omega) λS1 b sb hb=>?_;have hpl:(t.pl []).length=t.weight:=by rw[←zdL,aq,zdU]
 dsimp only
 try rw[zgy]
 rw[zaj hb];refine zdT (λσ=>∃x,σ=[x,ae (enc t)]) zat zat (zuM t) ?_ (t.pl []) [] _ ⟨none,rfl⟩ (by simp;omega) (λq hq σ R1 R0 hI h1 h0=>?_) ?_
 ·exact hb
 ·obtain⟨y,rfl⟩:=hI;rw[←zdL,aZ]at hq;obtain⟨x,hx,rfl⟩:=hq;have ha:=(zhL hx).1;unfold zeC;walk_at "wp";refine zpV ha ?_;have eb:zuM t x.1=x.2.isBl:=by unfold zuM;rw[ha]
  rw[eb]at h1 h0;cases hu:x.2 with
  |bl n=>
   rw[hu]at h1;simp only[enc]
   try walk_at "wp"
   exact h1 rfl _ _ ⟨_,rfl⟩ .refl
  |nd s ts=>
   rw[hu]at h0;simp only[enc]
   try walk_at "wp"
   exact h0 rfl _ _ ⟨_,rfl⟩ .refl
 ·rw[aR,zqu];intro q hq;exact⟨_, .refl,h _ q (sb.trans (.put .refl hq)) zag⟩
noncomputable def innerT (p:List Int) (ri rt:List (List Int)):Option Tn→List (List Int)×List (List Int)
 |none=>(ri,rt)
 |some t=>(t.2.1.bls.map λx=>x.1,[p])
theorem zgP{r:Nat}{a:Addr}{B:List Tn}{s:Str}{ts:List Tr}{p:List Int}{E:WX}{D:WEnds}{x0 x6 x7 x8:Option W}(L:Lft B) (hr:20≤r):∀(C:List Tn) {ri rt:List (List Int)}{i tp:Addr}{S:Sto}{x5:Option W},(∀t∈C,t∈B)→(C.map λt=>t.1).Nodup→S a=ae (.lst (B.map zbh))→S i=ae (.lst (ri.map zat))→S tp=ae (.lst (rt.map zat))→
  (∀S' i' tp' x5,Sub S S'→S' i'=ae (.lst ((innerT p ri rt (zaI C s)).1.map zat))→S' tp'=ae (.lst ((innerT p ri rt (zaI C s)).2.map zat))→D.nx [x0,ae (.tup (.str s::encs ts)),ae (zat p),ae (.ref i'),ae (.ref tp'),x5,x6,x7,x8] S')→
  forL (wGN 5) (zdD r zba) E D (λS'=>S' a=ae (.lst (B.map zbh))) (C.map zbh) [x0,ae (.tup (.str s::encs ts)),ae (zat p),ae (.ref i),ae (.ref tp),x5,x6,x7,x8] S
 | [],ri,rt,i,tp,S,x5,hC,hn,ha,hi,ht,h=>by
  have:=h S i tp x5 .refl hi ht;simpa [forL]using this
 |t::C,ri,rt,i,tp,S,x5,hC,hn,ha,hi,ht,h=>by
  obtain⟨r,rfl⟩:∃r',r=r'+1:=⟨r - 1,by omega⟩
  rw[aD,dq]at hn;have hb:=hC t aN;have eT:zaI (t::C) s=if t.1 == s then ae t else zaI C s:=by
   unfold zaI;rw[bS];split<;>simp_all
  rw[eT]at h;rw[aD];refine zbc λN hN=>?_;simp only[zdD,zbh];walk_at "wp";cases e:(t.1 == s) with
  |false=>
   rw[e]at h;rw[if_neg (by decide)];rw[if_neg (by decide)]at h;exact hN _ _ _ .refl ha (zgP L (by omega) C (λu hu=>hC u (aH _ hu)) hn.2 ha hi ht h)
  |true=>
   rw[e]at h;rw[if_pos rfl];rw[if_pos rfl]at h;rw[show atI [W.str t.1,enc t.2.1,enc t.2.2] 1=ae (enc t.2.1) from rfl];dsimp only;refine zrx (by have:=L.d t hb;omega) (by omega) (by have:=L.w t hb;omega) λS1 b sb hb1=>?_;refine⟨zah (by decide),λq hq=>?_⟩;have es:t.1=s:=by simpa using e
   have n0:zaI C s=none:=by
    unfold zaI;rw[iR];intro u hu hh;have:u.1=s:=by simpa using hh
    exact hn.1 (aZ.mpr ⟨u,hu,by rw[this,es]⟩)
   have sub:=sb.trans (Sub.put (o:= .lst [zat p]) .refl hq);refine hN _ _ _ .refl (sub _ _ ha) (zgP (ri:=t.2.1.bls.map λx=>x.1) (rt:=[p]) L (by omega) C (λu hu=>hC u (aH _ hu)) hn.2 (sub _ _ ha) (keep hb1 hq) zag λS' i' tp' x5 s' h1 h2=>?_);rw[n0]at h1 h2;exact h S' i' tp' x5 (sub.trans s') h1 h2
theorem zha{a i:Addr}{B:List Tn}{p:List Int}{E:WX}{D:WEnds}{x1 x3 x4 x5:Option W}{r:Nat}{gs:List W}:∀(ts:List Tr) (qs:List (List Int)) (one:∀u∈ts,∀{p:List Int}{S:Sto}{Q:WK}{E:Str→Sto→Prop},S a=ae (.lst (B.map zbh))→p.length+4*u.depth≤1000→(∀S' b,Sub S S'→S' b=ae (.lst ((u.lo B p).map zat))→Q (.ref b) S')→zbw r [.ref a,enc u,zat p] S Q E) {acc:List (List Int)}{f:Addr}{S:Sto}{x7 x8:Option W},(∀q∈qs,q.length≤4)→S a=ae (.lst (B.map zbh))→S i=ae (.lst gs)→S f=ae (.lst (acc.map zat))→acc.length+wts ts≤100000→p.length+4+4*dts ts≤1000→
  (∀S' g x7 x8,Sub S S'→S' g=ae (.lst ((acc++loz B p qs ts).map zat))→D.nx [ae (.ref a),x1,ae (zat p),x3,x4,x5,ae (.ref g),x7,x8] S')→forL (wGT (zay (wGN 7) (zay (wGN 8) zcn))) (zdF r (zbw r)) E D (λS'=>S' i=ae (.lst gs)) (pairs (encs ts) (qs.map zat)) [ae (.ref a),x1,ae (zat p),x3,x4,x5,ae (.ref f),x7,x8] S
 | [],qs,one,acc,f,S,x7,x8,hq,ha,hi,hf,hl,hd,h=>by
  have e2:loz B p qs []=[]:=by cases qs<;>simp [loz]
  have:=h S f x7 x8 .refl (by rw[e2,bf];exact hf);simpa [forL,pairs,encs]using this
 |t::ts,[],one,acc,f,S,x7,x8,hq,ha,hi,hf,hl,hd,h=>by
  have e2:loz B p [] (t::ts)=[]:=by simp [loz]
  have:=h S f x7 x8 .refl (by rw[e2,bf];exact hf);simpa [forL,pairs,encs]using this
 |t::ts,q::qs,one,acc,f,S,x7,x8,hq,ha,hi,hf,hl,hd,h=>by
  have hq4:=hq q aN;simp only[dts]at hd;simp only[wts]at hl;simp only[aD,encs,pairs];refine zbc λN hN=>?_;simp only[zdF];walk_at "wp";rw[zne];refine⟨zah (by omega),?_⟩;refine one t aN ha (by simp;omega) λS1 b sb hb=>?_
  try rw[zgu]
  have hlo:=zoU B t (p++q);rw[zaj (sb _ _ hf),zaj hb,aq,aq,←bN];refine⟨zah (by omega),λg hg=>?_⟩;have sub:=sb.trans (Sub.put (o:= .lst ((acc++t.lo B (p++q)).map zat)) .refl hg);refine hN _ _ _ .refl (sub _ _ hi) (zha ts qs (λu hu=>one u (aH _ hu)) (λq' hq'=>hq q' (aH _ hq')) (sub _ _ ha) (sub _ _ hi) zag (by simp;omega) (by omega) λS' g' x7 x8 sb' hg'=>?_);exact h S' g' x7 x8 (sub.trans sb') (by rw[loz,←bI];exact hg')
theorem zoV{a:Addr}{B:List Tn}(L:Lft B) (hP:PB B) (hn:(B.map λt=>t.1).Nodup):∀(d:Nat) {t:Tr}{p:List Int}{r:Nat}{S:Sto}{Q:WK}{E:Str→Sto→Prop},t.depth≤d→d+25≤r→t.weight≤1000→t.hd (λ_=>True)→S a=ae (.lst (B.map zbh))→p.length+4*t.depth≤1000→(∀S' b,Sub S S'→S' b=ae (.lst ((t.lo B p).map zat))→Q (.ref b) S')→zbw (r+1) [.ref a,enc t,zat p] S Q E
 |0,t,p,r,S,Q,E,hd,hr,hw,hh,ha,hp,h=>by have:=zaH t;omega
 |d+1, .bl n,p,r,S,Q,E,hd,hr,hw,hh,ha,hp,h=>by simp [Tr.hd]at hh
 |d+1, .nd s ts,p,r,S,Q,E,hd,hr,hw,hh,ha,hp,h=>by
  simp only[Tr.depth]at hd hp;simp only[Tr.weight]at hw;simp only[Tr.hd]at hh;have hk:=zbJ ts;obtain⟨r,rfl⟩:∃r',r=r'+1:=⟨r - 1,by omega⟩
  have en:enc (.nd s ts)= .tup (.str s::encs ts):=by simp [enc]
  rw[zbw,en];walk_at "wp";rw[zaM];have e1:(((ts.length+1:Nat):Int) - 1).toNat=ts.length:=by omega
  rw[e1];refine⟨⟨by omega,by omega⟩,?_⟩
  rw[zhf];refine zbb (λσ=>∃x,σ=[x]) (λi:Nat=>W.int i) (λi=>zat [(i:Int)]) trivial (aO ts.length) [] _ ⟨none,rfl⟩ (by simp;omega) (λx hx σ R hI hR=>?_) ?_
  ·obtain⟨y,rfl⟩:=hI;simp only[zfd];walk_at "wp";exact⟨zah (by decide),hR _ _ ⟨_,rfl⟩ .refl⟩
  ·rw[aR];intro i hi;refine⟨aS _,λtp htp=>?_⟩;have eR:(aO ts.length).map (λi=>zat [((i:Nat):Int)])=((aO ts.length).map λ(i:Nat)=>[(i:Int)]).map zat:=by rw[bG];rfl
   have s1:Sub S (put (put S i (Ob.lst (dX (λ(i:Nat)=>zat [(i:Int)]) (aO ts.length)))) tp (Ob.lst [])):=(Sub.put .refl hi).trans (.put .refl htp);have fi:=keep (x:=Ob.lst []) (zag (S:=S) (a:=i) (o:=Ob.lst (dX (λ(i:Nat)=>zat [(i:Int)]) (aO ts.length)))) htp;have ft:put (put S i (Ob.lst (dX (λ(i:Nat)=>zat [(i:Int)]) (aO ts.length)))) tp (Ob.lst []) tp=ae (Ob.lst (([]:List (List Int)).map zat)):=zag;generalize put (put S i (Ob.lst (dX (λ(i:Nat)=>zat [(i:Int)]) (aO ts.length)))) tp (Ob.lst [])=S1 at s1 fi ft⊢;rw[eR]at fi;rw[zaj (s1 _ _ ha)];refine zgP L (by omega) B (λt ht=>ht) hn (s1 _ _ ha) fi ft λS2 i' tp' x5 s2 h1 h2=>?_;replace s1:=s1.trans s2;have ei:(innerT p ((aO ts.length).map λ(i:Nat)=>[(i:Int)]) [] (zaI B s)).1=pps B s ts.length:=by
    unfold pps;cases zaI B s<;>rfl
   rw[ei]at h1;walk_at "wp";refine⟨aS _,λf hf=>?_⟩;replace s1:=s1.trans (Sub.put (o:=Ob.lst []) .refl hf);replace h1:=keep (x:=Ob.lst []) h1 hf;replace h2:=keep (x:=Ob.lst []) h2 hf;have ff:put S2 f (Ob.lst []) f=ae (Ob.lst (([]:List (List Int)).map zat)):=zag;generalize put S2 f (Ob.lst [])=S3 at s1 h1 h2 ff⊢;rw[zaj h1];refine zha ts (pps B s ts.length) (λu hu {p S Q E} ha hp q=>zoV L hP hn d (by have:=zbd hu;omega) (by omega) (by have:=zbA hu;omega) (hds_iff.mp hh.2 u hu) ha hp q) (ziO hP) (s1 _ _ ha) h1 ff (by simp;omega) (by omega) λS4 g x7 x8 s4 hg=>?_;walk_at "wp";have e2:=zoU B (.nd s ts) p;rw[zaj hg,zaj (s4 _ _ h2),←bN];have e3: []++loz B p (pps B s ts.length) ts++(innerT p ((aO ts.length).map λ(i:Nat)=>[(i:Int)]) [] (zaI B s)).2=(Tr.nd s ts).lo B p:=by
    rw[Tr.lo,aR];cases zaI B s<;>rfl
   rw[e3];refine⟨zah ?_,λq hq=>⟨_, .refl,h _ q ((s1.trans s4).trans (.put .refl hq)) zag⟩⟩;have:=congrArg dk e3;rw[ba]at this;simp only[Tr.weight]at e2;rw[aq,aq];omega
mutual
noncomputable def Tr.sg:Tr→Nat
 | .bl _=>0
 | .nd _ ts=>1+sgs ts
noncomputable def sgs:List Tr→Nat
 | []=>0
 |t::ts=>t.sg+sgs ts
end
mutual
noncomputable def Tr.sd:Tr→Nat
 | .bl _=>0
 | .nd _ ts=>1+sds ts
noncomputable def sds:List Tr→Nat
 | []=>0
 |t::ts=>max t.sd (sds ts)
end
mutual
noncomputable def Tr.nm:Tr→List Int
 | .bl n=>[n]
 | .nd _ ts=>nms ts
noncomputable def nms:List Tr→List Int
 | []=>[]
 |t::ts=>t.nm++nms ts
end
structure RX (t:Tr):Prop where
  sg:t.sg≤3
  sd:t.sd≤3
  ct:∀n,t.nm.count n≤2
theorem zvH{l:List Int}(h:∀n∈l,l.count n≤2):∀n,l.count n≤2:=λn=>by
 by_cases m:n∈l
 ·exact h n m
 ·rw[List.count_eq_zero_of_not_mem m];omega
section
variable {w0 w1 w2 w3 w4 w5:Str}{a:Addr}{r:Nat}{S:Sto}{Q:WK}{E:Str→Sto→Prop}
theorem zzb{m:Nat}{ws:List Str}{t:Tr}(h1:t.depth≤4) (h2:t.fits m) (h3:∀{P:Str→Prop},(∀x∈ws,P x)→t.hb P) (h4:t.weight≤7):RightW ws m t:=⟨h1,h2,h3,h4⟩
noncomputable def rts (w0 w1 w2 w3 w4 w5:Str):Nat→Bool→List Tr
 |0,_=>[.nd w2 [], .nd w5 [], .nd w3 [.nd w5 []]]
 |1,g=>[.bl 0, .nd w3 [.bl 0], .nd w4 [.bl 0, .bl 0], .nd w4 [.nd w3 [.bl 0], .nd w2 []]]++(if g then [.nd w0 [.bl 0], .nd w1 [.nd w3 [.bl 0], .bl 0], .nd w3 [.nd w0 [.bl 0]]] else [.nd w2 [], .nd w3 [.nd w5 []]])
 |3,g=>[.nd w4 [.nd w4 [.bl 0, .bl 1], .bl 2], .nd w4 [.bl 2, .nd w4 [.bl 1, .bl 0]], .nd w4 [.nd w4 [.bl 0, .bl 0], .nd w4 [.bl 1, .bl 2]]]++(if g then [.nd w0 [.nd w4 [.nd w4 [.bl 2, .bl 0], .bl 1]], .nd w1 [.bl 1, .nd w4 [.bl 0, .bl 2]]] else [.bl 0, .bl 2, .nd w4 [.bl 1, .bl 1], .nd w5 []])
 |_,g=>[.nd w4 [.bl 0, .bl 1], .nd w4 [.bl 1, .bl 0], .nd w4 [.nd w3 [.bl 0], .bl 1], .nd w4 [.nd w4 [.bl 0, .bl 0], .bl 1]]++(if g then [.nd w1 [.bl 1, .bl 0], .nd w0 [.nd w4 [.bl 0, .bl 1]]] else [.bl 0, .bl 1, .nd w3 [.bl 1], .nd w5 []])
theorem zuQ{m:Nat}(hm:m≤3) (g:Bool):∀t∈rts w0 w1 w2 w3 w4 w5 m g,RightW [w0,w1,w2,w3,w4,w5] m t:=by
 intro t ht;rcases m with _ |_ |_ |_ |m
 all_goals first
  |omega
  | (cases g<;>simp only[rts,cG,aR,if_true,if_false,d9,av,bo,or_false]at ht<;>(try rcases ht with rfl |rfl |rfl |rfl |rfl |rfl |rfl |rfl)<;>(try rcases ht with rfl |rfl |rfl |rfl |rfl |rfl |rfl)<;>(try rcases ht with rfl |rfl |rfl |rfl |rfl |rfl)<;>(try rcases ht with rfl |rfl |rfl |rfl |rfl)<;>(try rcases ht with rfl |rfl |rfl)<;>exact zzb (by simp [Tr.depth,dts]) (by simp [Tr.fits,fitss]) (λ{P} h=>by simp [Tr.hb,hbs]<;>simp [h]) (by simp [Tr.weight,wts]))
theorem zuW{m:Nat}(hm:m≤3) (g:Bool):∀t∈rts w0 w1 w2 w3 w4 w5 m g,RX t:=by
 intro t ht;rcases m with _ |_ |_ |_ |m
 all_goals first
  |omega
  | (cases g<;>simp only[rts,cG,aR,if_true,if_false,d9,av,bo,or_false]at ht<;>(try rcases ht with rfl |rfl |rfl |rfl |rfl |rfl |rfl |rfl)<;>(try rcases ht with rfl |rfl |rfl |rfl |rfl |rfl |rfl)<;>(try rcases ht with rfl |rfl |rfl |rfl |rfl |rfl)<;>(try rcases ht with rfl |rfl |rfl |rfl |rfl)<;>(try rcases ht with rfl |rfl |rfl)<;>exact⟨by simp [Tr.sg,sgs],by simp [Tr.sd,sds],zvH (by simp only[Tr.nm,nms,aR,bf,cG]<;>decide)⟩)
theorem zts{m:Nat}(g:Bool):1≤(rts w0 w1 w2 w3 w4 w5 m g).length∧(rts w0 w1 w2 w3 w4 w5 m g).length≤8:=by
 rcases m with _ |_ |_ |_ |m<;>cases g<;>simp [rts]
def Pu1 (e:WE) (σ:WSt) (S:Sto) (w:W):Prop:=∀(E:WX) (Q:WK),Q w S→e E σ S Q
def PuL (t:WA) (σ:WSt) (S:Sto) (ws:List W):Prop:=∀(E:WX) (Q:List W→Sto→Prop),Q ws S→t E σ S Q
theorem zqb{σ:WSt}{w:W}:Pu1 (wC w) σ S w:=λ_ _ q=>q
theorem zgR{σ:WSt}{i:Int}{w:W}{xs:List W}(h1:σ[1]? =ae (ae (.ref a))) (ha:S a=ae (.lst xs)) (hi:atI xs i=ae w):Pu1 (wOp oIx (zaf 1) (wC (.int i))) σ S w:=λE Q q=>by
 rw[zuh,zjU,h1];dsimp only;rw[zyS,zlf,zaj ha,hi];exact q
theorem zdk{σ:WSt}:PuL waNil σ S []:=λ_ _ q=>q
theorem zci{σ:WSt}{e:WE}{t:WA}{w:W}{ws:List W}(h1:Pu1 e σ S w) (h2:PuL t σ S ws):PuL (zab e t) σ S (w::ws):=λE Q q=>h1 E _ (h2 E _ q)
theorem zez{σ:WSt}{t:WA}{ws:List W}(h:PuL t σ S ws) (hl:ws.length≤sizeLine):Pu1 (zaS t) σ S (.tup ws):=λE Q q=>h E _ ⟨hl,q⟩
theorem zdI{E:WX}{D:WEnds}{σ:WSt}{c:WT}{A T:WS}(hc:∀Q:Bool→Sto→Prop,Q false S→c E σ S Q) (k:T E D σ S):zaw (zca c A zaP) T E D σ S:=hc _ k
theorem zfn{E:WX}{D:WEnds}{σ:WSt}{c:WT}{A A' T:WS}(hc:∀Q:Bool→Sto→Prop,Q true S→c E σ S Q) (k:A E { D with nx:=T E D } σ S):zaw (zca c A A') T E D σ S:=hc _ k
theorem zhT{E:WX}{σ:WSt}{m k:Int}{b:Bool}(h0:σ[0]? =ae (ae (.int m))) (e:(m == k)=b):∀Q:Bool→Sto→Prop,Q b S→wTb (wOp (oEq false) (zaf 0) (wC (.int k))) E σ S Q:=λQ q=>by
 rw[zwY,zuh,zjU,h0];dsimp only;rw[zyS,zvh,zsr,e];cases b<;>exact q
theorem zmt{E:WX}{σ:WSt}{b:Bool}(h2:σ[2]? =ae (ae (.bl b))):∀Q:Bool→Sto→Prop,Q b S→zfm (zaf 2) E σ S Q:=λQ q=>by
 rw[zsH,zjU,h2];dsimp only;rw[zmj];exact q
theorem zkz{E:WX}{D:WEnds}{σ:WSt}{t:WA}{T:WS}{ws:List W}(h:PuL t σ S ws) (hl:ws.length≤sizeLine) (k:∀q,S q=none→T E D (σ.set 3 (ae (.ref q))) (put S q (.lst ws))):zaw (wAsg (zby (zbR t)) (wGN 3)) T E D σ S:=h E _ ⟨hl,k⟩
theorem zup{E:WX}{D:WEnds}{σ:WSt}{t:WA}{ws:List W}(h:PuL t σ S ws) (hl:ws.length≤sizeLine) (k:∀q,S q=none→D.rt (.ref q) (put S q (.lst ws))):zbf (zby (zbR t)) E D σ S:=h E _ ⟨hl,k⟩
theorem zhd{E:WX}{D:WEnds}{σ:WSt}{t:WA}{ws xs:List W}{q:Addr}(h3:σ[3]? =ae (ae (.ref q))) (hq:S q=ae (.lst xs)) (h:PuL t σ S ws) (hl:ws.length≤sizeLine) (hx:xs.length+ws.length≤sizeLine) (k:∀q2,S q2=none→D.rt (.ref q2) (put S q2 (.lst (xs++ws)))):zbf (zby (zfC (zaf 3) (zbR t))) E D σ S:=by
 rw[zsf,zrT,zpk,zjU,h3];dsimp only;rw[zrU];refine h E _ ⟨hl,?_⟩;rw[zaj hq];exact⟨hx,k⟩
theorem zon{m:Nat}(hm:m≤3) (g:Bool) (ha:S a=ae (.lst (six w0 w1 w2 w3 w4 w5))) (h:∀S' b,Sub S S'→S' b=ae (.lst (encs (rts w0 w1 w2 w3 w4 w5 m g)))→Q (.ref b) S'):zbY (r+1) [.int m, .ref a, .bl g] S Q E:=by
 rw[zbY,zlV];refine⟨rfl,?_⟩;rcases m with _ |_ |_ |_ |m
 ·exact zfn (zhT rfl (by decide)) (zup (ws:=[W.tup [W.str w2],W.tup [W.str w5],W.tup [W.str w3,W.tup [W.str w5]]]) (by repeat' first |exact zdk |refine zci ?_ ?_ |exact zqb |exact zgR rfl ha (by first |exact six0 |exact six1 |exact six2 |exact six3 |exact six4 |exact six5) |refine zez ?_ (zah (bp rfl))) (zah (bp rfl)) λq hq=>⟨_, .refl,h _ q (.put .refl hq) (by rw[zag];simp [rts,encs,enc])⟩)
 ·refine zdI (zhT rfl (by decide)) (zfn (zhT rfl (by decide)) (zkz (ws:=[W.int 0,W.tup [W.str w3,W.int 0],W.tup [W.str w4,W.int 0,W.int 0],W.tup [W.str w4,W.tup [W.str w3,W.int 0],W.tup [W.str w2]]]) (by repeat' first |exact zdk |refine zci ?_ ?_ |exact zqb |exact zgR rfl ha (by first |exact six0 |exact six1 |exact six2 |exact six3 |exact six4 |exact six5) |refine zez ?_ (zah (bp rfl))) (zah (bp rfl)) λq hq=>?_))
  have fa:put S q (.lst [W.int 0,W.tup [W.str w3,W.int 0],W.tup [W.str w4,W.int 0,W.int 0],W.tup [W.str w4,W.tup [W.str w3,W.int 0],W.tup [W.str w2]]]) a=ae (.lst (six w0 w1 w2 w3 w4 w5)):=keep ha hq;cases g
  ·exact zdI (zmt rfl) (zhd (ws:=[W.tup [W.str w2],W.tup [W.str w3,W.tup [W.str w5]]]) rfl zag (by repeat' first |exact zdk |refine zci ?_ ?_ |exact zqb |exact zgR rfl fa (by first |exact six0 |exact six1 |exact six2 |exact six3 |exact six4 |exact six5) |refine zez ?_ (zah (bp rfl))) (zah (bp rfl)) (zah (bp rfl)) λq2 hq2=>⟨_, .refl,h _ q2 ((Sub.put .refl hq).trans (.put .refl hq2)) (by rw[zag];simp [rts,encs,enc])⟩)
  ·exact zfn (zmt rfl) (zhd (ws:=[W.tup [W.str w0,W.int 0],W.tup [W.str w1,W.tup [W.str w3,W.int 0],W.int 0],W.tup [W.str w3,W.tup [W.str w0,W.int 0]]]) rfl zag (by repeat' first |exact zdk |refine zci ?_ ?_ |exact zqb |exact zgR rfl fa (by first |exact six0 |exact six1 |exact six2 |exact six3 |exact six4 |exact six5) |refine zez ?_ (zah (bp rfl))) (zah (bp rfl)) (zah (bp rfl)) λq2 hq2=>⟨_, .refl,h _ q2 ((Sub.put .refl hq).trans (.put .refl hq2)) (by rw[zag];simp [rts,encs,enc])⟩)
 ·refine zdI (zhT rfl (by decide)) (zdI (zhT rfl (by decide)) (zdI (zhT rfl (by decide)) (zkz (ws:=[W.tup [W.str w4,W.int 0,W.int 1],W.tup [W.str w4,W.int 1,W.int 0],W.tup [W.str w4,W.tup [W.str w3,W.int 0],W.int 1],W.tup [W.str w4,W.tup [W.str w4,W.int 0,W.int 0],W.int 1]]) (by repeat' first |exact zdk |refine zci ?_ ?_ |exact zqb |exact zgR rfl ha (by first |exact six0 |exact six1 |exact six2 |exact six3 |exact six4 |exact six5) |refine zez ?_ (zah (bp rfl))) (zah (bp rfl)) λq hq=>?_)))
  have fa:put S q (.lst [W.tup [W.str w4,W.int 0,W.int 1],W.tup [W.str w4,W.int 1,W.int 0],W.tup [W.str w4,W.tup [W.str w3,W.int 0],W.int 1],W.tup [W.str w4,W.tup [W.str w4,W.int 0,W.int 0],W.int 1]]) a=ae (.lst (six w0 w1 w2 w3 w4 w5)):=keep ha hq;cases g
  ·exact zdI (zmt rfl) (zhd (ws:=[W.int 0,W.int 1,W.tup [W.str w3,W.int 1],W.tup [W.str w5]]) rfl zag (by repeat' first |exact zdk |refine zci ?_ ?_ |exact zqb |exact zgR rfl fa (by first |exact six0 |exact six1 |exact six2 |exact six3 |exact six4 |exact six5) |refine zez ?_ (zah (bp rfl))) (zah (bp rfl)) (zah (bp rfl)) λq2 hq2=>⟨_, .refl,h _ q2 ((Sub.put .refl hq).trans (.put .refl hq2)) (by rw[zag];simp [rts,encs,enc])⟩)
  ·exact zfn (zmt rfl) (zhd (ws:=[W.tup [W.str w1,W.int 1,W.int 0],W.tup [W.str w0,W.tup [W.str w4,W.int 0,W.int 1]]]) rfl zag (by repeat' first |exact zdk |refine zci ?_ ?_ |exact zqb |exact zgR rfl fa (by first |exact six0 |exact six1 |exact six2 |exact six3 |exact six4 |exact six5) |refine zez ?_ (zah (bp rfl))) (zah (bp rfl)) (zah (bp rfl)) λq2 hq2=>⟨_, .refl,h _ q2 ((Sub.put .refl hq).trans (.put .refl hq2)) (by rw[zag];simp [rts,encs,enc])⟩)
 ·refine zdI (zhT rfl (by decide)) (zdI (zhT rfl (by decide)) (zfn (zhT rfl (by decide)) (zkz (ws:=[W.tup [W.str w4,W.tup [W.str w4,W.int 0,W.int 1],W.int 2],W.tup [W.str w4,W.int 2,W.tup [W.str w4,W.int 1,W.int 0]],W.tup [W.str w4,W.tup [W.str w4,W.int 0,W.int 0],W.tup [W.str w4,W.int 1,W.int 2]]]) (by repeat' first |exact zdk |refine zci ?_ ?_ |exact zqb |exact zgR rfl ha (by first |exact six0 |exact six1 |exact six2 |exact six3 |exact six4 |exact six5) |refine zez ?_ (zah (bp rfl))) (zah (bp rfl)) λq hq=>?_)))
  have fa:put S q (.lst [W.tup [W.str w4,W.tup [W.str w4,W.int 0,W.int 1],W.int 2],W.tup [W.str w4,W.int 2,W.tup [W.str w4,W.int 1,W.int 0]],W.tup [W.str w4,W.tup [W.str w4,W.int 0,W.int 0],W.tup [W.str w4,W.int 1,W.int 2]]]) a=ae (.lst (six w0 w1 w2 w3 w4 w5)):=keep ha hq;cases g
  ·exact zdI (zmt rfl) (zhd (ws:=[W.int 0,W.int 2,W.tup [W.str w4,W.int 1,W.int 1],W.tup [W.str w5]]) rfl zag (by repeat' first |exact zdk |refine zci ?_ ?_ |exact zqb |exact zgR rfl fa (by first |exact six0 |exact six1 |exact six2 |exact six3 |exact six4 |exact six5) |refine zez ?_ (zah (bp rfl))) (zah (bp rfl)) (zah (bp rfl)) λq2 hq2=>⟨_, .refl,h _ q2 ((Sub.put .refl hq).trans (.put .refl hq2)) (by rw[zag];simp [rts,encs,enc])⟩)
  ·exact zfn (zmt rfl) (zhd (ws:=[W.tup [W.str w0,W.tup [W.str w4,W.tup [W.str w4,W.int 2,W.int 0],W.int 1]],W.tup [W.str w1,W.int 1,W.tup [W.str w4,W.int 0,W.int 2]]]) rfl zag (by repeat' first |exact zdk |refine zci ?_ ?_ |exact zqb |exact zgR rfl fa (by first |exact six0 |exact six1 |exact six2 |exact six3 |exact six4 |exact six5) |refine zez ?_ (zah (bp rfl))) (zah (bp rfl)) (zah (bp rfl)) λq2 hq2=>⟨_, .refl,h _ q2 ((Sub.put .refl hq).trans (.put .refl hq2)) (by rw[zag];simp [rts,encs,enc])⟩)
 ·omega
end
theorem znA{Rs:List Tr}{d:Int}(h:0<Rs.length):∃R∈Rs,atI (encs Rs) (d % (Rs.length:Int))=ae (enc R):=by
 have h0:(0:Int)<Rs.length:=by omega
 have h1:=cg d (Int.ne_of_gt h0);have h2:=cn d h0;obtain⟨n,hn⟩:=jL h1;rw[hn]at h2⊢;have hl:n<Rs.length:=by omega
 refine⟨Rs[n],eV hl,?_⟩;rw[zaU,zaD,aX,aU hl];rfl
theorem zoc{S S':Sto}{a:Addr}{o:Ob}(h:Sub S S'):Sub (put S a o) (put S' a o):=λb x e=>by
 by_cases z:b=a
 ·subst z;rw[zag]at e⊢;exact e
 ·rw[zaN z]at e⊢;exact h b x e
section
variable {w0 w1 w2 w3 w4 w5:Str}{tt:List Str}{ns:List Int}{aw at' ab al:Addr}{r:Nat}{E:WX}{D:WEnds}{k j:Int}{g:Bool}
theorem zji (h6:tt.length=6) (k0:0≤k) (j0:0≤j):∀(ls:List Tr) {i:Nat}{C:List Tn}{S:Sto}{G:Sto→Prop}{x7 x8 x9 x10:Option W},(∀L∈ls,L.depth≤4∧L.weight≤7∧L.nb≤3)→C.length+ls.length≤6→S ab=ae (.lst (C.map zbh))→S aw=ae (.lst (six w0 w1 w2 w3 w4 w5))→S at'=ae (.lst (tt.map W.str))→ab≠aw→ab≠at'→
  (∀o,G (put S ab o))→
  (∀(C':List Tn) (x7 x8 x9 x10:Option W),C'.map (λt=>t.2.1)=ls→(C.map (λt=>t.1)=tt.take C.length→(C++C').map (λt=>t.1)=tt.take (C++C').length)→(∀t∈C',(RightW [w0,w1,w2,w3,w4,w5] t.2.1.nb t.2.2∧RX t.2.2))→D.nx [ae (.scr ns),ae (.int k),ae (.ref aw),ae (.ref at'),ae (.bl g),ae (.ref ab),ae (.int j),ae (.ref al),x7,x8,x9,x10] (put S ab (.lst ((C++C').map zbh))))→
  forL (wGT (zay (wGN 8) (zay (wGN 9) zcn))) (zcd (r+6) zba) E D G (zfv i (encs ls)) [ae (.scr ns),ae (.int k),ae (.ref aw),ae (.ref at'),ae (.bl g),ae (.ref ab),ae (.int j),ae (.ref al),x7,x8,x9,x10] S
 | [],i,C,S,G,x7,x8,x9,x10,hL,hl,hb,hw,ht,n1,n2,hG,h=>by
  simp only[encs,zfv,forL];have:=h [] x7 x8 x9 x10 rfl (λz=>by simpa using z) (λ_ h=>nomatch h)
  rw[bf,zeb hb]at this;exact this
 |L::ls,i,C,S,G,x7,x8,x9,x10,hL,hl,hb,hw,ht,n1,n2,hG,h=>by
  have hLd:=hL L aN;simp only[aV]at hl;simp only[encs,zfv];refine zbc λN hN=>?_;simp only[zcd];walk_at "wp";refine zij (r:=r+5) 4 hLd.1 (by omega) (by omega) ?_
  try dsimp only
  refine zon (r:=r+5) hLd.2.2 g hw λS1 rr sb hrr=>?_
  try walk_at "wp"
  refine⟨.inl ⟨by decide,by decide⟩,zdA (r:=r+5) (by omega) λdraw=>?_⟩
  try walk_at "wp"
  obtain⟨ti,eti,_⟩:=ztW (ss:=tt) (i:=(C.length:Int)) (by omega) (by omega);simp only[zaj (sb _ _ hb),zaj (sb _ _ ht),aq,eti,true_and,zaj hrr,zaM];have rl:=zts (w0:=w0) (w1:=w1) (w2:=w2) (w3:=w3) (w4:=w4) (w5:=w5) (m:=L.nb) g;obtain⟨R,hRm,hRe⟩:=znA (Rs:=rts w0 w1 w2 w3 w4 w5 L.nb g) (d:=draw) (by omega);have hR:=And.intro (zuQ (w0:=w0) (w1:=w1) (w2:=w2) (w3:=w3) (w4:=w4) (w5:=w5) hLd.2.2 g R hRm) (zuW hLd.2.2 g R hRm)
  try walk_at "wp"
  refine⟨by omega,?_⟩
  try simp only[zaj hrr,hRe]
  try walk_at "wp"
  try simp only[zaj (sb _ _ hb),aq]
  refine⟨zah (by decide),zbH (by omega),?_⟩;refine hN _ _ (put S ab (.lst ((C++[(ti,L,R)]).map zbh))) (by rw[bN];exact zoc sb) (hG _) ?_;refine zji h6 k0 j0 ls (C:=C++[(ti,L,R)]) (λM hM=>hL M (aH _ hM)) (by simp;omega) zag (by rw[zaN (bg n1)];exact hw) (by rw[zaN (bg n2)];exact ht) n1 n2 (λo=>by rw[zbe];exact hG o) λC' x7 x8 x9 x10 e1 e2 e3=>?_
  rw[zbe];have:=h ((ti,L,R)::C') x7 x8 x9 x10 (by rw[aD,e1]) (λz=>?_) (λt ht'=>?_)
  ·simpa using this
  ·have e:C++[(ti,L,R)]++C'=C++(ti,L,R)::C':=by simp
   rw[e]at e2;refine e2 ?_;rw[bN,z,ba,fA,kB];congr 1;have e4:(tt.map W.str)[C.length]? =ae (.str ti):=by rw[←zaU];exact eti
   rw[aX]at e4;cases q:tt[C.length]? with
   |none=>rw[q]at e4;cases e4
   |some y=>rw[q]at e4;cases e4;rfl
  ·rcases av.mp ht' with rfl |z
   ·exact hR
   ·exact e3 t z
theorem ziM (n:Nat) (h c d:Str):∀L∈leftsL n h c d,L.depth≤4∧L.weight≤7∧L.nb≤3:=by
 intro L hL;unfold leftsL at hL;split at hL<;>simp only[av,bo,or_false]at hL
 all_goals first
  | (subst hL;simp [Tr.depth,dts,Tr.weight,wts,Tr.nb,nbs])
  | (rcases hL with rfl |rfl<;>simp [Tr.depth,dts,Tr.weight,wts,Tr.nb,nbs])
theorem zqI{S:Sto}{Q:WK}{E:Str→Sto→Prop}(h6:tt.length=6) (k0:0≤k) (hw:S aw=ae (.lst (six w0 w1 w2 w3 w4 w5))) (ht:S at'=ae (.lst (tt.map W.str)))
  (h:∀(p:Addr) (B:List Tn) (n m:Nat),S p=none→B.map (λt=>t.2.1)=leftsL n w0 w2 w3++leftsL m w1 w2 w3→B.map (λt=>t.1)=tt.take B.length→(∀t∈B,(RightW [w0,w1,w2,w3,w4,w5] t.2.1.nb t.2.2∧RX t.2.2))→Q (.ref p) (put S p (.lst (B.map zbh)))):zbu (r+7) [.scr ns, .int k, .ref aw, .ref at', .bl g] S Q E:=by
 rw[show r+7=r+6+1 from rfl,zbu];walk_at "wp";refine⟨aS _,λab hb=>⟨⟨by decide,by decide⟩,?_⟩⟩
 refine zpT (λi σ S'=>∃(B:List Tn) (f:Nat→Nat) (x5 x6 x7 x8 x9 x10:Option W),B.map (λt=>t.2.1)=(aO i).flatMap (λj=>leftsL (f j) (hdOf w0 w1 j) w2 w3)∧B.map (λt=>t.1)=tt.take B.length∧(∀t∈B,(RightW [w0,w1,w2,w3,w4,w5] t.2.1.nb t.2.2∧RX t.2.2))∧S'=put S ab (.lst (B.map zbh))∧
  σ=[ae (.scr ns),ae (.int k),ae (.ref aw),ae (.ref at'),ae (.bl g),ae (.ref ab),x5,x6,x7,x8,x9,x10]) 2 ?_ ?_ ⟨[],λ_=>0,none,none,none,none,none,none,rfl,rfl,(λ_ h=>nomatch h),rfl,rfl⟩
 ·rintro j hj σ S' N ⟨B,f,x5,x6,x7,x8,x9,x10,e1,e2,e3,rfl,rfl⟩ hN;have fw:put S ab (Ob.lst (B.map zbh)) aw=ae (.lst (six w0 w1 w2 w3 w4 w5)):=keep hw hb;have ft:put S ab (Ob.lst (B.map zbh)) at'=ae (.lst (tt.map W.str)):=keep ht hb;have fb:put S ab (Ob.lst (B.map zbh)) ab=ae (.lst (B.map zbh)):=zag;have n1:ab≠aw:=λz=>by rw[z,hw]at hb;cases hb
  have n2:ab≠at':=λz=>by rw[z,ht]at hb;cases hb
  have eh:atI (six w0 w1 w2 w3 w4 w5) (j:Int)=ae (.str (hdOf w0 w1 j)):=by
   rcases(show j=0∨j=1 by omega) with rfl |rfl<;>rfl
  simp only[zdx];walk_at "wp";refine zdA (by omega) λdraw=>?_;walk_at "wp";simp only[zaj fw,eh,six2,six3];refine⟨by decide,zrq λal n hal=>?_⟩;have hl:=zfb n (hdOf w0 w1 j) w2 w3;have hB:B.length≤4:=by
   have:=congrArg dk e1;rw[aq]at this;rcases(show j=0∨j=1 by omega) with rfl |rfl
   ·simp at this;rw[this];simp
   ·simp at this;have:=zfb (f 0) (hdOf w0 w1 0) w2 w3;omega
  have nal:al≠ab:=λz=>by rw[z,fb]at hal;cases hal
  try walk_at "wp"
  refine zji (g:=g) h6 k0 (by omega) (leftsL n (hdOf w0 w1 j) w2 w3) (ziM _ _ _ _) (by omega) (keep fb hal) (keep fw hal) (keep ft hal) n1 n2 (λo=>?_) λC' x7 x8 x9 x10 g1 g2 g3=>?_
  ·rw[zaN nal,zag]
  ·refine hN _ _ (put S ab (.lst ((B++C').map zbh))) ?_ ⟨B++C',λi=>if i=j then n else f i,_,_,_,_,_,_,?_,g2 e2,λt ht'=>?_,rfl,rfl⟩
   ·rw[zlw nal];exact .put .refl (by rw[zaN nal];exact(zde hal).1)
   ·rw[bN,e1,g1,gN,jU];congr 1
    ·rw[kc,kc];congr 1;refine c_ λi hi=>?_;have:=eM.mp hi;dsimp only;rw[if_neg (by omega)]
    ·simp
   ·rcases bb.mp ht' with z |z
    ·exact e3 t z
    ·exact g3 t z
 ·rintro σ S' ⟨B,f,x5,x6,x7,x8,x9,x10,e1,e2,e3,rfl,rfl⟩;walk_at "wp";refine⟨_, .refl,h ab B (f 0) (f 1) hb ?_ e2 e3⟩;rw[e1];simp [gN,hdOf]
end
theorem zuT{s:Str}{ts:List Tr}{i:Int}{p:List Int}{v:Tr}(h:(Tr.nd s ts).at (i::p)=ae v):∃w,ts[i.toNat]? =ae w∧w.at p=ae v:=by
 simp only[Tr.at]at h;cases e:ts[i.toNat]? with
 |none=>rw[e]at h;simp at h
 |some w=>
  rw[e]at h;have h':0≤i∧w.at p=ae v:=by simpa using h
  exact⟨w,rfl,h'.2⟩
theorem zxL{P:Str→Prop}:∀(q:List Int) {X v:Tr},X.hd P→X.at q=ae v→v.hd P∧v.weight≤X.weight
 | [],X,v,hX,h=>by
  cases X<;>(simp only[Tr.at,bq]at h;subst h;exact⟨hX,aB _⟩)
 |i::p, .bl n,v,hX,h=>by simp [Tr.at]at h
 |i::p, .nd s ts,v,hX,h=>by
  obtain⟨w,hw,hv⟩:=zuT h;have hm:w∈ts:=a_ hw;simp only[Tr.hd]at hX;have:=zxL p (hds_iff.mp hX.2 w hm) hv;have hwt:=zbA hm;exact⟨this.1,by rw[Tr.weight];omega⟩
theorem zrY{P:Str→Prop}{u:Tr}(hu:u.hd P):∀(q:List Int) {X v:Tr},X.hd P→X.at q=ae v→(X.put q u).hd P
 | [],X,v,hX,h=>by rw[zdn];exact hu
 |i::p, .bl n,v,hX,h=>by simp [Tr.at]at h
 |i::p, .nd s ts,v,hX,h=>by
  obtain⟨w,hw,hv⟩:=zuT h;have hm:w∈ts:=a_ hw;rw[zev hw];simp only[Tr.hd]at hX⊢;exact⟨hX.1,zoT (zrY hu p (hds_iff.mp hX.2 w hm) hv) _ hX.2⟩
structure Pre0 (S:Sto) (aw at' ab:Addr) (w0 w1 w2 w3 w4 w5:Str) (tt:List Str) (B:List Tn):Prop where
  G:Signs w0 w1 w2 w3 w4 w5
  T:Titles tt
  b:BookOk w0 w1 w2 w3 w4 w5 tt B
  fw:S aw=ae (.lst (six w0 w1 w2 w3 w4 w5))
  ft:S at'=ae (.lst (tt.map W.str))
  fb:S ab=ae (.lst (B.map zbh))
  rx:∀t∈B,RX t.2.2
theorem Pre0.ne{S:Sto}{aw at' ab:Addr}{w0 w1 w2 w3 w4 w5:Str}{tt:List Str}{B:List Tn}(P:Pre0 S aw at' ab w0 w1 w2 w3 w4 w5 tt B):B≠ []:=by
 have h:=P.b.len;rintro rfl;simp at h
structure Pw (w0 w1 w2 w3 w4 w5:Str) (tt:List Str) (B:List Tn) (p:Pl):Prop where
  b:BookOk w0 w1 w2 w3 w4 w5 tt B
  T:Titles tt
  G:Signs w0 w1 w2 w3 w4 w5
  o:PlOk [w2,w3,w4,w5] B p
  w:p.wt≤23
  n:p.nt≤4
section
variable {w0 w1 w2 w3 w4 w5:Str}{tt:List Str}{B:List Tn}{p:Pl}{c:Int→Nat}
theorem Pw.k (u:Pw w0 w1 w2 w3 w4 w5 tt B p):BkOk [w0,w1,w2,w3,w4,w5] [w2,w3,w4,w5] B:=u.b.bk u.T u.G
theorem Pw.nd (u:Pw w0 w1 w2 w3 w4 w5 tt B p):(B.map λt=>t.1).Nodup:=u.k.nd
theorem zqv{ws hs:List Str}{c:Int→Nat}(b:BkOk ws hs B) (hc:∀x:Int,0≤x→x<8→c x≤1) {p:Pl}(h:PlOk hs B p):(p.ev B c).weight≤p.wt+2*p.nt:=by
 have sum:∀ps:List Pl,(∀p∈ps,(p.ev B c).weight≤p.wt+2*p.nt)→wts (ps.map (Pl.ev B c))≤pwts ps+2*pnts ps:=by
  intro ps
  induction ps with
  |nil=>intro _;simp [wts]
  |cons p ps ih=>
   intro h;have h1:=h p aN;have h2:=ih λq hq=>h q (aH _ hq);rw[aD,wts,pwts,pnts];omega
 induction h with
 | @sign b' h ps hh hp ih=>
  have:=sum ps ih;rw[zcA,Tr.weight,Pl.wt,Pl.nt];omega
 | @turn k b' h ps t e hl b0 b1 hp ih=>
  have ht:t∈B:=a_ e;have:=sum ps ih;have hcx:=hc b' b0 b1;rw[zbB e,Pl.wt,Pl.nt,if_neg (by omega)];by_cases c1:c b'=1
  ·rw[c1];show(Tr.nd t.1 _).weight≤_;rw[Tr.weight];omega
  ·rw[show c b'=0 by omega]
   have:=(b.lf t ht).fw (ps.map (Pl.ev B c)) (by rw[aq,hl]);show(t.2.1.fill _).weight≤_;omega
end
theorem zpb{f:W→W→Option Bool}(h:∀x:List Int,f (zat x) (zat x)=ae true):∀xs:List (List Int),zet f (xs.map zat) (xs.map zat)=ae true
 | []=>rfl
 |x::xs=>by rw[aD,zet,h,zpb h xs];rfl
theorem zxg{S:Sto}{a b:Addr}{xs:List (List Int)}(ha:S a=ae (.lst (xs.map zat))) (hb:S b=ae (.lst (xs.map zat))):eqF S 60 (.ref a) (.ref b)=ae true:=zuJ (n:=59) ha hb (zpb (λx=>by rw[zxe (n:=57)];simp) xs)
section
variable {w0 w1 w2 w3 w4 w5:Str}{tt:List Str}{B:List Tn}
theorem ztV (b:BookOk w0 w1 w2 w3 w4 w5 tt B) {X:Tr}{q:List Int}{t:Tn}{us:List Tr}(ht:t∈B) (hu:us.length=t.2.1.nb) (hX:X.at q=ae (t.2.1.fill us)) (hh:X.hd λ_=>True):(X.put q (t.2.2.fill us)).hd (λ_=>True)∧(X.put q (t.2.2.fill us)).weight≤7*X.weight∧(t.2.1.fill us).fits 0:=by
 have h1:=zxL q hh hX;have h2:=zqQ _ _ _ (b.mt t ht us hu) h1.1;have ri:=b.ri t ht;have hr:(t.2.2.fill us).hd λ_=>True:=zie (hds_iff.mp h2.1) t.2.2 (ri.hb λ_ _=>trivial) (by rw[hu];exact ri.fits);have hv:1≤(t.2.1.fill us).weight:=zdq _;have fw:=zgA hv (λu hu'=>bM (zbA hu') h2.2) t.2.2;have pw:=zgY q (u:=t.2.2.fill us) hX;have rw7:t.2.2.weight*(t.2.1.fill us).weight≤7*(t.2.1.fill us).weight:=Nat.mul_le_mul_right _ ri.wt;refine⟨zrY hr q hh hX,?_,zeG _ h1.1⟩;omega
end
section
variable {ws:List Str}{B:List Tn}
theorem Wy.re{h:Str}{ts us:List Tr}(w:Wy ws B (.nd h ts)) (hl:us.length=ts.length) (hu:∀x∈us,Wy ws B x):Wy ws B (.nd h us):=by
 obtain⟨h1,h2⟩:=w;rw[Tr.hd,hds_iff]at h1;rw[Tr.ar,ars_iff]at h2;refine⟨?_,?_⟩
 ·rw[Tr.hd,hds_iff];exact⟨h1.1,λu hm=>(hu u hm).hd⟩
 ·rw[Tr.ar,ars_iff];exact⟨λt e=>by rw[hl];exact h2.1 t e,λu hm=>(hu u hm).ar⟩
end
section
variable {ws:List Str}{B:List Tn}
theorem Sh.of (K:Bk3 ws B) {x:Tr}(h:Wy ws B x):Sh ws B (src B x):=⟨(K.src h).1,(K.src h).2.1⟩
theorem zhN{wn:List (List Int)}{n:Nat}{p:List Int}:∀{qs:List (List Int)}{ts:List Tr},qs.length=ts.length→(∀(i:Nat) q t,qs[i]? =ae q→ts[i]? =ae t→Wi B wn n (p++q) t t)→Wis B wn n p qs ts ts
 | [],[],_,_=> .nil
 |q::qs,t::ts,h,f=> .cons (f 0 q t rfl rfl) (zhN (by simpa using h) λi q t h1 h2=>f (i+1) q t (by simpa using h1) (by simpa using h2))
 | [],t::ts,h,f=>by simp at h
 |q::qs,[],h,f=>by simp at h
theorem ztF (K:Bk3 ws B) {wn:List (List Int)}:∀(n:Nat) (v:Tr) (p:List Int),v.depth≤n→Sh ws B v→(∀r,p++r∉wn)→Wi B wn n p v v
 |0,v,p,hd,h,hn=>by have:=zaH v;omega
 |n+1,v,p,hd,h,hn=>by
  obtain⟨s,ts,rfl,_,e,k⟩:=h.cases K;rw[Tr.depth]at hd;refine .no (by simpa using hn []) e (zhN (by simp) λi q t h1 h2=>?_);have hm:t∈ts:=a_ h2;have:=zbd hm;exact ztF K n t (p++q) (by omega) (k t hm) λr=>by rw[bI];exact hn _
end
section
variable {B:List Tn}
theorem zpF{wn:List (List Int)}{n:Nat}{p:List Int}:∀{qs:List (List Int)}{ts us:List Tr},qs.length=ts.length→us.length=ts.length→(∀(i:Nat) q t u,qs[i]? =ae q→ts[i]? =ae t→us[i]? =ae u→Wi B wn n (p++q) t u)→Wis B wn n p qs ts us
 | [],[],[],_,_,_=> .nil
 |q::qs,t::ts,u::us,h,h',f=> .cons (f 0 q t u rfl rfl rfl) (zpF (by simpa using h) (by simpa using h') λi q t u h1 h2 h3=>f (i+1) q t u (by simpa using h1) (by simpa using h2) (by simpa using h3))
 | [],t::ts,_,h,_,f=>by simp at h
 |q::qs,[],_,h,_,f=>by simp at h
 |_,t::ts,[],_,h,f=>by simp at h
 |_,[],u::us,_,h,f=>by simp at h
structure Lfs (B:List Tn):Prop where
  op:∀t∈B,∀us:List Tr,us.length=t.2.1.nb→zdj B (t.2.1.fill us)=ae t
  lf:∀t∈B,∃n h c d,t.2.1∈leftsL n h c d
end
mutual
theorem Wi.bd{B:List Tn}{wn:List (List Int)}(O:Ort B):∀{n:Nat}{p:List Int}{t u:Tr},Wi B wn n p t u→Wi B wn t.depth p t u
 |_,_,_,_, .no (ts:=ts) h1 h2 h3=>by
  rw[Tr.depth,gV];exact .no h1 h2 (Wis.bd O h3)
 |_,_,_,_, .yes (ts:=ts) (ms:=ms) h1 h2 h3 h4 h5=>by
  rw[Tr.depth,gV];exact .yes h1 h2 h3 h4 ((Wis.bd O h5).mono (zxJ O (da h2) h3))
theorem Wis.bd{B:List Tn}{wn:List (List Int)}(O:Ort B):∀{n:Nat}{p:List Int}{qs:List (List Int)}{ts us:List Tr},Wis B wn n p qs ts us→Wis B wn (dts ts) p qs ts us
 |_,_,_,_,_, .nil=> .nil
 |_,_,_,_,_, .cons a b=>by
  rw[dts];exact .cons ((Wi.bd O a).mono (by omega)) ((Wis.bd O b).mono (by omega))
end
structure Ms where
  c0:Nat
  c1:Nat
  k:Tn→Nat→Nat
section
mutual
theorem zhO{us:List Tr}:∀t:Tr,t.fits us.length→(t.fill us).depth≤t.sd+dts us
 | .bl n,ft=>by
  rw[Tr.fits]at ft;have hl:n.toNat<us.length:=by omega
  rw[Tr.fill,bE,aU hl,Option.getD_some,Tr.sd,cP];exact zbd (eV ..)
 | .nd s ts,ft=>by
  rw[Tr.fits]at ft;have:=zlY ts ft;rw[Tr.fill,Tr.depth,Tr.sd];omega
theorem zlY{us:List Tr}:∀ts:List Tr,fitss us.length ts→dts (fills us ts)≤sds ts+dts us
 | [],ft=>by rw[fills,dts];omega
 |t::ts,ft=>by
  rw[fitss]at ft;have h1:=zhO t ft.1;have h2:=zlY ts ft.2;rw[fills,dts,sds];omega
end
theorem zrB{n:Nat}{h c d:Str}{L:Tr}(hL:L∈leftsL n h c d):RX L:=by
 have key:∀{M:Tr},M.sg≤3→M.sd≤3→(∀n∈M.nm,M.nm.count n≤2)→RX M:=λh1 h2 h3=>⟨h1,h2,zvH h3⟩;unfold leftsL at hL;split at hL<;>simp only[av,bo,or_false]at hL<;>(try rcases hL with rfl |rfl)<;>(try subst hL)<;>exact key (by simp [Tr.sg,sgs]) (by simp [Tr.sd,sds]) (by simp only[Tr.nm,nms,aR,bf,cG]<;>decide)
end
section
variable {B:List Tn}
theorem BookOk.lfs{w0 w1 w2 w3 w4 w5:Str}{tt:List Str}(b:BookOk w0 w1 w2 w3 w4 w5 tt B) (G:Signs w0 w1 w2 w3 w4 w5):Lfs B:=⟨λt ht us hu=>b.open_some G ht hu,λt ht=>by
 obtain⟨n,m,e⟩:=b.lf;have:t.2.1∈leftsL n w0 w2 w3++leftsL m w1 w2 w3:=by rw[←e];exact aZ.mpr ⟨t,ht,rfl⟩
 rcases bb.mp this with z |z
 ·exact⟨_,_,_,_,z⟩
 ·exact⟨_,_,_,_,z⟩⟩
theorem Lfs.fram (F:Lfs B):∀t∈B,Fram t.2.1.fill t.2.1.nb (t.2.1.bls.map λx=>x.1):=λt ht=>by
 obtain⟨_,_,_,_,hL⟩:=F.lf t ht;exact zpG hL
end
section
variable {B:List Tn}
theorem znE{p:List Int}{y:List Int×Str}:∀(ts:List Tr) (k i:Nat) {w:Tr},ts[i]? =ae w→y∈w.op B (p++[((k+i:Nat):Int)])→y∈ops B p k ts
 | [],k,i,w,e,h=>by simp at e
 |t::ts,k,0,w,e,h=>by
  rw[gw]at e;cases e;rw[ops];exact dj _ h
 |t::ts,k,i+1,w,e,h=>by
  rw[bU]at e;rw[ops];refine bZ _ (znE ts (k+1) i e ?_);rw[show k+1+i=k+(i+1) by omega]
  exact h
theorem zxc:∀(q:List Int) {t v:Tr}{p:List Int}{u:Tn},t.at q=ae v→zdj B v=ae u→v.isBl=false→(p++q,u.1)∈t.op B p
 | [],t,v,p,u,h,ho,hb=>by
  rw[zeW]at h;cases h;cases t with
  |bl n=>cases hb
  |nd s ts=>
   rw[Tr.op,ho,bf];exact dj _ aN
 |i::q, .bl n,v,p,u,h,ho,hb=>by cases h
 |i::q, .nd s ts,v,p,u,h,ho,hb=>by
  obtain⟨w,h0,h1,h2⟩:=zeQ h;obtain⟨j,rfl⟩:∃j:Nat,i=j:=⟨i.toNat,(cB h0).symm⟩;rw[bK]at h1;rw[Tr.op];refine bZ _ (znE ts 0 j h1 ?_);have:=zxc q (p:=p++[(j:Int)]) h2 ho hb;rw[cP];rw[bI]at this;exact this
end
mutual
theorem zho:∀x:Tr,x.quiet=true→x.hd zcN
 | .bl n,h=>by rw[Tr.quiet]at h;cases h
 | .nd s ts,h=>by
  rw[Tr.quiet,ce]at h;rw[Tr.hd];exact⟨(zeL s).mp h.1,zgD ts h.2⟩
theorem zgD:∀ts:List Tr,zgr ts=true→hds zcN ts
 | [],h=>by rw[hds];trivial
 |t::ts,h=>by
  rw[zgr,ce]at h;rw[hds];exact⟨zho t h.1,zgD ts h.2⟩
end
theorem PlOk.up{ws vs:List Str}{B:List Tn}(hv:∀x∈vs,x∈ws) {p:Pl}(h:PlOk vs B p):PlOk ws B p:=by
 induction h with
 |sign hh _ ih=>exact .sign (hv _ hh) ih
 |turn e hl b0 b1 _ ih=>exact .turn e hl b0 b1 ih
section
variable {ws:List Str}{B:List Tn}
theorem zsw (K:Bk3 ws B) {t:Tn}(ht:t∈B) {i:Nat}{e:List Int}(h:(t.2.1.bls.map λx=>x.1)[i]? =ae e):e≠ []:=by
 rintro rfl;obtain⟨b,hb,h0⟩:=aZ.mp (a_ h);have ha:=(zkv hb).1;rw[h0,zeW,(zkv hb).2.1]at ha;obtain⟨z0,ls,ez,_⟩:=K.O.inn t ht;rw[ez]at ha;cases ha
end
theorem zjL:∀(q:List Int) {X v:Tr},X.at q=ae v→X.put q v=X
 | [],X,v,h=>by
  rw[zeW]at h;cases h;exact zdn _ _
 |i::q, .bl n,v,h=>by cases h
 |i::q, .nd s ts,v,h=>by
  obtain⟨w,h0,h1,h2⟩:=zeQ h;rw[zev h1,zjL q h2];congr 1;exact jr λj=>by
   rw[kP];split
   ·rename_i e;rw[←e,h1];simp [(bL.mp h1).1]
   ·rfl
theorem zng:∀(q:List Int) {X v:Tr},X.at q=ae v→q.length+v.depth≤X.depth
 | [],X,v,h=>by
  rw[zeW]at h;cases h;simp
 |i::q, .bl n,v,h=>by cases h
 |i::q, .nd s ts,v,h=>by
  obtain⟨w,h0,h1,h2⟩:=zeQ h;have:=zng q h2;have:=zbd (a_ h1);rw[Tr.depth,aV];omega
theorem zlD{u:Tr}:∀(ts:List Tr) (i:Nat),dts (ts.set i u)≤max (dts ts) u.depth
 | [],i=>by simp [dts]
 |t::ts,0=>by rw[fK,dts,dts];omega
 |t::ts,i+1=>by
  have:=zlD (u:=u) ts i;rw[gl,dts,dts];omega
theorem zsI{u:Tr}:∀(q:List Int) {X v:Tr},X.at q=ae v→(X.put q u).depth≤max X.depth (q.length+u.depth)
 | [],X,v,h=>by rw[zdn];simp;omega
 |i::q, .bl n,v,h=>by cases h
 |i::q, .nd s ts,v,h=>by
  obtain⟨w,h0,h1,h2⟩:=zeQ h;have h3:=zsI (u:=u) q h2;have h4:=zlD (u:=w.put q u) ts i.toNat;have h5:=zbd (a_ h1);rw[zev h1,Tr.depth,Tr.depth,aV];omega
section
variable {ws:List Str}{B:List Tn}
theorem Sh.sig (K:Bk3 ws B) {X:Tr}(h:Sh ws B X):X.hd zcN:=zho _ (h.quiet K)
theorem Sh.mkq (K:Bk3 ws B) {X:Tr}(h:Sh ws B X) (g:Tn→Tr):X.mk B g=X:=zld K.b.ti _ (h.sig K)
theorem zoe (K:Bk3 ws B) {ts:List Tr}(h:∀t∈ts,Sh ws B t) (g:Tn→Tr):ts.map (Tr.mk B g)=ts:=by
 rw[c_ (g:=id) λt ht=>(h t ht).mkq K g,List.map_id]
theorem zok (K:Bk3 ws B) (g:Tn→Tr) {u:Tr}:∀(q:List Int) {X v:Tr},Sh ws B X→X.at q=ae v→(X.put q u).mk B g=X.put q (u.mk B g)
 | [],X,v,hs,h=>by rw[zdn,zdn]
 |i::q, .bl n,v,hs,h=>by cases h
 |i::q, .nd s ts,v,hs,h=>by
  obtain⟨w,h0,h1,h2⟩:=zeQ h;obtain⟨s',ts',e,_,e2,k⟩:=hs.cases K;cases e;rw[zev h1,zev h1,zeK e2,List.map_set,zoe K k,zok K g q (k w (a_ h1)) h2]
theorem zsk{u:Tr}(hu:Wy ws B u):∀(q:List Int) {X v:Tr},Wy ws B X→X.at q=ae v→Wy ws B (X.put q u)
 | [],X,v,hs,h=>by rw[zdn];exact hu
 |i::q, .bl n,v,hs,h=>by cases h
 |i::q, .nd s ts,v,hs,h=>by
  obtain⟨w,h0,h1,h2⟩:=zeQ h;rw[zev h1];refine hs.re (by simp) λz hz=>?_;rcases List.mem_or_eq_of_mem_set hz with q' |rfl
  ·exact hs.kids z q'
  ·exact zsk hu q (hs.kids w (a_ h1)) h2
theorem zfK{p:List Int}:∀(qs:List (List Int)) (ts:List Tr),(∀t∈ts,∀q,t.lo B q=[])→loz B p qs ts=[]
 | [],ts,h=>by cases ts<;>rfl
 |q::qs,[],h=>rfl
 |q::qs,t::ts,h=>by rw[loz,h t aN,zfK qs ts λu hu=>h u (aH _ hu)];rfl
theorem ztd (K:Bk3 ws B):∀(n:Nat) {X:Tr},X.depth≤n→Sh ws B X→ ∀p,X.lo B p=[]
 |0,X,hn,h,p=>by have:=zaH X;omega
 |n+1,X,hn,h,p=>by
  obtain⟨s,ts,rfl,_,e,k⟩:=h.cases K;rw[Tr.depth]at hn;rw[zoP e];exact zfK _ _ λt ht q=>ztd K n (by have:=zbd ht;omega) (k t ht) q
theorem zph{p r:List Int}{u:Tr}:∀(ts:List Tr) (k i:Nat),i<ts.length→(∀t∈ts,∀q,t.lo B q=[])→u.lo B (p++[((k+i:Nat):Int)])=[r]→loz B p ((List.range' k ts.length).map λ(i:Nat)=>[(i:Int)]) (ts.set i u)=[r]
 | [],k,i,hi,h,e=>by simp at hi
 |t::ts,k,0,hi,h,e=>by
  rw[fK,aV,jA,aD,loz,zfK _ _ λu hu=>h u (aH _ hu),bf];exact e
 |t::ts,k,i+1,hi,h,e=>by
  rw[gl,aV,jA,aD,loz,h t aN,aR];refine zph ts (k+1) i (by simpa using hi) (λu hu=>h u (aH _ hu)) ?_;rw[show k+1+i=k+(i+1) by omega]
  exact e
structure Ou (ws:List Str) (B:List Tn) (X:Tr) (q:List Int) (t:Tn) (us:List Tr):Prop where
  ht:t∈B
  hl:us.length=t.2.1.nb
  hat:X.at q=ae (t.2.1.fill us)
  sh:∀u∈us,Sh ws B u
theorem Ou.tt (K:Bk3 ws B) {X:Tr}{q:List Int}{t:Tn}{us:List Tr}(o:Ou ws B X q t us):zaI B t.1=ae t:=zdG K.b.nd o.ht
theorem Ou.wys (K:Bk3 ws B) {X:Tr}{q:List Int}{t:Tn}{us:List Tr}(o:Ou ws B X q t us):Wy ws B (.nd t.1 us):=by
 refine⟨?_,?_⟩
 ·rw[Tr.hd,hds_iff];exact⟨.inr ⟨t,o.ht,rfl⟩,λu hu=>(o.sh u hu).wy.hd⟩
 ·rw[Tr.ar,ars_iff];refine⟨λt' e=>?_,λu hu=>(o.sh u hu).wy.ar⟩;rw[o.tt K]at e;cases e;exact o.hl
theorem zrW (K:Bk3 ws B) {t:Tn}{us:List Tr}(et:zaI B t.1=ae t) (hu:∀u∈us,Sh ws B u):∀(q:List Int) {X v:Tr}(p:List Int),Sh ws B X→X.at q=ae v→(X.put q (.nd t.1 us)).lo B p=[p++q]
 | [],X,v,p,hs,h=>by
  rw[zdn,zth et,zfK _ _ λu hm q=>ztd K _ (aB _) (hu u hm) q];simp
 |i::q, .bl n,v,p,hs,h=>by cases h
 |i::q, .nd s ts,v,p,hs,h=>by
  obtain⟨w,h0,h1,h2⟩:=zeQ h;obtain⟨s',ts',e,_,e2,k⟩:=hs.cases K;cases e;obtain⟨j,rfl⟩:∃j:Nat,i=j:=⟨i.toNat,(cB h0).symm⟩;rw[bK]at h1;rw[zev (by rw[bK];exact h1),bK,zoP e2,List.length_set,List.range_eq_range'];refine zph ts 0 j (bL.mp h1).1 (λt ht q=>ztd K _ (aB _) (k t ht) q) ?_;rw[zrW K et hu q _ (k w (a_ h1)) h2,cP,bI];rfl
theorem zsg (K:Bk3 ws B) (F:Lfs B) {t:Tn}{us:List Tr}(ht:t∈B) (hl:us.length=t.2.1.nb) (hu:∀u∈us,Sh ws B u):∀(q:List Int) {X:Tr}(p:List Int),Sh ws B X→X.at q=ae (t.2.1.fill us)→ ∃n,Wi B [p++q] n p X (X.put q (.nd t.1 us))
 | [],X,p,hs,h=>by
  rw[zeW]at h;cases h;obtain⟨s0,ts0,e3,_⟩:=hs.cases K;have ho:=F.op t ht _ hl;have hm:=K.O.mt t ht _ hl;rw[zdn,e3];rw[e3]at ho hm;refine⟨dts us+1, .yes (by simp) ho hm (zdG K.b.nd ht) (zhN (by rw[aq,hl,zos]) λi q v h1 h2=>?_)⟩;have hv:v∈us:=a_ h2;refine ztF K _ _ _ (zbd hv) (hu v hv) λr hr=>?_;have h0:=zsw K ht h1;rw[bf,bn,bI]at hr;have:=congrArg dk hr;simp at this;exact h0 this.1
 |i::q, .bl n,p,hs,h=>by cases h
 |i::q, .nd s ts,p,hs,h=>by
  obtain⟨w,h0,h1,h2⟩:=zeQ h;obtain⟨s',ts',e,_,e2,k⟩:=hs.cases K;cases e;obtain⟨j,rfl⟩:∃j:Nat,i=j:=⟨i.toNat,(cB h0).symm⟩;rw[bK]at h1;obtain⟨n,hn⟩:=zsg K F ht hl hu q (p++[(j:Int)]) (k w (a_ h1)) h2;rw[zev (by rw[bK];exact h1),bK];refine⟨(n+dts ts)+1, .no (by simp) e2 (zpF (by simp) (by simp) λi' q' t' u' g1 g2 g3=>?_)⟩;have g1':q'=[(i':Int)]:=by
   have hi:=(bL.mp g2).1;rw[aX,fB hi]at g1;cases g1;rfl
  subst g1';have hd:=zbd (a_ g2);rw[kP]at g3;by_cases e:j=i'
  ·subst e;rw[h1]at g2;cases g2;rw[if_pos rfl,if_pos (bL.mp h1).1]at g3;cases g3;have:=hn.mono (m:=n+dts ts) (by omega);rw[bI]at this;exact this
  ·rw[if_neg e,g2]at g3;cases g3;refine ztF K _ _ _ (by omega) (k _ (a_ g2)) λr hr=>?_;rw[bn,bI,List.append_cancel_left_eq]at hr;simp at hr;omega
end
section
variable {ws:List Str}{B:List Tn}{X:Tr}{q:List Int}{t:Tn}{us:List Tr}
theorem zoy{p:List Int}{y:List Int×Str}:∀(ts:List Tr) (k:Nat),y∈ops B p k ts→ ∃(j:Nat) (w:Tr),ts[j]? =ae w∧y∈w.op B (p++[((k+j:Nat):Int)])
 | [],k,h=>by rw[ops]at h;cases h
 |t::ts,k,h=>by
  rw[ops]at h;rcases bb.mp h with h |h
  ·exact⟨0,t,rfl,h⟩
  ·obtain⟨j,w,e,h'⟩:=zoy ts (k+1) h;refine⟨j+1,w,by simpa using e,?_⟩
   rw[show k+(j+1)=k+1+j by omega]
   exact h'
theorem zsY (K:Bk3 ws B):∀(n:Nat) {X:Tr}{p:List Int}{y:List Int×Str},X.depth≤n→Sh ws B X→y∈X.op B p→ ∃q t us,y.1=p++q∧Ou ws B X q t us
 |0,X,p,y,hn,h,hy=>by have:=zaH X;omega
 |n+1,X,p,y,hn,h,hy=>by
  obtain⟨s,ts,rfl,_,e,k⟩:=h.cases K;rw[Tr.depth]at hn;rw[Tr.op]at hy;rcases bb.mp hy with hy |hy
  ·cases eo:zdj B (.nd s ts) with
   |none=>rw[eo]at hy;cases hy
   |some t=>
    rw[eo]at hy;rw[bn]at hy;subst hy;have ht:t∈B:=da eo;have hm:=i9 eo;obtain⟨ms,em⟩:=eE.mp hm;obtain⟨p1,p2,p3⟩:=h.parts K ht em;exact⟨[],t,ms,by simp,ht,p2,by rw[zeW,p1],p3⟩
  ·obtain⟨j,w,ew,hw⟩:=zoy ts 0 hy;have hm:=a_ ew;obtain⟨q,t,us,e1,o⟩:=zsY K n (by have:=zbd hm;omega) (k w hm) hw;refine⟨(j:Int)::q,t,us,by rw[e1,cP,bI];rfl,o.ht,o.hl,?_,o.sh⟩
   rw[zuY ew];exact o.hat
noncomputable def wyO (X:Tr) (q:List Int) (t:Tn) (us:List Tr):Tr:=X.put q (.nd t.1 us)
noncomputable def toO (X:Tr) (q:List Int) (t:Tn) (us:List Tr):Tr:=X.put q (t.2.2.fill us)
theorem Ou.src (K:Bk3 ws B) (h:Sh ws B X) (o:Ou ws B X q t us):src B (wyO X q t us)=X:=by
 show(X.put q (.nd t.1 us)).mk B _=X;rw[zok K _ q h o.hat,zdM (o.tt K),zoe K o.sh];exact zjL q o.hat
theorem Ou.gol (K:Bk3 ws B) (h:Sh ws B X) (o:Ou ws B X q t us):gol B (wyO X q t us)=toO X q t us:=by
 show(X.put q (.nd t.1 us)).mk B _=_;rw[zok K _ q h o.hat,zdM (o.tt K),zoe K o.sh];rfl
theorem Ou.wy (K:Bk3 ws B) (h:Sh ws B X) (o:Ou ws B X q t us):Wy ws B (wyO X q t us):=zsk (o.wys K) q h.wy o.hat
theorem Ou.to (K:Bk3 ws B) (h:Sh ws B X) (o:Ou ws B X q t us):Sh ws B (toO X q t us):=by
 have g:=K.gol (o.wy K h);rw[o.gol K h]at g;exact⟨g.1,g.2.1⟩
theorem Ou.wi (K:Bk3 ws B) (F:Lfs B) (h:Sh ws B X) (o:Ou ws B X q t us):Wi B [q] X.depth [] X (wyO X q t us):=by
 obtain⟨n,hn⟩:=zsg K F o.ht o.hl o.sh q [] h o.hat;exact hn.bd K.O
theorem Ou.lo (K:Bk3 ws B) (h:Sh ws B X) (o:Ou ws B X q t us):(wyO X q t us).lo B []=[q]:=zrW K (o.tt K) o.sh q [] h o.hat
theorem Ou.op (K:Bk3 ws B) (F:Lfs B) (o:Ou ws B X q t us):q∈(X.op B []).map λx=>x.1:=by
 obtain⟨z,ls,ez,_⟩:=K.O.inn t o.ht;have:=zxc (B:=B) q (p:=[]) o.hat (F.op t o.ht us o.hl) (by rw[ez,Tr.fill];rfl);exact aZ.mpr ⟨_,this,by simp⟩
theorem zst{k:Nat}:∀{us:List Tr},(∀u∈us,u.depth≤k)→dts us≤k
 | [],h=>by simp [dts]
 |u::us,h=>by
  have h1:=h u aN;have h2:=zst λv hv=>h v (aH _ hv);rw[dts];omega
theorem Ou.dp (K:Bk3 ws B) (F:Lfs B) (R:∀t∈B,RX t.2.2) (o:Ou ws B X q t us):(toO X q t us).depth≤X.depth+2:=by
 have h1:=zng q o.hat;have h2:=zsI (u:=t.2.2.fill us) q o.hat;have h3:=zhO (us:=us) t.2.2 (by rw[o.hl];exact(K.b.ri t o.ht).fits);have h4:=(R t o.ht).sd;have f:=F.fram t o.ht;have h5:dts us≤(t.2.1.fill us).depth - 1:=zst λu hu=>by
  obtain⟨i,hi,e⟩:=ia hu;have hi':i<(t.2.1.bls.map λx=>x.1).length:=by rw[aq,zos,←o.hl];exact hi
  have ee:=aU hi';have ha:=f.at' us i _ o.hl ee;rw[aU hi,e]at ha;have:=zng _ ha;have hne:=zsw K o.ht ee;have h7:=fI.mpr hne;omega
 have h6:=zaH (t.2.1.fill us);unfold toO;omega
inductive Pth (ws:List Str) (B:List Tn):Tr→List (List Int)→List Tr→List Tr→Prop
 |nil {X:Tr}:Sh ws B X→X.small=true→Pth ws B X [] [] []
 |cons {X:Tr}{q:List Int}{t:Tn}{us:List Tr}{qs:List (List Int)}{ss Ys:List Tr}:Sh ws B X→X.small=true→Ou ws B X q t us→Pth ws B (toO X q t us) qs ss Ys→Pth ws B X (q::qs) (wyO X q t us::ss) (toO X q t us::Ys)
noncomputable def zbT (X:Tr):List Tr→Tr
 | []=>X
 |Y::Ys=>zbT Y Ys
theorem zfi{Z:Tr}:∀(X:Tr) (Ys:List Tr),zbT X (Ys++[Z])=Z
 |X,[]=>rfl
 |X,Y::Ys=>zfi Y Ys
theorem ziD:∀(X:Tr) (Ys:List Tr),(X::Ys)[Ys.length]? =ae (zbT X Ys)
 |X,[]=>rfl
 |X,Y::Ys=>by rw[aV,bU];exact ziD Y Ys
variable {qs:List (List Int)}{ss Ys:List Tr}
theorem Pth.head (P:Pth ws B X qs ss Ys):Sh ws B X∧X.small=true:=by cases P with
 |nil h s=>exact⟨h,s⟩
 |cons h s _ _=>exact⟨h,s⟩
theorem Pth.last (P:Pth ws B X qs ss Ys):Sh ws B (zbT X Ys)∧(zbT X Ys).small=true:=by
 induction P with
 |nil h s=>exact⟨h,s⟩
 |cons _ _ _ _ ih=>exact ih
theorem Pth.len (P:Pth ws B X qs ss Ys):ss.length=qs.length∧Ys.length=qs.length:=by
 induction P with
 |nil _ _=>exact⟨rfl,rfl⟩
 |cons _ _ _ _ ih=>exact⟨by simp [ih.1],by simp [ih.2]⟩
theorem Pth.snoc (K:Bk3 ws B) (P:Pth ws B X qs ss Ys) {q:List Int}{t:Tn}{us:List Tr}(o:Ou ws B (zbT X Ys) q t us) (hs:(toO (zbT X Ys) q t us).small=true):Pth ws B X (qs++[q]) (ss++[wyO (zbT X Ys) q t us]) (Ys++[toO (zbT X Ys) q t us]):=by
 induction P with
 |nil h s=>exact .cons h s o (.nil (o.to K h) hs)
 |cons h s o' _ ih=>exact .cons h s o' (ih o hs)
theorem Pth.get (K:Bk3 ws B) (P:Pth ws B X qs ss Ys):∀(i:Nat) {s:Tr},ss[i]? =ae s→ ∃Z Y q,(X::Ys)[i]? =ae Z∧Ys[i]? =ae Y∧qs[i]? =ae q∧src B s=Z∧gol B s=Y∧s.lo B []=[q]∧Wy ws B s∧Z.small=true:=by
 induction P with
 |nil h s=>intro i s e;simp at e
 | @cons X q t us qs ss Ys h sm o _ ih=>
  intro i s e;cases i with
  |zero=>
   rw[gw]at e;cases e;exact⟨_,_,_,rfl,rfl,rfl,o.src K h,o.gol K h,o.lo K h,o.wy K h,sm⟩
  |succ i=>
   rw[bU]at e;obtain⟨Z,Y,q,e1,e2,e3,e4⟩:=ih i e;exact⟨Z,Y,q,by rw[bU];exact e1,by rw[bU];exact e2,by rw[bU];exact e3,e4⟩
theorem Pth.take (P:Pth ws B X qs ss Ys):∀n:Nat,n≤qs.length→Pth ws B X (qs.take n) (ss.take n) (Ys.take n)∧(X::Ys)[n]? =ae (zbT X (Ys.take n)):=by
 induction P with
 |nil h s=>
  intro n hn;have:n=0:=by simpa using hn
  subst this;exact⟨.nil h s,rfl⟩
 | @cons X q t us qs ss Ys h sm o _ ih=>
  intro n hn;cases n with
  |zero=>exact⟨.nil h sm,rfl⟩
  |succ n=>
   obtain⟨p,e⟩:=ih n (by simpa using hn);exact⟨.cons h sm o p,by rw[bU,e];rfl⟩
end
section
variable {w0 w1 w2 w3 w4 w5:Str}{tt:List Str}{B:List Tn}{a f l:Addr}{r:Nat}
structure Bx (w0 w1 w2 w3 w4 w5:Str) (tt:List Str) (B:List Tn):Prop where
  b:BookOk w0 w1 w2 w3 w4 w5 tt B
  T:Titles tt
  G:Signs w0 w1 w2 w3 w4 w5
  rx:∀t∈B,RX t.2.2
theorem Bx.k (c:Bx w0 w1 w2 w3 w4 w5 tt B):Bk3 [w0,w1,w2,w3,w4,w5] B:=c.b.bk3 c.T c.G
theorem Bx.fs (c:Bx w0 w1 w2 w3 w4 w5 tt B):Lfs B:=c.b.lfs c.G
theorem Bx.lf (c:Bx w0 w1 w2 w3 w4 w5 tt B):Lft B:=⟨λt ht=>(c.k.b.lf t ht).dp,λt ht=>by
 have h1:=(c.k.b.lf t ht).wt;have h2:=(c.k.b.lf t ht).nb;omega⟩
theorem Bx.pb (c:Bx w0 w1 w2 w3 w4 w5 tt B):PB B:=λt ht y hy=>by
 have h1:=(zkv hy).2.2;have h2:=(c.k.b.lf t ht).dp;omega
theorem Bx.cx (c:Bx w0 w1 w2 w3 w4 w5 tt B):CxB w0 w1 w2 w3 w4 w5 tt B:=⟨c.b,c.T,c.G⟩
theorem zlH{ks:List (List Int)}{q2:Addr}{S:Sto}{E:WX}{D:WEnds}{t:Tr}{S0l:List W}(hG:S f=ae (.lst S0l)) (f2:S q2=ae (.lst (ks.map zat))) (hE:∀σ,E "NoUse" σ S):∀(xs:List (List Int)) (y:Option W),(∃x∈xs,x∉ks)→forL (wGN 4) (zen r zba) E D (λS'=>S' f=ae (.lst S0l)) (xs.map zat) [ae (.ref a),ae (enc t),ae (.ref f),ae (.ref q2),y] S
 | [],y,⟨x,h,_⟩=>nomatch h
 |x::xs,y,h=>by
  rw[aD];refine zbc λN hN=>?_;rw[zwx];unfold zen;walk_at "wp";rw[zaj f2,zqd];by_cases hx:x∈ks
  ·rw[decide_eq_true hx]
   try walk_at "wp"
   refine hN _ _ _ .refl hG (zlH hG f2 hE xs _ ?_);obtain⟨v,hv,hn⟩:=h;rcases av.mp hv with rfl |hv
   ·exact absurd hx hn
   ·exact⟨v,hv,hn⟩
  ·rw[decide_eq_false hx];simp only[jQ,if_true];rw[zkW];walk_at "wp";exact⟨by decide,hE _⟩
theorem zjp{S:Sto}{Q:WK}{E:Str→Sto→Prop}{X:Tr}{xs:List (List Int)}(c:Bx w0 w1 w2 w3 w4 w5 tt B) (h:Sh [w0,w1,w2,w3,w4,w5] B X) (hs:X.small=true) (ha:S a=ae (.lst (B.map zbh))) (hf:S f=ae (.lst (xs.map zat))) (hr:120≤r) (hno:∃x∈xs,x∉(X.op B []).map λy=>y.1) (q:∀S',Sub S S'→E "NoUse" S'):zdB (r+1) [.ref a,enc X, .ref f] S Q E:=by
 obtain⟨h1,h2⟩:=zbZ hs;obtain⟨r,rfl⟩:∃r',r=r'+1:=⟨r - 1,by omega⟩
 have ol:=ziu B X [];rw[zdB];walk_at "wp";refine zgd c.lf ha (by omega) (by omega) (by omega) (zfo (λ_ _=>trivial) _ h.wy.hd) λq1 hq1=>?_;refine zgl zag (by omega) λq2 hq2=>?_;have ff:=keep (x:=Ob.lst (((X.op B []).map λx=>x.1).map zat)) (keep (x:=Ob.lst ((X.op B []).map zff)) hf hq1) hq2;have sub:Sub S (put (put S q1 (Ob.lst ((X.op B []).map zff))) q2 (Ob.lst (((X.op B []).map λx=>x.1).map zat))):= .trans (.put .refl hq1) (.put .refl hq2);have f2:put (put S q1 (Ob.lst ((X.op B []).map zff))) q2 (Ob.lst (((X.op B []).map λx=>x.1).map zat)) q2=ae (.lst (((X.op B []).map λx=>x.1).map zat)):=zag;generalize put (put S q1 (Ob.lst ((X.op B []).map zff))) q2 (Ob.lst (((X.op B []).map λx=>x.1).map zat))=S2 at f2 ff sub⊢
 try walk_at "wp"
 rw[zaj ff];exact zlH ff f2 (λ_=>q S2 sub) xs _ hno
theorem zjn{E:WX}{D:WEnds}{S0:Sto}{F:List W}{X0:Tr}{rest:List (List Int)}(c:Bx w0 w1 w2 w3 w4 w5 tt B) (fb:S0 a=ae (.lst (B.map zbh))) (fl:S0 l=ae (.lst F)) (h0:S0 f=none) (hr:120≤r) {X:Tr}{qs:List (List Int)}{ss Ys:List Tr}(P:Pth [w0,w1,w2,w3,w4,w5] B X qs ss Ys):∀{S:Sto}{zs:List Tr}{x5 x6:Option W},Sub S0 S→S f=ae (.lst (zs.map enc))→zs.length+ss.length≤1000→
  (∀S' x5 x6,Sub S0 S'→S' f=ae (.lst ((zs++ss).map enc))→forL (wGN 5) (zdb (r+1) zba) E D (λS'=>S' l=ae (.lst F)) (rest.map zat) [ae (.ref a),ae (enc X0),ae (.ref l),ae (.ref f),ae (enc (zbT X Ys)),x5,x6] S')→
  forL (wGN 5) (zdb (r+1) zba) E D (λS'=>S' l=ae (.lst F)) ((qs++rest).map zat) [ae (.ref a),ae (enc X0),ae (.ref l),ae (.ref f),ae (enc X),x5,x6] S:=by
 induction P with
 | @nil X h s=>
  intro S zs x5 x6 sb ff hl k;have:=k S x5 x6 sb (by rw[bf];exact ff);exact this
 | @cons X q t us qs ss Ys h sm o P ih=>
  intro S zs x5 x6 sb ff hl k;obtain⟨s1,s2⟩:=zbZ sm;rw[aV]at hl;rw[cG,aD];refine zbc λN hN=>?_;simp only[zdb];walk_at "wp";refine⟨by decide,λg hg=>?_⟩;have fg:put S g (Ob.lst [zat q]) g=ae (.lst ([q].map zat)):=zag;replace ff:=keep (x:=Ob.lst [zat q]) ff hg;replace sb:=sb.trans (.put .refl hg:Sub S (put S g (Ob.lst [zat q])));generalize put S g (Ob.lst [zat q])=S1 at fg ff sb⊢;have fb1:=sb _ _ fb;refine zrF (r:=r) (wn:=[q]) c.lf c.pb (o.wi c.k c.fs h) (by omega) (by omega) fb1 fg (zfo (λ_ _=>trivial) _ h.wy.hd) (by omega) (by omega) (by simp) rfl (λy hy=>by rw[bn]at hy;rw[hy];exact o.op c.k c.fs) ?_
  try walk_at "wp"
  refine c.k.ok_goalX (r:=r) (o.wy c.k h) (by rw[o.src c.k h];exact sm) fb1 (by omega) (λ_=>?_) λz=>?_
  ·rw[o.gol c.k h]
   try walk_at "wp"
   simp only[zaj ff,aq];refine⟨trivial,zbH (by omega),?_⟩;have e:zs.map enc++[enc (wyO X q t us)]=(zs++[wyO X q t us]).map enc:=by rw[bN];rfl
   rw[e];have fl1:put S1 f (Ob.lst ((zs++[wyO X q t us]).map enc)) l=ae (.lst F):=by
    rw[zaN (by rintro rfl;rw[fl]at h0;cases h0)];exact sb _ _ fl
   refine hN _ _ _ .refl fl1 (ih (zs:=zs++[wyO X q t us]) (λd ob ed=>?_) zag (by simp;omega) λS' x5 x6 sb' ff'=>k S' x5 x6 sb' (by rw[List.append_cons];exact ff'));by_cases hd:d=f
   ·rw[hd,h0]at ed;cases ed
   ·rw[zaN hd];exact sb d ob ed
  ·have:=P.head.2;rw[o.gol c.k h]at z;rw[z]at this;cases this
theorem zpj{S:Sto}{Q:WK}{E:Str→Sto→Prop}(c:Bx w0 w1 w2 w3 w4 w5 tt B) {X:Tr}{qs:List (List Int)}{ss Ys:List Tr}(P:Pth [w0,w1,w2,w3,w4,w5] B X qs ss Ys) (fb:S a=ae (.lst (B.map zbh))) (fl:S l=ae (.lst (qs.map zat))) (hl:ss.length≤1000) (hr:122≤r) (h:∀S' k,Sub S S'→S k=none→S' k=ae (.lst (ss.map enc))→Q (.tup [enc X, .ref k]) S'):zcs (r+1) [.ref a,enc X, .ref l] S Q E:=by
 obtain⟨r,rfl⟩:∃r',r=r'+1:=⟨r - 1,by omega⟩
 rw[zcs];walk_at "wp";refine⟨aS _,λk hk=>?_⟩
 try walk_at "wp"
 rw[zaj (keep fl hk)];have:=zjn (E:=λc _ S'=>E c S') (D:={ nx:=zbf (zaS (zab (zaf 1) (zab (zaf 3) waNil))) (λc _ S'=>E c S') { nx:=λ_ S'=>∃S'',Sub S'' S'∧Q W.non S'',rt:=λw S'=>∃S'',Sub S'' S'∧Q w S'' },rt:=λw S'=>∃S'',Sub S'' S'∧Q w S'' }) (S0:=S) (X0:=X) (rest:=[]) (r:=r) c fb fl hk (by omega) P (S:=put S k (Ob.lst [])) (zs:=[]) (x5:=none) (x6:=none) (.put .refl hk) zag (by simp;omega) λS' x5 x6 sb ff=>?_
 ·rw[bf]at this;exact this
 ·simp only[cw,forL];walk_at "wp";exact⟨by decide,S', .refl,h S' k sb hk ff⟩
theorem zje{S:Sto}{Q:WK}{E:Str→Sto→Prop}(c:Bx w0 w1 w2 w3 w4 w5 tt B) {X:Tr}{qs:List (List Int)}{m:List Int}{rest:List (List Int)}{ss Ys:List Tr}(P:Pth [w0,w1,w2,w3,w4,w5] B X qs ss Ys) (fb:S a=ae (.lst (B.map zbh))) (fl:S l=ae (.lst ((qs++m::rest).map zat))) (hl:ss.length≤1000) (hr:122≤r) (hm:m∉((zbT X Ys).op B []).map λy=>y.1) (h:∀S',Sub S S'→E "NoUse" S'):zcs (r+1) [.ref a,enc X, .ref l] S Q E:=by
 obtain⟨r,rfl⟩:∃r',r=r'+1:=⟨r - 1,by omega⟩
 obtain⟨hs,sm⟩:=P.last;rw[zcs];walk_at "wp";refine⟨aS _,λk hk=>?_⟩
 try walk_at "wp"
 rw[zaj (keep fl hk)];refine zjn (S0:=S) (r:=r) c fb fl hk (by omega) P (zs:=[]) (.put .refl hk) zag (by simp;omega) λS' x5 x6 sb ff=>?_;rw[aD];refine zbc λN hN=>?_;simp only[zdb];walk_at "wp";refine⟨by decide,λg hg=>?_⟩;refine zjp (r:=r) (xs:=[m]) c hs sm (keep (sb _ _ fb) hg) zag (by omega) ⟨m,bn.mpr rfl,hm⟩ λS'' sb'=>h S'' ((sb.trans (.put .refl hg)).trans sb')
end
theorem znG{r:Nat}{S:Sto}{E:WX}{G:Sto→Prop}{Q:List W→Sto→Prop}(hG:G S):∀(ts:List Tr) (acc:List Int) (x0:Option W),(∀t∈ts,∀{Q:WK}{E:Str→Sto→Prop},Q (.int (t.weight:Nat)) S→zaJ r [enc t] S Q E)→acc.length+ts.length≤100000→(∀ys:List Int,ys.sum=acc.sum+(wts ts:Nat)→Q (ys.map W.int) S)→
  zes (wGN 0) zhx (zbG r (zaJ r)) E G Q (encs ts) (acc.map W.int) [x0] S
 | [],acc,x0,one,hl,h=>by
  simp only[encs,zes];exact h acc (by rw[wts];simp)
 |t::ts,acc,x0,one,hl,h=>by
  rw[aV]at hl;simp only[encs,zes];walk_at "wp";unfold zbG;walk_at "wp";refine one t aN ⟨zbH (by rw[aq];omega),S, .refl,hG,?_⟩;have e2:acc.map W.int++[W.int (t.weight:Nat)]=(acc++[((t.weight:Nat):Int)]).map W.int:=by rw[bN];rfl
  rw[e2];refine znG hG ts _ _ (λu hu=>one u (aH _ hu)) (by rw[ba];simp;omega) λys e=>h ys ?_;rw[e,wts,je]
  push_cast
  simp only[gQ,List.sum_nil];omega
theorem zgF{P:Str→Prop}:∀(d:Nat) {X:Tr}{r:Nat}{S:Sto}{Q:WK}{E:Str→Sto→Prop},X.depth≤d→d≤r+1→X.weight≤90000→X.hd P→Q (.int (X.weight:Nat)) S→zaJ (r+1) [enc X] S Q E
 |0,X,r,S,Q,E,hd,hr,hw,hh,h=>by have:=zaH X;omega
 |d+1, .bl n,r,S,Q,E,hd,hr,hw,hh,h=>by rw[Tr.hd]at hh;exact hh.elim
 |d+1, .nd s ts,r,S,Q,E,hd,hr,hw,hh,h=>by
  rw[Tr.depth]at hd;rw[Tr.weight]at hw h;rw[Tr.hd]at hh;have hk:=zbJ ts;rw[zaJ];simp only[enc];walk_at "wp";refine znG trivial ts [] none (λu hu {Q E} q=>?_) (by simp;omega) λys ey=>?_
  ·have hdu:=zbd hu;have hwu:=zbA hu;have:=zaH u;obtain⟨r,rfl⟩:∃r',r=r'+1:=⟨r - 1,by omega⟩
   exact zgF d (by omega) (by omega) (by omega) (hds_iff.mp hh.2 u hu) q
  ·rw[zei];refine⟨S, .refl,?_⟩;rw[ey];have:((1+wts ts:Nat):Int)=1+(([]:List Int).sum+((wts ts:Nat):Int)):=by push_cast;simp
   rw[←this];exact h
section
variable {w0 w1 w2 w3 w4 w5:Str}{tt:List Str}{B:List Tn}{a l1 l2 lc:Addr}{r:Nat}
structure Wk (w0 w1 w2 w3 w4 w5:Str) (B:List Tn) (X:Tr) (qs:List (List Int)) (ss Ys:List Tr):Prop where
  P:Pth [w0,w1,w2,w3,w4,w5] B X qs ss Ys
  n:qs.length≤8
  w:(zbT X Ys).weight≤100
  d:(zbT X Ys).depth≤18+2*qs.length
theorem zgz{E:WX}{D:WEnds}{S0:Sto}{X:Tr}(c:Bx w0 w1 w2 w3 w4 w5 tt B) (fb:S0 a=ae (.lst (B.map zbh))) (h1:S0 l1=none) (h2:S0 l2=none) (n12:l1≠l2) (nc1:lc≠l1) (nc2:lc≠l2) {F:List W}(hr:130≤r):∀(cs:List Int) {S:Sto}{qs:List (List Int)}{ss Ys:List Tr}{x5 x6 x7 x8:Option W},Wk w0 w1 w2 w3 w4 w5 B X qs ss Ys→Sub S0 S→S lc=ae (.lst F)→S l1=ae (.lst ((X::Ys).map enc))→S l2=ae (.lst (qs.map zat))→
  (∀S' qs ss Ys x5 x6 x7 x8,Wk w0 w1 w2 w3 w4 w5 B X qs ss Ys→Sub S0 S'→S' l1=ae (.lst ((X::Ys).map enc))→S' l2=ae (.lst (qs.map zat))→D.nx [ae (.ref a),ae (enc X),ae (.ref lc),ae (.ref l1),ae (.ref l2),x5,x6,x7,x8] S')→
  forL (wGN 5) (zdK (r+1) zba) E D (λS'=>S' lc=ae (.lst F)) (cs.map W.int) [ae (.ref a),ae (enc X),ae (.ref lc),ae (.ref l1),ae (.ref l2),x5,x6,x7,x8] S
 | [],S,qs,ss,Ys,x5,x6,x7,x8,k,sb,fc,f1,f2,h=>by
  simp only[cw,forL];exact h S qs ss Ys _ _ _ _ k sb f1 f2
 |n::cs,S,qs,ss,Ys,x5,x6,x7,x8,k,sb,fc,f1,f2,h=>by
  obtain⟨hs,sm⟩:=k.P.last;obtain⟨g1,g2⟩:=zbZ sm;obtain⟨e1,e2⟩:=k.P.len;have kn:=k.n;have kw:=k.w;have kd:=k.d;rw[aD];refine zbc λN hN=>?_;have hlast:∀{S':Sto},S' l1=ae (.lst ((X::Ys).map enc))→atI ((X::Ys).map enc) (-1)=ae (enc (zbT X Ys)):=λ_=>by
   have:=ziD X Ys;unfold atI ixN;rw[if_neg (by decide),if_pos (by simp;omega)];show((X::Ys).map enc)[(-1+(((X::Ys).map enc).length:Int)).toNat]? =_;rw[aq,aV,show(-1+((Ys.length+1:Nat):Int)).toNat=Ys.length by omega,aX,this]
   rfl
  simp only[zdK];walk_at "wp";rw[zaj f1,hlast f1];dsimp only;refine c.cx.ok_open (r:=r) (sb _ _ fb) hs sm (by omega) λS1 kn s1 fk=>?_;replace fc:=s1 _ _ fc;replace f1:=s1 _ _ f1;replace f2:=s1 _ _ f2;replace sb:=sb.trans s1;have skip:∀S' x6 x7 x8,Sub S1 S'→N [ae (.ref a),ae (enc X),ae (.ref lc),ae (.ref l1),ae (.ref l2),ae (.int n),x6,x7,x8] S':=λS' x6 x7 x8 s'=>hN _ _ S' .refl (s' _ _ fc) (zgz c fb h1 h2 n12 nc1 nc2 hr cs k (sb.trans s') (s' _ _ fc) (s' _ _ f1) (s' _ _ f2) h)
  try walk_at "wp"
  simp only[zaj fk,aq]
  try walk_at "wp"
  by_cases hp:(0:Int)<(((zbT X Ys).op B []).length:Int)
  ·rw[if_pos hp];simp only[zaj f2,aq];by_cases h8:(qs.length:Int)<8
   ·rw[if_pos h8];obtain⟨w,ew,mw⟩:=zeM (xs:=((zbT X Ys).op B []).map zff) (i:=n % (((zbT X Ys).op B []).length:Int)) (cg _ (by omega)) (by rw[aq];exact cn _ (by omega));obtain⟨u,hu,rfl⟩:=aZ.mp mw;rw[ew];refine⟨hp,?_⟩;obtain⟨q,t,us,eq,o⟩:=zsY c.k _ (aB _) hs hu;rw[aR]at eq;simp only[zff];walk_at "wp";rw[zaj f1,hlast f1,eq];dsimp only;have hh:(zbT X Ys).hd λ_=>True:=zfo (λ_ _=>trivial) _ hs.wy.hd;have sw:=ztV c.b o.ht o.hl o.hat hh;have dp:=o.dp c.k c.fs c.rx;have hq:=zng _ o.hat;refine zpy (r:=r) c.b c.G c.lf (sb _ _ fb) o.ht o.hl o.hat (by omega) (by omega) sw.2.2 (by omega) λS2 s2=>?_;have ez:(zbT X Ys).put q (t.2.2.fill us)=toO (zbT X Ys) q t us:=rfl;rw[ez]at sw⊢;replace fc:=s2 _ _ fc;replace f1:=s2 _ _ f1;replace f2:=s2 _ _ f2;replace sb:=sb.trans s2;refine zgF (r:=r) 42 (by omega) (by omega) (by omega) sw.1 ?_
    try walk_at "wp"
    by_cases hw:((toO (zbT X Ys) q t us).weight:Int)≤100
    ·rw[if_pos (by simpa using hw)];simp only[zaj f1,aq];have eY:(X::Ys).map enc++[enc (toO (zbT X Ys) q t us)]=(X::(Ys++[toO (zbT X Ys) q t us])).map enc:=by simp
     rw[eY];have sm':(toO (zbT X Ys) q t us).small=true:=zlP (by omega) (by omega);have k':Wk w0 w1 w2 w3 w4 w5 B X (qs++[q]) (ss++[wyO (zbT X Ys) q t us]) (Ys++[toO (zbT X Ys) q t us]):=⟨k.P.snoc c.k o sm',by rw[ba];simp;omega,by rw[zfi];omega,by rw[zfi,ba];simp;omega⟩
     generalize hZ:(X::(Ys++[toO (zbT X Ys) q t us])).map enc=Zs;have f1':put S2 l1 (Ob.lst Zs) l1=ae (.lst Zs):=zag;have f2':put S2 l1 (Ob.lst Zs) l2=ae (.lst (qs.map zat)):=by rw[zaN (bg n12)];exact f2
     have fc':put S2 l1 (Ob.lst Zs) lc=ae (.lst F):=by rw[zaN nc1];exact fc
     have sb':Sub S0 (put S2 l1 (Ob.lst Zs)):=λd ob ed=>by
      by_cases hd:d=l1
      ·rw[hd,h1]at ed;cases ed
      ·rw[zaN hd];exact sb d ob ed
     generalize put S2 l1 (Ob.lst Zs)=S3 at f1' f2' fc' sb'⊢;simp only[zaj f2',aq];refine⟨trivial,zbH (by rw[aV];omega),trivial,zbH (by omega),?_⟩;have eq2:qs.map zat++[zat q]=(qs++[q]).map zat:=by rw[bN];rfl
     rw[eq2];have f1'':put S3 l2 (Ob.lst ((qs++[q]).map zat)) l1=ae (.lst Zs):=by rw[zaN n12];exact f1'
     have fc'':put S3 l2 (Ob.lst ((qs++[q]).map zat)) lc=ae (.lst F):=by rw[zaN nc2];exact fc'
     have sb'':Sub S0 (put S3 l2 (Ob.lst ((qs++[q]).map zat))):=λd ob ed=>by
      by_cases hd:d=l2
      ·rw[hd,h2]at ed;cases ed
      ·rw[zaN hd];exact sb' d ob ed
     rw[←hZ]at f1'';exact hN _ _ _ .refl fc'' (zgz c fb h1 h2 n12 nc1 nc2 hr cs k' sb'' fc'' f1'' zag h)
    ·rw[if_neg (by simpa using hw)];exact skip S2 _ _ _ s2
   ·rw[if_neg h8];exact skip S1 _ _ _ .refl
  ·rw[if_neg hp];exact skip S1 _ _ _ .refl
theorem znt{S:Sto}{Q:WK}{E:Str→Sto→Prop}{X:Tr}{cs:List Int}(c:Bx w0 w1 w2 w3 w4 w5 tt B) (fb:S a=ae (.lst (B.map zbh))) (fc:S lc=ae (.lst (cs.map W.int))) (k0:Wk w0 w1 w2 w3 w4 w5 B X [] [] []) (hr:132≤r)
  (h:∀S' l1 l2 qs ss Ys,Sub S S'→Wk w0 w1 w2 w3 w4 w5 B X qs ss Ys→S' l1=ae (.lst ((X::Ys).map enc))→S' l2=ae (.lst (qs.map zat))→Q (.tup [.ref l1, .ref l2]) S'):zdc (r+1) [.ref a,enc X, .ref lc] S Q E:=by
 obtain⟨r,rfl⟩:∃r',r=r'+1:=⟨r - 1,by omega⟩
 rw[zdc];walk_at "wp";refine⟨by decide,λl1 hl1=>⟨aS _,λl2 hl2=>?_⟩⟩;obtain⟨hl2a,n21⟩:=zde hl2;have f1:put (put S l1 (Ob.lst [enc X])) l2 (Ob.lst []) l1=ae (.lst ((X::([]:List Tr)).map enc)):=keep zag hl2;have f2:put (put S l1 (Ob.lst [enc X])) l2 (Ob.lst []) l2=ae (.lst (([]:List (List Int)).map zat)):=zag;have fc':put (put S l1 (Ob.lst [enc X])) l2 (Ob.lst []) lc=ae (.lst (cs.map W.int)):=keep (keep fc hl1) hl2;have sb:Sub S (put (put S l1 (Ob.lst [enc X])) l2 (Ob.lst [])):=(Sub.put .refl hl1).trans (.put .refl hl2);have nc1:lc≠l1:=by rintro rfl;rw[fc]at hl1;cases hl1
 have nc2:lc≠l2:=by rintro rfl;rw[fc]at hl2a;cases hl2a
 generalize put (put S l1 (Ob.lst [enc X])) l2 (Ob.lst [])=S1 at f1 f2 fc' sb⊢
 try walk_at "wp"
 rw[zaj fc'];refine zgz (r:=r) c fb hl1 hl2a (bg n21) nc1 nc2 (by omega) cs k0 sb fc' f1 f2 λS' qs ss Ys x5 x6 x7 x8 k sb f1 f2=>?_;walk_at "wp";exact⟨by decide,S', .refl,h S' l1 l2 qs ss Ys sb k f1 f2⟩
theorem zjE{S:Sto}{Q:WK}{E:Str→Sto→Prop}{l:Addr}(c:Bx w0 w1 w2 w3 w4 w5 tt B) {X:Tr}{qs:List (List Int)}{m:List Int}{rest:List (List Int)}{ss Ys:List Tr}(P:Pth [w0,w1,w2,w3,w4,w5] B X qs ss Ys) (fb:S a=ae (.lst (B.map zbh))) (fl:S l=ae (.lst ((qs++m::rest).map zat))) (hl:ss.length≤1000) (hr:124≤r) (hm:m∉((zbT X Ys).op B []).map λy=>y.1) (h:∀S',Sub S S'→Q (.bl true) S'):zbg (r+1) [.ref a,enc X, .ref l] S Q E:=by
 obtain⟨r,rfl⟩:∃r',r=r'+1:=⟨r - 1,by omega⟩
 rw[zbg];walk_at "wp";refine⟨aS _,λk hk=>?_⟩;have sb:Sub S (put S k (.lst [])):= .put .refl hk;generalize put S k (.lst [])=S1 at sb⊢;have q1:zmY "NoUse" "NoUse" =true:=by decide
 have q2:zmY "NoUse" "NoPlace" =false:=by decide
 have q3:zmY "NoUse" "Apart" =false:=by decide
 have q4:zmY "NoUse" "TooGreat" =false:=by decide
 refine zje (r:=r) c P (sb _ _ fb) (sb _ _ fl) hl (by omega) hm λS2 s2=>?_;refine⟨aN,λe=>⟨by decide,λk2 hk2=>⟨by decide,λk3 hk3=>?_⟩⟩⟩;have e:∀{S':Sto}{p q:Addr},S' p=ae (.lst [.bl true, .bl false, .bl false, .bl false])→S' q=ae (.lst [.bl true, .bl false, .bl false, .bl false])→eqF S' 60 (.ref p) (.ref q)=ae true:=λ{S' p q} hp hq=>by
  show(match S' p with
   |some (.lst xs)=>match S' q with
    |some (.lst ys)=>zet (eqF S' 59) xs ys
    |_=>none
   |_=>none)=ae true
  rw[hp,hq];rfl
 rw[q1,q2,q3,q4,e (keep zag hk3) zag];exact⟨S,((sb.trans s2).trans (.put .refl hk2)).trans (.put .refl hk3),h S .refl⟩
end
section
variable {w0 w1 w2 w3 w4 w5:Str}{r:Nat}{S:Sto}{aw st:Addr}{E:WX}{D:WEnds}
noncomputable def pds:List Pl→Nat
 | []=>0
 |p::ps=>max 1 (p.dp - 1)+pds ps
theorem zdw:∀ps qs:List Pl,pds (ps++qs)=pds ps+pds qs
 | [],qs=>by simp [pds]
 |p::ps,qs=>by rw[cG,pds,pds,zdw ps qs];omega
theorem zhD:∀(ps:List Pl),zfp ps≤pds ps+1
 | []=>by simp [zfp]
 |p::ps=>by
  have:=zhD ps;rw[zfp,pds];omega
theorem zgo:∀ps qs:List Pl,zfp (ps++qs)=max (zfp ps) (zfp qs)
 | [],qs=>by rw[aR,zfp,Nat.zero_max]
 |p::ps,qs=>by rw[cG,zfp,zfp,zgo ps qs,jP]
theorem zmd (w:Str):∀n:Nat,zfp (aJ n (pad w))≤1
 |0=>by simp [zfp]
 |n+1=>by
  have:=zmd w n;rw[cf,zfp];simp only[pad,Pl.dp,zfp]at this⊢;omega
theorem zrl{need:Nat}{w:Str}{k b:Int}{h:Str}{ps:List Pl}:pds (push need w k b h ps)≤pds ps+1:=by
 unfold push;rw[zdw,pds,pds,Pl.dp];have hl:=zds need w ps;by_cases c:ps.length<need
 ·have e1:(zbk need w ps).length - need=0:=by omega
  rw[e1,i7,dh,pds,zbk,zgo];have h1:=zmd w (need - ps.length);have h2:=zhD ps;omega
 ·have e0:zbk need w ps=ps:=by
   unfold zbk;rw[show need - ps.length=0 by omega]
   rfl
  rw[e0];have h1:=zdw (ps.take (ps.length - need)) (ps.drop (ps.length - need));rw[gn]at h1;have h2:=zhD (ps.drop (ps.length - need));omega
theorem zta{k:Int}{b:Int}{h:Str}{qs:List Pl}(hl:qs.length=2):max 1 ((Pl.nd k b h qs).dp - 1)≤pds qs:=by
 match qs,hl with
 | [p,q],_=>
  rw[Pl.dp,zfp,zfp,zfp,pds,pds,pds];omega
inductive PlID (S:Sto) (ac ab aw:Addr) (hs:List Str) (B:List Tn) (m:Nat) (ws:List W) (σ:WSt) (S':Sto):Prop
 |mk (ns:List Int) (ps:List Pl) (vs:List W) (st:Addr) (room spent:Int) (x6 x7 x8 x9 x10 x11:Option W):ws=ns.map W.int→Sub S S'→S' st=ae (.lst vs)→PlsAt S' ps vs→(∀p∈ps,PlOk hs B p)→0≤room→room≤m→(pnts ps:Int)≤spent→pnts ps≤4→(pwts ps:Int)+ps.length≤2*(m - room)+pnts ps+2→(pds ps:Int)≤m - room→
  σ=[ae (.ref ac),ae (.ref ab),ae (.ref aw),ae (.int room),ae (.ref st),ae (.int spent),x6,x7,x8,x9,x10,x11]→PlID S ac ab aw hs B m ws σ S'
inductive PlWD (S:Sto) (hs:List Str) (B:List Tn) (m:Nat) (f:Addr→WSt) (mm:Nat) (σ:WSt) (S2:Sto):Prop
 |mk (ps:List Pl) (vs:List W) (st:Addr):mm=ps.length→Sub S S2→S2 st=ae (.lst vs)→PlsAt S2 ps vs→(∀p∈ps,PlOk hs B p)→pnts ps≤4→pwts ps+ps.length≤2*m+pnts ps+2→pds ps≤m→σ=f st→PlWD S hs B m f mm σ S2
theorem zrb{m:Nat}(hm9:m≤9) {Q:WK}{X:Str→Sto→Prop}{ac ab:Addr}{cells:List Int}{B:List Tn}(hc:S ac=ae (.lst (cells.map W.int))) (hb:S ab=ae (.lst (B.map zbh))) (hw:S aw=ae (.lst (six w0 w1 w2 w3 w4 w5))) (bk:BkOk [w0,w1,w2,w3,w4,w5] [w2,w3,w4,w5] B) (hB:B≠ [])
  (h:∀(p:Pl) (v:W) (S':Sto),Sub S S'→PlAt S' p v→PlOk [w2,w3,w4,w5] B p→p.wt≤2*m+1+p.nt→p.nt≤4→p.dp≤m+1→Q v S'):zcJ (r+10) [.ref ac, .ref ab, .ref aw, .int m] S Q X:=by
 rw[show r+10=r+9+1 from rfl,zcJ];walk_at "wp";refine⟨aS _,λst0 hst0=>?_⟩;rw[zaj (keep hc hst0)];refine zkc (PlID S ac ab aw [w2,w3,w4,w5] B m) ?_ ?_ _ _ _ ⟨cells,[],[],st0,m,0,none,none,none,none,none,none,rfl, .put .refl hst0,zag, .nil,(λ_ h=>nomatch h),by omega,by omega,by simp [pnts],by simp [pnts],by simp [pnts,pwts],by simp [pds],rfl⟩
 ·rintro w ws σ S' N ⟨ns,ps,vs,st,room,spent,x6,x7,x8,x9,x10,x11,ew,sub,hst,hp,ok,r0,r1,p0,p1,p2,p3,rfl⟩ hN;cases ns with
  |nil=>cases ew
  |cons n ns=>
  cases ew;have fw:=sub _ _ hw;have fb:=sub _ _ hb;have fc:=sub _ _ hc;have m0:0≤n % 8:=cg _ (by decide);have m1:n % 8<8:=cn _ (by decide);have hpl:=zfL ps;obtain⟨need,hneed,en⟩:=ztQ (n % 8) m0 m1;obtain⟨i,hd,hhd,e1,e2⟩:=ztX (w0:=w0) (w1:=w1) (w2:=w2) (w3:=w3) (w4:=w4) (w5:=w5) (n % 8) m0 m1;have go:∀(need:Nat) (k b:Int) (hh:Str) (sp:Int) (x10:Option W),need≤3→(∀qs:List Pl,qs.length=need→(∀q∈qs,PlOk [w2,w3,w4,w5] B q)→PlOk [w2,w3,w4,w5] B (.nd k b hh qs))→(k<0∧need≤2∧sp=spent∨ ¬k<0∧sp=spent+1)→
    ∀(E:WX) (D:WEnds),D.nx=N→zqO E D [ae (.ref ac),ae (.ref ab),ae (.ref aw),ae (.int room),ae (.ref st),ae (.int sp),ae (.int n),ae (.int (n % 8)),ae (.int need),ae (.tup [.int k, .int b, .str hh]),x10,x11] S':=λneed k b hh sp x10 hn hok hk E D hD=>by
   subst hD;refine zoC fw hst hp hn (by omega) ?_ λc1 c2 st' S2 vs' x11 sub2 hst2 hp2=>?_
   ·refine hN _ _ S' .refl fc ⟨ns,ps,vs,st,room,sp,_,_,_,_,_,_,rfl,sub,hst,hp,ok,r0,r1,by omega,p1,p2,p3,rfl⟩
   ·obtain⟨s1,s2,s3⟩:=znB (need:=need) (w:=w2) (k:=k) (b:=b) (h:=hh) (ps:=ps);have hz:ps.length=0→pwts ps=0∧pnts ps=0:=λz=>by
     cases ps with
     |nil=>exact⟨rfl,rfl⟩
     |cons _ _=>simp at z
    have fin:(pnts (push need w2 k b hh ps):Int)≤sp→pnts (push need w2 k b hh ps)≤4→(pwts (push need w2 k b hh ps):Int)+(push need w2 k b hh ps).length≤2*(m - (room - 1))+pnts (push need w2 k b hh ps)+2→D.nx [ae (.ref ac),ae (.ref ab),ae (.ref aw),ae (.int (room - 1)),ae (.ref st'),ae (.int sp),ae (.int n),ae (.int (n % 8)),ae (.int need),ae (.tup [.int k, .int b, .str hh]),x10,x11] S2:=λf1 f2 f3=>
     hN _ _ S2 .refl (sub2 _ _ fc) ⟨ns,_,vs',st',room - 1,sp,_,_,_,_,_,_,rfl,sub.trans sub2,hst2,hp2,ztU (by simp) ok hok,by omega,by omega,f1,f2,f3,(by have:=zrl (need:=need) (w:=w2) (k:=k) (b:=b) (h:=hh) (ps:=ps);omega),rfl⟩
    rcases hk with⟨kn,n2,es⟩ |⟨kp,es⟩
    ·rw[if_pos kn]at s2;refine fin (by omega) (by omega) ?_;rcases gg ps.length with z |z
     ·have:=hz z;omega
     ·omega
    ·rw[if_neg kp]at s2;refine fin (by omega) (by omega) ?_;rcases gg ps.length with z |z
     ·have:=hz z;omega
     ·omega
  rw[zoz];walk_at "wp";simp only[en,e1];walk_at "wp";simp only[zaj fw,e2];refine⟨by decide,zah (by decide),zah (by decide),zah (by decide),?_⟩;split
  ·have hbl:(B.map zbh)≠ []:=by simpa using hB
   obtain⟨j,x,ej,ex⟩:=zwR (n / 8) hbl;have hlt:0<(B.map zbh).length:=fI.mpr hbl;have ek:n / 8 % ((B.map zbh).length:Int)=(((n / 8 % ((B.map zbh).length:Int)).toNat:Nat):Int):=by
    have:=cg (n / 8) (show((B.map zbh).length:Int)≠0 by omega)
    omega
   have ek2:=zaU (xs:=B.map zbh) (n:=(n / 8 % ((B.map zbh).length:Int)).toNat);rw[←ek,ex,aX]at ek2;cases et:B[(n / 8 % ((B.map zbh).length:Int)).toNat]? with
   |none=>rw[et]at ek2;cases ek2
   |some t=>
    rw[et]at ek2;have ext:x= .tup [.str t.1,enc t.2.1,enc t.2.2]:=by cases ek2;rfl
    have ht:t∈B:=a_ et;have LT:=bk.lf t ht;have hLd:=LT.dp;have hLw:=LT.wt;have hLn:=LT.nb;simp only[zaj fb,ex,ext];walk_at "wp";rw[show atI [W.str t.1,enc t.2.1,enc t.2.2] 1=ae (enc t.2.1) from rfl];refine⟨⟨by decide,by decide⟩,by omega,?_⟩
    refine zij 4 hLd (by omega) (by omega) ⟨⟨by decide,by decide⟩,by decide,zah (by decide),?_⟩
    have b0:0≤n / 64 % 8:=cg _ (by decide);have b1:n / 64 % 8<8:=cn _ (by decide);refine go t.2.1.nb _ _ _ _ _ hLn (λqs hq hqs=>?_) (.inr ⟨by omega,rfl⟩) _ _ rfl;rw[ek];exact .turn et hq b0 b1 hqs
  ·exact go need (-1) 0 hd spent _ (by omega) (λqs hq hqs=> .sign hhd hqs) (.inl ⟨by decide,hneed,rfl⟩) _ _ rfl
 ·rintro σ S' ⟨ns,ps,vs,st,room,spent,x6,x7,x8,x9,x10,x11,ew,sub,hst,hp,ok,r0,r1,p0,p1,p2,p3,rfl⟩;have hpl:=zfL ps;refine⟨PlWD S [w2,w3,w4,w5] B m (λst=>[ae (.ref ac),ae (.ref ab),ae (.ref aw),ae (.int room),ae (.ref st),ae (.int spent),x6,x7,x8,x9,x10,x11]),⟨_,ps,vs,st,rfl,sub,hst,hp,ok,p1,by omega,by omega,rfl⟩,?_⟩
  rintro mm σ S2 ⟨ps,vs,st,rfl,sub,hst,hp,ok,p1,p2,p3,rfl⟩;have hlen:=hp.len;have fw:=sub _ _ hw;walk_at "wp";rw[zaj hst];split
  ·rename_i hgt;simp only[zeZ];walk_at "wp";simp only[zaj hst,zaj fw,six4];have c1:zer vs none (ae (-2))=vs.take (vs.length - 2):=zke 2 (by decide);have c2:zer vs (ae (-2)) none=vs.drop (vs.length - 2):=zov 2 (by decide);rw[c1,c2];intro p hp3;have sub3:Sub S2 (put S2 p (.lst (vs.drop (vs.length - 2)))):= .put .refl hp3;have fp:put S2 p (Ob.lst (vs.drop (vs.length - 2))) p=ae (.lst (vs.drop (vs.length - 2))):=zag;generalize put S2 p (Ob.lst (vs.drop (vs.length - 2)))=S3 at sub3 fp⊢;refine⟨zah (by decide),zah (by decide),zah (by rw[b9];omega),λq hq=>?_⟩;have sub4:Sub S3 (put S3 q (.lst (vs.take (vs.length - 2)++[.tup [.int (-1), .int 0, .str w4, .ref p]]))):= .put .refl hq;have hp4:=hp.sub (sub3.trans sub4);have hw3:=zcg (ps.take (vs.length - 2)) (ps.drop (vs.length - 2));have hn3:=zbM (ps.take (vs.length - 2)) (ps.drop (vs.length - 2));rw[gn]at hw3 hn3;refine⟨_,_,?_, .refl,ps.take (vs.length - 2)++[.nd (-1) 0 w4 (ps.drop (vs.length - 2))],_,q,rfl,(sub.trans sub3).trans sub4,zag,(hp4.take _).app (.cons (.nd (sub4 _ _ fp) (hp4.drop _)) .nil),λx hx=>?_,?_,?_,?_,rfl⟩
   ·rw[ba,b9,fA];omega
   ·rcases bb.mp hx with z |z
    ·exact ok x (gD z)
    ·rw[bn.mp z];exact .sign (by simp) λy hy=>ok y (gU hy)
   ·rw[zbM,pnts,pnts,Pl.nt,if_pos (by decide)];omega
   ·rw[zcg,pwts,pwts,Pl.wt,ba,b9,fA,zbM,pnts,pnts,Pl.nt,if_pos (by decide)];omega
   ·have hd3:=zdw (ps.take (vs.length - 2)) (ps.drop (vs.length - 2));rw[gn]at hd3;have h2:=zta (k:= -1) (b:=0) (h:=w4) (qs:=ps.drop (vs.length - 2)) (by rw[ck];omega);rw[zdw,pds,pds];omega
  ·rename_i hle
   try walk_at "wp"
   simp only[zaj fw,six5];refine⟨aS _,λa ha=>⟨zah (by decide),zah (by decide),?_⟩⟩;rw[zaj (keep hst ha)];refine⟨zah (by omega),?_⟩;cases hp with
   |nil=>
    exact⟨_, .refl,h (pad w5) _ _ (sub.trans (.put .refl ha)) (.nd zag .nil) (.sign (by simp) λ_ z=>nomatch z) (by simp [pad,Pl.wt,pwts];omega) (by simp [pad,Pl.nt,pnts]) (by simp [pad,Pl.dp,zfp])⟩
   | @cons p v ps vs h1 h2=>
    rw[cG,zhR];have e0:ps=[]:=by
     cases ps with
     |nil=>rfl
     |cons q qs=>
      have:=h2.len;simp only[aV]at this hle;omega
    subst e0;simp only[pwts,pnts,aV,ef,pds]at p1 p2 p3;exact⟨_, .refl,h p v _ (sub.trans (.put .refl ha)) (h1.sub (.put .refl ha)) (ok p aN) (by omega) (by omega) (by omega)⟩
end
theorem zwV{ws hs:List Str}{B:List Tn}{c:Int→Nat}(b:BkOk ws hs B) (X:∀t∈B,RX t.2.2) (F:Lfs B) {p:Pl}(h:PlOk hs B p):(p.ev B c).depth≤p.dp+2*p.nt:=by
 have sum:∀ps:List Pl,(∀p∈ps,(p.ev B c).depth≤p.dp+2*p.nt)→dts (ps.map (Pl.ev B c))≤zfp ps+2*pnts ps:=by
  intro ps
  induction ps with
  |nil=>intro _;simp [dts]
  |cons p ps ih=>
   intro h;have h1:=h p aN;have h2:=ih λq hq=>h q (aH _ hq);rw[aD,dts,zfp,pnts];omega
 induction h with
 | @sign b' h ps hh hp ih=>
  have:=sum ps ih;rw[zcA,Tr.depth,Pl.dp,Pl.nt,if_pos (by decide)];omega
 | @turn k b' h ps t e hl b0 b1 hp ih=>
  have ht:t∈B:=a_ e;have hs:=sum ps ih;have hl':(ps.map (Pl.ev B c)).length=t.2.1.nb:=by rw[aq,hl]
  have all:(evT t (c b') (ps.map (Pl.ev B c))).depth≤3+dts (ps.map (Pl.ev B c)):=by
   unfold evT;split
   ·obtain⟨_,_,_,_,hL⟩:=F.lf t ht;have:=zhO (us:=ps.map (Pl.ev B c)) t.2.1 (by rw[hl'];exact(b.lf t ht).fits);have:=(zrB hL).sd;omega
   ·rw[Tr.depth];omega
   ·have:=zhO (us:=ps.map (Pl.ev B c)) t.2.2 (by rw[hl'];exact(b.ri t ht).fits);have:=(X t ht).sd;omega
  rw[zbB e,Pl.dp,Pl.nt,if_neg (by omega)];omega
section
variable {S:Sto}{aw at' ab l1 l2 l3 l4 l5 l6:Addr}{w0 w1 w2 w3 w4 w5:Str}{tt:List Str}{B:List Tn}{E:WX}{D:WEnds}{T:WS}{ns:List Int}{X:Tr}{qs ks:List (List Int)}{ss Ys:List Tr}{at1:Nat}{a0 a1 a2 a3 a4 a5 a6 a7 a8 a9 a10 a11 a12 a13 a14:Option W}
theorem zrE{x1 x2 x3:Option W}{τ:WSt}(h:∀(S':Sto) (aw at' ab:Addr) (w0 w1 w2 w3 w4 w5:Str) (tt:List Str) (B:List Tn),Pre0 S' aw at' ab w0 w1 w2 w3 w4 w5 tt B→T E D (ae (.scr ns)::ae (.ref aw)::ae (.ref at')::ae (.ref ab)::τ) S') :
  zcR 199 (zcV 199 (zcY 199 T)) E D (ae (.scr ns)::x1::x2::x3::τ) S:=by
 unfold zcR zcV zcY;walk_at "wp";refine zdA (by decide) λc0=>zdA (by decide) λc1=>zlF λaw ws hw0 hws=>?_;obtain⟨w0,w1,w2,w3,w4,w5,rfl,G⟩:=zkg hws;have fw:put S aw (Ob.lst ([w0,w1,w2,w3,w4,w5].map W.str)) aw=ae (.lst (six w0 w1 w2 w3 w4 w5)):=zag;generalize put S aw (Ob.lst ([w0,w1,w2,w3,w4,w5].map W.str))=S1 at fw⊢;refine zdA (by decide) λc2=>zdA (by decide) λc3=>zlF λat' tt ht0 htt=>?_;have ft:put S1 at' (Ob.lst (tt.map W.str)) at'=ae (.lst (tt.map W.str)):=zag;replace fw:=keep (x:=Ob.lst (tt.map W.str)) fw ht0;generalize put S1 at' (Ob.lst (tt.map W.str))=S2 at fw ft⊢;refine zdA (by decide) λc4=>?_
 try walk_at "wp"
 refine⟨by decide,?_⟩;refine zqI (r:=192) (zfw htt).len (by decide) fw ft λab B n m hb0 e1 e2 e3=>?_;exact h _ aw at' ab w0 w1 w2 w3 w4 w5 tt B ⟨G,zfw htt,⟨⟨n,m,e1⟩,e2,λt ht=>(e3 t ht).1⟩,keep (x:=Ob.lst (B.map zbh)) fw hb0,keep (x:=Ob.lst (B.map zbh)) ft hb0,zag,λt ht=>(e3 t ht).2⟩
theorem zzs (P:Pre0 S aw at' ab w0 w1 w2 w3 w4 w5 tt B) (h:∀S' X,Bx w0 w1 w2 w3 w4 w5 tt B→Wk w0 w1 w2 w3 w4 w5 B X [] [] []→S' ab=ae (.lst (B.map zbh))→T E D [ae (.scr ns),ae (.ref aw),ae (.ref at'),ae (.ref ab),ae (enc X),a5,a6,a7,a8,a9,a10,a11,a12,a13,a14] S') :
  zcK 199 T E D [ae (.scr ns),ae (.ref aw),ae (.ref at'),ae (.ref ab),a4,a5,a6,a7,a8,a9,a10,a11,a12,a13,a14] S:=by
 have c:Bx w0 w1 w2 w3 w4 w5 tt B:=⟨P.b,P.T,P.G,P.rx⟩;have bk:=P.b.bk P.T P.G;rw[zcK];walk_at "wp";intro ac hc;refine L2.zrb (r:=189) (m:=9) (by decide) zag (keep P.fb hc) (keep P.fw hc) bk P.ne λp v S' sub pa po pw pn pd=>?_;have hdp:=zlp p;have fb:=sub _ _ (keep P.fb hc);have hz:∀x:Int,0≤x→x<8→byC 8 x=0:=λx h0 h1=>by
  unfold byC;have:x / 8=0:=Int.ediv_eq_zero_of_lt h0 h1;rw[this];rfl
 have wy1:=c.k.wy (c:=byC 1) (po.up λx hx=>aH _ (aH _ hx));have es:src B (p.ev B (byC 1))=p.ev B (byC 8):=by
  show(p.ev B (byC 1)).mk B (λt=>t.2.1)=_;rw[zlI bk po];exact zkI po λx h0 h1=>by
   rw[hz x h0 h1];have:=zvL 1 x;unfold zkq;split<;>omega
 have sh:Sh [w0,w1,w2,w3,w4,w5] B (p.ev B (byC 8)):=by rw[←es];exact Sh.of c.k wy1
 have wl:=zqv (c:=byC 8) bk (λx h0 h1=>by rw[hz x h0 h1];omega) po
 have dl:=zwV (c:=byC 8) bk P.rx c.fs po;refine L2.zso (r:=198) (by decide) fb bk 23 (by omega) (by omega) pa po (by omega) (h S' _ c ⟨.nil sh (zlP (by omega) (by omega)),by simp,?_,?_⟩ fb)
 ·show(p.ev B (byC 8)).weight≤100;omega
 ·show(p.ev B (byC 8)).depth≤18+2*0;omega
theorem zyD (c:Bx w0 w1 w2 w3 w4 w5 tt B) (k:Wk w0 w1 w2 w3 w4 w5 B X [] [] []) (fb:S ab=ae (.lst (B.map zbh))) (h:∀S' l1 l2 qs ss Ys,Wk w0 w1 w2 w3 w4 w5 B X qs ss Ys→S' ab=ae (.lst (B.map zbh))→S' l1=ae (.lst ((X::Ys).map enc))→S' l2=ae (.lst (qs.map zat))→T E D [ae (.scr ns),a1,a2,ae (.ref ab),ae (enc X),ae (.ref l1),ae (.ref l2),a7,a8,a9,a10,a11,a12,a13,a14] S') :
  zcX 199 T E D [ae (.scr ns),a1,a2,ae (.ref ab),ae (enc X),a5,a6,a7,a8,a9,a10,a11,a12,a13,a14] S:=by
 rw[zcX];walk_at "wp";intro lc hc;refine znt (r:=198) c (keep fb hc) zag k (by decide) λS' l1 l2 qs ss Ys sb k' f1 f2=>?_;walk_at "wp";exact h S' l1 l2 qs ss Ys k' (sb _ _ (keep fb hc)) f1 f2
theorem zye (fb:S ab=ae (.lst (B.map zbh))) (f1:S l1=ae (.lst ((X::Ys).map enc))) (f2:S l2=ae (.lst (qs.map zat))) (h:∀S' l3,S' ab=ae (.lst (B.map zbh))→S' l1=ae (.lst ((X::Ys).map enc))→S' l2=ae (.lst (qs.map zat))→S' l3=ae (.lst (qs.map zat))→T E D [a0,a1,a2,ae (.ref ab),a4,ae (.ref l1),ae (.ref l2),ae (.ref l3),a8,a9,a10,a11,a12,a13,a14] S') :
  zcL 199 T E D [a0,a1,a2,ae (.ref ab),a4,ae (.ref l1),ae (.ref l2),a7,a8,a9,a10,a11,a12,a13,a14] S:=by
 rw[zcL];walk_at "wp";rw[zaj f2];intro l3 h3;exact h _ l3 (keep fb h3) (keep f1 h3) (keep f2 h3) zag
structure Kn (S:Sto) (ab l1 l2 l4:Addr) (B:List Tn) (X:Tr) (qs:List (List Int)) (ss Ys:List Tr):Prop where
  fb:S ab=ae (.lst (B.map zbh))
  f1:S l1=ae (.lst ((X::Ys).map enc))
  f2:S l2=ae (.lst (qs.map zat))
  f4:S l4=ae (.lst (ss.map enc))
theorem Kn.sub{S':Sto}(k:Kn S ab l1 l2 l4 B X qs ss Ys) (s:Sub S S'):Kn S' ab l1 l2 l4 B X qs ss Ys:=⟨s _ _ k.fb,s _ _ k.f1,s _ _ k.f2,s _ _ k.f4⟩
theorem zyH (c:Bx w0 w1 w2 w3 w4 w5 tt B) (k:Wk w0 w1 w2 w3 w4 w5 B X qs ss Ys) (fb:S ab=ae (.lst (B.map zbh))) (f1:S l1=ae (.lst ((X::Ys).map enc))) (f2:S l2=ae (.lst (qs.map zat))) (f3:S l3=ae (.lst (qs.map zat))) (h:∀S' l4,Kn S' ab l1 l2 l4 B X qs ss Ys→S' l3=ae (.lst (qs.map zat))→T E D [a0,a1,a2,ae (.ref ab),ae (enc X),ae (.ref l1),ae (.ref l2),ae (.ref l3),ae (.tup [enc X, .ref l4]),a9,a10,a11,a12,a13,a14] S') :
  zcT 199 T E D [a0,a1,a2,ae (.ref ab),ae (enc X),ae (.ref l1),ae (.ref l2),ae (.ref l3),a8,a9,a10,a11,a12,a13,a14] S:=by
 obtain⟨e1,e2⟩:=k.P.len;have hn:=k.n;rw[zcT];walk_at "wp";exact zpj (r:=198) c k.P fb f3 (by omega) (by decide) λS' l4 sb _ f4=>h S' l4 ⟨sb _ _ fb,sb _ _ f1,sb _ _ f2,f4⟩ (sb _ _ f3)
theorem zzf (c:Bx w0 w1 w2 w3 w4 w5 tt B) (k:Wk w0 w1 w2 w3 w4 w5 B X qs ss Ys) (K:Kn S ab l1 l2 l4 B X qs ss Ys) (f3:S l3=ae (.lst (qs.map zat))) (h:T E D [a0,a1,a2,ae (.ref ab),ae (enc X),ae (.ref l1),ae (.ref l2),ae (.ref l3),ae (.tup [enc X, .ref l4]),a9,a10,a11,a12,a13,a14] S) :
  zda 199 T E D [a0,a1,a2,ae (.ref ab),ae (enc X),ae (.ref l1),ae (.ref l2),ae (.ref l3),ae (.tup [enc X, .ref l4]),a9,a10,a11,a12,a13,a14] S:=by
 obtain⟨s1,s2⟩:=zbZ k.P.head.2;rw[zda];walk_at "wp";rw[zxg f3 K.f2]
 try walk_at "wp"
 rw[zqV 60 _ _ (by omega),zgG]
 try walk_at "wp"
 exact h
theorem zyF (k:Wk w0 w1 w2 w3 w4 w5 B X qs ss Ys) (K:Kn S ab l1 l2 l4 B X qs ss Ys) (h:T E D [a0,a1,a2,ae (.ref ab),ae (enc X),ae (.ref l1),ae (.ref l2),a7,ae (.tup [enc X, .ref l4]),a9,a10,a11,a12,a13,a14] S) :
  zcP 199 T E D [a0,a1,a2,ae (.ref ab),ae (enc X),ae (.ref l1),ae (.ref l2),a7,ae (.tup [enc X, .ref l4]),a9,a10,a11,a12,a13,a14] S:=by
 obtain⟨e1,e2⟩:=k.P.len;rw[zcP];walk_at "wp";rw[show atI [enc X,W.ref l4] 1=ae (.ref l4) from rfl]
 try walk_at "wp"
 simp only[zaj K.f4,zaj K.f2,aq]
 try walk_at "wp"
 simp only[e1,beq_self_eq_true];exact h
theorem zxH{s:Tr}{i:Nat}(c:Bx w0 w1 w2 w3 w4 w5 tt B) (k:Wk w0 w1 w2 w3 w4 w5 B X qs ss Ys) (K:Kn S ab l1 l2 l4 B X qs ss Ys) (e:ss[i]? =ae s) (h:T E D [a0,a1,a2,ae (.ref ab),a4,ae (.ref l1),ae (.ref l2),a7,a8,ae (.int i),ae (enc s),a11,a12,a13,a14] S) :
  zcw 199 T E D [a0,a1,a2,ae (.ref ab),a4,ae (.ref l1),ae (.ref l2),a7,a8,ae (.int i),ae (enc s),a11,a12,a13,a14] S:=by
 obtain⟨Z,Y,q,g1,g2,g3,g4,g5,g6,g7,g8⟩:=k.P.get c.k i e;obtain⟨f1,f2,f3,f4⟩:=c.k.fitw g7 (by rw[g4];exact g8);obtain⟨z1,z2⟩:=zbZ g8;have ys:Y.small=true:=by
  obtain⟨P',eP⟩:=k.P.take (i+1) (by have:=(bL.mp g3).1;omega);rw[bU,g2]at eP;cases eP;exact P'.last.2
 obtain⟨y1,y2⟩:=zbZ ys;have i1:atI ((X::Ys).map enc) (i:Int)=ae (enc Z):=by rw[zaU,aX,g1];rfl
 have i2:atI ((X::Ys).map enc) ((i:Int)+1)=ae (enc Y):=by
  rw[show(i:Int)+1=((i+1:Nat):Int) from rfl,zaU,aX,bU,g2];rfl
 rw[zcw];walk_at "wp";refine zkp (r:=198) c.k.b.nd K.fb (.inl rfl) c.k.b.s1 40 f1 (by omega) f3 (by omega) ?_;rw[zxt,show s.mk B (λt=>t.2.1)=Z from g4]
 try walk_at "wp"
 rw[zaj K.f1,i1];dsimp only;rw[zqV 60 _ _ (by omega),zgG]
 try walk_at "wp"
 refine zkp (r:=198) c.k.b.nd K.fb (.inr rfl) c.k.b.s2 40 f1 (by omega) f3 (by omega) ?_;rw[zuC,show s.mk B (λt=>t.2.2)=Y from g5]
 try walk_at "wp"
 rw[zaj K.f1,i2];dsimp only;rw[zqV 60 _ _ (by omega),zgG]
 try walk_at "wp"
 exact h
theorem zvA{s:Tr}{i:Nat}(c:Bx w0 w1 w2 w3 w4 w5 tt B) (k:Wk w0 w1 w2 w3 w4 w5 B X qs ss Ys) (K:Kn S ab l1 l2 l4 B X qs ss Ys) (e:ss[i]? =ae s) (h:∀S',Sub S S'→D.nx [a0,a1,a2,ae (.ref ab),a4,ae (.ref l1),ae (.ref l2),a7,a8,ae (.int i),ae (enc s),a11,a12,a13,a14] S') :
  zcr 199 E D [a0,a1,a2,ae (.ref ab),a4,ae (.ref l1),ae (.ref l2),a7,a8,ae (.int i),ae (enc s),a11,a12,a13,a14] S:=by
 obtain⟨Z,Y,q,g1,g2,g3,g4,g5,g6,g7,g8⟩:=k.P.get c.k i e;obtain⟨f1,f2,f3,f4⟩:=c.k.fitw g7 (by rw[g4];exact g8);have i1:atI (qs.map zat) (i:Int)=ae (zat q):=by rw[zaU,aX,g3];rfl
 rw[zcr];walk_at "wp";have e0:W.tup []=zat []:=rfl;rw[e0];refine⟨aS _,?_⟩;refine zoV (p:=[]) (r:=198) c.lf c.pb c.k.b.nd 60 (by omega) (by omega) (by omega) f4 K.fb (by simp;omega) λS' b sb hb=>?_;rw[g6]at hb
 try walk_at "wp"
 rw[zaj (sb _ _ K.f2),i1];refine⟨by decide,λb2 hb2=>?_⟩;have eL:eqF (put S' b2 (Ob.lst [zat q])) 60 (.ref b) (.ref b2)=ae true:=zxg (xs:=[q]) (keep hb hb2) zag;rw[eL]
 try walk_at "wp"
 exact h _ (sb.trans (.put .refl hb2))
theorem zln (c:Bx w0 w1 w2 w3 w4 w5 tt B) (k:Wk w0 w1 w2 w3 w4 w5 B X qs ss Ys):∀(rs:List Tr) (i:Nat) {S:Sto}{a9 a10:Option W},(∀j:Nat,rs[j]? =ss[i+j]?)→Kn S ab l1 l2 l4 B X qs ss Ys→(∀S' a9 a10,Kn S' ab l1 l2 l4 B X qs ss Ys→D.nx [a0,a1,a2,ae (.ref ab),a4,ae (.ref l1),ae (.ref l2),a7,a8,a9,a10,a11,a12,a13,a14] S')→
  forL (wGT (zay (wGN 9) (zay (wGN 10) zcn))) (zdf 199 zba) E D (λS'=>S' l4=ae (.lst (ss.map enc))) (zfv i (rs.map enc)) [a0,a1,a2,ae (.ref ab),a4,ae (.ref l1),ae (.ref l2),a7,a8,a9,a10,a11,a12,a13,a14] S
 | [],i,S,a9,a10,hr,K,h=>by
  simp only[cw,zfv,forL];exact h S _ _ K
 |s::rs,i,S,a9,a10,hr,K,h=>by
  simp only[aD,zfv];refine zbc λN hN=>?_;rw[zdf];walk_at "wp";have e:ss[i]? =ae s:=by have:=hr 0;simpa using this.symm
  refine zxH c k K e (zvA c k K e λS' sb=>?_);refine hN _ _ S' .refl (sb _ _ K.f4) (zln c k rs (i+1) (λj=>?_) (K.sub sb) h);have:=hr (j+1);rw[bU]at this;rw[this,show i+(j+1)=i+1+j by omega]
theorem zxh (c:Bx w0 w1 w2 w3 w4 w5 tt B) (k:Wk w0 w1 w2 w3 w4 w5 B X qs ss Ys) (K:Kn S ab l1 l2 l4 B X qs ss Ys) (h:∀S' a9 a10,Kn S' ab l1 l2 l4 B X qs ss Ys→T E D [a0,a1,a2,ae (.ref ab),ae (enc X),ae (.ref l1),ae (.ref l2),a7,ae (.tup [enc X, .ref l4]),a9,a10,a11,a12,a13,a14] S') :
  zcm 199 T E D [a0,a1,a2,ae (.ref ab),ae (enc X),ae (.ref l1),ae (.ref l2),a7,ae (.tup [enc X, .ref l4]),a9,a10,a11,a12,a13,a14] S:=by
 rw[zcm];walk_at "wp";rw[show atI [enc X,W.ref l4] 1=ae (.ref l4) from rfl]
 try walk_at "wp"
 try dsimp only
 rw[zaj K.f4];exact zln c k ss 0 (λj=>by rw[cP]) K h
theorem zwt (k:Wk w0 w1 w2 w3 w4 w5 B X qs ss Ys) (K:Kn S ab l1 l2 l4 B X qs ss Ys) (h:∀at1:Nat,at1≤qs.length→T E D [ae (.scr ns),a1,a2,a3,a4,ae (.ref l1),a6,a7,a8,a9,a10,ae (.int at1),a12,a13,a14] S) :
  zcy 199 T E D [ae (.scr ns),a1,a2,a3,a4,ae (.ref l1),a6,a7,a8,a9,a10,a11,a12,a13,a14] S:=by
 obtain⟨e1,e2⟩:=k.P.len;rw[zcy];walk_at "wp";refine zdA (by decide) λcc=>?_
 try walk_at "wp"
 simp only[zaj K.f1,aq,aV];refine⟨⟨by decide,by decide⟩,by omega,?_⟩
 have m0:0≤cc / 2 % ((Ys.length+1:Nat):Int):=cg _ (by omega);have m1:cc / 2 % ((Ys.length+1:Nat):Int)<((Ys.length+1:Nat):Int):=cn _ (by omega);obtain⟨m,hm⟩:=jL m0;rw[hm]at m1⊢;exact h m (by omega)
structure Zs (w0 w1 w2 w3 w4 w5:Str) (B:List Tn) (X:Tr) (Ys:List Tr) (at1:Nat) (Z:Tr):Prop where
  e:(X::Ys)[at1]? =ae Z
  sh:Sh [w0,w1,w2,w3,w4,w5] B Z
  sm:Z.small=true
theorem zwm{Z:Tr}(c:Bx w0 w1 w2 w3 w4 w5 tt B) (K:Kn S ab l1 l2 l4 B X qs ss Ys) (z:Zs w0 w1 w2 w3 w4 w5 B X Ys at1 Z) (h:∀S' l5,Kn S' ab l1 l2 l4 B X qs ss Ys→S' l5=ae (.lst (((Z.op B []).map λx=>x.1).map zat))→T E D [a0,a1,a2,ae (.ref ab),a4,ae (.ref l1),a6,a7,a8,a9,a10,ae (.int at1),ae (.ref l5),a13,a14] S') :
  zcp 199 T E D [a0,a1,a2,ae (.ref ab),a4,ae (.ref l1),a6,a7,a8,a9,a10,ae (.int at1),a12,a13,a14] S:=by
 obtain⟨z1,z2⟩:=zbZ z.sm;have ol:=ziu B Z [];have i1:atI ((X::Ys).map enc) (at1:Int)=ae (enc Z):=by rw[zaU,aX,z.e];rfl
 rw[zcp];walk_at "wp";rw[zaj K.f1,i1];dsimp only;refine c.cx.ok_open (r:=198) K.fb z.sh z.sm (by decide) λS1 kn s1 fk=>?_
 try walk_at "wp"
 try dsimp only
 rw[zaj fk];refine zbb (λσ=>∃x,σ=[x]) zff (λx=>zat x.1) ?_ (Z.op B []) [] _ ⟨none,rfl⟩ (by simp;omega) (λx hx σ R hI hR=>?_) ?_
 ·exact fk
 ·obtain⟨y,rfl⟩:=hI;simp only[zff,zfZ];walk_at "wp";exact hR _ _ ⟨_,rfl⟩ .refl
 ·rw[aR];intro l5 h5;refine h _ l5 (K.sub (s1.trans (.put .refl h5))) ?_;rw[zag,bG];rfl
theorem zvQ{Z:Tr}(K:Kn S ab l1 l2 l4 B X qs ss Ys) (z:Zs w0 w1 w2 w3 w4 w5 B X Ys at1 Z) (f5:S l5=ae (.lst (ks.map zat))) (h:∀(S':Sto) (l6:Addr) (us:List (List Int)),Kn S' ab l1 l2 l4 B X qs ss Ys→(∀m∈us,m∉ks)→us.length≤1000→S' l6=ae (.lst (us.map zat))→T E D [a0,a1,a2,a3,a4,ae (.ref l1),a6,a7,a8,a9,a10,ae (.int at1),ae (.ref l5),ae (.ref l6),a14] S') :
  zcv 199 T E D [a0,a1,a2,a3,a4,ae (.ref l1),a6,a7,a8,a9,a10,ae (.int at1),ae (.ref l5),a13,a14] S:=by
 obtain⟨z1,z2⟩:=zbZ z.sm;have i1:atI ((X::Ys).map enc) (at1:Int)=ae (enc Z):=by rw[zaU,aX,z.e];rfl
 have pl:=zpK Z [];rw[zcv];walk_at "wp";rw[zaj K.f1,i1];dsimp only;refine zlx (r:=198) 40 z2 (by decide) (by omega) (by omega) λS1 b s1 fb=>?_
 try walk_at "wp"
 try dsimp only
 rw[zaj fb];refine zdT (λσ=>∃y,σ=[y,ae (.ref l5)]) zat zat (λx=> !decide (x∈ks)) ?_ (Z.pl []) [] _ ⟨none,rfl⟩ (by simp;omega) (λx hx σ R1 R0 hI g1 g0=>?_) ?_
 ·exact fb
 ·obtain⟨y,rfl⟩:=hI;walk_at "wp";rw[zaj (s1 _ _ f5),zqd];by_cases hx:x∈ks
  ·rw[decide_eq_true hx];simp only[Bool.not_true,d9,if_false];exact g0 (by simp [hx]) _ _ ⟨_,rfl⟩ .refl
  ·rw[decide_eq_false hx];simp only[jQ,if_true,zfY];walk_at "wp";exact g1 (by simp [hx]) _ _ ⟨_,rfl⟩ .refl
 ·rw[aR];intro l6 h6;refine h _ l6 _ (K.sub (s1.trans (.put .refl h6))) (λm hm=>?_) ?_ zag
  ·have:=(gi.mp hm).2;simpa using this
  ·have:=jg (λx=> !decide (x∈ks)) (Z.pl []);omega
theorem zwq{Z:Tr}(c:Bx w0 w1 w2 w3 w4 w5 tt B) (z:Zs w0 w1 w2 w3 w4 w5 B X Ys at1 Z) {m:List Int}(h:m∈(Z.op B []).map λx=>x.1):∃v,Z.at m=ae v:=by
 obtain⟨y,hy,rfl⟩:=aZ.mp h;obtain⟨q,t,us,e,o⟩:=zsY c.k _ (aB _) z.sh hy;rw[aR]at e;rw[e];exact⟨_,o.hat⟩
theorem zwU{Z:Tr}{us:List (List Int)}(c:Bx w0 w1 w2 w3 w4 w5 tt B) (K:Kn S ab l1 l2 l4 B X qs ss Ys) (z:Zs w0 w1 w2 w3 w4 w5 B X Ys at1 Z) (hu:∀m∈us,m∉(Z.op B []).map λx=>x.1) (hl:us.length≤1000) (f6:S l6=ae (.lst (us.map zat))) (h:∀(S':Sto) (l6:Addr) (us:List (List Int)),Kn S' ab l1 l2 l4 B X qs ss Ys→(∀m∈us,m∉(Z.op B []).map λx=>x.1)→us≠ []→S' l6=ae (.lst (us.map zat))→T E D [a0,a1,a2,a3,a4,ae (.ref l1),a6,a7,a8,a9,a10,ae (.int at1),a12,ae (.ref l6),a14] S') :
  zct 199 T E D [a0,a1,a2,a3,a4,ae (.ref l1),a6,a7,a8,a9,a10,ae (.int at1),a12,ae (.ref l6),a14] S:=by
 obtain⟨z1,z2⟩:=zbZ z.sm;obtain⟨s,ts,rfl,_,_,_⟩:=z.sh.cases c.k;have i1:atI ((X::Ys).map enc) (at1:Int)=ae (.tup (.str s::encs ts)):=by rw[zaU,aX,z.e];simp [enc]
 rw[zct];walk_at "wp";simp only[zaj f6,zaj K.f1,i1];walk_at "wp";refine⟨by decide,by decide,by decide,⟨by simp,by decide,by decide,zah (by decide)⟩,by decide,?_⟩
 rw[zaj f6,aq,zaM];refine⟨zah (by omega),λq hq=>?_⟩;have e50:(aJ (iL 50) [W.int 0]).flatten=(aJ 50 (0:Int)).map W.int:=by rw[List.map_replicate];rfl
 have el:us.map zat++[W.tup [W.int (-1)],W.tup [W.int (((ts.length+1:Nat):Int) - 1)],W.tup (aJ (iL 50) [W.int 0]).flatten]=(us++[[-1],[((ts.length+1:Nat):Int) - 1],aJ 50 0]).map zat:=by
  rw[e50,bN];rfl
 rw[el];refine h _ q _ (K.sub (.put .refl hq)) (λm hm hmem=>?_) (by simp) zag;rcases bb.mp hm with g |g
 ·exact hu m g hmem
 ·obtain⟨v,hv⟩:=zwq c z hmem;simp only[av,bo,or_false]at g;rcases g with rfl |rfl |rfl
  ·obtain⟨_,h0,_⟩:=zeQ hv;omega
  ·obtain⟨_,_,h1,_⟩:=zeQ hv;have:=(bL.mp h1).1;omega
  ·have:=zng _ hv;rw[gr]at this;omega
theorem zvD{us ks:List (List Int)}(hu:∀m∈us,m∉ks) (hn:us≠ []) (f6:S l6=ae (.lst (us.map zat))) (h:∀m,m∉ks→T E D [ae (.scr ns),a1,a2,a3,a4,a5,a6,a7,a8,a9,a10,a11,a12,ae (.ref l6),ae (zat m)] S) :
  zcq 199 T E D [ae (.scr ns),a1,a2,a3,a4,a5,a6,a7,a8,a9,a10,a11,a12,ae (.ref l6),a14] S:=by
 have hp:0<us.length:=fI.mpr hn;rw[zcq];walk_at "wp";refine zdA (by decide) λcc=>?_
 try walk_at "wp"
 simp only[zaj f6,aq];obtain⟨w,e,m⟩:=zeM (xs:=us.map zat) (i:=cc / 18 % (us.length:Int)) (cg _ (by omega)) (by rw[aq];exact cn _ (by omega));obtain⟨u,hm,rfl⟩:=aZ.mp m;rw[e];exact⟨⟨by decide,by decide⟩,by omega,h u (hu u hm)⟩
theorem zxf{m:List Int}(c:Bx w0 w1 w2 w3 w4 w5 tt B) (k:Wk w0 w1 w2 w3 w4 w5 B X qs ss Ys) (K:Kn S ab l1 l2 l4 B X qs ss Ys) (ha:at1≤qs.length) (hm:∀Z,(X::Ys)[at1]? =ae Z→m∉(Z.op B []).map λx=>x.1) (h:∀S',Sub S S'→D.rt (.bl true) S') :
  zco 199 E D [a0,a1,a2,ae (.ref ab),ae (enc X),a5,ae (.ref l2),a7,a8,a9,a10,ae (.int at1),a12,a13,ae (zat m)] S:=by
 have hn:=k.n;obtain⟨e1,e2⟩:=k.P.len;obtain⟨P',eP⟩:=k.P.take at1 ha;rw[zco];walk_at "wp";simp only[zaj K.f2];rw[zfP,zfF];have el:qs.map zat=qs.map zat:=rfl;have e3:(qs.map zat).take at1++[zat m]++(qs.map zat).drop at1=(qs.take at1++m::qs.drop at1).map zat:=by
  rw[bN,aD,gC,g9,bI];rfl
 rw[e3];refine⟨by decide,zah (by rw[b9,aq];omega),zah (by simp;omega),λq hq=>?_⟩;refine zjE (r:=198) c P' (keep K.fb hq) zag (by rw[b9];omega) (by decide) (hm _ eP) λS' sb=>h S' ((Sub.put .refl hq).trans sb)
end
theorem zwI (ns:List Int) (hl:ns.length≤63):zdr 200 [.scr ns] (λ_=>none) (λw _=>w= .bl true) (λ_ _=>False):=by
 rw[show(200:Nat)=199+1 from rfl,zdr,zlV];refine⟨rfl,?_⟩;refine zrE λS' aw at' ab w0 w1 w2 w3 w4 w5 tt B P=>zzs P λS1 X c k0 fb=>zyD c k0 fb λS2 l1 l2 qs ss Ys k fb f1 f2=>zye fb f1 f2 λS3 l3 fb f1 f2 f3=>zyH c k fb f1 f2 f3 λS4 l4 K f3=>zzf c k K f3 (zyF k K (zxh c k K λS5 a9 a10 K=>zwt k K λat1 hat=>?_));obtain⟨P',eP⟩:=k.P.take at1 hat;have z:Zs w0 w1 w2 w3 w4 w5 B X Ys at1 (zbT X (Ys.take at1)):=⟨eP,P'.last.1,P'.last.2⟩;refine zwm c K z λS6 l5 K f5=>zvQ K z f5 λS7 l6 us K hu hul f6=>zwU c K z hu hul f6 λS8 l6 us K hu hne f6=>zvD hu hne f6 λm hm=>zxf c k K hat (λZ eZ=>?_) λS' sb=>⟨_, .refl,rfl⟩;rw[eP]at eZ;cases eZ;exact hm
end L2
end
end
section
namespace K35
open PySem L2 PyProof.Rows
noncomputable def top (i:Nat):Stmt:=PySem.Challenge.pw_turnweave_k35_roads_of_singles.main.body.getD i (.Pass ⟨0,0,0,0⟩)
structure Cal (P:aF) (w:ax) (K:ai) (mg:Str→Option Value) (base:Heap) (nm:Str) (ps:List Str) (c:Nat→WSp) where
  zf:Addr
  zd:bF
  zg:∀r,FnOk P w K mg base (CX1 P w) r zf zd ps (zcG K (c r))
  zb:Binds K zd ps []
  zk:dQ K (.ref zf)=true
  zm:mg nm=ae (.ref zf)
noncomputable def mkC {P:aF}{w:ax}{K:ai}{h:Heap}{mg:Str→Option Value}{base:Heap}{nm:Str}{st:Stmt}{ps:List Str}{c:Nat→WSp}{f:Addr}{d:bF}(X:K.In h) (G:h.Ns aL mg) (F:Fun K nm nm st f d) (a:aT K aL nm=ae (ae (.ref f))) (g:∀r,FnOk P w K mg base (CX1 P w) r f d ps (zcG K (c r))) (b:Binds K d ps []):Cal P w K mg base nm ps c:=⟨f,d,g,b,F.kp,aY X G a⟩
def Dfn (K:ai) (nm:Str) (st:Stmt):Prop:=∃f d,aT K aL nm=ae (ae (.ref f))∧Fun K nm nm st f d
theorem dfn{K:ai}{x:Str}{st:Stmt}{f:Addr}{oc:Value}{od an:Option Addr}{osl:Array (Option Value)}{kV doc pm cdv ct:Value}(a:aT K aL x=ae (ae (.ref f))) (l:K.lookup f=ae ⟨oc,od, .func (dz x x (zgk st) (zfk st) (zal st) .none kV doc pm an cdv ct),osl⟩) (c:fQ K cdv x=true) (k:dQ K (.ref f)=true):Dfn K x st:=⟨f,_,a,zwo l c k⟩
theorem nC{p:List Value→Prop}{k:Nat}(h:∀a us,us.length=k→p (a::us)):∀us,us.length=k+1→p us:=λus e=>by
 cases us with
 |nil=>cases e
 |cons a us=>exact h a us (Nat.succ.inj e)
theorem n0{p:List Value→Prop}(h:p []):∀us,us.length=0→p us:=λus e=>by
 cases us with
 |nil=>exact h
 |cons a us=>cases e
theorem n1{p:List Value→Prop}(h:∀a,p [a]):∀us,us.length=1→p us:=nC λa=>n0 (p:=λus=>p (a::us)) (h a)
theorem n2{p:List Value→Prop}(h:∀a b,p [a,b]):∀us,us.length=2→p us:=nC λa=>n1 (p:=λus=>p (a::us)) (h a)
theorem n3{p:List Value→Prop}(h:∀a b c,p [a,b,c]):∀us,us.length=3→p us:=nC λa=>n2 (p:=λus=>p (a::us)) (h a)
theorem n4{p:List Value→Prop}(h:∀a b c d,p [a,b,c,d]):∀us,us.length=4→p us:=nC λa=>n3 (p:=λus=>p (a::us)) (h a)
theorem n5{p:List Value→Prop}(h:∀a b c d e,p [a,b,c,d,e]):∀us,us.length=5→p us:=nC λa=>n4 (p:=λus=>p (a::us)) (h a)
theorem n6{p:List Value→Prop}(h:∀a b c d e f,p [a,b,c,d,e,f]):∀us,us.length=6→p us:=nC λa=>n5 (p:=λus=>p (a::us)) (h a)
local macro_rules | `(tactic| walk_at "sc") => `(tactic| (refine ⟨rfl, rfl, rfl, ?_, rfl, ?_, ?_⟩ <;> decide +kernel))
noncomputable abbrev Ok (P:aF) (w:ax) (K:ai) (mg:Str→Option Value) (base:Heap) (f:Addr) (d:bF) (ps:List Str) (c:Nat→WSp):Prop:=∀r,FnOk P w K mg base (CX1 P w) r f d ps (zcG K (c r))
theorem zcH{P:aF}{w:ax}{K:ai}{mg:Str→Option Value}{base:Heap}{f:Addr}{d:bF}{ps:List Str}{c:Nat→WSp}(h0:c 0=zba) (h:∀r,FnOk P w K mg base (CX1 P w) r f d ps (zcG K (c r))→FnOk P w K mg base (CX1 P w) (r+1) f d ps (zcG K (c (r+1)))):Ok P w K mg base f d ps c:=λr=>by
 induction r with
 |zero=>rw[h0];exact zvk
 |succ r ih=>exact h r ih
structure Ncl (mg:Str→Option Value) (x:Str) where
  xC:Addr
  xm:mg x=ae (.ref xC)
theorem zoR:bW "ValueError" =ae (.type "ValueError"):=by first |rfl |decide +kernel | (unfold bW;decide +kernel)
noncomputable abbrev s0:Stmt:=top 9
theorem sc0:FnScope ["t"] ["t"] (zal s0):=by walk_at "sc"
noncomputable abbrev s1:Stmt:=top 10
theorem sc1:FnScope ["things", "found", "thing"] ["things"] (zal s1):=by walk_at "sc"
noncomputable abbrev s2:Stmt:=top 11
theorem sc2:FnScope ["t", "heavy", "deep", "level"] ["t"] (zal s2):=by walk_at "sc"
noncomputable abbrev s3:Stmt:=top 13
theorem sc3:FnScope ["t", "place", "found", "number", "inner"] ["t", "place", "found"] (zal s3):=by walk_at "sc"
noncomputable abbrev s4:Stmt:=top 12
theorem sc4:FnScope ["t", "found"] ["t"] (zal s4):=by walk_at "sc"
noncomputable abbrev s5:Stmt:=top 15
theorem sc5:FnScope ["t", "number", "parts"] ["t", "number"] (zal s5):=by walk_at "sc"
noncomputable abbrev s6:Stmt:=top 14
theorem sc6:FnScope ["t", "place", "thing", "number"] ["t", "place"] (zal s6):=by walk_at "sc"
noncomputable abbrev s7:Stmt:=top 17
theorem sc7:FnScope ["side"] ["side"] (zal s7):=by walk_at "sc"
noncomputable abbrev s8:Stmt:=top 18
theorem sc8:FnScope ["side", "things"] ["side", "things"] (zal s8):=by walk_at "sc"
noncomputable abbrev s9:Stmt:=top 21
theorem sc9:FnScope ["one", "other"] ["one", "other"] (zal s9):=by walk_at "sc"
noncomputable abbrev s10:Stmt:=top 20
theorem sc10:FnScope ["left", "t", "things", "inner", "thing"] ["left", "t", "things"] (zal s10):=by walk_at "sc"
noncomputable abbrev s11:Stmt:=top 19
theorem sc11:FnScope ["left", "t", "things"] ["left", "t"] (zal s11):=by walk_at "sc"
noncomputable abbrev s12:Stmt:=top 25
theorem sc12:FnScope ["book", "title", "turning"] ["book", "title"] (zal s12):=by walk_at "sc"
noncomputable abbrev s13:Stmt:=top 28
theorem zAk:FnScope ["shape"] ["shape"] (zal s13):=by walk_at "sc"
noncomputable abbrev s14:Stmt:=top 29
theorem sc14:FnScope ["book", "way", "side", "parts", "turning"] ["book", "way", "side"] (zal s14):=by walk_at "sc"
noncomputable abbrev s15:Stmt:=top 27
theorem zzV:FnScope ["book", "way"] ["book", "way"] (zal s15):=by walk_at "sc"
noncomputable abbrev s16:Stmt:=top 30
theorem sc16:FnScope ["book", "way", "turning"] ["book", "way"] (zal s16):=by walk_at "sc"
noncomputable abbrev s17:Stmt:=top 34
theorem sc17:FnScope ["book", "shape", "turning"] ["book", "shape"] (zal s17):=by walk_at "sc"
noncomputable abbrev s18:Stmt:=top 33
theorem sc18:FnScope ["book", "shape", "place", "found", "turning", "number", "inner"] ["book", "shape", "place", "found"] (zal s18):=by walk_at "sc"
noncomputable abbrev s19:Stmt:=top 32
theorem sc19:FnScope ["book", "shape", "found"] ["book", "shape"] (zal s19):=by walk_at "sc"
noncomputable abbrev s20:Stmt:=top 35
theorem zAp:FnScope ["pairs"] ["pairs"] (zal s20):=by walk_at "sc"
noncomputable abbrev s21:Stmt:=top 39
theorem sc21:FnScope ["book", "shape", "turning"] ["book", "shape"] (zal s21):=by walk_at "sc"
noncomputable abbrev s22:Stmt:=top 38
theorem sc22:FnScope ["book", "shape", "place", "wanted", "top", "parts", "spot", "inner"] ["book", "shape", "place", "wanted"] (zal s22):=by walk_at "sc"
noncomputable abbrev s23:Stmt:=top 37
theorem zzW:FnScope ["book", "shape", "places"] ["book", "shape", "places"] (zal s23):=by walk_at "sc"
noncomputable abbrev s24:Stmt:=top 36
theorem sc24:FnScope ["book", "shape", "places", "known", "place"] ["book", "shape", "places"] (zal s24):=by walk_at "sc"
noncomputable abbrev s25:Stmt:=top 41
theorem sc25:FnScope ["book", "shape", "places", "ways", "here", "place", "single"] ["book", "shape", "places"] (zal s25):=by walk_at "sc"
noncomputable abbrev s26:Stmt:=top 43
theorem zzN:FnScope ["script", "k"] ["script", "k"] (zal s26):=by walk_at "sc"
noncomputable abbrev s27:Stmt:=top 44
theorem sc27:FnScope ["one", "two", "great", "signs", "rest", "base", "k", "at", "words", "word"] ["one", "two", "great"] (zal s27):=by walk_at "sc"
noncomputable abbrev s28:Stmt:=top 45
theorem zAs:FnScope ["side"] ["side"] (zal s28):=by walk_at "sc"
noncomputable abbrev s29:Stmt:=top 46
theorem zzC:FnScope ["side", "things"] ["side", "things"] (zal s29):=by walk_at "sc"
noncomputable abbrev s30:Stmt:=top 47
theorem zAc:FnScope ["way", "head", "c", "d"] ["way", "head", "c", "d"] (zal s30):=by walk_at "sc"
noncomputable abbrev s31:Stmt:=top 48
theorem sc31:FnScope ["many", "w", "grows", "some"] ["many", "w", "grows"] (zal s31):=by walk_at "sc"
noncomputable abbrev s32:Stmt:=top 49
theorem sc32:FnScope ["script", "k", "w", "titles", "grows", "book", "j", "lefts", "n", "left", "some", "draw"] ["script", "k", "w", "titles", "grows"] (zal s32):=by walk_at "sc"
noncomputable abbrev s33:Stmt:=top 50
theorem sc33:FnScope ["cells", "book", "w", "room", "stack", "spent", "cell", "way", "need", "node", "k", "at"] ["cells", "book", "w", "room"] (zal s33):=by walk_at "sc"
noncomputable abbrev s34:Stmt:=top 51
theorem sc34:FnScope ["plan", "book", "by", "k", "bits", "head", "parts", "ways"] ["plan", "book", "by"] (zal s34):=by walk_at "sc"
noncomputable abbrev s35:Stmt:=top 52
theorem sc35:FnScope ["book", "way", "which", "parts", "turning"] ["book", "way", "which"] (zal s35):=by walk_at "sc"
noncomputable abbrev s36:Stmt:=top 53
theorem sc36:FnScope ["t", "found", "i", "one"] ["t"] (zal s36):=by walk_at "sc"
noncomputable abbrev s37:Stmt:=top 54
theorem sc37:FnScope ["t", "place", "i"] ["t", "place"] (zal s37):=by walk_at "sc"
noncomputable abbrev s38:Stmt:=top 55
theorem zAb:FnScope ["left", "shape"] ["left", "shape"] (zal s38):=by walk_at "sc"
noncomputable abbrev s39:Stmt:=top 56
theorem sc39:FnScope ["book", "shape", "found", "place", "turning"] ["book", "shape"] (zal s39):=by walk_at "sc"
noncomputable abbrev s40:Stmt:=top 57
theorem sc40:FnScope ["left", "t", "found", "one", "other"] ["left", "t"] (zal s40):=by walk_at "sc"
noncomputable abbrev s41:Stmt:=top 58
theorem sc41:FnScope ["t", "place", "other", "k"] ["t", "place", "other"] (zal s41):=by walk_at "sc"
noncomputable abbrev s42:Stmt:=top 59
theorem sc42:FnScope ["book", "shape", "place", "here", "turning"] ["book", "shape", "place"] (zal s42):=by walk_at "sc"
noncomputable abbrev s43:Stmt:=top 60
theorem zzL:FnScope ["t"] ["t"] (zal s43):=by walk_at "sc"
noncomputable abbrev s44:Stmt:=top 61
theorem zzU:FnScope ["left"] ["left"] (zal s44):=by walk_at "sc"
noncomputable abbrev s45:Stmt:=top 62
theorem sc45:FnScope ["book", "way", "at", "inner", "top", "turning", "found", "one", "place"] ["book", "way", "at"] (zal s45):=by walk_at "sc"
noncomputable abbrev s46:Stmt:=top 63
theorem sc46:FnScope ["book", "shape", "some", "kinds", "e"] ["book", "shape", "some"] (zal s46):=by walk_at "sc"
noncomputable abbrev s47:Stmt:=top 64
theorem sc47:FnScope ["book", "shape", "cells", "shapes", "some", "cell", "known", "place", "other"] ["book", "shape", "cells"] (zal s47):=by walk_at "sc"
noncomputable abbrev s48:Stmt:=top 65
theorem sc48:FnScope ["script", "w", "titles", "book", "shape", "shapes", "some", "handed", "found", "k", "way", "at", "known", "shut", "more"] ["script"] (zal s48):=by walk_at "sc"
section
variable (P:aF) (w:ax) (K:ai) (mg:Str→Option Value) (base:Heap)
abbrev C0:=Cal P w K mg base "parts_of" ["t"] zcb
abbrev C1:=Cal P w K mg base "parts_of_all" ["things"] zbD
abbrev C2:=Cal P w K mg base "is_small" ["t"] zdz
abbrev C3:=Cal P w K mg base "gather_places" ["t", "place", "found"] zaR
abbrev C4:=Cal P w K mg base "places" ["t"] zfc
abbrev C5:=Cal P w K mg base "numbered_part" ["t", "number"] zbx
abbrev C6:=Cal P w K mg base "part" ["t", "place"] zjF
abbrev C7:=Cal P w K mg base "blank_places" ["side"] zbE
abbrev C8:=Cal P w K mg base "filled" ["side", "things"] zdC
abbrev C9:=Cal P w K mg base "have_one_top" ["one", "other"] zbF
abbrev C10:=Cal P w K mg base "gather_matched" ["left", "t", "things"] zaG
abbrev C11:=Cal P w K mg base "matched" ["left", "t"] zdp
abbrev C12:=Cal P w K mg base "turning_of" ["book", "title"] zbQ
abbrev C13:=Cal P w K mg base "only_small" ["shape"] zdi
abbrev C14:=Cal P w K mg base "with_sides" ["book", "way", "side"] zbO
abbrev C15:=Cal P w K mg base "goal" ["book", "way"] zhk
abbrev C16:=Cal P w K mg base "part_places" ["book", "way"] zbz
abbrev C17:=Cal P w K mg base "open_turning" ["book", "shape"] zbq
abbrev C18:=Cal P w K mg base "gather_open" ["book", "shape", "place", "found"] zbn
abbrev C19:=Cal P w K mg base "open_uses" ["book", "shape"] zcQ
abbrev C20:=Cal P w K mg base "places_of" ["pairs"] zcU
abbrev C21:=Cal P w K mg base "turned_top" ["book", "shape"] zcl
abbrev C22:=Cal P w K mg base "way_within" ["book", "shape", "place", "wanted"] zaY
abbrev C23:=Cal P w K mg base "way_with" ["book", "shape", "places"] zdt
abbrev C24:=Cal P w K mg base "way_of" ["book", "shape", "places"] zdB
abbrev C25:=Cal P w K mg base "road_of" ["book", "shape", "places"] zcs
abbrev C26:=Cal P w K mg base "_law_cell" ["script", "k"] zaO
abbrev C27:=Cal P w K mg base "_law_words" ["one", "two", "great"] zbP
abbrev C28:=Cal P w K mg base "_law_count" ["side"] zaF
abbrev C29:=Cal P w K mg base "_law_filled" ["side", "things"] zaW
abbrev C30:=Cal P w K mg base "_law_lefts" ["way", "head", "c", "d"] zcu
abbrev C31:=Cal P w K mg base "_law_rights" ["many", "w", "grows"] zbY
abbrev C32:=Cal P w K mg base "_law_book" ["script", "k", "w", "titles", "grows"] zbu
abbrev C33:=Cal P w K mg base "_law_plan" ["cells", "book", "w", "room"] zcJ
abbrev C34:=Cal P w K mg base "_law_way" ["plan", "book", "by"] zcI
abbrev C35:=Cal P w K mg base "_law_made" ["book", "way", "which"] zbN
abbrev C36:=Cal P w K mg base "_law_places" ["t"] zav
abbrev C37:=Cal P w K mg base "_law_at" ["t", "place"] zbp
abbrev C38:=Cal P w K mg base "_law_stands" ["left", "shape"] zaK
abbrev C39:=Cal P w K mg base "_law_open" ["book", "shape"] zbI
abbrev C40:=Cal P w K mg base "_law_things" ["left", "t"] zaV
abbrev C41:=Cal P w K mg base "_law_put" ["t", "place", "other"] zce
abbrev C42:=Cal P w K mg base "_law_turned" ["book", "shape", "place"] zbX
abbrev C43:=Cal P w K mg base "_law_weight" ["t"] zaJ
abbrev C44:=Cal P w K mg base "_law_spots" ["left"] zcx
abbrev C45:=Cal P w K mg base "_law_laid" ["book", "way", "at"] zbw
abbrev C46:=Cal P w K mg base "_law_refused" ["book", "shape", "some"] zbg
abbrev C47:=Cal P w K mg base "_law_walk" ["book", "shape", "cells"] zdc
end
section
variable {P:aF}{w:ax}{K:ai}{mg:Str→Option Value}{base:Heap}
variable {f:Addr}{d:bF}
theorem o0 (F:Fun K "parts_of" "parts_of" s0 f d) (n_i:mg "isinstance" =none) (n_n:mg "int" =none):Ok P w K mg base f d ["t"] zcb:=zcH rfl λr ih=>zaX F sc0 rfl rfl λ_ _ _ _ _ _ hr=>(zae (zaT (zbt (zdR rfl n_i rfl n_n cy (jv 0) (by decide) (by decide) (zmZ _ (by simp)))) (zai (zan (zam zac))) zaz)
  (zai (zan (zcc (jv 0) (zaC zad) zaL))))
theorem o1 (F:Fun K "parts_of_all" "parts_of_all" s1 f d) (x0:C0 P w K mg base):Ok P w K mg base f d ["things"] zbD:=zcH rfl λr ih=>zaX F sc1 rfl rfl λ_ _ _ _ _ _ hr=>(zae (zao (i:=1) sc1.nd rfl (aj rfl) (zau (zax zac)))
  (zae (zbl (zbi (jv 0)) (zap (i:=2) sc1.nd rfl (aj rfl)) (zai (zbC (znP (jv 1) (zaa (zak (x0.zg r) hr rfl x0.zm x0.zk x0.zb (zaa (jv 2) zac)) zac)))))
  (zai (zan (jv 1)))))
theorem o2 (F:Fun K "is_small" "is_small" s2 f d) (x1:C1 P w K mg base) (n_l:mg "len" =none) {t_MOST_HEAVY:bc}(g_MOST_HEAVY:mg "MOST_HEAVY" =ae (.int 400 t_MOST_HEAVY)) {t_MOST_DEEP:bc}(g_MOST_DEEP:mg "MOST_DEEP" =ae (.int 40 t_MOST_DEEP)):Ok P w K mg base f d ["t"] zdz:=zcH rfl λr ih=>zaX F sc2 rfl rfl λ_ _ _ _ _ _ hr=>(zae (zao (i:=1) sc2.nd rfl (aj rfl) zad)
  (zae (zao (i:=2) sc2.nd rfl (aj rfl) zad)
  (zae (zao (i:=3) sc2.nd rfl (aj rfl) (zau (zax (zaa (jv 0) zac))))
  (zae (zmg (zbt (jv 3)) (zae (zsp (i:=1) sc2.nd rfl (aj rfl) (zbm rfl n_l (zaa (jv 3) zac)))
  (zae (zsp (i:=2) sc2.nd rfl (aj rfl) zad)
  (zae (zaT (JW.jt (zjo (zms (jv 1) (zfq rfl g_MOST_HEAVY)) (zhj (zms (jv 2) (zfq rfl g_MOST_DEEP))))) (zai (zan zdE)) zaz)
  (zai (zao (i:=3) sc2.nd rfl (aj rfl) (zak (x1.zg r) hr rfl x1.zm x1.zk x1.zb (zaa (jv 3) zac))))))))
  (zai (zan zdE))))))
theorem o3 (F:Fun K "gather_places" "gather_places" s3 f d) (x0:C0 P w K mg base) (b:Binds K d ["t", "place", "found"] []) (m:mg "gather_places" =ae (.ref f)) (n_e:mg "enumerate" =none):Ok P w K mg base f d ["t", "place", "found"] zaR:=zcH rfl λr ih=>zaX F sc3 rfl rfl λ_ _ _ _ _ _ hr=>(zae (zbC (zbv (jv 2) (zaa (jv 1) zac)))
  (zai (zbl (zgM rfl n_e (zak (x0.zg r) hr rfl x0.zm x0.zk x0.zb (zaa (jv 0) zac))) (zdQ (zaE (zap (i:=3) sc3.nd rfl (aj rfl)) (zaE (zap (i:=4) sc3.nd rfl (aj rfl)) zcE)) (glS (glS gl0))) (zai (zbC (zak ih hr rfl m F.kp b (zaa (jv 4) (zaa (zaZ (jv 1) (zam (zaa (jv 3) zac))) (zaa (jv 2) zac)))))))))
theorem o4 (F:Fun K "places" "places" s4 f d) (x3:C3 P w K mg base):Ok P w K mg base f d ["t"] zfc:=zcH rfl λr ih=>zaX F sc4 rfl rfl λ_ _ _ _ _ _ hr=>(zae (zao (i:=1) sc4.nd rfl (aj rfl) (zau (zax zac)))
  (zae (zbC (zak (x3.zg r) hr rfl x3.zm x3.zk x3.zb (zaa (jv 0) (zaa (zam zac) (zaa (jv 1) zac)))))
  (zai (zan (jv 1)))))
theorem o5 (F:Fun K "numbered_part" "numbered_part" s5 f d) (x0:C0 P w K mg base) (n_l:mg "len" =none) (y_NoPlace:Ncl mg "NoPlace") (v_NoPlace:XcIn K "NoPlace" y_NoPlace.xC):Ok P w K mg base f d ["t", "number"] zbx:=zcH rfl λr ih=>zaX F sc5 rfl rfl λ_ _ _ _ _ _ hr=>(zae (zao (i:=2) sc5.nd rfl (aj rfl) (zak (x0.zg r) hr rfl x0.zm x0.zk x0.zb (zaa (jv 0) zac)))
  (zae (zaT (JW.jt (zjo (zoS (jv 1) zad) (zhj (zzn (jv 1) (zbm rfl n_l (zaa (jv 2) zac)))))) (zai (zhK v_NoPlace rfl y_NoPlace.xm (zaa zhh zac))) zaz)
  (zai (zan (zaq (jv 2) (jv 1))))))
theorem o6 (F:Fun K "part" "part" s6 f d) (x5:C5 P w K mg base):Ok P w K mg base f d ["t", "place"] zjF:=zcH rfl λr ih=>zaX F sc6 rfl rfl λ_ _ _ _ _ _ hr=>(zae (zao (i:=2) sc6.nd rfl (aj rfl) (jv 0))
  (zae (zbl (zbi (jv 1)) (zap (i:=3) sc6.nd rfl (aj rfl)) (zai (zao (i:=2) sc6.nd rfl (aj rfl) (zak (x5.zg r) hr rfl x5.zm x5.zk x5.zb (zaa (jv 2) (zaa (jv 3) zac))))))
  (zai (zan (jv 2)))))
theorem o7 (F:Fun K "blank_places" "blank_places" s7 f d) (x4:C4 P w K mg base) (x6:C6 P w K mg base) (n_i:mg "isinstance" =none) (n_n:mg "int" =none):Ok P w K mg base f d ["side"] zbE:=zcH rfl λr ih=>zaX F sc7 rfl rfl λ_ _ _ _ _ _ hr=>(zai (zan (zau (zch (N:=["place", "side"]) (k:=1) (fr:=[0]) ⟨rfl,by decide +kernel,rfl,rfl,rfl,rfl,rfl,rfl,rfl⟩ (zbi (zak (x4.zg r) hr rfl x4.zm x4.zk x4.zb (zaa (jv 0) zac))) (λ_ _ _ _=>(zap (i:=0) (show bA [("place" :Str),("side" :Str)] from by decide +kernel) rfl (aj rfl))) (λ_ _ _ _=>(zka (zbt (zdR rfl n_i rfl n_n cy (zak (x6.zg r) hr rfl x6.zm x6.zk x6.zb (zaa (jv 1) (zaa (jv 0) zac))) (by decide) (by decide) (zmZ _ (by simp)))))) (λ_ _ _ _=>(jv 0))))))
theorem o8 (F:Fun K "filled" "filled" s8 f d) (b:Binds K d ["side", "things"] []) (m:mg "filled" =ae (.ref f)) (n_i:mg "isinstance" =none) (n_n:mg "int" =none) (n_t:mg "tuple" =none):Ok P w K mg base f d ["side", "things"] zdC:=zcH rfl λr ih=>zaX F sc8 rfl rfl λ_ _ _ _ _ _ hr=>(zae (zaT (zbt (zdR rfl n_i rfl n_n cy (jv 0) (by decide) (by decide) (zmZ _ (by simp)))) (zai (zan (zaq (jv 1) (jv 0)))) zaz)
  (zai (zan (zaZ (zam (zaa (zaq (jv 0) zad) zac)) (zjG rfl n_t (zch (N:=["inner", "things"]) (k:=1) (fr:=[1]) ⟨rfl,by decide +kernel,rfl,rfl,rfl,rfl,rfl,rfl,rfl⟩ (zbi (zcc (jv 0) (zaC zad) zaL)) (λ_ _ _ _=>(zap (i:=0) (show bA [("inner" :Str),("things" :Str)] from by decide +kernel) rfl (aj rfl))) (λ_ _ _ _=>zbK) (λ_ _ _ _=>(zak ih hr rfl m F.kp b (zaa (jv 0) (zaa (jv 1) zac))))))))))
theorem o9 (F:Fun K "have_one_top" "have_one_top" s9 f d) (n_l:mg "len" =none):Ok P w K mg base f d ["one", "other"] zbF:=zcH rfl λr ih=>zaX F sc9 rfl rfl λ_ _ _ _ _ _ hr=>(zai (zan (zvp (znv hr (zaq (jv 0) zad) (zaq (jv 1) zad)) (zwP (znv hr (zbm rfl n_l (zaa (jv 0) zac)) (zbm rfl n_l (zaa (jv 1) zac)))))))
theorem o10 (F:Fun K "gather_matched" "gather_matched" s10 f d) (x9:C9 P w K mg base) (b:Binds K d ["left", "t", "things"] []) (m:mg "gather_matched" =ae (.ref f)) (n_i:mg "isinstance" =none) (n_n:mg "int" =none) (n_z:mg "zip" =none):Ok P w K mg base f d ["left", "t", "things"] zaG:=zcH rfl λr ih=>zaX F sc10 rfl rfl λ_ _ _ _ _ _ hr=>(zae (zaT (zbt (zdR rfl n_i rfl n_n cy (jv 0) (by decide) (by decide) (zmZ _ (by simp)))) (zae (zbC (zbv (jv 2) (zaa (jv 1) zac)))
  (zai (zan zdE))) zaz)
  (zae (zaT (zgs (zbt (zak (x9.zg r) hr rfl x9.zm x9.zk x9.zb (zaa (jv 0) (zaa (jv 1) zac))))) (zai (zan zdE)) zaz)
  (zae (zbl (ziB rfl n_z (zcc (jv 0) (zaC zad) zaL) (zcc (jv 1) (zaC zad) zaL)) (zdQ (zaE (zap (i:=3) sc10.nd rfl (aj rfl)) (zaE (zap (i:=4) sc10.nd rfl (aj rfl)) zcE)) (glS (glS gl0))) (zai (zaT (zgs (zbt (zak ih hr rfl m F.kp b (zaa (jv 3) (zaa (jv 4) (zaa (jv 2) zac)))))) (zai (zan zdE)) zaz)))
  (zai (zan zdE)))))
theorem o11 (F:Fun K "matched" "matched" s11 f d) (x10:C10 P w K mg base):Ok P w K mg base f d ["left", "t"] zdp:=zcH rfl λr ih=>zaX F sc11 rfl rfl λ_ _ _ _ _ _ hr=>(zae (zao (i:=2) sc11.nd rfl (aj rfl) (zau (zax zac)))
  (zae (zaT (zbt (zak (x10.zg r) hr rfl x10.zm x10.zk x10.zb (zaa (jv 0) (zaa (jv 1) (zaa (jv 2) zac))))) (zai (zan (jv 2))) zaz)
  (zai (zan zgN))))
theorem o12 (F:Fun K "turning_of" "turning_of" s12 f d):Ok P w K mg base f d ["book", "title"] zbQ:=zcH rfl λr ih=>zaX F sc12 rfl rfl λ_ _ _ _ _ _ hr=>(zae (zbl (zbi (jv 0)) (zap (i:=2) sc12.nd rfl (aj rfl)) (zai (zaT (zeR hr (zaq (jv 2) zad) (jv 1)) (zai (zan (jv 2))) zaz)))
  (zai (zan zgN)))
theorem o13 (F:Fun K "only_small" "only_small" s13 f d) (x2:C2 P w K mg base) (yT:Ncl mg "TooGreat") (v_TooGreat:XcIn K "TooGreat" yT.xC):Ok P w K mg base f d ["shape"] zdi:=zcH rfl λr ih=>zaX F zAk rfl rfl λ_ _ _ _ _ _ hr=>(zae (zaT (zgs (zbt (zak (x2.zg r) hr rfl x2.zm x2.zk x2.zb (zaa (jv 0) zac)))) (zai (zhK v_TooGreat rfl yT.xm (zaa zhh zac))) zaz)
  (zai (zan (jv 0))))
theorem o14 (F:Fun K "with_sides" "with_sides" s14 f d) (x12:C12 P w K mg base) (x8:C8 P w K mg base) (b:Binds K d ["book", "way", "side"] []) (m:mg "with_sides" =ae (.ref f)) (n_t:mg "tuple" =none):Ok P w K mg base f d ["book", "way", "side"] zbO:=zcH rfl λr ih=>zaX F sc14 rfl rfl λ_ _ _ _ _ _ hr=>(zae (zge (i:=3) (N:=["inner", "book", "side"]) (k:=1) (fr:=[0,2]) sc14.nd rfl (aj rfl) ⟨rfl,by decide +kernel,rfl,rfl,rfl,rfl,rfl,rfl,rfl⟩ (zbi (zcc (jv 1) (zaC zad) zaL)) (λ_ _ _ _=>(zap (i:=0) (show bA [("inner" :Str),("book" :Str),("side" :Str)] from by decide +kernel) rfl (aj rfl))) (λ_ _ _ _=>zbK) (λ_ _ _ _=>(zak ih hr rfl m F.kp b (zaa (jv 1) (zaa (jv 0) (zaa (jv 2) zac))))))
  (zae (zao (i:=4) sc14.nd rfl (aj rfl) (zak (x12.zg r) hr rfl x12.zm x12.zk x12.zb (zaa (jv 0) (zaa (zaq (jv 1) zad) zac))))
  (zae (zaT (zxN (jv 4) zgN) (zai (zan (zaZ (zam (zaa (zaq (jv 1) zad) zac)) (zej rfl n_t (zaa (jv 3) zac))))) zaz)
  (zai (zan (zak (x8.zg r) hr rfl x8.zm x8.zk x8.zb (zaa (zaq (jv 4) (jv 2)) (zaa (jv 3) zac))))))))
theorem o15 (F:Fun K "goal" "goal" s15 f d) (x13:C13 P w K mg base) (x14:C14 P w K mg base) {t_RIGHT:bc}(g_RIGHT:mg "RIGHT" =ae (.int 2 t_RIGHT)):Ok P w K mg base f d ["book", "way"] zhk:=zcH rfl λr ih=>zaX F zzV rfl rfl λ_ _ _ _ _ _ hr=>(zai (zan (zak (x13.zg r) hr rfl x13.zm x13.zk x13.zb (zaa (zak (x14.zg r) hr rfl x14.zm x14.zk x14.zb (zaa (jv 0) (zaa (jv 1) (zaa (zfq rfl g_RIGHT) zac)))) zac))))
theorem o16 (F:Fun K "part_places" "part_places" s16 f d) (x12:C12 P w K mg base) (x7:C7 P w K mg base) (n_r:mg "range" =none) (n_l:mg "len" =none) {t_LEFT:bc}(g_LEFT:mg "LEFT" =ae (.int 1 t_LEFT)):Ok P w K mg base f d ["book", "way"] zbz:=zcH rfl λr ih=>zaX F sc16 rfl rfl λ_ _ _ _ _ _ hr=>(zae (zao (i:=2) sc16.nd rfl (aj rfl) (zak (x12.zg r) hr rfl x12.zm x12.zk x12.zb (zaa (jv 0) (zaa (zaq (jv 1) zad) zac))))
  (zae (zaT (zxN (jv 2) zgN) (zai (zan (zau (zch (N:=["number"]) (k:=1) (fr:=[]) ⟨rfl,by decide +kernel,rfl,rfl,rfl,rfl,rfl,rfl,rfl⟩ (zef rfl n_r (zaa (zhp (zbm rfl n_l (zaa (jv 1) zac)) zad) zac)) (λ_ _ _ _=>(zap (i:=0) (show bA [("number" :Str)] from by decide +kernel) rfl (aj rfl))) (λ_ _ _ _=>zbK) (λ_ _ _ _=>(zam (zaa (jv 0) zac))))))) zaz)
  (zai (zan (zak (x7.zg r) hr rfl x7.zm x7.zk x7.zb (zaa (zaq (jv 2) (zfq rfl g_LEFT)) zac))))))
theorem o17 (F:Fun K "open_turning" "open_turning" s17 f d) (x11:C11 P w K mg base) {t_LEFT:bc}(g_LEFT:mg "LEFT" =ae (.int 1 t_LEFT)):Ok P w K mg base f d ["book", "shape"] zbq:=zcH rfl λr ih=>zaX F sc17 rfl rfl λ_ _ _ _ _ _ hr=>(zae (zbl (zbi (jv 0)) (zap (i:=2) sc17.nd rfl (aj rfl)) (zai (zaT (zkO (zak (x11.zg r) hr rfl x11.zm x11.zk x11.zb (zaa (zaq (jv 2) (zfq rfl g_LEFT)) (zaa (jv 1) zac))) zgN) (zai (zan (jv 2))) zaz)))
  (zai (zan zgN)))
theorem o18 (F:Fun K "gather_open" "gather_open" s18 f d) (x17:C17 P w K mg base) (b:Binds K d ["book", "shape", "place", "found"] []) (m:mg "gather_open" =ae (.ref f)) (n_e:mg "enumerate" =none):Ok P w K mg base f d ["book", "shape", "place", "found"] zbn:=zcH rfl λr ih=>zaX F sc18 rfl rfl λ_ _ _ _ _ _ hr=>(zae (zao (i:=4) sc18.nd rfl (aj rfl) (zak (x17.zg r) hr rfl x17.zm x17.zk x17.zb (zaa (jv 0) (zaa (jv 1) zac))))
  (zae (zaT (zkO (jv 4) zgN) (zai (zbC (zbv (jv 3) (zaa (zam (zaa (jv 2) (zaa (zaq (jv 4) zad) zac))) zac)))) zaz)
  (zai (zbl (zgM rfl n_e (zcc (jv 1) (zaC zad) zaL)) (zdQ (zaE (zap (i:=5) sc18.nd rfl (aj rfl)) (zaE (zap (i:=6) sc18.nd rfl (aj rfl)) zcE)) (glS (glS gl0))) (zai (zbC (zak ih hr rfl m F.kp b (zaa (jv 0) (zaa (jv 6) (zaa (zaZ (jv 2) (zam (zaa (jv 5) zac))) (zaa (jv 3) zac)))))))))))
theorem o19 (F:Fun K "open_uses" "open_uses" s19 f d) (x18:C18 P w K mg base):Ok P w K mg base f d ["book", "shape"] zcQ:=zcH rfl λr ih=>zaX F sc19 rfl rfl λ_ _ _ _ _ _ hr=>(zae (zao (i:=2) sc19.nd rfl (aj rfl) (zau (zax zac)))
  (zae (zbC (zak (x18.zg r) hr rfl x18.zm x18.zk x18.zb (zaa (jv 0) (zaa (jv 1) (zaa (zam zac) (zaa (jv 2) zac))))))
  (zai (zan (jv 2)))))
theorem o20 (F:Fun K "places_of" "places_of" s20 f d):Ok P w K mg base f d ["pairs"] zcU:=zcH rfl λr ih=>zaX F zAp rfl rfl λ_ _ _ _ _ _ hr=>(zai (zan (zau (zch (N:=["pair"]) (k:=1) (fr:=[]) ⟨rfl,by decide +kernel,rfl,rfl,rfl,rfl,rfl,rfl,rfl⟩ (zbi (jv 0)) (λ_ _ _ _=>(zap (i:=0) (show bA [("pair" :Str)] from by decide +kernel) rfl (aj rfl))) (λ_ _ _ _=>zbK) (λ_ _ _ _=>(zaq (jv 0) zad))))))
theorem o21 (F:Fun K "turned_top" "turned_top" s21 f d) (x17:C17 P w K mg base) (x11:C11 P w K mg base) (n_t:mg "tuple" =none) {t_LEFT:bc}(g_LEFT:mg "LEFT" =ae (.int 1 t_LEFT)):Ok P w K mg base f d ["book", "shape"] zcl:=zcH rfl λr ih=>zaX F sc21 rfl rfl λ_ _ _ _ _ _ hr=>(zae (zao (i:=2) sc21.nd rfl (aj rfl) (zak (x17.zg r) hr rfl x17.zm x17.zk x17.zb (zaa (jv 0) (zaa (jv 1) zac))))
  (zai (zan (zaZ (zam (zaa (zaq (jv 2) zad) zac)) (zej rfl n_t (zaa (zak (x11.zg r) hr rfl x11.zm x11.zk x11.zb (zaa (zaq (jv 2) (zfq rfl g_LEFT)) (zaa (jv 1) zac))) zac))))))
theorem o22 (F:Fun K "way_within" "way_within" s22 f d) (x21:C21 P w K mg base) (x16:C16 P w K mg base) (b:Binds K d ["book", "shape", "place", "wanted"] []) (m:mg "way_within" =ae (.ref f)) (n_z:mg "zip" =none) (n_t:mg "tuple" =none):Ok P w K mg base f d ["book", "shape", "place", "wanted"] zaY:=zcH rfl λr ih=>zaX F sc22 rfl rfl λ_ _ _ _ _ _ hr=>(zae (zao (i:=4) sc22.nd rfl (aj rfl) (zyv (zwJ hr (jv 2) (jv 3)) (zak (x21.zg r) hr rfl x21.zm x21.zk x21.zb (zaa (jv 0) (zaa (jv 1) zac))) (jv 1)))
  (zae (zao (i:=5) sc22.nd rfl (aj rfl) (zau (zax zac)))
  (zae (zbl (ziB rfl n_z (zak (x16.zg r) hr rfl x16.zm x16.zk x16.zb (zaa (jv 0) (zaa (jv 4) zac))) (zcc (jv 4) (zaC zad) zaL)) (zdQ (zaE (zap (i:=6) sc22.nd rfl (aj rfl)) (zaE (zap (i:=7) sc22.nd rfl (aj rfl)) zcE)) (glS (glS gl0))) (zai (zbC (zbv (jv 5) (zaa (zak ih hr rfl m F.kp b (zaa (jv 0) (zaa (jv 7) (zaa (zaZ (jv 2) (jv 6)) (zaa (jv 3) zac))))) zac)))))
  (zai (zan (zaZ (zam (zaa (zaq (jv 4) zad) zac)) (zej rfl n_t (zaa (jv 5) zac))))))))
theorem o23 (F:Fun K "way_with" "way_with" s23 f d) (x22:C22 P w K mg base) (n_d:mg "dict" =none):Ok P w K mg base f d ["book", "shape", "places"] zdt:=zcH rfl λr ih=>zaX F zzW rfl rfl λ_ _ _ _ _ _ hr=>(zai (zan (zak (x22.zg r) hr rfl x22.zm x22.zk x22.zb (zaa (jv 0) (zaa (jv 1) (zaa (zam zac) (zaa (zrp hr rfl n_d (zch (N:=["place"]) (k:=1) (fr:=[]) ⟨rfl,by decide +kernel,rfl,rfl,rfl,rfl,rfl,rfl,rfl⟩ (zbi (jv 2)) (λ_ _ _ _=>(zap (i:=0) (show bA [("place" :Str)] from by decide +kernel) rfl (aj rfl))) (λ_ _ _ _=>zbK) (λ_ _ _ _=>(zam (zaa (jv 0) (zaa zdE zac)))))) zac)))))))
theorem o24 (F:Fun K "way_of" "way_of" s24 f d) (x20:C20 P w K mg base) (x23:C23 P w K mg base) (x19:C19 P w K mg base) (y_NoUse:Ncl mg "NoUse") (v_NoUse:XcIn K "NoUse" y_NoUse.xC):Ok P w K mg base f d ["book", "shape", "places"] zdB:=zcH rfl λr ih=>zaX F sc24 rfl rfl λ_ _ _ _ _ _ hr=>(zae (zao (i:=3) sc24.nd rfl (aj rfl) (zak (x20.zg r) hr rfl x20.zm x20.zk x20.zb (zaa (zak (x19.zg r) hr rfl x19.zm x19.zk x19.zb (zaa (jv 0) (zaa (jv 1) zac))) zac)))
  (zae (zbl (zbi (jv 2)) (zap (i:=4) sc24.nd rfl (aj rfl)) (zai (zaT (zlA hr (jv 4) (jv 3)) (zai (zhK v_NoUse rfl y_NoUse.xm (zaa zhh zac))) zaz)))
  (zai (zan (zak (x23.zg r) hr rfl x23.zm x23.zk x23.zb (zaa (jv 0) (zaa (jv 1) (zaa (jv 2) zac))))))))
theorem o25 (F:Fun K "road_of" "road_of" s25 f d) (x24:C24 P w K mg base) (x15:C15 P w K mg base):Ok P w K mg base f d ["book", "shape", "places"] zcs:=zcH rfl λr ih=>zaX F sc25 rfl rfl λ_ _ _ _ _ _ hr=>(zae (zao (i:=3) sc25.nd rfl (aj rfl) (zau (zax zac)))
  (zae (zao (i:=4) sc25.nd rfl (aj rfl) (jv 1))
  (zae (zbl (zbi (jv 2)) (zap (i:=5) sc25.nd rfl (aj rfl)) (zae (zao (i:=6) sc25.nd rfl (aj rfl) (zak (x24.zg r) hr rfl x24.zm x24.zk x24.zb (zaa (jv 0) (zaa (jv 4) (zaa (zau (zax (zaa (jv 5) zac))) zac)))))
  (zae (zao (i:=4) sc25.nd rfl (aj rfl) (zak (x15.zg r) hr rfl x15.zm x15.zk x15.zb (zaa (jv 0) (zaa (jv 6) zac))))
  (zai (zbC (zbv (jv 3) (zaa (jv 6) zac)))))))
  (zai (zan (zam (zaa (jv 1) (zaa (jv 3) zac))))))))
theorem o26 (F:Fun K "_law_cell" "_law_cell" s26 f d) (n_l:mg "len" =none):Ok P w K mg base f d ["script", "k"] zaO:=zcH rfl λr ih=>zaX F zzN rfl rfl λ_ _ _ _ _ _ hr=>(zae (zaT (zoS (jv 1) (zbm rfl n_l (zaa (jv 0) zac))) (zai (zan (zaq (jv 0) (jv 1)))) zaz)
  (zai (zan zad)))
theorem o27 (F:Fun K "_law_words" "_law_words" s27 f d) (n_r:mg "range" =none) (n_l:mg "len" =none) (n_n:mg "int" =none):Ok P w K mg base f d ["one", "two", "great"] zbP:=zcH rfl λr ih=>zaX F sc27 rfl rfl λ_ _ _ _ _ _ hr=>(zae (zao (i:=3) sc27.nd rfl (b4 rfl) zhh)
  (zae (zao (i:=4) sc27.nd rfl (aj rfl) (zcF (jv 1) (zvj zad zad)))
  (zae (zao (i:=5) sc27.nd rfl (b4 rfl) (zau (zax zac)))
  (zae (zbl (zef rfl n_r (zaa (zaZ zad (zcF (jv 0) zad)) zac)) (zap (i:=6) sc27.nd rfl (b4 rfl)) (zae (zbC (zbv (jv 5) (zaa (zcF (jv 4) zad) zac)))
  (zai (zao (i:=4) sc27.nd rfl (aj rfl) (zed (jv 4) zad)))))
  (zae (zao (i:=7) sc27.nd rfl (b4 rfl) (zcF (zed (jv 0) zad) (zbm rfl n_l (zaa (jv 5) zac))))
  (zae (zao (i:=8) sc27.nd rfl (aj rfl) (zau (zax zac)))
  (zae (zbl (zef rfl n_r (zaa zad zac)) (zap (i:=6) sc27.nd rfl (b4 rfl)) (zae (zao (i:=9) sc27.nd rfl (aj rfl) (zrv zhh (zch (N:=["j", "signs", "base", "k", "at"]) (k:=1) (fr:=[3,5,6,7]) ⟨rfl,by decide +kernel,rfl,rfl,rfl,rfl,rfl,rfl,rfl⟩ (zef rfl n_r (zaa (zbm rfl n_l (zaa (jv 5) zac)) zac)) (λ_ _ _ _=>(zap (i:=0) (show bA [("j" :Str),("signs" :Str),("base" :Str),("k" :Str),("at" :Str)] from by decide +kernel) rfl (aj rfl))) (λ_ _ _ _=>zbK) (λ_ _ _ _=>(zaq (jv 1) (zcF (zaZ (zaq (jv 2) (jv 0)) (zsj (jv 3) (zsM rfl n_n (zaa (znv hr (jv 0) (jv 4)) zac)))) zad))))))
  (zae (zaT (zbt (jv 2)) (zai (zao (i:=9) sc27.nd rfl (aj rfl) (zaZ (zqL (zaq (jv 9) zad)) (zcc (jv 9) (zaC zad) zaL)))) zaz)
  (zai (zbC (zbv (jv 8) (zaa (jv 9) zac)))))))
  (zae (zaT (JW.jt (znf (zeR hr (zcF (zed (jv 0) zad) zad) zad) (zkf (zgs (zbt (jv 2)))))) (zai (zao (i:=8) sc27.nd rfl (aj rfl) (zau (zgj (zpX (jv 8) zaL (zaC zad)) (zax (zaa (zaq (jv 8) zad) (zaa (zaq (jv 8) zad) (zaa (zaq (jv 8) zad) zac)))))))) zaz)
  (zai (zan (jv 8)))))))))))
theorem o28 (F:Fun K "_law_count" "_law_count" s28 f d) (b:Binds K d ["side"] []) (m:mg "_law_count" =ae (.ref f)) (n_i:mg "isinstance" =none) (n_n:mg "int" =none) (n_u:mg "sum" =none):Ok P w K mg base f d ["side"] zaF:=zcH rfl λr ih=>zaX F zAs rfl rfl λ_ _ _ _ _ _ hr=>(zae (zaT (zbt (zdR rfl n_i rfl n_n cy (jv 0) (by decide) (by decide) (zmZ _ (by simp)))) (zai (zan zad)) zaz)
  (zai (zan (zpC rfl n_u (zch (N:=["one"]) (k:=1) (fr:=[]) ⟨rfl,by decide +kernel,rfl,rfl,rfl,rfl,rfl,rfl,rfl⟩ (zbi (zcc (jv 0) (zaC zad) zaL)) (λ_ _ _ _=>(zap (i:=0) (show bA [("one" :Str)] from by decide +kernel) rfl (aj rfl))) (λ_ _ _ _=>zbK) (λ_ _ _ _=>(zak ih hr rfl m F.kp b (zaa (jv 0) zac))))))))
theorem o29 (F:Fun K "_law_filled" "_law_filled" s29 f d) (b:Binds K d ["side", "things"] []) (m:mg "_law_filled" =ae (.ref f)) (n_i:mg "isinstance" =none) (n_n:mg "int" =none) (n_t:mg "tuple" =none):Ok P w K mg base f d ["side", "things"] zaW:=zcH rfl λr ih=>zaX F zzC rfl rfl λ_ _ _ _ _ _ hr=>(zae (zaT (zbt (zdR rfl n_i rfl n_n cy (jv 0) (by decide) (by decide) (zmZ _ (by simp)))) (zai (zan (zaq (jv 1) (jv 0)))) zaz)
  (zai (zan (zaZ (zcc (jv 0) zaL (zaC zad)) (zjG rfl n_t (zch (N:=["one", "things"]) (k:=1) (fr:=[1]) ⟨rfl,by decide +kernel,rfl,rfl,rfl,rfl,rfl,rfl,rfl⟩ (zbi (zcc (jv 0) (zaC zad) zaL)) (λ_ _ _ _=>(zap (i:=0) (show bA [("one" :Str),("things" :Str)] from by decide +kernel) rfl (aj rfl))) (λ_ _ _ _=>zbK) (λ_ _ _ _=>(zak ih hr rfl m F.kp b (zaa (jv 0) (zaa (jv 1) zac))))))))))
theorem o30 (F:Fun K "_law_lefts" "_law_lefts" s30 f d):Ok P w K mg base f d ["way", "head", "c", "d"] zcu:=zcH rfl λr ih=>zaX F zAc rfl rfl λ_ _ _ _ _ _ hr=>(zae (zaT (zeR hr (jv 0) zad) (zai (zan (zau (zax (zaa (zam (zaa (jv 1) (zaa zad zac))) zac))))) zaz)
  (zae (zaT (zeR hr (jv 0) zad) (zai (zan (zau (zax (zaa (zam (zaa (jv 1) (zaa zad (zaa zad zac)))) zac))))) zaz)
  (zae (zaT (zeR hr (jv 0) zad) (zai (zan (zau (zax (zaa (zam (zaa (jv 1) (zaa (zam (zaa (jv 2) zac)) zac))) (zaa (zam (zaa (jv 1) (zaa (zam (zaa (jv 3) (zaa zad zac))) zac))) zac)))))) zaz)
  (zae (zaT (zeR hr (jv 0) zad) (zai (zan (zau (zax (zaa (zam (zaa (jv 1) (zaa (zam (zaa (jv 2) zac)) (zaa zad zac)))) (zaa (zam (zaa (jv 1) (zaa (zam (zaa (jv 3) (zaa zad zac))) (zaa zad zac)))) zac)))))) zaz)
  (zae (zaT (zeR hr (jv 0) zad) (zai (zan (zau (zax (zaa (zam (zaa (jv 1) (zaa (zam (zaa (jv 3) (zaa (zam (zaa (jv 3) (zaa zad zac))) zac))) (zaa zad (zaa zad zac))))) (zaa (zam (zaa (jv 1) (zaa (zam (zaa (jv 3) (zaa (zam (zaa (jv 2) zac)) zac))) (zaa zad (zaa zad zac))))) zac)))))) zaz)
  (zai (zan (zau (zax (zaa (zam (zaa (jv 1) zac)) zac))))))))))
theorem o31 (F:Fun K "_law_rights" "_law_rights" s31 f d):Ok P w K mg base f d ["many", "w", "grows"] zbY:=zcH rfl λr ih=>zaX F sc31 rfl rfl λ_ _ _ _ _ _ hr=>(zae (zaT (zeR hr (jv 0) zad) (zai (zan (zau (zax (zaa (zam (zaa (zaq (jv 1) zad) zac)) (zaa (zam (zaa (zaq (jv 1) zad) zac)) (zaa (zam (zaa (zaq (jv 1) zad) (zaa (zam (zaa (zaq (jv 1) zad) zac)) zac))) zac))))))) zaz)
  (zae (zaT (zeR hr (jv 0) zad) (zae (zao (i:=3) sc31.nd rfl (aj rfl) (zau (zax (zaa zad (zaa (zam (zaa (zaq (jv 1) zad) (zaa zad zac))) (zaa (zam (zaa (zaq (jv 1) zad) (zaa zad (zaa zad zac)))) (zaa (zam (zaa (zaq (jv 1) zad) (zaa (zam (zaa (zaq (jv 1) zad) (zaa zad zac))) (zaa (zam (zaa (zaq (jv 1) zad) zac)) zac)))) zac)))))))
  (zae (zaT (zbt (jv 2)) (zai (zan (zau (zdH (jv 3) (zax (zaa (zam (zaa (zaq (jv 1) zad) (zaa zad zac))) (zaa (zam (zaa (zaq (jv 1) zad) (zaa (zam (zaa (zaq (jv 1) zad) (zaa zad zac))) (zaa zad zac)))) (zaa (zam (zaa (zaq (jv 1) zad) (zaa (zam (zaa (zaq (jv 1) zad) (zaa zad zac))) zac))) zac)))))))) zaz)
  (zai (zan (zau (zdH (jv 3) (zax (zaa (zam (zaa (zaq (jv 1) zad) zac)) (zaa (zam (zaa (zaq (jv 1) zad) (zaa (zam (zaa (zaq (jv 1) zad) zac)) zac))) zac))))))))) zaz)
  (zae (zaT (zeR hr (jv 0) zad) (zae (zao (i:=3) sc31.nd rfl (aj rfl) (zau (zax (zaa (zam (zaa (zaq (jv 1) zad) (zaa (zam (zaa (zaq (jv 1) zad) (zaa zad (zaa zad zac)))) (zaa zad zac)))) (zaa (zam (zaa (zaq (jv 1) zad) (zaa zad (zaa (zam (zaa (zaq (jv 1) zad) (zaa zad (zaa zad zac)))) zac)))) (zaa (zam (zaa (zaq (jv 1) zad) (zaa (zam (zaa (zaq (jv 1) zad) (zaa zad (zaa zad zac)))) (zaa (zam (zaa (zaq (jv 1) zad) (zaa zad (zaa zad zac)))) zac)))) zac))))))
  (zae (zaT (zbt (jv 2)) (zai (zan (zau (zdH (jv 3) (zax (zaa (zam (zaa (zaq (jv 1) zad) (zaa (zam (zaa (zaq (jv 1) zad) (zaa (zam (zaa (zaq (jv 1) zad) (zaa zad (zaa zad zac)))) (zaa zad zac)))) zac))) (zaa (zam (zaa (zaq (jv 1) zad) (zaa zad (zaa (zam (zaa (zaq (jv 1) zad) (zaa zad (zaa zad zac)))) zac)))) zac))))))) zaz)
  (zai (zan (zau (zdH (jv 3) (zax (zaa zad (zaa zad (zaa (zam (zaa (zaq (jv 1) zad) (zaa zad (zaa zad zac)))) (zaa (zam (zaa (zaq (jv 1) zad) zac)) zac))))))))))) zaz)
  (zae (zao (i:=3) sc31.nd rfl (aj rfl) (zau (zax (zaa (zam (zaa (zaq (jv 1) zad) (zaa zad (zaa zad zac)))) (zaa (zam (zaa (zaq (jv 1) zad) (zaa zad (zaa zad zac)))) (zaa (zam (zaa (zaq (jv 1) zad) (zaa (zam (zaa (zaq (jv 1) zad) (zaa zad zac))) (zaa zad zac)))) (zaa (zam (zaa (zaq (jv 1) zad) (zaa (zam (zaa (zaq (jv 1) zad) (zaa zad (zaa zad zac)))) (zaa zad zac)))) zac)))))))
  (zae (zaT (zbt (jv 2)) (zai (zan (zau (zdH (jv 3) (zax (zaa (zam (zaa (zaq (jv 1) zad) (zaa zad (zaa zad zac)))) (zaa (zam (zaa (zaq (jv 1) zad) (zaa (zam (zaa (zaq (jv 1) zad) (zaa zad (zaa zad zac)))) zac))) zac))))))) zaz)
  (zai (zan (zau (zdH (jv 3) (zax (zaa zad (zaa zad (zaa (zam (zaa (zaq (jv 1) zad) (zaa zad zac))) (zaa (zam (zaa (zaq (jv 1) zad) zac)) zac))))))))))))))
theorem o32 (F:Fun K "_law_book" "_law_book" s32 f d) (x30:C30 P w K mg base) (x31:C31 P w K mg base) (x26:C26 P w K mg base) (x28:C28 P w K mg base) (n_r:mg "range" =none) (n_e:mg "enumerate" =none) (n_l:mg "len" =none):Ok P w K mg base f d ["script", "k", "w", "titles", "grows"] zbu:=zcH rfl λr ih=>zaX F sc32 rfl rfl λ_ _ _ _ _ _ hr=>(zae (zao (i:=5) sc32.nd rfl (aj rfl) (zau (zax zac)))
  (zae (zbl (zef rfl n_r (zaa zad zac)) (zap (i:=6) sc32.nd rfl (aj rfl)) (zae (zao (i:=7) sc32.nd rfl (aj rfl) (zak (x30.zg r) hr rfl x30.zm x30.zk x30.zb (zaa (zcF (zak (x26.zg r) hr rfl x26.zm x26.zk x26.zb (zaa (jv 0) (zaa (zaZ (jv 1) (jv 6)) zac))) zad) (zaa (zaq (jv 2) (jv 6)) (zaa (zaq (jv 2) zad) (zaa (zaq (jv 2) zad) zac))))))
  (zai (zbl (zgM rfl n_e (jv 7)) (zdQ (zaE (zap (i:=8) sc32.nd rfl (aj rfl)) (zaE (zap (i:=9) sc32.nd rfl (aj rfl)) zcE)) (glS (glS gl0))) (zae (zao (i:=10) sc32.nd rfl (aj rfl) (zak (x31.zg r) hr rfl x31.zm x31.zk x31.zb (zaa (zak (x28.zg r) hr rfl x28.zm x28.zk x28.zb (zaa (jv 9) zac)) (zaa (jv 2) (zaa (jv 4) zac)))))
  (zae (zao (i:=11) sc32.nd rfl (aj rfl) (zak (x26.zg r) hr rfl x26.zm x26.zk x26.zb (zaa (jv 0) (zaa (zaZ (zaZ (zaZ (jv 1) zad) (zsj zad (jv 6))) (jv 8)) zac))))
  (zai (zbC (zbv (jv 5) (zaa (zam (zaa (zaq (jv 3) (zbm rfl n_l (zaa (jv 5) zac))) (zaa (jv 9) (zaa (zaq (jv 10) (zcF (jv 11) (zbm rfl n_l (zaa (jv 10) zac)))) zac)))) zac))))))))))
  (zai (zan (jv 5)))))
theorem o33 (F:Fun K "_law_plan" "_law_plan" s33 f d) (x28:C28 P w K mg base) (n_l:mg "len" =none) (n_m:mg "min" =none):Ok P w K mg base f d ["cells", "book", "w", "room"] zcJ:=zcH rfl λr ih=>zaX F sc33 rfl rfl λ_ _ _ _ _ _ hr=>(zae (zao (i:=4) sc33.nd rfl (aj rfl) (zau (zax zac)))
  (zae (zao (i:=5) sc33.nd rfl (aj rfl) zad)
  (zae (zbl (zbi (jv 0)) (zap (i:=6) sc33.nd rfl (aj rfl)) (zae (zao (i:=7) sc33.nd rfl (aj rfl) (zcF (jv 6) zad))
  (zae (zao (i:=8) sc33.nd rfl (aj rfl) (zod (zax (zaa zad (zaa zad (zaa zad (zaa zad zac))))) (zoX rfl n_m (zaa (jv 7) (zaa zad zac)))))
  (zae (zao (i:=9) sc33.nd rfl (aj rfl) (zam (zaa (zeX zad) (zaa zad (zaa (zaq (jv 2) (zod (zax (zaa zad (zaa zad (zaa zad (zaa zad zac))))) (zoX rfl n_m (zaa (jv 7) (zaa zad zac))))) zac)))))
  (zae (zaT (zms (jv 7) zad) (zae (zao (i:=10) sc33.nd rfl (aj rfl) (zcF (zed (jv 6) zad) (zbm rfl n_l (zaa (jv 1) zac))))
  (zae (zao (i:=8) sc33.nd rfl (aj rfl) (zak (x28.zg r) hr rfl x28.zm x28.zk x28.zb (zaa (zaq (zaq (jv 1) (jv 10)) zad) zac)))
  (zae (zao (i:=9) sc33.nd rfl (aj rfl) (zam (zaa (jv 10) (zaa (zcF (zed (jv 6) zad) zad) (zaa zhh zac)))))
  (zai (zao (i:=5) sc33.nd rfl (aj rfl) (zaZ (jv 5) zad)))))) zaz)
  (zai (zaT (JW.jt (znf (zms (jv 3) zad) (zkf (zoS (jv 5) zad)))) (zae (zao (i:=3) sc33.nd rfl (aj rfl) (zhp (jv 3) zad))
  (zae (zao (i:=4) sc33.nd rfl (aj rfl) (zau (zuF (zwd (zax (zaa (zam (zaa (zeX zad) (zaa zad (zaa (zaq (jv 2) zad) (zaa (zau (zax zac)) zac))))) zac)) (zhp (jv 8) (zbm rfl n_l (zaa (jv 4) zac)))) (jv 4))))
  (zae (zao (i:=11) sc33.nd rfl (aj rfl) (zhp (zbm rfl n_l (zaa (jv 4) zac)) (jv 8)))
  (zai (zao (i:=4) sc33.nd rfl (aj rfl) (zau (zgj (zpX (jv 4) zaL (zaC (jv 11))) (zax (zaa (zaZ (jv 9) (zam (zaa (zcc (jv 4) (zaC (jv 11)) zaL) zac))) zac))))))))) zaz)))))))
  (zae (zmg (zms (zbm rfl n_l (zaa (jv 4) zac)) zad) (zai (zao (i:=4) sc33.nd rfl (aj rfl) (zau (zgj (zpX (jv 4) zaL (zaC (zeX zad))) (zax (zaa (zam (zaa (zeX zad) (zaa zad (zaa (zaq (jv 2) zad) (zaa (zcc (jv 4) (zaC (zeX zad)) zaL) zac))))) zac)))))))
  (zai (zan (zod (zdH (jv 4) (zax (zaa (zam (zaa (zeX zad) (zaa zad (zaa (zaq (jv 2) zad) (zaa (zau (zax zac)) zac))))) zac))) zad)))))))
theorem o34 (F:Fun K "_law_way" "_law_way" s34 f d) (x29:C29 P w K mg base) (b:Binds K d ["plan", "book", "by"] []) (m:mg "_law_way" =ae (.ref f)) (n_t:mg "tuple" =none):Ok P w K mg base f d ["plan", "book", "by"] zcI:=zcH rfl λr ih=>zaX F sc34 rfl rfl λ_ _ _ _ _ _ hr=>(zae (zrR (jv 0) (zdQ (zaE (zap (i:=3) sc34.nd rfl (aj rfl)) (zaE (zap (i:=4) sc34.nd rfl (aj rfl)) (zaE (zap (i:=5) sc34.nd rfl (aj rfl)) (zaE (zap (i:=6) sc34.nd rfl (aj rfl)) zcE)))) (glS (glS (glS (glS gl0))))))
  (zae (zge (i:=7) (N:=["one", "book", "by"]) (k:=1) (fr:=[1,2]) sc34.nd rfl (aj rfl) ⟨rfl,by decide +kernel,rfl,rfl,rfl,rfl,rfl,rfl,rfl⟩ (zbi (jv 6)) (λ_ _ _ _=>(zap (i:=0) (show bA [("one" :Str),("book" :Str),("by" :Str)] from by decide +kernel) rfl (aj rfl))) (λ_ _ _ _=>zbK) (λ_ _ _ _=>(zak ih hr rfl m F.kp b (zaa (jv 0) (zaa (jv 1) (zaa (jv 2) zac))))))
  (zae (zaT (zoS (jv 3) zad) (zai (zan (zaZ (zam (zaa (jv 5) zac)) (zej rfl n_t (zaa (jv 7) zac))))) zaz)
  (zae (zaT (zeR hr (zcF (zed (jv 4) (jv 2)) zad) zad) (zai (zan (zaZ (zam (zaa (zaq (zaq (jv 1) (jv 3)) zad) zac)) (zej rfl n_t (zaa (jv 7) zac))))) zaz)
  (zai (zan (zak (x29.zg r) hr rfl x29.zm x29.zk x29.zb (zaa (zaq (zaq (jv 1) (jv 3)) zad) (zaa (jv 7) zac)))))))))
theorem o35 (F:Fun K "_law_made" "_law_made" s35 f d) (b:Binds K d ["book", "way", "which"] []) (m:mg "_law_made" =ae (.ref f)) (x29:C29 P w K mg base) (n_t:mg "tuple" =none):Ok P w K mg base f d ["book", "way", "which"] zbN:=zcH rfl λr ih=>zaX F sc35 rfl rfl λ_ _ _ _ _ _ hr=>(zae (zge (i:=3) (N:=["one", "book", "which"]) (k:=1) (fr:=[0,2]) sc35.nd rfl (aj rfl) ⟨rfl,by decide +kernel,rfl,rfl,rfl,rfl,rfl,rfl,rfl⟩ (zbi (zcc (jv 1) (zaC zad) zaL)) (λ_ _ _ _=>(zap (i:=0) (show bA [("one" :Str),("book" :Str),("which" :Str)] from by decide +kernel) rfl (aj rfl))) (λ_ _ _ _=>zbK) (λ_ _ _ _=>(zak ih hr rfl m F.kp b (zaa (jv 1) (zaa (jv 0) (zaa (jv 2) zac))))))
  (zae (zbl (zbi (jv 0)) (zap (i:=4) sc35.nd rfl (aj rfl)) (zai (zaT (zeR hr (zaq (jv 4) zad) (zaq (jv 1) zad)) (zai (zan (zak (x29.zg r) hr rfl x29.zm x29.zk x29.zb (zaa (zaq (jv 4) (jv 2)) (zaa (jv 3) zac))))) zaz)))
  (zai (zan (zaZ (zcc (jv 1) zaL (zaC zad)) (zej rfl n_t (zaa (jv 3) zac)))))))
theorem o36 (F:Fun K "_law_places" "_law_places" s36 f d) (b:Binds K d ["t"] []) (m:mg "_law_places" =ae (.ref f)) (n_i:mg "isinstance" =none) (n_n:mg "int" =none) (n_e:mg "enumerate" =none):Ok P w K mg base f d ["t"] zav:=zcH rfl λr ih=>zaX F sc36 rfl rfl λ_ _ _ _ _ _ hr=>(zae (zao (i:=1) sc36.nd rfl (aj rfl) (zau (zax (zaa (zam zac) zac))))
  (zae (zaT (zgs (zbt (zdR rfl n_i rfl n_n cy (jv 0) (by decide) (by decide) (zmZ _ (by simp))))) (zai (zbl (zgM rfl n_e (zcc (jv 0) (zaC zad) zaL)) (zdQ (zaE (zap (i:=2) sc36.nd rfl (b4 rfl)) (zaE (zap (i:=3) sc36.nd rfl (aj rfl)) zcE)) (glS (glS gl0))) (zai (zao (i:=1) sc36.nd rfl (aj rfl) (zau (zdH (jv 1) (zch (N:=["place", "i"]) (k:=1) (fr:=[2]) ⟨rfl,by decide +kernel,rfl,rfl,rfl,rfl,rfl,rfl,rfl⟩ (zbi (zak ih hr rfl m F.kp b (zaa (jv 3) zac))) (λ_ _ _ _=>(zap (i:=0) (show bA [("place" :Str),("i" :Str)] from by decide +kernel) rfl (aj rfl))) (λ_ _ _ _=>zbK) (λ_ _ _ _=>(zaZ (zam (zaa (jv 1) zac)) (jv 0)))))))))) zaz)
  (zai (zan (jv 1)))))
theorem o37 (F:Fun K "_law_at" "_law_at" s37 f d):Ok P w K mg base f d ["t", "place"] zbp:=zcH rfl λr ih=>zaX F sc37 rfl rfl λ_ _ _ _ _ _ hr=>(zae (zbl (zbi (jv 1)) (zap (i:=2) sc37.nd rfl (aj rfl)) (zai (zao (i:=0) sc37.nd rfl (aj rfl) (zaq (jv 0) (zaZ (jv 2) zad)))))
  (zai (zan (jv 0))))
theorem o38 (F:Fun K "_law_stands" "_law_stands" s38 f d) (b:Binds K d ["left", "shape"] []) (m:mg "_law_stands" =ae (.ref f)) (n_i:mg "isinstance" =none) (n_n:mg "int" =none) (n_a:mg "all" =none) (n_l:mg "len" =none) (n_z:mg "zip" =none):Ok P w K mg base f d ["left", "shape"] zaK:=zcH rfl λr ih=>zaX F zAb rfl rfl λ_ _ _ _ _ _ hr=>(zae (zaT (zbt (zdR rfl n_i rfl n_n cy (jv 0) (by decide) (by decide) (zmZ _ (by simp)))) (zai (zan zdE)) zaz)
  (zae (zaT (JW.jt (zjo (zhM hr (zaq (jv 0) zad) (zaq (jv 1) zad)) (zhj (zhM hr (zbm rfl n_l (zaa (jv 0) zac)) (zbm rfl n_l (zaa (jv 1) zac)))))) (zai (zan zdE)) zaz)
  (zai (zan (zub rfl n_a (zch (N:=["one", "other"]) (k:=2) (fr:=[]) ⟨rfl,by decide +kernel,rfl,rfl,rfl,rfl,rfl,rfl,rfl⟩ (ziB rfl n_z (zcc (jv 0) (zaC zad) zaL) (zcc (jv 1) (zaC zad) zaL)) (λ_ _ _ _=>(zdQ (zaE (zap (i:=0) (show bA [("one" :Str),("other" :Str)] from by decide +kernel) rfl (aj rfl)) (zaE (zap (i:=1) (show bA [("one" :Str),("other" :Str)] from by decide +kernel) rfl (aj rfl)) zcE)) (glS (glS gl0)))) (λ_ _ _ _=>zbK) (λ_ _ _ _=>(zak ih hr rfl m F.kp b (zaa (jv 0) (zaa (jv 1) zac))))))))))
theorem o39 (F:Fun K "_law_open" "_law_open" s39 f d) (x36:C36 P w K mg base) (x38:C38 P w K mg base) (x37:C37 P w K mg base):Ok P w K mg base f d ["book", "shape"] zbI:=zcH rfl λr ih=>zaX F sc39 rfl rfl λ_ _ _ _ _ _ hr=>(zae (zao (i:=2) sc39.nd rfl (aj rfl) (zau (zax zac)))
  (zae (zbl (zbi (zak (x36.zg r) hr rfl x36.zm x36.zk x36.zb (zaa (jv 1) zac))) (zap (i:=3) sc39.nd rfl (aj rfl)) (zai (zbl (zbi (jv 0)) (zap (i:=4) sc39.nd rfl (aj rfl)) (zai (zaT (zbt (zak (x38.zg r) hr rfl x38.zm x38.zk x38.zb (zaa (zaq (jv 4) zad) (zaa (zak (x37.zg r) hr rfl x37.zm x37.zk x37.zb (zaa (jv 1) (zaa (jv 3) zac))) zac)))) (zai (zbC (zbv (jv 2) (zaa (zam (zaa (jv 3) (zaa (zaq (jv 4) zad) zac))) zac)))) zaz)))))
  (zai (zan (jv 2)))))
theorem o40 (F:Fun K "_law_things" "_law_things" s40 f d) (b:Binds K d ["left", "t"] []) (m:mg "_law_things" =ae (.ref f)) (n_i:mg "isinstance" =none) (n_n:mg "int" =none) (n_z:mg "zip" =none):Ok P w K mg base f d ["left", "t"] zaV:=zcH rfl λr ih=>zaX F sc40 rfl rfl λ_ _ _ _ _ _ hr=>(zae (zaT (zbt (zdR rfl n_i rfl n_n cy (jv 0) (by decide) (by decide) (zmZ _ (by simp)))) (zai (zan (zau (zax (zaa (jv 1) zac))))) zaz)
  (zae (zao (i:=2) sc40.nd rfl (aj rfl) (zau (zax zac)))
  (zae (zbl (ziB rfl n_z (zcc (jv 0) (zaC zad) zaL) (zcc (jv 1) (zaC zad) zaL)) (zdQ (zaE (zap (i:=3) sc40.nd rfl (aj rfl)) (zaE (zap (i:=4) sc40.nd rfl (aj rfl)) zcE)) (glS (glS gl0))) (zai (zao (i:=2) sc40.nd rfl (aj rfl) (zaZ (jv 2) (zak ih hr rfl m F.kp b (zaa (jv 3) (zaa (jv 4) zac)))))))
  (zai (zan (jv 2))))))
theorem o41 (F:Fun K "_law_put" "_law_put" s41 f d) (b:Binds K d ["t", "place", "other"] []) (m:mg "_law_put" =ae (.ref f)):Ok P w K mg base f d ["t", "place", "other"] zce:=zcH rfl λr ih=>zaX F sc41 rfl rfl λ_ _ _ _ _ _ hr=>(zae (zaT (zeR hr (jv 1) (zam zac)) (zai (zan (jv 2))) zaz)
  (zae (zao (i:=3) sc41.nd rfl (aj rfl) (zaZ (zaq (jv 1) zad) zad))
  (zai (zan (zaZ (zaZ (zcc (jv 0) zaL (zaC (jv 3))) (zam (zaa (zak ih hr rfl m F.kp b (zaa (zaq (jv 0) (jv 3)) (zaa (zcc (jv 1) (zaC zad) zaL) (zaa (jv 2) zac)))) zac))) (zcc (jv 0) (zaC (zaZ (jv 3) zad)) zaL))))))
theorem o42 (F:Fun K "_law_turned" "_law_turned" s42 f d) (x37:C37 P w K mg base) (x38:C38 P w K mg base) (x41:C41 P w K mg base) (x29:C29 P w K mg base) (x40:C40 P w K mg base):Ok P w K mg base f d ["book", "shape", "place"] zbX:=zcH rfl λr ih=>zaX F sc42 rfl rfl λ_ _ _ _ _ _ hr=>(zae (zao (i:=3) sc42.nd rfl (aj rfl) (zak (x37.zg r) hr rfl x37.zm x37.zk x37.zb (zaa (jv 1) (zaa (jv 2) zac))))
  (zae (zbl (zbi (jv 0)) (zap (i:=4) sc42.nd rfl (aj rfl)) (zai (zaT (zbt (zak (x38.zg r) hr rfl x38.zm x38.zk x38.zb (zaa (zaq (jv 4) zad) (zaa (jv 3) zac)))) (zai (zan (zak (x41.zg r) hr rfl x41.zm x41.zk x41.zb (zaa (jv 1) (zaa (jv 2) (zaa (zak (x29.zg r) hr rfl x29.zm x29.zk x29.zb (zaa (zaq (jv 4) zad) (zaa (zak (x40.zg r) hr rfl x40.zm x40.zk x40.zb (zaa (zaq (jv 4) zad) (zaa (jv 3) zac))) zac))) zac)))))) zaz)))
  (zai (zan (jv 1)))))
theorem o43 (F:Fun K "_law_weight" "_law_weight" s43 f d) (b:Binds K d ["t"] []) (m:mg "_law_weight" =ae (.ref f)) (n_u:mg "sum" =none):Ok P w K mg base f d ["t"] zaJ:=zcH rfl λr ih=>zaX F zzL rfl rfl λ_ _ _ _ _ _ hr=>(zai (zan (zaZ zad (zpC rfl n_u (zch (N:=["one"]) (k:=1) (fr:=[]) ⟨rfl,by decide +kernel,rfl,rfl,rfl,rfl,rfl,rfl,rfl⟩ (zbi (zcc (jv 0) (zaC zad) zaL)) (λ_ _ _ _=>(zap (i:=0) (show bA [("one" :Str)] from by decide +kernel) rfl (aj rfl))) (λ_ _ _ _=>zbK) (λ_ _ _ _=>(zak ih hr rfl m F.kp b (zaa (jv 0) zac))))))))
theorem o44 (F:Fun K "_law_spots" "_law_spots" s44 f d) (x36:C36 P w K mg base) (x37:C37 P w K mg base) (n_i:mg "isinstance" =none) (n_n:mg "int" =none):Ok P w K mg base f d ["left"] zcx:=zcH rfl λr ih=>zaX F zzU rfl rfl λ_ _ _ _ _ _ hr=>(zai (zan (zau (zch (N:=["place", "left"]) (k:=1) (fr:=[0]) ⟨rfl,by decide +kernel,rfl,rfl,rfl,rfl,rfl,rfl,rfl⟩ (zbi (zak (x36.zg r) hr rfl x36.zm x36.zk x36.zb (zaa (jv 0) zac))) (λ_ _ _ _=>(zap (i:=0) (show bA [("place" :Str),("left" :Str)] from by decide +kernel) rfl (aj rfl))) (λ_ _ _ _=>(zka (zbt (zdR rfl n_i rfl n_n cy (zak (x37.zg r) hr rfl x37.zm x37.zk x37.zb (zaa (jv 1) (zaa (jv 0) zac))) (by decide) (by decide) (zmZ _ (by simp)))))) (λ_ _ _ _=>(jv 0))))))
theorem o45 (F:Fun K "_law_laid" "_law_laid" s45 f d) (x44:C44 P w K mg base) (b:Binds K d ["book", "way", "at"] []) (m:mg "_law_laid" =ae (.ref f)) (n_z:mg "zip" =none) (n_r:mg "range" =none) (n_l:mg "len" =none):Ok P w K mg base f d ["book", "way", "at"] zbw:=zcH rfl λr ih=>zaX F sc45 rfl rfl λ_ _ _ _ _ _ hr=>(zae (zge (i:=3) (N:=["i"]) (k:=1) (fr:=[]) sc45.nd rfl (aj rfl) ⟨rfl,by decide +kernel,rfl,rfl,rfl,rfl,rfl,rfl,rfl⟩ (zef rfl n_r (zaa (zhp (zbm rfl n_l (zaa (jv 1) zac)) zad) zac)) (λ_ _ _ _=>(zap (i:=0) (show bA [("i" :Str)] from by decide +kernel) rfl (aj rfl))) (λ_ _ _ _=>zbK) (λ_ _ _ _=>(zam (zaa (jv 0) zac))))
  (zae (zao (i:=4) sc45.nd rfl (aj rfl) (zau (zax zac)))
  (zae (zbl (zbi (jv 0)) (zap (i:=5) sc45.nd rfl (aj rfl)) (zai (zaT (zeR hr (zaq (jv 5) zad) (zaq (jv 1) zad)) (zae (zao (i:=3) sc45.nd rfl (aj rfl) (zak (x44.zg r) hr rfl x44.zm x44.zk x44.zb (zaa (zaq (jv 5) zad) zac)))
  (zai (zao (i:=4) sc45.nd rfl (aj rfl) (zau (zax (zaa (jv 2) zac)))))) zaz)))
  (zae (zao (i:=6) sc45.nd rfl (aj rfl) (zau (zax zac)))
  (zae (zbl (ziB rfl n_z (zcc (jv 1) (zaC zad) zaL) (jv 3)) (zdQ (zaE (zap (i:=7) sc45.nd rfl (aj rfl)) (zaE (zap (i:=8) sc45.nd rfl (aj rfl)) zcE)) (glS (glS gl0))) (zai (zao (i:=6) sc45.nd rfl (aj rfl) (zaZ (jv 6) (zak ih hr rfl m F.kp b (zaa (jv 0) (zaa (jv 7) (zaa (zaZ (jv 2) (jv 8)) zac))))))))
  (zai (zan (zaZ (jv 6) (jv 4)))))))))
theorem o46 (F:Fun K "_law_refused" "_law_refused" s46 f d) (x25:C25 P w K mg base) (n_i:mg "isinstance" =none) (y_Apart:Ncl mg "Apart") (y_NoPlace:Ncl mg "NoPlace") (y_NoUse:Ncl mg "NoUse") (yT:Ncl mg "TooGreat") (y_TurnError:Ncl mg "TurnError") (e_NoUse_TurnError:gF K (.ref y_NoUse.xC) (.ref y_TurnError.xC)=ae true) (q_NoUse_Apart:bQ K (.ref y_NoUse.xC) (.ref y_Apart.xC)=ae (zmY "NoUse" "Apart")) (q_NoUse_NoPlace:bQ K (.ref y_NoUse.xC) (.ref y_NoPlace.xC)=ae (zmY "NoUse" "NoPlace")) (q_NoUse_NoUse:bQ K (.ref y_NoUse.xC) (.ref y_NoUse.xC)=ae (zmY "NoUse" "NoUse")) (q_NoUse_TooGreat:bQ K (.ref y_NoUse.xC) (.ref yT.xC)=ae (zmY "NoUse" "TooGreat")) (v_NoUse:XcIn K "NoUse" y_NoUse.xC):Ok P w K mg base f d ["book", "shape", "some"] zbg:=zcH rfl λr ih=>zaX F sc46 rfl rfl λ_ _ _ _ _ _ hr=>(zae (zao (i:=3) sc46.nd rfl (aj rfl) (zau (zax zac)))
  (zae (zrM (λ_ _=>(zxs (zuA (zsL (x25.zg r) hr rfl x25.zm x25.zk x25.zb (zaa (jv 0) (zaa (jv 1) (zaa (jv 2) zac))))))) (alc ⟨y_NoUse.xC,v_NoUse,e_NoUse_TurnError,λa oa pn hp hc=>(zai (zao (i:=3) sc46.nd rfl (aj rfl) (zau (zax (zaa (zlK hp hc v_NoUse.xc q_NoUse_NoUse rfl n_i (i:=4) rfl (aj rfl) rfl y_NoUse.xm) (zaa (zlK hp hc v_NoUse.xc q_NoUse_NoPlace rfl n_i (i:=4) rfl (aj rfl) rfl y_NoPlace.xm) (zaa (zlK hp hc v_NoUse.xc q_NoUse_Apart rfl n_i (i:=4) rfl (aj rfl) rfl y_Apart.xm) (zaa (zlK hp hc v_NoUse.xc q_NoUse_TooGreat rfl n_i (i:=4) rfl (aj rfl) rfl yT.xm) zac))))))))⟩ aln) rfl y_TurnError.xm sc46.nd rfl rfl)
  (zai (zan (znv hr (jv 3) (zau (zax (zaa zdE (zaa zdE (zaa zdE (zaa zdE zac)))))))))))
theorem o47 (F:Fun K "_law_walk" "_law_walk" s47 f d) (x39:C39 P w K mg base) (x42:C42 P w K mg base) (x43:C43 P w K mg base) (n_l:mg "len" =none):Ok P w K mg base f d ["book", "shape", "cells"] zdc:=zcH rfl λr ih=>zaX F sc47 rfl rfl λ_ _ _ _ _ _ hr=>(zae (zao (i:=3) sc47.nd rfl (aj rfl) (zau (zax (zaa (jv 1) zac))))
  (zae (zao (i:=4) sc47.nd rfl (aj rfl) (zau (zax zac)))
  (zae (zbl (zbi (jv 2)) (zap (i:=5) sc47.nd rfl (aj rfl)) (zae (zao (i:=6) sc47.nd rfl (aj rfl) (zak (x39.zg r) hr rfl x39.zm x39.zk x39.zb (zaa (jv 0) (zaa (zaq (jv 3) (zeX zad)) zac))))
  (zai (zaT (JW.jt (znf (zms (zbm rfl n_l (zaa (jv 6) zac)) zad) (zkf (zoS (zbm rfl n_l (zaa (jv 4) zac)) zad)))) (zae (zao (i:=7) sc47.nd rfl (aj rfl) (zaq (zaq (jv 6) (zcF (jv 5) (zbm rfl n_l (zaa (jv 6) zac)))) zad))
  (zae (zao (i:=8) sc47.nd rfl (aj rfl) (zak (x42.zg r) hr rfl x42.zm x42.zk x42.zb (zaa (jv 0) (zaa (zaq (jv 3) (zeX zad)) (zaa (jv 7) zac)))))
  (zai (zaT (zzm (zak (x43.zg r) hr rfl x43.zm x43.zk x43.zb (zaa (jv 8) zac)) zad) (zae (zbC (zbv (jv 3) (zaa (jv 8) zac)))
  (zai (zbC (zbv (jv 4) (zaa (jv 7) zac))))) zaz)))) zaz))))
  (zai (zan (zam (zaa (jv 3) (zaa (jv 4) zac))))))))
theorem o48 (F:Fun K "law" "law" s48 f d) (x27:C27 P w K mg base) (x32:C32 P w K mg base) (x34:C34 P w K mg base) (x47:C47 P w K mg base) (x25:C25 P w K mg base) (x46:C46 P w K mg base) (x26:C26 P w K mg base) (x33:C33 P w K mg base) (x45:C45 P w K mg base) (x39:C39 P w K mg base) (x36:C36 P w K mg base) (x35:C35 P w K mg base) (n_s:mg "list" =none) (n_e:mg "enumerate" =none) (n_l:mg "len" =none) (n_i:mg "isinstance" =none) (n_t:mg "tuple" =none):Ok P w K mg base f d ["script"] zdr:=zcH rfl λr ih=>by
  refine zaX F sc48 rfl rfl λ_ _ _ _ _ _ hr=>?_;delta zco zcq zct zcv zcp zcy zcr zcw zcm zcP zda zcT zcL zcX zcK zcY zcV zcR;delta zdf;delta zco zcq zct zcv zcp zcy zcr zcw zcm zcP zda zcT zcL zcX zcK zcY zcV zcR;exact(zae (zao (i:=1) sc48.nd rfl (aj rfl) (zak (x27.zg r) hr rfl x27.zm x27.zk x27.zb (zaa (zak (x26.zg r) hr rfl x26.zm x26.zk x26.zb (zaa (jv 0) (zaa zad zac))) (zaa (zak (x26.zg r) hr rfl x26.zm x26.zk x26.zb (zaa (jv 0) (zaa zad zac))) (zaa zdE zac)))))
  (zae (zao (i:=2) sc48.nd rfl (aj rfl) (zak (x27.zg r) hr rfl x27.zm x27.zk x27.zb (zaa (zak (x26.zg r) hr rfl x26.zm x26.zk x26.zb (zaa (jv 0) (zaa zad zac))) (zaa (zak (x26.zg r) hr rfl x26.zm x26.zk x26.zb (zaa (jv 0) (zaa zad zac))) (zaa zdE zac)))))
  (zae (zao (i:=3) sc48.nd rfl (aj rfl) (zak (x32.zg r) hr rfl x32.zm x32.zk x32.zb (zaa (jv 0) (zaa zad (zaa (jv 1) (zaa (jv 2) (zaa (znv hr (zcF (zak (x26.zg r) hr rfl x26.zm x26.zk x26.zb (zaa (jv 0) (zaa zad zac))) zad) zad) zac)))))))
  (zae (zao (i:=4) sc48.nd rfl (aj rfl) (zak (x34.zg r) hr rfl x34.zm x34.zk x34.zb (zaa (zak (x33.zg r) hr rfl x33.zm x33.zk x33.zb (zaa (zcc (jv 0) (zaC zad) (zaC zad)) (zaa (jv 3) (zaa (jv 1) (zaa zad zac))))) (zaa (jv 3) (zaa zad zac)))))
  (zae (zrR (zak (x47.zg r) hr rfl x47.zm x47.zk x47.zb (zaa (jv 3) (zaa (jv 4) (zaa (zcc (jv 0) (zaC zad) (zaC zad)) zac)))) (zdQ (zaE (zap (i:=5) sc48.nd rfl (aj rfl)) (zaE (zap (i:=6) sc48.nd rfl (aj rfl)) zcE)) (glS (glS gl0))))
  (zae (zao (i:=7) sc48.nd rfl (aj rfl) (zau (zur rfl n_s (jv 6))))
  (zae (zao (i:=8) sc48.nd rfl (aj rfl) (zak (x25.zg r) hr rfl x25.zm x25.zk x25.zb (zaa (jv 3) (zaa (jv 4) (zaa (jv 7) zac)))))
  (zae (zaT (JW.jt (zjo (zhM hr (jv 7) (jv 6)) (zjo (zgs (zbt (zdR rfl n_i rfl n_t h_ (jv 8) (by decide) (by decide) (zmZ _ (by simp))))) (zjo (zhM hr (zbm rfl n_l (zaa (jv 8) zac)) zad) (zhj (zhM hr (zaq (jv 8) zad) (jv 4))))))) (zai (zan zdE)) zaz)
  (zae (zaT (JW.jt (zjo (zgs (zbt (zdR rfl n_i rfl n_s kI (zaq (jv 8) zad) (by decide) (by decide) (zmZ _ (by simp))))) (zhj (zhM hr (zbm rfl n_l (zaa (zaq (jv 8) zad) zac)) (zbm rfl n_l (zaa (jv 6) zac)))))) (zai (zan zdE)) zaz)
  (zae (zbl (zgM rfl n_e (zaq (jv 8) zad)) (zdQ (zaE (zap (i:=9) sc48.nd rfl (aj rfl)) (zaE (zap (i:=10) sc48.nd rfl (aj rfl)) zcE)) (glS (glS gl0))) (zae (zaT (JW.jt (zjo (zhM hr (zak (x35.zg r) hr rfl x35.zm x35.zk x35.zb (zaa (jv 3) (zaa (jv 10) (zaa zad zac)))) (zaq (jv 5) (jv 9))) (zhj (zhM hr (zak (x35.zg r) hr rfl x35.zm x35.zk x35.zb (zaa (jv 3) (zaa (jv 10) (zaa zad zac)))) (zaq (jv 5) (zaZ (jv 9) zad)))))) (zai (zan zdE)) zaz)
  (zai (zaT (zhM hr (zak (x45.zg r) hr rfl x45.zm x45.zk x45.zb (zaa (jv 3) (zaa (jv 10) (zaa (zam zac) zac)))) (zau (zax (zaa (zaq (jv 6) (jv 9)) zac)))) (zai (zan zdE)) zaz))))
  (zae (zao (i:=11) sc48.nd rfl (aj rfl) (zcF (zed (zak (x26.zg r) hr rfl x26.zm x26.zk x26.zb (zaa (jv 0) (zaa zad zac))) zad) (zbm rfl n_l (zaa (jv 5) zac))))
  (zae (zao (i:=12) sc48.nd rfl (b4 rfl) (zau (zch (N:=["one"]) (k:=1) (fr:=[]) ⟨rfl,by decide +kernel,rfl,rfl,rfl,rfl,rfl,rfl,rfl⟩ (zbi (zak (x39.zg r) hr rfl x39.zm x39.zk x39.zb (zaa (jv 3) (zaa (zaq (jv 5) (jv 11)) zac)))) (λ_ _ _ _=>(zap (i:=0) (show bA [("one" :Str)] from by decide +kernel) rfl (aj rfl))) (λ_ _ _ _=>zbK) (λ_ _ _ _=>(zaq (jv 0) zad)))))
  (zae (zge (i:=13) (N:=["place", "known"]) (k:=1) (fr:=[12]) sc48.nd rfl (aj rfl) ⟨rfl,by decide +kernel,rfl,rfl,rfl,rfl,rfl,rfl,rfl⟩ (zbi (zak (x36.zg r) hr rfl x36.zm x36.zk x36.zb (zaa (zaq (jv 5) (jv 11)) zac))) (λ_ _ _ _=>(zap (i:=0) (show bA [("place" :Str),("known" :Str)] from by decide +kernel) rfl (aj rfl))) (λ_ _ _ _=>(zka (zlA hr (jv 0) (jv 1)))) (λ_ _ _ _=>(jv 0)))
  (zae (zao (i:=13) sc48.nd rfl (aj rfl) (zau (zdH (jv 13) (zax (zaa (zam (zaa (zeX zad) zac)) (zaa (zam (zaa (zhp (zbm rfl n_l (zaa (zaq (jv 5) (jv 11)) zac)) zad) zac)) (zaa (zsS (zam (zaa zad zac)) zad) zac)))))))
  (zae (zao (i:=14) sc48.nd rfl (aj rfl) (zaq (jv 13) (zcF (zed (zak (x26.zg r) hr rfl x26.zm x26.zk x26.zb (zaa (jv 0) (zaa zad zac))) zad) (zbm rfl n_l (zaa (jv 13) zac)))))
  (zai (zan (zak (x46.zg r) hr rfl x46.zm x46.zk x46.zb (zaa (jv 3) (zaa (jv 4) (zaa (zau (zgj (zgj (zpX (jv 6) zaL (zaC (jv 11))) (zax (zaa (jv 14) zac))) (zpX (jv 6) (zaC (jv 11)) zaL))) zac)))))))))))))))))))))
end
theorem all_mk{l:iC}{w:ax}{K:ai}{h:Heap}{mg:Str→Option Value}{fa:Addr}(X:K.In h) (G:h.Ns aL mg) (hfa:mg "law" =ae (.ref fa))
  (D0:Dfn K "parts_of" s0)
  (D1:Dfn K "parts_of_all" s1)
  (D2:Dfn K "is_small" s2)
  (D4:Dfn K "places" s4)
  (D3:Dfn K "gather_places" s3)
  (D6:Dfn K "part" s6)
  (D5:Dfn K "numbered_part" s5)
  (D7:Dfn K "blank_places" s7)
  (D8:Dfn K "filled" s8)
  (D11:Dfn K "matched" s11)
  (D10:Dfn K "gather_matched" s10)
  (D9:Dfn K "have_one_top" s9)
  (D12:Dfn K "turning_of" s12)
  (D15:Dfn K "goal" s15)
  (D13:Dfn K "only_small" s13)
  (D14:Dfn K "with_sides" s14)
  (D16:Dfn K "part_places" s16)
  (D19:Dfn K "open_uses" s19)
  (D18:Dfn K "gather_open" s18)
  (D17:Dfn K "open_turning" s17)
  (D20:Dfn K "places_of" s20)
  (D24:Dfn K "way_of" s24)
  (D23:Dfn K "way_with" s23)
  (D22:Dfn K "way_within" s22)
  (D21:Dfn K "turned_top" s21)
  (D25:Dfn K "road_of" s25)
  (D26:Dfn K "_law_cell" s26)
  (D27:Dfn K "_law_words" s27)
  (D28:Dfn K "_law_count" s28)
  (D29:Dfn K "_law_filled" s29)
  (D30:Dfn K "_law_lefts" s30)
  (D31:Dfn K "_law_rights" s31)
  (D32:Dfn K "_law_book" s32)
  (D33:Dfn K "_law_plan" s33)
  (D34:Dfn K "_law_way" s34)
  (D35:Dfn K "_law_made" s35)
  (D36:Dfn K "_law_places" s36)
  (D37:Dfn K "_law_at" s37)
  (D38:Dfn K "_law_stands" s38)
  (D39:Dfn K "_law_open" s39)
  (D40:Dfn K "_law_things" s40)
  (D41:Dfn K "_law_put" s41)
  (D42:Dfn K "_law_turned" s42)
  (D43:Dfn K "_law_weight" s43)
  (D44:Dfn K "_law_spots" s44)
  (D45:Dfn K "_law_laid" s45)
  (D46:Dfn K "_law_refused" s46)
  (D47:Dfn K "_law_walk" s47)
  (D48:Dfn K "law" s48)
  (z_ValueError:aT K aL "ValueError" =ae none)
  (z_a:aT K aL "all" =ae none)
  (z_d:aT K aL "dict" =ae none)
  (z_e:aT K aL "enumerate" =ae none)
  (z_n:aT K aL "int" =ae none)
  (z_i:aT K aL "isinstance" =ae none)
  (z_l:aT K aL "len" =ae none)
  (z_s:aT K aL "list" =ae none)
  (z_m:aT K aL "min" =ae none)
  (z_r:aT K aL "range" =ae none)
  (z_u:aT K aL "sum" =ae none)
  (z_t:aT K aL "tuple" =ae none)
  (z_z:aT K aL "zip" =ae none)
  {t_MOST_HEAVY:bc}(z_MOST_HEAVY:aT K aL "MOST_HEAVY" =ae (ae (.int 400 t_MOST_HEAVY)))
  {t_MOST_DEEP:bc}(z_MOST_DEEP:aT K aL "MOST_DEEP" =ae (ae (.int 40 t_MOST_DEEP)))
  {t_LEFT:bc}(z_LEFT:aT K aL "LEFT" =ae (ae (.int 1 t_LEFT)))
  {t_RIGHT:bc}(z_RIGHT:aT K aL "RIGHT" =ae (ae (.int 2 t_RIGHT)))
  {C_Apart:Addr}(z_Apart:aT K aL "Apart" =ae (ae (.ref C_Apart)))
  {C_NoPlace:Addr}(z_NoPlace:aT K aL "NoPlace" =ae (ae (.ref C_NoPlace)))
  {C_NoUse:Addr}(z_NoUse:aT K aL "NoUse" =ae (ae (.ref C_NoUse)))
  {C_TooGreat:Addr}(z_TooGreat:aT K aL "TooGreat" =ae (ae (.ref C_TooGreat)))
  {C_TurnError:Addr}(z_TurnError:aT K aL "TurnError" =ae (ae (.ref C_TurnError)))
  (ze_NoUse_TurnError:gF K (.ref C_NoUse) (.ref C_TurnError)=ae true)
  (zq_NoUse_Apart:bQ K (.ref C_NoUse) (.ref C_Apart)=ae (false))
  (zq_NoUse_NoPlace:bQ K (.ref C_NoUse) (.ref C_NoPlace)=ae (false))
  (zq_NoUse_NoUse:bQ K (.ref C_NoUse) (.ref C_NoUse)=ae (true))
  (zq_NoUse_TooGreat:bQ K (.ref C_NoUse) (.ref C_TooGreat)=ae (false))
  (za_NoPlace:eW K C_NoPlace bmV "ValueError.__new__" =true) (zb_NoPlace:ci K (.ref C_NoPlace) "__getattribute__" =ae (ae (.builtin "BaseException.__getattribute__"))) (zc_NoPlace:ci K (.ref C_NoPlace) "__getattr__" =ae none) (zd_NoPlace:ci K (.ref C_NoPlace) "__class__" =ae (ae (.builtin "object.__class__"))) (ze_NoPlace:dB K C_NoPlace (.type "object")=ae true) (zf_NoPlace:dB K C_NoPlace (.type "BaseException")=ae true)
  (za_NoUse:eW K C_NoUse bmV "ValueError.__new__" =true) (zb_NoUse:ci K (.ref C_NoUse) "__getattribute__" =ae (ae (.builtin "BaseException.__getattribute__"))) (zc_NoUse:ci K (.ref C_NoUse) "__getattr__" =ae none) (zd_NoUse:ci K (.ref C_NoUse) "__class__" =ae (ae (.builtin "object.__class__"))) (ze_NoUse:dB K C_NoUse (.type "object")=ae true) (zf_NoUse:dB K C_NoUse (.type "BaseException")=ae true)
  (za_TooGreat:eW K C_TooGreat bmV "ValueError.__new__" =true) (zb_TooGreat:ci K (.ref C_TooGreat) "__getattribute__" =ae (ae (.builtin "BaseException.__getattribute__"))) (zc_TooGreat:ci K (.ref C_TooGreat) "__getattr__" =ae none) (zd_TooGreat:ci K (.ref C_TooGreat) "__class__" =ae (ae (.builtin "object.__class__"))) (ze_TooGreat:dB K C_TooGreat (.type "object")=ae true) (zf_TooGreat:dB K C_TooGreat (.type "BaseException")=ae true)
  :∃fd:bF,(∀(s:ah) (v:Value),d_ s fd ⟨[v],[]⟩ [("script",v)])∧ ∀base:Heap,K.In base→base.Ns aL mg→FnOk l.prog w K mg base (CX1 l.prog w) 200 fa fd ["script"] (zcG K (zdr 200)):=by
 obtain⟨f48,d48,a48,F48⟩:=D48;have e:=hfa.symm.trans (aY X G a48);cases e;have n_ValueError:=bY X G z_ValueError;have n_a:=bY X G z_a;have n_d:=bY X G z_d;have n_e:=bY X G z_e;have n_n:=bY X G z_n;have n_i:=bY X G z_i;have n_l:=bY X G z_l;have n_s:=bY X G z_s;have n_m:=bY X G z_m;have n_r:=bY X G z_r;have n_u:=bY X G z_u;have n_t:=bY X G z_t;have n_z:=bY X G z_z;have g_MOST_HEAVY:=aY X G z_MOST_HEAVY;have g_MOST_DEEP:=aY X G z_MOST_DEEP;have g_LEFT:=aY X G z_LEFT;have g_RIGHT:=aY X G z_RIGHT;refine⟨d48,λs v=>?_,λbase _ _=>?_⟩
 ·obtain⟨oc,od,kV,doc,pm,an,cdv,ct,osl,rfl,lk,hcd⟩:=F48.ex;exact .of_eq rfl
 obtain⟨f,d,a,F⟩:=D0;have x0:=mkC (base:=base) X G F a (o0 (P:=l.prog) (w:=w) F n_i n_n) (F.binds λ_ _ _ _ _ _=>n1 λ_=>rfl);obtain⟨f,d,a,F⟩:=D1;have x1:=mkC (base:=base) X G F a (o1 (P:=l.prog) (w:=w) F x0) (F.binds λ_ _ _ _ _ _=>n1 λ_=>rfl);obtain⟨f,d,a,F⟩:=D2;have x2:=mkC (base:=base) X G F a (o2 (P:=l.prog) (w:=w) F x1 n_l g_MOST_HEAVY g_MOST_DEEP) (F.binds λ_ _ _ _ _ _=>n1 λ_=>rfl);obtain⟨f,d,a,F⟩:=D3;have x3:=mkC (base:=base) X G F a (o3 (P:=l.prog) (w:=w) F x0 (F.binds λ_ _ _ _ _ _=>n3 λ_ _ _=>rfl) (aY X G a) n_e) (F.binds λ_ _ _ _ _ _=>n3 λ_ _ _=>rfl);obtain⟨f,d,a,F⟩:=D4;have x4:=mkC (base:=base) X G F a (o4 (P:=l.prog) (w:=w) F x3) (F.binds λ_ _ _ _ _ _=>n1 λ_=>rfl);obtain⟨f,d,a,F⟩:=D5;have x5:=mkC (base:=base) X G F a (o5 (P:=l.prog) (w:=w) F x0 n_l ⟨C_NoPlace,aY X G z_NoPlace⟩ ⟨z_NoPlace,za_NoPlace,⟨zb_NoPlace,zc_NoPlace,zd_NoPlace,ze_NoPlace,zf_NoPlace⟩⟩) (F.binds λ_ _ _ _ _ _=>n2 λ_ _=>rfl);obtain⟨f,d,a,F⟩:=D6;have x6:=mkC (base:=base) X G F a (o6 (P:=l.prog) (w:=w) F x5) (F.binds λ_ _ _ _ _ _=>n2 λ_ _=>rfl);obtain⟨f,d,a,F⟩:=D7;have x7:=mkC (base:=base) X G F a (o7 (P:=l.prog) (w:=w) F x4 x6 n_i n_n) (F.binds λ_ _ _ _ _ _=>n1 λ_=>rfl);obtain⟨f,d,a,F⟩:=D8;have x8:=mkC (base:=base) X G F a (o8 (P:=l.prog) (w:=w) F (F.binds λ_ _ _ _ _ _=>n2 λ_ _=>rfl) (aY X G a) n_i n_n n_t) (F.binds λ_ _ _ _ _ _=>n2 λ_ _=>rfl);obtain⟨f,d,a,F⟩:=D9;have x9:=mkC (base:=base) X G F a (o9 (P:=l.prog) (w:=w) F n_l) (F.binds λ_ _ _ _ _ _=>n2 λ_ _=>rfl);obtain⟨f,d,a,F⟩:=D10;have x10:=mkC (base:=base) X G F a (o10 (P:=l.prog) (w:=w) F x9 (F.binds λ_ _ _ _ _ _=>n3 λ_ _ _=>rfl) (aY X G a) n_i n_n n_z) (F.binds λ_ _ _ _ _ _=>n3 λ_ _ _=>rfl);obtain⟨f,d,a,F⟩:=D11;have x11:=mkC (base:=base) X G F a (o11 (P:=l.prog) (w:=w) F x10) (F.binds λ_ _ _ _ _ _=>n2 λ_ _=>rfl);obtain⟨f,d,a,F⟩:=D12;have x12:=mkC (base:=base) X G F a (o12 (P:=l.prog) (w:=w) F) (F.binds λ_ _ _ _ _ _=>n2 λ_ _=>rfl);obtain⟨f,d,a,F⟩:=D13;have x13:=mkC (base:=base) X G F a (o13 (P:=l.prog) (w:=w) F x2 ⟨C_TooGreat,aY X G z_TooGreat⟩ ⟨z_TooGreat,za_TooGreat,⟨zb_TooGreat,zc_TooGreat,zd_TooGreat,ze_TooGreat,zf_TooGreat⟩⟩) (F.binds λ_ _ _ _ _ _=>n1 λ_=>rfl);obtain⟨f,d,a,F⟩:=D14;have x14:=mkC (base:=base) X G F a (o14 (P:=l.prog) (w:=w) F x12 x8 (F.binds λ_ _ _ _ _ _=>n3 λ_ _ _=>rfl) (aY X G a) n_t) (F.binds λ_ _ _ _ _ _=>n3 λ_ _ _=>rfl);obtain⟨f,d,a,F⟩:=D15;have x15:=mkC (base:=base) X G F a (o15 (P:=l.prog) (w:=w) F x13 x14 g_RIGHT) (F.binds λ_ _ _ _ _ _=>n2 λ_ _=>rfl);obtain⟨f,d,a,F⟩:=D16;have x16:=mkC (base:=base) X G F a (o16 (P:=l.prog) (w:=w) F x12 x7 n_r n_l g_LEFT) (F.binds λ_ _ _ _ _ _=>n2 λ_ _=>rfl);obtain⟨f,d,a,F⟩:=D17;have x17:=mkC (base:=base) X G F a (o17 (P:=l.prog) (w:=w) F x11 g_LEFT) (F.binds λ_ _ _ _ _ _=>n2 λ_ _=>rfl);obtain⟨f,d,a,F⟩:=D18;have x18:=mkC (base:=base) X G F a (o18 (P:=l.prog) (w:=w) F x17 (F.binds λ_ _ _ _ _ _=>n4 λ_ _ _ _=>rfl) (aY X G a) n_e) (F.binds λ_ _ _ _ _ _=>n4 λ_ _ _ _=>rfl);obtain⟨f,d,a,F⟩:=D19;have x19:=mkC (base:=base) X G F a (o19 (P:=l.prog) (w:=w) F x18) (F.binds λ_ _ _ _ _ _=>n2 λ_ _=>rfl);obtain⟨f,d,a,F⟩:=D20;have x20:=mkC (base:=base) X G F a (o20 (P:=l.prog) (w:=w) F) (F.binds λ_ _ _ _ _ _=>n1 λ_=>rfl);obtain⟨f,d,a,F⟩:=D21;have x21:=mkC (base:=base) X G F a (o21 (P:=l.prog) (w:=w) F x17 x11 n_t g_LEFT) (F.binds λ_ _ _ _ _ _=>n2 λ_ _=>rfl);obtain⟨f,d,a,F⟩:=D22;have x22:=mkC (base:=base) X G F a (o22 (P:=l.prog) (w:=w) F x21 x16 (F.binds λ_ _ _ _ _ _=>n4 λ_ _ _ _=>rfl) (aY X G a) n_z n_t) (F.binds λ_ _ _ _ _ _=>n4 λ_ _ _ _=>rfl);obtain⟨f,d,a,F⟩:=D23;have x23:=mkC (base:=base) X G F a (o23 (P:=l.prog) (w:=w) F x22 n_d) (F.binds λ_ _ _ _ _ _=>n3 λ_ _ _=>rfl);obtain⟨f,d,a,F⟩:=D24;have x24:=mkC (base:=base) X G F a (o24 (P:=l.prog) (w:=w) F x20 x23 x19 ⟨C_NoUse,aY X G z_NoUse⟩ ⟨z_NoUse,za_NoUse,⟨zb_NoUse,zc_NoUse,zd_NoUse,ze_NoUse,zf_NoUse⟩⟩) (F.binds λ_ _ _ _ _ _=>n3 λ_ _ _=>rfl);obtain⟨f,d,a,F⟩:=D25;have x25:=mkC (base:=base) X G F a (o25 (P:=l.prog) (w:=w) F x24 x15) (F.binds λ_ _ _ _ _ _=>n3 λ_ _ _=>rfl);obtain⟨f,d,a,F⟩:=D26;have x26:=mkC (base:=base) X G F a (o26 (P:=l.prog) (w:=w) F n_l) (F.binds λ_ _ _ _ _ _=>n2 λ_ _=>rfl);obtain⟨f,d,a,F⟩:=D27;have x27:=mkC (base:=base) X G F a (o27 (P:=l.prog) (w:=w) F n_r n_l n_n) (F.binds λ_ _ _ _ _ _=>n3 λ_ _ _=>rfl);obtain⟨f,d,a,F⟩:=D28;have x28:=mkC (base:=base) X G F a (o28 (P:=l.prog) (w:=w) F (F.binds λ_ _ _ _ _ _=>n1 λ_=>rfl) (aY X G a) n_i n_n n_u) (F.binds λ_ _ _ _ _ _=>n1 λ_=>rfl);obtain⟨f,d,a,F⟩:=D29;have x29:=mkC (base:=base) X G F a (o29 (P:=l.prog) (w:=w) F (F.binds λ_ _ _ _ _ _=>n2 λ_ _=>rfl) (aY X G a) n_i n_n n_t) (F.binds λ_ _ _ _ _ _=>n2 λ_ _=>rfl);obtain⟨f,d,a,F⟩:=D30;have x30:=mkC (base:=base) X G F a (o30 (P:=l.prog) (w:=w) F) (F.binds λ_ _ _ _ _ _=>n4 λ_ _ _ _=>rfl);obtain⟨f,d,a,F⟩:=D31;have x31:=mkC (base:=base) X G F a (o31 (P:=l.prog) (w:=w) F) (F.binds λ_ _ _ _ _ _=>n3 λ_ _ _=>rfl);obtain⟨f,d,a,F⟩:=D32;have x32:=mkC (base:=base) X G F a (o32 (P:=l.prog) (w:=w) F x30 x31 x26 x28 n_r n_e n_l) (F.binds λ_ _ _ _ _ _=>n5 λ_ _ _ _ _=>rfl);obtain⟨f,d,a,F⟩:=D33;have x33:=mkC (base:=base) X G F a (o33 (P:=l.prog) (w:=w) F x28 n_l n_m) (F.binds λ_ _ _ _ _ _=>n4 λ_ _ _ _=>rfl);obtain⟨f,d,a,F⟩:=D34;have x34:=mkC (base:=base) X G F a (o34 (P:=l.prog) (w:=w) F x29 (F.binds λ_ _ _ _ _ _=>n3 λ_ _ _=>rfl) (aY X G a) n_t) (F.binds λ_ _ _ _ _ _=>n3 λ_ _ _=>rfl);obtain⟨f,d,a,F⟩:=D35;have x35:=mkC (base:=base) X G F a (o35 (P:=l.prog) (w:=w) F (F.binds λ_ _ _ _ _ _=>n3 λ_ _ _=>rfl) (aY X G a) x29 n_t) (F.binds λ_ _ _ _ _ _=>n3 λ_ _ _=>rfl);obtain⟨f,d,a,F⟩:=D36;have x36:=mkC (base:=base) X G F a (o36 (P:=l.prog) (w:=w) F (F.binds λ_ _ _ _ _ _=>n1 λ_=>rfl) (aY X G a) n_i n_n n_e) (F.binds λ_ _ _ _ _ _=>n1 λ_=>rfl);obtain⟨f,d,a,F⟩:=D37;have x37:=mkC (base:=base) X G F a (o37 (P:=l.prog) (w:=w) F) (F.binds λ_ _ _ _ _ _=>n2 λ_ _=>rfl);obtain⟨f,d,a,F⟩:=D38;have x38:=mkC (base:=base) X G F a (o38 (P:=l.prog) (w:=w) F (F.binds λ_ _ _ _ _ _=>n2 λ_ _=>rfl) (aY X G a) n_i n_n n_a n_l n_z) (F.binds λ_ _ _ _ _ _=>n2 λ_ _=>rfl);obtain⟨f,d,a,F⟩:=D39;have x39:=mkC (base:=base) X G F a (o39 (P:=l.prog) (w:=w) F x36 x38 x37) (F.binds λ_ _ _ _ _ _=>n2 λ_ _=>rfl);obtain⟨f,d,a,F⟩:=D40;have x40:=mkC (base:=base) X G F a (o40 (P:=l.prog) (w:=w) F (F.binds λ_ _ _ _ _ _=>n2 λ_ _=>rfl) (aY X G a) n_i n_n n_z) (F.binds λ_ _ _ _ _ _=>n2 λ_ _=>rfl);obtain⟨f,d,a,F⟩:=D41;have x41:=mkC (base:=base) X G F a (o41 (P:=l.prog) (w:=w) F (F.binds λ_ _ _ _ _ _=>n3 λ_ _ _=>rfl) (aY X G a)) (F.binds λ_ _ _ _ _ _=>n3 λ_ _ _=>rfl);obtain⟨f,d,a,F⟩:=D42;have x42:=mkC (base:=base) X G F a (o42 (P:=l.prog) (w:=w) F x37 x38 x41 x29 x40) (F.binds λ_ _ _ _ _ _=>n3 λ_ _ _=>rfl);obtain⟨f,d,a,F⟩:=D43;have x43:=mkC (base:=base) X G F a (o43 (P:=l.prog) (w:=w) F (F.binds λ_ _ _ _ _ _=>n1 λ_=>rfl) (aY X G a) n_u) (F.binds λ_ _ _ _ _ _=>n1 λ_=>rfl);obtain⟨f,d,a,F⟩:=D44;have x44:=mkC (base:=base) X G F a (o44 (P:=l.prog) (w:=w) F x36 x37 n_i n_n) (F.binds λ_ _ _ _ _ _=>n1 λ_=>rfl);obtain⟨f,d,a,F⟩:=D45;have x45:=mkC (base:=base) X G F a (o45 (P:=l.prog) (w:=w) F x44 (F.binds λ_ _ _ _ _ _=>n3 λ_ _ _=>rfl) (aY X G a) n_z n_r n_l) (F.binds λ_ _ _ _ _ _=>n3 λ_ _ _=>rfl);obtain⟨f,d,a,F⟩:=D46;have x46:=mkC (base:=base) X G F a (o46 (P:=l.prog) (w:=w) F x25 n_i ⟨C_Apart,aY X G z_Apart⟩ ⟨C_NoPlace,aY X G z_NoPlace⟩ ⟨C_NoUse,aY X G z_NoUse⟩ ⟨C_TooGreat,aY X G z_TooGreat⟩ ⟨C_TurnError,aY X G z_TurnError⟩ ze_NoUse_TurnError (zq_NoUse_Apart.trans (congrArg ae (by decide))) (zq_NoUse_NoPlace.trans (congrArg ae (by decide))) (zq_NoUse_NoUse.trans (congrArg ae (by decide))) (zq_NoUse_TooGreat.trans (congrArg ae (by decide))) ⟨z_NoUse,za_NoUse,⟨zb_NoUse,zc_NoUse,zd_NoUse,ze_NoUse,zf_NoUse⟩⟩) (F.binds λ_ _ _ _ _ _=>n3 λ_ _ _=>rfl);obtain⟨f,d,a,F⟩:=D47;have x47:=mkC (base:=base) X G F a (o47 (P:=l.prog) (w:=w) F x39 x42 x43 n_l) (F.binds λ_ _ _ _ _ _=>n3 λ_ _ _=>rfl);exact o48 F48 x27 x32 x34 x47 x25 x46 x26 x33 x45 x39 x36 x35 n_s n_e n_l n_i n_t 200
theorem walk{l:iC}{q:aF}{loose:List Str}{XP:(Str→Option Value)→Heap→Prop}{YP:ax→Heap→Prop}{d:DefRec}{K:fV→ai}(hn:l.most=ae 63) (hdf:d.params.defaults=[])
  (hY:∀(w:ax) (h:Heap),YP w h→(K w.params).In h)
  (F:∀(w:ax) (mg:Str→Option Value) (fa:Addr) (h:Heap),(K w.params).In h→h.Ns aL mg→mg d.name=ae (.ref fa)→
   ∃fd:bF,(∀(s:ah) (u:Value),d_ s fd ⟨[u],[]⟩ [("script",u)])∧ ∀base:Heap,(K w.params).In base→base.Ns aL mg→FnOk l.prog w (K w.params) mg base (CX1 l.prog w) 200 fa fd ["script"] (zcG (K w.params) (zdr 200))) :
  j8 q loose XP YP l.row.toRowW d [] (λf vs=>hU f vs):=
 L2.ztn (n:=63) (k:=200) (x:= "script") (CX:=λw=>CX1 l.prog w) (sp:=λw=>zcG (K w.params) (zdr 200)) hn (by decide) hdf ⟨rfl,by decide,by decide⟩ hY F (λw H a ns hl hO hS=>zrf hO hS (zwI ns hl)) λ_ _ _ _ _ ⟨_,_,_,_,_,_,_,_,_,z⟩=>z
end K35
namespace PySem.W.Fast
def tw8778204236452895:=Nat
def tw13858902844066922327:=Nat
def tw737763512361864791:=Nat
def tw10526367315650014879:=Nat
def tw2719491800835111997:=Nat
def tw13557411657531128960:=Nat
def tw11473427130047975239:=Nat
def tw12345414753560156591:=Nat
def tw8777050814244373028:=Nat
def tw4246920030375744241:=Nat
def tw3427957887687260578:=Nat
def tw15586354202028804168:=Nat
def tw16326379329717807855:=Nat
def tw14079845665849598295:=Nat
def tw8839238768390046689:=Nat
def tw6645651711536373489:=Nat
def tw5166580207926665185:=Nat
def tw16898054663471255130:=Nat
def tw6864703570583334924:=Nat
def tw15522068487332980436:=Nat
def tw9251561600644257882:=Nat
def tw3953837363568839763:=Nat
def tw4956259743660229735:=Nat
def tw16083438444292706616:=Nat
def tw11499146343551571739:=Nat
def tw11497889400091397399:=Nat
def tw16110921223184275626:=Nat
def tw16599667581216277149:=Nat
def tw864796361317719066:=Nat
def tw14541042658763082965:=Nat
def tw3190973117661508410:=Nat
def tw15049851376702741561:=Nat
def tw13164743516985208620:=Nat
def tw14783070767381818528:=Nat
def tw4891885055546932722:=Nat
def tw6050476362009269549:=Nat
def tw4474686999617240323:=Nat
def tw15068851312433163628:=Nat
def tw5761587484944256220:=Nat
def tw16171630107220853767:=Nat
def tw4376015083446453119:=Nat
def tw10110688499926734778:=Nat
def tw10922720959418156157:=Nat
def tw681637623991037987:=Nat
def tw7458082278414031446:=Nat
def tw17387557563621047129:=Nat
def tw15299966415251256242:=Nat
def tw17204567886890543389:=Nat
def tw2039303371287697029:=Nat
def tw16134232826761881288:=Nat
def tw12523281324288099090:=Nat
def tw3512958332190807915:=Nat
def tw688482335840456317:=Nat
def tw7647538334423599153:=Nat
def tw12746109529525130847:=Nat
def tw2655627304060526769:=Nat
def tw15089372579827976562:=Nat
def tw14495469819440029433:=Nat
def tw17815186091916847772:=Nat
def tw12425150785818667143:=Nat
def tw12253230514722544089:=Nat
def tw11063724666657374910:=Nat
def tw1667312987199048943:=Nat
def tw9096392705009988296:=Nat
def tw11474380832107383884:=Nat
def tw2539950404435066174:=Nat
def tw4017937611243991613:=Nat
def tw10730074533122391575:=Nat
def tw17822862703160304432:=Nat
def tw16043174488648986030:=Nat
def tw15702733535664273806:=Nat
def tw1718884707670932061:=Nat
def tw12905647151212848359:=Nat
def tw16476049985300890653:=Nat
def tw350324528339419946:=Nat
def tw15560647236974137802:=Nat
def tw3432542721005932061:=Nat
def tw13681949673003457476:=Nat
def tw3771764292915297585:=Nat
def tw13251211244170558070:=Nat
def tw13974964122625815888:=Nat
def tw15678309990022737356:=Nat
def tw5228664516501457713:=Nat
def tw5584583696430859996:=Nat
def tw5306729623273958737:=Nat
def tw11373259472783614013:=Nat
def tw3311229047141868666:=Nat
def tw12256139855282237491:=Nat
def tw2476568158001791848:=Nat
def tw7363782288059794782:=Nat
def tw6390195565287445778:=Nat
def tw15126809643208726737:=Nat
def tw10982972392576566616:=Nat
def tw7338402672510353924:=Nat
def tw3817205659053861480:=Nat
def tw3423065140870861792:=Nat
def tw15518201588545013824:=Nat
def tw17783714520082127632:=Nat
def tw6330527726427144812:=Nat
def tw8566459412679044280:=Nat
def tw1926507197329555717:=Nat
def tw9126571411624069756:=Nat
def tw8504274044457768155:=Nat
def tw17859125447228423850:=Nat
def tw9444050121940510842:=Nat
def tw8373969432409543063:=Nat
def tw2859714280849233688:=Nat
def tw14179760251330809922:=Nat
def tw17279392489455463604:=Nat
def tw6493186384550787844:=Nat
def tw10050740428231736736:=Nat
def tw4802360513481235317:=Nat
def tw370206929946573367:=Nat
def tw9197874490191951417:=Nat
def tw6651815420183554992:=Nat
def tw15560180940681049263:=Nat
def tw9777524685838093008:=Nat
def tw13482050887052576385:=Nat
def tw17685941819697618423:=Nat
def tw7233463554727969987:=Nat
def tw3269568353194002610:=Nat
def tw9233367186057967881:=Nat
def tw1996970642743641706:=Nat
def tw16130155957958399529:=Nat
def tw17757180828414504468:=Nat
def tw2394373414290940339:=Nat
def tw870395200252751385:=Nat
def tw14475944529722922233:=Nat
def tw2485277130350998260:=Nat
def tw15163135542264375459:=Nat
def tw11512282607039222442:=Nat
def tw7757057800169638043:=Nat
def tw168284705708576311:=Nat
def tw4570677532300192831:=Nat
def tw1469210376696115451:=Nat
end PySem.W.Fast
open PySem PySem.W PyProof.Rows
set_option maxRecDepth 100000 in
set_option maxHeartbeats 0 in
theorem PySem.Challenge.cw_turnweave_k35_roads_of_singles_holds : PySem.Challenge.rw_turnweave_k35_roads_of_singles.Holds := by
 w_on;o_law;k_head;(case hw=>w_witness2)
 k_fill
 refine K35.walk (l:=PySem.Challenge.rw_turnweave_k35_roads_of_singles) rfl rfl (λw h Y=>PySem.W.kIn_of Y) ?F
 case F=>
  intro w mg fa h KX G hmg
  refine' K35.all_mk KX G hmg (K35.dfn ?_ ?_ ?_ ?_) (K35.dfn ?_ ?_ ?_ ?_) (K35.dfn ?_ ?_ ?_ ?_) (K35.dfn ?_ ?_ ?_ ?_) (K35.dfn ?_ ?_ ?_ ?_) (K35.dfn ?_ ?_ ?_ ?_) (K35.dfn ?_ ?_ ?_ ?_) (K35.dfn ?_ ?_ ?_ ?_) (K35.dfn ?_ ?_ ?_ ?_) (K35.dfn ?_ ?_ ?_ ?_) (K35.dfn ?_ ?_ ?_ ?_) (K35.dfn ?_ ?_ ?_ ?_) (K35.dfn ?_ ?_ ?_ ?_) (K35.dfn ?_ ?_ ?_ ?_) (K35.dfn ?_ ?_ ?_ ?_) (K35.dfn ?_ ?_ ?_ ?_) (K35.dfn ?_ ?_ ?_ ?_) (K35.dfn ?_ ?_ ?_ ?_) (K35.dfn ?_ ?_ ?_ ?_) (K35.dfn ?_ ?_ ?_ ?_) (K35.dfn ?_ ?_ ?_ ?_) (K35.dfn ?_ ?_ ?_ ?_) (K35.dfn ?_ ?_ ?_ ?_) (K35.dfn ?_ ?_ ?_ ?_) (K35.dfn ?_ ?_ ?_ ?_) (K35.dfn ?_ ?_ ?_ ?_) (K35.dfn ?_ ?_ ?_ ?_) (K35.dfn ?_ ?_ ?_ ?_) (K35.dfn ?_ ?_ ?_ ?_) (K35.dfn ?_ ?_ ?_ ?_) (K35.dfn ?_ ?_ ?_ ?_) (K35.dfn ?_ ?_ ?_ ?_) (K35.dfn ?_ ?_ ?_ ?_) (K35.dfn ?_ ?_ ?_ ?_) (K35.dfn ?_ ?_ ?_ ?_) (K35.dfn ?_ ?_ ?_ ?_) (K35.dfn ?_ ?_ ?_ ?_) (K35.dfn ?_ ?_ ?_ ?_) (K35.dfn ?_ ?_ ?_ ?_) (K35.dfn ?_ ?_ ?_ ?_) (K35.dfn ?_ ?_ ?_ ?_) (K35.dfn ?_ ?_ ?_ ?_) (K35.dfn ?_ ?_ ?_ ?_) (K35.dfn ?_ ?_ ?_ ?_) (K35.dfn ?_ ?_ ?_ ?_) (K35.dfn ?_ ?_ ?_ ?_) (K35.dfn ?_ ?_ ?_ ?_) (K35.dfn ?_ ?_ ?_ ?_) (K35.dfn ?_ ?_ ?_ ?_) ?_ ?_ ?_ ?_ ?_ ?_ ?_ ?_ ?_ ?_ ?_ ?_ ?_ ?_ ?_ ?_ ?_ ?_ ?_ ?_ ?_ ?_ ?_ ?_ ?_ ?_ ?_ ?_ ?_ ?_ ?_ ?_ ?_ ?_ ?_ ?_ ?_ ?_ ?_ ?_ ?_ ?_ ?_ ?_ ?_<;>first |k_is |kit_is | (dsimp only[dX];kit_is) |kts_exm | (delta L2.bmV;k_exc) |skip
end
