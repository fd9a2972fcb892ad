import PyProof.Rows.All
import Wide.All
import OpenK.AllK
import Wide.FinOn
import Lean
import PyProof.EqAt
import PyProof.EqKinds
import PyProof.TupleCall
import PyProof.NeKinds
import PyProof.ListMulRoad
import PyProof.AttrMissHeap
import KE.KDictOf
import KE.KRevIter
import PyProof.ListRange
import KE.KSortTup
import KE.KMinKey
import PyProof.MinMaxWalk
import PyProof.Rows.CallKwBuiltin
import PyProof.Rows.SetFrom
import PyProof.Rows.SeqMore
import PySem.Challenge.RW_turnweave_k38_fewest_and_most
open Option renaming some→ae,isSome_iff_exists→eM,getD_some→eW,map_some→fu,isSome_map→gN,some→i8,getD_none→jf
open PySem renaming Shared→ag,wpAny_bind→ai,wpAny→aj,starEach→am,model→ao,eval→aq,World→az,Pos→aA,wpAny_pure→aD,Program→aE,mainGlobals→aL,backTo→aO,Around→aP,Tok→bc,compareOp→bf,Env→bB,wpAny_field→bE,FuncData→bH,binaryOp→bL,IsPair→bM,Paired→bN,NameKind→bQ,Keyword→bR,bootBuiltins→bS,Builtin→bX,Sem→bY,pyNext→b4,IsZip→b5,tupleKind→cj,wpAny_mono→ck,wpAny_setField_rec→cp,rawInt→cw,assignEach→cy,IsPart→cD,IsEnum→cL,attributeBase→cM,wpAny_seqItems→cN,CmpOp→cO,behindInMarks→cT,atKey→cU,bindC→cV,wpAny_call_entry→cX,pyIter→cZ,wpAny_callSpecial?_slot→c7,bindL→c_,wpAny_pyIter_list→dc,foldedSetIterable→de,getItem→dq,keywordEach→dv,wpAny_passesOwn→dw,callerA→dA,sliceBounds→dB,codeAny→dC,backToKw→dD,sizeLine_eq→dE,wpAny_rule→dF,wpAny_truthy_bool→dG,swapsWith→dI,argBest→dJ,mem_of_lookup→dM,call_meets→dO,wpAny_newObj_type→d6,sysModules→d7,BindsTo→d_,valueAt→er,wpAny_typeOf→eI,storedH→eS,typeOf→eY,PlainAttrs→fe,PassesOwn→fh,preSum→fi,Operator→fv,wpAny_onRaise→fJ,wpAny_execs_nil→fK,post_val_or_str→fU,wpAny_getItem_str_slice→fX,letOwnedTupleGo→fY,Params→fZ,wpAny_letGo→f8,wpAny_attempt→gc,wpAny_holding→gf,ZipApart→gh,IsEnumOut→gj,wpAny_Call_Name_kw→gm,seq_tuple_add→gr,typeIs_str→gw,typeLookup→gx,pick_run→gy,sliceRange_one→gE,noFill_tuple_add→gL,concat_meets→gO,wpAny_updateSeq_pair→gS,lastMarks→hU,builtinsNs→ig,typeIs_int→ii,cellsFrom→ik,call→il,codeAny_mono→iq,wpAny_Name→ir,storeName→iu,wpAny_sequenceKey→ix,wpAny_isInstance→iW,tupleKind_room_in1→i5,wpAny_newTuple→j',wpAny_loadName_cell→jh,getattributeRaised→jm,codeAny_builtin→jp,wpAny_pyIter_zip→jC,wpAny_pyIter_tuple→jD,wpAny_loadName_local→jI,isSubtype_stop→jK,firstArgMember→jW,wpAny_assign_Name→jY,slot_list_getitem→j5,wpAny_pyIter_enum→j6,wpAny_setField→kc,wpAny_execs_cons→kf
open PySem.W renaming Frag→ah,nsIn→aU,mg_of→bi,findIn→bP,mg_none_of→bT,kia_one→cq,mroIn→cP,fnOf→dt,excIn→dL,kitOne→eO,hideAll→eZ,keepIn→e_,hideAll_none→fy,codeIn→gd,hideAll_get→gC,methodObj→gZ,of_hideAll→g_,lookIn→h8,instObj→ia,OpenLaw→ij,WalkO→iw,kitx_dict→iy,kitx_list→iX,cellsFrom_some→je,plainGet→ke
open Or renaming inl→ak,inr→cJ
open List renaming length_map→ap,mem_cons→ax,map_cons→aB,mem_cons_of_mem→aC,getElem?_eq_getElem→aJ,mem_cons_self→aK,mem_map→aM,nil_append→aN,size_toArray→aQ,replicate→aR,mem_singleton→aV,length_cons→aW,getD_eq_getElem?_getD→aY,length_append→aZ,mem_append_right→a8,not_mem_nil→a_,range→ba,mem_append→bb,getElem?_map→bo,mem_of_getElem?→bp,map_append→bq,Nodup→br,append_nil→bv,append_assoc→bw,map_map→bx,getElem?_eq_some_iff→bG,mem_append_left→bO,cons_append→bW,mem_of_find?_eq_some→b6,find?_cons→b7,lookup_cons→cb,replicate_succ→ce,map_nil→cu,map_congr_left→cC,length_drop→cG,take_of_length_le→cI,length_take→cQ,all_eq_true→cW,getElem_mem→c5,drop_zero→c8,flatten_cons→df,drop_of_length_le→di,getElem?_range→dj,length_nil→du,getElem?_append_right→dy,sum_cons→dH,nodup_cons→dP,flatMap_cons→dU,foldl_cons→dZ,getElem?_cons_succ→d5,findSome?_cons→eg,any_cons→eD,length→eE,length_singleton→eF,mem_range→eL,drop_eq_getElem_cons→eQ,flatMap_nil→fD,filterMap_cons→fE,append_cancel_left_eq→fI,all_map→fR,getElem?_cons_zero→fT,length_pos_iff→gg,mem_flatMap→gi,sum_append→gl,getElem?_append_left→gp,range'_succ→gq,range'→gv,range_succ→gz,foldl→gA,range_succ_eq_map→gB,take_length→gD,mem_of_mem_drop→gF,lookup→gI,length_replicate→gT,take_nil→gV,of_mem_zip→gY,getElem?_of_mem→g9,mem_filterMap→hV,getElem?_eq_none→hZ,mem_of_mem_take→ib,getElem_of_mem→ic,forIn_cons→io,mem_filter→ip,find?_eq_none→iA,flatMap_append→iC,take_sublist→iE,find?_some→iF,pairwise_iff_getElem→iG,zipIdx_nil→iJ,take_append_drop→iK,drop_drop→iL,filter_append→iM,append_eq_nil_iff→iS,range_eq_range'→iT,getElem?_drop→iU,getElem?_set_self→iY,zipIdx_cons→i0,getElem?_set_ne→i9,getElem?_replicate→jb,contains_iff_mem→jj,forIn_nil→jn,count_eq_zero_of_not_mem→ju,take_succ→jE,eq_nil_of_length_eq_zero→jJ,take_zero→jL,flatMap_def→jO,pairwise_map→jP,isEmpty_nil→jR,take_add→jX,filter_cons_of_neg→jZ
open Nat renaming le_refl→au,zero_le→aX,le_of_ble_eq_true→bn,ne_of_lt→bt,le_trans→bC,lt_of_lt_of_le→bK,lt_irrefl→bZ,zero_add→ca,ne_of_gt→cE,add_comm→dh,add_mul→dN,le_add_right→dX,add_le_add_left→eB,sub_zero→eC,le_of_eq→eP,min_eq_left→eV,one_le_two_pow→eX,min_eq_right→fx,sub_self→fN,one_mul→fS,add_eq_zero_iff→fW,mul_add→f9,eq_zero_or_pos→ge,lt_succ_of_lt→gu,mul_le_mul_left→gQ,le_of_lt→h9,lt_succ_self→i',max_assoc→i7,le_of_not_lt→jN,mul_eq_zero→jT,mul_le_mul_right→j7
open PySem.Heap renaming lt_size→aF,get?_push_of_some→aH,get?_push_size→bh,size_push→b9,SameBut→cg,ExtBut→gM
open Option.some renaming inj→aI,injEq→bF
open PySem.Str renaming ofString→aS,join→cS,length→gP,empty→gR
open PySem.NameKind renaming free→aT,cell→cx
open Ne renaming symm→bj
open PySem.Value renaming ref→bz,none→cm,bool→dW,str→fg,int→fL,type→gG,isStrOf→jQ
open Int renaming toNat_natCast→bU,emod_nonneg→b8,emod_lt_of_pos→ci,toNat_of_nonneg→cr,le_refl→fQ,eq_ofNat_of_zero_le→jV
open PyProof.Rows renaming AllBare→b_,envOfC→cf,boot_int→c9,IntsAre→dQ,IsTup→dR,slot_tuple_getitem→eA,callWith_type1→fB,entry_tuple_getitem→iO,args_tuple_getitem→i4,subscriptTail_builtinR→jk,boot_tuple→jH,slicePart_none→jS
open Bool renaming and_eq_true→cc,false_ne_true→cR,and_false→eG,eq_iff_iff→eJ,false_eq_true→fA,or_eq_true→i6,false_or→j3,true_and→j9,or_false→j_
open False renaming elim→cA
open PySem.Txt renaming slice→cF,upper→dk
open PySem.Builtin.Str renaming occurrences→cH,strSliceIndices→gb
open PySem.Builtin.SmallTypes renaming nextOf→cK,ownedTupleIsFree→dS,ownedTupleHandOut→fG
open Sum renaming inr→c6
open True renaming intro→dn
open And renaming intro→dY
open PySem.Builtin.List renaming listTooLong→d8
open PySem.SeqAt renaming EqAt→d9,RcNeAt→eH,RcAt→eT
open ForInStep renaming yield→ef
open PySem.Paired renaming length→eK
open PySem.Walks renaming list→eN
open Eq renaming trans→eU
open LawfulBEq renaming eq_of_beq→fj
open PySem.F renaming slot_enumerate_next→fo,slot_tuple_iterator_next→fF,slot_zip_next→fM,args_tuple_add_2→gk,slot_list_getattribute→gn,slot_tuple_add→gJ,plainAttrs_list→gK,entry_tuple_add→im,entry_tuple_iterator_next→iz,excBase_ValueError→iP,args_list_extend_2→iQ,args_enumerate_next_1→iR,slot_list_extend→i_,entry_enumerate_next→jc,entry_list_extend→jd,args_tuple_iterator_next_1→jr,entry_zip_next→jx,args_zip_next_1→jA,slot_int_rmul→jM,plainAttrs_str→j4
open LawfulMonad renaming pure_bind→fH
open PySem.Builtin.Tuple renaming tupleExact→fO,tupleItemsOf→jq
open PySem.Builtin.Slice renaming slicePlaces→f7,sliceAdjust→iv,sliceApplied→jF
open List.cons renaming injEq→f_
open PySem.Obj renaming mapSeq→gH,data_mapFields→iD
open Prod renaming snd→gU
open Array renaming length_toList→gX,toList_append→hX,append_assoc→iH
open PyProof.Rows.IsTup renaming new→h_
open PySem.Calls renaming callWith_builtin→iB,evalArgs_plain→iZ,Name_function_global→j8
open Function renaming comp→iI
open PySem.Heap.SameBut renaming update→iV
open PySem.Builtin.Dict renaming updateFrom→ja
open PySem.Around renaming under_plainId→jo
open Prod.mk renaming injEq→jG
open List.Pairwise renaming imp_of_mem→jU
open PySem.AutoSeq1 renaming wpAny_loadPart'→kg
set_option Elab.async false
set_option compiler.extract_closed false
set_option linter.all false
set_option maxRecDepth 100000
set_option maxHeartbeats 4000000
section
namespace L2
open PySem PySem.Spec PyProof.Rows
abbrev Key:=Sum Int Str
noncomputable def znf:Key→Value→Bool
 | .inl k,v=>Value.isInt k v
 | .inr x,v=>jQ x v
noncomputable def zAx (w:az):Key→Int
 | .inl k=>hashInt k
 | .inr x=>hashStr w x
theorem zbm:∀{k:Key}{v:Value},znf k v=true→(∃i t,k=Sum.inl i∧v=fL i t)∨(∃x t,k=c6 x∧v=fg x t)
 | .inl i,v,h=>by
  obtain⟨t,e⟩:=Value.isInt_shape (k:=i) (v:=v) h;exact .inl ⟨i,t,rfl,e⟩
 | .inr x,v,h=>by
  obtain⟨t,e⟩:=Value.isStrOf_shape (x:=x) (v:=v) h;exact .inr ⟨x,t,rfl,e⟩
theorem zpG (i:Int) (t:bc):znf (.inl i) (.int i t)=true:=by simp [znf,Value.isInt]
theorem zob (x:Str) (t:bc):znf (.inr x) (.str x t)=true:=by simp [znf,jQ]
theorem zwI (a b:Int):decide ((Sum.inl a:Key)=Sum.inl b)=(a == b):=by
 by_cases e:a=b
 ·subst e;simp
 ·have h:¬(Sum.inl a:Key)=Sum.inl b:=λq=>e (Sum.inl.inj q);rw[decide_eq_false h];exact(beq_eq_false_iff_ne.mpr e).symm
theorem zxt (a b:Str):decide ((c6 a:Key)=c6 b)=decide (a=b):=by
 by_cases e:a=b
 ·subst e;simp
 ·have h:¬(c6 a:Key)=c6 b:=λq=>e (c6.inj q);rw[decide_eq_false h,decide_eq_false e]
theorem zxO (a:Int) (b:Str):decide ((Sum.inl a:Key)=c6 b)=false:=decide_eq_false (λq=>nomatch q)
theorem zvI (a:Str) (b:Int):decide ((c6 a:Key)=Sum.inl b)=false:=decide_eq_false (λq=>nomatch q)
noncomputable def zbv (prog:aE) (w:az):PySem.KeyKind prog w Key where
  is:=znf
  hash:=zAx w
  inj:=λv a b ha hb=>by
    rcases zbm ha with⟨i,t,rfl,rfl⟩ |⟨x,t,rfl,rfl⟩
    · rcases zbm hb with⟨j,u,rfl,e⟩ |⟨y,u,rfl,e⟩
      · injection e with e1 _;rw[e1]
      · exact nomatch e
    · rcases zbm hb with⟨j,u,rfl,e⟩ |⟨y,u,rfl,e⟩
      · exact nomatch e
      · injection e with e1 _;rw[e1]
  byValue:=λk v h=>by
    rcases zbm h with⟨i,t,rfl,rfl⟩ |⟨x,t,rfl,rfl⟩<;>rfl
  pyHash:=λhv h=>by
    rcases zbm hv with⟨i,t,rfl,rfl⟩ |⟨x,t,rfl,rfl⟩
    · exact wpAny_pyHash_int h
    · exact wpAny_pyHash_str h
  eqBool:=λhu hv h=>by
    rcases zbm hu with⟨i,t,rfl,rfl⟩ |⟨x,t,rfl,rfl⟩
    · rcases zbm hv with⟨j,u,rfl,rfl⟩ |⟨y,u,rfl,rfl⟩
      · rw[zwI]at h;exact wpAny_eqBool_int h
      · rw[zxO]at h;exact d9.int_str i t y u _ _ _ _ h
    · rcases zbm hv with⟨j,u,rfl,rfl⟩ |⟨y,u,rfl,rfl⟩
      · rw[zvI]at h;exact d9.str_int x t j u _ _ _ _ h
      · rw[zxt]at h;exact wpAny_eqBool_str h
  «strs» :=λk x t v h=>by
    rcases zbm h with⟨i,u,rfl,e⟩ |⟨y,u,rfl,e⟩
    · exact nomatch e
    · injection e with e1 _;subst e1;cases v<;>rfl
theorem zjY (prog:aE) (w:az) (i:Int) (t:bc):(zbv prog w).is (.inl i) (.int i t)=true:=zpG i t
theorem zka (prog:aE) (w:az) (x:Str) (t:bc):(zbv prog w).is (.inr x) (.str x t)=true:=zob x t
inductive V where
  |non |bl (b:Bool) |int (i:Int) |str (x:Str) |byt (b:Array UInt8) |flt (b:UInt64) |ref (a:Addr) |ty (n:String)
  deriving DecidableEq
noncomputable def RelV:V→Value→Prop
 | .non,u=>u=cm
 | .bl b,u=>u=dW b
 | .int i,u=>∃t,u=fL i t
 | .str x,u=>∃t,u=fg x t
 | .byt b,u=>∃t,u=Value.bytes b t
 | .flt b,u=>∃t,u=Value.float b t
 | .ref a,u=>u=bz a
 | .ty n,u=>u=gG n
noncomputable abbrev Vals:List V→List Value→Prop:=bN RelV
theorem Vals.length{xs:List V}{us:List Value}(r:Vals xs us):xs.length=us.length:=eK r
theorem Vals.get:∀{xs:List V}{us:List Value}{i:Nat}{x:V},Vals xs us→xs[i]? =ae x→ ∃u,us[i]? =ae u∧RelV x u
 |_,_,_,_, .nil,e=>by simp at e
 |_,_,0,_, .cons r _,e=>by simp at e;subst e;exact⟨_,rfl,r⟩
 |_,_,i+1,x, .cons _ t,e=>by
  obtain⟨u,h1,h2⟩:=Vals.get (i:=i) (x:=x) t (by simpa using e);exact⟨u,by simpa using h1,h2⟩
theorem Vals.append:∀{xs ys:List V}{us ws:List Value},Vals xs us→Vals ys ws→Vals (xs++ys) (us++ws)
 |_,_,_,_, .nil,s=>s
 |_,_,_,_, .cons r t,s=> .cons r (Vals.append t s)
theorem Vals.take:∀{xs:List V}{us:List Value}(n:Nat),Vals xs us→Vals (xs.take n) (us.take n)
 |_,_,0,_=> .nil
 |_,_,_+1, .nil=> .nil
 |_,_,n+1, .cons r t=> .cons r (Vals.take n t)
theorem Vals.drop:∀{xs:List V}{us:List Value}(n:Nat),Vals xs us→Vals (xs.drop n) (us.drop n)
 |_,_,0,r=>r
 |_,_,_+1, .nil=> .nil
 |_,_,n+1, .cons _ t=>Vals.drop n t
noncomputable def RelO:Option V→Option Value→Prop
 |some v,ae u=>RelV v u
 |none,none=>True
 |_,_=>False
def KV {κ:Type}:List (κ×V)→List (κ×Value)→Prop:=bN λ(p:κ×V) (q:κ×Value)=>p.1=q.1∧RelV p.2 q.2
noncomputable def kV:Key→V
 | .inl i=> .int i
 | .inr x=> .str x
inductive HO where
    |lst (xs:List V)
    |tup (xs:List V)
    |dK (kvs:List (Key×V)) |dT (kvs:List (List Key×V))
    |set (S:Int→Bool) (n:Nat)
    |ins (C dx:Addr) (fs:List (Str×V))
    |own (x:Addr)
    |xd (fs:List (Str×V))
    |met (f x:Addr)
    |rng (lo hi:Int)
    |frz (o:Obj) (u:HO)
    |tbl (ps:Array Value)
    |ext (φ:Heap→Prop)
abbrev Hp:=Addr→Option HO
noncomputable def upd (H:Hp) (a:Addr) (o:HO):Hp:=λb=>if b=a then ae o else H b
theorem zaF{H:Hp}{a:Addr}{o:HO}:upd H a o a=ae o:=by unfold upd;rw[if_pos rfl]
theorem zax{H:Hp}{a b:Addr}{o:HO}(h:b≠a):upd H a o b=H b:=by unfold upd;rw[if_neg h]
theorem zqW{H:Hp}{a b:Addr}{o u:HO}(h:H a=ae o) (h':H b=ae u) (d:o≠u):a≠b:=by
 intro e;subst e;rw[h]at h';exact d (aI h')
theorem zar{H:Hp}{a b:Addr}{o:HO}(h:H a=ae o) (h':H b=none):a≠b:=by
 intro e;subst e;rw[h]at h';cases h'
section
variable (P:aE) (w:az)
noncomputable def ObjOk (H:Hp) (h:Heap) (a:Addr):HO→Prop
 | .lst xs=>xs.length≤sizeLine∧ ∃(its:List Value) (n:Nat),Vals xs its∧h.get? a=ae { cls:= .type "list",data:= .seq its.toArray n }
 | .tup xs=>xs.length≤sizeLine∧ ∃its:List Value,Vals xs its∧dR h a its.toArray
 | .dK kvs=>kvs.length≤sizeLine∧(a == d7)=false∧ ∃vs,KV kvs vs∧h.DictOf (zbv P w) a vs
 | .dT kvs=>kvs.length≤sizeLine∧(a == d7)=false∧ ∃xs:List (List Key×Addr×Value),
   bN (λ(p:List Key×V) (q:List Key×Addr×Value)=>p.1=q.1∧H q.2.1=ae (.tup (p.1.map kV))∧RelV p.2 q.2.2) kvs xs∧
   ∃o es ep,h.get? a=ae o∧o.ExactDict∧o.data= .dict es ep∧es.toList=xs.map (entryOfKey (cj (zbv P w)))∧(xs.map (·.1)).Nodup
 | .set S n=>h.SetOf (intKind P w) a S n
 | .ins C dx fs=>H dx=ae (.own a)∧fs.length≤1000∧dx≠a∧h.get? a=ae (ia C dx)∧
   ∃mA,h.Ns1 dx mA∧(∀f,RelO (fs.lookup f) (mA f))∧PySem.Within mA (fs.map (·.1))
 | .own _=>∃o,h.get? a=ae o
 | .xd fs=>∃mA,h.Ns1 a mA∧ ∀f,RelO (fs.lookup f) (mA f)
 | .rng lo hi=>∃t u v,h.get? a=ae { cls:= .type "range",data:= .fields #[.int lo t, .int hi u, .int 1 v] }
 | .frz o u=>h.get? a=ae o∧ObjOk H h a u
 | .tbl ps=>h.get? a=ae { cls:= .none,data:= .fields ps }
 | .met f x=>h.get? a=ae (gZ (.ref f) (.ref x))
 | .ext φ=>φ h∧(∃o,h.get? a=ae o)∧ ∀h1 h2:Heap,φ h1→(∀o,h1.get? a=ae o→h2.get? a=ae o)→φ h2
def HOk (H:Hp) (h:Heap):Prop:=∀a o,H a=ae o→ObjOk P w H h a o
end
section
variable {P:aE}{w:az}{H H':Hp}{h h':Heap}{a:Addr}{o:HO}
theorem ObjOk.lt (x:ObjOk P w H h a o):a<h.objs.size:=by
 cases o with
 |lst xs=>obtain⟨_,_,_,_,e⟩:=x;exact aF e
 |tup xs=>obtain⟨_,_,_,p⟩:=x;exact p.lt
 |dK kvs=>obtain⟨_,_,_,_,o,_,_,e,_⟩:=x;exact aF e
 |dT kvs=>obtain⟨_,_,_,_,o,_,_,e,_⟩:=x;exact aF e
 |set S n=>obtain⟨o,_,_,_,e,_⟩:=x;exact aF e
 |ins C dx fs=>obtain⟨_,_,_,e,_⟩:=x;exact aF e
 |own y=>obtain⟨_,e⟩:=x;exact aF e
 |xd fs=>obtain⟨_,⟨_,_,_,e,_⟩,_⟩:=x;exact aF e
 |rng lo hi=>obtain⟨_,_,_,e⟩:=x;exact aF e
 |frz ob u=>obtain⟨e,_⟩:=x;exact aF e
 |tbl ps=>exact aF (show h.get? a=ae _ from x)
 |met f y=>exact aF (show h.get? a=ae _ from x)
 |ext φ=>obtain⟨_,⟨_,e⟩,_⟩:=x;exact aF e
theorem Paired.mapP{α β:Type}{F G:α→β→Prop}:∀{l₁:List α}{l₂:List β},bN F l₁ l₂→(∀a b,F a b→G a b)→bN G l₁ l₂
 |_,_, .nil,_=> .nil
 |_,_, .cons r t,f=> .cons (f _ _ r) (Paired.mapP t f)
theorem ObjOk.stay (x:ObjOk P w H h a o) (k:∀b u,(b=a∨H b=ae (.own a))→h.get? b=ae u→h'.get? b=ae u)
  (ho:∀b,H b=ae (.own a)→H' b=ae (.own a)) (ht:∀b xs,H b=ae (.tup xs)→H' b=ae (.tup xs)):ObjOk P w H' h' a o:=by
 induction o with
 |lst xs=>obtain⟨z,its,n,r,e⟩:=x;exact⟨z,its,n,r,k _ _ (.inl rfl) e⟩
 |tup xs=>obtain⟨z,its,r,ob,e,c⟩:=x;exact⟨z,its,r,ob,k _ _ (.inl rfl) e,c⟩
 |dK kvs=>obtain⟨z,y,vs,r,ob,es,ep,e,c⟩:=x;exact⟨z,y,vs,r,ob,es,ep,k _ _ (.inl rfl) e,c⟩
 |dT kvs=>
  obtain⟨z,y,xs,r,ob,es,ep,e,c⟩:=x;exact⟨z,y,xs,Paired.mapP r λp q z=>⟨z.1,ht _ _ z.2.1,z.2.2⟩,ob,es,ep,k _ _ (.inl rfl) e,c⟩
 |set S n=>obtain⟨ob,es,ep,t,e,c⟩:=x;exact⟨ob,es,ep,t,k _ _ (.inl rfl) e,c⟩
 |ins C dx fs=>
  obtain⟨d,z,ne,e,mA,⟨od,es,ep,e2,c⟩,r⟩:=x;exact⟨ho _ d,z,ne,k _ _ (.inl rfl) e,mA,⟨od,es,ep,k _ _ (.inr d) e2,c⟩,r⟩
 |own y=>obtain⟨ob,e⟩:=x;exact⟨ob,k _ _ (.inl rfl) e⟩
 |xd fs=>obtain⟨mA,⟨od,es,ep,e,c⟩,r⟩:=x;exact⟨mA,⟨od,es,ep,k _ _ (.inl rfl) e,c⟩,r⟩
 |rng lo hi=>obtain⟨t,u,v,e⟩:=x;exact⟨t,u,v,k _ _ (.inl rfl) e⟩
 |frz ob u ih=>obtain⟨e,q⟩:=x;exact⟨k _ _ (.inl rfl) e,ih q⟩
 |tbl ps=>
  have e:h.get? a=ae { cls:= .none,data:= .fields ps }:=x;show h'.get? a=ae { cls:= .none,data:= .fields ps };exact k a _ (.inl rfl) e
 |met f y=>
  have e:h.get? a=ae (gZ (.ref f) (.ref y)):=x;show h'.get? a=ae (gZ (.ref f) (.ref y));exact k a _ (.inl rfl) e
 |ext φ=>obtain⟨p,⟨o,e⟩,st⟩:=x;exact⟨st _ _ p λo q=>k _ _ (.inl rfl) q,⟨o,k _ _ (.inl rfl) e⟩,st⟩
theorem HOk.lt (x:HOk P w H h) (e:H a=ae o):a<h.objs.size:=(x a o e).lt
theorem HOk.fresh (x:HOk P w H h) (e:h.objs.size≤a):H a=none:=by
 cases q:H a with
 |none=>rfl
 |some u=>exact absurd (bK (x.lt q) e) (bZ _)
theorem HOk.kept (x:HOk P w H h) (k:∀b u,h.get? b=ae u→h'.get? b=ae u):HOk P w H h':=λa o e=>
 (x a o e).stay (λb u _ q=>k b u q) (λ_ q=>q) λ_ _ q=>q
theorem HOk.laid (x:HOk P w H h) (k:∀b u,h.get? b=ae u→h'.get? b=ae u) (hp:h.objs.size≤a) (new:ObjOk P w (upd H a o) h' a o):HOk P w (upd H a o) h':=λb u e=>by
 have hn:=x.fresh hp;by_cases hb:b=a
 ·subst hb;rw[zaF]at e;cases e;exact new
 ·rw[zax hb]at e;exact(x b u e).stay (λc v _ q=>k c v q) (λc q=>by rw[zax (zar q hn)];exact q) λc xs q=>by rw[zax (zar q hn)];exact q
end
def Rd (H:Hp) (a:Addr) (u:HO):Prop:=H a=ae u∨ ∃o,H a=ae (.frz o u)
theorem Rd.ok{P:aE}{w:az}{H:Hp}{h:Heap}{a:Addr}{u:HO}(r:Rd H a u) (x:HOk P w H h):ObjOk P w H h a u:=by
 rcases r with r |⟨o,r⟩
 ·exact x a u r
 ·obtain⟨_,q⟩:=x a _ r;exact q
noncomputable def Mut:Option HO→Prop
 |some (.lst _)=>True
 |some (.dK _)=>True
 |some (.dT _)=>True
 |some (.set _ _)=>True
 |some (.ins _ _ _)=>True
 |some (.ext _)=>True
 |_=>False
section
variable {P:aE}{w:az}{H:Hp}{h h':Heap}{x e:Addr}{o':HO}
theorem HOk.write (ok:HOk P w H h) (mu:Mut (H x)) (he:e=x∨H e=ae (.own x)) (k:∀b u,b≠e→h.get? b=ae u→h'.get? b=ae u) (heo:∃u,h'.get? e=ae u)
  (new:ObjOk P w (upd H x o') h' x o'):HOk P w (upd H x o') h':=λb u q=>by
 have nown:∀c y,H c=ae (.own y)→c≠x:=λc y r z=>by subst z;rw[r]at mu;exact mu
 have ntup:∀c xs,H c=ae (.tup xs)→c≠x:=λc xs r z=>by subst z;rw[r]at mu;exact mu
 by_cases hb:b=x
 ·subst hb;rw[zaF]at q;cases q;exact new
 ·rw[zax hb]at q;by_cases hbe:b=e
  ·have q':H b=ae (.own x):=by
    rcases he with z |z
    ·exact absurd (hbe.trans z) hb
    ·rw[hbe];exact z
   rw[q]at q';cases q';obtain⟨v,hv⟩:=heo;exact⟨v,by rw[hbe];exact hv⟩
  ·refine(ok b u q).stay (λc v hc r=>k c v ?_ r) (λc r=>by rw[zax (nown c b r)];exact r) λc xs r=>by rw[zax (ntup c xs r)];exact r
   rcases hc with rfl |hc
   ·exact hbe
   ·rintro rfl;rcases he with z |z
    ·exact nown c b hc z
    ·rw[hc]at z;cases z;exact hb rfl
end
structure Un (fs ex:List Addr) (H H':Hp) (h h':Heap):Prop where
  keep:∀b o,h.get? b=ae o→H b=none→b∉fs→b∉ex→h'.get? b=ae o
  slot:∀b o,h.get? b=ae o→H b=none→b∈fs→b∉ex→ ∃sl,h'.get? b=ae { o with slots:=sl }
  free:∀b o,h.get? b=ae o→H b=none→b∉ex→H' b=none
  there:∀b o,h.get? b=ae o→b∉ex→ ∃o',h'.get? b=ae o'
  tups:∀b xs,H b=ae (.tup xs)→H' b=ae (.tup xs)
  frzs:∀b o u,H b=ae (.frz o u)→H' b=ae (.frz o u)
  tbls:∀b ps,H b=ae (.tbl ps)→ ∃more,H' b=ae (.tbl (ps++more))
section
variable {fs ex:List Addr}{H H1 H2:Hp}{h h1 h2 h':Heap}{a x e:Addr}{o:HO}
theorem Un.any (u:Un fs ex H H1 h h1) {b:Addr}{ob:Obj}(q:h.get? b=ae ob) (n:H b=none) (hx:b∉ex):∃sl,h1.get? b=ae { ob with slots:=sl }:=by
 by_cases hb:b∈fs
 ·exact u.slot b ob q n hb hx
 ·exact⟨ob.slots,u.keep b ob q n hb hx⟩
theorem Un.trans (a:Un fs ex H H1 h h1) (b:Un fs ex H1 H2 h1 h2):Un fs ex H H2 h h2 where
  keep:=λc ob q n hc hx=>b.keep c ob (a.keep c ob q n hc hx) (a.free c ob q n hx) hc hx
  slot:=λc ob q n hc hx=>by
    obtain⟨sl,e1⟩:=a.slot c ob q n hc hx;obtain⟨sl',e2⟩:=b.slot c _ e1 (a.free c ob q n hx) hc hx;exact⟨sl',e2⟩
  free:=λc ob q n hx=>by
    obtain⟨o',e1⟩:=a.there c ob q hx;exact b.free c o' e1 (a.free c ob q n hx) hx
  there:=λc ob q hx=>by
    obtain⟨o',e1⟩:=a.there c ob q hx;exact b.there c o' e1 hx
  tups:=λc xs q=>b.tups c xs (a.tups c xs q)
  frzs:=λc ob xs q=>b.frzs c ob xs (a.frzs c ob xs q)
  tbls:=λc ps q=>by
    obtain⟨m1,e1⟩:=a.tbls c ps q;obtain⟨m2,e2⟩:=b.tbls c _ e1;exact⟨m1++m2,by rw[e2,iH]⟩
theorem Un.kept (k:∀b u,h.get? b=ae u→h'.get? b=ae u):Un fs ex H H h h':=
 ⟨λb ob q _ _ _=>k b ob q,λb ob q _ _ _=>⟨ob.slots,k b ob q⟩,λ_ _ _ n _=>n,λb ob q _=>⟨ob,k b ob q⟩,λ_ _ q=>q,λ_ _ _ q=>q,λ_ ps q=>⟨#[],by rw[q];simp⟩⟩
theorem Un.refl:Un fs ex H H h h:=Un.kept λ_ _ q=>q
theorem Un.laid (k:∀b u,h.get? b=ae u→h'.get? b=ae u) (hp:h.objs.size≤a) (hn:H a=none):Un fs ex H (upd H a o) h h' where
  keep:=λb u q _ _ _=>k b u q
  slot:=λb u q _ _ _=>⟨u.slots,k b u q⟩
  free:=λb u q n _=>by rw[zax (bt (bK (aF q) hp))];exact n
  there:=λb u q _=>⟨u,k b u q⟩
  tups:=λb xs q=>by rw[zax (zar q hn)];exact q
  frzs:=λb u xs q=>by rw[zax (zar q hn)];exact q
  tbls:=λb ps q=>⟨#[],by rw[zax (zar q hn),q];simp⟩
theorem Un.write (mu:Mut (H x)) (he:e=x∨H e=ae (.own x)) (k:∀b u,b≠e→h.get? b=ae u→h'.get? b=ae u) (heo:∃u,h'.get? e=ae u):Un fs ex H (upd H x o) h h':=by
 have hx:∀b,H b=none→b≠x:=λb n z=>by subst z;rw[n]at mu;exact mu
 have hb:∀b,H b=none→b≠e:=λb n z=>by
  subst z;rcases he with r |r
  ·exact hx b n r
  ·rw[n]at r;cases r
 have hm:∀b u,H b=ae u→ ¬Mut (ae u)→b≠x:=λb u q nm z=>by subst z;rw[q]at mu;exact nm mu
 refine⟨λb u q n _ _=>k b u (hb b n) q,λb u q n _ _=>⟨u.slots,k b u (hb b n) q⟩,λb u q n _=>by rw[zax (hx b n)];exact n,λb u q _=>?_,
  λb xs q=>by rw[zax (hm b _ q λz=>z)];exact q,λb u xs q=>by rw[zax (hm b _ q λz=>z)];exact q,λb ps q=>⟨#[],by rw[zax (hm b _ q λz=>z),q];simp⟩⟩
 by_cases hbe:b=e
 ·subst hbe;exact heo
 ·exact⟨u,k b u hbe q⟩
end
noncomputable def trk (h:Heap) (H:Hp):List Addr:=(ba h.objs.size).filter λa=>(H a).isSome
noncomputable def zqU (h:Heap) (H:Hp):Heap:=eZ h (trk h H)
theorem zqf (h:Heap) (H:Hp):(zqU h H).objs.size=h.objs.size:=PySem.W.hideAll_size _ _
theorem zse{h:Heap}{H:Hp}{b:Addr}{o:Obj}(e:h.get? b=ae o) (n:H b=none):(zqU h H).get? b=ae o:=
 gC _ e λhm=>by
  have q:(H b).isSome=true:=(ip.mp hm).2;rw[n]at q;simp at q
theorem ztx{h:Heap}{H:Hp}{b:Addr}{o:Obj}(e:(zqU h H).get? b=ae o):h.get? b=ae o∧H b=none:=by
 have e':h.get? b=ae o:=g_ (trk h H) e;refine⟨e',?_⟩;cases q:H b with
 |none=>rfl
 |some x=>
  have hm:b∈trk h H:=ip.mpr ⟨eL.mpr (aF e'),by simp [q]⟩
  have z:(zqU h H).get? b=none:=fy (trk h H) hm;rw[z]at e;cases e
noncomputable def zvc (g h:Heap) (L:Addr):List (Addr×Obj):=(ba h.objs.size).filterMap λa=>if a=L∨(g.get? a).isSome=true then none else(h.get? a).map λo=>(a,o)
noncomputable def rest (g h:Heap) (L d:Addr):List (Addr×Obj):=(zvc g h L).filter λp=>decide (p.1≠d)
structure Mod (K:ah) (mg:Str→Option Value) (base:Heap):Prop where
  kin:K.In base
  glob:base.Ns aL mg
  blt:∃mb,base.Ns ig mb∧ ∀x:Str,x≠ "__name__" →mb x=bS x
  nolimit:base.NoLimit
structure Cx where
  prog:aE
  w:az
  K:ah
  mg:Str→Option Value
  base:Heap
  A:aP
  N:List Str
  s₀:ag
  H₀:Hp
  env:bB
  outer:List bB
  stack:List bB
  ex:List Addr
  fn:Str→Bool
  calm:Bool
  pn:List (Addr×Obj)
  xe:Value→ag→Prop
noncomputable def frs (l:List bB):List Addr:=l.filterMap (·.frame)
noncomputable abbrev Cx.fs (X:Cx):List Addr:=frs X.outer
def Vis (sc:Scope) (x:Str):Prop:=sc.names.lookup x=ae .local∨sc.names.lookup x=ae .cell∨sc.names.lookup x=ae .free
def Loc (sc:Scope) (x:Str):Prop:=sc.names.lookup x=ae .local∨sc.names.lookup x=ae .cell
def zAv (env:bB) (h:Heap) (m:Str→Option Value) (x:Str) (u:Value):Prop:=
 (env.kindOf x=ae .local∧m x=ae u)∨((env.kindOf x=ae .cell∨env.kindOf x=ae .free)∧ ∃c,env.cells.lookup x=ae c∧h.IsCell c (ae u))
structure Cx.Ok (X:Cx):Prop where
  mod:Mod X.K X.mg X.base
  kind:X.env.scope.kind= .function
  glob:X.env.globals=aL
  blt:X.env.builtins=ig
  above:X.s₀.heap.objs.size≤X.env.locals
  inj:∀x y c,X.env.cells.lookup x=ae c→X.env.cells.lookup y=ae c→x=y
  has:∀x,(X.env.kindOf x=ae .cell∨X.env.kindOf x=ae .free)→ ∃c,X.env.cells.lookup x=ae c
  cab:∀x c,X.fn x=true→X.env.cells.lookup x=ae c→X.s₀.heap.objs.size≤c
  hd:X.calm=true→X.A.handled=none
  frames:X.A.frames=ae X.stack
  stk:X.stack=X.outer∨(X.stack=X.env::X.outer∧X.env.frame=ae X.env.locals)
  exf:∀b∈X.ex,b≠X.env.locals∧ ∀x c,X.env.cells.lookup x=ae c→c≠b
  bs:∀b o,X.base.get? b=ae o→X.s₀.heap.get? b=ae o∧X.H₀ b=none
  bsz:X.base.objs.size≤X.s₀.heap.objs.size
  noex:∀b o,X.base.get? b=ae o→b∉X.ex
  exfs:∀b∈X.ex,b∉X.fs
  funs:X.s₀.heap.FunFrames X.base X.outer
  frf:∀b∈X.fs,X.H₀ b=none
structure Inv (X:Cx) (pins:List (Addr×Obj)) (σ:List (Option V)) (H:Hp) (s:ag):Prop where
  ok:X.Ok
  os:s.os=X.s₀.os
  bare:b_ s.gens
  base:Un X.fs X.ex X.H₀ H X.s₀.heap s.heap
  loc:∃m,s.heap.Ns X.env.locals m∧ ∀(i:Nat) (x:Str) (v:V),X.N[i]? =ae x→σ[i]? =ae (ae v)→Vis X.env.scope x→ ∃u,RelV v u∧zAv X.env s.heap m x u
  cell:∀x c,X.env.cells.lookup x=ae c→ ∃v,s.heap.IsCell c v
  free:H X.env.locals=none
  freeC:∀x c,X.env.cells.lookup x=ae c→H c=none
  pin:∀p∈X.pn++pins,s.heap.get? p.1=ae p.2∧H p.1=none∧p.1≠X.env.locals∧p.1∉X.fs∧ ∀v,p.2.data≠ .cell v
  hok:HOk X.prog X.w H s.heap
  len:σ.length=X.N.length
section
variable {X:Cx}{pins:List (Addr×Obj)}{σ:List (Option V)}{H H':Hp}{s:ag}{h':Heap}
theorem Cx.Ok.nofr (ok:X.Ok) {b:Addr}{o:Obj}(e:X.base.get? b=ae o):b∉X.fs:=λhb=>by
 have:=(ok.funs.mem hb).1;rw[e]at this;cases this
theorem Inv.bs (I:Inv X pins σ H s):∀b o,X.base.get? b=ae o→s.heap.get? b=ae o∧H b=none:=λb o e=>
 ⟨I.base.keep b o (I.ok.bs b o e).1 (I.ok.bs b o e).2 (I.ok.nofr e) (I.ok.noex b o e),I.base.free b o (I.ok.bs b o e).1 (I.ok.bs b o e).2 (I.ok.noex b o e)⟩
theorem Inv.bk (I:Inv X pins σ H s):∀b o,X.base.get? b=ae o→s.heap.get? b=ae o:=λb o e=>(I.bs b o e).1
theorem Inv.mod (I:Inv X pins σ H s):Mod X.K X.mg X.base:=I.ok.mod
theorem Inv.kIn (I:Inv X pins σ H s):X.K.In s.heap:=I.ok.mod.kin.keeps I.bk
theorem Inv.lt (I:Inv X pins σ H s):X.env.locals<s.heap.objs.size:=let ⟨_,hn,_⟩:=I.loc;hn.lt
theorem Inv.sz (I:Inv X pins σ H s):X.s₀.heap.objs.size≤s.heap.objs.size:=bC I.ok.above (h9 I.lt)
theorem Inv.nofs (I:Inv X pins σ H s) {a:Addr}(h:s.heap.objs.size≤a):a∉X.fs:=λhb=>by
 obtain⟨_,o,ho,_⟩:=I.ok.funs.mem hb;exact absurd (bK (aF ho) (bC I.sz h)) (bZ _)
theorem Inv.cne (I:Inv X pins σ H s):∀x c,X.env.cells.lookup x=ae c→c≠X.env.locals:=λx c e z=>by
 obtain⟨v,o,ho,hd⟩:=I.cell x c e;obtain⟨m,⟨o',es,ep,ho',hd',_⟩,_⟩:=I.loc;rw[z,ho']at ho;cases ho;rw[hd']at hd;cases hd
theorem Inv.funs (I:Inv X pins σ H s):s.heap.FunFrames X.base X.outer:=by
 have all:∀(l:List bB),(∀b∈frs l,b∈X.fs)→X.s₀.heap.FunFrames X.base l→s.heap.FunFrames X.base l:=by
  intro l
  induction l with
  |nil=>intro _ _;trivial
  |cons env r ih=>
   intro hs hl;obtain⟨hk,⟨L,o,hf,hn,ho,hd⟩,hr⟩:=hl;have hL:L∈X.fs:=hs L (by unfold frs;rw[fE,hf];exact aK);obtain⟨sl,e⟩:=I.base.slot L o ho (I.ok.frf L hL) hL λz=>I.ok.exfs L z hL;exact⟨hk,⟨L,_,hf,hn,e,hd⟩,ih (λb hb=>hs b (by unfold frs;rw[fE,hf];exact aC _ hb)) hr⟩
 exact all X.outer (λ_ hb=>hb) I.ok.funs
theorem Inv.stack (I:Inv X pins σ H s):s.heap.FunFrames X.base X.stack:=by
 rcases I.ok.stk with e |⟨e,hf⟩
 ·rw[e];exact I.funs
 ·rw[e];obtain⟨m,hn,_⟩:=I.loc;refine .cons (by rw[I.ok.kind];decide) hf hn ?_ I.funs;exact Heap.get?_none_of_le (bC I.ok.bsz I.ok.above)
theorem Inv.stkSub (I:Inv X pins σ H s):∀b∈frs X.stack,b∈X.env.locals::X.fs:=λb hb=>by
 rcases I.ok.stk with e |⟨e,hf⟩
 ·rw[e]at hb;exact aC _ hb
 ·rw[e]at hb;unfold frs at hb;rw[fE,hf]at hb;exact hb
theorem Inv.stkFree (I:Inv X pins σ H s):∀b∈frs X.stack,H b=none:=λb hb=>by
 rcases ax.mp (I.stkSub b hb) with e |hb
 ·rw[e];exact I.free
 ·obtain⟨_,o,ho,_⟩:=I.ok.funs.mem hb;exact I.base.free b o ho (I.ok.frf b hb) λz=>I.ok.exfs b z hb
theorem Inv.step{g':Array GenState}{t':Nat}{d':Drawn}{ch:List Addr}(I:Inv X pins σ H s)
  (hch:∀b∈ch,(b∈X.ex∨X.s₀.heap.objs.size≤b)∧b≠X.env.locals∧(∀x c,X.env.cells.lookup x=ae c→c≠b)∧ ∀p∈X.pn++pins,p.1≠b)
  (keep:∀b o,b≠X.env.locals→b∉X.fs→b∉ch→s.heap.get? b=ae o→H b=none→h'.get? b=ae o)
  (slot:∀b o,b≠X.env.locals→b∈X.fs→b∉ch→s.heap.get? b=ae o→H b=none→ ∃sl,h'.get? b=ae { o with slots:=sl }) (free:∀b o,b∉ch→s.heap.get? b=ae o→H b=none→H' b=none)
  (there:∀b o,b∉ch→s.heap.get? b=ae o→ ∃o',h'.get? b=ae o')
  (tups:∀b xs,H b=ae (.tup xs)→H' b=ae (.tup xs)) (frzs:∀b o u,H b=ae (.frz o u)→H' b=ae (.frz o u)) (tbls:∀b ps,H b=ae (.tbl ps)→ ∃more,H' b=ae (.tbl (ps++more)))
  (ns:∀m,s.heap.Ns X.env.locals m→h'.Ns X.env.locals m) (hok:HOk X.prog X.w H' h') (hg:b_ g') :
  Inv X pins σ H' { s with heap:=h',gens:=g',drawn:=d',toks:=t' }:=by
 have neL:∀b o,X.s₀.heap.get? b=ae o→b≠X.env.locals:=λb o e=>bt (bK (aF e) I.ok.above);have neC:∀b o,X.s₀.heap.get? b=ae o→b∉X.ex→b∉ch:=λb o e hx hb=>by
  rcases(hch b hb).1 with z |z
  ·exact hx z
  ·exact absurd (bK (aF e) z) (bZ _)
 have cellK:∀x c,X.env.cells.lookup x=ae c→ ∀v,s.heap.IsCell c v→h'.IsCell c v:=λx c e v ⟨o,ho,hd⟩=>by
  have nch:c∉ch:=λz=>(hch c z).2.2.1 x c e rfl;by_cases hc:c∈X.fs
  ·obtain⟨sl,q⟩:=slot c o (I.cne x c e) hc nch ho (I.freeC x c e);exact⟨_,q,hd⟩
  ·exact⟨o,keep c o (I.cne x c e) hc nch ho (I.freeC x c e),hd⟩
 refine⟨I.ok,I.os,hg,⟨λb o e n hb hx=>?_,λb o e n hb hx=>?_,λb o e n hx=>?_,λb o e hx=>?_,λb xs e=>tups b xs (I.base.tups b xs e),λb o xs e=>frzs b o xs (I.base.frzs b o xs e),λb ps e=>?_⟩,?_,λx c e=>?_,?_,λx c e=>?_,λp hp=>?_,hok,I.len⟩
 ·exact keep b o (neL b o e) hb (neC b o e hx) (I.base.keep b o e n hb hx) (I.base.free b o e n hx)
 ·obtain⟨sl,e1⟩:=I.base.slot b o e n hb hx;obtain⟨sl',e2⟩:=slot b _ (neL b o e) hb (neC b o e hx) e1 (I.base.free b o e n hx);exact⟨sl',e2⟩
 ·obtain⟨o',e1⟩:=I.base.there b o e hx;exact free b o' (neC b o e hx) e1 (I.base.free b o e n hx)
 ·obtain⟨o',e1⟩:=I.base.there b o e hx;exact there b o' (neC b o e hx) e1
 ·obtain⟨m1,e1⟩:=I.base.tbls b ps e;obtain⟨m2,e2⟩:=tbls b _ e1;exact⟨m1++m2,by rw[e2,iH]⟩
 ·obtain⟨m,hn,hl⟩:=I.loc;refine⟨m,ns m hn,λi x v e1 e2 e3=>?_⟩;obtain⟨u,r,l⟩:=hl i x v e1 e2 e3;refine⟨u,r,?_⟩;rcases l with l |⟨k,c,e,z⟩
  ·exact .inl l
  ·exact .inr ⟨k,c,e,cellK x c e _ z⟩
 ·obtain⟨v,z⟩:=I.cell x c e;exact⟨v,cellK x c e v z⟩
 ·obtain⟨m,⟨o,_,_,ho,_⟩,_⟩:=I.loc;exact free _ o (λz=>(hch _ z).2.1 rfl) ho I.free
 ·obtain⟨v,o,ho,hd⟩:=I.cell x c e;exact free c o (λz=>(hch c z).2.2.1 x c e rfl) ho (I.freeC x c e)
 ·obtain⟨e,n,ne,nf,d⟩:=I.pin p hp;have nch:p.1∉ch:=λz=>(hch p.1 z).2.2.2 p hp rfl;exact⟨keep p.1 p.2 ne nf nch e n,free p.1 p.2 nch e n,ne,nf,d⟩
theorem Inv.un{t':Nat}(I:Inv X pins σ H s) (u:Un X.fs [] H H' s.heap h') (hok:HOk X.prog X.w H' h'):Inv X pins σ H' { s with heap:=h',toks:=t' }:=by
 obtain⟨m,⟨o,es,ep,ho,r⟩,_⟩:=id I.loc;obtain⟨sl,hL⟩:=u.any ho I.free (by simp);exact I.step (g':=s.gens) (d':=s.drawn) (ch:=[]) (λ_ z=>nomatch z) (λb o _ hb _ e n=>u.keep b o e n hb (by simp)) (λb o _ hb _ e n=>u.slot b o e n hb (by simp)) (λb o _ e n=>u.free b o e n (by simp)) (λb o _ e=>u.there b o e (by simp)) u.tups u.frzs u.tbls (λm' hm=>by
  obtain⟨o',es',ep',ho',r'⟩:=hm;rw[ho]at ho';cases ho';exact⟨_,es',ep',hL,r'⟩) hok I.bare
theorem Inv.call{g':Array GenState}{t':Nat}{d':Drawn}{ch:List Addr}(I:Inv X pins σ H s) (u:Un (frs X.stack) ch H H' s.heap h') (hok:HOk X.prog X.w H' h') (hg:b_ g')
  (hch:∀b∈ch,(b∈X.ex∨X.s₀.heap.objs.size≤b)∧b≠X.env.locals∧(∀x c,X.env.cells.lookup x=ae c→c≠b)∧ ∀p∈X.pn++pins,p.1≠b) :
  Inv X pins σ H' { s with heap:=h',gens:=g',drawn:=d',toks:=t' }:=by
 obtain⟨m,⟨o,es,ep,ho,r⟩,_⟩:=id I.loc;obtain⟨sl,hL⟩:=u.any ho I.free λz=>(hch _ z).2.1 rfl;exact I.step (ch:=ch) hch (λb o hL hb hc e n=>u.keep b o e n (λz=>(ax.mp (I.stkSub b z)).elim hL hb) hc) (λb o _ _ hc e n=>u.any e n hc) (λb o hc e n=>u.free b o e n hc) (λb o hc e=>u.there b o e hc) u.tups u.frzs u.tbls (λm' hm=>by
  obtain⟨o',es',ep',ho',r'⟩:=hm;rw[ho]at ho';cases ho';exact⟨_,es',ep',hL,r'⟩) hok hg
theorem Inv.turned{t':Nat}{it:Addr}(I:Inv X pins σ H s) (k:∀b o,b≠it→s.heap.get? b=ae o→h'.get? b=ae o) (hn:H it=none) (hL:it≠X.env.locals)
  (h1:it∈X.ex∨X.s₀.heap.objs.size≤it) (h2:∀x c,X.env.cells.lookup x=ae c→c≠it) (h3:∀p∈X.pn++pins,p.1≠it):Inv X pins σ H { s with heap:=h',toks:=t' }:=by
 have nit:∀b u,H b=ae u→b≠it:=λb u e z=>by rw[z,hn]at e;cases e
 refine I.step (g':=s.gens) (d':=s.drawn) (ch:=[it]) (λb hb=>?_) (λb o _ _ hc e _=>k b o (λz=>hc (by simp [z])) e) (λb o _ _ hc e _=>⟨o.slots,k b o (λz=>hc (by simp [z])) e⟩) (λ_ _ _ _ n=>n)
  (λb o hc e=>⟨o,k b o (λz=>hc (by simp [z])) e⟩) (λ_ _ e=>e) (λ_ _ _ e=>e) (λb ps e=>⟨#[],by rw[e];simp⟩) (λm hm=>?_) (λb u e=>?_) I.bare
 ·have e:b=it:=by simpa using hb
  subst e;exact⟨h1,hL,h2,h3⟩
 ·obtain⟨o,es,ep,ho,r⟩:=hm;exact⟨o,es,ep,k _ o (bj hL) ho,r⟩
 ·refine(I.hok b u e).stay (λc v hc q=>k c v ?_ q) (λ_ q=>q) λ_ _ q=>q;rcases hc with z |z
  ·rw[z];exact nit b u e
  ·exact nit c _ z
theorem Inv.tok (I:Inv X pins σ H s) (t:Nat):Inv X pins σ H { s with toks:=t }:=I.un (h':=s.heap) (t':=t) Un.refl I.hok
theorem Inv.kept{t':Nat}(I:Inv X pins σ H s) (k:∀b u,s.heap.get? b=ae u→h'.get? b=ae u):Inv X pins σ H { s with heap:=h',toks:=t' }:=I.un (Un.kept k) (I.hok.kept k)
theorem Inv.laid{a:Addr}{o:HO}{t':Nat}(I:Inv X pins σ H s) (k:∀b u,s.heap.get? b=ae u→h'.get? b=ae u) (hp:s.heap.objs.size≤a) (new:ObjOk X.prog X.w (upd H a o) h' a o) :
  Inv X pins σ (upd H a o) { s with heap:=h',toks:=t' }:=I.un (Un.laid k hp (I.hok.fresh hp)) (I.hok.laid k hp new)
theorem Inv.write{x e:Addr}{o:HO}{t':Nat}(I:Inv X pins σ H s) (mu:Mut (H x)) (he:e=x∨H e=ae (.own x)) (k:∀b u,b≠e→s.heap.get? b=ae u→h'.get? b=ae u) (heo:∃u,h'.get? e=ae u)
  (new:ObjOk X.prog X.w (upd H x o) h' x o):Inv X pins σ (upd H x o) { s with heap:=h',toks:=t' }:=I.un (Un.write mu he k heo) (I.hok.write mu he k heo new)
theorem Inv.pins_of{pins':List (Addr×Obj)}(I:Inv X pins σ H s) (h:∀p∈pins',s.heap.get? p.1=ae p.2∧H p.1=none∧p.1≠X.env.locals∧p.1∉X.fs∧ ∀v,p.2.data≠ .cell v):Inv X pins' σ H s:=
 ⟨I.ok,I.os,I.bare,I.base,I.loc,I.cell,I.free,I.freeC,λp hp=>(bb.mp hp).elim (λz=>I.pin p (bO _ z)) (h p),I.hok,I.len⟩
theorem zly{N:List Str}(hN:N.Nodup) {i j:Nat}{x:Str}(a:N[i]? =ae x) (b:N[j]? =ae x):i=j:=by
 obtain⟨h1,e1⟩:=bG.mp a;obtain⟨h2,e2⟩:=bG.mp b;exact(List.getElem_inj hN).mp (e1.trans e2.symm)
theorem ziA{M:Model}{A:aP}{E:Value→ag→Prop}{i:Nat}{x:Str}{v:V}{u:Value}{Q:Unit→ag→Prop}(I:Inv X pins σ H s) (hN:X.N.Nodup) (hi:X.N[i]? =ae x) (hx:Loc X.env.scope x) (r:RelV v u)
  (h:∀s',Inv X pins (σ.set i (ae v)) H s'→(∃a,cg a s.heap s'.heap∧(a=X.env.locals∨X.env.cells.lookup x=ae a))→Q () s') (hf:X.fn x=true∨X.env.scope.names.lookup x=ae .local:=by first |exact .inl rfl |exact .inr rfl |assumption):aj M A (iu X.env x u) Q E s:=by
 obtain⟨m,hn,hl⟩:=id I.loc;have hcls:(X.env.scope.kind == .class || (X.env.scope.kind == .module&&X.env.locals != X.env.globals))=false:=by rw[I.ok.kind];rfl
 have hiσ:i<σ.length:=by rw[I.len];exact(bG.mp hi).1
 have cne:=I.cne;have tracked:∀{a:Addr}{h':Heap},(∃o,s.heap.get? a=ae o∧H a=none)→cg a s.heap h'→HOk X.prog X.w H h':=λ{a h'} ha hs b ob e=>by
  obtain⟨_,_,hfree⟩:=ha;refine(I.hok b ob e).stay (λc w' hc q=>(hs.2 c ?_).trans q) (λ_ q=>q) λ_ _ q=>q;rintro rfl;rcases hc with rfl |hc
  ·rw[hfree]at e;cases e
  ·rw[hfree]at hc;cases hc
 rcases hx with hk |hk
 ·refine wpAny_storeName_local hk hn (λh' hn' hs=>?_) hcls;obtain⟨oL,_,_,hoL,_⟩:=id hn;refine h _ ⟨I.ok,I.os,I.bare,⟨λb o e n hb hx=>?_,λb o e n hb hx=>?_,I.base.free,λb o e hx=>?_,I.base.tups,I.base.frzs,I.base.tbls⟩,⟨_,hn',λj y v' e1 e2 e3=>?_⟩,λy c e=>?_,I.free,I.freeC,λp hp=>?_,tracked ⟨oL,hoL,I.free⟩ hs,by simpa using I.len⟩ ⟨_,hs, .inl rfl⟩
  ·exact(hs.2 b (bt (bK (aF e) I.ok.above))).trans (I.base.keep b o e n hb hx)
  ·obtain⟨sl,e1⟩:=I.base.slot b o e n hb hx;exact⟨sl,(hs.2 b (bt (bK (aF e) I.ok.above))).trans e1⟩
  ·obtain⟨o',e1⟩:=I.base.there b o e hx;exact⟨o',(hs.2 b (bt (bK (aF e) I.ok.above))).trans e1⟩
  ·by_cases hj:j=i
   ·subst hj;rw[hi]at e1;cases e1;rw[iY hiσ]at e2;cases e2;exact⟨u,r, .inl ⟨hk,by simp⟩⟩
   ·rw[i9 (bj hj)]at e2;obtain⟨u',r',q⟩:=hl j y v' e1 e2 e3;refine⟨u',r',?_⟩;rcases q with⟨k,e⟩ |⟨k,c,e,z⟩
    ·refine .inl ⟨k,?_⟩;have:y≠x:=λe=>hj (zly hN e1 (e▸hi));simp [this,e]
    ·exact .inr ⟨k,c,e,z.sameBut hs (cne y c e)⟩
  ·obtain⟨w',z⟩:=I.cell y c e;exact⟨w',z.sameBut hs (cne y c e)⟩
  ·obtain⟨e,n,ne,nf,d⟩:=I.pin p hp;exact⟨(hs.2 p.1 ne).trans e,n,ne,nf,d⟩
 ·have hfn:X.fn x=true:=by
   rcases hf with z |z
   ·exact z
   ·rw[z]at hk;cases hk
  obtain⟨c,hc⟩:=I.ok.has x (.inl hk);obtain⟨w',z⟩:=I.cell x c hc;refine wpAny_storeName_cell I.ok.kind hk hc z (λh' hc' hs=>?_);obtain⟨oc,hoc,hocd⟩:=id z;refine h { s with heap:=h' } ⟨I.ok,I.os,I.bare,⟨λb o e n hb hx=>?_,λb o e n hb hx=>?_,I.base.free,λb o e hx=>?_,I.base.tups,I.base.frzs,I.base.tbls⟩,⟨m,hn.sameBut hs (bj (cne x c hc)),λj y v' e1 e2 e3=>?_⟩,λy c' e=>?_,I.free,I.freeC,λp hp=>?_,tracked ⟨oc,hoc,I.freeC x c hc⟩ hs,by simpa using I.len⟩ ⟨c,hs, .inr hc⟩
  ·exact(hs.2 b (bt (bK (aF e) (I.ok.cab x c hfn hc)))).trans (I.base.keep b o e n hb hx)
  ·obtain⟨sl,e1⟩:=I.base.slot b o e n hb hx;exact⟨sl,(hs.2 b (bt (bK (aF e) (I.ok.cab x c hfn hc)))).trans e1⟩
  ·obtain⟨o',e1⟩:=I.base.there b o e hx;exact⟨o',(hs.2 b (bt (bK (aF e) (I.ok.cab x c hfn hc)))).trans e1⟩
  ·by_cases hj:j=i
   ·subst hj;rw[hi]at e1;cases e1;rw[iY hiσ]at e2;cases e2;exact⟨u,r, .inr ⟨.inl hk,c,hc,hc'⟩⟩
   ·rw[i9 (bj hj)]at e2;obtain⟨u',r',q⟩:=hl j y v' e1 e2 e3;refine⟨u',r',?_⟩;rcases q with q |⟨k,c',e,z'⟩
    ·exact .inl q
    ·refine .inr ⟨k,c',e,z'.sameBut hs ?_⟩;rintro rfl;exact hj (zly hN e1 (I.ok.inj _ _ _ e hc▸hi))
  ·by_cases hcc:c'=c
   ·subst hcc;exact⟨_,hc'⟩
   ·obtain⟨w2,z2⟩:=I.cell y c' e;exact⟨w2,z2.sameBut hs hcc⟩
  ·obtain⟨e,n,ne,nf,d⟩:=I.pin p hp;refine⟨(hs.2 p.1 ?_).trans e,n,ne,nf,d⟩;intro q;rw[q,hoc]at e;have q':oc=p.2:=aI e;exact d w' (by rw[←q'];exact hocd)
theorem zhL{M:Model}{A:aP}{E:Value→ag→Prop}{i:Nat}{x:Str}{v:V}{u:Value}{Q:Unit→ag→Prop}(I:Inv X pins σ H s) (hN:X.N.Nodup) (hi:X.N[i]? =ae x) (hx:Loc X.env.scope x) (r:RelV v u)
  (h:∀s',Inv X pins (σ.set i (ae v)) H s'→Q () s') (hf:X.fn x=true∨X.env.scope.names.lookup x=ae .local:=by first |exact .inl rfl |exact .inr rfl |assumption):aj M A (iu X.env x u) Q E s:=
 ziA I hN hi hx r (λs' I' _=>h s' I') hf
theorem Inv.call'{s':ag}{ch:List Addr}(I:Inv X pins σ H s) (ho:s'.os=s.os) (u:Un (frs X.stack) ch H H' s.heap s'.heap) (hok:HOk X.prog X.w H' s'.heap) (hg:b_ s'.gens)
  (hch:∀b∈ch,(b∈X.ex∨X.s₀.heap.objs.size≤b)∧b≠X.env.locals∧(∀x c,X.env.cells.lookup x=ae c→c≠b)∧ ∀p∈X.pn++pins,p.1≠b):Inv X pins σ H' s':=by
 obtain⟨h',g',d',t',o'⟩:=s';have e:o'=s.os:=ho;subst e;exact I.call (g':=g') (t':=t') (d':=d') u hok hg hch
end
abbrev XK:=Value→Option Addr→Hp→Prop
abbrev St:=List (Option V)
abbrev VK:=V→Hp→Prop
abbrev TE:=St→Hp→VK→Prop
abbrev TT:=St→Hp→(Bool→Hp→Prop)→Prop
abbrev TA:=St→Hp→(List V→Hp→Prop)→Prop
structure Ends where
  nx:St→Hp→Prop
  rt:VK
  bk:St→Hp→Prop:=λ_ _=>False
  ct:St→Hp→Prop:=λ_ _=>False
abbrev TS:=Ends→St→Hp→Prop
def EP (X:Cx) (pins:List (Addr×Obj)) (σ:St) (Q:VK) (u:Value) (s':ag):Prop:=∃v H',Inv X pins σ H' s'∧RelV v u∧Q v H'
def TP (X:Cx) (pins:List (Addr×Obj)) (σ:St) (Q:Bool→Hp→Prop) (b:Bool) (s':ag):Prop:=∃H',Inv X pins σ H' s'∧Q b H'
def AP (X:Cx) (pins:List (Addr×Obj)) (σ:St) (Q:List V→Hp→Prop) (us:List Value) (s':ag):Prop:=∃vs H',Inv X pins σ H' s'∧Vals vs us∧Q vs H'
def SP (X:Cx) (pins:List (Addr×Obj)) (D:Ends) (f:Flow) (s':ag):Prop:=
 match f with
 | .next=>∃σ' H',Inv X pins σ' H' s'∧D.nx σ' H'
 | .brk=>∃σ' H',Inv X pins σ' H' s'∧D.bk σ' H'
 | .cont=>∃σ' H',Inv X pins σ' H' s'∧D.ct σ' H'
 | .ret u=>∃v σ' H',Inv X pins σ' H' s'∧RelV v u∧D.rt v H'
def PE (X:Cx) (e:Expr) (t:TE):Prop:=
 ∀(pins:List (Addr×Obj)) (s:ag) (σ:St) (H:Hp) (Q:VK),Inv X pins σ H s→t σ H Q→aj (ao X.prog X.w) X.A (aq e X.env) (EP X pins σ Q) X.xe s
def PT (X:Cx) (e:Expr) (t:TT):Prop:=
 ∀(pins:List (Addr×Obj)) (s:ag) (σ:St) (H:Hp) (Q:Bool→Hp→Prop),Inv X pins σ H s→t σ H Q→aj (ao X.prog X.w) X.A (isTrue e X.env (aq e X.env)) (TP X pins σ Q) X.xe s
def PW (X:Cx) (e:Expr) (t:TT):Prop:=
 ∀(whole:bY Value) (pins:List (Addr×Obj)) (s:ag) (σ:St) (H:Hp) (Q:Bool→Hp→Prop),Inv X pins σ H s→t σ H Q→aj (ao X.prog X.w) X.A (isTrue e X.env whole) (TP X pins σ Q) X.xe s
theorem PW.pt{X:Cx}{e:Expr}{t:TT}(h:PW X e t):PT X e t:=h _
def PA (X:Cx) (es:List Expr) (t:TA):Prop:=
 ∀(pos:aA) (pins:List (Addr×Obj)) (s:ag) (σ:St) (H:Hp) (Q:List V→Hp→Prop),Inv X pins σ H s→t σ H Q→aj (ao X.prog X.w) X.A (spliced (aO pos (am es X.env))) (AP X pins σ Q) X.xe s
def PS (X:Cx) (st:Stmt) (t:TS):Prop:=
 ∀(pins:List (Addr×Obj)) (s:ag) (σ:St) (H:Hp) (D:Ends),Inv X pins σ H s→t D σ H→aj (ao X.prog X.w) X.A (exec st X.env) (SP X pins D) X.xe s
def PSs (X:Cx) (st:List Stmt) (t:TS):Prop:=
 ∀(pins:List (Addr×Obj)) (s:ag) (σ:St) (H:Hp) (D:Ends),Inv X pins σ H s→t D σ H→aj (ao X.prog X.w) X.A (execs st X.env) (SP X pins D) X.xe s
theorem thn{α:Type}{t:bY α}{Q Q':α→ag→Prop}{M:Model}{A:aP}{E:Value→ag→Prop}{s:ag}(h:aj M A t Q E s) (hQ:∀a s,Q a s→Q' a s):aj M A t Q' E s:=ck h hQ λ_ _ x=>x
section
variable {X:Cx}
noncomputable def zAh (i:Nat):TE:=λσ H Q=>∃v,σ[i]? =ae (ae v)∧Q v H
noncomputable def tC (v:V):TE:=λ_ H Q=>Q v H
theorem zxP{i:Nat}{x:Str}{pos:aA}(hN:X.N[i]? =ae x) (hv:Vis X.env.scope x) (hd:(x == ("__debug__" :Str))=false:=by decide) (hcd:(x == ("__classdict__" :Str))=false:=by decide):PE X (.Name x pos) (zAh i):=by
 intro pins s σ H Q I h;obtain⟨v,e,h⟩:=h;obtain⟨m,hn,hl⟩:=I.loc;obtain⟨u,r,l⟩:=hl i x v hN e hv;have fin:EP X pins σ Q u s:=⟨v,H,I,r,h⟩;rcases l with⟨hk,hm⟩ |⟨hk,c,hc,hcell⟩
 ·exact ir (jI I.ok.kind hk hn hm fin) hd
 ·rcases hk with hk |hk
  ·exact ir (jh I.ok.kind hk hc hcell fin) hd
  ·exact ir (wpAny_loadName_free I.ok.kind hk hc hcell fin hcd) hd
theorem zvD{i j pos}:PE X (.Constant (.int i) j pos) (tC (.int i)):=λ_ _ _ H _ I h=>wpAny_Constant_int ⟨.int i,H,I.tok _,⟨_,rfl⟩,h⟩
theorem zzB{b j pos}:PE X (.Constant (.bool b) j pos) (tC (.bl b)):=λ_ _ _ H _ I h=>Constant_bool ⟨.bl b,H,I,rfl,h⟩
theorem zwl{j pos}:PE X (.Constant .none j pos) (tC .non):=λ_ _ _ H _ I h=>Constant_none ⟨.non,H,I,rfl,h⟩
theorem zxN{x j pos}:PE X (.Constant (.str x) j pos) (tC (.str x)):=λ_ _ _ H _ I h=>Calls.Constant_str ⟨.str x,H,I.tok _,⟨_,rfl⟩,h⟩
def Gl (X:Cx) (x:Str):Prop:=X.env.kindOf x=ae .globalImplicit
theorem zkW{E:Value→ag→Prop}{pins:List (Addr×Obj)}{s:ag}{σ:St}{H:Hp}{x:Str}{u:Value}{pos:aA}{Q:Value→ag→Prop}(I:Inv X pins σ H s) (hg:Gl X x) (hm:X.mg x=ae u) (h:Q u s)
  (hd:(x == ("__debug__" :Str))=false:=by decide):aj (ao X.prog X.w) X.A (aq (.Name x pos) X.env) Q E s:=
 j8 I.ok.kind hg (Calls.loadGlobal_global (by rw[I.ok.glob];exact I.mod.glob.keeps I.bk) hm h) hd
theorem zhc{E:Value→ag→Prop}{pins:List (Addr×Obj)}{s:ag}{σ:St}{H:Hp}{x:Str}{u:Value}{pos:aA}{Q:Value→ag→Prop}(I:Inv X pins σ H s) (hg:Gl X x) (hm:X.mg x=none) (hv:bS x=ae u) (h:Q u s)
  (hn:x≠ "__name__" :=by decide) (hd:(x == ("__debug__" :Str))=false:=by decide):aj (ao X.prog X.w) X.A (aq (.Name x pos) X.env) Q E s:=by
 obtain⟨mb,h1,h2⟩:=I.mod.blt;exact j8 I.ok.kind hg (Calls.loadGlobal_builtin (by rw[I.ok.glob];exact I.mod.glob.keeps I.bk) hm (by rw[I.ok.blt];exact h1.keeps I.bk) ((h2 x hn).trans hv) h) hd
theorem ztK{x:Str}{v:V}{u:Value}{pos:aA}(hg:Gl X x) (hm:X.mg x=ae u) (r:RelV v u) (hd:(x == ("__debug__" :Str))=false:=by decide):PE X (.Name x pos) (tC v):=
 λ_ _ _ H _ I h=>zkW I hg hm ⟨v,H,I,r,h⟩ hd
theorem ztD{x:Str}{v:V}{u:Value}{pos:aA}(hg:Gl X x) (hm:X.mg x=none) (hv:bS x=ae u) (r:RelV v u) (hn:x≠ "__name__" :=by decide) (hd:(x == ("__debug__" :Str))=false:=by decide):PE X (.Name x pos) (tC v):=
 λ_ _ _ H _ I h=>zhc I hg hm hv ⟨v,H,I,r,h⟩ hn hd
variable {a b:Expr}{ta tb:TE}{pos:aA}
variable {tA tB':TT}{rest:List Expr}
noncomputable def zAI (t u:TT):TT:=λσ H Q=>t σ H λc H1=>if c=true then u σ H1 Q else Q false H1
noncomputable def tOr (t u:TT):TT:=λσ H Q=>t σ H λc H1=>if c=true then Q true H1 else u σ H1 Q
noncomputable def zAe (t:TT):TT:=λσ H Q=>t σ H λc H1=>Q (!c) H1
theorem zuf (ha:PT X a tA):PW X (.BoolOp .And [a] pos) tA:=by
 intro wh pins s σ H Q I h;refine isTrue_and (thn (ha pins s σ H Q I h) λc s1 e=>?_);cases c with
 |true=>exact isTrue_and_nil e
 |false=>exact e
theorem zwd (ha:PT X a tA):PW X (.BoolOp .Or [a] pos) tA:=by
 intro wh pins s σ H Q I h;refine isTrue_or (thn (ha pins s σ H Q I h) λc s1 e=>?_);cases c with
 |false=>exact isTrue_or_nil e
 |true=>exact e
theorem zxS (ha:PT X a tA) (hb:PW X (.BoolOp .And (b::rest) pos) tB'):PW X (.BoolOp .And (a::b::rest) pos) (zAI tA tB'):=by
 intro wh pins s σ H Q I h;refine isTrue_and (thn (ha pins s σ H _ I h) λc s1 ⟨H1,I1,q1⟩=>?_);cases c with
 |true=>exact hb wh pins s1 σ H1 Q I1 q1
 |false=>exact⟨H1,I1,q1⟩
theorem zzi (ha:PT X a tA) (hb:PW X (.BoolOp .Or (b::rest) pos) tB'):PW X (.BoolOp .Or (a::b::rest) pos) (tOr tA tB'):=by
 intro wh pins s σ H Q I h;refine isTrue_or (thn (ha pins s σ H _ I h) λc s1 ⟨H1,I1,q1⟩=>?_);cases c with
 |true=>exact⟨H1,I1,q1⟩
 |false=>exact hb wh pins s1 σ H1 Q I1 q1
theorem zxK (ha:PT X a tA):PT X (.UnaryOp .Not a pos) (zAe tA):=by
 intro pins s σ H Q I h;exact isTrue_not (ha pins s σ H (λc H1=>Q (!c) H1) I h)
noncomputable def zzM (ta tb:TE):TE:=λσ H Q=>ta σ H λx H1=>∃c,x= .bl c∧if c=true then tb σ H1 Q else Q (.bl false) H1
noncomputable def zyE (ta:TE):TE:=λσ H Q=>ta σ H λx H1=>∃c,x= .bl c∧Q (.bl (!c)) H1
theorem zvL{op}{t:TE}(h:PE X a t):PE X (.BoolOp op [a] pos) t:=λpins s σ H Q I hw=>BoolOp_one (h pins s σ H Q I hw)
theorem zxJ (ha:PE X a ta) (hb:PE X (.BoolOp .And (b::rest) pos) tb):PE X (.BoolOp .And (a::b::rest) pos) (zzM ta tb):=by
 intro pins s σ H Q I h;refine BoolOp_and (thn (ha pins s σ H _ I h) λv s1 ⟨x,H1,I1,r1,q1⟩=>?_);obtain⟨c,rfl,q1⟩:=q1;cases r1;refine dG ?_;cases c with
 |true=>exact hb pins s1 σ H1 Q I1 q1
 |false=>exact⟨.bl false,H1,I1,rfl,q1⟩
theorem zvw (ha:PE X a ta):PE X (.UnaryOp .Not a pos) (zyE ta):=by
 intro pins s σ H Q I h;refine UnaryOp_ (thn (ha pins s σ H _ I h) λv s1 ⟨x,H1,I1,r1,q1⟩=>?_);obtain⟨c,rfl,q1⟩:=q1;cases r1;exact not_of (dG ⟨.bl (!c),H1,I1,rfl,q1⟩)
noncomputable def tIf (t:TT) (ta tb:TE):TE:=λσ H Q=>t σ H λc H1=>if c=true then ta σ H1 Q else tb σ H1 Q
theorem zrK{c:Expr}(hc:PT X c tA) (ha:PE X a ta) (hb:PE X b tb):PE X (.IfExp c a b pos) (tIf tA ta tb):=by
 intro pins s σ H Q I h;refine wpAny_IfExp (thn (hc pins s σ H _ I h) λd s1 ⟨H1,I1,q1⟩=>?_);cases d with
 |true=>exact ha pins s1 σ H1 Q I1 q1
 |false=>exact hb pins s1 σ H1 Q I1 q1
end
def SqL (K:ah) (H:Hp) (a:Addr) (xs:List V):Prop:=
 Rd H a (.lst xs)∨
  ∃(o:Obj) (its:Array Value) (n:Nat),K.lookup a=ae o∧o.cls= .type "list" ∧o.dict=none∧o.data= .seq its n∧its.size≤sizeLine∧Vals xs its.toList
def SqT (K:ah) (H:Hp) (a:Addr) (xs:List V):Prop:=
 Rd H a (.tup xs)∨
  ∃(o:Obj) (its:Array Value) (n:Nat),K.lookup a=ae o∧o.cls= .type "tuple" ∧o.data= .seq its n∧its.size≤sizeLine∧Vals xs its.toList
noncomputable def zAM:Value→Option V
 | .none=>ae .non
 | .bool b=>ae (.bl b)
 | .int i _=>ae (.int i)
 | .str x _=>ae (.str x)
 | .bytes b _=>ae (.byt b)
 | .float b _=>ae (.flt b)
 | .ref a=>ae (.ref a)
 | .type n=>ae (.ty n)
 |_=>none
theorem RelV.abs{x:V}{u:Value}(r:RelV x u):zAM u=ae x:=by
 cases x with
 |non=>cases r;rfl
 |bl _=>cases r;rfl
 |int _=>obtain⟨t,rfl⟩:=r;rfl
 |str _=>obtain⟨t,rfl⟩:=r;rfl
 |byt _=>obtain⟨t,rfl⟩:=r;rfl
 |flt _=>obtain⟨t,rfl⟩:=r;rfl
 |ref _=>cases r;rfl
 |ty _=>cases r;rfl
theorem RelV.inj{x y:V}{u:Value}(r:RelV x u) (q:RelV y u):x=y:=aI (r.abs.symm.trans q.abs)
theorem Vals.inj:∀{xs ys:List V}{us:List Value},Vals xs us→Vals ys us→xs=ys
 |_,_,_, .nil, .nil=>rfl
 |_,_,_, .cons r t, .cons r' t'=>by rw[r.inj r',Vals.inj t t']
section
variable {X:Cx}{pins:List (Addr×Obj)}{σ:St}{H:Hp}{s:ag}{a:Addr}{xs ys:List V}
theorem SqL.of{K:ah}(h:H a=ae (.lst xs)):SqL K H a xs:= .inl (.inl h)
theorem SqT.of{K:ah}(h:H a=ae (.tup xs)):SqT K H a xs:= .inl (.inl h)
theorem Inv.list (I:Inv X pins σ H s) (h:SqL X.K H a xs):∃its:List Value,Vals xs its∧PlainL s.heap a its.toArray∧xs.length≤sizeLine:=by
 rcases h with h |⟨o,its,n,hk,hc,hd,hs,hz,r⟩
 ·obtain⟨z,its,n,r,e⟩:=h.ok I.hok;exact⟨its,r,⟨_,n,e,rfl,rfl,rfl⟩,z⟩
 ·refine⟨its.toList,r,⟨o,n,I.kIn a o hk,hc,hd,by simpa using hs⟩,?_⟩
  have e:=r.length;simp only[gX]at e;omega
theorem Inv.tuple (I:Inv X pins σ H s) (h:SqT X.K H a xs):∃its:List Value,Vals xs its∧dR s.heap a its.toArray∧xs.length≤sizeLine:=by
 rcases h with h |⟨o,its,n,hk,hc,hs,hz,r⟩
 ·obtain⟨z,its,r,p⟩:=h.ok I.hok;exact⟨its,r,p,z⟩
 ·refine⟨its.toList,r,⟨o,I.kIn a o hk,hc,n,by simpa using hs⟩,?_⟩
  have e:=r.length;simp only[gX]at e;omega
theorem Inv.list_inj (I:Inv X pins σ H s) (h:SqL X.K H a xs) (h':SqL X.K H a ys):xs=ys:=by
 obtain⟨its,r,⟨o,n,e,_,_,d⟩,_⟩:=I.list h;obtain⟨its',r',⟨o',n',e',_,_,d'⟩,_⟩:=I.list h';rw[e]at e';cases e';rw[d]at d';injection d' with d1 _;have:its=its':=by simpa using congrArg Array.toList d1
 subst this;exact r.inj r'
theorem Inv.tuple_inj (I:Inv X pins σ H s) (h:SqT X.K H a xs) (h':SqT X.K H a ys):xs=ys:=by
 obtain⟨its,r,⟨o,e,_,n,d⟩,_⟩:=I.tuple h;obtain⟨its',r',⟨o',e',_,n',d'⟩,_⟩:=I.tuple h';rw[e]at e';cases e';rw[d]at d';injection d' with d1 _;have:its=its':=by simpa using congrArg Array.toList d1
 subst this;exact r.inj r'
end
noncomputable abbrev Cx.wish (X:Cx) (E:Value→ag→Prop):Cx:={ X with xe:=E }
noncomputable abbrev Cx.nox (X:Cx):Cx:=X.wish λ_ _=>False
theorem Cx.Ok.wish{X:Cx}(ok:X.Ok) (E:Value→ag→Prop):(X.wish E).Ok:=
 ⟨ok.mod,ok.kind,ok.glob,ok.blt,ok.above,ok.inj,ok.has,ok.cab,ok.hd,ok.frames,ok.stk,ok.exf,ok.bs,ok.bsz,ok.noex,ok.exfs,ok.funs,ok.frf⟩
theorem Cx.Ok.unwish{X:Cx}{E:Value→ag→Prop}(ok:(X.wish E).Ok):X.Ok:=
 ⟨ok.mod,ok.kind,ok.glob,ok.blt,ok.above,ok.inj,ok.has,ok.cab,ok.hd,ok.frames,ok.stk,ok.exf,ok.bs,ok.bsz,ok.noex,ok.exfs,ok.funs,ok.frf⟩
section
variable {X:Cx}{pins:List (Addr×Obj)}{σ:St}{H:Hp}{s:ag}{E:Value→ag→Prop}
theorem Inv.wish (I:Inv X pins σ H s) (E:Value→ag→Prop):Inv (X.wish E) pins σ H s:=⟨I.ok.wish E,I.os,I.bare,I.base,I.loc,I.cell,I.free,I.freeC,I.pin,I.hok,I.len⟩
theorem Inv.unwish (I:Inv (X.wish E) pins σ H s):Inv X pins σ H s:=⟨I.ok.unwish,I.os,I.bare,I.base,I.loc,I.cell,I.free,I.freeC,I.pin,I.hok,I.len⟩
theorem SP.unwish{D:Ends}{f:Flow}{s':ag}(h:SP (X.wish E) pins D f s'):SP X pins D f s':=by
 cases f with
 |next=>obtain⟨σ',H',I,q⟩:=h;exact⟨σ',H',I.unwish,q⟩
 |brk=>obtain⟨σ',H',I,q⟩:=h;exact⟨σ',H',I.unwish,q⟩
 |cont=>obtain⟨σ',H',I,q⟩:=h;exact⟨σ',H',I.unwish,q⟩
 |ret u=>obtain⟨v,σ',H',I,r,q⟩:=h;exact⟨v,σ',H',I.unwish,r,q⟩
theorem PE.nox{e:Expr}{t:TE}(h:PE X.nox e t):PE X e t:=λpins s σ H Q I hw=>
 ck (h pins s σ H Q (I.wish _) hw) (λ_ _ ⟨v,H',I',r,q⟩=>⟨v,H',I'.unwish,r,q⟩) λ_ _ z=>cA z
end
section
variable {X:Cx}{st:Stmt}{rest:List Stmt}{t u:TS}{e:Expr}{te:TE}{pos:aA}
noncomputable def zzg:TS:=λD σ H=>D.nx σ H
noncomputable def zzX (t u:TS):TS:=λD σ H=>t { D with nx:=u D } σ H
theorem pss_nil:PSs X [] zzg:=λ_ _ σ H _ I h=>fK ⟨σ,H,I,h⟩
theorem zsm (h1:PS X st t) (h2:PSs X rest u):PSs X (st::rest) (zzX t u):=by
 intro pins s σ H D I h;refine kf (thn (h1 pins s σ H { D with nx:=u D } I h) λf s1 q=>?_);cases f with
 |next=>
  obtain⟨σ',H',I',q⟩:=q;exact h2 pins s1 σ' H' D I' q
 |ret v=>exact q
 |brk=>exact q
 |cont=>exact q
theorem zty (h1:PS X st t):PSs X [st] t:=by
 intro pins s σ H D I h;refine kf (thn (h1 pins s σ H D I h) λf s1 q=>?_);cases f with
 |next=>exact fK q
 |ret v=>exact q
 |brk=>exact q
 |cont=>exact q
theorem Inv.quiet{pins:List (Addr×Obj)}{σ:St}{H:Hp}{s:ag}(I:Inv X pins σ H s):interactive X.env=false:=by simp [interactive,I.ok.kind]
noncomputable def zzN (te:TE):TS:=λD σ H=>te σ H λ_ H1=>D.nx σ H1
theorem ztv (he:PE X e te) (hs:dI e none pos.line X.env=pure false:=by rfl):PS X (.Expr e pos) (zzN te):=by
 intro pins s σ H D I h;exact wpAny_Expr_any (thn (he pins s σ H _ I h) λv s1 ⟨x,H1,I1,r1,q1⟩=>⟨σ,H1,I1,q1⟩) I.quiet hs
noncomputable def zAk (te:TE):TS:=λD σ H=>te σ H D.rt
theorem zvK (he:PE X e te):PS X (.Return (ae e) pos) (zAk te):=by
 intro pins s σ H D I h;exact wpAny_Return_some (thn (he pins s σ H _ I h) λv s1 ⟨x,H1,I1,r1,q1⟩=>⟨x,σ,H1,I1,r1,q1⟩)
noncomputable def zAb (c:TT) (t u:TS):TS:=λD σ H=>c σ H λb H1=>if b=true then t D σ H1 else u D σ H1
theorem zyX{c:Expr}{a b:List Stmt}{tc:TT}(hc:PT X c tc) (ha:PSs X a t) (hb:PSs X b u):PS X (.If c a b pos) (zAb tc t u):=by
 intro pins s σ H D I h;refine wpAny_If (thn (hc pins s σ H _ I h) λd s1 ⟨H1,I1,q1⟩=>?_);cases d with
 |true=>exact ha pins s1 σ H1 D I1 q1
 |false=>exact hb pins s1 σ H1 D I1 q1
end
abbrev TG:=V→St→Hp→(St→Hp→Prop)→Prop
abbrev TGs:=List V→St→Hp→(St→Hp→Prop)→Prop
def PG (X:Cx) (target:Expr) (t:TG):Prop:=
 ∀(pins:List (Addr×Obj)) (s:ag) (σ:St) (H:Hp) (v:V) (u:Value) (Q:St→Hp→Prop),Inv X pins σ H s→RelV v u→t v σ H Q→
  aj (ao X.prog X.w) X.A (assign target X.env u) (λ_ s'=>∃σ' H',Inv X pins σ' H' s'∧Q σ' H') X.xe s
def PGs (X:Cx) (ts:List Expr) (t:TGs):Prop:=
 ∀(pins:List (Addr×Obj)) (s:ag) (σ:St) (H:Hp) (vs:List V) (us:List Value) (Q:St→Hp→Prop),Inv X pins σ H s→Vals vs us→t vs σ H Q→
  aj (ao X.prog X.w) X.A (assignInOrder ((cy ts X.env).map (·.2)) us) (λ_ s'=>∃σ' H',Inv X pins σ' H' s'∧Q σ' H') X.xe s
abbrev TIp:=V→V→Hp→VK→Prop
def PIp (X:Cx) (op:fv) (t:TIp):Prop:=
 ∀(pins:List (Addr×Obj)) (s:ag) (σ:St) (H:Hp) (x y:V) (v u:Value) (Q:VK),Inv X pins σ H s→RelV x v→RelV y u→t x y H Q→
  aj (ao X.prog X.w) X.A (inplaceOp op v u) (EP X pins σ Q) X.xe s
section
variable {X:Cx}{pos:aA}
noncomputable def zvh (i:Nat):TG:=λv σ H Q=>Q (σ.set i (ae v)) H
theorem zuD{i:Nat}{x:Str}(hN:X.N.Nodup) (hi:X.N[i]? =ae x) (hx:Loc X.env.scope x) (hf:X.fn x=true∨X.env.scope.names.lookup x=ae .local:=by first |exact .inl rfl |exact .inr rfl |assumption):PG X (.Name x pos) (zvh i):=by
 intro pins s σ H v u Q I r h;exact jY (zhL I hN hi hx r (λs' I'=>⟨_,H,I',h⟩) hf)
noncomputable def zAB:TGs:=λvs σ H Q=>vs=[]∧Q σ H
noncomputable def zzt (t:TG) (u:TGs):TGs:=λvs σ H Q=>∃v r,vs=v::r∧t v σ H λσ' H'=>u r σ' H' Q
theorem ztA:PGs X [] zAB:=by
 intro pins s σ H vs us Q I r h;obtain⟨e,h⟩:=h;subst e;cases r;exact assignInOrder_nil ⟨σ,H,I,h⟩
theorem zrQ{e:Expr}{es:List Expr}{t:TG}{u:TGs}(h1:PG X e t) (h2:PGs X es u)
  (hs:(cy (e::es) X.env).map (·.2)=assign e X.env::(cy es X.env).map (·.2):=by rfl):PGs X (e::es) (zzt t u):=by
 intro pins s σ H vs us Q I r h;obtain⟨v,vr,e1,h⟩:=h;subst e1;cases r with
 |cons r rr=>
  rw[hs];refine assignInOrder_cons (thn (h1 pins s σ H _ _ _ I r h) λ_ s1 ⟨σ1,H1,I1,q1⟩=>?_);exact h2 pins s1 σ1 H1 _ _ Q I1 rr q1
noncomputable def zAs (K:ah) (n:Nat) (t:TGs):TG:=λv σ H Q=>∃a xs,v= .ref a∧SqT K H a xs∧xs.length=n∧t xs σ H Q
theorem zxs{es:List Expr}{k:Nat}{t:TGs}{n:Nat}(hc:X.calm=true) (h:PGs X es t)
  (hn:(cy es X.env).length=n:=by rfl) (hst:(cy es X.env).findIdx? (·.1)=none:=by rfl):PG X (.Tuple es k pos) (zAs X.K n t):=by
 intro pins s σ H v u Q I r hw;obtain⟨a,xs,e1,hq,hl,hw⟩:=hw;subst e1;cases r;obtain⟨its,rv,ht,hz⟩:=I.tuple hq;refine assign_Tuple_tuple (I.ok.hd hc) ht (by simp [hn,←hl,rv.length]) hst λh' hx=>?_;have I1:Inv X pins σ H { s with heap:=h' }:=I.kept (t':=s.toks) λb o e=>hx b o (bt (aF e)) e;exact h pins _ σ H xs _ Q I1 (by simpa using rv) hw
noncomputable def zzx (te:TE) (g:TG):TS:=λD σ H=>te σ H λx H1=>g x σ H1 D.nx
theorem zyd{tg e:Expr}{te:TE}{g:TG}(he:PE X e te) (hg:PG X tg g) (hs:swapsWithSole [tg] e pos.line X.env=pure false:=by rfl) (hw:swappedStores [tg] e X.env=pure none:=by rfl)
  (h1:(cy [tg] X.env).map (·.2)=[assign tg X.env]:=by rfl):PS X (.Assign [tg] e pos) (zzx te g):=by
 intro pins s σ H D I h;refine wpAny_Assign_stores (thn (he pins s σ H _ I h) λv s1 ⟨x,H1,I1,r1,q1⟩=>?_) hs hw;rw[h1];exact thn (hg pins s1 σ H1 x v _ I1 r1 q1) λ_ s2 q=>q
theorem zxy{i:Nat}{x:Str}{e:Expr}{te:TE}{pos':aA}(hN:X.N.Nodup) (hi:X.N[i]? =ae x) (hx:Loc X.env.scope x) (he:PE X e te) (hs:dI e (ae (.Name x pos')) pos.line X.env=pure false:=by rfl) (hf:X.fn x=true∨X.env.scope.names.lookup x=ae .local:=by first |exact .inl rfl |exact .inr rfl |assumption) :
  PS X (.Assign [.Name x pos'] e pos) (zzx te (zvh i)):=by
 intro pins s σ H D I h;refine wpAny_Assign_Name (thn (he pins s σ H _ I h) λv s1 ⟨y,H1,I1,r1,q1⟩=>?_) hs;exact zhL I1 hN hi hx r1 (λs2 I2=>⟨_,H1,I2,q1⟩) hf
noncomputable def zAK (i:Nat) (te:TE) (ti:TIp):TS:=λD σ H=>∃x,σ[i]? =ae (ae x)∧te σ H λy H1=>ti x y H1 λz H2=>D.nx (σ.set i (ae z)) H2
theorem zvN{i:Nat}{x:Str}{e:Expr}{te:TE}{op:fv}{ti:TIp}{pos':aA}(hN:X.N.Nodup) (hi:X.N[i]? =ae x) (hx:Loc X.env.scope x) (he:PE X e te) (ho:PIp X op ti) (hf:X.fn x=true∨X.env.scope.names.lookup x=ae .local:=by first |exact .inl rfl |exact .inr rfl |assumption) :
  PS X (.AugAssign (.Name x pos') op e pos) (zAK i te ti):=by
 intro pins s σ H D I h;obtain⟨v,e1,h⟩:=h;obtain⟨m,hn,hl⟩:=I.loc;have vis:Vis X.env.scope x:=by rcases hx with k |k;exact .inl k;exact .inr (.inl k)
 obtain⟨u,r,l⟩:=hl i x v hi e1 vis;refine wpAny_AugAssign_Name ?_;have go:aj (ao X.prog X.w) X.A (aq e X.env) (λw s₂=>aj (ao X.prog X.w) X.A (inplaceOp op u w) (λr s₃=>aj (ao X.prog X.w) X.A (iu X.env x r) (λ_=>SP X pins D .next) X.xe s₃) X.xe s₂) X.xe s:=by
  refine thn (he pins s σ H _ I h) λw s1 ⟨y,H1,I1,r1,q1⟩=>?_;refine thn (ho pins s1 σ H1 v y u w _ I1 r r1 q1) λz s2 ⟨zv,H2,I2,r2,q2⟩=>?_;exact zhL I2 hN hi hx r2 (λs3 I3=>⟨_,H2,I3,q2⟩) hf
 rcases l with⟨hk,hm⟩ |⟨hk,c,hc,hcell⟩
 ·exact jI I.ok.kind hk hn hm go
 ·rcases hk with hk |hk
  ·exact jh I.ok.kind hk hc hcell go
  ·rcases hx with k |k
   ·have:X.env.scope.names.lookup x=ae .free:=hk;rw[k]at this;cases this
   ·have:X.env.scope.names.lookup x=ae .free:=hk;rw[k]at this;cases this
noncomputable def ipI (f:Int→Int→Int):TIp:=λx y H Q=>∃i j,x= .int i∧y= .int j∧Q (.int (f i j)) H
theorem zxY:PIp X .Add (ipI λi j=>i+j):=by
 intro pins s σ H x y v u Q I r1 r2 h;obtain⟨i,j,e1,e2,q⟩:=h;subst e1;subst e2;obtain⟨t,rfl⟩:=r1;obtain⟨t',rfl⟩:=r2;exact iadd_int ⟨.int _,H,I.tok _,⟨_,rfl⟩,q⟩
end
section
variable {X:Cx}{pos:aA}
noncomputable def zwv (c:TT) (tb:TS):TS:=λD σ H=>∃W:Nat→St→Hp→Prop,(∃m,W m σ H)∧ ∀m σ H,W m σ H→
 c σ H λb H1=>if b=true then ∃N:St→Hp→Prop,(∀σ' H',N σ' H'→ ∃m',m'<m∧W m' σ' H')∧tb { D with nx:=N,ct:=N,bk:=D.nx } σ H1 else D.nx σ H1
theorem zqP{c:Expr}{body:List Stmt}{tc:TT}{tb:TS}(hp:fh (ao X.prog X.w) X.A X.env X.xe) (hc:PT X c tc) (hb:PSs X body tb):PS X (.While c body [] pos) (zwv tc tb):=by
 intro pins s σ H D I h;obtain⟨W,⟨m0,w0⟩,turn⟩:=h;refine wpAny_While (codeAny_whileLoop (λn s'=>∃σ' H',Inv X pins σ' H' s'∧W n σ' H') ?_ m0 ⟨σ,H,I,w0⟩);rintro n s1 ⟨σ1,H1,I1,w1⟩;refine dw hp (thn (hc pins s1 σ1 H1 _ I1 (turn n σ1 H1 w1)) λb s2 ⟨H2,I2,q2⟩=>?_);cases b with
 |true=>
  obtain⟨N,hN,q2⟩:=q2;rw[if_pos rfl];refine dw hp (thn (hb pins s2 σ1 H2 _ I2 q2) λf s3 q3=>?_);cases f with
  |next=>
   obtain⟨σ3,H3,I3,n3⟩:=q3;obtain⟨m',hm,w3⟩:=hN σ3 H3 n3;exact⟨m',hm,σ3,H3,I3,w3⟩
  |cont=>
   obtain⟨σ3,H3,I3,n3⟩:=q3;obtain⟨m',hm,w3⟩:=hN σ3 H3 n3;exact⟨m',hm,σ3,H3,I3,w3⟩
  |brk=>exact q3
  |ret v=>exact q3
 |false=>
  rw[if_neg cR];exact fK ⟨σ1,H2,I2,q2⟩
end
structure It where
  go:Nat→Hp→Prop
  yld:Nat→Hp→V→Hp→Prop
  stop:Nat→Hp→Prop
def zij (X:Cx) (pins:List (Addr×Obj)) (H:Hp) (b:Addr):Prop:=
 H b=none∧b≠X.env.locals∧b∉X.fs∧(b∈X.ex∨X.s₀.heap.objs.size≤b)∧(∀x c,X.env.cells.lookup x=ae c→c≠b)∧ ∀p∈X.pn++pins,p.1≠b
theorem Inv.fpOk{X:Cx}{pins:List (Addr×Obj)}{σ:St}{H H':Hp}{s:ag}{b:Addr}(I:Inv X pins σ H s) (hb:s.heap.objs.size≤b) (hn:H' b=none):zij X pins H' b:=by
 refine⟨hn,cE (bK I.lt hb),I.nofs hb, .inr (bC I.sz hb),λx c e z=>?_,λp hp z=>?_⟩
 ·obtain⟨v,q⟩:=I.cell x c e;exact absurd (bK q.lt (by rw[z];exact hb)) (bZ _)
 ·exact absurd (bK (aF (I.pin p hp).1) (by rw[z];exact hb)) (bZ _)
structure Turn (P:aE) (w:az) (K:ah) (tg:Expr) (J:It) (fp:List Addr) (it:Addr) (tn:Nat→Heap→Prop):Prop where
  mem:it∈fp
  obj:∀i h,tn i h→ ∀b∈fp,∃o,h.get? b=ae o∧ ∀v,o.data≠ .cell v
  keep:∀i h h',tn i h→(∀b∈fp,∀o,h.get? b=ae o→h'.get? b=ae o)→tn i h'
  item:∀(X:Cx),X.prog=P→X.w=w→X.K=K→X.calm=true→ ∀(i:Nat) (pins:List (Addr×Obj)) (s:ag) (σ:St) (H:Hp) (E:Value→ag→Prop),Inv X pins σ H s→(∀b∈fp,zij X pins H b)→tn i s.heap→J.go i H→
    aj (ao P w) X.A (b4 (.ref it)) (λr s1=>∃u,r=ae u∧
      aj (ao P w) X.A (fY tg (.ref it) u) (λ_ s2=>∃x H',Inv X pins σ H' s2∧RelV x u∧J.yld i H x H'∧tn (i+1) s2.heap∧ ∀b∈fp,H' b=none) E s1) E s
  done:∀(X:Cx),X.prog=P→X.w=w→X.K=K→X.calm=true→ ∀(i:Nat) (pins:List (Addr×Obj)) (s:ag) (σ:St) (H:Hp) (E:Value→ag→Prop),Inv X pins σ H s→(∀b∈fp,zij X pins H b)→tn i s.heap→J.stop i H→
    aj (ao P w) X.A (b4 (.ref it)) (λr s1=>r=none∧Inv X pins σ H s1) E s
  self:∀(A:aP) (i:Nat) (s:ag) (Q:Value→ag→Prop) (E:Value→ag→Prop),tn i s.heap→Q (.ref it) s→aj (ao P w) A (cZ (.ref it)) Q E s
abbrev TI:=St→Hp→(It→Hp→Prop)→Prop
def PIE (X:Cx) (pins:List (Addr×Obj)) (σ:St) (tg:Expr) (R:It→Hp→Prop) (itv:Value) (s2:ag):Prop:=
 ∃(it:Addr) (fp:List Addr) (tn:Nat→Heap→Prop) (J:It) (H':Hp),itv= .ref it∧Inv X pins σ H' s2∧Turn X.prog X.w X.K tg J fp it tn∧tn 0 s2.heap∧(∀b∈fp,zij X pins H' b)∧R J H'
def PI (X:Cx) (tg iter:Expr) (wi:TI):Prop:=
 ∀(pins:List (Addr×Obj)) (s:ag) (σ:St) (H:Hp) (R:It→Hp→Prop),Inv X pins σ H s→wi σ H R→
  aj (ao X.prog X.w) X.A (aq iter X.env) (λv s1=>aj (ao X.prog X.w) X.A (cZ v) (PIE X pins σ tg R) X.xe s1) X.xe s
theorem zrR{M:Model}{A:aP}{E:Value→ag→Prop}{s:ag}{tg:Expr}{it:Addr}{u:Value}{o:Obj}{n:String}{vs:Array Value}{Q:Unit→ag→Prop}(ho:s.heap.get? it=ae o) (hc:o.cls= .type n) (hd:o.data= .fields vs)
    (hn: ["enumerate", "zip", "dict_itemiterator", "dict_reverseitemiterator", "odict_iterator", "itertools.zip_longest", "itertools.pairwise"].contains n=false) (hQ:Q () s):aj M A (fY tg (.ref it) u) Q E s:=by
  unfold fY;cases tg<;>first
    |exact aD hQ
    | (cases u<;>first
        |exact aD hQ
        | (refine ai (wpAny_load ho ?_)
           rw[hc,hd];show aj M A (if(["enumerate", "zip", "dict_itemiterator", "dict_reverseitemiterator", "odict_iterator", "itertools.zip_longest", "itertools.pairwise"].contains n&&vs[0]? == ae (cw _))=true then _ else _) Q E s;rw[if_neg (by intro h;rw[hn,Bool.false_and]at h;cases h)];exact aD hQ))
noncomputable def Itl (K:ah) (a:Addr):It:=
 ⟨λi H=>∃xs x,SqL K H a xs∧xs[i]? =ae x,λi H x H'=>H'=H∧ ∀xs,SqL K H a xs→xs[i]? =ae x,λi H=>∃xs,SqL K H a xs∧xs.length≤i⟩
noncomputable def Itt (K:ah) (a:Addr):It:=
 ⟨λi H=>∃xs x,SqT K H a xs∧xs[i]? =ae x,λi H x H'=>H'=H∧ ∀xs,SqT K H a xs→xs[i]? =ae x,λi H=>∃xs,SqT K H a xs∧xs.length≤i⟩
noncomputable def Itr (lo:Int) (n:Nat):It:=⟨λi _=>i<n,λi H x H'=>H'=H∧x= .int (lo+i),λi _=>n≤i⟩
theorem ziw{P:aE}{w:az}{K:ah}{tg:Expr}(a it:Addr):Turn P w K tg (Itl K a) [it] it (λi h=>h.IsListIter it a i) where
  mem:=by simp
  obj:=λi h st b hb=>by
    have e:b=it:=by simpa using hb
    subst e;obtain⟨o,e,c,d⟩:=st;exact⟨o,e,λv z=>by rw[d]at z;cases z⟩
  keep:=λi h h' st k=>st.at λo e=>k it (by simp) o e
  item:=by
    intro X hP hw hK hc i pins s σ H E I hf st hg;subst hP hw hK;obtain⟨xs,x,hq,hx⟩:=hg;obtain⟨its,rv,p,hz⟩:=I.list hq;obtain⟨u,hu,ru⟩:=rv.get hx;obtain⟨f0,f1,f2,f3,f4,f5⟩:=hf it (by simp);refine wpAny_pyNext_list_item st p.isList (x:=u) (by simpa using hu) λh' st' sb=>?_;have I1:Inv X pins σ H { s with heap:=h' }:=I.turned (t':=s.toks) (λb o hb e=>(sb.2 b hb).trans e) f0 f1 f3 f4 f5;obtain⟨o,e,c,d⟩:=id st';exact⟨u,rfl,zrR (s:={ s with heap:=h' }) e c d (by decide) ⟨x,H,I1,ru,⟨rfl,λys hy=>by rw[I.list_inj hy hq];exact hx⟩,st',λb hb=>(hf b hb).1⟩⟩
  done:=by
    intro X hP hw hK hc i pins s σ H E I hf st hg;subst hP hw hK;obtain⟨xs,hq,hx⟩:=hg;obtain⟨its,rv,p,hz⟩:=I.list hq;obtain⟨f0,f1,f2,f3,f4,f5⟩:=hf it (by simp);have hl:=rv.length;exact wpAny_pyNext_list_end (I.ok.hd hc) st p.isList (by simp;omega) λh' eb=>⟨rfl,I.turned (t':=s.toks) (λb o hb e=>eb b o hb e) f0 f1 f3 f4 f5⟩
  self:=λ_ _ _ _ _ st h=>wpAny_pyIter_listiter st h
theorem znl{P:aE}{w:az}{K:ah}{tg:Expr}(a it:Addr):Turn P w K tg (Itt K a) [it] it (λi h=>h.IsTupleIter it a i) where
  mem:=by simp
  obj:=λi h st b hb=>by
    have e:b=it:=by simpa using hb
    subst e;obtain⟨o,e,c,d⟩:=st;exact⟨o,e,λv z=>by rw[d]at z;cases z⟩
  keep:=λi h h' st k=>st.at λo e=>k it (by simp) o e
  item:=by
    intro X hP hw hK hc i pins s σ H E I hf st hg;subst hP hw hK;obtain⟨xs,x,hq,hx⟩:=hg;obtain⟨its,rv,p,hz⟩:=I.tuple hq;obtain⟨u,hu,ru⟩:=rv.get hx;obtain⟨f0,f1,f2,f3,f4,f5⟩:=hf it (by simp);refine wpAny_pyNext_tuple_item st (show s.heap.IsTuple a its.toArray from p) (x:=u) (by simpa using hu) λh' st' sb=>?_;have I1:Inv X pins σ H { s with heap:=h' }:=I.turned (t':=s.toks) (λb o hb e=>(sb.2 b hb).trans e) f0 f1 f3 f4 f5;obtain⟨o,e,c,d⟩:=id st';exact⟨u,rfl,zrR (s:={ s with heap:=h' }) e c d (by decide) ⟨x,H,I1,ru,⟨rfl,λys hy=>by rw[I.tuple_inj hy hq];exact hx⟩,st',λb hb=>(hf b hb).1⟩⟩
  done:=by
    intro X hP hw hK hc i pins s σ H E I hf st hg;subst hP hw hK;obtain⟨xs,hq,hx⟩:=hg;obtain⟨its,rv,p,hz⟩:=I.tuple hq;obtain⟨f0,f1,f2,f3,f4,f5⟩:=hf it (by simp);have hl:=rv.length;exact wpAny_pyNext_tuple_end (I.ok.hd hc) st (show s.heap.IsTuple a its.toArray from p) (by simp;omega) λh' eb=>⟨rfl,I.turned (t':=s.toks) (λb o hb e=>eb b o hb e) f0 f1 f3 f4 f5⟩
  self:=λ_ _ _ _ _ st h=>wpAny_pyIter_tupleiter st h
theorem zny{P:aE}{w:az}{K:ah}{tg:Expr}(it:Addr) (lo:Int) (n:Nat):Turn P w K tg (Itr lo n) [it] it (λi h=>IsRangeIter h it (lo+(i:Nat)*1) ((n:Int) - (i:Nat)) 1) where
  mem:=by simp
  obj:=λi h st b hb=>by
    have e:b=it:=by simpa using hb
    subst e;exact⟨_,st,λv z=>by
      have z':Data.fields _=Data.cell v:=z;cases z'⟩
  keep:=λi h h' st k=>k it (by simp) _ st
  item:=by
    intro X hP hw hK hc i pins s σ H E I hf st hg;subst hP hw hK;obtain⟨f0,f1,f2,f3,f4,f5⟩:=hf it (by simp);have W:=Walks.range (prog:=X.prog) (w:=X.w) (I.ok.hd hc) it lo 1 n;refine W.item i s _ _ hg st λv h' tk hv st' kk=>?_;obtain⟨t,rfl⟩:=hv;have I1:Inv X pins σ H { s with heap:=h',toks:=tk }:=I.turned (λb o hb e=>kk b o (by simpa using hb) e) f0 f1 f3 f4 f5;refine⟨_,rfl,zrR (s:={ s with heap:=h',toks:=tk }) (n:= "range_iterator") st' rfl rfl (by decide) ⟨.int (lo+i),H,I1,⟨t,?_⟩,⟨rfl,rfl⟩,st',λb hb=>(hf b hb).1⟩⟩;rw[Int.mul_one]
  done:=by
    intro X hP hw hK hc i pins s σ H E I hf st hg;subst hP hw hK;obtain⟨f0,f1,f2,f3,f4,f5⟩:=hf it (by simp);exact wpAny_pyNext_range_end (I.ok.hd hc) st (by have:n≤i:=hg;omega) λh' eb=>⟨rfl,I.turned (t':=s.toks) (λb o hb e=>eb b o hb e) f0 f1 f3 f4 f5⟩
  self:=λ_ _ _ _ _ st h=>wpAny_pyIter_rangeiter st h
section
variable {X:Cx}{tg:Expr}
noncomputable def zzK (K:ah) (tl:TE):TI:=λσ H R=>tl σ H λx H1=>∃a,x= .ref a∧(∃xs,SqL K H1 a xs)∧R (Itl K a) H1
theorem zuy{l:Expr}{tl:TE}(hl:PE X l tl):PI X tg l (zzK X.K tl):=by
 intro pins s σ H R I h;refine thn (hl pins s σ H _ I h) λv s1 ⟨x,H1,I1,r1,q1⟩=>?_;obtain⟨a,e,⟨xs,hq⟩,q⟩:=q1;subst e;cases r1;obtain⟨its,rv,p,hz⟩:=I1.list hq;refine dc p.isList ?_;refine⟨s1.heap.objs.size,[s1.heap.objs.size],_,_,H1,rfl,I1.kept (t':=s1.toks) λb o e=>aH _ e,ziw a _,⟨_,bh _ rfl,rfl,rfl⟩,λb hb=>?_,q⟩;have e:b=s1.heap.objs.size:=by simpa using hb
 subst e;exact I1.fpOk (au _) (I1.hok.fresh (au _))
theorem zrP{pins:List (Addr×Obj)}{σ:St}{H:Hp}{s:ag}{R:It→Hp→Prop}{E:Value→ag→Prop}{lo hi:Int}{t u v:bc}{tk:Nat}(I:Inv X pins σ H s) (h1: -(2 ^ 62)≤lo) (h2:lo<2 ^ 62) (h3: -(2 ^ 62)≤hi) (h4:hi<2 ^ 62)
  (q:R (Itr lo (hi - lo).toNat) H):aj (ao X.prog X.w) X.A (cZ (.ref s.heap.objs.size)) (PIE X pins σ tg R) E { s with heap:=s.heap.push { cls:= .type "range",data:= .fields #[.int lo t, .int hi u, .int 1 v] },toks:=tk }:=by
 refine wpAny_pyIter_range (IsRange.new ..) (small_one h1 h2 h3 h4) ?_;have I1:Inv X pins σ H { s with heap:=s.heap.push { cls:= .type "range",data:= .fields #[.int lo t, .int hi u, .int 1 v] },toks:=tk }:=I.kept λb o e=>aH _ e;refine⟨(s.heap.push { cls:= .type "range",data:= .fields #[.int lo t, .int hi u, .int 1 v] }).objs.size,[(s.heap.push { cls:= .type "range",data:= .fields #[.int lo t, .int hi u, .int 1 v] }).objs.size],_,_,H,rfl,
  I1.kept (t':=tk) λb o e=>aH _ e,zny _ lo (hi - lo).toNat,?_,λb hb=>?_,q⟩
 ·have e1:lo+((0:Nat):Int)*1=lo:=by simp
  have e2:(((hi - lo).toNat:Nat):Int) - ((0:Nat):Int)=bX.Range.rangeSize lo hi 1:=by rw[rangeSize_one];split<;>omega
  show IsRangeIter _ _ (lo+((0:Nat):Int)*1) ((((hi - lo).toNat:Nat):Int) - ((0:Nat):Int)) 1;rw[e1,e2];exact bh _ rfl
 ·have e:b=(s.heap.push { cls:= .type "range",data:= .fields #[.int lo t, .int hi u, .int 1 v] }).objs.size:=by simpa using hb
  subst e;exact I1.fpOk (au _) (I1.hok.fresh (au _))
noncomputable def zzI (ta:TA):TI:=λσ H R=>ta σ H λvs H1=>∃j:Int,vs=[.int j]∧ -(2 ^ 62)≤j∧j<2 ^ 62∧R (Itr 0 j.toNat) H1
theorem zqs{a:Expr}{ta:TA}{p pos:aA}(hg:Gl X "range") (hm:X.mg "range" =none) (ha:PA X [a] ta) (hs:am [a] X.env=[(false,aq a X.env)]:=by rfl):PI X tg (.Call (.Name "range" p) [a] [] pos) (zzI ta):=by
 intro pins s σ H R I h;refine Call_ (zhc I hg hm boot_range (fB (thn (ha pos pins s σ H _ I h) λus s1 ⟨vs,H1,I1,r1,q1⟩=>?_) hs rfl));obtain⟨j,e,q1,q2,q⟩:=q1;subst e;cases r1 with
 |cons r rr=>
  cases rr;obtain⟨t,rfl⟩:=r;exact call_range_1 (zrP I1 (by omega) (by omega) q1 q2 (by simpa using q))
noncomputable def zzZ (wi:TI) (g:TG) (tb:TS):TS:=λD σ H=>wi σ H λJ H1=>∃W:Nat→Nat→St→Hp→Prop,(∃m,W 0 m σ H1)∧ ∀i m σ H,W i m σ H→
 (J.stop i H∧D.nx σ H)∨(J.go i H∧ ∃N:St→Hp→Prop,(∀σ' H',N σ' H'→ ∃m',m'<m∧W (i+1) m' σ' H')∧ ∀x H',J.yld i H x H'→g x σ H' λσ2 H2=>tb { D with nx:=N,ct:=N,bk:=D.nx } σ2 H2)
noncomputable def zjM (fp:List Addr) (h:Heap):List (Addr×Obj):=fp.filterMap λb=>(h.get? b).map λo=>(b,o)
theorem zed{fp:List Addr}{h:Heap}{b:Addr}{o:Obj}(hb:b∈fp) (e:h.get? b=ae o):(b,o)∈zjM fp h:=hV.mpr ⟨b,hb,by rw[e];rfl⟩
theorem zpB{fp:List Addr}{h:Heap}{p:Addr×Obj}(hp:p∈zjM fp h):p.1∈fp∧h.get? p.1=ae p.2:=by
 obtain⟨b,hb,e⟩:=hV.mp hp;cases q:h.get? b with
 |none=>rw[q]at e;cases e
 |some o=>
  rw[q]at e;have e':(b,o)=p:=aI e;subst e';exact⟨hb,q⟩
theorem Inv.pinned{pins:List (Addr×Obj)}{σ:St}{H:Hp}{s:ag}{fp:List Addr}(I:Inv X pins σ H s) (hf:∀b∈fp,zij X pins H b) (ho:∀b∈fp,∃o,s.heap.get? b=ae o∧ ∀v,o.data≠ .cell v):Inv X (pins++zjM fp s.heap) σ H s:=
 I.pins_of λp hp=>(bb.mp hp).elim (λz=>I.pin p (a8 _ z)) λz=>by
  obtain⟨hb,e⟩:=zpB z;obtain⟨f0,f1,f2,_⟩:=hf p.1 hb;obtain⟨o,e',d⟩:=ho p.1 hb;rw[e]at e';cases e';exact⟨e,f0,f1,f2,d⟩
theorem Inv.unpinned{pins pl:List (Addr×Obj)}{σ:St}{H:Hp}{s:ag}(I:Inv X (pins++pl) σ H s):Inv X pins σ H s:=I.pins_of λp hp=>I.pin p (a8 _ (bO _ hp))
theorem zvT{iter:Expr}{body:List Stmt}{wi:TI}{g:TG}{tb:TS}{pos:aA}(hp:fh (ao X.prog X.w) X.A X.env X.xe) (hc:X.calm=true) (hi:PI X tg iter wi) (hg:PG X tg g) (hb:PSs X body tb)
  (hs:∀x,de iter X.env x=pure x:=by intro _;rfl):PS X (.For tg iter body [] pos) (zzZ wi g tb):=by
 intro pins s σ H D I h;refine wpAny_For (thn (hi pins s σ H _ I h) λv s1 h1=>thn h1 λitv s2 h2=>?_) hs;obtain⟨it,fp,tn,J,H2,e,I2,T,st2,f2,W,⟨m0,w0⟩,turn⟩:=h2;subst e;have stat:∀{H':Hp},(∀b∈fp,H' b=none)→ ∀b∈fp,zij X pins H' b:=λhn b hb=>⟨hn b hb,(f2 b hb).2⟩;refine codeAny_forLoop_any (λn s'=>∃i σ' H',Inv X pins σ' H' s'∧tn i s'.heap∧(∀b∈fp,H' b=none)∧W i n σ' H') ?_ m0 ⟨0,σ,H2,I2,st2,λb hb=>(f2 b hb).1,w0⟩;rintro n s3 ⟨i,σ3,H3,I3,st3,fr3,w3⟩;rcases turn i n σ3 H3 w3 with⟨stop,qn⟩ |⟨go,N,hN,step⟩
 ·refine dw hp (thn (T.done X rfl rfl rfl hc i pins s3 σ3 H3 X.xe I3 (stat fr3) st3 stop) λr s4 ⟨hr,I4⟩=>?_);subst hr;exact fK ⟨σ3,H3,I4,qn⟩
 ·refine dw hp (thn (T.item X rfl rfl rfl hc i pins s3 σ3 H3 X.xe I3 (stat fr3) st3 go) λr s4 ⟨u,hr,h4⟩=>?_);subst hr;refine dw hp (thn h4 λ_ s5 ⟨x,H5,I5,r5,y5,st5,fr5⟩=>?_);have I5':=I5.pinned (stat fr5) (T.obj _ _ st5);refine dw hp (thn (hg _ s5 σ3 H5 x u _ I5' r5 (step x H5 y5)) λ_ s6 ⟨σ6,H6,I6,q6⟩=>?_);refine dw hp (thn (hb _ s6 σ6 H6 _ I6 q6) λf s7 q7=>?_);have again:∀{σ7:St}{H7:Hp},Inv X (pins++zjM fp s5.heap) σ7 H7 s7→N σ7 H7→ ∃m,m<n∧ ∃i σ' H',Inv X pins σ' H' s7∧tn i s7.heap∧(∀b∈fp,H' b=none)∧W i m σ' H':=λ{σ7 H7} I7 n7=>by
   obtain⟨m',hm,w7⟩:=hN σ7 H7 n7;refine⟨m',hm,i+1,σ7,H7,I7.unpinned,T.keep _ _ _ st5 λb hb o e=>(I7.pin (b,o) (a8 _ (a8 _ (zed hb e)))).1,λb hb=>?_,w7⟩;obtain⟨o,e,d⟩:=T.obj _ _ st5 b hb;exact(I7.pin (b,o) (a8 _ (a8 _ (zed hb e)))).2.1
  cases f with
  |next=>obtain⟨σ7,H7,I7,n7⟩:=q7;exact again I7 n7
  |cont=>obtain⟨σ7,H7,I7,n7⟩:=q7;exact again I7 n7
  |brk=>obtain⟨σ7,H7,I7,q7⟩:=q7;exact⟨σ7,H7,I7.unpinned,q7⟩
  |ret v=>obtain⟨x7,σ7,H7,I7,r7,q7⟩:=q7;exact⟨x7,σ7,H7,I7.unpinned,r7,q7⟩
end
abbrev R2:=V→V→Hp→VK→Prop
def OpR (X:Cx) (f:Value→Value→bY Value) (r:R2):Prop:=
 ∀(pins:List (Addr×Obj)) (s:ag) (σ:St) (H:Hp) (x y:V) (v u:Value) (Q:VK),Inv X pins σ H s→RelV x v→RelV y u→r x y H Q→
  aj (ao X.prog X.w) X.A (f v u) (EP X pins σ Q) X.xe s
def UnR (X:Cx) (f:Value→bY Value) (r:V→Hp→VK→Prop):Prop:=
 ∀(pins:List (Addr×Obj)) (s:ag) (σ:St) (H:Hp) (x:V) (v:Value) (Q:VK),Inv X pins σ H s→RelV x v→r x H Q→
  aj (ao X.prog X.w) X.A (f v) (EP X pins σ Q) X.xe s
def CallR (X:Cx) (f:Value) (r:List V→Hp→VK→Prop):Prop:=
 ∀(pins:List (Addr×Obj)) (s:ag) (σ:St) (H:Hp) (xs:List V) (us:List Value) (Q:VK),Inv X pins σ H s→Vals xs us→r xs H Q→
  aj (ao X.prog X.w) X.A (call f us) (EP X pins σ Q) X.xe s
def zAg (X:Cx) (r:V→Hp→(Bool→Hp→Prop)→Prop):Prop:=
 ∀(pins:List (Addr×Obj)) (s:ag) (σ:St) (H:Hp) (x:V) (v:Value) (Q:Bool→Hp→Prop),Inv X pins σ H s→RelV x v→r x H Q→
  aj (ao X.prog X.w) X.A (truthy v) (TP X pins σ Q) X.xe s
noncomputable def tOp (r:R2) (ta tb:TE):TE:=λσ H Q=>ta σ H λx H1=>tb σ H1 λy H2=>r x y H2 Q
noncomputable def tUn (r:V→Hp→VK→Prop) (ta:TE):TE:=λσ H Q=>ta σ H λx H1=>r x H1 Q
noncomputable def rI (C:Int→Int→Prop) (g:Int→Int→V):R2:=λx y H Q=>∃i j,x= .int i∧y= .int j∧C i j∧Q (g i j) H
noncomputable def rI0 (g:Int→Int→V):R2:=λx y H Q=>∃i j,x= .int i∧y= .int j∧Q (g i j) H
def rU (g:Int→V):V→Hp→VK→Prop:=λx H Q=>∃i,x= .int i∧Q (g i) H
section
variable {X:Cx}{a b:Expr}{ta tb:TE}{pos:aA}
theorem zyC (ha:PE X a ta) (hb:PE X b tb) {pins:List (Addr×Obj)}{s:ag}{σ:St}{H:Hp}{R:V→V→Hp→Prop}(I:Inv X pins σ H s)
  (h:ta σ H λx H1=>tb σ H1 λy H2=>R x y H2) {Q:Value→ag→Prop}{f:Value→Value→bY Value}
  (hf:∀v u s2 x y H2,Inv X pins σ H2 s2→RelV x v→RelV y u→R x y H2→aj (ao X.prog X.w) X.A (f v u) Q X.xe s2) :
  aj (ao X.prog X.w) X.A (aq a X.env) (λv s₁=>aj (ao X.prog X.w) X.A (aq b X.env) (λu s₂=>aj (ao X.prog X.w) X.A (f v u) Q X.xe s₂) X.xe s₁) X.xe s:=by
 refine thn (ha pins s σ H _ I h) λv s1 ⟨x,H1,I1,r1,q1⟩=>?_;refine thn (hb pins s1 σ H1 _ I1 q1) λu s2 ⟨y,H2,I2,r2,q2⟩=>?_;exact hf v u s2 x y H2 I2 r1 r2 q2
theorem zpp{op:fv}{r:R2}(ho:OpR X (bL op) r) (ha:PE X a ta) (hb:PE X b tb):PE X (.BinOp a op b pos) (tOp r ta tb):=by
 intro pins s σ H Q I h;exact wpAny_BinOp (zyC ha hb I h λv u s2 x y H2 I2 rx ry q=>ho pins s2 σ H2 x y v u Q I2 rx ry q)
theorem zyz{op:UnaryOp}{r:V→Hp→VK→Prop}(ho:UnR X (unaryOp op) r) (ha:PE X a ta):PE X (.UnaryOp op a pos) (tUn r ta):=by
 intro pins s σ H Q I h;exact UnaryOp_ (thn (ha pins s σ H _ I h) λv s1 ⟨x,H1,I1,r1,q1⟩=>ho pins s1 σ H1 x v Q I1 r1 q1)
theorem opI{f:Value→Value→bY Value}{C:Int→Int→Prop}{g:Int→Int→Int}
  (rule:∀(i j:Int) (t u:bc) (s:ag) (Q:Value→ag→Prop) (E:Value→ag→Prop),C i j→Q (.int (g i j) s.toks) { s with toks:=s.toks+1 }→aj (ao X.prog X.w) X.A (f (.int i t) (.int j u)) Q E s) :
  OpR X f (rI C λi j=> .int (g i j)):=by
 intro pins s σ H x y v u Q I rx ry h;obtain⟨i,j,rfl,rfl,hc,q⟩:=h;obtain⟨t,rfl⟩:=rx;obtain⟨t',rfl⟩:=ry;exact rule i j t t' s _ _ hc ⟨.int (g i j),H,I.tok _,⟨_,rfl⟩,q⟩
theorem zzS{f:Value→Value→bY Value}{g:Int→Int→Int}
  (rule:∀(i j:Int) (t u:bc) (s:ag) (Q:Value→ag→Prop) (E:Value→ag→Prop),Q (.int (g i j) s.toks) { s with toks:=s.toks+1 }→aj (ao X.prog X.w) X.A (f (.int i t) (.int j u)) Q E s) :
  OpR X f (rI0 λi j=> .int (g i j)):=by
 intro pins s σ H x y v u Q I rx ry h;obtain⟨i,j,rfl,rfl,q⟩:=h;obtain⟨t,rfl⟩:=rx;obtain⟨t',rfl⟩:=ry;exact rule i j t t' s _ _ ⟨.int (g i j),H,I.tok _,⟨_,rfl⟩,q⟩
theorem zyj{f:Value→Value→bY Value}{g:Int→Int→Bool}
  (rule:∀(i j:Int) (t u:bc) (s:ag) (Q:Value→ag→Prop) (E:Value→ag→Prop),Q (.bool (g i j)) s→aj (ao X.prog X.w) X.A (f (.int i t) (.int j u)) Q E s) :
  OpR X f (rI0 λi j=> .bl (g i j)):=by
 intro pins s σ H x y v u Q I rx ry h;obtain⟨i,j,rfl,rfl,q⟩:=h;obtain⟨t,rfl⟩:=rx;obtain⟨t',rfl⟩:=ry;exact rule i j t t' s _ _ ⟨.bl (g i j),H,I,rfl,q⟩
def zmW (i j:Int):Prop:=0<j∧j<1073741824
def ztE (i j:Int):Prop:=0≤j∧j≤1000000∧i.natAbs<2 ^ 64
def CMul (i j:Int):Prop:=(-(2 ^ 64)<i∧i<2 ^ 64)∨(-(2 ^ 64)<j∧j<2 ^ 64)
theorem CMul.ok{i j:Int}(h:CMul i j):IntMulOk i j:=by
 rcases h with⟨h1,h2⟩ |⟨h1,h2⟩
 ·exact .of_left (intBits_le_64 h1 h2)
 ·exact .of_right (intBits_le_64 h1 h2)
theorem op_add:OpR X (bL .Add) (rI0 λi j=> .int (i+j)):=zzS λ_ _ _ _ _ _ _ q=>add_int q
theorem zvZ:OpR X (bL .Sub) (rI0 λi j=> .int (i - j)):=zzS λ_ _ _ _ _ _ _ q=>sub_int q
theorem zwy:OpR X (bL .Mult) (rI CMul λi j=> .int (i*j)):=opI λ_ _ _ _ _ _ _ hc q=>mul_int q hc.ok
theorem zvr:OpR X (bL .FloorDiv) (rI zmW λi j=> .int (i / j)):=opI λi j _ _ _ _ _ hc q=>by
 have h1:(0:Int)<j:=hc.1;have h2:j<1073741824:=hc.2;exact floordiv_int (by omega) (by rw[Int.fdiv_eq_ediv_of_nonneg i (by omega)];exact q) (.inl (PyProof.noPylong_small (by omega)))
theorem zwL:OpR X (bL .Mod) (rI (λ_ j=>0<j) λi j=> .int (i % j)):=opI λi j _ _ _ _ _ hc q=>by
 have h1:(0:Int)<j:=hc;exact mod_int' (by omega) (by rw[Int.fmod_eq_emod_of_nonneg i (by omega)];exact q)
theorem zwG:OpR X (bL .Pow) (rI ztE λi j=> .int (i ^ j.toNat)):=opI λ_ _ _ _ _ _ _ hc q=>pow_int_small hc.1 hc.2.1 hc.2.2 q
theorem zxx:OpR X (bL .LShift) (rI ztE λi j=> .int (i*2 ^ j.toNat)):=opI λ_ _ _ _ _ _ _ hc q=>lshift_int_small hc.1 hc.2.1 hc.2.2 q
theorem unI{f:Value→bY Value}{g:Int→Int}
  (rule:∀(i:Int) (t:bc) (s:ag) (Q:Value→ag→Prop) (E:Value→ag→Prop),Q (.int (g i) s.toks) { s with toks:=s.toks+1 }→aj (ao X.prog X.w) X.A (f (.int i t)) Q E s) :
  UnR X f (rU λi=> .int (g i)):=by
 intro pins s σ H x v Q I rx h;obtain⟨i,rfl,q⟩:=h;obtain⟨t,rfl⟩:=rx;exact rule i t s _ _ ⟨.int (g i),H,I.tok _,⟨_,rfl⟩,q⟩
theorem zyb:UnR X (unaryOp .USub) (rU λi=> .int (-i)):=unI λ_ _ _ _ _ q=>neg_int q
end
section
variable {X:Cx}{a b c:Expr}{ta tb tc:TE}{pos:aA}
theorem zjR{pins:List (Addr×Obj)}{σ:St}{H:Hp}{s:ag}{Q:VK}{k k':Bool}(I:Inv X pins σ H s) (q:Q (.bl k) H) (e:k=k'):EP X pins σ Q (.bool k') s:=by
 subst e;exact⟨.bl k,H,I,rfl,q⟩
theorem zyJ:OpR X (bf .Lt) (rI0 λi j=> .bl (decide (i<j))):=zyj λ_ _ _ _ _ _ _ q=>lt_int q
theorem op_le:OpR X (bf .LtE) (rI0 λi j=> .bl (decide (i≤j))):=zyj λ_ _ _ _ _ _ _ q=>le_int q
theorem zzh:OpR X (bf .Gt) (rI0 λi j=> .bl (decide (j<i))):=zyj λ_ _ _ _ _ _ _ q=>gt_int q
theorem zyY:OpR X (bf .GtE) (rI0 λi j=> .bl (decide (j≤i))):=zyj λ_ _ _ _ _ _ _ q=>ge_int q
theorem op_in_str:OpR X (bf .In) (λx y H Q=>∃i j,x= .str i∧y= .str j∧Q (.bl (!(cH j i 0 j.length 1).isEmpty)) H):=by
 intro pins s σ H x y v u Q I rx ry h;obtain⟨i,j,rfl,rfl,q⟩:=h;obtain⟨t,rfl⟩:=rx;obtain⟨t',rfl⟩:=ry;exact in_str (zjR I q rfl)
theorem op_isN:OpR X (bf .Is) (λx y H Q=>y= .non∧Q (.bl (decide (x= .non))) H):=by
 intro pins s σ H x y v u Q I rx ry h;obtain⟨rfl,q⟩:=h;cases ry;refine is_none_gen (zjR I q ?_);cases x<;>first
  | (cases rx;rfl)
  | (obtain⟨t,rfl⟩:=rx;rfl)
theorem op_notN:OpR X (bf .IsNot) (λx y H Q=>y= .non∧Q (.bl (!decide (x= .non))) H):=by
 intro pins s σ H x y v u Q I rx ry h;obtain⟨rfl,q⟩:=h;cases ry;refine isnot_none_gen (zjR I q ?_);cases x<;>first
  | (cases rx;rfl)
  | (obtain⟨t,rfl⟩:=rx;rfl)
theorem op_notin_str:OpR X (bf .NotIn) (λx y H Q=>∃i j,x= .str i∧y= .str j∧Q (.bl (!(!(cH j i 0 j.length 1).isEmpty))) H):=by
 intro pins s σ H x y v u Q I rx ry h;obtain⟨i,j,rfl,rfl,q⟩:=h;obtain⟨t,rfl⟩:=rx;obtain⟨t',rfl⟩:=ry;exact notIn_str (zjR I q rfl)
theorem OpR.or{f:Value→Value→bY Value}{r r':R2}(h:OpR X f r) (h':OpR X f r'):OpR X f (λx y H Q=>r x y H Q∨r' x y H Q):=by
 intro pins s σ H x y v u Q I rx ry q;rcases q with q |q
 ·exact h pins s σ H x y v u Q I rx ry q
 ·exact h' pins s σ H x y v u Q I rx ry q
theorem nomark (b:Expr) {op:cO}(h:op≠ .In:=by decide) (h2:op≠ .NotIn:=by decide):cT op b=false:=by
 have e1:(op == cO.In)=false:=by cases op<;>first |rfl |exact absurd rfl h
 have e2:(op == cO.NotIn)=false:=by cases op<;>first |rfl |exact absurd rfl h2
 cases b<;>simp [cT,e1,e2]
theorem zvd{op:cO}{r:R2}(ho:OpR X (bf op) r) (ha:PE X a ta) (hb:PE X b tb) (hm:cT op b=false):PE X (.Compare a [op] [b] pos) (tOp r ta tb):=by
 intro pins s σ H Q I h;exact wpAny_Compare1 (zyC ha hb I h λv u s2 x y H2 I2 rx ry q=>ho pins s2 σ H2 x y v u Q I2 rx ry q) hm
noncomputable def zyB (t:TE):TT:=λσ H Q=>t σ H λx H'=>∃k,x= .bl k∧Q k H'
theorem ztF{op:cO}{r:R2}(ho:OpR X (bf op) r) (ha:PE X a ta) (hb:PE X b tb) (hm:cT op b=false):PT X (.Compare a [op] [b] pos) (zyB (tOp r ta tb)):=by
 intro pins s σ H Q I h;refine wpAny_isTrue_Compare1 (thn (ha pins s σ H _ I h) λv s1 ⟨x,H1,I1,r1,q1⟩=>thn (hb pins s1 σ H1 _ I1 q1) λu s2 ⟨y,H2,I2,r2,q2⟩=>
  thn (ho pins s2 σ H2 x y v u _ I2 r1 r2 q2) λc s3 ⟨z,H3,I3,r3,k,e,q3⟩=>?_) hm
 subst e;cases r3;exact dG ⟨H3,I3,q3⟩
noncomputable def zxI (r r':R2) (ta tb tc:TE):TE:=λσ H Q=>ta σ H λx H1=>tb σ H1 λy H2=>r x y H2 λz H3=>∃k,z= .bl k∧
 (if k=true then tc σ H3 λw' H4=>r' y w' H4 Q else Q (.bl false) H3)
theorem zsh{op op':cO}{r r':R2}(ho:OpR X (bf op) r) (ho':OpR X (bf op') r') (ha:PE X a ta) (hb:PE X b tb) (hc:PE X c tc)
  (hm:hU [op,op'] [b,c]=false:=by with_unfolding_all rfl):PE X (.Compare a [op,op'] [b,c] pos) (zxI r r' ta tb tc):=by
 intro pins s σ H Q I h;refine Compare_chain (thn (ha pins s σ H _ I h) λv s1 ⟨x,H1,I1,r1,q1⟩=>chain_link (thn (hb pins s1 σ H1 _ I1 q1) λu s2 ⟨y,H2,I2,r2,q2⟩=>
  thn (ho pins s2 σ H2 x y v u _ I2 r1 r2 q2) λd s3 ⟨z,H3,I3,r3,k,e,q3⟩=>?_)) hm
 subst e;cases r3;refine dG ?_;cases k with
 |false=>exact ite_ff ⟨.bl false,H3,I3,rfl,q3⟩
 |true=>exact ite_tt (chain_last (thn (hc pins s3 σ H3 _ I3 q3) λw' s4 ⟨z',H4,I4,r4,q4⟩=>ho' pins s4 σ H4 y z' u w' Q I4 r2 r4 q4))
def zyr (K:ah) (x:V) (H:Hp) (k:Bool):Prop:=
 match x with
 | .non=>k=false
 | .bl b=>k=b
 | .int i=>k=(i != 0)
 | .str y=>y.length≤sizeLine∧k=((y.length:Int) != 0)
 | .byt y=>y.size≤sizeLine∧k=((y.size:Int) != 0)
 | .ref p=>(∃xs,SqL K H p xs∧k= !xs.isEmpty)∨(∃xs,SqT K H p xs∧k= !xs.isEmpty)∨ ∃kvs,H p=ae (.dK kvs)∧k= !kvs.isEmpty
 |_=>False
theorem zmT{κ:Type}{kvs:List (κ×V)}{vs:List (κ×Value)}(r:KV kvs vs):(!vs.isEmpty)= !kvs.isEmpty:=by
 cases r<;>rfl
theorem zgI{xs:List V}{its:List Value}(r:Vals xs its):(!its.toArray.isEmpty)= !xs.isEmpty:=by
 cases r<;>simp
theorem zgU:(sizeLine:Nat)<2 ^ 63:=by rw[dE];decide
theorem zvF:zAg X (λx H Q=>∃k,zyr X.K x H k∧Q k H):=by
 intro pins s σ H x v Q I rx h;obtain⟨k,e,q⟩:=h;have hl:=zgU;have hs:sizeLine=16777216:=dE;cases x with
 |non=>
  cases rx;have e':k=false:=e;subst e';exact truthy_none ⟨H,I,q⟩
 |bl b=>
  cases rx;have e':k=b:=e;subst e';exact dG ⟨H,I,q⟩
 |int i=>
  obtain⟨t,rfl⟩:=rx;have e':k=(i != 0):=e;subst e';exact PySem.P.truthy_int ⟨H,I,q⟩
 |str y=>
  obtain⟨t,rfl⟩:=rx;obtain⟨hy,e'⟩:y.length≤sizeLine∧k=((y.length:Int) != 0):=e;subst e';exact PySem.P.truthy_str (by omega) ⟨H,I.tok _,q⟩
 |byt y=>
  obtain⟨t,rfl⟩:=rx;obtain⟨hy,e'⟩:y.size≤sizeLine∧k=((y.size:Int) != 0):=e;subst e';exact PySem.W.truthy_bytes (by omega) ⟨H,I.tok _,q⟩
 |ref p=>
  cases rx;have e':(∃xs,SqL X.K H p xs∧k= !xs.isEmpty)∨(∃xs,SqT X.K H p xs∧k= !xs.isEmpty)∨ ∃kvs,H p=ae (.dK kvs)∧k= !kvs.isEmpty:=e;rcases e' with⟨xs,hx,e'⟩ |⟨xs,hx,e'⟩ |⟨kvs,hx,e'⟩
  ·subst e';obtain⟨its,r,pl,hz⟩:=I.list hx;have hlen:=r.length;exact wpAny_truthy_list pl.isList (by simp only[aQ];omega) ⟨H,I.tok _,by rw[zgI r];exact q⟩
  ·subst e';obtain⟨its,r,pl,hz⟩:=I.tuple hx;have hlen:=r.length;exact truthy_tuple pl (by simp only[aQ];omega) ⟨H,I.tok _,by rw[zgI r];exact q⟩
  ·subst e';obtain⟨hz,hS,vs,r,m⟩:kvs.length≤sizeLine∧(p == d7)=false∧ ∃vs,KV kvs vs∧s.heap.DictOf (zbv X.prog X.w) p vs:=I.hok p _ hx;have hlen:kvs.length=vs.length:=eK r;exact wpAny_truthy_dict hS m (by omega) ⟨H,I.tok _,by rw[zmT r];exact q⟩
 |_=>exact(show False from e).elim
theorem zra (ha:PE X a ta) (he:∀whole,isTrue a X.env whole=(do let v ←whole;standAt a.pos;holding [v] (truthy v))) :
  PT X a (λσ H Q=>ta σ H λx H'=>∃k,zyr X.K x H' k∧Q k H'):=by
 intro pins s σ H Q I h;exact isTrue_plain (thn (ha pins s σ H _ I h) λv s1 ⟨x,H1,I1,r1,q1⟩=>zvF pins s1 σ H1 x v Q I1 r1 q1) (he _)
theorem op_add_str:OpR X (bL .Add) (λx y H Q=>∃i j,x= .str i∧y= .str j∧i.length+j.length≤sizeLine∧Q (.str (i++j)) H):=by
 intro pins s σ H x y v u Q I rx ry h;obtain⟨i,j,rfl,rfl,hz,q⟩:=h;obtain⟨t,rfl⟩:=rx;obtain⟨t',rfl⟩:=ry;exact add_str (λt' tk=>⟨.str (i++j),H,I.tok _,⟨_,rfl⟩,q⟩) hz
theorem zfN{x:V}{us:List Value}(r:Vals [x] us):∃u,us=[u]∧RelV x u:=by
 cases r with
 |cons r1 r2=>cases r2;exact⟨_,rfl,r1⟩
theorem zuQ{x y:V}{us:List Value}(r:Vals [x,y] us):∃u w',us=[u,w']∧RelV x u∧RelV y w':=by
 cases r with
 |cons r1 r2=>
  cases r2 with
  |cons r3 r4=>cases r4;exact⟨_,_,rfl,r1,r3⟩
theorem zpl (hc:X.calm=true):CallR X (.builtin "max") (λxs H Q=>∃i j,xs=[.int i, .int j]∧Q (.int (if j > i then j else i)) H):=by
 intro pins s σ H xs us Q I r h;obtain⟨i,j,rfl,q⟩:=h;obtain⟨u,w',rfl,⟨t,rfl⟩,⟨t',rfl⟩⟩:=zuQ r;refine max_two_ints (I.ok.hd hc) λh' tk k=>⟨_,H,I.kept k,?_,q⟩;by_cases hj:j > i
 ·rw[if_pos hj,if_pos hj];exact⟨_,rfl⟩
 ·rw[if_neg hj,if_neg hj];exact⟨_,rfl⟩
theorem zpx (hc:X.calm=true):CallR X (.builtin "min") (λxs H Q=>∃i j,xs=[.int i, .int j]∧Q (.int (if j<i then j else i)) H):=by
 intro pins s σ H xs us Q I r h;obtain⟨i,j,rfl,q⟩:=h;obtain⟨u,w',rfl,⟨t,rfl⟩,⟨t',rfl⟩⟩:=zuQ r;refine min_two_ints (I.ok.hd hc) λh' tk k=>⟨_,H,I.kept k,?_,q⟩;by_cases hj:j<i
 ·rw[if_pos hj,if_pos hj];exact⟨_,rfl⟩
 ·rw[if_neg hj,if_neg hj];exact⟨_,rfl⟩
theorem zoR:CallR X (.type "int") (λxs H Q=>(∃i,xs=[.int i]∧Q (.int i) H)∨ ∃k,xs=[.bl k]∧Q (.int (if k then 1 else 0)) H):=by
 intro pins s σ H xs us Q I r h;rcases h with⟨i,rfl,q⟩ |⟨k,rfl,q⟩
 ·obtain⟨u,rfl,t,rfl⟩:=zfN r;exact call_int_int ⟨.int i,H,I,⟨_,rfl⟩,q⟩
 ·obtain⟨u,rfl,r1⟩:=zfN r;cases r1;exact call_int_bool ⟨.int (if k then 1 else 0),H,I.tok _,⟨_,rfl⟩,q⟩
end
structure ObjM (h:Heap) (x dx C:Addr) (mA:Str→Option Value):Prop where
  obj:h.get? x=ae (ia C dx)
  ns:h.Ns1 dx mA
  ne:dx≠x
theorem zok{h:Heap}{dx:Addr}{mA:Str→Option Value}(n:h.Ns1 dx mA):∃od,h.get? dx=ae od∧ ∀name,h8 name od=ae (mA name):=by
 obtain⟨o,es,ep,ho,hd,hk,_,hm⟩:=n;refine⟨o,ho,λname=>?_⟩;have e:=hm name;unfold nsFind findBy at e;rw[←Array.find?_toList]at e;unfold h8;rw[hd];dsimp only;split
 ·rename_i y q;rw[q]at e;exact congrArg ae e
 ·rename_i q;rw[q]at e;have a:es.toList.any (·.refKey)=false:=by
   rw[List.any_eq_false];intro y hy;obtain⟨z,t,hkey⟩:=hk y (Array.mem_toList_iff.mp hy);simp [DictEntry.refKey,hkey]
  have a':¬es.toList.any (·.refKey)=true:=by rw[a];exact cR
  rw[if_neg a'];exact congrArg ae e
theorem ObjM.look{h:Heap}{x dx C:Addr}{mA:Str→Option Value}(I:ObjM h x dx C mA):∃od,PySem.W.InstAt h x (ia C dx) C (ae od)∧ ∀name,h8 name od=ae (mA name):=
 let ⟨od,ho,hl⟩:=zok I.ns
 ⟨od,⟨I.obj,rfl,rfl,ho⟩,hl⟩
section
variable {P:aE}{w:az}{H:Hp}{h:Heap}{a C dx:Addr}{fs:List (Str×V)}
theorem ztS (hok:HOk P w H h) (e:H a=ae (.ins C dx fs)):∃mA,ObjM h a dx C mA∧(∀f,RelO (fs.lookup f) (mA f))∧PySem.Within mA (fs.map (·.1))∧fs.length≤1000∧H dx=ae (.own a):=by
 obtain⟨d,z,ne,ob,mA,n,r,q⟩:=(show ObjOk P w H h a (.ins C dx fs) from hok a _ e);exact⟨mA,⟨ob,n,ne⟩,r,q,z,d⟩
end
structure Cls (K:ah) (C:Addr):Prop where
  pg:ke K C gR=true
  hd:PySem.W.hasDictIn K C=true
  po:PySem.W.plainOver K C=true
  sa:bP K (.ref C) "__setattr__" =ae (ae (.builtin "object.__setattr__"))
theorem Cls.get{K:ah}{C:Addr}(c:Cls K C) (f:Str):ke K C f=true:=c.pg
section
variable {X:Cx}{pins:List (Addr×Obj)}{σ:St}{H:Hp}{s:ag}{A:aP}{E:Value→ag→Prop}{Q:Value→ag→Prop}{c:Value}{b:Bool}
inductive TyOf (K:ah) (H:Hp):V→Value→Prop where
  |non:TyOf K H .non (.type "NoneType")
  |bl (x:Bool):TyOf K H (.bl x) (.type "bool")
  |int (i:Int):TyOf K H (.int i) (.type "int")
  |str (x:Str):TyOf K H (.str x) (.type "str")
  |flt (x:UInt64):TyOf K H (.flt x) (.type "float")
  |lst {a:Addr}{xs:List V}(e:H a=ae (.lst xs)):TyOf K H (.ref a) (.type "list")
  |frz {a:Addr}{o:Obj}{xs:List V}(e:H a=ae (.frz o (.lst xs))):TyOf K H (.ref a) (.type "list")
  |tup {a:Addr}{xs:List V}(e:H a=ae (.tup xs)):TyOf K H (.ref a) (.type "tuple")
  |dK {a:Addr}{kvs:List (Key×V)}(e:H a=ae (.dK kvs)):TyOf K H (.ref a) (.type "dict")
  |dT {a:Addr}{kvs:List (List Key×V)}(e:H a=ae (.dT kvs)):TyOf K H (.ref a) (.type "dict")
  |ins {a C dx:Addr}{fs:List (Str×V)}(e:H a=ae (.ins C dx fs)) (cl:Cls K C) (ha:bP K (.ref C) "__class__" =ae (ae (.builtin "object.__class__")))
      (hn:PySem.W.specialIn K (.builtin "object.__class__") "__get__" =ae (ae (.builtin "getset_descriptor.__get__"))) (htk:PySem.W.takesIn K (.builtin "object.__class__")=ae true)
      (hm:cP K C (.type "object")=ae true):TyOf K H (.ref a) (.ref C)
theorem zpc{x:V}{u t:Value}(I:Inv X pins σ H s) (rx:RelV x u) (ty:TyOf X.K H x t) (e:eO X.K t c=ae b) (h:∀tk,Q (.bool b) { s with toks:=tk }) :
  aj (ao X.prog X.w) A (call (.builtin "isinstance") [u,c]) Q E s:=by
 cases ty with
 |non=>cases(show u=cm from rx);exact cq PySem.W.kitx_none I.kIn dn e (λz=>nomatch z) h
 |bl y=>cases(show u=dW y from rx);exact cq PySem.W.kitx_bool I.kIn dn e (λz=>nomatch z) h
 |int i=>obtain⟨t,q⟩:=(show ∃t,u=fL i t from rx);cases q;exact cq PySem.W.kitx_int I.kIn dn e (λz=>nomatch z) h
 |str y=>obtain⟨t,q⟩:=(show ∃t,u=fg y t from rx);cases q;exact cq PySem.W.kitx_str I.kIn dn e (λz=>nomatch z) h
 |flt y=>obtain⟨t,q⟩:=(show ∃t,u=Value.float y t from rx);cases q;exact cq PySem.W.kitx_float I.kIn dn e (λz=>nomatch z) h
 | @lst a xs ea=>
  cases(show u=bz a from rx);obtain⟨_,_,n,_,h1⟩:=(show ObjOk X.prog X.w H s.heap a (.lst xs) from I.hok a _ ea);exact cq iX I.kIn ⟨_,h1,rfl⟩ e (λz=>nomatch z) h
 | @frz a ob xs ea=>
  cases(show u=bz a from rx);obtain⟨_,_,_,n,_,h1⟩:=(show ObjOk X.prog X.w H s.heap a (.frz ob (.lst xs)) from I.hok a _ ea);exact cq iX I.kIn ⟨_,h1,rfl⟩ e (λz=>nomatch z) h
 | @tup a xs ea=>
  cases(show u=bz a from rx);obtain⟨_,_,_,p⟩:=(show ObjOk X.prog X.w H s.heap a (.tup xs) from I.hok a _ ea);obtain⟨o,h1,h2,_⟩:=p;exact cq PySem.W.kitx_tuple I.kIn ⟨o,h1,h2⟩ e (λz=>nomatch z) h
 | @dK a kvs ea=>
  cases(show u=bz a from rx);obtain⟨_,_,vs,_,p⟩:=(show ObjOk X.prog X.w H s.heap a (.dK kvs) from I.hok a _ ea);obtain⟨o,es,ep,h1,h2,_⟩:=p;exact cq iy I.kIn ⟨o,h1,h2.1⟩ e (λz=>nomatch z) h
 | @dT a kvs ea=>
  cases(show u=bz a from rx);obtain⟨_,_,xs,_,o,es,ep,h1,h2,_⟩:=(show ObjOk X.prog X.w H s.heap a (.dT kvs) from I.hok a _ ea);exact cq iy I.kIn ⟨o,h1,h2.1⟩ e (λz=>nomatch z) h
 | @ins a C dx fs ea cl ha hn htk hm=>
  cases(show u=bz a from rx);obtain⟨mA,O,_⟩:=ztS I.hok ea;obtain⟨od,J,_⟩:=O.look;exact cq (PySem.W.kitx_own (cl.get _) cl.hd ha hn htk hm) I.kIn J e (λz=>nomatch z) h
end
structure Room (k:Nat) (A:aP):Prop where
  hd:A.handled=none
  dp:A.depth+3*k+5<recursionLimit
  un:A.units+16*k+200<cLine
theorem Room.deeper{k:Nat}{A:aP}(r:Room (k+1) A) (env:bB):Room k (A.deeper env):=
 ⟨r.hd,by have:=r.dp;show A.depth+1+3*k+5<_;omega,by have:=r.un;show A.units+3+16*k+200<_;omega⟩
theorem Room.depth{k:Nat}{A:aP}(r:Room k A):A.depth<recursionLimit:=by have:=r.dp;omega
theorem Room.units{k:Nat}{A:aP}(r:Room k A):A.units+64<cLine:=by have:=r.un;omega
noncomputable def zAP:TA:=λ_ H Q=>Q [] H
noncomputable def zzF (ta:TE) (tr:TA):TA:=λσ H Q=>ta σ H λx H1=>tr σ H1 λxs H2=>Q (x::xs) H2
section
variable {X:Cx}{e:Expr}{es:List Expr}{te:TE}{t:TA}{pos:aA}
theorem pa_nil:PA X [] zAP:=λ_ _ _ _ H Q I h=>Calls.spliced_nil ⟨[],H,I, .nil,h⟩
theorem zdt (ha:PE X e te) (hr:PA X es t) (hs:am (e::es) X.env=(false,aq e X.env)::am es X.env:=by rfl):PA X (e::es) (zzF te t):=by
 intro pos pins s σ H Q I h;rw[hs];show aj _ _ (spliced ((false,aq e X.env)::aO pos (am es X.env))) _ _ s;refine Calls.spliced_cons (thn (ha pins s σ H _ I h) λu s1 ⟨x,H1,I1,r1,q1⟩=>?_);exact thn (hr pos pins s1 σ H1 _ I1 q1) λus s2 ⟨xs,H2,I2,r2,q2⟩=>⟨x::xs,H2,I2, .cons r1 r2,q2⟩
noncomputable def zzY (t:TA):TE:=λσ H Q=>t σ H λxs H1=>xs.length≤sizeLine∧ ∀p,H1 p=none→Q (.ref p) (upd H1 p (.tup xs))
noncomputable def zAO (t:TA):TE:=λσ H Q=>t σ H λxs H1=>xs.length≤sizeLine∧ ∀p,H1 p=none→Q (.ref p) (upd H1 p (.lst xs))
theorem zvQ{x1}(h:PA X es t):PE X (.Tuple es x1 pos) (zzY t):=by
 intro pins s σ H Q I hq;refine wpAny_Tuple_spliced (thn (h pos pins s σ H _ I hq) λus s1 ⟨xs,H1,I1,r,z,q⟩=>⟨by rw[←r.length];exact z,?_⟩);have hf:H1 s1.heap.objs.size=none:=I1.hok.fresh (au _);refine⟨.ref s1.heap.objs.size,upd H1 s1.heap.objs.size (.tup xs),I1.laid (t':=s1.toks) (λb u e=>aH _ e) (au _) ?_,rfl,q _ hf⟩;exact⟨z,us,r,⟨_,bh _ rfl,rfl,_,rfl⟩⟩
theorem zwo (h:PA X es t):PE X (.List es pos) (zAO t):=by
 intro pins s σ H Q I hq;refine wpAny_List_spliced (thn (h pos pins s σ H _ I hq) λus s1 ⟨xs,H1,I1,r,z,q⟩=>⟨by rw[←r.length];exact z,?_⟩);have hf:H1 s1.heap.objs.size=none:=I1.hok.fresh (au _);refine⟨.ref s1.heap.objs.size,upd H1 s1.heap.objs.size (.lst xs),I1.laid (t':=s1.toks) (λb u e=>aH _ e) (au _) ?_,rfl,q _ hf⟩;exact⟨z,us,0,r,bh _ rfl⟩
end
abbrev Sp:=List V→Hp→VK→XK→Prop
abbrev CXT:=List bB→Hp→ag→XK→Value→ag→Prop
structure Env0 (P:aE) (w:az) (K:ah) (mg:Str→Option Value) (base:Heap) (A:aP) (outer:List bB) (s:ag) (H:Hp):Prop where
  frames:A.frames=ae outer
  mod:Mod K mg base
  bs:∀b o,base.get? b=ae o→s.heap.get? b=ae o∧H b=none
  bsz:base.objs.size≤s.heap.objs.size
  funs:s.heap.FunFrames base outer
  frf:∀b∈frs outer,H b=none
  hok:HOk P w H s.heap
  bare:b_ s.gens
def CE (outer:List bB) (P:aE) (w:az) (H:Hp) (s:ag) (Q:VK) (u:Value) (s':ag):Prop:=
 ∃v H',s'.os=s.os∧b_ s'.gens∧Un (frs outer) [] H H' s.heap s'.heap∧HOk P w H' s'.heap∧RelV v u∧Q v H'
def CR (CX:CXT) (outer:List bB) (P:aE) (w:az) (H:Hp) (s:ag) (Q:VK) (E:XK) (r:Result) (s':ag):Prop:=
 match r with
 | .ok (.ret u)=>CE outer P w H s Q u s'
 | .ok _=>False
 | .error e=>CX outer H s E e s'
structure FnOk (P:aE) (w:az) (K:ah) (mg:Str→Option Value) (base:Heap) (CX:CXT) (k:Nat) (f:Addr) (fd:bH) (ps:List Str) (sp:Sp):Prop where
  len:∀vs H Q E,sp vs H Q E→vs.length=ps.length
  run:∀(A:aP) (outer:List bB) (s:ag) (H:Hp) (args:Args) (us:List Value) (vs:List V) (Q:VK) (E:XK),Room k A→Env0 P w K mg base A outer s H→d_ s fd args (ps.zip us)→Vals vs us→sp vs H Q E→
    dC (ao P w) A (.call (.ref f) args) (CR CX outer P w H s Q E) s
section
variable {X:Cx}{pins:List (Addr×Obj)}{σ:St}{H:Hp}{s:ag}
theorem Inv.env0 (I:Inv X pins σ H s):Env0 X.prog X.w X.K X.mg X.base X.A X.stack s H:=
 ⟨I.ok.frames,I.ok.mod,I.bs,bC I.ok.bsz I.sz,I.stack,I.stkFree,I.hok,I.bare⟩
end
def Binds (K:ah) (fd:bH) (ps:List Str) (ds:List Value):Prop:=
 ∀(s:ag) (us:List Value),K.In s.heap→(us++ds).length=ps.length→d_ s fd ⟨us,[]⟩ (ps.zip (us++ds))
theorem Binds.all{K:ah}{fd:bH}{ps:List Str}(h:∀us:List Value,us.length=ps.length→bindArgs fd ⟨us,[]⟩=pure (ps.zip us)):Binds K fd ps []:=λs us _ hl=>by
 rw[bv]at hl⊢;exact .of_eq (h us hl)
structure FnScope (N P:List Str) (sc:Scope):Prop where
  kind:sc.kind= .function
  co:sc.isCoroutine=false
  gen:sc.isGenerator=false
  nd:N.Nodup
  pre:N.take P.length=P
  par:∀x∈P,sc.names.lookup x=ae .local∨sc.names.lookup x=ae .cell
  nofree:∀y∈sc.names,y.2≠ .free
theorem ziy{kindOf:Str→Option bQ}{x:Str}:∀{binds:List (Str×Value)}{m:Str→Option Value},(∀v,(x,v)∉binds)→c_ kindOf binds m x=m x
 | [],_,_=>rfl
 | (n,v)::r,m,h=>by
  unfold c_;rw[ziy λw hw=>h w (aC _ hw)];split
  ·have:x≠n:=by rintro rfl;exact h v aK
   simp [this]
  ·rfl
theorem zjh{kindOf:Str→Option bQ}{x:Str}:∀{binds:List (Str×Value)}{m:Str→Option Value},(∀v,(x,v)∉binds)→cV kindOf binds m x=m x
 | [],_,_=>rfl
 | (n,v)::r,m,h=>by
  unfold cV;rw[zjh λw hw=>h w (aC _ hw)];split
  ·rfl
  ·have:x≠n:=by rintro rfl;exact h v aK
   simp [this]
theorem ziu{kindOf:Str→Option bQ}{x:Str}{v:Value}:∀{P:List Str}{vs:List Value}{i:Nat}{m:Str→Option Value},P.Nodup→P[i]? =ae x→vs[i]? =ae v→kindOf x=ae .local→
  c_ kindOf (P.zip vs) m x=ae v
 | [],_,_,_,_,h,_,_=>by simp at h
 |_::_,[],_,_,_,_,h,_=>by simp at h
 |p::P,w::vs,0,m,nd,h1,h2,hk=>by
  simp at h1 h2;subst h1;subst h2;show c_ kindOf ((p,w)::P.zip vs) m p=_;unfold c_;rw[ziy λv hv=>(dP.mp nd).1 (gY hv).1,if_pos hk];simp
 |p::P,w::vs,i+1,m,nd,h1,h2,hk=>by
  show c_ kindOf ((p,w)::P.zip vs) m x=_;unfold c_;exact ziu (i:=i) (dP.mp nd).2 (by simpa using h1) (by simpa using h2) hk
theorem zjl{kindOf:Str→Option bQ}{x:Str}{v:Value}:∀{P:List Str}{vs:List Value}{i:Nat}{m:Str→Option Value},P.Nodup→P[i]? =ae x→vs[i]? =ae v→kindOf x≠ae .local→
  cV kindOf (P.zip vs) m x=ae v
 | [],_,_,_,_,h,_,_=>by simp at h
 |_::_,[],_,_,_,_,h,_=>by simp at h
 |p::P,w::vs,0,m,nd,h1,h2,hk=>by
  simp at h1 h2;subst h1;subst h2;show cV kindOf ((p,w)::P.zip vs) m p=_;unfold cV;rw[zjh λv hv=>(dP.mp nd).1 (gY hv).1,if_neg hk];simp
 |p::P,w::vs,i+1,m,nd,h1,h2,hk=>by
  show cV kindOf ((p,w)::P.zip vs) m x=_;unfold cV;exact zjl (i:=i) (dP.mp nd).2 (by simpa using h1) (by simpa using h2) hk
noncomputable def start (N:List Str) (vs:List V):St:=vs.map ae++aR (N.length - vs.length) none
noncomputable def zuX (CX:CXT) (P:aE) (w:az) (K:ah) (mg:Str→Option Value) (base:Heap) (N:List Str) (qual:Str) (scope:Scope) (f:Addr) (cd:Value) (A:aP) (outer:List bB) (s:ag) (H:Hp) (E:XK):Cx where
  prog:=P
  w:=w
  K:=K
  mg:=mg
  base:=base
  A:=A.deeper (cf qual scope s.heap.objs.size f cd)
  N:=N
  s₀:=s
  H₀:=H
  env:=cf qual scope s.heap.objs.size f cd
  outer:=outer
  stack:=cf qual scope s.heap.objs.size f cd::outer
  ex:=[]
  calm:=true
  fn:=λ_=>true
  pn:=[]
  xe:=λe s'=>aj (ao P w) (A.deeper (cf qual scope s.heap.objs.size f cd)) (leaving (cf qual scope s.heap.objs.size f cd) e) (λ_ s''=>CX outer H s E e s'') (λe' s''=>CX outer H s E e' s'') s'
theorem zmF{sc:Scope}{n:Nat}{x:Str}(h:sc.names.lookup x=ae .cell):∃c,(ik n sc.names []).lookup x=ae c:=by
 have q:=je sc.names n [] (.inl h);exact eM.mp q
theorem zoE{CX:CXT}{P:aE}{w:az}{K:ah}{mg:Str→Option Value}{base:Heap}{N ps:List Str}{qual:Str}{scope:Scope}{f:Addr}{cd:Value}{A:aP}{outer:List bB}{s s1:ag}{H:Hp}{E:XK}{us:List Value}{vs:List V}
  (S:FnScope N ps scope) (hd:A.handled=none) (e0:Env0 P w K mg base A outer s H) (hl:vs.length=ps.length) (r:Vals vs us)
  (x:InCallC s s.heap.objs.size (c_ (cf qual scope s.heap.objs.size f cd).kindOf (ps.zip us) λ_=>none) (ik (s.heap.objs.size+1) scope.names []) (cV (cf qual scope s.heap.objs.size f cd).kindOf (ps.zip us) λ_=>none) s1) :
  Inv (zuX CX P w K mg base N qual scope f cd A outer s H E) [] (start N vs) H s1:=by
 have hpl:ps.length≤N.length:=by have:=congrArg eE S.pre;rw[cQ]at this;omega
 obtain⟨h1,tk,rfl,hk⟩:=x.done;have noA:∀b:Addr,b∉(zuX CX P w K mg base N qual scope f cd A outer s H E).ex:=λb z=>absurd (show b∈([]:List Addr) from z) (by simp);refine⟨⟨e0.mod,S.kind,rfl,rfl,au _,λy z c h1 h2=>?_,λy hy=>?_,λy c _ h=>?_,λ_=>hd,aP.frames_deeper e0.frames, .inr ⟨rfl,rfl⟩,λb z=>absurd z (noA b),e0.bs,e0.bsz,λb _ _=>noA b,λb z=>absurd z (noA b),e0.funs,e0.frf⟩,
  rfl,e0.bare,Un.kept hk,⟨_,x.toInCall.ns,λi y v h1 h2 h3=>?_⟩,λy c h=>⟨_,x.cell y c h⟩,e0.hok.fresh (au _),λy c h=>?_,λp hp=>absurd (show p∈([]:List (Addr×Obj)) from hp) (by simp),e0.hok.kept hk,?_⟩
 ·exact name_of_addr x.apart (dM h1) (dM h2)
 ·have hy:scope.names.lookup y=ae .cell∨scope.names.lookup y=ae .free:=hy;rcases hy with hy |hy
  ·exact zmF hy
  ·exact absurd rfl (S.nofree _ (dM hy))
 ·exact h9 (x.above y c (dM h))
 ·have hi:i<vs.length:=by
   unfold start at h2;by_cases hi:i<vs.length
   ·exact hi
   ·rw[dy (by simpa using hi)]at h2;rw[jb]at h2;split at h2<;>cases h2
  have ha:vs[i]? =ae v:=by
   unfold start at h2;rw[gp (by simpa using hi),bo]at h2;cases e:vs[i]? with
   |none=>rw[e]at h2;cases h2
   |some a=>rw[e]at h2;cases h2;rfl
  obtain⟨u,hu,rv⟩:=r.get ha;have hp:ps[i]? =ae y:=by
   rw[←S.pre,List.getElem?_take_of_lt (by omega)];exact h1
  have ndP:ps.Nodup:=by rw[←S.pre];exact S.nd.sublist (iE _ _)
  refine⟨u,rv,?_⟩;rcases S.par y (bp hp) with k |k
  ·exact .inl ⟨k,ziu ndP hp hu k⟩
  ·obtain⟨c,e⟩:=zmF (n:=s.heap.objs.size+1) k;refine .inr ⟨.inl k,c,e,?_⟩;have q:=x.cell y c e;rw[zjl ndP hp hu (by show scope.names.lookup y≠_;rw[k];decide)]at q;exact q
 ·exact e0.hok.fresh (h9 (x.above y c (dM h)))
 ·unfold start;show _=N.length;rw[aZ,ap,gT];omega
theorem zyO{CX:CXT}{P:aE}{w:az}{K:ah}{mg:Str→Option Value}{base:Heap}{k:Nat}{f:Addr}{name qual:Str}{params:Arguments}{body:List Stmt}{scope:Scope}{dV kV doc pm cdv ct oc:Value}{an od:Option Addr}
  {osl:Array (Option Value)}{N ps:List Str}{sp:Sp}(lk:K.lookup f=ae ⟨oc,od, .func (dt name qual params body scope dV kV doc pm an cdv ct),osl⟩) (hcd:gd K cdv qual=true) (S:FnScope N ps scope)
  (len:∀vs H Q E,sp vs H Q E→vs.length=ps.length)
  (hbody:∀(A:aP) (outer:List bB) (s:ag) (H:Hp) (vs:List V) (Q:VK) (E:XK),Room k (A.deeper (cf qual scope s.heap.objs.size f cdv))→sp vs H Q E→
   ∃t,PSs (zuX CX P w K mg base N qual scope f cdv A outer s H E) body t∧t { nx:=λ_ H'=>Q .non H',rt:=Q } (start N vs) H) :
  FnOk P w K mg base CX (k+1) f (dt name qual params body scope dV kV doc pm an cdv ct) ps sp:=by
 refine⟨len,λA outer s H args us vs Q E hr e0 hb r hsp=>?_⟩;have hl:=len _ _ _ _ hsp;have KX:K.In s.heap:=e0.mod.kin.keeps λb o e=>(e0.bs b o e).1;have lim:s.heap.NoLimit:=e0.mod.nolimit.keeps λb o e=>(e0.bs b o e).1;have hkind:∀y∈ps.zip us,scope.names.lookup y.1=ae .local∨(scope.names.lookup y.1=ae .cell∧((ik (s.heap.objs.size+1) scope.names []).lookup y.1).isSome=true):=λ⟨n,v⟩ hy=>by
  rcases S.par n (gY hy).1 with q |q
  ·exact .inl q
  ·exact .inr ⟨q,je _ _ _ (.inl q)⟩
 refine codeAny_call_function hr.depth (KX _ _ lk) rfl S.co S.gen rfl (PySem.W.codeRec_of KX hcd) (hb _ _ _ _ ?_);refine wpAny_newFunctionEnv_cells S.kind hkind λenv he s1 x=>?_;subst he;refine⟨lim.keeps x.toInCall.keep,codeAny_func ?_⟩;obtain⟨t,ht,hq⟩:=hbody A outer s H vs Q E (hr.deeper _) hsp;have I:Inv (zuX CX P w K mg base N qual scope f cdv A outer s H E) [] (start N vs) H s1:=zoE S hr.hd e0 hl r x;refine ck (ht [] s1 (start N vs) H _ I hq) (λfl s' hs=>?_) λe s' hs=>hs;have fin:∀{σ':St}{H':Hp}{v:V}{u:Value},Inv (zuX CX P w K mg base N qual scope f cdv A outer s H E) [] σ' H' s'→RelV v u→Q v H'→CE outer P w H s Q u s':=
  λ{σ' H' v u} J rv q=>⟨v,H',J.os,J.bare,J.base,J.hok,rv,q⟩
 cases fl with
 |ret u=>
  obtain⟨v,σ',H',J,rv,q⟩:=hs;exact fin J rv q
 |next=>
  obtain⟨σ',H',J,q⟩:=hs;exact fin (v:=V.non) (u:=cm) J rfl q
 |brk=>
  obtain⟨_,_,_,q⟩:=hs;exact cA q
 |cont=>
  obtain⟨_,_,_,q⟩:=hs;exact cA q
section
variable {X:Cx}{x:Str}{p pos:aA}{e:Expr}{es:List Expr}{t:TA}{id T:String}{r:List V→Hp→VK→Prop}
noncomputable def tCB (r:List V→Hp→VK→Prop) (t:TA):TE:=λσ H Q=>t σ H λvs H1=>r vs H1 Q
theorem zif (hc:CallR X (.builtin id) r) (hg:Gl X x) (hm:X.mg x=none) (hv:bS x=ae (.builtin id)) (ha:PA X (e::es) t) (hn:x≠ "__name__" :=by decide) (hdb:(x == ("__debug__" :Str))=false:=by decide)
  (he:am (e::es) X.env=(false,aq e X.env)::am es X.env:=by rfl) (hpl:(aO pos (am es X.env)).any (·.1)=false:=by rfl):PE X (.Call (.Name x p) (e::es) [] pos) (tCB r t):=by
 intro pins s σ H Q I h;refine gm (zhc I hg hm hv ?_ hn hdb);exact PyProof.Rows.callWith_builtin1 (thn (ha pos pins s σ H _ I h) λus s1 ⟨vs,H1,I1,r1,q1⟩=>hc pins s1 σ H1 vs us Q I1 r1 q1) he hpl
theorem zjU (hc:CallR X (.type T) r) (hg:Gl X x) (hm:X.mg x=none) (hv:bS x=ae (.type T)) (ha:PA X (e::es) t) (hn:x≠ "__name__" :=by decide) (hdb:(x == ("__debug__" :Str))=false:=by decide)
  (he:am (e::es) X.env=(false,aq e X.env)::am es X.env:=by rfl) (hpl:(aO pos (am es X.env)).any (·.1)=false:=by rfl):PE X (.Call (.Name x p) (e::es) [] pos) (tCB r t):=by
 intro pins s σ H Q I h;refine gm (zhc I hg hm hv ?_ hn hdb);exact fB (thn (ha pos pins s σ H _ I h) λus s1 ⟨vs,H1,I1,r1,q1⟩=>hc pins s1 σ H1 vs us Q I1 r1 q1) he hpl
end
end L2
namespace HT
open PySem PyProof.Rows
section
variable {prog:aE}{w:az}{A:aP}{E:Value→ag→Prop}{s:ag}
theorem cat_tup{t b:Addr}{vs ws:List Value}{Q:Value→ag→Prop}(ht:dR s.heap t vs.toArray) (hb:dR s.heap b ws.toArray) (hv:vs≠ [])
  (h1:ws=[]→Q (.ref t) s) (h2:ws≠ []→Q (.ref s.heap.objs.size) { s with heap:=s.heap.push { cls:= .type "tuple",data:= .seq (vs++ws).toArray } })
  (hsz:vs.length+ws.length≤sizeLine):aj (ao prog w) A (bL .Add (.ref t) (.ref b)) Q E s:=by
 obtain⟨⟨cls,dd,data,sl⟩,ho,hc,n,hd⟩:=id ht;obtain⟨⟨cls2,dd2,data2,sl2⟩,ho2,hc2,n2,hd2⟩:=id hb;simp only at hc hd hc2 hd2;subst hc hd hc2 hd2;have e:vs.toArray++ws.toArray=(vs++ws).toArray:=by simp
 by_cases hw:ws=[]
 ·exact gO ⟨_,ho,rfl⟩ ⟨_,ho2,rfl⟩ gL gr gJ im (gk _ _)
   (tuple_addW1 t b vs.toArray ws.toArray n n2 dd dd2 sl sl2 (by simpa using hv) (by simp [hw])) ⟨ho,ho2,h1 hw⟩
 ·refine gO ⟨_,ho,rfl⟩ ⟨_,ho2,rfl⟩ gL gr gJ im (gk _ _)
   (tuple_addW2 t b vs.toArray ws.toArray n n2 dd dd2 sl sl2 (by simpa using hv) (by simpa using hw) (by rw[aQ,aQ];exact hsz)) ⟨ho,ho2,?_⟩
  rw[e];exact h2 hw
noncomputable def sIx (n d:Nat):Option Int→Nat
 |none=>d
 |some v=>if v<0 then(v+(n:Int)).toNat else min v.toNat n
theorem sIx_none (n d:Nat):sIx n d none=d:=rfl
theorem sIx_nat (n d k:Nat):sIx n d (ae (k:Int))=min k n:=by
 show(if(k:Int)<0 then((k:Int)+(n:Int)).toNat else min (k:Int).toNat n)=min k n;rw[if_neg (by omega),bU]
theorem sIx_le (n d:Nat) (hd:d≤n) (o:Option Int):sIx n d o≤n:=by
 cases o with
 |none=>exact hd
 |some v=>
  show(if v<0 then(v+(n:Int)).toNat else min v.toNat n)≤n;by_cases hv:v<0
  ·rw[if_pos hv];omega
  ·rw[if_neg hv];exact Nat.min_le_right _ _
theorem zpr (v:Int) (n d:Nat):(if v<0 then max (v+(n:Int)) 0 else min v (n:Int))=((sIx n d (ae v):Nat):Int):=by
 show(if v<0 then max (v+(n:Int)) 0 else min v (n:Int))=(((if v<0 then(v+(n:Int)).toNat else min v.toNat n):Nat):Int);by_cases hv:v<0
 ·simp only[if_pos hv];omega
 ·simp only[if_neg hv];omega
theorem zna (lo hi:Option Int) (n:Nat):iv lo hi 1 (n:Int)=(((sIx n 0 lo:Nat):Int),((sIx n n hi:Nat):Int)):=by
 have h1:¬((1:Int)<0):=by omega
 unfold iv;simp only[h1,if_false];refine Prod.ext ?_ ?_
 ·cases lo with
  |none=>rfl
  |some v=>exact zpr v n 0
 ·cases hi with
  |none=>rfl
  |some v=>exact zpr v n n
theorem znq (i j:Nat):f7 (i:Int) (j:Int) 1=j - i:=by
 unfold f7;have h1:(1:Int) > 0:=by omega
 simp only[h1,if_true,Int.ediv_one];split<;>omega
theorem zgK{v:Value}{o:Option Int}{Q:Option Int→ag→Prop}(p:cD v o) (h:Q o s):aj (ao prog w) A (bX.Slice.slicePartIndex v) Q E s:=by
 cases p with
 |none=>exact jS h
 |int i t=>exact slicePart_int h
theorem sliceApplied_gen{sl:Addr}{vl vu:Value}{lo hi:Option Int}{n:Nat}{Q:Int×Int×Nat→ag→Prop}(hs:s.heap.IsSliceOf sl vl vu .none) (pl:cD vl lo) (pu:cD vu hi)
  (h:Q (((sIx n 0 lo:Nat):Int),1,sIx n n hi - sIx n 0 lo) s):aj (ao prog w) A (jF (.ref sl) (pure (n:Int))) Q E s:=by
 obtain⟨os,hos,hcs,hds⟩:=id hs;unfold jF bX.Slice.sliceFields;refine ai (ai (bE hos hds (x:=vl) rfl (ai (bE hos hds (x:=vu) rfl (ai (bE hos hds (x:= .none) rfl (aD ?_)))))));refine ai (jS ?_);show aj _ _ (if((1:Int) == 0)=true then _ else _) _ _ s;rw[if_neg (by decide)];refine ai (zgK pl (ai (zgK pu (ai (aD ?_)))));show aj _ _ (match iv lo hi 1 (n:Int) with | (lo,hi)=>pure (lo,(1:Int),f7 lo hi 1)) _ _ s;rw[zna lo hi n];show aj _ _ (pure (((sIx n 0 lo:Nat):Int),(1:Int),f7 ((sIx n 0 lo:Nat):Int) ((sIx n n hi:Nat):Int) 1)) _ _ s;rw[znq];exact aD h
theorem zrO (xs:Array Value) (i k:Nat):((ba k).filterMap λ(m:Nat)=>xs[((i:Int)+(m:Int)*1).toNat]?).toArray=((xs.toList.drop i).take k).toArray:=by
 have e:(λ(m:Nat)=>xs[((i:Int)+(m:Int)*1).toNat]?)=λm=>xs[i+m]? :=by
  funext m;have:((i:Int)+(m:Int)*1).toNat=i+m:=by omega
  rw[this]
 rw[e];have:=gy xs i k;rw[List.filterMap_map]at this;have e2:((λx=>xs[x]?)∘λx=>i+x)=λm=>xs[i+m]? :=rfl;rw[e2]at this;rw[this]
theorem getItem_tuple_cut{t sl:Addr}{items:Array Value}{vl vu:Value}{lo hi:Option Int}{Q:Value→ag→Prop}(ht:dR s.heap t items) (hs:s.heap.IsSliceOf sl vl vu .none) (pl:cD vl lo) (pu:cD vu hi)
  (hw:¬(sIx items.size 0 lo=0∧sIx items.size items.size hi=items.size))
  (h:Q (.ref s.heap.objs.size) { s with heap:=s.heap.push { cls:= .type "tuple",data:= .seq ((items.toList.drop (sIx items.size 0 lo)).take (sIx items.size items.size hi - sIx items.size 0 lo)).toArray } })
  (hsz:items.size≤sizeLine):aj (ao prog w) A (dq (.ref t) (.ref sl)) Q E s:=by
 have htake:sizeOk (.seq ((items.toList.drop (sIx items.size 0 lo)).take (sIx items.size items.size hi - sIx items.size 0 lo)).toArray):=by
  show((items.toList.drop (sIx items.size 0 lo)).take (sIx items.size items.size hi - sIx items.size 0 lo)).toArray.size≤sizeLine;rw[aQ,cQ,cG,gX];omega
 have hj:sIx items.size items.size hi≤items.size:=sIx_le _ _ (au _) hi;obtain⟨os,hos,hcs,hds⟩:=id hs;have hTs:s.TypeIs (.ref sl) "slice" :=⟨os,hos,hcs⟩;unfold dq
 try with_reducible refine gf ?_
 first |refine ai (aD ?_) |skip
 refine ai (ix ht.typeIs (by decide) ?_);refine ai (c7 (name:=aS "__getitem__") ht.typeIs eA
  (cX eA ht.typeIs iO ?_ (i4 _ _)))
 show aj _ _ (jq (.ref t) >>= _) _ _ s;refine ai (tupleItemsOf_ ht ?_);refine ai (eI hTs ?_);rw[if_pos (by decide)];refine ai (sliceApplied_gen hs pl pu ?_);have hno:¬((((sIx items.size 0 lo:Nat):Int) == 0&&(1:Int) == 1&&(sIx items.size items.size hi - sIx items.size 0 lo) == items.size)=true):=by
  intro q;rw[cc,cc]at q;have q1:((sIx items.size 0 lo:Nat):Int)=0:=fj q.1.1;have q2:sIx items.size items.size hi - sIx items.size 0 lo=items.size:=fj q.2;exact hw ⟨by omega,by omega⟩
 show aj _ _ (if(((sIx items.size 0 lo:Nat):Int) == 0&&(1:Int) == 1&&(sIx items.size items.size hi - sIx items.size 0 lo) == items.size)=true then _ else _) _ _ s;rw[if_neg hno,zrO]
 first
  |exact ai (m:=fO _) (d6 (aD ⟨_,rfl,aD h⟩) htake)
  |exact ai (m:=fO _) (d6 (ai (aD (aD ⟨_,rfl,aD h⟩))) htake)
  |exact ai (ai (m:=fO _) (d6 (aD (aD ⟨_,rfl,aD h⟩)) htake))
  |exact ai (ai (m:=fO _) (d6 (aD ⟨_,rfl,aD h⟩) htake))
end
end HT
namespace L2
open PySem PySem.Spec PyProof.Rows
abbrev TO:=St→Hp→(Option Int→Hp→Prop)→Prop
def PO (X:Cx) (e:Option Expr) (t:TO):Prop:=
 ∀(pins:List (Addr×Obj)) (s:ag) (σ:St) (H:Hp) (Q:Option Int→Hp→Prop),Inv X pins σ H s→t σ H Q→
  aj (ao X.prog X.w) X.A (evalPart e X.env) (λu s'=>∃o H',Inv X pins σ H' s'∧cD u o∧Q o H') X.xe s
noncomputable def ztR:TO:=λ_ H Q=>Q none H
noncomputable def zzs (t:TE):TO:=λσ H Q=>t σ H λx H1=>∃i,x= .int i∧Q (ae i) H1
section
variable {X:Cx}{e:Expr}{te:TE}{lo hi:Option Expr}{tl th:TO}{pos p2:aA}
theorem po_none:PO X none ztR:=by
 intro pins s σ H Q I h;rw[evalPart_none];exact aD ⟨none,H,I, .none,h⟩
theorem zuG (h:PE X e te):PO X (ae e) (zzs te):=by
 intro pins s σ H Q I hw;rw[evalPart_some];refine thn (h pins s σ H _ I hw) λu s1 ⟨x,H1,I1,r1,q1⟩=>?_;obtain⟨i,rfl,q⟩:=q1;obtain⟨t,rfl⟩:=r1;exact⟨ae i,H1,I1, .int i t,q⟩
def SlR (X:Cx) (r:V→Option Int→Option Int→Hp→VK→Prop):Prop:=
 ∀(pins:List (Addr×Obj)) (s:ag) (σ:St) (H:Hp) (x:V) (v vl vu:Value) (lo hi:Option Int) (sl:Addr) (Q:VK),Inv X pins σ H s→RelV x v→s.heap.IsSliceOf sl vl vu .none→cD vl lo→cD vu hi→r x lo hi H Q→
  ∃T id,gx (.type T) "__getitem__" =pure (ae (.builtin id))∧s.TypeIs v T∧aj (ao X.prog X.w) X.A (dq v (.ref sl)) (EP X pins σ Q) X.xe s
theorem SlR.or{r r':V→Option Int→Option Int→Hp→VK→Prop}(h:SlR X r) (h':SlR X r'):SlR X (λx lo hi H Q=>r x lo hi H Q∨r' x lo hi H Q):=by
 intro pins s σ H x v vl vu lo hi sl Q I rx hs pl pu q;rcases q with q |q
 ·exact h pins s σ H x v vl vu lo hi sl Q I rx hs pl pu q
 ·exact h' pins s σ H x v vl vu lo hi sl Q I rx hs pl pu q
noncomputable def tSl (r:V→Option Int→Option Int→Hp→VK→Prop) (te:TE) (tl th:TO):TE:=λσ H Q=>te σ H λx H1=>tl σ H1 λl H2=>th σ H2 λu H3=>r x l u H3 Q
theorem zlT{r:V→Option Int→Option Int→Hp→VK→Prop}(hr:SlR X r) (he:PE X e te) (hl:PO X lo tl) (hu:PO X hi th):PE X (.Subscript e (.Slice lo hi none p2) pos) (tSl r te tl th):=by
 intro pins s σ H Q I h;refine Subscript_ (thn (he pins s σ H _ I h) λv s1 ⟨x,H1,I1,r1,q1⟩=>?_);refine wpAny_Slice (thn (hl pins s1 σ H1 _ I1 q1) λvl s2 ⟨l,H2,I2,pl,q2⟩=>thn (hu pins s2 σ H2 _ I2 q2) λvu s3 ⟨u,H3,I3,pu,q3⟩=>?_);rw[evalPart_none];refine aD ?_;have I4:Inv X pins σ H3 { s3 with heap:=s3.heap.push { cls:= .type "slice",data:= .fields #[vl,vu, .none] } }:=I3.kept (t':=s3.toks) λb ob q=>aH _ q;obtain⟨T,id,hT,ht,hg⟩:=hr pins { s3 with heap:=s3.heap.push { cls:= .type "slice",data:= .fields #[vl,vu, .none] } } σ H3 x v vl vu l u s3.heap.objs.size Q I4 r1 (Heap.IsSliceOf.new ..) pl pu q3;show aj (ao X.prog X.w) X.A (subscriptTail e (.Slice lo hi none p2) v (.ref s3.heap.objs.size)) (EP X pins σ Q) X.xe { s3 with heap:=s3.heap.push { cls:= .type "slice",data:= .fields #[vl,vu, .none] } };exact tail_any (ops:=[.ref s3.heap.objs.size,v]) ht hT hg (by with_unfolding_all rfl)
noncomputable def zpD (xs:List V) (lo hi:Option Int):List V:=(xs.drop (HT.sIx xs.length 0 lo)).take (HT.sIx xs.length xs.length hi - HT.sIx xs.length 0 lo)
theorem zgg (xs:List V) (lo hi:Option Int):(zpD xs lo hi).length≤xs.length:=by
 unfold zpD;rw[cQ,cG];omega
def zAj (K:ah):V→Option Int→Option Int→Hp→VK→Prop:=λx lo hi H Q=>∃a xs,x= .ref a∧SqT K H a xs∧
 ¬(HT.sIx xs.length 0 lo=0∧HT.sIx xs.length xs.length hi=xs.length)∧ ∀p,H p=none→Q (.ref p) (upd H p (.tup (zpD xs lo hi)))
theorem zwz:SlR X (zAj X.K):=by
 intro pins s σ H x v vl vu lo hi sl Q I rx hs pl pu h;obtain⟨a,xs,rfl,hx,hw,q⟩:=h;cases rx;obtain⟨its,r,ht,hz⟩:=I.tuple hx;have hlen:its.toArray.size=xs.length:=by rw[aQ];exact r.length.symm
 refine⟨"tuple",_,eA.lookup,ht.typeIs,?_⟩;refine HT.getItem_tuple_cut ht hs pl pu (by rw[hlen];exact hw) ?_ (by rw[hlen];exact hz);rw[hlen];refine⟨.ref s.heap.objs.size,_,I.laid (t':=s.toks) (o:= .tup (zpD xs lo hi)) (λb ob q=>aH _ q) (au _) ?_,rfl,q _ (I.hok.fresh (au _))⟩;exact⟨bC (zgg xs lo hi) hz,_,(r.drop (HT.sIx xs.length 0 lo)).take (HT.sIx xs.length xs.length hi - HT.sIx xs.length 0 lo),h_ _ _⟩
noncomputable def zuO (K:ah):R2:=λx y H Q=>∃a b xs ys,x= .ref a∧y= .ref b∧SqT K H a xs∧SqT K H b ys∧xs≠ []∧xs.length+ys.length≤sizeLine∧
 (ys=[]→Q (.ref a) H)∧(ys≠ []→ ∀p,H p=none→Q (.ref p) (upd H p (.tup (xs++ys))))
theorem Vals.nil_iff{xs:List V}{us:List Value}(r:Vals xs us):us=[]↔xs=[]:=by
 cases r with
 |nil=>simp
 |cons _ _=>simp
theorem op_catT:OpR X (bL .Add) (zuO X.K):=by
 intro pins s σ H x y v u Q I rx ry h;obtain⟨a,b,xs,ys,rfl,rfl,ha,hb,hx,hz,q1,q2⟩:=h;cases rx;cases ry;obtain⟨its,r1,p1,_⟩:=I.tuple ha;obtain⟨its2,r2,p2,_⟩:=I.tuple hb;refine HT.cat_tup p1 p2 (λz=>hx (r1.nil_iff.mp z)) (λz=>⟨.ref a,H,I,rfl,q1 (r2.nil_iff.mp z)⟩) (λz=>?_) (by rw[←r1.length,←r2.length];exact hz);refine⟨.ref s.heap.objs.size,_,I.laid (t':=s.toks) (o:= .tup (xs++ys)) (λb ob q=>aH _ q) (au _) ?_,rfl,q2 (λw=>z (r2.nil_iff.mpr w)) _ (I.hok.fresh (au _))⟩;exact⟨by rw[aZ];exact hz,_,r1.append r2,h_ _ _⟩
end
noncomputable def ixN (n:Nat) (i:Int):Option Nat:=if 0≤i then(if i<n then ae i.toNat else none) else if -(n:Int)≤i then ae (i+n).toNat else none
noncomputable def atI {α:Type}(xs:List α) (i:Int):Option α:=(ixN xs.length i).bind λj=>xs[j]?
theorem ztV{n:Nat}{i:Int}{j:Nat}(h:ixN n i=ae j):seqIndex? i n=ae j∧j<n∧ -(n:Int)≤i∧i<n:=by
 unfold ixN at h;by_cases h0:0≤i
 ·rw[if_pos h0]at h;by_cases h1:i<n
  ·rw[if_pos h1]at h;have e:i.toNat=j:=aI h;exact⟨by rw[seqIndex_of h0 h1,e],by omega,by omega,h1⟩
  ·rw[if_neg h1]at h;cases h
 ·rw[if_neg h0]at h;by_cases h1: -(n:Int)≤i
  ·rw[if_pos h1]at h;have e:(i+n).toNat=j:=aI h;exact⟨by rw[seqIndex_neg (by omega) h1,e],by omega,h1,by omega⟩
  ·rw[if_neg h1]at h;cases h
theorem zke{α:Type}{xs:List α}{i:Int}{v:α}(h:atI xs i=ae v):∃j,seqIndex? i xs.length=ae j∧xs[j]? =ae v∧j<xs.length∧ -(xs.length:Int)≤i∧i<xs.length:=by
 unfold atI at h;cases e:ixN xs.length i with
 |none=>rw[e]at h;cases h
 |some j=>
  rw[e]at h;obtain⟨h1,h2,h3,h4⟩:=ztV e;exact⟨j,h1,h,h2,h3,h4⟩
theorem zvg{α:Type}{xs:List α}{j:Nat}{v:α}(h:xs[j]? =ae v):atI xs (j:Int)=ae v:=by
 have hj:j<xs.length:=(bG.mp h).1;have e:ixN xs.length (j:Int)=ae j:=by
  unfold ixN;rw[if_pos (by omega),if_pos (by omega)];simp
 unfold atI;rw[e];exact h
def zkX (b:Expr):Prop:=∀o i,subscripted b false o i=operate [o,i] (dq o i)
def IxR (X:Cx) (r:R2):Prop:=
 ∀(value slice:Expr) (pins:List (Addr×Obj)) (s:ag) (σ:St) (H:Hp) (x y:V) (v u:Value) (Q:VK),Inv X pins σ H s→RelV x v→RelV y u→r x y H Q→
  subscripted slice false v u=operate [v,u] (dq v u)→aj (ao X.prog X.w) X.A (subscriptTail value slice v u) (EP X pins σ Q) X.xe s
def MtR (X:Cx) (id:String) (r:V→List V→Hp→VK→Prop):Prop:=
 ∀(pins:List (Addr×Obj)) (s:ag) (σ:St) (H:Hp) (x:V) (xs:List V) (v:Value) (us:List Value) (Q:VK),Inv X pins σ H s→RelV x v→Vals xs us→r x xs H Q→
  aj (ao X.prog X.w) X.A (call (.builtin id) (v::us)) (EP X pins σ Q) X.xe s
section
variable {X:Cx}{a b:Expr}{ta tb:TE}{pos:aA}
theorem IxR.or{r r':R2}(h:IxR X r) (h':IxR X r'):IxR X (λx y H Q=>r x y H Q∨r' x y H Q):=by
 intro value slice pins s σ H x y v u Q I rx ry q hs;rcases q with q |q
 ·exact h value slice pins s σ H x y v u Q I rx ry q hs
 ·exact h' value slice pins s σ H x y v u Q I rx ry q hs
theorem MtR.or{id:String}{r r':V→List V→Hp→VK→Prop}(h:MtR X id r) (h':MtR X id r'):MtR X id (λx xs H Q=>r x xs H Q∨r' x xs H Q):=by
 intro pins s σ H x xs v us Q I rx rs q;rcases q with q |q
 ·exact h pins s σ H x xs v us Q I rx rs q
 ·exact h' pins s σ H x xs v us Q I rx rs q
theorem zwb{r:R2}(hr:IxR X r) (ha:PE X a ta) (hb:PE X b tb) (hs:zkX b):PE X (.Subscript a b pos) (tOp r ta tb):=by
 intro pins s σ H Q I h;exact Subscript_ (zyC ha hb I h λv u s2 x y H2 I2 rx ry q=>hr a b pins s2 σ H2 x y v u Q I2 rx ry q (hs _ _))
noncomputable def zzQ (K:ah):R2:=λx y H Q=>∃p xs i v,x= .ref p∧y= .int i∧SqL K H p xs∧atI xs i=ae v∧Q v H
noncomputable def zzP (K:ah):R2:=λx y H Q=>∃p xs i v,x= .ref p∧y= .int i∧SqT K H p xs∧atI xs i=ae v∧Q v H
noncomputable def zzU:R2:=λx y H Q=>∃z i c,x= .str z∧y= .int i∧z.length≤sizeLine∧atI z.cps.toList i=ae c∧Q (.str ⟨#[c]⟩) H
theorem ix_list:IxR X (zzQ X.K):=by
 intro value slice pins s σ H x y v u Q I rx ry h hs;obtain⟨p,xs,i,z,rfl,rfl,hq,he,q⟩:=h;cases rx;obtain⟨t,rfl⟩:=ry;obtain⟨its,r,pl,hz⟩:=I.list hq;obtain⟨j,h1,h2,h3,h4,h5⟩:=zke he;obtain⟨w,ew,rw'⟩:=r.get h2;have hl:=r.length;have hn:=zgU;have fin:EP X pins σ Q w s:=⟨z,H,I,rw',q⟩;by_cases h0:0≤i
 ·have hj:i.toNat=j:=by
   rw[seqIndex_of h0 h5]at h1;exact aI h1
  exact item_listR pl.isList h0 (by omega) (by rw[hj];simpa using ew) fin hs
 ·have hj:(i+(its.toArray.size:Int)).toNat=j:=by
   rw[seqIndex_neg (by omega) h4]at h1;rw[aQ,←hl];exact aI h1
  exact jk (x:=w) pl.isList.typeIs j5.lookup
   (wpAny_getItem_list_neg (Q:=λr s'=>r=w∧EP X pins σ Q r s') pl.isList (by omega) (by rw[aQ]<;>omega) (by omega) (by rw[hj];simpa using ew) ⟨rfl,fin⟩) hs
theorem ix_tup:IxR X (zzP X.K):=by
 intro value slice pins s σ H x y v u Q I rx ry h hs;obtain⟨p,xs,i,z,rfl,rfl,hq,he,q⟩:=h;cases rx;obtain⟨t,rfl⟩:=ry;obtain⟨its,r,pl,hz⟩:=I.tuple hq;obtain⟨j,h1,h2,h3,h4,h5⟩:=zke he;obtain⟨w,ew,rw'⟩:=r.get h2;have hl:=r.length;have hn:=zgU;have fin:EP X pins σ Q w s:=⟨z,H,I,rw',q⟩;exact jk (x:=w) pl.typeIs slot_tuple_getitem.lookup
  (getItem_tuple (j:=j) (Q:=λr s'=>r=w∧EP X pins σ Q r s') pl (by omega) (by omega) (by rw[aQ,←hl];exact h1) (by simpa using ew) ⟨rfl,fin⟩) hs
theorem zyh:IxR X zzU:=by
 intro value slice pins s σ H x y v u Q I rx ry h hs;obtain⟨z,i,c,rfl,rfl,hz,he,q⟩:=h;obtain⟨t,rfl⟩:=rx;obtain⟨t',rfl⟩:=ry;obtain⟨j,h1,h2,h3,h4,h5⟩:=zke he;have hl:z.cps.toList.length=z.length:=by simp [gP]
 rw[hl]at h1 h4 h5;have hn:=zgU;exact tail_any (gw s z t) slot_str_getitem.lookup (getItem_str (c:=c) (by
  have e1:decide (i< -(2 ^ 63:Int))=false:=decide_eq_false (by omega);have e2:decide (i≥2 ^ 63)=false:=decide_eq_false (by omega);rw[e1,e2,j_]) (by rw[h1];simpa using h2) ⟨.str ⟨#[c]⟩,H,I.tok _,⟨_,rfl⟩,q⟩) hs
noncomputable def rIx (K:ah):R2:=λx y H Q=>zzQ K x y H Q∨zzP K x y H Q∨zzU x y H Q
theorem zsT:IxR X (rIx X.K):=ix_list.or (ix_tup.or zyh)
theorem zjz (lo hi:Option Int) (n:Nat):(dB lo hi none n).1=((HT.sIx n 0 lo:Nat):Int)∧(dB lo hi none n).2.1=((HT.sIx n n hi:Nat):Int)∧(dB lo hi none n).2.2=1:=by
 refine⟨?_,?_,rfl⟩
 ·cases lo with
  |none=>simp [dB,HT.sIx]
  |some i=>
   simp only[dB,HT.sIx,jf,show(1:Int) > 0 by decide,if_true]
   by_cases h:i<0
   ·simp only[h,if_true]<;>omega
   ·simp only[h,if_false]<;>omega
 ·cases hi with
  |none=>simp [dB,HT.sIx]
  |some i=>
   simp only[dB,HT.sIx,jf,show(1:Int) > 0 by decide,if_true]
   by_cases h:i<0
   ·simp only[h,if_true]<;>omega
   ·simp only[h,if_false]<;>omega
theorem zhN (its:List Value) (lo hi:Option Int):slicePick its.toArray lo hi none=((its.drop (HT.sIx its.length 0 lo)).take (HT.sIx its.length its.length hi - HT.sIx its.length 0 lo)).toArray:=by
 obtain⟨h1,h2,h3⟩:=zjz lo hi its.toArray.size;unfold slicePick;rw[h1,h2,h3];simp only[gE,gy,aQ]<;>rfl
def zAa (K:ah):V→Option Int→Option Int→Hp→VK→Prop:=λx lo hi H Q=>∃a xs,x= .ref a∧SqL K H a xs∧ ∀p,H p=none→Q (.ref p) (upd H p (.lst (zpD xs lo hi)))
theorem zou:SlR X (zAa X.K):=by
 intro pins s σ H x v vl vu lo hi sl Q I rx hs pl pu h;obtain⟨a,xs,rfl,hx,q⟩:=h;cases rx;obtain⟨its,r,ht,hz⟩:=I.list hx;have hlen:=r.length;refine⟨"list",_,j5.lookup,ht.isList.typeIs,?_⟩;refine wpAny_getItem_list_slice ht.isList hs pl pu .none (by simp) ?_ (by rw[aQ]<;>omega);rw[zhN,←hlen];refine⟨.ref s.heap.objs.size,_,I.laid (t':=s.toks) (o:= .lst (zpD xs lo hi)) (λb ob q=>aH _ q) (au _) ?_,rfl,q _ (I.hok.fresh (au _))⟩;exact⟨bC (zgg xs lo hi) hz,_,0,(r.drop (HT.sIx xs.length 0 lo)).take (HT.sIx xs.length xs.length hi - HT.sIx xs.length 0 lo),bh _ rfl⟩
theorem call_len_seq:CallR X (.builtin "len") (λxs H Q=>∃p ys,xs=[.ref p]∧(SqL X.K H p ys∨SqT X.K H p ys)∧Q (.int ys.length) H):=by
 intro pins s σ H xs us Q I r h;obtain⟨p,ys,rfl,hq,q⟩:=h;obtain⟨u,rfl,rx⟩:=zfN r;cases rx;have hn:=zgU;rcases hq with hq |hq
 ·obtain⟨its,r',pl,hz⟩:=I.list hq;have hlen:=r'.length;exact Calls.call_len_list pl.isList (by simp only[aQ]<;>omega) ⟨.int ys.length,H,I.tok _,⟨s.toks+1,by rw[aQ,hlen]⟩,q⟩
 ·obtain⟨its,r',pl,hz⟩:=I.tuple hq;have hlen:=r'.length;exact len_tuple pl (by simp only[aQ]<;>omega) ⟨.int ys.length,H,I.tok _,⟨s.toks+1,by rw[aQ,hlen]⟩,q⟩
theorem zis:CallR X (.builtin "len") (λxs H Q=>∃z,xs=[.str z]∧z.length≤sizeLine∧Q (.int z.length) H):=by
 intro pins s σ H xs us Q I r h;obtain⟨z,rfl,hz,q⟩:=h;obtain⟨u,rfl,t,rfl⟩:=zfN r;have hn:=zgU;exact len_str (by omega) ⟨.int z.length,H,I.tok _,⟨_,rfl⟩,q⟩
theorem CallR.or{f:Value}{r r':List V→Hp→VK→Prop}(h:CallR X f r) (h':CallR X f r'):CallR X f (λxs H Q=>r xs H Q∨r' xs H Q):=by
 intro pins s σ H xs us Q I rs q;rcases q with q |q
 ·exact h pins s σ H xs us Q I rs q
 ·exact h' pins s σ H xs us Q I rs q
theorem zez:CallR X (.type "tuple") (λxs H Q=>∃p ys,xs=[.ref p]∧((SqL X.K H p ys∧ ∀l,H l=none→Q (.ref l) (upd H l (.tup ys)))∨(SqT X.K H p ys∧Q (.ref p) H))):=by
 intro pins s σ H xs us Q I r h;obtain⟨p,ys,rfl,h⟩:=h;obtain⟨u,rfl,rx⟩:=zfN r;cases rx;rcases h with⟨hq,q⟩ |⟨hq,q⟩
 ·obtain⟨its,r',pl,hz⟩:=I.list hq;have hlen:=r'.length;refine call_tuple_list pl.isList (λh' kp=>?_) (by simp only[aQ]<;>omega);have I1:Inv X pins σ H { s with heap:=h' }:=I.kept (t':=s.toks) kp;have I2:Inv X pins σ (upd H h'.objs.size (.tup ys)) { s with heap:=h'.push { cls:= .type "tuple",data:= .seq its.toArray } }:=
   I1.laid (t':=s.toks) (λb o e=>aH _ e) (au _) (show ObjOk X.prog X.w _ _ _ (.tup ys) from⟨hz,its,r',h_ _ _⟩)
  exact⟨.ref h'.objs.size,_,I2,rfl,q _ (I1.hok.fresh (au _))⟩
 ·obtain⟨its,r',pl,hz⟩:=I.tuple hq;exact call_tuple_same pl ⟨.ref p,H,I,rfl,q⟩
def tyV (K:ah) (T:String) (x:V) (H:Hp):Prop:=match x with
 | .str _=>T= "str"
 | .int _=>T= "int"
 | .ref p=>(T= "list" ∧ ∃xs,SqL K H p xs)∨(T= "tuple" ∧ ∃o,K.lookup p=ae o∧o.cls= .type "tuple" ∧o.dict=none)∨
   (T= "dict" ∧((∃kvs,H p=ae (.dK kvs))∨ ∃kvs,H p=ae (.dT kvs)))∨(T= "set" ∧ ∃S n,H p=ae (.set S n))
 |_=>False
theorem zto{pins:List (Addr×Obj)}{σ:St}{H:Hp}{s:ag}{T:String}{x:V}{v:Value}(I:Inv X pins σ H s) (r:RelV x v) (ty:tyV X.K T x H) :
  s.TypeIs v T∧ ∀a,v= .ref a→ ∃ob,s.heap.get? a=ae ob∧ob.dict=none:=by
 cases x with
 |str z=>
  obtain⟨t,rfl⟩:=r;cases(show T= "str" from ty);exact⟨gw s z t,λ_ e=>nomatch e⟩
 |int i=>
  obtain⟨t,rfl⟩:=r;cases(show T= "int" from ty);exact⟨ii s i t,λ_ e=>nomatch e⟩
 |ref p=>
  cases r;rcases ty with⟨rfl,xs,hq⟩ |⟨rfl,o,hk,hc,hd⟩ |⟨rfl,hk⟩ |⟨rfl,S,n,hk⟩
  ·obtain⟨its,_,pl,_⟩:=I.list hq;refine⟨pl.isList.typeIs,λa e=>?_⟩;cases e;obtain⟨o,n,e,c,hd,_⟩:=pl;exact⟨o,e,hd⟩
  ·refine⟨⟨o,I.kIn p o hk,hc⟩,λa e=>?_⟩;cases e;exact⟨o,I.kIn _ o hk,hd⟩
  ·have z:∃o,s.heap.get? p=ae o∧o.ExactDict:=by
    rcases hk with⟨kvs,hk⟩ |⟨kvs,hk⟩
    ·obtain⟨_,_,_,_,o,_,_,e,ex,_⟩:=I.hok p _ hk;exact⟨o,e,ex⟩
    ·obtain⟨_,_,_,_,o,_,_,e,ex,_⟩:=I.hok p _ hk;exact⟨o,e,ex⟩
   obtain⟨o,e,ex⟩:=z;refine⟨⟨o,e,ex.1⟩,λa e2=>?_⟩;cases e2;exact⟨o,e,ex.2.1⟩
  ·obtain⟨o,_,_,_,e,ex,_⟩:=I.hok p _ hk;refine⟨⟨o,e,ex.1⟩,λa e2=>?_⟩;cases e2;exact⟨o,e,ex.2.1⟩
 |_=>exact cA ty
noncomputable def zAQ (K:ah) (T:String) (r:V→List V→Hp→VK→Prop) (to:TE):TE:=λσ H Q=>to σ H λx H1=>tyV K T x H1∧r x [] H1 Q
noncomputable def tBM (K:ah) (T:String) (r:V→List V→Hp→VK→Prop) (to:TE) (t:TA):TE:=λσ H Q=>to σ H λx H1=>tyV K T x H1∧t σ H1 λxs H2=>r x xs H2 Q
variable {o e:Expr}{es:List Expr}{to:TE}{t:TA}{name:Str}{apos cpos:aA}{T id:String}{r:V→List V→Hp→VK→Prop}
theorem zxj (pa:fe T) (slot:Slot T name id) (hty:eY (.builtin id)=pure (.type "method_descriptor")) (hm:MtR X id r) (ho:PE X o to)
  (hbase:cM o name X.env (aq o X.env)=aq o X.env:=by rfl) (hline:(apos.endLine == cpos.line)=true:=by rfl):PE X (.Call (.Attribute o name apos) [] [] cpos) (zAQ X.K T r to):=by
 intro pins s σ H Q I h;refine wpAny_Call_method0_late hbase hline (thn (ho pins s σ H _ I h) λv s1 ⟨x,H1,I1,r1,ty,q1⟩=>?_);obtain⟨h1,h2⟩:=zto I1 r1 ty;exact⟨T,id,pa,slot,hty,h1,h2,iB rfl (PySem.evalArgs_none (hm pins s1 σ H1 x [] v [] Q I1 r1 .nil q1))⟩
theorem zxV (pa:fe T) (slot:Slot T name id) (hty:eY (.builtin id)=pure (.type "method_descriptor")) (hm:MtR X id r) (ho:PE X o to) (ha:PA X (e::es) t)
  (hbase:cM o name X.env (aq o X.env)=aq o X.env:=by rfl)
  (hfew:((aO cpos (am (e::es) X.env)).all (λx=> !x.1)&&(dD cpos (dv [] X.env)).all (λx=>x.1.isSome)
   &&decide ((e::es).length+([]:List bR).length+(if([]:List bR).isEmpty then 0 else 1)<30))=true:=by rfl)
  (hline:(apos.endLine == cpos.line)=true:=by rfl) (hs:am (e::es) X.env=(false,aq e X.env)::am es X.env:=by rfl) (hplain:(aO cpos (am es X.env)).any (·.1)=false:=by rfl) :
  PE X (.Call (.Attribute o name apos) (e::es) [] cpos) (tBM X.K T r to t):=by
 intro pins s σ H Q I h;refine wpAny_Call_method_late hbase hfew hline rfl (thn (ho pins s σ H _ I h) λv s1 ⟨x,H1,I1,r1,ty,q1⟩=>?_);obtain⟨h1,h2⟩:=zto I1 r1 ty;refine⟨T,id,pa,slot,hty,h1,h2,?_⟩;have hA:=ha cpos pins s1 σ H1 _ I1 q1;rw[hs]at hA⊢;refine iB (by show(false || (aO cpos (am es X.env)).any (·.1))=false;rw[hplain]<;>rfl) (iZ ?_)
 exact thn hA λus s2 ⟨vs,H2,I2,r2,q2⟩=>hm pins s2 σ H2 x vs v us Q I2 r1 r2 q2
end
def MtM (X:Cx) (id:String) (r:V→List V→Hp→VK→Prop):Prop:=
 ∀(pins:List (Addr×Obj)) (s:ag) (σ:St) (H:Hp) (x:V) (xs:List V) (v:Value) (us:List Value) (Q:VK),Inv X pins σ H s→RelV x v→Vals xs us→r x xs H Q→
  aj (ao X.prog X.w) X.A (call (.builtin id) (v::us)) (EP X pins σ Q) X.xe s
theorem Vals.one:∀{x:V}{us:List Value},Vals [x] us→ ∃u,us=[u]∧RelV x u
 |_,_, .cons r .nil=>⟨_,rfl,r⟩
theorem Vals.rep{xs:List V}{us:List Value}(h:Vals xs us):∀k:Nat,Vals (aR k xs).flatten (aR k us).flatten
 |0=> .nil
 |k+1=>by
  rw[ce,ce,df,df];exact Vals.append h (Vals.rep h k)
theorem ziT (its:List Value):∀(k:Nat) (acc:List Value),
  gA (λx1 x2=>x1++x2) acc.toArray (aR k its.toArray)=(acc++(aR k its).flatten).toArray
 |0,acc=>by simp
 |k+1,acc=>by
  have e:acc.toArray++its.toArray=(acc++its).toArray:=by simp
  have e2:(acc++its)++(aR k its).flatten=acc++(aR (k+1) its).flatten:=by
   rw[ce,df,bw]
  rw[←e2,←ziT its k (acc++its),←e,ce,dZ]
section
variable {X:Cx}{pins:List (Addr×Obj)}{σ:St}{H:Hp}{s:ag}{l:Addr}{xs ys:List V}
theorem Inv.lset{its its':List Value}{n:Nat}{f:Array Value→Array Value}{t':Nat}(I:Inv X pins σ H s) (hH:H l=ae (.lst xs))
  (e:s.heap.get? l=ae { cls:= .type "list",data:= .seq its.toArray n }) (hf:f its.toArray=its'.toArray) (hv:Vals ys its') (hz:ys.length≤sizeLine) :
  Inv X pins σ (upd H l (.lst ys)) { s with heap:=s.heap.update l (gH f),toks:=t' }:=by
 have q:=PySem.IsL.update e f;rw[hf]at q;refine I.write (x:=l) (e:=l) (by rw[hH];exact trivial) (.inl rfl) (λb' u hb hu=>(Heap.get?_update_other s.heap (gH f) (bj hb)).trans hu) ⟨_,q⟩ ?_;exact⟨hz,its',_,hv,q⟩
theorem Inv.lnew{its:List Value}{t':Nat}(I:Inv X pins σ H s) (hv:Vals ys its) (hz:ys.length≤sizeLine) :
  Inv X pins σ (upd H s.heap.objs.size (.lst ys)) { s with heap:=s.heap.push { cls:= .type "list",data:= .seq its.toArray },toks:=t' }:=
 I.laid (λ_ _ q=>aH _ q) (au _) ⟨hz,its,0,hv,bh _ rfl⟩
theorem Inv.fresh (I:Inv X pins σ H s):H s.heap.objs.size=none:=I.hok.fresh (au _)
theorem Inv.lstM (I:Inv X pins σ H s) (hH:H l=ae (.lst xs)):xs.length≤sizeLine∧ ∃(its:List Value) (n:Nat),Vals xs its∧xs.length=its.length∧s.heap.get? l=ae { cls:= .type "list",data:= .seq its.toArray n }:=by
 obtain⟨z,its,n,r,e⟩:=I.hok l _ hH;exact⟨z,its,n,r,r.length,e⟩
theorem zhz{n:Nat}(h:n≤sizeLine):d8 n=false:=by
 unfold d8;exact decide_eq_false (by omega)
end
section
variable {X:Cx}
def zoD:V→List V→Hp→VK→Prop:=λx vs H Q=>∃l xs y,x= .ref l∧vs=[y]∧H l=ae (.lst xs)∧xs.length<sizeLine∧Q .non (upd H l (.lst (xs++[y])))
theorem ziH:MtM X "list.append" zoD:=by
 intro pins s σ H x vs v us Q I rx rv h;obtain⟨l,xs,y,rfl,rfl,hH,hz,q⟩:=h;cases rx;obtain⟨u,rfl,ru⟩:=rv.one;obtain⟨z,its,n,r,hl,e⟩:=I.lstM hH;refine dO F.slot_list_append ⟨_,e,rfl⟩ F.entry_list_append (F.args_list_append_2 _ _) (PySem.list_append l its.toArray n u (by rw[aQ];omega)) ⟨e,?_⟩;refine⟨.non,_,I.lset (its':=its++[u]) hH e (by simp) (r.append (.cons ru .nil)) ?_,rfl,q⟩;rw[aZ,eF];omega
def zpn:V→List V→Hp→VK→Prop:=λx vs H Q=>∃l b xs zs,x= .ref l∧vs=[.ref b]∧H l=ae (.lst xs)∧H b=ae (.lst zs)∧xs.length+zs.length≤sizeLine∧Q .non (upd H l (.lst (xs++zs)))
theorem znK:MtM X "list.extend" zpn:=by
 intro pins s σ H x vs v us Q I rx rv h;obtain⟨l,b,xs,zs,rfl,rfl,hH,hB,hz,q⟩:=h;cases rx;obtain⟨u,rfl,ru⟩:=rv.one;cases ru;obtain⟨z,its,n,r,hl,e⟩:=I.lstM hH;obtain⟨z2,its2,n2,r2,hl2,e2⟩:=I.lstM hB;have hsz:its.toArray.size+its2.toArray.size≤sizeLine:=by rw[aQ,aQ];omega
 have hlong:¬(!its.toArray.isEmpty&&d8 (its.toArray.size+its2.toArray.size))=true:=by
  rw[zhz hsz,eG];exact cR
 refine dO i_ ⟨_,e,rfl⟩ jd (iQ _ _)
  (AutoSeq1.list_extend_list_list_0 l its.toArray n b its2.toArray n2 hlong (by rw[aQ];omega) (by omega)) ⟨e,e2,?_⟩
 refine⟨.non,_,I.lset (its':=its++its2) hH e (by simp) (r.append r2) ?_,rfl,q⟩;rw[aZ];omega
noncomputable def zzG:R2:=λx y H Q=>∃l b xs zs,x= .ref l∧y= .ref b∧H l=ae (.lst xs)∧H b=ae (.lst zs)∧xs.length+zs.length≤sizeLine∧ ∀p,H p=none→Q (.ref p) (upd H p (.lst (xs++zs)))
theorem zms:OpR X (bL .Add) zzG:=by
 intro pins s σ H x y v u Q I rx ry h;obtain⟨l,b,xs,zs,rfl,rfl,hH,hB,hz,q⟩:=h;cases rx;cases ry;obtain⟨z,its,n,r,hl,e⟩:=I.lstM hH;obtain⟨z2,its2,n2,r2,hl2,e2⟩:=I.lstM hB;refine PySem.P.add_list e e2 ?_ (by rw[aQ,aQ];omega);have ea:its.toArray++its2.toArray=(its++its2).toArray:=by simp
 rw[ea];exact⟨.ref _,_,I.lnew (t':=s.toks) (r.append r2) (by rw[aZ];omega),rfl,q _ I.fresh⟩
noncomputable def zAG:R2:=λx y H Q=>∃l k xs,x= .ref l∧y= .int k∧H l=ae (.lst xs)∧ -(2 ^ 63)≤k∧k<2 ^ 63∧xs.length*k.toNat≤sizeLine∧
 ∀p,H p=none→Q (.ref p) (upd H p (.lst (aR k.toNat xs).flatten))
theorem zuN{α:Type}(xs:List α) (k:Nat):(aR k xs).flatten.length=k*xs.length:=by
 induction k with
 |zero=>simp
 |succ k ih=>rw[ce,df,aZ,ih,Nat.succ_mul,dh]
theorem zxh:OpR X (bL .Mult) zAG:=by
 intro pins s σ H x y v u Q I rx ry h;obtain⟨l,k,xs,rfl,rfl,hH,h1,h2,hz,q⟩:=h;cases rx;obtain⟨t,rfl⟩:=ry;obtain⟨z,its,n,r,hl,e⟩:=I.lstM hH;have hlen:its.toArray.size*k.toNat≤sizeLine:=by rw[aQ,←hl];exact hz
 have hcap:¬its.toArray.size*k.toNat > (2 ^ 63 - 1) / 8:=by
  have:(sizeLine:Nat)≤(2 ^ 63 - 1) / 8:=by decide
  omega
 have hfit:¬(!Builtin.List.listFitsIndex k)=true:=by
  rw[fitsIndex_both h1 h2];exact cR
 have hlong:¬d8 (its.toArray.size*k.toNat)=true:=by
  rw[zhz hlen];exact cR
 have hnew:gA (λx1 x2=>x1++x2) #[] (aR (if its.toArray.isEmpty=true then 0 else k.toNat) its.toArray)=(aR k.toNat its).flatten.toArray:=by
  have f0:∀m:Nat,gA (λx1 x2=>x1++x2) #[] (aR m its.toArray)=(aR m its).flatten.toArray:=λm=>by
   have:=ziT its m [];rw[aN]at this;exact this
  rw[f0];cases its with
  |nil=>simp
  |cons a r'=>rw[if_neg (by simp)]
 refine wpAny_binaryOp_repeat_ref (T:= "list") (U:= "int") (by decide) ⟨_,e,rfl⟩ (λs'=>ii s' k t) noFill_list_mul F.fills_int_mul jM repeat_list F.slot_int_index.lookup
  (dO jM (ii s k t) F.entry_int_rmul (F.args_int_rmul_2 _ _) (int___rmul___int_list k t l its.toArray n)
   ⟨e,rfl,⟨_,e,rfl⟩,dO F.slot_list_mul ⟨_,e,rfl⟩ F.entry_list_mul (F.args_list_mul_2 _ _) (AutoListH.list___mul___list_int_3 l its.toArray n k t hfit hcap hlong) ⟨e,?_⟩⟩)
 rw[hnew];exact⟨.ref _,_,I.lnew (t':=s.toks) (r.rep k.toNat) (by rw[zuN,Nat.mul_comm];exact hz),rfl,q _ I.fresh⟩
end
end L2
namespace Att
open PySem PySem.W PySem.Calls PyProof.Rows
theorem zfR{P:fZ}{h:Heap}:∀(ns:List Int) (vs:List Value),WellAll P h vs (ns.map WData.int)→dQ vs ns:=by
 intro ns
 induction ns with
 |nil=>
  intro vs w;rw[cu]at w;cases w;exact .nil
 |cons n ns ih=>
  intro vs w;rw[aB]at w;cases w with
  |cons a b=>
   cases a;exact .cons _ _ (ih _ b)
theorem zog{l:OpenLaw}{n:Nat}(hn:l.most=ae n) {P:fZ}{h:Heap}{args:List WData}{vals:List Value}
  (hpre:l.row.toRowW.claim.pre args=true) (hwl:WellAll P h vals args) :
  ∃a vs ns,vals=[bz a]∧args=[WData.list (ns.map WData.int)]∧h.get? a=ae { cls:= .type "list",data:= .seq vs.toArray }∧dQ vs ns∧ns.length≤n:=by
 have hsh:WShape.hasAll [] args [.list .int]=true:=(pre_splitW hpre).1;have hc:l.pre.holds [] { args:=args }=true:=(pre_splitW hpre).2;obtain⟨d,r,rfl,h1,h2⟩:=hasAllW_cons hsh;obtain rfl:=hasAllW_nil h2;obtain⟨xs,rfl,h3⟩:=hasW_list h1;obtain⟨ns,rfl⟩:=items_int h3;have hlen:ns.length≤n:=by
  unfold OpenLaw.pre at hc;have h4:(WTm.not (.lt (.lit (.int (n:Int))) (.len (.arg 0)))).holds [] { args:=[.list (ns.map .int)] }=true:=by
   have h4:=(holds_andW hc).1;rw[hn]at h4;exact h4
  have h5:=condW_of h4 (w_not (w_lt w_lit (w_len_list (w_arg rfl))));rw[ap]at h5;refine jN λq=>?_;have q':(n:Int)<((ns.length:Nat):Int):=by omega
  first
   | (rw[decide_eq_true q']at h5;exact absurd h5 (by decide))
   | (simp at h5;omega)
 cases hwl with
 |cons w1 w2=>
  cases w2;cases w1 with
  |list ho hall=>exact⟨_,_,ns,rfl,rfl,ho,zfR ns _ hall,hlen⟩
theorem zqo (l:OpenLaw) (args:List WData):l.row.toRowW.claim.post args (.bool true) args=true:=
 postW_of (r:=l.row.toRowW) (X:=(true == true))
  (show WShape.has [] (.bool true) .bool=true by first |rfl |decide |simp [WShape.has,WShape.arms,WShape.armsAll])
  (show(WTm.eq .res (.lit (.bool true))).value [] { args:=args,res:=ae (.bool true),after:=args }=ae (.bool (true == true)) from w_eq_bool (w_res rfl) w_lit) rfl
theorem attach_call{l:OpenLaw}{n:Nat}{q:aE}{loose:List Str}{XP:(Str→Option Value)→Heap→Prop}{YP:az→Heap→Prop}{d:DefRec}
  (hn:l.most=ae n) (hdf:d.params.defaults=[])
  (call:∀(w:az) (s₀ s₁:ag) (mg mb:Str→Option Value) (fa:Addr) (o:Obj) (pm cd doc:Value) (a:Addr) (vs:List Value) (ns:List Int),
   Ground q loose [] XP w s₀ mg mb s₁.heap→YP w s₁.heap→
   s₁.heap.get? fa=ae o→o.data= .func (docDef d.name d.params d.body d.scope pm cd doc)→s₁.heap.CodeRec cd d.name→mg d.name=ae (.ref fa)→
   s₁.heap.get? a=ae { cls:= .type "list",data:= .seq vs.toArray }→dQ vs ns→ns.length≤n→s₁.gens= #[]→
   dC (ao l.prog w) dA (.call (.ref fa) ⟨[.ref a],[]⟩) (λr s'=>r= .ok (.ret (.bool true))∧OldK s₁.heap s'.heap∧s'.os=s₁.os∧b_ s'.gens) s₁) :
  WalkO q loose XP YP l.row.toRowW d [] (λf vs=>il f vs):=by
 intro w s₀ s₁ mg mb G Y fa o pm cd doc dV kV ho hd hcd hD hmg hg args vals as hpre hlay hrd hwl hlo;obtain rfl:dV= .none:=Dflts.none hD hdf;obtain rfl:kV= .none:=Dflts.noKw hD;obtain⟨a,vs,ns,rfl,rfl,hobj,hints,hlen⟩:=zog hn hpre hwl;refine enter_call (iq (call w s₀ s₁ mg mb fa o pm cd doc a vs ns G Y ho (fd_plain hd) hcd hmg hobj hints hlen hg) λr s' hq=>?_);obtain⟨rfl,h2,h3,h4⟩:=hq;exact⟨.inl ⟨.bool true, .bool true,[],rfl,λ_=>rfl, .bool true,zqo l _,λ_=>⟨List.Pairwise.nil,λ_ hm=>(nomatch hm)⟩⟩,h2,h3,h4⟩
end Att
namespace L2
open PySem PySem.Spec PyProof.Rows
theorem zjd:∀{vs:List Value}{ns:List Int},dQ vs ns→Vals (ns.map V.int) vs
 |_,_, .nil=> .nil
 |_,_, .cons n t h=> .cons ⟨t,rfl⟩ (zjd h)
def zyk (H:Hp):Prop:=∀b,H b=none∨ ∃o xs,H b=ae (.frz o (.lst xs))
theorem zqO{P:aE}{w:az}{K:ah}{mg mb:Str→Option Value}{CX:CXT}{k:Nat}{fa a:Addr}{fd:bH}{x:Str}{sp:Sp}{s₁:ag}{vs:List Value}{ns:List Int}
  (KX:K.In s₁.heap) (hns:s₁.heap.Ns aL mg) (hb:s₁.heap.Ns ig mb) (hbb:∀x:Str,x≠ "__name__" →mb x=bS x) (hlim:s₁.heap.NoLimit) (hg:s₁.gens= #[])
  (ha:s₁.heap.get? a=ae { cls:= .type "list",data:= .seq vs.toArray }) (hi:dQ vs ns) (hl:ns.length≤sizeLine) (hr:Room k dA)
  (F:∀base:Heap,K.In base→base.Ns aL mg→FnOk P w K mg base CX k fa fd [x] sp) (hbind:∀(s:ag) (u:Value),d_ s fd ⟨[u],[]⟩ [(x,u)])
  (hsp:∀H:Hp,zyk H→SqL K H a (ns.map V.int)→sp [.ref a] H (λv _=>v= .bl true) λ_ _ _=>False)
  (hCX:∀H e s',CX [] H s₁ (λ_ _ _=>False) e s'→False) :
  dC (ao P w) dA (.call (.ref fa) ⟨[.ref a],[]⟩) (λr s'=>r= .ok (.ret (.bool true))∧OldK s₁.heap s'.heap∧s'.os=s₁.os∧b_ s'.gens) s₁:=by
 have rv:=zjd hi;have lenV:=hi.length;have core:∀H:Hp,zyk H→SqL K H a (ns.map V.int)→HOk P w H s₁.heap→(∀b,H b≠none→b=a)→(H a≠none→K.lookup a=none)→
   dC (ao P w) dA (.call (.ref fa) ⟨[.ref a],[]⟩) (λr s'=>r= .ok (.ret (.bool true))∧OldK s₁.heap s'.heap∧s'.os=s₁.os∧b_ s'.gens) s₁:=by
  intro H hO hS hok hA hK;have base_of:∀{b:Addr}{o:Obj},s₁.heap.get? b=ae o→H b=none→(zqU s₁.heap H).get? b=ae o:=λe n=>zse e n;have noA:∀{b:Addr}{o:Obj}{es:Array DictEntry}{ep:Nat},s₁.heap.get? b=ae o→o.data= .dict es ep→H b=none:=λ{b o es ep} e d=>by
   cases q:H b with
   |none=>rfl
   |some u=>
    have e':b=a:=hA b (by rw[q];simp);subst e';rw[ha]at e;cases e;have d':Data.seq vs.toArray _=Data.dict es ep:=d;cases d'
  have nsK:∀{b:Addr}{m:Str→Option Value},s₁.heap.Ns b m→(zqU s₁.heap H).Ns b m:=λ{b m} ⟨o,es,ep,e,d,r⟩=>⟨o,es,ep,base_of e (noA e d),d,r⟩;have hKb:K.In (zqU s₁.heap H):=λb o e=>base_of (KX b o e) (by
   cases q:H b with
   |none=>rfl
   |some u=>
    have e':b=a:=hA b (by rw[q];simp);subst e';rw[hK (by rw[q];simp)]at e;cases e)
  have hM:Mod K mg (zqU s₁.heap H):=⟨hKb,nsK hns,⟨mb,nsK hb,hbb⟩,let ⟨mc,h1,h2⟩:=hlim;⟨mc,nsK h1,h2⟩⟩;have e0:Env0 P w K mg (zqU s₁.heap H) dA [] s₁ H:=⟨rfl,hM,λb o e=>ztx e,eP (zqf _ _),trivial,λb hb=>absurd (show b∈([]:List Addr) from hb) (by simp),hok, .of_eq hg⟩;refine iq ((F _ hKb (nsK hns)).run dA [] s₁ H ⟨[.ref a],[]⟩ [.ref a] [.ref a] _ _ hr e0 (hbind s₁ (.ref a)) (.cons rfl .nil) (hsp H hO hS)) λr s' h=>?_;cases r with
  |error e=>exact(hCX H e s' h).elim
  |ok fl=>
   cases fl with
   |next=>exact cA h
   |brk=>exact cA h
   |cont=>exact cA h
   |ret u=>
    obtain⟨v,H',os,bare,un,hok',r',q⟩:=h;have q':v= .bl true:=q;subst q';obtain rfl:u=dW true:=r';refine⟨rfl,OldK.of_keep λb o e=>?_,os,bare⟩;cases q:H b with
    |none=>exact un.keep b o e q (by intro z;exact absurd (show b∈([]:List Addr) from z) (by simp)) (by simp)
    |some u=>
     rcases hO b with z |⟨ob,xs,z⟩
     ·rw[q]at z;cases z
     ·have z2:=un.frzs b ob _ z;obtain⟨e1,_⟩:=hok b _ z;obtain⟨e2,_⟩:=hok' b _ z2;rw[e]at e1;cases e1;exact e2
 cases hk:K.lookup a with
 |some o=>
  have e:=KX a o hk;rw[ha]at e;cases e;refine core (λ_=>none) (λ_=> .inl rfl) (.inr ⟨_,vs.toArray,_,hk,rfl,rfl,rfl,by rw[aQ,lenV];exact hl,by simpa using rv⟩) (λb u z=>by have z':(none:Option HO)=ae u:=z;cases z') (λb z=>absurd rfl z) λz=>absurd rfl z
 |none=>
  refine core (λb=>if b=a then ae (.frz { cls:= .type "list",data:= .seq vs.toArray } (.lst (ns.map V.int))) else none) (λb=>?_) (.inl (.inr ⟨{ cls:= .type "list",data:= .seq vs.toArray },if_pos rfl⟩)) (λb u z=>?_) (λb z=>?_) λ_=>hk
  ·by_cases hb:b=a
   ·exact .inr ⟨_,_,if_pos hb⟩
   ·exact .inl (if_neg hb)
  ·by_cases hb:b=a
   ·have z':=(if_pos hb).symm.trans z;cases z';subst hb;exact⟨ha,by rw[ap];exact hl,vs,_,rv,ha⟩
   ·have z':=(if_neg hb).symm.trans z;cases z'
  ·by_cases hb:b=a
   ·exact hb
   ·exact absurd (if_neg hb) z
theorem zts{l:ij}{n k:Nat}{q:aE}{loose:List Str}{XP:(Str→Option Value)→Heap→Prop}{YP:az→Heap→Prop}{d:DefRec}{K:fZ→ah}{CX:az→CXT}{sp:az→Sp}{x:Str}
  (hn:l.most=ae n) (hn2:n≤sizeLine) (hdf:d.params.defaults=[]) (hr:Room k dA)
  (hY:∀(w:az) (h:Heap),YP w h→(K w.params).In h)
  (F:∀(w:az) (mg:Str→Option Value) (fa:Addr) (h:Heap),(K w.params).In h→h.Ns aL mg→mg d.name=ae (.ref fa)→
   ∃fd:bH,(∀(s:ag) (u:Value),d_ s fd ⟨[u],[]⟩ [(x,u)])∧
    ∀base:Heap,(K w.params).In base→base.Ns aL mg→FnOk l.prog w (K w.params) mg base (CX w) k fa fd [x] (sp w))
  (hsp:∀(w:az) (H:Hp) (a:Addr) (ns:List Int),ns.length≤n→zyk H→SqL (K w.params) H a (ns.map V.int)→sp w [.ref a] H (λv _=>v= .bl true) λ_ _ _=>False)
  (hCX:∀(w:az) (H:Hp) (s:ag) (e:Value) (s':ag),CX w [] H s (λ_ _ _=>False) e s'→False) :
  iw q loose XP YP l.row.toRowW d [] (λf vs=>il f vs):=by
 refine Att.attach_call hn hdf λw s₀ s₁ mg mb fa o pm cd doc a vs ns G Y ho hd hcd hmg hobj hints hlen hg=>?_;have KX:=hY w _ Y;obtain⟨fd,hb,hF⟩:=F w mg fa _ KX G.T.g hmg;exact zqO KX G.T.g G.T.b G.T.builtins G.T.nolimit hg hobj hints (bC hlen hn2) hr hF hb (λH hO hS=>hsp w H a ns hlen hO hS) λH e s'=>hCX w H s₁ e s'
noncomputable def zgo (s:Stmt):Arguments:=match s with
 | .FunctionDef _ a _ _ _ _ _ _ _ _=>a
 |_=>{ posonlyargs:=[],args:=[],vararg:=none,kwonlyargs:=[],kw_defaults:=[],kwarg:=none,defaults:=[] }
noncomputable def zeY (s:Stmt):List Stmt:=match s with
 | .FunctionDef _ _ b _ _ _ _ _ _ _=>b
 |_=>[]
noncomputable def zaj (s:Stmt):Scope:=match s with
 | .FunctionDef _ _ _ _ _ _ sc _ _ _=>sc
 |_=>{ kind:= .function,names:=[],isGenerator:=false,isCoroutine:=false }
noncomputable abbrev E0:XK:=λ_ _ _=>False
structure Fun (K:ah) (x qual:Str) (st:Stmt) (f:Addr) (fd:bH):Prop where
  ex:∃(oc:Value) (od:Option Addr) (kV doc pm:Value) (an:Option Addr) (cdv ct:Value) (osl:Array (Option Value)),
    fd=dt x qual (zgo st) (zeY st) (zaj st) .none kV doc pm an cdv ct∧K.lookup f=ae ⟨oc,od, .func fd,osl⟩∧gd K cdv qual=true
  kp:e_ K (.ref f)=true
section
variable {K:ah}
theorem Fun.binds{x qual:Str}{st:Stmt}{f:Addr}{fd:bH}{ps:List Str}(F:Fun K x qual st f fd)
  (h:∀(kV doc pm:Value) (an:Option Addr) (cdv ct:Value) (us:List Value),us.length=ps.length→bindArgs (dt x qual (zgo st) (zeY st) (zaj st) .none kV doc pm an cdv ct) ⟨us,[]⟩=pure (ps.zip us)):Binds K fd ps []:=by
 obtain⟨oc,od,kV,doc,pm,an,cdv,ct,osl,rfl,lk,hcd⟩:=F.ex;exact .all (h kV doc pm an cdv ct)
theorem zwj{x qual:Str}{st:Stmt}{f:Addr}{oc:Value}{od an:Option Addr}{osl:Array (Option Value)}{kV doc pm cdv ct:Value}(l:K.lookup f=ae ⟨oc,od, .func (dt x qual (zgo st) (zeY st) (zaj st) .none kV doc pm an cdv ct),osl⟩)
  (c:gd K cdv qual=true) (k:e_ K (.ref f)=true):Fun K x qual st f (dt x qual (zgo st) (zeY st) (zaj st) .none kV doc pm an cdv ct):=⟨⟨oc,od,kV,doc,pm,an,cdv,ct,osl,rfl,l,c⟩,k⟩
end
theorem zAD{A B:Prop}(h:B):if false=true then A else B:=by
 rw[if_neg cR];exact h
theorem zAN{A B:Prop}(h:A):if true=true then A else B:=by
 rw[if_pos rfl];exact h
def Same (H H':Hp):Prop:=∀b o,H b=ae o→H' b=ae o
theorem Same.trans{H H1 H2:Hp}(a:Same H H1) (b:Same H1 H2):Same H H2:=λc o h=>b c o (a c o h)
section
variable {κ:Type} [DecidableEq κ]
noncomputable def zlS (kvs:List (κ×V)) (k:κ):Option V:=(kvs.find? λkv=>decide (kv.1=k)).map (·.2)
noncomputable def znY (kvs:List (κ×V)) (k:κ) (v:V):List (κ×V):=
 if(kvs.any λkv=>decide (kv.1=k))=true then kvs.map (λkv=>if kv.1=k then(kv.1,v) else kv) else kvs++[(k,v)]
theorem zfI{p:κ×V}{r:List (κ×V)}{k:κ}(e:p.1=k):zlS (p::r) k=ae p.2:=by simp [zlS,b7,e]
theorem zfF{p:κ×V}{r:List (κ×V)}{k:κ}(e:¬p.1=k):zlS (p::r) k=zlS r k:=by simp [zlS,b7,e]
theorem zlt (k:κ):∀kvs:List (κ×V),(kvs.any λkv=>decide (kv.1=k))=(zlS kvs k).isSome
 | []=>rfl
 |p::r=>by
  rw[eD];by_cases e:p.1=k
  ·simp only[zfI e,decide_eq_true e,Bool.true_or,Option.isSome_some]
  ·rw[zfF e,decide_eq_false e,j3];exact zlt k r
theorem zkH (kvs:List (κ×V)) (k:κ) (v:V):(znY kvs k v).length≤kvs.length+1:=by
 unfold znY;split
 ·rw[ap];omega
 ·rw[aZ,aW,du];omega
theorem RelO.isSome_eq{o:Option V}{u:Option Value}(r:RelO o u):o.isSome=u.isSome:=by
 cases o with
 |none=>cases u with
  |none=>rfl
  |some _=>exact(show False from r).elim
 |some _=>cases u with
  |none=>exact(show False from r).elim
  |some _=>rfl
theorem RelO.getD{o:Option V}{u:Option Value}{d:V}{d':Value}(r:RelO o u) (rd:RelV d d'):RelV (o.getD d) (u.getD d'):=by
 cases o with
 |none=>cases u with
  |none=>exact rd
  |some _=>exact(show False from r).elim
 |some _=>cases u with
  |none=>exact(show False from r).elim
  |some _=>exact r
theorem KV.val{kvs:List (κ×V)}{vs:List (κ×Value)}(r:KV kvs vs) (k:κ):RelO (zlS kvs k) (er vs k):=by
 unfold KV at r
 induction r with
 |nil=>exact dn
 | @cons p q ps qs h t ih=>
  obtain⟨h1,h2⟩:=h;by_cases e:p.1=k
  ·have e':q.1=k:=h1.symm.trans e;have b:er (q::qs) k=ae q.2:=by simp [er,b7,e']
   rw[zfI e,b];exact h2
  ·have e':¬q.1=k:=λz=>e (h1.trans z);have b:er (q::qs) k=er qs k:=by simp [er,b7,e']
   rw[zfF e,b];exact ih
theorem KV.length{kvs:List (κ×V)}{vs:List (κ×Value)}(r:KV kvs vs):kvs.length=vs.length:=eK r
end
theorem zwU{P:aE}{w:az}{k:Key}{u:Value}(r:RelV (kV k) u):(zbv P w).is k u=true:=by
 cases k with
 |inl i=>obtain⟨t,e⟩:=(show ∃t,u=fL i t from r);subst e;exact zjY P w i t
 |inr x=>obtain⟨t,e⟩:=(show ∃t,u=fg x t from r);subst e;exact zka P w x t
theorem zjx{P:aE}{w:az}:∀{ks:List Key}{us:List Value},Vals (ks.map kV) us→ItemsAre (zbv P w) ks us
 | [],_,r=>by rw[cu]at r;cases r;exact .nil
 |k::ks,_,r=>by
  rw[aB]at r;cases r with
  |cons h t=>exact .cons (zwU h) (zjx t)
noncomputable abbrev KT (H:Hp):List (List Key×V)→List (List Key×Addr×Value)→Prop:=bN λp q=>p.1=q.1∧H q.2.1=ae (.tup (p.1.map kV))∧RelV p.2 q.2.2
theorem KT.val{H:Hp}{kvs:List (List Key×V)}{xs:List (List Key×Addr×Value)}(r:KT H kvs xs) (k:List Key):RelO (zlS kvs k) ((cU xs k).map (·.2)):=by
 induction r with
 |nil=>exact dn
 | @cons p q ps qs h t ih=>
  obtain⟨h1,_,h2⟩:=h;by_cases e:p.1=k
  ·have e':q.1=k:=h1.symm.trans e;have b:cU (q::qs) k=ae q.2:=by simp [cU,b7,e']
   rw[zfI e,b];exact h2
  ·have e':¬q.1=k:=λz=>e (h1.trans z);have b:cU (q::qs) k=cU qs k:=by simp [cU,b7,e']
   rw[zfF e,b];exact ih
theorem KT.repl{H:Hp}{kvs:List (List Key×V)}{xs:List (List Key×Addr×Value)}(r:KT H kvs xs) (k:List Key) {y:V}{u:Value}(ry:RelV y u) :
  KT H (kvs.map λkv=>if kv.1=k then(kv.1,y) else kv) (xs.map (putAt k u)):=by
 induction r with
 |nil=>exact .nil
 | @cons p q ps qs h t ih=>
  rw[aB,aB];refine .cons ?_ ih;obtain⟨h1,h2,h3⟩:=h;unfold putAt;by_cases e:p.1=k
  ·rw[if_pos e,if_pos (h1.symm.trans e)];exact⟨h1,h2,ry⟩
  ·rw[if_neg e,if_neg (λz=>e (h1.trans z))];exact⟨h1,h2,h3⟩
theorem KT.put{H:Hp}{kvs:List (List Key×V)}{xs:List (List Key×Addr×Value)}(r:KT H kvs xs) (k:List Key) {b:Addr}{y:V}{u:Value}(hb:H b=ae (.tup (k.map kV))) (ry:RelV y u) :
  KT H (znY kvs k y) (eS xs k b u):=by
 have e:(kvs.any λkv=>decide (kv.1=k))=(cU xs k).isSome:=by
  rw[zlt,(r.val k).isSome_eq,gN]
 unfold znY eS;rw[e];by_cases q:(cU xs k).isSome=true
 ·rw[if_pos q,if_pos q];exact r.repl k ry
 ·rw[if_neg q,if_neg q];exact bN.snoc r ⟨rfl,hb,ry⟩
theorem KT.keeps{H H':Hp}{kvs:List (List Key×V)}{xs:List (List Key×Addr×Value)}(r:KT H kvs xs) (ht:∀b ys,H b=ae (.tup ys)→H' b=ae (.tup ys)):KT H' kvs xs:=
 Paired.mapP r λ_ _ z=>⟨z.1,ht _ _ z.2.1,z.2.2⟩
section
variable {P:aE}{w:az}{H:Hp}{h:Heap}{a:Addr}
theorem zwX{u:HO}(ok:HOk P w H h) (e:Rd H a u):ObjOk P w H h a u:=e.ok ok
theorem zyM{kvs:List (Key×V)}(ok:HOk P w H h) (e:Rd H a (.dK kvs)):kvs.length≤sizeLine∧(a == d7)=false∧ ∃vs,KV kvs vs∧h.DictOf (zbv P w) a vs:=
 show ObjOk P w H h a (.dK kvs) from zwX ok e
theorem zpg{ks:List Key}(ok:HOk P w H h) (e:H a=ae (.tup (ks.map kV))):(cj (zbv P w)).is h ks a:=by
 obtain⟨_,its,r,o,h1,h2,n,h3⟩:=(show ObjOk P w H h a (.tup (ks.map kV)) from ok a _ e);exact⟨o,its.toArray,n,h1,h2,h3,by simpa using zjx r⟩
theorem zzj{kvs:List (List Key×V)}(ok:HOk P w H h) (e:Rd H a (.dT kvs)):kvs.length≤sizeLine∧(a == d7)=false∧
  ∃xs,KT H kvs xs∧h.DictOfH (cj (zbv P w)) a xs:=by
 obtain⟨z,y,xs,r,o,es,ep,h1,h2,h3,h4,h5⟩:=(show ObjOk P w H h a (.dT kvs) from zwX ok e);refine⟨z,y,xs,r,o,es,ep,h1,h2,h3,h4,λx hx=>?_,h5⟩;have all:∀{l:List (List Key×V)}{m:List (List Key×Addr×Value)},KT H l m→ ∀x∈m,(cj (zbv P w)).is h x.1 x.2.1:=by
  intro l m q
  induction q with
  |nil=>intro x hx;exact nomatch hx
  | @cons p q ps qs hq t ih=>
   intro x hx;rcases ax.mp hx with e |hx
   ·subst e;exact zpg ok (by rw[←hq.1];exact hq.2.1)
   ·exact ih x hx
 exact all r x hx
end
def DGet (H:Hp) (a:Addr) (y:V) (r:Option V):Prop:=
 (∃kvs k,Rd H a (.dK kvs)∧y=kV k∧r=zlS kvs k)∨ ∃kvs k b,Rd H a (.dT kvs)∧y= .ref b∧H b=ae (.tup (k.map kV))∧r=zlS kvs k
theorem DGet.t{H:Hp}{a b:Addr}{kvs:List (List Key×V)}{k:List Key}(e:H a=ae (.dT kvs)) (eb:H b=ae (.tup (k.map kV))):DGet H a (.ref b) (zlS kvs k):= .inr ⟨kvs,k,b, .inl e,rfl,eb,rfl⟩
section
variable {X:Cx}{pins:List (Addr×Obj)}{σ:St}{H:Hp}{s:ag}{a:Addr}{y:V}{u:Value}{o:Option V}{A:aP}{E:Value→ag→Prop}
theorem Inv.big (I:Inv X pins σ H s):d7<s.heap.objs.size:=by
 have h:aL<s.heap.objs.size:=(I.mod.glob.keeps I.bk).lt;exact Nat.lt_trans (by decide) h
theorem zAd{Q:Value→ag→Prop}(hu:A.units+1<cLine) (I:Inv X pins σ H s) (g:DGet H a y o) (ry:RelV y u) (h:∀s',Inv X pins σ H s'→Q (.bool o.isSome) s') :
  aj (ao X.prog X.w) A (bf .In u (.ref a)) Q E s:=by
 rcases g with⟨kvs,k,e,ey,l⟩ |⟨kvs,k,b,e,ey,eb,l⟩
 ·subst ey;obtain⟨z,hd,vs,rel,dd⟩:=zyM I.hok e;refine wpAny_in_of (zwU ry) hd dd.mapOf ?_;rw[←(rel.val k).isSome_eq,←l];exact h _ (I.tok _)
 ·subst ey;cases(show u=bz b from ry);obtain⟨z,hd,xs,rel,dd⟩:=zzj I.hok e;refine wpAny_in_heap (i5 hu) (zpg I.hok eb) hd dd ?_;have q:=(rel.val k).isSome_eq;rw[gN]at q;rw[←q,←l];exact h _ (I.tok _)
end
end L2
namespace Att
open PySem PySem.W PySem.Calls PyProof.Rows
end Att
namespace L2
open PySem PySem.Spec PyProof.Rows
section
variable {prog:aE}{w:az}{A:aP}{R:Result→ag→Prop}{s:ag}
theorem zjo{elt target iter:Expr}{ifs:List Expr}{scope:Scope}{pos:aA}{it acc:Value}{env:bB}(I:Nat→ag→Prop)
  (turn:∀n s,I n s→aj (ao prog w) A (b4 it) (λr s₁=>match r with
   |none=>R (.ok .next) s₁
   |some v=>aj (ao prog w) A (fY target it v) (λ_ s₀=>aj (ao prog w) A (assign target env v) (λ_ s₂=>
     aj (ao prog w) A (forIn ifs true λc r=>if r=true then do let ok ←isTrue c env (aq c env);pure (ef ok) else pure (ef r)) (λok s₃=>
      if ok=true then aj (ao prog w) A (aq elt env) (λx s₄=>
       aj (ao prog w) A (call (.builtin "list.append") [acc,x]) (λ_ s₅=>∃m,m<n∧I m s₅) (λ_ _=>False) s₄) (λ_ _=>False) s₃
      else ∃m,m<n∧I m s₃) (λ_ _=>False) s₂) (λ_ _=>False) s₀) (λ_ _=>False) s₁) (λ_ _=>False) s)
  (n:Nat) (h:I n s) :
  dC (ao prog w) A (.compLoop (.ListComp elt [⟨target,iter,ifs,0⟩] scope pos) 0 it acc env) R s:=by
 refine codeAny_loop rfl I (λn s hI=>?_) n h;show aj _ A ((compTurn (.ListComp elt [⟨target,iter,ifs,0⟩] scope pos) 0 it acc env).onRaise (λx=>do noteFrame x env;theTreesLotGoes x)) _ _ s;refine wpAny_noted ?_;rw[compTurn_list];refine ai (wpAny_standAt (ai (ck (turn n s hI) (λr s₁ h₁=>?_) λ_ _ h'=>h'.elim)));cases r with
 |none=>exact aD h₁
 |some v=>
  refine ai (ck h₁ (λ_ s₀ h₀=>?_) λ_ _ h'=>h'.elim);refine ai (ck h₀ (λ_ s₂ h₂=>ai (ck h₂ (λok s₃ h₃=>?_) λ_ _ h'=>h'.elim)) λ_ _ h'=>h'.elim);cases ok with
  |false=>exact aD ⟨rfl,h₃⟩
  |true=>
   exact ai (ai (ck h₃ (λx s₄ h₄=>ai (ck h₄ (λ_ s₅ h₅=>aD (aD ⟨rfl,h₅⟩)) λ_ _ h'=>h'.elim)) λ_ _ h'=>h'.elim))
end
noncomputable def zgx (cells:List (Str×Addr)):List (Str×bQ)→List (Str×Addr)→List (Str×Addr)
 | [],acc=>acc
 | (n,k)::r,acc=>if(k == aT)=true then zgx cells r ((n,(cells.lookup n).getD 0)::acc) else zgx cells r acc
theorem znj{scope:Scope}{env:bB}(h:∀y∈scope.names,y.2= .free→ ∃c,env.cells.lookup y.1=ae c) :
  closureFor scope env=pure (zgx env.cells scope.names []):=by
 have go:∀(l:List (Str×bQ)) (acc:List (Str×Addr)),(∀y∈l,y.2= .free→ ∃c,env.cells.lookup y.1=ae c)→
   (forIn l acc λ(x:Str×bQ) (cs:List (Str×Addr))=>(if(x.2 == aT)=true then(do let a ←cellOf env x.1;pure (ef ((x.1,a)::cs))) else pure (ef cs):bY (ForInStep (List (Str×Addr)))))=(pure (zgx env.cells l acc):bY (List (Str×Addr))):=by
  intro l
  induction l with
  |nil=>intro acc _;rfl
  |cons x l ih=>
   intro acc hl;obtain⟨n,k⟩:=x;have hr:=λy hy=>hl y (aC _ hy);rw[io];by_cases hk:k= .free
   ·subst hk;obtain⟨c,hc⟩:=hl (n, .free) aK rfl;have hc':env.cells.lookup n=ae c:=hc;have e:cellOf env n=pure c:=by unfold cellOf;rw[hc']
    have e2:zgx env.cells ((n,aT)::l) acc=zgx env.cells l ((n,c)::acc):=by
     show(if(aT == aT)=true then zgx env.cells l ((n,(env.cells.lookup n).getD 0)::acc) else zgx env.cells l acc)=_;rw[if_pos (by rfl),hc'];rfl
    dsimp only;rw[if_pos (by rfl),e,fH,fH,e2];exact ih _ hr
   ·have hb:¬(k == aT)=true:=by simpa using hk
    have e2:zgx env.cells ((n,k)::l) acc=zgx env.cells l acc:=by
     show(if(k == aT)=true then zgx env.cells l ((n,(env.cells.lookup n).getD 0)::acc) else zgx env.cells l acc)=_;rw[if_neg hb]
    dsimp only;rw[if_neg hb,fH,e2];exact ih _ hr
 have q:=go scope.names [] h;unfold closureFor
 first
  |exact(bind_pure _).trans q
  | (simp only[bind_pure];exact q)
  | (simp only[fH,bind_assoc,bind_pure];exact q)
theorem zhm{cells:List (Str×Addr)}{x:Str}{c:Addr}:∀(l:List (Str×bQ)) (acc:List (Str×Addr)),(∀y∈l,y.2= .free→ ∃c,cells.lookup y.1=ae c)→
  (zgx cells l acc).lookup x=ae c→acc.lookup x=ae c∨cells.lookup x=ae c
 | [],acc,_,h=> .inl h
 | (n,k)::r,acc,hl,h=>by
  have hr:=λy hy=>hl y (aC (n,k) hy);by_cases hk:k= .free
  ·subst hk;have h':(zgx cells r ((n,(cells.lookup n).getD 0)::acc)).lookup x=ae c:=h;rcases zhm r _ hr h' with q |q
   ·rw[cb]at q;cases e:x == n with
    |true=>
     rw[e]at q;obtain⟨d,hd⟩:=hl (n, .free) aK rfl;have hd':cells.lookup n=ae d:=hd;have e1:x=n:=fj e;rw[hd']at q;have q':d=c:=aI q;exact .inr (by rw[e1,hd',q'])
    |false=>
     rw[e]at q;exact .inl q
   ·exact .inr q
  ·have hb:¬(k == aT)=true:=by simpa using hk
   have h':(if(k == aT)=true then zgx cells r ((n,(cells.lookup n).getD 0)::acc) else zgx cells r acc).lookup x=ae c:=h;rw[if_neg hb]at h';exact zhm r acc hr h'
theorem zfD{cells:List (Str×Addr)}{x:Str}:∀(l:List (Str×bQ)) (acc:List (Str×Addr)),((x,aT)∈l∨ ∃c,acc.lookup x=ae c)→ ∃c,(zgx cells l acc).lookup x=ae c
 | [],acc,h=>by
  rcases h with h |h
  ·cases h
  ·exact h
 | (n,k)::r,acc,h=>by
  by_cases hk:k= .free
  ·subst hk;refine zfD r ((n,(cells.lookup n).getD 0)::acc) ?_;cases e:x == n with
   |true=>exact .inr ⟨_,by rw[cb,e]⟩
   |false=>
    rcases h with h |⟨c,h⟩
    ·rcases ax.mp h with q |q
     ·have:x=n:=congrArg Prod.fst q;rw[this]at e;simp at e
     ·exact .inl q
    ·exact .inr ⟨c,by rw[cb,e];exact h⟩
  ·have hb:¬(k == aT)=true:=by simpa using hk
   show ∃c,(if(k == aT)=true then zgx cells r ((n,(cells.lookup n).getD 0)::acc) else zgx cells r acc).lookup x=ae c;rw[if_neg hb];refine zfD r acc ?_;rcases h with h |h
   ·rcases ax.mp h with q |q
    ·exact absurd (congrArg gU q).symm hk
    ·exact .inl q
   ·exact .inr h
theorem zdd{env:bB}{x:Str}{k:bQ}:∀{names:List (Str×bQ)},(∀y∈names,y.2≠ .cell)→
  (names.map λ(n,k)=>if(k == aT&&env.scope.kind == .function&&env.kindOf n == ae .cell) then(n,cx) else(n,k)).lookup x=ae k→(k= .cell∨k= .free)→(x,aT)∈names
 | [],_,h,_=>by simp at h
 | (n,j)::r,hc,h,hk=>by
  have h':gI x ((if(j == aT&&env.scope.kind == .function&&env.kindOf n == ae .cell)=true then(n,cx) else(n,j)) ::
   (r.map λ(n,k)=>if(k == aT&&env.scope.kind == .function&&env.kindOf n == ae .cell) then(n,cx) else(n,k)))=ae k:=h
  have hr:=λy hy=>hc y (aC (n,j) hy);have hj:j≠ .cell:=hc (n,j) aK;cases e:x == n with
  |true=>
   have e1:x=n:=fj e;subst e1;by_cases c:(j == aT&&env.scope.kind == .function&&env.kindOf x == ae .cell)=true
   ·have c1:(j == aT)=true:=by
     cases q:(j == aT) with
     |true=>rfl
     |false=>rw[q]at c;simp at c
    have c2:j= .free:=by simpa using c1
    rw[c2];exact aK
   ·rw[if_neg c]at h';simp only[cb,beq_self_eq_true]at h';have h2:j=k:=aI h';rcases hk with z |z
    ·exact absurd (h2.trans z) hj
    ·rw[h2,z];exact aK
  |false=>
   by_cases c:(j == aT&&env.scope.kind == .function&&env.kindOf n == ae .cell)=true
   ·rw[if_pos c]at h';simp only[cb,e]at h';exact aC _ (zdd hr h' hk)
   ·rw[if_neg c]at h';simp only[cb,e]at h';exact aC _ (zdd hr h' hk)
theorem zdK{env:bB}{x:Str}:∀{names:List (Str×bQ)},names.lookup x=ae .free→
  (names.map λ(n,k)=>if(k == aT&&env.scope.kind == .function&&env.kindOf n == ae .cell) then(n,cx) else(n,k)).lookup x=ae .cell∨
  (names.map λ(n,k)=>if(k == aT&&env.scope.kind == .function&&env.kindOf n == ae .cell) then(n,cx) else(n,k)).lookup x=ae .free
 | [],h=>by simp at h
 | (n,j)::r,h=>by
  show gI x ((if(j == aT&&env.scope.kind == .function&&env.kindOf n == ae .cell)=true then(n,cx) else(n,j)) ::
   (r.map λ(n,k)=>if(k == aT&&env.scope.kind == .function&&env.kindOf n == ae .cell) then(n,cx) else(n,k)))=_∨
   gI x ((if(j == aT&&env.scope.kind == .function&&env.kindOf n == ae .cell)=true then(n,cx) else(n,j)) ::
   (r.map λ(n,k)=>if(k == aT&&env.scope.kind == .function&&env.kindOf n == ae .cell) then(n,cx) else(n,k)))=_
  cases e:x == n with
  |true=>
   simp only[cb,e]at h;have h2:j= .free:=aI h;subst h2;by_cases c:(aT == aT&&env.scope.kind == .function&&env.kindOf n == ae .cell)=true
   ·rw[if_pos c];simp only[cb,e];exact .inl trivial
   ·rw[if_neg c];simp only[cb,e];exact .inr trivial
  |false=>
   simp only[cb,e]at h;by_cases c:(j == aT&&env.scope.kind == .function&&env.kindOf n == ae .cell)=true
   ·rw[if_pos c];simp only[cb,e];exact zdK h
   ·rw[if_neg c];simp only[cb,e];exact zdK h
noncomputable def zbx (X:Cx) (scope:Scope) (N:List Str) (s:ag) (H:Hp) (fp:List Addr) (pins:List (Addr×Obj)):Cx:=
 { X with N:=N,s₀:=s,H₀:=H,env:=compEnvC scope (zgx X.env.cells scope.names []) s.heap.objs.size X.env,outer:=X.stack,stack:=X.stack,ex:=fp,fn:=λ_=>false,pn:=X.pn++pins,xe:=λ_ _=>False }
structure CompSc (X:Cx) (scope:Scope) (N:List Str) (k:Nat) (fr:List Nat):Prop where
  kind:scope.kind= .function
  nd:N.Nodup
  len:N.length=k+fr.length
  cell:(scope.names.all λy=>y.2 != cx)=true
  loc:(scope.names.all λy=>y.2 != bQ.local || scope.names.lookup y.1 == ae bQ.local)=true
  free:(scope.names.all λy=>y.2 != aT || X.env.kindOf y.1 == ae cx || X.env.kindOf y.1 == ae aT)=true
  frs:((N.drop k).all λx=>scope.names.lookup x == ae aT)=true
  pl:N.drop k=fr.map λj=>X.N.getD j gR
  plen:(fr.all λj=>decide (j<X.N.length))=true
noncomputable def zgb (σ:St) (fr:List Nat):St:=fr.map λj=>(σ[j]?).join
noncomputable def zlu (σ:St) (k:Nat) (fr:List Nat):St:=aR k none++zgb σ fr
section
variable {X:Cx}{scope:Scope}{N:List Str}{k:Nat}{fr:List Nat}
theorem CompSc.cell' (S:CompSc X scope N k fr):∀y∈scope.names,y.2≠ .cell:=λy hy=>by
 have q:=cW.mp S.cell y hy;simpa using q
theorem CompSc.loc' (S:CompSc X scope N k fr):∀y∈scope.names,y.2= .local→scope.names.lookup y.1=ae .local:=λy hy e=>by
 have q:=cW.mp S.loc y hy;rw[e]at q;simpa using q
theorem CompSc.kinds (S:CompSc X scope N k fr):∀y∈scope.names,y.2= .free→X.env.kindOf y.1=ae .cell∨X.env.kindOf y.1=ae .free:=λy hy e=>by
 have q:=cW.mp S.free y hy;rw[e]at q;simpa using q
theorem CompSc.hasCell (S:CompSc X scope N k fr) (ok:X.Ok):∀y∈scope.names,y.2= .free→ ∃c,X.env.cells.lookup y.1=ae c:=λy hy e=>ok.has y.1 (S.kinds y hy e)
theorem CompSc.sub (S:CompSc X scope N k fr) (ok:X.Ok) {x:Str}{c:Addr}(h:(zgx X.env.cells scope.names []).lookup x=ae c):X.env.cells.lookup x=ae c:=by
 rcases zhm scope.names [] (S.hasCell ok) h with q |q
 ·simp at q
 ·exact q
end
section
variable {X:Cx}{pins:List (Addr×Obj)}{σ:St}{H:Hp}{s:ag}{scope:Scope}{N:List Str}{k:Nat}{fr:List Nat}{fp:List Addr}
theorem zvn (I:Inv X pins σ H s) (S:CompSc X scope N k fr) (hfp:∀b∈fp,zij X pins H b) (hob:∀b∈fp,∃o,s.heap.get? b=ae o):(zbx X scope N s H fp pins).Ok where
  mod:=I.ok.mod
  kind:=S.kind
  glob:=I.ok.glob
  blt:=I.ok.blt
  above:=au _
  inj:=λx y c h1 h2=>I.ok.inj x y c (S.sub I.ok h1) (S.sub I.ok h2)
  has:=λx hx=>zfD scope.names [] (.inl (by
    rcases hx with hx |hx
    · exact zdd S.cell' hx (.inl rfl)
    · exact zdd S.cell' hx (.inr rfl)))
  cab:=λx c h _=>absurd h (by show ¬(false=true);decide)
  hd:=I.ok.hd
  frames:=I.ok.frames
  stk:= .inl rfl
  exf:=λb hb=>⟨by
    obtain⟨o,e⟩:=hob b hb;exact bt (aF e),λx c h=>(hfp b hb).2.2.2.2.1 x c (S.sub I.ok h)⟩
  bs:=I.bs
  bsz:=bC I.ok.bsz I.sz
  noex:=λb o e hb=>by
    rcases(hfp b hb).2.2.2.1 with z |z
    · exact I.ok.noex b o e z
    · exact absurd (bK (aF (I.ok.bs b o e).1) z) (bZ _)
  exfs:=λb hb z=>by
    rcases ax.mp (I.stkSub b z) with q |q
    · exact(hfp b hb).2.1 q
    · exact(hfp b hb).2.2.1 q
  funs:=I.stack
  frf:=I.stkFree
theorem zuW (I:Inv X pins σ H s) (S:CompSc X scope N k fr) {H':Hp}{b:Addr}(hb:b∈fp) (hf:zij X pins H b) (hob:∃o,s.heap.get? b=ae o) (hn:H' b=none):zij (zbx X scope N s H fp pins) [] H' b:=by
 refine⟨hn,?_,λz=>?_, .inl hb,λx c h=>hf.2.2.2.2.1 x c (S.sub I.ok h),λp hp=>?_⟩
 ·obtain⟨o,e⟩:=hob;exact bt (aF e)
 ·rcases ax.mp (I.stkSub b z) with q |q
  ·exact hf.2.1 q
  ·exact hf.2.2.1 q
 ·rcases bb.mp hp with z |z
  ·exact hf.2.2.2.2.2 p z
  ·cases z
theorem znz{j:Nat}{v:V}(h:(zgb σ fr)[j]? =ae (ae v)):∃i,fr[j]? =ae i∧σ[i]? =ae (ae v):=by
 unfold zgb at h;rw[bo]at h;cases e:fr[j]? with
 |none=>rw[e]at h;cases h
 |some i=>
  rw[e]at h;have h':(σ[i]?).join=ae v:=aI h;refine⟨i,rfl,?_⟩;cases q:σ[i]? with
  |none=>rw[q]at h';cases h'
  |some o=>
   rw[q]at h';have h2:o=ae v:=h';rw[h2]
theorem zrM (I:Inv X pins σ H s) (S:CompSc X scope N k fr) (hfp:∀b∈fp,zij X pins H b) (hob:∀b∈fp,∃o,s.heap.get? b=ae o) {h1:Heap}{tk:Nat}{m:Str→Option Value}
    (hns:h1.Ns s.heap.objs.size m) (hk:∀b o,s.heap.get? b=ae o→h1.get? b=ae o):Inv (zbx X scope N s H fp pins) [] (zlu σ k fr) H { s with heap:=h1,toks:=tk } where
  ok:=zvn I S hfp hob
  os:=rfl
  bare:=I.bare
  base:=Un.kept hk
  loc:=⟨m,hns,λi x v e1 e2 e3=>by
    have e2':(aR k (none:Option V)++zgb σ fr)[i]? =ae (ae v):=e2;have hi:k≤i:=by
      refine jN λz=>?_;rw[gp (by simpa using z),jb]at e2';split at e2'<;>cases e2'
    rw[dy (by simpa using hi),gT]at e2';obtain⟨j,f1,f2⟩:=znz e2';have e1':N[i]? =ae x:=e1;have d1:(N.drop k)[i - k]? =ae x:=by
      rw[iU];have:k+(i - k)=i:=by omega
      rw[this];exact e1'
    have d2:=d1;rw[S.pl,bo,f1]at d2;have d3:X.N.getD j gR=x:=aI d2;have jl:j<X.N.length:=of_decide_eq_true (cW.mp S.plen j (bp f1));have d4:X.N[j]? =ae x:=by
      rw[aY,aJ jl]at d3;rw[aJ jl];exact congrArg ae d3
    have fk:scope.names.lookup x=ae .free:=by
      have q:=cW.mp S.frs x (bp d1);simpa using q
    have hmem:(x,aT)∈scope.names:=dM fk;have kd:=S.kinds _ hmem rfl;have vis:Vis X.env.scope x:=by
      rcases kd with z |z
      · exact .inr (.inl z)
      · exact .inr (.inr z)
    obtain⟨m0,_,hl⟩:=I.loc;obtain⟨u,ru,lk⟩:=hl j x v d4 f2 vis;refine⟨u,ru, .inr ⟨zdK fk,?_⟩⟩;have kd':X.env.kindOf x=ae .cell∨X.env.kindOf x=ae .free:=kd;rcases lk with⟨z,_⟩ |⟨_,c,hc,hcell⟩
    · rcases kd' with q |q<;>(rw[z]at q;cases q)
    · obtain⟨c',hc'⟩:=zfD (cells:=X.env.cells) scope.names [] (.inl hmem);have e:=S.sub I.ok hc';rw[hc]at e;cases e;exact⟨c,hc',hcell.keeps hk⟩⟩
  cell:=λx c h=>by
    obtain⟨v,z⟩:=I.cell x c (S.sub I.ok h);exact⟨v,z.keeps hk⟩
  free:=I.hok.fresh (au _)
  freeC:=λx c h=>I.freeC x c (S.sub I.ok h)
  pin:=λp hp=>by
    have hp':p∈X.pn++pins:=by
      rcases bb.mp hp with z |z
      · exact z
      · cases z
    obtain⟨e,n,ne,nf,d⟩:=I.pin p hp';refine⟨hk _ _ e,n,bt (aF e),λz=>?_,d⟩;rcases ax.mp (I.stkSub p.1 z) with q |q
    · exact ne q
    · exact nf q
  hok:=I.hok.kept hk
  len:=by
    show(aR k (none:Option V)++zgb σ fr).length=N.length;rw[aZ,gT,S.len];unfold zgb;rw[ap]
theorem zjK{σ':St}{H':Hp}{s':ag}{h':Heap}(I:Inv X pins σ H s) (hfp:∀b∈fp,zij X pins H b) (J:Inv (zbx X scope N s H fp pins) [] σ' H' s') (sb:cg s.heap.objs.size s'.heap h'):Inv X pins σ H' { s' with heap:=h' }:=by
 have neC:∀b o,s.heap.get? b=ae o→b≠s.heap.objs.size:=λb o e=>bt (aF e);have frC:H' s.heap.objs.size=none:=J.free;refine Inv.call' (s':={ s' with heap:=h' }) (ch:=fp) I J.os ⟨λb o e n hf hx=>?_,λb o e n hf hx=>?_,λb o e n hx=>J.base.free b o e n hx,λb o e hx=>?_,J.base.tups,J.base.frzs,J.base.tbls⟩ (λb o e=>?_) J.bare λb hb=>⟨(hfp b hb).2.2.2.1,(hfp b hb).2.1,(hfp b hb).2.2.2.2.1,(hfp b hb).2.2.2.2.2⟩
 ·exact(sb.2 b (neC b o e)).trans (J.base.keep b o e n hf hx)
 ·obtain⟨sl,q⟩:=J.base.slot b o e n hf hx;exact⟨sl,(sb.2 b (neC b o e)).trans q⟩
 ·obtain⟨o',q⟩:=J.base.there b o e hx;exact⟨o',(sb.2 b (neC b o e)).trans q⟩
 ·refine(J.hok b o e).stay (λc v hc q=>(sb.2 c ?_).trans q) (λ_ q=>q) λ_ _ q=>q;rintro rfl;rcases hc with rfl |hc
  ·rw[frC]at e;cases e
  ·rw[frC]at hc;cases hc
end
def PTs (X:Cx) (ifs:List Expr) (t:TT):Prop:=
 ∀(pins:List (Addr×Obj)) (s:ag) (σ:St) (H:Hp) (Q:Bool→Hp→Prop),Inv X pins σ H s→t σ H Q→
  aj (ao X.prog X.w) X.A (forIn ifs true λc r=>if r=true then do let ok ←isTrue c X.env (aq c X.env);pure (ef ok) else pure (ef r)) (TP X pins σ Q) X.xe s
noncomputable def zAi:TT:=λ_ H Q=>Q true H
theorem zuF{X:Cx}:PTs X [] zAi:=λ_ _ _ H _ I h=>wpAny_tests_nil ⟨H,I,h⟩
theorem zux{X:Cx}{c:Expr}{t:TT}(h:PT X c t):PTs X [c] t:=λpins s σ H Q I q=>wpAny_tests_one (h pins s σ H Q I q)
def zyw (X:Cx) (scope:Scope) (N:List Str) (tg:Expr) (ifs:List Expr) (elt:Expr) (l:Addr) (x:V) (σ:St) (H:Hp) (M:St→Hp→Prop):Prop:=
 ∀(s₀:ag) (H₀:Hp) (fp:List Addr) (pn:List (Addr×Obj)),∃(g:TG) (tt:TT) (te:TE),PG (zbx X scope N s₀ H₀ fp pn) tg g∧PTs (zbx X scope N s₀ H₀ fp pn) ifs tt∧PE (zbx X scope N s₀ H₀ fp pn) elt te∧
  g x σ H λσ2 H2=>tt σ2 H2 λb H3=>if b=true then te σ2 H3 λy H4=>∃ys,H4 l=ae (.lst ys)∧ys.length<sizeLine∧M σ2 (upd H4 l (.lst (ys++[y]))) else M σ2 H3
def zuV (X:Cx) (scope:Scope) (N:List Str) (k:Nat) (fr:List Nat) (tg:Expr) (ifs:List Expr) (elt:Expr) (σ:St) (Q:VK) (J:It) (H1:Hp):Prop:=∀l,H1 l=none→
 ∃W:Nat→Nat→St→Hp→Prop,(∃m,W 0 m (zlu σ k fr) (upd H1 l (.lst [])))∧ ∀i m σ' H',W i m σ' H'→
  (J.stop i H'∧Q (.ref l) H')∨(J.go i H'∧ ∃M:St→Hp→Prop,(∀σ'' H'',M σ'' H''→ ∃m',m'<m∧W (i+1) m' σ'' H'')∧ ∀x H2,J.yld i H' x H2→zyw X scope N tg ifs elt l x σ' H2 M)
noncomputable def zrS (X:Cx) (scope:Scope) (N:List Str) (k:Nat) (fr:List Nat) (tg:Expr) (ifs:List Expr) (elt:Expr) (wi:TI):TE:=λσ H Q=>wi σ H λJ H1=>zuV X scope N k fr tg ifs elt σ Q J H1
theorem zix{X:Cx}{use:Option (Value→bY Unit)}{Qf:Value→ag→Prop}{pins:List (Addr×Obj)}{s:ag}{σ:St}{H:Hp}{Q:VK}{scope:Scope}{N:List Str}{k:Nat}{fr:List Nat}{tg iter elt:Expr}{ifs:List Expr}{wi:TI}{pos:aA}(hx:X.xe=λ_ _=>False) (hc:X.calm=true) (S:CompSc X scope N k fr) (hi:PI X tg iter wi) (I:Inv X pins σ H s)
  (fin:∀{s3 s6:ag}{H3 H5:Hp}{fp:List Addr}{σ5:St}{l:Addr}{a:Flow},Inv X pins σ H3 s3→(∀b∈fp,zij X pins H3 b)→Inv (zbx X scope N s3 H3 fp pins) [] σ5 H5 s6→Q (.ref l) H5→compPost (ao X.prog X.w) X.A X.xe use Qf (.ref l) s3.heap.objs.size (.ok a) s6)
  (h:zrS X scope N k fr tg ifs elt wi σ H Q)
  (hs:∀x,de iter X.env x=pure x:=by intro _;rfl):aj (ao X.prog X.w) X.A (comprehension (.ListComp elt [⟨tg,iter,ifs,0⟩] scope pos) scope X.env (firstIterPos [⟨tg,iter,ifs,0⟩] pos) (newList []) (firstAsync [⟨tg,iter,ifs,0⟩]) (firstIter [⟨tg,iter,ifs,0⟩] X.env) use) Qf X.xe s:=by
 refine wpAny_comprehension_free (use:=use) rfl hs (znj (S.hasCell I.ok)) S.kind S.loc' (thn (hi pins s σ H _ I h) λv s1 h1=>thn h1 λitv s2 h2=>?_);obtain⟨it,fp,tn,J,H2,e,I2,T,st2,f2,h2⟩:=h2;subst e;have fr2:H2 s2.heap.objs.size=none:=I2.hok.fresh (au _);obtain⟨W,⟨m0,w0⟩,turn⟩:=h2 s2.heap.objs.size fr2;refine wpAny_newList ?_ (by show 0≤sizeLine;exact aX _);have I3:Inv X pins σ (upd H2 s2.heap.objs.size (.lst [])) { s2 with heap:=s2.heap.push { cls:= .type "list",data:= .seq ([]:List Value).toArray } }:=I2.lnew (t':=s2.toks) (ys:=[]) .nil (aX _);have old:∀b o,s2.heap.get? b=ae o→(s2.heap.push { cls:= .type "list",data:= .seq ([]:List Value).toArray }).get? b=ae o:=λb o e=>aH _ e;have fpo2:∀b∈fp,∃o,s2.heap.get? b=ae o:=λb hb=>by
  obtain⟨o,e,_⟩:=T.obj _ _ st2 b hb;exact⟨o,e⟩
 have fpo:∀b∈fp,∃o,(s2.heap.push { cls:= .type "list",data:= .seq ([]:List Value).toArray }).get? b=ae o:=λb hb=>by
  obtain⟨o,e⟩:=fpo2 b hb;exact⟨o,old b o e⟩
 have f3:∀b∈fp,zij X pins (upd H2 s2.heap.objs.size (.lst [])) b:=λb hb=>by
  obtain⟨o,e⟩:=fpo2 b hb;refine⟨?_,(f2 b hb).2⟩;rw[zax (bt (aF e))];exact(f2 b hb).1
 generalize hs3:({ s2 with heap:=s2.heap.push { cls:= .type "list",data:= .seq ([]:List Value).toArray } }:ag)=s3 at I3⊢;have st3:tn 0 s3.heap:=by
  rw[←hs3];exact T.keep _ _ _ st2 λb _ o e=>old b o e
 have fpo3:∀b∈fp,∃o,s3.heap.get? b=ae o:=by rw[←hs3];exact fpo
 clear fpo old hs3;refine wpAny_newFunctionEnv S.cell' (by intro y hy;simp at hy) (λh1 hns1 hsb1=>?_) S.kind;have hk1:∀b o,s3.heap.get? b=ae o→h1.get? b=ae o:=λb o e=>hsb1.extBut b o (bt (aF e)) (aH _ e);have I4:=zrM (tk:=s3.toks+([]:List (Str×Value)).length) I3 S f3 fpo3 hns1 hk1;have st4:tn 0 h1:=T.keep _ _ _ st3 λb _ o e=>hk1 b o e;have stat:∀{H':Hp},(∀b∈fp,H' b=none)→ ∀b∈fp,zij (zbx X scope N s3 (upd H2 s2.heap.objs.size (.lst [])) fp pins) [] H' b:=λhn b hb=>zuW I3 S hb (f3 b hb) (fpo3 b hb) (hn b hb);have loop:∀s4:ag,s4={ s3 with heap:=h1,toks:=s3.toks+([]:List (Str×Value)).length }→
   dC (ao X.prog X.w) X.A (.compLoop (.ListComp elt [⟨tg,iter,ifs,0⟩] scope pos) 0 (.ref it) (.ref s2.heap.objs.size) (compEnvC scope (zgx X.env.cells scope.names []) s3.heap.objs.size X.env))
    (compPost (ao X.prog X.w) X.A X.xe use Qf (.ref s2.heap.objs.size) s3.heap.objs.size) s4:=by
  rintro s4 rfl;refine zjo (λn s'=>∃i σ' H',Inv (zbx X scope N s3 (upd H2 s2.heap.objs.size (.lst [])) fp pins) [] σ' H' s'∧tn i s'.heap∧(∀b∈fp,H' b=none)∧W i n σ' H') ?_ m0 ⟨0,_,_,I4,st4,λb hb=>(f3 b hb).1,w0⟩;rintro n s5 ⟨i,σ5,H5,I5,st5,fr5,w5⟩;rcases turn i n σ5 H5 w5 with⟨stop,qn⟩ |⟨go,M,hM,step⟩
  ·refine thn (T.done (zbx X scope N s3 (upd H2 s2.heap.objs.size (.lst [])) fp pins) rfl rfl rfl hc i [] s5 σ5 H5 _ I5 (stat fr5) st5 stop) λr s6 ⟨hr,I6⟩=>?_;subst hr;exact fin I3 f3 I6 qn
  ·refine thn (T.item (zbx X scope N s3 (upd H2 s2.heap.objs.size (.lst [])) fp pins) rfl rfl rfl hc i [] s5 σ5 H5 _ I5 (stat fr5) st5 go) λr s6 ⟨u,hr,h6⟩=>?_;subst hr;refine thn h6 λ_ s7 ⟨x,H7,I7,r7,y7,st7,fr7⟩=>?_;have I7':=I7.pinned (stat fr7) (T.obj _ _ st7);obtain⟨g,tt,te,hg,ht,he,q⟩:=step x H7 y7 s3 (upd H2 s2.heap.objs.size (.lst [])) fp pins;have again:∀{s8:ag}{σ8:St}{H8:Hp},Inv (zbx X scope N s3 (upd H2 s2.heap.objs.size (.lst [])) fp pins) ([]++zjM fp s7.heap) σ8 H8 s8→M σ8 H8→
     ∃m,m<n∧ ∃i σ' H',Inv (zbx X scope N s3 (upd H2 s2.heap.objs.size (.lst [])) fp pins) [] σ' H' s8∧tn i s8.heap∧(∀b∈fp,H' b=none)∧W i m σ' H':=λ{s8 σ8 H8} I8 n8=>by
    obtain⟨m',hm,w8⟩:=hM σ8 H8 n8;refine⟨m',hm,i+1,σ8,H8,I8.unpinned,T.keep _ _ _ st7 λb hb o e=>(I8.pin (b,o) (a8 _ (a8 _ (zed hb e)))).1,λb hb=>?_,w8⟩;obtain⟨o,e,d⟩:=T.obj _ _ st7 b hb;exact(I8.pin (b,o) (a8 _ (a8 _ (zed hb e)))).2.1
   refine thn (hg _ s7 σ5 H7 x u _ I7' r7 q) λ_ s8 ⟨σ8,H8,I8,q8⟩=>?_;refine thn (ht _ s8 σ8 H8 _ I8 q8) λb s9 ⟨H9,I9,q9⟩=>?_;cases b with
   |false=>exact again I9 q9
   |true=>
    refine thn (he _ s9 σ8 H9 _ I9 q9) λy s10 ⟨yv,H10,I10,r10,ys,hl,hz,qM⟩=>?_;exact thn (ziH _ s10 σ8 H10 (.ref s2.heap.objs.size) [yv] (.ref s2.heap.objs.size) [y] (λ_ H'=>M σ8 H') I10 rfl (.cons r10 .nil) ⟨_,ys,yv,rfl,rfl,hl,hz,qM⟩) λ_ s11 ⟨_,H11,I11,_,q11⟩=>again I11 q11
 exact codeAny_compStart_list (loop _ rfl) (T.self _ 0 _ _ _ st4 (loop _ rfl))
theorem ztO{X:Cx}{scope:Scope}{N:List Str}{k:Nat}{fr:List Nat}{tg iter elt:Expr}{ifs:List Expr}{wi:TI}{pos:aA}(hx:X.xe=λ_ _=>False) (hc:X.calm=true) (S:CompSc X scope N k fr) (hi:PI X tg iter wi)
  (hs:∀x,de iter X.env x=pure x:=by intro _;rfl):PE X (.ListComp elt [⟨tg,iter,ifs,0⟩] scope pos) (zrS X scope N k fr tg ifs elt wi):=by
 intro pins s σ H Q I h;rw[eval_ListComp];refine zix hx hc S hi I (λ{s3 s6 H3 H5 fp σ5 l a} I3 f3 I6 qn=>?_) h hs;obtain⟨m6,ns6,_⟩:=I6.loc;exact⟨m6,ns6,λh' sb=>⟨.ref l,H5,zjK I3 f3 I6 sb,rfl,qn⟩⟩
theorem ztt{X:Cx}{scope:Scope}{N:List Str}{k:Nat}{fr:List Nat}{tg iter elt:Expr}{ifs:List Expr}{wi:TI}{pos spos pos':aA}{i:Nat}{x:Str}(hx:X.xe=λ_ _=>False) (hc:X.calm=true) (S:CompSc X scope N k fr) (hi:PI X tg iter wi)
  (hN:X.N.Nodup) (hxi:X.N[i]? =ae x) (hxl:Loc X.env.scope x) (hw:dI (.ListComp elt [⟨tg,iter,ifs,0⟩] scope pos) (ae (.Name x pos')) spos.line X.env=pure true) (hf:X.fn x=true∨X.env.scope.names.lookup x=ae .local)
  (hs:∀x,de iter X.env x=pure x:=by intro _;rfl):PS X (.Assign [.Name x pos'] (.ListComp elt [⟨tg,iter,ifs,0⟩] scope pos) spos) (zzx (zrS X scope N k fr tg ifs elt wi) (zvh i)):=by
 intro pins s σ H D I h;rw[exec_Assign_Name_used x pos' _ spos hw];refine ai (wpAny_standAt (ai ?_));rw[arm_evalThenUse_ListComp];refine ai ?_;refine zix (Qf:=λ_ s'=>aj (ao X.prog X.w) X.A (pure ()) (λ_ s2=>aj (ao X.prog X.w) X.A (pure Flow.next) (SP X pins D) X.xe s2) X.xe s') hx hc S hi I (λ{s3 s6 H3 H5 fp σ5 l a} I3 f3 I6 qn=>?_) h hs;have IX:Inv X pins σ H5 s6:=zjK (h':=s6.heap) I3 f3 I6 ⟨rfl,λ_ _=>rfl⟩;obtain⟨m6,ns6,_⟩:=I6.loc;have ns6:s6.heap.Ns s3.heap.objs.size m6:=ns6;have frC:H5 s3.heap.objs.size=none:=I6.free;have fC:zij X pins H5 s3.heap.objs.size:=I3.fpOk (au _) frC;refine jY (ziA IX hN hxi hxl (v:= .ref l) rfl (λs7 I7 ⟨b,sb,hb⟩=>?_) hf);have hbC:s3.heap.objs.size≠b:=by
  rcases hb with rfl |hb
  ·exact fC.2.1
  ·exact bj (fC.2.2.2.2.1 _ _ hb)
 refine⟨m6,ns6.sameBut sb hbC,λh' sb2=>aD (aD ⟨_,H5,?_,qn⟩)⟩;refine Inv.call' (s':={ s7 with heap:=h' }) (ch:=[s3.heap.objs.size]) I7 rfl ⟨λc o e n hfs hex=>?_,λc o e n hfs hex=>?_,λc o e n _=>n,λc o e hex=>?_,λ_ _ q=>q,λ_ _ _ q=>q,λ_ ps q=>⟨#[],by simpa using q⟩⟩ (λc o e=>?_) I7.bare λc hcm=>?_
 ·exact(sb2.2 c (λz=>hex (by simp [z]))).trans e
 ·exact⟨o.slots,(sb2.2 c (λz=>hex (by simp [z]))).trans e⟩
 ·exact⟨o,(sb2.2 c (λz=>hex (by simp [z]))).trans e⟩
 ·refine(I7.hok c o e).stay (λd v hd q=>(sb2.2 d ?_).trans q) (λ_ q=>q) λ_ _ q=>q;rintro rfl;rcases hd with rfl |hd
  ·rw[frC]at e;cases e
  ·rw[frC]at hd;cases hd
 ·rw[aV.mp hcm];exact⟨fC.2.2.2.1,fC.2.1,fC.2.2.2.2.1,fC.2.2.2.2.2⟩
noncomputable def Its (x:Str):It:=⟨λi _=>i<x.cps.size,λi H v H'=>H'=H∧ ∃c,x.cps[i]? =ae c∧v= .str ⟨#[c]⟩,λi _=>i=x.cps.size⟩
theorem zmo{P:aE}{w:az}{K:ah}{tg:Expr}(it:Addr) (x:Str) (t:bc) (ty:String)
    (hn: ["enumerate", "zip", "dict_itemiterator", "dict_reverseitemiterator", "odict_iterator", "itertools.zip_longest", "itertools.pairwise"].contains ty=false)
    (hW:∀A':aP,A'.handled=none→Walks P w A' it [it] [it] x.cps.size (SignAt x) (λi h=>h.IsStrIter it ty x t i))
    (hself:∀(A:aP) (i:Nat) (s:ag) (Q:Value→ag→Prop) (E:Value→ag→Prop),s.heap.IsStrIter it ty x t i→Q (.ref it) s→aj (ao P w) A (cZ (.ref it)) Q E s) :
    Turn P w K tg (Its x) [it] it (λi h=>h.IsStrIter it ty x t i) where
  mem:=by simp
  obj:=λi h st b hb=>by
    have e:b=it:=by simpa using hb
    subst e;obtain⟨o,e,c,d⟩:=st;exact⟨o,e,λv z=>by rw[d]at z;cases z⟩
  keep:=λi h h' st k=>by
    obtain⟨o,e,r⟩:=st;exact⟨o,k it (by simp) o e,r⟩
  item:=by
    intro X hP hw hK hc i pins s σ H E I hf st hg;subst hP hw hK;obtain⟨f0,f1,f2,f3,f4,f5⟩:=hf it (by simp);refine(hW X.A (I.ok.hd hc)).item i s _ _ hg st λv h' tk hv st' kk=>?_;obtain⟨c,u,hc',rfl⟩:=hv;have I1:Inv X pins σ H { s with heap:=h',toks:=tk }:=I.turned (λb o hb e=>kk b o (by simpa using hb) e) f0 f1 f3 f4 f5;obtain⟨o,e,c',d⟩:=id st';exact⟨_,rfl,zrR (s:={ s with heap:=h',toks:=tk }) e c' d hn ⟨.str ⟨#[c]⟩,H,I1,⟨u,rfl⟩,⟨rfl,c,hc',rfl⟩,st',λb hb=>(hf b hb).1⟩⟩
  done:=by
    intro X hP hw hK hc i pins s σ H E I hf st hg;subst hP hw hK;obtain⟨f0,f1,f2,f3,f4,f5⟩:=hf it (by simp);have hi:i=x.cps.size:=hg;subst hi;exact(hW X.A (I.ok.hd hc)).done s _ _ st λh' tk kk=>⟨rfl,I.turned (λb o hb e=>kk b o (by simpa using hb) e) f0 f1 f3 f4 f5⟩
  self:=hself
def TupsOn (H H':Hp):Prop:=∀b xs,H b=ae (.tup xs)→H' b=ae (.tup xs)
theorem TupsOn.trans{H H1 H2:Hp}(a:TupsOn H H1) (b:TupsOn H1 H2):TupsOn H H2:=λc xs h=>b c xs (a c xs h)
section
variable {X:Cx}
theorem zjF:OpR X (bf .LtE) (λx y H Q=>∃i j,x= .str i∧y= .str j∧Q (.bl (!decide (j.cps.toList<i.cps.toList))) H):=by
 intro pins s σ H x y v u Q I rx ry h;obtain⟨i,j,rfl,rfl,q⟩:=h;obtain⟨t,rfl⟩:=rx;obtain⟨t',rfl⟩:=ry;exact PySem.P.le_str (zjR I q rfl)
theorem zlp (a b:Nat):(([a]:List Nat)< [b])↔a<b:=by
 rw[List.cons_lt_cons_iff];constructor
 ·rintro(h |⟨_,h⟩)
  ·exact h
  ·exact absurd h (List.lt_irrefl _)
 ·exact .inl
def rSlS:V→Option Int→Option Int→Hp→VK→Prop:=λx lo hi H Q=>∃z,x= .str z∧z.length≤sizeLine∧Q (.str (cF z lo hi)) H
theorem sl_str:SlR X rSlS:=by
 intro pins s σ H x v vl vu lo hi sl Q I rx hs pl pu h;obtain⟨z,rfl,hz,q⟩:=h;obtain⟨t,rfl⟩:=rx;refine⟨"str",_,F.slot_str_getitem.lookup,gw _ _ _,?_⟩;obtain⟨o,ho,hc,hd⟩:=hs;have fin:∀t' k,EP X pins σ Q (.str (cF z lo hi) t') { s with toks:=k }:=λt' k=>⟨.str _,H,I.tok _,⟨t',rfl⟩,q⟩;have le:=bC (Txt.slice_le z lo hi) hz;cases pl with
 |none=>
  cases pu with
  |none=>exact fX (l:=none) (u:=none) (st:=none) ⟨o,ho,hc,hd⟩ rfl (fU ⟨le,fin⟩)
  |int j u=>exact fX (l:=none) (u:=ae (j,u)) (st:=none) ⟨o,ho,hc,hd⟩ rfl (fU ⟨le,fin⟩)
 |int i w=>
  cases pu with
  |none=>exact fX (l:=ae (i,w)) (u:=none) (st:=none) ⟨o,ho,hc,hd⟩ rfl (fU ⟨le,fin⟩)
  |int j u=>exact fX (l:=ae (i,w)) (u:=ae (j,u)) (st:=none) ⟨o,ho,hc,hd⟩ rfl (fU ⟨le,fin⟩)
noncomputable def zyo (xs:List Nat) (lo hi:Option Int):List Nat:=(xs.drop (HT.sIx xs.length 0 lo)).take (HT.sIx xs.length xs.length hi - HT.sIx xs.length 0 lo)
theorem ztp (lo hi:Option Int) (n:Nat):gb lo hi 1 n=sliceRange ((HT.sIx n 0 lo:Nat):Int) ((HT.sIx n n hi:Nat):Int) 1:=by
 have one:(1:Int) > 0:=by decide
 have a:∀(v:Option Int) (d:Nat),(match v with |none=>(d:Int) |some i=>(if(1:Int) > 0 then max 0 (min (if i<0 then i+(n:Int) else i) (n:Int)) else max (-1) (min (if i<0 then i+(n:Int) else i) ((n:Int) - 1))))=((HT.sIx n d v:Nat):Int):=by
  intro v d;cases v with
  |none=>rfl
  |some i=>
   simp only[HT.sIx,one,if_true];by_cases h:i<0
   ·simp only[h,if_true];omega
   ·simp only[h,if_false];omega
 have l:=a lo 0;have u:=a hi n;unfold gb;simp only[one,if_true]at l u⊢
 first
  |rw[l,u]
  | (cases lo<;>cases hi<;>simp_all)
theorem zpX (z:Str) (lo hi:Option Int):(cF z lo hi).cps.toList=zyo z.cps.toList lo hi:=by
 have hn:z.length=z.cps.toList.length:=by simp [gP]
 have hp:(gb lo hi 1 z.length).filterMap (z.cps[·]?)=zyo z.cps.toList lo hi:=by
  rw[ztp,gE,gy,hn];rfl
 unfold cF;split
 ·rename_i h;have h1:(gb lo hi 1 z.length).length=z.length:=by simpa using h
  rw[ztp,gE,ap,List.length_range]at h1;have le1:=HT.sIx_le z.length z.length (au _) hi;unfold zyo;rw[←hn];have e0:HT.sIx z.length 0 lo=0∨z.length=0:=by omega
  have hz:z.cps.toList.length=z.length:=hn.symm;rcases e0 with e0 |e0
  ·rw[e0,c8,cI (by omega)]
  ·have:z.cps.toList=[]:=jJ (by omega);rw[this];simp
 ·show(List.filterMap _ _).toArray.toList=_;rw[hp]
theorem zrU (hc:X.calm=true):CallR X (.builtin "all") (λxs H Q=>∃(p:Addr) (bs:List Bool),xs=[.ref p]∧SqL X.K H p (bs.map V.bl)∧Q (.bl (bs.all id)) H):=by
 intro pins s σ H xs us Q I r h;obtain⟨p,bs,rfl,hq,q⟩:=h;obtain⟨u,rfl,rx⟩:=zfN r;cases rx;obtain⟨its,r',pl,hz⟩:=I.list hq;have hlen:bs.length=its.length:=by have:=r'.length;rw[ap]at this;exact this
 have hp:p<s.heap.objs.size:=by obtain⟨o,n,e,_⟩:=pl;exact aF e
 have hd:X.A.in1.handled=none:=I.ok.hd hc;have get:∀(i:Nat) (v:Value),its.toArray[i]? =ae v→v= .bool (bs.getD i false):=λi v e=>by
  have e':its[i]? =ae v:=by simpa using e
  have hi:i<bs.length:=by rw[hlen];exact(bG.mp e').1
  obtain⟨u,hu,ru⟩:=r'.get (i:=i) (x:= .bl (bs.getD i false)) (by rw[bo,aJ hi,aY,aJ hi];rfl);rw[e']at hu;cases hu;exact ru
 refine call_all_walk (dc pl.isList ?_);refine⟨s.heap.objs.size,_,_,_,_,_,λi=>bs.getD i false,rfl,eN hd _ p (bt hp) its.toArray,⟨⟨_,bh _ rfl,rfl,rfl⟩,pl.isList.push _⟩,λi v s' Q' E' hP hQ=>?_,λh' tk hk=>?_⟩
 ·rw[get i v hP];exact dG hQ
 ·have e:(ba its.toArray.size).all (λi=>bs.getD i false)=bs.all id:=by
   rw[aQ,←hlen];have:bs=(ba bs.length).map λi=>bs.getD i false:=by
    apply List.ext_getElem?;intro i;rw[bo];by_cases hi:i<bs.length
    ·rw[dj hi,aJ hi];show ae bs[i]=ae (bs.getD i false);rw[aY,aJ hi];rfl
    ·rw[hZ (by omega),hZ (by simpa using hi)];rfl
   conv=>rhs;rw[this]
   rw[fR];rfl
  have I1:Inv X pins σ H { s with heap:=h',toks:=tk }:=I.kept λb o e=>hk b o (λz=>by
   have z':b=s.heap.objs.size:=by simpa using z
   rw[z']at e;exact absurd (aF e) (bZ _)) (aH _ e)
  exact⟨.bl _,H,I1,by rw[e];exact rfl,q⟩
theorem zqF:CallR X (.builtin "isinstance") (λxs H Q=>∃x t c b,xs=[x, .ty c]∧TyOf X.K H x t∧eO X.K t (.type c)=ae b∧Q (.bl b) H):=by
 intro pins s σ H xs us Q I r h;obtain⟨x,t,c,b,rfl,ty,e,q⟩:=h;obtain⟨u,v,rfl,rx,ry⟩:=zuQ r;cases(show v=gG c from ry);exact zpc I rx ty e λtk=>⟨.bl b,H,I.tok _,rfl,q⟩
end
section
variable {X:Cx}
theorem zev (l:Addr) (items:Array Value) (n:Nat) (b:Addr) (items2:Array Value) (n2:Nat) (dd:Option Addr) (sl:Array (Option Value)) (hs0:¬(!items.isEmpty&&d8 (items.size+items2.size))=true) (hs1:items.size≤sizeLine) (hs2:items.size+items2.size≤sizeLine+1) :
  Meets (bX.«list.extend» ⟨[.ref l, .ref b],[]⟩) (λ_ R s=>s.heap.get? l=ae { cls:= .type "list",dict:=none,data:= .seq items n,slots:= #[] }∧s.heap.get? b=ae { cls:= .type "tuple",dict:=dd,data:= .seq items2 n2,slots:=sl }∧R (.ok (.ret cm)) { s with heap:=s.heap.update l (gH λx=>x++items2),toks:=s.toks }):=
 .of_wp λprog w A R s h=>by
  obtain⟨hp,g,d,tk,os⟩:=s;obtain⟨hl,hb,h⟩:=h;have f1:=AutoSeq1.idx_int;have f2:=AutoSeq1.sub_tuple_tuple;have f3:=AutoSeq1.sub_list_list;have f4:=AutoSeq1.sub_tuple_list;have f5:=AutoSeq1.sub_list_tuple;have hz':(items++items2).size≤sizeLine+1:=by rw[Array.size_append];exact hs2
  wp_walk using(wpAny_updateSeq hl rfl (hz:=hs1) (_hz':=hz')),kg hl,kg hb;exact⟨_,rfl,h⟩
def zlJ (K:ah):V→List V→Hp→VK→Prop:=λx vs H Q=>∃l b xs zs,x= .ref l∧vs=[.ref b]∧H l=ae (.lst xs)∧SqT K H b zs∧xs.length+zs.length≤sizeLine∧Q .non (upd H l (.lst (xs++zs)))
theorem zmO:MtM X "list.extend" (zlJ X.K):=by
 intro pins s σ H x vs v us Q I rx rv h;obtain⟨l,b,xs,zs,rfl,rfl,hH,hB,hz,q⟩:=h;cases rx;obtain⟨u,rfl,ru⟩:=rv.one;cases ru;obtain⟨z,its,n,r,hl,e⟩:=I.lstM hH;obtain⟨its2,r2,ht,hz2⟩:=I.tuple hB;obtain⟨⟨cls,dd,data,sl⟩,e2,hc,n2,hd⟩:=ht;simp only at hc hd;subst hc hd;have hl2:=r2.length;have hsz:its.toArray.size+its2.toArray.size≤sizeLine:=by rw[aQ,aQ];omega
 have hlong:¬(!its.toArray.isEmpty&&d8 (its.toArray.size+its2.toArray.size))=true:=by
  rw[zhz hsz,eG];exact cR
 refine dO i_ ⟨_,e,rfl⟩ jd (iQ _ _)
  (zev l its.toArray n b its2.toArray n2 dd sl hlong (by rw[aQ];omega) (by omega)) ⟨e,e2,?_⟩
 refine⟨.non,_,I.lset (its':=its++its2) hH e (by simp) (r.append r2) ?_,rfl,q⟩;rw[aZ];omega
def zvR (K:ah):V→List V→Hp→VK→Prop:=λx vs H Q=>∃(z:Str) (b:Addr) (ys:List Str),x= .str z∧vs=[.ref b]∧SqL K H b (ys.map V.str)∧(ys.map (·.length)).sum+ys.length*z.length≤16777216∧Q (.str (cS z ys)) H
theorem ztX{ys:List Str}:∀{us:List Value},Vals (ys.map V.str) us→StrsAre us ys:=by
 induction ys with
 |nil=>
  intro us r;cases r;exact .nil
 |cons y ys ih=>
  intro us r;cases r with
  |cons a b=>
   obtain⟨t,rfl⟩:=a;exact .cons y t (ih b)
theorem zvu:MtM X "str.join" (zvR X.K):=by
 intro pins s σ H x vs v us Q I rx rv h;obtain⟨z,b,ys,rfl,rfl,hB,hz,q⟩:=h;obtain⟨t,rfl⟩:=rx;obtain⟨u,rfl,ru⟩:=rv.one;cases ru;obtain⟨its,r,pl,_⟩:=I.list hB;refine join_list pl.isList (by simpa using ztX r) hz λt' k=>⟨.str (cS z ys),H,I.tok _,⟨t',?_⟩,q⟩;show fg (bX.Str.glued z ys) t'=_;rw[StrLaws.glued_eq_join]
end
inductive W where
  |non |bl (b:Bool) |int (i:Int) |str (x:Str) |tup (ws:List W) |ref (a:Addr) |scr (ns:List Int)
inductive Ob where
  |lst (ws:List W)
  |dct (kvs:List (List Int×W))
  |ins (C:Addr) (fs:List (Str×W))
abbrev Sto:=Addr→Option Ob
noncomputable def put (S:Sto) (a:Addr) (o:Ob):Sto:=λb=>if b=a then ae o else S b
def FzL (K:ah) (H:Hp) (a:Addr) (xs:List V):Prop:=
 (∃o,H a=ae (.frz o (.lst xs)))∨
  ∃(o:Obj) (its:Array Value) (n:Nat),K.lookup a=ae o∧o.cls= .type "list" ∧o.dict=none∧o.data= .seq its n∧its.size≤sizeLine∧Vals xs its.toList
mutual
inductive Rep (K:ah) (H:Hp):W→V→Prop
 |non:Rep K H .non .non
 |bl (b:Bool):Rep K H (.bl b) (.bl b)
 |int (i:Int):Rep K H (.int i) (.int i)
 |str (x:Str):Rep K H (.str x) (.str x)
 |ref (a:Addr):Rep K H (.ref a) (.ref a)
 |scr {a:Addr}{ns:List Int}:FzL K H a (ns.map V.int)→Rep K H (.scr ns) (.ref a)
 |tup {a:Addr}{vs:List V}{ws:List W}:H a=ae (.tup vs)→Reps K H ws vs→Rep K H (.tup ws) (.ref a)
inductive Reps (K:ah) (H:Hp):List W→List V→Prop
 |nil:Reps K H [] []
 |cons {w:W}{v:V}{ws:List W}{vs:List V}:Rep K H w v→Reps K H ws vs→Reps K H (w::ws) (v::vs)
end
structure Ext (H:Hp) (S:Sto) (H':Hp) (S':Sto):Prop where
  tup:∀b xs,H b=ae (.tup xs)→H' b=ae (.tup xs)
  frz:∀b o u,H b=ae (.frz o u)→H' b=ae (.frz o u)
  fr:∀b xs,H b=ae (.lst xs)→S b=none→H' b=ae (.lst xs)∧S' b=none
  all:∀b o,H b=ae o→ ∃o',H' b=ae o'
def Sub (S S':Sto):Prop:=∀a o,S a=ae o→S' a=ae o
section
variable {K:ah}{H H' H1 H2:Hp}{S S' S1 S2:Sto}
theorem zag{a:Addr}{o:Ob}:put S a o a=ae o:=by unfold put;rw[if_pos rfl]
theorem zaI{a b:Addr}{o:Ob}(h:b≠a):put S a o b=S b:=by unfold put;rw[if_neg h]
theorem zaM{a:Addr}{o o':Ob}:put (put S a o) a o'=put S a o':=by funext b;unfold put;split<;>rfl
theorem Ext.refl:Ext H S H S:=⟨λ_ _ h=>h,λ_ _ _ h=>h,λ_ _ h g=>⟨h,g⟩,λ_ o h=>⟨o,h⟩⟩
theorem Ext.trans (a:Ext H S H1 S1) (b:Ext H1 S1 H2 S2):Ext H S H2 S2:=⟨λc xs h=>b.tup c xs (a.tup c xs h),λc o u h=>b.frz c o u (a.frz c o u h),
 λc o h g=>by
  obtain⟨h1,g1⟩:=a.fr c o h g;exact b.fr c o h1 g1,λc o h=>by
  obtain⟨o1,h1⟩:=a.all c o h;exact b.all c o1 h1⟩
theorem Ext.new{p:Addr}{o:HO}(h:H p=none):Ext H S (upd H p o) S:=
  ⟨λb xs e=>by rw[zax (zar e h)];exact e,λb ob u e=>by rw[zax (zar e h)];exact e,
   λb ob e g=>⟨by rw[zax (zar e h)];exact e,g⟩,λb ob e=>⟨ob,by rw[zax (zar e h)];exact e⟩⟩
theorem Ext.newS{p:Addr}{o:HO}{ob:Ob}(h:H p=none):Ext H S (upd H p o) (put S p ob):=
  ⟨λb xs e=>by rw[zax (zar e h)];exact e,λb ob u e=>by rw[zax (zar e h)];exact e,
   λb ob e g=>⟨by rw[zax (zar e h)];exact e,by rw[zaI (zar e h)];exact g⟩,λb ob e=>⟨ob,by rw[zax (zar e h)];exact e⟩⟩
theorem Ext.mut{p:Addr}{o u:HO}{ob ob0:Ob}(h:H p=ae u) (hs:S p=ae ob0) (ht:∀xs,u≠ .tup xs) (hf:∀ob q,u≠ .frz ob q):Ext H S (upd H p o) (put S p ob):=
  ⟨λb xs e=>by rw[zax (zqW e h λz=>ht xs z.symm)];exact e,λb ob q e=>by rw[zax (zqW e h λz=>hf ob q z.symm)];exact e,
   λb ob e g=>by
     have hb:b≠p:=by rintro rfl;rw[hs]at g;cases g
     exact⟨by rw[zax hb];exact e,by rw[zaI hb];exact g⟩,λb ob e=>by
     by_cases hb:b=p
     · subst hb;exact⟨o,zaF⟩
     · exact⟨ob,by rw[zax hb];exact e⟩⟩
theorem Ext.lst{p:Addr}{o:HO}{ob ob0:Ob}{xs:List V}(h:H p=ae (.lst xs)) (hs:S p=ae ob0):Ext H S (upd H p o) (put S p ob):= .mut h hs (λ_ z=>nomatch z) λ_ _ z=>nomatch z
theorem Ext.drop (h:Sub S' S):Ext H S H S':=⟨λ_ _ h=>h,λ_ _ _ h=>h,λb o e g=>⟨e,by
 cases q:S' b with
 |none=>rfl
 |some z=>rw[h b z q]at g;cases g⟩,λ_ o h=>⟨o,h⟩⟩
theorem Ext.free (e:Ext H S H' S') {p:Addr}(h:H' p=none):H p=none:=by
 cases q:H p with
 |none=>rfl
 |some o=>obtain⟨o',z⟩:=e.all p o q;rw[h]at z;cases z
theorem Ext.fz{a:Addr}{xs:List V}(e:Ext H S H' S') (h:FzL K H a xs):FzL K H' a xs:=by
 rcases h with⟨o,h⟩ |h
 ·exact .inl ⟨o,e.frz _ _ _ h⟩
 ·exact .inr h
theorem FzL.sq{a:Addr}{xs:List V}(h:FzL K H a xs):SqL K H a xs:=by
 rcases h with⟨o,h⟩ |h
 ·exact .inl (.inr ⟨o,h⟩)
 ·exact .inr h
mutual
theorem Rep.ext (e:Ext H S H' S') {w:W}{v:V}:Rep K H w v→Rep K H' w v
 | .non=> .non
 | .bl b=> .bl b
 | .int i=> .int i
 | .str x=> .str x
 | .ref a=> .ref a
 | .scr h=> .scr (e.fz h)
 | .tup h hs=> .tup (e.tup _ _ h) (Reps.ext e hs)
theorem Reps.ext (e:Ext H S H' S') {ws:List W}{vs:List V}:Reps K H ws vs→Reps K H' ws vs
 | .nil=> .nil
 | .cons h hs=> .cons (Rep.ext e h) (Reps.ext e hs)
end
theorem Reps.length:∀{ws:List W}{vs:List V},Reps K H ws vs→ws.length=vs.length
 |_,_, .nil=>rfl
 |_,_, .cons _ hs=>congrArg (· +1) (Reps.length hs)
theorem Reps.get:∀{ws:List W}{vs:List V}{i:Nat}{w:W},Reps K H ws vs→ws[i]? =ae w→ ∃v,vs[i]? =ae v∧Rep K H w v
 |_,_,_,_, .nil,e=>by simp at e
 |_,_,0,_, .cons h _,e=>by simp at e;subst e;exact⟨_,rfl,h⟩
 |_,_,i+1,w, .cons _ hs,e=>by
  obtain⟨v,h1,h2⟩:=Reps.get (i:=i) (w:=w) hs (by simpa using e);exact⟨v,by simpa using h1,h2⟩
theorem Reps.append:∀{ws us:List W}{vs xs:List V},Reps K H ws vs→Reps K H us xs→Reps K H (ws++us) (vs++xs)
 |_,_,_,_, .nil,h=>h
 |_,_,_,_, .cons r t,h=> .cons r (Reps.append t h)
theorem Reps.take:∀{ws:List W}{vs:List V}(n:Nat),Reps K H ws vs→Reps K H (ws.take n) (vs.take n)
 |_,_,0,_=> .nil
 |_,_,_+1, .nil=> .nil
 |_,_,n+1, .cons r t=> .cons r (Reps.take n t)
theorem Reps.drop:∀{ws:List W}{vs:List V}(n:Nat),Reps K H ws vs→Reps K H (ws.drop n) (vs.drop n)
 |_,_,0,r=>r
 |_,_,_+1, .nil=> .nil
 |_,_,n+1, .cons _ t=>Reps.drop n t
theorem Reps.one{w:W}{v:V}(h:Rep K H w v):Reps K H [w] [v]:= .cons h .nil
theorem Reps.ofInts:∀(ns:List Int),Reps K H (ns.map W.int) (ns.map V.int)
 | []=> .nil
 |n::ns=> .cons (.int n) (Reps.ofInts ns)
end
noncomputable def RepO (K:ah) (H:Hp) (a:Addr):Ob→Prop
 | .lst ws=>∃vs,H a=ae (.lst vs)∧Reps K H ws vs
 | .dct kvs=>∃ps:List (List Key×V),H a=ae (.dT ps)∧bN (λq p=>p.1=q.1.map Sum.inl∧Rep K H q.2 p.2) kvs ps
 | .ins C fs=>False
def RepS (K:ah) (H:Hp) (S:Sto):Prop:=∀a o,S a=ae o→RepO K H a o
section
variable {K:ah}{H H':Hp}{S S' S0 S0':Sto}{a b p:Addr}{o:Ob}
theorem Sub.refl:Sub S S:=λ_ _ h=>h
theorem Sub.trans{S1 S2 S3:Sto}(h:Sub S1 S2) (g:Sub S2 S3):Sub S1 S3:=λa o e=>g a o (h a o e)
theorem RepS.sub (h:RepS K H S') (q:Sub S S'):RepS K H S:=λa o e=>h a o (q a o e)
theorem RepO.some (h:RepO K H a o):∃u,H a=ae u:=by
 cases o with
 |lst ws=>obtain⟨vs,e,_⟩:=h;exact⟨_,e⟩
 |dct kvs=>obtain⟨vs,e,_⟩:=h;exact⟨_,e⟩
 |ins C fs=>exact h.elim
theorem RepS.free (h:RepS K H S) (e:H p=none):S p=none:=by
 cases q:S p with
 |none=>rfl
 |some o=>obtain⟨u,z⟩:=(h p o q).some;rw[e]at z;cases z
theorem RepO.keep (e:Ext H S0 H' S0') (k:∀u,H a=i8 u→H' a=i8 u) (h:RepO K H a o):RepO K H' a o:=by
 cases o with
 |lst ws=>obtain⟨vs,e1,r⟩:=h;exact⟨vs,k _ e1,r.ext e⟩
 |dct kvs=>obtain⟨vs,e1,r⟩:=h;exact⟨vs,k _ e1,Paired.mapP r λ_ _ z=>⟨z.1,z.2.ext e⟩⟩
 |ins C fs=>exact h.elim
theorem RepS.new{u:HO}(h:RepS K H S) (e:H p=none):RepS K (upd H p u) S:=λa o q=>
 (h a o q).keep (.new (S:=S) e) λv z=>by rw[zax (zar z e)];exact z
theorem RepS.put_lst{ws:List W}{vs:List V}(h:RepS K H S) (e:H p=none) (r:Reps K (upd H p (.lst vs)) ws vs):RepS K (upd H p (.lst vs)) (put S p (.lst ws)):=λa o q=>by
 by_cases ha:a=p
 ·subst ha;rw[zag]at q;cases q;exact⟨vs,zaF,r⟩
 ·rw[zaI ha]at q;exact h.new e a o q
theorem RepS.set_lst{ws0 ws:List W}{vs:List V}(h:RepS K H S) (e:S a=ae (.lst ws0)) (r:Reps K H ws vs):Ext H S (upd H a (.lst vs)) (put S a (.lst ws))∧RepS K (upd H a (.lst vs)) (put S a (.lst ws)):=by
 obtain⟨vs0,e0,_⟩:=h a _ e;have x:Ext H S (upd H a (.lst vs)) (put S a (.lst ws)):= .lst e0 e;refine⟨x,λb o q=>?_⟩;by_cases hb:b=a
 ·subst hb;rw[zag]at q;cases q;exact⟨vs,zaF,r.ext x⟩
 ·rw[zaI hb]at q;exact(h b o q).keep x λu z=>by rw[zax hb];exact z
end
abbrev WSt:=List (Option W)
abbrev WK:=W→Sto→Prop
abbrev WX:=Str→WSt→Sto→Prop
abbrev WE:=WX→WSt→Sto→WK→Prop
abbrev WT:=WX→WSt→Sto→(Bool→Sto→Prop)→Prop
abbrev WA:=WX→WSt→Sto→(List W→Sto→Prop)→Prop
structure WEnds where
  nx:WSt→Sto→Prop
  rt:WK
  bk:WSt→Sto→Prop:=λ_ _=>False
  ct:WSt→Sto→Prop:=λ_ _=>False
abbrev WS:=WX→WEnds→WSt→Sto→Prop
abbrev WG:=W→WSt→Sto→(WSt→Sto→Prop)→Prop
abbrev WSp:=List W→Sto→WK→(Str→Sto→Prop)→Prop
abbrev WI:=WX→WSt→Sto→(List W→(Sto→Prop)→Sto→Prop)→Prop
abbrev WL:=WX→WSt→Sto→(List W→Sto→Prop)→Prop
noncomputable def RpO (K:ah) (H:Hp):Option W→Option V→Prop
 |none,_=>True
 |some w,ae v=>Rep K H w v
 |some _,none=>False
def RpSt (K:ah) (H:Hp) (σW:WSt) (σ:St):Prop:=bN (RpO K H) σW σ
section
variable {K:ah}{H H':Hp}{S S':Sto}
theorem RpO.ext (e:Ext H S H' S'):∀{w:Option W}{v:Option V},RpO K H w v→RpO K H' w v
 |none,_,_=>trivial
 |some _,ae _,h=>Rep.ext e h
 |some _,none,h=>h.elim
theorem RpSt.ext (e:Ext H S H' S') {σW:WSt}{σ:St}(h:RpSt K H σW σ):RpSt K H' σW σ:=Paired.mapP h λ_ _ r=>RpO.ext e r
theorem RpSt.get:∀{σW:WSt}{σ:St}{i:Nat}{w:W},RpSt K H σW σ→σW[i]? =ae (ae w)→ ∃v,σ[i]? =ae (ae v)∧Rep K H w v
 |_,_,_,_, .nil,e=>by simp at e
 |_,_,0,_, .cons (b:=b) h _,e=>by
  simp at e;subst e;cases b with
  |none=>exact(show False from h).elim
  |some v=>exact⟨v,rfl,h⟩
 |_,_,i+1,w, .cons _ hs,e=>by
  obtain⟨v,h1,h2⟩:=RpSt.get (i:=i) (w:=w) hs (by simpa using e);exact⟨v,by simpa using h1,h2⟩
theorem RpSt.set{w:W}{v:V}(h:Rep K H w v):∀{σW:WSt}{σ:St}(i:Nat),RpSt K H σW σ→RpSt K H (σW.set i (ae w)) (σ.set i (ae v))
 |_,_,_, .nil=> .nil
 |_,_,0, .cons _ t=> .cons h t
 |_,_,i+1, .cons q t=> .cons q (RpSt.set h i t)
end
def Wish (K:ah) (H:Hp) (S:Sto) (QW:WK) (Q:VK):Prop:=∀w S' v H',Ext H S H' S'→Rep K H' w v→RepS K H' S'→QW w S'→Q v H'
noncomputable def zyl (K:ah) (t:WSt→Sto→WK→Prop):TE:=λσ H Q=>∃σW S QW,RpSt K H σW σ∧RepS K H S∧t σW S QW∧Wish K H S QW Q
noncomputable def zuP (K:ah) (t:WSt→Sto→(Bool→Sto→Prop)→Prop):TT:=λσ H Q=>∃σW S QW,RpSt K H σW σ∧RepS K H S∧t σW S QW∧ ∀b S' H',Ext H S H' S'→RepS K H' S'→QW b S'→Q b H'
noncomputable def zyI (K:ah) (t:WSt→Sto→(List W→Sto→Prop)→Prop):TA:=λσ H Q=>∃σW S QW,RpSt K H σW σ∧RepS K H S∧t σW S QW∧ ∀ws S' vs H',Ext H S H' S'→Reps K H' ws vs→RepS K H' S'→QW ws S'→Q vs H'
def Goes (K:ah) (H:Hp) (S:Sto) (P:WSt→Sto→Prop) (Q:St→Hp→Prop):Prop:=∀σW S' σ H',Ext H S H' S'→RpSt K H' σW σ→RepS K H' S'→P σW S'→Q σ H'
structure Meets (K:ah) (H:Hp) (S:Sto) (DW:WEnds) (D:Ends):Prop where
  nx:Goes K H S DW.nx D.nx
  rt:Wish K H S DW.rt D.rt
  bk:Goes K H S DW.bk D.bk
  ct:Goes K H S DW.ct D.ct
noncomputable def zxr (K:ah) (t:WEnds→WSt→Sto→Prop):TS:=λD σ H=>∃σW S DW,RpSt K H σW σ∧RepS K H S∧t DW σW S∧Meets K H S DW D
noncomputable def zyq (K:ah) (t:WG):TG:=λv σ H Q=>∃w σW S P,Rep K H w v∧RpSt K H σW σ∧RepS K H S∧t w σW S P∧Goes K H S P Q
def ItW (K:ah) (J:It) (ws:List W) (G:Sto→Prop) (H0:Hp) (S0:Sto):Prop:=∀i S H,Ext H0 S0 H S→RepS K H S→G S→
 (∀w,ws[i]? =ae w→J.go i H∧ ∀x H',J.yld i H x H'→Ext H S H' S∧RepS K H' S∧Rep K H' w x)∧(i=ws.length→J.stop i H)
noncomputable def zxW (K:ah) (t:WSt→Sto→(List W→(Sto→Prop)→Sto→Prop)→Prop):TI:=λσ H R=>∃σW S QW,RpSt K H σW σ∧RepS K H S∧t σW S QW∧
 ∀ws G S' J H',Ext H S H' S'→RepS K H' S'→G S'→ItW K J ws G H' S'→QW ws G S'→R J H'
noncomputable def zwu (K:ah) (t:WSt→Sto→(List W→Sto→Prop)→Prop):TE:=λσ H Q=>∃σW S QW,RpSt K H σW σ∧RepS K H S∧t σW S QW∧
 ∀ws S' vs a H',Ext H S H' S'→H a=none→H' a=ae (.lst vs)→S' a=none→Reps K H' ws vs→RepS K H' S'→QW ws S'→Q (.ref a) H'
noncomputable def zcV (K:ah) (sp:WSp):Sp:=λvs H Q E=>∃ws S QW EW,Reps K H ws vs∧RepS K H S∧sp ws S QW EW∧Wish K H S QW Q∧
 ∀cl C S' H',aU K aL cl=ae (ae (.ref C))→RepS K H' S'→EW cl S'→E (.ref C) none H'
def Fly (g h:Heap) (H:Hp) (a C:Addr):Prop:=g.get? a=none∧H a=none∧ ∃oe vs T oT ts,h.get? a=ae oe∧oe.cls= .ref C∧oe.data= .fields vs∧vs[1]? =ae (.ref T)∧
 g.get? T=none∧H T=none∧T≠a∧h.get? T=ae oT∧oT.data= .fields ts∧ts[3]? =ae .none
noncomputable def CX1 (P:aE) (w:az):CXT:=λouter H s E e s'=>∃a C H',e= .ref a∧s'.os=s.os∧b_ s'.gens∧Un (frs outer) [] H H' s.heap s'.heap∧HOk P w H' s'.heap∧Fly s.heap s'.heap H' a C∧E (.ref C) none H'
structure Hook (X:Cx) (E:WX):Prop where
  own:fh (ao X.prog X.w) X.A X.env X.xe
  far:∀(pins:List (Addr×Obj)) (σ:St) (H:Hp) (s:ag) (σW:WSt) (cl:Str) (C a:Addr) (H':Hp) (S':Sto) (s':ag),Inv X pins σ H s→RpSt X.K H σW σ→aU X.K aL cl=ae (ae (.ref C))→
    s'.os=s.os→b_ s'.gens→Un (frs X.stack) [] H H' s.heap s'.heap→HOk X.prog X.w H' s'.heap→Fly s.heap s'.heap H' a C→RepS X.K H' S'→E cl σW S'→X.xe (.ref a) s'
  near:∀(pins:List (Addr×Obj)) (σ:St) (H:Hp) (s:ag) (σW:WSt) (cl:Str) (C a:Addr) (S:Sto) (h':Heap) (args:List Value),Inv X pins σ H s→RpSt X.K H σW σ→aU X.K aL cl=ae (ae (.ref C))→
    Heap.MadeExcOf s.heap h' a (.ref C) args→RepS X.K H S→E cl σW S→X.xe (.ref a) { s with heap:=h' }
def JE (X:Cx) (e:Expr) (t:WE):Prop:=∀E,Hook X E→PE X e (zyl X.K (t E))
def JT (X:Cx) (e:Expr) (t:WT):Prop:=∀E,Hook X E→PT X e (zuP X.K (t E))
def JW (X:Cx) (e:Expr) (t:WT):Prop:=∀E,Hook X E→PW X e (zuP X.K (t E))
def JA (X:Cx) (es:List Expr) (t:WA):Prop:=∀E,Hook X E→PA X es (zyI X.K (t E))
def JS (X:Cx) (st:Stmt) (t:WS):Prop:=∀E,Hook X E→PS X st (zxr X.K (t E))
def JSs (X:Cx) (st:List Stmt) (t:WS):Prop:=∀E,Hook X E→PSs X st (zxr X.K (t E))
def JG (X:Cx) (tg:Expr) (t:WG):Prop:=∀E,Hook X E→PG X tg (zyq X.K t)
def JI (X:Cx) (tg iter:Expr) (t:WI):Prop:=∀E,Hook X E→PI X tg iter (zxW X.K (t E))
def JL (X:Cx) (e:Expr) (t:WL):Prop:=∀E,Hook X E→PE X e (zwu X.K (t E))
theorem PE.mono{X:Cx}{e:Expr}{t t':TE}(h:PE X e t) (q:∀σ H Q,t' σ H Q→t σ H Q):PE X e t':=λpins s σ H Q I z=>h pins s σ H Q I (q σ H Q z)
theorem PT.mono{X:Cx}{e:Expr}{t t':TT}(h:PT X e t) (q:∀σ H Q,t' σ H Q→t σ H Q):PT X e t':=λpins s σ H Q I z=>h pins s σ H Q I (q σ H Q z)
theorem PW.mono{X:Cx}{e:Expr}{t t':TT}(h:PW X e t) (q:∀σ H Q,t' σ H Q→t σ H Q):PW X e t':=λwh pins s σ H Q I z=>h wh pins s σ H Q I (q σ H Q z)
theorem PA.mono{X:Cx}{e:List Expr}{t t':TA}(h:PA X e t) (q:∀σ H Q,t' σ H Q→t σ H Q):PA X e t':=λpos pins s σ H Q I z=>h pos pins s σ H Q I (q σ H Q z)
theorem PS.mono{X:Cx}{e:Stmt}{t t':TS}(h:PS X e t) (q:∀D σ H,t' D σ H→t D σ H):PS X e t':=λpins s σ H D I z=>h pins s σ H D I (q D σ H z)
theorem PSs.mono{X:Cx}{e:List Stmt}{t t':TS}(h:PSs X e t) (q:∀D σ H,t' D σ H→t D σ H):PSs X e t':=λpins s σ H D I z=>h pins s σ H D I (q D σ H z)
theorem PG.mono{X:Cx}{e:Expr}{t t':TG}(h:PG X e t) (q:∀v σ H Q,t' v σ H Q→t v σ H Q):PG X e t':=λpins s σ H v u Q I r z=>h pins s σ H v u Q I r (q v σ H Q z)
theorem PI.mono{X:Cx}{tg e:Expr}{t t':TI}(h:PI X tg e t) (q:∀σ H R,t' σ H R→t σ H R):PI X tg e t':=λpins s σ H R I z=>h pins s σ H R I (q σ H R z)
noncomputable def wVar (i:Nat):WE:=λ_ σ S Q=>match σ[i]? with
 |some (ae w)=>Q w S
 |_=>False
noncomputable def wC (w:W):WE:=λ_ _ S Q=>Q w S
section
variable {X:Cx}
theorem jv (i:Nat) {x:Str}{pos:aA}(hN:X.N[i]? =ae x:=by rfl) (hv:Vis X.env.scope x:=by first |exact ak rfl |exact cJ (ak rfl) |exact cJ (cJ rfl)) (hd:(x == ("__debug__" :Str))=false:=by decide)
  (hcd:(x == ("__classdict__" :Str))=false:=by decide):JE X (.Name x pos) (wVar i):=λE hE=>(zxP hN hv hd hcd).mono λσ H Q ⟨σW,S,QW,hσ,hS,ht,hQ⟩=>by
 unfold wVar at ht;split at ht
 ·rename_i w e;obtain⟨v,e',r⟩:=hσ.get e;exact⟨v,e',hQ w S v H .refl r hS ht⟩
 ·exact ht.elim
theorem zpf{e:Expr}{v:V}{w:W}(h:PE X e (tC v)) (r:∀K H,Rep K H w v):JE X e (wC w):=λE hE=>h.mono λσ H Q ⟨σW,S,QW,hσ,hS,ht,hQ⟩=>hQ w S v H .refl (r _ _) hS ht
theorem zad{i j pos}:JE X (.Constant (.int i) j pos) (wC (.int i)):=zpf zvD λ_ _=> .int i
theorem zeI{b j pos}:JE X (.Constant (.bool b) j pos) (wC (.bl b)):=zpf zzB λ_ _=> .bl b
theorem zcR{j pos}:JE X (.Constant .none j pos) (wC .non):=zpf zwl λ_ _=> .non
theorem zdH{x j pos}:JE X (.Constant (.str x) j pos) (wC (.str x)):=zpf zxN λ_ _=> .str x
theorem zcj{x:Str}{i:Int}{u:bc}{pos:aA}(hg:Gl X x) (hm:X.mg x=ae (.int i u)) (hd:(x == ("__debug__" :Str))=false:=by decide):JE X (.Name x pos) (wC (.int i)):=zpf (v:= .int i) (ztK hg hm ⟨u,rfl⟩ hd) λ_ _=> .int i
end
abbrev W2:=W→W→Sto→WK→Prop
noncomputable def wOp (r:W2) (a b:WE):WE:=λE σ S Q=>a E σ S λx S1=>b E σ S1 λy S2=>r x y S2 Q
def OpW (K:ah) (r:R2) (wr:W2):Prop:=∀H x y wx wy S (Q:VK) (QW:WK),Rep K H wx x→Rep K H wy y→RepS K H S→wr wx wy S QW→Wish K H S QW Q→r x y H Q
theorem Wish.from{K:ah}{H H':Hp}{S S':Sto}{QW:WK}{Q:VK}(h:Wish K H S QW Q) (e:Ext H S H' S'):Wish K H' S' QW Q:=λw S v H'' e' r hS q=>h w S v H'' (e.trans e') r hS q
theorem Goes.from{K:ah}{H H':Hp}{S S':Sto}{P:WSt→Sto→Prop}{Q:St→Hp→Prop}(h:Goes K H S P Q) (e:Ext H S H' S'):Goes K H' S' P Q:=λσW S σ H'' e' r hS q=>h σW S σ H'' (e.trans e') r hS q
theorem Meets.from{K:ah}{H H':Hp}{S S':Sto}{DW:WEnds}{D:Ends}(h:Meets K H S DW D) (e:Ext H S H' S'):Meets K H' S' DW D:=⟨h.nx.from e,h.rt.from e,h.bk.from e,h.ct.from e⟩
section
variable {X:Cx}{a b:Expr}{pos:aA}
theorem zfC{K:ah}{ta tb:WSt→Sto→WK→Prop}{wr:W→W→Sto→WK→Prop}{σ:St}{H:Hp}{Q:VK}{R:V→V→Hp→Prop}
  (h:zyl K (λσ S Q=>ta σ S λx S1=>tb σ S1 λy S2=>wr x y S2 Q) σ H Q)
  (hR:∀H2 x y wx wy S (QW:WK),Rep K H2 wx x→Rep K H2 wy y→RepS K H2 S→wr wx wy S QW→Wish K H2 S QW Q→R x y H2) :
  zyl K ta σ H λx H1=>zyl K tb σ H1 λy H2=>R x y H2:=by
 obtain⟨σW,S,QW,hσ,hS,ht,hQ⟩:=h;refine⟨σW,S,_,hσ,hS,ht,λw1 S1 v1 H1 e1 r1 hS1 h1=>?_⟩;refine⟨σW,S1,_,hσ.ext e1,hS1,h1,λw2 S2 v2 H2 e2 r2 hS2 h2=>?_⟩;exact hR H2 v1 v2 w1 w2 S2 QW (r1.ext e2) r2 hS2 h2 (hQ.from (e1.trans e2))
theorem zkn{op:fv}{r:R2}{wr:W2}{ta tb:WE}(ho:OpR X (bL op) r) (hw:OpW X.K r wr) (ha:JE X a ta) (hb:JE X b tb):JE X (.BinOp a op b pos) (wOp wr ta tb):=λE hE=>
 (zpp ho (ha E hE) (hb E hE)).mono λσ H Q h=>zfC h λH2 x y wx wy S QW rx ry hS q hQ=>hw H2 x y wx wy S Q QW rx ry hS q hQ
theorem zxX{op:cO}{r:R2}{wr:W2}{ta tb:WE}(ho:OpR X (bf op) r) (hw:OpW X.K r wr) (ha:JE X a ta) (hb:JE X b tb) (hm:cT op b=false):JE X (.Compare a [op] [b] pos) (wOp wr ta tb):=λE hE=>
 (zvd ho (ha E hE) (hb E hE) hm).mono λσ H Q h=>zfC h λH2 x y wx wy S QW rx ry hS q hQ=>hw H2 x y wx wy S Q QW rx ry hS q hQ
end
theorem ObjOk.ex{P:aE}{w:az}{H:Hp}{h:Heap}{a:Addr}{o:HO}(x:ObjOk P w H h a o):∃u,h.get? a=ae u:=by
 cases o with
 |lst xs=>obtain⟨_,_,_,_,e⟩:=x;exact⟨_,e⟩
 |tup xs=>obtain⟨_,_,_,o,e,_⟩:=x;exact⟨_,e⟩
 |dK kvs=>obtain⟨_,_,_,_,o,_,_,e,_⟩:=x;exact⟨_,e⟩
 |dT kvs=>obtain⟨_,_,_,_,o,_,_,e,_⟩:=x;exact⟨_,e⟩
 |set S n=>obtain⟨o,_,_,_,e,_⟩:=x;exact⟨_,e⟩
 |ins C dx fs=>obtain⟨_,_,_,e,_⟩:=x;exact⟨_,e⟩
 |own y=>exact x
 |xd fs=>obtain⟨_,⟨_,_,_,e,_⟩,_⟩:=x;exact⟨_,e⟩
 |rng lo hi=>obtain⟨_,_,_,e⟩:=x;exact⟨_,e⟩
 |frz ob u=>obtain⟨e,_⟩:=x;exact⟨_,e⟩
 |tbl ps=>exact⟨_,show h.get? a=ae _ from x⟩
 |met f y=>exact⟨_,show h.get? a=ae _ from x⟩
 |ext φ=>exact x.2.1
noncomputable def unt (H:Hp) (S:Sto):Hp:=λb=>match H b with
 |some (.lst xs)=>match S b with
  |none=>none
  |some _=>ae (.lst xs)
 |o=>o
noncomputable def rtk (H:Hp) (S:Sto) (H':Hp):Hp:=λb=>match unt H S b with
 |none=>match H b with
  |some o=>ae o
  |none=>H' b
 |some _=>match H' b with
  |some o=>ae o
  |none=>ae (.ext λh=>∃o,h.get? b=ae o)
section
variable {w:az}{K:ah}{H:Hp}{S:Sto}{h:Heap}{b:Addr}{o:HO}
theorem zmx (e:unt H S b=ae o):H b=ae o:=by
 unfold unt at e;split at e
 ·rename_i xs q;split at e
  ·cases e
  ·rw[q];exact e
 ·exact e
theorem zey (e:H b=none):unt H S b=none:=by unfold unt;rw[e]
theorem zlh (e:H b=ae o) (n:∀xs,o≠ .lst xs):unt H S b=ae o:=by
 unfold unt;rw[e];cases o<;>first |rfl |exact absurd rfl (n _)
theorem zsJ{u:Ob}(e:H b=ae o) (hs:S b=ae u):unt H S b=ae o:=by
 unfold unt;rw[e];cases o<;>first |rfl | (dsimp only;rw[hs])
theorem znD{xs:List V}(e:H b=ae (.lst xs)) (hs:S b=none):unt H S b=none:=by
 unfold unt;rw[e];dsimp only;rw[hs]
theorem zwh (e:unt H S b=none) (q:H b=ae o):(∃xs,o= .lst xs)∧S b=none:=by
 unfold unt at e;rw[q]at e;cases o<;>first |cases e |skip;rename_i xs;dsimp only at e;split at e
 ·exact⟨⟨xs,rfl⟩, ‹_›⟩
 ·cases e
mutual
theorem Rep.mv{H1:Hp}(t:∀b xs,H b=ae (.tup xs)→H1 b=ae (.tup xs)) (f:∀b o u,H b=ae (.frz o u)→H1 b=ae (.frz o u)) {w:W}{v:V}:Rep K H w v→Rep K H1 w v
 | .non=> .non
 | .bl b=> .bl b
 | .int i=> .int i
 | .str x=> .str x
 | .ref a=> .ref a
 | .scr h=> .scr (by
  rcases h with⟨o,h⟩ |h
  ·exact .inl ⟨o,f _ _ _ h⟩
  ·exact .inr h)
 | .tup h hs=> .tup (t _ _ h) (Reps.mv t f hs)
theorem Reps.mv{H1:Hp}(t:∀b xs,H b=ae (.tup xs)→H1 b=ae (.tup xs)) (f:∀b o u,H b=ae (.frz o u)→H1 b=ae (.frz o u)) {ws:List W}{vs:List V}:Reps K H ws vs→Reps K H1 ws vs
 | .nil=> .nil
 | .cons h hs=> .cons (Rep.mv t f h) (Reps.mv t f hs)
end
theorem zfW:∀b xs,H b=ae (.tup xs)→unt H S b=ae (.tup xs):=λb xs e=>zlh e λ_ z=>nomatch z
theorem zii:∀b o u,H b=ae (.frz o u)→unt H S b=ae (.frz o u):=λb o u e=>zlh e λ_ z=>nomatch z
theorem RepS.unt (r:RepS K H S):RepS K (unt H S) S:=λa o e=>by
 have q:=r a o e;cases o with
 |lst ws=>obtain⟨vs,z,rs⟩:=q;exact⟨vs,zsJ z e,Reps.mv zfW zii rs⟩
 |dct kvs=>obtain⟨ps,z,rs⟩:=q;exact⟨ps,zsJ z e,Paired.mapP rs λ_ _ z=>⟨z.1,Rep.mv zfW zii z.2⟩⟩
 |ins C fs=>exact q.elim
theorem HOk.unt (x:HOk P w H h):HOk P w (unt H S) h:=λa o e=>
 (x a o (zmx e)).stay (λ_ _ _ q=>q) (λb q=>zlh q λ_ z=>nomatch z) λb xs q=>zfW b xs q
theorem zeg (ok:HOk P w H h) (un:Un fs [] (unt H S) H' h h') (e:H' b=ae o):rtk H S H' b=ae o:=by
 unfold rtk;split
 ·rename_i q;split
  ·rename_i u z;obtain⟨ob,eo⟩:=(ok b u z).ex;rw[un.free b ob eo q (by simp)]at e;cases e
  ·exact e
 ·rw[e]
theorem zmu (un:Un fs [] (unt H S) H' h h') (ok:HOk P w H h):Un fs [] H (rtk H S H') h h' where
  keep:=λb o e n hb hx=>un.keep b o e (zey n) hb hx
  slot:=λb o e n hb hx=>un.slot b o e (zey n) hb hx
  free:=λb o e n hx=>by
    unfold rtk;rw[zey n,n];exact un.free b o e (zey n) hx
  there:=un.there
  tups:=λb xs e=>zeg ok un (un.tups b xs (zfW b xs e))
  frzs:=λb o u e=>zeg ok un (un.frzs b o u (zii b o u e))
  tbls:=λb ps e=>by
    obtain⟨m,z⟩:=un.tbls b ps (zlh e λ_ z=>nomatch z);exact⟨m,zeg ok un z⟩
theorem zsM (un:Un fs [] (unt H S) H' h h') (ok:HOk P w H h) (ok':HOk P w H' h') (hf:∀b∈fs,H b=none):HOk P w (rtk H S H') h':=λb o e=>by
 have back:∀{o},H' b=ae o→ObjOk P w (rtk H S H') h' b o:=λ{o} q=>(ok' b o q).stay (λ_ _ _ z=>z) (λc z=>zeg ok un z) λc xs z=>zeg ok un z;unfold rtk at e;split at e
 ·rename_i q;split at e
  ·rename_i u z;cases e;obtain⟨⟨xs,rfl⟩,_⟩:=zwh q z;obtain⟨l,its,n,r,g⟩:=ok b _ z;exact⟨l,its,n,r,un.keep b _ g q (λhb=>by rw[hf b hb]at z;cases z) (by simp)⟩
  ·exact back e
 ·rename_i u q;split at e
  ·rename_i u' z;cases e;exact back z
  ·rename_i z;cases e;obtain⟨ob,eo⟩:=(ok b u (zmx q)).ex;obtain⟨ob',eo'⟩:=un.there b ob eo (by simp);exact⟨⟨ob',eo'⟩,⟨ob',eo'⟩,λh1 h2 ⟨o,z⟩ k=>⟨o,k o z⟩⟩
theorem zvt (e:H b=ae o):∃o',rtk H S H' b=ae o':=by
 unfold rtk;split
 ·rw[e];exact⟨_,rfl⟩
 ·split
  ·exact⟨_,rfl⟩
  ·exact⟨_,rfl⟩
theorem znJ (un:Un fs [] (unt H S) H' h h') (ok:HOk P w H h) (r:RepS K H' S'):Ext H S (rtk H S H') S' where
  tup:=λb xs e=>(zmu un ok).tups b xs e
  frz:=λb o u e=>(zmu un ok).frzs b o u e
  fr:=λb xs e hs=>by
    refine⟨?_,?_⟩
    · unfold rtk;rw[znD e hs,e]
    · cases q:S' b with
      |none=>rfl
      |some u=>
        obtain⟨v,z⟩:=(r b u q).some;obtain⟨ob,eo⟩:=(ok b _ e).ex;rw[un.free b ob eo (znD e hs) (by simp)]at z;cases z
  all:=λb o e=>zvt e
theorem zsC (un:Un fs [] (unt H S) H' h h') (ok:HOk P w H h):Ext H' S' (rtk H S H') S' where
  tup:=λb xs e=>zeg ok un e
  frz:=λb o u e=>zeg ok un e
  fr:=λb xs e hs=>⟨zeg ok un e,hs⟩
  all:=λb o e=>⟨o,zeg ok un e⟩
theorem zvX (un:Un fs [] (unt H S) H' h h') (ok:HOk P w H h) (r:RepS K H' S'):RepS K (rtk H S H') S':=λa o e=>(r a o e).keep (zsC (S':=S') un ok) λu z=>zeg ok un z
end
theorem zzw{X:Cx}{k:Nat}{f:Addr}{fd:bH}{ps:List Str}{c:WSp}{E:WX}{pins:List (Addr×Obj)}{σ:St}{σW:WSt}{H:Hp}{S:Sto}{s:ag}{Q:VK}{QW:WK}{us:List Value}{vs:List V}{ws:List W}
  (F:FnOk X.prog X.w X.K X.mg X.base (CX1 X.prog X.w) k f fd ps (zcV X.K c)) (hr:Room k X.A) (hb:Binds X.K fd ps []) (I:Inv X pins σ H s) (r:Vals vs us) (rs:Reps X.K H ws vs) (hσ:RpSt X.K H σW σ) (hS:RepS X.K H S)
  (h:c ws S QW λcl S'=>E cl σW S') (hQ:Wish X.K H S QW Q)
  (hx:∀(cl:Str) (C a:Addr) (H':Hp) (S':Sto) (s':ag),aU X.K aL cl=ae (ae (.ref C))→s'.os=s.os→b_ s'.gens→Un (frs X.stack) [] H H' s.heap s'.heap→HOk X.prog X.w H' s'.heap→Fly s.heap s'.heap H' a C→Ext H S H' S'→RepS X.K H' S'→E cl σW S'→X.xe (.ref a) s'):aj (ao X.prog X.w) X.A (call (.ref f) us) (EP X pins σ Q) X.xe s:=by
 have e0:=I.env0;have sp:zcV X.K c vs (unt H S) (λv H'=>∃w S',Rep X.K H' w v∧RepS X.K H' S'∧QW w S') (λcv _ H'=>∃cl C S',cv= .ref C∧aU X.K aL cl=ae (ae (.ref C))∧RepS X.K H' S'∧E cl σW S'):=
  ⟨ws,S,QW,_,Reps.mv zfW zii rs,hS.unt,h,λw S' v H' _ r1 r2 q=>⟨w,S',r1,r2,q⟩,λcl C S' H' hn hS' q=>⟨cl,C,S',rfl,hn,hS',q⟩⟩
 have e1:Env0 X.prog X.w X.K X.mg X.base X.A X.stack s (unt H S):=⟨e0.frames,e0.mod,λb o e=>⟨(e0.bs b o e).1,zey (e0.bs b o e).2⟩,e0.bsz,e0.funs,λb hb=>zey (e0.frf b hb),e0.hok.unt,e0.bare⟩;have hl:us.length=ps.length:=by rw[←r.length];exact F.len _ _ _ _ sp
 have hb':=hb s us I.kIn (by rw[bv];exact hl);rw[bv]at hb';refine wpAny_call (iq (F.run X.A X.stack s (unt H S) ⟨us,[]⟩ us vs _ _ hr e1 hb' r sp) λrr s' hq=>?_);cases rr with
 |error e=>
  obtain⟨a,C,H',rfl,os,bare,un,ok',fly,cl,C',S',ec,hn,hS',q⟩:=hq;cases ec;refine hx cl C a (rtk H S H') S' s' hn os bare (zmu un I.hok) (zsM un I.hok ok' e0.frf) ?_ (znJ un I.hok hS') (zvX un I.hok hS') q;obtain⟨g1,g2,oe,vs',T,oT,ts,a1,a2,a3,a4,a5,a6,a7⟩:=fly;have free:∀{b:Addr},s.heap.get? b=none→H' b=none→rtk H S H' b=none:=λ{b} q1 q2=>by
   have hn:H b=none:=by
    cases z:H b with
    |none=>rfl
    |some u=>obtain⟨ob,eo⟩:=(I.hok b u z).ex;rw[q1]at eo;cases eo
   unfold rtk;rw[zey hn,hn];exact q2
  exact⟨g1,free g1 g2,oe,vs',T,oT,ts,a1,a2,a3,a4,a5,free a5 a6,a7⟩
 |ok fl=>
  cases fl with
  |ret u=>
   obtain⟨v,H',os,bare,un,ok',rv,w,S',r1,r2,q⟩:=hq;exact⟨v,rtk H S H',I.call' os (zmu un I.hok) (zsM un I.hok ok' e0.frf) bare (λ_ z=>nomatch z),rv,hQ w S' v _ (znJ un I.hok r2) (r1.ext (zsC (S':=S') un I.hok)) (zvX un I.hok r2) q⟩
  |next=>exact cA hq
  |brk=>exact cA hq
  |cont=>exact cA hq
theorem zzC{X:Cx}{k:Nat}{f:Addr}{fd:bH}{ps:List Str}{c:WSp}{E:WX}{pins:List (Addr×Obj)}{σ:St}{σW:WSt}{H:Hp}{S:Sto}{s:ag}{Q:VK}{QW:WK}{us:List Value}{vs:List V}{ws:List W}
  (F:FnOk X.prog X.w X.K X.mg X.base (CX1 X.prog X.w) k f fd ps (zcV X.K c)) (hr:Room k X.A) (hb:Binds X.K fd ps []) (hE:Hook X E) (I:Inv X pins σ H s) (r:Vals vs us) (rs:Reps X.K H ws vs) (hσ:RpSt X.K H σW σ) (hS:RepS X.K H S)
  (h:c ws S QW λcl S'=>E cl σW S') (hQ:Wish X.K H S QW Q):aj (ao X.prog X.w) X.A (call (.ref f) us) (EP X pins σ Q) X.xe s:=
 zzw (E:=E) F hr hb I r rs hσ hS h hQ λcl C a H' S' s' hn os bare un ok fly _ hS' q=>hE.far pins σ H s σW cl C a H' S' s' I hσ hn os bare un ok fly hS' q
theorem zqe{X:Cx}{pins:List (Addr×Obj)}{σ:St}{H':Hp}{s':ag}{a C:Addr}{hid:List Addr}{h':Heap}(I:Inv X pins σ H' s') (hst:X.stack=X.env::X.outer) (hf:X.env.frame=ae X.env.locals) (hex:X.ex=[])
  (h0:∀b∈hid,X.s₀.heap.get? b=none∧H' b=none) (ha:a∈hid) (L:Heap.Left (eZ s'.heap (hid++frs X.stack)) X.stack a (.ref C) s'.heap h') :
  Un X.fs [] X.H₀ H' X.s₀.heap h'∧HOk X.prog X.w H' h'∧Fly X.s₀.heap h' H' a C:=by
 obtain⟨st,ff,tr,sl⟩:=L;have keepB:∀b o,s'.heap.get? b=ae o→b∉hid→b∉frs X.stack→h'.get? b=ae o:=λb o e h1 h2=>st b o (gC _ e λz=>(bb.mp z).elim h1 h2);have nh:∀b o,X.s₀.heap.get? b=ae o→b∉hid:=λb o e hb=>by rw[(h0 b hb).1]at e;cases e
 have slotB:∀b o,b∈frs X.stack→s'.heap.get? b=ae o→ ∃sl,h'.get? b=ae { o with slots:=sl }:=λb o hb e=>by
  obtain⟨_,o',eo',nf⟩:=I.stack.mem hb;rw[e]at eo';cases eo';exact sl b o e nf
 have nx:∀b:Addr,b∉X.ex:=λb=>by rw[hex];simp
 have fsS:∀b∈X.fs,b∈frs X.stack:=λb hb=>by
  rw[hst];unfold frs;rw[fE,hf];exact aC _ hb
 refine⟨⟨λb o e n hb _=>?_,λb o e n hb _=>?_,λb o e n _=>I.base.free b o e n (nx b),λb o e _=>?_,I.base.tups,I.base.frzs,I.base.tbls⟩,λb o e=>?_,(h0 a ha).1,(h0 a ha).2,?_⟩
 ·refine keepB b o (I.base.keep b o e n hb (nx b)) (nh b o e) λz=>?_;rcases ax.mp (I.stkSub b z) with q |q
  ·exact absurd (bK (aF e) I.ok.above) (by rw[q];exact bZ _)
  ·exact hb q
 ·obtain⟨sl1,e1⟩:=I.base.slot b o e n hb (nx b);obtain⟨sl2,e2⟩:=slotB b _ (fsS b hb) e1;exact⟨sl2,e2⟩
 ·obtain⟨o',e1⟩:=I.base.there b o e (nx b);by_cases hb:b∈frs X.stack
  ·obtain⟨sl2,e2⟩:=slotB b _ hb e1;exact⟨_,e2⟩
  ·exact⟨o',keepB b o' e1 (nh b o e) hb⟩
 ·refine(I.hok b o e).stay (λc u hc q=>?_) (λ_ q=>q) λ_ _ q=>q;have tk:∃v,H' c=ae v:=by
   rcases hc with z |z
   ·exact⟨o,by rw[z];exact e⟩
   ·exact⟨_,z⟩
  obtain⟨v,tk⟩:=tk;exact keepB c u q (λz=>by rw[(h0 c z).2]at tk;cases tk) λz=>by rw[I.stkFree c z]at tk;cases tk
 ·obtain⟨oe,vs,T,oT,ts,e1,e2,e3,e4,e5,e6,e7,e8,e9⟩:=tr;have nf:T∉frs X.stack:=λhb=>by
   obtain⟨_,o,eo,nf⟩:=ff.mem hb;rw[e7]at eo;cases eo;exact nf ts e8
  have both:X.s₀.heap.get? T=none∧H' T=none:=by
   by_cases hT:T∈hid
   ·exact h0 T hT
   ·have z:s'.heap.get? T=none:=by
     cases q:s'.heap.get? T with
     |none=>rfl
     |some o=>
      rw[gC _ q λz=>(bb.mp z).elim hT nf]at e5;cases e5
    constructor
    ·cases q:X.s₀.heap.get? T with
     |none=>rfl
     |some o=>obtain⟨o',q'⟩:=I.base.there T o q (nx T);rw[z]at q';cases q'
    ·cases q:H' T with
     |none=>rfl
     |some u=>obtain⟨o',q'⟩:=(I.hok T u q).ex;rw[z]at q';cases q'
  exact⟨oe,vs,T,oT,ts,e1,e2,e3,e4,both.1,both.2,e6,e7,e8,e9⟩
theorem zpT{h base:Heap}{l:List bB}{hid:List Addr}(hl:h.FunFrames base l):h.FunFrames (eZ h (hid++frs l)) l:=
 PySem.W.funFrames_hide hl λenv he a ha=>a8 _ (hV.mpr ⟨env,he,ha⟩)
theorem zqQ{P:aE}{w:az}{K:ah}{mg:Str→Option Value}{base:Heap}{N:List Str}{qual:Str}{scope:Scope}{f:Addr}{cdv:Value}{A:aP}{outer:List bB}{s:ag}{H:Hp}{E:XK}{EW:Str→Sto→Prop}
    (hEW:∀cl C S' H',aU K aL cl=ae (ae (.ref C))→RepS K H' S'→EW cl S'→E (.ref C) none H'):Hook (zuX (CX1 P w) P w K mg base N qual scope f cdv A outer s H E) (λc _ S'=>EW c S') where
  own:=fh.leaving
  far:=λpins σ H1 s1 σW cl C a H' S' s' I hσ hn os bare un ok fly hS q=>by
    have I':=I.call' os un ok bare (λ_ z=>nomatch z);obtain⟨g1,g2,oe,vs,T,oT,ts,e1,e2,e3,e4,g3,g4,e5,e6,e7,e8⟩:=fly;have s0:∀{b:Addr},s1.heap.get? b=none→s.heap.get? b=none:=λ{b} z=>by
      cases q:s.heap.get? b with
      |none=>rfl
      |some o=>obtain⟨o',q'⟩:=I.base.there b o q (by exact λz=>nomatch z);rw[z]at q';cases q'
    refine wpAny_leaving_next (base:=eZ s'.heap ([a,T]++frs (cf qual scope s.heap.objs.size f cdv::outer))) I'.ok.frames (zpT I'.stack) rfl ⟨oe,vs,T,oT,ts,e1,e2,e3,e4,fy _ (by simp),e5,e6,e7,e8⟩ (λb o z=>g_ _ z) (fy _ (by simp)) λh' L=>?_;obtain⟨u1,u2,u3⟩:=zqe (hid:=[a,T]) I' rfl rfl rfl (λb hb=>by
      rcases ax.mp hb with rfl |hb
      · exact⟨s0 g1,g2⟩
      · rw[aV.mp hb];exact⟨s0 g3,g4⟩) (by simp) L
    exact⟨a,C,H',rfl,I'.os,I'.bare,u1,u2,u3,hEW cl C S' H' hn hS q⟩
  near:=λpins σ H1 s1 σW cl C a S h' args I hσ hn me hS q=>by
    have I':=I.kept (t':=s1.toks) me.keeps;obtain⟨t,e1,_,_⟩:=me.there;have s0:s.heap.get? a=none:=by
      cases q:s.heap.get? a with
      |none=>rfl
      |some o=>obtain⟨o',q'⟩:=I.base.there a o q (by exact λz=>nomatch z);rw[me.new]at q';cases q'
    have h1:H1 a=none:=by
      cases q:H1 a with
      |none=>rfl
      |some u=>obtain⟨o',q'⟩:=(I.hok a u q).ex;rw[me.new]at q';cases q'
    refine wpAny_leaving_first (base:=eZ h' ([a]++frs (cf qual scope s.heap.objs.size f cdv::outer))) (s:={ s1 with heap:=h' }) I'.ok.frames (zpT I'.stack) rfl e1 (λb o z=>g_ _ z) (fy _ (by simp)) rfl rfl λh'' L=>?_;obtain⟨u1,u2,u3⟩:=zqe (hid:=[a]) I' rfl rfl rfl (λb hb=>by rw[aV.mp hb];exact⟨s0,h1⟩) (by simp) L
    exact⟨a,C,H1,rfl,I'.os,I'.bare,u1,u2,u3,hEW cl C S H1 hn hS q⟩
def zce (S:Sto) (a:Addr) (Q:List W→Prop):Prop:=match S a with
 |some (.lst ws)=>Q ws
 |_=>False
theorem zal{S:Sto}{a:Addr}{Q:List W→Prop}{ws:List W}(h:S a=ae (.lst ws)):zce S a Q=Q ws:=by unfold zce;rw[h]
theorem zaY{S:Sto}{a:Addr}{Q:List W→Prop}(h:zce S a Q):∃ws,S a=ae (.lst ws)∧Q ws:=by
 unfold zce at h;split at h
 ·exact⟨_, ‹_›,h⟩
 ·exact h.elim
noncomputable def zsU:W→Sto→(Bool→Sto→Prop)→Prop
 | .non,S,Q=>Q false S
 | .bl b,S,Q=>Q b S
 | .int i,S,Q=>Q (i != 0) S
 | .str x,S,Q=>x.length≤sizeLine∧Q ((x.length:Int) != 0) S
 | .tup ws,S,Q=>Q (!ws.isEmpty) S
 | .ref a,S,Q=>zce S a λws=>Q (!ws.isEmpty) S
 | .scr ns,S,Q=>Q (!ns.isEmpty) S
noncomputable def zfs (t:WE):WT:=λE σ S Q=>t E σ S λw S'=>zsU w S' Q
noncomputable def wTb (t:WE):WT:=λE σ S Q=>t E σ S λw S'=>match w with
 | .bl b=>Q b S'
 |_=>False
noncomputable def zrE (t u:WT):WT:=λE σ S Q=>t E σ S λc S1=>if c=true then u E σ S1 Q else Q false S1
noncomputable def wOr (t u:WT):WT:=λE σ S Q=>t E σ S λc S1=>if c=true then Q true S1 else u E σ S1 Q
noncomputable def znC (t:WT):WT:=λE σ S Q=>t E σ S λc S1=>Q (!c) S1
noncomputable def ziS (t u:WE):WE:=λE σ S Q=>t E σ S λw S1=>match w with
 | .bl true=>u E σ S1 Q
 | .bl false=>Q (.bl false) S1
 |_=>False
noncomputable def ztN (t:WE):WE:=λE σ S Q=>t E σ S λw S1=>match w with
 | .bl b=>Q (.bl !b) S1
 |_=>False
noncomputable def wIf (c:WT) (t u:WE):WE:=λE σ S Q=>c E σ S λb S1=>if b=true then t E σ S1 Q else u E σ S1 Q
noncomputable def zcc (c:WT) (t u:WS):WS:=λE D σ S=>c E σ S λb S1=>if b=true then t E D σ S1 else u E D σ S1
noncomputable def wNext:WS:=λ_ D σ S=>D.nx σ S
noncomputable def zas (t u:WS):WS:=λE D σ S=>t E { D with nx:=u E D } σ S
noncomputable def wRet (e:WE):WS:=λE D σ S=>e E σ S D.rt
noncomputable def zdj (e:WE):WS:=λE D σ S=>e E σ S λ_ S1=>D.nx σ S1
noncomputable def wGN (i:Nat):WG:=λw σ S Q=>Q (σ.set i (ae w)) S
noncomputable def wAsg (e:WE) (g:WG):WS:=λE D σ S=>e E σ S λw S1=>g w σ S1 D.nx
abbrev WGs:=List W→WSt→Sto→(WSt→Sto→Prop)→Prop
noncomputable def zcD:WGs:=λws σ S Q=>match ws with
 | []=>Q σ S
 |_=>False
noncomputable def zav (g:WG) (u:WGs):WGs:=λws σ S Q=>match ws with
 | []=>False
 |w::r=>g w σ S λσ' S'=>u r σ' S' Q
noncomputable def wGT (u:WGs):WG:=λw σ S Q=>match w with
 | .tup ws=>u ws σ S Q
 |_=>False
section
variable {X:Cx}{a b c e:Expr}{pos:aA}{ta tb:WE}{tc tA tB':WT}{st:Stmt}{rest:List Stmt}{t u:WS}
theorem zuT{K:ah}{H:Hp}{w:W}{v:V}{S:Sto}{QW:Bool→Sto→Prop}(r:Rep K H w v) (hS:RepS K H S) (h:zsU w S QW):∃k,zyr K v H k∧QW k S:=by
 cases r with
 |non=>exact⟨false,rfl,h⟩
 |bl b=>exact⟨b,rfl,h⟩
 |int i=>exact⟨_,rfl,h⟩
 |str x=>exact⟨_,⟨h.1,rfl⟩,h.2⟩
 |ref a=>
  obtain⟨ws,e,h⟩:=zaY h;obtain⟨vs,e1,r1⟩:=hS a _ e;refine⟨_, .inl ⟨vs, .of e1,rfl⟩,?_⟩;have q:vs.isEmpty=ws.isEmpty:=by cases r1<;>rfl
  rw[q];exact h
 | @scr a ns f=>
  refine⟨_, .inl ⟨_,f.sq,rfl⟩,?_⟩;have q:(ns.map V.int).isEmpty=ns.isEmpty:=by cases ns<;>rfl
  rw[q];exact h
 | @tup a vs ws f hs=>
  refine⟨_, .inr (.inl ⟨vs, .of f,rfl⟩),?_⟩;have q:vs.isEmpty=ws.isEmpty:=by cases hs<;>rfl
  rw[q];exact h
theorem zbE (ha:JE X a ta) (he:∀whole,isTrue a X.env whole=(do let v ←whole;standAt a.pos;holding [v] (truthy v)):=by intro _;rfl):JT X a (zfs ta):=λE hE=>
 (zra (ha E hE) he).mono λσ H Q ⟨σW,S,QW,hσ,hS,ht,hQ⟩=>⟨σW,S,_,hσ,hS,ht,λw S1 v H1 e1 r1 hS1 h1=>by
  obtain⟨k,hk,q⟩:=zuT r1 hS1 h1;exact⟨k,hk,hQ k S1 H1 e1 hS1 q⟩⟩
theorem zei{op:cO}{r:R2}{wr:W2}(ho:OpR X (bf op) r) (hw:OpW X.K r wr) (ha:JE X a ta) (hb:JE X b tb) (hm:cT op b=false):JT X (.Compare a [op] [b] pos) (wTb (wOp wr ta tb)):=λE hE=>
 (ztF ho (ha E hE) (hb E hE) hm).mono λσ H Q ⟨σW,S,QW,hσ,hS,ht,hQ⟩=>by
  refine zfC (Q:=λv H1=>∃k,v= .bl k∧Q k H1) ⟨σW,S,λw S'=>match w with
   | .bl b=>QW b S'
   |_=>False,hσ,hS,ht,λw S1 v H1 e1 r1 hS1 h1=>?_⟩ λH2 x y wx wy S QW rx ry hS q hQ=>hw H2 x y wx wy S _ QW rx ry hS q hQ
  cases r1 with
  |bl k=>exact⟨k,rfl,hQ k S1 H1 e1 hS1 h1⟩
  |_=>exact h1.elim
theorem zel (ha:JT X a tA):JT X (.UnaryOp .Not a pos) (znC tA):=λE hE=>
 (zxK (ha E hE)).mono λσ H Q ⟨σW,S,QW,hσ,hS,ht,hQ⟩=>⟨σW,S,_,hσ,hS,ht,λb S1 H1 e1 hS1 h1=>hQ _ S1 H1 e1 hS1 h1⟩
theorem JW.jt (h:JW X a tA):JT X a tA:=λE hE=>(h E hE).pt
theorem zhu (ha:JT X a tA):JW X (.BoolOp .And [a] pos) tA:=λE hE=>zuf (ha E hE)
theorem zlR (ha:JT X a tA):JW X (.BoolOp .Or [a] pos) tA:=λE hE=>zwd (ha E hE)
theorem zmw{rest:List Expr}(ha:JT X a tA) (hb:JW X (.BoolOp .And (b::rest) pos) tB'):JW X (.BoolOp .And (a::b::rest) pos) (zrE tA tB'):=λE hE=>
 (zxS (ha E hE) (hb E hE)).mono λσ H Q ⟨σW,S,QW,hσ,hS,ht,hQ⟩=>⟨σW,S,_,hσ,hS,ht,λb S1 H1 e1 hS1 h1=>by
  cases b with
  |true=>exact⟨σW,S1,_,hσ.ext e1,hS1,h1,λb S2 H2 e2 hS2 h2=>hQ b S2 H2 (e1.trans e2) hS2 h2⟩
  |false=>exact hQ _ S1 H1 e1 hS1 h1⟩
theorem zrL{rest:List Expr}(ha:JT X a tA) (hb:JW X (.BoolOp .Or (b::rest) pos) tB'):JW X (.BoolOp .Or (a::b::rest) pos) (wOr tA tB'):=λE hE=>
 (zzi (ha E hE) (hb E hE)).mono λσ H Q ⟨σW,S,QW,hσ,hS,ht,hQ⟩=>⟨σW,S,_,hσ,hS,ht,λb S1 H1 e1 hS1 h1=>by
  cases b with
  |false=>exact⟨σW,S1,_,hσ.ext e1,hS1,h1,λb S2 H2 e2 hS2 h2=>hQ b S2 H2 (e1.trans e2) hS2 h2⟩
  |true=>exact hQ _ S1 H1 e1 hS1 h1⟩
theorem zgH{op}(h:JE X a ta):JE X (.BoolOp op [a] pos) ta:=λE hE=>zvL (h E hE)
theorem zgX{rest:List Expr}(ha:JE X a ta) (hb:JE X (.BoolOp .And (b::rest) pos) tb):JE X (.BoolOp .And (a::b::rest) pos) (ziS ta tb):=λE hE=>
 (zxJ (ha E hE) (hb E hE)).mono λσ H Q ⟨σW,S,QW,hσ,hS,ht,hQ⟩=>⟨σW,S,_,hσ,hS,ht,λw S1 v H1 e1 r1 hS1 h1=>by
  cases r1 with
  |bl k=>
   refine⟨k,rfl,?_⟩;cases k with
   |true=>exact⟨σW,S1,_,hσ.ext e1,hS1,h1,hQ.from e1⟩
   |false=>exact hQ _ S1 _ H1 e1 (.bl false) hS1 h1
  |_=>exact h1.elim⟩
theorem zxo (ha:JE X a ta):JE X (.UnaryOp .Not a pos) (ztN ta):=λE hE=>
 (zvw (ha E hE)).mono λσ H Q ⟨σW,S,QW,hσ,hS,ht,hQ⟩=>⟨σW,S,_,hσ,hS,ht,λw S1 v H1 e1 r1 hS1 h1=>by
  cases r1 with
  |bl k=>exact⟨k,rfl,hQ _ S1 _ H1 e1 (.bl _) hS1 h1⟩
  |_=>exact h1.elim⟩
theorem zyG (hc:JT X c tc) (ha:JE X a ta) (hb:JE X b tb):JE X (.IfExp c a b pos) (wIf tc ta tb):=λE hE=>
 (zrK (hc E hE) (ha E hE) (hb E hE)).mono λσ H Q ⟨σW,S,QW,hσ,hS,ht,hQ⟩=>⟨σW,S,_,hσ,hS,ht,λk S1 H1 e1 hS1 h1=>by
  cases k with
  |true=>exact⟨σW,S1,_,hσ.ext e1,hS1,h1,hQ.from e1⟩
  |false=>exact⟨σW,S1,_,hσ.ext e1,hS1,h1,hQ.from e1⟩⟩
theorem zau:JSs X [] wNext:=λE hE=>pss_nil.mono λD σ H ⟨σW,S,DW,hσ,hS,ht,hD⟩=>hD.nx σW S σ H .refl hσ hS ht
theorem zae (h1:JS X st t) (h2:JSs X rest u):JSs X (st::rest) (zas t u):=λE hE=>
 (zsm (h1 E hE) (h2 E hE)).mono λD σ H ⟨σW,S,DW,hσ,hS,ht,hD⟩=>
  ⟨σW,S,{ DW with nx:=u E DW },hσ,hS,ht,⟨λσW' S' σ' H' e r hS' q=>⟨σW',S',DW,r,hS',q,hD.from e⟩,hD.rt,hD.bk,hD.ct⟩⟩
theorem zai (h1:JS X st t):JSs X [st] t:=λE hE=>zty (h1 E hE)
theorem zbk (he:JE X e ta) (hs:dI e none pos.line X.env=pure false:=by rfl):JS X (.Expr e pos) (zdj ta):=λE hE=>
 (ztv (he E hE) hs).mono λD σ H ⟨σW,S,DW,hσ,hS,ht,hD⟩=>⟨σW,S,_,hσ,hS,ht,λw S1 v H1 e1 r1 hS1 h1=>hD.nx σW S1 σ H1 e1 (hσ.ext e1) hS1 h1⟩
theorem zam (he:JE X e ta):JS X (.Return (ae e) pos) (wRet ta):=λE hE=>
 (zvK (he E hE)).mono λD σ H ⟨σW,S,DW,hσ,hS,ht,hD⟩=>⟨σW,S,_,hσ,hS,ht,hD.rt⟩
theorem zaT{a b:List Stmt}(hc:JT X c tc) (ha:JSs X a t) (hb:JSs X b u):JS X (.If c a b pos) (zcc tc t u):=λE hE=>
 (zyX (hc E hE) (ha E hE) (hb E hE)).mono λD σ H ⟨σW,S,DW,hσ,hS,ht,hD⟩=>⟨σW,S,_,hσ,hS,ht,λk S1 H1 e1 hS1 h1=>by
  cases k with
  |true=>exact⟨σW,S1,DW,hσ.ext e1,hS1,h1,hD.from e1⟩
  |false=>exact⟨σW,S1,DW,hσ.ext e1,hS1,h1,hD.from e1⟩⟩
theorem zaq{i:Nat}{x:Str}(hN:X.N.Nodup) (hi:X.N[i]? =ae x) (hx:Loc X.env.scope x) (hf:X.fn x=true∨X.env.scope.names.lookup x=ae .local:=by first |exact .inl rfl |exact .inr rfl |assumption):JG X (.Name x pos) (wGN i):=λE hE=>
 (zuD hN hi hx hf).mono λv σ H Q ⟨w,σW,S,P,r,hσ,hS,ht,hP⟩=>hP _ S _ H .refl (hσ.set r i) hS ht
def JGs (X:Cx) (tgs:List Expr) (t:WGs):Prop:=∀E,Hook X E→PGs X tgs (λvs σ H Q=>∃ws σW S P,Reps X.K H ws vs∧RpSt X.K H σW σ∧RepS X.K H S∧t ws σW S P∧Goes X.K H S P Q)
theorem zdh:JGs X [] zcD:=λE hE pins s σ H vs us Q I r h=>by
 obtain⟨ws,σW,S,P,rs,hσ,hS,ht,hP⟩:=h;unfold zcD at ht;split at ht
 ·cases rs;exact ztA pins s σ H [] us Q I r ⟨rfl,hP σW S σ H .refl hσ hS ht⟩
 ·exact ht.elim
theorem zaJ{es:List Expr}{g:WG}{gs:WGs}(h1:JG X e g) (h2:JGs X es gs)
  (hs:(cy (e::es) X.env).map (·.2)=assign e X.env::(cy es X.env).map (·.2):=by rfl):JGs X (e::es) (zav g gs):=λE hE pins s σ H vs us Q I r h=>by
 obtain⟨ws,σW,S,P,rs,hσ,hS,ht,hP⟩:=h;unfold zav at ht;split at ht
 ·exact ht.elim
 ·cases rs with
  |cons r1 r2=>
   refine zrQ (h1 E hE) (h2 E hE) hs pins s σ H _ us Q I r ⟨_,_,rfl,⟨_,σW,S,_,r1,hσ,hS,ht,λσW' S' σ' H' e' rr hS' q=>?_⟩⟩;exact⟨_,σW',S',P,r2.ext e',rr,hS',q,hP.from e'⟩
theorem zef{es:List Expr}{k n:Nat}{gs:WGs}(h:JGs X es gs) (hlen:∀ws σ S P,gs ws σ S P→ws.length=n)
  (hn:(cy es X.env).length=n:=by rfl) (hst:(cy es X.env).findIdx? (·.1)=none:=by rfl) (hcl:X.calm=true:=by rfl):JG X (.Tuple es k pos) (wGT gs):=λE hE=>
 (zxs hcl (h E hE) hn hst).mono λv σ H Q ⟨w,σW,S,P,r,hσ,hS,ht,hP⟩=>by
  cases r with
  |tup f hs=>exact⟨_,_,rfl, .of f,by rw[←hs.length];exact hlen _ _ _ _ ht,⟨_,σW,S,P,hs,hσ,hS,ht,hP⟩⟩
  |_=>exact ht.elim
theorem zwR{tg:Expr}{g:WG}(he:JE X e ta) (hg:JG X tg g) (hs:swapsWithSole [tg] e pos.line X.env=pure false:=by rfl) (hw:swappedStores [tg] e X.env=pure none:=by rfl)
  (h1:(cy [tg] X.env).map (·.2)=[assign tg X.env]:=by rfl):JS X (.Assign [tg] e pos) (wAsg ta g):=λE hE=>
 (zyd (he E hE) (hg E hE) hs hw h1).mono λD σ H ⟨σW,S,DW,hσ,hS,ht,hD⟩=>⟨σW,S,_,hσ,hS,ht,λw S1 v H1 e1 r1 hS1 h1=>⟨w,σW,S1,_,r1,hσ.ext e1,hS1,h1,hD.nx.from e1⟩⟩
theorem zao{i:Nat}{x:Str}{pos':aA}(hN:X.N.Nodup) (hi:X.N[i]? =ae x) (hx:Loc X.env.scope x) (he:JE X e ta) (hs:dI e (ae (.Name x pos')) pos.line X.env=pure false:=by rfl)
  (hf:X.fn x=true∨X.env.scope.names.lookup x=ae .local:=by first |exact .inl rfl |exact .inr rfl |assumption):JS X (.Assign [.Name x pos'] e pos) (wAsg ta (wGN i)):=λE hE=>
 (zxy hN hi hx (he E hE) hs hf).mono λD σ H ⟨σW,S,DW,hσ,hS,ht,hD⟩=>⟨σW,S,_,hσ,hS,ht,λw S1 v H1 e1 r1 hS1 h1=>hD.nx _ S1 _ H1 e1 ((hσ.ext e1).set r1 i) hS1 h1⟩
end
noncomputable def waNil:WA:=λ_ _ S Q=>Q [] S
noncomputable def zab (t:WE) (u:WA):WA:=λE σ S Q=>t E σ S λw S1=>u E σ S1 λws S2=>Q (w::ws) S2
noncomputable def zaR (t:WA):WE:=λE σ S Q=>t E σ S λws S1=>ws.length≤sizeLine∧Q (.tup ws) S1
noncomputable def zcp (t:WA):WL:=λE σ S Q=>t E σ S λws S1=>ws.length≤sizeLine∧Q ws S1
noncomputable def zcd (t:WL):WE:=λE σ S Q=>t E σ S λws S1=>∀a,S1 a=none→Q (.ref a) (put S1 a (.lst ws))
section
variable {X:Cx}{e:Expr}{es:List Expr}{te:WE}{ta:WA}{tl:WL}{pos:aA}
theorem zac:JA X [] waNil:=λE hE=>pa_nil.mono λσ H Q ⟨σW,S,QW,hσ,hS,ht,hQ⟩=>hQ [] S [] H .refl .nil hS ht
theorem zaa (ha:JE X e te) (hr:JA X es ta) (hs:am (e::es) X.env=(false,aq e X.env)::am es X.env:=by rfl):JA X (e::es) (zab te ta):=λE hE=>
 (zdt (ha E hE) (hr E hE) hs).mono λσ H Q ⟨σW,S,QW,hσ,hS,ht,hQ⟩=>⟨σW,S,_,hσ,hS,ht,λw S1 v H1 e1 r1 hS1 h1=>⟨σW,S1,_,hσ.ext e1,hS1,h1,λws S2 vs H2 e2 r2 hS2 h2=>
  hQ (w::ws) S2 (v::vs) H2 (e1.trans e2) (.cons (r1.ext e2) r2) hS2 h2⟩⟩
theorem zak{x1}(h:JA X es ta):JE X (.Tuple es x1 pos) (zaR ta):=λE hE=>
 (zvQ (h E hE)).mono λσ H Q ⟨σW,S,QW,hσ,hS,ht,hQ⟩=>⟨σW,S,_,hσ,hS,ht,λws S1 vs H1 e1 r1 hS1 h1=>by
  refine⟨by rw[←r1.length];exact h1.1,λp hp=>hQ (.tup ws) S1 _ _ (e1.trans (.new hp)) (.tup zaF (r1.ext (.new (S:=S1) hp))) (hS1.new hp) h1.2⟩⟩
theorem zaz (h:JA X es ta):JL X (.List es pos) (zcp ta):=λE hE=>
 (zwo (h E hE)).mono λσ H Q ⟨σW,S,QW,hσ,hS,ht,hQ⟩=>⟨σW,S,_,hσ,hS,ht,λws S1 vs H1 e1 r1 hS1 h1=>by
  refine⟨by rw[←r1.length];exact h1.1,λp hp=>hQ ws S1 vs p _ (e1.trans (.new hp)) (e1.free hp) zaF (hS1.free hp) (r1.ext (.new (S:=S1) hp)) (hS1.new hp) h1.2⟩⟩
theorem zaC (h:JL X e tl):JE X e (zcd tl):=λE hE=>
 (h E hE).mono λσ H Q ⟨σW,S,QW,hσ,hS,ht,hQ⟩=>⟨σW,S,_,hσ,hS,ht,λws S1 vs a H1 e1 fa ea na r1 hS1 h1=>by
  refine hQ (.ref a) (put S1 a (.lst ws)) (.ref a) H1 ⟨e1.tup,e1.frz,λb o q g=>by
   have hb:b≠a:=by rintro rfl;rw[fa]at q;cases q
   rw[zaI hb];exact e1.fr b o q g,e1.all⟩ (.ref a) (λb o q=>?_) (h1 a na)
  by_cases hb:b=a
  ·subst hb;rw[zag]at q;cases q;exact⟨vs,ea,r1⟩
  ·rw[zaI hb]at q;exact hS1 b o q⟩
end
noncomputable def zan (c:WSp) (t:WA):WE:=λE σ S Q=>t E σ S λws S1=>c ws S1 Q λcl S2=>E cl σ S2
noncomputable def zcs (n k:Nat) (body:WS):WSp:=λws S Q E=>ws.length=k∧body (λc _ S'=>E c S') { nx:=λ_ S'=>∃S'',Sub S'' S'∧Q .non S'',rt:=λw S'=>∃S'',Sub S'' S'∧Q w S'' } (ws.map ae++aR (n - k) none) S
section
variable {X:Cx}{k:Nat}{f:Addr}{fd:bH}{ps:List Str}{c:WSp}{x:Str}{p pos:aA}{e:Expr}{es:List Expr}{t:WA}
theorem zaf (F:FnOk X.prog X.w X.K X.mg X.base (CX1 X.prog X.w) k f fd ps (zcV X.K c)) (hr:Room k X.A) (hg:Gl X x) (hm:X.mg x=ae (.ref f)) (hk:e_ X.K (.ref f)=true) (hb:Binds X.K fd ps [])
  (ha:JA X (e::es) t) (hdb:(x == ("__debug__" :Str))=false:=by decide) (he:am (e::es) X.env=(false,aq e X.env)::am es X.env:=by rfl) (hpl:(aO pos (am es X.env)).any (·.1)=false:=by rfl) :
  JE X (.Call (.Name x p) (e::es) [] pos) (zan c t):=λE hE pins s σ H Q I h=>by
 obtain⟨σW,S,QW,hσ,hS,ht,hQ⟩:=h;refine gm (zkW I hg hm ?_ hdb);refine PySem.W.callWith_K (h₀:=X.base) I.ok.mod.kin hk (thn (ha E hE pos pins s σ H (λvs H1=>∃ws S1,Reps X.K H1 ws vs∧RpSt X.K H1 σW σ∧RepS X.K H1 S1∧c ws S1 QW (λcl S'=>E cl σW S')∧Wish X.K H1 S1 QW Q) I
  ⟨σW,S,_,hσ,hS,ht,λws S1 vs H1 e1 r1 hS1 h1=>⟨ws,S1,r1,hσ.ext e1,hS1,h1,hQ.from e1⟩⟩) λus s1 ⟨vs,H1,I1,r,ws,S1,r1,hσ1,hS1,h1,hQ1⟩=>⟨I1.kIn,?_⟩) he hpl
 exact zzC F hr hb hE I1 r r1 hσ1 hS1 h1 hQ1
theorem zod{K:ah}{H:Hp}{N:List Str}{ws:List W}{vs:List V}(h:Reps K H ws vs):RpSt K H (ws.map ae++aR (N.length - ws.length) none) (start N vs):=by
 have go:∀{ws:List W}{vs:List V}(m:Nat),Reps K H ws vs→RpSt K H (ws.map ae++aR m none) (vs.map ae++aR m none):=by
  intro ws
  induction ws with
  |nil=>
   intro vs m h;cases h
   induction m with
   |zero=>exact .nil
   |succ m ih=>exact .cons trivial ih
  |cons w ws ih=>
   intro vs m h;cases h with
   |cons r rs=>exact .cons r (ih m rs)
 unfold start;rw[←h.length];exact go _ h
theorem zaQ{P:aE}{w:az}{K:ah}{mg:Str→Option Value}{base:Heap}{x qual:Str}{st:Stmt}{f:Addr}{fd:bH}{N ps:List Str}{r n k:Nat}{body:WS}(F:Fun K x qual st f fd) (S:FnScope N ps (zaj st)) (hn:N.length=n) (hk:ps.length=k)
  (hbody:∀(cdv:Value) (A:aP) (outer:List bB) (s:ag) (H:Hp) (E:XK),Room r (A.deeper (cf qual (zaj st) s.heap.objs.size f cdv))→
   JSs (zuX (CX1 P w) P w K mg base N qual (zaj st) f cdv A outer s H E) (zeY st) body):FnOk P w K mg base (CX1 P w) (r+1) f fd ps (zcV K (zcs n k body)):=by
 obtain⟨oc,od,kV,doc,pm,an,cdv,ct,osl,rfl,lk,hcd⟩:=F.ex;refine zyO lk hcd S (λvs H Q E h=>?_) λA outer s H vs Q E hr h=>?_
 ·obtain⟨ws,S,QW,EW,rs,_,h,_⟩:=h;rw[←rs.length,h.1,hk]
 ·obtain⟨ws,S',QW,EW,rs,hS,h,hQ,hEW⟩:=h;refine⟨_,hbody cdv A outer s H E hr (λc _ S'=>EW c S') (zqQ hEW),?_⟩;refine⟨_,S',{ nx:=λ_ S'=>∃S'',Sub S'' S'∧QW .non S'',rt:=λw S'=>∃S'',Sub S'' S'∧QW w S'' },zod (N:=N) rs,hS,by rw[hn,h.1];exact h.2,⟨λσW S1 σ H1 e1 rr hS1 q=>?_,λw S1 v H1 e1 rr hS1 q=>?_,λ_ _ _ _ _ _ _ q=>q,λ_ _ _ _ _ _ _ q=>q⟩⟩
  ·obtain⟨S2,sb,q⟩:=q;exact hQ .non S2 .non H1 (e1.trans (.drop sb)) .non (hS1.sub sb) q
  ·obtain⟨S2,sb,q⟩:=q;exact hQ w S2 v H1 (e1.trans (.drop sb)) rr (hS1.sub sb) q
end
noncomputable def zdp (C:Int→Int→Prop) (g:Int→Int→W):W2
 | .int i, .int j,S,Q=>C i j∧Q (g i j) S
 |_,_,_,_=>False
noncomputable def zdN (g:Int→Int→W):W2
 | .int i, .int j,S,Q=>Q (g i j) S
 |_,_,_,_=>False
theorem zfX{K:ah}{C:Int→Int→Prop}{g:Int→Int→Int}:OpW K (rI C λi j=> .int (g i j)) (zdp C λi j=> .int (g i j)):=λH x y wx wy S Q QW rx ry hS h hQ=>by
 cases rx<;>cases ry<;>first |exact⟨_,_,rfl,rfl,h.1,hQ _ S _ H .refl (.int _) hS h.2⟩ |exact h.elim
theorem zru{K:ah}{g:Int→Int→Int}:OpW K (rI0 λi j=> .int (g i j)) (zdN λi j=> .int (g i j)):=λH x y wx wy S Q QW rx ry hS h hQ=>by
 cases rx<;>cases ry<;>first |exact⟨_,_,rfl,rfl,hQ _ S _ H .refl (.int _) hS h⟩ |exact h.elim
theorem zho{K:ah}{g:Int→Int→Bool}:OpW K (rI0 λi j=> .bl (g i j)) (zdN λi j=> .bl (g i j)):=λH x y wx wy S Q QW rx ry hS h hQ=>by
 cases rx<;>cases ry<;>first |exact⟨_,_,rfl,rfl,hQ _ S _ H .refl (.bl _) hS h⟩ |exact h.elim
noncomputable def zdF:W2
 | .int i, .int j,S,Q=>Q (.int (i+j)) S
 | .str x, .str y,S,Q=>x.length+y.length≤sizeLine∧Q (.str (x++y)) S
 | .tup xs, .tup ys,S,Q=>xs.length+ys.length≤sizeLine∧Q (.tup (xs++ys)) S
 | .ref a, .ref b,S,Q=>zce S a λxs=>zce S b λys=>xs.length+ys.length≤sizeLine∧ ∀p,S p=none→Q (.ref p) (put S p (.lst (xs++ys)))
 |_,_,_,_=>False
section
variable {X:Cx}
theorem Reps.nil_r{K:ah}{H:Hp}{ws:List W}(h:Reps K H ws []):ws=[]:=by cases h;rfl
theorem op_catT0:OpR X (bL .Add) (λx y H Q=>∃a b ys,x= .ref a∧y= .ref b∧SqT X.K H a []∧SqT X.K H b ys∧Q (.ref b) H):=by
 intro pins s σ H x y v u Q I rx ry h;obtain⟨a,b,ys,rfl,rfl,ha,hb,q⟩:=h;cases rx;cases ry;obtain⟨its,r1,p1,_⟩:=I.tuple ha;obtain⟨its2,r2,p2,_⟩:=I.tuple hb;cases r1;obtain⟨⟨cls,dd,data,sl⟩,ho,hc,n,hd⟩:=id p1;obtain⟨⟨cls2,dd2,data2,sl2⟩,ho2,hc2,n2,hd2⟩:=id p2;simp only at hc hd hc2 hd2;subst hc hd hc2 hd2;exact gO ⟨_,ho,rfl⟩ ⟨_,ho2,rfl⟩ gL gr gJ im (gk _ _)
   (tuple_addW0 a b _ _ n n2 dd dd2 sl sl2 (by simp)) ⟨ho,ho2,⟨.ref b,H,I,rfl,q⟩⟩
theorem zqj:OpR X (bL .Add) (λx y H Q=>(rI0 λi j=> .int (i+j)) x y H Q∨(∃i j,x= .str i∧y= .str j∧i.length+j.length≤sizeLine∧Q (.str (i++j)) H)∨
  (∃a b ys,x= .ref a∧y= .ref b∧SqT X.K H a []∧SqT X.K H b ys∧Q (.ref b) H)∨zuO X.K x y H Q∨zzG x y H Q):=op_add.or (op_add_str.or (op_catT0.or (op_catT.or zms)))
theorem zvp{K:ah}:OpW K (λx y H Q=>(rI0 λi j=> .int (i+j)) x y H Q∨(∃i j,x= .str i∧y= .str j∧i.length+j.length≤sizeLine∧Q (.str (i++j)) H)∨
  (∃a b ys,x= .ref a∧y= .ref b∧SqT K H a []∧SqT K H b ys∧Q (.ref b) H)∨zuO K x y H Q∨zzG x y H Q) zdF:=λH x y wx wy S Q QW rx ry hS h hQ=>by
 cases rx with
 |int i=>
  cases ry with
  |int j=>exact .inl ⟨i,j,rfl,rfl,hQ _ S _ H .refl (.int _) hS h⟩
  |_=>exact h.elim
 |str i=>
  cases ry with
  |str j=>exact .inr (.inl ⟨i,j,rfl,rfl,h.1,hQ _ S _ H .refl (.str _) hS h.2⟩)
  |_=>exact h.elim
 | @tup a vs ws f hs=>
  cases ry with
  | @tup b us zs g ks=>
   cases hs with
   |nil=>exact .inr (.inr (.inl ⟨a,b,us,rfl,rfl, .of f, .of g,hQ (.tup zs) S _ H .refl (.tup g ks) hS h.2⟩))
   |cons h1 h2=>
    refine .inr (.inr (.inr (.inl ⟨a,b,_,us,rfl,rfl, .of f, .of g,by simp,?_,λe=>?_,λe p hp=>?_⟩)))
    ·rw[←(Reps.cons h1 h2).length,←ks.length];exact h.1
    ·subst e;have e':=ks.nil_r;subst e';have q:=h.2;rw[bv]at q;exact hQ _ S _ H .refl (.tup f (.cons h1 h2)) hS q
    ·exact hQ _ S _ _ (.new hp) (.tup zaF (((Reps.cons h1 h2).append ks).ext (.new (S:=S) hp))) (hS.new hp) h.2
  |_=>exact h.elim
 |ref a=>
  cases ry with
  |ref b=>
   obtain⟨xs,ea,h⟩:=zaY h;obtain⟨ys,eb,h⟩:=zaY h;obtain⟨vs,e1,r1⟩:=hS a _ ea;obtain⟨us,e2,r2⟩:=hS b _ eb;refine .inr (.inr (.inr (.inr ⟨a,b,vs,us,rfl,rfl,e1,e2,by rw[←r1.length,←r2.length];exact h.1,λp hp=>?_⟩)))
   exact hQ _ _ _ _ (.newS hp) (.ref p) (hS.put_lst hp ((r1.append r2).ext (.new (S:=S) hp))) (h.2 p (hS.free hp))
  |_=>exact h.elim
 |_=>exact h.elim
variable {a b:Expr}{pos:aA}{ta tb:WE}
theorem zby (ha:JE X a ta) (hb:JE X b tb):JE X (.BinOp a .Add b pos) (wOp zdF ta tb):=zkn zqj zvp ha hb
theorem zfQ (ha:JE X a ta) (hb:JE X b tb):JE X (.BinOp a .Sub b pos) (wOp (zdN λi j=> .int (i - j)) ta tb):=zkn zvZ zru ha hb
theorem zoV (ha:JE X a ta) (hb:JE X b tb):JE X (.BinOp a .Mult b pos) (wOp (zdp CMul λi j=> .int (i*j)) ta tb):=zkn zwy zfX ha hb
theorem zdG (ha:JE X a ta) (hb:JE X b tb):JE X (.BinOp a .FloorDiv b pos) (wOp (zdp zmW λi j=> .int (i / j)) ta tb):=zkn zvr zfX ha hb
theorem zcG (ha:JE X a ta) (hb:JE X b tb):JE X (.BinOp a .Mod b pos) (wOp (zdp (λ_ j=>0<j) λi j=> .int (i % j)) ta tb):=zkn zwL zfX ha hb
theorem zxg (ha:JE X a ta) (hb:JE X b tb):JE X (.BinOp a .Pow b pos) (wOp (zdp ztE λi j=> .int (i ^ j.toNat)) ta tb):=zkn zwG zfX ha hb
noncomputable def zqA (t:WE):WE:=λE σ S Q=>t E σ S λw S1=>match w with
 | .int i=>Q (.int (-i)) S1
 |_=>False
theorem zhk (ha:JE X a ta):JE X (.UnaryOp .USub a pos) (zqA ta):=λE hE=>
 (zyz zyb (ha E hE)).mono λσ H Q ⟨σW,S,QW,hσ,hS,ht,hQ⟩=>⟨σW,S,_,hσ,hS,ht,λw S1 v H1 e1 r1 hS1 h1=>by
  cases r1 with
  |int i=>exact⟨i,rfl,hQ _ S1 _ H1 e1 (.int _) hS1 h1⟩
  |_=>exact h1.elim⟩
noncomputable def zyv (t u:WE):WL:=λE σ S Q=>t E σ S λx S1=>u E σ S1 λy S2=>match x,y with
 | .ref a, .ref b=>zce S2 a λxs=>zce S2 b λys=>xs.length+ys.length≤sizeLine∧Q (xs++ys) S2
 |_,_=>False
end
noncomputable def zeq (f:W→W→Option Bool):List W→List W→Option Bool
 | [],[]=>ae true
 | [],_=>ae false
 |_,[]=>ae false
 |x::xs,y::ys=>match f x y,zeq f xs ys with
  |some a,ae b=>ae (a&&b)
  |_,_=>none
noncomputable def eqF (S:Sto):Nat→W→W→Option Bool
 |0,_,_=>none
 |n+1,w,u=>match w,u with
  | .non, .non=>ae true
  | .bl a, .bl b=>ae (a == b)
  | .int a, .int b=>ae (a == b)
  | .str a, .str b=>ae (a == b)
  | .tup _, .int _=>ae false
  | .int _, .tup _=>ae false
  | .tup xs, .tup ys=>zeq (eqF S n) xs ys
  | .ref a, .ref b=>match S a with
   |some (.lst xs)=>match S b with
    |some (.lst ys)=>zeq (eqF S n) xs ys
    |_=>none
   |_=>none
  |_,_=>none
theorem zlC{f:W→W→Option Bool}:∀{xs ys:List W}{b:Bool},zeq f xs ys=ae b→
  (∀j,j<xs.length→j<ys.length→ ∃c,f (xs.getD j .non) (ys.getD j .non)=ae c)∧
  ((ba (min xs.length ys.length)).all (λj=>(f (xs.getD j .non) (ys.getD j .non)).getD true)&&xs.length == ys.length)=b
 | [],[],b,h=>by
  have:true=b:=aI h;subst this;exact⟨λj h=>absurd h (by simp),by simp⟩
 | [],y::ys,b,h=>by
  have:false=b:=aI h;subst this;exact⟨λj h=>absurd h (by simp),by simp⟩
 |x::xs,[],b,h=>by
  have:false=b:=aI h;subst this;exact⟨λj _ h=>absurd h (by simp),by simp⟩
 |x::xs,y::ys,b,h=>by
  unfold zeq at h;split at h
  ·rename_i c d e1 e2;have hb:(c&&d)=b:=aI h;obtain⟨h1,h2⟩:=zlC e2;refine⟨λj j1 j2=>?_,?_⟩
   ·cases j with
    |zero=>exact⟨c,by simpa using e1⟩
    |succ j=>simpa using h1 j (by simpa using j1) (by simpa using j2)
   ·have hm:min (xs.length+1) (ys.length+1)=min xs.length ys.length+1:=by omega
    have hl:(xs.length+1 == ys.length+1)=(xs.length == ys.length):=by simp
    rw[aW,aW,hm,gB,List.all_cons,fR,hl];have q:((λj=>(f ((x::xs).getD j .non) ((y::ys).getD j .non)).getD true)∘Nat.succ)=λj=>(f (xs.getD j .non) (ys.getD j .non)).getD true:=by
     funext j;simp
    rw[q,Bool.and_assoc,h2];have q0:(f ((x::xs).getD 0 .non) ((y::ys).getD 0 .non)).getD true=c:=by simp [e1]
    rw[q0,hb]
  ·cases h
section
variable {X:Cx}{pins:List (Addr×Obj)}{σ:St}{H:Hp}{s:ag}{S:Sto}
theorem zhM (I:Inv X pins σ H s):∀(n:Nat) {wx wy:W}{v:V}{b:Bool},Rep X.K H wx v→Rep X.K H wy v→RepS X.K H S→eqF S n wx wy=ae b→b=true
 |0,_,_,_,_,_,_,_,h=>by cases h
 |n+1,wx,wy,v,b,rx,ry,hS,h=>by
  have list:∀{ws us:List W}{vs:List V}{b:Bool},Reps X.K H ws vs→Reps X.K H us vs→zeq (eqF S n) ws us=ae b→b=true:=by
   intro ws
   induction ws with
   |nil=>
    intro us vs b r1 r2 e;cases r1;cases r2;exact(aI e).symm
   |cons w ws ih=>
    intro us vs b r1 r2 e;cases r1 with
    |cons a1 a2=>
     cases r2 with
     |cons c1 c2=>
      unfold zeq at e;split at e
      ·rename_i c d e1 e2;have q1:=zhM I n a1 c1 hS e1;have q2:=ih a2 c2 e2;have:=aI e;rw[q1,q2]at this;exact this.symm
      ·cases e
  cases rx with
  |non=>cases ry;exact(aI h).symm
  |bl k=>cases ry;have:=aI h;simpa using this.symm
  |int k=>cases ry;have:=aI h;simpa using this.symm
  |str k=>cases ry;have:=aI h;simpa using this.symm
  |ref a=>
   cases ry with
   |ref _=>
    have h':(match S a with
     |some (.lst xs)=>match S a with
      |some (.lst ys)=>zeq (eqF S n) xs ys
      |_=>none
     |_=>none)=ae b:=h
    cases e:S a with
    |none=>rw[e]at h';cases h'
    |some o=>
     rw[e]at h';cases o with
     |lst ws=>
      obtain⟨vs,_,r⟩:=hS a _ e;exact list r r h'
     |dct _=>cases h'
     |ins _ _=>cases h'
   |scr _=>cases h
   |tup _ _=>cases h
  |scr f=>cases ry<;>cases h
  |tup f hs=>
   cases ry with
   |ref _=>cases h
   |scr _=>cases h
   |tup g ks=>
    have e:=I.tuple_inj (.of f) (.of g);subst e;exact list hs ks h
theorem ziG{A:aP}:A.in1.units=A.units+1:=rfl
theorem zle (I:Inv X pins σ H s) (hS:RepS X.K H S):∀(n:Nat) {A:aP}{wx wy:W}{x y:V}{u v:Value}{b:Bool},A.units+n<cLine→Rep X.K H wx x→Rep X.K H wy y→RelV x u→RelV y v→eqF S n wx wy=ae b→
  d9 A s u v b∧eT A s u v b∧eH A s u v (!b)
 |0,_,_,_,_,_,_,_,_,_,_,_,_,_,h=>by cases h
 |n+1,A,wx,wy,x,y,u,v,b,hu,rx,ry,ru,rv,h=>by
  have hu0:A.units<cLine:=by omega
  have items:∀{ws zs:List W}{xs ys:List V}{us vs:List Value}{b:Bool},Reps X.K H ws xs→Reps X.K H zs ys→Vals xs us→Vals ys vs→zeq (eqF S n) ws zs=ae b→
    (∀j (h1:j<us.toArray.size) (h2:j<vs.toArray.size),d9 A.in1 s us.toArray[j] vs.toArray[j] ((eqF S n (ws.getD j .non) (zs.getD j .non)).getD true))∧
    ((ba (min us.toArray.size vs.toArray.size)).all (λj=>(eqF S n (ws.getD j .non) (zs.getD j .non)).getD true)&&us.toArray.size == vs.toArray.size)=b:=by
   intro ws zs xs ys us vs b r1 r2 q1 q2 e;obtain⟨h1,h2⟩:=zlC e;have l1:=r1.length;have l2:=r2.length;have l3:=q1.length;have l4:=q2.length;refine⟨λj j1 j2=>?_,?_⟩
   ·rw[aQ]at j1 j2;obtain⟨c,hc⟩:=h1 j (by omega) (by omega);have jw:j<ws.length:=by omega
    have jz:j<zs.length:=by omega
    obtain⟨x',ex,rx'⟩:=r1.get (aJ jw);obtain⟨y',ey,ry'⟩:=r2.get (aJ jz);obtain⟨u',eu,ru'⟩:=q1.get ex;obtain⟨v',ev,rv'⟩:=q2.get ey;have e1:us.toArray[j]=u':=by
     obtain⟨_,e⟩:=bG.mp eu;simpa using e
    have e2:vs.toArray[j]=v':=by
     obtain⟨_,e⟩:=bG.mp ev;simpa using e
    have g1:ws.getD j .non=ws[j]:=by rw[aY,aJ jw];rfl
    have g2:zs.getD j .non=zs[j]:=by rw[aY,aJ jz];rfl
    rw[e1,e2,hc];rw[g1,g2]at hc;exact(zle I hS n (by rw[ziG];omega) rx' ry' ru' rv' hc).1
   ·rw[aQ,aQ,←l3,←l4,←l1,←l2];exact h2
  cases rx with
  |non=>
   cases(show u=cm from ru);cases ry with
   |non=>cases(show v=cm from rv);cases h;exact⟨.same _, .none_none, .none_none⟩
   |_=>cases h
  |bl k=>
   cases(show u=dW k from ru);cases ry with
   |bl j=>cases(show v=dW j from rv);cases h;exact⟨.bool_bool _ _, .bool_bool _ _, .bool_bool _ _⟩
   |_=>cases h
  |int k=>
   obtain⟨t0,rfl⟩:=ru;cases ry with
   |int j=>obtain⟨t,rfl⟩:=rv;cases h;exact⟨.int_int _ _ _ _, .int_int _ _ _ _, .int_int _ _ _ _⟩
   |tup f hs=>cases(show v=bz _ from rv);cases h;obtain⟨its,_,p,_⟩:=I.tuple (.of f);exact⟨.int_tuple _ _ p hu0, .int_tuple _ _ p hu0, .int_tuple _ _ p hu0⟩
   |_=>cases h
  |str k=>
   obtain⟨t0,rfl⟩:=ru;cases ry with
   |str j=>obtain⟨t,rfl⟩:=rv;cases h;exact⟨.str_str _ _ _ _, .str_str _ _ _ _, .str_str _ _ _ _⟩
   |_=>cases h
  | @tup a xs ws f hs=>
   cases(show u=bz a from ru);obtain⟨its,q1,p,_⟩:=I.tuple (.of f);cases ry with
   |int j=>obtain⟨t,rfl⟩:=rv;cases h;exact⟨.tuple_int _ _ p hu0, .tuple_int _ _ p hu0, .tuple_int _ _ p hu0⟩
   | @tup c ys zs g ks=>
    cases(show v=bz c from rv);obtain⟨its2,q2,p2,_⟩:=I.tuple (.of g);obtain⟨h1,h2⟩:=items hs ks q1 q2 h;have rc:eT A s (.ref a) (.ref c) b:=by
     have:=eT.tuples p p2 hu0 h1;rw[h2]at this;exact this
    have rn:eH A s (.ref a) (.ref c) (!b):=by
     have:=eH.tuples p p2 hu0 h1;rw[h2]at this;exact this
    refine⟨?_,rc,rn⟩;by_cases e:a=c
    ·subst e;have:=zhM I (n+1) (.tup f hs) (.tup g ks) hS h;rw[this];exact .same _
    ·exact .of_refs e rc
   |_=>cases h
  |ref a=>
   cases(show u=bz a from ru);cases ry with
   |ref c=>
    cases(show v=bz c from rv);have h':(match S a with
     |some (.lst xs)=>match S c with
      |some (.lst ys)=>zeq (eqF S n) xs ys
      |_=>none
     |_=>none)=ae b:=h
    cases e:S a with
    |none=>rw[e]at h';cases h'
    |some o=>
     rw[e]at h';cases o with
     |dct _=>cases h'
     |ins _ _=>cases h'
     |lst ws=>
      cases e2:S c with
      |none=>rw[e2]at h';cases h'
      |some o2=>
       rw[e2]at h';cases o2 with
       |dct _=>cases h'
       |ins _ _=>cases h'
       |lst zs=>
        obtain⟨xs,f,hs⟩:=hS a _ e;obtain⟨ys,g,ks⟩:=hS c _ e2;obtain⟨its,q1,p,_⟩:=I.list (.of f);obtain⟨its2,q2,p2,_⟩:=I.list (.of g);obtain⟨h1,h2⟩:=items hs ks q1 q2 h';have both:eT A s (.ref a) (.ref c) b∧eH A s (.ref a) (.ref c) (!b):=by
         by_cases hz:its.toArray.size=its2.toArray.size
         ·have t1:=eT.lists p.isList p2.isList hz hu0 h1;have t2:=eH.lists p.isList p2.isList hz hu0 h1;rw[←hz,Nat.min_self,beq_self_eq_true,Bool.and_true]at h2;rw[h2]at t1 t2;exact⟨t1,t2⟩
         ·have hz':(its.toArray.size != its2.toArray.size)=true:=by simpa using hz
          have hz2:(its.toArray.size == its2.toArray.size)=false:=by simpa using hz
          rw[hz2,eG]at h2;subst h2;exact⟨.lists_lengths p.isList p2.isList hz' hu0, .lists_lengths p.isList p2.isList hz' hu0⟩
        refine⟨?_,both.1,both.2⟩;by_cases ee:a=c
        ·subst ee;have:=zhM I (n+1) (.ref a) (.ref a) hS h;rw[this];exact .same _
        ·exact .of_refs ee both.1
   |_=>cases h
  |scr f=>cases ry<;>cases h
end
noncomputable def oEq (neg:Bool):W2:=λx y S Q=>match eqF S 60 x y with
 |some b=>Q (.bl (if neg then !b else b)) S
 |none=>False
noncomputable def zyD (K:ah) (neg:Bool):R2:=λx y H Q=>∃wx wy S b,Rep K H wx x∧Rep K H wy y∧RepS K H S∧eqF S 60 wx wy=ae b∧Q (.bl (if neg then !b else b)) H
section
variable {X:Cx}
theorem zsX (hu:X.A.units+60<cLine):OpR X (bf .Eq) (zyD X.K false):=by
 intro pins s σ H x y v u Q I rx ry h;obtain⟨wx,wy,S,b,r1,r2,hS,e,q⟩:=h;exact(zle I hS 60 hu r1 r2 rx ry e).2.1 _ _ _ _ ⟨.bl b,H,I,rfl,q⟩
theorem zwF (hu:X.A.units+60<cLine):OpR X (bf .NotEq) (zyD X.K true):=by
 intro pins s σ H x y v u Q I rx ry h;obtain⟨wx,wy,S,b,r1,r2,hS,e,q⟩:=h;exact(zle I hS 60 hu r1 r2 rx ry e).2.2 _ _ _ _ ⟨.bl (!b),H,I,rfl,q⟩
theorem zoj{K:ah}{neg:Bool}:OpW K (zyD K neg) (oEq neg):=λH x y wx wy S Q QW rx ry hS h hQ=>by
 unfold oEq at h;split at h
 ·rename_i b e;exact⟨wx,wy,S,b,rx,ry,hS,e,hQ _ S _ H .refl (.bl _) hS h⟩
 ·exact h.elim
variable {a b c:Expr}{pos:aA}{ta tb:WE}
theorem zhT{k:Nat}(hr:Room k X.A) (ha:JE X a ta) (hb:JE X b tb):JE X (.Compare a [.Eq] [b] pos) (wOp (oEq false) ta tb):=zxX (zsX (by have:=hr.units;omega)) zoj ha hb (nomark b)
theorem zfv{k:Nat}(hr:Room k X.A) (ha:JE X a ta) (hb:JE X b tb):JT X (.Compare a [.Eq] [b] pos) (wTb (wOp (oEq false) ta tb)):=zei (zsX (by have:=hr.units;omega)) zoj ha hb (nomark b)
theorem zzH{k:Nat}(hr:Room k X.A) (ha:JE X a ta) (hb:JE X b tb):JT X (.Compare a [.NotEq] [b] pos) (wTb (wOp (oEq true) ta tb)):=zei (zwF (by have:=hr.units;omega)) zoj ha hb (nomark b)
noncomputable abbrev oLt:W2:=zdN λi j=> .bl (decide (i<j))
noncomputable abbrev oGt:W2:=zdN λi j=> .bl (decide (j<i))
noncomputable abbrev oGe:W2:=zdN λi j=> .bl (decide (j≤i))
noncomputable def oLe:W2
 | .int i, .int j,S,Q=>Q (.bl (decide (i≤j))) S
 | .str i, .str j,S,Q=>Q (.bl (!decide (j.cps.toList<i.cps.toList))) S
 |_,_,_,_=>False
theorem zsR{K:ah}:OpW K (λx y H Q=>rI0 (λi j=> .bl (decide (i≤j))) x y H Q∨(∃i j,x= .str i∧y= .str j∧Q (.bl (!decide (j.cps.toList<i.cps.toList))) H)) oLe:=λH x y wx wy S Q QW rx ry hS h hQ=>by
 cases rx with
 |int i=>
  cases ry with
  |int j=>exact .inl ⟨i,j,rfl,rfl,hQ _ S _ H .refl (.bl _) hS h⟩
  |_=>exact h.elim
 |str i=>
  cases ry with
  |str j=>exact .inr ⟨i,j,rfl,rfl,hQ _ S _ H .refl (.bl _) hS h⟩
  |_=>exact h.elim
 |_=>exact h.elim
theorem zrX (ha:JE X a ta) (hb:JE X b tb):JT X (.Compare a [.Lt] [b] pos) (wTb (wOp oLt ta tb)):=zei zyJ zho ha hb (nomark b)
theorem zmQ (ha:JE X a ta) (hb:JE X b tb):JT X (.Compare a [.Gt] [b] pos) (wTb (wOp oGt ta tb)):=zei zzh zho ha hb (nomark b)
theorem zzp (ha:JE X a ta) (hb:JE X b tb):JT X (.Compare a [.GtE] [b] pos) (wTb (wOp oGe ta tb)):=zei zyY zho ha hb (nomark b)
noncomputable def zjc (r r':W2) (a b c:WE):WE:=λE σ S Q=>a E σ S λx S1=>b E σ S1 λy S2=>r x y S2 λz S3=>match z with
 | .bl true=>c E σ S3 λu S4=>r' y u S4 Q
 | .bl false=>Q (.bl false) S3
 |_=>False
noncomputable def oIs (neg:Bool):W2
 | .non, .non,S,Q=>Q (.bl (!neg)) S
 | .bl a, .bl b,S,Q=>Q (.bl (if neg then a != b else a == b)) S
 | .bl _, .non,S,Q=>Q (.bl neg) S
 | .int _, .non,S,Q=>Q (.bl neg) S
 | .str _, .non,S,Q=>Q (.bl neg) S
 | .tup _, .non,S,Q=>Q (.bl neg) S
 | .ref _, .non,S,Q=>Q (.bl neg) S
 |_,_,_,_=>False
theorem zxw:OpR X (bf .Is) (λx y H Q=>(y= .non∧Q (.bl (decide (x= .non))) H)∨ ∃a b,x= .bl a∧y= .bl b∧Q (.bl (a == b)) H):=op_isN.or (by
 intro pins s σ H x y v u Q I rx ry h;obtain⟨a,b,rfl,rfl,q⟩:=h;cases rx;cases ry;exact is_bool ⟨.bl _,H,I,rfl,q⟩)
theorem zqw:OpR X (bf .IsNot) (λx y H Q=>(y= .non∧Q (.bl (!decide (x= .non))) H)∨ ∃a b,x= .bl a∧y= .bl b∧Q (.bl (a != b)) H):=op_notN.or (by
 intro pins s σ H x y v u Q I rx ry h;obtain⟨a,b,rfl,rfl,q⟩:=h;cases rx;cases ry;exact isnot_bool ⟨.bl _,H,I,rfl,q⟩)
theorem zvU{K:ah}:OpW K (λx y H Q=>(y= .non∧Q (.bl (decide (x= .non))) H)∨ ∃a b,x= .bl a∧y= .bl b∧Q (.bl (a == b)) H) (oIs false):=λH x y wx wy S Q QW rx ry hS h hQ=>by
 cases ry with
 |non=>cases rx<;>first |exact .inl ⟨rfl,by simpa using hQ _ S _ H .refl (.bl _) hS h⟩ |exact h.elim
 |bl b=>
  cases rx with
  |bl a=>exact .inr ⟨a,b,rfl,rfl,hQ _ S _ H .refl (.bl _) hS h⟩
  |_=>exact h.elim
 |_=>cases rx<;>exact h.elim
theorem zpE{K:ah}:OpW K (λx y H Q=>(y= .non∧Q (.bl (!decide (x= .non))) H)∨ ∃a b,x= .bl a∧y= .bl b∧Q (.bl (a != b)) H) (oIs true):=λH x y wx wy S Q QW rx ry hS h hQ=>by
 cases ry with
 |non=>cases rx<;>first |exact .inl ⟨rfl,by simpa using hQ _ S _ H .refl (.bl _) hS h⟩ |exact h.elim
 |bl b=>
  cases rx with
  |bl a=>exact .inr ⟨a,b,rfl,rfl,hQ _ S _ H .refl (.bl _) hS h⟩
  |_=>exact h.elim
 |_=>cases rx<;>exact h.elim
theorem zkF (ha:JE X a ta) (hb:JE X b tb):JT X (.Compare a [.Is] [b] pos) (wTb (wOp (oIs false) ta tb)):=zei zxw zvU ha hb (nomark b)
theorem zeT (ha:JE X a ta) (hb:JE X b tb):JT X (.Compare a [.IsNot] [b] pos) (wTb (wOp (oIs true) ta tb)):=zei zqw zpE ha hb (nomark b)
end
noncomputable def inF (S:Sto) (x:W):List W→Option Bool
 | []=>ae false
 |w::ws=>match eqF S 59 w x with
  |some a=>match inF S x ws with
   |some b=>ae (a || b)
   |none=>none
  |none=>none
section
variable {X:Cx}{pins:List (Addr×Obj)}{σ:St}{H:Hp}{s:ag}{S:Sto}
theorem zkd (I:Inv X pins σ H s) (hS:RepS X.K H S):∀(n:Nat) {w w' u:W}{v:V}{b b':Bool},Rep X.K H w v→Rep X.K H w' v→eqF S n w u=ae b→eqF S n w' u=ae b'→b=b'
 |0,_,_,_,_,_,_,_,_,h,_=>by cases h
 |n+1,w,w',u,v,b,b',r,r',h,h'=>by
  have list:∀{us ws zs:List W}{vs:List V}{b b':Bool},Reps X.K H ws vs→Reps X.K H zs vs→zeq (eqF S n) ws us=ae b→zeq (eqF S n) zs us=ae b'→b=b':=by
   intro us
   induction us with
   |nil=>
    intro ws zs vs b b' r1 r2 e1 e2;cases r1 with
    |nil=>cases r2;rw[e1]at e2;exact aI e2
    |cons _ _=>cases r2 with
     |cons _ _=>have:=aI e1;have:=aI e2;subst_vars;rfl
   |cons u us ih=>
    intro ws zs vs b b' r1 r2 e1 e2;cases r1 with
    |nil=>cases r2;rw[e1]at e2;exact aI e2
    |cons a1 a2=>
     cases r2 with
     |cons c1 c2=>
      unfold zeq at e1 e2;split at e1
      ·rename_i p q f1 f2;split at e2
       ·rename_i p' q' g1 g2;have h1:=zkd I hS n a1 c1 f1 g1;have h2:=ih a2 c2 f2 g2;rw[←aI e1,←aI e2,h1,h2]
       ·cases e2
      ·cases e1
  have nolist:∀{a:Addr}{vs:List V}{ws:List W},H a=ae (.tup vs)→S a=ae (.lst ws)→False:=λf e=>by
   obtain⟨_,g,_⟩:=hS _ _ e;rw[f]at g;cases g
  cases r with
  |non=>cases r';rw[h]at h';exact aI h'
  |bl k=>cases r';rw[h]at h';exact aI h'
  |int k=>cases r';rw[h]at h';exact aI h'
  |str k=>cases r';rw[h]at h';exact aI h'
  |scr f=>cases u<;>cases h
  | @tup a vs ws f hs=>
   cases r' with
   | @tup _ us zs g ks=>
    rw[f]at g;cases g;cases u with
    |tup us=>exact list hs ks h h'
    |int _=>have:=aI h;have:=aI h';subst_vars;rfl
    |_=>cases h
   |scr _=>cases u<;>cases h'
   |ref _=>
    exfalso;cases u with
    |ref c=>
     have h2:(match S a with
      |some (.lst xs)=>match S c with
       |some (.lst ys)=>zeq (eqF S n) xs ys
       |_=>none
      |_=>none)=ae b':=h'
     split at h2
     ·exact nolist f ‹_›
     ·cases h2
    |_=>cases h'
  |ref a=>
   cases r' with
   |ref _=>rw[h]at h';exact aI h'
   |scr _=>cases u<;>cases h'
   |tup f hs=>
    exfalso;cases u with
    |ref c=>
     have h2:(match S a with
      |some (.lst xs)=>match S c with
       |some (.lst ys)=>zeq (eqF S n) xs ys
       |_=>none
      |_=>none)=ae b:=h
     split at h2
     ·exact nolist f ‹_›
     ·cases h2
    |_=>cases h
open Classical in
theorem zlN (I:Inv X pins σ H s) (hS:RepS X.K H S) {A:aP}{ws:List W}{vs:List V}{us:List Value}{wx:W}{x:V}{u:Value}{b:Bool}(hu:A.units+60<cLine) (r:Reps X.K H ws vs) (rv:Vals vs us) (rx:Rep X.K H wx x) (ru:RelV x u) (h:inF S wx ws=ae b) :
  ∃e:Value→Bool,(∀y,y∈us.toArray→d9 A.in1 s y u (e y))∧us.toArray.any e=b:=by
 refine⟨λy=>decide (∃w v,Rep X.K H w v∧RelV v y∧eqF S 59 w wx=ae true),?_,?_⟩
 ·have go:∀{ws:List W}{vs:List V}{us:List Value}{b:Bool},Reps X.K H ws vs→Vals vs us→inF S wx ws=ae b→ ∀y∈us,d9 A.in1 s y u (decide (∃w v,Rep X.K H w v∧RelV v y∧eqF S 59 w wx=ae true)):=by
   intro ws
   induction ws with
   |nil=>intro vs us b r rv h y hy;cases r;cases rv;cases hy
   |cons w ws ih=>
    intro vs us b r rv h y hy;cases r with
    |cons r1 r2=>
     cases rv with
     |cons q1 q2=>
      unfold inF at h;split at h
      ·rename_i c e1;split at h
       ·rename_i d e2;rcases ax.mp hy with rfl |hy
        ·have ok:=(zle I hS 59 (A:=A.in1) (by rw[ziG];omega) r1 rx q1 ru e1).1;have ec:c=decide (∃w v,Rep X.K H w v∧RelV v y∧eqF S 59 w wx=ae true):=by
          cases c with
          |true=>exact(decide_eq_true ⟨w,_,r1,q1,e1⟩).symm
          |false=>
           symm;refine decide_eq_false λ⟨w',v',r',q',e'⟩=>?_;have:=RelV.inj q' q1;subst this;exact absurd (zkd I hS 59 r1 r' e1 e') (by simp)
         rw[←ec];exact ok
        ·exact ih r2 q2 e2 y hy
       ·cases h
      ·cases h
  intro y hy;exact go r rv h y (by simpa using hy)
 ·have go:∀{ws:List W}{vs:List V}{us:List Value}{b:Bool},Reps X.K H ws vs→Vals vs us→inF S wx ws=ae b→us.any (λy=>decide (∃w v,Rep X.K H w v∧RelV v y∧eqF S 59 w wx=ae true))=b:=by
   intro ws
   induction ws with
   |nil=>intro vs us b r rv h;cases r;cases rv;exact aI h
   |cons w ws ih=>
    intro vs us b r rv h;cases r with
    |cons r1 r2=>
     cases rv with
     | @cons _ _ _ _ q1 q2=>
      rename_i y _;unfold inF at h;split at h
      ·rename_i c e1;split at h
       ·rename_i d e2;have ec:decide (∃w v,Rep X.K H w v∧RelV v y∧eqF S 59 w wx=ae true)=c:=by
          cases c with
          |true=>exact decide_eq_true ⟨w,_,r1,q1,e1⟩
          |false=>
           refine decide_eq_false λ⟨w',v',r',q',e'⟩=>?_;have:=RelV.inj q' q1;subst this;exact absurd (zkd I hS 59 r1 r' e1 e') (by simp)
        rw[eD,ih r2 q2 e2,ec];exact aI h
       ·cases h
      ·cases h
  have:=go r rv h;simpa using this
end
noncomputable def oIn (neg:Bool):W2:=λx y S Q=>match y with
 | .str j=>match x with
  | .str i=>Q (.bl (if neg then !(!(cH j i 0 j.length 1).isEmpty) else !(cH j i 0 j.length 1).isEmpty)) S
  |_=>False
 | .tup ws=>match inF S x ws with
  |some b=>Q (.bl (if neg then !b else b)) S
  |none=>False
 | .ref a=>zce S a λws=>match inF S x ws with
  |some b=>Q (.bl (if neg then !b else b)) S
  |none=>False
 |_=>False
noncomputable def zze (K:ah) (neg:Bool):R2:=λx y H Q=>∃wx ws vs S p b,y= .ref p∧(SqL K H p vs∨SqT K H p vs)∧Reps K H ws vs∧Rep K H wx x∧RepS K H S∧inF S wx ws=ae b∧Q (.bl (if neg then !b else b)) H
section
variable {X:Cx}{a b:Expr}{pos:aA}{ta tb:WE}
theorem zxT (hu:X.A.units+60<cLine):OpR X (bf .In) (zze X.K false):=by
 intro pins s σ H x y v u Q I rx ry h;obtain⟨wx,ws,vs,S,p,b,rfl,hq,rs,r,hS,e,q⟩:=h;cases ry;rcases hq with hq |hq
 ·obtain⟨its,rv,p,_⟩:=I.list hq;obtain⟨f,h1,h2⟩:=zlN I hS hu rs rv r rx e;exact SeqAt.in_listAt f p.isList h1 (by rw[h2];exact⟨.bl b,H,I,rfl,q⟩)
 ·obtain⟨its,rv,p,_⟩:=I.tuple hq;obtain⟨f,h1,h2⟩:=zlN I hS hu rs rv r rx e;exact SeqAt.in_tupleAt f p h1 (by rw[h2];exact⟨.bl b,H,I,rfl,q⟩)
theorem zoH (hu:X.A.units+60<cLine):OpR X (bf .NotIn) (zze X.K true):=by
 intro pins s σ H x y v u Q I rx ry h;obtain⟨wx,ws,vs,S,p,b,rfl,hq,rs,r,hS,e,q⟩:=h;cases ry;rcases hq with hq |hq
 ·obtain⟨its,rv,p,_⟩:=I.list hq;obtain⟨f,h1,h2⟩:=zlN I hS hu rs rv r rx e;exact SeqAt.notIn_listAt f p.isList h1 (by rw[h2];exact⟨.bl (!b),H,I,rfl,q⟩)
 ·obtain⟨its,rv,p,_⟩:=I.tuple hq;obtain⟨f,h1,h2⟩:=zlN I hS hu rs rv r rx e;exact SeqAt.notIn_tupleAt f p h1 (by rw[h2];exact⟨.bl (!b),H,I,rfl,q⟩)
theorem zgS{K:ah}{neg:Bool}{H:Hp}{x y:V}{wx wy:W}{S:Sto}{Q:VK}{QW:WK}(rx:Rep K H wx x) (ry:Rep K H wy y) (hS:RepS K H S) (h:oIn neg wx wy S QW) (hQ:Wish K H S QW Q) :
  (∃i j,x= .str i∧y= .str j∧Q (.bl (if neg then !(!(cH j i 0 j.length 1).isEmpty) else !(cH j i 0 j.length 1).isEmpty)) H)∨zze K neg x y H Q:=by
 cases ry with
 |str j=>
  cases rx with
  |str i=>exact .inl ⟨i,j,rfl,rfl,hQ _ S _ H .refl (.bl _) hS h⟩
  |_=>exact h.elim
 |tup f hs=>
  refine .inr ?_;unfold oIn at h;dsimp only at h;split at h
  ·exact⟨wx,_,_,S,_,_,rfl, .inr (.of f),hs,rx,hS, ‹_›,hQ _ S _ H .refl (.bl _) hS h⟩
  ·exact h.elim
 |ref a=>
  refine .inr ?_;obtain⟨ws,e,h⟩:=zaY h;obtain⟨vs,f,hs⟩:=hS a _ e;split at h
  ·exact⟨wx,_,_,S,_,_,rfl, .inl (.of f),hs,rx,hS, ‹_›,hQ _ S _ H .refl (.bl _) hS h⟩
  ·exact h.elim
 |_=>exact h.elim
theorem zyA{k:Nat}(hr:Room k X.A) (ha:JE X a ta) (hb:JE X b tb) (hm:cT .In b=false:=by with_unfolding_all rfl):JT X (.Compare a [.In] [b] pos) (wTb (wOp (oIn false) ta tb)):=
 zei (op_in_str.or (zxT (by have:=hr.units;omega))) (λH x y wx wy S Q QW rx ry hS h hQ=>zgS rx ry hS h hQ) ha hb hm
theorem zqE{k:Nat}(hr:Room k X.A) (ha:JE X a ta) (hb:JE X b tb) (hm:cT .NotIn b=false:=by with_unfolding_all rfl):JT X (.Compare a [.NotIn] [b] pos) (wTb (wOp (oIn true) ta tb)):=
 zei (op_notin_str.or (zoH (by have:=hr.units;omega))) (λH x y wx wy S Q QW rx ry hS h hQ=>zgS rx ry hS h hQ) ha hb hm
end
noncomputable def oIx:W2:=λx y S Q=>match y with
 | .int i=>match x with
  | .tup ws=>match atI ws i with
   |some w=>Q w S
   |none=>False
  | .ref a=>zce S a λws=>match atI ws i with
   |some w=>Q w S
   |none=>False
  | .scr ns=>match atI ns i with
   |some n=>Q (.int n) S
   |none=>False
  | .str x=>x.length≤sizeLine∧match atI x.cps.toList i with
   |some c=>Q (.str ⟨#[c]⟩) S
   |none=>False
  |_=>False
 |_=>False
theorem zkz{K:ah}{H:Hp}{ws:List W}{vs:List V}{i:Int}{w:W}(r:Reps K H ws vs) (e:atI ws i=ae w):∃v,atI vs i=ae v∧Rep K H w v:=by
 unfold atI at e⊢;rw[←r.length];cases q:ixN ws.length i with
 |none=>rw[q]at e;cases e
 |some j=>rw[q]at e;exact r.get e
theorem zuI{α β:Type}{f:α→β}{xs:List α}{i:Int}{x:α}(e:atI xs i=ae x):atI (xs.map f) i=ae (f x):=by
 unfold atI at e⊢;rw[ap];cases q:ixN xs.length i with
 |none=>rw[q]at e;cases e
 |some j=>
  rw[q]at e;show(xs.map f)[j]? =_;rw[bo,show xs[j]? =ae x from e];rfl
theorem zwM{K:ah}:OpW K (rIx K) oIx:=λH x y wx wy S Q QW rx ry hS h hQ=>by
 cases ry with
 |int i=>
  cases rx with
  |tup f hs=>
   unfold oIx at h;dsimp only at h;split at h
   ·obtain⟨v,ev,r⟩:=zkz hs ‹_›;exact .inr (.inl ⟨_,_,i,v,rfl,rfl, .of f,ev,hQ _ S _ H .refl r hS h⟩)
   ·exact h.elim
  |ref a=>
   obtain⟨ws,e,h⟩:=zaY h;obtain⟨vs,f,hs⟩:=hS a _ e;split at h
   ·obtain⟨v,ev,r⟩:=zkz hs ‹_›;exact .inl ⟨_,_,i,v,rfl,rfl, .of f,ev,hQ _ S _ H .refl r hS h⟩
   ·exact h.elim
  |scr f=>
   unfold oIx at h;dsimp only at h;split at h
   ·exact .inl ⟨_,_,i,_,rfl,rfl,f.sq,zuI ‹_›,hQ _ S _ H .refl (.int _) hS h⟩
   ·exact h.elim
  |str z=>
   unfold oIx at h;dsimp only at h;obtain⟨hz,h⟩:=h;split at h
   ·exact .inr (.inr ⟨z,i,_,rfl,rfl,hz, ‹_›,hQ _ S _ H .refl (.str _) hS h⟩)
   ·exact h.elim
  |_=>exact h.elim
 |_=>exact h.elim
section
variable {X:Cx}{a b e:Expr}{pos p2:aA}{ta tb te:WE}{lo hi:Option Expr}
theorem zap (ha:JE X a ta) (hb:JE X b tb) (hs:zkX b:=by intro _ _;rfl):JE X (.Subscript a b pos) (wOp oIx ta tb):=λE hE=>
 (zwb zsT (ha E hE) (hb E hE) hs).mono λσ H Q h=>zfC h λH2 x y wx wy S QW rx ry hS q hQ=>zwM H2 x y wx wy S Q QW rx ry hS q hQ
abbrev WO:=WX→WSt→Sto→(Option Int→Sto→Prop)→Prop
noncomputable def zzz (K:ah) (t:WSt→Sto→(Option Int→Sto→Prop)→Prop):TO:=λσ H Q=>∃σW S QW,RpSt K H σW σ∧RepS K H S∧t σW S QW∧ ∀b S' H',Ext H S H' S'→RepS K H' S'→QW b S'→Q b H'
def JO (X:Cx) (e:Option Expr) (t:WO):Prop:=∀E,Hook X E→PO X e (zzz X.K (t E))
noncomputable def woN:WO:=λ_ _ S Q=>Q none S
noncomputable def woS (t:WE):WO:=λE σ S Q=>t E σ S λw S1=>match w with
 | .int i=>Q (ae i) S1
 |_=>False
theorem PO.mono{X:Cx}{e:Option Expr}{t t':TO}(h:PO X e t) (q:∀σ H Q,t' σ H Q→t σ H Q):PO X e t':=λpins s σ H Q I z=>h pins s σ H Q I (q σ H Q z)
theorem zaO:JO X none woN:=λE hE=>po_none.mono λσ H Q ⟨σW,S,QW,hσ,hS,ht,hQ⟩=>hQ none S H .refl hS ht
theorem zaG (h:JE X e te):JO X (ae e) (woS te):=λE hE=>(zuG (h E hE)).mono λσ H Q ⟨σW,S,QW,hσ,hS,ht,hQ⟩=>⟨σW,S,_,hσ,hS,ht,λw S1 v H1 e1 r1 hS1 h1=>by
 cases r1 with
 |int i=>exact⟨i,rfl,hQ _ S1 H1 e1 hS1 h1⟩
 |_=>exact h1.elim⟩
noncomputable def zdE {α:Type}(xs:List α) (lo hi:Option Int):List α:=(xs.drop (HT.sIx xs.length 0 lo)).take (HT.sIx xs.length xs.length hi - HT.sIx xs.length 0 lo)
theorem zht{K:ah}{H:Hp}{ws:List W}{vs:List V}{lo hi:Option Int}(r:Reps K H ws vs):Reps K H (zdE ws lo hi) (zpD vs lo hi):=by
 unfold zdE zpD;rw[r.length];exact(r.drop _).take _
theorem zlf{α β:Type}{f:α→β}{xs:List α}{lo hi:Option Int}:zdE (xs.map f) lo hi=(zdE xs lo hi).map f:=by
 unfold zdE;rw[ap,List.map_take,List.map_drop]
theorem zer{prog:aE}{w:az}{A:aP}{E:Value→ag→Prop}{s:ag}{t sl:Addr}{items:Array Value}{vl vu:Value}{lo hi:Option Int}{Q:Value→ag→Prop}(ht:dR s.heap t items) (hs:s.heap.IsSliceOf sl vl vu .none) (pl:cD vl lo) (pu:cD vu hi)
  (hw:HT.sIx items.size 0 lo=0∧HT.sIx items.size items.size hi=items.size) (h:Q (.ref t) s):aj (ao prog w) A (dq (.ref t) (.ref sl)) Q E s:=by
 obtain⟨os,hos,hcs,hds⟩:=id hs;have hTs:s.TypeIs (.ref sl) "slice" :=⟨os,hos,hcs⟩;unfold dq
 try with_reducible refine gf ?_
 first |refine ai (aD ?_) |skip
 refine ai (ix ht.typeIs (by decide) ?_);refine ai (c7 (name:=aS "__getitem__") ht.typeIs eA
  (cX eA ht.typeIs iO ?_ (i4 _ _)))
 show aj _ _ (jq (.ref t) >>= _) _ _ s;refine ai (tupleItemsOf_ ht ?_);refine ai (eI hTs ?_);rw[if_pos (by decide)];refine ai (HT.sliceApplied_gen hs pl pu ?_);show aj _ _ (if(((HT.sIx items.size 0 lo:Nat):Int) == 0&&(1:Int) == 1&&(HT.sIx items.size items.size hi - HT.sIx items.size 0 lo) == items.size)=true then _ else _) _ _ s;rw[hw.1,hw.2,if_pos (by simp)];unfold bX.Tuple.tupleIsExact;refine ai (ai (eI ht.typeIs (aD ?_)));rw[if_pos (by decide)];exact ai (dF (aD ⟨_,rfl,aD h⟩))
theorem sl_tupW:SlR X (λx lo hi H Q=>∃a xs,x= .ref a∧SqT X.K H a xs∧((HT.sIx xs.length 0 lo=0∧HT.sIx xs.length xs.length hi=xs.length)∧Q (.ref a) H∨ ¬(HT.sIx xs.length 0 lo=0∧HT.sIx xs.length xs.length hi=xs.length)∧ ∀p,H p=none→Q (.ref p) (upd H p (.tup (zpD xs lo hi))))):=by
 intro pins s σ H x v vl vu lo hi sl Q I rx hs pl pu h;obtain⟨a,xs,rfl,hx,⟨hw,q⟩ |⟨hw,q⟩⟩:=h
 ·cases rx;obtain⟨its,r,ht,hz⟩:=I.tuple hx;have hlen:its.toArray.size=xs.length:=by rw[aQ];exact r.length.symm
  refine⟨"tuple",_,eA.lookup,ht.typeIs,?_⟩;exact zer ht hs pl pu (by rw[hlen];exact hw) ⟨.ref a,H,I,rfl,q⟩
 ·exact zwz pins s σ H _ v vl vu lo hi sl Q I rx hs pl pu ⟨a,xs,rfl,hx,hw,q⟩
noncomputable def oSl:W→Option Int→Option Int→Sto→WK→Prop
 | .tup ws,lo,hi,S,Q=>Q (.tup (zdE ws lo hi)) S
 | .str z,lo,hi,S,Q=>z.length≤sizeLine∧Q (.str (cF z lo hi)) S
 | .ref a,lo,hi,S,Q=>zce S a λws=>∀p,S p=none→Q (.ref p) (put S p (.lst (zdE ws lo hi)))
 | .scr ns,lo,hi,S,Q=>∀p,S p=none→Q (.ref p) (put S p (.lst ((zdE ns lo hi).map W.int)))
 |_,_,_,_,_=>False
noncomputable def wSl (t:WE) (l h:WO):WE:=λE σ S Q=>t E σ S λx S1=>l E σ S1 λlo S2=>h E σ S2 λhi S3=>oSl x lo hi S3 Q
theorem znk{α:Type}{xs:List α}{lo hi:Option Int}(h:HT.sIx xs.length 0 lo=0∧HT.sIx xs.length xs.length hi=xs.length):zdE xs lo hi=xs:=by
 unfold zdE;rw[h.1,h.2,c8,eC,gD]
theorem zcK{tl th:WO}(he:JE X e te) (hl:JO X lo tl) (hh:JO X hi th):JE X (.Subscript e (.Slice lo hi none p2) pos) (wSl te tl th):=λE hE=>
 (zlT (sl_tupW.or (sl_str.or zou)) (he E hE) (hl E hE) (hh E hE)).mono λσ H Q ⟨σW,S,QW,hσ,hS,ht,hQ⟩=>
  ⟨σW,S,_,hσ,hS,ht,λw S1 v H1 e1 r1 hS1 h1=>⟨σW,S1,_,hσ.ext e1,hS1,h1,λlo S2 H2 e2 hS2 h2=>⟨σW,S2,_,(hσ.ext e1).ext e2,hS2,h2,λhi S3 H3 e3 hS3 h3=>by
   have hQ':=hQ.from (e1.trans (e2.trans e3));have r3:=(r1.ext e2).ext e3;cases r3 with
   | @tup a vs ws f hs=>
    refine .inl ⟨a,vs,rfl, .of f,?_⟩;by_cases hw:HT.sIx vs.length 0 lo=0∧HT.sIx vs.length vs.length hi=vs.length
    ·refine .inl ⟨hw,hQ' (.tup ws) S3 _ H3 .refl (.tup f hs) hS3 ?_⟩;have:=znk (xs:=ws) (lo:=lo) (hi:=hi) (by rw[hs.length];exact hw);have h3':QW (.tup (zdE ws lo hi)) S3:=h3;rw[this]at h3';exact h3'
    ·exact .inr ⟨hw,λp hp=>hQ' _ S3 _ _ (.new hp) (.tup zaF ((zht hs).ext (.new (S:=S3) hp))) (hS3.new hp) h3⟩
   |str z=>exact .inr (.inl ⟨z,rfl,h3.1,hQ' _ S3 _ H3 .refl (.str _) hS3 h3.2⟩)
   |ref a=>
    obtain⟨ws,ea,h⟩:=zaY h3;obtain⟨vs,f,hs⟩:=hS3 a _ ea;exact .inr (.inr ⟨a,vs,rfl, .of f,λp hp=>hQ' _ _ _ _ (.newS hp) (.ref p) (hS3.put_lst hp ((zht hs).ext (.new (S:=S3) hp))) (h p (hS3.free hp))⟩)
   | @scr a ns f=>
    refine .inr (.inr ⟨a,_,rfl,f.sq,λp hp=>hQ' _ _ _ _ (.newS hp) (.ref p) (hS3.put_lst hp ?_) (h3 p (hS3.free hp))⟩);have q:zpD (ns.map V.int) lo hi=(zdE ns lo hi).map V.int:=zlf;rw[q];exact Reps.ofInts _
   |_=>exact h3.elim⟩⟩⟩
noncomputable def zui (t:WE) (l h:WO):WL:=λE σ S Q=>t E σ S λx S1=>l E σ S1 λlo S2=>h E σ S2 λhi S3=>match x with
 | .ref a=>zce S3 a λws=>Q (zdE ws lo hi) S3
 | .scr ns=>Q ((zdE ns lo hi).map W.int) S3
 |_=>False
theorem zrn{tl th:WO}(he:JE X e te) (hl:JO X lo tl) (hh:JO X hi th):JL X (.Subscript e (.Slice lo hi none p2) pos) (zui te tl th):=λE hE=>
 (zlT zou (he E hE) (hl E hE) (hh E hE)).mono λσ H Q ⟨σW,S,QW,hσ,hS,ht,hQ⟩=>
  ⟨σW,S,_,hσ,hS,ht,λw S1 v H1 e1 r1 hS1 h1=>⟨σW,S1,_,hσ.ext e1,hS1,h1,λlo S2 H2 e2 hS2 h2=>⟨σW,S2,_,(hσ.ext e1).ext e2,hS2,h2,λhi S3 H3 e3 hS3 h3=>by
   have e':=e1.trans (e2.trans e3);have r3:=(r1.ext e2).ext e3;cases r3 with
   |ref a=>
    obtain⟨ws,ea,h⟩:=zaY h3;obtain⟨vs,f,hs⟩:=hS3 a _ ea;exact⟨a,vs,rfl, .of f,λp hp=>hQ _ S3 _ p _ (e'.trans (.new hp)) (e'.free hp) zaF (hS3.free hp) ((zht hs).ext (.new (S:=S3) hp)) (hS3.new hp) h⟩
   | @scr a ns f=>
    refine⟨a,_,rfl,f.sq,λp hp=>hQ _ S3 _ p _ (e'.trans (.new hp)) (e'.free hp) zaF (hS3.free hp) ?_ (hS3.new hp) h3⟩;have q:zpD (ns.map V.int) lo hi=(zdE ns lo hi).map V.int:=zlf;rw[q];exact Reps.ofInts _
   |_=>exact h3.elim⟩⟩⟩
end
abbrev WF:=List W→Sto→WK→Prop
noncomputable def wB (f:WF) (t:WA):WE:=λE σ S Q=>t E σ S λws S1=>f ws S1 Q
def zgE (K:ah) (r:List V→Hp→VK→Prop) (f:WF):Prop:=∀H vs ws S (Q:VK) (QW:WK),Reps K H ws vs→RepS K H S→f ws S QW→Wish K H S QW Q→r vs H Q
noncomputable def wBL (f:WF) (t:WL):WE:=λE σ S Q=>t E σ S λws S1=>f ws S1 Q
def zmY (K:ah) (r:List V→Hp→VK→Prop) (f:WF):Prop:=∀H a vs ws S (Q:VK) (QW:WK),H a=ae (.lst vs)→S a=none→Reps K H ws vs→RepS K H S→f ws S QW→Wish K H S QW Q→r [.ref a] H Q
section
variable {X:Cx}{x:Str}{p pos:aA}{e:Expr}{es:List Expr}{t:WA}{tl:WL}{id T:String}{r:List V→Hp→VK→Prop}{f:WF}
theorem zmd (hc:CallR X (.builtin id) r) (hw:zgE X.K r f) (hg:Gl X x) (hm:X.mg x=none) (hv:bS x=ae (.builtin id)) (ha:JA X (e::es) t) (hn:x≠ "__name__" :=by decide) (hdb:(x == ("__debug__" :Str))=false:=by decide)
  (he:am (e::es) X.env=(false,aq e X.env)::am es X.env:=by rfl) (hpl:(aO pos (am es X.env)).any (·.1)=false:=by rfl):JE X (.Call (.Name x p) (e::es) [] pos) (wB f t):=λE hE=>
 (zif hc hg hm hv (ha E hE) hn hdb he hpl).mono λσ H Q ⟨σW,S,QW,hσ,hS,ht,hQ⟩=>⟨σW,S,_,hσ,hS,ht,λws S1 vs H1 e1 r1 hS1 h1=>hw H1 vs ws S1 Q QW r1 hS1 h1 (hQ.from e1)⟩
theorem zwk (hc:CallR X (.type T) r) (hw:zgE X.K r f) (hg:Gl X x) (hm:X.mg x=none) (hv:bS x=ae (.type T)) (ha:JA X (e::es) t) (hn:x≠ "__name__" :=by decide) (hdb:(x == ("__debug__" :Str))=false:=by decide)
  (he:am (e::es) X.env=(false,aq e X.env)::am es X.env:=by rfl) (hpl:(aO pos (am es X.env)).any (·.1)=false:=by rfl):JE X (.Call (.Name x p) (e::es) [] pos) (wB f t):=λE hE=>
 (zjU hc hg hm hv (ha E hE) hn hdb he hpl).mono λσ H Q ⟨σW,S,QW,hσ,hS,ht,hQ⟩=>⟨σW,S,_,hσ,hS,ht,λws S1 vs H1 e1 r1 hS1 h1=>hw H1 vs ws S1 Q QW r1 hS1 h1 (hQ.from e1)⟩
theorem zqv (hc:CallR X (.builtin id) r) (hw:zmY X.K r f) (hg:Gl X x) (hm:X.mg x=none) (hv:bS x=ae (.builtin id)) (ha:JL X e tl) (hn:x≠ "__name__" :=by decide) (hdb:(x == ("__debug__" :Str))=false:=by decide)
  (he:am [e] X.env=(false,aq e X.env)::am [] X.env:=by rfl) (hpl:(aO pos (am [] X.env)).any (·.1)=false:=by rfl):JE X (.Call (.Name x p) [e] [] pos) (wBL f tl):=λE hE=>
 (zif hc hg hm hv (zdt (ha E hE) pa_nil he) hn hdb he hpl).mono λσ H Q ⟨σW,S,QW,hσ,hS,ht,hQ⟩=>⟨σW,S,_,hσ,hS,ht,λws S1 vs a H1 e1 fa ea na r1 hS1 h1=>hw H1 a vs ws S1 Q QW ea na r1 hS1 h1 (hQ.from e1)⟩
theorem zsE (hc:CallR X (.type T) r) (hw:zmY X.K r f) (hg:Gl X x) (hm:X.mg x=none) (hv:bS x=ae (.type T)) (ha:JL X e tl) (hn:x≠ "__name__" :=by decide) (hdb:(x == ("__debug__" :Str))=false:=by decide)
  (he:am [e] X.env=(false,aq e X.env)::am [] X.env:=by rfl) (hpl:(aO pos (am [] X.env)).any (·.1)=false:=by rfl):JE X (.Call (.Name x p) [e] [] pos) (wBL f tl):=λE hE=>
 (zjU hc hg hm hv (zdt (ha E hE) pa_nil he) hn hdb he hpl).mono λσ H Q ⟨σW,S,QW,hσ,hS,ht,hQ⟩=>⟨σW,S,_,hσ,hS,ht,λws S1 vs a H1 e1 fa ea na r1 hS1 h1=>hw H1 a vs ws S1 Q QW ea na r1 hS1 h1 (hQ.from e1)⟩
noncomputable def zfq:WF:=λws S Q=>match ws with
 | [.tup us]=>Q (.int us.length) S
 | [.ref a]=>zce S a λus=>Q (.int us.length) S
 | [.scr ns]=>Q (.int ns.length) S
 | [.str z]=>z.length≤sizeLine∧Q (.int z.length) S
 |_=>False
theorem zqc{K:ah}:zgE K (λxs H Q=>(∃p ys,xs=[.ref p]∧(SqL K H p ys∨SqT K H p ys)∧Q (.int ys.length) H)∨ ∃z,xs=[.str z]∧z.length≤sizeLine∧Q (.int z.length) H) zfq:=λH vs ws S Q QW r hS h hQ=>by
 cases r with
 |nil=>exact h.elim
 |cons r1 r2=>
  cases r2 with
  |cons _ _=>cases r1<;>exact h.elim
  |nil=>
   cases r1 with
   |tup f hs=>exact .inl ⟨_,_,rfl, .inr (.of f),by rw[←hs.length];exact hQ _ S _ H .refl (.int _) hS h⟩
   |ref a=>
    obtain⟨us,e,h⟩:=zaY h;obtain⟨vs,f,hs⟩:=hS a _ e;exact .inl ⟨_,_,rfl, .inl (.of f),by rw[←hs.length];exact hQ _ S _ H .refl (.int _) hS h⟩
   |scr f=>exact .inl ⟨_,_,rfl, .inl f.sq,by rw[ap];exact hQ _ S _ H .refl (.int _) hS h⟩
   |str z=>exact .inr ⟨z,rfl,h.1,hQ _ S _ H .refl (.int _) hS h.2⟩
   |_=>exact h.elim
theorem zcz (hg:Gl X "len") (hm:X.mg "len" =none) (ha:JA X (e::es) t) 
  (he:am (e::es) X.env=(false,aq e X.env)::am es X.env:=by rfl) (hpl:(aO pos (am es X.env)).any (·.1)=false:=by rfl):JE X (.Call (.Name "len" p) (e::es) [] pos) (wB zfq t):=
 zmd (call_len_seq.or zis) zqc hg hm PySem.boot_len ha (by decide) (by decide) he hpl
noncomputable def zdo:WF:=λws S Q=>match ws with
 | [.tup us]=>Q (.tup us) S
 | [.ref a]=>zce S a λus=>Q (.tup us) S
 |_=>False
theorem zkx{K:ah}:zgE K (λxs H Q=>∃p ys,xs=[.ref p]∧((SqL K H p ys∧ ∀l,H l=none→Q (.ref l) (upd H l (.tup ys)))∨(SqT K H p ys∧Q (.ref p) H))) zdo:=λH vs ws S Q QW r hS h hQ=>by
 cases r with
 |nil=>exact h.elim
 |cons r1 r2=>
  cases r2 with
  |cons _ _=>cases r1<;>exact h.elim
  |nil=>
   cases r1 with
   |tup f hs=>exact⟨_,_,rfl, .inr ⟨.of f,hQ _ S _ H .refl (.tup f hs) hS h⟩⟩
   |ref a=>
    obtain⟨us,e,h⟩:=zaY h;obtain⟨vs,f,hs⟩:=hS a _ e;exact⟨_,_,rfl, .inl ⟨.of f,λl hl=>hQ _ S _ _ (.new hl) (.tup zaF (hs.ext (.new (S:=S) hl))) (hS.new hl) h⟩⟩
   |_=>exact h.elim
noncomputable def zgs:WF:=λws S Q=>Q (.tup ws) S
theorem zkV{K:ah}:zmY K (λxs H Q=>∃p ys,xs=[.ref p]∧((SqL K H p ys∧ ∀l,H l=none→Q (.ref l) (upd H l (.tup ys)))∨(SqT K H p ys∧Q (.ref p) H))) zgs:=λH a vs ws S Q QW ea na r hS h hQ=>
 ⟨a,vs,rfl, .inl ⟨.of ea,λl hl=>hQ _ S _ _ (.new hl) (.tup zaF (r.ext (.new (S:=S) hl))) (hS.new hl) h⟩⟩
noncomputable def zhp:List W→Option (List Bool)
 | []=>ae []
 | .bl b::ws=>(zhp ws).map (b:: ·)
 |_=>none
theorem zpy{K:ah}{H:Hp}:∀{ws:List W}{vs:List V}{bs:List Bool},Reps K H ws vs→zhp ws=ae bs→vs=bs.map V.bl
 | [],_,_, .nil,e=>by have:=aI e;subst this;rfl
 |w::ws,_,_, .cons r rs,e=>by
  cases r with
  |bl b=>
   have e':(zhp ws).map (b:: ·)=ae _:=e;cases q:zhp ws with
   |none=>rw[q]at e';cases e'
   |some cs=>
    rw[q]at e';have:=aI e';subst this;rw[aB,zpy rs q]
  |_=>cases e
noncomputable def znp:WF:=λws S Q=>match zhp ws with
 |some bs=>Q (.bl (bs.all _root_.id)) S
 |none=>False
theorem zqg{K:ah}:zmY K (λxs H Q=>∃(p:Addr) (bs:List Bool),xs=[.ref p]∧SqL K H p (bs.map V.bl)∧Q (.bl (bs.all _root_.id)) H) znp:=λH a vs ws S Q QW ea na r hS h hQ=>by
 unfold znp at h;split at h
 ·rename_i bs e;have:=zpy r e;subst this;exact⟨a,bs,rfl, .of ea,hQ _ S _ H .refl (.bl _) hS h⟩
 ·exact h.elim
noncomputable def tyW:W→Sto→(String→Prop)→Prop
 | .non,_,Q=>Q "NoneType"
 | .bl _,_,Q=>Q "bool"
 | .int _,_,Q=>Q "int"
 | .str _,_,Q=>Q "str"
 | .tup _,_,Q=>Q "tuple"
 | .ref a,S,Q=>zce S a λ_=>Q "list"
 | .scr _,_,_=>False
noncomputable def zbV (A B:String):Bool:=A == B || (A == "bool" &&B == "int")
noncomputable def zqB (T:String) (t:WE):WE:=λE σ S Q=>t E σ S λw S1=>tyW w S1 λA=>Q (.bl (zbV A T)) S1
theorem zfm{a:Expr}{ta:WE}{p2:aA}{T:Str}{T':String}(hg:Gl X "isinstance") (hm:X.mg "isinstance" =none) (hgT:Gl X T) (hmT:X.mg T=none) (hv:bS T=ae (.type T')) (ha:JE X a ta) (hn:T≠ "__name__") (hd:(T == ("__debug__" :Str))=false)
  (hk:∀A∈ ["NoneType", "bool", "int", "str", "tuple", "list"],eO X.K (.type A) (.type T')=ae (zbV A T'))
  (he:am [a, .Name T p2] X.env=(false,aq a X.env)::am [.Name T p2] X.env:=by rfl) (he2:am [.Name T p2] X.env=(false,aq (.Name T p2) X.env)::am [] X.env:=by rfl) (hpl:(aO pos (am [.Name T p2] X.env)).any (·.1)=false:=by rfl) :
  JE X (.Call (.Name "isinstance" p) [a, .Name T p2] [] pos) (zqB T' ta):=λE hE=>
 (zif zqF hg hm PyProof.Rows.boot_isinstance (zdt (ha E hE) (zdt (ztD (v:= .ty T') hgT hmT hv rfl hn hd) pa_nil he2) he) (by decide) (by decide) he hpl).mono λσ H Q ⟨σW,S,QW,hσ,hS,ht,hQ⟩=>⟨σW,S,_,hσ,hS,ht,λw S1 v H1 e1 r1 hS1 h1=>by
  have fin:∀{t:Value}(A:String),t= .type A→A∈ ["NoneType", "bool", "int", "str", "tuple", "list"]→TyOf X.K H1 v t→QW (.bl (zbV A T')) S1→ ∃x t c b,[v,V.ty T']=[x, .ty c]∧TyOf X.K H1 x t∧eO X.K t (.type c)=ae b∧Q (.bl b) H1:=λA e hA ty q=>by
   subst e;exact⟨v,_,T',_,rfl,ty,hk A hA,hQ _ S1 _ H1 e1 (.bl _) hS1 q⟩
  cases r1 with
  |non=>exact fin _ rfl (by simp) .non h1
  |bl b=>exact fin _ rfl (by simp) (.bl b) h1
  |int i=>exact fin _ rfl (by simp) (.int i) h1
  |str z=>exact fin _ rfl (by simp) (.str z) h1
  |tup f hs=>exact fin _ rfl (by simp) (.tup f) h1
  |ref a=>
   obtain⟨ws,ea,h⟩:=zaY h1;obtain⟨vs,f,hs⟩:=hS1 a _ ea;exact fin _ rfl (by simp) (.lst f) h
  |scr f=>exact h1.elim⟩
end
abbrev WMf:=W→List W→Sto→WK→Prop
noncomputable def rvL:W→Sto→Prop
 | .ref a,S=>zce S a λ_=>True
 |_,_=>False
noncomputable def rvS:W→Sto→Prop
 | .str _,_=>True
 |_,_=>False
noncomputable def wM (rv:W→Sto→Prop) (f:WMf) (to:WE) (t:WA):WE:=λE σ S Q=>to E σ S λw S1=>rv w S1∧t E σ S1 λws S2=>f w ws S2 Q
noncomputable def wML (rv:W→Sto→Prop) (f:WMf) (to:WE) (t:WL):WE:=λE σ S Q=>to E σ S λw S1=>rv w S1∧t E σ S1 λws S2=>f w ws S2 Q
def MtW (K:ah) (r:V→List V→Hp→VK→Prop) (f:WMf):Prop:=∀H x w vs ws S (Q:VK) (QW:WK),Rep K H w x→Reps K H ws vs→RepS K H S→f w ws S QW→Wish K H S QW Q→r x vs H Q
def MtL (K:ah) (r:V→List V→Hp→VK→Prop) (f:WMf):Prop:=∀H x w a vs ws S (Q:VK) (QW:WK),Rep K H w x→H a=ae (.lst vs)→S a=none→Reps K H ws vs→RepS K H S→f w ws S QW→Wish K H S QW Q→r x [.ref a] H Q
def zvz (K:ah) (T:String) (rv:W→Sto→Prop):Prop:=∀H w v S,Rep K H w v→RepS K H S→rv w S→tyV K T v H
theorem zqr{K:ah}:zvz K "list" rvL:=λH w v S r hS h=>by
 cases r with
 |ref a=>
  obtain⟨ws,e,_⟩:=zaY h;obtain⟨vs,f,_⟩:=hS a _ e;exact .inl ⟨rfl,vs, .of f⟩
 |_=>exact h.elim
theorem zsx{K:ah}:zvz K "str" rvS:=λH w v S r hS h=>by
 cases r with
 |str x=>exact rfl
 |_=>exact h.elim
section
variable {X:Cx}{o e:Expr}{es:List Expr}{to:WE}{t:WA}{tl:WL}{name:Str}{apos cpos:aA}{id T:String}{r:V→List V→Hp→VK→Prop}{f:WMf}{rv:W→Sto→Prop}
theorem zzO (pa:fe T) (slot:Slot T name id) (hty:eY (.builtin id)=pure (.type "method_descriptor")) (hrv:zvz X.K T rv) (hm:MtR X id r) (hw:MtW X.K r f) (ho:JE X o to) (ha:JA X (e::es) t)
  (hbase:cM o name X.env (aq o X.env)=aq o X.env:=by rfl)
  (hfew:((aO cpos (am (e::es) X.env)).all (λx=> !x.1)&&(dD cpos (dv [] X.env)).all (λx=>x.1.isSome)
   &&decide ((e::es).length+([]:List bR).length+(if([]:List bR).isEmpty then 0 else 1)<30))=true:=by rfl)
  (hline:(apos.endLine == cpos.line)=true:=by rfl) (hs:am (e::es) X.env=(false,aq e X.env)::am es X.env:=by rfl) (hplain:(aO cpos (am es X.env)).any (·.1)=false:=by rfl) :
  JE X (.Call (.Attribute o name apos) (e::es) [] cpos) (wM rv f to t):=λE hE=>
 (zxV pa slot hty hm (ho E hE) (ha E hE) hbase hfew hline hs hplain).mono λσ H Q ⟨σW,S,QW,hσ,hS,ht,hQ⟩=>⟨σW,S,_,hσ,hS,ht,λw S1 v H1 e1 r1 hS1 h1=>
  ⟨hrv H1 w v S1 r1 hS1 h1.1,σW,S1,_,hσ.ext e1,hS1,h1.2,λws S2 vs H2 e2 r2 hS2 h2=>hw H2 v w vs ws S2 Q QW (r1.ext e2) r2 hS2 h2 (hQ.from (e1.trans e2))⟩⟩
theorem zyN (pa:fe T) (slot:Slot T name id) (hty:eY (.builtin id)=pure (.type "method_descriptor")) (hrv:zvz X.K T rv) (hm:MtR X id r) (hw:MtL X.K r f) (ho:JE X o to) (ha:JL X e tl)
  (hbase:cM o name X.env (aq o X.env)=aq o X.env:=by rfl)
  (hfew:((aO cpos (am [e] X.env)).all (λx=> !x.1)&&(dD cpos (dv [] X.env)).all (λx=>x.1.isSome)
   &&decide ([e].length+([]:List bR).length+(if([]:List bR).isEmpty then 0 else 1)<30))=true:=by rfl)
  (hline:(apos.endLine == cpos.line)=true:=by rfl) (hs:am [e] X.env=(false,aq e X.env)::am [] X.env:=by rfl) (hplain:(aO cpos (am [] X.env)).any (·.1)=false:=by rfl) :
  JE X (.Call (.Attribute o name apos) [e] [] cpos) (wML rv f to tl):=λE hE=>
 (zxV pa slot hty hm (ho E hE) (zdt (ha E hE) pa_nil hs) hbase hfew hline hs hplain).mono λσ H Q ⟨σW,S,QW,hσ,hS,ht,hQ⟩=>⟨σW,S,_,hσ,hS,ht,λw S1 v H1 e1 r1 hS1 h1=>
  ⟨hrv H1 w v S1 r1 hS1 h1.1,σW,S1,_,hσ.ext e1,hS1,h1.2,λws S2 vs a H2 e2 fa ea na r2 hS2 h2=>hw H2 v w a vs ws S2 Q QW (r1.ext e2) ea na r2 hS2 h2 (hQ.from (e1.trans e2))⟩⟩
theorem zzL (pa:fe T) (slot:Slot T name id) (hty:eY (.builtin id)=pure (.type "method_descriptor")) (hrv:zvz X.K T rv) (hm:MtR X id r) (hw:MtW X.K r f) (ho:JE X o to)
  (hbase:cM o name X.env (aq o X.env)=aq o X.env:=by rfl) (hline:(apos.endLine == cpos.line)=true:=by rfl):JE X (.Call (.Attribute o name apos) [] [] cpos) (wM rv f to waNil):=λE hE=>
 (zxj pa slot hty hm (ho E hE) hbase hline).mono λσ H Q ⟨σW,S,QW,hσ,hS,ht,hQ⟩=>⟨σW,S,_,hσ,hS,ht,λw S1 v H1 e1 r1 hS1 h1=>
  ⟨hrv H1 w v S1 r1 hS1 h1.1,hw H1 v w [] [] S1 Q QW r1 .nil hS1 h1.2 (hQ.from e1)⟩⟩
noncomputable def zcg:WMf:=λw ws S Q=>match w with
 | .ref a=>zce S a λxs=>match ws with
  | [y]=>xs.length<sizeLine∧Q .non (put S a (.lst (xs++[y])))
  |_=>False
 |_=>False
theorem zns{K:ah}:MtW K zoD zcg:=λH x w vs ws S Q QW r rs hS h hQ=>by
 cases r with
 |ref a=>
  obtain⟨xs,ea,h⟩:=zaY h;obtain⟨us,f,hs⟩:=hS a _ ea;cases rs with
  |nil=>exact h.elim
  |cons r1 r2=>
   cases r2 with
   |cons _ _=>exact h.elim
   |nil=>
    obtain⟨e,hS'⟩:=hS.set_lst ea (hs.append (.one r1));exact⟨a,us,_,rfl,rfl,f,by rw[←hs.length];exact h.1,hQ _ _ _ _ e .non hS' h.2⟩
 |_=>exact h.elim
theorem zbP (ho:JE X o to) (ha:JA X (e::es) t)
  (hbase:cM o "append" X.env (aq o X.env)=aq o X.env:=by rfl)
  (hfew:((aO cpos (am (e::es) X.env)).all (λx=> !x.1)&&(dD cpos (dv [] X.env)).all (λx=>x.1.isSome)
   &&decide ((e::es).length+([]:List bR).length+(if([]:List bR).isEmpty then 0 else 1)<30))=true:=by rfl)
  (hline:(apos.endLine == cpos.line)=true:=by rfl) (hs:am (e::es) X.env=(false,aq e X.env)::am es X.env:=by rfl) (hplain:(aO cpos (am es X.env)).any (·.1)=false:=by rfl) :
  JE X (.Call (.Attribute o "append" apos) (e::es) [] cpos) (wM rvL zcg to t):=zzO gK PySem.F.slot_list_append PySem.F.type_list_append zqr ziH zns ho ha hbase hfew hline hs hplain
noncomputable def zAH:WMf:=λw ws S Q=>match w with
 | .ref a=>zce S a λxs=>match ws with
  | []=>match xs[xs.length - 1]? with
   |some y=>Q y (put S a (.lst xs.dropLast))
   |none=>False
  |_=>False
 |_=>False
noncomputable def zge:WMf:=λw ws S Q=>match w with
 | .ref a=>zce S a λxs=>match ws with
  | [.tup ys]=>xs.length+ys.length≤sizeLine∧Q .non (put S a (.lst (xs++ys)))
  | [.ref b]=>zce S b λys=>xs.length+ys.length≤sizeLine∧Q .non (put S a (.lst (xs++ys)))
  |_=>False
 |_=>False
theorem znu{K:ah}:MtW K (λx vs H Q=>zpn x vs H Q∨zlJ K x vs H Q) zge:=λH x w vs ws S Q QW r rs hS h hQ=>by
 cases r with
 |ref a=>
  obtain⟨xs,ea,h⟩:=zaY h;obtain⟨us,f,hs⟩:=hS a _ ea;cases rs with
  |nil=>exact h.elim
  |cons r1 r2=>
   cases r2 with
   |cons _ _=>cases r1<;>exact h.elim
   |nil=>
    cases r1 with
    |tup g ks=>
     obtain⟨e,hS'⟩:=hS.set_lst ea (hs.append ks);exact .inr ⟨a,_,us,_,rfl,rfl,f, .of g,by rw[←hs.length,←ks.length];exact h.1,hQ _ _ _ _ e .non hS' h.2⟩
    |ref b=>
     obtain⟨ys,eb,h⟩:=zaY h;obtain⟨zs,g,ks⟩:=hS b _ eb;obtain⟨e,hS'⟩:=hS.set_lst ea (hs.append ks);exact .inl ⟨a,b,us,zs,rfl,rfl,f,g,by rw[←hs.length,←ks.length];exact h.1,hQ _ _ _ _ e .non hS' h.2⟩
    |_=>exact h.elim
 |_=>exact h.elim
theorem zpK (ho:JE X o to) (ha:JA X (e::es) t)
  (hbase:cM o "extend" X.env (aq o X.env)=aq o X.env:=by rfl)
  (hfew:((aO cpos (am (e::es) X.env)).all (λx=> !x.1)&&(dD cpos (dv [] X.env)).all (λx=>x.1.isSome)
   &&decide ((e::es).length+([]:List bR).length+(if([]:List bR).isEmpty then 0 else 1)<30))=true:=by rfl)
  (hline:(apos.endLine == cpos.line)=true:=by rfl) (hs:am (e::es) X.env=(false,aq e X.env)::am es X.env:=by rfl) (hplain:(aO cpos (am es X.env)).any (·.1)=false:=by rfl) :
  JE X (.Call (.Attribute o "extend" apos) (e::es) [] cpos) (wM rvL zge to t):=zzO gK PySem.F.slot_list_extend PySem.F.type_list_extend zqr (MtR.or znK zmO) znu ho ha hbase hfew hline hs hplain
noncomputable def zrv:WMf:=λw ws S Q=>match w with
 | .ref a=>zce S a λxs=>xs.length+ws.length≤sizeLine∧Q .non (put S a (.lst (xs++ws)))
 |_=>False
noncomputable def zfo:List W→Option (List Str)
 | []=>ae []
 | .str b::ws=>(zfo ws).map (b:: ·)
 |_=>none
theorem zlb{K:ah}{H:Hp}:∀{ws:List W}{vs:List V}{bs:List Str},Reps K H ws vs→zfo ws=ae bs→vs=bs.map V.str
 | [],_,_, .nil,e=>by have:=aI e;subst this;rfl
 |w::ws,_,_, .cons r rs,e=>by
  cases r with
  |str b=>
   have e':(zfo ws).map (b:: ·)=ae _:=e;cases q:zfo ws with
   |none=>rw[q]at e';cases e'
   |some cs=>
    rw[q]at e';have:=aI e';subst this;rw[aB,zlb rs q]
  |_=>cases e
noncomputable def ziK:WMf:=λw ws S Q=>match w with
 | .str z=>match zfo ws with
  |some ys=>(ys.map (·.length)).sum+ys.length*z.length≤16777216∧Q (.str (cS z ys)) S
  |none=>False
 |_=>False
theorem zrd{K:ah}:MtL K (zvR K) ziK:=λH x w a vs ws S Q QW r ea na rs hS h hQ=>by
 cases r with
 |str z=>
  unfold ziK at h;dsimp only at h;split at h
  ·rename_i ys e;have:=zlb rs e;subst this;exact⟨z,a,ys,rfl,rfl, .of ea,h.1,hQ _ S _ H .refl (.str _) hS h.2⟩
  ·exact h.elim
 |_=>exact h.elim
theorem zry (ho:JE X o to) (ha:JL X e tl)
  (hbase:cM o "join" X.env (aq o X.env)=aq o X.env:=by rfl)
  (hfew:((aO cpos (am [e] X.env)).all (λx=> !x.1)&&(dD cpos (dv [] X.env)).all (λx=>x.1.isSome)
   &&decide ([e].length+([]:List bR).length+(if([]:List bR).isEmpty then 0 else 1)<30))=true:=by rfl)
  (hline:(apos.endLine == cpos.line)=true:=by rfl) (hs:am [e] X.env=(false,aq e X.env)::am [] X.env:=by rfl) (hplain:(aO cpos (am [] X.env)).any (·.1)=false:=by rfl) :
  JE X (.Call (.Attribute o "join" apos) [e] [] cpos) (wML rvS ziK to tl):=zyN j4 PySem.F.slot_str_join PySem.F.type_str_join zsx zvu zrd ho ha hbase hfew hline hs hplain
noncomputable def zxB:WMf:=λw ws S Q=>match w with
 | .str z=>match ws with
  | [.str y]=>match cH z y 0 z.length 1 with
   |i::_=>Q (.int i) S
   | []=>False
  |_=>False
 |_=>False
end
noncomputable def zwT (i:Nat) (g:Int→Int→Int) (e:WE):WS:=λE D σ S=>match σ[i]? with
 |some (ae (.int a))=>e E σ S λw S1=>match w with
  | .int b=>D.nx (σ.set i (ae (.int (g a b)))) S1
  |_=>False
 |_=>False
section
variable {X:Cx}{e:Expr}{te:WE}{pos pos':aA}
theorem zth{i:Nat}{x:Str}(hN:X.N.Nodup) (hi:X.N[i]? =ae x) (hx:Loc X.env.scope x) (he:JE X e te) (hf:X.fn x=true∨X.env.scope.names.lookup x=ae .local:=by first |exact .inl rfl |exact .inr rfl |assumption) :
  JS X (.AugAssign (.Name x pos') .Add e pos) (zwT i (λa b=>a+b) te):=λE hE=>
 (zvN hN hi hx (he E hE) zxY hf).mono λD σ H ⟨σW,S,DW,hσ,hS,ht,hD⟩=>by
  unfold zwT at ht;split at ht
  ·rename_i a ea;obtain⟨v,ev,rv⟩:=hσ.get ea;cases rv;refine⟨_,ev,σW,S,_,hσ,hS,ht,λw S1 v H1 e1 r1 hS1 h1=>?_⟩;cases r1 with
   |int b=>exact⟨a,b,rfl,rfl,hD.nx _ S1 _ H1 e1 ((hσ.ext e1).set (.int _) i) hS1 h1⟩
   |_=>exact h1.elim
  ·exact ht.elim
end
noncomputable def znG (c:WT) (b:WS):WS:=λE D σ S=>∃I:Nat→WSt→Sto→Prop,(∃m,I m σ S)∧ ∀m σ S,I m σ S→c E σ S λk S1=>if k=true then
 b E { D with nx:=λσ' S'=>∃m' S'',m'<m∧Sub S'' S'∧I m' σ' S'',ct:=λσ' S'=>∃m' S'',m'<m∧Sub S'' S'∧I m' σ' S'',bk:=D.nx } σ S1 else D.nx σ S1
section
variable {X:Cx}{c:Expr}{body:List Stmt}{tc:WT}{tb:WS}{pos:aA}
theorem zmg (hc:JT X c tc) (hb:JSs X body tb):JS X (.While c body [] pos) (znG tc tb):=λE hE=>
 (zqP hE.own (hc E hE) (hb E hE)).mono λD σ H ⟨σW,S,DW,hσ,hS,⟨J,⟨n,ht⟩,step⟩,hD⟩=>by
  refine⟨λm σ1 H1=>∃σW1 S1,Ext H S H1 S1∧RpSt X.K H1 σW1 σ1∧RepS X.K H1 S1∧J m σW1 S1,⟨n,σW,S, .refl,hσ,hS,ht⟩,?_⟩;rintro m σ1 H1 ⟨σW1,S1,e1,hσ1,hS1,h1⟩;refine⟨σW1,S1,_,hσ1,hS1,step m σW1 S1 h1,λk S2 H2 e2 hS2 h2=>?_⟩;cases k with
  |false=>exact hD.nx σW1 S2 σ1 H2 (e1.trans e2) (hσ1.ext e2) hS2 h2
  |true=>
   rw[if_pos rfl]at h2⊢;refine⟨λσ' H'=>∃m',m'<m∧ ∃σW1 S1,Ext H S H' S1∧RpSt X.K H' σW1 σ'∧RepS X.K H' S1∧J m' σW1 S1,λσ' H' n'=>n',σW1,S2,_,hσ1.ext e2,hS2,h2,?_⟩;have e12:=e1.trans e2;have go:Goes X.K H2 S2 (λσ' S'=>∃m' S'',m'<m∧Sub S'' S'∧J m' σ' S'') (λσ' H'=>∃m',m'<m∧ ∃σW1 S1,Ext H S H' S1∧RpSt X.K H' σW1 σ'∧RepS X.K H' S1∧J m' σW1 S1):=λσW3 S3 σ3 H3 e3 hσ3 hS3 ⟨m',S4,hm,sb,q⟩=>
    ⟨m',hm,σW3,S4,(e12.trans e3).trans (.drop sb),hσ3,hS3.sub sb,q⟩
   exact⟨go,hD.rt.from e12,hD.nx.from e12,go⟩
end
noncomputable def forL (g:WG) (b:WS) (E:WX) (D:WEnds) (G:Sto→Prop):List W→WSt→Sto→Prop
 | [],σ,S=>D.nx σ S
 |w::ws,σ,S=>g w σ S λσ1 S1=>b E { D with nx:=λσ' S'=>∃S'',Sub S'' S'∧G S''∧forL g b E D G ws σ' S'',ct:=λσ' S'=>∃S'',Sub S'' S'∧G S''∧forL g b E D G ws σ' S'',bk:=D.nx } σ1 S1
noncomputable def zgA (q:WI) (g:WG) (b:WS):WS:=λE D σ S=>q E σ S λws G S1=>forL g b E D G ws σ S1
section
variable {X:Cx}{tg iter:Expr}{body:List Stmt}{q:WI}{g:WG}{tb:WS}{pos:aA}
theorem zca (hi:JI X tg iter q) (hg:JG X tg g) (hb:JSs X body tb) (hcl:X.calm=true:=by rfl)
  (hs:∀x,de iter X.env x=pure x:=by intro _;rfl):JS X (.For tg iter body [] pos) (zgA q g tb):=λE hE=>
 (zvT hE.own hcl (hi E hE) (hg E hE) (hb E hE) hs).mono λD σ H ⟨σW,S,DW,hσ,hS,ht,hD⟩=>by
  refine⟨σW,S,_,hσ,hS,ht,λws G S1 J H1 e1 hS1 hG1 hJ h1=>?_⟩;refine⟨λi m σ2 H2=>∃σW2 S2,Ext H1 S1 H2 S2∧RpSt X.K H2 σW2 σ2∧RepS X.K H2 S2∧G S2∧m=ws.length - i∧i≤ws.length∧forL g tb E DW G (ws.drop i) σW2 S2,
   ⟨ws.length,σW,S1, .refl,hσ.ext e1,hS1,hG1,rfl,aX _,h1⟩,?_⟩
  rintro i m σ2 H2 ⟨σW2,S2,e2,hσ2,hS2,hG2,rfl,hi2,h2⟩;obtain⟨ji,js⟩:=hJ i S2 H2 e2 hS2 hG2;by_cases hlt:i<ws.length
  ·obtain⟨jgo,jy⟩:=ji ws[i] (aJ hlt);refine .inr ⟨jgo,λσ' H'=>∃σW2 S2,Ext H1 S1 H' S2∧RpSt X.K H' σW2 σ'∧RepS X.K H' S2∧G S2∧ws.length - (i+1)=ws.length - (i+1)∧i+1≤ws.length∧forL g tb E DW G (ws.drop (i+1)) σW2 S2,λσ' H' z=>⟨_,by omega,z⟩,λx H3 y3=>?_⟩
   obtain⟨e3,hS3,r3⟩:=jy x H3 y3;rw[eQ hlt]at h2;refine⟨_,σW2,S2,_,r3,hσ2.ext e3,hS3,h2,λσW4 S4 σ4 H4 e4 hσ4 hS4 h4=>?_⟩;have e14:Ext H1 S1 H4 S4:=(e2.trans e3).trans e4;refine⟨σW4,S4,_,hσ4,hS4,h4,?_⟩;have go:Goes X.K H4 S4 (λσ' S'=>∃S'',Sub S'' S'∧G S''∧forL g tb E DW G (ws.drop (i+1)) σ' S'') (λσ' H'=>∃σW2 S2,Ext H1 S1 H' S2∧RpSt X.K H' σW2 σ'∧RepS X.K H' S2∧G S2∧ws.length - (i+1)=ws.length - (i+1)∧i+1≤ws.length∧forL g tb E DW G (ws.drop (i+1)) σW2 S2):=
    λσW5 S5 σ5 H5 e5 hσ5 hS5 ⟨S6,sb,hG6,q⟩=>⟨σW5,S6,(e14.trans e5).trans (.drop sb),hσ5,hS5.sub sb,hG6,rfl,hlt,q⟩
   exact⟨go,hD.rt.from (e1.trans e14),hD.nx.from (e1.trans e14),go⟩
  ·have hl:i=ws.length:=by omega
   rw[di (eP hl.symm)]at h2;exact .inl ⟨js hl,hD.nx σW2 S2 σ2 H2 (e1.trans e2) hσ2 hS2 h2⟩
end
section
variable {X:Cx}{tg:Expr}
noncomputable def zAo (K:ah) (tl:TE):TI:=λσ H R=>tl σ H λx H1=>(∃a,x= .ref a∧(∃xs,SqL K H1 a xs)∧R (Itl K a) H1)∨(∃a,x= .ref a∧(∃xs,SqT K H1 a xs)∧R (Itt K a) H1)∨ ∃z,x= .str z∧R (Its z) H1
theorem zwn{l:Expr}{tl:TE}(hl:PE X l tl):PI X tg l (zAo X.K tl):=by
 intro pins s σ H R I h;refine thn (hl pins s σ H _ I h) λv s1 ⟨x,H1,I1,r1,q1⟩=>?_;have fp:∀b∈ [s1.heap.objs.size],zij X pins H1 b:=λb hb=>by
  have e:b=s1.heap.objs.size:=by simpa using hb
  subst e;exact I1.fpOk (au _) (I1.hok.fresh (au _))
 rcases q1 with⟨a,e,⟨xs,hq⟩,q⟩ |⟨a,e,⟨xs,hq⟩,q⟩ |⟨z,e,q⟩
 ·subst e;cases r1;obtain⟨its,rv,p,hz⟩:=I1.list hq;refine dc p.isList ?_;exact⟨s1.heap.objs.size,[s1.heap.objs.size],_,_,H1,rfl,I1.kept (t':=s1.toks) λb o e=>aH _ e,ziw a _,⟨_,bh _ rfl,rfl,rfl⟩,fp,q⟩
 ·subst e;cases r1;obtain⟨its,rv,p,hz⟩:=I1.tuple hq;refine jD (show s1.heap.IsTuple a its.toArray from p) ?_;exact⟨s1.heap.objs.size,[s1.heap.objs.size],_,_,H1,rfl,I1.kept (t':=s1.toks) λb o e=>aH _ e,znl a _,⟨_,bh _ rfl,rfl,rfl⟩,fp,q⟩
 ·subst e;obtain⟨t,rfl⟩:=r1;cases ha:z.cps.all (· <128)
  ·refine wpAny_pyIter_wide ha ?_;exact⟨s1.heap.objs.size,[s1.heap.objs.size],_,_,H1,rfl,I1.kept (t':=s1.toks) λb o e=>aH _ e,
    zmo _ z t "str_iterator" (by decide) (λA' hA=>Walks.strWide hA _ z t) (λ_ _ _ _ _ st h=>wpAny_pyIter_striter_wide st h),⟨_,bh _ rfl,rfl,rfl⟩,fp,q⟩
  ·refine wpAny_pyIter_ascii ha ?_;exact⟨s1.heap.objs.size,[s1.heap.objs.size],_,_,H1,rfl,I1.kept (t':=s1.toks) λb o e=>aH _ e,
    zmo _ z t "str_ascii_iterator" (by decide) (λA' hA=>Walks.strAscii hA _ z t) (λ_ _ _ _ _ st h=>wpAny_pyIter_striter_ascii st h),⟨_,bh _ rfl,rfl,rfl⟩,fp,q⟩
noncomputable def zjf (z:Str):List W:=z.cps.toList.map λc=> .str ⟨#[c]⟩
noncomputable def wIv (t:WE):WI:=λE σ S Q=>t E σ S λw S1=>match w with
 | .tup ws=>Q ws (λ_=>True) S1
 | .ref a=>zce S1 a λws=>Q ws (λS'=>S' a=ae (.lst ws)) S1
 | .scr ns=>Q (ns.map W.int) (λ_=>True) S1
 | .str z=>Q (zjf z) (λ_=>True) S1
 |_=>False
theorem zkL{K:ah}{a:Addr}{ws:List W}{G:Sto→Prop}{H0:Hp}{S0:Sto}(h:∀S H,Ext H0 S0 H S→RepS K H S→G S→ ∃vs,SqL K H a vs∧Reps K H ws vs):ItW K (Itl K a) ws G H0 S0:=λi S H e hS hG=>by
 obtain⟨vs,hq,r⟩:=h S H e hS hG;refine⟨λw ew=>?_,λhl=>⟨vs,hq,by rw[←r.length,hl];exact au _⟩⟩
 obtain⟨v,ev,rv⟩:=r.get ew;refine⟨⟨vs,v,hq,ev⟩,λx H' ⟨e1,e2⟩=>?_⟩;subst e1;have e3:=e2 vs hq;rw[ev]at e3;cases e3;exact⟨.refl,hS,rv⟩
theorem zvO{K:ah}{a:Addr}{ws:List W}{vs:List V}{H0:Hp}{S0:Sto}(f:H0 a=ae (.tup vs)) (r:Reps K H0 ws vs):ItW K (Itt K a) ws (λ_=>True) H0 S0:=λi S H e hS hG=>by
 have f':=e.tup _ _ f;have r':=r.ext e;refine⟨λw ew=>?_,λhl=>⟨vs, .of f',by rw[←r'.length,hl];exact au _⟩⟩
 obtain⟨v,ev,rv⟩:=r'.get ew;refine⟨⟨vs,v, .of f',ev⟩,λx H' ⟨e1,e2⟩=>?_⟩;subst e1;have e3:=e2 vs (.of f');rw[ev]at e3;cases e3;exact⟨.refl,hS,rv⟩
theorem zxE{K:ah}{z:Str}{H0:Hp}{S0:Sto}:ItW K (Its z) (zjf z) (λ_=>True) H0 S0:=λi S H e hS hG=>by
 unfold zjf;refine⟨λw ew=>?_,λhl=>?_⟩
 ·rw[bo]at ew;cases ec:z.cps.toList[i]? with
  |none=>rw[ec]at ew;cases ew
  |some c=>
   rw[ec]at ew;have ew':=aI ew;subst ew';have hi:i<z.cps.size:=by
    have:=(bG.mp ec).1;simpa using this
   refine⟨hi,λx H' ⟨e1,c',e2,e3⟩=>?_⟩;subst e1 e3;have:c'=c:=by
    have q:z.cps.toList[i]? =ae c':=by rw[←e2];simp
    rw[ec]at q;exact(aI q).symm
   subst this;exact⟨.refl,hS, .str _⟩
 ·show i=z.cps.size;simpa using hl
theorem zbI{l:Expr}{tl:WE}(hl:JE X l tl):JI X tg l (wIv tl):=λE hE=>
 (zwn (hl E hE)).mono λσ H R ⟨σW,S,QW,hσ,hS,ht,hR⟩=>⟨σW,S,_,hσ,hS,ht,λw S1 v H1 e1 r1 hS1 h1=>by
  cases r1 with
  |tup f hs=>exact .inr (.inl ⟨_,rfl,⟨_, .of f⟩,hR _ _ S1 _ H1 e1 hS1 trivial (zvO f hs) h1⟩)
  |ref a=>
   obtain⟨ws,ea,h⟩:=zaY h1;obtain⟨vs,f,hs⟩:=hS1 a _ ea;refine .inl ⟨_,rfl,⟨_, .of f⟩,hR _ _ S1 _ H1 e1 hS1 ea (zkL λS2 H2 e2 hS2 g2=>?_) h⟩;obtain⟨vs2,f2,hs2⟩:=hS2 a _ g2;exact⟨vs2, .of f2,hs2⟩
  |scr f=>exact .inl ⟨_,rfl,⟨_,f.sq⟩,hR _ _ S1 _ H1 e1 hS1 trivial (zkL λS2 H2 e2 hS2 g2=>⟨_,(e2.fz f).sq,Reps.ofInts _⟩) h1⟩
  |str z=>exact .inr (.inr ⟨z,rfl,hR _ _ S1 _ H1 e1 hS1 trivial zxE h1⟩)
  |_=>exact h1.elim⟩
noncomputable def wIl (t:WL):WI:=λE σ S Q=>t E σ S λws S1=>Q ws (λ_=>True) S1
theorem zwp{l:Expr}{tl:WL}(hl:JL X l tl):JI X tg l (wIl tl):=λE hE=>
 (zuy (hl E hE)).mono λσ H R ⟨σW,S,QW,hσ,hS,ht,hR⟩=>⟨σW,S,_,hσ,hS,ht,λws S1 vs a H1 e1 fa ea na r1 hS1 h1=>
  ⟨a,rfl,⟨vs, .of ea⟩,hR _ _ S1 _ H1 e1 hS1 trivial (zkL λS2 H2 e2 hS2 g2=>⟨vs, .of (e2.fr a _ ea na).1,r1.ext e2⟩) h1⟩⟩
noncomputable def znv (lo:Int) (n:Nat):List W:=(ba n).map λ(i:Nat)=> .int (lo+(i:Int))
theorem zwO{K:ah}{lo:Int}{n:Nat}{H0:Hp}{S0:Sto}:ItW K (Itr lo n) (znv lo n) (λ_=>True) H0 S0:=λi S H e hS hG=>by
 unfold znv;refine⟨λw ew=>?_,λhl=>by
  have:i=n:=by simpa using hl
  exact eP this.symm⟩
 rw[bo]at ew;by_cases hi:i<n
 ·rw[dj hi]at ew;have ew':=aI ew;subst ew';refine⟨hi,λx H' ⟨e1,e2⟩=>?_⟩;subst e1 e2;exact⟨.refl,hS, .int _⟩
 ·rw[hZ (by simpa using hi)]at ew;cases ew
noncomputable def zsI (t:WA):WI:=λE σ S Q=>t E σ S λws S1=>match ws with
 | [.int j]=>(-(2 ^ 62)≤j∧j<2 ^ 62)∧Q (znv 0 j.toNat) (λ_=>True) S1
 |_=>False
theorem zdV{a:Expr}{ta:WA}{p pos:aA}(hg:Gl X "range") (hm:X.mg "range" =none) (ha:JA X [a] ta) (hs:am [a] X.env=[(false,aq a X.env)]:=by rfl):JI X tg (.Call (.Name "range" p) [a] [] pos) (zsI ta):=λE hE=>
 (zqs hg hm (ha E hE) hs).mono λσ H R ⟨σW,S,QW,hσ,hS,ht,hR⟩=>⟨σW,S,_,hσ,hS,ht,λws S1 vs H1 e1 r1 hS1 h1=>by
  cases r1 with
  |nil=>exact h1.elim
  |cons r2 r3=>
   cases r3 with
   |cons _ _=>cases r2<;>exact h1.elim
   |nil=>
    cases r2 with
    |int j=>exact⟨j,rfl,h1.1.1,h1.1.2,hR _ _ S1 _ H1 e1 hS1 trivial zwO h1.2⟩
    |_=>exact h1.elim⟩
end
noncomputable def zfw:WT:=λ_ _ S Q=>Q true S
def JTs (X:Cx) (ifs:List Expr) (t:WT):Prop:=∀E,Hook X E→PTs X ifs (zuP X.K (t E))
theorem zbB{X:Cx}:JTs X [] zfw:=λE hE pins s σ H Q I ⟨σW,S,QW,hσ,hS,ht,hQ⟩=>zuF pins s σ H Q I (hQ true S H .refl hS ht)
theorem znI{X:Cx}{c:Expr}{t:WT}(h:JT X c t):JTs X [c] t:=λE hE=>zux (h E hE)
noncomputable def zcE (g:WG) (c:WT) (e:WE) (E:WX) (G:Sto→Prop) (Q:List W→Sto→Prop):List W→List W→WSt→Sto→Prop
 | [],acc,_,S=>Q acc S
 |w::ws,acc,σ,S=>g w σ S λσ1 S1=>c E σ1 S1 λb S2=>if b=true then e E σ1 S2 λy S3=>acc.length<sizeLine∧ ∃S4,Sub S4 S3∧G S4∧zcE g c e E G Q ws (acc++[y]) σ1 S4
   else ∃S4,Sub S4 S2∧G S4∧zcE g c e E G Q ws acc σ1 S4
noncomputable abbrev noE:WX:=λ_ _ _=>False
theorem zki{X:Cx}(h:X.xe=λ_ _=>False):Hook X noE:=⟨by rw[h];exact fh.never,λ_ _ _ _ _ _ _ _ _ _ _ _ _ _ _ _ _ _ _ _ z=>z.elim,λ_ _ _ _ _ _ _ _ _ _ _ _ _ _ _ _ z=>z.elim⟩
theorem PS.nox{X:Cx}{st:Stmt}{t:TS}(h:PS X.nox st t):PS X st t:=λpins s σ H D I hw=>
 ck (h pins s σ H D (I.wish _) hw) (λ_ _ q=>q.unwish) λ_ _ z=>cA z
noncomputable def zcI (k:Nat) (fr:List Nat) (q:WI) (g:WG) (c:WT) (e:WE):WL:=λ_ σ S Q=>q noE σ S λws G S1=>zcE g c e noE G Q ws [] (aR k none++fr.map λj=>(σ[j]?).join) S1
theorem zmM{K:ah}{H:Hp}{σW:WSt}{σ:St}{k:Nat}{fr:List Nat}(h:RpSt K H σW σ):RpSt K H (aR k none++fr.map λj=>(σW[j]?).join) (zlu σ k fr):=by
 have one:∀j:Nat,RpO K H (σW[j]?).join (σ[j]?).join:=λj=>by
  cases e:σW[j]? with
  |none=>exact trivial
  |some w=>
   cases w with
   |none=>exact trivial
   |some w=>
    obtain⟨v,ev,r⟩:=h.get e;rw[ev];exact r
 have go:∀fr:List Nat,RpSt K H (fr.map λj=>(σW[j]?).join) (zgb σ fr):=by
  intro fr
  induction fr with
  |nil=>exact .nil
  |cons j fr ih=>exact .cons (one j) ih
 unfold zlu
 induction k with
 |zero=>exact go fr
 |succ k ih=>exact .cons trivial ih
section
variable {X:Cx}{scope:Scope}{N:List Str}{k:Nat}{fr:List Nat}{tg iter elt:Expr}{ifs:List Expr}{pos:aA}{q:WI}{g:WG}{c:WT}{e:WE}
theorem Ext.loose{H H':Hp}(a:∀b xs,H b=ae (.tup xs)→H' b=ae (.tup xs)) (b:∀c o u,H c=ae (.frz o u)→H' c=ae (.frz o u)) (d:∀b o,H b=ae o→ ∃o',H' b=ae o'):Ext H (λ_=>ae (.lst [])) H' (λ_=>ae (.lst [])):=
 ⟨a,b,(λ_ _ _ g=>nomatch g),d⟩
theorem Ext.over{H H':Hp}{S S':Sto}{l:Addr}{o:HO}(e:Ext H S H' S') (h:H l=none):Ext H S (upd H' l o) S':=
 ⟨λb xs q=>by rw[zax (zar q h)];exact e.tup b xs q,λb ob u q=>by rw[zax (zar q h)];exact e.frz b ob u q,λb ob q z=>by rw[zax (zar q h)];exact e.fr b ob q z,λb ob q=>by rw[zax (zar q h)];exact e.all b ob q⟩
theorem zjJ (hg:∀s₀ H₀ fp pn,JG (zbx X scope N s₀ H₀ fp pn) tg g) (hc:∀s₀ H₀ fp pn,JTs (zbx X scope N s₀ H₀ fp pn) ifs c) (he:∀s₀ H₀ fp pn,JE (zbx X scope N s₀ H₀ fp pn) elt e)
  {E:WX}(σ:St) (H:Hp) (Q:VK):zwu X.K (zcI k fr q g c e E) σ H Q→zrS X scope N k fr tg ifs elt (zxW X.K (q noE)) σ H Q:=λ⟨σW,S0,QW,hσ,hS,ht,hQ⟩=>by
  refine⟨σW,S0,_,hσ,hS,ht,λws G S1 J H1 e1 hS1 hG1 hJ h1 l hl=>?_⟩;have upl:∀{H':Hp}{vs us:List V}{S':Sto},H' l=ae (.lst vs)→S' l=none→RepS X.K H' S'→Ext H' (λ_=>ae (.lst [])) (upd H' l (.lst us)) (λ_=>ae (.lst []))∧RepS X.K (upd H' l (.lst us)) S':=λ{H' vs us S'} f n hS'=>by
   have x:Ext H' (λ_=>ae (.lst [])) (upd H' l (.lst us)) (λ_=>ae (.lst [])):= .loose (λb xs q=>by rw[zax (zqW q f λz=>nomatch z)];exact q) (λb o u q=>by rw[zax (zqW q f λz=>nomatch z)];exact q) λb o q=>by
    by_cases hb:b=l
    ·subst hb;exact⟨_,zaF⟩
    ·exact⟨o,by rw[zax hb];exact q⟩
   refine⟨x,λa o q=>(hS' a o q).keep x λu z=>?_⟩;have ha:a≠l:=by rintro rfl;rw[n]at q;cases q
   rw[zax ha];exact z
  refine⟨λi m σ' H'=>∃σW' S' acc vs,Ext H1 S1 H' S'∧H' l=ae (.lst vs)∧S' l=none∧Reps X.K H' acc vs∧RpSt X.K H' σW' σ'∧RepS X.K H' S'∧G S'∧m=ws.length - i∧i≤ws.length∧zcE g c e noE G QW (ws.drop i) acc σW' S',
   ⟨ws.length,_,S1,[],[], .new hl,zaF,hS1.free hl, .nil,zmM (hσ.ext (e1.trans (.new (S:=S1) hl))),hS1.new hl,hG1,rfl,aX _,h1⟩,?_⟩
  rintro i m σ' H' ⟨σW',S',acc,vs,e2,f2,n2,ra,hσ2,hS2,hG2,rfl,hi2,h2⟩;obtain⟨ji,js⟩:=hJ i S' H' e2 hS2 hG2;by_cases hlt:i<ws.length
  ·obtain⟨jgo,jy⟩:=ji ws[i] (aJ hlt);refine .inr ⟨jgo,λσ'' H''=>∃σW' S' acc vs,Ext H1 S1 H'' S'∧H'' l=ae (.lst vs)∧S' l=none∧Reps X.K H'' acc vs∧RpSt X.K H'' σW' σ''∧RepS X.K H'' S'∧G S'∧ws.length - (i+1)=ws.length - (i+1)∧i+1≤ws.length∧zcE g c e noE G QW (ws.drop (i+1)) acc σW' S',
    λσ'' H'' z=>⟨_,by omega,z⟩,λx H3 y3=>?_⟩
   obtain⟨e3,hS3,r3⟩:=jy x H3 y3;rw[eQ hlt]at h2;intro s₀ H₀ fp pn;have hk:Hook (zbx X scope N s₀ H₀ fp pn) noE:=zki rfl;refine⟨_,_,_,hg s₀ H₀ fp pn noE hk,hc s₀ H₀ fp pn noE hk,he s₀ H₀ fp pn noE hk,?_⟩;refine⟨_,σW',S',_,r3,hσ2.ext e3,hS3,h2,λσW4 S4 σ4 H4 e4 hσ4 hS4 h4=>?_⟩;refine⟨σW4,S4,_,hσ4,hS4,h4,λb S5 H5 e5 hS5 h5=>?_⟩;have e15:Ext H' S' H5 S5:=(e3.trans e4).trans e5;have hσ5:=hσ4.ext e5;obtain⟨f5,n5⟩:=e15.fr l _ f2 n2;cases b with
   |false=>
    have h5:∃S4,Sub S4 S5∧G S4∧zcE g c e noE G QW (ws.drop (i+1)) acc σW4 S4:=h5;refine zAD ?_;obtain⟨S6,sb,hG6,h6⟩:=h5;have e16:=e15.trans (.drop sb);exact⟨σW4,S6,acc,vs,e2.trans e16,f5,(e16.fr l _ f2 n2).2,ra.ext e15,hσ5,hS5.sub sb,hG6,rfl,hlt,h6⟩
   |true=>
    rw[if_pos rfl]at h5;refine zAN ?_;refine⟨σW4,S5,_,hσ5,hS5,h5,λy S6 v H6 e6 r6 hS6 h6=>?_⟩;have e17:=e15.trans e6;obtain⟨f6,n6⟩:=e17.fr l _ f2 n2;obtain⟨hz,S7,sb,hG7,h7⟩:=h6;obtain⟨x6,hS6'⟩:=upl (us:=vs++[v]) f6 n6 hS6;have ra6:Reps X.K H6 (acc++[y]) (vs++[v]):=(ra.ext e17).append (.one r6);refine⟨vs,f6,by rw[←ra.length];exact hz,σW4,S7,acc++[y],vs++[v],?_,zaF,((e17.trans (.drop sb)).fr l _ f2 n2).2,ra6.ext x6,(hσ5.ext e6).ext x6,hS6'.sub sb,hG7,rfl,hlt,h7⟩
    exact(e2.trans (e17.trans (.drop sb))).over hl
  ·have hll:i=ws.length:=by omega
   rw[di (eP hll.symm)]at h2;exact .inl ⟨js hll,hQ acc S' vs l H' (e1.trans e2) (e1.free hl) f2 n2 ra hS2 h2⟩
theorem zbQ (S:CompSc X.nox scope N k fr) (hi:JI X.nox tg iter q) (hg:∀s₀ H₀ fp pn,JG (zbx X.nox scope N s₀ H₀ fp pn) tg g) (hc:∀s₀ H₀ fp pn,JTs (zbx X.nox scope N s₀ H₀ fp pn) ifs c) (he:∀s₀ H₀ fp pn,JE (zbx X.nox scope N s₀ H₀ fp pn) elt e)
  (hs:∀x,de iter X.env x=pure x:=by intro _;rfl) (hcl:X.calm=true:=by rfl):JL X (.ListComp elt [⟨tg,iter,ifs,0⟩] scope pos) (zcI k fr q g c e):=λE hE=>
 (PE.nox (ztO rfl hcl S (hi noE (zki rfl)) hs)).mono (zjJ (X:=X.nox) hg hc he)
theorem zhG{i:Nat}{x:Str}{pos' spos:aA}(hN:X.N.Nodup) (hxi:X.N[i]? =ae x) (hxl:Loc X.env.scope x) (S:CompSc X.nox scope N k fr) (hi:JI X.nox tg iter q) (hg:∀s₀ H₀ fp pn,JG (zbx X.nox scope N s₀ H₀ fp pn) tg g) (hc:∀s₀ H₀ fp pn,JTs (zbx X.nox scope N s₀ H₀ fp pn) ifs c) (he:∀s₀ H₀ fp pn,JE (zbx X.nox scope N s₀ H₀ fp pn) elt e)
  (hw:dI (.ListComp elt [⟨tg,iter,ifs,0⟩] scope pos) (ae (.Name x pos')) spos.line X.env=pure true:=by rfl) (hf:X.fn x=true∨X.env.scope.names.lookup x=ae .local:=by first |exact .inl rfl |exact .inr rfl |assumption)
  (hs:∀x,de iter X.env x=pure x:=by intro _;rfl) (hcl:X.calm=true:=by rfl):JS X (.Assign [.Name x pos'] (.ListComp elt [⟨tg,iter,ifs,0⟩] scope pos) spos) (wAsg (zcd (zcI k fr q g c e)) (wGN i)):=λE hE=>
 (PS.nox (ztt (X:=X.nox) rfl hcl S (hi noE (zki rfl)) hN hxi hxl hw hf hs)).mono λD σ H ⟨σW,S0,DW,hσ,hS,ht,hD⟩=>
  zjJ (X:=X.nox) (E:=E) hg hc he σ H _ ⟨σW,S0,_,hσ,hS,ht,λws S1 vs a H1 e1 fa ea na r1 hS1 h1=>by
   have ex:Ext H S0 H1 (put S1 a (.lst ws)):=⟨e1.tup,e1.frz,λb o q g=>by
    have hb:b≠a:=by rintro rfl;rw[fa]at q;cases q
    rw[zaI hb];exact e1.fr b o q g,e1.all⟩
   refine hD.nx _ (put S1 a (.lst ws)) _ H1 ex ((hσ.ext ex).set (.ref a) i) (λb o q=>?_) (h1 a na);by_cases hb:b=a
   ·subst hb;rw[zag]at q;cases q;exact⟨vs,ea,r1⟩
   ·rw[zaI hb]at q;exact hS1 b o q⟩
end
def SeqIt (k:Bool) (h:Heap) (it a:Addr) (i:Nat):Prop:=if k=true then h.IsListIter it a i else h.IsTupleIter it a i
def SeqIs (k:Bool) (h:Heap) (a:Addr) (its:Array Value):Prop:=if k=true then h.IsList a its else h.IsTuple a its
section
variable {k:Bool}{h h':Heap}{it a:Addr}{i:Nat}{its:Array Value}
theorem SeqIt.at (x:SeqIt k h it a i) (e:∀o,h.get? it=ae o→h'.get? it=ae o):SeqIt k h' it a i:=by
 cases k with
 |true=>exact Heap.IsListIter.at (show h.IsListIter it a i from x) e
 |false=>exact Heap.IsTupleIter.at (show h.IsTupleIter it a i from x) e
theorem SeqIs.at (x:SeqIs k h a its) (e:∀o,h.get? a=ae o→h'.get? a=ae o):SeqIs k h' a its:=by
 cases k with
 |true=>exact Heap.IsList.at (show h.IsList a its from x) e
 |false=>obtain⟨o,ho,r⟩:=(show h.IsTuple a its from x);exact⟨o,e o ho,r⟩
theorem SeqIt.ob (x:SeqIt k h it a i):∃o vs,h.get? it=ae o∧o.data= .fields vs:=by
 cases k with
 |true=>obtain⟨o,ho,_,hd⟩:=(show h.IsListIter it a i from x);exact⟨o,_,ho,hd⟩
 |false=>obtain⟨o,ho,_,hd⟩:=(show h.IsTupleIter it a i from x);exact⟨o,_,ho,hd⟩
end
section
variable {prog:aE}{w:az}{A:aP}{E:Value→ag→Prop}{s:ag}
theorem zfP{it t:Addr}{i:Nat}{its:Array Value}{x:Value}{Q:Value→ag→Prop}(hit:s.heap.IsTupleIter it t i) (ht:s.heap.IsTuple t its) (hx:its[i]? =ae x)
  (hQ:∀g,g.IsTupleIter it t (i+1)→cg it s.heap g→Q x { s with heap:=g }):aj (ao prog w) A (cK (.ref it)) Q E s:=by
 obtain⟨o,ho,hc,hd⟩:=id hit;obtain⟨ot,hot,_,nt,hdt⟩:=ht;unfold cK;refine ai (c7 (name:=aS "__next__") hit.typeIs fF (cX fF hit.typeIs iz ?_ (jr _)));show aj _ _ (field (.ref it) 0 >>= _) _ _ s;refine ai (bE ho hd (x:= .ref t) rfl ?_);show aj _ _ (if(bz t == cm)=true then _ else _) _ _ s;rw[if_neg (show ¬((bz t == cm)=true) from cR)];show aj _ _ (field (.ref it) 1 >>= _) _ _ s;refine ai (bE ho hd (x:= .int i 0) rfl ?_);show aj _ _ (seqItems? (.ref t) >>= _) _ _ s;refine ai (cN hot hdt ?_);simp only[bU,hx];refine ai (kc ho hd (by simp) (aD ⟨x,rfl,aD (hQ _ ?_ (iV ..))⟩));exact⟨_,Heap.get?_update_self _ ho (Obj.isFreed_of_fields (iD hd _)),(Obj.cls_mapFields ..).trans hc,by rw[iD hd];simp [cw]⟩
theorem zgF{it t:Addr}{i:Nat}{its:Array Value}{Q:Value→ag→Prop}(hh:A.handled=none) (hit:s.heap.IsTupleIter it t i) (ht:s.heap.IsTuple t its) (hx:its[i]? =none)
  (hE:∀g e,gM it s.heap g→(∃o,g.get? e=ae o∧o.cls= .type "StopIteration")→E (.ref e) { s with heap:=g }):aj (ao prog w) A (cK (.ref it)) Q E s:=by
 obtain⟨o,ho,hc,hd⟩:=id hit;obtain⟨ot,hot,_,nt,hdt⟩:=ht;unfold cK;refine ai (c7 (name:=aS "__next__") hit.typeIs fF (cX fF hit.typeIs iz ?_ (jr _)));show aj _ _ (field (.ref it) 0 >>= _) _ _ s;refine ai (bE ho hd (x:= .ref t) rfl ?_);show aj _ _ (if(bz t == cm)=true then _ else _) _ _ s;rw[if_neg (show ¬((bz t == cm)=true) from cR)];show aj _ _ (field (.ref it) 1 >>= _) _ _ s;refine ai (bE ho hd (x:= .int i 0) rfl ?_);show aj _ _ (seqItems? (.ref t) >>= _) _ _ s;refine ai (cN hot hdt ?_);simp only[bU,hx];refine ai (dF (ai (kc ho hd (by simp) ?_)));show aj _ _ (newExc (.type "StopIteration") [] >>= _) _ _ _;refine ai ?_;simp only[newExc,newTuple];refine ai (d6 ?_ (by size_fits));refine ai (m:=jW _ _) (wpAny_of_eq (a:=cm) (by first |rfl | (simp only[jW];rfl)) ?_);refine d6 ?_ (by size_fits);simp only[raiseNew];refine ai (wpAny_handled ?_)
 first |rw[show A.in1.handled=none from hh] |rw[hh]
 refine ai (aD (wpAny_throw ?_));exact hE _ _ (((iV ..).extBut.push _).push _) ⟨_,bh _ rfl,rfl⟩
theorem zeF{k:Bool}{it t:Addr}{i:Nat}{its:Array Value}{x:Value}{Q:Value→ag→Prop}(hit:SeqIt k s.heap it t i) (ht:SeqIs k s.heap t its) (hx:its[i]? =ae x)
  (hQ:∀g,SeqIt k g it t (i+1)→cg it s.heap g→Q x { s with heap:=g }):aj (ao prog w) A (cK (.ref it)) Q E s:=by
 cases k with
 |true=>exact wpAny_nextOf_list_item hit ht hx hQ
 |false=>exact zfP hit ht hx hQ
theorem zhJ{k:Bool}{it t:Addr}{i:Nat}{its:Array Value}{Q:Value→ag→Prop}(hh:A.handled=none) (hit:SeqIt k s.heap it t i) (ht:SeqIs k s.heap t its) (hx:its[i]? =none)
  (hE:∀g e,gM it s.heap g→(∃o,g.get? e=ae o∧o.cls= .type "StopIteration")→E (.ref e) { s with heap:=g }):aj (ao prog w) A (cK (.ref it)) Q E s:=by
 cases k with
 |true=>exact wpAny_nextOf_list_end hh hit ht hx hE
 |false=>exact zgF hh hit ht hx hE
theorem zqx{k:Bool}{e it l:Addr}{i:Nat}{its:Array Value}{x old:Value}{Q:Option Value→ag→Prop}
  (he:cL s.heap e it i old) (hit:SeqIt k s.heap it l i) (hl:SeqIs k s.heap l its) (hx:its[i]? =ae x) (hne:e≠it)
  (hQ:∀g,gj g e it ((i:Int)+1) x s.heap.objs.size→SeqIt k g it l (i+1)→g.get? s.heap.objs.size=ae { cls:= .type "tuple",data:= .seq #[.int i s.toks,x] }→g.objs.size=s.heap.objs.size+1→
   (∀b o,b≠e→b≠it→s.heap.get? b=ae o→g.get? b=ae o)→Q (ae (.ref s.heap.objs.size)) { s with heap:=g,toks:=s.toks+1 }):aj (ao prog w) A (b4 (.ref e)) Q E s:=by
 have hT:s.TypeIs (.ref e) "enumerate" :=⟨_,he,rfl⟩;unfold b4;refine ai (gc (c7 (name:=aS "__next__") hT fo (cX fo hT jc ?_ (iR _))));obtain⟨hp,g,d,tk,os⟩:=s;show aj _ _ (field (.ref e) 2 >>= _) _ _ _;refine ai (bE he rfl (x:= .ref it) rfl ?_);refine ai (zeF hit hl hx λg1 hit1 hs1=>?_);replace hs1:cg it hp g1:=hs1;have he1:cL g1 e it i old:=(hs1.2 e hne).trans he;show aj _ _ (field (.ref e) 3 >>= _) _ _ ⟨g1,g,d,tk,os⟩;refine ai (bE he1 rfl (x:=cw i) rfl ?_);show aj _ _ (field (.ref e) 4 >>= _) _ _ ⟨g1,g,d,tk,os⟩;refine ai (bE he1 rfl (x:= .none) rfl ?_);show aj _ _ (mkInt i >>= _) _ _ ⟨g1,g,d,tk,os⟩;refine ai (wpAny_mkInt ?_);show aj _ _ (setField (.ref e) 3 (cw ((i:Int)+1)) >>= _) _ _ ⟨g1,g,d,tk+1,os⟩;refine ai (cp he1 (by simp) λg2 he2 hs2=>?_);replace hs2:cg e g1 g2:=hs2;replace he2:cL g2 e it ((i:Int)+1) old:=he2;show aj _ _ (setField (.ref e) 4 .none >>= _) _ _ ⟨g2,g,d,tk+1,os⟩;refine ai (cp he2 (by simp) λg3 he3 hs3=>?_);replace hs3:cg e g2 g3:=hs3;replace he3:cL g3 e it ((i:Int)+1) old:=he3;show aj _ _ (newTuple [.int i tk,x] >>= _) _ _ ⟨g3,g,d,tk+1,os⟩;refine ai (j' ?_);have he4:cL (g3.push { cls:= .type "tuple",data:= .seq #[.int i tk,x] }) e it ((i:Int)+1) old:=aH _ he3;generalize hg4:g3.push { cls:= .type "tuple",data:= .seq #[.int i tk,x] }=g4 at he4;have hsz:g3.objs.size=hp.objs.size:=by rw[hs3.1,hs2.1,hs1.1]
 have hel:e<hp.objs.size:=aF he;have ht4:g4.get? hp.objs.size=ae { cls:= .type "tuple",data:= .seq #[.int i tk,x] }:=by rw[←hg4,←hsz];exact bh _ rfl
 have hz4:g4.objs.size=hp.objs.size+1:=by rw[←hg4,b9,hsz]
 have hk4:∀b o,b≠e→b≠it→hp.get? b=ae o→g4.get? b=ae o:=λb o hbe hbi hb=>by rw[←hg4];exact aH _ (hs3.extBut b o hbe (hs2.extBut b o hbe (hs1.extBut b o hbi hb)))
 have hit4:SeqIt k g4 it l (i+1):=by rw[←hg4];exact hit1.at λo ho=>aH _ (hs3.extBut it o (bj hne) (hs2.extBut it o (bj hne) ho))
 show aj _ _ (dS (.ref e) >>= _) _ _ ⟨g4,g,d,tk+1,os⟩;rw[hsz];clear hg4 he3 hs3 he2 hs2 he1 hs1 hit1 hsz g3 g2 g1;refine ai ?_;unfold dS;refine ai (bE he4 rfl (x:= .none) rfl (aD ?_));simp only[if_true];refine ai (dF ?_);refine ai (bE he4 rfl (x:=old) rfl ?_);refine ai (cp he4 (by simp) λg5 he5 hs5=>?_);replace hs5:cg e g4 g5:=hs5;replace he5:cL g5 e it ((i:Int)+1) x:=he5;show aj _ _ (fG (.ref e) (.ref hp.objs.size) >>= _) _ _ ⟨g5,g,d,tk+1,os⟩;refine ai ?_;unfold fG;refine ai (cp he5 (by simp) λg6 he6 hs6=>?_);replace hs6:cg e g5 g6:=hs6;replace he6:gj g6 e it ((i:Int)+1) x hp.objs.size:=he6;refine cp he6 (by simp) λg7 he7 hs7=>?_;replace hs7:cg e g6 g7:=hs7;replace he7:gj g7 e it ((i:Int)+1) x hp.objs.size:=he7;refine ai (f8 (aD ⟨_,rfl,aD (hQ g7 he7 ?_ ?_ ?_ ?_)⟩))
 ·exact hit4.at λo ho=>hs7.extBut it o (bj hne) (hs6.extBut it o (bj hne) (hs5.extBut it o (bj hne) ho))
 ·exact hs7.extBut _ _ (cE hel) (hs6.extBut _ _ (cE hel) (hs5.extBut _ _ (cE hel) ht4))
 ·rw[hs7.1,hs6.1,hs5.1,hz4]
 ·exact λb o hbe hbi hb=>hs7.extBut b o hbe (hs6.extBut b o hbe (hs5.extBut b o hbe (hk4 b o hbe hbi hb)))
theorem zri{k:Bool}{e it l:Addr}{i:Nat}{its:Array Value}{old:Value}{Q:Option Value→ag→Prop}(hh:A.handled=none)
  (he:cL s.heap e it i old) (hit:SeqIt k s.heap it l i) (hl:SeqIs k s.heap l its) (hx:its[i]? =none) (hQ:∀g,gM it s.heap g→Q none { s with heap:=g }):aj (ao prog w) A (b4 (.ref e)) Q E s:=by
 have hT:s.TypeIs (.ref e) "enumerate" :=⟨_,he,rfl⟩;unfold b4;refine ai (gc (c7 (name:=aS "__next__") hT fo (cX fo hT jc ?_ (iR _))));show aj _ _ (field (.ref e) 2 >>= _) _ _ _;refine ai (bE he rfl (x:= .ref it) rfl ?_);refine ai (zhJ hh hit hl hx λg x he' hx'=>?_);obtain⟨o,ho,hc⟩:=hx';refine ai (iW (T:= "StopIteration") (b:=true) ⟨o,ho,hc⟩ jK ?_);exact aD (hQ _ he')
end
noncomputable def zdR (k:Bool) (a:Addr):Obj:={ cls:= .type (if k=true then "list_iterator" else "tuple_iterator"),data:= .fields #[.ref a, .int 0 0] }
theorem zhS{k:Bool}{h:Heap}{it a:Addr}(e:h.get? it=ae (zdR k a)):SeqIt k h it a 0:=by
 cases k with
 |true=>exact⟨_,e,rfl,rfl⟩
 |false=>exact⟨_,e,rfl,rfl⟩
theorem zfc{k:Bool}{a:Addr}:(zdR k a).isFreed=false:=by cases k<;>rfl
section
variable {prog:aE}{w:az}{A:aP}{E:Value→ag→Prop}{s:ag}
theorem zhO{k:Bool}{a:Addr}{its:Array Value}{Q:Value→ag→Prop}(ha:SeqIs k s.heap a its) (hQ:Q (.ref s.heap.objs.size) { s with heap:=s.heap.push (zdR k a) }):aj (ao prog w) A (cZ (.ref a)) Q E s:=by
 cases k with
 |true=>exact dc ha hQ
 |false=>exact jD ha hQ
end
theorem SeqIs.push{k:Bool}{h:Heap}{a:Addr}{its:Array Value}(x:SeqIs k h a its) (o:Obj):SeqIs k (h.push o) a its:=x.at λ_ e=>aH _ e
theorem zno{k:Bool}(l:Addr) (its:Array Value) :
  PySem.Meets (bX.«enumerate.__new__» ⟨[.type "enumerate", .ref l],[]⟩) (λ_ R s=>SeqIs k s.heap l its∧
   R (.ok (.ret (.ref (s.heap.push (zdR k l)).objs.size))) { s with heap:=(s.heap.push (zdR k l)).push { cls:= .type "enumerate",data:= .fields #[.none, .bool false, .ref s.heap.objs.size,cw 0, .none, .none] } }):=
 .of_wp λprog w A R s h=>by
  obtain⟨hp,g,d,tk,os⟩:=s;obtain⟨hl,h⟩:=h;have hsub:=sub_enumerate;have hL:SeqIs k (ag.heap ⟨hp,g,d,tk,os⟩) l its:=hl;have fin:∀{A:aP}{E:Value→ag→Prop}{Q:Value→ag→Prop},Q (.ref hp.objs.size) ⟨hp.push (zdR k l),g,d,tk,os⟩→aj (ao prog w) A (cZ (.ref l)) Q E ⟨hp,g,d,tk,os⟩:=λq=>zhO hL q
  wp_walk
  refine wpAny_stack_any λst=>aD ?_;split
  ·rename_i c _ _ _ _ _;cases(c == gG "enumerate")
   ·wp_walk using fin
    exact⟨_,rfl,h⟩
   ·wp_walk using fin
    exact⟨_,rfl,h⟩
  ·wp_walk using fin
   exact⟨_,rfl,h⟩
section
variable {prog:aE}{w:az}{A:aP}{E:Value→ag→Prop}{s:ag}
theorem znW{k:Bool}{l:Addr}{its:Array Value}{Q:Value→ag→Prop}(hL:SeqIs k s.heap l its)
  (h:∀g,cL g (s.heap.objs.size+1) s.heap.objs.size 0 .none→SeqIt k g s.heap.objs.size l 0→g.objs.size=s.heap.objs.size+2→(∀b o,s.heap.get? b=ae o→g.get? b=ae o)→Q (.ref (s.heap.objs.size+1)) { s with heap:=g }) :
  aj (ao prog w) A (call (.type "enumerate") [.ref l]) Q E s:=by
 refine callType_new PySem.F.called_enumerate (by decide) (PySem.F.typeCall_enumerate_1 _) (PySem.F.newCall_enumerate_1 _) (λobj=>PySem.F.args_object_init_2 obj _) PySem.F.entry_enumerate_new (zno (k:=k) l its) ⟨hL,?_⟩;have hz:(s.heap.push (zdR k l)).objs.size=s.heap.objs.size+1:=b9 ..;show _∧_;rw[hz];have he:cL ((s.heap.push (zdR k l)).push { cls:= .type "enumerate",data:= .fields #[.none, .bool false, .ref s.heap.objs.size,cw 0, .none, .none] }) (s.heap.objs.size+1) s.heap.objs.size 0 .none:=by
  have:=bh (s.heap.push (zdR k l)) (o:={ cls:= .type "enumerate",data:= .fields #[.none, .bool false, .ref s.heap.objs.size,cw 0, .none, .none] }) rfl;rw[hz]at this;exact this
 exact⟨⟨_,he,rfl⟩,h _ he (zhS (aH _ (bh _ zfc))) (by rw[b9,hz]) λb o x=>aH _ (aH _ x)⟩
end
section
variable {X:Cx}{pins:List (Addr×Obj)}{σ:St}{H:Hp}{s:ag}{g:Heap}{fp:List Addr}
theorem Inv.turnNew{p:Addr}{o:HO}{t':Nat}(I:Inv X pins σ H s) (hp:s.heap.objs.size≤p) (k:∀b u,b∉fp→s.heap.get? b=ae u→g.get? b=ae u) (hf:∀b∈fp,zij X pins H b) (new:ObjOk X.prog X.w (upd H p o) g p o) :
  Inv X pins σ (upd H p o) { s with heap:=g,toks:=t' }:=by
 have hn:=I.hok.fresh hp;have lt:∀{b u},s.heap.get? b=ae u→b≠p:=λe=>bt (bK (aF e) hp);have nfp:∀{b u},H b=ae u→b∉fp:=λe z=>by rw[(hf _ z).1]at e;cases e
 refine I.call (g':=s.gens) (d':=s.drawn) (ch:=fp) ⟨λb u e _ _ hx=>k b u hx e,λb u e _ _ hx=>⟨u.slots,k b u hx e⟩,λb u e n _=>by rw[zax (lt e)];exact n,λb u e hx=>⟨u,k b u hx e⟩,
  λb xs e=>by rw[zax (zar e hn)];exact e,λb u xs e=>by rw[zax (zar e hn)];exact e,λb ps e=>⟨#[],by rw[zax (zar e hn),e];simp⟩⟩ (λb u e=>?_) I.bare λb hb=>⟨(hf b hb).2.2.2.1,(hf b hb).2.1,(hf b hb).2.2.2.2.1,(hf b hb).2.2.2.2.2⟩
 by_cases hb:b=p
 ·subst hb;rw[zaF]at e;cases e;exact new
 ·rw[zax hb]at e;refine(I.hok b u e).stay (λc v hc q=>k c v ?_ q) (λc q=>by rw[zax (zar q hn)];exact q) λc xs q=>by rw[zax (zar q hn)];exact q
  rcases hc with rfl |hc
  ·exact nfp e
  ·exact nfp hc
theorem Inv.turnedL{t':Nat}(I:Inv X pins σ H s) (k:∀b u,b∉fp→s.heap.get? b=ae u→g.get? b=ae u) (hf:∀b∈fp,zij X pins H b):Inv X pins σ H { s with heap:=g,toks:=t' }:=by
 have nfp:∀{b u},H b=ae u→b∉fp:=λe z=>by rw[(hf _ z).1]at e;cases e
 refine I.call (g':=s.gens) (d':=s.drawn) (ch:=fp) ⟨λb u e _ _ hx=>k b u hx e,λb u e _ _ hx=>⟨u.slots,k b u hx e⟩,λb u e n _=>n,λb u e hx=>⟨u,k b u hx e⟩,
  λb xs e=>e,λb u xs e=>e,λb ps e=>⟨#[],by rw[e];simp⟩⟩ (λb u e=>?_) I.bare λb hb=>⟨(hf b hb).2.2.2.1,(hf b hb).2.1,(hf b hb).2.2.2.2.1,(hf b hb).2.2.2.2.2⟩
 refine(I.hok b u e).stay (λc v hc q=>k c v ?_ q) (λc q=>q) λc xs q=>q;rcases hc with rfl |hc
 ·exact nfp e
 ·exact nfp hc
def SqK (k:Bool) (K:ah) (H:Hp) (a:Addr) (xs:List V):Prop:=if k=true then SqL K H a xs else SqT K H a xs
theorem Inv.seq{k:Bool}{a:Addr}{xs:List V}(I:Inv X pins σ H s) (h:SqK k X.K H a xs):∃its:List Value,Vals xs its∧SeqIs k s.heap a its.toArray∧xs.length≤sizeLine:=by
 cases k with
 |true=>obtain⟨its,r,p,z⟩:=I.list h;exact⟨its,r,p.isList,z⟩
 |false=>obtain⟨its,r,p,z⟩:=I.tuple h;exact⟨its,r,p,z⟩
theorem Inv.seq_inj{k:Bool}{a:Addr}{xs ys:List V}(I:Inv X pins σ H s) (h:SqK k X.K H a xs) (h':SqK k X.K H a ys):xs=ys:=by
 cases k with
 |true=>exact I.list_inj h h'
 |false=>exact I.tuple_inj h h'
end
noncomputable def Ite (k:Bool) (K:ah) (a:Addr):It:=
 ⟨λi H=>∃xs x,SqK k K H a xs∧xs[i]? =ae x,λi H v H'=>∃p x,H p=none∧v= .ref p∧H'=upd H p (.tup [.int i,x])∧ ∀xs,SqK k K H a xs→xs[i]? =ae x,λi H=>∃xs,SqK k K H a xs∧xs.length≤i⟩
theorem znX{P:aE}{w:az}{K:ah}{es:List Expr}{x1:Nat}{pos:aA}(k:Bool) (a e it:Addr) (hne:e≠it):Turn P w K (.Tuple es x1 pos) (Ite k K a) [e,it] e (λi h=>(∃old,cL h e it (i:Nat) old)∧SeqIt k h it a i) where
  mem:=by simp
  obj:=λi h ⟨⟨old,he⟩,hit⟩ b hb=>by
    rcases ax.mp hb with rfl |hb
    · exact⟨_,he,λv z=>by cases z⟩
    · have q:b=it:=by simpa using hb
      subst q;obtain⟨o,vs,e,d⟩:=hit.ob;exact⟨o,e,λv z=>by rw[d]at z;cases z⟩
  keep:=λi h h' ⟨⟨old,he⟩,hit⟩ kk=>⟨⟨old,kk e (by simp) _ he⟩,hit.at λo q=>kk it (by simp) o q⟩
  item:=by
    intro X hP hw hK hc i pins s σ H E I hf st hg;subst hP hw hK;obtain⟨xs,x,hq,hx⟩:=hg;obtain⟨⟨old,he⟩,hit⟩:=st;obtain⟨its,rv,p,hz⟩:=I.seq hq;obtain⟨u,hu,ru⟩:=rv.get hx;refine zqx he hit p (x:=u) (by simpa using hu) hne λg ho hit' ht hz' kk=>⟨_,rfl,?_⟩;refine wpAny_letOwnedTupleGo_enum ho λg2 he2 hs2=>?_;have hlt:s.heap.objs.size≠e:=cE (aF he);have kk2:∀b o,b∉ [e,it]→s.heap.get? b=ae o→g2.get? b=ae o:=λb o hb q=>by
      have h1:b≠e:=λz=>hb (by simp [z]);have h2:b≠it:=λz=>hb (by simp [z]);exact(hs2.2 b h1).trans (kk b o h1 h2 q)
    have hn:=I.hok.fresh (au s.heap.objs.size);have ht2:g2.get? s.heap.objs.size=ae { cls:= .type "tuple",data:= .seq #[.int i s.toks,u] }:=(hs2.2 _ hlt).trans ht;refine⟨.ref s.heap.objs.size,upd H s.heap.objs.size (.tup [.int i,x]),I.turnNew (fp:=[e,it]) (t':=s.toks+1) (au _) kk2 hf ⟨by show 2≤sizeLine;rw[dE];decide,[.int i s.toks,u], .cons ⟨_,rfl⟩ (.cons ru .nil),⟨_,ht2,rfl,_,rfl⟩⟩,rfl,
      ⟨_,x,hn,rfl,rfl,λys hy=>by rw[I.seq_inj hy hq];exact hx⟩,⟨⟨u,by simpa using he2⟩,hit'.at λo q=>(hs2.2 it (bj hne)).trans q⟩,λb hb=>?_⟩
    have hb':=(hf b hb).1;have:b≠s.heap.objs.size:=by
      rcases ax.mp hb with rfl |hb
      · exact bj hlt
      · have q:b=it:=by simpa using hb
        subst q;obtain⟨o,vs,e,d⟩:=hit.ob;exact bt (aF e)
    rw[zax this];exact hb'
  done:=by
    intro X hP hw hK hc i pins s σ H E I hf st hg;subst hP hw hK;obtain⟨xs,hq,hx⟩:=hg;obtain⟨⟨old,he⟩,hit⟩:=st;obtain⟨its,rv,p,hz⟩:=I.seq hq;have hl:=rv.length;exact zri (I.ok.hd hc) he hit p (by simp;omega) λg eb=>⟨rfl,I.turnedL (fp:=[e,it]) (t':=s.toks) (λb o hb q=>eb b o (λz=>hb (by simp [z])) q) hf⟩
  self:=λA i s Q E ⟨⟨old,he⟩,hit⟩ h=>j6 he h
section
variable {X:Cx}{es:List Expr}{x1:Nat}{tpos:aA}
noncomputable def zyy (K:ah) (ta:TA):TI:=λσ H R=>ta σ H λvs H1=>∃k a xs,vs=[.ref a]∧SqK k K H1 a xs∧R (Ite k K a) H1
theorem ztw{a:Expr}{ta:TA}{p pos:aA}(hg:Gl X "enumerate") (hm:X.mg "enumerate" =none) (ha:PA X [a] ta) (hs:am [a] X.env=[(false,aq a X.env)]:=by rfl):PI X (.Tuple es x1 tpos) (.Call (.Name "enumerate" p) [a] [] pos) (zyy X.K ta):=by
 intro pins s σ H R I h;refine Call_ (zhc I hg hm boot_enumerate (fB (thn (ha pos pins s σ H _ I h) λus s1 ⟨vs,H1,I1,r1,q1⟩=>?_) hs rfl));obtain⟨k,a,xs,e,hq,q⟩:=q1;subst e;cases r1 with
 |cons r rr=>
  cases rr;cases(show _=bz a from r);obtain⟨its,rv,pl,hz⟩:=I1.seq hq;refine znW pl λg he hit hz' kk=>j6 he ?_;have I2:Inv X pins σ H1 { s1 with heap:=g }:=I1.kept (t':=s1.toks) kk;refine⟨s1.heap.objs.size+1,[s1.heap.objs.size+1,s1.heap.objs.size],_,_,H1,rfl,I2,znX k a _ _ (Nat.succ_ne_self _),⟨⟨.none,he⟩,hit⟩,λb hb=>?_,q⟩;have hb':s1.heap.objs.size≤b:=by
   rcases ax.mp hb with rfl |hb
   ·exact Nat.le_succ _
   ·have q:b=s1.heap.objs.size:=by simpa using hb
    exact eP q.symm
  exact I1.fpOk hb' (I1.hok.fresh hb')
noncomputable def nums:Nat→List W→List W
 |_,[]=>[]
 |n,w::ws=> .tup [.int n,w]::nums (n+1) ws
theorem zlZ:∀{ws:List W}{n i:Nat}{u:W},(nums n ws)[i]? =ae u→ ∃w,ws[i]? =ae w∧u= .tup [.int ((n+i:Nat):Int),w]
 | [],_,_,_,h=>by simp [nums]at h
 |w::ws,n,0,u,h=>by
  simp [nums]at h;exact⟨w,rfl,by rw[←h];rfl⟩
 |w::ws,n,i+1,u,h=>by
  obtain⟨w',e,q⟩:=zlZ (ws:=ws) (n:=n+1) (i:=i) (u:=u) (by simpa [nums]using h);refine⟨w',by simpa using e,?_⟩
  rw[q,show n+1+i=n+(i+1) by omega]
theorem zld:∀{ws:List W}{n:Nat},(nums n ws).length=ws.length
 | [],_=>rfl
 |w::ws,n=>by simp [nums,zld (ws:=ws)]
theorem ztU{K:ah}{k:Bool}{a:Addr}{ws:List W}{G:Sto→Prop}{H0:Hp}{S0:Sto}(h:∀S H,Ext H0 S0 H S→RepS K H S→G S→ ∃vs,SqK k K H a vs∧Reps K H ws vs):ItW K (Ite k K a) (nums 0 ws) G H0 S0:=λi S H e hS hG=>by
 obtain⟨vs,hq,r⟩:=h S H e hS hG;refine⟨λu eu=>?_,λhl=>⟨vs,hq,by rw[←r.length,hl,zld];exact au _⟩⟩
 obtain⟨w,ew,rfl⟩:=zlZ eu;obtain⟨v,ev,rv⟩:=r.get ew;refine⟨⟨vs,v,hq,ev⟩,λx H' ⟨p,y,hp,e1,e2,e3⟩=>?_⟩;subst e1 e2;have e4:=e3 vs hq;rw[ev]at e4;cases e4;rw[ca];exact⟨.new hp,hS.new hp, .tup zaF (.cons (.int _) (.cons (rv.ext (.new (S:=S) hp)) .nil))⟩
noncomputable def znb:W→Sto→(List W→(Sto→Prop)→Prop)→Prop
 | .tup ws,_,Q=>Q ws λ_=>True
 | .ref a,S,Q=>zce S a λws=>Q ws λS'=>S' a=ae (.lst ws)
 | .scr ns,_,Q=>Q (ns.map W.int) λ_=>True
 |_,_,_=>False
theorem zuY{K:ah}{H:Hp}{S:Sto}{w:W}{v:V}{Q:List W→(Sto→Prop)→Prop}(r:Rep K H w v) (hS:RepS K H S) (h:znb w S Q) :
  ∃k a ws G,v= .ref a∧G S∧(∀S' H',Ext H S H' S'→RepS K H' S'→G S'→ ∃vs,SqK k K H' a vs∧Reps K H' ws vs)∧Q ws G:=by
 cases r with
 |tup f hs=>exact⟨false,_,_,_,rfl,trivial,λS' H' e hS' _=>⟨_, .of (e.tup _ _ f),hs.ext e⟩,h⟩
 |ref a=>
  obtain⟨ws,ea,h⟩:=zaY h;exact⟨true,_,ws,_,rfl,ea,λS' H' e hS' g=>by
   obtain⟨vs,f,hs⟩:=hS' a _ g;exact⟨vs, .of f,hs⟩,h⟩
 |scr f=>exact⟨true,_,_,_,rfl,trivial,λS' H' e hS' _=>⟨_,(e.fz f).sq,Reps.ofInts _⟩,h⟩
 |_=>exact h.elim
noncomputable def zkl (t:WE):WI:=λE σ S Q=>t E σ S λw S1=>znb w S1 λws G=>Q (nums 0 ws) G S1
theorem zfO{a:Expr}{ta:WE}{p pos:aA}(hg:Gl X "enumerate") (hm:X.mg "enumerate" =none) (ha:JE X a ta) (hs:am [a] X.env=[(false,aq a X.env)]:=by rfl) (hs2:am [a] X.env=(false,aq a X.env)::am [] X.env:=by rfl):JI X (.Tuple es x1 tpos) (.Call (.Name "enumerate" p) [a] [] pos) (zkl ta):=λE hE=>
 (ztw hg hm (zdt (ha E hE) pa_nil hs2) hs).mono λσ H R ⟨σW,S,QW,hσ,hS,ht,hR⟩=>⟨σW,S,_,hσ,hS,ht,λw S1 v H1 e1 r1 hS1 h1=>by
  obtain⟨k,a,ws,G,rfl,hG,hq,h⟩:=zuY r1 hS1 h1;obtain⟨vs,hv,_⟩:=hq S1 H1 .refl hS1 hG;exact⟨k,a,vs,rfl,hv,hR _ _ S1 _ H1 e1 hS1 hG (ztU hq) h⟩⟩
end
section
variable {prog:aE}{w:az}{A:aP}{E:Value→ag→Prop}{s:ag}
theorem zqK{k1 k2:Bool}{z TI TO i1 i2 l1 l2:Addr}{n1 n2:Nat}{xs ys:Array Value}{x y a b:Value}{Q:Option Value→ag→Prop}(D:gh z TI TO i1 i2 l1 l2)
  (hz:b5 s.heap z TI TO .none) (hTI:bM s.heap TI (.ref i1) (.ref i2)) (hTO:bM s.heap TO a b) (h1:SeqIt k1 s.heap i1 l1 n1) (h2:SeqIt k2 s.heap i2 l2 n2) (hl1:SeqIs k1 s.heap l1 xs) (hl2:SeqIs k2 s.heap l2 ys) (hx:xs[n1]? =ae x) (hy:ys[n2]? =ae y)
  (hQ:∀g,b5 g z TI TO (cw s.heap.objs.size)→bM g TO x y→SeqIt k1 g i1 l1 (n1+1)→SeqIt k2 g i2 l2 (n2+1)→bM g s.heap.objs.size x y→g.objs.size=s.heap.objs.size+1→
   (∀c o,c≠z→c≠TO→c≠i1→c≠i2→s.heap.get? c=ae o→g.get? c=ae o)→Q (ae (.ref s.heap.objs.size)) { s with heap:=g }):aj (ao prog w) A (b4 (.ref z)) Q E s:=by
 have hT:s.TypeIs (.ref z) "zip" :=⟨_,hz,rfl⟩;unfold b4;refine ai (gc (c7 (name:=aS "__next__") hT fM (cX fM hT jx ?_ (jA _))));show aj _ _ (field (.ref z) 2 >>= _) _ _ _;refine ai (bE hz rfl (x:= .bool false) rfl ?_);show aj _ _ (field (.ref z) 3 >>= _) _ _ _;refine ai (bE hz rfl (x:= .ref TI) rfl ?_);refine ai (cN hTI rfl ?_);show aj _ _ (dS (.ref z) >>= _) _ _ _;refine ai ?_;unfold dS;refine ai (bE hz rfl (x:= .none) rfl (aD ?_));simp only[if_true];refine ai (dF ?_);refine ai (bE hz rfl (x:= .ref TO) rfl ?_);refine ai (cp hz (by simp) λg1 hz1 hs1=>?_);replace hz1:b5 g1 z TI TO .ellipsis:=hz1;refine ai ?_;simp only[i0,iJ,io,jn];refine ai (ai (fJ ?_));show aj _ _ (cK (.ref i1) >>= _) _ _ _;refine ai (zeF (h1.at λo e=>hs1.extBut _ o D.i1z e) (hl1.at λo e=>hs1.extBut _ o D.l1z e) hx λg2 h12 hs2=>aD ?_);have hTO2:bM g2 TO a b:=hs2.extBut _ _ D.TOi1 (hs1.extBut _ _ D.TOz hTO);refine ai (cN hTO2 rfl ?_);refine ai (gS hTO2 λg3 hTO3 hs3=>?_);replace hTO3:bM g3 TO x b:=hTO3;refine ai (f8 (aD ?_));refine ai (ai (fJ ?_));show aj _ _ (cK (.ref i2) >>= _) _ _ _;refine ai (zeF (h2.at λo e=>hs3.extBut _ o D.TOi2.symm (hs2.extBut _ o D.i12.symm (hs1.extBut _ o D.i2z e))) (hl2.at λo e=>hs3.extBut _ o D.l2TO (hs2.extBut _ o D.l2i1 (hs1.extBut _ o D.l2z e))) hy λg4 h24 hs4=>aD ?_);have hTO4:bM g4 TO x b:=hs4.extBut _ _ D.TOi2 hTO3;refine ai (cN hTO4 rfl ?_);refine ai (gS hTO4 λg5 hTO5 hs5=>?_);replace hTO5:bM g5 TO x y:=hTO5;refine ai (f8 (aD (aD ?_)));refine ai (cN hTO5 rfl ?_);refine ai (j' ?_);have hsz:g5.objs.size=s.heap.objs.size:=by rw[hs5.1,hs4.1,hs3.1,hs2.1,hs1.1]
 have hz5:b5 g5 z TI TO .ellipsis:=hs5.extBut _ _ D.TOz.symm (hs4.extBut _ _ D.i2z.symm (hs3.extBut _ _ D.TOz.symm (hs2.extBut _ _ D.i1z.symm hz1)));have hk5:∀c o,c≠z→c≠TO→c≠i1→c≠i2→s.heap.get? c=ae o→g5.get? c=ae o:=λc o c1 c2 c3 c4 e=>hs5.extBut _ _ c2 (hs4.extBut _ _ c4 (hs3.extBut _ _ c2 (hs2.extBut _ _ c3 (hs1.extBut _ _ c1 e))));have h15:SeqIt k1 g5 i1 l1 (n1+1):=h12.at λo e=>hs5.extBut _ o D.TOi1.symm (hs4.extBut _ o D.i12 (hs3.extBut _ o D.TOi1.symm e));have h25:SeqIt k2 g5 i2 l2 (n2+1):=h24.at λo e=>hs5.extBut _ o D.TOi2.symm e;have hzlt:z<g5.objs.size:=aF hz5;show aj _ _ (fG (.ref z) (.ref g5.objs.size) >>= _) _ _ _;refine ai ?_;unfold fG;have hz6:b5 (g5.push { cls:= .type "tuple",data:= .seq #[x,y] }) z TI TO .ellipsis:=aH _ hz5;refine ai (cp hz6 (by simp) λg7 hz7 hs7=>?_);replace hz7:b5 g7 z TI TO (cw g5.objs.size):=hz7;refine cp hz7 (by simp) λg8 hz8 hs8=>?_;replace hz8:b5 g8 z TI TO (cw g5.objs.size):=hz8;have up:∀c o,c≠z→g5.get? c=ae o→g8.get? c=ae o:=λc o c1 e=>hs8.extBut _ _ c1 (hs7.extBut _ _ c1 (aH _ e));have hT8:bM g8 g5.objs.size x y:=hs8.extBut _ _ (cE hzlt) (hs7.extBut _ _ (cE hzlt) (bh _ rfl));have hzz:g8.objs.size=g5.objs.size+1:=by rw[hs8.1,hs7.1,b9]
 rw[hsz]at hz8 hT8 hzz;refine aD ⟨_,rfl,aD ?_⟩;show Q (ae (.ref g5.objs.size)) _;rw[hsz];exact hQ g8 hz8 (up _ _ D.TOz hTO5) (h15.at λo e=>up _ o D.i1z e) (h25.at λo e=>up _ o D.i2z e) hT8 hzz λc o c1 c2 c3 c4 e=>up c o c1 (hk5 c o c1 c2 c3 c4 e)
theorem zuE{k1 k2:Bool}{z TI TO i1 i2 l1 l2:Addr}{n1 n2:Nat}{xs ys:Array Value}{a b:Value}{Q:Option Value→ag→Prop}(hh:A.handled=none) (D:gh z TI TO i1 i2 l1 l2)
  (hz:b5 s.heap z TI TO .none) (hTI:bM s.heap TI (.ref i1) (.ref i2)) (hTO:bM s.heap TO a b) (h1:SeqIt k1 s.heap i1 l1 n1) (h2:SeqIt k2 s.heap i2 l2 n2) (hl1:SeqIs k1 s.heap l1 xs) (hl2:SeqIs k2 s.heap l2 ys) (hend:xs[n1]? =none∨ys[n2]? =none)
  (hQ:∀g,(∀c o,c≠z→c≠TO→c≠i1→c≠i2→s.heap.get? c=ae o→g.get? c=ae o)→Q none { s with heap:=g }):aj (ao prog w) A (b4 (.ref z)) Q E s:=by
 have hT:s.TypeIs (.ref z) "zip" :=⟨_,hz,rfl⟩;have fin:∀(g:Heap) (e:Addr),(∀c o,c≠z→c≠TO→c≠i1→c≠i2→s.heap.get? c=ae o→g.get? c=ae o)→(∃o,g.get? e=ae o∧o.cls= .type "StopIteration")→
   aj (ao prog w) A (do if(←isInstance (.ref e) (.type "StopIteration")) then pure none else throw (.ref e)) Q E { s with heap:=g }:=λg e hk ⟨o,ho,hc⟩=>
  ai (iW (T:= "StopIteration") (b:=true) ⟨o,ho,hc⟩ jK (aD (hQ _ hk)))
 unfold b4;refine ai (gc (c7 (name:=aS "__next__") hT fM (cX fM hT jx ?_ (jA _))));show aj _ _ (field (.ref z) 2 >>= _) _ _ _;refine ai (bE hz rfl (x:= .bool false) rfl ?_);show aj _ _ (field (.ref z) 3 >>= _) _ _ _;refine ai (bE hz rfl (x:= .ref TI) rfl ?_);refine ai (cN hTI rfl ?_);show aj _ _ (dS (.ref z) >>= _) _ _ _;refine ai ?_;unfold dS;refine ai (bE hz rfl (x:= .none) rfl (aD ?_));simp only[if_true];refine ai (dF ?_);refine ai (bE hz rfl (x:= .ref TO) rfl ?_);refine ai (cp hz (by simp) λg1 hz1 hs1=>?_);replace hz1:b5 g1 z TI TO .ellipsis:=hz1;refine ai ?_;simp only[i0,iJ,io,jn];refine ai (ai (fJ ?_));show aj _ _ (cK (.ref i1) >>= _) _ _ _;cases hx:xs[n1]? with
 |none=>
  refine ai (zhJ hh (h1.at λo e=>hs1.extBut _ o D.i1z e) (hl1.at λo e=>hs1.extBut _ o D.l1z e) hx λg2 e hs2 he=>?_);obtain⟨oe,hoe,hce⟩:=he;have hz2:b5 g2 z TI TO .ellipsis:=hs2 _ _ D.i1z.symm hz1;have hez:e≠z:=λx=>by subst x;rw[hz2]at hoe;cases hoe;simp at hce
  refine cp hz2 (by simp) λg3 _ hs3=>fin g3 e (λc o c1 _ c3 _ x=>hs3.extBut _ _ c1 (hs2 _ _ c3 (hs1.extBut _ _ c1 x))) ⟨oe,hs3.extBut _ _ hez hoe,hce⟩
 |some x=>
  have hy:ys[n2]? =none:=by rcases hend with h |h;rw[hx]at h;cases h;exact h
  refine ai (zeF (h1.at λo e=>hs1.extBut _ o D.i1z e) (hl1.at λo e=>hs1.extBut _ o D.l1z e) hx λg2 h12 hs2=>aD ?_);have hTO2:bM g2 TO a b:=hs2.extBut _ _ D.TOi1 (hs1.extBut _ _ D.TOz hTO);refine ai (cN hTO2 rfl ?_);refine ai (gS hTO2 λg3 hTO3 hs3=>?_);refine ai (f8 (aD ?_));refine ai (ai (fJ ?_));show aj _ _ (cK (.ref i2) >>= _) _ _ _;refine ai (zhJ hh (h2.at λo e=>hs3.extBut _ o D.TOi2.symm (hs2.extBut _ o D.i12.symm (hs1.extBut _ o D.i2z e))) (hl2.at λo e=>hs3.extBut _ o D.l2TO (hs2.extBut _ o D.l2i1 (hs1.extBut _ o D.l2z e))) hy λg4 e hs4 he=>?_);obtain⟨oe,hoe,hce⟩:=he;have hz4:b5 g4 z TI TO .ellipsis:=hs4 _ _ D.i2z.symm (hs3.extBut _ _ D.TOz.symm (hs2.extBut _ _ D.i1z.symm hz1));have hez:e≠z:=λx=>by subst x;rw[hz4]at hoe;cases hoe;simp at hce
  refine cp hz4 (by simp) λg5 _ hs5=>fin g5 e (λc o c1 c2 c3 c4 x=>hs5.extBut _ _ c1 (hs4 _ _ c4 (hs3.extBut _ _ c2 (hs2.extBut _ _ c3 (hs1.extBut _ _ c1 x))))) ⟨oe,hs5.extBut _ _ hez hoe,hce⟩
end
noncomputable abbrev zH1 (k1:Bool) (h:Heap) (l1:Addr):Heap:=h.push (zdR k1 l1)
noncomputable abbrev zH2 (k1 k2:Bool) (h:Heap) (l1 l2:Addr):Heap:=(zH1 k1 h l1).push (zdR k2 l2)
noncomputable abbrev zH3 (k1 k2:Bool) (h:Heap) (l1 l2:Addr):Heap:=(zH2 k1 k2 h l1 l2).push { cls:= .type "tuple",data:= .seq #[.ref h.objs.size, .ref (zH1 k1 h l1).objs.size] }
noncomputable abbrev zH4 (k1 k2:Bool) (h:Heap) (l1 l2:Addr):Heap:=(zH3 k1 k2 h l1 l2).push { cls:= .type "tuple",data:= .seq #[.none, .none] }
noncomputable abbrev zH5 (k1 k2:Bool) (h:Heap) (l1 l2:Addr):Heap:=(zH4 k1 k2 h l1 l2).push { cls:= .type "zip",data:= .fields #[.none, .bool false, .bool false, .ref (zH2 k1 k2 h l1 l2).objs.size, .ref (zH3 k1 k2 h l1 l2).objs.size] }
theorem zne{k1 k2:Bool}(l1 l2:Addr) (xs ys:Array Value) :
  PySem.Meets (bX.«zip.__new__» ⟨[.type "zip", .ref l1, .ref l2],[]⟩) (λ_ R s=>SeqIs k1 s.heap l1 xs∧SeqIs k2 s.heap l2 ys∧R (.ok (.ret (.ref (zH4 k1 k2 s.heap l1 l2).objs.size))) { s with heap:=zH5 k1 k2 s.heap l1 l2 }):=
 .of_wp λprog w A R s h=>by
  obtain⟨hp,g,d,tk,os⟩:=s;obtain⟨hl1,hl2,h⟩:=h;have hsub:=sub_zip;have f1:∀{A:aP}{E:Value→ag→Prop}{Q:Value→ag→Prop},Q (.ref hp.objs.size) ⟨hp.push (zdR k1 l1),g,d,tk,os⟩→aj (ao prog w) A (cZ (.ref l1)) Q E ⟨hp,g,d,tk,os⟩:=λq=>zhO (s:=⟨hp,g,d,tk,os⟩) hl1 q;have f2:∀{A:aP}{E:Value→ag→Prop}{Q:Value→ag→Prop},Q (.ref (hp.push (zdR k1 l1)).objs.size) ⟨(hp.push (zdR k1 l1)).push (zdR k2 l2),g,d,tk,os⟩→aj (ao prog w) A (cZ (.ref l2)) Q E ⟨hp.push (zdR k1 l1),g,d,tk,os⟩:=λq=>zhO (s:=⟨hp.push (zdR k1 l1),g,d,tk,os⟩) (hl2.push _) q
  wp_walk using f1,f2
  exact⟨_,rfl,h⟩
section
variable {prog:aE}{w:az}{A:aP}{E:Value→ag→Prop}{s:ag}
theorem zsp{k1 k2:Bool}{l1 l2:Addr}{xs ys:Array Value}{Q:Value→ag→Prop}(hl1:SeqIs k1 s.heap l1 xs) (hl2:SeqIs k2 s.heap l2 ys)
  (h:∀g,b5 g (s.heap.objs.size+4) (s.heap.objs.size+2) (s.heap.objs.size+3) .none→bM g (s.heap.objs.size+2) (.ref s.heap.objs.size) (.ref (s.heap.objs.size+1))→
   bM g (s.heap.objs.size+3) .none .none→SeqIt k1 g s.heap.objs.size l1 0→SeqIt k2 g (s.heap.objs.size+1) l2 0→g.objs.size=s.heap.objs.size+5→
   (∀c o,s.heap.get? c=ae o→g.get? c=ae o)→Q (.ref (s.heap.objs.size+4)) { s with heap:=g }):aj (ao prog w) A (call (.type "zip") [.ref l1, .ref l2]) Q E s:=by
 refine callType_new PySem.F.called_zip (by decide) (PySem.F.typeCall_zip_2 _ _) (PySem.F.newCall_zip_2 _ _) (λobj=>PySem.F.args_object_init_3 obj _ _) PySem.F.entry_zip_new (zne (k1:=k1) (k2:=k2) l1 l2 xs ys) ⟨hl1,hl2,?_⟩;have z1:(zH1 k1 s.heap l1).objs.size=s.heap.objs.size+1:=b9 ..;have z2:(zH2 k1 k2 s.heap l1 l2).objs.size=s.heap.objs.size+2:=by rw[b9,z1]
 have z3:(zH3 k1 k2 s.heap l1 l2).objs.size=s.heap.objs.size+3:=by rw[b9,z2]
 have z4:(zH4 k1 k2 s.heap l1 l2).objs.size=s.heap.objs.size+4:=by rw[b9,z3]
 have z5:(zH5 k1 k2 s.heap l1 l2).objs.size=s.heap.objs.size+5:=by rw[b9,z4]
 have g5:(zH5 k1 k2 s.heap l1 l2).get? (zH4 k1 k2 s.heap l1 l2).objs.size=ae _:=bh _ rfl;have g4:(zH5 k1 k2 s.heap l1 l2).get? (zH3 k1 k2 s.heap l1 l2).objs.size=ae _:=aH _ (bh _ rfl);have g3:(zH5 k1 k2 s.heap l1 l2).get? (zH2 k1 k2 s.heap l1 l2).objs.size=ae _:=aH _ (aH _ (bh _ rfl));have g2:(zH5 k1 k2 s.heap l1 l2).get? (zH1 k1 s.heap l1).objs.size=ae _:=aH _ (aH _ (aH _ (bh _ zfc)));have g1:(zH5 k1 k2 s.heap l1 l2).get? s.heap.objs.size=ae _:=aH _ (aH _ (aH _ (aH _ (bh _ zfc))));show _∧_;rw[z2,z3,z4]at g5;rw[z1,z2]at g3;rw[z3]at g4;rw[z1]at g2;rw[z4];exact⟨⟨_,g5,rfl⟩,h _ g5 g3 g4 (zhS g1) (zhS g2) z5 λc o x=>aH _ (aH _ (aH _ (aH _ (aH _ x))))⟩
end
def SqZ (k:Bool) (K:ah) (H:Hp) (a:Addr) (xs:List V):Prop:=if k=true then SqL K H a xs else H a=ae (.tup xs)
theorem SqZ.sq{k:Bool}{K:ah}{H:Hp}{a:Addr}{xs:List V}(h:SqZ k K H a xs):SqK k K H a xs:=by
 cases k with
 |true=>exact h
 |false=>exact .of h
theorem SeqIs.ob{k:Bool}{h:Heap}{a:Addr}{its:Array Value}(x:SeqIs k h a its):∃o n,h.get? a=ae o∧o.data= .seq its n∧(k=true→o.cls= .type "list"):=by
 cases k with
 |true=>obtain⟨o,ho,hc,n,hd⟩:=(show h.IsList a its from x);exact⟨o,n,ho,hd,λ_=>hc⟩
 |false=>obtain⟨o,ho,hc,n,hd⟩:=(show h.IsTuple a its from x);exact⟨o,n,ho,hd,λz=>by cases z⟩
theorem SeqIs.ne_fields{k:Bool}{h:Heap}{a b:Addr}{its:Array Value}{o:Obj}{vs:Array Value}(x:SeqIs k h a its) (e:h.get? b=ae o) (d:o.data= .fields vs):a≠b:=λz=>by
 subst z;obtain⟨o',n,ho,hd,_⟩:=x.ob;rw[ho]at e;cases e;rw[hd]at d;cases d
noncomputable def Itz (k1 k2:Bool) (K:ah) (a b:Addr):It:=
  ⟨λi H=>∃xs ys x y,SqZ k1 K H a xs∧SqZ k2 K H b ys∧xs[i]? =ae x∧ys[i]? =ae y,
   λi H v H'=>∃p x y,H p=none∧v= .ref p∧H'=upd H p (.tup [x,y])∧(∀xs,SqZ k1 K H a xs→xs[i]? =ae x)∧ ∀ys,SqZ k2 K H b ys→ys[i]? =ae y,
   λi H=>∃xs ys,SqZ k1 K H a xs∧SqZ k2 K H b ys∧(xs.length≤i∨ys.length≤i)⟩
structure ZipFar (z TI TO i1 i2:Addr):Prop where
  TIz:TI≠z
  TOz:TO≠z
  i1z:i1≠z
  i2z:i2≠z
  TITO:TI≠TO
  TIi1:TI≠i1
  TIi2:TI≠i2
  TOi1:TO≠i1
  TOi2:TO≠i2
  i12:i1≠i2
def zwY (k1 k2:Bool) (z TI TO i1 i2 a b:Addr) (i:Nat) (h:Heap):Prop:=b5 h z TI TO .none∧bM h TI (.ref i1) (.ref i2)∧(∃u v,bM h TO u v)∧SeqIt k1 h i1 a i∧SeqIt k2 h i2 b i
section
variable {X:Cx}{pins:List (Addr×Obj)}{σ:St}{H:Hp}{s:ag}
theorem zir{k1 k2:Bool}{z TI TO i1 i2 a b:Addr}{i:Nat}{xs ys:List V}(I:Inv X pins σ H s) (hTO:H TO=none) (D:ZipFar z TI TO i1 i2) (st:zwY k1 k2 z TI TO i1 i2 a b i s.heap) (ha:SqZ k1 X.K H a xs) (hb:SqZ k2 X.K H b ys):gh z TI TO i1 i2 a b:=by
 obtain⟨hz,hTI,⟨u,v,hTOo⟩,h1,h2⟩:=st;obtain⟨o1,v1,e1,d1⟩:=h1.ob;obtain⟨o2,v2,e2,d2⟩:=h2.ob;obtain⟨its,_,pa,_⟩:=I.seq ha.sq;obtain⟨its2,_,pb,_⟩:=I.seq hb.sq;have nTO:∀{k:Bool}{c:Addr}{zs:List V}{its:Array Value},SqZ k X.K H c zs→SeqIs k s.heap c its→c≠TO:=λ{k c zs its} hc pc e=>by
  subst e;cases k with
  |false=>rw[show H c=ae (.tup zs) from hc]at hTO;cases hTO
  |true=>
   obtain⟨o,n,ho,_,hcl⟩:=pc.ob;rw[hTOo]at ho;cases ho;have:=hcl rfl;simp at this
 exact⟨D.TIz,D.TOz,D.i1z,D.i2z,D.TITO,D.TIi1,D.TIi2,D.TOi1,D.TOi2,D.i12,pa.ne_fields hz rfl,nTO ha pa,pa.ne_fields e1 d1,pa.ne_fields e2 d2,pb.ne_fields hz rfl,nTO hb pb,pb.ne_fields e1 d1,pb.ne_fields e2 d2⟩
end
theorem zrl{P:aE}{w:az}{K:ah}{es:List Expr}{x1:Nat}{pos:aA}(k1 k2:Bool) (a b z TI TO i1 i2:Addr) (D:ZipFar z TI TO i1 i2):Turn P w K (.Tuple es x1 pos) (Itz k1 k2 K a b) [z,TI,TO,i1,i2] z (zwY k1 k2 z TI TO i1 i2 a b) where
  mem:=by simp
  obj:=λi h ⟨hz,hTI,⟨u,v,hTO⟩,h1,h2⟩ c hc=>by
    obtain⟨o1,v1,e1,d1⟩:=h1.ob;obtain⟨o2,v2,e2,d2⟩:=h2.ob;simp only[ax,a_,or_false]at hc;rcases hc with rfl |rfl |rfl |rfl |rfl
    · exact⟨_,hz,λv z=>by cases z⟩
    · exact⟨_,hTI,λv z=>by cases z⟩
    · exact⟨_,hTO,λv z=>by cases z⟩
    · exact⟨_,e1,λv z=>by rw[d1]at z;cases z⟩
    · exact⟨_,e2,λv z=>by rw[d2]at z;cases z⟩
  keep:=λi h h' ⟨hz,hTI,⟨u,v,hTO⟩,h1,h2⟩ kk=>⟨kk z (by simp) _ hz,kk TI (by simp) _ hTI,⟨u,v,kk TO (by simp) _ hTO⟩,h1.at λo q=>kk i1 (by simp) o q,h2.at λo q=>kk i2 (by simp) o q⟩
  item:=by
    intro X hP hw hK hc i pins s σ H E I hf st hg;subst hP hw hK;obtain⟨xs,ys,x,y,ha,hb,hx,hy⟩:=hg;have Z:=zir I (hf TO (by simp)).1 D st ha hb;obtain⟨hz,hTI,⟨c0,d0,hTO⟩,h1,h2⟩:=st;obtain⟨its,rv,pa,_⟩:=I.seq ha.sq;obtain⟨its2,rv2,pb,_⟩:=I.seq hb.sq;obtain⟨u,hu,ru⟩:=rv.get hx;obtain⟨u2,hu2,ru2⟩:=rv2.get hy;refine zqK Z hz hTI hTO h1 h2 pa pb (x:=u) (y:=u2) (by simpa using hu) (by simpa using hu2) λg hz1 hTO1 h11 h21 hp hz' kk=>⟨_,rfl,?_⟩;refine wpAny_letOwnedTupleGo_zip hz1 λg2 hz2 hs2=>?_;have hs2':∀c o,c≠z→g.get? c=ae o→g2.get? c=ae o:=λc o hc e=>(hs2.2 c hc).trans e;have kk2:∀c o,c∉ [z,TI,TO,i1,i2]→s.heap.get? c=ae o→g2.get? c=ae o:=λc o hc q=>by
      simp only[ax,a_,or_false,not_or]at hc;exact hs2' c o hc.1 (kk c o hc.1 hc.2.2.1 hc.2.2.2.1 hc.2.2.2.2 q)
    have hn:=I.hok.fresh (au s.heap.objs.size);have hpz:s.heap.objs.size≠z:=cE (aF hz);have ht2:g2.get? s.heap.objs.size=ae { cls:= .type "tuple",data:= .seq #[u,u2] }:=hs2' _ _ hpz hp;refine⟨.ref s.heap.objs.size,upd H s.heap.objs.size (.tup [x,y]),I.turnNew (fp:=[z,TI,TO,i1,i2]) (t':=s.toks) (au _) kk2 hf ⟨by show 2≤sizeLine;rw[dE];decide,[u,u2], .cons ru (.cons ru2 .nil),⟨_,ht2,rfl,_,rfl⟩⟩,rfl,
      ⟨_,x,y,hn,rfl,rfl,λzs hy=>by rw[I.seq_inj hy.sq ha.sq];exact hx,λzs hy'=>by rw[I.seq_inj hy'.sq hb.sq];exact hy⟩,
      ⟨hz2,hs2' _ _ D.TIz (kk _ _ D.TIz D.TITO D.TIi1 D.TIi2 hTI),⟨u,u2,hs2' _ _ D.TOz hTO1⟩,h11.at λo q=>hs2' _ o D.i1z q,h21.at λo q=>hs2' _ o D.i2z q⟩,λc hc=>?_⟩
    have hlt:∃o,s.heap.get? c=ae o:=by
      obtain⟨o1,v1,e1,d1⟩:=h1.ob;obtain⟨o2,v2,e2,d2⟩:=h2.ob;simp only[ax,a_,or_false]at hc;rcases hc with rfl |rfl |rfl |rfl |rfl
      · exact⟨_,hz⟩
      · exact⟨_,hTI⟩
      · exact⟨_,hTO⟩
      · exact⟨_,e1⟩
      · exact⟨_,e2⟩
    obtain⟨o,ho⟩:=hlt;rw[zax (bt (aF ho))];exact(hf c hc).1
  done:=by
    intro X hP hw hK hc i pins s σ H E I hf st hg;subst hP hw hK;obtain⟨xs,ys,ha,hb,hx⟩:=hg;have Z:=zir I (hf TO (by simp)).1 D st ha hb;obtain⟨hz,hTI,⟨c0,d0,hTO⟩,h1,h2⟩:=st;obtain⟨its,rv,pa,_⟩:=I.seq ha.sq;obtain⟨its2,rv2,pb,_⟩:=I.seq hb.sq;have hl:=rv.length;have hl2:=rv2.length;refine zuE (I.ok.hd hc) Z hz hTI hTO h1 h2 pa pb ?_ λg eb=>⟨rfl,I.turnedL (fp:=[z,TI,TO,i1,i2]) (t':=s.toks) (λc o hc q=>?_) hf⟩
    · rcases hx with hx |hx
      · exact .inl (by simp;omega)
      · exact .inr (by simp;omega)
    · simp only[ax,a_,or_false,not_or]at hc;exact eb c o hc.1 hc.2.2.1 hc.2.2.2.1 hc.2.2.2.2 q
  self:=λA i s Q E st h=>jC st.1 h
section
variable {X:Cx}{es:List Expr}{x1:Nat}{tpos:aA}
noncomputable def zAy (K:ah) (ta:TA):TI:=λσ H R=>ta σ H λvs H1=>∃k1 k2 a b xs ys,vs=[.ref a, .ref b]∧SqZ k1 K H1 a xs∧SqZ k2 K H1 b ys∧R (Itz k1 k2 K a b) H1
theorem zwH{a b:Expr}{ta:TA}{p pos:aA}(hg:Gl X "zip") (hm:X.mg "zip" =none) (ha:PA X [a,b] ta) (hs:am [a,b] X.env=[(false,aq a X.env),(false,aq b X.env)]:=by rfl) (hs2:am [b] X.env=[(false,aq b X.env)]:=by rfl):PI X (.Tuple es x1 tpos) (.Call (.Name "zip" p) [a,b] [] pos) (zAy X.K ta):=by
 intro pins s σ H R I h;refine Call_ (zhc I hg hm boot_zip (fB (thn (ha pos pins s σ H _ I h) λus s1 ⟨vs,H1,I1,r1,q1⟩=>?_) (by rw[hs,hs2]) (by rw[hs2];rfl)));obtain⟨k1,k2,a,b,xs,ys,e,hq1,hq2,q⟩:=q1;subst e;cases r1 with
 |cons r rr=>
  cases rr with
  |cons r' rr=>
   cases rr;cases(show _=bz a from r);cases(show _=bz b from r');obtain⟨its,rv,pl,_⟩:=I1.seq hq1.sq;obtain⟨its2,rv2,pl2,_⟩:=I1.seq hq2.sq;refine zsp pl pl2 λg hz hTI hTO h1 h2 hz' kk=>jC hz ?_;have I2:Inv X pins σ H1 { s1 with heap:=g }:=I1.kept (t':=s1.toks) kk;have ne:∀(n i j:Nat),i≠j→n+i≠n+j:=λn i j h e=>h (Nat.add_left_cancel e);have D:ZipFar (s1.heap.objs.size+4) (s1.heap.objs.size+2) (s1.heap.objs.size+3) s1.heap.objs.size (s1.heap.objs.size+1):=
    ⟨ne _ 2 4 (by decide),ne _ 3 4 (by decide),ne _ 0 4 (by decide),ne _ 1 4 (by decide),ne _ 2 3 (by decide),ne _ 2 0 (by decide),ne _ 2 1 (by decide),ne _ 3 0 (by decide),ne _ 3 1 (by decide),ne _ 0 1 (by decide)⟩
   refine⟨_,_,_,_,H1,rfl,I2,zrl k1 k2 a b _ _ _ _ _ D,⟨hz,hTI,⟨_,_,hTO⟩,h1,h2⟩,λc hc=>?_,q⟩;have hb':s1.heap.objs.size≤c:=by
    simp only[ax,a_,or_false]at hc;rcases hc with rfl |rfl |rfl |rfl |rfl
    ·exact dX _ _
    ·exact dX _ _
    ·exact dX _ _
    ·exact au _
    ·exact dX _ _
   exact I1.fpOk hb' (I1.hok.fresh hb')
noncomputable def pairs:List W→List W→List W
 |x::xs,y::ys=> .tup [x,y]::pairs xs ys
 |_,_=>[]
theorem zit:∀{xs ys:List W}{i:Nat}{u:W},(pairs xs ys)[i]? =ae u→ ∃x y,xs[i]? =ae x∧ys[i]? =ae y∧u= .tup [x,y]
 | [],_,_,_,h=>by simp [pairs]at h
 |_::_,[],_,_,h=>by simp [pairs]at h
 |x::xs,y::ys,0,u,h=>by
  simp [pairs]at h;exact⟨x,y,rfl,rfl,h.symm⟩
 |x::xs,y::ys,i+1,u,h=>by simpa using zit (xs:=xs) (ys:=ys) (i:=i) (u:=u) (by simpa [pairs]using h)
theorem zjH:∀{xs ys:List W},(pairs xs ys).length=min xs.length ys.length
 | [],_=>by simp [pairs]
 |_::_,[]=>by simp [pairs]
 |x::xs,y::ys=>by simp [pairs,zjH (xs:=xs) (ys:=ys)]
theorem zxe{K:ah}{k1 k2:Bool}{a b:Addr}{ws us:List W}{G:Sto→Prop}{H0:Hp}{S0:Sto}(h:∀S H,Ext H0 S0 H S→RepS K H S→G S→(∃vs,SqZ k1 K H a vs∧Reps K H ws vs)∧ ∃vs,SqZ k2 K H b vs∧Reps K H us vs):ItW K (Itz k1 k2 K a b) (pairs ws us) G H0 S0:=λi S H e hS hG=>by
 obtain⟨⟨xs,hq,r⟩,⟨ys,hq2,r2⟩⟩:=h S H e hS hG;refine⟨λu eu=>?_,λhl=>⟨xs,ys,hq,hq2,?_⟩⟩
 ·obtain⟨x,y,ex,ey,rfl⟩:=zit eu;obtain⟨v,ev,rv⟩:=r.get ex;obtain⟨v2,ev2,rv2⟩:=r2.get ey;refine⟨⟨xs,ys,v,v2,hq,hq2,ev,ev2⟩,λx H' ⟨p,y1,y2,hp,e1,e2,e3,e4⟩=>?_⟩;subst e1 e2;have f1:=e3 xs hq;have f2:=e4 ys hq2;rw[ev]at f1;cases f1;rw[ev2]at f2;cases f2;exact⟨.new hp,hS.new hp, .tup zaF (.cons (rv.ext (.new (S:=S) hp)) (.cons (rv2.ext (.new (S:=S) hp)) .nil))⟩
 ·rw[zjH]at hl;rw[←r.length,←r2.length];omega
theorem zmb{K:ah}{H:Hp}{S:Sto}{w:W}{v:V}{Q:List W→(Sto→Prop)→Prop}(r:Rep K H w v) (hS:RepS K H S) (h:znb w S Q) :
  ∃k a ws G,v= .ref a∧G S∧(∀S' H',Ext H S H' S'→RepS K H' S'→G S'→ ∃vs,SqZ k K H' a vs∧Reps K H' ws vs)∧Q ws G:=by
 cases r with
 |tup f hs=>exact⟨false,_,_,_,rfl,trivial,λS' H' e hS' _=>⟨_,e.tup _ _ f,hs.ext e⟩,h⟩
 |ref a=>
  obtain⟨ws,ea,h⟩:=zaY h;exact⟨true,_,ws,_,rfl,ea,λS' H' e hS' g=>by
   obtain⟨vs,f,hs⟩:=hS' a _ g;exact⟨vs, .of f,hs⟩,h⟩
 |scr f=>exact⟨true,_,_,_,rfl,trivial,λS' H' e hS' _=>⟨_,(e.fz f).sq,Reps.ofInts _⟩,h⟩
 |_=>exact h.elim
noncomputable def zve (t u:WE):WI:=λE σ S Q=>t E σ S λx S1=>u E σ S1 λy S2=>znb x S2 λxs G=>znb y S2 λys G'=>Q (pairs xs ys) (λS'=>G S'∧G' S') S2
theorem zmJ{a b:Expr}{ta tb:WE}{p pos:aA}(hg:Gl X "zip") (hm:X.mg "zip" =none) (ha:JE X a ta) (hb:JE X b tb) (hs:am [a,b] X.env=[(false,aq a X.env),(false,aq b X.env)]:=by rfl) (hs2:am [b] X.env=[(false,aq b X.env)]:=by rfl)
  (h3:am [a,b] X.env=(false,aq a X.env)::am [b] X.env:=by rfl) (h4:am [b] X.env=(false,aq b X.env)::am [] X.env:=by rfl):JI X (.Tuple es x1 tpos) (.Call (.Name "zip" p) [a,b] [] pos) (zve ta tb):=λE hE=>
 (zwH hg hm (zdt (ha E hE) (zdt (hb E hE) pa_nil h4) h3) hs hs2).mono λσ H R ⟨σW,S,QW,hσ,hS,ht,hR⟩=>⟨σW,S,_,hσ,hS,ht,λx S1 v H1 e1 r1 hS1 h1=>⟨σW,S1,_,hσ.ext e1,hS1,h1,λy S2 v2 H2 e2 r2 hS2 h2=>by
  obtain⟨k1,a,ws,G,rfl,hG,hq,h⟩:=zmb (r1.ext e2) hS2 h2;obtain⟨k2,b,us,G',rfl,hG',hq',h⟩:=zmb r2 hS2 h;obtain⟨vs,hv,_⟩:=hq S2 H2 .refl hS2 hG;obtain⟨vs',hv',_⟩:=hq' S2 H2 .refl hS2 hG';exact⟨k1,k2,a,b,vs,vs',rfl,hv,hv',hR _ _ S2 _ H2 (e1.trans e2) hS2 ⟨hG,hG'⟩ (zxe λS' H' e hS' g=>⟨hq S' H' e hS' g.1,hq' S' H' e hS' g.2⟩) h⟩⟩⟩
end
section
noncomputable def zxC (hi:Int) (n:Nat):List W:=(ba n).map λ(i:Nat)=> .int (hi - (i:Int))
noncomputable def zzW (t:WA):WI:=λE σ S Q=>t E σ S λws S1=>match ws with
 | [.int i, .int j, .int c]=>c= -1∧(-(2 ^ 62)≤i∧i<2 ^ 62∧ -(2 ^ 62)≤j∧j<2 ^ 62)∧Q (zxC i (i - j).toNat) (λ_=>True) S1
 |_=>False
end
section
variable {X:Cx}{a b c:Expr}{pos:aA}{ta tb tc:WE}
theorem zrh{op op':cO}{r r':R2}{wr wr':W2}(ho:OpR X (bf op) r) (hw:OpW X.K r wr) (ho':OpR X (bf op') r') (hw':OpW X.K r' wr') (ha:JE X a ta) (hb:JE X b tb) (hc:JE X c tc)
  (hm:hU [op,op'] [b,c]=false:=by with_unfolding_all rfl):JE X (.Compare a [op,op'] [b,c] pos) (zjc wr wr' ta tb tc):=λE hE=>
 (zsh ho ho' (ha E hE) (hb E hE) (hc E hE) hm).mono λσ H Q ⟨σW,S,QW,hσ,hS,ht,hQ⟩=>by
  refine⟨σW,S,_,hσ,hS,ht,λx S1 v1 H1 e1 r1 hS1 h1=>⟨σW,S1,_,hσ.ext e1,hS1,h1,λy S2 v2 H2 e2 r2 hS2 h2=>?_⟩⟩;refine hw H2 v1 v2 x y S2 _ _ (r1.ext e2) r2 hS2 h2 λz S3 v3 H3 e3 r3 hS3 h3=>?_;cases r3 with
  |bl k=>
   refine⟨k,rfl,?_⟩;cases k with
   |true=>
    refine⟨σW,S3,_,((hσ.ext e1).ext e2).ext e3,hS3,h3,λu S4 v4 H4 e4 r4 hS4 h4=>?_⟩;exact hw' H4 v2 v4 y u S4 Q QW ((r2.ext e3).ext e4) r4 hS4 h4 (hQ.from (((e1.trans e2).trans e3).trans e4))
   |false=>exact hQ _ S3 _ H3 ((e1.trans e2).trans e3) (.bl false) hS3 h3
  |_=>exact h3.elim
theorem znZ (ha:JE X a ta) (hb:JE X b tb) (hc:JE X c tc) (hm:hU [.LtE, .LtE] [b,c]=false:=by with_unfolding_all rfl):JE X (.Compare a [.LtE, .LtE] [b,c] pos) (zjc oLe oLe ta tb tc):=zrh (op_le.or zjF) zsR (op_le.or zjF) zsR ha hb hc hm
end
section
variable {X:Cx}{e:Expr}{es:List Expr}{t:WA}{p pos:aA}
noncomputable def zxm:WF:=λws S Q=>match ws with
 | [.int i]=>Q (.int i) S
 | [.bl b]=>Q (.int (if b then 1 else 0)) S
 |_=>False
theorem zoW{K:ah}:zgE K (λxs H Q=>(∃i,xs=[.int i]∧Q (.int i) H)∨ ∃k,xs=[.bl k]∧Q (.int (if k then 1 else 0)) H) zxm:=λH vs ws S Q QW r hS h hQ=>by
 cases r with
 |nil=>exact h.elim
 |cons r1 r2=>
  cases r2 with
  |cons _ _=>cases r1<;>exact h.elim
  |nil=>
   cases r1 with
   |int i=>exact .inl ⟨i,rfl,hQ _ S _ H .refl (.int _) hS h⟩
   |bl b=>exact .inr ⟨b,rfl,hQ _ S _ H .refl (.int _) hS h⟩
   |_=>exact h.elim
theorem ztL (hg:Gl X "int") (hm:X.mg "int" =none) (ha:JA X (e::es) t)
  (he:am (e::es) X.env=(false,aq e X.env)::am es X.env:=by rfl) (hpl:(aO pos (am es X.env)).any (·.1)=false:=by rfl):JE X (.Call (.Name "int" p) (e::es) [] pos) (wB zxm t):=
 zwk zoR zoW hg hm c9 ha (by decide) (by decide) he hpl
noncomputable def zoz:WF:=λws S Q=>match ws with
 | [.int i, .int j]=>Q (.int (if j > i then j else i)) S
 |_=>False
noncomputable def zid:WF:=λws S Q=>match ws with
 | [.int i, .int j]=>Q (.int (if j<i then j else i)) S
 |_=>False
theorem zmP{K:ah}:zgE K (λxs H Q=>∃i j,xs=[.int i, .int j]∧Q (.int (if j > i then j else i)) H) zoz:=λH vs ws S Q QW r hS h hQ=>by
 unfold zoz at h;split at h
 ·cases r with
  |cons r1 r2=>cases r2 with
   |cons r2 r3=>cases r3;cases r1;cases r2;exact⟨_,_,rfl,hQ _ S _ H .refl (.int _) hS h⟩
 ·exact h.elim
theorem znm{K:ah}:zgE K (λxs H Q=>∃i j,xs=[.int i, .int j]∧Q (.int (if j<i then j else i)) H) zid:=λH vs ws S Q QW r hS h hQ=>by
 unfold zid at h;split at h
 ·cases r with
  |cons r1 r2=>cases r2 with
   |cons r2 r3=>cases r3;cases r1;cases r2;exact⟨_,_,rfl,hQ _ S _ H .refl (.int _) hS h⟩
 ·exact h.elim
theorem ziN{id:String}{r:List V→Hp→VK→Prop}{f:WF}{x:Str}(hc:X.calm=true→CallR X (.builtin id) r) (hw:zgE X.K r f) (hg:Gl X x) (hm:X.mg x=none) (hv:bS x=ae (.builtin id)) (ha:JA X (e::es) t) (hn:x≠ "__name__" :=by decide) (hdb:(x == ("__debug__" :Str))=false:=by decide)
  (he:am (e::es) X.env=(false,aq e X.env)::am es X.env:=by rfl) (hpl:(aO pos (am es X.env)).any (·.1)=false:=by rfl) (hcl:X.calm=true:=by rfl):JE X (.Call (.Name x p) (e::es) [] pos) (wB f t):=λE hE=>zmd (hc hcl) hw hg hm hv ha hn hdb he hpl E hE
theorem zvl (hg:Gl X "max") (hm:X.mg "max" =none) (ha:JA X (e::es) t)
  (he:am (e::es) X.env=(false,aq e X.env)::am es X.env:=by rfl) (hpl:(aO pos (am es X.env)).any (·.1)=false:=by rfl) (hcl:X.calm=true:=by rfl):JE X (.Call (.Name "max" p) (e::es) [] pos) (wB zoz t):=ziN zpl zmP hg hm PyProof.Rows.boot_max ha (by decide) (by decide) he hpl hcl
theorem zjW (hg:Gl X "min") (hm:X.mg "min" =none) (ha:JA X (e::es) t)
  (he:am (e::es) X.env=(false,aq e X.env)::am es X.env:=by rfl) (hpl:(aO pos (am es X.env)).any (·.1)=false:=by rfl) (hcl:X.calm=true:=by rfl):JE X (.Call (.Name "min" p) (e::es) [] pos) (wB zid t):=ziN zpx znm hg hm PyProof.Rows.boot_min ha (by decide) (by decide) he hpl hcl
theorem zoq{tl:WL}(hg:Gl X "all") (hm:X.mg "all" =none) (ha:JL X e tl)
  (he:am [e] X.env=(false,aq e X.env)::am [] X.env:=by rfl) (hpl:(aO pos (am [] X.env)).any (·.1)=false:=by rfl) (hcl:X.calm=true:=by rfl):JE X (.Call (.Name "all" p) [e] [] pos) (wBL znp tl):=λE hE=>zqv (zrU hcl) zqg hg hm PyProof.Rows.boot_all ha (by decide) (by decide) he hpl E hE
theorem zjS{tl:WL}(hg:Gl X "tuple") (hm:X.mg "tuple" =none) (ha:JL X e tl)
  (he:am [e] X.env=(false,aq e X.env)::am [] X.env:=by rfl) (hpl:(aO pos (am [] X.env)).any (·.1)=false:=by rfl):JE X (.Call (.Name "tuple" p) [e] [] pos) (wBL zgs tl):=zsE zez zkV hg hm jH ha (by decide) (by decide) he hpl
theorem zdu (hg:Gl X "tuple") (hm:X.mg "tuple" =none) (ha:JA X (e::es) t)
  (he:am (e::es) X.env=(false,aq e X.env)::am es X.env:=by rfl) (hpl:(aO pos (am es X.env)).any (·.1)=false:=by rfl):JE X (.Call (.Name "tuple" p) (e::es) [] pos) (wB zdo t):=zwk zez zkx hg hm jH ha (by decide) (by decide) he hpl
end
theorem zst{K:ah}:∀T∈ ["int", "bool", "str", "tuple", "list"],∀A∈ ["NoneType", "bool", "int", "str", "tuple", "list"],eO K (.type A) (.type T)=ae (zbV A T):=by
 intro T hT A hA;simp only[ax,a_,or_false]at hT hA;rcases hT with rfl |rfl |rfl |rfl |rfl<;>rcases hA with rfl |rfl |rfl |rfl |rfl |rfl<;>rfl
theorem gl0:∀(ws:List W) (σ:WSt) (S:Sto) (P:WSt→Sto→Prop),zcD ws σ S P→ws.length=0:=λws σ S P h=>by
 cases ws with
 |nil=>rfl
 |cons _ _=>exact h.elim
theorem glS{i n:Nat}{u:WGs}(h:∀(ws:List W) (σ:WSt) (S:Sto) (P:WSt→Sto→Prop),u ws σ S P→ws.length=n):∀(ws:List W) (σ:WSt) (S:Sto) (P:WSt→Sto→Prop),zav (wGN i) u ws σ S P→ws.length=n+1:=λws σ S P q=>by
 cases ws with
 |nil=>exact q.elim
 |cons w ws=>exact congrArg (· +1) (h _ _ _ _ q)
noncomputable def zbh:WSp:=λ_ _ _ _=>False
theorem zxa{P:aE}{w:az}{K:ah}{mg:Str→Option Value}{base:Heap}{f:Addr}{fd:bH}{ps:List Str}{k:Nat}:FnOk P w K mg base (CX1 P w) k f fd ps (zcV K zbh):=
 ⟨λvs H Q E ⟨_,_,_,_,_,_,h,_⟩=>h.elim,λA outer s H args us vs Q E _ _ _ _ ⟨_,_,_,_,_,_,h,_⟩=>h.elim⟩
section
variable {X:Cx}{a b:Expr}{pos:aA}{ta tb:WE}{la lb:WL}
noncomputable def zrN (t:WL) (u:WE):WE:=λE σ S Q=>t E σ S λws S1=>u E σ S1 λy S2=>match y with
 | .int i=>match atI ws i with
  |some w=>Q w S2
  |none=>False
 |_=>False
theorem ziM (ha:JL X a la) (hb:JE X b tb) (hs:zkX b:=by intro _ _;rfl):JE X (.Subscript a b pos) (zrN la tb):=λE hE=>
 (zwb zsT (ha E hE) (hb E hE) hs).mono λσ H Q ⟨σW,S,QW,hσ,hS,ht,hQ⟩=>⟨σW,S,_,hσ,hS,ht,λws S1 vs p H1 e1 fp ep np r1 hS1 h1=>⟨σW,S1,_,hσ.ext e1,hS1,h1,λy S2 v2 H2 e2 r2 hS2 h2=>by
  cases r2 with
  |int i=>
   dsimp only at h2;split at h2
   ·obtain⟨v,ev,r⟩:=zkz (r1.ext e2) ‹_›;exact .inl ⟨p,vs,i,v,rfl,rfl, .of (e2.fr p _ ep np).1,ev,hQ _ S2 _ H2 (e1.trans e2) r hS2 h2⟩
   ·exact h2.elim
  |_=>exact h2.elim⟩⟩
noncomputable def zgB (t:WE) (u:WL):WL:=λE σ S Q=>t E σ S λx S1=>u E σ S1 λys S2=>match x with
 | .ref a=>zce S2 a λxs=>xs.length+ys.length≤sizeLine∧Q (xs++ys) S2
 |_=>False
noncomputable def zks (t u:WL):WL:=λE σ S Q=>t E σ S λxs S1=>u E σ S1 λys S2=>xs.length+ys.length≤sizeLine∧Q (xs++ys) S2
noncomputable def zrw (t:WL) (u:WE):WL:=λE σ S Q=>t E σ S λxs S1=>u E σ S1 λy S2=>match y with
 | .ref a=>zce S2 a λys=>xs.length+ys.length≤sizeLine∧Q (xs++ys) S2
 |_=>False
theorem zet (ha:JE X a ta) (hb:JL X b lb):JL X (.BinOp a .Add b pos) (zgB ta lb):=λE hE=>
 (zpp zms (ha E hE) (hb E hE)).mono λσ H Q ⟨σW,S,QW,hσ,hS,ht,hQ⟩=>⟨σW,S,_,hσ,hS,ht,λw1 S1 v1 H1 e1 r1 hS1 h1=>⟨σW,S1,_,hσ.ext e1,hS1,h1,λys S2 us q H2 e2 fq eq nq r2 hS2 h2=>by
  cases r1 with
  |ref p=>
   obtain⟨xs,ea,h⟩:=zaY h2;obtain⟨vs,f1,q1⟩:=hS2 p _ ea;exact⟨p,q,vs,us,rfl,rfl,f1,eq,by rw[←q1.length,←r2.length];exact h.1,λp hp=>hQ _ S2 _ p _ ((e1.trans e2).trans (.new hp)) ((e1.trans e2).free hp) zaF (hS2.free hp) ((q1.append r2).ext (.new (S:=S2) hp)) (hS2.new hp) h.2⟩
  |_=>exact h2.elim⟩⟩
theorem zhD (ha:JL X a la) (hb:JL X b lb):JL X (.BinOp a .Add b pos) (zks la lb):=λE hE=>
 (zpp zms (ha E hE) (hb E hE)).mono λσ H Q ⟨σW,S,QW,hσ,hS,ht,hQ⟩=>⟨σW,S,_,hσ,hS,ht,λxs S1 vs p H1 e1 fp ep np r1 hS1 h1=>⟨σW,S1,_,hσ.ext e1,hS1,h1,λys S2 us q H2 e2 fq eq nq r2 hS2 h2=>
  ⟨p,q,vs,us,rfl,rfl,(e2.fr p _ ep np).1,eq,by rw[←r1.length,←r2.length];exact h2.1,λz hz=>hQ _ S2 _ z _ ((e1.trans e2).trans (.new hz)) ((e1.trans e2).free hz) zaF (hS2.free hz) (((r1.ext e2).append r2).ext (.new (S:=S2) hz)) (hS2.new hz) h2.2⟩⟩⟩
theorem ztu (ha:JL X a la) (hb:JE X b tb):JL X (.BinOp a .Add b pos) (zrw la tb):=λE hE=>
 (zpp zms (ha E hE) (hb E hE)).mono λσ H Q ⟨σW,S,QW,hσ,hS,ht,hQ⟩=>⟨σW,S,_,hσ,hS,ht,λxs S1 vs p H1 e1 fp ep np r1 hS1 h1=>⟨σW,S1,_,hσ.ext e1,hS1,h1,λy S2 v2 H2 e2 r2 hS2 h2=>by
  cases r2 with
  |ref q=>
   obtain⟨ys,ea,h⟩:=zaY h2;obtain⟨us,f2,q2⟩:=hS2 q _ ea;exact⟨p,q,vs,us,rfl,rfl,(e2.fr p _ ep np).1,f2,by rw[←r1.length,←q2.length];exact h.1,λz hz=>hQ _ S2 _ z _ ((e1.trans e2).trans (.new hz)) ((e1.trans e2).free hz) zaF (hS2.free hz) (((r1.ext e2).append q2).ext (.new (S:=S2) hz)) (hS2.new hz) h.2⟩
  |_=>exact h2.elim⟩⟩
noncomputable def zrA (t:WL) (u:WE):WL:=λE σ S Q=>t E σ S λxs S1=>u E σ S1 λy S2=>match y with
 | .int k=>(-(2 ^ 63)≤k∧k<2 ^ 63∧xs.length*k.toNat≤sizeLine)∧Q (aR k.toNat xs).flatten S2
 |_=>False
theorem Reps.rep{K:ah}{H:Hp}{ws:List W}{vs:List V}(h:Reps K H ws vs):∀k:Nat,Reps K H (aR k ws).flatten (aR k vs).flatten
 |0=> .nil
 |k+1=>by
  rw[ce,ce,df,df];exact h.append (Reps.rep h k)
theorem zvB (ha:JL X a la) (hb:JE X b tb):JL X (.BinOp a .Mult b pos) (zrA la tb):=λE hE=>
 (zpp zxh (ha E hE) (hb E hE)).mono λσ H Q ⟨σW,S,QW,hσ,hS,ht,hQ⟩=>⟨σW,S,_,hσ,hS,ht,λxs S1 vs p H1 e1 fp ep np r1 hS1 h1=>⟨σW,S1,_,hσ.ext e1,hS1,h1,λy S2 v2 H2 e2 r2 hS2 h2=>by
  cases r2 with
  |int k=>
   obtain⟨⟨k1,k2,k3⟩,h⟩:=h2;exact⟨p,k,vs,rfl,rfl,(e2.fr p _ ep np).1,k1,k2,by rw[←r1.length];exact k3,λz hz=>hQ _ S2 _ z _ ((e1.trans e2).trans (.new hz)) ((e1.trans e2).free hz) zaF (hS2.free hz) (((r1.ext e2).rep k.toNat).ext (.new (S:=S2) hz)) (hS2.new hz) h⟩
  |_=>exact h2.elim⟩⟩
end
theorem zqG{K:ah}{H:Hp}{a:Addr}{ns:List Int}{c:WSp}{E:XK}(hO:zyk H) (hS:SqL K H a (ns.map V.int)) (h:c [.scr ns] (λ_=>none) (λw _=>w= .bl true) (λ_ _=>False)):zcV K c [.ref a] H (λv _=>v= .bl true) E:=by
 have fz:FzL K H a (ns.map V.int):=by
  rcases hS with(hS |⟨o,hS⟩) |hS
  ·rcases hO a with z |⟨o,xs,z⟩
   ·rw[hS]at z;cases z
   ·rw[hS]at z;cases z
  ·exact .inl ⟨o,hS⟩
  ·exact .inr hS
 refine⟨[.scr ns],λ_=>none,_,λ_ _=>False, .one (.scr fz),(λa o e=>by cases e),h,λw S v H' e r hS' q=>?_,λ_ _ _ _ _ _ z=>z.elim⟩
 subst q;cases r;rfl
section
noncomputable def zzA:W2
 | .tup xs, .int k,S,Q=>(xs≠ []∧ -(2 ^ 63)≤k∧k<2 ^ 63∧xs.length*k.toNat≤sizeLine)∧Q (.tup (aR k.toNat xs).flatten) S
 |_,_,_,_=>False
end
noncomputable def zfp (kvs:List (List Int×W)) (k:List Int):Option W:=(kvs.find? λkv=>decide (kv.1=k)).map (·.2)
noncomputable def zuj (kvs:List (List Int×W)) (k:List Int) (v:W):List (List Int×W):=
 if(kvs.any λkv=>decide (kv.1=k))=true then kvs.map (λkv=>if kv.1=k then(kv.1,v) else kv) else kvs++[(k,v)]
noncomputable def zbq:List W→Option (List Int)
 | []=>ae []
 | .int i::ws=>(zbq ws).map (i:: ·)
 |_=>none
noncomputable def zpa:W→Option (List Int)
 | .tup ws=>zbq ws
 |_=>none
def zqN (S:Sto) (a:Addr) (P:List (List Int×W)→Prop):Prop:=match S a with
 |some (.dct kvs)=>P kvs
 |_=>False
theorem zuv{S:Sto}{a:Addr}{P:List (List Int×W)→Prop}(h:zqN S a P):∃kvs,S a=ae (.dct kvs)∧P kvs:=by
 unfold zqN at h;split at h
 ·exact⟨_, ‹_›,h⟩
 ·exact h.elim
theorem zkQ{S:Sto}{a:Addr}{kvs:List (List Int×W)}{P:List (List Int×W)→Prop}(e:S a=ae (.dct kvs)):zqN S a P=P kvs:=by unfold zqN;rw[e]
section
variable {K:ah}{H:Hp}
noncomputable abbrev RepD (K:ah) (H:Hp):List (List Int×W)→List (List Key×V)→Prop:=bN λq p=>p.1=q.1.map Sum.inl∧Rep K H q.2 p.2
theorem zhR:∀{a b:List Int},a.map (Sum.inl:Int→Key)=b.map Sum.inl→a=b
 | [],[],_=>rfl
 | [],_::_,h=>by simp at h
 |_::_,[],h=>by simp at h
 |x::xs,y::ys,h=>by
  simp only[aB,f_,Sum.inl.injEq]at h;rw[h.1,zhR h.2]
theorem RepD.val{kvs:List (List Int×W)}{ps:List (List Key×V)}(r:RepD K H kvs ps) (k:List Int):(∀w,zfp kvs k=ae w→ ∃v,zlS ps (k.map Sum.inl)=ae v∧Rep K H w v)∧(zfp kvs k=none→zlS ps (k.map Sum.inl)=none):=by
 induction r with
 |nil=>exact⟨λw h=>by simp [zfp]at h,λ_=>rfl⟩
 | @cons q p kvs ps h t ih=>
  by_cases hk:q.1=k
  ·have e:p.1=k.map Sum.inl:=by rw[h.1,hk]
   rw[zfI e];have ew:zfp (q::kvs) k=ae q.2:=by simp [zfp,b7,hk]
   rw[ew];exact⟨λw z=>by cases z;exact⟨_,rfl,h.2⟩,λz=>by cases z⟩
  ·have e:¬p.1=k.map Sum.inl:=by rw[h.1];exact λz=>hk (zhR z)
   rw[zfF e];have ew:zfp (q::kvs) k=zfp kvs k:=by simp [zfp,b7,hk]
   rw[ew];exact ih
theorem RepD.any{kvs:List (List Int×W)}{ps:List (List Key×V)}(r:RepD K H kvs ps) (k:List Int):(ps.any λkv=>decide (kv.1=k.map Sum.inl))=kvs.any λkv=>decide (kv.1=k):=by
 induction r with
 |nil=>rfl
 | @cons q p kvs ps h t ih=>
  rw[eD,eD,ih];congr 1;apply decide_eq_decide.mpr;rw[h.1];exact⟨zhR,λz=>by rw[z]⟩
theorem RepD.put{kvs:List (List Int×W)}{ps:List (List Key×V)}(r:RepD K H kvs ps) (k:List Int) {w:W}{v:V}(rw':Rep K H w v):RepD K H (zuj kvs k w) (znY ps (k.map Sum.inl) v):=by
 unfold zuj znY;rw[r.any k];split
 ·rename_i hany;clear hany
  induction r with
  |nil=>exact .nil
  | @cons q p kvs ps h t ih=>
   rw[aB,aB];refine .cons ?_ ih;by_cases hk:q.1=k
   ·rw[if_pos hk,if_pos (by rw[h.1,hk])];exact⟨h.1,rw'⟩
   ·rw[if_neg hk,if_neg (by rw[h.1];exact λz=>hk (zhR z))];exact h
 ·rename_i hany;clear hany
  induction r with
  |nil=>exact .cons ⟨rfl,rw'⟩ .nil
  |cons h t ih=>exact .cons h ih
theorem RepD.length{kvs:List (List Int×W)}{ps:List (List Key×V)}(r:RepD K H kvs ps):kvs.length=ps.length:=eK r
theorem zhb:∀{ws:List W}{vs:List V}{k:List Int},Reps K H ws vs→zbq ws=ae k→vs=(k.map (Sum.inl:Int→Key)).map kV
 | [],_,_, .nil,e=>by cases e;rfl
 |w::ws,_,k, .cons r rs,e=>by
  cases r with
  |int i=>
   cases q:zbq ws with
   |none=>simp [zbq,q]at e
   |some ks=>
    simp only[zbq,q,fu,bF]at e;subst e;rw[zhb rs q];rfl
  |_=>simp [zbq]at e
theorem zlP{w:W}{v:V}{k:List Int}(r:Rep K H w v) (e:zpa w=ae k):∃b,v= .ref b∧H b=ae (.tup ((k.map (Sum.inl:Int→Key)).map kV)):=by
 cases r with
 |tup f hs=>exact⟨_,rfl,by rw[f,zhb hs e]⟩
 |_=>simp [zpa]at e
theorem zuh{S:Sto}{a:Addr}{kvs:List (List Int×W)}{y:V}{wy:W}{k:List Int}(hS:RepS K H S) (e:S a=ae (.dct kvs)) (ry:Rep K H wy y) (ek:zpa wy=ae k):∃o,DGet H a y o∧(zfp kvs k=none→o=none)∧ ∀w,zfp kvs k=ae w→ ∃v,o=ae v∧Rep K H w v:=by
 obtain⟨ps,e1,r⟩:=hS a _ e;obtain⟨b,rfl,eb⟩:=zlP ry ek;have rv:=RepD.val r k;exact⟨zlS ps (k.map Sum.inl), .t e1 eb,rv.2,rv.1⟩
end
noncomputable def zvM (neg:Bool):W2:=λy x S Q=>match x with
 | .ref a=>match zpa y with
  |some k=>zqN S a λkvs=>Q (.bl (if neg then !(zfp kvs k).isSome else(zfp kvs k).isSome)) S
  |none=>False
 |_=>False
noncomputable def zzv:W2:=λx y S Q=>match x with
 | .ref a=>match zpa y with
  |some k=>zqN S a λkvs=>match zfp kvs k with
   |some w=>Q w S
   |none=>False
  |none=>False
 |_=>False
section
variable {X:Cx}{a b o:Expr}{pos:aA}{ta tb:WE}
noncomputable def zzT (neg:Bool):R2:=λy x H Q=>∃a o,x= .ref a∧DGet H a y o∧Q (.bl (if neg then !o.isSome else o.isSome)) H
theorem zvY (hu:X.A.units+1<cLine):OpR X (bf .In) (zzT false):=by
 intro pins s σ H x y v u Q I rx ry h;obtain⟨a,o,rfl,g,q⟩:=h;cases ry;exact zAd hu I g rx λs3 I3=>⟨.bl o.isSome,H,I3,rfl,q⟩
theorem zuA{K:ah}{neg:Bool}:OpW K (zzT neg) (zvM neg):=λH x y wx wy S Q QW rx ry hS h hQ=>by
 unfold zvM at h;split at h
 ·split at h
  ·rename_i k ek;obtain⟨kvs,ea,h⟩:=zuv h;cases ry;obtain⟨o,g,g0,g1⟩:=zuh hS ea rx ek;have eo:o.isSome=(zfp kvs k).isSome:=by
    cases q:zfp kvs k with
    |none=>rw[g0 q];rfl
    |some w=>obtain⟨v,ev,_⟩:=g1 w q;rw[ev];rfl
   exact⟨_,o,rfl,g,by rw[eo];exact hQ _ S _ H .refl (.bl _) hS h⟩
  ·exact h.elim
 ·exact h.elim
theorem zvA{k:Nat}(hr:Room k X.A) (ha:JE X a ta) (hb:JE X b tb) (hm:cT .In b=false:=by with_unfolding_all rfl):JT X (.Compare a [.In] [b] pos) (wTb (wOp (zvM false) ta tb)):=
 zei (zvY (by have:=hr.units;omega)) zuA ha hb hm
end
section
variable {X:Cx}{o e:Expr}{to:WE}{tl:WL}{apos cpos p pos:aA}
def zsS:V→List V→Hp→VK→Prop:=λx vs H Q=>∃z:Str,x= .str z∧vs=[]∧z.length≤5592405∧Q (.str (dk z)) H
theorem zso:MtR X "str.upper" zsS:=by
 intro pins s σ H x vs v us Q I rx rv h;obtain⟨z,rfl,rfl,hz,q⟩:=h;obtain⟨t,rfl⟩:=rx;cases rv;exact SCL.upper hz λ_=>⟨.str (dk z),H,I.tok _,⟨_,rfl⟩,q⟩
noncomputable def zlG:WMf:=λw ws S Q=>match w,ws with
 | .str z,[]=>z.length≤5592405∧Q (.str (dk z)) S
 |_,_=>False
theorem zpJ{K:ah}:MtW K zsS zlG:=λH x w vs ws S Q QW r rs hS h hQ=>by
 cases r with
 |str z=>
  cases rs with
  |nil=>exact⟨z,rfl,rfl,h.1,hQ _ S _ H .refl (.str _) hS h.2⟩
  |cons _ _=>exact h.elim
 |_=>exact h.elim
theorem zqJ (ho:JE X o to) (hbase:cM o "upper" X.env (aq o X.env)=aq o X.env:=by rfl) (hline:(apos.endLine == cpos.line)=true:=by rfl):JE X (.Call (.Attribute o "upper" apos) [] [] cpos) (wM rvS zlG to waNil):=
 zzL j4 PySem.F.slot_str_upper PySem.F.type_str_upper zsx zso zpJ ho hbase hline
theorem zfU:∀(ns:List Int) (n:Nat),n≤ns.length→fi (λi=>ns.getD i 0) n=(ns.take n).sum
 |ns,0,_=>by simp [fi]
 |ns,n+1,h=>by
  rw[fi,zfU ns n (by omega),jE,gl];congr 1;rw[aY,aJ (by omega)];simp
theorem zos (hc:X.calm=true):CallR X (.builtin "sum") (λxs H Q=>∃(p:Addr) (ns:List Int),xs=[.ref p]∧SqL X.K H p (ns.map V.int)∧Q (.int ns.sum) H):=by
 intro pins s σ H xs us Q I r h;obtain⟨p,ns,rfl,hq,q⟩:=h;obtain⟨u,rfl,rx⟩:=zfN r;cases rx;obtain⟨its,r',pl,hz⟩:=I.list hq;have hlen:ns.length=its.length:=by have:=r'.length;rw[ap]at this;exact this
 have hp:p<s.heap.objs.size:=by obtain⟨o,n,e,_⟩:=pl;exact aF e
 have hd:X.A.in1.handled=none:=I.ok.hd hc;have get:∀(i:Nat) (v:Value),its.toArray[i]? =ae v→ ∃t,v= .int (ns.getD i 0) t:=λi v e=>by
  have e':its[i]? =ae v:=by simpa using e
  have hi:i<ns.length:=by rw[hlen];exact(bG.mp e').1
  obtain⟨u,hu,ru⟩:=r'.get (i:=i) (x:= .int (ns.getD i 0)) (by rw[bo,aJ hi,aY,aJ hi];rfl);rw[e']at hu;cases hu;exact ru
 refine call_sum_walkG (dc pl.isList ?_);refine⟨s.heap.objs.size,_,_,_,_,_,λi=>ns.getD i 0,rfl,eN hd _ p (bt hp) its.toArray,⟨⟨_,bh _ rfl,rfl,rfl⟩,pl.isList.push _⟩,?_,λi v hP=>get i v hP,λh' tk t' hk=>?_⟩
 ·intro b hb;have hsz:∀o:Obj,(s.heap.push o).objs.size=s.heap.objs.size+1:=λo=>b9 ..;simp only[ax,a_,or_false]at hb;show b<(s.heap.push _).objs.size;rw[hsz];rcases hb with rfl |rfl
  ·exact i' _
  ·exact gu hp
 ·have e:fi (λi=>ns.getD i 0) its.toArray.size=ns.sum:=by
   rw[aQ,←hlen,zfU ns _ (au _),gD]
  have I1:Inv X pins σ H { s with heap:=h',toks:=tk }:=I.kept λb o e=>hk b o (λz=>by
   have z':b=s.heap.objs.size:=by simpa using z
   rw[z']at e;exact absurd (aF e) (bZ _)) (aH _ e)
  exact⟨.int _,H,I1,⟨t',by rw[e]⟩,q⟩
noncomputable def zia:WF:=λws S Q=>match zbq ws with
 |some ns=>Q (.int ns.sum) S
 |none=>False
theorem zcU{K:ah}{H:Hp}:∀{ws:List W}{vs:List V}{ns:List Int},Reps K H ws vs→zbq ws=ae ns→vs=ns.map V.int
 | [],_,_, .nil,e=>by cases e;rfl
 |w::ws,_,ns, .cons r rs,e=>by
  cases r with
  |int i=>
   cases q:zbq ws with
   |none=>simp [zbq,q]at e
   |some ks=>
    simp only[zbq,q,fu,bF]at e;subst e;rw[zcU rs q];rfl
  |_=>simp [zbq]at e
theorem zqn{K:ah}:zmY K (λxs H Q=>∃(p:Addr) (ns:List Int),xs=[.ref p]∧SqL K H p (ns.map V.int)∧Q (.int ns.sum) H) zia:=λH a vs ws S Q QW ea na r hS h hQ=>by
 unfold zia at h;split at h
 ·rename_i ns e;have:=zcU r e;subst this;exact⟨a,ns,rfl, .of ea,hQ _ S _ H .refl (.int _) hS h⟩
 ·exact h.elim
theorem zgj (hg:Gl X "sum") (hm:X.mg "sum" =none) (ha:JL X e tl)
  (he:am [e] X.env=(false,aq e X.env)::am [] X.env:=by rfl) (hpl:(aO pos (am [] X.env)).any (·.1)=false:=by rfl) (hcl:X.calm=true:=by rfl):JE X (.Call (.Name "sum" p) [e] [] pos) (wBL zia tl):=λE hE=>
 zqv (zos hcl) zqn hg hm PyProof.Rows.boot_sum ha (by decide) (by decide) he hpl E hE
end
theorem zom:gx (.type "list") "keys" =pure none:=by rw[typeLookup_type,builtinLookup_eq_fast];kernel_rfl
theorem zim:entryFor table "dict.update.loop" =ae bX.«dict.update.loop» :=entryFor_of_tree (by kernel_rfl)
theorem zeR:plainId "dict.update.loop" =true:=by decide +kernel
section
variable {prog:aE}{w:az}{A:aP}{E:Value→ag→Prop}{s:ag}
theorem zhE{a:Addr}{o:Obj}{xs:Array Value}{k:Nat}{name:Str}{Q:Option Value→ag→Prop}
  (hx : s.heap.get? a = ae o) (hc : o.cls = .type "list") (hdat : o.data = .seq xs k) (hd : o.dict = none) (hmiss : gx (.type "list") name = pure none) (hname : (["__module__", "__name__", "__qualname__", "__doc__", "__annotations__"] : List Str).contains name = false) (hA : A.handled = none)
  (h:∀h' tk,(∀b o,s.heap.get? b=ae o→h'.get? b=ae o)→Q none { s with heap:=h',toks:=tk }) (hsz:name.length+100≤sizeLine:=by size_fits) :
  aj (ao prog w) A (getAttr? (.ref a) name) Q E s:=by
 obtain⟨c,dct,dat,sl⟩:=o;simp only at hc hdat hd;subst hc hdat hd;obtain⟨hp,g,d,tk,os⟩:=s;have hT:∀tk',(⟨hp,g,d,tk',os⟩:ag).TypeIs (.ref a) "list" :=λ_=>⟨_,hx,rfl⟩;have f1:=sub_AttributeError;have f3:=gn.lookup;have f4:=gn.bind (.ref a);have f5:=am_list_getattr_none;unfold getAttr? getAttrBy? getAttrBy
 repeat (any_goals (first |assumption |exact hT _ | ((with_reducible show aj _ _ (call (Value.builtin "list.__getattribute__") _ _) _ _ _);refine dO gn (hT _) am_entry_list_getattribute (F.args_list_getattribute_2 _ _) (meets_getattribute_miss_list a xs k sl name _ hmiss hname hsz) ⟨hx,hA,λh' tk' e hx'=>?_⟩) |wp_step))
 obtain⟨t',u',he⟩:=hx'.there;have hTe:∀tk',(⟨h',g,d,tk',os⟩:ag).TypeIs (.ref e) "AttributeError" :=λ_=>⟨_,he,rfl⟩;show aj _ _ (jm _ _ _ _ _ _ _) _ _ _;unfold jm
 repeat (any_goals (first |assumption |exact hTe _ |wp_step))
 exact h h' tk' hx'.keeps
end
section
variable {prog:aE}{w:az}{A:aP}{R:Result→ag→Prop}{I l d:Addr}{items:Array Value}
noncomputable def zuu (xs:List (List Key×Addr×Value)) (ps:List (List Key×Addr)):List (List Key×Addr×Value):=ps.foldl (λxs p=>eS xs p.1 p.2 (.bool true)) xs
theorem zmS (hu:(cj (zbv prog w)).room A.in1) (hh:A.in1.handled=none) (hne:l≠I) (hdI:d≠I) (hdl:d≠l) (h0:Heap) (hd0:h0.get? d=none) (hI0:h0.get? I=none) (ps:List (List Key×Addr)) (hps:ps.length=items.size)
  (hp:∀(i:Nat) (p:List Key×Addr) (v:Value),ps[i]? =ae p→items[i]? =ae v→ ∃(t:Addr) (o:Obj) (n:Nat),v= .ref t∧h0.get? t=ae o∧o.cls= .type "tuple" ∧o.data= .seq #[.ref p.2, .bool true] n)
  (hk:∀p∈ps,(cj (zbv prog w)).is h0 p.1 p.2) :
  ∀(k i:Nat) (s:ag) (xs:List (List Key×Addr×Value)),items.size - i=k→i≤items.size→s.heap.IsListIter I l i→s.heap.IsList l items→(∀b o,h0.get? b=ae o→s.heap.get? b=ae o)→s.heap.DictOfH (cj (zbv prog w)) d xs→xs.length+(items.size - i)≤sizeLine→
  (∀h' tk,(∀b o,h0.get? b=ae o→h'.get? b=ae o)→h'.DictOfH (cj (zbv prog w)) d (zuu xs (ps.drop i))→R (.ok (.ret .none)) { s with heap:=h',toks:=tk })→
  dC (ao prog w) A (.builtin "dict.update.loop" ⟨[.ref d, .ref I,cw i, .none],[]⟩) R s:=by
 have W:=eN (prog:=prog) (w:=w) (A:=A.in1) hh I l hne items;intro k
 induction k with
 |zero=>
  intro i s xs hki hi hit hl hold hd hsz hR;have hin:i=items.size:=by omega
  subst hin;refine jp zim ?_;rw[jo zeR _];show aj _ A.in1 (b4 (.ref I) >>= _) _ _ s;refine ai (W.done s _ _ ⟨hit,hl⟩ λh' tk hk'=>?_);have hd':h'.DictOfH (cj (zbv prog w)) d xs:=by
   obtain⟨q,es,ep,q1,q2,q3,q4,q5,q6⟩:=hd;refine⟨q,es,ep,hk' d q (λz=>hdI (aV.mp z)) q1,q2,q3,q4,λx hx=>?_,q6⟩;obtain⟨ob,its,m,k1,k2,k3,k4⟩:=q5 x hx;refine⟨ob,its,m,hk' _ _ (λz=>?_) k1,k2,k3,k4⟩;obtain⟨oi,hi1,hi2,_⟩:=hit;rw[aV.mp z,hi1]at k1;cases k1;rw[k2]at hi2;exact absurd hi2 (by decide)
  show aj _ A.in1 (bX.Dict.addKeywords d [] >>= _) _ _ _;refine ai (aD (aD (hR h' tk (λb o e=>hk' b o (λz=>by rw[aV.mp z,hI0]at e;cases e) (hold b o e)) ?_)))
  rw[di (by omega)];exact hd'
 |succ k ih=>
  intro i s xs hki hi hit hl hold hd hsz hR;have hlt:i<items.size:=by omega
  refine jp zim ?_;rw[jo zeR _];show aj _ A.in1 (b4 (.ref I) >>= _) _ _ s;refine ai (W.item i s _ _ hlt ⟨hit,hl⟩ λv h' tk hP hst' hk'=>?_);obtain⟨p,hpi⟩:∃p,ps[i]? =ae p:=⟨ps[i],aJ (by omega)⟩;obtain⟨t,o,n,rfl,ho,hc,hdat⟩:=hp i p v hpi hP;have ho':=hk' t o (λz=>by rw[aV.mp z]at ho;rw[hI0]at ho;cases ho) (hold t o ho)
  have hkey:(cj (zbv prog w)).is h' p.1 p.2:=by
   obtain⟨ob,its,m,k1,k2,k3,k4⟩:=hk p (bp hpi);exact⟨ob,its,m,hk' _ _ (λz=>by rw[aV.mp z]at k1;rw[hI0]at k1;cases k1) (hold _ _ k1),k2,k3,k4⟩
  have hd':h'.DictOfH (cj (zbv prog w)) d xs:=by
   obtain⟨q,es,ep,q1,q2,q3,q4,q5,q6⟩:=hd;refine⟨q,es,ep,hk' d q (λz=>hdI (aV.mp z)) q1,q2,q3,q4,λx hx=>?_,q6⟩;obtain⟨ob,its,m,k1,k2,k3,k4⟩:=q5 x hx;refine⟨ob,its,m,hk' _ _ (λz=>?_) k1,k2,k3,k4⟩;obtain⟨oi,hi1,hi2,_⟩:=hit;rw[aV.mp z,hi1]at k1;cases k1;rw[k2]at hi2;exact absurd hi2 (by decide)
  show aj _ A.in1 (holding [.ref t] _ >>= _) _ _ _;refine ai (gf ?_);refine ai (wpAny_tryCatch ?_);unfold bX.Dict.pairItems;refine ai (eI (T:= "tuple") ⟨o,ho',hc⟩ ?_);rw[if_pos (by decide)];refine ai (cN ho' hdat ?_);refine aD ?_;show aj _ A.in1 (holding [.ref p.2, .bool true] (dictSet d (.ref p.2) (.bool true))) _ _ _;refine gf (wpAny_dictSet_heap (hsz:=by omega) hu hkey hd' λh2 hd2 hs2=>?_)
  refine aD ⟨plainId_quiet zeR _,?_⟩;have ei:((i:Int)+1)=((i+1:Nat):Int):=by omega
  rw[ei];have hln:(eS xs p.1 p.2 (dW true)).length≤xs.length+1:=by
   unfold eS;split<;>simp
  have hst2:=W.frame (i+1) h' h2 hst' λb hb o e=>by
   have hbd:b≠d:=by
    rcases ax.mp hb with z |z
    ·rw[z];exact bj hdI
    ·rw[aV.mp z];exact bj hdl
   exact(hs2.2 b hbd).trans e
  refine ih (i+1) _ _ (by omega) (by omega) hst2.1 hst2.2 (λb o e=>?_) hd2 (by omega) λh3 tk3 old3 hd3=>?_
  ·have hbd:b≠d:=λz=>by rw[z,hd0]at e;cases e
   have hbI:b∉ [I]:=λz=>by rw[aV.mp z,hI0]at e;cases e
   exact(hs2.2 b hbd).trans (hk' b o hbI (hold b o e))
  ·refine hR h3 tk3 old3 ?_;have ed:ps.drop i=p::ps.drop (i+1):=by
    have hi':i<ps.length:=by omega
    rw[eQ hi'];rw[aJ hi']at hpi;cases hpi;rfl
   rw[ed];exact hd3
end
section
variable {X:Cx}{e:Expr}{p pos:aA}{tl:WL}
def zln (H:Hp) (q:List Key) (v:V):Prop:=∃t b,v= .ref t∧H t=ae (.tup [.ref b, .bl true])∧H b=ae (.tup (q.map kV))
noncomputable def znx (qs:List (List Key)):List (List Key×V):=qs.foldl (λkvs q=>znY kvs q (.bl true)) []
theorem zjA:∀(qs:List (List Key)) (kvs:List (List Key×V)),(qs.foldl (λkvs q=>znY kvs q (V.bl true)) kvs).length≤kvs.length+qs.length
 | [],kvs=>by simp
 |q::qs,kvs=>by
  have h1:=zkH kvs q (V.bl true);have h2:=zjA qs (znY kvs q (.bl true));rw[dZ,aW];omega
theorem KT.fold{H:Hp}:∀(ps:List (List Key×Addr)) {kvs:List (List Key×V)}{xs:List (List Key×Addr×Value)},KT H kvs xs→(∀p∈ps,H p.2=ae (.tup (p.1.map kV)))→KT H ((ps.map λp=>p.1).foldl (λkvs q=>znY kvs q (.bl true)) kvs) (zuu xs ps)
 | [],_,_,r,_=>r
 |p::ps,kvs,xs,r,h=>by
  rw[aB,dZ];exact KT.fold ps (r.put p.1 (h p aK) rfl) λp' hp'=>h p' (aC _ hp')
theorem zmH{P:aE}{w:az}{H:Hp}{h:Heap}(ok:HOk P w H h):∀{qs:List (List Key)}{vs:List V}{its:List Value},bN (zln H) qs vs→Vals vs its→ ∃ps:List (List Key×Addr),(ps.map λp=>p.1)=qs∧
  (∀(i:Nat) (p:List Key×Addr) (v:Value),ps[i]? =ae p→its[i]? =ae v→ ∃(t:Addr) (o:Obj) (n:Nat),v= .ref t∧h.get? t=ae o∧o.cls= .type "tuple" ∧o.data= .seq #[.ref p.2, .bool true] n)∧ ∀p∈ps,H p.2=ae (.tup (p.1.map kV))
 |_,_,_, .nil, .nil=>⟨[],rfl,(λi p v h=>by simp at h),λ_ h=>nomatch h⟩
 |_,_,_, .cons (a:=q) hq hs, .cons hv hvs=>by
  obtain⟨ps,e,h1,h2⟩:=zmH ok hs hvs;obtain⟨t,b,rfl,ht,hb⟩:=hq;refine⟨(q,b)::ps,by rw[aB,e],λi p v hp hv'=>?_,λp hp=>?_⟩
  ·cases i with
   |zero=>
    simp only[fT,bF]at hp hv';subst hp hv';obtain⟨_,its,r,o,g1,g2,n,g3⟩:=(show ObjOk P w H h t (.tup [.ref b, .bl true]) from ok t _ ht);cases r with
    |cons r1 r2=>
     cases r2 with
     |cons r3 r4=>
      cases r4;cases r1;cases r3;exact⟨t,o,n,hv,g1,g2,by simpa using g3⟩
   |succ i=>
    simp only[d5]at hp hv';exact h1 i p v hp hv'
  ·rcases ax.mp hp with rfl |hp
   ·exact hb
   ·exact h2 p hp
theorem zmX (hc:X.calm=true) (hu:X.A.units+2<cLine):CallR X (.type "dict") (λxs H Q=>∃(l:Addr) (vs:List V) (qs:List (List Key)),xs=[.ref l]∧SqL X.K H l vs∧bN (zln H) qs vs∧qs.length≤sizeLine∧ ∀d,H d=none→Q (.ref d) (upd H d (.dT (znx qs)))):=by
 intro pins s σ H xs us Q I r h;obtain⟨l,vs,qs,rfl,hq,hp,hlen,q⟩:=h;obtain⟨u,rfl,rx⟩:=zfN r;cases rx;obtain⟨its,r',pl,hz⟩:=I.list hq;have hd:X.A.in1.handled=none:=I.ok.hd hc;have hl:l<s.heap.objs.size:=by obtain⟨o,n,e,_⟩:=pl;exact aF e
 refine callType_codes (Q₁:=λobj s₁=>obj= .ref s.heap.objs.size∧s₁={ s with heap:=s.heap.push { cls:= .type "dict",data:= .dict #[] } }) F.kt_called_dict (F.kt_typeCall_dict_1 _) F.entry_dict_init (kt_code_dict_new _ ⟨rfl,rfl⟩) ?_;rintro obj s₁ ⟨rfl,rfl⟩;have hT:({ s with heap:=s.heap.push { cls:= .type "dict",data:= .dict #[] } }:ag).TypeIs (.ref s.heap.objs.size) "dict" :=⟨_,bh _ rfl,rfl⟩;refine⟨hT,F.args_dict_init_2 _ _,?_⟩;unfold bX.«dict.__init__»;refine ai ?_;unfold bX.Dict.selfAndRest;refine ai (wpAny_notOrdered_dict hT ?_);show aj _ _ (pure (s.heap.objs.size,[bz l])) _ _ _;refine aD ?_;show aj _ _ (ja "dict.__init__" s.heap.objs.size (.ref l) [] .none) _ _ _;unfold ja;obtain⟨ol,nl,hol,hcl,hdl,hnl⟩:=pl;have hol1:=aH { cls:= .type "dict",data:= .dict #[] } hol;obtain⟨ps,eqs,hps,hks⟩:=zmH I.hok hp r';have hplen:ps.length=its.toArray.size:=by
  have h1:=congrArg eE eqs;have h2:=eK hp;have h3:=r'.length;rw[ap]at h1;rw[aQ];omega
 refine ai (eI (T:= "list") ⟨ol,hol1,hcl⟩ ?_);dsimp only;rw[if_pos (by decide)];refine ai (zhE hol1 hcl hnl hdl zom (by decide +kernel) hd λh1 tk1 kp1=>?_);rw[if_pos (show(none:Option Value).isNone=true from rfl)];refine ai (dF ?_);have hl1:h1.IsList l its.toArray:=⟨ol,kp1 _ _ hol1,hcl,nl,hnl⟩;refine ai (dc hl1 ?_);refine aD ⟨plainId_quiet zeR _,?_⟩;have hd1:h1.get? s.heap.objs.size=ae { cls:= .type "dict",data:= .dict #[] }:=kp1 _ _ (bh _ rfl);have hdlt:=aF hd1;have hI0:s.heap.get? h1.objs.size=none:=by
  cases z:s.heap.get? h1.objs.size with
  |none=>rfl
  |some ob=>exact absurd (aF (kp1 _ _ (aH _ z))) (bZ _)
 have hd0:s.heap.get? s.heap.objs.size=none:=by
  cases z:s.heap.get? s.heap.objs.size with
  |none=>rfl
  |some ob=>exact absurd (aF z) (bZ _)
 refine zmS (A:=X.A.in1) (I:=h1.objs.size) (l:=l) (d:=s.heap.objs.size) (items:=its.toArray) ?_ hd (bt (Nat.lt_trans hl hdlt)) (bt hdlt) (cE hl) s.heap hd0 hI0 ps hplen (λi p v h1 h2=>hps i p v h1 (by simpa using h2)) (λp hp=>zpg I.hok (hks p hp)) _ 0 _ [] rfl (aX _) ?_ ?_ ?_ ?_ ?_ λh' tk' old' hd'=>?_
 ·exact i5 (A:=X.A.in1) (show X.A.in1.units+1<cLine from by have:X.A.in1.units=X.A.units+1:=rfl;omega)
 ·exact⟨_,bh _ rfl,rfl,rfl⟩
 ·exact hl1.push _
 ·exact λb o e=>aH _ (kp1 _ _ (aH _ e))
 ·refine⟨_, #[],0,aH _ hd1,?_,rfl,rfl,(λx hx=>nomatch hx),List.nodup_nil⟩
  first |exact⟨rfl,rfl⟩ |exact rfl |exact .inl rfl | (unfold Obj.ExactDict;simp)
 ·rw[du,←hplen];have h1:=congrArg eE eqs;rw[ap]at h1;omega
 ·rw[c8]at hd';obtain⟨o',es,ep,g1,g2,g3,g4,g5,g6⟩:=hd';have hl0:=zjA qs [];have kt:KT H (znx qs) (zuu [] ps):=by
   have:=KT.fold ps (show KT H [] [] from .nil) hks;rw[eqs]at this;exact this
  refine⟨rfl, .ref s.heap.objs.size,_,I.laid (t':=tk') (o:= .dT (znx qs)) old' (au _) ⟨?_,?_,_,kt.keeps λb ys eb=>?_,o',es,ep,g1,g2,g3,g4,g6⟩,rfl,q _ (I.hok.fresh (au _))⟩
  ·simp only[du,ca]at hl0;exact bC hl0 hlen
  ·have:=I.big;exact beq_eq_false_iff_ne.mpr (cE this)
  ·rw[zax (zar eb (I.hok.fresh (au _)))];exact eb
noncomputable def zee:List W→Option (List (List Int))
 | []=>ae []
 | .tup [k, .bl true]::ws=>match zpa k,zee ws with
  |some q,ae qs=>ae (q::qs)
  |_,_=>none
 |_=>none
noncomputable def zgz (qs:List (List Int)):List (List Int×W):=qs.foldl (λkvs k=>zuj kvs k (.bl true)) []
noncomputable def zju:WF:=λws S Q=>match zee ws with
 |some qs=>qs.length≤1000000∧ ∀a,S a=none→Q (.ref a) (put S a (.dct (zgz qs)))
 |none=>False
theorem zjv{K:ah}{H:Hp}:∀{ws:List W}{vs:List V}{qs:List (List Int)},Reps K H ws vs→zee ws=ae qs→bN (zln H) (qs.map λq=>q.map Sum.inl) vs
 | [],_,_, .nil,e=>by
  simp only[zee,bF]at e;subst e;exact .nil
 |w::ws,_,qs, .cons r rs,e=>by
  cases w with
  |tup us=>
   rcases us with _ |⟨k,_ |⟨b,_ |⟨x,us⟩⟩⟩
   ·simp [zee]at e
   ·simp [zee]at e
   ·cases b with
    |bl b=>
     cases b with
     |true=>
      simp only[zee]at e;cases e1:zpa k with
      |none=>rw[e1]at e;simp at e
      |some q=>
       cases e2:zee ws with
       |none=>rw[e1,e2]at e;simp at e
       |some qs'=>
        rw[e1,e2]at e;simp only[bF]at e;subst e;cases r with
        | @tup t vs' _ ft hs=>
         cases hs with
         |cons r1 r2=>
          cases r2 with
          |cons r3 r4=>
           cases r4;cases r3;obtain⟨b,rfl,eb⟩:=zlP r1 e1;exact .cons ⟨t,b,rfl,ft,eb⟩ (zjv rs e2)
     |false=>simp [zee]at e
    |_=>simp [zee]at e
   ·cases b<;>simp [zee]at e
  |_=>simp [zee]at e
theorem zjw{K:ah}{H:Hp}:∀(qs:List (List Int)) {kvs:List (List Int×W)}{ps:List (List Key×V)},RepD K H kvs ps→RepD K H (qs.foldl (λkvs k=>zuj kvs k (.bl true)) kvs) ((qs.map λq=>q.map Sum.inl).foldl (λkvs q=>znY kvs q (.bl true)) ps)
 | [],_,_,r=>r
 |q::qs,_,_,r=>by
  rw[aB,dZ,dZ];exact zjw qs (r.put q (.bl true))
theorem zmZ{K:ah}:zmY K (λxs H Q=>∃(l:Addr) (vs:List V) (qs:List (List Key)),xs=[.ref l]∧SqL K H l vs∧bN (zln H) qs vs∧qs.length≤sizeLine∧ ∀d,H d=none→Q (.ref d) (upd H d (.dT (znx qs)))) zju:=λH a vs ws S Q QW ea na r hS h hQ=>by
 unfold zju at h;split at h
 ·rename_i qs e;have hp:=zjv r e;refine⟨a,vs,_,rfl, .of ea,hp,?_,λd hd=>?_⟩
  ·rw[ap,dE];omega
  ·have rd:RepD K H (zgz qs) (znx (qs.map λq=>q.map Sum.inl)):=zjw qs (show RepD K H [] [] from .nil);have x:Ext H S (upd H d (.dT (znx (qs.map λq=>q.map Sum.inl)))) (put S d (.dct (zgz qs))):= .newS hd;refine hQ (.ref d) (put S d (.dct (zgz qs))) (.ref d) _ x (.ref d) (λb o q=>?_) (h.2 d (hS.free hd));by_cases hb:b=d
   ·subst hb;rw[zag]at q;cases q;exact⟨_,zaF,Paired.mapP rd λ_ _ z=>⟨z.1,z.2.ext x⟩⟩
   ·rw[zaI hb]at q;exact hS.new hd b o q
 ·exact h.elim
theorem zsd{k:Nat}(hr:Room k X.A) (hg:Gl X "dict") (hm:X.mg "dict" =none) (ha:JL X e tl)
  (he:am [e] X.env=(false,aq e X.env)::am [] X.env:=by rfl) (hpl:(aO pos (am [] X.env)).any (·.1)=false:=by rfl) (hcl:X.calm=true:=by rfl):JE X (.Call (.Name "dict" p) [e] [] pos) (wBL zju tl):=λE hE=>
 zsE (zmX hcl (by have:=hr.units;omega)) zmZ hg hm PyProof.Rows.boot_dict ha (by decide) (by decide) he hpl E hE
theorem _root_.pz{a b:Prop}(h:a→b) (g:b→a):a=b:=propext ⟨h,g⟩
theorem zrk{ws:List W}{S:Sto}{Q:WK}:(zju ws S Q)=(match zee ws with
 |some qs=>qs.length≤1000000∧ ∀a,S a=none→Q (.ref a) (put S a (.dct (zgz qs)))
 |none=>False):=pz id id
theorem zjg:∀ps:List (List Int),zee (ps.map λp=>W.tup [.tup (p.map W.int), .bl true])=ae ps
 | []=>rfl
 |p::ps=>by
  have e:zpa (.tup (p.map W.int))=ae p:=by
   show zbq (p.map W.int)=ae p
   induction p with
   |nil=>rfl
   |cons i p ih=>rw[aB,zbq,ih];rfl
  rw[aB,zee,e,zjg ps]
theorem zrq (kvs:List (List Int×W)) (q k:List Int) (v:W):(zfp (zuj kvs q v) k).isSome=(decide (k=q) || (zfp kvs k).isSome):=by
 have e:∀kvs:List (List Int×W),(zfp kvs k).isSome=kvs.any λkv=>decide (kv.1=k):=λkvs=>by
  unfold zfp;rw[gN]
  induction kvs with
  |nil=>rfl
  |cons a kvs ih=>
   rw[b7,eD];cases decide (a.1=k) with
   |true=>rfl
   |false=>simpa using ih
 rw[e,e];unfold zuj;split
 ·rename_i h;have:(kvs.map λkv=>if kv.1=q then(kv.1,v) else kv).any (λkv=>decide (kv.1=k))=kvs.any λkv=>decide (kv.1=k):=by
   rw[List.any_map];congr 1;funext kv;simp only[iI];split<;>rfl
  rw[this];by_cases hk:k=q
  ·subst hk;rw[h];simp
  ·rw[decide_eq_false hk,j3]
 ·rw[List.any_append];simp only[eD,List.any_nil,j_];rw[Bool.or_comm];congr 1;apply decide_eq_decide.mpr;exact eq_comm
theorem zlm:∀(qs:List (List Int)) (kvs:List (List Int×W)) (k:List Int),(zfp (qs.foldl (λkvs k=>zuj kvs k (.bl true)) kvs) k).isSome=(decide (k∈qs) || (zfp kvs k).isSome)
 | [],kvs,k=>by simp
 |q::qs,kvs,k=>by
  rw[dZ,zlm qs,zrq,←Bool.or_assoc];congr 1;rw[eJ];simp only[i6,decide_eq_true_eq,ax];exact or_comm
theorem zil (qs:List (List Int)) (k:List Int):(zfp (zgz qs) k).isSome=decide (k∈qs):=by
 unfold zgz;rw[zlm];simp [zfp]
end
end L2
end
section
namespace L2
open PySem PySem.Spec PyProof.Rows PySem.W PySem.Calls Builtin Builtin.ObjectAttr Builtin.Getset_descriptor
structure XcOk (K:Frag) (C:Addr):Prop where
  ga:findIn K (.ref C) "__getattribute__" =ae (ae (.builtin "BaseException.__getattribute__"))
  gt:findIn K (.ref C) "__getattr__" =ae none
  cl:findIn K (.ref C) "__class__" =ae (ae (.builtin "object.__class__"))
  ob:mroIn K C (.type "object")=ae true
  be:mroIn K C (.type "BaseException")=ae true
noncomputable abbrev bmV:List Value:=[.type "ValueError", .type "Exception", .type "BaseException", .type "object"]
structure XcIn (K:ah) (x:Str) (C:Addr):Prop where
  nm:aU K aL x=ae (ae (.ref C))
  ex:dL K C bmV "ValueError.__new__" =true
  xc:XcOk K C
theorem XcIn.own{K:ah}{x:Str}{C:Addr}{h:Heap}{mg:Str→Option Value}(O:XcIn K x C) (X:K.In h) (G:h.Ns aL mg):OwnCls x C bmV "ValueError.__new__" mg h:=by
 have q:=O.ex;refine⟨bi X G O.nm,?_⟩;unfold dL at q;split at q
 ·rename_i dd cd sl ho;split at q
  ·rename_i C' bm k0 k1 k2 k3 n k5 hm hs;simp only[cc,beq_iff_eq,Bool.not_eq_true']at q;obtain⟨⟨⟨⟨⟨rfl,hnn⟩,hdel⟩,ht⟩,hok⟩,hni⟩:=q;obtain⟨nm,bs,mro,ns,qn,hd,sn,sub,ab,col,del⟩:=cd;dsimp only at hm hdel hok hni;subst hm hdel;have hsl:sl= #[k0,k1,k2,k3,ae (.builtin n),k5]:=by
    obtain⟨l⟩:=sl;simp only at hs;rw[hs]
   subst hsl;subst hnn;exact⟨bm,ns,nm,qn,bs,hd,sn,sub,ab,col,dd,k0,k1,k2,k3,k5,_,X _ _ ho, .of_isNs (PySem.W.isNs_of_in X hok),PySem.W.nsMap_none_of_in X hok hni,PySem.W.tail_of_in X ht⟩
  ·cases q
 ·cases q
noncomputable def zhi (x:Str) (t:WA):WS:=λE _ σ S=>t E σ S λws S1=>ws.length≤sizeLine∧E x σ S1
theorem zfE{X:Cx}{x:Str}{C:Addr}{e:Expr}{es:List Expr}{t:WA}{np cpos pos:aA}(O:XcIn X.K x C) (hg:Gl X x) (hm:X.mg x=ae (.ref C)) (ha:JA X (e::es) t) (hcl:X.calm=true:=by rfl) (hdb:(x == ("__debug__" :Str))=false:=by decide)
  (he:am (e::es) X.env=(false,aq e X.env)::am es X.env:=by rfl) (hpl:(aO cpos (am es X.env)).any (·.1)=false:=by rfl) :
  JS X (.Raise (ae (.Call (.Name x np) (e::es) [] cpos)) none pos) (zhi x t):=λE hE pins s σ H D I z=>by
 obtain⟨σW,S,DW,hσ,hS,ht,hD⟩:=z;have OC:=(O.own I.mod.kin I.mod.glob).keeps I.bk;obtain⟨tl,N,nm,q,bs,hdct,sn,sub,ab,col,dd,k0,k1,k2,k3,k5,mN,hC,hN,hni,T⟩:=(O.own I.mod.kin I.mod.glob).obj;refine wpAny_Raise_call_subT (C:=C) (nm:=nm) (q:=q) (N:=N) (bs:=bs) (bm:=tl) (hdct:=hdct) (sn:=sn) (sub:=sub) (ab:=ab) (col:=col) (dd:=dd) (k0:=k0) (k1:=k1) (k2:=k2) (k3:=k3) (k5:=k5)
  iP (mN:=mN) (T.hasType iP.hasBase) (I.ok.hd hcl) (by rw[he];show(false || (aO cpos (am es X.env)).any (·.1))=false;rw[hpl];rfl) hni (zkW I hg hm ⟨rfl,?_⟩ hdb)
 have go:=ha E hE cpos pins s σ H (λvs H1=>∃ws S1,Reps X.K H1 ws vs∧RpSt X.K H1 σW σ∧RepS X.K H1 S1∧ws.length≤sizeLine∧E x σW S1) I ⟨σW,S,_,hσ,hS,ht,λws S1 vs H1 e1 r1 hS1 h1=>⟨ws,S1,r1,hσ.ext e1,hS1,h1.1,h1.2⟩⟩;rw[he]at go⊢;refine iZ (ck go (λus s2 ⟨vs,H1,I1,r,ws,S1,r1,hσ1,hS1,hl,h1⟩=>?_) λ_ _ y=>y);refine⟨rfl,by rw[←r.length,←r1.length];exact hl,I1.bk _ _ hC,hN.keeps I1.bk,T.keeps I1.bk,λh' a me=>?_⟩
 exact hE.near pins σ H1 s2 σW x C a S1 h' us I1 hσ1 O.nm me hS1 h1
theorem zmm:∀{ns:List Int}{vs:List Value},Vals (ns.map V.int) vs→dQ vs ns
 | [],_,h=>by
  cases h;exact .nil
 |n::ns,_,h=>by
  cases h with
  |cons a b=>
   obtain⟨t,rfl⟩:=a;exact .cons n t (zmm b)
section
variable {X:Cx}{o e:Expr}{es:List Expr}{to:WE}{t:WA}{apos cpos:aA}
def ztj (K:ah):V→List V→Hp→VK→Prop:=λx vs H Q=>∃(p:Addr) (ns:List Int) (k:Int),x= .ref p∧vs=[.int k]∧SqL K H p (ns.map V.int)∧Q (.int (ns.count k:Nat)) H
theorem zqD:MtR X "list.count" (ztj X.K):=by
 intro pins s σ H x vs v us Q I rx rv h;obtain⟨p,ns,k,rfl,rfl,hq,q⟩:=h;cases rx;obtain⟨u,rfl,ru⟩:=zfN rv;obtain⟨t,rfl⟩:=ru;obtain⟨its,r',pl,hz⟩:=I.list hq;exact count_list_ints pl.isList (zmm r') ⟨.int _,H,I.tok _,⟨_,rfl⟩,q⟩
noncomputable def zlQ:WMf:=λw ws S Q=>match w with
 | .ref a=>zce S a λxs=>match ws with
  | [.int k]=>∃ns,zbq xs=ae ns∧Q (.int (ns.count k:Nat)) S
  |_=>False
 |_=>False
theorem zpH{K:ah}:MtW K (ztj K) zlQ:=λH x w vs ws S Q QW r rs hS h hQ=>by
 cases r with
 |ref a=>
  obtain⟨xs,ea,h⟩:=zaY h;obtain⟨us,f,hs⟩:=hS a _ ea;split at h
  ·obtain⟨ns,en,h⟩:=h;cases rs with
   |cons r1 r2=>
    cases r1;cases r2;have:=zcU hs en;subst this;exact⟨a,ns,_,rfl,rfl, .of f,hQ _ S _ H .refl (.int _) hS h⟩
  ·exact h.elim
 |_=>exact h.elim
theorem zsi (ho:JE X o to) (ha:JA X (e::es) t)
  (hbase:cM o "count" X.env (aq o X.env)=aq o X.env:=by rfl)
  (hfew:((aO cpos (am (e::es) X.env)).all (λx=> !x.1)&&(dD cpos (dv [] X.env)).all (λx=>x.1.isSome)
   &&decide ((e::es).length+([]:List bR).length+(if([]:List bR).isEmpty then 0 else 1)<30))=true:=by rfl)
  (hline:(apos.endLine == cpos.line)=true:=by rfl) (hs:am (e::es) X.env=(false,aq e X.env)::am es X.env:=by rfl) (hplain:(aO cpos (am es X.env)).any (·.1)=false:=by rfl) :
  JE X (.Call (.Attribute o "count" apos) (e::es) [] cpos) (wM rvL zlQ to t):=zzO gK PySem.F.slot_list_count PySem.F.type_list_count zqr zqD zpH ho ha hbase hfew hline hs hplain
end
section
variable {S:Sto}{Q:WK}{a:Addr}{k:Int}
theorem zuR:(zlQ (.ref a) [.int k] S Q)=(zce S a λxs=>∃ns,zbq xs=ae ns∧Q (.int (ns.count k:Nat)) S):=pz id id
end
theorem zpo{f:Nat→Int}:∀(k i:Nat),i≤k→f i≤f (dJ (λi j=>decide (f j<f i)) k)
 |0,i,h=>by
  have:i=0:=by omega
  subst this;exact fQ _
 |k+1,i,h=>by
  rw[dJ];have ih:=λj hj=>zpo (f:=f) k j hj;by_cases c:f (dJ (λi j=>decide (f j<f i)) k)<f (k+1)
  ·rw[if_pos (decide_eq_true c)];by_cases e:i=k+1
   ·rw[e];exact fQ _
   ·have:=ih i (by omega);omega
  ·rw[if_neg (by rw[decide_eq_true_eq];exact c)];by_cases e:i=k+1
   ·rw[e];omega
   ·exact ih i (by omega)
theorem znL{f:Nat→Int}:∀(k i:Nat),i≤k→f (dJ (λi j=>decide (f i<f j)) k)≤f i
 |0,i,h=>by
  have:i=0:=by omega
  subst this;exact fQ _
 |k+1,i,h=>by
  rw[dJ];have ih:=λj hj=>znL (f:=f) k j hj;by_cases c:f (k+1)<f (dJ (λi j=>decide (f i<f j)) k)
  ·rw[if_pos (decide_eq_true c)];by_cases e:i=k+1
   ·rw[e];exact fQ _
   ·have:=ih i (by omega);omega
  ·rw[if_neg (by rw[decide_eq_true_eq];exact c)];by_cases e:i=k+1
   ·rw[e];omega
   ·exact ih i (by omega)
section
variable {X:Cx}{e:Expr}{es:List Expr}{t:WA}{p pos:aA}{a b:Expr}{ta tb:WE}
theorem zwA (ha:JE X a ta) (hb:JE X b tb):JE X (.BinOp a .LShift b pos) (wOp (zdp ztE λi j=> .int (i*2 ^ j.toNat)) ta tb):=zkn zxx zfX ha hb
theorem zmj{ns:List Int}{its:List Value}(r':Vals (ns.map V.int) its):∀(i:Nat) (v:Value),its.toArray[i]? =ae v→i<ns.length∧ ∃t,v= .int (ns.getD i 0) t:=λi v e=>by
 have hlen:ns.length=its.length:=by have:=r'.length;rw[ap]at this;exact this
 have e':its[i]? =ae v:=by simpa using e
 have hi:i<ns.length:=by rw[hlen];exact(bG.mp e').1
 obtain⟨u,hu,ru⟩:=r'.get (i:=i) (x:= .int (ns.getD i 0)) (by rw[bo,aJ hi,aY,aJ hi];rfl);rw[e']at hu;cases hu;exact⟨hi,ru⟩
theorem zlL{ns:List Int}{i:Nat}(h:i<ns.length):ns.getD i 0∈ns:=by
 rw[aY,aJ h];exact c5 ..
def zwC (K:ah):List V→Hp→VK→Prop:=λxs H Q=>∃(p:Addr) (ns:List Int),xs=[.ref p]∧SqL K H p (ns.map V.int)∧ns≠ []∧ ∀m,m∈ns→(∀k∈ns,k≤m)→Q (.int m) H
def zvS (K:ah):List V→Hp→VK→Prop:=λxs H Q=>∃(p:Addr) (ns:List Int),xs=[.ref p]∧SqL K H p (ns.map V.int)∧ns≠ []∧ ∀m,m∈ns→(∀k∈ns,m≤k)→Q (.int m) H
theorem zoA (hc:X.calm=true):CallR X (.builtin "max") (zwC X.K):=by
 intro pins s σ H xs us Q I r h;obtain⟨p,ns,rfl,hq,hne,q⟩:=h;obtain⟨u,rfl,rx⟩:=zfN r;cases rx;obtain⟨its,r',pl,hz⟩:=I.list hq;have hlen:ns.length=its.length:=by have:=r'.length;rw[ap]at this;exact this
 have hpos:0<ns.length:=gg.mpr hne;have hp:p<s.heap.objs.size:=by obtain⟨o,n,e,_⟩:=pl;exact aF e
 have hd:X.A.in1.handled=none:=I.ok.hd hc;have get:=zmj r';refine call_max_walk (dc pl.isList ?_);refine⟨s.heap.objs.size,_,_,_,_,_,λi j=>decide (ns.getD j 0<ns.getD i 0),rfl,eN hd _ p (bt hp) its.toArray,⟨⟨_,bh _ rfl,rfl,rfl⟩,pl.isList.push _⟩,?_,by rw[aQ];omega,?_,λv h' tk hP hk=>?_⟩
 ·intro b hb;have hsz:∀o:Obj,(s.heap.push o).objs.size=s.heap.objs.size+1:=λo=>b9 ..;simp only[ax,a_,or_false]at hb;show b<(s.heap.push _).objs.size;rw[hsz];rcases hb with rfl |rfl
  ·exact i' _
  ·exact gu hp
 ·intro i j vi vj s0 Q0 E0 hi hj hQ0;obtain⟨_,ti,rfl⟩:=get i vi hi;obtain⟨_,tj,rfl⟩:=get j vj hj;exact(PyProof.Rows.gt_int hQ0:aj _ _ (bf .Gt _ _) _ _ _)
 ·obtain⟨hlt,t,rfl⟩:=get _ _ hP;have I1:Inv X pins σ H { s with heap:=h',toks:=tk }:=I.kept λb o e=>hk b o (λz=>by
   have z':b=s.heap.objs.size:=by simpa using z
   rw[z']at e;exact absurd (aF e) (bZ _)) (aH _ e)
  refine⟨.int _,H,I1,⟨t,rfl⟩,q _ (zlL hlt) λk hk'=>?_⟩;obtain⟨i,hi,e⟩:=ic hk';have:=zpo (f:=λi=>ns.getD i 0) (its.toArray.size - 1) i (by rw[aQ];omega);have e2:ns.getD i 0=k:=by rw[aY,aJ hi,←e];rfl
  rw[←e2];exact this
theorem zpu (hc:X.calm=true):CallR X (.builtin "min") (zvS X.K):=by
 intro pins s σ H xs us Q I r h;obtain⟨p,ns,rfl,hq,hne,q⟩:=h;obtain⟨u,rfl,rx⟩:=zfN r;cases rx;obtain⟨its,r',pl,hz⟩:=I.list hq;have hlen:ns.length=its.length:=by have:=r'.length;rw[ap]at this;exact this
 have hpos:0<ns.length:=gg.mpr hne;have hp:p<s.heap.objs.size:=by obtain⟨o,n,e,_⟩:=pl;exact aF e
 have hd:X.A.in1.handled=none:=I.ok.hd hc;have get:=zmj r';refine call_min_walk (dc pl.isList ?_);refine⟨s.heap.objs.size,_,_,_,_,_,λi j=>decide (ns.getD i 0<ns.getD j 0),rfl,eN hd _ p (bt hp) its.toArray,⟨⟨_,bh _ rfl,rfl,rfl⟩,pl.isList.push _⟩,?_,by rw[aQ];omega,?_,λv h' tk hP hk=>?_⟩
 ·intro b hb;have hsz:∀o:Obj,(s.heap.push o).objs.size=s.heap.objs.size+1:=λo=>b9 ..;simp only[ax,a_,or_false]at hb;show b<(s.heap.push _).objs.size;rw[hsz];rcases hb with rfl |rfl
  ·exact i' _
  ·exact gu hp
 ·intro i j vi vj s0 Q0 E0 hi hj hQ0;obtain⟨_,ti,rfl⟩:=get i vi hi;obtain⟨_,tj,rfl⟩:=get j vj hj;exact(PyProof.Rows.lt_int hQ0:aj _ _ (bf .Lt _ _) _ _ _)
 ·obtain⟨hlt,t,rfl⟩:=get _ _ hP;have I1:Inv X pins σ H { s with heap:=h',toks:=tk }:=I.kept λb o e=>hk b o (λz=>by
   have z':b=s.heap.objs.size:=by simpa using z
   rw[z']at e;exact absurd (aF e) (bZ _)) (aH _ e)
  refine⟨.int _,H,I1,⟨t,rfl⟩,q _ (zlL hlt) λk hk'=>?_⟩;obtain⟨i,hi,e⟩:=ic hk';have:=znL (f:=λi=>ns.getD i 0) (its.toArray.size - 1) i (by rw[aQ];omega);have e2:ns.getD i 0=k:=by rw[aY,aJ hi,←e];rfl
  rw[←e2];exact this
noncomputable def zon:WF:=λws S Q=>match ws with
 | [.ref a]=>zce S a λus=>∃ns,zbq us=ae ns∧ns≠ []∧ ∀m,m∈ns→(∀k∈ns,k≤m)→Q (.int m) S
 |_=>False
noncomputable def zpF:WF:=λws S Q=>match ws with
 | [.ref a]=>zce S a λus=>∃ns,zbq us=ae ns∧ns≠ []∧ ∀m,m∈ns→(∀k∈ns,m≤k)→Q (.int m) S
 |_=>False
theorem znw{K:ah}:zgE K (zwC K) zon:=λH vs ws S Q QW r hS h hQ=>by
 unfold zon at h;split at h
 ·rename_i a;obtain⟨us,ea,ns,en,hne,h⟩:=zaY h;cases r with
  |cons r1 r2=>
   cases r2;cases r1;obtain⟨vs,f,hs⟩:=hS a _ ea;have:=zcU hs en;subst this;exact⟨a,ns,rfl, .of f,hne,λm h1 h2=>hQ _ S _ H .refl (.int _) hS (h m h1 h2)⟩
 ·exact h.elim
theorem znd{K:ah}:zgE K (zvS K) zpF:=λH vs ws S Q QW r hS h hQ=>by
 unfold zpF at h;split at h
 ·rename_i a;obtain⟨us,ea,ns,en,hne,h⟩:=zaY h;cases r with
  |cons r1 r2=>
   cases r2;cases r1;obtain⟨vs,f,hs⟩:=hS a _ ea;have:=zcU hs en;subst this;exact⟨a,ns,rfl, .of f,hne,λm h1 h2=>hQ _ S _ H .refl (.int _) hS (h m h1 h2)⟩
 ·exact h.elim
theorem ztz (hg:Gl X "max") (hm:X.mg "max" =none) (ha:JA X (e::es) t)
  (he:am (e::es) X.env=(false,aq e X.env)::am es X.env:=by rfl) (hpl:(aO pos (am es X.env)).any (·.1)=false:=by rfl) (hcl:X.calm=true:=by rfl):JE X (.Call (.Name "max" p) (e::es) [] pos) (wB zon t):=
 zmd (zoA hcl) znw hg hm boot_max ha (by decide) (by decide) he hpl
theorem zud (hg:Gl X "min") (hm:X.mg "min" =none) (ha:JA X (e::es) t)
  (he:am (e::es) X.env=(false,aq e X.env)::am es X.env:=by rfl) (hpl:(aO pos (am es X.env)).any (·.1)=false:=by rfl) (hcl:X.calm=true:=by rfl):JE X (.Call (.Name "min" p) (e::es) [] pos) (wB zpF t):=
 zmd (zpu hcl) znd hg hm boot_min ha (by decide) (by decide) he hpl
end
section
variable {S:Sto}{Q:WK}{a:Addr}
theorem zwa:(zon [.ref a] S Q)=(zce S a λus=>∃ns,zbq us=ae ns∧ns≠ []∧ ∀m,m∈ns→(∀k∈ns,k≤m)→Q (.int m) S):=pz id id
theorem zyi:(zpF [.ref a] S Q)=(zce S a λus=>∃ns,zbq us=ae ns∧ns≠ []∧ ∀m,m∈ns→(∀k∈ns,m≤k)→Q (.int m) S):=pz id id
end
inductive Tr where
  |bl (n:Int)
  |nd (s:Str) (ts:List Tr)
noncomputable def Tr.kids:Tr→List Tr
 | .bl _=>[]
 | .nd _ ts=>ts
mutual
noncomputable def Tr.weight:Tr→Nat
 | .bl _=>1
 | .nd _ ts=>1+wts ts
noncomputable def wts:List Tr→Nat
 | []=>0
 |t::ts=>t.weight+wts ts
end
mutual
noncomputable def Tr.depth:Tr→Nat
 | .bl _=>1
 | .nd _ ts=>1+dts ts
noncomputable def dts:List Tr→Nat
 | []=>0
 |t::ts=>max t.depth (dts ts)
end
theorem zpM:wts []=0:=by unfold wts;rfl
theorem zdU (t:Tr) (ts:List Tr):wts (t::ts)=t.weight+wts ts:=by
 conv=>lhs;unfold wts
theorem zea:∀(ts us:List Tr),wts (ts++us)=wts ts+wts us
 | [],us=>by
  show wts us=wts []+wts us;rw[zpM];omega
 |t::ts,us=>by
  show wts (t::(ts++us))=_;rw[zdU,zdU,zea ts us];omega
theorem zkG:dts []=0:=by unfold dts;rfl
theorem zeU (t:Tr) (ts:List Tr):dts (t::ts)=max t.depth (dts ts):=by
 conv=>lhs;unfold dts
theorem zdz (t:Tr):t.weight=1+wts t.kids:=by
 cases t with
 |bl n=>
  show Tr.weight (.bl n)=1+wts [];unfold Tr.weight wts;rfl
 |nd s ts=>
  show Tr.weight (.nd s ts)=1+wts ts
  conv=>lhs;unfold Tr.weight
theorem zdZ (t:Tr):t.depth=1+dts t.kids:=by
 cases t with
 |bl n=>
  show Tr.depth (.bl n)=1+dts [];unfold Tr.depth dts;rfl
 |nd s ts=>
  show Tr.depth (.nd s ts)=1+dts ts
  conv=>lhs;unfold Tr.depth
theorem zbH (t:Tr):1≤t.weight:=by rw[zdz];omega
theorem zaX (t:Tr):1≤t.depth:=by rw[zdZ];omega
theorem zgR:∀(ts us:List Tr),dts (ts++us)=max (dts ts) (dts us)
 | [],us=>by
  show dts us=max (dts []) (dts us);rw[zkG];omega
 |t::ts,us=>by
  show dts (t::(ts++us))=_;rw[zeU,zeU,zgR ts us];exact(i7 _ _ _).symm
theorem zbg:∀(ts:List Tr),ts.length≤wts ts
 | []=>aX _
 |t::ts=>by
  have:=zbg ts;have:=zbH t;rw[zdU,aW];omega
theorem zaL{t:Tr}:∀{ts:List Tr},t∈ts→t.weight≤wts ts
 | [],h=>by cases h
 |u::ts,h=>by
  rw[zdU];rcases ax.mp h with e |h
  ·rw[e];omega
  ·have:=zaL h;omega
theorem zhA:∀{ts:List Tr},ts≠ []→dts ts=1+dts (ts.flatMap Tr.kids)
 | [],h=>absurd rfl h
 | [t],_=>by
  rw[dU,fD,bv,zeU,zkG,zdZ];omega
 |t::u::r,_=>by
  have ih:=zhA (ts:=u::r) (by simp);have e:(t::u::r).flatMap Tr.kids=t.kids++(u::r).flatMap Tr.kids:=dU ..;rw[zeU,ih,e,zgR,zdZ];omega
theorem zhX:∀(ts:List Tr),wts (ts.flatMap Tr.kids)+ts.length=wts ts
 | []=>by rw[fD,zpM];rfl
 |t::ts=>by
  have ih:=zhX ts;rw[dU,zea,zdU,aW,zdz];omega
mutual
theorem zdM:∀t:Tr,t.depth≤t.weight
 | .bl n=>by unfold Tr.depth Tr.weight;exact au _
 | .nd s ts=>by
  have:=zgL ts;rw[zdZ,zdz];show 1+dts ts≤1+wts ts;omega
theorem zgL:∀ts:List Tr,dts ts≤wts ts
 | []=>by rw[zkG];exact aX _
 |t::ts=>by
  have:=zdM t;have:=zgL ts;rw[zeU,zdU];omega
end
mutual
noncomputable def enc:Tr→W
 | .bl n=> .int n
 | .nd s ts=> .tup (.str s::encs ts)
noncomputable def encs:List Tr→List W
 | []=>[]
 |t::ts=>enc t::encs ts
end
theorem zaE:∀ts:List Tr,encs ts=ts.map enc
 | []=>by simp [encs]
 |t::ts=>by simp [encs,zaE ts]
theorem zaP (ts:List Tr):(encs ts).length=ts.length:=by rw[zaE,ap]
noncomputable def zbJ (p:List Int):W:= .tup (p.map W.int)
theorem zjX:zbV "int" "int" =true:=by decide +kernel
theorem zjB:zbV "int" "bool" =false:=by decide +kernel
theorem zkg:zbV "int" "str" =false:=by decide +kernel
theorem zhU:zbV "int" "tuple" =false:=by decide +kernel
theorem zjD:zbV "int" "list" =false:=by decide +kernel
theorem zjq:zbV "bool" "int" =true:=by decide +kernel
theorem zhI:zbV "bool" "bool" =true:=by decide +kernel
theorem zjr:zbV "bool" "str" =false:=by decide +kernel
theorem zgD:zbV "bool" "tuple" =false:=by decide +kernel
theorem zhV:zbV "bool" "list" =false:=by decide +kernel
theorem zkp:zbV "str" "int" =false:=by decide +kernel
theorem ziW:zbV "str" "bool" =false:=by decide +kernel
theorem zkP:zbV "str" "str" =true:=by decide +kernel
theorem zhK:zbV "str" "tuple" =false:=by decide +kernel
theorem zjm:zbV "str" "list" =false:=by decide +kernel
theorem zhq:zbV "tuple" "int" =false:=by decide +kernel
theorem zgy:zbV "tuple" "bool" =false:=by decide +kernel
theorem zhZ:zbV "tuple" "str" =false:=by decide +kernel
theorem sub_tuple_tuple:zbV "tuple" "tuple" =true:=by decide +kernel
theorem sub_tuple_list:zbV "tuple" "list" =false:=by decide +kernel
theorem ziP:zbV "list" "int" =false:=by decide +kernel
theorem zhB:zbV "list" "bool" =false:=by decide +kernel
theorem ziV:zbV "list" "str" =false:=by decide +kernel
theorem sub_list_tuple:zbV "list" "tuple" =false:=by decide +kernel
theorem sub_list_list:zbV "list" "list" =true:=by decide +kernel
section
variable {α:Type}{x:α}{xs:List α}
theorem zlO (n:Nat):zdE xs (ae (n:Int)) none=xs.drop n:=by
 unfold zdE;rw[HT.sIx_nat,HT.sIx_none];by_cases h:n≤xs.length
 ·rw[eV h,cI (by rw[cG];omega)]
 ·rw[fx (by omega),di (au _),di (by omega),gV]
theorem zmr (n:Nat):zdE xs none (ae (n:Int))=xs.take n:=by
 unfold zdE;rw[HT.sIx_nat,HT.sIx_none,c8,eC];by_cases h:n≤xs.length
 ·rw[eV h]
 ·rw[fx (by omega),gD,cI (by omega)]
theorem ztI (n m:Nat):zdE xs (ae (n:Int)) (ae (m:Int))=(xs.drop n).take (m - n):=by
 unfold zdE;rw[HT.sIx_nat,HT.sIx_nat];by_cases h:n≤xs.length
 ·rw[eV h];by_cases h2:m≤xs.length
  ·rw[eV h2]
  ·rw[fx (by omega),cI (by rw[cG];omega),cI (by rw[cG];omega)]
 ·rw[fx (show xs.length≤n by omega),di (au _),di (show xs.length≤n by omega),gV,gV]
theorem zvf:zdE (x::xs) (ae 1) none=xs:=by rw[show(1:Int)=((1:Nat):Int) from rfl,zlO];rfl
theorem zpP{n d k:Nat}(h:0<k):HT.sIx n d (ae (-(k:Int)))=n - k:=by
 show(if(-(k:Int))<0 then(-(k:Int)+(n:Int)).toNat else min (-(k:Int)).toNat n)=n - k;rw[if_pos (by omega)];omega
theorem zkB (k:Nat) (h:0<k):zdE xs none (ae (-(k:Int)))=xs.take (xs.length - k):=by
 unfold zdE;rw[zpP h,HT.sIx_none,c8,eC]
theorem zpj (k:Nat) (h:0<k):zdE xs (ae (-(k:Int))) none=xs.drop (xs.length - k):=by
 unfold zdE;rw[zpP h,HT.sIx_none,cI (by rw[cG];omega)]
theorem zbZ{n:Nat}:atI xs (n:Int)=xs[n]? :=by
 unfold atI ixN;rw[if_pos (by omega)];by_cases h:n<xs.length
 ·rw[if_pos (by omega)];simp
 ·rw[if_neg (by omega)];simp;omega
theorem zhn:atI (x::xs) 0=ae x:=zbZ (n:=0)
end
section
variable {S S':Sto}{a b:Addr}{o:Ob}{Q:List W→Prop}{ws:List W}
theorem zic{u:Ob}(h:b≠a):put (put S a o) b u=put (put S b u) a o:=by
 funext c;unfold put;by_cases h1:c=b
 ·rw[if_pos h1,if_pos h1,if_neg (by rw[h1];exact h)]
 ·rw[if_neg h1,if_neg h1]
theorem zlx{u o':Ob}(h:b≠a):put (put (put S a o) b u) a o'=put (put S a o') b u:=by rw[zic h,zaM,zic h]
theorem zeC:zce (put S a (.lst ws)) a Q=Q ws:=zal zag
theorem zct (h:put S a o b=none):S b=none∧b≠a:=by
 have hb:b≠a:=by rintro rfl;rw[zag]at h;cases h
 rw[zaI hb]at h;exact⟨h,hb⟩
theorem zqX{u:Ob}(h:S a=ae u) (n:S b=none):a≠b:=by rintro rfl;rw[h]at n;cases n
theorem Sub.put (h:Sub S S') (n:S a=none):Sub S (L2.put S' a o):=λb u e=>by rw[zaI (zqX e n)];exact h b u e
theorem Sub.put2{u:Ob}(h:Sub S S'):Sub (L2.put S a u) (L2.put S' a u):=λb w e=>by
 by_cases hb:b=a
 ·subst hb;rw[zag]at e⊢;exact e
 ·rw[zaI hb]at e⊢;exact h b w e
end
theorem ztd (S:Sto) (a b:Int):eqF S 60 (.int a) (.int b)=ae (a == b):=by have h:eqF S 60 (.int a) (.int b)=ae (a == b):=rfl;exact h
theorem zxu (S:Sto) (a b:Str):eqF S 60 (.str a) (.str b)=ae (a == b):=by have h:eqF S 60 (.str a) (.str b)=ae (a == b):=rfl;exact h
theorem zzJ (S:Sto) (a b:Bool):eqF S 60 (.bl a) (.bl b)=ae (a == b):=by have h:eqF S 60 (.bl a) (.bl b)=ae (a == b):=rfl;exact h
theorem zah{n:Nat}(h:n≤16777216):n≤sizeLine:=by rw[dE];exact h
theorem zbF{n:Nat}(h:n<16777216):n<sizeLine:=by rw[dE];exact h
section
variable {S:Sto}{Q:WK}{QB:Bool→Sto→Prop}{QS:List W→(Sto→Prop)→Prop}{QT:String→Prop}
theorem zdB{a:Addr}{o:Ob}(h:S a=ae o):put S a o=S:=by
 funext b;unfold put;split
 ·rename_i e;rw[e,h]
 ·rfl
theorem zlw{b:Bool}:zsU (.bl b) S QB=QB b S:=pz id id
theorem zpw{i:Int}:zsU (.int i) S QB=QB (i != 0) S:=pz id id
theorem zoP{ws:List W}:zsU (.tup ws) S QB=QB (!ws.isEmpty) S:=pz id id
theorem zoG{a:Addr}:zsU (.ref a) S QB=zce S a λws=>QB (!ws.isEmpty) S:=pz id id
theorem znF:zsU .non S QB=QB false S:=pz id id
theorem zjb{ws:List W}:znb (.tup ws) S QS=QS ws λ_=>True:=pz id id
theorem zeD{a:Addr}:znb (.ref a) S QS=zce S a λws=>QS ws λS'=>S' a=ae (.lst ws):=pz id id
theorem ztB{b:Bool}:tyW (.bl b) S QT=QT "bool" :=pz id id
theorem zrb{i:Int}:tyW (.int i) S QT=QT "int" :=pz id id
theorem zrt{i:Str}:tyW (.str i) S QT=QT "str" :=pz id id
theorem zrp{i:List W}:tyW (.tup i) S QT=QT "tuple" :=pz id id
theorem zrY:tyW .non S QT=QT "NoneType" :=pz id id
theorem zrJ{a:Addr}:tyW (.ref a) S QT=zce S a λ_=>QT "list" :=pz id id
theorem zoY{i j:Int}:zdF (.int i) (.int j) S Q=Q (.int (i+j)) S:=pz id id
theorem zoK{i j:Str}:zdF (.str i) (.str j) S Q=(i.length+j.length≤sizeLine∧Q (.str (i++j)) S):=pz id id
theorem zga{i j:List W}:zdF (.tup i) (.tup j) S Q=(i.length+j.length≤sizeLine∧Q (.tup (i++j)) S):=pz id id
theorem zqu{a b:Addr}:zdF (.ref a) (.ref b) S Q=zce S a λxs=>zce S b λys=>xs.length+ys.length≤sizeLine∧ ∀p,S p=none→Q (.ref p) (put S p (.lst (xs++ys))):=pz id id
theorem zyT{C:Int→Int→Prop}{g:Int→Int→W}{i j:Int}:zdp C g (.int i) (.int j) S Q=(C i j∧Q (g i j) S):=pz id id
theorem zwD{g:Int→Int→W}{i j:Int}:zdN g (.int i) (.int j) S Q=Q (g i j) S:=pz id id
theorem zrZ{i j:Int}:oLe (.int i) (.int j) S Q=Q (.bl (decide (i≤j))) S:=pz id id
theorem zrr{i j:Str}:oLe (.str i) (.str j) S Q=Q (.bl (!decide (j.cps.toList<i.cps.toList))) S:=pz id id
theorem zqp{us:List W}:zfq [.tup us] S Q=Q (.int us.length) S:=pz id id
theorem zop{a:Addr}:zfq [.ref a] S Q=zce S a λus=>Q (.int us.length) S:=pz id id
theorem zoJ{ns:List Int}:zfq [.scr ns] S Q=Q (.int ns.length) S:=pz id id
theorem zqt{z:Str}:zfq [.str z] S Q=(z.length≤sizeLine∧Q (.int z.length) S):=pz id id
theorem zrH{ws:List W}{i:Int}:oIx (.tup ws) (.int i) S Q=match atI ws i with
 |some w=>Q w S
 |none=>False:=pz id id
theorem zls{a:Addr}{i:Int}:oIx (.ref a) (.int i) S Q=zce S a λws=>match atI ws i with
 |some w=>Q w S
 |none=>False:=pz id id
theorem zqS{ns:List Int}{i:Int}:oIx (.scr ns) (.int i) S Q=match atI ns i with
 |some n=>Q (.int n) S
 |none=>False:=pz id id
theorem zre{x:Str}{i:Int}:oIx (.str x) (.int i) S Q=(x.length≤sizeLine∧match atI x.cps.toList i with
 |some c=>Q (.str ⟨#[c]⟩) S
 |none=>False):=pz id id
theorem zsk{ws:List W}{lo hi:Option Int}:oSl (.tup ws) lo hi S Q=Q (.tup (zdE ws lo hi)) S:=pz id id
theorem zrc{z:Str}{lo hi:Option Int}:oSl (.str z) lo hi S Q=(z.length≤sizeLine∧Q (.str (cF z lo hi)) S):=pz id id
theorem zrg{a:Addr}{lo hi:Option Int}:oSl (.ref a) lo hi S Q=zce S a λws=>∀p,S p=none→Q (.ref p) (put S p (.lst (zdE ws lo hi))):=pz id id
theorem zsl{ns:List Int}{lo hi:Option Int}:oSl (.scr ns) lo hi S Q= ∀p,S p=none→Q (.ref p) (put S p (.lst ((zdE ns lo hi).map W.int))):=pz id id
theorem zkY{us:List W}:zdo [.tup us] S Q=Q (.tup us) S:=pz id id
theorem zkm{a:Addr}:zdo [.ref a] S Q=zce S a λus=>Q (.tup us) S:=pz id id
theorem zrC{a:Addr}{y:W}:zcg (.ref a) [y] S Q=zce S a λxs=>xs.length<sizeLine∧Q .non (put S a (.lst (xs++[y]))):=pz id id
theorem zyH{a:Addr}:zAH (.ref a) [] S Q=zce S a λxs=>match xs[xs.length - 1]? with
 |some y=>Q y (put S a (.lst xs.dropLast))
 |none=>False:=pz id id
theorem zjE{a:Addr}{ys:List W}:zge (.ref a) [.tup ys] S Q=zce S a λxs=>xs.length+ys.length≤sizeLine∧Q .non (put S a (.lst (xs++ys))):=pz id id
theorem ziI{a b:Addr}:zge (.ref a) [.ref b] S Q=zce S a λxs=>zce S b λys=>xs.length+ys.length≤sizeLine∧Q .non (put S a (.lst (xs++ys))):=pz id id
theorem zoX{a:Addr}{ws:List W}:zrv (.ref a) ws S Q=zce S a λxs=>xs.length+ws.length≤sizeLine∧Q .non (put S a (.lst (xs++ws))):=pz id id
theorem zzo{a:Addr}:rvL (.ref a) S=zce S a λ_=>True:=pz id id
theorem zzk{x:Str}:rvS (.str x) S=True:=pz id id
theorem zrB{b:Bool}:zxm [.bl b] S Q=Q (.int (if b then 1 else 0)) S:=pz id id
theorem zqm{i:Int}:zxm [.int i] S Q=Q (.int i) S:=pz id id
theorem zwE{i j:Int}:zoz [.int i, .int j] S Q=Q (.int (if j > i then j else i)) S:=pz id id
theorem zxq{i j:Int}:zid [.int i, .int j] S Q=Q (.int (if j<i then j else i)) S:=pz id id
theorem zvC{z:Str}{ws:List W}:ziK (.str z) ws S Q=match zfo ws with
 |some ys=>(ys.map (·.length)).sum+ys.length*z.length≤16777216∧Q (.str (cS z ys)) S
 |none=>False:=pz id id
theorem zus{z y:Str}:zxB (.str z) [.str y] S Q=match cH z y 0 z.length 1 with
 |i::_=>Q (.int i) S
 | []=>False:=pz id id
theorem zsb{neg:Bool}:oIs neg .non .non S Q=Q (.bl (!neg)) S:=pz id id
theorem zvs{neg a b:Bool}:oIs neg (.bl a) (.bl b) S Q=Q (.bl (if neg then a != b else a == b)) S:=pz id id
theorem ztM{neg a:Bool}:oIs neg (.bl a) .non S Q=Q (.bl neg) S:=pz id id
theorem zvi{neg:Bool}{ws:List W}:oIs neg (.tup ws) .non S Q=Q (.bl neg) S:=pz id id
theorem zue{neg:Bool}{a:Addr}:oIs neg (.ref a) .non S Q=Q (.bl neg) S:=pz id id
theorem zuH{neg:Bool}{a:Int}:oIs neg (.int a) .non S Q=Q (.bl neg) S:=pz id id
theorem zrV{neg:Bool}{x:W}{ws:List W}:oIn neg x (.tup ws) S Q=match inF S x ws with
 |some b=>Q (.bl (if neg then !b else b)) S
 |none=>False:=pz id id
theorem zsc{neg:Bool}{x:W}{a:Addr}:oIn neg x (.ref a) S Q=zce S a λws=>match inF S x ws with
 |some b=>Q (.bl (if neg then !b else b)) S
 |none=>False:=pz id id
theorem zrT{neg:Bool}{i j:Str}:oIn neg (.str i) (.str j) S Q=Q (.bl (if neg then !(!(cH j i 0 j.length 1).isEmpty) else !(cH j i 0 j.length 1).isEmpty)) S:=pz id id
end
theorem zkf{g:WG}{b:WS}{E:WX}{D:WEnds}{G:Sto→Prop}(I:List W→WSt→Sto→Prop)
  (step:∀w ws σ S (N:WSt→Sto→Prop),I (w::ws) σ S→(∀σ' S' S'',Sub S'' S'→G S''→I ws σ' S''→N σ' S')→g w σ S λσ1 S1=>b E { D with nx:=N,ct:=N,bk:=D.nx } σ1 S1)
  (done:∀σ S,I [] σ S→D.nx σ S):∀(ws:List W) (σ:WSt) (S:Sto),I ws σ S→forL g b E D G ws σ S
 | [],σ,S,h=>done σ S h
 |w::ws,σ,S,h=>step w ws σ S _ h λσ' S' S'' sb hG hI=>⟨S'',sb,hG,zkf I step done ws σ' S'' hI⟩
section
variable {E:WX}{σ:WSt}{S:Sto}{Q:WK}{QB:Bool→Sto→Prop}{QA:List W→Sto→Prop}{QI:List W→(Sto→Prop)→Sto→Prop}{QO:Option Int→Sto→Prop}{P:WSt→Sto→Prop}{D:WEnds}{w x y:W}{ws:List W}{EX:Str→Sto→Prop}
theorem zje{i:Nat}:(wVar i E σ S Q)=(match σ[i]? with
 |some (ae w)=>Q w S
 |_=>False):=pz id id
theorem zys{w:W}:(wC w E σ S Q)=(Q w S):=pz id id
theorem zvb{r:W2}{a b:WE}:(wOp r a b E σ S Q)=(a E σ S λx S1=>b E σ S1 λy S2=>r x y S2 Q):=pz id id
theorem zsq{t:WE}:(zfs t E σ S QB)=(t E σ S λw S'=>zsU w S' QB):=pz id id
theorem zvG{t:WE}:(wTb t E σ S QB)=(t E σ S λw S'=>match w with
 | .bl b=>QB b S'
 |_=>False):=pz id id
theorem zye{t u:WT}:(zrE t u E σ S QB)=(t E σ S λc S1=>if c=true then u E σ S1 QB else QB false S1):=pz id id
theorem zzl{t u:WT}:(wOr t u E σ S QB)=(t E σ S λc S1=>if c=true then QB true S1 else u E σ S1 QB):=pz id id
theorem zxM{t:WT}:(znC t E σ S QB)=(t E σ S λc S1=>QB (!c) S1):=pz id id
theorem zuM{t u:WE}:(ziS t u E σ S Q)=(t E σ S λw S1=>match w with
 | .bl true=>u E σ S1 Q
 | .bl false=>Q (.bl false) S1
 |_=>False):=pz id id
theorem ztP{t:WE}:(ztN t E σ S Q)=(t E σ S λw S1=>match w with
 | .bl b=>Q (.bl !b) S1
 |_=>False):=pz id id
theorem zzy{c:WT}{t u:WE}:(wIf c t u E σ S Q)=(c E σ S λb S1=>if b=true then t E σ S1 Q else u E σ S1 Q):=pz id id
theorem zww{c:WT}{t u:WS}:(zcc c t u E D σ S)=(c E σ S λb S1=>if b=true then t E D σ S1 else u E D σ S1):=pz id id
theorem zva:(wNext  E D σ S)=(D.nx σ S):=pz id id
theorem zwZ{t u:WS}:(zas t u E D σ S)=(t E { D with nx:=u E D } σ S):=pz id id
theorem zsG{e:WE}:(wRet e E D σ S)=(e E σ S D.rt):=pz id id
theorem zuU{e:WE}:(zdj e E D σ S)=(e E σ S λ_ S1=>D.nx σ S1):=pz id id
theorem zyP{i:Nat}:(wGN i w σ S P)=(P (σ.set i (ae w)) S):=pz id id
theorem zwQ{e:WE}{g:WG}:(wAsg e g E D σ S)=(e E σ S λw S1=>g w σ S1 D.nx):=pz id id
theorem zuZ:(zcD  ws σ S P)=(match ws with
 | []=>P σ S
 |_=>False):=pz id id
theorem zrF{g:WG}{u:WGs}:(zav g u ws σ S P)=(match ws with
 | []=>False
 |w::r=>g w σ S λσ' S'=>u r σ' S' P):=pz id id
theorem zyL{u:WGs}:(wGT u w σ S P)=(match w with
 | .tup ws=>u ws σ S P
 |_=>False):=pz id id
theorem zuc:(waNil  E σ S QA)=(QA [] S):=pz id id
theorem zqI{t:WE}{u:WA}:(zab t u E σ S QA)=(t E σ S λw S1=>u E σ S1 λws S2=>QA (w::ws) S2):=pz id id
theorem zwf{t:WA}:(zaR t E σ S Q)=(t E σ S λws S1=>ws.length≤sizeLine∧Q (.tup ws) S1):=pz id id
theorem zsL{t:WA}:(zcp t E σ S QA)=(t E σ S λws S1=>ws.length≤sizeLine∧QA ws S1):=pz id id
theorem zsH{t:WL}:(zcd t E σ S Q)=(t E σ S λws S1=>∀a,S1 a=none→Q (.ref a) (put S1 a (.lst ws))):=pz id id
theorem zua{c:WSp}{t:WA}:(zan c t E σ S Q)=(t E σ S λws S1=>c ws S1 Q λcl S2=>E cl σ S2):=pz id id
theorem zmf{n k:Nat}{body:WS}:(zcs n k body ws S Q EX)=(ws.length=k∧body (λc _ S'=>EX c S') { nx:=λ_ S'=>∃S'',Sub S'' S'∧Q .non S'',rt:=λw S'=>∃S'',Sub S'' S'∧Q w S'' } (ws.map ae++aR (n - k) none) S):=pz id id
theorem zxd{t:WE}:(zqA t E σ S Q)=(t E σ S λw S1=>match w with
 | .int i=>Q (.int (-i)) S1
 |_=>False):=pz id id
theorem zzE{t u:WE}:(zyv t u E σ S QA)=(t E σ S λx S1=>u E σ S1 λy S2=>match x,y with
 | .ref a, .ref b=>zce S2 a λxs=>zce S2 b λys=>xs.length+ys.length≤sizeLine∧QA (xs++ys) S2
 |_,_=>False):=pz id id
theorem zxD{neg:Bool}:(oEq neg x y S Q)=(match eqF S 60 x y with
 |some b=>Q (.bl (if neg then !b else b)) S
 |none=>False):=pz id id
theorem zsn{r r':W2}{a b c:WE}:(zjc r r' a b c E σ S Q)=(a E σ S λx S1=>b E σ S1 λy S2=>r x y S2 λz S3=>match z with
 | .bl true=>c E σ S3 λu S4=>r' y u S4 Q
 | .bl false=>Q (.bl false) S3
 |_=>False):=pz id id
theorem zzu:(woN  E σ S QO)=(QO none S):=pz id id
theorem zyK{t:WE}:(woS t E σ S QO)=(t E σ S λw S1=>match w with
 | .int i=>QO (ae i) S1
 |_=>False):=pz id id
theorem zyU{t:WE}{l h:WO}:(wSl t l h E σ S Q)=(t E σ S λx S1=>l E σ S1 λlo S2=>h E σ S2 λhi S3=>oSl x lo hi S3 Q):=pz id id
theorem zAw{f:WF}{t:WA}:(wB f t E σ S Q)=(t E σ S λws S1=>f ws S1 Q):=pz id id
theorem zzb{f:WF}{t:WL}:(wBL f t E σ S Q)=(t E σ S λws S1=>f ws S1 Q):=pz id id
theorem zoF:(zgs  ws S Q)=(Q (.tup ws) S):=pz id id
theorem ztY:(znp  ws S Q)=(match zhp ws with
 |some bs=>Q (.bl (bs.all _root_.id)) S
 |none=>False):=pz id id
theorem zxv{T:String}{t:WE}:(zqB T t E σ S Q)=(t E σ S λw S1=>tyW w S1 λA=>Q (.bl (zbV A T)) S1):=pz id id
theorem zAE{rv:W→Sto→Prop}{f:WMf}{to:WE}{t:WA}:(wM rv f to t E σ S Q)=(to E σ S λw S1=>rv w S1∧t E σ S1 λws S2=>f w ws S2 Q):=pz id id
theorem zyx{rv:W→Sto→Prop}{f:WMf}{to:WE}{t:WL}:(wML rv f to t E σ S Q)=(to E σ S λw S1=>rv w S1∧t E σ S1 λws S2=>f w ws S2 Q):=pz id id
theorem zwr{i:Nat}{g:Int→Int→Int}{e:WE}:(zwT i g e E D σ S)=(match σ[i]? with
 |some (ae (.int a))=>e E σ S λw S1=>match w with
  | .int b=>D.nx (σ.set i (ae (.int (g a b)))) S1
  |_=>False
 |_=>False):=pz id id
theorem zxQ{q:WI}{g:WG}{b:WS}:(zgA q g b E D σ S)=(q E σ S λws G S1=>forL g b E D G ws σ S1):=pz id id
theorem zzc{t:WE}:(wIv t E σ S QI)=(t E σ S λw S1=>match w with
 | .tup ws=>QI ws (λ_=>True) S1
 | .ref a=>zce S1 a λws=>QI ws (λS'=>S' a=ae (.lst ws)) S1
 | .scr ns=>QI (ns.map W.int) (λ_=>True) S1
 | .str z=>QI (zjf z) (λ_=>True) S1
 |_=>False):=pz id id
theorem zza{t:WL}:(wIl t E σ S QI)=(t E σ S λws S1=>QI ws (λ_=>True) S1):=pz id id
theorem zwP{t:WA}:(zsI t E σ S QI)=(t E σ S λws S1=>match ws with
 | [.int j]=>(-(2 ^ 62)≤j∧j<2 ^ 62)∧QI (znv 0 j.toNat) (λ_=>True) S1
 |_=>False):=pz id id
theorem zvP:(zfw  E σ S QB)=(QB true S):=pz id id
theorem zub{k:Nat}{fr:List Nat}{q:WI}{g:WG}{c:WT}{e:WE}:(zcI k fr q g c e E σ S QA)=(q noE σ S λws G S1=>zcE g c e noE G QA ws [] (aR k none++fr.map λj=>(σ[j]?).join) S1):=pz id id
theorem ztG{t:WE}:(zkl t E σ S QI)=(t E σ S λw S1=>znb w S1 λws G=>QI (nums 0 ws) G S1):=pz id id
theorem zxf{t u:WE}:(zve t u E σ S QI)=(t E σ S λx S1=>u E σ S1 λy S2=>znb x S2 λxs G=>znb y S2 λys G'=>QI (pairs xs ys) (λS'=>G S'∧G' S') S2):=pz id id
theorem zuo{t:WE}{l h:WO}:(zui t l h E σ S QA)=(t E σ S λx S1=>l E σ S1 λlo S2=>h E σ S2 λhi S3=>match x with
 | .ref a=>zce S3 a λws=>QA (zdE ws lo hi) S3
 | .scr ns=>QA ((zdE ns lo hi).map W.int) S3
 |_=>False):=pz id id
theorem zvH{t:WL}{u:WE}:(zrN t u E σ S Q)=(t E σ S λws S1=>u E σ S1 λy S2=>match y with
 | .int i=>match atI ws i with
  |some w=>Q w S2
  |none=>False
 |_=>False):=pz id id
theorem zqh{t:WE}{u:WL}:(zgB t u E σ S QA)=(t E σ S λx S1=>u E σ S1 λys S2=>match x with
 | .ref a=>zce S2 a λxs=>xs.length+ys.length≤sizeLine∧QA (xs++ys) S2
 |_=>False):=pz id id
theorem zvm{t u:WL}:(zks t u E σ S QA)=(t E σ S λxs S1=>u E σ S1 λys S2=>xs.length+ys.length≤sizeLine∧QA (xs++ys) S2):=pz id id
theorem zvj{t:WL}{u:WE}:(zrw t u E σ S QA)=(t E σ S λxs S1=>u E σ S1 λy S2=>match y with
 | .ref a=>zce S2 a λys=>xs.length+ys.length≤sizeLine∧QA (xs++ys) S2
 |_=>False):=pz id id
theorem zug{t:WL}{u:WE}:(zrA t u E σ S QA)=(t E σ S λxs S1=>u E σ S1 λy S2=>match y with
 | .int k=>(-(2 ^ 63)≤k∧k<2 ^ 63∧xs.length*k.toNat≤sizeLine)∧QA (aR k.toNat xs).flatten S2
 |_=>False):=pz id id
end
section
variable {S:Sto}{Q:WK}
theorem zyc{xs:List W}{k:Int}:zzA (.tup xs) (.int k) S Q=((xs≠ []∧ -(2 ^ 63)≤k∧k<2 ^ 63∧xs.length*k.toNat≤sizeLine)∧Q (.tup (aR k.toNat xs).flatten) S):=pz id id
theorem zzf{neg:Bool}{y:W}{a:Addr}:zvM neg y (.ref a) S Q=(match zpa y with
 |some k=>zqN S a λkvs=>Q (.bl (if neg then !(zfp kvs k).isSome else(zfp kvs k).isSome)) S
 |none=>False):=pz id id
theorem zwN{y:W}{a:Addr}:zzv (.ref a) y S Q=(match zpa y with
 |some k=>zqN S a λkvs=>match zfp kvs k with
  |some w=>Q w S
  |none=>False
 |none=>False):=pz id id
theorem zuL{ws:List W}:(zia ws S Q)=(match zbq ws with
 |some ns=>Q (.int ns.sum) S
 |none=>False):=pz id id
theorem zvo{z:Str}:zlG (.str z) [] S Q=(z.length≤5592405∧Q (.str (dk z)) S):=pz id id
theorem zbt:∀p:List Int,zbq (p.map W.int)=ae p
 | []=>rfl
 |i::p=>by rw[aB,zbq,zbt p];rfl
theorem zyV (p:List Int):zpa (zbJ p)=ae p:=zbt p
theorem zqL{a:Addr}{kvs:List (List Int×W)}{P:List (List Int×W)→Prop}:zqN (put S a (.dct kvs)) a P=P kvs:=zkQ zag
end
end L2
end
section
def L2.wZ (d:String):Lean.MacroM (Lean.TSyntax `tactic):=do
  let a:Array Lean.Term:=(("L2.zje L2.zys L2.zvb L2.zsq L2.zvG L2.zye L2.zzl L2.zxM L2.zuM L2.ztP L2.zzy L2.zww L2.zva L2.zwZ L2.zsG L2.zuU L2.zyP L2.zwQ L2.zuZ L2.zrF L2.zyL L2.zuc L2.zqI L2.zwf L2.zsL L2.zsH L2.zua L2.zmf L2.zxd L2.zxD L2.zsn L2.zzu L2.zyK L2.zyU L2.zAw L2.zzb L2.zoF L2.ztY L2.zxv L2.zAE L2.zyx L2.zwr L2.zxQ L2.zzc L2.zza L2.zwP L2.zvP L2.zub L2.ztG L2.zxf L2.zuo L2.zvH L2.zqh L2.zvm L2.zvj L2.zug L2.zyc L2.zzf L2.zwN L2.zuL L2.zrk L2.zvo L2.zyV L2.zqL L2.zeC L2.zaM L2.ztd L2.zxu L2.zzJ L2.zvf L2.zhn L2.zjX L2.zjB L2.zkg L2.zhU L2.zjD L2.zjq L2.zhI L2.zjr L2.zgD L2.zhV L2.zkp L2.ziW L2.zkP L2.zhK L2.zjm L2.zhq L2.zgy L2.zhZ L2.sub_tuple_tuple L2.sub_tuple_list L2.ziP L2.zhB L2.ziV L2.sub_list_tuple L2.sub_list_list L2.zlw L2.zpw L2.zoP L2.zoG L2.znF L2.zjb L2.zeD L2.ztB L2.zrb L2.zrt L2.zrp L2.zrY L2.zrJ L2.zoY L2.zoK L2.zga L2.zqu L2.zyT L2.zwD L2.zrZ L2.zrr L2.zqp L2.zop L2.zoJ L2.zqt L2.zrH L2.zls L2.zqS L2.zre L2.zsk L2.zrc L2.zrg L2.zsl L2.zkY L2.zkm L2.zrC L2.zyH L2.zjE L2.ziI L2.zoX L2.zzo L2.zzk L2.zrB L2.zqm L2.zwE L2.zxq L2.zvC L2.zus L2.zsb L2.zvs L2.ztM L2.zvi L2.zue L2.zuH L2.zrV L2.zsc L2.zrT List.map_cons List.map_nil List.length_cons List.length_nil List.cons_append List.nil_append List.append_nil List.replicate List.getElem?_cons_zero List.getElem?_cons_succ List.getElem?_nil List.set_cons_zero List.set_cons_succ Nat.reduceAdd Nat.reduceSub true_and and_true if_true if_false Bool.false_eq_true reduceIte Bool.not_true Bool.not_false Option.join_some Option.join_none decide_eq_true_eq and_self".splitOn " ").filter (· != d)).toArray.map λs=>Lean.mkIdent s.toName
  `(tactic| simp only [$[$a:term],*])
local macro_rules | `(tactic| walk_at "wp") => L2.wZ ""
section
namespace L2
open PySem PySem.Spec PyProof.Rows
section
variable {E:WX}{D:WEnds}{σ:WSt}{S:Sto}
theorem zrj{x:Str}{t:WA}:(zhi x t E D σ S)=(t E σ S λws S1=>ws.length≤sizeLine∧E x σ S1):=pz id id
end
noncomputable def zcn:Nat→WSp
 |0=>zbh
 |r+1=>zcs 1 1 (zas (zcc (zfs (zqB "int" (wVar 0))) (wRet (zaR waNil)) wNext)
  (wRet (wSl (wVar 0) (woS (wC (.int 1))) woN)))
noncomputable def zbn (r:Nat) (self:WSp):WS:=(zdj (wM rvL zge (wVar 1) (zab (zan (zcn r) (zab (wVar 2) waNil)) waNil)))
noncomputable def zbf:Nat→WSp
 |0=>zbh
 |r+1=>zcs 3 1 (zas (wAsg (zcd (zcp waNil)) (wGN 1))
  (zas (zgA (wIv (wVar 0)) (wGN 2) (zbn r zbh))
  (wRet (wVar 1))))
noncomputable def zdP (r:Nat) (self:WSp):WS:=(zas (zwT 1 (λa b=>a+b) (wB zfq (zab (wVar 3) waNil)))
  (zas (zwT 2 (λa b=>a+b) (wC (.int 1)))
  (zas (zcc (wOr (wTb (wOp oGt (wVar 1) (wC (.int 400)))) (wTb (wOp oGt (wVar 2) (wC (.int 40))))) (wRet (wC (.bl false))) wNext)
  (wAsg (zan (zbf r) (zab (wVar 3) waNil)) (wGN 3)))))
noncomputable def zcm:Nat→WSp
 |0=>zbh
 |r+1=>zcs 4 1 (zas (wAsg (wC (.int 0)) (wGN 1))
  (zas (wAsg (wC (.int 0)) (wGN 2))
  (zas (wAsg (zcd (zcp (zab (wVar 0) waNil))) (wGN 3))
  (zas (znG (zfs (wVar 3)) (zdP r zbh))
  (wRet (wC (.bl true)))))))
noncomputable def zcl (r:Nat) (self:WSp):WS:=(zdj (zan self (zab (wVar 4) (zab (wOp zdF (wVar 1) (zaR (zab (wVar 3) waNil))) (zab (wVar 2) waNil)))))
noncomputable def zaN:Nat→WSp
 |0=>zbh
 |r+1=>zcs 5 3 (zas (zdj (wM rvL zcg (wVar 2) (zab (wVar 1) waNil)))
  (zgA (zkl (zan (zcn r) (zab (wVar 0) waNil))) (wGT (zav (wGN 3) (zav (wGN 4) zcD))) (zcl r (zaN r))))
noncomputable def zeE:Nat→WSp
 |0=>zbh
 |r+1=>zcs 2 1 (zas (wAsg (zcd (zcp waNil)) (wGN 1))
  (zas (zdj (zan (zaN r) (zab (wVar 0) (zab (zaR waNil) (zab (wVar 1) waNil)))))
  (wRet (wVar 1))))
noncomputable def zbA:Nat→WSp
 |0=>zbh
 |r+1=>zcs 3 2 (zas (wAsg (zan (zcn r) (zab (wVar 0) waNil)) (wGN 2))
  (zas (zcc (wOr (wTb (wOp oLt (wVar 1) (wC (.int 0)))) (wTb (wOp oGe (wVar 1) (wB zfq (zab (wVar 2) waNil))))) (zhi "NoPlace" (zab (wC (.str "there is no such place")) waNil)) wNext)
  (wRet (wOp oIx (wVar 2) (wVar 1)))))
noncomputable def zib (r:Nat) (self:WSp):WS:=(wAsg (zan (zbA r) (zab (wVar 2) (zab (wVar 3) waNil))) (wGN 2))
noncomputable def zgM:Nat→WSp
 |0=>zbh
 |r+1=>zcs 4 2 (zas (wAsg (wVar 0) (wGN 2))
  (zas (zgA (wIv (wVar 1)) (wGN 3) (zib r zbh))
  (wRet (wVar 2))))
noncomputable def zfu (r:Nat) (self:WSp):WE:=(wVar 0)
noncomputable def zbs:Nat→WSp
 |0=>zbh
 |r+1=>zcs 1 1 (wRet (zcd (zcI 1 [0] (wIv (zan (zeE r) (zab (wVar 0) waNil))) (wGN 0) (zfs (zqB "int" (zan (zgM r) (zab (wVar 1) (zab (wVar 0) waNil))))) (zfu r zbh))))
noncomputable def zgN (r:Nat) (self:WSp):WE:=(zan (zgM r) (zab (wVar 1) (zab (wVar 0) waNil)))
noncomputable def zdS:Nat→WSp
 |0=>zbh
 |r+1=>zcs 1 1 (wRet (zcd (zcI 1 [0] (wIv (zan (zbs r) (zab (wVar 0) waNil))) (wGN 0) zfw (zgN r zbh))))
noncomputable def zgO (r:Nat) (self:WSp):WE:=(zan self (zab (wVar 0) (zab (wVar 1) waNil)))
noncomputable def zcH:Nat→WSp
 |0=>zbh
 |r+1=>zcs 2 2 (zas (zcc (zfs (zqB "int" (wVar 0))) (wRet (wOp oIx (wVar 1) (wVar 0))) wNext)
  (wRet (wOp zdF (zaR (zab (wOp oIx (wVar 0) (wC (.int 0))) waNil)) (wBL zgs (zcI 1 [1] (wIv (wSl (wVar 0) (woS (wC (.int 1))) woN)) (wGN 0) zfw (zgO r (zcH r)))))))
noncomputable def zbN:Nat→WSp
 |0=>zbh
 |r+1=>zcs 2 2 (wRet (ziS (wOp (oEq false) (wOp oIx (wVar 0) (wC (.int 0))) (wOp oIx (wVar 1) (wC (.int 0)))) (wOp (oEq false) (wB zfq (zab (wVar 0) waNil)) (wB zfq (zab (wVar 1) waNil)))))
noncomputable def zcb (r:Nat) (self:WSp):WS:=(zcc (znC (zfs (zan self (zab (wVar 3) (zab (wVar 4) (zab (wVar 2) waNil)))))) (wRet (wC (.bl false))) wNext)
noncomputable def zaB:Nat→WSp
 |0=>zbh
 |r+1=>zcs 5 3 (zas (zcc (zfs (zqB "int" (wVar 0))) (zas (zdj (wM rvL zcg (wVar 2) (zab (wVar 1) waNil)))
  (wRet (wC (.bl true)))) wNext)
  (zas (zcc (znC (zfs (zan (zbN r) (zab (wVar 0) (zab (wVar 1) waNil))))) (wRet (wC (.bl false))) wNext)
  (zas (zgA (zve (wSl (wVar 0) (woS (wC (.int 1))) woN) (wSl (wVar 1) (woS (wC (.int 1))) woN)) (wGT (zav (wGN 3) (zav (wGN 4) zcD))) (zcb r (zaB r)))
  (wRet (wC (.bl true))))))
noncomputable def zbM:Nat→WSp
 |0=>zbh
 |r+1=>zcs 3 2 (zas (wAsg (zcd (zcp waNil)) (wGN 2))
  (zas (zcc (zfs (zan (zaB r) (zab (wVar 0) (zab (wVar 1) (zab (wVar 2) waNil))))) (wRet (wVar 2)) wNext)
  (wRet (wC .non))))
noncomputable def zcx (r:Nat) (self:WSp):WE:=(zjc oLe oLe (wC (.str "a")) (wVar 0) (wC (.str "z")))
noncomputable def zaV:Nat→WSp
 |0=>zbh
 |r+1=>zcs 1 1 (wRet (wBL znp (zcI 1 [] (wIv (wVar 0)) (wGN 0) zfw (zcx r zbh))))
noncomputable def zdO:Nat→WSp
 |0=>zbh
 |r+1=>zcs 1 1 (wRet (ziS (zjc oLe oLe (wC (.int 1)) (wB zfq (zab (wVar 0) waNil)) (wC (.int 8))) (zan (zaV r) (zab (wVar 0) waNil))))
noncomputable def zek (r:Nat) (self:WSp):WS:=(zcc (wTb (wOp (oEq false) (wOp oIx (wVar 2) (wC (.int 0))) (wVar 1))) (wRet (wVar 2)) wNext)
noncomputable def zaD:Nat→WSp
 |0=>zbh
 |r+1=>zcs 3 2 (zas (zgA (wIv (wVar 0)) (wGN 2) (zek r zbh))
  (wRet (wC .non)))
noncomputable def zfl (r:Nat) (self:WSp):WE:=(zan self (zab (wVar 0) waNil))
noncomputable def zcM:Nat→WSp
 |0=>zbh
 |r+1=>zcs 1 1 (wRet (ziS (zan (zdO r) (zab (wOp oIx (wVar 0) (wC (.int 0))) waNil)) (wBL znp (zcI 1 [] (wIv (wSl (wVar 0) (woS (wC (.int 1))) woN)) (wGN 0) zfw (zfl r (zcM r))))))
noncomputable def zbT:Nat→WSp
 |0=>zbh
 |r+1=>zcs 1 1 (zas (zcc (znC (zfs (zan (zcm r) (zab (wVar 0) waNil)))) (zhi "TooGreat" (zab (wC (.str "the shape is not small")) waNil)) wNext)
  (wRet (wVar 0)))
noncomputable def zdg (r:Nat) (self:WSp):WE:=(zan self (zab (wVar 1) (zab (wVar 0) (zab (wVar 2) waNil))))
noncomputable def zba:Nat→WSp
 |0=>zbh
 |r+1=>zcs 5 3 (zas (wAsg (zcd (zcI 1 [0,2] (wIv (wSl (wVar 1) (woS (wC (.int 1))) woN)) (wGN 0) zfw (zdg r (zba r)))) (wGN 3))
  (zas (wAsg (zan (zaD r) (zab (wVar 0) (zab (wOp oIx (wVar 1) (wC (.int 0))) waNil))) (wGN 4))
  (zas (zcc (wTb (wOp (oIs false) (wVar 4) (wC .non))) (wRet (wOp zdF (zaR (zab (wOp oIx (wVar 1) (wC (.int 0))) waNil)) (wB zdo (zab (wVar 3) waNil)))) wNext)
  (wRet (zan (zcH r) (zab (wOp oIx (wVar 4) (wVar 2)) (zab (wVar 3) waNil)))))))
noncomputable def zeb:Nat→WSp
 |0=>zbh
 |r+1=>zcs 2 2 (wRet (zan (zbT r) (zab (zan (zba r) (zab (wVar 0) (zab (wVar 1) (zab (wC (.int 1)) waNil)))) waNil)))
noncomputable def zfY:Nat→WSp
 |0=>zbh
 |r+1=>zcs 2 2 (wRet (zan (zbT r) (zab (zan (zba r) (zab (wVar 0) (zab (wVar 1) (zab (wC (.int 2)) waNil)))) waNil)))
noncomputable def zdI (r:Nat) (self:WSp):WE:=(zaR (zab (wVar 0) waNil))
noncomputable def zbd:Nat→WSp
 |0=>zbh
 |r+1=>zcs 3 2 (zas (wAsg (zan (zaD r) (zab (wVar 0) (zab (wOp oIx (wVar 1) (wC (.int 0))) waNil))) (wGN 2))
  (zas (zcc (wTb (wOp (oIs false) (wVar 2) (wC .non))) (wRet (zcd (zcI 1 [] (zsI (zab (wOp (zdN λi j=> .int (i - j)) (wB zfq (zab (wVar 1) waNil)) (wC (.int 1))) waNil)) (wGN 0) zfw (zdI r zbh)))) wNext)
  (wRet (zan (zbs r) (zab (wOp oIx (wVar 2) (wC (.int 1))) waNil)))))
noncomputable def zdC (r:Nat) (self:WSp):WS:=(zcc (wTb (wOp (oIs true) (zan (zbM r) (zab (wOp oIx (wVar 2) (wC (.int 1))) (zab (wVar 1) waNil))) (wC .non))) (wRet (wVar 2)) wNext)
noncomputable def zbu:Nat→WSp
 |0=>zbh
 |r+1=>zcs 3 2 (zas (zgA (wIv (wVar 0)) (wGN 2) (zdC r zbh))
  (wRet (wC .non)))
noncomputable def zcW (r:Nat) (self:WSp):WS:=(zdj (zan self (zab (wVar 0) (zab (wVar 6) (zab (wOp zdF (wVar 2) (zaR (zab (wVar 5) waNil))) (zab (wVar 3) waNil))))))
noncomputable def zbl:Nat→WSp
 |0=>zbh
 |r+1=>zcs 7 4 (zas (wAsg (zan (zbu r) (zab (wVar 0) (zab (wVar 1) waNil))) (wGN 4))
  (zas (zcc (wTb (wOp (oIs true) (wVar 4) (wC .non))) (zdj (wM rvL zcg (wVar 3) (zab (zaR (zab (wVar 2) (zab (wOp oIx (wVar 4) (wC (.int 0))) waNil))) waNil))) wNext)
  (zgA (zkl (wSl (wVar 1) (woS (wC (.int 1))) woN)) (wGT (zav (wGN 5) (zav (wGN 6) zcD))) (zcW r (zbl r)))))
noncomputable def zcS:Nat→WSp
 |0=>zbh
 |r+1=>zcs 3 2 (zas (wAsg (zcd (zcp waNil)) (wGN 2))
  (zas (zdj (zan (zbl r) (zab (wVar 0) (zab (wVar 1) (zab (zaR waNil) (zab (wVar 2) waNil))))))
  (wRet (wVar 2))))
noncomputable def zbX (r:Nat) (self:WSp):WS:=(zdj (zan self (zab (wVar 0) (zab (wVar 5) (zab (wOp zdF (wVar 2) (wVar 4)) (zab (wVar 3) waNil))))))
noncomputable def zbc:Nat→WSp
 |0=>zbh
 |r+1=>zcs 6 4 (zas (zcc (wTb (wOp (oIs true) (zan (zaD r) (zab (wVar 0) (zab (wOp oIx (wVar 1) (wC (.int 0))) waNil))) (wC .non))) (zdj (wM rvL zcg (wVar 3) (zab (zaR (zab (wVar 2) (zab (wOp oIx (wVar 1) (wC (.int 0))) waNil))) waNil))) wNext)
  (zgA (zve (zan (zbd r) (zab (wVar 0) (zab (wVar 1) waNil))) (wSl (wVar 1) (woS (wC (.int 1))) woN)) (wGT (zav (wGN 4) (zav (wGN 5) zcD))) (zbX r (zbc r))))
noncomputable def zgW:Nat→WSp
 |0=>zbh
 |r+1=>zcs 3 2 (zas (wAsg (zcd (zcp waNil)) (wGN 2))
  (zas (zdj (zan (zbc r) (zab (wVar 0) (zab (wVar 1) (zab (zaR waNil) (zab (wVar 2) waNil))))))
  (wRet (wVar 2))))
noncomputable def zeQ (r:Nat) (self:WSp):WE:=(wOp oIx (wVar 0) (wC (.int 0)))
noncomputable def zcN:Nat→WSp
 |0=>zbh
 |r+1=>zcs 1 1 (wRet (zcd (zcI 1 [] (wIv (wVar 0)) (wGN 0) zfw (zeQ r zbh))))
noncomputable def zcv:Nat→WSp
 |0=>zbh
 |r+1=>zcs 3 2 (zas (wAsg (zan (zbu r) (zab (wVar 0) (zab (wVar 1) waNil))) (wGN 2))
  (wRet (wOp zdF (zaR (zab (wOp oIx (wVar 2) (wC (.int 0))) waNil)) (wB zdo (zab (zan (zbM r) (zab (wOp oIx (wVar 2) (wC (.int 1))) (zab (wVar 1) waNil))) waNil)))))
noncomputable def zcr (r:Nat) (self:WSp):WS:=(zdj (wM rvL zcg (wVar 5) (zab (zan self (zab (wVar 0) (zab (wVar 7) (zab (wOp zdF (wVar 2) (wVar 6)) (zab (wVar 3) waNil))))) waNil)))
noncomputable def zaU:Nat→WSp
 |0=>zbh
 |r+1=>zcs 8 4 (zas (wAsg (wIf (wTb (wOp (zvM false) (wVar 2) (wVar 3))) (zan (zcv r) (zab (wVar 0) (zab (wVar 1) waNil))) (wVar 1)) (wGN 4))
  (zas (wAsg (zcd (zcp waNil)) (wGN 5))
  (zas (zgA (zve (zan (zbd r) (zab (wVar 0) (zab (wVar 4) waNil))) (wSl (wVar 4) (woS (wC (.int 1))) woN)) (wGT (zav (wGN 6) (zav (wGN 7) zcD))) (zcr r (zaU r)))
  (wRet (wOp zdF (zaR (zab (wOp oIx (wVar 4) (wC (.int 0))) waNil)) (wB zdo (zab (wVar 5) waNil)))))))
noncomputable def zft (r:Nat) (self:WSp):WE:=(zaR (zab (wVar 0) (zab (wC (.bl true)) waNil)))
noncomputable def zdq:Nat→WSp
 |0=>zbh
 |r+1=>zcs 3 3 (wRet (zan (zaU r) (zab (wVar 0) (zab (wVar 1) (zab (zaR waNil) (zab (wBL zju (zcI 1 [] (wIv (wVar 2)) (wGN 0) zfw (zft r zbh))) waNil))))))
noncomputable def zgZ (r:Nat) (self:WSp):WS:=(zcc (wTb (wOp (oIn true) (wVar 4) (wVar 3))) (zhi "NoUse" (zab (wC (.str "no use is open at one of the places")) waNil)) wNext)
noncomputable def zdY:Nat→WSp
 |0=>zbh
 |r+1=>zcs 5 3 (zas (wAsg (zan (zcN r) (zab (zan (zcS r) (zab (wVar 0) (zab (wVar 1) waNil))) waNil)) (wGN 3))
  (zas (zgA (wIv (wVar 2)) (wGN 4) (zgZ r zbh))
  (wRet (zan (zdq r) (zab (wVar 0) (zab (wVar 1) (zab (wVar 2) waNil)))))))
noncomputable def zfg (r:Nat) (self:WSp):WE:=(zan self (zab (wVar 2) (zab (wVar 1) waNil)))
noncomputable def zfe (r:Nat) (self:WSp):WE:=(zan self (zab (wVar 1) (zab (wVar 0) waNil)))
noncomputable def zbz:Nat→WSp
 |0=>zbh
 |r+1=>zcs 4 2 (zas (wAsg (zan (zaD r) (zab (wVar 0) (zab (wOp oIx (wVar 1) (wC (.int 0))) waNil))) (wGN 2))
  (zas (zcc (wTb (wOp (oIs false) (wVar 2) (wC .non))) (wRet (wBL zia (zcI 1 [0] (wIv (wSl (wVar 1) (woS (wC (.int 1))) woN)) (wGN 0) zfw (zfe r (zbz r))))) wNext)
  (zas (wAsg (zan (zdS r) (zab (wOp oIx (wVar 2) (wC (.int 2))) waNil)) (wGN 3))
  (wRet (wOp zdF (wC (.int 1)) (wBL zia (zcI 2 [0,3] (zkl (wSl (wVar 1) (woS (wC (.int 1))) woN)) (wGT (zav (wGN 0) (zav (wGN 1) zcD))) (wTb (wOp (oIn false) (wVar 0) (wVar 3))) (zfg r (zbz r)))))))))
noncomputable def zhy (r:Nat) (self:WSp):WE:=(wOp (zdp CMul λi j=> .int (i*j)) (wB zoz (zab (wC (.int 1)) (zab (wM rvL zlQ (wVar 3) (zab (wVar 0) waNil)) waNil))) (zan self (zab (wVar 2) (zab (wVar 1) waNil))))
noncomputable def zhw (r:Nat) (self:WSp):WE:=(zan self (zab (wVar 1) (zab (wVar 0) waNil)))
noncomputable def zda:Nat→WSp
 |0=>zbh
 |r+1=>zcs 4 2 (zas (wAsg (zan (zaD r) (zab (wVar 0) (zab (wOp oIx (wVar 1) (wC (.int 0))) waNil))) (wGN 2))
  (zas (zcc (wTb (wOp (oIs false) (wVar 2) (wC .non))) (wRet (wBL zia (zcI 1 [0] (wIv (wSl (wVar 1) (woS (wC (.int 1))) woN)) (wGN 0) zfw (zhw r (zda r))))) wNext)
  (zas (wAsg (zan (zdS r) (zab (wOp oIx (wVar 2) (wC (.int 2))) waNil)) (wGN 3))
  (wRet (wOp zdF (wC (.int 1)) (wBL zia (zcI 2 [0,3] (zkl (wSl (wVar 1) (woS (wC (.int 1))) woN)) (wGT (zav (wGN 0) (zav (wGN 1) zcD))) zfw (zhy r (zda r)))))))))
noncomputable def zbU:Nat→WSp
 |0=>zbh
 |r+1=>zcs 4 3 (zas (wAsg (zan (zeb r) (zab (wVar 0) (zab (wVar 1) waNil))) (wGN 3))
  (zas (zcc (wTb (wOp (oEq true) (zan (zeb r) (zab (wVar 0) (zab (wVar 2) waNil))) (wVar 3))) (zhi "Apart" (zab (wC (.str "the ways have not the same source")) waNil)) wNext)
  (wRet (wVar 3))))
noncomputable def zfL (r:Nat) (self:WSp):WE:=(zan self (zab (wVar 2) (zab (wVar 0) (zab (wVar 1) waNil))))
noncomputable def zcO:Nat→WSp
 |0=>zbh
 |r+1=>zcs 8 3 (zas (wAsg (zan (zaD r) (zab (wVar 0) (zab (wOp oIx (wVar 1) (wC (.int 0))) waNil))) (wGN 3))
  (zas (wAsg (zan (zaD r) (zab (wVar 0) (zab (wOp oIx (wVar 2) (wC (.int 0))) waNil))) (wGN 4))
  (zas (wAsg (wSl (wVar 1) (woS (wC (.int 1))) woN) (wGN 5))
  (zas (wAsg (wSl (wVar 2) (woS (wC (.int 1))) woN) (wGN 6))
  (zas (zcc (zrE (wTb (wOp (oIs false) (wVar 3) (wC .non))) (wTb (wOp (oIs true) (wVar 4) (wC .non)))) (wAsg (zan (zbM r) (zab (wOp oIx (wVar 4) (wC (.int 1))) (zab (wVar 1) waNil))) (wGN 5)) wNext)
  (zas (zcc (zrE (wTb (wOp (oIs true) (wVar 3) (wC .non))) (wTb (wOp (oIs false) (wVar 4) (wC .non)))) (wAsg (zan (zbM r) (zab (wOp oIx (wVar 3) (wC (.int 1))) (zab (wVar 2) waNil))) (wGN 6)) wNext)
  (zas (wAsg (zcd (zcI 2 [0] (zve (wVar 5) (wVar 6)) (wGT (zav (wGN 0) (zav (wGN 1) zcD))) zfw (zfL r (zcO r)))) (wGN 7))
  (zas (zcc (wTb (wOp (oIs false) (wVar 4) (wC .non))) (wRet (wOp zdF (zaR (zab (wOp oIx (wVar 1) (wC (.int 0))) waNil)) (wB zdo (zab (wVar 7) waNil)))) wNext)
  (wRet (zan (zcH r) (zab (wOp oIx (wVar 4) (wC (.int 2))) (zab (wVar 7) waNil))))))))))))
noncomputable def zdy:Nat→WSp
 |0=>zbh
 |r+1=>zcs 3 3 (zas (zdj (zan (zbU r) (zab (wVar 0) (zab (wVar 1) (zab (wVar 2) waNil)))))
  (zas (zdj (zan (zfY r) (zab (wVar 0) (zab (wVar 2) waNil))))
  (wRet (zan (zcO r) (zab (wVar 0) (zab (wVar 1) (zab (wVar 2) waNil)))))))
noncomputable def zaK:Nat→WSp
 |0=>zbh
 |r+1=>zcs 2 2 (zas (zcc (wTb (wOp oLt (wVar 1) (wB zfq (zab (wVar 0) waNil)))) (wRet (wOp oIx (wVar 0) (wVar 1))) wNext)
  (wRet (wC (.int 0))))
noncomputable def zen (r:Nat) (self:WSp):WE:=(wOp oIx (wVar 1) (wOp (zdp (λ_ j=>0<j) λi j=> .int (i % j)) (wOp zdF (wOp oIx (wVar 2) (wVar 0)) (wOp (zdp CMul λi j=> .int (i*j)) (wVar 3) (wB zxm (zab (wOp (oEq false) (wVar 0) (wVar 4)) waNil)))) (wC (.int 26))))
noncomputable def zeh (r:Nat) (self:WSp):WS:=(zas (wAsg (wML rvS ziK (wC (.str "")) (zcI 1 [3,5,6,7] (zsI (zab (wB zfq (zab (wVar 5) waNil)) waNil)) (wGN 0) zfw (zen r zbh))) (wGN 9))
  (zas (zcc (zfs (wVar 2)) (wAsg (wOp zdF (wM rvS zlG (wOp oIx (wVar 9) (wC (.int 0))) waNil) (wSl (wVar 9) (woS (wC (.int 1))) woN)) (wGN 9)) wNext)
  (zdj (wM rvL zcg (wVar 8) (zab (wVar 9) waNil)))))
noncomputable def zdk (r:Nat) (self:WSp):WS:=(zas (zdj (wM rvL zcg (wVar 5) (zab (wOp (zdp (λ_ j=>0<j) λi j=> .int (i % j)) (wVar 4) (wC (.int 26))) waNil)))
  (wAsg (wOp (zdp zmW λi j=> .int (i / j)) (wVar 4) (wC (.int 26))) (wGN 4)))
noncomputable def zbS:Nat→WSp
 |0=>zbh
 |r+1=>zcs 10 3 (zas (wAsg (wC (.str "abcdefghijklmnopqrstuvwxyz")) (wGN 3))
  (zas (wAsg (wOp (zdp (λ_ j=>0<j) λi j=> .int (i % j)) (wVar 1) (wOp (zdp ztE λi j=> .int (i ^ j.toNat)) (wC (.int 26)) (wC (.int 8)))) (wGN 4))
  (zas (wAsg (zcd (zcp waNil)) (wGN 5))
  (zas (zgA (zsI (zab (wOp zdF (wC (.int 1)) (wOp (zdp (λ_ j=>0<j) λi j=> .int (i % j)) (wVar 0) (wC (.int 8)))) waNil)) (wGN 6) (zdk r zbh))
  (zas (wAsg (wOp (zdp (λ_ j=>0<j) λi j=> .int (i % j)) (wOp (zdp zmW λi j=> .int (i / j)) (wVar 0) (wC (.int 8))) (wB zfq (zab (wVar 5) waNil))) (wGN 7))
  (zas (wAsg (zcd (zcp waNil)) (wGN 8))
  (zas (zgA (zsI (zab (wC (.int 6)) waNil)) (wGN 6) (zeh r zbh))
  (zas (zcc (zrE (wTb (wOp (oEq false) (wOp (zdp (λ_ j=>0<j) λi j=> .int (i % j)) (wOp (zdp zmW λi j=> .int (i / j)) (wVar 0) (wC (.int 64))) (wC (.int 2))) (wC (.int 1)))) (znC (zfs (wVar 2)))) (wAsg (zcd (zks (zui (wVar 8) woN (woS (wC (.int 3)))) (zcp (zab (wOp oIx (wVar 8) (wC (.int 2))) (zab (wOp oIx (wVar 8) (wC (.int 2))) (zab (wOp oIx (wVar 8) (wC (.int 5))) waNil)))))) (wGN 8)) wNext)
  (wRet (wVar 8))))))))))
noncomputable def zdc (r:Nat) (self:WSp):WE:=(zan self (zab (wVar 0) waNil))
noncomputable def zaA:Nat→WSp
 |0=>zbh
 |r+1=>zcs 1 1 (zas (zcc (zfs (zqB "int" (wVar 0))) (wRet (wC (.int 1))) wNext)
  (wRet (wBL zia (zcI 1 [] (wIv (wSl (wVar 0) (woS (wC (.int 1))) woN)) (wGN 0) zfw (zdc r (zaA r))))))
noncomputable def zdJ (r:Nat) (self:WSp):WE:=(zan self (zab (wVar 0) (zab (wVar 1) waNil)))
noncomputable def zbb:Nat→WSp
 |0=>zbh
 |r+1=>zcs 2 2 (zas (zcc (zfs (zqB "int" (wVar 0))) (wRet (wOp oIx (wVar 1) (wVar 0))) wNext)
  (wRet (wOp zdF (wSl (wVar 0) woN (woS (wC (.int 1)))) (wBL zgs (zcI 1 [1] (wIv (wSl (wVar 0) (woS (wC (.int 1))) woN)) (wGN 0) zfw (zdJ r (zbb r)))))))
noncomputable def zcA:Nat→WSp
 |0=>zbh
 |r+1=>zcs 4 4 (zas (zcc (wTb (wOp (oEq false) (wVar 0) (wC (.int 0)))) (wRet (zcd (zcp (zab (zaR (zab (wVar 1) (zab (wC (.int 0)) waNil))) waNil)))) wNext)
  (zas (zcc (wTb (wOp (oEq false) (wVar 0) (wC (.int 1)))) (wRet (zcd (zcp (zab (zaR (zab (wVar 1) (zab (wC (.int 0)) (zab (wC (.int 1)) waNil)))) waNil)))) wNext)
  (zas (zcc (wTb (wOp (oEq false) (wVar 0) (wC (.int 2)))) (wRet (zcd (zcp (zab (zaR (zab (wVar 1) (zab (zaR (zab (wVar 2) waNil)) waNil))) (zab (zaR (zab (wVar 1) (zab (zaR (zab (wVar 3) (zab (wC (.int 0)) waNil))) waNil))) waNil))))) wNext)
  (zas (zcc (wTb (wOp (oEq false) (wVar 0) (wC (.int 3)))) (wRet (zcd (zcp (zab (zaR (zab (wVar 1) (zab (zaR (zab (wVar 2) waNil)) (zab (wC (.int 0)) waNil)))) (zab (zaR (zab (wVar 1) (zab (zaR (zab (wVar 3) (zab (wC (.int 0)) waNil))) (zab (wC (.int 1)) waNil)))) waNil))))) wNext)
  (zas (zcc (wTb (wOp (oEq false) (wVar 0) (wC (.int 4)))) (wRet (zcd (zcp (zab (zaR (zab (wVar 1) (zab (zaR (zab (wVar 3) (zab (zaR (zab (wVar 3) (zab (wC (.int 0)) waNil))) waNil))) (zab (wC (.int 1)) (zab (wC (.int 2)) waNil))))) (zab (zaR (zab (wVar 1) (zab (zaR (zab (wVar 3) (zab (zaR (zab (wVar 2) waNil)) waNil))) (zab (wC (.int 0)) (zab (wC (.int 1)) waNil))))) waNil))))) wNext)
  (wRet (zcd (zcp (zab (zaR (zab (wVar 1) waNil)) waNil)))))))))
noncomputable def zbW:Nat→WSp
 |0=>zbh
 |r+1=>zcs 4 3 (zas (zcc (wTb (wOp (oEq false) (wVar 0) (wC (.int 0)))) (wRet (zcd (zcp (zab (zaR (zab (wOp oIx (wVar 1) (wC (.int 2))) waNil)) (zab (zaR (zab (wOp oIx (wVar 1) (wC (.int 5))) waNil)) (zab (zaR (zab (wOp oIx (wVar 1) (wC (.int 3))) (zab (zaR (zab (wOp oIx (wVar 1) (wC (.int 5))) waNil)) waNil))) waNil)))))) wNext)
  (zas (zcc (wTb (wOp (oEq false) (wVar 0) (wC (.int 1)))) (zas (wAsg (zcd (zcp (zab (wC (.int 0)) (zab (zaR (zab (wOp oIx (wVar 1) (wC (.int 3))) (zab (wC (.int 0)) waNil))) (zab (zaR (zab (wOp oIx (wVar 1) (wC (.int 4))) (zab (wC (.int 0)) (zab (wC (.int 0)) waNil)))) (zab (zaR (zab (wOp oIx (wVar 1) (wC (.int 4))) (zab (zaR (zab (wOp oIx (wVar 1) (wC (.int 3))) (zab (wC (.int 0)) waNil))) (zab (zaR (zab (wOp oIx (wVar 1) (wC (.int 2))) waNil)) waNil)))) waNil)))))) (wGN 3))
  (zas (zcc (zfs (wVar 2)) (wRet (zcd (zgB (wVar 3) (zcp (zab (zaR (zab (wOp oIx (wVar 1) (wC (.int 0))) (zab (wC (.int 0)) waNil))) (zab (zaR (zab (wOp oIx (wVar 1) (wC (.int 1))) (zab (zaR (zab (wOp oIx (wVar 1) (wC (.int 3))) (zab (wC (.int 0)) waNil))) (zab (wC (.int 0)) waNil)))) (zab (zaR (zab (wOp oIx (wVar 1) (wC (.int 3))) (zab (zaR (zab (wOp oIx (wVar 1) (wC (.int 0))) (zab (wC (.int 0)) waNil))) waNil))) waNil))))))) wNext)
  (wRet (zcd (zgB (wVar 3) (zcp (zab (zaR (zab (wOp oIx (wVar 1) (wC (.int 2))) waNil)) (zab (zaR (zab (wOp oIx (wVar 1) (wC (.int 3))) (zab (zaR (zab (wOp oIx (wVar 1) (wC (.int 5))) waNil)) waNil))) waNil)))))))) wNext)
  (zas (zcc (wTb (wOp (oEq false) (wVar 0) (wC (.int 3)))) (zas (wAsg (zcd (zcp (zab (zaR (zab (wOp oIx (wVar 1) (wC (.int 4))) (zab (zaR (zab (wOp oIx (wVar 1) (wC (.int 4))) (zab (wC (.int 0)) (zab (wC (.int 1)) waNil)))) (zab (wC (.int 2)) waNil)))) (zab (zaR (zab (wOp oIx (wVar 1) (wC (.int 4))) (zab (wC (.int 2)) (zab (zaR (zab (wOp oIx (wVar 1) (wC (.int 4))) (zab (wC (.int 1)) (zab (wC (.int 0)) waNil)))) waNil)))) (zab (zaR (zab (wOp oIx (wVar 1) (wC (.int 4))) (zab (zaR (zab (wOp oIx (wVar 1) (wC (.int 4))) (zab (wC (.int 0)) (zab (wC (.int 0)) waNil)))) (zab (zaR (zab (wOp oIx (wVar 1) (wC (.int 4))) (zab (wC (.int 1)) (zab (wC (.int 2)) waNil)))) waNil)))) waNil))))) (wGN 3))
  (zas (zcc (zfs (wVar 2)) (wRet (zcd (zgB (wVar 3) (zcp (zab (zaR (zab (wOp oIx (wVar 1) (wC (.int 0))) (zab (zaR (zab (wOp oIx (wVar 1) (wC (.int 4))) (zab (zaR (zab (wOp oIx (wVar 1) (wC (.int 4))) (zab (wC (.int 2)) (zab (wC (.int 0)) waNil)))) (zab (wC (.int 1)) waNil)))) waNil))) (zab (zaR (zab (wOp oIx (wVar 1) (wC (.int 1))) (zab (wC (.int 1)) (zab (zaR (zab (wOp oIx (wVar 1) (wC (.int 4))) (zab (wC (.int 0)) (zab (wC (.int 2)) waNil)))) waNil)))) waNil)))))) wNext)
  (wRet (zcd (zgB (wVar 3) (zcp (zab (wC (.int 0)) (zab (wC (.int 2)) (zab (zaR (zab (wOp oIx (wVar 1) (wC (.int 4))) (zab (wC (.int 1)) (zab (wC (.int 1)) waNil)))) (zab (zaR (zab (wOp oIx (wVar 1) (wC (.int 5))) waNil)) waNil)))))))))) wNext)
  (zas (wAsg (zcd (zcp (zab (zaR (zab (wOp oIx (wVar 1) (wC (.int 4))) (zab (wC (.int 0)) (zab (wC (.int 1)) waNil)))) (zab (zaR (zab (wOp oIx (wVar 1) (wC (.int 4))) (zab (wC (.int 1)) (zab (wC (.int 0)) waNil)))) (zab (zaR (zab (wOp oIx (wVar 1) (wC (.int 4))) (zab (zaR (zab (wOp oIx (wVar 1) (wC (.int 3))) (zab (wC (.int 0)) waNil))) (zab (wC (.int 1)) waNil)))) (zab (zaR (zab (wOp oIx (wVar 1) (wC (.int 4))) (zab (zaR (zab (wOp oIx (wVar 1) (wC (.int 4))) (zab (wC (.int 0)) (zab (wC (.int 0)) waNil)))) (zab (wC (.int 1)) waNil)))) waNil)))))) (wGN 3))
  (zas (zcc (zfs (wVar 2)) (wRet (zcd (zgB (wVar 3) (zcp (zab (zaR (zab (wOp oIx (wVar 1) (wC (.int 1))) (zab (wC (.int 1)) (zab (wC (.int 0)) waNil)))) (zab (zaR (zab (wOp oIx (wVar 1) (wC (.int 0))) (zab (zaR (zab (wOp oIx (wVar 1) (wC (.int 4))) (zab (wC (.int 0)) (zab (wC (.int 1)) waNil)))) waNil))) waNil)))))) wNext)
  (wRet (zcd (zgB (wVar 3) (zcp (zab (wC (.int 0)) (zab (wC (.int 1)) (zab (zaR (zab (wOp oIx (wVar 1) (wC (.int 3))) (zab (wC (.int 1)) waNil))) (zab (zaR (zab (wOp oIx (wVar 1) (wC (.int 5))) waNil)) waNil)))))))))))))
noncomputable def zck (r:Nat) (self:WSp):WS:=(zas (wAsg (zan (zbW r) (zab (zan (zaA r) (zab (wVar 9) waNil)) (zab (wVar 2) (zab (wVar 4) waNil)))) (wGN 10))
  (zas (wAsg (zan (zaK r) (zab (wVar 0) (zab (wOp zdF (wOp zdF (wOp zdF (wVar 1) (wC (.int 2))) (wOp (zdp CMul λi j=> .int (i*j)) (wC (.int 2)) (wVar 6))) (wVar 8)) waNil))) (wGN 11))
  (zdj (wM rvL zcg (wVar 5) (zab (zaR (zab (wOp oIx (wVar 3) (wB zfq (zab (wVar 5) waNil))) (zab (wVar 9) (zab (wOp oIx (wVar 10) (wOp (zdp (λ_ j=>0<j) λi j=> .int (i % j)) (wVar 11) (wB zfq (zab (wVar 10) waNil)))) waNil)))) waNil)))))
noncomputable def zdl (r:Nat) (self:WSp):WS:=(zas (wAsg (zan (zcA r) (zab (wOp (zdp (λ_ j=>0<j) λi j=> .int (i % j)) (zan (zaK r) (zab (wVar 0) (zab (wOp zdF (wVar 1) (wVar 6)) waNil))) (wC (.int 6))) (zab (wOp oIx (wVar 2) (wVar 6)) (zab (wOp oIx (wVar 2) (wC (.int 2))) (zab (wOp oIx (wVar 2) (wC (.int 3))) waNil))))) (wGN 7))
  (zgA (zkl (wVar 7)) (wGT (zav (wGN 8) (zav (wGN 9) zcD))) (zck r zbh)))
noncomputable def zbC:Nat→WSp
 |0=>zbh
 |r+1=>zcs 12 5 (zas (wAsg (zcd (zcp waNil)) (wGN 5))
  (zas (zgA (zsI (zab (wC (.int 2)) waNil)) (wGN 6) (zdl r zbh))
  (wRet (wVar 5))))
noncomputable def zeG (r:Nat) (self:WSp):WS:=(wAsg (zcd (zks (zui (wVar 4) woN (woS (zqA (wC (.int 2))))) (zcp (zab (zaR (zab (zqA (wC (.int 1))) (zab (wC (.int 0)) (zab (wOp oIx (wVar 2) (wC (.int 4))) (zab (wSl (wVar 4) (woS (zqA (wC (.int 2)))) woN) waNil))))) waNil)))) (wGN 4))
noncomputable def zeV (r:Nat) (self:WSp):WS:=(zas (wAsg (wOp (zdp (λ_ j=>0<j) λi j=> .int (i % j)) (wVar 6) (wC (.int 8))) (wGN 7))
  (zas (wAsg (zrN (zcp (zab (wC (.int 0)) (zab (wC (.int 0)) (zab (wC (.int 1)) (zab (wC (.int 2)) waNil))))) (wB zid (zab (wVar 7) (zab (wC (.int 3)) waNil)))) (wGN 8))
  (zas (wAsg (zaR (zab (zqA (wC (.int 1))) (zab (wC (.int 0)) (zab (wOp oIx (wVar 2) (zrN (zcp (zab (wC (.int 2)) (zab (wC (.int 5)) (zab (wC (.int 3)) (zab (wC (.int 4)) waNil))))) (wB zid (zab (wVar 7) (zab (wC (.int 3)) waNil))))) waNil)))) (wGN 9))
  (zas (zcc (wTb (wOp oGt (wVar 7) (wC (.int 3)))) (zas (wAsg (wOp (zdp (λ_ j=>0<j) λi j=> .int (i % j)) (wOp (zdp zmW λi j=> .int (i / j)) (wVar 6) (wC (.int 8))) (wB zfq (zab (wVar 1) waNil))) (wGN 10))
  (zas (wAsg (zan (zaA r) (zab (wOp oIx (wOp oIx (wVar 1) (wVar 10)) (wC (.int 1))) waNil)) (wGN 8))
  (zas (wAsg (zaR (zab (wVar 10) (zab (wOp (zdp (λ_ j=>0<j) λi j=> .int (i % j)) (wOp (zdp zmW λi j=> .int (i / j)) (wVar 6) (wC (.int 64))) (wC (.int 8))) (zab (wC (.str "")) waNil)))) (wGN 9))
  (wAsg (wOp zdF (wVar 5) (wC (.int 1))) (wGN 5))))) wNext)
  (zcc (zrE (wTb (wOp oGt (wVar 3) (wC (.int 0)))) (wTb (wOp oLt (wVar 5) (wC (.int 5))))) (zas (wAsg (wOp (zdN λi j=> .int (i - j)) (wVar 3) (wC (.int 1))) (wGN 3))
  (zas (wAsg (zcd (zrw (zrA (zcp (zab (zaR (zab (zqA (wC (.int 1))) (zab (wC (.int 0)) (zab (wOp oIx (wVar 2) (wC (.int 2))) (zab (zcd (zcp waNil)) waNil))))) waNil)) (wOp (zdN λi j=> .int (i - j)) (wVar 8) (wB zfq (zab (wVar 4) waNil)))) (wVar 4))) (wGN 4))
  (zas (wAsg (wOp (zdN λi j=> .int (i - j)) (wB zfq (zab (wVar 4) waNil)) (wVar 8)) (wGN 11))
  (wAsg (zcd (zks (zui (wVar 4) woN (woS (wVar 11))) (zcp (zab (wOp zdF (wVar 9) (zaR (zab (wSl (wVar 4) (woS (wVar 11)) woN) waNil))) waNil)))) (wGN 4))))) wNext)))))
noncomputable def zci:Nat→WSp
 |0=>zbh
 |r+1=>zcs 12 4 (zas (wAsg (zcd (zcp waNil)) (wGN 4))
  (zas (wAsg (wC (.int 0)) (wGN 5))
  (zas (zgA (wIv (wVar 0)) (wGN 6) (zeV r zbh))
  (zas (znG (wTb (wOp oGt (wB zfq (zab (wVar 4) waNil)) (wC (.int 1)))) (zeG r zbh))
  (wRet (zrN (zgB (wVar 4) (zcp (zab (zaR (zab (zqA (wC (.int 1))) (zab (wC (.int 0)) (zab (wOp oIx (wVar 2) (wC (.int 5))) (zab (zcd (zcp waNil)) waNil))))) waNil))) (wC (.int 0))))))))
noncomputable def zfn (r:Nat) (self:WSp):WE:=(zan self (zab (wVar 0) (zab (wVar 1) (zab (wVar 2) waNil))))
noncomputable def zcL:Nat→WSp
 |0=>zbh
 |r+1=>zcs 8 3 (zas (wAsg (wVar 0) (wGT (zav (wGN 3) (zav (wGN 4) (zav (wGN 5) (zav (wGN 6) zcD))))))
  (zas (wAsg (zcd (zcI 1 [1,2] (wIv (wVar 6)) (wGN 0) zfw (zfn r (zcL r)))) (wGN 7))
  (zas (zcc (wTb (wOp oLt (wVar 3) (wC (.int 0)))) (wRet (wOp zdF (zaR (zab (wVar 5) waNil)) (wB zdo (zab (wVar 7) waNil)))) wNext)
  (zas (zcc (wTb (wOp (oEq false) (wOp (zdp (λ_ j=>0<j) λi j=> .int (i % j)) (wOp (zdp zmW λi j=> .int (i / j)) (wVar 4) (wVar 2)) (wC (.int 2))) (wC (.int 1)))) (wRet (wOp zdF (zaR (zab (wOp oIx (wOp oIx (wVar 1) (wVar 3)) (wC (.int 0))) waNil)) (wB zdo (zab (wVar 7) waNil)))) wNext)
  (wRet (zan (zbb r) (zab (wOp oIx (wOp oIx (wVar 1) (wVar 3)) (wC (.int 1))) (zab (wVar 7) waNil))))))))
noncomputable def zeO (r:Nat) (self:WSp):WS:=(zcc (wTb (wOp (oEq false) (wOp oIx (wVar 4) (wC (.int 0))) (wOp oIx (wVar 1) (wC (.int 0))))) (wRet (zan (zbb r) (zab (wOp oIx (wVar 4) (wVar 2)) (zab (wVar 3) waNil)))) wNext)
noncomputable def zeM (r:Nat) (self:WSp):WE:=(zan self (zab (wVar 1) (zab (wVar 0) (zab (wVar 2) waNil))))
noncomputable def zch:Nat→WSp
 |0=>zbh
 |r+1=>zcs 5 3 (zas (wAsg (zcd (zcI 1 [0,2] (wIv (wSl (wVar 1) (woS (wC (.int 1))) woN)) (wGN 0) zfw (zeM r (zch r)))) (wGN 3))
  (zas (zgA (wIv (wVar 0)) (wGN 4) (zeO r zbh))
  (wRet (wOp zdF (wSl (wVar 1) woN (woS (wC (.int 1)))) (wB zdo (zab (wVar 3) waNil))))))
noncomputable def zaH:Nat→WSp
 |0=>zbh
 |r+1=>zcs 1 1 (wRet (ziS (zqB "int" (wVar 0)) (ztN (zqB "bool" (wVar 0)))))
noncomputable def zbY (r:Nat) (self:WSp):WS:=(zas (wAsg (zan (zdy r) (zab (wVar 0) (zab (wVar 1) (zab (zan (zdY r) (zab (wVar 0) (zab (wVar 2) (zab (zcd (zcp (zab (wOp oIx (wVar 7) (wC (.int 0))) waNil))) waNil)))) waNil)))) (wGN 8))
  (zas (zdj (wM rvL zcg (wVar 5) (zab (wOp (zdN λi j=> .int (i - j)) (wVar 3) (zan (zbz r) (zab (wVar 0) (zab (wVar 8) waNil)))) waNil)))
  (zdj (wM rvL zcg (wVar 6) (zab (wOp (zdN λi j=> .int (i - j)) (wVar 4) (zan (zda r) (zab (wVar 0) (zab (wVar 8) waNil)))) waNil)))))
noncomputable def zbo:Nat→WSp
 |0=>zbh
 |r+1=>zcs 9 3 (zas (wAsg (zan (zbz r) (zab (wVar 0) (zab (wVar 1) waNil))) (wGN 3))
  (zas (wAsg (zan (zda r) (zab (wVar 0) (zab (wVar 1) waNil))) (wGN 4))
  (zas (zcc (wOr (znC (zfs (zan (zaH r) (zab (wVar 3) waNil)))) (znC (zfs (zan (zaH r) (zab (wVar 4) waNil))))) (wRet (wC (.bl false))) wNext)
  (zas (zcc (zfs (zan (zcM r) (zab (wVar 1) waNil))) (wRet (ziS (wOp (oEq false) (wVar 3) (wC (.int 0))) (wOp (oEq false) (wVar 4) (wC (.int 0))))) wNext)
  (zas (wAsg (zcd (zcp waNil)) (wGN 5))
  (zas (wAsg (zcd (zcp waNil)) (wGN 6))
  (zas (zgA (wIv (zan (zgW r) (zab (wVar 0) (zab (wVar 1) waNil)))) (wGN 7) (zbY r zbh))
  (wRet (ziS (wOp (oEq false) (wB zon (zab (wVar 5) waNil)) (wC (.int 1))) (wOp (oEq false) (wB zpF (zab (wVar 6) waNil)) (wC (.int 1))))))))))))
noncomputable def zdb (r:Nat) (self:WSp):WS:=(wAsg (zaR (zab (wC (.str "A")) (zab (wVar 4) waNil))) (wGN 4))
noncomputable def zbr:Nat→WSp
 |0=>zbh
 |r+1=>zcs 8 3 (zas (wAsg (zcd (zcp (zab (zaR (zab (wC (.str "A")) (zab (zaR (zab (wOp oIx (wVar 0) (wC (.int 0))) (zab (wC (.int 0)) waNil))) (zab (zrN (zcp (zab (zaR (zab (wOp oIx (wVar 0) (wC (.int 4))) (zab (wC (.int 0)) (zab (wC (.int 0)) waNil)))) (zab (zaR (zab (wOp oIx (wVar 0) (wC (.int 5))) waNil)) waNil))) (wVar 2)) waNil)))) waNil))) (wGN 3))
  (zas (wAsg (zaR (zab (wOp oIx (wVar 0) (wC (.int 5))) waNil)) (wGN 4))
  (zas (zgA (zsI (zab (wVar 1) waNil)) (wGN 5) (zdb r zbh))
  (zas (wAsg (zan (zbz r) (zab (wVar 3) (zab (wVar 4) waNil))) (wGN 6))
  (zas (wAsg (zan (zda r) (zab (wVar 3) (zab (wVar 4) waNil))) (wGN 7))
  (zas (zcc (wOr (znC (zfs (zan (zaH r) (zab (wVar 6) waNil)))) (znC (zfs (zan (zaH r) (zab (wVar 7) waNil))))) (wRet (wC (.bl false))) wNext)
  (wRet (wOp (oEq false) (zaR (zab (wVar 6) (zab (wVar 7) waNil))) (zrN (zcp (zab (zaR (zab (wVar 1) (zab (wOp (zdN λi j=> .int (i - j)) (wOp (zdp ztE λi j=> .int (i*2 ^ j.toNat)) (wC (.int 1)) (wVar 1)) (wC (.int 1))) waNil))) (zab (zaR (zab (wB zid (zab (wC (.int 1)) (zab (wVar 1) waNil))) (zab (wVar 1) waNil))) waNil))) (wVar 2))))))))))
noncomputable def zdA (r:Nat):WS:=(wRet (wC (.bl true)))
noncomputable def zcw (r:Nat):WS:=(zcc (wTb (wOp oGt (wB zfq (zab (wVar 7) waNil)) (wC (.int 0)))) (wAsg (zan (zdy r) (zab (wVar 3) (zab (wVar 4) (zab (zan (zdY r) (zab (wVar 3) (zab (wVar 6) (zab (zcd (zcp (zab (wOp oIx (wOp oIx (wVar 7) (wOp (zdp (λ_ j=>0<j) λi j=> .int (i % j)) (wVar 5) (wB zfq (zab (wVar 7) waNil)))) (wC (.int 0))) waNil))) waNil)))) waNil)))) (wGN 4)) wNext)
noncomputable def zcu (r:Nat) (T:WS):WS:=(zas (wAsg (zan (zgW r) (zab (wVar 3) (zab (wVar 4) waNil))) (wGN 7)) T)
noncomputable def zcB (r:Nat) (T:WS):WS:=(zas (zcc (znC (zfs (zan (zbo r) (zab (wVar 3) (zab (wVar 4) (zab (wVar 6) waNil)))))) (wRet (wC (.bl false))) wNext) T)
noncomputable def zcy (r:Nat) (T:WS):WS:=(zas (wAsg (zan (zch r) (zab (wVar 3) (zab (wVar 4) (zab (wC (.int 1)) waNil)))) (wGN 6)) T)
noncomputable def zdv (r:Nat) (self:WSp):WS:=(zcy r (zcB r (zcu r (zcw r))))
noncomputable def zcP (r:Nat) (T:WS):WS:=(zas (zgA (wIl (zks (zui (wVar 0) (woS (wC (.int 23))) (woS (wC (.int 31)))) (zcp (zab (wC (.int 0)) waNil)))) (wGN 5) (zdv r zbh)) T)
noncomputable def zcZ (r:Nat) (T:WS):WS:=(zas (wAsg (zan (zcL r) (zab (zan (zci r) (zab (wSl (wVar 0) (woS (wC (.int 11))) (woS (wC (.int 23)))) (zab (wVar 3) (zab (wVar 1) (zab (wC (.int 9)) waNil))))) (zab (wVar 3) (zab (wC (.int 1)) waNil)))) (wGN 4)) T)
noncomputable def zcQ (r:Nat) (T:WS):WS:=(zas (wAsg (zan (zbC r) (zab (wVar 0) (zab (wC (.int 4)) (zab (wVar 1) (zab (wVar 2) (zab (wOp (oEq false) (wOp (zdp (λ_ j=>0<j) λi j=> .int (i % j)) (zan (zaK r) (zab (wVar 0) (zab (wC (.int 10)) waNil))) (wC (.int 2))) (wC (.int 1))) waNil)))))) (wGN 3)) T)
noncomputable def zcX (r:Nat) (T:WS):WS:=(zas (wAsg (zan (zbS r) (zab (zan (zaK r) (zab (wVar 0) (zab (wC (.int 2)) waNil))) (zab (zan (zaK r) (zab (wVar 0) (zab (wC (.int 3)) waNil))) (zab (wC (.bl true)) waNil)))) (wGN 2)) T)
noncomputable def zcY (r:Nat) (T:WS):WS:=(zas (zcc (znC (zfs (zan (zbr r) (zab (wVar 1) (zab (wOp (zdp (λ_ j=>0<j) λi j=> .int (i % j)) (wOp (zdp zmW λi j=> .int (i / j)) (zan (zaK r) (zab (wVar 0) (zab (wC (.int 10)) waNil))) (wC (.int 2))) (wC (.int 39))) (zab (wOp (zdp (λ_ j=>0<j) λi j=> .int (i % j)) (wOp (zdp zmW λi j=> .int (i / j)) (zan (zaK r) (zab (wVar 0) (zab (wC (.int 10)) waNil))) (wC (.int 78))) (wC (.int 2))) waNil)))))) (wRet (wC (.bl false))) wNext) T)
noncomputable def zcT (r:Nat) (T:WS):WS:=(zas (wAsg (zan (zbS r) (zab (zan (zaK r) (zab (wVar 0) (zab (wC (.int 0)) waNil))) (zab (zan (zaK r) (zab (wVar 0) (zab (wC (.int 1)) waNil))) (zab (wC (.bl false)) waNil)))) (wGN 1)) T)
noncomputable def zdm:Nat→WSp
 |0=>zbh
 |r+1=>zcs 8 1 (zcT r (zcY r (zcX r (zcQ r (zcZ r (zcP r (zdA r)))))))
theorem zeB{r:Nat}{t:Tr}{S:Sto}{Q:WK}{E:Str→Sto→Prop}(h:Q (.tup (encs t.kids)) S):zcn (r+1) [enc t] S Q E:=by
 rw[zcn];cases t with
 |bl n=>
  simp only[enc];walk_at "wp";exact⟨aX _,S, .refl,h⟩
 |nd s ts=>
  simp only[enc];walk_at "wp";exact⟨S, .refl,h⟩
mutual
noncomputable def Tr.pl (p:List Int):Tr→List (List Int)
 | .bl _=>[p]
 | .nd _ ts=>p::pls p 0 ts
noncomputable def pls (p:List Int) (i:Nat):List Tr→List (List Int)
 | []=>[]
 |t::ts=>t.pl (p++[(i:Int)])++pls p (i+1) ts
end
mutual
theorem zsN:∀(t:Tr) (p:List Int),(t.pl p).length=t.weight
 | .bl _,p=>by simp [Tr.pl,Tr.weight]
 | .nd _ ts,p=>by simp [Tr.pl,Tr.weight,zoS ts p 0];omega
theorem zoS:∀(ts:List Tr) (p:List Int) (i:Nat),(pls p i ts).length=wts ts
 | [],p,i=>by simp [pls,wts]
 |t::ts,p,i=>by simp [pls,wts,zsN t,zoS ts p (i+1)]
end
theorem zmv{p:List Int}{i:Int}{S:Sto}{Q:WK}:zdF (zbJ p) (.tup [.int i]) S Q=(p.length+1≤sizeLine∧Q (zbJ (p++[i])) S):=by
 unfold zbJ;rw[zga];simp
mutual
theorem ziD:∀(t:Tr) {r:Nat}{p:List Int}{a:Addr}{xs:List W}{S:Sto}{Q:WK}{E:Str→Sto→Prop},t.depth≤r→S a=ae (.lst xs)→xs.length+t.weight≤1000000→p.length+t.depth≤1000000→
  Q .non (put S a (.lst (xs++(t.pl p).map zbJ)))→zaN (r+1) [enc t,zbJ p, .ref a] S Q E
 | .bl n,r,p,a,xs,S,Q,E,hr,ha,hx,hp,h=>by
  obtain⟨r,rfl⟩:∃r',r=r'+1:=⟨r - 1,by simp [Tr.depth]at hr;omega⟩
  rw[zaN];walk_at "wp";simp only[zal ha,true_and];simp [Tr.weight]at hx;refine⟨zbF (by omega),?_⟩;refine zeB ?_;simp only[Tr.kids,encs,nums,forL];simp only[Tr.pl,aB,cu]at h;exact⟨_, .refl,h⟩
 | .nd s ts,r,p,a,xs,S,Q,E,hr,ha,hx,hp,h=>by
  simp only[Tr.depth]at hr hp;simp only[Tr.weight]at hx;obtain⟨r,rfl⟩:∃r',r=r'+1:=⟨r - 1,by omega⟩
  rw[zaN];walk_at "wp";simp only[zal ha,true_and];refine⟨zbF (by omega),?_⟩;refine zeB ?_;dsimp only[Tr.kids];refine zgJ ts (xs:=xs++[zbJ p]) (by omega) zag (by simp;omega) (by omega) λx y=>?_;rw[zaM];refine⟨_, .refl,?_⟩;simpa [Tr.pl,bw]using h
theorem zgJ:∀(ts:List Tr) {r:Nat}{p:List Int}{i:Nat}{a:Addr}{xs:List W}{S:Sto}{E:WX}{D:WEnds}{t0 x y:Option W},dts ts≤r→S a=ae (.lst xs)→xs.length+wts ts≤1000000→p.length+1+dts ts≤1000000→
  (∀x y,D.nx [t0,ae (zbJ p),ae (.ref a),x,y] (put S a (.lst (xs++(pls p i ts).map zbJ))))→
  forL (wGT (zav (wGN 3) (zav (wGN 4) zcD))) (zcl (r+1) (zaN (r+1))) E D (λ_=>True) (nums i (encs ts)) [t0,ae (zbJ p),ae (.ref a),x,y] S
 | [],r,p,i,a,xs,S,E,D,t0,x,y,hr,ha,hx,hp,h=>by
  simp only[encs,nums,forL];have:=h x y;simp only[pls,cu,bv,zdB ha]at this;exact this
 |t::ts,r,p,i,a,xs,S,E,D,t0,x,y,hr,ha,hx,hp,h=>by
  simp only[dts]at hr hp;simp only[wts]at hx;simp only[encs,nums,forL,zcl];walk_at "wp";rw[zmv];refine⟨zah (by omega),zah (by omega),ziD t (p:=p++[(i:Int)]) (by omega) ha (by omega) (by simp;omega) ?_⟩;refine⟨_, .refl,zgJ ts (by omega) zag (by simp [zsN];omega) (by omega) λx y=>?_⟩;rw[zaM];simpa [pls,bw]using h x y
end
theorem zoQ{t:Tr}{r:Nat}{S:Sto}{Q:WK}{E:Str→Sto→Prop}(hr:t.depth+1≤r) (hw:t.weight≤100000) (hd:t.depth≤100000) (h:∀a,S a=none→Q (.ref a) (put S a (.lst ((t.pl []).map zbJ)))):zeE (r+1) [enc t] S Q E:=by
 obtain⟨r,rfl⟩:∃r',r=r'+1:=⟨r - 1,by omega⟩
 rw[zeE];walk_at "wp";refine⟨aX _,λa ha=>⟨aX _,ziD t (p:=[]) (xs:=[]) (by omega) zag (by simp;omega) (by simp;omega) ?_⟩⟩;rw[zaM,aN];exact⟨_, .refl,h a ha⟩
noncomputable def Tr.at:Tr→List Int→Option Tr
 |t,[]=>ae t
 | .bl _,_::_=>none
 | .nd _ ts,i::p=>if i<0 then none else match ts[i.toNat]? with
  |some u=>u.at p
  |none=>none
theorem zkc{t u:Tr}{i:Int}{r:Nat}{S:Sto}{Q:WK}{E:Str→Sto→Prop}(hi:0≤i) (hu:t.kids[i.toNat]? =ae u) (h:Q (enc u) S):zbA (r+2) [enc t, .int i] S Q E:=by
 rw[zbA];walk_at "wp";refine zeB ?_;have hl:i.toNat<t.kids.length:=(bG.mp hu).1;walk_at "wp";rw[zaP];rw[if_neg (by omega),if_neg (by omega)];have e:atI (encs t.kids) i=ae (enc u):=by
  have q:=zbZ (xs:=encs t.kids) (n:=i.toNat);rw[cr hi]at q;rw[q,zaE,bo,hu];rfl
 rw[e];exact⟨S, .refl,h⟩
theorem zkI{p:List Int}:∀{t u:Tr}{r:Nat}{S:Sto}{E:WX}{D:WEnds}{x y z:Option W},t.at p=ae u→(∀z,D.nx [x,y,ae (enc u),z] S)→
  forL (wGN 3) (zib (r+2) zbh) E D (λ_=>True) (p.map W.int) [x,y,ae (enc t),z] S:=by
 induction p with
 |nil=>
  intro t u r S E D x y z e h;unfold Tr.at at e;cases e;exact h z
 |cons i p ih=>
  intro t u r S E D x y z e h;cases t with
  |bl n=>cases e
  |nd s ts=>
   unfold Tr.at at e;split at e
   ·cases e
   ·rename_i hi;split at e
    ·rename_i v ev;simp only[aB,forL,zib];walk_at "wp";refine zkc (t:= .nd s ts) (u:=v) (by omega) ev ⟨S, .refl,?_⟩;exact ih e h
    ·cases e
theorem zpW{t u:Tr}{p:List Int}{r:Nat}{S:Sto}{Q:WK}{E:Str→Sto→Prop}(e:t.at p=ae u) (h:Q (enc u) S):zgM (r+3) [enc t,zbJ p] S Q E:=by
 rw[zgM];walk_at "wp";unfold zbJ;dsimp only;exact zkI e λz=>⟨S, .refl,h⟩
def Low (c:Nat):Prop:=97≤c∧c≤122
def zbG (x:Str):Prop:=1≤x.cps.toList.length∧x.cps.toList.length≤8∧ ∀c∈x.cps.toList,Low c
def zbp (x:Str):Prop:=∃c r,x.cps.toList=c::r∧65≤c∧c≤90∧r.length≤7∧ ∀d∈r,Low d
theorem zum:(aS "abcdefghijklmnopqrstuvwxyz").cps.toList=gv 97 26:=by decide +kernel
theorem zwi:(aS "abcdefghijklmnopqrstuvwxyz").length=26:=by decide +kernel
theorem zjT:∀cs:List Nat,(cS (aS "") (cs.map λc=>(⟨#[c]⟩:Str))).cps.toList=cs
 | []=>rfl
 | [c]=>rfl
 |c::d::r=>by
  have ih:=zjT (d::r);show((⟨#[c]⟩:Str)++aS "" ++cS (aS "") ((d::r).map λc=>(⟨#[c]⟩:Str))).cps.toList=_;show(#[c]++(aS "").cps++(cS (aS "") ((d::r).map λc=>(⟨#[c]⟩:Str))).cps).toList=_;rw[hX,hX,ih];rfl
theorem zqM (cs:List Nat):((cs.map λc=>(⟨#[c]⟩:Str)).map (·.length)).sum=cs.length:=by
 induction cs with
 |nil=>rfl
 |cons c r ih=>
  rw[aB,aB,dH,ih,aW];show 1+r.length=r.length+1;omega
theorem zfM:∀cs:List Nat,zfo (cs.map λc=>W.str ⟨#[c]⟩)=ae (cs.map λc=>(⟨#[c]⟩:Str))
 | []=>rfl
 |c::cs=>by rw[aB,zfo,zfM cs];rfl
theorem zoO (cs:List Nat) (h:cs.length≤1000):(List.map (λx=>x.length) (cs.map λc=>(⟨#[c]⟩:Str))).sum+(cs.map λc=>(⟨#[c]⟩:Str)).length*(aS "").length≤16777216:=by
 have e:=zqM cs;have z:(aS "").length=0:=by decide +kernel
 rw[e,z];omega
theorem zlV{lo:Int}{n:Nat}:(znv lo n).length=n:=by simp [znv]
theorem zwg{α:Type}{xs:List α}(n:Int) (h:xs≠ []):∃(i:Nat) (x:α),xs[i]? =ae x∧atI xs (n % (xs.length:Int))=ae x:=by
 have hp:0<xs.length:=gg.mpr h;have h0:0≤n % (xs.length:Int):=b8 _ (by omega);have h1:n % (xs.length:Int)<(xs.length:Int):=ci _ (by omega);have hlt:(n % (xs.length:Int)).toNat<xs.length:=by omega
 refine⟨(n % (xs.length:Int)).toNat,xs[(n % (xs.length:Int)).toNat],aJ hlt,?_⟩;have e:=zvg (xs:=xs) (j:=(n % (xs.length:Int)).toNat) (v:=xs[(n % (xs.length:Int)).toNat]) (aJ hlt);rw[cr h0]at e;exact e
theorem zep (ts us:List Tr):encs (ts++us)=encs ts++encs us:=by rw[zaE,zaE,zaE,bq]
mutual
noncomputable def Tr.plt (p:List Int):Tr→List (List Int×Tr)
 | .bl n=>[(p, .bl n)]
 | .nd s ts=>(p, .nd s ts)::zdD p 0 ts
noncomputable def zdD (p:List Int) (i:Nat):List Tr→List (List Int×Tr)
 | []=>[]
 |t::ts=>t.plt (p++[(i:Int)])++zdD p (i+1) ts
end
mutual
theorem zpL:∀(t:Tr) (p:List Int),(t.plt p).map (·.1)=t.pl p
 | .bl _,p=>by simp [Tr.plt,Tr.pl]
 | .nd _ ts,p=>by simp [Tr.plt,Tr.pl,zmK ts p 0]
theorem zmK:∀(ts:List Tr) (p:List Int) (i:Nat),(zdD p i ts).map (·.1)=pls p i ts
 | [],p,i=>by simp [zdD,pls]
 |t::ts,p,i=>by simp [zdD,pls,zpL t,zmK ts p (i+1)]
end
mutual
theorem zkZ:∀(t:Tr) (p:List Int),(t.plt p).length=t.weight
 | .bl _,p=>by simp [Tr.plt,Tr.weight]
 | .nd _ ts,p=>by simp [Tr.plt,Tr.weight,zml ts p 0];omega
theorem zml:∀(ts:List Tr) (p:List Int) (i:Nat),(zdD p i ts).length=wts ts
 | [],p,i=>by simp [zdD,wts]
 |t::ts,p,i=>by simp [zdD,wts,zkZ t,zml ts p (i+1)]
end
theorem zoI{s:Str}{ts:List Tr}{i:Nat}{q:List Int}{u:Tr}(h:ts[i]? =ae u):(Tr.nd s ts).at ((i:Int)::q)=u.at q:=by
 rw[Tr.at,if_neg (by omega)];simp [h]
mutual
theorem zhh:∀(t:Tr) (p q:List Int) (u:Tr),(q,u)∈t.plt p→ ∃r,q=p++r∧t.at r=ae u∧r.length<t.depth
 | .bl n,p,q,u,h=>by
  simp only[Tr.plt,aV,jG]at h;obtain⟨rfl,rfl⟩:=h;exact⟨[],by simp,by simp [Tr.at],by simp [Tr.depth]⟩
 | .nd s ts,p,q,u,h=>by
  simp only[Tr.plt,ax,jG]at h;rcases h with⟨rfl,rfl⟩ |h
  ·exact⟨[],by simp,by simp [Tr.at],by simp [Tr.depth];omega⟩
  ·obtain⟨j,v,r,h1,h2,h3,h4⟩:=zqk ts p 0 q u h;refine⟨(j:Int)::r,by rw[h2];simp,by rw[zoI h1];exact h3,by simp [Tr.depth];omega⟩
theorem zqk:∀(ts:List Tr) (p:List Int) (i:Nat) (q:List Int) (u:Tr),(q,u)∈zdD p i ts→ ∃(j:Nat) (v:Tr) (r:List Int),ts[j]? =ae v∧q=p++[((i+j:Nat):Int)]++r∧v.at r=ae u∧r.length<dts ts
 | [],p,i,q,u,h=>by simp [zdD]at h
 |t::ts,p,i,q,u,h=>by
  simp only[zdD,bb]at h;rcases h with h |h
  ·obtain⟨r,h1,h2,h3⟩:=zhh t _ q u h;exact⟨0,t,r,rfl,by simpa using h1,h2,by simp [dts];omega⟩
  ·obtain⟨j,v,r,h1,h2,h3,h4⟩:=zqk ts p (i+1) q u h;refine⟨j+1,v,r,by simpa using h1,?_,h3,by simp [dts];omega⟩
   rw[h2,show i+1+j=i+(j+1) by omega]
end
theorem keep{S:Sto}{a p:Addr}{o x:Ob}(f:S a=ae o) (h:S p=none):put S p x a=ae o:=by rw[zaI (zqX f h)];exact f
theorem zbw{u:Tr}:∀{ts:List Tr},u∈ts→u.depth≤dts ts
 |t::ts,h=>by
  rcases ax.mp h with rfl |h
  ·simp [dts];omega
  ·have:=zbw h;simp [dts];omega
theorem zaS{α:Type}{g:WG}{e:WE}{E:WX}{G:Sto→Prop}{Q:List W→Sto→Prop}{S:Sto}(I:WSt→Prop) (k f:α→W) (hG:G S):∀(xs:List α) (acc:List W) (σ:WSt),I σ→acc.length+xs.length≤1000000→
  (∀x∈xs,∀σ (R:WSt→W→Sto→Prop),I σ→(∀σ1 S3,I σ1→Sub S S3→R σ1 (f x) S3)→g (k x) σ S λσ1 S1=>e E σ1 S1 λy S3=>R σ1 y S3)→
  Q (acc++xs.map f) S→zcE g zfw e E G Q (xs.map k) acc σ S
 | [],acc,σ,hI,hl,step,hQ=>by simpa [zcE]using hQ
 |x::xs,acc,σ,hI,hl,step,hQ=>by
  simp only[aB,zcE,zfw,if_true];simp only[aW]at hl;refine step x aK σ _ hI λσ1 S3 hI1 sb=>⟨zbF (by omega),S,sb,hG,zaS I k f hG xs (acc++[f x]) σ1 hI1 (by simp;omega) (λy hy=>step y (aC _ hy)) ?_⟩;simpa using hQ
theorem zgf{α:Type}{g:WG}{c:WT}{e:WE}{E:WX}{G:Sto→Prop}{Q:List W→Sto→Prop}{S:Sto}(I:WSt→Prop) (k f:α→W) (P:α→Bool) (hG:G S):∀(xs:List α) (acc:List W) (σ:WSt),I σ→acc.length+xs.length≤1000000→
  (∀x∈xs,∀σ (R1:WSt→W→Sto→Prop) (R0:WSt→Sto→Prop),I σ→(P x=true→ ∀σ1 S3,I σ1→Sub S S3→R1 σ1 (f x) S3)→(P x=false→ ∀σ1 S3,I σ1→Sub S S3→R0 σ1 S3)→
   g (k x) σ S λσ1 S1=>c E σ1 S1 λb S2=>if b=true then e E σ1 S2 λy S3=>R1 σ1 y S3 else R0 σ1 S2)→
  Q (acc++(xs.filter P).map f) S→zcE g c e E G Q (xs.map k) acc σ S
 | [],acc,σ,hI,hl,step,hQ=>by simpa [zcE]using hQ
 |x::xs,acc,σ,hI,hl,step,hQ=>by
  simp only[aB,zcE];simp only[aW]at hl;refine step x aK σ _ _ hI (λhp σ1 S3 hI1 sb=>⟨zbF (by omega),S,sb,hG,zgf I k f P hG xs (acc++[f x]) σ1 hI1 (by simp;omega) (λy hy=>step y (aC _ hy)) ?_⟩)
   λhp σ1 S3 hI1 sb=>⟨S,sb,hG,zgf I k f P hG xs acc σ1 hI1 (by omega) (λy hy=>step y (aC _ hy)) ?_⟩
  ·rw[List.filter_cons_of_pos hp]at hQ;simpa using hQ
  ·rw[jZ (by rw[hp];simp)]at hQ;exact hQ
noncomputable def Tr.isBl:Tr→Bool
 | .bl _=>true
 | .nd _ _=>false
noncomputable def Tr.num:Tr→Int
 | .bl n=>n
 | .nd _ _=>0
noncomputable def Tr.bls (t:Tr):List (List Int×Tr):=(t.plt []).filter λx=>x.2.isBl
theorem zde{t:Tr}{x:List Int×Tr}(h:x∈t.bls):t.at x.1=ae x.2∧x.2= .bl x.2.num∧x.1.length<t.depth:=by
 obtain⟨h1,h2⟩:=ip.mp h;obtain⟨r,h3,h4,h5⟩:=zhh t [] x.1 x.2 h1;simp at h3;subst h3;refine⟨h4,?_,h5⟩;obtain⟨p,u⟩:=x;cases u with
 |bl n=>rfl
 |nd s ts=>simp [Tr.isBl]at h2
theorem zkk (t:Tr):t.bls.length≤t.weight:=by
 unfold Tr.bls;exact bC (List.length_filter_le ..) (by rw[zkZ];exact au _)
theorem zhl{t:Tr}{r:Nat}{S:Sto}{Q:WK}{E:Str→Sto→Prop}(hr:t.depth+4≤r) (hw:t.weight≤90000) (h:∀a,S a=none→Q (.ref a) (put S a (.lst (t.bls.map λx=>zbJ x.1)))):zbs (r+1) [enc t] S Q E:=by
 have hd:=zdM t;obtain⟨r,rfl⟩:∃r',r=r'+3:=⟨r - 3,by omega⟩
 rw[zbs];walk_at "wp";refine zoQ (by omega) (by omega) (by omega) λa ha=>?_;walk_at "wp";rw[←zpL,bx];refine zgf (λσ=>∃x,σ=[x,ae (enc t)]) (λx=>zbJ x.1) (λx=>zbJ x.1) (λx=>x.2.isBl) ?_ (t.plt []) [] _ ⟨none,rfl⟩ (by simp [zkZ];omega) (λx hx σ R1 R0 hI h1 h0=>?_) ?_
 ·exact zag
 ·obtain⟨y,rfl⟩:=hI;obtain⟨q,h3,h4,h5⟩:=zhh t [] x.1 x.2 hx;simp at h3;subst h3;walk_at "wp";refine zpW h4 ?_;obtain⟨p,u⟩:=x;cases u with
  |bl n=>
   simp only[enc];walk_at "wp";exact h1 rfl _ _ ⟨_,rfl⟩ .refl
  |nd s ts=>
   simp only[enc];walk_at "wp";exact h0 rfl _ _ ⟨_,rfl⟩ .refl
 ·rw[aN];intro b hb;obtain⟨hb1,hb2⟩:=zct hb;exact⟨_, .put2 (.put .refl ha),h b hb1⟩
theorem ziJ{t:Tr}{r:Nat}{S:Sto}{Q:WK}{E:Str→Sto→Prop}(hr:t.depth+6≤r) (hw:t.weight≤90000) (h:∀a,S a=none→Q (.ref a) (put S a (.lst (t.bls.map λx=> .int x.2.num)))):zdS (r+1) [enc t] S Q E:=by
 obtain⟨r,rfl⟩:∃r',r=r'+3:=⟨r - 3,by omega⟩
 rw[zdS];walk_at "wp";refine zhl (by omega) hw λa ha=>?_;walk_at "wp";have hl:=zkk t;refine zaS (λσ=>∃x,σ=[x,ae (enc t)]) (λx=>zbJ x.1) (λx=> .int x.2.num) ?_ t.bls [] _ ⟨none,rfl⟩ (by simp;omega) (λx hx σ R hI hR=>?_) ?_
 ·exact zag
 ·obtain⟨y,rfl⟩:=hI;obtain⟨h1,h2,h3⟩:=zde hx;simp only[zgN];walk_at "wp";refine zpW h1 ?_;rw[h2];simp only[enc];exact hR _ _ ⟨_,rfl⟩ .refl
 ·rw[aN];intro b hb;obtain⟨hb1,hb2⟩:=zct hb;exact⟨_, .put2 (.put .refl ha),h b hb1⟩
mutual
noncomputable def Tr.fill (us:List Tr):Tr→Tr
 | .bl n=>us.getD n.toNat (.bl n)
 | .nd s ts=> .nd s (fills us ts)
noncomputable def fills (us:List Tr):List Tr→List Tr
 | []=>[]
 |t::ts=>t.fill us::fills us ts
end
mutual
noncomputable def Tr.fits (m:Nat):Tr→Prop
 | .bl n=>0≤n∧n<m
 | .nd _ ts=>fitss m ts
noncomputable def fitss (m:Nat):List Tr→Prop
 | []=>True
 |t::ts=>t.fits m∧fitss m ts
end
theorem zeH (us:List Tr):∀ts:List Tr,fills us ts=ts.map (Tr.fill us)
 | []=>by simp [fills]
 |t::ts=>by simp [fills,zeH us ts]
theorem zeS{m:Nat}{t:Tr}:∀{ts:List Tr},fitss m ts→t∈ts→t.fits m
 |u::ts,h,hm=>by
  simp only[fitss]at h;rcases ax.mp hm with rfl |hm
  ·exact h.1
  ·exact zeS h.2 hm
theorem zeA{us:List Tr}{a:Addr}:∀(d:Nat) {t:Tr}{r:Nat}{S:Sto}{Q:WK}{E:Str→Sto→Prop},t.depth≤d→d≤r+1→S a=ae (.lst (encs us))→t.fits us.length→t.weight≤90000→Q (enc (t.fill us)) S→zcH (r+1) [enc t, .ref a] S Q E
 |0,t,r,S,Q,E,hd,hr,ha,hf,hw,h=>by have:=zaX t;omega
 |d+1, .bl n,r,S,Q,E,hd,hr,ha,hf,hw,h=>by
  simp only[Tr.fits]at hf;simp only[Tr.fill]at h;rw[zcH];simp only[enc];walk_at "wp";have e:atI (encs us) n=ae (enc (us.getD n.toNat (.bl n))):=by
   have q:=zbZ (xs:=encs us) (n:=n.toNat);rw[cr hf.1]at q;rw[q,zaE,bo,aY,aJ (by omega)];rfl
  rw[zal ha,e];exact⟨S, .refl,h⟩
 |d+1, .nd s ts,r,S,Q,E,hd,hr,ha,hf,hw,h=>by
  simp only[Tr.fits]at hf;simp only[Tr.fill]at h;simp only[Tr.depth]at hd;simp only[Tr.weight]at hw;have hk:=zbg ts;rw[zcH];simp only[enc]at h⊢;walk_at "wp";refine⟨zah (by decide),?_⟩;rw[zaE];refine zaS (λσ=>∃x,σ=[x,ae (.ref a)]) enc (λt=>enc (t.fill us)) trivial ts [] _ ⟨none,rfl⟩ (by simp;omega) (λx hx σ R hI hR=>?_) ?_
  ·obtain⟨y,rfl⟩:=hI;have hdx:=zbw hx;have hwx:=zaL hx;have:=zaX x;obtain⟨r,rfl⟩:∃r',r=r'+1:=⟨r - 1,by omega⟩
   simp only[zgO];walk_at "wp";exact zeA d (t:=x) (r:=r) (by omega) (by omega) ha (zeS hf hx) (by omega) (hR _ _ ⟨_,rfl⟩ .refl)
  ·rw[aN];refine⟨zah (by simp;omega),S, .refl,?_⟩;have e:encs (fills us ts)=ts.map λt=>enc (t.fill us):=by rw[zaE,zeH,bx];rfl
   rw[e]at h;exact h
theorem zdL (t:Tr):t.at []=ae t:=by cases t<;>rfl
theorem zrm{s:Str}{ts:List Tr}{i:Int}{p:List Int}{u:Tr}(h:(Tr.nd s ts).at (i::p)=ae u):∃v,0≤i∧ts[i.toNat]? =ae v∧v.at p=ae u:=by
 unfold Tr.at at h;split at h
 ·cases h
 ·split at h
  ·exact⟨_,by omega, ‹_›,h⟩
  ·cases h
theorem zlH:∀(q:List Int) {D t:Tr}(r:List Int),D.at q=ae t→D.at (q++r)=t.at r
 | [],D,t,r,h=>by rw[zdL]at h;cases h;rfl
 |i::q, .bl n,t,r,h=>by cases h
 |i::q, .nd s ts,t,r,h=>by
  obtain⟨v,h0,h1,h2⟩:=zrm h;rw[bW];have e:(i:Int)=((i.toNat:Nat):Int):=(cr h0).symm;rw[e,zoI h1];exact zlH q r h2
mutual
noncomputable def Tr.same:Tr→Tr→Bool
 | .bl n, .bl m=>n == m
 | .nd s ts, .nd z us=>s == z&&zfx ts us
 |_,_=>false
noncomputable def zfx:List Tr→List Tr→Bool
 | [],[]=>true
 |t::ts,u::us=>t.same u&&zfx ts us
 |_,_=>false
end
mutual
theorem zlB:∀(t u:Tr),t.same u=true↔t=u
 | .bl n, .bl m=>by simp [Tr.same]
 | .nd s ts, .nd z us=>by simp [Tr.same,zjQ ts us]
 | .bl n, .nd z us=>by simp [Tr.same]
 | .nd s ts, .bl m=>by simp [Tr.same]
theorem zjQ:∀(ts us:List Tr),zfx ts us=true↔ts=us
 | [],[]=>by simp [zfx]
 |t::ts,u::us=>by simp [zfx,zlB t u,zjQ ts us]
 | [],u::us=>by simp [zfx]
 |t::ts,[]=>by simp [zfx]
end
theorem zoC (t:Tr):t.same t=true:=(zlB t t).mpr rfl
theorem zpb{S:Sto}{n:Nat}{xs ys:List W}:eqF S (n+1) (.tup xs) (.tup ys)=zeq (eqF S n) xs ys:=eU (b:=zeq (eqF S n) xs ys) rfl rfl
theorem zxZ{S:Sto}{n:Nat}{x y:Str}:eqF S (n+1) (.str x) (.str y)=ae (x == y):=eU (b:=ae (x == y)) rfl rfl
theorem zjG{S:Sto}{n:Nat}{x y:Int}:eqF S (n+1) (.int x) (.int y)=ae (x == y):=eU (b:=ae (x == y)) rfl rfl
theorem zxH{S:Sto}{n:Nat}{x:Int}{ys:List W}:eqF S (n+1) (.int x) (.tup ys)=ae false:=eU (b:=ae false) rfl rfl
theorem zvV{S:Sto}{n:Nat}{x:Int}{ys:List W}:eqF S (n+1) (.tup ys) (.int x)=ae false:=eU (b:=ae false) rfl rfl
mutual
theorem zvW{S:Sto}:∀(n:Nat) (t u:Tr),t.depth<n→eqF S n (enc t) (enc u)=ae (t.same u)
 |0,t,u,h=>by omega
 |n+1, .bl k, .bl m,h=>by simp only[enc,zjG,Tr.same]
 |n+1, .nd s ts, .nd z us,h=>by
  simp only[Tr.depth]at h;obtain⟨n,rfl⟩:∃m,n=m+1:=⟨n - 1,by omega⟩
  simp only[enc,zpb,zeq,zxZ,Tr.same];rw[zsz (n+1) ts us (by omega)]
 |n+1, .bl k, .nd z us,h=>by simp only[enc,zxH,Tr.same]
 |n+1, .nd s ts, .bl m,h=>by simp only[enc,zvV,Tr.same]
theorem zsz{S:Sto}:∀(n:Nat) (ts us:List Tr),dts ts<n→zeq (eqF S n) (encs ts) (encs us)=ae (zfx ts us)
 |n,[],[],h=>by simp only[encs,zeq,zfx]
 |n,[],u::us,h=>by simp only[encs,zeq,zfx]
 |n,t::ts,[],h=>by simp only[encs,zeq,zfx]
 |n,t::ts,u::us,h=>by
  simp only[dts]at h;simp only[encs,zeq,zfx,zvW n t u (by omega),zsz n ts us (by omega)]
end
theorem zio (j:Int) (m:Nat):znv j (m+1)= .int j::znv (j+1) m:=by
 unfold znv;rw[gB,aB,bx];congr 1
 ·simp
 ·apply cC;intro i _;simp only[iI,W.int.injEq];omega
theorem zgh{α:Type}{xs:List α}{i:Int}(h0:0≤i) (h1:i<xs.length):∃x,atI xs i=ae x∧x∈xs:=by
 have q:=zbZ (xs:=xs) (n:=i.toNat);rw[cr h0,aJ (by omega)]at q;exact⟨_,q,c5 ..⟩
theorem ztZ{ss:List Str}{i:Int}(h0:0≤i) (h1:i<ss.length):∃x,atI (ss.map W.str) i=ae (.str x)∧x∈ss:=by
 obtain⟨w,h,m⟩:=zgh (xs:=ss.map W.str) h0 (by simpa using h1);obtain⟨x,hx,rfl⟩:=aM.mp m;exact⟨x,h,hx⟩
theorem zkE{g:WG}{b:WS}{E:WX}{D:WEnds}(I:Nat→WSt→Sto→Prop) (n:Nat)
  (step:∀i,i<n→ ∀σ S (N:WSt→Sto→Prop),I i σ S→(∀σ' S' S'',Sub S'' S'→I (i+1) σ' S''→N σ' S')→g (.int i) σ S λσ1 S1=>b E { D with nx:=N,ct:=N,bk:=D.nx } σ1 S1)
  (done:∀σ S,I n σ S→D.nx σ S) {σ:WSt}{S:Sto}(h:I 0 σ S):forL g b E D (λ_=>True) (znv 0 n) σ S:=by
 refine zkf (λws σ S=>∃i,i≤n∧ws=znv (i:Int) (n - i)∧I i σ S) ?_ ?_ _ _ _ ⟨0,aX _,rfl,h⟩
 ·rintro w ws σ S N ⟨i,hi,e,hI⟩ hN;obtain⟨m,hm⟩:∃m,n - i=m+1:=by
   rcases ge (n - i) with z |z
   ·rw[z]at e;cases e
   ·exact⟨n - i - 1,by omega⟩
  rw[hm,zio]at e;cases e;exact step i (by omega) σ S N hI λσ' S' S'' sb h'=>hN σ' S' S'' sb trivial ⟨i+1,by omega,by rw[show n - (i+1)=m by omega];push_cast;rfl,h'⟩
 ·rintro σ S ⟨i,hi,e,hI⟩;have:n - i=0:=by
   rcases ge (n - i) with z |z
   ·exact z
   ·obtain⟨m,hm⟩:∃m,n - i=m+1:=⟨n - i - 1,by omega⟩
    rw[hm,zio]at e;cases e
  rw[show i=n by omega]at hI
  exact done σ S hI
theorem zsB{k:Nat}:∀{ts:List Tr},(∀t∈ts,t.depth≤k)→dts ts≤k
 | [],_=>by simp [dts]
 |t::ts,h=>by
  have:=h t aK;have:=zsB (ts:=ts) λu hu=>h u (aC _ hu);simp only[dts];omega
theorem zco{g:WG}{b:WS}{E:WX}{D:WEnds}{G:Sto→Prop}{w:W}{ws:List W}{σ:WSt}{S:Sto}(h:∀N:WSt→Sto→Prop,(∀σ S S',Sub S' S→G S'→forL g b E D G ws σ S'→N σ S)→g w σ S λσ1 S1=>b E { D with nx:=N,ct:=N,bk:=D.nx } σ1 S1):forL g b E D G (w::ws) σ S:=h _ λσ S S' a c d=>⟨S',a,c,d⟩
mutual
noncomputable def Tr.mt:Tr→Tr→Option (List Tr)
 | .bl _,t=>ae [t]
 | .nd s ls, .nd z us=>if s == z&&ls.length == us.length then mts ls us else none
 | .nd _ _, .bl _=>none
noncomputable def mts:List Tr→List Tr→Option (List Tr)
 | [],_=>ae []
 |_::_,[]=>ae []
 |l::ls,u::us=>match l.mt u with
  |none=>none
  |some xs=>match mts ls us with
   |none=>none
   |some ys=>ae (xs++ys)
end
theorem zxc{s z:Str}{ls us:List Tr}{r:Nat}{S:Sto}{Q:WK}{E:Str→Sto→Prop}(h:Q (.bl (s == z&&ls.length == us.length)) S):zbN (r+1) [enc (.nd s ls),enc (.nd z us)] S Q E:=by
 rw[zbN];simp only[enc];walk_at "wp";cases e:s == z with
 |false=>
  rw[e]at h;exact⟨_, .refl,h⟩
 |true=>
  rw[e]at h;walk_at "wp";refine⟨_, .refl,?_⟩;have:(((encs ls).length+1:Nat):Int)=((encs us).length+1:Nat)↔ls.length=us.length:=by rw[zaP,zaP];omega
  have e2:((((encs ls).length+1:Nat):Int) == ((encs us).length+1:Nat))=(ls.length == us.length):=by
   rw[eJ,beq_iff_eq,beq_iff_eq];exact this
  rw[e2];simpa using h
mutual
theorem zsu:∀(l t:Tr) (ys:List Tr),l.mt t=ae ys→ys.length≤l.weight
 | .bl _,t,ys,h=>by simp only[Tr.mt,bF]at h;subst h;simp [Tr.weight]
 | .nd s ls, .nd z us,ys,h=>by
  simp only[Tr.mt]at h;split at h
  ·have:=zoU ls us ys h;simp only[Tr.weight];omega
  ·cases h
 | .nd _ _, .bl _,ys,h=>by simp [Tr.mt]at h
theorem zoU:∀(ls us ys:List Tr),mts ls us=ae ys→ys.length≤wts ls
 | [],us,ys,h=>by simp only[mts,bF]at h;subst h;simp
 |l::ls,[],ys,h=>by simp only[mts,bF]at h;subst h;simp
 |l::ls,u::us,ys,h=>by
  simp only[mts]at h;split at h
  ·cases h
  ·rename_i xs e1;split at h
   ·cases h
   ·rename_i zs e2;cases h;have:=zsu l u xs e1;have:=zoU ls us zs e2;simp only[aZ,wts];omega
end
theorem zgq{r:Nat}{a:Addr}{E:WX}{D:WEnds}{x0 x1:Option W}:∀(ls us:List Tr)
  (one:∀l∈ls,∀{t:Tr}{S:Sto}{xs:List W}{Q:WK}{E:Str→Sto→Prop},t.fits 0→S a=ae (.lst xs)→xs.length+l.weight≤100000→(∀ys,l.mt t=ae ys→Q (.bl true) (put S a (.lst (xs++encs ys))))→(l.mt t=none→ ∀ys,Q (.bl false) (put S a (.lst (xs++ys))))→zaB r [enc l,enc t, .ref a] S Q E)
  {S:Sto}{xs:List W}{x3 x4:Option W},fitss 0 us→S a=ae (.lst xs)→xs.length+wts ls≤100000→
  (∀ys x3 x4,mts ls us=ae ys→D.nx [x0,x1,ae (.ref a),x3,x4] (put S a (.lst (xs++encs ys))))→(mts ls us=none→ ∀ys,D.rt (.bl false) (put S a (.lst (xs++ys))))→
  forL (wGT (zav (wGN 3) (zav (wGN 4) zcD))) (zcb r (zaB r)) E D (λ_=>True) (pairs (encs ls) (encs us)) [x0,x1,ae (.ref a),x3,x4] S
 | [],us,one,S,xs,x3,x4,hf,ha,hl,h1,h0=>by
  have q:=h1 [] x3 x4 (by simp [mts]);simp only[encs,bv,zdB ha]at q;simpa [encs,pairs,forL]using q
 |l::ls,[],one,S,xs,x3,x4,hf,ha,hl,h1,h0=>by
  have q:=h1 [] x3 x4 (by simp [mts]);simp only[encs,bv,zdB ha]at q;simpa [encs,pairs,forL]using q
 |l::ls,u::us,one,S,xs,x3,x4,hf,ha,hl,h1,h0=>by
  simp only[fitss]at hf;simp only[wts]at hl;simp only[encs,pairs];refine zco λN hN=>?_;simp only[zcb];walk_at "wp";refine one l aK hf.1 ha (by omega) (λys e=>?_) λe ys=>?_
  ·walk_at "wp";have hyl:=zsu l u ys e;refine hN _ _ _ .refl trivial (zgq ls us (λl' hl'=>one l' (aC _ hl')) hf.2 zag (by rw[aZ,zaP];omega) (λzs x3 x4 e2=>?_) λe2 zs=>?_)
   ·rw[zaM,bw,←zep];exact h1 _ _ _ (by simp only[mts,e,e2])
   ·rw[zaM,bw];exact h0 (by simp only[mts,e,e2]) _
  ·walk_at "wp";exact h0 (by simp only[mts,e]) ys
theorem zll{a:Addr}:∀(d:Nat) {l t:Tr}{r:Nat}{S:Sto}{xs:List W}{Q:WK}{E:Str→Sto→Prop},l.depth≤d→d≤r→t.fits 0→S a=ae (.lst xs)→xs.length+l.weight≤100000→
  (∀ys,l.mt t=ae ys→Q (.bl true) (put S a (.lst (xs++encs ys))))→(l.mt t=none→ ∀ys,Q (.bl false) (put S a (.lst (xs++ys))))→zaB (r+1) [enc l,enc t, .ref a] S Q E
 |0,l,t,r,S,xs,Q,E,hd,hr,hf,ha,hl,h1,h0=>by have:=zaX l;omega
 |d+1, .bl n,t,r,S,xs,Q,E,hd,hr,hf,ha,hl,h1,h0=>by
  have hw:=zbH (.bl n);rw[zaB];simp only[enc];walk_at "wp";simp only[zal ha,true_and];refine⟨zbF (by omega),_, .refl,?_⟩;have:=h1 [t] (by simp [Tr.mt]);simpa only[encs]using this
 |d+1, .nd s ls, .bl n,r,S,xs,Q,E,hd,hr,hf,ha,hl,h1,h0=>by
  simp only[Tr.fits]at hf;omega
 |d+1, .nd s ls, .nd z us,r,S,xs,Q,E,hd,hr,hf,ha,hl,h1,h0=>by
  simp only[Tr.fits]at hf;simp only[Tr.depth]at hd;simp only[Tr.weight]at hl;obtain⟨r,rfl⟩:∃r',r=r'+1:=⟨r - 1,by omega⟩
  have en:∀s ts,enc (.nd s ts)= .tup (.str s::encs ts):=λs ts=>by simp [enc]
  rw[zaB];walk_at "wp";rw[en,en];walk_at "wp";rw[←en,←en];refine zxc ?_;rw[en,en];walk_at "wp";simp only[Tr.mt]at h1 h0;cases e:(s == z&&ls.length == us.length) with
  |false=>
   rw[e]at h0;have:=h0 (by simp) [];rw[bv,zdB ha]at this;exact⟨_, .refl,this⟩
  |true=>
   rw[e]at h0 h1;simp only[if_true]at h0 h1;walk_at "wp";refine zgq ls us (λl hl' {t S xs Q E} f1 f2 f3 f4 f5=>zll d (by have:=zbw hl';omega) (by omega) f1 f2 f3 f4 f5) hf ha (by omega) (λys x3 x4 e=>?_) λe ys=>?_
   ·walk_at "wp";exact⟨_, .refl,h1 ys e⟩
   ·exact⟨_, .refl,h0 e ys⟩
theorem zdX{l t:Tr}{r:Nat}{S:Sto}{Q:WK}{E:Str→Sto→Prop}(hr:l.depth<r) (hf:t.fits 0) (hw:l.weight≤90000) (h1:∀ys,l.mt t=ae ys→ ∀a,S a=none→Q (.ref a) (put S a (.lst (encs ys)))) (h0:l.mt t=none→Q .non S):zbM (r+1) [enc l,enc t] S Q E:=by
 obtain⟨r,rfl⟩:∃r',r=r'+1:=⟨r - 1,by omega⟩
 rw[zbM];walk_at "wp";refine⟨aX _,λa ha=>zll l.depth (au _) (by omega) hf zag (by simpa using(by omega:l.weight≤100000)) (λys e=>?_) λe ys=>?_⟩
 ·walk_at "wp";exact⟨_, .refl,h1 ys e a ha⟩
 ·walk_at "wp";exact⟨_, .put .refl ha,h0 e⟩
mutual
theorem zjP:∀(l t:Tr) (ys:List Tr),l.mt t=ae ys→wts ys≤t.weight
 | .bl _,t,ys,h=>by simp only[Tr.mt,bF]at h;subst h;simp [wts]
 | .nd s ls, .nd z us,ys,h=>by
  simp only[Tr.mt]at h;split at h
  ·have:=zhe ls us ys h;simp only[Tr.weight];omega
  ·cases h
 | .nd _ _, .bl _,ys,h=>by simp [Tr.mt]at h
theorem zhe:∀(ls us ys:List Tr),mts ls us=ae ys→wts ys≤wts us
 | [],us,ys,h=>by simp only[mts,bF]at h;subst h;simp [wts]
 |l::ls,[],ys,h=>by simp only[mts,bF]at h;subst h;simp [wts]
 |l::ls,u::us,ys,h=>by
  simp only[mts]at h;split at h
  ·cases h
  ·rename_i xs e1;split at h
   ·cases h
   ·rename_i zs e2;cases h;have:=zjP l u xs e1;have:=zhe ls us zs e2;simp only[zea,wts];omega
end
noncomputable def zha (c:Nat):Bool:=decide (97≤c)&&decide (c≤122)
noncomputable def small (xs:List Nat):Bool:=xs.all zha
theorem ztT{s:Str}{a:Nat}(hs:s.cps.toList=[a]) (c:Nat):(!decide ((⟨#[c]⟩:Str).cps.toList<s.cps.toList))=decide (a≤c):=by
 rw[hs];show(!decide (([c]:List Nat)< [a]))=_;by_cases h:a≤c
 ·rw[decide_eq_true h,decide_eq_false (λz=>by have:=(zlp c a).mp z;omega)];rfl
 ·rw[decide_eq_false h,decide_eq_true ((zlp c a).mpr (by omega))];rfl
theorem ztJ{s:Str}{a:Nat}(hs:s.cps.toList=[a]) (c:Nat):(!decide (s.cps.toList<(⟨#[c]⟩:Str).cps.toList))=decide (c≤a):=by
 rw[hs];show(!decide (([a]:List Nat)< [c]))=_;by_cases h:c≤a
 ·rw[decide_eq_true h,decide_eq_false (λz=>by have:=(zlp a c).mp z;omega)];rfl
 ·rw[decide_eq_false h,decide_eq_true ((zlp a c).mpr (by omega))];rfl
theorem zxL:(aS "a").cps.toList=[97]:=by decide +kernel
theorem zxz:(aS "z").cps.toList=[122]:=by decide +kernel
theorem zmc (x:Str):(cF x (ae 1) none).cps.toList=x.cps.toList.drop 1:=by
 rw[zpX];unfold zyo;rw[HT.sIx_none];have ez:HT.sIx x.cps.toList.length 0 (ae 1)=min 1 x.cps.toList.length:=HT.sIx_nat x.cps.toList.length 0 1;rw[ez];by_cases h:1≤x.cps.toList.length
 ·rw[eV h,cI (by rw[cG];exact au _)]
 ·have:x.cps.toList=[]:=jJ (by omega);rw[this];rfl
theorem zes (x:Str):x.length=x.cps.toList.length:=by simp [gP]
theorem zja (bs:List Bool):zhp (bs.map W.bl)=ae bs:=by
 induction bs with
 |nil=>rfl
 |cons b bs ih=>rw[aB,zhp,ih];rfl
theorem ziQ{α:Type}(xs:List α) (f:α→Bool):((xs.map f).all _root_.id)=xs.all f:=by rw[fR];rfl
theorem zpd{x:Str}{r:Nat}{S:Sto}{Q:WK}{E:Str→Sto→Prop}(hx:x.length≤1000) (h:Q (.bl (small x.cps.toList)) S):zaV (r+1) [.str x] S Q E:=by
 rw[zes]at hx;rw[zaV];walk_at "wp";unfold zjf;refine zaS (λσ=>∃x,σ=[x]) (λc=> .str ⟨#[c]⟩) (λc=> .bl (zha c)) ?_ x.cps.toList [] _ ⟨none,rfl⟩ (by rw[du];omega) (λc hc σ R hI hR=>?_) ?_
 ·exact trivial
 ·obtain⟨y,rfl⟩:=hI;simp only[zcx];walk_at "wp";rw[ztT zxL,ztJ zxz];unfold zha at hR;cases e:decide (97≤c) with
  |false=>rw[e]at hR;exact hR _ _ ⟨_,rfl⟩ .refl
  |true=>rw[e]at hR;exact hR _ _ ⟨_,rfl⟩ .refl
 ·have e:x.cps.toList.map (λc=>W.bl (zha c))=(x.cps.toList.map zha).map W.bl:=by rw[bx];rfl
  rw[aN,e,zja];dsimp only;rw[ziQ];exact⟨_, .refl,h⟩
noncomputable def Tr.nums (t:Tr):List Int:=t.bls.map λx=>x.2.num
theorem zoh (t:Tr):t.nums.length≤t.weight:=by unfold Tr.nums;rw[ap];exact zkk t
theorem zss (t:Tr):(t.bls.map λx=>W.int x.2.num)=t.nums.map W.int:=by unfold Tr.nums;rw[bx];rfl
theorem zoM{S:Sto}{x:Int}:∀xs:List Int,inF S (.int x) (xs.map W.int)=ae (xs.contains x)
 | []=>rfl
 |y::ys=>by
  simp only[aB,inF,zjG,zoM ys,List.contains_cons];rw[show(y == x)=(x == y) from by rw[eJ,beq_iff_eq,beq_iff_eq];exact eq_comm]
mutual
theorem zsv:∀(t:Tr) (p q:List Int) (u:Tr),t.at q=ae u→(p++q,u)∈t.plt p
 | .bl n,p,[],u,h=>by rw[zdL]at h;cases h;simp [Tr.plt]
 | .bl n,p,i::q,u,h=>by cases h
 | .nd s ts,p,[],u,h=>by rw[zdL]at h;cases h;simp [Tr.plt]
 | .nd s ts,p,i::q,u,h=>by
  obtain⟨v,h0,e1,e2⟩:=zrm h;simp only[Tr.plt,ax];refine .inr ?_;have:=zqq ts p 0 i.toNat q u v e1 e2;rw[ca,cr h0]at this;simpa using this
theorem zqq:∀(ts:List Tr) (p:List Int) (i j:Nat) (q:List Int) (u v:Tr),ts[j]? =ae v→v.at q=ae u→(p++((i+j:Nat):Int)::q,u)∈zdD p i ts
 | [],p,i,j,q,u,v,h1,h2=>by simp at h1
 |t::ts,p,i,0,q,u,v,h1,h2=>by
  simp at h1;subst h1;simp only[zdD,bb];refine .inl ?_;have:=zsv t (p++[(i:Int)]) q u h2;simpa using this
 |t::ts,p,i,j+1,q,u,v,h1,h2=>by
  simp only[zdD,bb];refine .inr ?_;have:=zqq ts p (i+1) j q u v (by simpa using h1) h2;rw[show i+1+j=i+(j+1) by omega]at this
  exact this
end
theorem zuB{t:Tr}{x:List Int×Tr}(h:x∈t.plt []):t.at x.1=ae x.2∧x.1.length<t.depth:=by
 obtain⟨q,h3,h4,h5⟩:=zhh t [] x.1 x.2 h;simp at h3;subst h3;exact⟨h4,h5⟩
theorem zeW{α:Type}{g:WG}{b:WS}{E:WX}{D:WEnds}{G:Sto→Prop}{S:Sto}(hG:G S) (I:WSt→Prop) (key:α→W) (f:α→Option W):∀(xs:List α) (σ:WSt),I σ→
  (∀x∈xs,∀σ (N:WSt→Sto→Prop),I σ→(f x=none→ ∀σ' S',I σ'→Sub S S'→N σ' S')→(∀w,f x=ae w→ ∀S',Sub S S'→D.rt w S')→g (key x) σ S λσ1 S1=>b E { D with nx:=N,ct:=N,bk:=D.nx } σ1 S1)→
  (xs.findSome? f=none→ ∀σ,I σ→D.nx σ S)→(∀w,xs.findSome? f=ae w→ ∀S',Sub S S'→D.rt w S')→forL g b E D G (xs.map key) σ S
 | [],σ,hI,step,done,ret=>by
  have:=done rfl σ hI;simpa [forL]using this
 |x::xs,σ,hI,step,done,ret=>by
  rw[aB];refine zco λN hN=>?_;refine step x aK σ N hI (λe σ' S' hI' sb=>?_) λw e S' sb=>ret w (by rw[eg,e]) S' sb;refine hN _ _ S sb hG (zeW hG I key f xs σ' hI' (λy hy=>step y (aC _ hy)) (λe2=>done (by rw[eg,e];exact e2)) λw e2=>ret w (by rw[eg,e];exact e2))
abbrev Tn:=Str×Tr×Tr
noncomputable def zbi (t:Tn):W:= .tup [.str t.1,enc t.2.1,enc t.2.2]
noncomputable def Tn0:Tn:=("", .bl 0, .bl 0)
noncomputable def lf (ts:List Tn) (j:Nat):Tr:=(ts.getD j Tn0).2.1
theorem znr (n:Nat):znv 0 n=(ba n).map λ(i:Nat)=>W.int i:=by
 unfold znv;apply cC;intro i _;simp
theorem zgP{r:Nat}{a b:Addr}{ps:List W}{E:WX}{D:WEnds}{x0:Option W}(hba:b≠a):∀(ts:List Tr) {S:Sto}{us:List Tr}{x2:Option W},S a=ae (.lst (encs us))→S b=ae (.lst ps)→us.length+wts ts≤200000→
  (∀x2,D.nx [x0,ae (.ref a),x2] (put S a (.lst (encs (us++ts.flatMap Tr.kids)))))→
  forL (wGN 2) (zbn (r+1) zbh) E D (λS'=>S' b=ae (.lst ps)) (encs ts) [x0,ae (.ref a),x2] S
 | [],S,us,x2,ha,hb,hl,h=>by
  have:=h x2;simp only[fD,bv,zdB ha]at this;simpa [encs,forL]using this
 |t::ts,S,us,x2,ha,hb,hl,h=>by
  simp only[wts]at hl;have hk:=zbg t.kids;have hw:=zdz t;simp only[encs];refine zco λN hN=>?_;simp only[zbn];walk_at "wp";simp only[zal ha,true_and];refine zeB ?_;walk_at "wp";rw[zal ha];refine⟨zah (by rw[zaP,zaP];omega),hN _ _ _ .refl (by rw[zaI hba];exact hb) ?_⟩;rw[←zep];refine zgP hba ts zag (by rw[zaI hba];exact hb) (by rw[aZ];omega) λx2=>?_;rw[zaM];have:=h x2;rw[dU,←bw]at this;exact this
theorem zkM{ts:List Tr}{b:Addr}{r:Nat}{S:Sto}{Q:WK}{E:Str→Sto→Prop}(hb:S b=ae (.lst (encs ts))) (hw:wts ts≤100000) (h:∀a,S a=none→Q (.ref a) (put S a (.lst (encs (ts.flatMap Tr.kids))))):zbf (r+2) [.ref b] S Q E:=by
 rw[zbf];walk_at "wp";refine⟨aX _,λa ha=>?_⟩;have hba:=zqX hb ha;rw[zal (keep hb ha)];refine zgP (us:=[]) hba ts (by simp [zag,encs]) (keep hb ha) (by simpa using(by omega:wts ts≤200000)) λx2=>?_;rw[zaM];walk_at "wp";exact⟨_, .refl,h a ha⟩
noncomputable def Tr.small (t:Tr):Bool:=decide (t.weight≤400)&&decide (t.depth≤40)
theorem zmR{t:Tr}{r:Nat}{S:Sto}{Q:WK}{E:Str→Sto→Prop}(hw:t.weight≤90000) (h:Q (.bl t.small) S):zcm (r+3) [enc t] S Q E:=by
 rw[zcm];walk_at "wp";refine⟨zah (by decide),λa ha=>?_⟩;refine⟨λm σ S'=>∃(ts:List Tr) (k d:Nat) (b:Addr),m=wts ts∧k+wts ts=t.weight∧d+dts ts=t.depth∧k≤400∧d≤40∧S b=none∧S'=put S b (.lst (encs ts))∧σ=[ae (enc t),ae (.int k),ae (.int d),ae (.ref b)],⟨_,[t],0,0,a,rfl,by simp [wts],by simp [dts],by decide,by decide,ha,by simp [encs],rfl⟩,?_⟩
 rintro m σ S' ⟨ts,k,d,b,rfl,hwt,hk,hk4,hd4,hb,rfl,rfl⟩;walk_at "wp";cases ts with
 |nil=>
  simp only[encs,jR];walk_at "wp";simp only[dts,wts,Nat.add_zero]at hk hwt;have e:t.small=true:=by unfold Tr.small;rw[decide_eq_true (by omega),decide_eq_true (by omega)];rfl
  rw[e]at h;exact⟨_, .put .refl hb,h⟩
 |cons u us=>
  have hne:(encs (u::us)).isEmpty=false:=by simp [encs]
  rw[hne];have hfl:=zhX (u::us);have hdf:=zhA (ts:=u::us) (by simp);have hlw:=zbg (u::us);simp only[zdP];walk_at "wp";rw[zaP];have no:400<t.weight∨40<t.depth→ ∃S'',Sub S'' (put S b (Ob.lst (encs (u::us))))∧Q (W.bl false) S'':=λz=>by
   have e:t.small=false:=by
    unfold Tr.small;rcases z with z |z
    ·rw[decide_eq_false (by omega)];rfl
    ·rw[decide_eq_false (p:=t.depth≤40) (by omega),eG]
   rw[e]at h;exact⟨_, .put .refl hb,h⟩
  split
  ·exact no (.inl (by omega))
  ·split
   ·exact no (.inr (by omega))
   ·refine zkM zag (by omega) λc hc=>?_;obtain⟨hc1,hc2⟩:=zct hc;refine⟨wts ((u::us).flatMap Tr.kids),put S c (.lst (encs ((u::us).flatMap Tr.kids))),by simp only[aW]at hfl;omega, .put2 (.put .refl hb),_,k+(u::us).length,d+1,c,rfl,by omega,by omega,by omega,by omega,hc1,rfl,?_⟩
    push_cast
    rfl
theorem zdw{ns:List Int}{k:Int}{r:Nat}{S:Sto}{Q:WK}{E:Str→Sto→Prop}(h0:0≤k) (h:∀n:Int,Q (.int n) S):zaK (r+1) [.scr ns, .int k] S Q E:=by
 rw[zaK];walk_at "wp";split
 ·obtain⟨x,e,_⟩:=zgh (xs:=ns) (i:=k) h0 (by omega);rw[e];exact⟨S, .refl,h _⟩
 ·exact⟨S, .refl,h _⟩
noncomputable def lt (rs:List Int) (pos:Int) (k j:Nat):Nat:=97+((rs.getD j 0+(k:Int)*(if(0+(j:Int) == pos)=true then 1 else 0)) % 26).toNat
noncomputable def zeP (rs:List Int) (pos:Int) (k:Nat):List Nat:=(ba rs.length).map (lt rs pos k)
noncomputable def wd0 (rs:List Int) (pos:Int) (k:Nat):Str:=cS (aS "") ((zeP rs pos k).map λc=>(⟨#[c]⟩:Str))
noncomputable def wd1 (rs:List Int) (pos:Int) (k:Nat):Str:=dk ⟨#[lt rs pos k 0]⟩++cF (wd0 rs pos k) (ae 1) none
noncomputable def wd (great:Bool) (rs:List Int) (pos:Int) (k:Nat):Str:=if great then wd1 rs pos k else wd0 rs pos k
theorem zgV (rs:List Int) (pos:Int) (k j:Nat):Low (lt rs pos k j):=by
 have h0:=b8 (rs.getD j 0+(k:Int)*(if(0+(j:Int) == pos)=true then 1 else 0)) (show(26:Int)≠0 by decide)
 have h1:=ci (rs.getD j 0+(k:Int)*(if(0+(j:Int) == pos)=true then 1 else 0)) (show(0:Int)<26 by decide)
 unfold lt Low;omega
theorem zxk{n:Int}(h0:0≤n) (h1:n<26):atI (aS "abcdefghijklmnopqrstuvwxyz").cps.toList n=ae (97+n.toNat):=by
 have e:=zbZ (xs:=(aS "abcdefghijklmnopqrstuvwxyz").cps.toList) (n:=n.toNat);rw[cr h0]at e;rw[e,zum,List.getElem?_range' (by omega)];simp
theorem zfG (rs:List Int) (pos:Int) (k:Nat):(wd0 rs pos k).cps.toList=zeP rs pos k:=zjT _
theorem zgu (rs:List Int) (pos:Int) (k:Nat):(zeP rs pos k).length=rs.length:=by simp [zeP]
theorem ziL{rs:List Int}{pos:Int}{k c:Nat}(h:c∈zeP rs pos k):Low c:=by
 obtain⟨j,_,rfl⟩:=aM.mp h;exact zgV rs pos k j
theorem znn{rs:List Int}(pos:Int) (k:Nat) (h:1≤rs.length):zeP rs pos k=lt rs pos k 0::(zeP rs pos k).drop 1:=by
 unfold zeP;obtain⟨n,hn⟩:∃n,rs.length=n+1:=⟨rs.length - 1,by omega⟩
 rw[hn,gB];simp
theorem zjk{c:Nat}(h:Low c):dk ⟨#[c]⟩=⟨#[c - 32]⟩:=by
 unfold Low at h;rw[PySem.W.KOpn.upper_one (by omega),if_pos h]
theorem zmC{rs:List Int}(pos:Int) (k:Nat):(wd1 rs pos k).cps.toList=(lt rs pos k 0 - 32)::(zeP rs pos k).drop 1:=by
 unfold wd1;rw[zjk (zgV _ _ _ _)];show((#[lt rs pos k 0 - 32]:Array Nat)++(cF (wd0 rs pos k) (ae 1) none).cps).toList=_;rw[hX,zmc,zfG];rfl
structure Base (rs:List Int) (pos:Int):Prop where
  l1:1≤rs.length
  l8:rs.length≤8
  p0:0≤pos
  p1:pos<rs.length
theorem zmn{rs:List Int}{pos:Int}(b:Base rs pos) (k:Nat):zbG (wd0 rs pos k):=by
 unfold zbG;rw[zfG,zgu];exact⟨b.l1,b.l8,λc hc=>ziL hc⟩
theorem zpV{rs:List Int}{pos:Int}(b:Base rs pos) (k:Nat):zbp (wd1 rs pos k):=by
 have:=zgV rs pos k 0;have hl:=b.l8;unfold Low at this;refine⟨_,_,zmC pos k,by omega,by omega,by rw[cG,zgu];omega,λd hd=>ziL (gF hd)⟩
theorem zyW{rs:List Int}{pos:Int}(b:Base rs pos) {k m:Nat}(hk:k<26) (hm:m<26) (h:k≠m):lt rs pos k pos.toNat≠lt rs pos m pos.toNat:=by
 have p0:=b.p0;have e:(0+((pos.toNat:Nat):Int) == pos)=true:=by rw[beq_iff_eq];omega
 unfold lt;rw[e,if_pos rfl];omega
theorem zvy{great:Bool}{rs:List Int}{pos:Int}(b:Base rs pos) {k m:Nat}(hk:k<26) (hm:m<26) (h:k≠m):wd great rs pos k≠wd great rs pos m:=by
 have hn:=zyW b hk hm h;have p0:=b.p0;have p1:=b.p1;intro e;have e':=congrArg (λx:Str=>x.cps.toList) e;cases great with
 |false=>
  simp only[wd,fA,if_false,zfG]at e';have e2:=congrArg (λl=>l[pos.toNat]?) e';simp only[zeP,bo,dj (show pos.toNat<rs.length by omega),fu,bF]at e2
  exact hn e2
 |true=>
  simp only[wd,if_true,zmC]at e';have e2:=congrArg (λl=>l[pos.toNat]?) e';cases hp:pos.toNat with
  |zero=>
   rw[hp]at hn;have h1:=zgV rs pos k 0;have h2:=zgV rs pos m 0;unfold Low at h1 h2;simp only[hp,fT,bF]at e2;omega
  |succ n=>
   rw[hp]at hn;simp only[hp,d5,iU,zeP,bo]at e2;rw[show 1+n=n+1 by omega,dj (show n+1<rs.length by omega)]at e2
   simp only[fu,bF]at e2;exact hn e2
def zkv (great:Bool) (ws:List Str):Prop:=∃rs pos,Base rs pos∧(ws=(ba 6).map (wd great rs pos)∨(great=false∧ws=[wd0 rs pos 0,wd0 rs pos 1,wd0 rs pos 2,wd0 rs pos 2,wd0 rs pos 2,wd0 rs pos 5]))
structure Signs (w0 w1 w2 w3 w4 w5:Str):Prop where
  ok:∀x∈ [w0,w1,w2,w3,w4,w5],zbG x
  n0:∀x∈ [w1,w2,w3,w4,w5],w0≠x
  n1:∀x∈ [w2,w3,w4,w5],w1≠x
  n5:∀x∈ [w2,w3,w4],w5≠x
theorem zkU{ws:List Str}(h:zkv false ws):∃w0 w1 w2 w3 w4 w5,ws=[w0,w1,w2,w3,w4,w5]∧Signs w0 w1 w2 w3 w4 w5:=by
 obtain⟨rs,pos,b,h⟩:=h;have hs:=λk=>zmn b k;have hn:∀k m:Nat,k<26→m<26→k≠m→wd0 rs pos k≠wd0 rs pos m:=λk m h1 h2 h3=>zvy (great:=false) b h1 h2 h3;rcases h with rfl |⟨_,rfl⟩
 ·refine⟨_,_,_,_,_,_,rfl,⟨?_,?_,?_,?_⟩⟩
  ·simp only[ax,a_,or_false,forall_eq_or_imp,forall_eq];exact⟨hs 0,hs 1,hs 2,hs 3,hs 4,hs 5⟩
  ·simp only[ax,a_,or_false,forall_eq_or_imp,forall_eq];exact⟨hn 0 1 (by decide) (by decide) (by decide),hn 0 2 (by decide) (by decide) (by decide),hn 0 3 (by decide) (by decide) (by decide),hn 0 4 (by decide) (by decide) (by decide),hn 0 5 (by decide) (by decide) (by decide)⟩
  ·simp only[ax,a_,or_false,forall_eq_or_imp,forall_eq];exact⟨hn 1 2 (by decide) (by decide) (by decide),hn 1 3 (by decide) (by decide) (by decide),hn 1 4 (by decide) (by decide) (by decide),hn 1 5 (by decide) (by decide) (by decide)⟩
  ·simp only[ax,a_,or_false,forall_eq_or_imp,forall_eq];exact⟨hn 5 2 (by decide) (by decide) (by decide),hn 5 3 (by decide) (by decide) (by decide),hn 5 4 (by decide) (by decide) (by decide)⟩
 ·refine⟨_,_,_,_,_,_,rfl,⟨?_,?_,?_,?_⟩⟩
  ·simp only[ax,a_,or_false,forall_eq_or_imp,forall_eq];exact⟨hs 0,hs 1,hs 2,hs 2,hs 2,hs 5⟩
  ·simp only[ax,a_,or_false,forall_eq_or_imp,forall_eq];exact⟨hn 0 1 (by decide) (by decide) (by decide),hn 0 2 (by decide) (by decide) (by decide),hn 0 2 (by decide) (by decide) (by decide),hn 0 2 (by decide) (by decide) (by decide),hn 0 5 (by decide) (by decide) (by decide)⟩
  ·simp only[ax,a_,or_false,forall_eq_or_imp,forall_eq];exact⟨hn 1 2 (by decide) (by decide) (by decide),hn 1 2 (by decide) (by decide) (by decide),hn 1 2 (by decide) (by decide) (by decide),hn 1 5 (by decide) (by decide) (by decide)⟩
  ·simp only[ax,a_,or_false,forall_eq_or_imp,forall_eq];exact⟨hn 5 2 (by decide) (by decide) (by decide),hn 5 2 (by decide) (by decide) (by decide),hn 5 2 (by decide) (by decide) (by decide)⟩
structure Titles (ts:List Str):Prop where
  len:ts.length=6
  ok:∀x∈ts,zbp x
  nd:ts.Nodup
theorem zfr{ws:List Str}(h:zkv true ws):Titles ws:=by
 obtain⟨rs,pos,b,h⟩:=h;rcases h with rfl |⟨e,_⟩
 ·refine⟨by simp,λx hx=>?_,?_⟩
  ·obtain⟨k,_,rfl⟩:=aM.mp hx;exact zpV b k
  ·rw[br,jP];refine jU (λ{a c} ha hc hne=>?_) (List.nodup_range (n:=6));have ha:=eL.mp ha;have hc:=eL.mp hc;exact zvy b (by omega) (by omega) hne
 ·cases e
theorem ziZ:∀(ws:List W) {rs:List Int}{sp:Int}{a:Addr}{r:Nat}{S:Sto}{E:WX}{D:WEnds}{x0 x1 x2 x3 x6 x7 x8 x9:Option W},S a=ae (.lst (rs.map W.int))→rs.length+ws.length≤1000→
  (∀(rs':List Int) sp' x6',rs'.length=rs.length+ws.length→D.nx [x0,x1,x2,x3,ae (.int sp'),ae (.ref a),x6',x7,x8,x9] (put S a (.lst (rs'.map W.int))))→
  forL (wGN 6) (zdk r zbh) E D (λ_=>True) ws [x0,x1,x2,x3,ae (.int sp),ae (.ref a),x6,x7,x8,x9] S
 | [],rs,sp,a,r,S,E,D,x0,x1,x2,x3,x6,x7,x8,x9,ha,hl,h=>by
  simp only[forL];have:=h rs sp x6 (by simp);rw[zdB ha]at this;exact this
 |w::ws,rs,sp,a,r,S,E,D,x0,x1,x2,x3,x6,x7,x8,x9,ha,hl,h=>by
  simp only[forL,zdk];walk_at "wp";simp only[aW]at hl h;simp only[zal ha,true_and];refine⟨by decide,zbF (by simp;omega),⟨by decide,by decide⟩,_, .refl,?_⟩
  refine ziZ (r:=r) ws (rs:=rs++[sp % 26]) (by rw[zag];simp) (by simp;omega) λrs' sp' x6' h1=>?_;rw[zaM];exact h rs' sp' x6' (by simp at h1;omega)
theorem zxR{c:Prop} [Decidable c] {a b:Prop}(h1:c→a) (h2:¬c→b):if c then a else b:=by split<;>simp_all
theorem zxU{A T:WS}{E:WX}{D:WEnds}{σ:WSt}{S:Sto}(h:∀T',T'=T→zas A T' E D σ S):zas A T E D σ S:=h T rfl
theorem zlk{one two:Int}{great:Bool}{r:Nat}{S:Sto}{Q:WK}{E:Str→Sto→Prop}(h:∀(a:Addr) (ws:List Str),S a=none→zkv great ws→Q (.ref a) (put S a (.lst (ws.map W.str)))):zbS (r+1) [.int one, .int two, .bl great] S Q E:=by
 rw[zbS];walk_at "wp";have o0:0≤one % 8:=b8 _ (by decide);have o1:one % 8<8:=ci _ (by decide);refine⟨⟨by decide,by decide,by decide⟩,by decide,aX _,λa ha=>⟨by decide,⟨by omega,by omega⟩,?_⟩⟩
 refine ziZ _ (rs:=[]) zag (by simp [zlV];omega) λrs sp x6 hl=>?_;rw[zaM];simp only[du,zlV,ca]at hl;have hl':(rs.length:Int)=1+one % 8:=by rw[hl];omega
 have p0:0≤one / 8 % (rs.length:Int):=b8 _ (by omega);have p1:one / 8 % (rs.length:Int)<(rs.length:Int):=ci _ (by omega);have B:Base rs (one / 8 % (rs.length:Int)):=⟨by omega,by omega,p0,p1⟩
 walk_at "wp";simp only[ap];refine⟨⟨by decide,by decide⟩,by omega,aX _,λb hb=>⟨⟨by decide,by decide⟩,?_⟩⟩
 obtain⟨hb1,hb2⟩:=zct hb;generalize hpos:one / 8 % (rs.length:Int)=pos at B p0 p1⊢;refine zkE (λi σ S'=>∃x6 x9,S'=put (put S a (.lst (rs.map W.int))) b (.lst (((ba i).map (wd great rs pos)).map W.str))∧σ=[ae (.int one),ae (.int two),ae (.bl great),ae (.str (aS "abcdefghijklmnopqrstuvwxyz")),ae (.int sp),ae (.ref a),x6,ae (.int pos),ae (.ref b),x9]) 6 ?_ ?_ ⟨x6,none,rfl,rfl⟩
 ·rintro k hk σ S' N ⟨x6,x9,rfl,rfl⟩ hN;have ea:put (put S a (Ob.lst (rs.map W.int))) b (Ob.lst (((ba k).map (wd great rs pos)).map W.str)) a=ae (.lst (rs.map W.int)):=by rw[zaI (bj hb2),zag]
  simp only[zeh];walk_at "wp";rw[zal ea];simp only[ap];refine⟨⟨by omega,by omega⟩,?_⟩
  rw[bU];refine zaS (λσ=>∃x,σ=[x,ae (.str (aS "abcdefghijklmnopqrstuvwxyz")),ae (.ref a),ae (.int (k:Int)),ae (.int pos)]) (λi:Nat=>W.int (0+(i:Int))) (λi=>W.str ⟨#[lt rs pos k i]⟩) trivial (ba rs.length) [] _ ⟨none,rfl⟩ (by simp;omega) (λi hi σ R hI hR=>?_) ?_
  ·obtain⟨x,rfl⟩:=hI;have hi:=eL.mp hi;simp only[zen];walk_at "wp";have e:=zbZ (xs:=rs.map W.int) (n:=i);rw[show(i:Int)=0+(i:Int) by omega,bo,aJ hi]at e
   rw[zal ea,e];dsimp only[Option.map];walk_at "wp";have ec:=zxk (n:=(rs[i]+(k:Int)*(if(0+(i:Int) == pos)=true then 1 else 0)) % 26) (b8 _ (by decide)) (ci _ (by decide));rw[ec];have el:lt rs pos k i=97+((rs[i]+(k:Int)*(if(0+(i:Int) == pos)=true then 1 else 0)) % 26).toNat:=by
    unfold lt;rw[aY,aJ hi];rfl
   rw[←el];exact⟨.inl ⟨by omega,by omega⟩,by decide,zah (by rw[zwi];decide),hR _ _ ⟨_,rfl⟩ .refl⟩
  ·have es:(ba rs.length).map (λi=>W.str ⟨#[lt rs pos k i]⟩)=(zeP rs pos k).map λc=>W.str ⟨#[c]⟩:=by
    unfold zeP;rw[bx];rfl
   have hw:=zmn B k;rw[aN,es,zfM];refine⟨zoO _ (by rw[zgu];omega),?_⟩;show _;have ew:cS (aS "") ((zeP rs pos k).map λc=>(⟨#[c]⟩:Str))=wd0 rs pos k:=rfl;rw[ew];have hl8:(wd0 rs pos k).length≤8:=by rw[zes];exact hw.2.1
   have fin:∀z:Str,z=wd great rs pos k→ ∀x9:Option W,N [ae (.int one),ae (.int two),ae (.bl great),ae (.str (aS "abcdefghijklmnopqrstuvwxyz")),ae (.int sp),ae (.ref a),ae (.int (k:Int)),ae (.int pos),ae (.ref b),x9] (put (put S a (.lst (rs.map W.int))) b (.lst (((ba k).map (wd great rs pos)).map W.str++[.str z]))):=λz hz x9=>by
    subst hz;refine hN _ _ _ .refl ⟨_,_,?_,rfl⟩;rw[gz,bq,bq];rfl
   have hxl:(((ba k).map (wd great rs pos)).map W.str).length<sizeLine:=zbF (by simp;omega);cases great with
   |false=>
    try walk_at "wp"
    try simp only[zeC,zaM,true_and]
    exact⟨hxl,fin _ rfl _⟩
   |true=>
    walk_at "wp";rw[zfG,znn pos k B.l1,zhn];dsimp only
    try walk_at "wp"
    try simp only[zeC,zaM,true_and]
    refine⟨zah (by omega),?_⟩;have h1:(⟨#[lt rs pos k 0]⟩:Str).length=1:=rfl;have h2:(dk ⟨#[lt rs pos k 0]⟩).length=1:=by rw[zjk (zgV _ _ _ _)];rfl
    have h3:(cF (wd0 rs pos k) (ae 1) none).length≤8:=by
     rw[zes,zmc,cG,←zes];omega
    exact⟨by omega,zah (by omega),zah (by omega),hxl,fin _ rfl _⟩
 ·rintro σ S' ⟨x6,x9,rfl,rfl⟩;have eb:put (put S a (Ob.lst (rs.map W.int))) b (Ob.lst (((ba 6).map (wd great rs pos)).map W.str)) b=ae (.lst (((ba 6).map (wd great rs pos)).map W.str)):=zag;walk_at "wp";cases great with
  |true=>
   walk_at "wp";refine⟨⟨by decide,by decide⟩,by decide,?_⟩
   split
   ·exact⟨_, .put2 (.put .refl ha),h b _ hb1 ⟨rs,pos,B, .inl rfl⟩⟩
   ·exact⟨_, .put2 (.put .refl ha),h b _ hb1 ⟨rs,pos,B, .inl rfl⟩⟩
  |false=>
   walk_at "wp";refine⟨⟨by decide,by decide⟩,by decide,?_⟩
   split
   ·have e6:((ba 6).map (wd false rs pos)).map W.str=[.str (wd0 rs pos 0), .str (wd0 rs pos 1), .str (wd0 rs pos 2), .str (wd0 rs pos 3), .str (wd0 rs pos 4), .str (wd0 rs pos 5)]:=rfl;simp only[e6]
    try walk_at "wp"
    have c3:zdE [W.str (wd0 rs pos 0), .str (wd0 rs pos 1), .str (wd0 rs pos 2), .str (wd0 rs pos 3), .str (wd0 rs pos 4), .str (wd0 rs pos 5)] none (ae 3)=[.str (wd0 rs pos 0), .str (wd0 rs pos 1), .str (wd0 rs pos 2)]:=rfl;have a2:atI [W.str (wd0 rs pos 0), .str (wd0 rs pos 1), .str (wd0 rs pos 2), .str (wd0 rs pos 3), .str (wd0 rs pos 4), .str (wd0 rs pos 5)] 2=ae (.str (wd0 rs pos 2)):=rfl;have a5:atI [W.str (wd0 rs pos 0), .str (wd0 rs pos 1), .str (wd0 rs pos 2), .str (wd0 rs pos 3), .str (wd0 rs pos 4), .str (wd0 rs pos 5)] 5=ae (.str (wd0 rs pos 5)):=rfl;simp only[c3,a2,a5]
    try walk_at "wp"
    refine⟨zah (by decide),zah (by decide),λc hc=>?_⟩;obtain⟨hc1,hc2⟩:=zct hc;obtain⟨hc1,hc3⟩:=zct hc1;exact⟨_, .put2 (.put (.put .refl ha) hb1),h c _ hc1 ⟨rs,pos,B, .inr ⟨rfl,rfl⟩⟩⟩
   ·exact⟨_, .put2 (.put .refl ha),h b _ hb1 ⟨rs,pos,B, .inl rfl⟩⟩
mutual
noncomputable def Tr.nb:Tr→Nat
 | .bl _=>1
 | .nd _ ts=>nbs ts
noncomputable def nbs:List Tr→Nat
 | []=>0
 |t::ts=>t.nb+nbs ts
end
mutual
theorem ztm:∀(t:Tr) (p:List Int),((t.plt p).filter λx=>x.2.isBl).length=t.nb
 | .bl n,p=>by simp [Tr.plt,Tr.isBl,Tr.nb]
 | .nd s ts,p=>by
  have:=znS ts p 0;simpa [Tr.plt,Tr.isBl,Tr.nb]using this
theorem znS:∀(ts:List Tr) (p:List Int) (i:Nat),((zdD p i ts).filter λx=>x.2.isBl).length=nbs ts
 | [],p,i=>by simp [zdD,nbs]
 |t::ts,p,i=>by
  have h1:=ztm t (p++[(i:Int)]);have h2:=znS ts p (i+1);rw[zdD,iM,aZ,h1,h2,nbs]
end
theorem zlE (t:Tr):t.bls.length=t.nb:=ztm t []
theorem zoe:∀ts:List Tr,(ts.map λt=>(t.nb:Int)).sum=(nbs ts:Int)
 | []=>by simp [nbs]
 |t::ts=>by
  rw[aB,dH,zoe ts,nbs];omega
theorem zuw (ts:List Tr):zbq (ts.map λt=>W.int (t.nb:Int))=ae (ts.map λt=>(t.nb:Int)):=by
 have:=zbt (ts.map λt=>(t.nb:Int));rw[bx]at this;exact this
theorem zhH:∀(d:Nat) {t:Tr}{r:Nat}{S:Sto}{Q:WK}{E:Str→Sto→Prop},t.depth≤d→d≤r+1→t.weight≤90000→Q (.int t.nb) S→zaA (r+1) [enc t] S Q E
 |0,t,r,S,Q,E,hd,hr,hw,h=>by have:=zaX t;omega
 |d+1, .bl n,r,S,Q,E,hd,hr,hw,h=>by
  rw[zaA];simp only[enc];walk_at "wp";simp only[Tr.nb]at h;exact⟨S, .refl,h⟩
 |d+1, .nd s ts,r,S,Q,E,hd,hr,hw,h=>by
  simp only[Tr.depth]at hd;simp only[Tr.weight]at hw;have hk:=zbg ts;rw[zaA];simp only[enc];walk_at "wp";rw[zaE];refine zaS (λσ=>∃x,σ=[x]) enc (λt=> .int (t.nb:Int)) trivial ts [] _ ⟨none,rfl⟩ (by simp;omega) (λx hx σ R hI hR=>?_) ?_
  ·obtain⟨y,rfl⟩:=hI;have hdx:=zbw hx;have hwx:=zaL hx;have:=zaX x;obtain⟨r,rfl⟩:∃r',r=r'+1:=⟨r - 1,by omega⟩
   simp only[zdc];walk_at "wp";exact zhH d (t:=x) (r:=r) (by omega) (by omega) (by omega) (hR _ _ ⟨_,rfl⟩ .refl)
  ·rw[aN,zuw];dsimp only;rw[zoe];simp only[Tr.nb]at h;exact⟨S, .refl,h⟩
theorem zme{w:W}{ws:List W}:zdE (w::ws) none (ae 1)=[w]:=by
 rw[show(1:Int)=((1:Nat):Int) from rfl,zmr];rfl
theorem zfj{us:List Tr}{a:Addr}:∀(d:Nat) {t:Tr}{r:Nat}{S:Sto}{Q:WK}{E:Str→Sto→Prop},t.depth≤d→d≤r+1→S a=ae (.lst (encs us))→t.fits us.length→t.weight≤90000→Q (enc (t.fill us)) S→zbb (r+1) [enc t, .ref a] S Q E
 |0,t,r,S,Q,E,hd,hr,ha,hf,hw,h=>by have:=zaX t;omega
 |d+1, .bl n,r,S,Q,E,hd,hr,ha,hf,hw,h=>by
  simp only[Tr.fits]at hf;simp only[Tr.fill]at h;rw[zbb];simp only[enc];walk_at "wp";have e:atI (encs us) n=ae (enc (us.getD n.toNat (.bl n))):=by
   have q:=zbZ (xs:=encs us) (n:=n.toNat);rw[cr hf.1]at q;rw[q,zaE,bo,aY,aJ (by omega)];rfl
  rw[zal ha,e];exact⟨S, .refl,h⟩
 |d+1, .nd s ts,r,S,Q,E,hd,hr,ha,hf,hw,h=>by
  simp only[Tr.fits]at hf;simp only[Tr.fill]at h;simp only[Tr.depth]at hd;simp only[Tr.weight]at hw;have hk:=zbg ts;rw[zbb];simp only[enc]at h⊢;walk_at "wp";rw[zme];rw[zaE];refine zaS (λσ=>∃x,σ=[x,ae (.ref a)]) enc (λt=>enc (t.fill us)) trivial ts [] _ ⟨none,rfl⟩ (by simp;omega) (λx hx σ R hI hR=>?_) ?_
  ·obtain⟨y,rfl⟩:=hI;have hdx:=zbw hx;have hwx:=zaL hx;have:=zaX x;obtain⟨r,rfl⟩:∃r',r=r'+1:=⟨r - 1,by omega⟩
   simp only[zdJ];walk_at "wp";exact zfj d (t:=x) (r:=r) (by omega) (by omega) ha (zeS hf hx) (by omega) (hR _ _ ⟨_,rfl⟩ .refl)
  ·rw[aN];walk_at "wp";refine⟨zah (by simp;omega),S, .refl,?_⟩;have e:encs (fills us ts)=ts.map λt=>enc (t.fill us):=by rw[zaE,zeH,bx];rfl
   rw[e]at h;exact h
noncomputable def leftsL (n:Nat) (h c d:Str):List Tr:=
 match n with
 |0=>[.nd h [.bl 0]]
 |1=>[.nd h [.bl 0, .bl 1]]
 |2=>[.nd h [.nd c []], .nd h [.nd d [.bl 0]]]
 |3=>[.nd h [.nd c [], .bl 0], .nd h [.nd d [.bl 0], .bl 1]]
 |4=>[.nd h [.nd d [.nd d [.bl 0]], .bl 1, .bl 2], .nd h [.nd d [.nd c []], .bl 0, .bl 1]]
 |_=>[.nd h []]
section
variable {w0 w1 w2 w3 w4 w5:Str}{r:Nat}{S:Sto}{Q:WK}{E:Str→Sto→Prop}
noncomputable abbrev six (w0 w1 w2 w3 w4 w5:Str):List W:=[.str w0, .str w1, .str w2, .str w3, .str w4, .str w5]
theorem six0:atI (six w0 w1 w2 w3 w4 w5) 0=ae (.str w0):=rfl
theorem six1:atI (six w0 w1 w2 w3 w4 w5) 1=ae (.str w1):=rfl
theorem six2:atI (six w0 w1 w2 w3 w4 w5) 2=ae (.str w2):=rfl
theorem six3:atI (six w0 w1 w2 w3 w4 w5) 3=ae (.str w3):=rfl
theorem six4:atI (six w0 w1 w2 w3 w4 w5) 4=ae (.str w4):=rfl
theorem six5:atI (six w0 w1 w2 w3 w4 w5) 5=ae (.str w5):=rfl
theorem zqY{n:Int}{h c d:Str}(H:∀(p:Addr) (k:Nat),S p=none→Q (.ref p) (put S p (.lst (encs (leftsL k h c d))))):zcA (r+1) [.int n, .str h, .str c, .str d] S Q E:=by
 rw[zcA,zmf];refine⟨rfl,?_⟩;have l1:1≤sizeLine:=zah (by decide);have l2:2≤sizeLine:=zah (by decide);have l3:3≤sizeLine:=zah (by decide);have l4:4≤sizeLine:=zah (by decide);refine zxU λT hT=>?_;walk_at "wp";refine zxR (λ_=>⟨l2,l1,λp hp=>⟨_, .refl,by simpa only[leftsL,enc,encs]using H p 0 hp⟩⟩) λ_=>?_
 subst hT;refine zxU λT hT=>?_;walk_at "wp";refine zxR (λ_=>⟨l3,l1,λp hp=>⟨_, .refl,by simpa only[leftsL,enc,encs]using H p 1 hp⟩⟩) λ_=>?_
 subst hT;refine zxU λT hT=>?_;walk_at "wp";refine zxR (λ_=>⟨l1,l2,l2,l2,l2,λp hp=>⟨_, .refl,by simpa only[leftsL,enc,encs]using H p 2 hp⟩⟩) λ_=>?_
 subst hT;refine zxU λT hT=>?_;walk_at "wp";refine zxR (λ_=>⟨l1,l3,l2,l3,l2,λp hp=>⟨_, .refl,by simpa only[leftsL,enc,encs]using H p 3 hp⟩⟩) λ_=>?_
 subst hT;refine zxU λT hT=>?_;walk_at "wp";refine zxR (λ_=>⟨l2,l2,l4,l1,l2,l4,l2,λp hp=>⟨_, .refl,by simpa only[leftsL,enc,encs]using H p 4 hp⟩⟩) λ_=>?_
 subst hT;walk_at "wp";exact⟨l1,l1,λp hp=>⟨_, .refl,by simpa only[leftsL,enc,encs]using H p 5 hp⟩⟩
end
section
variable {w0 w1:Str}{j:Int}
theorem zeL (n:Nat) (h c d:Str):1≤(leftsL n h c d).length∧(leftsL n h c d).length≤2:=by
 unfold leftsL;split<;>simp
noncomputable def hdOf (w0 w1:Str) (j:Nat):Str:=if j=0 then w0 else w1
end
noncomputable def zkw (x:Str):Bool:=decide (1≤x.cps.toList.length)&&(decide (x.cps.toList.length≤8)&&small x.cps.toList)
theorem zov (xs:List Nat):small xs=true↔ ∀c∈xs,Low c:=by
 unfold small;rw[cW];simp only[zha,Low,cc,decide_eq_true_eq]
theorem zeJ (x:Str):zkw x=true↔zbG x:=by
 unfold zkw zbG;rw[cc,cc,decide_eq_true_eq,decide_eq_true_eq,zov]
theorem zdW{x y:Str}(h:zbG x) (g:zbp y):x≠y:=by
 rintro rfl;obtain⟨c,r,e,h1,h2,_⟩:=g;have:=h.2.2 c (by rw[e];exact aK);unfold Low at this;omega
theorem zpA{y:Str}(g:zbp y):1≤y.cps.toList.length∧y.cps.toList.length≤8:=by
 obtain⟨c,r,e,h1,h2,h3,_⟩:=g;rw[e,aW];omega
mutual
noncomputable def Tr.hd (P:Str→Prop):Tr→Prop
 | .bl _=>False
 | .nd s ts=>P s∧hds P ts
noncomputable def hds (P:Str→Prop):List Tr→Prop
 | []=>True
 |t::ts=>t.hd P∧hds P ts
end
mutual
noncomputable def Tr.hb (P:Str→Prop):Tr→Prop
 | .bl _=>True
 | .nd s ts=>P s∧hbs P ts
noncomputable def hbs (P:Str→Prop):List Tr→Prop
 | []=>True
 |t::ts=>t.hb P∧hbs P ts
end
theorem hds_iff{P:Str→Prop}:∀{ts:List Tr},hds P ts↔ ∀t∈ts,t.hd P
 | []=>by simp [hds]
 |t::ts=>by simp [hds,hds_iff (ts:=ts)]
mutual
theorem zff{P P':Str→Prop}(h:∀s,P s→P' s):∀(t:Tr),t.hd P→t.hd P'
 | .bl _,q=>by simp [Tr.hd]at q
 | .nd s ts,q=>by
  simp only[Tr.hd]at q⊢;exact⟨h s q.1,zlD h ts q.2⟩
theorem zlD{P P':Str→Prop}(h:∀s,P s→P' s):∀(ts:List Tr),hds P ts→hds P' ts
 | [],_=>by simp [hds]
 |t::ts,q=>by
  simp only[hds]at q⊢;exact⟨zff h t q.1,zlD h ts q.2⟩
end
mutual
theorem zhC{P P':Str→Prop}(h:∀s,P s→P' s):∀(t:Tr),t.hb P→t.hb P'
 | .bl _,q=>by simp [Tr.hb]
 | .nd s ts,q=>by
  simp only[Tr.hb]at q⊢;exact⟨h s q.1,zlr h ts q.2⟩
theorem zlr{P P':Str→Prop}(h:∀s,P s→P' s):∀(ts:List Tr),hbs P ts→hbs P' ts
 | [],_=>by simp [hbs]
 |t::ts,q=>by
  simp only[hbs]at q⊢;exact⟨zhC h t q.1,zlr h ts q.2⟩
end
mutual
theorem zhY{P:Str→Prop}{us:List Tr}(hu:∀u∈us,u.hd P):∀(t:Tr),t.hb P→t.fits us.length→(t.fill us).hd P
 | .bl n,h,f=>by
  simp only[Tr.fits]at f;simp only[Tr.fill];rw[aY,aJ (show n.toNat<us.length by omega)]
  exact hu _ (c5 ..)
 | .nd s ts,h,f=>by
  simp only[Tr.fits]at f;simp only[Tr.hb]at h;simp only[Tr.fill,Tr.hd];exact⟨h.1,zmi hu ts h.2 f⟩
theorem zmi{P:Str→Prop}{us:List Tr}(hu:∀u∈us,u.hd P):∀(ts:List Tr),hbs P ts→fitss us.length ts→hds P (fills us ts)
 | [],h,f=>by simp [fills,hds]
 |t::ts,h,f=>by
  simp only[fitss]at f;simp only[hbs]at h;simp only[fills,hds];exact⟨zhY hu t h.1 f.1,zmi hu ts h.2 f.2⟩
end
structure RightW (ws:List Str) (m:Nat) (t:Tr):Prop where
  dp:t.depth≤4
  fits:t.fits m
  hb:∀{P:Str→Prop},(∀x∈ws,P x)→t.hb P
  wt:t.weight≤7
def zAl (B:List Tn):Prop:=∀t∈B,∀(us:List Tr) (M:Nat),us.length=t.2.1.nb→1≤M→(∀u∈us,u.weight≤M)→(t.2.2.fill us).weight≤2+2*M∧(t.2.1.nb=0→(t.2.2.fill us).weight≤1+M)
structure BookOk (w0 w1 w2 w3 w4 w5:Str) (tt:List Str) (B:List Tn):Prop where
  lf:∃n m:Nat,B.map (λt=>t.2.1)=leftsL n w0 w2 w3++leftsL m w1 w2 w3
  ti:B.map (λt=>t.1)=tt.take B.length
  ri:∀t∈B,RightW [w0,w1,w2,w3,w4,w5] t.2.1.nb t.2.2
structure LeftT (P:Str→Prop) (L:Tr):Prop where
  hb:L.hb P
  fits:L.fits L.nb
  wt:L.weight≤L.nb+3
  dp:L.depth≤4
  nb:L.nb≤3
  nd:∃s ts,L= .nd s ts
  fw:∀us:List Tr,us.length=L.nb→(L.fill us).weight≤3+wts us
  fw0:L.nb=0→(L.fill []).weight≤2
theorem zeN{P:Str→Prop}{n:Nat}{h c d:Str}(hh:P h) (hc:P c) (hd:P d):∀L∈leftsL n h c d,LeftT P L:=by
 unfold leftsL;intro L hL;split at hL<;>simp only[ax,a_,or_false]at hL
 all_goals first
  | (subst hL;exact⟨by simp [Tr.hb,hbs,hh,hc,hd],by simp [Tr.fits,fitss,Tr.nb,nbs],by simp [Tr.weight,wts,Tr.nb,nbs],by simp [Tr.depth,dts],by simp [Tr.nb,nbs],⟨_,_,rfl⟩,λus hu=>by rcases us with _ |⟨u,_ |⟨v,_ |⟨x,_ |⟨y,us⟩⟩⟩⟩<;>simp [Tr.nb,nbs,Tr.fill,fills,Tr.weight,wts]at hu⊢ <;>omega,λh0=>by simp [Tr.nb,nbs,Tr.fill,fills,Tr.weight,wts]at h0⊢⟩)
  | (rcases hL with rfl |rfl<;>exact⟨by simp [Tr.hb,hbs,hh,hc,hd],by simp [Tr.fits,fitss,Tr.nb,nbs],by simp [Tr.weight,wts,Tr.nb,nbs],by simp [Tr.depth,dts],by simp [Tr.nb,nbs],⟨_,_,rfl⟩,λus hu=>by rcases us with _ |⟨u,_ |⟨v,_ |⟨x,_ |⟨y,us⟩⟩⟩⟩<;>simp [Tr.nb,nbs,Tr.fill,fills,Tr.weight,wts]at hu⊢ <;>omega,λh0=>by simp [Tr.nb,nbs,Tr.fill,fills,Tr.weight,wts]at h0⊢⟩)
section
variable {w0 w1 w2 w3 w4 w5:Str}{tt:List Str}{B:List Tn}
theorem BookOk.len (b:BookOk w0 w1 w2 w3 w4 w5 tt B):2≤B.length∧B.length≤4:=by
 obtain⟨n,m,e⟩:=b.lf;have h1:=zeL n w0 w2 w3;have h2:=zeL m w1 w2 w3;have e':=congrArg eE e;rw[ap,aZ]at e';omega
theorem BookOk.left (b:BookOk w0 w1 w2 w3 w4 w5 tt B) {P:Str→Prop}(h0:P w0) (h1:P w1) (h2:P w2) (h3:P w3) {t:Tn}(ht:t∈B):LeftT P t.2.1:=by
 obtain⟨n,m,e⟩:=b.lf;have:t.2.1∈leftsL n w0 w2 w3++leftsL m w1 w2 w3:=by rw[←e];exact aM.mpr ⟨t,ht,rfl⟩
 rcases bb.mp this with z |z
 ·exact zeN h0 h2 h3 _ z
 ·exact zeN h1 h2 h3 _ z
theorem BookOk.nodup (b:BookOk w0 w1 w2 w3 w4 w5 tt B) (T:Titles tt):(B.map λt=>t.1).Nodup:=by
 rw[b.ti];exact br.sublist (iE ..) T.nd
theorem BookOk.mem (b:BookOk w0 w1 w2 w3 w4 w5 tt B) {t:Tn}(ht:t∈B):t.1∈tt:=by
 have:t.1∈B.map λt=>t.1:=aM.mpr ⟨t,ht,rfl⟩;rw[b.ti]at this;exact ib this
end
noncomputable def zaw (B:List Tn) (s:Str):Option Tn:=B.find? λt=>t.1 == s
theorem zcJ:∀{B:List Tn}{t:Tn},(B.map λt=>t.1).Nodup→t∈B→zaw B t.1=ae t
 |u::B,t,hn,ht=>by
  unfold zaw;rw[aB,dP]at hn;rw[b7];rcases ax.mp ht with rfl |ht
  ·simp
  ·have hne:u.1≠t.1:=λz=>hn.1 (by rw[z];exact aM.mpr ⟨t,ht,rfl⟩);have:(u.1 == t.1)=false:=by simpa using hne
   rw[this];exact zcJ hn.2 ht
theorem zfS{B:List Tn}{s:Str}(h:∀t∈B,t.1≠s):zaw B s=none:=by
 unfold zaw;rw[iA];intro t ht;simpa using h t ht
noncomputable def topB (B:List Tn) (s:Str) (n:Nat):Bool:=match zaw B s with
 |none=>zkw s
 |some t=>n == t.2.1.nb
mutual
noncomputable def Tr.way (B:List Tn):Tr→Bool
 | .bl _=>false
 | .nd s ts=>topB B s ts.length&&znB B ts
noncomputable def znB (B:List Tn):List Tr→Bool
 | []=>true
 |t::ts=>t.way B&&znB B ts
end
mutual
noncomputable def Tr.quiet:Tr→Bool
 | .bl _=>false
 | .nd s ts=>zkw s&&zej ts
noncomputable def zej:List Tr→Bool
 | []=>true
 |t::ts=>t.quiet&&zej ts
end
theorem zhW (B:List Tn):∀ts:List Tr,znB B ts=ts.all (Tr.way B)
 | []=>by simp [znB]
 |t::ts=>by simp [znB,zhW B ts]
theorem zgT:∀ts:List Tr,zej ts=ts.all Tr.quiet
 | []=>by simp [zej]
 |t::ts=>by simp [zej,zgT ts]
mutual
theorem zhf:∀t:Tr,t.hd zbG→t.quiet=true
 | .bl n,h=>by simp [Tr.hd]at h
 | .nd s ts,h=>by
  simp only[Tr.hd]at h;rw[Tr.quiet,(zeJ s).mpr h.1,zgp ts h.2];rfl
theorem zgp:∀ts:List Tr,hds zbG ts→zej ts=true
 | [],h=>by simp [zej]
 |t::ts,h=>by
  simp only[hds]at h;rw[zej,zhf t h.1,zgp ts h.2];rfl
end
mutual
theorem zhx{B:List Tn}(hB:∀t∈B,zbp t.1) {us:List Tr}(hu:∀u∈us,u.way B=true):∀(t:Tr),t.hb zbG→t.fits us.length→(t.fill us).way B=true
 | .bl n,h,f=>by
  simp only[Tr.fits]at f;simp only[Tr.fill];rw[aY,aJ (show n.toNat<us.length by omega)]
  exact hu _ (c5 ..)
 | .nd s ts,h,f=>by
  simp only[Tr.fits]at f;simp only[Tr.hb]at h;simp only[Tr.fill,Tr.way];rw[zin hB hu ts h.2 f,topB,zfS λt ht=>(zdW h.1 (hB t ht)).symm,(zeJ s).mpr h.1];rfl
theorem zin{B:List Tn}(hB:∀t∈B,zbp t.1) {us:List Tr}(hu:∀u∈us,u.way B=true):∀(ts:List Tr),hbs zbG ts→fitss us.length ts→znB B (fills us ts)=true
 | [],h,f=>by simp [fills,znB]
 |t::ts,h,f=>by
  simp only[fitss]at f;simp only[hbs]at h;rw[fills,znB,zhx hB hu t h.1 f.1,zin hB hu ts h.2 f.2];rfl
end
inductive Pl where
  |nd (k bits:Int) (head:Str) (ps:List Pl)
mutual
noncomputable def Pl.wt:Pl→Nat
 | .nd _ _ _ ps=>1+pwts ps
noncomputable def pwts:List Pl→Nat
 | []=>0
 |p::ps=>p.wt+pwts ps
end
mutual
noncomputable def Pl.dp:Pl→Nat
 | .nd _ _ _ ps=>1+zmV ps
noncomputable def zmV:List Pl→Nat
 | []=>0
 |p::ps=>max p.dp (zmV ps)
end
mutual
noncomputable def Pl.nt:Pl→Nat
 | .nd k _ _ ps=>(if k<0 then 0 else 1)+pnts ps
noncomputable def pnts:List Pl→Nat
 | []=>0
 |p::ps=>p.nt+pnts ps
end
inductive PlOk (ws:List Str) (B:List Tn):Pl→Prop
 |sign {b:Int}{h:Str}{ps:List Pl}:h∈ws→(∀p∈ps,PlOk ws B p)→PlOk ws B (.nd (-1) b h ps)
 |turn {k:Nat}{b:Int}{h:Str}{ps:List Pl}{t:Tn}:B[k]? =ae t→ps.length=t.2.1.nb→0≤b→b<8→(∀p∈ps,PlOk ws B p)→PlOk ws B (.nd k b h ps)
mutual
noncomputable def Pl.ev (B:List Tn) (c:Int→Nat):Pl→Tr
 | .nd k b h ps=>if k<0 then .nd h (evs B c ps) else match c b with
  |0=>(B.getD k.toNat (h, .bl 0, .bl 0)).2.1.fill (evs B c ps)
  |1=> .nd (B.getD k.toNat (h, .bl 0, .bl 0)).1 (evs B c ps)
  |_=>(B.getD k.toNat (h, .bl 0, .bl 0)).2.2.fill (evs B c ps)
noncomputable def evs (B:List Tn) (c:Int→Nat):List Pl→List Tr
 | []=>[]
 |p::ps=>p.ev B c::evs B c ps
end
theorem zkb (B:List Tn) (c:Int→Nat):∀ps:List Pl,evs B c ps=ps.map (Pl.ev B c)
 | []=>by simp [evs]
 |p::ps=>by simp [evs,zkb B c ps]
theorem zcf:∀ps qs:List Pl,pwts (ps++qs)=pwts ps+pwts qs
 | [],qs=>by simp [pwts]
 |p::ps,qs=>by simp [pwts,zcf ps qs];omega
theorem zbR:∀ps qs:List Pl,pnts (ps++qs)=pnts ps+pnts qs
 | [],qs=>by simp [pnts]
 |p::ps,qs=>by simp [pnts,zbR ps qs];omega
theorem zfy{p:Pl}:∀{ps:List Pl},p∈ps→p.dp≤zmV ps
 |q::ps,h=>by
  rcases ax.mp h with rfl |h
  ·simp [zmV];omega
  ·have:=zfy h;simp [zmV];omega
mutual
theorem zlW:∀p:Pl,p.dp≤p.wt
 | .nd k b h ps=>by have:=znE ps;simp [Pl.dp,Pl.wt];omega
theorem znE:∀ps:List Pl,zmV ps≤pwts ps
 | []=>by simp [zmV]
 |p::ps=>by have:=zlW p;have:=znE ps;simp [zmV,pwts];omega
end
theorem zuk (p:Pl):1≤p.dp:=by cases p;simp [Pl.dp]
theorem zvq (p:Pl):1≤p.wt:=by cases p;simp [Pl.wt]
theorem zbL{B:List Tn}{c:Int→Nat}{b:Int}{h:Str}{ps:List Pl}:(Pl.nd (-1) b h ps).ev B c= .nd h (ps.map (Pl.ev B c)):=by
 rw[Pl.ev,if_pos (by decide),zkb]
noncomputable def evT (t:Tn) (n:Nat) (us:List Tr):Tr:=match n with
 |0=>t.2.1.fill us
 |1=> .nd t.1 us
 |_=>t.2.2.fill us
theorem zbj{B:List Tn}{c:Int→Nat}{b:Int}{h:Str}{ps:List Pl}{k:Nat}{t:Tn}(e:B[k]? =ae t):(Pl.nd k b h ps).ev B c=evT t (c b) (ps.map (Pl.ev B c)):=by
 rw[Pl.ev,if_neg (by omega),zkb,bU,aY,e];rfl
structure BkOk (ws hs:List Str) (B:List Tn):Prop where
  ti:∀t∈B,zbp t.1
  nd:(B.map λt=>t.1).Nodup
  sg:∀x∈ws,zbG x
  sb:∀x∈hs,x∈ws
  lf:∀t∈B,LeftT zbG t.2.1
  ri:∀t∈B,RightW ws t.2.1.nb t.2.2
theorem BookOk.bk{w0 w1 w2 w3 w4 w5:Str}{tt:List Str}{B:List Tn}(b:BookOk w0 w1 w2 w3 w4 w5 tt B) (T:Titles tt) (G:Signs w0 w1 w2 w3 w4 w5):BkOk [w0,w1,w2,w3,w4,w5] [w2,w3,w4,w5] B:=
 ⟨λt ht=>T.ok _ (b.mem ht),b.nodup T,G.ok,λx hx=>aC _ (aC _ hx),λt ht=>b.left (G.ok _ (by simp)) (G.ok _ (by simp)) (G.ok _ (by simp)) (G.ok _ (by simp)) ht,b.ri⟩
section
variable {ws hs:List Str}{B:List Tn}{c:Int→Nat}
theorem zxb (b:BkOk ws hs B) {p:Pl}(h:PlOk hs B p):(p.ev B c).way B=true:=by
 induction h with
 | @sign b' h ps hh hp ih=>
  rw[zbL,Tr.way,topB,zfS λt ht=>(zdW (b.sg h (b.sb h hh)) (b.ti t ht)).symm,zhW,(zeJ h).mpr (b.sg h (b.sb h hh))];simp only[fR,j9,cW];exact λp hp=>ih p hp
 | @turn k b' h ps t e hl b0 b1 hp ih=>
  have ht:t∈B:=bp e;have hu:∀u∈ps.map (Pl.ev B c),u.way B=true:=λu hu=>by
   obtain⟨p,hp,rfl⟩:=aM.mp hu;exact ih p hp
  rw[zbj e];unfold evT;split
  ·exact zhx b.ti hu _ (b.lf t ht).hb (by rw[ap,hl];exact(b.lf t ht).fits)
  ·rw[Tr.way,topB,zcJ b.nd ht,zhW];simp only[ap,hl,beq_self_eq_true,j9,cW];exact hu
  ·exact zhx b.ti hu _ ((b.ri t ht).hb b.sg) (by rw[ap,hl];exact(b.ri t ht).fits)
theorem zih{p:Pl}:∀{ps:List Pl},p∈ps→p.nt≤pnts ps
 |q::ps,h=>by
  rcases ax.mp h with rfl |h
  ·simp [pnts]
  ·have:=zih h;simp [pnts];omega
theorem zla{p:Pl}:∀{ps:List Pl},p∈ps→p.wt≤pwts ps
 |q::ps,h=>by
  rcases ax.mp h with rfl |h
  ·simp [pwts]
  ·have:=zla h;simp [pwts];omega
end
mutual
noncomputable def Tr.mk (B:List Tn) (g:Tn→Tr):Tr→Tr
 | .bl n=> .bl n
 | .nd s ts=>match zaw B s with
  |none=> .nd s (mks B g ts)
  |some t=>(g t).fill (mks B g ts)
noncomputable def mks (B:List Tn) (g:Tn→Tr):List Tr→List Tr
 | []=>[]
 |t::ts=>t.mk B g::mks B g ts
end
theorem zfa (B:List Tn) (g:Tn→Tr):∀ts:List Tr,mks B g ts=ts.map (Tr.mk B g)
 | []=>by simp [mks]
 |t::ts=>by simp [mks,zfa B g ts]
theorem zgi{B:List Tn}{g:Tn→Tr}{s:Str}{ts:List Tr}(h:zaw B s=none):(Tr.nd s ts).mk B g= .nd s (ts.map (Tr.mk B g)):=by
 rw[Tr.mk,h,zfa]
theorem zgw{B:List Tn}{g:Tn→Tr}{s:Str}{ts:List Tr}{t:Tn}(h:zaw B s=ae t):(Tr.nd s ts).mk B g=(g t).fill (ts.map (Tr.mk B g)):=by
 rw[Tr.mk,h,zfa]
theorem zay{B:List Tn}(hB:∀t∈B,zbp t.1) {s:Str}(h:zbG s):zaw B s=none:=zfS λt ht=>(zdW h (hB t ht)).symm
mutual
theorem zie{B:List Tn}{g:Tn→Tr}(hB:∀t∈B,zbp t.1) {us:List Tr}:∀t:Tr,t.hb zbG→t.fits us.length→(t.fill us).mk B g=t.fill (us.map (Tr.mk B g))
 | .bl n,h,f=>by
  simp only[Tr.fits]at f;simp only[Tr.fill];rw[aY,aY,bo,aJ (show n.toNat<us.length by omega)]
  rfl
 | .nd s ts,h,f=>by
  simp only[Tr.hb]at h;simp only[Tr.fits]at f;simp only[Tr.fill];rw[Tr.mk,zay hB h.1];simp only[];rw[zlz hB ts h.2 f]
theorem zlz{B:List Tn}{g:Tn→Tr}(hB:∀t∈B,zbp t.1) {us:List Tr}:∀ts:List Tr,hbs zbG ts→fitss us.length ts→mks B g (fills us ts)=fills (us.map (Tr.mk B g)) ts
 | [],h,f=>by simp [fills,mks]
 |t::ts,h,f=>by
  simp only[hbs]at h;simp only[fitss]at f;rw[fills,mks,fills,zie hB t h.1 f.1,zlz hB ts h.2 f.2]
end
section
variable {ws hs:List Str}{B:List Tn}{c d:Int→Nat}
theorem zwm (b:BkOk ws hs B) {g:Tn→Tr}(hg:∀t∈B,∀x:Int,0≤x→x<8→c x=1→ ∀us,(g t).fill us=evT t (d x) us) (h0:∀x:Int,0≤x→x<8→c x≠1→d x=c x) {p:Pl}(h:PlOk hs B p):(p.ev B c).mk B g=p.ev B d:=by
 induction h with
 | @sign b' h ps hh hp ih=>
  rw[zbL,zbL,zgi (zay b.ti (b.sg h (b.sb h hh))),bx];congr 1;exact cC λp hp=>ih p hp
 | @turn k b' h ps t e hl b0 b1 hp ih=>
  have ht:t∈B:=bp e;have em:(ps.map (Pl.ev B c)).map (Tr.mk B g)=ps.map (Pl.ev B d):=by
   rw[bx];exact cC λp hp=>ih p hp
  rw[zbj e,zbj e];by_cases hc:c b'=1
  ·rw[←hg t ht b' b0 b1 hc,hc];show(Tr.nd t.1 _).mk B g=_;rw[zgw (zcJ b.nd ht),em]
  ·rw[h0 b' b0 b1 hc];unfold evT;split
   ·rw[zie b.ti _ (b.lf t ht).hb (by rw[ap,hl];exact(b.lf t ht).fits),em]
   ·rename_i z;exact absurd z hc
   ·rw[zie b.ti _ ((b.ri t ht).hb b.sg) (by rw[ap,hl];exact(b.ri t ht).fits),em]
noncomputable def zkD (c:Int→Nat):Int→Nat:=λx=>if c x=1 then 0 else c x
noncomputable def zdr (c:Int→Nat):Int→Nat:=λx=>if c x=1 then 2 else c x
theorem zjs (b:BkOk ws hs B) {p:Pl}(h:PlOk hs B p):(p.ev B c).mk B (λt=>t.2.1)=p.ev B (zkD c):=
 zwm b (λt ht x _ _ hx us=>by rw[zkD,if_pos hx];rfl) (λx _ _ hx=>by rw[zkD,if_neg hx]) h
theorem zfh (b:BkOk ws hs B) {p:Pl}(h:PlOk hs B p):(p.ev B c).mk B (λt=>t.2.2)=p.ev B (zdr c):=
 zwm b (λt ht x _ _ hx us=>by rw[zdr,if_pos hx];rfl) (λx _ _ hx=>by rw[zdr,if_neg hx]) h
theorem zew{p:Pl}(h:PlOk hs B p) (hc:∀x:Int,0≤x→x<8→c x=d x):p.ev B c=p.ev B d:=by
 induction h with
 | @sign b' h ps hh hp ih=>
  rw[zbL,zbL];congr 1;exact cC λp hp=>ih p hp
 | @turn k b' h ps t e hl b0 b1 hp ih=>
  rw[zbj e,zbj e,hc b' b0 b1];congr 1;exact cC λp hp=>ih p hp
end
theorem zlc{n:Nat}{h c d:Str}{L:Tr}(hL:L∈leftsL n h c d) {us:List Tr}(hu:us.length=L.nb):L.mt (L.fill us)=ae us:=by
 unfold leftsL at hL;split at hL<;>simp only[ax,a_,or_false]at hL
 all_goals first
  | (subst hL;rcases us with _ |⟨u,_ |⟨v,_ |⟨x,_ |⟨y,us⟩⟩⟩⟩<;>simp [Tr.nb,nbs,Tr.fill,fills,Tr.mt,mts]at hu⊢ <;>omega)
  | (rcases hL with rfl |rfl<;>rcases us with _ |⟨u,_ |⟨v,_ |⟨x,_ |⟨y,us⟩⟩⟩⟩<;>simp [Tr.nb,nbs,Tr.fill,fills,Tr.mt,mts]at hu⊢ <;>omega)
def zym (B:List Tn):Prop:=∀t∈B,∀us:List Tr,us.length=t.2.1.nb→t.2.1.mt (t.2.1.fill us)=ae us
theorem BookOk.mt{w0 w1 w2 w3 w4 w5:Str}{tt:List Str}{B:List Tn}(b:BookOk w0 w1 w2 w3 w4 w5 tt B):zym B:=λt ht us hu=>by
 obtain⟨n,m,e⟩:=b.lf;have:t.2.1∈leftsL n w0 w2 w3++leftsL m w1 w2 w3:=by rw[←e];exact aM.mpr ⟨t,ht,rfl⟩
 rcases bb.mp this with z |z
 ·exact zlc z hu
 ·exact zlc z hu
mutual
inductive Mv (B:List Tn):Nat→Tr→Tr→Tr→Prop
 |nn {n:Nat}{s z:Str}{ts us cs:List Tr}:zaw B s=none→zaw B z=none→Mvs B n ts us cs→Mv B (n+1) (.nd s ts) (.nd z us) (.nd s cs)
 |ns {n:Nat}{s z:Str}{ts us cs ms:List Tr}{t:Tn}:zaw B s=none→zaw B z=ae t→t.2.1.mt (.nd s ts)=ae ms→cs.length=t.2.1.nb→Mvs B n ms us cs→Mv B (n+1) (.nd s ts) (.nd z us) (t.2.2.fill cs)
 |sn {n:Nat}{s z:Str}{ts us cs ms:List Tr}{t:Tn}:zaw B s=ae t→zaw B z=none→t.2.1.mt (.nd z us)=ae ms→Mvs B n ts ms cs→Mv B (n+1) (.nd s ts) (.nd z us) (.nd s cs)
 |ss {n:Nat}{s z:Str}{ts us cs:List Tr}{t t':Tn}:zaw B s=ae t'→zaw B z=ae t→cs.length=t.2.1.nb→Mvs B n ts us cs→Mv B (n+1) (.nd s ts) (.nd z us) (t.2.2.fill cs)
inductive Mvs (B:List Tn):Nat→List Tr→List Tr→List Tr→Prop
 |nil {n:Nat}:Mvs B n [] [] []
 |cons {n:Nat}{a b c:Tr}{as bs cs:List Tr}:Mv B n a b c→Mvs B n as bs cs→Mvs B n (a::as) (b::bs) (c::cs)
end
mutual
theorem Mv.monoA{B:List Tn}:∀{n:Nat}{a b c:Tr},Mv B n a b c→ ∀m,n≤m→Mv B m a b c
 |_,_,_,_, .nn h1 h2 h3=>λm h=>by
  obtain⟨m,rfl⟩:∃m',m=m'+1:=⟨m - 1,by omega⟩
  exact .nn h1 h2 (Mvs.monoA h3 m (by omega))
 |_,_,_,_, .ns h1 h2 h3 h4 h5=>λm h=>by
  obtain⟨m,rfl⟩:∃m',m=m'+1:=⟨m - 1,by omega⟩
  exact .ns h1 h2 h3 h4 (Mvs.monoA h5 m (by omega))
 |_,_,_,_, .sn h1 h2 h3 h4=>λm h=>by
  obtain⟨m,rfl⟩:∃m',m=m'+1:=⟨m - 1,by omega⟩
  exact .sn h1 h2 h3 (Mvs.monoA h4 m (by omega))
 |_,_,_,_, .ss h1 h2 h3 h4=>λm h=>by
  obtain⟨m,rfl⟩:∃m',m=m'+1:=⟨m - 1,by omega⟩
  exact .ss h1 h2 h3 (Mvs.monoA h4 m (by omega))
theorem Mvs.monoA{B:List Tn}:∀{n:Nat}{a b c:List Tr},Mvs B n a b c→ ∀m,n≤m→Mvs B m a b c
 |_,_,_,_, .nil=>λ_ _=> .nil
 |_,_,_,_, .cons h1 h2=>λm h=> .cons (Mv.monoA h1 m h) (Mvs.monoA h2 m h)
end
theorem Mv.mono{B:List Tn}{n m:Nat}{a b c:Tr}(h:n≤m) (M:Mv B n a b c):Mv B m a b c:=Mv.monoA M m h
theorem Mvs.mono{B:List Tn}{n m:Nat}{a b c:List Tr}(h:n≤m) (M:Mvs B n a b c):Mvs B m a b c:=Mvs.monoA M m h
theorem Mvs.get{B:List Tn}{n:Nat}:∀{as bs cs:List Tr}{i:Nat},Mvs B n as bs cs→i<cs.length→ ∃a b c,as[i]? =ae a∧bs[i]? =ae b∧cs[i]? =ae c∧Mv B n a b c
 |_,_,_,i, .nil,h=>by simp at h
 |_,_,_,0, .cons h1 _,h=>⟨_,_,_,rfl,rfl,rfl,h1⟩
 |_,_,_,i+1, .cons _ h2,h=>by
  obtain⟨a,b,c,e1,e2,e3,q⟩:=Mvs.get (i:=i) h2 (by simpa using h);exact⟨a,b,c,by simpa using e1,by simpa using e2,by simpa using e3,q⟩
theorem Mvs.of{B:List Tn}{n:Nat}{α:Type}{f g h:α→Tr}:∀(xs:List α),(∀x∈xs,Mv B n (f x) (g x) (h x))→Mvs B n (xs.map f) (xs.map g) (xs.map h)
 | [],_=> .nil
 |x::xs,q=> .cons (q x aK) (Mvs.of xs λy hy=>q y (aC _ hy))
mutual
theorem zku{B:List Tn}(hB:∀t∈B,zbp t.1) {n:Nat}{us vs cs:List Tr}(h:Mvs B n us vs cs):∀t:Tr,t.hb zbG→t.fits cs.length→Mv B (n+t.depth) (t.fill us) (t.fill vs) (t.fill cs)
 | .bl k,q,f=>by
  simp only[Tr.fits]at f;obtain⟨a,b,c,e1,e2,e3,m⟩:=h.get (i:=k.toNat) (by omega);simp only[Tr.fill,aY,e1,e2,e3,eW];exact m.mono (by omega)
 | .nd s ts,q,f=>by
  simp only[Tr.hb]at q;simp only[Tr.fits]at f;have:=zmI hB h ts q.2 f;simp only[Tr.fill,Tr.depth];rw[show n+(1+dts ts)=n+dts ts+1 by omega]
  exact .nn (zay hB q.1) (zay hB q.1) this
theorem zmI{B:List Tn}(hB:∀t∈B,zbp t.1) {n:Nat}{us vs cs:List Tr}(h:Mvs B n us vs cs):∀ts:List Tr,hbs zbG ts→fitss cs.length ts→Mvs B (n+dts ts) (fills us ts) (fills vs ts) (fills cs ts)
 | [],q,f=>by simp only[fills];exact .nil
 |t::ts,q,f=>by
  simp only[hbs]at q;simp only[fitss]at f;have h1:=zku hB h t q.1 f.1;have h2:=zmI hB h ts q.2 f.2;simp only[fills,dts];exact .cons (h1.mono (by omega)) (h2.mono (by omega))
end
noncomputable def ziE (c d:Int→Nat):Int→Nat:=λx=>if d x=1 then 2 else c x
theorem zfi{ws hs:List Str}{B:List Tn}{c d:Int→Nat}(b:BkOk ws hs B) (hm:zym B) (hc:∀x:Int,0≤x→x<8→(c x≤1∧d x≤1)∨(c x=2∧d x=2)) {p:Pl}(h:PlOk hs B p):Mv B (p.dp+3*p.nt) (p.ev B c) (p.ev B d) (p.ev B (ziE c d)):=by
 induction h with
 | @sign b' h ps hh hp ih=>
  rw[zbL,zbL,zbL,Pl.dp,Pl.nt,if_pos (by decide),show 1+zmV ps+3*(0+pnts ps)=zmV ps+3*pnts ps+1 by omega]
  refine .nn (zay b.ti (b.sg h (b.sb h hh))) (zay b.ti (b.sg h (b.sb h hh))) (.of ps λp hp=>(ih p hp).mono ?_);have:=zfy hp;have:=zih hp;omega
 | @turn k b' h ps t e hl b0 b1 hp ih=>
  have ht:t∈B:=bp e;have en:(Pl.nd k b' h ps).nt=1+pnts ps:=by rw[Pl.nt,if_neg (by omega)]
  have M:Mvs B (zmV ps+3*pnts ps) (ps.map (Pl.ev B c)) (ps.map (Pl.ev B d)) (ps.map (Pl.ev B (ziE c d))):= .of ps λp hp=>(ih p hp).mono (by
   have:=zfy hp;have:=zih hp;omega)
  have lc:(ps.map (Pl.ev B (ziE c d))).length=t.2.1.nb:=by rw[ap,hl]
  have l1:(ps.map (Pl.ev B c)).length=t.2.1.nb:=by rw[ap,hl]
  have l2:(ps.map (Pl.ev B d)).length=t.2.1.nb:=by rw[ap,hl]
  have tt:=zcJ b.nd ht;have L:=b.lf t ht;have R:=b.ri t ht;have hd:=L.dp;rw[zbj e,zbj e,zbj e,Pl.dp,en,show 1+zmV ps+3*(1+pnts ps)=zmV ps+3*pnts ps+3+1 by omega]
  have lsign:∀us,∃s ts,t.2.1.fill us= .nd s ts∧zaw B s=none:=λus=>by
   obtain⟨s,ts,el⟩:=L.nd;have hb:=L.hb;rw[el,Tr.hb]at hb;exact⟨s,fills us ts,by rw[el,Tr.fill],zay b.ti hb.1⟩
  have hp:ziE c d b'=if d b'=1 then 2 else c b':=rfl;rw[hp];rcases hc b' b0 b1 with⟨c1,d1⟩ |⟨c2,d2⟩
  ·by_cases dz:d b'=1
   ·rw[if_pos dz,dz];by_cases cz:c b'=1
    ·rw[cz];exact .ss tt tt lc (M.mono (by omega))
    ·rw[show c b'=0 by omega]
     obtain⟨s,ts,es,hs⟩:=lsign (ps.map (Pl.ev B c));have:=hm t ht _ l1;simp only[evT];rw[es]at this⊢;exact .ns hs tt this lc (M.mono (by omega))
   ·rw[if_neg dz,show d b'=0 by omega]
    by_cases cz:c b'=1
    ·rw[cz];obtain⟨s,ts,es,hs⟩:=lsign (ps.map (Pl.ev B d));have:=hm t ht _ l2;simp only[evT];rw[es]at this⊢;exact .sn tt hs this (M.mono (by omega))
    ·rw[show c b'=0 by omega]
     simp only[evT];exact(zku b.ti M _ L.hb (by rw[lc];exact L.fits)).mono (by omega)
  ·rw[d2,if_neg (by decide),c2];simp only[evT];have:=R.dp;exact(zku b.ti M _ (R.hb b.sg) (by rw[lc];exact R.fits)).mono (by omega)
theorem zoy{P:Str→Prop}:∀{ts us:List Tr},hds P ts→hds P us→hds P (ts++us)
 | [],us,_,h=>h
 |t::ts,us,h,g=>by
  simp only[hds,bW]at h⊢;exact⟨h.1,zoy h.2 g⟩
mutual
inductive PlAt (S:Sto):Pl→W→Prop
 |nd {k b:Int}{h:Str}{ps:List Pl}{a:Addr}{vs:List W}:S a=ae (.lst vs)→PlsAt S ps vs→PlAt S (.nd k b h ps) (.tup [.int k, .int b, .str h, .ref a])
inductive PlsAt (S:Sto):List Pl→List W→Prop
 |nil:PlsAt S [] []
 |cons {p:Pl}{v:W}{ps:List Pl}{vs:List W}:PlAt S p v→PlsAt S ps vs→PlsAt S (p::ps) (v::vs)
end
mutual
theorem PlAt.sub{S S':Sto}(h:Sub S S'):∀{p:Pl}{v:W},PlAt S p v→PlAt S' p v
 |_,_, .nd e q=> .nd (h _ _ e) (PlsAt.sub h q)
theorem PlsAt.sub{S S':Sto}(h:Sub S S'):∀{ps:List Pl}{vs:List W},PlsAt S ps vs→PlsAt S' ps vs
 |_,_, .nil=> .nil
 |_,_, .cons a b=> .cons (PlAt.sub h a) (PlsAt.sub h b)
end
section
variable {S:Sto}
theorem PlsAt.len:∀{ps:List Pl}{vs:List W},PlsAt S ps vs→ps.length=vs.length
 |_,_, .nil=>rfl
 |_,_, .cons _ h=>congrArg (· +1) (PlsAt.len h)
theorem PlsAt.app:∀{ps qs:List Pl}{vs us:List W},PlsAt S ps vs→PlsAt S qs us→PlsAt S (ps++qs) (vs++us)
 |_,_,_,_, .nil,h=>h
 |_,_,_,_, .cons a b,h=> .cons a (PlsAt.app b h)
theorem PlsAt.take:∀(n:Nat) {ps:List Pl}{vs:List W},PlsAt S ps vs→PlsAt S (ps.take n) (vs.take n)
 |0,_,_,_=> .nil
 |_+1,_,_, .nil=> .nil
 |n+1,_,_, .cons a b=> .cons a (PlsAt.take n b)
theorem PlsAt.drop:∀(n:Nat) {ps:List Pl}{vs:List W},PlsAt S ps vs→PlsAt S (ps.drop n) (vs.drop n)
 |0,_,_,h=>h
 |_+1,_,_, .nil=> .nil
 |n+1,_,_, .cons _ b=>PlsAt.drop n b
theorem PlsAt.rep{p:Pl}{v:W}(h:PlAt S p v):∀n:Nat,PlsAt S (aR n p) (aR n [v]).flatten
 |0=> .nil
 |n+1=>by
  rw[ce,ce,df];exact .cons h (PlsAt.rep h n)
end
noncomputable def pad (w:Str):Pl:= .nd (-1) 0 w []
noncomputable def zbK (need:Nat) (w:Str) (ps:List Pl):List Pl:=aR (need - ps.length) (pad w)++ps
noncomputable def push (need:Nat) (w:Str) (k b:Int) (h:Str) (ps:List Pl):List Pl:=
 (zbK need w ps).take ((zbK need w ps).length - need)++[.nd k b h ((zbK need w ps).drop ((zbK need w ps).length - need))]
theorem zmE (w:Str):∀n:Nat,pwts (aR n (pad w))=n
 |0=>by simp [pwts]
 |n+1=>by rw[ce,pwts,zmE w n];simp [pad,Pl.wt,pwts];omega
theorem zlq (w:Str):∀n:Nat,pnts (aR n (pad w))=0
 |0=>by simp [pnts]
 |n+1=>by rw[ce,pnts,zlq w n];simp [pad,Pl.nt,pnts]
theorem zfA:∀ps:List Pl,ps.length≤pwts ps
 | []=>by simp
 |p::ps=>by have:=zfA ps;have:=zvq p;simp [pwts];omega
theorem zec (need:Nat) (w:Str) (ps:List Pl):(zbK need w ps).length=need - ps.length+ps.length:=by simp [zbK]
theorem zpI{need:Nat}{w:Str}{k b:Int}{h:Str}{ps:List Pl}:pwts (push need w k b h ps)=need - ps.length+pwts ps+1∧pnts (push need w k b h ps)=pnts ps+(if k<0 then 0 else 1)∧(push need w k b h ps).length=need - ps.length+ps.length - need+1:=by
 have hl:=zec need w ps;have h1:pwts (zbK need w ps)=need - ps.length+pwts ps:=by rw[zbK,zcf,zmE]
 have h2:pnts (zbK need w ps)=pnts ps:=by rw[zbK,zbR,zlq];omega
 have h3:=zcf ((zbK need w ps).take ((zbK need w ps).length - need)) ((zbK need w ps).drop ((zbK need w ps).length - need));have h4:=zbR ((zbK need w ps).take ((zbK need w ps).length - need)) ((zbK need w ps).drop ((zbK need w ps).length - need));rw[iK]at h3 h4;unfold push;refine⟨?_,?_,?_⟩
 ·rw[zcf,pwts,pwts,Pl.wt];omega
 ·rw[zbR,pnts,pnts,Pl.nt];omega
 ·rw[aZ,cQ,eF,hl];omega
theorem zmN{need:Nat}{w:Str}(ps:List Pl):((zbK need w ps).drop ((zbK need w ps).length - need)).length=need:=by
 have hl:=zec need w ps;rw[cG,hl];omega
theorem zjj{ws:List Str}{B:List Tn}{need:Nat}{w:Str}{ps:List Pl}(hw:w∈ws) (h:∀p∈ps,PlOk ws B p):∀p∈zbK need w ps,PlOk ws B p:=λp hp=>by
 rcases bb.mp hp with z |z
 ·rw[(List.mem_replicate.mp z).2];exact .sign hw λq hq=>by cases hq
 ·exact h p z
theorem zut{ws:List Str}{B:List Tn}{need:Nat}{w:Str}{k b:Int}{h:Str}{ps:List Pl}(hw:w∈ws) (hp:∀p∈ps,PlOk ws B p) (hn:∀qs:List Pl,qs.length=need→(∀q∈qs,PlOk ws B q)→PlOk ws B (.nd k b h qs)):∀p∈push need w k b h ps,PlOk ws B p:=λp hq=>by
 rcases bb.mp hq with z |z
 ·exact zjj hw hp p (ib z)
 ·rw[aV.mp z];exact hn _ (zmN ps) λq hq=>zjj hw hp q (gF hq)
noncomputable def zrs:WS:=(zcc (zrE (wTb (wOp oGt (wVar 3) (wC (.int 0)))) (wTb (wOp oLt (wVar 5) (wC (.int 5))))) (zas (wAsg (wOp (zdN λi j=> .int (i - j)) (wVar 3) (wC (.int 1))) (wGN 3))
  (zas (wAsg (zcd (zrw (zrA (zcp (zab (zaR (zab (zqA (wC (.int 1))) (zab (wC (.int 0)) (zab (wOp oIx (wVar 2) (wC (.int 2))) (zab (zcd (zcp waNil)) waNil))))) waNil)) (wOp (zdN λi j=> .int (i - j)) (wVar 8) (wB zfq (zab (wVar 4) waNil)))) (wVar 4))) (wGN 4))
  (zas (wAsg (wOp (zdN λi j=> .int (i - j)) (wB zfq (zab (wVar 4) waNil)) (wVar 8)) (wGN 11))
  (wAsg (zcd (zks (zui (wVar 4) woN (woS (wVar 11))) (zcp (zab (wOp zdF (wVar 9) (zaR (zab (wSl (wVar 4) (woS (wVar 11)) woN) waNil))) waNil)))) (wGN 4))))) wNext)
theorem zpC{r:Nat}:zeV r zbh=(zas (wAsg (wOp (zdp (λ_ j=>0<j) λi j=> .int (i % j)) (wVar 6) (wC (.int 8))) (wGN 7))
  (zas (wAsg (zrN (zcp (zab (wC (.int 0)) (zab (wC (.int 0)) (zab (wC (.int 1)) (zab (wC (.int 2)) waNil))))) (wB zid (zab (wVar 7) (zab (wC (.int 3)) waNil)))) (wGN 8))
  (zas (wAsg (zaR (zab (zqA (wC (.int 1))) (zab (wC (.int 0)) (zab (wOp oIx (wVar 2) (zrN (zcp (zab (wC (.int 2)) (zab (wC (.int 5)) (zab (wC (.int 3)) (zab (wC (.int 4)) waNil))))) (wB zid (zab (wVar 7) (zab (wC (.int 3)) waNil))))) waNil)))) (wGN 9))
  (zas (zcc (wTb (wOp oGt (wVar 7) (wC (.int 3)))) (zas (wAsg (wOp (zdp (λ_ j=>0<j) λi j=> .int (i % j)) (wOp (zdp zmW λi j=> .int (i / j)) (wVar 6) (wC (.int 8))) (wB zfq (zab (wVar 1) waNil))) (wGN 10))
  (zas (wAsg (zan (zaA r) (zab (wOp oIx (wOp oIx (wVar 1) (wVar 10)) (wC (.int 1))) waNil)) (wGN 8))
  (zas (wAsg (zaR (zab (wVar 10) (zab (wOp (zdp (λ_ j=>0<j) λi j=> .int (i % j)) (wOp (zdp zmW λi j=> .int (i / j)) (wVar 6) (wC (.int 64))) (wC (.int 8))) (zab (wC (.str "")) waNil)))) (wGN 9))
  (wAsg (wOp zdF (wVar 5) (wC (.int 1))) (wGN 5))))) wNext)
  zrs)))):=rfl
section
variable {w0 w1 w2 w3 w4 w5:Str}{r:Nat}{S:Sto}{aw st:Addr}{E:WX}{D:WEnds}
theorem zoZ{need:Nat}{k b room spent:Int}{h:Str}{ps:List Pl}{vs:List W}{x0 x1 x6 x7 x10 x11:Option W}(hw:S aw=ae (.lst (six w0 w1 w2 w3 w4 w5))) (hst:S st=ae (.lst vs)) (hp:PlsAt S ps vs) (hn:need≤3) (hl:ps.length≤100)
  (h1:D.nx [x0,x1,ae (.ref aw),ae (.int room),ae (.ref st),ae (.int spent),x6,x7,ae (.int need),ae (.tup [.int k, .int b, .str h]),x10,x11] S)
  (h2:0<room→spent<5→ ∀(st':Addr) (S':Sto) (vs':List W) (x11:Option W),Sub S S'→S' st'=ae (.lst vs')→PlsAt S' (push need w2 k b h ps) vs'→D.nx [x0,x1,ae (.ref aw),ae (.int (room - 1)),ae (.ref st'),ae (.int spent),x6,x7,ae (.int need),ae (.tup [.int k, .int b, .str h]),x10,x11] S') :
  zrs E D [x0,x1,ae (.ref aw),ae (.int room),ae (.ref st),ae (.int spent),x6,x7,ae (.int need),ae (.tup [.int k, .int b, .str h]),x10,x11] S:=by
 unfold zrs;walk_at "wp";split
 ·rename_i c1;split
  ·rename_i c2;simp only[zal hw,six2];have f1:=λ(a:Addr) (ha:S a=none)=>keep (x:=Ob.lst []) hst ha;refine⟨aX _,λa ha=>⟨zah (by decide),zah (by decide),?_⟩⟩;rw[zal (f1 a ha),zal (f1 a ha)];have hlen:=hp.len;have en:((need:Int) - (vs.length:Int)).toNat=need - ps.length:=by omega
   rw[en];have pa:PlAt (put S a (Ob.lst [])) (pad w2) (.tup [.int (-1), .int 0, .str w2, .ref a]):= .nd zag .nil;have pp:PlsAt (put S a (Ob.lst [])) (zbK need w2 ps) ((aR (need - ps.length) [W.tup [.int (-1), .int 0, .str w2, .ref a]]).flatten++vs):=(PlsAt.rep pa _).app (hp.sub (.put .refl ha));have pl:=pp.len;have sub1:Sub S (put S a (Ob.lst [])):= .put .refl ha;have hfl:((aR (need - ps.length) [W.tup [.int (-1), .int 0, .str w2, .ref a]]).flatten).length≤3:=by
    rw[aZ,zec]at pl;omega
   have e0:(1*(need - ps.length))≤sizeLine:=zah (by omega);refine⟨⟨by omega,by omega,e0⟩,zah (by omega),?_⟩
   generalize (aR (need - ps.length) [W.tup [.int (-1), .int 0, .str w2, .ref a]]).flatten++vs=ys at pp pl⊢;generalize put S a (Ob.lst [])=S1 at pp sub1⊢;intro b2 hb2;have sub2:Sub S1 (put S1 b2 (.lst ys)):= .put .refl hb2;generalize put S1 b2 (Ob.lst ys)=S2 at sub2⊢;have hpl:=zec need w2 ps;have ea:((ys.length:Nat):Int) - (need:Int)=((ys.length - need:Nat):Int):=by omega
   rw[ea,zmr,zlO];intro p hp3;have sub3:Sub S2 (put S2 p (.lst (ys.drop (ys.length - need)))):= .put .refl hp3;have fp:put S2 p (Ob.lst (ys.drop (ys.length - need))) p=ae (.lst (ys.drop (ys.length - need))):=zag;generalize put S2 p (Ob.lst (ys.drop (ys.length - need)))=S3 at sub3 fp⊢;refine⟨zah (by decide),zah (by decide),zah (by decide),zah (by rw[cQ];omega),λq hq=>?_⟩;have sub4:Sub S3 (put S3 q (.lst (ys.take (ys.length - need)++[.tup [.int k, .int b, .str h, .ref p]]))):= .put .refl hq;refine h2 c1 c2 q _ _ _ (((sub1.trans sub2).trans sub3).trans sub4) zag ?_;unfold push;have pp3:=pp.sub ((sub2.trans sub3).trans sub4);rw[←pl]at *;exact(pp3.take _).app (.cons (.nd (sub4 _ _ fp) (pp3.drop _)) .nil)
  ·exact h1
 ·exact h1
theorem zul (n:Int) (h0:0≤n) (h1:n<8):∃m:Nat,m≤2∧atI [W.int 0,W.int 0,W.int 1,W.int 2] (if 3<n then 3 else n)=ae (.int (m:Int)):=by
 rcases(show n=0∨n=1∨n=2∨(3≤n) by omega) with rfl |rfl |rfl |h
 ·exact⟨0,by decide,rfl⟩
 ·exact⟨0,by decide,rfl⟩
 ·exact⟨1,by decide,rfl⟩
 ·have:(if 3<n then 3 else n)=3:=by split<;>omega
  rw[this];exact⟨2,by decide,rfl⟩
theorem ztC (n:Int) (h0:0≤n) (h1:n<8):∃(i:Int) (x:Str),x∈ [w2,w3,w4,w5]∧atI [W.int 2,W.int 5,W.int 3,W.int 4] (if 3<n then 3 else n)=ae (.int i)∧atI (six w0 w1 w2 w3 w4 w5) i=ae (.str x):=by
 rcases(show n=0∨n=1∨n=2∨(3≤n) by omega) with rfl |rfl |rfl |h
 ·exact⟨2,w2,by simp,rfl,rfl⟩
 ·exact⟨5,w5,by simp,rfl,rfl⟩
 ·exact⟨3,w3,by simp,rfl,rfl⟩
 ·have:(if 3<n then 3 else n)=3:=by split<;>omega
  rw[this];exact⟨4,w4,by simp,rfl,rfl⟩
inductive PlI (S:Sto) (ac ab aw:Addr) (hs:List Str) (B:List Tn) (m:Nat) (ws:List W) (σ:WSt) (S':Sto):Prop
 |mk (ns:List Int) (ps:List Pl) (vs:List W) (st:Addr) (room spent:Int) (x6 x7 x8 x9 x10 x11:Option W):ws=ns.map W.int→Sub S S'→S' st=ae (.lst vs)→PlsAt S' ps vs→(∀p∈ps,PlOk hs B p)→0≤room→room≤m→(pnts ps:Int)≤spent→pnts ps≤4→(pwts ps:Int)+ps.length≤2*(m - room)+pnts ps+2→
  σ=[ae (.ref ac),ae (.ref ab),ae (.ref aw),ae (.int room),ae (.ref st),ae (.int spent),x6,x7,x8,x9,x10,x11]→PlI S ac ab aw hs B m ws σ S'
inductive PlW (S:Sto) (hs:List Str) (B:List Tn) (m:Nat) (f:Addr→WSt) (mm:Nat) (σ:WSt) (S2:Sto):Prop
 |mk (ps:List Pl) (vs:List W) (st:Addr):mm=ps.length→Sub S S2→S2 st=ae (.lst vs)→PlsAt S2 ps vs→(∀p∈ps,PlOk hs B p)→pnts ps≤4→pwts ps+ps.length≤2*m+pnts ps+2→σ=f st→PlW S hs B m f mm σ S2
theorem zrx{m:Nat}(hm9:m≤9) {Q:WK}{X:Str→Sto→Prop}{ac ab:Addr}{cells:List Int}{B:List Tn}(hc:S ac=ae (.lst (cells.map W.int))) (hb:S ab=ae (.lst (B.map zbi))) (hw:S aw=ae (.lst (six w0 w1 w2 w3 w4 w5))) (bk:BkOk [w0,w1,w2,w3,w4,w5] [w2,w3,w4,w5] B) (hB:B≠ [])
  (h:∀(p:Pl) (v:W) (S':Sto),Sub S S'→PlAt S' p v→PlOk [w2,w3,w4,w5] B p→p.wt≤2*m+1+p.nt→p.nt≤4→Q v S'):zci (r+10) [.ref ac, .ref ab, .ref aw, .int m] S Q X:=by
 rw[show r+10=r+9+1 from rfl,zci];walk_at "wp";refine⟨aX _,λst0 hst0=>?_⟩;rw[zal (keep hc hst0)];refine zkf (PlI S ac ab aw [w2,w3,w4,w5] B m) ?_ ?_ _ _ _ ⟨cells,[],[],st0,m,0,none,none,none,none,none,none,rfl, .put .refl hst0,zag, .nil,(λ_ h=>nomatch h),by omega,by omega,by simp [pnts],by simp [pnts],by simp [pnts,pwts],rfl⟩
 ·rintro w ws σ S' N ⟨ns,ps,vs,st,room,spent,x6,x7,x8,x9,x10,x11,ew,sub,hst,hp,ok,r0,r1,p0,p1,p2,rfl⟩ hN;cases ns with
  |nil=>cases ew
  |cons n ns=>
  cases ew;have fw:=sub _ _ hw;have fb:=sub _ _ hb;have fc:=sub _ _ hc;have m0:0≤n % 8:=b8 _ (by decide);have m1:n % 8<8:=ci _ (by decide);have hpl:=zfA ps;obtain⟨need,hneed,en⟩:=zul (n % 8) m0 m1;obtain⟨i,hd,hhd,e1,e2⟩:=ztC (w0:=w0) (w1:=w1) (w2:=w2) (w3:=w3) (w4:=w4) (w5:=w5) (n % 8) m0 m1;have go:∀(need:Nat) (k b:Int) (hh:Str) (sp:Int) (x10:Option W),need≤3→(∀qs:List Pl,qs.length=need→(∀q∈qs,PlOk [w2,w3,w4,w5] B q)→PlOk [w2,w3,w4,w5] B (.nd k b hh qs))→(k<0∧need≤2∧sp=spent∨ ¬k<0∧sp=spent+1)→
    ∀(E:WX) (D:WEnds),D.nx=N→zrs E D [ae (.ref ac),ae (.ref ab),ae (.ref aw),ae (.int room),ae (.ref st),ae (.int sp),ae (.int n),ae (.int (n % 8)),ae (.int need),ae (.tup [.int k, .int b, .str hh]),x10,x11] S':=λneed k b hh sp x10 hn hok hk E D hD=>by
   subst hD;refine zoZ fw hst hp hn (by omega) ?_ λc1 c2 st' S2 vs' x11 sub2 hst2 hp2=>?_
   ·refine hN _ _ S' .refl fc ⟨ns,ps,vs,st,room,sp,_,_,_,_,_,_,rfl,sub,hst,hp,ok,r0,r1,by omega,p1,p2,rfl⟩
   ·obtain⟨s1,s2,s3⟩:=zpI (need:=need) (w:=w2) (k:=k) (b:=b) (h:=hh) (ps:=ps);have hz:ps.length=0→pwts ps=0∧pnts ps=0:=λz=>by
     cases ps with
     |nil=>exact⟨rfl,rfl⟩
     |cons _ _=>simp at z
    have fin:(pnts (push need w2 k b hh ps):Int)≤sp→pnts (push need w2 k b hh ps)≤4→(pwts (push need w2 k b hh ps):Int)+(push need w2 k b hh ps).length≤2*(m - (room - 1))+pnts (push need w2 k b hh ps)+2→D.nx [ae (.ref ac),ae (.ref ab),ae (.ref aw),ae (.int (room - 1)),ae (.ref st'),ae (.int sp),ae (.int n),ae (.int (n % 8)),ae (.int need),ae (.tup [.int k, .int b, .str hh]),x10,x11] S2:=λf1 f2 f3=>
     hN _ _ S2 .refl (sub2 _ _ fc) ⟨ns,_,vs',st',room - 1,sp,_,_,_,_,_,_,rfl,sub.trans sub2,hst2,hp2,zut (by simp) ok hok,by omega,by omega,f1,f2,f3,rfl⟩
    rcases hk with⟨kn,n2,es⟩ |⟨kp,es⟩
    ·rw[if_pos kn]at s2;refine fin (by omega) (by omega) ?_;rcases ge ps.length with z |z
     ·have:=hz z;omega
     ·omega
    ·rw[if_neg kp]at s2;refine fin (by omega) (by omega) ?_;rcases ge ps.length with z |z
     ·have:=hz z;omega
     ·omega
  rw[zpC];walk_at "wp";simp only[en,e1];walk_at "wp";simp only[zal fw,e2];refine⟨by decide,zah (by decide),zah (by decide),zah (by decide),?_⟩;split
  ·have hbl:(B.map zbi)≠ []:=by simpa using hB
   obtain⟨j,x,ej,ex⟩:=zwg (n / 8) hbl;have hlt:0<(B.map zbi).length:=gg.mpr hbl;have ek:n / 8 % ((B.map zbi).length:Int)=(((n / 8 % ((B.map zbi).length:Int)).toNat:Nat):Int):=by
    have:=b8 (n / 8) (show((B.map zbi).length:Int)≠0 by omega)
    omega
   have ek2:=zbZ (xs:=B.map zbi) (n:=(n / 8 % ((B.map zbi).length:Int)).toNat);rw[←ek,ex,bo]at ek2;cases et:B[(n / 8 % ((B.map zbi).length:Int)).toNat]? with
   |none=>rw[et]at ek2;cases ek2
   |some t=>
    rw[et]at ek2;have ext:x= .tup [.str t.1,enc t.2.1,enc t.2.2]:=by cases ek2;rfl
    have ht:t∈B:=bp et;have LT:=bk.lf t ht;have hLd:=LT.dp;have hLw:=LT.wt;have hLn:=LT.nb;simp only[zal fb,ex,ext];walk_at "wp";rw[show atI [W.str t.1,enc t.2.1,enc t.2.2] 1=ae (enc t.2.1) from rfl];refine⟨⟨by decide,by decide⟩,by omega,?_⟩
    refine zhH 4 hLd (by omega) (by omega) ⟨⟨by decide,by decide⟩,by decide,zah (by decide),?_⟩
    have b0:0≤n / 64 % 8:=b8 _ (by decide);have b1:n / 64 % 8<8:=ci _ (by decide);refine go t.2.1.nb _ _ _ _ _ hLn (λqs hq hqs=>?_) (.inr ⟨by omega,rfl⟩) _ _ rfl;rw[ek];exact .turn et hq b0 b1 hqs
  ·exact go need (-1) 0 hd spent _ (by omega) (λqs hq hqs=> .sign hhd hqs) (.inl ⟨by decide,hneed,rfl⟩) _ _ rfl
 ·rintro σ S' ⟨ns,ps,vs,st,room,spent,x6,x7,x8,x9,x10,x11,ew,sub,hst,hp,ok,r0,r1,p0,p1,p2,rfl⟩;have hpl:=zfA ps;refine⟨PlW S [w2,w3,w4,w5] B m (λst=>[ae (.ref ac),ae (.ref ab),ae (.ref aw),ae (.int room),ae (.ref st),ae (.int spent),x6,x7,x8,x9,x10,x11]),⟨_,ps,vs,st,rfl,sub,hst,hp,ok,p1,by omega,rfl⟩,?_⟩
  rintro mm σ S2 ⟨ps,vs,st,rfl,sub,hst,hp,ok,p1,p2,rfl⟩;have hlen:=hp.len;have fw:=sub _ _ hw;walk_at "wp";rw[zal hst];split
  ·rename_i hgt;simp only[zeG];walk_at "wp";simp only[zal hst,zal fw,six4];have c1:zdE vs none (ae (-2))=vs.take (vs.length - 2):=zkB 2 (by decide);have c2:zdE vs (ae (-2)) none=vs.drop (vs.length - 2):=zpj 2 (by decide);rw[c1,c2];intro p hp3;have sub3:Sub S2 (put S2 p (.lst (vs.drop (vs.length - 2)))):= .put .refl hp3;have fp:put S2 p (Ob.lst (vs.drop (vs.length - 2))) p=ae (.lst (vs.drop (vs.length - 2))):=zag;generalize put S2 p (Ob.lst (vs.drop (vs.length - 2)))=S3 at sub3 fp⊢;refine⟨zah (by decide),zah (by decide),zah (by rw[cQ];omega),λq hq=>?_⟩;have sub4:Sub S3 (put S3 q (.lst (vs.take (vs.length - 2)++[.tup [.int (-1), .int 0, .str w4, .ref p]]))):= .put .refl hq;have hp4:=hp.sub (sub3.trans sub4);have hw3:=zcf (ps.take (vs.length - 2)) (ps.drop (vs.length - 2));have hn3:=zbR (ps.take (vs.length - 2)) (ps.drop (vs.length - 2));rw[iK]at hw3 hn3;refine⟨_,_,?_, .refl,ps.take (vs.length - 2)++[.nd (-1) 0 w4 (ps.drop (vs.length - 2))],_,q,rfl,(sub.trans sub3).trans sub4,zag,(hp4.take _).app (.cons (.nd (sub4 _ _ fp) (hp4.drop _)) .nil),λx hx=>?_,?_,?_,rfl⟩
   ·rw[aZ,cQ,eF];omega
   ·rcases bb.mp hx with z |z
    ·exact ok x (ib z)
    ·rw[aV.mp z];exact .sign (by simp) λy hy=>ok y (gF hy)
   ·rw[zbR,pnts,pnts,Pl.nt,if_pos (by decide)];omega
   ·rw[zcf,pwts,pwts,Pl.wt,aZ,cQ,eF,zbR,pnts,pnts,Pl.nt,if_pos (by decide)];omega
  ·rename_i hle
   try walk_at "wp"
   simp only[zal fw,six5];refine⟨aX _,λa ha=>⟨zah (by decide),zah (by decide),?_⟩⟩;rw[zal (keep hst ha)];refine⟨zah (by omega),?_⟩;cases hp with
   |nil=>
    exact⟨_, .refl,h (pad w5) _ _ (sub.trans (.put .refl ha)) (.nd zag .nil) (.sign (by simp) λ_ z=>nomatch z) (by simp [pad,Pl.wt,pwts];omega) (by simp [pad,Pl.nt,pnts])⟩
   | @cons p v ps vs h1 h2=>
    rw[bW,zhn];have e0:ps=[]:=by
     cases ps with
     |nil=>rfl
     |cons q qs=>
      have:=h2.len;simp only[aW]at this hle;omega
    subst e0;simp only[pwts,pnts,aW,du]at p1 p2;exact⟨_, .refl,h p v _ (sub.trans (.put .refl ha)) (h1.sub (.put .refl ha)) (ok p aK) (by omega) (by omega)⟩
theorem ztH{Q:WK}{X:Str→Sto→Prop}{ac ab:Addr}{cells:List Int}{B:List Tn}(hc:S ac=ae (.lst (cells.map W.int))) (hb:S ab=ae (.lst (B.map zbi))) (hw:S aw=ae (.lst (six w0 w1 w2 w3 w4 w5))) (bk:BkOk [w0,w1,w2,w3,w4,w5] [w2,w3,w4,w5] B) (hB:B≠ [])
  (h:∀(p:Pl) (v:W) (S':Sto),Sub S S'→PlAt S' p v→PlOk [w2,w3,w4,w5] B p→p.wt≤23→p.nt≤4→Q v S'):zci (r+10) [.ref ac, .ref ab, .ref aw, .int 9] S Q X:=
 zrx (m:=9) (by decide) hc hb hw bk hB λp v S' sub pa po pw pn=>h p v S' sub pa po (by omega) pn
end
section
variable {r:Nat}{S:Sto}{Q:WK}{E:Str→Sto→Prop}{a:Addr}{B:List Tn}
theorem zun{x:Str}(hx:x.length≤1000) (h:Q (.bl (zkw x)) S):zdO (r+2) [.str x] S Q E:=by
 have hxl:=zes x;rw[zdO];walk_at "wp";unfold zkw at h;rw[←hxl]at h;cases e1:decide (1≤x.length) with
 |false=>
  rw[e1]at h;have:¬1≤x.length:=by simpa using e1
  have e1':decide ((1:Int)≤(x.length:Int))=false:=by simp;omega
  rw[e1'];walk_at "wp";exact⟨zah (by omega),_, .refl,h⟩
 |true=>
  rw[e1]at h;have h1:1≤x.length:=by simpa using e1
  have e1':decide ((1:Int)≤(x.length:Int))=true:=by simp;omega
  rw[e1'];refine⟨zah (by omega),?_⟩;walk_at "wp";cases e2:decide (x.length≤8) with
  |false=>
   rw[e2]at h;have:¬x.length≤8:=by simpa using e2
   have e2':decide ((x.length:Int)≤8)=false:=by simp;omega
   rw[e2'];exact⟨_, .refl,h⟩
  |true=>
   rw[e2]at h;have h2:x.length≤8:=by simpa using e2
   have e2':decide ((x.length:Int)≤8)=true:=by simp;omega
   rw[e2'];walk_at "wp";exact zpd (by omega) ⟨_, .refl,h⟩
noncomputable def zdf:Option Tn→W
 |some t=>zbi t
 |none=> .non
theorem ziO (B:List Tn) (s:Str):B.findSome? (λt=>if t.1 == s then ae (zbi t) else none)=(zaw B s).map zbi:=by
 unfold zaw
 induction B with
 |nil=>rfl
 |cons t B ih=>
  rw[eg,b7];cases e:t.1 == s with
  |true=>rfl
  |false=>simpa using ih
theorem zbO{s:Str}(ha:S a=ae (.lst (B.map zbi))) (h:Q (zdf (zaw B s)) S):zaD (r+1) [.ref a, .str s] S Q E:=by
 rw[zaD];walk_at "wp";rw[zal ha];refine zeW (S:=S) ?_ (λσ=>∃x,σ=[ae (.ref a),ae (.str s),x]) zbi (λt=>if t.1 == s then ae (zbi t) else none) B _ ⟨_,rfl⟩ (λt ht σ N hI hno hret=>?_) (λe σ hI=>?_) λw e S' sb=>?_
 ·exact ha
 ·obtain⟨x,rfl⟩:=hI;simp only[zek];have ee:zbi t= .tup [.str t.1,enc t.2.1,enc t.2.2]:=rfl;rw[ee];walk_at "wp";cases e:t.1 == s with
  |true=>
   rw[e]at hret;exact hret _ rfl _ .refl
  |false=>
   rw[e]at hno;exact hno rfl _ _ ⟨_,rfl⟩ .refl
 ·obtain⟨x,rfl⟩:=hI;walk_at "wp";rw[ziO]at e;have:zaw B s=none:=by
   cases q:zaw B s with
   |none=>rfl
   |some t=>rw[q]at e;cases e
  rw[this]at h;exact⟨_, .refl,h⟩
 ·rw[ziO]at e;cases q:zaw B s with
  |none=>rw[q]at e;cases e
  |some t=>
   rw[q]at e h;cases e;exact⟨_,sb,h⟩
theorem zng (ts:List Tr):zhp (ts.map λt=>W.bl t.quiet)=ae (ts.map Tr.quiet):=by
 have:=zja (ts.map Tr.quiet);rw[bx]at this;exact this
theorem zmL:∀(d:Nat) {t:Tr}{r:Nat}{Q:WK}{E:Str→Sto→Prop},t.depth≤d→d+5≤r→t.hd (λs=>s.length≤1000)→t.weight≤90000→Q (.bl t.quiet) S→zcM (r+1) [enc t] S Q E
 |0,t,r,Q,E,hd,hr,hh,hw,h=>by have:=zaX t;omega
 |d+1, .bl n,r,Q,E,hd,hr,hh,hw,h=>by simp [Tr.hd]at hh
 |d+1, .nd s ts,r,Q,E,hd,hr,hh,hw,h=>by
  simp only[Tr.depth]at hd;simp only[Tr.weight]at hw;simp only[Tr.hd]at hh;have hk:=zbg ts;obtain⟨r,rfl⟩:∃r',r=r'+2:=⟨r - 2,by omega⟩
  rw[zcM];simp only[enc];walk_at "wp";refine zun hh.1 ?_;rw[Tr.quiet]at h;cases e:zkw s with
  |false=>
   rw[e]at h;walk_at "wp";exact⟨_, .refl,h⟩
  |true=>
   rw[e]at h;walk_at "wp";rw[zaE];refine zaS (λσ=>∃x,σ=[x]) enc (λt=> .bl t.quiet) trivial ts [] _ ⟨none,rfl⟩ (by simp;omega) (λx hx σ R hI hR=>?_) ?_
   ·obtain⟨y,rfl⟩:=hI;have hdx:=zbw hx;have hwx:=zaL hx;have:=zaX x;simp only[zfl];walk_at "wp";exact zmL d (t:=x) (r:=r+1) (by omega) (by omega) (hds_iff.mp hh.2 x hx) (by omega) (hR _ _ ⟨_,rfl⟩ .refl)
   ·rw[aN,zng];dsimp only;rw[zgT]at h;rw[ziQ];exact⟨S, .refl,h⟩
end
noncomputable def byC (f:Int):Int→Nat:=λb=>if b / f % 2=1 then 1 else 0
theorem PlsAt.zip{S:Sto}:∀{ps:List Pl}{vs:List W},PlsAt S ps vs→ ∀x∈ps.zip vs,PlAt S x.1 x.2∧x.1∈ps
 |_,_, .nil,x,h=>by simp at h
 |_,_, .cons a b,x,h=>by
  rw[List.zip_cons_cons]at h;rcases ax.mp h with rfl |h
  ·exact⟨a,aK⟩
  ·have:=PlsAt.zip b x h;exact⟨this.1,aC _ this.2⟩
theorem PlsAt.snd{S:Sto}{ps:List Pl}{vs:List W}(h:PlsAt S ps vs):(ps.zip vs).map gU=vs:=List.map_snd_zip (by rw[h.len];exact au _)
theorem PlsAt.fst{S:Sto}{ps:List Pl}{vs:List W}(h:PlsAt S ps vs) {α:Type}(f:Pl→α):(ps.zip vs).map (λx=>f x.1)=ps.map f:=by
 have:(ps.zip vs).map Prod.fst=ps:=List.map_fst_zip (by rw[h.len];exact au _)
 conv=>rhs;rw[←this,bx]
 rfl
section
variable {S:Sto}{a:Addr}{ws hs:List Str}{B:List Tn}
theorem ztk{f:Int}(hf:f=1∨f=2∨f=4∨f=8) (ha:S a=ae (.lst (B.map zbi))) (b:BkOk ws hs B):∀(d:Nat) {p:Pl}{v:W}{r:Nat}{Q:WK}{E:Str→Sto→Prop},p.dp≤d→d+8≤r→PlAt S p v→PlOk hs B p→p.wt≤1000→Q (enc (p.ev B (byC f))) S→zcL (r+1) [v, .ref a, .int f] S Q E
 |0,p,v,r,Q,E,hd,hr,hp,ok,hw,h=>by have:=zuk p;omega
 |d+1, .nd k b' hh ps,v,r,Q,E,hd,hr,hp,ok,hw,h=>by
  cases hp with
  | @nd _ _ _ _ c vs hc hps=>
  simp only[Pl.dp]at hd;simp only[Pl.wt]at hw;have hlen:=zfA ps;obtain⟨r,rfl⟩:∃r',r=r'+1:=⟨r - 1,by omega⟩
  rw[zcL];walk_at "wp";rw[zal hc];rw[←hps.snd];have okp:∀x∈ps,PlOk hs B x:=by
   cases ok with
   |sign _ h=>exact h
   |turn _ _ _ _ h=>exact h
  refine zaS (λσ=>∃x,σ=[x,ae (.ref a),ae (.int f)]) gU (λx=>enc (x.1.ev B (byC f))) ?_ (ps.zip vs) [] _ ⟨none,rfl⟩ (by simp;omega) (λx hx σ R hI hR=>?_) ?_
  ·rw[hps.snd];exact hc
  ·obtain⟨y,rfl⟩:=hI;obtain⟨h1,h2⟩:=hps.zip x hx;have:=zfy h2;have:=zla h2;simp only[zfn];walk_at "wp";exact ztk hf ha b d (by omega) (by omega) h1 (okp _ h2) (by omega) (hR _ _ ⟨_,rfl⟩ .refl)
  ·rw[aN,hps.fst λp=>enc (p.ev B (byC f))];intro q hq;have eu:(ps.map λp=>enc (p.ev B (byC f)))=encs (ps.map (Pl.ev B (byC f))):=by rw[zaE,bx];rfl
   rw[eu];have fq:put S q (Ob.lst (encs (ps.map (Pl.ev B (byC f))))) q=ae (.lst (encs (ps.map (Pl.ev B (byC f))))):=zag;have fa:=keep (x:=Ob.lst (encs (ps.map (Pl.ev B (byC f))))) ha hq;have sub:Sub S (put S q (Ob.lst (encs (ps.map (Pl.ev B (byC f)))))):= .put .refl hq;generalize put S q (Ob.lst (encs (ps.map (Pl.ev B (byC f)))))=S1 at fq fa sub⊢
   try walk_at "wp"
   cases ok with
   |sign hs' _=>
    rw[if_pos (by decide)]
    try rw[zal fq]
    rw[zbL]at h;rw[zaP,ap];simp only[enc]at h;exact⟨zah (by decide),zah (by omega),_,sub,h⟩
   | @turn k _ _ _ t e hl b0 b1 _=>
    have ek:atI (B.map zbi) (k:Int)=ae (.tup [.str t.1,enc t.2.1,enc t.2.2]):=by
     rw[zbZ,bo,e];rfl
    have hdiv:zmW b' f:=by rcases hf with rfl |rfl |rfl |rfl<;>exact⟨by decide,by decide⟩
    have ht:t∈B:=bp e;rw[zbj e]at h;rw[if_neg (by omega)];refine⟨hdiv,by decide,?_⟩
    simp only[zal fa,ek];by_cases e1:b' / f % 2=1
    ·rw[e1];have:byC f b'=1:=by unfold byC;rw[if_pos e1]
     rw[this]at h;simp only[evT,enc]at h
     try walk_at "wp"
     try rw[zal fq]
     rw[zaP,ap];exact⟨zah (by decide),zah (by omega),_,sub,h⟩
    ·have e2:(b' / f % 2 == 1)=false:=by simpa using e1
     rw[e2];have:byC f b'=0:=by unfold byC;rw[if_neg e1]
     rw[this]at h;simp only[evT]at h;walk_at "wp";rw[show atI [W.str t.1,enc t.2.1,enc t.2.2] 1=ae (enc t.2.1) from rfl];dsimp only;have hLd:=(b.lf t ht).dp;have hLw:=(b.lf t ht).wt;have hLn:=(b.lf t ht).nb;exact zfj 4 hLd (by omega) fq (by rw[ap,hl];exact(b.lf t ht).fits) (by omega) ⟨_,sub,h⟩
end
theorem zsj{x:Str}(h:zbG x):x.length≤1000:=by rw[zes];have:=h.2.1;omega
theorem znh{x:Str}(h:zbp x):x.length≤1000:=by rw[zes];have:=(zpA h).2;omega
noncomputable def zat (n:Int) (t:Tn):Tr:=if n=1 then t.2.1 else t.2.2
structure Sides (g:Tn→Tr) (B:List Tn):Prop where
  fits:∀t∈B,(g t).fits t.2.1.nb
  dp:∀t∈B,(g t).depth≤4
  wt:∀t∈B,(g t).weight≤10
mutual
noncomputable def Tr.ar (B:List Tn):Tr→Prop
 | .bl _=>False
 | .nd s ts=>(∀t,zaw B s=ae t→ts.length=t.2.1.nb)∧ars B ts
noncomputable def ars (B:List Tn):List Tr→Prop
 | []=>True
 |t::ts=>t.ar B∧ars B ts
end
theorem ars_iff{B:List Tn}:∀{ts:List Tr},ars B ts↔ ∀t∈ts,t.ar B
 | []=>by simp [ars]
 |t::ts=>by simp [ars,ars_iff (ts:=ts)]
mutual
theorem zyf{B:List Tn}:∀t:Tr,t.way B=true→t.ar B
 | .bl n,h=>by simp [Tr.way]at h
 | .nd s ts,h=>by
  simp only[Tr.way,cc]at h;simp only[Tr.ar];refine⟨λt ht=>?_,zsD ts h.2⟩;have:=h.1;rw[topB,ht]at this;simpa using this
theorem zsD{B:List Tn}:∀ts:List Tr,znB B ts=true→ars B ts
 | [],h=>by simp [ars]
 |t::ts,h=>by
  simp only[znB,cc]at h;simp only[ars];exact⟨zyf t h.1,zsD ts h.2⟩
end
section
variable {S:Sto}{a:Addr}{B:List Tn}{n:Int}
theorem zkA (t:Tn) (h:n=1∨n=2):atI [W.str t.1,enc t.2.1,enc t.2.2] n=ae (enc (zat n t)):=by
 rcases h with rfl |rfl<;>rfl
theorem zmy (ha:S a=ae (.lst (B.map zbi))) (hn:n=1∨n=2) (hg:Sides (zat n) B):∀(d:Nat) {t:Tr}{r:Nat}{Q:WK}{E:Str→Sto→Prop},t.depth≤d→d+10≤r→t.ar B→t.weight≤1000→Q (enc (t.mk B (zat n))) S→zba (r+1) [.ref a,enc t, .int n] S Q E
 |0,t,r,Q,E,hd,hr,hh,hw,h=>by have:=zaX t;omega
 |d+1, .bl k,r,Q,E,hd,hr,hh,hw,h=>by simp [Tr.ar]at hh
 |d+1, .nd s ts,r,Q,E,hd,hr,hh,hw,h=>by
  simp only[Tr.depth]at hd;simp only[Tr.weight]at hw;simp only[Tr.ar]at hh;have hk:=zbg ts;obtain⟨r,rfl⟩:∃r',r=r'+1:=⟨r - 1,by omega⟩
  rw[zba];simp only[enc];walk_at "wp";rw[zaE];refine zaS (λσ=>∃x,σ=[x,ae (.ref a),ae (.int n)]) enc (λt=>enc (t.mk B (zat n))) trivial ts [] _ ⟨none,rfl⟩ (by simp;omega) (λx hx σ R hI hR=>?_) ?_
  ·obtain⟨y,rfl⟩:=hI;have hdx:=zbw hx;have hwx:=zaL hx;simp only[zdg];walk_at "wp";exact zmy ha hn hg d (by omega) (by omega) (ars_iff.mp hh.2 x hx) (by omega) (hR _ _ ⟨_,rfl⟩ .refl)
  ·rw[aN];intro q hq;have eu:(ts.map λt=>enc (t.mk B (zat n)))=encs (ts.map (Tr.mk B (zat n))):=by rw[zaE,bx];rfl
   rw[eu];have fq:put S q (Ob.lst (encs (ts.map (Tr.mk B (zat n))))) q=ae (.lst (encs (ts.map (Tr.mk B (zat n))))):=zag;have fa:=keep (x:=Ob.lst (encs (ts.map (Tr.mk B (zat n))))) ha hq;have sub:Sub S (put S q (Ob.lst (encs (ts.map (Tr.mk B (zat n)))))):= .put .refl hq;generalize put S q (Ob.lst (encs (ts.map (Tr.mk B (zat n)))))=S1 at fq fa sub⊢;refine zbO fa ?_;cases e:zaw B s with
   |none=>
    rw[zgi e]at h;simp only[zdf]
    try walk_at "wp"
    try rw[zal fq]
    rw[zaP,ap];simp only[enc]at h;exact⟨zah (by decide),zah (by omega),_,sub,h⟩
   |some t=>
    have ht:t∈B:=b6 e;have ee:zdf (ae t)= .tup [.str t.1,enc t.2.1,enc t.2.2]:=rfl;rw[zgw e]at h;rw[ee]
    try walk_at "wp"
    rw[zkA t hn];dsimp only;have hgw:=hg.wt t ht;exact zeA 4 (hg.dp t ht) (by omega) fq (by rw[ap,hh.1 t e];exact hg.fits t ht) (by omega) ⟨_,sub,h⟩
theorem zlg{t:Tr}(h1:t.weight≤400) (h2:t.depth≤40):t.small=true:=by
 unfold Tr.small;rw[decide_eq_true h1,decide_eq_true h2];rfl
theorem ziF{t:Tr}{r:Nat}{Q:WK}{E:Str→Sto→Prop}(ha:S a=ae (.lst (B.map zbi))) (hg:Sides (zat 1) B) (hd:t.depth≤40) (hr:60≤r) (hh:t.ar B) (hw:t.weight≤1000) (h1:(t.mk B (zat 1)).weight≤400) (h2:(t.mk B (zat 1)).depth≤40) (h:Q (enc (t.mk B (zat 1))) S):zeb (r+1) [.ref a,enc t] S Q E:=by
 obtain⟨r,rfl⟩:∃r',r=r'+5:=⟨r - 5,by omega⟩
 rw[zeb];walk_at "wp";refine zmy ha (.inl rfl) hg 40 (r:=r+4) hd (by omega) hh hw ?_;rw[zbT];walk_at "wp";refine zmR (r:=r+1) (by omega) ?_;rw[zlg h1 h2]
 try walk_at "wp"
 exact⟨_, .refl,_, .refl,h⟩
end
noncomputable def zyn (r:Nat):WS:=(zas (wAsg (zcd (zcI 2 [0] (zve (wVar 5) (wVar 6)) (wGT (zav (wGN 0) (zav (wGN 1) zcD))) zfw (zfL r (zcO r)))) (wGN 7))
  (zas (zcc (wTb (wOp (oIs false) (wVar 4) (wC .non))) (wRet (wOp zdF (zaR (zab (wOp oIx (wVar 1) (wC (.int 0))) waNil)) (wB zdo (zab (wVar 7) waNil)))) wNext)
  (wRet (zan (zcH r) (zab (wOp oIx (wVar 4) (wC (.int 2))) (zab (wVar 7) waNil))))))
noncomputable def zrz (r:Nat) (T:WS):WS:=(zas (zcc (zrE (wTb (wOp (oIs false) (wVar 3) (wC .non))) (wTb (wOp (oIs true) (wVar 4) (wC .non)))) (wAsg (zan (zbM r) (zab (wOp oIx (wVar 4) (wC (.int 1))) (zab (wVar 1) waNil))) (wGN 5)) wNext)
  (zas (zcc (zrE (wTb (wOp (oIs true) (wVar 3) (wC .non))) (wTb (wOp (oIs false) (wVar 4) (wC .non)))) (wAsg (zan (zbM r) (zab (wOp oIx (wVar 3) (wC (.int 1))) (zab (wVar 2) waNil))) (wGN 6)) wNext)
  T))
theorem zmU{r:Nat}:zcO (r+1)=zcs 8 3 (zas (wAsg (zan (zaD r) (zab (wVar 0) (zab (wOp oIx (wVar 1) (wC (.int 0))) waNil))) (wGN 3))
  (zas (wAsg (zan (zaD r) (zab (wVar 0) (zab (wOp oIx (wVar 2) (wC (.int 0))) waNil))) (wGN 4))
  (zas (wAsg (wSl (wVar 1) (woS (wC (.int 1))) woN) (wGN 5))
  (zas (wAsg (wSl (wVar 2) (woS (wC (.int 1))) woN) (wGN 6))
  (zrz r (zyn r)))))):=rfl
mutual
theorem zpQ{P:Str→Prop}:∀(l t:Tr) (ys:List Tr),l.mt t=ae ys→t.hd P→hds P ys∧wts ys≤t.weight
 | .bl _,t,ys,h,q=>by
  simp only[Tr.mt,bF]at h;subst h;simp only[hds,wts];exact⟨⟨q,trivial⟩,by omega⟩
 | .nd s ls, .nd z us,ys,h,q=>by
  simp only[Tr.mt]at h;simp only[Tr.hd]at q;split at h
  ·have:=zsw ls us ys h q.2;simp only[Tr.weight];exact⟨this.1,by omega⟩
  ·cases h
 | .nd _ _, .bl _,ys,h,q=>by simp [Tr.mt]at h
theorem zsw{P:Str→Prop}:∀(ls us ys:List Tr),mts ls us=ae ys→hds P us→hds P ys∧wts ys≤wts us
 | [],us,ys,h,q=>by simp only[mts,bF]at h;subst h;simp [hds,wts]
 |l::ls,[],ys,h,q=>by simp only[mts,bF]at h;subst h;simp [hds,wts]
 |l::ls,u::us,ys,h,q=>by
  simp only[mts]at h;simp only[hds]at q;split at h
  ·cases h
  ·rename_i xs ex;split at h
   ·cases h
   ·rename_i zs ez;simp only[bF]at h;subst h;have h1:=zpQ l u xs ex q.1;have h2:=zsw ls us zs ez q.2;rw[zea,wts];exact⟨zoy h1.1 h2.1,by omega⟩
end
mutual
theorem zex{P:Str→Prop}{m:Nat}:∀t:Tr,t.hd P→t.fits m
 | .bl n,h=>by simp [Tr.hd]at h
 | .nd s ts,h=>by
  simp only[Tr.hd]at h;simp only[Tr.fits];exact zlv ts h.2
theorem zlv{P:Str→Prop}{m:Nat}:∀ts:List Tr,hds P ts→fitss m ts
 | [],h=>by simp [fitss]
 |t::ts,h=>by
  simp only[hds]at h;simp only[fitss];exact⟨zex t h.1,zlv ts h.2⟩
end
theorem Mvs.triples{B:List Tn}{n:Nat}:∀{as bs cs:List Tr},Mvs B n as bs cs→ ∃zs:List (Tr×Tr×Tr),as=zs.map (λz=>z.1)∧bs=zs.map (λz=>z.2.1)∧cs=zs.map (λz=>z.2.2)∧ ∀z∈zs,Mv B n z.1 z.2.1 z.2.2
 |_,_,_, .nil=>⟨[],rfl,rfl,rfl,λ_ h=>nomatch h⟩
 |_,_,_, .cons (a:=a) (b:=b) (c:=c) h1 h2=>by
  obtain⟨zs,e1,e2,e3,h⟩:=Mvs.triples h2;exact⟨(a,b,c)::zs,by rw[e1];rfl,by rw[e2];rfl,by rw[e3];rfl,λz hz=>(ax.mp hz).elim (λe=>by rw[e];exact h1) (h z)⟩
theorem zjO:∀zs:List (Tr×Tr×Tr),pairs (encs (zs.map λz=>z.1)) (encs (zs.map λz=>z.2.1))=zs.map λz=>W.tup [enc z.1,enc z.2.1]
 | []=>by simp [encs,pairs]
 |z::zs=>by simp [encs,pairs,zjO zs]
noncomputable def zyu (f:Option Tn) (s:Str) (cs:List Tr):Tr:=match f with
 |none=> .nd s cs
 |some t=>t.2.2.fill cs
def zvJ (S:Sto) (v:W) (ws:List W):Prop:=v= .tup ws∨ ∃q,v= .ref q∧S q=ae (.lst ws)
section
variable {S:Sto}{a:Addr}{B:List Tn}
theorem zox{v:W}{ws:List W}{Q:List W→(Sto→Prop)→Prop}(h:zvJ S v ws) (hq:∀G:Sto→Prop,G S→(∀S',Sub S S'→G S')→Q ws G):znb v S Q:=by
 rcases h with rfl |⟨q,rfl,e⟩
 ·rw[zjb];exact hq _ trivial λ_ _=>trivial
 ·rw[zeD,zal e];exact hq _ e λS' sb=>sb _ _ e
theorem zrW{n r:Nat}{x y:Tr}{as bs cs:List Tr}{va vb vf:W}{f:Option Tn}{x7:Option W}{s:Str}{ts:List Tr}(hx:x= .nd s ts) (ha:S a=ae (.lst (B.map zbi))) (h1:zvJ S va (encs as)) (h2:zvJ S vb (encs bs)) (M:Mvs B n as bs cs) (hl:as.length≤1000)
  (hR:∀t,f=ae t→t.2.2.depth≤4∧t.2.2.weight≤100∧t.2.2.fits cs.length) (hr:5≤r)
  (one:∀{a' b' c':Tr}{Q:WK}{E:Str→Sto→Prop},a'∈as→b'∈bs→Mv B n a' b' c'→Q (enc c') S→zcO r [.ref a,enc a',enc b'] S Q E) {E:WX}{D:WEnds}
  (hQ:∀S',Sub S S'→D.rt (enc (zyu f s cs)) S') :
  zyn r E D [ae (.ref a),ae (enc x),ae (enc y),ae vf,ae (zdf f),ae va,ae vb,x7] S:=by
 obtain⟨zs,rfl,rfl,rfl,hz⟩:=M.triples;unfold zyn;walk_at "wp";refine zox h1 λG1 g1 k1=>zox h2 λG2 g2 k2=>?_;rw[zjO];rw[ap]at hl;refine zaS (λσ=>∃x y,σ=[x,y,ae (.ref a)]) (λz=>W.tup [enc z.1,enc z.2.1]) (λz=>enc z.2.2) ?_ zs [] _ ⟨none,none,rfl⟩ (by simp;omega) (λz hz' σ R hI hR=>?_) ?_
 ·exact⟨g1,g2⟩
 ·obtain⟨u,v,rfl⟩:=hI;simp only[zfL];walk_at "wp";refine one (a':=z.1) (b':=z.2.1) (c':=z.2.2) (aM.mpr ⟨z,hz',rfl⟩) (aM.mpr ⟨z,hz',rfl⟩) (hz z hz') ?_;exact hR _ _ ⟨_,_,rfl⟩ .refl
 ·rw[aN];intro q hq;have eu:(zs.map λz=>enc z.2.2)=encs (zs.map λz=>z.2.2):=by rw[zaE,bx];rfl
  rw[eu];have fq:put S q (Ob.lst (encs (zs.map λz=>z.2.2))) q=ae (.lst (encs (zs.map λz=>z.2.2))):=zag;have sub:Sub S (put S q (Ob.lst (encs (zs.map λz=>z.2.2)))):= .put .refl hq;generalize put S q (Ob.lst (encs (zs.map λz=>z.2.2)))=S1 at fq sub⊢;obtain⟨r,rfl⟩:∃r',r=r'+1:=⟨r - 1,by omega⟩
  cases f with
  |none=>
   subst hx;simp only[zdf,enc,zyu]at hQ⊢
   try walk_at "wp"
   try rw[zal fq]
   rw[zaP,ap];exact⟨zah (by decide),zah (by omega),hQ _ sub⟩
  |some t=>
   have ee:zdf (ae t)= .tup [.str t.1,enc t.2.1,enc t.2.2]:=rfl;rw[ee]
   try walk_at "wp"
   rw[show atI [W.str t.1,enc t.2.1,enc t.2.2] 2=ae (enc t.2.2) from rfl];dsimp only;obtain⟨g1,g2,g3⟩:=hR t rfl;exact zeA 4 g1 (by omega) fq (by rw[ap];rw[ap]at g3;exact g3) (by omega) (hQ _ sub)
theorem Mv.nd{n:Nat}{x y z:Tr}:Mv B n x y z→ ∃s ts z' us,x= .nd s ts∧y= .nd z' us
 | .nn _ _ _=>⟨_,_,_,_,rfl,rfl⟩
 | .ns _ _ _ _ _=>⟨_,_,_,_,rfl,rfl⟩
 | .sn _ _ _ _=>⟨_,_,_,_,rfl,rfl⟩
 | .ss _ _ _ _=>⟨_,_,_,_,rfl,rfl⟩
section
variable {T:WS}{E:WX}{D:WEnds}{r:Nat}{x0 x1 x2 x5 x6 x7:Option W}
theorem zuK (h:T E D [x0,x1,x2,ae (zdf none),ae (zdf none),x5,x6,x7] S):zrz r T E D [x0,x1,x2,ae (zdf none),ae (zdf none),x5,x6,x7] S:=by
 rw[show zdf none=W.non from rfl]at h⊢;unfold zrz;walk_at "wp";exact h
theorem ztQ{t t':Tn}(h:T E D [x0,x1,x2,ae (zdf (ae t')),ae (zdf (ae t)),x5,x6,x7] S):zrz r T E D [x0,x1,x2,ae (zdf (ae t')),ae (zdf (ae t)),x5,x6,x7] S:=by
 have ee:∀t:Tn,zdf (ae t)= .tup [.str t.1,enc t.2.1,enc t.2.2]:=λ_=>rfl;rw[ee,ee]at h⊢;unfold zrz;walk_at "wp";exact h
theorem zuS{t:Tn}{x:Tr}{ms:List Tr}(e:t.2.1.mt x=ae ms) (hr:t.2.1.depth<r) (ft:x.fits 0) (hw:t.2.1.weight≤90000) (h:∀q,S q=none→T E D [x0,ae (enc x),x2,ae (zdf none),ae (zdf (ae t)),ae (.ref q),x6,x7] (put S q (.lst (encs ms)))):zrz (r+1) T E D [x0,ae (enc x),x2,ae (zdf none),ae (zdf (ae t)),x5,x6,x7] S:=by
 have ee:∀t:Tn,zdf (ae t)= .tup [.str t.1,enc t.2.1,enc t.2.2]:=λ_=>rfl;have a1:∀t:Tn,atI [W.str t.1,enc t.2.1,enc t.2.2] 1=ae (enc t.2.1):=λ_=>rfl;rw[ee,show zdf none=W.non from rfl]at *;unfold zrz;walk_at "wp";rw[a1];dsimp only;refine zdX hr ft hw (λys hys q hq=>?_) λh0=>by rw[e]at h0;cases h0
 rw[e]at hys;cases hys
 try walk_at "wp"
 exact h q hq
theorem zuC{t:Tn}{y:Tr}{ms:List Tr}(e:t.2.1.mt y=ae ms) (hr:t.2.1.depth<r) (ft:y.fits 0) (hw:t.2.1.weight≤90000) (h:∀q,S q=none→T E D [x0,x1,ae (enc y),ae (zdf (ae t)),ae (zdf none),x5,ae (.ref q),x7] (put S q (.lst (encs ms)))):zrz (r+1) T E D [x0,x1,ae (enc y),ae (zdf (ae t)),ae (zdf none),x5,x6,x7] S:=by
 have ee:∀t:Tn,zdf (ae t)= .tup [.str t.1,enc t.2.1,enc t.2.2]:=λ_=>rfl;have a1:∀t:Tn,atI [W.str t.1,enc t.2.1,enc t.2.2] 1=ae (enc t.2.1):=λ_=>rfl;rw[ee,show zdf none=W.non from rfl]at *;unfold zrz;walk_at "wp";rw[a1];dsimp only;refine zdX hr ft hw (λys hys q hq=>?_) λh0=>by rw[e]at h0;cases h0
 rw[e]at hys;cases hys
 try walk_at "wp"
 exact h q hq
end
theorem zli (hB:∀t∈B,t.2.1.depth≤4∧t.2.1.weight≤100∧t.2.2.depth≤4∧t.2.2.weight≤100∧t.2.2.fits t.2.1.nb):∀(n:Nat) {S:Sto}{x y z:Tr}{r:Nat}{Q:WK}{E:Str→Sto→Prop},S a=ae (.lst (B.map zbi))→Mv B n x y z→n+12≤r→x.hd (λ_=>True)→y.hd (λ_=>True)→x.weight≤1000→y.weight≤1000→Q (enc z) S→zcO (r+1) [.ref a,enc x,enc y] S Q E
 |0,S,x,y,z,r,Q,E,ha,M,hr,hx,hy,wx,wy,h=>by cases M
 |n+1,S,x,y,z,r,Q,E,ha,M,hr,hx,hy,wx,wy,h=>by
  obtain⟨r,rfl⟩:∃r',r=r'+1:=⟨r - 1,by omega⟩
  have one:∀{as bs:List Tr},hds (λ_=>True) as→hds (λ_=>True) bs→wts as≤1000→wts bs≤1000→ ∀(S1:Sto),Sub S S1→ ∀{a' b' c':Tr}{Q:WK}{E:Str→Sto→Prop},a'∈as→b'∈bs→Mv B n a' b' c'→Q (enc c') S1→zcO (r+1) [.ref a,enc a',enc b'] S1 Q E:=λ{as bs} h1 h2 h3 h4 S1 sb {a' b' c' Q E} m1 m2 M q=>
   zli hB n (sb _ _ ha) M (by omega) (hds_iff.mp h1 _ m1) (hds_iff.mp h2 _ m2) (by have:=zaL m1;omega) (by have:=zaL m2;omega) q
  have start:∀{s z:Str}{ts us:List Tr}{E':WX}{D:WEnds}{S1:Sto}{va vb vf:W}{f:Option Tn}{as bs cs:List Tr},S1 a=ae (.lst (B.map zbi))→Sub S S1→zvJ S1 va (encs as)→zvJ S1 vb (encs bs)→Mvs B n as bs cs→hds (λ_=>True) as→hds (λ_=>True) bs→wts as≤1000→wts bs≤1000→(∀t,f=ae t→t∈B∧cs.length=t.2.1.nb)→(∀S',Sub S S'→D.rt (enc (zyu f s cs)) S')→
    zyn (r+1) E' D [ae (.ref a),ae (W.tup (W.str s::encs ts)),ae (W.tup (W.str z::encs us)),ae vf,ae (zdf f),ae va,ae vb,none] S1:=λ{s z ts us E' D S1 va vb vf f as bs cs} hS1 sb q1 q2 M h1 h2 h3 h4 hf hQ=>by
   have hl:=zbg as;have:=zrW (x:= .nd s ts) (y:= .nd z us) (vf:=vf) (f:=f) (x7:=none) (E:=E') (D:=D) rfl hS1 q1 q2 M (by omega) (λt ht=>by
    obtain⟨m,e⟩:=hf t ht;obtain⟨g1,g2,g3,g4,g5⟩:=hB t m;exact⟨g3,g4,by rw[e];exact g5⟩) (by omega) (one h1 h2 h3 h4 S1 sb) λS' sb'=>hQ S' (sb.trans sb')
   simpa only[enc]using this
  obtain⟨s,ts,z',us,rfl,rfl⟩:=M.nd;have ex:enc (.nd s ts)= .tup (.str s::encs ts):=by simp only[enc]
  have ey:enc (.nd z' us)= .tup (.str z'::encs us):=by simp only[enc]
  have hx':=hx;have hy':=hy;have wx':=wx;have wy':=wy;simp only[Tr.hd]at hx' hy';simp only[Tr.weight]at wx' wy';rw[zmU,ex,ey];walk_at "wp";refine zbO ha (zbO ha ?_);cases M with
  | @nn _ _ _ _ _ cs e1 e2 M=>
   rw[e1,e2];exact zuK (start (f:=none) ha .refl (.inl rfl) (.inl rfl) M hx'.2 hy'.2 (by omega) (by omega) (λ_ h=>nomatch h) λS' sb=>⟨_,sb,h⟩)
  | @ns _ _ _ _ _ cs ms t e1 e2 e3 e4 M=>
   have ht:t∈B:=b6 e2;have hm:=zpQ t.2.1 _ _ e3 hx;have ft:=zex (m:=0) _ hx;obtain⟨g1,g2,g3,g4,g5⟩:=hB t ht;rw[e1,e2,←ex];refine zuS e3 (by omega) ft (by omega) λq hq=>?_;rw[ex];exact start (f:=ae t) (keep ha hq) (.put .refl hq) (.inr ⟨q,rfl,zag⟩) (.inl rfl) M hm.1 hy'.2 (by omega) (by omega) (λ_ h=>by cases h;exact⟨ht,e4⟩) λS' sb=>⟨_,sb,h⟩
  | @sn _ _ _ _ _ cs ms t e1 e2 e3 M=>
   have ht:t∈B:=b6 e1;have hm:=zpQ t.2.1 _ _ e3 hy;have ft:=zex (m:=0) _ hy;obtain⟨g1,g2,g3,g4,g5⟩:=hB t ht;rw[e1,e2,←ey];refine zuC e3 (by omega) ft (by omega) λq hq=>?_;rw[ey];exact start (f:=none) (keep ha hq) (.put .refl hq) (.inl rfl) (.inr ⟨q,rfl,zag⟩) M hx'.2 hm.1 (by omega) (by omega) (λ_ h=>nomatch h) λS' sb=>⟨_,sb,h⟩
  | @ss _ _ _ _ _ cs t t' e1 e2 e3 M=>
   have ht:t∈B:=b6 e2;rw[e1,e2];exact ztQ (start (f:=ae t) ha .refl (.inl rfl) (.inl rfl) M hx'.2 hy'.2 (by omega) (by omega) (λ_ h=>by cases h;exact⟨ht,e3⟩) λS' sb=>⟨_,sb,h⟩)
end
theorem zqZ:zat 1=λt=>t.2.1:=by funext t;exact if_pos rfl
theorem zzq:zat 2=λt=>t.2.2:=by funext t;exact if_neg (by decide)
section
variable {ws hs:List Str}{B:List Tn}
theorem BkOk.s1 (b:BkOk ws hs B):Sides (zat 1) B:=by
 rw[zqZ];refine⟨λt ht=>(b.lf t ht).fits,λt ht=>(b.lf t ht).dp,λt ht=>?_⟩;have h1:=(b.lf t ht).wt;have h2:=(b.lf t ht).nb;show t.2.1.weight≤10;omega
mutual
theorem zyS:∀(L t:Tr) (ys:List Tr),L.mt t=ae ys→ ∀y∈ys,y.depth≤t.depth
 | .bl n,t,ys,e,y,hy=>by
  rw[Tr.mt]at e;cases e;rw[aV]at hy;rw[hy];exact au _
 | .nd s ls, .bl n,ys,e,y,hy=>by rw[Tr.mt]at e;cases e
 | .nd s ls, .nd z us,ys,e,y,hy=>by
  rw[Tr.mt]at e;split at e
  ·have:=zoi ls us ys e y hy;rw[Tr.depth];omega
  ·cases e
theorem zoi:∀(ls us ys:List Tr),mts ls us=ae ys→ ∀y∈ys,y.depth≤dts us
 | [],us,ys,e,y,hy=>by rw[mts]at e;cases e;cases hy
 |l::ls,[],ys,e,y,hy=>by rw[mts]at e;cases e;cases hy
 |l::ls,u::us,ys,e,y,hy=>by
  rw[mts]at e;cases q1:l.mt u with
  |none=>rw[q1]at e;cases e
  |some xs=>
   rw[q1]at e;cases q2:mts ls us with
   |none=>rw[q2]at e;cases e
   |some zs=>
    rw[q2]at e;cases e;rw[dts];rcases bb.mp hy with hy |hy
    ·have:=zyS l u xs q1 y hy;omega
    ·have:=zoi ls us zs q2 y hy;omega
end
structure Pk (ws hs:List Str) (B:List Tn) (p:Pl):Prop where
  b:BkOk ws hs B
  m:zym B
  o:PlOk hs B p
  dp:∀{c:Int→Nat},(p.ev B c).depth≤40
  wt:∀{c:Int→Nat},(p.ev B c).weight≤400
def Ok2 (c d:Int→Nat):Prop:=∀x:Int,0≤x→x<8→(c x≤1∧d x≤1)∨(c x=2∧d x=2)
theorem zjn{x y e1 e2 e3:W}(k1:∀{Q:WK}{E:Str→Sto→Prop},Q e1 S→zbU r [.ref a,x,y] S Q E) (k2:∀{Q:WK}{E:Str→Sto→Prop},Q e2 S→zfY r [.ref a,y] S Q E) (k3:∀{Q:WK}{E:Str→Sto→Prop},Q e3 S→zcO r [.ref a,x,y] S Q E) (h:Q e3 S):zdy (r+1) [.ref a,x,y] S Q E:=by
 rw[zdy];walk_at "wp";exact k1 (k2 (k3 ⟨_, .refl,h⟩))
end
theorem zoN (f x:Int):byC f x≤1:=by unfold byC;split<;>omega
section
variable {S:Sto}{a:Addr}{B:List Tn}{n:Int}
theorem zjL (B:List Tn) (s:Str) (g:Tn→W):B.findSome? (λt=>if t.1 == s then ae (g t) else none)=(zaw B s).map g:=by
 unfold zaw
 induction B with
 |nil=>rfl
 |cons t B ih=>
  rw[eg,b7];cases e:t.1 == s with
  |true=>rfl
  |false=>simpa using ih
theorem zoc (hnd:(B.map λt=>t.1).Nodup) (ha:S a=ae (.lst (B.map zbi))) (hn:n=1∨n=2) (hg:Sides (zat n) B):∀(d:Nat) {t:Tr}{r:Nat}{Q:WK}{E:Str→Sto→Prop},t.depth≤d→d+10≤r→t.ar B→t.weight≤1000→Q (enc (t.mk B (zat n))) S→zch (r+1) [.ref a,enc t, .int n] S Q E
 |0,t,r,Q,E,hd,hr,hh,hw,h=>by have:=zaX t;omega
 |d+1, .bl k,r,Q,E,hd,hr,hh,hw,h=>by simp [Tr.ar]at hh
 |d+1, .nd s ts,r,Q,E,hd,hr,hh,hw,h=>by
  simp only[Tr.depth]at hd;simp only[Tr.weight]at hw;simp only[Tr.ar]at hh;have hk:=zbg ts;obtain⟨r,rfl⟩:∃r',r=r'+1:=⟨r - 1,by omega⟩
  rw[zch];simp only[enc];walk_at "wp";rw[zaE];refine zaS (λσ=>∃x,σ=[x,ae (.ref a),ae (.int n)]) enc (λt=>enc (t.mk B (zat n))) trivial ts [] _ ⟨none,rfl⟩ (by simp;omega) (λx hx σ R hI hR=>?_) ?_
  ·obtain⟨y,rfl⟩:=hI;have hdx:=zbw hx;have hwx:=zaL hx;simp only[zeM];walk_at "wp";exact zoc hnd ha hn hg d (by omega) (by omega) (ars_iff.mp hh.2 x hx) (by omega) (hR _ _ ⟨_,rfl⟩ .refl)
  ·rw[aN];intro q hq;have eu:(ts.map λt=>enc (t.mk B (zat n)))=encs (ts.map (Tr.mk B (zat n))):=by rw[zaE,bx];rfl
   rw[eu,←zaE];have fq:put S q (Ob.lst (encs (ts.map (Tr.mk B (zat n))))) q=ae (.lst (encs (ts.map (Tr.mk B (zat n))))):=zag;have fa:=keep (x:=Ob.lst (encs (ts.map (Tr.mk B (zat n))))) ha hq;have sub:Sub S (put S q (Ob.lst (encs (ts.map (Tr.mk B (zat n)))))):= .put .refl hq;generalize put S q (Ob.lst (encs (ts.map (Tr.mk B (zat n)))))=S1 at fq fa sub⊢
   try walk_at "wp"
   rw[zal fa];refine zeW (S:=S1) ?_ (λσ=>∃x,σ=[ae (.ref a),ae (.tup (.str s::encs ts)),ae (.int n),ae (.ref q),x]) zbi (λt=>if t.1 == s then ae (enc ((zat n t).fill (ts.map (Tr.mk B (zat n))))) else none) B _ ⟨_,rfl⟩ (λt ht σ N hI hno hret=>?_) (λe σ hI=>?_) λw e S' sb=>?_
   ·exact fa
   ·obtain⟨x,rfl⟩:=hI;simp only[zeO];have ee:zbi t= .tup [.str t.1,enc t.2.1,enc t.2.2]:=rfl;rw[ee];walk_at "wp";cases e:t.1 == s with
    |true=>
     rw[e]at hret
     try walk_at "wp"
     rw[zkA t hn];dsimp only;have et:t.1=s:=by simpa using e
     have hgw:=hg.wt t ht;refine zfj 4 (hg.dp t ht) (by omega) fq ?_ (by omega) (hret _ rfl _ .refl);rw[ap,hh.1 t (by rw[←et];exact zcJ hnd ht)];exact hg.fits t ht
    |false=>
     rw[e]at hno;exact hno rfl _ _ ⟨_,rfl⟩ .refl
   ·obtain⟨x,rfl⟩:=hI;rw[zjL]at e;have e0:zaw B s=none:=by
     cases z:zaw B s with
     |none=>rfl
     |some t=>rw[z]at e;cases e
    rw[zgi e0]at h
    try walk_at "wp"
    rw[zme]
    try rw[zal fq]
    try walk_at "wp"
    simp only[enc]at h;refine⟨zah ?_,_,sub,h⟩;rw[zaP,ap];omega
   ·rw[zjL]at e;cases z:zaw B s with
    |none=>rw[z]at e;cases e
    |some t=>
     rw[z]at e;rw[zgw z]at h;cases e;exact⟨_,sub.trans sb,h⟩
end
noncomputable def pps (B:List Tn) (s:Str) (n:Nat):List (List Int):=match zaw B s with
 |none=>(ba n).map λ(i:Nat)=>[(i:Int)]
 |some t=>t.2.1.bls.map λx=>x.1
mutual
noncomputable def Tr.us (B:List Tn) (p:List Int):Tr→List (List Int×Str)
 | .bl _=>[]
 | .nd s ts=>(match zaw B s with
  |none=>[]
  |some _=>[(p,s)])++usz B p (pps B s ts.length) ts
noncomputable def usz (B:List Tn) (p:List Int):List (List Int)→List Tr→List (List Int×Str)
 |q::qs,t::ts=>t.us B (p++q)++usz B p qs ts
 |_,_=>[]
end
noncomputable def ppl (B:List Tn) (k:Int) (n:Nat):List (List Int):=if k<0 then(ba n).map λ(i:Nat)=>[(i:Int)] else(B.getD k.toNat (⟨#[]⟩, .bl 0, .bl 0)).2.1.bls.map λx=>x.1
mutual
noncomputable def Pl.ns (B:List Tn) (p:List Int):Pl→List (List Int×Int×Str)
 | .nd k b h ps=>(if k<0 then [] else [(p,b,(B.getD k.toNat (⟨#[]⟩, .bl 0, .bl 0)).1)])++nsz B p (ppl B k ps.length) ps
noncomputable def nsz (B:List Tn) (p:List Int):List (List Int)→List Pl→List (List Int×Int×Str)
 |q::qs,t::ts=>t.ns B (p++q)++nsz B p qs ts
 |_,_=>[]
end
theorem zkJ{B:List Tn}{p:List Int}{s:Str}{ts:List Tr}(h:zaw B s=none):(Tr.nd s ts).us B p=usz B p ((ba ts.length).map λ(i:Nat)=>[(i:Int)]) ts:=by
 rw[Tr.us,pps,h];rfl
theorem zhr{B:List Tn}{p:List Int}{s:Str}{ts:List Tr}{t:Tn}(h:zaw B s=ae t):(Tr.nd s ts).us B p=(p,s)::usz B p (t.2.1.bls.map λx=>x.1) ts:=by
 rw[Tr.us,pps,h];rfl
noncomputable def zzR (c:Int→Nat) (xs:List (List Int×Int×Str)):List (List Int×Str):=(xs.filter λx=>c x.2.1 == 1).map λx=>(x.1,x.2.2)
noncomputable def zdx (B:List Tn) (t:Tr):Option Tn:=B.find? λu=>(u.2.1.mt t).isSome
mutual
noncomputable def Tr.op (B:List Tn) (p:List Int):Tr→List (List Int×Str)
 | .bl _=>[]
 | .nd s ts=>(match zdx B (.nd s ts) with
  |none=>[]
  |some t=>[(p,t.1)])++ops B p 0 ts
noncomputable def ops (B:List Tn) (p:List Int) (i:Nat):List Tr→List (List Int×Str)
 | []=>[]
 |t::ts=>t.op B (p++[(i:Int)])++ops B p (i+1) ts
end
theorem zdn{n:Nat}{h c d:Str}{L:Tr}(hL:L∈leftsL n h c d):∃ts,L= .nd h ts:=by
 unfold leftsL at hL;split at hL<;>simp only[ax,a_,or_false]at hL
 all_goals first
  | (subst hL;exact⟨_,rfl⟩)
  | (rcases hL with rfl |rfl<;>exact⟨_,rfl⟩)
theorem zkj{s z:Str}{ls us:List Tr}(h:((Tr.nd s ls).mt (.nd z us)).isSome=true):s=z:=by
 simp only[Tr.mt]at h;split at h
 ·rename_i q;simp only[cc,beq_iff_eq]at q;exact q.1
 ·cases h
theorem ziY{n:Nat}{h c d:Str}{L M x:Tr}(hL:L∈leftsL n h c d) (hM:M∈leftsL n h c d) (h1:(L.mt x).isSome=true) (h2:(M.mt x).isSome=true):L=M:=by
  cases x with
  |bl k=>
    obtain⟨ts,rfl⟩:=zdn hL;simp [Tr.mt]at h1
  |nd s ts=>
    unfold leftsL at hL hM;split at hL<;>simp only[ax,a_,or_false]at hL hM
    all_goals first
      | (rw[hL,hM])
      | (rcases hL with rfl |rfl<;>rcases hM with rfl |rfl<;>first
          |rfl
          | (exfalso
             rcases ts with _ |⟨u,us⟩
             · simp [Tr.mt]at h1
             · cases u with
               |bl k=>simp [Tr.mt,mts]at h1 h2
               |nd z vs=>
                 rcases vs with _ |⟨v,vs⟩
                 · simp [Tr.mt,mts]at h1 h2
                 · rcases vs with _ |⟨v',vs⟩
                   · cases v with
                     |bl k=>simp [Tr.mt,mts]at h1 h2
                     |nd z' xs=>
                       rcases xs with _ |⟨x',xs⟩
                       · simp [Tr.mt,mts]at h1 h2
                       · simp [Tr.mt,mts]at h1 h2
                   · simp [Tr.mt,mts]at h1 h2))
section
variable {w0 w1 w2 w3 w4 w5:Str}{tt:List Str}{B:List Tn}
theorem BookOk.one (b:BookOk w0 w1 w2 w3 w4 w5 tt B) (G:Signs w0 w1 w2 w3 w4 w5) {u v:Tn}(hu:u∈B) (hv:v∈B) {x:Tr}(h1:(u.2.1.mt x).isSome=true) (h2:(v.2.1.mt x).isSome=true):u.2.1=v.2.1:=by
 obtain⟨n,m,e⟩:=b.lf;have mu:u.2.1∈leftsL n w0 w2 w3++leftsL m w1 w2 w3:=by rw[←e];exact aM.mpr ⟨u,hu,rfl⟩
 have mv:v.2.1∈leftsL n w0 w2 w3++leftsL m w1 w2 w3:=by rw[←e];exact aM.mpr ⟨v,hv,rfl⟩
 have key:∀{L M:Tr},L∈leftsL n w0 w2 w3→M∈leftsL m w1 w2 w3→(L.mt x).isSome=true→(M.mt x).isSome=true→False:=λ{L M} hL hM k1 k2=>by
  obtain⟨ts,rfl⟩:=zdn hL;obtain⟨us,rfl⟩:=zdn hM;cases x with
  |bl k=>simp [Tr.mt]at k1
  |nd s vs=>exact G.n0 w1 (by simp) ((zkj k1).trans (zkj k2).symm)
 rcases bb.mp mu with z |z<;>rcases bb.mp mv with y |y
 ·exact ziY z y h1 h2
 ·exact(key z y h1 h2).elim
 ·exact(key y z h2 h1).elim
 ·exact ziY z y h1 h2
theorem zgd (n:Nat) (h c d:Str):(leftsL n h c d).Nodup:=by
 unfold leftsL;split<;>simp
theorem BookOk.inj (b:BookOk w0 w1 w2 w3 w4 w5 tt B) (G:Signs w0 w1 w2 w3 w4 w5):(B.map λt=>t.2.1).Nodup:=by
 obtain⟨n,m,e⟩:=b.lf;rw[e,List.nodup_append];refine⟨zgd ..,zgd ..,λx hx y hy=>?_⟩;obtain⟨ts,rfl⟩:=zdn hx;obtain⟨us,rfl⟩:=zdn hy;intro z;cases z;exact G.n0 _ (by simp) rfl
theorem zpS{α β:Type}{f:α→β}:∀{xs:List α}{x y:α},(xs.map f).Nodup→x∈xs→y∈xs→f x=f y→x=y
 |z::xs,x,y,h,hx,hy,e=>by
  rw[aB,dP]at h;rcases ax.mp hx with h1 |h1
  ·rcases ax.mp hy with h2 |h2
   ·rw[h1,h2]
   ·exact(h.1 (aM.mpr ⟨y,h2,by rw[←e,h1]⟩)).elim
  ·rcases ax.mp hy with h2 |h2
   ·exact(h.1 (aM.mpr ⟨x,h1,by rw[e,h2]⟩)).elim
   ·exact zpS h.2 h1 h2 e
theorem BookOk.open_some (b:BookOk w0 w1 w2 w3 w4 w5 tt B) (G:Signs w0 w1 w2 w3 w4 w5) {t:Tn}(ht:t∈B) {us:List Tr}(hu:us.length=t.2.1.nb):zdx B (t.2.1.fill us)=ae t:=by
 have hm:=b.mt t ht us hu;unfold zdx;cases e:B.find? λu=>(u.2.1.mt (t.2.1.fill us)).isSome with
 |none=>
  rw[iA]at e;have:=e t ht;rw[hm]at this;simp at this
 |some u=>
  have hu':=iF e;have mu:=b6 e;have:=b.one G mu ht hu' (by rw[hm];rfl);rw[zpS (b.inj G) mu ht this]
end
mutual
inductive Wi (B:List Tn) (wn:List (List Int)):Nat→List Int→Tr→Tr→Prop
 |no {n:Nat}{p:List Int}{s:Str}{ts us:List Tr}:p∉wn→zaw B s=none→Wis B wn n p ((ba ts.length).map λ(i:Nat)=>[(i:Int)]) ts us→Wi B wn (n+1) p (.nd s ts) (.nd s us)
 |yes {n:Nat}{p:List Int}{s:Str}{ts us ms:List Tr}{t:Tn}:p∈wn→zdx B (.nd s ts)=ae t→t.2.1.mt (.nd s ts)=ae ms→zaw B t.1=ae t→Wis B wn n p (t.2.1.bls.map λx=>x.1) ms us→Wi B wn (n+1) p (.nd s ts) (.nd t.1 us)
inductive Wis (B:List Tn) (wn:List (List Int)):Nat→List Int→List (List Int)→List Tr→List Tr→Prop
 |nil {n:Nat}{p:List Int}:Wis B wn n p [] [] []
 |cons {n:Nat}{p q:List Int}{qs:List (List Int)}{t u:Tr}{ts us:List Tr}:Wi B wn n (p++q) t u→Wis B wn n p qs ts us→Wis B wn n p (q::qs) (t::ts) (u::us)
end
mutual
theorem Wi.mono{B:List Tn}{wn:List (List Int)}:∀{n m:Nat}{p:List Int}{t u:Tr},n≤m→Wi B wn n p t u→Wi B wn m p t u
 |_+1,m,_,_,_,h, .no h1 h2 h3=>by
  obtain⟨m,rfl⟩:∃m',m=m'+1:=⟨m - 1,by omega⟩
  exact .no h1 h2 (Wis.mono (by omega) h3)
 |_+1,m,_,_,_,h, .yes h1 h2 h3 h4 h5=>by
  obtain⟨m,rfl⟩:∃m',m=m'+1:=⟨m - 1,by omega⟩
  exact .yes h1 h2 h3 h4 (Wis.mono (by omega) h5)
theorem Wis.mono{B:List Tn}{wn:List (List Int)}:∀{n m:Nat}{p:List Int}{qs:List (List Int)}{ts us:List Tr},n≤m→Wis B wn n p qs ts us→Wis B wn m p qs ts us
 |_,_,_,_,_,_,_, .nil=> .nil
 |_,_,_,_,_,_,h, .cons h1 h2=> .cons (Wi.mono h h1) (Wis.mono h h2)
end
mutual
noncomputable def Tr.inn (wn:List (List Int)) (p:List Int):Tr→Prop
 | .bl _=>True
 | .nd _ ts=>p∉wn∧zup wn p 0 ts
noncomputable def zup (wn:List (List Int)) (p:List Int) (i:Nat):List Tr→Prop
 | []=>True
 |t::ts=>t.inn wn (p++[(i:Int)])∧zup wn p (i+1) ts
end
mutual
noncomputable def Tr.atb (R:List Int→Nat→Prop) (p:List Int):Tr→Prop
 | .bl n=>R p n.toNat
 | .nd _ ts=>atbs R p 0 ts
noncomputable def atbs (R:List Int→Nat→Prop) (p:List Int) (i:Nat):List Tr→Prop
 | []=>True
 |t::ts=>t.atb R (p++[(i:Int)])∧atbs R p (i+1) ts
end
theorem zfk (us:List Tr):∀ts:List Tr,(fills us ts).length=ts.length
 | []=>by simp [fills]
 |t::ts=>by simp [fills,zfk us ts]
mutual
theorem znQ{B:List Tn}{wn:List (List Int)}(hB:∀t∈B,zbp t.1) {n:Nat}{us vs:List Tr}:∀(t:Tr) (p:List Int),t.hb zbG→t.fits us.length→us.length=vs.length→t.inn wn p→t.atb (λq i=>∀u v,us[i]? =ae u→vs[i]? =ae v→Wi B wn n q u v) p→Wi B wn (n+t.depth) p (t.fill us) (t.fill vs)
 | .bl k,p,q,f,hl,hi,ha=>by
  simp only[Tr.fits]at f;simp only[Tr.atb]at ha;have h1:k.toNat<us.length:=by omega
  have h2:k.toNat<vs.length:=by omega
  simp only[Tr.fill,aY,aJ h1,aJ h2,eW];exact(ha _ _ (aJ h1) (aJ h2)).mono (by omega)
 | .nd s ts,p,q,f,hl,hi,ha=>by
  simp only[Tr.hb]at q;simp only[Tr.fits]at f;simp only[Tr.inn]at hi;simp only[Tr.atb]at ha;have:=zlo hB ts p 0 q.2 f hl hi.2 ha;simp only[Tr.fill,Tr.depth];rw[show n+(1+dts ts)=n+dts ts+1 by omega]
  refine .no hi.1 (zay hB q.1) ?_;rw[iT,zfk];exact this
theorem zlo{B:List Tn}{wn:List (List Int)}(hB:∀t∈B,zbp t.1) {n:Nat}{us vs:List Tr}:∀(ts:List Tr) (p:List Int) (i:Nat),hbs zbG ts→fitss us.length ts→us.length=vs.length→zup wn p i ts→atbs (λq i=>∀u v,us[i]? =ae u→vs[i]? =ae v→Wi B wn n q u v) p i ts→Wis B wn (n+dts ts) p ((gv i ts.length).map λ(i:Nat)=>[(i:Int)]) (fills us ts) (fills vs ts)
 | [],p,i,q,f,hl,hi,ha=>by simp only[fills];exact .nil
 |t::ts,p,i,q,f,hl,hi,ha=>by
  simp only[hbs]at q;simp only[fitss]at f;simp only[zup]at hi;simp only[atbs]at ha;have h1:=znQ hB t (p++[(i:Int)]) q.1 f.1 hl hi.1 ha.1;have h2:=zlo hB ts p (i+1) q.2 f.2 hl hi.2 ha.2;simp only[fills,dts,aW,gq,aB];exact .cons (h1.mono (by omega)) (h2.mono (by omega))
end
noncomputable def zjC (c:Int→Nat) (xs:List (List Int×Int×Str)):List (List Int):=(zzR c xs).map λx=>x.1
def zrG (qs:List (List Int)):Prop:=qs.Pairwise λa b=>¬a <+:b∧ ¬b <+:a
theorem zti{h:Str}:(Tr.nd h [.bl 0]).bls.map (λx=>x.1)=[[0]]:=by simp [Tr.bls,Tr.plt,zdD,Tr.isBl]
theorem zsY{h:Str}:(Tr.nd h [.bl 0, .bl 1]).bls.map (λx=>x.1)=[[0],[1]]:=by simp [Tr.bls,Tr.plt,zdD,Tr.isBl]
theorem zwq{h c:Str}:(Tr.nd h [.nd c []]).bls.map (λx=>x.1)=[]:=by simp [Tr.bls,Tr.plt,zdD,Tr.isBl]
theorem zsK{h d:Str}:(Tr.nd h [.nd d [.bl 0]]).bls.map (λx=>x.1)=[[0,0]]:=by simp [Tr.bls,Tr.plt,zdD,Tr.isBl]
theorem zta{h c:Str}:(Tr.nd h [.nd c [], .bl 0]).bls.map (λx=>x.1)=[[1]]:=by simp [Tr.bls,Tr.plt,zdD,Tr.isBl]
theorem ztf{h d:Str}:(Tr.nd h [.nd d [.bl 0], .bl 1]).bls.map (λx=>x.1)=[[0,0],[1]]:=by simp [Tr.bls,Tr.plt,zdD,Tr.isBl]
theorem ztl{h d:Str}:(Tr.nd h [.nd d [.nd d [.bl 0]], .bl 1, .bl 2]).bls.map (λx=>x.1)=[[0,0,0],[1],[2]]:=by simp [Tr.bls,Tr.plt,zdD,Tr.isBl]
theorem zsP{h c d:Str}:(Tr.nd h [.nd d [.nd c []], .bl 0, .bl 1]).bls.map (λx=>x.1)=[[1],[2]]:=by simp [Tr.bls,Tr.plt,zdD,Tr.isBl]
theorem zwS{h:Str}:(Tr.nd h []).bls.map (λx=>x.1)=[]:=by simp [Tr.bls,Tr.plt,zdD,Tr.isBl]
noncomputable def zdT (x:List Int×Str):W:= .tup [zbJ x.1, .str x.2]
section
variable {a:Addr}{B:List Tn}
structure Lft (B:List Tn):Prop where
  d:∀t∈B,t.2.1.depth≤4
  w:∀t∈B,t.2.1.weight≤20
theorem zhg{S:Sto}{r:Nat}{Q:WK}{E:Str→Sto→Prop}{s:Str}{ts:List Tr}(L:Lft B) (ha:S a=ae (.lst (B.map zbi))) (hl:ts.length≤1000) (hr:20≤r) (h:∀q,S q=none→Q (.ref q) (put S q (.lst ((pps B s ts.length).map zbJ)))):zbd (r+1) [.ref a,enc (.nd s ts)] S Q E:=by
 obtain⟨r,rfl⟩:∃r',r=r'+1:=⟨r - 1,by omega⟩
 rw[zbd];simp only[enc];walk_at "wp";refine zbO ha ?_;unfold pps at h;cases e:zaw B s with
 |none=>
  rw[e]at h;simp only[zdf]
  try walk_at "wp"
  rw[zaP];have e1:(((ts.length+1:Nat):Int) - 1).toNat=ts.length:=by omega
  rw[e1];refine⟨⟨by omega,by omega⟩,?_⟩
  rw[znr];refine zaS (λσ=>∃x,σ=[x]) (λi:Nat=>W.int i) (λi=>zbJ [(i:Int)]) trivial (ba ts.length) [] _ ⟨none,rfl⟩ (by simp;omega) (λx hx σ R hI hR=>?_) ?_
  ·obtain⟨y,rfl⟩:=hI;simp only[zdI];walk_at "wp";exact⟨zah (by decide),hR _ _ ⟨_,rfl⟩ .refl⟩
  ·rw[aN];intro q hq;have:=h q hq;simp only[bx]at this;exact⟨_, .refl,this⟩
 |some t=>
  rw[e]at h;have ht:t∈B:=b6 e;have ee:zdf (ae t)= .tup [.str t.1,enc t.2.1,enc t.2.2]:=rfl;rw[ee]
  try walk_at "wp"
  rw[show atI [W.str t.1,enc t.2.1,enc t.2.2] 1=ae (enc t.2.1) from rfl];dsimp only;have h1:=L.d t ht;have h2:=L.w t ht;refine zhl (by omega) (by omega) λq hq=>?_;have:=h q hq;simp only[bx]at this;exact⟨_, .refl,this⟩
theorem ziR (B:List Tn) (x:Tr):B.findSome? (λt=>if(t.2.1.mt x).isSome then ae (zbi t) else none)=(zdx B x).map zbi:=by
 unfold zdx
 induction B with
 |nil=>rfl
 |cons t B ih=>
  rw[eg,b7];cases e:(t.2.1.mt x).isSome with
  |true=>rfl
  |false=>simpa using ih
theorem zfT{S:Sto}{r:Nat}{Q:WK}{E:Str→Sto→Prop}{x:Tr}(L:Lft B) (ha:S a=ae (.lst (B.map zbi))) (hf:x.fits 0) (hr:20≤r) (h:Q (zdf (zdx B x)) S):zbu (r+1) [.ref a,enc x] S Q E:=by
 obtain⟨r,rfl⟩:∃r',r=r'+1:=⟨r - 1,by omega⟩
 rw[zbu];walk_at "wp";rw[zal ha];refine zeW (S:=S) ?_ (λσ=>∃y,σ=[ae (.ref a),ae (enc x),y]) zbi (λt=>if(t.2.1.mt x).isSome then ae (zbi t) else none) B _ ⟨_,rfl⟩ (λt ht σ N hI hno hret=>?_) (λe σ hI=>?_) λw e S' sb=>?_
 ·exact ha
 ·obtain⟨y,rfl⟩:=hI;simp only[zdC];have ee:zbi t= .tup [.str t.1,enc t.2.1,enc t.2.2]:=rfl;rw[ee];walk_at "wp";rw[show atI [W.str t.1,enc t.2.1,enc t.2.2] 1=ae (enc t.2.1) from rfl];dsimp only;have h1:=L.d t ht;have h2:=L.w t ht;refine zdX (by omega) hf (by omega) (λys hys q hq=>?_) λh0=>?_
  ·try walk_at "wp"
   rw[hys]at hret;exact hret _ rfl _ (.put .refl hq)
  ·try walk_at "wp"
   rw[h0]at hno;exact hno rfl _ _ ⟨_,rfl⟩ .refl
 ·obtain⟨y,rfl⟩:=hI;walk_at "wp";rw[ziR]at e;have:zdx B x=none:=by
   cases q:zdx B x with
   |none=>rfl
   |some t=>rw[q]at e;cases e
  rw[this]at h;exact⟨_, .refl,h⟩
 ·rw[ziR]at e;cases q:zdx B x with
  |none=>rw[q]at e;cases e
  |some t=>
   rw[q]at e h;cases e;exact⟨_,sb,h⟩
end
mutual
theorem znT (B:List Tn):∀(t:Tr) (p:List Int),(t.op B p).length≤t.weight
 | .bl n,p=>by simp [Tr.op]
 | .nd s ts,p=>by
  have:=znO B ts p 0;rw[Tr.op,aZ,Tr.weight];split<;>simp<;>omega
theorem znO (B:List Tn):∀(ts:List Tr) (p:List Int) (i:Nat),(ops B p i ts).length≤wts ts
 | [],p,i=>by simp [ops]
 |t::ts,p,i=>by
  have h1:=znT B t (p++[(i:Int)]);have h2:=znO B ts p (i+1);rw[ops,aZ,wts];omega
end
mutual
theorem zpe (B:List Tn):∀(t:Tr) (p:List Int),(t.us B p).length≤t.weight
 | .bl n,p=>by simp [Tr.us]
 | .nd s ts,p=>by
  have:=znU B ts (pps B s ts.length) p;rw[Tr.us,aZ,Tr.weight];split<;>simp<;>omega
theorem znU (B:List Tn):∀(ts:List Tr) (qs:List (List Int)) (p:List Int),(usz B p qs ts).length≤wts ts
 | [],qs,p=>by cases qs<;>simp [usz]
 |t::ts,[],p=>by simp [usz]
 |t::ts,q::qs,p=>by
  have h1:=zpe B t (p++q);have h2:=znU B ts qs p;rw[usz,aZ,wts];omega
end
section
variable {a f:Addr}{B:List Tn}
mutual
theorem zmk (L:Lft B) (haf:f≠a):∀(t:Tr) {r:Nat}{p:List Int}{xs:List W}{S:Sto}{Q:WK}{E:Str→Sto→Prop},t.depth+25≤r→S a=ae (.lst (B.map zbi))→S f=ae (.lst xs)→xs.length+t.weight≤100000→p.length+t.depth≤1000→t.hd (λ_=>True)→
  Q .non (put S f (.lst (xs++(t.op B p).map zdT)))→zbl (r+1) [.ref a,enc t,zbJ p, .ref f] S Q E
 | .bl n,r,p,xs,S,Q,E,hr,ha,hf,hx,hp,hh,h=>by simp [Tr.hd]at hh
 | .nd s ts,r,p,xs,S,Q,E,hr,ha,hf,hx,hp,hh,h=>by
  have ft:=zex (m:=0) _ hh;simp only[Tr.depth]at hr hp;simp only[Tr.weight]at hx;simp only[Tr.hd]at hh;obtain⟨r,rfl⟩:∃r',r=r'+1:=⟨r - 1,by omega⟩
  rw[zbl];have ee:enc (.nd s ts)= .tup (.str s::encs ts):=by simp only[enc]
  walk_at "wp";refine zfT L ha ft (by omega) ?_;rw[Tr.op]at h;cases e:zdx B (.nd s ts) with
  |none=>
   rw[e]at h;simp only[aN]at h;simp only[zdf];rw[ee]
   try walk_at "wp"
   exact zgt L haf ts (by omega) ha hf (by omega) (by omega) hh.2 λx5 x6=>⟨_, .refl,h⟩
  |some t=>
   rw[e]at h;have et:zdf (ae t)= .tup [.str t.1,enc t.2.1,enc t.2.2]:=rfl;rw[et,ee]
   try walk_at "wp"
   simp only[zal hf,true_and];refine⟨zah (by decide),zbF (by omega),?_⟩;refine zgt L haf ts (xs:=xs++[zdT (p,t.1)]) (by omega) (by rw[zaI (bj haf)];exact ha) zag (by simp;omega) (by omega) hh.2 λx5 x6=>⟨_, .refl,?_⟩;rw[zaM];simpa using h
theorem zgt (L:Lft B) (haf:f≠a):∀(ts:List Tr) {r:Nat}{p:List Int}{i:Nat}{xs:List W}{S:Sto}{E:WX}{D:WEnds}{t0 x4 x5 x6:Option W},dts ts+25≤r→S a=ae (.lst (B.map zbi))→S f=ae (.lst xs)→xs.length+wts ts≤100000→p.length+1+dts ts≤1000→hds (λ_=>True) ts→
  (∀x5 x6,D.nx [ae (.ref a),t0,ae (zbJ p),ae (.ref f),x4,x5,x6] (put S f (.lst (xs++(ops B p i ts).map zdT))))→
  forL (wGT (zav (wGN 5) (zav (wGN 6) zcD))) (zcW (r+1) (zbl (r+1))) E D (λ_=>True) (nums i (encs ts)) [ae (.ref a),t0,ae (zbJ p),ae (.ref f),x4,x5,x6] S
 | [],r,p,i,xs,S,E,D,t0,x4,x5,x6,hr,ha,hf,hx,hp,hh,h=>by
  simp only[encs,nums,forL];have:=h x5 x6;rw[ops,cu,bv,zdB hf]at this;exact this
 |t::ts,r,p,i,xs,S,E,D,t0,x4,x5,x6,hr,ha,hf,hx,hp,hh,h=>by
  simp only[dts]at hr hp;simp only[wts]at hx;simp only[hds]at hh;simp only[encs,nums];refine zco λN hN=>?_;simp only[zcW];walk_at "wp";rw[zmv];refine⟨zah (by decide),zah (by omega),?_⟩;have ol:=znT B t (p++[(i:Int)]);refine zmk L haf t (by omega) ha hf (by omega) (by simp;omega) hh.1 ?_;refine hN _ _ _ .refl trivial (zgt L haf ts (xs:=xs++(t.op B (p++[(i:Int)])).map zdT) (by omega) (by rw[zaI (bj haf)];exact ha) zag (by simp;omega) (by omega) hh.2 λx5 x6=>?_);rw[zaM];have:=h x5 x6;rw[ops,bq]at this;simpa using this
end
theorem zsQ{p q:List Int}{S:Sto}{Q:WK}:zdF (zbJ p) (zbJ q) S Q=(p.length+q.length≤sizeLine∧Q (zbJ (p++q)) S):=by
 unfold zbJ;rw[zga,ap,ap,bq]
def PB (B:List Tn):Prop:=∀t∈B,∀x∈t.2.1.bls,x.1.length≤4
theorem zji{s:Str}{n:Nat}(h:PB B):∀q∈pps B s n,q.length≤4:=λq hq=>by
 unfold pps at hq;cases e:zaw B s with
 |none=>
  rw[e]at hq;obtain⟨i,_,rfl⟩:=aM.mp hq;simp
 |some t=>
  rw[e]at hq;obtain⟨x,hx,rfl⟩:=aM.mp hq;exact h t (b6 e) x hx
mutual
theorem zlK (L:Lft B) (hP:PB B) (haf:f≠a):∀(t:Tr) {r:Nat}{p:List Int}{xs:List W}{S:Sto}{Q:WK}{E:Str→Sto→Prop},t.depth+25≤r→S a=ae (.lst (B.map zbi))→S f=ae (.lst xs)→xs.length+t.weight≤100000→p.length+4*t.depth≤1000→t.weight≤1000→t.hd (λ_=>True)→
    Q .non (put S f (.lst (xs++(t.us B p).map zdT)))→zbc (r+1) [.ref a,enc t,zbJ p, .ref f] S Q E
  | .bl n,r,p,xs,S,Q,E,hr,ha,hf,hx,hp,hw,hh,h=>by simp [Tr.hd]at hh
  | .nd s ts,r,p,xs,S,Q,E,hr,ha,hf,hx,hp,hw,hh,h=>by
    simp only[Tr.depth]at hr hp;simp only[Tr.weight]at hx hw;simp only[Tr.hd]at hh;have hk:=zbg ts;obtain⟨r,rfl⟩:∃r',r=r'+1:=⟨r - 1,by omega⟩
    rw[zbc];have ee:enc (.nd s ts)= .tup (.str s::encs ts):=by simp only[enc]
    rw[ee];walk_at "wp";refine zbO ha ?_;rw[Tr.us]at h;have tail:∀(xs:List W) (S:Sto),S a=ae (.lst (B.map zbi))→S f=ae (.lst xs)→xs.length+wts ts≤100000→Q .non (put S f (.lst (xs++(usz B p (pps B s ts.length) ts).map zdT)))→
        zbd (r+1) [.ref a,enc (.nd s ts)] S (λx S1=>znb x S1 λxs G=>forL (wGT (zav (wGN 4) (zav (wGN 5) zcD))) (zbX (r+1) (zbc (r+1))) (λc x S'=>E c S') { nx:=λx S'=>∃S'',Sub S'' S'∧Q W.non S'',rt:=λw S'=>∃S'',Sub S'' S'∧Q w S'' } (λS'=>G S'∧True) (pairs xs (encs ts)) [ae (.ref a),ae (.tup (.str s::encs ts)),ae (zbJ p),ae (.ref f),none,none] S1) (λcl S2=>E cl S2):=λxs S ha hf hx h=>by
      refine zhg L ha (by omega) (by omega) λq hq=>?_;rw[zeD,zeC];have hqf:q≠f:=λz=>by rw[z,hf]at hq;cases hq
      refine zmt L hP haf ts (pps B s ts.length) (xs:=xs) (G:=λS'=>S' q=ae (.lst ((pps B s ts.length).map zbJ))∧True) (zji hP) (by omega) (keep ha hq) (keep hf hq) (by omega) (by omega) (by omega) hh.2 (λo=>⟨?_,trivial⟩) λx4 x5=>⟨_,?_,h⟩
      · rw[zaI hqf];exact zag
      · rw[zic (bj hqf)];exact .put .refl (by rw[zaI hqf];exact hq)
    cases e:zaw B s with
    |none=>
      rw[e]at h;simp only[aN]at h;simp only[zdf]
      try walk_at "wp"
      have:=tail xs S ha hf (by omega) h;rw[ee]at this;simpa only[and_true]using this
    |some t=>
      rw[e]at h;have et:zdf (ae t)= .tup [.str t.1,enc t.2.1,enc t.2.2]:=rfl;rw[et]
      try walk_at "wp"
      simp only[zal hf,true_and];refine⟨zah (by decide),zbF (by omega),?_⟩;have:=tail (xs++[zdT (p,s)]) (put S f (.lst (xs++[zdT (p,s)]))) (by rw[zaI (bj haf)];exact ha) zag (by simp;omega) (by rw[zaM];simpa using h);rw[ee]at this;simpa only[and_true,zdT]using this
theorem zmt (L:Lft B) (hP:PB B) (haf:f≠a):∀(ts:List Tr) (qs:List (List Int)) {r:Nat}{p:List Int}{xs:List W}{S:Sto}{G:Sto→Prop}{E:WX}{D:WEnds}{t0 x4 x5:Option W},(∀q∈qs,q.length≤4)→dts ts+25≤r→S a=ae (.lst (B.map zbi))→S f=ae (.lst xs)→xs.length+wts ts≤100000→p.length+4+4*dts ts≤1000→wts ts≤1000→hds (λ_=>True) ts→(∀o,G (put S f o))→
  (∀x4 x5,D.nx [ae (.ref a),t0,ae (zbJ p),ae (.ref f),x4,x5] (put S f (.lst (xs++(usz B p qs ts).map zdT))))→
  forL (wGT (zav (wGN 4) (zav (wGN 5) zcD))) (zbX (r+1) (zbc (r+1))) E D G (pairs (qs.map zbJ) (encs ts)) [ae (.ref a),t0,ae (zbJ p),ae (.ref f),x4,x5] S
 | [],qs,r,p,xs,S,G,E,D,t0,x4,x5,hq,hr,ha,hf,hx,hp,hw,hh,hG,h=>by
  have e:pairs (qs.map zbJ) (encs [])=[]:=by cases qs<;>simp [encs,pairs]
  rw[e];simp only[forL];have:=h x4 x5;have e2:usz B p qs []=[]:=by cases qs<;>simp [usz]
  rw[e2,cu,bv,zdB hf]at this;exact this
 |t::ts,[],r,p,xs,S,G,E,D,t0,x4,x5,hq,hr,ha,hf,hx,hp,hw,hh,hG,h=>by
  simp only[cu,pairs,forL];have:=h x4 x5;have e2:usz B p [] (t::ts)=[]:=by simp [usz]
  rw[e2,cu,bv,zdB hf]at this;exact this
 |t::ts,q::qs,r,p,xs,S,G,E,D,t0,x4,x5,hq,hr,ha,hf,hx,hp,hw,hh,hG,h=>by
  simp only[dts]at hr hp;simp only[wts]at hx hw;simp only[hds]at hh;have hq4:=hq q aK;simp only[aB,encs,pairs];refine zco λN hN=>?_;simp only[zbX];walk_at "wp";rw[zsQ];refine⟨zah (by omega),?_⟩;have ol:=zpe B t (p++q);refine zlK L hP haf t (by omega) ha hf (by omega) (by simp;omega) (by omega) hh.1 ?_;refine hN _ _ _ .refl (hG _) (zmt L hP haf ts qs (xs:=xs++(t.us B (p++q)).map zdT) (λq' hq'=>hq q' (aC _ hq')) (by omega) (by rw[zaI (bj haf)];exact ha) zag (by simp;omega) (by omega) (by omega) hh.2 (λo=>by rw[zaM];exact hG o) λx4 x5=>?_)
  rw[zaM];have:=h x4 x5;rw[usz,bq]at this;simpa using this
end
end
section
variable {a:Addr}{B:List Tn}{S:Sto}{r:Nat}{Q:WK}{E:Str→Sto→Prop}{t:Tr}
theorem zko (L:Lft B) (ha:S a=ae (.lst (B.map zbi))) (hd:t.depth≤60) (hr:t.depth+30≤r) (hw:t.weight≤1000) (hh:t.hd (λ_=>True)) (h:∀q,S q=none→Q (.ref q) (put S q (.lst ((t.op B []).map zdT)))):zcS (r+1) [.ref a,enc t] S Q E:=by
 obtain⟨r,rfl⟩:∃r',r=r'+1:=⟨r - 1,by omega⟩
 rw[zcS];walk_at "wp";refine⟨aX _,λq hq=>⟨aX _,?_⟩⟩;have hqa:q≠a:=λz=>by rw[z,ha]at hq;cases hq
 refine zmk L hqa t (p:=[]) (xs:=[]) (by omega) (keep ha hq) zag (by simp;omega) (by simp;omega) hh ?_;rw[zaM,aN];exact⟨_, .refl,h q hq⟩
theorem zpN (L:Lft B) (hP:PB B) (ha:S a=ae (.lst (B.map zbi))) (hd:t.depth≤60) (hr:t.depth+30≤r) (hw:t.weight≤1000) (hh:t.hd (λ_=>True)) (h:∀q,S q=none→Q (.ref q) (put S q (.lst ((t.us B []).map zdT)))):zgW (r+1) [.ref a,enc t] S Q E:=by
 obtain⟨r,rfl⟩:∃r',r=r'+1:=⟨r - 1,by omega⟩
 rw[zgW];walk_at "wp";refine⟨aX _,λq hq=>⟨aX _,?_⟩⟩;have hqa:q≠a:=λz=>by rw[z,ha]at hq;cases hq
 refine zlK L hP hqa t (p:=[]) (xs:=[]) (by omega) (keep ha hq) zag (by simp;omega) (by simp;omega) hw hh ?_;rw[zaM,aN];exact⟨_, .refl,h q hq⟩
theorem zkK{f:Addr}{xs:List (List Int×Str)}(hf:S f=ae (.lst (xs.map zdT))) (hl:xs.length≤10000) (h:∀q,S q=none→Q (.ref q) (put S q (.lst ((xs.map λx=>x.1).map zbJ)))):zcN (r+1) [.ref f] S Q E:=by
 rw[zcN];walk_at "wp";rw[zal hf];refine zaS (λσ=>∃y,σ=[y]) zdT (λx=>zbJ x.1) ?_ xs [] _ ⟨none,rfl⟩ (by simp;omega) (λx hx σ R hI hR=>?_) ?_
 ·exact hf
 ·obtain⟨y,rfl⟩:=hI;simp only[zeQ,zdT];walk_at "wp";exact hR _ _ ⟨_,rfl⟩ .refl
 ·rw[aN];intro q hq;have:=h q hq;rw[bx]at this;exact⟨_, .refl,this⟩
theorem ziU{s:Str}{ts ms:List Tr}{u:Tn}(L:Lft B) (ha:S a=ae (.lst (B.map zbi))) (hh:(Tr.nd s ts).hd (λ_=>True)) (hw:(Tr.nd s ts).weight≤1000) (hr:25≤r) (h1:zdx B (.nd s ts)=ae u) (h2:u.2.1.mt (.nd s ts)=ae ms) (h:Q (enc (.nd u.1 ms)) S):zcv (r+1) [.ref a,enc (.nd s ts)] S Q E:=by
 obtain⟨r,rfl⟩:∃r',r=r'+1:=⟨r - 1,by omega⟩
 have ht:u∈B:=b6 h1;have ft:=zex (m:=0) _ hh;have hm:=zpQ u.2.1 _ _ h2 hh;have hl:=zbg ms;rw[zcv];walk_at "wp";refine zfT L ha ft (by omega) ?_;rw[h1];have et:zdf (ae u)= .tup [.str u.1,enc u.2.1,enc u.2.2]:=rfl;rw[et]
 try walk_at "wp"
 rw[show atI [W.str u.1,enc u.2.1,enc u.2.2] 1=ae (enc u.2.1) from rfl];have g1:=L.d u ht;have g2:=L.w u ht;refine⟨zah (by decide),zdX (by omega) ft (by omega) (λys hys q hq=>?_) λh0=>by rw[h2]at h0;cases h0⟩
 rw[h2]at hys;cases hys
 try walk_at "wp"
 rw[zaP];simp only[enc]at h;exact⟨zah (by omega),_, .put .refl hq,h⟩
end
theorem zqV{B:List Tn}{s:Str}{n:Nat}(h:zaw B s=none):pps B s n=(ba n).map λ(i:Nat)=>[(i:Int)]:=by unfold pps;rw[h]
theorem zrI{B:List Tn}{s:Str}{n:Nat}{t:Tn}(h:zaw B s=ae t):pps B s n=t.2.1.bls.map λx=>x.1:=by unfold pps;rw[h]
theorem Wis.len{B:List Tn}{wn:List (List Int)}{n:Nat}{p:List Int}:∀{qs:List (List Int)}{ts us:List Tr},Wis B wn n p qs ts us→us.length=ts.length
 |_,_,_, .nil=>rfl
 |_,_,_, .cons _ h=>by rw[aW,aW,Wis.len h]
section
variable {a w:Addr}{B:List Tn}{wn:List (List Int)}
theorem zfZ (n:Nat) (hP4:∀{t u:Tr}{p:List Int}{r:Nat}{S:Sto}{Q:WK}{E:Str→Sto→Prop},Wi B wn n p t u→n+40≤r+1→S a=ae (.lst (B.map zbi))→S w=ae (.dct (zgz wn))→t.hd (λ_=>True)→t.weight≤1000→p.length+4*n≤1000→Q (enc u) S→zaU (r+1) [.ref a,enc t,zbJ p, .ref w] S Q E) :
  ∀{ts us:List Tr}{qs:List (List Int)}{p:List Int},Wis B wn n p qs ts us→ ∀{r:Nat}{xs:List W}{f:Addr}{S:Sto}{G:Sto→Prop}{E:WX}{D:WEnds}{t0 x4 x6 x7:Option W},(∀q∈qs,q.length≤4)→n+40≤r+1→S a=ae (.lst (B.map zbi))→S w=ae (.dct (zgz wn))→S f=ae (.lst xs)→f≠a→f≠w→xs.length+ts.length≤10000→wts ts≤1000→hds (λ_=>True) ts→p.length+4+4*n≤1000→(∀o,G (put S f o))→
  (∀x6 x7,D.nx [ae (.ref a),t0,ae (zbJ p),ae (.ref w),x4,ae (.ref f),x6,x7] (put S f (.lst (xs++encs us))))→
  forL (wGT (zav (wGN 6) (zav (wGN 7) zcD))) (zcr (r+1) (zaU (r+1))) E D G (pairs (qs.map zbJ) (encs ts)) [ae (.ref a),t0,ae (zbJ p),ae (.ref w),x4,ae (.ref f),x6,x7] S
 |_,_,_,p, .nil=>by
  rename_i r xs f S G E D t0 x4 x6 x7;intro hq hr ha hw hf n1 n2 hx hwt hh hp hG h;simp only[cu,encs,pairs,forL];have:=h x6 x7;simp only[encs,bv,zdB hf]at this;exact this
 |_,_,_,p, .cons (q:=q) (t:=t) (u:=u) (ts:=ts) (us:=us) h1 h2=>by
  rename_i r xs f S G E D t0 x4 x6 x7 qs;intro hq hr ha hw hf n1 n2 hx hwt hh hp hG h;simp only[wts]at hwt;simp only[hds]at hh;simp only[aW]at hx;have hq4:=hq q aK;simp only[aB,encs,pairs];refine zco λN hN=>?_;simp only[zcr];walk_at "wp";simp only[zal hf,true_and];rw[zsQ];refine⟨zah (by omega),hP4 h1 hr ha hw hh.1 (by omega) (by simp;omega) ?_⟩
  try walk_at "wp"
  rw[zal hf];refine⟨zbF (by omega),?_⟩;refine hN _ _ _ .refl (hG _) (zfZ n hP4 h2 (xs:=xs++[enc u]) (λq' hq'=>hq q' (aC _ hq')) hr (by rw[zaI (bj n1)];exact ha) (by rw[zaI (bj n2)];exact hw) zag n1 n2 (by simp;omega) (by omega) hh.2 hp (λo=>by rw[zaM];exact hG o) λx6 x7=>?_)
  rw[zaM];have:=h x6 x7;simpa [encs]using this
theorem ziC (L:Lft B) (hP:PB B):∀(n:Nat) {t u:Tr}{p:List Int}{r:Nat}{S:Sto}{Q:WK}{E:Str→Sto→Prop},Wi B wn n p t u→n+40≤r+1→S a=ae (.lst (B.map zbi))→S w=ae (.dct (zgz wn))→t.hd (λ_=>True)→t.weight≤1000→p.length+4*n≤1000→Q (enc u) S→zaU (r+1) [.ref a,enc t,zbJ p, .ref w] S Q E
 |0,t,u,p,r,S,Q,E,M,hr,ha,hw,hh,hwt,hp,h=>by cases M
 |n+1,t,u,p,r,S,Q,E,M,hr,ha,hw,hh,hwt,hp,h=>by
  obtain⟨r,rfl⟩:∃r',r=r'+1:=⟨r - 1,by omega⟩
  have tail:∀{s:Str}{ts us:List Tr}{t0:Option W}{E':WX},Wis B wn n p (pps B s ts.length) ts us→hds (λ_=>True) ts→wts ts≤1000→Q (enc (.nd s us)) S→
    (1:Nat)=1→ ∀f,S f=none→zbd (r+1) [.ref a, .tup (.str s::encs ts)] (put S f (.lst [])) (λx S1=>znb x S1 λxs G=>forL (wGT (zav (wGN 6) (zav (wGN 7) zcD))) (zcr (r+1) (zaU (r+1))) E' { nx:=wRet (wOp zdF (zaR (zab (wOp oIx (wVar 4) (wC (W.int 0))) waNil)) (wB zdo (zab (wVar 5) waNil))) E' { nx:=λx S'=>∃S'',Sub S'' S'∧Q W.non S'',rt:=λw S'=>∃S'',Sub S'' S'∧Q w S'' },rt:=λw S'=>∃S'',Sub S'' S'∧Q w S'' } (λS'=>G S'∧True) (pairs xs (encs ts)) [ae (.ref a),t0,ae (zbJ p),ae (.ref w),ae (.tup (.str s::encs ts)),ae (.ref f),none,none] S1) E:=λ{s ts us t0 E'} WW hd hw' hQ _ f hf=>by
   have hk:=zbg ts;have n1:f≠a:=λz=>by rw[z,ha]at hf;cases hf
   have n2:f≠w:=λz=>by rw[z,hw]at hf;cases hf
   have ee:W.tup (W.str s::encs ts)=enc (.nd s ts):=by simp only[enc]
   rw[ee];refine zhg L (keep ha hf) (by omega) (by omega) λq hq=>?_;rw[zeD,zeC,←ee];obtain⟨hq1,hq2⟩:=zct hq;refine zfZ n (ziC L hP n) WW (zji hP) (by omega) (keep (keep ha hf) hq) (keep (keep hw hf) hq) (keep zag hq) n1 n2 (by simp;omega) hw' hd (by omega) (λo=>⟨?_,trivial⟩) λx6 x7=>?_
   ·show put _ f o q=_;rw[zaI hq2];exact zag
   ·have hlu:us.length≤1000:=by
     have:=Wis.len WW;omega
    walk_at "wp";rw[zaP];simp only[enc]at hQ;refine⟨zah (by decide),zah (by omega),S,?_,hQ⟩;rw[zlx hq2];exact .put (.put .refl hf) hq1
  cases M with
  | @no _ _ s ts us h1 h2 h3=>
   simp only[Tr.hd]at hh;simp only[Tr.weight]at hwt;rw[zaU];simp only[enc];walk_at "wp";rw[zkQ hw,zil,decide_eq_false h1]
   try walk_at "wp"
   refine⟨aX _,λf hf=>?_⟩;have:=tail (t0:=ae (.tup (.str s::encs ts))) (E':=λc x S'=>E c S') (by rw[zqV h2];exact h3) hh.2 (by omega) h rfl f hf;simpa only[and_true]using this
  | @yes _ _ s ts us ms t h1 h2 h3 h4 h5=>
   have hm:=zpQ t.2.1 _ _ h3 hh;rw[zaU];walk_at "wp";rw[zkQ hw,zil,decide_eq_true h1]
   try walk_at "wp"
   refine ziU L ha hh hwt (by omega) h2 h3 ?_;simp only[enc]
   try walk_at "wp"
   refine⟨aX _,λf hf=>?_⟩;have:=tail (t0:=ae (.tup (.str s::encs ts))) (E':=λc x S'=>E c S') (by rw[zrI h4];exact h5) hm.1 (by omega) h rfl f hf;simpa only[and_true]using this
end
theorem zjy{S:Sto}{n:Nat}:∀(p q:List Int),zeq (eqF S (n+1)) (p.map W.int) (q.map W.int)=ae (decide (p=q))
 | [],[]=>by simp [zeq]
 | [],j::q=>by simp [zeq]
 |i::p,[]=>by simp [zeq]
 |i::p,j::q=>by
  rw[aB,aB,zeq,zjG,zjy p q];simp only[bF];rw[eJ];simp
theorem zzd{S:Sto}{n:Nat}(p q:List Int):eqF S (n+2) (zbJ p) (zbJ q)=ae (decide (p=q)):=by
 unfold zbJ;rw[zpb,zjy]
theorem zxl{S:Sto}{x:List Int}:∀ys:List (List Int),inF S (zbJ x) (ys.map zbJ)=ae (decide (x∈ys))
 | []=>by simp [inF]
 |y::ys=>by
  rw[aB,inF,zzd (n:=57),zxl ys];simp only[bF];rw[eJ];simp only[i6,decide_eq_true_eq,ax];exact⟨λh=>h.elim (λe=> .inl e.symm) .inr,λh=>h.elim (λe=> .inl e.symm) .inr⟩
section
variable {a:Addr}{B:List Tn}{wn:List (List Int)}{S:Sto}{r n:Nat}{Q:WK}{E:Str→Sto→Prop}{t u:Tr}{f:Addr}
theorem zni (L:Lft B) (hP:PB B) (M:Wi B wn n [] t u) (hn:n≤60) (hr:110≤r) (ha:S a=ae (.lst (B.map zbi))) (hf:S f=ae (.lst (wn.map zbJ))) (hh:t.hd (λ_=>True)) (hw:t.weight≤1000) (hl:wn.length≤10000) (h:Q (enc u) S):zdq (r+1) [.ref a,enc t, .ref f] S Q E:=by
 obtain⟨r,rfl⟩:∃r',r=r'+1:=⟨r - 1,by omega⟩
 rw[zdq];walk_at "wp";refine⟨aX _,?_⟩;rw[zal hf];refine zaS (λσ=>∃y,σ=[y]) zbJ (λp=>W.tup [zbJ p, .bl true]) ?_ wn [] _ ⟨none,rfl⟩ (by simp;omega) (λx hx σ R hI hR=>?_) ?_
 ·exact hf
 ·obtain⟨y,rfl⟩:=hI;simp only[zft];walk_at "wp";exact⟨zah (by decide),hR _ _ ⟨_,rfl⟩ .refl⟩
 ·rw[aN];have e:zee (wn.map λp=>W.tup [zbJ p, .bl true])=ae wn:=zjg wn;rw[e];refine⟨by omega,λd hd=>?_⟩;have e0:W.tup []=zbJ []:=rfl;rw[e0];exact ziC L hP n M (by omega) (keep ha hd) zag hh hw (by simp;omega) ⟨_, .put .refl hd,h⟩
theorem zmA{ks:List (List Int)}(L:Lft B) (hP:PB B) (M:Wi B wn n [] t u) (hn:n≤60) (hr:115≤r) (ha:S a=ae (.lst (B.map zbi))) (hf:S f=ae (.lst (wn.map zbJ))) (hh:t.hd (λ_=>True)) (hw:t.weight≤1000) (hd:t.depth≤60) (hl:wn.length≤10000) (hks:((t.op B []).map λx=>x.1)=ks) (hin:∀x∈wn,x∈ks) (h:Q (enc u) S):zdY (r+1) [.ref a,enc t, .ref f] S Q E:=by
 obtain⟨r,rfl⟩:∃r',r=r'+1:=⟨r - 1,by omega⟩
 have ol:=znT B t [];rw[zdY];walk_at "wp";refine zko L ha hd (by omega) hw hh λq hq=>?_;refine zkK zag (by omega) λq2 hq2=>?_;rw[hks];have f2:put (put S q (Ob.lst ((t.op B []).map zdT))) q2 (Ob.lst (ks.map zbJ)) q2=ae (.lst (ks.map zbJ)):=zag;have ff:=keep (x:=Ob.lst (ks.map zbJ)) (keep (x:=Ob.lst ((t.op B []).map zdT)) hf hq) hq2;have fa:=keep (x:=Ob.lst (ks.map zbJ)) (keep (x:=Ob.lst ((t.op B []).map zdT)) ha hq) hq2;have sub:Sub S (put (put S q (Ob.lst ((t.op B []).map zdT))) q2 (Ob.lst (ks.map zbJ))):= .trans (.put .refl hq) (.put .refl hq2);generalize put (put S q (Ob.lst ((t.op B []).map zdT))) q2 (Ob.lst (ks.map zbJ))=S2 at f2 ff fa sub⊢
 try walk_at "wp"
 rw[zal ff];refine zeW (S:=S2) ?_ (λσ=>∃x,σ=[ae (.ref a),ae (enc t),ae (.ref f),ae (.ref q2),x]) zbJ (λ_=>none) wn _ ⟨_,rfl⟩ (λx hx σ N hI hno hret=>?_) (λe σ hI=>?_) λw e S' sb=>?_
 ·exact ff
 ·obtain⟨y,rfl⟩:=hI;unfold zgZ;walk_at "wp";rw[zal f2,zxl,decide_eq_true (hin x hx)]
  try walk_at "wp"
  exact hno rfl _ _ ⟨_,rfl⟩ .refl
 ·obtain⟨y,rfl⟩:=hI
  try walk_at "wp"
  exact zni L hP M hn (by omega) fa ff hh hw hl ⟨_,sub,h⟩
 ·rw[List.findSome?_eq_none_iff.mpr (λ_ _=>rfl)]at e;cases e
end
section
variable {c:Int→Nat}
def One (c:Int→Nat):Prop:=∀x:Int,0≤x→x<8→c x≤1
theorem One.src (hc:One c):∀x:Int,0≤x→x<8→zkD c x=0:=λx h0 h1=>by
 have:=hc x h0 h1;unfold zkD;split<;>omega
end
theorem zeo (f:Int):One (byC f):=λx _ _=>zoN f x
noncomputable def zvv (B:List Tn) (x:List Int×Tr):List (List Int×Str):=(zdx B x.2).toList.map λb=>(x.1,b.1)
mutual
theorem znH (B:List Tn):∀(t:Tr) (p:List Int),t.fits 0→(t.plt p).flatMap (zvv B)=t.op B p
 | .bl n,p,h=>by
  simp only[Tr.fits]at h;omega
 | .nd s ts,p,h=>by
  simp only[Tr.fits]at h;rw[Tr.plt,dU,znP B ts p 0 h,Tr.op,zvv];cases zdx B (.nd s ts)<;>rfl
theorem znP (B:List Tn):∀(ts:List Tr) (p:List Int) (i:Nat),fitss 0 ts→(zdD p i ts).flatMap (zvv B)=ops B p i ts
 | [],p,i,h=>by simp [zdD,ops]
 |t::ts,p,i,h=>by
  simp only[fitss]at h;rw[zdD,ops,iC,znH B t _ h.1,znP B ts p (i+1) h.2]
end
section
variable {c d:Int→Nat}
theorem zfb{c d:Int→Nat}(hc:One c) (hd:One d):Ok2 c d:=λx h0 h1=> .inl ⟨hc x h0 h1,hd x h0 h1⟩
end
def Ap (a b:List Int):Prop:=∃(c:List Int) (x y:Int) (a' b':List Int),a=c++x::a'∧b=c++y::b'∧x<y
def Bf (a b:List Int):Prop:=Ap a b∨ ∃x e,b=a++x::e
theorem zig:∀(ts:List Tr) (p:List Int) (i:Nat) (x:List Int×Tr),x∈zdD p i ts→ ∃(j:Nat) (e:List Int),i≤j∧x.1=p++(j:Int)::e
 | [],p,i,x,h=>by rw[zdD]at h;cases h
 |t::ts,p,i,x,h=>by
  rw[zdD]at h;rcases bb.mp h with h |h
  ·obtain⟨r,e,_,_⟩:=zhh t _ x.1 x.2 h;exact⟨i,r,au _,by rw[e];simp⟩
  ·obtain⟨j,e,h1,h2⟩:=zig ts p (i+1) x h;exact⟨j,e,by omega,h2⟩
mutual
theorem ztn:∀(t:Tr) (p:List Int),(t.plt p).Pairwise λx y=>Bf x.1 y.1
 | .bl n,p=>by rw[Tr.plt];exact List.pairwise_singleton _ _
 | .nd s ts,p=>by
  rw[Tr.plt];refine List.pairwise_cons.mpr ⟨λy hy=>?_,zpR ts p 0⟩;obtain⟨j,e,_,h⟩:=zig ts p 0 y hy;exact .inr ⟨j,e,h⟩
theorem zpR:∀(ts:List Tr) (p:List Int) (i:Nat),(zdD p i ts).Pairwise λx y=>Bf x.1 y.1
 | [],p,i=>by rw[zdD];exact .nil
 |t::ts,p,i=>by
  rw[zdD];refine List.pairwise_append.mpr ⟨ztn t _,zpR ts p (i+1),λx hx y hy=>?_⟩;obtain⟨r,e,_,_⟩:=zhh t _ x.1 x.2 hx;obtain⟨j,e',hj,h⟩:=zig ts p (i+1) y hy;exact .inl ⟨p,i,j,r,e',by rw[e];simp,h,by omega⟩
end
theorem zxA (t:Tr):(t.bls.map λx=>x.1).Pairwise Ap:=by
 rw[jP];have h:=(ztn t []).filter λx=>x.2.isBl;refine jU (λ{x y} hx hy hb=>?_) h;rcases hb with hb |⟨z,e,hb⟩
 ·exact hb
 ·obtain⟨h1,h2,_⟩:=zde hx;obtain⟨h3,_,_⟩:=zde hy;rw[h2]at h1;rw[hb,zlH x.1 (z::e) h1,Tr.at]at h3;cases h3
noncomputable def u1 (B:List Tn) (p:Pl):List (List Int×Str):=zzR (byC 1) (p.ns B [])
mutual
noncomputable def Tr.ord (k:Nat):Tr→Option Nat
 | .bl n=>if n=(k:Int) then ae (k+1) else none
 | .nd _ ts=>znc k ts
noncomputable def znc (k:Nat):List Tr→Option Nat
 | []=>ae k
 |t::ts=>match t.ord k with
  |some m=>znc m ts
  |none=>none
end
def zyp (B:List Tn) (z:Str):Prop:=∀u∈B,∀s ls,u.2.1= .nd s ls→s≠z
structure Ort (B:List Tn):Prop where
  inn:∀t∈B,∃s ls,t.2.1= .nd s ls∧hbs (zyp B) ls
  mt:zym B
  fm:∀t∈B,∀x ys,t.2.1.mt x=ae ys→x=t.2.1.fill ys∧ys.length=t.2.1.nb
  one:∀u∈B,∀v∈B,∀x:Tr,(u.2.1.mt x).isSome=true→(v.2.1.mt x).isSome=true→u=v
  od:∀t∈B,t.2.1.ord 0=ae t.2.1.nb
mutual
theorem ztb:∀(L x:Tr) (ys:List Tr) (k m:Nat),L.ord k=ae m→L.mt x=ae ys→ys.length+k=m∧ ∀pre post:List Tr,pre.length=k→L.fill (pre++ys++post)=x
 | .bl n,x,ys,k,m,h,e=>by
  rw[Tr.ord]at h;split at h
  ·rename_i hn;cases h;rw[Tr.mt]at e;cases e;refine⟨by simp;omega,λpre post hp=>?_⟩;rw[Tr.fill,hn,bU,aY,bw,dy (by omega),hp,fN];rfl
  ·cases h
 | .nd s ls, .bl n,ys,k,m,h,e=>by rw[Tr.mt]at e;cases e
 | .nd s ls, .nd z us,ys,k,m,h,e=>by
  rw[Tr.mt]at e;split at e
  ·rename_i hc;rw[cc,beq_iff_eq,beq_iff_eq]at hc;rw[Tr.ord]at h;obtain⟨h1,h2⟩:=znN ls us ys k m hc.2 h e;exact⟨h1,λpre post hp=>by rw[Tr.fill,h2 pre post hp,hc.1]⟩
  ·cases e
theorem znN:∀(ls us ys:List Tr) (k m:Nat),ls.length=us.length→znc k ls=ae m→mts ls us=ae ys→ys.length+k=m∧ ∀pre post:List Tr,pre.length=k→fills (pre++ys++post) ls=us
 | [],us,ys,k,m,hl,h,e=>by
  rw[znc]at h;cases h;rw[mts]at e;cases e;cases us with
  |nil=>exact⟨by simp,λ_ _ _=>by rw[fills]⟩
  |cons _ _=>cases hl
 |l::ls,[],ys,k,m,hl,h,e=>by cases hl
 |l::ls,u::us,ys,k,m,hl,h,e=>by
  rw[znc]at h;rw[mts]at e;cases q:l.ord k with
  |none=>rw[q]at h;cases h
  |some j=>
   rw[q]at h;cases q1:l.mt u with
   |none=>rw[q1]at e;cases e
   |some xs=>
    rw[q1]at e;cases q2:mts ls us with
    |none=>rw[q2]at e;cases e
    |some zs=>
     rw[q2]at e;cases e;obtain⟨h1,h2⟩:=ztb l u xs k j q q1;obtain⟨h3,h4⟩:=znN ls us zs j m (by simpa using hl) h q2;refine⟨by rw[aZ];omega,λpre post hp=>?_⟩;rw[fills];have e1:=h2 pre (zs++post) hp;have e2:=h4 (pre++xs) post (by rw[aZ];omega);have a1:pre++(xs++zs)++post=pre++xs++(zs++post):=by simp
     have a2:pre++(xs++zs)++post=pre++xs++zs++post:=by simp
     rw[a1,e1,←a1,a2,e2]
end
theorem zmD{n:Nat}{h c d:Str}{L:Tr}(hL:L∈leftsL n h c d):L.ord 0=ae L.nb:=by
 unfold leftsL at hL;split at hL<;>simp only[ax,a_,or_false]at hL
 all_goals first
  | (subst hL;simp [Tr.ord,znc,Tr.nb,nbs])
  | (rcases hL with rfl |rfl<;>simp [Tr.ord,znc,Tr.nb,nbs])
theorem zfH{n:Nat}{h c d:Str}{P:Str→Prop}(hc:P c) (hd:P d) {L:Tr}(hL:L∈leftsL n h c d):∃ls,L= .nd h ls∧hbs P ls:=by
 unfold leftsL at hL;split at hL<;>simp only[ax,a_,or_false]at hL
 all_goals first
  | (subst hL;exact⟨_,rfl,by simp [hbs,Tr.hb,hc,hd]⟩)
  | (rcases hL with rfl |rfl<;>exact⟨_,rfl,by simp [hbs,Tr.hb,hc,hd]⟩)
section
variable {w0 w1 w2 w3 w4 w5:Str}{tt:List Str}{B:List Tn}
theorem BookOk.mem_lefts (b:BookOk w0 w1 w2 w3 w4 w5 tt B) {t:Tn}(ht:t∈B):∃n,t.2.1∈leftsL n w0 w2 w3∨t.2.1∈leftsL n w1 w2 w3:=by
 obtain⟨n,m,e⟩:=b.lf;have:t.2.1∈leftsL n w0 w2 w3++leftsL m w1 w2 w3:=by rw[←e];exact aM.mpr ⟨t,ht,rfl⟩
 rcases bb.mp this with z |z
 ·exact⟨n, .inl z⟩
 ·exact⟨m, .inr z⟩
theorem BookOk.ort (b:BookOk w0 w1 w2 w3 w4 w5 tt B) (G:Signs w0 w1 w2 w3 w4 w5):Ort B:=by
 have top:∀z,z≠w0→z≠w1→zyp B z:=λz h0 h1 u hu s ls e=>by
  obtain⟨n,z |z⟩:=b.mem_lefts hu
  ·obtain⟨l,e',_⟩:=zfH (P:=λ_=>True) trivial trivial z;rw[e]at e';cases e';exact h0.symm
  ·obtain⟨l,e',_⟩:=zfH (P:=λ_=>True) trivial trivial z;rw[e]at e';cases e';exact h1.symm
 have t2:=top w2 (G.n0 w2 (by simp)).symm (G.n1 w2 (by simp)).symm;have t3:=top w3 (G.n0 w3 (by simp)).symm (G.n1 w3 (by simp)).symm;have od:∀t∈B,t.2.1.ord 0=ae t.2.1.nb:=λt ht=>by
  obtain⟨n,z |z⟩:=b.mem_lefts ht
  ·exact zmD z
  ·exact zmD z
 refine⟨λt ht=>?_,b.mt,λt ht x ys e=>?_,λu hu v hv x h1 h2=>zpS (b.inj G) hu hv (b.one G hu hv h1 h2),od⟩
 ·obtain⟨n,z |z⟩:=b.mem_lefts ht
  ·obtain⟨l,e',h⟩:=zfH t2 t3 z;exact⟨_,_,e',h⟩
  ·obtain⟨l,e',h⟩:=zfH t2 t3 z;exact⟨_,_,e',h⟩
 ·have ho:=od t ht;obtain⟨h1,h2⟩:=ztb _ _ _ _ _ ho e;have:=h2 [] [] rfl;simp only[aN,bv]at this;exact⟨this.symm,by omega⟩
end
structure Wy (ws:List Str) (B:List Tn) (a:Tr):Prop where
  hd:a.hd λs=>s∈ws∨ ∃t∈B,t.1=s
  ar:a.ar B
noncomputable abbrev src (B:List Tn) (a:Tr):Tr:=a.mk B λt=>t.2.1
noncomputable abbrev gol (B:List Tn) (a:Tr):Tr:=a.mk B λt=>t.2.2
section
variable {ws:List Str}{B:List Tn}
theorem zjV{P:Str→Prop}:∀{ts:List Tr}{t:Tr},hds P ts→t∈ts→t.hd P
 |u::ts,t,h,ht=>by
  rw[hds]at h;rcases ax.mp ht with rfl |ht
  ·exact h.1
  ·exact zjV h.2 ht
theorem zkN:∀{ts:List Tr}{t:Tr},ars B ts→t∈ts→t.ar B
 |u::ts,t,h,ht=>by
  rw[ars]at h;rcases ax.mp ht with rfl |ht
  ·exact h.1
  ·exact zkN h.2 ht
theorem Wy.cases (b:BkOk ws ws B) {a:Tr}(h:Wy ws B a):(∃s as,a= .nd s as∧s∈ws∧zaw B s=none∧ ∀x∈as,Wy ws B x)∨(∃t as,t∈B∧a= .nd t.1 as∧zaw B t.1=ae t∧as.length=t.2.1.nb∧ ∀x∈as,Wy ws B x):=by
 obtain⟨h1,h2⟩:=h;cases a with
 |bl n=>rw[Tr.hd]at h1;exact h1.elim
 |nd s as=>
  rw[Tr.hd]at h1;rw[Tr.ar]at h2;have kids:∀x∈as,Wy ws B x:=λx hx=>⟨zjV h1.2 hx,zkN h2.2 hx⟩;rcases h1.1 with h |⟨t,ht,rfl⟩
  ·exact .inl ⟨s,as,rfl,h,zay b.ti (b.sg s h),kids⟩
  ·have e:=zcJ b.nd ht;exact .inr ⟨t,as,ht,rfl,e,h2.1 t e,kids⟩
theorem zcC{g:Tn→Tr}{s:Str}{as:List Tr}(h:zaw B s=none):(Tr.nd s as).mk B g= .nd s (as.map (Tr.mk B g)):=by
 rw[Tr.mk,h,zfa]
theorem zbD{g:Tn→Tr}{t:Tn}{as:List Tr}(h:zaw B t.1=ae t):(Tr.nd t.1 as).mk B g=(g t).fill (as.map (Tr.mk B g)):=by
 rw[Tr.mk,h,zfa]
mutual
theorem zwJ (b:BkOk ws ws B) (O:Ort B):∀(L a:Tr),L.hb (zyp B)→Wy ws B a→(L.mt (src B a)).isSome=true→(L.mt a).isSome=true
 | .bl n,a,_,_,_=>by rw[Tr.mt];rfl
 | .nd z ls,a,hL,ha,h=>by
  rw[Tr.hb]at hL;rcases ha.cases b with⟨s,as,rfl,hs,e,kids⟩ |⟨t,as,ht,rfl,e,hl,kids⟩
  ·rw[show src B (.nd s as)= .nd s (as.map (src B)) from zcC e,Tr.mt,ap]at h;rw[Tr.mt];split at h
   ·rename_i hc;rw[if_pos hc];exact zjZ b O ls as hL.2 kids h
   ·cases h
  ·obtain⟨s0,l0,e0,_⟩:=O.inn t ht;rw[show src B (.nd t.1 as)=t.2.1.fill (as.map (src B)) from zbD e,e0,Tr.fill]at h;exact absurd (zkj h).symm (hL.1 t ht s0 l0 e0)
theorem zjZ (b:BkOk ws ws B) (O:Ort B):∀(ls as:List Tr),hbs (zyp B) ls→(∀x∈as,Wy ws B x)→(mts ls (as.map (src B))).isSome=true→(mts ls as).isSome=true
 | [],as,_,_,_=>by rw[mts];rfl
 |l::ls,[],_,_,_=>by rw[mts];rfl
 |l::ls,a::as,hL,ha,h=>by
  rw[hbs]at hL;rw[aB,mts]at h;cases q1:l.mt (src B a) with
  |none=>rw[q1]at h;cases h
  |some xs=>
   rw[q1]at h;cases q2:mts ls (as.map (src B)) with
   |none=>rw[q2]at h;cases h
   |some zs=>
    have h1:=zwJ b O l a hL.1 (ha a (by simp)) (by rw[q1];rfl);have h2:=zjZ b O ls as hL.2 (λx hx=>ha x (aC _ hx)) (by rw[q2];rfl);obtain⟨x1,h1⟩:=eM.mp h1;obtain⟨x2,h2⟩:=eM.mp h2;rw[mts,h1,h2];rfl
end
end
section
variable {ws:List Str}{B:List Tn}
theorem Wy.kids{s:Str}{as:List Tr}(h:Wy ws B (.nd s as)):∀x∈as,Wy ws B x:=λx hx=>by
 obtain⟨h1,h2⟩:=h;rw[Tr.hd]at h1;rw[Tr.ar]at h2;exact⟨zjV h1.2 hx,zkN h2.2 hx⟩
mutual
theorem zwB:∀(L a:Tr) (ys:List Tr),L.mt a=ae ys→Wy ws B a→ ∀y∈ys,Wy ws B y
 | .bl n,a,ys,e,h,y,hy=>by
  rw[Tr.mt]at e;cases e;rw[aV]at hy;rw[hy];exact h
 | .nd s ls, .bl n,ys,e,h,y,hy=>by rw[Tr.mt]at e;cases e
 | .nd s ls, .nd z us,ys,e,h,y,hy=>by
  rw[Tr.mt]at e;split at e
  ·exact zsV ls us ys e h.kids y hy
  ·cases e
theorem zsV:∀(ls us ys:List Tr),mts ls us=ae ys→(∀x∈us,Wy ws B x)→ ∀y∈ys,Wy ws B y
 | [],us,ys,e,h,y,hy=>by rw[mts]at e;cases e;cases hy
 |l::ls,[],ys,e,h,y,hy=>by rw[mts]at e;cases e;cases hy
 |l::ls,u::us,ys,e,h,y,hy=>by
  rw[mts]at e;cases q1:l.mt u with
  |none=>rw[q1]at e;cases e
  |some xs=>
   rw[q1]at e;cases q2:mts ls us with
   |none=>rw[q2]at e;cases e
   |some zs=>
    rw[q2]at e;cases e;rcases bb.mp hy with hy |hy
    ·exact zwB l u xs q1 (h u (by simp)) y hy
    ·exact zsV ls us zs q2 (λx hx=>h x (aC _ hx)) y hy
end
theorem zmG (b:BkOk ws ws B) {t:Tn}(ht:t∈B) {vs:List Tr}(hl:vs.length=t.2.1.nb) (g:Tn→Tr):(t.2.1.fill vs).mk B g=t.2.1.fill (vs.map (Tr.mk B g)):=
 zie b.ti _ (b.lf t ht).hb (by rw[hl];exact(b.lf t ht).fits)
theorem zfV (b:BkOk ws ws B) (O:Ort B) {t:Tn}(ht:t∈B) {s:Str}{bs us:List Tr}(e:zaw B s=none) (hw:Wy ws B (.nd s bs)) (hl:us.length=t.2.1.nb) (h:src B (.nd s bs)=t.2.1.fill us) :
  ∃vs, .nd s bs=t.2.1.fill vs∧vs.length=t.2.1.nb∧vs.map (src B)=us∧(∀x∈vs,Wy ws B x)∧wts vs≤(Tr.nd s bs).weight:=by
 obtain⟨s0,ls,e0,hin⟩:=O.inn t ht;have hm:t.2.1.mt (src B (.nd s bs))=ae us:=by rw[h];exact O.mt t ht us hl
 have h1:(t.2.1.mt (.nd s bs)).isSome=true:=by
  have hm':=hm;rw[show src B (.nd s bs)= .nd s (bs.map (src B)) from zcC e,e0,Tr.mt,ap]at hm';rw[e0,Tr.mt];split at hm'
  ·rename_i hc;rw[if_pos hc];exact zjZ b O ls bs hin hw.kids (by rw[hm'];rfl)
  ·cases hm'
 obtain⟨vs,hv⟩:=eM.mp h1;obtain⟨h2,h3⟩:=O.fm t ht _ _ hv;refine⟨vs,h2,h3,?_,zwB _ _ _ hv hw,zjP _ _ _ hv⟩;rw[h2,show src B (t.2.1.fill vs)=_ from zmG b ht h3 _,O.mt t ht _ (by rw[ap,h3])]at hm;exact aI hm
theorem zfK{s:Str}{as:List Tr}:(Tr.nd s as).weight=1+wts as:=by rw[Tr.weight]
inductive PlB (P:Int→Prop):Pl→Prop
 |sign {b:Int}{h:Str}{ps:List Pl}:(∀p∈ps,PlB P p)→PlB P (.nd (-1) b h ps)
 |turn {k:Nat}{b:Int}{h:Str}{ps:List Pl}:P b→(∀p∈ps,PlB P p)→PlB P (.nd k b h ps)
def zwc (x:Int):Prop:=x=1∨x=2∨x=3
theorem zqR (b:BkOk ws ws B) (O:Ort B):∀(n:Nat) (x y:Tr),x.weight+y.weight≤n→Wy ws B x→Wy ws B y→src B x=src B y→ ∃p,PlOk ws B p∧PlB zwc p∧p.ev B (byC 1)=x∧p.ev B (byC 2)=y
 |0,x,y,hn,hx,hy,e=>by
  rcases hx.cases b with⟨s,as,rfl,_⟩ |⟨t,as,_,rfl,_⟩<;>rw[zfK]at hn<;>omega
 |n+1,x,y,hn,hx,hy,e=>by
  have lists:∀(xs ys:List Tr),wts xs+wts ys≤n→(∀x∈xs,Wy ws B x)→(∀y∈ys,Wy ws B y)→xs.map (src B)=ys.map (src B)→ ∃ps:List Pl,(∀p∈ps,PlOk ws B p)∧(∀p∈ps,PlB zwc p)∧ps.map (Pl.ev B (byC 1))=xs∧ps.map (Pl.ev B (byC 2))=ys:=by
   intro xs
   induction xs with
   |nil=>
    intro ys _ _ _ e;cases ys with
    |nil=>exact⟨[],by simp,by simp,rfl,rfl⟩
    |cons y ys=>cases e
   |cons x xs ih=>
    intro ys hw h1 h2 e;cases ys with
    |nil=>cases e
    |cons y ys=>
     rw[aB,aB,f_]at e;rw[wts,wts]at hw;obtain⟨p,hp,hq,e1,e2⟩:=zqR b O n x y (by omega) (h1 x (by simp)) (h2 y (by simp)) e.1;obtain⟨ps,hps,hqs,e3,e4⟩:=ih ys (by omega) (λz hz=>h1 z (aC _ hz)) (λz hz=>h2 z (aC _ hz)) e.2;exact⟨p::ps,λq hq=>by
      rcases ax.mp hq with rfl |hq
      ·exact hp
      ·exact hps q hq,λq hz=>by
      rcases ax.mp hz with rfl |hz
      ·exact hq
      ·exact hqs q hz,by rw[aB,e1,e3],by rw[aB,e2,e4]⟩
  rcases hx.cases b with⟨s,as,rfl,hs,es,ka⟩ |⟨t,as,ht,rfl,et,la,ka⟩
  ·rcases hy.cases b with⟨s',bs,rfl,hs',es',kb⟩ |⟨t,bs,ht,rfl,et,lb,kb⟩
   ·rw[show src B (.nd s as)=_ from zcC es,show src B (.nd s' bs)=_ from zcC es']at e;injection e with e1 e2;subst e1;rw[zfK,zfK]at hn;obtain⟨ps,hps,hqs,e3,e4⟩:=lists as bs (by omega) ka kb e2;exact⟨.nd (-1) 0 s ps, .sign hs hps, .sign hqs,by rw[zbL,e3],by rw[zbL,e4]⟩
   ·rw[show src B (.nd t.1 bs)=_ from zbD et]at e;obtain⟨vs,ev,lv,ms,kv,wv⟩:=zfV b O ht es hx (by rw[ap,lb]) e;rw[zfK (s:=t.1)]at hn;obtain⟨ps,hps,hqs,e3,e4⟩:=lists vs bs (by omega) kv kb ms;obtain⟨k,hk⟩:=g9 ht;refine⟨.nd k 2 t.1 ps, .turn hk (by rw[←lb,←e4,ap]) (by decide) (by decide) hps, .turn (by unfold zwc;decide) hqs,?_,?_⟩
    ·rw[zbj hk,e3,ev,show byC 1 2=0 by decide];rfl
    ·rw[zbj hk,e4,show byC 2 2=1 by decide];rfl
  ·rcases hy.cases b with⟨s,bs,rfl,hs,es,kb⟩ |⟨u,bs,hu,rfl,eu,lb,kb⟩
   ·rw[show src B (.nd t.1 as)=_ from zbD et]at e;obtain⟨vs,ev,lv,ms,kv,wv⟩:=zfV b O ht es hy (by rw[ap,la]) e.symm;rw[zfK (s:=t.1)]at hn;obtain⟨ps,hps,hqs,e3,e4⟩:=lists as vs (by omega) ka kv ms.symm;obtain⟨k,hk⟩:=g9 ht;refine⟨.nd k 1 t.1 ps, .turn hk (by rw[←la,←e3,ap]) (by decide) (by decide) hps, .turn (by unfold zwc;decide) hqs,?_,?_⟩
    ·rw[zbj hk,e3,show byC 1 1=1 by decide];rfl
    ·rw[zbj hk,e4,ev,show byC 2 1=0 by decide];rfl
   ·rw[show src B (.nd t.1 as)=_ from zbD et,show src B (.nd u.1 bs)=_ from zbD eu]at e;have m1:=O.mt t ht (as.map (src B)) (by rw[ap,la]);have m2:=O.mt u hu (bs.map (src B)) (by rw[ap,lb]);have:t=u:=O.one t ht u hu _ (by rw[m1];rfl) (by rw[show(t.2.1.fill (as.map (src B)))=_ from e,m2];rfl)
    subst this;have e2:as.map (src B)=bs.map (src B):=by
     rw[show(t.2.1.fill (as.map (src B)))=_ from e,m2]at m1;exact(aI m1).symm
    rw[zfK,zfK]at hn;obtain⟨ps,hps,hqs,e3,e4⟩:=lists as bs (by omega) ka kb e2;obtain⟨k,hk⟩:=g9 ht;refine⟨.nd k 3 t.1 ps, .turn hk (by rw[←la,←e3,ap]) (by decide) (by decide) hps, .turn (by unfold zwc;decide) hqs,?_,?_⟩
    ·rw[zbj hk,e3,show byC 1 3=1 by decide];rfl
    ·rw[zbj hk,e4,show byC 2 3=1 by decide];rfl
end
theorem zpz:∀xs ys:List Tr,wts (xs++ys)=wts xs+wts ys
 | [],ys=>by rw[aN,wts,ca]
 |x::xs,ys=>by rw[bW,wts,wts,zpz xs ys,Nat.add_assoc]
mutual
theorem zhQ:∀(L:Tr) (k m:Nat),L.ord k=ae m→k≤m∧L.nb+k=m∧ ∀(us:List Tr),m≤us.length→(L.fill us).weight+(m - k)=L.weight+wts ((us.drop k).take (m - k))∧ ∀u∈(us.drop k).take (m - k),u.depth≤(L.fill us).depth
 | .bl n,k,m,h=>by
  rw[Tr.ord]at h;split at h
  ·rename_i hn;cases h;refine⟨by omega,by rw[Tr.nb];omega,λus hu=>?_⟩
   have hk:k<us.length:=by omega
   have e:(us.drop k).take (k+1 - k)=[us[k]]:=by
    rw[show k+1 - k=1 by omega,eQ hk]
    rfl
   have f:(Tr.bl n).fill us=us[k]:=by
    rw[Tr.fill,hn,bU,aY,aJ hk];rfl
   rw[e,f];refine⟨?_,λu hu=>?_⟩
   ·simp only[Tr.weight,wts];omega
   ·rw[aV]at hu;rw[hu];exact au _
  ·cases h
 | .nd s ls,k,m,h=>by
  rw[Tr.ord]at h;obtain⟨h1,h2,h3⟩:=zeK ls k m h;refine⟨h1,by rw[Tr.nb];exact h2,λus hu=>?_⟩
  obtain⟨h4,h5⟩:=h3 us hu;rw[Tr.fill,Tr.weight,Tr.weight,Tr.depth];exact⟨by omega,λu hu'=>bC (h5 u hu') (by omega)⟩
theorem zeK:∀(ls:List Tr) (k m:Nat),znc k ls=ae m→k≤m∧nbs ls+k=m∧ ∀(us:List Tr),m≤us.length→wts (fills us ls)+(m - k)=wts ls+wts ((us.drop k).take (m - k))∧ ∀u∈(us.drop k).take (m - k),u.depth≤dts (fills us ls)
 | [],k,m,h=>by
  rw[znc]at h;cases h;refine⟨au _,by rw[nbs];omega,λus _=>?_⟩
  rw[fN,jL,fills];exact⟨rfl,λu hu=>by cases hu⟩
 |l::ls,k,m,h=>by
  rw[znc]at h;cases q:l.ord k with
  |none=>rw[q]at h;cases h
  |some j=>
   rw[q]at h;obtain⟨h1,h2,h3⟩:=zhQ l k j q;obtain⟨g1,g2,g3⟩:=zeK ls j m h;refine⟨by omega,by rw[nbs];omega,λus hu=>?_⟩
   obtain⟨h4,h5⟩:=h3 us (by omega);obtain⟨g4,g5⟩:=g3 us hu;have e:(us.drop k).take (m - k)=(us.drop k).take (j - k)++(us.drop j).take (m - j):=by
    rw[show m - k=(j - k)+(m - j) by omega,jX,iL,show k+(j - k)=j by omega]
   rw[e,zpz,fills,wts,wts,dts];refine⟨by omega,λu hu=>?_⟩;rcases bb.mp hu with hu |hu
   ·have:=h5 u hu;omega
   ·have:=g5 u hu;omega
end
theorem zql:∀(L:Tr),L.nb≤L.weight:=λL=>by rw[←zlE];exact zkk L
theorem zoB:∀ls:List Tr,nbs ls≤wts ls
 | []=>by rw[nbs,wts];exact au _
 |l::ls=>by rw[nbs,wts];have:=zql l;have:=zoB ls;omega
section
variable {B:List Tn}
theorem Ort.fill (O:Ort B) {t:Tn}(ht:t∈B) {us:List Tr}(hl:us.length=t.2.1.nb):(t.2.1.fill us).weight+t.2.1.nb=t.2.1.weight+wts us∧1+wts us≤(t.2.1.fill us).weight∧1+dts us≤(t.2.1.fill us).depth:=by
 obtain⟨s,ls,e,_⟩:=O.inn t ht;have ho:=O.od t ht;obtain⟨_,h2,h3⟩:=zhQ _ _ _ ho;obtain⟨h4,_⟩:=h3 us (by omega);rw[eC,c8,cI (by omega)]at h4;have hw:1+t.2.1.nb≤t.2.1.weight:=by
  rw[e,Tr.nb,Tr.weight];have:=zoB ls;omega
 refine⟨h4,by omega,?_⟩
 rw[e]at ho hl⊢;rw[Tr.ord]at ho;obtain⟨_,_,g3⟩:=zeK _ _ _ ho;obtain⟨_,g5⟩:=g3 us (by omega);rw[eC,c8,cI (by omega)]at g5;rw[Tr.fill,Tr.depth];have:=zsB g5;omega
noncomputable def zr:Int→Nat:=λ_=>0
end
section
variable {B:List Tn}
mutual
noncomputable def Tr.ne (B:List Tn):Tr→Nat
 | .bl _=>0
 | .nd s ts=>(match zaw B s with
  |none=>0
  |some _=>1)+nes B ts
noncomputable def nes (B:List Tn):List Tr→Nat
 | []=>0
 |t::ts=>max (t.ne B) (nes B ts)
end
theorem zkC{t:Tr}:∀{ts:List Tr},t∈ts→t.ne B≤nes B ts
 |u::ts,h=>by
  rw[nes];rcases ax.mp h with rfl |h
  ·omega
  ·have:=zkC h;omega
theorem zgG{n:Nat}:∀{ts:List Tr},(∀t∈ts,t.ne B≤n)→nes B ts≤n
 | [],_=>by rw[nes];omega
 |t::ts,h=>by
  rw[nes];have:=h t (by simp);have:=zgG λu hu=>h u (aC _ hu);omega
mutual
theorem zhs (hB:∀t∈B,zbp t.1) {us:List Tr}:∀t:Tr,t.hb zbG→(t.fill us).ne B≤nes B us
 | .bl n,_=>by
  rw[Tr.fill,aY];cases e:us[n.toNat]? with
  |none=>simp [Tr.ne]
  |some u=>exact zkC (bp e)
 | .nd s ts,h=>by
  rw[Tr.hb]at h;rw[Tr.fill,Tr.ne,zay hB h.1];have:=zlI hB (us:=us) ts h.2;simpa using this
theorem zlI (hB:∀t∈B,zbp t.1) {us:List Tr}:∀ts:List Tr,hbs zbG ts→nes B (fills us ts)≤nes B us
 | [],_=>by rw[fills,nes];omega
 |t::ts,h=>by
  rw[hbs]at h;rw[fills,nes];have:=zhs hB (us:=us) t h.1;have:=zlI hB (us:=us) ts h.2;omega
end
mutual
theorem zte:∀(L:Tr) (k m:Nat),L.ord k=ae m→ ∀(us:List Tr),m≤us.length→ ∀u∈(us.drop k).take (m - k),u.ne B≤(L.fill us).ne B
 | .bl n,k,m,h,us,hu,u,hm=>by
  rw[Tr.ord]at h;split at h
  ·rename_i hn;cases h;have hk:k<us.length:=by omega
   have e:(us.drop k).take (k+1 - k)=[us[k]]:=by
    rw[show k+1 - k=1 by omega,eQ hk]
    rfl
   have f:(Tr.bl n).fill us=us[k]:=by
    rw[Tr.fill,hn,bU,aY,aJ hk];rfl
   rw[e,aV]at hm;rw[f,hm];exact au _
  ·cases h
 | .nd s ls,k,m,h,us,hu,u,hm=>by
  rw[Tr.ord]at h;have:=znM ls k m h us hu u hm;rw[Tr.fill,Tr.ne];omega
theorem znM:∀(ls:List Tr) (k m:Nat),znc k ls=ae m→ ∀(us:List Tr),m≤us.length→ ∀u∈(us.drop k).take (m - k),u.ne B≤nes B (fills us ls)
 | [],k,m,h,us,hu,u,hm=>by
  rw[znc]at h;cases h;rw[fN,jL]at hm;cases hm
 |l::ls,k,m,h,us,hu,u,hm=>by
  rw[znc]at h;cases q:l.ord k with
  |none=>rw[q]at h;cases h
  |some j=>
   rw[q]at h;obtain⟨h1,_,_⟩:=zhQ l k j q;obtain⟨g1,_,_⟩:=zeK ls j m h;have e:(us.drop k).take (m - k)=(us.drop k).take (j - k)++(us.drop j).take (m - j):=by
    rw[show m - k=(j - k)+(m - j) by omega,jX,iL,show k+(j - k)=j by omega]
   rw[e]at hm;rw[fills,nes];rcases bb.mp hm with hm |hm
   ·have:=zte l k j q us (by omega) u hm;omega
   ·have:=znM ls j m h us hu u hm;omega
end
theorem Ort.ne (O:Ort B) {t:Tn}(ht:t∈B) {us:List Tr}(hl:us.length=t.2.1.nb):nes B us≤(t.2.1.fill us).ne B:=zgG λu hu=>by
 refine zte _ _ _ (O.od t ht) us (by omega) u ?_;rw[eC,c8,cI (by omega)];exact hu
theorem zpZ{c:Int→Nat}{p:Pl}{ps:List Pl}(hp:p∈ps):(p.ev B c).ne B≤nes B (ps.map (Pl.ev B c)):=zkC (aM.mpr ⟨p,hp,rfl⟩)
theorem zuq{c d:Int→Nat}(b:BkOk ws ws B) (O:Ort B) (hc:One c) (hd:One d) {p:Pl}(h:PlOk ws B p):(p.ev B (ziE c d)).ne B≤(p.ev B c).ne B:=by
 induction h with
 | @sign b' h ps hh hp ih=>
  have:nes B (ps.map (Pl.ev B (ziE c d)))≤nes B (ps.map (Pl.ev B c)):=zgG λu hu=>by
   obtain⟨p,hp,rfl⟩:=aM.mp hu;exact bC (ih p hp) (zpZ hp)
  have e:=zay b.ti (b.sg h hh);rw[zbL,zbL,Tr.ne,Tr.ne,e];simpa using this
 | @turn k b' h ps t e hl b0 b1 hp ih=>
  have ht:t∈B:=bp e;have key:nes B (ps.map (Pl.ev B (ziE c d)))≤nes B (ps.map (Pl.ev B c)):=zgG λu hu=>by
   obtain⟨p,hp,rfl⟩:=aM.mp hu;exact bC (ih p hp) (zpZ hp)
  have l1:(ps.map (Pl.ev B c)).length=t.2.1.nb:=by rw[ap,hl]
  have low:nes B (ps.map (Pl.ev B c))+c b'≤(evT t (c b') (ps.map (Pl.ev B c))).ne B:=by
   have:=hc b' b0 b1;by_cases h1:c b'=1
   ·rw[h1];show _≤(Tr.nd t.1 _).ne B;rw[Tr.ne,zcJ b.nd ht];show _≤1+_;omega
   ·rw[show c b'=0 by omega]
    exact O.ne ht l1
  rw[zbj e,zbj e];refine bC ?_ low;have hp:ziE c d b'=if d b'=1 then 2 else c b':=rfl;rw[hp];by_cases dz:d b'=1
  ·rw[if_pos dz];have:=zhs b.ti (us:=ps.map (Pl.ev B (ziE c d))) t.2.2 ((b.ri t ht).hb b.sg);show(t.2.2.fill _).ne B≤_;omega
  ·rw[if_neg dz];have:=hc b' b0 b1;by_cases h1:c b'=1
   ·rw[h1];show(Tr.nd t.1 _).ne B≤_;rw[Tr.ne,zcJ b.nd ht];show 1+_≤_;omega
   ·rw[show c b'=0 by omega]
    have:=zhs b.ti (us:=ps.map (Pl.ev B (ziE c d))) t.2.1 (b.lf t ht).hb;show(t.2.1.fill _).ne B≤_;omega
end
mutual
theorem Mv.one{B:List Tn}:∀{n m:Nat}{a b c d:Tr},Mv B n a b c→Mv B m a b d→c=d
 |_,_,_,_,_,_, .nn h1 h2 h3,g=>by
  cases g with
  |nn g1 g2 g3=>rw[Mvs.one h3 g3]
  |ns g1 g2 g3 g4 g5=>rw[h2]at g2;cases g2
  |sn g1 g2 g3 g4=>rw[h1]at g1;cases g1
  |ss g1 g2 g3 g4=>rw[h1]at g1;cases g1
 |_,_,_,_,_,_, .ns h1 h2 h3 h4 h5,g=>by
  cases g with
  |nn g1 g2 g3=>rw[h2]at g2;cases g2
  |ns g1 g2 g3 g4 g5=>
   rw[h2]at g2;cases g2;rw[h3]at g3;cases g3;rw[Mvs.one h5 g5]
  |sn g1 g2 g3 g4=>rw[h1]at g1;cases g1
  |ss g1 g2 g3 g4=>rw[h1]at g1;cases g1
 |_,_,_,_,_,_, .sn h1 h2 h3 h4,g=>by
  cases g with
  |nn g1 g2 g3=>rw[h1]at g1;cases g1
  |ns g1 g2 g3 g4 g5=>rw[h1]at g1;cases g1
  |sn g1 g2 g3 g4=>
   rw[h1]at g1;cases g1;rw[h3]at g3;cases g3;rw[Mvs.one h4 g4]
  |ss g1 g2 g3 g4=>rw[h2]at g2;cases g2
 |_,_,_,_,_,_, .ss h1 h2 h3 h4,g=>by
  cases g with
  |nn g1 g2 g3=>rw[h1]at g1;cases g1
  |ns g1 g2 g3 g4 g5=>rw[h1]at g1;cases g1
  |sn g1 g2 g3 g4=>rw[h2]at g2;cases g2
  |ss g1 g2 g3 g4=>
   rw[h2]at g2;cases g2;rw[Mvs.one h4 g4]
theorem Mvs.one{B:List Tn}:∀{n m:Nat}{a b c d:List Tr},Mvs B n a b c→Mvs B m a b d→c=d
 |_,_,_,_,_,_, .nil,g=>by
  cases g;rfl
 |_,_,_,_,_,_, .cons h1 h2,g=>by
  cases g with
  |cons g1 g2=>rw[Mv.one h1 g1,Mvs.one h2 g2]
end
open Classical in
noncomputable def res (B:List Tn) (x y:Tr):Tr:=if h:∃z n,Mv B n x y z then choose h else x
theorem Mv.res{B:List Tn}{n:Nat}{x y z:Tr}(h:Mv B n x y z):res B x y=z:=by
 unfold L2.res;have e:∃z n,Mv B n x y z:=⟨z,n,h⟩;rw[dif_pos e];obtain⟨m,h'⟩:=Classical.choose_spec e;exact Mv.one h' h
structure Bk3 (ws:List Str) (B:List Tn):Prop where
  b:BkOk ws ws B
  O:Ort B
  lw:∀t∈B,t.2.1.hb λs=>s∈ws
structure Bk2 (ws:List Str) (B:List Tn):Prop extends Bk3 ws B where
  sl:zAl B
instance {ws:List Str}{B:List Tn}:Coe (Bk2 ws B) (Bk3 ws B):=⟨Bk2.toBk3⟩
section
variable {ws:List Str}{B:List Tn}{x y:Tr}{p:Pl}
theorem Bk3.wy (K:Bk3 ws B) {c:Int→Nat}{p:Pl}(h:PlOk ws B p):Wy ws B (p.ev B c):=by
 refine⟨?_,zyf _ (zxb K.b h)⟩
 induction h with
 | @sign b' h ps hh hp ih=>
  rw[zbL,Tr.hd,hds_iff];refine⟨.inl hh,λu hu=>?_⟩;obtain⟨p,hp,rfl⟩:=aM.mp hu;exact ih p hp
 | @turn k b' h ps t e hl b0 b1 hp ih=>
  have ht:t∈B:=bp e;have hu:∀u∈ps.map (Pl.ev B c),u.hd λs=>s∈ws∨ ∃t∈B,t.1=s:=λu hu=>by
   obtain⟨p,hp,rfl⟩:=aM.mp hu;exact ih p hp
  rw[zbj e];unfold evT;split
  ·exact zhY hu _ (zhC (λs hs=> .inl hs) _ (K.lw t ht)) (by rw[ap,hl];exact(K.b.lf t ht).fits)
  ·rw[Tr.hd,hds_iff];exact⟨.inr ⟨t,ht,rfl⟩,hu⟩
  ·exact zhY hu _ ((K.b.ri t ht).hb (λs hs=> .inl hs)) (by rw[ap,hl];exact(K.b.ri t ht).fits)
structure Two (ws:List Str) (B:List Tn) (x y:Tr):Prop where
  K:Bk3 ws B
  ex:∃p c d,Pk ws ws B p∧One c∧One d∧p.ev B c=x∧p.ev B d=y
theorem Two.symm (h:Two ws B x y):Two ws B y x:=by
 obtain⟨p,c,d,k,hc,hd,e1,e2⟩:=h.ex;exact⟨h.K,p,d,c,k,hd,hc,e2,e1⟩
structure Moved (ws:List Str) (B:List Tn) (x y z:Tr):Prop where
  wy:Wy ws B z
  sr:src B z=gol B y
  go:gol B z=gol B (res B y x)
  ne:z.ne B≤x.ne B
end
section
variable {ws:List Str}{B:List Tn}{x t:Tr}
structure Bd (t:Tr) (n:Nat):Prop where
  w:2 ^ n*t.weight≤400
  d:t.depth+3*n≤40
theorem zzn (b:BkOk ws ws B) {p:Pl}(h:PlOk ws B p):(p.ev B zr).ne B=0:=by
 induction h with
 | @sign b' h ps hh hp ih=>
  have:nes B (ps.map (Pl.ev B zr))≤0:=zgG λu hu=>by
   obtain⟨p,hp,rfl⟩:=aM.mp hu;rw[ih p hp];exact au _
  have e:=zay b.ti (b.sg h hh);rw[zbL,Tr.ne,e];show 0+_=0;omega
 | @turn k b' h ps t e hl b0 b1 hp ih=>
  have ht:t∈B:=bp e;have:nes B (ps.map (Pl.ev B zr))≤0:=zgG λu hu=>by
   obtain⟨p,hp,rfl⟩:=aM.mp hu;rw[ih p hp];exact au _
  have:=zhs b.ti (us:=ps.map (Pl.ev B zr)) t.2.1 (b.lf t ht).hb;rw[zbj e];show(t.2.1.fill _).ne B=0;omega
theorem Bk3.src (K:Bk3 ws B) (h:Wy ws B x):Wy ws B (src B x)∧L2.src B (src B x)=L2.src B x∧(L2.src B x).ne B=0∧gol B (L2.src B x)=L2.src B x:=by
 obtain⟨p,hp,_,rfl,_⟩:=zqR K.b K.O _ x x (au _) h h rfl;have e:L2.src B (p.ev B (byC 1))=p.ev B zr:=by
  show(p.ev B (byC 1)).mk B (λt=>t.2.1)=_;rw[zjs K.b hp];exact zew hp (zeo 1).src
 rw[e];refine⟨K.wy hp,?_,zzn K.b hp,?_⟩
 ·show(p.ev B zr).mk B (λt=>t.2.1)=_;rw[zjs K.b hp];rfl
 ·show(p.ev B zr).mk B (λt=>t.2.2)=_;rw[zfh K.b hp];rfl
theorem Bk3.gol (K:Bk3 ws B) (h:Wy ws B x):Wy ws B (gol B x)∧L2.src B (L2.gol B x)=L2.gol B x∧(L2.gol B x).ne B=0∧L2.gol B (L2.gol B x)=L2.gol B x:=by
 obtain⟨p,hp,_,rfl,_⟩:=zqR K.b K.O _ x x (au _) h h rfl;have e:L2.gol B (p.ev B (byC 1))=p.ev B (zdr (byC 1)):=zfh K.b hp;have tg:∀x,zdr (byC 1) x≠1:=λx=>by unfold zdr;split<;>omega
 have s:L2.src B (p.ev B (zdr (byC 1)))=p.ev B (zdr (byC 1)):=by
  show(p.ev B (zdr (byC 1))).mk B (λt=>t.2.1)=_;rw[zjs K.b hp];exact zew hp λb _ _=>by rw[zkD,if_neg (tg b)]
 have w:Wy ws B (p.ev B (zdr (byC 1))):=K.wy hp;rw[e];refine⟨w,s,?_,?_⟩
 ·have:=(K.src w).2.2.1;rwa [s]at this
 ·have:=(K.src w).2.2.2;rwa [s]at this
end
noncomputable def Roa (ws:List Str) (B:List Tn):Tr→List Tr→Prop
 |_,[]=>True
 |t,x::xs=>Wy ws B x∧src B x=t∧Roa ws B (gol B x) xs
noncomputable def nR (B:List Tn):List Tr→Nat
 | []=>0
 |x::xs=>x.ne B+nR B xs
noncomputable def zsg (B:List Tn):Tr→List Tr→List Tr
 |x,[]=>[x]
 |x,o::os=>x::zsg B (res B x o) os
noncomputable def zwV (B:List Tn):Tr→List Tr→List Tr
 |_,[]=>[]
 |x,o::os=>res B o x::zwV B (res B x o) os
noncomputable def zxF (B:List Tn):Tr→List Tr→Tr
 |x,[]=>x
 |x,o::os=>zxF B (res B x o) os
noncomputable def zxn (B:List Tn):List Tr→List Tr→List (List Tr)
 | [],_=>[]
 |x::xs,os=>zsg B x os::zxn B xs (zwV B x os)
noncomputable def zwe (B:List Tn):List Tr→List Tr→List (List Tr)
 | [],os=>[os]
 |x::xs,os=>os::zwe B xs (zwV B x os)
noncomputable def zyt (B:List Tn):List Tr→List Tr→List Tr
 | [],_=>[]
 |x::xs,os=>zxF B x os::zyt B xs (zwV B x os)
noncomputable def zyF (B:List Tn):List Tr→List Tr→List Tr
 | [],os=>os
 |x::xs,os=>zyF B xs (zwV B x os)
section
variable {B:List Tn}
theorem zro:∀(os:List Tr) (x:Tr),(zsg B x os).length=os.length+1
 | [],x=>rfl
 |o::os,x=>by rw[zsg,aW,zro os];rfl
end
structure Sh (ws:List Str) (B:List Tn) (t:Tr):Prop where
  wy:Wy ws B t
  q:src B t=t
section
variable {ws:List Str}{B:List Tn}
theorem Sh.cases (K:Bk3 ws B) {t:Tr}(h:Sh ws B t):∃s ts,t= .nd s ts∧s∈ws∧zaw B s=none∧ ∀x∈ts,Sh ws B x:=by
 rcases h.wy.cases K.b with⟨s,ts,rfl,hs,e,k⟩ |⟨u,ts,hu,rfl,e,hl,k⟩
 ·have q:=h.q;rw[show src B (.nd s ts)=_ from zcC e]at q;injection q with _ q;refine⟨s,ts,rfl,hs,e,λx hx=>⟨k x hx,?_⟩⟩;obtain⟨i,hi,rfl⟩:=ic hx;have:=congrArg (λl=>l[i]?) q;simp only[bo,aJ hi]at this;exact aI this
 ·have q:=h.q;rw[show src B (.nd u.1 ts)=_ from zbD e]at q;obtain⟨s0,l0,e0,_⟩:=K.O.inn u hu;have hb:=(K.b.lf u hu).hb;rw[e0,Tr.hb]at hb;rw[e0,Tr.fill]at q;injection q with q _;exact absurd q (zdW hb.1 (K.b.ti u hu))
def zAC (B:List Tn) (wn:List (List Int)) (p:List Int) (t:Tr):Prop:=∀q∈wn,∀e v,q=p++e→t.at e=ae v→(zdx B v).isSome=true
theorem zof{s:Str}{ts:List Tr}{i:Nat}{u:Tr}(h:ts[i]? =ae u) (e:List Int):(Tr.nd s ts).at ((i:Int)::e)=u.at e:=by
 rw[Tr.at,if_neg (by omega),bU,h]
end
structure At (S0 S:Sto) (d o b:Addr) (xs:List Tr):Prop where
  d:b≠d
  o:b≠o
  e:S b=ae (.lst (xs.map enc))
  z:S0 b=none
noncomputable abbrev Ats (S0 S:Sto) (d o:Addr) (bs:List Addr) (xss:List (List Tr)):Prop:=bN (At S0 S d o) bs xss
section
variable {B:List Tn}{d o:Addr}{xs os:List Tr}{S:Sto}
structure Grd (S0 S:Sto) (B:List Tn) (xs os:List Tr) (d o:Addr):Prop where
  sub:Sub S0 S
  d0:S0 d=none
  o0:S0 o=none
  ne:d≠o
  ex:∃ds rs,S d=ae (.lst (ds.map W.ref))∧S o=ae (.lst (rs.map W.ref))∧Ats S0 S d o ds (zxn B xs os)∧Ats S0 S d o rs (zwe B xs os)
end
noncomputable def opl (B:List Tn) (t:Tr):List (List Int):=(t.op B []).map λx=>x.1
theorem Sh.hdT{ws:List Str}{B:List Tn}{t:Tr}(h:Sh ws B t):t.hd λ_=>True:=zff (λ_ _=>trivial) _ h.wy.hd
theorem Sh.wn{ws:List Str}{B:List Tn}{t:Tr}(h:Sh ws B t) {wn:List (List Int)}(hw:∀q∈wn,q∈opl B t):zAC B wn [] t:=by
 intro q hq e v he hv;rw[aN]at he;subst he;obtain⟨x,hx,rfl⟩:=aM.mp (hw q hq);rw[←znH B t [] (zex _ h.hdT)]at hx;obtain⟨y,hy,hx⟩:=gi.mp hx;unfold zvv at hx;obtain⟨u,hu,rfl⟩:=aM.mp hx;have:=(zuB hy).1;rw[this]at hv;cases hv;cases e:zdx B y.2 with
 |none=>rw[e]at hu;cases hu
 |some _=>rfl
structure Rds (S:Sto) (ws:List Str) (B:List Tn) (ab:Addr) (t:Tr) (l1 l2:Addr) (xs os:List Tr):Prop where
  K:Bk2 ws B
  fb:S ab=ae (.lst (B.map zbi))
  sh:Sh ws B t
  bd:Bd t 4
  f1:S l1=ae (.lst (xs.map enc))
  f2:S l2=ae (.lst (os.map enc))
  r1:Roa ws B t xs
  r2:Roa ws B t os
  n:nR B xs+nR B os≤4
  x3:xs.length≤3
  o3:os.length≤3
  hB:B.length≤1000
theorem Rds.symm{S:Sto}{ws:List Str}{B:List Tn}{ab:Addr}{t:Tr}{l1 l2:Addr}{xs os:List Tr}(h:Rds S ws B ab t l1 l2 xs os):Rds S ws B ab t l2 l1 os xs:=⟨h.K,h.fb,h.sh,h.bd,h.f2,h.f1,h.r2,h.r1,by have:=h.n;omega,h.o3,h.x3,h.hB⟩
section
variable {ws:List Str}{B:List Tn}{x t:Tr}
theorem zkh{y:Tr}(K:Bk3 ws B) (hx:Wy ws B x) (hy:Wy ws B y) (e:src B x=src B y):∃p,PlOk ws B p∧p.ev B (byC 1)=x∧p.ev B (byC 2)=y∧p.ev B zr=src B x:=by
 obtain⟨p,hp,_,e1,e2⟩:=zqR K.b K.O _ x y (au _) hx hy e;refine⟨p,hp,e1,e2,?_⟩;rw[←e1];show _=(p.ev B (byC 1)).mk B λt=>t.2.1;rw[zjs K.b hp];exact zew hp λb h0 h1=>((zeo 1).src b h0 h1).symm
theorem zow:One zr:=λ_ _ _=>aX _
theorem Bk3.plan1 (K:Bk3 ws B) (h:Wy ws B x):∃p,PlOk ws B p∧p.ev B (byC 1)=x∧p.ev B zr=L2.src B x:=by
 obtain⟨p,hp,e1,_,hs⟩:=zkh K h h rfl;exact⟨p,hp,e1,hs⟩
theorem Bk3.src_res (K:Bk3 ws B) (h:Wy ws B x):res B (L2.src B x) x=L2.gol B x:=by
 obtain⟨p,hp,e1,hs⟩:=K.plan1 h;have m:=(zfi (c:=zr) (d:=byC 1) K.b K.O.mt (zfb zow (zeo 1)) hp).res;rw[hs,e1]at m;rw[m,←e1];show _=(p.ev B (byC 1)).mk B λt=>t.2.2;rw[zfh K.b hp];refine zew hp λb h0 h1=>?_;have:=zeo 1 b h0 h1;unfold ziE zdr zr;split<;>omega
end
section
variable {ws:List Str}{B:List Tn}{x t:Tr}
theorem Wy.len (K:Bk3 ws B) (h:Wy ws B x):x.hd λs=>s.length≤1000:=zff (λs hs=>by
 rcases hs with hs |⟨t,ht,rfl⟩
 ·exact zsj (K.b.sg s hs)
 ·exact znh (K.b.ti t ht)) _ h.hd
end
section
variable {ws:List Str}{B:List Tn}
theorem Bk3.moved (K:Bk3 ws B) {x y:Tr}(hx:Wy ws B x) (hy:Wy ws B y) (e:L2.src B x=L2.src B y):Moved ws B x y (res B x y):=by
 obtain⟨p,hp,rfl,rfl,_⟩:=zkh K hx hy e;have o1:=zeo 1;have o2:=zeo 2;have m1:=(zfi (c:=byC 1) (d:=byC 2) K.b K.O.mt (zfb o1 o2) hp).res;have m2:=(zfi (c:=byC 2) (d:=byC 1) K.b K.O.mt (zfb o2 o1) hp).res;rw[m1];refine⟨K.wy hp,?_,?_,zuq K.b K.O o1 o2 hp⟩
 ·show(p.ev B (ziE (byC 1) (byC 2))).mk B (λt=>t.2.1)=(p.ev B (byC 2)).mk B λt=>t.2.2;rw[zjs K.b hp,zfh K.b hp];refine zew hp λx h0 h1=>?_;have a:=zoN 1 x;have b:=zoN 2 x;unfold zkD zdr ziE;generalize byC 1 x=m at a⊢;generalize byC 2 x=n at b⊢;obtain rfl |rfl:m=0∨m=1:=by omega
  all_goals obtain rfl |rfl:n=0∨n=1:=by omega
  all_goals rfl
 ·rw[m2];show(p.ev B (ziE (byC 1) (byC 2))).mk B (λt=>t.2.2)=(p.ev B (ziE (byC 2) (byC 1))).mk B λt=>t.2.2;rw[zfh K.b hp,zfh K.b hp];refine zew hp λx h0 h1=>?_;have a:=zoN 1 x;have b:=zoN 2 x;unfold zdr ziE;generalize byC 1 x=m at a⊢;generalize byC 2 x=n at b⊢;obtain rfl |rfl:m=0∨m=1:=by omega
  all_goals obtain rfl |rfl:n=0∨n=1:=by omega
  all_goals rfl
end
mutual
noncomputable def Tr.wd:Tr→Prop
 | .bl _=>True
 | .nd _ ts=>ts.length≤1000∧wds ts
noncomputable def wds:List Tr→Prop
 | []=>True
 |t::ts=>t.wd∧wds ts
end
theorem wds_iff:∀{ts:List Tr},wds ts↔ ∀t∈ts,t.wd
 | []=>by simp [wds]
 |t::ts=>by simp [wds,wds_iff (ts:=ts)]
theorem ztW{t:Tr}(h:t.wd):t.kids.length≤1000:=by
 cases t with
 |bl n=>simp [Tr.kids]
 |nd s ts=>simpa [Tr.kids]using h.1
theorem zur{ts:List Tr}(h:∀x∈ts,x.wd):∀x∈ts.flatMap Tr.kids,x.wd:=λx hx=>by
 obtain⟨t,ht,hk⟩:=gi.mp hx;have:=h t ht;cases t with
 |bl n=>simp [Tr.kids]at hk
 |nd s us=>exact wds_iff.mp this.2 x (by simpa [Tr.kids]using hk)
theorem zgn{r:Nat}{a b:Addr}{ps:List W}{E:WX}{D:WEnds}{x0:Option W}(hba:b≠a):∀(ts:List Tr) {S:Sto}{us:List Tr}{x2:Option W},S a=ae (.lst (encs us))→S b=ae (.lst ps)→(∀t∈ts,t.kids.length≤1000)→us.length+1000*ts.length≤500000→
  (∀x2,D.nx [x0,ae (.ref a),x2] (put S a (.lst (encs (us++ts.flatMap Tr.kids)))))→
  forL (wGN 2) (zbn (r+1) zbh) E D (λS'=>S' b=ae (.lst ps)) (encs ts) [x0,ae (.ref a),x2] S
 | [],S,us,x2,ha,hb,hA,hl,h=>by
  have:=h x2;simp only[fD,bv,zdB ha]at this;simpa [encs,forL]using this
 |t::ts,S,us,x2,ha,hb,hA,hl,h=>by
  simp only[aW]at hl;have hk:=hA t aK;simp only[encs];refine zco λN hN=>?_;simp only[zbn];walk_at "wp";simp only[zal ha,true_and];refine zeB ?_;walk_at "wp";rw[zal ha];refine⟨zah (by rw[zaP,zaP];omega),hN _ _ _ .refl (by rw[zaI hba];exact hb) ?_⟩;rw[←zep];refine zgn hba ts zag (by rw[zaI hba];exact hb) (λu hu=>hA u (aC _ hu)) (by rw[aZ];omega) λx2=>?_;rw[zaM];have:=h x2;rw[dU,←bw]at this;exact this
theorem zik{ts:List Tr}{b:Addr}{r:Nat}{S:Sto}{Q:WK}{E:Str→Sto→Prop}(hb:S b=ae (.lst (encs ts))) (hA:∀t∈ts,t.kids.length≤1000) (hw:ts.length≤400) (h:∀a,S a=none→Q (.ref a) (put S a (.lst (encs (ts.flatMap Tr.kids))))):zbf (r+2) [.ref b] S Q E:=by
 rw[zbf];walk_at "wp";refine⟨aX _,λa ha=>?_⟩;have hba:=zqX hb ha;rw[zal (keep hb ha)];refine zgn (us:=[]) hba ts (by simp [zag,encs]) (keep hb ha) hA (by simp;omega) λx2=>?_;rw[zaM];walk_at "wp";exact⟨_, .refl,h a ha⟩
theorem zkO{t:Tr}{r:Nat}{S:Sto}{Q:WK}{E:Str→Sto→Prop}(hA:t.wd) (h:Q (.bl t.small) S):zcm (r+3) [enc t] S Q E:=by
 rw[zcm];walk_at "wp";refine⟨zah (by decide),λa ha=>?_⟩;refine⟨λm σ S'=>∃(ts:List Tr) (k d:Nat) (b:Addr),m=wts ts∧(∀x∈ts,x.wd)∧k+wts ts=t.weight∧d+dts ts=t.depth∧k≤400∧d≤40∧S b=none∧S'=put S b (.lst (encs ts))∧σ=[ae (enc t),ae (.int k),ae (.int d),ae (.ref b)],⟨_,[t],0,0,a,rfl,(λx hx=>by rw[aV.mp hx];exact hA),by simp [wts],by simp [dts],by decide,by decide,ha,by simp [encs],rfl⟩,?_⟩
 rintro m σ S' ⟨ts,k,d,b,rfl,hds,hwt,hk,hk4,hd4,hb,rfl,rfl⟩;walk_at "wp";cases ts with
 |nil=>
  simp only[encs,jR];walk_at "wp";simp only[dts,wts,Nat.add_zero]at hk hwt;have e:t.small=true:=by unfold Tr.small;rw[decide_eq_true (by omega),decide_eq_true (by omega)];rfl
  rw[e]at h;exact⟨_, .put .refl hb,h⟩
 |cons u us=>
  have hne:(encs (u::us)).isEmpty=false:=by simp [encs]
  rw[hne];have hfl:=zhX (u::us);have hdf:=zhA (ts:=u::us) (by simp);have hlw:=zbg (u::us);simp only[zdP];walk_at "wp";rw[zaP];have no:400<t.weight∨40<t.depth→ ∃S'',Sub S'' (put S b (Ob.lst (encs (u::us))))∧Q (W.bl false) S'':=λz=>by
   have e:t.small=false:=by
    unfold Tr.small;rcases z with z |z
    ·rw[decide_eq_false (by omega)];rfl
    ·rw[decide_eq_false (p:=t.depth≤40) (by omega),eG]
   rw[e]at h;exact⟨_, .put .refl hb,h⟩
  split
  ·exact no (.inl (by omega))
  ·split
   ·exact no (.inr (by omega))
   ·refine zik zag (λx hx=>ztW (hds x hx)) (by omega) λc hc=>?_;obtain⟨hc1,hc2⟩:=zct hc;refine⟨wts ((u::us).flatMap Tr.kids),put S c (.lst (encs ((u::us).flatMap Tr.kids))),by simp only[aW]at hfl;omega, .put2 (.put .refl hb),_,k+(u::us).length,d+1,c,rfl,zur hds,by omega,by omega,by omega,by omega,hc1,rfl,?_⟩
    push_cast
    rfl
structure SidesW (g:Tn→Tr) (B:List Tn):Prop where
  fits:∀t∈B,(g t).fits t.2.1.nb
  dp:∀t∈B,(g t).depth≤4
  wt:∀t∈B,(g t).weight≤20
section
variable {S:Sto}{a:Addr}{B:List Tn}{n:Int}
theorem zjN (ha:S a=ae (.lst (B.map zbi))) (hn:n=1∨n=2) (hg:SidesW (zat n) B):∀(d:Nat) {t:Tr}{r:Nat}{Q:WK}{E:Str→Sto→Prop},t.depth≤d→d+10≤r→t.ar B→t.weight≤1000→Q (enc (t.mk B (zat n))) S→zba (r+1) [.ref a,enc t, .int n] S Q E
 |0,t,r,Q,E,hd,hr,hh,hw,h=>by have:=zaX t;omega
 |d+1, .bl k,r,Q,E,hd,hr,hh,hw,h=>by simp [Tr.ar]at hh
 |d+1, .nd s ts,r,Q,E,hd,hr,hh,hw,h=>by
  simp only[Tr.depth]at hd;simp only[Tr.weight]at hw;simp only[Tr.ar]at hh;have hk:=zbg ts;obtain⟨r,rfl⟩:∃r',r=r'+1:=⟨r - 1,by omega⟩
  rw[zba];simp only[enc];walk_at "wp";rw[zaE];refine zaS (λσ=>∃x,σ=[x,ae (.ref a),ae (.int n)]) enc (λt=>enc (t.mk B (zat n))) trivial ts [] _ ⟨none,rfl⟩ (by simp;omega) (λx hx σ R hI hR=>?_) ?_
  ·obtain⟨y,rfl⟩:=hI;have hdx:=zbw hx;have hwx:=zaL hx;simp only[zdg];walk_at "wp";exact zjN ha hn hg d (by omega) (by omega) (ars_iff.mp hh.2 x hx) (by omega) (hR _ _ ⟨_,rfl⟩ .refl)
  ·rw[aN];intro q hq;have eu:(ts.map λt=>enc (t.mk B (zat n)))=encs (ts.map (Tr.mk B (zat n))):=by rw[zaE,bx];rfl
   rw[eu];have fq:put S q (Ob.lst (encs (ts.map (Tr.mk B (zat n))))) q=ae (.lst (encs (ts.map (Tr.mk B (zat n))))):=zag;have fa:=keep (x:=Ob.lst (encs (ts.map (Tr.mk B (zat n))))) ha hq;have sub:Sub S (put S q (Ob.lst (encs (ts.map (Tr.mk B (zat n)))))):= .put .refl hq;generalize put S q (Ob.lst (encs (ts.map (Tr.mk B (zat n)))))=S1 at fq fa sub⊢;refine zbO fa ?_;cases e:zaw B s with
   |none=>
    rw[zgi e]at h;simp only[zdf]
    try walk_at "wp"
    try rw[zal fq]
    rw[zaP,ap];simp only[enc]at h;exact⟨zah (by decide),zah (by omega),_,sub,h⟩
   |some t=>
    have ht:t∈B:=b6 e;have ee:zdf (ae t)= .tup [.str t.1,enc t.2.1,enc t.2.2]:=rfl;rw[zgw e]at h;rw[ee]
    try walk_at "wp"
    rw[zkA t hn];dsimp only;have hgw:=hg.wt t ht;exact zeA 4 (hg.dp t ht) (by omega) fq (by rw[ap,hh.1 t e];exact hg.fits t ht) (by omega) ⟨_,sub,h⟩
theorem zsa{t:Tr}{r:Nat}{Q:WK}{E:Str→Sto→Prop}(ha:S a=ae (.lst (B.map zbi))) (hg:SidesW (zat 2) B) (hd:t.depth≤40) (hr:60≤r) (hh:t.ar B) (hw:t.weight≤1000) (hwd:(t.mk B (zat 2)).wd)
  (h1:(t.mk B (zat 2)).small=true→Q (enc (t.mk B (zat 2))) S) (h2:(t.mk B (zat 2)).small=false→E "TooGreat" S):zfY (r+1) [.ref a,enc t] S Q E:=by
 obtain⟨r,rfl⟩:∃r',r=r'+5:=⟨r - 5,by omega⟩
 rw[zfY];walk_at "wp";refine zjN ha (.inr rfl) hg 40 (r:=r+4) hd (by omega) hh hw ?_;rw[zbT];walk_at "wp";refine zkO (r:=r+1) hwd ?_;cases e:(t.mk B (zat 2)).small with
 |true=>
  try walk_at "wp"
  exact⟨_, .refl,_, .refl,h1 e⟩
 |false=>
  try walk_at "wp"
  try rw[zrj]
  try walk_at "wp"
  exact⟨zah (by decide),h2 e⟩
end
theorem zhd (us:List Tr):∀ts:List Tr,fills us ts=ts.map (Tr.fill us)
 | []=>by simp [fills]
 |t::ts=>by rw[fills,zhd us ts];rfl
section
variable {t:Tn}
theorem zhj (t:Tr):t.small=false↔((400:Int)<t.weight∨(40:Int)<t.depth):=by
 unfold Tr.small;rw[Bool.and_eq_false_iff,decide_eq_false_iff_not,decide_eq_false_iff_not];omega
end
noncomputable def stk (x:Tr):List Str→Tr
 | []=>x
 |h::hs=> .nd h [stk x hs]
mutual
theorem zlU{us:List Tr}(hu:∀u∈us,u.wd):∀t:Tr,t.weight≤1000→(t.fill us).wd
 | .bl n,h=>by
  rw[Tr.fill,aY];cases e:us[n.toNat]? with
  |none=>exact trivial
  |some u=>exact hu u (bp e)
 | .nd s ts,h=>by
  rw[Tr.weight]at h;have:=zbg ts;rw[Tr.fill];refine⟨?_,zjI hu ts (by omega)⟩;rw[zhd,ap];omega
theorem zjI{us:List Tr}(hu:∀u∈us,u.wd):∀ts:List Tr,wts ts≤1000→wds (fills us ts)
 | [],h=>by rw[fills];exact trivial
 |t::ts,h=>by
  rw[wts]at h;rw[fills];exact⟨zlU hu t (by omega),zjI hu ts (by omega)⟩
end
mutual
theorem zxp{B:List Tn}{g:Tn→Tr}(hg:∀t∈B,(g t).weight≤1000):∀t:Tr,t.weight≤1000→(t.mk B g).wd
 | .bl n,h=>by rw[Tr.mk];exact trivial
 | .nd s ts,h=>by
  rw[Tr.weight]at h;have hl:=zbg ts;have ih:=zsO hg ts (by omega);rw[zfa]at ih;cases e:zaw B s with
  |none=>
   rw[zgi e];exact⟨by rw[ap];omega,ih⟩
  |some u=>
   rw[zgw e];exact zlU (wds_iff.mp ih) _ (hg u (b6 e))
theorem zsO{B:List Tn}{g:Tn→Tr}(hg:∀t∈B,(g t).weight≤1000):∀ts:List Tr,wts ts≤1000→wds (mks B g ts)
 | [],h=>by rw[mks];exact trivial
 |t::ts,h=>by
  rw[wts]at h;rw[mks];exact⟨zxp hg t (by omega),zsO hg ts (by omega)⟩
end
theorem zeX{f:Tr→Tr}:∀as:List Tr,(∀x∈as,x.weight≤(f x).weight)→wts as≤wts (as.map f)
 | [],h=>by simp [wts]
 |x::as,h=>by
  have:=zeX as λy hy=>h y (aC _ hy);have:=h x aK;rw[aB,wts,wts];omega
theorem zfd{f:Tr→Tr}:∀as:List Tr,(∀x∈as,x.depth≤(f x).depth)→dts as≤dts (as.map f)
 | [],h=>by simp [dts]
 |x::as,h=>by
  have:=zfd as λy hy=>h y (aC _ hy);have:=h x aK;rw[aB,dts,dts];omega
section
variable {ws:List Str}{B:List Tn}
theorem zpY (K:Bk3 ws B):∀(n:Nat) (x:Tr),x.weight≤n→Wy ws B x→x.weight≤(src B x).weight∧x.depth≤(src B x).depth
 |0,x,hn,h=>by have:=zbH x;omega
 |n+1,x,hn,h=>by
  rcases h.cases K.b with⟨s,as,rfl,hs,e,hk⟩ |⟨t,as,ht,rfl,e,hl,hk⟩
  ·rw[Tr.weight]at hn;have ih:∀y∈as,y.weight≤(src B y).weight∧y.depth≤(src B y).depth:=λy hy=>zpY K n y (by have:=zaL hy;omega) (hk y hy);have h1:=zeX (f:=src B) as λy hy=>(ih y hy).1;have h2:=zfd (f:=src B) as λy hy=>(ih y hy).2;show _≤(Tr.mk B _ (Tr.nd s as)).weight∧_≤(Tr.mk B _ (Tr.nd s as)).depth;rw[zcC e,Tr.weight,Tr.weight,Tr.depth,Tr.depth];exact⟨eB h1 1,eB h2 1⟩
  ·rw[Tr.weight]at hn;have ih:∀y∈as,y.weight≤(src B y).weight∧y.depth≤(src B y).depth:=λy hy=>zpY K n y (by have:=zaL hy;omega) (hk y hy);have h1:=zeX (f:=src B) as λy hy=>(ih y hy).1;have h2:=zfd (f:=src B) as λy hy=>(ih y hy).2;obtain⟨_,g1,g2⟩:=K.O.fill ht (us:=as.map (src B)) (by rw[ap,hl]);show _≤(Tr.mk B _ (Tr.nd t.1 as)).weight∧_≤(Tr.mk B _ (Tr.nd t.1 as)).depth;rw[zbD e,Tr.weight,Tr.depth];exact⟨bC (eB h1 1) g1,bC (eB h2 1) g2⟩
def zzm (B:List Tn) (wn:List (List Int)) (p:List Int) (t:Tr):Prop:=∀e v,t.at e=ae v→(p++e∈wn↔(zdx B v).isSome=true)
theorem Sh.all{t:Tr}(h:Sh ws B t):zzm B (opl B t) [] t:=λe v hv=>by
 have ft:=zex (m:=0) _ h.hdT;rw[aN];constructor
 ·intro he;exact h.wn (λq hq=>hq) e he e v (by simp) hv
 ·intro ho;obtain⟨u,ho⟩:=eM.mp ho;have m:=zsv t [] e v hv;rw[aN]at m;unfold opl;rw[←znH B t [] ft];refine aM.mpr ⟨(e,u.1),gi.mpr ⟨(e,v),m,?_⟩,rfl⟩;unfold zvv;rw[ho];simp
structure Ful (ws:List Str) (B:List Tn) (t u:Tr):Prop where
  wi:Wi B (opl B t) t.depth [] t u
  sr:src B u=t
  wy:Wy ws B u
  us:u.us B []=t.op B []
open Classical in
noncomputable def fw (ws:List Str) (B:List Tn) (t:Tr):Tr:=if h:∃u,Ful ws B t u then choose h else t
noncomputable def hh (ws:List Str) (B:List Tn) (t:Tr):Nat→Tr
 |0=>t
 |k+1=>gol B (fw ws B (hh ws B t k))
noncomputable def wys (ws:List Str) (B:List Tn) (t:Tr) (k:Nat):List Tr:=(ba k).map λi=>fw ws B (hh ws B t i)
end
theorem zfB{t:Tr}(h:t.small=true):t.weight≤400∧t.depth≤40:=by
 have no:¬t.small=false:=by rw[h];simp
 constructor
 ·rcases Nat.lt_or_ge 400 t.weight with z |z
  ·exact absurd ((zhj t).mpr (.inl (by omega))) no
  ·exact z
 ·rcases Nat.lt_or_ge 40 t.depth with z |z
  ·exact absurd ((zhj t).mpr (.inr (by omega))) no
  ·exact z
structure WyF (ws:List Str) (B:List Tn) (x u:Tr):Prop where
  f:Ful ws B x u
  wt:u.weight≤400
  dp:u.depth≤40
  ar:u.ar B
  hd:u.hd λ_=>True
  wd:(u.mk B (zat 2)).wd
section
variable {w0 w1 w2 w3 w4 w5:Str}{tt:List Str}{B:List Tn}{t:Tr}
theorem BookOk.bk3 (b:BookOk w0 w1 w2 w3 w4 w5 tt B) (T:Titles tt) (G:Signs w0 w1 w2 w3 w4 w5):Bk3 [w0,w1,w2,w3,w4,w5] B:=by
 have k:=b.bk T G;refine⟨⟨k.ti,k.nd,k.sg,λx hx=>hx,k.lf,k.ri⟩,b.ort G,λt ht=>?_⟩;obtain⟨n,z |z⟩:=b.mem_lefts ht
 ·exact(zeN (P:=λs=>s∈ [w0,w1,w2,w3,w4,w5]) (by simp) (by simp) (by simp) _ z).hb
 ·exact(zeN (P:=λs=>s∈ [w0,w1,w2,w3,w4,w5]) (by simp) (by simp) (by simp) _ z).hb
end
theorem zpt{d:Nat}:∀{ts:List Tr},(∀x∈ts,x.depth≤d)→dts ts≤d
 | [],_=>by simp [dts]
 |t::ts,h=>by
  have h1:=h t aK;have h2:=zpt (ts:=ts) λx hx=>h x (aC _ hx);rw[dts];omega
theorem zsA{B:List Tn}(O:Ort B) {t:Tn}(ht:t∈B) {s:Str}{ts ms:List Tr}(h:t.2.1.mt (.nd s ts)=ae ms):dts ms≤dts ts:=by
 obtain⟨s0,l0,e0,_⟩:=O.inn t ht;rw[e0,Tr.mt]at h;split at h
 ·exact zpt (zoi _ _ _ h)
 ·cases h
mutual
theorem Mv.bd{B:List Tn}(O:Ort B):∀{n:Nat}{x y z:Tr},Mv B n x y z→Mv B x.depth x y z
 |_,_,_,_, .nn a b m=>by
  rw[Tr.depth,dh];exact .nn a b (Mvs.bd O m)
 |_,_,_,_, .ns a b c d m=>by
  rw[Tr.depth,dh];exact .ns a b c d ((Mvs.bd O m).monoA _ (zsA O (b6 b) c))
 |_,_,_,_, .sn a b c m=>by
  rw[Tr.depth,dh];exact .sn a b c (Mvs.bd O m)
 |_,_,_,_, .ss a b c m=>by
  rw[Tr.depth,dh];exact .ss a b c (Mvs.bd O m)
theorem Mvs.bd{B:List Tn}(O:Ort B):∀{n:Nat}{xs ys zs:List Tr},Mvs B n xs ys zs→Mvs B (dts xs) xs ys zs
 |_,_,_,_, .nil=> .nil
 |_,_,_,_, .cons a b=>by
  rw[dts];exact .cons ((Mv.bd O a).monoA _ (by omega)) ((Mvs.bd O b).monoA _ (by omega))
end
section
variable {ws:List Str}{B:List Tn}{x y:Tr}{a:Addr}{r:Nat}{S:Sto}{Q:WK}{E:Str→Sto→Prop}
theorem Bk3.mv (K:Bk3 ws B) (hx:Wy ws B x) (hy:Wy ws B y) (e:L2.src B x=L2.src B y):Mv B x.depth x y (res B x y):=by
 obtain⟨p,hp,rfl,rfl,_⟩:=zkh K hx hy e;have m:=zfi (c:=byC 1) (d:=byC 2) K.b K.O.mt (zfb (zeo 1) (zeo 2)) hp;have m1:=m.res;rw[m1];exact m.bd K.O
theorem Bk3.fitw (K:Bk3 ws B) (hx:Wy ws B x) (hs:(L2.src B x).small=true):x.depth≤40∧x.weight≤400∧x.ar B∧x.hd λ_=>True:=by
 obtain⟨g1,g2⟩:=zpY K _ _ (au _) hx;obtain⟨h1,h2⟩:=zfB hs;exact⟨by omega,by omega,hx.ar,zff (λ_ _=>trivial) _ hx.hd⟩
theorem Bk3.gW (K:Bk3 ws B):SidesW (zat 2) B:=⟨λt ht=>(K.b.ri t ht).fits,λt ht=>(K.b.ri t ht).dp,λt ht=>bC (K.b.ri t ht).wt (by decide)⟩
theorem Bk3.okmv (K:Bk3 ws B):∀t∈B,t.2.1.depth≤4∧t.2.1.weight≤100∧t.2.2.depth≤4∧t.2.2.weight≤100∧t.2.2.fits t.2.1.nb:=λt ht=>by
 have h1:=K.b.lf t ht;have h2:=K.b.ri t ht;have h3:=h1.wt;have h4:=h1.nb;have h5:=h2.wt;exact⟨h1.dp,by omega,h2.dp,by omega,h2.fits⟩
structure Cel (ws:List Str) (B:List Tn) (x y:Tr):Prop where
  K:Bk3 ws B
  wx:Wy ws B x
  wy:Wy ws B y
  e:src B x=src B y
  sm:(src B y).small=true
theorem Cel.symm (h:Cel ws B x y):Cel ws B y x:=⟨h.K,h.wy,h.wx,h.e.symm,by rw[h.e];exact h.sm⟩
theorem Cel.ok_move (h:Cel ws B x y) (ha:S a=ae (.lst (B.map zbi))) (hr:60≤r) (q:Q (enc (res B x y)) S):zcO (r+1) [.ref a,enc x,enc y] S Q E:=by
 obtain⟨d1,w1,_,h1⟩:=h.K.fitw h.wx (by rw[h.e];exact h.sm);obtain⟨d2,w2,_,h2⟩:=h.K.fitw h.wy h.sm;exact zli h.K.okmv x.depth ha (h.K.mv h.wx h.wy h.e) (by omega) h1 h2 (by omega) (by omega) q
theorem Bk3.ok_goalX (K:Bk3 ws B) (hx:Wy ws B x) (hs:(L2.src B x).small=true) (ha:S a=ae (.lst (B.map zbi))) (hr:60≤r) (h1:(L2.gol B x).small=true→Q (enc (L2.gol B x)) S) (h2:(L2.gol B x).small=false→E "TooGreat" S):zfY (r+1) [.ref a,enc x] S Q E:=by
 obtain⟨d1,w1,a1,_⟩:=K.fitw hx hs;have e2:x.mk B (zat 2)=L2.gol B x:=by rw[zzq]
 refine zsa ha K.gW d1 hr a1 (by omega) (zxp (λt ht=>bC (K.gW.wt t ht) (by decide)) _ (by omega)) (λz=>?_) λz=>?_
 ·rw[e2]at z⊢;exact h1 z
 ·rw[e2]at z;exact h2 z
end
mutual
noncomputable def Tr.sg:Tr→Nat
 | .bl _=>0
 | .nd _ ts=>1+sgs ts
noncomputable def sgs:List Tr→Nat
 | []=>0
 |t::ts=>t.sg+sgs ts
end
mutual
noncomputable def Tr.sd:Tr→Nat
 | .bl _=>0
 | .nd _ ts=>1+sds ts
noncomputable def sds:List Tr→Nat
 | []=>0
 |t::ts=>max t.sd (sds ts)
end
mutual
noncomputable def Tr.nm:Tr→List Int
 | .bl n=>[n]
 | .nd _ ts=>nms ts
noncomputable def nms:List Tr→List Int
 | []=>[]
 |t::ts=>t.nm++nms ts
end
structure RX (t:Tr):Prop where
  sg:t.sg≤3
  sd:t.sd≤3
  ct:∀n,t.nm.count n≤2
theorem zxi{l:List Int}(h:∀n∈l,l.count n≤2):∀n,l.count n≤2:=λn=>by
 by_cases m:n∈l
 ·exact h n m
 ·rw[ju m];omega
section
variable {w0 w1 w2 w3 w4 w5:Str}{a:Addr}{r:Nat}{S:Sto}{Q:WK}{E:Str→Sto→Prop}
theorem zuJ{m:Nat}{ws:List Str}{t:Tr}(h1:t.depth≤4) (h2:t.fits m) (h3:∀{P:Str→Prop},(∀x∈ws,P x)→t.hb P) (h4:t.weight≤7):RightW ws m t:=⟨h1,h2,h3,h4⟩
noncomputable def rts (w0 w1 w2 w3 w4 w5:Str):Nat→Bool→List Tr
 |0,_=>[.nd w2 [], .nd w5 [], .nd w3 [.nd w5 []]]
 |1,g=>[.bl 0, .nd w3 [.bl 0], .nd w4 [.bl 0, .bl 0], .nd w4 [.nd w3 [.bl 0], .nd w2 []]]++(if g then [.nd w0 [.bl 0], .nd w1 [.nd w3 [.bl 0], .bl 0], .nd w3 [.nd w0 [.bl 0]]] else [.nd w2 [], .nd w3 [.nd w5 []]])
 |3,g=>[.nd w4 [.nd w4 [.bl 0, .bl 1], .bl 2], .nd w4 [.bl 2, .nd w4 [.bl 1, .bl 0]], .nd w4 [.nd w4 [.bl 0, .bl 0], .nd w4 [.bl 1, .bl 2]]]++(if g then [.nd w0 [.nd w4 [.nd w4 [.bl 2, .bl 0], .bl 1]], .nd w1 [.bl 1, .nd w4 [.bl 0, .bl 2]]] else [.bl 0, .bl 2, .nd w4 [.bl 1, .bl 1], .nd w5 []])
 |_,g=>[.nd w4 [.bl 0, .bl 1], .nd w4 [.bl 1, .bl 0], .nd w4 [.nd w3 [.bl 0], .bl 1], .nd w4 [.nd w4 [.bl 0, .bl 0], .bl 1]]++(if g then [.nd w1 [.bl 1, .bl 0], .nd w0 [.nd w4 [.bl 0, .bl 1]]] else [.bl 0, .bl 1, .nd w3 [.bl 1], .nd w5 []])
theorem zwK{m:Nat}(hm:m≤3) (g:Bool):∀t∈rts w0 w1 w2 w3 w4 w5 m g,RightW [w0,w1,w2,w3,w4,w5] m t:=by
 intro t ht;rcases m with _ |_ |_ |_ |m
 all_goals first
  |omega
  | (cases g<;>simp only[rts,bW,aN,if_true,if_false,fA,ax,a_,or_false]at ht<;>(try rcases ht with rfl |rfl |rfl |rfl |rfl |rfl |rfl |rfl)<;>(try rcases ht with rfl |rfl |rfl |rfl |rfl |rfl |rfl)<;>(try rcases ht with rfl |rfl |rfl |rfl |rfl |rfl)<;>(try rcases ht with rfl |rfl |rfl |rfl |rfl)<;>(try rcases ht with rfl |rfl |rfl)<;>exact zuJ (by simp [Tr.depth,dts]) (by simp [Tr.fits,fitss]) (λ{P} h=>by simp [Tr.hb,hbs]<;>simp [h]) (by simp [Tr.weight,wts]))
theorem zvx{m:Nat}(hm:m≤3) (g:Bool):∀t∈rts w0 w1 w2 w3 w4 w5 m g,RX t:=by
 intro t ht;rcases m with _ |_ |_ |_ |m
 all_goals first
  |omega
  | (cases g<;>simp only[rts,bW,aN,if_true,if_false,fA,ax,a_,or_false]at ht<;>(try rcases ht with rfl |rfl |rfl |rfl |rfl |rfl |rfl |rfl)<;>(try rcases ht with rfl |rfl |rfl |rfl |rfl |rfl |rfl)<;>(try rcases ht with rfl |rfl |rfl |rfl |rfl |rfl)<;>(try rcases ht with rfl |rfl |rfl |rfl |rfl)<;>(try rcases ht with rfl |rfl |rfl)<;>exact⟨by simp [Tr.sg,sgs],by simp [Tr.sd,sds],zxi (by simp only[Tr.nm,nms,aN,bv,bW]<;>decide)⟩)
theorem ztq{m:Nat}(g:Bool):1≤(rts w0 w1 w2 w3 w4 w5 m g).length∧(rts w0 w1 w2 w3 w4 w5 m g).length≤8:=by
 rcases m with _ |_ |_ |_ |m<;>cases g<;>simp [rts]
def Pu1 (e:WE) (σ:WSt) (S:Sto) (w:W):Prop:=∀(E:WX) (Q:WK),Q w S→e E σ S Q
def PuL (t:WA) (σ:WSt) (S:Sto) (ws:List W):Prop:=∀(E:WX) (Q:List W→Sto→Prop),Q ws S→t E σ S Q
theorem zqC{σ:WSt}{w:W}:Pu1 (wC w) σ S w:=λ_ _ q=>q
theorem zgC{σ:WSt}{i:Int}{w:W}{xs:List W}(h1:σ[1]? =ae (ae (.ref a))) (ha:S a=ae (.lst xs)) (hi:atI xs i=ae w):Pu1 (wOp oIx (wVar 1) (wC (.int i))) σ S w:=λE Q q=>by
 rw[zvb,zje,h1];dsimp only;rw[zys,zls,zal ha,hi];exact q
theorem zdi{σ:WSt}:PuL waNil σ S []:=λ_ _ q=>q
theorem zcq{σ:WSt}{e:WE}{t:WA}{w:W}{ws:List W}(h1:Pu1 e σ S w) (h2:PuL t σ S ws):PuL (zab e t) σ S (w::ws):=λE Q q=>h1 E _ (h2 E _ q)
theorem zem{σ:WSt}{t:WA}{ws:List W}(h:PuL t σ S ws) (hl:ws.length≤sizeLine):Pu1 (zaR t) σ S (.tup ws):=λE Q q=>h E _ ⟨hl,q⟩
theorem zds{E:WX}{D:WEnds}{σ:WSt}{c:WT}{A T:WS}(hc:∀Q:Bool→Sto→Prop,Q false S→c E σ S Q) (k:T E D σ S):zas (zcc c A wNext) T E D σ S:=hc _ k
theorem zeZ{E:WX}{D:WEnds}{σ:WSt}{c:WT}{A A' T:WS}(hc:∀Q:Bool→Sto→Prop,Q true S→c E σ S Q) (k:A E { D with nx:=T E D } σ S):zas (zcc c A A') T E D σ S:=hc _ k
theorem zhP{E:WX}{σ:WSt}{m k:Int}{b:Bool}(h0:σ[0]? =ae (ae (.int m))) (e:(m == k)=b):∀Q:Bool→Sto→Prop,Q b S→wTb (wOp (oEq false) (wVar 0) (wC (.int k))) E σ S Q:=λQ q=>by
 rw[zvG,zvb,zje,h0];dsimp only;rw[zys,zxD,ztd,e];cases b<;>exact q
theorem znA{E:WX}{σ:WSt}{b:Bool}(h2:σ[2]? =ae (ae (.bl b))):∀Q:Bool→Sto→Prop,Q b S→zfs (wVar 2) E σ S Q:=λQ q=>by
 rw[zsq,zje,h2];dsimp only;rw[zlw];exact q
theorem zkr{E:WX}{D:WEnds}{σ:WSt}{t:WA}{T:WS}{ws:List W}(h:PuL t σ S ws) (hl:ws.length≤sizeLine) (k:∀q,S q=none→T E D (σ.set 3 (ae (.ref q))) (put S q (.lst ws))):zas (wAsg (zcd (zcp t)) (wGN 3)) T E D σ S:=h E _ ⟨hl,k⟩
theorem zuz{E:WX}{D:WEnds}{σ:WSt}{t:WA}{ws:List W}(h:PuL t σ S ws) (hl:ws.length≤sizeLine) (k:∀q,S q=none→D.rt (.ref q) (put S q (.lst ws))):wRet (zcd (zcp t)) E D σ S:=h E _ ⟨hl,k⟩
theorem zgQ{E:WX}{D:WEnds}{σ:WSt}{t:WA}{ws xs:List W}{q:Addr}(h3:σ[3]? =ae (ae (.ref q))) (hq:S q=ae (.lst xs)) (h:PuL t σ S ws) (hl:ws.length≤sizeLine) (hx:xs.length+ws.length≤sizeLine) (k:∀q2,S q2=none→D.rt (.ref q2) (put S q2 (.lst (xs++ws)))):wRet (zcd (zgB (wVar 3) (zcp t))) E D σ S:=by
 rw[zsG,zsH,zqh,zje,h3];dsimp only;rw[zsL];refine h E _ ⟨hl,?_⟩;rw[zal hq];exact⟨hx,k⟩
theorem zqy{m:Nat}(hm:m≤3) (g:Bool) (ha:S a=ae (.lst (six w0 w1 w2 w3 w4 w5))) (h:∀S' b,Sub S S'→S' b=ae (.lst (encs (rts w0 w1 w2 w3 w4 w5 m g)))→Q (.ref b) S'):zbW (r+1) [.int m, .ref a, .bl g] S Q E:=by
 rw[zbW,zmf];refine⟨rfl,?_⟩;rcases m with _ |_ |_ |_ |m
 ·exact zeZ (zhP rfl (by decide)) (zuz (ws:=[W.tup [W.str w2],W.tup [W.str w5],W.tup [W.str w3,W.tup [W.str w5]]]) (by repeat' first |exact zdi |refine zcq ?_ ?_ |exact zqC |exact zgC rfl ha (by first |exact six0 |exact six1 |exact six2 |exact six3 |exact six4 |exact six5) |refine zem ?_ (zah (bn rfl))) (zah (bn rfl)) λq hq=>⟨_, .refl,h _ q (.put .refl hq) (by rw[zag];simp [rts,encs,enc])⟩)
 ·refine zds (zhP rfl (by decide)) (zeZ (zhP rfl (by decide)) (zkr (ws:=[W.int 0,W.tup [W.str w3,W.int 0],W.tup [W.str w4,W.int 0,W.int 0],W.tup [W.str w4,W.tup [W.str w3,W.int 0],W.tup [W.str w2]]]) (by repeat' first |exact zdi |refine zcq ?_ ?_ |exact zqC |exact zgC rfl ha (by first |exact six0 |exact six1 |exact six2 |exact six3 |exact six4 |exact six5) |refine zem ?_ (zah (bn rfl))) (zah (bn rfl)) λq hq=>?_))
  have fa:put S q (.lst [W.int 0,W.tup [W.str w3,W.int 0],W.tup [W.str w4,W.int 0,W.int 0],W.tup [W.str w4,W.tup [W.str w3,W.int 0],W.tup [W.str w2]]]) a=ae (.lst (six w0 w1 w2 w3 w4 w5)):=keep ha hq;cases g
  ·exact zds (znA rfl) (zgQ (ws:=[W.tup [W.str w2],W.tup [W.str w3,W.tup [W.str w5]]]) rfl zag (by repeat' first |exact zdi |refine zcq ?_ ?_ |exact zqC |exact zgC rfl fa (by first |exact six0 |exact six1 |exact six2 |exact six3 |exact six4 |exact six5) |refine zem ?_ (zah (bn rfl))) (zah (bn rfl)) (zah (bn rfl)) λq2 hq2=>⟨_, .refl,h _ q2 ((Sub.put .refl hq).trans (.put .refl hq2)) (by rw[zag];simp [rts,encs,enc])⟩)
  ·exact zeZ (znA rfl) (zgQ (ws:=[W.tup [W.str w0,W.int 0],W.tup [W.str w1,W.tup [W.str w3,W.int 0],W.int 0],W.tup [W.str w3,W.tup [W.str w0,W.int 0]]]) rfl zag (by repeat' first |exact zdi |refine zcq ?_ ?_ |exact zqC |exact zgC rfl fa (by first |exact six0 |exact six1 |exact six2 |exact six3 |exact six4 |exact six5) |refine zem ?_ (zah (bn rfl))) (zah (bn rfl)) (zah (bn rfl)) λq2 hq2=>⟨_, .refl,h _ q2 ((Sub.put .refl hq).trans (.put .refl hq2)) (by rw[zag];simp [rts,encs,enc])⟩)
 ·refine zds (zhP rfl (by decide)) (zds (zhP rfl (by decide)) (zds (zhP rfl (by decide)) (zkr (ws:=[W.tup [W.str w4,W.int 0,W.int 1],W.tup [W.str w4,W.int 1,W.int 0],W.tup [W.str w4,W.tup [W.str w3,W.int 0],W.int 1],W.tup [W.str w4,W.tup [W.str w4,W.int 0,W.int 0],W.int 1]]) (by repeat' first |exact zdi |refine zcq ?_ ?_ |exact zqC |exact zgC rfl ha (by first |exact six0 |exact six1 |exact six2 |exact six3 |exact six4 |exact six5) |refine zem ?_ (zah (bn rfl))) (zah (bn rfl)) λq hq=>?_)))
  have fa:put S q (.lst [W.tup [W.str w4,W.int 0,W.int 1],W.tup [W.str w4,W.int 1,W.int 0],W.tup [W.str w4,W.tup [W.str w3,W.int 0],W.int 1],W.tup [W.str w4,W.tup [W.str w4,W.int 0,W.int 0],W.int 1]]) a=ae (.lst (six w0 w1 w2 w3 w4 w5)):=keep ha hq;cases g
  ·exact zds (znA rfl) (zgQ (ws:=[W.int 0,W.int 1,W.tup [W.str w3,W.int 1],W.tup [W.str w5]]) rfl zag (by repeat' first |exact zdi |refine zcq ?_ ?_ |exact zqC |exact zgC rfl fa (by first |exact six0 |exact six1 |exact six2 |exact six3 |exact six4 |exact six5) |refine zem ?_ (zah (bn rfl))) (zah (bn rfl)) (zah (bn rfl)) λq2 hq2=>⟨_, .refl,h _ q2 ((Sub.put .refl hq).trans (.put .refl hq2)) (by rw[zag];simp [rts,encs,enc])⟩)
  ·exact zeZ (znA rfl) (zgQ (ws:=[W.tup [W.str w1,W.int 1,W.int 0],W.tup [W.str w0,W.tup [W.str w4,W.int 0,W.int 1]]]) rfl zag (by repeat' first |exact zdi |refine zcq ?_ ?_ |exact zqC |exact zgC rfl fa (by first |exact six0 |exact six1 |exact six2 |exact six3 |exact six4 |exact six5) |refine zem ?_ (zah (bn rfl))) (zah (bn rfl)) (zah (bn rfl)) λq2 hq2=>⟨_, .refl,h _ q2 ((Sub.put .refl hq).trans (.put .refl hq2)) (by rw[zag];simp [rts,encs,enc])⟩)
 ·refine zds (zhP rfl (by decide)) (zds (zhP rfl (by decide)) (zeZ (zhP rfl (by decide)) (zkr (ws:=[W.tup [W.str w4,W.tup [W.str w4,W.int 0,W.int 1],W.int 2],W.tup [W.str w4,W.int 2,W.tup [W.str w4,W.int 1,W.int 0]],W.tup [W.str w4,W.tup [W.str w4,W.int 0,W.int 0],W.tup [W.str w4,W.int 1,W.int 2]]]) (by repeat' first |exact zdi |refine zcq ?_ ?_ |exact zqC |exact zgC rfl ha (by first |exact six0 |exact six1 |exact six2 |exact six3 |exact six4 |exact six5) |refine zem ?_ (zah (bn rfl))) (zah (bn rfl)) λq hq=>?_)))
  have fa:put S q (.lst [W.tup [W.str w4,W.tup [W.str w4,W.int 0,W.int 1],W.int 2],W.tup [W.str w4,W.int 2,W.tup [W.str w4,W.int 1,W.int 0]],W.tup [W.str w4,W.tup [W.str w4,W.int 0,W.int 0],W.tup [W.str w4,W.int 1,W.int 2]]]) a=ae (.lst (six w0 w1 w2 w3 w4 w5)):=keep ha hq;cases g
  ·exact zds (znA rfl) (zgQ (ws:=[W.int 0,W.int 2,W.tup [W.str w4,W.int 1,W.int 1],W.tup [W.str w5]]) rfl zag (by repeat' first |exact zdi |refine zcq ?_ ?_ |exact zqC |exact zgC rfl fa (by first |exact six0 |exact six1 |exact six2 |exact six3 |exact six4 |exact six5) |refine zem ?_ (zah (bn rfl))) (zah (bn rfl)) (zah (bn rfl)) λq2 hq2=>⟨_, .refl,h _ q2 ((Sub.put .refl hq).trans (.put .refl hq2)) (by rw[zag];simp [rts,encs,enc])⟩)
  ·exact zeZ (znA rfl) (zgQ (ws:=[W.tup [W.str w0,W.tup [W.str w4,W.tup [W.str w4,W.int 2,W.int 0],W.int 1]],W.tup [W.str w1,W.int 1,W.tup [W.str w4,W.int 0,W.int 2]]]) rfl zag (by repeat' first |exact zdi |refine zcq ?_ ?_ |exact zqC |exact zgC rfl fa (by first |exact six0 |exact six1 |exact six2 |exact six3 |exact six4 |exact six5) |refine zem ?_ (zah (bn rfl))) (zah (bn rfl)) (zah (bn rfl)) λq2 hq2=>⟨_, .refl,h _ q2 ((Sub.put .refl hq).trans (.put .refl hq2)) (by rw[zag];simp [rts,encs,enc])⟩)
 ·omega
end
theorem zpU{Rs:List Tr}{d:Int}(h:0<Rs.length):∃R∈Rs,atI (encs Rs) (d % (Rs.length:Int))=ae (enc R):=by
 have h0:(0:Int)<Rs.length:=by omega
 have h1:=b8 d (Int.ne_of_gt h0);have h2:=ci d h0;obtain⟨n,hn⟩:=jV h1;rw[hn]at h2⊢;have hl:n<Rs.length:=by omega
 refine⟨Rs[n],c5 hl,?_⟩;rw[zbZ,zaE,bo,aJ hl];rfl
theorem zpm{S S':Sto}{a:Addr}{o:Ob}(h:Sub S S'):Sub (put S a o) (put S' a o):=λb x e=>by
 by_cases z:b=a
 ·subst z;rw[zag]at e⊢;exact e
 ·rw[zaI z]at e⊢;exact h b x e
section
variable {w0 w1 w2 w3 w4 w5:Str}{tt:List Str}{ns:List Int}{aw at' ab al:Addr}{r:Nat}{E:WX}{D:WEnds}{k j:Int}{g:Bool}
theorem ziq (h6:tt.length=6) (k0:0≤k) (j0:0≤j):∀(ls:List Tr) {i:Nat}{C:List Tn}{S:Sto}{G:Sto→Prop}{x7 x8 x9 x10:Option W},(∀L∈ls,L.depth≤4∧L.weight≤7∧L.nb≤3)→C.length+ls.length≤6→S ab=ae (.lst (C.map zbi))→S aw=ae (.lst (six w0 w1 w2 w3 w4 w5))→S at'=ae (.lst (tt.map W.str))→ab≠aw→ab≠at'→
  (∀o,G (put S ab o))→
  (∀(C':List Tn) (x7 x8 x9 x10:Option W),C'.map (λt=>t.2.1)=ls→(C.map (λt=>t.1)=tt.take C.length→(C++C').map (λt=>t.1)=tt.take (C++C').length)→(∀t∈C',(RightW [w0,w1,w2,w3,w4,w5] t.2.1.nb t.2.2∧RX t.2.2))→D.nx [ae (.scr ns),ae (.int k),ae (.ref aw),ae (.ref at'),ae (.bl g),ae (.ref ab),ae (.int j),ae (.ref al),x7,x8,x9,x10] (put S ab (.lst ((C++C').map zbi))))→
  forL (wGT (zav (wGN 8) (zav (wGN 9) zcD))) (zck (r+6) zbh) E D G (nums i (encs ls)) [ae (.scr ns),ae (.int k),ae (.ref aw),ae (.ref at'),ae (.bl g),ae (.ref ab),ae (.int j),ae (.ref al),x7,x8,x9,x10] S
 | [],i,C,S,G,x7,x8,x9,x10,hL,hl,hb,hw,ht,n1,n2,hG,h=>by
  simp only[encs,nums,forL];have:=h [] x7 x8 x9 x10 rfl (λz=>by simpa using z) (λ_ h=>nomatch h)
  rw[bv,zdB hb]at this;exact this
 |L::ls,i,C,S,G,x7,x8,x9,x10,hL,hl,hb,hw,ht,n1,n2,hG,h=>by
  have hLd:=hL L aK;simp only[aW]at hl;simp only[encs,nums];refine zco λN hN=>?_;simp only[zck];walk_at "wp";refine zhH (r:=r+5) 4 hLd.1 (by omega) (by omega) ?_
  try dsimp only
  refine zqy (r:=r+5) hLd.2.2 g hw λS1 rr sb hrr=>?_
  try walk_at "wp"
  refine⟨.inl ⟨by decide,by decide⟩,zdw (r:=r+5) (by omega) λdraw=>?_⟩
  try walk_at "wp"
  obtain⟨ti,eti,_⟩:=ztZ (ss:=tt) (i:=(C.length:Int)) (by omega) (by omega);simp only[zal (sb _ _ hb),zal (sb _ _ ht),ap,eti,true_and,zal hrr,zaP];have rl:=ztq (w0:=w0) (w1:=w1) (w2:=w2) (w3:=w3) (w4:=w4) (w5:=w5) (m:=L.nb) g;obtain⟨R,hRm,hRe⟩:=zpU (Rs:=rts w0 w1 w2 w3 w4 w5 L.nb g) (d:=draw) (by omega);have hR:=dY (zwK (w0:=w0) (w1:=w1) (w2:=w2) (w3:=w3) (w4:=w4) (w5:=w5) hLd.2.2 g R hRm) (zvx hLd.2.2 g R hRm)
  try walk_at "wp"
  refine⟨by omega,?_⟩
  try simp only[zal hrr,hRe]
  try walk_at "wp"
  try simp only[zal (sb _ _ hb),ap]
  refine⟨zah (by decide),zbF (by omega),?_⟩;refine hN _ _ (put S ab (.lst ((C++[(ti,L,R)]).map zbi))) (by rw[bq];exact zpm sb) (hG _) ?_;refine ziq h6 k0 j0 ls (C:=C++[(ti,L,R)]) (λM hM=>hL M (aC _ hM)) (by simp;omega) zag (by rw[zaI (bj n1)];exact hw) (by rw[zaI (bj n2)];exact ht) n1 n2 (λo=>by rw[zaM];exact hG o) λC' x7 x8 x9 x10 e1 e2 e3=>?_
  rw[zaM];have:=h ((ti,L,R)::C') x7 x8 x9 x10 (by rw[aB,e1]) (λz=>?_) (λt ht'=>?_)
  ·simpa using this
  ·have e:C++[(ti,L,R)]++C'=C++(ti,L,R)::C':=by simp
   rw[e]at e2;refine e2 ?_;rw[bq,z,aZ,eF,jE];congr 1;have e4:(tt.map W.str)[C.length]? =ae (.str ti):=by rw[←zbZ];exact eti
   rw[bo]at e4;cases q:tt[C.length]? with
   |none=>rw[q]at e4;cases e4
   |some y=>rw[q]at e4;cases e4;rfl
  ·rcases ax.mp ht' with rfl |z
   ·exact hR
   ·exact e3 t z
theorem ziz (n:Nat) (h c d:Str):∀L∈leftsL n h c d,L.depth≤4∧L.weight≤7∧L.nb≤3:=by
 intro L hL;unfold leftsL at hL;split at hL<;>simp only[ax,a_,or_false]at hL
 all_goals first
  | (subst hL;simp [Tr.depth,dts,Tr.weight,wts,Tr.nb,nbs])
  | (rcases hL with rfl |rfl<;>simp [Tr.depth,dts,Tr.weight,wts,Tr.nb,nbs])
theorem zqH{S:Sto}{Q:WK}{E:Str→Sto→Prop}(h6:tt.length=6) (k0:0≤k) (hw:S aw=ae (.lst (six w0 w1 w2 w3 w4 w5))) (ht:S at'=ae (.lst (tt.map W.str)))
  (h:∀(p:Addr) (B:List Tn) (n m:Nat),S p=none→B.map (λt=>t.2.1)=leftsL n w0 w2 w3++leftsL m w1 w2 w3→B.map (λt=>t.1)=tt.take B.length→(∀t∈B,(RightW [w0,w1,w2,w3,w4,w5] t.2.1.nb t.2.2∧RX t.2.2))→Q (.ref p) (put S p (.lst (B.map zbi)))):zbC (r+7) [.scr ns, .int k, .ref aw, .ref at', .bl g] S Q E:=by
 rw[show r+7=r+6+1 from rfl,zbC];walk_at "wp";refine⟨aX _,λab hb=>⟨⟨by decide,by decide⟩,?_⟩⟩
 refine zkE (λi σ S'=>∃(B:List Tn) (f:Nat→Nat) (x5 x6 x7 x8 x9 x10:Option W),B.map (λt=>t.2.1)=(ba i).flatMap (λj=>leftsL (f j) (hdOf w0 w1 j) w2 w3)∧B.map (λt=>t.1)=tt.take B.length∧(∀t∈B,(RightW [w0,w1,w2,w3,w4,w5] t.2.1.nb t.2.2∧RX t.2.2))∧S'=put S ab (.lst (B.map zbi))∧
  σ=[ae (.scr ns),ae (.int k),ae (.ref aw),ae (.ref at'),ae (.bl g),ae (.ref ab),x5,x6,x7,x8,x9,x10]) 2 ?_ ?_ ⟨[],λ_=>0,none,none,none,none,none,none,rfl,rfl,(λ_ h=>nomatch h),rfl,rfl⟩
 ·rintro j hj σ S' N ⟨B,f,x5,x6,x7,x8,x9,x10,e1,e2,e3,rfl,rfl⟩ hN;have fw:put S ab (Ob.lst (B.map zbi)) aw=ae (.lst (six w0 w1 w2 w3 w4 w5)):=keep hw hb;have ft:put S ab (Ob.lst (B.map zbi)) at'=ae (.lst (tt.map W.str)):=keep ht hb;have fb:put S ab (Ob.lst (B.map zbi)) ab=ae (.lst (B.map zbi)):=zag;have n1:ab≠aw:=λz=>by rw[z,hw]at hb;cases hb
  have n2:ab≠at':=λz=>by rw[z,ht]at hb;cases hb
  have eh:atI (six w0 w1 w2 w3 w4 w5) (j:Int)=ae (.str (hdOf w0 w1 j)):=by
   rcases(show j=0∨j=1 by omega) with rfl |rfl<;>rfl
  simp only[zdl];walk_at "wp";refine zdw (by omega) λdraw=>?_;walk_at "wp";simp only[zal fw,eh,six2,six3];refine⟨by decide,zqY λal n hal=>?_⟩;have hl:=zeL n (hdOf w0 w1 j) w2 w3;have hB:B.length≤4:=by
   have:=congrArg eE e1;rw[ap]at this;rcases(show j=0∨j=1 by omega) with rfl |rfl
   ·simp at this;rw[this];simp
   ·simp at this;have:=zeL (f 0) (hdOf w0 w1 0) w2 w3;omega
  have nal:al≠ab:=λz=>by rw[z,fb]at hal;cases hal
  try walk_at "wp"
  refine ziq (g:=g) h6 k0 (by omega) (leftsL n (hdOf w0 w1 j) w2 w3) (ziz _ _ _ _) (by omega) (keep fb hal) (keep fw hal) (keep ft hal) n1 n2 (λo=>?_) λC' x7 x8 x9 x10 g1 g2 g3=>?_
  ·rw[zaI nal,zag]
  ·refine hN _ _ (put S ab (.lst ((B++C').map zbi))) ?_ ⟨B++C',λi=>if i=j then n else f i,_,_,_,_,_,_,?_,g2 e2,λt ht'=>?_,rfl,rfl⟩
   ·rw[zlx nal];exact .put .refl (by rw[zaI nal];exact(zct hal).1)
   ·rw[bq,e1,g1,gz,iC];congr 1
    ·rw[jO,jO];congr 1;refine cC λi hi=>?_;have:=eL.mp hi;dsimp only;rw[if_neg (by omega)]
    ·simp
   ·rcases bb.mp ht' with z |z
    ·exact e3 t z
    ·exact g3 t z
 ·rintro σ S' ⟨B,f,x5,x6,x7,x8,x9,x10,e1,e2,e3,rfl,rfl⟩;walk_at "wp";refine⟨_, .refl,h ab B (f 0) (f 1) hb ?_ e2 e3⟩;rw[e1];simp [gz,hdOf]
end
structure Pre0 (S:Sto) (aw at' ab:Addr) (w0 w1 w2 w3 w4 w5:Str) (tt:List Str) (B:List Tn):Prop where
  G:Signs w0 w1 w2 w3 w4 w5
  T:Titles tt
  b:BookOk w0 w1 w2 w3 w4 w5 tt B
  fw:S aw=ae (.lst (six w0 w1 w2 w3 w4 w5))
  ft:S at'=ae (.lst (tt.map W.str))
  fb:S ab=ae (.lst (B.map zbi))
  rx:∀t∈B,RX t.2.2
theorem Pre0.ne{S:Sto}{aw at' ab:Addr}{w0 w1 w2 w3 w4 w5:Str}{tt:List Str}{B:List Tn}(P:Pre0 S aw at' ab w0 w1 w2 w3 w4 w5 tt B):B≠ []:=by
 have h:=P.b.len;rintro rfl;simp at h
structure Pw (w0 w1 w2 w3 w4 w5:Str) (tt:List Str) (B:List Tn) (p:Pl):Prop where
  b:BookOk w0 w1 w2 w3 w4 w5 tt B
  T:Titles tt
  G:Signs w0 w1 w2 w3 w4 w5
  o:PlOk [w2,w3,w4,w5] B p
  w:p.wt≤23
  n:p.nt≤4
section
variable {w0 w1 w2 w3 w4 w5:Str}{tt:List Str}{B:List Tn}{p:Pl}
theorem Pw.k (u:Pw w0 w1 w2 w3 w4 w5 tt B p):BkOk [w0,w1,w2,w3,w4,w5] [w2,w3,w4,w5] B:=u.b.bk u.T u.G
theorem Pw.nd (u:Pw w0 w1 w2 w3 w4 w5 tt B p):(B.map λt=>t.1).Nodup:=u.k.nd
end
inductive Sg (B:List Tn):Tr→Tr→Tr→Prop
 |here {h:Str}{ts:List Tr}{t:Tn}:zaw B h=ae t→Sg B (.nd h ts) (.nd h (ts.map (src B))) (t.2.2.fill ts)
 |sign {h:Str}{as bs:List Tr}{x s y:Tr}:zaw B h=none→Sg B x s y→Sg B (.nd h (as++x::bs)) (.nd h (as.map (src B)++s::bs.map (src B))) (.nd h (as++y::bs))
 |tit {h:Str}{t:Tn}{as bs:List Tr}{x s y:Tr}:zaw B h=ae t→Sg B x s y→Sg B (.nd h (as++x::bs)) (t.2.1.fill (as.map (src B)++s::bs.map (src B))) (.nd h (as++y::bs))
section
variable {ws:List Str}{B:List Tn}{x:Tr}
theorem Bk3.mv_src (K:Bk3 ws B) (h:Wy ws B x):∃n,Mv B n x (L2.src B x) x:=by
 obtain⟨p,hp,e1,hs⟩:=K.plan1 h;have m:=zfi (c:=byC 1) (d:=zr) K.b K.O.mt (zfb (zeo 1) zow) hp;rw[hs,e1]at m;have e:p.ev B (ziE (byC 1) zr)=x:=e1▸zew hp λb _ _=>rfl;rw[e]at m;exact⟨_,m⟩
theorem Bk3.mvs_src (K:Bk3 ws B):∀xs:List Tr,(∀x∈xs,Wy ws B x)→ ∃n,Mvs B n xs (xs.map (L2.src B)) xs
 | [],_=>⟨0, .nil⟩
 |x::xs,h=>by
  obtain⟨n,hn⟩:=K.mv_src (h x aK);obtain⟨m,hm⟩:=Bk3.mvs_src K xs λy hy=>h y (aC _ hy);exact⟨n+m, .cons (hn.mono (by omega)) (hm.mono (by omega))⟩
theorem Mvs.app{n:Nat}:∀{as bs cs ds es fs:List Tr},Mvs B n as bs cs→Mvs B n ds es fs→Mvs B n (as++ds) (bs++es) (cs++fs)
 |_,_,_,_,_,_, .nil,h=>h
 |_,_,_,_,_,_, .cons h1 h2,h=> .cons h1 (Mvs.app h2 h)
theorem Bk3.mvs_mid (K:Bk3 ws B) {as bs:List Tr}{x s y:Tr}(ha:∀x∈as,Wy ws B x) (hb:∀x∈bs,Wy ws B x) (h:∃n,Mv B n x s y):∃n,Mvs B n (as++x::bs) (as.map (L2.src B)++s::bs.map (L2.src B)) (as++y::bs):=by
 obtain⟨n,hn⟩:=h;obtain⟨k,hk⟩:=K.mvs_src as ha;obtain⟨m,hm⟩:=K.mvs_src bs hb;exact⟨n+k+m,Mvs.app (hk.mono (by omega)) (.cons (hn.mono (by omega)) (hm.mono (by omega)))⟩
theorem Sg.mv (K:Bk3 ws B):∀{x s y:Tr},Sg B x s y→Wy ws B x→ ∃n,Mv B n x s y
 |_,_,_, .here (h:=h) (ts:=ts) (t:=t) e,hx=>by
  obtain⟨n,hn⟩:=K.mvs_src ts hx.kids;rcases Wy.cases K.b hx with⟨s,as,e1,_,e2,_⟩ |⟨u,as,hu,e1,e2,hl,_⟩
  ·cases e1;rw[e]at e2;cases e2
  ·cases e1;rw[e]at e2;cases e2;exact⟨n+1, .ss e e hl hn⟩
 |_,_,_, .sign (as:=as) (bs:=bs) e i,hx=>by
  obtain⟨n,hn⟩:=K.mvs_mid (λz hz=>hx.kids z (bO _ hz)) (λz hz=>hx.kids z (a8 _ (aC _ hz))) (Sg.mv K i (hx.kids _ (a8 _ aK)));exact⟨n+1, .nn e e hn⟩
 |_,_,_, .tit (h:=h) (t:=t) (as:=as) (bs:=bs) (s:=s) e i,hx=>by
  obtain⟨n,hn⟩:=K.mvs_mid (λz hz=>hx.kids z (bO _ hz)) (λz hz=>hx.kids z (a8 _ (aC _ hz))) (Sg.mv K i (hx.kids _ (a8 _ aK)));rcases Wy.cases K.b hx with⟨s,cs,e1,_,e2,_⟩ |⟨u,cs,hu,e1,e2,hl,_⟩
  ·cases e1;rw[e]at e2;cases e2
  ·cases e1;rw[e]at e2;cases e2;have ml:=K.O.mt t hu (as.map (L2.src B)++s::bs.map (L2.src B)) (by rw[←hl];simp);obtain⟨z,ls,ez,_⟩:=K.O.inn t hu;have hz:zaw B z=none:=by
    have:=K.lw t hu;rw[ez,Tr.hb]at this;exact zay K.b.ti (K.b.sg z this.1)
   rw[ez,Tr.fill]at ml⊢;exact⟨n+1, .sn e hz (by rw[ez];exact ml) hn⟩
end
section
variable {ws:List Str}{B:List Tn}
theorem zqd (K:Bk3 ws B) {as bs:List Tr}{x s:Tr}(ha:∀x∈as,Wy ws B x) (hb:∀x∈bs,Wy ws B x) (h:src B s=src B x):(as.map (src B)++s::bs.map (src B)).map (src B)=(as++x::bs).map (src B):=by
 rw[bq,bq,aB,aB,h,bx,bx];rw[cC (f:=src B∘src B) (g:=src B) λz hz=>(K.src (ha z hz)).2.1,cC (f:=src B∘src B) (g:=src B) λz hz=>(K.src (hb z hz)).2.1]
theorem Sg.sr (K:Bk3 ws B):∀{x s y:Tr},Sg B x s y→Wy ws B x→src B s=src B x
 |_,_,_, .here (h:=h) (ts:=ts) (t:=t) e,hx=>by
  rcases Wy.cases K.b hx with⟨s,as,e1,_,e2,_⟩ |⟨u,as,hu,e1,e2,hl,_⟩
  ·cases e1;rw[e]at e2;cases e2
  ·cases e1;rw[src,src,zbD e2,zbD e2,bx];congr 1;exact cC λz hz=>(K.src (hx.kids z hz)).2.1
 |_,_,_, .sign (as:=as) (bs:=bs) e i,hx=>by
  have q:=zqd K (λz hz=>hx.kids z (bO _ hz)) (λz hz=>hx.kids z (a8 _ (aC _ hz))) (Sg.sr K i (hx.kids _ (a8 _ aK)));rw[src,src,zcC e,zcC e];exact congrArg _ q
 |_,_,_, .tit (h:=h) (t:=t) (as:=as) (bs:=bs) (s:=s) e i,hx=>by
  have q:=zqd K (λz hz=>hx.kids z (bO _ hz)) (λz hz=>hx.kids z (a8 _ (aC _ hz))) (Sg.sr K i (hx.kids _ (a8 _ aK)));rcases Wy.cases K.b hx with⟨s,cs,e1,_,e2,_⟩ |⟨u,cs,hu,e1,e2,hl,_⟩
  ·cases e1;rw[e]at e2;cases e2
  ·cases e1;rw[e]at e2;cases e2;rw[src,src,zbD e,zmG K.b hu (by rw[←hl];simp)];exact congrArg (λl=>Tr.fill l t.2.1) q
end
mutual
theorem zmq{B:List Tn}(hB:∀t∈B,zbp t.1) {us:List Tr}(hu:∀u∈us,u.ar B):∀(t:Tr),t.hb zbG→t.fits us.length→(t.fill us).ar B
 | .bl n,h,f=>by
  simp only[Tr.fits]at f;simp only[Tr.fill];rw[aY,aJ (show n.toNat<us.length by omega)]
  exact hu _ (c5 ..)
 | .nd s ts,h,f=>by
  simp only[Tr.fits]at f;simp only[Tr.hb]at h;simp only[Tr.fill,Tr.ar];refine⟨λt ht=>?_,zjp hB hu ts h.2 f⟩;rw[zay hB h.1]at ht;cases ht
theorem zjp{B:List Tn}(hB:∀t∈B,zbp t.1) {us:List Tr}(hu:∀u∈us,u.ar B):∀(ts:List Tr),hbs zbG ts→fitss us.length ts→ars B (fills us ts)
 | [],h,f=>by simp [fills,ars]
 |t::ts,h,f=>by
  simp only[fitss]at f;simp only[hbs]at h;simp only[fills,ars];exact⟨zmq hB hu t h.1 f.1,zjp hB hu ts h.2 f.2⟩
end
section
variable {ws:List Str}{B:List Tn}
theorem Bk3.wy_left (K:Bk3 ws B) {t:Tn}(ht:t∈B) {ms:List Tr}(hl:ms.length=t.2.1.nb) (hm:∀x∈ms,Wy ws B x):Wy ws B (t.2.1.fill ms):=
 ⟨zhY (λu hu=>(hm u hu).hd) _ (zhC (λs hs=> .inl hs) _ (K.lw t ht)) (by rw[hl];exact(K.b.lf t ht).fits),zmq K.b.ti (λu hu=>(hm u hu).ar) _ (zhC (λs hs=>K.b.sg s hs) _ (K.lw t ht)) (by rw[hl];exact(K.b.lf t ht).fits)⟩
theorem Wy.re{h:Str}{ts us:List Tr}(w:Wy ws B (.nd h ts)) (hl:us.length=ts.length) (hu:∀x∈us,Wy ws B x):Wy ws B (.nd h us):=by
 obtain⟨h1,h2⟩:=w;rw[Tr.hd,hds_iff]at h1;rw[Tr.ar,ars_iff]at h2;refine⟨?_,?_⟩
 ·rw[Tr.hd,hds_iff];exact⟨h1.1,λu hm=>(hu u hm).hd⟩
 ·rw[Tr.ar,ars_iff];exact⟨λt e=>by rw[hl];exact h2.1 t e,λu hm=>(hu u hm).ar⟩
theorem zsW (K:Bk3 ws B) {as bs:List Tr}{s:Tr}(ha:∀x∈as,Wy ws B x) (hb:∀x∈bs,Wy ws B x) (h:Wy ws B s):∀z∈as.map (src B)++s::bs.map (src B),Wy ws B z:=λz hz=>by
 rcases bb.mp hz with q |q
 ·obtain⟨y,hy,rfl⟩:=aM.mp q;exact(K.src (ha y hy)).1
 ·rcases ax.mp q with rfl |q
  ·exact h
  ·obtain⟨y,hy,rfl⟩:=aM.mp q;exact(K.src (hb y hy)).1
theorem Sg.wy (K:Bk3 ws B):∀{x s y:Tr},Sg B x s y→Wy ws B x→Wy ws B s
 |_,_,_, .here (h:=h) (ts:=ts) (t:=t) e,hx=>by
  refine hx.re (by simp) λz hz=>?_;obtain⟨y,hy,rfl⟩:=aM.mp hz;exact(K.src (hx.kids y hy)).1
 |_,_,_, .sign (as:=as) (bs:=bs) e i,hx=>by
  exact hx.re (by simp) (zsW K (λz hz=>hx.kids z (bO _ hz)) (λz hz=>hx.kids z (a8 _ (aC _ hz))) (Sg.wy K i (hx.kids _ (a8 _ aK))))
 |_,_,_, .tit (h:=h) (t:=t) (as:=as) (bs:=bs) (s:=s) e i,hx=>by
  have q:=zsW K (λz hz=>hx.kids z (bO _ hz)) (λz hz=>hx.kids z (a8 _ (aC _ hz))) (Sg.wy K i (hx.kids _ (a8 _ aK)));rcases Wy.cases K.b hx with⟨s,cs,e1,_,e2,_⟩ |⟨u,cs,hu,e1,e2,hl,_⟩
  ·cases e1;rw[e]at e2;cases e2
  ·cases e1;rw[e]at e2;cases e2;exact K.wy_left hu (by rw[←hl];simp) q
theorem Sg.left (K:Bk3 ws B) {x s y:Tr}(h:Sg B x s y) (hx:Wy ws B x):res B x s=y∧Wy ws B y∧src B y=gol B s:=by
 obtain⟨n,m⟩:=h.mv K hx;have e:=m.res;have v:=K.moved hx (h.wy K hx) (h.sr K hx).symm;rw[e]at v;exact⟨e,v.wy,v.sr⟩
end
section
variable {ws:List Str}{B:List Tn}{x:Tr}
theorem Bk3.mv_gol (K:Bk3 ws B) (h:Wy ws B x):∃n,Mv B n (L2.src B x) x (L2.gol B x):=by
 obtain⟨p,hp,e1,hs⟩:=K.plan1 h;have m:=zfi (c:=zr) (d:=byC 1) K.b K.O.mt (zfb zow (zeo 1)) hp;have e:=m.res;rw[hs,e1]at m e;rw[K.src_res h]at e;rw[←e]at m;exact⟨_,m⟩
theorem Bk3.mvs_gol (K:Bk3 ws B):∀xs:List Tr,(∀x∈xs,Wy ws B x)→ ∃n,Mvs B n (xs.map (L2.src B)) xs (xs.map (L2.gol B))
 | [],_=>⟨0, .nil⟩
 |x::xs,h=>by
  obtain⟨n,hn⟩:=K.mv_gol (h x aK);obtain⟨m,hm⟩:=Bk3.mvs_gol K xs λy hy=>h y (aC _ hy);exact⟨n+m, .cons (hn.mono (by omega)) (hm.mono (by omega))⟩
theorem Bk3.mvg_mid (K:Bk3 ws B) {as bs:List Tr}{x s:Tr}(ha:∀x∈as,Wy ws B x) (hb:∀x∈bs,Wy ws B x) (h:∃n,Mv B n s x (L2.gol B x)):∃n,Mvs B n (as.map (L2.src B)++s::bs.map (L2.src B)) (as++x::bs) ((as++x::bs).map (L2.gol B)):=by
 obtain⟨n,hn⟩:=h;obtain⟨k,hk⟩:=K.mvs_gol as ha;obtain⟨m,hm⟩:=K.mvs_gol bs hb;rw[bq,aB];exact⟨n+k+m,Mvs.app (hk.mono (by omega)) (.cons (hn.mono (by omega)) (hm.mono (by omega)))⟩
theorem Sg.mvg (K:Bk3 ws B):∀{x s y:Tr},Sg B x s y→Wy ws B x→ ∃n,Mv B n s x (gol B x)
 |_,_,_, .here (h:=h) (ts:=ts) (t:=t) e,hx=>by
  obtain⟨n,hn⟩:=K.mvs_gol ts hx.kids;rcases Wy.cases K.b hx with⟨s,as,e1,_,e2,_⟩ |⟨u,as,hu,e1,e2,hl,_⟩
  ·cases e1;rw[e]at e2;cases e2
  ·cases e1;rw[e]at e2;cases e2;rw[gol,zbD e];exact⟨n+1, .ss e e (by rw[ap,hl]) hn⟩
 |_,_,_, .sign (as:=as) (bs:=bs) e i,hx=>by
  obtain⟨n,hn⟩:=K.mvg_mid (λz hz=>hx.kids z (bO _ hz)) (λz hz=>hx.kids z (a8 _ (aC _ hz))) (Sg.mvg K i (hx.kids _ (a8 _ aK)));rw[gol,zcC e];exact⟨n+1, .nn e e hn⟩
 |_,_,_, .tit (h:=h) (t:=t) (as:=as) (bs:=bs) (s:=s) e i,hx=>by
  obtain⟨n,hn⟩:=K.mvg_mid (λz hz=>hx.kids z (bO _ hz)) (λz hz=>hx.kids z (a8 _ (aC _ hz))) (Sg.mvg K i (hx.kids _ (a8 _ aK)));rcases Wy.cases K.b hx with⟨s,cs,e1,_,e2,_⟩ |⟨u,cs,hu,e1,e2,hl,_⟩
  ·cases e1;rw[e]at e2;cases e2
  ·cases e1;rw[e]at e2;cases e2;have ml:=K.O.mt t hu (as.map (L2.src B)++s::bs.map (L2.src B)) (by rw[←hl];simp);obtain⟨z,ls,ez,_⟩:=K.O.inn t hu;have hz:zaw B z=none:=by
    have:=K.lw t hu;rw[ez,Tr.hb]at this;exact zay K.b.ti (K.b.sg z this.1)
   rw[gol,zbD e];rw[ez,Tr.fill]at ml⊢;exact⟨n+1, .ns hz e (by rw[ez];exact ml) (by rw[ap,hl]) hn⟩
theorem Sg.go (K:Bk3 ws B) {x s y:Tr}(h:Sg B x s y) (hx:Wy ws B x):res B s x=gol B x∧gol B y=gol B x:=by
 obtain⟨n,m⟩:=h.mvg K hx;have e:=m.res;have v:=K.moved hx (h.wy K hx) (h.sr K hx).symm;have g:=v.go;rw[(h.left K hx).1,e]at g;exact⟨e,g.trans (K.gol hx).2.2.2⟩
end
inductive Sq (B:List Tn):List Int→Tr→Tr→Tr→Prop
 |here {h:Str}{ts:List Tr}{t:Tn}:zaw B h=ae t→Sq B [] (.nd h ts) (.nd h (ts.map (src B))) (t.2.2.fill ts)
 |sign {h:Str}{as bs:List Tr}{x s y:Tr}{q:List Int}:zaw B h=none→Sq B q x s y→Sq B ((as.length:Int)::q) (.nd h (as++x::bs)) (.nd h (as.map (src B)++s::bs.map (src B))) (.nd h (as++y::bs))
 |tit {h:Str}{t:Tn}{as bs:List Tr}{x s y:Tr}{q e:List Int}:zaw B h=ae t→(t.2.1.bls.map λx=>x.1)[as.length]? =ae e→Sq B q x s y→Sq B (e++q) (.nd h (as++x::bs)) (t.2.1.fill (as.map (src B)++s::bs.map (src B))) (.nd h (as++y::bs))
theorem Sq.sg{B:List Tn}{q:List Int}{x s y:Tr}(h:Sq B q x s y):Sg B x s y:=by
 induction h with
 |here e=>exact .here e
 |sign e _ ih=>exact .sign e ih
 |tit e _ _ ih=>exact .tit e ih
theorem zky{B:List Tn}{p:List Int}{u:List Int×Str}:∀{qs:List (List Int)}{ts:List Tr},u∈usz B p qs ts→ ∃(as bs:List Tr) (x:Tr) (e:List Int),ts=as++x::bs∧qs[as.length]? =ae e∧u∈x.us B (p++e)
 |q::qs,t::ts,h=>by
  rw[usz]at h;rcases bb.mp h with h |h
  ·exact⟨[],ts,t,q,rfl,rfl,h⟩
  ·obtain⟨as,bs,x,e,rfl,e2,e3⟩:=zky h;exact⟨t::as,bs,x,e,rfl,by simpa using e2,e3⟩
 | [],ts,h=>by cases ts<;>cases h
 |q::qs,[],h=>by cases h
theorem zsf{B:List Tn}:∀(n:Nat) {x:Tr}{p:List Int}{u:List Int×Str},x.weight≤n→u∈x.us B p→ ∃q s y,u.1=p++q∧Sq B q x s y
 |0,x,p,u,hn,h=>by have:=zbH x;omega
 |n+1, .bl k,p,u,hn,h=>by rw[Tr.us]at h;cases h
 |n+1, .nd h0 ts,p,u,hn,h=>by
  rw[Tr.weight]at hn;cases e:zaw B h0 with
  |none=>
   rw[zkJ e]at h;obtain⟨as,bs,x,e1,rfl,e2,e3⟩:=zky h;have hx:=zaL (show x∈as++x::bs by simp)
   obtain⟨q,s,y,e4,e5⟩:=zsf n (by omega) e3;have e6:e1=[(as.length:Int)]:=by
    rw[bo,dj (by simp)]at e2;cases e2;rfl
   subst e6;exact⟨_,_,_,by rw[e4,bw];rfl, .sign e e5⟩
  |some t=>
   rw[zhr e]at h;rcases ax.mp h with rfl |h
   ·exact⟨[],_,_,by simp, .here e⟩
   ·obtain⟨as,bs,x,e1,rfl,e2,e3⟩:=zky h;have hx:=zaL (show x∈as++x::bs by simp)
    obtain⟨q,s,y,e4,e5⟩:=zsf n (by omega) e3;exact⟨_,_,_,by rw[e4,bw], .tit e e2 e5⟩
section
variable {ws:List Str}{B:List Tn}
theorem Sh.of (K:Bk3 ws B) {x:Tr}(h:Wy ws B x):Sh ws B (src B x):=⟨(K.src h).1,(K.src h).2.1⟩
theorem zhv{wn:List (List Int)}{n:Nat}{p:List Int}:∀{qs:List (List Int)}{ts:List Tr},qs.length=ts.length→(∀(i:Nat) q t,qs[i]? =ae q→ts[i]? =ae t→Wi B wn n (p++q) t t)→Wis B wn n p qs ts ts
 | [],[],_,_=> .nil
 |q::qs,t::ts,h,f=> .cons (f 0 q t rfl rfl) (zhv (by simpa using h) λi q t h1 h2=>f (i+1) q t (by simpa using h1) (by simpa using h2))
 | [],t::ts,h,f=>by simp at h
 |q::qs,[],h,f=>by simp at h
theorem zqT (K:Bk3 ws B) {wn:List (List Int)}:∀(n:Nat) (v:Tr) (p:List Int),v.depth≤n→Sh ws B v→(∀r,p++r∉wn)→Wi B wn n p v v
 |0,v,p,hd,h,hn=>by have:=zaX v;omega
 |n+1,v,p,hd,h,hn=>by
  obtain⟨s,ts,rfl,_,e,k⟩:=h.cases K;rw[Tr.depth]at hd;refine .no (by simpa using hn []) e (zhv (by simp) λi q t h1 h2=>?_);have hm:t∈ts:=bp h2;have:=zbw hm;exact zqT K n t (p++q) (by omega) (k t hm) λr=>by rw[bw];exact hn _
end
theorem zrD{R:List Int→Nat→Prop}{n:Nat}{h c d:Str}{L:Tr}(hL:L∈leftsL n h c d) (p:List Int) (H:∀(j:Nat) (e:List Int),(L.bls.map λx=>x.1)[j]? =ae e→R (p++e) j):L.atb R p:=by
 unfold leftsL at hL;split at hL<;>simp only[ax,a_,or_false]at hL
 ·subst hL;rw[zti]at H;simpa [Tr.atb,atbs]using H 0 _ rfl
 ·subst hL;rw[zsY]at H;simpa [Tr.atb,atbs]using dY (H 0 _ rfl) (H 1 _ rfl)
 ·rcases hL with rfl |rfl
  ·simp [Tr.atb,atbs]
  ·rw[zsK]at H;simpa [Tr.atb,atbs]using H 0 _ rfl
 ·rcases hL with rfl |rfl
  ·rw[zta]at H;simpa [Tr.atb,atbs]using H 0 _ rfl
  ·rw[ztf]at H;simpa [Tr.atb,atbs]using dY (H 0 _ rfl) (H 1 _ rfl)
 ·rcases hL with rfl |rfl
  ·rw[ztl]at H;simpa [Tr.atb,atbs]using dY (H 0 _ rfl) (dY (H 1 _ rfl) (H 2 _ rfl))
  ·rw[zsP]at H;simpa [Tr.atb,atbs]using dY (H 0 _ rfl) (H 1 _ rfl)
 ·subst hL;simp [Tr.atb,atbs]
mutual
theorem ztc{wn:List (List Int)}:∀(t:Tr) (p:List Int),(∀a s us,t.at a=ae (.nd s us)→p++a∉wn)→t.inn wn p
 | .bl n,p,h=>by rw[Tr.inn];trivial
 | .nd s ts,p,h=>by
  rw[Tr.inn];refine⟨by simpa using h [] s ts (zdL _),znV ts p 0 λi t a s us e1 e2=>?_⟩;have:=h (((i:Nat):Int)::a) s us (by rw[zof e1];exact e2);simpa using this
theorem znV{wn:List (List Int)}:∀(ts:List Tr) (p:List Int) (k:Nat),(∀(i:Nat) t a s us,ts[i]? =ae t→t.at a=ae (.nd s us)→p++((k+i:Nat):Int)::a∉wn)→zup wn p k ts
 | [],p,k,h=>by rw[zup];trivial
 |t::ts,p,k,h=>by
  rw[zup];refine⟨ztc t _ λa s us e=>?_,znV ts p (k+1) λi u a s us e1 e2=>?_⟩
  ·have:=h 0 t a s us rfl e;simpa using this
  ·have:=h (i+1) u a s us (by simpa using e1) e2;rw[show k+1+i=k+(i+1) by omega]
   exact this
end
theorem ztg{a b:List Int}(h:Ap a b) (r q:List Int):a++r≠b++q:=λe=>by
 obtain⟨c,x,y,a',b',rfl,rfl,hxy⟩:=h;rw[bw,bw,fI]at e;simp only[bW,f_]at e;omega
theorem zps{t:Tr}{i j:Nat}{a b:List Int}(hi:(t.bls.map λx=>x.1)[i]? =ae a) (hj:(t.bls.map λx=>x.1)[j]? =ae b) (h:i≠j) (r q:List Int):a++r≠b++q:=by
 have P:=zxA t;rcases Nat.lt_or_gt_of_ne h with g |g
 ·exact ztg (iG.mp P i j (bG.mp hi).1 (bG.mp hj).1 g |> λz=>by rw[(bG.mp hi).2,(bG.mp hj).2]at z;exact z) r q
 ·exact λe=>ztg (iG.mp P j i (bG.mp hj).1 (bG.mp hi).1 g |> λz=>by rw[(bG.mp hi).2,(bG.mp hj).2]at z;exact z) q r e.symm
theorem zpi{as bs:List Tr}{x s t u:Tr}{i:Nat}(h1:(as++x::bs)[i]? =ae t) (h2:(as++s::bs)[i]? =ae u):(i=as.length∧t=x∧u=s)∨(i≠as.length∧t=u∧(t∈as∨t∈bs)):=by
 by_cases e:i=as.length
 ·subst e;rw[dy (au _)]at h1 h2;simp at h1 h2;exact .inl ⟨rfl,h1.symm,h2.symm⟩
 ·refine .inr ⟨e,?_⟩;by_cases g:i<as.length
  ·rw[gp g]at h1 h2;rw[h1]at h2;cases h2;exact⟨rfl, .inl (bp h1)⟩
  ·rw[dy (by omega)]at h1 h2;obtain⟨m,hm⟩:∃m,i - as.length=m+1:=⟨i - as.length - 1,by omega⟩
   rw[hm,d5]at h1 h2;rw[h1]at h2;cases h2;exact⟨rfl, .inr (bp h1)⟩
section
variable {ws:List Str}{B:List Tn}
theorem zor{wn:List (List Int)}{n:Nat}{p:List Int}:∀{qs:List (List Int)}{ts us:List Tr},qs.length=ts.length→us.length=ts.length→(∀(i:Nat) q t u,qs[i]? =ae q→ts[i]? =ae t→us[i]? =ae u→Wi B wn n (p++q) t u)→Wis B wn n p qs ts us
 | [],[],[],_,_,_=> .nil
 |q::qs,t::ts,u::us,h,h',f=> .cons (f 0 q t u rfl rfl rfl) (zor (by simpa using h) (by simpa using h') λi q t u h1 h2 h3=>f (i+1) q t u (by simpa using h1) (by simpa using h2) (by simpa using h3))
 | [],t::ts,_,h,_,f=>by simp at h
 |q::qs,[],_,h,_,f=>by simp at h
 |_,t::ts,[],_,h,f=>by simp at h
 |_,[],u::us,_,h,f=>by simp at h
structure Lfs (B:List Tn):Prop where
  op:∀t∈B,∀us:List Tr,us.length=t.2.1.nb→zdx B (t.2.1.fill us)=ae t
  lf:∀t∈B,∃n h c d,t.2.1∈leftsL n h c d
theorem Sq.wi (K:Bk3 ws B) (F:Lfs B) {q:List Int}{x s y:Tr}(h:Sq B q x s y) (hx:Wy ws B x):∀p,∃n,Wi B [p++q] n p (src B x) s:=by
 induction h with
 | @here h ts t e=>
  intro p;rcases Wy.cases K.b hx with⟨s,as,e1,_,e2,_⟩ |⟨u,as,hu,e1,e2,hl,hk⟩
  ·cases e1;rw[e]at e2;cases e2
  ·cases e1;rw[e]at e2;cases e2;have hl':(ts.map (src B)).length=t.2.1.nb:=by rw[ap,hl]
   have ho:=F.op t hu _ hl';have hm:=K.O.mt t hu _ hl';have es:src B (.nd t.1 ts)=t.2.1.fill (ts.map (src B)):=by rw[src,zbD e]
   obtain⟨s0,ts0,e3,_⟩:=(Sh.of K hx).cases K;rw[es]at e3;rw[es];rw[e3]at ho hm⊢;refine⟨dts (ts.map (src B))+1, .yes (by simp) ho hm e (zhv ?_ λi q v h1 h2=>?_)⟩
   ·rw[ap,hl',zlE]
   ·have hv:v∈ts.map (src B):=bp h2;obtain⟨z,hz,rfl⟩:=aM.mp hv;refine zqT K _ _ _ (zbw hv) (Sh.of K (hk z hz)) λr hr=>?_;obtain⟨b,hb,rfl⟩:=aM.mp (bp h1);have ha:=(zde hb).1;rw[bv,aV,bw]at hr;have h0:b.1=[]:=by
     have:=congrArg eE hr;simp at this;exact this.1
    rw[h0,zdL,(zde hb).2.1]at ha;obtain⟨z0,ls,ez,_⟩:=K.O.inn t hu;rw[ez]at ha;cases ha
 | @sign h as bs x s y q e _ ih=>
  intro p;have kid:=hx.kids;obtain⟨n,hn⟩:=ih (kid _ (by simp)) (p++[(as.length:Int)]);have e1:src B (.nd h (as++x::bs))= .nd h (as.map (src B)++src B x::bs.map (src B)):=by rw[src,zcC e,bq,aB]
  rw[e1];refine⟨(n+dts (as.map (src B)++src B x::bs.map (src B)))+1, .no (by simp) e (zor (by simp) (by simp) λi q' t u h1 h2 h3=>?_)⟩;have h1':q'=[(i:Int)]:=by
   have hi:=(bG.mp h2).1;rw[bo,dj hi]at h1;cases h1;rfl
  subst h1';rcases zpi h2 h3 with⟨rfl,rfl,rfl⟩ |⟨ne,rfl,hm⟩
  ·rw[ap];have:=hn.mono (m:=n+dts (as.map (src B)++src B x::bs.map (src B))) (by omega);rw[bw]at this;exact this
  ·rw[ap]at ne;have hsh:Sh ws B t:=by
    rcases hm with hm |hm
    ·obtain⟨z,hz,rfl⟩:=aM.mp hm;exact Sh.of K (kid z (by simp [hz]))
    ·obtain⟨z,hz,rfl⟩:=aM.mp hm;exact Sh.of K (kid z (by simp [hz]))
   have hd:=zbw (bp h2);refine zqT K _ _ _ (by omega) hsh λr hr=>?_;rw[aV,bw,fI]at hr;simp at hr;omega
 | @tit h t0 as bs x s y q e0 e ee _ ih=>
  intro p;have kid:=hx.kids;obtain⟨n,hn⟩:=ih (kid _ (by simp)) (p++e0);rcases Wy.cases K.b hx with⟨s,cs,e1,_,e2,_⟩ |⟨u,cs,hu,e1,e2,hl,_⟩
  ·cases e1;rw[e]at e2;cases e2
  ·cases e1;rw[e]at e2;cases e2;have e1:src B (.nd t0.1 (as++x::bs))=t0.2.1.fill (as.map (src B)++src B x::bs.map (src B)):=by rw[src,zbD e,bq,aB]
   have hl2:(as.map (src B)++src B x::bs.map (src B)).length=t0.2.1.nb:=by rw[←hl];simp
   rw[e1];obtain⟨k,h0,c,d,hL⟩:=F.lf t0 hu;refine⟨_,znQ (n:=n+dts (as.map (src B)++src B x::bs.map (src B))) K.b.ti t0.2.1 p (K.b.lf t0 hu).hb (by rw[hl2];exact(K.b.lf t0 hu).fits) (by simp) (ztc _ _ λa s1 us1 ha=>?_) (zrD hL p λj e' hj t u h2 h3=>?_)⟩
   ·rw[aV,fI];rintro rfl;obtain⟨b,hb,rfl⟩:=aM.mp (bp ee);have hb1:=(zde hb).1;rw[zlH _ _ hb1,(zde hb).2.1]at ha;cases q with
    |nil=>rw[zdL]at ha;cases ha
    |cons i q=>cases ha
   ·rcases zpi h2 h3 with⟨rfl,rfl,rfl⟩ |⟨ne,rfl,hm⟩
    ·rw[ap,ee]at hj;cases hj;have:=hn.mono (m:=n+dts (as.map (src B)++src B x::bs.map (src B))) (by omega);rw[bw]at this;exact this
    ·rw[ap]at ne;have hsh:Sh ws B t:=by
      rcases hm with hm |hm
      ·obtain⟨z,hz,rfl⟩:=aM.mp hm;exact Sh.of K (kid z (by simp [hz]))
      ·obtain⟨z,hz,rfl⟩:=aM.mp hm;exact Sh.of K (kid z (by simp [hz]))
     have hd:=zbw (bp h2);refine zqT K _ _ _ (by omega) hsh λr hr=>?_;rw[aV,bw,fI]at hr;exact zps hj ee ne r q hr
end
mutual
theorem Wi.bd{B:List Tn}{wn:List (List Int)}(O:Ort B):∀{n:Nat}{p:List Int}{t u:Tr},Wi B wn n p t u→Wi B wn t.depth p t u
 |_,_,_,_, .no (ts:=ts) h1 h2 h3=>by
  rw[Tr.depth,dh];exact .no h1 h2 (Wis.bd O h3)
 |_,_,_,_, .yes (ts:=ts) (ms:=ms) h1 h2 h3 h4 h5=>by
  rw[Tr.depth,dh];exact .yes h1 h2 h3 h4 ((Wis.bd O h5).mono (zsA O (b6 h2) h3))
theorem Wis.bd{B:List Tn}{wn:List (List Int)}(O:Ort B):∀{n:Nat}{p:List Int}{qs:List (List Int)}{ts us:List Tr},Wis B wn n p qs ts us→Wis B wn (dts ts) p qs ts us
 |_,_,_,_,_, .nil=> .nil
 |_,_,_,_,_, .cons a b=>by
  rw[dts];exact .cons ((Wi.bd O a).mono (by omega)) ((Wis.bd O b).mono (by omega))
end
structure Ms where
  c0:Nat
  c1:Nat
  k:Tn→Nat→Nat
mutual
noncomputable def Tr.ms (B:List Tn) (m:Ms):Tr→Nat
 | .bl _=>0
 | .nd s ts=>match zaw B s with
  |none=>m.c0+mss B m (λ_=>1) 0 ts
  |some t=>m.c1+mss B m (m.k t) 0 ts
noncomputable def mss (B:List Tn) (m:Ms) (f:Nat→Nat) (i:Nat):List Tr→Nat
 | []=>0
 |t::ts=>f i*t.ms B m+mss B m f (i+1) ts
end
section
variable {B:List Tn}{m:Ms}{f g:Nat→Nat}
theorem zbe{s:Str}{ts:List Tr}(h:zaw B s=none):(Tr.nd s ts).ms B m=m.c0+mss B m (λ_=>1) 0 ts:=by rw[Tr.ms,h]
theorem zaW{s:Str}{ts:List Tr}{t:Tn}(h:zaw B s=ae t):(Tr.nd s ts).ms B m=m.c1+mss B m (m.k t) 0 ts:=by rw[Tr.ms,h]
theorem zaZ{x:Tr}{bs:List Tr}:∀(as:List Tr) (i:Nat),mss B m f i (as++x::bs)=mss B m f i as+(f (i+as.length)*x.ms B m+mss B m f (i+as.length+1) bs)
 | [],i=>by rw[aN,mss,mss];simp
 |a::as,i=>by
  rw[bW,mss,mss,zaZ as (i+1),aW];rw[show i+1+as.length=i+(as.length+1) by omega]
  omega
theorem ziX:∀(ts:List Tr) (i:Nat),(∀j,f j≤g j)→mss B m f i ts≤mss B m g i ts
 | [],i,h=>by rw[mss,mss];exact au _
 |t::ts,i,h=>by
  rw[mss,mss];have h1:=j7 (t.ms B m) (h i);have h2:=ziX ts (i+1) h;omega
theorem zkS:∀(ts:List Tr) (i:Nat),mss B m (λj=>f j+g j) i ts=mss B m f i ts+mss B m g i ts
 | [],i=>by rw[mss,mss,mss]
 |t::ts,i=>by
  rw[mss,mss,mss,zkS ts (i+1),dN];omega
theorem zlA:∀(ts:List Tr) (i:Nat),mss B m (λ_=>0) i ts=0
 | [],i=>by rw[mss]
 |t::ts,i=>by rw[mss,zlA ts (i+1),Nat.zero_mul]
theorem zoo{n:Nat}:∀(ts:List Tr) (i:Nat) {t:Tr},i≤n→ts[n - i]? =ae t→mss B m (λj=>if(j:Int)=(n:Int) then 1 else 0) i ts=t.ms B m
 | [],i,t,hi,h=>by simp at h
 |u::ts,i,t,hi,h=>by
  rw[mss];by_cases e:i=n
  ·subst e;rw[fN]at h;cases h;have z:mss B m (λj=>if(j:Int)=(i:Int) then 1 else 0) (i+1) ts=0:=by
    have:∀(ts:List Tr) (k:Nat),i<k→mss B m (λj=>if(j:Int)=(i:Int) then 1 else 0) k ts=0:=by
     intro ts
     induction ts with
     |nil=>intro k _;rw[mss]
     |cons u ts ih=>
      intro k hk;rw[mss,ih (k+1) (by omega)];rw[if_neg (by omega),Nat.zero_mul]
    exact this ts _ (by omega)
   rw[z];simp
  ·have:=zoo (n:=n) ts (i+1) (t:=t) (by omega) (by
    rw[show n - i=n - (i+1)+1 by omega,d5]at h
    exact h)
   rw[this,if_neg (by omega)];simp
noncomputable def cn (t:Tr) (j:Nat):Nat:=t.nm.count (j:Int)
mutual
theorem zeu (hB:∀t∈B,zbp t.1) {us:List Tr}:∀t:Tr,t.hb zbG→t.fits us.length→(t.fill us).ms B m=m.c0*t.sg+mss B m (cn t) 0 us
 | .bl n,h,ft=>by
  rw[Tr.fits]at ft;have hl:n.toNat<us.length:=by omega
  rw[Tr.fill,aY,aJ hl,eW,Tr.sg,Nat.mul_zero,ca];rw[←zoo (m:=m) (B:=B) (n:=n.toNat) us 0 (aX _) (aJ hl)];congr 1;funext j;unfold cn;rw[Tr.nm,List.count_singleton,cr ft.1];by_cases e:(j:Int)=n
  ·rw[if_pos e,if_pos (by rw[e];exact beq_self_eq_true _)]
  ·rw[if_neg e,if_neg (λz=>e (by rw[beq_iff_eq]at z;omega))]
 | .nd s ts,h,ft=>by
  rw[Tr.fits]at ft;rw[Tr.hb]at h;rw[Tr.fill,zbe (zay hB h.1),zmp hB ts h.2 ft 0,Tr.sg];have:cn (.nd s ts)=λ(j:Nat)=>(nms ts).count (j:Int):=by
   funext j;unfold cn;rw[Tr.nm]
  rw[this,f9,Nat.mul_one];omega
theorem zmp (hB:∀t∈B,zbp t.1) {us:List Tr}:∀ts:List Tr,hbs zbG ts→fitss us.length ts→ ∀i,mss B m (λ_=>1) i (fills us ts)=m.c0*sgs ts+mss B m (λj=>(nms ts).count (j:Int)) 0 us
 | [],h,ft,i=>by
  have:(λj:Nat=>(nms []).count (j:Int))=λ_=>0:=by
   funext j;rw[nms];rfl
  rw[fills,mss,sgs,this,zlA];rfl
 |t::ts,h,ft,i=>by
  rw[fitss]at ft;rw[hbs]at h;have:(λj:Nat=>(nms (t::ts)).count (j:Int))=λj=>cn t j+(nms ts).count (j:Int):=by
   funext j;unfold cn;rw[nms,List.count_append]
  rw[fills,mss,zeu hB t h.1 ft.1,zmp hB ts h.2 ft.2 (i+1),sgs,this,zkS,fS,f9 m.c0 t.sg];omega
end
end
noncomputable def mF:Ms:=⟨0,1,λt i=>if(i:Int)∈t.2.2.nm then 1 else 0⟩
noncomputable def mM:Ms:=⟨0,1,λt i=>max 1 (cn t.2.2 i)⟩
noncomputable def mP:Ms:=⟨1,3,λ_ _=>2⟩
mutual
noncomputable def Tr.dm (B:List Tn):Tr→Nat
 | .bl _=>0
 | .nd s ts=>match zaw B s with
  |none=>1+dms B ts
  |some _=>3+dms B ts
noncomputable def dms (B:List Tn):List Tr→Nat
 | []=>0
 |t::ts=>max (t.dm B) (dms B ts)
end
section
variable {B:List Tn}
theorem zgv{s:Str}{ts:List Tr}(h:zaw B s=none):(Tr.nd s ts).dm B=1+dms B ts:=by rw[Tr.dm,h]
theorem zgm{s:Str}{ts:List Tr}{t:Tn}(h:zaw B s=ae t):(Tr.nd s ts).dm B=3+dms B ts:=by rw[Tr.dm,h]
theorem zgc{x:Tr}{bs:List Tr}:∀(as:List Tr),dms B (as++x::bs)=max (dms B as) (max (x.dm B) (dms B bs))
 | []=>by rw[aN,dms,dms,Nat.zero_max]
 |a::as=>by rw[bW,dms,dms,zgc as,i7]
theorem zoa{x:Tr}:∀{ts:List Tr},x∈ts→x.dm B≤dms B ts
 |t::ts,h=>by
  rw[dms];rcases ax.mp h with rfl |h
  ·omega
  ·have:=zoa h;omega
mutual
theorem zkt (hB:∀t∈B,zbp t.1) {us:List Tr}:∀t:Tr,t.hb zbG→t.fits us.length→(t.fill us).dm B≤t.sd+dms B us
 | .bl n,h,ft=>by
  rw[Tr.fits]at ft;have hl:n.toNat<us.length:=by omega
  rw[Tr.fill,aY,aJ hl,eW,Tr.sd,ca];exact zoa (c5 ..)
 | .nd s ts,h,ft=>by
  rw[Tr.fits]at ft;rw[Tr.hb]at h;have:=zlj hB ts h.2 ft;rw[Tr.fill,zgv (zay hB h.1),Tr.sd];omega
theorem zlj (hB:∀t∈B,zbp t.1) {us:List Tr}:∀ts:List Tr,hbs zbG ts→fitss us.length ts→dms B (fills us ts)≤sds ts+dms B us
 | [],h,ft=>by rw[fills,dms];omega
 |t::ts,h,ft=>by
  rw[fitss]at ft;rw[hbs]at h;have h1:=zkt hB t h.1 ft.1;have h2:=zlj hB ts h.2 ft.2;rw[fills,dms,sds];omega
end
mutual
theorem zpv{us:List Tr}:∀t:Tr,t.fits us.length→(t.fill us).depth≤t.sd+dts us
 | .bl n,ft=>by
  rw[Tr.fits]at ft;have hl:n.toNat<us.length:=by omega
  rw[Tr.fill,aY,aJ hl,eW,Tr.sd,ca];exact zbw (c5 ..)
 | .nd s ts,ft=>by
  rw[Tr.fits]at ft;have:=zlY ts ft;rw[Tr.fill,Tr.depth,Tr.sd];omega
theorem zlY{us:List Tr}:∀ts:List Tr,fitss us.length ts→dts (fills us ts)≤sds ts+dts us
 | [],ft=>by rw[fills,dts];omega
 |t::ts,ft=>by
  rw[fitss]at ft;have h1:=zpv t ft.1;have h2:=zlY ts ft.2;rw[fills,dts,sds];omega
end
theorem zlM{n:Nat}{h c d:Str}{L:Tr}(hL:L∈leftsL n h c d):RX L:=by
 have key:∀{M:Tr},M.sg≤3→M.sd≤3→(∀n∈M.nm,M.nm.count n≤2)→RX M:=λh1 h2 h3=>⟨h1,h2,zxi h3⟩;unfold leftsL at hL;split at hL<;>simp only[ax,a_,or_false]at hL<;>(try rcases hL with rfl |rfl)<;>(try subst hL)<;>exact key (by simp [Tr.sg,sgs]) (by simp [Tr.sd,sds]) (by simp only[Tr.nm,nms,aN,bv,bW]<;>decide)
theorem Bk3.rsig (K:Bk3 ws B) {t:Tn}(ht:t∈B):t.2.2.hb zbG:=(K.b.ri t ht).hb K.b.sg
theorem Sg.few (K:Bk3 ws B) {x s y:Tr}(h:Sg B x s y) (hx:Wy ws B x):x.ms B mF≤y.ms B mF+1:=by
 induction h with
 | @here h ts t e=>
  rcases Wy.cases K.b hx with⟨s,as,e1,_,e2,_⟩ |⟨u,as,hu,e1,e2,hl,_⟩
  ·cases e1;rw[e]at e2;cases e2
  ·cases e1;rw[e]at e2;cases e2;rw[zaW e,zeu K.b.ti _ (K.rsig hu) (by rw[hl];exact(K.b.ri t hu).fits)];have:mss B mF (mF.k t) 0 ts≤mss B mF (cn t.2.2) 0 ts:=ziX ts 0 λj=>by
    show(if(j:Int)∈t.2.2.nm then 1 else 0)≤cn t.2.2 j;split
    ·rename_i m;exact List.count_pos_iff.mpr m
    ·omega
   have h1:mF.c0=0:=rfl;have h2:mF.c1=1:=rfl;rw[h1,h2];omega
 | @sign h as bs x s y e _ ih=>
  have:=ih (hx.kids _ (by simp));rw[zbe e,zbe e,zaZ,zaZ];omega
 | @tit h t as bs x s y e _ ih=>
  have:=ih (hx.kids _ (by simp));rw[zaW e,zaW e,zaZ,zaZ];have hk:mF.k t (0+as.length)=0∨mF.k t (0+as.length)=1:=by
   show(if((0+as.length:Nat):Int)∈t.2.2.nm then 1 else 0)=0∨(if((0+as.length:Nat):Int)∈t.2.2.nm then 1 else 0)=1;split<;>simp
  rcases hk with hk |hk<;>rw[hk]<;>omega
theorem Sg.mos (K:Bk3 ws B) {x s y:Tr}(h:Sg B x s y) (hx:Wy ws B x):y.ms B mM+1≤x.ms B mM:=by
 induction h with
 | @here h ts t e=>
  rcases Wy.cases K.b hx with⟨s,as,e1,_,e2,_⟩ |⟨u,as,hu,e1,e2,hl,_⟩
  ·cases e1;rw[e]at e2;cases e2
  ·cases e1;rw[e]at e2;cases e2;rw[zaW e,zeu K.b.ti _ (K.rsig hu) (by rw[hl];exact(K.b.ri t hu).fits)];have:mss B mM (cn t.2.2) 0 ts≤mss B mM (mM.k t) 0 ts:=ziX ts 0 λj=>Nat.le_max_right _ _;have h1:mM.c0=0:=rfl;have h2:mM.c1=1:=rfl;rw[h1,h2];omega
 | @sign h as bs x s y e _ ih=>
  have:=ih (hx.kids _ (by simp));rw[zbe e,zbe e,zaZ,zaZ];omega
 | @tit h t as bs x s y e _ ih=>
  have:=ih (hx.kids _ (by simp));rw[zaW e,zaW e,zaZ,zaZ];have hk:1≤mM.k t (0+as.length):=Nat.le_max_left _ _;have h1:=gQ (mM.k t (0+as.length)) this;rw[f9,Nat.mul_one]at h1;omega
theorem mx3{a b b' c:Nat}(h:b≤b'):max a (max b c)≤max a (max b' c):=by omega
theorem Sg.pw (K:Bk3 ws B) (X:∀t∈B,RX t.2.2) {x s y:Tr}(h:Sg B x s y) (hx:Wy ws B x):y.ms B mP≤x.ms B mP∧y.dm B≤x.dm B:=by
 induction h with
 | @here h ts t e=>
  rcases Wy.cases K.b hx with⟨s,as,e1,_,e2,_⟩ |⟨u,as,hu,e1,e2,hl,_⟩
  ·cases e1;rw[e]at e2;cases e2
  ·cases e1;rw[e]at e2;cases e2;have ft:t.2.2.fits ts.length:=by rw[hl];exact(K.b.ri t hu).fits
   have r:=X t hu;rw[zaW e,zeu K.b.ti _ (K.rsig hu) ft,zgm e];have h3:=zkt K.b.ti t.2.2 (K.rsig hu) ft;have:mss B mP (cn t.2.2) 0 ts≤mss B mP (mP.k t) 0 ts:=ziX ts 0 λj=>r.ct _;have h1:mP.c0=1:=rfl;have h2:mP.c1=3:=rfl;have h4:=r.sg;have h5:=r.sd;rw[h1,h2];omega
 | @sign h as bs x s y e _ ih=>
  obtain⟨i1,i2⟩:=ih (hx.kids _ (by simp));rw[zbe e,zbe e,zaZ,zaZ,zgv e,zgv e,zgc,zgc];exact⟨by omega,eB (mx3 i2) 1⟩
 | @tit h t as bs x s y e _ ih=>
  obtain⟨i1,i2⟩:=ih (hx.kids _ (by simp));rw[zaW e,zaW e,zaZ,zaZ,zgm e,zgm e,zgc,zgc];have h1:mP.k t (0+as.length)=2:=rfl;rw[h1];exact⟨by omega,eB (mx3 i2) 3⟩
theorem zsZ (K:Bk3 ws B) (F:Lfs B):∀(n:Nat) (x:Tr),x.weight≤n→Wy ws B x→(src B x).weight≤x.ms B mP∧(src B x).depth≤x.dm B
 |0,x,hn,hx=>by have:=zbH x;omega
 |n+1,x,hn,hx=>by
  have sum:∀(ts:List Tr) (f:Nat→Nat) (i:Nat),(∀j,1≤f j)→(∀z∈ts,z.weight≤n∧Wy ws B z)→wts (ts.map (src B))≤mss B mP f i ts∧dts (ts.map (src B))≤dms B ts:=by
   intro ts f
   induction ts with
   |nil=>intro i _ _;simp [wts,dts]
   |cons z ts ih=>
    intro i hf hz;obtain⟨i1,i2⟩:=ih (i+1) hf λw hw=>hz w (aC _ hw);obtain⟨h1,h2⟩:=zsZ K F n z (hz z aK).1 (hz z aK).2;have h3:=j7 (z.ms B mP) (hf i);rw[aB,wts,dts,mss,dms];omega
  rcases Wy.cases K.b hx with⟨s,ts,rfl,_,e,k⟩ |⟨t,ts,ht,rfl,e,hl,k⟩
  ·rw[Tr.weight]at hn;obtain⟨h1,h2⟩:=sum ts (λ_=>1) 0 (λ_=>au _) λz hz=>⟨by have:=zaL hz;omega,k z hz⟩;have es:src B (.nd s ts)= .nd s (ts.map (src B)):=by rw[src,zcC e]
   rw[es,zbe e,zgv e,Tr.weight,Tr.depth];have h3:mP.c0=1:=rfl;rw[h3];exact⟨by omega,by omega⟩
  ·rw[Tr.weight]at hn;obtain⟨h1,h2⟩:=sum ts (mP.k t) 0 (λ_=>(by decide:1≤2)) λz hz=>⟨by have:=zaL hz;omega,k z hz⟩;have hl':(ts.map (src B)).length=t.2.1.nb:=by rw[ap,hl]
   have h3:=(K.b.lf t ht).fw _ hl';obtain⟨_,_,_,_,hL⟩:=F.lf t ht;have h4:=zpv (us:=ts.map (src B)) t.2.1 (by rw[hl'];exact(K.b.lf t ht).fits);have h5:=(zlM hL).sd;have es:src B (.nd t.1 ts)=t.2.1.fill (ts.map (src B)):=by rw[src,zbD e]
   rw[es,zaW e,zgm e];have h6:mP.c1=3:=rfl;rw[h6];exact⟨by omega,by omega⟩
end
theorem zoL{m1 m2 s1 s2 a b:Nat}(ha:1≤a) (hb:1≤b) (h1:m1+3≤(s1+3)*a) (h2:m2+3≤(s2+3)*b):m1+m2+3≤(s1+s2+3)*(a*b):=by
 have e1:s1*a≤s1*(a*b):=gQ _ (Nat.le_mul_of_pos_right _ hb);have e2:s2*b≤s2*(a*b):=gQ _ (Nat.le_mul_of_pos_left _ ha);have e3:a+b≤a*b+1:=by
  obtain⟨a,rfl⟩:∃a',a=a'+1:=⟨a - 1,by omega⟩
  obtain⟨b,rfl⟩:∃b',b=b'+1:=⟨b - 1,by omega⟩
  rw[f9,dN];omega
 rw[dN]at h1 h2;rw[dN,dN];omega
section
variable {ws hs:List Str}{B:List Tn}{c:Int→Nat}
theorem zoT{m:Ms}{ts:List Tr}{i:Nat}:mss B m (λ_=>2) i ts=2*mss B m (λ_=>1) i ts:=by
 have:=zkS (B:=B) (m:=m) (f:=λ_=>1) (g:=λ_=>1) ts i;rw[show(λ_:Nat=>2)=λ_=>1+1 from rfl,this];omega
theorem zzD (b:BkOk ws hs B) (X:∀t∈B,RX t.2.2) (F:Lfs B) {p:Pl}(h:PlOk hs B p):p.nt≤p.wt∧(p.ev B c).ms B mP+3≤(p.wt - p.nt+3)*2 ^ p.nt∧(p.ev B c).dm B≤p.wt+2*p.nt:=by
 have sum:∀ps:List Pl,(∀p∈ps,p.nt≤p.wt∧(p.ev B c).ms B mP+3≤(p.wt - p.nt+3)*2 ^ p.nt∧(p.ev B c).dm B≤p.wt+2*p.nt)→ ∀i,pnts ps≤pwts ps∧mss B mP (λ_=>1) i (ps.map (Pl.ev B c))+3≤(pwts ps - pnts ps+3)*2 ^ pnts ps∧dms B (ps.map (Pl.ev B c))≤pwts ps+2*pnts ps:=by
  intro ps
  induction ps with
  |nil=>intro _ i;simp [pnts,pwts,mss,dms]
  |cons p ps ih=>
   intro h i;obtain⟨a1,a2,a3⟩:=h p aK;obtain⟨b1,b2,b3⟩:=ih (λq hq=>h q (aC _ hq)) (i+1);rw[pnts,pwts,aB,mss,dms,fS];have:=zoL (eX (n:=p.nt)) (eX (n:=pnts ps)) a2 b2;rw[←Nat.pow_add]at this;refine⟨by omega,?_,by omega⟩
   rw[show p.wt+pwts ps - (p.nt+pnts ps)=p.wt - p.nt+(pwts ps - pnts ps) by omega]
   exact this
 induction h with
 | @sign b' h ps hh hp ih=>
  obtain⟨b1,b2,b3⟩:=sum ps ih 0;have e:=zay b.ti (b.sg h (b.sb h hh));have h1:mP.c0=1:=rfl;have h2:=eX (n:=pnts ps);rw[zbL,zbe e,zgv e,Pl.nt,Pl.wt,if_pos (by decide),h1,ca];refine⟨by omega,?_,by omega⟩
  rw[show 1+pwts ps - pnts ps+3=(pwts ps - pnts ps+3)+1 by omega,dN]
  omega
 | @turn k b' h ps t e hl b0 b1 hp ih=>
  obtain⟨i1,i2,i3⟩:=sum ps ih 0;have ht:t∈B:=bp e;have hl':(ps.map (Pl.ev B c)).length=t.2.1.nb:=by rw[ap,hl]
  have fill:∀R:Tr,RX R→R.hb zbG→R.fits t.2.1.nb→(R.fill (ps.map (Pl.ev B c))).ms B mP≤3+2*mss B mP (λ_=>1) 0 (ps.map (Pl.ev B c))∧(R.fill (ps.map (Pl.ev B c))).dm B≤3+dms B (ps.map (Pl.ev B c)):=λR r hb ft=>by
   have q1:=zeu (B:=B) (m:=mP) b.ti (us:=ps.map (Pl.ev B c)) R hb (by rw[hl'];exact ft);have q2:=zkt (B:=B) b.ti (us:=ps.map (Pl.ev B c)) R hb (by rw[hl'];exact ft);have q3:mss B mP (cn R) 0 (ps.map (Pl.ev B c))≤mss B mP (λ_=>2) 0 (ps.map (Pl.ev B c)):=ziX _ 0 λj=>r.ct _;rw[zoT]at q3;have h1:mP.c0=1:=rfl;rw[h1]at q1;have:=r.sg;have:=r.sd;exact⟨by omega,by omega⟩
  have all:(evT t (c b') (ps.map (Pl.ev B c))).ms B mP≤3+2*mss B mP (λ_=>1) 0 (ps.map (Pl.ev B c))∧(evT t (c b') (ps.map (Pl.ev B c))).dm B≤3+dms B (ps.map (Pl.ev B c)):=by
   unfold evT;split
   ·obtain⟨_,_,_,_,hL⟩:=F.lf t ht;exact fill _ (zlM hL) (b.lf t ht).hb (b.lf t ht).fits
   ·have et:=zcJ b.nd ht;rw[zaW et,zgm et];have h1:mP.c1=3:=rfl;have h2:mss B mP (mP.k t) 0 (ps.map (Pl.ev B c))=mss B mP (λ_=>2) 0 (ps.map (Pl.ev B c)):=rfl;rw[h1,h2,zoT];exact⟨au _,au _⟩
   ·exact fill _ (X t ht) ((b.ri t ht).hb b.sg) (b.ri t ht).fits
  rw[zbj e,Pl.nt,Pl.wt,if_neg (by omega)];refine⟨by omega,?_,by omega⟩
  rw[show 1+pwts ps - (1+pnts ps)=pwts ps - pnts ps by omega,Nat.pow_add,Nat.pow_one,Nat.mul_comm 2,←Nat.mul_assoc]
  omega
theorem Pw.pw{w0 w1 w2 w3 w4 w5:Str}{tt:List Str}{p:Pl}(u:Pw w0 w1 w2 w3 w4 w5 tt B p) (X:∀t∈B,RX t.2.2) (F:Lfs B):(p.ev B c).ms B mP≤400∧(p.ev B c).dm B≤40:=by
 obtain⟨h1,h2,h3⟩:=zzD (c:=c) u.k X F u.o;have hw:=u.w;have hn:=u.n;refine⟨?_,by omega⟩
 generalize p.nt=n at *;generalize p.wt=w at *;have:n=0∨n=1∨n=2∨n=3∨n=4:=by omega
 rcases this with rfl |rfl |rfl |rfl |rfl<;>simp at h2<;>omega
theorem BookOk.lfs{w0 w1 w2 w3 w4 w5:Str}{tt:List Str}(b:BookOk w0 w1 w2 w3 w4 w5 tt B) (G:Signs w0 w1 w2 w3 w4 w5):Lfs B:=⟨λt ht us hu=>b.open_some G ht hu,λt ht=>by
 obtain⟨n,m,e⟩:=b.lf;have:t.2.1∈leftsL n w0 w2 w3++leftsL m w1 w2 w3:=by rw[←e];exact aM.mpr ⟨t,ht,rfl⟩
 rcases bb.mp this with z |z
 ·exact⟨_,_,_,_,z⟩
 ·exact⟨_,_,_,_,z⟩⟩
end
mutual
theorem zqi:∀(t:Tr) (p:List Int),((t.plt p).filter λx=>x.2.isBl).map (λx=>x.2.num)=t.nm
 | .bl n,p=>by simp [Tr.plt,Tr.isBl,Tr.nm,Tr.num]
 | .nd s ts,p=>by
  rw[Tr.plt,jZ (by simp [Tr.isBl]),Tr.nm];exact zlF ts p 0
theorem zlF:∀(ts:List Tr) (p:List Int) (i:Nat),((zdD p i ts).filter λx=>x.2.isBl).map (λx=>x.2.num)=nms ts
 | [],p,i=>by simp [zdD,nms]
 |t::ts,p,i=>by rw[zdD,iM,bq,zqi t,zlF ts,nms]
end
theorem zkq (t:Tr):t.nums=t.nm:=zqi t []
section
variable {ws:List Str}{B:List Tn}{a f:Addr}
noncomputable def flF (B:List Tn) (ns:List Int):Nat→List Tr→List Int
 |_,[]=>[]
 |i,t::ts=>if ns.contains (i:Int) then(t.ms B mF:Int)::flF B ns (i+1) ts else flF B ns (i+1) ts
theorem zqb{t:Tn}:∀(ts:List Tr) (i:Nat),(flF B t.2.2.nm i ts).sum=(mss B mF (mF.k t) i ts:Nat)∧(flF B t.2.2.nm i ts).length≤ts.length
 | [],i=>by rw[flF,mss];exact⟨rfl,au _⟩
 |u::ts,i=>by
  obtain⟨h1,h2⟩:=zqb (t:=t) ts (i+1);rw[flF,mss];have hk:mF.k t i=if(i:Int)∈t.2.2.nm then 1 else 0:=rfl;by_cases m:(i:Int)∈t.2.2.nm
  ·rw[if_pos (jj.mpr m),dH,h1,hk,if_pos m];refine⟨by push_cast;omega,by simp;omega⟩
  ·rw[if_neg (λz=>m (jj.mp z)),h1,hk,if_neg m];refine⟨by push_cast;omega,by simp;omega⟩
noncomputable def flM (B:List Tn) (ns:List Int):Nat→List Tr→List Int
 |_,[]=>[]
 |i,t::ts=>(max 1 (ns.count (i:Int))*t.ms B mM:Nat)::flM B ns (i+1) ts
theorem zpq{t:Tn}:∀(ts:List Tr) (i:Nat),(flM B t.2.2.nm i ts).sum=(mss B mM (mM.k t) i ts:Nat)∧(flM B t.2.2.nm i ts).length≤ts.length
 | [],i=>by rw[flM,mss];exact⟨rfl,au _⟩
 |u::ts,i=>by
  obtain⟨h1,h2⟩:=zpq (t:=t) ts (i+1);rw[flM,mss,dH,h1];have hk:mM.k t i=max 1 (t.2.2.nm.count (i:Int)):=rfl;rw[hk];refine⟨by push_cast;rfl,by simp;omega⟩
theorem zhF{r:Nat}{S:Sto}{E:WX}{G:Sto→Prop}{Q:List W→Sto→Prop}{ns:List Int}(hG:G S) (hf:S f=ae (.lst (ns.map W.int))):∀(ts:List Tr) (i:Nat) (acc:List Int) (x0 x1:Option W),(∀t∈ts,∀{Q:WK}{E:Str→Sto→Prop},Q (.int (t.ms B mF:Nat)) S→zbz r [.ref a,enc t] S Q E)→acc.length+ts.length≤100000→Q ((acc++flF B ns i ts).map W.int) S→
  zcE (wGT (zav (wGN 0) (zav (wGN 1) zcD))) (wTb (wOp (oIn false) (wVar 0) (wVar 3))) (zfg r (zbz r)) E G Q (nums i (encs ts)) (acc.map W.int) [x0,x1,ae (.ref a),ae (.ref f)] S
 | [],i,acc,x0,x1,one,hl,h=>by
  simp only[encs,nums,zcE];rw[flF,bv]at h;exact h
 |t::ts,i,acc,x0,x1,one,hl,h=>by
  rw[aW]at hl;simp only[encs,nums,zcE];walk_at "wp";rw[zal hf,zoM];rw[flF]at h;cases e:ns.contains (i:Int) with
  |true=>
   rw[e,if_pos rfl]at h;dsimp only;rw[if_pos rfl];unfold zfg;walk_at "wp";refine one t aK ⟨zbF (by rw[ap];omega),S, .refl,hG,?_⟩;have e2:acc.map W.int++[W.int (t.ms B mF:Nat)]=(acc++[((t.ms B mF:Nat):Int)]).map W.int:=by rw[bq];rfl
   rw[e2];exact zhF hG hf ts (i+1) _ _ _ (λu hu=>one u (aC _ hu)) (by rw[aZ];simp;omega) (by rw[bw];exact h)
  |false=>
   rw[e,if_neg (by decide)]at h;dsimp only;rw[if_neg (by decide)];exact⟨S, .refl,hG,zhF hG hf ts (i+1) _ _ _ (λu hu=>one u (aC _ hu)) (by omega) h⟩
theorem ziB{r:Nat}{S:Sto}{E:WX}{G:Sto→Prop}{Q:List W→Sto→Prop}(hG:G S):∀(ts:List Tr) (i:Nat) (acc:List Int) (x0:Option W),(∀t∈ts,∀{Q:WK}{E:Str→Sto→Prop},Q (.int (t.ms B mF:Nat)) S→zbz r [.ref a,enc t] S Q E)→acc.length+ts.length≤100000→(∀ys:List Int,ys.sum=acc.sum+(mss B mF (λ_=>1) i ts:Nat)→Q (ys.map W.int) S)→
  zcE (wGN 0) zfw (zfe r (zbz r)) E G Q (encs ts) (acc.map W.int) [x0,ae (.ref a)] S
 | [],i,acc,x0,one,hl,h=>by
  simp only[encs,zcE];exact h acc (by rw[mss];simp)
 |t::ts,i,acc,x0,one,hl,h=>by
  rw[aW]at hl;simp only[encs,zcE];walk_at "wp";unfold zfe;walk_at "wp";refine one t aK ⟨zbF (by rw[ap];omega),S, .refl,hG,?_⟩;have e2:acc.map W.int++[W.int (t.ms B mF:Nat)]=(acc++[((t.ms B mF:Nat):Int)]).map W.int:=by rw[bq];rfl
  rw[e2];refine ziB hG ts (i+1) _ _ (λu hu=>one u (aC _ hu)) (by rw[aZ];simp;omega) λys e=>h ys ?_;rw[e,mss,gl,fS]
  push_cast
  simp only[dH,List.sum_nil];omega
theorem zdQ (b:BkOk ws ws B):∀(d:Nat) {x:Tr}{r:Nat}{S:Sto}{Q:WK}{E:Str→Sto→Prop},x.depth≤d→d+15≤r→S a=ae (.lst (B.map zbi))→Wy ws B x→x.weight≤1000→Q (.int (x.ms B mF:Nat)) S→zbz (r+1) [.ref a,enc x] S Q E
 |0,x,r,S,Q,E,hd,hr,ha,hx,hw,h=>by have:=zaX x;omega
 |d+1,x,r,S,Q,E,hd,hr,ha,hx,hw,h=>by
  obtain⟨r,rfl⟩:∃r',r=r'+1:=⟨r - 1,by omega⟩
  rcases Wy.cases b hx with⟨s,ts,rfl,_,e,k⟩ |⟨t,ts,ht,rfl,e,hl,k⟩
  ·rw[Tr.depth]at hd;rw[Tr.weight]at hw;have hwl:=zbg ts;rw[zbe e]at h;rw[zbz];simp only[enc];walk_at "wp";refine zbO ha ?_;rw[e,zdf];walk_at "wp";refine ziB (B:=B) (a:=a) trivial ts 0 [] none (λu hu {Q E} q=>?_) (by simp;omega) λys ey=>?_
   ·exact zdQ b d (by have:=zbw hu;omega) (by omega) ha (k u hu) (by have:=zaL hu;omega) q
   ·rw[zbt];refine⟨S, .refl,?_⟩;rw[ey];simpa [mF]using h
  ·rw[Tr.depth]at hd;rw[Tr.weight]at hw;have hwl:=zbg ts;rw[zaW e]at h;rw[zbz];simp only[enc];walk_at "wp";refine zbO ha ?_;rw[e,zdf];simp only[zbi];walk_at "wp";rw[show atI [W.str t.1,enc t.2.1,enc t.2.2] 2=ae (enc t.2.2) from rfl];dsimp only;have rr:=b.ri t ht;have r4:=rr.dp;have r7:=rr.wt;refine ziJ (by omega) (by omega) λf hf=>?_;rw[zss,zkq];have fa:=keep (x:=Ob.lst (t.2.2.nm.map W.int)) ha hf;have ff:put S f (Ob.lst (t.2.2.nm.map W.int)) f=ae (.lst (t.2.2.nm.map W.int)):=zag;have sb:Sub S (put S f (Ob.lst (t.2.2.nm.map W.int))):= .put .refl hf;generalize put S f (Ob.lst (t.2.2.nm.map W.int))=S1 at fa ff sb⊢;obtain⟨q1,q2⟩:=zqb (B:=B) (t:=t) ts 0;refine zhF (B:=B) (a:=a) trivial ff ts 0 [] none none (λu hu {Q E} q=>?_) (by simp;omega) ?_
   ·exact zdQ b d (by have:=zbw hu;omega) (by omega) fa (k u hu) (by have:=zaL hu;omega) q
   ·rw[aN,zbt];refine⟨S,sb,?_⟩;rw[q1];have:((mF.c1+mss B mF (mF.k t) 0 ts:Nat):Int)=1+((mss B mF (mF.k t) 0 ts:Nat):Int):=by
     have h2:mF.c1=1:=rfl;rw[h2]
     push_cast
     rfl
    rw[←this];exact h
theorem zmz{r:Nat}{S:Sto}{E:WX}{G:Sto→Prop}{Q:List W→Sto→Prop}{ns:List Int}(hG:G S) (hf:S f=ae (.lst (ns.map W.int))) (hn:ns.length≤1000):∀(ts:List Tr) (i:Nat) (acc:List Int) (x0 x1:Option W),(∀t∈ts,∀{Q:WK}{E:Str→Sto→Prop},Q (.int (t.ms B mM:Nat)) S→zda r [.ref a,enc t] S Q E)→acc.length+ts.length≤100000→Q ((acc++flM B ns i ts).map W.int) S→
  zcE (wGT (zav (wGN 0) (zav (wGN 1) zcD))) zfw (zhy r (zda r)) E G Q (nums i (encs ts)) (acc.map W.int) [x0,x1,ae (.ref a),ae (.ref f)] S
 | [],i,acc,x0,x1,one,hl,h=>by
  simp only[encs,nums,zcE];rw[flM,bv]at h;exact h
 |t::ts,i,acc,x0,x1,one,hl,h=>by
  rw[aW]at hl;simp only[encs,nums,zcE];walk_at "wp";unfold zhy;walk_at "wp";rw[zuR];rw[flM]at h;simp only[zal hf];refine⟨trivial,ns,zbt ns,?_⟩;walk_at "wp";refine one t aK ?_;walk_at "wp";have hc:ns.count (i:Int)≤ns.length:=List.count_le_length;have em:(if((ns.count (i:Int):Nat):Int) > 1 then((ns.count (i:Int):Nat):Int) else 1)=((max 1 (ns.count (i:Int)):Nat):Int):=by split<;>omega
  rw[em];refine⟨.inl ⟨by omega,by omega⟩,zbF (by rw[ap];omega),S, .refl,hG,?_⟩
  have e2:acc.map W.int++[W.int (((max 1 (ns.count (i:Int)):Nat):Int)*(t.ms B mM:Nat))]=(acc++[((max 1 (ns.count (i:Int))*t.ms B mM:Nat):Int)]).map W.int:=by
   rw[bq]
   push_cast
   rfl
  rw[e2];exact zmz hG hf hn ts (i+1) _ _ _ (λu hu=>one u (aC _ hu)) (by rw[aZ];simp;omega) (by rw[bw];exact h)
theorem ziv{r:Nat}{S:Sto}{E:WX}{G:Sto→Prop}{Q:List W→Sto→Prop}(hG:G S):∀(ts:List Tr) (i:Nat) (acc:List Int) (x0:Option W),(∀t∈ts,∀{Q:WK}{E:Str→Sto→Prop},Q (.int (t.ms B mM:Nat)) S→zda r [.ref a,enc t] S Q E)→acc.length+ts.length≤100000→(∀ys:List Int,ys.sum=acc.sum+(mss B mM (λ_=>1) i ts:Nat)→Q (ys.map W.int) S)→
  zcE (wGN 0) zfw (zhw r (zda r)) E G Q (encs ts) (acc.map W.int) [x0,ae (.ref a)] S
 | [],i,acc,x0,one,hl,h=>by
  simp only[encs,zcE];exact h acc (by rw[mss];simp)
 |t::ts,i,acc,x0,one,hl,h=>by
  rw[aW]at hl;simp only[encs,zcE];walk_at "wp";unfold zhw;walk_at "wp";refine one t aK ⟨zbF (by rw[ap];omega),S, .refl,hG,?_⟩;have e2:acc.map W.int++[W.int (t.ms B mM:Nat)]=(acc++[((t.ms B mM:Nat):Int)]).map W.int:=by rw[bq];rfl
  rw[e2];refine ziv hG ts (i+1) _ _ (λu hu=>one u (aC _ hu)) (by rw[aZ];simp;omega) λys e=>h ys ?_;rw[e,mss,gl,fS]
  push_cast
  simp only[dH,List.sum_nil];omega
theorem zgl (b:BkOk ws ws B):∀(d:Nat) {x:Tr}{r:Nat}{S:Sto}{Q:WK}{E:Str→Sto→Prop},x.depth≤d→d+15≤r→S a=ae (.lst (B.map zbi))→Wy ws B x→x.weight≤1000→Q (.int (x.ms B mM:Nat)) S→zda (r+1) [.ref a,enc x] S Q E
 |0,x,r,S,Q,E,hd,hr,ha,hx,hw,h=>by have:=zaX x;omega
 |d+1,x,r,S,Q,E,hd,hr,ha,hx,hw,h=>by
  obtain⟨r,rfl⟩:∃r',r=r'+1:=⟨r - 1,by omega⟩
  rcases Wy.cases b hx with⟨s,ts,rfl,_,e,k⟩ |⟨t,ts,ht,rfl,e,hl,k⟩
  ·rw[Tr.depth]at hd;rw[Tr.weight]at hw;have hwl:=zbg ts;rw[zbe e]at h;rw[zda];simp only[enc];walk_at "wp";refine zbO ha ?_;rw[e,zdf];walk_at "wp";refine ziv (B:=B) (a:=a) trivial ts 0 [] none (λu hu {Q E} q=>?_) (by simp;omega) λys ey=>?_
   ·exact zgl b d (by have:=zbw hu;omega) (by omega) ha (k u hu) (by have:=zaL hu;omega) q
   ·rw[zbt];refine⟨S, .refl,?_⟩;rw[ey];simpa [mM]using h
  ·rw[Tr.depth]at hd;rw[Tr.weight]at hw;have hwl:=zbg ts;rw[zaW e]at h;rw[zda];simp only[enc];walk_at "wp";refine zbO ha ?_;rw[e,zdf];simp only[zbi];walk_at "wp";rw[show atI [W.str t.1,enc t.2.1,enc t.2.2] 2=ae (enc t.2.2) from rfl];dsimp only;have rr:=b.ri t ht;have r4:=rr.dp;have r7:=rr.wt;refine ziJ (by omega) (by omega) λf hf=>?_;rw[zss,zkq];have fa:=keep (x:=Ob.lst (t.2.2.nm.map W.int)) ha hf;have ff:put S f (Ob.lst (t.2.2.nm.map W.int)) f=ae (.lst (t.2.2.nm.map W.int)):=zag;have sb:Sub S (put S f (Ob.lst (t.2.2.nm.map W.int))):= .put .refl hf;generalize put S f (Ob.lst (t.2.2.nm.map W.int))=S1 at fa ff sb⊢;obtain⟨q1,q2⟩:=zpq (B:=B) (t:=t) ts 0;refine zmz (B:=B) (a:=a) trivial ff (by have:=zoh t.2.2;rw[zkq]at this;omega) ts 0 [] none none (λu hu {Q E} q=>?_) (by simp;omega) ?_
   ·exact zgl b d (by have:=zbw hu;omega) (by omega) fa (k u hu) (by have:=zaL hu;omega) q
   ·rw[aN,zbt];refine⟨S,sb,?_⟩;rw[q1];have:((mM.c1+mss B mM (mM.k t) 0 ts:Nat):Int)=1+((mss B mM (mM.k t) 0 ts:Nat):Int):=by
     have h2:mM.c1=1:=rfl;rw[h2]
     push_cast
     rfl
    rw[←this];exact h
end
section
variable {ws:List Str}{B:List Tn}
theorem zph{p:List Int}{y:List Int×Str}:∀(ts:List Tr) (k i:Nat) {w:Tr},ts[i]? =ae w→y∈w.op B (p++[((k+i:Nat):Int)])→y∈ops B p k ts
 | [],k,i,w,e,h=>by simp at e
 |t::ts,k,0,w,e,h=>by
  rw[fT]at e;cases e;rw[ops];exact bO _ h
 |t::ts,k,i+1,w,e,h=>by
  rw[d5]at e;rw[ops];refine a8 _ (zph ts (k+1) i e ?_);rw[show k+1+i=k+(i+1) by omega]
  exact h
theorem zya:∀(q:List Int) {t v:Tr}{p:List Int}{u:Tn},t.at q=ae v→zdx B v=ae u→v.isBl=false→(p++q,u.1)∈t.op B p
 | [],t,v,p,u,h,ho,hb=>by
  rw[zdL]at h;cases h;cases t with
  |bl n=>cases hb
  |nd s ts=>
   rw[Tr.op,ho,bv];exact bO _ aK
 |i::q, .bl n,v,p,u,h,ho,hb=>by cases h
 |i::q, .nd s ts,v,p,u,h,ho,hb=>by
  obtain⟨w,h0,h1,h2⟩:=zrm h;obtain⟨j,rfl⟩:∃j:Nat,i=j:=⟨i.toNat,(cr h0).symm⟩;rw[bU]at h1;rw[Tr.op];refine a8 _ (zph ts 0 j h1 ?_);have:=zya q (p:=p++[(j:Int)]) h2 ho hb;rw[ca];rw[bw]at this;exact this
theorem zmB (K:Bk3 ws B):∀(n:Nat) {x:Tr}{p:List Int},x.weight≤n→Wy ws B x→x.us B p=[]→x.hd zbG
 |0,x,p,hn,hx,h=>by have:=zbH x;omega
 |n+1,x,p,hn,hx,h=>by
  rcases Wy.cases K.b hx with⟨s,ts,rfl,hs,e,k⟩ |⟨t,ts,ht,rfl,e,hl,k⟩
  ·rw[zkJ e]at h;rw[Tr.weight]at hn;rw[Tr.hd];refine⟨K.b.sg s hs,hds_iff.mpr λz hz=>?_⟩;obtain⟨as,bs,rfl⟩:=List.append_of_mem hz;have hzw:=zaL hz;have key:∀(as bs:List Tr) (k:Nat),usz B p ((gv k (as++z::bs).length).map λ(i:Nat)=>[(i:Int)]) (as++z::bs)=[]→ ∃q,z.us B q=[]:=by
    intro as
    induction as with
    |nil=>
     intro bs k h;rw[aN,aW,gq,aB,usz]at h;exact⟨_,(iS.mp h).1⟩
    |cons a as ih=>
     intro bs k h;rw[bW,aW,gq,aB,usz]at h;exact ih bs (k+1) (iS.mp h).2
   rw[iT]at h;obtain⟨q,hq⟩:=key as bs 0 h;exact zmB K n (by omega) (k z hz) hq
  ·rw[zhr e]at h;cases h
end
section
variable {ws:List Str}{B:List Tn}{x y:Tr}{S:Sto}{a:Addr}{r:Nat}{Q:WK}{E:Str→Sto→Prop}
theorem Cel.ok_one (h:Cel ws B x y) (ha:S a=ae (.lst (B.map zbi))) (hr:62≤r) (q:Q (enc (src B x)) S):zbU (r+1) [.ref a,enc x,enc y] S Q E:=by
 obtain⟨d1,w1,a1,h1⟩:=h.K.fitw h.wx (by rw[h.e];exact h.sm);obtain⟨d2,w2,a2,h2⟩:=h.K.fitw h.wy h.sm;obtain⟨s1,s2⟩:=zfB h.sm;obtain⟨r,rfl⟩:∃r',r=r'+1:=⟨r - 1,by omega⟩
 have e1:x.mk B (zat 1)=src B x:=by rw[zqZ]
 have e2:y.mk B (zat 1)=src B x:=by rw[zqZ];exact h.e.symm
 rw[←h.e]at s1 s2;rw[zbU];walk_at "wp";refine ziF ha h.K.b.s1 d1 (by omega) a1 (by omega) (by rw[e1];exact s1) (by rw[e1];exact s2) ?_;refine ziF ha h.K.b.s1 d2 (by omega) a2 (by omega) (by rw[e2];exact s1) (by rw[e2];exact s2) ?_;rw[e1,e2,zvW 60 _ _ (by omega),zoC];exact⟨_, .refl,q⟩
theorem Cel.ok_behind (h:Cel ws B x y) (hg:(gol B y).small=true) (ha:S a=ae (.lst (B.map zbi))) (hr:64≤r) (q:Q (enc (res B x y)) S):zdy (r+1) [.ref a,enc x,enc y] S Q E:=by
 obtain⟨r,rfl⟩:∃r',r=r'+1:=⟨r - 1,by omega⟩
 refine zjn (e1:=enc (src B x)) (e2:=enc (gol B y)) (e3:=enc (res B x y)) (λq=>h.ok_one ha (by omega) q) (λq=>h.K.ok_goalX h.wy h.sm ha (by omega) (λ_=>q) λz=>?_) (λq=>h.ok_move ha (by omega) q) q;rw[hg]at z;cases z
end
mutual
theorem zgY:∀x:Tr,x.quiet=true→x.hd zbG
 | .bl n,h=>by rw[Tr.quiet]at h;cases h
 | .nd s ts,h=>by
  rw[Tr.quiet,cc]at h;rw[Tr.hd];exact⟨(zeJ s).mp h.1,zgr ts h.2⟩
theorem zgr:∀ts:List Tr,zej ts=true→hds zbG ts
 | [],h=>by rw[hds];trivial
 |t::ts,h=>by
  rw[zej,cc]at h;rw[hds];exact⟨zgY t h.1,zgr ts h.2⟩
end
structure Jx (w0 w1 w2 w3 w4 w5:Str) (tt:List Str) (B:List Tn) (x0 x:Tr) (n:Nat):Prop where
  b:BookOk w0 w1 w2 w3 w4 w5 tt B
  T:Titles tt
  G:Signs w0 w1 w2 w3 w4 w5
  rx:∀t∈B,RX t.2.2
  wy:Wy [w0,w1,w2,w3,w4,w5] B x
  pw:x.ms B mP≤400
  dm:x.dm B≤40
  go:gol B x=gol B x0
  few:x0.ms B mF≤x.ms B mF+n
  mos:x.ms B mM+n≤x0.ms B mM
section
variable {w0 w1 w2 w3 w4 w5:Str}{tt:List Str}{B:List Tn}{x0 x:Tr}{n:Nat}
theorem Jx.k (J:Jx w0 w1 w2 w3 w4 w5 tt B x0 x n):Bk3 [w0,w1,w2,w3,w4,w5] B:=J.b.bk3 J.T J.G
theorem Jx.f (J:Jx w0 w1 w2 w3 w4 w5 tt B x0 x n):Lfs B:=J.b.lfs J.G
theorem Jx.lf (J:Jx w0 w1 w2 w3 w4 w5 tt B x0 x n):Lft B:=⟨λt ht=>(J.k.b.lf t ht).dp,λt ht=>by
 have h1:=(J.k.b.lf t ht).wt;have h2:=(J.k.b.lf t ht).nb;omega⟩
theorem Jx.pb (J:Jx w0 w1 w2 w3 w4 w5 tt B x0 x n):PB B:=λt ht y hy=>by
 have h1:=(zde hy).2.2;have h2:=(J.k.b.lf t ht).dp;omega
theorem Jx.sm (J:Jx w0 w1 w2 w3 w4 w5 tt B x0 x n):(src B x).small=true:=by
 obtain⟨h1,h2⟩:=zsZ J.k J.f _ x (au _) J.wy;have:=J.pw;have:=J.dm;exact zlg (by omega) (by omega)
theorem Jx.fit (J:Jx w0 w1 w2 w3 w4 w5 tt B x0 x n):x.depth≤40∧x.weight≤400∧x.ar B∧x.hd λ_=>True:=J.k.fitw J.wy J.sm
theorem Jx.some (J:Jx w0 w1 w2 w3 w4 w5 tt B x0 x n) (h:x.quiet=false):x.us B []≠ []:=λe=>by
 have:=zhf x (zmB J.k _ (au _) J.wy e);rw[this]at h;cases h
end
theorem PlOk.up{ws vs:List Str}{B:List Tn}(hv:∀x∈vs,x∈ws) {p:Pl}(h:PlOk vs B p):PlOk ws B p:=by
 induction h with
 |sign hh _ ih=>exact .sign (hv _ hh) ih
 |turn e hl b0 b1 _ ih=>exact .turn e hl b0 b1 ih
section
variable {ws:List Str}{B:List Tn}
theorem zot{p e:List Int}{u:List Int×Str}{x:Tr}{bs:List Tr}:∀(as:List Tr) (qs:List (List Int)),qs[as.length]? =ae e→u∈x.us B (p++e)→u∈usz B p qs (as++x::bs)
 | [],q::qs,h,hu=>by
  rw[du,fT]at h;cases h;rw[aN,usz];exact bO _ hu
 |a::as,q::qs,h,hu=>by
  rw[aW,d5]at h;rw[bW,usz];exact a8 _ (zot as qs h hu)
 |as,[],h,hu=>by simp at h
theorem Sq.use{q:List Int}{x s y:Tr}(h:Sq B q x s y):∀p,∃T,(p++q,T)∈x.us B p:=by
 induction h with
 | @here h ts t e=>
  intro p;rw[zhr e,bv];exact⟨_,aK⟩
 | @sign h as bs x s y q e _ ih=>
  intro p;obtain⟨T,hT⟩:=ih (p++[(as.length:Int)]);rw[zkJ e];refine⟨T,zot (e:=[(as.length:Int)]) as _ ?_ ?_⟩
  ·rw[bo,dj (by simp)];rfl
  ·rw[bw]at hT;exact hT
 | @tit h t as bs x s y q e0 e ee _ ih=>
  intro p;obtain⟨T,hT⟩:=ih (p++e0);rw[zhr e];refine⟨T,aC _ (zot as _ ee ?_)⟩;rw[bw]at hT;exact hT
theorem zpO{α:Type}{as bs as' bs':List α}{x x':α}(h:as++x::bs=as'++x'::bs') (hl:as.length=as'.length):as=as'∧x=x'∧bs=bs':=by
 obtain⟨h1,h2⟩:=List.append_inj h hl;cases h2;exact⟨h1,rfl,rfl⟩
theorem zsF (K:Bk3 ws B) {t:Tn}(ht:t∈B) {i:Nat}{e:List Int}(h:(t.2.1.bls.map λx=>x.1)[i]? =ae e):e≠ []:=by
 rintro rfl;obtain⟨b,hb,h0⟩:=aM.mp (bp h);have ha:=(zde hb).1;rw[h0,zdL,(zde hb).2.1]at ha;obtain⟨z0,ls,ez,_⟩:=K.O.inn t ht;rw[ez]at ha;cases ha
theorem zgk{s:Str}{t:Tn}(h:zaw B s=ae t):t∈B:=b6 h
theorem Sq.det (K:Bk3 ws B) {q:List Int}{x s y:Tr}(h:Sq B q x s y):∀{s' y':Tr},Sq B q x s' y'→s=s'∧y=y':=by
 induction h with
 | @here h ts t e=>
  intro s' y' h';generalize hq:([]:List Int)=q' at h';generalize hx:Tr.nd h ts=x' at h';cases h' with
  |here e'=>
   cases hx;rw[e]at e';cases e';exact⟨rfl,rfl⟩
  |sign e' _=>cases hq
  | @tit _ t' as bs x1 s1 y1 q1 e1 e' ee _=>
   have:=zsF K (zgk e') ee;rcases e1 with _ |⟨i,e1⟩
   ·exact absurd rfl this
   ·cases hq
 | @sign h as bs x s y q e _ ih=>
  intro s' y' h';generalize hq:(as.length:Int)::q=q' at h';generalize hx:Tr.nd h (as++x::bs)=x' at h';cases h' with
  |here e'=>cases hq
  | @sign h1 as1 bs1 x1 s1 y1 q1 e' g=>
   simp only[f_]at hq;obtain⟨hq1,rfl⟩:=hq;simp only[Tr.nd.injEq]at hx;obtain⟨rfl,hx⟩:=hx;obtain⟨rfl,rfl,rfl⟩:=zpO hx (by omega);obtain⟨rfl,rfl⟩:=ih g;exact⟨rfl,rfl⟩
  | @tit h1 t' as1 bs1 x1 s1 y1 q1 e1 e' ee _=>
   simp only[Tr.nd.injEq]at hx;rw[←hx.1,e]at e';cases e'
 | @tit h t as bs x s y q e0 e ee _ ih=>
  intro s' y' h';generalize hq:e0++q=q' at h';generalize hx:Tr.nd h (as++x::bs)=x' at h';cases h' with
  |here e'=>
   have:=zsF K (zgk e) ee;rcases e0 with _ |⟨i,e0⟩
   ·exact absurd rfl this
   ·cases hq
  | @sign h1 as1 bs1 x1 s1 y1 q1 e' g=>
   simp only[Tr.nd.injEq]at hx;rw[←hx.1,e]at e';cases e'
  | @tit h1 t' as1 bs1 x1 s1 y1 q1 e1 e' ee1 g=>
   simp only[Tr.nd.injEq]at hx;obtain⟨rfl,hx⟩:=hx;rw[e]at e';cases e';by_cases hl:as.length=as1.length
   ·obtain⟨rfl,rfl,rfl⟩:=zpO hx hl;rw[ee]at ee1;cases ee1;have:=List.append_cancel_left hq;subst this;obtain⟨rfl,rfl⟩:=ih g;exact⟨rfl,rfl⟩
   ·exact absurd hq (zps ee ee1 hl q q1)
theorem Sg.pos{x s y:Tr}(h:Sg B x s y):1≤x.ms B mF:=by
 induction h with
 |here e=>rw[zaW e];exact dX 1 _
 |sign e _ ih=>
  rw[zbe e,zaZ];omega
 |tit e _ ih=>rw[zaW e];exact dX 1 _
theorem zfJ{m:Ms}{f:Nat→Nat}:∀(ts:List Tr) (i:Nat),1≤mss B m f i ts→ ∃as z bs,ts=as++z::bs∧1≤f (i+as.length)*z.ms B m
 | [],i,h=>by rw[mss]at h;omega
 |t::ts,i,h=>by
  rw[mss]at h;by_cases c:1≤f i*t.ms B m
  ·exact⟨[],t,ts,rfl,c⟩
  ·obtain⟨as,z,bs,rfl,h1⟩:=zfJ (m:=m) (f:=f) ts (i+1) (by omega);refine⟨t::as,z,bs,rfl,?_⟩;rw[aW,show i+(as.length+1)=i+1+as.length by omega]
   exact h1
theorem zjt{m:Ms}{f g:Nat→Nat}(hg:∀j,f j=0→g j=0):∀(ts:List Tr) (i:Nat),mss B m f i ts=0→mss B m g i ts=0
 | [],i,h=>by rw[mss]
 |t::ts,i,h=>by
  rw[mss]at h⊢;rw[zjt hg ts (i+1) (fW.mp h).2];have h1:f i*t.ms B m=0:=(fW.mp h).1;rcases jT.mp h1 with z |z
  ·rw[hg i z];simp
  ·rw[z];simp
theorem zlX{m:Ms}{f g k:Nat→Nat}(hg:∀j,k j=0→f j=g j):∀(ts:List Tr) (i:Nat),mss B m k i ts=0→mss B m f i ts=mss B m g i ts
 | [],i,h=>by rw[mss,mss]
 |t::ts,i,h=>by
  rw[mss]at h;rw[mss,mss,zlX hg ts (i+1) (fW.mp h).2];have h1:k i*t.ms B m=0:=(fW.mp h).1;rcases jT.mp h1 with z |z
  ·rw[hg i z]
  ·rw[z];simp
theorem zol (K:Bk3 ws B):∀(n:Nat) {x:Tr},x.weight≤n→Wy ws B x→1≤x.ms B mF→ ∃q s y,Sq B q x s y∧x.ms B mF=y.ms B mF+1
 |0,x,hn,hx,h=>by have:=zbH x;omega
 |n+1,x,hn,hx,h=>by
  rcases Wy.cases K.b hx with⟨s,ts,rfl,_,e,k⟩ |⟨t,ts,ht,rfl,e,hl,k⟩
  ·rw[zbe e,show mF.c0=0 from rfl,ca]at h;obtain⟨as,z,bs,rfl,h1⟩:=zfJ ts 0 h;rw[Tr.weight]at hn;have hz:=zaL (show z∈as++z::bs by simp)
   obtain⟨q,s1,y1,g,e1⟩:=zol K n (by omega) (k z (by simp)) (by simpa using h1);exact⟨_,_,_, .sign e g,by rw[zbe e,zbe e,zaZ,zaZ,e1];omega⟩
  ·rw[Tr.weight]at hn;by_cases c:1≤mss B mF (mF.k t) 0 ts
   ·obtain⟨as,z,bs,rfl,h1⟩:=zfJ ts 0 c;have hz:=zaL (show z∈as++z::bs by simp)
    have hk:mF.k t (0+as.length)=1∧1≤z.ms B mF:=by
     have e2:mF.k t (0+as.length)=if((0+as.length:Nat):Int)∈t.2.2.nm then 1 else 0:=rfl;rw[e2]at h1⊢;split at h1
     ·rename_i m;rw[if_pos m];exact⟨rfl,by omega⟩
     ·omega
    obtain⟨q,s1,y1,g,e1⟩:=zol K n (by omega) (k z (by simp)) hk.2;have hi:as.length<(t.2.1.bls.map λx=>x.1).length:=by rw[ap,zlE,←hl];simp
    exact⟨_,_,_, .tit e (aJ hi) g,by rw[zaW e,zaW e,zaZ,zaZ,e1,hk.1];omega⟩
   ·refine⟨_,_,_, .here e,?_⟩;rw[zaW e,zeu K.b.ti _ (K.rsig ht) (by rw[hl];exact(K.b.ri t ht).fits)];have z:mss B mF (mF.k t) 0 ts=0:=by omega
    have z2:mss B mF (cn t.2.2) 0 ts=0:=zjt (λj hj=>by
     have e2:mF.k t j=if(j:Int)∈t.2.2.nm then 1 else 0:=rfl;rw[e2]at hj;split at hj
     ·omega
     ·rename_i m;exact ju m) ts 0 z
    rw[z,z2];have h1:mF.c0=0:=rfl;have h2:mF.c1=1:=rfl;rw[h1,h2];omega
theorem zpk (K:Bk3 ws B):∀(n:Nat) {x:Tr},x.weight≤n→Wy ws B x→1≤x.ms B mM→ ∃q s y,Sq B q x s y∧x.ms B mM=y.ms B mM+1
 |0,x,hn,hx,h=>by have:=zbH x;omega
 |n+1,x,hn,hx,h=>by
  rcases Wy.cases K.b hx with⟨s,ts,rfl,_,e,k⟩ |⟨t,ts,ht,rfl,e,hl,k⟩
  ·rw[zbe e,show mM.c0=0 from rfl,ca]at h;obtain⟨as,z,bs,rfl,h1⟩:=zfJ ts 0 h;rw[Tr.weight]at hn;have hz:=zaL (show z∈as++z::bs by simp)
   obtain⟨q,s1,y1,g,e1⟩:=zpk K n (by omega) (k z (by simp)) (by simpa using h1);exact⟨_,_,_, .sign e g,by rw[zbe e,zbe e,zaZ,zaZ,e1];omega⟩
  ·rw[Tr.weight]at hn;by_cases c:1≤mss B mM (λj=>if cn t.2.2 j=0 then 1 else 0) 0 ts
   ·obtain⟨as,z,bs,rfl,h1⟩:=zfJ ts 0 c;have hz:=zaL (show z∈as++z::bs by simp)
    have hk:mM.k t (0+as.length)=1∧1≤z.ms B mM:=by
     have e2:mM.k t (0+as.length)=max 1 (cn t.2.2 (0+as.length)):=rfl;rw[e2];split at h1
     ·rename_i m;rw[m];exact⟨rfl,by omega⟩
     ·omega
    obtain⟨q,s1,y1,g,e1⟩:=zpk K n (by omega) (k z (by simp)) hk.2;have hi:as.length<(t.2.1.bls.map λx=>x.1).length:=by rw[ap,zlE,←hl];simp
    exact⟨_,_,_, .tit e (aJ hi) g,by rw[zaW e,zaW e,zaZ,zaZ,e1,hk.1];omega⟩
   ·refine⟨_,_,_, .here e,?_⟩;rw[zaW e,zeu K.b.ti _ (K.rsig ht) (by rw[hl];exact(K.b.ri t ht).fits)];have z2:mss B mM (mM.k t) 0 ts=mss B mM (cn t.2.2) 0 ts:=zlX (k:=λj=>if cn t.2.2 j=0 then 1 else 0) (λj hj=>by
     have e2:mM.k t j=max 1 (cn t.2.2 j):=rfl;rw[e2];split at hj
     ·omega
     ·omega) ts 0 (by omega)
    rw[z2];have h1:mM.c0=0:=rfl;have h2:mM.c1=1:=rfl;rw[h1,h2];omega
end
noncomputable def twB (w0 w4 w5:Str) (d:Bool):List Tn:=[(aS "A", .nd w0 [.bl 0],if d then .nd w5 [] else .nd w4 [.bl 0, .bl 0])]
noncomputable def twT (w5:Str):Nat→Tr
 |0=> .nd w5 []
 |n+1=> .nd (aS "A") [twT w5 n]
section
variable {w0 w1 w2 w3 w4 w5:Str}{d:Bool}
theorem ztr:zbp (aS "A"):=⟨65,[],by decide +kernel,by decide,by decide,by decide,by simp⟩
theorem zrf (G:Signs w0 w1 w2 w3 w4 w5):BkOk [w0,w1,w2,w3,w4,w5] [w0,w1,w2,w3,w4,w5] (twB w0 w4 w5 d):=by
 refine⟨λt ht=>?_,by simp [twB],G.ok,λ_ h=>h,λt ht=>?_,λt ht=>?_⟩
 ·unfold twB at ht;rw[aV]at ht;subst ht;exact ztr
 ·unfold twB at ht;rw[aV]at ht;subst ht;exact zeN (h:=w0) (n:=0) (c:=w2) (d:=w3) (G.ok _ (by simp)) (G.ok _ (by simp)) (G.ok _ (by simp)) _ (by simp [leftsL])
 ·unfold twB at ht;rw[aV]at ht;subst ht;cases d
  ·exact zuJ (by simp [Tr.depth,dts]) (by simp [Tr.fits,fitss,Tr.nb,nbs]) (λ{P} h=>by simp [Tr.hb,hbs]<;>simp [h]) (by simp [Tr.weight,wts])
  ·exact zuJ (by simp [Tr.depth,dts]) (by simp [Tr.fits,fitss,Tr.nb,nbs]) (λ{P} h=>by simp [Tr.hb,hbs]<;>simp [h]) (by simp [Tr.weight,wts])
theorem zkR:zaw (twB w0 w4 w5 d) (aS "A")=ae (aS "A", .nd w0 [.bl 0],if d then .nd w5 [] else .nd w4 [.bl 0, .bl 0]):=by
 unfold zaw twB;rw[List.find?_cons_of_pos (by exact beq_self_eq_true _)]
theorem zwW (G:Signs w0 w1 w2 w3 w4 w5):∀n,Wy [w0,w1,w2,w3,w4,w5] (twB w0 w4 w5 d) (twT w5 n)∧(twT w5 n).depth=n+1∧(twT w5 n).weight=n+1
 |0=>by
  have e:zaw (twB w0 w4 w5 d) w5=none:=zay (zrf (d:=d) G).ti (G.ok _ (by simp));refine⟨⟨?_,?_⟩,by simp [twT,Tr.depth,dts],by simp [twT,Tr.weight,wts]⟩
  ·rw[twT,Tr.hd,hds];exact⟨.inl (by simp),trivial⟩
  ·rw[twT,Tr.ar,ars];exact⟨λt h=>(by rw[e]at h;cases h),trivial⟩
 |n+1=>by
  obtain⟨h1,h2,h3⟩:=zwW G n;refine⟨⟨?_,?_⟩,by rw[twT,Tr.depth,dts,dts,h2];omega,by rw[twT,Tr.weight,wts,wts,h3];omega⟩
  ·rw[twT,Tr.hd,hds,hds];exact⟨.inr ⟨_,aV.mpr rfl,rfl⟩,h1.hd,trivial⟩
  ·rw[twT,Tr.ar,ars,ars];refine⟨λt h=>?_,h1.ar,trivial⟩;rw[zkR]at h;cases h;simp [Tr.nb,nbs]
theorem zsr (G:Signs w0 w1 w2 w3 w4 w5):∀n,(twT w5 n).ms (twB w0 w4 w5 d) mF=if d then min 1 n else n
 |0=>by
  have e:zaw (twB w0 w4 w5 d) w5=none:=zay (zrf (d:=d) G).ti (G.ok _ (by simp));rw[twT,zbe e,mss];cases d<;>rfl
 |n+1=>by
  have ih:=zsr G n;rw[twT,zaW zkR,mss,mss,ih];cases d
  ·simp [mF,Tr.nm,nms];omega
  ·simp [mF,Tr.nm,nms]
theorem zsy (G:Signs w0 w1 w2 w3 w4 w5):∀n,(twT w5 n).ms (twB w0 w4 w5 d) mM=if d then n else 2 ^ n - 1
 |0=>by
  have e:zaw (twB w0 w4 w5 d) w5=none:=zay (zrf (d:=d) G).ti (G.ok _ (by simp));rw[twT,zbe e,mss];cases d<;>rfl
 |n+1=>by
  have ih:=zsy G n;rw[twT,zaW zkR,mss,mss,ih];have h2:=eX (n:=n);cases d
  ·simp [mM,cn,Tr.nm,nms];rw[Nat.pow_succ];omega
  ·simp [mM,cn,Tr.nm,nms];omega
end
theorem zfz{n:Int}{r:Nat}{S:Sto}{Q:WK}{E:Str→Sto→Prop}(h:Q (.bl true) S):zaH (r+1) [.int n] S Q E:=by
 rw[zaH];walk_at "wp";exact⟨S, .refl,h⟩
section
variable {w0 w1 w2 w3 w4 w5:Str}
theorem znt{aw:Addr}{m:Nat}{r:Nat}{S:Sto}{Q:WK}{E:Str→Sto→Prop}(G:Signs w0 w1 w2 w3 w4 w5) (fw:S aw=ae (.lst (six w0 w1 w2 w3 w4 w5))) (d:Bool) (hm:m≤38) (hr:100≤r) (h:∀S',Sub S S'→Q (.bl true) S'):zbr (r+1) [.ref aw, .int m, .int (if d then 1 else 0)] S Q E:=by
 obtain⟨r,rfl⟩:∃r',r=r'+1:=⟨r - 1,by omega⟩
 have l1:1≤sizeLine:=zah (by decide);have l2:2≤sizeLine:=zah (by decide);have l3:3≤sizeLine:=zah (by decide);rw[zbr];walk_at "wp";simp only[zal fw,six0,six4,six5,l1,l2,l3,true_and];have eR:atI [W.tup [W.str w4,W.int 0,W.int 0],W.tup [W.str w5]] (if d then 1 else 0)=ae (enc (if d then .nd w5 [] else .nd w4 [.bl 0, .bl 0])):=by
  cases d
  ·simp [enc,encs];rfl
  ·simp [enc,encs];rfl
 rw[eR];dsimp only;intro q hq;have eb:put S q (Ob.lst [W.tup [W.str (aS "A"),W.tup [W.str w0,W.int 0],enc (if d then .nd w5 [] else .nd w4 [.bl 0, .bl 0])]]) q=ae (.lst ((twB w0 w4 w5 d).map zbi)):=by
  rw[zag];simp [twB,zbi,enc,encs]
 have fw':=keep (x:=Ob.lst [W.tup [W.str (aS "A"),W.tup [W.str w0,W.int 0],enc (if d then .nd w5 [] else .nd w4 [.bl 0, .bl 0])]]) fw hq;have sb:Sub S (put S q (Ob.lst [W.tup [W.str (aS "A"),W.tup [W.str w0,W.int 0],enc (if d then .nd w5 [] else .nd w4 [.bl 0, .bl 0])]])):= .put .refl hq;generalize put S q (Ob.lst [W.tup [W.str (aS "A"),W.tup [W.str w0,W.int 0],enc (if d then .nd w5 [] else .nd w4 [.bl 0, .bl 0])]])=S1 at eb fw' sb⊢;simp only[zal fw',six5];refine⟨⟨by omega,by omega⟩,?_⟩
 rw[bU];refine zkE (λi σ S=>S=S1∧ ∃x5,σ=[ae (W.ref aw),ae (W.int m),ae (W.int (if d then 1 else 0)),ae (W.ref q),ae (enc (twT w5 i)),x5,none,none]) m (λi hi σ S N hI hN=>?_) (λσ S hI=>?_) ⟨rfl,none,by simp [twT,enc,encs]⟩
 ·obtain⟨rfl,x5,rfl⟩:=hI;simp only[zdb];walk_at "wp";exact⟨l2,hN _ _ _ .refl ⟨rfl,ae (.int i),by simp [twT,enc,encs]⟩⟩
 ·obtain⟨rfl,x5,rfl⟩:=hI;obtain⟨h1,h2,h3⟩:=zwW (d:=d) G m;have bk:=zrf (d:=d) G;walk_at "wp";refine zdQ bk 39 (by omega) (by omega) eb h1 (by omega) ?_
  try walk_at "wp"
  refine zgl bk 39 (by omega) (by omega) eb h1 (by omega) ?_
  try walk_at "wp"
  refine zfz ?_
  try walk_at "wp"
  refine zfz ?_
  try walk_at "wp"
  rw[zsr G,zsy G];have pw:ztE 1 (m:Int):=⟨by omega,by omega,by omega⟩
  have e2:∀a b:Int,eqF S 60 (.tup [.int a, .int b]) (.tup [.int a, .int b])=ae true:=λa b=>by
   rw[zpb,zeq,zeq,zeq,zjG,zjG,beq_self_eq_true,beq_self_eq_true];rfl
  refine⟨l2,pw,l2,l2,l2,?_⟩;cases d
  ·rw[show atI [W.tup [W.int ↑m,W.int (1*2 ^ (↑m:Int).toNat - 1)],W.tup [W.int (if(m:Int)<1 then ↑m else 1),W.int ↑m]] (if false=true then 1 else 0)=ae (W.tup [W.int ↑m,W.int (1*2 ^ (↑m:Int).toNat - 1)]) from rfl];have e3:(1*2 ^ (↑m:Int).toNat - 1:Int)=((2 ^ m - 1:Nat):Int):=by
    rw[bU,Int.one_mul,Int.natCast_sub (eX)]
    push_cast
    rfl
   rw[e3];dsimp only;simp only[fA,if_false];rw[e2];exact⟨_,sb,h _ .refl⟩
  ·rw[show atI [W.tup [W.int ↑m,W.int (1*2 ^ (↑m:Int).toNat - 1)],W.tup [W.int (if(m:Int)<1 then ↑m else 1),W.int ↑m]] (if true=true then 1 else 0)=ae (W.tup [W.int (if(m:Int)<1 then ↑m else 1),W.int ↑m]) from rfl];have e3:(if(m:Int)<1 then(m:Int) else 1)=((min 1 m:Nat):Int):=by split<;>omega
   rw[e3];dsimp only;simp only[if_true];rw[e2];exact⟨_,sb,h _ .refl⟩
end
theorem zvk{n:Nat}{h c d:Str}{L:Tr}(hL:L∈leftsL n h c d) {i:Nat}{e:List Int}(he:(L.bls.map λx=>x.1)[i]? =ae e):L.at e=ae (.bl i):=by
 unfold leftsL at hL;split at hL<;>simp only[ax,a_,or_false]at hL
 ·subst hL;rw[zti]at he;rcases i with _ |i
  ·cases he;rfl
  ·cases he
 ·subst hL;rw[zsY]at he;rcases i with _ |_ |i
  ·cases he;rfl
  ·cases he;rfl
  ·cases he
 ·rcases hL with rfl |rfl
  ·rw[zwq]at he;cases he
  ·rw[zsK]at he;rcases i with _ |i
   ·cases he;rfl
   ·cases he
 ·rcases hL with rfl |rfl
  ·rw[zta]at he;rcases i with _ |i
   ·cases he;rfl
   ·cases he
  ·rw[ztf]at he;rcases i with _ |_ |i
   ·cases he;rfl
   ·cases he;rfl
   ·cases he
 ·rcases hL with rfl |rfl
  ·rw[ztl]at he;rcases i with _ |_ |_ |i
   ·cases he;rfl
   ·cases he;rfl
   ·cases he;rfl
   ·cases he
  ·rw[zsP]at he;rcases i with _ |_ |i
   ·cases he;rfl
   ·cases he;rfl
   ·cases he
 ·subst hL;rw[zwS]at he;cases he
theorem znR{us:List Tr}:∀(e:List Int) {L:Tr}{n:Int},L.at e=ae (.bl n)→L.fits us.length→(L.fill us).at e=us[n.toNat]?
 | [],L,n,h,ft=>by
  rw[zdL]at h;cases h;rw[Tr.fits]at ft;rw[Tr.fill,zdL,aY,aJ (show n.toNat<us.length by omega)]
  rfl
 |i::e, .bl k,n,h,ft=>by cases h
 |i::e, .nd s ls,n,h,ft=>by
  obtain⟨w,h0,h1,h2⟩:=zrm h;rw[Tr.fits]at ft;obtain⟨j,rfl⟩:∃j:Nat,i=j:=⟨i.toNat,(cr h0).symm⟩;rw[bU]at h1;have e1:(fills us ls)[j]? =ae (w.fill us):=by rw[zeH,bo,h1];rfl
  rw[Tr.fill,zof e1];exact znR e h2 (zeS ft (bp h1))
theorem Sq.at8{ws:List Str}{B:List Tn}(K:Bk3 ws B) (F:Lfs B) {q:List Int}{x s y:Tr}(h:Sq B q x s y) (hx:Wy ws B x):∃t us,t∈B∧us.length=t.2.1.nb∧(src B x).at q=ae (t.2.1.fill us):=by
 induction h with
 | @here h ts t e=>
  rcases Wy.cases K.b hx with⟨s,as,e1,_,e2,_⟩ |⟨u,as,hu,e1,e2,hl,hk⟩
  ·cases e1;rw[e]at e2;cases e2
  ·cases e1;rw[e]at e2;cases e2;exact⟨t,ts.map (src B),hu,by rw[ap,hl],by rw[zdL,src,zbD e]⟩
 | @sign h as bs x s y q e _ ih=>
  obtain⟨t,us,ht,hl,h1⟩:=ih (hx.kids _ (by simp));have e1:src B (.nd h (as++x::bs))= .nd h (as.map (src B)++src B x::bs.map (src B)):=by rw[src,zcC e,bq,aB]
  have e2:(as.map (src B)++src B x::bs.map (src B))[as.length]? =ae (src B x):=by rw[dy (by simp)];simp
  exact⟨t,us,ht,hl,by rw[e1,zof e2];exact h1⟩
 | @tit h t0 as bs x s y q e0 e ee _ ih=>
  obtain⟨t,us,ht,hl,h1⟩:=ih (hx.kids _ (by simp));have hu:=zgk e;have hn:(as++x::bs).length=t0.2.1.nb:=by
   have:=hx.ar;rw[Tr.ar]at this;exact this.1 t0 e
  have e1:src B (.nd h (as++x::bs))=t0.2.1.fill (as.map (src B)++src B x::bs.map (src B)):=by
   have et:t0.1=h:=by
    have:=iF e;rw[beq_iff_eq]at this;exact this
   subst et;rw[src,zbD e,bq,aB]
  have hl2:(as.map (src B)++src B x::bs.map (src B)).length=t0.2.1.nb:=by rw[←hn];simp
  have e2:(as.map (src B)++src B x::bs.map (src B))[as.length]? =ae (src B x):=by rw[dy (by simp)];simp
  obtain⟨_,_,_,_,hL⟩:=F.lf t0 hu;have e3:(src B (.nd h (as++x::bs))).at e0=ae (src B x):=by
   rw[e1,znR e0 (zvk hL ee) (by rw[hl2];exact(K.b.lf t0 hu).fits),bU,e2]
  exact⟨t,us,ht,hl,by rw[zlH _ _ e3];exact h1⟩
section
variable {w0 w1 w2 w3 w4 w5:Str}{tt:List Str}{B:List Tn}{x x0:Tr}{ab l1 l2 k:Addr}{n:Nat}
theorem Jx.re (J:Jx w0 w1 w2 w3 w4 w5 tt B x0 x n):Jx w0 w1 w2 w3 w4 w5 tt B x x 0:=⟨J.b,J.T,J.G,J.rx,J.wy,J.pw,J.dm,rfl,by omega,by omega⟩
theorem Jx.step8 (J:Jx w0 w1 w2 w3 w4 w5 tt B x0 x n) {u:List Int×Str}(hu:u∈x.us B []):∃s y,Wi B [u.1] (src B x).depth [] (src B x) s∧u.1∈((src B x).op B []).map (λx=>x.1)∧Cel [w0,w1,w2,w3,w4,w5] B x s∧(gol B s).small=true∧res B x s=y∧Jx w0 w1 w2 w3 w4 w5 tt B x0 y (n+1)∧Sq B u.1 x s y:=by
 obtain⟨q,s,y,e,h⟩:=zsf _ (au _) hu;rw[aN]at e;subst e;have K:=J.k;have F:=J.f;obtain⟨n1,wi⟩:=h.wi K F J.wy [];rw[aN]at wi;obtain⟨t,us,ht,hl,h1⟩:=h.at8 K F J.wy;obtain⟨e1,wy,e2⟩:=h.sg.left K J.wy;obtain⟨p1,p2⟩:=h.sg.pw K J.rx J.wy;have pm:=h.sg.mos K J.wy;have pf:=h.sg.few K J.wy;have J':Jx w0 w1 w2 w3 w4 w5 tt B x0 y (n+1):=⟨J.b,J.T,J.G,J.rx,wy,bC p1 J.pw,bC p2 J.dm,by rw[(h.sg.go K J.wy).2];exact J.go,by have:=J.few;omega,by have:=J.mos;omega⟩
 have sm:=J.sm;refine⟨s,y,wi.bd K.O,?_,⟨K,J.wy,h.sg.wy K J.wy,(h.sg.sr K J.wy).symm,by rw[h.sg.sr K J.wy];exact sm⟩,by rw[←e2];exact J'.sm,e1,J',h⟩
 obtain⟨z,ls,ez,_⟩:=K.O.inn t ht;have:=zya (B:=B) u.1 (p:=[]) h1 (F.op t ht us hl) (by rw[ez,Tr.fill];rfl);exact aM.mpr ⟨_,this,by simp⟩
theorem zqz{F:List W}{r:Nat}{E:WX}{D:WEnds}{S0:Sto}(J:Jx w0 w1 w2 w3 w4 w5 tt B x x 0) (h1:S0 l1=none) (h2:S0 l2=none) (n12:l1≠l2) (k1:k≠l1) (k2:k≠l2) (fb:S0 ab=ae (.lst (B.map zbi))) (hr:130≤r):∀(us:List (List Int×Str)) (ls hs:List Int) {S:Sto}{x7 x8:Option W},(∀u∈us,u∈x.us B [])→Sub S0 S→S k=ae (.lst F)→S l1=ae (.lst (ls.map W.int))→S l2=ae (.lst (hs.map W.int))→ls.length+us.length≤1000→hs.length+us.length≤1000→(∀z∈ls,z≤1)→(∀z∈hs,1≤z)→
  (∀(S':Sto) (ls' hs':List Int) (x7 x8:Option W),Sub S0 S'→S' l1=ae (.lst (ls'.map W.int))→S' l2=ae (.lst (hs'.map W.int))→(∀z∈ls',z≤1)→(∀z∈hs',1≤z)→(∀z∈ls,z∈ls')→(∀z∈hs,z∈hs')→(∀u∈us,∀s y,Sq B u.1 x s y→((x.ms B mF:Nat):Int) - (y.ms B mF:Nat)∈ls'∧((x.ms B mM:Nat):Int) - (y.ms B mM:Nat)∈hs')→D.nx [ae (.ref ab),ae (enc x),ae (enc (src B x)),ae (.int (x.ms B mF:Nat)),ae (.int (x.ms B mM:Nat)),ae (.ref l1),ae (.ref l2),x7,x8] S')→
  forL (wGN 7) (zbY (r+1) zbh) E D (λS'=>S' k=ae (.lst F)) (us.map zdT) [ae (.ref ab),ae (enc x),ae (enc (src B x)),ae (.int (x.ms B mF:Nat)),ae (.int (x.ms B mM:Nat)),ae (.ref l1),ae (.ref l2),x7,x8] S
 | [],ls,hs,S,x7,x8,hu,sb,fk,f1,f2,c1,c2,b1,b2,h=>by
  simp only[cu,forL];exact h S ls hs x7 x8 sb f1 f2 b1 b2 (λ_ h=>h) (λ_ h=>h) λu hu=>nomatch hu
 |u::us,ls,hs,S,x7,x8,hu,sb,fk,f1,f2,c1,c2,b1,b2,h=>by
  obtain⟨s,y,M,hin,C,hg,e,J',sq⟩:=J.step8 (hu u aK);obtain⟨s1,s2⟩:=zfB J.sm;obtain⟨g1,g2,g3,g4⟩:=J'.fit;have pf:=sq.sg.few J.k J.wy;have pm:=sq.sg.mos J.k J.wy;rw[aW]at c1 c2;rw[aB];refine zco λN hN=>?_;simp only[zbY,zdT];walk_at "wp";refine⟨by decide,λf hf=>?_⟩;have ff:put S f (Ob.lst [zbJ u.1]) f=ae (.lst ([u.1].map zbJ)):=zag;replace f1:=keep (x:=Ob.lst [zbJ u.1]) f1 hf;replace f2:=keep (x:=Ob.lst [zbJ u.1]) f2 hf;replace fk:=keep (x:=Ob.lst [zbJ u.1]) fk hf;replace sb:=sb.trans (.put .refl hf:Sub S (put S f (Ob.lst [zbJ u.1])));generalize put S f (Ob.lst [zbJ u.1])=S1 at ff f1 f2 fk sb⊢;have fb1:=sb _ _ fb;refine zmA (r:=r) (wn:=[u.1]) J.lf J.pb M (by omega) (by omega) fb1 ff (zff (λ_ _=>trivial) _ (J.k.src J.wy).1.hd) (by omega) (by omega) (by simp) rfl (λy hy=>by rw[aV]at hy;rw[hy];exact hin) ?_
  refine C.ok_behind (r:=r) hg fb1 (by omega) ?_;rw[e]
  try walk_at "wp"
  simp only[zal f1];refine⟨trivial,?_⟩;refine zdQ (r:=r) J'.k.b 40 g1 (by omega) fb1 J'.wy (by omega) ?_
  try walk_at "wp"
  rw[zal f1,ap];refine⟨zbF (by omega),?_⟩;have e1:ls.map W.int++[W.int (((x.ms B mF:Nat):Int) - (y.ms B mF:Nat))]=(ls++[((x.ms B mF:Nat):Int) - (y.ms B mF:Nat)]).map W.int:=by rw[bq];rfl
  rw[e1];have f1':put S1 l1 (Ob.lst ((ls++[((x.ms B mF:Nat):Int) - (y.ms B mF:Nat)]).map W.int)) l1=ae (.lst ((ls++[((x.ms B mF:Nat):Int) - (y.ms B mF:Nat)]).map W.int)):=zag;have f2':put S1 l1 (Ob.lst ((ls++[((x.ms B mF:Nat):Int) - (y.ms B mF:Nat)]).map W.int)) l2=ae (.lst (hs.map W.int)):=by rw[zaI (bj n12)];exact f2
  have fk':put S1 l1 (Ob.lst ((ls++[((x.ms B mF:Nat):Int) - (y.ms B mF:Nat)]).map W.int)) k=ae (.lst F):=by rw[zaI k1];exact fk
  have sb':Sub S0 (put S1 l1 (Ob.lst ((ls++[((x.ms B mF:Nat):Int) - (y.ms B mF:Nat)]).map W.int))):=λc o ec=>by
   by_cases hc:c=l1
   ·rw[hc,h1]at ec;cases ec
   ·rw[zaI hc];exact sb c o ec
  generalize put S1 l1 (Ob.lst ((ls++[((x.ms B mF:Nat):Int) - (y.ms B mF:Nat)]).map W.int))=S2 at f1' f2' fk' sb'⊢;simp only[zal f2'];refine⟨trivial,?_⟩;refine zgl (r:=r) J'.k.b 40 g1 (by omega) (sb' _ _ fb) J'.wy (by omega) ?_
  try walk_at "wp"
  rw[zal f2',ap];refine⟨zbF (by omega),?_⟩;have e2:hs.map W.int++[W.int (((x.ms B mM:Nat):Int) - (y.ms B mM:Nat))]=(hs++[((x.ms B mM:Nat):Int) - (y.ms B mM:Nat)]).map W.int:=by rw[bq];rfl
  rw[e2];have f1'':put S2 l2 (Ob.lst ((hs++[((x.ms B mM:Nat):Int) - (y.ms B mM:Nat)]).map W.int)) l1=ae (.lst ((ls++[((x.ms B mF:Nat):Int) - (y.ms B mF:Nat)]).map W.int)):=by rw[zaI n12];exact f1'
  have f2'':put S2 l2 (Ob.lst ((hs++[((x.ms B mM:Nat):Int) - (y.ms B mM:Nat)]).map W.int)) l2=ae (.lst ((hs++[((x.ms B mM:Nat):Int) - (y.ms B mM:Nat)]).map W.int)):=zag;have fk'':put S2 l2 (Ob.lst ((hs++[((x.ms B mM:Nat):Int) - (y.ms B mM:Nat)]).map W.int)) k=ae (.lst F):=by rw[zaI k2];exact fk'
  have sb'':Sub S0 (put S2 l2 (Ob.lst ((hs++[((x.ms B mM:Nat):Int) - (y.ms B mM:Nat)]).map W.int))):=λc o ec=>by
   by_cases hc:c=l2
   ·rw[hc,h2]at ec;cases ec
   ·rw[zaI hc];exact sb' c o ec
  generalize put S2 l2 (Ob.lst ((hs++[((x.ms B mM:Nat):Int) - (y.ms B mM:Nat)]).map W.int))=S3 at f1'' f2'' fk'' sb''⊢;refine hN _ _ _ .refl fk'' (zqz J h1 h2 n12 k1 k2 fb hr us _ _ (λv hv=>hu v (aC _ hv)) sb'' fk'' f1'' f2'' (by simp;omega) (by simp;omega) (λz hz=>?_) (λz hz=>?_) λS' ls' hs' x7 x8 sb f1 f2 b1 b2 m1 m2 m3=>h S' ls' hs' x7 x8 sb f1 f2 b1 b2 (λz hz=>m1 z (bO _ hz)) (λz hz=>m2 z (bO _ hz)) λv hv s' y' sq'=>?_)
  ·rcases bb.mp hz with q |q
   ·exact b1 z q
   ·rw[aV]at q;omega
  ·rcases bb.mp hz with q |q
   ·exact b2 z q
   ·rw[aV]at q;omega
  ·rcases ax.mp hv with rfl |hv
   ·obtain⟨rfl,rfl⟩:=sq.det J.k sq';exact⟨m1 _ (by simp),m2 _ (by simp)⟩
   ·exact m3 v hv s' y' sq'
theorem zmh{m:Ms}(hm:m.c0=0) (hB:∀t∈B,zbp t.1):∀(k:Nat) (y:Tr),y.weight≤k→y.hd zbG→y.ms B m=0:=by
 intro k
 induction k with
 |zero=>
  intro y hk _;have:=zbH y;omega
 |succ k ih=>
  intro y hk hy;cases y with
  |bl i=>rw[Tr.ms]
  |nd s ts=>
   rw[Tr.hd]at hy;rw[Tr.weight]at hk;rw[zbe (zay hB hy.1),hm];have:∀(us:List Tr) (i:Nat),(∀u∈us,u.ms B m=0)→mss B m (λ_=>1) i us=0:=by
    intro us
    induction us with
    |nil=>intro i _;rw[mss]
    |cons u us ih2=>
     intro i hu;rw[mss,hu u aK,ih2 (i+1) λv hv=>hu v (aC _ hv)]
   rw[this ts 0 λu hu=>ih u (by have:=zaL hu;omega) (hds_iff.mp hy.2 u hu)]
theorem zkT{r:Nat}{S:Sto}{Q:WK}{E:Str→Sto→Prop}(J:Jx w0 w1 w2 w3 w4 w5 tt B x x 0) (fb:S ab=ae (.lst (B.map zbi))) (hr:140≤r) (h:∀S',Sub S S'→Q (.bl true) S'):zbo (r+1) [.ref ab,enc x,enc (src B x)] S Q E:=by
 obtain⟨r,rfl⟩:∃r',r=r'+1:=⟨r - 1,by omega⟩
 obtain⟨g1,g2,g3,g4⟩:=J.fit;rw[zbo];walk_at "wp";refine zdQ (r:=r) J.k.b 40 g1 (by omega) fb J.wy (by omega) ?_
 try walk_at "wp"
 refine zgl (r:=r) J.k.b 40 g1 (by omega) fb J.wy (by omega) ?_
 try walk_at "wp"
 refine zfz ?_
 try walk_at "wp"
 refine zfz ?_
 try walk_at "wp"
 refine zmL (r:=r) 40 g1 (by omega) (J.wy.len J.k) (by omega) ?_;cases eq:x.quiet with
 |true=>
  try walk_at "wp"
  have hs:=zgY x eq;rw[zmh (m:=mF) rfl J.k.b.ti _ x (au _) hs,zmh (m:=mM) rfl J.k.b.ti _ x (au _) hs];exact⟨S, .refl,h S .refl⟩
 |false=>
  try walk_at "wp"
  refine⟨aX _,λl1 hl1=>⟨aX _,λl2 hl2=>?_⟩⟩;obtain⟨hl2a,n21⟩:=zct hl2;have f1:put (put S l1 (Ob.lst [])) l2 (Ob.lst []) l1=ae (.lst (([]:List Int).map W.int)):=keep zag hl2;have f2:put (put S l1 (Ob.lst [])) l2 (Ob.lst []) l2=ae (.lst (([]:List Int).map W.int)):=zag;have fb':put (put S l1 (Ob.lst [])) l2 (Ob.lst []) ab=ae (.lst (B.map zbi)):=keep (keep fb hl1) hl2;have sb:Sub S (put (put S l1 (Ob.lst [])) l2 (Ob.lst [])):=(Sub.put .refl hl1).trans (.put .refl hl2);generalize put (put S l1 (Ob.lst [])) l2 (Ob.lst [])=S1 at f1 f2 fb' sb⊢;refine zpN (r:=r) J.lf J.pb fb' (by omega) (by omega) (by omega) g4 λk hk=>?_;have fk:put S1 k (Ob.lst ((x.us B []).map zdT)) k=ae (.lst ((x.us B []).map zdT)):=zag;have k1:k≠l1:=by rintro rfl;rw[f1]at hk;cases hk
  have k2:k≠l2:=by rintro rfl;rw[f2]at hk;cases hk
  have n12:l1≠l2:=by rintro rfl;rw[f1]at f2;exact n21 rfl
  replace f1:=keep (x:=Ob.lst ((x.us B []).map zdT)) f1 hk;replace f2:=keep (x:=Ob.lst ((x.us B []).map zdT)) f2 hk;replace sb:=sb.trans (.put .refl hk:Sub S1 (put S1 k (Ob.lst ((x.us B []).map zdT))));generalize put S1 k (Ob.lst ((x.us B []).map zdT))=S2 at f1 f2 fk sb⊢;have hul:=zpe B x [];dsimp only;rw[zal fk];refine zqz J hl1 hl2a n12 k1 k2 fb (by omega) (x.us B []) [] [] (λ_ h=>h) sb fk f1 f2 (by simp;omega) (by simp;omega) (by simp) (by simp) λS' ls hs x7 x8 sb f1 f2 b1 b2 _ _ m3=>?_;obtain⟨u,hu⟩:=List.exists_mem_of_ne_nil _ (J.some eq);obtain⟨q,s,y,_,sq⟩:=zsf _ (au _) hu;have p1:=sq.sg.pos;have p2:=sq.sg.mos J.k J.wy;obtain⟨q1,s1,y1,sq1,e1⟩:=zol J.k _ (au _) J.wy p1;obtain⟨q2,s2,y2,sq2,e2⟩:=zpk J.k _ (au _) J.wy (by omega);obtain⟨T1,t1⟩:=sq1.use [];obtain⟨T2,t2⟩:=sq2.use [];rw[aN]at t1 t2;have i1:=(m3 _ t1 s1 y1 sq1).1;have i2:=(m3 _ t2 s2 y2 sq2).2;rw[show((x.ms B mF:Nat):Int) - (y1.ms B mF:Nat)=1 by omega]at i1
  rw[show((x.ms B mM:Nat):Int) - (y2.ms B mM:Nat)=1 by omega]at i2
  walk_at "wp";rw[zwa,zal f1];refine⟨ls,zbt ls,λz=>(by rw[z]at i1;cases i1),λm hm hx=>?_⟩;have em:m=1:=by
   have:=b1 m hm;have:=hx 1 i1;omega
  subst em;walk_at "wp";rw[zyi,zal f2];refine⟨hs,zbt hs,λz=>(by rw[z]at i2;cases i2),λm hm hx=>?_⟩;have em:m=1:=by
   have:=b2 m hm;have:=hx 1 i2;omega
  subst em;walk_at "wp";exact⟨S,sb,h S .refl⟩
end
section
variable {S:Sto}{aw at' ab kn:Addr}{p:Pl}{w0 w1 w2 w3 w4 w5:Str}{tt:List Str}{B:List Tn}{E:WX}{D:WEnds}{T:WS}{ns:List Int}{x:Tr}{n:Nat}{a0 a1 a2 a3 a4 a5 a6 a7:Option W}
theorem zyZ (h:∀S' aw w0 w1 w2 w3 w4 w5,Signs w0 w1 w2 w3 w4 w5→S' aw=ae (.lst (six w0 w1 w2 w3 w4 w5))→T E D [ae (.scr ns),ae (.ref aw),a2,a3,a4,a5,a6,a7] S') :
  zcT 199 T E D [ae (.scr ns),a1,a2,a3,a4,a5,a6,a7] S:=by
 rw[zcT];walk_at "wp";refine zdw (by decide) λc0=>zdw (by decide) λc1=>zlk λaw ws hw0 hws=>?_;obtain⟨w0,w1,w2,w3,w4,w5,rfl,G⟩:=zkU hws;exact h _ aw w0 w1 w2 w3 w4 w5 G zag
theorem zyR (G:Signs w0 w1 w2 w3 w4 w5) (fw:S aw=ae (.lst (six w0 w1 w2 w3 w4 w5))) (h:∀S',Sub S S'→T E D [ae (.scr ns),ae (.ref aw),a2,a3,a4,a5,a6,a7] S') :
  zcY 199 T E D [ae (.scr ns),ae (.ref aw),a2,a3,a4,a5,a6,a7] S:=by
 rw[zcY];walk_at "wp";refine zdw (by decide) λc0=>?_
 try walk_at "wp"
 refine⟨⟨by decide,by decide⟩,by decide,zdw (by decide) λc1=>?_⟩
 try walk_at "wp"
 refine⟨⟨by decide,by decide⟩,by decide,?_⟩
 have m0:0≤c0 / 2 % 39:=b8 _ (by decide);have m1:c0 / 2 % 39<39:=ci _ (by decide);have d0:0≤c1 / 78 % 2:=b8 _ (by decide);have d1:c1 / 78 % 2<2:=ci _ (by decide);obtain⟨m,hm⟩:=jV m0;rw[hm]at m1⊢;obtain⟨d,hd⟩:∃d:Bool,c1 / 78 % 2=if d then 1 else 0:=by
  have:c1 / 78 % 2=0∨c1 / 78 % 2=1:=by omega
  rcases this with e |e
  ·exact⟨false,e⟩
  ·exact⟨true,e⟩
 rw[hd];refine znt (r:=198) G fw d (by omega) (by decide) λS' sb=>?_
 try walk_at "wp"
 exact h S' sb
theorem zyg (G:Signs w0 w1 w2 w3 w4 w5) (fw:S aw=ae (.lst (six w0 w1 w2 w3 w4 w5))) (h:∀(S':Sto) (at' ab:Addr) (tt:List Str) (B:List Tn),Pre0 S' aw at' ab w0 w1 w2 w3 w4 w5 tt B→T E D [ae (.scr ns),ae (.ref aw),ae (.ref at'),ae (.ref ab),a4,a5,a6,a7] S') :
  zcX 199 (zcQ 199 T) E D [ae (.scr ns),ae (.ref aw),a2,a3,a4,a5,a6,a7] S:=by
 unfold zcX zcQ;walk_at "wp";refine zdw (by decide) λc2=>zdw (by decide) λc3=>zlk λat' tt ht0 htt=>?_;have ft:put S at' (Ob.lst (tt.map W.str)) at'=ae (.lst (tt.map W.str)):=zag;replace fw:=keep (x:=Ob.lst (tt.map W.str)) fw ht0;generalize put S at' (Ob.lst (tt.map W.str))=S2 at fw ft⊢;refine zdw (by decide) λc4=>?_
 try walk_at "wp"
 refine⟨by decide,?_⟩;refine zqH (r:=192) (zfr htt).len (by decide) fw ft λab B n m hb0 e1 e2 e3=>?_;exact h _ at' ab tt B ⟨G,zfr htt,⟨⟨n,m,e1⟩,e2,λt ht=>(e3 t ht).1⟩,keep (x:=Ob.lst (B.map zbi)) fw hb0,keep (x:=Ob.lst (B.map zbi)) ft hb0,zag,λt ht=>(e3 t ht).2⟩
theorem zzr (P:Pre0 S aw at' ab w0 w1 w2 w3 w4 w5 tt B) (h:∀S' p,Pw w0 w1 w2 w3 w4 w5 tt B p→S' ab=ae (.lst (B.map zbi))→T E D [ae (.scr ns),ae (.ref aw),ae (.ref at'),ae (.ref ab),ae (enc (p.ev B (byC 1))),a5,a6,a7] S') :
  zcZ 199 T E D [ae (.scr ns),ae (.ref aw),ae (.ref at'),ae (.ref ab),a4,a5,a6,a7] S:=by
 rw[zcZ];walk_at "wp";intro ac hc;refine L2.ztH (r:=189) zag (keep P.fb hc) (keep P.fw hc) (P.b.bk P.T P.G) P.ne λp v S' sub pa po pw pn=>?_;have hdp:=zlW p;have fb:=sub _ _ (keep P.fb hc);exact L2.ztk (r:=198) (by decide) fb (P.b.bk P.T P.G) 23 (by omega) (by omega) pa po (by omega) (h S' p ⟨P.b,P.T,P.G,po,pw,pn⟩ fb)
theorem zwt (J:Jx w0 w1 w2 w3 w4 w5 tt B x x 0) (fb:S ab=ae (.lst (B.map zbi))) (h:T E D [a0,a1,a2,ae (.ref ab),ae (enc x),a5,ae (enc (src B x)),a7] S) :
  zcy 199 T E D [a0,a1,a2,ae (.ref ab),ae (enc x),a5,a6,a7] S:=by
 obtain⟨f1,f2,f3,f4⟩:=J.fit;rw[zcy];walk_at "wp";exact zoc (r:=198) J.k.b.nd fb (.inl rfl) J.k.b.s1 40 f1 (by omega) f3 (by omega) (by rw[zqZ];exact h)
theorem zvE (J:Jx w0 w1 w2 w3 w4 w5 tt B x x 0) (fb:S ab=ae (.lst (B.map zbi))) (h:∀S',Sub S S'→T E D [a0,a1,a2,ae (.ref ab),ae (enc x),a5,ae (enc (src B x)),a7] S') :
  zcB 199 T E D [a0,a1,a2,ae (.ref ab),ae (enc x),a5,ae (enc (src B x)),a7] S:=by
 rw[zcB];walk_at "wp";refine zkT (r:=198) J fb (by decide) λS' sb=>?_
 try walk_at "wp"
 exact h S' sb
theorem zwx (J:Jx w0 w1 w2 w3 w4 w5 tt B x x 0) (fb:S ab=ae (.lst (B.map zbi))) (h:∀kn,S kn=none→T E D [a0,a1,a2,ae (.ref ab),ae (enc x),a5,a6,ae (.ref kn)] (put S kn (.lst ((x.us B []).map zdT)))) :
  zcu 199 T E D [a0,a1,a2,ae (.ref ab),ae (enc x),a5,a6,a7] S:=by
 obtain⟨f1,f2,f3,f4⟩:=J.fit;rw[zcu];walk_at "wp";exact zpN (r:=198) J.lf J.pb fb (by omega) (by omega) (by omega) f4 h
theorem zws{c:Int}(J:Jx w0 w1 w2 w3 w4 w5 tt B x x 0) (fb:S ab=ae (.lst (B.map zbi))) (fk:S kn=ae (.lst ((x.us B []).map zdT))) (h:∀S' y,Sub S S'→Jx w0 w1 w2 w3 w4 w5 tt B y y 0→D.nx [a0,a1,a2,ae (.ref ab),ae (enc y),ae (.int c),ae (enc (src B x)),ae (.ref kn)] S') :
  zcw 199 E D [a0,a1,a2,ae (.ref ab),ae (enc x),ae (.int c),ae (enc (src B x)),ae (.ref kn)] S:=by
 obtain⟨s1,s2⟩:=zfB J.sm;rw[zcw];walk_at "wp";simp only[zal fk,ap];by_cases hp:(0:Int)<((x.us B []).length:Int)
 ·rw[if_pos hp];obtain⟨w,e,m⟩:=zgh (xs:=(x.us B []).map zdT) (i:=c % ((x.us B []).length:Int)) (b8 _ (by omega)) (by rw[ap];exact ci _ (by omega));obtain⟨u,hm,rfl⟩:=aM.mp m;rw[e];refine⟨hp,?_⟩;obtain⟨s,y,M,hin,C,hg,e2,J',sq⟩:=J.step8 hm;simp only[zdT];walk_at "wp";refine⟨by decide,λf hf=>?_⟩;have fb':=keep (x:=Ob.lst [zbJ u.1]) fb hf;refine zmA (r:=198) (wn:=[u.1]) J.lf J.pb M (by omega) (by decide) fb' zag (zff (λ_ _=>trivial) _ (J.k.src J.wy).1.hd) (by omega) (by omega) (by simp) rfl (λy hy=>by rw[aV]at hy;rw[hy];exact hin) ?_
  refine C.ok_behind (r:=198) hg fb' (by decide) ?_;rw[e2];exact h _ y (.put .refl hf) J'.re
 ·rw[if_neg hp];exact h S x .refl J
theorem zma:∀(cs:List Int) {x:Tr}{S:Sto}{G:Sto→Prop}{a5 a6 a7:Option W},Jx w0 w1 w2 w3 w4 w5 tt B x x 0→S ab=ae (.lst (B.map zbi))→(∀S,G S)→(∀S' σ,D.nx σ S')→
  forL (wGN 5) (zdv 199 zbh) E D G (cs.map W.int) [a0,a1,a2,ae (.ref ab),ae (enc x),a5,a6,a7] S
 | [],x,S,G,a5,a6,a7,J,fb,hG,h=>by
  simp only[cu,forL];exact h _ _
 |c::cs,x,S,G,a5,a6,a7,J,fb,hG,h=>by
  rw[aB];refine zco λN hN=>?_;rw[zdv]
  try walk_at "wp"
  refine zwt J fb (zvE J fb λS1 s1=>zwx J (s1 _ _ fb) λkn hk=>?_);refine zws J (keep (s1 _ _ fb) hk) zag λS2 y s2 J'=>?_;have fb2:=s2 _ _ (keep (x:=Ob.lst ((x.us B []).map zdT)) (s1 _ _ fb) hk);exact hN _ _ _ .refl (hG _) (zma cs J' fb2 hG h)
theorem zyQ (J:Jx w0 w1 w2 w3 w4 w5 tt B x x 0) (fb:S ab=ae (.lst (B.map zbi))) (h:∀S' σ,T E D σ S') :
  zcP 199 T E D [ae (.scr ns),a1,a2,ae (.ref ab),ae (enc x),a5,a6,a7] S:=by
 rw[zcP];walk_at "wp";have hcut:(zdE ns (ae 23) (ae 31)).length≤8:=by
  have:=ztI (xs:=ns) 23 31;rw[show((23:Nat):Int)=23 from rfl,show((31:Nat):Int)=31 from rfl]at this;rw[this,cQ];omega
 refine⟨by decide,zah (by rw[ap];omega),?_⟩;have e:(zdE ns (ae 23) (ae 31)).map W.int++[W.int 0]=(zdE ns (ae 23) (ae 31)++[0]).map W.int:=by rw[bq];rfl
 rw[e];exact zma _ J fb (λ_=>trivial) λS' σ=>h S' σ
end
theorem zxG (ns:List Int) (hl:ns.length≤63):zdm 200 [.scr ns] (λ_=>none) (λw _=>w= .bl true) (λ_ _=>False):=by
 rw[show(200:Nat)=199+1 from rfl,zdm,zmf];refine⟨rfl,?_⟩;refine zyZ λS aw w0 w1 w2 w3 w4 w5 G fw=>zyR G fw λS1 s1=>zyg G (s1 _ _ fw) λS2 at' ab tt B P=>zzr P λS3 p u fb=>?_;have F:=u.b.lfs u.G;obtain⟨p1,p2⟩:=u.pw (c:=byC 1) P.rx F;have K:=u.b.bk3 u.T u.G;have J:Jx w0 w1 w2 w3 w4 w5 tt B (p.ev B (byC 1)) (p.ev B (byC 1)) 0:=⟨u.b,u.T,u.G,P.rx,K.wy (u.o.up λx hx=>aC _ (aC _ hx)),p1,p2,rfl,by omega,by omega⟩
 generalize p.ev B (byC 1)=x0 at J;refine zyQ J fb λS' σ=>?_;rw[zdA];walk_at "wp";exact⟨S', .refl⟩
end L2
end
end
section
namespace K38
open PySem L2 PyProof.Rows
noncomputable def top (i:Nat):Stmt:=PySem.Challenge.pw_turnweave_k38_fewest_and_most.main.body.getD i (.Pass ⟨0,0,0,0⟩)
structure Cal (P:aE) (w:az) (K:ah) (mg:Str→Option Value) (base:Heap) (nm:Str) (ps:List Str) (c:Nat→WSp) where
  zf:Addr
  zd:bH
  zg:∀r,FnOk P w K mg base (CX1 P w) r zf zd ps (zcV K (c r))
  zb:Binds K zd ps []
  zk:e_ K (.ref zf)=true
  zm:mg nm=ae (.ref zf)
noncomputable def mkC {P:aE}{w:az}{K:ah}{h:Heap}{mg:Str→Option Value}{base:Heap}{nm:Str}{st:Stmt}{ps:List Str}{c:Nat→WSp}{f:Addr}{d:bH}(X:K.In h) (G:h.Ns aL mg) (F:Fun K nm nm st f d) (a:aU K aL nm=ae (ae (.ref f))) (g:∀r,FnOk P w K mg base (CX1 P w) r f d ps (zcV K (c r))) (b:Binds K d ps []):Cal P w K mg base nm ps c:=⟨f,d,g,b,F.kp,bi X G a⟩
def Dfn (K:ah) (nm:Str) (st:Stmt):Prop:=∃f d,aU K aL nm=ae (ae (.ref f))∧Fun K nm nm st f d
theorem dfn{K:ah}{x:Str}{st:Stmt}{f:Addr}{oc:Value}{od an:Option Addr}{osl:Array (Option Value)}{kV doc pm cdv ct:Value}(a:aU K aL x=ae (ae (.ref f))) (l:K.lookup f=ae ⟨oc,od, .func (dt x x (zgo st) (zeY st) (zaj st) .none kV doc pm an cdv ct),osl⟩) (c:gd K cdv x=true) (k:e_ K (.ref f)=true):Dfn K x st:=⟨f,_,a,zwj l c k⟩
theorem nC{p:List Value→Prop}{k:Nat}(h:∀a us,us.length=k→p (a::us)):∀us,us.length=k+1→p us:=λus e=>by
 cases us with
 |nil=>cases e
 |cons a us=>exact h a us (Nat.succ.inj e)
theorem n0{p:List Value→Prop}(h:p []):∀us,us.length=0→p us:=λus e=>by
 cases us with
 |nil=>exact h
 |cons a us=>cases e
theorem n1{p:List Value→Prop}(h:∀a,p [a]):∀us,us.length=1→p us:=nC λa=>n0 (p:=λus=>p (a::us)) (h a)
theorem n2{p:List Value→Prop}(h:∀a b,p [a,b]):∀us,us.length=2→p us:=nC λa=>n1 (p:=λus=>p (a::us)) (h a)
theorem n3{p:List Value→Prop}(h:∀a b c,p [a,b,c]):∀us,us.length=3→p us:=nC λa=>n2 (p:=λus=>p (a::us)) (h a)
theorem n4{p:List Value→Prop}(h:∀a b c d,p [a,b,c,d]):∀us,us.length=4→p us:=nC λa=>n3 (p:=λus=>p (a::us)) (h a)
theorem n5{p:List Value→Prop}(h:∀a b c d e,p [a,b,c,d,e]):∀us,us.length=5→p us:=nC λa=>n4 (p:=λus=>p (a::us)) (h a)
theorem n6{p:List Value→Prop}(h:∀a b c d e f,p [a,b,c,d,e,f]):∀us,us.length=6→p us:=nC λa=>n5 (p:=λus=>p (a::us)) (h a)
local macro_rules | `(tactic| walk_at "sc") => `(tactic| (refine ⟨rfl, rfl, rfl, ?_, rfl, ?_, ?_⟩ <;> decide +kernel))
noncomputable abbrev Ok (P:aE) (w:az) (K:ah) (mg:Str→Option Value) (base:Heap) (f:Addr) (d:bH) (ps:List Str) (c:Nat→WSp):Prop:=∀r,FnOk P w K mg base (CX1 P w) r f d ps (zcV K (c r))
theorem zcF{P:aE}{w:az}{K:ah}{mg:Str→Option Value}{base:Heap}{f:Addr}{d:bH}{ps:List Str}{c:Nat→WSp}(h0:c 0=zbh) (h:∀r,FnOk P w K mg base (CX1 P w) r f d ps (zcV K (c r))→FnOk P w K mg base (CX1 P w) (r+1) f d ps (zcV K (c (r+1)))):Ok P w K mg base f d ps c:=λr=>by
 induction r with
 |zero=>rw[h0];exact zxa
 |succ r ih=>exact h r ih
structure Ncl (mg:Str→Option Value) (x:Str) where
  xC:Addr
  xm:mg x=ae (.ref xC)
theorem zqa:bS "ValueError" =ae (.type "ValueError"):=by first |rfl |decide +kernel | (unfold bS;decide +kernel)
noncomputable abbrev s0:Stmt:=top 9
theorem sc0:FnScope ["t"] ["t"] (zaj s0):=by walk_at "sc"
noncomputable abbrev s1:Stmt:=top 10
theorem sc1:FnScope ["things", "found", "thing"] ["things"] (zaj s1):=by walk_at "sc"
noncomputable abbrev s2:Stmt:=top 11
theorem sc2:FnScope ["t", "heavy", "deep", "level"] ["t"] (zaj s2):=by walk_at "sc"
noncomputable abbrev s3:Stmt:=top 13
theorem sc3:FnScope ["t", "place", "found", "number", "inner"] ["t", "place", "found"] (zaj s3):=by walk_at "sc"
noncomputable abbrev s4:Stmt:=top 12
theorem sc4:FnScope ["t", "found"] ["t"] (zaj s4):=by walk_at "sc"
noncomputable abbrev s5:Stmt:=top 15
theorem sc5:FnScope ["t", "number", "parts"] ["t", "number"] (zaj s5):=by walk_at "sc"
noncomputable abbrev s6:Stmt:=top 14
theorem sc6:FnScope ["t", "place", "thing", "number"] ["t", "place"] (zaj s6):=by walk_at "sc"
noncomputable abbrev s7:Stmt:=top 17
theorem sc7:FnScope ["side"] ["side"] (zaj s7):=by walk_at "sc"
noncomputable abbrev s8:Stmt:=top 18
theorem sc8:FnScope ["side"] ["side"] (zaj s8):=by walk_at "sc"
noncomputable abbrev s9:Stmt:=top 19
theorem sc9:FnScope ["side", "things"] ["side", "things"] (zaj s9):=by walk_at "sc"
noncomputable abbrev s10:Stmt:=top 22
theorem zAF:FnScope ["one", "other"] ["one", "other"] (zaj s10):=by walk_at "sc"
noncomputable abbrev s11:Stmt:=top 21
theorem sc11:FnScope ["left", "t", "things", "inner", "thing"] ["left", "t", "things"] (zaj s11):=by walk_at "sc"
noncomputable abbrev s12:Stmt:=top 20
theorem sc12:FnScope ["left", "t", "things"] ["left", "t"] (zaj s12):=by walk_at "sc"
noncomputable abbrev s13:Stmt:=top 26
theorem zAq:FnScope ["text"] ["text"] (zaj s13):=by walk_at "sc"
noncomputable abbrev s14:Stmt:=top 25
theorem zAp:FnScope ["text"] ["text"] (zaj s14):=by walk_at "sc"
noncomputable abbrev s15:Stmt:=top 30
theorem sc15:FnScope ["book", "title", "turning"] ["book", "title"] (zaj s15):=by walk_at "sc"
noncomputable abbrev s16:Stmt:=top 32
theorem zzV:FnScope ["way"] ["way"] (zaj s16):=by walk_at "sc"
noncomputable abbrev s17:Stmt:=top 35
theorem zAt:FnScope ["shape"] ["shape"] (zaj s17):=by walk_at "sc"
noncomputable abbrev s18:Stmt:=top 36
theorem sc18:FnScope ["book", "way", "side", "parts", "turning"] ["book", "way", "side"] (zaj s18):=by walk_at "sc"
noncomputable abbrev s19:Stmt:=top 33
theorem zAA:FnScope ["book", "way"] ["book", "way"] (zaj s19):=by walk_at "sc"
noncomputable abbrev s20:Stmt:=top 34
theorem zAf:FnScope ["book", "way"] ["book", "way"] (zaj s20):=by walk_at "sc"
noncomputable abbrev s21:Stmt:=top 37
theorem sc21:FnScope ["book", "way", "turning"] ["book", "way"] (zaj s21):=by walk_at "sc"
noncomputable abbrev s22:Stmt:=top 41
theorem sc22:FnScope ["book", "shape", "turning"] ["book", "shape"] (zaj s22):=by walk_at "sc"
noncomputable abbrev s23:Stmt:=top 40
theorem sc23:FnScope ["book", "shape", "place", "found", "turning", "number", "inner"] ["book", "shape", "place", "found"] (zaj s23):=by walk_at "sc"
noncomputable abbrev s24:Stmt:=top 39
theorem sc24:FnScope ["book", "shape", "found"] ["book", "shape"] (zaj s24):=by walk_at "sc"
noncomputable abbrev s25:Stmt:=top 43
theorem sc25:FnScope ["book", "way", "place", "found", "spot", "inner"] ["book", "way", "place", "found"] (zaj s25):=by walk_at "sc"
noncomputable abbrev s26:Stmt:=top 42
theorem sc26:FnScope ["book", "way", "found"] ["book", "way"] (zaj s26):=by walk_at "sc"
noncomputable abbrev s27:Stmt:=top 44
theorem zAu:FnScope ["pairs"] ["pairs"] (zaj s27):=by walk_at "sc"
noncomputable abbrev s28:Stmt:=top 48
theorem sc28:FnScope ["book", "shape", "turning"] ["book", "shape"] (zaj s28):=by walk_at "sc"
noncomputable abbrev s29:Stmt:=top 47
theorem sc29:FnScope ["book", "shape", "place", "wanted", "top", "parts", "spot", "inner"] ["book", "shape", "place", "wanted"] (zaj s29):=by walk_at "sc"
noncomputable abbrev s30:Stmt:=top 46
theorem zAL:FnScope ["book", "shape", "places"] ["book", "shape", "places"] (zaj s30):=by walk_at "sc"
noncomputable abbrev s31:Stmt:=top 45
theorem sc31:FnScope ["book", "shape", "places", "known", "place"] ["book", "shape", "places"] (zaj s31):=by walk_at "sc"
noncomputable abbrev s32:Stmt:=top 50
theorem sc32:FnScope ["book", "way", "turning", "kept"] ["book", "way"] (zaj s32):=by walk_at "sc"
noncomputable abbrev s33:Stmt:=top 51
theorem sc33:FnScope ["book", "way", "turning", "kept"] ["book", "way"] (zaj s33):=by walk_at "sc"
noncomputable abbrev s34:Stmt:=top 54
theorem sc34:FnScope ["book", "way", "other", "shape"] ["book", "way", "other"] (zaj s34):=by walk_at "sc"
noncomputable abbrev s35:Stmt:=top 55
theorem sc35:FnScope ["book", "way", "other", "first", "second", "mine", "yours", "parts"] ["book", "way", "other"] (zaj s35):=by walk_at "sc"
noncomputable abbrev s36:Stmt:=top 53
theorem zAn:FnScope ["book", "way", "other"] ["book", "way", "other"] (zaj s36):=by walk_at "sc"
noncomputable abbrev s37:Stmt:=top 57
theorem zAm:FnScope ["script", "k"] ["script", "k"] (zaj s37):=by walk_at "sc"
noncomputable abbrev s38:Stmt:=top 58
theorem sc38:FnScope ["one", "two", "great", "signs", "rest", "base", "k", "at", "words", "word"] ["one", "two", "great"] (zaj s38):=by walk_at "sc"
noncomputable abbrev s39:Stmt:=top 59
theorem zAz:FnScope ["side"] ["side"] (zaj s39):=by walk_at "sc"
noncomputable abbrev s40:Stmt:=top 60
theorem zAr:FnScope ["side", "things"] ["side", "things"] (zaj s40):=by walk_at "sc"
noncomputable abbrev s41:Stmt:=top 61
theorem zAc:FnScope ["way", "head", "c", "d"] ["way", "head", "c", "d"] (zaj s41):=by walk_at "sc"
noncomputable abbrev s42:Stmt:=top 62
theorem sc42:FnScope ["many", "w", "grows", "some"] ["many", "w", "grows"] (zaj s42):=by walk_at "sc"
noncomputable abbrev s43:Stmt:=top 63
theorem sc43:FnScope ["script", "k", "w", "titles", "grows", "book", "j", "lefts", "n", "left", "some", "draw"] ["script", "k", "w", "titles", "grows"] (zaj s43):=by walk_at "sc"
noncomputable abbrev s44:Stmt:=top 64
theorem sc44:FnScope ["cells", "book", "w", "room", "stack", "spent", "cell", "way", "need", "node", "k", "at"] ["cells", "book", "w", "room"] (zaj s44):=by walk_at "sc"
noncomputable abbrev s45:Stmt:=top 65
theorem sc45:FnScope ["plan", "book", "by", "k", "bits", "head", "parts", "ways"] ["plan", "book", "by"] (zaj s45):=by walk_at "sc"
noncomputable abbrev s46:Stmt:=top 66
theorem sc46:FnScope ["book", "way", "which", "parts", "turning"] ["book", "way", "which"] (zaj s46):=by walk_at "sc"
noncomputable abbrev s47:Stmt:=top 67
theorem zAJ:FnScope ["found"] ["found"] (zaj s47):=by walk_at "sc"
noncomputable abbrev s48:Stmt:=top 68
theorem sc48:FnScope ["book", "way", "shape", "low", "high", "lows", "highs", "use", "left"] ["book", "way", "shape"] (zaj s48):=by walk_at "sc"
noncomputable abbrev s49:Stmt:=top 69
theorem sc49:FnScope ["w", "many", "drops", "book", "way", "k", "low", "high"] ["w", "many", "drops"] (zaj s49):=by walk_at "sc"
noncomputable abbrev s50:Stmt:=top 70
theorem sc50:FnScope ["script", "w", "titles", "book", "way", "cell", "shape", "known"] ["script"] (zaj s50):=by walk_at "sc"
section
variable (P:aE) (w:az) (K:ah) (mg:Str→Option Value) (base:Heap)
abbrev C0:=Cal P w K mg base "parts_of" ["t"] zcn
abbrev C1:=Cal P w K mg base "parts_of_all" ["things"] zbf
abbrev C2:=Cal P w K mg base "is_small" ["t"] zcm
abbrev C3:=Cal P w K mg base "gather_places" ["t", "place", "found"] zaN
abbrev C4:=Cal P w K mg base "places" ["t"] zeE
abbrev C5:=Cal P w K mg base "numbered_part" ["t", "number"] zbA
abbrev C6:=Cal P w K mg base "part" ["t", "place"] zgM
abbrev C7:=Cal P w K mg base "blank_places" ["side"] zbs
abbrev C8:=Cal P w K mg base "blanks" ["side"] zdS
abbrev C9:=Cal P w K mg base "filled" ["side", "things"] zcH
abbrev C10:=Cal P w K mg base "have_one_top" ["one", "other"] zbN
abbrev C11:=Cal P w K mg base "gather_matched" ["left", "t", "things"] zaB
abbrev C12:=Cal P w K mg base "matched" ["left", "t"] zbM
abbrev C13:=Cal P w K mg base "are_small_letters" ["text"] zaV
abbrev C14:=Cal P w K mg base "is_sign" ["text"] zdO
abbrev C15:=Cal P w K mg base "turning_of" ["book", "title"] zaD
abbrev C16:=Cal P w K mg base "is_quiet" ["way"] zcM
abbrev C17:=Cal P w K mg base "only_small" ["shape"] zbT
abbrev C18:=Cal P w K mg base "with_sides" ["book", "way", "side"] zba
abbrev C19:=Cal P w K mg base "source" ["book", "way"] zeb
abbrev C20:=Cal P w K mg base "goal" ["book", "way"] zfY
abbrev C21:=Cal P w K mg base "part_places" ["book", "way"] zbd
abbrev C22:=Cal P w K mg base "open_turning" ["book", "shape"] zbu
abbrev C23:=Cal P w K mg base "gather_open" ["book", "shape", "place", "found"] zbl
abbrev C24:=Cal P w K mg base "open_uses" ["book", "shape"] zcS
abbrev C25:=Cal P w K mg base "gather_uses" ["book", "way", "place", "found"] zbc
abbrev C26:=Cal P w K mg base "uses" ["book", "way"] zgW
abbrev C27:=Cal P w K mg base "places_of" ["pairs"] zcN
abbrev C28:=Cal P w K mg base "turned_top" ["book", "shape"] zcv
abbrev C29:=Cal P w K mg base "way_within" ["book", "shape", "place", "wanted"] zaU
abbrev C30:=Cal P w K mg base "way_with" ["book", "shape", "places"] zdq
abbrev C31:=Cal P w K mg base "way_of" ["book", "shape", "places"] zdY
abbrev C32:=Cal P w K mg base "fewest" ["book", "way"] zbz
abbrev C33:=Cal P w K mg base "most" ["book", "way"] zda
abbrev C34:=Cal P w K mg base "one_source" ["book", "way", "other"] zbU
abbrev C35:=Cal P w K mg base "moved" ["book", "way", "other"] zcO
abbrev C36:=Cal P w K mg base "behind" ["book", "way", "other"] zdy
abbrev C37:=Cal P w K mg base "_law_cell" ["script", "k"] zaK
abbrev C38:=Cal P w K mg base "_law_words" ["one", "two", "great"] zbS
abbrev C39:=Cal P w K mg base "_law_count" ["side"] zaA
abbrev C40:=Cal P w K mg base "_law_filled" ["side", "things"] zbb
abbrev C41:=Cal P w K mg base "_law_lefts" ["way", "head", "c", "d"] zcA
abbrev C42:=Cal P w K mg base "_law_rights" ["many", "w", "grows"] zbW
abbrev C43:=Cal P w K mg base "_law_book" ["script", "k", "w", "titles", "grows"] zbC
abbrev C44:=Cal P w K mg base "_law_plan" ["cells", "book", "w", "room"] zci
abbrev C45:=Cal P w K mg base "_law_way" ["plan", "book", "by"] zcL
abbrev C46:=Cal P w K mg base "_law_made" ["book", "way", "which"] zch
abbrev C47:=Cal P w K mg base "_law_is_number" ["found"] zaH
abbrev C48:=Cal P w K mg base "_law_next_good" ["book", "way", "shape"] zbo
abbrev C49:=Cal P w K mg base "_law_tower" ["w", "many", "drops"] zbr
end
section
variable {P:aE}{w:az}{K:ah}{mg:Str→Option Value}{base:Heap}
variable {f:Addr}{d:bH}
theorem o0 (F:Fun K "parts_of" "parts_of" s0 f d) (n_i:mg "isinstance" =none) (n_n:mg "int" =none):Ok P w K mg base f d ["t"] zcn:=zcF rfl λr ih=>zaQ F sc0 rfl rfl λ_ _ _ _ _ _ hr=>(zae (zaT (zbE (zfm rfl n_i rfl n_n c9 (jv 0) (by decide) (by decide) (zst _ (by simp)))) (zai (zam (zak zac))) zau)
  (zai (zam (zcK (jv 0) (zaG zad) zaO))))
theorem o1 (F:Fun K "parts_of_all" "parts_of_all" s1 f d) (x0:C0 P w K mg base):Ok P w K mg base f d ["things"] zbf:=zcF rfl λr ih=>zaQ F sc1 rfl rfl λ_ _ _ _ _ _ hr=>(zae (zao (i:=1) sc1.nd rfl (ak rfl) (zaC (zaz zac)))
  (zae (zca (zbI (jv 0)) (zaq (i:=2) sc1.nd rfl (ak rfl)) (zai (zbk (zpK (jv 1) (zaa (zaf (x0.zg r) hr rfl x0.zm x0.zk x0.zb (zaa (jv 2) zac)) zac)))))
  (zai (zam (jv 1)))))
theorem o2 (F:Fun K "is_small" "is_small" s2 f d) (x1:C1 P w K mg base) (n_l:mg "len" =none) {t_MOST_HEAVY:bc}(g_MOST_HEAVY:mg "MOST_HEAVY" =ae (.int 400 t_MOST_HEAVY)) {t_MOST_DEEP:bc}(g_MOST_DEEP:mg "MOST_DEEP" =ae (.int 40 t_MOST_DEEP)):Ok P w K mg base f d ["t"] zcm:=zcF rfl λr ih=>zaQ F sc2 rfl rfl λ_ _ _ _ _ _ hr=>(zae (zao (i:=1) sc2.nd rfl (ak rfl) zad)
  (zae (zao (i:=2) sc2.nd rfl (ak rfl) zad)
  (zae (zao (i:=3) sc2.nd rfl (ak rfl) (zaC (zaz (zaa (jv 0) zac))))
  (zae (zmg (zbE (jv 3)) (zae (zth (i:=1) sc2.nd rfl (ak rfl) (zcz rfl n_l (zaa (jv 3) zac)))
  (zae (zth (i:=2) sc2.nd rfl (ak rfl) zad)
  (zae (zaT (JW.jt (zrL (zmQ (jv 1) (zcj rfl g_MOST_HEAVY)) (zlR (zmQ (jv 2) (zcj rfl g_MOST_DEEP))))) (zai (zam zeI)) zau)
  (zai (zao (i:=3) sc2.nd rfl (ak rfl) (zaf (x1.zg r) hr rfl x1.zm x1.zk x1.zb (zaa (jv 3) zac))))))))
  (zai (zam zeI))))))
theorem o3 (F:Fun K "gather_places" "gather_places" s3 f d) (x0:C0 P w K mg base) (b:Binds K d ["t", "place", "found"] []) (m:mg "gather_places" =ae (.ref f)) (n_e:mg "enumerate" =none):Ok P w K mg base f d ["t", "place", "found"] zaN:=zcF rfl λr ih=>zaQ F sc3 rfl rfl λ_ _ _ _ _ _ hr=>(zae (zbk (zbP (jv 2) (zaa (jv 1) zac)))
  (zai (zca (zfO rfl n_e (zaf (x0.zg r) hr rfl x0.zm x0.zk x0.zb (zaa (jv 0) zac))) (zef (zaJ (zaq (i:=3) sc3.nd rfl (ak rfl)) (zaJ (zaq (i:=4) sc3.nd rfl (ak rfl)) zdh)) (glS (glS gl0))) (zai (zbk (zaf ih hr rfl m F.kp b (zaa (jv 4) (zaa (zby (jv 1) (zak (zaa (jv 3) zac))) (zaa (jv 2) zac)))))))))
theorem o4 (F:Fun K "places" "places" s4 f d) (x3:C3 P w K mg base):Ok P w K mg base f d ["t"] zeE:=zcF rfl λr ih=>zaQ F sc4 rfl rfl λ_ _ _ _ _ _ hr=>(zae (zao (i:=1) sc4.nd rfl (ak rfl) (zaC (zaz zac)))
  (zae (zbk (zaf (x3.zg r) hr rfl x3.zm x3.zk x3.zb (zaa (jv 0) (zaa (zak zac) (zaa (jv 1) zac)))))
  (zai (zam (jv 1)))))
theorem o5 (F:Fun K "numbered_part" "numbered_part" s5 f d) (x0:C0 P w K mg base) (n_l:mg "len" =none) (y_NoPlace:Ncl mg "NoPlace") (v_NoPlace:XcIn K "NoPlace" y_NoPlace.xC):Ok P w K mg base f d ["t", "number"] zbA:=zcF rfl λr ih=>zaQ F sc5 rfl rfl λ_ _ _ _ _ _ hr=>(zae (zao (i:=2) sc5.nd rfl (ak rfl) (zaf (x0.zg r) hr rfl x0.zm x0.zk x0.zb (zaa (jv 0) zac)))
  (zae (zaT (JW.jt (zrL (zrX (jv 1) zad) (zlR (zzp (jv 1) (zcz rfl n_l (zaa (jv 2) zac)))))) (zai (zfE v_NoPlace rfl y_NoPlace.xm (zaa zdH zac))) zau)
  (zai (zam (zap (jv 2) (jv 1))))))
theorem o6 (F:Fun K "part" "part" s6 f d) (x5:C5 P w K mg base):Ok P w K mg base f d ["t", "place"] zgM:=zcF rfl λr ih=>zaQ F sc6 rfl rfl λ_ _ _ _ _ _ hr=>(zae (zao (i:=2) sc6.nd rfl (ak rfl) (jv 0))
  (zae (zca (zbI (jv 1)) (zaq (i:=3) sc6.nd rfl (ak rfl)) (zai (zao (i:=2) sc6.nd rfl (ak rfl) (zaf (x5.zg r) hr rfl x5.zm x5.zk x5.zb (zaa (jv 2) (zaa (jv 3) zac))))))
  (zai (zam (jv 2)))))
theorem o7 (F:Fun K "blank_places" "blank_places" s7 f d) (x4:C4 P w K mg base) (x6:C6 P w K mg base) (n_i:mg "isinstance" =none) (n_n:mg "int" =none):Ok P w K mg base f d ["side"] zbs:=zcF rfl λr ih=>zaQ F sc7 rfl rfl λ_ _ _ _ _ _ hr=>(zai (zam (zaC (zbQ (N:=["place", "side"]) (k:=1) (fr:=[0]) ⟨rfl,by decide +kernel,rfl,rfl,rfl,rfl,rfl,rfl,rfl⟩ (zbI (zaf (x4.zg r) hr rfl x4.zm x4.zk x4.zb (zaa (jv 0) zac))) (λ_ _ _ _=>(zaq (i:=0) (show br [("place" :Str),("side" :Str)] from by decide +kernel) rfl (ak rfl))) (λ_ _ _ _=>(znI (zbE (zfm rfl n_i rfl n_n c9 (zaf (x6.zg r) hr rfl x6.zm x6.zk x6.zb (zaa (jv 1) (zaa (jv 0) zac))) (by decide) (by decide) (zst _ (by simp)))))) (λ_ _ _ _=>(jv 0))))))
theorem o8 (F:Fun K "blanks" "blanks" s8 f d) (x6:C6 P w K mg base) (x7:C7 P w K mg base):Ok P w K mg base f d ["side"] zdS:=zcF rfl λr ih=>zaQ F sc8 rfl rfl λ_ _ _ _ _ _ hr=>(zai (zam (zaC (zbQ (N:=["place", "side"]) (k:=1) (fr:=[0]) ⟨rfl,by decide +kernel,rfl,rfl,rfl,rfl,rfl,rfl,rfl⟩ (zbI (zaf (x7.zg r) hr rfl x7.zm x7.zk x7.zb (zaa (jv 0) zac))) (λ_ _ _ _=>(zaq (i:=0) (show br [("place" :Str),("side" :Str)] from by decide +kernel) rfl (ak rfl))) (λ_ _ _ _=>zbB) (λ_ _ _ _=>(zaf (x6.zg r) hr rfl x6.zm x6.zk x6.zb (zaa (jv 1) (zaa (jv 0) zac))))))))
theorem o9 (F:Fun K "filled" "filled" s9 f d) (b:Binds K d ["side", "things"] []) (m:mg "filled" =ae (.ref f)) (n_i:mg "isinstance" =none) (n_n:mg "int" =none) (n_t:mg "tuple" =none):Ok P w K mg base f d ["side", "things"] zcH:=zcF rfl λr ih=>zaQ F sc9 rfl rfl λ_ _ _ _ _ _ hr=>(zae (zaT (zbE (zfm rfl n_i rfl n_n c9 (jv 0) (by decide) (by decide) (zst _ (by simp)))) (zai (zam (zap (jv 1) (jv 0)))) zau)
  (zai (zam (zby (zak (zaa (zap (jv 0) zad) zac)) (zjS rfl n_t (zbQ (N:=["inner", "things"]) (k:=1) (fr:=[1]) ⟨rfl,by decide +kernel,rfl,rfl,rfl,rfl,rfl,rfl,rfl⟩ (zbI (zcK (jv 0) (zaG zad) zaO)) (λ_ _ _ _=>(zaq (i:=0) (show br [("inner" :Str),("things" :Str)] from by decide +kernel) rfl (ak rfl))) (λ_ _ _ _=>zbB) (λ_ _ _ _=>(zaf ih hr rfl m F.kp b (zaa (jv 0) (zaa (jv 1) zac))))))))))
theorem o10 (F:Fun K "have_one_top" "have_one_top" s10 f d) (n_l:mg "len" =none):Ok P w K mg base f d ["one", "other"] zbN:=zcF rfl λr ih=>zaQ F zAF rfl rfl λ_ _ _ _ _ _ hr=>(zai (zam (zgX (zhT hr (zap (jv 0) zad) (zap (jv 1) zad)) (zgH (zhT hr (zcz rfl n_l (zaa (jv 0) zac)) (zcz rfl n_l (zaa (jv 1) zac)))))))
theorem o11 (F:Fun K "gather_matched" "gather_matched" s11 f d) (x10:C10 P w K mg base) (b:Binds K d ["left", "t", "things"] []) (m:mg "gather_matched" =ae (.ref f)) (n_i:mg "isinstance" =none) (n_n:mg "int" =none) (n_z:mg "zip" =none):Ok P w K mg base f d ["left", "t", "things"] zaB:=zcF rfl λr ih=>zaQ F sc11 rfl rfl λ_ _ _ _ _ _ hr=>(zae (zaT (zbE (zfm rfl n_i rfl n_n c9 (jv 0) (by decide) (by decide) (zst _ (by simp)))) (zae (zbk (zbP (jv 2) (zaa (jv 1) zac)))
  (zai (zam zeI))) zau)
  (zae (zaT (zel (zbE (zaf (x10.zg r) hr rfl x10.zm x10.zk x10.zb (zaa (jv 0) (zaa (jv 1) zac))))) (zai (zam zeI)) zau)
  (zae (zca (zmJ rfl n_z (zcK (jv 0) (zaG zad) zaO) (zcK (jv 1) (zaG zad) zaO)) (zef (zaJ (zaq (i:=3) sc11.nd rfl (ak rfl)) (zaJ (zaq (i:=4) sc11.nd rfl (ak rfl)) zdh)) (glS (glS gl0))) (zai (zaT (zel (zbE (zaf ih hr rfl m F.kp b (zaa (jv 3) (zaa (jv 4) (zaa (jv 2) zac)))))) (zai (zam zeI)) zau)))
  (zai (zam zeI)))))
theorem o12 (F:Fun K "matched" "matched" s12 f d) (x11:C11 P w K mg base):Ok P w K mg base f d ["left", "t"] zbM:=zcF rfl λr ih=>zaQ F sc12 rfl rfl λ_ _ _ _ _ _ hr=>(zae (zao (i:=2) sc12.nd rfl (ak rfl) (zaC (zaz zac)))
  (zae (zaT (zbE (zaf (x11.zg r) hr rfl x11.zm x11.zk x11.zb (zaa (jv 0) (zaa (jv 1) (zaa (jv 2) zac))))) (zai (zam (jv 2))) zau)
  (zai (zam zcR))))
theorem o13 (F:Fun K "are_small_letters" "are_small_letters" s13 f d) (n_a:mg "all" =none):Ok P w K mg base f d ["text"] zaV:=zcF rfl λr ih=>zaQ F zAq rfl rfl λ_ _ _ _ _ _ hr=>(zai (zam (zoq rfl n_a (zbQ (N:=["letter"]) (k:=1) (fr:=[]) ⟨rfl,by decide +kernel,rfl,rfl,rfl,rfl,rfl,rfl,rfl⟩ (zbI (jv 0)) (λ_ _ _ _=>(zaq (i:=0) (show br [("letter" :Str)] from by decide +kernel) rfl (ak rfl))) (λ_ _ _ _=>zbB) (λ_ _ _ _=>(znZ zdH (jv 0) zdH))))))
theorem o14 (F:Fun K "is_sign" "is_sign" s14 f d) (x13:C13 P w K mg base) (n_l:mg "len" =none) {t_MOST_LETTERS:bc}(g_MOST_LETTERS:mg "MOST_LETTERS" =ae (.int 8 t_MOST_LETTERS)):Ok P w K mg base f d ["text"] zdO:=zcF rfl λr ih=>zaQ F zAp rfl rfl λ_ _ _ _ _ _ hr=>(zai (zam (zgX (znZ zad (zcz rfl n_l (zaa (jv 0) zac)) (zcj rfl g_MOST_LETTERS)) (zgH (zaf (x13.zg r) hr rfl x13.zm x13.zk x13.zb (zaa (jv 0) zac))))))
theorem o15 (F:Fun K "turning_of" "turning_of" s15 f d):Ok P w K mg base f d ["book", "title"] zaD:=zcF rfl λr ih=>zaQ F sc15 rfl rfl λ_ _ _ _ _ _ hr=>(zae (zca (zbI (jv 0)) (zaq (i:=2) sc15.nd rfl (ak rfl)) (zai (zaT (zfv hr (zap (jv 2) zad) (jv 1)) (zai (zam (jv 2))) zau)))
  (zai (zam zcR)))
theorem o16 (F:Fun K "is_quiet" "is_quiet" s16 f d) (x14:C14 P w K mg base) (b:Binds K d ["way"] []) (m:mg "is_quiet" =ae (.ref f)) (n_a:mg "all" =none):Ok P w K mg base f d ["way"] zcM:=zcF rfl λr ih=>zaQ F zzV rfl rfl λ_ _ _ _ _ _ hr=>(zai (zam (zgX (zaf (x14.zg r) hr rfl x14.zm x14.zk x14.zb (zaa (zap (jv 0) zad) zac)) (zgH (zoq rfl n_a (zbQ (N:=["inner"]) (k:=1) (fr:=[]) ⟨rfl,by decide +kernel,rfl,rfl,rfl,rfl,rfl,rfl,rfl⟩ (zbI (zcK (jv 0) (zaG zad) zaO)) (λ_ _ _ _=>(zaq (i:=0) (show br [("inner" :Str)] from by decide +kernel) rfl (ak rfl))) (λ_ _ _ _=>zbB) (λ_ _ _ _=>(zaf ih hr rfl m F.kp b (zaa (jv 0) zac)))))))))
theorem o17 (F:Fun K "only_small" "only_small" s17 f d) (x2:C2 P w K mg base) (yT:Ncl mg "TooGreat") (v_TooGreat:XcIn K "TooGreat" yT.xC):Ok P w K mg base f d ["shape"] zbT:=zcF rfl λr ih=>zaQ F zAt rfl rfl λ_ _ _ _ _ _ hr=>(zae (zaT (zel (zbE (zaf (x2.zg r) hr rfl x2.zm x2.zk x2.zb (zaa (jv 0) zac)))) (zai (zfE v_TooGreat rfl yT.xm (zaa zdH zac))) zau)
  (zai (zam (jv 0))))
theorem o18 (F:Fun K "with_sides" "with_sides" s18 f d) (x15:C15 P w K mg base) (x9:C9 P w K mg base) (b:Binds K d ["book", "way", "side"] []) (m:mg "with_sides" =ae (.ref f)) (n_t:mg "tuple" =none):Ok P w K mg base f d ["book", "way", "side"] zba:=zcF rfl λr ih=>zaQ F sc18 rfl rfl λ_ _ _ _ _ _ hr=>(zae (zhG (i:=3) (N:=["inner", "book", "side"]) (k:=1) (fr:=[0,2]) sc18.nd rfl (ak rfl) ⟨rfl,by decide +kernel,rfl,rfl,rfl,rfl,rfl,rfl,rfl⟩ (zbI (zcK (jv 1) (zaG zad) zaO)) (λ_ _ _ _=>(zaq (i:=0) (show br [("inner" :Str),("book" :Str),("side" :Str)] from by decide +kernel) rfl (ak rfl))) (λ_ _ _ _=>zbB) (λ_ _ _ _=>(zaf ih hr rfl m F.kp b (zaa (jv 1) (zaa (jv 0) (zaa (jv 2) zac))))))
  (zae (zao (i:=4) sc18.nd rfl (ak rfl) (zaf (x15.zg r) hr rfl x15.zm x15.zk x15.zb (zaa (jv 0) (zaa (zap (jv 1) zad) zac))))
  (zae (zaT (zkF (jv 4) zcR) (zai (zam (zby (zak (zaa (zap (jv 1) zad) zac)) (zdu rfl n_t (zaa (jv 3) zac))))) zau)
  (zai (zam (zaf (x9.zg r) hr rfl x9.zm x9.zk x9.zb (zaa (zap (jv 4) (jv 2)) (zaa (jv 3) zac))))))))
theorem o19 (F:Fun K "source" "source" s19 f d) (x17:C17 P w K mg base) (x18:C18 P w K mg base) {t_LEFT:bc}(g_LEFT:mg "LEFT" =ae (.int 1 t_LEFT)):Ok P w K mg base f d ["book", "way"] zeb:=zcF rfl λr ih=>zaQ F zAA rfl rfl λ_ _ _ _ _ _ hr=>(zai (zam (zaf (x17.zg r) hr rfl x17.zm x17.zk x17.zb (zaa (zaf (x18.zg r) hr rfl x18.zm x18.zk x18.zb (zaa (jv 0) (zaa (jv 1) (zaa (zcj rfl g_LEFT) zac)))) zac))))
theorem o20 (F:Fun K "goal" "goal" s20 f d) (x17:C17 P w K mg base) (x18:C18 P w K mg base) {t_RIGHT:bc}(g_RIGHT:mg "RIGHT" =ae (.int 2 t_RIGHT)):Ok P w K mg base f d ["book", "way"] zfY:=zcF rfl λr ih=>zaQ F zAf rfl rfl λ_ _ _ _ _ _ hr=>(zai (zam (zaf (x17.zg r) hr rfl x17.zm x17.zk x17.zb (zaa (zaf (x18.zg r) hr rfl x18.zm x18.zk x18.zb (zaa (jv 0) (zaa (jv 1) (zaa (zcj rfl g_RIGHT) zac)))) zac))))
theorem o21 (F:Fun K "part_places" "part_places" s21 f d) (x15:C15 P w K mg base) (x7:C7 P w K mg base) (n_r:mg "range" =none) (n_l:mg "len" =none) {t_LEFT:bc}(g_LEFT:mg "LEFT" =ae (.int 1 t_LEFT)):Ok P w K mg base f d ["book", "way"] zbd:=zcF rfl λr ih=>zaQ F sc21 rfl rfl λ_ _ _ _ _ _ hr=>(zae (zao (i:=2) sc21.nd rfl (ak rfl) (zaf (x15.zg r) hr rfl x15.zm x15.zk x15.zb (zaa (jv 0) (zaa (zap (jv 1) zad) zac))))
  (zae (zaT (zkF (jv 2) zcR) (zai (zam (zaC (zbQ (N:=["number"]) (k:=1) (fr:=[]) ⟨rfl,by decide +kernel,rfl,rfl,rfl,rfl,rfl,rfl,rfl⟩ (zdV rfl n_r (zaa (zfQ (zcz rfl n_l (zaa (jv 1) zac)) zad) zac)) (λ_ _ _ _=>(zaq (i:=0) (show br [("number" :Str)] from by decide +kernel) rfl (ak rfl))) (λ_ _ _ _=>zbB) (λ_ _ _ _=>(zak (zaa (jv 0) zac))))))) zau)
  (zai (zam (zaf (x7.zg r) hr rfl x7.zm x7.zk x7.zb (zaa (zap (jv 2) (zcj rfl g_LEFT)) zac))))))
theorem o22 (F:Fun K "open_turning" "open_turning" s22 f d) (x12:C12 P w K mg base) {t_LEFT:bc}(g_LEFT:mg "LEFT" =ae (.int 1 t_LEFT)):Ok P w K mg base f d ["book", "shape"] zbu:=zcF rfl λr ih=>zaQ F sc22 rfl rfl λ_ _ _ _ _ _ hr=>(zae (zca (zbI (jv 0)) (zaq (i:=2) sc22.nd rfl (ak rfl)) (zai (zaT (zeT (zaf (x12.zg r) hr rfl x12.zm x12.zk x12.zb (zaa (zap (jv 2) (zcj rfl g_LEFT)) (zaa (jv 1) zac))) zcR) (zai (zam (jv 2))) zau)))
  (zai (zam zcR)))
theorem o23 (F:Fun K "gather_open" "gather_open" s23 f d) (x22:C22 P w K mg base) (b:Binds K d ["book", "shape", "place", "found"] []) (m:mg "gather_open" =ae (.ref f)) (n_e:mg "enumerate" =none):Ok P w K mg base f d ["book", "shape", "place", "found"] zbl:=zcF rfl λr ih=>zaQ F sc23 rfl rfl λ_ _ _ _ _ _ hr=>(zae (zao (i:=4) sc23.nd rfl (ak rfl) (zaf (x22.zg r) hr rfl x22.zm x22.zk x22.zb (zaa (jv 0) (zaa (jv 1) zac))))
  (zae (zaT (zeT (jv 4) zcR) (zai (zbk (zbP (jv 3) (zaa (zak (zaa (jv 2) (zaa (zap (jv 4) zad) zac))) zac)))) zau)
  (zai (zca (zfO rfl n_e (zcK (jv 1) (zaG zad) zaO)) (zef (zaJ (zaq (i:=5) sc23.nd rfl (ak rfl)) (zaJ (zaq (i:=6) sc23.nd rfl (ak rfl)) zdh)) (glS (glS gl0))) (zai (zbk (zaf ih hr rfl m F.kp b (zaa (jv 0) (zaa (jv 6) (zaa (zby (jv 2) (zak (zaa (jv 5) zac))) (zaa (jv 3) zac)))))))))))
theorem o24 (F:Fun K "open_uses" "open_uses" s24 f d) (x23:C23 P w K mg base):Ok P w K mg base f d ["book", "shape"] zcS:=zcF rfl λr ih=>zaQ F sc24 rfl rfl λ_ _ _ _ _ _ hr=>(zae (zao (i:=2) sc24.nd rfl (ak rfl) (zaC (zaz zac)))
  (zae (zbk (zaf (x23.zg r) hr rfl x23.zm x23.zk x23.zb (zaa (jv 0) (zaa (jv 1) (zaa (zak zac) (zaa (jv 2) zac))))))
  (zai (zam (jv 2)))))
theorem o25 (F:Fun K "gather_uses" "gather_uses" s25 f d) (x15:C15 P w K mg base) (x21:C21 P w K mg base) (b:Binds K d ["book", "way", "place", "found"] []) (m:mg "gather_uses" =ae (.ref f)) (n_z:mg "zip" =none):Ok P w K mg base f d ["book", "way", "place", "found"] zbc:=zcF rfl λr ih=>zaQ F sc25 rfl rfl λ_ _ _ _ _ _ hr=>(zae (zaT (zeT (zaf (x15.zg r) hr rfl x15.zm x15.zk x15.zb (zaa (jv 0) (zaa (zap (jv 1) zad) zac))) zcR) (zai (zbk (zbP (jv 3) (zaa (zak (zaa (jv 2) (zaa (zap (jv 1) zad) zac))) zac)))) zau)
  (zai (zca (zmJ rfl n_z (zaf (x21.zg r) hr rfl x21.zm x21.zk x21.zb (zaa (jv 0) (zaa (jv 1) zac))) (zcK (jv 1) (zaG zad) zaO)) (zef (zaJ (zaq (i:=4) sc25.nd rfl (ak rfl)) (zaJ (zaq (i:=5) sc25.nd rfl (ak rfl)) zdh)) (glS (glS gl0))) (zai (zbk (zaf ih hr rfl m F.kp b (zaa (jv 0) (zaa (jv 5) (zaa (zby (jv 2) (jv 4)) (zaa (jv 3) zac))))))))))
theorem o26 (F:Fun K "uses" "uses" s26 f d) (x25:C25 P w K mg base):Ok P w K mg base f d ["book", "way"] zgW:=zcF rfl λr ih=>zaQ F sc26 rfl rfl λ_ _ _ _ _ _ hr=>(zae (zao (i:=2) sc26.nd rfl (ak rfl) (zaC (zaz zac)))
  (zae (zbk (zaf (x25.zg r) hr rfl x25.zm x25.zk x25.zb (zaa (jv 0) (zaa (jv 1) (zaa (zak zac) (zaa (jv 2) zac))))))
  (zai (zam (jv 2)))))
theorem o27 (F:Fun K "places_of" "places_of" s27 f d):Ok P w K mg base f d ["pairs"] zcN:=zcF rfl λr ih=>zaQ F zAu rfl rfl λ_ _ _ _ _ _ hr=>(zai (zam (zaC (zbQ (N:=["pair"]) (k:=1) (fr:=[]) ⟨rfl,by decide +kernel,rfl,rfl,rfl,rfl,rfl,rfl,rfl⟩ (zbI (jv 0)) (λ_ _ _ _=>(zaq (i:=0) (show br [("pair" :Str)] from by decide +kernel) rfl (ak rfl))) (λ_ _ _ _=>zbB) (λ_ _ _ _=>(zap (jv 0) zad))))))
theorem o28 (F:Fun K "turned_top" "turned_top" s28 f d) (x22:C22 P w K mg base) (x12:C12 P w K mg base) (n_t:mg "tuple" =none) {t_LEFT:bc}(g_LEFT:mg "LEFT" =ae (.int 1 t_LEFT)):Ok P w K mg base f d ["book", "shape"] zcv:=zcF rfl λr ih=>zaQ F sc28 rfl rfl λ_ _ _ _ _ _ hr=>(zae (zao (i:=2) sc28.nd rfl (ak rfl) (zaf (x22.zg r) hr rfl x22.zm x22.zk x22.zb (zaa (jv 0) (zaa (jv 1) zac))))
  (zai (zam (zby (zak (zaa (zap (jv 2) zad) zac)) (zdu rfl n_t (zaa (zaf (x12.zg r) hr rfl x12.zm x12.zk x12.zb (zaa (zap (jv 2) (zcj rfl g_LEFT)) (zaa (jv 1) zac))) zac))))))
theorem o29 (F:Fun K "way_within" "way_within" s29 f d) (x28:C28 P w K mg base) (x21:C21 P w K mg base) (b:Binds K d ["book", "shape", "place", "wanted"] []) (m:mg "way_within" =ae (.ref f)) (n_z:mg "zip" =none) (n_t:mg "tuple" =none):Ok P w K mg base f d ["book", "shape", "place", "wanted"] zaU:=zcF rfl λr ih=>zaQ F sc29 rfl rfl λ_ _ _ _ _ _ hr=>(zae (zao (i:=4) sc29.nd rfl (ak rfl) (zyG (zvA hr (jv 2) (jv 3)) (zaf (x28.zg r) hr rfl x28.zm x28.zk x28.zb (zaa (jv 0) (zaa (jv 1) zac))) (jv 1)))
  (zae (zao (i:=5) sc29.nd rfl (ak rfl) (zaC (zaz zac)))
  (zae (zca (zmJ rfl n_z (zaf (x21.zg r) hr rfl x21.zm x21.zk x21.zb (zaa (jv 0) (zaa (jv 4) zac))) (zcK (jv 4) (zaG zad) zaO)) (zef (zaJ (zaq (i:=6) sc29.nd rfl (ak rfl)) (zaJ (zaq (i:=7) sc29.nd rfl (ak rfl)) zdh)) (glS (glS gl0))) (zai (zbk (zbP (jv 5) (zaa (zaf ih hr rfl m F.kp b (zaa (jv 0) (zaa (jv 7) (zaa (zby (jv 2) (jv 6)) (zaa (jv 3) zac))))) zac)))))
  (zai (zam (zby (zak (zaa (zap (jv 4) zad) zac)) (zdu rfl n_t (zaa (jv 5) zac))))))))
theorem o30 (F:Fun K "way_with" "way_with" s30 f d) (x29:C29 P w K mg base) (n_d:mg "dict" =none):Ok P w K mg base f d ["book", "shape", "places"] zdq:=zcF rfl λr ih=>zaQ F zAL rfl rfl λ_ _ _ _ _ _ hr=>(zai (zam (zaf (x29.zg r) hr rfl x29.zm x29.zk x29.zb (zaa (jv 0) (zaa (jv 1) (zaa (zak zac) (zaa (zsd hr rfl n_d (zbQ (N:=["place"]) (k:=1) (fr:=[]) ⟨rfl,by decide +kernel,rfl,rfl,rfl,rfl,rfl,rfl,rfl⟩ (zbI (jv 2)) (λ_ _ _ _=>(zaq (i:=0) (show br [("place" :Str)] from by decide +kernel) rfl (ak rfl))) (λ_ _ _ _=>zbB) (λ_ _ _ _=>(zak (zaa (jv 0) (zaa zeI zac)))))) zac)))))))
theorem o31 (F:Fun K "way_of" "way_of" s31 f d) (x27:C27 P w K mg base) (x30:C30 P w K mg base) (x24:C24 P w K mg base) (y_NoUse:Ncl mg "NoUse") (v_NoUse:XcIn K "NoUse" y_NoUse.xC):Ok P w K mg base f d ["book", "shape", "places"] zdY:=zcF rfl λr ih=>zaQ F sc31 rfl rfl λ_ _ _ _ _ _ hr=>(zae (zao (i:=3) sc31.nd rfl (ak rfl) (zaf (x27.zg r) hr rfl x27.zm x27.zk x27.zb (zaa (zaf (x24.zg r) hr rfl x24.zm x24.zk x24.zb (zaa (jv 0) (zaa (jv 1) zac))) zac)))
  (zae (zca (zbI (jv 2)) (zaq (i:=4) sc31.nd rfl (ak rfl)) (zai (zaT (zqE hr (jv 4) (jv 3)) (zai (zfE v_NoUse rfl y_NoUse.xm (zaa zdH zac))) zau)))
  (zai (zam (zaf (x30.zg r) hr rfl x30.zm x30.zk x30.zb (zaa (jv 0) (zaa (jv 1) (zaa (jv 2) zac))))))))
theorem o32 (F:Fun K "fewest" "fewest" s32 f d) (x15:C15 P w K mg base) (x8:C8 P w K mg base) (b:Binds K d ["book", "way"] []) (m:mg "fewest" =ae (.ref f)) (n_u:mg "sum" =none) (n_e:mg "enumerate" =none) {t_RIGHT:bc}(g_RIGHT:mg "RIGHT" =ae (.int 2 t_RIGHT)):Ok P w K mg base f d ["book", "way"] zbz:=zcF rfl λr ih=>zaQ F sc32 rfl rfl λ_ _ _ _ _ _ hr=>(zae (zao (i:=2) sc32.nd rfl (ak rfl) (zaf (x15.zg r) hr rfl x15.zm x15.zk x15.zb (zaa (jv 0) (zaa (zap (jv 1) zad) zac))))
  (zae (zaT (zkF (jv 2) zcR) (zai (zam (zgj rfl n_u (zbQ (N:=["inner", "book"]) (k:=1) (fr:=[0]) ⟨rfl,by decide +kernel,rfl,rfl,rfl,rfl,rfl,rfl,rfl⟩ (zbI (zcK (jv 1) (zaG zad) zaO)) (λ_ _ _ _=>(zaq (i:=0) (show br [("inner" :Str),("book" :Str)] from by decide +kernel) rfl (ak rfl))) (λ_ _ _ _=>zbB) (λ_ _ _ _=>(zaf ih hr rfl m F.kp b (zaa (jv 1) (zaa (jv 0) zac)))))))) zau)
  (zae (zao (i:=3) sc32.nd rfl (cJ rfl) (zaf (x8.zg r) hr rfl x8.zm x8.zk x8.zb (zaa (zap (jv 2) (zcj rfl g_RIGHT)) zac)))
  (zai (zam (zby zad (zgj rfl n_u (zbQ (N:=["number", "inner", "book", "kept"]) (k:=2) (fr:=[0,3]) ⟨rfl,by decide +kernel,rfl,rfl,rfl,rfl,rfl,rfl,rfl⟩ (zfO rfl n_e (zcK (jv 1) (zaG zad) zaO)) (λ_ _ _ _=>(zef (zaJ (zaq (i:=0) (show br [("number" :Str),("inner" :Str),("book" :Str),("kept" :Str)] from by decide +kernel) rfl (ak rfl)) (zaJ (zaq (i:=1) (show br [("number" :Str),("inner" :Str),("book" :Str),("kept" :Str)] from by decide +kernel) rfl (ak rfl)) zdh)) (glS (glS gl0)))) (λ_ _ _ _=>(znI (zyA hr (jv 0) (jv 3)))) (λ_ _ _ _=>(zaf ih hr rfl m F.kp b (zaa (jv 2) (zaa (jv 1) zac))))))))))))
theorem o33 (F:Fun K "most" "most" s33 f d) (x15:C15 P w K mg base) (x8:C8 P w K mg base) (b:Binds K d ["book", "way"] []) (m:mg "most" =ae (.ref f)) (n_u:mg "sum" =none) (n_x:mg "max" =none) (n_e:mg "enumerate" =none) {t_RIGHT:bc}(g_RIGHT:mg "RIGHT" =ae (.int 2 t_RIGHT)):Ok P w K mg base f d ["book", "way"] zda:=zcF rfl λr ih=>zaQ F sc33 rfl rfl λ_ _ _ _ _ _ hr=>(zae (zao (i:=2) sc33.nd rfl (ak rfl) (zaf (x15.zg r) hr rfl x15.zm x15.zk x15.zb (zaa (jv 0) (zaa (zap (jv 1) zad) zac))))
  (zae (zaT (zkF (jv 2) zcR) (zai (zam (zgj rfl n_u (zbQ (N:=["inner", "book"]) (k:=1) (fr:=[0]) ⟨rfl,by decide +kernel,rfl,rfl,rfl,rfl,rfl,rfl,rfl⟩ (zbI (zcK (jv 1) (zaG zad) zaO)) (λ_ _ _ _=>(zaq (i:=0) (show br [("inner" :Str),("book" :Str)] from by decide +kernel) rfl (ak rfl))) (λ_ _ _ _=>zbB) (λ_ _ _ _=>(zaf ih hr rfl m F.kp b (zaa (jv 1) (zaa (jv 0) zac)))))))) zau)
  (zae (zao (i:=3) sc33.nd rfl (cJ rfl) (zaf (x8.zg r) hr rfl x8.zm x8.zk x8.zb (zaa (zap (jv 2) (zcj rfl g_RIGHT)) zac)))
  (zai (zam (zby zad (zgj rfl n_u (zbQ (N:=["number", "inner", "book", "kept"]) (k:=2) (fr:=[0,3]) ⟨rfl,by decide +kernel,rfl,rfl,rfl,rfl,rfl,rfl,rfl⟩ (zfO rfl n_e (zcK (jv 1) (zaG zad) zaO)) (λ_ _ _ _=>(zef (zaJ (zaq (i:=0) (show br [("number" :Str),("inner" :Str),("book" :Str),("kept" :Str)] from by decide +kernel) rfl (ak rfl)) (zaJ (zaq (i:=1) (show br [("number" :Str),("inner" :Str),("book" :Str),("kept" :Str)] from by decide +kernel) rfl (ak rfl)) zdh)) (glS (glS gl0)))) (λ_ _ _ _=>zbB) (λ_ _ _ _=>(zoV (zvl rfl n_x (zaa zad (zaa (zsi (jv 3) (zaa (jv 0) zac)) zac))) (zaf ih hr rfl m F.kp b (zaa (jv 2) (zaa (jv 1) zac)))))))))))))
theorem o34 (F:Fun K "one_source" "one_source" s34 f d) (x19:C19 P w K mg base) (y_Apart:Ncl mg "Apart") (v_Apart:XcIn K "Apart" y_Apart.xC):Ok P w K mg base f d ["book", "way", "other"] zbU:=zcF rfl λr ih=>zaQ F sc34 rfl rfl λ_ _ _ _ _ _ hr=>(zae (zao (i:=3) sc34.nd rfl (ak rfl) (zaf (x19.zg r) hr rfl x19.zm x19.zk x19.zb (zaa (jv 0) (zaa (jv 1) zac))))
  (zae (zaT (zzH hr (zaf (x19.zg r) hr rfl x19.zm x19.zk x19.zb (zaa (jv 0) (zaa (jv 2) zac))) (jv 3)) (zai (zfE v_Apart rfl y_Apart.xm (zaa zdH zac))) zau)
  (zai (zam (jv 3)))))
theorem o35 (F:Fun K "moved" "moved" s35 f d) (x15:C15 P w K mg base) (x9:C9 P w K mg base) (x12:C12 P w K mg base) (b:Binds K d ["book", "way", "other"] []) (m:mg "moved" =ae (.ref f)) (n_z:mg "zip" =none) (n_t:mg "tuple" =none) {t_RIGHT:bc}(g_RIGHT:mg "RIGHT" =ae (.int 2 t_RIGHT)) {t_LEFT:bc}(g_LEFT:mg "LEFT" =ae (.int 1 t_LEFT)):Ok P w K mg base f d ["book", "way", "other"] zcO:=zcF rfl λr ih=>zaQ F sc35 rfl rfl λ_ _ _ _ _ _ hr=>(zae (zao (i:=3) sc35.nd rfl (ak rfl) (zaf (x15.zg r) hr rfl x15.zm x15.zk x15.zb (zaa (jv 0) (zaa (zap (jv 1) zad) zac))))
  (zae (zao (i:=4) sc35.nd rfl (ak rfl) (zaf (x15.zg r) hr rfl x15.zm x15.zk x15.zb (zaa (jv 0) (zaa (zap (jv 2) zad) zac))))
  (zae (zao (i:=5) sc35.nd rfl (ak rfl) (zcK (jv 1) (zaG zad) zaO))
  (zae (zao (i:=6) sc35.nd rfl (ak rfl) (zcK (jv 2) (zaG zad) zaO))
  (zae (zaT (JW.jt (zmw (zkF (jv 3) zcR) (zhu (zeT (jv 4) zcR)))) (zai (zao (i:=5) sc35.nd rfl (ak rfl) (zaf (x12.zg r) hr rfl x12.zm x12.zk x12.zb (zaa (zap (jv 4) (zcj rfl g_LEFT)) (zaa (jv 1) zac))))) zau)
  (zae (zaT (JW.jt (zmw (zeT (jv 3) zcR) (zhu (zkF (jv 4) zcR)))) (zai (zao (i:=6) sc35.nd rfl (ak rfl) (zaf (x12.zg r) hr rfl x12.zm x12.zk x12.zb (zaa (zap (jv 3) (zcj rfl g_LEFT)) (zaa (jv 2) zac))))) zau)
  (zae (zhG (i:=7) (N:=["inner", "outer", "book"]) (k:=2) (fr:=[0]) sc35.nd rfl (ak rfl) ⟨rfl,by decide +kernel,rfl,rfl,rfl,rfl,rfl,rfl,rfl⟩ (zmJ rfl n_z (jv 5) (jv 6)) (λ_ _ _ _=>(zef (zaJ (zaq (i:=0) (show br [("inner" :Str),("outer" :Str),("book" :Str)] from by decide +kernel) rfl (ak rfl)) (zaJ (zaq (i:=1) (show br [("inner" :Str),("outer" :Str),("book" :Str)] from by decide +kernel) rfl (ak rfl)) zdh)) (glS (glS gl0)))) (λ_ _ _ _=>zbB) (λ_ _ _ _=>(zaf ih hr rfl m F.kp b (zaa (jv 2) (zaa (jv 0) (zaa (jv 1) zac))))))
  (zae (zaT (zkF (jv 4) zcR) (zai (zam (zby (zak (zaa (zap (jv 1) zad) zac)) (zdu rfl n_t (zaa (jv 7) zac))))) zau)
  (zai (zam (zaf (x9.zg r) hr rfl x9.zm x9.zk x9.zb (zaa (zap (jv 4) (zcj rfl g_RIGHT)) (zaa (jv 7) zac)))))))))))))
theorem o36 (F:Fun K "behind" "behind" s36 f d) (x34:C34 P w K mg base) (x20:C20 P w K mg base) (x35:C35 P w K mg base):Ok P w K mg base f d ["book", "way", "other"] zdy:=zcF rfl λr ih=>zaQ F zAn rfl rfl λ_ _ _ _ _ _ hr=>(zae (zbk (zaf (x34.zg r) hr rfl x34.zm x34.zk x34.zb (zaa (jv 0) (zaa (jv 1) (zaa (jv 2) zac)))))
  (zae (zbk (zaf (x20.zg r) hr rfl x20.zm x20.zk x20.zb (zaa (jv 0) (zaa (jv 2) zac))))
  (zai (zam (zaf (x35.zg r) hr rfl x35.zm x35.zk x35.zb (zaa (jv 0) (zaa (jv 1) (zaa (jv 2) zac))))))))
theorem o37 (F:Fun K "_law_cell" "_law_cell" s37 f d) (n_l:mg "len" =none):Ok P w K mg base f d ["script", "k"] zaK:=zcF rfl λr ih=>zaQ F zAm rfl rfl λ_ _ _ _ _ _ hr=>(zae (zaT (zrX (jv 1) (zcz rfl n_l (zaa (jv 0) zac))) (zai (zam (zap (jv 0) (jv 1)))) zau)
  (zai (zam zad)))
theorem o38 (F:Fun K "_law_words" "_law_words" s38 f d) (n_r:mg "range" =none) (n_l:mg "len" =none) (n_n:mg "int" =none):Ok P w K mg base f d ["one", "two", "great"] zbS:=zcF rfl λr ih=>zaQ F sc38 rfl rfl λ_ _ _ _ _ _ hr=>(zae (zao (i:=3) sc38.nd rfl (cJ rfl) zdH)
  (zae (zao (i:=4) sc38.nd rfl (ak rfl) (zcG (jv 1) (zxg zad zad)))
  (zae (zao (i:=5) sc38.nd rfl (cJ rfl) (zaC (zaz zac)))
  (zae (zca (zdV rfl n_r (zaa (zby zad (zcG (jv 0) zad)) zac)) (zaq (i:=6) sc38.nd rfl (cJ rfl)) (zae (zbk (zbP (jv 5) (zaa (zcG (jv 4) zad) zac)))
  (zai (zao (i:=4) sc38.nd rfl (ak rfl) (zdG (jv 4) zad)))))
  (zae (zao (i:=7) sc38.nd rfl (cJ rfl) (zcG (zdG (jv 0) zad) (zcz rfl n_l (zaa (jv 5) zac))))
  (zae (zao (i:=8) sc38.nd rfl (ak rfl) (zaC (zaz zac)))
  (zae (zca (zdV rfl n_r (zaa zad zac)) (zaq (i:=6) sc38.nd rfl (cJ rfl)) (zae (zao (i:=9) sc38.nd rfl (ak rfl) (zry zdH (zbQ (N:=["j", "signs", "base", "k", "at"]) (k:=1) (fr:=[3,5,6,7]) ⟨rfl,by decide +kernel,rfl,rfl,rfl,rfl,rfl,rfl,rfl⟩ (zdV rfl n_r (zaa (zcz rfl n_l (zaa (jv 5) zac)) zac)) (λ_ _ _ _=>(zaq (i:=0) (show br [("j" :Str),("signs" :Str),("base" :Str),("k" :Str),("at" :Str)] from by decide +kernel) rfl (ak rfl))) (λ_ _ _ _=>zbB) (λ_ _ _ _=>(zap (jv 1) (zcG (zby (zap (jv 2) (jv 0)) (zoV (jv 3) (ztL rfl n_n (zaa (zhT hr (jv 0) (jv 4)) zac)))) zad))))))
  (zae (zaT (zbE (jv 2)) (zai (zao (i:=9) sc38.nd rfl (ak rfl) (zby (zqJ (zap (jv 9) zad)) (zcK (jv 9) (zaG zad) zaO)))) zau)
  (zai (zbk (zbP (jv 8) (zaa (jv 9) zac)))))))
  (zae (zaT (JW.jt (zmw (zfv hr (zcG (zdG (jv 0) zad) zad) zad) (zhu (zel (zbE (jv 2)))))) (zai (zao (i:=8) sc38.nd rfl (ak rfl) (zaC (zhD (zrn (jv 8) zaO (zaG zad)) (zaz (zaa (zap (jv 8) zad) (zaa (zap (jv 8) zad) (zaa (zap (jv 8) zad) zac)))))))) zau)
  (zai (zam (jv 8)))))))))))
theorem o39 (F:Fun K "_law_count" "_law_count" s39 f d) (b:Binds K d ["side"] []) (m:mg "_law_count" =ae (.ref f)) (n_i:mg "isinstance" =none) (n_n:mg "int" =none) (n_u:mg "sum" =none):Ok P w K mg base f d ["side"] zaA:=zcF rfl λr ih=>zaQ F zAz rfl rfl λ_ _ _ _ _ _ hr=>(zae (zaT (zbE (zfm rfl n_i rfl n_n c9 (jv 0) (by decide) (by decide) (zst _ (by simp)))) (zai (zam zad)) zau)
  (zai (zam (zgj rfl n_u (zbQ (N:=["one"]) (k:=1) (fr:=[]) ⟨rfl,by decide +kernel,rfl,rfl,rfl,rfl,rfl,rfl,rfl⟩ (zbI (zcK (jv 0) (zaG zad) zaO)) (λ_ _ _ _=>(zaq (i:=0) (show br [("one" :Str)] from by decide +kernel) rfl (ak rfl))) (λ_ _ _ _=>zbB) (λ_ _ _ _=>(zaf ih hr rfl m F.kp b (zaa (jv 0) zac))))))))
theorem o40 (F:Fun K "_law_filled" "_law_filled" s40 f d) (b:Binds K d ["side", "things"] []) (m:mg "_law_filled" =ae (.ref f)) (n_i:mg "isinstance" =none) (n_n:mg "int" =none) (n_t:mg "tuple" =none):Ok P w K mg base f d ["side", "things"] zbb:=zcF rfl λr ih=>zaQ F zAr rfl rfl λ_ _ _ _ _ _ hr=>(zae (zaT (zbE (zfm rfl n_i rfl n_n c9 (jv 0) (by decide) (by decide) (zst _ (by simp)))) (zai (zam (zap (jv 1) (jv 0)))) zau)
  (zai (zam (zby (zcK (jv 0) zaO (zaG zad)) (zjS rfl n_t (zbQ (N:=["one", "things"]) (k:=1) (fr:=[1]) ⟨rfl,by decide +kernel,rfl,rfl,rfl,rfl,rfl,rfl,rfl⟩ (zbI (zcK (jv 0) (zaG zad) zaO)) (λ_ _ _ _=>(zaq (i:=0) (show br [("one" :Str),("things" :Str)] from by decide +kernel) rfl (ak rfl))) (λ_ _ _ _=>zbB) (λ_ _ _ _=>(zaf ih hr rfl m F.kp b (zaa (jv 0) (zaa (jv 1) zac))))))))))
theorem o41 (F:Fun K "_law_lefts" "_law_lefts" s41 f d):Ok P w K mg base f d ["way", "head", "c", "d"] zcA:=zcF rfl λr ih=>zaQ F zAc rfl rfl λ_ _ _ _ _ _ hr=>(zae (zaT (zfv hr (jv 0) zad) (zai (zam (zaC (zaz (zaa (zak (zaa (jv 1) (zaa zad zac))) zac))))) zau)
  (zae (zaT (zfv hr (jv 0) zad) (zai (zam (zaC (zaz (zaa (zak (zaa (jv 1) (zaa zad (zaa zad zac)))) zac))))) zau)
  (zae (zaT (zfv hr (jv 0) zad) (zai (zam (zaC (zaz (zaa (zak (zaa (jv 1) (zaa (zak (zaa (jv 2) zac)) zac))) (zaa (zak (zaa (jv 1) (zaa (zak (zaa (jv 3) (zaa zad zac))) zac))) zac)))))) zau)
  (zae (zaT (zfv hr (jv 0) zad) (zai (zam (zaC (zaz (zaa (zak (zaa (jv 1) (zaa (zak (zaa (jv 2) zac)) (zaa zad zac)))) (zaa (zak (zaa (jv 1) (zaa (zak (zaa (jv 3) (zaa zad zac))) (zaa zad zac)))) zac)))))) zau)
  (zae (zaT (zfv hr (jv 0) zad) (zai (zam (zaC (zaz (zaa (zak (zaa (jv 1) (zaa (zak (zaa (jv 3) (zaa (zak (zaa (jv 3) (zaa zad zac))) zac))) (zaa zad (zaa zad zac))))) (zaa (zak (zaa (jv 1) (zaa (zak (zaa (jv 3) (zaa (zak (zaa (jv 2) zac)) zac))) (zaa zad (zaa zad zac))))) zac)))))) zau)
  (zai (zam (zaC (zaz (zaa (zak (zaa (jv 1) zac)) zac))))))))))
theorem o42 (F:Fun K "_law_rights" "_law_rights" s42 f d):Ok P w K mg base f d ["many", "w", "grows"] zbW:=zcF rfl λr ih=>zaQ F sc42 rfl rfl λ_ _ _ _ _ _ hr=>(zae (zaT (zfv hr (jv 0) zad) (zai (zam (zaC (zaz (zaa (zak (zaa (zap (jv 1) zad) zac)) (zaa (zak (zaa (zap (jv 1) zad) zac)) (zaa (zak (zaa (zap (jv 1) zad) (zaa (zak (zaa (zap (jv 1) zad) zac)) zac))) zac))))))) zau)
  (zae (zaT (zfv hr (jv 0) zad) (zae (zao (i:=3) sc42.nd rfl (ak rfl) (zaC (zaz (zaa zad (zaa (zak (zaa (zap (jv 1) zad) (zaa zad zac))) (zaa (zak (zaa (zap (jv 1) zad) (zaa zad (zaa zad zac)))) (zaa (zak (zaa (zap (jv 1) zad) (zaa (zak (zaa (zap (jv 1) zad) (zaa zad zac))) (zaa (zak (zaa (zap (jv 1) zad) zac)) zac)))) zac)))))))
  (zae (zaT (zbE (jv 2)) (zai (zam (zaC (zet (jv 3) (zaz (zaa (zak (zaa (zap (jv 1) zad) (zaa zad zac))) (zaa (zak (zaa (zap (jv 1) zad) (zaa (zak (zaa (zap (jv 1) zad) (zaa zad zac))) (zaa zad zac)))) (zaa (zak (zaa (zap (jv 1) zad) (zaa (zak (zaa (zap (jv 1) zad) (zaa zad zac))) zac))) zac)))))))) zau)
  (zai (zam (zaC (zet (jv 3) (zaz (zaa (zak (zaa (zap (jv 1) zad) zac)) (zaa (zak (zaa (zap (jv 1) zad) (zaa (zak (zaa (zap (jv 1) zad) zac)) zac))) zac))))))))) zau)
  (zae (zaT (zfv hr (jv 0) zad) (zae (zao (i:=3) sc42.nd rfl (ak rfl) (zaC (zaz (zaa (zak (zaa (zap (jv 1) zad) (zaa (zak (zaa (zap (jv 1) zad) (zaa zad (zaa zad zac)))) (zaa zad zac)))) (zaa (zak (zaa (zap (jv 1) zad) (zaa zad (zaa (zak (zaa (zap (jv 1) zad) (zaa zad (zaa zad zac)))) zac)))) (zaa (zak (zaa (zap (jv 1) zad) (zaa (zak (zaa (zap (jv 1) zad) (zaa zad (zaa zad zac)))) (zaa (zak (zaa (zap (jv 1) zad) (zaa zad (zaa zad zac)))) zac)))) zac))))))
  (zae (zaT (zbE (jv 2)) (zai (zam (zaC (zet (jv 3) (zaz (zaa (zak (zaa (zap (jv 1) zad) (zaa (zak (zaa (zap (jv 1) zad) (zaa (zak (zaa (zap (jv 1) zad) (zaa zad (zaa zad zac)))) (zaa zad zac)))) zac))) (zaa (zak (zaa (zap (jv 1) zad) (zaa zad (zaa (zak (zaa (zap (jv 1) zad) (zaa zad (zaa zad zac)))) zac)))) zac))))))) zau)
  (zai (zam (zaC (zet (jv 3) (zaz (zaa zad (zaa zad (zaa (zak (zaa (zap (jv 1) zad) (zaa zad (zaa zad zac)))) (zaa (zak (zaa (zap (jv 1) zad) zac)) zac))))))))))) zau)
  (zae (zao (i:=3) sc42.nd rfl (ak rfl) (zaC (zaz (zaa (zak (zaa (zap (jv 1) zad) (zaa zad (zaa zad zac)))) (zaa (zak (zaa (zap (jv 1) zad) (zaa zad (zaa zad zac)))) (zaa (zak (zaa (zap (jv 1) zad) (zaa (zak (zaa (zap (jv 1) zad) (zaa zad zac))) (zaa zad zac)))) (zaa (zak (zaa (zap (jv 1) zad) (zaa (zak (zaa (zap (jv 1) zad) (zaa zad (zaa zad zac)))) (zaa zad zac)))) zac)))))))
  (zae (zaT (zbE (jv 2)) (zai (zam (zaC (zet (jv 3) (zaz (zaa (zak (zaa (zap (jv 1) zad) (zaa zad (zaa zad zac)))) (zaa (zak (zaa (zap (jv 1) zad) (zaa (zak (zaa (zap (jv 1) zad) (zaa zad (zaa zad zac)))) zac))) zac))))))) zau)
  (zai (zam (zaC (zet (jv 3) (zaz (zaa zad (zaa zad (zaa (zak (zaa (zap (jv 1) zad) (zaa zad zac))) (zaa (zak (zaa (zap (jv 1) zad) zac)) zac))))))))))))))
theorem o43 (F:Fun K "_law_book" "_law_book" s43 f d) (x41:C41 P w K mg base) (x42:C42 P w K mg base) (x37:C37 P w K mg base) (x39:C39 P w K mg base) (n_r:mg "range" =none) (n_e:mg "enumerate" =none) (n_l:mg "len" =none):Ok P w K mg base f d ["script", "k", "w", "titles", "grows"] zbC:=zcF rfl λr ih=>zaQ F sc43 rfl rfl λ_ _ _ _ _ _ hr=>(zae (zao (i:=5) sc43.nd rfl (ak rfl) (zaC (zaz zac)))
  (zae (zca (zdV rfl n_r (zaa zad zac)) (zaq (i:=6) sc43.nd rfl (ak rfl)) (zae (zao (i:=7) sc43.nd rfl (ak rfl) (zaf (x41.zg r) hr rfl x41.zm x41.zk x41.zb (zaa (zcG (zaf (x37.zg r) hr rfl x37.zm x37.zk x37.zb (zaa (jv 0) (zaa (zby (jv 1) (jv 6)) zac))) zad) (zaa (zap (jv 2) (jv 6)) (zaa (zap (jv 2) zad) (zaa (zap (jv 2) zad) zac))))))
  (zai (zca (zfO rfl n_e (jv 7)) (zef (zaJ (zaq (i:=8) sc43.nd rfl (ak rfl)) (zaJ (zaq (i:=9) sc43.nd rfl (ak rfl)) zdh)) (glS (glS gl0))) (zae (zao (i:=10) sc43.nd rfl (ak rfl) (zaf (x42.zg r) hr rfl x42.zm x42.zk x42.zb (zaa (zaf (x39.zg r) hr rfl x39.zm x39.zk x39.zb (zaa (jv 9) zac)) (zaa (jv 2) (zaa (jv 4) zac)))))
  (zae (zao (i:=11) sc43.nd rfl (ak rfl) (zaf (x37.zg r) hr rfl x37.zm x37.zk x37.zb (zaa (jv 0) (zaa (zby (zby (zby (jv 1) zad) (zoV zad (jv 6))) (jv 8)) zac))))
  (zai (zbk (zbP (jv 5) (zaa (zak (zaa (zap (jv 3) (zcz rfl n_l (zaa (jv 5) zac))) (zaa (jv 9) (zaa (zap (jv 10) (zcG (jv 11) (zcz rfl n_l (zaa (jv 10) zac)))) zac)))) zac))))))))))
  (zai (zam (jv 5)))))
theorem o44 (F:Fun K "_law_plan" "_law_plan" s44 f d) (x39:C39 P w K mg base) (n_l:mg "len" =none) (n_m:mg "min" =none):Ok P w K mg base f d ["cells", "book", "w", "room"] zci:=zcF rfl λr ih=>zaQ F sc44 rfl rfl λ_ _ _ _ _ _ hr=>(zae (zao (i:=4) sc44.nd rfl (ak rfl) (zaC (zaz zac)))
  (zae (zao (i:=5) sc44.nd rfl (ak rfl) zad)
  (zae (zca (zbI (jv 0)) (zaq (i:=6) sc44.nd rfl (ak rfl)) (zae (zao (i:=7) sc44.nd rfl (ak rfl) (zcG (jv 6) zad))
  (zae (zao (i:=8) sc44.nd rfl (ak rfl) (ziM (zaz (zaa zad (zaa zad (zaa zad (zaa zad zac))))) (zjW rfl n_m (zaa (jv 7) (zaa zad zac)))))
  (zae (zao (i:=9) sc44.nd rfl (ak rfl) (zak (zaa (zhk zad) (zaa zad (zaa (zap (jv 2) (ziM (zaz (zaa zad (zaa zad (zaa zad (zaa zad zac))))) (zjW rfl n_m (zaa (jv 7) (zaa zad zac))))) zac)))))
  (zae (zaT (zmQ (jv 7) zad) (zae (zao (i:=10) sc44.nd rfl (ak rfl) (zcG (zdG (jv 6) zad) (zcz rfl n_l (zaa (jv 1) zac))))
  (zae (zao (i:=8) sc44.nd rfl (ak rfl) (zaf (x39.zg r) hr rfl x39.zm x39.zk x39.zb (zaa (zap (zap (jv 1) (jv 10)) zad) zac)))
  (zae (zao (i:=9) sc44.nd rfl (ak rfl) (zak (zaa (jv 10) (zaa (zcG (zdG (jv 6) zad) zad) (zaa zdH zac)))))
  (zai (zao (i:=5) sc44.nd rfl (ak rfl) (zby (jv 5) zad)))))) zau)
  (zai (zaT (JW.jt (zmw (zmQ (jv 3) zad) (zhu (zrX (jv 5) zad)))) (zae (zao (i:=3) sc44.nd rfl (ak rfl) (zfQ (jv 3) zad))
  (zae (zao (i:=4) sc44.nd rfl (ak rfl) (zaC (ztu (zvB (zaz (zaa (zak (zaa (zhk zad) (zaa zad (zaa (zap (jv 2) zad) (zaa (zaC (zaz zac)) zac))))) zac)) (zfQ (jv 8) (zcz rfl n_l (zaa (jv 4) zac)))) (jv 4))))
  (zae (zao (i:=11) sc44.nd rfl (ak rfl) (zfQ (zcz rfl n_l (zaa (jv 4) zac)) (jv 8)))
  (zai (zao (i:=4) sc44.nd rfl (ak rfl) (zaC (zhD (zrn (jv 4) zaO (zaG (jv 11))) (zaz (zaa (zby (jv 9) (zak (zaa (zcK (jv 4) (zaG (jv 11)) zaO) zac))) zac))))))))) zau)))))))
  (zae (zmg (zmQ (zcz rfl n_l (zaa (jv 4) zac)) zad) (zai (zao (i:=4) sc44.nd rfl (ak rfl) (zaC (zhD (zrn (jv 4) zaO (zaG (zhk zad))) (zaz (zaa (zak (zaa (zhk zad) (zaa zad (zaa (zap (jv 2) zad) (zaa (zcK (jv 4) (zaG (zhk zad)) zaO) zac))))) zac)))))))
  (zai (zam (ziM (zet (jv 4) (zaz (zaa (zak (zaa (zhk zad) (zaa zad (zaa (zap (jv 2) zad) (zaa (zaC (zaz zac)) zac))))) zac))) zad)))))))
theorem o45 (F:Fun K "_law_way" "_law_way" s45 f d) (x40:C40 P w K mg base) (b:Binds K d ["plan", "book", "by"] []) (m:mg "_law_way" =ae (.ref f)) (n_t:mg "tuple" =none):Ok P w K mg base f d ["plan", "book", "by"] zcL:=zcF rfl λr ih=>zaQ F sc45 rfl rfl λ_ _ _ _ _ _ hr=>(zae (zwR (jv 0) (zef (zaJ (zaq (i:=3) sc45.nd rfl (ak rfl)) (zaJ (zaq (i:=4) sc45.nd rfl (ak rfl)) (zaJ (zaq (i:=5) sc45.nd rfl (ak rfl)) (zaJ (zaq (i:=6) sc45.nd rfl (ak rfl)) zdh)))) (glS (glS (glS (glS gl0))))))
  (zae (zhG (i:=7) (N:=["one", "book", "by"]) (k:=1) (fr:=[1,2]) sc45.nd rfl (ak rfl) ⟨rfl,by decide +kernel,rfl,rfl,rfl,rfl,rfl,rfl,rfl⟩ (zbI (jv 6)) (λ_ _ _ _=>(zaq (i:=0) (show br [("one" :Str),("book" :Str),("by" :Str)] from by decide +kernel) rfl (ak rfl))) (λ_ _ _ _=>zbB) (λ_ _ _ _=>(zaf ih hr rfl m F.kp b (zaa (jv 0) (zaa (jv 1) (zaa (jv 2) zac))))))
  (zae (zaT (zrX (jv 3) zad) (zai (zam (zby (zak (zaa (jv 5) zac)) (zdu rfl n_t (zaa (jv 7) zac))))) zau)
  (zae (zaT (zfv hr (zcG (zdG (jv 4) (jv 2)) zad) zad) (zai (zam (zby (zak (zaa (zap (zap (jv 1) (jv 3)) zad) zac)) (zdu rfl n_t (zaa (jv 7) zac))))) zau)
  (zai (zam (zaf (x40.zg r) hr rfl x40.zm x40.zk x40.zb (zaa (zap (zap (jv 1) (jv 3)) zad) (zaa (jv 7) zac)))))))))
theorem o46 (F:Fun K "_law_made" "_law_made" s46 f d) (b:Binds K d ["book", "way", "which"] []) (m:mg "_law_made" =ae (.ref f)) (x40:C40 P w K mg base) (n_t:mg "tuple" =none):Ok P w K mg base f d ["book", "way", "which"] zch:=zcF rfl λr ih=>zaQ F sc46 rfl rfl λ_ _ _ _ _ _ hr=>(zae (zhG (i:=3) (N:=["one", "book", "which"]) (k:=1) (fr:=[0,2]) sc46.nd rfl (ak rfl) ⟨rfl,by decide +kernel,rfl,rfl,rfl,rfl,rfl,rfl,rfl⟩ (zbI (zcK (jv 1) (zaG zad) zaO)) (λ_ _ _ _=>(zaq (i:=0) (show br [("one" :Str),("book" :Str),("which" :Str)] from by decide +kernel) rfl (ak rfl))) (λ_ _ _ _=>zbB) (λ_ _ _ _=>(zaf ih hr rfl m F.kp b (zaa (jv 1) (zaa (jv 0) (zaa (jv 2) zac))))))
  (zae (zca (zbI (jv 0)) (zaq (i:=4) sc46.nd rfl (ak rfl)) (zai (zaT (zfv hr (zap (jv 4) zad) (zap (jv 1) zad)) (zai (zam (zaf (x40.zg r) hr rfl x40.zm x40.zk x40.zb (zaa (zap (jv 4) (jv 2)) (zaa (jv 3) zac))))) zau)))
  (zai (zam (zby (zcK (jv 1) zaO (zaG zad)) (zdu rfl n_t (zaa (jv 3) zac)))))))
theorem o47 (F:Fun K "_law_is_number" "_law_is_number" s47 f d) (n_i:mg "isinstance" =none) (n_n:mg "int" =none) (n_b:mg "bool" =none):Ok P w K mg base f d ["found"] zaH:=zcF rfl λr ih=>zaQ F zAJ rfl rfl λ_ _ _ _ _ _ hr=>(zai (zam (zgX (zfm rfl n_i rfl n_n c9 (jv 0) (by decide) (by decide) (zst _ (by simp))) (zgH (zxo (zfm rfl n_i rfl n_b PyProof.Rows.boot_bool (jv 0) (by decide) (by decide) (zst _ (by simp))))))))
theorem o48 (F:Fun K "_law_next_good" "_law_next_good" s48 f d) (x32:C32 P w K mg base) (x33:C33 P w K mg base) (x16:C16 P w K mg base) (x26:C26 P w K mg base) (x36:C36 P w K mg base) (x47:C47 P w K mg base) (x31:C31 P w K mg base) (n_x:mg "max" =none) (n_m:mg "min" =none):Ok P w K mg base f d ["book", "way", "shape"] zbo:=zcF rfl λr ih=>zaQ F sc48 rfl rfl λ_ _ _ _ _ _ hr=>(zae (zao (i:=3) sc48.nd rfl (ak rfl) (zaf (x32.zg r) hr rfl x32.zm x32.zk x32.zb (zaa (jv 0) (zaa (jv 1) zac))))
  (zae (zao (i:=4) sc48.nd rfl (ak rfl) (zaf (x33.zg r) hr rfl x33.zm x33.zk x33.zb (zaa (jv 0) (zaa (jv 1) zac))))
  (zae (zaT (JW.jt (zrL (zel (zbE (zaf (x47.zg r) hr rfl x47.zm x47.zk x47.zb (zaa (jv 3) zac)))) (zlR (zel (zbE (zaf (x47.zg r) hr rfl x47.zm x47.zk x47.zb (zaa (jv 4) zac))))))) (zai (zam zeI)) zau)
  (zae (zaT (zbE (zaf (x16.zg r) hr rfl x16.zm x16.zk x16.zb (zaa (jv 1) zac))) (zai (zam (zgX (zhT hr (jv 3) zad) (zgH (zhT hr (jv 4) zad))))) zau)
  (zae (zao (i:=5) sc48.nd rfl (ak rfl) (zaC (zaz zac)))
  (zae (zao (i:=6) sc48.nd rfl (ak rfl) (zaC (zaz zac)))
  (zae (zca (zbI (zaf (x26.zg r) hr rfl x26.zm x26.zk x26.zb (zaa (jv 0) (zaa (jv 1) zac)))) (zaq (i:=7) sc48.nd rfl (ak rfl)) (zae (zao (i:=8) sc48.nd rfl (ak rfl) (zaf (x36.zg r) hr rfl x36.zm x36.zk x36.zb (zaa (jv 0) (zaa (jv 1) (zaa (zaf (x31.zg r) hr rfl x31.zm x31.zk x31.zb (zaa (jv 0) (zaa (jv 2) (zaa (zaC (zaz (zaa (zap (jv 7) zad) zac))) zac)))) zac)))))
  (zae (zbk (zbP (jv 5) (zaa (zfQ (jv 3) (zaf (x32.zg r) hr rfl x32.zm x32.zk x32.zb (zaa (jv 0) (zaa (jv 8) zac)))) zac)))
  (zai (zbk (zbP (jv 6) (zaa (zfQ (jv 4) (zaf (x33.zg r) hr rfl x33.zm x33.zk x33.zb (zaa (jv 0) (zaa (jv 8) zac)))) zac)))))))
  (zai (zam (zgX (zhT hr (ztz rfl n_x (zaa (jv 5) zac)) zad) (zgH (zhT hr (zud rfl n_m (zaa (jv 6) zac)) zad))))))))))))
theorem o49 (F:Fun K "_law_tower" "_law_tower" s49 f d) (x32:C32 P w K mg base) (x33:C33 P w K mg base) (x47:C47 P w K mg base) (n_r:mg "range" =none) (n_m:mg "min" =none):Ok P w K mg base f d ["w", "many", "drops"] zbr:=zcF rfl λr ih=>zaQ F sc49 rfl rfl λ_ _ _ _ _ _ hr=>(zae (zao (i:=3) sc49.nd rfl (ak rfl) (zaC (zaz (zaa (zak (zaa zdH (zaa (zak (zaa (zap (jv 0) zad) (zaa zad zac))) (zaa (ziM (zaz (zaa (zak (zaa (zap (jv 0) zad) (zaa zad (zaa zad zac)))) (zaa (zak (zaa (zap (jv 0) zad) zac)) zac))) (jv 2)) zac)))) zac))))
  (zae (zao (i:=4) sc49.nd rfl (ak rfl) (zak (zaa (zap (jv 0) zad) zac)))
  (zae (zca (zdV rfl n_r (zaa (jv 1) zac)) (zaq (i:=5) sc49.nd rfl (ak rfl)) (zai (zao (i:=4) sc49.nd rfl (ak rfl) (zak (zaa zdH (zaa (jv 4) zac))))))
  (zae (zao (i:=6) sc49.nd rfl (ak rfl) (zaf (x32.zg r) hr rfl x32.zm x32.zk x32.zb (zaa (jv 3) (zaa (jv 4) zac))))
  (zae (zao (i:=7) sc49.nd rfl (ak rfl) (zaf (x33.zg r) hr rfl x33.zm x33.zk x33.zb (zaa (jv 3) (zaa (jv 4) zac))))
  (zae (zaT (JW.jt (zrL (zel (zbE (zaf (x47.zg r) hr rfl x47.zm x47.zk x47.zb (zaa (jv 6) zac)))) (zlR (zel (zbE (zaf (x47.zg r) hr rfl x47.zm x47.zk x47.zb (zaa (jv 7) zac))))))) (zai (zam zeI)) zau)
  (zai (zam (zhT hr (zak (zaa (jv 6) (zaa (jv 7) zac))) (ziM (zaz (zaa (zak (zaa (jv 1) (zaa (zfQ (zwA zad (jv 1)) zad) zac))) (zaa (zak (zaa (zjW rfl n_m (zaa zad (zaa (jv 1) zac))) (zaa (jv 1) zac))) zac))) (jv 2)))))))))))
theorem o50 (F:Fun K "law" "law" s50 f d) (x38:C38 P w K mg base) (x43:C43 P w K mg base) (x45:C45 P w K mg base) (x37:C37 P w K mg base) (x49:C49 P w K mg base) (x44:C44 P w K mg base) (x46:C46 P w K mg base) (x26:C26 P w K mg base) (x48:C48 P w K mg base) (x36:C36 P w K mg base) (x31:C31 P w K mg base) (n_l:mg "len" =none):Ok P w K mg base f d ["script"] zdm:=zcF rfl λr ih=>by
  refine zaQ F sc50 rfl rfl λ_ _ _ _ _ _ hr=>?_;delta zdA zcw zcu zcB zcy zcP zcZ zcQ zcX zcY zcT;delta zdv;delta zdA zcw zcu zcB zcy zcP zcZ zcQ zcX zcY zcT;exact(zae (zao (i:=1) sc50.nd rfl (ak rfl) (zaf (x38.zg r) hr rfl x38.zm x38.zk x38.zb (zaa (zaf (x37.zg r) hr rfl x37.zm x37.zk x37.zb (zaa (jv 0) (zaa zad zac))) (zaa (zaf (x37.zg r) hr rfl x37.zm x37.zk x37.zb (zaa (jv 0) (zaa zad zac))) (zaa zeI zac)))))
  (zae (zaT (zel (zbE (zaf (x49.zg r) hr rfl x49.zm x49.zk x49.zb (zaa (jv 1) (zaa (zcG (zdG (zaf (x37.zg r) hr rfl x37.zm x37.zk x37.zb (zaa (jv 0) (zaa zad zac))) zad) zad) (zaa (zcG (zdG (zaf (x37.zg r) hr rfl x37.zm x37.zk x37.zb (zaa (jv 0) (zaa zad zac))) zad) zad) zac)))))) (zai (zam zeI)) zau)
  (zae (zao (i:=2) sc50.nd rfl (ak rfl) (zaf (x38.zg r) hr rfl x38.zm x38.zk x38.zb (zaa (zaf (x37.zg r) hr rfl x37.zm x37.zk x37.zb (zaa (jv 0) (zaa zad zac))) (zaa (zaf (x37.zg r) hr rfl x37.zm x37.zk x37.zb (zaa (jv 0) (zaa zad zac))) (zaa zeI zac)))))
  (zae (zao (i:=3) sc50.nd rfl (ak rfl) (zaf (x43.zg r) hr rfl x43.zm x43.zk x43.zb (zaa (jv 0) (zaa zad (zaa (jv 1) (zaa (jv 2) (zaa (zhT hr (zcG (zaf (x37.zg r) hr rfl x37.zm x37.zk x37.zb (zaa (jv 0) (zaa zad zac))) zad) zad) zac)))))))
  (zae (zao (i:=4) sc50.nd rfl (ak rfl) (zaf (x45.zg r) hr rfl x45.zm x45.zk x45.zb (zaa (zaf (x44.zg r) hr rfl x44.zm x44.zk x44.zb (zaa (zcK (jv 0) (zaG zad) (zaG zad)) (zaa (jv 3) (zaa (jv 1) (zaa zad zac))))) (zaa (jv 3) (zaa zad zac)))))
  (zae (zca (zwp (zhD (zrn (jv 0) (zaG zad) (zaG zad)) (zaz (zaa zad zac)))) (zaq (i:=5) sc50.nd rfl (ak rfl)) (zae (zao (i:=6) sc50.nd rfl (ak rfl) (zaf (x46.zg r) hr rfl x46.zm x46.zk x46.zb (zaa (jv 3) (zaa (jv 4) (zaa zad zac)))))
  (zae (zaT (zel (zbE (zaf (x48.zg r) hr rfl x48.zm x48.zk x48.zb (zaa (jv 3) (zaa (jv 4) (zaa (jv 6) zac)))))) (zai (zam zeI)) zau)
  (zae (zao (i:=7) sc50.nd rfl (ak rfl) (zaf (x26.zg r) hr rfl x26.zm x26.zk x26.zb (zaa (jv 3) (zaa (jv 4) zac))))
  (zai (zaT (zmQ (zcz rfl n_l (zaa (jv 7) zac)) zad) (zai (zao (i:=4) sc50.nd rfl (ak rfl) (zaf (x36.zg r) hr rfl x36.zm x36.zk x36.zb (zaa (jv 3) (zaa (jv 4) (zaa (zaf (x31.zg r) hr rfl x31.zm x31.zk x31.zb (zaa (jv 3) (zaa (jv 6) (zaa (zaC (zaz (zaa (zap (zap (jv 7) (zcG (jv 5) (zcz rfl n_l (zaa (jv 7) zac)))) zad) zac))) zac)))) zac)))))) zau))))))
  (zai (zam zeI))))))))
end
theorem all_mk{l:ij}{w:az}{K:ah}{h:Heap}{mg:Str→Option Value}{fa:Addr}(X:K.In h) (G:h.Ns aL mg) (hfa:mg "law" =ae (.ref fa))
  (D0:Dfn K "parts_of" s0)
  (D1:Dfn K "parts_of_all" s1)
  (D2:Dfn K "is_small" s2)
  (D4:Dfn K "places" s4)
  (D3:Dfn K "gather_places" s3)
  (D6:Dfn K "part" s6)
  (D5:Dfn K "numbered_part" s5)
  (D7:Dfn K "blank_places" s7)
  (D8:Dfn K "blanks" s8)
  (D9:Dfn K "filled" s9)
  (D12:Dfn K "matched" s12)
  (D11:Dfn K "gather_matched" s11)
  (D10:Dfn K "have_one_top" s10)
  (D14:Dfn K "is_sign" s14)
  (D13:Dfn K "are_small_letters" s13)
  (D15:Dfn K "turning_of" s15)
  (D16:Dfn K "is_quiet" s16)
  (D19:Dfn K "source" s19)
  (D20:Dfn K "goal" s20)
  (D17:Dfn K "only_small" s17)
  (D18:Dfn K "with_sides" s18)
  (D21:Dfn K "part_places" s21)
  (D24:Dfn K "open_uses" s24)
  (D23:Dfn K "gather_open" s23)
  (D22:Dfn K "open_turning" s22)
  (D26:Dfn K "uses" s26)
  (D25:Dfn K "gather_uses" s25)
  (D27:Dfn K "places_of" s27)
  (D31:Dfn K "way_of" s31)
  (D30:Dfn K "way_with" s30)
  (D29:Dfn K "way_within" s29)
  (D28:Dfn K "turned_top" s28)
  (D32:Dfn K "fewest" s32)
  (D33:Dfn K "most" s33)
  (D36:Dfn K "behind" s36)
  (D34:Dfn K "one_source" s34)
  (D35:Dfn K "moved" s35)
  (D37:Dfn K "_law_cell" s37)
  (D38:Dfn K "_law_words" s38)
  (D39:Dfn K "_law_count" s39)
  (D40:Dfn K "_law_filled" s40)
  (D41:Dfn K "_law_lefts" s41)
  (D42:Dfn K "_law_rights" s42)
  (D43:Dfn K "_law_book" s43)
  (D44:Dfn K "_law_plan" s44)
  (D45:Dfn K "_law_way" s45)
  (D46:Dfn K "_law_made" s46)
  (D47:Dfn K "_law_is_number" s47)
  (D48:Dfn K "_law_next_good" s48)
  (D49:Dfn K "_law_tower" s49)
  (D50:Dfn K "law" s50)
  (z_ValueError:aU K aL "ValueError" =ae none)
  (z_a:aU K aL "all" =ae none)
  (z_b:aU K aL "bool" =ae none)
  (z_d:aU K aL "dict" =ae none)
  (z_e:aU K aL "enumerate" =ae none)
  (z_n:aU K aL "int" =ae none)
  (z_i:aU K aL "isinstance" =ae none)
  (z_l:aU K aL "len" =ae none)
  (z_x:aU K aL "max" =ae none)
  (z_m:aU K aL "min" =ae none)
  (z_r:aU K aL "range" =ae none)
  (z_u:aU K aL "sum" =ae none)
  (z_t:aU K aL "tuple" =ae none)
  (z_z:aU K aL "zip" =ae none)
  {t_MOST_HEAVY:bc}(z_MOST_HEAVY:aU K aL "MOST_HEAVY" =ae (ae (.int 400 t_MOST_HEAVY)))
  {t_MOST_DEEP:bc}(z_MOST_DEEP:aU K aL "MOST_DEEP" =ae (ae (.int 40 t_MOST_DEEP)))
  {t_MOST_LETTERS:bc}(z_MOST_LETTERS:aU K aL "MOST_LETTERS" =ae (ae (.int 8 t_MOST_LETTERS)))
  {t_LEFT:bc}(z_LEFT:aU K aL "LEFT" =ae (ae (.int 1 t_LEFT)))
  {t_RIGHT:bc}(z_RIGHT:aU K aL "RIGHT" =ae (ae (.int 2 t_RIGHT)))
  {C_Apart:Addr}(z_Apart:aU K aL "Apart" =ae (ae (.ref C_Apart)))
  {C_NoPlace:Addr}(z_NoPlace:aU K aL "NoPlace" =ae (ae (.ref C_NoPlace)))
  {C_NoUse:Addr}(z_NoUse:aU K aL "NoUse" =ae (ae (.ref C_NoUse)))
  {C_TooGreat:Addr}(z_TooGreat:aU K aL "TooGreat" =ae (ae (.ref C_TooGreat)))
  (za_Apart:dL K C_Apart bmV "ValueError.__new__" =true) (zb_Apart:bP K (.ref C_Apart) "__getattribute__" =ae (ae (.builtin "BaseException.__getattribute__"))) (zc_Apart:bP K (.ref C_Apart) "__getattr__" =ae none) (zd_Apart:bP K (.ref C_Apart) "__class__" =ae (ae (.builtin "object.__class__"))) (ze_Apart:cP K C_Apart (.type "object")=ae true) (zf_Apart:cP K C_Apart (.type "BaseException")=ae true)
  (za_NoPlace:dL K C_NoPlace bmV "ValueError.__new__" =true) (zb_NoPlace:bP K (.ref C_NoPlace) "__getattribute__" =ae (ae (.builtin "BaseException.__getattribute__"))) (zc_NoPlace:bP K (.ref C_NoPlace) "__getattr__" =ae none) (zd_NoPlace:bP K (.ref C_NoPlace) "__class__" =ae (ae (.builtin "object.__class__"))) (ze_NoPlace:cP K C_NoPlace (.type "object")=ae true) (zf_NoPlace:cP K C_NoPlace (.type "BaseException")=ae true)
  (za_NoUse:dL K C_NoUse bmV "ValueError.__new__" =true) (zb_NoUse:bP K (.ref C_NoUse) "__getattribute__" =ae (ae (.builtin "BaseException.__getattribute__"))) (zc_NoUse:bP K (.ref C_NoUse) "__getattr__" =ae none) (zd_NoUse:bP K (.ref C_NoUse) "__class__" =ae (ae (.builtin "object.__class__"))) (ze_NoUse:cP K C_NoUse (.type "object")=ae true) (zf_NoUse:cP K C_NoUse (.type "BaseException")=ae true)
  (za_TooGreat:dL K C_TooGreat bmV "ValueError.__new__" =true) (zb_TooGreat:bP K (.ref C_TooGreat) "__getattribute__" =ae (ae (.builtin "BaseException.__getattribute__"))) (zc_TooGreat:bP K (.ref C_TooGreat) "__getattr__" =ae none) (zd_TooGreat:bP K (.ref C_TooGreat) "__class__" =ae (ae (.builtin "object.__class__"))) (ze_TooGreat:cP K C_TooGreat (.type "object")=ae true) (zf_TooGreat:cP K C_TooGreat (.type "BaseException")=ae true)
  :∃fd:bH,(∀(s:ag) (v:Value),d_ s fd ⟨[v],[]⟩ [("script",v)])∧ ∀base:Heap,K.In base→base.Ns aL mg→FnOk l.prog w K mg base (CX1 l.prog w) 200 fa fd ["script"] (zcV K (zdm 200)):=by
 obtain⟨f50,d50,a50,F50⟩:=D50;have e:=hfa.symm.trans (bi X G a50);cases e;have n_ValueError:=bT X G z_ValueError;have n_a:=bT X G z_a;have n_b:=bT X G z_b;have n_d:=bT X G z_d;have n_e:=bT X G z_e;have n_n:=bT X G z_n;have n_i:=bT X G z_i;have n_l:=bT X G z_l;have n_x:=bT X G z_x;have n_m:=bT X G z_m;have n_r:=bT X G z_r;have n_u:=bT X G z_u;have n_t:=bT X G z_t;have n_z:=bT X G z_z;have g_MOST_HEAVY:=bi X G z_MOST_HEAVY;have g_MOST_DEEP:=bi X G z_MOST_DEEP;have g_MOST_LETTERS:=bi X G z_MOST_LETTERS;have g_LEFT:=bi X G z_LEFT;have g_RIGHT:=bi X G z_RIGHT;refine⟨d50,λs v=>?_,λbase _ _=>?_⟩
 ·obtain⟨oc,od,kV,doc,pm,an,cdv,ct,osl,rfl,lk,hcd⟩:=F50.ex;exact .of_eq rfl
 obtain⟨f,d,a,F⟩:=D0;have x0:=mkC (base:=base) X G F a (o0 (P:=l.prog) (w:=w) F n_i n_n) (F.binds λ_ _ _ _ _ _=>n1 λ_=>rfl);obtain⟨f,d,a,F⟩:=D1;have x1:=mkC (base:=base) X G F a (o1 (P:=l.prog) (w:=w) F x0) (F.binds λ_ _ _ _ _ _=>n1 λ_=>rfl);obtain⟨f,d,a,F⟩:=D2;have x2:=mkC (base:=base) X G F a (o2 (P:=l.prog) (w:=w) F x1 n_l g_MOST_HEAVY g_MOST_DEEP) (F.binds λ_ _ _ _ _ _=>n1 λ_=>rfl);obtain⟨f,d,a,F⟩:=D3;have x3:=mkC (base:=base) X G F a (o3 (P:=l.prog) (w:=w) F x0 (F.binds λ_ _ _ _ _ _=>n3 λ_ _ _=>rfl) (bi X G a) n_e) (F.binds λ_ _ _ _ _ _=>n3 λ_ _ _=>rfl);obtain⟨f,d,a,F⟩:=D4;have x4:=mkC (base:=base) X G F a (o4 (P:=l.prog) (w:=w) F x3) (F.binds λ_ _ _ _ _ _=>n1 λ_=>rfl);obtain⟨f,d,a,F⟩:=D5;have x5:=mkC (base:=base) X G F a (o5 (P:=l.prog) (w:=w) F x0 n_l ⟨C_NoPlace,bi X G z_NoPlace⟩ ⟨z_NoPlace,za_NoPlace,⟨zb_NoPlace,zc_NoPlace,zd_NoPlace,ze_NoPlace,zf_NoPlace⟩⟩) (F.binds λ_ _ _ _ _ _=>n2 λ_ _=>rfl);obtain⟨f,d,a,F⟩:=D6;have x6:=mkC (base:=base) X G F a (o6 (P:=l.prog) (w:=w) F x5) (F.binds λ_ _ _ _ _ _=>n2 λ_ _=>rfl);obtain⟨f,d,a,F⟩:=D7;have x7:=mkC (base:=base) X G F a (o7 (P:=l.prog) (w:=w) F x4 x6 n_i n_n) (F.binds λ_ _ _ _ _ _=>n1 λ_=>rfl);obtain⟨f,d,a,F⟩:=D8;have x8:=mkC (base:=base) X G F a (o8 (P:=l.prog) (w:=w) F x6 x7) (F.binds λ_ _ _ _ _ _=>n1 λ_=>rfl);obtain⟨f,d,a,F⟩:=D9;have x9:=mkC (base:=base) X G F a (o9 (P:=l.prog) (w:=w) F (F.binds λ_ _ _ _ _ _=>n2 λ_ _=>rfl) (bi X G a) n_i n_n n_t) (F.binds λ_ _ _ _ _ _=>n2 λ_ _=>rfl);obtain⟨f,d,a,F⟩:=D10;have x10:=mkC (base:=base) X G F a (o10 (P:=l.prog) (w:=w) F n_l) (F.binds λ_ _ _ _ _ _=>n2 λ_ _=>rfl);obtain⟨f,d,a,F⟩:=D11;have x11:=mkC (base:=base) X G F a (o11 (P:=l.prog) (w:=w) F x10 (F.binds λ_ _ _ _ _ _=>n3 λ_ _ _=>rfl) (bi X G a) n_i n_n n_z) (F.binds λ_ _ _ _ _ _=>n3 λ_ _ _=>rfl);obtain⟨f,d,a,F⟩:=D12;have x12:=mkC (base:=base) X G F a (o12 (P:=l.prog) (w:=w) F x11) (F.binds λ_ _ _ _ _ _=>n2 λ_ _=>rfl);obtain⟨f,d,a,F⟩:=D13;have x13:=mkC (base:=base) X G F a (o13 (P:=l.prog) (w:=w) F n_a) (F.binds λ_ _ _ _ _ _=>n1 λ_=>rfl);obtain⟨f,d,a,F⟩:=D14;have x14:=mkC (base:=base) X G F a (o14 (P:=l.prog) (w:=w) F x13 n_l g_MOST_LETTERS) (F.binds λ_ _ _ _ _ _=>n1 λ_=>rfl);obtain⟨f,d,a,F⟩:=D15;have x15:=mkC (base:=base) X G F a (o15 (P:=l.prog) (w:=w) F) (F.binds λ_ _ _ _ _ _=>n2 λ_ _=>rfl);obtain⟨f,d,a,F⟩:=D16;have x16:=mkC (base:=base) X G F a (o16 (P:=l.prog) (w:=w) F x14 (F.binds λ_ _ _ _ _ _=>n1 λ_=>rfl) (bi X G a) n_a) (F.binds λ_ _ _ _ _ _=>n1 λ_=>rfl);obtain⟨f,d,a,F⟩:=D17;have x17:=mkC (base:=base) X G F a (o17 (P:=l.prog) (w:=w) F x2 ⟨C_TooGreat,bi X G z_TooGreat⟩ ⟨z_TooGreat,za_TooGreat,⟨zb_TooGreat,zc_TooGreat,zd_TooGreat,ze_TooGreat,zf_TooGreat⟩⟩) (F.binds λ_ _ _ _ _ _=>n1 λ_=>rfl);obtain⟨f,d,a,F⟩:=D18;have x18:=mkC (base:=base) X G F a (o18 (P:=l.prog) (w:=w) F x15 x9 (F.binds λ_ _ _ _ _ _=>n3 λ_ _ _=>rfl) (bi X G a) n_t) (F.binds λ_ _ _ _ _ _=>n3 λ_ _ _=>rfl);obtain⟨f,d,a,F⟩:=D19;have x19:=mkC (base:=base) X G F a (o19 (P:=l.prog) (w:=w) F x17 x18 g_LEFT) (F.binds λ_ _ _ _ _ _=>n2 λ_ _=>rfl);obtain⟨f,d,a,F⟩:=D20;have x20:=mkC (base:=base) X G F a (o20 (P:=l.prog) (w:=w) F x17 x18 g_RIGHT) (F.binds λ_ _ _ _ _ _=>n2 λ_ _=>rfl);obtain⟨f,d,a,F⟩:=D21;have x21:=mkC (base:=base) X G F a (o21 (P:=l.prog) (w:=w) F x15 x7 n_r n_l g_LEFT) (F.binds λ_ _ _ _ _ _=>n2 λ_ _=>rfl);obtain⟨f,d,a,F⟩:=D22;have x22:=mkC (base:=base) X G F a (o22 (P:=l.prog) (w:=w) F x12 g_LEFT) (F.binds λ_ _ _ _ _ _=>n2 λ_ _=>rfl);obtain⟨f,d,a,F⟩:=D23;have x23:=mkC (base:=base) X G F a (o23 (P:=l.prog) (w:=w) F x22 (F.binds λ_ _ _ _ _ _=>n4 λ_ _ _ _=>rfl) (bi X G a) n_e) (F.binds λ_ _ _ _ _ _=>n4 λ_ _ _ _=>rfl);obtain⟨f,d,a,F⟩:=D24;have x24:=mkC (base:=base) X G F a (o24 (P:=l.prog) (w:=w) F x23) (F.binds λ_ _ _ _ _ _=>n2 λ_ _=>rfl);obtain⟨f,d,a,F⟩:=D25;have x25:=mkC (base:=base) X G F a (o25 (P:=l.prog) (w:=w) F x15 x21 (F.binds λ_ _ _ _ _ _=>n4 λ_ _ _ _=>rfl) (bi X G a) n_z) (F.binds λ_ _ _ _ _ _=>n4 λ_ _ _ _=>rfl);obtain⟨f,d,a,F⟩:=D26;have x26:=mkC (base:=base) X G F a (o26 (P:=l.prog) (w:=w) F x25) (F.binds λ_ _ _ _ _ _=>n2 λ_ _=>rfl);obtain⟨f,d,a,F⟩:=D27;have x27:=mkC (base:=base) X G F a (o27 (P:=l.prog) (w:=w) F) (F.binds λ_ _ _ _ _ _=>n1 λ_=>rfl);obtain⟨f,d,a,F⟩:=D28;have x28:=mkC (base:=base) X G F a (o28 (P:=l.prog) (w:=w) F x22 x12 n_t g_LEFT) (F.binds λ_ _ _ _ _ _=>n2 λ_ _=>rfl);obtain⟨f,d,a,F⟩:=D29;have x29:=mkC (base:=base) X G F a (o29 (P:=l.prog) (w:=w) F x28 x21 (F.binds λ_ _ _ _ _ _=>n4 λ_ _ _ _=>rfl) (bi X G a) n_z n_t) (F.binds λ_ _ _ _ _ _=>n4 λ_ _ _ _=>rfl);obtain⟨f,d,a,F⟩:=D30;have x30:=mkC (base:=base) X G F a (o30 (P:=l.prog) (w:=w) F x29 n_d) (F.binds λ_ _ _ _ _ _=>n3 λ_ _ _=>rfl);obtain⟨f,d,a,F⟩:=D31;have x31:=mkC (base:=base) X G F a (o31 (P:=l.prog) (w:=w) F x27 x30 x24 ⟨C_NoUse,bi X G z_NoUse⟩ ⟨z_NoUse,za_NoUse,⟨zb_NoUse,zc_NoUse,zd_NoUse,ze_NoUse,zf_NoUse⟩⟩) (F.binds λ_ _ _ _ _ _=>n3 λ_ _ _=>rfl);obtain⟨f,d,a,F⟩:=D32;have x32:=mkC (base:=base) X G F a (o32 (P:=l.prog) (w:=w) F x15 x8 (F.binds λ_ _ _ _ _ _=>n2 λ_ _=>rfl) (bi X G a) n_u n_e g_RIGHT) (F.binds λ_ _ _ _ _ _=>n2 λ_ _=>rfl);obtain⟨f,d,a,F⟩:=D33;have x33:=mkC (base:=base) X G F a (o33 (P:=l.prog) (w:=w) F x15 x8 (F.binds λ_ _ _ _ _ _=>n2 λ_ _=>rfl) (bi X G a) n_u n_x n_e g_RIGHT) (F.binds λ_ _ _ _ _ _=>n2 λ_ _=>rfl);obtain⟨f,d,a,F⟩:=D34;have x34:=mkC (base:=base) X G F a (o34 (P:=l.prog) (w:=w) F x19 ⟨C_Apart,bi X G z_Apart⟩ ⟨z_Apart,za_Apart,⟨zb_Apart,zc_Apart,zd_Apart,ze_Apart,zf_Apart⟩⟩) (F.binds λ_ _ _ _ _ _=>n3 λ_ _ _=>rfl);obtain⟨f,d,a,F⟩:=D35;have x35:=mkC (base:=base) X G F a (o35 (P:=l.prog) (w:=w) F x15 x9 x12 (F.binds λ_ _ _ _ _ _=>n3 λ_ _ _=>rfl) (bi X G a) n_z n_t g_RIGHT g_LEFT) (F.binds λ_ _ _ _ _ _=>n3 λ_ _ _=>rfl);obtain⟨f,d,a,F⟩:=D36;have x36:=mkC (base:=base) X G F a (o36 (P:=l.prog) (w:=w) F x34 x20 x35) (F.binds λ_ _ _ _ _ _=>n3 λ_ _ _=>rfl);obtain⟨f,d,a,F⟩:=D37;have x37:=mkC (base:=base) X G F a (o37 (P:=l.prog) (w:=w) F n_l) (F.binds λ_ _ _ _ _ _=>n2 λ_ _=>rfl);obtain⟨f,d,a,F⟩:=D38;have x38:=mkC (base:=base) X G F a (o38 (P:=l.prog) (w:=w) F n_r n_l n_n) (F.binds λ_ _ _ _ _ _=>n3 λ_ _ _=>rfl);obtain⟨f,d,a,F⟩:=D39;have x39:=mkC (base:=base) X G F a (o39 (P:=l.prog) (w:=w) F (F.binds λ_ _ _ _ _ _=>n1 λ_=>rfl) (bi X G a) n_i n_n n_u) (F.binds λ_ _ _ _ _ _=>n1 λ_=>rfl);obtain⟨f,d,a,F⟩:=D40;have x40:=mkC (base:=base) X G F a (o40 (P:=l.prog) (w:=w) F (F.binds λ_ _ _ _ _ _=>n2 λ_ _=>rfl) (bi X G a) n_i n_n n_t) (F.binds λ_ _ _ _ _ _=>n2 λ_ _=>rfl);obtain⟨f,d,a,F⟩:=D41;have x41:=mkC (base:=base) X G F a (o41 (P:=l.prog) (w:=w) F) (F.binds λ_ _ _ _ _ _=>n4 λ_ _ _ _=>rfl);obtain⟨f,d,a,F⟩:=D42;have x42:=mkC (base:=base) X G F a (o42 (P:=l.prog) (w:=w) F) (F.binds λ_ _ _ _ _ _=>n3 λ_ _ _=>rfl);obtain⟨f,d,a,F⟩:=D43;have x43:=mkC (base:=base) X G F a (o43 (P:=l.prog) (w:=w) F x41 x42 x37 x39 n_r n_e n_l) (F.binds λ_ _ _ _ _ _=>n5 λ_ _ _ _ _=>rfl);obtain⟨f,d,a,F⟩:=D44;have x44:=mkC (base:=base) X G F a (o44 (P:=l.prog) (w:=w) F x39 n_l n_m) (F.binds λ_ _ _ _ _ _=>n4 λ_ _ _ _=>rfl);obtain⟨f,d,a,F⟩:=D45;have x45:=mkC (base:=base) X G F a (o45 (P:=l.prog) (w:=w) F x40 (F.binds λ_ _ _ _ _ _=>n3 λ_ _ _=>rfl) (bi X G a) n_t) (F.binds λ_ _ _ _ _ _=>n3 λ_ _ _=>rfl);obtain⟨f,d,a,F⟩:=D46;have x46:=mkC (base:=base) X G F a (o46 (P:=l.prog) (w:=w) F (F.binds λ_ _ _ _ _ _=>n3 λ_ _ _=>rfl) (bi X G a) x40 n_t) (F.binds λ_ _ _ _ _ _=>n3 λ_ _ _=>rfl);obtain⟨f,d,a,F⟩:=D47;have x47:=mkC (base:=base) X G F a (o47 (P:=l.prog) (w:=w) F n_i n_n n_b) (F.binds λ_ _ _ _ _ _=>n1 λ_=>rfl);obtain⟨f,d,a,F⟩:=D48;have x48:=mkC (base:=base) X G F a (o48 (P:=l.prog) (w:=w) F x32 x33 x16 x26 x36 x47 x31 n_x n_m) (F.binds λ_ _ _ _ _ _=>n3 λ_ _ _=>rfl);obtain⟨f,d,a,F⟩:=D49;have x49:=mkC (base:=base) X G F a (o49 (P:=l.prog) (w:=w) F x32 x33 x47 n_r n_m) (F.binds λ_ _ _ _ _ _=>n3 λ_ _ _=>rfl);exact o50 F50 x38 x43 x45 x37 x49 x44 x46 x26 x48 x36 x31 n_l 200
theorem walk{l:ij}{q:aE}{loose:List Str}{XP:(Str→Option Value)→Heap→Prop}{YP:az→Heap→Prop}{d:DefRec}{K:fZ→ah}(hn:l.most=ae 63) (hdf:d.params.defaults=[])
  (hY:∀(w:az) (h:Heap),YP w h→(K w.params).In h)
  (F:∀(w:az) (mg:Str→Option Value) (fa:Addr) (h:Heap),(K w.params).In h→h.Ns aL mg→mg d.name=ae (.ref fa)→
   ∃fd:bH,(∀(s:ag) (u:Value),d_ s fd ⟨[u],[]⟩ [("script",u)])∧ ∀base:Heap,(K w.params).In base→base.Ns aL mg→FnOk l.prog w (K w.params) mg base (CX1 l.prog w) 200 fa fd ["script"] (zcV (K w.params) (zdm 200))) :
  iw q loose XP YP l.row.toRowW d [] (λf vs=>il f vs):=
 L2.zts (n:=63) (k:=200) (x:= "script") (CX:=λw=>CX1 l.prog w) (sp:=λw=>zcV (K w.params) (zdm 200)) hn (by decide) hdf ⟨rfl,by decide,by decide⟩ hY F (λw H a ns hl hO hS=>zqG hO hS (zxG ns hl)) λ_ _ _ _ _ ⟨_,_,_,_,_,_,_,_,_,z⟩=>z
end K38
namespace PySem.W.Fast
def tw8120173011584255727:=Nat
def tw17895571099938326118:=Nat
def tw10141034764946938700:=Nat
def tw3335721338839066624:=Nat
def tw15671347354364454746:=Nat
def tw16643903263898098393:=Nat
def tw13789160492458130043:=Nat
def tw12380339053036843859:=Nat
def tw12260328570126317757:=Nat
def tw12606887854604725451:=Nat
def tw3033063770225004984:=Nat
def tw2868945063996785005:=Nat
def tw11889404043873576814:=Nat
def tw8039435559969061170:=Nat
def tw8212978872415369421:=Nat
def tw7373109315699559097:=Nat
def tw1916060482388492277:=Nat
def tw17599522571028239734:=Nat
def tw6630183490473494803:=Nat
def tw7162530854667769268:=Nat
def tw7415411879031780339:=Nat
def tw10281083990330001708:=Nat
def tw1674024291033974621:=Nat
def tw9547217827554614184:=Nat
def tw7515375085918714022:=Nat
def tw13710220032097776650:=Nat
def tw8189508958138043819:=Nat
def tw2455371232064543549:=Nat
def tw14068889501105206953:=Nat
def tw10744927836082864131:=Nat
def tw3831669195199054658:=Nat
def tw3629405207440855046:=Nat
def tw8132048886960860486:=Nat
def tw5655612995275789702:=Nat
def tw4005923910243139928:=Nat
def tw5263106303240280150:=Nat
def tw6027044118749299923:=Nat
def tw17319088226298012185:=Nat
def tw8640724611767893972:=Nat
def tw16625474303277748457:=Nat
def tw4084940082442074308:=Nat
def tw3891646853932496374:=Nat
def tw5481413425460148330:=Nat
def tw2398739024136337794:=Nat
def tw10851126580302217689:=Nat
def tw7639780403396895118:=Nat
def tw12865154528458689499:=Nat
def tw14257493479926325090:=Nat
def tw12596763895166237290:=Nat
def tw1572461795235316296:=Nat
def tw9265294930534182017:=Nat
def tw14307535495912388248:=Nat
def tw3275165444493418144:=Nat
def tw865942536998240807:=Nat
def tw11718689927104571313:=Nat
def tw4076630278626776480:=Nat
def tw17899096767254000317:=Nat
def tw8508791322172075217:=Nat
def tw2331783106285623498:=Nat
def tw4086422151965329264:=Nat
def tw17327634963024535520:=Nat
def tw3066372207815594279:=Nat
def tw8619629592656880173:=Nat
def tw5234099276029624346:=Nat
def tw5568917575685187600:=Nat
def tw4795389107109379384:=Nat
def tw4465088647174568356:=Nat
def tw13504235319333729074:=Nat
def tw13831505305934638232:=Nat
def tw13228383952796506273:=Nat
def tw14724192102251495165:=Nat
def tw1627048474946657003:=Nat
def tw2807221144827445429:=Nat
def tw16167353725156673431:=Nat
def tw1318822105882760436:=Nat
def tw17136147873694140766:=Nat
def tw2388327682641350565:=Nat
def tw9311570063220976898:=Nat
def tw14130885984633599820:=Nat
def tw11918090533869886165:=Nat
def tw4156685099572858284:=Nat
def tw17315693083302944615:=Nat
def tw11207468232305197522:=Nat
def tw6714482887368937464:=Nat
def tw9293251867625507961:=Nat
def tw7281298497478688410:=Nat
def tw18014993082766567100:=Nat
def tw15631668224647580078:=Nat
def tw4886318767166132469:=Nat
def tw4862000963264179720:=Nat
def tw13065401510513470712:=Nat
def tw8079931425629070415:=Nat
def tw15655310802862700952:=Nat
def tw2768309345451431565:=Nat
def tw8515891596137591971:=Nat
def tw13851862122712924298:=Nat
def tw14436702713616134833:=Nat
def tw17918909644518141723:=Nat
def tw9615381055370730264:=Nat
def tw5627420340086074156:=Nat
def tw9752418676291478808:=Nat
def tw12540770066347447048:=Nat
def tw9451696279022943252:=Nat
def tw8883294951223327276:=Nat
def tw8850485659711175785:=Nat
def tw16253449840508458753:=Nat
def tw14445938544111280040:=Nat
def tw9755788805415318557:=Nat
def tw16071718619542075012:=Nat
def tw12745643934211093151:=Nat
def tw1050868148505216254:=Nat
def tw14231642305106029406:=Nat
def tw15535123717267352811:=Nat
def tw16791480897521071843:=Nat
def tw13077683544542150879:=Nat
def tw7161167836355864991:=Nat
def tw12789466922629688975:=Nat
def tw14009650230529117851:=Nat
def tw14045248723241709056:=Nat
def tw10985492693065485057:=Nat
def tw6666149240396841577:=Nat
def tw7706725505470393097:=Nat
def tw1979161432003950305:=Nat
def tw8106326073919978128:=Nat
def tw9685381921780518232:=Nat
def tw18153261727456763923:=Nat
def tw5272498515438272817:=Nat
def tw8750456514237728740:=Nat
def tw8460670166242879987:=Nat
def tw15872103503810993438:=Nat
def tw993178314733670592:=Nat
def tw1658914327983328422:=Nat
def tw5822212009285553004:=Nat
def tw8704505181738785472:=Nat
def tw1921494724487687500:=Nat
def tw10414331458819691653:=Nat
def tw7141131390418516866:=Nat
def tw13017072572650565229:=Nat
def tw16856995970338216609:=Nat
def tw11350236733216430200:=Nat
def tw7310484901030401478:=Nat
def tw7871650732275463358:=Nat
def tw14943071937481837335:=Nat
def tw1699385675538428181:=Nat
def tw2904308234037858543:=Nat
def tw4053443516208294398:=Nat
def tw13869139145209917420:=Nat
def tw9507426112301581944:=Nat
def tw11456246165105157130:=Nat
def tw1195452823182056993:=Nat
def tw6646331908877700933:=Nat
def tw4073542180478913036:=Nat
def tw15006697968833717894:=Nat
def tw11688031764471965676:=Nat
def tw17596135504274734054:=Nat
def tw5234497178256689416:=Nat
def tw15115272558286496325:=Nat
def tw14696451539057407741:=Nat
def tw17053044355625806394:=Nat
def tw18275290589522415928:=Nat
def tw6239929671524643761:=Nat
def tw8192115151076545377:=Nat
def tw10578082349883146514:=Nat
def tw164220502393173231:=Nat
def tw10333889539572913639:=Nat
def tw7546430204061003334:=Nat
def tw775747418414038529:=Nat
def tw12748965942617733987:=Nat
def tw18008758363158469113:=Nat
def tw4121820456952805374:=Nat
def tw1227573674104501617:=Nat
def tw7262904190511738389:=Nat
def tw3061096614939455639:=Nat
def tw13252550000502093195:=Nat
def tw12361546217282798392:=Nat
def tw15432998443772610421:=Nat
def tw2202108639471469419:=Nat
def tw2916068869197943737:=Nat
def tw2745633886553168217:=Nat
def tw17528868126521885035:=Nat
def tw11599669996162592683:=Nat
def tw4795185074358620769:=Nat
def tw14010712490152905453:=Nat
def tw11152019514264766755:=Nat
def tw4426579437358119306:=Nat
def tw17553442106831913640:=Nat
def tw4226471641182156550:=Nat
def tw16877925037502244652:=Nat
def tw13742131310818684920:=Nat
def tw10744796014501589376:=Nat
def tw5721041384493676434:=Nat
def tw3110935969050779460:=Nat
def tw2186577937976750403:=Nat
def tw11184567569081814196:=Nat
def tw17111884217865090736:=Nat
def tw11532033827890713535:=Nat
def tw8692853921807365813:=Nat
def tw17349579200140147978:=Nat
def tw2492980019535222909:=Nat
def tw17457713805695627921:=Nat
def tw5746961228005691026:=Nat
def tw3211814231628941470:=Nat
def tw1806910018854520225:=Nat
def tw1956717194717443665:=Nat
def tw10520645174002850075:=Nat
def tw7571308190079018452:=Nat
def tw1805144867126233118:=Nat
def tw5439917832358606455:=Nat
def tw6899137410209669823:=Nat
def tw419371835629302211:=Nat
def tw1575734386332805444:=Nat
def tw2466739429398944861:=Nat
def tw17069980709260726073:=Nat
def tw4686361935806315280:=Nat
def tw12668458080717907975:=Nat
def tw3915759953538186666:=Nat
def tw1989888800512537631:=Nat
def tw2142523873849500453:=Nat
def tw7652439484317551311:=Nat
def tw17547018542418336056:=Nat
def tw11288984333379892328:=Nat
def tw1612692051294362392:=Nat
def tw11289629488034589270:=Nat
def tw1737644666755324419:=Nat
def tw12563893044825105497:=Nat
def tw17365206163958143225:=Nat
def tw15471702963526666396:=Nat
def tw6751060621884455392:=Nat
def tw11893182299769499464:=Nat
def tw7041000979936567193:=Nat
def tw1935429109530951853:=Nat
def tw14162223934002824935:=Nat
def tw1350413682375253300:=Nat
def tw1755364262119377207:=Nat
def tw16554539543490142776:=Nat
def tw4835291782575999216:=Nat
def tw15113973104029300799:=Nat
def tw3765352102914686802:=Nat
def tw16505440771394427132:=Nat
def tw14461705296181722521:=Nat
def tw1478352880889133482:=Nat
def tw1283379203207325991:=Nat
def tw16394352904551448216:=Nat
end PySem.W.Fast
open PySem PySem.W PyProof.Rows
set_option maxRecDepth 100000 in
set_option maxHeartbeats 0 in
theorem PySem.Challenge.cw_turnweave_k38_fewest_and_most_holds : PySem.Challenge.rw_turnweave_k38_fewest_and_most.Holds := by
 w_on;o_law;k_head;(case hw=>w_witness2)
 k_fill
 refine K38.walk (l:=PySem.Challenge.rw_turnweave_k38_fewest_and_most) rfl rfl (λw h Y=>PySem.W.kIn_of Y) ?F
 case F=>
  intro w mg fa h KX G hmg
  refine' K38.all_mk KX G hmg (K38.dfn ?_ ?_ ?_ ?_) (K38.dfn ?_ ?_ ?_ ?_) (K38.dfn ?_ ?_ ?_ ?_) (K38.dfn ?_ ?_ ?_ ?_) (K38.dfn ?_ ?_ ?_ ?_) (K38.dfn ?_ ?_ ?_ ?_) (K38.dfn ?_ ?_ ?_ ?_) (K38.dfn ?_ ?_ ?_ ?_) (K38.dfn ?_ ?_ ?_ ?_) (K38.dfn ?_ ?_ ?_ ?_) (K38.dfn ?_ ?_ ?_ ?_) (K38.dfn ?_ ?_ ?_ ?_) (K38.dfn ?_ ?_ ?_ ?_) (K38.dfn ?_ ?_ ?_ ?_) (K38.dfn ?_ ?_ ?_ ?_) (K38.dfn ?_ ?_ ?_ ?_) (K38.dfn ?_ ?_ ?_ ?_) (K38.dfn ?_ ?_ ?_ ?_) (K38.dfn ?_ ?_ ?_ ?_) (K38.dfn ?_ ?_ ?_ ?_) (K38.dfn ?_ ?_ ?_ ?_) (K38.dfn ?_ ?_ ?_ ?_) (K38.dfn ?_ ?_ ?_ ?_) (K38.dfn ?_ ?_ ?_ ?_) (K38.dfn ?_ ?_ ?_ ?_) (K38.dfn ?_ ?_ ?_ ?_) (K38.dfn ?_ ?_ ?_ ?_) (K38.dfn ?_ ?_ ?_ ?_) (K38.dfn ?_ ?_ ?_ ?_) (K38.dfn ?_ ?_ ?_ ?_) (K38.dfn ?_ ?_ ?_ ?_) (K38.dfn ?_ ?_ ?_ ?_) (K38.dfn ?_ ?_ ?_ ?_) (K38.dfn ?_ ?_ ?_ ?_) (K38.dfn ?_ ?_ ?_ ?_) (K38.dfn ?_ ?_ ?_ ?_) (K38.dfn ?_ ?_ ?_ ?_) (K38.dfn ?_ ?_ ?_ ?_) (K38.dfn ?_ ?_ ?_ ?_) (K38.dfn ?_ ?_ ?_ ?_) (K38.dfn ?_ ?_ ?_ ?_) (K38.dfn ?_ ?_ ?_ ?_) (K38.dfn ?_ ?_ ?_ ?_) (K38.dfn ?_ ?_ ?_ ?_) (K38.dfn ?_ ?_ ?_ ?_) (K38.dfn ?_ ?_ ?_ ?_) (K38.dfn ?_ ?_ ?_ ?_) (K38.dfn ?_ ?_ ?_ ?_) (K38.dfn ?_ ?_ ?_ ?_) (K38.dfn ?_ ?_ ?_ ?_) (K38.dfn ?_ ?_ ?_ ?_) ?_ ?_ ?_ ?_ ?_ ?_ ?_ ?_ ?_ ?_ ?_ ?_ ?_ ?_ ?_ ?_ ?_ ?_ ?_ ?_ ?_ ?_ ?_ ?_ ?_ ?_ ?_ ?_ ?_ ?_ ?_ ?_ ?_ ?_ ?_ ?_ ?_ ?_ ?_ ?_ ?_ ?_ ?_ ?_ ?_ ?_ ?_<;>first |k_is |kit_is | (dsimp only[List.map];kit_is) |kts_exm | (delta L2.bmV;k_exc) |skip
end
