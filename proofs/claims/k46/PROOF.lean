import PyProof.Rows.All
import Wide.All
import OpenK.AllK
import Wide.FinOn
import Lean
import PyProof.EqAt
import PyProof.EqKinds
import PyProof.TupleCall
import PyProof.NeKinds
import PyProof.ListMulRoad
import PyProof.AttrMissHeap
import KE.KDictOf
import KE.KRevIter
import PyProof.ListRange
import KE.KSortTup
import KE.KMinKey
import PyProof.MinMaxWalk
import PyProof.Rows.CallKwBuiltin
import PyProof.Rows.SetFrom
import PyProof.Rows.SeqMore
import PySem.Challenge.RW_turnweave_k46_valleys
open Option renaming some→ae,getD_some→dq,isSome_iff_exists→dG,map_some→d7,getD_none→fH,isSome_map→ie,some→iE
open PySem renaming Shared→ah,wpAny_bind→ak,wpAny→am,starEach→ao,model→ap,eval→ay,World→aB,Pos→aC,wpAny_pure→aD,Program→aE,mainGlobals→aL,Around→aM,Paired→aN,backTo→aP,Tok→bc,Env→bv,wpAny_field→bA,FuncData→bC,compareOp→bG,IsPair→bJ,binaryOp→bM,Keyword→bO,NameKind→bP,bootBuiltins→bQ,IsZip→bR,pyNext→bS,Sem→bT,tupleKind→bU,Builtin→bV,rawInt→b9,sysModules→ca,assignEach→ce,wpAny_setField_rec→ck,wpAny_mono→cm,IsEnum→cx,attributeBase→cF,IsPart→cJ,wpAny_seqItems→cR,pyIter→cX,behindInMarks→c8,bindL→c9,wpAny_callSpecial?_slot→da,bindC→de,atKey→df,wpAny_call_entry→dg,swapsWith→di,sizeLine_eq→dj,keywordEach→dn,getItem→dr,callerA→dt,sliceBounds→dB,codeAny→dC,backToKw→dD,CmpOp→dF,wpAny_passesOwn→dH,foldedSetIterable→dJ,mem_of_lookup→dS,BindsTo→dU,valueAt→d8,Walks→d_,wpAny_newObj_type→eA,call_meets→eB,wpAny_rule→eF,wpAny_typeOf→eJ,storedH→eO,typeOf→eS,PlainAttrs→eW,PassesOwn→fe,tupleKind_room_in1→fi,Operator→fu,wpAny_execs_nil→fx,preSum→fD,letOwnedTupleGo→fN,wpAny_pyIter_list→fO,wpAny_onRaise→fP,wpAny_holding→fQ,wpAny_letGo→fS,wpAny_attempt→fV,Params→fX,post_val_or_str→fZ,wpAny_getItem_str_slice→gb,codeAny_mono→gh,wpAny_Name→gj,cellsFrom→gp,builtinsNs→gr,wpAny_Call_Name_kw→gD,typeLookup→gE,storeName→gJ,seq_tuple_add→gK,typeIs_str→gR,call→gX,IsEnumOut→g_,noFill_tuple_add→h9,sliceRange_one→h_,wpAny_updateSeq_pair→i',wpAny_truthy_bool→ia,typeIs_int→im,concat_meets→io,pick_run→iv,ZipApart→iw,wpAny_sequenceKey→iC,wpAny_setField→iK,wpAny_loadName_local→iR,slot_list_getitem→iW,wpAny_pyIter_tuple→i9,wpAny_assign_Name→jd,wpAny_newTuple→jB,wpAny_isInstance→jD,codeAny_builtin→jE,getattributeRaised→jF,firstArgMember→jG,wpAny_pyIter_zip→jN,isSubtype_stop→j6,wpAny_pyIter_enum→j8,wpAny_execs_cons→kj,wpAny_loadName_cell→kl
open Or renaming inl→ai,inr→cu
open PySem.W renaming Frag→aj,nsIn→aZ,mg_of→bb,findIn→bN,mg_none_of→b4,kia_one→cq,mroIn→cT,fnOf→dA,excIn→eC,hideAll→eG,keepIn→eI,kitOne→eM,hideAll_none→fE,codeIn→f9,hideAll_get→gB,instObj→gN,of_hideAll→gO,OpenLaw→gP,methodObj→hU,lookIn→iu,plainGet→iG,kitx_list→jj,kitx_dict→jA,WalkO→jP,cellsFrom_some→jQ
open List renaming length_map→aq,mem_cons→az,map_cons→aA,mem_map→aI,mem_cons_of_mem→aK,replicate→aO,size_toArray→aQ,length_cons→aR,length_append→aS,range→aU,mem_of_getElem?→aV,mem_cons_self→a0,getElem?_eq_getElem→a8,nil_append→a9,mem_singleton→bh,map_map→bj,mem_append→bq,getD_eq_getElem?_getD→br,getElem?_map→bt,Nodup→bu,not_mem_nil→bx,map_append→bD,find?_cons→bF,append_nil→bI,length_singleton→bK,lookup_cons→b7,mem_append_right→b_,append_assoc→cf,replicate_succ→cg,getElem?_eq_some_iff→cj,map_nil→cp,any_cons→cr,length_take→cy,mem_of_find?_eq_some→cA,map_congr_left→cC,length_drop→cD,all_eq_true→cY,length_nil→c5,drop_zero→c6,take_of_length_le→db,nodup_cons→dc,length→dw,flatten_cons→dy,isPrefixOf_iff_prefix→dL,getElem?_cons_succ→dQ,findSome?_cons→d5,cons_append→d9,foldl_cons→eg,mem_range→eK,length_pos_iff→eL,drop_eq_getElem_cons→eR,flatMap_cons→eT,drop_of_length_le→eY,filterMap_cons→fG,getElem?_range→fI,getElem_mem→fK,mem_of_mem_take→ge,of_mem_zip→gk,getElem?_of_mem→gq,take_length→gx,zip_cons_cons→gy,range_succ→gz,lookup→gA,mem_filter→gF,mem_filterMap→gG,flatMap_nil→gV,mem_of_mem_drop→gY,range_succ_eq_map→hZ,getElem?_append_right→ig,length_replicate→ij,foldl→ir,forIn_cons→ix,map_take→iA,length_range→iD,flatMap_append→iF,countP_cons_of_pos→iH,any_eq_true→iJ,take_succ→iQ,countP_le_length→iS,nodup_range→iU,mem_flatMap→iV,getElem?_append_left→iX,take_add→iZ,zipIdx_nil→i0,map_drop→i4,sum_cons→i8,getElem?_set_ne→j',set_cons_succ→jb,getElem_of_mem→jc,getElem?_set_self→jf,filter_append→jh,mem_or_eq_of_mem_set→jk,flatMap_def→jm,find?_some→jp,getElem?_replicate→jr,countP_cons_of_neg→ju,nodup_nil→jx,zipIdx_cons→jH,getElem?_drop→jO,eq_nil_of_length_eq_zero→jR,nodup_append→jT,mem_append_left→jU,take_append_drop→jY,Pairwise→j4,drop_drop→j5,countP_cons→ke,filter_cons_of_neg→kg,getElem?_cons_zero→kq,take_zero→kr,set_cons_zero→ku,isEmpty_nil→kw,take_sublist→kz,forIn_nil→kB
open Nat renaming le_refl→au,le_trans→aX,zero_le→aY,ne_of_lt→bz,lt_of_lt_of_le→bH,zero_add→b8,ne_of_gt→cH,lt_irrefl→cM,pow_le_pow_right→cV,mul_le_mul_right→dI,sub_zero→dP,mul_le_mul_left→dY,add_comm→ef,eq_zero_or_pos→eN,add_zero→eU,le_of_eq→e_,le_add_right→fB,mul_add→fL,mul_assoc→gC,le_of_lt→gT,min_eq_left→gW,sub_self→g9,le_of_not_lt→jn,min_eq_right→jJ,le_mul_of_pos_right→j9,le_mul_of_pos_left→kc,add_assoc→kh
open Option.some renaming inj→aG,injEq→bB
open PySem.Heap renaming get?_push_of_some→aH,lt_size→aJ,get?_push_size→bi,SameBut→b6,size_push→cI,ExtBut→gm
open PySem.NameKind renaming free→aT,cell→cn
open PySem.Value renaming ref→a_,none→ci,bool→eE,str→fh,int→gd,type→gU,isStrOf→jq
open PySem.Str renaming ofString→bf,join→cS,length→gS,empty→ik
open Ne renaming symm→bn
open Int renaming toNat_natCast→bW,toNat_of_nonneg→cw,emod_nonneg→cP,emod_lt_of_pos→cZ
open Bool renaming and_eq_true→b3,false_ne_true→cU,false_eq_true→er,and_false→fJ,eq_iff_iff→fT,not_false→iz,not_true→iB,true_and→iT,or_false→i5,false_or→ja,or_eq_true→jo
open PyProof.Rows renaming AllBare→b5,envOfC→cb,boot_int→c7,IsTup→dR,slot_tuple_getitem→eD,IntsAre→eQ,callWith_type1→fW,boot_tuple→f_,subscriptTail_builtinR→jM,slicePart_none→jZ,args_tuple_getitem→ki,boot_list→ko,entry_tuple_getitem→kA
open False renaming elim→cc
open PySem.Builtin.SmallTypes renaming nextOf→cB,ownedTupleIsFree→d6,ownedTupleHandOut→fM
open PySem.Txt renaming slice→cL,upper→dm
open PySem.Builtin.Str renaming occurrences→cN,strSliceIndices→fY
open True renaming intro→cO
open Sum renaming inr→c_
open PySem.Paired renaming length→du
open PySem.Builtin.List renaming listTooLong→dN
open ForInStep renaming yield→dO
open PySem.SeqAt renaming EqAt→dW,RcAt→eP,RcNeAt→eZ
open Eq renaming trans→eX
open PySem.F renaming slot_tuple_iterator_next→fj,slot_zip_next→fv,slot_enumerate_next→fR,slot_list_getattribute→gn,entry_tuple_add→gu,slot_dict_get→gQ,args_tuple_add_2→gZ,slot_tuple_add→ip,entry_enumerate_next→iy,entry_list_extend→iI,plainAttrs_list→iO,args_list_extend_2→iY,entry_dict_get→i6,entry_zip_next→je,args_dict_get_3→jC,args_enumerate_next_1→jL,slot_int_rmul→jV,args_tuple_iterator_next_1→jW,args_zip_next_1→jX,excBase_ValueError→j7,plainAttrs_str→j_,entry_tuple_iterator_next→km,slot_list_extend→kx
open PySem.Builtin.Tuple renaming tupleExact→fy,tupleItemsOf→i3
open PySem.Builtin.Slice renaming slicePlaces→fF,sliceAdjust→gL,sliceApplied→jg
open LawfulBEq renaming eq_of_beq→fU
open LawfulMonad renaming pure_bind→gc
open Array renaming toList_append→gi,length_toList→gv,append_assoc→jI
open PySem.Calls renaming evalArgs_plain→gl,callWith_builtin→ib,spliced_cons→ic,Name_function_global→iM,spliced_nil→jK
open Prod renaming snd→gw
open Function renaming comp→gH
open PySem.Obj renaming mapSeq→gI,data_mapFields→jS
open PyProof.Rows.IsTup renaming new→gM
open Sum.inl renaming inj→iq
open PySem.AutoSeq1 renaming wpAny_loadPart'→iL
open PySem.Builtin.Dict renaming updateFrom→iN
open PySem.Around renaming under_plainId→iP
open PySem.Heap.SameBut renaming update→i7
open List.cons renaming injEq→i_
open Prod.mk renaming injEq→j3
set_option Elab.async false
set_option compiler.extract_closed false
set_option linter.all false
set_option maxRecDepth 100000
set_option maxHeartbeats 4000000
section
namespace L2
open PySem PySem.Spec PyProof.Rows
abbrev Key:=Sum Int Str
noncomputable def znv:Key→Value→Bool
 | .inl k,v=>Value.isInt k v
 | .inr x,v=>jq x v
noncomputable def zAf (w:aB):Key→Int
 | .inl k=>hashInt k
 | .inr x=>hashStr w x
theorem zbp:∀{k:Key}{v:Value},znv k v=true→(∃i t,k=Sum.inl i∧v=gd i t)∨(∃x t,k=c_ x∧v=fh x t)
 | .inl i,v,h=>by
  obtain⟨t,e⟩:=Value.isInt_shape (k:=i) (v:=v) h;exact .inl ⟨i,t,rfl,e⟩
 | .inr x,v,h=>by
  obtain⟨t,e⟩:=Value.isStrOf_shape (x:=x) (v:=v) h;exact .inr ⟨x,t,rfl,e⟩
theorem zpb (i:Int) (t:bc):znv (.inl i) (.int i t)=true:=by simp [znv,Value.isInt]
theorem zpF (x:Str) (t:bc):znv (.inr x) (.str x t)=true:=by simp [znv,jq]
theorem zwq (a b:Int):decide ((Sum.inl a:Key)=Sum.inl b)=(a == b):=by
 by_cases e:a=b
 ·subst e;simp
 ·have h:¬(Sum.inl a:Key)=Sum.inl b:=λq=>e (iq q);rw[decide_eq_false h];exact(beq_eq_false_iff_ne.mpr e).symm
theorem zxf (a b:Str):decide ((c_ a:Key)=c_ b)=decide (a=b):=by
 by_cases e:a=b
 ·subst e;simp
 ·have h:¬(c_ a:Key)=c_ b:=λq=>e (c_.inj q);rw[decide_eq_false h,decide_eq_false e]
theorem zvY (a:Int) (b:Str):decide ((Sum.inl a:Key)=c_ b)=false:=decide_eq_false (λq=>nomatch q)
theorem zwt (a:Str) (b:Int):decide ((c_ a:Key)=Sum.inl b)=false:=decide_eq_false (λq=>nomatch q)
noncomputable def zaY (prog:aE) (w:aB):PySem.KeyKind prog w Key where
  is:=znv
  hash:=zAf w
  inj:=λv a b ha hb=>by
    rcases zbp ha with⟨i,t,rfl,rfl⟩ |⟨x,t,rfl,rfl⟩
    · rcases zbp hb with⟨j,u,rfl,e⟩ |⟨y,u,rfl,e⟩
      · injection e with e1 _;rw[e1]
      · exact nomatch e
    · rcases zbp hb with⟨j,u,rfl,e⟩ |⟨y,u,rfl,e⟩
      · exact nomatch e
      · injection e with e1 _;rw[e1]
  byValue:=λk v h=>by
    rcases zbp h with⟨i,t,rfl,rfl⟩ |⟨x,t,rfl,rfl⟩<;>rfl
  pyHash:=λhv h=>by
    rcases zbp hv with⟨i,t,rfl,rfl⟩ |⟨x,t,rfl,rfl⟩
    · exact wpAny_pyHash_int h
    · exact wpAny_pyHash_str h
  eqBool:=λhu hv h=>by
    rcases zbp hu with⟨i,t,rfl,rfl⟩ |⟨x,t,rfl,rfl⟩
    · rcases zbp hv with⟨j,u,rfl,rfl⟩ |⟨y,u,rfl,rfl⟩
      · rw[zwq]at h;exact wpAny_eqBool_int h
      · rw[zvY]at h;exact dW.int_str i t y u _ _ _ _ h
    · rcases zbp hv with⟨j,u,rfl,rfl⟩ |⟨y,u,rfl,rfl⟩
      · rw[zwt]at h;exact dW.str_int x t j u _ _ _ _ h
      · rw[zxf]at h;exact wpAny_eqBool_str h
  «strs» :=λk x t v h=>by
    rcases zbp h with⟨i,u,rfl,e⟩ |⟨y,u,rfl,e⟩
    · exact nomatch e
    · injection e with e1 _;subst e1;cases v<;>rfl
theorem zln (prog:aE) (w:aB) (i:Int) (t:bc):(zaY prog w).is (.inl i) (.int i t)=true:=zpb i t
theorem zlR (prog:aE) (w:aB) (x:Str) (t:bc):(zaY prog w).is (.inr x) (.str x t)=true:=zpF x t
inductive V where
  |non |bl (b:Bool) |int (i:Int) |str (x:Str) |byt (b:Array UInt8) |flt (b:UInt64) |ref (a:Addr) |ty (n:String)
  deriving DecidableEq
noncomputable def RelV:V→Value→Prop
 | .non,u=>u=ci
 | .bl b,u=>u=eE b
 | .int i,u=>∃t,u=gd i t
 | .str x,u=>∃t,u=fh x t
 | .byt b,u=>∃t,u=Value.bytes b t
 | .flt b,u=>∃t,u=Value.float b t
 | .ref a,u=>u=a_ a
 | .ty n,u=>u=gU n
noncomputable abbrev Vals:List V→List Value→Prop:=aN RelV
theorem Vals.length{xs:List V}{us:List Value}(r:Vals xs us):xs.length=us.length:=du r
theorem Vals.get:∀{xs:List V}{us:List Value}{i:Nat}{x:V},Vals xs us→xs[i]? =ae x→ ∃u,us[i]? =ae u∧RelV x u
 |_,_,_,_, .nil,e=>by simp at e
 |_,_,0,_, .cons r _,e=>by simp at e;subst e;exact⟨_,rfl,r⟩
 |_,_,i+1,x, .cons _ t,e=>by
  obtain⟨u,h1,h2⟩:=Vals.get (i:=i) (x:=x) t (by simpa using e);exact⟨u,by simpa using h1,h2⟩
theorem Vals.append:∀{xs ys:List V}{us ws:List Value},Vals xs us→Vals ys ws→Vals (xs++ys) (us++ws)
 |_,_,_,_, .nil,s=>s
 |_,_,_,_, .cons r t,s=> .cons r (Vals.append t s)
theorem Vals.take:∀{xs:List V}{us:List Value}(n:Nat),Vals xs us→Vals (xs.take n) (us.take n)
 |_,_,0,_=> .nil
 |_,_,_+1, .nil=> .nil
 |_,_,n+1, .cons r t=> .cons r (Vals.take n t)
theorem Vals.drop:∀{xs:List V}{us:List Value}(n:Nat),Vals xs us→Vals (xs.drop n) (us.drop n)
 |_,_,0,r=>r
 |_,_,_+1, .nil=> .nil
 |_,_,n+1, .cons _ t=>Vals.drop n t
noncomputable def RelO:Option V→Option Value→Prop
 |some v,ae u=>RelV v u
 |none,none=>True
 |_,_=>False
def KV {κ:Type}:List (κ×V)→List (κ×Value)→Prop:=aN λ(p:κ×V) (q:κ×Value)=>p.1=q.1∧RelV p.2 q.2
noncomputable def kV:Key→V
 | .inl i=> .int i
 | .inr x=> .str x
inductive HO where
    |lst (xs:List V)
    |tup (xs:List V)
    |dK (kvs:List (Key×V)) |dT (kvs:List (List Key×V))
    |set (S:Int→Bool) (n:Nat)
    |ins (C dx:Addr) (fs:List (Str×V))
    |own (x:Addr)
    |xd (fs:List (Str×V))
    |met (f x:Addr)
    |rng (lo hi:Int)
    |frz (o:Obj) (u:HO)
    |tbl (ps:Array Value)
    |ext (φ:Heap→Prop)
abbrev Hp:=Addr→Option HO
noncomputable def upd (H:Hp) (a:Addr) (o:HO):Hp:=λb=>if b=a then ae o else H b
theorem zay{H:Hp}{a:Addr}{o:HO}:upd H a o a=ae o:=by unfold upd;rw[if_pos rfl]
theorem zaz{H:Hp}{a b:Addr}{o:HO}(h:b≠a):upd H a o b=H b:=by unfold upd;rw[if_neg h]
theorem zov{H:Hp}{a b:Addr}{o u:HO}(h:H a=ae o) (h':H b=ae u) (d:o≠u):a≠b:=by
 intro e;subst e;rw[h]at h';exact d (aG h')
theorem zau{H:Hp}{a b:Addr}{o:HO}(h:H a=ae o) (h':H b=none):a≠b:=by
 intro e;subst e;rw[h]at h';cases h'
section
variable (P:aE) (w:aB)
noncomputable def ObjOk (H:Hp) (h:Heap) (a:Addr):HO→Prop
 | .lst xs=>xs.length≤sizeLine∧ ∃(its:List Value) (n:Nat),Vals xs its∧h.get? a=ae { cls:= .type "list",data:= .seq its.toArray n }
 | .tup xs=>xs.length≤sizeLine∧ ∃its:List Value,Vals xs its∧dR h a its.toArray
 | .dK kvs=>kvs.length≤sizeLine∧(a == ca)=false∧ ∃vs,KV kvs vs∧h.DictOf (zaY P w) a vs
 | .dT kvs=>kvs.length≤sizeLine∧(a == ca)=false∧ ∃xs:List (List Key×Addr×Value),
   aN (λ(p:List Key×V) (q:List Key×Addr×Value)=>p.1=q.1∧H q.2.1=ae (.tup (p.1.map kV))∧RelV p.2 q.2.2) kvs xs∧
   ∃o es ep,h.get? a=ae o∧o.ExactDict∧o.data= .dict es ep∧es.toList=xs.map (entryOfKey (bU (zaY P w)))∧(xs.map (·.1)).Nodup
 | .set S n=>h.SetOf (intKind P w) a S n
 | .ins C dx fs=>H dx=ae (.own a)∧fs.length≤1000∧dx≠a∧h.get? a=ae (gN C dx)∧
   ∃mA,h.Ns1 dx mA∧(∀f,RelO (fs.lookup f) (mA f))∧PySem.Within mA (fs.map (·.1))
 | .own _=>∃o,h.get? a=ae o
 | .xd fs=>∃mA,h.Ns1 a mA∧ ∀f,RelO (fs.lookup f) (mA f)
 | .rng lo hi=>∃t u v,h.get? a=ae { cls:= .type "range",data:= .fields #[.int lo t, .int hi u, .int 1 v] }
 | .frz o u=>h.get? a=ae o∧ObjOk H h a u
 | .tbl ps=>h.get? a=ae { cls:= .none,data:= .fields ps }
 | .met f x=>h.get? a=ae (hU (.ref f) (.ref x))
 | .ext φ=>φ h∧(∃o,h.get? a=ae o)∧ ∀h1 h2:Heap,φ h1→(∀o,h1.get? a=ae o→h2.get? a=ae o)→φ h2
def HOk (H:Hp) (h:Heap):Prop:=∀a o,H a=ae o→ObjOk P w H h a o
end
section
variable {P:aE}{w:aB}{H H':Hp}{h h':Heap}{a:Addr}{o:HO}
theorem ObjOk.lt (x:ObjOk P w H h a o):a<h.objs.size:=by
 cases o with
 |lst xs=>obtain⟨_,_,_,_,e⟩:=x;exact aJ e
 |tup xs=>obtain⟨_,_,_,p⟩:=x;exact p.lt
 |dK kvs=>obtain⟨_,_,_,_,o,_,_,e,_⟩:=x;exact aJ e
 |dT kvs=>obtain⟨_,_,_,_,o,_,_,e,_⟩:=x;exact aJ e
 |set S n=>obtain⟨o,_,_,_,e,_⟩:=x;exact aJ e
 |ins C dx fs=>obtain⟨_,_,_,e,_⟩:=x;exact aJ e
 |own y=>obtain⟨_,e⟩:=x;exact aJ e
 |xd fs=>obtain⟨_,⟨_,_,_,e,_⟩,_⟩:=x;exact aJ e
 |rng lo hi=>obtain⟨_,_,_,e⟩:=x;exact aJ e
 |frz ob u=>obtain⟨e,_⟩:=x;exact aJ e
 |tbl ps=>exact aJ (show h.get? a=ae _ from x)
 |met f y=>exact aJ (show h.get? a=ae _ from x)
 |ext φ=>obtain⟨_,⟨_,e⟩,_⟩:=x;exact aJ e
theorem Paired.mapP{α β:Type}{F G:α→β→Prop}:∀{l₁:List α}{l₂:List β},aN F l₁ l₂→(∀a b,F a b→G a b)→aN G l₁ l₂
 |_,_, .nil,_=> .nil
 |_,_, .cons r t,f=> .cons (f _ _ r) (Paired.mapP t f)
theorem ObjOk.stay (x:ObjOk P w H h a o) (k:∀b u,(b=a∨H b=ae (.own a))→h.get? b=ae u→h'.get? b=ae u)
  (ho:∀b,H b=ae (.own a)→H' b=ae (.own a)) (ht:∀b xs,H b=ae (.tup xs)→H' b=ae (.tup xs)):ObjOk P w H' h' a o:=by
 induction o with
 |lst xs=>obtain⟨z,its,n,r,e⟩:=x;exact⟨z,its,n,r,k _ _ (.inl rfl) e⟩
 |tup xs=>obtain⟨z,its,r,ob,e,c⟩:=x;exact⟨z,its,r,ob,k _ _ (.inl rfl) e,c⟩
 |dK kvs=>obtain⟨z,y,vs,r,ob,es,ep,e,c⟩:=x;exact⟨z,y,vs,r,ob,es,ep,k _ _ (.inl rfl) e,c⟩
 |dT kvs=>
  obtain⟨z,y,xs,r,ob,es,ep,e,c⟩:=x;exact⟨z,y,xs,Paired.mapP r λp q z=>⟨z.1,ht _ _ z.2.1,z.2.2⟩,ob,es,ep,k _ _ (.inl rfl) e,c⟩
 |set S n=>obtain⟨ob,es,ep,t,e,c⟩:=x;exact⟨ob,es,ep,t,k _ _ (.inl rfl) e,c⟩
 |ins C dx fs=>
  obtain⟨d,z,ne,e,mA,⟨od,es,ep,e2,c⟩,r⟩:=x;exact⟨ho _ d,z,ne,k _ _ (.inl rfl) e,mA,⟨od,es,ep,k _ _ (.inr d) e2,c⟩,r⟩
 |own y=>obtain⟨ob,e⟩:=x;exact⟨ob,k _ _ (.inl rfl) e⟩
 |xd fs=>obtain⟨mA,⟨od,es,ep,e,c⟩,r⟩:=x;exact⟨mA,⟨od,es,ep,k _ _ (.inl rfl) e,c⟩,r⟩
 |rng lo hi=>obtain⟨t,u,v,e⟩:=x;exact⟨t,u,v,k _ _ (.inl rfl) e⟩
 |frz ob u ih=>obtain⟨e,q⟩:=x;exact⟨k _ _ (.inl rfl) e,ih q⟩
 |tbl ps=>
  have e:h.get? a=ae { cls:= .none,data:= .fields ps }:=x;show h'.get? a=ae { cls:= .none,data:= .fields ps };exact k a _ (.inl rfl) e
 |met f y=>
  have e:h.get? a=ae (hU (.ref f) (.ref y)):=x;show h'.get? a=ae (hU (.ref f) (.ref y));exact k a _ (.inl rfl) e
 |ext φ=>obtain⟨p,⟨o,e⟩,st⟩:=x;exact⟨st _ _ p λo q=>k _ _ (.inl rfl) q,⟨o,k _ _ (.inl rfl) e⟩,st⟩
theorem HOk.lt (x:HOk P w H h) (e:H a=ae o):a<h.objs.size:=(x a o e).lt
theorem HOk.fresh (x:HOk P w H h) (e:h.objs.size≤a):H a=none:=by
 cases q:H a with
 |none=>rfl
 |some u=>exact absurd (bH (x.lt q) e) (cM _)
theorem HOk.kept (x:HOk P w H h) (k:∀b u,h.get? b=ae u→h'.get? b=ae u):HOk P w H h':=λa o e=>
 (x a o e).stay (λb u _ q=>k b u q) (λ_ q=>q) λ_ _ q=>q
theorem HOk.laid (x:HOk P w H h) (k:∀b u,h.get? b=ae u→h'.get? b=ae u) (hp:h.objs.size≤a) (new:ObjOk P w (upd H a o) h' a o):HOk P w (upd H a o) h':=λb u e=>by
 have hn:=x.fresh hp;by_cases hb:b=a
 ·subst hb;rw[zay]at e;cases e;exact new
 ·rw[zaz hb]at e;exact(x b u e).stay (λc v _ q=>k c v q) (λc q=>by rw[zaz (zau q hn)];exact q) λc xs q=>by rw[zaz (zau q hn)];exact q
end
def Rd (H:Hp) (a:Addr) (u:HO):Prop:=H a=ae u∨ ∃o,H a=ae (.frz o u)
theorem Rd.ok{P:aE}{w:aB}{H:Hp}{h:Heap}{a:Addr}{u:HO}(r:Rd H a u) (x:HOk P w H h):ObjOk P w H h a u:=by
 rcases r with r |⟨o,r⟩
 ·exact x a u r
 ·obtain⟨_,q⟩:=x a _ r;exact q
noncomputable def Mut:Option HO→Prop
 |some (.lst _)=>True
 |some (.dK _)=>True
 |some (.dT _)=>True
 |some (.set _ _)=>True
 |some (.ins _ _ _)=>True
 |some (.ext _)=>True
 |_=>False
section
variable {P:aE}{w:aB}{H:Hp}{h h':Heap}{x e:Addr}{o':HO}
theorem HOk.write (ok:HOk P w H h) (mu:Mut (H x)) (he:e=x∨H e=ae (.own x)) (k:∀b u,b≠e→h.get? b=ae u→h'.get? b=ae u) (heo:∃u,h'.get? e=ae u)
  (new:ObjOk P w (upd H x o') h' x o'):HOk P w (upd H x o') h':=λb u q=>by
 have nown:∀c y,H c=ae (.own y)→c≠x:=λc y r z=>by subst z;rw[r]at mu;exact mu
 have ntup:∀c xs,H c=ae (.tup xs)→c≠x:=λc xs r z=>by subst z;rw[r]at mu;exact mu
 by_cases hb:b=x
 ·subst hb;rw[zay]at q;cases q;exact new
 ·rw[zaz hb]at q;by_cases hbe:b=e
  ·have q':H b=ae (.own x):=by
    rcases he with z |z
    ·exact absurd (hbe.trans z) hb
    ·rw[hbe];exact z
   rw[q]at q';cases q';obtain⟨v,hv⟩:=heo;exact⟨v,by rw[hbe];exact hv⟩
  ·refine(ok b u q).stay (λc v hc r=>k c v ?_ r) (λc r=>by rw[zaz (nown c b r)];exact r) λc xs r=>by rw[zaz (ntup c xs r)];exact r
   rcases hc with rfl |hc
   ·exact hbe
   ·rintro rfl;rcases he with z |z
    ·exact nown c b hc z
    ·rw[hc]at z;cases z;exact hb rfl
end
structure Un (fs ex:List Addr) (H H':Hp) (h h':Heap):Prop where
  keep:∀b o,h.get? b=ae o→H b=none→b∉fs→b∉ex→h'.get? b=ae o
  slot:∀b o,h.get? b=ae o→H b=none→b∈fs→b∉ex→ ∃sl,h'.get? b=ae { o with slots:=sl }
  free:∀b o,h.get? b=ae o→H b=none→b∉ex→H' b=none
  there:∀b o,h.get? b=ae o→b∉ex→ ∃o',h'.get? b=ae o'
  tups:∀b xs,H b=ae (.tup xs)→H' b=ae (.tup xs)
  frzs:∀b o u,H b=ae (.frz o u)→H' b=ae (.frz o u)
  tbls:∀b ps,H b=ae (.tbl ps)→ ∃more,H' b=ae (.tbl (ps++more))
section
variable {fs ex:List Addr}{H H1 H2:Hp}{h h1 h2 h':Heap}{a x e:Addr}{o:HO}
theorem Un.any (u:Un fs ex H H1 h h1) {b:Addr}{ob:Obj}(q:h.get? b=ae ob) (n:H b=none) (hx:b∉ex):∃sl,h1.get? b=ae { ob with slots:=sl }:=by
 by_cases hb:b∈fs
 ·exact u.slot b ob q n hb hx
 ·exact⟨ob.slots,u.keep b ob q n hb hx⟩
theorem Un.trans (a:Un fs ex H H1 h h1) (b:Un fs ex H1 H2 h1 h2):Un fs ex H H2 h h2 where
  keep:=λc ob q n hc hx=>b.keep c ob (a.keep c ob q n hc hx) (a.free c ob q n hx) hc hx
  slot:=λc ob q n hc hx=>by
    obtain⟨sl,e1⟩:=a.slot c ob q n hc hx;obtain⟨sl',e2⟩:=b.slot c _ e1 (a.free c ob q n hx) hc hx;exact⟨sl',e2⟩
  free:=λc ob q n hx=>by
    obtain⟨o',e1⟩:=a.there c ob q hx;exact b.free c o' e1 (a.free c ob q n hx) hx
  there:=λc ob q hx=>by
    obtain⟨o',e1⟩:=a.there c ob q hx;exact b.there c o' e1 hx
  tups:=λc xs q=>b.tups c xs (a.tups c xs q)
  frzs:=λc ob xs q=>b.frzs c ob xs (a.frzs c ob xs q)
  tbls:=λc ps q=>by
    obtain⟨m1,e1⟩:=a.tbls c ps q;obtain⟨m2,e2⟩:=b.tbls c _ e1;exact⟨m1++m2,by rw[e2,jI]⟩
theorem Un.kept (k:∀b u,h.get? b=ae u→h'.get? b=ae u):Un fs ex H H h h':=
 ⟨λb ob q _ _ _=>k b ob q,λb ob q _ _ _=>⟨ob.slots,k b ob q⟩,λ_ _ _ n _=>n,λb ob q _=>⟨ob,k b ob q⟩,λ_ _ q=>q,λ_ _ _ q=>q,λ_ ps q=>⟨#[],by rw[q];simp⟩⟩
theorem Un.refl:Un fs ex H H h h:=Un.kept λ_ _ q=>q
theorem Un.laid (k:∀b u,h.get? b=ae u→h'.get? b=ae u) (hp:h.objs.size≤a) (hn:H a=none):Un fs ex H (upd H a o) h h' where
  keep:=λb u q _ _ _=>k b u q
  slot:=λb u q _ _ _=>⟨u.slots,k b u q⟩
  free:=λb u q n _=>by rw[zaz (bz (bH (aJ q) hp))];exact n
  there:=λb u q _=>⟨u,k b u q⟩
  tups:=λb xs q=>by rw[zaz (zau q hn)];exact q
  frzs:=λb u xs q=>by rw[zaz (zau q hn)];exact q
  tbls:=λb ps q=>⟨#[],by rw[zaz (zau q hn),q];simp⟩
theorem Un.write (mu:Mut (H x)) (he:e=x∨H e=ae (.own x)) (k:∀b u,b≠e→h.get? b=ae u→h'.get? b=ae u) (heo:∃u,h'.get? e=ae u):Un fs ex H (upd H x o) h h':=by
 have hx:∀b,H b=none→b≠x:=λb n z=>by subst z;rw[n]at mu;exact mu
 have hb:∀b,H b=none→b≠e:=λb n z=>by
  subst z;rcases he with r |r
  ·exact hx b n r
  ·rw[n]at r;cases r
 have hm:∀b u,H b=ae u→ ¬Mut (ae u)→b≠x:=λb u q nm z=>by subst z;rw[q]at mu;exact nm mu
 refine⟨λb u q n _ _=>k b u (hb b n) q,λb u q n _ _=>⟨u.slots,k b u (hb b n) q⟩,λb u q n _=>by rw[zaz (hx b n)];exact n,λb u q _=>?_,
  λb xs q=>by rw[zaz (hm b _ q λz=>z)];exact q,λb u xs q=>by rw[zaz (hm b _ q λz=>z)];exact q,λb ps q=>⟨#[],by rw[zaz (hm b _ q λz=>z),q];simp⟩⟩
 by_cases hbe:b=e
 ·subst hbe;exact heo
 ·exact⟨u,k b u hbe q⟩
end
noncomputable def trk (h:Heap) (H:Hp):List Addr:=(aU h.objs.size).filter λa=>(H a).isSome
noncomputable def zrP (h:Heap) (H:Hp):Heap:=eG h (trk h H)
theorem zpv (h:Heap) (H:Hp):(zrP h H).objs.size=h.objs.size:=PySem.W.hideAll_size _ _
theorem zrI{h:Heap}{H:Hp}{b:Addr}{o:Obj}(e:h.get? b=ae o) (n:H b=none):(zrP h H).get? b=ae o:=
 gB _ e λhm=>by
  have q:(H b).isSome=true:=(gF.mp hm).2;rw[n]at q;simp at q
theorem zvi{h:Heap}{H:Hp}{b:Addr}{o:Obj}(e:(zrP h H).get? b=ae o):h.get? b=ae o∧H b=none:=by
 have e':h.get? b=ae o:=gO (trk h H) e;refine⟨e',?_⟩;cases q:H b with
 |none=>rfl
 |some x=>
  have hm:b∈trk h H:=gF.mpr ⟨eK.mpr (aJ e'),by simp [q]⟩
  have z:(zrP h H).get? b=none:=fE (trk h H) hm;rw[z]at e;cases e
noncomputable def zvb (g h:Heap) (L:Addr):List (Addr×Obj):=(aU h.objs.size).filterMap λa=>if a=L∨(g.get? a).isSome=true then none else(h.get? a).map λo=>(a,o)
noncomputable def rest (g h:Heap) (L d:Addr):List (Addr×Obj):=(zvb g h L).filter λp=>decide (p.1≠d)
structure Mod (K:aj) (mg:Str→Option Value) (base:Heap):Prop where
  kin:K.In base
  glob:base.Ns aL mg
  blt:∃mb,base.Ns gr mb∧ ∀x:Str,x≠ "__name__" →mb x=bQ x
  nolimit:base.NoLimit
structure Cx where
  prog:aE
  w:aB
  K:aj
  mg:Str→Option Value
  base:Heap
  A:aM
  N:List Str
  s₀:ah
  H₀:Hp
  env:bv
  outer:List bv
  stack:List bv
  ex:List Addr
  fn:Str→Bool
  calm:Bool
  pn:List (Addr×Obj)
  xe:Value→ah→Prop
noncomputable def frs (l:List bv):List Addr:=l.filterMap (·.frame)
noncomputable abbrev Cx.fs (X:Cx):List Addr:=frs X.outer
def Vis (sc:Scope) (x:Str):Prop:=sc.names.lookup x=ae .local∨sc.names.lookup x=ae .cell∨sc.names.lookup x=ae .free
def Loc (sc:Scope) (x:Str):Prop:=sc.names.lookup x=ae .local∨sc.names.lookup x=ae .cell
def zAs (env:bv) (h:Heap) (m:Str→Option Value) (x:Str) (u:Value):Prop:=
 (env.kindOf x=ae .local∧m x=ae u)∨((env.kindOf x=ae .cell∨env.kindOf x=ae .free)∧ ∃c,env.cells.lookup x=ae c∧h.IsCell c (ae u))
structure Cx.Ok (X:Cx):Prop where
  mod:Mod X.K X.mg X.base
  kind:X.env.scope.kind= .function
  glob:X.env.globals=aL
  blt:X.env.builtins=gr
  above:X.s₀.heap.objs.size≤X.env.locals
  inj:∀x y c,X.env.cells.lookup x=ae c→X.env.cells.lookup y=ae c→x=y
  has:∀x,(X.env.kindOf x=ae .cell∨X.env.kindOf x=ae .free)→ ∃c,X.env.cells.lookup x=ae c
  cab:∀x c,X.fn x=true→X.env.cells.lookup x=ae c→X.s₀.heap.objs.size≤c
  hd:X.calm=true→X.A.handled=none
  frames:X.A.frames=ae X.stack
  stk:X.stack=X.outer∨(X.stack=X.env::X.outer∧X.env.frame=ae X.env.locals)
  exf:∀b∈X.ex,b≠X.env.locals∧ ∀x c,X.env.cells.lookup x=ae c→c≠b
  bs:∀b o,X.base.get? b=ae o→X.s₀.heap.get? b=ae o∧X.H₀ b=none
  bsz:X.base.objs.size≤X.s₀.heap.objs.size
  noex:∀b o,X.base.get? b=ae o→b∉X.ex
  exfs:∀b∈X.ex,b∉X.fs
  funs:X.s₀.heap.FunFrames X.base X.outer
  frf:∀b∈X.fs,X.H₀ b=none
structure Inv (X:Cx) (pins:List (Addr×Obj)) (σ:List (Option V)) (H:Hp) (s:ah):Prop where
  ok:X.Ok
  os:s.os=X.s₀.os
  bare:b5 s.gens
  base:Un X.fs X.ex X.H₀ H X.s₀.heap s.heap
  loc:∃m,s.heap.Ns X.env.locals m∧ ∀(i:Nat) (x:Str) (v:V),X.N[i]? =ae x→σ[i]? =ae (ae v)→Vis X.env.scope x→ ∃u,RelV v u∧zAs X.env s.heap m x u
  cell:∀x c,X.env.cells.lookup x=ae c→ ∃v,s.heap.IsCell c v
  free:H X.env.locals=none
  freeC:∀x c,X.env.cells.lookup x=ae c→H c=none
  pin:∀p∈X.pn++pins,s.heap.get? p.1=ae p.2∧H p.1=none∧p.1≠X.env.locals∧p.1∉X.fs∧ ∀v,p.2.data≠ .cell v
  hok:HOk X.prog X.w H s.heap
  len:σ.length=X.N.length
section
variable {X:Cx}{pins:List (Addr×Obj)}{σ:List (Option V)}{H H':Hp}{s:ah}{h':Heap}
theorem Cx.Ok.nofr (ok:X.Ok) {b:Addr}{o:Obj}(e:X.base.get? b=ae o):b∉X.fs:=λhb=>by
 have:=(ok.funs.mem hb).1;rw[e]at this;cases this
theorem Inv.bs (I:Inv X pins σ H s):∀b o,X.base.get? b=ae o→s.heap.get? b=ae o∧H b=none:=λb o e=>
 ⟨I.base.keep b o (I.ok.bs b o e).1 (I.ok.bs b o e).2 (I.ok.nofr e) (I.ok.noex b o e),I.base.free b o (I.ok.bs b o e).1 (I.ok.bs b o e).2 (I.ok.noex b o e)⟩
theorem Inv.bk (I:Inv X pins σ H s):∀b o,X.base.get? b=ae o→s.heap.get? b=ae o:=λb o e=>(I.bs b o e).1
theorem Inv.mod (I:Inv X pins σ H s):Mod X.K X.mg X.base:=I.ok.mod
theorem Inv.kIn (I:Inv X pins σ H s):X.K.In s.heap:=I.ok.mod.kin.keeps I.bk
theorem Inv.lt (I:Inv X pins σ H s):X.env.locals<s.heap.objs.size:=let ⟨_,hn,_⟩:=I.loc;hn.lt
theorem Inv.sz (I:Inv X pins σ H s):X.s₀.heap.objs.size≤s.heap.objs.size:=aX I.ok.above (gT I.lt)
theorem Inv.nofs (I:Inv X pins σ H s) {a:Addr}(h:s.heap.objs.size≤a):a∉X.fs:=λhb=>by
 obtain⟨_,o,ho,_⟩:=I.ok.funs.mem hb;exact absurd (bH (aJ ho) (aX I.sz h)) (cM _)
theorem Inv.cne (I:Inv X pins σ H s):∀x c,X.env.cells.lookup x=ae c→c≠X.env.locals:=λx c e z=>by
 obtain⟨v,o,ho,hd⟩:=I.cell x c e;obtain⟨m,⟨o',es,ep,ho',hd',_⟩,_⟩:=I.loc;rw[z,ho']at ho;cases ho;rw[hd']at hd;cases hd
theorem Inv.funs (I:Inv X pins σ H s):s.heap.FunFrames X.base X.outer:=by
 have all:∀(l:List bv),(∀b∈frs l,b∈X.fs)→X.s₀.heap.FunFrames X.base l→s.heap.FunFrames X.base l:=by
  intro l
  induction l with
  |nil=>intro _ _;trivial
  |cons env r ih=>
   intro hs hl;obtain⟨hk,⟨L,o,hf,hn,ho,hd⟩,hr⟩:=hl;have hL:L∈X.fs:=hs L (by unfold frs;rw[fG,hf];exact a0);obtain⟨sl,e⟩:=I.base.slot L o ho (I.ok.frf L hL) hL λz=>I.ok.exfs L z hL;exact⟨hk,⟨L,_,hf,hn,e,hd⟩,ih (λb hb=>hs b (by unfold frs;rw[fG,hf];exact aK _ hb)) hr⟩
 exact all X.outer (λ_ hb=>hb) I.ok.funs
theorem Inv.stack (I:Inv X pins σ H s):s.heap.FunFrames X.base X.stack:=by
 rcases I.ok.stk with e |⟨e,hf⟩
 ·rw[e];exact I.funs
 ·rw[e];obtain⟨m,hn,_⟩:=I.loc;refine .cons (by rw[I.ok.kind];decide) hf hn ?_ I.funs;exact Heap.get?_none_of_le (aX I.ok.bsz I.ok.above)
theorem Inv.stkSub (I:Inv X pins σ H s):∀b∈frs X.stack,b∈X.env.locals::X.fs:=λb hb=>by
 rcases I.ok.stk with e |⟨e,hf⟩
 ·rw[e]at hb;exact aK _ hb
 ·rw[e]at hb;unfold frs at hb;rw[fG,hf]at hb;exact hb
theorem Inv.stkFree (I:Inv X pins σ H s):∀b∈frs X.stack,H b=none:=λb hb=>by
 rcases az.mp (I.stkSub b hb) with e |hb
 ·rw[e];exact I.free
 ·obtain⟨_,o,ho,_⟩:=I.ok.funs.mem hb;exact I.base.free b o ho (I.ok.frf b hb) λz=>I.ok.exfs b z hb
theorem Inv.step{g':Array GenState}{t':Nat}{d':Drawn}{ch:List Addr}(I:Inv X pins σ H s)
  (hch:∀b∈ch,(b∈X.ex∨X.s₀.heap.objs.size≤b)∧b≠X.env.locals∧(∀x c,X.env.cells.lookup x=ae c→c≠b)∧ ∀p∈X.pn++pins,p.1≠b)
  (keep:∀b o,b≠X.env.locals→b∉X.fs→b∉ch→s.heap.get? b=ae o→H b=none→h'.get? b=ae o)
  (slot:∀b o,b≠X.env.locals→b∈X.fs→b∉ch→s.heap.get? b=ae o→H b=none→ ∃sl,h'.get? b=ae { o with slots:=sl }) (free:∀b o,b∉ch→s.heap.get? b=ae o→H b=none→H' b=none)
  (there:∀b o,b∉ch→s.heap.get? b=ae o→ ∃o',h'.get? b=ae o')
  (tups:∀b xs,H b=ae (.tup xs)→H' b=ae (.tup xs)) (frzs:∀b o u,H b=ae (.frz o u)→H' b=ae (.frz o u)) (tbls:∀b ps,H b=ae (.tbl ps)→ ∃more,H' b=ae (.tbl (ps++more)))
  (ns:∀m,s.heap.Ns X.env.locals m→h'.Ns X.env.locals m) (hok:HOk X.prog X.w H' h') (hg:b5 g') :
  Inv X pins σ H' { s with heap:=h',gens:=g',drawn:=d',toks:=t' }:=by
 have neL:∀b o,X.s₀.heap.get? b=ae o→b≠X.env.locals:=λb o e=>bz (bH (aJ e) I.ok.above);have neC:∀b o,X.s₀.heap.get? b=ae o→b∉X.ex→b∉ch:=λb o e hx hb=>by
  rcases(hch b hb).1 with z |z
  ·exact hx z
  ·exact absurd (bH (aJ e) z) (cM _)
 have cellK:∀x c,X.env.cells.lookup x=ae c→ ∀v,s.heap.IsCell c v→h'.IsCell c v:=λx c e v ⟨o,ho,hd⟩=>by
  have nch:c∉ch:=λz=>(hch c z).2.2.1 x c e rfl;by_cases hc:c∈X.fs
  ·obtain⟨sl,q⟩:=slot c o (I.cne x c e) hc nch ho (I.freeC x c e);exact⟨_,q,hd⟩
  ·exact⟨o,keep c o (I.cne x c e) hc nch ho (I.freeC x c e),hd⟩
 refine⟨I.ok,I.os,hg,⟨λb o e n hb hx=>?_,λb o e n hb hx=>?_,λb o e n hx=>?_,λb o e hx=>?_,λb xs e=>tups b xs (I.base.tups b xs e),λb o xs e=>frzs b o xs (I.base.frzs b o xs e),λb ps e=>?_⟩,?_,λx c e=>?_,?_,λx c e=>?_,λp hp=>?_,hok,I.len⟩
 ·exact keep b o (neL b o e) hb (neC b o e hx) (I.base.keep b o e n hb hx) (I.base.free b o e n hx)
 ·obtain⟨sl,e1⟩:=I.base.slot b o e n hb hx;obtain⟨sl',e2⟩:=slot b _ (neL b o e) hb (neC b o e hx) e1 (I.base.free b o e n hx);exact⟨sl',e2⟩
 ·obtain⟨o',e1⟩:=I.base.there b o e hx;exact free b o' (neC b o e hx) e1 (I.base.free b o e n hx)
 ·obtain⟨o',e1⟩:=I.base.there b o e hx;exact there b o' (neC b o e hx) e1
 ·obtain⟨m1,e1⟩:=I.base.tbls b ps e;obtain⟨m2,e2⟩:=tbls b _ e1;exact⟨m1++m2,by rw[e2,jI]⟩
 ·obtain⟨m,hn,hl⟩:=I.loc;refine⟨m,ns m hn,λi x v e1 e2 e3=>?_⟩;obtain⟨u,r,l⟩:=hl i x v e1 e2 e3;refine⟨u,r,?_⟩;rcases l with l |⟨k,c,e,z⟩
  ·exact .inl l
  ·exact .inr ⟨k,c,e,cellK x c e _ z⟩
 ·obtain⟨v,z⟩:=I.cell x c e;exact⟨v,cellK x c e v z⟩
 ·obtain⟨m,⟨o,_,_,ho,_⟩,_⟩:=I.loc;exact free _ o (λz=>(hch _ z).2.1 rfl) ho I.free
 ·obtain⟨v,o,ho,hd⟩:=I.cell x c e;exact free c o (λz=>(hch c z).2.2.1 x c e rfl) ho (I.freeC x c e)
 ·obtain⟨e,n,ne,nf,d⟩:=I.pin p hp;have nch:p.1∉ch:=λz=>(hch p.1 z).2.2.2 p hp rfl;exact⟨keep p.1 p.2 ne nf nch e n,free p.1 p.2 nch e n,ne,nf,d⟩
theorem Inv.un{t':Nat}(I:Inv X pins σ H s) (u:Un X.fs [] H H' s.heap h') (hok:HOk X.prog X.w H' h'):Inv X pins σ H' { s with heap:=h',toks:=t' }:=by
 obtain⟨m,⟨o,es,ep,ho,r⟩,_⟩:=id I.loc;obtain⟨sl,hL⟩:=u.any ho I.free (by simp);exact I.step (g':=s.gens) (d':=s.drawn) (ch:=[]) (λ_ z=>nomatch z) (λb o _ hb _ e n=>u.keep b o e n hb (by simp)) (λb o _ hb _ e n=>u.slot b o e n hb (by simp)) (λb o _ e n=>u.free b o e n (by simp)) (λb o _ e=>u.there b o e (by simp)) u.tups u.frzs u.tbls (λm' hm=>by
  obtain⟨o',es',ep',ho',r'⟩:=hm;rw[ho]at ho';cases ho';exact⟨_,es',ep',hL,r'⟩) hok I.bare
theorem Inv.call{g':Array GenState}{t':Nat}{d':Drawn}{ch:List Addr}(I:Inv X pins σ H s) (u:Un (frs X.stack) ch H H' s.heap h') (hok:HOk X.prog X.w H' h') (hg:b5 g')
  (hch:∀b∈ch,(b∈X.ex∨X.s₀.heap.objs.size≤b)∧b≠X.env.locals∧(∀x c,X.env.cells.lookup x=ae c→c≠b)∧ ∀p∈X.pn++pins,p.1≠b) :
  Inv X pins σ H' { s with heap:=h',gens:=g',drawn:=d',toks:=t' }:=by
 obtain⟨m,⟨o,es,ep,ho,r⟩,_⟩:=id I.loc;obtain⟨sl,hL⟩:=u.any ho I.free λz=>(hch _ z).2.1 rfl;exact I.step (ch:=ch) hch (λb o hL hb hc e n=>u.keep b o e n (λz=>(az.mp (I.stkSub b z)).elim hL hb) hc) (λb o _ _ hc e n=>u.any e n hc) (λb o hc e n=>u.free b o e n hc) (λb o hc e=>u.there b o e hc) u.tups u.frzs u.tbls (λm' hm=>by
  obtain⟨o',es',ep',ho',r'⟩:=hm;rw[ho]at ho';cases ho';exact⟨_,es',ep',hL,r'⟩) hok hg
theorem Inv.turned{t':Nat}{it:Addr}(I:Inv X pins σ H s) (k:∀b o,b≠it→s.heap.get? b=ae o→h'.get? b=ae o) (hn:H it=none) (hL:it≠X.env.locals)
  (h1:it∈X.ex∨X.s₀.heap.objs.size≤it) (h2:∀x c,X.env.cells.lookup x=ae c→c≠it) (h3:∀p∈X.pn++pins,p.1≠it):Inv X pins σ H { s with heap:=h',toks:=t' }:=by
 have nit:∀b u,H b=ae u→b≠it:=λb u e z=>by rw[z,hn]at e;cases e
 refine I.step (g':=s.gens) (d':=s.drawn) (ch:=[it]) (λb hb=>?_) (λb o _ _ hc e _=>k b o (λz=>hc (by simp [z])) e) (λb o _ _ hc e _=>⟨o.slots,k b o (λz=>hc (by simp [z])) e⟩) (λ_ _ _ _ n=>n)
  (λb o hc e=>⟨o,k b o (λz=>hc (by simp [z])) e⟩) (λ_ _ e=>e) (λ_ _ _ e=>e) (λb ps e=>⟨#[],by rw[e];simp⟩) (λm hm=>?_) (λb u e=>?_) I.bare
 ·have e:b=it:=by simpa using hb
  subst e;exact⟨h1,hL,h2,h3⟩
 ·obtain⟨o,es,ep,ho,r⟩:=hm;exact⟨o,es,ep,k _ o (bn hL) ho,r⟩
 ·refine(I.hok b u e).stay (λc v hc q=>k c v ?_ q) (λ_ q=>q) λ_ _ q=>q;rcases hc with z |z
  ·rw[z];exact nit b u e
  ·exact nit c _ z
theorem Inv.tok (I:Inv X pins σ H s) (t:Nat):Inv X pins σ H { s with toks:=t }:=I.un (h':=s.heap) (t':=t) Un.refl I.hok
theorem Inv.kept{t':Nat}(I:Inv X pins σ H s) (k:∀b u,s.heap.get? b=ae u→h'.get? b=ae u):Inv X pins σ H { s with heap:=h',toks:=t' }:=I.un (Un.kept k) (I.hok.kept k)
theorem Inv.laid{a:Addr}{o:HO}{t':Nat}(I:Inv X pins σ H s) (k:∀b u,s.heap.get? b=ae u→h'.get? b=ae u) (hp:s.heap.objs.size≤a) (new:ObjOk X.prog X.w (upd H a o) h' a o) :
  Inv X pins σ (upd H a o) { s with heap:=h',toks:=t' }:=I.un (Un.laid k hp (I.hok.fresh hp)) (I.hok.laid k hp new)
theorem Inv.write{x e:Addr}{o:HO}{t':Nat}(I:Inv X pins σ H s) (mu:Mut (H x)) (he:e=x∨H e=ae (.own x)) (k:∀b u,b≠e→s.heap.get? b=ae u→h'.get? b=ae u) (heo:∃u,h'.get? e=ae u)
  (new:ObjOk X.prog X.w (upd H x o) h' x o):Inv X pins σ (upd H x o) { s with heap:=h',toks:=t' }:=I.un (Un.write mu he k heo) (I.hok.write mu he k heo new)
theorem Inv.pins_of{pins':List (Addr×Obj)}(I:Inv X pins σ H s) (h:∀p∈pins',s.heap.get? p.1=ae p.2∧H p.1=none∧p.1≠X.env.locals∧p.1∉X.fs∧ ∀v,p.2.data≠ .cell v):Inv X pins' σ H s:=
 ⟨I.ok,I.os,I.bare,I.base,I.loc,I.cell,I.free,I.freeC,λp hp=>(bq.mp hp).elim (λz=>I.pin p (jU _ z)) (h p),I.hok,I.len⟩
theorem zlW{N:List Str}(hN:N.Nodup) {i j:Nat}{x:Str}(a:N[i]? =ae x) (b:N[j]? =ae x):i=j:=by
 obtain⟨h1,e1⟩:=cj.mp a;obtain⟨h2,e2⟩:=cj.mp b;exact(List.getElem_inj hN).mp (e1.trans e2.symm)
theorem zjv{M:Model}{A:aM}{E:Value→ah→Prop}{i:Nat}{x:Str}{v:V}{u:Value}{Q:Unit→ah→Prop}(I:Inv X pins σ H s) (hN:X.N.Nodup) (hi:X.N[i]? =ae x) (hx:Loc X.env.scope x) (r:RelV v u)
  (h:∀s',Inv X pins (σ.set i (ae v)) H s'→(∃a,b6 a s.heap s'.heap∧(a=X.env.locals∨X.env.cells.lookup x=ae a))→Q () s') (hf:X.fn x=true∨X.env.scope.names.lookup x=ae .local:=by first |exact .inl rfl |exact .inr rfl |assumption):am M A (gJ X.env x u) Q E s:=by
 obtain⟨m,hn,hl⟩:=id I.loc;have hcls:(X.env.scope.kind == .class || (X.env.scope.kind == .module&&X.env.locals != X.env.globals))=false:=by rw[I.ok.kind];rfl
 have hiσ:i<σ.length:=by rw[I.len];exact(cj.mp hi).1
 have cne:=I.cne;have tracked:∀{a:Addr}{h':Heap},(∃o,s.heap.get? a=ae o∧H a=none)→b6 a s.heap h'→HOk X.prog X.w H h':=λ{a h'} ha hs b ob e=>by
  obtain⟨_,_,hfree⟩:=ha;refine(I.hok b ob e).stay (λc w' hc q=>(hs.2 c ?_).trans q) (λ_ q=>q) λ_ _ q=>q;rintro rfl;rcases hc with rfl |hc
  ·rw[hfree]at e;cases e
  ·rw[hfree]at hc;cases hc
 rcases hx with hk |hk
 ·refine wpAny_storeName_local hk hn (λh' hn' hs=>?_) hcls;obtain⟨oL,_,_,hoL,_⟩:=id hn;refine h _ ⟨I.ok,I.os,I.bare,⟨λb o e n hb hx=>?_,λb o e n hb hx=>?_,I.base.free,λb o e hx=>?_,I.base.tups,I.base.frzs,I.base.tbls⟩,⟨_,hn',λj y v' e1 e2 e3=>?_⟩,λy c e=>?_,I.free,I.freeC,λp hp=>?_,tracked ⟨oL,hoL,I.free⟩ hs,by simpa using I.len⟩ ⟨_,hs, .inl rfl⟩
  ·exact(hs.2 b (bz (bH (aJ e) I.ok.above))).trans (I.base.keep b o e n hb hx)
  ·obtain⟨sl,e1⟩:=I.base.slot b o e n hb hx;exact⟨sl,(hs.2 b (bz (bH (aJ e) I.ok.above))).trans e1⟩
  ·obtain⟨o',e1⟩:=I.base.there b o e hx;exact⟨o',(hs.2 b (bz (bH (aJ e) I.ok.above))).trans e1⟩
  ·by_cases hj:j=i
   ·subst hj;rw[hi]at e1;cases e1;rw[jf hiσ]at e2;cases e2;exact⟨u,r, .inl ⟨hk,by simp⟩⟩
   ·rw[j' (bn hj)]at e2;obtain⟨u',r',q⟩:=hl j y v' e1 e2 e3;refine⟨u',r',?_⟩;rcases q with⟨k,e⟩ |⟨k,c,e,z⟩
    ·refine .inl ⟨k,?_⟩;have:y≠x:=λe=>hj (zlW hN e1 (e▸hi));simp [this,e]
    ·exact .inr ⟨k,c,e,z.sameBut hs (cne y c e)⟩
  ·obtain⟨w',z⟩:=I.cell y c e;exact⟨w',z.sameBut hs (cne y c e)⟩
  ·obtain⟨e,n,ne,nf,d⟩:=I.pin p hp;exact⟨(hs.2 p.1 ne).trans e,n,ne,nf,d⟩
 ·have hfn:X.fn x=true:=by
   rcases hf with z |z
   ·exact z
   ·rw[z]at hk;cases hk
  obtain⟨c,hc⟩:=I.ok.has x (.inl hk);obtain⟨w',z⟩:=I.cell x c hc;refine wpAny_storeName_cell I.ok.kind hk hc z (λh' hc' hs=>?_);obtain⟨oc,hoc,hocd⟩:=id z;refine h { s with heap:=h' } ⟨I.ok,I.os,I.bare,⟨λb o e n hb hx=>?_,λb o e n hb hx=>?_,I.base.free,λb o e hx=>?_,I.base.tups,I.base.frzs,I.base.tbls⟩,⟨m,hn.sameBut hs (bn (cne x c hc)),λj y v' e1 e2 e3=>?_⟩,λy c' e=>?_,I.free,I.freeC,λp hp=>?_,tracked ⟨oc,hoc,I.freeC x c hc⟩ hs,by simpa using I.len⟩ ⟨c,hs, .inr hc⟩
  ·exact(hs.2 b (bz (bH (aJ e) (I.ok.cab x c hfn hc)))).trans (I.base.keep b o e n hb hx)
  ·obtain⟨sl,e1⟩:=I.base.slot b o e n hb hx;exact⟨sl,(hs.2 b (bz (bH (aJ e) (I.ok.cab x c hfn hc)))).trans e1⟩
  ·obtain⟨o',e1⟩:=I.base.there b o e hx;exact⟨o',(hs.2 b (bz (bH (aJ e) (I.ok.cab x c hfn hc)))).trans e1⟩
  ·by_cases hj:j=i
   ·subst hj;rw[hi]at e1;cases e1;rw[jf hiσ]at e2;cases e2;exact⟨u,r, .inr ⟨.inl hk,c,hc,hc'⟩⟩
   ·rw[j' (bn hj)]at e2;obtain⟨u',r',q⟩:=hl j y v' e1 e2 e3;refine⟨u',r',?_⟩;rcases q with q |⟨k,c',e,z'⟩
    ·exact .inl q
    ·refine .inr ⟨k,c',e,z'.sameBut hs ?_⟩;rintro rfl;exact hj (zlW hN e1 (I.ok.inj _ _ _ e hc▸hi))
  ·by_cases hcc:c'=c
   ·subst hcc;exact⟨_,hc'⟩
   ·obtain⟨w2,z2⟩:=I.cell y c' e;exact⟨w2,z2.sameBut hs hcc⟩
  ·obtain⟨e,n,ne,nf,d⟩:=I.pin p hp;refine⟨(hs.2 p.1 ?_).trans e,n,ne,nf,d⟩;intro q;rw[q,hoc]at e;have q':oc=p.2:=aG e;exact d w' (by rw[←q'];exact hocd)
theorem zit{M:Model}{A:aM}{E:Value→ah→Prop}{i:Nat}{x:Str}{v:V}{u:Value}{Q:Unit→ah→Prop}(I:Inv X pins σ H s) (hN:X.N.Nodup) (hi:X.N[i]? =ae x) (hx:Loc X.env.scope x) (r:RelV v u)
  (h:∀s',Inv X pins (σ.set i (ae v)) H s'→Q () s') (hf:X.fn x=true∨X.env.scope.names.lookup x=ae .local:=by first |exact .inl rfl |exact .inr rfl |assumption):am M A (gJ X.env x u) Q E s:=
 zjv I hN hi hx r (λs' I' _=>h s' I') hf
theorem Inv.call'{s':ah}{ch:List Addr}(I:Inv X pins σ H s) (ho:s'.os=s.os) (u:Un (frs X.stack) ch H H' s.heap s'.heap) (hok:HOk X.prog X.w H' s'.heap) (hg:b5 s'.gens)
  (hch:∀b∈ch,(b∈X.ex∨X.s₀.heap.objs.size≤b)∧b≠X.env.locals∧(∀x c,X.env.cells.lookup x=ae c→c≠b)∧ ∀p∈X.pn++pins,p.1≠b):Inv X pins σ H' s':=by
 obtain⟨h',g',d',t',o'⟩:=s';have e:o'=s.os:=ho;subst e;exact I.call (g':=g') (t':=t') (d':=d') u hok hg hch
end
abbrev XK:=Value→Option Addr→Hp→Prop
abbrev St:=List (Option V)
abbrev VK:=V→Hp→Prop
abbrev TE:=St→Hp→VK→Prop
abbrev TT:=St→Hp→(Bool→Hp→Prop)→Prop
abbrev TA:=St→Hp→(List V→Hp→Prop)→Prop
structure Ends where
  nx:St→Hp→Prop
  rt:VK
  bk:St→Hp→Prop:=λ_ _=>False
  ct:St→Hp→Prop:=λ_ _=>False
abbrev TS:=Ends→St→Hp→Prop
def EP (X:Cx) (pins:List (Addr×Obj)) (σ:St) (Q:VK) (u:Value) (s':ah):Prop:=∃v H',Inv X pins σ H' s'∧RelV v u∧Q v H'
def TP (X:Cx) (pins:List (Addr×Obj)) (σ:St) (Q:Bool→Hp→Prop) (b:Bool) (s':ah):Prop:=∃H',Inv X pins σ H' s'∧Q b H'
def AP (X:Cx) (pins:List (Addr×Obj)) (σ:St) (Q:List V→Hp→Prop) (us:List Value) (s':ah):Prop:=∃vs H',Inv X pins σ H' s'∧Vals vs us∧Q vs H'
def SP (X:Cx) (pins:List (Addr×Obj)) (D:Ends) (f:Flow) (s':ah):Prop:=
 match f with
 | .next=>∃σ' H',Inv X pins σ' H' s'∧D.nx σ' H'
 | .brk=>∃σ' H',Inv X pins σ' H' s'∧D.bk σ' H'
 | .cont=>∃σ' H',Inv X pins σ' H' s'∧D.ct σ' H'
 | .ret u=>∃v σ' H',Inv X pins σ' H' s'∧RelV v u∧D.rt v H'
def PE (X:Cx) (e:Expr) (t:TE):Prop:=
 ∀(pins:List (Addr×Obj)) (s:ah) (σ:St) (H:Hp) (Q:VK),Inv X pins σ H s→t σ H Q→am (ap X.prog X.w) X.A (ay e X.env) (EP X pins σ Q) X.xe s
def PT (X:Cx) (e:Expr) (t:TT):Prop:=
 ∀(pins:List (Addr×Obj)) (s:ah) (σ:St) (H:Hp) (Q:Bool→Hp→Prop),Inv X pins σ H s→t σ H Q→am (ap X.prog X.w) X.A (isTrue e X.env (ay e X.env)) (TP X pins σ Q) X.xe s
def PW (X:Cx) (e:Expr) (t:TT):Prop:=
 ∀(whole:bT Value) (pins:List (Addr×Obj)) (s:ah) (σ:St) (H:Hp) (Q:Bool→Hp→Prop),Inv X pins σ H s→t σ H Q→am (ap X.prog X.w) X.A (isTrue e X.env whole) (TP X pins σ Q) X.xe s
theorem PW.pt{X:Cx}{e:Expr}{t:TT}(h:PW X e t):PT X e t:=h _
def PA (X:Cx) (es:List Expr) (t:TA):Prop:=
 ∀(pos:aC) (pins:List (Addr×Obj)) (s:ah) (σ:St) (H:Hp) (Q:List V→Hp→Prop),Inv X pins σ H s→t σ H Q→am (ap X.prog X.w) X.A (spliced (aP pos (ao es X.env))) (AP X pins σ Q) X.xe s
def PS (X:Cx) (st:Stmt) (t:TS):Prop:=
 ∀(pins:List (Addr×Obj)) (s:ah) (σ:St) (H:Hp) (D:Ends),Inv X pins σ H s→t D σ H→am (ap X.prog X.w) X.A (exec st X.env) (SP X pins D) X.xe s
def PSs (X:Cx) (st:List Stmt) (t:TS):Prop:=
 ∀(pins:List (Addr×Obj)) (s:ah) (σ:St) (H:Hp) (D:Ends),Inv X pins σ H s→t D σ H→am (ap X.prog X.w) X.A (execs st X.env) (SP X pins D) X.xe s
theorem thn{α:Type}{t:bT α}{Q Q':α→ah→Prop}{M:Model}{A:aM}{E:Value→ah→Prop}{s:ah}(h:am M A t Q E s) (hQ:∀a s,Q a s→Q' a s):am M A t Q' E s:=cm h hQ λ_ _ x=>x
section
variable {X:Cx}
noncomputable def zAS (i:Nat):TE:=λσ H Q=>∃v,σ[i]? =ae (ae v)∧Q v H
noncomputable def tC (v:V):TE:=λ_ H Q=>Q v H
theorem zxb{i:Nat}{x:Str}{pos:aC}(hN:X.N[i]? =ae x) (hv:Vis X.env.scope x) (hd:(x == ("__debug__" :Str))=false:=by decide) (hcd:(x == ("__classdict__" :Str))=false:=by decide):PE X (.Name x pos) (zAS i):=by
 intro pins s σ H Q I h;obtain⟨v,e,h⟩:=h;obtain⟨m,hn,hl⟩:=I.loc;obtain⟨u,r,l⟩:=hl i x v hN e hv;have fin:EP X pins σ Q u s:=⟨v,H,I,r,h⟩;rcases l with⟨hk,hm⟩ |⟨hk,c,hc,hcell⟩
 ·exact gj (iR I.ok.kind hk hn hm fin) hd
 ·rcases hk with hk |hk
  ·exact gj (kl I.ok.kind hk hc hcell fin) hd
  ·exact gj (wpAny_loadName_free I.ok.kind hk hc hcell fin hcd) hd
theorem zwl{i j pos}:PE X (.Constant (.int i) j pos) (tC (.int i)):=λ_ _ _ H _ I h=>wpAny_Constant_int ⟨.int i,H,I.tok _,⟨_,rfl⟩,h⟩
theorem zyV{b j pos}:PE X (.Constant (.bool b) j pos) (tC (.bl b)):=λ_ _ _ H _ I h=>Constant_bool ⟨.bl b,H,I,rfl,h⟩
theorem zxJ{j pos}:PE X (.Constant .none j pos) (tC .non):=λ_ _ _ H _ I h=>Constant_none ⟨.non,H,I,rfl,h⟩
theorem zxB{x j pos}:PE X (.Constant (.str x) j pos) (tC (.str x)):=λ_ _ _ H _ I h=>Calls.Constant_str ⟨.str x,H,I.tok _,⟨_,rfl⟩,h⟩
def Gl (X:Cx) (x:Str):Prop:=X.env.kindOf x=ae .globalImplicit
theorem zkX{E:Value→ah→Prop}{pins:List (Addr×Obj)}{s:ah}{σ:St}{H:Hp}{x:Str}{u:Value}{pos:aC}{Q:Value→ah→Prop}(I:Inv X pins σ H s) (hg:Gl X x) (hm:X.mg x=ae u) (h:Q u s)
  (hd:(x == ("__debug__" :Str))=false:=by decide):am (ap X.prog X.w) X.A (ay (.Name x pos) X.env) Q E s:=
 iM I.ok.kind hg (Calls.loadGlobal_global (by rw[I.ok.glob];exact I.mod.glob.keeps I.bk) hm h) hd
theorem zik{E:Value→ah→Prop}{pins:List (Addr×Obj)}{s:ah}{σ:St}{H:Hp}{x:Str}{u:Value}{pos:aC}{Q:Value→ah→Prop}(I:Inv X pins σ H s) (hg:Gl X x) (hm:X.mg x=none) (hv:bQ x=ae u) (h:Q u s)
  (hn:x≠ "__name__" :=by decide) (hd:(x == ("__debug__" :Str))=false:=by decide):am (ap X.prog X.w) X.A (ay (.Name x pos) X.env) Q E s:=by
 obtain⟨mb,h1,h2⟩:=I.mod.blt;exact iM I.ok.kind hg (Calls.loadGlobal_builtin (by rw[I.ok.glob];exact I.mod.glob.keeps I.bk) hm (by rw[I.ok.blt];exact h1.keeps I.bk) ((h2 x hn).trans hv) h) hd
theorem zvd{x:Str}{v:V}{u:Value}{pos:aC}(hg:Gl X x) (hm:X.mg x=ae u) (r:RelV v u) (hd:(x == ("__debug__" :Str))=false:=by decide):PE X (.Name x pos) (tC v):=
 λ_ _ _ H _ I h=>zkX I hg hm ⟨v,H,I,r,h⟩ hd
theorem zuK{x:Str}{v:V}{u:Value}{pos:aC}(hg:Gl X x) (hm:X.mg x=none) (hv:bQ x=ae u) (r:RelV v u) (hn:x≠ "__name__" :=by decide) (hd:(x == ("__debug__" :Str))=false:=by decide):PE X (.Name x pos) (tC v):=
 λ_ _ _ H _ I h=>zik I hg hm hv ⟨v,H,I,r,h⟩ hn hd
variable {a b:Expr}{ta tb:TE}{pos:aC}
variable {tA tB':TT}{rest:List Expr}
noncomputable def zAb (t u:TT):TT:=λσ H Q=>t σ H λc H1=>if c=true then u σ H1 Q else Q false H1
noncomputable def tOr (t u:TT):TT:=λσ H Q=>t σ H λc H1=>if c=true then Q true H1 else u σ H1 Q
noncomputable def zAH (t:TT):TT:=λσ H Q=>t σ H λc H1=>Q (!c) H1
theorem zua (ha:PT X a tA):PW X (.BoolOp .And [a] pos) tA:=by
 intro wh pins s σ H Q I h;refine isTrue_and (thn (ha pins s σ H Q I h) λc s1 e=>?_);cases c with
 |true=>exact isTrue_and_nil e
 |false=>exact e
theorem zvT (ha:PT X a tA):PW X (.BoolOp .Or [a] pos) tA:=by
 intro wh pins s σ H Q I h;refine isTrue_or (thn (ha pins s σ H Q I h) λc s1 e=>?_);cases c with
 |false=>exact isTrue_or_nil e
 |true=>exact e
theorem zvG (ha:PT X a tA) (hb:PW X (.BoolOp .And (b::rest) pos) tB'):PW X (.BoolOp .And (a::b::rest) pos) (zAb tA tB'):=by
 intro wh pins s σ H Q I h;refine isTrue_and (thn (ha pins s σ H _ I h) λc s1 ⟨H1,I1,q1⟩=>?_);cases c with
 |true=>exact hb wh pins s1 σ H1 Q I1 q1
 |false=>exact⟨H1,I1,q1⟩
theorem zyl (ha:PT X a tA) (hb:PW X (.BoolOp .Or (b::rest) pos) tB'):PW X (.BoolOp .Or (a::b::rest) pos) (tOr tA tB'):=by
 intro wh pins s σ H Q I h;refine isTrue_or (thn (ha pins s σ H _ I h) λc s1 ⟨H1,I1,q1⟩=>?_);cases c with
 |true=>exact⟨H1,I1,q1⟩
 |false=>exact hb wh pins s1 σ H1 Q I1 q1
theorem zxV (ha:PT X a tA):PT X (.UnaryOp .Not a pos) (zAH tA):=by
 intro pins s σ H Q I h;exact isTrue_not (ha pins s σ H (λc H1=>Q (!c) H1) I h)
noncomputable def zyT (ta tb:TE):TE:=λσ H Q=>ta σ H λx H1=>∃c,x= .bl c∧if c=true then tb σ H1 Q else Q (.bl false) H1
theorem zwO{op}{t:TE}(h:PE X a t):PE X (.BoolOp op [a] pos) t:=λpins s σ H Q I hw=>BoolOp_one (h pins s σ H Q I hw)
theorem zvF (ha:PE X a ta) (hb:PE X (.BoolOp .And (b::rest) pos) tb):PE X (.BoolOp .And (a::b::rest) pos) (zyT ta tb):=by
 intro pins s σ H Q I h;refine BoolOp_and (thn (ha pins s σ H _ I h) λv s1 ⟨x,H1,I1,r1,q1⟩=>?_);obtain⟨c,rfl,q1⟩:=q1;cases r1;refine ia ?_;cases c with
 |true=>exact hb pins s1 σ H1 Q I1 q1
 |false=>exact⟨.bl false,H1,I1,rfl,q1⟩
noncomputable def tIf (t:TT) (ta tb:TE):TE:=λσ H Q=>t σ H λc H1=>if c=true then ta σ H1 Q else tb σ H1 Q
theorem zsj{c:Expr}(hc:PT X c tA) (ha:PE X a ta) (hb:PE X b tb):PE X (.IfExp c a b pos) (tIf tA ta tb):=by
 intro pins s σ H Q I h;refine wpAny_IfExp (thn (hc pins s σ H _ I h) λd s1 ⟨H1,I1,q1⟩=>?_);cases d with
 |true=>exact ha pins s1 σ H1 Q I1 q1
 |false=>exact hb pins s1 σ H1 Q I1 q1
end
def SqL (K:aj) (H:Hp) (a:Addr) (xs:List V):Prop:=
 Rd H a (.lst xs)∨
  ∃(o:Obj) (its:Array Value) (n:Nat),K.lookup a=ae o∧o.cls= .type "list" ∧o.dict=none∧o.data= .seq its n∧its.size≤sizeLine∧Vals xs its.toList
def SqT (K:aj) (H:Hp) (a:Addr) (xs:List V):Prop:=
 Rd H a (.tup xs)∨
  ∃(o:Obj) (its:Array Value) (n:Nat),K.lookup a=ae o∧o.cls= .type "tuple" ∧o.data= .seq its n∧its.size≤sizeLine∧Vals xs its.toList
noncomputable def zAt:Value→Option V
 | .none=>ae .non
 | .bool b=>ae (.bl b)
 | .int i _=>ae (.int i)
 | .str x _=>ae (.str x)
 | .bytes b _=>ae (.byt b)
 | .float b _=>ae (.flt b)
 | .ref a=>ae (.ref a)
 | .type n=>ae (.ty n)
 |_=>none
theorem RelV.abs{x:V}{u:Value}(r:RelV x u):zAt u=ae x:=by
 cases x with
 |non=>cases r;rfl
 |bl _=>cases r;rfl
 |int _=>obtain⟨t,rfl⟩:=r;rfl
 |str _=>obtain⟨t,rfl⟩:=r;rfl
 |byt _=>obtain⟨t,rfl⟩:=r;rfl
 |flt _=>obtain⟨t,rfl⟩:=r;rfl
 |ref _=>cases r;rfl
 |ty _=>cases r;rfl
theorem RelV.inj{x y:V}{u:Value}(r:RelV x u) (q:RelV y u):x=y:=aG (r.abs.symm.trans q.abs)
theorem Vals.inj:∀{xs ys:List V}{us:List Value},Vals xs us→Vals ys us→xs=ys
 |_,_,_, .nil, .nil=>rfl
 |_,_,_, .cons r t, .cons r' t'=>by rw[r.inj r',Vals.inj t t']
section
variable {X:Cx}{pins:List (Addr×Obj)}{σ:St}{H:Hp}{s:ah}{a:Addr}{xs ys:List V}
theorem SqL.of{K:aj}(h:H a=ae (.lst xs)):SqL K H a xs:= .inl (.inl h)
theorem SqT.of{K:aj}(h:H a=ae (.tup xs)):SqT K H a xs:= .inl (.inl h)
theorem Inv.list (I:Inv X pins σ H s) (h:SqL X.K H a xs):∃its:List Value,Vals xs its∧PlainL s.heap a its.toArray∧xs.length≤sizeLine:=by
 rcases h with h |⟨o,its,n,hk,hc,hd,hs,hz,r⟩
 ·obtain⟨z,its,n,r,e⟩:=h.ok I.hok;exact⟨its,r,⟨_,n,e,rfl,rfl,rfl⟩,z⟩
 ·refine⟨its.toList,r,⟨o,n,I.kIn a o hk,hc,hd,by simpa using hs⟩,?_⟩
  have e:=r.length;simp only[gv]at e;omega
theorem Inv.tuple (I:Inv X pins σ H s) (h:SqT X.K H a xs):∃its:List Value,Vals xs its∧dR s.heap a its.toArray∧xs.length≤sizeLine:=by
 rcases h with h |⟨o,its,n,hk,hc,hs,hz,r⟩
 ·obtain⟨z,its,r,p⟩:=h.ok I.hok;exact⟨its,r,p,z⟩
 ·refine⟨its.toList,r,⟨o,I.kIn a o hk,hc,n,by simpa using hs⟩,?_⟩
  have e:=r.length;simp only[gv]at e;omega
theorem Inv.list_inj (I:Inv X pins σ H s) (h:SqL X.K H a xs) (h':SqL X.K H a ys):xs=ys:=by
 obtain⟨its,r,⟨o,n,e,_,_,d⟩,_⟩:=I.list h;obtain⟨its',r',⟨o',n',e',_,_,d'⟩,_⟩:=I.list h';rw[e]at e';cases e';rw[d]at d';injection d' with d1 _;have:its=its':=by simpa using congrArg Array.toList d1
 subst this;exact r.inj r'
theorem Inv.tuple_inj (I:Inv X pins σ H s) (h:SqT X.K H a xs) (h':SqT X.K H a ys):xs=ys:=by
 obtain⟨its,r,⟨o,e,_,n,d⟩,_⟩:=I.tuple h;obtain⟨its',r',⟨o',e',_,n',d'⟩,_⟩:=I.tuple h';rw[e]at e';cases e';rw[d]at d';injection d' with d1 _;have:its=its':=by simpa using congrArg Array.toList d1
 subst this;exact r.inj r'
end
noncomputable abbrev Cx.wish (X:Cx) (E:Value→ah→Prop):Cx:={ X with xe:=E }
noncomputable abbrev Cx.nox (X:Cx):Cx:=X.wish λ_ _=>False
theorem Cx.Ok.wish{X:Cx}(ok:X.Ok) (E:Value→ah→Prop):(X.wish E).Ok:=
 ⟨ok.mod,ok.kind,ok.glob,ok.blt,ok.above,ok.inj,ok.has,ok.cab,ok.hd,ok.frames,ok.stk,ok.exf,ok.bs,ok.bsz,ok.noex,ok.exfs,ok.funs,ok.frf⟩
theorem Cx.Ok.unwish{X:Cx}{E:Value→ah→Prop}(ok:(X.wish E).Ok):X.Ok:=
 ⟨ok.mod,ok.kind,ok.glob,ok.blt,ok.above,ok.inj,ok.has,ok.cab,ok.hd,ok.frames,ok.stk,ok.exf,ok.bs,ok.bsz,ok.noex,ok.exfs,ok.funs,ok.frf⟩
section
variable {X:Cx}{pins:List (Addr×Obj)}{σ:St}{H:Hp}{s:ah}{E:Value→ah→Prop}
theorem Inv.wish (I:Inv X pins σ H s) (E:Value→ah→Prop):Inv (X.wish E) pins σ H s:=⟨I.ok.wish E,I.os,I.bare,I.base,I.loc,I.cell,I.free,I.freeC,I.pin,I.hok,I.len⟩
theorem Inv.unwish (I:Inv (X.wish E) pins σ H s):Inv X pins σ H s:=⟨I.ok.unwish,I.os,I.bare,I.base,I.loc,I.cell,I.free,I.freeC,I.pin,I.hok,I.len⟩
theorem SP.unwish{D:Ends}{f:Flow}{s':ah}(h:SP (X.wish E) pins D f s'):SP X pins D f s':=by
 cases f with
 |next=>obtain⟨σ',H',I,q⟩:=h;exact⟨σ',H',I.unwish,q⟩
 |brk=>obtain⟨σ',H',I,q⟩:=h;exact⟨σ',H',I.unwish,q⟩
 |cont=>obtain⟨σ',H',I,q⟩:=h;exact⟨σ',H',I.unwish,q⟩
 |ret u=>obtain⟨v,σ',H',I,r,q⟩:=h;exact⟨v,σ',H',I.unwish,r,q⟩
theorem PE.nox{e:Expr}{t:TE}(h:PE X.nox e t):PE X e t:=λpins s σ H Q I hw=>
 cm (h pins s σ H Q (I.wish _) hw) (λ_ _ ⟨v,H',I',r,q⟩=>⟨v,H',I'.unwish,r,q⟩) λ_ _ z=>cc z
end
section
variable {X:Cx}{st:Stmt}{rest:List Stmt}{t u:TS}{e:Expr}{te:TE}{pos:aC}
noncomputable def zyp:TS:=λD σ H=>D.nx σ H
noncomputable def zAC (t u:TS):TS:=λD σ H=>t { D with nx:=u D } σ H
theorem pss_nil:PSs X [] zyp:=λ_ _ σ H _ I h=>fx ⟨σ,H,I,h⟩
theorem zrv (h1:PS X st t) (h2:PSs X rest u):PSs X (st::rest) (zAC t u):=by
 intro pins s σ H D I h;refine kj (thn (h1 pins s σ H { D with nx:=u D } I h) λf s1 q=>?_);cases f with
 |next=>
  obtain⟨σ',H',I',q⟩:=q;exact h2 pins s1 σ' H' D I' q
 |ret v=>exact q
 |brk=>exact q
 |cont=>exact q
theorem zuy (h1:PS X st t):PSs X [st] t:=by
 intro pins s σ H D I h;refine kj (thn (h1 pins s σ H D I h) λf s1 q=>?_);cases f with
 |next=>exact fx q
 |ret v=>exact q
 |brk=>exact q
 |cont=>exact q
theorem Inv.quiet{pins:List (Addr×Obj)}{σ:St}{H:Hp}{s:ah}(I:Inv X pins σ H s):interactive X.env=false:=by simp [interactive,I.ok.kind]
noncomputable def zyR (te:TE):TS:=λD σ H=>te σ H λ_ H1=>D.nx σ H1
theorem ztD (he:PE X e te) (hs:di e none pos.line X.env=pure false:=by rfl):PS X (.Expr e pos) (zyR te):=by
 intro pins s σ H D I h;exact wpAny_Expr_any (thn (he pins s σ H _ I h) λv s1 ⟨x,H1,I1,r1,q1⟩=>⟨σ,H1,I1,q1⟩) I.quiet hs
noncomputable def zAE (te:TE):TS:=λD σ H=>te σ H D.rt
theorem zxj (he:PE X e te):PS X (.Return (ae e) pos) (zAE te):=by
 intro pins s σ H D I h;exact wpAny_Return_some (thn (he pins s σ H _ I h) λv s1 ⟨x,H1,I1,r1,q1⟩=>⟨x,σ,H1,I1,r1,q1⟩)
noncomputable def zAL (c:TT) (t u:TS):TS:=λD σ H=>c σ H λb H1=>if b=true then t D σ H1 else u D σ H1
theorem zzf{c:Expr}{a b:List Stmt}{tc:TT}(hc:PT X c tc) (ha:PSs X a t) (hb:PSs X b u):PS X (.If c a b pos) (zAL tc t u):=by
 intro pins s σ H D I h;refine wpAny_If (thn (hc pins s σ H _ I h) λd s1 ⟨H1,I1,q1⟩=>?_);cases d with
 |true=>exact ha pins s1 σ H1 D I1 q1
 |false=>exact hb pins s1 σ H1 D I1 q1
end
abbrev TG:=V→St→Hp→(St→Hp→Prop)→Prop
abbrev TGs:=List V→St→Hp→(St→Hp→Prop)→Prop
def PG (X:Cx) (target:Expr) (t:TG):Prop:=
 ∀(pins:List (Addr×Obj)) (s:ah) (σ:St) (H:Hp) (v:V) (u:Value) (Q:St→Hp→Prop),Inv X pins σ H s→RelV v u→t v σ H Q→
  am (ap X.prog X.w) X.A (assign target X.env u) (λ_ s'=>∃σ' H',Inv X pins σ' H' s'∧Q σ' H') X.xe s
def PGs (X:Cx) (ts:List Expr) (t:TGs):Prop:=
 ∀(pins:List (Addr×Obj)) (s:ah) (σ:St) (H:Hp) (vs:List V) (us:List Value) (Q:St→Hp→Prop),Inv X pins σ H s→Vals vs us→t vs σ H Q→
  am (ap X.prog X.w) X.A (assignInOrder ((ce ts X.env).map (·.2)) us) (λ_ s'=>∃σ' H',Inv X pins σ' H' s'∧Q σ' H') X.xe s
abbrev TIp:=V→V→Hp→VK→Prop
def PIp (X:Cx) (op:fu) (t:TIp):Prop:=
 ∀(pins:List (Addr×Obj)) (s:ah) (σ:St) (H:Hp) (x y:V) (v u:Value) (Q:VK),Inv X pins σ H s→RelV x v→RelV y u→t x y H Q→
  am (ap X.prog X.w) X.A (inplaceOp op v u) (EP X pins σ Q) X.xe s
section
variable {X:Cx}{pos:aC}
noncomputable def zvg (i:Nat):TG:=λv σ H Q=>Q (σ.set i (ae v)) H
theorem zuA{i:Nat}{x:Str}(hN:X.N.Nodup) (hi:X.N[i]? =ae x) (hx:Loc X.env.scope x) (hf:X.fn x=true∨X.env.scope.names.lookup x=ae .local:=by first |exact .inl rfl |exact .inr rfl |assumption):PG X (.Name x pos) (zvg i):=by
 intro pins s σ H v u Q I r h;exact jd (zit I hN hi hx r (λs' I'=>⟨_,H,I',h⟩) hf)
noncomputable def zAa:TGs:=λvs σ H Q=>vs=[]∧Q σ H
noncomputable def zyJ (t:TG) (u:TGs):TGs:=λvs σ H Q=>∃v r,vs=v::r∧t v σ H λσ' H'=>u r σ' H' Q
theorem ztK:PGs X [] zAa:=by
 intro pins s σ H vs us Q I r h;obtain⟨e,h⟩:=h;subst e;cases r;exact assignInOrder_nil ⟨σ,H,I,h⟩
theorem zrN{e:Expr}{es:List Expr}{t:TG}{u:TGs}(h1:PG X e t) (h2:PGs X es u)
  (hs:(ce (e::es) X.env).map (·.2)=assign e X.env::(ce es X.env).map (·.2):=by rfl):PGs X (e::es) (zyJ t u):=by
 intro pins s σ H vs us Q I r h;obtain⟨v,vr,e1,h⟩:=h;subst e1;cases r with
 |cons r rr=>
  rw[hs];refine assignInOrder_cons (thn (h1 pins s σ H _ _ _ I r h) λ_ s1 ⟨σ1,H1,I1,q1⟩=>?_);exact h2 pins s1 σ1 H1 _ _ Q I1 rr q1
noncomputable def zAm (K:aj) (n:Nat) (t:TGs):TG:=λv σ H Q=>∃a xs,v= .ref a∧SqT K H a xs∧xs.length=n∧t xs σ H Q
theorem zwM{es:List Expr}{k:Nat}{t:TGs}{n:Nat}(hc:X.calm=true) (h:PGs X es t)
  (hn:(ce es X.env).length=n:=by rfl) (hst:(ce es X.env).findIdx? (·.1)=none:=by rfl):PG X (.Tuple es k pos) (zAm X.K n t):=by
 intro pins s σ H v u Q I r hw;obtain⟨a,xs,e1,hq,hl,hw⟩:=hw;subst e1;cases r;obtain⟨its,rv,ht,hz⟩:=I.tuple hq;refine assign_Tuple_tuple (I.ok.hd hc) ht (by simp [hn,←hl,rv.length]) hst λh' hx=>?_;have I1:Inv X pins σ H { s with heap:=h' }:=I.kept (t':=s.toks) λb o e=>hx b o (bz (aJ e)) e;exact h pins _ σ H xs _ Q I1 (by simpa using rv) hw
noncomputable def zzz (te:TE) (g:TG):TS:=λD σ H=>te σ H λx H1=>g x σ H1 D.nx
theorem zxg{tg e:Expr}{te:TE}{g:TG}(he:PE X e te) (hg:PG X tg g) (hs:swapsWithSole [tg] e pos.line X.env=pure false:=by rfl) (hw:swappedStores [tg] e X.env=pure none:=by rfl)
  (h1:(ce [tg] X.env).map (·.2)=[assign tg X.env]:=by rfl):PS X (.Assign [tg] e pos) (zzz te g):=by
 intro pins s σ H D I h;refine wpAny_Assign_stores (thn (he pins s σ H _ I h) λv s1 ⟨x,H1,I1,r1,q1⟩=>?_) hs hw;rw[h1];exact thn (hg pins s1 σ H1 x v _ I1 r1 q1) λ_ s2 q=>q
theorem zwP{i:Nat}{x:Str}{e:Expr}{te:TE}{pos':aC}(hN:X.N.Nodup) (hi:X.N[i]? =ae x) (hx:Loc X.env.scope x) (he:PE X e te) (hs:di e (ae (.Name x pos')) pos.line X.env=pure false:=by rfl) (hf:X.fn x=true∨X.env.scope.names.lookup x=ae .local:=by first |exact .inl rfl |exact .inr rfl |assumption) :
  PS X (.Assign [.Name x pos'] e pos) (zzz te (zvg i)):=by
 intro pins s σ H D I h;refine wpAny_Assign_Name (thn (he pins s σ H _ I h) λv s1 ⟨y,H1,I1,r1,q1⟩=>?_) hs;exact zit I1 hN hi hx r1 (λs2 I2=>⟨_,H1,I2,q1⟩) hf
noncomputable def zAz (i:Nat) (te:TE) (ti:TIp):TS:=λD σ H=>∃x,σ[i]? =ae (ae x)∧te σ H λy H1=>ti x y H1 λz H2=>D.nx (σ.set i (ae z)) H2
theorem zxF{i:Nat}{x:Str}{e:Expr}{te:TE}{op:fu}{ti:TIp}{pos':aC}(hN:X.N.Nodup) (hi:X.N[i]? =ae x) (hx:Loc X.env.scope x) (he:PE X e te) (ho:PIp X op ti) (hf:X.fn x=true∨X.env.scope.names.lookup x=ae .local:=by first |exact .inl rfl |exact .inr rfl |assumption) :
  PS X (.AugAssign (.Name x pos') op e pos) (zAz i te ti):=by
 intro pins s σ H D I h;obtain⟨v,e1,h⟩:=h;obtain⟨m,hn,hl⟩:=I.loc;have vis:Vis X.env.scope x:=by rcases hx with k |k;exact .inl k;exact .inr (.inl k)
 obtain⟨u,r,l⟩:=hl i x v hi e1 vis;refine wpAny_AugAssign_Name ?_;have go:am (ap X.prog X.w) X.A (ay e X.env) (λw s₂=>am (ap X.prog X.w) X.A (inplaceOp op u w) (λr s₃=>am (ap X.prog X.w) X.A (gJ X.env x r) (λ_=>SP X pins D .next) X.xe s₃) X.xe s₂) X.xe s:=by
  refine thn (he pins s σ H _ I h) λw s1 ⟨y,H1,I1,r1,q1⟩=>?_;refine thn (ho pins s1 σ H1 v y u w _ I1 r r1 q1) λz s2 ⟨zv,H2,I2,r2,q2⟩=>?_;exact zit I2 hN hi hx r2 (λs3 I3=>⟨_,H2,I3,q2⟩) hf
 rcases l with⟨hk,hm⟩ |⟨hk,c,hc,hcell⟩
 ·exact iR I.ok.kind hk hn hm go
 ·rcases hk with hk |hk
  ·exact kl I.ok.kind hk hc hcell go
  ·rcases hx with k |k
   ·have:X.env.scope.names.lookup x=ae .free:=hk;rw[k]at this;cases this
   ·have:X.env.scope.names.lookup x=ae .free:=hk;rw[k]at this;cases this
noncomputable def ipI (f:Int→Int→Int):TIp:=λx y H Q=>∃i j,x= .int i∧y= .int j∧Q (.int (f i j)) H
theorem zwi:PIp X .Add (ipI λi j=>i+j):=by
 intro pins s σ H x y v u Q I r1 r2 h;obtain⟨i,j,e1,e2,q⟩:=h;subst e1;subst e2;obtain⟨t,rfl⟩:=r1;obtain⟨t',rfl⟩:=r2;exact iadd_int ⟨.int _,H,I.tok _,⟨_,rfl⟩,q⟩
end
section
variable {X:Cx}{pos:aC}
noncomputable def zwY (c:TT) (tb:TS):TS:=λD σ H=>∃W:Nat→St→Hp→Prop,(∃m,W m σ H)∧ ∀m σ H,W m σ H→
 c σ H λb H1=>if b=true then ∃N:St→Hp→Prop,(∀σ' H',N σ' H'→ ∃m',m'<m∧W m' σ' H')∧tb { D with nx:=N,ct:=N,bk:=D.nx } σ H1 else D.nx σ H1
theorem zrB{c:Expr}{body:List Stmt}{tc:TT}{tb:TS}(hp:fe (ap X.prog X.w) X.A X.env X.xe) (hc:PT X c tc) (hb:PSs X body tb):PS X (.While c body [] pos) (zwY tc tb):=by
 intro pins s σ H D I h;obtain⟨W,⟨m0,w0⟩,turn⟩:=h;refine wpAny_While (codeAny_whileLoop (λn s'=>∃σ' H',Inv X pins σ' H' s'∧W n σ' H') ?_ m0 ⟨σ,H,I,w0⟩);rintro n s1 ⟨σ1,H1,I1,w1⟩;refine dH hp (thn (hc pins s1 σ1 H1 _ I1 (turn n σ1 H1 w1)) λb s2 ⟨H2,I2,q2⟩=>?_);cases b with
 |true=>
  obtain⟨N,hN,q2⟩:=q2;rw[if_pos rfl];refine dH hp (thn (hb pins s2 σ1 H2 _ I2 q2) λf s3 q3=>?_);cases f with
  |next=>
   obtain⟨σ3,H3,I3,n3⟩:=q3;obtain⟨m',hm,w3⟩:=hN σ3 H3 n3;exact⟨m',hm,σ3,H3,I3,w3⟩
  |cont=>
   obtain⟨σ3,H3,I3,n3⟩:=q3;obtain⟨m',hm,w3⟩:=hN σ3 H3 n3;exact⟨m',hm,σ3,H3,I3,w3⟩
  |brk=>exact q3
  |ret v=>exact q3
 |false=>
  rw[if_neg cU];exact fx ⟨σ1,H2,I2,q2⟩
end
structure It where
  go:Nat→Hp→Prop
  yld:Nat→Hp→V→Hp→Prop
  stop:Nat→Hp→Prop
def zjf (X:Cx) (pins:List (Addr×Obj)) (H:Hp) (b:Addr):Prop:=
 H b=none∧b≠X.env.locals∧b∉X.fs∧(b∈X.ex∨X.s₀.heap.objs.size≤b)∧(∀x c,X.env.cells.lookup x=ae c→c≠b)∧ ∀p∈X.pn++pins,p.1≠b
theorem Inv.fpOk{X:Cx}{pins:List (Addr×Obj)}{σ:St}{H H':Hp}{s:ah}{b:Addr}(I:Inv X pins σ H s) (hb:s.heap.objs.size≤b) (hn:H' b=none):zjf X pins H' b:=by
 refine⟨hn,cH (bH I.lt hb),I.nofs hb, .inr (aX I.sz hb),λx c e z=>?_,λp hp z=>?_⟩
 ·obtain⟨v,q⟩:=I.cell x c e;exact absurd (bH q.lt (by rw[z];exact hb)) (cM _)
 ·exact absurd (bH (aJ (I.pin p hp).1) (by rw[z];exact hb)) (cM _)
structure Turn (P:aE) (w:aB) (K:aj) (tg:Expr) (J:It) (fp:List Addr) (it:Addr) (tn:Nat→Heap→Prop):Prop where
  mem:it∈fp
  obj:∀i h,tn i h→ ∀b∈fp,∃o,h.get? b=ae o∧ ∀v,o.data≠ .cell v
  keep:∀i h h',tn i h→(∀b∈fp,∀o,h.get? b=ae o→h'.get? b=ae o)→tn i h'
  item:∀(X:Cx),X.prog=P→X.w=w→X.K=K→X.calm=true→ ∀(i:Nat) (pins:List (Addr×Obj)) (s:ah) (σ:St) (H:Hp) (E:Value→ah→Prop),Inv X pins σ H s→(∀b∈fp,zjf X pins H b)→tn i s.heap→J.go i H→
    am (ap P w) X.A (bS (.ref it)) (λr s1=>∃u,r=ae u∧
      am (ap P w) X.A (fN tg (.ref it) u) (λ_ s2=>∃x H',Inv X pins σ H' s2∧RelV x u∧J.yld i H x H'∧tn (i+1) s2.heap∧ ∀b∈fp,H' b=none) E s1) E s
  done:∀(X:Cx),X.prog=P→X.w=w→X.K=K→X.calm=true→ ∀(i:Nat) (pins:List (Addr×Obj)) (s:ah) (σ:St) (H:Hp) (E:Value→ah→Prop),Inv X pins σ H s→(∀b∈fp,zjf X pins H b)→tn i s.heap→J.stop i H→
    am (ap P w) X.A (bS (.ref it)) (λr s1=>r=none∧Inv X pins σ H s1) E s
  self:∀(A:aM) (i:Nat) (s:ah) (Q:Value→ah→Prop) (E:Value→ah→Prop),tn i s.heap→Q (.ref it) s→am (ap P w) A (cX (.ref it)) Q E s
abbrev TI:=St→Hp→(It→Hp→Prop)→Prop
def PIE (X:Cx) (pins:List (Addr×Obj)) (σ:St) (tg:Expr) (R:It→Hp→Prop) (itv:Value) (s2:ah):Prop:=
 ∃(it:Addr) (fp:List Addr) (tn:Nat→Heap→Prop) (J:It) (H':Hp),itv= .ref it∧Inv X pins σ H' s2∧Turn X.prog X.w X.K tg J fp it tn∧tn 0 s2.heap∧(∀b∈fp,zjf X pins H' b)∧R J H'
def PI (X:Cx) (tg iter:Expr) (wi:TI):Prop:=
 ∀(pins:List (Addr×Obj)) (s:ah) (σ:St) (H:Hp) (R:It→Hp→Prop),Inv X pins σ H s→wi σ H R→
  am (ap X.prog X.w) X.A (ay iter X.env) (λv s1=>am (ap X.prog X.w) X.A (cX v) (PIE X pins σ tg R) X.xe s1) X.xe s
theorem zrD{M:Model}{A:aM}{E:Value→ah→Prop}{s:ah}{tg:Expr}{it:Addr}{u:Value}{o:Obj}{n:String}{vs:Array Value}{Q:Unit→ah→Prop}(ho:s.heap.get? it=ae o) (hc:o.cls= .type n) (hd:o.data= .fields vs)
    (hn: ["enumerate", "zip", "dict_itemiterator", "dict_reverseitemiterator", "odict_iterator", "itertools.zip_longest", "itertools.pairwise"].contains n=false) (hQ:Q () s):am M A (fN tg (.ref it) u) Q E s:=by
  unfold fN;cases tg<;>first
    |exact aD hQ
    | (cases u<;>first
        |exact aD hQ
        | (refine ak (wpAny_load ho ?_)
           rw[hc,hd];show am M A (if(["enumerate", "zip", "dict_itemiterator", "dict_reverseitemiterator", "odict_iterator", "itertools.zip_longest", "itertools.pairwise"].contains n&&vs[0]? == ae (b9 _))=true then _ else _) Q E s;rw[if_neg (by intro h;rw[hn,Bool.false_and]at h;cases h)];exact aD hQ))
noncomputable def Itl (K:aj) (a:Addr):It:=
 ⟨λi H=>∃xs x,SqL K H a xs∧xs[i]? =ae x,λi H x H'=>H'=H∧ ∀xs,SqL K H a xs→xs[i]? =ae x,λi H=>∃xs,SqL K H a xs∧xs.length≤i⟩
noncomputable def Itt (K:aj) (a:Addr):It:=
 ⟨λi H=>∃xs x,SqT K H a xs∧xs[i]? =ae x,λi H x H'=>H'=H∧ ∀xs,SqT K H a xs→xs[i]? =ae x,λi H=>∃xs,SqT K H a xs∧xs.length≤i⟩
noncomputable def Itr (lo:Int) (n:Nat):It:=⟨λi _=>i<n,λi H x H'=>H'=H∧x= .int (lo+i),λi _=>n≤i⟩
theorem zow{P:aE}{w:aB}{K:aj}{tg:Expr}(a it:Addr):Turn P w K tg (Itl K a) [it] it (λi h=>h.IsListIter it a i) where
  mem:=by simp
  obj:=λi h st b hb=>by
    have e:b=it:=by simpa using hb
    subst e;obtain⟨o,e,c,d⟩:=st;exact⟨o,e,λv z=>by rw[d]at z;cases z⟩
  keep:=λi h h' st k=>st.at λo e=>k it (by simp) o e
  item:=by
    intro X hP hw hK hc i pins s σ H E I hf st hg;subst hP hw hK;obtain⟨xs,x,hq,hx⟩:=hg;obtain⟨its,rv,p,hz⟩:=I.list hq;obtain⟨u,hu,ru⟩:=rv.get hx;obtain⟨f0,f1,f2,f3,f4,f5⟩:=hf it (by simp);refine wpAny_pyNext_list_item st p.isList (x:=u) (by simpa using hu) λh' st' sb=>?_;have I1:Inv X pins σ H { s with heap:=h' }:=I.turned (t':=s.toks) (λb o hb e=>(sb.2 b hb).trans e) f0 f1 f3 f4 f5;obtain⟨o,e,c,d⟩:=id st';exact⟨u,rfl,zrD (s:={ s with heap:=h' }) e c d (by decide) ⟨x,H,I1,ru,⟨rfl,λys hy=>by rw[I.list_inj hy hq];exact hx⟩,st',λb hb=>(hf b hb).1⟩⟩
  done:=by
    intro X hP hw hK hc i pins s σ H E I hf st hg;subst hP hw hK;obtain⟨xs,hq,hx⟩:=hg;obtain⟨its,rv,p,hz⟩:=I.list hq;obtain⟨f0,f1,f2,f3,f4,f5⟩:=hf it (by simp);have hl:=rv.length;exact wpAny_pyNext_list_end (I.ok.hd hc) st p.isList (by simp;omega) λh' eb=>⟨rfl,I.turned (t':=s.toks) (λb o hb e=>eb b o hb e) f0 f1 f3 f4 f5⟩
  self:=λ_ _ _ _ _ st h=>wpAny_pyIter_listiter st h
theorem znz{P:aE}{w:aB}{K:aj}{tg:Expr}(a it:Addr):Turn P w K tg (Itt K a) [it] it (λi h=>h.IsTupleIter it a i) where
  mem:=by simp
  obj:=λi h st b hb=>by
    have e:b=it:=by simpa using hb
    subst e;obtain⟨o,e,c,d⟩:=st;exact⟨o,e,λv z=>by rw[d]at z;cases z⟩
  keep:=λi h h' st k=>st.at λo e=>k it (by simp) o e
  item:=by
    intro X hP hw hK hc i pins s σ H E I hf st hg;subst hP hw hK;obtain⟨xs,x,hq,hx⟩:=hg;obtain⟨its,rv,p,hz⟩:=I.tuple hq;obtain⟨u,hu,ru⟩:=rv.get hx;obtain⟨f0,f1,f2,f3,f4,f5⟩:=hf it (by simp);refine wpAny_pyNext_tuple_item st (show s.heap.IsTuple a its.toArray from p) (x:=u) (by simpa using hu) λh' st' sb=>?_;have I1:Inv X pins σ H { s with heap:=h' }:=I.turned (t':=s.toks) (λb o hb e=>(sb.2 b hb).trans e) f0 f1 f3 f4 f5;obtain⟨o,e,c,d⟩:=id st';exact⟨u,rfl,zrD (s:={ s with heap:=h' }) e c d (by decide) ⟨x,H,I1,ru,⟨rfl,λys hy=>by rw[I.tuple_inj hy hq];exact hx⟩,st',λb hb=>(hf b hb).1⟩⟩
  done:=by
    intro X hP hw hK hc i pins s σ H E I hf st hg;subst hP hw hK;obtain⟨xs,hq,hx⟩:=hg;obtain⟨its,rv,p,hz⟩:=I.tuple hq;obtain⟨f0,f1,f2,f3,f4,f5⟩:=hf it (by simp);have hl:=rv.length;exact wpAny_pyNext_tuple_end (I.ok.hd hc) st (show s.heap.IsTuple a its.toArray from p) (by simp;omega) λh' eb=>⟨rfl,I.turned (t':=s.toks) (λb o hb e=>eb b o hb e) f0 f1 f3 f4 f5⟩
  self:=λ_ _ _ _ _ st h=>wpAny_pyIter_tupleiter st h
theorem znA{P:aE}{w:aB}{K:aj}{tg:Expr}(it:Addr) (lo:Int) (n:Nat):Turn P w K tg (Itr lo n) [it] it (λi h=>IsRangeIter h it (lo+(i:Nat)*1) ((n:Int) - (i:Nat)) 1) where
  mem:=by simp
  obj:=λi h st b hb=>by
    have e:b=it:=by simpa using hb
    subst e;exact⟨_,st,λv z=>by
      have z':Data.fields _=Data.cell v:=z;cases z'⟩
  keep:=λi h h' st k=>k it (by simp) _ st
  item:=by
    intro X hP hw hK hc i pins s σ H E I hf st hg;subst hP hw hK;obtain⟨f0,f1,f2,f3,f4,f5⟩:=hf it (by simp);have W:=d_.range (prog:=X.prog) (w:=X.w) (I.ok.hd hc) it lo 1 n;refine W.item i s _ _ hg st λv h' tk hv st' kk=>?_;obtain⟨t,rfl⟩:=hv;have I1:Inv X pins σ H { s with heap:=h',toks:=tk }:=I.turned (λb o hb e=>kk b o (by simpa using hb) e) f0 f1 f3 f4 f5;refine⟨_,rfl,zrD (s:={ s with heap:=h',toks:=tk }) (n:= "range_iterator") st' rfl rfl (by decide) ⟨.int (lo+i),H,I1,⟨t,?_⟩,⟨rfl,rfl⟩,st',λb hb=>(hf b hb).1⟩⟩;rw[Int.mul_one]
  done:=by
    intro X hP hw hK hc i pins s σ H E I hf st hg;subst hP hw hK;obtain⟨f0,f1,f2,f3,f4,f5⟩:=hf it (by simp);exact wpAny_pyNext_range_end (I.ok.hd hc) st (by have:n≤i:=hg;omega) λh' eb=>⟨rfl,I.turned (t':=s.toks) (λb o hb e=>eb b o hb e) f0 f1 f3 f4 f5⟩
  self:=λ_ _ _ _ _ st h=>wpAny_pyIter_rangeiter st h
section
variable {X:Cx}{tg:Expr}
theorem zrw{pins:List (Addr×Obj)}{σ:St}{H:Hp}{s:ah}{R:It→Hp→Prop}{E:Value→ah→Prop}{lo hi:Int}{t u v:bc}{tk:Nat}(I:Inv X pins σ H s) (h1: -(2 ^ 62)≤lo) (h2:lo<2 ^ 62) (h3: -(2 ^ 62)≤hi) (h4:hi<2 ^ 62)
  (q:R (Itr lo (hi - lo).toNat) H):am (ap X.prog X.w) X.A (cX (.ref s.heap.objs.size)) (PIE X pins σ tg R) E { s with heap:=s.heap.push { cls:= .type "range",data:= .fields #[.int lo t, .int hi u, .int 1 v] },toks:=tk }:=by
 refine wpAny_pyIter_range (IsRange.new ..) (small_one h1 h2 h3 h4) ?_;have I1:Inv X pins σ H { s with heap:=s.heap.push { cls:= .type "range",data:= .fields #[.int lo t, .int hi u, .int 1 v] },toks:=tk }:=I.kept λb o e=>aH _ e;refine⟨(s.heap.push { cls:= .type "range",data:= .fields #[.int lo t, .int hi u, .int 1 v] }).objs.size,[(s.heap.push { cls:= .type "range",data:= .fields #[.int lo t, .int hi u, .int 1 v] }).objs.size],_,_,H,rfl,
  I1.kept (t':=tk) λb o e=>aH _ e,znA _ lo (hi - lo).toNat,?_,λb hb=>?_,q⟩
 ·have e1:lo+((0:Nat):Int)*1=lo:=by simp
  have e2:(((hi - lo).toNat:Nat):Int) - ((0:Nat):Int)=bV.Range.rangeSize lo hi 1:=by rw[rangeSize_one];split<;>omega
  show IsRangeIter _ _ (lo+((0:Nat):Int)*1) ((((hi - lo).toNat:Nat):Int) - ((0:Nat):Int)) 1;rw[e1,e2];exact bi _ rfl
 ·have e:b=(s.heap.push { cls:= .type "range",data:= .fields #[.int lo t, .int hi u, .int 1 v] }).objs.size:=by simpa using hb
  subst e;exact I1.fpOk (au _) (I1.hok.fresh (au _))
noncomputable def zzm (ta:TA):TI:=λσ H R=>ta σ H λvs H1=>∃j:Int,vs=[.int j]∧ -(2 ^ 62)≤j∧j<2 ^ 62∧R (Itr 0 j.toNat) H1
theorem zqz{a:Expr}{ta:TA}{p pos:aC}(hg:Gl X "range") (hm:X.mg "range" =none) (ha:PA X [a] ta) (hs:ao [a] X.env=[(false,ay a X.env)]:=by rfl):PI X tg (.Call (.Name "range" p) [a] [] pos) (zzm ta):=by
 intro pins s σ H R I h;refine Call_ (zik I hg hm boot_range (fW (thn (ha pos pins s σ H _ I h) λus s1 ⟨vs,H1,I1,r1,q1⟩=>?_) hs rfl));obtain⟨j,e,q1,q2,q⟩:=q1;subst e;cases r1 with
 |cons r rr=>
  cases rr;obtain⟨t,rfl⟩:=r;exact call_range_1 (zrw I1 (by omega) (by omega) q1 q2 (by simpa using q))
noncomputable def zAA (wi:TI) (g:TG) (tb:TS):TS:=λD σ H=>wi σ H λJ H1=>∃W:Nat→Nat→St→Hp→Prop,(∃m,W 0 m σ H1)∧ ∀i m σ H,W i m σ H→
 (J.stop i H∧D.nx σ H)∨(J.go i H∧ ∃N:St→Hp→Prop,(∀σ' H',N σ' H'→ ∃m',m'<m∧W (i+1) m' σ' H')∧ ∀x H',J.yld i H x H'→g x σ H' λσ2 H2=>tb { D with nx:=N,ct:=N,bk:=D.nx } σ2 H2)
noncomputable def zjC (fp:List Addr) (h:Heap):List (Addr×Obj):=fp.filterMap λb=>(h.get? b).map λo=>(b,o)
theorem zer{fp:List Addr}{h:Heap}{b:Addr}{o:Obj}(hb:b∈fp) (e:h.get? b=ae o):(b,o)∈zjC fp h:=gG.mpr ⟨b,hb,by rw[e];rfl⟩
theorem zqP{fp:List Addr}{h:Heap}{p:Addr×Obj}(hp:p∈zjC fp h):p.1∈fp∧h.get? p.1=ae p.2:=by
 obtain⟨b,hb,e⟩:=gG.mp hp;cases q:h.get? b with
 |none=>rw[q]at e;cases e
 |some o=>
  rw[q]at e;have e':(b,o)=p:=aG e;subst e';exact⟨hb,q⟩
theorem Inv.pinned{pins:List (Addr×Obj)}{σ:St}{H:Hp}{s:ah}{fp:List Addr}(I:Inv X pins σ H s) (hf:∀b∈fp,zjf X pins H b) (ho:∀b∈fp,∃o,s.heap.get? b=ae o∧ ∀v,o.data≠ .cell v):Inv X (pins++zjC fp s.heap) σ H s:=
 I.pins_of λp hp=>(bq.mp hp).elim (λz=>I.pin p (b_ _ z)) λz=>by
  obtain⟨hb,e⟩:=zqP z;obtain⟨f0,f1,f2,_⟩:=hf p.1 hb;obtain⟨o,e',d⟩:=ho p.1 hb;rw[e]at e';cases e';exact⟨e,f0,f1,f2,d⟩
theorem Inv.unpinned{pins pl:List (Addr×Obj)}{σ:St}{H:Hp}{s:ah}(I:Inv X (pins++pl) σ H s):Inv X pins σ H s:=I.pins_of λp hp=>I.pin p (b_ _ (jU _ hp))
theorem zxo{iter:Expr}{body:List Stmt}{wi:TI}{g:TG}{tb:TS}{pos:aC}(hp:fe (ap X.prog X.w) X.A X.env X.xe) (hc:X.calm=true) (hi:PI X tg iter wi) (hg:PG X tg g) (hb:PSs X body tb)
  (hs:∀x,dJ iter X.env x=pure x:=by intro _;rfl):PS X (.For tg iter body [] pos) (zAA wi g tb):=by
 intro pins s σ H D I h;refine wpAny_For (thn (hi pins s σ H _ I h) λv s1 h1=>thn h1 λitv s2 h2=>?_) hs;obtain⟨it,fp,tn,J,H2,e,I2,T,st2,f2,W,⟨m0,w0⟩,turn⟩:=h2;subst e;have stat:∀{H':Hp},(∀b∈fp,H' b=none)→ ∀b∈fp,zjf X pins H' b:=λhn b hb=>⟨hn b hb,(f2 b hb).2⟩;refine codeAny_forLoop_any (λn s'=>∃i σ' H',Inv X pins σ' H' s'∧tn i s'.heap∧(∀b∈fp,H' b=none)∧W i n σ' H') ?_ m0 ⟨0,σ,H2,I2,st2,λb hb=>(f2 b hb).1,w0⟩;rintro n s3 ⟨i,σ3,H3,I3,st3,fr3,w3⟩;rcases turn i n σ3 H3 w3 with⟨stop,qn⟩ |⟨go,N,hN,step⟩
 ·refine dH hp (thn (T.done X rfl rfl rfl hc i pins s3 σ3 H3 X.xe I3 (stat fr3) st3 stop) λr s4 ⟨hr,I4⟩=>?_);subst hr;exact fx ⟨σ3,H3,I4,qn⟩
 ·refine dH hp (thn (T.item X rfl rfl rfl hc i pins s3 σ3 H3 X.xe I3 (stat fr3) st3 go) λr s4 ⟨u,hr,h4⟩=>?_);subst hr;refine dH hp (thn h4 λ_ s5 ⟨x,H5,I5,r5,y5,st5,fr5⟩=>?_);have I5':=I5.pinned (stat fr5) (T.obj _ _ st5);refine dH hp (thn (hg _ s5 σ3 H5 x u _ I5' r5 (step x H5 y5)) λ_ s6 ⟨σ6,H6,I6,q6⟩=>?_);refine dH hp (thn (hb _ s6 σ6 H6 _ I6 q6) λf s7 q7=>?_);have again:∀{σ7:St}{H7:Hp},Inv X (pins++zjC fp s5.heap) σ7 H7 s7→N σ7 H7→ ∃m,m<n∧ ∃i σ' H',Inv X pins σ' H' s7∧tn i s7.heap∧(∀b∈fp,H' b=none)∧W i m σ' H':=λ{σ7 H7} I7 n7=>by
   obtain⟨m',hm,w7⟩:=hN σ7 H7 n7;refine⟨m',hm,i+1,σ7,H7,I7.unpinned,T.keep _ _ _ st5 λb hb o e=>(I7.pin (b,o) (b_ _ (b_ _ (zer hb e)))).1,λb hb=>?_,w7⟩;obtain⟨o,e,d⟩:=T.obj _ _ st5 b hb;exact(I7.pin (b,o) (b_ _ (b_ _ (zer hb e)))).2.1
  cases f with
  |next=>obtain⟨σ7,H7,I7,n7⟩:=q7;exact again I7 n7
  |cont=>obtain⟨σ7,H7,I7,n7⟩:=q7;exact again I7 n7
  |brk=>obtain⟨σ7,H7,I7,q7⟩:=q7;exact⟨σ7,H7,I7.unpinned,q7⟩
  |ret v=>obtain⟨x7,σ7,H7,I7,r7,q7⟩:=q7;exact⟨x7,σ7,H7,I7.unpinned,r7,q7⟩
end
abbrev R2:=V→V→Hp→VK→Prop
def OpR (X:Cx) (f:Value→Value→bT Value) (r:R2):Prop:=
 ∀(pins:List (Addr×Obj)) (s:ah) (σ:St) (H:Hp) (x y:V) (v u:Value) (Q:VK),Inv X pins σ H s→RelV x v→RelV y u→r x y H Q→
  am (ap X.prog X.w) X.A (f v u) (EP X pins σ Q) X.xe s
def UnR (X:Cx) (f:Value→bT Value) (r:V→Hp→VK→Prop):Prop:=
 ∀(pins:List (Addr×Obj)) (s:ah) (σ:St) (H:Hp) (x:V) (v:Value) (Q:VK),Inv X pins σ H s→RelV x v→r x H Q→
  am (ap X.prog X.w) X.A (f v) (EP X pins σ Q) X.xe s
def CallR (X:Cx) (f:Value) (r:List V→Hp→VK→Prop):Prop:=
 ∀(pins:List (Addr×Obj)) (s:ah) (σ:St) (H:Hp) (xs:List V) (us:List Value) (Q:VK),Inv X pins σ H s→Vals xs us→r xs H Q→
  am (ap X.prog X.w) X.A (call f us) (EP X pins σ Q) X.xe s
def zzZ (X:Cx) (r:V→Hp→(Bool→Hp→Prop)→Prop):Prop:=
 ∀(pins:List (Addr×Obj)) (s:ah) (σ:St) (H:Hp) (x:V) (v:Value) (Q:Bool→Hp→Prop),Inv X pins σ H s→RelV x v→r x H Q→
  am (ap X.prog X.w) X.A (truthy v) (TP X pins σ Q) X.xe s
noncomputable def tOp (r:R2) (ta tb:TE):TE:=λσ H Q=>ta σ H λx H1=>tb σ H1 λy H2=>r x y H2 Q
noncomputable def tUn (r:V→Hp→VK→Prop) (ta:TE):TE:=λσ H Q=>ta σ H λx H1=>r x H1 Q
noncomputable def rI (C:Int→Int→Prop) (g:Int→Int→V):R2:=λx y H Q=>∃i j,x= .int i∧y= .int j∧C i j∧Q (g i j) H
noncomputable def rI0 (g:Int→Int→V):R2:=λx y H Q=>∃i j,x= .int i∧y= .int j∧Q (g i j) H
def rU (g:Int→V):V→Hp→VK→Prop:=λx H Q=>∃i,x= .int i∧Q (g i) H
section
variable {X:Cx}{a b:Expr}{ta tb:TE}{pos:aC}
theorem zzj (ha:PE X a ta) (hb:PE X b tb) {pins:List (Addr×Obj)}{s:ah}{σ:St}{H:Hp}{R:V→V→Hp→Prop}(I:Inv X pins σ H s)
  (h:ta σ H λx H1=>tb σ H1 λy H2=>R x y H2) {Q:Value→ah→Prop}{f:Value→Value→bT Value}
  (hf:∀v u s2 x y H2,Inv X pins σ H2 s2→RelV x v→RelV y u→R x y H2→am (ap X.prog X.w) X.A (f v u) Q X.xe s2) :
  am (ap X.prog X.w) X.A (ay a X.env) (λv s₁=>am (ap X.prog X.w) X.A (ay b X.env) (λu s₂=>am (ap X.prog X.w) X.A (f v u) Q X.xe s₂) X.xe s₁) X.xe s:=by
 refine thn (ha pins s σ H _ I h) λv s1 ⟨x,H1,I1,r1,q1⟩=>?_;refine thn (hb pins s1 σ H1 _ I1 q1) λu s2 ⟨y,H2,I2,r2,q2⟩=>?_;exact hf v u s2 x y H2 I2 r1 r2 q2
theorem zoG{op:fu}{r:R2}(ho:OpR X (bM op) r) (ha:PE X a ta) (hb:PE X b tb):PE X (.BinOp a op b pos) (tOp r ta tb):=by
 intro pins s σ H Q I h;exact wpAny_BinOp (zzj ha hb I h λv u s2 x y H2 I2 rx ry q=>ho pins s2 σ H2 x y v u Q I2 rx ry q)
theorem zyS{op:UnaryOp}{r:V→Hp→VK→Prop}(ho:UnR X (unaryOp op) r) (ha:PE X a ta):PE X (.UnaryOp op a pos) (tUn r ta):=by
 intro pins s σ H Q I h;exact UnaryOp_ (thn (ha pins s σ H _ I h) λv s1 ⟨x,H1,I1,r1,q1⟩=>ho pins s1 σ H1 x v Q I1 r1 q1)
theorem opI{f:Value→Value→bT Value}{C:Int→Int→Prop}{g:Int→Int→Int}
  (rule:∀(i j:Int) (t u:bc) (s:ah) (Q:Value→ah→Prop) (E:Value→ah→Prop),C i j→Q (.int (g i j) s.toks) { s with toks:=s.toks+1 }→am (ap X.prog X.w) X.A (f (.int i t) (.int j u)) Q E s) :
  OpR X f (rI C λi j=> .int (g i j)):=by
 intro pins s σ H x y v u Q I rx ry h;obtain⟨i,j,rfl,rfl,hc,q⟩:=h;obtain⟨t,rfl⟩:=rx;obtain⟨t',rfl⟩:=ry;exact rule i j t t' s _ _ hc ⟨.int (g i j),H,I.tok _,⟨_,rfl⟩,q⟩
theorem zzL{f:Value→Value→bT Value}{g:Int→Int→Int}
  (rule:∀(i j:Int) (t u:bc) (s:ah) (Q:Value→ah→Prop) (E:Value→ah→Prop),Q (.int (g i j) s.toks) { s with toks:=s.toks+1 }→am (ap X.prog X.w) X.A (f (.int i t) (.int j u)) Q E s) :
  OpR X f (rI0 λi j=> .int (g i j)):=by
 intro pins s σ H x y v u Q I rx ry h;obtain⟨i,j,rfl,rfl,q⟩:=h;obtain⟨t,rfl⟩:=rx;obtain⟨t',rfl⟩:=ry;exact rule i j t t' s _ _ ⟨.int (g i j),H,I.tok _,⟨_,rfl⟩,q⟩
theorem zzo{f:Value→Value→bT Value}{g:Int→Int→Bool}
  (rule:∀(i j:Int) (t u:bc) (s:ah) (Q:Value→ah→Prop) (E:Value→ah→Prop),Q (.bool (g i j)) s→am (ap X.prog X.w) X.A (f (.int i t) (.int j u)) Q E s) :
  OpR X f (rI0 λi j=> .bl (g i j)):=by
 intro pins s σ H x y v u Q I rx ry h;obtain⟨i,j,rfl,rfl,q⟩:=h;obtain⟨t,rfl⟩:=rx;obtain⟨t',rfl⟩:=ry;exact rule i j t t' s _ _ ⟨.bl (g i j),H,I,rfl,q⟩
def zio (i j:Int):Prop:=0<j∧j<1073741824
def zzi (i j:Int):Prop:=0≤j∧j≤1000000∧i.natAbs<2 ^ 64
def CMul (i j:Int):Prop:=(-(2 ^ 64)<i∧i<2 ^ 64)∨(-(2 ^ 64)<j∧j<2 ^ 64)
theorem CMul.ok{i j:Int}(h:CMul i j):IntMulOk i j:=by
 rcases h with⟨h1,h2⟩ |⟨h1,h2⟩
 ·exact .of_left (intBits_le_64 h1 h2)
 ·exact .of_right (intBits_le_64 h1 h2)
theorem op_add:OpR X (bM .Add) (rI0 λi j=> .int (i+j)):=zzL λ_ _ _ _ _ _ _ q=>add_int q
theorem zwH:OpR X (bM .Sub) (rI0 λi j=> .int (i - j)):=zzL λ_ _ _ _ _ _ _ q=>sub_int q
theorem zxi:OpR X (bM .Mult) (rI CMul λi j=> .int (i*j)):=opI λ_ _ _ _ _ _ _ hc q=>mul_int q hc.ok
theorem zvl:OpR X (bM .FloorDiv) (rI zio λi j=> .int (i / j)):=opI λi j _ _ _ _ _ hc q=>by
 have h1:(0:Int)<j:=hc.1;have h2:j<1073741824:=hc.2;exact floordiv_int (by omega) (by rw[Int.fdiv_eq_ediv_of_nonneg i (by omega)];exact q) (.inl (PyProof.noPylong_small (by omega)))
theorem zxS:OpR X (bM .Mod) (rI (λ_ j=>0<j) λi j=> .int (i % j)):=opI λi j _ _ _ _ _ hc q=>by
 have h1:(0:Int)<j:=hc;exact mod_int' (by omega) (by rw[Int.fmod_eq_emod_of_nonneg i (by omega)];exact q)
theorem zwD:OpR X (bM .Pow) (rI zzi λi j=> .int (i ^ j.toNat)):=opI λ_ _ _ _ _ _ _ hc q=>pow_int_small hc.1 hc.2.1 hc.2.2 q
theorem unI{f:Value→bT Value}{g:Int→Int}
  (rule:∀(i:Int) (t:bc) (s:ah) (Q:Value→ah→Prop) (E:Value→ah→Prop),Q (.int (g i) s.toks) { s with toks:=s.toks+1 }→am (ap X.prog X.w) X.A (f (.int i t)) Q E s) :
  UnR X f (rU λi=> .int (g i)):=by
 intro pins s σ H x v Q I rx h;obtain⟨i,rfl,q⟩:=h;obtain⟨t,rfl⟩:=rx;exact rule i t s _ _ ⟨.int (g i),H,I.tok _,⟨_,rfl⟩,q⟩
theorem zxx:UnR X (unaryOp .USub) (rU λi=> .int (-i)):=unI λ_ _ _ _ _ q=>neg_int q
end
section
variable {X:Cx}{a b c:Expr}{ta tb:TE}{pos:aC}
theorem zpg{pins:List (Addr×Obj)}{σ:St}{H:Hp}{s:ah}{Q:VK}{k k':Bool}(I:Inv X pins σ H s) (q:Q (.bl k) H) (e:k=k'):EP X pins σ Q (.bool k') s:=by
 subst e;exact⟨.bl k,H,I,rfl,q⟩
theorem zyO:OpR X (bG .Lt) (rI0 λi j=> .bl (decide (i<j))):=zzo λ_ _ _ _ _ _ _ q=>lt_int q
theorem zyP:OpR X (bG .Gt) (rI0 λi j=> .bl (decide (j<i))):=zzo λ_ _ _ _ _ _ _ q=>gt_int q
theorem zzt:OpR X (bG .GtE) (rI0 λi j=> .bl (decide (j≤i))):=zzo λ_ _ _ _ _ _ _ q=>ge_int q
theorem op_isN:OpR X (bG .Is) (λx y H Q=>y= .non∧Q (.bl (decide (x= .non))) H):=by
 intro pins s σ H x y v u Q I rx ry h;obtain⟨rfl,q⟩:=h;cases ry;refine is_none_gen (zpg I q ?_);cases x<;>first
  | (cases rx;rfl)
  | (obtain⟨t,rfl⟩:=rx;rfl)
theorem op_notN:OpR X (bG .IsNot) (λx y H Q=>y= .non∧Q (.bl (!decide (x= .non))) H):=by
 intro pins s σ H x y v u Q I rx ry h;obtain⟨rfl,q⟩:=h;cases ry;refine isnot_none_gen (zpg I q ?_);cases x<;>first
  | (cases rx;rfl)
  | (obtain⟨t,rfl⟩:=rx;rfl)
theorem op_notin_str:OpR X (bG .NotIn) (λx y H Q=>∃i j,x= .str i∧y= .str j∧Q (.bl (!(!(cN j i 0 j.length 1).isEmpty))) H):=by
 intro pins s σ H x y v u Q I rx ry h;obtain⟨i,j,rfl,rfl,q⟩:=h;obtain⟨t,rfl⟩:=rx;obtain⟨t',rfl⟩:=ry;exact notIn_str (zpg I q rfl)
theorem OpR.or{f:Value→Value→bT Value}{r r':R2}(h:OpR X f r) (h':OpR X f r'):OpR X f (λx y H Q=>r x y H Q∨r' x y H Q):=by
 intro pins s σ H x y v u Q I rx ry q;rcases q with q |q
 ·exact h pins s σ H x y v u Q I rx ry q
 ·exact h' pins s σ H x y v u Q I rx ry q
theorem nomark (b:Expr) {op:dF}(h:op≠ .In:=by decide) (h2:op≠ .NotIn:=by decide):c8 op b=false:=by
 have e1:(op == dF.In)=false:=by cases op<;>first |rfl |exact absurd rfl h
 have e2:(op == dF.NotIn)=false:=by cases op<;>first |rfl |exact absurd rfl h2
 cases b<;>simp [c8,e1,e2]
theorem zuY{op:dF}{r:R2}(ho:OpR X (bG op) r) (ha:PE X a ta) (hb:PE X b tb) (hm:c8 op b=false):PE X (.Compare a [op] [b] pos) (tOp r ta tb):=by
 intro pins s σ H Q I h;exact wpAny_Compare1 (zzj ha hb I h λv u s2 x y H2 I2 rx ry q=>ho pins s2 σ H2 x y v u Q I2 rx ry q) hm
noncomputable def zyh (t:TE):TT:=λσ H Q=>t σ H λx H'=>∃k,x= .bl k∧Q k H'
theorem zui{op:dF}{r:R2}(ho:OpR X (bG op) r) (ha:PE X a ta) (hb:PE X b tb) (hm:c8 op b=false):PT X (.Compare a [op] [b] pos) (zyh (tOp r ta tb)):=by
 intro pins s σ H Q I h;refine wpAny_isTrue_Compare1 (thn (ha pins s σ H _ I h) λv s1 ⟨x,H1,I1,r1,q1⟩=>thn (hb pins s1 σ H1 _ I1 q1) λu s2 ⟨y,H2,I2,r2,q2⟩=>
  thn (ho pins s2 σ H2 x y v u _ I2 r1 r2 q2) λc s3 ⟨z,H3,I3,r3,k,e,q3⟩=>?_) hm
 subst e;cases r3;exact ia ⟨H3,I3,q3⟩
def zzq (K:aj) (x:V) (H:Hp) (k:Bool):Prop:=
 match x with
 | .non=>k=false
 | .bl b=>k=b
 | .int i=>k=(i != 0)
 | .str y=>y.length≤sizeLine∧k=((y.length:Int) != 0)
 | .byt y=>y.size≤sizeLine∧k=((y.size:Int) != 0)
 | .ref p=>(∃xs,SqL K H p xs∧k= !xs.isEmpty)∨(∃xs,SqT K H p xs∧k= !xs.isEmpty)∨ ∃kvs,H p=ae (.dK kvs)∧k= !kvs.isEmpty
 |_=>False
theorem zob{κ:Type}{kvs:List (κ×V)}{vs:List (κ×Value)}(r:KV kvs vs):(!vs.isEmpty)= !kvs.isEmpty:=by
 cases r<;>rfl
theorem zil{xs:List V}{its:List Value}(r:Vals xs its):(!its.toArray.isEmpty)= !xs.isEmpty:=by
 cases r<;>simp
theorem zhV:(sizeLine:Nat)<2 ^ 63:=by rw[dj];decide
theorem zxt:zzZ X (λx H Q=>∃k,zzq X.K x H k∧Q k H):=by
 intro pins s σ H x v Q I rx h;obtain⟨k,e,q⟩:=h;have hl:=zhV;have hs:sizeLine=16777216:=dj;cases x with
 |non=>
  cases rx;have e':k=false:=e;subst e';exact truthy_none ⟨H,I,q⟩
 |bl b=>
  cases rx;have e':k=b:=e;subst e';exact ia ⟨H,I,q⟩
 |int i=>
  obtain⟨t,rfl⟩:=rx;have e':k=(i != 0):=e;subst e';exact PySem.P.truthy_int ⟨H,I,q⟩
 |str y=>
  obtain⟨t,rfl⟩:=rx;obtain⟨hy,e'⟩:y.length≤sizeLine∧k=((y.length:Int) != 0):=e;subst e';exact PySem.P.truthy_str (by omega) ⟨H,I.tok _,q⟩
 |byt y=>
  obtain⟨t,rfl⟩:=rx;obtain⟨hy,e'⟩:y.size≤sizeLine∧k=((y.size:Int) != 0):=e;subst e';exact PySem.W.truthy_bytes (by omega) ⟨H,I.tok _,q⟩
 |ref p=>
  cases rx;have e':(∃xs,SqL X.K H p xs∧k= !xs.isEmpty)∨(∃xs,SqT X.K H p xs∧k= !xs.isEmpty)∨ ∃kvs,H p=ae (.dK kvs)∧k= !kvs.isEmpty:=e;rcases e' with⟨xs,hx,e'⟩ |⟨xs,hx,e'⟩ |⟨kvs,hx,e'⟩
  ·subst e';obtain⟨its,r,pl,hz⟩:=I.list hx;have hlen:=r.length;exact wpAny_truthy_list pl.isList (by simp only[aQ];omega) ⟨H,I.tok _,by rw[zil r];exact q⟩
  ·subst e';obtain⟨its,r,pl,hz⟩:=I.tuple hx;have hlen:=r.length;exact truthy_tuple pl (by simp only[aQ];omega) ⟨H,I.tok _,by rw[zil r];exact q⟩
  ·subst e';obtain⟨hz,hS,vs,r,m⟩:kvs.length≤sizeLine∧(p == ca)=false∧ ∃vs,KV kvs vs∧s.heap.DictOf (zaY X.prog X.w) p vs:=I.hok p _ hx;have hlen:kvs.length=vs.length:=du r;exact wpAny_truthy_dict hS m (by omega) ⟨H,I.tok _,by rw[zob r];exact q⟩
 |_=>exact(show False from e).elim
theorem zqZ (ha:PE X a ta) (he:∀whole,isTrue a X.env whole=(do let v ←whole;standAt a.pos;holding [v] (truthy v))) :
  PT X a (λσ H Q=>ta σ H λx H'=>∃k,zzq X.K x H' k∧Q k H'):=by
 intro pins s σ H Q I h;exact isTrue_plain (thn (ha pins s σ H _ I h) λv s1 ⟨x,H1,I1,r1,q1⟩=>zxt pins s1 σ H1 x v Q I1 r1 q1) (he _)
theorem op_add_str:OpR X (bM .Add) (λx y H Q=>∃i j,x= .str i∧y= .str j∧i.length+j.length≤sizeLine∧Q (.str (i++j)) H):=by
 intro pins s σ H x y v u Q I rx ry h;obtain⟨i,j,rfl,rfl,hz,q⟩:=h;obtain⟨t,rfl⟩:=rx;obtain⟨t',rfl⟩:=ry;exact add_str (λt' tk=>⟨.str (i++j),H,I.tok _,⟨_,rfl⟩,q⟩) hz
theorem zkK{x:V}{us:List Value}(r:Vals [x] us):∃u,us=[u]∧RelV x u:=by
 cases r with
 |cons r1 r2=>cases r2;exact⟨_,rfl,r1⟩
theorem zvy{x y:V}{us:List Value}(r:Vals [x,y] us):∃u w',us=[u,w']∧RelV x u∧RelV y w':=by
 cases r with
 |cons r1 r2=>
  cases r2 with
  |cons r3 r4=>cases r4;exact⟨_,_,rfl,r1,r3⟩
theorem zpc (hc:X.calm=true):CallR X (.builtin "min") (λxs H Q=>∃i j,xs=[.int i, .int j]∧Q (.int (if j<i then j else i)) H):=by
 intro pins s σ H xs us Q I r h;obtain⟨i,j,rfl,q⟩:=h;obtain⟨u,w',rfl,⟨t,rfl⟩,⟨t',rfl⟩⟩:=zvy r;refine min_two_ints (I.ok.hd hc) λh' tk k=>⟨_,H,I.kept k,?_,q⟩;by_cases hj:j<i
 ·rw[if_pos hj,if_pos hj];exact⟨_,rfl⟩
 ·rw[if_neg hj,if_neg hj];exact⟨_,rfl⟩
theorem zpd:CallR X (.type "int") (λxs H Q=>(∃i,xs=[.int i]∧Q (.int i) H)∨ ∃k,xs=[.bl k]∧Q (.int (if k then 1 else 0)) H):=by
 intro pins s σ H xs us Q I r h;rcases h with⟨i,rfl,q⟩ |⟨k,rfl,q⟩
 ·obtain⟨u,rfl,t,rfl⟩:=zkK r;exact call_int_int ⟨.int i,H,I,⟨_,rfl⟩,q⟩
 ·obtain⟨u,rfl,r1⟩:=zkK r;cases r1;exact call_int_bool ⟨.int (if k then 1 else 0),H,I.tok _,⟨_,rfl⟩,q⟩
end
structure ObjM (h:Heap) (x dx C:Addr) (mA:Str→Option Value):Prop where
  obj:h.get? x=ae (gN C dx)
  ns:h.Ns1 dx mA
  ne:dx≠x
theorem zpU{h:Heap}{dx:Addr}{mA:Str→Option Value}(n:h.Ns1 dx mA):∃od,h.get? dx=ae od∧ ∀name,iu name od=ae (mA name):=by
 obtain⟨o,es,ep,ho,hd,hk,_,hm⟩:=n;refine⟨o,ho,λname=>?_⟩;have e:=hm name;unfold nsFind findBy at e;rw[←Array.find?_toList]at e;unfold iu;rw[hd];dsimp only;split
 ·rename_i y q;rw[q]at e;exact congrArg ae e
 ·rename_i q;rw[q]at e;have a:es.toList.any (·.refKey)=false:=by
   rw[List.any_eq_false];intro y hy;obtain⟨z,t,hkey⟩:=hk y (Array.mem_toList_iff.mp hy);simp [DictEntry.refKey,hkey]
  have a':¬es.toList.any (·.refKey)=true:=by rw[a];exact cU
  rw[if_neg a'];exact congrArg ae e
theorem ObjM.look{h:Heap}{x dx C:Addr}{mA:Str→Option Value}(I:ObjM h x dx C mA):∃od,PySem.W.InstAt h x (gN C dx) C (ae od)∧ ∀name,iu name od=ae (mA name):=
 let ⟨od,ho,hl⟩:=zpU I.ns
 ⟨od,⟨I.obj,rfl,rfl,ho⟩,hl⟩
section
variable {P:aE}{w:aB}{H:Hp}{h:Heap}{a C dx:Addr}{fs:List (Str×V)}
theorem ztC (hok:HOk P w H h) (e:H a=ae (.ins C dx fs)):∃mA,ObjM h a dx C mA∧(∀f,RelO (fs.lookup f) (mA f))∧PySem.Within mA (fs.map (·.1))∧fs.length≤1000∧H dx=ae (.own a):=by
 obtain⟨d,z,ne,ob,mA,n,r,q⟩:=(show ObjOk P w H h a (.ins C dx fs) from hok a _ e);exact⟨mA,⟨ob,n,ne⟩,r,q,z,d⟩
end
structure Cls (K:aj) (C:Addr):Prop where
  pg:iG K C ik=true
  hd:PySem.W.hasDictIn K C=true
  po:PySem.W.plainOver K C=true
  sa:bN K (.ref C) "__setattr__" =ae (ae (.builtin "object.__setattr__"))
theorem Cls.get{K:aj}{C:Addr}(c:Cls K C) (f:Str):iG K C f=true:=c.pg
section
variable {X:Cx}{pins:List (Addr×Obj)}{σ:St}{H:Hp}{s:ah}{A:aM}{E:Value→ah→Prop}{Q:Value→ah→Prop}{c:Value}{b:Bool}
inductive TyOf (K:aj) (H:Hp):V→Value→Prop where
  |non:TyOf K H .non (.type "NoneType")
  |bl (x:Bool):TyOf K H (.bl x) (.type "bool")
  |int (i:Int):TyOf K H (.int i) (.type "int")
  |str (x:Str):TyOf K H (.str x) (.type "str")
  |flt (x:UInt64):TyOf K H (.flt x) (.type "float")
  |lst {a:Addr}{xs:List V}(e:H a=ae (.lst xs)):TyOf K H (.ref a) (.type "list")
  |frz {a:Addr}{o:Obj}{xs:List V}(e:H a=ae (.frz o (.lst xs))):TyOf K H (.ref a) (.type "list")
  |tup {a:Addr}{xs:List V}(e:H a=ae (.tup xs)):TyOf K H (.ref a) (.type "tuple")
  |dK {a:Addr}{kvs:List (Key×V)}(e:H a=ae (.dK kvs)):TyOf K H (.ref a) (.type "dict")
  |dT {a:Addr}{kvs:List (List Key×V)}(e:H a=ae (.dT kvs)):TyOf K H (.ref a) (.type "dict")
  |ins {a C dx:Addr}{fs:List (Str×V)}(e:H a=ae (.ins C dx fs)) (cl:Cls K C) (ha:bN K (.ref C) "__class__" =ae (ae (.builtin "object.__class__")))
      (hn:PySem.W.specialIn K (.builtin "object.__class__") "__get__" =ae (ae (.builtin "getset_descriptor.__get__"))) (htk:PySem.W.takesIn K (.builtin "object.__class__")=ae true)
      (hm:cT K C (.type "object")=ae true):TyOf K H (.ref a) (.ref C)
theorem zps{x:V}{u t:Value}(I:Inv X pins σ H s) (rx:RelV x u) (ty:TyOf X.K H x t) (e:eM X.K t c=ae b) (h:∀tk,Q (.bool b) { s with toks:=tk }) :
  am (ap X.prog X.w) A (call (.builtin "isinstance") [u,c]) Q E s:=by
 cases ty with
 |non=>cases(show u=ci from rx);exact cq PySem.W.kitx_none I.kIn cO e (λz=>nomatch z) h
 |bl y=>cases(show u=eE y from rx);exact cq PySem.W.kitx_bool I.kIn cO e (λz=>nomatch z) h
 |int i=>obtain⟨t,q⟩:=(show ∃t,u=gd i t from rx);cases q;exact cq PySem.W.kitx_int I.kIn cO e (λz=>nomatch z) h
 |str y=>obtain⟨t,q⟩:=(show ∃t,u=fh y t from rx);cases q;exact cq PySem.W.kitx_str I.kIn cO e (λz=>nomatch z) h
 |flt y=>obtain⟨t,q⟩:=(show ∃t,u=Value.float y t from rx);cases q;exact cq PySem.W.kitx_float I.kIn cO e (λz=>nomatch z) h
 | @lst a xs ea=>
  cases(show u=a_ a from rx);obtain⟨_,_,n,_,h1⟩:=(show ObjOk X.prog X.w H s.heap a (.lst xs) from I.hok a _ ea);exact cq jj I.kIn ⟨_,h1,rfl⟩ e (λz=>nomatch z) h
 | @frz a ob xs ea=>
  cases(show u=a_ a from rx);obtain⟨_,_,_,n,_,h1⟩:=(show ObjOk X.prog X.w H s.heap a (.frz ob (.lst xs)) from I.hok a _ ea);exact cq jj I.kIn ⟨_,h1,rfl⟩ e (λz=>nomatch z) h
 | @tup a xs ea=>
  cases(show u=a_ a from rx);obtain⟨_,_,_,p⟩:=(show ObjOk X.prog X.w H s.heap a (.tup xs) from I.hok a _ ea);obtain⟨o,h1,h2,_⟩:=p;exact cq PySem.W.kitx_tuple I.kIn ⟨o,h1,h2⟩ e (λz=>nomatch z) h
 | @dK a kvs ea=>
  cases(show u=a_ a from rx);obtain⟨_,_,vs,_,p⟩:=(show ObjOk X.prog X.w H s.heap a (.dK kvs) from I.hok a _ ea);obtain⟨o,es,ep,h1,h2,_⟩:=p;exact cq jA I.kIn ⟨o,h1,h2.1⟩ e (λz=>nomatch z) h
 | @dT a kvs ea=>
  cases(show u=a_ a from rx);obtain⟨_,_,xs,_,o,es,ep,h1,h2,_⟩:=(show ObjOk X.prog X.w H s.heap a (.dT kvs) from I.hok a _ ea);exact cq jA I.kIn ⟨o,h1,h2.1⟩ e (λz=>nomatch z) h
 | @ins a C dx fs ea cl ha hn htk hm=>
  cases(show u=a_ a from rx);obtain⟨mA,O,_⟩:=ztC I.hok ea;obtain⟨od,J,_⟩:=O.look;exact cq (PySem.W.kitx_own (cl.get _) cl.hd ha hn htk hm) I.kIn J e (λz=>nomatch z) h
end
structure Room (k:Nat) (A:aM):Prop where
  hd:A.handled=none
  dp:A.depth+3*k+5<recursionLimit
  un:A.units+16*k+200<cLine
theorem Room.deeper{k:Nat}{A:aM}(r:Room (k+1) A) (env:bv):Room k (A.deeper env):=
 ⟨r.hd,by have:=r.dp;show A.depth+1+3*k+5<_;omega,by have:=r.un;show A.units+3+16*k+200<_;omega⟩
theorem Room.depth{k:Nat}{A:aM}(r:Room k A):A.depth<recursionLimit:=by have:=r.dp;omega
theorem Room.units{k:Nat}{A:aM}(r:Room k A):A.units+64<cLine:=by have:=r.un;omega
noncomputable def zAD:TA:=λ_ H Q=>Q [] H
noncomputable def zyi (ta:TE) (tr:TA):TA:=λσ H Q=>ta σ H λx H1=>tr σ H1 λxs H2=>Q (x::xs) H2
section
variable {X:Cx}{e:Expr}{es:List Expr}{te:TE}{t:TA}{pos:aC}
theorem pa_nil:PA X [] zAD:=λ_ _ _ _ H Q I h=>jK ⟨[],H,I, .nil,h⟩
theorem zdu (ha:PE X e te) (hr:PA X es t) (hs:ao (e::es) X.env=(false,ay e X.env)::ao es X.env:=by rfl):PA X (e::es) (zyi te t):=by
 intro pos pins s σ H Q I h;rw[hs];show am _ _ (spliced ((false,ay e X.env)::aP pos (ao es X.env))) _ _ s;refine ic (thn (ha pins s σ H _ I h) λu s1 ⟨x,H1,I1,r1,q1⟩=>?_);exact thn (hr pos pins s1 σ H1 _ I1 q1) λus s2 ⟨xs,H2,I2,r2,q2⟩=>⟨x::xs,H2,I2, .cons r1 r2,q2⟩
noncomputable def zAV (t:TA):TE:=λσ H Q=>t σ H λxs H1=>xs.length≤sizeLine∧ ∀p,H1 p=none→Q (.ref p) (upd H1 p (.tup xs))
noncomputable def zAr (t:TA):TE:=λσ H Q=>t σ H λxs H1=>xs.length≤sizeLine∧ ∀p,H1 p=none→Q (.ref p) (upd H1 p (.lst xs))
theorem zwU{x1}(h:PA X es t):PE X (.Tuple es x1 pos) (zAV t):=by
 intro pins s σ H Q I hq;refine wpAny_Tuple_spliced (thn (h pos pins s σ H _ I hq) λus s1 ⟨xs,H1,I1,r,z,q⟩=>⟨by rw[←r.length];exact z,?_⟩);have hf:H1 s1.heap.objs.size=none:=I1.hok.fresh (au _);refine⟨.ref s1.heap.objs.size,upd H1 s1.heap.objs.size (.tup xs),I1.laid (t':=s1.toks) (λb u e=>aH _ e) (au _) ?_,rfl,q _ hf⟩;exact⟨z,us,r,⟨_,bi _ rfl,rfl,_,rfl⟩⟩
theorem zxQ (h:PA X es t):PE X (.List es pos) (zAr t):=by
 intro pins s σ H Q I hq;refine wpAny_List_spliced (thn (h pos pins s σ H _ I hq) λus s1 ⟨xs,H1,I1,r,z,q⟩=>⟨by rw[←r.length];exact z,?_⟩);have hf:H1 s1.heap.objs.size=none:=I1.hok.fresh (au _);refine⟨.ref s1.heap.objs.size,upd H1 s1.heap.objs.size (.lst xs),I1.laid (t':=s1.toks) (λb u e=>aH _ e) (au _) ?_,rfl,q _ hf⟩;exact⟨z,us,0,r,bi _ rfl⟩
end
abbrev Sp:=List V→Hp→VK→XK→Prop
abbrev CXT:=List bv→Hp→ah→XK→Value→ah→Prop
structure Env0 (P:aE) (w:aB) (K:aj) (mg:Str→Option Value) (base:Heap) (A:aM) (outer:List bv) (s:ah) (H:Hp):Prop where
  frames:A.frames=ae outer
  mod:Mod K mg base
  bs:∀b o,base.get? b=ae o→s.heap.get? b=ae o∧H b=none
  bsz:base.objs.size≤s.heap.objs.size
  funs:s.heap.FunFrames base outer
  frf:∀b∈frs outer,H b=none
  hok:HOk P w H s.heap
  bare:b5 s.gens
def CE (outer:List bv) (P:aE) (w:aB) (H:Hp) (s:ah) (Q:VK) (u:Value) (s':ah):Prop:=
 ∃v H',s'.os=s.os∧b5 s'.gens∧Un (frs outer) [] H H' s.heap s'.heap∧HOk P w H' s'.heap∧RelV v u∧Q v H'
def CR (CX:CXT) (outer:List bv) (P:aE) (w:aB) (H:Hp) (s:ah) (Q:VK) (E:XK) (r:Result) (s':ah):Prop:=
 match r with
 | .ok (.ret u)=>CE outer P w H s Q u s'
 | .ok _=>False
 | .error e=>CX outer H s E e s'
structure FnOk (P:aE) (w:aB) (K:aj) (mg:Str→Option Value) (base:Heap) (CX:CXT) (k:Nat) (f:Addr) (fd:bC) (ps:List Str) (sp:Sp):Prop where
  len:∀vs H Q E,sp vs H Q E→vs.length=ps.length
  run:∀(A:aM) (outer:List bv) (s:ah) (H:Hp) (args:Args) (us:List Value) (vs:List V) (Q:VK) (E:XK),Room k A→Env0 P w K mg base A outer s H→dU s fd args (ps.zip us)→Vals vs us→sp vs H Q E→
    dC (ap P w) A (.call (.ref f) args) (CR CX outer P w H s Q E) s
section
variable {X:Cx}{pins:List (Addr×Obj)}{σ:St}{H:Hp}{s:ah}
theorem Inv.env0 (I:Inv X pins σ H s):Env0 X.prog X.w X.K X.mg X.base X.A X.stack s H:=
 ⟨I.ok.frames,I.ok.mod,I.bs,aX I.ok.bsz I.sz,I.stack,I.stkFree,I.hok,I.bare⟩
end
def Binds (K:aj) (fd:bC) (ps:List Str) (ds:List Value):Prop:=
 ∀(s:ah) (us:List Value),K.In s.heap→(us++ds).length=ps.length→dU s fd ⟨us,[]⟩ (ps.zip (us++ds))
theorem Binds.all{K:aj}{fd:bC}{ps:List Str}(h:∀us:List Value,us.length=ps.length→bindArgs fd ⟨us,[]⟩=pure (ps.zip us)):Binds K fd ps []:=λs us _ hl=>by
 rw[bI]at hl⊢;exact .of_eq (h us hl)
structure FnScope (N P:List Str) (sc:Scope):Prop where
  kind:sc.kind= .function
  co:sc.isCoroutine=false
  gen:sc.isGenerator=false
  nd:N.Nodup
  pre:N.take P.length=P
  par:∀x∈P,sc.names.lookup x=ae .local∨sc.names.lookup x=ae .cell
  nofree:∀y∈sc.names,y.2≠ .free
theorem zkA{kindOf:Str→Option bP}{x:Str}:∀{binds:List (Str×Value)}{m:Str→Option Value},(∀v,(x,v)∉binds)→c9 kindOf binds m x=m x
 | [],_,_=>rfl
 | (n,v)::r,m,h=>by
  unfold c9;rw[zkA λw hw=>h w (aK _ hw)];split
  ·have:x≠n:=by rintro rfl;exact h v a0
   simp [this]
  ·rfl
theorem zjp{kindOf:Str→Option bP}{x:Str}:∀{binds:List (Str×Value)}{m:Str→Option Value},(∀v,(x,v)∉binds)→de kindOf binds m x=m x
 | [],_,_=>rfl
 | (n,v)::r,m,h=>by
  unfold de;rw[zjp λw hw=>h w (aK _ hw)];split
  ·rfl
  ·have:x≠n:=by rintro rfl;exact h v a0
   simp [this]
theorem zjK{kindOf:Str→Option bP}{x:Str}{v:Value}:∀{P:List Str}{vs:List Value}{i:Nat}{m:Str→Option Value},P.Nodup→P[i]? =ae x→vs[i]? =ae v→kindOf x=ae .local→
  c9 kindOf (P.zip vs) m x=ae v
 | [],_,_,_,_,h,_,_=>by simp at h
 |_::_,[],_,_,_,_,h,_=>by simp at h
 |p::P,w::vs,0,m,nd,h1,h2,hk=>by
  simp at h1 h2;subst h1;subst h2;show c9 kindOf ((p,w)::P.zip vs) m p=_;unfold c9;rw[zkA λv hv=>(dc.mp nd).1 (gk hv).1,if_pos hk];simp
 |p::P,w::vs,i+1,m,nd,h1,h2,hk=>by
  show c9 kindOf ((p,w)::P.zip vs) m x=_;unfold c9;exact zjK (i:=i) (dc.mp nd).2 (by simpa using h1) (by simpa using h2) hk
theorem zjs{kindOf:Str→Option bP}{x:Str}{v:Value}:∀{P:List Str}{vs:List Value}{i:Nat}{m:Str→Option Value},P.Nodup→P[i]? =ae x→vs[i]? =ae v→kindOf x≠ae .local→
  de kindOf (P.zip vs) m x=ae v
 | [],_,_,_,_,h,_,_=>by simp at h
 |_::_,[],_,_,_,_,h,_=>by simp at h
 |p::P,w::vs,0,m,nd,h1,h2,hk=>by
  simp at h1 h2;subst h1;subst h2;show de kindOf ((p,w)::P.zip vs) m p=_;unfold de;rw[zjp λv hv=>(dc.mp nd).1 (gk hv).1,if_neg hk];simp
 |p::P,w::vs,i+1,m,nd,h1,h2,hk=>by
  show de kindOf ((p,w)::P.zip vs) m x=_;unfold de;exact zjs (i:=i) (dc.mp nd).2 (by simpa using h1) (by simpa using h2) hk
noncomputable def start (N:List Str) (vs:List V):St:=vs.map ae++aO (N.length - vs.length) none
noncomputable def ztL (CX:CXT) (P:aE) (w:aB) (K:aj) (mg:Str→Option Value) (base:Heap) (N:List Str) (qual:Str) (scope:Scope) (f:Addr) (cd:Value) (A:aM) (outer:List bv) (s:ah) (H:Hp) (E:XK):Cx where
  prog:=P
  w:=w
  K:=K
  mg:=mg
  base:=base
  A:=A.deeper (cb qual scope s.heap.objs.size f cd)
  N:=N
  s₀:=s
  H₀:=H
  env:=cb qual scope s.heap.objs.size f cd
  outer:=outer
  stack:=cb qual scope s.heap.objs.size f cd::outer
  ex:=[]
  calm:=true
  fn:=λ_=>true
  pn:=[]
  xe:=λe s'=>am (ap P w) (A.deeper (cb qual scope s.heap.objs.size f cd)) (leaving (cb qual scope s.heap.objs.size f cd) e) (λ_ s''=>CX outer H s E e s'') (λe' s''=>CX outer H s E e' s'') s'
theorem znm{sc:Scope}{n:Nat}{x:Str}(h:sc.names.lookup x=ae .cell):∃c,(gp n sc.names []).lookup x=ae c:=by
 have q:=jQ sc.names n [] (.inl h);exact dG.mp q
theorem zoT{CX:CXT}{P:aE}{w:aB}{K:aj}{mg:Str→Option Value}{base:Heap}{N ps:List Str}{qual:Str}{scope:Scope}{f:Addr}{cd:Value}{A:aM}{outer:List bv}{s s1:ah}{H:Hp}{E:XK}{us:List Value}{vs:List V}
  (S:FnScope N ps scope) (hd:A.handled=none) (e0:Env0 P w K mg base A outer s H) (hl:vs.length=ps.length) (r:Vals vs us)
  (x:InCallC s s.heap.objs.size (c9 (cb qual scope s.heap.objs.size f cd).kindOf (ps.zip us) λ_=>none) (gp (s.heap.objs.size+1) scope.names []) (de (cb qual scope s.heap.objs.size f cd).kindOf (ps.zip us) λ_=>none) s1) :
  Inv (ztL CX P w K mg base N qual scope f cd A outer s H E) [] (start N vs) H s1:=by
 have hpl:ps.length≤N.length:=by have:=congrArg dw S.pre;rw[cy]at this;omega
 obtain⟨h1,tk,rfl,hk⟩:=x.done;have noA:∀b:Addr,b∉(ztL CX P w K mg base N qual scope f cd A outer s H E).ex:=λb z=>absurd (show b∈([]:List Addr) from z) (by simp);refine⟨⟨e0.mod,S.kind,rfl,rfl,au _,λy z c h1 h2=>?_,λy hy=>?_,λy c _ h=>?_,λ_=>hd,aM.frames_deeper e0.frames, .inr ⟨rfl,rfl⟩,λb z=>absurd z (noA b),e0.bs,e0.bsz,λb _ _=>noA b,λb z=>absurd z (noA b),e0.funs,e0.frf⟩,
  rfl,e0.bare,Un.kept hk,⟨_,x.toInCall.ns,λi y v h1 h2 h3=>?_⟩,λy c h=>⟨_,x.cell y c h⟩,e0.hok.fresh (au _),λy c h=>?_,λp hp=>absurd (show p∈([]:List (Addr×Obj)) from hp) (by simp),e0.hok.kept hk,?_⟩
 ·exact name_of_addr x.apart (dS h1) (dS h2)
 ·have hy:scope.names.lookup y=ae .cell∨scope.names.lookup y=ae .free:=hy;rcases hy with hy |hy
  ·exact znm hy
  ·exact absurd rfl (S.nofree _ (dS hy))
 ·exact gT (x.above y c (dS h))
 ·have hi:i<vs.length:=by
   unfold start at h2;by_cases hi:i<vs.length
   ·exact hi
   ·rw[ig (by simpa using hi)]at h2;rw[jr]at h2;split at h2<;>cases h2
  have ha:vs[i]? =ae v:=by
   unfold start at h2;rw[iX (by simpa using hi),bt]at h2;cases e:vs[i]? with
   |none=>rw[e]at h2;cases h2
   |some a=>rw[e]at h2;cases h2;rfl
  obtain⟨u,hu,rv⟩:=r.get ha;have hp:ps[i]? =ae y:=by
   rw[←S.pre,List.getElem?_take_of_lt (by omega)];exact h1
  have ndP:ps.Nodup:=by rw[←S.pre];exact S.nd.sublist (kz _ _)
  refine⟨u,rv,?_⟩;rcases S.par y (aV hp) with k |k
  ·exact .inl ⟨k,zjK ndP hp hu k⟩
  ·obtain⟨c,e⟩:=znm (n:=s.heap.objs.size+1) k;refine .inr ⟨.inl k,c,e,?_⟩;have q:=x.cell y c e;rw[zjs ndP hp hu (by show scope.names.lookup y≠_;rw[k];decide)]at q;exact q
 ·exact e0.hok.fresh (gT (x.above y c (dS h)))
 ·unfold start;show _=N.length;rw[aS,aq,ij];omega
theorem zzv{CX:CXT}{P:aE}{w:aB}{K:aj}{mg:Str→Option Value}{base:Heap}{k:Nat}{f:Addr}{name qual:Str}{params:Arguments}{body:List Stmt}{scope:Scope}{dV kV doc pm cdv ct oc:Value}{an od:Option Addr}
  {osl:Array (Option Value)}{N ps:List Str}{sp:Sp}(lk:K.lookup f=ae ⟨oc,od, .func (dA name qual params body scope dV kV doc pm an cdv ct),osl⟩) (hcd:f9 K cdv qual=true) (S:FnScope N ps scope)
  (len:∀vs H Q E,sp vs H Q E→vs.length=ps.length)
  (hbody:∀(A:aM) (outer:List bv) (s:ah) (H:Hp) (vs:List V) (Q:VK) (E:XK),Room k (A.deeper (cb qual scope s.heap.objs.size f cdv))→sp vs H Q E→
   ∃t,PSs (ztL CX P w K mg base N qual scope f cdv A outer s H E) body t∧t { nx:=λ_ H'=>Q .non H',rt:=Q } (start N vs) H) :
  FnOk P w K mg base CX (k+1) f (dA name qual params body scope dV kV doc pm an cdv ct) ps sp:=by
 refine⟨len,λA outer s H args us vs Q E hr e0 hb r hsp=>?_⟩;have hl:=len _ _ _ _ hsp;have KX:K.In s.heap:=e0.mod.kin.keeps λb o e=>(e0.bs b o e).1;have lim:s.heap.NoLimit:=e0.mod.nolimit.keeps λb o e=>(e0.bs b o e).1;have hkind:∀y∈ps.zip us,scope.names.lookup y.1=ae .local∨(scope.names.lookup y.1=ae .cell∧((gp (s.heap.objs.size+1) scope.names []).lookup y.1).isSome=true):=λ⟨n,v⟩ hy=>by
  rcases S.par n (gk hy).1 with q |q
  ·exact .inl q
  ·exact .inr ⟨q,jQ _ _ _ (.inl q)⟩
 refine codeAny_call_function hr.depth (KX _ _ lk) rfl S.co S.gen rfl (PySem.W.codeRec_of KX hcd) (hb _ _ _ _ ?_);refine wpAny_newFunctionEnv_cells S.kind hkind λenv he s1 x=>?_;subst he;refine⟨lim.keeps x.toInCall.keep,codeAny_func ?_⟩;obtain⟨t,ht,hq⟩:=hbody A outer s H vs Q E (hr.deeper _) hsp;have I:Inv (ztL CX P w K mg base N qual scope f cdv A outer s H E) [] (start N vs) H s1:=zoT S hr.hd e0 hl r x;refine cm (ht [] s1 (start N vs) H _ I hq) (λfl s' hs=>?_) λe s' hs=>hs;have fin:∀{σ':St}{H':Hp}{v:V}{u:Value},Inv (ztL CX P w K mg base N qual scope f cdv A outer s H E) [] σ' H' s'→RelV v u→Q v H'→CE outer P w H s Q u s':=
  λ{σ' H' v u} J rv q=>⟨v,H',J.os,J.bare,J.base,J.hok,rv,q⟩
 cases fl with
 |ret u=>
  obtain⟨v,σ',H',J,rv,q⟩:=hs;exact fin J rv q
 |next=>
  obtain⟨σ',H',J,q⟩:=hs;exact fin (v:=V.non) (u:=ci) J rfl q
 |brk=>
  obtain⟨_,_,_,q⟩:=hs;exact cc q
 |cont=>
  obtain⟨_,_,_,q⟩:=hs;exact cc q
section
variable {X:Cx}{x:Str}{p pos:aC}{e:Expr}{es:List Expr}{t:TA}{id T:String}{r:List V→Hp→VK→Prop}
noncomputable def tCB (r:List V→Hp→VK→Prop) (t:TA):TE:=λσ H Q=>t σ H λvs H1=>r vs H1 Q
theorem ziy (hc:CallR X (.builtin id) r) (hg:Gl X x) (hm:X.mg x=none) (hv:bQ x=ae (.builtin id)) (ha:PA X (e::es) t) (hn:x≠ "__name__" :=by decide) (hdb:(x == ("__debug__" :Str))=false:=by decide)
  (he:ao (e::es) X.env=(false,ay e X.env)::ao es X.env:=by rfl) (hpl:(aP pos (ao es X.env)).any (·.1)=false:=by rfl):PE X (.Call (.Name x p) (e::es) [] pos) (tCB r t):=by
 intro pins s σ H Q I h;refine gD (zik I hg hm hv ?_ hn hdb);exact PyProof.Rows.callWith_builtin1 (thn (ha pos pins s σ H _ I h) λus s1 ⟨vs,H1,I1,r1,q1⟩=>hc pins s1 σ H1 vs us Q I1 r1 q1) he hpl
theorem zgM (hc:CallR X (.type T) r) (hg:Gl X x) (hm:X.mg x=none) (hv:bQ x=ae (.type T)) (ha:PA X (e::es) t) (hn:x≠ "__name__" :=by decide) (hdb:(x == ("__debug__" :Str))=false:=by decide)
  (he:ao (e::es) X.env=(false,ay e X.env)::ao es X.env:=by rfl) (hpl:(aP pos (ao es X.env)).any (·.1)=false:=by rfl):PE X (.Call (.Name x p) (e::es) [] pos) (tCB r t):=by
 intro pins s σ H Q I h;refine gD (zik I hg hm hv ?_ hn hdb);exact fW (thn (ha pos pins s σ H _ I h) λus s1 ⟨vs,H1,I1,r1,q1⟩=>hc pins s1 σ H1 vs us Q I1 r1 q1) he hpl
end
end L2
namespace HT
open PySem PyProof.Rows
section
variable {prog:aE}{w:aB}{A:aM}{E:Value→ah→Prop}{s:ah}
theorem cat_tup{t b:Addr}{vs ws:List Value}{Q:Value→ah→Prop}(ht:dR s.heap t vs.toArray) (hb:dR s.heap b ws.toArray) (hv:vs≠ [])
  (h1:ws=[]→Q (.ref t) s) (h2:ws≠ []→Q (.ref s.heap.objs.size) { s with heap:=s.heap.push { cls:= .type "tuple",data:= .seq (vs++ws).toArray } })
  (hsz:vs.length+ws.length≤sizeLine):am (ap prog w) A (bM .Add (.ref t) (.ref b)) Q E s:=by
 obtain⟨⟨cls,dd,data,sl⟩,ho,hc,n,hd⟩:=id ht;obtain⟨⟨cls2,dd2,data2,sl2⟩,ho2,hc2,n2,hd2⟩:=id hb;simp only at hc hd hc2 hd2;subst hc hd hc2 hd2;have e:vs.toArray++ws.toArray=(vs++ws).toArray:=by simp
 by_cases hw:ws=[]
 ·exact io ⟨_,ho,rfl⟩ ⟨_,ho2,rfl⟩ h9 gK ip gu (gZ _ _)
   (tuple_addW1 t b vs.toArray ws.toArray n n2 dd dd2 sl sl2 (by simpa using hv) (by simp [hw])) ⟨ho,ho2,h1 hw⟩
 ·refine io ⟨_,ho,rfl⟩ ⟨_,ho2,rfl⟩ h9 gK ip gu (gZ _ _)
   (tuple_addW2 t b vs.toArray ws.toArray n n2 dd dd2 sl sl2 (by simpa using hv) (by simpa using hw) (by rw[aQ,aQ];exact hsz)) ⟨ho,ho2,?_⟩
  rw[e];exact h2 hw
noncomputable def sIx (n d:Nat):Option Int→Nat
 |none=>d
 |some v=>if v<0 then(v+(n:Int)).toNat else min v.toNat n
theorem sIx_none (n d:Nat):sIx n d none=d:=rfl
theorem sIx_nat (n d k:Nat):sIx n d (ae (k:Int))=min k n:=by
 show(if(k:Int)<0 then((k:Int)+(n:Int)).toNat else min (k:Int).toNat n)=min k n;rw[if_neg (by omega),bW]
theorem sIx_le (n d:Nat) (hd:d≤n) (o:Option Int):sIx n d o≤n:=by
 cases o with
 |none=>exact hd
 |some v=>
  show(if v<0 then(v+(n:Int)).toNat else min v.toNat n)≤n;by_cases hv:v<0
  ·rw[if_pos hv];omega
  ·rw[if_neg hv];exact Nat.min_le_right _ _
theorem zoH (v:Int) (n d:Nat):(if v<0 then max (v+(n:Int)) 0 else min v (n:Int))=((sIx n d (ae v):Nat):Int):=by
 show(if v<0 then max (v+(n:Int)) 0 else min v (n:Int))=(((if v<0 then(v+(n:Int)).toNat else min v.toNat n):Nat):Int);by_cases hv:v<0
 ·simp only[if_pos hv];omega
 ·simp only[if_neg hv];omega
theorem znF (lo hi:Option Int) (n:Nat):gL lo hi 1 (n:Int)=(((sIx n 0 lo:Nat):Int),((sIx n n hi:Nat):Int)):=by
 have h1:¬((1:Int)<0):=by omega
 unfold gL;simp only[h1,if_false];refine Prod.ext ?_ ?_
 ·cases lo with
  |none=>rfl
  |some v=>exact zoH v n 0
 ·cases hi with
  |none=>rfl
  |some v=>exact zoH v n n
theorem zoe (i j:Nat):fF (i:Int) (j:Int) 1=j - i:=by
 unfold fF;have h1:(1:Int) > 0:=by omega
 simp only[h1,if_true,Int.ediv_one];split<;>omega
theorem zig{v:Value}{o:Option Int}{Q:Option Int→ah→Prop}(p:cJ v o) (h:Q o s):am (ap prog w) A (bV.Slice.slicePartIndex v) Q E s:=by
 cases p with
 |none=>exact jZ h
 |int i t=>exact slicePart_int h
theorem sliceApplied_gen{sl:Addr}{vl vu:Value}{lo hi:Option Int}{n:Nat}{Q:Int×Int×Nat→ah→Prop}(hs:s.heap.IsSliceOf sl vl vu .none) (pl:cJ vl lo) (pu:cJ vu hi)
  (h:Q (((sIx n 0 lo:Nat):Int),1,sIx n n hi - sIx n 0 lo) s):am (ap prog w) A (jg (.ref sl) (pure (n:Int))) Q E s:=by
 obtain⟨os,hos,hcs,hds⟩:=id hs;unfold jg bV.Slice.sliceFields;refine ak (ak (bA hos hds (x:=vl) rfl (ak (bA hos hds (x:=vu) rfl (ak (bA hos hds (x:= .none) rfl (aD ?_)))))));refine ak (jZ ?_);show am _ _ (if((1:Int) == 0)=true then _ else _) _ _ s;rw[if_neg (by decide)];refine ak (zig pl (ak (zig pu (ak (aD ?_)))));show am _ _ (match gL lo hi 1 (n:Int) with | (lo,hi)=>pure (lo,(1:Int),fF lo hi 1)) _ _ s;rw[znF lo hi n];show am _ _ (pure (((sIx n 0 lo:Nat):Int),(1:Int),fF ((sIx n 0 lo:Nat):Int) ((sIx n n hi:Nat):Int) 1)) _ _ s;rw[zoe];exact aD h
theorem zrr (xs:Array Value) (i k:Nat):((aU k).filterMap λ(m:Nat)=>xs[((i:Int)+(m:Int)*1).toNat]?).toArray=((xs.toList.drop i).take k).toArray:=by
 have e:(λ(m:Nat)=>xs[((i:Int)+(m:Int)*1).toNat]?)=λm=>xs[i+m]? :=by
  funext m;have:((i:Int)+(m:Int)*1).toNat=i+m:=by omega
  rw[this]
 rw[e];have:=iv xs i k;rw[List.filterMap_map]at this;have e2:((λx=>xs[x]?)∘λx=>i+x)=λm=>xs[i+m]? :=rfl;rw[e2]at this;rw[this]
theorem getItem_tuple_cut{t sl:Addr}{items:Array Value}{vl vu:Value}{lo hi:Option Int}{Q:Value→ah→Prop}(ht:dR s.heap t items) (hs:s.heap.IsSliceOf sl vl vu .none) (pl:cJ vl lo) (pu:cJ vu hi)
  (hw:¬(sIx items.size 0 lo=0∧sIx items.size items.size hi=items.size))
  (h:Q (.ref s.heap.objs.size) { s with heap:=s.heap.push { cls:= .type "tuple",data:= .seq ((items.toList.drop (sIx items.size 0 lo)).take (sIx items.size items.size hi - sIx items.size 0 lo)).toArray } })
  (hsz:items.size≤sizeLine):am (ap prog w) A (dr (.ref t) (.ref sl)) Q E s:=by
 have htake:sizeOk (.seq ((items.toList.drop (sIx items.size 0 lo)).take (sIx items.size items.size hi - sIx items.size 0 lo)).toArray):=by
  show((items.toList.drop (sIx items.size 0 lo)).take (sIx items.size items.size hi - sIx items.size 0 lo)).toArray.size≤sizeLine;rw[aQ,cy,cD,gv];omega
 have hj:sIx items.size items.size hi≤items.size:=sIx_le _ _ (au _) hi;obtain⟨os,hos,hcs,hds⟩:=id hs;have hTs:s.TypeIs (.ref sl) "slice" :=⟨os,hos,hcs⟩;unfold dr
 try with_reducible refine fQ ?_
 first |refine ak (aD ?_) |skip
 refine ak (iC ht.typeIs (by decide) ?_);refine ak (da (name:=bf "__getitem__") ht.typeIs eD
  (dg eD ht.typeIs kA ?_ (ki _ _)))
 show am _ _ (i3 (.ref t) >>= _) _ _ s;refine ak (tupleItemsOf_ ht ?_);refine ak (eJ hTs ?_);rw[if_pos (by decide)];refine ak (sliceApplied_gen hs pl pu ?_);have hno:¬((((sIx items.size 0 lo:Nat):Int) == 0&&(1:Int) == 1&&(sIx items.size items.size hi - sIx items.size 0 lo) == items.size)=true):=by
  intro q;rw[b3,b3]at q;have q1:((sIx items.size 0 lo:Nat):Int)=0:=fU q.1.1;have q2:sIx items.size items.size hi - sIx items.size 0 lo=items.size:=fU q.2;exact hw ⟨by omega,by omega⟩
 show am _ _ (if(((sIx items.size 0 lo:Nat):Int) == 0&&(1:Int) == 1&&(sIx items.size items.size hi - sIx items.size 0 lo) == items.size)=true then _ else _) _ _ s;rw[if_neg hno,zrr]
 first
  |exact ak (m:=fy _) (eA (aD ⟨_,rfl,aD h⟩) htake)
  |exact ak (m:=fy _) (eA (ak (aD (aD ⟨_,rfl,aD h⟩))) htake)
  |exact ak (ak (m:=fy _) (eA (aD (aD ⟨_,rfl,aD h⟩)) htake))
  |exact ak (ak (m:=fy _) (eA (aD ⟨_,rfl,aD h⟩) htake))
end
end HT
namespace L2
open PySem PySem.Spec PyProof.Rows
abbrev TO:=St→Hp→(Option Int→Hp→Prop)→Prop
def PO (X:Cx) (e:Option Expr) (t:TO):Prop:=
 ∀(pins:List (Addr×Obj)) (s:ah) (σ:St) (H:Hp) (Q:Option Int→Hp→Prop),Inv X pins σ H s→t σ H Q→
  am (ap X.prog X.w) X.A (evalPart e X.env) (λu s'=>∃o H',Inv X pins σ H' s'∧cJ u o∧Q o H') X.xe s
noncomputable def zvr:TO:=λ_ H Q=>Q none H
noncomputable def zyI (t:TE):TO:=λσ H Q=>t σ H λx H1=>∃i,x= .int i∧Q (ae i) H1
section
variable {X:Cx}{e:Expr}{te:TE}{lo hi:Option Expr}{tl th:TO}{pos p2:aC}
theorem po_none:PO X none zvr:=by
 intro pins s σ H Q I h;rw[evalPart_none];exact aD ⟨none,H,I, .none,h⟩
theorem zuF (h:PE X e te):PO X (ae e) (zyI te):=by
 intro pins s σ H Q I hw;rw[evalPart_some];refine thn (h pins s σ H _ I hw) λu s1 ⟨x,H1,I1,r1,q1⟩=>?_;obtain⟨i,rfl,q⟩:=q1;obtain⟨t,rfl⟩:=r1;exact⟨ae i,H1,I1, .int i t,q⟩
def SlR (X:Cx) (r:V→Option Int→Option Int→Hp→VK→Prop):Prop:=
 ∀(pins:List (Addr×Obj)) (s:ah) (σ:St) (H:Hp) (x:V) (v vl vu:Value) (lo hi:Option Int) (sl:Addr) (Q:VK),Inv X pins σ H s→RelV x v→s.heap.IsSliceOf sl vl vu .none→cJ vl lo→cJ vu hi→r x lo hi H Q→
  ∃T id,gE (.type T) "__getitem__" =pure (ae (.builtin id))∧s.TypeIs v T∧am (ap X.prog X.w) X.A (dr v (.ref sl)) (EP X pins σ Q) X.xe s
theorem SlR.or{r r':V→Option Int→Option Int→Hp→VK→Prop}(h:SlR X r) (h':SlR X r'):SlR X (λx lo hi H Q=>r x lo hi H Q∨r' x lo hi H Q):=by
 intro pins s σ H x v vl vu lo hi sl Q I rx hs pl pu q;rcases q with q |q
 ·exact h pins s σ H x v vl vu lo hi sl Q I rx hs pl pu q
 ·exact h' pins s σ H x v vl vu lo hi sl Q I rx hs pl pu q
noncomputable def tSl (r:V→Option Int→Option Int→Hp→VK→Prop) (te:TE) (tl th:TO):TE:=λσ H Q=>te σ H λx H1=>tl σ H1 λl H2=>th σ H2 λu H3=>r x l u H3 Q
theorem zmb{r:V→Option Int→Option Int→Hp→VK→Prop}(hr:SlR X r) (he:PE X e te) (hl:PO X lo tl) (hu:PO X hi th):PE X (.Subscript e (.Slice lo hi none p2) pos) (tSl r te tl th):=by
 intro pins s σ H Q I h;refine Subscript_ (thn (he pins s σ H _ I h) λv s1 ⟨x,H1,I1,r1,q1⟩=>?_);refine wpAny_Slice (thn (hl pins s1 σ H1 _ I1 q1) λvl s2 ⟨l,H2,I2,pl,q2⟩=>thn (hu pins s2 σ H2 _ I2 q2) λvu s3 ⟨u,H3,I3,pu,q3⟩=>?_);rw[evalPart_none];refine aD ?_;have I4:Inv X pins σ H3 { s3 with heap:=s3.heap.push { cls:= .type "slice",data:= .fields #[vl,vu, .none] } }:=I3.kept (t':=s3.toks) λb ob q=>aH _ q;obtain⟨T,id,hT,ht,hg⟩:=hr pins { s3 with heap:=s3.heap.push { cls:= .type "slice",data:= .fields #[vl,vu, .none] } } σ H3 x v vl vu l u s3.heap.objs.size Q I4 r1 (Heap.IsSliceOf.new ..) pl pu q3;show am (ap X.prog X.w) X.A (subscriptTail e (.Slice lo hi none p2) v (.ref s3.heap.objs.size)) (EP X pins σ Q) X.xe { s3 with heap:=s3.heap.push { cls:= .type "slice",data:= .fields #[vl,vu, .none] } };exact tail_any (ops:=[.ref s3.heap.objs.size,v]) ht hT hg (by with_unfolding_all rfl)
noncomputable def zpI (xs:List V) (lo hi:Option Int):List V:=(xs.drop (HT.sIx xs.length 0 lo)).take (HT.sIx xs.length xs.length hi - HT.sIx xs.length 0 lo)
theorem zgV (xs:List V) (lo hi:Option Int):(zpI xs lo hi).length≤xs.length:=by
 unfold zpI;rw[cy,cD];omega
def zAv (K:aj):V→Option Int→Option Int→Hp→VK→Prop:=λx lo hi H Q=>∃a xs,x= .ref a∧SqT K H a xs∧
 ¬(HT.sIx xs.length 0 lo=0∧HT.sIx xs.length xs.length hi=xs.length)∧ ∀p,H p=none→Q (.ref p) (upd H p (.tup (zpI xs lo hi)))
theorem zvP:SlR X (zAv X.K):=by
 intro pins s σ H x v vl vu lo hi sl Q I rx hs pl pu h;obtain⟨a,xs,rfl,hx,hw,q⟩:=h;cases rx;obtain⟨its,r,ht,hz⟩:=I.tuple hx;have hlen:its.toArray.size=xs.length:=by rw[aQ];exact r.length.symm
 refine⟨"tuple",_,eD.lookup,ht.typeIs,?_⟩;refine HT.getItem_tuple_cut ht hs pl pu (by rw[hlen];exact hw) ?_ (by rw[hlen];exact hz);rw[hlen];refine⟨.ref s.heap.objs.size,_,I.laid (t':=s.toks) (o:= .tup (zpI xs lo hi)) (λb ob q=>aH _ q) (au _) ?_,rfl,q _ (I.hok.fresh (au _))⟩;exact⟨aX (zgV xs lo hi) hz,_,(r.drop (HT.sIx xs.length 0 lo)).take (HT.sIx xs.length xs.length hi - HT.sIx xs.length 0 lo),gM _ _⟩
noncomputable def zve (K:aj):R2:=λx y H Q=>∃a b xs ys,x= .ref a∧y= .ref b∧SqT K H a xs∧SqT K H b ys∧xs≠ []∧xs.length+ys.length≤sizeLine∧
 (ys=[]→Q (.ref a) H)∧(ys≠ []→ ∀p,H p=none→Q (.ref p) (upd H p (.tup (xs++ys))))
theorem Vals.nil_iff{xs:List V}{us:List Value}(r:Vals xs us):us=[]↔xs=[]:=by
 cases r with
 |nil=>simp
 |cons _ _=>simp
theorem op_catT:OpR X (bM .Add) (zve X.K):=by
 intro pins s σ H x y v u Q I rx ry h;obtain⟨a,b,xs,ys,rfl,rfl,ha,hb,hx,hz,q1,q2⟩:=h;cases rx;cases ry;obtain⟨its,r1,p1,_⟩:=I.tuple ha;obtain⟨its2,r2,p2,_⟩:=I.tuple hb;refine HT.cat_tup p1 p2 (λz=>hx (r1.nil_iff.mp z)) (λz=>⟨.ref a,H,I,rfl,q1 (r2.nil_iff.mp z)⟩) (λz=>?_) (by rw[←r1.length,←r2.length];exact hz);refine⟨.ref s.heap.objs.size,_,I.laid (t':=s.toks) (o:= .tup (xs++ys)) (λb ob q=>aH _ q) (au _) ?_,rfl,q2 (λw=>z (r2.nil_iff.mpr w)) _ (I.hok.fresh (au _))⟩;exact⟨by rw[aS];exact hz,_,r1.append r2,gM _ _⟩
end
noncomputable def ixN (n:Nat) (i:Int):Option Nat:=if 0≤i then(if i<n then ae i.toNat else none) else if -(n:Int)≤i then ae (i+n).toNat else none
noncomputable def atI {α:Type}(xs:List α) (i:Int):Option α:=(ixN xs.length i).bind λj=>xs[j]?
theorem zuc{n:Nat}{i:Int}{j:Nat}(h:ixN n i=ae j):seqIndex? i n=ae j∧j<n∧ -(n:Int)≤i∧i<n:=by
 unfold ixN at h;by_cases h0:0≤i
 ·rw[if_pos h0]at h;by_cases h1:i<n
  ·rw[if_pos h1]at h;have e:i.toNat=j:=aG h;exact⟨by rw[seqIndex_of h0 h1,e],by omega,by omega,h1⟩
  ·rw[if_neg h1]at h;cases h
 ·rw[if_neg h0]at h;by_cases h1: -(n:Int)≤i
  ·rw[if_pos h1]at h;have e:(i+n).toNat=j:=aG h;exact⟨by rw[seqIndex_neg (by omega) h1,e],by omega,h1,by omega⟩
  ·rw[if_neg h1]at h;cases h
theorem zkY{α:Type}{xs:List α}{i:Int}{v:α}(h:atI xs i=ae v):∃j,seqIndex? i xs.length=ae j∧xs[j]? =ae v∧j<xs.length∧ -(xs.length:Int)≤i∧i<xs.length:=by
 unfold atI at h;cases e:ixN xs.length i with
 |none=>rw[e]at h;cases h
 |some j=>
  rw[e]at h;obtain⟨h1,h2,h3,h4⟩:=zuc e;exact⟨j,h1,h,h2,h3,h4⟩
theorem ztB{α:Type}{xs:List α}{j:Nat}{v:α}(h:xs[j]? =ae v):atI xs (j:Int)=ae v:=by
 have hj:j<xs.length:=(cj.mp h).1;have e:ixN xs.length (j:Int)=ae j:=by
  unfold ixN;rw[if_pos (by omega),if_pos (by omega)];simp
 unfold atI;rw[e];exact h
def zlm (b:Expr):Prop:=∀o i,subscripted b false o i=operate [o,i] (dr o i)
def IxR (X:Cx) (r:R2):Prop:=
 ∀(value slice:Expr) (pins:List (Addr×Obj)) (s:ah) (σ:St) (H:Hp) (x y:V) (v u:Value) (Q:VK),Inv X pins σ H s→RelV x v→RelV y u→r x y H Q→
  subscripted slice false v u=operate [v,u] (dr v u)→am (ap X.prog X.w) X.A (subscriptTail value slice v u) (EP X pins σ Q) X.xe s
def MtR (X:Cx) (id:String) (r:V→List V→Hp→VK→Prop):Prop:=
 ∀(pins:List (Addr×Obj)) (s:ah) (σ:St) (H:Hp) (x:V) (xs:List V) (v:Value) (us:List Value) (Q:VK),Inv X pins σ H s→RelV x v→Vals xs us→r x xs H Q→
  am (ap X.prog X.w) X.A (call (.builtin id) (v::us)) (EP X pins σ Q) X.xe s
section
variable {X:Cx}{a b:Expr}{ta tb:TE}{pos:aC}
theorem IxR.or{r r':R2}(h:IxR X r) (h':IxR X r'):IxR X (λx y H Q=>r x y H Q∨r' x y H Q):=by
 intro value slice pins s σ H x y v u Q I rx ry q hs;rcases q with q |q
 ·exact h value slice pins s σ H x y v u Q I rx ry q hs
 ·exact h' value slice pins s σ H x y v u Q I rx ry q hs
theorem MtR.or{id:String}{r r':V→List V→Hp→VK→Prop}(h:MtR X id r) (h':MtR X id r'):MtR X id (λx xs H Q=>r x xs H Q∨r' x xs H Q):=by
 intro pins s σ H x xs v us Q I rx rs q;rcases q with q |q
 ·exact h pins s σ H x xs v us Q I rx rs q
 ·exact h' pins s σ H x xs v us Q I rx rs q
theorem zvU{r:R2}(hr:IxR X r) (ha:PE X a ta) (hb:PE X b tb) (hs:zlm b):PE X (.Subscript a b pos) (tOp r ta tb):=by
 intro pins s σ H Q I h;exact Subscript_ (zzj ha hb I h λv u s2 x y H2 I2 rx ry q=>hr a b pins s2 σ H2 x y v u Q I2 rx ry q (hs _ _))
noncomputable def zzR (K:aj):R2:=λx y H Q=>∃p xs i v,x= .ref p∧y= .int i∧SqL K H p xs∧atI xs i=ae v∧Q v H
noncomputable def zzM (K:aj):R2:=λx y H Q=>∃p xs i v,x= .ref p∧y= .int i∧SqT K H p xs∧atI xs i=ae v∧Q v H
noncomputable def zzS:R2:=λx y H Q=>∃z i c,x= .str z∧y= .int i∧z.length≤sizeLine∧atI z.cps.toList i=ae c∧Q (.str ⟨#[c]⟩) H
theorem ix_list:IxR X (zzR X.K):=by
 intro value slice pins s σ H x y v u Q I rx ry h hs;obtain⟨p,xs,i,z,rfl,rfl,hq,he,q⟩:=h;cases rx;obtain⟨t,rfl⟩:=ry;obtain⟨its,r,pl,hz⟩:=I.list hq;obtain⟨j,h1,h2,h3,h4,h5⟩:=zkY he;obtain⟨w,ew,rw'⟩:=r.get h2;have hl:=r.length;have hn:=zhV;have fin:EP X pins σ Q w s:=⟨z,H,I,rw',q⟩;by_cases h0:0≤i
 ·have hj:i.toNat=j:=by
   rw[seqIndex_of h0 h5]at h1;exact aG h1
  exact item_listR pl.isList h0 (by omega) (by rw[hj];simpa using ew) fin hs
 ·have hj:(i+(its.toArray.size:Int)).toNat=j:=by
   rw[seqIndex_neg (by omega) h4]at h1;rw[aQ,←hl];exact aG h1
  exact jM (x:=w) pl.isList.typeIs iW.lookup
   (wpAny_getItem_list_neg (Q:=λr s'=>r=w∧EP X pins σ Q r s') pl.isList (by omega) (by rw[aQ]<;>omega) (by omega) (by rw[hj];simpa using ew) ⟨rfl,fin⟩) hs
theorem ix_tup:IxR X (zzM X.K):=by
 intro value slice pins s σ H x y v u Q I rx ry h hs;obtain⟨p,xs,i,z,rfl,rfl,hq,he,q⟩:=h;cases rx;obtain⟨t,rfl⟩:=ry;obtain⟨its,r,pl,hz⟩:=I.tuple hq;obtain⟨j,h1,h2,h3,h4,h5⟩:=zkY he;obtain⟨w,ew,rw'⟩:=r.get h2;have hl:=r.length;have hn:=zhV;have fin:EP X pins σ Q w s:=⟨z,H,I,rw',q⟩;exact jM (x:=w) pl.typeIs slot_tuple_getitem.lookup
  (getItem_tuple (j:=j) (Q:=λr s'=>r=w∧EP X pins σ Q r s') pl (by omega) (by omega) (by rw[aQ,←hl];exact h1) (by simpa using ew) ⟨rfl,fin⟩) hs
theorem zwC:IxR X zzS:=by
 intro value slice pins s σ H x y v u Q I rx ry h hs;obtain⟨z,i,c,rfl,rfl,hz,he,q⟩:=h;obtain⟨t,rfl⟩:=rx;obtain⟨t',rfl⟩:=ry;obtain⟨j,h1,h2,h3,h4,h5⟩:=zkY he;have hl:z.cps.toList.length=z.length:=by simp [gS]
 rw[hl]at h1 h4 h5;have hn:=zhV;exact tail_any (gR s z t) slot_str_getitem.lookup (getItem_str (c:=c) (by
  have e1:decide (i< -(2 ^ 63:Int))=false:=decide_eq_false (by omega);have e2:decide (i≥2 ^ 63)=false:=decide_eq_false (by omega);rw[e1,e2,i5]) (by rw[h1];simpa using h2) ⟨.str ⟨#[c]⟩,H,I.tok _,⟨_,rfl⟩,q⟩) hs
noncomputable def rIx (K:aj):R2:=λx y H Q=>zzR K x y H Q∨zzM K x y H Q∨zzS x y H Q
theorem zte:IxR X (rIx X.K):=ix_list.or (ix_tup.or zwC)
theorem zkb (lo hi:Option Int) (n:Nat):(dB lo hi none n).1=((HT.sIx n 0 lo:Nat):Int)∧(dB lo hi none n).2.1=((HT.sIx n n hi:Nat):Int)∧(dB lo hi none n).2.2=1:=by
 refine⟨?_,?_,rfl⟩
 ·cases lo with
  |none=>simp [dB,HT.sIx]
  |some i=>
   simp only[dB,HT.sIx,fH,show(1:Int) > 0 by decide,if_true]
   by_cases h:i<0
   ·simp only[h,if_true]<;>omega
   ·simp only[h,if_false]<;>omega
 ·cases hi with
  |none=>simp [dB,HT.sIx]
  |some i=>
   simp only[dB,HT.sIx,fH,show(1:Int) > 0 by decide,if_true]
   by_cases h:i<0
   ·simp only[h,if_true]<;>omega
   ·simp only[h,if_false]<;>omega
theorem ziw (its:List Value) (lo hi:Option Int):slicePick its.toArray lo hi none=((its.drop (HT.sIx its.length 0 lo)).take (HT.sIx its.length its.length hi - HT.sIx its.length 0 lo)).toArray:=by
 obtain⟨h1,h2,h3⟩:=zkb lo hi its.toArray.size;unfold slicePick;rw[h1,h2,h3];simp only[h_,iv,aQ]<;>rfl
def zAF (K:aj):V→Option Int→Option Int→Hp→VK→Prop:=λx lo hi H Q=>∃a xs,x= .ref a∧SqL K H a xs∧ ∀p,H p=none→Q (.ref p) (upd H p (.lst (zpI xs lo hi)))
theorem zpr:SlR X (zAF X.K):=by
 intro pins s σ H x v vl vu lo hi sl Q I rx hs pl pu h;obtain⟨a,xs,rfl,hx,q⟩:=h;cases rx;obtain⟨its,r,ht,hz⟩:=I.list hx;have hlen:=r.length;refine⟨"list",_,iW.lookup,ht.isList.typeIs,?_⟩;refine wpAny_getItem_list_slice ht.isList hs pl pu .none (by simp) ?_ (by rw[aQ]<;>omega);rw[ziw,←hlen];refine⟨.ref s.heap.objs.size,_,I.laid (t':=s.toks) (o:= .lst (zpI xs lo hi)) (λb ob q=>aH _ q) (au _) ?_,rfl,q _ (I.hok.fresh (au _))⟩;exact⟨aX (zgV xs lo hi) hz,_,0,(r.drop (HT.sIx xs.length 0 lo)).take (HT.sIx xs.length xs.length hi - HT.sIx xs.length 0 lo),bi _ rfl⟩
theorem call_len_seq:CallR X (.builtin "len") (λxs H Q=>∃p ys,xs=[.ref p]∧(SqL X.K H p ys∨SqT X.K H p ys)∧Q (.int ys.length) H):=by
 intro pins s σ H xs us Q I r h;obtain⟨p,ys,rfl,hq,q⟩:=h;obtain⟨u,rfl,rx⟩:=zkK r;cases rx;have hn:=zhV;rcases hq with hq |hq
 ·obtain⟨its,r',pl,hz⟩:=I.list hq;have hlen:=r'.length;exact Calls.call_len_list pl.isList (by simp only[aQ]<;>omega) ⟨.int ys.length,H,I.tok _,⟨s.toks+1,by rw[aQ,hlen]⟩,q⟩
 ·obtain⟨its,r',pl,hz⟩:=I.tuple hq;have hlen:=r'.length;exact len_tuple pl (by simp only[aQ]<;>omega) ⟨.int ys.length,H,I.tok _,⟨s.toks+1,by rw[aQ,hlen]⟩,q⟩
theorem zjG:CallR X (.builtin "len") (λxs H Q=>∃z,xs=[.str z]∧z.length≤sizeLine∧Q (.int z.length) H):=by
 intro pins s σ H xs us Q I r h;obtain⟨z,rfl,hz,q⟩:=h;obtain⟨u,rfl,t,rfl⟩:=zkK r;have hn:=zhV;exact len_str (by omega) ⟨.int z.length,H,I.tok _,⟨_,rfl⟩,q⟩
theorem CallR.or{f:Value}{r r':List V→Hp→VK→Prop}(h:CallR X f r) (h':CallR X f r'):CallR X f (λxs H Q=>r xs H Q∨r' xs H Q):=by
 intro pins s σ H xs us Q I rs q;rcases q with q |q
 ·exact h pins s σ H xs us Q I rs q
 ·exact h' pins s σ H xs us Q I rs q
theorem zkq:CallR X (.type "list") (λxs H Q=>∃p ys,xs=[.ref p]∧(SqL X.K H p ys∨SqT X.K H p ys)∧ ∀l,H l=none→Q (.ref l) (upd H l (.lst ys))):=by
 intro pins s σ H xs us Q I r h;obtain⟨p,ys,rfl,hq,q⟩:=h;obtain⟨u,rfl,rx⟩:=zkK r;cases rx;have fin:∀(its:List Value),Vals ys its→ys.length≤sizeLine→ ∀(h':Heap) (c':Nat),(∀b o',s.heap.get? b=ae o'→h'.get? b=ae o')→
   h'.get? s.heap.objs.size=ae { cls:= .type "list",dict:=none,data:= .seq its.toArray c',slots:= #[] }→EP X pins σ Q (.ref s.heap.objs.size) { s with heap:=h' }:=λits r' hz h' c' kp e=>
  ⟨.ref s.heap.objs.size,_,I.laid (t':=s.toks) kp (au _) (show ObjOk X.prog X.w _ h' _ (.lst ys) from⟨hz,its,c',r',e⟩),rfl,q _ (I.hok.fresh (au _))⟩
 rcases hq with hq |hq
 ·obtain⟨its,r',pl,hz⟩:=I.list hq;have hlen:=r'.length;obtain⟨o,ho,hc,n,hd⟩:=pl.isList;exact call_list_seq p (.inl rfl) ho hc hd (λh' c' kp e=>fin its r' hz h' c' kp e) (by simp only[aQ]<;>omega)
 ·obtain⟨its,r',pl,hz⟩:=I.tuple hq;have hlen:=r'.length;obtain⟨o,ho,hc,n,hd⟩:=pl;exact call_list_seq p (.inr rfl) ho hc hd (λh' c' kp e=>fin its r' hz h' c' kp e) (by simp only[aQ]<;>omega)
theorem zfa:CallR X (.type "tuple") (λxs H Q=>∃p ys,xs=[.ref p]∧((SqL X.K H p ys∧ ∀l,H l=none→Q (.ref l) (upd H l (.tup ys)))∨(SqT X.K H p ys∧Q (.ref p) H))):=by
 intro pins s σ H xs us Q I r h;obtain⟨p,ys,rfl,h⟩:=h;obtain⟨u,rfl,rx⟩:=zkK r;cases rx;rcases h with⟨hq,q⟩ |⟨hq,q⟩
 ·obtain⟨its,r',pl,hz⟩:=I.list hq;have hlen:=r'.length;refine call_tuple_list pl.isList (λh' kp=>?_) (by simp only[aQ]<;>omega);have I1:Inv X pins σ H { s with heap:=h' }:=I.kept (t':=s.toks) kp;have I2:Inv X pins σ (upd H h'.objs.size (.tup ys)) { s with heap:=h'.push { cls:= .type "tuple",data:= .seq its.toArray } }:=
   I1.laid (t':=s.toks) (λb o e=>aH _ e) (au _) (show ObjOk X.prog X.w _ _ _ (.tup ys) from⟨hz,its,r',gM _ _⟩)
  exact⟨.ref h'.objs.size,_,I2,rfl,q _ (I1.hok.fresh (au _))⟩
 ·obtain⟨its,r',pl,hz⟩:=I.tuple hq;exact call_tuple_same pl ⟨.ref p,H,I,rfl,q⟩
def tyV (K:aj) (T:String) (x:V) (H:Hp):Prop:=match x with
 | .str _=>T= "str"
 | .int _=>T= "int"
 | .ref p=>(T= "list" ∧ ∃xs,SqL K H p xs)∨(T= "tuple" ∧ ∃o,K.lookup p=ae o∧o.cls= .type "tuple" ∧o.dict=none)∨
   (T= "dict" ∧((∃kvs,H p=ae (.dK kvs))∨ ∃kvs,H p=ae (.dT kvs)))∨(T= "set" ∧ ∃S n,H p=ae (.set S n))
 |_=>False
theorem zsR{pins:List (Addr×Obj)}{σ:St}{H:Hp}{s:ah}{T:String}{x:V}{v:Value}(I:Inv X pins σ H s) (r:RelV x v) (ty:tyV X.K T x H) :
  s.TypeIs v T∧ ∀a,v= .ref a→ ∃ob,s.heap.get? a=ae ob∧ob.dict=none:=by
 cases x with
 |str z=>
  obtain⟨t,rfl⟩:=r;cases(show T= "str" from ty);exact⟨gR s z t,λ_ e=>nomatch e⟩
 |int i=>
  obtain⟨t,rfl⟩:=r;cases(show T= "int" from ty);exact⟨im s i t,λ_ e=>nomatch e⟩
 |ref p=>
  cases r;rcases ty with⟨rfl,xs,hq⟩ |⟨rfl,o,hk,hc,hd⟩ |⟨rfl,hk⟩ |⟨rfl,S,n,hk⟩
  ·obtain⟨its,_,pl,_⟩:=I.list hq;refine⟨pl.isList.typeIs,λa e=>?_⟩;cases e;obtain⟨o,n,e,c,hd,_⟩:=pl;exact⟨o,e,hd⟩
  ·refine⟨⟨o,I.kIn p o hk,hc⟩,λa e=>?_⟩;cases e;exact⟨o,I.kIn _ o hk,hd⟩
  ·have z:∃o,s.heap.get? p=ae o∧o.ExactDict:=by
    rcases hk with⟨kvs,hk⟩ |⟨kvs,hk⟩
    ·obtain⟨_,_,_,_,o,_,_,e,ex,_⟩:=I.hok p _ hk;exact⟨o,e,ex⟩
    ·obtain⟨_,_,_,_,o,_,_,e,ex,_⟩:=I.hok p _ hk;exact⟨o,e,ex⟩
   obtain⟨o,e,ex⟩:=z;refine⟨⟨o,e,ex.1⟩,λa e2=>?_⟩;cases e2;exact⟨o,e,ex.2.1⟩
  ·obtain⟨o,_,_,_,e,ex,_⟩:=I.hok p _ hk;refine⟨⟨o,e,ex.1⟩,λa e2=>?_⟩;cases e2;exact⟨o,e,ex.2.1⟩
 |_=>exact cc ty
noncomputable def zzT (K:aj) (T:String) (r:V→List V→Hp→VK→Prop) (to:TE):TE:=λσ H Q=>to σ H λx H1=>tyV K T x H1∧r x [] H1 Q
noncomputable def tBM (K:aj) (T:String) (r:V→List V→Hp→VK→Prop) (to:TE) (t:TA):TE:=λσ H Q=>to σ H λx H1=>tyV K T x H1∧t σ H1 λxs H2=>r x xs H2 Q
variable {o e:Expr}{es:List Expr}{to:TE}{t:TA}{name:Str}{apos cpos:aC}{T id:String}{r:V→List V→Hp→VK→Prop}
theorem zxD (pa:eW T) (slot:Slot T name id) (hty:eS (.builtin id)=pure (.type "method_descriptor")) (hm:MtR X id r) (ho:PE X o to)
  (hbase:cF o name X.env (ay o X.env)=ay o X.env:=by rfl) (hline:(apos.endLine == cpos.line)=true:=by rfl):PE X (.Call (.Attribute o name apos) [] [] cpos) (zzT X.K T r to):=by
 intro pins s σ H Q I h;refine wpAny_Call_method0_late hbase hline (thn (ho pins s σ H _ I h) λv s1 ⟨x,H1,I1,r1,ty,q1⟩=>?_);obtain⟨h1,h2⟩:=zsR I1 r1 ty;exact⟨T,id,pa,slot,hty,h1,h2,ib rfl (PySem.evalArgs_none (hm pins s1 σ H1 x [] v [] Q I1 r1 .nil q1))⟩
theorem zwa (pa:eW T) (slot:Slot T name id) (hty:eS (.builtin id)=pure (.type "method_descriptor")) (hm:MtR X id r) (ho:PE X o to) (ha:PA X (e::es) t)
  (hbase:cF o name X.env (ay o X.env)=ay o X.env:=by rfl)
  (hfew:((aP cpos (ao (e::es) X.env)).all (λx=> !x.1)&&(dD cpos (dn [] X.env)).all (λx=>x.1.isSome)
   &&decide ((e::es).length+([]:List bO).length+(if([]:List bO).isEmpty then 0 else 1)<30))=true:=by rfl)
  (hline:(apos.endLine == cpos.line)=true:=by rfl) (hs:ao (e::es) X.env=(false,ay e X.env)::ao es X.env:=by rfl) (hplain:(aP cpos (ao es X.env)).any (·.1)=false:=by rfl) :
  PE X (.Call (.Attribute o name apos) (e::es) [] cpos) (tBM X.K T r to t):=by
 intro pins s σ H Q I h;refine wpAny_Call_method_late hbase hfew hline rfl (thn (ho pins s σ H _ I h) λv s1 ⟨x,H1,I1,r1,ty,q1⟩=>?_);obtain⟨h1,h2⟩:=zsR I1 r1 ty;refine⟨T,id,pa,slot,hty,h1,h2,?_⟩;have hA:=ha cpos pins s1 σ H1 _ I1 q1;rw[hs]at hA⊢;refine ib (by show(false || (aP cpos (ao es X.env)).any (·.1))=false;rw[hplain]<;>rfl) (gl ?_)
 exact thn hA λus s2 ⟨vs,H2,I2,r2,q2⟩=>hm pins s2 σ H2 x vs v us Q I2 r1 r2 q2
end
def MtM (X:Cx) (id:String) (r:V→List V→Hp→VK→Prop):Prop:=
 ∀(pins:List (Addr×Obj)) (s:ah) (σ:St) (H:Hp) (x:V) (xs:List V) (v:Value) (us:List Value) (Q:VK),Inv X pins σ H s→RelV x v→Vals xs us→r x xs H Q→
  am (ap X.prog X.w) X.A (call (.builtin id) (v::us)) (EP X pins σ Q) X.xe s
theorem Vals.one:∀{x:V}{us:List Value},Vals [x] us→ ∃u,us=[u]∧RelV x u
 |_,_, .cons r .nil=>⟨_,rfl,r⟩
theorem Vals.rep{xs:List V}{us:List Value}(h:Vals xs us):∀k:Nat,Vals (aO k xs).flatten (aO k us).flatten
 |0=> .nil
 |k+1=>by
  rw[cg,cg,dy,dy];exact Vals.append h (Vals.rep h k)
theorem zju (its:List Value):∀(k:Nat) (acc:List Value),
  ir (λx1 x2=>x1++x2) acc.toArray (aO k its.toArray)=(acc++(aO k its).flatten).toArray
 |0,acc=>by simp
 |k+1,acc=>by
  have e:acc.toArray++its.toArray=(acc++its).toArray:=by simp
  have e2:(acc++its)++(aO k its).flatten=acc++(aO (k+1) its).flatten:=by
   rw[cg,dy,cf]
  rw[←e2,←zju its k (acc++its),←e,cg,eg]
section
variable {X:Cx}{pins:List (Addr×Obj)}{σ:St}{H:Hp}{s:ah}{l:Addr}{xs ys:List V}
theorem Inv.lset{its its':List Value}{n:Nat}{f:Array Value→Array Value}{t':Nat}(I:Inv X pins σ H s) (hH:H l=ae (.lst xs))
  (e:s.heap.get? l=ae { cls:= .type "list",data:= .seq its.toArray n }) (hf:f its.toArray=its'.toArray) (hv:Vals ys its') (hz:ys.length≤sizeLine) :
  Inv X pins σ (upd H l (.lst ys)) { s with heap:=s.heap.update l (gI f),toks:=t' }:=by
 have q:=PySem.IsL.update e f;rw[hf]at q;refine I.write (x:=l) (e:=l) (by rw[hH];exact trivial) (.inl rfl) (λb' u hb hu=>(Heap.get?_update_other s.heap (gI f) (bn hb)).trans hu) ⟨_,q⟩ ?_;exact⟨hz,its',_,hv,q⟩
theorem Inv.lnew{its:List Value}{t':Nat}(I:Inv X pins σ H s) (hv:Vals ys its) (hz:ys.length≤sizeLine) :
  Inv X pins σ (upd H s.heap.objs.size (.lst ys)) { s with heap:=s.heap.push { cls:= .type "list",data:= .seq its.toArray },toks:=t' }:=
 I.laid (λ_ _ q=>aH _ q) (au _) ⟨hz,its,0,hv,bi _ rfl⟩
theorem Inv.fresh (I:Inv X pins σ H s):H s.heap.objs.size=none:=I.hok.fresh (au _)
theorem Inv.lstM (I:Inv X pins σ H s) (hH:H l=ae (.lst xs)):xs.length≤sizeLine∧ ∃(its:List Value) (n:Nat),Vals xs its∧xs.length=its.length∧s.heap.get? l=ae { cls:= .type "list",data:= .seq its.toArray n }:=by
 obtain⟨z,its,n,r,e⟩:=I.hok l _ hH;exact⟨z,its,n,r,r.length,e⟩
theorem zix{n:Nat}(h:n≤sizeLine):dN n=false:=by
 unfold dN;exact decide_eq_false (by omega)
end
section
variable {X:Cx}
def zpp:V→List V→Hp→VK→Prop:=λx vs H Q=>∃l xs y,x= .ref l∧vs=[y]∧H l=ae (.lst xs)∧xs.length<sizeLine∧Q .non (upd H l (.lst (xs++[y])))
theorem zjM:MtM X "list.append" zpp:=by
 intro pins s σ H x vs v us Q I rx rv h;obtain⟨l,xs,y,rfl,rfl,hH,hz,q⟩:=h;cases rx;obtain⟨u,rfl,ru⟩:=rv.one;obtain⟨z,its,n,r,hl,e⟩:=I.lstM hH;refine eB F.slot_list_append ⟨_,e,rfl⟩ F.entry_list_append (F.args_list_append_2 _ _) (PySem.list_append l its.toArray n u (by rw[aQ];omega)) ⟨e,?_⟩;refine⟨.non,_,I.lset (its':=its++[u]) hH e (by simp) (r.append (.cons ru .nil)) ?_,rfl,q⟩;rw[aS,bK];omega
def zpB:V→List V→Hp→VK→Prop:=λx vs H Q=>∃l b xs zs,x= .ref l∧vs=[.ref b]∧H l=ae (.lst xs)∧H b=ae (.lst zs)∧xs.length+zs.length≤sizeLine∧Q .non (upd H l (.lst (xs++zs)))
theorem zpH:MtM X "list.extend" zpB:=by
 intro pins s σ H x vs v us Q I rx rv h;obtain⟨l,b,xs,zs,rfl,rfl,hH,hB,hz,q⟩:=h;cases rx;obtain⟨u,rfl,ru⟩:=rv.one;cases ru;obtain⟨z,its,n,r,hl,e⟩:=I.lstM hH;obtain⟨z2,its2,n2,r2,hl2,e2⟩:=I.lstM hB;have hsz:its.toArray.size+its2.toArray.size≤sizeLine:=by rw[aQ,aQ];omega
 have hlong:¬(!its.toArray.isEmpty&&dN (its.toArray.size+its2.toArray.size))=true:=by
  rw[zix hsz,fJ];exact cU
 refine eB kx ⟨_,e,rfl⟩ iI (iY _ _)
  (AutoSeq1.list_extend_list_list_0 l its.toArray n b its2.toArray n2 hlong (by rw[aQ];omega) (by omega)) ⟨e,e2,?_⟩
 refine⟨.non,_,I.lset (its':=its++its2) hH e (by simp) (r.append r2) ?_,rfl,q⟩;rw[aS];omega
noncomputable def zzA:R2:=λx y H Q=>∃l b xs zs,x= .ref l∧y= .ref b∧H l=ae (.lst xs)∧H b=ae (.lst zs)∧xs.length+zs.length≤sizeLine∧ ∀p,H p=none→Q (.ref p) (upd H p (.lst (xs++zs)))
theorem zmf:OpR X (bM .Add) zzA:=by
 intro pins s σ H x y v u Q I rx ry h;obtain⟨l,b,xs,zs,rfl,rfl,hH,hB,hz,q⟩:=h;cases rx;cases ry;obtain⟨z,its,n,r,hl,e⟩:=I.lstM hH;obtain⟨z2,its2,n2,r2,hl2,e2⟩:=I.lstM hB;refine PySem.P.add_list e e2 ?_ (by rw[aQ,aQ];omega);have ea:its.toArray++its2.toArray=(its++its2).toArray:=by simp
 rw[ea];exact⟨.ref _,_,I.lnew (t':=s.toks) (r.append r2) (by rw[aS];omega),rfl,q _ I.fresh⟩
noncomputable def zAB:R2:=λx y H Q=>∃l k xs,x= .ref l∧y= .int k∧H l=ae (.lst xs)∧ -(2 ^ 63)≤k∧k<2 ^ 63∧xs.length*k.toNat≤sizeLine∧
 ∀p,H p=none→Q (.ref p) (upd H p (.lst (aO k.toNat xs).flatten))
theorem ztJ{α:Type}(xs:List α) (k:Nat):(aO k xs).flatten.length=k*xs.length:=by
 induction k with
 |zero=>simp
 |succ k ih=>rw[cg,dy,aS,ih,Nat.succ_mul,ef]
theorem zxl:OpR X (bM .Mult) zAB:=by
 intro pins s σ H x y v u Q I rx ry h;obtain⟨l,k,xs,rfl,rfl,hH,h1,h2,hz,q⟩:=h;cases rx;obtain⟨t,rfl⟩:=ry;obtain⟨z,its,n,r,hl,e⟩:=I.lstM hH;have hlen:its.toArray.size*k.toNat≤sizeLine:=by rw[aQ,←hl];exact hz
 have hcap:¬its.toArray.size*k.toNat > (2 ^ 63 - 1) / 8:=by
  have:(sizeLine:Nat)≤(2 ^ 63 - 1) / 8:=by decide
  omega
 have hfit:¬(!Builtin.List.listFitsIndex k)=true:=by
  rw[fitsIndex_both h1 h2];exact cU
 have hlong:¬dN (its.toArray.size*k.toNat)=true:=by
  rw[zix hlen];exact cU
 have hnew:ir (λx1 x2=>x1++x2) #[] (aO (if its.toArray.isEmpty=true then 0 else k.toNat) its.toArray)=(aO k.toNat its).flatten.toArray:=by
  have f0:∀m:Nat,ir (λx1 x2=>x1++x2) #[] (aO m its.toArray)=(aO m its).flatten.toArray:=λm=>by
   have:=zju its m [];rw[a9]at this;exact this
  rw[f0];cases its with
  |nil=>simp
  |cons a r'=>rw[if_neg (by simp)]
 refine wpAny_binaryOp_repeat_ref (T:= "list") (U:= "int") (by decide) ⟨_,e,rfl⟩ (λs'=>im s' k t) noFill_list_mul F.fills_int_mul jV repeat_list F.slot_int_index.lookup
  (eB jV (im s k t) F.entry_int_rmul (F.args_int_rmul_2 _ _) (int___rmul___int_list k t l its.toArray n)
   ⟨e,rfl,⟨_,e,rfl⟩,eB F.slot_list_mul ⟨_,e,rfl⟩ F.entry_list_mul (F.args_list_mul_2 _ _) (AutoListH.list___mul___list_int_3 l its.toArray n k t hfit hcap hlong) ⟨e,?_⟩⟩)
 rw[hnew];exact⟨.ref _,_,I.lnew (t':=s.toks) (r.rep k.toNat) (by rw[ztJ,Nat.mul_comm];exact hz),rfl,q _ I.fresh⟩
end
end L2
namespace Att
open PySem PySem.W PySem.Calls PyProof.Rows
theorem zgN{P:fX}{h:Heap}:∀(ns:List Int) (vs:List Value),WellAll P h vs (ns.map WData.int)→eQ vs ns:=by
 intro ns
 induction ns with
 |nil=>
  intro vs w;rw[cp]at w;cases w;exact .nil
 |cons n ns ih=>
  intro vs w;rw[aA]at w;cases w with
  |cons a b=>
   cases a;exact .cons _ _ (ih _ b)
theorem zpY{l:OpenLaw}{n:Nat}(hn:l.most=ae n) {P:fX}{h:Heap}{args:List WData}{vals:List Value}
  (hpre:l.row.toRowW.claim.pre args=true) (hwl:WellAll P h vals args) :
  ∃a vs ns,vals=[a_ a]∧args=[WData.list (ns.map WData.int)]∧h.get? a=ae { cls:= .type "list",data:= .seq vs.toArray }∧eQ vs ns∧ns.length≤n:=by
 have hsh:WShape.hasAll [] args [.list .int]=true:=(pre_splitW hpre).1;have hc:l.pre.holds [] { args:=args }=true:=(pre_splitW hpre).2;obtain⟨d,r,rfl,h1,h2⟩:=hasAllW_cons hsh;obtain rfl:=hasAllW_nil h2;obtain⟨xs,rfl,h3⟩:=hasW_list h1;obtain⟨ns,rfl⟩:=items_int h3;have hlen:ns.length≤n:=by
  unfold OpenLaw.pre at hc;have h4:(WTm.not (.lt (.lit (.int (n:Int))) (.len (.arg 0)))).holds [] { args:=[.list (ns.map .int)] }=true:=by
   have h4:=(holds_andW hc).1;rw[hn]at h4;exact h4
  have h5:=condW_of h4 (w_not (w_lt w_lit (w_len_list (w_arg rfl))));rw[aq]at h5;refine jn λq=>?_;have q':(n:Int)<((ns.length:Nat):Int):=by omega
  first
   | (rw[decide_eq_true q']at h5;exact absurd h5 (by decide))
   | (simp at h5;omega)
 cases hwl with
 |cons w1 w2=>
  cases w2;cases w1 with
  |list ho hall=>exact⟨_,_,ns,rfl,rfl,ho,zgN ns _ hall,hlen⟩
theorem zoS (l:OpenLaw) (args:List WData):l.row.toRowW.claim.post args (.bool true) args=true:=
 postW_of (r:=l.row.toRowW) (X:=(true == true))
  (show WShape.has [] (.bool true) .bool=true by first |rfl |decide |simp [WShape.has,WShape.arms,WShape.armsAll])
  (show(WTm.eq .res (.lit (.bool true))).value [] { args:=args,res:=ae (.bool true),after:=args }=ae (.bool (true == true)) from w_eq_bool (w_res rfl) w_lit) rfl
theorem attach_call{l:OpenLaw}{n:Nat}{q:aE}{loose:List Str}{XP:(Str→Option Value)→Heap→Prop}{YP:aB→Heap→Prop}{d:DefRec}
  (hn:l.most=ae n) (hdf:d.params.defaults=[])
  (call:∀(w:aB) (s₀ s₁:ah) (mg mb:Str→Option Value) (fa:Addr) (o:Obj) (pm cd doc:Value) (a:Addr) (vs:List Value) (ns:List Int),
   Ground q loose [] XP w s₀ mg mb s₁.heap→YP w s₁.heap→
   s₁.heap.get? fa=ae o→o.data= .func (docDef d.name d.params d.body d.scope pm cd doc)→s₁.heap.CodeRec cd d.name→mg d.name=ae (.ref fa)→
   s₁.heap.get? a=ae { cls:= .type "list",data:= .seq vs.toArray }→eQ vs ns→ns.length≤n→s₁.gens= #[]→
   dC (ap l.prog w) dt (.call (.ref fa) ⟨[.ref a],[]⟩) (λr s'=>r= .ok (.ret (.bool true))∧OldK s₁.heap s'.heap∧s'.os=s₁.os∧b5 s'.gens) s₁) :
  WalkO q loose XP YP l.row.toRowW d [] (λf vs=>gX f vs):=by
 intro w s₀ s₁ mg mb G Y fa o pm cd doc dV kV ho hd hcd hD hmg hg args vals as hpre hlay hrd hwl hlo;obtain rfl:dV= .none:=Dflts.none hD hdf;obtain rfl:kV= .none:=Dflts.noKw hD;obtain⟨a,vs,ns,rfl,rfl,hobj,hints,hlen⟩:=zpY hn hpre hwl;refine enter_call (gh (call w s₀ s₁ mg mb fa o pm cd doc a vs ns G Y ho (fd_plain hd) hcd hmg hobj hints hlen hg) λr s' hq=>?_);obtain⟨rfl,h2,h3,h4⟩:=hq;exact⟨.inl ⟨.bool true, .bool true,[],rfl,λ_=>rfl, .bool true,zoS l _,λ_=>⟨j4.nil,λ_ hm=>(nomatch hm)⟩⟩,h2,h3,h4⟩
end Att
namespace L2
open PySem PySem.Spec PyProof.Rows
theorem zkr:∀{vs:List Value}{ns:List Int},eQ vs ns→Vals (ns.map V.int) vs
 |_,_, .nil=> .nil
 |_,_, .cons n t h=> .cons ⟨t,rfl⟩ (zkr h)
def zxY (H:Hp):Prop:=∀b,H b=none∨ ∃o xs,H b=ae (.frz o (.lst xs))
theorem zsh{P:aE}{w:aB}{K:aj}{mg mb:Str→Option Value}{CX:CXT}{k:Nat}{fa a:Addr}{fd:bC}{x:Str}{sp:Sp}{s₁:ah}{vs:List Value}{ns:List Int}
  (KX:K.In s₁.heap) (hns:s₁.heap.Ns aL mg) (hb:s₁.heap.Ns gr mb) (hbb:∀x:Str,x≠ "__name__" →mb x=bQ x) (hlim:s₁.heap.NoLimit) (hg:s₁.gens= #[])
  (ha:s₁.heap.get? a=ae { cls:= .type "list",data:= .seq vs.toArray }) (hi:eQ vs ns) (hl:ns.length≤sizeLine) (hr:Room k dt)
  (F:∀base:Heap,K.In base→base.Ns aL mg→FnOk P w K mg base CX k fa fd [x] sp) (hbind:∀(s:ah) (u:Value),dU s fd ⟨[u],[]⟩ [(x,u)])
  (hsp:∀H:Hp,zxY H→SqL K H a (ns.map V.int)→sp [.ref a] H (λv _=>v= .bl true) λ_ _ _=>False)
  (hCX:∀H e s',CX [] H s₁ (λ_ _ _=>False) e s'→False) :
  dC (ap P w) dt (.call (.ref fa) ⟨[.ref a],[]⟩) (λr s'=>r= .ok (.ret (.bool true))∧OldK s₁.heap s'.heap∧s'.os=s₁.os∧b5 s'.gens) s₁:=by
 have rv:=zkr hi;have lenV:=hi.length;have core:∀H:Hp,zxY H→SqL K H a (ns.map V.int)→HOk P w H s₁.heap→(∀b,H b≠none→b=a)→(H a≠none→K.lookup a=none)→
   dC (ap P w) dt (.call (.ref fa) ⟨[.ref a],[]⟩) (λr s'=>r= .ok (.ret (.bool true))∧OldK s₁.heap s'.heap∧s'.os=s₁.os∧b5 s'.gens) s₁:=by
  intro H hO hS hok hA hK;have base_of:∀{b:Addr}{o:Obj},s₁.heap.get? b=ae o→H b=none→(zrP s₁.heap H).get? b=ae o:=λe n=>zrI e n;have noA:∀{b:Addr}{o:Obj}{es:Array DictEntry}{ep:Nat},s₁.heap.get? b=ae o→o.data= .dict es ep→H b=none:=λ{b o es ep} e d=>by
   cases q:H b with
   |none=>rfl
   |some u=>
    have e':b=a:=hA b (by rw[q];simp);subst e';rw[ha]at e;cases e;have d':Data.seq vs.toArray _=Data.dict es ep:=d;cases d'
  have nsK:∀{b:Addr}{m:Str→Option Value},s₁.heap.Ns b m→(zrP s₁.heap H).Ns b m:=λ{b m} ⟨o,es,ep,e,d,r⟩=>⟨o,es,ep,base_of e (noA e d),d,r⟩;have hKb:K.In (zrP s₁.heap H):=λb o e=>base_of (KX b o e) (by
   cases q:H b with
   |none=>rfl
   |some u=>
    have e':b=a:=hA b (by rw[q];simp);subst e';rw[hK (by rw[q];simp)]at e;cases e)
  have hM:Mod K mg (zrP s₁.heap H):=⟨hKb,nsK hns,⟨mb,nsK hb,hbb⟩,let ⟨mc,h1,h2⟩:=hlim;⟨mc,nsK h1,h2⟩⟩;have e0:Env0 P w K mg (zrP s₁.heap H) dt [] s₁ H:=⟨rfl,hM,λb o e=>zvi e,e_ (zpv _ _),trivial,λb hb=>absurd (show b∈([]:List Addr) from hb) (by simp),hok, .of_eq hg⟩;refine gh ((F _ hKb (nsK hns)).run dt [] s₁ H ⟨[.ref a],[]⟩ [.ref a] [.ref a] _ _ hr e0 (hbind s₁ (.ref a)) (.cons rfl .nil) (hsp H hO hS)) λr s' h=>?_;cases r with
  |error e=>exact(hCX H e s' h).elim
  |ok fl=>
   cases fl with
   |next=>exact cc h
   |brk=>exact cc h
   |cont=>exact cc h
   |ret u=>
    obtain⟨v,H',os,bare,un,hok',r',q⟩:=h;have q':v= .bl true:=q;subst q';obtain rfl:u=eE true:=r';refine⟨rfl,OldK.of_keep λb o e=>?_,os,bare⟩;cases q:H b with
    |none=>exact un.keep b o e q (by intro z;exact absurd (show b∈([]:List Addr) from z) (by simp)) (by simp)
    |some u=>
     rcases hO b with z |⟨ob,xs,z⟩
     ·rw[q]at z;cases z
     ·have z2:=un.frzs b ob _ z;obtain⟨e1,_⟩:=hok b _ z;obtain⟨e2,_⟩:=hok' b _ z2;rw[e]at e1;cases e1;exact e2
 cases hk:K.lookup a with
 |some o=>
  have e:=KX a o hk;rw[ha]at e;cases e;refine core (λ_=>none) (λ_=> .inl rfl) (.inr ⟨_,vs.toArray,_,hk,rfl,rfl,rfl,by rw[aQ,lenV];exact hl,by simpa using rv⟩) (λb u z=>by have z':(none:Option HO)=ae u:=z;cases z') (λb z=>absurd rfl z) λz=>absurd rfl z
 |none=>
  refine core (λb=>if b=a then ae (.frz { cls:= .type "list",data:= .seq vs.toArray } (.lst (ns.map V.int))) else none) (λb=>?_) (.inl (.inr ⟨{ cls:= .type "list",data:= .seq vs.toArray },if_pos rfl⟩)) (λb u z=>?_) (λb z=>?_) λ_=>hk
  ·by_cases hb:b=a
   ·exact .inr ⟨_,_,if_pos hb⟩
   ·exact .inl (if_neg hb)
  ·by_cases hb:b=a
   ·have z':=(if_pos hb).symm.trans z;cases z';subst hb;exact⟨ha,by rw[aq];exact hl,vs,_,rv,ha⟩
   ·have z':=(if_neg hb).symm.trans z;cases z'
  ·by_cases hb:b=a
   ·exact hb
   ·exact absurd (if_neg hb) z
theorem ztV{l:gP}{n k:Nat}{q:aE}{loose:List Str}{XP:(Str→Option Value)→Heap→Prop}{YP:aB→Heap→Prop}{d:DefRec}{K:fX→aj}{CX:aB→CXT}{sp:aB→Sp}{x:Str}
  (hn:l.most=ae n) (hn2:n≤sizeLine) (hdf:d.params.defaults=[]) (hr:Room k dt)
  (hY:∀(w:aB) (h:Heap),YP w h→(K w.params).In h)
  (F:∀(w:aB) (mg:Str→Option Value) (fa:Addr) (h:Heap),(K w.params).In h→h.Ns aL mg→mg d.name=ae (.ref fa)→
   ∃fd:bC,(∀(s:ah) (u:Value),dU s fd ⟨[u],[]⟩ [(x,u)])∧
    ∀base:Heap,(K w.params).In base→base.Ns aL mg→FnOk l.prog w (K w.params) mg base (CX w) k fa fd [x] (sp w))
  (hsp:∀(w:aB) (H:Hp) (a:Addr) (ns:List Int),ns.length≤n→zxY H→SqL (K w.params) H a (ns.map V.int)→sp w [.ref a] H (λv _=>v= .bl true) λ_ _ _=>False)
  (hCX:∀(w:aB) (H:Hp) (s:ah) (e:Value) (s':ah),CX w [] H s (λ_ _ _=>False) e s'→False) :
  jP q loose XP YP l.row.toRowW d [] (λf vs=>gX f vs):=by
 refine Att.attach_call hn hdf λw s₀ s₁ mg mb fa o pm cd doc a vs ns G Y ho hd hcd hmg hobj hints hlen hg=>?_;have KX:=hY w _ Y;obtain⟨fd,hb,hF⟩:=F w mg fa _ KX G.T.g hmg;exact zsh KX G.T.g G.T.b G.T.builtins G.T.nolimit hg hobj hints (aX hlen hn2) hr hF hb (λH hO hS=>hsp w H a ns hlen hO hS) λH e s'=>hCX w H s₁ e s'
noncomputable def zhk (s:Stmt):Arguments:=match s with
 | .FunctionDef _ a _ _ _ _ _ _ _ _=>a
 |_=>{ posonlyargs:=[],args:=[],vararg:=none,kwonlyargs:=[],kw_defaults:=[],kwarg:=none,defaults:=[] }
noncomputable def zfR (s:Stmt):List Stmt:=match s with
 | .FunctionDef _ _ b _ _ _ _ _ _ _=>b
 |_=>[]
noncomputable def zak (s:Stmt):Scope:=match s with
 | .FunctionDef _ _ _ _ _ _ sc _ _ _=>sc
 |_=>{ kind:= .function,names:=[],isGenerator:=false,isCoroutine:=false }
structure Fun (K:aj) (x qual:Str) (st:Stmt) (f:Addr) (fd:bC):Prop where
  ex:∃(oc:Value) (od:Option Addr) (kV doc pm:Value) (an:Option Addr) (cdv ct:Value) (osl:Array (Option Value)),
    fd=dA x qual (zhk st) (zfR st) (zak st) .none kV doc pm an cdv ct∧K.lookup f=ae ⟨oc,od, .func fd,osl⟩∧f9 K cdv qual=true
  kp:eI K (.ref f)=true
section
variable {K:aj}
theorem Fun.binds{x qual:Str}{st:Stmt}{f:Addr}{fd:bC}{ps:List Str}(F:Fun K x qual st f fd)
  (h:∀(kV doc pm:Value) (an:Option Addr) (cdv ct:Value) (us:List Value),us.length=ps.length→bindArgs (dA x qual (zhk st) (zfR st) (zak st) .none kV doc pm an cdv ct) ⟨us,[]⟩=pure (ps.zip us)):Binds K fd ps []:=by
 obtain⟨oc,od,kV,doc,pm,an,cdv,ct,osl,rfl,lk,hcd⟩:=F.ex;exact .all (h kV doc pm an cdv ct)
theorem zxy{x qual:Str}{st:Stmt}{f:Addr}{oc:Value}{od an:Option Addr}{osl:Array (Option Value)}{kV doc pm cdv ct:Value}(l:K.lookup f=ae ⟨oc,od, .func (dA x qual (zhk st) (zfR st) (zak st) .none kV doc pm an cdv ct),osl⟩)
  (c:f9 K cdv qual=true) (k:eI K (.ref f)=true):Fun K x qual st f (dA x qual (zhk st) (zfR st) (zak st) .none kV doc pm an cdv ct):=⟨⟨oc,od,kV,doc,pm,an,cdv,ct,osl,rfl,l,c⟩,k⟩
end
theorem zzV{A B:Prop}(h:B):if false=true then A else B:=by
 rw[if_neg cU];exact h
theorem zzW{A B:Prop}(h:A):if true=true then A else B:=by
 rw[if_pos rfl];exact h
def Same (H H':Hp):Prop:=∀b o,H b=ae o→H' b=ae o
theorem Same.trans{H H1 H2:Hp}(a:Same H H1) (b:Same H1 H2):Same H H2:=λc o h=>b c o (a c o h)
section
variable {κ:Type} [DecidableEq κ]
noncomputable def zjg (kvs:List (κ×V)) (k:κ):Option V:=(kvs.find? λkv=>decide (kv.1=k)).map (·.2)
noncomputable def zhK (kvs:List (κ×V)) (k:κ) (v:V):List (κ×V):=
 if(kvs.any λkv=>decide (kv.1=k))=true then kvs.map (λkv=>if kv.1=k then(kv.1,v) else kv) else kvs++[(k,v)]
theorem zfn{p:κ×V}{r:List (κ×V)}{k:κ}(e:p.1=k):zjg (p::r) k=ae p.2:=by simp [zjg,bF,e]
theorem zfD{p:κ×V}{r:List (κ×V)}{k:κ}(e:¬p.1=k):zjg (p::r) k=zjg r k:=by simp [zjg,bF,e]
theorem zmW (k:κ):∀kvs:List (κ×V),(kvs.any λkv=>decide (kv.1=k))=(zjg kvs k).isSome
 | []=>rfl
 |p::r=>by
  rw[cr];by_cases e:p.1=k
  ·simp only[zfn e,decide_eq_true e,Bool.true_or,Option.isSome_some]
  ·rw[zfD e,decide_eq_false e,ja];exact zmW k r
theorem zeN (kvs:List (κ×V)) (k:κ) (v:V):(zhK kvs k v).length≤kvs.length+1:=by
 unfold zhK;split
 ·rw[aq];omega
 ·rw[aS,aR,c5];omega
theorem RelO.isSome_eq{o:Option V}{u:Option Value}(r:RelO o u):o.isSome=u.isSome:=by
 cases o with
 |none=>cases u with
  |none=>rfl
  |some _=>exact(show False from r).elim
 |some _=>cases u with
  |none=>exact(show False from r).elim
  |some _=>rfl
theorem RelO.getD{o:Option V}{u:Option Value}{d:V}{d':Value}(r:RelO o u) (rd:RelV d d'):RelV (o.getD d) (u.getD d'):=by
 cases o with
 |none=>cases u with
  |none=>exact rd
  |some _=>exact(show False from r).elim
 |some _=>cases u with
  |none=>exact(show False from r).elim
  |some _=>exact r
theorem KV.val{kvs:List (κ×V)}{vs:List (κ×Value)}(r:KV kvs vs) (k:κ):RelO (zjg kvs k) (d8 vs k):=by
 unfold KV at r
 induction r with
 |nil=>exact cO
 | @cons p q ps qs h t ih=>
  obtain⟨h1,h2⟩:=h;by_cases e:p.1=k
  ·have e':q.1=k:=h1.symm.trans e;have b:d8 (q::qs) k=ae q.2:=by simp [d8,bF,e']
   rw[zfn e,b];exact h2
  ·have e':¬q.1=k:=λz=>e (h1.trans z);have b:d8 (q::qs) k=d8 qs k:=by simp [d8,bF,e']
   rw[zfD e,b];exact ih
theorem KV.any{kvs:List (κ×V)}{vs:List (κ×Value)}(r:KV kvs vs) (k:κ):(kvs.any λkv=>decide (kv.1=k))=vs.any λkv=>decide (kv.1=k):=by
 unfold KV at r
 induction r with
 |nil=>rfl
 |cons h t ih=>rw[cr,cr,ih,h.1]
theorem KV.repl{kvs:List (κ×V)}{vs:List (κ×Value)}(r:KV kvs vs) (k:κ) {y:V}{u:Value}(ry:RelV y u) :
  KV (kvs.map λkv=>if kv.1=k then(kv.1,y) else kv) (vs.map λkv=>if kv.1=k then(kv.1,u) else kv):=by
 unfold KV at r⊢
 induction r with
 |nil=>exact .nil
 | @cons p q ps qs h t ih=>
  rw[aA,aA];refine .cons ?_ ih;obtain⟨h1,h2⟩:=h;by_cases e:p.1=k
  ·rw[if_pos e,if_pos (h1.symm.trans e)];exact⟨h1,ry⟩
  ·rw[if_neg e,if_neg (λz=>e (h1.trans z))];exact⟨h1,h2⟩
theorem KV.put{kvs:List (κ×V)}{vs:List (κ×Value)}(r:KV kvs vs) (k:κ) {y:V}{u:Value}(ry:RelV y u):KV (zhK kvs k y) (stored vs k u):=by
 unfold zhK stored;rw[r.any k];by_cases e:(vs.any λkv=>decide (kv.1=k))=true
 ·rw[if_pos e,if_pos e];exact r.repl k ry
 ·rw[if_neg e,if_neg e];exact aN.snoc r ⟨rfl,ry⟩
theorem KV.length{kvs:List (κ×V)}{vs:List (κ×Value)}(r:KV kvs vs):kvs.length=vs.length:=du r
end
theorem zrm{P:aE}{w:aB}{k:Key}{u:Value}(r:RelV (kV k) u):(zaY P w).is k u=true:=by
 cases k with
 |inl i=>obtain⟨t,e⟩:=(show ∃t,u=gd i t from r);subst e;exact zln P w i t
 |inr x=>obtain⟨t,e⟩:=(show ∃t,u=fh x t from r);subst e;exact zlR P w x t
theorem zkw{P:aE}{w:aB}:∀{ks:List Key}{us:List Value},Vals (ks.map kV) us→ItemsAre (zaY P w) ks us
 | [],_,r=>by rw[cp]at r;cases r;exact .nil
 |k::ks,_,r=>by
  rw[aA]at r;cases r with
  |cons h t=>exact .cons (zrm h) (zkw t)
noncomputable abbrev KT (H:Hp):List (List Key×V)→List (List Key×Addr×Value)→Prop:=aN λp q=>p.1=q.1∧H q.2.1=ae (.tup (p.1.map kV))∧RelV p.2 q.2.2
theorem KT.val{H:Hp}{kvs:List (List Key×V)}{xs:List (List Key×Addr×Value)}(r:KT H kvs xs) (k:List Key):RelO (zjg kvs k) ((df xs k).map (·.2)):=by
 induction r with
 |nil=>exact cO
 | @cons p q ps qs h t ih=>
  obtain⟨h1,_,h2⟩:=h;by_cases e:p.1=k
  ·have e':q.1=k:=h1.symm.trans e;have b:df (q::qs) k=ae q.2:=by simp [df,bF,e']
   rw[zfn e,b];exact h2
  ·have e':¬q.1=k:=λz=>e (h1.trans z);have b:df (q::qs) k=df qs k:=by simp [df,bF,e']
   rw[zfD e,b];exact ih
theorem KT.repl{H:Hp}{kvs:List (List Key×V)}{xs:List (List Key×Addr×Value)}(r:KT H kvs xs) (k:List Key) {y:V}{u:Value}(ry:RelV y u) :
  KT H (kvs.map λkv=>if kv.1=k then(kv.1,y) else kv) (xs.map (putAt k u)):=by
 induction r with
 |nil=>exact .nil
 | @cons p q ps qs h t ih=>
  rw[aA,aA];refine .cons ?_ ih;obtain⟨h1,h2,h3⟩:=h;unfold putAt;by_cases e:p.1=k
  ·rw[if_pos e,if_pos (h1.symm.trans e)];exact⟨h1,h2,ry⟩
  ·rw[if_neg e,if_neg (λz=>e (h1.trans z))];exact⟨h1,h2,h3⟩
theorem KT.put{H:Hp}{kvs:List (List Key×V)}{xs:List (List Key×Addr×Value)}(r:KT H kvs xs) (k:List Key) {b:Addr}{y:V}{u:Value}(hb:H b=ae (.tup (k.map kV))) (ry:RelV y u) :
  KT H (zhK kvs k y) (eO xs k b u):=by
 have e:(kvs.any λkv=>decide (kv.1=k))=(df xs k).isSome:=by
  rw[zmW,(r.val k).isSome_eq,ie]
 unfold zhK eO;rw[e];by_cases q:(df xs k).isSome=true
 ·rw[if_pos q,if_pos q];exact r.repl k ry
 ·rw[if_neg q,if_neg q];exact aN.snoc r ⟨rfl,hb,ry⟩
theorem KT.keeps{H H':Hp}{kvs:List (List Key×V)}{xs:List (List Key×Addr×Value)}(r:KT H kvs xs) (ht:∀b ys,H b=ae (.tup ys)→H' b=ae (.tup ys)):KT H' kvs xs:=
 Paired.mapP r λ_ _ z=>⟨z.1,ht _ _ z.2.1,z.2.2⟩
section
variable {P:aE}{w:aB}{H:Hp}{h:Heap}{a:Addr}
theorem zvI{u:HO}(ok:HOk P w H h) (e:Rd H a u):ObjOk P w H h a u:=e.ok ok
theorem zrn{kvs:List (Key×V)}(ok:HOk P w H h) (e:Rd H a (.dK kvs)):kvs.length≤sizeLine∧(a == ca)=false∧ ∃vs,KV kvs vs∧h.DictOf (zaY P w) a vs:=
 show ObjOk P w H h a (.dK kvs) from zvI ok e
theorem zyH{kvs:List (Key×V)}(ok:HOk P w H h) (e:H a=ae (.dK kvs)):kvs.length≤sizeLine∧(a == ca)=false∧ ∃vs,KV kvs vs∧h.DictOf (zaY P w) a vs:=zrn ok (.inl e)
theorem zkD{ks:List Key}(ok:HOk P w H h) (e:H a=ae (.tup (ks.map kV))):(bU (zaY P w)).is h ks a:=by
 obtain⟨_,its,r,o,h1,h2,n,h3⟩:=(show ObjOk P w H h a (.tup (ks.map kV)) from ok a _ e);exact⟨o,its.toArray,n,h1,h2,h3,by simpa using zkw r⟩
theorem zqY{kvs:List (List Key×V)}(ok:HOk P w H h) (e:Rd H a (.dT kvs)):kvs.length≤sizeLine∧(a == ca)=false∧
  ∃xs,KT H kvs xs∧h.DictOfH (bU (zaY P w)) a xs:=by
 obtain⟨z,y,xs,r,o,es,ep,h1,h2,h3,h4,h5⟩:=(show ObjOk P w H h a (.dT kvs) from zvI ok e);refine⟨z,y,xs,r,o,es,ep,h1,h2,h3,h4,λx hx=>?_,h5⟩;have all:∀{l:List (List Key×V)}{m:List (List Key×Addr×Value)},KT H l m→ ∀x∈m,(bU (zaY P w)).is h x.1 x.2.1:=by
  intro l m q
  induction q with
  |nil=>intro x hx;exact nomatch hx
  | @cons p q ps qs hq t ih=>
   intro x hx;rcases az.mp hx with e |hx
   ·subst e;exact zkD ok (by rw[←hq.1];exact hq.2.1)
   ·exact ih x hx
 exact all r x hx
theorem zyU{kvs:List (List Key×V)}(ok:HOk P w H h) (e:H a=ae (.dT kvs)):kvs.length≤sizeLine∧(a == ca)=false∧
  ∃xs,KT H kvs xs∧h.DictOfH (bU (zaY P w)) a xs:=zqY ok (.inl e)
end
def DGet (H:Hp) (a:Addr) (y:V) (r:Option V):Prop:=
 (∃kvs k,Rd H a (.dK kvs)∧y=kV k∧r=zjg kvs k)∨ ∃kvs k b,Rd H a (.dT kvs)∧y= .ref b∧H b=ae (.tup (k.map kV))∧r=zjg kvs k
def DPut (H:Hp) (a:Addr) (y v:V) (H':Hp):Prop:=
 (∃kvs k,H a=ae (.dK kvs)∧y=kV k∧kvs.length<sizeLine∧H'=upd H a (.dK (zhK kvs k v)))∨
 ∃kvs k b,H a=ae (.dT kvs)∧y= .ref b∧H b=ae (.tup (k.map kV))∧kvs.length<sizeLine∧H'=upd H a (.dT (zhK kvs k v))
theorem DGet.k{H:Hp}{a:Addr}{kvs:List (Key×V)}{k:Key}(e:H a=ae (.dK kvs)):DGet H a (kV k) (zjg kvs k):= .inl ⟨kvs,k, .inl e,rfl,rfl⟩
theorem DGet.t{H:Hp}{a b:Addr}{kvs:List (List Key×V)}{k:List Key}(e:H a=ae (.dT kvs)) (eb:H b=ae (.tup (k.map kV))):DGet H a (.ref b) (zjg kvs k):= .inr ⟨kvs,k,b, .inl e,rfl,eb,rfl⟩
theorem DPut.k{H:Hp}{a:Addr}{kvs:List (Key×V)}{k:Key}{v:V}(e:H a=ae (.dK kvs)) (hl:kvs.length<sizeLine):DPut H a (kV k) v (upd H a (.dK (zhK kvs k v))):= .inl ⟨kvs,k,e,rfl,hl,rfl⟩
section
variable {X:Cx}{pins:List (Addr×Obj)}{σ:St}{H:Hp}{s:ah}{a:Addr}{y v:V}{u r:Value}{o:Option V}{A:aM}{E:Value→ah→Prop}
theorem Inv.big (I:Inv X pins σ H s):ca<s.heap.objs.size:=by
 have h:aL<s.heap.objs.size:=(I.mod.glob.keeps I.bk).lt;exact Nat.lt_trans (by decide) h
theorem zAG{Q:Value→ah→Prop}(hu:A.units+1<cLine) (I:Inv X pins σ H s) (g:DGet H a y o) (ry:RelV y u) (h:∀s',Inv X pins σ H s'→Q (.bool o.isSome) s') :
  am (ap X.prog X.w) A (bG .In u (.ref a)) Q E s:=by
 rcases g with⟨kvs,k,e,ey,l⟩ |⟨kvs,k,b,e,ey,eb,l⟩
 ·subst ey;obtain⟨z,hd,vs,rel,dd⟩:=zrn I.hok e;refine wpAny_in_of (zrm ry) hd dd.mapOf ?_;rw[←(rel.val k).isSome_eq,←l];exact h _ (I.tok _)
 ·subst ey;cases(show u=a_ b from ry);obtain⟨z,hd,xs,rel,dd⟩:=zqY I.hok e;refine wpAny_in_heap (fi hu) (zkD I.hok eb) hd dd ?_;have q:=(rel.val k).isSome_eq;rw[ie]at q;rw[←q,←l];exact h _ (I.tok _)
theorem zqB{h':Heap}{t':Nat}{ob:HO}(I:Inv X pins σ H s) (mu:Mut (H a)) (hs:b6 a s.heap h') (he:∃q,h'.get? a=ae q) (new:ObjOk X.prog X.w (upd H a ob) h' a ob) :
  Inv X pins σ (upd H a ob) { s with heap:=h',toks:=t' }:=
 I.write (x:=a) (e:=a) mu (.inl rfl) (λb q hb z=>(hs.2 b hb).trans z) he new
theorem zwx{P:aE}{w:aB}{H':Hp}{h':Heap}{kvs:List (Key×V)}{vs:List (Key×Value)}(z:kvs.length≤sizeLine) (hd:(a == ca)=false) (rel:KV kvs vs) (dd:h'.DictOf (zaY P w) a vs) :
  ObjOk P w H' h' a (.dK kvs):=⟨z,hd,vs,rel,dd⟩
theorem zoo{H':Hp}{Q:Unit→ah→Prop}(hu:A.units+1<cLine) (I:Inv X pins σ H s) (g:DPut H a y v H') (ry:RelV y u) (rv:RelV v r) (h:∀s',Inv X pins σ H' s'→Q () s') :
  am (ap X.prog X.w) A (setItem (.ref a) u r) Q E s:=by
 rcases g with⟨kvs,k,e,ey,l,eH⟩ |⟨kvs,k,b,e,ey,eb,l,eH⟩
 ·subst ey eH;obtain⟨z,hd,vs,rel,dd⟩:=zyH I.hok e;have hz:vs.length≤sizeLine:=by rw[←rel.length];exact z
  have hl:(zhK kvs k v).length≤sizeLine:=by have:=zeN kvs k v;omega
  refine wpAny_setItem_pairs (hsz:=hz) (zrm ry) dd λh' dd' hs=>h _ ?_;have he:∃q,h'.get? a=ae q:=let ⟨q,_,_,hq,_⟩:=dd';⟨q,hq⟩;exact zqB I (by rw[e];exact cO) hs he (zwx hl hd (rel.put k rv) dd')
 ·subst ey eH;cases(show u=a_ b from ry);obtain⟨z,hd,xs,rel,dd⟩:=zyU I.hok e;have hz:xs.length≤sizeLine:=by rw[←du rel];exact z
  have hl:(zhK kvs k v).length≤sizeLine:=by have:=zeN kvs k v;omega
  refine wpAny_setItem_heap (hsz:=hz) (fi hu) (zkD I.hok eb) dd λh' dd' hs=>h _ ?_;obtain⟨q,es,ep,hq,h2,h3,h4,_,h5⟩:=dd';refine zqB I (by rw[e];exact cO) hs ⟨q,hq⟩ ⟨hl,hd,_,(rel.put k eb rv).keeps λc ys ec=>?_,q,es,ep,hq,h2,h3,h4,h5⟩;rw[zaz (zov ec e (λz=>nomatch z))];exact ec
end
noncomputable def zyo (td ty tv:TE):TS:=λD σ H=>tv σ H λv H1=>td σ H1 λx H2=>ty σ H2 λy H3=>∃a H4,x= .ref a∧DPut H3 a y v H4∧D.nx σ H4
section
variable {X:Cx}{o i value:Expr}{pos pos':aC}{td ty tv:TE}
theorem zuP (hu:X.A.units+1<cLine) (ho:PE X o td) (hi:PE X i ty) (hv:PE X value tv) (hs:di value (ae (.Subscript o i pos')) pos.line X.env=pure false) :
  PS X (.Assign [.Subscript o i pos'] value pos) (zyo td ty tv):=by
 intro pins s σ H D I h;refine wpAny_Assign_Subscript (thn (hv pins s σ H _ I h) λr s1 ⟨v,H1,I1,rv,q1⟩=>thn (ho pins s1 σ H1 _ I1 q1) λu s2 ⟨x,H2,I2,rx,q2⟩=>thn (hi pins s2 σ H2 _ I2 q2) λiv s3 ⟨y,H3,I3,ry,a,H4,ex,g,q3⟩=>?_) hs;subst ex;obtain rfl:u=a_ a:=rx;exact zoo hu I3 g ry rv λs4 I4=>⟨σ,H4,I4,q3⟩
end
theorem zsl{P:aE}{w:aB}{H:Hp}(h:Heap) (hb:ca<h.objs.size):ObjOk P w H (h.push { cls:= .type "dict",data:= .dict #[] }) h.objs.size (.dK []):=
 ⟨aY _,beq_eq_false_iff_ne.mpr (bn (bz hb)),[], .nil,Heap.DictOf.new h⟩
noncomputable def zwv:TE:=λ_ H Q=>∀p,H p=none→Q (.ref p) (upd H p (.dK []))
section
variable {X:Cx}{pos:aC}
theorem pe_dnewK:PE X (.Dict [] [] pos) zwv:=λpins s σ H Q I h=>
 wpAny_Dict_empty ⟨.ref s.heap.objs.size,_,I.laid (a:=s.heap.objs.size) (o:= .dK []) (t':=s.toks) (λ_ _ q=>aH _ q) (au _) (zsl s.heap I.big),rfl,h _ (I.hok.fresh (au _))⟩
end
structure M2 (X:Cx) (o:Expr) (m:Str) (apos:aC) (e f:Expr) (cpos:aC):Prop where
  base:cF o m X.env (ay o X.env)=ay o X.env
  few:((aP cpos (ao [e,f] X.env)).all (λx=> !x.1)&&(dD cpos (dn [] X.env)).all (λx=>x.1.isSome)
    &&decide (([e,f]:List Expr).length+([]:List bO).length+(if([]:List bO).isEmpty then 0 else 1)<30))=true
  line:(apos.endLine == cpos.line)=true
  trees:aP cpos (ao [e,f] X.env)=[(false,ay e X.env),(false,ay f X.env)]
def IsD (H:Hp) (a:Addr):Prop:=(∃kvs,Rd H a (.dK kvs))∨ ∃kvs,Rd H a (.dT kvs)
theorem zxU{X:Cx}{pins:List (Addr×Obj)}{σ:St}{H:Hp}{s:ah}{a:Addr}(I:Inv X pins σ H s) (d:IsD H a) :
  s.TypeIs (.ref a) "dict" ∧(∀b,a_ a= .ref b→ ∃ob,s.heap.get? b=ae ob∧ob.dict=none)∧(a == ca)=false:=by
 rcases d with⟨kvs,e⟩ |⟨kvs,e⟩
 ·obtain⟨_,hd,vs,_,dd⟩:=zrn I.hok e;refine⟨dd.typeIs,λb q=>?_,hd⟩;cases q;obtain⟨ob,_,_,h1,h2,_⟩:=dd;exact⟨ob,h1,h2.2.1⟩
 ·obtain⟨_,hd,xs,_,dd⟩:=zqY I.hok e;refine⟨dd.typeIs,λb q=>?_,hd⟩;cases q;obtain⟨ob,_,_,h1,h2,_⟩:=dd;exact⟨ob,h1,h2.2.1⟩
section
variable {X:Cx}{pins:List (Addr×Obj)}{σ:St}{H:Hp}{s:ah}{a:Addr}{y d:V}{u r:Value}{o:Option V}{A:aM}{E:Value→ah→Prop}
theorem zwK{Q:Value→ah→Prop}(hu:A.units+1<cLine) (I:Inv X pins σ H s) (g:DGet H a y o) (ry:RelV y u) (rd:RelV d r) (h:∀w' s',Inv X pins σ H s'→RelV (o.getD d) w'→Q w' s') :
  am (ap X.prog X.w) A (call (.builtin "dict.get") [.ref a,u,r]) Q E s:=by
 rcases g with⟨kvs,k,e,ey,l⟩ |⟨kvs,k,b,e,ey,eb,l⟩
 ·subst ey;obtain⟨z,hd,vs,rel,dd⟩:=zrn I.hok e;refine call_meetsIn gQ dd.typeIs i6 (jC _ _ _) (meets_dict_get_default (zaY X.prog X.w) a (zrm ry) hd r) ⟨_,dd.mapOf,h _ _ (I.tok _) ?_⟩;rw[l];exact(rel.val k).getD rd
 ·subst ey;cases(show u=a_ b from ry);obtain⟨z,hd,xs,rel,dd⟩:=zqY I.hok e;refine call_meetsIn gQ dd.typeIs i6 (jC _ _ _) (meetsH_dict_get_default (bU (zaY X.prog X.w)) a b hd r) ⟨fi hu,k,xs,zkD I.hok eb,dd,h _ _ (I.tok _) ?_⟩;rw[l];exact(rel.val k).getD rd
end
noncomputable def zvE (td ty tx:TE):TE:=λσ H Q=>td σ H λx H1=>∃a,x= .ref a∧IsD H1 a∧ty σ H1 λy H2=>tx σ H2 λz H3=>∃o,DGet H3 a y o∧Q (o.getD z) H3
section
variable {X:Cx}{o e f:Expr}{apos cpos:aC}{td ty tx:TE}
theorem zrT (hu:X.A.units+1<cLine) (ho:PE X o td) (he:PE X e ty) (hf:PE X f tx) (m:M2 X o "get" apos e f cpos):PE X (.Call (.Attribute o "get" apos) [e,f] [] cpos) (zvE td ty tx):=by
 intro pins s σ H Q I h;refine wpAny_Call_method m.base m.few m.line PySem.F.plainAttrs_dict gQ PySem.F.type_dict_get (thn (ho pins s σ H _ I h) λu s1 ⟨x,H1,I1,rx,a,ex,d,q1⟩=>?_);subst ex;obtain rfl:u=a_ a:=rx;obtain⟨t1,t2,_⟩:=zxU I1 d;refine⟨t1,t2,?_⟩;rw[m.trees];refine ib rfl (gl (ic (thn (he pins s1 σ H1 _ I1 q1) λiv s2 ⟨y,H2,I2,ry,q2⟩=>
  ic (thn (hf pins s2 σ H2 _ I2 q2) λfv s3 ⟨z,H3,I3,rz,ov,g,q3⟩=>jK ?_))))
 exact zwK hu I3 g ry rz λw' s4 I4 rw'=>⟨_,H3,I4,rw',q3⟩
end
end L2
namespace Att
open PySem PySem.W PySem.Calls PyProof.Rows
end Att
namespace L2
open PySem PySem.Spec PyProof.Rows
section
variable {prog:aE}{w:aB}{A:aM}{R:Result→ah→Prop}{s:ah}
theorem zjk{elt target iter:Expr}{ifs:List Expr}{scope:Scope}{pos:aC}{it acc:Value}{env:bv}(I:Nat→ah→Prop)
  (turn:∀n s,I n s→am (ap prog w) A (bS it) (λr s₁=>match r with
   |none=>R (.ok .next) s₁
   |some v=>am (ap prog w) A (fN target it v) (λ_ s₀=>am (ap prog w) A (assign target env v) (λ_ s₂=>
     am (ap prog w) A (forIn ifs true λc r=>if r=true then do let ok ←isTrue c env (ay c env);pure (dO ok) else pure (dO r)) (λok s₃=>
      if ok=true then am (ap prog w) A (ay elt env) (λx s₄=>
       am (ap prog w) A (call (.builtin "list.append") [acc,x]) (λ_ s₅=>∃m,m<n∧I m s₅) (λ_ _=>False) s₄) (λ_ _=>False) s₃
      else ∃m,m<n∧I m s₃) (λ_ _=>False) s₂) (λ_ _=>False) s₀) (λ_ _=>False) s₁) (λ_ _=>False) s)
  (n:Nat) (h:I n s) :
  dC (ap prog w) A (.compLoop (.ListComp elt [⟨target,iter,ifs,0⟩] scope pos) 0 it acc env) R s:=by
 refine codeAny_loop rfl I (λn s hI=>?_) n h;show am _ A ((compTurn (.ListComp elt [⟨target,iter,ifs,0⟩] scope pos) 0 it acc env).onRaise (λx=>do noteFrame x env;theTreesLotGoes x)) _ _ s;refine wpAny_noted ?_;rw[compTurn_list];refine ak (wpAny_standAt (ak (cm (turn n s hI) (λr s₁ h₁=>?_) λ_ _ h'=>h'.elim)));cases r with
 |none=>exact aD h₁
 |some v=>
  refine ak (cm h₁ (λ_ s₀ h₀=>?_) λ_ _ h'=>h'.elim);refine ak (cm h₀ (λ_ s₂ h₂=>ak (cm h₂ (λok s₃ h₃=>?_) λ_ _ h'=>h'.elim)) λ_ _ h'=>h'.elim);cases ok with
  |false=>exact aD ⟨rfl,h₃⟩
  |true=>
   exact ak (ak (cm h₃ (λx s₄ h₄=>ak (cm h₄ (λ_ s₅ h₅=>aD (aD ⟨rfl,h₅⟩)) λ_ _ h'=>h'.elim)) λ_ _ h'=>h'.elim))
end
noncomputable def zhG (cells:List (Str×Addr)):List (Str×bP)→List (Str×Addr)→List (Str×Addr)
 | [],acc=>acc
 | (n,k)::r,acc=>if(k == aT)=true then zhG cells r ((n,(cells.lookup n).getD 0)::acc) else zhG cells r acc
theorem znP{scope:Scope}{env:bv}(h:∀y∈scope.names,y.2= .free→ ∃c,env.cells.lookup y.1=ae c) :
  closureFor scope env=pure (zhG env.cells scope.names []):=by
 have go:∀(l:List (Str×bP)) (acc:List (Str×Addr)),(∀y∈l,y.2= .free→ ∃c,env.cells.lookup y.1=ae c)→
   (forIn l acc λ(x:Str×bP) (cs:List (Str×Addr))=>(if(x.2 == aT)=true then(do let a ←cellOf env x.1;pure (dO ((x.1,a)::cs))) else pure (dO cs):bT (ForInStep (List (Str×Addr)))))=(pure (zhG env.cells l acc):bT (List (Str×Addr))):=by
  intro l
  induction l with
  |nil=>intro acc _;rfl
  |cons x l ih=>
   intro acc hl;obtain⟨n,k⟩:=x;have hr:=λy hy=>hl y (aK _ hy);rw[ix];by_cases hk:k= .free
   ·subst hk;obtain⟨c,hc⟩:=hl (n, .free) a0 rfl;have hc':env.cells.lookup n=ae c:=hc;have e:cellOf env n=pure c:=by unfold cellOf;rw[hc']
    have e2:zhG env.cells ((n,aT)::l) acc=zhG env.cells l ((n,c)::acc):=by
     show(if(aT == aT)=true then zhG env.cells l ((n,(env.cells.lookup n).getD 0)::acc) else zhG env.cells l acc)=_;rw[if_pos (by rfl),hc'];rfl
    dsimp only;rw[if_pos (by rfl),e,gc,gc,e2];exact ih _ hr
   ·have hb:¬(k == aT)=true:=by simpa using hk
    have e2:zhG env.cells ((n,k)::l) acc=zhG env.cells l acc:=by
     show(if(k == aT)=true then zhG env.cells l ((n,(env.cells.lookup n).getD 0)::acc) else zhG env.cells l acc)=_;rw[if_neg hb]
    dsimp only;rw[if_neg hb,gc,e2];exact ih _ hr
 have q:=go scope.names [] h;unfold closureFor
 first
  |exact(bind_pure _).trans q
  | (simp only[bind_pure];exact q)
  | (simp only[gc,bind_assoc,bind_pure];exact q)
theorem zja{cells:List (Str×Addr)}{x:Str}{c:Addr}:∀(l:List (Str×bP)) (acc:List (Str×Addr)),(∀y∈l,y.2= .free→ ∃c,cells.lookup y.1=ae c)→
  (zhG cells l acc).lookup x=ae c→acc.lookup x=ae c∨cells.lookup x=ae c
 | [],acc,_,h=> .inl h
 | (n,k)::r,acc,hl,h=>by
  have hr:=λy hy=>hl y (aK (n,k) hy);by_cases hk:k= .free
  ·subst hk;have h':(zhG cells r ((n,(cells.lookup n).getD 0)::acc)).lookup x=ae c:=h;rcases zja r _ hr h' with q |q
   ·rw[b7]at q;cases e:x == n with
    |true=>
     rw[e]at q;obtain⟨d,hd⟩:=hl (n, .free) a0 rfl;have hd':cells.lookup n=ae d:=hd;have e1:x=n:=fU e;rw[hd']at q;have q':d=c:=aG q;exact .inr (by rw[e1,hd',q'])
    |false=>
     rw[e]at q;exact .inl q
   ·exact .inr q
  ·have hb:¬(k == aT)=true:=by simpa using hk
   have h':(if(k == aT)=true then zhG cells r ((n,(cells.lookup n).getD 0)::acc) else zhG cells r acc).lookup x=ae c:=h;rw[if_neg hb]at h';exact zja r acc hr h'
theorem zgy{cells:List (Str×Addr)}{x:Str}:∀(l:List (Str×bP)) (acc:List (Str×Addr)),((x,aT)∈l∨ ∃c,acc.lookup x=ae c)→ ∃c,(zhG cells l acc).lookup x=ae c
 | [],acc,h=>by
  rcases h with h |h
  ·cases h
  ·exact h
 | (n,k)::r,acc,h=>by
  by_cases hk:k= .free
  ·subst hk;refine zgy r ((n,(cells.lookup n).getD 0)::acc) ?_;cases e:x == n with
   |true=>exact .inr ⟨_,by rw[b7,e]⟩
   |false=>
    rcases h with h |⟨c,h⟩
    ·rcases az.mp h with q |q
     ·have:x=n:=congrArg Prod.fst q;rw[this]at e;simp at e
     ·exact .inl q
    ·exact .inr ⟨c,by rw[b7,e];exact h⟩
  ·have hb:¬(k == aT)=true:=by simpa using hk
   show ∃c,(if(k == aT)=true then zhG cells r ((n,(cells.lookup n).getD 0)::acc) else zhG cells r acc).lookup x=ae c;rw[if_neg hb];refine zgy r acc ?_;rcases h with h |h
   ·rcases az.mp h with q |q
    ·exact absurd (congrArg gw q).symm hk
    ·exact .inl q
   ·exact .inr h
theorem zdq{env:bv}{x:Str}{k:bP}:∀{names:List (Str×bP)},(∀y∈names,y.2≠ .cell)→
  (names.map λ(n,k)=>if(k == aT&&env.scope.kind == .function&&env.kindOf n == ae .cell) then(n,cn) else(n,k)).lookup x=ae k→(k= .cell∨k= .free)→(x,aT)∈names
 | [],_,h,_=>by simp at h
 | (n,j)::r,hc,h,hk=>by
  have h':gA x ((if(j == aT&&env.scope.kind == .function&&env.kindOf n == ae .cell)=true then(n,cn) else(n,j)) ::
   (r.map λ(n,k)=>if(k == aT&&env.scope.kind == .function&&env.kindOf n == ae .cell) then(n,cn) else(n,k)))=ae k:=h
  have hr:=λy hy=>hc y (aK (n,j) hy);have hj:j≠ .cell:=hc (n,j) a0;cases e:x == n with
  |true=>
   have e1:x=n:=fU e;subst e1;by_cases c:(j == aT&&env.scope.kind == .function&&env.kindOf x == ae .cell)=true
   ·have c1:(j == aT)=true:=by
     cases q:(j == aT) with
     |true=>rfl
     |false=>rw[q]at c;simp at c
    have c2:j= .free:=by simpa using c1
    rw[c2];exact a0
   ·rw[if_neg c]at h';simp only[b7,beq_self_eq_true]at h';have h2:j=k:=aG h';rcases hk with z |z
    ·exact absurd (h2.trans z) hj
    ·rw[h2,z];exact a0
  |false=>
   by_cases c:(j == aT&&env.scope.kind == .function&&env.kindOf n == ae .cell)=true
   ·rw[if_pos c]at h';simp only[b7,e]at h';exact aK _ (zdq hr h' hk)
   ·rw[if_neg c]at h';simp only[b7,e]at h';exact aK _ (zdq hr h' hk)
theorem zel{env:bv}{x:Str}:∀{names:List (Str×bP)},names.lookup x=ae .free→
  (names.map λ(n,k)=>if(k == aT&&env.scope.kind == .function&&env.kindOf n == ae .cell) then(n,cn) else(n,k)).lookup x=ae .cell∨
  (names.map λ(n,k)=>if(k == aT&&env.scope.kind == .function&&env.kindOf n == ae .cell) then(n,cn) else(n,k)).lookup x=ae .free
 | [],h=>by simp at h
 | (n,j)::r,h=>by
  show gA x ((if(j == aT&&env.scope.kind == .function&&env.kindOf n == ae .cell)=true then(n,cn) else(n,j)) ::
   (r.map λ(n,k)=>if(k == aT&&env.scope.kind == .function&&env.kindOf n == ae .cell) then(n,cn) else(n,k)))=_∨
   gA x ((if(j == aT&&env.scope.kind == .function&&env.kindOf n == ae .cell)=true then(n,cn) else(n,j)) ::
   (r.map λ(n,k)=>if(k == aT&&env.scope.kind == .function&&env.kindOf n == ae .cell) then(n,cn) else(n,k)))=_
  cases e:x == n with
  |true=>
   simp only[b7,e]at h;have h2:j= .free:=aG h;subst h2;by_cases c:(aT == aT&&env.scope.kind == .function&&env.kindOf n == ae .cell)=true
   ·rw[if_pos c];simp only[b7,e];exact .inl trivial
   ·rw[if_neg c];simp only[b7,e];exact .inr trivial
  |false=>
   simp only[b7,e]at h;by_cases c:(j == aT&&env.scope.kind == .function&&env.kindOf n == ae .cell)=true
   ·rw[if_pos c];simp only[b7,e];exact zel h
   ·rw[if_neg c];simp only[b7,e];exact zel h
noncomputable def zbB (X:Cx) (scope:Scope) (N:List Str) (s:ah) (H:Hp) (fp:List Addr) (pins:List (Addr×Obj)):Cx:=
 { X with N:=N,s₀:=s,H₀:=H,env:=compEnvC scope (zhG X.env.cells scope.names []) s.heap.objs.size X.env,outer:=X.stack,stack:=X.stack,ex:=fp,fn:=λ_=>false,pn:=X.pn++pins,xe:=λ_ _=>False }
structure CompSc (X:Cx) (scope:Scope) (N:List Str) (k:Nat) (fr:List Nat):Prop where
  kind:scope.kind= .function
  nd:N.Nodup
  len:N.length=k+fr.length
  cell:(scope.names.all λy=>y.2 != cn)=true
  loc:(scope.names.all λy=>y.2 != bP.local || scope.names.lookup y.1 == ae bP.local)=true
  free:(scope.names.all λy=>y.2 != aT || X.env.kindOf y.1 == ae cn || X.env.kindOf y.1 == ae aT)=true
  frs:((N.drop k).all λx=>scope.names.lookup x == ae aT)=true
  pl:N.drop k=fr.map λj=>X.N.getD j ik
  plen:(fr.all λj=>decide (j<X.N.length))=true
noncomputable def zgW (σ:St) (fr:List Nat):St:=fr.map λj=>(σ[j]?).join
noncomputable def zmT (σ:St) (k:Nat) (fr:List Nat):St:=aO k none++zgW σ fr
section
variable {X:Cx}{scope:Scope}{N:List Str}{k:Nat}{fr:List Nat}
theorem CompSc.cell' (S:CompSc X scope N k fr):∀y∈scope.names,y.2≠ .cell:=λy hy=>by
 have q:=cY.mp S.cell y hy;simpa using q
theorem CompSc.loc' (S:CompSc X scope N k fr):∀y∈scope.names,y.2= .local→scope.names.lookup y.1=ae .local:=λy hy e=>by
 have q:=cY.mp S.loc y hy;rw[e]at q;simpa using q
theorem CompSc.kinds (S:CompSc X scope N k fr):∀y∈scope.names,y.2= .free→X.env.kindOf y.1=ae .cell∨X.env.kindOf y.1=ae .free:=λy hy e=>by
 have q:=cY.mp S.free y hy;rw[e]at q;simpa using q
theorem CompSc.hasCell (S:CompSc X scope N k fr) (ok:X.Ok):∀y∈scope.names,y.2= .free→ ∃c,X.env.cells.lookup y.1=ae c:=λy hy e=>ok.has y.1 (S.kinds y hy e)
theorem CompSc.sub (S:CompSc X scope N k fr) (ok:X.Ok) {x:Str}{c:Addr}(h:(zhG X.env.cells scope.names []).lookup x=ae c):X.env.cells.lookup x=ae c:=by
 rcases zja scope.names [] (S.hasCell ok) h with q |q
 ·simp at q
 ·exact q
end
section
variable {X:Cx}{pins:List (Addr×Obj)}{σ:St}{H:Hp}{s:ah}{scope:Scope}{N:List Str}{k:Nat}{fr:List Nat}{fp:List Addr}
theorem zvt (I:Inv X pins σ H s) (S:CompSc X scope N k fr) (hfp:∀b∈fp,zjf X pins H b) (hob:∀b∈fp,∃o,s.heap.get? b=ae o):(zbB X scope N s H fp pins).Ok where
  mod:=I.ok.mod
  kind:=S.kind
  glob:=I.ok.glob
  blt:=I.ok.blt
  above:=au _
  inj:=λx y c h1 h2=>I.ok.inj x y c (S.sub I.ok h1) (S.sub I.ok h2)
  has:=λx hx=>zgy scope.names [] (.inl (by
    rcases hx with hx |hx
    · exact zdq S.cell' hx (.inl rfl)
    · exact zdq S.cell' hx (.inr rfl)))
  cab:=λx c h _=>absurd h (by show ¬(false=true);decide)
  hd:=I.ok.hd
  frames:=I.ok.frames
  stk:= .inl rfl
  exf:=λb hb=>⟨by
    obtain⟨o,e⟩:=hob b hb;exact bz (aJ e),λx c h=>(hfp b hb).2.2.2.2.1 x c (S.sub I.ok h)⟩
  bs:=I.bs
  bsz:=aX I.ok.bsz I.sz
  noex:=λb o e hb=>by
    rcases(hfp b hb).2.2.2.1 with z |z
    · exact I.ok.noex b o e z
    · exact absurd (bH (aJ (I.ok.bs b o e).1) z) (cM _)
  exfs:=λb hb z=>by
    rcases az.mp (I.stkSub b z) with q |q
    · exact(hfp b hb).2.1 q
    · exact(hfp b hb).2.2.1 q
  funs:=I.stack
  frf:=I.stkFree
theorem zuU (I:Inv X pins σ H s) (S:CompSc X scope N k fr) {H':Hp}{b:Addr}(hb:b∈fp) (hf:zjf X pins H b) (hob:∃o,s.heap.get? b=ae o) (hn:H' b=none):zjf (zbB X scope N s H fp pins) [] H' b:=by
 refine⟨hn,?_,λz=>?_, .inl hb,λx c h=>hf.2.2.2.2.1 x c (S.sub I.ok h),λp hp=>?_⟩
 ·obtain⟨o,e⟩:=hob;exact bz (aJ e)
 ·rcases az.mp (I.stkSub b z) with q |q
  ·exact hf.2.1 q
  ·exact hf.2.2.1 q
 ·rcases bq.mp hp with z |z
  ·exact hf.2.2.2.2.2 p z
  ·cases z
theorem znE{j:Nat}{v:V}(h:(zgW σ fr)[j]? =ae (ae v)):∃i,fr[j]? =ae i∧σ[i]? =ae (ae v):=by
 unfold zgW at h;rw[bt]at h;cases e:fr[j]? with
 |none=>rw[e]at h;cases h
 |some i=>
  rw[e]at h;have h':(σ[i]?).join=ae v:=aG h;refine⟨i,rfl,?_⟩;cases q:σ[i]? with
  |none=>rw[q]at h';cases h'
  |some o=>
   rw[q]at h';have h2:o=ae v:=h';rw[h2]
theorem zrg (I:Inv X pins σ H s) (S:CompSc X scope N k fr) (hfp:∀b∈fp,zjf X pins H b) (hob:∀b∈fp,∃o,s.heap.get? b=ae o) {h1:Heap}{tk:Nat}{m:Str→Option Value}
    (hns:h1.Ns s.heap.objs.size m) (hk:∀b o,s.heap.get? b=ae o→h1.get? b=ae o):Inv (zbB X scope N s H fp pins) [] (zmT σ k fr) H { s with heap:=h1,toks:=tk } where
  ok:=zvt I S hfp hob
  os:=rfl
  bare:=I.bare
  base:=Un.kept hk
  loc:=⟨m,hns,λi x v e1 e2 e3=>by
    have e2':(aO k (none:Option V)++zgW σ fr)[i]? =ae (ae v):=e2;have hi:k≤i:=by
      refine jn λz=>?_;rw[iX (by simpa using z),jr]at e2';split at e2'<;>cases e2'
    rw[ig (by simpa using hi),ij]at e2';obtain⟨j,f1,f2⟩:=znE e2';have e1':N[i]? =ae x:=e1;have d1:(N.drop k)[i - k]? =ae x:=by
      rw[jO];have:k+(i - k)=i:=by omega
      rw[this];exact e1'
    have d2:=d1;rw[S.pl,bt,f1]at d2;have d3:X.N.getD j ik=x:=aG d2;have jl:j<X.N.length:=of_decide_eq_true (cY.mp S.plen j (aV f1));have d4:X.N[j]? =ae x:=by
      rw[br,a8 jl]at d3;rw[a8 jl];exact congrArg ae d3
    have fk:scope.names.lookup x=ae .free:=by
      have q:=cY.mp S.frs x (aV d1);simpa using q
    have hmem:(x,aT)∈scope.names:=dS fk;have kd:=S.kinds _ hmem rfl;have vis:Vis X.env.scope x:=by
      rcases kd with z |z
      · exact .inr (.inl z)
      · exact .inr (.inr z)
    obtain⟨m0,_,hl⟩:=I.loc;obtain⟨u,ru,lk⟩:=hl j x v d4 f2 vis;refine⟨u,ru, .inr ⟨zel fk,?_⟩⟩;have kd':X.env.kindOf x=ae .cell∨X.env.kindOf x=ae .free:=kd;rcases lk with⟨z,_⟩ |⟨_,c,hc,hcell⟩
    · rcases kd' with q |q<;>(rw[z]at q;cases q)
    · obtain⟨c',hc'⟩:=zgy (cells:=X.env.cells) scope.names [] (.inl hmem);have e:=S.sub I.ok hc';rw[hc]at e;cases e;exact⟨c,hc',hcell.keeps hk⟩⟩
  cell:=λx c h=>by
    obtain⟨v,z⟩:=I.cell x c (S.sub I.ok h);exact⟨v,z.keeps hk⟩
  free:=I.hok.fresh (au _)
  freeC:=λx c h=>I.freeC x c (S.sub I.ok h)
  pin:=λp hp=>by
    have hp':p∈X.pn++pins:=by
      rcases bq.mp hp with z |z
      · exact z
      · cases z
    obtain⟨e,n,ne,nf,d⟩:=I.pin p hp';refine⟨hk _ _ e,n,bz (aJ e),λz=>?_,d⟩;rcases az.mp (I.stkSub p.1 z) with q |q
    · exact ne q
    · exact nf q
  hok:=I.hok.kept hk
  len:=by
    show(aO k (none:Option V)++zgW σ fr).length=N.length;rw[aS,ij,S.len];unfold zgW;rw[aq]
theorem zjh{σ':St}{H':Hp}{s':ah}{h':Heap}(I:Inv X pins σ H s) (hfp:∀b∈fp,zjf X pins H b) (J:Inv (zbB X scope N s H fp pins) [] σ' H' s') (sb:b6 s.heap.objs.size s'.heap h'):Inv X pins σ H' { s' with heap:=h' }:=by
 have neC:∀b o,s.heap.get? b=ae o→b≠s.heap.objs.size:=λb o e=>bz (aJ e);have frC:H' s.heap.objs.size=none:=J.free;refine Inv.call' (s':={ s' with heap:=h' }) (ch:=fp) I J.os ⟨λb o e n hf hx=>?_,λb o e n hf hx=>?_,λb o e n hx=>J.base.free b o e n hx,λb o e hx=>?_,J.base.tups,J.base.frzs,J.base.tbls⟩ (λb o e=>?_) J.bare λb hb=>⟨(hfp b hb).2.2.2.1,(hfp b hb).2.1,(hfp b hb).2.2.2.2.1,(hfp b hb).2.2.2.2.2⟩
 ·exact(sb.2 b (neC b o e)).trans (J.base.keep b o e n hf hx)
 ·obtain⟨sl,q⟩:=J.base.slot b o e n hf hx;exact⟨sl,(sb.2 b (neC b o e)).trans q⟩
 ·obtain⟨o',q⟩:=J.base.there b o e hx;exact⟨o',(sb.2 b (neC b o e)).trans q⟩
 ·refine(J.hok b o e).stay (λc v hc q=>(sb.2 c ?_).trans q) (λ_ q=>q) λ_ _ q=>q;rintro rfl;rcases hc with rfl |hc
  ·rw[frC]at e;cases e
  ·rw[frC]at hc;cases hc
end
def PTs (X:Cx) (ifs:List Expr) (t:TT):Prop:=
 ∀(pins:List (Addr×Obj)) (s:ah) (σ:St) (H:Hp) (Q:Bool→Hp→Prop),Inv X pins σ H s→t σ H Q→
  am (ap X.prog X.w) X.A (forIn ifs true λc r=>if r=true then do let ok ←isTrue c X.env (ay c X.env);pure (dO ok) else pure (dO r)) (TP X pins σ Q) X.xe s
noncomputable def zAJ:TT:=λ_ H Q=>Q true H
theorem ztZ{X:Cx}:PTs X [] zAJ:=λ_ _ _ H _ I h=>wpAny_tests_nil ⟨H,I,h⟩
theorem zuu{X:Cx}{c:Expr}{t:TT}(h:PT X c t):PTs X [c] t:=λpins s σ H Q I q=>wpAny_tests_one (h pins s σ H Q I q)
def zym (X:Cx) (scope:Scope) (N:List Str) (tg:Expr) (ifs:List Expr) (elt:Expr) (l:Addr) (x:V) (σ:St) (H:Hp) (M:St→Hp→Prop):Prop:=
 ∀(s₀:ah) (H₀:Hp) (fp:List Addr) (pn:List (Addr×Obj)),∃(g:TG) (tt:TT) (te:TE),PG (zbB X scope N s₀ H₀ fp pn) tg g∧PTs (zbB X scope N s₀ H₀ fp pn) ifs tt∧PE (zbB X scope N s₀ H₀ fp pn) elt te∧
  g x σ H λσ2 H2=>tt σ2 H2 λb H3=>if b=true then te σ2 H3 λy H4=>∃ys,H4 l=ae (.lst ys)∧ys.length<sizeLine∧M σ2 (upd H4 l (.lst (ys++[y]))) else M σ2 H3
def zul (X:Cx) (scope:Scope) (N:List Str) (k:Nat) (fr:List Nat) (tg:Expr) (ifs:List Expr) (elt:Expr) (σ:St) (Q:VK) (J:It) (H1:Hp):Prop:=∀l,H1 l=none→
 ∃W:Nat→Nat→St→Hp→Prop,(∃m,W 0 m (zmT σ k fr) (upd H1 l (.lst [])))∧ ∀i m σ' H',W i m σ' H'→
  (J.stop i H'∧Q (.ref l) H')∨(J.go i H'∧ ∃M:St→Hp→Prop,(∀σ'' H'',M σ'' H''→ ∃m',m'<m∧W (i+1) m' σ'' H'')∧ ∀x H2,J.yld i H' x H2→zym X scope N tg ifs elt l x σ' H2 M)
noncomputable def zrE (X:Cx) (scope:Scope) (N:List Str) (k:Nat) (fr:List Nat) (tg:Expr) (ifs:List Expr) (elt:Expr) (wi:TI):TE:=λσ H Q=>wi σ H λJ H1=>zul X scope N k fr tg ifs elt σ Q J H1
theorem zjN{X:Cx}{use:Option (Value→bT Unit)}{Qf:Value→ah→Prop}{pins:List (Addr×Obj)}{s:ah}{σ:St}{H:Hp}{Q:VK}{scope:Scope}{N:List Str}{k:Nat}{fr:List Nat}{tg iter elt:Expr}{ifs:List Expr}{wi:TI}{pos:aC}(hx:X.xe=λ_ _=>False) (hc:X.calm=true) (S:CompSc X scope N k fr) (hi:PI X tg iter wi) (I:Inv X pins σ H s)
  (fin:∀{s3 s6:ah}{H3 H5:Hp}{fp:List Addr}{σ5:St}{l:Addr}{a:Flow},Inv X pins σ H3 s3→(∀b∈fp,zjf X pins H3 b)→Inv (zbB X scope N s3 H3 fp pins) [] σ5 H5 s6→Q (.ref l) H5→compPost (ap X.prog X.w) X.A X.xe use Qf (.ref l) s3.heap.objs.size (.ok a) s6)
  (h:zrE X scope N k fr tg ifs elt wi σ H Q)
  (hs:∀x,dJ iter X.env x=pure x:=by intro _;rfl):am (ap X.prog X.w) X.A (comprehension (.ListComp elt [⟨tg,iter,ifs,0⟩] scope pos) scope X.env (firstIterPos [⟨tg,iter,ifs,0⟩] pos) (newList []) (firstAsync [⟨tg,iter,ifs,0⟩]) (firstIter [⟨tg,iter,ifs,0⟩] X.env) use) Qf X.xe s:=by
 refine wpAny_comprehension_free (use:=use) rfl hs (znP (S.hasCell I.ok)) S.kind S.loc' (thn (hi pins s σ H _ I h) λv s1 h1=>thn h1 λitv s2 h2=>?_);obtain⟨it,fp,tn,J,H2,e,I2,T,st2,f2,h2⟩:=h2;subst e;have fr2:H2 s2.heap.objs.size=none:=I2.hok.fresh (au _);obtain⟨W,⟨m0,w0⟩,turn⟩:=h2 s2.heap.objs.size fr2;refine wpAny_newList ?_ (by show 0≤sizeLine;exact aY _);have I3:Inv X pins σ (upd H2 s2.heap.objs.size (.lst [])) { s2 with heap:=s2.heap.push { cls:= .type "list",data:= .seq ([]:List Value).toArray } }:=I2.lnew (t':=s2.toks) (ys:=[]) .nil (aY _);have old:∀b o,s2.heap.get? b=ae o→(s2.heap.push { cls:= .type "list",data:= .seq ([]:List Value).toArray }).get? b=ae o:=λb o e=>aH _ e;have fpo2:∀b∈fp,∃o,s2.heap.get? b=ae o:=λb hb=>by
  obtain⟨o,e,_⟩:=T.obj _ _ st2 b hb;exact⟨o,e⟩
 have fpo:∀b∈fp,∃o,(s2.heap.push { cls:= .type "list",data:= .seq ([]:List Value).toArray }).get? b=ae o:=λb hb=>by
  obtain⟨o,e⟩:=fpo2 b hb;exact⟨o,old b o e⟩
 have f3:∀b∈fp,zjf X pins (upd H2 s2.heap.objs.size (.lst [])) b:=λb hb=>by
  obtain⟨o,e⟩:=fpo2 b hb;refine⟨?_,(f2 b hb).2⟩;rw[zaz (bz (aJ e))];exact(f2 b hb).1
 generalize hs3:({ s2 with heap:=s2.heap.push { cls:= .type "list",data:= .seq ([]:List Value).toArray } }:ah)=s3 at I3⊢;have st3:tn 0 s3.heap:=by
  rw[←hs3];exact T.keep _ _ _ st2 λb _ o e=>old b o e
 have fpo3:∀b∈fp,∃o,s3.heap.get? b=ae o:=by rw[←hs3];exact fpo
 clear fpo old hs3;refine wpAny_newFunctionEnv S.cell' (by intro y hy;simp at hy) (λh1 hns1 hsb1=>?_) S.kind;have hk1:∀b o,s3.heap.get? b=ae o→h1.get? b=ae o:=λb o e=>hsb1.extBut b o (bz (aJ e)) (aH _ e);have I4:=zrg (tk:=s3.toks+([]:List (Str×Value)).length) I3 S f3 fpo3 hns1 hk1;have st4:tn 0 h1:=T.keep _ _ _ st3 λb _ o e=>hk1 b o e;have stat:∀{H':Hp},(∀b∈fp,H' b=none)→ ∀b∈fp,zjf (zbB X scope N s3 (upd H2 s2.heap.objs.size (.lst [])) fp pins) [] H' b:=λhn b hb=>zuU I3 S hb (f3 b hb) (fpo3 b hb) (hn b hb);have loop:∀s4:ah,s4={ s3 with heap:=h1,toks:=s3.toks+([]:List (Str×Value)).length }→
   dC (ap X.prog X.w) X.A (.compLoop (.ListComp elt [⟨tg,iter,ifs,0⟩] scope pos) 0 (.ref it) (.ref s2.heap.objs.size) (compEnvC scope (zhG X.env.cells scope.names []) s3.heap.objs.size X.env))
    (compPost (ap X.prog X.w) X.A X.xe use Qf (.ref s2.heap.objs.size) s3.heap.objs.size) s4:=by
  rintro s4 rfl;refine zjk (λn s'=>∃i σ' H',Inv (zbB X scope N s3 (upd H2 s2.heap.objs.size (.lst [])) fp pins) [] σ' H' s'∧tn i s'.heap∧(∀b∈fp,H' b=none)∧W i n σ' H') ?_ m0 ⟨0,_,_,I4,st4,λb hb=>(f3 b hb).1,w0⟩;rintro n s5 ⟨i,σ5,H5,I5,st5,fr5,w5⟩;rcases turn i n σ5 H5 w5 with⟨stop,qn⟩ |⟨go,M,hM,step⟩
  ·refine thn (T.done (zbB X scope N s3 (upd H2 s2.heap.objs.size (.lst [])) fp pins) rfl rfl rfl hc i [] s5 σ5 H5 _ I5 (stat fr5) st5 stop) λr s6 ⟨hr,I6⟩=>?_;subst hr;exact fin I3 f3 I6 qn
  ·refine thn (T.item (zbB X scope N s3 (upd H2 s2.heap.objs.size (.lst [])) fp pins) rfl rfl rfl hc i [] s5 σ5 H5 _ I5 (stat fr5) st5 go) λr s6 ⟨u,hr,h6⟩=>?_;subst hr;refine thn h6 λ_ s7 ⟨x,H7,I7,r7,y7,st7,fr7⟩=>?_;have I7':=I7.pinned (stat fr7) (T.obj _ _ st7);obtain⟨g,tt,te,hg,ht,he,q⟩:=step x H7 y7 s3 (upd H2 s2.heap.objs.size (.lst [])) fp pins;have again:∀{s8:ah}{σ8:St}{H8:Hp},Inv (zbB X scope N s3 (upd H2 s2.heap.objs.size (.lst [])) fp pins) ([]++zjC fp s7.heap) σ8 H8 s8→M σ8 H8→
     ∃m,m<n∧ ∃i σ' H',Inv (zbB X scope N s3 (upd H2 s2.heap.objs.size (.lst [])) fp pins) [] σ' H' s8∧tn i s8.heap∧(∀b∈fp,H' b=none)∧W i m σ' H':=λ{s8 σ8 H8} I8 n8=>by
    obtain⟨m',hm,w8⟩:=hM σ8 H8 n8;refine⟨m',hm,i+1,σ8,H8,I8.unpinned,T.keep _ _ _ st7 λb hb o e=>(I8.pin (b,o) (b_ _ (b_ _ (zer hb e)))).1,λb hb=>?_,w8⟩;obtain⟨o,e,d⟩:=T.obj _ _ st7 b hb;exact(I8.pin (b,o) (b_ _ (b_ _ (zer hb e)))).2.1
   refine thn (hg _ s7 σ5 H7 x u _ I7' r7 q) λ_ s8 ⟨σ8,H8,I8,q8⟩=>?_;refine thn (ht _ s8 σ8 H8 _ I8 q8) λb s9 ⟨H9,I9,q9⟩=>?_;cases b with
   |false=>exact again I9 q9
   |true=>
    refine thn (he _ s9 σ8 H9 _ I9 q9) λy s10 ⟨yv,H10,I10,r10,ys,hl,hz,qM⟩=>?_;exact thn (zjM _ s10 σ8 H10 (.ref s2.heap.objs.size) [yv] (.ref s2.heap.objs.size) [y] (λ_ H'=>M σ8 H') I10 rfl (.cons r10 .nil) ⟨_,ys,yv,rfl,rfl,hl,hz,qM⟩) λ_ s11 ⟨_,H11,I11,_,q11⟩=>again I11 q11
 exact codeAny_compStart_list (loop _ rfl) (T.self _ 0 _ _ _ st4 (loop _ rfl))
theorem zun{X:Cx}{scope:Scope}{N:List Str}{k:Nat}{fr:List Nat}{tg iter elt:Expr}{ifs:List Expr}{wi:TI}{pos:aC}(hx:X.xe=λ_ _=>False) (hc:X.calm=true) (S:CompSc X scope N k fr) (hi:PI X tg iter wi)
  (hs:∀x,dJ iter X.env x=pure x:=by intro _;rfl):PE X (.ListComp elt [⟨tg,iter,ifs,0⟩] scope pos) (zrE X scope N k fr tg ifs elt wi):=by
 intro pins s σ H Q I h;rw[eval_ListComp];refine zjN hx hc S hi I (λ{s3 s6 H3 H5 fp σ5 l a} I3 f3 I6 qn=>?_) h hs;obtain⟨m6,ns6,_⟩:=I6.loc;exact⟨m6,ns6,λh' sb=>⟨.ref l,H5,zjh I3 f3 I6 sb,rfl,qn⟩⟩
theorem zuN{X:Cx}{scope:Scope}{N:List Str}{k:Nat}{fr:List Nat}{tg iter elt:Expr}{ifs:List Expr}{wi:TI}{pos spos pos':aC}{i:Nat}{x:Str}(hx:X.xe=λ_ _=>False) (hc:X.calm=true) (S:CompSc X scope N k fr) (hi:PI X tg iter wi)
  (hN:X.N.Nodup) (hxi:X.N[i]? =ae x) (hxl:Loc X.env.scope x) (hw:di (.ListComp elt [⟨tg,iter,ifs,0⟩] scope pos) (ae (.Name x pos')) spos.line X.env=pure true) (hf:X.fn x=true∨X.env.scope.names.lookup x=ae .local)
  (hs:∀x,dJ iter X.env x=pure x:=by intro _;rfl):PS X (.Assign [.Name x pos'] (.ListComp elt [⟨tg,iter,ifs,0⟩] scope pos) spos) (zzz (zrE X scope N k fr tg ifs elt wi) (zvg i)):=by
 intro pins s σ H D I h;rw[exec_Assign_Name_used x pos' _ spos hw];refine ak (wpAny_standAt (ak ?_));rw[arm_evalThenUse_ListComp];refine ak ?_;refine zjN (Qf:=λ_ s'=>am (ap X.prog X.w) X.A (pure ()) (λ_ s2=>am (ap X.prog X.w) X.A (pure Flow.next) (SP X pins D) X.xe s2) X.xe s') hx hc S hi I (λ{s3 s6 H3 H5 fp σ5 l a} I3 f3 I6 qn=>?_) h hs;have IX:Inv X pins σ H5 s6:=zjh (h':=s6.heap) I3 f3 I6 ⟨rfl,λ_ _=>rfl⟩;obtain⟨m6,ns6,_⟩:=I6.loc;have ns6:s6.heap.Ns s3.heap.objs.size m6:=ns6;have frC:H5 s3.heap.objs.size=none:=I6.free;have fC:zjf X pins H5 s3.heap.objs.size:=I3.fpOk (au _) frC;refine jd (zjv IX hN hxi hxl (v:= .ref l) rfl (λs7 I7 ⟨b,sb,hb⟩=>?_) hf);have hbC:s3.heap.objs.size≠b:=by
  rcases hb with rfl |hb
  ·exact fC.2.1
  ·exact bn (fC.2.2.2.2.1 _ _ hb)
 refine⟨m6,ns6.sameBut sb hbC,λh' sb2=>aD (aD ⟨_,H5,?_,qn⟩)⟩;refine Inv.call' (s':={ s7 with heap:=h' }) (ch:=[s3.heap.objs.size]) I7 rfl ⟨λc o e n hfs hex=>?_,λc o e n hfs hex=>?_,λc o e n _=>n,λc o e hex=>?_,λ_ _ q=>q,λ_ _ _ q=>q,λ_ ps q=>⟨#[],by simpa using q⟩⟩ (λc o e=>?_) I7.bare λc hcm=>?_
 ·exact(sb2.2 c (λz=>hex (by simp [z]))).trans e
 ·exact⟨o.slots,(sb2.2 c (λz=>hex (by simp [z]))).trans e⟩
 ·exact⟨o,(sb2.2 c (λz=>hex (by simp [z]))).trans e⟩
 ·refine(I7.hok c o e).stay (λd v hd q=>(sb2.2 d ?_).trans q) (λ_ q=>q) λ_ _ q=>q;rintro rfl;rcases hd with rfl |hd
  ·rw[frC]at e;cases e
  ·rw[frC]at hd;cases hd
 ·rw[bh.mp hcm];exact⟨fC.2.2.2.1,fC.2.1,fC.2.2.2.2.1,fC.2.2.2.2.2⟩
noncomputable def Its (x:Str):It:=⟨λi _=>i<x.cps.size,λi H v H'=>H'=H∧ ∃c,x.cps[i]? =ae c∧v= .str ⟨#[c]⟩,λi _=>i=x.cps.size⟩
theorem zlS{P:aE}{w:aB}{K:aj}{tg:Expr}(it:Addr) (x:Str) (t:bc) (ty:String)
    (hn: ["enumerate", "zip", "dict_itemiterator", "dict_reverseitemiterator", "odict_iterator", "itertools.zip_longest", "itertools.pairwise"].contains ty=false)
    (hW:∀A':aM,A'.handled=none→d_ P w A' it [it] [it] x.cps.size (SignAt x) (λi h=>h.IsStrIter it ty x t i))
    (hself:∀(A:aM) (i:Nat) (s:ah) (Q:Value→ah→Prop) (E:Value→ah→Prop),s.heap.IsStrIter it ty x t i→Q (.ref it) s→am (ap P w) A (cX (.ref it)) Q E s) :
    Turn P w K tg (Its x) [it] it (λi h=>h.IsStrIter it ty x t i) where
  mem:=by simp
  obj:=λi h st b hb=>by
    have e:b=it:=by simpa using hb
    subst e;obtain⟨o,e,c,d⟩:=st;exact⟨o,e,λv z=>by rw[d]at z;cases z⟩
  keep:=λi h h' st k=>by
    obtain⟨o,e,r⟩:=st;exact⟨o,k it (by simp) o e,r⟩
  item:=by
    intro X hP hw hK hc i pins s σ H E I hf st hg;subst hP hw hK;obtain⟨f0,f1,f2,f3,f4,f5⟩:=hf it (by simp);refine(hW X.A (I.ok.hd hc)).item i s _ _ hg st λv h' tk hv st' kk=>?_;obtain⟨c,u,hc',rfl⟩:=hv;have I1:Inv X pins σ H { s with heap:=h',toks:=tk }:=I.turned (λb o hb e=>kk b o (by simpa using hb) e) f0 f1 f3 f4 f5;obtain⟨o,e,c',d⟩:=id st';exact⟨_,rfl,zrD (s:={ s with heap:=h',toks:=tk }) e c' d hn ⟨.str ⟨#[c]⟩,H,I1,⟨u,rfl⟩,⟨rfl,c,hc',rfl⟩,st',λb hb=>(hf b hb).1⟩⟩
  done:=by
    intro X hP hw hK hc i pins s σ H E I hf st hg;subst hP hw hK;obtain⟨f0,f1,f2,f3,f4,f5⟩:=hf it (by simp);have hi:i=x.cps.size:=hg;subst hi;exact(hW X.A (I.ok.hd hc)).done s _ _ st λh' tk kk=>⟨rfl,I.turned (λb o hb e=>kk b o (by simpa using hb) e) f0 f1 f3 f4 f5⟩
  self:=hself
def TupsOn (H H':Hp):Prop:=∀b xs,H b=ae (.tup xs)→H' b=ae (.tup xs)
theorem TupsOn.trans{H H1 H2:Hp}(a:TupsOn H H1) (b:TupsOn H1 H2):TupsOn H H2:=λc xs h=>b c xs (a c xs h)
section
variable {X:Cx}
def zAk:V→Option Int→Option Int→Hp→VK→Prop:=λx lo hi H Q=>∃z,x= .str z∧z.length≤sizeLine∧Q (.str (cL z lo hi)) H
theorem sl_str:SlR X zAk:=by
 intro pins s σ H x v vl vu lo hi sl Q I rx hs pl pu h;obtain⟨z,rfl,hz,q⟩:=h;obtain⟨t,rfl⟩:=rx;refine⟨"str",_,F.slot_str_getitem.lookup,gR _ _ _,?_⟩;obtain⟨o,ho,hc,hd⟩:=hs;have fin:∀t' k,EP X pins σ Q (.str (cL z lo hi) t') { s with toks:=k }:=λt' k=>⟨.str _,H,I.tok _,⟨t',rfl⟩,q⟩;have le:=aX (Txt.slice_le z lo hi) hz;cases pl with
 |none=>
  cases pu with
  |none=>exact gb (l:=none) (u:=none) (st:=none) ⟨o,ho,hc,hd⟩ rfl (fZ ⟨le,fin⟩)
  |int j u=>exact gb (l:=none) (u:=ae (j,u)) (st:=none) ⟨o,ho,hc,hd⟩ rfl (fZ ⟨le,fin⟩)
 |int i w=>
  cases pu with
  |none=>exact gb (l:=ae (i,w)) (u:=none) (st:=none) ⟨o,ho,hc,hd⟩ rfl (fZ ⟨le,fin⟩)
  |int j u=>exact gb (l:=ae (i,w)) (u:=ae (j,u)) (st:=none) ⟨o,ho,hc,hd⟩ rfl (fZ ⟨le,fin⟩)
noncomputable def zya (xs:List Nat) (lo hi:Option Int):List Nat:=(xs.drop (HT.sIx xs.length 0 lo)).take (HT.sIx xs.length xs.length hi - HT.sIx xs.length 0 lo)
theorem zta (lo hi:Option Int) (n:Nat):fY lo hi 1 n=sliceRange ((HT.sIx n 0 lo:Nat):Int) ((HT.sIx n n hi:Nat):Int) 1:=by
 have one:(1:Int) > 0:=by decide
 have a:∀(v:Option Int) (d:Nat),(match v with |none=>(d:Int) |some i=>(if(1:Int) > 0 then max 0 (min (if i<0 then i+(n:Int) else i) (n:Int)) else max (-1) (min (if i<0 then i+(n:Int) else i) ((n:Int) - 1))))=((HT.sIx n d v:Nat):Int):=by
  intro v d;cases v with
  |none=>rfl
  |some i=>
   simp only[HT.sIx,one,if_true];by_cases h:i<0
   ·simp only[h,if_true];omega
   ·simp only[h,if_false];omega
 have l:=a lo 0;have u:=a hi n;unfold fY;simp only[one,if_true]at l u⊢
 first
  |rw[l,u]
  | (cases lo<;>cases hi<;>simp_all)
theorem zqH (z:Str) (lo hi:Option Int):(cL z lo hi).cps.toList=zya z.cps.toList lo hi:=by
 have hn:z.length=z.cps.toList.length:=by simp [gS]
 have hp:(fY lo hi 1 z.length).filterMap (z.cps[·]?)=zya z.cps.toList lo hi:=by
  rw[zta,h_,iv,hn];rfl
 unfold cL;split
 ·rename_i h;have h1:(fY lo hi 1 z.length).length=z.length:=by simpa using h
  rw[zta,h_,aq,iD]at h1;have le1:=HT.sIx_le z.length z.length (au _) hi;unfold zya;rw[←hn];have e0:HT.sIx z.length 0 lo=0∨z.length=0:=by omega
  have hz:z.cps.toList.length=z.length:=hn.symm;rcases e0 with e0 |e0
  ·rw[e0,c6,db (by omega)]
  ·have:z.cps.toList=[]:=jR (by omega);rw[this];simp
 ·show(List.filterMap _ _).toArray.toList=_;rw[hp]
theorem zso:CallR X (.builtin "isinstance") (λxs H Q=>∃x t c b,xs=[x, .ty c]∧TyOf X.K H x t∧eM X.K t (.type c)=ae b∧Q (.bl b) H):=by
 intro pins s σ H xs us Q I r h;obtain⟨x,t,c,b,rfl,ty,e,q⟩:=h;obtain⟨u,v,rfl,rx,ry⟩:=zvy r;cases(show v=gU c from ry);exact zps I rx ty e λtk=>⟨.bl b,H,I.tok _,rfl,q⟩
end
section
variable {X:Cx}
theorem zeH (l:Addr) (items:Array Value) (n:Nat) (b:Addr) (items2:Array Value) (n2:Nat) (dd:Option Addr) (sl:Array (Option Value)) (hs0:¬(!items.isEmpty&&dN (items.size+items2.size))=true) (hs1:items.size≤sizeLine) (hs2:items.size+items2.size≤sizeLine+1) :
  Meets (bV.«list.extend» ⟨[.ref l, .ref b],[]⟩) (λ_ R s=>s.heap.get? l=ae { cls:= .type "list",dict:=none,data:= .seq items n,slots:= #[] }∧s.heap.get? b=ae { cls:= .type "tuple",dict:=dd,data:= .seq items2 n2,slots:=sl }∧R (.ok (.ret ci)) { s with heap:=s.heap.update l (gI λx=>x++items2),toks:=s.toks }):=
 .of_wp λprog w A R s h=>by
  obtain⟨hp,g,d,tk,os⟩:=s;obtain⟨hl,hb,h⟩:=h;have f1:=AutoSeq1.idx_int;have f2:=AutoSeq1.sub_tuple_tuple;have f3:=AutoSeq1.sub_list_list;have f4:=AutoSeq1.sub_tuple_list;have f5:=AutoSeq1.sub_list_tuple;have hz':(items++items2).size≤sizeLine+1:=by rw[Array.size_append];exact hs2
  wp_walk using(wpAny_updateSeq hl rfl (hz:=hs1) (_hz':=hz')),iL hl,iL hb;exact⟨_,rfl,h⟩
def zmV (K:aj):V→List V→Hp→VK→Prop:=λx vs H Q=>∃l b xs zs,x= .ref l∧vs=[.ref b]∧H l=ae (.lst xs)∧SqT K H b zs∧xs.length+zs.length≤sizeLine∧Q .non (upd H l (.lst (xs++zs)))
theorem znY:MtM X "list.extend" (zmV X.K):=by
 intro pins s σ H x vs v us Q I rx rv h;obtain⟨l,b,xs,zs,rfl,rfl,hH,hB,hz,q⟩:=h;cases rx;obtain⟨u,rfl,ru⟩:=rv.one;cases ru;obtain⟨z,its,n,r,hl,e⟩:=I.lstM hH;obtain⟨its2,r2,ht,hz2⟩:=I.tuple hB;obtain⟨⟨cls,dd,data,sl⟩,e2,hc,n2,hd⟩:=ht;simp only at hc hd;subst hc hd;have hl2:=r2.length;have hsz:its.toArray.size+its2.toArray.size≤sizeLine:=by rw[aQ,aQ];omega
 have hlong:¬(!its.toArray.isEmpty&&dN (its.toArray.size+its2.toArray.size))=true:=by
  rw[zix hsz,fJ];exact cU
 refine eB kx ⟨_,e,rfl⟩ iI (iY _ _)
  (zeH l its.toArray n b its2.toArray n2 dd sl hlong (by rw[aQ];omega) (by omega)) ⟨e,e2,?_⟩
 refine⟨.non,_,I.lset (its':=its++its2) hH e (by simp) (r.append r2) ?_,rfl,q⟩;rw[aS];omega
def zxq (K:aj):V→List V→Hp→VK→Prop:=λx vs H Q=>∃(z:Str) (b:Addr) (ys:List Str),x= .str z∧vs=[.ref b]∧SqL K H b (ys.map V.str)∧(ys.map (·.length)).sum+ys.length*z.length≤16777216∧Q (.str (cS z ys)) H
theorem ztT{ys:List Str}:∀{us:List Value},Vals (ys.map V.str) us→StrsAre us ys:=by
 induction ys with
 |nil=>
  intro us r;cases r;exact .nil
 |cons y ys ih=>
  intro us r;cases r with
  |cons a b=>
   obtain⟨t,rfl⟩:=a;exact .cons y t (ih b)
theorem zva:MtM X "str.join" (zxq X.K):=by
 intro pins s σ H x vs v us Q I rx rv h;obtain⟨z,b,ys,rfl,rfl,hB,hz,q⟩:=h;obtain⟨t,rfl⟩:=rx;obtain⟨u,rfl,ru⟩:=rv.one;cases ru;obtain⟨its,r,pl,_⟩:=I.list hB;refine join_list pl.isList (by simpa using ztT r) hz λt' k=>⟨.str (cS z ys),H,I.tok _,⟨t',?_⟩,q⟩;show fh (bV.Str.glued z ys) t'=_;rw[StrLaws.glued_eq_join]
end
inductive W where
  |non |bl (b:Bool) |int (i:Int) |str (x:Str) |tup (ws:List W) |ref (a:Addr) |scr (ns:List Int)
inductive Ob where
  |lst (ws:List W)
  |dct (kvs:List (List Int×W))
  |dk (kvs:List (Key×W))
  |ins (C:Addr) (fs:List (Str×W))
abbrev Sto:=Addr→Option Ob
noncomputable def put (S:Sto) (a:Addr) (o:Ob):Sto:=λb=>if b=a then ae o else S b
def FzL (K:aj) (H:Hp) (a:Addr) (xs:List V):Prop:=
 (∃o,H a=ae (.frz o (.lst xs)))∨
  ∃(o:Obj) (its:Array Value) (n:Nat),K.lookup a=ae o∧o.cls= .type "list" ∧o.dict=none∧o.data= .seq its n∧its.size≤sizeLine∧Vals xs its.toList
mutual
inductive Rep (K:aj) (H:Hp):W→V→Prop
 |non:Rep K H .non .non
 |bl (b:Bool):Rep K H (.bl b) (.bl b)
 |int (i:Int):Rep K H (.int i) (.int i)
 |str (x:Str):Rep K H (.str x) (.str x)
 |ref (a:Addr):Rep K H (.ref a) (.ref a)
 |scr {a:Addr}{ns:List Int}:FzL K H a (ns.map V.int)→Rep K H (.scr ns) (.ref a)
 |tup {a:Addr}{vs:List V}{ws:List W}:H a=ae (.tup vs)→Reps K H ws vs→Rep K H (.tup ws) (.ref a)
inductive Reps (K:aj) (H:Hp):List W→List V→Prop
 |nil:Reps K H [] []
 |cons {w:W}{v:V}{ws:List W}{vs:List V}:Rep K H w v→Reps K H ws vs→Reps K H (w::ws) (v::vs)
end
structure Ext (H:Hp) (S:Sto) (H':Hp) (S':Sto):Prop where
  tup:∀b xs,H b=ae (.tup xs)→H' b=ae (.tup xs)
  frz:∀b o u,H b=ae (.frz o u)→H' b=ae (.frz o u)
  fr:∀b xs,H b=ae (.lst xs)→S b=none→H' b=ae (.lst xs)∧S' b=none
  all:∀b o,H b=ae o→ ∃o',H' b=ae o'
def Sub (S S':Sto):Prop:=∀a o,S a=ae o→S' a=ae o
section
variable {K:aj}{H H' H1 H2:Hp}{S S' S1 S2:Sto}
theorem zag{a:Addr}{o:Ob}:put S a o a=ae o:=by unfold put;rw[if_pos rfl]
theorem zaA{a b:Addr}{o:Ob}(h:b≠a):put S a o b=S b:=by unfold put;rw[if_neg h]
theorem zbc{a:Addr}{o o':Ob}:put (put S a o) a o'=put S a o':=by funext b;unfold put;split<;>rfl
theorem Ext.refl:Ext H S H S:=⟨λ_ _ h=>h,λ_ _ _ h=>h,λ_ _ h g=>⟨h,g⟩,λ_ o h=>⟨o,h⟩⟩
theorem Ext.trans (a:Ext H S H1 S1) (b:Ext H1 S1 H2 S2):Ext H S H2 S2:=⟨λc xs h=>b.tup c xs (a.tup c xs h),λc o u h=>b.frz c o u (a.frz c o u h),
 λc o h g=>by
  obtain⟨h1,g1⟩:=a.fr c o h g;exact b.fr c o h1 g1,λc o h=>by
  obtain⟨o1,h1⟩:=a.all c o h;exact b.all c o1 h1⟩
theorem Ext.new{p:Addr}{o:HO}(h:H p=none):Ext H S (upd H p o) S:=
  ⟨λb xs e=>by rw[zaz (zau e h)];exact e,λb ob u e=>by rw[zaz (zau e h)];exact e,
   λb ob e g=>⟨by rw[zaz (zau e h)];exact e,g⟩,λb ob e=>⟨ob,by rw[zaz (zau e h)];exact e⟩⟩
theorem Ext.newS{p:Addr}{o:HO}{ob:Ob}(h:H p=none):Ext H S (upd H p o) (put S p ob):=
  ⟨λb xs e=>by rw[zaz (zau e h)];exact e,λb ob u e=>by rw[zaz (zau e h)];exact e,
   λb ob e g=>⟨by rw[zaz (zau e h)];exact e,by rw[zaA (zau e h)];exact g⟩,λb ob e=>⟨ob,by rw[zaz (zau e h)];exact e⟩⟩
theorem Ext.mut{p:Addr}{o u:HO}{ob ob0:Ob}(h:H p=ae u) (hs:S p=ae ob0) (ht:∀xs,u≠ .tup xs) (hf:∀ob q,u≠ .frz ob q):Ext H S (upd H p o) (put S p ob):=
  ⟨λb xs e=>by rw[zaz (zov e h λz=>ht xs z.symm)];exact e,λb ob q e=>by rw[zaz (zov e h λz=>hf ob q z.symm)];exact e,
   λb ob e g=>by
     have hb:b≠p:=by rintro rfl;rw[hs]at g;cases g
     exact⟨by rw[zaz hb];exact e,by rw[zaA hb];exact g⟩,λb ob e=>by
     by_cases hb:b=p
     · subst hb;exact⟨o,zay⟩
     · exact⟨ob,by rw[zaz hb];exact e⟩⟩
theorem Ext.lst{p:Addr}{o:HO}{ob ob0:Ob}{xs:List V}(h:H p=ae (.lst xs)) (hs:S p=ae ob0):Ext H S (upd H p o) (put S p ob):= .mut h hs (λ_ z=>nomatch z) λ_ _ z=>nomatch z
theorem Ext.drop (h:Sub S' S):Ext H S H S':=⟨λ_ _ h=>h,λ_ _ _ h=>h,λb o e g=>⟨e,by
 cases q:S' b with
 |none=>rfl
 |some z=>rw[h b z q]at g;cases g⟩,λ_ o h=>⟨o,h⟩⟩
theorem Ext.free (e:Ext H S H' S') {p:Addr}(h:H' p=none):H p=none:=by
 cases q:H p with
 |none=>rfl
 |some o=>obtain⟨o',z⟩:=e.all p o q;rw[h]at z;cases z
theorem Ext.fz{a:Addr}{xs:List V}(e:Ext H S H' S') (h:FzL K H a xs):FzL K H' a xs:=by
 rcases h with⟨o,h⟩ |h
 ·exact .inl ⟨o,e.frz _ _ _ h⟩
 ·exact .inr h
theorem FzL.sq{a:Addr}{xs:List V}(h:FzL K H a xs):SqL K H a xs:=by
 rcases h with⟨o,h⟩ |h
 ·exact .inl (.inr ⟨o,h⟩)
 ·exact .inr h
mutual
theorem Rep.ext (e:Ext H S H' S') {w:W}{v:V}:Rep K H w v→Rep K H' w v
 | .non=> .non
 | .bl b=> .bl b
 | .int i=> .int i
 | .str x=> .str x
 | .ref a=> .ref a
 | .scr h=> .scr (e.fz h)
 | .tup h hs=> .tup (e.tup _ _ h) (Reps.ext e hs)
theorem Reps.ext (e:Ext H S H' S') {ws:List W}{vs:List V}:Reps K H ws vs→Reps K H' ws vs
 | .nil=> .nil
 | .cons h hs=> .cons (Rep.ext e h) (Reps.ext e hs)
end
theorem Reps.length:∀{ws:List W}{vs:List V},Reps K H ws vs→ws.length=vs.length
 |_,_, .nil=>rfl
 |_,_, .cons _ hs=>congrArg (· +1) (Reps.length hs)
theorem Reps.get:∀{ws:List W}{vs:List V}{i:Nat}{w:W},Reps K H ws vs→ws[i]? =ae w→ ∃v,vs[i]? =ae v∧Rep K H w v
 |_,_,_,_, .nil,e=>by simp at e
 |_,_,0,_, .cons h _,e=>by simp at e;subst e;exact⟨_,rfl,h⟩
 |_,_,i+1,w, .cons _ hs,e=>by
  obtain⟨v,h1,h2⟩:=Reps.get (i:=i) (w:=w) hs (by simpa using e);exact⟨v,by simpa using h1,h2⟩
theorem Reps.append:∀{ws us:List W}{vs xs:List V},Reps K H ws vs→Reps K H us xs→Reps K H (ws++us) (vs++xs)
 |_,_,_,_, .nil,h=>h
 |_,_,_,_, .cons r t,h=> .cons r (Reps.append t h)
theorem Reps.take:∀{ws:List W}{vs:List V}(n:Nat),Reps K H ws vs→Reps K H (ws.take n) (vs.take n)
 |_,_,0,_=> .nil
 |_,_,_+1, .nil=> .nil
 |_,_,n+1, .cons r t=> .cons r (Reps.take n t)
theorem Reps.drop:∀{ws:List W}{vs:List V}(n:Nat),Reps K H ws vs→Reps K H (ws.drop n) (vs.drop n)
 |_,_,0,r=>r
 |_,_,_+1, .nil=> .nil
 |_,_,n+1, .cons _ t=>Reps.drop n t
theorem Reps.one{w:W}{v:V}(h:Rep K H w v):Reps K H [w] [v]:= .cons h .nil
theorem Reps.ofInts:∀(ns:List Int),Reps K H (ns.map W.int) (ns.map V.int)
 | []=> .nil
 |n::ns=> .cons (.int n) (Reps.ofInts ns)
end
noncomputable def RepO (K:aj) (H:Hp) (a:Addr):Ob→Prop
 | .lst ws=>∃vs,H a=ae (.lst vs)∧Reps K H ws vs
 | .dct kvs=>∃ps:List (List Key×V),H a=ae (.dT ps)∧aN (λq p=>p.1=q.1.map Sum.inl∧Rep K H q.2 p.2) kvs ps
 | .dk kvs=>∃ps:List (Key×V),H a=ae (.dK ps)∧aN (λq p=>p.1=q.1∧Rep K H q.2 p.2) kvs ps
 | .ins C fs=>∃(dx:Addr) (ps:List (Str×V)),H a=ae (.ins C dx ps)∧aN (λq p=>p.1=q.1∧Rep K H q.2 p.2) fs ps
def RepS (K:aj) (H:Hp) (S:Sto):Prop:=∀a o,S a=ae o→RepO K H a o
section
variable {K:aj}{H H':Hp}{S S' S0 S0':Sto}{a b p:Addr}{o:Ob}
theorem Sub.refl:Sub S S:=λ_ _ h=>h
theorem Sub.trans{S1 S2 S3:Sto}(h:Sub S1 S2) (g:Sub S2 S3):Sub S1 S3:=λa o e=>g a o (h a o e)
theorem Sub.new (h:S a=none):Sub S (put S a o):=λb u e=>by rw[zaA (by rintro rfl;rw[h]at e;cases e)];exact e
theorem RepS.sub (h:RepS K H S') (q:Sub S S'):RepS K H S:=λa o e=>h a o (q a o e)
theorem RepO.some (h:RepO K H a o):∃u,H a=ae u:=by
 cases o with
 |lst ws=>obtain⟨vs,e,_⟩:=h;exact⟨_,e⟩
 |dct kvs=>obtain⟨vs,e,_⟩:=h;exact⟨_,e⟩
 |dk kvs=>obtain⟨vs,e,_⟩:=h;exact⟨_,e⟩
 |ins C fs=>obtain⟨_,vs,e,_⟩:=h;exact⟨_,e⟩
theorem RepS.free (h:RepS K H S) (e:H p=none):S p=none:=by
 cases q:S p with
 |none=>rfl
 |some o=>obtain⟨u,z⟩:=(h p o q).some;rw[e]at z;cases z
theorem RepO.keep (e:Ext H S0 H' S0') (k:∀u,H a=iE u→H' a=iE u) (h:RepO K H a o):RepO K H' a o:=by
 cases o with
 |lst ws=>obtain⟨vs,e1,r⟩:=h;exact⟨vs,k _ e1,r.ext e⟩
 |dct kvs=>obtain⟨vs,e1,r⟩:=h;exact⟨vs,k _ e1,Paired.mapP r λ_ _ z=>⟨z.1,z.2.ext e⟩⟩
 |dk kvs=>obtain⟨vs,e1,r⟩:=h;exact⟨vs,k _ e1,Paired.mapP r λ_ _ z=>⟨z.1,z.2.ext e⟩⟩
 |ins C fs=>obtain⟨dx,vs,e1,r⟩:=h;exact⟨dx,vs,k _ e1,Paired.mapP r λ_ _ z=>⟨z.1,z.2.ext e⟩⟩
theorem RepS.new{u:HO}(h:RepS K H S) (e:H p=none):RepS K (upd H p u) S:=λa o q=>
 (h a o q).keep (.new (S:=S) e) λv z=>by rw[zaz (zau z e)];exact z
theorem RepS.put_lst{ws:List W}{vs:List V}(h:RepS K H S) (e:H p=none) (r:Reps K (upd H p (.lst vs)) ws vs):RepS K (upd H p (.lst vs)) (put S p (.lst ws)):=λa o q=>by
 by_cases ha:a=p
 ·subst ha;rw[zag]at q;cases q;exact⟨vs,zay,r⟩
 ·rw[zaA ha]at q;exact h.new e a o q
theorem RepS.set_lst{ws0 ws:List W}{vs:List V}(h:RepS K H S) (e:S a=ae (.lst ws0)) (r:Reps K H ws vs):Ext H S (upd H a (.lst vs)) (put S a (.lst ws))∧RepS K (upd H a (.lst vs)) (put S a (.lst ws)):=by
 obtain⟨vs0,e0,_⟩:=h a _ e;have x:Ext H S (upd H a (.lst vs)) (put S a (.lst ws)):= .lst e0 e;refine⟨x,λb o q=>?_⟩;by_cases hb:b=a
 ·subst hb;rw[zag]at q;cases q;exact⟨vs,zay,r.ext x⟩
 ·rw[zaA hb]at q;exact(h b o q).keep x λu z=>by rw[zaz hb];exact z
end
abbrev WSt:=List (Option W)
abbrev WK:=W→Sto→Prop
abbrev WX:=Str→WSt→Sto→Prop
abbrev WE:=WX→WSt→Sto→WK→Prop
abbrev WT:=WX→WSt→Sto→(Bool→Sto→Prop)→Prop
abbrev WA:=WX→WSt→Sto→(List W→Sto→Prop)→Prop
structure WEnds where
  nx:WSt→Sto→Prop
  rt:WK
  bk:WSt→Sto→Prop:=λ_ _=>False
  ct:WSt→Sto→Prop:=λ_ _=>False
abbrev WS:=WX→WEnds→WSt→Sto→Prop
abbrev WG:=W→WSt→Sto→(WSt→Sto→Prop)→Prop
abbrev WSp:=List W→Sto→WK→(Str→Sto→Prop)→Prop
abbrev WI:=WX→WSt→Sto→(List W→(Sto→Prop)→Sto→Prop)→Prop
abbrev WL:=WX→WSt→Sto→(List W→Sto→Prop)→Prop
noncomputable def RpO (K:aj) (H:Hp):Option W→Option V→Prop
 |none,_=>True
 |some w,ae v=>Rep K H w v
 |some _,none=>False
def RpSt (K:aj) (H:Hp) (σW:WSt) (σ:St):Prop:=aN (RpO K H) σW σ
section
variable {K:aj}{H H':Hp}{S S':Sto}
theorem RpO.ext (e:Ext H S H' S'):∀{w:Option W}{v:Option V},RpO K H w v→RpO K H' w v
 |none,_,_=>trivial
 |some _,ae _,h=>Rep.ext e h
 |some _,none,h=>h.elim
theorem RpSt.ext (e:Ext H S H' S') {σW:WSt}{σ:St}(h:RpSt K H σW σ):RpSt K H' σW σ:=Paired.mapP h λ_ _ r=>RpO.ext e r
theorem RpSt.get:∀{σW:WSt}{σ:St}{i:Nat}{w:W},RpSt K H σW σ→σW[i]? =ae (ae w)→ ∃v,σ[i]? =ae (ae v)∧Rep K H w v
 |_,_,_,_, .nil,e=>by simp at e
 |_,_,0,_, .cons (b:=b) h _,e=>by
  simp at e;subst e;cases b with
  |none=>exact(show False from h).elim
  |some v=>exact⟨v,rfl,h⟩
 |_,_,i+1,w, .cons _ hs,e=>by
  obtain⟨v,h1,h2⟩:=RpSt.get (i:=i) (w:=w) hs (by simpa using e);exact⟨v,by simpa using h1,h2⟩
theorem RpSt.set{w:W}{v:V}(h:Rep K H w v):∀{σW:WSt}{σ:St}(i:Nat),RpSt K H σW σ→RpSt K H (σW.set i (ae w)) (σ.set i (ae v))
 |_,_,_, .nil=> .nil
 |_,_,0, .cons _ t=> .cons h t
 |_,_,i+1, .cons q t=> .cons q (RpSt.set h i t)
end
def Wish (K:aj) (H:Hp) (S:Sto) (QW:WK) (Q:VK):Prop:=∀w S' v H',Ext H S H' S'→Rep K H' w v→RepS K H' S'→QW w S'→Q v H'
noncomputable def zyd (K:aj) (t:WSt→Sto→WK→Prop):TE:=λσ H Q=>∃σW S QW,RpSt K H σW σ∧RepS K H S∧t σW S QW∧Wish K H S QW Q
noncomputable def zuT (K:aj) (t:WSt→Sto→(Bool→Sto→Prop)→Prop):TT:=λσ H Q=>∃σW S QW,RpSt K H σW σ∧RepS K H S∧t σW S QW∧ ∀b S' H',Ext H S H' S'→RepS K H' S'→QW b S'→Q b H'
noncomputable def zyw (K:aj) (t:WSt→Sto→(List W→Sto→Prop)→Prop):TA:=λσ H Q=>∃σW S QW,RpSt K H σW σ∧RepS K H S∧t σW S QW∧ ∀ws S' vs H',Ext H S H' S'→Reps K H' ws vs→RepS K H' S'→QW ws S'→Q vs H'
def Goes (K:aj) (H:Hp) (S:Sto) (P:WSt→Sto→Prop) (Q:St→Hp→Prop):Prop:=∀σW S' σ H',Ext H S H' S'→RpSt K H' σW σ→RepS K H' S'→P σW S'→Q σ H'
structure Meets (K:aj) (H:Hp) (S:Sto) (DW:WEnds) (D:Ends):Prop where
  nx:Goes K H S DW.nx D.nx
  rt:Wish K H S DW.rt D.rt
  bk:Goes K H S DW.bk D.bk
  ct:Goes K H S DW.ct D.ct
noncomputable def zvX (K:aj) (t:WEnds→WSt→Sto→Prop):TS:=λD σ H=>∃σW S DW,RpSt K H σW σ∧RepS K H S∧t DW σW S∧Meets K H S DW D
noncomputable def zyE (K:aj) (t:WG):TG:=λv σ H Q=>∃w σW S P,Rep K H w v∧RpSt K H σW σ∧RepS K H S∧t w σW S P∧Goes K H S P Q
def ItW (K:aj) (J:It) (ws:List W) (G:Sto→Prop) (H0:Hp) (S0:Sto):Prop:=∀i S H,Ext H0 S0 H S→RepS K H S→G S→
 (∀w,ws[i]? =ae w→J.go i H∧ ∀x H',J.yld i H x H'→Ext H S H' S∧RepS K H' S∧Rep K H' w x)∧(i=ws.length→J.stop i H)
noncomputable def zwS (K:aj) (t:WSt→Sto→(List W→(Sto→Prop)→Sto→Prop)→Prop):TI:=λσ H R=>∃σW S QW,RpSt K H σW σ∧RepS K H S∧t σW S QW∧
 ∀ws G S' J H',Ext H S H' S'→RepS K H' S'→G S'→ItW K J ws G H' S'→QW ws G S'→R J H'
noncomputable def zwd (K:aj) (t:WSt→Sto→(List W→Sto→Prop)→Prop):TE:=λσ H Q=>∃σW S QW,RpSt K H σW σ∧RepS K H S∧t σW S QW∧
 ∀ws S' vs a H',Ext H S H' S'→H a=none→H' a=ae (.lst vs)→S' a=none→Reps K H' ws vs→RepS K H' S'→QW ws S'→Q (.ref a) H'
noncomputable def zda (K:aj) (sp:WSp):Sp:=λvs H Q E=>∃ws S QW EW,Reps K H ws vs∧RepS K H S∧sp ws S QW EW∧Wish K H S QW Q∧
 ∀cl C S' H',aZ K aL cl=ae (ae (.ref C))→RepS K H' S'→EW cl S'→E (.ref C) none H'
def Fly (g h:Heap) (H:Hp) (a C:Addr):Prop:=g.get? a=none∧H a=none∧ ∃oe vs T oT ts,h.get? a=ae oe∧oe.cls= .ref C∧oe.data= .fields vs∧vs[1]? =ae (.ref T)∧
 g.get? T=none∧H T=none∧T≠a∧h.get? T=ae oT∧oT.data= .fields ts∧ts[3]? =ae .none
noncomputable def CX1 (P:aE) (w:aB):CXT:=λouter H s E e s'=>∃a C H',e= .ref a∧s'.os=s.os∧b5 s'.gens∧Un (frs outer) [] H H' s.heap s'.heap∧HOk P w H' s'.heap∧Fly s.heap s'.heap H' a C∧E (.ref C) none H'
structure Hook (X:Cx) (E:WX):Prop where
  own:fe (ap X.prog X.w) X.A X.env X.xe
  far:∀(pins:List (Addr×Obj)) (σ:St) (H:Hp) (s:ah) (σW:WSt) (cl:Str) (C a:Addr) (H':Hp) (S':Sto) (s':ah),Inv X pins σ H s→RpSt X.K H σW σ→aZ X.K aL cl=ae (ae (.ref C))→
    s'.os=s.os→b5 s'.gens→Un (frs X.stack) [] H H' s.heap s'.heap→HOk X.prog X.w H' s'.heap→Fly s.heap s'.heap H' a C→RepS X.K H' S'→E cl σW S'→X.xe (.ref a) s'
  near:∀(pins:List (Addr×Obj)) (σ:St) (H:Hp) (s:ah) (σW:WSt) (cl:Str) (C a:Addr) (S:Sto) (h':Heap) (args:List Value),Inv X pins σ H s→RpSt X.K H σW σ→aZ X.K aL cl=ae (ae (.ref C))→
    Heap.MadeExcOf s.heap h' a (.ref C) args→RepS X.K H S→E cl σW S→X.xe (.ref a) { s with heap:=h' }
def JE (X:Cx) (e:Expr) (t:WE):Prop:=∀E,Hook X E→PE X e (zyd X.K (t E))
def JT (X:Cx) (e:Expr) (t:WT):Prop:=∀E,Hook X E→PT X e (zuT X.K (t E))
def JW (X:Cx) (e:Expr) (t:WT):Prop:=∀E,Hook X E→PW X e (zuT X.K (t E))
def JA (X:Cx) (es:List Expr) (t:WA):Prop:=∀E,Hook X E→PA X es (zyw X.K (t E))
def JS (X:Cx) (st:Stmt) (t:WS):Prop:=∀E,Hook X E→PS X st (zvX X.K (t E))
def JSs (X:Cx) (st:List Stmt) (t:WS):Prop:=∀E,Hook X E→PSs X st (zvX X.K (t E))
def JG (X:Cx) (tg:Expr) (t:WG):Prop:=∀E,Hook X E→PG X tg (zyE X.K t)
def JI (X:Cx) (tg iter:Expr) (t:WI):Prop:=∀E,Hook X E→PI X tg iter (zwS X.K (t E))
def JL (X:Cx) (e:Expr) (t:WL):Prop:=∀E,Hook X E→PE X e (zwd X.K (t E))
theorem PE.mono{X:Cx}{e:Expr}{t t':TE}(h:PE X e t) (q:∀σ H Q,t' σ H Q→t σ H Q):PE X e t':=λpins s σ H Q I z=>h pins s σ H Q I (q σ H Q z)
theorem PT.mono{X:Cx}{e:Expr}{t t':TT}(h:PT X e t) (q:∀σ H Q,t' σ H Q→t σ H Q):PT X e t':=λpins s σ H Q I z=>h pins s σ H Q I (q σ H Q z)
theorem PW.mono{X:Cx}{e:Expr}{t t':TT}(h:PW X e t) (q:∀σ H Q,t' σ H Q→t σ H Q):PW X e t':=λwh pins s σ H Q I z=>h wh pins s σ H Q I (q σ H Q z)
theorem PA.mono{X:Cx}{e:List Expr}{t t':TA}(h:PA X e t) (q:∀σ H Q,t' σ H Q→t σ H Q):PA X e t':=λpos pins s σ H Q I z=>h pos pins s σ H Q I (q σ H Q z)
theorem PS.mono{X:Cx}{e:Stmt}{t t':TS}(h:PS X e t) (q:∀D σ H,t' D σ H→t D σ H):PS X e t':=λpins s σ H D I z=>h pins s σ H D I (q D σ H z)
theorem PSs.mono{X:Cx}{e:List Stmt}{t t':TS}(h:PSs X e t) (q:∀D σ H,t' D σ H→t D σ H):PSs X e t':=λpins s σ H D I z=>h pins s σ H D I (q D σ H z)
theorem PG.mono{X:Cx}{e:Expr}{t t':TG}(h:PG X e t) (q:∀v σ H Q,t' v σ H Q→t v σ H Q):PG X e t':=λpins s σ H v u Q I r z=>h pins s σ H v u Q I r (q v σ H Q z)
theorem PI.mono{X:Cx}{tg e:Expr}{t t':TI}(h:PI X tg e t) (q:∀σ H R,t' σ H R→t σ H R):PI X tg e t':=λpins s σ H R I z=>h pins s σ H R I (q σ H R z)
noncomputable def zaf (i:Nat):WE:=λ_ σ S Q=>match σ[i]? with
 |some (ae w)=>Q w S
 |_=>False
noncomputable def wC (w:W):WE:=λ_ _ S Q=>Q w S
section
variable {X:Cx}
theorem jv (i:Nat) {x:Str}{pos:aC}(hN:X.N[i]? =ae x:=by rfl) (hv:Vis X.env.scope x:=by first |exact ai rfl |exact cu (ai rfl) |exact cu (cu rfl)) (hd:(x == ("__debug__" :Str))=false:=by decide)
  (hcd:(x == ("__classdict__" :Str))=false:=by decide):JE X (.Name x pos) (zaf i):=λE hE=>(zxb hN hv hd hcd).mono λσ H Q ⟨σW,S,QW,hσ,hS,ht,hQ⟩=>by
 unfold zaf at ht;split at ht
 ·rename_i w e;obtain⟨v,e',r⟩:=hσ.get e;exact⟨v,e',hQ w S v H .refl r hS ht⟩
 ·exact ht.elim
theorem zoE{e:Expr}{v:V}{w:W}(h:PE X e (tC v)) (r:∀K H,Rep K H w v):JE X e (wC w):=λE hE=>h.mono λσ H Q ⟨σW,S,QW,hσ,hS,ht,hQ⟩=>hQ w S v H .refl (r _ _) hS ht
theorem zae{i j pos}:JE X (.Constant (.int i) j pos) (wC (.int i)):=zoE zwl λ_ _=> .int i
theorem zfr{b j pos}:JE X (.Constant (.bool b) j pos) (wC (.bl b)):=zoE zyV λ_ _=> .bl b
theorem zca{j pos}:JE X (.Constant .none j pos) (wC .non):=zoE zxJ λ_ _=> .non
theorem zgi{x j pos}:JE X (.Constant (.str x) j pos) (wC (.str x)):=zoE zxB λ_ _=> .str x
theorem zdx{x:Str}{i:Int}{u:bc}{pos:aC}(hg:Gl X x) (hm:X.mg x=ae (.int i u)) (hd:(x == ("__debug__" :Str))=false:=by decide):JE X (.Name x pos) (wC (.int i)):=zoE (v:= .int i) (zvd hg hm ⟨u,rfl⟩ hd) λ_ _=> .int i
end
abbrev W2:=W→W→Sto→WK→Prop
noncomputable def wOp (r:W2) (a b:WE):WE:=λE σ S Q=>a E σ S λx S1=>b E σ S1 λy S2=>r x y S2 Q
def OpW (K:aj) (r:R2) (wr:W2):Prop:=∀H x y wx wy S (Q:VK) (QW:WK),Rep K H wx x→Rep K H wy y→RepS K H S→wr wx wy S QW→Wish K H S QW Q→r x y H Q
theorem Wish.from{K:aj}{H H':Hp}{S S':Sto}{QW:WK}{Q:VK}(h:Wish K H S QW Q) (e:Ext H S H' S'):Wish K H' S' QW Q:=λw S v H'' e' r hS q=>h w S v H'' (e.trans e') r hS q
theorem Goes.from{K:aj}{H H':Hp}{S S':Sto}{P:WSt→Sto→Prop}{Q:St→Hp→Prop}(h:Goes K H S P Q) (e:Ext H S H' S'):Goes K H' S' P Q:=λσW S σ H'' e' r hS q=>h σW S σ H'' (e.trans e') r hS q
theorem Meets.from{K:aj}{H H':Hp}{S S':Sto}{DW:WEnds}{D:Ends}(h:Meets K H S DW D) (e:Ext H S H' S'):Meets K H' S' DW D:=⟨h.nx.from e,h.rt.from e,h.bk.from e,h.ct.from e⟩
section
variable {X:Cx}{a b:Expr}{pos:aC}
theorem zgx{K:aj}{ta tb:WSt→Sto→WK→Prop}{wr:W→W→Sto→WK→Prop}{σ:St}{H:Hp}{Q:VK}{R:V→V→Hp→Prop}
  (h:zyd K (λσ S Q=>ta σ S λx S1=>tb σ S1 λy S2=>wr x y S2 Q) σ H Q)
  (hR:∀H2 x y wx wy S (QW:WK),Rep K H2 wx x→Rep K H2 wy y→RepS K H2 S→wr wx wy S QW→Wish K H2 S QW Q→R x y H2) :
  zyd K ta σ H λx H1=>zyd K tb σ H1 λy H2=>R x y H2:=by
 obtain⟨σW,S,QW,hσ,hS,ht,hQ⟩:=h;refine⟨σW,S,_,hσ,hS,ht,λw1 S1 v1 H1 e1 r1 hS1 h1=>?_⟩;refine⟨σW,S1,_,hσ.ext e1,hS1,h1,λw2 S2 v2 H2 e2 r2 hS2 h2=>?_⟩;exact hR H2 v1 v2 w1 w2 S2 QW (r1.ext e2) r2 hS2 h2 (hQ.from (e1.trans e2))
theorem znO{op:fu}{r:R2}{wr:W2}{ta tb:WE}(ho:OpR X (bM op) r) (hw:OpW X.K r wr) (ha:JE X a ta) (hb:JE X b tb):JE X (.BinOp a op b pos) (wOp wr ta tb):=λE hE=>
 (zoG ho (ha E hE) (hb E hE)).mono λσ H Q h=>zgx h λH2 x y wx wy S QW rx ry hS q hQ=>hw H2 x y wx wy S Q QW rx ry hS q hQ
theorem zwf{op:dF}{r:R2}{wr:W2}{ta tb:WE}(ho:OpR X (bG op) r) (hw:OpW X.K r wr) (ha:JE X a ta) (hb:JE X b tb) (hm:c8 op b=false):JE X (.Compare a [op] [b] pos) (wOp wr ta tb):=λE hE=>
 (zuY ho (ha E hE) (hb E hE) hm).mono λσ H Q h=>zgx h λH2 x y wx wy S QW rx ry hS q hQ=>hw H2 x y wx wy S Q QW rx ry hS q hQ
end
theorem ObjOk.ex{P:aE}{w:aB}{H:Hp}{h:Heap}{a:Addr}{o:HO}(x:ObjOk P w H h a o):∃u,h.get? a=ae u:=by
 cases o with
 |lst xs=>obtain⟨_,_,_,_,e⟩:=x;exact⟨_,e⟩
 |tup xs=>obtain⟨_,_,_,o,e,_⟩:=x;exact⟨_,e⟩
 |dK kvs=>obtain⟨_,_,_,_,o,_,_,e,_⟩:=x;exact⟨_,e⟩
 |dT kvs=>obtain⟨_,_,_,_,o,_,_,e,_⟩:=x;exact⟨_,e⟩
 |set S n=>obtain⟨o,_,_,_,e,_⟩:=x;exact⟨_,e⟩
 |ins C dx fs=>obtain⟨_,_,_,e,_⟩:=x;exact⟨_,e⟩
 |own y=>exact x
 |xd fs=>obtain⟨_,⟨_,_,_,e,_⟩,_⟩:=x;exact⟨_,e⟩
 |rng lo hi=>obtain⟨_,_,_,e⟩:=x;exact⟨_,e⟩
 |frz ob u=>obtain⟨e,_⟩:=x;exact⟨_,e⟩
 |tbl ps=>exact⟨_,show h.get? a=ae _ from x⟩
 |met f y=>exact⟨_,show h.get? a=ae _ from x⟩
 |ext φ=>exact x.2.1
noncomputable def unt (H:Hp) (S:Sto):Hp:=λb=>match H b with
 |some (.lst xs)=>match S b with
  |none=>none
  |some _=>ae (.lst xs)
 |o=>o
noncomputable def rtk (H:Hp) (S:Sto) (H':Hp):Hp:=λb=>match unt H S b with
 |none=>match H b with
  |some o=>ae o
  |none=>H' b
 |some _=>match H' b with
  |some o=>ae o
  |none=>ae (.ext λh=>∃o,h.get? b=ae o)
section
variable {w:aB}{K:aj}{H:Hp}{S:Sto}{h:Heap}{b:Addr}{o:HO}
theorem zmj (e:unt H S b=ae o):H b=ae o:=by
 unfold unt at e;split at e
 ·rename_i xs q;split at e
  ·cases e
  ·rw[q];exact e
 ·exact e
theorem zeS (e:H b=none):unt H S b=none:=by unfold unt;rw[e]
theorem zmo (e:H b=ae o) (n:∀xs,o≠ .lst xs):unt H S b=ae o:=by
 unfold unt;rw[e];cases o<;>first |rfl |exact absurd rfl (n _)
theorem zmu{u:Ob}(e:H b=ae o) (hs:S b=ae u):unt H S b=ae o:=by
 unfold unt;rw[e];cases o<;>first |rfl | (dsimp only;rw[hs])
theorem zpW{xs:List V}(e:H b=ae (.lst xs)) (hs:S b=none):unt H S b=none:=by
 unfold unt;rw[e];dsimp only;rw[hs]
theorem zvS (e:unt H S b=none) (q:H b=ae o):(∃xs,o= .lst xs)∧S b=none:=by
 unfold unt at e;rw[q]at e;cases o<;>first |cases e |skip;rename_i xs;dsimp only at e;split at e
 ·exact⟨⟨xs,rfl⟩, ‹_›⟩
 ·cases e
mutual
theorem Rep.mv{H1:Hp}(t:∀b xs,H b=ae (.tup xs)→H1 b=ae (.tup xs)) (f:∀b o u,H b=ae (.frz o u)→H1 b=ae (.frz o u)) {w:W}{v:V}:Rep K H w v→Rep K H1 w v
 | .non=> .non
 | .bl b=> .bl b
 | .int i=> .int i
 | .str x=> .str x
 | .ref a=> .ref a
 | .scr h=> .scr (by
  rcases h with⟨o,h⟩ |h
  ·exact .inl ⟨o,f _ _ _ h⟩
  ·exact .inr h)
 | .tup h hs=> .tup (t _ _ h) (Reps.mv t f hs)
theorem Reps.mv{H1:Hp}(t:∀b xs,H b=ae (.tup xs)→H1 b=ae (.tup xs)) (f:∀b o u,H b=ae (.frz o u)→H1 b=ae (.frz o u)) {ws:List W}{vs:List V}:Reps K H ws vs→Reps K H1 ws vs
 | .nil=> .nil
 | .cons h hs=> .cons (Rep.mv t f h) (Reps.mv t f hs)
end
theorem zeX:∀b xs,H b=ae (.tup xs)→unt H S b=ae (.tup xs):=λb xs e=>zmo e λ_ z=>nomatch z
theorem zfU:∀b o u,H b=ae (.frz o u)→unt H S b=ae (.frz o u):=λb o u e=>zmo e λ_ z=>nomatch z
theorem RepS.unt (r:RepS K H S):RepS K (unt H S) S:=λa o e=>by
 have q:=r a o e;cases o with
 |lst ws=>obtain⟨vs,z,rs⟩:=q;exact⟨vs,zmu z e,Reps.mv zeX zfU rs⟩
 |dct kvs=>obtain⟨ps,z,rs⟩:=q;exact⟨ps,zmu z e,Paired.mapP rs λ_ _ z=>⟨z.1,Rep.mv zeX zfU z.2⟩⟩
 |dk kvs=>obtain⟨ps,z,rs⟩:=q;exact⟨ps,zmu z e,Paired.mapP rs λ_ _ z=>⟨z.1,Rep.mv zeX zfU z.2⟩⟩
 |ins C fs=>obtain⟨dx,ps,z,rs⟩:=q;exact⟨dx,ps,zmu z e,Paired.mapP rs λ_ _ z=>⟨z.1,Rep.mv zeX zfU z.2⟩⟩
theorem HOk.unt (x:HOk P w H h):HOk P w (unt H S) h:=λa o e=>
 (x a o (zmj e)).stay (λ_ _ _ q=>q) (λb q=>zmo q λ_ z=>nomatch z) λb xs q=>zeX b xs q
theorem zez (ok:HOk P w H h) (un:Un fs [] (unt H S) H' h h') (e:H' b=ae o):rtk H S H' b=ae o:=by
 unfold rtk;split
 ·rename_i q;split
  ·rename_i u z;obtain⟨ob,eo⟩:=(ok b u z).ex;rw[un.free b ob eo q (by simp)]at e;cases e
  ·exact e
 ·rw[e]
theorem zmx (un:Un fs [] (unt H S) H' h h') (ok:HOk P w H h):Un fs [] H (rtk H S H') h h' where
  keep:=λb o e n hb hx=>un.keep b o e (zeS n) hb hx
  slot:=λb o e n hb hx=>un.slot b o e (zeS n) hb hx
  free:=λb o e n hx=>by
    unfold rtk;rw[zeS n,n];exact un.free b o e (zeS n) hx
  there:=un.there
  tups:=λb xs e=>zez ok un (un.tups b xs (zeX b xs e))
  frzs:=λb o u e=>zez ok un (un.frzs b o u (zfU b o u e))
  tbls:=λb ps e=>by
    obtain⟨m,z⟩:=un.tbls b ps (zmo e λ_ z=>nomatch z);exact⟨m,zez ok un z⟩
theorem zsZ (un:Un fs [] (unt H S) H' h h') (ok:HOk P w H h) (ok':HOk P w H' h') (hf:∀b∈fs,H b=none):HOk P w (rtk H S H') h':=λb o e=>by
 have back:∀{o},H' b=ae o→ObjOk P w (rtk H S H') h' b o:=λ{o} q=>(ok' b o q).stay (λ_ _ _ z=>z) (λc z=>zez ok un z) λc xs z=>zez ok un z;unfold rtk at e;split at e
 ·rename_i q;split at e
  ·rename_i u z;cases e;obtain⟨⟨xs,rfl⟩,_⟩:=zvS q z;obtain⟨l,its,n,r,g⟩:=ok b _ z;exact⟨l,its,n,r,un.keep b _ g q (λhb=>by rw[hf b hb]at z;cases z) (by simp)⟩
  ·exact back e
 ·rename_i u q;split at e
  ·rename_i u' z;cases e;exact back z
  ·rename_i z;cases e;obtain⟨ob,eo⟩:=(ok b u (zmj q)).ex;obtain⟨ob',eo'⟩:=un.there b ob eo (by simp);exact⟨⟨ob',eo'⟩,⟨ob',eo'⟩,λh1 h2 ⟨o,z⟩ k=>⟨o,k o z⟩⟩
theorem ztE (e:H b=ae o):∃o',rtk H S H' b=ae o':=by
 unfold rtk;split
 ·rw[e];exact⟨_,rfl⟩
 ·split
  ·exact⟨_,rfl⟩
  ·exact⟨_,rfl⟩
theorem zoF (un:Un fs [] (unt H S) H' h h') (ok:HOk P w H h) (r:RepS K H' S'):Ext H S (rtk H S H') S' where
  tup:=λb xs e=>(zmx un ok).tups b xs e
  frz:=λb o u e=>(zmx un ok).frzs b o u e
  fr:=λb xs e hs=>by
    refine⟨?_,?_⟩
    · unfold rtk;rw[zpW e hs,e]
    · cases q:S' b with
      |none=>rfl
      |some u=>
        obtain⟨v,z⟩:=(r b u q).some;obtain⟨ob,eo⟩:=(ok b _ e).ex;rw[un.free b ob eo (zpW e hs) (by simp)]at z;cases z
  all:=λb o e=>ztE e
theorem ztp (un:Un fs [] (unt H S) H' h h') (ok:HOk P w H h):Ext H' S' (rtk H S H') S' where
  tup:=λb xs e=>zez ok un e
  frz:=λb o u e=>zez ok un e
  fr:=λb xs e hs=>⟨zez ok un e,hs⟩
  all:=λb o e=>⟨o,zez ok un e⟩
theorem zwI (un:Un fs [] (unt H S) H' h h') (ok:HOk P w H h) (r:RepS K H' S'):RepS K (rtk H S H') S':=λa o e=>(r a o e).keep (ztp (S':=S') un ok) λu z=>zez ok un z
end
theorem zzd{X:Cx}{k:Nat}{f:Addr}{fd:bC}{ps:List Str}{c:WSp}{E:WX}{pins:List (Addr×Obj)}{σ:St}{σW:WSt}{H:Hp}{S:Sto}{s:ah}{Q:VK}{QW:WK}{us:List Value}{vs:List V}{ws:List W}
  (F:FnOk X.prog X.w X.K X.mg X.base (CX1 X.prog X.w) k f fd ps (zda X.K c)) (hr:Room k X.A) (hb:Binds X.K fd ps []) (I:Inv X pins σ H s) (r:Vals vs us) (rs:Reps X.K H ws vs) (hσ:RpSt X.K H σW σ) (hS:RepS X.K H S)
  (h:c ws S QW λcl S'=>E cl σW S') (hQ:Wish X.K H S QW Q)
  (hx:∀(cl:Str) (C a:Addr) (H':Hp) (S':Sto) (s':ah),aZ X.K aL cl=ae (ae (.ref C))→s'.os=s.os→b5 s'.gens→Un (frs X.stack) [] H H' s.heap s'.heap→HOk X.prog X.w H' s'.heap→Fly s.heap s'.heap H' a C→Ext H S H' S'→RepS X.K H' S'→E cl σW S'→X.xe (.ref a) s'):am (ap X.prog X.w) X.A (call (.ref f) us) (EP X pins σ Q) X.xe s:=by
 have e0:=I.env0;have sp:zda X.K c vs (unt H S) (λv H'=>∃w S',Rep X.K H' w v∧RepS X.K H' S'∧QW w S') (λcv _ H'=>∃cl C S',cv= .ref C∧aZ X.K aL cl=ae (ae (.ref C))∧RepS X.K H' S'∧E cl σW S'):=
  ⟨ws,S,QW,_,Reps.mv zeX zfU rs,hS.unt,h,λw S' v H' _ r1 r2 q=>⟨w,S',r1,r2,q⟩,λcl C S' H' hn hS' q=>⟨cl,C,S',rfl,hn,hS',q⟩⟩
 have e1:Env0 X.prog X.w X.K X.mg X.base X.A X.stack s (unt H S):=⟨e0.frames,e0.mod,λb o e=>⟨(e0.bs b o e).1,zeS (e0.bs b o e).2⟩,e0.bsz,e0.funs,λb hb=>zeS (e0.frf b hb),e0.hok.unt,e0.bare⟩;have hl:us.length=ps.length:=by rw[←r.length];exact F.len _ _ _ _ sp
 have hb':=hb s us I.kIn (by rw[bI];exact hl);rw[bI]at hb';refine wpAny_call (gh (F.run X.A X.stack s (unt H S) ⟨us,[]⟩ us vs _ _ hr e1 hb' r sp) λrr s' hq=>?_);cases rr with
 |error e=>
  obtain⟨a,C,H',rfl,os,bare,un,ok',fly,cl,C',S',ec,hn,hS',q⟩:=hq;cases ec;refine hx cl C a (rtk H S H') S' s' hn os bare (zmx un I.hok) (zsZ un I.hok ok' e0.frf) ?_ (zoF un I.hok hS') (zwI un I.hok hS') q;obtain⟨g1,g2,oe,vs',T,oT,ts,a1,a2,a3,a4,a5,a6,a7⟩:=fly;have free:∀{b:Addr},s.heap.get? b=none→H' b=none→rtk H S H' b=none:=λ{b} q1 q2=>by
   have hn:H b=none:=by
    cases z:H b with
    |none=>rfl
    |some u=>obtain⟨ob,eo⟩:=(I.hok b u z).ex;rw[q1]at eo;cases eo
   unfold rtk;rw[zeS hn,hn];exact q2
  exact⟨g1,free g1 g2,oe,vs',T,oT,ts,a1,a2,a3,a4,a5,free a5 a6,a7⟩
 |ok fl=>
  cases fl with
  |ret u=>
   obtain⟨v,H',os,bare,un,ok',rv,w,S',r1,r2,q⟩:=hq;exact⟨v,rtk H S H',I.call' os (zmx un I.hok) (zsZ un I.hok ok' e0.frf) bare (λ_ z=>nomatch z),rv,hQ w S' v _ (zoF un I.hok r2) (r1.ext (ztp (S':=S') un I.hok)) (zwI un I.hok r2) q⟩
  |next=>exact cc hq
  |brk=>exact cc hq
  |cont=>exact cc hq
theorem zyD{X:Cx}{k:Nat}{f:Addr}{fd:bC}{ps:List Str}{c:WSp}{E:WX}{pins:List (Addr×Obj)}{σ:St}{σW:WSt}{H:Hp}{S:Sto}{s:ah}{Q:VK}{QW:WK}{us:List Value}{vs:List V}{ws:List W}
  (F:FnOk X.prog X.w X.K X.mg X.base (CX1 X.prog X.w) k f fd ps (zda X.K c)) (hr:Room k X.A) (hb:Binds X.K fd ps []) (hE:Hook X E) (I:Inv X pins σ H s) (r:Vals vs us) (rs:Reps X.K H ws vs) (hσ:RpSt X.K H σW σ) (hS:RepS X.K H S)
  (h:c ws S QW λcl S'=>E cl σW S') (hQ:Wish X.K H S QW Q):am (ap X.prog X.w) X.A (call (.ref f) us) (EP X pins σ Q) X.xe s:=
 zzd (E:=E) F hr hb I r rs hσ hS h hQ λcl C a H' S' s' hn os bare un ok fly _ hS' q=>hE.far pins σ H s σW cl C a H' S' s' I hσ hn os bare un ok fly hS' q
theorem zpo{X:Cx}{pins:List (Addr×Obj)}{σ:St}{H':Hp}{s':ah}{a C:Addr}{hid:List Addr}{h':Heap}(I:Inv X pins σ H' s') (hst:X.stack=X.env::X.outer) (hf:X.env.frame=ae X.env.locals) (hex:X.ex=[])
  (h0:∀b∈hid,X.s₀.heap.get? b=none∧H' b=none) (ha:a∈hid) (L:Heap.Left (eG s'.heap (hid++frs X.stack)) X.stack a (.ref C) s'.heap h') :
  Un X.fs [] X.H₀ H' X.s₀.heap h'∧HOk X.prog X.w H' h'∧Fly X.s₀.heap h' H' a C:=by
 obtain⟨st,ff,tr,sl⟩:=L;have keepB:∀b o,s'.heap.get? b=ae o→b∉hid→b∉frs X.stack→h'.get? b=ae o:=λb o e h1 h2=>st b o (gB _ e λz=>(bq.mp z).elim h1 h2);have nh:∀b o,X.s₀.heap.get? b=ae o→b∉hid:=λb o e hb=>by rw[(h0 b hb).1]at e;cases e
 have slotB:∀b o,b∈frs X.stack→s'.heap.get? b=ae o→ ∃sl,h'.get? b=ae { o with slots:=sl }:=λb o hb e=>by
  obtain⟨_,o',eo',nf⟩:=I.stack.mem hb;rw[e]at eo';cases eo';exact sl b o e nf
 have nx:∀b:Addr,b∉X.ex:=λb=>by rw[hex];simp
 have fsS:∀b∈X.fs,b∈frs X.stack:=λb hb=>by
  rw[hst];unfold frs;rw[fG,hf];exact aK _ hb
 refine⟨⟨λb o e n hb _=>?_,λb o e n hb _=>?_,λb o e n _=>I.base.free b o e n (nx b),λb o e _=>?_,I.base.tups,I.base.frzs,I.base.tbls⟩,λb o e=>?_,(h0 a ha).1,(h0 a ha).2,?_⟩
 ·refine keepB b o (I.base.keep b o e n hb (nx b)) (nh b o e) λz=>?_;rcases az.mp (I.stkSub b z) with q |q
  ·exact absurd (bH (aJ e) I.ok.above) (by rw[q];exact cM _)
  ·exact hb q
 ·obtain⟨sl1,e1⟩:=I.base.slot b o e n hb (nx b);obtain⟨sl2,e2⟩:=slotB b _ (fsS b hb) e1;exact⟨sl2,e2⟩
 ·obtain⟨o',e1⟩:=I.base.there b o e (nx b);by_cases hb:b∈frs X.stack
  ·obtain⟨sl2,e2⟩:=slotB b _ hb e1;exact⟨_,e2⟩
  ·exact⟨o',keepB b o' e1 (nh b o e) hb⟩
 ·refine(I.hok b o e).stay (λc u hc q=>?_) (λ_ q=>q) λ_ _ q=>q;have tk:∃v,H' c=ae v:=by
   rcases hc with z |z
   ·exact⟨o,by rw[z];exact e⟩
   ·exact⟨_,z⟩
  obtain⟨v,tk⟩:=tk;exact keepB c u q (λz=>by rw[(h0 c z).2]at tk;cases tk) λz=>by rw[I.stkFree c z]at tk;cases tk
 ·obtain⟨oe,vs,T,oT,ts,e1,e2,e3,e4,e5,e6,e7,e8,e9⟩:=tr;have nf:T∉frs X.stack:=λhb=>by
   obtain⟨_,o,eo,nf⟩:=ff.mem hb;rw[e7]at eo;cases eo;exact nf ts e8
  have both:X.s₀.heap.get? T=none∧H' T=none:=by
   by_cases hT:T∈hid
   ·exact h0 T hT
   ·have z:s'.heap.get? T=none:=by
     cases q:s'.heap.get? T with
     |none=>rfl
     |some o=>
      rw[gB _ q λz=>(bq.mp z).elim hT nf]at e5;cases e5
    constructor
    ·cases q:X.s₀.heap.get? T with
     |none=>rfl
     |some o=>obtain⟨o',q'⟩:=I.base.there T o q (nx T);rw[z]at q';cases q'
    ·cases q:H' T with
     |none=>rfl
     |some u=>obtain⟨o',q'⟩:=(I.hok T u q).ex;rw[z]at q';cases q'
  exact⟨oe,vs,T,oT,ts,e1,e2,e3,e4,both.1,both.2,e6,e7,e8,e9⟩
theorem zpj{h base:Heap}{l:List bv}{hid:List Addr}(hl:h.FunFrames base l):h.FunFrames (eG h (hid++frs l)) l:=
 PySem.W.funFrames_hide hl λenv he a ha=>b_ _ (gG.mpr ⟨env,he,ha⟩)
theorem zrF{P:aE}{w:aB}{K:aj}{mg:Str→Option Value}{base:Heap}{N:List Str}{qual:Str}{scope:Scope}{f:Addr}{cdv:Value}{A:aM}{outer:List bv}{s:ah}{H:Hp}{E:XK}{EW:Str→Sto→Prop}
    (hEW:∀cl C S' H',aZ K aL cl=ae (ae (.ref C))→RepS K H' S'→EW cl S'→E (.ref C) none H'):Hook (ztL (CX1 P w) P w K mg base N qual scope f cdv A outer s H E) (λc _ S'=>EW c S') where
  own:=fe.leaving
  far:=λpins σ H1 s1 σW cl C a H' S' s' I hσ hn os bare un ok fly hS q=>by
    have I':=I.call' os un ok bare (λ_ z=>nomatch z);obtain⟨g1,g2,oe,vs,T,oT,ts,e1,e2,e3,e4,g3,g4,e5,e6,e7,e8⟩:=fly;have s0:∀{b:Addr},s1.heap.get? b=none→s.heap.get? b=none:=λ{b} z=>by
      cases q:s.heap.get? b with
      |none=>rfl
      |some o=>obtain⟨o',q'⟩:=I.base.there b o q (by exact λz=>nomatch z);rw[z]at q';cases q'
    refine wpAny_leaving_next (base:=eG s'.heap ([a,T]++frs (cb qual scope s.heap.objs.size f cdv::outer))) I'.ok.frames (zpj I'.stack) rfl ⟨oe,vs,T,oT,ts,e1,e2,e3,e4,fE _ (by simp),e5,e6,e7,e8⟩ (λb o z=>gO _ z) (fE _ (by simp)) λh' L=>?_;obtain⟨u1,u2,u3⟩:=zpo (hid:=[a,T]) I' rfl rfl rfl (λb hb=>by
      rcases az.mp hb with rfl |hb
      · exact⟨s0 g1,g2⟩
      · rw[bh.mp hb];exact⟨s0 g3,g4⟩) (by simp) L
    exact⟨a,C,H',rfl,I'.os,I'.bare,u1,u2,u3,hEW cl C S' H' hn hS q⟩
  near:=λpins σ H1 s1 σW cl C a S h' args I hσ hn me hS q=>by
    have I':=I.kept (t':=s1.toks) me.keeps;obtain⟨t,e1,_,_⟩:=me.there;have s0:s.heap.get? a=none:=by
      cases q:s.heap.get? a with
      |none=>rfl
      |some o=>obtain⟨o',q'⟩:=I.base.there a o q (by exact λz=>nomatch z);rw[me.new]at q';cases q'
    have h1:H1 a=none:=by
      cases q:H1 a with
      |none=>rfl
      |some u=>obtain⟨o',q'⟩:=(I.hok a u q).ex;rw[me.new]at q';cases q'
    refine wpAny_leaving_first (base:=eG h' ([a]++frs (cb qual scope s.heap.objs.size f cdv::outer))) (s:={ s1 with heap:=h' }) I'.ok.frames (zpj I'.stack) rfl e1 (λb o z=>gO _ z) (fE _ (by simp)) rfl rfl λh'' L=>?_;obtain⟨u1,u2,u3⟩:=zpo (hid:=[a]) I' rfl rfl rfl (λb hb=>by rw[bh.mp hb];exact⟨s0,h1⟩) (by simp) L
    exact⟨a,C,H1,rfl,I'.os,I'.bare,u1,u2,u3,hEW cl C S H1 hn hS q⟩
def zcu (S:Sto) (a:Addr) (Q:List W→Prop):Prop:=match S a with
 |some (.lst ws)=>Q ws
 |_=>False
theorem zaj{S:Sto}{a:Addr}{Q:List W→Prop}{ws:List W}(h:S a=ae (.lst ws)):zcu S a Q=Q ws:=by unfold zcu;rw[h]
theorem zbk{S:Sto}{a:Addr}{Q:List W→Prop}(h:zcu S a Q):∃ws,S a=ae (.lst ws)∧Q ws:=by
 unfold zcu at h;split at h
 ·exact⟨_, ‹_›,h⟩
 ·exact h.elim
noncomputable def ztj:W→Sto→(Bool→Sto→Prop)→Prop
 | .non,S,Q=>Q false S
 | .bl b,S,Q=>Q b S
 | .int i,S,Q=>Q (i != 0) S
 | .str x,S,Q=>x.length≤sizeLine∧Q ((x.length:Int) != 0) S
 | .tup ws,S,Q=>Q (!ws.isEmpty) S
 | .ref a,S,Q=>zcu S a λws=>Q (!ws.isEmpty) S
 | .scr ns,S,Q=>Q (!ns.isEmpty) S
noncomputable def zgv (t:WE):WT:=λE σ S Q=>t E σ S λw S'=>ztj w S' Q
noncomputable def wTb (t:WE):WT:=λE σ S Q=>t E σ S λw S'=>match w with
 | .bl b=>Q b S'
 |_=>False
noncomputable def zqT (t u:WT):WT:=λE σ S Q=>t E σ S λc S1=>if c=true then u E σ S1 Q else Q false S1
noncomputable def wOr (t u:WT):WT:=λE σ S Q=>t E σ S λc S1=>if c=true then Q true S1 else u E σ S1 Q
noncomputable def zqS (t:WT):WT:=λE σ S Q=>t E σ S λc S1=>Q (!c) S1
noncomputable def zri (t u:WE):WE:=λE σ S Q=>t E σ S λw S1=>match w with
 | .bl true=>u E σ S1 Q
 | .bl false=>Q (.bl false) S1
 |_=>False
noncomputable def wIf (c:WT) (t u:WE):WE:=λE σ S Q=>c E σ S λb S1=>if b=true then t E σ S1 Q else u E σ S1 Q
noncomputable def zbN (c:WT) (t u:WS):WS:=λE D σ S=>c E σ S λb S1=>if b=true then t E D σ S1 else u E D σ S1
noncomputable def zaD:WS:=λ_ D σ S=>D.nx σ S
noncomputable def zar (t u:WS):WS:=λE D σ S=>t E { D with nx:=u E D } σ S
noncomputable def zaU (e:WE):WS:=λE D σ S=>e E σ S D.rt
noncomputable def zcU (e:WE):WS:=λE D σ S=>e E σ S λ_ S1=>D.nx σ S1
noncomputable def wGN (i:Nat):WG:=λw σ S Q=>Q (σ.set i (ae w)) S
noncomputable def wAsg (e:WE) (g:WG):WS:=λE D σ S=>e E σ S λw S1=>g w σ S1 D.nx
abbrev WGs:=List W→WSt→Sto→(WSt→Sto→Prop)→Prop
noncomputable def zbT:WGs:=λws σ S Q=>match ws with
 | []=>Q σ S
 |_=>False
noncomputable def zat (g:WG) (u:WGs):WGs:=λws σ S Q=>match ws with
 | []=>False
 |w::r=>g w σ S λσ' S'=>u r σ' S' Q
noncomputable def wGT (u:WGs):WG:=λw σ S Q=>match w with
 | .tup ws=>u ws σ S Q
 |_=>False
section
variable {X:Cx}{a b c e:Expr}{pos:aC}{ta tb:WE}{tc tA tB':WT}{st:Stmt}{rest:List Stmt}{t u:WS}
theorem zuI{K:aj}{H:Hp}{w:W}{v:V}{S:Sto}{QW:Bool→Sto→Prop}(r:Rep K H w v) (hS:RepS K H S) (h:ztj w S QW):∃k,zzq K v H k∧QW k S:=by
 cases r with
 |non=>exact⟨false,rfl,h⟩
 |bl b=>exact⟨b,rfl,h⟩
 |int i=>exact⟨_,rfl,h⟩
 |str x=>exact⟨_,⟨h.1,rfl⟩,h.2⟩
 |ref a=>
  obtain⟨ws,e,h⟩:=zbk h;obtain⟨vs,e1,r1⟩:=hS a _ e;refine⟨_, .inl ⟨vs, .of e1,rfl⟩,?_⟩;have q:vs.isEmpty=ws.isEmpty:=by cases r1<;>rfl
  rw[q];exact h
 | @scr a ns f=>
  refine⟨_, .inl ⟨_,f.sq,rfl⟩,?_⟩;have q:(ns.map V.int).isEmpty=ns.isEmpty:=by cases ns<;>rfl
  rw[q];exact h
 | @tup a vs ws f hs=>
  refine⟨_, .inr (.inl ⟨vs, .of f,rfl⟩),?_⟩;have q:vs.isEmpty=ws.isEmpty:=by cases hs<;>rfl
  rw[q];exact h
theorem zbJ (ha:JE X a ta) (he:∀whole,isTrue a X.env whole=(do let v ←whole;standAt a.pos;holding [v] (truthy v)):=by intro _;rfl):JT X a (zgv ta):=λE hE=>
 (zqZ (ha E hE) he).mono λσ H Q ⟨σW,S,QW,hσ,hS,ht,hQ⟩=>⟨σW,S,_,hσ,hS,ht,λw S1 v H1 e1 r1 hS1 h1=>by
  obtain⟨k,hk,q⟩:=zuI r1 hS1 h1;exact⟨k,hk,hQ k S1 H1 e1 hS1 q⟩⟩
theorem zfG{op:dF}{r:R2}{wr:W2}(ho:OpR X (bG op) r) (hw:OpW X.K r wr) (ha:JE X a ta) (hb:JE X b tb) (hm:c8 op b=false):JT X (.Compare a [op] [b] pos) (wTb (wOp wr ta tb)):=λE hE=>
 (zui ho (ha E hE) (hb E hE) hm).mono λσ H Q ⟨σW,S,QW,hσ,hS,ht,hQ⟩=>by
  refine zgx (Q:=λv H1=>∃k,v= .bl k∧Q k H1) ⟨σW,S,λw S'=>match w with
   | .bl b=>QW b S'
   |_=>False,hσ,hS,ht,λw S1 v H1 e1 r1 hS1 h1=>?_⟩ λH2 x y wx wy S QW rx ry hS q hQ=>hw H2 x y wx wy S _ QW rx ry hS q hQ
  cases r1 with
  |bl k=>exact⟨k,rfl,hQ k S1 H1 e1 hS1 h1⟩
  |_=>exact h1.elim
theorem zgl (ha:JT X a tA):JT X (.UnaryOp .Not a pos) (zqS tA):=λE hE=>
 (zxV (ha E hE)).mono λσ H Q ⟨σW,S,QW,hσ,hS,ht,hQ⟩=>⟨σW,S,_,hσ,hS,ht,λb S1 H1 e1 hS1 h1=>hQ _ S1 H1 e1 hS1 h1⟩
theorem JW.jt (h:JW X a tA):JT X a tA:=λE hE=>(h E hE).pt
theorem zhd (ha:JT X a tA):JW X (.BoolOp .And [a] pos) tA:=λE hE=>zua (ha E hE)
theorem zfC (ha:JT X a tA):JW X (.BoolOp .Or [a] pos) tA:=λE hE=>zvT (ha E hE)
theorem zjx{rest:List Expr}(ha:JT X a tA) (hb:JW X (.BoolOp .And (b::rest) pos) tB'):JW X (.BoolOp .And (a::b::rest) pos) (zqT tA tB'):=λE hE=>
 (zvG (ha E hE) (hb E hE)).mono λσ H Q ⟨σW,S,QW,hσ,hS,ht,hQ⟩=>⟨σW,S,_,hσ,hS,ht,λb S1 H1 e1 hS1 h1=>by
  cases b with
  |true=>exact⟨σW,S1,_,hσ.ext e1,hS1,h1,λb S2 H2 e2 hS2 h2=>hQ b S2 H2 (e1.trans e2) hS2 h2⟩
  |false=>exact hQ _ S1 H1 e1 hS1 h1⟩
theorem zhO{rest:List Expr}(ha:JT X a tA) (hb:JW X (.BoolOp .Or (b::rest) pos) tB'):JW X (.BoolOp .Or (a::b::rest) pos) (wOr tA tB'):=λE hE=>
 (zyl (ha E hE) (hb E hE)).mono λσ H Q ⟨σW,S,QW,hσ,hS,ht,hQ⟩=>⟨σW,S,_,hσ,hS,ht,λb S1 H1 e1 hS1 h1=>by
  cases b with
  |false=>exact⟨σW,S1,_,hσ.ext e1,hS1,h1,λb S2 H2 e2 hS2 h2=>hQ b S2 H2 (e1.trans e2) hS2 h2⟩
  |true=>exact hQ _ S1 H1 e1 hS1 h1⟩
theorem zsS{op}(h:JE X a ta):JE X (.BoolOp op [a] pos) ta:=λE hE=>zwO (h E hE)
theorem zsH{rest:List Expr}(ha:JE X a ta) (hb:JE X (.BoolOp .And (b::rest) pos) tb):JE X (.BoolOp .And (a::b::rest) pos) (zri ta tb):=λE hE=>
 (zvF (ha E hE) (hb E hE)).mono λσ H Q ⟨σW,S,QW,hσ,hS,ht,hQ⟩=>⟨σW,S,_,hσ,hS,ht,λw S1 v H1 e1 r1 hS1 h1=>by
  cases r1 with
  |bl k=>
   refine⟨k,rfl,?_⟩;cases k with
   |true=>exact⟨σW,S1,_,hσ.ext e1,hS1,h1,hQ.from e1⟩
   |false=>exact hQ _ S1 _ H1 e1 (.bl false) hS1 h1
  |_=>exact h1.elim⟩
theorem zwz (hc:JT X c tc) (ha:JE X a ta) (hb:JE X b tb):JE X (.IfExp c a b pos) (wIf tc ta tb):=λE hE=>
 (zsj (hc E hE) (ha E hE) (hb E hE)).mono λσ H Q ⟨σW,S,QW,hσ,hS,ht,hQ⟩=>⟨σW,S,_,hσ,hS,ht,λk S1 H1 e1 hS1 h1=>by
  cases k with
  |true=>exact⟨σW,S1,_,hσ.ext e1,hS1,h1,hQ.from e1⟩
  |false=>exact⟨σW,S1,_,hσ.ext e1,hS1,h1,hQ.from e1⟩⟩
theorem zav:JSs X [] zaD:=λE hE=>pss_nil.mono λD σ H ⟨σW,S,DW,hσ,hS,ht,hD⟩=>hD.nx σW S σ H .refl hσ hS ht
theorem zad (h1:JS X st t) (h2:JSs X rest u):JSs X (st::rest) (zar t u):=λE hE=>
 (zrv (h1 E hE) (h2 E hE)).mono λD σ H ⟨σW,S,DW,hσ,hS,ht,hD⟩=>
  ⟨σW,S,{ DW with nx:=u E DW },hσ,hS,ht,⟨λσW' S' σ' H' e r hS' q=>⟨σW',S',DW,r,hS',q,hD.from e⟩,hD.rt,hD.bk,hD.ct⟩⟩
theorem zah (h1:JS X st t):JSs X [st] t:=λE hE=>zuy (h1 E hE)
theorem zbb (he:JE X e ta) (hs:di e none pos.line X.env=pure false:=by rfl):JS X (.Expr e pos) (zcU ta):=λE hE=>
 (ztD (he E hE) hs).mono λD σ H ⟨σW,S,DW,hσ,hS,ht,hD⟩=>⟨σW,S,_,hσ,hS,ht,λw S1 v H1 e1 r1 hS1 h1=>hD.nx σW S1 σ H1 e1 (hσ.ext e1) hS1 h1⟩
theorem zam (he:JE X e ta):JS X (.Return (ae e) pos) (zaU ta):=λE hE=>
 (zxj (he E hE)).mono λD σ H ⟨σW,S,DW,hσ,hS,ht,hD⟩=>⟨σW,S,_,hσ,hS,ht,hD.rt⟩
theorem zaG{a b:List Stmt}(hc:JT X c tc) (ha:JSs X a t) (hb:JSs X b u):JS X (.If c a b pos) (zbN tc t u):=λE hE=>
 (zzf (hc E hE) (ha E hE) (hb E hE)).mono λD σ H ⟨σW,S,DW,hσ,hS,ht,hD⟩=>⟨σW,S,_,hσ,hS,ht,λk S1 H1 e1 hS1 h1=>by
  cases k with
  |true=>exact⟨σW,S1,DW,hσ.ext e1,hS1,h1,hD.from e1⟩
  |false=>exact⟨σW,S1,DW,hσ.ext e1,hS1,h1,hD.from e1⟩⟩
theorem zao{i:Nat}{x:Str}(hN:X.N.Nodup) (hi:X.N[i]? =ae x) (hx:Loc X.env.scope x) (hf:X.fn x=true∨X.env.scope.names.lookup x=ae .local:=by first |exact .inl rfl |exact .inr rfl |assumption):JG X (.Name x pos) (wGN i):=λE hE=>
 (zuA hN hi hx hf).mono λv σ H Q ⟨w,σW,S,P,r,hσ,hS,ht,hP⟩=>hP _ S _ H .refl (hσ.set r i) hS ht
def JGs (X:Cx) (tgs:List Expr) (t:WGs):Prop:=∀E,Hook X E→PGs X tgs (λvs σ H Q=>∃ws σW S P,Reps X.K H ws vs∧RpSt X.K H σW σ∧RepS X.K H S∧t ws σW S P∧Goes X.K H S P Q)
theorem zcC:JGs X [] zbT:=λE hE pins s σ H vs us Q I r h=>by
 obtain⟨ws,σW,S,P,rs,hσ,hS,ht,hP⟩:=h;unfold zbT at ht;split at ht
 ·cases rs;exact ztK pins s σ H [] us Q I r ⟨rfl,hP σW S σ H .refl hσ hS ht⟩
 ·exact ht.elim
theorem zax{es:List Expr}{g:WG}{gs:WGs}(h1:JG X e g) (h2:JGs X es gs)
  (hs:(ce (e::es) X.env).map (·.2)=assign e X.env::(ce es X.env).map (·.2):=by rfl):JGs X (e::es) (zat g gs):=λE hE pins s σ H vs us Q I r h=>by
 obtain⟨ws,σW,S,P,rs,hσ,hS,ht,hP⟩:=h;unfold zat at ht;split at ht
 ·exact ht.elim
 ·cases rs with
  |cons r1 r2=>
   refine zrN (h1 E hE) (h2 E hE) hs pins s σ H _ us Q I r ⟨_,_,rfl,⟨_,σW,S,_,r1,hσ,hS,ht,λσW' S' σ' H' e' rr hS' q=>?_⟩⟩;exact⟨_,σW',S',P,r2.ext e',rr,hS',q,hP.from e'⟩
theorem zdD{es:List Expr}{k n:Nat}{gs:WGs}(h:JGs X es gs) (hlen:∀ws σ S P,gs ws σ S P→ws.length=n)
  (hn:(ce es X.env).length=n:=by rfl) (hst:(ce es X.env).findIdx? (·.1)=none:=by rfl) (hcl:X.calm=true:=by rfl):JG X (.Tuple es k pos) (wGT gs):=λE hE=>
 (zwM hcl (h E hE) hn hst).mono λv σ H Q ⟨w,σW,S,P,r,hσ,hS,ht,hP⟩=>by
  cases r with
  |tup f hs=>exact⟨_,_,rfl, .of f,by rw[←hs.length];exact hlen _ _ _ _ ht,⟨_,σW,S,P,hs,hσ,hS,ht,hP⟩⟩
  |_=>exact ht.elim
theorem zph{tg:Expr}{g:WG}(he:JE X e ta) (hg:JG X tg g) (hs:swapsWithSole [tg] e pos.line X.env=pure false:=by rfl) (hw:swappedStores [tg] e X.env=pure none:=by rfl)
  (h1:(ce [tg] X.env).map (·.2)=[assign tg X.env]:=by rfl):JS X (.Assign [tg] e pos) (wAsg ta g):=λE hE=>
 (zxg (he E hE) (hg E hE) hs hw h1).mono λD σ H ⟨σW,S,DW,hσ,hS,ht,hD⟩=>⟨σW,S,_,hσ,hS,ht,λw S1 v H1 e1 r1 hS1 h1=>⟨w,σW,S1,_,r1,hσ.ext e1,hS1,h1,hD.nx.from e1⟩⟩
theorem zan{i:Nat}{x:Str}{pos':aC}(hN:X.N.Nodup) (hi:X.N[i]? =ae x) (hx:Loc X.env.scope x) (he:JE X e ta) (hs:di e (ae (.Name x pos')) pos.line X.env=pure false:=by rfl)
  (hf:X.fn x=true∨X.env.scope.names.lookup x=ae .local:=by first |exact .inl rfl |exact .inr rfl |assumption):JS X (.Assign [.Name x pos'] e pos) (wAsg ta (wGN i)):=λE hE=>
 (zwP hN hi hx (he E hE) hs hf).mono λD σ H ⟨σW,S,DW,hσ,hS,ht,hD⟩=>⟨σW,S,_,hσ,hS,ht,λw S1 v H1 e1 r1 hS1 h1=>hD.nx _ S1 _ H1 e1 ((hσ.ext e1).set r1 i) hS1 h1⟩
end
noncomputable def waNil:WA:=λ_ _ S Q=>Q [] S
noncomputable def zab (t:WE) (u:WA):WA:=λE σ S Q=>t E σ S λw S1=>u E σ S1 λws S2=>Q (w::ws) S2
noncomputable def zbD (t:WA):WE:=λE σ S Q=>t E σ S λws S1=>ws.length≤sizeLine∧Q (.tup ws) S1
noncomputable def zdl (t:WA):WL:=λE σ S Q=>t E σ S λws S1=>ws.length≤sizeLine∧Q ws S1
noncomputable def zct (t:WL):WE:=λE σ S Q=>t E σ S λws S1=>∀a,S1 a=none→Q (.ref a) (put S1 a (.lst ws))
section
variable {X:Cx}{e:Expr}{es:List Expr}{te:WE}{ta:WA}{tl:WL}{pos:aC}
theorem zac:JA X [] waNil:=λE hE=>pa_nil.mono λσ H Q ⟨σW,S,QW,hσ,hS,ht,hQ⟩=>hQ [] S [] H .refl .nil hS ht
theorem zaa (ha:JE X e te) (hr:JA X es ta) (hs:ao (e::es) X.env=(false,ay e X.env)::ao es X.env:=by rfl):JA X (e::es) (zab te ta):=λE hE=>
 (zdu (ha E hE) (hr E hE) hs).mono λσ H Q ⟨σW,S,QW,hσ,hS,ht,hQ⟩=>⟨σW,S,_,hσ,hS,ht,λw S1 v H1 e1 r1 hS1 h1=>⟨σW,S1,_,hσ.ext e1,hS1,h1,λws S2 vs H2 e2 r2 hS2 h2=>
  hQ (w::ws) S2 (v::vs) H2 (e1.trans e2) (.cons (r1.ext e2) r2) hS2 h2⟩⟩
theorem zas{x1}(h:JA X es ta):JE X (.Tuple es x1 pos) (zbD ta):=λE hE=>
 (zwU (h E hE)).mono λσ H Q ⟨σW,S,QW,hσ,hS,ht,hQ⟩=>⟨σW,S,_,hσ,hS,ht,λws S1 vs H1 e1 r1 hS1 h1=>by
  refine⟨by rw[←r1.length];exact h1.1,λp hp=>hQ (.tup ws) S1 _ _ (e1.trans (.new hp)) (.tup zay (r1.ext (.new (S:=S1) hp))) (hS1.new hp) h1.2⟩⟩
theorem zaK (h:JA X es ta):JL X (.List es pos) (zdl ta):=λE hE=>
 (zxQ (h E hE)).mono λσ H Q ⟨σW,S,QW,hσ,hS,ht,hQ⟩=>⟨σW,S,_,hσ,hS,ht,λws S1 vs H1 e1 r1 hS1 h1=>by
  refine⟨by rw[←r1.length];exact h1.1,λp hp=>hQ ws S1 vs p _ (e1.trans (.new hp)) (e1.free hp) zay (hS1.free hp) (r1.ext (.new (S:=S1) hp)) (hS1.new hp) h1.2⟩⟩
theorem zaC (h:JL X e tl):JE X e (zct tl):=λE hE=>
 (h E hE).mono λσ H Q ⟨σW,S,QW,hσ,hS,ht,hQ⟩=>⟨σW,S,_,hσ,hS,ht,λws S1 vs a H1 e1 fa ea na r1 hS1 h1=>by
  refine hQ (.ref a) (put S1 a (.lst ws)) (.ref a) H1 ⟨e1.tup,e1.frz,λb o q g=>by
   have hb:b≠a:=by rintro rfl;rw[fa]at q;cases q
   rw[zaA hb];exact e1.fr b o q g,e1.all⟩ (.ref a) (λb o q=>?_) (h1 a na)
  by_cases hb:b=a
  ·subst hb;rw[zag]at q;cases q;exact⟨vs,ea,r1⟩
  ·rw[zaA hb]at q;exact hS1 b o q⟩
end
noncomputable def zap (c:WSp) (t:WA):WE:=λE σ S Q=>t E σ S λws S1=>c ws S1 Q λcl S2=>E cl σ S2
noncomputable def zcv (n k:Nat) (body:WS):WSp:=λws S Q E=>ws.length=k∧body (λc _ S'=>E c S') { nx:=λ_ S'=>∃S'',Sub S'' S'∧Q .non S'',rt:=λw S'=>∃S'',Sub S'' S'∧Q w S'' } (ws.map ae++aO (n - k) none) S
section
variable {X:Cx}{k:Nat}{f:Addr}{fd:bC}{ps:List Str}{c:WSp}{x:Str}{p pos:aC}{e:Expr}{es:List Expr}{t:WA}
theorem zai (F:FnOk X.prog X.w X.K X.mg X.base (CX1 X.prog X.w) k f fd ps (zda X.K c)) (hr:Room k X.A) (hg:Gl X x) (hm:X.mg x=ae (.ref f)) (hk:eI X.K (.ref f)=true) (hb:Binds X.K fd ps [])
  (ha:JA X (e::es) t) (hdb:(x == ("__debug__" :Str))=false:=by decide) (he:ao (e::es) X.env=(false,ay e X.env)::ao es X.env:=by rfl) (hpl:(aP pos (ao es X.env)).any (·.1)=false:=by rfl) :
  JE X (.Call (.Name x p) (e::es) [] pos) (zap c t):=λE hE pins s σ H Q I h=>by
 obtain⟨σW,S,QW,hσ,hS,ht,hQ⟩:=h;refine gD (zkX I hg hm ?_ hdb);refine PySem.W.callWith_K (h₀:=X.base) I.ok.mod.kin hk (thn (ha E hE pos pins s σ H (λvs H1=>∃ws S1,Reps X.K H1 ws vs∧RpSt X.K H1 σW σ∧RepS X.K H1 S1∧c ws S1 QW (λcl S'=>E cl σW S')∧Wish X.K H1 S1 QW Q) I
  ⟨σW,S,_,hσ,hS,ht,λws S1 vs H1 e1 r1 hS1 h1=>⟨ws,S1,r1,hσ.ext e1,hS1,h1,hQ.from e1⟩⟩) λus s1 ⟨vs,H1,I1,r,ws,S1,r1,hσ1,hS1,h1,hQ1⟩=>⟨I1.kIn,?_⟩) he hpl
 exact zyD F hr hb hE I1 r r1 hσ1 hS1 h1 hQ1
theorem zqe{K:aj}{H:Hp}{N:List Str}{ws:List W}{vs:List V}(h:Reps K H ws vs):RpSt K H (ws.map ae++aO (N.length - ws.length) none) (start N vs):=by
 have go:∀{ws:List W}{vs:List V}(m:Nat),Reps K H ws vs→RpSt K H (ws.map ae++aO m none) (vs.map ae++aO m none):=by
  intro ws
  induction ws with
  |nil=>
   intro vs m h;cases h
   induction m with
   |zero=>exact .nil
   |succ m ih=>exact .cons trivial ih
  |cons w ws ih=>
   intro vs m h;cases h with
   |cons r rs=>exact .cons r (ih m rs)
 unfold start;rw[←h.length];exact go _ h
theorem zaQ{P:aE}{w:aB}{K:aj}{mg:Str→Option Value}{base:Heap}{x qual:Str}{st:Stmt}{f:Addr}{fd:bC}{N ps:List Str}{r n k:Nat}{body:WS}(F:Fun K x qual st f fd) (S:FnScope N ps (zak st)) (hn:N.length=n) (hk:ps.length=k)
  (hbody:∀(cdv:Value) (A:aM) (outer:List bv) (s:ah) (H:Hp) (E:XK),Room r (A.deeper (cb qual (zak st) s.heap.objs.size f cdv))→
   JSs (ztL (CX1 P w) P w K mg base N qual (zak st) f cdv A outer s H E) (zfR st) body):FnOk P w K mg base (CX1 P w) (r+1) f fd ps (zda K (zcv n k body)):=by
 obtain⟨oc,od,kV,doc,pm,an,cdv,ct,osl,rfl,lk,hcd⟩:=F.ex;refine zzv lk hcd S (λvs H Q E h=>?_) λA outer s H vs Q E hr h=>?_
 ·obtain⟨ws,S,QW,EW,rs,_,h,_⟩:=h;rw[←rs.length,h.1,hk]
 ·obtain⟨ws,S',QW,EW,rs,hS,h,hQ,hEW⟩:=h;refine⟨_,hbody cdv A outer s H E hr (λc _ S'=>EW c S') (zrF hEW),?_⟩;refine⟨_,S',{ nx:=λ_ S'=>∃S'',Sub S'' S'∧QW .non S'',rt:=λw S'=>∃S'',Sub S'' S'∧QW w S'' },zqe (N:=N) rs,hS,by rw[hn,h.1];exact h.2,⟨λσW S1 σ H1 e1 rr hS1 q=>?_,λw S1 v H1 e1 rr hS1 q=>?_,λ_ _ _ _ _ _ _ q=>q,λ_ _ _ _ _ _ _ q=>q⟩⟩
  ·obtain⟨S2,sb,q⟩:=q;exact hQ .non S2 .non H1 (e1.trans (.drop sb)) .non (hS1.sub sb) q
  ·obtain⟨S2,sb,q⟩:=q;exact hQ w S2 v H1 (e1.trans (.drop sb)) rr (hS1.sub sb) q
end
noncomputable def zdk (C:Int→Int→Prop) (g:Int→Int→W):W2
 | .int i, .int j,S,Q=>C i j∧Q (g i j) S
 |_,_,_,_=>False
noncomputable def zeM (g:Int→Int→W):W2
 | .int i, .int j,S,Q=>Q (g i j) S
 |_,_,_,_=>False
theorem ziz{K:aj}{C:Int→Int→Prop}{g:Int→Int→Int}:OpW K (rI C λi j=> .int (g i j)) (zdk C λi j=> .int (g i j)):=λH x y wx wy S Q QW rx ry hS h hQ=>by
 cases rx<;>cases ry<;>first |exact⟨_,_,rfl,rfl,h.1,hQ _ S _ H .refl (.int _) hS h.2⟩ |exact h.elim
theorem zrq{K:aj}{g:Int→Int→Int}:OpW K (rI0 λi j=> .int (g i j)) (zeM λi j=> .int (g i j)):=λH x y wx wy S Q QW rx ry hS h hQ=>by
 cases rx<;>cases ry<;>first |exact⟨_,_,rfl,rfl,hQ _ S _ H .refl (.int _) hS h⟩ |exact h.elim
theorem ziU{K:aj}{g:Int→Int→Bool}:OpW K (rI0 λi j=> .bl (g i j)) (zeM λi j=> .bl (g i j)):=λH x y wx wy S Q QW rx ry hS h hQ=>by
 cases rx<;>cases ry<;>first |exact⟨_,_,rfl,rfl,hQ _ S _ H .refl (.bl _) hS h⟩ |exact h.elim
noncomputable def zdF:W2
 | .int i, .int j,S,Q=>Q (.int (i+j)) S
 | .str x, .str y,S,Q=>x.length+y.length≤sizeLine∧Q (.str (x++y)) S
 | .tup xs, .tup ys,S,Q=>xs.length+ys.length≤sizeLine∧Q (.tup (xs++ys)) S
 | .ref a, .ref b,S,Q=>zcu S a λxs=>zcu S b λys=>xs.length+ys.length≤sizeLine∧ ∀p,S p=none→Q (.ref p) (put S p (.lst (xs++ys)))
 |_,_,_,_=>False
section
variable {X:Cx}
theorem Reps.nil_r{K:aj}{H:Hp}{ws:List W}(h:Reps K H ws []):ws=[]:=by cases h;rfl
theorem op_catT0:OpR X (bM .Add) (λx y H Q=>∃a b ys,x= .ref a∧y= .ref b∧SqT X.K H a []∧SqT X.K H b ys∧Q (.ref b) H):=by
 intro pins s σ H x y v u Q I rx ry h;obtain⟨a,b,ys,rfl,rfl,ha,hb,q⟩:=h;cases rx;cases ry;obtain⟨its,r1,p1,_⟩:=I.tuple ha;obtain⟨its2,r2,p2,_⟩:=I.tuple hb;cases r1;obtain⟨⟨cls,dd,data,sl⟩,ho,hc,n,hd⟩:=id p1;obtain⟨⟨cls2,dd2,data2,sl2⟩,ho2,hc2,n2,hd2⟩:=id p2;simp only at hc hd hc2 hd2;subst hc hd hc2 hd2;exact io ⟨_,ho,rfl⟩ ⟨_,ho2,rfl⟩ h9 gK ip gu (gZ _ _)
   (tuple_addW0 a b _ _ n n2 dd dd2 sl sl2 (by simp)) ⟨ho,ho2,⟨.ref b,H,I,rfl,q⟩⟩
theorem zpR:OpR X (bM .Add) (λx y H Q=>(rI0 λi j=> .int (i+j)) x y H Q∨(∃i j,x= .str i∧y= .str j∧i.length+j.length≤sizeLine∧Q (.str (i++j)) H)∨
  (∃a b ys,x= .ref a∧y= .ref b∧SqT X.K H a []∧SqT X.K H b ys∧Q (.ref b) H)∨zve X.K x y H Q∨zzA x y H Q):=op_add.or (op_add_str.or (op_catT0.or (op_catT.or zmf)))
theorem ztQ{K:aj}:OpW K (λx y H Q=>(rI0 λi j=> .int (i+j)) x y H Q∨(∃i j,x= .str i∧y= .str j∧i.length+j.length≤sizeLine∧Q (.str (i++j)) H)∨
  (∃a b ys,x= .ref a∧y= .ref b∧SqT K H a []∧SqT K H b ys∧Q (.ref b) H)∨zve K x y H Q∨zzA x y H Q) zdF:=λH x y wx wy S Q QW rx ry hS h hQ=>by
 cases rx with
 |int i=>
  cases ry with
  |int j=>exact .inl ⟨i,j,rfl,rfl,hQ _ S _ H .refl (.int _) hS h⟩
  |_=>exact h.elim
 |str i=>
  cases ry with
  |str j=>exact .inr (.inl ⟨i,j,rfl,rfl,h.1,hQ _ S _ H .refl (.str _) hS h.2⟩)
  |_=>exact h.elim
 | @tup a vs ws f hs=>
  cases ry with
  | @tup b us zs g ks=>
   cases hs with
   |nil=>exact .inr (.inr (.inl ⟨a,b,us,rfl,rfl, .of f, .of g,hQ (.tup zs) S _ H .refl (.tup g ks) hS h.2⟩))
   |cons h1 h2=>
    refine .inr (.inr (.inr (.inl ⟨a,b,_,us,rfl,rfl, .of f, .of g,by simp,?_,λe=>?_,λe p hp=>?_⟩)))
    ·rw[←(Reps.cons h1 h2).length,←ks.length];exact h.1
    ·subst e;have e':=ks.nil_r;subst e';have q:=h.2;rw[bI]at q;exact hQ _ S _ H .refl (.tup f (.cons h1 h2)) hS q
    ·exact hQ _ S _ _ (.new hp) (.tup zay (((Reps.cons h1 h2).append ks).ext (.new (S:=S) hp))) (hS.new hp) h.2
  |_=>exact h.elim
 |ref a=>
  cases ry with
  |ref b=>
   obtain⟨xs,ea,h⟩:=zbk h;obtain⟨ys,eb,h⟩:=zbk h;obtain⟨vs,e1,r1⟩:=hS a _ ea;obtain⟨us,e2,r2⟩:=hS b _ eb;refine .inr (.inr (.inr (.inr ⟨a,b,vs,us,rfl,rfl,e1,e2,by rw[←r1.length,←r2.length];exact h.1,λp hp=>?_⟩)))
   exact hQ _ _ _ _ (.newS hp) (.ref p) (hS.put_lst hp ((r1.append r2).ext (.new (S:=S) hp))) (h.2 p (hS.free hp))
  |_=>exact h.elim
 |_=>exact h.elim
variable {a b:Expr}{pos:aC}{ta tb:WE}
theorem zbf (ha:JE X a ta) (hb:JE X b tb):JE X (.BinOp a .Add b pos) (wOp zdF ta tb):=znO zpR ztQ ha hb
theorem zjl (ha:JE X a ta) (hb:JE X b tb):JE X (.BinOp a .Sub b pos) (wOp (zeM λi j=> .int (i - j)) ta tb):=znO zwH zrq ha hb
theorem zsU (ha:JE X a ta) (hb:JE X b tb):JE X (.BinOp a .Mult b pos) (wOp (zdk CMul λi j=> .int (i*j)) ta tb):=znO zxi ziz ha hb
theorem zcF (ha:JE X a ta) (hb:JE X b tb):JE X (.BinOp a .FloorDiv b pos) (wOp (zdk zio λi j=> .int (i / j)) ta tb):=znO zvl ziz ha hb
theorem zci (ha:JE X a ta) (hb:JE X b tb):JE X (.BinOp a .Mod b pos) (wOp (zdk (λ_ j=>0<j) λi j=> .int (i % j)) ta tb):=znO zxS ziz ha hb
theorem zvD (ha:JE X a ta) (hb:JE X b tb):JE X (.BinOp a .Pow b pos) (wOp (zdk zzi λi j=> .int (i ^ j.toNat)) ta tb):=znO zwD ziz ha hb
noncomputable def znZ (t:WE):WE:=λE σ S Q=>t E σ S λw S1=>match w with
 | .int i=>Q (.int (-i)) S1
 |_=>False
theorem zfd (ha:JE X a ta):JE X (.UnaryOp .USub a pos) (znZ ta):=λE hE=>
 (zyS zxx (ha E hE)).mono λσ H Q ⟨σW,S,QW,hσ,hS,ht,hQ⟩=>⟨σW,S,_,hσ,hS,ht,λw S1 v H1 e1 r1 hS1 h1=>by
  cases r1 with
  |int i=>exact⟨i,rfl,hQ _ S1 _ H1 e1 (.int _) hS1 h1⟩
  |_=>exact h1.elim⟩
noncomputable def zyn (t u:WE):WL:=λE σ S Q=>t E σ S λx S1=>u E σ S1 λy S2=>match x,y with
 | .ref a, .ref b=>zcu S2 a λxs=>zcu S2 b λys=>xs.length+ys.length≤sizeLine∧Q (xs++ys) S2
 |_,_=>False
end
noncomputable def zed (f:W→W→Option Bool):List W→List W→Option Bool
 | [],[]=>ae true
 | [],_=>ae false
 |_,[]=>ae false
 |x::xs,y::ys=>match f x y,zed f xs ys with
  |some a,ae b=>ae (a&&b)
  |_,_=>none
noncomputable def eqF (S:Sto):Nat→W→W→Option Bool
 |0,_,_=>none
 |n+1,w,u=>match w,u with
  | .non, .non=>ae true
  | .bl a, .bl b=>ae (a == b)
  | .int a, .int b=>ae (a == b)
  | .str a, .str b=>ae (a == b)
  | .tup _, .int _=>ae false
  | .int _, .tup _=>ae false
  | .tup xs, .tup ys=>zed (eqF S n) xs ys
  | .ref a, .ref b=>match S a with
   |some (.lst xs)=>match S b with
    |some (.lst ys)=>zed (eqF S n) xs ys
    |_=>none
   |_=>none
  |_,_=>none
theorem znr{f:W→W→Option Bool}:∀{xs ys:List W}{b:Bool},zed f xs ys=ae b→
  (∀j,j<xs.length→j<ys.length→ ∃c,f (xs.getD j .non) (ys.getD j .non)=ae c)∧
  ((aU (min xs.length ys.length)).all (λj=>(f (xs.getD j .non) (ys.getD j .non)).getD true)&&xs.length == ys.length)=b
 | [],[],b,h=>by
  have:true=b:=aG h;subst this;exact⟨λj h=>absurd h (by simp),by simp⟩
 | [],y::ys,b,h=>by
  have:false=b:=aG h;subst this;exact⟨λj h=>absurd h (by simp),by simp⟩
 |x::xs,[],b,h=>by
  have:false=b:=aG h;subst this;exact⟨λj _ h=>absurd h (by simp),by simp⟩
 |x::xs,y::ys,b,h=>by
  unfold zed at h;split at h
  ·rename_i c d e1 e2;have hb:(c&&d)=b:=aG h;obtain⟨h1,h2⟩:=znr e2;refine⟨λj j1 j2=>?_,?_⟩
   ·cases j with
    |zero=>exact⟨c,by simpa using e1⟩
    |succ j=>simpa using h1 j (by simpa using j1) (by simpa using j2)
   ·have hm:min (xs.length+1) (ys.length+1)=min xs.length ys.length+1:=by omega
    have hl:(xs.length+1 == ys.length+1)=(xs.length == ys.length):=by simp
    rw[aR,aR,hm,hZ,List.all_cons,List.all_map,hl];have q:((λj=>(f ((x::xs).getD j .non) ((y::ys).getD j .non)).getD true)∘Nat.succ)=λj=>(f (xs.getD j .non) (ys.getD j .non)).getD true:=by
     funext j;simp
    rw[q,Bool.and_assoc,h2];have q0:(f ((x::xs).getD 0 .non) ((y::ys).getD 0 .non)).getD true=c:=by simp [e1]
    rw[q0,hb]
  ·cases h
section
variable {X:Cx}{pins:List (Addr×Obj)}{σ:St}{H:Hp}{s:ah}{S:Sto}
theorem ziV (I:Inv X pins σ H s):∀(n:Nat) {wx wy:W}{v:V}{b:Bool},Rep X.K H wx v→Rep X.K H wy v→RepS X.K H S→eqF S n wx wy=ae b→b=true
 |0,_,_,_,_,_,_,_,h=>by cases h
 |n+1,wx,wy,v,b,rx,ry,hS,h=>by
  have list:∀{ws us:List W}{vs:List V}{b:Bool},Reps X.K H ws vs→Reps X.K H us vs→zed (eqF S n) ws us=ae b→b=true:=by
   intro ws
   induction ws with
   |nil=>
    intro us vs b r1 r2 e;cases r1;cases r2;exact(aG e).symm
   |cons w ws ih=>
    intro us vs b r1 r2 e;cases r1 with
    |cons a1 a2=>
     cases r2 with
     |cons c1 c2=>
      unfold zed at e;split at e
      ·rename_i c d e1 e2;have q1:=ziV I n a1 c1 hS e1;have q2:=ih a2 c2 e2;have:=aG e;rw[q1,q2]at this;exact this.symm
      ·cases e
  cases rx with
  |non=>cases ry;exact(aG h).symm
  |bl k=>cases ry;have:=aG h;simpa using this.symm
  |int k=>cases ry;have:=aG h;simpa using this.symm
  |str k=>cases ry;have:=aG h;simpa using this.symm
  |ref a=>
   cases ry with
   |ref _=>
    have h':(match S a with
     |some (.lst xs)=>match S a with
      |some (.lst ys)=>zed (eqF S n) xs ys
      |_=>none
     |_=>none)=ae b:=h
    cases e:S a with
    |none=>rw[e]at h';cases h'
    |some o=>
     rw[e]at h';cases o with
     |lst ws=>
      obtain⟨vs,_,r⟩:=hS a _ e;exact list r r h'
     |dct _=>cases h'
     |dk _=>cases h'
     |ins _ _=>cases h'
   |scr _=>cases h
   |tup _ _=>cases h
  |scr f=>cases ry<;>cases h
  |tup f hs=>
   cases ry with
   |ref _=>cases h
   |scr _=>cases h
   |tup g ks=>
    have e:=I.tuple_inj (.of f) (.of g);subst e;exact list hs ks h
theorem zkB{A:aM}:A.in1.units=A.units+1:=rfl
theorem zno (I:Inv X pins σ H s) (hS:RepS X.K H S):∀(n:Nat) {A:aM}{wx wy:W}{x y:V}{u v:Value}{b:Bool},A.units+n<cLine→Rep X.K H wx x→Rep X.K H wy y→RelV x u→RelV y v→eqF S n wx wy=ae b→
  dW A s u v b∧eP A s u v b∧eZ A s u v (!b)
 |0,_,_,_,_,_,_,_,_,_,_,_,_,_,h=>by cases h
 |n+1,A,wx,wy,x,y,u,v,b,hu,rx,ry,ru,rv,h=>by
  have hu0:A.units<cLine:=by omega
  have items:∀{ws zs:List W}{xs ys:List V}{us vs:List Value}{b:Bool},Reps X.K H ws xs→Reps X.K H zs ys→Vals xs us→Vals ys vs→zed (eqF S n) ws zs=ae b→
    (∀j (h1:j<us.toArray.size) (h2:j<vs.toArray.size),dW A.in1 s us.toArray[j] vs.toArray[j] ((eqF S n (ws.getD j .non) (zs.getD j .non)).getD true))∧
    ((aU (min us.toArray.size vs.toArray.size)).all (λj=>(eqF S n (ws.getD j .non) (zs.getD j .non)).getD true)&&us.toArray.size == vs.toArray.size)=b:=by
   intro ws zs xs ys us vs b r1 r2 q1 q2 e;obtain⟨h1,h2⟩:=znr e;have l1:=r1.length;have l2:=r2.length;have l3:=q1.length;have l4:=q2.length;refine⟨λj j1 j2=>?_,?_⟩
   ·rw[aQ]at j1 j2;obtain⟨c,hc⟩:=h1 j (by omega) (by omega);have jw:j<ws.length:=by omega
    have jz:j<zs.length:=by omega
    obtain⟨x',ex,rx'⟩:=r1.get (a8 jw);obtain⟨y',ey,ry'⟩:=r2.get (a8 jz);obtain⟨u',eu,ru'⟩:=q1.get ex;obtain⟨v',ev,rv'⟩:=q2.get ey;have e1:us.toArray[j]=u':=by
     obtain⟨_,e⟩:=cj.mp eu;simpa using e
    have e2:vs.toArray[j]=v':=by
     obtain⟨_,e⟩:=cj.mp ev;simpa using e
    have g1:ws.getD j .non=ws[j]:=by rw[br,a8 jw];rfl
    have g2:zs.getD j .non=zs[j]:=by rw[br,a8 jz];rfl
    rw[e1,e2,hc];rw[g1,g2]at hc;exact(zno I hS n (by rw[zkB];omega) rx' ry' ru' rv' hc).1
   ·rw[aQ,aQ,←l3,←l4,←l1,←l2];exact h2
  cases rx with
  |non=>
   cases(show u=ci from ru);cases ry with
   |non=>cases(show v=ci from rv);cases h;exact⟨.same _, .none_none, .none_none⟩
   |_=>cases h
  |bl k=>
   cases(show u=eE k from ru);cases ry with
   |bl j=>cases(show v=eE j from rv);cases h;exact⟨.bool_bool _ _, .bool_bool _ _, .bool_bool _ _⟩
   |_=>cases h
  |int k=>
   obtain⟨t0,rfl⟩:=ru;cases ry with
   |int j=>obtain⟨t,rfl⟩:=rv;cases h;exact⟨.int_int _ _ _ _, .int_int _ _ _ _, .int_int _ _ _ _⟩
   |tup f hs=>cases(show v=a_ _ from rv);cases h;obtain⟨its,_,p,_⟩:=I.tuple (.of f);exact⟨.int_tuple _ _ p hu0, .int_tuple _ _ p hu0, .int_tuple _ _ p hu0⟩
   |_=>cases h
  |str k=>
   obtain⟨t0,rfl⟩:=ru;cases ry with
   |str j=>obtain⟨t,rfl⟩:=rv;cases h;exact⟨.str_str _ _ _ _, .str_str _ _ _ _, .str_str _ _ _ _⟩
   |_=>cases h
  | @tup a xs ws f hs=>
   cases(show u=a_ a from ru);obtain⟨its,q1,p,_⟩:=I.tuple (.of f);cases ry with
   |int j=>obtain⟨t,rfl⟩:=rv;cases h;exact⟨.tuple_int _ _ p hu0, .tuple_int _ _ p hu0, .tuple_int _ _ p hu0⟩
   | @tup c ys zs g ks=>
    cases(show v=a_ c from rv);obtain⟨its2,q2,p2,_⟩:=I.tuple (.of g);obtain⟨h1,h2⟩:=items hs ks q1 q2 h;have rc:eP A s (.ref a) (.ref c) b:=by
     have:=eP.tuples p p2 hu0 h1;rw[h2]at this;exact this
    have rn:eZ A s (.ref a) (.ref c) (!b):=by
     have:=eZ.tuples p p2 hu0 h1;rw[h2]at this;exact this
    refine⟨?_,rc,rn⟩;by_cases e:a=c
    ·subst e;have:=ziV I (n+1) (.tup f hs) (.tup g ks) hS h;rw[this];exact .same _
    ·exact .of_refs e rc
   |_=>cases h
  |ref a=>
   cases(show u=a_ a from ru);cases ry with
   |ref c=>
    cases(show v=a_ c from rv);have h':(match S a with
     |some (.lst xs)=>match S c with
      |some (.lst ys)=>zed (eqF S n) xs ys
      |_=>none
     |_=>none)=ae b:=h
    cases e:S a with
    |none=>rw[e]at h';cases h'
    |some o=>
     rw[e]at h';cases o with
     |dct _=>cases h'
     |dk _=>cases h'
     |ins _ _=>cases h'
     |lst ws=>
      cases e2:S c with
      |none=>rw[e2]at h';cases h'
      |some o2=>
       rw[e2]at h';cases o2 with
       |dct _=>cases h'
       |dk _=>cases h'
       |ins _ _=>cases h'
       |lst zs=>
        obtain⟨xs,f,hs⟩:=hS a _ e;obtain⟨ys,g,ks⟩:=hS c _ e2;obtain⟨its,q1,p,_⟩:=I.list (.of f);obtain⟨its2,q2,p2,_⟩:=I.list (.of g);obtain⟨h1,h2⟩:=items hs ks q1 q2 h';have both:eP A s (.ref a) (.ref c) b∧eZ A s (.ref a) (.ref c) (!b):=by
         by_cases hz:its.toArray.size=its2.toArray.size
         ·have t1:=eP.lists p.isList p2.isList hz hu0 h1;have t2:=eZ.lists p.isList p2.isList hz hu0 h1;rw[←hz,Nat.min_self,beq_self_eq_true,Bool.and_true]at h2;rw[h2]at t1 t2;exact⟨t1,t2⟩
         ·have hz':(its.toArray.size != its2.toArray.size)=true:=by simpa using hz
          have hz2:(its.toArray.size == its2.toArray.size)=false:=by simpa using hz
          rw[hz2,fJ]at h2;subst h2;exact⟨.lists_lengths p.isList p2.isList hz' hu0, .lists_lengths p.isList p2.isList hz' hu0⟩
        refine⟨?_,both.1,both.2⟩;by_cases ee:a=c
        ·subst ee;have:=ziV I (n+1) (.ref a) (.ref a) hS h;rw[this];exact .same _
        ·exact .of_refs ee both.1
   |_=>cases h
  |scr f=>cases ry<;>cases h
end
noncomputable def oEq (neg:Bool):W2:=λx y S Q=>match eqF S 60 x y with
 |some b=>Q (.bl (if neg then !b else b)) S
 |none=>False
noncomputable def zyX (K:aj) (neg:Bool):R2:=λx y H Q=>∃wx wy S b,Rep K H wx x∧Rep K H wy y∧RepS K H S∧eqF S 60 wx wy=ae b∧Q (.bl (if neg then !b else b)) H
section
variable {X:Cx}
theorem ztk (hu:X.A.units+60<cLine):OpR X (bG .Eq) (zyX X.K false):=by
 intro pins s σ H x y v u Q I rx ry h;obtain⟨wx,wy,S,b,r1,r2,hS,e,q⟩:=h;exact(zno I hS 60 hu r1 r2 rx ry e).2.1 _ _ _ _ ⟨.bl b,H,I,rfl,q⟩
theorem zxp (hu:X.A.units+60<cLine):OpR X (bG .NotEq) (zyX X.K true):=by
 intro pins s σ H x y v u Q I rx ry h;obtain⟨wx,wy,S,b,r1,r2,hS,e,q⟩:=h;exact(zno I hS 60 hu r1 r2 rx ry e).2.2 _ _ _ _ ⟨.bl (!b),H,I,rfl,q⟩
theorem zoZ{K:aj}{neg:Bool}:OpW K (zyX K neg) (oEq neg):=λH x y wx wy S Q QW rx ry hS h hQ=>by
 unfold oEq at h;split at h
 ·rename_i b e;exact⟨wx,wy,S,b,rx,ry,hS,e,hQ _ S _ H .refl (.bl _) hS h⟩
 ·exact h.elim
variable {a b:Expr}{pos:aC}{ta tb:WE}
theorem znN{k:Nat}(hr:Room k X.A) (ha:JE X a ta) (hb:JE X b tb):JE X (.Compare a [.Eq] [b] pos) (wOp (oEq false) ta tb):=zwf (ztk (by have:=hr.units;omega)) zoZ ha hb (nomark b)
theorem zdV{k:Nat}(hr:Room k X.A) (ha:JE X a ta) (hb:JE X b tb):JT X (.Compare a [.Eq] [b] pos) (wTb (wOp (oEq false) ta tb)):=zfG (ztk (by have:=hr.units;omega)) zoZ ha hb (nomark b)
theorem zfM{k:Nat}(hr:Room k X.A) (ha:JE X a ta) (hb:JE X b tb):JT X (.Compare a [.NotEq] [b] pos) (wTb (wOp (oEq true) ta tb)):=zfG (zxp (by have:=hr.units;omega)) zoZ ha hb (nomark b)
noncomputable abbrev oLt:W2:=zeM λi j=> .bl (decide (i<j))
noncomputable abbrev oGt:W2:=zeM λi j=> .bl (decide (j<i))
noncomputable abbrev oGe:W2:=zeM λi j=> .bl (decide (j≤i))
noncomputable def oLe:W2
 | .int i, .int j,S,Q=>Q (.bl (decide (i≤j))) S
 | .str i, .str j,S,Q=>Q (.bl (!decide (j.cps.toList<i.cps.toList))) S
 |_,_,_,_=>False
theorem zoM (ha:JE X a ta) (hb:JE X b tb):JT X (.Compare a [.Lt] [b] pos) (wTb (wOp oLt ta tb)):=zfG zyO ziU ha hb (nomark b)
theorem zlp (ha:JE X a ta) (hb:JE X b tb):JT X (.Compare a [.Gt] [b] pos) (wTb (wOp oGt ta tb)):=zfG zyP ziU ha hb (nomark b)
theorem zyG (ha:JE X a ta) (hb:JE X b tb):JT X (.Compare a [.GtE] [b] pos) (wTb (wOp oGe ta tb)):=zfG zzt ziU ha hb (nomark b)
noncomputable def oIs (neg:Bool):W2
 | .non, .non,S,Q=>Q (.bl (!neg)) S
 | .bl a, .bl b,S,Q=>Q (.bl (if neg then a != b else a == b)) S
 | .bl _, .non,S,Q=>Q (.bl neg) S
 | .int _, .non,S,Q=>Q (.bl neg) S
 | .str _, .non,S,Q=>Q (.bl neg) S
 | .tup _, .non,S,Q=>Q (.bl neg) S
 | .ref _, .non,S,Q=>Q (.bl neg) S
 |_,_,_,_=>False
theorem zwX:OpR X (bG .Is) (λx y H Q=>(y= .non∧Q (.bl (decide (x= .non))) H)∨ ∃a b,x= .bl a∧y= .bl b∧Q (.bl (a == b)) H):=op_isN.or (by
 intro pins s σ H x y v u Q I rx ry h;obtain⟨a,b,rfl,rfl,q⟩:=h;cases rx;cases ry;exact is_bool ⟨.bl _,H,I,rfl,q⟩)
theorem zpG:OpR X (bG .IsNot) (λx y H Q=>(y= .non∧Q (.bl (!decide (x= .non))) H)∨ ∃a b,x= .bl a∧y= .bl b∧Q (.bl (a != b)) H):=op_notN.or (by
 intro pins s σ H x y v u Q I rx ry h;obtain⟨a,b,rfl,rfl,q⟩:=h;cases rx;cases ry;exact isnot_bool ⟨.bl _,H,I,rfl,q⟩)
theorem zwR{K:aj}:OpW K (λx y H Q=>(y= .non∧Q (.bl (decide (x= .non))) H)∨ ∃a b,x= .bl a∧y= .bl b∧Q (.bl (a == b)) H) (oIs false):=λH x y wx wy S Q QW rx ry hS h hQ=>by
 cases ry with
 |non=>cases rx<;>first |exact .inl ⟨rfl,by simpa using hQ _ S _ H .refl (.bl _) hS h⟩ |exact h.elim
 |bl b=>
  cases rx with
  |bl a=>exact .inr ⟨a,b,rfl,rfl,hQ _ S _ H .refl (.bl _) hS h⟩
  |_=>exact h.elim
 |_=>cases rx<;>exact h.elim
theorem zoV{K:aj}:OpW K (λx y H Q=>(y= .non∧Q (.bl (!decide (x= .non))) H)∨ ∃a b,x= .bl a∧y= .bl b∧Q (.bl (a != b)) H) (oIs true):=λH x y wx wy S Q QW rx ry hS h hQ=>by
 cases ry with
 |non=>cases rx<;>first |exact .inl ⟨rfl,by simpa using hQ _ S _ H .refl (.bl _) hS h⟩ |exact h.elim
 |bl b=>
  cases rx with
  |bl a=>exact .inr ⟨a,b,rfl,rfl,hQ _ S _ H .refl (.bl _) hS h⟩
  |_=>exact h.elim
 |_=>cases rx<;>exact h.elim
theorem zka (ha:JE X a ta) (hb:JE X b tb):JT X (.Compare a [.Is] [b] pos) (wTb (wOp (oIs false) ta tb)):=zfG zwX zwR ha hb (nomark b)
theorem zgJ (ha:JE X a ta) (hb:JE X b tb):JT X (.Compare a [.IsNot] [b] pos) (wTb (wOp (oIs true) ta tb)):=zfG zpG zoV ha hb (nomark b)
end
noncomputable def inF (S:Sto) (x:W):List W→Option Bool
 | []=>ae false
 |w::ws=>match eqF S 59 w x with
  |some a=>match inF S x ws with
   |some b=>ae (a || b)
   |none=>none
  |none=>none
section
variable {X:Cx}{pins:List (Addr×Obj)}{σ:St}{H:Hp}{s:ah}{S:Sto}
theorem zlq (I:Inv X pins σ H s) (hS:RepS X.K H S):∀(n:Nat) {w w' u:W}{v:V}{b b':Bool},Rep X.K H w v→Rep X.K H w' v→eqF S n w u=ae b→eqF S n w' u=ae b'→b=b'
 |0,_,_,_,_,_,_,_,_,h,_=>by cases h
 |n+1,w,w',u,v,b,b',r,r',h,h'=>by
  have list:∀{us ws zs:List W}{vs:List V}{b b':Bool},Reps X.K H ws vs→Reps X.K H zs vs→zed (eqF S n) ws us=ae b→zed (eqF S n) zs us=ae b'→b=b':=by
   intro us
   induction us with
   |nil=>
    intro ws zs vs b b' r1 r2 e1 e2;cases r1 with
    |nil=>cases r2;rw[e1]at e2;exact aG e2
    |cons _ _=>cases r2 with
     |cons _ _=>have:=aG e1;have:=aG e2;subst_vars;rfl
   |cons u us ih=>
    intro ws zs vs b b' r1 r2 e1 e2;cases r1 with
    |nil=>cases r2;rw[e1]at e2;exact aG e2
    |cons a1 a2=>
     cases r2 with
     |cons c1 c2=>
      unfold zed at e1 e2;split at e1
      ·rename_i p q f1 f2;split at e2
       ·rename_i p' q' g1 g2;have h1:=zlq I hS n a1 c1 f1 g1;have h2:=ih a2 c2 f2 g2;rw[←aG e1,←aG e2,h1,h2]
       ·cases e2
      ·cases e1
  have nolist:∀{a:Addr}{vs:List V}{ws:List W},H a=ae (.tup vs)→S a=ae (.lst ws)→False:=λf e=>by
   obtain⟨_,g,_⟩:=hS _ _ e;rw[f]at g;cases g
  cases r with
  |non=>cases r';rw[h]at h';exact aG h'
  |bl k=>cases r';rw[h]at h';exact aG h'
  |int k=>cases r';rw[h]at h';exact aG h'
  |str k=>cases r';rw[h]at h';exact aG h'
  |scr f=>cases u<;>cases h
  | @tup a vs ws f hs=>
   cases r' with
   | @tup _ us zs g ks=>
    rw[f]at g;cases g;cases u with
    |tup us=>exact list hs ks h h'
    |int _=>have:=aG h;have:=aG h';subst_vars;rfl
    |_=>cases h
   |scr _=>cases u<;>cases h'
   |ref _=>
    exfalso;cases u with
    |ref c=>
     have h2:(match S a with
      |some (.lst xs)=>match S c with
       |some (.lst ys)=>zed (eqF S n) xs ys
       |_=>none
      |_=>none)=ae b':=h'
     split at h2
     ·exact nolist f ‹_›
     ·cases h2
    |_=>cases h'
  |ref a=>
   cases r' with
   |ref _=>rw[h]at h';exact aG h'
   |scr _=>cases u<;>cases h'
   |tup f hs=>
    exfalso;cases u with
    |ref c=>
     have h2:(match S a with
      |some (.lst xs)=>match S c with
       |some (.lst ys)=>zed (eqF S n) xs ys
       |_=>none
      |_=>none)=ae b:=h
     split at h2
     ·exact nolist f ‹_›
     ·cases h2
    |_=>cases h
open Classical in
theorem zsM (I:Inv X pins σ H s) (hS:RepS X.K H S) {A:aM}{ws:List W}{vs:List V}{us:List Value}{wx:W}{x:V}{u:Value}{b:Bool}(hu:A.units+60<cLine) (r:Reps X.K H ws vs) (rv:Vals vs us) (rx:Rep X.K H wx x) (ru:RelV x u) (h:inF S wx ws=ae b) :
  ∃e:Value→Bool,(∀y,y∈us.toArray→dW A.in1 s y u (e y))∧us.toArray.any e=b:=by
 refine⟨λy=>decide (∃w v,Rep X.K H w v∧RelV v y∧eqF S 59 w wx=ae true),?_,?_⟩
 ·have go:∀{ws:List W}{vs:List V}{us:List Value}{b:Bool},Reps X.K H ws vs→Vals vs us→inF S wx ws=ae b→ ∀y∈us,dW A.in1 s y u (decide (∃w v,Rep X.K H w v∧RelV v y∧eqF S 59 w wx=ae true)):=by
   intro ws
   induction ws with
   |nil=>intro vs us b r rv h y hy;cases r;cases rv;cases hy
   |cons w ws ih=>
    intro vs us b r rv h y hy;cases r with
    |cons r1 r2=>
     cases rv with
     |cons q1 q2=>
      unfold inF at h;split at h
      ·rename_i c e1;split at h
       ·rename_i d e2;rcases az.mp hy with rfl |hy
        ·have ok:=(zno I hS 59 (A:=A.in1) (by rw[zkB];omega) r1 rx q1 ru e1).1;have ec:c=decide (∃w v,Rep X.K H w v∧RelV v y∧eqF S 59 w wx=ae true):=by
          cases c with
          |true=>exact(decide_eq_true ⟨w,_,r1,q1,e1⟩).symm
          |false=>
           symm;refine decide_eq_false λ⟨w',v',r',q',e'⟩=>?_;have:=RelV.inj q' q1;subst this;exact absurd (zlq I hS 59 r1 r' e1 e') (by simp)
         rw[←ec];exact ok
        ·exact ih r2 q2 e2 y hy
       ·cases h
      ·cases h
  intro y hy;exact go r rv h y (by simpa using hy)
 ·have go:∀{ws:List W}{vs:List V}{us:List Value}{b:Bool},Reps X.K H ws vs→Vals vs us→inF S wx ws=ae b→us.any (λy=>decide (∃w v,Rep X.K H w v∧RelV v y∧eqF S 59 w wx=ae true))=b:=by
   intro ws
   induction ws with
   |nil=>intro vs us b r rv h;cases r;cases rv;exact aG h
   |cons w ws ih=>
    intro vs us b r rv h;cases r with
    |cons r1 r2=>
     cases rv with
     | @cons _ _ _ _ q1 q2=>
      rename_i y _;unfold inF at h;split at h
      ·rename_i c e1;split at h
       ·rename_i d e2;have ec:decide (∃w v,Rep X.K H w v∧RelV v y∧eqF S 59 w wx=ae true)=c:=by
          cases c with
          |true=>exact decide_eq_true ⟨w,_,r1,q1,e1⟩
          |false=>
           refine decide_eq_false λ⟨w',v',r',q',e'⟩=>?_;have:=RelV.inj q' q1;subst this;exact absurd (zlq I hS 59 r1 r' e1 e') (by simp)
        rw[cr,ih r2 q2 e2,ec];exact aG h
       ·cases h
      ·cases h
  have:=go r rv h;simpa using this
end
noncomputable def oIn (neg:Bool):W2:=λx y S Q=>match y with
 | .str j=>match x with
  | .str i=>Q (.bl (if neg then !(!(cN j i 0 j.length 1).isEmpty) else !(cN j i 0 j.length 1).isEmpty)) S
  |_=>False
 | .tup ws=>match inF S x ws with
  |some b=>Q (.bl (if neg then !b else b)) S
  |none=>False
 | .ref a=>zcu S a λws=>match inF S x ws with
  |some b=>Q (.bl (if neg then !b else b)) S
  |none=>False
 |_=>False
noncomputable def zzN (K:aj) (neg:Bool):R2:=λx y H Q=>∃wx ws vs S p b,y= .ref p∧(SqL K H p vs∨SqT K H p vs)∧Reps K H ws vs∧Rep K H wx x∧RepS K H S∧inF S wx ws=ae b∧Q (.bl (if neg then !b else b)) H
section
variable {X:Cx}{a b:Expr}{pos:aC}{ta tb:WE}
theorem zqR (hu:X.A.units+60<cLine):OpR X (bG .NotIn) (zzN X.K true):=by
 intro pins s σ H x y v u Q I rx ry h;obtain⟨wx,ws,vs,S,p,b,rfl,hq,rs,r,hS,e,q⟩:=h;cases ry;rcases hq with hq |hq
 ·obtain⟨its,rv,p,_⟩:=I.list hq;obtain⟨f,h1,h2⟩:=zsM I hS hu rs rv r rx e;exact SeqAt.notIn_listAt f p.isList h1 (by rw[h2];exact⟨.bl (!b),H,I,rfl,q⟩)
 ·obtain⟨its,rv,p,_⟩:=I.tuple hq;obtain⟨f,h1,h2⟩:=zsM I hS hu rs rv r rx e;exact SeqAt.notIn_tupleAt f p h1 (by rw[h2];exact⟨.bl (!b),H,I,rfl,q⟩)
theorem znu{K:aj}{neg:Bool}{H:Hp}{x y:V}{wx wy:W}{S:Sto}{Q:VK}{QW:WK}(rx:Rep K H wx x) (ry:Rep K H wy y) (hS:RepS K H S) (h:oIn neg wx wy S QW) (hQ:Wish K H S QW Q) :
  (∃i j,x= .str i∧y= .str j∧Q (.bl (if neg then !(!(cN j i 0 j.length 1).isEmpty) else !(cN j i 0 j.length 1).isEmpty)) H)∨zzN K neg x y H Q:=by
 cases ry with
 |str j=>
  cases rx with
  |str i=>exact .inl ⟨i,j,rfl,rfl,hQ _ S _ H .refl (.bl _) hS h⟩
  |_=>exact h.elim
 |tup f hs=>
  refine .inr ?_;unfold oIn at h;dsimp only at h;split at h
  ·exact⟨wx,_,_,S,_,_,rfl, .inr (.of f),hs,rx,hS, ‹_›,hQ _ S _ H .refl (.bl _) hS h⟩
  ·exact h.elim
 |ref a=>
  refine .inr ?_;obtain⟨ws,e,h⟩:=zbk h;obtain⟨vs,f,hs⟩:=hS a _ e;split at h
  ·exact⟨wx,_,_,S,_,_,rfl, .inl (.of f),hs,rx,hS, ‹_›,hQ _ S _ H .refl (.bl _) hS h⟩
  ·exact h.elim
 |_=>exact h.elim
theorem zsk{k:Nat}(hr:Room k X.A) (ha:JE X a ta) (hb:JE X b tb) (hm:c8 .NotIn b=false:=by with_unfolding_all rfl):JT X (.Compare a [.NotIn] [b] pos) (wTb (wOp (oIn true) ta tb)):=
 zfG (op_notin_str.or (zqR (by have:=hr.units;omega))) (λH x y wx wy S Q QW rx ry hS h hQ=>znu rx ry hS h hQ) ha hb hm
end
noncomputable def oIx:W2:=λx y S Q=>match y with
 | .int i=>match x with
  | .tup ws=>match atI ws i with
   |some w=>Q w S
   |none=>False
  | .ref a=>zcu S a λws=>match atI ws i with
   |some w=>Q w S
   |none=>False
  | .scr ns=>match atI ns i with
   |some n=>Q (.int n) S
   |none=>False
  | .str x=>x.length≤sizeLine∧match atI x.cps.toList i with
   |some c=>Q (.str ⟨#[c]⟩) S
   |none=>False
  |_=>False
 |_=>False
theorem zkR{K:aj}{H:Hp}{ws:List W}{vs:List V}{i:Int}{w:W}(r:Reps K H ws vs) (e:atI ws i=ae w):∃v,atI vs i=ae v∧Rep K H w v:=by
 unfold atI at e⊢;rw[←r.length];cases q:ixN ws.length i with
 |none=>rw[q]at e;cases e
 |some j=>rw[q]at e;exact r.get e
theorem zuD{α β:Type}{f:α→β}{xs:List α}{i:Int}{x:α}(e:atI xs i=ae x):atI (xs.map f) i=ae (f x):=by
 unfold atI at e⊢;rw[aq];cases q:ixN xs.length i with
 |none=>rw[q]at e;cases e
 |some j=>
  rw[q]at e;show(xs.map f)[j]? =_;rw[bt,show xs[j]? =ae x from e];rfl
theorem zwE{K:aj}:OpW K (rIx K) oIx:=λH x y wx wy S Q QW rx ry hS h hQ=>by
 cases ry with
 |int i=>
  cases rx with
  |tup f hs=>
   unfold oIx at h;dsimp only at h;split at h
   ·obtain⟨v,ev,r⟩:=zkR hs ‹_›;exact .inr (.inl ⟨_,_,i,v,rfl,rfl, .of f,ev,hQ _ S _ H .refl r hS h⟩)
   ·exact h.elim
  |ref a=>
   obtain⟨ws,e,h⟩:=zbk h;obtain⟨vs,f,hs⟩:=hS a _ e;split at h
   ·obtain⟨v,ev,r⟩:=zkR hs ‹_›;exact .inl ⟨_,_,i,v,rfl,rfl, .of f,ev,hQ _ S _ H .refl r hS h⟩
   ·exact h.elim
  |scr f=>
   unfold oIx at h;dsimp only at h;split at h
   ·exact .inl ⟨_,_,i,_,rfl,rfl,f.sq,zuD ‹_›,hQ _ S _ H .refl (.int _) hS h⟩
   ·exact h.elim
  |str z=>
   unfold oIx at h;dsimp only at h;obtain⟨hz,h⟩:=h;split at h
   ·exact .inr (.inr ⟨z,i,_,rfl,rfl,hz, ‹_›,hQ _ S _ H .refl (.str _) hS h⟩)
   ·exact h.elim
  |_=>exact h.elim
 |_=>exact h.elim
section
variable {X:Cx}{a b e:Expr}{pos p2:aC}{ta tb te:WE}{lo hi:Option Expr}
theorem zaq (ha:JE X a ta) (hb:JE X b tb) (hs:zlm b:=by intro _ _;rfl):JE X (.Subscript a b pos) (wOp oIx ta tb):=λE hE=>
 (zvU zte (ha E hE) (hb E hE) hs).mono λσ H Q h=>zgx h λH2 x y wx wy S QW rx ry hS q hQ=>zwE H2 x y wx wy S Q QW rx ry hS q hQ
abbrev WO:=WX→WSt→Sto→(Option Int→Sto→Prop)→Prop
noncomputable def zyu (K:aj) (t:WSt→Sto→(Option Int→Sto→Prop)→Prop):TO:=λσ H Q=>∃σW S QW,RpSt K H σW σ∧RepS K H S∧t σW S QW∧ ∀b S' H',Ext H S H' S'→RepS K H' S'→QW b S'→Q b H'
def JO (X:Cx) (e:Option Expr) (t:WO):Prop:=∀E,Hook X E→PO X e (zyu X.K (t E))
noncomputable def woN:WO:=λ_ _ S Q=>Q none S
noncomputable def woS (t:WE):WO:=λE σ S Q=>t E σ S λw S1=>match w with
 | .int i=>Q (ae i) S1
 |_=>False
theorem PO.mono{X:Cx}{e:Option Expr}{t t':TO}(h:PO X e t) (q:∀σ H Q,t' σ H Q→t σ H Q):PO X e t':=λpins s σ H Q I z=>h pins s σ H Q I (q σ H Q z)
theorem zaM:JO X none woN:=λE hE=>po_none.mono λσ H Q ⟨σW,S,QW,hσ,hS,ht,hQ⟩=>hQ none S H .refl hS ht
theorem zaI (h:JE X e te):JO X (ae e) (woS te):=λE hE=>(zuF (h E hE)).mono λσ H Q ⟨σW,S,QW,hσ,hS,ht,hQ⟩=>⟨σW,S,_,hσ,hS,ht,λw S1 v H1 e1 r1 hS1 h1=>by
 cases r1 with
 |int i=>exact⟨i,rfl,hQ _ S1 H1 e1 hS1 h1⟩
 |_=>exact h1.elim⟩
noncomputable def zeo {α:Type}(xs:List α) (lo hi:Option Int):List α:=(xs.drop (HT.sIx xs.length 0 lo)).take (HT.sIx xs.length xs.length hi - HT.sIx xs.length 0 lo)
theorem ziB{K:aj}{H:Hp}{ws:List W}{vs:List V}{lo hi:Option Int}(r:Reps K H ws vs):Reps K H (zeo ws lo hi) (zpI vs lo hi):=by
 unfold zeo zpI;rw[r.length];exact(r.drop _).take _
theorem zml{α β:Type}{f:α→β}{xs:List α}{lo hi:Option Int}:zeo (xs.map f) lo hi=(zeo xs lo hi).map f:=by
 unfold zeo;rw[aq,iA,i4]
theorem zeI{prog:aE}{w:aB}{A:aM}{E:Value→ah→Prop}{s:ah}{t sl:Addr}{items:Array Value}{vl vu:Value}{lo hi:Option Int}{Q:Value→ah→Prop}(ht:dR s.heap t items) (hs:s.heap.IsSliceOf sl vl vu .none) (pl:cJ vl lo) (pu:cJ vu hi)
  (hw:HT.sIx items.size 0 lo=0∧HT.sIx items.size items.size hi=items.size) (h:Q (.ref t) s):am (ap prog w) A (dr (.ref t) (.ref sl)) Q E s:=by
 obtain⟨os,hos,hcs,hds⟩:=id hs;have hTs:s.TypeIs (.ref sl) "slice" :=⟨os,hos,hcs⟩;unfold dr
 try with_reducible refine fQ ?_
 first |refine ak (aD ?_) |skip
 refine ak (iC ht.typeIs (by decide) ?_);refine ak (da (name:=bf "__getitem__") ht.typeIs eD
  (dg eD ht.typeIs kA ?_ (ki _ _)))
 show am _ _ (i3 (.ref t) >>= _) _ _ s;refine ak (tupleItemsOf_ ht ?_);refine ak (eJ hTs ?_);rw[if_pos (by decide)];refine ak (HT.sliceApplied_gen hs pl pu ?_);show am _ _ (if(((HT.sIx items.size 0 lo:Nat):Int) == 0&&(1:Int) == 1&&(HT.sIx items.size items.size hi - HT.sIx items.size 0 lo) == items.size)=true then _ else _) _ _ s;rw[hw.1,hw.2,if_pos (by simp)];unfold bV.Tuple.tupleIsExact;refine ak (ak (eJ ht.typeIs (aD ?_)));rw[if_pos (by decide)];exact ak (eF (aD ⟨_,rfl,aD h⟩))
theorem sl_tupW:SlR X (λx lo hi H Q=>∃a xs,x= .ref a∧SqT X.K H a xs∧((HT.sIx xs.length 0 lo=0∧HT.sIx xs.length xs.length hi=xs.length)∧Q (.ref a) H∨ ¬(HT.sIx xs.length 0 lo=0∧HT.sIx xs.length xs.length hi=xs.length)∧ ∀p,H p=none→Q (.ref p) (upd H p (.tup (zpI xs lo hi))))):=by
 intro pins s σ H x v vl vu lo hi sl Q I rx hs pl pu h;obtain⟨a,xs,rfl,hx,⟨hw,q⟩ |⟨hw,q⟩⟩:=h
 ·cases rx;obtain⟨its,r,ht,hz⟩:=I.tuple hx;have hlen:its.toArray.size=xs.length:=by rw[aQ];exact r.length.symm
  refine⟨"tuple",_,eD.lookup,ht.typeIs,?_⟩;exact zeI ht hs pl pu (by rw[hlen];exact hw) ⟨.ref a,H,I,rfl,q⟩
 ·exact zvP pins s σ H _ v vl vu lo hi sl Q I rx hs pl pu ⟨a,xs,rfl,hx,hw,q⟩
noncomputable def oSl:W→Option Int→Option Int→Sto→WK→Prop
 | .tup ws,lo,hi,S,Q=>Q (.tup (zeo ws lo hi)) S
 | .str z,lo,hi,S,Q=>z.length≤sizeLine∧Q (.str (cL z lo hi)) S
 | .ref a,lo,hi,S,Q=>zcu S a λws=>∀p,S p=none→Q (.ref p) (put S p (.lst (zeo ws lo hi)))
 | .scr ns,lo,hi,S,Q=>∀p,S p=none→Q (.ref p) (put S p (.lst ((zeo ns lo hi).map W.int)))
 |_,_,_,_,_=>False
noncomputable def wSl (t:WE) (l h:WO):WE:=λE σ S Q=>t E σ S λx S1=>l E σ S1 λlo S2=>h E σ S2 λhi S3=>oSl x lo hi S3 Q
theorem znV{α:Type}{xs:List α}{lo hi:Option Int}(h:HT.sIx xs.length 0 lo=0∧HT.sIx xs.length xs.length hi=xs.length):zeo xs lo hi=xs:=by
 unfold zeo;rw[h.1,h.2,c6,dP,gx]
theorem zcS{tl th:WO}(he:JE X e te) (hl:JO X lo tl) (hh:JO X hi th):JE X (.Subscript e (.Slice lo hi none p2) pos) (wSl te tl th):=λE hE=>
 (zmb (sl_tupW.or (sl_str.or zpr)) (he E hE) (hl E hE) (hh E hE)).mono λσ H Q ⟨σW,S,QW,hσ,hS,ht,hQ⟩=>
  ⟨σW,S,_,hσ,hS,ht,λw S1 v H1 e1 r1 hS1 h1=>⟨σW,S1,_,hσ.ext e1,hS1,h1,λlo S2 H2 e2 hS2 h2=>⟨σW,S2,_,(hσ.ext e1).ext e2,hS2,h2,λhi S3 H3 e3 hS3 h3=>by
   have hQ':=hQ.from (e1.trans (e2.trans e3));have r3:=(r1.ext e2).ext e3;cases r3 with
   | @tup a vs ws f hs=>
    refine .inl ⟨a,vs,rfl, .of f,?_⟩;by_cases hw:HT.sIx vs.length 0 lo=0∧HT.sIx vs.length vs.length hi=vs.length
    ·refine .inl ⟨hw,hQ' (.tup ws) S3 _ H3 .refl (.tup f hs) hS3 ?_⟩;have:=znV (xs:=ws) (lo:=lo) (hi:=hi) (by rw[hs.length];exact hw);have h3':QW (.tup (zeo ws lo hi)) S3:=h3;rw[this]at h3';exact h3'
    ·exact .inr ⟨hw,λp hp=>hQ' _ S3 _ _ (.new hp) (.tup zay ((ziB hs).ext (.new (S:=S3) hp))) (hS3.new hp) h3⟩
   |str z=>exact .inr (.inl ⟨z,rfl,h3.1,hQ' _ S3 _ H3 .refl (.str _) hS3 h3.2⟩)
   |ref a=>
    obtain⟨ws,ea,h⟩:=zbk h3;obtain⟨vs,f,hs⟩:=hS3 a _ ea;exact .inr (.inr ⟨a,vs,rfl, .of f,λp hp=>hQ' _ _ _ _ (.newS hp) (.ref p) (hS3.put_lst hp ((ziB hs).ext (.new (S:=S3) hp))) (h p (hS3.free hp))⟩)
   | @scr a ns f=>
    refine .inr (.inr ⟨a,_,rfl,f.sq,λp hp=>hQ' _ _ _ _ (.newS hp) (.ref p) (hS3.put_lst hp ?_) (h3 p (hS3.free hp))⟩);have q:zpI (ns.map V.int) lo hi=(zeo ns lo hi).map V.int:=zml;rw[q];exact Reps.ofInts _
   |_=>exact h3.elim⟩⟩⟩
noncomputable def zvu (t:WE) (l h:WO):WL:=λE σ S Q=>t E σ S λx S1=>l E σ S1 λlo S2=>h E σ S2 λhi S3=>match x with
 | .ref a=>zcu S3 a λws=>Q (zeo ws lo hi) S3
 | .scr ns=>Q ((zeo ns lo hi).map W.int) S3
 |_=>False
theorem zvs{tl th:WO}(he:JE X e te) (hl:JO X lo tl) (hh:JO X hi th):JL X (.Subscript e (.Slice lo hi none p2) pos) (zvu te tl th):=λE hE=>
 (zmb zpr (he E hE) (hl E hE) (hh E hE)).mono λσ H Q ⟨σW,S,QW,hσ,hS,ht,hQ⟩=>
  ⟨σW,S,_,hσ,hS,ht,λw S1 v H1 e1 r1 hS1 h1=>⟨σW,S1,_,hσ.ext e1,hS1,h1,λlo S2 H2 e2 hS2 h2=>⟨σW,S2,_,(hσ.ext e1).ext e2,hS2,h2,λhi S3 H3 e3 hS3 h3=>by
   have e':=e1.trans (e2.trans e3);have r3:=(r1.ext e2).ext e3;cases r3 with
   |ref a=>
    obtain⟨ws,ea,h⟩:=zbk h3;obtain⟨vs,f,hs⟩:=hS3 a _ ea;exact⟨a,vs,rfl, .of f,λp hp=>hQ _ S3 _ p _ (e'.trans (.new hp)) (e'.free hp) zay (hS3.free hp) ((ziB hs).ext (.new (S:=S3) hp)) (hS3.new hp) h⟩
   | @scr a ns f=>
    refine⟨a,_,rfl,f.sq,λp hp=>hQ _ S3 _ p _ (e'.trans (.new hp)) (e'.free hp) zay (hS3.free hp) ?_ (hS3.new hp) h3⟩;have q:zpI (ns.map V.int) lo hi=(zeo ns lo hi).map V.int:=zml;rw[q];exact Reps.ofInts _
   |_=>exact h3.elim⟩⟩⟩
end
abbrev WF:=List W→Sto→WK→Prop
noncomputable def wB (f:WF) (t:WA):WE:=λE σ S Q=>t E σ S λws S1=>f ws S1 Q
def zkU (K:aj) (r:List V→Hp→VK→Prop) (f:WF):Prop:=∀H vs ws S (Q:VK) (QW:WK),Reps K H ws vs→RepS K H S→f ws S QW→Wish K H S QW Q→r vs H Q
noncomputable def wBL (f:WF) (t:WL):WE:=λE σ S Q=>t E σ S λws S1=>f ws S1 Q
def zoX (K:aj) (r:List V→Hp→VK→Prop) (f:WF):Prop:=∀H a vs ws S (Q:VK) (QW:WK),H a=ae (.lst vs)→S a=none→Reps K H ws vs→RepS K H S→f ws S QW→Wish K H S QW Q→r [.ref a] H Q
section
variable {X:Cx}{x:Str}{p pos:aC}{e:Expr}{es:List Expr}{t:WA}{tl:WL}{id T:String}{r:List V→Hp→VK→Prop}{f:WF}
theorem zsC (hc:CallR X (.builtin id) r) (hw:zkU X.K r f) (hg:Gl X x) (hm:X.mg x=none) (hv:bQ x=ae (.builtin id)) (ha:JA X (e::es) t) (hn:x≠ "__name__" :=by decide) (hdb:(x == ("__debug__" :Str))=false:=by decide)
  (he:ao (e::es) X.env=(false,ay e X.env)::ao es X.env:=by rfl) (hpl:(aP pos (ao es X.env)).any (·.1)=false:=by rfl):JE X (.Call (.Name x p) (e::es) [] pos) (wB f t):=λE hE=>
 (ziy hc hg hm hv (ha E hE) hn hdb he hpl).mono λσ H Q ⟨σW,S,QW,hσ,hS,ht,hQ⟩=>⟨σW,S,_,hσ,hS,ht,λws S1 vs H1 e1 r1 hS1 h1=>hw H1 vs ws S1 Q QW r1 hS1 h1 (hQ.from e1)⟩
theorem zxm (hc:CallR X (.type T) r) (hw:zkU X.K r f) (hg:Gl X x) (hm:X.mg x=none) (hv:bQ x=ae (.type T)) (ha:JA X (e::es) t) (hn:x≠ "__name__" :=by decide) (hdb:(x == ("__debug__" :Str))=false:=by decide)
  (he:ao (e::es) X.env=(false,ay e X.env)::ao es X.env:=by rfl) (hpl:(aP pos (ao es X.env)).any (·.1)=false:=by rfl):JE X (.Call (.Name x p) (e::es) [] pos) (wB f t):=λE hE=>
 (zgM hc hg hm hv (ha E hE) hn hdb he hpl).mono λσ H Q ⟨σW,S,QW,hσ,hS,ht,hQ⟩=>⟨σW,S,_,hσ,hS,ht,λws S1 vs H1 e1 r1 hS1 h1=>hw H1 vs ws S1 Q QW r1 hS1 h1 (hQ.from e1)⟩
theorem zuC (hc:CallR X (.builtin id) r) (hw:zoX X.K r f) (hg:Gl X x) (hm:X.mg x=none) (hv:bQ x=ae (.builtin id)) (ha:JL X e tl) (hn:x≠ "__name__" :=by decide) (hdb:(x == ("__debug__" :Str))=false:=by decide)
  (he:ao [e] X.env=(false,ay e X.env)::ao [] X.env:=by rfl) (hpl:(aP pos (ao [] X.env)).any (·.1)=false:=by rfl):JE X (.Call (.Name x p) [e] [] pos) (wBL f tl):=λE hE=>
 (ziy hc hg hm hv (zdu (ha E hE) pa_nil he) hn hdb he hpl).mono λσ H Q ⟨σW,S,QW,hσ,hS,ht,hQ⟩=>⟨σW,S,_,hσ,hS,ht,λws S1 vs a H1 e1 fa ea na r1 hS1 h1=>hw H1 a vs ws S1 Q QW ea na r1 hS1 h1 (hQ.from e1)⟩
theorem ztq (hc:CallR X (.type T) r) (hw:zoX X.K r f) (hg:Gl X x) (hm:X.mg x=none) (hv:bQ x=ae (.type T)) (ha:JL X e tl) (hn:x≠ "__name__" :=by decide) (hdb:(x == ("__debug__" :Str))=false:=by decide)
  (he:ao [e] X.env=(false,ay e X.env)::ao [] X.env:=by rfl) (hpl:(aP pos (ao [] X.env)).any (·.1)=false:=by rfl):JE X (.Call (.Name x p) [e] [] pos) (wBL f tl):=λE hE=>
 (zgM hc hg hm hv (zdu (ha E hE) pa_nil he) hn hdb he hpl).mono λσ H Q ⟨σW,S,QW,hσ,hS,ht,hQ⟩=>⟨σW,S,_,hσ,hS,ht,λws S1 vs a H1 e1 fa ea na r1 hS1 h1=>hw H1 a vs ws S1 Q QW ea na r1 hS1 h1 (hQ.from e1)⟩
noncomputable def zeq:WF:=λws S Q=>match ws with
 | [.tup us]=>Q (.int us.length) S
 | [.ref a]=>zcu S a λus=>Q (.int us.length) S
 | [.scr ns]=>Q (.int ns.length) S
 | [.str z]=>z.length≤sizeLine∧Q (.int z.length) S
 |_=>False
theorem zpS{K:aj}:zkU K (λxs H Q=>(∃p ys,xs=[.ref p]∧(SqL K H p ys∨SqT K H p ys)∧Q (.int ys.length) H)∨ ∃z,xs=[.str z]∧z.length≤sizeLine∧Q (.int z.length) H) zeq:=λH vs ws S Q QW r hS h hQ=>by
 cases r with
 |nil=>exact h.elim
 |cons r1 r2=>
  cases r2 with
  |cons _ _=>cases r1<;>exact h.elim
  |nil=>
   cases r1 with
   |tup f hs=>exact .inl ⟨_,_,rfl, .inr (.of f),by rw[←hs.length];exact hQ _ S _ H .refl (.int _) hS h⟩
   |ref a=>
    obtain⟨us,e,h⟩:=zbk h;obtain⟨vs,f,hs⟩:=hS a _ e;exact .inl ⟨_,_,rfl, .inl (.of f),by rw[←hs.length];exact hQ _ S _ H .refl (.int _) hS h⟩
   |scr f=>exact .inl ⟨_,_,rfl, .inl f.sq,by rw[aq];exact hQ _ S _ H .refl (.int _) hS h⟩
   |str z=>exact .inr ⟨z,rfl,h.1,hQ _ S _ H .refl (.int _) hS h.2⟩
   |_=>exact h.elim
theorem zbw (hg:Gl X "len") (hm:X.mg "len" =none) (ha:JA X (e::es) t) 
  (he:ao (e::es) X.env=(false,ay e X.env)::ao es X.env:=by rfl) (hpl:(aP pos (ao es X.env)).any (·.1)=false:=by rfl):JE X (.Call (.Name "len" p) (e::es) [] pos) (wB zeq t):=
 zsC (call_len_seq.or zjG) zpS hg hm PySem.boot_len ha (by decide) (by decide) he hpl
noncomputable def zdp:WF:=λws S Q=>match ws with
 | [.tup us]=>Q (.tup us) S
 | [.ref a]=>zcu S a λus=>Q (.tup us) S
 |_=>False
theorem zlr{K:aj}:zkU K (λxs H Q=>∃p ys,xs=[.ref p]∧((SqL K H p ys∧ ∀l,H l=none→Q (.ref l) (upd H l (.tup ys)))∨(SqT K H p ys∧Q (.ref p) H))) zdp:=λH vs ws S Q QW r hS h hQ=>by
 cases r with
 |nil=>exact h.elim
 |cons r1 r2=>
  cases r2 with
  |cons _ _=>cases r1<;>exact h.elim
  |nil=>
   cases r1 with
   |tup f hs=>exact⟨_,_,rfl, .inr ⟨.of f,hQ _ S _ H .refl (.tup f hs) hS h⟩⟩
   |ref a=>
    obtain⟨us,e,h⟩:=zbk h;obtain⟨vs,f,hs⟩:=hS a _ e;exact⟨_,_,rfl, .inl ⟨.of f,λl hl=>hQ _ S _ _ (.new hl) (.tup zay (hs.ext (.new (S:=S) hl))) (hS.new hl) h⟩⟩
   |_=>exact h.elim
noncomputable def zhD:WF:=λws S Q=>Q (.tup ws) S
theorem zlh{K:aj}:zoX K (λxs H Q=>∃p ys,xs=[.ref p]∧((SqL K H p ys∧ ∀l,H l=none→Q (.ref l) (upd H l (.tup ys)))∨(SqT K H p ys∧Q (.ref p) H))) zhD:=λH a vs ws S Q QW ea na r hS h hQ=>
 ⟨a,vs,rfl, .inl ⟨.of ea,λl hl=>hQ _ S _ _ (.new hl) (.tup zay (r.ext (.new (S:=S) hl))) (hS.new hl) h⟩⟩
noncomputable def zhA (t:WE):WL:=λE σ S Q=>t E σ S λw S1=>match w with
 | .tup ws=>Q ws S1
 | .ref a=>zcu S1 a λws=>Q ws S1
 | .scr ns=>Q (ns.map W.int) S1
 |_=>False
theorem zld{te:WE}(hg:Gl X "list") (hm:X.mg "list" =none) (ha:JE X e te)
  (he:ao [e] X.env=(false,ay e X.env)::ao [] X.env:=by rfl) (hpl:(aP pos (ao [] X.env)).any (·.1)=false:=by rfl):JL X (.Call (.Name "list" p) [e] [] pos) (zhA te):=λE hE=>
 (zgM zkq hg hm ko (zdu (ha E hE) pa_nil he) (by decide) (by decide) he hpl).mono λσ H Q ⟨σW,S,QW,hσ,hS,ht,hQ⟩=>⟨σW,S,_,hσ,hS,ht,λw S1 v H1 e1 r1 hS1 h1=>by
  cases r1 with
  |tup f hs=>exact⟨_,_,rfl, .inr (.of f),λl hl=>hQ _ S1 _ l _ (e1.trans (.new hl)) (e1.free hl) zay (hS1.free hl) (hs.ext (.new (S:=S1) hl)) (hS1.new hl) h1⟩
  |ref a=>
   obtain⟨ws,ea,h⟩:=zbk h1;obtain⟨vs,f,hs⟩:=hS1 a _ ea;exact⟨_,_,rfl, .inl (.of f),λl hl=>hQ _ S1 _ l _ (e1.trans (.new hl)) (e1.free hl) zay (hS1.free hl) (hs.ext (.new (S:=S1) hl)) (hS1.new hl) h⟩
  |scr f=>exact⟨_,_,rfl, .inl f.sq,λl hl=>hQ _ S1 _ l _ (e1.trans (.new hl)) (e1.free hl) zay (hS1.free hl) (Reps.ofInts _) (hS1.new hl) h1⟩
  |_=>exact h1.elim⟩
noncomputable def tyW:W→Sto→(String→Prop)→Prop
 | .non,_,Q=>Q "NoneType"
 | .bl _,_,Q=>Q "bool"
 | .int _,_,Q=>Q "int"
 | .str _,_,Q=>Q "str"
 | .tup _,_,Q=>Q "tuple"
 | .ref a,S,Q=>zcu S a λ_=>Q "list"
 | .scr _,_,_=>False
noncomputable def zcd (A B:String):Bool:=A == B || (A == "bool" &&B == "int")
noncomputable def zoh (T:String) (t:WE):WE:=λE σ S Q=>t E σ S λw S1=>tyW w S1 λA=>Q (.bl (zcd A T)) S1
theorem zeA{a:Expr}{ta:WE}{p2:aC}{T:Str}{T':String}(hg:Gl X "isinstance") (hm:X.mg "isinstance" =none) (hgT:Gl X T) (hmT:X.mg T=none) (hv:bQ T=ae (.type T')) (ha:JE X a ta) (hn:T≠ "__name__") (hd:(T == ("__debug__" :Str))=false)
  (hk:∀A∈ ["NoneType", "bool", "int", "str", "tuple", "list"],eM X.K (.type A) (.type T')=ae (zcd A T'))
  (he:ao [a, .Name T p2] X.env=(false,ay a X.env)::ao [.Name T p2] X.env:=by rfl) (he2:ao [.Name T p2] X.env=(false,ay (.Name T p2) X.env)::ao [] X.env:=by rfl) (hpl:(aP pos (ao [.Name T p2] X.env)).any (·.1)=false:=by rfl) :
  JE X (.Call (.Name "isinstance" p) [a, .Name T p2] [] pos) (zoh T' ta):=λE hE=>
 (ziy zso hg hm PyProof.Rows.boot_isinstance (zdu (ha E hE) (zdu (zuK (v:= .ty T') hgT hmT hv rfl hn hd) pa_nil he2) he) (by decide) (by decide) he hpl).mono λσ H Q ⟨σW,S,QW,hσ,hS,ht,hQ⟩=>⟨σW,S,_,hσ,hS,ht,λw S1 v H1 e1 r1 hS1 h1=>by
  have fin:∀{t:Value}(A:String),t= .type A→A∈ ["NoneType", "bool", "int", "str", "tuple", "list"]→TyOf X.K H1 v t→QW (.bl (zcd A T')) S1→ ∃x t c b,[v,V.ty T']=[x, .ty c]∧TyOf X.K H1 x t∧eM X.K t (.type c)=ae b∧Q (.bl b) H1:=λA e hA ty q=>by
   subst e;exact⟨v,_,T',_,rfl,ty,hk A hA,hQ _ S1 _ H1 e1 (.bl _) hS1 q⟩
  cases r1 with
  |non=>exact fin _ rfl (by simp) .non h1
  |bl b=>exact fin _ rfl (by simp) (.bl b) h1
  |int i=>exact fin _ rfl (by simp) (.int i) h1
  |str z=>exact fin _ rfl (by simp) (.str z) h1
  |tup f hs=>exact fin _ rfl (by simp) (.tup f) h1
  |ref a=>
   obtain⟨ws,ea,h⟩:=zbk h1;obtain⟨vs,f,hs⟩:=hS1 a _ ea;exact fin _ rfl (by simp) (.lst f) h
  |scr f=>exact h1.elim⟩
end
abbrev WMf:=W→List W→Sto→WK→Prop
noncomputable def rvL:W→Sto→Prop
 | .ref a,S=>zcu S a λ_=>True
 |_,_=>False
noncomputable def rvS:W→Sto→Prop
 | .str _,_=>True
 |_,_=>False
noncomputable def wM (rv:W→Sto→Prop) (f:WMf) (to:WE) (t:WA):WE:=λE σ S Q=>to E σ S λw S1=>rv w S1∧t E σ S1 λws S2=>f w ws S2 Q
noncomputable def wML (rv:W→Sto→Prop) (f:WMf) (to:WE) (t:WL):WE:=λE σ S Q=>to E σ S λw S1=>rv w S1∧t E σ S1 λws S2=>f w ws S2 Q
def MtW (K:aj) (r:V→List V→Hp→VK→Prop) (f:WMf):Prop:=∀H x w vs ws S (Q:VK) (QW:WK),Rep K H w x→Reps K H ws vs→RepS K H S→f w ws S QW→Wish K H S QW Q→r x vs H Q
def MtL (K:aj) (r:V→List V→Hp→VK→Prop) (f:WMf):Prop:=∀H x w a vs ws S (Q:VK) (QW:WK),Rep K H w x→H a=ae (.lst vs)→S a=none→Reps K H ws vs→RepS K H S→f w ws S QW→Wish K H S QW Q→r x [.ref a] H Q
def zwe (K:aj) (T:String) (rv:W→Sto→Prop):Prop:=∀H w v S,Rep K H w v→RepS K H S→rv w S→tyV K T v H
theorem zsE{K:aj}:zwe K "list" rvL:=λH w v S r hS h=>by
 cases r with
 |ref a=>
  obtain⟨ws,e,_⟩:=zbk h;obtain⟨vs,f,_⟩:=hS a _ e;exact .inl ⟨rfl,vs, .of f⟩
 |_=>exact h.elim
theorem zsT{K:aj}:zwe K "str" rvS:=λH w v S r hS h=>by
 cases r with
 |str x=>exact rfl
 |_=>exact h.elim
section
variable {X:Cx}{o e:Expr}{es:List Expr}{to:WE}{t:WA}{tl:WL}{name:Str}{apos cpos:aC}{id T:String}{r:V→List V→Hp→VK→Prop}{f:WMf}{rv:W→Sto→Prop}
theorem zzQ (pa:eW T) (slot:Slot T name id) (hty:eS (.builtin id)=pure (.type "method_descriptor")) (hrv:zwe X.K T rv) (hm:MtR X id r) (hw:MtW X.K r f) (ho:JE X o to) (ha:JA X (e::es) t)
  (hbase:cF o name X.env (ay o X.env)=ay o X.env:=by rfl)
  (hfew:((aP cpos (ao (e::es) X.env)).all (λx=> !x.1)&&(dD cpos (dn [] X.env)).all (λx=>x.1.isSome)
   &&decide ((e::es).length+([]:List bO).length+(if([]:List bO).isEmpty then 0 else 1)<30))=true:=by rfl)
  (hline:(apos.endLine == cpos.line)=true:=by rfl) (hs:ao (e::es) X.env=(false,ay e X.env)::ao es X.env:=by rfl) (hplain:(aP cpos (ao es X.env)).any (·.1)=false:=by rfl) :
  JE X (.Call (.Attribute o name apos) (e::es) [] cpos) (wM rv f to t):=λE hE=>
 (zwa pa slot hty hm (ho E hE) (ha E hE) hbase hfew hline hs hplain).mono λσ H Q ⟨σW,S,QW,hσ,hS,ht,hQ⟩=>⟨σW,S,_,hσ,hS,ht,λw S1 v H1 e1 r1 hS1 h1=>
  ⟨hrv H1 w v S1 r1 hS1 h1.1,σW,S1,_,hσ.ext e1,hS1,h1.2,λws S2 vs H2 e2 r2 hS2 h2=>hw H2 v w vs ws S2 Q QW (r1.ext e2) r2 hS2 h2 (hQ.from (e1.trans e2))⟩⟩
theorem zyN (pa:eW T) (slot:Slot T name id) (hty:eS (.builtin id)=pure (.type "method_descriptor")) (hrv:zwe X.K T rv) (hm:MtR X id r) (hw:MtL X.K r f) (ho:JE X o to) (ha:JL X e tl)
  (hbase:cF o name X.env (ay o X.env)=ay o X.env:=by rfl)
  (hfew:((aP cpos (ao [e] X.env)).all (λx=> !x.1)&&(dD cpos (dn [] X.env)).all (λx=>x.1.isSome)
   &&decide ([e].length+([]:List bO).length+(if([]:List bO).isEmpty then 0 else 1)<30))=true:=by rfl)
  (hline:(apos.endLine == cpos.line)=true:=by rfl) (hs:ao [e] X.env=(false,ay e X.env)::ao [] X.env:=by rfl) (hplain:(aP cpos (ao [] X.env)).any (·.1)=false:=by rfl) :
  JE X (.Call (.Attribute o name apos) [e] [] cpos) (wML rv f to tl):=λE hE=>
 (zwa pa slot hty hm (ho E hE) (zdu (ha E hE) pa_nil hs) hbase hfew hline hs hplain).mono λσ H Q ⟨σW,S,QW,hσ,hS,ht,hQ⟩=>⟨σW,S,_,hσ,hS,ht,λw S1 v H1 e1 r1 hS1 h1=>
  ⟨hrv H1 w v S1 r1 hS1 h1.1,σW,S1,_,hσ.ext e1,hS1,h1.2,λws S2 vs a H2 e2 fa ea na r2 hS2 h2=>hw H2 v w a vs ws S2 Q QW (r1.ext e2) ea na r2 hS2 h2 (hQ.from (e1.trans e2))⟩⟩
theorem zyz (pa:eW T) (slot:Slot T name id) (hty:eS (.builtin id)=pure (.type "method_descriptor")) (hrv:zwe X.K T rv) (hm:MtR X id r) (hw:MtW X.K r f) (ho:JE X o to)
  (hbase:cF o name X.env (ay o X.env)=ay o X.env:=by rfl) (hline:(apos.endLine == cpos.line)=true:=by rfl):JE X (.Call (.Attribute o name apos) [] [] cpos) (wM rv f to waNil):=λE hE=>
 (zxD pa slot hty hm (ho E hE) hbase hline).mono λσ H Q ⟨σW,S,QW,hσ,hS,ht,hQ⟩=>⟨σW,S,_,hσ,hS,ht,λw S1 v H1 e1 r1 hS1 h1=>
  ⟨hrv H1 w v S1 r1 hS1 h1.1,hw H1 v w [] [] S1 Q QW r1 .nil hS1 h1.2 (hQ.from e1)⟩⟩
noncomputable def zbW:WMf:=λw ws S Q=>match w with
 | .ref a=>zcu S a λxs=>match ws with
  | [y]=>xs.length<sizeLine∧Q .non (put S a (.lst (xs++[y])))
  |_=>False
 |_=>False
theorem znG{K:aj}:MtW K zpp zbW:=λH x w vs ws S Q QW r rs hS h hQ=>by
 cases r with
 |ref a=>
  obtain⟨xs,ea,h⟩:=zbk h;obtain⟨us,f,hs⟩:=hS a _ ea;cases rs with
  |nil=>exact h.elim
  |cons r1 r2=>
   cases r2 with
   |cons _ _=>exact h.elim
   |nil=>
    obtain⟨e,hS'⟩:=hS.set_lst ea (hs.append (.one r1));exact⟨a,us,_,rfl,rfl,f,by rw[←hs.length];exact h.1,hQ _ _ _ _ e .non hS' h.2⟩
 |_=>exact h.elim
theorem zbr (ho:JE X o to) (ha:JA X (e::es) t)
  (hbase:cF o "append" X.env (ay o X.env)=ay o X.env:=by rfl)
  (hfew:((aP cpos (ao (e::es) X.env)).all (λx=> !x.1)&&(dD cpos (dn [] X.env)).all (λx=>x.1.isSome)
   &&decide ((e::es).length+([]:List bO).length+(if([]:List bO).isEmpty then 0 else 1)<30))=true:=by rfl)
  (hline:(apos.endLine == cpos.line)=true:=by rfl) (hs:ao (e::es) X.env=(false,ay e X.env)::ao es X.env:=by rfl) (hplain:(aP cpos (ao es X.env)).any (·.1)=false:=by rfl) :
  JE X (.Call (.Attribute o "append" apos) (e::es) [] cpos) (wM rvL zbW to t):=zzQ iO PySem.F.slot_list_append PySem.F.type_list_append zsE zjM znG ho ha hbase hfew hline hs hplain
noncomputable def zAp:WMf:=λw ws S Q=>match w with
 | .ref a=>zcu S a λxs=>match ws with
  | []=>match xs[xs.length - 1]? with
   |some y=>Q y (put S a (.lst xs.dropLast))
   |none=>False
  |_=>False
 |_=>False
noncomputable def zgY:WMf:=λw ws S Q=>match w with
 | .ref a=>zcu S a λxs=>match ws with
  | [.tup ys]=>xs.length+ys.length≤sizeLine∧Q .non (put S a (.lst (xs++ys)))
  | [.ref b]=>zcu S b λys=>xs.length+ys.length≤sizeLine∧Q .non (put S a (.lst (xs++ys)))
  |_=>False
 |_=>False
theorem znD{K:aj}:MtW K (λx vs H Q=>zpB x vs H Q∨zmV K x vs H Q) zgY:=λH x w vs ws S Q QW r rs hS h hQ=>by
 cases r with
 |ref a=>
  obtain⟨xs,ea,h⟩:=zbk h;obtain⟨us,f,hs⟩:=hS a _ ea;cases rs with
  |nil=>exact h.elim
  |cons r1 r2=>
   cases r2 with
   |cons _ _=>cases r1<;>exact h.elim
   |nil=>
    cases r1 with
    |tup g ks=>
     obtain⟨e,hS'⟩:=hS.set_lst ea (hs.append ks);exact .inr ⟨a,_,us,_,rfl,rfl,f, .of g,by rw[←hs.length,←ks.length];exact h.1,hQ _ _ _ _ e .non hS' h.2⟩
    |ref b=>
     obtain⟨ys,eb,h⟩:=zbk h;obtain⟨zs,g,ks⟩:=hS b _ eb;obtain⟨e,hS'⟩:=hS.set_lst ea (hs.append ks);exact .inl ⟨a,b,us,zs,rfl,rfl,f,g,by rw[←hs.length,←ks.length];exact h.1,hQ _ _ _ _ e .non hS' h.2⟩
    |_=>exact h.elim
 |_=>exact h.elim
theorem zoC (ho:JE X o to) (ha:JA X (e::es) t)
  (hbase:cF o "extend" X.env (ay o X.env)=ay o X.env:=by rfl)
  (hfew:((aP cpos (ao (e::es) X.env)).all (λx=> !x.1)&&(dD cpos (dn [] X.env)).all (λx=>x.1.isSome)
   &&decide ((e::es).length+([]:List bO).length+(if([]:List bO).isEmpty then 0 else 1)<30))=true:=by rfl)
  (hline:(apos.endLine == cpos.line)=true:=by rfl) (hs:ao (e::es) X.env=(false,ay e X.env)::ao es X.env:=by rfl) (hplain:(aP cpos (ao es X.env)).any (·.1)=false:=by rfl) :
  JE X (.Call (.Attribute o "extend" apos) (e::es) [] cpos) (wM rvL zgY to t):=zzQ iO PySem.F.slot_list_extend PySem.F.type_list_extend zsE (MtR.or zpH znY) znD ho ha hbase hfew hline hs hplain
noncomputable def zrk:WMf:=λw ws S Q=>match w with
 | .ref a=>zcu S a λxs=>xs.length+ws.length≤sizeLine∧Q .non (put S a (.lst (xs++ws)))
 |_=>False
noncomputable def zge:List W→Option (List Str)
 | []=>ae []
 | .str b::ws=>(zge ws).map (b:: ·)
 |_=>none
theorem zmn{K:aj}{H:Hp}:∀{ws:List W}{vs:List V}{bs:List Str},Reps K H ws vs→zge ws=ae bs→vs=bs.map V.str
 | [],_,_, .nil,e=>by have:=aG e;subst this;rfl
 |w::ws,_,_, .cons r rs,e=>by
  cases r with
  |str b=>
   have e':(zge ws).map (b:: ·)=ae _:=e;cases q:zge ws with
   |none=>rw[q]at e';cases e'
   |some cs=>
    rw[q]at e';have:=aG e';subst this;rw[aA,zmn rs q]
  |_=>cases e
noncomputable def zkH:WMf:=λw ws S Q=>match w with
 | .str z=>match zge ws with
  |some ys=>(ys.map (·.length)).sum+ys.length*z.length≤16777216∧Q (.str (cS z ys)) S
  |none=>False
 |_=>False
theorem zrs{K:aj}:MtL K (zxq K) zkH:=λH x w a vs ws S Q QW r ea na rs hS h hQ=>by
 cases r with
 |str z=>
  unfold zkH at h;dsimp only at h;split at h
  ·rename_i ys e;have:=zmn rs e;subst this;exact⟨z,a,ys,rfl,rfl, .of ea,h.1,hQ _ S _ H .refl (.str _) hS h.2⟩
  ·exact h.elim
 |_=>exact h.elim
theorem zsf (ho:JE X o to) (ha:JL X e tl)
  (hbase:cF o "join" X.env (ay o X.env)=ay o X.env:=by rfl)
  (hfew:((aP cpos (ao [e] X.env)).all (λx=> !x.1)&&(dD cpos (dn [] X.env)).all (λx=>x.1.isSome)
   &&decide ([e].length+([]:List bO).length+(if([]:List bO).isEmpty then 0 else 1)<30))=true:=by rfl)
  (hline:(apos.endLine == cpos.line)=true:=by rfl) (hs:ao [e] X.env=(false,ay e X.env)::ao [] X.env:=by rfl) (hplain:(aP cpos (ao [] X.env)).any (·.1)=false:=by rfl) :
  JE X (.Call (.Attribute o "join" apos) [e] [] cpos) (wML rvS zkH to tl):=zyN j_ PySem.F.slot_str_join PySem.F.type_str_join zsT zva zrs ho ha hbase hfew hline hs hplain
noncomputable def zxr:WMf:=λw ws S Q=>match w with
 | .str z=>match ws with
  | [.str y]=>match cN z y 0 z.length 1 with
   |i::_=>Q (.int i) S
   | []=>False
  |_=>False
 |_=>False
end
noncomputable def zwh (i:Nat) (g:Int→Int→Int) (e:WE):WS:=λE D σ S=>match σ[i]? with
 |some (ae (.int a))=>e E σ S λw S1=>match w with
  | .int b=>D.nx (σ.set i (ae (.int (g a b)))) S1
  |_=>False
 |_=>False
section
variable {X:Cx}{e:Expr}{te:WE}{pos pos':aC}
theorem ztb{i:Nat}{x:Str}(hN:X.N.Nodup) (hi:X.N[i]? =ae x) (hx:Loc X.env.scope x) (he:JE X e te) (hf:X.fn x=true∨X.env.scope.names.lookup x=ae .local:=by first |exact .inl rfl |exact .inr rfl |assumption) :
  JS X (.AugAssign (.Name x pos') .Add e pos) (zwh i (λa b=>a+b) te):=λE hE=>
 (zxF hN hi hx (he E hE) zwi hf).mono λD σ H ⟨σW,S,DW,hσ,hS,ht,hD⟩=>by
  unfold zwh at ht;split at ht
  ·rename_i a ea;obtain⟨v,ev,rv⟩:=hσ.get ea;cases rv;refine⟨_,ev,σW,S,_,hσ,hS,ht,λw S1 v H1 e1 r1 hS1 h1=>?_⟩;cases r1 with
   |int b=>exact⟨a,b,rfl,rfl,hD.nx _ S1 _ H1 e1 ((hσ.ext e1).set (.int _) i) hS1 h1⟩
   |_=>exact h1.elim
  ·exact ht.elim
end
noncomputable def zos (c:WT) (b:WS):WS:=λE D σ S=>∃I:Nat→WSt→Sto→Prop,(∃m,I m σ S)∧ ∀m σ S,I m σ S→c E σ S λk S1=>if k=true then
 b E { D with nx:=λσ' S'=>∃m' S'',m'<m∧Sub S'' S'∧I m' σ' S'',ct:=λσ' S'=>∃m' S'',m'<m∧Sub S'' S'∧I m' σ' S'',bk:=D.nx } σ S1 else D.nx σ S1
section
variable {X:Cx}{c:Expr}{body:List Stmt}{tc:WT}{tb:WS}{pos:aC}
theorem zmD (hc:JT X c tc) (hb:JSs X body tb):JS X (.While c body [] pos) (zos tc tb):=λE hE=>
 (zrB hE.own (hc E hE) (hb E hE)).mono λD σ H ⟨σW,S,DW,hσ,hS,⟨J,⟨n,ht⟩,step⟩,hD⟩=>by
  refine⟨λm σ1 H1=>∃σW1 S1,Ext H S H1 S1∧RpSt X.K H1 σW1 σ1∧RepS X.K H1 S1∧J m σW1 S1,⟨n,σW,S, .refl,hσ,hS,ht⟩,?_⟩;rintro m σ1 H1 ⟨σW1,S1,e1,hσ1,hS1,h1⟩;refine⟨σW1,S1,_,hσ1,hS1,step m σW1 S1 h1,λk S2 H2 e2 hS2 h2=>?_⟩;cases k with
  |false=>exact hD.nx σW1 S2 σ1 H2 (e1.trans e2) (hσ1.ext e2) hS2 h2
  |true=>
   rw[if_pos rfl]at h2⊢;refine⟨λσ' H'=>∃m',m'<m∧ ∃σW1 S1,Ext H S H' S1∧RpSt X.K H' σW1 σ'∧RepS X.K H' S1∧J m' σW1 S1,λσ' H' n'=>n',σW1,S2,_,hσ1.ext e2,hS2,h2,?_⟩;have e12:=e1.trans e2;have go:Goes X.K H2 S2 (λσ' S'=>∃m' S'',m'<m∧Sub S'' S'∧J m' σ' S'') (λσ' H'=>∃m',m'<m∧ ∃σW1 S1,Ext H S H' S1∧RpSt X.K H' σW1 σ'∧RepS X.K H' S1∧J m' σW1 S1):=λσW3 S3 σ3 H3 e3 hσ3 hS3 ⟨m',S4,hm,sb,q⟩=>
    ⟨m',hm,σW3,S4,(e12.trans e3).trans (.drop sb),hσ3,hS3.sub sb,q⟩
   exact⟨go,hD.rt.from e12,hD.nx.from e12,go⟩
end
noncomputable def forL (g:WG) (b:WS) (E:WX) (D:WEnds) (G:Sto→Prop):List W→WSt→Sto→Prop
 | [],σ,S=>D.nx σ S
 |w::ws,σ,S=>g w σ S λσ1 S1=>b E { D with nx:=λσ' S'=>∃S'',Sub S'' S'∧G S''∧forL g b E D G ws σ' S'',ct:=λσ' S'=>∃S'',Sub S'' S'∧G S''∧forL g b E D G ws σ' S'',bk:=D.nx } σ1 S1
noncomputable def zgo (q:WI) (g:WG) (b:WS):WS:=λE D σ S=>q E σ S λws G S1=>forL g b E D G ws σ S1
section
variable {X:Cx}{tg iter:Expr}{body:List Stmt}{q:WI}{g:WG}{tb:WS}{pos:aC}
theorem zbC (hi:JI X tg iter q) (hg:JG X tg g) (hb:JSs X body tb) (hcl:X.calm=true:=by rfl)
  (hs:∀x,dJ iter X.env x=pure x:=by intro _;rfl):JS X (.For tg iter body [] pos) (zgo q g tb):=λE hE=>
 (zxo hE.own hcl (hi E hE) (hg E hE) (hb E hE) hs).mono λD σ H ⟨σW,S,DW,hσ,hS,ht,hD⟩=>by
  refine⟨σW,S,_,hσ,hS,ht,λws G S1 J H1 e1 hS1 hG1 hJ h1=>?_⟩;refine⟨λi m σ2 H2=>∃σW2 S2,Ext H1 S1 H2 S2∧RpSt X.K H2 σW2 σ2∧RepS X.K H2 S2∧G S2∧m=ws.length - i∧i≤ws.length∧forL g tb E DW G (ws.drop i) σW2 S2,
   ⟨ws.length,σW,S1, .refl,hσ.ext e1,hS1,hG1,rfl,aY _,h1⟩,?_⟩
  rintro i m σ2 H2 ⟨σW2,S2,e2,hσ2,hS2,hG2,rfl,hi2,h2⟩;obtain⟨ji,js⟩:=hJ i S2 H2 e2 hS2 hG2;by_cases hlt:i<ws.length
  ·obtain⟨jgo,jy⟩:=ji ws[i] (a8 hlt);refine .inr ⟨jgo,λσ' H'=>∃σW2 S2,Ext H1 S1 H' S2∧RpSt X.K H' σW2 σ'∧RepS X.K H' S2∧G S2∧ws.length - (i+1)=ws.length - (i+1)∧i+1≤ws.length∧forL g tb E DW G (ws.drop (i+1)) σW2 S2,λσ' H' z=>⟨_,by omega,z⟩,λx H3 y3=>?_⟩
   obtain⟨e3,hS3,r3⟩:=jy x H3 y3;rw[eR hlt]at h2;refine⟨_,σW2,S2,_,r3,hσ2.ext e3,hS3,h2,λσW4 S4 σ4 H4 e4 hσ4 hS4 h4=>?_⟩;have e14:Ext H1 S1 H4 S4:=(e2.trans e3).trans e4;refine⟨σW4,S4,_,hσ4,hS4,h4,?_⟩;have go:Goes X.K H4 S4 (λσ' S'=>∃S'',Sub S'' S'∧G S''∧forL g tb E DW G (ws.drop (i+1)) σ' S'') (λσ' H'=>∃σW2 S2,Ext H1 S1 H' S2∧RpSt X.K H' σW2 σ'∧RepS X.K H' S2∧G S2∧ws.length - (i+1)=ws.length - (i+1)∧i+1≤ws.length∧forL g tb E DW G (ws.drop (i+1)) σW2 S2):=
    λσW5 S5 σ5 H5 e5 hσ5 hS5 ⟨S6,sb,hG6,q⟩=>⟨σW5,S6,(e14.trans e5).trans (.drop sb),hσ5,hS5.sub sb,hG6,rfl,hlt,q⟩
   exact⟨go,hD.rt.from (e1.trans e14),hD.nx.from (e1.trans e14),go⟩
  ·have hl:i=ws.length:=by omega
   rw[eY (e_ hl.symm)]at h2;exact .inl ⟨js hl,hD.nx σW2 S2 σ2 H2 (e1.trans e2) hσ2 hS2 h2⟩
end
section
variable {X:Cx}{tg:Expr}
noncomputable def zAU (K:aj) (tl:TE):TI:=λσ H R=>tl σ H λx H1=>(∃a,x= .ref a∧(∃xs,SqL K H1 a xs)∧R (Itl K a) H1)∨(∃a,x= .ref a∧(∃xs,SqT K H1 a xs)∧R (Itt K a) H1)∨ ∃z,x= .str z∧R (Its z) H1
theorem zxP{l:Expr}{tl:TE}(hl:PE X l tl):PI X tg l (zAU X.K tl):=by
 intro pins s σ H R I h;refine thn (hl pins s σ H _ I h) λv s1 ⟨x,H1,I1,r1,q1⟩=>?_;have fp:∀b∈ [s1.heap.objs.size],zjf X pins H1 b:=λb hb=>by
  have e:b=s1.heap.objs.size:=by simpa using hb
  subst e;exact I1.fpOk (au _) (I1.hok.fresh (au _))
 rcases q1 with⟨a,e,⟨xs,hq⟩,q⟩ |⟨a,e,⟨xs,hq⟩,q⟩ |⟨z,e,q⟩
 ·subst e;cases r1;obtain⟨its,rv,p,hz⟩:=I1.list hq;refine fO p.isList ?_;exact⟨s1.heap.objs.size,[s1.heap.objs.size],_,_,H1,rfl,I1.kept (t':=s1.toks) λb o e=>aH _ e,zow a _,⟨_,bi _ rfl,rfl,rfl⟩,fp,q⟩
 ·subst e;cases r1;obtain⟨its,rv,p,hz⟩:=I1.tuple hq;refine i9 (show s1.heap.IsTuple a its.toArray from p) ?_;exact⟨s1.heap.objs.size,[s1.heap.objs.size],_,_,H1,rfl,I1.kept (t':=s1.toks) λb o e=>aH _ e,znz a _,⟨_,bi _ rfl,rfl,rfl⟩,fp,q⟩
 ·subst e;obtain⟨t,rfl⟩:=r1;cases ha:z.cps.all (· <128)
  ·refine wpAny_pyIter_wide ha ?_;exact⟨s1.heap.objs.size,[s1.heap.objs.size],_,_,H1,rfl,I1.kept (t':=s1.toks) λb o e=>aH _ e,
    zlS _ z t "str_iterator" (by decide) (λA' hA=>d_.strWide hA _ z t) (λ_ _ _ _ _ st h=>wpAny_pyIter_striter_wide st h),⟨_,bi _ rfl,rfl,rfl⟩,fp,q⟩
  ·refine wpAny_pyIter_ascii ha ?_;exact⟨s1.heap.objs.size,[s1.heap.objs.size],_,_,H1,rfl,I1.kept (t':=s1.toks) λb o e=>aH _ e,
    zlS _ z t "str_ascii_iterator" (by decide) (λA' hA=>d_.strAscii hA _ z t) (λ_ _ _ _ _ st h=>wpAny_pyIter_striter_ascii st h),⟨_,bi _ rfl,rfl,rfl⟩,fp,q⟩
noncomputable def zlw (z:Str):List W:=z.cps.toList.map λc=> .str ⟨#[c]⟩
noncomputable def wIv (t:WE):WI:=λE σ S Q=>t E σ S λw S1=>match w with
 | .tup ws=>Q ws (λ_=>True) S1
 | .ref a=>zcu S1 a λws=>Q ws (λS'=>S' a=ae (.lst ws)) S1
 | .scr ns=>Q (ns.map W.int) (λ_=>True) S1
 | .str z=>Q (zlw z) (λ_=>True) S1
 |_=>False
theorem zqm{K:aj}{a:Addr}{ws:List W}{G:Sto→Prop}{H0:Hp}{S0:Sto}(h:∀S H,Ext H0 S0 H S→RepS K H S→G S→ ∃vs,SqL K H a vs∧Reps K H ws vs):ItW K (Itl K a) ws G H0 S0:=λi S H e hS hG=>by
 obtain⟨vs,hq,r⟩:=h S H e hS hG;refine⟨λw ew=>?_,λhl=>⟨vs,hq,by rw[←r.length,hl];exact au _⟩⟩
 obtain⟨v,ev,rv⟩:=r.get ew;refine⟨⟨vs,v,hq,ev⟩,λx H' ⟨e1,e2⟩=>?_⟩;subst e1;have e3:=e2 vs hq;rw[ev]at e3;cases e3;exact⟨.refl,hS,rv⟩
theorem zxK{K:aj}{a:Addr}{ws:List W}{vs:List V}{H0:Hp}{S0:Sto}(f:H0 a=ae (.tup vs)) (r:Reps K H0 ws vs):ItW K (Itt K a) ws (λ_=>True) H0 S0:=λi S H e hS hG=>by
 have f':=e.tup _ _ f;have r':=r.ext e;refine⟨λw ew=>?_,λhl=>⟨vs, .of f',by rw[←r'.length,hl];exact au _⟩⟩
 obtain⟨v,ev,rv⟩:=r'.get ew;refine⟨⟨vs,v, .of f',ev⟩,λx H' ⟨e1,e2⟩=>?_⟩;subst e1;have e3:=e2 vs (.of f');rw[ev]at e3;cases e3;exact⟨.refl,hS,rv⟩
theorem zws{K:aj}{z:Str}{H0:Hp}{S0:Sto}:ItW K (Its z) (zlw z) (λ_=>True) H0 S0:=λi S H e hS hG=>by
 unfold zlw;refine⟨λw ew=>?_,λhl=>?_⟩
 ·rw[bt]at ew;cases ec:z.cps.toList[i]? with
  |none=>rw[ec]at ew;cases ew
  |some c=>
   rw[ec]at ew;have ew':=aG ew;subst ew';have hi:i<z.cps.size:=by
    have:=(cj.mp ec).1;simpa using this
   refine⟨hi,λx H' ⟨e1,c',e2,e3⟩=>?_⟩;subst e1 e3;have:c'=c:=by
    have q:z.cps.toList[i]? =ae c':=by rw[←e2];simp
    rw[ec]at q;exact(aG q).symm
   subst this;exact⟨.refl,hS, .str _⟩
 ·show i=z.cps.size;simpa using hl
theorem zbl{l:Expr}{tl:WE}(hl:JE X l tl):JI X tg l (wIv tl):=λE hE=>
 (zxP (hl E hE)).mono λσ H R ⟨σW,S,QW,hσ,hS,ht,hR⟩=>⟨σW,S,_,hσ,hS,ht,λw S1 v H1 e1 r1 hS1 h1=>by
  cases r1 with
  |tup f hs=>exact .inr (.inl ⟨_,rfl,⟨_, .of f⟩,hR _ _ S1 _ H1 e1 hS1 trivial (zxK f hs) h1⟩)
  |ref a=>
   obtain⟨ws,ea,h⟩:=zbk h1;obtain⟨vs,f,hs⟩:=hS1 a _ ea;refine .inl ⟨_,rfl,⟨_, .of f⟩,hR _ _ S1 _ H1 e1 hS1 ea (zqm λS2 H2 e2 hS2 g2=>?_) h⟩;obtain⟨vs2,f2,hs2⟩:=hS2 a _ g2;exact⟨vs2, .of f2,hs2⟩
  |scr f=>exact .inl ⟨_,rfl,⟨_,f.sq⟩,hR _ _ S1 _ H1 e1 hS1 trivial (zqm λS2 H2 e2 hS2 g2=>⟨_,(e2.fz f).sq,Reps.ofInts _⟩) h1⟩
  |str z=>exact .inr (.inr ⟨z,rfl,hR _ _ S1 _ H1 e1 hS1 trivial zws h1⟩)
  |_=>exact h1.elim⟩
noncomputable def zlv (lo:Int) (n:Nat):List W:=(aU n).map λ(i:Nat)=> .int (lo+(i:Int))
theorem zww{K:aj}{lo:Int}{n:Nat}{H0:Hp}{S0:Sto}:ItW K (Itr lo n) (zlv lo n) (λ_=>True) H0 S0:=λi S H e hS hG=>by
 unfold zlv;refine⟨λw ew=>?_,λhl=>by
  have:i=n:=by simpa using hl
  exact e_ this.symm⟩
 rw[bt]at ew;by_cases hi:i<n
 ·rw[fI hi]at ew;have ew':=aG ew;subst ew';refine⟨hi,λx H' ⟨e1,e2⟩=>?_⟩;subst e1 e2;exact⟨.refl,hS, .int _⟩
 ·rw[List.getElem?_eq_none (by simpa using hi)]at ew;cases ew
noncomputable def zsI (t:WA):WI:=λE σ S Q=>t E σ S λws S1=>match ws with
 | [.int j]=>(-(2 ^ 62)≤j∧j<2 ^ 62)∧Q (zlv 0 j.toNat) (λ_=>True) S1
 |_=>False
theorem zep{a:Expr}{ta:WA}{p pos:aC}(hg:Gl X "range") (hm:X.mg "range" =none) (ha:JA X [a] ta) (hs:ao [a] X.env=[(false,ay a X.env)]:=by rfl):JI X tg (.Call (.Name "range" p) [a] [] pos) (zsI ta):=λE hE=>
 (zqz hg hm (ha E hE) hs).mono λσ H R ⟨σW,S,QW,hσ,hS,ht,hR⟩=>⟨σW,S,_,hσ,hS,ht,λws S1 vs H1 e1 r1 hS1 h1=>by
  cases r1 with
  |nil=>exact h1.elim
  |cons r2 r3=>
   cases r3 with
   |cons _ _=>cases r2<;>exact h1.elim
   |nil=>
    cases r2 with
    |int j=>exact⟨j,rfl,h1.1.1,h1.1.2,hR _ _ S1 _ H1 e1 hS1 trivial zww h1.2⟩
    |_=>exact h1.elim⟩
end
noncomputable def zhL:WT:=λ_ _ S Q=>Q true S
def JTs (X:Cx) (ifs:List Expr) (t:WT):Prop:=∀E,Hook X E→PTs X ifs (zuT X.K (t E))
theorem zbL{X:Cx}:JTs X [] zhL:=λE hE pins s σ H Q I ⟨σW,S,QW,hσ,hS,ht,hQ⟩=>ztZ pins s σ H Q I (hQ true S H .refl hS ht)
theorem zqp{X:Cx}{c:Expr}{t:WT}(h:JT X c t):JTs X [c] t:=λE hE=>zuu (h E hE)
noncomputable def zfS (g:WG) (c:WT) (e:WE) (E:WX) (G:Sto→Prop) (Q:List W→Sto→Prop):List W→List W→WSt→Sto→Prop
 | [],acc,_,S=>Q acc S
 |w::ws,acc,σ,S=>g w σ S λσ1 S1=>c E σ1 S1 λb S2=>if b=true then e E σ1 S2 λy S3=>acc.length<sizeLine∧ ∃S4,Sub S4 S3∧G S4∧zfS g c e E G Q ws (acc++[y]) σ1 S4
   else ∃S4,Sub S4 S2∧G S4∧zfS g c e E G Q ws acc σ1 S4
noncomputable abbrev noE:WX:=λ_ _ _=>False
theorem zla{X:Cx}(h:X.xe=λ_ _=>False):Hook X noE:=⟨by rw[h];exact fe.never,λ_ _ _ _ _ _ _ _ _ _ _ _ _ _ _ _ _ _ _ _ z=>z.elim,λ_ _ _ _ _ _ _ _ _ _ _ _ _ _ _ _ z=>z.elim⟩
theorem PS.nox{X:Cx}{st:Stmt}{t:TS}(h:PS X.nox st t):PS X st t:=λpins s σ H D I hw=>
 cm (h pins s σ H D (I.wish _) hw) (λ_ _ q=>q.unwish) λ_ _ z=>cc z
noncomputable def zde (k:Nat) (fr:List Nat) (q:WI) (g:WG) (c:WT) (e:WE):WL:=λ_ σ S Q=>q noE σ S λws G S1=>zfS g c e noE G Q ws [] (aO k none++fr.map λj=>(σ[j]?).join) S1
theorem znt{K:aj}{H:Hp}{σW:WSt}{σ:St}{k:Nat}{fr:List Nat}(h:RpSt K H σW σ):RpSt K H (aO k none++fr.map λj=>(σW[j]?).join) (zmT σ k fr):=by
 have one:∀j:Nat,RpO K H (σW[j]?).join (σ[j]?).join:=λj=>by
  cases e:σW[j]? with
  |none=>exact trivial
  |some w=>
   cases w with
   |none=>exact trivial
   |some w=>
    obtain⟨v,ev,r⟩:=h.get e;rw[ev];exact r
 have go:∀fr:List Nat,RpSt K H (fr.map λj=>(σW[j]?).join) (zgW σ fr):=by
  intro fr
  induction fr with
  |nil=>exact .nil
  |cons j fr ih=>exact .cons (one j) ih
 unfold zmT
 induction k with
 |zero=>exact go fr
 |succ k ih=>exact .cons trivial ih
section
variable {X:Cx}{scope:Scope}{N:List Str}{k:Nat}{fr:List Nat}{tg iter elt:Expr}{ifs:List Expr}{pos:aC}{q:WI}{g:WG}{c:WT}{e:WE}
theorem Ext.loose{H H':Hp}(a:∀b xs,H b=ae (.tup xs)→H' b=ae (.tup xs)) (b:∀c o u,H c=ae (.frz o u)→H' c=ae (.frz o u)) (d:∀b o,H b=ae o→ ∃o',H' b=ae o'):Ext H (λ_=>ae (.lst [])) H' (λ_=>ae (.lst [])):=
 ⟨a,b,(λ_ _ _ g=>nomatch g),d⟩
theorem Ext.over{H H':Hp}{S S':Sto}{l:Addr}{o:HO}(e:Ext H S H' S') (h:H l=none):Ext H S (upd H' l o) S':=
 ⟨λb xs q=>by rw[zaz (zau q h)];exact e.tup b xs q,λb ob u q=>by rw[zaz (zau q h)];exact e.frz b ob u q,λb ob q z=>by rw[zaz (zau q h)];exact e.fr b ob q z,λb ob q=>by rw[zaz (zau q h)];exact e.all b ob q⟩
theorem zkc (hg:∀s₀ H₀ fp pn,JG (zbB X scope N s₀ H₀ fp pn) tg g) (hc:∀s₀ H₀ fp pn,JTs (zbB X scope N s₀ H₀ fp pn) ifs c) (he:∀s₀ H₀ fp pn,JE (zbB X scope N s₀ H₀ fp pn) elt e)
  {E:WX}(σ:St) (H:Hp) (Q:VK):zwd X.K (zde k fr q g c e E) σ H Q→zrE X scope N k fr tg ifs elt (zwS X.K (q noE)) σ H Q:=λ⟨σW,S0,QW,hσ,hS,ht,hQ⟩=>by
  refine⟨σW,S0,_,hσ,hS,ht,λws G S1 J H1 e1 hS1 hG1 hJ h1 l hl=>?_⟩;have upl:∀{H':Hp}{vs us:List V}{S':Sto},H' l=ae (.lst vs)→S' l=none→RepS X.K H' S'→Ext H' (λ_=>ae (.lst [])) (upd H' l (.lst us)) (λ_=>ae (.lst []))∧RepS X.K (upd H' l (.lst us)) S':=λ{H' vs us S'} f n hS'=>by
   have x:Ext H' (λ_=>ae (.lst [])) (upd H' l (.lst us)) (λ_=>ae (.lst [])):= .loose (λb xs q=>by rw[zaz (zov q f λz=>nomatch z)];exact q) (λb o u q=>by rw[zaz (zov q f λz=>nomatch z)];exact q) λb o q=>by
    by_cases hb:b=l
    ·subst hb;exact⟨_,zay⟩
    ·exact⟨o,by rw[zaz hb];exact q⟩
   refine⟨x,λa o q=>(hS' a o q).keep x λu z=>?_⟩;have ha:a≠l:=by rintro rfl;rw[n]at q;cases q
   rw[zaz ha];exact z
  refine⟨λi m σ' H'=>∃σW' S' acc vs,Ext H1 S1 H' S'∧H' l=ae (.lst vs)∧S' l=none∧Reps X.K H' acc vs∧RpSt X.K H' σW' σ'∧RepS X.K H' S'∧G S'∧m=ws.length - i∧i≤ws.length∧zfS g c e noE G QW (ws.drop i) acc σW' S',
   ⟨ws.length,_,S1,[],[], .new hl,zay,hS1.free hl, .nil,znt (hσ.ext (e1.trans (.new (S:=S1) hl))),hS1.new hl,hG1,rfl,aY _,h1⟩,?_⟩
  rintro i m σ' H' ⟨σW',S',acc,vs,e2,f2,n2,ra,hσ2,hS2,hG2,rfl,hi2,h2⟩;obtain⟨ji,js⟩:=hJ i S' H' e2 hS2 hG2;by_cases hlt:i<ws.length
  ·obtain⟨jgo,jy⟩:=ji ws[i] (a8 hlt);refine .inr ⟨jgo,λσ'' H''=>∃σW' S' acc vs,Ext H1 S1 H'' S'∧H'' l=ae (.lst vs)∧S' l=none∧Reps X.K H'' acc vs∧RpSt X.K H'' σW' σ''∧RepS X.K H'' S'∧G S'∧ws.length - (i+1)=ws.length - (i+1)∧i+1≤ws.length∧zfS g c e noE G QW (ws.drop (i+1)) acc σW' S',
    λσ'' H'' z=>⟨_,by omega,z⟩,λx H3 y3=>?_⟩
   obtain⟨e3,hS3,r3⟩:=jy x H3 y3;rw[eR hlt]at h2;intro s₀ H₀ fp pn;have hk:Hook (zbB X scope N s₀ H₀ fp pn) noE:=zla rfl;refine⟨_,_,_,hg s₀ H₀ fp pn noE hk,hc s₀ H₀ fp pn noE hk,he s₀ H₀ fp pn noE hk,?_⟩;refine⟨_,σW',S',_,r3,hσ2.ext e3,hS3,h2,λσW4 S4 σ4 H4 e4 hσ4 hS4 h4=>?_⟩;refine⟨σW4,S4,_,hσ4,hS4,h4,λb S5 H5 e5 hS5 h5=>?_⟩;have e15:Ext H' S' H5 S5:=(e3.trans e4).trans e5;have hσ5:=hσ4.ext e5;obtain⟨f5,n5⟩:=e15.fr l _ f2 n2;cases b with
   |false=>
    have h5:∃S4,Sub S4 S5∧G S4∧zfS g c e noE G QW (ws.drop (i+1)) acc σW4 S4:=h5;refine zzV ?_;obtain⟨S6,sb,hG6,h6⟩:=h5;have e16:=e15.trans (.drop sb);exact⟨σW4,S6,acc,vs,e2.trans e16,f5,(e16.fr l _ f2 n2).2,ra.ext e15,hσ5,hS5.sub sb,hG6,rfl,hlt,h6⟩
   |true=>
    rw[if_pos rfl]at h5;refine zzW ?_;refine⟨σW4,S5,_,hσ5,hS5,h5,λy S6 v H6 e6 r6 hS6 h6=>?_⟩;have e17:=e15.trans e6;obtain⟨f6,n6⟩:=e17.fr l _ f2 n2;obtain⟨hz,S7,sb,hG7,h7⟩:=h6;obtain⟨x6,hS6'⟩:=upl (us:=vs++[v]) f6 n6 hS6;have ra6:Reps X.K H6 (acc++[y]) (vs++[v]):=(ra.ext e17).append (.one r6);refine⟨vs,f6,by rw[←ra.length];exact hz,σW4,S7,acc++[y],vs++[v],?_,zay,((e17.trans (.drop sb)).fr l _ f2 n2).2,ra6.ext x6,(hσ5.ext e6).ext x6,hS6'.sub sb,hG7,rfl,hlt,h7⟩
    exact(e2.trans (e17.trans (.drop sb))).over hl
  ·have hll:i=ws.length:=by omega
   rw[eY (e_ hll.symm)]at h2;exact .inl ⟨js hll,hQ acc S' vs l H' (e1.trans e2) (e1.free hl) f2 n2 ra hS2 h2⟩
theorem zdi (S:CompSc X.nox scope N k fr) (hi:JI X.nox tg iter q) (hg:∀s₀ H₀ fp pn,JG (zbB X.nox scope N s₀ H₀ fp pn) tg g) (hc:∀s₀ H₀ fp pn,JTs (zbB X.nox scope N s₀ H₀ fp pn) ifs c) (he:∀s₀ H₀ fp pn,JE (zbB X.nox scope N s₀ H₀ fp pn) elt e)
  (hs:∀x,dJ iter X.env x=pure x:=by intro _;rfl) (hcl:X.calm=true:=by rfl):JL X (.ListComp elt [⟨tg,iter,ifs,0⟩] scope pos) (zde k fr q g c e):=λE hE=>
 (PE.nox (zun rfl hcl S (hi noE (zla rfl)) hs)).mono (zkc (X:=X.nox) hg hc he)
theorem zeK{i:Nat}{x:Str}{pos' spos:aC}(hN:X.N.Nodup) (hxi:X.N[i]? =ae x) (hxl:Loc X.env.scope x) (S:CompSc X.nox scope N k fr) (hi:JI X.nox tg iter q) (hg:∀s₀ H₀ fp pn,JG (zbB X.nox scope N s₀ H₀ fp pn) tg g) (hc:∀s₀ H₀ fp pn,JTs (zbB X.nox scope N s₀ H₀ fp pn) ifs c) (he:∀s₀ H₀ fp pn,JE (zbB X.nox scope N s₀ H₀ fp pn) elt e)
  (hw:di (.ListComp elt [⟨tg,iter,ifs,0⟩] scope pos) (ae (.Name x pos')) spos.line X.env=pure true:=by rfl) (hf:X.fn x=true∨X.env.scope.names.lookup x=ae .local:=by first |exact .inl rfl |exact .inr rfl |assumption)
  (hs:∀x,dJ iter X.env x=pure x:=by intro _;rfl) (hcl:X.calm=true:=by rfl):JS X (.Assign [.Name x pos'] (.ListComp elt [⟨tg,iter,ifs,0⟩] scope pos) spos) (wAsg (zct (zde k fr q g c e)) (wGN i)):=λE hE=>
 (PS.nox (zuN (X:=X.nox) rfl hcl S (hi noE (zla rfl)) hN hxi hxl hw hf hs)).mono λD σ H ⟨σW,S0,DW,hσ,hS,ht,hD⟩=>
  zkc (X:=X.nox) (E:=E) hg hc he σ H _ ⟨σW,S0,_,hσ,hS,ht,λws S1 vs a H1 e1 fa ea na r1 hS1 h1=>by
   have ex:Ext H S0 H1 (put S1 a (.lst ws)):=⟨e1.tup,e1.frz,λb o q g=>by
    have hb:b≠a:=by rintro rfl;rw[fa]at q;cases q
    rw[zaA hb];exact e1.fr b o q g,e1.all⟩
   refine hD.nx _ (put S1 a (.lst ws)) _ H1 ex ((hσ.ext ex).set (.ref a) i) (λb o q=>?_) (h1 a na);by_cases hb:b=a
   ·subst hb;rw[zag]at q;cases q;exact⟨vs,ea,r1⟩
   ·rw[zaA hb]at q;exact hS1 b o q⟩
end
def SeqIt (k:Bool) (h:Heap) (it a:Addr) (i:Nat):Prop:=if k=true then h.IsListIter it a i else h.IsTupleIter it a i
def SeqIs (k:Bool) (h:Heap) (a:Addr) (its:Array Value):Prop:=if k=true then h.IsList a its else h.IsTuple a its
section
variable {k:Bool}{h h':Heap}{it a:Addr}{i:Nat}{its:Array Value}
theorem SeqIt.at (x:SeqIt k h it a i) (e:∀o,h.get? it=ae o→h'.get? it=ae o):SeqIt k h' it a i:=by
 cases k with
 |true=>exact Heap.IsListIter.at (show h.IsListIter it a i from x) e
 |false=>exact Heap.IsTupleIter.at (show h.IsTupleIter it a i from x) e
theorem SeqIs.at (x:SeqIs k h a its) (e:∀o,h.get? a=ae o→h'.get? a=ae o):SeqIs k h' a its:=by
 cases k with
 |true=>exact Heap.IsList.at (show h.IsList a its from x) e
 |false=>obtain⟨o,ho,r⟩:=(show h.IsTuple a its from x);exact⟨o,e o ho,r⟩
theorem SeqIt.ob (x:SeqIt k h it a i):∃o vs,h.get? it=ae o∧o.data= .fields vs:=by
 cases k with
 |true=>obtain⟨o,ho,_,hd⟩:=(show h.IsListIter it a i from x);exact⟨o,_,ho,hd⟩
 |false=>obtain⟨o,ho,_,hd⟩:=(show h.IsTupleIter it a i from x);exact⟨o,_,ho,hd⟩
end
section
variable {prog:aE}{w:aB}{A:aM}{E:Value→ah→Prop}{s:ah}
theorem zhu{it t:Addr}{i:Nat}{its:Array Value}{x:Value}{Q:Value→ah→Prop}(hit:s.heap.IsTupleIter it t i) (ht:s.heap.IsTuple t its) (hx:its[i]? =ae x)
  (hQ:∀g,g.IsTupleIter it t (i+1)→b6 it s.heap g→Q x { s with heap:=g }):am (ap prog w) A (cB (.ref it)) Q E s:=by
 obtain⟨o,ho,hc,hd⟩:=id hit;obtain⟨ot,hot,_,nt,hdt⟩:=ht;unfold cB;refine ak (da (name:=bf "__next__") hit.typeIs fj (dg fj hit.typeIs km ?_ (jW _)));show am _ _ (field (.ref it) 0 >>= _) _ _ s;refine ak (bA ho hd (x:= .ref t) rfl ?_);show am _ _ (if(a_ t == ci)=true then _ else _) _ _ s;rw[if_neg (show ¬((a_ t == ci)=true) from cU)];show am _ _ (field (.ref it) 1 >>= _) _ _ s;refine ak (bA ho hd (x:= .int i 0) rfl ?_);show am _ _ (seqItems? (.ref t) >>= _) _ _ s;refine ak (cR hot hdt ?_);simp only[bW,hx];refine ak (iK ho hd (by simp) (aD ⟨x,rfl,aD (hQ _ ?_ (i7 ..))⟩));exact⟨_,Heap.get?_update_self _ ho (Obj.isFreed_of_fields (jS hd _)),(Obj.cls_mapFields ..).trans hc,by rw[jS hd];simp [b9]⟩
theorem zhI{it t:Addr}{i:Nat}{its:Array Value}{Q:Value→ah→Prop}(hh:A.handled=none) (hit:s.heap.IsTupleIter it t i) (ht:s.heap.IsTuple t its) (hx:its[i]? =none)
  (hE:∀g e,gm it s.heap g→(∃o,g.get? e=ae o∧o.cls= .type "StopIteration")→E (.ref e) { s with heap:=g }):am (ap prog w) A (cB (.ref it)) Q E s:=by
 obtain⟨o,ho,hc,hd⟩:=id hit;obtain⟨ot,hot,_,nt,hdt⟩:=ht;unfold cB;refine ak (da (name:=bf "__next__") hit.typeIs fj (dg fj hit.typeIs km ?_ (jW _)));show am _ _ (field (.ref it) 0 >>= _) _ _ s;refine ak (bA ho hd (x:= .ref t) rfl ?_);show am _ _ (if(a_ t == ci)=true then _ else _) _ _ s;rw[if_neg (show ¬((a_ t == ci)=true) from cU)];show am _ _ (field (.ref it) 1 >>= _) _ _ s;refine ak (bA ho hd (x:= .int i 0) rfl ?_);show am _ _ (seqItems? (.ref t) >>= _) _ _ s;refine ak (cR hot hdt ?_);simp only[bW,hx];refine ak (eF (ak (iK ho hd (by simp) ?_)));show am _ _ (newExc (.type "StopIteration") [] >>= _) _ _ _;refine ak ?_;simp only[newExc,newTuple];refine ak (eA ?_ (by size_fits));refine ak (m:=jG _ _) (wpAny_of_eq (a:=ci) (by first |rfl | (simp only[jG];rfl)) ?_);refine eA ?_ (by size_fits);simp only[raiseNew];refine ak (wpAny_handled ?_)
 first |rw[show A.in1.handled=none from hh] |rw[hh]
 refine ak (aD (wpAny_throw ?_));exact hE _ _ (((i7 ..).extBut.push _).push _) ⟨_,bi _ rfl,rfl⟩
theorem zfz{k:Bool}{it t:Addr}{i:Nat}{its:Array Value}{x:Value}{Q:Value→ah→Prop}(hit:SeqIt k s.heap it t i) (ht:SeqIs k s.heap t its) (hx:its[i]? =ae x)
  (hQ:∀g,SeqIt k g it t (i+1)→b6 it s.heap g→Q x { s with heap:=g }):am (ap prog w) A (cB (.ref it)) Q E s:=by
 cases k with
 |true=>exact wpAny_nextOf_list_item hit ht hx hQ
 |false=>exact zhu hit ht hx hQ
theorem ziJ{k:Bool}{it t:Addr}{i:Nat}{its:Array Value}{Q:Value→ah→Prop}(hh:A.handled=none) (hit:SeqIt k s.heap it t i) (ht:SeqIs k s.heap t its) (hx:its[i]? =none)
  (hE:∀g e,gm it s.heap g→(∃o,g.get? e=ae o∧o.cls= .type "StopIteration")→E (.ref e) { s with heap:=g }):am (ap prog w) A (cB (.ref it)) Q E s:=by
 cases k with
 |true=>exact wpAny_nextOf_list_end hh hit ht hx hE
 |false=>exact zhI hh hit ht hx hE
theorem zqc{k:Bool}{e it l:Addr}{i:Nat}{its:Array Value}{x old:Value}{Q:Option Value→ah→Prop}
  (he:cx s.heap e it i old) (hit:SeqIt k s.heap it l i) (hl:SeqIs k s.heap l its) (hx:its[i]? =ae x) (hne:e≠it)
  (hQ:∀g,g_ g e it ((i:Int)+1) x s.heap.objs.size→SeqIt k g it l (i+1)→g.get? s.heap.objs.size=ae { cls:= .type "tuple",data:= .seq #[.int i s.toks,x] }→g.objs.size=s.heap.objs.size+1→
   (∀b o,b≠e→b≠it→s.heap.get? b=ae o→g.get? b=ae o)→Q (ae (.ref s.heap.objs.size)) { s with heap:=g,toks:=s.toks+1 }):am (ap prog w) A (bS (.ref e)) Q E s:=by
 have hT:s.TypeIs (.ref e) "enumerate" :=⟨_,he,rfl⟩;unfold bS;refine ak (fV (da (name:=bf "__next__") hT fR (dg fR hT iy ?_ (jL _))));obtain⟨hp,g,d,tk,os⟩:=s;show am _ _ (field (.ref e) 2 >>= _) _ _ _;refine ak (bA he rfl (x:= .ref it) rfl ?_);refine ak (zfz hit hl hx λg1 hit1 hs1=>?_);replace hs1:b6 it hp g1:=hs1;have he1:cx g1 e it i old:=(hs1.2 e hne).trans he;show am _ _ (field (.ref e) 3 >>= _) _ _ ⟨g1,g,d,tk,os⟩;refine ak (bA he1 rfl (x:=b9 i) rfl ?_);show am _ _ (field (.ref e) 4 >>= _) _ _ ⟨g1,g,d,tk,os⟩;refine ak (bA he1 rfl (x:= .none) rfl ?_);show am _ _ (mkInt i >>= _) _ _ ⟨g1,g,d,tk,os⟩;refine ak (wpAny_mkInt ?_);show am _ _ (setField (.ref e) 3 (b9 ((i:Int)+1)) >>= _) _ _ ⟨g1,g,d,tk+1,os⟩;refine ak (ck he1 (by simp) λg2 he2 hs2=>?_);replace hs2:b6 e g1 g2:=hs2;replace he2:cx g2 e it ((i:Int)+1) old:=he2;show am _ _ (setField (.ref e) 4 .none >>= _) _ _ ⟨g2,g,d,tk+1,os⟩;refine ak (ck he2 (by simp) λg3 he3 hs3=>?_);replace hs3:b6 e g2 g3:=hs3;replace he3:cx g3 e it ((i:Int)+1) old:=he3;show am _ _ (newTuple [.int i tk,x] >>= _) _ _ ⟨g3,g,d,tk+1,os⟩;refine ak (jB ?_);have he4:cx (g3.push { cls:= .type "tuple",data:= .seq #[.int i tk,x] }) e it ((i:Int)+1) old:=aH _ he3;generalize hg4:g3.push { cls:= .type "tuple",data:= .seq #[.int i tk,x] }=g4 at he4;have hsz:g3.objs.size=hp.objs.size:=by rw[hs3.1,hs2.1,hs1.1]
 have hel:e<hp.objs.size:=aJ he;have ht4:g4.get? hp.objs.size=ae { cls:= .type "tuple",data:= .seq #[.int i tk,x] }:=by rw[←hg4,←hsz];exact bi _ rfl
 have hz4:g4.objs.size=hp.objs.size+1:=by rw[←hg4,cI,hsz]
 have hk4:∀b o,b≠e→b≠it→hp.get? b=ae o→g4.get? b=ae o:=λb o hbe hbi hb=>by rw[←hg4];exact aH _ (hs3.extBut b o hbe (hs2.extBut b o hbe (hs1.extBut b o hbi hb)))
 have hit4:SeqIt k g4 it l (i+1):=by rw[←hg4];exact hit1.at λo ho=>aH _ (hs3.extBut it o (bn hne) (hs2.extBut it o (bn hne) ho))
 show am _ _ (d6 (.ref e) >>= _) _ _ ⟨g4,g,d,tk+1,os⟩;rw[hsz];clear hg4 he3 hs3 he2 hs2 he1 hs1 hit1 hsz g3 g2 g1;refine ak ?_;unfold d6;refine ak (bA he4 rfl (x:= .none) rfl (aD ?_));simp only[if_true];refine ak (eF ?_);refine ak (bA he4 rfl (x:=old) rfl ?_);refine ak (ck he4 (by simp) λg5 he5 hs5=>?_);replace hs5:b6 e g4 g5:=hs5;replace he5:cx g5 e it ((i:Int)+1) x:=he5;show am _ _ (fM (.ref e) (.ref hp.objs.size) >>= _) _ _ ⟨g5,g,d,tk+1,os⟩;refine ak ?_;unfold fM;refine ak (ck he5 (by simp) λg6 he6 hs6=>?_);replace hs6:b6 e g5 g6:=hs6;replace he6:g_ g6 e it ((i:Int)+1) x hp.objs.size:=he6;refine ck he6 (by simp) λg7 he7 hs7=>?_;replace hs7:b6 e g6 g7:=hs7;replace he7:g_ g7 e it ((i:Int)+1) x hp.objs.size:=he7;refine ak (fS (aD ⟨_,rfl,aD (hQ g7 he7 ?_ ?_ ?_ ?_)⟩))
 ·exact hit4.at λo ho=>hs7.extBut it o (bn hne) (hs6.extBut it o (bn hne) (hs5.extBut it o (bn hne) ho))
 ·exact hs7.extBut _ _ (cH hel) (hs6.extBut _ _ (cH hel) (hs5.extBut _ _ (cH hel) ht4))
 ·rw[hs7.1,hs6.1,hs5.1,hz4]
 ·exact λb o hbe hbi hb=>hs7.extBut b o hbe (hs6.extBut b o hbe (hs5.extBut b o hbe (hk4 b o hbe hbi hb)))
theorem zro{k:Bool}{e it l:Addr}{i:Nat}{its:Array Value}{old:Value}{Q:Option Value→ah→Prop}(hh:A.handled=none)
  (he:cx s.heap e it i old) (hit:SeqIt k s.heap it l i) (hl:SeqIs k s.heap l its) (hx:its[i]? =none) (hQ:∀g,gm it s.heap g→Q none { s with heap:=g }):am (ap prog w) A (bS (.ref e)) Q E s:=by
 have hT:s.TypeIs (.ref e) "enumerate" :=⟨_,he,rfl⟩;unfold bS;refine ak (fV (da (name:=bf "__next__") hT fR (dg fR hT iy ?_ (jL _))));show am _ _ (field (.ref e) 2 >>= _) _ _ _;refine ak (bA he rfl (x:= .ref it) rfl ?_);refine ak (ziJ hh hit hl hx λg x he' hx'=>?_);obtain⟨o,ho,hc⟩:=hx';refine ak (jD (T:= "StopIteration") (b:=true) ⟨o,ho,hc⟩ j6 ?_);exact aD (hQ _ he')
end
noncomputable def zee (k:Bool) (a:Addr):Obj:={ cls:= .type (if k=true then "list_iterator" else "tuple_iterator"),data:= .fields #[.ref a, .int 0 0] }
theorem ziW{k:Bool}{h:Heap}{it a:Addr}(e:h.get? it=ae (zee k a)):SeqIt k h it a 0:=by
 cases k with
 |true=>exact⟨_,e,rfl,rfl⟩
 |false=>exact⟨_,e,rfl,rfl⟩
theorem zga{k:Bool}{a:Addr}:(zee k a).isFreed=false:=by cases k<;>rfl
section
variable {prog:aE}{w:aB}{A:aM}{E:Value→ah→Prop}{s:ah}
theorem ziq{k:Bool}{a:Addr}{its:Array Value}{Q:Value→ah→Prop}(ha:SeqIs k s.heap a its) (hQ:Q (.ref s.heap.objs.size) { s with heap:=s.heap.push (zee k a) }):am (ap prog w) A (cX (.ref a)) Q E s:=by
 cases k with
 |true=>exact fO ha hQ
 |false=>exact i9 ha hQ
end
theorem SeqIs.push{k:Bool}{h:Heap}{a:Addr}{its:Array Value}(x:SeqIs k h a its) (o:Obj):SeqIs k (h.push o) a its:=x.at λ_ e=>aH _ e
theorem znU{k:Bool}(l:Addr) (its:Array Value) :
  PySem.Meets (bV.«enumerate.__new__» ⟨[.type "enumerate", .ref l],[]⟩) (λ_ R s=>SeqIs k s.heap l its∧
   R (.ok (.ret (.ref (s.heap.push (zee k l)).objs.size))) { s with heap:=(s.heap.push (zee k l)).push { cls:= .type "enumerate",data:= .fields #[.none, .bool false, .ref s.heap.objs.size,b9 0, .none, .none] } }):=
 .of_wp λprog w A R s h=>by
  obtain⟨hp,g,d,tk,os⟩:=s;obtain⟨hl,h⟩:=h;have hsub:=sub_enumerate;have hL:SeqIs k (ah.heap ⟨hp,g,d,tk,os⟩) l its:=hl;have fin:∀{A:aM}{E:Value→ah→Prop}{Q:Value→ah→Prop},Q (.ref hp.objs.size) ⟨hp.push (zee k l),g,d,tk,os⟩→am (ap prog w) A (cX (.ref l)) Q E ⟨hp,g,d,tk,os⟩:=λq=>ziq hL q
  wp_walk
  refine wpAny_stack_any λst=>aD ?_;split
  ·rename_i c _ _ _ _ _;cases(c == gU "enumerate")
   ·wp_walk using fin
    exact⟨_,rfl,h⟩
   ·wp_walk using fin
    exact⟨_,rfl,h⟩
  ·wp_walk using fin
   exact⟨_,rfl,h⟩
section
variable {prog:aE}{w:aB}{A:aM}{E:Value→ah→Prop}{s:ah}
theorem zoL{k:Bool}{l:Addr}{its:Array Value}{Q:Value→ah→Prop}(hL:SeqIs k s.heap l its)
  (h:∀g,cx g (s.heap.objs.size+1) s.heap.objs.size 0 .none→SeqIt k g s.heap.objs.size l 0→g.objs.size=s.heap.objs.size+2→(∀b o,s.heap.get? b=ae o→g.get? b=ae o)→Q (.ref (s.heap.objs.size+1)) { s with heap:=g }) :
  am (ap prog w) A (call (.type "enumerate") [.ref l]) Q E s:=by
 refine callType_new PySem.F.called_enumerate (by decide) (PySem.F.typeCall_enumerate_1 _) (PySem.F.newCall_enumerate_1 _) (λobj=>PySem.F.args_object_init_2 obj _) PySem.F.entry_enumerate_new (znU (k:=k) l its) ⟨hL,?_⟩;have hz:(s.heap.push (zee k l)).objs.size=s.heap.objs.size+1:=cI ..;show _∧_;rw[hz];have he:cx ((s.heap.push (zee k l)).push { cls:= .type "enumerate",data:= .fields #[.none, .bool false, .ref s.heap.objs.size,b9 0, .none, .none] }) (s.heap.objs.size+1) s.heap.objs.size 0 .none:=by
  have:=bi (s.heap.push (zee k l)) (o:={ cls:= .type "enumerate",data:= .fields #[.none, .bool false, .ref s.heap.objs.size,b9 0, .none, .none] }) rfl;rw[hz]at this;exact this
 exact⟨⟨_,he,rfl⟩,h _ he (ziW (aH _ (bi _ zga))) (by rw[cI,hz]) λb o x=>aH _ (aH _ x)⟩
end
section
variable {X:Cx}{pins:List (Addr×Obj)}{σ:St}{H:Hp}{s:ah}{g:Heap}{fp:List Addr}
theorem Inv.turnNew{p:Addr}{o:HO}{t':Nat}(I:Inv X pins σ H s) (hp:s.heap.objs.size≤p) (k:∀b u,b∉fp→s.heap.get? b=ae u→g.get? b=ae u) (hf:∀b∈fp,zjf X pins H b) (new:ObjOk X.prog X.w (upd H p o) g p o) :
  Inv X pins σ (upd H p o) { s with heap:=g,toks:=t' }:=by
 have hn:=I.hok.fresh hp;have lt:∀{b u},s.heap.get? b=ae u→b≠p:=λe=>bz (bH (aJ e) hp);have nfp:∀{b u},H b=ae u→b∉fp:=λe z=>by rw[(hf _ z).1]at e;cases e
 refine I.call (g':=s.gens) (d':=s.drawn) (ch:=fp) ⟨λb u e _ _ hx=>k b u hx e,λb u e _ _ hx=>⟨u.slots,k b u hx e⟩,λb u e n _=>by rw[zaz (lt e)];exact n,λb u e hx=>⟨u,k b u hx e⟩,
  λb xs e=>by rw[zaz (zau e hn)];exact e,λb u xs e=>by rw[zaz (zau e hn)];exact e,λb ps e=>⟨#[],by rw[zaz (zau e hn),e];simp⟩⟩ (λb u e=>?_) I.bare λb hb=>⟨(hf b hb).2.2.2.1,(hf b hb).2.1,(hf b hb).2.2.2.2.1,(hf b hb).2.2.2.2.2⟩
 by_cases hb:b=p
 ·subst hb;rw[zay]at e;cases e;exact new
 ·rw[zaz hb]at e;refine(I.hok b u e).stay (λc v hc q=>k c v ?_ q) (λc q=>by rw[zaz (zau q hn)];exact q) λc xs q=>by rw[zaz (zau q hn)];exact q
  rcases hc with rfl |hc
  ·exact nfp e
  ·exact nfp hc
theorem Inv.turnedL{t':Nat}(I:Inv X pins σ H s) (k:∀b u,b∉fp→s.heap.get? b=ae u→g.get? b=ae u) (hf:∀b∈fp,zjf X pins H b):Inv X pins σ H { s with heap:=g,toks:=t' }:=by
 have nfp:∀{b u},H b=ae u→b∉fp:=λe z=>by rw[(hf _ z).1]at e;cases e
 refine I.call (g':=s.gens) (d':=s.drawn) (ch:=fp) ⟨λb u e _ _ hx=>k b u hx e,λb u e _ _ hx=>⟨u.slots,k b u hx e⟩,λb u e n _=>n,λb u e hx=>⟨u,k b u hx e⟩,
  λb xs e=>e,λb u xs e=>e,λb ps e=>⟨#[],by rw[e];simp⟩⟩ (λb u e=>?_) I.bare λb hb=>⟨(hf b hb).2.2.2.1,(hf b hb).2.1,(hf b hb).2.2.2.2.1,(hf b hb).2.2.2.2.2⟩
 refine(I.hok b u e).stay (λc v hc q=>k c v ?_ q) (λc q=>q) λc xs q=>q;rcases hc with rfl |hc
 ·exact nfp e
 ·exact nfp hc
def SqK (k:Bool) (K:aj) (H:Hp) (a:Addr) (xs:List V):Prop:=if k=true then SqL K H a xs else SqT K H a xs
theorem Inv.seq{k:Bool}{a:Addr}{xs:List V}(I:Inv X pins σ H s) (h:SqK k X.K H a xs):∃its:List Value,Vals xs its∧SeqIs k s.heap a its.toArray∧xs.length≤sizeLine:=by
 cases k with
 |true=>obtain⟨its,r,p,z⟩:=I.list h;exact⟨its,r,p.isList,z⟩
 |false=>obtain⟨its,r,p,z⟩:=I.tuple h;exact⟨its,r,p,z⟩
theorem Inv.seq_inj{k:Bool}{a:Addr}{xs ys:List V}(I:Inv X pins σ H s) (h:SqK k X.K H a xs) (h':SqK k X.K H a ys):xs=ys:=by
 cases k with
 |true=>exact I.list_inj h h'
 |false=>exact I.tuple_inj h h'
end
noncomputable def Ite (k:Bool) (K:aj) (a:Addr):It:=
 ⟨λi H=>∃xs x,SqK k K H a xs∧xs[i]? =ae x,λi H v H'=>∃p x,H p=none∧v= .ref p∧H'=upd H p (.tup [.int i,x])∧ ∀xs,SqK k K H a xs→xs[i]? =ae x,λi H=>∃xs,SqK k K H a xs∧xs.length≤i⟩
theorem zqI{P:aE}{w:aB}{K:aj}{es:List Expr}{x1:Nat}{pos:aC}(k:Bool) (a e it:Addr) (hne:e≠it):Turn P w K (.Tuple es x1 pos) (Ite k K a) [e,it] e (λi h=>(∃old,cx h e it (i:Nat) old)∧SeqIt k h it a i) where
  mem:=by simp
  obj:=λi h ⟨⟨old,he⟩,hit⟩ b hb=>by
    rcases az.mp hb with rfl |hb
    · exact⟨_,he,λv z=>by cases z⟩
    · have q:b=it:=by simpa using hb
      subst q;obtain⟨o,vs,e,d⟩:=hit.ob;exact⟨o,e,λv z=>by rw[d]at z;cases z⟩
  keep:=λi h h' ⟨⟨old,he⟩,hit⟩ kk=>⟨⟨old,kk e (by simp) _ he⟩,hit.at λo q=>kk it (by simp) o q⟩
  item:=by
    intro X hP hw hK hc i pins s σ H E I hf st hg;subst hP hw hK;obtain⟨xs,x,hq,hx⟩:=hg;obtain⟨⟨old,he⟩,hit⟩:=st;obtain⟨its,rv,p,hz⟩:=I.seq hq;obtain⟨u,hu,ru⟩:=rv.get hx;refine zqc he hit p (x:=u) (by simpa using hu) hne λg ho hit' ht hz' kk=>⟨_,rfl,?_⟩;refine wpAny_letOwnedTupleGo_enum ho λg2 he2 hs2=>?_;have hlt:s.heap.objs.size≠e:=cH (aJ he);have kk2:∀b o,b∉ [e,it]→s.heap.get? b=ae o→g2.get? b=ae o:=λb o hb q=>by
      have h1:b≠e:=λz=>hb (by simp [z]);have h2:b≠it:=λz=>hb (by simp [z]);exact(hs2.2 b h1).trans (kk b o h1 h2 q)
    have hn:=I.hok.fresh (au s.heap.objs.size);have ht2:g2.get? s.heap.objs.size=ae { cls:= .type "tuple",data:= .seq #[.int i s.toks,u] }:=(hs2.2 _ hlt).trans ht;refine⟨.ref s.heap.objs.size,upd H s.heap.objs.size (.tup [.int i,x]),I.turnNew (fp:=[e,it]) (t':=s.toks+1) (au _) kk2 hf ⟨by show 2≤sizeLine;rw[dj];decide,[.int i s.toks,u], .cons ⟨_,rfl⟩ (.cons ru .nil),⟨_,ht2,rfl,_,rfl⟩⟩,rfl,
      ⟨_,x,hn,rfl,rfl,λys hy=>by rw[I.seq_inj hy hq];exact hx⟩,⟨⟨u,by simpa using he2⟩,hit'.at λo q=>(hs2.2 it (bn hne)).trans q⟩,λb hb=>?_⟩
    have hb':=(hf b hb).1;have:b≠s.heap.objs.size:=by
      rcases az.mp hb with rfl |hb
      · exact bn hlt
      · have q:b=it:=by simpa using hb
        subst q;obtain⟨o,vs,e,d⟩:=hit.ob;exact bz (aJ e)
    rw[zaz this];exact hb'
  done:=by
    intro X hP hw hK hc i pins s σ H E I hf st hg;subst hP hw hK;obtain⟨xs,hq,hx⟩:=hg;obtain⟨⟨old,he⟩,hit⟩:=st;obtain⟨its,rv,p,hz⟩:=I.seq hq;have hl:=rv.length;exact zro (I.ok.hd hc) he hit p (by simp;omega) λg eb=>⟨rfl,I.turnedL (fp:=[e,it]) (t':=s.toks) (λb o hb q=>eb b o (λz=>hb (by simp [z])) q) hf⟩
  self:=λA i s Q E ⟨⟨old,he⟩,hit⟩ h=>j8 he h
section
variable {X:Cx}{es:List Expr}{x1:Nat}{tpos:aC}
noncomputable def zzH (K:aj) (ta:TA):TI:=λσ H R=>ta σ H λvs H1=>∃k a xs,vs=[.ref a]∧SqK k K H1 a xs∧R (Ite k K a) H1
theorem zut{a:Expr}{ta:TA}{p pos:aC}(hg:Gl X "enumerate") (hm:X.mg "enumerate" =none) (ha:PA X [a] ta) (hs:ao [a] X.env=[(false,ay a X.env)]:=by rfl):PI X (.Tuple es x1 tpos) (.Call (.Name "enumerate" p) [a] [] pos) (zzH X.K ta):=by
 intro pins s σ H R I h;refine Call_ (zik I hg hm boot_enumerate (fW (thn (ha pos pins s σ H _ I h) λus s1 ⟨vs,H1,I1,r1,q1⟩=>?_) hs rfl));obtain⟨k,a,xs,e,hq,q⟩:=q1;subst e;cases r1 with
 |cons r rr=>
  cases rr;cases(show _=a_ a from r);obtain⟨its,rv,pl,hz⟩:=I1.seq hq;refine zoL pl λg he hit hz' kk=>j8 he ?_;have I2:Inv X pins σ H1 { s1 with heap:=g }:=I1.kept (t':=s1.toks) kk;refine⟨s1.heap.objs.size+1,[s1.heap.objs.size+1,s1.heap.objs.size],_,_,H1,rfl,I2,zqI k a _ _ (Nat.succ_ne_self _),⟨⟨.none,he⟩,hit⟩,λb hb=>?_,q⟩;have hb':s1.heap.objs.size≤b:=by
   rcases az.mp hb with rfl |hb
   ·exact Nat.le_succ _
   ·have q:b=s1.heap.objs.size:=by simpa using hb
    exact e_ q.symm
  exact I1.fpOk hb' (I1.hok.fresh hb')
noncomputable def zhz:Nat→List W→List W
 |_,[]=>[]
 |n,w::ws=> .tup [.int n,w]::zhz (n+1) ws
theorem znf:∀{ws:List W}{n i:Nat}{u:W},(zhz n ws)[i]? =ae u→ ∃w,ws[i]? =ae w∧u= .tup [.int ((n+i:Nat):Int),w]
 | [],_,_,_,h=>by simp [zhz]at h
 |w::ws,n,0,u,h=>by
  simp [zhz]at h;exact⟨w,rfl,by rw[←h];rfl⟩
 |w::ws,n,i+1,u,h=>by
  obtain⟨w',e,q⟩:=znf (ws:=ws) (n:=n+1) (i:=i) (u:=u) (by simpa [zhz]using h);refine⟨w',by simpa using e,?_⟩
  rw[q,show n+1+i=n+(i+1) by omega]
theorem zmR:∀{ws:List W}{n:Nat},(zhz n ws).length=ws.length
 | [],_=>rfl
 |w::ws,n=>by simp [zhz,zmR (ws:=ws)]
theorem ztW{K:aj}{k:Bool}{a:Addr}{ws:List W}{G:Sto→Prop}{H0:Hp}{S0:Sto}(h:∀S H,Ext H0 S0 H S→RepS K H S→G S→ ∃vs,SqK k K H a vs∧Reps K H ws vs):ItW K (Ite k K a) (zhz 0 ws) G H0 S0:=λi S H e hS hG=>by
 obtain⟨vs,hq,r⟩:=h S H e hS hG;refine⟨λu eu=>?_,λhl=>⟨vs,hq,by rw[←r.length,hl,zmR];exact au _⟩⟩
 obtain⟨w,ew,rfl⟩:=znf eu;obtain⟨v,ev,rv⟩:=r.get ew;refine⟨⟨vs,v,hq,ev⟩,λx H' ⟨p,y,hp,e1,e2,e3⟩=>?_⟩;subst e1 e2;have e4:=e3 vs hq;rw[ev]at e4;cases e4;rw[b8];exact⟨.new hp,hS.new hp, .tup zay (.cons (.int _) (.cons (rv.ext (.new (S:=S) hp)) .nil))⟩
noncomputable def zof:W→Sto→(List W→(Sto→Prop)→Prop)→Prop
 | .tup ws,_,Q=>Q ws λ_=>True
 | .ref a,S,Q=>zcu S a λws=>Q ws λS'=>S' a=ae (.lst ws)
 | .scr ns,_,Q=>Q (ns.map W.int) λ_=>True
 |_,_,_=>False
theorem zuq{K:aj}{H:Hp}{S:Sto}{w:W}{v:V}{Q:List W→(Sto→Prop)→Prop}(r:Rep K H w v) (hS:RepS K H S) (h:zof w S Q) :
  ∃k a ws G,v= .ref a∧G S∧(∀S' H',Ext H S H' S'→RepS K H' S'→G S'→ ∃vs,SqK k K H' a vs∧Reps K H' ws vs)∧Q ws G:=by
 cases r with
 |tup f hs=>exact⟨false,_,_,_,rfl,trivial,λS' H' e hS' _=>⟨_, .of (e.tup _ _ f),hs.ext e⟩,h⟩
 |ref a=>
  obtain⟨ws,ea,h⟩:=zbk h;exact⟨true,_,ws,_,rfl,ea,λS' H' e hS' g=>by
   obtain⟨vs,f,hs⟩:=hS' a _ g;exact⟨vs, .of f,hs⟩,h⟩
 |scr f=>exact⟨true,_,_,_,rfl,trivial,λS' H' e hS' _=>⟨_,(e.fz f).sq,Reps.ofInts _⟩,h⟩
 |_=>exact h.elim
noncomputable def znM (t:WE):WI:=λE σ S Q=>t E σ S λw S1=>zof w S1 λws G=>Q (zhz 0 ws) G S1
theorem zjb{a:Expr}{ta:WE}{p pos:aC}(hg:Gl X "enumerate") (hm:X.mg "enumerate" =none) (ha:JE X a ta) (hs:ao [a] X.env=[(false,ay a X.env)]:=by rfl) (hs2:ao [a] X.env=(false,ay a X.env)::ao [] X.env:=by rfl):JI X (.Tuple es x1 tpos) (.Call (.Name "enumerate" p) [a] [] pos) (znM ta):=λE hE=>
 (zut hg hm (zdu (ha E hE) pa_nil hs2) hs).mono λσ H R ⟨σW,S,QW,hσ,hS,ht,hR⟩=>⟨σW,S,_,hσ,hS,ht,λw S1 v H1 e1 r1 hS1 h1=>by
  obtain⟨k,a,ws,G,rfl,hG,hq,h⟩:=zuq r1 hS1 h1;obtain⟨vs,hv,_⟩:=hq S1 H1 .refl hS1 hG;exact⟨k,a,vs,rfl,hv,hR _ _ S1 _ H1 e1 hS1 hG (ztW hq) h⟩⟩
end
section
variable {prog:aE}{w:aB}{A:aM}{E:Value→ah→Prop}{s:ah}
theorem zse{k1 k2:Bool}{z TI TO i1 i2 l1 l2:Addr}{n1 n2:Nat}{xs ys:Array Value}{x y a b:Value}{Q:Option Value→ah→Prop}(D:iw z TI TO i1 i2 l1 l2)
  (hz:bR s.heap z TI TO .none) (hTI:bJ s.heap TI (.ref i1) (.ref i2)) (hTO:bJ s.heap TO a b) (h1:SeqIt k1 s.heap i1 l1 n1) (h2:SeqIt k2 s.heap i2 l2 n2) (hl1:SeqIs k1 s.heap l1 xs) (hl2:SeqIs k2 s.heap l2 ys) (hx:xs[n1]? =ae x) (hy:ys[n2]? =ae y)
  (hQ:∀g,bR g z TI TO (b9 s.heap.objs.size)→bJ g TO x y→SeqIt k1 g i1 l1 (n1+1)→SeqIt k2 g i2 l2 (n2+1)→bJ g s.heap.objs.size x y→g.objs.size=s.heap.objs.size+1→
   (∀c o,c≠z→c≠TO→c≠i1→c≠i2→s.heap.get? c=ae o→g.get? c=ae o)→Q (ae (.ref s.heap.objs.size)) { s with heap:=g }):am (ap prog w) A (bS (.ref z)) Q E s:=by
 have hT:s.TypeIs (.ref z) "zip" :=⟨_,hz,rfl⟩;unfold bS;refine ak (fV (da (name:=bf "__next__") hT fv (dg fv hT je ?_ (jX _))));show am _ _ (field (.ref z) 2 >>= _) _ _ _;refine ak (bA hz rfl (x:= .bool false) rfl ?_);show am _ _ (field (.ref z) 3 >>= _) _ _ _;refine ak (bA hz rfl (x:= .ref TI) rfl ?_);refine ak (cR hTI rfl ?_);show am _ _ (d6 (.ref z) >>= _) _ _ _;refine ak ?_;unfold d6;refine ak (bA hz rfl (x:= .none) rfl (aD ?_));simp only[if_true];refine ak (eF ?_);refine ak (bA hz rfl (x:= .ref TO) rfl ?_);refine ak (ck hz (by simp) λg1 hz1 hs1=>?_);replace hz1:bR g1 z TI TO .ellipsis:=hz1;refine ak ?_;simp only[jH,i0,ix,kB];refine ak (ak (fP ?_));show am _ _ (cB (.ref i1) >>= _) _ _ _;refine ak (zfz (h1.at λo e=>hs1.extBut _ o D.i1z e) (hl1.at λo e=>hs1.extBut _ o D.l1z e) hx λg2 h12 hs2=>aD ?_);have hTO2:bJ g2 TO a b:=hs2.extBut _ _ D.TOi1 (hs1.extBut _ _ D.TOz hTO);refine ak (cR hTO2 rfl ?_);refine ak (i' hTO2 λg3 hTO3 hs3=>?_);replace hTO3:bJ g3 TO x b:=hTO3;refine ak (fS (aD ?_));refine ak (ak (fP ?_));show am _ _ (cB (.ref i2) >>= _) _ _ _;refine ak (zfz (h2.at λo e=>hs3.extBut _ o D.TOi2.symm (hs2.extBut _ o D.i12.symm (hs1.extBut _ o D.i2z e))) (hl2.at λo e=>hs3.extBut _ o D.l2TO (hs2.extBut _ o D.l2i1 (hs1.extBut _ o D.l2z e))) hy λg4 h24 hs4=>aD ?_);have hTO4:bJ g4 TO x b:=hs4.extBut _ _ D.TOi2 hTO3;refine ak (cR hTO4 rfl ?_);refine ak (i' hTO4 λg5 hTO5 hs5=>?_);replace hTO5:bJ g5 TO x y:=hTO5;refine ak (fS (aD (aD ?_)));refine ak (cR hTO5 rfl ?_);refine ak (jB ?_);have hsz:g5.objs.size=s.heap.objs.size:=by rw[hs5.1,hs4.1,hs3.1,hs2.1,hs1.1]
 have hz5:bR g5 z TI TO .ellipsis:=hs5.extBut _ _ D.TOz.symm (hs4.extBut _ _ D.i2z.symm (hs3.extBut _ _ D.TOz.symm (hs2.extBut _ _ D.i1z.symm hz1)));have hk5:∀c o,c≠z→c≠TO→c≠i1→c≠i2→s.heap.get? c=ae o→g5.get? c=ae o:=λc o c1 c2 c3 c4 e=>hs5.extBut _ _ c2 (hs4.extBut _ _ c4 (hs3.extBut _ _ c2 (hs2.extBut _ _ c3 (hs1.extBut _ _ c1 e))));have h15:SeqIt k1 g5 i1 l1 (n1+1):=h12.at λo e=>hs5.extBut _ o D.TOi1.symm (hs4.extBut _ o D.i12 (hs3.extBut _ o D.TOi1.symm e));have h25:SeqIt k2 g5 i2 l2 (n2+1):=h24.at λo e=>hs5.extBut _ o D.TOi2.symm e;have hzlt:z<g5.objs.size:=aJ hz5;show am _ _ (fM (.ref z) (.ref g5.objs.size) >>= _) _ _ _;refine ak ?_;unfold fM;have hz6:bR (g5.push { cls:= .type "tuple",data:= .seq #[x,y] }) z TI TO .ellipsis:=aH _ hz5;refine ak (ck hz6 (by simp) λg7 hz7 hs7=>?_);replace hz7:bR g7 z TI TO (b9 g5.objs.size):=hz7;refine ck hz7 (by simp) λg8 hz8 hs8=>?_;replace hz8:bR g8 z TI TO (b9 g5.objs.size):=hz8;have up:∀c o,c≠z→g5.get? c=ae o→g8.get? c=ae o:=λc o c1 e=>hs8.extBut _ _ c1 (hs7.extBut _ _ c1 (aH _ e));have hT8:bJ g8 g5.objs.size x y:=hs8.extBut _ _ (cH hzlt) (hs7.extBut _ _ (cH hzlt) (bi _ rfl));have hzz:g8.objs.size=g5.objs.size+1:=by rw[hs8.1,hs7.1,cI]
 rw[hsz]at hz8 hT8 hzz;refine aD ⟨_,rfl,aD ?_⟩;show Q (ae (.ref g5.objs.size)) _;rw[hsz];exact hQ g8 hz8 (up _ _ D.TOz hTO5) (h15.at λo e=>up _ o D.i1z e) (h25.at λo e=>up _ o D.i2z e) hT8 hzz λc o c1 c2 c3 c4 e=>up c o c1 (hk5 c o c1 c2 c3 c4 e)
theorem ztP{k1 k2:Bool}{z TI TO i1 i2 l1 l2:Addr}{n1 n2:Nat}{xs ys:Array Value}{a b:Value}{Q:Option Value→ah→Prop}(hh:A.handled=none) (D:iw z TI TO i1 i2 l1 l2)
  (hz:bR s.heap z TI TO .none) (hTI:bJ s.heap TI (.ref i1) (.ref i2)) (hTO:bJ s.heap TO a b) (h1:SeqIt k1 s.heap i1 l1 n1) (h2:SeqIt k2 s.heap i2 l2 n2) (hl1:SeqIs k1 s.heap l1 xs) (hl2:SeqIs k2 s.heap l2 ys) (hend:xs[n1]? =none∨ys[n2]? =none)
  (hQ:∀g,(∀c o,c≠z→c≠TO→c≠i1→c≠i2→s.heap.get? c=ae o→g.get? c=ae o)→Q none { s with heap:=g }):am (ap prog w) A (bS (.ref z)) Q E s:=by
 have hT:s.TypeIs (.ref z) "zip" :=⟨_,hz,rfl⟩;have fin:∀(g:Heap) (e:Addr),(∀c o,c≠z→c≠TO→c≠i1→c≠i2→s.heap.get? c=ae o→g.get? c=ae o)→(∃o,g.get? e=ae o∧o.cls= .type "StopIteration")→
   am (ap prog w) A (do if(←isInstance (.ref e) (.type "StopIteration")) then pure none else throw (.ref e)) Q E { s with heap:=g }:=λg e hk ⟨o,ho,hc⟩=>
  ak (jD (T:= "StopIteration") (b:=true) ⟨o,ho,hc⟩ j6 (aD (hQ _ hk)))
 unfold bS;refine ak (fV (da (name:=bf "__next__") hT fv (dg fv hT je ?_ (jX _))));show am _ _ (field (.ref z) 2 >>= _) _ _ _;refine ak (bA hz rfl (x:= .bool false) rfl ?_);show am _ _ (field (.ref z) 3 >>= _) _ _ _;refine ak (bA hz rfl (x:= .ref TI) rfl ?_);refine ak (cR hTI rfl ?_);show am _ _ (d6 (.ref z) >>= _) _ _ _;refine ak ?_;unfold d6;refine ak (bA hz rfl (x:= .none) rfl (aD ?_));simp only[if_true];refine ak (eF ?_);refine ak (bA hz rfl (x:= .ref TO) rfl ?_);refine ak (ck hz (by simp) λg1 hz1 hs1=>?_);replace hz1:bR g1 z TI TO .ellipsis:=hz1;refine ak ?_;simp only[jH,i0,ix,kB];refine ak (ak (fP ?_));show am _ _ (cB (.ref i1) >>= _) _ _ _;cases hx:xs[n1]? with
 |none=>
  refine ak (ziJ hh (h1.at λo e=>hs1.extBut _ o D.i1z e) (hl1.at λo e=>hs1.extBut _ o D.l1z e) hx λg2 e hs2 he=>?_);obtain⟨oe,hoe,hce⟩:=he;have hz2:bR g2 z TI TO .ellipsis:=hs2 _ _ D.i1z.symm hz1;have hez:e≠z:=λx=>by subst x;rw[hz2]at hoe;cases hoe;simp at hce
  refine ck hz2 (by simp) λg3 _ hs3=>fin g3 e (λc o c1 _ c3 _ x=>hs3.extBut _ _ c1 (hs2 _ _ c3 (hs1.extBut _ _ c1 x))) ⟨oe,hs3.extBut _ _ hez hoe,hce⟩
 |some x=>
  have hy:ys[n2]? =none:=by rcases hend with h |h;rw[hx]at h;cases h;exact h
  refine ak (zfz (h1.at λo e=>hs1.extBut _ o D.i1z e) (hl1.at λo e=>hs1.extBut _ o D.l1z e) hx λg2 h12 hs2=>aD ?_);have hTO2:bJ g2 TO a b:=hs2.extBut _ _ D.TOi1 (hs1.extBut _ _ D.TOz hTO);refine ak (cR hTO2 rfl ?_);refine ak (i' hTO2 λg3 hTO3 hs3=>?_);refine ak (fS (aD ?_));refine ak (ak (fP ?_));show am _ _ (cB (.ref i2) >>= _) _ _ _;refine ak (ziJ hh (h2.at λo e=>hs3.extBut _ o D.TOi2.symm (hs2.extBut _ o D.i12.symm (hs1.extBut _ o D.i2z e))) (hl2.at λo e=>hs3.extBut _ o D.l2TO (hs2.extBut _ o D.l2i1 (hs1.extBut _ o D.l2z e))) hy λg4 e hs4 he=>?_);obtain⟨oe,hoe,hce⟩:=he;have hz4:bR g4 z TI TO .ellipsis:=hs4 _ _ D.i2z.symm (hs3.extBut _ _ D.TOz.symm (hs2.extBut _ _ D.i1z.symm hz1));have hez:e≠z:=λx=>by subst x;rw[hz4]at hoe;cases hoe;simp at hce
  refine ck hz4 (by simp) λg5 _ hs5=>fin g5 e (λc o c1 c2 c3 c4 x=>hs5.extBut _ _ c1 (hs4 _ _ c4 (hs3.extBut _ _ c2 (hs2.extBut _ _ c3 (hs1.extBut _ _ c1 x))))) ⟨oe,hs5.extBut _ _ hez hoe,hce⟩
end
noncomputable abbrev zH1 (k1:Bool) (h:Heap) (l1:Addr):Heap:=h.push (zee k1 l1)
noncomputable abbrev zH2 (k1 k2:Bool) (h:Heap) (l1 l2:Addr):Heap:=(zH1 k1 h l1).push (zee k2 l2)
noncomputable abbrev zH3 (k1 k2:Bool) (h:Heap) (l1 l2:Addr):Heap:=(zH2 k1 k2 h l1 l2).push { cls:= .type "tuple",data:= .seq #[.ref h.objs.size, .ref (zH1 k1 h l1).objs.size] }
noncomputable abbrev zH4 (k1 k2:Bool) (h:Heap) (l1 l2:Addr):Heap:=(zH3 k1 k2 h l1 l2).push { cls:= .type "tuple",data:= .seq #[.none, .none] }
noncomputable abbrev zH5 (k1 k2:Bool) (h:Heap) (l1 l2:Addr):Heap:=(zH4 k1 k2 h l1 l2).push { cls:= .type "zip",data:= .fields #[.none, .bool false, .bool false, .ref (zH2 k1 k2 h l1 l2).objs.size, .ref (zH3 k1 k2 h l1 l2).objs.size] }
theorem znL{k1 k2:Bool}(l1 l2:Addr) (xs ys:Array Value) :
  PySem.Meets (bV.«zip.__new__» ⟨[.type "zip", .ref l1, .ref l2],[]⟩) (λ_ R s=>SeqIs k1 s.heap l1 xs∧SeqIs k2 s.heap l2 ys∧R (.ok (.ret (.ref (zH4 k1 k2 s.heap l1 l2).objs.size))) { s with heap:=zH5 k1 k2 s.heap l1 l2 }):=
 .of_wp λprog w A R s h=>by
  obtain⟨hp,g,d,tk,os⟩:=s;obtain⟨hl1,hl2,h⟩:=h;have hsub:=sub_zip;have f1:∀{A:aM}{E:Value→ah→Prop}{Q:Value→ah→Prop},Q (.ref hp.objs.size) ⟨hp.push (zee k1 l1),g,d,tk,os⟩→am (ap prog w) A (cX (.ref l1)) Q E ⟨hp,g,d,tk,os⟩:=λq=>ziq (s:=⟨hp,g,d,tk,os⟩) hl1 q;have f2:∀{A:aM}{E:Value→ah→Prop}{Q:Value→ah→Prop},Q (.ref (hp.push (zee k1 l1)).objs.size) ⟨(hp.push (zee k1 l1)).push (zee k2 l2),g,d,tk,os⟩→am (ap prog w) A (cX (.ref l2)) Q E ⟨hp.push (zee k1 l1),g,d,tk,os⟩:=λq=>ziq (s:=⟨hp.push (zee k1 l1),g,d,tk,os⟩) (hl2.push _) q
  wp_walk using f1,f2
  exact⟨_,rfl,h⟩
section
variable {prog:aE}{w:aB}{A:aM}{E:Value→ah→Prop}{s:ah}
theorem zst{k1 k2:Bool}{l1 l2:Addr}{xs ys:Array Value}{Q:Value→ah→Prop}(hl1:SeqIs k1 s.heap l1 xs) (hl2:SeqIs k2 s.heap l2 ys)
  (h:∀g,bR g (s.heap.objs.size+4) (s.heap.objs.size+2) (s.heap.objs.size+3) .none→bJ g (s.heap.objs.size+2) (.ref s.heap.objs.size) (.ref (s.heap.objs.size+1))→
   bJ g (s.heap.objs.size+3) .none .none→SeqIt k1 g s.heap.objs.size l1 0→SeqIt k2 g (s.heap.objs.size+1) l2 0→g.objs.size=s.heap.objs.size+5→
   (∀c o,s.heap.get? c=ae o→g.get? c=ae o)→Q (.ref (s.heap.objs.size+4)) { s with heap:=g }):am (ap prog w) A (call (.type "zip") [.ref l1, .ref l2]) Q E s:=by
 refine callType_new PySem.F.called_zip (by decide) (PySem.F.typeCall_zip_2 _ _) (PySem.F.newCall_zip_2 _ _) (λobj=>PySem.F.args_object_init_3 obj _ _) PySem.F.entry_zip_new (znL (k1:=k1) (k2:=k2) l1 l2 xs ys) ⟨hl1,hl2,?_⟩;have z1:(zH1 k1 s.heap l1).objs.size=s.heap.objs.size+1:=cI ..;have z2:(zH2 k1 k2 s.heap l1 l2).objs.size=s.heap.objs.size+2:=by rw[cI,z1]
 have z3:(zH3 k1 k2 s.heap l1 l2).objs.size=s.heap.objs.size+3:=by rw[cI,z2]
 have z4:(zH4 k1 k2 s.heap l1 l2).objs.size=s.heap.objs.size+4:=by rw[cI,z3]
 have z5:(zH5 k1 k2 s.heap l1 l2).objs.size=s.heap.objs.size+5:=by rw[cI,z4]
 have g5:(zH5 k1 k2 s.heap l1 l2).get? (zH4 k1 k2 s.heap l1 l2).objs.size=ae _:=bi _ rfl;have g4:(zH5 k1 k2 s.heap l1 l2).get? (zH3 k1 k2 s.heap l1 l2).objs.size=ae _:=aH _ (bi _ rfl);have g3:(zH5 k1 k2 s.heap l1 l2).get? (zH2 k1 k2 s.heap l1 l2).objs.size=ae _:=aH _ (aH _ (bi _ rfl));have g2:(zH5 k1 k2 s.heap l1 l2).get? (zH1 k1 s.heap l1).objs.size=ae _:=aH _ (aH _ (aH _ (bi _ zga)));have g1:(zH5 k1 k2 s.heap l1 l2).get? s.heap.objs.size=ae _:=aH _ (aH _ (aH _ (aH _ (bi _ zga))));show _∧_;rw[z2,z3,z4]at g5;rw[z1,z2]at g3;rw[z3]at g4;rw[z1]at g2;rw[z4];exact⟨⟨_,g5,rfl⟩,h _ g5 g3 g4 (ziW g1) (ziW g2) z5 λc o x=>aH _ (aH _ (aH _ (aH _ (aH _ x))))⟩
end
def SqZ (k:Bool) (K:aj) (H:Hp) (a:Addr) (xs:List V):Prop:=if k=true then SqL K H a xs else H a=ae (.tup xs)
theorem SqZ.sq{k:Bool}{K:aj}{H:Hp}{a:Addr}{xs:List V}(h:SqZ k K H a xs):SqK k K H a xs:=by
 cases k with
 |true=>exact h
 |false=>exact .of h
theorem SeqIs.ob{k:Bool}{h:Heap}{a:Addr}{its:Array Value}(x:SeqIs k h a its):∃o n,h.get? a=ae o∧o.data= .seq its n∧(k=true→o.cls= .type "list"):=by
 cases k with
 |true=>obtain⟨o,ho,hc,n,hd⟩:=(show h.IsList a its from x);exact⟨o,n,ho,hd,λ_=>hc⟩
 |false=>obtain⟨o,ho,hc,n,hd⟩:=(show h.IsTuple a its from x);exact⟨o,n,ho,hd,λz=>by cases z⟩
theorem SeqIs.ne_fields{k:Bool}{h:Heap}{a b:Addr}{its:Array Value}{o:Obj}{vs:Array Value}(x:SeqIs k h a its) (e:h.get? b=ae o) (d:o.data= .fields vs):a≠b:=λz=>by
 subst z;obtain⟨o',n,ho,hd,_⟩:=x.ob;rw[ho]at e;cases e;rw[hd]at d;cases d
noncomputable def Itz (k1 k2:Bool) (K:aj) (a b:Addr):It:=
  ⟨λi H=>∃xs ys x y,SqZ k1 K H a xs∧SqZ k2 K H b ys∧xs[i]? =ae x∧ys[i]? =ae y,
   λi H v H'=>∃p x y,H p=none∧v= .ref p∧H'=upd H p (.tup [x,y])∧(∀xs,SqZ k1 K H a xs→xs[i]? =ae x)∧ ∀ys,SqZ k2 K H b ys→ys[i]? =ae y,
   λi H=>∃xs ys,SqZ k1 K H a xs∧SqZ k2 K H b ys∧(xs.length≤i∨ys.length≤i)⟩
structure ZipFar (z TI TO i1 i2:Addr):Prop where
  TIz:TI≠z
  TOz:TO≠z
  i1z:i1≠z
  i2z:i2≠z
  TITO:TI≠TO
  TIi1:TI≠i1
  TIi2:TI≠i2
  TOi1:TO≠i1
  TOi2:TO≠i2
  i12:i1≠i2
def zxG (k1 k2:Bool) (z TI TO i1 i2 a b:Addr) (i:Nat) (h:Heap):Prop:=bR h z TI TO .none∧bJ h TI (.ref i1) (.ref i2)∧(∃u v,bJ h TO u v)∧SeqIt k1 h i1 a i∧SeqIt k2 h i2 b i
section
variable {X:Cx}{pins:List (Addr×Obj)}{σ:St}{H:Hp}{s:ah}
theorem zjQ{k1 k2:Bool}{z TI TO i1 i2 a b:Addr}{i:Nat}{xs ys:List V}(I:Inv X pins σ H s) (hTO:H TO=none) (D:ZipFar z TI TO i1 i2) (st:zxG k1 k2 z TI TO i1 i2 a b i s.heap) (ha:SqZ k1 X.K H a xs) (hb:SqZ k2 X.K H b ys):iw z TI TO i1 i2 a b:=by
 obtain⟨hz,hTI,⟨u,v,hTOo⟩,h1,h2⟩:=st;obtain⟨o1,v1,e1,d1⟩:=h1.ob;obtain⟨o2,v2,e2,d2⟩:=h2.ob;obtain⟨its,_,pa,_⟩:=I.seq ha.sq;obtain⟨its2,_,pb,_⟩:=I.seq hb.sq;have nTO:∀{k:Bool}{c:Addr}{zs:List V}{its:Array Value},SqZ k X.K H c zs→SeqIs k s.heap c its→c≠TO:=λ{k c zs its} hc pc e=>by
  subst e;cases k with
  |false=>rw[show H c=ae (.tup zs) from hc]at hTO;cases hTO
  |true=>
   obtain⟨o,n,ho,_,hcl⟩:=pc.ob;rw[hTOo]at ho;cases ho;have:=hcl rfl;simp at this
 exact⟨D.TIz,D.TOz,D.i1z,D.i2z,D.TITO,D.TIi1,D.TIi2,D.TOi1,D.TOi2,D.i12,pa.ne_fields hz rfl,nTO ha pa,pa.ne_fields e1 d1,pa.ne_fields e2 d2,pb.ne_fields hz rfl,nTO hb pb,pb.ne_fields e1 d1,pb.ne_fields e2 d2⟩
end
theorem zrA{P:aE}{w:aB}{K:aj}{es:List Expr}{x1:Nat}{pos:aC}(k1 k2:Bool) (a b z TI TO i1 i2:Addr) (D:ZipFar z TI TO i1 i2):Turn P w K (.Tuple es x1 pos) (Itz k1 k2 K a b) [z,TI,TO,i1,i2] z (zxG k1 k2 z TI TO i1 i2 a b) where
  mem:=by simp
  obj:=λi h ⟨hz,hTI,⟨u,v,hTO⟩,h1,h2⟩ c hc=>by
    obtain⟨o1,v1,e1,d1⟩:=h1.ob;obtain⟨o2,v2,e2,d2⟩:=h2.ob;simp only[az,bx,or_false]at hc;rcases hc with rfl |rfl |rfl |rfl |rfl
    · exact⟨_,hz,λv z=>by cases z⟩
    · exact⟨_,hTI,λv z=>by cases z⟩
    · exact⟨_,hTO,λv z=>by cases z⟩
    · exact⟨_,e1,λv z=>by rw[d1]at z;cases z⟩
    · exact⟨_,e2,λv z=>by rw[d2]at z;cases z⟩
  keep:=λi h h' ⟨hz,hTI,⟨u,v,hTO⟩,h1,h2⟩ kk=>⟨kk z (by simp) _ hz,kk TI (by simp) _ hTI,⟨u,v,kk TO (by simp) _ hTO⟩,h1.at λo q=>kk i1 (by simp) o q,h2.at λo q=>kk i2 (by simp) o q⟩
  item:=by
    intro X hP hw hK hc i pins s σ H E I hf st hg;subst hP hw hK;obtain⟨xs,ys,x,y,ha,hb,hx,hy⟩:=hg;have Z:=zjQ I (hf TO (by simp)).1 D st ha hb;obtain⟨hz,hTI,⟨c0,d0,hTO⟩,h1,h2⟩:=st;obtain⟨its,rv,pa,_⟩:=I.seq ha.sq;obtain⟨its2,rv2,pb,_⟩:=I.seq hb.sq;obtain⟨u,hu,ru⟩:=rv.get hx;obtain⟨u2,hu2,ru2⟩:=rv2.get hy;refine zse Z hz hTI hTO h1 h2 pa pb (x:=u) (y:=u2) (by simpa using hu) (by simpa using hu2) λg hz1 hTO1 h11 h21 hp hz' kk=>⟨_,rfl,?_⟩;refine wpAny_letOwnedTupleGo_zip hz1 λg2 hz2 hs2=>?_;have hs2':∀c o,c≠z→g.get? c=ae o→g2.get? c=ae o:=λc o hc e=>(hs2.2 c hc).trans e;have kk2:∀c o,c∉ [z,TI,TO,i1,i2]→s.heap.get? c=ae o→g2.get? c=ae o:=λc o hc q=>by
      simp only[az,bx,or_false,not_or]at hc;exact hs2' c o hc.1 (kk c o hc.1 hc.2.2.1 hc.2.2.2.1 hc.2.2.2.2 q)
    have hn:=I.hok.fresh (au s.heap.objs.size);have hpz:s.heap.objs.size≠z:=cH (aJ hz);have ht2:g2.get? s.heap.objs.size=ae { cls:= .type "tuple",data:= .seq #[u,u2] }:=hs2' _ _ hpz hp;refine⟨.ref s.heap.objs.size,upd H s.heap.objs.size (.tup [x,y]),I.turnNew (fp:=[z,TI,TO,i1,i2]) (t':=s.toks) (au _) kk2 hf ⟨by show 2≤sizeLine;rw[dj];decide,[u,u2], .cons ru (.cons ru2 .nil),⟨_,ht2,rfl,_,rfl⟩⟩,rfl,
      ⟨_,x,y,hn,rfl,rfl,λzs hy=>by rw[I.seq_inj hy.sq ha.sq];exact hx,λzs hy'=>by rw[I.seq_inj hy'.sq hb.sq];exact hy⟩,
      ⟨hz2,hs2' _ _ D.TIz (kk _ _ D.TIz D.TITO D.TIi1 D.TIi2 hTI),⟨u,u2,hs2' _ _ D.TOz hTO1⟩,h11.at λo q=>hs2' _ o D.i1z q,h21.at λo q=>hs2' _ o D.i2z q⟩,λc hc=>?_⟩
    have hlt:∃o,s.heap.get? c=ae o:=by
      obtain⟨o1,v1,e1,d1⟩:=h1.ob;obtain⟨o2,v2,e2,d2⟩:=h2.ob;simp only[az,bx,or_false]at hc;rcases hc with rfl |rfl |rfl |rfl |rfl
      · exact⟨_,hz⟩
      · exact⟨_,hTI⟩
      · exact⟨_,hTO⟩
      · exact⟨_,e1⟩
      · exact⟨_,e2⟩
    obtain⟨o,ho⟩:=hlt;rw[zaz (bz (aJ ho))];exact(hf c hc).1
  done:=by
    intro X hP hw hK hc i pins s σ H E I hf st hg;subst hP hw hK;obtain⟨xs,ys,ha,hb,hx⟩:=hg;have Z:=zjQ I (hf TO (by simp)).1 D st ha hb;obtain⟨hz,hTI,⟨c0,d0,hTO⟩,h1,h2⟩:=st;obtain⟨its,rv,pa,_⟩:=I.seq ha.sq;obtain⟨its2,rv2,pb,_⟩:=I.seq hb.sq;have hl:=rv.length;have hl2:=rv2.length;refine ztP (I.ok.hd hc) Z hz hTI hTO h1 h2 pa pb ?_ λg eb=>⟨rfl,I.turnedL (fp:=[z,TI,TO,i1,i2]) (t':=s.toks) (λc o hc q=>?_) hf⟩
    · rcases hx with hx |hx
      · exact .inl (by simp;omega)
      · exact .inr (by simp;omega)
    · simp only[az,bx,or_false,not_or]at hc;exact eb c o hc.1 hc.2.2.1 hc.2.2.2.1 hc.2.2.2.2 q
  self:=λA i s Q E st h=>jN st.1 h
section
variable {X:Cx}{es:List Expr}{x1:Nat}{tpos:aC}
noncomputable def zAd (K:aj) (ta:TA):TI:=λσ H R=>ta σ H λvs H1=>∃k1 k2 a b xs ys,vs=[.ref a, .ref b]∧SqZ k1 K H1 a xs∧SqZ k2 K H1 b ys∧R (Itz k1 k2 K a b) H1
theorem zwA{a b:Expr}{ta:TA}{p pos:aC}(hg:Gl X "zip") (hm:X.mg "zip" =none) (ha:PA X [a,b] ta) (hs:ao [a,b] X.env=[(false,ay a X.env),(false,ay b X.env)]:=by rfl) (hs2:ao [b] X.env=[(false,ay b X.env)]:=by rfl):PI X (.Tuple es x1 tpos) (.Call (.Name "zip" p) [a,b] [] pos) (zAd X.K ta):=by
 intro pins s σ H R I h;refine Call_ (zik I hg hm boot_zip (fW (thn (ha pos pins s σ H _ I h) λus s1 ⟨vs,H1,I1,r1,q1⟩=>?_) (by rw[hs,hs2]) (by rw[hs2];rfl)));obtain⟨k1,k2,a,b,xs,ys,e,hq1,hq2,q⟩:=q1;subst e;cases r1 with
 |cons r rr=>
  cases rr with
  |cons r' rr=>
   cases rr;cases(show _=a_ a from r);cases(show _=a_ b from r');obtain⟨its,rv,pl,_⟩:=I1.seq hq1.sq;obtain⟨its2,rv2,pl2,_⟩:=I1.seq hq2.sq;refine zst pl pl2 λg hz hTI hTO h1 h2 hz' kk=>jN hz ?_;have I2:Inv X pins σ H1 { s1 with heap:=g }:=I1.kept (t':=s1.toks) kk;have ne:∀(n i j:Nat),i≠j→n+i≠n+j:=λn i j h e=>h (Nat.add_left_cancel e);have D:ZipFar (s1.heap.objs.size+4) (s1.heap.objs.size+2) (s1.heap.objs.size+3) s1.heap.objs.size (s1.heap.objs.size+1):=
    ⟨ne _ 2 4 (by decide),ne _ 3 4 (by decide),ne _ 0 4 (by decide),ne _ 1 4 (by decide),ne _ 2 3 (by decide),ne _ 2 0 (by decide),ne _ 2 1 (by decide),ne _ 3 0 (by decide),ne _ 3 1 (by decide),ne _ 0 1 (by decide)⟩
   refine⟨_,_,_,_,H1,rfl,I2,zrA k1 k2 a b _ _ _ _ _ D,⟨hz,hTI,⟨_,_,hTO⟩,h1,h2⟩,λc hc=>?_,q⟩;have hb':s1.heap.objs.size≤c:=by
    simp only[az,bx,or_false]at hc;rcases hc with rfl |rfl |rfl |rfl |rfl
    ·exact fB _ _
    ·exact fB _ _
    ·exact fB _ _
    ·exact au _
    ·exact fB _ _
   exact I1.fpOk hb' (I1.hok.fresh hb')
noncomputable def pairs:List W→List W→List W
 |x::xs,y::ys=> .tup [x,y]::pairs xs ys
 |_,_=>[]
theorem zjE:∀{xs ys:List W}{i:Nat}{u:W},(pairs xs ys)[i]? =ae u→ ∃x y,xs[i]? =ae x∧ys[i]? =ae y∧u= .tup [x,y]
 | [],_,_,_,h=>by simp [pairs]at h
 |_::_,[],_,_,h=>by simp [pairs]at h
 |x::xs,y::ys,0,u,h=>by
  simp [pairs]at h;exact⟨x,y,rfl,rfl,h.symm⟩
 |x::xs,y::ys,i+1,u,h=>by simpa using zjE (xs:=xs) (ys:=ys) (i:=i) (u:=u) (by simpa [pairs]using h)
theorem zkg:∀{xs ys:List W},(pairs xs ys).length=min xs.length ys.length
 | [],_=>by simp [pairs]
 |_::_,[]=>by simp [pairs]
 |x::xs,y::ys=>by simp [pairs,zkg (xs:=xs) (ys:=ys)]
theorem zwr{K:aj}{k1 k2:Bool}{a b:Addr}{ws us:List W}{G:Sto→Prop}{H0:Hp}{S0:Sto}(h:∀S H,Ext H0 S0 H S→RepS K H S→G S→(∃vs,SqZ k1 K H a vs∧Reps K H ws vs)∧ ∃vs,SqZ k2 K H b vs∧Reps K H us vs):ItW K (Itz k1 k2 K a b) (pairs ws us) G H0 S0:=λi S H e hS hG=>by
 obtain⟨⟨xs,hq,r⟩,⟨ys,hq2,r2⟩⟩:=h S H e hS hG;refine⟨λu eu=>?_,λhl=>⟨xs,ys,hq,hq2,?_⟩⟩
 ·obtain⟨x,y,ex,ey,rfl⟩:=zjE eu;obtain⟨v,ev,rv⟩:=r.get ex;obtain⟨v2,ev2,rv2⟩:=r2.get ey;refine⟨⟨xs,ys,v,v2,hq,hq2,ev,ev2⟩,λx H' ⟨p,y1,y2,hp,e1,e2,e3,e4⟩=>?_⟩;subst e1 e2;have f1:=e3 xs hq;have f2:=e4 ys hq2;rw[ev]at f1;cases f1;rw[ev2]at f2;cases f2;exact⟨.new hp,hS.new hp, .tup zay (.cons (rv.ext (.new (S:=S) hp)) (.cons (rv2.ext (.new (S:=S) hp)) .nil))⟩
 ·rw[zkg]at hl;rw[←r.length,←r2.length];omega
theorem znh{K:aj}{H:Hp}{S:Sto}{w:W}{v:V}{Q:List W→(Sto→Prop)→Prop}(r:Rep K H w v) (hS:RepS K H S) (h:zof w S Q) :
  ∃k a ws G,v= .ref a∧G S∧(∀S' H',Ext H S H' S'→RepS K H' S'→G S'→ ∃vs,SqZ k K H' a vs∧Reps K H' ws vs)∧Q ws G:=by
 cases r with
 |tup f hs=>exact⟨false,_,_,_,rfl,trivial,λS' H' e hS' _=>⟨_,e.tup _ _ f,hs.ext e⟩,h⟩
 |ref a=>
  obtain⟨ws,ea,h⟩:=zbk h;exact⟨true,_,ws,_,rfl,ea,λS' H' e hS' g=>by
   obtain⟨vs,f,hs⟩:=hS' a _ g;exact⟨vs, .of f,hs⟩,h⟩
 |scr f=>exact⟨true,_,_,_,rfl,trivial,λS' H' e hS' _=>⟨_,(e.fz f).sq,Reps.ofInts _⟩,h⟩
 |_=>exact h.elim
noncomputable def zsV (t u:WE):WI:=λE σ S Q=>t E σ S λx S1=>u E σ S1 λy S2=>zof x S2 λxs G=>zof y S2 λys G'=>Q (pairs xs ys) (λS'=>G S'∧G' S') S2
theorem zkE{a b:Expr}{ta tb:WE}{p pos:aC}(hg:Gl X "zip") (hm:X.mg "zip" =none) (ha:JE X a ta) (hb:JE X b tb) (hs:ao [a,b] X.env=[(false,ay a X.env),(false,ay b X.env)]:=by rfl) (hs2:ao [b] X.env=[(false,ay b X.env)]:=by rfl)
  (h3:ao [a,b] X.env=(false,ay a X.env)::ao [b] X.env:=by rfl) (h4:ao [b] X.env=(false,ay b X.env)::ao [] X.env:=by rfl):JI X (.Tuple es x1 tpos) (.Call (.Name "zip" p) [a,b] [] pos) (zsV ta tb):=λE hE=>
 (zwA hg hm (zdu (ha E hE) (zdu (hb E hE) pa_nil h4) h3) hs hs2).mono λσ H R ⟨σW,S,QW,hσ,hS,ht,hR⟩=>⟨σW,S,_,hσ,hS,ht,λx S1 v H1 e1 r1 hS1 h1=>⟨σW,S1,_,hσ.ext e1,hS1,h1,λy S2 v2 H2 e2 r2 hS2 h2=>by
  obtain⟨k1,a,ws,G,rfl,hG,hq,h⟩:=znh (r1.ext e2) hS2 h2;obtain⟨k2,b,us,G',rfl,hG',hq',h⟩:=znh r2 hS2 h;obtain⟨vs,hv,_⟩:=hq S2 H2 .refl hS2 hG;obtain⟨vs',hv',_⟩:=hq' S2 H2 .refl hS2 hG';exact⟨k1,k2,a,b,vs,vs',rfl,hv,hv',hR _ _ S2 _ H2 (e1.trans e2) hS2 ⟨hG,hG'⟩ (zwr λS' H' e hS' g=>⟨hq S' H' e hS' g.1,hq' S' H' e hS' g.2⟩) h⟩⟩⟩
end
section
noncomputable def zwn (hi:Int) (n:Nat):List W:=(aU n).map λ(i:Nat)=> .int (hi - (i:Int))
noncomputable def zzX (t:WA):WI:=λE σ S Q=>t E σ S λws S1=>match ws with
 | [.int i, .int j, .int c]=>c= -1∧(-(2 ^ 62)≤i∧i<2 ^ 62∧ -(2 ^ 62)≤j∧j<2 ^ 62)∧Q (zwn i (i - j).toNat) (λ_=>True) S1
 |_=>False
end
section
variable {X:Cx}{e:Expr}{es:List Expr}{t:WA}{p pos:aC}
noncomputable def zxM:WF:=λws S Q=>match ws with
 | [.int i]=>Q (.int i) S
 | [.bl b]=>Q (.int (if b then 1 else 0)) S
 |_=>False
theorem zqb{K:aj}:zkU K (λxs H Q=>(∃i,xs=[.int i]∧Q (.int i) H)∨ ∃k,xs=[.bl k]∧Q (.int (if k then 1 else 0)) H) zxM:=λH vs ws S Q QW r hS h hQ=>by
 cases r with
 |nil=>exact h.elim
 |cons r1 r2=>
  cases r2 with
  |cons _ _=>cases r1<;>exact h.elim
  |nil=>
   cases r1 with
   |int i=>exact .inl ⟨i,rfl,hQ _ S _ H .refl (.int _) hS h⟩
   |bl b=>exact .inr ⟨b,rfl,hQ _ S _ H .refl (.int _) hS h⟩
   |_=>exact h.elim
theorem ztO (hg:Gl X "int") (hm:X.mg "int" =none) (ha:JA X (e::es) t)
  (he:ao (e::es) X.env=(false,ay e X.env)::ao es X.env:=by rfl) (hpl:(aP pos (ao es X.env)).any (·.1)=false:=by rfl):JE X (.Call (.Name "int" p) (e::es) [] pos) (wB zxM t):=
 zxm zpd zqb hg hm c7 ha (by decide) (by decide) he hpl
noncomputable def zyq:WF:=λws S Q=>match ws with
 | [.int i, .int j]=>Q (.int (if j > i then j else i)) S
 |_=>False
noncomputable def zkM:WF:=λws S Q=>match ws with
 | [.int i, .int j]=>Q (.int (if j<i then j else i)) S
 |_=>False
theorem zod{K:aj}:zkU K (λxs H Q=>∃i j,xs=[.int i, .int j]∧Q (.int (if j<i then j else i)) H) zkM:=λH vs ws S Q QW r hS h hQ=>by
 unfold zkM at h;split at h
 ·cases r with
  |cons r1 r2=>cases r2 with
   |cons r2 r3=>cases r3;cases r1;cases r2;exact⟨_,_,rfl,hQ _ S _ H .refl (.int _) hS h⟩
 ·exact h.elim
theorem zoK{id:String}{r:List V→Hp→VK→Prop}{f:WF}{x:Str}(hc:X.calm=true→CallR X (.builtin id) r) (hw:zkU X.K r f) (hg:Gl X x) (hm:X.mg x=none) (hv:bQ x=ae (.builtin id)) (ha:JA X (e::es) t) (hn:x≠ "__name__" :=by decide) (hdb:(x == ("__debug__" :Str))=false:=by decide)
  (he:ao (e::es) X.env=(false,ay e X.env)::ao es X.env:=by rfl) (hpl:(aP pos (ao es X.env)).any (·.1)=false:=by rfl) (hcl:X.calm=true:=by rfl):JE X (.Call (.Name x p) (e::es) [] pos) (wB f t):=λE hE=>zsC (hc hcl) hw hg hm hv ha hn hdb he hpl E hE
theorem zqx (hg:Gl X "min") (hm:X.mg "min" =none) (ha:JA X (e::es) t)
  (he:ao (e::es) X.env=(false,ay e X.env)::ao es X.env:=by rfl) (hpl:(aP pos (ao es X.env)).any (·.1)=false:=by rfl) (hcl:X.calm=true:=by rfl):JE X (.Call (.Name "min" p) (e::es) [] pos) (wB zkM t):=zoK zpc zod hg hm PyProof.Rows.boot_min ha (by decide) (by decide) he hpl hcl
theorem zjy{tl:WL}(hg:Gl X "tuple") (hm:X.mg "tuple" =none) (ha:JL X e tl)
  (he:ao [e] X.env=(false,ay e X.env)::ao [] X.env:=by rfl) (hpl:(aP pos (ao [] X.env)).any (·.1)=false:=by rfl):JE X (.Call (.Name "tuple" p) [e] [] pos) (wBL zhD tl):=ztq zfa zlh hg hm f_ ha (by decide) (by decide) he hpl
theorem zdo (hg:Gl X "tuple") (hm:X.mg "tuple" =none) (ha:JA X (e::es) t)
  (he:ao (e::es) X.env=(false,ay e X.env)::ao es X.env:=by rfl) (hpl:(aP pos (ao es X.env)).any (·.1)=false:=by rfl):JE X (.Call (.Name "tuple" p) (e::es) [] pos) (wB zdp t):=zxm zfa zlr hg hm f_ ha (by decide) (by decide) he hpl
end
theorem zqU{K:aj}:∀T∈ ["int", "bool", "str", "tuple", "list"],∀A∈ ["NoneType", "bool", "int", "str", "tuple", "list"],eM K (.type A) (.type T)=ae (zcd A T):=by
 intro T hT A hA;simp only[az,bx,or_false]at hT hA;rcases hT with rfl |rfl |rfl |rfl |rfl<;>rcases hA with rfl |rfl |rfl |rfl |rfl |rfl<;>rfl
theorem gl0:∀(ws:List W) (σ:WSt) (S:Sto) (P:WSt→Sto→Prop),zbT ws σ S P→ws.length=0:=λws σ S P h=>by
 cases ws with
 |nil=>rfl
 |cons _ _=>exact h.elim
theorem glS{i n:Nat}{u:WGs}(h:∀(ws:List W) (σ:WSt) (S:Sto) (P:WSt→Sto→Prop),u ws σ S P→ws.length=n):∀(ws:List W) (σ:WSt) (S:Sto) (P:WSt→Sto→Prop),zat (wGN i) u ws σ S P→ws.length=n+1:=λws σ S P q=>by
 cases ws with
 |nil=>exact q.elim
 |cons w ws=>exact congrArg (· +1) (h _ _ _ _ q)
noncomputable def zaR:WSp:=λ_ _ _ _=>False
theorem zvO{P:aE}{w:aB}{K:aj}{mg:Str→Option Value}{base:Heap}{f:Addr}{fd:bC}{ps:List Str}{k:Nat}:FnOk P w K mg base (CX1 P w) k f fd ps (zda K zaR):=
 ⟨λvs H Q E ⟨_,_,_,_,_,_,h,_⟩=>h.elim,λA outer s H args us vs Q E _ _ _ _ ⟨_,_,_,_,_,_,h,_⟩=>h.elim⟩
section
variable {X:Cx}{a b:Expr}{pos:aC}{ta tb:WE}{la lb:WL}
noncomputable def zti (t:WL) (u:WE):WE:=λE σ S Q=>t E σ S λws S1=>u E σ S1 λy S2=>match y with
 | .int i=>match atI ws i with
  |some w=>Q w S2
  |none=>False
 |_=>False
theorem zmS (ha:JL X a la) (hb:JE X b tb) (hs:zlm b:=by intro _ _;rfl):JE X (.Subscript a b pos) (zti la tb):=λE hE=>
 (zvU zte (ha E hE) (hb E hE) hs).mono λσ H Q ⟨σW,S,QW,hσ,hS,ht,hQ⟩=>⟨σW,S,_,hσ,hS,ht,λws S1 vs p H1 e1 fp ep np r1 hS1 h1=>⟨σW,S1,_,hσ.ext e1,hS1,h1,λy S2 v2 H2 e2 r2 hS2 h2=>by
  cases r2 with
  |int i=>
   dsimp only at h2;split at h2
   ·obtain⟨v,ev,r⟩:=zkR (r1.ext e2) ‹_›;exact .inl ⟨p,vs,i,v,rfl,rfl, .of (e2.fr p _ ep np).1,ev,hQ _ S2 _ H2 (e1.trans e2) r hS2 h2⟩
   ·exact h2.elim
  |_=>exact h2.elim⟩⟩
noncomputable def zrV (t:WE) (u:WL):WL:=λE σ S Q=>t E σ S λx S1=>u E σ S1 λys S2=>match x with
 | .ref a=>zcu S2 a λxs=>xs.length+ys.length≤sizeLine∧Q (xs++ys) S2
 |_=>False
noncomputable def znQ (t u:WL):WL:=λE σ S Q=>t E σ S λxs S1=>u E σ S1 λys S2=>xs.length+ys.length≤sizeLine∧Q (xs++ys) S2
noncomputable def zol (t:WL) (u:WE):WL:=λE σ S Q=>t E σ S λxs S1=>u E σ S1 λy S2=>match y with
 | .ref a=>zcu S2 a λys=>xs.length+ys.length≤sizeLine∧Q (xs++ys) S2
 |_=>False
theorem zoU (ha:JE X a ta) (hb:JL X b lb):JL X (.BinOp a .Add b pos) (zrV ta lb):=λE hE=>
 (zoG zmf (ha E hE) (hb E hE)).mono λσ H Q ⟨σW,S,QW,hσ,hS,ht,hQ⟩=>⟨σW,S,_,hσ,hS,ht,λw1 S1 v1 H1 e1 r1 hS1 h1=>⟨σW,S1,_,hσ.ext e1,hS1,h1,λys S2 us q H2 e2 fq eq nq r2 hS2 h2=>by
  cases r1 with
  |ref p=>
   obtain⟨xs,ea,h⟩:=zbk h2;obtain⟨vs,f1,q1⟩:=hS2 p _ ea;exact⟨p,q,vs,us,rfl,rfl,f1,eq,by rw[←q1.length,←r2.length];exact h.1,λp hp=>hQ _ S2 _ p _ ((e1.trans e2).trans (.new hp)) ((e1.trans e2).free hp) zay (hS2.free hp) ((q1.append r2).ext (.new (S:=S2) hp)) (hS2.new hp) h.2⟩
  |_=>exact h2.elim⟩⟩
theorem zkZ (ha:JL X a la) (hb:JL X b lb):JL X (.BinOp a .Add b pos) (znQ la lb):=λE hE=>
 (zoG zmf (ha E hE) (hb E hE)).mono λσ H Q ⟨σW,S,QW,hσ,hS,ht,hQ⟩=>⟨σW,S,_,hσ,hS,ht,λxs S1 vs p H1 e1 fp ep np r1 hS1 h1=>⟨σW,S1,_,hσ.ext e1,hS1,h1,λys S2 us q H2 e2 fq eq nq r2 hS2 h2=>
  ⟨p,q,vs,us,rfl,rfl,(e2.fr p _ ep np).1,eq,by rw[←r1.length,←r2.length];exact h2.1,λz hz=>hQ _ S2 _ z _ ((e1.trans e2).trans (.new hz)) ((e1.trans e2).free hz) zay (hS2.free hz) (((r1.ext e2).append r2).ext (.new (S:=S2) hz)) (hS2.new hz) h2.2⟩⟩⟩
theorem zoB (ha:JL X a la) (hb:JE X b tb):JL X (.BinOp a .Add b pos) (zol la tb):=λE hE=>
 (zoG zmf (ha E hE) (hb E hE)).mono λσ H Q ⟨σW,S,QW,hσ,hS,ht,hQ⟩=>⟨σW,S,_,hσ,hS,ht,λxs S1 vs p H1 e1 fp ep np r1 hS1 h1=>⟨σW,S1,_,hσ.ext e1,hS1,h1,λy S2 v2 H2 e2 r2 hS2 h2=>by
  cases r2 with
  |ref q=>
   obtain⟨ys,ea,h⟩:=zbk h2;obtain⟨us,f2,q2⟩:=hS2 q _ ea;exact⟨p,q,vs,us,rfl,rfl,(e2.fr p _ ep np).1,f2,by rw[←r1.length,←q2.length];exact h.1,λz hz=>hQ _ S2 _ z _ ((e1.trans e2).trans (.new hz)) ((e1.trans e2).free hz) zay (hS2.free hz) (((r1.ext e2).append q2).ext (.new (S:=S2) hz)) (hS2.new hz) h.2⟩
  |_=>exact h2.elim⟩⟩
noncomputable def zrL (t:WL) (u:WE):WL:=λE σ S Q=>t E σ S λxs S1=>u E σ S1 λy S2=>match y with
 | .int k=>(-(2 ^ 63)≤k∧k<2 ^ 63∧xs.length*k.toNat≤sizeLine)∧Q (aO k.toNat xs).flatten S2
 |_=>False
theorem Reps.rep{K:aj}{H:Hp}{ws:List W}{vs:List V}(h:Reps K H ws vs):∀k:Nat,Reps K H (aO k ws).flatten (aO k vs).flatten
 |0=> .nil
 |k+1=>by
  rw[cg,cg,dy,dy];exact h.append (Reps.rep h k)
theorem zxN (ha:JL X a la) (hb:JE X b tb):JL X (.BinOp a .Mult b pos) (zrL la tb):=λE hE=>
 (zoG zxl (ha E hE) (hb E hE)).mono λσ H Q ⟨σW,S,QW,hσ,hS,ht,hQ⟩=>⟨σW,S,_,hσ,hS,ht,λxs S1 vs p H1 e1 fp ep np r1 hS1 h1=>⟨σW,S1,_,hσ.ext e1,hS1,h1,λy S2 v2 H2 e2 r2 hS2 h2=>by
  cases r2 with
  |int k=>
   obtain⟨⟨k1,k2,k3⟩,h⟩:=h2;exact⟨p,k,vs,rfl,rfl,(e2.fr p _ ep np).1,k1,k2,by rw[←r1.length];exact k3,λz hz=>hQ _ S2 _ z _ ((e1.trans e2).trans (.new hz)) ((e1.trans e2).free hz) zay (hS2.free hz) (((r1.ext e2).rep k.toNat).ext (.new (S:=S2) hz)) (hS2.new hz) h⟩
  |_=>exact h2.elim⟩⟩
end
theorem zre{K:aj}{H:Hp}{a:Addr}{ns:List Int}{c:WSp}{E:XK}(hO:zxY H) (hS:SqL K H a (ns.map V.int)) (h:c [.scr ns] (λ_=>none) (λw _=>w= .bl true) (λ_ _=>False)):zda K c [.ref a] H (λv _=>v= .bl true) E:=by
 have fz:FzL K H a (ns.map V.int):=by
  rcases hS with(hS |⟨o,hS⟩) |hS
  ·rcases hO a with z |⟨o,xs,z⟩
   ·rw[hS]at z;cases z
   ·rw[hS]at z;cases z
  ·exact .inl ⟨o,hS⟩
  ·exact .inr hS
 refine⟨[.scr ns],λ_=>none,_,λ_ _=>False, .one (.scr fz),(λa o e=>by cases e),h,λw S v H' e r hS' q=>?_,λ_ _ _ _ _ _ z=>z.elim⟩
 subst q;cases r;rfl
section
noncomputable def zyF:W2
 | .tup xs, .int k,S,Q=>(xs≠ []∧ -(2 ^ 63)≤k∧k<2 ^ 63∧xs.length*k.toNat≤sizeLine)∧Q (.tup (aO k.toNat xs).flatten) S
 |_,_,_,_=>False
end
noncomputable def zgk (kvs:List (List Int×W)) (k:List Int):Option W:=(kvs.find? λkv=>decide (kv.1=k)).map (·.2)
noncomputable def zuV (kvs:List (List Int×W)) (k:List Int) (v:W):List (List Int×W):=
 if(kvs.any λkv=>decide (kv.1=k))=true then kvs.map (λkv=>if kv.1=k then(kv.1,v) else kv) else kvs++[(k,v)]
noncomputable def zcf:List W→Option (List Int)
 | []=>ae []
 | .int i::ws=>(zcf ws).map (i:: ·)
 |_=>none
noncomputable def zqq:W→Option (List Int)
 | .tup ws=>zcf ws
 |_=>none
def zsn (S:Sto) (a:Addr) (P:List (List Int×W)→Prop):Prop:=match S a with
 |some (.dct kvs)=>P kvs
 |_=>False
theorem zuW{S:Sto}{a:Addr}{P:List (List Int×W)→Prop}(h:zsn S a P):∃kvs,S a=ae (.dct kvs)∧P kvs:=by
 unfold zsn at h;split at h
 ·exact⟨_, ‹_›,h⟩
 ·exact h.elim
theorem zlN{S:Sto}{a:Addr}{kvs:List (List Int×W)}{P:List (List Int×W)→Prop}(e:S a=ae (.dct kvs)):zsn S a P=P kvs:=by unfold zsn;rw[e]
section
variable {K:aj}{H:Hp}
noncomputable abbrev RepD (K:aj) (H:Hp):List (List Int×W)→List (List Key×V)→Prop:=aN λq p=>p.1=q.1.map Sum.inl∧Rep K H q.2 p.2
theorem ziA:∀{a b:List Int},a.map (Sum.inl:Int→Key)=b.map Sum.inl→a=b
 | [],[],_=>rfl
 | [],_::_,h=>by simp at h
 |_::_,[],h=>by simp at h
 |x::xs,y::ys,h=>by
  simp only[aA,i_,Sum.inl.injEq]at h;rw[h.1,ziA h.2]
theorem RepD.val{kvs:List (List Int×W)}{ps:List (List Key×V)}(r:RepD K H kvs ps) (k:List Int):(∀w,zgk kvs k=ae w→ ∃v,zjg ps (k.map Sum.inl)=ae v∧Rep K H w v)∧(zgk kvs k=none→zjg ps (k.map Sum.inl)=none):=by
 induction r with
 |nil=>exact⟨λw h=>by simp [zgk]at h,λ_=>rfl⟩
 | @cons q p kvs ps h t ih=>
  by_cases hk:q.1=k
  ·have e:p.1=k.map Sum.inl:=by rw[h.1,hk]
   rw[zfn e];have ew:zgk (q::kvs) k=ae q.2:=by simp [zgk,bF,hk]
   rw[ew];exact⟨λw z=>by cases z;exact⟨_,rfl,h.2⟩,λz=>by cases z⟩
  ·have e:¬p.1=k.map Sum.inl:=by rw[h.1];exact λz=>hk (ziA z)
   rw[zfD e];have ew:zgk (q::kvs) k=zgk kvs k:=by simp [zgk,bF,hk]
   rw[ew];exact ih
theorem RepD.any{kvs:List (List Int×W)}{ps:List (List Key×V)}(r:RepD K H kvs ps) (k:List Int):(ps.any λkv=>decide (kv.1=k.map Sum.inl))=kvs.any λkv=>decide (kv.1=k):=by
 induction r with
 |nil=>rfl
 | @cons q p kvs ps h t ih=>
  rw[cr,cr,ih];congr 1;apply decide_eq_decide.mpr;rw[h.1];exact⟨ziA,λz=>by rw[z]⟩
theorem RepD.put{kvs:List (List Int×W)}{ps:List (List Key×V)}(r:RepD K H kvs ps) (k:List Int) {w:W}{v:V}(rw':Rep K H w v):RepD K H (zuV kvs k w) (zhK ps (k.map Sum.inl) v):=by
 unfold zuV zhK;rw[r.any k];split
 ·rename_i hany;clear hany
  induction r with
  |nil=>exact .nil
  | @cons q p kvs ps h t ih=>
   rw[aA,aA];refine .cons ?_ ih;by_cases hk:q.1=k
   ·rw[if_pos hk,if_pos (by rw[h.1,hk])];exact⟨h.1,rw'⟩
   ·rw[if_neg hk,if_neg (by rw[h.1];exact λz=>hk (ziA z))];exact h
 ·rename_i hany;clear hany
  induction r with
  |nil=>exact .cons ⟨rfl,rw'⟩ .nil
  |cons h t ih=>exact .cons h ih
theorem RepD.length{kvs:List (List Int×W)}{ps:List (List Key×V)}(r:RepD K H kvs ps):kvs.length=ps.length:=du r
theorem zid:∀{ws:List W}{vs:List V}{k:List Int},Reps K H ws vs→zcf ws=ae k→vs=(k.map (Sum.inl:Int→Key)).map kV
 | [],_,_, .nil,e=>by cases e;rfl
 |w::ws,_,k, .cons r rs,e=>by
  cases r with
  |int i=>
   cases q:zcf ws with
   |none=>simp [zcf,q]at e
   |some ks=>
    simp only[zcf,q,d7,bB]at e;subst e;rw[zid rs q];rfl
  |_=>simp [zcf]at e
theorem znj{w:W}{v:V}{k:List Int}(r:Rep K H w v) (e:zqq w=ae k):∃b,v= .ref b∧H b=ae (.tup ((k.map (Sum.inl:Int→Key)).map kV)):=by
 cases r with
 |tup f hs=>exact⟨_,rfl,by rw[f,zid hs e]⟩
 |_=>simp [zqq]at e
theorem zuv{S:Sto}{a:Addr}{kvs:List (List Int×W)}{y:V}{wy:W}{k:List Int}(hS:RepS K H S) (e:S a=ae (.dct kvs)) (ry:Rep K H wy y) (ek:zqq wy=ae k):∃o,DGet H a y o∧(zgk kvs k=none→o=none)∧ ∀w,zgk kvs k=ae w→ ∃v,o=ae v∧Rep K H w v:=by
 obtain⟨ps,e1,r⟩:=hS a _ e;obtain⟨b,rfl,eb⟩:=znj ry ek;have rv:=RepD.val r k;exact⟨zjg ps (k.map Sum.inl), .t e1 eb,rv.2,rv.1⟩
end
noncomputable def zxA (neg:Bool):W2:=λy x S Q=>match x with
 | .ref a=>match zqq y with
  |some k=>zsn S a λkvs=>Q (.bl (if neg then !(zgk kvs k).isSome else(zgk kvs k).isSome)) S
  |none=>False
 |_=>False
noncomputable def zyL:W2:=λx y S Q=>match x with
 | .ref a=>match zqq y with
  |some k=>zsn S a λkvs=>match zgk kvs k with
   |some w=>Q w S
   |none=>False
  |none=>False
 |_=>False
section
variable {X:Cx}{a b o:Expr}{pos:aC}{ta tb:WE}
noncomputable def zzP (neg:Bool):R2:=λy x H Q=>∃a o,x= .ref a∧DGet H a y o∧Q (.bl (if neg then !o.isSome else o.isSome)) H
theorem zvA (hu:X.A.units+1<cLine):OpR X (bG .In) (zzP false):=by
 intro pins s σ H x y v u Q I rx ry h;obtain⟨a,o,rfl,g,q⟩:=h;cases ry;exact zAG hu I g rx λs3 I3=>⟨.bl o.isSome,H,I3,rfl,q⟩
theorem zvh{K:aj}{neg:Bool}:OpW K (zzP neg) (zxA neg):=λH x y wx wy S Q QW rx ry hS h hQ=>by
 unfold zxA at h;split at h
 ·split at h
  ·rename_i k ek;obtain⟨kvs,ea,h⟩:=zuW h;cases ry;obtain⟨o,g,g0,g1⟩:=zuv hS ea rx ek;have eo:o.isSome=(zgk kvs k).isSome:=by
    cases q:zgk kvs k with
    |none=>rw[g0 q];rfl
    |some w=>obtain⟨v,ev,_⟩:=g1 w q;rw[ev];rfl
   exact⟨_,o,rfl,g,by rw[eo];exact hQ _ S _ H .refl (.bl _) hS h⟩
  ·exact h.elim
 ·exact h.elim
theorem zvR{k:Nat}(hr:Room k X.A) (ha:JE X a ta) (hb:JE X b tb) (hm:c8 .In b=false:=by with_unfolding_all rfl):JT X (.Compare a [.In] [b] pos) (wTb (wOp (zxA false) ta tb)):=
 zfG (zvA (by have:=hr.units;omega)) zvh ha hb hm
end
section
variable {X:Cx}{o e:Expr}{to:WE}{tl:WL}{apos cpos p pos:aC}
def ztm:V→List V→Hp→VK→Prop:=λx vs H Q=>∃z:Str,x= .str z∧vs=[]∧z.length≤5592405∧Q (.str (dm z)) H
theorem zsc:MtR X "str.upper" ztm:=by
 intro pins s σ H x vs v us Q I rx rv h;obtain⟨z,rfl,rfl,hz,q⟩:=h;obtain⟨t,rfl⟩:=rx;cases rv;exact SCL.upper hz λ_=>⟨.str (dm z),H,I.tok _,⟨_,rfl⟩,q⟩
noncomputable def zmy:WMf:=λw ws S Q=>match w,ws with
 | .str z,[]=>z.length≤5592405∧Q (.str (dm z)) S
 |_,_=>False
theorem zqM{K:aj}:MtW K ztm zmy:=λH x w vs ws S Q QW r rs hS h hQ=>by
 cases r with
 |str z=>
  cases rs with
  |nil=>exact⟨z,rfl,rfl,h.1,hQ _ S _ H .refl (.str _) hS h.2⟩
  |cons _ _=>exact h.elim
 |_=>exact h.elim
theorem zrK (ho:JE X o to) (hbase:cF o "upper" X.env (ay o X.env)=ay o X.env:=by rfl) (hline:(apos.endLine == cpos.line)=true:=by rfl):JE X (.Call (.Attribute o "upper" apos) [] [] cpos) (wM rvS zmy to waNil):=
 zyz j_ PySem.F.slot_str_upper PySem.F.type_str_upper zsT zsc zqM ho hbase hline
theorem zgL:∀(ns:List Int) (n:Nat),n≤ns.length→fD (λi=>ns.getD i 0) n=(ns.take n).sum
 |ns,0,_=>by simp [fD]
 |ns,n+1,h=>by
  rw[fD,zgL ns n (by omega),iQ,List.sum_append];congr 1;rw[br,a8 (by omega)];simp
theorem zqt (hc:X.calm=true):CallR X (.builtin "sum") (λxs H Q=>∃(p:Addr) (ns:List Int),xs=[.ref p]∧SqL X.K H p (ns.map V.int)∧Q (.int ns.sum) H):=by
 intro pins s σ H xs us Q I r h;obtain⟨p,ns,rfl,hq,q⟩:=h;obtain⟨u,rfl,rx⟩:=zkK r;cases rx;obtain⟨its,r',pl,hz⟩:=I.list hq;have hlen:ns.length=its.length:=by have:=r'.length;rw[aq]at this;exact this
 have hp:p<s.heap.objs.size:=by obtain⟨o,n,e,_⟩:=pl;exact aJ e
 have hd:X.A.in1.handled=none:=I.ok.hd hc;have get:∀(i:Nat) (v:Value),its.toArray[i]? =ae v→ ∃t,v= .int (ns.getD i 0) t:=λi v e=>by
  have e':its[i]? =ae v:=by simpa using e
  have hi:i<ns.length:=by rw[hlen];exact(cj.mp e').1
  obtain⟨u,hu,ru⟩:=r'.get (i:=i) (x:= .int (ns.getD i 0)) (by rw[bt,a8 hi,br,a8 hi];rfl);rw[e']at hu;cases hu;exact ru
 refine call_sum_walkG (fO pl.isList ?_);refine⟨s.heap.objs.size,_,_,_,_,_,λi=>ns.getD i 0,rfl,d_.list hd _ p (bz hp) its.toArray,⟨⟨_,bi _ rfl,rfl,rfl⟩,pl.isList.push _⟩,?_,λi v hP=>get i v hP,λh' tk t' hk=>?_⟩
 ·intro b hb;have hsz:∀o:Obj,(s.heap.push o).objs.size=s.heap.objs.size+1:=λo=>cI ..;simp only[az,bx,or_false]at hb;show b<(s.heap.push _).objs.size;rw[hsz];rcases hb with rfl |rfl
  ·exact Nat.lt_succ_self _
  ·exact Nat.lt_succ_of_lt hp
 ·have e:fD (λi=>ns.getD i 0) its.toArray.size=ns.sum:=by
   rw[aQ,←hlen,zgL ns _ (au _),gx]
  have I1:Inv X pins σ H { s with heap:=h',toks:=tk }:=I.kept λb o e=>hk b o (λz=>by
   have z':b=s.heap.objs.size:=by simpa using z
   rw[z']at e;exact absurd (aJ e) (cM _)) (aH _ e)
  exact⟨.int _,H,I1,⟨t',by rw[e]⟩,q⟩
noncomputable def zoj:WF:=λws S Q=>match zcf ws with
 |some ns=>Q (.int ns.sum) S
 |none=>False
theorem zhx{K:aj}{H:Hp}:∀{ws:List W}{vs:List V}{ns:List Int},Reps K H ws vs→zcf ws=ae ns→vs=ns.map V.int
 | [],_,_, .nil,e=>by cases e;rfl
 |w::ws,_,ns, .cons r rs,e=>by
  cases r with
  |int i=>
   cases q:zcf ws with
   |none=>simp [zcf,q]at e
   |some ks=>
    simp only[zcf,q,d7,bB]at e;subst e;rw[zhx rs q];rfl
  |_=>simp [zcf]at e
theorem zpm{K:aj}:zoX K (λxs H Q=>∃(p:Addr) (ns:List Int),xs=[.ref p]∧SqL K H p (ns.map V.int)∧Q (.int ns.sum) H) zoj:=λH a vs ws S Q QW ea na r hS h hQ=>by
 unfold zoj at h;split at h
 ·rename_i ns e;have:=zhx r e;subst this;exact⟨a,ns,rfl, .of ea,hQ _ S _ H .refl (.int _) hS h⟩
 ·exact h.elim
theorem zuw (hg:Gl X "sum") (hm:X.mg "sum" =none) (ha:JL X e tl)
  (he:ao [e] X.env=(false,ay e X.env)::ao [] X.env:=by rfl) (hpl:(aP pos (ao [] X.env)).any (·.1)=false:=by rfl) (hcl:X.calm=true:=by rfl):JE X (.Call (.Name "sum" p) [e] [] pos) (wBL zoj tl):=λE hE=>
 zuC (zqt hcl) zpm hg hm PyProof.Rows.boot_sum ha (by decide) (by decide) he hpl E hE
end
theorem zpO:gE (.type "list") "keys" =pure none:=by rw[typeLookup_type,builtinLookup_eq_fast];kernel_rfl
theorem zjm:entryFor table "dict.update.loop" =ae bV.«dict.update.loop» :=entryFor_of_tree (by kernel_rfl)
theorem zfB:plainId "dict.update.loop" =true:=by decide +kernel
section
variable {prog:aE}{w:aB}{A:aM}{E:Value→ah→Prop}{s:ah}
theorem ziv{a:Addr}{o:Obj}{xs:Array Value}{k:Nat}{name:Str}{Q:Option Value→ah→Prop}
  (hx : s.heap.get? a = ae o) (hc : o.cls = .type "list") (hdat : o.data = .seq xs k) (hd : o.dict = none) (hmiss : gE (.type "list") name = pure none) (hname : (["__module__", "__name__", "__qualname__", "__doc__", "__annotations__"] : List Str).contains name = false) (hA : A.handled = none)
  (h:∀h' tk,(∀b o,s.heap.get? b=ae o→h'.get? b=ae o)→Q none { s with heap:=h',toks:=tk }) (hsz:name.length+100≤sizeLine:=by size_fits) :
  am (ap prog w) A (getAttr? (.ref a) name) Q E s:=by
 obtain⟨c,dct,dat,sl⟩:=o;simp only at hc hdat hd;subst hc hdat hd;obtain⟨hp,g,d,tk,os⟩:=s;have hT:∀tk',(⟨hp,g,d,tk',os⟩:ah).TypeIs (.ref a) "list" :=λ_=>⟨_,hx,rfl⟩;have f1:=sub_AttributeError;have f3:=gn.lookup;have f4:=gn.bind (.ref a);have f5:=am_list_getattr_none;unfold getAttr? getAttrBy? getAttrBy
 repeat (any_goals (first |assumption |exact hT _ | ((with_reducible show am _ _ (call (Value.builtin "list.__getattribute__") _ _) _ _ _);refine eB gn (hT _) am_entry_list_getattribute (F.args_list_getattribute_2 _ _) (meets_getattribute_miss_list a xs k sl name _ hmiss hname hsz) ⟨hx,hA,λh' tk' e hx'=>?_⟩) |wp_step))
 obtain⟨t',u',he⟩:=hx'.there;have hTe:∀tk',(⟨h',g,d,tk',os⟩:ah).TypeIs (.ref e) "AttributeError" :=λ_=>⟨_,he,rfl⟩;show am _ _ (jF _ _ _ _ _ _ _) _ _ _;unfold jF
 repeat (any_goals (first |assumption |exact hTe _ |wp_step))
 exact h h' tk' hx'.keeps
end
section
variable {prog:aE}{w:aB}{A:aM}{R:Result→ah→Prop}{I l d:Addr}{items:Array Value}
noncomputable def zue (xs:List (List Key×Addr×Value)) (ps:List (List Key×Addr)):List (List Key×Addr×Value):=ps.foldl (λxs p=>eO xs p.1 p.2 (.bool true)) xs
theorem znB (hu:(bU (zaY prog w)).room A.in1) (hh:A.in1.handled=none) (hne:l≠I) (hdI:d≠I) (hdl:d≠l) (h0:Heap) (hd0:h0.get? d=none) (hI0:h0.get? I=none) (ps:List (List Key×Addr)) (hps:ps.length=items.size)
  (hp:∀(i:Nat) (p:List Key×Addr) (v:Value),ps[i]? =ae p→items[i]? =ae v→ ∃(t:Addr) (o:Obj) (n:Nat),v= .ref t∧h0.get? t=ae o∧o.cls= .type "tuple" ∧o.data= .seq #[.ref p.2, .bool true] n)
  (hk:∀p∈ps,(bU (zaY prog w)).is h0 p.1 p.2) :
  ∀(k i:Nat) (s:ah) (xs:List (List Key×Addr×Value)),items.size - i=k→i≤items.size→s.heap.IsListIter I l i→s.heap.IsList l items→(∀b o,h0.get? b=ae o→s.heap.get? b=ae o)→s.heap.DictOfH (bU (zaY prog w)) d xs→xs.length+(items.size - i)≤sizeLine→
  (∀h' tk,(∀b o,h0.get? b=ae o→h'.get? b=ae o)→h'.DictOfH (bU (zaY prog w)) d (zue xs (ps.drop i))→R (.ok (.ret .none)) { s with heap:=h',toks:=tk })→
  dC (ap prog w) A (.builtin "dict.update.loop" ⟨[.ref d, .ref I,b9 i, .none],[]⟩) R s:=by
 have W:=d_.list (prog:=prog) (w:=w) (A:=A.in1) hh I l hne items;intro k
 induction k with
 |zero=>
  intro i s xs hki hi hit hl hold hd hsz hR;have hin:i=items.size:=by omega
  subst hin;refine jE zjm ?_;rw[iP zfB _];show am _ A.in1 (bS (.ref I) >>= _) _ _ s;refine ak (W.done s _ _ ⟨hit,hl⟩ λh' tk hk'=>?_);have hd':h'.DictOfH (bU (zaY prog w)) d xs:=by
   obtain⟨q,es,ep,q1,q2,q3,q4,q5,q6⟩:=hd;refine⟨q,es,ep,hk' d q (λz=>hdI (bh.mp z)) q1,q2,q3,q4,λx hx=>?_,q6⟩;obtain⟨ob,its,m,k1,k2,k3,k4⟩:=q5 x hx;refine⟨ob,its,m,hk' _ _ (λz=>?_) k1,k2,k3,k4⟩;obtain⟨oi,hi1,hi2,_⟩:=hit;rw[bh.mp z,hi1]at k1;cases k1;rw[k2]at hi2;exact absurd hi2 (by decide)
  show am _ A.in1 (bV.Dict.addKeywords d [] >>= _) _ _ _;refine ak (aD (aD (hR h' tk (λb o e=>hk' b o (λz=>by rw[bh.mp z,hI0]at e;cases e) (hold b o e)) ?_)))
  rw[eY (by omega)];exact hd'
 |succ k ih=>
  intro i s xs hki hi hit hl hold hd hsz hR;have hlt:i<items.size:=by omega
  refine jE zjm ?_;rw[iP zfB _];show am _ A.in1 (bS (.ref I) >>= _) _ _ s;refine ak (W.item i s _ _ hlt ⟨hit,hl⟩ λv h' tk hP hst' hk'=>?_);obtain⟨p,hpi⟩:∃p,ps[i]? =ae p:=⟨ps[i],a8 (by omega)⟩;obtain⟨t,o,n,rfl,ho,hc,hdat⟩:=hp i p v hpi hP;have ho':=hk' t o (λz=>by rw[bh.mp z]at ho;rw[hI0]at ho;cases ho) (hold t o ho)
  have hkey:(bU (zaY prog w)).is h' p.1 p.2:=by
   obtain⟨ob,its,m,k1,k2,k3,k4⟩:=hk p (aV hpi);exact⟨ob,its,m,hk' _ _ (λz=>by rw[bh.mp z]at k1;rw[hI0]at k1;cases k1) (hold _ _ k1),k2,k3,k4⟩
  have hd':h'.DictOfH (bU (zaY prog w)) d xs:=by
   obtain⟨q,es,ep,q1,q2,q3,q4,q5,q6⟩:=hd;refine⟨q,es,ep,hk' d q (λz=>hdI (bh.mp z)) q1,q2,q3,q4,λx hx=>?_,q6⟩;obtain⟨ob,its,m,k1,k2,k3,k4⟩:=q5 x hx;refine⟨ob,its,m,hk' _ _ (λz=>?_) k1,k2,k3,k4⟩;obtain⟨oi,hi1,hi2,_⟩:=hit;rw[bh.mp z,hi1]at k1;cases k1;rw[k2]at hi2;exact absurd hi2 (by decide)
  show am _ A.in1 (holding [.ref t] _ >>= _) _ _ _;refine ak (fQ ?_);refine ak (wpAny_tryCatch ?_);unfold bV.Dict.pairItems;refine ak (eJ (T:= "tuple") ⟨o,ho',hc⟩ ?_);rw[if_pos (by decide)];refine ak (cR ho' hdat ?_);refine aD ?_;show am _ A.in1 (holding [.ref p.2, .bool true] (dictSet d (.ref p.2) (.bool true))) _ _ _;refine fQ (wpAny_dictSet_heap (hsz:=by omega) hu hkey hd' λh2 hd2 hs2=>?_)
  refine aD ⟨plainId_quiet zfB _,?_⟩;have ei:((i:Int)+1)=((i+1:Nat):Int):=by omega
  rw[ei];have hln:(eO xs p.1 p.2 (eE true)).length≤xs.length+1:=by
   unfold eO;split<;>simp
  have hst2:=W.frame (i+1) h' h2 hst' λb hb o e=>by
   have hbd:b≠d:=by
    rcases az.mp hb with z |z
    ·rw[z];exact bn hdI
    ·rw[bh.mp z];exact bn hdl
   exact(hs2.2 b hbd).trans e
  refine ih (i+1) _ _ (by omega) (by omega) hst2.1 hst2.2 (λb o e=>?_) hd2 (by omega) λh3 tk3 old3 hd3=>?_
  ·have hbd:b≠d:=λz=>by rw[z,hd0]at e;cases e
   have hbI:b∉ [I]:=λz=>by rw[bh.mp z,hI0]at e;cases e
   exact(hs2.2 b hbd).trans (hk' b o hbI (hold b o e))
  ·refine hR h3 tk3 old3 ?_;have ed:ps.drop i=p::ps.drop (i+1):=by
    have hi':i<ps.length:=by omega
    rw[eR hi'];rw[a8 hi']at hpi;cases hpi;rfl
   rw[ed];exact hd3
end
section
variable {X:Cx}{e:Expr}{p pos:aC}{tl:WL}
def zmh (H:Hp) (q:List Key) (v:V):Prop:=∃t b,v= .ref t∧H t=ae (.tup [.ref b, .bl true])∧H b=ae (.tup (q.map kV))
noncomputable def zns (qs:List (List Key)):List (List Key×V):=qs.foldl (λkvs q=>zhK kvs q (.bl true)) []
theorem zjI:∀(qs:List (List Key)) (kvs:List (List Key×V)),(qs.foldl (λkvs q=>zhK kvs q (V.bl true)) kvs).length≤kvs.length+qs.length
 | [],kvs=>by simp
 |q::qs,kvs=>by
  have h1:=zeN kvs q (V.bl true);have h2:=zjI qs (zhK kvs q (.bl true));rw[eg,aR];omega
theorem KT.fold{H:Hp}:∀(ps:List (List Key×Addr)) {kvs:List (List Key×V)}{xs:List (List Key×Addr×Value)},KT H kvs xs→(∀p∈ps,H p.2=ae (.tup (p.1.map kV)))→KT H ((ps.map λp=>p.1).foldl (λkvs q=>zhK kvs q (.bl true)) kvs) (zue xs ps)
 | [],_,_,r,_=>r
 |p::ps,kvs,xs,r,h=>by
  rw[aA,eg];exact KT.fold ps (r.put p.1 (h p a0) rfl) λp' hp'=>h p' (aK _ hp')
theorem znl{P:aE}{w:aB}{H:Hp}{h:Heap}(ok:HOk P w H h):∀{qs:List (List Key)}{vs:List V}{its:List Value},aN (zmh H) qs vs→Vals vs its→ ∃ps:List (List Key×Addr),(ps.map λp=>p.1)=qs∧
  (∀(i:Nat) (p:List Key×Addr) (v:Value),ps[i]? =ae p→its[i]? =ae v→ ∃(t:Addr) (o:Obj) (n:Nat),v= .ref t∧h.get? t=ae o∧o.cls= .type "tuple" ∧o.data= .seq #[.ref p.2, .bool true] n)∧ ∀p∈ps,H p.2=ae (.tup (p.1.map kV))
 |_,_,_, .nil, .nil=>⟨[],rfl,(λi p v h=>by simp at h),λ_ h=>nomatch h⟩
 |_,_,_, .cons (a:=q) hq hs, .cons hv hvs=>by
  obtain⟨ps,e,h1,h2⟩:=znl ok hs hvs;obtain⟨t,b,rfl,ht,hb⟩:=hq;refine⟨(q,b)::ps,by rw[aA,e],λi p v hp hv'=>?_,λp hp=>?_⟩
  ·cases i with
   |zero=>
    simp only[kq,bB]at hp hv';subst hp hv';obtain⟨_,its,r,o,g1,g2,n,g3⟩:=(show ObjOk P w H h t (.tup [.ref b, .bl true]) from ok t _ ht);cases r with
    |cons r1 r2=>
     cases r2 with
     |cons r3 r4=>
      cases r4;cases r1;cases r3;exact⟨t,o,n,hv,g1,g2,by simpa using g3⟩
   |succ i=>
    simp only[dQ]at hp hv';exact h1 i p v hp hv'
  ·rcases az.mp hp with rfl |hp
   ·exact hb
   ·exact h2 p hp
theorem znJ (hc:X.calm=true) (hu:X.A.units+2<cLine):CallR X (.type "dict") (λxs H Q=>∃(l:Addr) (vs:List V) (qs:List (List Key)),xs=[.ref l]∧SqL X.K H l vs∧aN (zmh H) qs vs∧qs.length≤sizeLine∧ ∀d,H d=none→Q (.ref d) (upd H d (.dT (zns qs)))):=by
 intro pins s σ H xs us Q I r h;obtain⟨l,vs,qs,rfl,hq,hp,hlen,q⟩:=h;obtain⟨u,rfl,rx⟩:=zkK r;cases rx;obtain⟨its,r',pl,hz⟩:=I.list hq;have hd:X.A.in1.handled=none:=I.ok.hd hc;have hl:l<s.heap.objs.size:=by obtain⟨o,n,e,_⟩:=pl;exact aJ e
 refine callType_codes (Q₁:=λobj s₁=>obj= .ref s.heap.objs.size∧s₁={ s with heap:=s.heap.push { cls:= .type "dict",data:= .dict #[] } }) F.kt_called_dict (F.kt_typeCall_dict_1 _) F.entry_dict_init (kt_code_dict_new _ ⟨rfl,rfl⟩) ?_;rintro obj s₁ ⟨rfl,rfl⟩;have hT:({ s with heap:=s.heap.push { cls:= .type "dict",data:= .dict #[] } }:ah).TypeIs (.ref s.heap.objs.size) "dict" :=⟨_,bi _ rfl,rfl⟩;refine⟨hT,F.args_dict_init_2 _ _,?_⟩;unfold bV.«dict.__init__»;refine ak ?_;unfold bV.Dict.selfAndRest;refine ak (wpAny_notOrdered_dict hT ?_);show am _ _ (pure (s.heap.objs.size,[a_ l])) _ _ _;refine aD ?_;show am _ _ (iN "dict.__init__" s.heap.objs.size (.ref l) [] .none) _ _ _;unfold iN;obtain⟨ol,nl,hol,hcl,hdl,hnl⟩:=pl;have hol1:=aH { cls:= .type "dict",data:= .dict #[] } hol;obtain⟨ps,eqs,hps,hks⟩:=znl I.hok hp r';have hplen:ps.length=its.toArray.size:=by
  have h1:=congrArg dw eqs;have h2:=du hp;have h3:=r'.length;rw[aq]at h1;rw[aQ];omega
 refine ak (eJ (T:= "list") ⟨ol,hol1,hcl⟩ ?_);dsimp only;rw[if_pos (by decide)];refine ak (ziv hol1 hcl hnl hdl zpO (by decide +kernel) hd λh1 tk1 kp1=>?_);rw[if_pos (show(none:Option Value).isNone=true from rfl)];refine ak (eF ?_);have hl1:h1.IsList l its.toArray:=⟨ol,kp1 _ _ hol1,hcl,nl,hnl⟩;refine ak (fO hl1 ?_);refine aD ⟨plainId_quiet zfB _,?_⟩;have hd1:h1.get? s.heap.objs.size=ae { cls:= .type "dict",data:= .dict #[] }:=kp1 _ _ (bi _ rfl);have hdlt:=aJ hd1;have hI0:s.heap.get? h1.objs.size=none:=by
  cases z:s.heap.get? h1.objs.size with
  |none=>rfl
  |some ob=>exact absurd (aJ (kp1 _ _ (aH _ z))) (cM _)
 have hd0:s.heap.get? s.heap.objs.size=none:=by
  cases z:s.heap.get? s.heap.objs.size with
  |none=>rfl
  |some ob=>exact absurd (aJ z) (cM _)
 refine znB (A:=X.A.in1) (I:=h1.objs.size) (l:=l) (d:=s.heap.objs.size) (items:=its.toArray) ?_ hd (bz (Nat.lt_trans hl hdlt)) (bz hdlt) (cH hl) s.heap hd0 hI0 ps hplen (λi p v h1 h2=>hps i p v h1 (by simpa using h2)) (λp hp=>zkD I.hok (hks p hp)) _ 0 _ [] rfl (aY _) ?_ ?_ ?_ ?_ ?_ λh' tk' old' hd'=>?_
 ·exact fi (A:=X.A.in1) (show X.A.in1.units+1<cLine from by have:X.A.in1.units=X.A.units+1:=rfl;omega)
 ·exact⟨_,bi _ rfl,rfl,rfl⟩
 ·exact hl1.push _
 ·exact λb o e=>aH _ (kp1 _ _ (aH _ e))
 ·refine⟨_, #[],0,aH _ hd1,?_,rfl,rfl,(λx hx=>nomatch hx),jx⟩
  first |exact⟨rfl,rfl⟩ |exact rfl |exact .inl rfl | (unfold Obj.ExactDict;simp)
 ·rw[c5,←hplen];have h1:=congrArg dw eqs;rw[aq]at h1;omega
 ·rw[c6]at hd';obtain⟨o',es,ep,g1,g2,g3,g4,g5,g6⟩:=hd';have hl0:=zjI qs [];have kt:KT H (zns qs) (zue [] ps):=by
   have:=KT.fold ps (show KT H [] [] from .nil) hks;rw[eqs]at this;exact this
  refine⟨rfl, .ref s.heap.objs.size,_,I.laid (t':=tk') (o:= .dT (zns qs)) old' (au _) ⟨?_,?_,_,kt.keeps λb ys eb=>?_,o',es,ep,g1,g2,g3,g4,g6⟩,rfl,q _ (I.hok.fresh (au _))⟩
  ·simp only[c5,b8]at hl0;exact aX hl0 hlen
  ·have:=I.big;exact beq_eq_false_iff_ne.mpr (cH this)
  ·rw[zaz (zau eb (I.hok.fresh (au _)))];exact eb
noncomputable def zex:List W→Option (List (List Int))
 | []=>ae []
 | .tup [k, .bl true]::ws=>match zqq k,zex ws with
  |some q,ae qs=>ae (q::qs)
  |_,_=>none
 |_=>none
noncomputable def zhJ (qs:List (List Int)):List (List Int×W):=qs.foldl (λkvs k=>zuV kvs k (.bl true)) []
noncomputable def zkC:WF:=λws S Q=>match zex ws with
 |some qs=>qs.length≤1000000∧ ∀a,S a=none→Q (.ref a) (put S a (.dct (zhJ qs)))
 |none=>False
theorem zkn{K:aj}{H:Hp}:∀{ws:List W}{vs:List V}{qs:List (List Int)},Reps K H ws vs→zex ws=ae qs→aN (zmh H) (qs.map λq=>q.map Sum.inl) vs
 | [],_,_, .nil,e=>by
  simp only[zex,bB]at e;subst e;exact .nil
 |w::ws,_,qs, .cons r rs,e=>by
  cases w with
  |tup us=>
   rcases us with _ |⟨k,_ |⟨b,_ |⟨x,us⟩⟩⟩
   ·simp [zex]at e
   ·simp [zex]at e
   ·cases b with
    |bl b=>
     cases b with
     |true=>
      simp only[zex]at e;cases e1:zqq k with
      |none=>rw[e1]at e;simp at e
      |some q=>
       cases e2:zex ws with
       |none=>rw[e1,e2]at e;simp at e
       |some qs'=>
        rw[e1,e2]at e;simp only[bB]at e;subst e;cases r with
        | @tup t vs' _ ft hs=>
         cases hs with
         |cons r1 r2=>
          cases r2 with
          |cons r3 r4=>
           cases r4;cases r3;obtain⟨b,rfl,eb⟩:=znj r1 e1;exact .cons ⟨t,b,rfl,ft,eb⟩ (zkn rs e2)
     |false=>simp [zex]at e
    |_=>simp [zex]at e
   ·cases b<;>simp [zex]at e
  |_=>simp [zex]at e
theorem zjP{K:aj}{H:Hp}:∀(qs:List (List Int)) {kvs:List (List Int×W)}{ps:List (List Key×V)},RepD K H kvs ps→RepD K H (qs.foldl (λkvs k=>zuV kvs k (.bl true)) kvs) ((qs.map λq=>q.map Sum.inl).foldl (λkvs q=>zhK kvs q (.bl true)) ps)
 | [],_,_,r=>r
 |q::qs,_,_,r=>by
  rw[aA,eg,eg];exact zjP qs (r.put q (.bl true))
theorem znX{K:aj}:zoX K (λxs H Q=>∃(l:Addr) (vs:List V) (qs:List (List Key)),xs=[.ref l]∧SqL K H l vs∧aN (zmh H) qs vs∧qs.length≤sizeLine∧ ∀d,H d=none→Q (.ref d) (upd H d (.dT (zns qs)))) zkC:=λH a vs ws S Q QW ea na r hS h hQ=>by
 unfold zkC at h;split at h
 ·rename_i qs e;have hp:=zkn r e;refine⟨a,vs,_,rfl, .of ea,hp,?_,λd hd=>?_⟩
  ·rw[aq,dj];omega
  ·have rd:RepD K H (zhJ qs) (zns (qs.map λq=>q.map Sum.inl)):=zjP qs (show RepD K H [] [] from .nil);have x:Ext H S (upd H d (.dT (zns (qs.map λq=>q.map Sum.inl)))) (put S d (.dct (zhJ qs))):= .newS hd;refine hQ (.ref d) (put S d (.dct (zhJ qs))) (.ref d) _ x (.ref d) (λb o q=>?_) (h.2 d (hS.free hd));by_cases hb:b=d
   ·subst hb;rw[zag]at q;cases q;exact⟨_,zay,Paired.mapP rd λ_ _ z=>⟨z.1,z.2.ext x⟩⟩
   ·rw[zaA hb]at q;exact hS.new hd b o q
 ·exact h.elim
theorem zqW{k:Nat}(hr:Room k X.A) (hg:Gl X "dict") (hm:X.mg "dict" =none) (ha:JL X e tl)
  (he:ao [e] X.env=(false,ay e X.env)::ao [] X.env:=by rfl) (hpl:(aP pos (ao [] X.env)).any (·.1)=false:=by rfl) (hcl:X.calm=true:=by rfl):JE X (.Call (.Name "dict" p) [e] [] pos) (wBL zkC tl):=λE hE=>
 ztq (znJ hcl (by have:=hr.units;omega)) znX hg hm PyProof.Rows.boot_dict ha (by decide) (by decide) he hpl E hE
theorem _root_.pz{a b:Prop}(h:a→b) (g:b→a):a=b:=propext ⟨h,g⟩
theorem zrJ{ws:List W}{S:Sto}{Q:WK}:(zkC ws S Q)=(match zex ws with
 |some qs=>qs.length≤1000000∧ ∀a,S a=none→Q (.ref a) (put S a (.dct (zhJ qs)))
 |none=>False):=pz id id
theorem zkN:∀ps:List (List Int),zex (ps.map λp=>W.tup [.tup (p.map W.int), .bl true])=ae ps
 | []=>rfl
 |p::ps=>by
  have e:zqq (.tup (p.map W.int))=ae p:=by
   show zcf (p.map W.int)=ae p
   induction p with
   |nil=>rfl
   |cons i p ih=>rw[aA,zcf,ih];rfl
  rw[aA,zex,e,zkN ps]
theorem zrf (kvs:List (List Int×W)) (q k:List Int) (v:W):(zgk (zuV kvs q v) k).isSome=(decide (k=q) || (zgk kvs k).isSome):=by
 have e:∀kvs:List (List Int×W),(zgk kvs k).isSome=kvs.any λkv=>decide (kv.1=k):=λkvs=>by
  unfold zgk;rw[ie]
  induction kvs with
  |nil=>rfl
  |cons a kvs ih=>
   rw[bF,cr];cases decide (a.1=k) with
   |true=>rfl
   |false=>simpa using ih
 rw[e,e];unfold zuV;split
 ·rename_i h;have:(kvs.map λkv=>if kv.1=q then(kv.1,v) else kv).any (λkv=>decide (kv.1=k))=kvs.any λkv=>decide (kv.1=k):=by
   rw[List.any_map];congr 1;funext kv;simp only[gH];split<;>rfl
  rw[this];by_cases hk:k=q
  ·subst hk;rw[h];simp
  ·rw[decide_eq_false hk,ja]
 ·rw[List.any_append];simp only[cr,List.any_nil,i5];rw[Bool.or_comm];congr 1;apply decide_eq_decide.mpr;exact eq_comm
theorem zlX:∀(qs:List (List Int)) (kvs:List (List Int×W)) (k:List Int),(zgk (qs.foldl (λkvs k=>zuV kvs k (.bl true)) kvs) k).isSome=(decide (k∈qs) || (zgk kvs k).isSome)
 | [],kvs,k=>by simp
 |q::qs,kvs,k=>by
  rw[eg,zlX qs,zrf,←Bool.or_assoc];congr 1;rw[fT];simp only[jo,decide_eq_true_eq,az];exact or_comm
theorem zjV (qs:List (List Int)) (k:List Int):(zgk (zhJ qs) k).isSome=decide (k∈qs):=by
 unfold zhJ;rw[zlX];simp [zgk]
end
end L2
end
section
namespace L2
open PySem PySem.Spec PyProof.Rows PySem.W PySem.Calls Builtin Builtin.ObjectAttr Builtin.Getset_descriptor
structure XcOk (K:Frag) (C:Addr):Prop where
  ga:findIn K (.ref C) "__getattribute__" =ae (ae (.builtin "BaseException.__getattribute__"))
  gt:findIn K (.ref C) "__getattr__" =ae none
  cl:findIn K (.ref C) "__class__" =ae (ae (.builtin "object.__class__"))
  ob:mroIn K C (.type "object")=ae true
  be:mroIn K C (.type "BaseException")=ae true
noncomputable abbrev bmV:List Value:=[.type "ValueError", .type "Exception", .type "BaseException", .type "object"]
structure XcIn (K:aj) (x:Str) (C:Addr):Prop where
  nm:aZ K aL x=ae (ae (.ref C))
  ex:eC K C bmV "ValueError.__new__" =true
  xc:XcOk K C
theorem XcIn.own{K:aj}{x:Str}{C:Addr}{h:Heap}{mg:Str→Option Value}(O:XcIn K x C) (X:K.In h) (G:h.Ns aL mg):OwnCls x C bmV "ValueError.__new__" mg h:=by
 have q:=O.ex;refine⟨bb X G O.nm,?_⟩;unfold eC at q;split at q
 ·rename_i dd cd sl ho;split at q
  ·rename_i C' bm k0 k1 k2 k3 n k5 hm hs;simp only[b3,beq_iff_eq,Bool.not_eq_true']at q;obtain⟨⟨⟨⟨⟨rfl,hnn⟩,hdel⟩,ht⟩,hok⟩,hni⟩:=q;obtain⟨nm,bs,mro,ns,qn,hd,sn,sub,ab,col,del⟩:=cd;dsimp only at hm hdel hok hni;subst hm hdel;have hsl:sl= #[k0,k1,k2,k3,ae (.builtin n),k5]:=by
    obtain⟨l⟩:=sl;simp only at hs;rw[hs]
   subst hsl;subst hnn;exact⟨bm,ns,nm,qn,bs,hd,sn,sub,ab,col,dd,k0,k1,k2,k3,k5,_,X _ _ ho, .of_isNs (PySem.W.isNs_of_in X hok),PySem.W.nsMap_none_of_in X hok hni,PySem.W.tail_of_in X ht⟩
  ·cases q
 ·cases q
noncomputable def zif (x:Str) (t:WA):WS:=λE _ σ S=>t E σ S λws S1=>ws.length≤sizeLine∧E x σ S1
theorem zft{X:Cx}{x:Str}{C:Addr}{e:Expr}{es:List Expr}{t:WA}{np cpos pos:aC}(O:XcIn X.K x C) (hg:Gl X x) (hm:X.mg x=ae (.ref C)) (ha:JA X (e::es) t) (hcl:X.calm=true:=by rfl) (hdb:(x == ("__debug__" :Str))=false:=by decide)
  (he:ao (e::es) X.env=(false,ay e X.env)::ao es X.env:=by rfl) (hpl:(aP cpos (ao es X.env)).any (·.1)=false:=by rfl) :
  JS X (.Raise (ae (.Call (.Name x np) (e::es) [] cpos)) none pos) (zif x t):=λE hE pins s σ H D I z=>by
 obtain⟨σW,S,DW,hσ,hS,ht,hD⟩:=z;have OC:=(O.own I.mod.kin I.mod.glob).keeps I.bk;obtain⟨tl,N,nm,q,bs,hdct,sn,sub,ab,col,dd,k0,k1,k2,k3,k5,mN,hC,hN,hni,T⟩:=(O.own I.mod.kin I.mod.glob).obj;refine wpAny_Raise_call_subT (C:=C) (nm:=nm) (q:=q) (N:=N) (bs:=bs) (bm:=tl) (hdct:=hdct) (sn:=sn) (sub:=sub) (ab:=ab) (col:=col) (dd:=dd) (k0:=k0) (k1:=k1) (k2:=k2) (k3:=k3) (k5:=k5)
  j7 (mN:=mN) (T.hasType j7.hasBase) (I.ok.hd hcl) (by rw[he];show(false || (aP cpos (ao es X.env)).any (·.1))=false;rw[hpl];rfl) hni (zkX I hg hm ⟨rfl,?_⟩ hdb)
 have go:=ha E hE cpos pins s σ H (λvs H1=>∃ws S1,Reps X.K H1 ws vs∧RpSt X.K H1 σW σ∧RepS X.K H1 S1∧ws.length≤sizeLine∧E x σW S1) I ⟨σW,S,_,hσ,hS,ht,λws S1 vs H1 e1 r1 hS1 h1=>⟨ws,S1,r1,hσ.ext e1,hS1,h1.1,h1.2⟩⟩;rw[he]at go⊢;refine gl (cm go (λus s2 ⟨vs,H1,I1,r,ws,S1,r1,hσ1,hS1,hl,h1⟩=>?_) λ_ _ y=>y);refine⟨rfl,by rw[←r.length,←r1.length];exact hl,I1.bk _ _ hC,hN.keeps I1.bk,T.keeps I1.bk,λh' a me=>?_⟩
 exact hE.near pins σ H1 s2 σW x C a S1 h' us I1 hσ1 O.nm me hS1 h1
inductive Tr where
  |bl (n:Int)
  |nd (s:Str) (ts:List Tr)
noncomputable def Tr.kids:Tr→List Tr
 | .bl _=>[]
 | .nd _ ts=>ts
mutual
noncomputable def Tr.weight:Tr→Nat
 | .bl _=>1
 | .nd _ ts=>1+wts ts
noncomputable def wts:List Tr→Nat
 | []=>0
 |t::ts=>t.weight+wts ts
end
mutual
noncomputable def Tr.depth:Tr→Nat
 | .bl _=>1
 | .nd _ ts=>1+dts ts
noncomputable def dts:List Tr→Nat
 | []=>0
 |t::ts=>max t.depth (dts ts)
end
theorem ziP:wts []=0:=by unfold wts;rfl
theorem zbi (t:Tr) (ts:List Tr):wts (t::ts)=t.weight+wts ts:=by
 conv=>lhs;unfold wts
theorem zev:∀(ts us:List Tr),wts (ts++us)=wts ts+wts us
 | [],us=>by
  show wts us=wts []+wts us;rw[ziP];omega
 |t::ts,us=>by
  show wts (t::(ts++us))=_;rw[zbi,zbi,zev ts us];omega
theorem ziI:dts []=0:=by unfold dts;rfl
theorem zdn (t:Tr) (ts:List Tr):dts (t::ts)=max t.depth (dts ts):=by
 conv=>lhs;unfold dts
theorem zdS (t:Tr):t.weight=1+wts t.kids:=by
 cases t with
 |bl n=>
  show Tr.weight (.bl n)=1+wts [];unfold Tr.weight wts;rfl
 |nd s ts=>
  show Tr.weight (.nd s ts)=1+wts ts
  conv=>lhs;unfold Tr.weight
theorem zew (t:Tr):t.depth=1+dts t.kids:=by
 cases t with
 |bl n=>
  show Tr.depth (.bl n)=1+dts [];unfold Tr.depth dts;rfl
 |nd s ts=>
  show Tr.depth (.nd s ts)=1+dts ts
  conv=>lhs;unfold Tr.depth
theorem zes (t:Tr):1≤t.weight:=by rw[zdS];omega
theorem zaS (t:Tr):1≤t.depth:=by rw[zew];omega
theorem zia:∀(ts us:List Tr),dts (ts++us)=max (dts ts) (dts us)
 | [],us=>by
  show dts us=max (dts []) (dts us);rw[ziI];omega
 |t::ts,us=>by
  show dts (t::(ts++us))=_;rw[zdn,zdn,zia ts us];exact(Nat.max_assoc _ _ _).symm
theorem zcP:∀(ts:List Tr),ts.length≤wts ts
 | []=>aY _
 |t::ts=>by
  have:=zcP ts;have:=zes t;rw[zbi,aR];omega
theorem zdc{t:Tr}:∀{ts:List Tr},t∈ts→t.weight≤wts ts
 | [],h=>by cases h
 |u::ts,h=>by
  rw[zbi];rcases az.mp h with e |h
  ·rw[e];omega
  ·have:=zdc h;omega
theorem zms:∀{ts:List Tr},ts≠ []→dts ts=1+dts (ts.flatMap Tr.kids)
 | [],h=>absurd rfl h
 | [t],_=>by
  rw[eT,gV,bI,zdn,ziI,zew];omega
 |t::u::r,_=>by
  have ih:=zms (ts:=u::r) (by simp);have e:(t::u::r).flatMap Tr.kids=t.kids++(u::r).flatMap Tr.kids:=eT ..;rw[zdn,ih,e,zia,zew];omega
theorem zmg:∀(ts:List Tr),wts (ts.flatMap Tr.kids)+ts.length=wts ts
 | []=>by rw[gV,ziP];rfl
 |t::ts=>by
  have ih:=zmg ts;rw[eT,zev,zbi,aR,zdS];omega
mutual
theorem zdh:∀t:Tr,t.depth≤t.weight
 | .bl n=>by unfold Tr.depth Tr.weight;exact au _
 | .nd s ts=>by
  have:=zic ts;rw[zew,zdS];show 1+dts ts≤1+wts ts;omega
theorem zic:∀ts:List Tr,dts ts≤wts ts
 | []=>by rw[ziI];exact aY _
 |t::ts=>by
  have:=zdh t;have:=zic ts;rw[zdn,zbi];omega
end
mutual
noncomputable def enc:Tr→W
 | .bl n=> .int n
 | .nd s ts=> .tup (.str s::encs ts)
noncomputable def encs:List Tr→List W
 | []=>[]
 |t::ts=>enc t::encs ts
end
theorem zaw:∀ts:List Tr,encs ts=ts.map enc
 | []=>by simp [encs]
 |t::ts=>by simp [encs,zaw ts]
theorem zaT (ts:List Tr):(encs ts).length=ts.length:=by rw[zaw,aq]
noncomputable def zbn (p:List Int):W:= .tup (p.map W.int)
theorem zlO:zcd "int" "int" =true:=by decide +kernel
theorem zjt:zcd "int" "bool" =false:=by decide +kernel
theorem zll:zcd "int" "str" =false:=by decide +kernel
theorem ziX:zcd "int" "tuple" =false:=by decide +kernel
theorem zjY:zcd "int" "list" =false:=by decide +kernel
theorem zkI:zcd "bool" "int" =true:=by decide +kernel
theorem ziu:zcd "bool" "bool" =true:=by decide +kernel
theorem zkF:zcd "bool" "str" =false:=by decide +kernel
theorem zhH:zcd "bool" "tuple" =false:=by decide +kernel
theorem zin:zcd "bool" "list" =false:=by decide +kernel
theorem zlo:zcd "str" "int" =false:=by decide +kernel
theorem zjw:zcd "str" "bool" =false:=by decide +kernel
theorem zlt:zcd "str" "str" =true:=by decide +kernel
theorem ziT:zcd "str" "tuple" =false:=by decide +kernel
theorem zki:zcd "str" "list" =false:=by decide +kernel
theorem zim:zcd "tuple" "int" =false:=by decide +kernel
theorem zhN:zcd "tuple" "bool" =false:=by decide +kernel
theorem ziR:zcd "tuple" "str" =false:=by decide +kernel
theorem sub_tuple_tuple:zcd "tuple" "tuple" =true:=by decide +kernel
theorem sub_tuple_list:zcd "tuple" "list" =false:=by decide +kernel
theorem zkL:zcd "list" "int" =false:=by decide +kernel
theorem zjc:zcd "list" "bool" =false:=by decide +kernel
theorem zkp:zcd "list" "str" =false:=by decide +kernel
theorem sub_list_tuple:zcd "list" "tuple" =false:=by decide +kernel
theorem sub_list_list:zcd "list" "list" =true:=by decide +kernel
section
variable {α:Type}{x:α}{xs:List α}
theorem zis (n:Nat):zeo xs (ae (n:Int)) none=xs.drop n:=by
 unfold zeo;rw[HT.sIx_nat,HT.sIx_none];by_cases h:n≤xs.length
 ·rw[gW h,db (by rw[cD];omega)]
 ·rw[jJ (by omega),eY (au _),eY (by omega),List.take_nil]
theorem ziL (n:Nat):zeo xs none (ae (n:Int))=xs.take n:=by
 unfold zeo;rw[HT.sIx_nat,HT.sIx_none,c6,dP];by_cases h:n≤xs.length
 ·rw[gW h]
 ·rw[jJ (by omega),gx,db (by omega)]
theorem zuf:zeo (x::xs) (ae 1) none=xs:=by rw[show(1:Int)=((1:Nat):Int) from rfl,zis];rfl
theorem zql{n d k:Nat}(h:0<k):HT.sIx n d (ae (-(k:Int)))=n - k:=by
 show(if(-(k:Int))<0 then(-(k:Int)+(n:Int)).toNat else min (-(k:Int)).toNat n)=n - k;rw[if_pos (by omega)];omega
theorem zlG (k:Nat) (h:0<k):zeo xs none (ae (-(k:Int)))=xs.take (xs.length - k):=by
 unfold zeo;rw[zql h,HT.sIx_none,c6,dP]
theorem zoN (k:Nat) (h:0<k):zeo xs (ae (-(k:Int))) none=xs.drop (xs.length - k):=by
 unfold zeo;rw[zql h,HT.sIx_none,db (by rw[cD];omega)]
theorem zbU{n:Nat}:atI xs (n:Int)=xs[n]? :=by
 unfold atI ixN;rw[if_pos (by omega)];by_cases h:n<xs.length
 ·rw[if_pos (by omega)];simp
 ·rw[if_neg (by omega)];simp;omega
theorem zje:atI (x::xs) 0=ae x:=zbU (n:=0)
end
section
variable {S S':Sto}{a b:Addr}{o:Ob}{Q:List W→Prop}{ws:List W}
theorem zmF{u:Ob}(h:b≠a):put (put S a o) b u=put (put S b u) a o:=by
 funext c;unfold put;by_cases h1:c=b
 ·rw[if_pos h1,if_pos h1,if_neg (by rw[h1];exact h)]
 ·rw[if_neg h1,if_neg h1]
theorem zmd{u o':Ob}(h:b≠a):put (put (put S a o) b u) a o'=put (put S a o') b u:=by rw[zmF h,zbc,zmF h]
theorem zgA:zcu (put S a (.lst ws)) a Q=Q ws:=zaj zag
theorem zdR (h:put S a o b=none):S b=none∧b≠a:=by
 have hb:b≠a:=by rintro rfl;rw[zag]at h;cases h
 rw[zaA hb]at h;exact⟨h,hb⟩
theorem zty{u:Ob}(h:S a=ae u) (n:S b=none):a≠b:=by rintro rfl;rw[h]at n;cases n
theorem Sub.put (h:Sub S S') (n:S a=none):Sub S (L2.put S' a o):=λb u e=>by rw[zaA (zty e n)];exact h b u e
theorem Sub.put2{u:Ob}(h:Sub S S'):Sub (L2.put S a u) (L2.put S' a u):=λb w e=>by
 by_cases hb:b=a
 ·subst hb;rw[zag]at e⊢;exact e
 ·rw[zaA hb]at e⊢;exact h b w e
end
theorem zwu (S:Sto) (a b:Int):eqF S 60 (.int a) (.int b)=ae (a == b):=by have h:eqF S 60 (.int a) (.int b)=ae (a == b):=rfl;exact h
theorem zxO (S:Sto) (a b:Str):eqF S 60 (.str a) (.str b)=ae (a == b):=by have h:eqF S 60 (.str a) (.str b)=ae (a == b):=rfl;exact h
theorem zzB (S:Sto) (a b:Bool):eqF S 60 (.bl a) (.bl b)=ae (a == b):=by have h:eqF S 60 (.bl a) (.bl b)=ae (a == b):=rfl;exact h
theorem zal{n:Nat}(h:n≤16777216):n≤sizeLine:=by rw[dj];exact h
theorem zbM{n:Nat}(h:n<16777216):n<sizeLine:=by rw[dj];exact h
section
variable {S:Sto}{Q:WK}{QB:Bool→Sto→Prop}{QS:List W→(Sto→Prop)→Prop}{QT:String→Prop}
theorem zdT{a:Addr}{o:Ob}(h:S a=ae o):put S a o=S:=by
 funext b;unfold put;split
 ·rename_i e;rw[e,h]
 ·rfl
theorem zrW{b:Bool}:ztj (.bl b) S QB=QB b S:=pz id id
theorem zon{i:Int}:ztj (.int i) S QB=QB (i != 0) S:=pz id id
theorem zot{ws:List W}:ztj (.tup ws) S QB=QB (!ws.isEmpty) S:=pz id id
theorem zqJ{a:Addr}:ztj (.ref a) S QB=zcu S a λws=>QB (!ws.isEmpty) S:=pz id id
theorem zqu:ztj .non S QB=QB false S:=pz id id
theorem zkJ{ws:List W}:zof (.tup ws) S QS=QS ws λ_=>True:=pz id id
theorem zhB{a:Addr}:zof (.ref a) S QS=zcu S a λws=>QS ws λS'=>S' a=ae (.lst ws):=pz id id
theorem zur{b:Bool}:tyW (.bl b) S QT=QT "bool" :=pz id id
theorem zrQ{i:Int}:tyW (.int i) S QT=QT "int" :=pz id id
theorem zra{i:Str}:tyW (.str i) S QT=QT "str" :=pz id id
theorem zrM{i:List W}:tyW (.tup i) S QT=QT "tuple" :=pz id id
theorem zrd:tyW .non S QT=QT "NoneType" :=pz id id
theorem zsm{a:Addr}:tyW (.ref a) S QT=zcu S a λ_=>QT "list" :=pz id id
theorem zqj{i j:Int}:zdF (.int i) (.int j) S Q=Q (.int (i+j)) S:=pz id id
theorem zqD{i j:Str}:zdF (.str i) (.str j) S Q=(i.length+j.length≤sizeLine∧Q (.str (i++j)) S):=pz id id
theorem zhg{i j:List W}:zdF (.tup i) (.tup j) S Q=(i.length+j.length≤sizeLine∧Q (.tup (i++j)) S):=pz id id
theorem zqy{a b:Addr}:zdF (.ref a) (.ref b) S Q=zcu S a λxs=>zcu S b λys=>xs.length+ys.length≤sizeLine∧ ∀p,S p=none→Q (.ref p) (put S p (.lst (xs++ys))):=pz id id
theorem zza{C:Int→Int→Prop}{g:Int→Int→W}{i j:Int}:zdk C g (.int i) (.int j) S Q=(C i j∧Q (g i j) S):=pz id id
theorem zxh{g:Int→Int→W}{i j:Int}:zeM g (.int i) (.int j) S Q=Q (g i j) S:=pz id id
theorem zrS{i j:Int}:oLe (.int i) (.int j) S Q=Q (.bl (decide (i≤j))) S:=pz id id
theorem zsr{i j:Str}:oLe (.str i) (.str j) S Q=Q (.bl (!decide (j.cps.toList<i.cps.toList))) S:=pz id id
theorem zqd{us:List W}:zeq [.tup us] S Q=Q (.int us.length) S:=pz id id
theorem zpZ{a:Addr}:zeq [.ref a] S Q=zcu S a λus=>Q (.int us.length) S:=pz id id
theorem zpx{ns:List Int}:zeq [.scr ns] S Q=Q (.int ns.length) S:=pz id id
theorem zoy{z:Str}:zeq [.str z] S Q=(z.length≤sizeLine∧Q (.int z.length) S):=pz id id
theorem zrz{ws:List W}{i:Int}:oIx (.tup ws) (.int i) S Q=match atI ws i with
 |some w=>Q w S
 |none=>False:=pz id id
theorem zsv{a:Addr}{i:Int}:oIx (.ref a) (.int i) S Q=zcu S a λws=>match atI ws i with
 |some w=>Q w S
 |none=>False:=pz id id
theorem zru{ns:List Int}{i:Int}:oIx (.scr ns) (.int i) S Q=match atI ns i with
 |some n=>Q (.int n) S
 |none=>False:=pz id id
theorem zrb{x:Str}{i:Int}:oIx (.str x) (.int i) S Q=(x.length≤sizeLine∧match atI x.cps.toList i with
 |some c=>Q (.str ⟨#[c]⟩) S
 |none=>False):=pz id id
theorem zrZ{ws:List W}{lo hi:Option Int}:oSl (.tup ws) lo hi S Q=Q (.tup (zeo ws lo hi)) S:=pz id id
theorem zrc{z:Str}{lo hi:Option Int}:oSl (.str z) lo hi S Q=(z.length≤sizeLine∧Q (.str (cL z lo hi)) S):=pz id id
theorem zsw{a:Addr}{lo hi:Option Int}:oSl (.ref a) lo hi S Q=zcu S a λws=>∀p,S p=none→Q (.ref p) (put S p (.lst (zeo ws lo hi))):=pz id id
theorem zsi{ns:List Int}{lo hi:Option Int}:oSl (.scr ns) lo hi S Q= ∀p,S p=none→Q (.ref p) (put S p (.lst ((zeo ns lo hi).map W.int))):=pz id id
theorem zlQ{us:List W}:zdp [.tup us] S Q=Q (.tup us) S:=pz id id
theorem zlM{a:Addr}:zdp [.ref a] S Q=zcu S a λus=>Q (.tup us) S:=pz id id
theorem zsq{a:Addr}{y:W}:zbW (.ref a) [y] S Q=zcu S a λxs=>xs.length<sizeLine∧Q .non (put S a (.lst (xs++[y]))):=pz id id
theorem zyf{a:Addr}:zAp (.ref a) [] S Q=zcu S a λxs=>match xs[xs.length - 1]? with
 |some y=>Q y (put S a (.lst xs.dropLast))
 |none=>False:=pz id id
theorem zjJ{a:Addr}{ys:List W}:zgY (.ref a) [.tup ys] S Q=zcu S a λxs=>xs.length+ys.length≤sizeLine∧Q .non (put S a (.lst (xs++ys))):=pz id id
theorem zjA{a b:Addr}:zgY (.ref a) [.ref b] S Q=zcu S a λxs=>zcu S b λys=>xs.length+ys.length≤sizeLine∧Q .non (put S a (.lst (xs++ys))):=pz id id
theorem zqA{a:Addr}{ws:List W}:zrk (.ref a) ws S Q=zcu S a λxs=>xs.length+ws.length≤sizeLine∧Q .non (put S a (.lst (xs++ws))):=pz id id
theorem zzy{a:Addr}:rvL (.ref a) S=zcu S a λ_=>True:=pz id id
theorem zzI{x:Str}:rvS (.str x) S=True:=pz id id
theorem zrp{b:Bool}:zxM [.bl b] S Q=Q (.int (if b then 1 else 0)) S:=pz id id
theorem zou{i:Int}:zxM [.int i] S Q=Q (.int i) S:=pz id id
theorem zwW{i j:Int}:zyq [.int i, .int j] S Q=Q (.int (if j > i then j else i)) S:=pz id id
theorem zwN{i j:Int}:zkM [.int i, .int j] S Q=Q (.int (if j<i then j else i)) S:=pz id id
theorem zwc{z:Str}{ws:List W}:zkH (.str z) ws S Q=match zge ws with
 |some ys=>(ys.map (·.length)).sum+ys.length*z.length≤16777216∧Q (.str (cS z ys)) S
 |none=>False:=pz id id
theorem zud{z y:Str}:zxr (.str z) [.str y] S Q=match cN z y 0 z.length 1 with
 |i::_=>Q (.int i) S
 | []=>False:=pz id id
theorem zss{neg:Bool}:oIs neg .non .non S Q=Q (.bl (!neg)) S:=pz id id
theorem zts{neg a b:Bool}:oIs neg (.bl a) (.bl b) S Q=Q (.bl (if neg then a != b else a == b)) S:=pz id id
theorem zuz{neg a:Bool}:oIs neg (.bl a) .non S Q=Q (.bl neg) S:=pz id id
theorem zoO{neg:Bool}{ws:List W}:oIs neg (.tup ws) .non S Q=Q (.bl neg) S:=pz id id
theorem zuG{neg:Bool}{a:Addr}:oIs neg (.ref a) .non S Q=Q (.bl neg) S:=pz id id
theorem zqa{neg:Bool}{a:Int}:oIs neg (.int a) .non S Q=Q (.bl neg) S:=pz id id
theorem zsp{neg:Bool}{x:W}{ws:List W}:oIn neg x (.tup ws) S Q=match inF S x ws with
 |some b=>Q (.bl (if neg then !b else b)) S
 |none=>False:=pz id id
theorem zry{neg:Bool}{x:W}{a:Addr}:oIn neg x (.ref a) S Q=zcu S a λws=>match inF S x ws with
 |some b=>Q (.bl (if neg then !b else b)) S
 |none=>False:=pz id id
theorem zsa{neg:Bool}{i j:Str}:oIn neg (.str i) (.str j) S Q=Q (.bl (if neg then !(!(cN j i 0 j.length 1).isEmpty) else !(cN j i 0 j.length 1).isEmpty)) S:=pz id id
end
theorem zlu{g:WG}{b:WS}{E:WX}{D:WEnds}{G:Sto→Prop}(I:List W→WSt→Sto→Prop)
  (step:∀w ws σ S (N:WSt→Sto→Prop),I (w::ws) σ S→(∀σ' S' S'',Sub S'' S'→G S''→I ws σ' S''→N σ' S')→g w σ S λσ1 S1=>b E { D with nx:=N,ct:=N,bk:=D.nx } σ1 S1)
  (done:∀σ S,I [] σ S→D.nx σ S):∀(ws:List W) (σ:WSt) (S:Sto),I ws σ S→forL g b E D G ws σ S
 | [],σ,S,h=>done σ S h
 |w::ws,σ,S,h=>step w ws σ S _ h λσ' S' S'' sb hG hI=>⟨S'',sb,hG,zlu I step done ws σ' S'' hI⟩
section
variable {E:WX}{σ:WSt}{S:Sto}{Q:WK}{QB:Bool→Sto→Prop}{QA:List W→Sto→Prop}{QI:List W→(Sto→Prop)→Sto→Prop}{QO:Option Int→Sto→Prop}{P:WSt→Sto→Prop}{D:WEnds}{w x y:W}{ws:List W}{EX:Str→Sto→Prop}
theorem zvC{i:Nat}:(zaf i E σ S Q)=(match σ[i]? with
 |some (ae w)=>Q w S
 |_=>False):=pz id id
theorem zAi{w:W}:(wC w E σ S Q)=(Q w S):=pz id id
theorem zze{r:W2}{a b:WE}:(wOp r a b E σ S Q)=(a E σ S λx S1=>b E σ S1 λy S2=>r x y S2 Q):=pz id id
theorem zvx{t:WE}:(zgv t E σ S QB)=(t E σ S λw S'=>ztj w S' QB):=pz id id
theorem zzp{t:WE}:(wTb t E σ S QB)=(t E σ S λw S'=>match w with
 | .bl b=>QB b S'
 |_=>False):=pz id id
theorem zxW{t u:WT}:(zqT t u E σ S QB)=(t E σ S λc S1=>if c=true then u E σ S1 QB else QB false S1):=pz id id
theorem zzD{t u:WT}:(wOr t u E σ S QB)=(t E σ S λc S1=>if c=true then QB true S1 else u E σ S1 QB):=pz id id
theorem zwj{t:WT}:(zqS t E σ S QB)=(t E σ S λc S1=>QB (!c) S1):=pz id id
theorem zuk{t u:WE}:(zri t u E σ S Q)=(t E σ S λw S1=>match w with
 | .bl true=>u E σ S1 Q
 | .bl false=>Q (.bl false) S1
 |_=>False):=pz id id
theorem zzJ{c:WT}{t u:WE}:(wIf c t u E σ S Q)=(c E σ S λb S1=>if b=true then t E σ S1 Q else u E σ S1 Q):=pz id id
theorem zxL{c:WT}{t u:WS}:(zbN c t u E D σ S)=(c E σ S λb S1=>if b=true then t E D σ S1 else u E D σ S1):=pz id id
theorem zuX:(zaD  E D σ S)=(D.nx σ S):=pz id id
theorem zxv{t u:WS}:(zar t u E D σ S)=(t E { D with nx:=u E D } σ S):=pz id id
theorem zxd{e:WE}:(zaU e E D σ S)=(e E σ S D.rt):=pz id id
theorem zuZ{e:WE}:(zcU e E D σ S)=(e E σ S λ_ S1=>D.nx σ S1):=pz id id
theorem zlL{i:Nat}:(wGN i w σ S P)=(P (σ.set i (ae w)) S):=pz id id
theorem zwg{e:WE}{g:WG}:(wAsg e g E D σ S)=(e E σ S λw S1=>g w σ S1 D.nx):=pz id id
theorem zqr:(zbT  ws σ S P)=(match ws with
 | []=>P σ S
 |_=>False):=pz id id
theorem ziO{g:WG}{u:WGs}:(zat g u ws σ S P)=(match ws with
 | []=>False
 |w::r=>g w σ S λσ' S'=>u r σ' S' P):=pz id id
theorem zvB{u:WGs}:(wGT u w σ S P)=(match w with
 | .tup ws=>u ws σ S P
 |_=>False):=pz id id
theorem zvq:(waNil  E σ S QA)=(QA [] S):=pz id id
theorem zrO{t:WE}{u:WA}:(zab t u E σ S QA)=(t E σ S λw S1=>u E σ S1 λws S2=>QA (w::ws) S2):=pz id id
theorem zxu{t:WA}:(zbD t E σ S Q)=(t E σ S λws S1=>ws.length≤sizeLine∧Q (.tup ws) S1):=pz id id
theorem zxE{t:WA}:(zdl t E σ S QA)=(t E σ S λws S1=>ws.length≤sizeLine∧QA ws S1):=pz id id
theorem zwb{t:WL}:(zct t E σ S Q)=(t E σ S λws S1=>∀a,S1 a=none→Q (.ref a) (put S1 a (.lst ws))):=pz id id
theorem ztx{c:WSp}{t:WA}:(zap c t E σ S Q)=(t E σ S λws S1=>c ws S1 Q λcl S2=>E cl σ S2):=pz id id
theorem zgP{n k:Nat}{body:WS}:(zcv n k body ws S Q EX)=(ws.length=k∧body (λc _ S'=>EX c S') { nx:=λ_ S'=>∃S'',Sub S'' S'∧Q .non S'',rt:=λw S'=>∃S'',Sub S'' S'∧Q w S'' } (ws.map ae++aO (n - k) none) S):=pz id id
theorem zvz{t:WE}:(znZ t E σ S Q)=(t E σ S λw S1=>match w with
 | .int i=>Q (.int (-i)) S1
 |_=>False):=pz id id
theorem zyQ{t u:WE}:(zyn t u E σ S QA)=(t E σ S λx S1=>u E σ S1 λy S2=>match x,y with
 | .ref a, .ref b=>zcu S2 a λxs=>zcu S2 b λys=>xs.length+ys.length≤sizeLine∧QA (xs++ys) S2
 |_,_=>False):=pz id id
theorem zzl{neg:Bool}:(oEq neg x y S Q)=(match eqF S 60 x y with
 |some b=>Q (.bl (if neg then !b else b)) S
 |none=>False):=pz id id
theorem zzC:(woN  E σ S QO)=(QO none S):=pz id id
theorem zzh{t:WE}:(woS t E σ S QO)=(t E σ S λw S1=>match w with
 | .int i=>QO (ae i) S1
 |_=>False):=pz id id
theorem zzs{t:WE}{l h:WO}:(wSl t l h E σ S Q)=(t E σ S λx S1=>l E σ S1 λlo S2=>h E σ S2 λhi S3=>oSl x lo hi S3 Q):=pz id id
theorem zAM{f:WF}{t:WA}:(wB f t E σ S Q)=(t E σ S λws S1=>f ws S1 Q):=pz id id
theorem zzb{f:WF}{t:WL}:(wBL f t E σ S Q)=(t E σ S λws S1=>f ws S1 Q):=pz id id
theorem zoi:(zhD  ws S Q)=(Q (.tup ws) S):=pz id id
theorem zpJ{t:WE}:(zhA t E σ S QA)=(t E σ S λw S1=>match w with
 | .tup ws=>QA ws S1
 | .ref a=>zcu S1 a λws=>QA ws S1
 | .scr ns=>QA (ns.map W.int) S1
 |_=>False):=pz id id
theorem zxH{T:String}{t:WE}:(zoh T t E σ S Q)=(t E σ S λw S1=>tyW w S1 λA=>Q (.bl (zcd A T)) S1):=pz id id
theorem zzY{rv:W→Sto→Prop}{f:WMf}{to:WE}{t:WA}:(wM rv f to t E σ S Q)=(to E σ S λw S1=>rv w S1∧t E σ S1 λws S2=>f w ws S2 Q):=pz id id
theorem zzn{rv:W→Sto→Prop}{f:WMf}{to:WE}{t:WL}:(wML rv f to t E σ S Q)=(to E σ S λw S1=>rv w S1∧t E σ S1 λws S2=>f w ws S2 Q):=pz id id
theorem zvN{i:Nat}{g:Int→Int→Int}{e:WE}:(zwh i g e E D σ S)=(match σ[i]? with
 |some (ae (.int a))=>e E σ S λw S1=>match w with
  | .int b=>D.nx (σ.set i (ae (.int (g a b)))) S1
  |_=>False
 |_=>False):=pz id id
theorem zxX{q:WI}{g:WG}{b:WS}:(zgo q g b E D σ S)=(q E σ S λws G S1=>forL g b E D G ws σ S1):=pz id id
theorem zzr{t:WE}:(wIv t E σ S QI)=(t E σ S λw S1=>match w with
 | .tup ws=>QI ws (λ_=>True) S1
 | .ref a=>zcu S1 a λws=>QI ws (λS'=>S' a=ae (.lst ws)) S1
 | .scr ns=>QI (ns.map W.int) (λ_=>True) S1
 | .str z=>QI (zlw z) (λ_=>True) S1
 |_=>False):=pz id id
theorem zvM{t:WA}:(zsI t E σ S QI)=(t E σ S λws S1=>match ws with
 | [.int j]=>(-(2 ^ 62)≤j∧j<2 ^ 62)∧QI (zlv 0 j.toNat) (λ_=>True) S1
 |_=>False):=pz id id
theorem zvZ:(zhL  E σ S QB)=(QB true S):=pz id id
theorem zuQ{k:Nat}{fr:List Nat}{q:WI}{g:WG}{c:WT}{e:WE}:(zde k fr q g c e E σ S QA)=(q noE σ S λws G S1=>zfS g c e noE G QA ws [] (aO k none++fr.map λj=>(σ[j]?).join) S1):=pz id id
theorem zuj{t:WE}:(znM t E σ S QI)=(t E σ S λw S1=>zof w S1 λws G=>QI (zhz 0 ws) G S1):=pz id id
theorem zxC{t u:WE}:(zsV t u E σ S QI)=(t E σ S λx S1=>u E σ S1 λy S2=>zof x S2 λxs G=>zof y S2 λys G'=>QI (pairs xs ys) (λS'=>G S'∧G' S') S2):=pz id id
theorem zuS{t:WE}{l h:WO}:(zvu t l h E σ S QA)=(t E σ S λx S1=>l E σ S1 λlo S2=>h E σ S2 λhi S3=>match x with
 | .ref a=>zcu S3 a λws=>QA (zeo ws lo hi) S3
 | .scr ns=>QA ((zeo ns lo hi).map W.int) S3
 |_=>False):=pz id id
theorem zwJ{t:WL}{u:WE}:(zti t u E σ S Q)=(t E σ S λws S1=>u E σ S1 λy S2=>match y with
 | .int i=>match atI ws i with
  |some w=>Q w S2
  |none=>False
 |_=>False):=pz id id
theorem ztH{t:WE}{u:WL}:(zrV t u E σ S QA)=(t E σ S λx S1=>u E σ S1 λys S2=>match x with
 | .ref a=>zcu S2 a λxs=>xs.length+ys.length≤sizeLine∧QA (xs++ys) S2
 |_=>False):=pz id id
theorem ztS{t u:WL}:(znQ t u E σ S QA)=(t E σ S λxs S1=>u E σ S1 λys S2=>xs.length+ys.length≤sizeLine∧QA (xs++ys) S2):=pz id id
theorem zuL{t:WL}{u:WE}:(zol t u E σ S QA)=(t E σ S λxs S1=>u E σ S1 λy S2=>match y with
 | .ref a=>zcu S2 a λys=>xs.length+ys.length≤sizeLine∧QA (xs++ys) S2
 |_=>False):=pz id id
theorem zvj{t:WL}{u:WE}:(zrL t u E σ S QA)=(t E σ S λxs S1=>u E σ S1 λy S2=>match y with
 | .int k=>(-(2 ^ 63)≤k∧k<2 ^ 63∧xs.length*k.toNat≤sizeLine)∧QA (aO k.toNat xs).flatten S2
 |_=>False):=pz id id
end
section
variable {S:Sto}{Q:WK}
theorem zvH{xs:List W}{k:Int}:zyF (.tup xs) (.int k) S Q=((xs≠ []∧ -(2 ^ 63)≤k∧k<2 ^ 63∧xs.length*k.toNat≤sizeLine)∧Q (.tup (aO k.toNat xs).flatten) S):=pz id id
theorem zyC{neg:Bool}{y:W}{a:Addr}:zxA neg y (.ref a) S Q=(match zqq y with
 |some k=>zsn S a λkvs=>Q (.bl (if neg then !(zgk kvs k).isSome else(zgk kvs k).isSome)) S
 |none=>False):=pz id id
theorem zwp{y:W}{a:Addr}:zyL (.ref a) y S Q=(match zqq y with
 |some k=>zsn S a λkvs=>match zgk kvs k with
  |some w=>Q w S
  |none=>False
 |none=>False):=pz id id
theorem ztM{ws:List W}:(zoj ws S Q)=(match zcf ws with
 |some ns=>Q (.int ns.sum) S
 |none=>False):=pz id id
theorem zub{z:Str}:zmy (.str z) [] S Q=(z.length≤5592405∧Q (.str (dm z)) S):=pz id id
theorem zfX:∀p:List Int,zcf (p.map W.int)=ae p
 | []=>rfl
 |i::p=>by rw[aA,zcf,zfX p];rfl
theorem zyx (p:List Int):zqq (zbn p)=ae p:=zfX p
theorem zrH{a:Addr}{kvs:List (List Int×W)}{P:List (List Int×W)→Prop}:zsn (put S a (.dct kvs)) a P=P kvs:=zlN zag
end
end L2
end
section
def L2.wZ (d:String):Lean.MacroM (Lean.TSyntax `tactic):=do
  let a:Array Lean.Term:=(("L2.zvC L2.zAi L2.zze L2.zvx L2.zzp L2.zxW L2.zzD L2.zwj L2.zuk L2.zzJ L2.zxL L2.zuX L2.zxv L2.zxd L2.zuZ L2.zlL L2.zwg L2.zqr L2.ziO L2.zvB L2.zvq L2.zrO L2.zxu L2.zxE L2.zwb L2.ztx L2.zgP L2.zvz L2.zzl L2.zzC L2.zzh L2.zzs L2.zAM L2.zzb L2.zoi L2.zpJ L2.zxH L2.zzY L2.zzn L2.zvN L2.zxX L2.zzr L2.zvM L2.zvZ L2.zuQ L2.zuj L2.zxC L2.zuS L2.zwJ L2.ztH L2.ztS L2.zuL L2.zvj L2.zvH L2.zyC L2.zwp L2.ztM L2.zrJ L2.zub L2.zyx L2.zrH L2.zgA L2.zbc L2.zwu L2.zxO L2.zzB L2.zuf L2.zje L2.zlO L2.zjt L2.zll L2.ziX L2.zjY L2.zkI L2.ziu L2.zkF L2.zhH L2.zin L2.zlo L2.zjw L2.zlt L2.ziT L2.zki L2.zim L2.zhN L2.ziR L2.sub_tuple_tuple L2.sub_tuple_list L2.zkL L2.zjc L2.zkp L2.sub_list_tuple L2.sub_list_list L2.zrW L2.zon L2.zot L2.zqJ L2.zqu L2.zkJ L2.zhB L2.zur L2.zrQ L2.zra L2.zrM L2.zrd L2.zsm L2.zqj L2.zqD L2.zhg L2.zqy L2.zza L2.zxh L2.zrS L2.zsr L2.zqd L2.zpZ L2.zpx L2.zoy L2.zrz L2.zsv L2.zru L2.zrb L2.zrZ L2.zrc L2.zsw L2.zsi L2.zlQ L2.zlM L2.zsq L2.zyf L2.zjJ L2.zjA L2.zqA L2.zzy L2.zzI L2.zrp L2.zou L2.zwW L2.zwN L2.zwc L2.zud L2.zss L2.zts L2.zuz L2.zoO L2.zuG L2.zqa L2.zsp L2.zry L2.zsa List.map_cons List.map_nil List.length_cons List.length_nil List.cons_append List.nil_append List.append_nil List.replicate List.getElem?_cons_zero List.getElem?_cons_succ List.getElem?_nil List.set_cons_zero List.set_cons_succ Nat.reduceAdd Nat.reduceSub true_and and_true if_true if_false Bool.false_eq_true reduceIte Bool.not_true Bool.not_false Option.join_some Option.join_none decide_eq_true_eq and_self".splitOn " ").filter (· != d)).toArray.map λs=>Lean.mkIdent s.toName
  `(tactic| simp only [$[$a:term],*])
local macro_rules | `(tactic| walk_at "wp") => L2.wZ ""
section
namespace L2
open PySem PySem.Spec PyProof.Rows
noncomputable def vlK (kvs:List (Key×W)) (k:Key):Option W:=(kvs.find? λkv=>decide (kv.1=k)).map (·.2)
noncomputable def ptK (kvs:List (Key×W)) (k:Key) (v:W):List (Key×W):=
 if(kvs.any λkv=>decide (kv.1=k))=true then kvs.map (λkv=>if kv.1=k then(kv.1,v) else kv) else kvs++[(k,v)]
noncomputable def zpA:W→Option Key
 | .int i=>ae (.inl i)
 | .str x=>ae (.inr x)
 |_=>none
def dkW (S:Sto) (a:Addr) (P:List (Key×W)→Prop):Prop:=match S a with
 |some (.dk kvs)=>P kvs
 |_=>False
theorem zox{S:Sto}{a:Addr}{P:List (Key×W)→Prop}(h:dkW S a P):∃kvs,S a=ae (.dk kvs)∧P kvs:=by
 unfold dkW at h;split at h
 ·exact⟨_, ‹_›,h⟩
 ·exact h.elim
theorem zlU{S:Sto}{a:Addr}{kvs:List (Key×W)}{P:List (Key×W)→Prop}(e:S a=ae (.dk kvs)):dkW S a P=P kvs:=by unfold dkW;rw[e]
section
variable {K:aj}{H:Hp}
noncomputable abbrev RpK (K:aj) (H:Hp):List (Key×W)→List (Key×V)→Prop:=aN λq p=>p.1=q.1∧Rep K H q.2 p.2
theorem RpK.val{kvs:List (Key×W)}{ps:List (Key×V)}(r:RpK K H kvs ps) (k:Key):(∀w,vlK kvs k=ae w→ ∃v,zjg ps k=ae v∧Rep K H w v)∧(vlK kvs k=none→zjg ps k=none):=by
 induction r with
 |nil=>exact⟨λw h=>by simp [vlK]at h,λ_=>rfl⟩
 | @cons q p kvs ps h t ih=>
  by_cases hk:q.1=k
  ·have e:p.1=k:=by rw[h.1,hk]
   rw[zfn e];have ew:vlK (q::kvs) k=ae q.2:=by simp [vlK,bF,hk]
   rw[ew];exact⟨λw z=>by cases z;exact⟨_,rfl,h.2⟩,λz=>by cases z⟩
  ·have e:¬p.1=k:=by rw[h.1];exact hk
   rw[zfD e];have ew:vlK (q::kvs) k=vlK kvs k:=by simp [vlK,bF,hk]
   rw[ew];exact ih
theorem RpK.any{kvs:List (Key×W)}{ps:List (Key×V)}(r:RpK K H kvs ps) (k:Key):(ps.any λkv=>decide (kv.1=k))=kvs.any λkv=>decide (kv.1=k):=by
 induction r with
 |nil=>rfl
 | @cons q p kvs ps h t ih=>
  rw[cr,cr,ih,h.1]
theorem RpK.put{kvs:List (Key×W)}{ps:List (Key×V)}(r:RpK K H kvs ps) (k:Key) {w:W}{v:V}(rw':Rep K H w v):RpK K H (ptK kvs k w) (zhK ps k v):=by
 unfold ptK zhK;rw[r.any k];split
 ·rename_i hany;clear hany
  induction r with
  |nil=>exact .nil
  | @cons q p kvs ps h t ih=>
   rw[aA,aA];refine .cons ?_ ih;by_cases hk:q.1=k
   ·rw[if_pos hk,if_pos (by rw[h.1,hk])];exact⟨h.1,rw'⟩
   ·rw[if_neg hk,if_neg (by rw[h.1];exact hk)];exact h
 ·rename_i hany;clear hany
  induction r with
  |nil=>exact .cons ⟨rfl,rw'⟩ .nil
  |cons h t ih=>exact .cons h ih
theorem zma{w:W}{v:V}{k:Key}(r:Rep K H w v) (e:zpA w=ae k):v=kV k:=by
 cases r with
 |int i=>cases e;rfl
 |str x=>cases e;rfl
 |_=>simp [zpA]at e
theorem zuR{S:Sto}{a:Addr}{kvs:List (Key×W)}{y:V}{wy:W}{k:Key}(hS:RepS K H S) (e:S a=ae (.dk kvs)) (ry:Rep K H wy y) (ek:zpA wy=ae k):∃o,DGet H a y o∧(vlK kvs k=none→o=none)∧ ∀w,vlK kvs k=ae w→ ∃v,o=ae v∧Rep K H w v:=by
 obtain⟨ps,e1,r⟩:=hS a _ e;cases zma ry ek;have rv:=RpK.val r k;exact⟨zjg ps k, .k e1,rv.2,rv.1⟩
end
noncomputable def zuh:WE:=λ_ _ S Q=>∀a,S a=none→Q (.ref a) (put S a (.dk []))
noncomputable def zuM (td ty tv:WE):WS:=λE D σ S=>tv E σ S λv S1=>td E σ S1 λx S2=>ty E σ S2 λy S3=>match x with
 | .ref a=>match zpA y with
  |some k=>dkW S3 a λkvs=>kvs.length<sizeLine∧D.nx σ (put S3 a (.dk (ptK kvs k v)))
  |none=>False
 |_=>False
noncomputable def zmM (td ty tz:WE):WE:=λE σ S Q=>td E σ S λx S1=>match x with
 | .ref a=>dkW S1 a λ_=>ty E σ S1 λy S2=>tz E σ S2 λz S3=>match zpA y with
  |some k=>dkW S3 a λkvs=>Q ((vlK kvs k).getD z) S3
  |none=>False
 |_=>False
section
variable {X:Cx}{a b o i e f value:Expr}{pos pos' apos cpos:aC}{td ty tv tz:WE}
theorem zvo:JE X (.Dict [] [] pos) zuh:=λE hE=>
 pe_dnewK.mono λσ H Q ⟨σW,S,QW,hσ,hS,ht,hQ⟩ p hp=>by
  refine hQ (.ref p) (put S p (.dk [])) (.ref p) _ (.newS hp) (.ref p) (λb o q=>?_) (ht p (hS.free hp));by_cases hb:b=p
  ·subst hb;rw[zag]at q;cases q;exact⟨[],zay, .nil⟩
  ·rw[zaA hb]at q;exact hS.new hp b o q
theorem ztz{k:Nat}(hr:Room k X.A) (ho:JE X o td) (hi:JE X i ty) (hv:JE X value tv) (hs:di value (ae (.Subscript o i pos')) pos.line X.env=pure false:=by rfl):JS X (.Assign [.Subscript o i pos'] value pos) (zuM td ty tv):=λE hE=>
 (zuP (by have:=hr.units;omega) (ho E hE) (hi E hE) (hv E hE) hs).mono λD σ H ⟨σW,S,DW,hσ,hS,ht,hD⟩=>
  ⟨σW,S,_,hσ,hS,ht,λw S1 v H1 e1 r1 hS1 h1=>⟨σW,S1,_,hσ.ext e1,hS1,h1,λwx S2 x H2 e2 r2 hS2 h2=>⟨σW,S2,_,(hσ.ext e1).ext e2,hS2,h2,λwy S3 y H3 e3 r3 hS3 h3=>by
   split at h3
   ·split at h3
    ·rename_i a _ k ek;obtain⟨kvs,ea,hl,h3⟩:=zox h3;cases r2;obtain⟨ps,e4,r4⟩:=hS3 a _ ea;cases zma r3 ek;have r1':Rep X.K H3 w v:=(r1.ext e2).ext e3;have x4:Ext H3 S3 (upd H3 a (.dK (zhK ps k v))) (put S3 a (.dk (ptK kvs k w))):= .mut e4 ea (λ_ z=>nomatch z) λ_ _ z=>nomatch z;refine⟨a,_,rfl, .k e4 (by rw[←du r4];exact hl),?_⟩;refine hD.nx _ (put S3 a (.dk (ptK kvs k w))) _ _ (((e1.trans e2).trans e3).trans x4) ((((hσ.ext e1).ext e2).ext e3).ext x4) (λc ob q=>?_) h3;by_cases hc:c=a
     ·subst hc;rw[zag]at q;cases q;exact⟨_,zay,Paired.mapP (RpK.put r4 k r1') λ_ _ z=>⟨z.1,z.2.ext x4⟩⟩
     ·rw[zaA hc]at q;exact(hS3 c ob q).keep x4 λu z=>by rw[zaz hc];exact z
    ·exact h3.elim
   ·exact h3.elim⟩⟩⟩
theorem zmz{k:Nat}(hr:Room k X.A) (ho:JE X o td) (he:JE X e ty) (hf:JE X f tz) (m:M2 X o "get" apos e f cpos:=by exact⟨rfl,rfl,rfl,rfl⟩):JE X (.Call (.Attribute o "get" apos) [e,f] [] cpos) (zmM td ty tz):=λE hE=>
 (zrT (by have:=hr.units;omega) (ho E hE) (he E hE) (hf E hE) m).mono λσ H Q ⟨σW,S,QW,hσ,hS,ht,hQ⟩=>
  ⟨σW,S,_,hσ,hS,ht,λwx S1 x H1 e1 r1 hS1 h1=>by
   split at h1
   ·rename_i a;obtain⟨kv0,ea0,h1⟩:=zox h1;cases r1;obtain⟨ps0,e0,_⟩:=hS1 a _ ea0;refine⟨a,rfl, .inl ⟨_, .inl e0⟩,σW,S1,_,hσ.ext e1,hS1,h1,λwy S2 y H2 e2 r2 hS2 h2=>⟨σW,S2,_,(hσ.ext e1).ext e2,hS2,h2,λwz S3 z H3 e3 r3 hS3 h3=>?_⟩⟩;split at h3
    ·rename_i k ek;obtain⟨kvs,ea,h3⟩:=zox h3;obtain⟨o,g,g0,g1⟩:=zuR hS3 ea (r2.ext e3) ek;refine⟨o,g,?_⟩;cases q:vlK kvs k with
     |none=>
      rw[q]at h3;rw[g0 q];exact hQ wz S3 z H3 ((e1.trans e2).trans e3) r3 hS3 h3
     |some w=>
      rw[q]at h3;obtain⟨v,rfl,rv⟩:=g1 w q;exact hQ w S3 v H3 ((e1.trans e2).trans e3) rv hS3 h3
    ·exact h3.elim
   ·exact h1.elim⟩
end
section
variable {E:WX}{D:WEnds}{σ:WSt}{S:Sto}{Q:WK}
theorem zvf:(zuh E σ S Q)= ∀a,S a=none→Q (.ref a) (put S a (.dk [])):=pz id id
theorem zqO{td ty tv:WE}:(zuM td ty tv E D σ S)=(tv E σ S λv S1=>td E σ S1 λx S2=>ty E σ S2 λy S3=>match x with
 | .ref a=>match zpA y with
  |some k=>dkW S3 a λkvs=>kvs.length<sizeLine∧D.nx σ (put S3 a (.dk (ptK kvs k v)))
  |none=>False
 |_=>False):=pz id id
theorem zmP{td ty tz:WE}:(zmM td ty tz E σ S Q)=(td E σ S λx S1=>match x with
 | .ref a=>dkW S1 a λ_=>ty E σ S1 λy S2=>tz E σ S2 λz S3=>match zpA y with
  |some k=>dkW S3 a λkvs=>Q ((vlK kvs k).getD z) S3
  |none=>False
 |_=>False):=pz id id
end
noncomputable def zcx:Nat→WSp
 |0=>zaR
 |r+1=>zcv 1 1 (zar (zbN (zgv (zoh "int" (zaf 0))) (zaU (zbD waNil)) zaD)
  (zaU (wSl (zaf 0) (woS (wC (.int 1))) woN)))
noncomputable def zcR (r:Nat) (self:WSp):WS:=(zcU (wM rvL zgY (zaf 1) (zab (zap (zcx r) (zab (zaf 2) waNil)) waNil)))
noncomputable def zbQ:Nat→WSp
 |0=>zaR
 |r+1=>zcv 3 1 (zar (wAsg (zct (zdl waNil)) (wGN 1))
  (zar (zgo (wIv (zaf 0)) (wGN 2) (zcR r zaR))
  (zaU (zaf 1))))
noncomputable def zgj (r:Nat) (self:WSp):WS:=(zar (zwh 1 (λa b=>a+b) (wB zeq (zab (zaf 3) waNil)))
  (zar (zwh 2 (λa b=>a+b) (wC (.int 1)))
  (zar (zbN (wOr (wTb (wOp oGt (zaf 1) (wC (.int 400)))) (wTb (wOp oGt (zaf 2) (wC (.int 40))))) (zaU (wC (.bl false))) zaD)
  (wAsg (zap (zbQ r) (zab (zaf 3) waNil)) (wGN 3)))))
noncomputable def zdC:Nat→WSp
 |0=>zaR
 |r+1=>zcv 4 1 (zar (wAsg (wC (.int 0)) (wGN 1))
  (zar (wAsg (wC (.int 0)) (wGN 2))
  (zar (wAsg (zct (zdl (zab (zaf 0) waNil))) (wGN 3))
  (zar (zos (zgv (zaf 3)) (zgj r zaR))
  (zaU (wC (.bl true)))))))
noncomputable def zcz (r:Nat) (self:WSp):WS:=(zcU (zap self (zab (zaf 4) (zab (wOp zdF (zaf 1) (zbD (zab (zaf 3) waNil))) (zab (zaf 2) waNil)))))
noncomputable def zaP:Nat→WSp
 |0=>zaR
 |r+1=>zcv 5 3 (zar (zcU (wM rvL zbW (zaf 2) (zab (zaf 1) waNil)))
  (zgo (znM (zap (zcx r) (zab (zaf 0) waNil))) (wGT (zat (wGN 3) (zat (wGN 4) zbT))) (zcz r (zaP r))))
noncomputable def zfi:Nat→WSp
 |0=>zaR
 |r+1=>zcv 2 1 (zar (wAsg (zct (zdl waNil)) (wGN 1))
  (zar (zcU (zap (zaP r) (zab (zaf 0) (zab (zbD waNil) (zab (zaf 1) waNil)))))
  (zaU (zaf 1))))
noncomputable def zbE:Nat→WSp
 |0=>zaR
 |r+1=>zcv 3 2 (zar (wAsg (zap (zcx r) (zab (zaf 0) waNil)) (wGN 2))
  (zar (zbN (wOr (wTb (wOp oLt (zaf 1) (wC (.int 0)))) (wTb (wOp oGe (zaf 1) (wB zeq (zab (zaf 2) waNil))))) (zif "NoPlace" (zab (wC (.str "there is no such place")) waNil)) zaD)
  (zaU (wOp oIx (zaf 2) (zaf 1)))))
noncomputable def ziK (r:Nat) (self:WSp):WS:=(wAsg (zap (zbE r) (zab (zaf 2) (zab (zaf 3) waNil))) (wGN 2))
noncomputable def zkv:Nat→WSp
 |0=>zaR
 |r+1=>zcv 4 2 (zar (wAsg (zaf 0) (wGN 2))
  (zar (zgo (wIv (zaf 1)) (wGN 3) (ziK r zaR))
  (zaU (zaf 2))))
noncomputable def zgu (r:Nat) (self:WSp):WE:=(zaf 0)
noncomputable def zbP:Nat→WSp
 |0=>zaR
 |r+1=>zcv 1 1 (zaU (zct (zde 1 [0] (wIv (zap (zfi r) (zab (zaf 0) waNil))) (wGN 0) (zgv (zoh "int" (zap (zkv r) (zab (zaf 1) (zab (zaf 0) waNil))))) (zgu r zaR))))
noncomputable def zhY (r:Nat) (self:WSp):WE:=(zap self (zab (zaf 0) (zab (zaf 1) waNil)))
noncomputable def zcV:Nat→WSp
 |0=>zaR
 |r+1=>zcv 2 2 (zar (zbN (zgv (zoh "int" (zaf 0))) (zaU (wOp oIx (zaf 1) (zaf 0))) zaD)
  (zaU (wOp zdF (zbD (zab (wOp oIx (zaf 0) (wC (.int 0))) waNil)) (wBL zhD (zde 1 [1] (wIv (wSl (zaf 0) (woS (wC (.int 1))) woN)) (wGN 0) zhL (zhY r (zcV r)))))))
noncomputable def zbR:Nat→WSp
 |0=>zaR
 |r+1=>zcv 2 2 (zaU (zri (wOp (oEq false) (wOp oIx (zaf 0) (wC (.int 0))) (wOp oIx (zaf 1) (wC (.int 0)))) (wOp (oEq false) (wB zeq (zab (zaf 0) waNil)) (wB zeq (zab (zaf 1) waNil)))))
noncomputable def zcn (r:Nat) (self:WSp):WS:=(zbN (zqS (zgv (zap self (zab (zaf 3) (zab (zaf 4) (zab (zaf 2) waNil)))))) (zaU (wC (.bl false))) zaD)
noncomputable def zaE:Nat→WSp
 |0=>zaR
 |r+1=>zcv 5 3 (zar (zbN (zgv (zoh "int" (zaf 0))) (zar (zcU (wM rvL zbW (zaf 2) (zab (zaf 1) waNil)))
  (zaU (wC (.bl true)))) zaD)
  (zar (zbN (zqS (zgv (zap (zbR r) (zab (zaf 0) (zab (zaf 1) waNil))))) (zaU (wC (.bl false))) zaD)
  (zar (zgo (zsV (wSl (zaf 0) (woS (wC (.int 1))) woN) (wSl (zaf 1) (woS (wC (.int 1))) woN)) (wGT (zat (wGN 3) (zat (wGN 4) zbT))) (zcn r (zaE r)))
  (zaU (wC (.bl true))))))
noncomputable def zbO:Nat→WSp
 |0=>zaR
 |r+1=>zcv 3 2 (zar (wAsg (zct (zdl waNil)) (wGN 2))
  (zar (zbN (zgv (zap (zaE r) (zab (zaf 0) (zab (zaf 1) (zab (zaf 2) waNil))))) (zaU (zaf 2)) zaD)
  (zaU (wC .non))))
noncomputable def zeD (r:Nat) (self:WSp):WS:=(zbN (wTb (wOp (oEq false) (wOp oIx (zaf 2) (wC (.int 0))) (zaf 1))) (zaU (zaf 2)) zaD)
noncomputable def zaV:Nat→WSp
 |0=>zaR
 |r+1=>zcv 3 2 (zar (zgo (wIv (zaf 0)) (wGN 2) (zeD r zaR))
  (zaU (wC .non)))
noncomputable def zbg:Nat→WSp
 |0=>zaR
 |r+1=>zcv 1 1 (zar (zbN (zqS (zgv (zap (zdC r) (zab (zaf 0) waNil)))) (zif "TooGreat" (zab (wC (.str "the shape is not small")) waNil)) zaD)
  (zaU (zaf 0)))
noncomputable def zeE (r:Nat) (self:WSp):WE:=(zap self (zab (zaf 1) (zab (zaf 0) (zab (zaf 2) waNil))))
noncomputable def zbF:Nat→WSp
 |0=>zaR
 |r+1=>zcv 5 3 (zar (wAsg (zct (zde 1 [0,2] (wIv (wSl (zaf 1) (woS (wC (.int 1))) woN)) (wGN 0) zhL (zeE r (zbF r)))) (wGN 3))
  (zar (wAsg (zap (zaV r) (zab (zaf 0) (zab (wOp oIx (zaf 1) (wC (.int 0))) waNil))) (wGN 4))
  (zar (zbN (wTb (wOp (oIs false) (zaf 4) (wC .non))) (zaU (wOp zdF (zbD (zab (wOp oIx (zaf 1) (wC (.int 0))) waNil)) (wB zdp (zab (zaf 3) waNil)))) zaD)
  (zaU (zap (zcV r) (zab (wOp oIx (zaf 4) (zaf 2)) (zab (zaf 3) waNil)))))))
noncomputable def zdP:Nat→WSp
 |0=>zaR
 |r+1=>zcv 2 2 (zaU (zap (zbg r) (zab (zap (zbF r) (zab (zaf 0) (zab (zaf 1) (zab (wC (.int 1)) waNil)))) waNil)))
noncomputable def zgg:Nat→WSp
 |0=>zaR
 |r+1=>zcv 2 2 (zaU (zap (zbg r) (zab (zap (zbF r) (zab (zaf 0) (zab (zaf 1) (zab (wC (.int 2)) waNil)))) waNil)))
noncomputable def zdW (r:Nat) (self:WSp):WE:=(zbD (zab (zaf 0) waNil))
noncomputable def zbG:Nat→WSp
 |0=>zaR
 |r+1=>zcv 3 2 (zar (wAsg (zap (zaV r) (zab (zaf 0) (zab (wOp oIx (zaf 1) (wC (.int 0))) waNil))) (wGN 2))
  (zar (zbN (wTb (wOp (oIs false) (zaf 2) (wC .non))) (zaU (zct (zde 1 [] (zsI (zab (wOp (zeM λi j=> .int (i - j)) (wB zeq (zab (zaf 1) waNil)) (wC (.int 1))) waNil)) (wGN 0) zhL (zdW r zaR)))) zaD)
  (zaU (zap (zbP r) (zab (wOp oIx (zaf 2) (wC (.int 1))) waNil)))))
noncomputable def zdU (r:Nat) (self:WSp):WS:=(zbN (wTb (wOp (oIs true) (zap (zbO r) (zab (wOp oIx (zaf 2) (wC (.int 1))) (zab (zaf 1) waNil))) (wC .non))) (zaU (zaf 2)) zaD)
noncomputable def zby:Nat→WSp
 |0=>zaR
 |r+1=>zcv 3 2 (zar (zgo (wIv (zaf 0)) (wGN 2) (zdU r zaR))
  (zaU (wC .non)))
noncomputable def zdb (r:Nat) (self:WSp):WS:=(zcU (zap self (zab (zaf 0) (zab (zaf 6) (zab (wOp zdF (zaf 2) (zbD (zab (zaf 5) waNil))) (zab (zaf 3) waNil))))))
noncomputable def zbq:Nat→WSp
 |0=>zaR
 |r+1=>zcv 7 4 (zar (wAsg (zap (zby r) (zab (zaf 0) (zab (zaf 1) waNil))) (wGN 4))
  (zar (zbN (wTb (wOp (oIs true) (zaf 4) (wC .non))) (zcU (wM rvL zbW (zaf 3) (zab (zbD (zab (zaf 2) (zab (wOp oIx (zaf 4) (wC (.int 0))) waNil))) waNil))) zaD)
  (zgo (znM (wSl (zaf 1) (woS (wC (.int 1))) woN)) (wGT (zat (wGN 5) (zat (wGN 6) zbT))) (zdb r (zbq r)))))
noncomputable def zcy:Nat→WSp
 |0=>zaR
 |r+1=>zcv 3 2 (zar (wAsg (zct (zdl waNil)) (wGN 2))
  (zar (zcU (zap (zbq r) (zab (zaf 0) (zab (zaf 1) (zab (zbD waNil) (zab (zaf 2) waNil))))))
  (zaU (zaf 2))))
noncomputable def zfj (r:Nat) (self:WSp):WE:=(wOp oIx (zaf 0) (wC (.int 0)))
noncomputable def zcX:Nat→WSp
 |0=>zaR
 |r+1=>zcv 1 1 (zaU (zct (zde 1 [] (wIv (zaf 0)) (wGN 0) zhL (zfj r zaR))))
noncomputable def zcN:Nat→WSp
 |0=>zaR
 |r+1=>zcv 3 2 (zar (wAsg (zap (zby r) (zab (zaf 0) (zab (zaf 1) waNil))) (wGN 2))
  (zaU (wOp zdF (zbD (zab (wOp oIx (zaf 2) (wC (.int 0))) waNil)) (wB zdp (zab (zap (zbO r) (zab (wOp oIx (zaf 2) (wC (.int 1))) (zab (zaf 1) waNil))) waNil)))))
noncomputable def zcI (r:Nat) (self:WSp):WS:=(zcU (wM rvL zbW (zaf 5) (zab (zap self (zab (zaf 0) (zab (zaf 7) (zab (wOp zdF (zaf 2) (zaf 6)) (zab (zaf 3) waNil))))) waNil)))
noncomputable def zaW:Nat→WSp
 |0=>zaR
 |r+1=>zcv 8 4 (zar (wAsg (wIf (wTb (wOp (zxA false) (zaf 2) (zaf 3))) (zap (zcN r) (zab (zaf 0) (zab (zaf 1) waNil))) (zaf 1)) (wGN 4))
  (zar (wAsg (zct (zdl waNil)) (wGN 5))
  (zar (zgo (zsV (zap (zbG r) (zab (zaf 0) (zab (zaf 4) waNil))) (wSl (zaf 4) (woS (wC (.int 1))) woN)) (wGT (zat (wGN 6) (zat (wGN 7) zbT))) (zcI r (zaW r)))
  (zaU (wOp zdF (zbD (zab (wOp oIx (zaf 4) (wC (.int 0))) waNil)) (wB zdp (zab (zaf 5) waNil)))))))
noncomputable def zgh (r:Nat) (self:WSp):WE:=(zbD (zab (zaf 0) (zab (wC (.bl true)) waNil)))
noncomputable def zdG:Nat→WSp
 |0=>zaR
 |r+1=>zcv 3 3 (zaU (zap (zaW r) (zab (zaf 0) (zab (zaf 1) (zab (zbD waNil) (zab (wBL zkC (zde 1 [] (wIv (zaf 2)) (wGN 0) zhL (zgh r zaR))) waNil))))))
noncomputable def zhQ (r:Nat) (self:WSp):WS:=(zbN (wTb (wOp (oIn true) (zaf 4) (zaf 3))) (zif "NoUse" (zab (wC (.str "no use is open at one of the places")) waNil)) zaD)
noncomputable def zfs:Nat→WSp
 |0=>zaR
 |r+1=>zcv 5 3 (zar (wAsg (zap (zcX r) (zab (zap (zcy r) (zab (zaf 0) (zab (zaf 1) waNil))) waNil)) (wGN 3))
  (zar (zgo (wIv (zaf 2)) (wGN 4) (zhQ r zaR))
  (zaU (zap (zdG r) (zab (zaf 0) (zab (zaf 1) (zab (zaf 2) waNil)))))))
noncomputable def zhp (r:Nat) (self:WSp):WE:=(zap self (zab (zaf 2) (zab (zaf 0) (zab (zaf 1) waNil))))
noncomputable def zcT:Nat→WSp
 |0=>zaR
 |r+1=>zcv 8 3 (zar (wAsg (zap (zaV r) (zab (zaf 0) (zab (wOp oIx (zaf 1) (wC (.int 0))) waNil))) (wGN 3))
  (zar (wAsg (zap (zaV r) (zab (zaf 0) (zab (wOp oIx (zaf 2) (wC (.int 0))) waNil))) (wGN 4))
  (zar (wAsg (wSl (zaf 1) (woS (wC (.int 1))) woN) (wGN 5))
  (zar (wAsg (wSl (zaf 2) (woS (wC (.int 1))) woN) (wGN 6))
  (zar (zbN (zqT (wTb (wOp (oIs false) (zaf 3) (wC .non))) (wTb (wOp (oIs true) (zaf 4) (wC .non)))) (wAsg (zap (zbO r) (zab (wOp oIx (zaf 4) (wC (.int 1))) (zab (zaf 1) waNil))) (wGN 5)) zaD)
  (zar (zbN (zqT (wTb (wOp (oIs true) (zaf 3) (wC .non))) (wTb (wOp (oIs false) (zaf 4) (wC .non)))) (wAsg (zap (zbO r) (zab (wOp oIx (zaf 3) (wC (.int 1))) (zab (zaf 2) waNil))) (wGN 6)) zaD)
  (zar (wAsg (zct (zde 2 [0] (zsV (zaf 5) (zaf 6)) (wGT (zat (wGN 0) (zat (wGN 1) zbT))) zhL (zhp r (zcT r)))) (wGN 7))
  (zar (zbN (wTb (wOp (oIs false) (zaf 4) (wC .non))) (zaU (wOp zdF (zbD (zab (wOp oIx (zaf 1) (wC (.int 0))) waNil)) (wB zdp (zab (zaf 7) waNil)))) zaD)
  (zaU (zap (zcV r) (zab (wOp oIx (zaf 4) (wC (.int 2))) (zab (zaf 7) waNil))))))))))))
noncomputable def zdd (r:Nat) (self:WSp):WS:=(zcU (zap (zgg r) (zab (zaf 0) (zab (zaf 2) waNil))))
noncomputable def zbo:Nat→WSp
 |0=>zaR
 |r+1=>zcv 3 2 (zgo (wIv (zaf 1)) (wGN 2) (zdd r zaR))
noncomputable def zcm (r:Nat):WS:=(zaU (zaf 3))
noncomputable def zbx (r:Nat):WS:=(zcU (wM rvL zbW (zaf 3) (zab (zaf 5) waNil)))
noncomputable def zbv (r:Nat) (T:WS):WS:=(zar (zcU (zap (zbo r) (zab (zaf 0) (zab (zct (zdl (zab (zaf 5) waNil))) waNil)))) T)
noncomputable def zbu (r:Nat) (T:WS):WS:=(zar (wAsg (zap (zcT r) (zab (zaf 0) (zab (wOp oIx (zaf 3) (znZ (wC (.int 1)))) (zab (zaf 4) waNil)))) (wGN 5)) T)
noncomputable def zcs (r:Nat) (self:WSp):WS:=(zbu r (zbv r (zbx r)))
noncomputable def zck (r:Nat) (T:WS):WS:=(zar (zgo (wIv (zaf 2)) (wGN 4) (zcs r zaR)) T)
noncomputable def zcp (r:Nat) (T:WS):WS:=(zar (wAsg (zct (zdl (zab (zaf 1) waNil))) (wGN 3)) T)
noncomputable def zco:Nat→WSp
 |0=>zaR
 |r+1=>zcv 6 3 (zcp r (zck r (zcm r)))
noncomputable def zgE (r:Nat):WS:=(zaU (zbD (zab (zaf 3) (zab (zaf 5) waNil))))
noncomputable def znp (r:Nat) (self:WSp):WE:=(zap (zcT r) (zab (zaf 2) (zab (zaf 0) (zab (zaf 1) waNil))))
noncomputable def zeb (r:Nat):WS:=(zcU (wM rvL zbW (zaf 5) (zab (zaf 4) waNil)))
noncomputable def zeg (r:Nat) (T:WS):WS:=(zar (zcU (wM rvL zbW (zaf 3) (zab (zaf 7) waNil))) T)
noncomputable def zeh (r:Nat) (T:WS):WS:=(zar (wAsg (zct (zde 2 [0] (zsV (zaf 4) (zaf 7)) (wGT (zat (wGN 0) (zat (wGN 1) zbT))) zhL (znp r zaR))) (wGN 4)) T)
noncomputable def zdY (r:Nat) (T:WS):WS:=(zar (wAsg (zap (zco r) (zab (zaf 0) (zab (zaf 6) (zab (zaf 4) waNil)))) (wGN 7)) T)
noncomputable def zgD (r:Nat) (self:WSp):WS:=(zdY r (zeh r (zeg r (zeb r))))
noncomputable def zgw (r:Nat) (T:WS):WS:=(zar (zgo (wIv (wOp oIx (zaf 1) (wC (.int 1)))) (wGN 6) (zgD r zaR)) T)
noncomputable def zfE (r:Nat) (T:WS):WS:=(zar (wAsg (zct (zdl (zab (zaf 4) waNil))) (wGN 5)) T)
noncomputable def zfp (r:Nat) (T:WS):WS:=(zar (wAsg (zct (zhA (wOp oIx (zaf 2) (wC (.int 1))))) (wGN 4)) T)
noncomputable def zfF (r:Nat) (T:WS):WS:=(zar (wAsg (zct (zdl waNil)) (wGN 3)) T)
noncomputable def zfy (r:Nat) (T:WS):WS:=(zar (zcU (zap (zbo r) (zab (zaf 0) (zab (wOp oIx (zaf 2) (wC (.int 1))) waNil)))) T)
noncomputable def zfA (r:Nat) (T:WS):WS:=(zar (zcU (zap (zbo r) (zab (zaf 0) (zab (wOp oIx (zaf 1) (wC (.int 1))) waNil)))) T)
noncomputable def zfu (r:Nat) (T:WS):WS:=(zar (zcU (zap (zbg r) (zab (wOp oIx (zaf 1) (wC (.int 0))) waNil))) T)
noncomputable def zfx (r:Nat) (T:WS):WS:=(zar (zbN (wTb (wOp (oEq true) (wOp oIx (zaf 1) (wC (.int 0))) (wOp oIx (zaf 2) (wC (.int 0))))) (zif "Apart" (zab (wC (.str "the roads are not from one shape")) waNil)) zaD) T)
noncomputable def zjX:Nat→WSp
 |0=>zaR
 |r+1=>zcv 8 3 (zfx r (zfu r (zfA r (zfy r (zfF r (zfp r (zfE r (zgw r (zgE r)))))))))
noncomputable def zeF (r:Nat) (self:WSp):WE:=(wOp oIx (zaf 0) (znZ (wC (.int 1))))
noncomputable def zcO:Nat→WSp
 |0=>zaR
 |r+1=>zcv 1 1 (zaU (zct (zde 1 [] (wIv (wOp oIx (zaf 0) (wC (.int 0)))) (wGN 0) zhL (zeF r zaR))))
noncomputable def zcc (r:Nat) (self:WSp):WS:=(zar (wAsg (zap (zdP r) (zab (zaf 0) (zab (zaf 5) waNil))) (wGN 7))
  (zar (wAsg (zap (zgg r) (zab (zaf 0) (zab (zaf 5) waNil))) (wGN 8))
  (zar (wAsg (wIf (zgv (zaf 6)) (zaf 7) (zaf 8)) (wGN 9))
  (zar (zbN (wTb (wOp (oEq true) (zaf 9) (wOp oIx (zaf 4) (wC (.int 0))))) (zif "Apart" (zab (wC (.str "a step does not stand where the winding stands")) waNil)) zaD)
  (zbN (zgv (zaf 6)) (zar (wAsg (zap (zjX r) (zab (zaf 0) (zab (zbD (zab (zaf 7) (zab (zct (zdl (zab (zaf 5) waNil))) waNil))) (zab (zaf 4) waNil)))) (wGN 10))
  (zar (wAsg (zbD (zab (zaf 1) (zab (wOp zdF (wOp oIx (zaf 3) (wC (.int 1))) (zap (zcO r) (zab (zaf 10) waNil))) waNil))) (wGN 3))
  (wAsg (zbD (zab (zaf 8) (zab (wOp oIx (wOp oIx (zaf 10) (wC (.int 1))) (znZ (wC (.int 1)))) waNil))) (wGN 4)))) (wAsg (zbD (zab (zaf 7) (zab (zct (zol (zdl (zab (zaf 5) waNil)) (wOp oIx (zaf 4) (wC (.int 1))))) waNil))) (wGN 4)))))))
noncomputable def zem:Nat→WSp
 |0=>zaR
 |r+1=>zcv 11 3 (zar (wAsg (zbD (zab (zaf 1) (zab (zct (zdl waNil)) waNil))) (wGN 3))
  (zar (wAsg (zbD (zab (zaf 1) (zab (zct (zdl waNil)) waNil))) (wGN 4))
  (zar (zgo (wIv (zaf 2)) (wGT (zat (wGN 5) (zat (wGN 6) zbT))) (zcc r zaR))
  (zaU (zbD (zab (zaf 3) (zab (zaf 4) waNil)))))))
noncomputable def zaH:Nat→WSp
 |0=>zaR
 |r+1=>zcv 2 2 (zar (zbN (wTb (wOp oLt (zaf 1) (wB zeq (zab (zaf 0) waNil)))) (zaU (wOp oIx (zaf 0) (zaf 1))) zaD)
  (zaU (wC (.int 0))))
noncomputable def zeB (r:Nat) (self:WSp):WE:=(wOp oIx (zaf 1) (wOp (zdk (λ_ j=>0<j) λi j=> .int (i % j)) (wOp zdF (wOp oIx (zaf 2) (zaf 0)) (wOp (zdk CMul λi j=> .int (i*j)) (zaf 3) (wB zxM (zab (wOp (oEq false) (zaf 0) (zaf 4)) waNil)))) (wC (.int 26))))
noncomputable def zeG (r:Nat) (self:WSp):WS:=(zar (wAsg (wML rvS zkH (wC (.str "")) (zde 1 [3,5,6,7] (zsI (zab (wB zeq (zab (zaf 5) waNil)) waNil)) (wGN 0) zhL (zeB r zaR))) (wGN 9))
  (zar (zbN (zgv (zaf 2)) (wAsg (wOp zdF (wM rvS zmy (wOp oIx (zaf 9) (wC (.int 0))) waNil) (wSl (zaf 9) (woS (wC (.int 1))) woN)) (wGN 9)) zaD)
  (zcU (wM rvL zbW (zaf 8) (zab (zaf 9) waNil)))))
noncomputable def zdw (r:Nat) (self:WSp):WS:=(zar (zcU (wM rvL zbW (zaf 5) (zab (wOp (zdk (λ_ j=>0<j) λi j=> .int (i % j)) (zaf 4) (wC (.int 26))) waNil)))
  (wAsg (wOp (zdk zio λi j=> .int (i / j)) (zaf 4) (wC (.int 26))) (wGN 4)))
noncomputable def zbm:Nat→WSp
 |0=>zaR
 |r+1=>zcv 10 3 (zar (wAsg (wC (.str "abcdefghijklmnopqrstuvwxyz")) (wGN 3))
  (zar (wAsg (wOp (zdk (λ_ j=>0<j) λi j=> .int (i % j)) (zaf 1) (wOp (zdk zzi λi j=> .int (i ^ j.toNat)) (wC (.int 26)) (wC (.int 8)))) (wGN 4))
  (zar (wAsg (zct (zdl waNil)) (wGN 5))
  (zar (zgo (zsI (zab (wOp zdF (wC (.int 1)) (wOp (zdk (λ_ j=>0<j) λi j=> .int (i % j)) (zaf 0) (wC (.int 8)))) waNil)) (wGN 6) (zdw r zaR))
  (zar (wAsg (wOp (zdk (λ_ j=>0<j) λi j=> .int (i % j)) (wOp (zdk zio λi j=> .int (i / j)) (zaf 0) (wC (.int 8))) (wB zeq (zab (zaf 5) waNil))) (wGN 7))
  (zar (wAsg (zct (zdl waNil)) (wGN 8))
  (zar (zgo (zsI (zab (wC (.int 6)) waNil)) (wGN 6) (zeG r zaR))
  (zar (zbN (zqT (wTb (wOp (oEq false) (wOp (zdk (λ_ j=>0<j) λi j=> .int (i % j)) (wOp (zdk zio λi j=> .int (i / j)) (zaf 0) (wC (.int 64))) (wC (.int 2))) (wC (.int 1)))) (zqS (zgv (zaf 2)))) (wAsg (zct (znQ (zvu (zaf 8) woN (woS (wC (.int 3)))) (zdl (zab (wOp oIx (zaf 8) (wC (.int 2))) (zab (wOp oIx (zaf 8) (wC (.int 2))) (zab (wOp oIx (zaf 8) (wC (.int 5))) waNil)))))) (wGN 8)) zaD)
  (zaU (zaf 8))))))))))
noncomputable def zdt (r:Nat) (self:WSp):WE:=(zap self (zab (zaf 0) waNil))
noncomputable def zaB:Nat→WSp
 |0=>zaR
 |r+1=>zcv 1 1 (zar (zbN (zgv (zoh "int" (zaf 0))) (zaU (wC (.int 1))) zaD)
  (zaU (wBL zoj (zde 1 [] (wIv (wSl (zaf 0) (woS (wC (.int 1))) woN)) (wGN 0) zhL (zdt r (zaB r))))))
noncomputable def zek (r:Nat) (self:WSp):WE:=(zap self (zab (zaf 0) (zab (zaf 1) waNil)))
noncomputable def zbd:Nat→WSp
 |0=>zaR
 |r+1=>zcv 2 2 (zar (zbN (zgv (zoh "int" (zaf 0))) (zaU (wOp oIx (zaf 1) (zaf 0))) zaD)
  (zaU (wOp zdF (wSl (zaf 0) woN (woS (wC (.int 1)))) (wBL zhD (zde 1 [1] (wIv (wSl (zaf 0) (woS (wC (.int 1))) woN)) (wGN 0) zhL (zek r (zbd r)))))))
noncomputable def zcA:Nat→WSp
 |0=>zaR
 |r+1=>zcv 3 3 (zar (zbN (zqT (wTb (wOp oGt (zaf 1) (wC (.int 0)))) (wTb (wOp oGt (wOp (zdk (λ_ j=>0<j) λi j=> .int (i % j)) (zaf 0) (wC (.int 4))) (wC (.int 0))))) (zaU (wOp (zdk (λ_ j=>0<j) λi j=> .int (i % j)) (wOp (zdk zio λi j=> .int (i / j)) (zaf 0) (wC (.int 4))) (zaf 1))) zaD)
  (zaU (zbD (zab (wOp oIx (zaf 2) (zti (zdl (zab (wC (.int 2)) (zab (wC (.int 5)) waNil))) (wOp (zdk (λ_ j=>0<j) λi j=> .int (i % j)) (wOp (zdk zio λi j=> .int (i / j)) (zaf 0) (wC (.int 4))) (wC (.int 2))))) waNil))))
noncomputable def zcJ:Nat→WSp
 |0=>zaR
 |r+1=>zcv 6 3 (zar (wAsg (zap (zcA r) (zab (wOp (zdk zio λi j=> .int (i / j)) (zaf 0) (wC (.int 7))) (zab (zaf 1) (zab (zaf 2) waNil)))) (wGN 3))
  (zar (wAsg (zap (zcA r) (zab (wOp (zdk zio λi j=> .int (i / j)) (zaf 0) (wC (.int 700))) (zab (zaf 1) (zab (zaf 2) waNil)))) (wGN 4))
  (zar (wAsg (wOp (zdk (λ_ j=>0<j) λi j=> .int (i % j)) (zaf 0) (wC (.int 7))) (wGN 5))
  (zar (zbN (wTb (wOp (oEq false) (zaf 5) (wC (.int 0)))) (zaU (zaf 3)) zaD)
  (zar (zbN (wOr (wTb (wOp (oEq false) (zaf 5) (wC (.int 1)))) (wTb (wOp (oEq false) (zaf 1) (wC (.int 0))))) (zaU (zbD (zab (wOp oIx (zaf 2) (wC (.int 3))) (zab (zaf 3) waNil)))) zaD)
  (zar (zbN (wTb (wOp (oEq false) (zaf 5) (wC (.int 2)))) (zaU (zbD (zab (wOp oIx (zaf 2) (wC (.int 4))) (zab (zaf 3) (zab (zaf 4) waNil))))) zaD)
  (zar (zbN (wTb (wOp (oEq false) (zaf 5) (wC (.int 3)))) (zaU (zbD (zab (wOp oIx (zaf 2) (wC (.int 4))) (zab (zaf 3) (zab (zaf 3) waNil))))) zaD)
  (zar (zbN (wTb (wOp (oEq false) (zaf 5) (wC (.int 4)))) (zaU (zbD (zab (wOp oIx (zaf 2) (wC (.int 4))) (zab (zbD (zab (wOp oIx (zaf 2) (wC (.int 3))) (zab (zaf 3) waNil))) (zab (zaf 4) waNil))))) zaD)
  (zar (zbN (wTb (wOp (oEq false) (zaf 5) (wC (.int 5)))) (zaU (zbD (zab (wOp oIx (zaf 2) (wC (.int 0))) (zab (zaf 3) waNil)))) zaD)
  (zaU (zbD (zab (wOp oIx (zaf 2) (wC (.int 1))) (zab (zaf 3) (zab (zaf 4) waNil))))))))))))))
noncomputable def zcK:Nat→WSp
 |0=>zaR
 |r+1=>zcv 4 4 (zar (zbN (wTb (wOp (oEq false) (zaf 0) (wC (.int 0)))) (zaU (zct (zdl (zab (zbD (zab (zaf 1) (zab (wC (.int 0)) waNil))) waNil)))) zaD)
  (zar (zbN (wTb (wOp (oEq false) (zaf 0) (wC (.int 1)))) (zaU (zct (zdl (zab (zbD (zab (zaf 1) (zab (wC (.int 0)) (zab (wC (.int 1)) waNil)))) waNil)))) zaD)
  (zar (zbN (wTb (wOp (oEq false) (zaf 0) (wC (.int 2)))) (zaU (zct (zdl (zab (zbD (zab (zaf 1) (zab (zbD (zab (zaf 2) waNil)) waNil))) (zab (zbD (zab (zaf 1) (zab (zbD (zab (zaf 3) (zab (wC (.int 0)) waNil))) waNil))) waNil))))) zaD)
  (zar (zbN (wTb (wOp (oEq false) (zaf 0) (wC (.int 3)))) (zaU (zct (zdl (zab (zbD (zab (zaf 1) (zab (zbD (zab (zaf 2) waNil)) (zab (wC (.int 0)) waNil)))) (zab (zbD (zab (zaf 1) (zab (zbD (zab (zaf 3) (zab (wC (.int 0)) waNil))) (zab (wC (.int 1)) waNil)))) waNil))))) zaD)
  (zar (zbN (wTb (wOp (oEq false) (zaf 0) (wC (.int 4)))) (zaU (zct (zdl (zab (zbD (zab (zaf 1) (zab (zbD (zab (zaf 3) (zab (zbD (zab (zaf 3) (zab (wC (.int 0)) waNil))) waNil))) (zab (wC (.int 1)) (zab (wC (.int 2)) waNil))))) (zab (zbD (zab (zaf 1) (zab (zbD (zab (zaf 3) (zab (zbD (zab (zaf 2) waNil)) waNil))) (zab (wC (.int 0)) (zab (wC (.int 1)) waNil))))) waNil))))) zaD)
  (zaU (zct (zdl (zab (zbD (zab (zaf 1) waNil)) waNil)))))))))
noncomputable def zdI (r:Nat) (self:WSp):WS:=(zar (wAsg (zap (zcJ r) (zab (zap (zaH r) (zab (zaf 0) (zab (wOp zdF (wOp zdF (wOp zdF (zaf 1) (wC (.int 2))) (wOp (zdk CMul λi j=> .int (i*j)) (wC (.int 2)) (zaf 5))) (zaf 7)) waNil))) (zab (zap (zaB r) (zab (zaf 8) waNil)) (zab (zaf 2) waNil)))) (wGN 9))
  (zcU (wM rvL zbW (zaf 4) (zab (zbD (zab (wOp oIx (zaf 3) (wB zeq (zab (zaf 4) waNil))) (zab (zaf 8) (zab (zaf 9) waNil)))) waNil))))
noncomputable def zfI (r:Nat) (self:WSp):WS:=(zar (wAsg (zap (zcK r) (zab (wOp (zdk (λ_ j=>0<j) λi j=> .int (i % j)) (zap (zaH r) (zab (zaf 0) (zab (wOp zdF (zaf 1) (zaf 5)) waNil))) (wC (.int 6))) (zab (wOp oIx (zaf 2) (zaf 5)) (zab (wOp oIx (zaf 2) (wC (.int 2))) (zab (wOp oIx (zaf 2) (wC (.int 3))) waNil))))) (wGN 6))
  (zgo (znM (zaf 6)) (wGT (zat (wGN 7) (zat (wGN 8) zbT))) (zdI r zaR)))
noncomputable def zcH:Nat→WSp
 |0=>zaR
 |r+1=>zcv 10 4 (zar (wAsg (zct (zdl waNil)) (wGN 4))
  (zar (zgo (zsI (zab (wC (.int 2)) waNil)) (wGN 5) (zfI r zaR))
  (zaU (zaf 4))))
noncomputable def zfk (r:Nat) (self:WSp):WS:=(wAsg (zct (znQ (zvu (zaf 4) woN (woS (znZ (wC (.int 2))))) (zdl (zab (zbD (zab (znZ (wC (.int 1))) (zab (wC (.int 0)) (zab (wOp oIx (zaf 2) (wC (.int 4))) (zab (wSl (zaf 4) (woS (znZ (wC (.int 2)))) woN) waNil))))) waNil)))) (wGN 4))
noncomputable def zfL (r:Nat) (self:WSp):WS:=(zar (wAsg (wOp (zdk (λ_ j=>0<j) λi j=> .int (i % j)) (zaf 6) (wC (.int 8))) (wGN 7))
  (zar (wAsg (zti (zdl (zab (wC (.int 0)) (zab (wC (.int 0)) (zab (wC (.int 1)) (zab (wC (.int 2)) waNil))))) (wB zkM (zab (zaf 7) (zab (wC (.int 3)) waNil)))) (wGN 8))
  (zar (wAsg (zbD (zab (znZ (wC (.int 1))) (zab (wC (.int 0)) (zab (wOp oIx (zaf 2) (zti (zdl (zab (wC (.int 2)) (zab (wC (.int 5)) (zab (wC (.int 3)) (zab (wC (.int 4)) waNil))))) (wB zkM (zab (zaf 7) (zab (wC (.int 3)) waNil))))) waNil)))) (wGN 9))
  (zar (zbN (wTb (wOp oGt (zaf 7) (wC (.int 3)))) (zar (wAsg (wOp (zdk (λ_ j=>0<j) λi j=> .int (i % j)) (wOp (zdk zio λi j=> .int (i / j)) (zaf 6) (wC (.int 8))) (wB zeq (zab (zaf 1) waNil))) (wGN 10))
  (zar (wAsg (zap (zaB r) (zab (wOp oIx (wOp oIx (zaf 1) (zaf 10)) (wC (.int 1))) waNil)) (wGN 8))
  (zar (wAsg (zbD (zab (zaf 10) (zab (wOp (zdk (λ_ j=>0<j) λi j=> .int (i % j)) (wOp (zdk zio λi j=> .int (i / j)) (zaf 6) (wC (.int 64))) (wC (.int 8))) (zab (wC (.str "")) waNil)))) (wGN 9))
  (wAsg (wOp zdF (zaf 5) (wC (.int 1))) (wGN 5))))) zaD)
  (zbN (zqT (wTb (wOp oGt (zaf 3) (wC (.int 0)))) (wTb (wOp oLt (zaf 5) (wC (.int 5))))) (zar (wAsg (wOp (zeM λi j=> .int (i - j)) (zaf 3) (wC (.int 1))) (wGN 3))
  (zar (wAsg (zct (zol (zrL (zdl (zab (zbD (zab (znZ (wC (.int 1))) (zab (wC (.int 0)) (zab (wOp oIx (zaf 2) (wC (.int 2))) (zab (zct (zdl waNil)) waNil))))) waNil)) (wOp (zeM λi j=> .int (i - j)) (zaf 8) (wB zeq (zab (zaf 4) waNil)))) (zaf 4))) (wGN 4))
  (zar (wAsg (wOp (zeM λi j=> .int (i - j)) (wB zeq (zab (zaf 4) waNil)) (zaf 8)) (wGN 11))
  (wAsg (zct (znQ (zvu (zaf 4) woN (woS (zaf 11))) (zdl (zab (wOp zdF (zaf 9) (zbD (zab (wSl (zaf 4) (woS (zaf 11)) woN) waNil))) waNil)))) (wGN 4))))) zaD)))))
noncomputable def zcE:Nat→WSp
 |0=>zaR
 |r+1=>zcv 12 4 (zar (wAsg (zct (zdl waNil)) (wGN 4))
  (zar (wAsg (wC (.int 0)) (wGN 5))
  (zar (zgo (wIv (zaf 0)) (wGN 6) (zfL r zaR))
  (zar (zos (wTb (wOp oGt (wB zeq (zab (zaf 4) waNil)) (wC (.int 1)))) (zfk r zaR))
  (zaU (zti (zrV (zaf 4) (zdl (zab (zbD (zab (znZ (wC (.int 1))) (zab (wC (.int 0)) (zab (wOp oIx (zaf 2) (wC (.int 5))) (zab (zct (zdl waNil)) waNil))))) waNil))) (wC (.int 0))))))))
noncomputable def zgf (r:Nat) (self:WSp):WE:=(zap self (zab (zaf 0) (zab (zaf 1) (zab (zaf 2) waNil))))
noncomputable def zcD:Nat→WSp
 |0=>zaR
 |r+1=>zcv 8 3 (zar (wAsg (zaf 0) (wGT (zat (wGN 3) (zat (wGN 4) (zat (wGN 5) (zat (wGN 6) zbT))))))
  (zar (wAsg (zct (zde 1 [1,2] (wIv (zaf 6)) (wGN 0) zhL (zgf r (zcD r)))) (wGN 7))
  (zar (zbN (wTb (wOp oLt (zaf 3) (wC (.int 0)))) (zaU (wOp zdF (zbD (zab (zaf 5) waNil)) (wB zdp (zab (zaf 7) waNil)))) zaD)
  (zar (zbN (wTb (wOp (oEq false) (wOp (zdk (λ_ j=>0<j) λi j=> .int (i % j)) (wOp (zdk zio λi j=> .int (i / j)) (zaf 4) (zaf 2)) (wC (.int 2))) (wC (.int 1)))) (zaU (wOp zdF (zbD (zab (wOp oIx (wOp oIx (zaf 1) (zaf 3)) (wC (.int 0))) waNil)) (wB zdp (zab (zaf 7) waNil)))) zaD)
  (zaU (zap (zbd r) (zab (wOp oIx (wOp oIx (zaf 1) (zaf 3)) (wC (.int 1))) (zab (zaf 7) waNil))))))))
noncomputable def zfh (r:Nat) (self:WSp):WS:=(zbN (wTb (wOp (oEq false) (wOp oIx (zaf 4) (wC (.int 0))) (wOp oIx (zaf 1) (wC (.int 0))))) (zaU (zap (zbd r) (zab (wOp oIx (zaf 4) (zaf 2)) (zab (zaf 3) waNil)))) zaD)
noncomputable def zfq (r:Nat) (self:WSp):WE:=(zap self (zab (zaf 1) (zab (zaf 0) (zab (zaf 2) waNil))))
noncomputable def zaN:Nat→WSp
 |0=>zaR
 |r+1=>zcv 5 3 (zar (wAsg (zct (zde 1 [0,2] (wIv (wSl (zaf 1) (woS (wC (.int 1))) woN)) (wGN 0) zhL (zfq r (zaN r)))) (wGN 3))
  (zar (zgo (wIv (zaf 0)) (wGN 4) (zfh r zaR))
  (zaU (wOp zdF (wSl (zaf 1) woN (woS (wC (.int 1)))) (wB zdp (zab (zaf 3) waNil))))))
noncomputable def zdy (r:Nat) (self:WSp):WS:=(zbN (wTb (wOp (oIs false) (zap self (zab (zaf 3) (zab (zaf 4) (zab (zaf 2) waNil)))) (wC .non))) (zaU (wC .non)) zaD)
noncomputable def zbh:Nat→WSp
 |0=>zaR
 |r+1=>zcv 5 3 (zar (zbN (zgv (zoh "int" (zaf 0))) (zar (zbN (wTb (wOp (oEq true) (zmM (zaf 2) (zaf 0) (zaf 1)) (zaf 1))) (zaU (wC .non)) zaD)
  (zar (zuM (zaf 2) (zaf 0) (zaf 1))
  (zaU (zaf 2)))) zaD)
  (zar (zbN (wOr (wTb (wOp (oEq true) (wOp oIx (zaf 0) (wC (.int 0))) (wOp oIx (zaf 1) (wC (.int 0))))) (wTb (wOp (oEq true) (wB zeq (zab (zaf 0) waNil)) (wB zeq (zab (zaf 1) waNil))))) (zaU (wC .non)) zaD)
  (zar (zgo (zsV (wSl (zaf 0) (woS (wC (.int 1))) woN) (wSl (zaf 1) (woS (wC (.int 1))) woN)) (wGT (zat (wGN 3) (zat (wGN 4) zbT))) (zdy r (zbh r)))
  (zaU (zaf 2)))))
noncomputable def zcB:Nat→WSp
 |0=>zaR
 |r+1=>zcv 4 3 (zar (zbN (wTb (wOp (oEq false) (zaf 1) (zbD waNil))) (zaU (zaf 2)) zaD)
  (zar (wAsg (wOp zdF (wOp oIx (zaf 1) (wC (.int 0))) (wC (.int 1))) (wGN 3))
  (zaU (wOp zdF (wOp zdF (wSl (zaf 0) woN (woS (zaf 3))) (zbD (zab (zap (zcB r) (zab (wOp oIx (zaf 0) (zaf 3)) (zab (wSl (zaf 1) (woS (wC (.int 1))) woN) (zab (zaf 2) waNil)))) waNil))) (wSl (zaf 0) (woS (wOp zdF (zaf 3) (wC (.int 1)))) woN)))))
noncomputable def zdf (r:Nat) (self:WSp):WE:=(wOp zdF (zbD (zab (zaf 1) waNil)) (zaf 0))
noncomputable def zbY (r:Nat) (self:WSp):WS:=(wAsg (zct (zrV (zaf 1) (zde 1 [2] (wIv (zap self (zab (zaf 3) waNil))) (wGN 0) zhL (zdf r zaR)))) (wGN 1))
noncomputable def zaF:Nat→WSp
 |0=>zaR
 |r+1=>zcv 4 1 (zar (wAsg (zct (zdl (zab (zbD waNil) waNil))) (wGN 1))
  (zar (zgo (znM (wSl (zaf 0) (woS (wC (.int 1))) woN)) (wGT (zat (wGN 2) (zat (wGN 3) zbT))) (zbY r (zaF r)))
  (zaU (zaf 1))))
noncomputable def zcY (r:Nat) (self:WSp):WS:=(wAsg (wOp oIx (zaf 0) (wOp zdF (zaf 2) (wC (.int 1)))) (wGN 0))
noncomputable def zcg:Nat→WSp
 |0=>zaR
 |r+1=>zcv 3 2 (zar (zgo (wIv (zaf 1)) (wGN 2) (zcY r zaR))
  (zaU (zaf 0)))
noncomputable def zfc (r:Nat) (self:WSp):WE:=(zmM (zaf 1) (zaf 0) (zbD (zab (zaf 2) waNil)))
noncomputable def zdj:Nat→WSp
 |0=>zaR
 |r+1=>zcv 11 4 (zar (wAsg (wOp oIx (zaf 0) (wOp (zdk (λ_ j=>0<j) λi j=> .int (i % j)) (zaf 2) (wB zeq (zab (zaf 0) waNil)))) (wGT (zat (wGN 4) (zat (wGN 5) (zat (wGN 6) zbT)))))
  (zar (wAsg (zap (zaF r) (zab (zaf 1) waNil)) (wGN 7))
  (zar (wAsg (wOp oIx (zaf 7) (wOp (zdk (λ_ j=>0<j) λi j=> .int (i % j)) (wOp (zdk zio λi j=> .int (i / j)) (zaf 2) (wC (.int 4))) (wB zeq (zab (zaf 7) waNil)))) (wGN 8))
  (zar (wAsg (zap (zbh r) (zab (zaf 6) (zab (zap (zcg r) (zab (zaf 1) (zab (zaf 8) waNil))) (zab zuh waNil)))) (wGN 9))
  (zar (zbN (wTb (wOp (oIs false) (zaf 9) (wC .non))) (zaU (zaf 1)) zaD)
  (zar (wAsg (zct (zde 1 [9,3] (zsI (zab (zap (zaB r) (zab (zaf 5) waNil)) waNil)) (wGN 0) zhL (zfc r zaR))) (wGN 10))
  (zaU (zap (zcB r) (zab (zaf 1) (zab (zaf 8) (zab (wOp zdF (zbD (zab (zaf 4) waNil)) (wB zdp (zab (zaf 10) waNil))) waNil)))))))))))
noncomputable def zhc (r:Nat) (self:WSp):WE:=(wOp oIx (zaf 0) (wC (.int 0)))
noncomputable def zei:Nat→WSp
 |0=>zaR
 |r+1=>zcv 4 3 (zar (wAsg (zct (zde 1 [] (wIv (zap (zcy r) (zab (zaf 0) (zab (zaf 1) waNil)))) (wGN 0) zhL (zhc r zaR))) (wGN 3))
  (zar (zbN (wTb (wOp (oEq false) (zaf 3) (zct (zdl waNil)))) (zaU (zaf 1)) zaD)
  (zaU (zap (zfs r) (zab (zaf 0) (zab (zaf 1) (zab (zct (zdl (zab (wOp oIx (zaf 3) (wOp (zdk (λ_ j=>0<j) λi j=> .int (i % j)) (zaf 2) (wB zeq (zab (zaf 3) waNil)))) waNil))) waNil)))))))
noncomputable def zcQ (r:Nat) (self:WSp):WS:=(zbN (wTb (wOp oLt (wB zeq (zab (zaf 5) waNil)) (zaf 3))) (zar (wAsg (wOp (oEq false) (wOp (zdk (λ_ j=>0<j) λi j=> .int (i % j)) (zaf 7) (wC (.int 2))) (wC (.int 0))) (wGN 8))
  (zar (zbN (zgv (zaf 8)) (zar (wAsg (zap (zei r) (zab (zaf 0) (zab (zaf 6) (zab (wOp (zdk zio λi j=> .int (i / j)) (zaf 7) (wC (.int 2))) waNil)))) (wGN 9))
  (wAsg (zap (zaN r) (zab (zaf 0) (zab (zaf 9) (zab (wC (.int 2)) waNil)))) (wGN 6))) (zar (wAsg (zap (zdj r) (zab (zaf 0) (zab (zaf 6) (zab (wOp (zdk zio λi j=> .int (i / j)) (zaf 7) (wC (.int 2))) (zab (zaf 4) waNil))))) (wGN 9))
  (wAsg (zap (zaN r) (zab (zaf 0) (zab (zaf 9) (zab (wC (.int 1)) waNil)))) (wGN 6))))
  (zcU (wM rvL zbW (zaf 5) (zab (zbD (zab (zaf 9) (zab (zaf 8) waNil))) waNil))))) zaD)
noncomputable def zbS:Nat→WSp
 |0=>zaR
 |r+1=>zcv 10 5 (zar (wAsg (zct (zdl waNil)) (wGN 5))
  (zar (wAsg (zaf 1) (wGN 6))
  (zar (zgo (wIv (zaf 2)) (wGN 7) (zcQ r zaR))
  (zaU (zbD (zab (zaf 5) (zab (zaf 6) waNil)))))))
noncomputable def zce (r:Nat):WS:=(zaU (zaf 2))
noncomputable def zbs (r:Nat):WS:=(wAsg (zap (zaN r) (zab (zaf 0) (zab (zaf 3) (zab (wC (.int 2)) waNil)))) (wGN 2))
noncomputable def zbV (r:Nat) (T:WS):WS:=(zar (zbN (wTb (wOp (oEq true) (zap (zaN r) (zab (zaf 0) (zab (zaf 3) (zab (wC (.int 1)) waNil)))) (zaf 2))) (zaU (wC .non)) zaD) T)
noncomputable def zcj (r:Nat) (self:WSp):WS:=(zbV r (zbs r))
noncomputable def zcl (r:Nat) (T:WS):WS:=(zar (zgo (wIv (wOp oIx (zaf 1) (wC (.int 1)))) (wGN 3) (zcj r zaR)) T)
noncomputable def zcq (r:Nat) (T:WS):WS:=(zar (wAsg (wOp oIx (zaf 1) (wC (.int 0))) (wGN 2)) T)
noncomputable def zch (r:Nat) (T:WS):WS:=(zar (zbN (wOr (zqS (zgv (zoh "tuple" (zaf 1)))) (wOr (wTb (wOp (oEq true) (wB zeq (zab (zaf 1) waNil)) (wC (.int 2)))) (zqS (zgv (zoh "list" (wOp oIx (zaf 1) (wC (.int 1)))))))) (zaU (wC .non)) zaD) T)
noncomputable def zbH:Nat→WSp
 |0=>zaR
 |r+1=>zcv 4 2 (zch r (zcq r (zcl r (zce r))))
noncomputable def zdX (r:Nat) (self:WSp):WE:=(zaf 0)
noncomputable def zbI:Nat→WSp
 |0=>zaR
 |r+1=>zcv 7 5 (zar (zbN (wOr (zqS (zgv (zoh "tuple" (zaf 4)))) (wTb (wOp (oEq true) (wB zeq (zab (zaf 4) waNil)) (wC (.int 2))))) (zaU (wC (.bl false))) zaD)
  (zar (wAsg (zap (zbH r) (zab (zaf 0) (zab (wOp oIx (zaf 4) (wC (.int 0))) waNil))) (wGN 5))
  (zar (zbN (wOr (wTb (wOp (oIs false) (zaf 5) (wC .non))) (wTb (wOp (oEq true) (zaf 5) (zap (zbH r) (zab (zaf 0) (zab (wOp oIx (zaf 4) (wC (.int 1))) waNil)))))) (zaU (wC (.bl false))) zaD)
  (zar (zbN (wOr (wTb (wOp (oEq true) (wOp oIx (wOp oIx (zaf 4) (wC (.int 0))) (wC (.int 0))) (zaf 1))) (wTb (wOp (oEq true) (wOp oIx (wOp oIx (zaf 4) (wC (.int 1))) (wC (.int 0))) (zaf 3)))) (zaU (wC (.bl false))) zaD)
  (zar (wAsg (wB zeq (zab (zct (zde 1 [] (wIv (zaf 2)) (wGN 0) (zgv (wOp oIx (zaf 0) (wC (.int 1)))) (zdX r zaR))) waNil)) (wGN 6))
  (zaU (zri (wOp (oEq false) (wB zeq (zab (wOp oIx (wOp oIx (zaf 4) (wC (.int 0))) (wC (.int 1))) waNil)) (zaf 6)) (wOp (oEq false) (wB zeq (zab (wOp oIx (wOp oIx (zaf 4) (wC (.int 1))) (wC (.int 1))) waNil)) (wOp (zeM λi j=> .int (i - j)) (wB zeq (zab (zaf 2) waNil)) (zaf 6))))))))))
noncomputable def zec (r:Nat):WS:=(zaU (zap (zbI r) (zab (zaf 3) (zab (zaf 4) (zab (zaf 5) (zab (zaf 6) (zab (zap (zem r) (zab (zaf 3) (zab (zaf 4) (zab (zaf 5) waNil)))) waNil)))))))
noncomputable def zdr (r:Nat) (T:WS):WS:=(zar (zbN (wTb (wOp (oEq true) (wOp oIx (wOp oIx (zaf 8) (wC (.int 1))) (wC (.int 1))) (zaf 9))) (zaU (wC (.bl false))) zaD) T)
noncomputable def zds (r:Nat) (T:WS):WS:=(zar (zcU (wM rvL zbW (wOp oIx (wOp oIx (zaf 8) (wC (.int 0))) (wC (.int 1))) (zab (zaf 4) waNil))) T)
noncomputable def zdH (r:Nat) (T:WS):WS:=(zar (wAsg (zct (zhA (wOp oIx (wOp oIx (zaf 8) (wC (.int 1))) (wC (.int 1))))) (wGN 9)) T)
noncomputable def zdN (r:Nat) (T:WS):WS:=(zar (zbN (wOr (wTb (wOp (oEq true) (zaf 7) (zaf 5))) (zqS (zgv (zap (zbI r) (zab (zaf 3) (zab (zaf 4) (zab (zaf 5) (zab (zaf 6) (zab (zaf 8) waNil))))))))) (zaU (wC (.bl false))) zaD) T)
noncomputable def zdL (r:Nat) (T:WS):WS:=(zar (wAsg (zap (zem r) (zab (zaf 3) (zab (zaf 4) (zab (zaf 7) waNil)))) (wGN 8)) T)
noncomputable def zdQ (r:Nat) (T:WS):WS:=(zar (wAsg (zct (zhA (zaf 5))) (wGN 7)) T)
noncomputable def zdM (r:Nat) (T:WS):WS:=(zar (wAsg (zap (zbS r) (zab (zaf 3) (zab (zaf 4) (zab (wSl (zaf 0) (woS (wC (.int 10))) (woS (wC (.int 13)))) (zab (wC (.int 3)) (zab (wOp oIx (zaf 1) (wC (.int 2))) waNil)))))) (wGT (zat (wGN 5) (zat (wGN 6) zbT)))) T)
noncomputable def zdO (r:Nat) (T:WS):WS:=(zar (wAsg (zap (zcD r) (zab (zap (zcE r) (zab (wSl (zaf 0) (woS (wC (.int 13))) woN) (zab (zaf 3) (zab (zaf 1) (zab (wC (.int 4)) waNil))))) (zab (zaf 3) (zab (wC (.int 8)) waNil)))) (wGN 4)) T)
noncomputable def zeQ (r:Nat) (T:WS):WS:=(zar (wAsg (zap (zcH r) (zab (zaf 0) (zab (wC (.int 4)) (zab (zaf 1) (zab (zaf 2) waNil))))) (wGN 3)) T)
noncomputable def zeL (r:Nat) (T:WS):WS:=(zar (wAsg (zap (zbm r) (zab (zap (zaH r) (zab (zaf 0) (zab (wC (.int 2)) waNil))) (zab (zap (zaH r) (zab (zaf 0) (zab (wC (.int 3)) waNil))) (zab (wC (.bl true)) waNil)))) (wGN 2)) T)
noncomputable def zeP (r:Nat) (T:WS):WS:=(zar (wAsg (zap (zbm r) (zab (zap (zaH r) (zab (zaf 0) (zab (wC (.int 0)) waNil))) (zab (zap (zaH r) (zab (zaf 0) (zab (wC (.int 1)) waNil))) (zab (wC (.bl false)) waNil)))) (wGN 1)) T)
noncomputable def zdB:Nat→WSp
 |0=>zaR
 |r+1=>zcv 10 1 (zeP r (zeL r (zeQ r (zdO r (zdM r (zdQ r (zdL r (zdN r (zdH r (zds r (zdr r (zec r))))))))))))
theorem zgC{r:Nat}{t:Tr}{S:Sto}{Q:WK}{E:Str→Sto→Prop}(h:Q (.tup (encs t.kids)) S):zcx (r+1) [enc t] S Q E:=by
 rw[zcx];cases t with
 |bl n=>
  simp only[enc];walk_at "wp";exact⟨aY _,S, .refl,h⟩
 |nd s ts=>
  simp only[enc];walk_at "wp";exact⟨S, .refl,h⟩
mutual
noncomputable def Tr.pl (p:List Int):Tr→List (List Int)
 | .bl _=>[p]
 | .nd _ ts=>p::pls p 0 ts
noncomputable def pls (p:List Int) (i:Nat):List Tr→List (List Int)
 | []=>[]
 |t::ts=>t.pl (p++[(i:Int)])++pls p (i+1) ts
end
mutual
theorem ztl:∀(t:Tr) (p:List Int),(t.pl p).length=t.weight
 | .bl _,p=>by simp [Tr.pl,Tr.weight]
 | .nd _ ts,p=>by simp [Tr.pl,Tr.weight,zqQ ts p 0];omega
theorem zqQ:∀(ts:List Tr) (p:List Int) (i:Nat),(pls p i ts).length=wts ts
 | [],p,i=>by simp [pls,wts]
 |t::ts,p,i=>by simp [pls,wts,ztl t,zqQ ts p (i+1)]
end
theorem zmN{p:List Int}{i:Int}{S:Sto}{Q:WK}:zdF (zbn p) (.tup [.int i]) S Q=(p.length+1≤sizeLine∧Q (zbn (p++[i])) S):=by
 unfold zbn;rw[zhg];simp
mutual
theorem zjB:∀(t:Tr) {r:Nat}{p:List Int}{a:Addr}{xs:List W}{S:Sto}{Q:WK}{E:Str→Sto→Prop},t.depth≤r→S a=ae (.lst xs)→xs.length+t.weight≤1000000→p.length+t.depth≤1000000→
  Q .non (put S a (.lst (xs++(t.pl p).map zbn)))→zaP (r+1) [enc t,zbn p, .ref a] S Q E
 | .bl n,r,p,a,xs,S,Q,E,hr,ha,hx,hp,h=>by
  obtain⟨r,rfl⟩:∃r',r=r'+1:=⟨r - 1,by simp [Tr.depth]at hr;omega⟩
  rw[zaP];walk_at "wp";simp only[zaj ha,true_and];simp [Tr.weight]at hx;refine⟨zbM (by omega),?_⟩;refine zgC ?_;simp only[Tr.kids,encs,zhz,forL];simp only[Tr.pl,aA,cp]at h;exact⟨_, .refl,h⟩
 | .nd s ts,r,p,a,xs,S,Q,E,hr,ha,hx,hp,h=>by
  simp only[Tr.depth]at hr hp;simp only[Tr.weight]at hx;obtain⟨r,rfl⟩:∃r',r=r'+1:=⟨r - 1,by omega⟩
  rw[zaP];walk_at "wp";simp only[zaj ha,true_and];refine⟨zbM (by omega),?_⟩;refine zgC ?_;dsimp only[Tr.kids];refine zhW ts (xs:=xs++[zbn p]) (by omega) zag (by simp;omega) (by omega) λx y=>?_;rw[zbc];refine⟨_, .refl,?_⟩;simpa [Tr.pl,cf]using h
theorem zhW:∀(ts:List Tr) {r:Nat}{p:List Int}{i:Nat}{a:Addr}{xs:List W}{S:Sto}{E:WX}{D:WEnds}{t0 x y:Option W},dts ts≤r→S a=ae (.lst xs)→xs.length+wts ts≤1000000→p.length+1+dts ts≤1000000→
  (∀x y,D.nx [t0,ae (zbn p),ae (.ref a),x,y] (put S a (.lst (xs++(pls p i ts).map zbn))))→
  forL (wGT (zat (wGN 3) (zat (wGN 4) zbT))) (zcz (r+1) (zaP (r+1))) E D (λ_=>True) (zhz i (encs ts)) [t0,ae (zbn p),ae (.ref a),x,y] S
 | [],r,p,i,a,xs,S,E,D,t0,x,y,hr,ha,hx,hp,h=>by
  simp only[encs,zhz,forL];have:=h x y;simp only[pls,cp,bI,zdT ha]at this;exact this
 |t::ts,r,p,i,a,xs,S,E,D,t0,x,y,hr,ha,hx,hp,h=>by
  simp only[dts]at hr hp;simp only[wts]at hx;simp only[encs,zhz,forL,zcz];walk_at "wp";rw[zmN];refine⟨zal (by omega),zal (by omega),zjB t (p:=p++[(i:Int)]) (by omega) ha (by omega) (by simp;omega) ?_⟩;refine⟨_, .refl,zhW ts (by omega) zag (by simp [ztl];omega) (by omega) λx y=>?_⟩;rw[zbc];simpa [pls,cf]using h x y
end
theorem zpC{t:Tr}{r:Nat}{S:Sto}{Q:WK}{E:Str→Sto→Prop}(hr:t.depth+1≤r) (hw:t.weight≤100000) (hd:t.depth≤100000) (h:∀a,S a=none→Q (.ref a) (put S a (.lst ((t.pl []).map zbn)))):zfi (r+1) [enc t] S Q E:=by
 obtain⟨r,rfl⟩:∃r',r=r'+1:=⟨r - 1,by omega⟩
 rw[zfi];walk_at "wp";refine⟨aY _,λa ha=>⟨aY _,zjB t (p:=[]) (xs:=[]) (by omega) zag (by simp;omega) (by simp;omega) ?_⟩⟩;rw[zbc,a9];exact⟨_, .refl,h a ha⟩
noncomputable def Tr.at:Tr→List Int→Option Tr
 |t,[]=>ae t
 | .bl _,_::_=>none
 | .nd _ ts,i::p=>if i<0 then none else match ts[i.toNat]? with
  |some u=>u.at p
  |none=>none
theorem zlE{t u:Tr}{i:Int}{r:Nat}{S:Sto}{Q:WK}{E:Str→Sto→Prop}(hi:0≤i) (hu:t.kids[i.toNat]? =ae u) (h:Q (enc u) S):zbE (r+2) [enc t, .int i] S Q E:=by
 rw[zbE];walk_at "wp";refine zgC ?_;have hl:i.toNat<t.kids.length:=(cj.mp hu).1;walk_at "wp";rw[zaT];rw[if_neg (by omega),if_neg (by omega)];have e:atI (encs t.kids) i=ae (enc u):=by
  have q:=zbU (xs:=encs t.kids) (n:=i.toNat);rw[cw hi]at q;rw[q,zaw,bt,hu];rfl
 rw[e];exact⟨S, .refl,h⟩
theorem zle{p:List Int}:∀{t u:Tr}{r:Nat}{S:Sto}{E:WX}{D:WEnds}{x y z:Option W},t.at p=ae u→(∀z,D.nx [x,y,ae (enc u),z] S)→
  forL (wGN 3) (ziK (r+2) zaR) E D (λ_=>True) (p.map W.int) [x,y,ae (enc t),z] S:=by
 induction p with
 |nil=>
  intro t u r S E D x y z e h;unfold Tr.at at e;cases e;exact h z
 |cons i p ih=>
  intro t u r S E D x y z e h;cases t with
  |bl n=>cases e
  |nd s ts=>
   unfold Tr.at at e;split at e
   ·cases e
   ·rename_i hi;split at e
    ·rename_i v ev;simp only[aA,forL,ziK];walk_at "wp";refine zlE (t:= .nd s ts) (u:=v) (by omega) ev ⟨S, .refl,?_⟩;exact ih e h
    ·cases e
theorem zuH{t u:Tr}{p:List Int}{r:Nat}{S:Sto}{Q:WK}{E:Str→Sto→Prop}(e:t.at p=ae u) (h:Q (enc u) S):zkv (r+3) [enc t,zbn p] S Q E:=by
 rw[zkv];walk_at "wp";unfold zbn;dsimp only;exact zle e λz=>⟨S, .refl,h⟩
def Low (c:Nat):Prop:=97≤c∧c≤122
def zcM (x:Str):Prop:=1≤x.cps.toList.length∧x.cps.toList.length≤8∧ ∀c∈x.cps.toList,Low c
def zcZ (x:Str):Prop:=∃c r,x.cps.toList=c::r∧65≤c∧c≤90∧r.length≤7∧ ∀d∈r,Low d
theorem zuO:(bf "abcdefghijklmnopqrstuvwxyz").cps.toList=List.range' 97 26:=by decide +kernel
theorem zwL:(bf "abcdefghijklmnopqrstuvwxyz").length=26:=by decide +kernel
theorem zkl:∀cs:List Nat,(cS (bf "") (cs.map λc=>(⟨#[c]⟩:Str))).cps.toList=cs
 | []=>rfl
 | [c]=>rfl
 |c::d::r=>by
  have ih:=zkl (d::r);show((⟨#[c]⟩:Str)++bf "" ++cS (bf "") ((d::r).map λc=>(⟨#[c]⟩:Str))).cps.toList=_;show(#[c]++(bf "").cps++(cS (bf "") ((d::r).map λc=>(⟨#[c]⟩:Str))).cps).toList=_;rw[gi,gi,ih];rfl
theorem zrU (cs:List Nat):((cs.map λc=>(⟨#[c]⟩:Str)).map (·.length)).sum=cs.length:=by
 induction cs with
 |nil=>rfl
 |cons c r ih=>
  rw[aA,aA,i8,ih,aR];show 1+r.length=r.length+1;omega
theorem zhb:∀cs:List Nat,zge (cs.map λc=>W.str ⟨#[c]⟩)=ae (cs.map λc=>(⟨#[c]⟩:Str))
 | []=>rfl
 |c::cs=>by rw[aA,zge,zhb cs];rfl
theorem zpT (cs:List Nat) (h:cs.length≤1000):(List.map (λx=>x.length) (cs.map λc=>(⟨#[c]⟩:Str))).sum+(cs.map λc=>(⟨#[c]⟩:Str)).length*(bf "").length≤16777216:=by
 have e:=zrU cs;have z:(bf "").length=0:=by decide +kernel
 rw[e,z];omega
theorem zmq{lo:Int}{n:Nat}:(zlv lo n).length=n:=by simp [zlv]
theorem zmr{α:Type}{xs:List α}(n:Int) (h:xs≠ []):∃(i:Nat) (x:α),xs[i]? =ae x∧atI xs (n % (xs.length:Int))=ae x:=by
 have hp:0<xs.length:=eL.mpr h;have h0:0≤n % (xs.length:Int):=cP _ (by omega);have h1:n % (xs.length:Int)<(xs.length:Int):=cZ _ (by omega);have hlt:(n % (xs.length:Int)).toNat<xs.length:=by omega
 refine⟨(n % (xs.length:Int)).toNat,xs[(n % (xs.length:Int)).toNat],a8 hlt,?_⟩;have e:=ztB (xs:=xs) (j:=(n % (xs.length:Int)).toNat) (v:=xs[(n % (xs.length:Int)).toNat]) (a8 hlt);rw[cw h0]at e;exact e
theorem zeO (ts us:List Tr):encs (ts++us)=encs ts++encs us:=by rw[zaw,zaw,zaw,bD]
theorem zqn (ts:List Tr) (n:Nat):(encs ts).take n=encs (ts.take n):=by rw[zaw,zaw,iA]
theorem zqo (ts:List Tr) (n:Nat):(encs ts).drop n=encs (ts.drop n):=by rw[zaw,zaw,i4]
mutual
noncomputable def Tr.plt (p:List Int):Tr→List (List Int×Tr)
 | .bl n=>[(p, .bl n)]
 | .nd s ts=>(p, .nd s ts)::zhE p 0 ts
noncomputable def zhE (p:List Int) (i:Nat):List Tr→List (List Int×Tr)
 | []=>[]
 |t::ts=>t.plt (p++[(i:Int)])++zhE p (i+1) ts
end
mutual
theorem zeW:∀(t:Tr) (p:List Int),(t.plt p).map (·.1)=t.pl p
 | .bl _,p=>by simp [Tr.plt,Tr.pl]
 | .nd _ ts,p=>by simp [Tr.plt,Tr.pl,zmX ts p 0]
theorem zmX:∀(ts:List Tr) (p:List Int) (i:Nat),(zhE p i ts).map (·.1)=pls p i ts
 | [],p,i=>by simp [zhE,pls]
 |t::ts,p,i=>by simp [zhE,pls,zeW t,zmX ts p (i+1)]
end
mutual
theorem zfZ:∀(t:Tr) (p:List Int),(t.plt p).length=t.weight
 | .bl _,p=>by simp [Tr.plt,Tr.weight]
 | .nd _ ts,p=>by simp [Tr.plt,Tr.weight,zmI ts p 0];omega
theorem zmI:∀(ts:List Tr) (p:List Int) (i:Nat),(zhE p i ts).length=wts ts
 | [],p,i=>by simp [zhE,wts]
 |t::ts,p,i=>by simp [zhE,wts,zfZ t,zmI ts p (i+1)]
end
theorem zpX{s:Str}{ts:List Tr}{i:Nat}{q:List Int}{u:Tr}(h:ts[i]? =ae u):(Tr.nd s ts).at ((i:Int)::q)=u.at q:=by
 rw[Tr.at,if_neg (by omega)];simp [h]
mutual
theorem zky:∀(t:Tr) (p q:List Int) (u:Tr),(q,u)∈t.plt p→ ∃r,q=p++r∧t.at r=ae u∧r.length<t.depth
 | .bl n,p,q,u,h=>by
  simp only[Tr.plt,bh,j3]at h;obtain⟨rfl,rfl⟩:=h;exact⟨[],by simp,by simp [Tr.at],by simp [Tr.depth]⟩
 | .nd s ts,p,q,u,h=>by
  simp only[Tr.plt,az,j3]at h;rcases h with⟨rfl,rfl⟩ |h
  ·exact⟨[],by simp,by simp [Tr.at],by simp [Tr.depth];omega⟩
  ·obtain⟨j,v,r,h1,h2,h3,h4⟩:=zor ts p 0 q u h;refine⟨(j:Int)::r,by rw[h2];simp,by rw[zpX h1];exact h3,by simp [Tr.depth];omega⟩
theorem zor:∀(ts:List Tr) (p:List Int) (i:Nat) (q:List Int) (u:Tr),(q,u)∈zhE p i ts→ ∃(j:Nat) (v:Tr) (r:List Int),ts[j]? =ae v∧q=p++[((i+j:Nat):Int)]++r∧v.at r=ae u∧r.length<dts ts
 | [],p,i,q,u,h=>by simp [zhE]at h
 |t::ts,p,i,q,u,h=>by
  simp only[zhE,bq]at h;rcases h with h |h
  ·obtain⟨r,h1,h2,h3⟩:=zky t _ q u h;exact⟨0,t,r,rfl,by simpa using h1,h2,by simp [dts];omega⟩
  ·obtain⟨j,v,r,h1,h2,h3,h4⟩:=zor ts p (i+1) q u h;refine⟨j+1,v,r,by simpa using h1,?_,h3,by simp [dts];omega⟩
   rw[h2,show i+1+j=i+(j+1) by omega]
end
theorem keep{S:Sto}{a p:Addr}{o x:Ob}(f:S a=ae o) (h:S p=none):put S p x a=ae o:=by rw[zaA (zty f h)];exact f
noncomputable def sw:List (List Int×Tr)→Nat
 | []=>0
 |x::xs=>x.2.weight+sw xs
theorem zbA{u:Tr}:∀{ts:List Tr},u∈ts→u.depth≤dts ts
 |t::ts,h=>by
  rcases az.mp h with rfl |h
  ·simp [dts];omega
  ·have:=zbA h;simp [dts];omega
theorem zaO{α:Type}{g:WG}{e:WE}{E:WX}{G:Sto→Prop}{Q:List W→Sto→Prop}{S:Sto}(I:WSt→Prop) (k f:α→W) (hG:G S):∀(xs:List α) (acc:List W) (σ:WSt),I σ→acc.length+xs.length≤1000000→
  (∀x∈xs,∀σ (R:WSt→W→Sto→Prop),I σ→(∀σ1 S3,I σ1→Sub S S3→R σ1 (f x) S3)→g (k x) σ S λσ1 S1=>e E σ1 S1 λy S3=>R σ1 y S3)→
  Q (acc++xs.map f) S→zfS g zhL e E G Q (xs.map k) acc σ S
 | [],acc,σ,hI,hl,step,hQ=>by simpa [zfS]using hQ
 |x::xs,acc,σ,hI,hl,step,hQ=>by
  simp only[aA,zfS,zhL,if_true];simp only[aR]at hl;refine step x a0 σ _ hI λσ1 S3 hI1 sb=>⟨zbM (by omega),S,sb,hG,zaO I k f hG xs (acc++[f x]) σ1 hI1 (by simp;omega) (λy hy=>step y (aK _ hy)) ?_⟩;simpa using hQ
theorem zfw{α:Type}{g:WG}{c:WT}{e:WE}{E:WX}{G:Sto→Prop}{Q:List W→Sto→Prop}{S:Sto}(I:WSt→Prop) (k f:α→W) (P:α→Bool) (hG:G S):∀(xs:List α) (acc:List W) (σ:WSt),I σ→acc.length+xs.length≤1000000→
  (∀x∈xs,∀σ (R1:WSt→W→Sto→Prop) (R0:WSt→Sto→Prop),I σ→(P x=true→ ∀σ1 S3,I σ1→Sub S S3→R1 σ1 (f x) S3)→(P x=false→ ∀σ1 S3,I σ1→Sub S S3→R0 σ1 S3)→
   g (k x) σ S λσ1 S1=>c E σ1 S1 λb S2=>if b=true then e E σ1 S2 λy S3=>R1 σ1 y S3 else R0 σ1 S2)→
  Q (acc++(xs.filter P).map f) S→zfS g c e E G Q (xs.map k) acc σ S
 | [],acc,σ,hI,hl,step,hQ=>by simpa [zfS]using hQ
 |x::xs,acc,σ,hI,hl,step,hQ=>by
  simp only[aA,zfS];simp only[aR]at hl;refine step x a0 σ _ _ hI (λhp σ1 S3 hI1 sb=>⟨zbM (by omega),S,sb,hG,zfw I k f P hG xs (acc++[f x]) σ1 hI1 (by simp;omega) (λy hy=>step y (aK _ hy)) ?_⟩)
   λhp σ1 S3 hI1 sb=>⟨S,sb,hG,zfw I k f P hG xs acc σ1 hI1 (by omega) (λy hy=>step y (aK _ hy)) ?_⟩
  ·rw[List.filter_cons_of_pos hp]at hQ;simpa using hQ
  ·rw[kg (by rw[hp];simp)]at hQ;exact hQ
noncomputable def Tr.isBl:Tr→Bool
 | .bl _=>true
 | .nd _ _=>false
noncomputable def Tr.num:Tr→Int
 | .bl n=>n
 | .nd _ _=>0
noncomputable def Tr.bls (t:Tr):List (List Int×Tr):=(t.plt []).filter λx=>x.2.isBl
theorem zpq{t:Tr}{x:List Int×Tr}(h:x∈t.bls):t.at x.1=ae x.2∧x.2= .bl x.2.num∧x.1.length<t.depth:=by
 obtain⟨h1,h2⟩:=gF.mp h;obtain⟨r,h3,h4,h5⟩:=zky t [] x.1 x.2 h1;simp at h3;subst h3;refine⟨h4,?_,h5⟩;obtain⟨p,u⟩:=x;cases u with
 |bl n=>rfl
 |nd s ts=>simp [Tr.isBl]at h2
theorem zvp (t:Tr):t.bls.length≤t.weight:=by
 unfold Tr.bls;exact aX (List.length_filter_le ..) (by rw[zfZ];exact au _)
theorem znW{t:Tr}{r:Nat}{S:Sto}{Q:WK}{E:Str→Sto→Prop}(hr:t.depth+4≤r) (hw:t.weight≤90000) (h:∀a,S a=none→Q (.ref a) (put S a (.lst (t.bls.map λx=>zbn x.1)))):zbP (r+1) [enc t] S Q E:=by
 have hd:=zdh t;obtain⟨r,rfl⟩:∃r',r=r'+3:=⟨r - 3,by omega⟩
 rw[zbP];walk_at "wp";refine zpC (by omega) (by omega) (by omega) λa ha=>?_;walk_at "wp";rw[←zeW,bj];refine zfw (λσ=>∃x,σ=[x,ae (enc t)]) (λx=>zbn x.1) (λx=>zbn x.1) (λx=>x.2.isBl) ?_ (t.plt []) [] _ ⟨none,rfl⟩ (by simp [zfZ];omega) (λx hx σ R1 R0 hI h1 h0=>?_) ?_
 ·exact zag
 ·obtain⟨y,rfl⟩:=hI;obtain⟨q,h3,h4,h5⟩:=zky t [] x.1 x.2 hx;simp at h3;subst h3;walk_at "wp";refine zuH h4 ?_;obtain⟨p,u⟩:=x;cases u with
  |bl n=>
   simp only[enc];walk_at "wp";exact h1 rfl _ _ ⟨_,rfl⟩ .refl
  |nd s ts=>
   simp only[enc];walk_at "wp";exact h0 rfl _ _ ⟨_,rfl⟩ .refl
 ·rw[a9];intro b hb;obtain⟨hb1,hb2⟩:=zdR hb;exact⟨_, .put2 (.put .refl ha),h b hb1⟩
mutual
noncomputable def Tr.fill (us:List Tr):Tr→Tr
 | .bl n=>us.getD n.toNat (.bl n)
 | .nd s ts=> .nd s (fills us ts)
noncomputable def fills (us:List Tr):List Tr→List Tr
 | []=>[]
 |t::ts=>t.fill us::fills us ts
end
mutual
noncomputable def Tr.fits (m:Nat):Tr→Prop
 | .bl n=>0≤n∧n<m
 | .nd _ ts=>fitss m ts
noncomputable def fitss (m:Nat):List Tr→Prop
 | []=>True
 |t::ts=>t.fits m∧fitss m ts
end
theorem zgR (us:List Tr):∀ts:List Tr,fills us ts=ts.map (Tr.fill us)
 | []=>by simp [fills]
 |t::ts=>by simp [fills,zgR us ts]
theorem zfK{m:Nat}{t:Tr}:∀{ts:List Tr},fitss m ts→t∈ts→t.fits m
 |u::ts,h,hm=>by
  simp only[fitss]at h;rcases az.mp hm with rfl |hm
  ·exact h.1
  ·exact zfK h.2 hm
theorem zgQ{us:List Tr}{a:Addr}:∀(d:Nat) {t:Tr}{r:Nat}{S:Sto}{Q:WK}{E:Str→Sto→Prop},t.depth≤d→d≤r+1→S a=ae (.lst (encs us))→t.fits us.length→t.weight≤90000→Q (enc (t.fill us)) S→zcV (r+1) [enc t, .ref a] S Q E
 |0,t,r,S,Q,E,hd,hr,ha,hf,hw,h=>by have:=zaS t;omega
 |d+1, .bl n,r,S,Q,E,hd,hr,ha,hf,hw,h=>by
  simp only[Tr.fits]at hf;simp only[Tr.fill]at h;rw[zcV];simp only[enc];walk_at "wp";have e:atI (encs us) n=ae (enc (us.getD n.toNat (.bl n))):=by
   have q:=zbU (xs:=encs us) (n:=n.toNat);rw[cw hf.1]at q;rw[q,zaw,bt,br,a8 (by omega)];rfl
  rw[zaj ha,e];exact⟨S, .refl,h⟩
 |d+1, .nd s ts,r,S,Q,E,hd,hr,ha,hf,hw,h=>by
  simp only[Tr.fits]at hf;simp only[Tr.fill]at h;simp only[Tr.depth]at hd;simp only[Tr.weight]at hw;have hk:=zcP ts;rw[zcV];simp only[enc]at h⊢;walk_at "wp";refine⟨zal (by decide),?_⟩;rw[zaw];refine zaO (λσ=>∃x,σ=[x,ae (.ref a)]) enc (λt=>enc (t.fill us)) trivial ts [] _ ⟨none,rfl⟩ (by simp;omega) (λx hx σ R hI hR=>?_) ?_
  ·obtain⟨y,rfl⟩:=hI;have hdx:=zbA hx;have hwx:=zdc hx;have:=zaS x;obtain⟨r,rfl⟩:∃r',r=r'+1:=⟨r - 1,by omega⟩
   simp only[zhY];walk_at "wp";exact zgQ d (t:=x) (r:=r) (by omega) (by omega) ha (zfK hf hx) (by omega) (hR _ _ ⟨_,rfl⟩ .refl)
  ·rw[a9];refine⟨zal (by simp;omega),S, .refl,?_⟩;have e:encs (fills us ts)=ts.map λt=>enc (t.fill us):=by rw[zaw,zgR,bj];rfl
   rw[e]at h;exact h
noncomputable def Tr.put:Tr→List Int→Tr→Tr
 |_,[],u=>u
 | .bl n,_::_,_=> .bl n
 | .nd s ts,i::p,u=>match ts[i.toNat]? with
  |some v=> .nd s (ts.set i.toNat (v.put p u))
  |none=> .nd s ts
theorem zhn (t:Tr):t.at []=ae t:=by cases t<;>rfl
theorem zea (t u:Tr):t.put [] u=u:=by cases t<;>rfl
theorem zgt{s:Str}{ts:List Tr}{i:Int}{p:List Int}{u:Tr}(h:(Tr.nd s ts).at (i::p)=ae u):∃v,0≤i∧ts[i.toNat]? =ae v∧v.at p=ae u:=by
 unfold Tr.at at h;split at h
 ·cases h
 ·split at h
  ·exact⟨_,by omega, ‹_›,h⟩
  ·cases h
theorem zsB:∀(q:List Int) {D t:Tr}(r:List Int),D.at q=ae t→D.at (q++r)=t.at r
 | [],D,t,r,h=>by rw[zhn]at h;cases h;rfl
 |i::q, .bl n,t,r,h=>by cases h
 |i::q, .nd s ts,t,r,h=>by
  obtain⟨v,h0,h1,h2⟩:=zgt h;rw[d9];have e:(i:Int)=((i.toNat:Nat):Int):=(cw h0).symm;rw[e,zpX h1];exact zsB q r h2
theorem zgn{s:Str}{ts:List Tr}{i:Int}{p:List Int}{u v:Tr}(h:ts[i.toNat]? =ae v):(Tr.nd s ts).put (i::p) u= .nd s (ts.set i.toNat (v.put p u)):=by
 rw[Tr.put,h]
theorem zmB{S:Sto}{p:List Int}:eqF S 60 (zbn p) (.tup [])=ae p.isEmpty:=by
 cases p<;>rfl
theorem zpL{u:Tr}:∀(p:List Int) {t v:Tr}{r:Nat}{S:Sto}{Q:WK}{E:Str→Sto→Prop},t.at p=ae v→p.length≤r→t.weight≤90000→p.length≤90000→Q (enc (t.put p u)) S→zcB (r+1) [enc t,zbn p,enc u] S Q E
 | [],t,v,r,S,Q,E,h,hr,hw,hp,q=>by
  rw[zea]at q;rw[zcB];walk_at "wp";rw[zmB];exact⟨aY _,S, .refl,q⟩
 |i::p, .bl n,v,r,S,Q,E,h,hr,hw,hp,q=>by cases h
 |i::p, .nd s ts,v,r,S,Q,E,h,hr,hw,hp,q=>by
  obtain⟨w,h0,h1,h2⟩:=zgt h;obtain⟨j,rfl⟩:∃j:Nat,i=j:=⟨i.toNat,(cw h0).symm⟩;rw[bW]at h1;rw[zgn (by rw[bW];exact h1),bW]at q;simp only[aR]at hr hp;simp only[Tr.weight]at hw;have hk:=zcP ts;have hl:=(cj.mp h1).1;have hm:=zdc (aV h1);obtain⟨r,rfl⟩:∃r',r=r'+1:=⟨r - 1,by omega⟩
  rw[zcB];walk_at "wp";rw[zmB];simp only[List.isEmpty_cons,er,if_false];have ep:zbn ((j:Int)::p)= .tup (.int j::p.map W.int):=rfl;simp only[ep,enc];walk_at "wp";rw[show((j:Int)+1)=((j+1:Nat):Int) by omega,zbU,dQ,zaw,bt,h1]
  dsimp only[Option.map];rw[show((j+1:Nat):Int)+1=((j+2:Nat):Int) by omega,ziL,zis]
  refine⟨aY _,zpL p (r:=r) h2 (by omega) (by omega) (by omega) ?_⟩;simp only[List.take_succ_cons,List.drop_succ_cons,←zaw,zqn,zqo];walk_at "wp";simp only[zaT,cy,cD];refine⟨zal (by decide),zal (by omega),zal (by simp only[aS,zaT,cy,aR,c5,cD];omega),S, .refl,?_⟩;have e:enc (.nd s (ts.set j (w.put p u)))= .tup (.str s::(encs (ts.take j)++[enc (w.put p u)]++encs (ts.drop (j+1)))):=by
   simp only[enc];rw[List.set_eq_take_append_cons_drop,if_pos hl,zeO];simp [encs]
  rw[e]at q;simpa using q
mutual
noncomputable def Tr.same:Tr→Tr→Bool
 | .bl n, .bl m=>n == m
 | .nd s ts, .nd z us=>s == z&&zeU ts us
 |_,_=>false
noncomputable def zeU:List Tr→List Tr→Bool
 | [],[]=>true
 |t::ts,u::us=>t.same u&&zeU ts us
 |_,_=>false
end
mutual
theorem ziH:∀(t u:Tr),t.same u=true↔t=u
 | .bl n, .bl m=>by simp [Tr.same]
 | .nd s ts, .nd z us=>by simp [Tr.same,zhh ts us]
 | .bl n, .nd z us=>by simp [Tr.same]
 | .nd s ts, .bl m=>by simp [Tr.same]
theorem zhh:∀(ts us:List Tr),zeU ts us=true↔ts=us
 | [],[]=>by simp [zeU]
 |t::ts,u::us=>by simp [zeU,ziH t u,zhh ts us]
 | [],u::us=>by simp [zeU]
 |t::ts,[]=>by simp [zeU]
end
theorem zkk (t:Tr):t.same t=true:=(ziH t t).mpr rfl
theorem znw (t:List Tr):zeU t t=true:=(zhh t t).mpr rfl
theorem zsy{S:Sto}{n:Nat}{xs ys:List W}:eqF S (n+1) (.tup xs) (.tup ys)=zed (eqF S n) xs ys:=eX (b:=zed (eqF S n) xs ys) rfl rfl
theorem zvQ{S:Sto}{n:Nat}{x y:Str}:eqF S (n+1) (.str x) (.str y)=ae (x == y):=eX (b:=ae (x == y)) rfl rfl
theorem zsA{S:Sto}{n:Nat}{x y:Int}:eqF S (n+1) (.int x) (.int y)=ae (x == y):=eX (b:=ae (x == y)) rfl rfl
theorem zxn{S:Sto}{n:Nat}{x:Int}{ys:List W}:eqF S (n+1) (.int x) (.tup ys)=ae false:=eX (b:=ae false) rfl rfl
theorem zwT{S:Sto}{n:Nat}{x:Int}{ys:List W}:eqF S (n+1) (.tup ys) (.int x)=ae false:=eX (b:=ae false) rfl rfl
mutual
theorem zrl{S:Sto}:∀(n:Nat) (t u:Tr),t.depth<n→eqF S n (enc t) (enc u)=ae (t.same u)
 |0,t,u,h=>by omega
 |n+1, .bl k, .bl m,h=>by simp only[enc,zsA,Tr.same]
 |n+1, .nd s ts, .nd z us,h=>by
  simp only[Tr.depth]at h;obtain⟨n,rfl⟩:∃m,n=m+1:=⟨n - 1,by omega⟩
  simp only[enc,zsy,zed,zvQ,Tr.same];rw[zpi (n+1) ts us (by omega)]
 |n+1, .bl k, .nd z us,h=>by simp only[enc,zxn,Tr.same]
 |n+1, .nd s ts, .bl m,h=>by simp only[enc,zwT,Tr.same]
theorem zpi{S:Sto}:∀(n:Nat) (ts us:List Tr),dts ts<n→zed (eqF S n) (encs ts) (encs us)=ae (zeU ts us)
 |n,[],[],h=>by simp only[encs,zed,zeU]
 |n,[],u::us,h=>by simp only[encs,zed,zeU]
 |n,t::ts,[],h=>by simp only[encs,zed,zeU]
 |n,t::ts,u::us,h=>by
  simp only[dts]at h;simp only[encs,zed,zeU,zrl n t u (by omega),zpi n ts us (by omega)]
end
theorem ztF{S:Sto}{n:Nat}{a b:Addr}{ts us:List Tr}(ha:S a=ae (.lst (encs ts))) (hb:S b=ae (.lst (encs us))) (h:dts ts<n):eqF S (n+1) (.ref a) (.ref b)=ae (zeU ts us):=by
 show(match S a with
  |some (.lst xs)=>match S b with
   |some (.lst ys)=>zed (eqF S n) xs ys
   |_=>none
  |_=>none)=ae (zeU ts us)
 rw[ha,hb];exact zpi n ts us h
theorem znK (n:Int):n % 2=0∨n % 2=1:=by omega
theorem zku (j:Int) (m:Nat):zlv j (m+1)= .int j::zlv (j+1) m:=by
 unfold zlv;rw[hZ,aA,bj];congr 1
 ·simp
 ·apply cC;intro i _;simp only[gH,W.int.injEq];omega
theorem zjO{α:Type}{xs:List α}{i:Int}(h0:0≤i) (h1:i<xs.length):∃x,atI xs i=ae x∧x∈xs:=by
 have q:=zbU (xs:=xs) (n:=i.toNat);rw[cw h0,a8 (by omega)]at q;exact⟨_,q,fK ..⟩
theorem ztI{ss:List Str}{i:Int}(h0:0≤i) (h1:i<ss.length):∃x,atI (ss.map W.str) i=ae (.str x)∧x∈ss:=by
 obtain⟨w,h,m⟩:=zjO (xs:=ss.map W.str) h0 (by simpa using h1);obtain⟨x,hx,rfl⟩:=aI.mp m;exact⟨x,h,hx⟩
theorem zpP{g:WG}{b:WS}{E:WX}{D:WEnds}(I:Nat→WSt→Sto→Prop) (n:Nat)
  (step:∀i,i<n→ ∀σ S (N:WSt→Sto→Prop),I i σ S→(∀σ' S' S'',Sub S'' S'→I (i+1) σ' S''→N σ' S')→g (.int i) σ S λσ1 S1=>b E { D with nx:=N,ct:=N,bk:=D.nx } σ1 S1)
  (done:∀σ S,I n σ S→D.nx σ S) {σ:WSt}{S:Sto}(h:I 0 σ S):forL g b E D (λ_=>True) (zlv 0 n) σ S:=by
 refine zlu (λws σ S=>∃i,i≤n∧ws=zlv (i:Int) (n - i)∧I i σ S) ?_ ?_ _ _ _ ⟨0,aY _,rfl,h⟩
 ·rintro w ws σ S N ⟨i,hi,e,hI⟩ hN;obtain⟨m,hm⟩:∃m,n - i=m+1:=by
   rcases eN (n - i) with z |z
   ·rw[z]at e;cases e
   ·exact⟨n - i - 1,by omega⟩
  rw[hm,zku]at e;cases e;exact step i (by omega) σ S N hI λσ' S' S'' sb h'=>hN σ' S' S'' sb trivial ⟨i+1,by omega,by rw[show n - (i+1)=m by omega];push_cast;rfl,h'⟩
 ·rintro σ S ⟨i,hi,e,hI⟩;have:n - i=0:=by
   rcases eN (n - i) with z |z
   ·exact z
   ·obtain⟨m,hm⟩:∃m,n - i=m+1:=⟨n - i - 1,by omega⟩
    rw[hm,zku]at e;cases e
  rw[show i=n by omega]at hI
  exact done σ S hI
theorem zqk:∀{ts:List Tr}{i:Nat}{v u:Tr},ts[i]? =ae v→wts (ts.set i u)+v.weight=wts ts+u.weight
 | [],i,v,u,h=>by simp at h
 |t::ts,0,v,u,h=>by
  simp at h;subst h;rw[ku,zbi,zbi];omega
 |t::ts,i+1,v,u,h=>by
  have:=zqk (ts:=ts) (i:=i) (v:=v) (u:=u) (by simpa using h);rw[jb,zbi,zbi];omega
theorem zhX:∀(p:List Int) {D u v:Tr},D.at p=ae v→(D.put p u).weight+v.weight=D.weight+u.weight
 | [],D,u,v,h=>by rw[zhn]at h;cases h;rw[zea];omega
 |i::p, .bl n,u,v,h=>by cases h
 |i::p, .nd s ts,u,v,h=>by
  obtain⟨w,h0,e1,e2⟩:=zgt h;rw[zgn e1];have h1:=zhX p (u:=u) e2;have h2:=zqk (u:=w.put p u) e1;simp only[Tr.weight];omega
mutual
theorem zhT{us:List Tr}{k:Nat}(hk:1≤k) (hu:∀u∈us,u.depth≤k):∀t:Tr,(t.fill us).depth≤t.depth+k
 | .bl n=>by
  simp only[Tr.fill,Tr.depth];rw[br];cases e:us[n.toNat]? with
  |none=>simp [Tr.depth]
  |some u=>
   have:=hu u (aV e);simp only[dq];omega
 | .nd s ts=>by
  have:=zhv hk hu ts;simp only[Tr.fill,Tr.depth];omega
theorem zhv{us:List Tr}{k:Nat}(hk:1≤k) (hu:∀u∈us,u.depth≤k):∀ts:List Tr,dts (fills us ts)≤dts ts+k
 | []=>by simp [fills,dts]
 |t::ts=>by
  have:=zhT hk hu t;have:=zhv hk hu ts;simp only[fills,dts];omega
end
theorem zij{k:Nat}:∀{ts:List Tr},(∀t∈ts,t.depth≤k)→dts ts≤k
 | [],_=>by simp [dts]
 |t::ts,h=>by
  have:=h t a0;have:=zij (ts:=ts) λu hu=>h u (aK _ hu);simp only[dts];omega
theorem zbj{g:WG}{b:WS}{E:WX}{D:WEnds}{G:Sto→Prop}{w:W}{ws:List W}{σ:WSt}{S:Sto}(h:∀N:WSt→Sto→Prop,(∀σ S S',Sub S' S→G S'→forL g b E D G ws σ S'→N σ S)→g w σ S λσ1 S1=>b E { D with nx:=N,ct:=N,bk:=D.nx } σ1 S1):forL g b E D G (w::ws) σ S:=h _ λσ S S' a c d=>⟨S',a,c,d⟩
mutual
noncomputable def Tr.mt:Tr→Tr→Option (List Tr)
 | .bl _,t=>ae [t]
 | .nd s ls, .nd z us=>if s == z&&ls.length == us.length then mts ls us else none
 | .nd _ _, .bl _=>none
noncomputable def mts:List Tr→List Tr→Option (List Tr)
 | [],_=>ae []
 |_::_,[]=>ae []
 |l::ls,u::us=>match l.mt u with
  |none=>none
  |some xs=>match mts ls us with
   |none=>none
   |some ys=>ae (xs++ys)
end
theorem zwB{s z:Str}{ls us:List Tr}{r:Nat}{S:Sto}{Q:WK}{E:Str→Sto→Prop}(h:Q (.bl (s == z&&ls.length == us.length)) S):zbR (r+1) [enc (.nd s ls),enc (.nd z us)] S Q E:=by
 rw[zbR];simp only[enc];walk_at "wp";cases e:s == z with
 |false=>
  rw[e]at h;exact⟨_, .refl,h⟩
 |true=>
  rw[e]at h;walk_at "wp";refine⟨_, .refl,?_⟩;have:(((encs ls).length+1:Nat):Int)=((encs us).length+1:Nat)↔ls.length=us.length:=by rw[zaT,zaT];omega
  have e2:((((encs ls).length+1:Nat):Int) == ((encs us).length+1:Nat))=(ls.length == us.length):=by
   rw[fT,beq_iff_eq,beq_iff_eq];exact this
  rw[e2];simpa using h
mutual
theorem zsF:∀(l t:Tr) (ys:List Tr),l.mt t=ae ys→ys.length≤l.weight
 | .bl _,t,ys,h=>by simp only[Tr.mt,bB]at h;subst h;simp [Tr.weight]
 | .nd s ls, .nd z us,ys,h=>by
  simp only[Tr.mt]at h;split at h
  ·have:=zpu ls us ys h;simp only[Tr.weight];omega
  ·cases h
 | .nd _ _, .bl _,ys,h=>by simp [Tr.mt]at h
theorem zpu:∀(ls us ys:List Tr),mts ls us=ae ys→ys.length≤wts ls
 | [],us,ys,h=>by simp only[mts,bB]at h;subst h;simp
 |l::ls,[],ys,h=>by simp only[mts,bB]at h;subst h;simp
 |l::ls,u::us,ys,h=>by
  simp only[mts]at h;split at h
  ·cases h
  ·rename_i xs e1;split at h
   ·cases h
   ·rename_i zs e2;cases h;have:=zsF l u xs e1;have:=zpu ls us zs e2;simp only[aS,wts];omega
end
theorem zgX{r:Nat}{a:Addr}{E:WX}{D:WEnds}{x0 x1:Option W}:∀(ls us:List Tr)
  (one:∀l∈ls,∀{t:Tr}{S:Sto}{xs:List W}{Q:WK}{E:Str→Sto→Prop},t.fits 0→S a=ae (.lst xs)→xs.length+l.weight≤100000→(∀ys,l.mt t=ae ys→Q (.bl true) (put S a (.lst (xs++encs ys))))→(l.mt t=none→ ∀ys,Q (.bl false) (put S a (.lst (xs++ys))))→zaE r [enc l,enc t, .ref a] S Q E)
  {S:Sto}{xs:List W}{x3 x4:Option W},fitss 0 us→S a=ae (.lst xs)→xs.length+wts ls≤100000→
  (∀ys x3 x4,mts ls us=ae ys→D.nx [x0,x1,ae (.ref a),x3,x4] (put S a (.lst (xs++encs ys))))→(mts ls us=none→ ∀ys,D.rt (.bl false) (put S a (.lst (xs++ys))))→
  forL (wGT (zat (wGN 3) (zat (wGN 4) zbT))) (zcn r (zaE r)) E D (λ_=>True) (pairs (encs ls) (encs us)) [x0,x1,ae (.ref a),x3,x4] S
 | [],us,one,S,xs,x3,x4,hf,ha,hl,h1,h0=>by
  have q:=h1 [] x3 x4 (by simp [mts]);simp only[encs,bI,zdT ha]at q;simpa [encs,pairs,forL]using q
 |l::ls,[],one,S,xs,x3,x4,hf,ha,hl,h1,h0=>by
  have q:=h1 [] x3 x4 (by simp [mts]);simp only[encs,bI,zdT ha]at q;simpa [encs,pairs,forL]using q
 |l::ls,u::us,one,S,xs,x3,x4,hf,ha,hl,h1,h0=>by
  simp only[fitss]at hf;simp only[wts]at hl;simp only[encs,pairs];refine zbj λN hN=>?_;simp only[zcn];walk_at "wp";refine one l a0 hf.1 ha (by omega) (λys e=>?_) λe ys=>?_
  ·walk_at "wp";have hyl:=zsF l u ys e;refine hN _ _ _ .refl trivial (zgX ls us (λl' hl'=>one l' (aK _ hl')) hf.2 zag (by rw[aS,zaT];omega) (λzs x3 x4 e2=>?_) λe2 zs=>?_)
   ·rw[zbc,cf,←zeO];exact h1 _ _ _ (by simp only[mts,e,e2])
   ·rw[zbc,cf];exact h0 (by simp only[mts,e,e2]) _
  ·walk_at "wp";exact h0 (by simp only[mts,e]) ys
theorem zmU{a:Addr}:∀(d:Nat) {l t:Tr}{r:Nat}{S:Sto}{xs:List W}{Q:WK}{E:Str→Sto→Prop},l.depth≤d→d≤r→t.fits 0→S a=ae (.lst xs)→xs.length+l.weight≤100000→
  (∀ys,l.mt t=ae ys→Q (.bl true) (put S a (.lst (xs++encs ys))))→(l.mt t=none→ ∀ys,Q (.bl false) (put S a (.lst (xs++ys))))→zaE (r+1) [enc l,enc t, .ref a] S Q E
 |0,l,t,r,S,xs,Q,E,hd,hr,hf,ha,hl,h1,h0=>by have:=zaS l;omega
 |d+1, .bl n,t,r,S,xs,Q,E,hd,hr,hf,ha,hl,h1,h0=>by
  have hw:=zes (.bl n);rw[zaE];simp only[enc];walk_at "wp";simp only[zaj ha,true_and];refine⟨zbM (by omega),_, .refl,?_⟩;have:=h1 [t] (by simp [Tr.mt]);simpa only[encs]using this
 |d+1, .nd s ls, .bl n,r,S,xs,Q,E,hd,hr,hf,ha,hl,h1,h0=>by
  simp only[Tr.fits]at hf;omega
 |d+1, .nd s ls, .nd z us,r,S,xs,Q,E,hd,hr,hf,ha,hl,h1,h0=>by
  simp only[Tr.fits]at hf;simp only[Tr.depth]at hd;simp only[Tr.weight]at hl;obtain⟨r,rfl⟩:∃r',r=r'+1:=⟨r - 1,by omega⟩
  have en:∀s ts,enc (.nd s ts)= .tup (.str s::encs ts):=λs ts=>by simp [enc]
  rw[zaE];walk_at "wp";rw[en,en];walk_at "wp";rw[←en,←en];refine zwB ?_;rw[en,en];walk_at "wp";simp only[Tr.mt]at h1 h0;cases e:(s == z&&ls.length == us.length) with
  |false=>
   rw[e]at h0;have:=h0 (by simp) [];rw[bI,zdT ha]at this;exact⟨_, .refl,this⟩
  |true=>
   rw[e]at h0 h1;simp only[if_true]at h0 h1;walk_at "wp";refine zgX ls us (λl hl' {t S xs Q E} f1 f2 f3 f4 f5=>zmU d (by have:=zbA hl';omega) (by omega) f1 f2 f3 f4 f5) hf ha (by omega) (λys x3 x4 e=>?_) λe ys=>?_
   ·walk_at "wp";exact⟨_, .refl,h1 ys e⟩
   ·exact⟨_, .refl,h0 e ys⟩
theorem zen{l t:Tr}{r:Nat}{S:Sto}{Q:WK}{E:Str→Sto→Prop}(hr:l.depth<r) (hf:t.fits 0) (hw:l.weight≤90000) (h1:∀ys,l.mt t=ae ys→ ∀a,S a=none→Q (.ref a) (put S a (.lst (encs ys)))) (h0:l.mt t=none→Q .non S):zbO (r+1) [enc l,enc t] S Q E:=by
 obtain⟨r,rfl⟩:∃r',r=r'+1:=⟨r - 1,by omega⟩
 rw[zbO];walk_at "wp";refine⟨aY _,λa ha=>zmU l.depth (au _) (by omega) hf zag (by simpa using(by omega:l.weight≤100000)) (λys e=>?_) λe ys=>?_⟩
 ·walk_at "wp";exact⟨_, .refl,h1 ys e a ha⟩
 ·walk_at "wp";exact⟨_, .put .refl ha,h0 e⟩
mutual
theorem zjL:∀(l t:Tr) (ys:List Tr),l.mt t=ae ys→wts ys≤t.weight
 | .bl _,t,ys,h=>by simp only[Tr.mt,bB]at h;subst h;simp [wts]
 | .nd s ls, .nd z us,ys,h=>by
  simp only[Tr.mt]at h;split at h
  ·have:=zfY ls us ys h;simp only[Tr.weight];omega
  ·cases h
 | .nd _ _, .bl _,ys,h=>by simp [Tr.mt]at h
theorem zfY:∀(ls us ys:List Tr),mts ls us=ae ys→wts ys≤wts us
 | [],us,ys,h=>by simp only[mts,bB]at h;subst h;simp [wts]
 |l::ls,[],ys,h=>by simp only[mts,bB]at h;subst h;simp [wts]
 |l::ls,u::us,ys,h=>by
  simp only[mts]at h;split at h
  ·cases h
  ·rename_i xs e1;split at h
   ·cases h
   ·rename_i zs e2;cases h;have:=zjL l u xs e1;have:=zfY ls us zs e2;simp only[zev,wts];omega
end
noncomputable def zsW (c:Nat):Bool:=decide (97≤c)&&decide (c≤122)
noncomputable def small (xs:List Nat):Bool:=xs.all zsW
theorem zmY (x:Str):(cL x (ae 1) none).cps.toList=x.cps.toList.drop 1:=by
 rw[zqH];unfold zya;rw[HT.sIx_none];have ez:HT.sIx x.cps.toList.length 0 (ae 1)=min 1 x.cps.toList.length:=HT.sIx_nat x.cps.toList.length 0 1;rw[ez];by_cases h:1≤x.cps.toList.length
 ·rw[gW h,db (by rw[cD];exact au _)]
 ·have:x.cps.toList=[]:=jR (by omega);rw[this];rfl
theorem zkW (x:Str):x.length=x.cps.toList.length:=by simp [gS]
mutual
theorem ztf:∀(t:Tr) (p q:List Int) (u:Tr),t.at q=ae u→(p++q,u)∈t.plt p
 | .bl n,p,[],u,h=>by rw[zhn]at h;cases h;simp [Tr.plt]
 | .bl n,p,i::q,u,h=>by cases h
 | .nd s ts,p,[],u,h=>by rw[zhn]at h;cases h;simp [Tr.plt]
 | .nd s ts,p,i::q,u,h=>by
  obtain⟨v,h0,e1,e2⟩:=zgt h;simp only[Tr.plt,az];refine .inr ?_;have:=zqE ts p 0 i.toNat q u v e1 e2;rw[b8,cw h0]at this;simpa using this
theorem zqE:∀(ts:List Tr) (p:List Int) (i j:Nat) (q:List Int) (u v:Tr),ts[j]? =ae v→v.at q=ae u→(p++((i+j:Nat):Int)::q,u)∈zhE p i ts
 | [],p,i,j,q,u,v,h1,h2=>by simp at h1
 |t::ts,p,i,0,q,u,v,h1,h2=>by
  simp at h1;subst h1;simp only[zhE,bq];refine .inl ?_;have:=ztf t (p++[(i:Int)]) q u h2;simpa using this
 |t::ts,p,i,j+1,q,u,v,h1,h2=>by
  simp only[zhE,bq];refine .inr ?_;have:=zqE ts p (i+1) j q u v (by simpa using h1) h2;rw[show i+1+j=i+(j+1) by omega]at this
  exact this
end
theorem zpa{t:Tr}{x:List Int×Tr}(h:x∈t.plt []):t.at x.1=ae x.2∧x.1.length<t.depth:=by
 obtain⟨q,h3,h4,h5⟩:=zky t [] x.1 x.2 h;simp at h3;subst h3;exact⟨h4,h5⟩
theorem zfl{α:Type}{g:WG}{b:WS}{E:WX}{D:WEnds}{G:Sto→Prop}{S:Sto}(hG:G S) (I:WSt→Prop) (key:α→W) (f:α→Option W):∀(xs:List α) (σ:WSt),I σ→
  (∀x∈xs,∀σ (N:WSt→Sto→Prop),I σ→(f x=none→ ∀σ' S',I σ'→Sub S S'→N σ' S')→(∀w,f x=ae w→ ∀S',Sub S S'→D.rt w S')→g (key x) σ S λσ1 S1=>b E { D with nx:=N,ct:=N,bk:=D.nx } σ1 S1)→
  (xs.findSome? f=none→ ∀σ,I σ→D.nx σ S)→(∀w,xs.findSome? f=ae w→ ∀S',Sub S S'→D.rt w S')→forL g b E D G (xs.map key) σ S
 | [],σ,hI,step,done,ret=>by
  have:=done rfl σ hI;simpa [forL]using this
 |x::xs,σ,hI,step,done,ret=>by
  rw[aA];refine zbj λN hN=>?_;refine step x a0 σ N hI (λe σ' S' hI' sb=>?_) λw e S' sb=>ret w (by rw[d5,e]) S' sb;refine hN _ _ S sb hG (zfl hG I key f xs σ' hI' (λy hy=>step y (aK _ hy)) (λe2=>done (by rw[d5,e];exact e2)) λw e2=>ret w (by rw[d5,e];exact e2))
abbrev Tn:=Str×Tr×Tr
noncomputable def zba (t:Tn):W:= .tup [.str t.1,enc t.2.1,enc t.2.2]
noncomputable def Tn0:Tn:=("", .bl 0, .bl 0)
noncomputable def lf (ts:List Tn) (j:Nat):Tr:=(ts.getD j Tn0).2.1
theorem znx (n:Nat):zlv 0 n=(aU n).map λ(i:Nat)=>W.int i:=by
 unfold zlv;apply cC;intro i _;simp
theorem zie{r:Nat}{a b:Addr}{ps:List W}{E:WX}{D:WEnds}{x0:Option W}(hba:b≠a):∀(ts:List Tr) {S:Sto}{us:List Tr}{x2:Option W},S a=ae (.lst (encs us))→S b=ae (.lst ps)→us.length+wts ts≤200000→
  (∀x2,D.nx [x0,ae (.ref a),x2] (put S a (.lst (encs (us++ts.flatMap Tr.kids)))))→
  forL (wGN 2) (zcR (r+1) zaR) E D (λS'=>S' b=ae (.lst ps)) (encs ts) [x0,ae (.ref a),x2] S
 | [],S,us,x2,ha,hb,hl,h=>by
  have:=h x2;simp only[gV,bI,zdT ha]at this;simpa [encs,forL]using this
 |t::ts,S,us,x2,ha,hb,hl,h=>by
  simp only[wts]at hl;have hk:=zcP t.kids;have hw:=zdS t;simp only[encs];refine zbj λN hN=>?_;simp only[zcR];walk_at "wp";simp only[zaj ha,true_and];refine zgC ?_;walk_at "wp";rw[zaj ha];refine⟨zal (by rw[zaT,zaT];omega),hN _ _ _ .refl (by rw[zaA hba];exact hb) ?_⟩;rw[←zeO];refine zie hba ts zag (by rw[zaA hba];exact hb) (by rw[aS];omega) λx2=>?_;rw[zbc];have:=h x2;rw[eT,←cf]at this;exact this
theorem zlH{ts:List Tr}{b:Addr}{r:Nat}{S:Sto}{Q:WK}{E:Str→Sto→Prop}(hb:S b=ae (.lst (encs ts))) (hw:wts ts≤100000) (h:∀a,S a=none→Q (.ref a) (put S a (.lst (encs (ts.flatMap Tr.kids))))):zbQ (r+2) [.ref b] S Q E:=by
 rw[zbQ];walk_at "wp";refine⟨aY _,λa ha=>?_⟩;have hba:=zty hb ha;rw[zaj (keep hb ha)];refine zie (us:=[]) hba ts (by simp [zag,encs]) (keep hb ha) (by simpa using(by omega:wts ts≤200000)) λx2=>?_;rw[zbc];walk_at "wp";exact⟨_, .refl,h a ha⟩
noncomputable def Tr.small (t:Tr):Bool:=decide (t.weight≤400)&&decide (t.depth≤40)
theorem zfW{t:Tr}{r:Nat}{S:Sto}{Q:WK}{E:Str→Sto→Prop}(hw:t.weight≤90000) (h:Q (.bl t.small) S):zdC (r+3) [enc t] S Q E:=by
 rw[zdC];walk_at "wp";refine⟨zal (by decide),λa ha=>?_⟩;refine⟨λm σ S'=>∃(ts:List Tr) (k d:Nat) (b:Addr),m=wts ts∧k+wts ts=t.weight∧d+dts ts=t.depth∧k≤400∧d≤40∧S b=none∧S'=put S b (.lst (encs ts))∧σ=[ae (enc t),ae (.int k),ae (.int d),ae (.ref b)],⟨_,[t],0,0,a,rfl,by simp [wts],by simp [dts],by decide,by decide,ha,by simp [encs],rfl⟩,?_⟩
 rintro m σ S' ⟨ts,k,d,b,rfl,hwt,hk,hk4,hd4,hb,rfl,rfl⟩;walk_at "wp";cases ts with
 |nil=>
  simp only[encs,kw];walk_at "wp";simp only[dts,wts,eU]at hk hwt;have e:t.small=true:=by unfold Tr.small;rw[decide_eq_true (by omega),decide_eq_true (by omega)];rfl
  rw[e]at h;exact⟨_, .put .refl hb,h⟩
 |cons u us=>
  have hne:(encs (u::us)).isEmpty=false:=by simp [encs]
  rw[hne];have hfl:=zmg (u::us);have hdf:=zms (ts:=u::us) (by simp);have hlw:=zcP (u::us);simp only[zgj];walk_at "wp";rw[zaT];have no:400<t.weight∨40<t.depth→ ∃S'',Sub S'' (put S b (Ob.lst (encs (u::us))))∧Q (W.bl false) S'':=λz=>by
   have e:t.small=false:=by
    unfold Tr.small;rcases z with z |z
    ·rw[decide_eq_false (by omega)];rfl
    ·rw[decide_eq_false (p:=t.depth≤40) (by omega),fJ]
   rw[e]at h;exact⟨_, .put .refl hb,h⟩
  split
  ·exact no (.inl (by omega))
  ·split
   ·exact no (.inr (by omega))
   ·refine zlH zag (by omega) λc hc=>?_;obtain⟨hc1,hc2⟩:=zdR hc;refine⟨wts ((u::us).flatMap Tr.kids),put S c (.lst (encs ((u::us).flatMap Tr.kids))),by simp only[aR]at hfl;omega, .put2 (.put .refl hb),_,k+(u::us).length,d+1,c,rfl,by omega,by omega,by omega,by omega,hc1,rfl,?_⟩
    push_cast
    rfl
theorem zfP{ns:List Int}{k:Int}{r:Nat}{S:Sto}{Q:WK}{E:Str→Sto→Prop}(h0:0≤k) (h:∀n:Int,Q (.int n) S):zaH (r+1) [.scr ns, .int k] S Q E:=by
 rw[zaH];walk_at "wp";split
 ·obtain⟨x,e,_⟩:=zjO (xs:=ns) (i:=k) h0 (by omega);rw[e];exact⟨S, .refl,h _⟩
 ·exact⟨S, .refl,h _⟩
noncomputable def lt (rs:List Int) (pos:Int) (k j:Nat):Nat:=97+((rs.getD j 0+(k:Int)*(if(0+(j:Int) == pos)=true then 1 else 0)) % 26).toNat
noncomputable def zfv (rs:List Int) (pos:Int) (k:Nat):List Nat:=(aU rs.length).map (lt rs pos k)
noncomputable def wd0 (rs:List Int) (pos:Int) (k:Nat):Str:=cS (bf "") ((zfv rs pos k).map λc=>(⟨#[c]⟩:Str))
noncomputable def wd1 (rs:List Int) (pos:Int) (k:Nat):Str:=dm ⟨#[lt rs pos k 0]⟩++cL (wd0 rs pos k) (ae 1) none
noncomputable def wd (great:Bool) (rs:List Int) (pos:Int) (k:Nat):Str:=if great then wd1 rs pos k else wd0 rs pos k
theorem zhU (rs:List Int) (pos:Int) (k j:Nat):Low (lt rs pos k j):=by
 have h0:=cP (rs.getD j 0+(k:Int)*(if(0+(j:Int) == pos)=true then 1 else 0)) (show(26:Int)≠0 by decide)
 have h1:=cZ (rs.getD j 0+(k:Int)*(if(0+(j:Int) == pos)=true then 1 else 0)) (show(0:Int)<26 by decide)
 unfold lt Low;omega
theorem zxI{n:Int}(h0:0≤n) (h1:n<26):atI (bf "abcdefghijklmnopqrstuvwxyz").cps.toList n=ae (97+n.toNat):=by
 have e:=zbU (xs:=(bf "abcdefghijklmnopqrstuvwxyz").cps.toList) (n:=n.toNat);rw[cw h0]at e;rw[e,zuO,List.getElem?_range' (by omega)];simp
theorem zgK (rs:List Int) (pos:Int) (k:Nat):(wd0 rs pos k).cps.toList=zfv rs pos k:=zkl _
theorem zhC (rs:List Int) (pos:Int) (k:Nat):(zfv rs pos k).length=rs.length:=by simp [zfv]
theorem zks{rs:List Int}{pos:Int}{k c:Nat}(h:c∈zfv rs pos k):Low c:=by
 obtain⟨j,_,rfl⟩:=aI.mp h;exact zhU rs pos k j
theorem znI{rs:List Int}(pos:Int) (k:Nat) (h:1≤rs.length):zfv rs pos k=lt rs pos k 0::(zfv rs pos k).drop 1:=by
 unfold zfv;obtain⟨n,hn⟩:∃n,rs.length=n+1:=⟨rs.length - 1,by omega⟩
 rw[hn,hZ];simp
theorem zjq{c:Nat}(h:Low c):dm ⟨#[c]⟩=⟨#[c - 32]⟩:=by
 unfold Low at h;rw[PySem.W.KOpn.upper_one (by omega),if_pos h]
theorem zmC{rs:List Int}(pos:Int) (k:Nat):(wd1 rs pos k).cps.toList=(lt rs pos k 0 - 32)::(zfv rs pos k).drop 1:=by
 unfold wd1;rw[zjq (zhU _ _ _ _)];show((#[lt rs pos k 0 - 32]:Array Nat)++(cL (wd0 rs pos k) (ae 1) none).cps).toList=_;rw[gi,zmY,zgK];rfl
structure Base (rs:List Int) (pos:Int):Prop where
  l1:1≤rs.length
  l8:rs.length≤8
  p0:0≤pos
  p1:pos<rs.length
theorem zmO{rs:List Int}{pos:Int}(b:Base rs pos) (k:Nat):zcM (wd0 rs pos k):=by
 unfold zcM;rw[zgK,zhC];exact⟨b.l1,b.l8,λc hc=>zks hc⟩
theorem zqC{rs:List Int}{pos:Int}(b:Base rs pos) (k:Nat):zcZ (wd1 rs pos k):=by
 have:=zhU rs pos k 0;have hl:=b.l8;unfold Low at this;refine⟨_,_,zmC pos k,by omega,by omega,by rw[cD,zhC];omega,λd hd=>zks (gY hd)⟩
theorem zzk{rs:List Int}{pos:Int}(b:Base rs pos) {k m:Nat}(hk:k<26) (hm:m<26) (h:k≠m):lt rs pos k pos.toNat≠lt rs pos m pos.toNat:=by
 have p0:=b.p0;have e:(0+((pos.toNat:Nat):Int) == pos)=true:=by rw[beq_iff_eq];omega
 unfold lt;rw[e,if_pos rfl];omega
theorem zvK{great:Bool}{rs:List Int}{pos:Int}(b:Base rs pos) {k m:Nat}(hk:k<26) (hm:m<26) (h:k≠m):wd great rs pos k≠wd great rs pos m:=by
 have hn:=zzk b hk hm h;have p0:=b.p0;have p1:=b.p1;intro e;have e':=congrArg (λx:Str=>x.cps.toList) e;cases great with
 |false=>
  simp only[wd,er,if_false,zgK]at e';have e2:=congrArg (λl=>l[pos.toNat]?) e';simp only[zfv,bt,fI (show pos.toNat<rs.length by omega),d7,bB]at e2
  exact hn e2
 |true=>
  simp only[wd,if_true,zmC]at e';have e2:=congrArg (λl=>l[pos.toNat]?) e';cases hp:pos.toNat with
  |zero=>
   rw[hp]at hn;have h1:=zhU rs pos k 0;have h2:=zhU rs pos m 0;unfold Low at h1 h2;simp only[hp,kq,bB]at e2;omega
  |succ n=>
   rw[hp]at hn;simp only[hp,dQ,jO,zfv,bt]at e2;rw[show 1+n=n+1 by omega,fI (show n+1<rs.length by omega)]at e2
   simp only[d7,bB]at e2;exact hn e2
def zlc (great:Bool) (ws:List Str):Prop:=∃rs pos,Base rs pos∧(ws=(aU 6).map (wd great rs pos)∨(great=false∧ws=[wd0 rs pos 0,wd0 rs pos 1,wd0 rs pos 2,wd0 rs pos 2,wd0 rs pos 2,wd0 rs pos 5]))
structure Signs (w0 w1 w2 w3 w4 w5:Str):Prop where
  ok:∀x∈ [w0,w1,w2,w3,w4,w5],zcM x
  n0:∀x∈ [w1,w2,w3,w4,w5],w0≠x
  n1:∀x∈ [w2,w3,w4,w5],w1≠x
  n5:∀x∈ [w2,w3,w4],w5≠x
theorem zlB{ws:List Str}(h:zlc false ws):∃w0 w1 w2 w3 w4 w5,ws=[w0,w1,w2,w3,w4,w5]∧Signs w0 w1 w2 w3 w4 w5:=by
 obtain⟨rs,pos,b,h⟩:=h;have hs:=λk=>zmO b k;have hn:∀k m:Nat,k<26→m<26→k≠m→wd0 rs pos k≠wd0 rs pos m:=λk m h1 h2 h3=>zvK (great:=false) b h1 h2 h3;rcases h with rfl |⟨_,rfl⟩
 ·refine⟨_,_,_,_,_,_,rfl,⟨?_,?_,?_,?_⟩⟩
  ·simp only[az,bx,or_false,forall_eq_or_imp,forall_eq];exact⟨hs 0,hs 1,hs 2,hs 3,hs 4,hs 5⟩
  ·simp only[az,bx,or_false,forall_eq_or_imp,forall_eq];exact⟨hn 0 1 (by decide) (by decide) (by decide),hn 0 2 (by decide) (by decide) (by decide),hn 0 3 (by decide) (by decide) (by decide),hn 0 4 (by decide) (by decide) (by decide),hn 0 5 (by decide) (by decide) (by decide)⟩
  ·simp only[az,bx,or_false,forall_eq_or_imp,forall_eq];exact⟨hn 1 2 (by decide) (by decide) (by decide),hn 1 3 (by decide) (by decide) (by decide),hn 1 4 (by decide) (by decide) (by decide),hn 1 5 (by decide) (by decide) (by decide)⟩
  ·simp only[az,bx,or_false,forall_eq_or_imp,forall_eq];exact⟨hn 5 2 (by decide) (by decide) (by decide),hn 5 3 (by decide) (by decide) (by decide),hn 5 4 (by decide) (by decide) (by decide)⟩
 ·refine⟨_,_,_,_,_,_,rfl,⟨?_,?_,?_,?_⟩⟩
  ·simp only[az,bx,or_false,forall_eq_or_imp,forall_eq];exact⟨hs 0,hs 1,hs 2,hs 2,hs 2,hs 5⟩
  ·simp only[az,bx,or_false,forall_eq_or_imp,forall_eq];exact⟨hn 0 1 (by decide) (by decide) (by decide),hn 0 2 (by decide) (by decide) (by decide),hn 0 2 (by decide) (by decide) (by decide),hn 0 2 (by decide) (by decide) (by decide),hn 0 5 (by decide) (by decide) (by decide)⟩
  ·simp only[az,bx,or_false,forall_eq_or_imp,forall_eq];exact⟨hn 1 2 (by decide) (by decide) (by decide),hn 1 2 (by decide) (by decide) (by decide),hn 1 2 (by decide) (by decide) (by decide),hn 1 5 (by decide) (by decide) (by decide)⟩
  ·simp only[az,bx,or_false,forall_eq_or_imp,forall_eq];exact⟨hn 5 2 (by decide) (by decide) (by decide),hn 5 2 (by decide) (by decide) (by decide),hn 5 2 (by decide) (by decide) (by decide)⟩
structure Titles (ts:List Str):Prop where
  len:ts.length=6
  ok:∀x∈ts,zcZ x
  nd:ts.Nodup
theorem zgm{ws:List Str}(h:zlc true ws):Titles ws:=by
 obtain⟨rs,pos,b,h⟩:=h;rcases h with rfl |⟨e,_⟩
 ·refine⟨by simp,λx hx=>?_,?_⟩
  ·obtain⟨k,_,rfl⟩:=aI.mp hx;exact zqC b k
  ·rw[bu,List.pairwise_map];refine j4.imp_of_mem (λ{a c} ha hc hne=>?_) (iU (n:=6));have ha:=eK.mp ha;have hc:=eK.mp hc;exact zvK b (by omega) (by omega) hne
 ·cases e
theorem zjo:∀(ws:List W) {rs:List Int}{sp:Int}{a:Addr}{r:Nat}{S:Sto}{E:WX}{D:WEnds}{x0 x1 x2 x3 x6 x7 x8 x9:Option W},S a=ae (.lst (rs.map W.int))→rs.length+ws.length≤1000→
  (∀(rs':List Int) sp' x6',rs'.length=rs.length+ws.length→D.nx [x0,x1,x2,x3,ae (.int sp'),ae (.ref a),x6',x7,x8,x9] (put S a (.lst (rs'.map W.int))))→
  forL (wGN 6) (zdw r zaR) E D (λ_=>True) ws [x0,x1,x2,x3,ae (.int sp),ae (.ref a),x6,x7,x8,x9] S
 | [],rs,sp,a,r,S,E,D,x0,x1,x2,x3,x6,x7,x8,x9,ha,hl,h=>by
  simp only[forL];have:=h rs sp x6 (by simp);rw[zdT ha]at this;exact this
 |w::ws,rs,sp,a,r,S,E,D,x0,x1,x2,x3,x6,x7,x8,x9,ha,hl,h=>by
  simp only[forL,zdw];walk_at "wp";simp only[aR]at hl h;simp only[zaj ha,true_and];refine⟨by decide,zbM (by simp;omega),⟨by decide,by decide⟩,_, .refl,?_⟩
  refine zjo (r:=r) ws (rs:=rs++[sp % 26]) (by rw[zag];simp) (by simp;omega) λrs' sp' x6' h1=>?_;rw[zbc];exact h rs' sp' x6' (by simp at h1;omega)
theorem zog{c:Prop} [Decidable c] {a b:Prop}(h1:c→a) (h2:¬c→b):if c then a else b:=by split<;>simp_all
theorem zmH{A T:WS}{E:WX}{D:WEnds}{σ:WSt}{S:Sto}(h:∀T',T'=T→zar A T' E D σ S):zar A T E D σ S:=h T rfl
theorem zng{one two:Int}{great:Bool}{r:Nat}{S:Sto}{Q:WK}{E:Str→Sto→Prop}(h:∀(a:Addr) (ws:List Str),S a=none→zlc great ws→Q (.ref a) (put S a (.lst (ws.map W.str)))):zbm (r+1) [.int one, .int two, .bl great] S Q E:=by
 rw[zbm];walk_at "wp";have o0:0≤one % 8:=cP _ (by decide);have o1:one % 8<8:=cZ _ (by decide);refine⟨⟨by decide,by decide,by decide⟩,by decide,aY _,λa ha=>⟨by decide,⟨by omega,by omega⟩,?_⟩⟩
 refine zjo _ (rs:=[]) zag (by simp [zmq];omega) λrs sp x6 hl=>?_;rw[zbc];simp only[c5,zmq,b8]at hl;have hl':(rs.length:Int)=1+one % 8:=by rw[hl];omega
 have p0:0≤one / 8 % (rs.length:Int):=cP _ (by omega);have p1:one / 8 % (rs.length:Int)<(rs.length:Int):=cZ _ (by omega);have B:Base rs (one / 8 % (rs.length:Int)):=⟨by omega,by omega,p0,p1⟩
 walk_at "wp";simp only[aq];refine⟨⟨by decide,by decide⟩,by omega,aY _,λb hb=>⟨⟨by decide,by decide⟩,?_⟩⟩
 obtain⟨hb1,hb2⟩:=zdR hb;generalize hpos:one / 8 % (rs.length:Int)=pos at B p0 p1⊢;refine zpP (λi σ S'=>∃x6 x9,S'=put (put S a (.lst (rs.map W.int))) b (.lst (((aU i).map (wd great rs pos)).map W.str))∧σ=[ae (.int one),ae (.int two),ae (.bl great),ae (.str (bf "abcdefghijklmnopqrstuvwxyz")),ae (.int sp),ae (.ref a),x6,ae (.int pos),ae (.ref b),x9]) 6 ?_ ?_ ⟨x6,none,rfl,rfl⟩
 ·rintro k hk σ S' N ⟨x6,x9,rfl,rfl⟩ hN;have ea:put (put S a (Ob.lst (rs.map W.int))) b (Ob.lst (((aU k).map (wd great rs pos)).map W.str)) a=ae (.lst (rs.map W.int)):=by rw[zaA (bn hb2),zag]
  simp only[zeG];walk_at "wp";rw[zaj ea];simp only[aq];refine⟨⟨by omega,by omega⟩,?_⟩
  rw[bW];refine zaO (λσ=>∃x,σ=[x,ae (.str (bf "abcdefghijklmnopqrstuvwxyz")),ae (.ref a),ae (.int (k:Int)),ae (.int pos)]) (λi:Nat=>W.int (0+(i:Int))) (λi=>W.str ⟨#[lt rs pos k i]⟩) trivial (aU rs.length) [] _ ⟨none,rfl⟩ (by simp;omega) (λi hi σ R hI hR=>?_) ?_
  ·obtain⟨x,rfl⟩:=hI;have hi:=eK.mp hi;simp only[zeB];walk_at "wp";have e:=zbU (xs:=rs.map W.int) (n:=i);rw[show(i:Int)=0+(i:Int) by omega,bt,a8 hi]at e
   rw[zaj ea,e];dsimp only[Option.map];walk_at "wp";have ec:=zxI (n:=(rs[i]+(k:Int)*(if(0+(i:Int) == pos)=true then 1 else 0)) % 26) (cP _ (by decide)) (cZ _ (by decide));rw[ec];have el:lt rs pos k i=97+((rs[i]+(k:Int)*(if(0+(i:Int) == pos)=true then 1 else 0)) % 26).toNat:=by
    unfold lt;rw[br,a8 hi];rfl
   rw[←el];exact⟨.inl ⟨by omega,by omega⟩,by decide,zal (by rw[zwL];decide),hR _ _ ⟨_,rfl⟩ .refl⟩
  ·have es:(aU rs.length).map (λi=>W.str ⟨#[lt rs pos k i]⟩)=(zfv rs pos k).map λc=>W.str ⟨#[c]⟩:=by
    unfold zfv;rw[bj];rfl
   have hw:=zmO B k;rw[a9,es,zhb];refine⟨zpT _ (by rw[zhC];omega),?_⟩;show _;have ew:cS (bf "") ((zfv rs pos k).map λc=>(⟨#[c]⟩:Str))=wd0 rs pos k:=rfl;rw[ew];have hl8:(wd0 rs pos k).length≤8:=by rw[zkW];exact hw.2.1
   have fin:∀z:Str,z=wd great rs pos k→ ∀x9:Option W,N [ae (.int one),ae (.int two),ae (.bl great),ae (.str (bf "abcdefghijklmnopqrstuvwxyz")),ae (.int sp),ae (.ref a),ae (.int (k:Int)),ae (.int pos),ae (.ref b),x9] (put (put S a (.lst (rs.map W.int))) b (.lst (((aU k).map (wd great rs pos)).map W.str++[.str z]))):=λz hz x9=>by
    subst hz;refine hN _ _ _ .refl ⟨_,_,?_,rfl⟩;rw[gz,bD,bD];rfl
   have hxl:(((aU k).map (wd great rs pos)).map W.str).length<sizeLine:=zbM (by simp;omega);cases great with
   |false=>
    try walk_at "wp"
    try simp only[zgA,zbc,true_and]
    exact⟨hxl,fin _ rfl _⟩
   |true=>
    walk_at "wp";rw[zgK,znI pos k B.l1,zje];dsimp only
    try walk_at "wp"
    try simp only[zgA,zbc,true_and]
    refine⟨zal (by omega),?_⟩;have h1:(⟨#[lt rs pos k 0]⟩:Str).length=1:=rfl;have h2:(dm ⟨#[lt rs pos k 0]⟩).length=1:=by rw[zjq (zhU _ _ _ _)];rfl
    have h3:(cL (wd0 rs pos k) (ae 1) none).length≤8:=by
     rw[zkW,zmY,cD,←zkW];omega
    exact⟨by omega,zal (by omega),zal (by omega),hxl,fin _ rfl _⟩
 ·rintro σ S' ⟨x6,x9,rfl,rfl⟩;have eb:put (put S a (Ob.lst (rs.map W.int))) b (Ob.lst (((aU 6).map (wd great rs pos)).map W.str)) b=ae (.lst (((aU 6).map (wd great rs pos)).map W.str)):=zag;walk_at "wp";cases great with
  |true=>
   walk_at "wp";refine⟨⟨by decide,by decide⟩,by decide,?_⟩
   split
   ·exact⟨_, .put2 (.put .refl ha),h b _ hb1 ⟨rs,pos,B, .inl rfl⟩⟩
   ·exact⟨_, .put2 (.put .refl ha),h b _ hb1 ⟨rs,pos,B, .inl rfl⟩⟩
  |false=>
   walk_at "wp";refine⟨⟨by decide,by decide⟩,by decide,?_⟩
   split
   ·have e6:((aU 6).map (wd false rs pos)).map W.str=[.str (wd0 rs pos 0), .str (wd0 rs pos 1), .str (wd0 rs pos 2), .str (wd0 rs pos 3), .str (wd0 rs pos 4), .str (wd0 rs pos 5)]:=rfl;simp only[e6]
    try walk_at "wp"
    have c3:zeo [W.str (wd0 rs pos 0), .str (wd0 rs pos 1), .str (wd0 rs pos 2), .str (wd0 rs pos 3), .str (wd0 rs pos 4), .str (wd0 rs pos 5)] none (ae 3)=[.str (wd0 rs pos 0), .str (wd0 rs pos 1), .str (wd0 rs pos 2)]:=rfl;have a2:atI [W.str (wd0 rs pos 0), .str (wd0 rs pos 1), .str (wd0 rs pos 2), .str (wd0 rs pos 3), .str (wd0 rs pos 4), .str (wd0 rs pos 5)] 2=ae (.str (wd0 rs pos 2)):=rfl;have a5:atI [W.str (wd0 rs pos 0), .str (wd0 rs pos 1), .str (wd0 rs pos 2), .str (wd0 rs pos 3), .str (wd0 rs pos 4), .str (wd0 rs pos 5)] 5=ae (.str (wd0 rs pos 5)):=rfl;simp only[c3,a2,a5]
    try walk_at "wp"
    refine⟨zal (by decide),zal (by decide),λc hc=>?_⟩;obtain⟨hc1,hc2⟩:=zdR hc;obtain⟨hc1,hc3⟩:=zdR hc1;exact⟨_, .put2 (.put (.put .refl ha) hb1),h c _ hc1 ⟨rs,pos,B, .inr ⟨rfl,rfl⟩⟩⟩
   ·exact⟨_, .put2 (.put .refl ha),h b _ hb1 ⟨rs,pos,B, .inl rfl⟩⟩
mutual
noncomputable def Tr.nb:Tr→Nat
 | .bl _=>1
 | .nd _ ts=>nbs ts
noncomputable def nbs:List Tr→Nat
 | []=>0
 |t::ts=>t.nb+nbs ts
end
mutual
theorem zsG:∀(t:Tr) (p:List Int),((t.plt p).filter λx=>x.2.isBl).length=t.nb
 | .bl n,p=>by simp [Tr.plt,Tr.isBl,Tr.nb]
 | .nd s ts,p=>by
  have:=zpN ts p 0;simpa [Tr.plt,Tr.isBl,Tr.nb]using this
theorem zpN:∀(ts:List Tr) (p:List Int) (i:Nat),((zhE p i ts).filter λx=>x.2.isBl).length=nbs ts
 | [],p,i=>by simp [zhE,nbs]
 |t::ts,p,i=>by
  have h1:=zsG t (p++[(i:Int)]);have h2:=zpN ts p (i+1);rw[zhE,jh,aS,h1,h2,nbs]
end
theorem zxz (t:Tr):t.bls.length=t.nb:=zsG t []
theorem zqL:∀ts:List Tr,(ts.map λt=>(t.nb:Int)).sum=(nbs ts:Int)
 | []=>by simp [nbs]
 |t::ts=>by
  rw[aA,i8,zqL ts,nbs];omega
theorem ztt (ts:List Tr):zcf (ts.map λt=>W.int (t.nb:Int))=ae (ts.map λt=>(t.nb:Int)):=by
 have:=zfX (ts.map λt=>(t.nb:Int));rw[bj]at this;exact this
theorem zgH:∀(d:Nat) {t:Tr}{r:Nat}{S:Sto}{Q:WK}{E:Str→Sto→Prop},t.depth≤d→d≤r+1→t.weight≤90000→Q (.int t.nb) S→zaB (r+1) [enc t] S Q E
 |0,t,r,S,Q,E,hd,hr,hw,h=>by have:=zaS t;omega
 |d+1, .bl n,r,S,Q,E,hd,hr,hw,h=>by
  rw[zaB];simp only[enc];walk_at "wp";simp only[Tr.nb]at h;exact⟨S, .refl,h⟩
 |d+1, .nd s ts,r,S,Q,E,hd,hr,hw,h=>by
  simp only[Tr.depth]at hd;simp only[Tr.weight]at hw;have hk:=zcP ts;rw[zaB];simp only[enc];walk_at "wp";rw[zaw];refine zaO (λσ=>∃x,σ=[x]) enc (λt=> .int (t.nb:Int)) trivial ts [] _ ⟨none,rfl⟩ (by simp;omega) (λx hx σ R hI hR=>?_) ?_
  ·obtain⟨y,rfl⟩:=hI;have hdx:=zbA hx;have hwx:=zdc hx;have:=zaS x;obtain⟨r,rfl⟩:∃r',r=r'+1:=⟨r - 1,by omega⟩
   simp only[zdt];walk_at "wp";exact zgH d (t:=x) (r:=r) (by omega) (by omega) (by omega) (hR _ _ ⟨_,rfl⟩ .refl)
  ·rw[a9,ztt];dsimp only;rw[zqL];simp only[Tr.nb]at h;exact⟨S, .refl,h⟩
theorem zmk{w:W}{ws:List W}:zeo (w::ws) none (ae 1)=[w]:=by
 rw[show(1:Int)=((1:Nat):Int) from rfl,ziL];rfl
theorem zfQ{us:List Tr}{a:Addr}:∀(d:Nat) {t:Tr}{r:Nat}{S:Sto}{Q:WK}{E:Str→Sto→Prop},t.depth≤d→d≤r+1→S a=ae (.lst (encs us))→t.fits us.length→t.weight≤90000→Q (enc (t.fill us)) S→zbd (r+1) [enc t, .ref a] S Q E
 |0,t,r,S,Q,E,hd,hr,ha,hf,hw,h=>by have:=zaS t;omega
 |d+1, .bl n,r,S,Q,E,hd,hr,ha,hf,hw,h=>by
  simp only[Tr.fits]at hf;simp only[Tr.fill]at h;rw[zbd];simp only[enc];walk_at "wp";have e:atI (encs us) n=ae (enc (us.getD n.toNat (.bl n))):=by
   have q:=zbU (xs:=encs us) (n:=n.toNat);rw[cw hf.1]at q;rw[q,zaw,bt,br,a8 (by omega)];rfl
  rw[zaj ha,e];exact⟨S, .refl,h⟩
 |d+1, .nd s ts,r,S,Q,E,hd,hr,ha,hf,hw,h=>by
  simp only[Tr.fits]at hf;simp only[Tr.fill]at h;simp only[Tr.depth]at hd;simp only[Tr.weight]at hw;have hk:=zcP ts;rw[zbd];simp only[enc]at h⊢;walk_at "wp";rw[zmk];rw[zaw];refine zaO (λσ=>∃x,σ=[x,ae (.ref a)]) enc (λt=>enc (t.fill us)) trivial ts [] _ ⟨none,rfl⟩ (by simp;omega) (λx hx σ R hI hR=>?_) ?_
  ·obtain⟨y,rfl⟩:=hI;have hdx:=zbA hx;have hwx:=zdc hx;have:=zaS x;obtain⟨r,rfl⟩:∃r',r=r'+1:=⟨r - 1,by omega⟩
   simp only[zek];walk_at "wp";exact zfQ d (t:=x) (r:=r) (by omega) (by omega) ha (zfK hf hx) (by omega) (hR _ _ ⟨_,rfl⟩ .refl)
  ·rw[a9];walk_at "wp";refine⟨zal (by simp;omega),S, .refl,?_⟩;have e:encs (fills us ts)=ts.map λt=>enc (t.fill us):=by rw[zaw,zgR,bj];rfl
   rw[e]at h;exact h
inductive Item (ws:List Str) (m:Nat):Tr→Prop
 |bl {n:Int}:0≤n→n<m→Item ws m (.bl n)
 |nd {s:Str}:s∈ws→Item ws m (.nd s [])
inductive RightT (ws:List Str) (m:Nat):Tr→Prop
 |one {t:Tr}:Item ws m t→RightT ws m t
 |un {s:Str}{t:Tr}:s∈ws→Item ws m t→RightT ws m (.nd s [t])
 |two {s:Str}{t u:Tr}:s∈ws→0<m→Item ws m t→Item ws m u→RightT ws m (.nd s [t,u])
 |deep {s z:Str}{t u:Tr}:s∈ws→z∈ws→0<m→Item ws m t→Item ws m u→RightT ws m (.nd s [.nd z [t],u])
noncomputable def leftsL (n:Nat) (h c d:Str):List Tr:=
 match n with
 |0=>[.nd h [.bl 0]]
 |1=>[.nd h [.bl 0, .bl 1]]
 |2=>[.nd h [.nd c []], .nd h [.nd d [.bl 0]]]
 |3=>[.nd h [.nd c [], .bl 0], .nd h [.nd d [.bl 0], .bl 1]]
 |4=>[.nd h [.nd d [.nd d [.bl 0]], .bl 1, .bl 2], .nd h [.nd d [.nd c []], .bl 0, .bl 1]]
 |_=>[.nd h []]
section
variable {w0 w1 w2 w3 w4 w5:Str}{r:Nat}{S:Sto}{Q:WK}{E:Str→Sto→Prop}{a:Addr}
noncomputable abbrev six (w0 w1 w2 w3 w4 w5:Str):List W:=[.str w0, .str w1, .str w2, .str w3, .str w4, .str w5]
theorem zAQ:atI (six w0 w1 w2 w3 w4 w5) 0=ae (.str w0):=rfl
theorem zAc:atI (six w0 w1 w2 w3 w4 w5) 1=ae (.str w1):=rfl
theorem six2:atI (six w0 w1 w2 w3 w4 w5) 2=ae (.str w2):=rfl
theorem zyA:atI (six w0 w1 w2 w3 w4 w5) 3=ae (.str w3):=rfl
theorem six4:atI (six w0 w1 w2 w3 w4 w5) 4=ae (.str w4):=rfl
theorem zAo:atI (six w0 w1 w2 w3 w4 w5) 5=ae (.str w5):=rfl
theorem zoD{draw:Int}{m:Nat}(ha:S a=ae (.lst (six w0 w1 w2 w3 w4 w5))) (h:∀t,Item [w0,w1,w2,w3,w4,w5] m t→Q (enc t) S):zcA (r+1) [.int draw, .int m, .ref a] S Q E:=by
 rw[zcA];walk_at "wp";have fin:∀w:Str,w∈ [w0,w1,w2,w3,w4,w5]→ ∃S'',Sub S'' S∧Q (.tup [.str w]) S'':=λw hw=>⟨S, .refl,by
  have:=h _ (.nd hw);simpa only[enc,encs]using this⟩
 have pick:∃x:Str,x∈ [w0,w1,w2,w3,w4,w5]∧ ∃i:Int,atI [W.int 2,W.int 5] (draw / 4 % 2)=ae (.int i)∧atI (six w0 w1 w2 w3 w4 w5) i=ae (.str x):=by
  rcases znK (draw / 4) with e |e
  ·exact⟨w2,by simp,2,by rw[e];rfl,rfl⟩
  ·exact⟨w5,by simp,5,by rw[e];rfl,rfl⟩
 obtain⟨x,hx,i,e1,e2⟩:=pick;simp only[e1];walk_at "wp";simp only[zaj ha,e2];have tail:2≤sizeLine∧zio draw 4∧(0:Int)<2∧1≤sizeLine∧ ∃S'',Sub S'' S∧Q (.tup [.str x]) S'':=⟨zal (by decide),⟨by decide,by decide⟩,by decide,zal (by decide),fin x hx⟩
 split
 ·rename_i hm;refine⟨by decide,?_⟩;split
  ·refine⟨⟨by decide,by decide⟩,hm,S, .refl,?_⟩
   have:=h (.bl (draw / 4 % (m:Int))) (.bl (cP _ (by omega)) (cZ _ hm));simpa only[enc]using this
  ·exact tail
 ·exact tail
theorem zsx{draw:Int}{m:Nat}(ha:S a=ae (.lst (six w0 w1 w2 w3 w4 w5))) (h:∀t,RightT [w0,w1,w2,w3,w4,w5] m t→Q (enc t) S):zcJ (r+2) [.int draw, .int m, .ref a] S Q E:=by
 rw[zcJ,zgP];refine⟨rfl,zmH λT hT=>?_⟩;walk_at "wp";refine⟨⟨by decide,by decide⟩,zoD ha λt ht=>?_⟩
 subst hT;refine zmH λT hT=>?_;walk_at "wp";refine⟨⟨by decide,by decide⟩,zoD ha λu hu=>?_⟩
 subst hT;refine zmH λT hT=>?_;walk_at "wp";refine⟨by decide,?_⟩;subst hT;have q1:=h _ (.one ht);have q2:=λ(s:Str) (hs:s∈ [w0,w1,w2,w3,w4,w5])=>h _ (.un hs ht);have q3:=λ(s:Str) (hs:s∈ [w0,w1,w2,w3,w4,w5]) (h0:0<m)=>h _ (.two hs h0 ht hu);have q4:=λ(s:Str) (hs:s∈ [w0,w1,w2,w3,w4,w5]) (h0:0<m)=>h _ (.two hs h0 ht ht);have q5:=λ(s z:Str) (hs:s∈ [w0,w1,w2,w3,w4,w5]) (hz:z∈ [w0,w1,w2,w3,w4,w5]) (h0:0<m)=>h _ (.deep hs hz h0 ht hu);simp only[enc,encs]at q2 q3 q4 q5;have l2:2≤sizeLine:=zal (by decide);have l3:3≤sizeLine:=zal (by decide);refine zmH λT hT=>?_;walk_at "wp";refine zog (λ_=>⟨S, .refl,q1⟩) λ_=>?_;subst hT;refine zmH λT hT=>?_;walk_at "wp";simp only[zaj ha,zyA];refine zog (λ_=>⟨l2,S, .refl,q2 _ (by simp)⟩) λ_=>zog (λ_=>⟨l2,S, .refl,q2 _ (by simp)⟩) λhm=>?_;subst hT;have h0:0<m:=by
  rcases eN m with z |z
  ·rw[z]at hm;exact absurd rfl hm
  ·exact z
 refine zmH λT hT=>?_;walk_at "wp";simp only[zaj ha,six4];refine zog (λ_=>⟨l3,S, .refl,q3 _ (by simp) h0⟩) λ_=>?_;subst hT;refine zmH λT hT=>?_;walk_at "wp";simp only[zaj ha,six4];refine zog (λ_=>⟨l3,S, .refl,q4 _ (by simp) h0⟩) λ_=>?_;subst hT;refine zmH λT hT=>?_;walk_at "wp";simp only[zaj ha,zyA,six4];refine zog (λ_=>⟨l2,l3,S, .refl,q5 _ _ (by simp) (by simp) h0⟩) λ_=>?_;subst hT;refine zmH λT hT=>?_;walk_at "wp";simp only[zaj ha,zAQ];refine zog (λ_=>⟨l2,S, .refl,q2 _ (by simp)⟩) λ_=>?_;subst hT;walk_at "wp";simp only[zaj ha,zAc];exact⟨l3,S, .refl,q3 _ (by simp) h0⟩
theorem zsu{n:Int}{h c d:Str}(H:∀(p:Addr) (k:Nat),S p=none→Q (.ref p) (put S p (.lst (encs (leftsL k h c d))))):zcK (r+1) [.int n, .str h, .str c, .str d] S Q E:=by
 rw[zcK,zgP];refine⟨rfl,?_⟩;have l1:1≤sizeLine:=zal (by decide);have l2:2≤sizeLine:=zal (by decide);have l3:3≤sizeLine:=zal (by decide);have l4:4≤sizeLine:=zal (by decide);refine zmH λT hT=>?_;walk_at "wp";refine zog (λ_=>⟨l2,l1,λp hp=>⟨_, .refl,by simpa only[leftsL,enc,encs]using H p 0 hp⟩⟩) λ_=>?_
 subst hT;refine zmH λT hT=>?_;walk_at "wp";refine zog (λ_=>⟨l3,l1,λp hp=>⟨_, .refl,by simpa only[leftsL,enc,encs]using H p 1 hp⟩⟩) λ_=>?_
 subst hT;refine zmH λT hT=>?_;walk_at "wp";refine zog (λ_=>⟨l1,l2,l2,l2,l2,λp hp=>⟨_, .refl,by simpa only[leftsL,enc,encs]using H p 2 hp⟩⟩) λ_=>?_
 subst hT;refine zmH λT hT=>?_;walk_at "wp";refine zog (λ_=>⟨l1,l3,l2,l3,l2,λp hp=>⟨_, .refl,by simpa only[leftsL,enc,encs]using H p 3 hp⟩⟩) λ_=>?_
 subst hT;refine zmH λT hT=>?_;walk_at "wp";refine zog (λ_=>⟨l2,l2,l4,l1,l2,l4,l2,λp hp=>⟨_, .refl,by simpa only[leftsL,enc,encs]using H p 4 hp⟩⟩) λ_=>?_
 subst hT;walk_at "wp";exact⟨l1,l1,λp hp=>⟨_, .refl,by simpa only[leftsL,enc,encs]using H p 5 hp⟩⟩
end
section
variable {w0 w1 w2 w3 w4 w5:Str}{tt:List Str}{ns:List Int}{aw at' ab al:Addr}{r:Nat}{E:WX}{D:WEnds}{k j:Int}
theorem znc (h6:tt.length=6) (k0:0≤k) (j0:0≤j):∀(ls:List Tr) {i:Nat}{C:List Tn}{S:Sto}{G:Sto→Prop}{x7 x8 x9:Option W},(∀L∈ls,L.depth≤4∧L.weight≤7)→C.length+ls.length≤6→S ab=ae (.lst (C.map zba))→S aw=ae (.lst (six w0 w1 w2 w3 w4 w5))→S at'=ae (.lst (tt.map W.str))→ab≠aw→ab≠at'→
  (∀o,G (put S ab o))→
  (∀(C':List Tn) (x7 x8 x9:Option W),C'.map (λt=>t.2.1)=ls→(C.map (λt=>t.1)=tt.take C.length→(C++C').map (λt=>t.1)=tt.take (C++C').length)→(∀t∈C',RightT [w0,w1,w2,w3,w4,w5] t.2.1.nb t.2.2)→D.nx [ae (.scr ns),ae (.int k),ae (.ref aw),ae (.ref at'),ae (.ref ab),ae (.int j),ae (.ref al),x7,x8,x9] (put S ab (.lst ((C++C').map zba))))→
  forL (wGT (zat (wGN 7) (zat (wGN 8) zbT))) (zdI (r+6) zaR) E D G (zhz i (encs ls)) [ae (.scr ns),ae (.int k),ae (.ref aw),ae (.ref at'),ae (.ref ab),ae (.int j),ae (.ref al),x7,x8,x9] S
 | [],i,C,S,G,x7,x8,x9,hL,hl,hb,hw,ht,n1,n2,hG,h=>by
  simp only[encs,zhz,forL];have:=h [] x7 x8 x9 rfl (λz=>by simpa using z) (λ_ h=>nomatch h)
  rw[bI,zdT hb]at this;exact this
 |L::ls,i,C,S,G,x7,x8,x9,hL,hl,hb,hw,ht,n1,n2,hG,h=>by
  have hLd:=hL L a0;simp only[aR]at hl;simp only[encs,zhz];refine zbj λN hN=>?_;simp only[zdI];walk_at "wp";refine⟨.inl ⟨by decide,by decide⟩,zfP (by omega) λdraw=>zgH 4 hLd.1 (by omega) (by omega) (zsx hw λR hR=>?_)⟩
  try walk_at "wp"
  obtain⟨ti,eti,_⟩:=ztI (ss:=tt) (i:=(C.length:Int)) (by omega) (by omega);simp only[zaj hb,zaj ht,aq,eti,true_and];refine⟨zal (by decide),zbM (by omega),?_⟩;refine hN _ _ (put S ab (.lst ((C++[(ti,L,R)]).map zba))) (by rw[bD];exact .refl) (hG _) ?_;refine znc h6 k0 j0 ls (C:=C++[(ti,L,R)]) (λM hM=>hL M (aK _ hM)) (by simp;omega) zag (by rw[zaA (bn n1)];exact hw) (by rw[zaA (bn n2)];exact ht) n1 n2 (λo=>by rw[zbc];exact hG o) λC' x7 x8 x9 e1 e2 e3=>?_
  rw[zbc];have:=h ((ti,L,R)::C') x7 x8 x9 (by rw[aA,e1]) (λz=>?_) (λt ht'=>?_)
  ·simpa using this
  ·have e:C++[(ti,L,R)]++C'=C++(ti,L,R)::C':=by simp
   rw[e]at e2;refine e2 ?_;rw[bD,z,aS,bK,iQ];congr 1;have e4:(tt.map W.str)[C.length]? =ae (.str ti):=by rw[←zbU];exact eti
   rw[bt]at e4;cases q:tt[C.length]? with
   |none=>rw[q]at e4;cases e4
   |some y=>rw[q]at e4;cases e4;rfl
  ·rcases az.mp ht' with rfl |z
   ·exact hR
   ·exact e3 t z
theorem zkV (n:Nat) (h c d:Str):∀L∈leftsL n h c d,L.depth≤4∧L.weight≤7:=by
 intro L hL;unfold leftsL at hL;split at hL<;>simp only[az,bx,or_false]at hL
 all_goals first
  | (subst hL;simp [Tr.depth,dts,Tr.weight,wts])
  | (rcases hL with rfl |rfl<;>simp [Tr.depth,dts,Tr.weight,wts])
theorem zfo (n:Nat) (h c d:Str):1≤(leftsL n h c d).length∧(leftsL n h c d).length≤2:=by
 unfold leftsL;split<;>simp
noncomputable def hdOf (w0 w1:Str) (j:Nat):Str:=if j=0 then w0 else w1
theorem zvm{S:Sto}{Q:WK}{E:Str→Sto→Prop}(h6:tt.length=6) (k0:0≤k) (hw:S aw=ae (.lst (six w0 w1 w2 w3 w4 w5))) (ht:S at'=ae (.lst (tt.map W.str)))
  (h:∀(p:Addr) (B:List Tn) (n m:Nat),S p=none→B.map (λt=>t.2.1)=leftsL n w0 w2 w3++leftsL m w1 w2 w3→B.map (λt=>t.1)=tt.take B.length→(∀t∈B,RightT [w0,w1,w2,w3,w4,w5] t.2.1.nb t.2.2)→Q (.ref p) (put S p (.lst (B.map zba)))):zcH (r+7) [.scr ns, .int k, .ref aw, .ref at'] S Q E:=by
 rw[show r+7=r+6+1 from rfl,zcH];walk_at "wp";refine⟨aY _,λab hb=>⟨⟨by decide,by decide⟩,?_⟩⟩
 refine zpP (λi σ S'=>∃(B:List Tn) (f:Nat→Nat) (x5 x6 x7 x8 x9:Option W),B.map (λt=>t.2.1)=(aU i).flatMap (λj=>leftsL (f j) (hdOf w0 w1 j) w2 w3)∧B.map (λt=>t.1)=tt.take B.length∧(∀t∈B,RightT [w0,w1,w2,w3,w4,w5] t.2.1.nb t.2.2)∧S'=put S ab (.lst (B.map zba))∧
  σ=[ae (.scr ns),ae (.int k),ae (.ref aw),ae (.ref at'),ae (.ref ab),x5,x6,x7,x8,x9]) 2 ?_ ?_ ⟨[],λ_=>0,none,none,none,none,none,rfl,rfl,(λ_ h=>nomatch h),rfl,rfl⟩
 ·rintro j hj σ S' N ⟨B,f,x5,x6,x7,x8,x9,e1,e2,e3,rfl,rfl⟩ hN;have fw:put S ab (Ob.lst (B.map zba)) aw=ae (.lst (six w0 w1 w2 w3 w4 w5)):=keep hw hb;have ft:put S ab (Ob.lst (B.map zba)) at'=ae (.lst (tt.map W.str)):=keep ht hb;have fb:put S ab (Ob.lst (B.map zba)) ab=ae (.lst (B.map zba)):=zag;have n1:ab≠aw:=λz=>by rw[z,hw]at hb;cases hb
  have n2:ab≠at':=λz=>by rw[z,ht]at hb;cases hb
  have eh:atI (six w0 w1 w2 w3 w4 w5) (j:Int)=ae (.str (hdOf w0 w1 j)):=by
   rcases(show j=0∨j=1 by omega) with rfl |rfl<;>rfl
  simp only[zfI];walk_at "wp";refine zfP (by omega) λdraw=>?_;walk_at "wp";simp only[zaj fw,eh,six2,zyA];refine⟨by decide,zsu λal n hal=>?_⟩;have hl:=zfo n (hdOf w0 w1 j) w2 w3;have hB:B.length≤4:=by
   have:=congrArg dw e1;rw[aq]at this;rcases(show j=0∨j=1 by omega) with rfl |rfl
   ·simp at this;rw[this];simp
   ·simp at this;have:=zfo (f 0) (hdOf w0 w1 0) w2 w3;omega
  have nal:al≠ab:=λz=>by rw[z,fb]at hal;cases hal
  try walk_at "wp"
  refine znc h6 k0 (by omega) (leftsL n (hdOf w0 w1 j) w2 w3) (zkV _ _ _ _) (by omega) (keep fb hal) (keep fw hal) (keep ft hal) n1 n2 (λo=>?_) λC' x7 x8 x9 g1 g2 g3=>?_
  ·rw[zaA nal,zag]
  ·refine hN _ _ (put S ab (.lst ((B++C').map zba))) ?_ ⟨B++C',λi=>if i=j then n else f i,_,_,_,_,_,?_,g2 e2,λt ht'=>?_,rfl,rfl⟩
   ·rw[zmd nal];exact .put .refl (by rw[zaA nal];exact(zdR hal).1)
   ·rw[bD,e1,g1,gz,iF];congr 1
    ·rw[jm,jm];congr 1;refine cC λi hi=>?_;have:=eK.mp hi;dsimp only;rw[if_neg (by omega)]
    ·simp
   ·rcases bq.mp ht' with z |z
    ·exact e3 t z
    ·exact g3 t z
 ·rintro σ S' ⟨B,f,x5,x6,x7,x8,x9,e1,e2,e3,rfl,rfl⟩;walk_at "wp";refine⟨_, .refl,h ab B (f 0) (f 1) hb ?_ e2 e3⟩;rw[e1];simp [gz,hdOf]
end
noncomputable def signB (x:Str):Bool:=decide (1≤x.cps.toList.length)&&(decide (x.cps.toList.length≤8)&&small x.cps.toList)
theorem zpM (xs:List Nat):small xs=true↔ ∀c∈xs,Low c:=by
 unfold small;rw[cY];simp only[zsW,Low,b3,decide_eq_true_eq]
theorem zfJ (x:Str):signB x=true↔zcM x:=by
 unfold signB zcM;rw[b3,b3,decide_eq_true_eq,decide_eq_true_eq,zpM]
theorem zeu{x y:Str}(h:zcM x) (g:zcZ y):x≠y:=by
 rintro rfl;obtain⟨c,r,e,h1,h2,_⟩:=g;have:=h.2.2 c (by rw[e];exact a0);unfold Low at this;omega
mutual
noncomputable def Tr.hd (P:Str→Prop):Tr→Prop
 | .bl _=>False
 | .nd s ts=>P s∧hds P ts
noncomputable def hds (P:Str→Prop):List Tr→Prop
 | []=>True
 |t::ts=>t.hd P∧hds P ts
end
mutual
noncomputable def Tr.hb (P:Str→Prop):Tr→Prop
 | .bl _=>True
 | .nd s ts=>P s∧hbs P ts
noncomputable def hbs (P:Str→Prop):List Tr→Prop
 | []=>True
 |t::ts=>t.hb P∧hbs P ts
end
theorem hds_iff{P:Str→Prop}:∀{ts:List Tr},hds P ts↔ ∀t∈ts,t.hd P
 | []=>by simp [hds]
 |t::ts=>by simp [hds,hds_iff (ts:=ts)]
mutual
theorem zpt{P P':Str→Prop}(h:∀s,P s→P' s):∀(t:Tr),t.hd P→t.hd P'
 | .bl _,q=>by simp [Tr.hd]at q
 | .nd s ts,q=>by
  simp only[Tr.hd]at q⊢;exact⟨h s q.1,zmt h ts q.2⟩
theorem zmt{P P':Str→Prop}(h:∀s,P s→P' s):∀(ts:List Tr),hds P ts→hds P' ts
 | [],_=>by simp [hds]
 |t::ts,q=>by
  simp only[hds]at q⊢;exact⟨zpt h t q.1,zmt h ts q.2⟩
end
mutual
theorem ziZ{P P':Str→Prop}(h:∀s,P s→P' s):∀(t:Tr),t.hb P→t.hb P'
 | .bl _,q=>by simp [Tr.hb]
 | .nd s ts,q=>by
  simp only[Tr.hb]at q⊢;exact⟨h s q.1,zlY h ts q.2⟩
theorem zlY{P P':Str→Prop}(h:∀s,P s→P' s):∀(ts:List Tr),hbs P ts→hbs P' ts
 | [],_=>by simp [hbs]
 |t::ts,q=>by
  simp only[hbs]at q⊢;exact⟨ziZ h t q.1,zlY h ts q.2⟩
end
mutual
theorem zht{P:Str→Prop}{us:List Tr}(hu:∀u∈us,u.hd P):∀(t:Tr),t.hb P→t.fits us.length→(t.fill us).hd P
 | .bl n,h,f=>by
  simp only[Tr.fits]at f;simp only[Tr.fill];rw[br,a8 (show n.toNat<us.length by omega)]
  exact hu _ (fK ..)
 | .nd s ts,h,f=>by
  simp only[Tr.fits]at f;simp only[Tr.hb]at h;simp only[Tr.fill,Tr.hd];exact⟨h.1,znk hu ts h.2 f⟩
theorem znk{P:Str→Prop}{us:List Tr}(hu:∀u∈us,u.hd P):∀(ts:List Tr),hbs P ts→fitss us.length ts→hds P (fills us ts)
 | [],h,f=>by simp [fills,hds]
 |t::ts,h,f=>by
  simp only[fitss]at f;simp only[hbs]at h;simp only[fills,hds];exact⟨zht hu t h.1 f.1,znk hu ts h.2 f.2⟩
end
structure RightW (ws:List Str) (m:Nat) (t:Tr):Prop where
  dp:t.depth≤4
  fits:t.fits m
  hb:∀{P:Str→Prop},(∀x∈ws,P x)→t.hb P
  wt:t.weight≤7
def zwQ (B:List Tn):Prop:=∀t∈B,∀(us:List Tr) (M:Nat),us.length=t.2.1.nb→1≤M→(∀u∈us,u.weight≤M)→(t.2.2.fill us).weight≤2+2*M∧(t.2.1.nb=0→(t.2.2.fill us).weight≤1+M)
structure BookOk (w0 w1 w2 w3 w4 w5:Str) (tt:List Str) (B:List Tn):Prop where
  lf:∃n m:Nat,B.map (λt=>t.2.1)=leftsL n w0 w2 w3++leftsL m w1 w2 w3
  ti:B.map (λt=>t.1)=tt.take B.length
  ri:∀t∈B,RightW [w0,w1,w2,w3,w4,w5] t.2.1.nb t.2.2
structure LeftT (P:Str→Prop) (L:Tr):Prop where
  hb:L.hb P
  fits:L.fits L.nb
  wt:L.weight≤L.nb+3
  dp:L.depth≤4
  nb:L.nb≤3
  nd:∃s ts,L= .nd s ts
  fw:∀us:List Tr,us.length=L.nb→(L.fill us).weight≤3+wts us
  fw0:L.nb=0→(L.fill []).weight≤2
theorem zgI{P:Str→Prop}{n:Nat}{h c d:Str}(hh:P h) (hc:P c) (hd:P d):∀L∈leftsL n h c d,LeftT P L:=by
 unfold leftsL;intro L hL;split at hL<;>simp only[az,bx,or_false]at hL
 all_goals first
  | (subst hL;exact⟨by simp [Tr.hb,hbs,hh,hc,hd],by simp [Tr.fits,fitss,Tr.nb,nbs],by simp [Tr.weight,wts,Tr.nb,nbs],by simp [Tr.depth,dts],by simp [Tr.nb,nbs],⟨_,_,rfl⟩,λus hu=>by rcases us with _ |⟨u,_ |⟨v,_ |⟨x,_ |⟨y,us⟩⟩⟩⟩<;>simp [Tr.nb,nbs,Tr.fill,fills,Tr.weight,wts]at hu⊢ <;>omega,λh0=>by simp [Tr.nb,nbs,Tr.fill,fills,Tr.weight,wts]at h0⊢⟩)
  | (rcases hL with rfl |rfl<;>exact⟨by simp [Tr.hb,hbs,hh,hc,hd],by simp [Tr.fits,fitss,Tr.nb,nbs],by simp [Tr.weight,wts,Tr.nb,nbs],by simp [Tr.depth,dts],by simp [Tr.nb,nbs],⟨_,_,rfl⟩,λus hu=>by rcases us with _ |⟨u,_ |⟨v,_ |⟨x,_ |⟨y,us⟩⟩⟩⟩<;>simp [Tr.nb,nbs,Tr.fill,fills,Tr.weight,wts]at hu⊢ <;>omega,λh0=>by simp [Tr.nb,nbs,Tr.fill,fills,Tr.weight,wts]at h0⊢⟩)
section
variable {w0 w1 w2 w3 w4 w5:Str}{tt:List Str}{B:List Tn}
theorem BookOk.len (b:BookOk w0 w1 w2 w3 w4 w5 tt B):2≤B.length∧B.length≤4:=by
 obtain⟨n,m,e⟩:=b.lf;have h1:=zfo n w0 w2 w3;have h2:=zfo m w1 w2 w3;have e':=congrArg dw e;rw[aq,aS]at e';omega
theorem BookOk.left (b:BookOk w0 w1 w2 w3 w4 w5 tt B) {P:Str→Prop}(h0:P w0) (h1:P w1) (h2:P w2) (h3:P w3) {t:Tn}(ht:t∈B):LeftT P t.2.1:=by
 obtain⟨n,m,e⟩:=b.lf;have:t.2.1∈leftsL n w0 w2 w3++leftsL m w1 w2 w3:=by rw[←e];exact aI.mpr ⟨t,ht,rfl⟩
 rcases bq.mp this with z |z
 ·exact zgI h0 h2 h3 _ z
 ·exact zgI h1 h2 h3 _ z
theorem BookOk.nodup (b:BookOk w0 w1 w2 w3 w4 w5 tt B) (T:Titles tt):(B.map λt=>t.1).Nodup:=by
 rw[b.ti];exact bu.sublist (kz ..) T.nd
theorem BookOk.mem (b:BookOk w0 w1 w2 w3 w4 w5 tt B) {t:Tn}(ht:t∈B):t.1∈tt:=by
 have:t.1∈B.map λt=>t.1:=aI.mpr ⟨t,ht,rfl⟩;rw[b.ti]at this;exact ge this
end
noncomputable def zaZ (B:List Tn) (s:Str):Option Tn:=B.find? λt=>t.1 == s
theorem zcr:∀{B:List Tn}{t:Tn},(B.map λt=>t.1).Nodup→t∈B→zaZ B t.1=ae t
 |u::B,t,hn,ht=>by
  unfold zaZ;rw[aA,dc]at hn;rw[bF];rcases az.mp ht with rfl |ht
  ·simp
  ·have hne:u.1≠t.1:=λz=>hn.1 (by rw[z];exact aI.mpr ⟨t,ht,rfl⟩);have:(u.1 == t.1)=false:=by simpa using hne
   rw[this];exact zcr hn.2 ht
theorem zgZ{B:List Tn}{s:Str}(h:∀t∈B,t.1≠s):zaZ B s=none:=by
 unfold zaZ;rw[List.find?_eq_none];intro t ht;simpa using h t ht
noncomputable def topB (B:List Tn) (s:Str) (n:Nat):Bool:=match zaZ B s with
 |none=>signB s
 |some t=>n == t.2.1.nb
mutual
noncomputable def Tr.way (B:List Tn):Tr→Bool
 | .bl _=>false
 | .nd s ts=>topB B s ts.length&&zhR B ts
noncomputable def zhR (B:List Tn):List Tr→Bool
 | []=>true
 |t::ts=>t.way B&&zhR B ts
end
mutual
noncomputable def Tr.quiet:Tr→Bool
 | .bl _=>false
 | .nd s ts=>signB s&&zhF ts
noncomputable def zhF:List Tr→Bool
 | []=>true
 |t::ts=>t.quiet&&zhF ts
end
theorem ziG (B:List Tn):∀ts:List Tr,zhR B ts=ts.all (Tr.way B)
 | []=>by simp [zhR]
 |t::ts=>by simp [zhR,ziG B ts]
mutual
theorem zhS:∀t:Tr,t.hd zcM→t.quiet=true
 | .bl n,h=>by simp [Tr.hd]at h
 | .nd s ts,h=>by
  simp only[Tr.hd]at h;rw[Tr.quiet,(zfJ s).mpr h.1,zhj ts h.2];rfl
theorem zhj:∀ts:List Tr,hds zcM ts→zhF ts=true
 | [],h=>by simp [zhF]
 |t::ts,h=>by
  simp only[hds]at h;rw[zhF,zhS t h.1,zhj ts h.2];rfl
end
mutual
theorem zir{B:List Tn}(hB:∀t∈B,zcZ t.1) {us:List Tr}(hu:∀u∈us,u.way B=true):∀(t:Tr),t.hb zcM→t.fits us.length→(t.fill us).way B=true
 | .bl n,h,f=>by
  simp only[Tr.fits]at f;simp only[Tr.fill];rw[br,a8 (show n.toNat<us.length by omega)]
  exact hu _ (fK ..)
 | .nd s ts,h,f=>by
  simp only[Tr.fits]at f;simp only[Tr.hb]at h;simp only[Tr.fill,Tr.way];rw[zkh hB hu ts h.2 f,topB,zgZ λt ht=>(zeu h.1 (hB t ht)).symm,(zfJ s).mpr h.1];rfl
theorem zkh{B:List Tn}(hB:∀t∈B,zcZ t.1) {us:List Tr}(hu:∀u∈us,u.way B=true):∀(ts:List Tr),hbs zcM ts→fitss us.length ts→zhR B (fills us ts)=true
 | [],h,f=>by simp [fills,zhR]
 |t::ts,h,f=>by
  simp only[fitss]at f;simp only[hbs]at h;rw[fills,zhR,zir hB hu t h.1 f.1,zkh hB hu ts h.2 f.2];rfl
end
inductive Pl where
  |nd (k bits:Int) (head:Str) (ps:List Pl)
mutual
noncomputable def Pl.wt:Pl→Nat
 | .nd _ _ _ ps=>1+pwts ps
noncomputable def pwts:List Pl→Nat
 | []=>0
 |p::ps=>p.wt+pwts ps
end
mutual
noncomputable def Pl.dp:Pl→Nat
 | .nd _ _ _ ps=>1+zoa ps
noncomputable def zoa:List Pl→Nat
 | []=>0
 |p::ps=>max p.dp (zoa ps)
end
mutual
noncomputable def Pl.nt:Pl→Nat
 | .nd k _ _ ps=>(if k<0 then 0 else 1)+pnts ps
noncomputable def pnts:List Pl→Nat
 | []=>0
 |p::ps=>p.nt+pnts ps
end
inductive PlOk (ws:List Str) (B:List Tn):Pl→Prop
 |sign {b:Int}{h:Str}{ps:List Pl}:h∈ws→(∀p∈ps,PlOk ws B p)→PlOk ws B (.nd (-1) b h ps)
 |turn {k:Nat}{b:Int}{h:Str}{ps:List Pl}{t:Tn}:B[k]? =ae t→ps.length=t.2.1.nb→0≤b→b<8→(∀p∈ps,PlOk ws B p)→PlOk ws B (.nd k b h ps)
mutual
noncomputable def Pl.ev (B:List Tn) (c:Int→Nat):Pl→Tr
 | .nd k b h ps=>if k<0 then .nd h (evs B c ps) else match c b with
  |0=>(B.getD k.toNat (h, .bl 0, .bl 0)).2.1.fill (evs B c ps)
  |1=> .nd (B.getD k.toNat (h, .bl 0, .bl 0)).1 (evs B c ps)
  |_=>(B.getD k.toNat (h, .bl 0, .bl 0)).2.2.fill (evs B c ps)
noncomputable def evs (B:List Tn) (c:Int→Nat):List Pl→List Tr
 | []=>[]
 |p::ps=>p.ev B c::evs B c ps
end
theorem zkS (B:List Tn) (c:Int→Nat):∀ps:List Pl,evs B c ps=ps.map (Pl.ev B c)
 | []=>by simp [evs]
 |p::ps=>by simp [evs,zkS B c ps]
theorem zcw:∀ps qs:List Pl,pwts (ps++qs)=pwts ps+pwts qs
 | [],qs=>by simp [pwts]
 |p::ps,qs=>by simp [pwts,zcw ps qs];omega
theorem zbX:∀ps qs:List Pl,pnts (ps++qs)=pnts ps+pnts qs
 | [],qs=>by simp [pnts]
 |p::ps,qs=>by simp [pnts,zbX ps qs];omega
theorem zgz{p:Pl}:∀{ps:List Pl},p∈ps→p.dp≤zoa ps
 |q::ps,h=>by
  rcases az.mp h with rfl |h
  ·simp [zoa];omega
  ·have:=zgz h;simp [zoa];omega
mutual
theorem zne:∀p:Pl,p.dp≤p.wt
 | .nd k b h ps=>by have:=zpD ps;simp [Pl.dp,Pl.wt];omega
theorem zpD:∀ps:List Pl,zoa ps≤pwts ps
 | []=>by simp [zoa]
 |p::ps=>by have:=zne p;have:=zpD ps;simp [zoa,pwts];omega
end
theorem zup (p:Pl):1≤p.dp:=by cases p;simp [Pl.dp]
theorem zvn (p:Pl):1≤p.wt:=by cases p;simp [Pl.wt]
theorem zaX{B:List Tn}{c:Int→Nat}{b:Int}{h:Str}{ps:List Pl}:(Pl.nd (-1) b h ps).ev B c= .nd h (ps.map (Pl.ev B c)):=by
 rw[Pl.ev,if_pos (by decide),zkS]
noncomputable def evT (t:Tn) (n:Nat) (us:List Tr):Tr:=match n with
 |0=>t.2.1.fill us
 |1=> .nd t.1 us
 |_=>t.2.2.fill us
theorem zaL{B:List Tn}{c:Int→Nat}{b:Int}{h:Str}{ps:List Pl}{k:Nat}{t:Tn}(e:B[k]? =ae t):(Pl.nd k b h ps).ev B c=evT t (c b) (ps.map (Pl.ev B c)):=by
 rw[Pl.ev,if_neg (by omega),zkS,bW,br,e];rfl
section
variable {ws:List Str}{m:Nat}{t:Tr}
theorem zcW (h:Item ws m t):t.depth=1:=by
 cases h<;>simp [Tr.depth,dts]
theorem zlC (h:RightT ws m t):t.depth≤3:=by
 cases h with
 |one h=>rw[zcW h];decide
 |un hs h=>simp [Tr.depth,dts,zcW h]
 |two hs h0 h h'=>simp [Tr.depth,dts,zcW h,zcW h']
 |deep hs hz h0 h h'=>simp [Tr.depth,dts,zcW h,zcW h']
theorem zdz (h:Item ws m t):t.fits m:=by
 cases h with
 |bl h0 h1=>exact⟨h0,h1⟩
 |nd hs=>simp [Tr.fits,fitss]
theorem znC (h:RightT ws m t):t.fits m:=by
 cases h with
 |one h=>exact zdz h
 |un hs h=>simp [Tr.fits,fitss,zdz h]
 |two hs h0 h h'=>simp [Tr.fits,fitss,zdz h,zdz h']
 |deep hs hz h0 h h'=>simp [Tr.fits,fitss,zdz h,zdz h']
theorem zgb{P:Str→Prop}(hP:∀x∈ws,P x) (h:Item ws m t):t.hb P:=by
 cases h with
 |bl h0 h1=>simp [Tr.hb]
 |nd hs=>simp [Tr.hb,hbs,hP _ hs]
theorem zrR{P:Str→Prop}(hP:∀x∈ws,P x) (h:RightT ws m t):t.hb P:=by
 cases h with
 |one h=>exact zgb hP h
 |un hs h=>simp [Tr.hb,hbs,zgb hP h,hP _ hs]
 |two hs h0 h h'=>simp [Tr.hb,hbs,zgb hP h,zgb hP h',hP _ hs]
 |deep hs hz h0 h h'=>simp [Tr.hb,hbs,zgb hP h,zgb hP h',hP _ hs,hP _ hz]
theorem zcG (h:Item ws m t):t.weight=1:=by
 cases h<;>simp [Tr.weight,wts]
theorem zkf (h:RightT ws m t):t.weight≤4:=by
 cases h with
 |one h=>rw[zcG h];decide
 |un hs h=>simp [Tr.weight,wts,zcG h]
 |two hs h0 h h'=>simp [Tr.weight,wts,zcG h,zcG h']
 |deep hs hz h0 h h'=>simp [Tr.weight,wts,zcG h,zcG h']
theorem zdE (h:Item ws m t) {us:List Tr}{M:Nat}(hl:us.length=m) (hM:1≤M) (hu:∀u∈us,u.weight≤M):(t.fill us).weight≤M:=by
 cases h with
 | @bl n h0 h1=>
  simp only[Tr.fill];rw[br,a8 (show n.toNat<us.length by omega)]
  exact hu _ (fK ..)
 |nd hs=>simp [Tr.fill,fills,Tr.weight,wts];omega
theorem znR (h:RightT ws m t) {us:List Tr}{M:Nat}(hl:us.length=m) (hM:1≤M) (hu:∀u∈us,u.weight≤M):(t.fill us).weight≤2+2*M∧(m=0→(t.fill us).weight≤1+M):=by
 cases h with
 |one h=>
  have:=zdE h hl hM hu;omega
 |un hs h=>
  have:=zdE h hl hM hu;simp only[Tr.fill,fills,Tr.weight,wts];omega
 |two hs h0 h h'=>
  have:=zdE h hl hM hu;have:=zdE h' hl hM hu;simp only[Tr.fill,fills,Tr.weight,wts];omega
 |deep hs hz h0 h h'=>
  have:=zdE h hl hM hu;have:=zdE h' hl hM hu;simp only[Tr.fill,fills,Tr.weight,wts];omega
end
theorem RightT.w{ws:List Str}{m:Nat}{t:Tr}(h:RightT ws m t):RightW ws m t:=⟨Nat.le_succ_of_le (zlC h),znC h,λhP=>zrR hP h,aX (zkf h) (by decide)⟩
theorem zvc{ws:List Str}{B:List Tn}(h:∀t∈B,RightT ws t.2.1.nb t.2.2):zwQ B:=λt ht us M hl hM hu=>znR (h t ht) hl hM hu
structure BkOk (ws hs:List Str) (B:List Tn):Prop where
  ti:∀t∈B,zcZ t.1
  nd:(B.map λt=>t.1).Nodup
  sg:∀x∈ws,zcM x
  sb:∀x∈hs,x∈ws
  lf:∀t∈B,LeftT zcM t.2.1
  ri:∀t∈B,RightW ws t.2.1.nb t.2.2
theorem BookOk.bk{w0 w1 w2 w3 w4 w5:Str}{tt:List Str}{B:List Tn}(b:BookOk w0 w1 w2 w3 w4 w5 tt B) (T:Titles tt) (G:Signs w0 w1 w2 w3 w4 w5):BkOk [w0,w1,w2,w3,w4,w5] [w2,w3,w4,w5] B:=
 ⟨λt ht=>T.ok _ (b.mem ht),b.nodup T,G.ok,λx hx=>aK _ (aK _ hx),λt ht=>b.left (G.ok _ (by simp)) (G.ok _ (by simp)) (G.ok _ (by simp)) (G.ok _ (by simp)) ht,b.ri⟩
section
variable {ws hs:List Str}{B:List Tn}{c:Int→Nat}
theorem ztn (b:BkOk ws hs B) {p:Pl}(h:PlOk hs B p):(p.ev B c).way B=true:=by
 induction h with
 | @sign b' h ps hh hp ih=>
  rw[zaX,Tr.way,topB,zgZ λt ht=>(zeu (b.sg h (b.sb h hh)) (b.ti t ht)).symm,ziG,(zfJ h).mpr (b.sg h (b.sb h hh))];simp only[List.all_map,iT,cY];exact λp hp=>ih p hp
 | @turn k b' h ps t e hl b0 b1 hp ih=>
  have ht:t∈B:=aV e;have hu:∀u∈ps.map (Pl.ev B c),u.way B=true:=λu hu=>by
   obtain⟨p,hp,rfl⟩:=aI.mp hu;exact ih p hp
  rw[zaL e];unfold evT;split
  ·exact zir b.ti hu _ (b.lf t ht).hb (by rw[aq,hl];exact(b.lf t ht).fits)
  ·rw[Tr.way,topB,zcr b.nd ht,ziG];simp only[aq,hl,beq_self_eq_true,iT,cY];exact hu
  ·exact zir b.ti hu _ ((b.ri t ht).hb b.sg) (by rw[aq,hl];exact(b.ri t ht).fits)
theorem zyk (b:BkOk ws hs B) {P:Str→Prop}(hP:∀s,zcM s→P s) (hc:(∃b,0≤b∧b<8∧c b=1)→ ∀t∈B,P t.1) {p:Pl}(h:PlOk hs B p):(p.ev B c).hd P:=by
 induction h with
 | @sign b' h ps hh hp ih=>
  rw[zaX,Tr.hd,hds_iff];refine⟨hP _ (b.sg h (b.sb h hh)),λt ht=>?_⟩;obtain⟨p,hp,rfl⟩:=aI.mp ht;exact ih p hp
 | @turn k b' h ps t e hl b0 b1 hp ih=>
  have ht:t∈B:=aV e;have hu:∀u∈ps.map (Pl.ev B c),u.hd P:=λu hu=>by
   obtain⟨p,hp,rfl⟩:=aI.mp hu;exact ih p hp
  rw[zaL e];unfold evT;split
  ·exact zht hu _ (ziZ hP _ (b.lf t ht).hb) (by rw[aq,hl];exact(b.lf t ht).fits)
  ·rename_i ec;rw[Tr.hd,hds_iff];exact⟨hc ⟨b',b0,b1,ec⟩ t ht,hu⟩
  ·exact zht hu _ (ziZ hP _ ((b.ri t ht).hb b.sg)) (by rw[aq,hl];exact(b.ri t ht).fits)
theorem zjd{p:Pl}:∀{ps:List Pl},p∈ps→p.nt≤pnts ps
 |q::ps,h=>by
  rcases az.mp h with rfl |h
  ·simp [pnts]
  ·have:=zjd h;simp [pnts];omega
theorem zlV{p:Pl}:∀{ps:List Pl},p∈ps→p.wt≤pwts ps
 |q::ps,h=>by
  rcases az.mp h with rfl |h
  ·simp [pwts]
  ·have:=zlV h;simp [pwts];omega
theorem zeJ (n:Nat):1≤2 ^ n:=Nat.one_le_two_pow
mutual
theorem zhr:∀t:Tr,(t.fill []).depth=t.depth
 | .bl n=>by simp [Tr.fill]
 | .nd s ts=>by simp [Tr.fill,Tr.depth,zgr ts]
theorem zgr:∀ts:List Tr,dts (fills [] ts)=dts ts
 | []=>by simp [fills]
 |t::ts=>by simp [fills,dts,zhr t,zgr ts]
end
end
mutual
noncomputable def Tr.mk (B:List Tn) (g:Tn→Tr):Tr→Tr
 | .bl n=> .bl n
 | .nd s ts=>match zaZ B s with
  |none=> .nd s (mks B g ts)
  |some t=>(g t).fill (mks B g ts)
noncomputable def mks (B:List Tn) (g:Tn→Tr):List Tr→List Tr
 | []=>[]
 |t::ts=>t.mk B g::mks B g ts
end
theorem zgU (B:List Tn) (g:Tn→Tr):∀ts:List Tr,mks B g ts=ts.map (Tr.mk B g)
 | []=>by simp [mks]
 |t::ts=>by simp [mks,zgU B g ts]
theorem zly{B:List Tn}{g:Tn→Tr}{s:Str}{ts:List Tr}(h:zaZ B s=none):(Tr.nd s ts).mk B g= .nd s (ts.map (Tr.mk B g)):=by
 rw[Tr.mk,h,zgU]
theorem zlJ{B:List Tn}{g:Tn→Tr}{s:Str}{ts:List Tr}{t:Tn}(h:zaZ B s=ae t):(Tr.nd s ts).mk B g=(g t).fill (ts.map (Tr.mk B g)):=by
 rw[Tr.mk,h,zgU]
theorem zbe{B:List Tn}(hB:∀t∈B,zcZ t.1) {s:Str}(h:zcM s):zaZ B s=none:=zgZ λt ht=>(zeu h (hB t ht)).symm
mutual
theorem znq{B:List Tn}{g:Tn→Tr}(hB:∀t∈B,zcZ t.1):∀t:Tr,t.hd zcM→t.mk B g=t
 | .bl n,h=>by simp [Tr.hd]at h
 | .nd s ts,h=>by
  simp only[Tr.hd]at h;rw[Tr.mk,zbe hB h.1,zjD hB ts h.2]
theorem zjD{B:List Tn}{g:Tn→Tr}(hB:∀t∈B,zcZ t.1):∀ts:List Tr,hds zcM ts→mks B g ts=ts
 | [],h=>by simp [mks]
 |t::ts,h=>by
  simp only[hds]at h;rw[mks,znq hB t h.1,zjD hB ts h.2]
end
mutual
theorem ziD{B:List Tn}{g:Tn→Tr}(hB:∀t∈B,zcZ t.1) {us:List Tr}:∀t:Tr,t.hb zcM→t.fits us.length→(t.fill us).mk B g=t.fill (us.map (Tr.mk B g))
 | .bl n,h,f=>by
  simp only[Tr.fits]at f;simp only[Tr.fill];rw[br,br,bt,a8 (show n.toNat<us.length by omega)]
  rfl
 | .nd s ts,h,f=>by
  simp only[Tr.hb]at h;simp only[Tr.fits]at f;simp only[Tr.fill];rw[Tr.mk,zbe hB h.1];simp only[];rw[zlT hB ts h.2 f]
theorem zlT{B:List Tn}{g:Tn→Tr}(hB:∀t∈B,zcZ t.1) {us:List Tr}:∀ts:List Tr,hbs zcM ts→fitss us.length ts→mks B g (fills us ts)=fills (us.map (Tr.mk B g)) ts
 | [],h,f=>by simp [fills,mks]
 |t::ts,h,f=>by
  simp only[hbs]at h;simp only[fitss]at f;rw[fills,mks,fills,ziD hB t h.1 f.1,zlT hB ts h.2 f.2]
end
section
variable {ws hs:List Str}{B:List Tn}{c d:Int→Nat}
theorem zwm (b:BkOk ws hs B) {g:Tn→Tr}(hg:∀t∈B,∀x:Int,0≤x→x<8→c x=1→ ∀us,(g t).fill us=evT t (d x) us) (h0:∀x:Int,0≤x→x<8→c x≠1→d x=c x) {p:Pl}(h:PlOk hs B p):(p.ev B c).mk B g=p.ev B d:=by
 induction h with
 | @sign b' h ps hh hp ih=>
  rw[zaX,zaX,zly (zbe b.ti (b.sg h (b.sb h hh))),bj];congr 1;exact cC λp hp=>ih p hp
 | @turn k b' h ps t e hl b0 b1 hp ih=>
  have ht:t∈B:=aV e;have em:(ps.map (Pl.ev B c)).map (Tr.mk B g)=ps.map (Pl.ev B d):=by
   rw[bj];exact cC λp hp=>ih p hp
  rw[zaL e,zaL e];by_cases hc:c b'=1
  ·rw[←hg t ht b' b0 b1 hc,hc];show(Tr.nd t.1 _).mk B g=_;rw[zlJ (zcr b.nd ht),em]
  ·rw[h0 b' b0 b1 hc];unfold evT;split
   ·rw[ziD b.ti _ (b.lf t ht).hb (by rw[aq,hl];exact(b.lf t ht).fits),em]
   ·rename_i z;exact absurd z hc
   ·rw[ziD b.ti _ ((b.ri t ht).hb b.sg) (by rw[aq,hl];exact(b.ri t ht).fits),em]
noncomputable def zgs (c:Int→Nat):Int→Nat:=λx=>if c x=1 then 0 else c x
noncomputable def zbt (c:Int→Nat):Int→Nat:=λx=>if c x=1 then 2 else c x
theorem zeC (b:BkOk ws hs B) {p:Pl}(h:PlOk hs B p):(p.ev B c).mk B (λt=>t.2.1)=p.ev B (zgs c):=
 zwm b (λt ht x _ _ hx us=>by rw[zgs,if_pos hx];rfl) (λx _ _ hx=>by rw[zgs,if_neg hx]) h
theorem zdg (b:BkOk ws hs B) {p:Pl}(h:PlOk hs B p):(p.ev B c).mk B (λt=>t.2.2)=p.ev B (zbt c):=
 zwm b (λt ht x _ _ hx us=>by rw[zbt,if_pos hx];rfl) (λx _ _ hx=>by rw[zbt,if_neg hx]) h
theorem zfV{p:Pl}(h:PlOk hs B p) (hc:∀x:Int,0≤x→x<8→c x=d x):p.ev B c=p.ev B d:=by
 induction h with
 | @sign b' h ps hh hp ih=>
  rw[zaX,zaX];congr 1;exact cC λp hp=>ih p hp
 | @turn k b' h ps t e hl b0 b1 hp ih=>
  rw[zaL e,zaL e,hc b' b0 b1];congr 1;exact cC λp hp=>ih p hp
end
theorem zmA{n:Nat}{h c d:Str}{L:Tr}(hL:L∈leftsL n h c d) {us:List Tr}(hu:us.length=L.nb):L.mt (L.fill us)=ae us:=by
 unfold leftsL at hL;split at hL<;>simp only[az,bx,or_false]at hL
 all_goals first
  | (subst hL;rcases us with _ |⟨u,_ |⟨v,_ |⟨x,_ |⟨y,us⟩⟩⟩⟩<;>simp [Tr.nb,nbs,Tr.fill,fills,Tr.mt,mts]at hu⊢ <;>omega)
  | (rcases hL with rfl |rfl<;>rcases us with _ |⟨u,_ |⟨v,_ |⟨x,_ |⟨y,us⟩⟩⟩⟩<;>simp [Tr.nb,nbs,Tr.fill,fills,Tr.mt,mts]at hu⊢ <;>omega)
def zyb (B:List Tn):Prop:=∀t∈B,∀us:List Tr,us.length=t.2.1.nb→t.2.1.mt (t.2.1.fill us)=ae us
theorem BookOk.mt{w0 w1 w2 w3 w4 w5:Str}{tt:List Str}{B:List Tn}(b:BookOk w0 w1 w2 w3 w4 w5 tt B):zyb B:=λt ht us hu=>by
 obtain⟨n,m,e⟩:=b.lf;have:t.2.1∈leftsL n w0 w2 w3++leftsL m w1 w2 w3:=by rw[←e];exact aI.mpr ⟨t,ht,rfl⟩
 rcases bq.mp this with z |z
 ·exact zmA z hu
 ·exact zmA z hu
mutual
inductive Mv (B:List Tn):Nat→Tr→Tr→Tr→Prop
 |nn {n:Nat}{s z:Str}{ts us cs:List Tr}:zaZ B s=none→zaZ B z=none→Mvs B n ts us cs→Mv B (n+1) (.nd s ts) (.nd z us) (.nd s cs)
 |ns {n:Nat}{s z:Str}{ts us cs ms:List Tr}{t:Tn}:zaZ B s=none→zaZ B z=ae t→t.2.1.mt (.nd s ts)=ae ms→cs.length=t.2.1.nb→Mvs B n ms us cs→Mv B (n+1) (.nd s ts) (.nd z us) (t.2.2.fill cs)
 |sn {n:Nat}{s z:Str}{ts us cs ms:List Tr}{t:Tn}:zaZ B s=ae t→zaZ B z=none→t.2.1.mt (.nd z us)=ae ms→Mvs B n ts ms cs→Mv B (n+1) (.nd s ts) (.nd z us) (.nd s cs)
 |ss {n:Nat}{s z:Str}{ts us cs:List Tr}{t t':Tn}:zaZ B s=ae t'→zaZ B z=ae t→cs.length=t.2.1.nb→Mvs B n ts us cs→Mv B (n+1) (.nd s ts) (.nd z us) (t.2.2.fill cs)
inductive Mvs (B:List Tn):Nat→List Tr→List Tr→List Tr→Prop
 |nil {n:Nat}:Mvs B n [] [] []
 |cons {n:Nat}{a b c:Tr}{as bs cs:List Tr}:Mv B n a b c→Mvs B n as bs cs→Mvs B n (a::as) (b::bs) (c::cs)
end
mutual
theorem Mv.monoA{B:List Tn}:∀{n:Nat}{a b c:Tr},Mv B n a b c→ ∀m,n≤m→Mv B m a b c
 |_,_,_,_, .nn h1 h2 h3=>λm h=>by
  obtain⟨m,rfl⟩:∃m',m=m'+1:=⟨m - 1,by omega⟩
  exact .nn h1 h2 (Mvs.monoA h3 m (by omega))
 |_,_,_,_, .ns h1 h2 h3 h4 h5=>λm h=>by
  obtain⟨m,rfl⟩:∃m',m=m'+1:=⟨m - 1,by omega⟩
  exact .ns h1 h2 h3 h4 (Mvs.monoA h5 m (by omega))
 |_,_,_,_, .sn h1 h2 h3 h4=>λm h=>by
  obtain⟨m,rfl⟩:∃m',m=m'+1:=⟨m - 1,by omega⟩
  exact .sn h1 h2 h3 (Mvs.monoA h4 m (by omega))
 |_,_,_,_, .ss h1 h2 h3 h4=>λm h=>by
  obtain⟨m,rfl⟩:∃m',m=m'+1:=⟨m - 1,by omega⟩
  exact .ss h1 h2 h3 (Mvs.monoA h4 m (by omega))
theorem Mvs.monoA{B:List Tn}:∀{n:Nat}{a b c:List Tr},Mvs B n a b c→ ∀m,n≤m→Mvs B m a b c
 |_,_,_,_, .nil=>λ_ _=> .nil
 |_,_,_,_, .cons h1 h2=>λm h=> .cons (Mv.monoA h1 m h) (Mvs.monoA h2 m h)
end
theorem Mv.mono{B:List Tn}{n m:Nat}{a b c:Tr}(h:n≤m) (M:Mv B n a b c):Mv B m a b c:=Mv.monoA M m h
theorem Mvs.mono{B:List Tn}{n m:Nat}{a b c:List Tr}(h:n≤m) (M:Mvs B n a b c):Mvs B m a b c:=Mvs.monoA M m h
theorem Mvs.get{B:List Tn}{n:Nat}:∀{as bs cs:List Tr}{i:Nat},Mvs B n as bs cs→i<cs.length→ ∃a b c,as[i]? =ae a∧bs[i]? =ae b∧cs[i]? =ae c∧Mv B n a b c
 |_,_,_,i, .nil,h=>by simp at h
 |_,_,_,0, .cons h1 _,h=>⟨_,_,_,rfl,rfl,rfl,h1⟩
 |_,_,_,i+1, .cons _ h2,h=>by
  obtain⟨a,b,c,e1,e2,e3,q⟩:=Mvs.get (i:=i) h2 (by simpa using h);exact⟨a,b,c,by simpa using e1,by simpa using e2,by simpa using e3,q⟩
theorem Mvs.of{B:List Tn}{n:Nat}{α:Type}{f g h:α→Tr}:∀(xs:List α),(∀x∈xs,Mv B n (f x) (g x) (h x))→Mvs B n (xs.map f) (xs.map g) (xs.map h)
 | [],_=> .nil
 |x::xs,q=> .cons (q x a0) (Mvs.of xs λy hy=>q y (aK _ hy))
mutual
theorem zli{B:List Tn}(hB:∀t∈B,zcZ t.1) {n:Nat}{us vs cs:List Tr}(h:Mvs B n us vs cs):∀t:Tr,t.hb zcM→t.fits cs.length→Mv B (n+t.depth) (t.fill us) (t.fill vs) (t.fill cs)
 | .bl k,q,f=>by
  simp only[Tr.fits]at f;obtain⟨a,b,c,e1,e2,e3,m⟩:=h.get (i:=k.toNat) (by omega);simp only[Tr.fill,br,e1,e2,e3,dq];exact m.mono (by omega)
 | .nd s ts,q,f=>by
  simp only[Tr.hb]at q;simp only[Tr.fits]at f;have:=zni hB h ts q.2 f;simp only[Tr.fill,Tr.depth];rw[show n+(1+dts ts)=n+dts ts+1 by omega]
  exact .nn (zbe hB q.1) (zbe hB q.1) this
theorem zni{B:List Tn}(hB:∀t∈B,zcZ t.1) {n:Nat}{us vs cs:List Tr}(h:Mvs B n us vs cs):∀ts:List Tr,hbs zcM ts→fitss cs.length ts→Mvs B (n+dts ts) (fills us ts) (fills vs ts) (fills cs ts)
 | [],q,f=>by simp only[fills];exact .nil
 |t::ts,q,f=>by
  simp only[hbs]at q;simp only[fitss]at f;have h1:=zli hB h t q.1 f.1;have h2:=zni hB h ts q.2 f.2;simp only[fills,dts];exact .cons (h1.mono (by omega)) (h2.mono (by omega))
end
noncomputable def zkP (c d:Int→Nat):Int→Nat:=λx=>if d x=1 then 2 else c x
theorem ziF{ws hs:List Str}{B:List Tn}{c d:Int→Nat}(b:BkOk ws hs B) (hm:zyb B) (hc:∀x:Int,0≤x→x<8→(c x≤1∧d x≤1)∨(c x=2∧d x=2)) {p:Pl}(h:PlOk hs B p):Mv B (p.dp+3*p.nt) (p.ev B c) (p.ev B d) (p.ev B (zkP c d)):=by
 induction h with
 | @sign b' h ps hh hp ih=>
  rw[zaX,zaX,zaX,Pl.dp,Pl.nt,if_pos (by decide),show 1+zoa ps+3*(0+pnts ps)=zoa ps+3*pnts ps+1 by omega]
  refine .nn (zbe b.ti (b.sg h (b.sb h hh))) (zbe b.ti (b.sg h (b.sb h hh))) (.of ps λp hp=>(ih p hp).mono ?_);have:=zgz hp;have:=zjd hp;omega
 | @turn k b' h ps t e hl b0 b1 hp ih=>
  have ht:t∈B:=aV e;have en:(Pl.nd k b' h ps).nt=1+pnts ps:=by rw[Pl.nt,if_neg (by omega)]
  have M:Mvs B (zoa ps+3*pnts ps) (ps.map (Pl.ev B c)) (ps.map (Pl.ev B d)) (ps.map (Pl.ev B (zkP c d))):= .of ps λp hp=>(ih p hp).mono (by
   have:=zgz hp;have:=zjd hp;omega)
  have lc:(ps.map (Pl.ev B (zkP c d))).length=t.2.1.nb:=by rw[aq,hl]
  have l1:(ps.map (Pl.ev B c)).length=t.2.1.nb:=by rw[aq,hl]
  have l2:(ps.map (Pl.ev B d)).length=t.2.1.nb:=by rw[aq,hl]
  have tt:=zcr b.nd ht;have L:=b.lf t ht;have R:=b.ri t ht;have hd:=L.dp;rw[zaL e,zaL e,zaL e,Pl.dp,en,show 1+zoa ps+3*(1+pnts ps)=zoa ps+3*pnts ps+3+1 by omega]
  have lsign:∀us,∃s ts,t.2.1.fill us= .nd s ts∧zaZ B s=none:=λus=>by
   obtain⟨s,ts,el⟩:=L.nd;have hb:=L.hb;rw[el,Tr.hb]at hb;exact⟨s,fills us ts,by rw[el,Tr.fill],zbe b.ti hb.1⟩
  have hp:zkP c d b'=if d b'=1 then 2 else c b':=rfl;rw[hp];rcases hc b' b0 b1 with⟨c1,d1⟩ |⟨c2,d2⟩
  ·by_cases dz:d b'=1
   ·rw[if_pos dz,dz];by_cases cz:c b'=1
    ·rw[cz];exact .ss tt tt lc (M.mono (by omega))
    ·rw[show c b'=0 by omega]
     obtain⟨s,ts,es,hs⟩:=lsign (ps.map (Pl.ev B c));have:=hm t ht _ l1;simp only[evT];rw[es]at this⊢;exact .ns hs tt this lc (M.mono (by omega))
   ·rw[if_neg dz,show d b'=0 by omega]
    by_cases cz:c b'=1
    ·rw[cz];obtain⟨s,ts,es,hs⟩:=lsign (ps.map (Pl.ev B d));have:=hm t ht _ l2;simp only[evT];rw[es]at this⊢;exact .sn tt hs this (M.mono (by omega))
    ·rw[show c b'=0 by omega]
     simp only[evT];exact(zli b.ti M _ L.hb (by rw[lc];exact L.fits)).mono (by omega)
  ·rw[d2,if_neg (by decide),c2];simp only[evT];have:=R.dp;exact(zli b.ti M _ (R.hb b.sg) (by rw[lc];exact R.fits)).mono (by omega)
theorem zqN{P:Str→Prop}:∀{ts us:List Tr},hds P ts→hds P us→hds P (ts++us)
 | [],us,_,h=>h
 |t::ts,us,h,g=>by
  simp only[hds,d9]at h⊢;exact⟨h.1,zqN h.2 g⟩
mutual
inductive PlAt (S:Sto):Pl→W→Prop
 |nd {k b:Int}{h:Str}{ps:List Pl}{a:Addr}{vs:List W}:S a=ae (.lst vs)→PlsAt S ps vs→PlAt S (.nd k b h ps) (.tup [.int k, .int b, .str h, .ref a])
inductive PlsAt (S:Sto):List Pl→List W→Prop
 |nil:PlsAt S [] []
 |cons {p:Pl}{v:W}{ps:List Pl}{vs:List W}:PlAt S p v→PlsAt S ps vs→PlsAt S (p::ps) (v::vs)
end
mutual
theorem PlAt.sub{S S':Sto}(h:Sub S S'):∀{p:Pl}{v:W},PlAt S p v→PlAt S' p v
 |_,_, .nd e q=> .nd (h _ _ e) (PlsAt.sub h q)
theorem PlsAt.sub{S S':Sto}(h:Sub S S'):∀{ps:List Pl}{vs:List W},PlsAt S ps vs→PlsAt S' ps vs
 |_,_, .nil=> .nil
 |_,_, .cons a b=> .cons (PlAt.sub h a) (PlsAt.sub h b)
end
section
variable {S:Sto}
theorem PlsAt.len:∀{ps:List Pl}{vs:List W},PlsAt S ps vs→ps.length=vs.length
 |_,_, .nil=>rfl
 |_,_, .cons _ h=>congrArg (· +1) (PlsAt.len h)
theorem PlsAt.app:∀{ps qs:List Pl}{vs us:List W},PlsAt S ps vs→PlsAt S qs us→PlsAt S (ps++qs) (vs++us)
 |_,_,_,_, .nil,h=>h
 |_,_,_,_, .cons a b,h=> .cons a (PlsAt.app b h)
theorem PlsAt.take:∀(n:Nat) {ps:List Pl}{vs:List W},PlsAt S ps vs→PlsAt S (ps.take n) (vs.take n)
 |0,_,_,_=> .nil
 |_+1,_,_, .nil=> .nil
 |n+1,_,_, .cons a b=> .cons a (PlsAt.take n b)
theorem PlsAt.drop:∀(n:Nat) {ps:List Pl}{vs:List W},PlsAt S ps vs→PlsAt S (ps.drop n) (vs.drop n)
 |0,_,_,h=>h
 |_+1,_,_, .nil=> .nil
 |n+1,_,_, .cons _ b=>PlsAt.drop n b
theorem PlsAt.rep{p:Pl}{v:W}(h:PlAt S p v):∀n:Nat,PlsAt S (aO n p) (aO n [v]).flatten
 |0=> .nil
 |n+1=>by
  rw[cg,cg,dy];exact .cons h (PlsAt.rep h n)
end
noncomputable def pad (w:Str):Pl:= .nd (-1) 0 w []
noncomputable def zbK (need:Nat) (w:Str) (ps:List Pl):List Pl:=aO (need - ps.length) (pad w)++ps
noncomputable def push (need:Nat) (w:Str) (k b:Int) (h:Str) (ps:List Pl):List Pl:=
 (zbK need w ps).take ((zbK need w ps).length - need)++[.nd k b h ((zbK need w ps).drop ((zbK need w ps).length - need))]
theorem zmQ (w:Str):∀n:Nat,pwts (aO n (pad w))=n
 |0=>by simp [pwts]
 |n+1=>by rw[cg,pwts,zmQ w n];simp [pad,Pl.wt,pwts];omega
theorem zmv (w:Str):∀n:Nat,pnts (aO n (pad w))=0
 |0=>by simp [pnts]
 |n+1=>by rw[cg,pnts,zmv w n];simp [pad,Pl.nt,pnts]
theorem zgG:∀ps:List Pl,ps.length≤pwts ps
 | []=>by simp
 |p::ps=>by have:=zgG ps;have:=zvn p;simp [pwts];omega
theorem zet (need:Nat) (w:Str) (ps:List Pl):(zbK need w ps).length=need - ps.length+ps.length:=by simp [zbK]
theorem zoY{need:Nat}{w:Str}{k b:Int}{h:Str}{ps:List Pl}:pwts (push need w k b h ps)=need - ps.length+pwts ps+1∧pnts (push need w k b h ps)=pnts ps+(if k<0 then 0 else 1)∧(push need w k b h ps).length=need - ps.length+ps.length - need+1:=by
 have hl:=zet need w ps;have h1:pwts (zbK need w ps)=need - ps.length+pwts ps:=by rw[zbK,zcw,zmQ]
 have h2:pnts (zbK need w ps)=pnts ps:=by rw[zbK,zbX,zmv];omega
 have h3:=zcw ((zbK need w ps).take ((zbK need w ps).length - need)) ((zbK need w ps).drop ((zbK need w ps).length - need));have h4:=zbX ((zbK need w ps).take ((zbK need w ps).length - need)) ((zbK need w ps).drop ((zbK need w ps).length - need));rw[jY]at h3 h4;unfold push;refine⟨?_,?_,?_⟩
 ·rw[zcw,pwts,pwts,Pl.wt];omega
 ·rw[zbX,pnts,pnts,Pl.nt];omega
 ·rw[aS,cy,bK,hl];omega
theorem zoc{need:Nat}{w:Str}(ps:List Pl):((zbK need w ps).drop ((zbK need w ps).length - need)).length=need:=by
 have hl:=zet need w ps;rw[cD,hl];omega
theorem zjj{ws:List Str}{B:List Tn}{need:Nat}{w:Str}{ps:List Pl}(hw:w∈ws) (h:∀p∈ps,PlOk ws B p):∀p∈zbK need w ps,PlOk ws B p:=λp hp=>by
 rcases bq.mp hp with z |z
 ·rw[(List.mem_replicate.mp z).2];exact .sign hw λq hq=>by cases hq
 ·exact h p z
theorem zug{ws:List Str}{B:List Tn}{need:Nat}{w:Str}{k b:Int}{h:Str}{ps:List Pl}(hw:w∈ws) (hp:∀p∈ps,PlOk ws B p) (hn:∀qs:List Pl,qs.length=need→(∀q∈qs,PlOk ws B q)→PlOk ws B (.nd k b h qs)):∀p∈push need w k b h ps,PlOk ws B p:=λp hq=>by
 rcases bq.mp hq with z |z
 ·exact zjj hw hp p (ge z)
 ·rw[bh.mp z];exact hn _ (zoc ps) λq hq=>zjj hw hp q (gY hq)
noncomputable def zqX:WS:=(zbN (zqT (wTb (wOp oGt (zaf 3) (wC (.int 0)))) (wTb (wOp oLt (zaf 5) (wC (.int 5))))) (zar (wAsg (wOp (zeM λi j=> .int (i - j)) (zaf 3) (wC (.int 1))) (wGN 3))
  (zar (wAsg (zct (zol (zrL (zdl (zab (zbD (zab (znZ (wC (.int 1))) (zab (wC (.int 0)) (zab (wOp oIx (zaf 2) (wC (.int 2))) (zab (zct (zdl waNil)) waNil))))) waNil)) (wOp (zeM λi j=> .int (i - j)) (zaf 8) (wB zeq (zab (zaf 4) waNil)))) (zaf 4))) (wGN 4))
  (zar (wAsg (wOp (zeM λi j=> .int (i - j)) (wB zeq (zab (zaf 4) waNil)) (zaf 8)) (wGN 11))
  (wAsg (zct (znQ (zvu (zaf 4) woN (woS (zaf 11))) (zdl (zab (wOp zdF (zaf 9) (zbD (zab (wSl (zaf 4) (woS (zaf 11)) woN) waNil))) waNil)))) (wGN 4))))) zaD)
theorem zpn{r:Nat}:zfL r zaR=(zar (wAsg (wOp (zdk (λ_ j=>0<j) λi j=> .int (i % j)) (zaf 6) (wC (.int 8))) (wGN 7))
  (zar (wAsg (zti (zdl (zab (wC (.int 0)) (zab (wC (.int 0)) (zab (wC (.int 1)) (zab (wC (.int 2)) waNil))))) (wB zkM (zab (zaf 7) (zab (wC (.int 3)) waNil)))) (wGN 8))
  (zar (wAsg (zbD (zab (znZ (wC (.int 1))) (zab (wC (.int 0)) (zab (wOp oIx (zaf 2) (zti (zdl (zab (wC (.int 2)) (zab (wC (.int 5)) (zab (wC (.int 3)) (zab (wC (.int 4)) waNil))))) (wB zkM (zab (zaf 7) (zab (wC (.int 3)) waNil))))) waNil)))) (wGN 9))
  (zar (zbN (wTb (wOp oGt (zaf 7) (wC (.int 3)))) (zar (wAsg (wOp (zdk (λ_ j=>0<j) λi j=> .int (i % j)) (wOp (zdk zio λi j=> .int (i / j)) (zaf 6) (wC (.int 8))) (wB zeq (zab (zaf 1) waNil))) (wGN 10))
  (zar (wAsg (zap (zaB r) (zab (wOp oIx (wOp oIx (zaf 1) (zaf 10)) (wC (.int 1))) waNil)) (wGN 8))
  (zar (wAsg (zbD (zab (zaf 10) (zab (wOp (zdk (λ_ j=>0<j) λi j=> .int (i % j)) (wOp (zdk zio λi j=> .int (i / j)) (zaf 6) (wC (.int 64))) (wC (.int 8))) (zab (wC (.str "")) waNil)))) (wGN 9))
  (wAsg (wOp zdF (zaf 5) (wC (.int 1))) (wGN 5))))) zaD)
  zqX)))):=rfl
section
variable {w0 w1 w2 w3 w4 w5:Str}{r:Nat}{S:Sto}{aw st:Addr}{E:WX}{D:WEnds}
theorem zoA{need:Nat}{k b room spent:Int}{h:Str}{ps:List Pl}{vs:List W}{x0 x1 x6 x7 x10 x11:Option W}(hw:S aw=ae (.lst (six w0 w1 w2 w3 w4 w5))) (hst:S st=ae (.lst vs)) (hp:PlsAt S ps vs) (hn:need≤3) (hl:ps.length≤100)
  (h1:D.nx [x0,x1,ae (.ref aw),ae (.int room),ae (.ref st),ae (.int spent),x6,x7,ae (.int need),ae (.tup [.int k, .int b, .str h]),x10,x11] S)
  (h2:0<room→spent<5→ ∀(st':Addr) (S':Sto) (vs':List W) (x11:Option W),Sub S S'→S' st'=ae (.lst vs')→PlsAt S' (push need w2 k b h ps) vs'→D.nx [x0,x1,ae (.ref aw),ae (.int (room - 1)),ae (.ref st'),ae (.int spent),x6,x7,ae (.int need),ae (.tup [.int k, .int b, .str h]),x10,x11] S') :
  zqX E D [x0,x1,ae (.ref aw),ae (.int room),ae (.ref st),ae (.int spent),x6,x7,ae (.int need),ae (.tup [.int k, .int b, .str h]),x10,x11] S:=by
 unfold zqX;walk_at "wp";split
 ·rename_i c1;split
  ·rename_i c2;simp only[zaj hw,six2];have f1:=λ(a:Addr) (ha:S a=none)=>keep (x:=Ob.lst []) hst ha;refine⟨aY _,λa ha=>⟨zal (by decide),zal (by decide),?_⟩⟩;rw[zaj (f1 a ha),zaj (f1 a ha)];have hlen:=hp.len;have en:((need:Int) - (vs.length:Int)).toNat=need - ps.length:=by omega
   rw[en];have pa:PlAt (put S a (Ob.lst [])) (pad w2) (.tup [.int (-1), .int 0, .str w2, .ref a]):= .nd zag .nil;have pp:PlsAt (put S a (Ob.lst [])) (zbK need w2 ps) ((aO (need - ps.length) [W.tup [.int (-1), .int 0, .str w2, .ref a]]).flatten++vs):=(PlsAt.rep pa _).app (hp.sub (.put .refl ha));have pl:=pp.len;have sub1:Sub S (put S a (Ob.lst [])):= .put .refl ha;have hfl:((aO (need - ps.length) [W.tup [.int (-1), .int 0, .str w2, .ref a]]).flatten).length≤3:=by
    rw[aS,zet]at pl;omega
   have e0:(1*(need - ps.length))≤sizeLine:=zal (by omega);refine⟨⟨by omega,by omega,e0⟩,zal (by omega),?_⟩
   generalize (aO (need - ps.length) [W.tup [.int (-1), .int 0, .str w2, .ref a]]).flatten++vs=ys at pp pl⊢;generalize put S a (Ob.lst [])=S1 at pp sub1⊢;intro b2 hb2;have sub2:Sub S1 (put S1 b2 (.lst ys)):= .put .refl hb2;generalize put S1 b2 (Ob.lst ys)=S2 at sub2⊢;have hpl:=zet need w2 ps;have ea:((ys.length:Nat):Int) - (need:Int)=((ys.length - need:Nat):Int):=by omega
   rw[ea,ziL,zis];intro p hp3;have sub3:Sub S2 (put S2 p (.lst (ys.drop (ys.length - need)))):= .put .refl hp3;have fp:put S2 p (Ob.lst (ys.drop (ys.length - need))) p=ae (.lst (ys.drop (ys.length - need))):=zag;generalize put S2 p (Ob.lst (ys.drop (ys.length - need)))=S3 at sub3 fp⊢;refine⟨zal (by decide),zal (by decide),zal (by decide),zal (by rw[cy];omega),λq hq=>?_⟩;have sub4:Sub S3 (put S3 q (.lst (ys.take (ys.length - need)++[.tup [.int k, .int b, .str h, .ref p]]))):= .put .refl hq;refine h2 c1 c2 q _ _ _ (((sub1.trans sub2).trans sub3).trans sub4) zag ?_;unfold push;have pp3:=pp.sub ((sub2.trans sub3).trans sub4);rw[←pl]at *;exact(pp3.take _).app (.cons (.nd (sub4 _ _ fp) (pp3.drop _)) .nil)
  ·exact h1
 ·exact h1
theorem zvk (n:Int) (h0:0≤n) (h1:n<8):∃m:Nat,m≤2∧atI [W.int 0,W.int 0,W.int 1,W.int 2] (if 3<n then 3 else n)=ae (.int (m:Int)):=by
 rcases(show n=0∨n=1∨n=2∨(3≤n) by omega) with rfl |rfl |rfl |h
 ·exact⟨0,by decide,rfl⟩
 ·exact⟨0,by decide,rfl⟩
 ·exact⟨1,by decide,rfl⟩
 ·have:(if 3<n then 3 else n)=3:=by split<;>omega
  rw[this];exact⟨2,by decide,rfl⟩
theorem zum (n:Int) (h0:0≤n) (h1:n<8):∃(i:Int) (x:Str),x∈ [w2,w3,w4,w5]∧atI [W.int 2,W.int 5,W.int 3,W.int 4] (if 3<n then 3 else n)=ae (.int i)∧atI (six w0 w1 w2 w3 w4 w5) i=ae (.str x):=by
 rcases(show n=0∨n=1∨n=2∨(3≤n) by omega) with rfl |rfl |rfl |h
 ·exact⟨2,w2,by simp,rfl,rfl⟩
 ·exact⟨5,w5,by simp,rfl,rfl⟩
 ·exact⟨3,w3,by simp,rfl,rfl⟩
 ·have:(if 3<n then 3 else n)=3:=by split<;>omega
  rw[this];exact⟨4,w4,by simp,rfl,rfl⟩
inductive PlI (S:Sto) (ac ab aw:Addr) (hs:List Str) (B:List Tn) (m:Nat) (ws:List W) (σ:WSt) (S':Sto):Prop
 |mk (ns:List Int) (ps:List Pl) (vs:List W) (st:Addr) (room spent:Int) (x6 x7 x8 x9 x10 x11:Option W):ws=ns.map W.int→Sub S S'→S' st=ae (.lst vs)→PlsAt S' ps vs→(∀p∈ps,PlOk hs B p)→0≤room→room≤m→(pnts ps:Int)≤spent→pnts ps≤4→(pwts ps:Int)+ps.length≤2*(m - room)+pnts ps+2→
  σ=[ae (.ref ac),ae (.ref ab),ae (.ref aw),ae (.int room),ae (.ref st),ae (.int spent),x6,x7,x8,x9,x10,x11]→PlI S ac ab aw hs B m ws σ S'
inductive PlW (S:Sto) (hs:List Str) (B:List Tn) (m:Nat) (f:Addr→WSt) (mm:Nat) (σ:WSt) (S2:Sto):Prop
 |mk (ps:List Pl) (vs:List W) (st:Addr):mm=ps.length→Sub S S2→S2 st=ae (.lst vs)→PlsAt S2 ps vs→(∀p∈ps,PlOk hs B p)→pnts ps≤4→pwts ps+ps.length≤2*m+pnts ps+2→σ=f st→PlW S hs B m f mm σ S2
theorem zrx{m:Nat}(hm9:m≤9) {Q:WK}{X:Str→Sto→Prop}{ac ab:Addr}{cells:List Int}{B:List Tn}(hc:S ac=ae (.lst (cells.map W.int))) (hb:S ab=ae (.lst (B.map zba))) (hw:S aw=ae (.lst (six w0 w1 w2 w3 w4 w5))) (bk:BkOk [w0,w1,w2,w3,w4,w5] [w2,w3,w4,w5] B) (hB:B≠ [])
  (h:∀(p:Pl) (v:W) (S':Sto),Sub S S'→PlAt S' p v→PlOk [w2,w3,w4,w5] B p→p.wt≤2*m+1+p.nt→p.nt≤4→Q v S'):zcE (r+10) [.ref ac, .ref ab, .ref aw, .int m] S Q X:=by
 rw[show r+10=r+9+1 from rfl,zcE];walk_at "wp";refine⟨aY _,λst0 hst0=>?_⟩;rw[zaj (keep hc hst0)];refine zlu (PlI S ac ab aw [w2,w3,w4,w5] B m) ?_ ?_ _ _ _ ⟨cells,[],[],st0,m,0,none,none,none,none,none,none,rfl, .put .refl hst0,zag, .nil,(λ_ h=>nomatch h),by omega,by omega,by simp [pnts],by simp [pnts],by simp [pnts,pwts],rfl⟩
 ·rintro w ws σ S' N ⟨ns,ps,vs,st,room,spent,x6,x7,x8,x9,x10,x11,ew,sub,hst,hp,ok,r0,r1,p0,p1,p2,rfl⟩ hN;cases ns with
  |nil=>cases ew
  |cons n ns=>
  cases ew;have fw:=sub _ _ hw;have fb:=sub _ _ hb;have fc:=sub _ _ hc;have m0:0≤n % 8:=cP _ (by decide);have m1:n % 8<8:=cZ _ (by decide);have hpl:=zgG ps;obtain⟨need,hneed,en⟩:=zvk (n % 8) m0 m1;obtain⟨i,hd,hhd,e1,e2⟩:=zum (w0:=w0) (w1:=w1) (w2:=w2) (w3:=w3) (w4:=w4) (w5:=w5) (n % 8) m0 m1;have go:∀(need:Nat) (k b:Int) (hh:Str) (sp:Int) (x10:Option W),need≤3→(∀qs:List Pl,qs.length=need→(∀q∈qs,PlOk [w2,w3,w4,w5] B q)→PlOk [w2,w3,w4,w5] B (.nd k b hh qs))→(k<0∧need≤2∧sp=spent∨ ¬k<0∧sp=spent+1)→
    ∀(E:WX) (D:WEnds),D.nx=N→zqX E D [ae (.ref ac),ae (.ref ab),ae (.ref aw),ae (.int room),ae (.ref st),ae (.int sp),ae (.int n),ae (.int (n % 8)),ae (.int need),ae (.tup [.int k, .int b, .str hh]),x10,x11] S':=λneed k b hh sp x10 hn hok hk E D hD=>by
   subst hD;refine zoA fw hst hp hn (by omega) ?_ λc1 c2 st' S2 vs' x11 sub2 hst2 hp2=>?_
   ·refine hN _ _ S' .refl fc ⟨ns,ps,vs,st,room,sp,_,_,_,_,_,_,rfl,sub,hst,hp,ok,r0,r1,by omega,p1,p2,rfl⟩
   ·obtain⟨s1,s2,s3⟩:=zoY (need:=need) (w:=w2) (k:=k) (b:=b) (h:=hh) (ps:=ps);have hz:ps.length=0→pwts ps=0∧pnts ps=0:=λz=>by
     cases ps with
     |nil=>exact⟨rfl,rfl⟩
     |cons _ _=>simp at z
    have fin:(pnts (push need w2 k b hh ps):Int)≤sp→pnts (push need w2 k b hh ps)≤4→(pwts (push need w2 k b hh ps):Int)+(push need w2 k b hh ps).length≤2*(m - (room - 1))+pnts (push need w2 k b hh ps)+2→D.nx [ae (.ref ac),ae (.ref ab),ae (.ref aw),ae (.int (room - 1)),ae (.ref st'),ae (.int sp),ae (.int n),ae (.int (n % 8)),ae (.int need),ae (.tup [.int k, .int b, .str hh]),x10,x11] S2:=λf1 f2 f3=>
     hN _ _ S2 .refl (sub2 _ _ fc) ⟨ns,_,vs',st',room - 1,sp,_,_,_,_,_,_,rfl,sub.trans sub2,hst2,hp2,zug (by simp) ok hok,by omega,by omega,f1,f2,f3,rfl⟩
    rcases hk with⟨kn,n2,es⟩ |⟨kp,es⟩
    ·rw[if_pos kn]at s2;refine fin (by omega) (by omega) ?_;rcases eN ps.length with z |z
     ·have:=hz z;omega
     ·omega
    ·rw[if_neg kp]at s2;refine fin (by omega) (by omega) ?_;rcases eN ps.length with z |z
     ·have:=hz z;omega
     ·omega
  rw[zpn];walk_at "wp";simp only[en,e1];walk_at "wp";simp only[zaj fw,e2];refine⟨by decide,zal (by decide),zal (by decide),zal (by decide),?_⟩;split
  ·have hbl:(B.map zba)≠ []:=by simpa using hB
   obtain⟨j,x,ej,ex⟩:=zmr (n / 8) hbl;have hlt:0<(B.map zba).length:=eL.mpr hbl;have ek:n / 8 % ((B.map zba).length:Int)=(((n / 8 % ((B.map zba).length:Int)).toNat:Nat):Int):=by
    have:=cP (n / 8) (show((B.map zba).length:Int)≠0 by omega)
    omega
   have ek2:=zbU (xs:=B.map zba) (n:=(n / 8 % ((B.map zba).length:Int)).toNat);rw[←ek,ex,bt]at ek2;cases et:B[(n / 8 % ((B.map zba).length:Int)).toNat]? with
   |none=>rw[et]at ek2;cases ek2
   |some t=>
    rw[et]at ek2;have ext:x= .tup [.str t.1,enc t.2.1,enc t.2.2]:=by cases ek2;rfl
    have ht:t∈B:=aV et;have LT:=bk.lf t ht;have hLd:=LT.dp;have hLw:=LT.wt;have hLn:=LT.nb;simp only[zaj fb,ex,ext];walk_at "wp";rw[show atI [W.str t.1,enc t.2.1,enc t.2.2] 1=ae (enc t.2.1) from rfl];refine⟨⟨by decide,by decide⟩,by omega,?_⟩
    refine zgH 4 hLd (by omega) (by omega) ⟨⟨by decide,by decide⟩,by decide,zal (by decide),?_⟩
    have b0:0≤n / 64 % 8:=cP _ (by decide);have b1:n / 64 % 8<8:=cZ _ (by decide);refine go t.2.1.nb _ _ _ _ _ hLn (λqs hq hqs=>?_) (.inr ⟨by omega,rfl⟩) _ _ rfl;rw[ek];exact .turn et hq b0 b1 hqs
  ·exact go need (-1) 0 hd spent _ (by omega) (λqs hq hqs=> .sign hhd hqs) (.inl ⟨by decide,hneed,rfl⟩) _ _ rfl
 ·rintro σ S' ⟨ns,ps,vs,st,room,spent,x6,x7,x8,x9,x10,x11,ew,sub,hst,hp,ok,r0,r1,p0,p1,p2,rfl⟩;have hpl:=zgG ps;refine⟨PlW S [w2,w3,w4,w5] B m (λst=>[ae (.ref ac),ae (.ref ab),ae (.ref aw),ae (.int room),ae (.ref st),ae (.int spent),x6,x7,x8,x9,x10,x11]),⟨_,ps,vs,st,rfl,sub,hst,hp,ok,p1,by omega,rfl⟩,?_⟩
  rintro mm σ S2 ⟨ps,vs,st,rfl,sub,hst,hp,ok,p1,p2,rfl⟩;have hlen:=hp.len;have fw:=sub _ _ hw;walk_at "wp";rw[zaj hst];split
  ·rename_i hgt;simp only[zfk];walk_at "wp";simp only[zaj hst,zaj fw,six4];have c1:zeo vs none (ae (-2))=vs.take (vs.length - 2):=zlG 2 (by decide);have c2:zeo vs (ae (-2)) none=vs.drop (vs.length - 2):=zoN 2 (by decide);rw[c1,c2];intro p hp3;have sub3:Sub S2 (put S2 p (.lst (vs.drop (vs.length - 2)))):= .put .refl hp3;have fp:put S2 p (Ob.lst (vs.drop (vs.length - 2))) p=ae (.lst (vs.drop (vs.length - 2))):=zag;generalize put S2 p (Ob.lst (vs.drop (vs.length - 2)))=S3 at sub3 fp⊢;refine⟨zal (by decide),zal (by decide),zal (by rw[cy];omega),λq hq=>?_⟩;have sub4:Sub S3 (put S3 q (.lst (vs.take (vs.length - 2)++[.tup [.int (-1), .int 0, .str w4, .ref p]]))):= .put .refl hq;have hp4:=hp.sub (sub3.trans sub4);have hw3:=zcw (ps.take (vs.length - 2)) (ps.drop (vs.length - 2));have hn3:=zbX (ps.take (vs.length - 2)) (ps.drop (vs.length - 2));rw[jY]at hw3 hn3;refine⟨_,_,?_, .refl,ps.take (vs.length - 2)++[.nd (-1) 0 w4 (ps.drop (vs.length - 2))],_,q,rfl,(sub.trans sub3).trans sub4,zag,(hp4.take _).app (.cons (.nd (sub4 _ _ fp) (hp4.drop _)) .nil),λx hx=>?_,?_,?_,rfl⟩
   ·rw[aS,cy,bK];omega
   ·rcases bq.mp hx with z |z
    ·exact ok x (ge z)
    ·rw[bh.mp z];exact .sign (by simp) λy hy=>ok y (gY hy)
   ·rw[zbX,pnts,pnts,Pl.nt,if_pos (by decide)];omega
   ·rw[zcw,pwts,pwts,Pl.wt,aS,cy,bK,zbX,pnts,pnts,Pl.nt,if_pos (by decide)];omega
  ·rename_i hle
   try walk_at "wp"
   simp only[zaj fw,zAo];refine⟨aY _,λa ha=>⟨zal (by decide),zal (by decide),?_⟩⟩;rw[zaj (keep hst ha)];refine⟨zal (by omega),?_⟩;cases hp with
   |nil=>
    exact⟨_, .refl,h (pad w5) _ _ (sub.trans (.put .refl ha)) (.nd zag .nil) (.sign (by simp) λ_ z=>nomatch z) (by simp [pad,Pl.wt,pwts];omega) (by simp [pad,Pl.nt,pnts])⟩
   | @cons p v ps vs h1 h2=>
    rw[d9,zje];have e0:ps=[]:=by
     cases ps with
     |nil=>rfl
     |cons q qs=>
      have:=h2.len;simp only[aR]at this hle;omega
    subst e0;simp only[pwts,pnts,aR,c5]at p1 p2;exact⟨_, .refl,h p v _ (sub.trans (.put .refl ha)) (h1.sub (.put .refl ha)) (ok p a0) (by omega) (by omega)⟩
end
section
variable {r:Nat}{S:Sto}{Q:WK}{E:Str→Sto→Prop}{a:Addr}{B:List Tn}
noncomputable def zdZ:Option Tn→W
 |some t=>zba t
 |none=> .non
theorem zkj (B:List Tn) (s:Str):B.findSome? (λt=>if t.1 == s then ae (zba t) else none)=(zaZ B s).map zba:=by
 unfold zaZ
 induction B with
 |nil=>rfl
 |cons t B ih=>
  rw[d5,bF];cases e:t.1 == s with
  |true=>rfl
  |false=>simpa using ih
theorem zfm{s:Str}(ha:S a=ae (.lst (B.map zba))) (h:Q (zdZ (zaZ B s)) S):zaV (r+1) [.ref a, .str s] S Q E:=by
 rw[zaV];walk_at "wp";rw[zaj ha];refine zfl (S:=S) ?_ (λσ=>∃x,σ=[ae (.ref a),ae (.str s),x]) zba (λt=>if t.1 == s then ae (zba t) else none) B _ ⟨_,rfl⟩ (λt ht σ N hI hno hret=>?_) (λe σ hI=>?_) λw e S' sb=>?_
 ·exact ha
 ·obtain⟨x,rfl⟩:=hI;simp only[zeD];have ee:zba t= .tup [.str t.1,enc t.2.1,enc t.2.2]:=rfl;rw[ee];walk_at "wp";cases e:t.1 == s with
  |true=>
   rw[e]at hret;exact hret _ rfl _ .refl
  |false=>
   rw[e]at hno;exact hno rfl _ _ ⟨_,rfl⟩ .refl
 ·obtain⟨x,rfl⟩:=hI;walk_at "wp";rw[zkj]at e;have:zaZ B s=none:=by
   cases q:zaZ B s with
   |none=>rfl
   |some t=>rw[q]at e;cases e
  rw[this]at h;exact⟨_, .refl,h⟩
 ·rw[zkj]at e;cases q:zaZ B s with
  |none=>rw[q]at e;cases e
  |some t=>
   rw[q]at e h;cases e;exact⟨_,sb,h⟩
end
noncomputable def byC (f:Int):Int→Nat:=λb=>if b / f % 2=1 then 1 else 0
theorem PlsAt.zip{S:Sto}:∀{ps:List Pl}{vs:List W},PlsAt S ps vs→ ∀x∈ps.zip vs,PlAt S x.1 x.2∧x.1∈ps
 |_,_, .nil,x,h=>by simp at h
 |_,_, .cons a b,x,h=>by
  rw[gy]at h;rcases az.mp h with rfl |h
  ·exact⟨a,a0⟩
  ·have:=PlsAt.zip b x h;exact⟨this.1,aK _ this.2⟩
theorem PlsAt.snd{S:Sto}{ps:List Pl}{vs:List W}(h:PlsAt S ps vs):(ps.zip vs).map gw=vs:=List.map_snd_zip (by rw[h.len];exact au _)
theorem PlsAt.fst{S:Sto}{ps:List Pl}{vs:List W}(h:PlsAt S ps vs) {α:Type}(f:Pl→α):(ps.zip vs).map (λx=>f x.1)=ps.map f:=by
 have:(ps.zip vs).map Prod.fst=ps:=List.map_fst_zip (by rw[h.len];exact au _)
 conv=>rhs;rw[←this,bj]
 rfl
section
variable {S:Sto}{a:Addr}{ws hs:List Str}{B:List Tn}
theorem ztd{f:Int}(hf:f=1∨f=2∨f=4∨f=8) (ha:S a=ae (.lst (B.map zba))) (b:BkOk ws hs B):∀(d:Nat) {p:Pl}{v:W}{r:Nat}{Q:WK}{E:Str→Sto→Prop},p.dp≤d→d+8≤r→PlAt S p v→PlOk hs B p→p.wt≤1000→Q (enc (p.ev B (byC f))) S→zcD (r+1) [v, .ref a, .int f] S Q E
 |0,p,v,r,Q,E,hd,hr,hp,ok,hw,h=>by have:=zup p;omega
 |d+1, .nd k b' hh ps,v,r,Q,E,hd,hr,hp,ok,hw,h=>by
  cases hp with
  | @nd _ _ _ _ c vs hc hps=>
  simp only[Pl.dp]at hd;simp only[Pl.wt]at hw;have hlen:=zgG ps;obtain⟨r,rfl⟩:∃r',r=r'+1:=⟨r - 1,by omega⟩
  rw[zcD];walk_at "wp";rw[zaj hc];rw[←hps.snd];have okp:∀x∈ps,PlOk hs B x:=by
   cases ok with
   |sign _ h=>exact h
   |turn _ _ _ _ h=>exact h
  refine zaO (λσ=>∃x,σ=[x,ae (.ref a),ae (.int f)]) gw (λx=>enc (x.1.ev B (byC f))) ?_ (ps.zip vs) [] _ ⟨none,rfl⟩ (by simp;omega) (λx hx σ R hI hR=>?_) ?_
  ·rw[hps.snd];exact hc
  ·obtain⟨y,rfl⟩:=hI;obtain⟨h1,h2⟩:=hps.zip x hx;have:=zgz h2;have:=zlV h2;simp only[zgf];walk_at "wp";exact ztd hf ha b d (by omega) (by omega) h1 (okp _ h2) (by omega) (hR _ _ ⟨_,rfl⟩ .refl)
  ·rw[a9,hps.fst λp=>enc (p.ev B (byC f))];intro q hq;have eu:(ps.map λp=>enc (p.ev B (byC f)))=encs (ps.map (Pl.ev B (byC f))):=by rw[zaw,bj];rfl
   rw[eu];have fq:put S q (Ob.lst (encs (ps.map (Pl.ev B (byC f))))) q=ae (.lst (encs (ps.map (Pl.ev B (byC f))))):=zag;have fa:=keep (x:=Ob.lst (encs (ps.map (Pl.ev B (byC f))))) ha hq;have sub:Sub S (put S q (Ob.lst (encs (ps.map (Pl.ev B (byC f)))))):= .put .refl hq;generalize put S q (Ob.lst (encs (ps.map (Pl.ev B (byC f)))))=S1 at fq fa sub⊢
   try walk_at "wp"
   cases ok with
   |sign hs' _=>
    rw[if_pos (by decide)]
    try rw[zaj fq]
    rw[zaX]at h;rw[zaT,aq];simp only[enc]at h;exact⟨zal (by decide),zal (by omega),_,sub,h⟩
   | @turn k _ _ _ t e hl b0 b1 _=>
    have ek:atI (B.map zba) (k:Int)=ae (.tup [.str t.1,enc t.2.1,enc t.2.2]):=by
     rw[zbU,bt,e];rfl
    have hdiv:zio b' f:=by rcases hf with rfl |rfl |rfl |rfl<;>exact⟨by decide,by decide⟩
    have ht:t∈B:=aV e;rw[zaL e]at h;rw[if_neg (by omega)];refine⟨hdiv,by decide,?_⟩
    simp only[zaj fa,ek];by_cases e1:b' / f % 2=1
    ·rw[e1];have:byC f b'=1:=by unfold byC;rw[if_pos e1]
     rw[this]at h;simp only[evT,enc]at h
     try walk_at "wp"
     try rw[zaj fq]
     rw[zaT,aq];exact⟨zal (by decide),zal (by omega),_,sub,h⟩
    ·have e2:(b' / f % 2 == 1)=false:=by simpa using e1
     rw[e2];have:byC f b'=0:=by unfold byC;rw[if_neg e1]
     rw[this]at h;simp only[evT]at h;walk_at "wp";rw[show atI [W.str t.1,enc t.2.1,enc t.2.2] 1=ae (enc t.2.1) from rfl];dsimp only;have hLd:=(b.lf t ht).dp;have hLw:=(b.lf t ht).wt;have hLn:=(b.lf t ht).nb;exact zfQ 4 hLd (by omega) fq (by rw[aq,hl];exact(b.lf t ht).fits) (by omega) ⟨_,sub,h⟩
end
noncomputable def zaJ (n:Int) (t:Tn):Tr:=if n=1 then t.2.1 else t.2.2
structure Sides (g:Tn→Tr) (B:List Tn):Prop where
  fits:∀t∈B,(g t).fits t.2.1.nb
  dp:∀t∈B,(g t).depth≤4
  wt:∀t∈B,(g t).weight≤10
mutual
noncomputable def Tr.ar (B:List Tn):Tr→Prop
 | .bl _=>False
 | .nd s ts=>(∀t,zaZ B s=ae t→ts.length=t.2.1.nb)∧ars B ts
noncomputable def ars (B:List Tn):List Tr→Prop
 | []=>True
 |t::ts=>t.ar B∧ars B ts
end
theorem ars_iff{B:List Tn}:∀{ts:List Tr},ars B ts↔ ∀t∈ts,t.ar B
 | []=>by simp [ars]
 |t::ts=>by simp [ars,ars_iff (ts:=ts)]
mutual
theorem zuo{B:List Tn}:∀t:Tr,t.way B=true→t.ar B
 | .bl n,h=>by simp [Tr.way]at h
 | .nd s ts,h=>by
  simp only[Tr.way,b3]at h;simp only[Tr.ar];refine⟨λt ht=>?_,ztr ts h.2⟩;have:=h.1;rw[topB,ht]at this;simpa using this
theorem ztr{B:List Tn}:∀ts:List Tr,zhR B ts=true→ars B ts
 | [],h=>by simp [ars]
 |t::ts,h=>by
  simp only[zhR,b3]at h;simp only[ars];exact⟨zuo t h.1,ztr ts h.2⟩
end
section
variable {S:Sto}{a:Addr}{B:List Tn}{n:Int}
theorem zqw (t:Tn) (h:n=1∨n=2):atI [W.str t.1,enc t.2.1,enc t.2.2] n=ae (enc (zaJ n t)):=by
 rcases h with rfl |rfl<;>rfl
theorem ziE (ha:S a=ae (.lst (B.map zba))) (hn:n=1∨n=2) (hg:Sides (zaJ n) B):∀(d:Nat) {t:Tr}{r:Nat}{Q:WK}{E:Str→Sto→Prop},t.depth≤d→d+10≤r→t.ar B→t.weight≤1000→Q (enc (t.mk B (zaJ n))) S→zbF (r+1) [.ref a,enc t, .int n] S Q E
 |0,t,r,Q,E,hd,hr,hh,hw,h=>by have:=zaS t;omega
 |d+1, .bl k,r,Q,E,hd,hr,hh,hw,h=>by simp [Tr.ar]at hh
 |d+1, .nd s ts,r,Q,E,hd,hr,hh,hw,h=>by
  simp only[Tr.depth]at hd;simp only[Tr.weight]at hw;simp only[Tr.ar]at hh;have hk:=zcP ts;obtain⟨r,rfl⟩:∃r',r=r'+1:=⟨r - 1,by omega⟩
  rw[zbF];simp only[enc];walk_at "wp";rw[zaw];refine zaO (λσ=>∃x,σ=[x,ae (.ref a),ae (.int n)]) enc (λt=>enc (t.mk B (zaJ n))) trivial ts [] _ ⟨none,rfl⟩ (by simp;omega) (λx hx σ R hI hR=>?_) ?_
  ·obtain⟨y,rfl⟩:=hI;have hdx:=zbA hx;have hwx:=zdc hx;simp only[zeE];walk_at "wp";exact ziE ha hn hg d (by omega) (by omega) (ars_iff.mp hh.2 x hx) (by omega) (hR _ _ ⟨_,rfl⟩ .refl)
  ·rw[a9];intro q hq;have eu:(ts.map λt=>enc (t.mk B (zaJ n)))=encs (ts.map (Tr.mk B (zaJ n))):=by rw[zaw,bj];rfl
   rw[eu];have fq:put S q (Ob.lst (encs (ts.map (Tr.mk B (zaJ n))))) q=ae (.lst (encs (ts.map (Tr.mk B (zaJ n))))):=zag;have fa:=keep (x:=Ob.lst (encs (ts.map (Tr.mk B (zaJ n))))) ha hq;have sub:Sub S (put S q (Ob.lst (encs (ts.map (Tr.mk B (zaJ n)))))):= .put .refl hq;generalize put S q (Ob.lst (encs (ts.map (Tr.mk B (zaJ n)))))=S1 at fq fa sub⊢;refine zfm fa ?_;cases e:zaZ B s with
   |none=>
    rw[zly e]at h;simp only[zdZ]
    try walk_at "wp"
    try rw[zaj fq]
    rw[zaT,aq];simp only[enc]at h;exact⟨zal (by decide),zal (by omega),_,sub,h⟩
   |some t=>
    have ht:t∈B:=cA e;have ee:zdZ (ae t)= .tup [.str t.1,enc t.2.1,enc t.2.2]:=rfl;rw[zlJ e]at h;rw[ee]
    try walk_at "wp"
    rw[zqw t hn];dsimp only;have hgw:=hg.wt t ht;exact zgQ 4 (hg.dp t ht) (by omega) fq (by rw[aq,hh.1 t e];exact hg.fits t ht) (by omega) ⟨_,sub,h⟩
theorem ziN{t:Tr}(h1:t.weight≤400) (h2:t.depth≤40):t.small=true:=by
 unfold Tr.small;rw[decide_eq_true h1,decide_eq_true h2];rfl
theorem ok_source{t:Tr}{r:Nat}{Q:WK}{E:Str→Sto→Prop}(ha:S a=ae (.lst (B.map zba))) (hg:Sides (zaJ 1) B) (hd:t.depth≤40) (hr:60≤r) (hh:t.ar B) (hw:t.weight≤1000) (h1:(t.mk B (zaJ 1)).weight≤400) (h2:(t.mk B (zaJ 1)).depth≤40) (h:Q (enc (t.mk B (zaJ 1))) S):zdP (r+1) [.ref a,enc t] S Q E:=by
 obtain⟨r,rfl⟩:∃r',r=r'+5:=⟨r - 5,by omega⟩
 rw[zdP];walk_at "wp";refine ziE ha (.inl rfl) hg 40 (r:=r+4) hd (by omega) hh hw ?_;rw[zbg];walk_at "wp";refine zfW (r:=r+1) (by omega) ?_;rw[ziN h1 h2]
 try walk_at "wp"
 exact⟨_, .refl,_, .refl,h⟩
theorem ok_goal{t:Tr}{r:Nat}{Q:WK}{E:Str→Sto→Prop}(ha:S a=ae (.lst (B.map zba))) (hg:Sides (zaJ 2) B) (hd:t.depth≤40) (hr:60≤r) (hh:t.ar B) (hw:t.weight≤1000) (h1:(t.mk B (zaJ 2)).weight≤400) (h2:(t.mk B (zaJ 2)).depth≤40) (h:Q (enc (t.mk B (zaJ 2))) S):zgg (r+1) [.ref a,enc t] S Q E:=by
 obtain⟨r,rfl⟩:∃r',r=r'+5:=⟨r - 5,by omega⟩
 rw[zgg];walk_at "wp";refine ziE ha (.inr rfl) hg 40 (r:=r+4) hd (by omega) hh hw ?_;rw[zbg];walk_at "wp";refine zfW (r:=r+1) (by omega) ?_;rw[ziN h1 h2]
 try walk_at "wp"
 exact⟨_, .refl,_, .refl,h⟩
end
noncomputable def zyc (r:Nat):WS:=(zar (wAsg (zct (zde 2 [0] (zsV (zaf 5) (zaf 6)) (wGT (zat (wGN 0) (zat (wGN 1) zbT))) zhL (zhp r (zcT r)))) (wGN 7))
  (zar (zbN (wTb (wOp (oIs false) (zaf 4) (wC .non))) (zaU (wOp zdF (zbD (zab (wOp oIx (zaf 1) (wC (.int 0))) waNil)) (wB zdp (zab (zaf 7) waNil)))) zaD)
  (zaU (zap (zcV r) (zab (wOp oIx (zaf 4) (wC (.int 2))) (zab (zaf 7) waNil))))))
noncomputable def zqV (r:Nat) (T:WS):WS:=(zar (zbN (zqT (wTb (wOp (oIs false) (zaf 3) (wC .non))) (wTb (wOp (oIs true) (zaf 4) (wC .non)))) (wAsg (zap (zbO r) (zab (wOp oIx (zaf 4) (wC (.int 1))) (zab (zaf 1) waNil))) (wGN 5)) zaD)
  (zar (zbN (zqT (wTb (wOp (oIs true) (zaf 3) (wC .non))) (wTb (wOp (oIs false) (zaf 4) (wC .non)))) (wAsg (zap (zbO r) (zab (wOp oIx (zaf 3) (wC (.int 1))) (zab (zaf 2) waNil))) (wGN 6)) zaD)
  T))
theorem znT{r:Nat}:zcT (r+1)=zcv 8 3 (zar (wAsg (zap (zaV r) (zab (zaf 0) (zab (wOp oIx (zaf 1) (wC (.int 0))) waNil))) (wGN 3))
  (zar (wAsg (zap (zaV r) (zab (zaf 0) (zab (wOp oIx (zaf 2) (wC (.int 0))) waNil))) (wGN 4))
  (zar (wAsg (wSl (zaf 1) (woS (wC (.int 1))) woN) (wGN 5))
  (zar (wAsg (wSl (zaf 2) (woS (wC (.int 1))) woN) (wGN 6))
  (zqV r (zyc r)))))):=rfl
mutual
theorem zpf{P:Str→Prop}:∀(l t:Tr) (ys:List Tr),l.mt t=ae ys→t.hd P→hds P ys∧wts ys≤t.weight
 | .bl _,t,ys,h,q=>by
  simp only[Tr.mt,bB]at h;subst h;simp only[hds,wts];exact⟨⟨q,trivial⟩,by omega⟩
 | .nd s ls, .nd z us,ys,h,q=>by
  simp only[Tr.mt]at h;simp only[Tr.hd]at q;split at h
  ·have:=zsX ls us ys h q.2;simp only[Tr.weight];exact⟨this.1,by omega⟩
  ·cases h
 | .nd _ _, .bl _,ys,h,q=>by simp [Tr.mt]at h
theorem zsX{P:Str→Prop}:∀(ls us ys:List Tr),mts ls us=ae ys→hds P us→hds P ys∧wts ys≤wts us
 | [],us,ys,h,q=>by simp only[mts,bB]at h;subst h;simp [hds,wts]
 |l::ls,[],ys,h,q=>by simp only[mts,bB]at h;subst h;simp [hds,wts]
 |l::ls,u::us,ys,h,q=>by
  simp only[mts]at h;simp only[hds]at q;split at h
  ·cases h
  ·rename_i xs ex;split at h
   ·cases h
   ·rename_i zs ez;simp only[bB]at h;subst h;have h1:=zpf l u xs ex q.1;have h2:=zsX ls us zs ez q.2;rw[zev,wts];exact⟨zqN h1.1 h2.1,by omega⟩
end
mutual
theorem zeV{P:Str→Prop}{m:Nat}:∀t:Tr,t.hd P→t.fits m
 | .bl n,h=>by simp [Tr.hd]at h
 | .nd s ts,h=>by
  simp only[Tr.hd]at h;simp only[Tr.fits];exact zmc ts h.2
theorem zmc{P:Str→Prop}{m:Nat}:∀ts:List Tr,hds P ts→fitss m ts
 | [],h=>by simp [fitss]
 |t::ts,h=>by
  simp only[hds]at h;simp only[fitss];exact⟨zeV t h.1,zmc ts h.2⟩
end
theorem Mvs.triples{B:List Tn}{n:Nat}:∀{as bs cs:List Tr},Mvs B n as bs cs→ ∃zs:List (Tr×Tr×Tr),as=zs.map (λz=>z.1)∧bs=zs.map (λz=>z.2.1)∧cs=zs.map (λz=>z.2.2)∧ ∀z∈zs,Mv B n z.1 z.2.1 z.2.2
 |_,_,_, .nil=>⟨[],rfl,rfl,rfl,λ_ h=>nomatch h⟩
 |_,_,_, .cons (a:=a) (b:=b) (c:=c) h1 h2=>by
  obtain⟨zs,e1,e2,e3,h⟩:=Mvs.triples h2;exact⟨(a,b,c)::zs,by rw[e1];rfl,by rw[e2];rfl,by rw[e3];rfl,λz hz=>(az.mp hz).elim (λe=>by rw[e];exact h1) (h z)⟩
theorem zjT:∀zs:List (Tr×Tr×Tr),pairs (encs (zs.map λz=>z.1)) (encs (zs.map λz=>z.2.1))=zs.map λz=>W.tup [enc z.1,enc z.2.1]
 | []=>by simp [encs,pairs]
 |z::zs=>by simp [encs,pairs,zjT zs]
noncomputable def zzc (f:Option Tn) (s:Str) (cs:List Tr):Tr:=match f with
 |none=> .nd s cs
 |some t=>t.2.2.fill cs
def zvW (S:Sto) (v:W) (ws:List W):Prop:=v= .tup ws∨ ∃q,v= .ref q∧S q=ae (.lst ws)
section
variable {S:Sto}{a:Addr}{B:List Tn}
theorem zqv{v:W}{ws:List W}{Q:List W→(Sto→Prop)→Prop}(h:zvW S v ws) (hq:∀G:Sto→Prop,G S→(∀S',Sub S S'→G S')→Q ws G):zof v S Q:=by
 rcases h with rfl |⟨q,rfl,e⟩
 ·rw[zkJ];exact hq _ trivial λ_ _=>trivial
 ·rw[zhB,zaj e];exact hq _ e λS' sb=>sb _ _ e
theorem zrC{n r:Nat}{x y:Tr}{as bs cs:List Tr}{va vb vf:W}{f:Option Tn}{x7:Option W}{s:Str}{ts:List Tr}(hx:x= .nd s ts) (ha:S a=ae (.lst (B.map zba))) (h1:zvW S va (encs as)) (h2:zvW S vb (encs bs)) (M:Mvs B n as bs cs) (hl:as.length≤1000)
  (hR:∀t,f=ae t→t.2.2.depth≤4∧t.2.2.weight≤100∧t.2.2.fits cs.length) (hr:5≤r)
  (one:∀{a' b' c':Tr}{Q:WK}{E:Str→Sto→Prop},a'∈as→b'∈bs→Mv B n a' b' c'→Q (enc c') S→zcT r [.ref a,enc a',enc b'] S Q E) {E:WX}{D:WEnds}
  (hQ:∀S',Sub S S'→D.rt (enc (zzc f s cs)) S') :
  zyc r E D [ae (.ref a),ae (enc x),ae (enc y),ae vf,ae (zdZ f),ae va,ae vb,x7] S:=by
 obtain⟨zs,rfl,rfl,rfl,hz⟩:=M.triples;unfold zyc;walk_at "wp";refine zqv h1 λG1 g1 k1=>zqv h2 λG2 g2 k2=>?_;rw[zjT];rw[aq]at hl;refine zaO (λσ=>∃x y,σ=[x,y,ae (.ref a)]) (λz=>W.tup [enc z.1,enc z.2.1]) (λz=>enc z.2.2) ?_ zs [] _ ⟨none,none,rfl⟩ (by simp;omega) (λz hz' σ R hI hR=>?_) ?_
 ·exact⟨g1,g2⟩
 ·obtain⟨u,v,rfl⟩:=hI;simp only[zhp];walk_at "wp";refine one (a':=z.1) (b':=z.2.1) (c':=z.2.2) (aI.mpr ⟨z,hz',rfl⟩) (aI.mpr ⟨z,hz',rfl⟩) (hz z hz') ?_;exact hR _ _ ⟨_,_,rfl⟩ .refl
 ·rw[a9];intro q hq;have eu:(zs.map λz=>enc z.2.2)=encs (zs.map λz=>z.2.2):=by rw[zaw,bj];rfl
  rw[eu];have fq:put S q (Ob.lst (encs (zs.map λz=>z.2.2))) q=ae (.lst (encs (zs.map λz=>z.2.2))):=zag;have sub:Sub S (put S q (Ob.lst (encs (zs.map λz=>z.2.2)))):= .put .refl hq;generalize put S q (Ob.lst (encs (zs.map λz=>z.2.2)))=S1 at fq sub⊢;obtain⟨r,rfl⟩:∃r',r=r'+1:=⟨r - 1,by omega⟩
  cases f with
  |none=>
   subst hx;simp only[zdZ,enc,zzc]at hQ⊢
   try walk_at "wp"
   try rw[zaj fq]
   rw[zaT,aq];exact⟨zal (by decide),zal (by omega),hQ _ sub⟩
  |some t=>
   have ee:zdZ (ae t)= .tup [.str t.1,enc t.2.1,enc t.2.2]:=rfl;rw[ee]
   try walk_at "wp"
   rw[show atI [W.str t.1,enc t.2.1,enc t.2.2] 2=ae (enc t.2.2) from rfl];dsimp only;obtain⟨g1,g2,g3⟩:=hR t rfl;exact zgQ 4 g1 (by omega) fq (by rw[aq];rw[aq]at g3;exact g3) (by omega) (hQ _ sub)
theorem Mv.nd{n:Nat}{x y z:Tr}:Mv B n x y z→ ∃s ts z' us,x= .nd s ts∧y= .nd z' us
 | .nn _ _ _=>⟨_,_,_,_,rfl,rfl⟩
 | .ns _ _ _ _ _=>⟨_,_,_,_,rfl,rfl⟩
 | .sn _ _ _ _=>⟨_,_,_,_,rfl,rfl⟩
 | .ss _ _ _ _=>⟨_,_,_,_,rfl,rfl⟩
section
variable {T:WS}{E:WX}{D:WEnds}{r:Nat}{x0 x1 x2 x5 x6 x7:Option W}
theorem ztw (h:T E D [x0,x1,x2,ae (zdZ none),ae (zdZ none),x5,x6,x7] S):zqV r T E D [x0,x1,x2,ae (zdZ none),ae (zdZ none),x5,x6,x7] S:=by
 rw[show zdZ none=W.non from rfl]at h⊢;unfold zqV;walk_at "wp";exact h
theorem ztv{t t':Tn}(h:T E D [x0,x1,x2,ae (zdZ (ae t')),ae (zdZ (ae t)),x5,x6,x7] S):zqV r T E D [x0,x1,x2,ae (zdZ (ae t')),ae (zdZ (ae t)),x5,x6,x7] S:=by
 have ee:∀t:Tn,zdZ (ae t)= .tup [.str t.1,enc t.2.1,enc t.2.2]:=λ_=>rfl;rw[ee,ee]at h⊢;unfold zqV;walk_at "wp";exact h
theorem ztR{t:Tn}{x:Tr}{ms:List Tr}(e:t.2.1.mt x=ae ms) (hr:t.2.1.depth<r) (ft:x.fits 0) (hw:t.2.1.weight≤90000) (h:∀q,S q=none→T E D [x0,ae (enc x),x2,ae (zdZ none),ae (zdZ (ae t)),ae (.ref q),x6,x7] (put S q (.lst (encs ms)))):zqV (r+1) T E D [x0,ae (enc x),x2,ae (zdZ none),ae (zdZ (ae t)),x5,x6,x7] S:=by
 have ee:∀t:Tn,zdZ (ae t)= .tup [.str t.1,enc t.2.1,enc t.2.2]:=λ_=>rfl;have a1:∀t:Tn,atI [W.str t.1,enc t.2.1,enc t.2.2] 1=ae (enc t.2.1):=λ_=>rfl;rw[ee,show zdZ none=W.non from rfl]at *;unfold zqV;walk_at "wp";rw[a1];dsimp only;refine zen hr ft hw (λys hys q hq=>?_) λh0=>by rw[e]at h0;cases h0
 rw[e]at hys;cases hys
 try walk_at "wp"
 exact h q hq
theorem zuE{t:Tn}{y:Tr}{ms:List Tr}(e:t.2.1.mt y=ae ms) (hr:t.2.1.depth<r) (ft:y.fits 0) (hw:t.2.1.weight≤90000) (h:∀q,S q=none→T E D [x0,x1,ae (enc y),ae (zdZ (ae t)),ae (zdZ none),x5,ae (.ref q),x7] (put S q (.lst (encs ms)))):zqV (r+1) T E D [x0,x1,ae (enc y),ae (zdZ (ae t)),ae (zdZ none),x5,x6,x7] S:=by
 have ee:∀t:Tn,zdZ (ae t)= .tup [.str t.1,enc t.2.1,enc t.2.2]:=λ_=>rfl;have a1:∀t:Tn,atI [W.str t.1,enc t.2.1,enc t.2.2] 1=ae (enc t.2.1):=λ_=>rfl;rw[ee,show zdZ none=W.non from rfl]at *;unfold zqV;walk_at "wp";rw[a1];dsimp only;refine zen hr ft hw (λys hys q hq=>?_) λh0=>by rw[e]at h0;cases h0
 rw[e]at hys;cases hys
 try walk_at "wp"
 exact h q hq
end
theorem zmE (hB:∀t∈B,t.2.1.depth≤4∧t.2.1.weight≤100∧t.2.2.depth≤4∧t.2.2.weight≤100∧t.2.2.fits t.2.1.nb):∀(n:Nat) {S:Sto}{x y z:Tr}{r:Nat}{Q:WK}{E:Str→Sto→Prop},S a=ae (.lst (B.map zba))→Mv B n x y z→n+12≤r→x.hd (λ_=>True)→y.hd (λ_=>True)→x.weight≤1000→y.weight≤1000→Q (enc z) S→zcT (r+1) [.ref a,enc x,enc y] S Q E
 |0,S,x,y,z,r,Q,E,ha,M,hr,hx,hy,wx,wy,h=>by cases M
 |n+1,S,x,y,z,r,Q,E,ha,M,hr,hx,hy,wx,wy,h=>by
  obtain⟨r,rfl⟩:∃r',r=r'+1:=⟨r - 1,by omega⟩
  have one:∀{as bs:List Tr},hds (λ_=>True) as→hds (λ_=>True) bs→wts as≤1000→wts bs≤1000→ ∀(S1:Sto),Sub S S1→ ∀{a' b' c':Tr}{Q:WK}{E:Str→Sto→Prop},a'∈as→b'∈bs→Mv B n a' b' c'→Q (enc c') S1→zcT (r+1) [.ref a,enc a',enc b'] S1 Q E:=λ{as bs} h1 h2 h3 h4 S1 sb {a' b' c' Q E} m1 m2 M q=>
   zmE hB n (sb _ _ ha) M (by omega) (hds_iff.mp h1 _ m1) (hds_iff.mp h2 _ m2) (by have:=zdc m1;omega) (by have:=zdc m2;omega) q
  have start:∀{s z:Str}{ts us:List Tr}{E':WX}{D:WEnds}{S1:Sto}{va vb vf:W}{f:Option Tn}{as bs cs:List Tr},S1 a=ae (.lst (B.map zba))→Sub S S1→zvW S1 va (encs as)→zvW S1 vb (encs bs)→Mvs B n as bs cs→hds (λ_=>True) as→hds (λ_=>True) bs→wts as≤1000→wts bs≤1000→(∀t,f=ae t→t∈B∧cs.length=t.2.1.nb)→(∀S',Sub S S'→D.rt (enc (zzc f s cs)) S')→
    zyc (r+1) E' D [ae (.ref a),ae (W.tup (W.str s::encs ts)),ae (W.tup (W.str z::encs us)),ae vf,ae (zdZ f),ae va,ae vb,none] S1:=λ{s z ts us E' D S1 va vb vf f as bs cs} hS1 sb q1 q2 M h1 h2 h3 h4 hf hQ=>by
   have hl:=zcP as;have:=zrC (x:= .nd s ts) (y:= .nd z us) (vf:=vf) (f:=f) (x7:=none) (E:=E') (D:=D) rfl hS1 q1 q2 M (by omega) (λt ht=>by
    obtain⟨m,e⟩:=hf t ht;obtain⟨g1,g2,g3,g4,g5⟩:=hB t m;exact⟨g3,g4,by rw[e];exact g5⟩) (by omega) (one h1 h2 h3 h4 S1 sb) λS' sb'=>hQ S' (sb.trans sb')
   simpa only[enc]using this
  obtain⟨s,ts,z',us,rfl,rfl⟩:=M.nd;have ex:enc (.nd s ts)= .tup (.str s::encs ts):=by simp only[enc]
  have ey:enc (.nd z' us)= .tup (.str z'::encs us):=by simp only[enc]
  have hx':=hx;have hy':=hy;have wx':=wx;have wy':=wy;simp only[Tr.hd]at hx' hy';simp only[Tr.weight]at wx' wy';rw[znT,ex,ey];walk_at "wp";refine zfm ha (zfm ha ?_);cases M with
  | @nn _ _ _ _ _ cs e1 e2 M=>
   rw[e1,e2];exact ztw (start (f:=none) ha .refl (.inl rfl) (.inl rfl) M hx'.2 hy'.2 (by omega) (by omega) (λ_ h=>nomatch h) λS' sb=>⟨_,sb,h⟩)
  | @ns _ _ _ _ _ cs ms t e1 e2 e3 e4 M=>
   have ht:t∈B:=cA e2;have hm:=zpf t.2.1 _ _ e3 hx;have ft:=zeV (m:=0) _ hx;obtain⟨g1,g2,g3,g4,g5⟩:=hB t ht;rw[e1,e2,←ex];refine ztR e3 (by omega) ft (by omega) λq hq=>?_;rw[ex];exact start (f:=ae t) (keep ha hq) (.put .refl hq) (.inr ⟨q,rfl,zag⟩) (.inl rfl) M hm.1 hy'.2 (by omega) (by omega) (λ_ h=>by cases h;exact⟨ht,e4⟩) λS' sb=>⟨_,sb,h⟩
  | @sn _ _ _ _ _ cs ms t e1 e2 e3 M=>
   have ht:t∈B:=cA e1;have hm:=zpf t.2.1 _ _ e3 hy;have ft:=zeV (m:=0) _ hy;obtain⟨g1,g2,g3,g4,g5⟩:=hB t ht;rw[e1,e2,←ey];refine zuE e3 (by omega) ft (by omega) λq hq=>?_;rw[ey];exact start (f:=none) (keep ha hq) (.put .refl hq) (.inl rfl) (.inr ⟨q,rfl,zag⟩) M hx'.2 hm.1 (by omega) (by omega) (λ_ h=>nomatch h) λS' sb=>⟨_,sb,h⟩
  | @ss _ _ _ _ _ cs t t' e1 e2 e3 M=>
   have ht:t∈B:=cA e2;rw[e1,e2];exact ztv (start (f:=ae t) ha .refl (.inl rfl) (.inl rfl) M hx'.2 hy'.2 (by omega) (by omega) (λ_ h=>by cases h;exact⟨ht,e3⟩) λS' sb=>⟨_,sb,h⟩)
end
theorem zwo:zaJ 1=λt=>t.2.1:=by funext t;exact if_pos rfl
theorem zwG:zaJ 2=λt=>t.2.2:=by funext t;exact if_neg (by decide)
section
variable {ws hs:List Str}{B:List Tn}
theorem BkOk.s1 (b:BkOk ws hs B):Sides (zaJ 1) B:=by
 rw[zwo];refine⟨λt ht=>(b.lf t ht).fits,λt ht=>(b.lf t ht).dp,λt ht=>?_⟩;have h1:=(b.lf t ht).wt;have h2:=(b.lf t ht).nb;show t.2.1.weight≤10;omega
theorem BkOk.s2 (b:BkOk ws hs B):Sides (zaJ 2) B:=by
 rw[zwG];refine⟨λt ht=>(b.ri t ht).fits,λt ht=>?_,λt ht=>?_⟩
 ·have:=(b.ri t ht).dp;show t.2.2.depth≤4;omega
 ·have:=(b.ri t ht).wt;show t.2.2.weight≤10;omega
mutual
theorem zyK:∀(L t:Tr) (ys:List Tr),L.mt t=ae ys→ ∀y∈ys,y.depth≤t.depth
 | .bl n,t,ys,e,y,hy=>by
  rw[Tr.mt]at e;cases e;rw[bh]at hy;rw[hy];exact au _
 | .nd s ls, .bl n,ys,e,y,hy=>by rw[Tr.mt]at e;cases e
 | .nd s ls, .nd z us,ys,e,y,hy=>by
  rw[Tr.mt]at e;split at e
  ·have:=zmJ ls us ys e y hy;rw[Tr.depth];omega
  ·cases e
theorem zmJ:∀(ls us ys:List Tr),mts ls us=ae ys→ ∀y∈ys,y.depth≤dts us
 | [],us,ys,e,y,hy=>by rw[mts]at e;cases e;cases hy
 |l::ls,[],ys,e,y,hy=>by rw[mts]at e;cases e;cases hy
 |l::ls,u::us,ys,e,y,hy=>by
  rw[mts]at e;cases q1:l.mt u with
  |none=>rw[q1]at e;cases e
  |some xs=>
   rw[q1]at e;cases q2:mts ls us with
   |none=>rw[q2]at e;cases e
   |some zs=>
    rw[q2]at e;cases e;rw[dts];rcases bq.mp hy with hy |hy
    ·have:=zyK l u xs q1 y hy;omega
    ·have:=zmJ ls us zs q2 y hy;omega
end
mutual
theorem Mv.fuel{B:List Tn}(hn:∀t∈B,∃s ts,t.2.1= .nd s ts):∀{n:Nat}{a b c:Tr},Mv B n a b c→Mv B a.depth a b c
 |_,_,_,_, .nn h1 h2 h3=>by
  rw[Tr.depth,ef];exact .nn h1 h2 ((Mvs.fuel hn h3).mono (au _))
 |_,_,_,_, .ns (ms:=ms) (t:=t) h1 h2 h3 h4 h5=>by
  rw[Tr.depth,ef];refine .ns h1 h2 h3 h4 ((Mvs.fuel hn h5).mono (zij λy hy=>?_));obtain⟨s',ls,e⟩:=hn t (cA h2);rw[e,Tr.mt]at h3;split at h3
  ·exact zmJ _ _ _ h3 y hy
  ·cases h3
 |_,_,_,_, .sn h1 h2 h3 h4=>by
  rw[Tr.depth,ef];exact .sn h1 h2 h3 ((Mvs.fuel hn h4).mono (au _))
 |_,_,_,_, .ss h1 h2 h3 h4=>by
  rw[Tr.depth,ef];exact .ss h1 h2 h3 ((Mvs.fuel hn h4).mono (au _))
theorem Mvs.fuel{B:List Tn}(hn:∀t∈B,∃s ts,t.2.1= .nd s ts):∀{n:Nat}{as bs cs:List Tr},Mvs B n as bs cs→Mvs B (dts as) as bs cs
 |_,_,_,_, .nil=> .nil
 |_,_,_,_, .cons h1 h2=>by
  rw[dts];exact .cons ((Mv.fuel hn h1).mono (Nat.le_max_left _ _)) ((Mvs.fuel hn h2).mono (Nat.le_max_right _ _))
end
structure Pk (ws hs:List Str) (B:List Tn) (p:Pl):Prop where
  b:BkOk ws hs B
  m:zyb B
  o:PlOk hs B p
  dp:∀{c:Int→Nat},(p.ev B c).depth≤40
  wt:∀{c:Int→Nat},(p.ev B c).weight≤400
theorem Pk.ar (k:Pk ws hs B p):(p.ev B c).ar B:=zuo _ (ztn k.b k.o)
theorem Pk.hd (k:Pk ws hs B p):(p.ev B c).hd λ_=>True:=zyk k.b (λ_ _=>trivial) (λ_ _ _=>trivial) k.o
theorem Pk.src (k:Pk ws hs B p):(p.ev B c).mk B (zaJ 1)=p.ev B (zgs c):=by rw[zwo];exact zeC k.b k.o
theorem Pk.goal (k:Pk ws hs B p):(p.ev B c).mk B (zaJ 2)=p.ev B (zbt c):=by rw[zwG];exact zdg k.b k.o
theorem Pk.ok_source (k:Pk ws hs B p) (ha:S a=ae (.lst (B.map zba))) (hr:60≤r) (h:Q (enc (p.ev B (zgs c))) S):zdP (r+1) [.ref a,enc (p.ev B c)] S Q E:=by
 have h1:=k.wt (c:=c);have h2:=k.dp (c:=c);have h3:=k.wt (c:=zgs c);have h4:=k.dp (c:=zgs c);exact L2.ok_source ha k.b.s1 (by omega) hr k.ar (by omega) (by rw[k.src];omega) (by rw[k.src];omega) (by rw[k.src];exact h)
theorem Pk.ok_goal (k:Pk ws hs B p) (ha:S a=ae (.lst (B.map zba))) (hr:60≤r) (h:Q (enc (p.ev B (zbt c))) S):zgg (r+1) [.ref a,enc (p.ev B c)] S Q E:=by
 have h1:=k.wt (c:=c);have h2:=k.dp (c:=c);have h3:=k.wt (c:=zbt c);have h4:=k.dp (c:=zbt c);exact L2.ok_goal ha k.b.s2 (by omega) hr k.ar (by omega) (by rw[k.goal];omega) (by rw[k.goal];omega) (by rw[k.goal];exact h)
def Ok2 (c d:Int→Nat):Prop:=∀x:Int,0≤x→x<8→(c x≤1∧d x≤1)∨(c x=2∧d x=2)
theorem Pk.ok_move (k:Pk ws hs B p) (hc:Ok2 c d) (ha:S a=ae (.lst (B.map zba))) (hr:60≤r) (h:Q (enc (p.ev B (zkP c d))) S):zcT (r+1) [.ref a,enc (p.ev B c),enc (p.ev B d)] S Q E:=by
 have h1:=k.wt (c:=c);have h3:=k.wt (c:=d);have bd:=k.dp (c:=c);refine zmE (λt ht=>?_) (p.ev B c).depth ha ((ziF k.b k.m hc k.o).fuel λt ht=>(k.b.lf t ht).nd) (by omega) k.hd k.hd (by omega) (by omega) h;have L:=k.b.lf t ht;have R:=k.b.ri t ht;have g1:=L.dp;have g2:=L.wt;have g3:=L.nb;have g4:=R.dp;have g5:=R.wt;exact⟨by omega,by omega,by omega,by omega,R.fits⟩
end
theorem zys (f x:Int):byC f x≤1:=by unfold byC;split<;>omega
section
variable {S:Sto}{a:Addr}{B:List Tn}{n:Int}
theorem zkd (B:List Tn) (s:Str) (g:Tn→W):B.findSome? (λt=>if t.1 == s then ae (g t) else none)=(zaZ B s).map g:=by
 unfold zaZ
 induction B with
 |nil=>rfl
 |cons t B ih=>
  rw[d5,bF];cases e:t.1 == s with
  |true=>rfl
  |false=>simpa using ih
theorem zls (hnd:(B.map λt=>t.1).Nodup) (ha:S a=ae (.lst (B.map zba))) (hn:n=1∨n=2) (hg:Sides (zaJ n) B):∀(d:Nat) {t:Tr}{r:Nat}{Q:WK}{E:Str→Sto→Prop},t.depth≤d→d+10≤r→t.ar B→t.weight≤1000→Q (enc (t.mk B (zaJ n))) S→zaN (r+1) [.ref a,enc t, .int n] S Q E
 |0,t,r,Q,E,hd,hr,hh,hw,h=>by have:=zaS t;omega
 |d+1, .bl k,r,Q,E,hd,hr,hh,hw,h=>by simp [Tr.ar]at hh
 |d+1, .nd s ts,r,Q,E,hd,hr,hh,hw,h=>by
  simp only[Tr.depth]at hd;simp only[Tr.weight]at hw;simp only[Tr.ar]at hh;have hk:=zcP ts;obtain⟨r,rfl⟩:∃r',r=r'+1:=⟨r - 1,by omega⟩
  rw[zaN];simp only[enc];walk_at "wp";rw[zaw];refine zaO (λσ=>∃x,σ=[x,ae (.ref a),ae (.int n)]) enc (λt=>enc (t.mk B (zaJ n))) trivial ts [] _ ⟨none,rfl⟩ (by simp;omega) (λx hx σ R hI hR=>?_) ?_
  ·obtain⟨y,rfl⟩:=hI;have hdx:=zbA hx;have hwx:=zdc hx;simp only[zfq];walk_at "wp";exact zls hnd ha hn hg d (by omega) (by omega) (ars_iff.mp hh.2 x hx) (by omega) (hR _ _ ⟨_,rfl⟩ .refl)
  ·rw[a9];intro q hq;have eu:(ts.map λt=>enc (t.mk B (zaJ n)))=encs (ts.map (Tr.mk B (zaJ n))):=by rw[zaw,bj];rfl
   rw[eu,←zaw];have fq:put S q (Ob.lst (encs (ts.map (Tr.mk B (zaJ n))))) q=ae (.lst (encs (ts.map (Tr.mk B (zaJ n))))):=zag;have fa:=keep (x:=Ob.lst (encs (ts.map (Tr.mk B (zaJ n))))) ha hq;have sub:Sub S (put S q (Ob.lst (encs (ts.map (Tr.mk B (zaJ n)))))):= .put .refl hq;generalize put S q (Ob.lst (encs (ts.map (Tr.mk B (zaJ n)))))=S1 at fq fa sub⊢
   try walk_at "wp"
   rw[zaj fa];refine zfl (S:=S1) ?_ (λσ=>∃x,σ=[ae (.ref a),ae (.tup (.str s::encs ts)),ae (.int n),ae (.ref q),x]) zba (λt=>if t.1 == s then ae (enc ((zaJ n t).fill (ts.map (Tr.mk B (zaJ n))))) else none) B _ ⟨_,rfl⟩ (λt ht σ N hI hno hret=>?_) (λe σ hI=>?_) λw e S' sb=>?_
   ·exact fa
   ·obtain⟨x,rfl⟩:=hI;simp only[zfh];have ee:zba t= .tup [.str t.1,enc t.2.1,enc t.2.2]:=rfl;rw[ee];walk_at "wp";cases e:t.1 == s with
    |true=>
     rw[e]at hret
     try walk_at "wp"
     rw[zqw t hn];dsimp only;have et:t.1=s:=by simpa using e
     have hgw:=hg.wt t ht;refine zfQ 4 (hg.dp t ht) (by omega) fq ?_ (by omega) (hret _ rfl _ .refl);rw[aq,hh.1 t (by rw[←et];exact zcr hnd ht)];exact hg.fits t ht
    |false=>
     rw[e]at hno;exact hno rfl _ _ ⟨_,rfl⟩ .refl
   ·obtain⟨x,rfl⟩:=hI;rw[zkd]at e;have e0:zaZ B s=none:=by
     cases z:zaZ B s with
     |none=>rfl
     |some t=>rw[z]at e;cases e
    rw[zly e0]at h
    try walk_at "wp"
    rw[zmk]
    try rw[zaj fq]
    try walk_at "wp"
    simp only[enc]at h;refine⟨zal ?_,_,sub,h⟩;rw[zaT,aq];omega
   ·rw[zkd]at e;cases z:zaZ B s with
    |none=>rw[z]at e;cases e
    |some t=>
     rw[z]at e;rw[zlJ z]at h;cases e;exact⟨_,sub.trans sb,h⟩
end
section
variable {S:Sto}{a:Addr}{ws hs:List Str}{B:List Tn}{c:Int→Nat}{p:Pl}{r:Nat}{Q:WK}{E:Str→Sto→Prop}
theorem Pk.ok_made1 (k:Pk ws hs B p) (ha:S a=ae (.lst (B.map zba))) (hr:60≤r) (h:Q (enc (p.ev B (zgs c))) S):zaN (r+1) [.ref a,enc (p.ev B c), .int 1] S Q E:=by
 have h1:=k.wt (c:=c);have h2:=k.dp (c:=c);exact zls k.b.nd ha (.inl rfl) k.b.s1 40 h2 (by omega) k.ar (by omega) (by rw[k.src];exact h)
theorem Pk.ok_made2 (k:Pk ws hs B p) (ha:S a=ae (.lst (B.map zba))) (hr:60≤r) (h:Q (enc (p.ev B (zbt c))) S):zaN (r+1) [.ref a,enc (p.ev B c), .int 2] S Q E:=by
 have h1:=k.wt (c:=c);have h2:=k.dp (c:=c);exact zls k.b.nd ha (.inr rfl) k.b.s2 40 h2 (by omega) k.ar (by omega) (by rw[k.goal];exact h)
end
noncomputable def pps (B:List Tn) (s:Str) (n:Nat):List (List Int):=match zaZ B s with
 |none=>(aU n).map λ(i:Nat)=>[(i:Int)]
 |some t=>t.2.1.bls.map λx=>x.1
mutual
noncomputable def Tr.us (B:List Tn) (p:List Int):Tr→List (List Int×Str)
 | .bl _=>[]
 | .nd s ts=>(match zaZ B s with
  |none=>[]
  |some _=>[(p,s)])++usz B p (pps B s ts.length) ts
noncomputable def usz (B:List Tn) (p:List Int):List (List Int)→List Tr→List (List Int×Str)
 |q::qs,t::ts=>t.us B (p++q)++usz B p qs ts
 |_,_=>[]
end
noncomputable def ppl (B:List Tn) (k:Int) (n:Nat):List (List Int):=if k<0 then(aU n).map λ(i:Nat)=>[(i:Int)] else(B.getD k.toNat (⟨#[]⟩, .bl 0, .bl 0)).2.1.bls.map λx=>x.1
mutual
noncomputable def Pl.ns (B:List Tn) (p:List Int):Pl→List (List Int×Int×Str)
 | .nd k b h ps=>(if k<0 then [] else [(p,b,(B.getD k.toNat (⟨#[]⟩, .bl 0, .bl 0)).1)])++nsz B p (ppl B k ps.length) ps
noncomputable def nsz (B:List Tn) (p:List Int):List (List Int)→List Pl→List (List Int×Int×Str)
 |q::qs,t::ts=>t.ns B (p++q)++nsz B p qs ts
 |_,_=>[]
end
noncomputable def zzO (c:Int→Nat) (xs:List (List Int×Int×Str)):List (List Int×Str):=(xs.filter λx=>c x.2.1 == 1).map λx=>(x.1,x.2.2)
noncomputable def zey (B:List Tn) (t:Tr):Option Tn:=B.find? λu=>(u.2.1.mt t).isSome
mutual
noncomputable def Tr.op (B:List Tn) (p:List Int):Tr→List (List Int×Str)
 | .bl _=>[]
 | .nd s ts=>(match zey B (.nd s ts) with
  |none=>[]
  |some t=>[(p,t.1)])++ops B p 0 ts
noncomputable def ops (B:List Tn) (p:List Int) (i:Nat):List Tr→List (List Int×Str)
 | []=>[]
 |t::ts=>t.op B (p++[(i:Int)])++ops B p (i+1) ts
end
theorem zdA{n:Nat}{h c d:Str}{L:Tr}(hL:L∈leftsL n h c d):∃ts,L= .nd h ts:=by
 unfold leftsL at hL;split at hL<;>simp only[az,bx,or_false]at hL
 all_goals first
  | (subst hL;exact⟨_,rfl⟩)
  | (rcases hL with rfl |rfl<;>exact⟨_,rfl⟩)
theorem zlD{s z:Str}{ls us:List Tr}(h:((Tr.nd s ls).mt (.nd z us)).isSome=true):s=z:=by
 simp only[Tr.mt]at h;split at h
 ·rename_i q;simp only[b3,beq_iff_eq]at q;exact q.1
 ·cases h
theorem zji{n:Nat}{h c d:Str}{L M x:Tr}(hL:L∈leftsL n h c d) (hM:M∈leftsL n h c d) (h1:(L.mt x).isSome=true) (h2:(M.mt x).isSome=true):L=M:=by
  cases x with
  |bl k=>
    obtain⟨ts,rfl⟩:=zdA hL;simp [Tr.mt]at h1
  |nd s ts=>
    unfold leftsL at hL hM;split at hL<;>simp only[az,bx,or_false]at hL hM
    all_goals first
      | (rw[hL,hM])
      | (rcases hL with rfl |rfl<;>rcases hM with rfl |rfl<;>first
          |rfl
          | (exfalso
             rcases ts with _ |⟨u,us⟩
             · simp [Tr.mt]at h1
             · cases u with
               |bl k=>simp [Tr.mt,mts]at h1 h2
               |nd z vs=>
                 rcases vs with _ |⟨v,vs⟩
                 · simp [Tr.mt,mts]at h1 h2
                 · rcases vs with _ |⟨v',vs⟩
                   · cases v with
                     |bl k=>simp [Tr.mt,mts]at h1 h2
                     |nd z' xs=>
                       rcases xs with _ |⟨x',xs⟩
                       · simp [Tr.mt,mts]at h1 h2
                       · simp [Tr.mt,mts]at h1 h2
                   · simp [Tr.mt,mts]at h1 h2))
section
variable {w0 w1 w2 w3 w4 w5:Str}{tt:List Str}{B:List Tn}
theorem BookOk.one (b:BookOk w0 w1 w2 w3 w4 w5 tt B) (G:Signs w0 w1 w2 w3 w4 w5) {u v:Tn}(hu:u∈B) (hv:v∈B) {x:Tr}(h1:(u.2.1.mt x).isSome=true) (h2:(v.2.1.mt x).isSome=true):u.2.1=v.2.1:=by
 obtain⟨n,m,e⟩:=b.lf;have mu:u.2.1∈leftsL n w0 w2 w3++leftsL m w1 w2 w3:=by rw[←e];exact aI.mpr ⟨u,hu,rfl⟩
 have mv:v.2.1∈leftsL n w0 w2 w3++leftsL m w1 w2 w3:=by rw[←e];exact aI.mpr ⟨v,hv,rfl⟩
 have key:∀{L M:Tr},L∈leftsL n w0 w2 w3→M∈leftsL m w1 w2 w3→(L.mt x).isSome=true→(M.mt x).isSome=true→False:=λ{L M} hL hM k1 k2=>by
  obtain⟨ts,rfl⟩:=zdA hL;obtain⟨us,rfl⟩:=zdA hM;cases x with
  |bl k=>simp [Tr.mt]at k1
  |nd s vs=>exact G.n0 w1 (by simp) ((zlD k1).trans (zlD k2).symm)
 rcases bq.mp mu with z |z<;>rcases bq.mp mv with y |y
 ·exact zji z y h1 h2
 ·exact(key z y h1 h2).elim
 ·exact(key y z h2 h1).elim
 ·exact zji z y h1 h2
theorem zgT (n:Nat) (h c d:Str):(leftsL n h c d).Nodup:=by
 unfold leftsL;split<;>simp
theorem BookOk.inj (b:BookOk w0 w1 w2 w3 w4 w5 tt B) (G:Signs w0 w1 w2 w3 w4 w5):(B.map λt=>t.2.1).Nodup:=by
 obtain⟨n,m,e⟩:=b.lf;rw[e,jT];refine⟨zgT ..,zgT ..,λx hx y hy=>?_⟩;obtain⟨ts,rfl⟩:=zdA hx;obtain⟨us,rfl⟩:=zdA hy;intro z;cases z;exact G.n0 _ (by simp) rfl
theorem zsO{α β:Type}{f:α→β}:∀{xs:List α}{x y:α},(xs.map f).Nodup→x∈xs→y∈xs→f x=f y→x=y
 |z::xs,x,y,h,hx,hy,e=>by
  rw[aA,dc]at h;rcases az.mp hx with h1 |h1
  ·rcases az.mp hy with h2 |h2
   ·rw[h1,h2]
   ·exact(h.1 (aI.mpr ⟨y,h2,by rw[←e,h1]⟩)).elim
  ·rcases az.mp hy with h2 |h2
   ·exact(h.1 (aI.mpr ⟨x,h1,by rw[e,h2]⟩)).elim
   ·exact zsO h.2 h1 h2 e
end
mutual
inductive Wi (B:List Tn) (wn:List (List Int)):Nat→List Int→Tr→Tr→Prop
 |no {n:Nat}{p:List Int}{s:Str}{ts us:List Tr}:p∉wn→zaZ B s=none→Wis B wn n p ((aU ts.length).map λ(i:Nat)=>[(i:Int)]) ts us→Wi B wn (n+1) p (.nd s ts) (.nd s us)
 |yes {n:Nat}{p:List Int}{s:Str}{ts us ms:List Tr}{t:Tn}:p∈wn→zey B (.nd s ts)=ae t→t.2.1.mt (.nd s ts)=ae ms→zaZ B t.1=ae t→Wis B wn n p (t.2.1.bls.map λx=>x.1) ms us→Wi B wn (n+1) p (.nd s ts) (.nd t.1 us)
inductive Wis (B:List Tn) (wn:List (List Int)):Nat→List Int→List (List Int)→List Tr→List Tr→Prop
 |nil {n:Nat}{p:List Int}:Wis B wn n p [] [] []
 |cons {n:Nat}{p q:List Int}{qs:List (List Int)}{t u:Tr}{ts us:List Tr}:Wi B wn n (p++q) t u→Wis B wn n p qs ts us→Wis B wn n p (q::qs) (t::ts) (u::us)
end
noncomputable def zjH (c:Int→Nat) (xs:List (List Int×Int×Str)):List (List Int):=(zzO c xs).map λx=>x.1
def zlj (qs:List (List Int)):Prop:=qs.Pairwise λa b=>¬a <+:b∧ ¬b <+:a
noncomputable def zjr (x:List Int×Str):W:= .tup [zbn x.1, .str x.2]
section
variable {a:Addr}{B:List Tn}
structure Lft (B:List Tn):Prop where
  d:∀t∈B,t.2.1.depth≤4
  w:∀t∈B,t.2.1.weight≤20
theorem zny{S:Sto}{r:Nat}{Q:WK}{E:Str→Sto→Prop}{s:Str}{ts:List Tr}(L:Lft B) (ha:S a=ae (.lst (B.map zba))) (hl:ts.length≤1000) (hr:20≤r) (h:∀q,S q=none→Q (.ref q) (put S q (.lst ((pps B s ts.length).map zbn)))):zbG (r+1) [.ref a,enc (.nd s ts)] S Q E:=by
 obtain⟨r,rfl⟩:∃r',r=r'+1:=⟨r - 1,by omega⟩
 rw[zbG];simp only[enc];walk_at "wp";refine zfm ha ?_;unfold pps at h;cases e:zaZ B s with
 |none=>
  rw[e]at h;simp only[zdZ]
  try walk_at "wp"
  rw[zaT];have e1:(((ts.length+1:Nat):Int) - 1).toNat=ts.length:=by omega
  rw[e1];refine⟨⟨by omega,by omega⟩,?_⟩
  rw[znx];refine zaO (λσ=>∃x,σ=[x]) (λi:Nat=>W.int i) (λi=>zbn [(i:Int)]) trivial (aU ts.length) [] _ ⟨none,rfl⟩ (by simp;omega) (λx hx σ R hI hR=>?_) ?_
  ·obtain⟨y,rfl⟩:=hI;simp only[zdW];walk_at "wp";exact⟨zal (by decide),hR _ _ ⟨_,rfl⟩ .refl⟩
  ·rw[a9];intro q hq;have:=h q hq;simp only[bj]at this;exact⟨_, .refl,this⟩
 |some t=>
  rw[e]at h;have ht:t∈B:=cA e;have ee:zdZ (ae t)= .tup [.str t.1,enc t.2.1,enc t.2.2]:=rfl;rw[ee]
  try walk_at "wp"
  rw[show atI [W.str t.1,enc t.2.1,enc t.2.2] 1=ae (enc t.2.1) from rfl];dsimp only;have h1:=L.d t ht;have h2:=L.w t ht;refine znW (by omega) (by omega) λq hq=>?_;have:=h q hq;simp only[bj]at this;exact⟨_, .refl,this⟩
theorem zkm (B:List Tn) (x:Tr):B.findSome? (λt=>if(t.2.1.mt x).isSome then ae (zba t) else none)=(zey B x).map zba:=by
 unfold zey
 induction B with
 |nil=>rfl
 |cons t B ih=>
  rw[d5,bF];cases e:(t.2.1.mt x).isSome with
  |true=>rfl
  |false=>simpa using ih
theorem zgS{S:Sto}{r:Nat}{Q:WK}{E:Str→Sto→Prop}{x:Tr}(L:Lft B) (ha:S a=ae (.lst (B.map zba))) (hf:x.fits 0) (hr:20≤r) (h:Q (zdZ (zey B x)) S):zby (r+1) [.ref a,enc x] S Q E:=by
 obtain⟨r,rfl⟩:∃r',r=r'+1:=⟨r - 1,by omega⟩
 rw[zby];walk_at "wp";rw[zaj ha];refine zfl (S:=S) ?_ (λσ=>∃y,σ=[ae (.ref a),ae (enc x),y]) zba (λt=>if(t.2.1.mt x).isSome then ae (zba t) else none) B _ ⟨_,rfl⟩ (λt ht σ N hI hno hret=>?_) (λe σ hI=>?_) λw e S' sb=>?_
 ·exact ha
 ·obtain⟨y,rfl⟩:=hI;simp only[zdU];have ee:zba t= .tup [.str t.1,enc t.2.1,enc t.2.2]:=rfl;rw[ee];walk_at "wp";rw[show atI [W.str t.1,enc t.2.1,enc t.2.2] 1=ae (enc t.2.1) from rfl];dsimp only;have h1:=L.d t ht;have h2:=L.w t ht;refine zen (by omega) hf (by omega) (λys hys q hq=>?_) λh0=>?_
  ·try walk_at "wp"
   rw[hys]at hret;exact hret _ rfl _ (.put .refl hq)
  ·try walk_at "wp"
   rw[h0]at hno;exact hno rfl _ _ ⟨_,rfl⟩ .refl
 ·obtain⟨y,rfl⟩:=hI;walk_at "wp";rw[zkm]at e;have:zey B x=none:=by
   cases q:zey B x with
   |none=>rfl
   |some t=>rw[q]at e;cases e
  rw[this]at h;exact⟨_, .refl,h⟩
 ·rw[zkm]at e;cases q:zey B x with
  |none=>rw[q]at e;cases e
  |some t=>
   rw[q]at e h;cases e;exact⟨_,sb,h⟩
end
mutual
theorem znb (B:List Tn):∀(t:Tr) (p:List Int),(t.op B p).length≤t.weight
 | .bl n,p=>by simp [Tr.op]
 | .nd s ts,p=>by
  have:=zqK B ts p 0;rw[Tr.op,aS,Tr.weight];split<;>simp<;>omega
theorem zqK (B:List Tn):∀(ts:List Tr) (p:List Int) (i:Nat),(ops B p i ts).length≤wts ts
 | [],p,i=>by simp [ops]
 |t::ts,p,i=>by
  have h1:=znb B t (p++[(i:Int)]);have h2:=zqK B ts p (i+1);rw[ops,aS,wts];omega
end
section
variable {a f:Addr}{B:List Tn}
mutual
theorem zmL (L:Lft B) (haf:f≠a):∀(t:Tr) {r:Nat}{p:List Int}{xs:List W}{S:Sto}{Q:WK}{E:Str→Sto→Prop},t.depth+25≤r→S a=ae (.lst (B.map zba))→S f=ae (.lst xs)→xs.length+t.weight≤100000→p.length+t.depth≤1000→t.hd (λ_=>True)→
  Q .non (put S f (.lst (xs++(t.op B p).map zjr)))→zbq (r+1) [.ref a,enc t,zbn p, .ref f] S Q E
 | .bl n,r,p,xs,S,Q,E,hr,ha,hf,hx,hp,hh,h=>by simp [Tr.hd]at hh
 | .nd s ts,r,p,xs,S,Q,E,hr,ha,hf,hx,hp,hh,h=>by
  have ft:=zeV (m:=0) _ hh;simp only[Tr.depth]at hr hp;simp only[Tr.weight]at hx;simp only[Tr.hd]at hh;obtain⟨r,rfl⟩:∃r',r=r'+1:=⟨r - 1,by omega⟩
  rw[zbq];have ee:enc (.nd s ts)= .tup (.str s::encs ts):=by simp only[enc]
  walk_at "wp";refine zgS L ha ft (by omega) ?_;rw[Tr.op]at h;cases e:zey B (.nd s ts) with
  |none=>
   rw[e]at h;simp only[a9]at h;simp only[zdZ];rw[ee]
   try walk_at "wp"
   exact zhl L haf ts (by omega) ha hf (by omega) (by omega) hh.2 λx5 x6=>⟨_, .refl,h⟩
  |some t=>
   rw[e]at h;have et:zdZ (ae t)= .tup [.str t.1,enc t.2.1,enc t.2.2]:=rfl;rw[et,ee]
   try walk_at "wp"
   simp only[zaj hf,true_and];refine⟨zal (by decide),zbM (by omega),?_⟩;refine zhl L haf ts (xs:=xs++[zjr (p,t.1)]) (by omega) (by rw[zaA (bn haf)];exact ha) zag (by simp;omega) (by omega) hh.2 λx5 x6=>⟨_, .refl,?_⟩;rw[zbc];simpa using h
theorem zhl (L:Lft B) (haf:f≠a):∀(ts:List Tr) {r:Nat}{p:List Int}{i:Nat}{xs:List W}{S:Sto}{E:WX}{D:WEnds}{t0 x4 x5 x6:Option W},dts ts+25≤r→S a=ae (.lst (B.map zba))→S f=ae (.lst xs)→xs.length+wts ts≤100000→p.length+1+dts ts≤1000→hds (λ_=>True) ts→
  (∀x5 x6,D.nx [ae (.ref a),t0,ae (zbn p),ae (.ref f),x4,x5,x6] (put S f (.lst (xs++(ops B p i ts).map zjr))))→
  forL (wGT (zat (wGN 5) (zat (wGN 6) zbT))) (zdb (r+1) (zbq (r+1))) E D (λ_=>True) (zhz i (encs ts)) [ae (.ref a),t0,ae (zbn p),ae (.ref f),x4,x5,x6] S
 | [],r,p,i,xs,S,E,D,t0,x4,x5,x6,hr,ha,hf,hx,hp,hh,h=>by
  simp only[encs,zhz,forL];have:=h x5 x6;rw[ops,cp,bI,zdT hf]at this;exact this
 |t::ts,r,p,i,xs,S,E,D,t0,x4,x5,x6,hr,ha,hf,hx,hp,hh,h=>by
  simp only[dts]at hr hp;simp only[wts]at hx;simp only[hds]at hh;simp only[encs,zhz];refine zbj λN hN=>?_;simp only[zdb];walk_at "wp";rw[zmN];refine⟨zal (by decide),zal (by omega),?_⟩;have ol:=znb B t (p++[(i:Int)]);refine zmL L haf t (by omega) ha hf (by omega) (by simp;omega) hh.1 ?_;refine hN _ _ _ .refl trivial (zhl L haf ts (xs:=xs++(t.op B (p++[(i:Int)])).map zjr) (by omega) (by rw[zaA (bn haf)];exact ha) zag (by simp;omega) (by omega) hh.2 λx5 x6=>?_);rw[zbc];have:=h x5 x6;rw[ops,bD]at this;simpa using this
end
theorem zto{p q:List Int}{S:Sto}{Q:WK}:zdF (zbn p) (zbn q) S Q=(p.length+q.length≤sizeLine∧Q (zbn (p++q)) S):=by
 unfold zbn;rw[zhg,aq,aq,bD]
def PB (B:List Tn):Prop:=∀t∈B,∀x∈t.2.1.bls,x.1.length≤4
theorem zoQ{s:Str}{n:Nat}(h:PB B):∀q∈pps B s n,q.length≤4:=λq hq=>by
 unfold pps at hq;cases e:zaZ B s with
 |none=>
  rw[e]at hq;obtain⟨i,_,rfl⟩:=aI.mp hq;simp
 |some t=>
  rw[e]at hq;obtain⟨x,hx,rfl⟩:=aI.mp hq;exact h t (cA e) x hx
end
section
variable {a:Addr}{B:List Tn}{S:Sto}{r:Nat}{Q:WK}{E:Str→Sto→Prop}{t:Tr}
theorem zgO (L:Lft B) (ha:S a=ae (.lst (B.map zba))) (hd:t.depth≤60) (hr:t.depth+30≤r) (hw:t.weight≤1000) (hh:t.hd (λ_=>True)) (h:∀q,S q=none→Q (.ref q) (put S q (.lst ((t.op B []).map zjr)))):zcy (r+1) [.ref a,enc t] S Q E:=by
 obtain⟨r,rfl⟩:∃r',r=r'+1:=⟨r - 1,by omega⟩
 rw[zcy];walk_at "wp";refine⟨aY _,λq hq=>⟨aY _,?_⟩⟩;have hqa:q≠a:=λz=>by rw[z,ha]at hq;cases hq
 refine zmL L hqa t (p:=[]) (xs:=[]) (by omega) (keep ha hq) zag (by simp;omega) (by simp;omega) hh ?_;rw[zbc,a9];exact⟨_, .refl,h q hq⟩
theorem zkQ{f:Addr}{xs:List (List Int×Str)}(hf:S f=ae (.lst (xs.map zjr))) (hl:xs.length≤10000) (h:∀q,S q=none→Q (.ref q) (put S q (.lst ((xs.map λx=>x.1).map zbn)))):zcX (r+1) [.ref f] S Q E:=by
 rw[zcX];walk_at "wp";rw[zaj hf];refine zaO (λσ=>∃y,σ=[y]) zjr (λx=>zbn x.1) ?_ xs [] _ ⟨none,rfl⟩ (by simp;omega) (λx hx σ R hI hR=>?_) ?_
 ·exact hf
 ·obtain⟨y,rfl⟩:=hI;simp only[zfj,zjr];walk_at "wp";exact hR _ _ ⟨_,rfl⟩ .refl
 ·rw[a9];intro q hq;have:=h q hq;rw[bj]at this;exact⟨_, .refl,this⟩
theorem zjn{s:Str}{ts ms:List Tr}{u:Tn}(L:Lft B) (ha:S a=ae (.lst (B.map zba))) (hh:(Tr.nd s ts).hd (λ_=>True)) (hw:(Tr.nd s ts).weight≤1000) (hr:25≤r) (h1:zey B (.nd s ts)=ae u) (h2:u.2.1.mt (.nd s ts)=ae ms) (h:Q (enc (.nd u.1 ms)) S):zcN (r+1) [.ref a,enc (.nd s ts)] S Q E:=by
 obtain⟨r,rfl⟩:∃r',r=r'+1:=⟨r - 1,by omega⟩
 have ht:u∈B:=cA h1;have ft:=zeV (m:=0) _ hh;have hm:=zpf u.2.1 _ _ h2 hh;have hl:=zcP ms;rw[zcN];walk_at "wp";refine zgS L ha ft (by omega) ?_;rw[h1];have et:zdZ (ae u)= .tup [.str u.1,enc u.2.1,enc u.2.2]:=rfl;rw[et]
 try walk_at "wp"
 rw[show atI [W.str u.1,enc u.2.1,enc u.2.2] 1=ae (enc u.2.1) from rfl];have g1:=L.d u ht;have g2:=L.w u ht;refine⟨zal (by decide),zen (by omega) ft (by omega) (λys hys q hq=>?_) λh0=>by rw[h2]at h0;cases h0⟩
 rw[h2]at hys;cases hys
 try walk_at "wp"
 rw[zaT];simp only[enc]at h;exact⟨zal (by omega),_, .put .refl hq,h⟩
end
theorem zsg{B:List Tn}{s:Str}{n:Nat}(h:zaZ B s=none):pps B s n=(aU n).map λ(i:Nat)=>[(i:Int)]:=by unfold pps;rw[h]
theorem zrt{B:List Tn}{s:Str}{n:Nat}{t:Tn}(h:zaZ B s=ae t):pps B s n=t.2.1.bls.map λx=>x.1:=by unfold pps;rw[h]
theorem Wis.len{B:List Tn}{wn:List (List Int)}{n:Nat}{p:List Int}:∀{qs:List (List Int)}{ts us:List Tr},Wis B wn n p qs ts us→us.length=ts.length
 |_,_,_, .nil=>rfl
 |_,_,_, .cons _ h=>by rw[aR,aR,Wis.len h]
section
variable {a w:Addr}{B:List Tn}{wn:List (List Int)}
theorem zhe (n:Nat) (hP4:∀{t u:Tr}{p:List Int}{r:Nat}{S:Sto}{Q:WK}{E:Str→Sto→Prop},Wi B wn n p t u→n+40≤r+1→S a=ae (.lst (B.map zba))→S w=ae (.dct (zhJ wn))→t.hd (λ_=>True)→t.weight≤1000→p.length+4*n≤1000→Q (enc u) S→zaW (r+1) [.ref a,enc t,zbn p, .ref w] S Q E) :
  ∀{ts us:List Tr}{qs:List (List Int)}{p:List Int},Wis B wn n p qs ts us→ ∀{r:Nat}{xs:List W}{f:Addr}{S:Sto}{G:Sto→Prop}{E:WX}{D:WEnds}{t0 x4 x6 x7:Option W},(∀q∈qs,q.length≤4)→n+40≤r+1→S a=ae (.lst (B.map zba))→S w=ae (.dct (zhJ wn))→S f=ae (.lst xs)→f≠a→f≠w→xs.length+ts.length≤10000→wts ts≤1000→hds (λ_=>True) ts→p.length+4+4*n≤1000→(∀o,G (put S f o))→
  (∀x6 x7,D.nx [ae (.ref a),t0,ae (zbn p),ae (.ref w),x4,ae (.ref f),x6,x7] (put S f (.lst (xs++encs us))))→
  forL (wGT (zat (wGN 6) (zat (wGN 7) zbT))) (zcI (r+1) (zaW (r+1))) E D G (pairs (qs.map zbn) (encs ts)) [ae (.ref a),t0,ae (zbn p),ae (.ref w),x4,ae (.ref f),x6,x7] S
 |_,_,_,p, .nil=>by
  rename_i r xs f S G E D t0 x4 x6 x7;intro hq hr ha hw hf n1 n2 hx hwt hh hp hG h;simp only[cp,encs,pairs,forL];have:=h x6 x7;simp only[encs,bI,zdT hf]at this;exact this
 |_,_,_,p, .cons (q:=q) (t:=t) (u:=u) (ts:=ts) (us:=us) h1 h2=>by
  rename_i r xs f S G E D t0 x4 x6 x7 qs;intro hq hr ha hw hf n1 n2 hx hwt hh hp hG h;simp only[wts]at hwt;simp only[hds]at hh;simp only[aR]at hx;have hq4:=hq q a0;simp only[aA,encs,pairs];refine zbj λN hN=>?_;simp only[zcI];walk_at "wp";simp only[zaj hf,true_and];rw[zto];refine⟨zal (by omega),hP4 h1 hr ha hw hh.1 (by omega) (by simp;omega) ?_⟩
  try walk_at "wp"
  rw[zaj hf];refine⟨zbM (by omega),?_⟩;refine hN _ _ _ .refl (hG _) (zhe n hP4 h2 (xs:=xs++[enc u]) (λq' hq'=>hq q' (aK _ hq')) hr (by rw[zaA (bn n1)];exact ha) (by rw[zaA (bn n2)];exact hw) zag n1 n2 (by simp;omega) (by omega) hh.2 hp (λo=>by rw[zbc];exact hG o) λx6 x7=>?_)
  rw[zbc];have:=h x6 x7;simpa [encs]using this
theorem zjR (L:Lft B) (hP:PB B):∀(n:Nat) {t u:Tr}{p:List Int}{r:Nat}{S:Sto}{Q:WK}{E:Str→Sto→Prop},Wi B wn n p t u→n+40≤r+1→S a=ae (.lst (B.map zba))→S w=ae (.dct (zhJ wn))→t.hd (λ_=>True)→t.weight≤1000→p.length+4*n≤1000→Q (enc u) S→zaW (r+1) [.ref a,enc t,zbn p, .ref w] S Q E
 |0,t,u,p,r,S,Q,E,M,hr,ha,hw,hh,hwt,hp,h=>by cases M
 |n+1,t,u,p,r,S,Q,E,M,hr,ha,hw,hh,hwt,hp,h=>by
  obtain⟨r,rfl⟩:∃r',r=r'+1:=⟨r - 1,by omega⟩
  have tail:∀{s:Str}{ts us:List Tr}{t0:Option W}{E':WX},Wis B wn n p (pps B s ts.length) ts us→hds (λ_=>True) ts→wts ts≤1000→Q (enc (.nd s us)) S→
    (1:Nat)=1→ ∀f,S f=none→zbG (r+1) [.ref a, .tup (.str s::encs ts)] (put S f (.lst [])) (λx S1=>zof x S1 λxs G=>forL (wGT (zat (wGN 6) (zat (wGN 7) zbT))) (zcI (r+1) (zaW (r+1))) E' { nx:=zaU (wOp zdF (zbD (zab (wOp oIx (zaf 4) (wC (W.int 0))) waNil)) (wB zdp (zab (zaf 5) waNil))) E' { nx:=λx S'=>∃S'',Sub S'' S'∧Q W.non S'',rt:=λw S'=>∃S'',Sub S'' S'∧Q w S'' },rt:=λw S'=>∃S'',Sub S'' S'∧Q w S'' } (λS'=>G S'∧True) (pairs xs (encs ts)) [ae (.ref a),t0,ae (zbn p),ae (.ref w),ae (.tup (.str s::encs ts)),ae (.ref f),none,none] S1) E:=λ{s ts us t0 E'} WW hd hw' hQ _ f hf=>by
   have hk:=zcP ts;have n1:f≠a:=λz=>by rw[z,ha]at hf;cases hf
   have n2:f≠w:=λz=>by rw[z,hw]at hf;cases hf
   have ee:W.tup (W.str s::encs ts)=enc (.nd s ts):=by simp only[enc]
   rw[ee];refine zny L (keep ha hf) (by omega) (by omega) λq hq=>?_;rw[zhB,zgA,←ee];obtain⟨hq1,hq2⟩:=zdR hq;refine zhe n (zjR L hP n) WW (zoQ hP) (by omega) (keep (keep ha hf) hq) (keep (keep hw hf) hq) (keep zag hq) n1 n2 (by simp;omega) hw' hd (by omega) (λo=>⟨?_,trivial⟩) λx6 x7=>?_
   ·show put _ f o q=_;rw[zaA hq2];exact zag
   ·have hlu:us.length≤1000:=by
     have:=Wis.len WW;omega
    walk_at "wp";rw[zaT];simp only[enc]at hQ;refine⟨zal (by decide),zal (by omega),S,?_,hQ⟩;rw[zmd hq2];exact .put (.put .refl hf) hq1
  cases M with
  | @no _ _ s ts us h1 h2 h3=>
   simp only[Tr.hd]at hh;simp only[Tr.weight]at hwt;rw[zaW];simp only[enc];walk_at "wp";rw[zlN hw,zjV,decide_eq_false h1]
   try walk_at "wp"
   refine⟨aY _,λf hf=>?_⟩;have:=tail (t0:=ae (.tup (.str s::encs ts))) (E':=λc x S'=>E c S') (by rw[zsg h2];exact h3) hh.2 (by omega) h rfl f hf;simpa only[and_true]using this
  | @yes _ _ s ts us ms t h1 h2 h3 h4 h5=>
   have hm:=zpf t.2.1 _ _ h3 hh;rw[zaW];walk_at "wp";rw[zlN hw,zjV,decide_eq_true h1]
   try walk_at "wp"
   refine zjn L ha hh hwt (by omega) h2 h3 ?_;simp only[enc]
   try walk_at "wp"
   refine⟨aY _,λf hf=>?_⟩;have:=tail (t0:=ae (.tup (.str s::encs ts))) (E':=λc x S'=>E c S') (by rw[zrt h4];exact h5) hm.1 (by omega) h rfl f hf;simpa only[and_true]using this
end
theorem zjF{S:Sto}{n:Nat}:∀(p q:List Int),zed (eqF S (n+1)) (p.map W.int) (q.map W.int)=ae (decide (p=q))
 | [],[]=>by simp [zed]
 | [],j::q=>by simp [zed]
 |i::p,[]=>by simp [zed]
 |i::p,j::q=>by
  rw[aA,aA,zed,zsA,zjF p q];simp only[bB];rw[fT];simp
theorem zyy{S:Sto}{n:Nat}(p q:List Int):eqF S (n+2) (zbn p) (zbn q)=ae (decide (p=q)):=by
 unfold zbn;rw[zsy,zjF]
theorem zxT{S:Sto}{x:List Int}:∀ys:List (List Int),inF S (zbn x) (ys.map zbn)=ae (decide (x∈ys))
 | []=>by simp [inF]
 |y::ys=>by
  rw[aA,inF,zyy (n:=57),zxT ys];simp only[bB];rw[fT];simp only[jo,decide_eq_true_eq,az];exact⟨λh=>h.elim (λe=> .inl e.symm) .inr,λh=>h.elim (λe=> .inl e.symm) .inr⟩
section
variable {a:Addr}{B:List Tn}{wn:List (List Int)}{S:Sto}{r n:Nat}{Q:WK}{E:Str→Sto→Prop}{t u:Tr}{f:Addr}
theorem znH (L:Lft B) (hP:PB B) (M:Wi B wn n [] t u) (hn:n≤60) (hr:110≤r) (ha:S a=ae (.lst (B.map zba))) (hf:S f=ae (.lst (wn.map zbn))) (hh:t.hd (λ_=>True)) (hw:t.weight≤1000) (hl:wn.length≤10000) (h:Q (enc u) S):zdG (r+1) [.ref a,enc t, .ref f] S Q E:=by
 obtain⟨r,rfl⟩:∃r',r=r'+1:=⟨r - 1,by omega⟩
 rw[zdG];walk_at "wp";refine⟨aY _,?_⟩;rw[zaj hf];refine zaO (λσ=>∃y,σ=[y]) zbn (λp=>W.tup [zbn p, .bl true]) ?_ wn [] _ ⟨none,rfl⟩ (by simp;omega) (λx hx σ R hI hR=>?_) ?_
 ·exact hf
 ·obtain⟨y,rfl⟩:=hI;simp only[zgh];walk_at "wp";exact⟨zal (by decide),hR _ _ ⟨_,rfl⟩ .refl⟩
 ·rw[a9];have e:zex (wn.map λp=>W.tup [zbn p, .bl true])=ae wn:=zkN wn;rw[e];refine⟨by omega,λd hd=>?_⟩;have e0:W.tup []=zbn []:=rfl;rw[e0];exact zjR L hP n M (by omega) (keep ha hd) zag hh hw (by simp;omega) ⟨_, .put .refl hd,h⟩
theorem zsd{ks:List (List Int)}(L:Lft B) (hP:PB B) (M:Wi B wn n [] t u) (hn:n≤60) (hr:115≤r) (ha:S a=ae (.lst (B.map zba))) (hf:S f=ae (.lst (wn.map zbn))) (hh:t.hd (λ_=>True)) (hw:t.weight≤1000) (hd:t.depth≤60) (hl:wn.length≤10000) (hks:((t.op B []).map λx=>x.1)=ks) (hin:∀x∈wn,x∈ks) (h:Q (enc u) S):zfs (r+1) [.ref a,enc t, .ref f] S Q E:=by
 obtain⟨r,rfl⟩:∃r',r=r'+1:=⟨r - 1,by omega⟩
 have ol:=znb B t [];rw[zfs];walk_at "wp";refine zgO L ha hd (by omega) hw hh λq hq=>?_;refine zkQ zag (by omega) λq2 hq2=>?_;rw[hks];have f2:put (put S q (Ob.lst ((t.op B []).map zjr))) q2 (Ob.lst (ks.map zbn)) q2=ae (.lst (ks.map zbn)):=zag;have ff:=keep (x:=Ob.lst (ks.map zbn)) (keep (x:=Ob.lst ((t.op B []).map zjr)) hf hq) hq2;have fa:=keep (x:=Ob.lst (ks.map zbn)) (keep (x:=Ob.lst ((t.op B []).map zjr)) ha hq) hq2;have sub:Sub S (put (put S q (Ob.lst ((t.op B []).map zjr))) q2 (Ob.lst (ks.map zbn))):= .trans (.put .refl hq) (.put .refl hq2);generalize put (put S q (Ob.lst ((t.op B []).map zjr))) q2 (Ob.lst (ks.map zbn))=S2 at f2 ff fa sub⊢
 try walk_at "wp"
 rw[zaj ff];refine zfl (S:=S2) ?_ (λσ=>∃x,σ=[ae (.ref a),ae (enc t),ae (.ref f),ae (.ref q2),x]) zbn (λ_=>none) wn _ ⟨_,rfl⟩ (λx hx σ N hI hno hret=>?_) (λe σ hI=>?_) λw e S' sb=>?_
 ·exact ff
 ·obtain⟨y,rfl⟩:=hI;unfold zhQ;walk_at "wp";rw[zaj f2,zxT,decide_eq_true (hin x hx)]
  try walk_at "wp"
  exact hno rfl _ _ ⟨_,rfl⟩ .refl
 ·obtain⟨y,rfl⟩:=hI
  try walk_at "wp"
  exact znH L hP M hn (by omega) fa ff hh hw hl ⟨_,sub,h⟩
 ·rw[List.findSome?_eq_none_iff.mpr (λ_ _=>rfl)]at e;cases e
end
theorem zoW{S:Sto}{E:WX}{D:WEnds}{x1:Option W}{r:Nat}:∀(q:List Int) {t u:Tr}{x2:Option W},t.at q=ae u→(∀x2,D.nx [ae (enc u),x1,x2] S)→forL (wGN 2) (zcY r zaR) E D (λ_=>True) (q.map W.int) [ae (enc t),x1,x2] S
 | [],t,u,x2,h,hD=>by
  cases t<;>simp only[Tr.at,bB]at h<;>subst h<;>simpa [forL]using hD x2
 |i::q, .bl n,u,x2,h,hD=>by simp [Tr.at]at h
 |i::q, .nd s ts,u,x2,h,hD=>by
  obtain⟨a,h2,e1,e2⟩:=zgt h;rw[aA];refine zbj λN hN=>?_;simp only[zcY,enc];walk_at "wp";have ei:(i:Int)+1=((i.toNat+1:Nat):Int):=by omega
  rw[ei,zbU,dQ,zaw,bt,e1];exact hN _ _ _ .refl trivial (zoW q e2 hD)
theorem zxa{S:Sto}{q:List Int}{t u:Tr}{r:Nat}{Q:WK}{E:Str→Sto→Prop}(ha:t.at q=ae u) (h:Q (enc u) S):zcg (r+1) [enc t,zbn q] S Q E:=by
 rw[zcg];simp only[zbn];walk_at "wp";refine zoW q ha λx2=>?_;walk_at "wp";exact⟨_, .refl,h⟩
theorem zvV{x:List Int}{t:Tr}{p:List Int}(h:x∈t.pl p):x.length<p.length+t.depth:=by
 rw[←zeW,aI]at h;obtain⟨⟨q,u⟩,hm,rfl⟩:=h;obtain⟨r,rfl,_,hr⟩:=zky t p q u hm;simp;omega
mutual
theorem zsz (p:List Int):∀(t:Tr) (q:List Int),t.pl (p++q)=(t.pl q).map (p++ ·)
 | .bl _,q=>by simp [Tr.pl]
 | .nd _ ts,q=>by simp [Tr.pl,zpe p ts q 0]
theorem zpe (p:List Int):∀(ts:List Tr) (q:List Int) (i:Nat),pls (p++q) i ts=(pls q i ts).map (p++ ·)
 | [],q,i=>by simp [pls]
 |t::ts,q,i=>by rw[pls,pls,bD,←zsz p t,zpe p ts q (i+1),cf]
end
noncomputable def zxw (B:List Tn) (x:List Int×Tr):List (List Int×Str):=(zey B x.2).toList.map λb=>(x.1,b.1)
mutual
theorem zqf (B:List Tn):∀(t:Tr) (p:List Int),t.fits 0→(t.plt p).flatMap (zxw B)=t.op B p
 | .bl n,p,h=>by
  simp only[Tr.fits]at h;omega
 | .nd s ts,p,h=>by
  simp only[Tr.fits]at h;rw[Tr.plt,eT,zom B ts p 0 h,Tr.op,zxw];cases zey B (.nd s ts)<;>rfl
theorem zom (B:List Tn):∀(ts:List Tr) (p:List Int) (i:Nat),fitss 0 ts→(zhE p i ts).flatMap (zxw B)=ops B p i ts
 | [],p,i,h=>by simp [zhE,ops]
 |t::ts,p,i,h=>by
  simp only[fitss]at h;rw[zhE,ops,iF,zqf B t _ h.1,zom B ts p (i+1) h.2]
end
section
variable {c:Int→Nat}
def One (c:Int→Nat):Prop:=∀x:Int,0≤x→x<8→c x≤1
theorem One.src (hc:One c):∀x:Int,0≤x→x<8→zgs c x=0:=λx h0 h1=>by
 have:=hc x h0 h1;unfold zgs;split<;>omega
end
theorem zrY (x:Int) (h0:0≤x) (h8:x<8):byC 8 x=0:=by
 have:∀n:Nat,n<8→byC 8 (n:Int)=0:=by decide
 obtain⟨n,rfl⟩:=Int.eq_ofNat_of_zero_le h0;exact this n (by omega)
structure Pre (S:Sto) (aw at' ab:Addr) (w0 w1 w2 w3 w4 w5:Str) (tt:List Str) (B:List Tn):Prop where
  G:Signs w0 w1 w2 w3 w4 w5
  T:Titles tt
  b:BookOk w0 w1 w2 w3 w4 w5 tt B
  fw:S aw=ae (.lst (six w0 w1 w2 w3 w4 w5))
  ft:S at'=ae (.lst (tt.map W.str))
  fb:S ab=ae (.lst (B.map zba))
  sl:zwQ B
theorem Pre.bk{S:Sto}{aw at' ab:Addr}{w0 w1 w2 w3 w4 w5:Str}{tt:List Str}{B:List Tn}(P:Pre S aw at' ab w0 w1 w2 w3 w4 w5 tt B):BkOk [w0,w1,w2,w3,w4,w5] [w2,w3,w4,w5] B:=P.b.bk P.T P.G
theorem Pre.ne{S:Sto}{aw at' ab:Addr}{w0 w1 w2 w3 w4 w5:Str}{tt:List Str}{B:List Tn}(P:Pre S aw at' ab w0 w1 w2 w3 w4 w5 tt B):B≠ []:=by
 have h:=P.b.len;rintro rfl;simp at h
theorem Pre.sub{S S':Sto}{aw at' ab:Addr}{w0 w1 w2 w3 w4 w5:Str}{tt:List Str}{B:List Tn}(P:Pre S aw at' ab w0 w1 w2 w3 w4 w5 tt B) (h:Sub S S'):Pre S' aw at' ab w0 w1 w2 w3 w4 w5 tt B:=⟨P.G,P.T,P.b,h _ _ P.fw,h _ _ P.ft,h _ _ P.fb,P.sl⟩
theorem ztA{T:WS}{E:WX}{D:WEnds}{ns:List Int}{x1 x2 x3:Option W}{τ:WSt}{S:Sto}(h:∀(S':Sto) (aw at' ab:Addr) (w0 w1 w2 w3 w4 w5:Str) (tt:List Str) (B:List Tn),Pre S' aw at' ab w0 w1 w2 w3 w4 w5 tt B→T E D (ae (.scr ns)::ae (.ref aw)::ae (.ref at')::ae (.ref ab)::τ) S') :
  zar (wAsg (zap (zbm 199) (zab (zap (zaH 199) (zab (zaf 0) (zab (wC (.int 0)) waNil))) (zab (zap (zaH 199) (zab (zaf 0) (zab (wC (.int 1)) waNil))) (zab (wC (.bl false)) waNil)))) (wGN 1))
  (zar (wAsg (zap (zbm 199) (zab (zap (zaH 199) (zab (zaf 0) (zab (wC (.int 2)) waNil))) (zab (zap (zaH 199) (zab (zaf 0) (zab (wC (.int 3)) waNil))) (zab (wC (.bl true)) waNil)))) (wGN 2))
  (zar (wAsg (zap (zcH 199) (zab (zaf 0) (zab (wC (.int 4)) (zab (zaf 1) (zab (zaf 2) waNil))))) (wGN 3)) T)) E D (ae (.scr ns)::x1::x2::x3::τ) S:=by
 walk_at "wp";refine zfP (by decide) λc0=>zfP (by decide) λc1=>zng λaw ws hw0 hws=>?_;obtain⟨w0,w1,w2,w3,w4,w5,rfl,G⟩:=zlB hws;have fw:put S aw (Ob.lst ([w0,w1,w2,w3,w4,w5].map W.str)) aw=ae (.lst (six w0 w1 w2 w3 w4 w5)):=zag;generalize put S aw (Ob.lst ([w0,w1,w2,w3,w4,w5].map W.str))=S1 at fw⊢;refine zfP (by decide) λc2=>zfP (by decide) λc3=>zng λat' tt ht0 htt=>?_;have ft:put S1 at' (Ob.lst (tt.map W.str)) at'=ae (.lst (tt.map W.str)):=zag;replace fw:=keep (x:=Ob.lst (tt.map W.str)) fw ht0;generalize put S1 at' (Ob.lst (tt.map W.str))=S2 at fw ft⊢;refine zvm (r:=192) (zgm htt).len (by decide) fw ft λab B n m hb0 e1 e2 e3=>?_;exact h _ aw at' ab w0 w1 w2 w3 w4 w5 tt B ⟨G,zgm htt,⟨⟨n,m,e1⟩,e2,λt ht=>(e3 t ht).w⟩,keep (x:=Ob.lst (B.map zba)) fw hb0,keep (x:=Ob.lst (B.map zba)) ft hb0,zag,zvc e3⟩
theorem zih (f:Int):One (byC f):=λx _ _=>zys f x
section
variable {c d:Int→Nat}
theorem ziS{c d:Int→Nat}(hc:One c) (hd:One d):Ok2 c d:=λx h0 h1=> .inl ⟨hc x h0 h1,hd x h0 h1⟩
end
noncomputable def u1 (B:List Tn) (p:Pl):List (List Int×Str):=zzO (byC 1) (p.ns B [])
mutual
noncomputable def Tr.ord (k:Nat):Tr→Option Nat
 | .bl n=>if n=(k:Int) then ae (k+1) else none
 | .nd _ ts=>znS k ts
noncomputable def znS (k:Nat):List Tr→Option Nat
 | []=>ae k
 |t::ts=>match t.ord k with
  |some m=>znS m ts
  |none=>none
end
def zxZ (B:List Tn) (z:Str):Prop:=∀u∈B,∀s ls,u.2.1= .nd s ls→s≠z
structure Ort (B:List Tn):Prop where
  inn:∀t∈B,∃s ls,t.2.1= .nd s ls∧hbs (zxZ B) ls
  mt:zyb B
  fm:∀t∈B,∀x ys,t.2.1.mt x=ae ys→x=t.2.1.fill ys∧ys.length=t.2.1.nb
  one:∀u∈B,∀v∈B,∀x:Tr,(u.2.1.mt x).isSome=true→(v.2.1.mt x).isSome=true→u=v
  od:∀t∈B,t.2.1.ord 0=ae t.2.1.nb
mutual
theorem ztc:∀(L x:Tr) (ys:List Tr) (k m:Nat),L.ord k=ae m→L.mt x=ae ys→ys.length+k=m∧ ∀pre post:List Tr,pre.length=k→L.fill (pre++ys++post)=x
 | .bl n,x,ys,k,m,h,e=>by
  rw[Tr.ord]at h;split at h
  ·rename_i hn;cases h;rw[Tr.mt]at e;cases e;refine⟨by simp;omega,λpre post hp=>?_⟩;rw[Tr.fill,hn,bW,br,cf,ig (by omega),hp,g9];rfl
  ·cases h
 | .nd s ls, .bl n,ys,k,m,h,e=>by rw[Tr.mt]at e;cases e
 | .nd s ls, .nd z us,ys,k,m,h,e=>by
  rw[Tr.mt]at e;split at e
  ·rename_i hc;rw[b3,beq_iff_eq,beq_iff_eq]at hc;rw[Tr.ord]at h;obtain⟨h1,h2⟩:=zpz ls us ys k m hc.2 h e;exact⟨h1,λpre post hp=>by rw[Tr.fill,h2 pre post hp,hc.1]⟩
  ·cases e
theorem zpz:∀(ls us ys:List Tr) (k m:Nat),ls.length=us.length→znS k ls=ae m→mts ls us=ae ys→ys.length+k=m∧ ∀pre post:List Tr,pre.length=k→fills (pre++ys++post) ls=us
 | [],us,ys,k,m,hl,h,e=>by
  rw[znS]at h;cases h;rw[mts]at e;cases e;cases us with
  |nil=>exact⟨by simp,λ_ _ _=>by rw[fills]⟩
  |cons _ _=>cases hl
 |l::ls,[],ys,k,m,hl,h,e=>by cases hl
 |l::ls,u::us,ys,k,m,hl,h,e=>by
  rw[znS]at h;rw[mts]at e;cases q:l.ord k with
  |none=>rw[q]at h;cases h
  |some j=>
   rw[q]at h;cases q1:l.mt u with
   |none=>rw[q1]at e;cases e
   |some xs=>
    rw[q1]at e;cases q2:mts ls us with
    |none=>rw[q2]at e;cases e
    |some zs=>
     rw[q2]at e;cases e;obtain⟨h1,h2⟩:=ztc l u xs k j q q1;obtain⟨h3,h4⟩:=zpz ls us zs j m (by simpa using hl) h q2;refine⟨by rw[aS];omega,λpre post hp=>?_⟩;rw[fills];have e1:=h2 pre (zs++post) hp;have e2:=h4 (pre++xs) post (by rw[aS];omega);have a1:pre++(xs++zs)++post=pre++xs++(zs++post):=by simp
     have a2:pre++(xs++zs)++post=pre++xs++zs++post:=by simp
     rw[a1,e1,←a1,a2,e2]
end
theorem zmi{n:Nat}{h c d:Str}{L:Tr}(hL:L∈leftsL n h c d):L.ord 0=ae L.nb:=by
 unfold leftsL at hL;split at hL<;>simp only[az,bx,or_false]at hL
 all_goals first
  | (subst hL;simp [Tr.ord,znS,Tr.nb,nbs])
  | (rcases hL with rfl |rfl<;>simp [Tr.ord,znS,Tr.nb,nbs])
theorem zgF{n:Nat}{h c d:Str}{P:Str→Prop}(hc:P c) (hd:P d) {L:Tr}(hL:L∈leftsL n h c d):∃ls,L= .nd h ls∧hbs P ls:=by
 unfold leftsL at hL;split at hL<;>simp only[az,bx,or_false]at hL
 all_goals first
  | (subst hL;exact⟨_,rfl,by simp [hbs,Tr.hb,hc,hd]⟩)
  | (rcases hL with rfl |rfl<;>exact⟨_,rfl,by simp [hbs,Tr.hb,hc,hd]⟩)
section
variable {w0 w1 w2 w3 w4 w5:Str}{tt:List Str}{B:List Tn}
theorem BookOk.mem_lefts (b:BookOk w0 w1 w2 w3 w4 w5 tt B) {t:Tn}(ht:t∈B):∃n,t.2.1∈leftsL n w0 w2 w3∨t.2.1∈leftsL n w1 w2 w3:=by
 obtain⟨n,m,e⟩:=b.lf;have:t.2.1∈leftsL n w0 w2 w3++leftsL m w1 w2 w3:=by rw[←e];exact aI.mpr ⟨t,ht,rfl⟩
 rcases bq.mp this with z |z
 ·exact⟨n, .inl z⟩
 ·exact⟨m, .inr z⟩
theorem BookOk.ort (b:BookOk w0 w1 w2 w3 w4 w5 tt B) (G:Signs w0 w1 w2 w3 w4 w5):Ort B:=by
 have top:∀z,z≠w0→z≠w1→zxZ B z:=λz h0 h1 u hu s ls e=>by
  obtain⟨n,z |z⟩:=b.mem_lefts hu
  ·obtain⟨l,e',_⟩:=zgF (P:=λ_=>True) trivial trivial z;rw[e]at e';cases e';exact h0.symm
  ·obtain⟨l,e',_⟩:=zgF (P:=λ_=>True) trivial trivial z;rw[e]at e';cases e';exact h1.symm
 have t2:=top w2 (G.n0 w2 (by simp)).symm (G.n1 w2 (by simp)).symm;have t3:=top w3 (G.n0 w3 (by simp)).symm (G.n1 w3 (by simp)).symm;have od:∀t∈B,t.2.1.ord 0=ae t.2.1.nb:=λt ht=>by
  obtain⟨n,z |z⟩:=b.mem_lefts ht
  ·exact zmi z
  ·exact zmi z
 refine⟨λt ht=>?_,b.mt,λt ht x ys e=>?_,λu hu v hv x h1 h2=>zsO (b.inj G) hu hv (b.one G hu hv h1 h2),od⟩
 ·obtain⟨n,z |z⟩:=b.mem_lefts ht
  ·obtain⟨l,e',h⟩:=zgF t2 t3 z;exact⟨_,_,e',h⟩
  ·obtain⟨l,e',h⟩:=zgF t2 t3 z;exact⟨_,_,e',h⟩
 ·have ho:=od t ht;obtain⟨h1,h2⟩:=ztc _ _ _ _ _ ho e;have:=h2 [] [] rfl;simp only[a9,bI]at this;exact⟨this.symm,by omega⟩
end
structure Wy (ws:List Str) (B:List Tn) (a:Tr):Prop where
  hd:a.hd λs=>s∈ws∨ ∃t∈B,t.1=s
  ar:a.ar B
noncomputable abbrev src (B:List Tn) (a:Tr):Tr:=a.mk B λt=>t.2.1
noncomputable abbrev gol (B:List Tn) (a:Tr):Tr:=a.mk B λt=>t.2.2
section
variable {ws:List Str}{B:List Tn}
theorem zlK{P:Str→Prop}:∀{ts:List Tr}{t:Tr},hds P ts→t∈ts→t.hd P
 |u::ts,t,h,ht=>by
  rw[hds]at h;rcases az.mp ht with rfl |ht
  ·exact h.1
  ·exact zlK h.2 ht
theorem zlg:∀{ts:List Tr}{t:Tr},ars B ts→t∈ts→t.ar B
 |u::ts,t,h,ht=>by
  rw[ars]at h;rcases az.mp ht with rfl |ht
  ·exact h.1
  ·exact zlg h.2 ht
theorem Wy.cases (b:BkOk ws ws B) {a:Tr}(h:Wy ws B a):(∃s as,a= .nd s as∧s∈ws∧zaZ B s=none∧ ∀x∈as,Wy ws B x)∨(∃t as,t∈B∧a= .nd t.1 as∧zaZ B t.1=ae t∧as.length=t.2.1.nb∧ ∀x∈as,Wy ws B x):=by
 obtain⟨h1,h2⟩:=h;cases a with
 |bl n=>rw[Tr.hd]at h1;exact h1.elim
 |nd s as=>
  rw[Tr.hd]at h1;rw[Tr.ar]at h2;have kids:∀x∈as,Wy ws B x:=λx hx=>⟨zlK h1.2 hx,zlg h2.2 hx⟩;rcases h1.1 with h |⟨t,ht,rfl⟩
  ·exact .inl ⟨s,as,rfl,h,zbe b.ti (b.sg s h),kids⟩
  ·have e:=zcr b.nd ht;exact .inr ⟨t,as,ht,rfl,e,h2.1 t e,kids⟩
theorem zej{g:Tn→Tr}{s:Str}{as:List Tr}(h:zaZ B s=none):(Tr.nd s as).mk B g= .nd s (as.map (Tr.mk B g)):=by
 rw[Tr.mk,h,zgU]
theorem zdv{g:Tn→Tr}{t:Tn}{as:List Tr}(h:zaZ B t.1=ae t):(Tr.nd t.1 as).mk B g=(g t).fill (as.map (Tr.mk B g)):=by
 rw[Tr.mk,h,zgU]
mutual
theorem zxc (b:BkOk ws ws B) (O:Ort B):∀(L a:Tr),L.hb (zxZ B)→Wy ws B a→(L.mt (src B a)).isSome=true→(L.mt a).isSome=true
 | .bl n,a,_,_,_=>by rw[Tr.mt];rfl
 | .nd z ls,a,hL,ha,h=>by
  rw[Tr.hb]at hL;rcases ha.cases b with⟨s,as,rfl,hs,e,kids⟩ |⟨t,as,ht,rfl,e,hl,kids⟩
  ·rw[show src B (.nd s as)= .nd s (as.map (src B)) from zej e,Tr.mt,aq]at h;rw[Tr.mt];split at h
   ·rename_i hc;rw[if_pos hc];exact zlI b O ls as hL.2 kids h
   ·cases h
  ·obtain⟨s0,l0,e0,_⟩:=O.inn t ht;rw[show src B (.nd t.1 as)=t.2.1.fill (as.map (src B)) from zdv e,e0,Tr.fill]at h;exact absurd (zlD h).symm (hL.1 t ht s0 l0 e0)
theorem zlI (b:BkOk ws ws B) (O:Ort B):∀(ls as:List Tr),hbs (zxZ B) ls→(∀x∈as,Wy ws B x)→(mts ls (as.map (src B))).isSome=true→(mts ls as).isSome=true
 | [],as,_,_,_=>by rw[mts];rfl
 |l::ls,[],_,_,_=>by rw[mts];rfl
 |l::ls,a::as,hL,ha,h=>by
  rw[hbs]at hL;rw[aA,mts]at h;cases q1:l.mt (src B a) with
  |none=>rw[q1]at h;cases h
  |some xs=>
   rw[q1]at h;cases q2:mts ls (as.map (src B)) with
   |none=>rw[q2]at h;cases h
   |some zs=>
    have h1:=zxc b O l a hL.1 (ha a (by simp)) (by rw[q1];rfl);have h2:=zlI b O ls as hL.2 (λx hx=>ha x (aK _ hx)) (by rw[q2];rfl);obtain⟨x1,h1⟩:=dG.mp h1;obtain⟨x2,h2⟩:=dG.mp h2;rw[mts,h1,h2];rfl
end
end
section
variable {ws:List Str}{B:List Tn}
theorem Wy.kids{s:Str}{as:List Tr}(h:Wy ws B (.nd s as)):∀x∈as,Wy ws B x:=λx hx=>by
 obtain⟨h1,h2⟩:=h;rw[Tr.hd]at h1;rw[Tr.ar]at h2;exact⟨zlK h1.2 hx,zlg h2.2 hx⟩
mutual
theorem ztu:∀(L a:Tr) (ys:List Tr),L.mt a=ae ys→Wy ws B a→ ∀y∈ys,Wy ws B y
 | .bl n,a,ys,e,h,y,hy=>by
  rw[Tr.mt]at e;cases e;rw[bh]at hy;rw[hy];exact h
 | .nd s ls, .bl n,ys,e,h,y,hy=>by rw[Tr.mt]at e;cases e
 | .nd s ls, .nd z us,ys,e,h,y,hy=>by
  rw[Tr.mt]at e;split at e
  ·exact zsN ls us ys e h.kids y hy
  ·cases e
theorem zsN:∀(ls us ys:List Tr),mts ls us=ae ys→(∀x∈us,Wy ws B x)→ ∀y∈ys,Wy ws B y
 | [],us,ys,e,h,y,hy=>by rw[mts]at e;cases e;cases hy
 |l::ls,[],ys,e,h,y,hy=>by rw[mts]at e;cases e;cases hy
 |l::ls,u::us,ys,e,h,y,hy=>by
  rw[mts]at e;cases q1:l.mt u with
  |none=>rw[q1]at e;cases e
  |some xs=>
   rw[q1]at e;cases q2:mts ls us with
   |none=>rw[q2]at e;cases e
   |some zs=>
    rw[q2]at e;cases e;rcases bq.mp hy with hy |hy
    ·exact ztu l u xs q1 (h u (by simp)) y hy
    ·exact zsN ls us zs q2 (λx hx=>h x (aK _ hx)) y hy
end
theorem zmp (b:BkOk ws ws B) {t:Tn}(ht:t∈B) {vs:List Tr}(hl:vs.length=t.2.1.nb) (g:Tn→Tr):(t.2.1.fill vs).mk B g=t.2.1.fill (vs.map (Tr.mk B g)):=
 ziD b.ti _ (b.lf t ht).hb (by rw[hl];exact(b.lf t ht).fits)
theorem zeY (b:BkOk ws ws B) (O:Ort B) {t:Tn}(ht:t∈B) {s:Str}{bs us:List Tr}(e:zaZ B s=none) (hw:Wy ws B (.nd s bs)) (hl:us.length=t.2.1.nb) (h:src B (.nd s bs)=t.2.1.fill us) :
  ∃vs, .nd s bs=t.2.1.fill vs∧vs.length=t.2.1.nb∧vs.map (src B)=us∧(∀x∈vs,Wy ws B x)∧wts vs≤(Tr.nd s bs).weight:=by
 obtain⟨s0,ls,e0,hin⟩:=O.inn t ht;have hm:t.2.1.mt (src B (.nd s bs))=ae us:=by rw[h];exact O.mt t ht us hl
 have h1:(t.2.1.mt (.nd s bs)).isSome=true:=by
  have hm':=hm;rw[show src B (.nd s bs)= .nd s (bs.map (src B)) from zej e,e0,Tr.mt,aq]at hm';rw[e0,Tr.mt];split at hm'
  ·rename_i hc;rw[if_pos hc];exact zlI b O ls bs hin hw.kids (by rw[hm'];rfl)
  ·cases hm'
 obtain⟨vs,hv⟩:=dG.mp h1;obtain⟨h2,h3⟩:=O.fm t ht _ _ hv;refine⟨vs,h2,h3,?_,ztu _ _ _ hv hw,zjL _ _ _ hv⟩;rw[h2,show src B (t.2.1.fill vs)=_ from zmp b ht h3 _,O.mt t ht _ (by rw[aq,h3])]at hm;exact aG hm
theorem zfb{s:Str}{as:List Tr}:(Tr.nd s as).weight=1+wts as:=by rw[Tr.weight]
inductive PlB (P:Int→Prop):Pl→Prop
 |sign {b:Int}{h:Str}{ps:List Pl}:(∀p∈ps,PlB P p)→PlB P (.nd (-1) b h ps)
 |turn {k:Nat}{b:Int}{h:Str}{ps:List Pl}:P b→(∀p∈ps,PlB P p)→PlB P (.nd k b h ps)
def zvv (x:Int):Prop:=x=1∨x=2∨x=3
theorem zrG (b:BkOk ws ws B) (O:Ort B):∀(n:Nat) (x y:Tr),x.weight+y.weight≤n→Wy ws B x→Wy ws B y→src B x=src B y→ ∃p,PlOk ws B p∧PlB zvv p∧p.ev B (byC 1)=x∧p.ev B (byC 2)=y
 |0,x,y,hn,hx,hy,e=>by
  rcases hx.cases b with⟨s,as,rfl,_⟩ |⟨t,as,_,rfl,_⟩<;>rw[zfb]at hn<;>omega
 |n+1,x,y,hn,hx,hy,e=>by
  have lists:∀(xs ys:List Tr),wts xs+wts ys≤n→(∀x∈xs,Wy ws B x)→(∀y∈ys,Wy ws B y)→xs.map (src B)=ys.map (src B)→ ∃ps:List Pl,(∀p∈ps,PlOk ws B p)∧(∀p∈ps,PlB zvv p)∧ps.map (Pl.ev B (byC 1))=xs∧ps.map (Pl.ev B (byC 2))=ys:=by
   intro xs
   induction xs with
   |nil=>
    intro ys _ _ _ e;cases ys with
    |nil=>exact⟨[],by simp,by simp,rfl,rfl⟩
    |cons y ys=>cases e
   |cons x xs ih=>
    intro ys hw h1 h2 e;cases ys with
    |nil=>cases e
    |cons y ys=>
     rw[aA,aA,i_]at e;rw[wts,wts]at hw;obtain⟨p,hp,hq,e1,e2⟩:=zrG b O n x y (by omega) (h1 x (by simp)) (h2 y (by simp)) e.1;obtain⟨ps,hps,hqs,e3,e4⟩:=ih ys (by omega) (λz hz=>h1 z (aK _ hz)) (λz hz=>h2 z (aK _ hz)) e.2;exact⟨p::ps,λq hq=>by
      rcases az.mp hq with rfl |hq
      ·exact hp
      ·exact hps q hq,λq hz=>by
      rcases az.mp hz with rfl |hz
      ·exact hq
      ·exact hqs q hz,by rw[aA,e1,e3],by rw[aA,e2,e4]⟩
  rcases hx.cases b with⟨s,as,rfl,hs,es,ka⟩ |⟨t,as,ht,rfl,et,la,ka⟩
  ·rcases hy.cases b with⟨s',bs,rfl,hs',es',kb⟩ |⟨t,bs,ht,rfl,et,lb,kb⟩
   ·rw[show src B (.nd s as)=_ from zej es,show src B (.nd s' bs)=_ from zej es']at e;injection e with e1 e2;subst e1;rw[zfb,zfb]at hn;obtain⟨ps,hps,hqs,e3,e4⟩:=lists as bs (by omega) ka kb e2;exact⟨.nd (-1) 0 s ps, .sign hs hps, .sign hqs,by rw[zaX,e3],by rw[zaX,e4]⟩
   ·rw[show src B (.nd t.1 bs)=_ from zdv et]at e;obtain⟨vs,ev,lv,ms,kv,wv⟩:=zeY b O ht es hx (by rw[aq,lb]) e;rw[zfb (s:=t.1)]at hn;obtain⟨ps,hps,hqs,e3,e4⟩:=lists vs bs (by omega) kv kb ms;obtain⟨k,hk⟩:=gq ht;refine⟨.nd k 2 t.1 ps, .turn hk (by rw[←lb,←e4,aq]) (by decide) (by decide) hps, .turn (by unfold zvv;decide) hqs,?_,?_⟩
    ·rw[zaL hk,e3,ev,show byC 1 2=0 by decide];rfl
    ·rw[zaL hk,e4,show byC 2 2=1 by decide];rfl
  ·rcases hy.cases b with⟨s,bs,rfl,hs,es,kb⟩ |⟨u,bs,hu,rfl,eu,lb,kb⟩
   ·rw[show src B (.nd t.1 as)=_ from zdv et]at e;obtain⟨vs,ev,lv,ms,kv,wv⟩:=zeY b O ht es hy (by rw[aq,la]) e.symm;rw[zfb (s:=t.1)]at hn;obtain⟨ps,hps,hqs,e3,e4⟩:=lists as vs (by omega) ka kv ms.symm;obtain⟨k,hk⟩:=gq ht;refine⟨.nd k 1 t.1 ps, .turn hk (by rw[←la,←e3,aq]) (by decide) (by decide) hps, .turn (by unfold zvv;decide) hqs,?_,?_⟩
    ·rw[zaL hk,e3,show byC 1 1=1 by decide];rfl
    ·rw[zaL hk,e4,ev,show byC 2 1=0 by decide];rfl
   ·rw[show src B (.nd t.1 as)=_ from zdv et,show src B (.nd u.1 bs)=_ from zdv eu]at e;have m1:=O.mt t ht (as.map (src B)) (by rw[aq,la]);have m2:=O.mt u hu (bs.map (src B)) (by rw[aq,lb]);have:t=u:=O.one t ht u hu _ (by rw[m1];rfl) (by rw[show(t.2.1.fill (as.map (src B)))=_ from e,m2];rfl)
    subst this;have e2:as.map (src B)=bs.map (src B):=by
     rw[show(t.2.1.fill (as.map (src B)))=_ from e,m2]at m1;exact(aG m1).symm
    rw[zfb,zfb]at hn;obtain⟨ps,hps,hqs,e3,e4⟩:=lists as bs (by omega) ka kb e2;obtain⟨k,hk⟩:=gq ht;refine⟨.nd k 3 t.1 ps, .turn hk (by rw[←la,←e3,aq]) (by decide) (by decide) hps, .turn (by unfold zvv;decide) hqs,?_,?_⟩
    ·rw[zaL hk,e3,show byC 1 3=1 by decide];rfl
    ·rw[zaL hk,e4,show byC 2 3=1 by decide];rfl
end
theorem zoq:∀xs ys:List Tr,wts (xs++ys)=wts xs+wts ys
 | [],ys=>by rw[a9,wts,b8]
 |x::xs,ys=>by rw[d9,wts,wts,zoq xs ys,kh]
mutual
theorem ziQ:∀(L:Tr) (k m:Nat),L.ord k=ae m→k≤m∧L.nb+k=m∧ ∀(us:List Tr),m≤us.length→(L.fill us).weight+(m - k)=L.weight+wts ((us.drop k).take (m - k))∧ ∀u∈(us.drop k).take (m - k),u.depth≤(L.fill us).depth
 | .bl n,k,m,h=>by
  rw[Tr.ord]at h;split at h
  ·rename_i hn;cases h;refine⟨by omega,by rw[Tr.nb];omega,λus hu=>?_⟩
   have hk:k<us.length:=by omega
   have e:(us.drop k).take (k+1 - k)=[us[k]]:=by
    rw[show k+1 - k=1 by omega,eR hk]
    rfl
   have f:(Tr.bl n).fill us=us[k]:=by
    rw[Tr.fill,hn,bW,br,a8 hk];rfl
   rw[e,f];refine⟨?_,λu hu=>?_⟩
   ·simp only[Tr.weight,wts];omega
   ·rw[bh]at hu;rw[hu];exact au _
  ·cases h
 | .nd s ls,k,m,h=>by
  rw[Tr.ord]at h;obtain⟨h1,h2,h3⟩:=zfH ls k m h;refine⟨h1,by rw[Tr.nb];exact h2,λus hu=>?_⟩
  obtain⟨h4,h5⟩:=h3 us hu;rw[Tr.fill,Tr.weight,Tr.weight,Tr.depth];exact⟨by omega,λu hu'=>aX (h5 u hu') (by omega)⟩
theorem zfH:∀(ls:List Tr) (k m:Nat),znS k ls=ae m→k≤m∧nbs ls+k=m∧ ∀(us:List Tr),m≤us.length→wts (fills us ls)+(m - k)=wts ls+wts ((us.drop k).take (m - k))∧ ∀u∈(us.drop k).take (m - k),u.depth≤dts (fills us ls)
 | [],k,m,h=>by
  rw[znS]at h;cases h;refine⟨au _,by rw[nbs];omega,λus _=>?_⟩
  rw[g9,kr,fills];exact⟨rfl,λu hu=>by cases hu⟩
 |l::ls,k,m,h=>by
  rw[znS]at h;cases q:l.ord k with
  |none=>rw[q]at h;cases h
  |some j=>
   rw[q]at h;obtain⟨h1,h2,h3⟩:=ziQ l k j q;obtain⟨g1,g2,g3⟩:=zfH ls j m h;refine⟨by omega,by rw[nbs];omega,λus hu=>?_⟩
   obtain⟨h4,h5⟩:=h3 us (by omega);obtain⟨g4,g5⟩:=g3 us hu;have e:(us.drop k).take (m - k)=(us.drop k).take (j - k)++(us.drop j).take (m - j):=by
    rw[show m - k=(j - k)+(m - j) by omega,iZ,j5,show k+(j - k)=j by omega]
   rw[e,zoq,fills,wts,wts,dts];refine⟨by omega,λu hu=>?_⟩;rcases bq.mp hu with hu |hu
   ·have:=h5 u hu;omega
   ·have:=g5 u hu;omega
end
theorem zho:∀(L:Tr),L.nb≤L.weight:=λL=>by rw[←zxz];exact zvp L
theorem zpK:∀ls:List Tr,nbs ls≤wts ls
 | []=>by rw[nbs,wts];exact au _
 |l::ls=>by rw[nbs,wts];have:=zho l;have:=zpK ls;omega
section
variable {B:List Tn}
theorem Ort.fill (O:Ort B) {t:Tn}(ht:t∈B) {us:List Tr}(hl:us.length=t.2.1.nb):(t.2.1.fill us).weight+t.2.1.nb=t.2.1.weight+wts us∧1+wts us≤(t.2.1.fill us).weight∧1+dts us≤(t.2.1.fill us).depth:=by
 obtain⟨s,ls,e,_⟩:=O.inn t ht;have ho:=O.od t ht;obtain⟨_,h2,h3⟩:=ziQ _ _ _ ho;obtain⟨h4,_⟩:=h3 us (by omega);rw[dP,c6,db (by omega)]at h4;have hw:1+t.2.1.nb≤t.2.1.weight:=by
  rw[e,Tr.nb,Tr.weight];have:=zpK ls;omega
 refine⟨h4,by omega,?_⟩
 rw[e]at ho hl⊢;rw[Tr.ord]at ho;obtain⟨_,_,g3⟩:=zfH _ _ _ ho;obtain⟨_,g5⟩:=g3 us (by omega);rw[dP,c6,db (by omega)]at g5;rw[Tr.fill,Tr.depth];have:=zij g5;omega
mutual
noncomputable def Pl.pn:Pl→Nat
 | .nd k _ _ ps=>(if k<0 then 0 else 1)+pns ps
noncomputable def pns:List Pl→Nat
 | []=>0
 |p::ps=>max p.pn (pns ps)
end
theorem zhy{p:Pl}:∀{ps:List Pl},p∈ps→p.pn≤pns ps
 |q::ps,h=>by
  rw[pns];rcases az.mp h with rfl |h
  ·omega
  ·have:=zhy h;omega
noncomputable def zr:Int→Nat:=λ_=>0
theorem zlz{c:Int→Nat}{n:Nat}:∀(ps:List Pl),(∀p∈ps,(p.ev B c).weight≤2 ^ n*(p.ev B zr).weight)→wts (ps.map (Pl.ev B c))≤2 ^ n*wts (ps.map (Pl.ev B zr))
 | [],_=>by simp [wts]
 |p::ps,h=>by
  have h1:=h p a0;have h2:=zlz ps λq hq=>h q (aK _ hq);rw[aA,aA,wts,wts,fL];omega
theorem zfN{c:Int→Nat}(b:BkOk ws ws B) (sl:zwQ B) (O:Ort B) {p:Pl}(h:PlOk ws B p):(p.ev B c).weight≤2 ^ p.pn*(p.ev B zr).weight:=by
 induction h with
 | @sign b' h ps hh hp ih=>
  have hk:∀p∈ps,(p.ev B c).weight≤2 ^ pns ps*(p.ev B zr).weight:=λp hp=>aX (ih p hp) (dI _ (cV (by decide) (zhy hp)));have:=zlz ps hk;have hp1:=zeJ (pns ps);rw[zaX,zaX,Tr.weight,Tr.weight,Pl.pn,if_pos (by decide),b8,fL,Nat.mul_one];omega
 | @turn k b' h ps t e hl b0 b1 hp ih=>
  have ht:t∈B:=aV e;have hk:∀p∈ps,(p.ev B c).weight≤2 ^ pns ps*(p.ev B zr).weight:=λp hp=>aX (ih p hp) (dI _ (cV (by decide) (zhy hp)));have hs:=zlz ps hk;have hp1:=zeJ (pns ps);have en:(Pl.nd k b' h ps).pn=1+pns ps:=by rw[Pl.pn,if_neg (by omega)]
  have l1:(ps.map (Pl.ev B c)).length=t.2.1.nb:=by rw[aq,hl]
  have l0:(ps.map (Pl.ev B zr)).length=t.2.1.nb:=by rw[aq,hl]
  obtain⟨f1,_,_⟩:=O.fill ht l1;obtain⟨f2,f3,_⟩:=O.fill ht l0;rw[zaL e,zaL e,en,show zr b'=0 from rfl];show(evT t (c b') _).weight≤2 ^ (1+pns ps)*(t.2.1.fill (ps.map (Pl.ev B zr))).weight;have hpow:2 ^ (1+pns ps)=2*2 ^ pns ps:=by rw[Nat.pow_add]
  have hm:2 ^ (1+pns ps)*(1+wts (ps.map (Pl.ev B zr)))=2*2 ^ pns ps+2*(2 ^ pns ps*wts (ps.map (Pl.ev B zr))):=by rw[hpow,fL,Nat.mul_one,gC]
  have hge:=dY (2 ^ (1+pns ps)) f3;unfold evT;split
  ·have g1:2 ^ pns ps*(t.2.1.fill (ps.map (Pl.ev B zr))).weight≤2 ^ (1+pns ps)*(t.2.1.fill (ps.map (Pl.ev B zr))).weight:=dI _ (cV (by decide) (by omega));refine aX ?_ g1;have hc:(t.2.1.fill (ps.map (Pl.ev B zr))).weight=(t.2.1.weight - t.2.1.nb)+wts (ps.map (Pl.ev B zr)):=by
    have:=zho t.2.1;omega
   have g2:t.2.1.weight - t.2.1.nb≤2 ^ pns ps*(t.2.1.weight - t.2.1.nb):=kc _ hp1;rw[hc,fL];have:=zho t.2.1;omega
  ·rw[Tr.weight];omega
  ·have hM:1≤2 ^ pns ps*(1+wts (ps.map (Pl.ev B zr))):=aX hp1 (j9 _ (by omega));cases hps:ps with
   |nil=>
    subst hps;have:=(sl t ht _ 1 l1 (by decide) (λu hu=>by simp at hu)).2 (by simpa using hl.symm)
    simp only[cp]at *;have:pns []=0:=by rw[pns]
    rw[this]at *;simp only[wts]at *;omega
   |cons q qs=>
    rw[←hps];have hw1:1≤wts (ps.map (Pl.ev B zr)):=by
     rw[hps,aA,wts];have:=zes (q.ev B zr);omega
    have hX:1≤2 ^ pns ps*wts (ps.map (Pl.ev B zr)):=aX hp1 (j9 _ hw1);have:=(sl t ht _ (2 ^ pns ps*wts (ps.map (Pl.ev B zr))) l1 hX λu hu=>by
     obtain⟨p,hp,rfl⟩:=aI.mp hu;exact aX (hk p hp) (dY _ (zdc (aI.mpr ⟨p,hp,rfl⟩)))).1
    omega
end
section
variable {ws:List Str}{B:List Tn}
theorem zhm{c:Int→Nat}(b:BkOk ws ws B) (O:Ort B) {p:Pl}(h:PlOk ws B p):(p.ev B c).depth≤(p.ev B zr).depth+3*p.pn:=by
 induction h with
 | @sign b' h ps hh hp ih=>
  rw[zaX,zaX,Tr.depth,Tr.depth,Pl.pn,if_pos (by decide)];have:dts (ps.map (Pl.ev B c))≤dts (ps.map (Pl.ev B zr))+3*pns ps:=zij λt ht=>by
   obtain⟨p,hp,rfl⟩:=aI.mp ht;have:=ih p hp;have:=zhy hp;have:=zbA (aI.mpr ⟨p,hp,rfl⟩:p.ev B zr∈ps.map (Pl.ev B zr));omega
  omega
 | @turn k b' h ps t e hl b0 b1 hp ih=>
  have ht:t∈B:=aV e;have l0:(ps.map (Pl.ev B zr)).length=t.2.1.nb:=by rw[aq,hl]
  obtain⟨_,_,f3⟩:=O.fill ht l0;have hk:∀u∈ps.map (Pl.ev B c),u.depth≤dts (ps.map (Pl.ev B zr))+3*pns ps:=λt ht=>by
   obtain⟨p,hp,rfl⟩:=aI.mp ht;have:=ih p hp;have:=zhy hp;have:=zbA (aI.mpr ⟨p,hp,rfl⟩:p.ev B zr∈ps.map (Pl.ev B zr));omega
  have en:(Pl.nd k b' h ps).pn=1+pns ps:=by rw[Pl.pn,if_neg (by omega)]
  have fd:∀L:Tr,L.depth≤4→(L.fill (ps.map (Pl.ev B c))).depth≤4+dts (ps.map (Pl.ev B zr))+3*pns ps:=λL hL=>by
   cases ps with
   |nil=>
    have:=zhr L;simp only[cp]at *;omega
   |cons q qs=>
    have h1:1≤(q.ev B zr).depth:=by
     have:=O.inn;cases q.ev B zr<;>simp [Tr.depth]
    have:=zhT (k:=dts ((q::qs).map (Pl.ev B zr))+3*pns (q::qs)) (by rw[aA,dts];omega) hk L;omega
  rw[zaL e,zaL e,en,show zr b'=0 from rfl];show(evT t (c b') _).depth≤(t.2.1.fill (ps.map (Pl.ev B zr))).depth+3*(1+pns ps);unfold evT;split
  ·have:=fd _ (b.lf t ht).dp;omega
  ·rw[Tr.depth];have:=zij hk;omega
  ·have:=(b.ri t ht).dp;have:=fd t.2.2 (by omega);omega
mutual
noncomputable def Tr.ne (B:List Tn):Tr→Nat
 | .bl _=>0
 | .nd s ts=>(match zaZ B s with
  |none=>0
  |some _=>1)+nes B ts
noncomputable def nes (B:List Tn):List Tr→Nat
 | []=>0
 |t::ts=>max (t.ne B) (nes B ts)
end
theorem zlA{t:Tr}:∀{ts:List Tr},t∈ts→t.ne B≤nes B ts
 |u::ts,h=>by
  rw[nes];rcases az.mp h with rfl |h
  ·omega
  ·have:=zlA h;omega
theorem zgc{n:Nat}:∀{ts:List Tr},(∀t∈ts,t.ne B≤n)→nes B ts≤n
 | [],_=>by rw[nes];omega
 |t::ts,h=>by
  rw[nes];have:=h t (by simp);have:=zgc λu hu=>h u (aK _ hu);omega
mutual
theorem ziY (hB:∀t∈B,zcZ t.1) {us:List Tr}:∀t:Tr,t.hb zcM→(t.fill us).ne B≤nes B us
 | .bl n,_=>by
  rw[Tr.fill,br];cases e:us[n.toNat]? with
  |none=>simp [Tr.ne]
  |some u=>exact zlA (aV e)
 | .nd s ts,h=>by
  rw[Tr.hb]at h;rw[Tr.fill,Tr.ne,zbe hB h.1];have:=znn hB (us:=us) ts h.2;simpa using this
theorem znn (hB:∀t∈B,zcZ t.1) {us:List Tr}:∀ts:List Tr,hbs zcM ts→nes B (fills us ts)≤nes B us
 | [],_=>by rw[fills,nes];omega
 |t::ts,h=>by
  rw[hbs]at h;rw[fills,nes];have:=ziY hB (us:=us) t h.1;have:=znn hB (us:=us) ts h.2;omega
end
mutual
theorem zth:∀(L:Tr) (k m:Nat),L.ord k=ae m→ ∀(us:List Tr),m≤us.length→ ∀u∈(us.drop k).take (m - k),u.ne B≤(L.fill us).ne B
 | .bl n,k,m,h,us,hu,u,hm=>by
  rw[Tr.ord]at h;split at h
  ·rename_i hn;cases h;have hk:k<us.length:=by omega
   have e:(us.drop k).take (k+1 - k)=[us[k]]:=by
    rw[show k+1 - k=1 by omega,eR hk]
    rfl
   have f:(Tr.bl n).fill us=us[k]:=by
    rw[Tr.fill,hn,bW,br,a8 hk];rfl
   rw[e,bh]at hm;rw[f,hm];exact au _
  ·cases h
 | .nd s ls,k,m,h,us,hu,u,hm=>by
  rw[Tr.ord]at h;have:=zoJ ls k m h us hu u hm;rw[Tr.fill,Tr.ne];omega
theorem zoJ:∀(ls:List Tr) (k m:Nat),znS k ls=ae m→ ∀(us:List Tr),m≤us.length→ ∀u∈(us.drop k).take (m - k),u.ne B≤nes B (fills us ls)
 | [],k,m,h,us,hu,u,hm=>by
  rw[znS]at h;cases h;rw[g9,kr]at hm;cases hm
 |l::ls,k,m,h,us,hu,u,hm=>by
  rw[znS]at h;cases q:l.ord k with
  |none=>rw[q]at h;cases h
  |some j=>
   rw[q]at h;obtain⟨h1,_,_⟩:=ziQ l k j q;obtain⟨g1,_,_⟩:=zfH ls j m h;have e:(us.drop k).take (m - k)=(us.drop k).take (j - k)++(us.drop j).take (m - j):=by
    rw[show m - k=(j - k)+(m - j) by omega,iZ,j5,show k+(j - k)=j by omega]
   rw[e]at hm;rw[fills,nes];rcases bq.mp hm with hm |hm
   ·have:=zth l k j q us (by omega) u hm;omega
   ·have:=zoJ ls j m h us hu u hm;omega
end
theorem Ort.ne (O:Ort B) {t:Tn}(ht:t∈B) {us:List Tr}(hl:us.length=t.2.1.nb):nes B us≤(t.2.1.fill us).ne B:=zgc λu hu=>by
 refine zth _ _ _ (O.od t ht) us (by omega) u ?_;rw[dP,c6,db (by omega)];exact hu
theorem zfO{c:Int→Nat}{p:Pl}{ps:List Pl}(hp:p∈ps):(p.ev B c).ne B≤nes B (ps.map (Pl.ev B c)):=zlA (aI.mpr ⟨p,hp,rfl⟩)
theorem zpE{n:Nat}:∀{ps:List Pl},(∀p∈ps,p.pn≤n)→pns ps≤n
 | [],_=>by rw[pns];omega
 |p::ps,h=>by
  rw[pns];have:=h p (by simp);have:=zpE λu hu=>h u (aK _ hu);omega
theorem zyt{c d:Int→Nat}(b:BkOk ws ws B) (O:Ort B) (hc:One c) (hd:One d) {p:Pl}(h:PlOk ws B p) (hb:PlB (λx=>c x=1∨d x=1) p):p.pn≤(p.ev B c).ne B+(p.ev B d).ne B:=by
 induction h with
 | @sign b' h ps hh hp ih=>
  have kids:∀p∈ps,PlB (λx=>c x=1∨d x=1) p:=by
   cases hb with
   |sign h=>exact h
  have:pns ps≤nes B (ps.map (Pl.ev B c))+nes B (ps.map (Pl.ev B d)):=zpE λp hp=>by
   have:=ih p hp (kids p hp);have:=zfO (B:=B) (c:=c) hp;have:=zfO (B:=B) (c:=d) hp;omega
  have e:=zbe b.ti (b.sg h hh);rw[zaX,zaX,Pl.pn,if_pos (by decide),Tr.ne,Tr.ne,e];simpa using this
 | @turn k b' h ps t e hl b0 b1 hp ih=>
  have ht:t∈B:=aV e;obtain⟨hb1,kids⟩:(c b'=1∨d b'=1)∧ ∀p∈ps,PlB (λx=>c x=1∨d x=1) p:=by
   cases hb with
   |turn h1 h2=>exact⟨h1,h2⟩
  have key:pns ps≤nes B (ps.map (Pl.ev B c))+nes B (ps.map (Pl.ev B d)):=zpE λp hp=>by
   have:=ih p hp (kids p hp);have:=zfO (B:=B) (c:=c) hp;have:=zfO (B:=B) (c:=d) hp;omega
  have en:(Pl.nd k b' h ps).pn=1+pns ps:=by rw[Pl.pn,if_neg (by omega)]
  have low:∀c:Int→Nat,One c→nes B (ps.map (Pl.ev B c))+c b'≤(evT t (c b') (ps.map (Pl.ev B c))).ne B:=λc hc=>by
   have l1:(ps.map (Pl.ev B c)).length=t.2.1.nb:=by rw[aq,hl]
   have:=hc b' b0 b1;by_cases h1:c b'=1
   ·rw[h1];show _≤(Tr.nd t.1 _).ne B;rw[Tr.ne,zcr b.nd ht];show _≤1+_;omega
   ·rw[show c b'=0 by omega]
    exact O.ne ht l1
  rw[zaL e,zaL e,en];have:=low c hc;have:=low d hd;omega
theorem ztU{c d:Int→Nat}(b:BkOk ws ws B) (O:Ort B) (hc:One c) (hd:One d) {p:Pl}(h:PlOk ws B p):(p.ev B (zkP c d)).ne B≤(p.ev B c).ne B:=by
 induction h with
 | @sign b' h ps hh hp ih=>
  have:nes B (ps.map (Pl.ev B (zkP c d)))≤nes B (ps.map (Pl.ev B c)):=zgc λu hu=>by
   obtain⟨p,hp,rfl⟩:=aI.mp hu;exact aX (ih p hp) (zfO hp)
  have e:=zbe b.ti (b.sg h hh);rw[zaX,zaX,Tr.ne,Tr.ne,e];simpa using this
 | @turn k b' h ps t e hl b0 b1 hp ih=>
  have ht:t∈B:=aV e;have key:nes B (ps.map (Pl.ev B (zkP c d)))≤nes B (ps.map (Pl.ev B c)):=zgc λu hu=>by
   obtain⟨p,hp,rfl⟩:=aI.mp hu;exact aX (ih p hp) (zfO hp)
  have l1:(ps.map (Pl.ev B c)).length=t.2.1.nb:=by rw[aq,hl]
  have low:nes B (ps.map (Pl.ev B c))+c b'≤(evT t (c b') (ps.map (Pl.ev B c))).ne B:=by
   have:=hc b' b0 b1;by_cases h1:c b'=1
   ·rw[h1];show _≤(Tr.nd t.1 _).ne B;rw[Tr.ne,zcr b.nd ht];show _≤1+_;omega
   ·rw[show c b'=0 by omega]
    exact O.ne ht l1
  rw[zaL e,zaL e];refine aX ?_ low;have hp:zkP c d b'=if d b'=1 then 2 else c b':=rfl;rw[hp];by_cases dz:d b'=1
  ·rw[if_pos dz];have:=ziY b.ti (us:=ps.map (Pl.ev B (zkP c d))) t.2.2 ((b.ri t ht).hb b.sg);show(t.2.2.fill _).ne B≤_;omega
  ·rw[if_neg dz];have:=hc b' b0 b1;by_cases h1:c b'=1
   ·rw[h1];show(Tr.nd t.1 _).ne B≤_;rw[Tr.ne,zcr b.nd ht];show 1+_≤_;omega
   ·rw[show c b'=0 by omega]
    have:=ziY b.ti (us:=ps.map (Pl.ev B (zkP c d))) t.2.1 (b.lf t ht).hb;show(t.2.1.fill _).ne B≤_;omega
end
mutual
theorem Mv.one{B:List Tn}:∀{n m:Nat}{a b c d:Tr},Mv B n a b c→Mv B m a b d→c=d
 |_,_,_,_,_,_, .nn h1 h2 h3,g=>by
  cases g with
  |nn g1 g2 g3=>rw[Mvs.one h3 g3]
  |ns g1 g2 g3 g4 g5=>rw[h2]at g2;cases g2
  |sn g1 g2 g3 g4=>rw[h1]at g1;cases g1
  |ss g1 g2 g3 g4=>rw[h1]at g1;cases g1
 |_,_,_,_,_,_, .ns h1 h2 h3 h4 h5,g=>by
  cases g with
  |nn g1 g2 g3=>rw[h2]at g2;cases g2
  |ns g1 g2 g3 g4 g5=>
   rw[h2]at g2;cases g2;rw[h3]at g3;cases g3;rw[Mvs.one h5 g5]
  |sn g1 g2 g3 g4=>rw[h1]at g1;cases g1
  |ss g1 g2 g3 g4=>rw[h1]at g1;cases g1
 |_,_,_,_,_,_, .sn h1 h2 h3 h4,g=>by
  cases g with
  |nn g1 g2 g3=>rw[h1]at g1;cases g1
  |ns g1 g2 g3 g4 g5=>rw[h1]at g1;cases g1
  |sn g1 g2 g3 g4=>
   rw[h1]at g1;cases g1;rw[h3]at g3;cases g3;rw[Mvs.one h4 g4]
  |ss g1 g2 g3 g4=>rw[h2]at g2;cases g2
 |_,_,_,_,_,_, .ss h1 h2 h3 h4,g=>by
  cases g with
  |nn g1 g2 g3=>rw[h1]at g1;cases g1
  |ns g1 g2 g3 g4 g5=>rw[h1]at g1;cases g1
  |sn g1 g2 g3 g4=>rw[h2]at g2;cases g2
  |ss g1 g2 g3 g4=>
   rw[h2]at g2;cases g2;rw[Mvs.one h4 g4]
theorem Mvs.one{B:List Tn}:∀{n m:Nat}{a b c d:List Tr},Mvs B n a b c→Mvs B m a b d→c=d
 |_,_,_,_,_,_, .nil,g=>by
  cases g;rfl
 |_,_,_,_,_,_, .cons h1 h2,g=>by
  cases g with
  |cons g1 g2=>rw[Mv.one h1 g1,Mvs.one h2 g2]
end
open Classical in
noncomputable def res (B:List Tn) (x y:Tr):Tr:=if h:∃z n,Mv B n x y z then choose h else x
theorem Mv.res{B:List Tn}{n:Nat}{x y z:Tr}(h:Mv B n x y z):res B x y=z:=by
 unfold L2.res;have e:∃z n,Mv B n x y z:=⟨z,n,h⟩;rw[dif_pos e];obtain⟨m,h'⟩:=Classical.choose_spec e;exact Mv.one h' h
structure Bk3 (ws:List Str) (B:List Tn):Prop where
  b:BkOk ws ws B
  O:Ort B
  lw:∀t∈B,t.2.1.hb λs=>s∈ws
structure Bk2 (ws:List Str) (B:List Tn):Prop extends Bk3 ws B where
  sl:zwQ B
instance {ws:List Str}{B:List Tn}:Coe (Bk2 ws B) (Bk3 ws B):=⟨Bk2.toBk3⟩
theorem BookOk.bk2{w0 w1 w2 w3 w4 w5:Str}{tt:List Str}{B:List Tn}(b:BookOk w0 w1 w2 w3 w4 w5 tt B) (T:Titles tt) (G:Signs w0 w1 w2 w3 w4 w5) (sl:zwQ B):Bk2 [w0,w1,w2,w3,w4,w5] B:=by
 have k:=b.bk T G;refine⟨⟨⟨k.ti,k.nd,k.sg,λx hx=>hx,k.lf,k.ri⟩,b.ort G,λt ht=>?_⟩,sl⟩;obtain⟨n,z |z⟩:=b.mem_lefts ht
 ·exact(zgI (P:=λs=>s∈ [w0,w1,w2,w3,w4,w5]) (by simp) (by simp) (by simp) _ z).hb
 ·exact(zgI (P:=λs=>s∈ [w0,w1,w2,w3,w4,w5]) (by simp) (by simp) (by simp) _ z).hb
section
variable {ws:List Str}{B:List Tn}{x y:Tr}{p:Pl}
theorem Bk3.wy (K:Bk3 ws B) {c:Int→Nat}{p:Pl}(h:PlOk ws B p):Wy ws B (p.ev B c):=by
 refine⟨?_,zuo _ (ztn K.b h)⟩
 induction h with
 | @sign b' h ps hh hp ih=>
  rw[zaX,Tr.hd,hds_iff];refine⟨.inl hh,λu hu=>?_⟩;obtain⟨p,hp,rfl⟩:=aI.mp hu;exact ih p hp
 | @turn k b' h ps t e hl b0 b1 hp ih=>
  have ht:t∈B:=aV e;have hu:∀u∈ps.map (Pl.ev B c),u.hd λs=>s∈ws∨ ∃t∈B,t.1=s:=λu hu=>by
   obtain⟨p,hp,rfl⟩:=aI.mp hu;exact ih p hp
  rw[zaL e];unfold evT;split
  ·exact zht hu _ (ziZ (λs hs=> .inl hs) _ (K.lw t ht)) (by rw[aq,hl];exact(K.b.lf t ht).fits)
  ·rw[Tr.hd,hds_iff];exact⟨.inr ⟨t,ht,rfl⟩,hu⟩
  ·exact zht hu _ ((K.b.ri t ht).hb (λs hs=> .inl hs)) (by rw[aq,hl];exact(K.b.ri t ht).fits)
theorem zyv (x:Int) (h:zvv x):byC 1 x=1∨byC 2 x=1:=by
 rcases h with rfl |rfl |rfl
 ·exact .inl (by decide)
 ·exact .inr (by decide)
 ·exact .inl (by decide)
theorem PlB.imp{P Q:Int→Prop}(h:∀x,P x→Q x) {p:Pl}(hp:PlB P p):PlB Q p:=by
 induction hp with
 |sign _ ih=>exact .sign ih
 |turn hb _ ih=>exact .turn (h _ hb) ih
theorem zqF (K:Bk3 ws B) (hx:Wy ws B x) (hy:Wy ws B y) (e:src B x=src B y):∃p,PlOk ws B p∧p.ev B (byC 1)=x∧p.ev B (byC 2)=y∧p.pn≤x.ne B+y.ne B∧p.ev B zr=src B x:=by
 obtain⟨p,hp,hb,e1,e2⟩:=zrG K.b K.O _ x y (au _) hx hy e;refine⟨p,hp,e1,e2,?_,?_⟩
 ·have:=zyt K.b K.O (zih 1) (zih 2) hp (hb.imp zyv);rw[e1,e2]at this;exact this
 ·rw[←e1];show _=(p.ev B (byC 1)).mk B λt=>t.2.1;rw[zeC K.b hp];exact zfV hp λb h0 h1=>((zih 1).src b h0 h1).symm
theorem Bk2.pk (K:Bk2 ws B) {p:Pl}(hp:PlOk ws B p) {n:Nat}(hn:p.pn≤n) (hw:2 ^ n*(p.ev B zr).weight≤400) (hd:(p.ev B zr).depth+3*n≤40):Pk ws ws B p:=by
 refine⟨K.b,K.O.mt,hp,λ{c}=>?_,λ{c}=>?_⟩
 ·have:=zhm (c:=c) K.b K.O hp;omega
 ·have h1:=zfN (c:=c) K.b K.sl K.O hp;have h2:2 ^ p.pn*(p.ev B zr).weight≤2 ^ n*(p.ev B zr).weight:=dI _ (cV (by decide) hn);omega
structure Two (ws:List Str) (B:List Tn) (x y:Tr):Prop where
  K:Bk3 ws B
  ex:∃p c d,Pk ws ws B p∧One c∧One d∧p.ev B c=x∧p.ev B d=y
theorem Two.symm (h:Two ws B x y):Two ws B y x:=by
 obtain⟨p,c,d,k,hc,hd,e1,e2⟩:=h.ex;exact⟨h.K,p,d,c,k,hd,hc,e2,e1⟩
structure Moved (ws:List Str) (B:List Tn) (x y z:Tr):Prop where
  wy:Wy ws B z
  sr:src B z=gol B y
  go:gol B z=gol B (res B y x)
  ne:z.ne B≤x.ne B
theorem Two.moved (h:Two ws B x y):Moved ws B x y (res B x y):=by
 obtain⟨p,c,d,k,hc,hd,rfl,rfl⟩:=h.ex;have m1:=(ziF (c:=c) (d:=d) k.b k.m (ziS hc hd) k.o).res;have m2:=(ziF (c:=d) (d:=c) k.b k.m (ziS hd hc) k.o).res;rw[m1];refine⟨h.K.wy k.o,?_,?_,ztU h.K.b h.K.O hc hd k.o⟩
 ·show(p.ev B (zkP c d)).mk B (λt=>t.2.1)=(p.ev B d).mk B λt=>t.2.2;rw[zeC k.b k.o,zdg k.b k.o];refine zfV k.o λx h0 h1=>?_;have a:=hc x h0 h1;have b:=hd x h0 h1;unfold zgs zbt zkP;generalize c x=m at a⊢;generalize d x=n at b⊢;obtain rfl |rfl:m=0∨m=1:=by omega
  all_goals obtain rfl |rfl:n=0∨n=1:=by omega
  all_goals rfl
 ·rw[m2];show(p.ev B (zkP c d)).mk B (λt=>t.2.2)=(p.ev B (zkP d c)).mk B λt=>t.2.2;rw[zdg k.b k.o,zdg k.b k.o];refine zfV k.o λx h0 h1=>?_;have a:=hc x h0 h1;have b:=hd x h0 h1;unfold zbt zkP;generalize c x=m at a⊢;generalize d x=n at b⊢;obtain rfl |rfl:m=0∨m=1:=by omega
  all_goals obtain rfl |rfl:n=0∨n=1:=by omega
  all_goals rfl
end
section
variable {ws:List Str}{B:List Tn}{x y t:Tr}
structure Bd (t:Tr) (n:Nat):Prop where
  w:2 ^ n*t.weight≤400
  d:t.depth+3*n≤40
theorem Bd.mono{n m:Nat}(h:Bd t m) (hn:n≤m):Bd t n:=by
 have h1:=h.w;have h2:=h.d;have h3:2 ^ n*t.weight≤2 ^ m*t.weight:=dI _ (cV (by decide) hn);exact⟨by omega,by omega⟩
theorem zzG (b:BkOk ws ws B) {p:Pl}(h:PlOk ws B p):(p.ev B zr).ne B=0:=by
 induction h with
 | @sign b' h ps hh hp ih=>
  have:nes B (ps.map (Pl.ev B zr))≤0:=zgc λu hu=>by
   obtain⟨p,hp,rfl⟩:=aI.mp hu;rw[ih p hp];exact au _
  have e:=zbe b.ti (b.sg h hh);rw[zaX,Tr.ne,e];show 0+_=0;omega
 | @turn k b' h ps t e hl b0 b1 hp ih=>
  have ht:t∈B:=aV e;have:nes B (ps.map (Pl.ev B zr))≤0:=zgc λu hu=>by
   obtain⟨p,hp,rfl⟩:=aI.mp hu;rw[ih p hp];exact au _
  have:=ziY b.ti (us:=ps.map (Pl.ev B zr)) t.2.1 (b.lf t ht).hb;rw[zaL e];show(t.2.1.fill _).ne B=0;omega
theorem zAy:∀x:Int,0≤x→x<8→zr x=byC 8 x:=λx h0 h8=>(zrY x h0 h8).symm
theorem Bk3.src (K:Bk3 ws B) (h:Wy ws B x):Wy ws B (src B x)∧L2.src B (src B x)=L2.src B x∧(L2.src B x).ne B=0∧gol B (L2.src B x)=L2.src B x:=by
 obtain⟨p,hp,_,rfl,_⟩:=zrG K.b K.O _ x x (au _) h h rfl;have e:L2.src B (p.ev B (byC 1))=p.ev B zr:=by
  show(p.ev B (byC 1)).mk B (λt=>t.2.1)=_;rw[zeC K.b hp];exact zfV hp (zih 1).src
 rw[e];refine⟨K.wy hp,?_,zzG K.b hp,?_⟩
 ·show(p.ev B zr).mk B (λt=>t.2.1)=_;rw[zeC K.b hp];rfl
 ·show(p.ev B zr).mk B (λt=>t.2.2)=_;rw[zdg K.b hp];rfl
theorem Bk2.two (K:Bk2 ws B) (hx:Wy ws B x) (hy:Wy ws B y) (ex:L2.src B x=t) (ey:L2.src B y=t) (h:Bd t (x.ne B+y.ne B)):Two ws B x y:=by
 obtain⟨p,hp,e1,e2,hn,hs⟩:=zqF K hx hy (ex.trans ey.symm);exact⟨K,p,byC 1,byC 2,K.pk hp hn (by rw[hs,ex];exact h.w) (by rw[hs,ex];exact h.d),zih 1,zih 2,e1,e2⟩
theorem Bk2.ow (K:Bk2 ws B) (hx:Wy ws B x) (ex:L2.src B x=t) (h:Bd t (x.ne B)):Two ws B x t:=by
 obtain⟨h1,h2,h3,_⟩:=K.src hx;rw[ex]at h1 h2 h3;exact K.two hx h1 ex h2 (by rw[h3];exact h)
theorem Bk2.goal (K:Bk2 ws B) (hx:Wy ws B x) (ex:L2.src B x=t) {n:Nat}(h:Bd t (x.ne B+n)):Bd (gol B x) n:=by
 have sx:=K.src hx;obtain⟨p,hp,e1,e2,hn,hs⟩:=zqF K hx sx.1 sx.2.1.symm;rw[sx.2.2.1,eU]at hn;have e:gol B x=p.ev B (zbt (byC 1)):=by
  rw[←e1];exact zdg K.b hp
 have h1:=zfN (c:=zbt (byC 1)) K.b K.sl K.O hp;have h2:=zhm (c:=zbt (byC 1)) K.b K.O hp;rw[hs,ex]at h1 h2;have hw:=h.w;have hd:=h.d;rw[e];refine⟨?_,by omega⟩
 have h3:2 ^ p.pn*t.weight≤2 ^ x.ne B*t.weight:=dI _ (cV (by decide) hn);have h4:2 ^ n*(p.ev B (zbt (byC 1))).weight≤2 ^ n*(2 ^ x.ne B*t.weight):=dY _ (aX h1 h3);rw[←gC,←Nat.pow_add,ef n]at h4;omega
theorem Bk3.gol (K:Bk3 ws B) (h:Wy ws B x):Wy ws B (gol B x)∧L2.src B (L2.gol B x)=L2.gol B x∧(L2.gol B x).ne B=0∧L2.gol B (L2.gol B x)=L2.gol B x:=by
 obtain⟨p,hp,_,rfl,_⟩:=zrG K.b K.O _ x x (au _) h h rfl;have e:L2.gol B (p.ev B (byC 1))=p.ev B (zbt (byC 1)):=zdg K.b hp;have tg:∀x,zbt (byC 1) x≠1:=λx=>by unfold zbt;split<;>omega
 have s:L2.src B (p.ev B (zbt (byC 1)))=p.ev B (zbt (byC 1)):=by
  show(p.ev B (zbt (byC 1))).mk B (λt=>t.2.1)=_;rw[zeC K.b hp];exact zfV hp λb _ _=>by rw[zgs,if_neg (tg b)]
 have w:Wy ws B (p.ev B (zbt (byC 1))):=K.wy hp;rw[e];refine⟨w,s,?_,?_⟩
 ·have:=(K.src w).2.2.1;rwa [s]at this
 ·have:=(K.src w).2.2.2;rwa [s]at this
end
section
variable {ws:List Str}{B:List Tn}{x y:Tr}{S:Sto}{a:Addr}{r:Nat}{Q:WK}{E:Str→Sto→Prop}
theorem Two.ok_move (h:Two ws B x y) (ha:S a=ae (.lst (B.map zba))) (hr:60≤r) (q:Q (enc (res B x y)) S):zcT (r+1) [.ref a,enc x,enc y] S Q E:=by
 obtain⟨p,c,d,k,hc,hd,rfl,rfl⟩:=h.ex;have m:=(ziF (c:=c) (d:=d) k.b k.m (ziS hc hd) k.o).res;rw[m]at q;exact k.ok_move (ziS hc hd) ha hr q
theorem Two.ok_goal (h:Two ws B x y) (ha:S a=ae (.lst (B.map zba))) (hr:60≤r) (q:Q (enc (L2.gol B x)) S):zgg (r+1) [.ref a,enc x] S Q E:=by
 obtain⟨p,c,d,k,hc,hd,rfl,rfl⟩:=h.ex;rw[show L2.gol B (p.ev B c)=_ from zdg k.b k.o]at q;exact k.ok_goal ha hr q
theorem Two.ok_made1 (h:Two ws B x y) (ha:S a=ae (.lst (B.map zba))) (hr:60≤r) (q:Q (enc (L2.src B x)) S):zaN (r+1) [.ref a,enc x, .int 1] S Q E:=by
 obtain⟨p,c,d,k,hc,hd,rfl,rfl⟩:=h.ex;rw[show L2.src B (p.ev B c)=_ from zeC k.b k.o]at q;exact k.ok_made1 ha hr q
theorem Two.ok_made2 (h:Two ws B x y) (ha:S a=ae (.lst (B.map zba))) (hr:60≤r) (q:Q (enc (L2.gol B x)) S):zaN (r+1) [.ref a,enc x, .int 2] S Q E:=by
 obtain⟨p,c,d,k,hc,hd,rfl,rfl⟩:=h.ex;rw[show L2.gol B (p.ev B c)=_ from zdg k.b k.o]at q;exact k.ok_made2 ha hr q
end
noncomputable def zhq (B:List Tn):Tr→List Tr→Tr
 |t,[]=>t
 |_,x::xs=>zhq B (gol B x) xs
noncomputable def Roa (ws:List Str) (B:List Tn):Tr→List Tr→Prop
 |_,[]=>True
 |t,x::xs=>Wy ws B x∧src B x=t∧Roa ws B (gol B x) xs
noncomputable def nR (B:List Tn):List Tr→Nat
 | []=>0
 |x::xs=>x.ne B+nR B xs
noncomputable def zdJ (B:List Tn):Tr→List Tr→List Tr
 |x,[]=>[x]
 |x,o::os=>x::zdJ B (res B x o) os
noncomputable def zgB (B:List Tn):Tr→List Tr→List Tr
 |_,[]=>[]
 |x,o::os=>res B o x::zgB B (res B x o) os
noncomputable def zhM (B:List Tn):Tr→List Tr→Tr
 |x,[]=>x
 |x,o::os=>zhM B (res B x o) os
noncomputable def zkT (B:List Tn):List Tr→List Tr→List (List Tr)
 | [],_=>[]
 |x::xs,os=>zdJ B x os::zkT B xs (zgB B x os)
noncomputable def zlF (B:List Tn):List Tr→List Tr→List (List Tr)
 | [],os=>[os]
 |x::xs,os=>os::zlF B xs (zgB B x os)
noncomputable def zdm (B:List Tn):List Tr→List Tr→List Tr
 | [],_=>[]
 |x::xs,os=>zhM B x os::zdm B xs (zgB B x os)
noncomputable def zeR (B:List Tn):List Tr→List Tr→List Tr
 | [],os=>os
 |x::xs,os=>zeR B xs (zgB B x os)
section
variable {ws:List Str}{B:List Tn}
theorem zna:∀(os:List Tr) (x:Tr),(zdJ B x os).length=os.length+1
 | [],x=>rfl
 |o::os,x=>by rw[zdJ,aR,zna os];rfl
theorem zlP:∀(os:List Tr) (x:Tr),(zgB B x os).length=os.length
 | [],x=>rfl
 |o::os,x=>by rw[zgB,aR,zlP os];rfl
theorem zkt:∀(os:List Tr) (x:Tr),(zdJ B x os).getLast? =ae (zhM B x os)
 | [],x=>rfl
 |o::os,x=>by
  rw[zdJ,List.getLast?_cons,zkt os,zhM];rfl
theorem zff:∀(xs os:List Tr),(zdm B xs os).length=xs.length
 | [],os=>rfl
 |x::xs,os=>by rw[zdm,aR,zff xs];rfl
theorem ziC:∀(xs os:List Tr),(zeR B xs os).length=os.length
 | [],os=>rfl
 |x::xs,os=>by rw[zeR,ziC xs,zlP]
structure RowOk (ws:List Str) (B:List Tn) (t x:Tr) (os:List Tr):Prop where
  row:Roa ws B (gol B x) (zgB B x os)
  nr:nR B (zgB B x os)≤nR B os
  wy:Wy ws B (zhM B x os)
  sr:src B (zhM B x os)=zhq B t os
  ne:(zhM B x os).ne B≤x.ne B
  go:zhq B (gol B x) (zgB B x os)=gol B (zhM B x os)
theorem zpk (K:Bk2 ws B):∀(os:List Tr) {x t:Tr},Wy ws B x→src B x=t→Roa ws B t os→Bd t (x.ne B+nR B os)→RowOk ws B t x os
 | [],x,t,hx,ex,_,_=>⟨trivial,au _,hx,ex,au _,rfl⟩
 |o::os,x,t,hx,ex,⟨ho,eo,hr⟩,hb=>by
  rw[nR]at hb;have h2:Two ws B x o:=K.two hx ho ex eo (hb.mono (by omega));have m:=h2.moved;have m':=h2.symm.moved;have b1:Bd (gol B o) (x.ne B+nR B os):=K.goal ho eo (hb.mono (by omega));have ih:=zpk K os m.wy m.sr hr (b1.mono (by have:=m.ne;omega));refine⟨?_,?_,ih.wy,ih.sr,aX ih.ne m.ne,?_⟩
  ·rw[zgB];refine⟨m'.wy,m'.sr,?_⟩;rw[m'.go];exact ih.row
  ·rw[zgB,nR,nR];have:=m'.ne;have:=ih.nr;omega
  ·rw[zgB,zhq,zhM,m'.go];exact ih.go
structure GridOk (ws:List Str) (B:List Tn) (t:Tr) (xs os:List Tr):Prop where
  down:Roa ws B (zhq B t os) (zdm B xs os)
  over:Roa ws B (zhq B t xs) (zeR B xs os)
  go:zhq B (zhq B t os) (zdm B xs os)=zhq B (zhq B t xs) (zeR B xs os)
  nd:nR B (zdm B xs os)≤nR B xs
  no:nR B (zeR B xs os)≤nR B os
theorem zqh (K:Bk2 ws B):∀(xs os:List Tr) {t:Tr},Roa ws B t xs→Roa ws B t os→Bd t (nR B xs+nR B os)→GridOk ws B t xs os
 | [],os,t,_,ho,_=>⟨trivial,ho,rfl,au _,au _⟩
 |x::xs,os,t,⟨hx,ex,hr⟩,ho,hb=>by
  rw[nR]at hb;have r:=zpk K os hx ex ho (hb.mono (by omega));have b1:Bd (gol B x) (nR B xs+nR B os):=K.goal hx ex (hb.mono (by omega));have ih:=zqh K xs (zgB B x os) hr r.row (b1.mono (by have:=r.nr;omega));have e:=r.go;refine⟨?_,?_,?_,?_,?_⟩
  ·rw[zdm];refine⟨r.wy,r.sr,?_⟩;rw[←e];exact ih.down
  ·rw[zhq,zeR];exact ih.over
  ·rw[zdm,zhq,zeR,zhq,←e];exact ih.go
  ·rw[zdm,nR,nR];have:=r.ne;have:=ih.nd;omega
  ·rw[zeR];have:=ih.no;have:=r.nr;omega
theorem Roa.end_bd (K:Bk2 ws B):∀(xs:List Tr) {t:Tr}{n:Nat},Roa ws B t xs→Bd t (nR B xs+n)→Bd (zhq B t xs) n
 | [],t,n,_,h=>by rw[nR,b8]at h;exact h
 |x::xs,t,n,⟨hx,ex,hr⟩,h=>by
  rw[nR]at h;exact Roa.end_bd K xs hr (K.goal hx ex (h.mono (by omega)))
inductive RowC (ws:List Str) (B:List Tn):Tr→List Tr→Prop
 |nil {x:Tr}:RowC ws B x []
 |cons {x o:Tr}{os:List Tr}:Two ws B x o→(∃y,Two ws B (res B x o) y)→RowC ws B (res B x o) os→RowC ws B x (o::os)
inductive Cells (ws:List Str) (B:List Tn):List Tr→List Tr→Prop
 |nil {os:List Tr}:Cells ws B [] os
 |cons {x:Tr}{xs os:List Tr}:RowC ws B x os→Cells ws B xs (zgB B x os)→Cells ws B (x::xs) os
theorem zjZ (K:Bk2 ws B):∀(os:List Tr) {x t:Tr},Wy ws B x→src B x=t→Roa ws B t os→Bd t (x.ne B+nR B os)→RowC ws B x os
 | [],x,t,_,_,_,_=> .nil
 |o::os,x,t,hx,ex,⟨ho,eo,hr⟩,hb=>by
  rw[nR]at hb;have h2:Two ws B x o:=K.two hx ho ex eo (hb.mono (by omega));have m:=h2.moved;have b1:Bd (gol B o) (x.ne B+nR B os):=K.goal ho eo (hb.mono (by omega));have b2:Bd (gol B o) ((res B x o).ne B+nR B os):=b1.mono (by have:=m.ne;omega);exact .cons h2 ⟨_,K.ow m.wy m.sr (b2.mono (by omega))⟩ (zjZ K os m.wy m.sr hr b2)
theorem zmw (K:Bk2 ws B):∀(xs os:List Tr) {t:Tr},Roa ws B t xs→Roa ws B t os→Bd t (nR B xs+nR B os)→Cells ws B xs os
 | [],os,t,_,_,_=> .nil
 |x::xs,os,t,⟨hx,ex,hr⟩,ho,hb=>by
  rw[nR]at hb;have r:=zpk K os hx ex ho (hb.mono (by omega));have b1:Bd (gol B x) (nR B xs+nR B os):=K.goal hx ex (hb.mono (by omega));exact .cons (zjZ K os hx ex ho (hb.mono (by omega))) (zmw K xs _ hr r.row (b1.mono (by have:=r.nr;omega)))
end
theorem zfT{α β:Type}{R:α→β→Prop}:∀{xs:List α}{ys:List β}{xs':List α}{ys':List β},aN R xs ys→aN R xs' ys'→aN R (xs++xs') (ys++ys')
 |_,_,_,_, .nil,h=>h
 |_,_,_,_, .cons h1 h2,h=> .cons h1 (zfT h2 h)
theorem zcb{α β:Type}{R R':α→β→Prop}(f:∀x y,R x y→R' x y):∀{xs:List α}{ys:List β},aN R xs ys→aN R' xs ys
 |_,_, .nil=> .nil
 |_,_, .cons h1 h2=> .cons (f _ _ h1) (zcb f h2)
mutual
theorem zwy:∀(L t:Tr) (ms:List Tr) (p:List Int),L.mt t=ae ms→aN (λ(x:List Int×Tr) m=>∃e,x.1=p++e∧t.at e=ae m) ((L.plt p).filter λx=>x.2.isBl) ms
 | .bl n,t,ms,p,e=>by
  rw[Tr.mt]at e;cases e;rw[Tr.plt];exact .cons ⟨[],by simp,by rw[Tr.at]⟩ .nil
 | .nd s ls, .bl n,ms,p,e=>by rw[Tr.mt]at e;cases e
 | .nd s ls, .nd z us,ms,p,e=>by
  rw[Tr.mt]at e;split at e
  ·rename_i hc;rw[b3,beq_iff_eq,beq_iff_eq]at hc;rw[Tr.plt,kg (by simp [Tr.isBl])];refine zcb ?_ (ztg ls us ms p 0 hc.2 e);rintro x m ⟨j,e,u,h1,h2,h3⟩;refine⟨(j:Int)::e,by rw[h1,b8],?_⟩
   rw[Tr.at,if_neg (by omega),bW,h2];exact h3
  ·cases e
theorem ztg:∀(ls us ms:List Tr) (p:List Int) (i:Nat),ls.length=us.length→mts ls us=ae ms→aN (λ(x:List Int×Tr) m=>∃(j:Nat) (e:List Int) (u:Tr),x.1=p++((i+j:Nat):Int)::e∧us[j]? =ae u∧u.at e=ae m) ((zhE p i ls).filter λx=>x.2.isBl) ms
 | [],us,ms,p,i,hl,e=>by
  rw[mts]at e;cases e;rw[zhE];exact .nil
 |l::ls,[],ms,p,i,hl,e=>by cases hl
 |l::ls,u::us,ms,p,i,hl,e=>by
  rw[mts]at e;cases q1:l.mt u with
  |none=>rw[q1]at e;cases e
  |some xs=>
   rw[q1]at e;cases q2:mts ls us with
   |none=>rw[q2]at e;cases e
   |some zs=>
    rw[q2]at e;cases e;rw[zhE,jh];refine zfT (zcb ?_ (zwy l u xs _ q1)) (zcb ?_ (ztg ls us zs p (i+1) (by simpa using hl) q2))
    ·rintro x m ⟨e,h1,h2⟩;exact⟨0,e,u,by rw[h1];simp,rfl,h2⟩
    ·rintro x m ⟨j,e,v,h1,h2,h3⟩;exact⟨j+1,e,v,by rw[h1,show i+1+j=i+(j+1) by omega],by rw[dQ];exact h2,h3⟩
end
theorem zvJ{L t:Tr}{ms:List Tr}(h:L.mt t=ae ms):aN (λq m=>t.at q=ae m) (L.bls.map λx=>x.1) ms:=by
 have:=zwy L t ms [] h;clear h;unfold Tr.bls;generalize (L.plt []).filter (λx=>x.2.isBl)=xs at this⊢
 induction this with
 |nil=>exact .nil
 |cons h1 h2 ih=>
  obtain⟨e,h3,h4⟩:=h1;rw[aA];rw[a9]at h3;exact .cons (by rw[h3];exact h4) ih
noncomputable def cnt (wn:List (List Int)) (p:List Int):Nat:=wn.countP λq=>p.isPrefixOf q
theorem zok (wn:List (List Int)) (p q:List Int):cnt wn (p++q)≤cnt wn p:=by
 unfold cnt;refine List.countP_mono_left λx _ h=>?_;obtain⟨e,rfl⟩:=dL.mp h;exact dL.mpr ⟨q++e,by simp⟩
theorem zsP:∀(wn:List (List Int)) (p:List Int) (i:Int) (q:List Int),p∈wn→cnt wn (p++i::q)+1≤cnt wn p
 |w::wn,p,i,q,h=>by
  unfold cnt;rw[ke,ke];have hs:=zok wn p (i::q);unfold cnt at hs;rcases az.mp h with rfl |h
  ·have h1:(p++i::q).isPrefixOf p=false:=by
    rw[Bool.eq_false_iff];intro z;obtain⟨e,z⟩:=dL.mp z;have:=congrArg dw z;simp at this
   have h2:p.isPrefixOf p=true:=dL.mpr ⟨[],by simp⟩
   rw[h1,h2];simp;omega
  ·have ih:=zsP wn p i q h;unfold cnt at ih;have h3:(p++i::q).isPrefixOf w=true→p.isPrefixOf w=true:=λz=>by
    obtain⟨e,rfl⟩:=dL.mp z;exact dL.mpr ⟨i::q++e,by simp⟩
   by_cases z:(p++i::q).isPrefixOf w=true
   ·rw[if_pos z,if_pos (h3 z)];omega
   ·rw[if_neg z];omega
theorem zlb{B:List Tn}:∀{ts:List Tr},(∀t∈ts,t.ar B)→ars B ts
 | [],_=>by rw[ars];trivial
 |t::ts,h=>by rw[ars];exact⟨h t (by simp),zlb λu hu=>h u (aK _ hu)⟩
structure Sh (ws:List Str) (B:List Tn) (t:Tr):Prop where
  wy:Wy ws B t
  q:src B t=t
section
variable {ws:List Str}{B:List Tn}
theorem Sh.cases (K:Bk3 ws B) {t:Tr}(h:Sh ws B t):∃s ts,t= .nd s ts∧s∈ws∧zaZ B s=none∧ ∀x∈ts,Sh ws B x:=by
 rcases h.wy.cases K.b with⟨s,ts,rfl,hs,e,k⟩ |⟨u,ts,hu,rfl,e,hl,k⟩
 ·have q:=h.q;rw[show src B (.nd s ts)=_ from zej e]at q;injection q with _ q;refine⟨s,ts,rfl,hs,e,λx hx=>⟨k x hx,?_⟩⟩;obtain⟨i,hi,rfl⟩:=jc hx;have:=congrArg (λl=>l[i]?) q;simp only[bt,a8 hi]at this;exact aG this
 ·have q:=h.q;rw[show src B (.nd u.1 ts)=_ from zdv e]at q;obtain⟨s0,l0,e0,_⟩:=K.O.inn u hu;have hb:=(K.b.lf u hu).hb;rw[e0,Tr.hb]at hb;rw[e0,Tr.fill]at q;injection q with q _;exact absurd q (zeu hb.1 (K.b.ti u hu))
theorem Sh.parts (K:Bk3 ws B) {t:Tr}(h:Sh ws B t) {u:Tn}(hu:u∈B) {ms:List Tr}(e:u.2.1.mt t=ae ms):t=u.2.1.fill ms∧ms.length=u.2.1.nb∧ ∀x∈ms,Sh ws B x:=by
 obtain⟨h1,h2⟩:=K.O.fm u hu _ _ e;refine⟨h1,h2,λx hx=>⟨ztu _ _ _ e h.wy x hx,?_⟩⟩;have q:=h.q;rw[h1,show src B (u.2.1.fill ms)=_ from zmp K.b hu h2 _]at q;have m1:=K.O.mt u hu ms h2;have m2:=K.O.mt u hu (ms.map (src B)) (by rw[aq,h2]);rw[show u.2.1.fill (ms.map (src B))=_ from q,m1]at m2;have q:=aG m2;obtain⟨i,hi,rfl⟩:=jc hx;have:=congrArg (λl=>l[i]?) q;simp only[bt,a8 hi]at this;exact(aG this).symm
def zvw (B:List Tn) (wn:List (List Int)) (p:List Int) (t:Tr):Prop:=∀q∈wn,∀e v,q=p++e→t.at e=ae v→(zey B v).isSome=true
theorem zvL{s:Str}{ts:List Tr}{i:Nat}{u:Tr}(h:ts[i]? =ae u) (e:List Int):(Tr.nd s ts).at ((i:Int)::e)=u.at e:=by
 rw[Tr.at,if_neg (by omega),bW,h]
theorem zpV{wn:List (List Int)}{n:Nat}{p:List Int}{c:Nat}(ih:∀(t:Tr) (p:List Int),t.depth≤n→Sh ws B t→zvw B wn p t→ ∃u,Wi B wn n p t u∧src B u=t∧Wy ws B u∧u.ne B≤cnt wn p) :
  ∀{qs:List (List Int)}{ts:List Tr},aN (λq t=>t.depth≤n∧Sh ws B t∧zvw B wn (p++q) t∧cnt wn (p++q)≤c) qs ts→ ∃us,Wis B wn n p qs ts us∧us.map (src B)=ts∧(∀u∈us,Wy ws B u)∧nes B us≤c
 |_,_, .nil=>⟨[], .nil,rfl,by simp,by rw[nes];omega⟩
 |_,_, .cons ⟨h1,h2,h3,h4⟩ h=>by
  obtain⟨u,w,e,y,k⟩:=ih _ _ h1 h2 h3;obtain⟨us,ws',es,ys,ks⟩:=zpV ih h;refine⟨u::us, .cons w ws',by rw[aA,e,es],λv hv=>?_,by rw[nes];omega⟩
  rcases az.mp hv with rfl |hv
  ·exact y
  ·exact ys v hv
theorem zuB (K:Bk3 ws B) {wn:List (List Int)}:∀(n:Nat) (t:Tr) (p:List Int),t.depth≤n→Sh ws B t→zvw B wn p t→ ∃u,Wi B wn n p t u∧src B u=t∧Wy ws B u∧u.ne B≤cnt wn p
 |0,t,p,hd,h,_=>by
  obtain⟨s,ts,rfl,_⟩:=h.cases K;rw[Tr.depth]at hd;omega
 |n+1,t,p,hd,h,hw=>by
  obtain⟨s,ts,rfl,hs,e,k⟩:=h.cases K;rw[Tr.depth]at hd;by_cases hp:p∈wn
  ·have ho:=hw p hp [] (.nd s ts) (by simp) (by rw[Tr.at]);obtain⟨u,ho⟩:=dG.mp ho;have hu:u∈B:=cA ho;have hm:(u.2.1.mt (.nd s ts)).isSome=true:=by simpa using jp ho
   obtain⟨ms,hm⟩:=dG.mp hm;obtain⟨f1,f2,f3⟩:=h.parts K hu hm;have ba:=zvJ hm;have hdm:∀y∈ms,y.depth≤n:=λy hy=>by
    obtain⟨s0,l0,e0,_⟩:=K.O.inn u hu;rw[e0,Tr.mt]at hm;split at hm
    ·have:=zmJ _ _ _ hm y hy;omega
    ·cases hm
   have hne:∀q∈u.2.1.bls.map (λx=>x.1),∃i e,q=i::e:=λq hq=>by
    obtain⟨z,hz,rfl⟩:=aI.mp hq;obtain⟨h1,h2,_⟩:=zpq hz;cases hq:z.1 with
    |nil=>
     rw[hq,Tr.at]at h1;have h3:u.2.1=z.2:=aG h1;obtain⟨s0,l0,e0,_⟩:=K.O.inn u hu;rw[←h3,e0]at h2;cases h2
    |cons i is=>exact⟨i,is,rfl⟩
   have pr:∀{qs:List (List Int)}{xs:List Tr},(∀q∈qs,∃i e,q=i::e)→(∀x∈xs,x.depth≤n∧Sh ws B x)→aN (λq m=>(Tr.nd s ts).at q=ae m) qs xs→aN (λq t=>t.depth≤n∧Sh ws B t∧zvw B wn (p++q) t∧cnt wn (p++q)≤cnt wn p - 1) qs xs:=by
    intro qs xs h1 h2 h3
    induction h3 with
    |nil=>exact .nil
    | @cons q m qs xs h4 _ ih=>
     obtain⟨i,e,rfl⟩:=h1 q (by simp);obtain⟨g1,g2⟩:=h2 m (by simp);refine .cons ⟨g1,g2,λq' hq' e' v' h5 h6=>hw q' hq' (i::e++e') v' (by rw[h5];simp) (by rw[zsB _ e' h4];exact h6),?_⟩ (ih (λq hq=>h1 q (aK _ hq)) λx hx=>h2 x (aK _ hx));have:=zsP wn p i e hp;omega
   obtain⟨us,wi,es,ys,ks⟩:=zpV (zuB K n) (pr hne (λx hx=>⟨hdm x hx,f3 x hx⟩) ba);have et:=zcr K.b.nd hu;have lu:us.length=u.2.1.nb:=by rw[←f2,←es,aq]
   refine⟨.nd u.1 us, .yes hp ho hm et wi,?_,⟨?_,?_⟩,?_⟩
   ·rw[show src B (.nd u.1 us)=_ from zdv et,es,f1]
   ·rw[Tr.hd,hds_iff];exact⟨.inr ⟨u,hu,rfl⟩,λx hx=>(ys x hx).hd⟩
   ·rw[Tr.ar];refine⟨λt ht=>?_,zlb λx hx=>(ys x hx).ar⟩;rw[et]at ht;cases ht;exact lu
   ·rw[Tr.ne,et];have h1:1≤cnt wn p:=by
     unfold cnt;exact List.countP_pos_iff.mpr ⟨p,hp,dL.mpr ⟨[],by simp⟩⟩
    show 1+_≤_;omega
  ·have pr:∀(i:Nat) (xs:List Tr),(∀(j:Nat) x,xs[j]? =ae x→ts[i+j]? =ae x)→aN (λq t=>t.depth≤n∧Sh ws B t∧zvw B wn (p++q) t∧cnt wn (p++q)≤cnt wn p) ((List.range' i xs.length).map λ(i:Nat)=>[(i:Int)]) xs:=by
    intro i xs
    induction xs generalizing i with
    |nil=>intro _;exact .nil
    |cons x xs ih=>
     intro hx;have hi:=hx 0 x rfl;rw[eU]at hi;have hm:x∈ts:=aV hi;have hdx:=zbA hm;rw[aR,List.range'_succ,aA];refine .cons ⟨by omega,k x hm,λq' hq' e' v' h5 h6=>hw q' hq' ((i:Int)::e') v' (by rw[h5];simp) (by rw[zvL hi];exact h6),zok wn p _⟩ (ih (i+1) λj y hy=>?_);have:=hx (j+1) y (by rw[dQ];exact hy);rw[show i+1+j=i+(j+1) by omega]
     exact this
   have pr0:=pr 0 ts λj x h=>by rw[b8];exact h
   rw[←List.range_eq_range']at pr0;obtain⟨us,wi,es,ys,ks⟩:=zpV (zuB K n) pr0;refine⟨.nd s us, .no hp e wi,?_,⟨?_,?_⟩,?_⟩
   ·rw[show src B (.nd s us)=_ from zej e,es]
   ·rw[Tr.hd,hds_iff];exact⟨.inl hs,λx hx=>(ys x hx).hd⟩
   ·rw[Tr.ar];exact⟨λt ht=>(by rw[e]at ht;cases ht),zlb λx hx=>(ys x hx).ar⟩
   ·rw[Tr.ne,e];show 0+_≤_;omega
end
mutual
theorem zgp:∀t:Tr,t.depth≤t.weight
 | .bl _=>by rw[Tr.depth,Tr.weight];exact au _
 | .nd _ ts=>by rw[Tr.depth,Tr.weight];have:=zfg ts;omega
theorem zfg:∀ts:List Tr,dts ts≤wts ts
 | []=>by rw[dts,wts];exact au _
 |t::ts=>by rw[dts,wts];have:=zgp t;have:=zfg ts;omega
end
theorem zoI{B:List Tn}:∀(ps:List Pl),(∀p∈ps,(p.ev B zr).weight≤p.wt+2*p.nt)→wts (ps.map (Pl.ev B zr))≤pwts ps+2*pnts ps
 | [],_=>by simp [wts]
 |p::ps,h=>by
  have h1:=h p a0;have h2:=zoI ps λq hq=>h q (aK _ hq);rw[aA,wts,pwts,pnts];omega
theorem zqg{ws hs:List Str}{B:List Tn}(b:BkOk ws hs B) {p:Pl}(h:PlOk hs B p):(p.ev B zr).weight≤p.wt+2*p.nt:=by
 induction h with
 | @sign b' h ps hh hp ih=>
  have:=zoI ps ih;rw[zaX,Tr.weight,Pl.wt,Pl.nt,if_pos (by decide)];omega
 | @turn k b' h ps t e hl b0 b1 hp ih=>
  have ht:t∈B:=aV e;have:=zoI ps ih;have:=(b.lf t ht).fw (ps.map (Pl.ev B zr)) (by rw[aq,hl]);rw[zaL e,Pl.wt,Pl.nt,if_neg (by omega)];show(t.2.1.fill _).weight≤_;omega
theorem PlOk.sub{ws hs:List Str}{B:List Tn}(h:∀x∈hs,x∈ws) {p:Pl}(hp:PlOk hs B p):PlOk ws B p:=by
 induction hp with
 |sign h1 _ ih=>exact .sign (h _ h1) ih
 |turn e hl b0 b1 _ ih=>exact .turn e hl b0 b1 ih
section
variable {w0 w1 w2 w3 w4 w5:Str}{tt:List Str}{B:List Tn}{S:Sto}{aw at' ab:Addr}
theorem Pre.bk2 (P:Pre S aw at' ab w0 w1 w2 w3 w4 w5 tt B):Bk2 [w0,w1,w2,w3,w4,w5] B:=P.b.bk2 P.T P.G P.sl
theorem Pre.lft (P:Pre S aw at' ab w0 w1 w2 w3 w4 w5 tt B):Lft B:=⟨λt ht=>(P.bk.lf t ht).dp,λt ht=>by
 have h1:=(P.bk.lf t ht).wt;have h2:=(P.bk.lf t ht).nb;omega⟩
end
section
variable {ws:List Str}{B:List Tn}{a l q:Addr}{r:Nat}{E:WX}{D:WEnds}
theorem zpl{S:Sto}{G:Sto→Prop}(hG:G S) (ha:S a=ae (.lst (B.map zba))) (hr:60≤r):∀(xs:List Tr) (y1 y2:Option W),(∀x∈xs,∃y,Two ws B x y)→(∀z,D.nx [ae (.ref a),y1,z] S)→forL (wGN 2) (zdd (r+1) zaR) E D G (xs.map enc) [ae (.ref a),y1,y2] S
 | [],y1,y2,_,h=>h y2
 |x::xs,y1,y2,hx,h=>by
  rw[aA];refine zbj λN hN=>?_;rw[zlL,zdd];walk_at "wp";obtain⟨y,h2⟩:=hx x (by simp);exact h2.ok_goal ha (by omega) (hN _ _ _ .refl hG (zpl hG ha hr xs y1 _ (λz hz=>hx z (aK _ hz)) h))
theorem zdK{S:Sto}{xs:List Tr}{Q:WK}{X:Str→Sto→Prop}(ha:S a=ae (.lst (B.map zba))) (hl:S l=ae (.lst (xs.map enc))) (hx:∀x∈xs,∃y,Two ws B x y) (hr:60≤r) (h:Q .non S):zbo (r+2) [.ref a, .ref l] S Q X:=by
 rw[show r+2=r+1+1 from rfl,zbo];walk_at "wp";rw[zaj hl];exact zpl hl ha hr xs _ _ hx λz=>⟨_, .refl,h⟩
theorem zlx{α:Type}(xs:List α) (x:α):atI (xs++[x]) (-1)=ae x:=by
 unfold atI ixN;rw[if_neg (by decide),aS,bK];rw[if_pos (by omega)];show(xs++[x])[_]? =ae x;rw[show((-1+((xs.length+1:Nat):Int)).toNat)=xs.length by omega,List.getElem?_concat_length]
theorem zyZ{S:Sto}{T:WS}{x y:Tr}{xs:List W}{y1 y2 y5:Option W}(ha:S a=ae (.lst (B.map zba))) (hq:S q=ae (.lst (xs++[enc x]))) (h2:Two ws B x y) (hr:61≤r) (h:T E D [ae (.ref a),y1,y2,ae (.ref q),ae (enc y),ae (enc (res B x y))] S) :
  zbu r T E D [ae (.ref a),y1,y2,ae (.ref q),ae (enc y),y5] S:=by
 rw[zbu];walk_at "wp";rw[zaj hq,zlx];obtain⟨r,rfl⟩:∃r',r=r'+1:=⟨r - 1,by omega⟩
 exact h2.ok_move ha (by omega) h
theorem zzE{S:Sto}{T:WS}{x:Tr}{y1 y2 y3 y4:Option W}(ha:S a=ae (.lst (B.map zba))) (h2:∃y,Two ws B x y) (hr:62≤r) (h:∀S',Sub S S'→T E D [ae (.ref a),y1,y2,y3,y4,ae (enc x)] S') :
  zbv r T E D [ae (.ref a),y1,y2,y3,y4,ae (enc x)] S:=by
 rw[zbv];walk_at "wp";refine⟨by decide,λt ht=>?_⟩;obtain⟨r,rfl⟩:∃r',r=r'+2:=⟨r - 2,by omega⟩
 exact zdK (xs:=[x]) (keep ha ht) zag (λz hz=>by rw[bh.mp hz];exact h2) (by omega) (h _ (.put .refl ht))
theorem zzF{S:Sto}{x:Tr}{xs:List W}{y1 y2 y3 y4:Option W}(hq:S q=ae (.lst xs)) (hl:xs.length≤1000) (h:D.nx [y1,y2,y3,ae (.ref q),y4,ae (enc x)] (put S q (.lst (xs++[enc x])))) :
  zbx r E D [y1,y2,y3,ae (.ref q),y4,ae (enc x)] S:=by
 rw[zbx];walk_at "wp";rw[zaj hq,zaj hq];exact⟨trivial,zbM (by omega),h⟩
theorem zqi{S0:Sto}{G:Sto→Prop}(ha:S0 a=ae (.lst (B.map zba))) (h0:S0 q=none) (hG:∀S,Sub S0 S→G S) (hr:62≤r):∀(os:List Tr) {x:Tr},RowC ws B x os→ ∀(xs:List W) {S:Sto}{y1 y2 y4 y5:Option W},xs.length+os.length≤900→Sub S0 S→S q=ae (.lst (xs++[enc x]))→
  (∀S' y4 y5,Sub S0 S'→S' q=ae (.lst (xs++(zdJ B x os).map enc))→D.nx [ae (.ref a),y1,y2,ae (.ref q),y4,y5] S')→
  forL (wGN 4) (zcs r zaR) E D G (os.map enc) [ae (.ref a),y1,y2,ae (.ref q),y4,y5] S
 | [],x,_=>λxs S y1 y2 y4 y5 hl sb hq h=>h S _ _ sb hq
 |o::os,x, .cons h2 h3 hc=>by
  intro xs S y1 y2 y4 y5 hl sb hq h;rw[aA];rw[aR]at hl;refine zbj λN hN=>?_;rw[zlL,zcs];refine zyZ (sb _ _ ha) hq h2 (by omega) ?_;refine zzE (sb _ _ ha) h3 hr λS1 s1=>?_;refine zzF (s1 _ _ hq) (by rw[aS,bK];omega) ?_;have sb2:Sub S0 (put S1 q (.lst (xs++[enc x]++[enc (res B x o)]))):= .put (sb.trans s1) h0;refine hN _ _ _ .refl (hG _ sb2) (zqi ha h0 hG hr os hc (xs++[enc x]) (by rw[aS,bK];omega) sb2 zag λS' z4 z5 s' hq'=>?_);refine h S' z4 z5 s' ?_;rw[hq',zdJ,aA];simp
theorem ziM{S:Sto}{x:Tr}{os:List Tr}{Q:WK}{X:Str→Sto→Prop}(ha:S a=ae (.lst (B.map zba))) (hl:S l=ae (.lst (os.map enc))) (hc:RowC ws B x os) (hn:os.length≤800) (hr:62≤r)
  (h:∀S' q,Sub S S'→S q=none→S' q=ae (.lst ((zdJ B x os).map enc))→Q (.ref q) S'):zco (r+1) [.ref a,enc x, .ref l] S Q X:=by
 rw[zco,zgP];refine⟨rfl,?_⟩;rw[zcp];walk_at "wp";refine⟨by decide,λq hq=>?_⟩;rw[zck];walk_at "wp";rw[zaj (keep hl hq)];refine zqi ha hq (λS' sb=>sb _ _ hl) hr os (x:=x) hc [] (by simp;omega) (.put .refl hq) zag λS' y4 y5 sb hq'=>?_;rw[zcm];walk_at "wp";exact⟨_, .refl,h S' q sb hq (by rw[hq',a9])⟩
end
theorem zef{S:Sto}{t:Tr}(h:t.depth≤57):eqF S 60 (enc t) (enc t)=ae true:=by
 rw[zrl 60 _ _ (by omega),zkk]
structure At (S0 S:Sto) (d o b:Addr) (xs:List Tr):Prop where
  d:b≠d
  o:b≠o
  e:S b=ae (.lst (xs.map enc))
  z:S0 b=none
theorem zfe{S0 S:Sto}{q:Addr}(s:Sub S0 S) (h:S q=none):S0 q=none:=by
 cases e:S0 q with
 |none=>rfl
 |some v=>rw[s _ _ e]at h;cases h
theorem At.sub{S0 S S':Sto}{d o b:Addr}{xs:List Tr}(h:At S0 S d o b xs) (s:Sub S S'):At S0 S' d o b xs:=⟨h.d,h.o,s _ _ h.e,h.z⟩
theorem At.pd{S0 S:Sto}{d o b:Addr}{xs:List Tr}{v:Ob}(h:At S0 S d o b xs):At S0 (put S d v) d o b xs:=⟨h.d,h.o,by rw[zaA h.d];exact h.e,h.z⟩
theorem At.po{S0 S:Sto}{d o b:Addr}{xs:List Tr}{v:Ob}(h:At S0 S d o b xs):At S0 (put S o v) d o b xs:=⟨h.d,h.o,by rw[zaA h.o];exact h.e,h.z⟩
noncomputable abbrev Ats (S0 S:Sto) (d o:Addr) (bs:List Addr) (xss:List (List Tr)):Prop:=aN (At S0 S d o) bs xss
theorem zeT{α β:Type}{R:α→β→Prop}{xs:List α}{ys:List β}{x:α}{y:β}(h:aN R xs ys) (g:R x y):aN R (xs++[x]) (ys++[y]):=zfT h (.cons g .nil)
theorem zsb{t:Tr}{r:Nat}{S:Sto}{Q:WK}{X:Str→Sto→Prop}(hw:t.weight≤400) (hd:t.depth≤40) (h:Q (enc t) S):zbg (r+5) [enc t] S Q X:=by
 rw[show r+5=r+4+1 from rfl,zbg];walk_at "wp";refine zfW (r:=r+3) (by omega) ?_;rw[ziN hw hd]
 try walk_at "wp"
 exact⟨_, .refl,h⟩
theorem zke{α β:Type}(f:α→W) (g:β→W):∀(xs:List α) (ys:List β),pairs (xs.map f) (ys.map g)=(xs.zip ys).map λp=> .tup [f p.1,g p.2]
 | [],ys=>by simp [pairs]
 |x::xs,[]=>by simp [pairs]
 |x::xs,y::ys=>by rw[aA,aA,pairs,zke f g xs ys];rfl
theorem zop{B:List Tn}:∀(os:List Tr) (x:Tr),(os.zip (zdJ B x os)).map (λp=>res B p.1 p.2)=zgB B x os
 | [],x=>rfl
 |o::os,x=>by rw[zdJ,gy,aA,zop os,zgB]
theorem znd{ws:List Str}{B:List Tn}:∀(os:List Tr) {x:Tr},RowC ws B x os→ ∀p∈os.zip (zdJ B x os),Two ws B p.1 p.2
 | [],x,_,p,hp=>by cases hp
 |o::os,x, .cons h2 _ hc,p,hp=>by
  rw[zdJ,gy]at hp;rcases az.mp hp with rfl |hp
  ·exact h2.symm
  ·exact znd os hc p hp
section
variable {ws:List Str}{B:List Tn}{a l1 l2 d o ρ:Addr}{r:Nat}{E:WX}{D:WEnds}{T:WS}{t:Tr}{xs os:List Tr}{S:Sto}{y0 y1 y2 y3 y4 y5 y6 y7:Option W}
theorem zAw (hd:t.depth≤57) (h:T E D [y0,ae (.tup [enc t, .ref l1]),ae (.tup [enc t, .ref l2]),y3,y4,y5,y6,y7] S) :
  zfx r T E D [y0,ae (.tup [enc t, .ref l1]),ae (.tup [enc t, .ref l2]),y3,y4,y5,y6,y7] S:=by
 rw[zfx];walk_at "wp";rw[zef hd];exact h
theorem zAq (hw:t.weight≤400) (hd:t.depth≤40) (hr:60≤r) (h:T E D [y0,ae (.tup [enc t, .ref l1]),y2,y3,y4,y5,y6,y7] S) :
  zfu r T E D [y0,ae (.tup [enc t, .ref l1]),y2,y3,y4,y5,y6,y7] S:=by
 rw[zfu];walk_at "wp";obtain⟨r,rfl⟩:∃r',r=r'+5:=⟨r - 5,by omega⟩
 exact zsb hw hd h
theorem zAj (ha:S a=ae (.lst (B.map zba))) (hl:S l1=ae (.lst (xs.map enc))) (hx:∀x∈xs,∃y,Two ws B x y) (hr:62≤r) (h:T E D [ae (.ref a),ae (.tup [enc t, .ref l1]),y2,y3,y4,y5,y6,y7] S) :
  zfA r T E D [ae (.ref a),ae (.tup [enc t, .ref l1]),y2,y3,y4,y5,y6,y7] S:=by
 rw[zfA];walk_at "wp";obtain⟨r,rfl⟩:∃r',r=r'+2:=⟨r - 2,by omega⟩
 exact zdK ha hl hx (by omega) h
theorem zAP (ha:S a=ae (.lst (B.map zba))) (hl:S l2=ae (.lst (os.map enc))) (hx:∀x∈os,∃y,Two ws B x y) (hr:62≤r) (h:T E D [ae (.ref a),y1,ae (.tup [enc t, .ref l2]),y3,y4,y5,y6,y7] S) :
  zfy r T E D [ae (.ref a),y1,ae (.tup [enc t, .ref l2]),y3,y4,y5,y6,y7] S:=by
 rw[zfy];walk_at "wp";obtain⟨r,rfl⟩:∃r',r=r'+2:=⟨r - 2,by omega⟩
 exact zdK ha hl hx (by omega) h
theorem zAg (h:∀d,S d=none→T E D [y0,y1,y2,ae (.ref d),y4,y5,y6,y7] (put S d (.lst []))):zfF r T E D [y0,y1,y2,y3,y4,y5,y6,y7] S:=by
 rw[zfF];walk_at "wp";exact⟨aY _,h⟩
theorem zAx{vs:List W}(hl:S l2=ae (.lst vs)) (h:∀ρ,S ρ=none→T E D [y0,y1,ae (.tup [enc t, .ref l2]),y3,ae (.ref ρ),y5,y6,y7] (put S ρ (.lst vs))):zfp r T E D [y0,y1,ae (.tup [enc t, .ref l2]),y3,y4,y5,y6,y7] S:=by
 rw[zfp];walk_at "wp";show zcu S l2 λws=>∀ρ,S ρ=none→T E D [y0,y1,ae (.tup [enc t, .ref l2]),y3,ae (.ref ρ),y5,y6,y7] (put S ρ (.lst ws));rw[zaj hl];exact h
theorem zAl (h:∀o,S o=none→T E D [y0,y1,y2,y3,ae (.ref ρ),ae (.ref o),y6,y7] (put S o (.lst [.ref ρ]))):zfE r T E D [y0,y1,y2,y3,ae (.ref ρ),y5,y6,y7] S:=by
 rw[zfE];walk_at "wp";exact⟨by decide,h⟩
theorem zyr{x:Tr}(ha:S a=ae (.lst (B.map zba))) (hl:S ρ=ae (.lst (os.map enc))) (hc:RowC ws B x os) (hn:os.length≤800) (hr:63≤r)
  (h:∀S' q,Sub S S'→S q=none→S' q=ae (.lst ((zdJ B x os).map enc))→T E D [ae (.ref a),y1,y2,y3,ae (.ref ρ),y5,ae (enc x),ae (.ref q)] S') :
  zdY r T E D [ae (.ref a),y1,y2,y3,ae (.ref ρ),y5,ae (enc x),y7] S:=by
 rw[zdY];walk_at "wp";obtain⟨r,rfl⟩:∃r',r=r'+1:=⟨r - 1,by omega⟩
 exact ziM ha hl hc hn (by omega) h
theorem zyM{x:Tr}{q:Addr}(ha:S a=ae (.lst (B.map zba))) (hl:S ρ=ae (.lst (os.map enc))) (hq:S q=ae (.lst ((zdJ B x os).map enc))) (hc:RowC ws B x os) (hn:os.length≤800) (hr:63≤r)
  (h:∀ρ',S ρ'=none→T E D [ae (.ref a),y1,y2,y3,ae (.ref ρ'),y5,y6,ae (.ref q)] (put S ρ' (.lst ((zgB B x os).map enc)))) :
  zeh r T E D [ae (.ref a),y1,y2,y3,ae (.ref ρ),y5,y6,ae (.ref q)] S:=by
 rw[zeh];walk_at "wp";rw[zaj hl,zaj hq,zke];refine zaO (λσ=>∃u v,σ=[u,v,ae (.ref a)]) (λp:Tr×Tr=> .tup [enc p.1,enc p.2]) (λp=>enc (res B p.1 p.2)) ⟨hl,hq⟩ (os.zip (zdJ B x os)) [] _ ⟨none,none,rfl⟩ (by rw[List.length_zip,zna];simp;omega) (λp hp σ R hI hR=>?_) ?_
 ·obtain⟨u,v,rfl⟩:=hI;have h2:=znd os hc p hp;rw[zvB];show zat (wGN 0) (zat (wGN 1) zbT) [enc p.1,enc p.2] _ S _;rw[ziO];show wGN 0 _ _ _ _;rw[zlL,ziO];show wGN 1 _ _ _ _;rw[zlL,zqr,znp];show zap _ _ _ [ae (enc p.1),ae (enc p.2),ae (.ref a)] _ _;walk_at "wp";obtain⟨r,rfl⟩:∃r',r=r'+1:=⟨r - 1,by omega⟩
  exact h2.ok_move ha (by omega) (hR _ _ ⟨_,_,rfl⟩ .refl)
 ·intro ρ' hρ;have:=h ρ' hρ;rw[←zop,bj]at this;exact this
theorem zyB{q:Addr}{vs:List W}(hd:S d=ae (.lst vs)) (hn:vs.length≤1000) (h:T E D [y0,y1,y2,ae (.ref d),y4,y5,y6,ae (.ref q)] (put S d (.lst (vs++[.ref q])))) :
  zeg r T E D [y0,y1,y2,ae (.ref d),y4,y5,y6,ae (.ref q)] S:=by
 rw[zeg];walk_at "wp";rw[zaj hd,zaj hd];exact⟨trivial,zbM (by omega),h⟩
theorem zzK{vs:List W}(hd:S o=ae (.lst vs)) (hn:vs.length≤1000) (h:D.nx [y0,y1,y2,y3,ae (.ref ρ),ae (.ref o),y6,y7] (put S o (.lst (vs++[.ref ρ])))) :
  zeb r E D [y0,y1,y2,y3,ae (.ref ρ),ae (.ref o),y6,y7] S:=by
 rw[zeb];walk_at "wp";rw[zaj hd,zaj hd];exact⟨trivial,zbM (by omega),h⟩
theorem zpw{S0:Sto}{G:Sto→Prop}(ha:S0 a=ae (.lst (B.map zba))) (hd0:S0 d=none) (ho0:S0 o=none) (hdo:d≠o) (hG:∀S,Sub S0 S→G S) (hr:64≤r):∀(xs:List Tr) {os:List Tr},Cells ws B xs os→ ∀{S:Sto}{ρ:Addr}{ds rs:List Addr}{Ds Rs:List (List Tr)}{y1 y2 y6 y7:Option W},os.length≤800→ds.length+xs.length≤800→rs.length+xs.length≤800→Sub S0 S→S d=ae (.lst (ds.map W.ref))→S o=ae (.lst (rs.map W.ref++[.ref ρ]))→Ats S0 S d o ds Ds→Ats S0 S d o rs Rs→At S0 S d o ρ os→
  (∀S' ds' rs' y4 y6 y7,Sub S0 S'→S' d=ae (.lst (ds'.map W.ref))→S' o=ae (.lst (rs'.map W.ref))→Ats S0 S' d o ds' (Ds++zkT B xs os)→Ats S0 S' d o rs' (Rs++zlF B xs os)→D.nx [ae (.ref a),y1,y2,ae (.ref d),y4,ae (.ref o),y6,y7] S')→
  forL (wGN 6) (zgD r zaR) E D G (xs.map enc) [ae (.ref a),y1,y2,ae (.ref d),ae (.ref ρ),ae (.ref o),y6,y7] S
 | [],os,hz=>by
  rename_i S ρ ds rs Ds Rs y1 y2 y6 y7;intro _ _ _ sb hd ho AD AR Aρ h;refine h S ds (rs++[ρ]) _ _ _ sb hd ?_ ?_ ?_
  ·rw[ho,bD];rfl
  ·rw[zkT,bI];exact AD
  ·rw[zlF];exact zeT AR Aρ
 |x::xs,os, .cons hc hcs=>by
  rename_i S ρ ds rs Ds Rs y1 y2 y6 y7;intro n1 n2 n3 sb hd ho AD AR Aρ h;rw[aR]at n2 n3;rw[aA];refine zbj λN hN=>?_;rw[zlL,zgD];refine zyr (sb _ _ ha) Aρ.e hc n1 (by omega) λS1 q s1 hq0 hq=>?_;refine zyM (s1 _ _ (sb _ _ ha)) (s1 _ _ Aρ.e) hq hc n1 (by omega) λρ' hρ=>?_;have s2:Sub S (put S1 ρ' (.lst ((zgB B x os).map enc))):=s1.trans (.put .refl hρ);have qd:q≠d:=by rintro rfl;rw[hd]at hq0;cases hq0
  have qo:q≠o:=by rintro rfl;rw[ho]at hq0;cases hq0
  have ρd:ρ'≠d:=by rintro rfl;rw[s1 _ _ hd]at hρ;cases hρ
  have ρo:ρ'≠o:=by rintro rfl;rw[s1 _ _ ho]at hρ;cases hρ
  have Aq:At S0 (put S1 ρ' (.lst ((zgB B x os).map enc))) d o q (zdJ B x os):=⟨qd,qo,keep hq hρ,zfe sb hq0⟩;have Aρ':At S0 (put S1 ρ' (.lst ((zgB B x os).map enc))) d o ρ' (zgB B x os):=⟨ρd,ρo,zag,zfe (sb.trans s1) hρ⟩;have AD':=zcb (λ_ _ z=>At.sub z s2) AD;have AR':=zcb (λ_ _ z=>At.sub z s2) AR;have A0:=Aρ.sub s2;have hd2:=s2 _ _ hd;have ho2:=s2 _ _ ho;have sb2:=sb.trans s2;generalize put S1 ρ' (.lst ((zgB B x os).map enc))=S2 at Aq Aρ' AD' AR' A0 hd2 ho2 sb2⊢;have ld:(ds.map W.ref).length≤1000:=by rw[aq];omega
  have lo:(rs.map W.ref++[W.ref ρ]).length≤1000:=by rw[aS,aq,bK];omega
  refine zyB hd2 ld ?_;refine zzK (vs:=rs.map W.ref++[.ref ρ]) (by rw[zaA hdo.symm];exact ho2) lo ?_;have sb3:Sub S0 (put (put S2 d (.lst (ds.map W.ref++[.ref q]))) o (.lst (rs.map W.ref++[.ref ρ]++[.ref ρ']))):= .put (.put sb2 hd0) ho0;refine hN _ _ _ .refl (hG _ sb3) (zpw ha hd0 ho0 hdo hG hr xs (ds:=ds++[q]) (rs:=rs++[ρ]) (Ds:=Ds++[zdJ B x os]) (Rs:=Rs++[os]) hcs (by rw[zlP];exact n1) (by rw[aS,bK];omega) (by rw[aS,bK];omega) sb3 ?_ ?_ ?_ ?_ Aρ'.pd.po λS' ds' rs' z4 z6 z7 s' h1 h2 h3 h4=>?_)
  ·rw[zaA hdo,zag,bD];rfl
  ·rw[zag,bD];rfl
  ·exact zeT (zcb (λ_ _ z=>At.po (At.pd z)) AD') Aq.pd.po
  ·exact zeT (zcb (λ_ _ z=>At.po (At.pd z)) AR') A0.pd.po
  ·refine h S' ds' rs' z4 z6 z7 s' h1 h2 ?_ ?_
   ·rw[zkT];rw[cf]at h3;exact h3
   ·rw[zlF];rw[cf]at h4;exact h4
theorem Roa.two (K:Bk2 ws B):∀(xs:List Tr) {t:Tr},Roa ws B t xs→Bd t (nR B xs)→ ∀x∈xs,∃y,Two ws B x y
 | [],t,_,_,x,hx=>by cases hx
 |z::xs,t,⟨hz,ez,hr⟩,hb,x,hx=>by
  rw[nR]at hb;rcases az.mp hx with rfl |hx
  ·exact⟨_,K.ow hz ez (hb.mono (by omega))⟩
  ·exact Roa.two K xs hr (K.goal hz ez hb) x hx
structure Grd (S0 S:Sto) (B:List Tn) (xs os:List Tr) (d o:Addr):Prop where
  sub:Sub S0 S
  d0:S0 d=none
  o0:S0 o=none
  ne:d≠o
  ex:∃ds rs,S d=ae (.lst (ds.map W.ref))∧S o=ae (.lst (rs.map W.ref))∧Ats S0 S d o ds (zkT B xs os)∧Ats S0 S d o rs (zlF B xs os)
theorem ztG{Q:WK}{X:Str→Sto→Prop}(ha:S a=ae (.lst (B.map zba))) (h1:S l1=ae (.lst (xs.map enc))) (h2:S l2=ae (.lst (os.map enc))) (hc:Cells ws B xs os) (tx:∀x∈xs,∃y,Two ws B x y) (to:∀x∈os,∃y,Two ws B x y) (hw:t.weight≤400) (hd:t.depth≤40) (nx:xs.length≤700) (no:os.length≤700) (hr:64≤r)
  (h:∀S' d o,Grd S S' B xs os d o→Q (.tup [.ref d, .ref o]) S'):zjX (r+1) [.ref a, .tup [enc t, .ref l1], .tup [enc t, .ref l2]] S Q X:=by
 rw[zjX,zgP];refine⟨rfl,?_⟩;refine zAw (by omega) (zAq hw (by omega) (by omega) (zAj ha h1 tx (by omega) (zAP ha h2 to (by omega) (zAg λd hd=>zAx (keep h2 hd) λρ hρ=>zAl λo h0=>?_))));have ρd:ρ≠d:=by rintro rfl;rw[zag]at hρ;cases hρ
 have od:o≠d:=by rintro rfl;rw[zaA ρd.symm,zag]at h0;cases h0
 have oρ:o≠ρ:=by rintro rfl;rw[zag]at h0;cases h0
 have oS:S o=none:=by rw[zaA oρ,zaA od]at h0;exact h0
 have sb:Sub S (put (put (put S d (.lst [])) ρ (.lst (os.map enc))) o (.lst [.ref ρ])):=(Sub.put .refl hd).trans ((Sub.put .refl hρ).trans (.put .refl h0));rw[zgw];walk_at "wp";show zcu _ l1 _;rw[zaj (sb _ _ h1)];refine zpw ha hd oS od.symm (λS' s'=>s' _ _ h1) hr xs (ds:=[]) (rs:=[]) (Ds:=[]) (Rs:=[]) hc (by omega) (by simp;omega) (by simp;omega) sb ?_ zag .nil .nil ⟨ρd,oρ.symm,?_,by rw[zaA ρd]at hρ;exact hρ⟩ λS' ds rs y4 y6 y7 s' g1 g2 g3 g4=>?_
 ·rw[zaA od.symm,zaA ρd.symm,zag];rfl
 ·rw[zaA oρ.symm,zag]
 ·rw[zgE];walk_at "wp";exact⟨by decide,_, .refl,h S' d o ⟨s',hd,oS,od.symm,ds,rs,g1,g2,g3,g4⟩⟩
end
noncomputable def opl (B:List Tn) (t:Tr):List (List Int):=(t.op B []).map λx=>x.1
theorem Sh.hdT{ws:List Str}{B:List Tn}{t:Tr}(h:Sh ws B t):t.hd λ_=>True:=zpt (λ_ _=>trivial) _ h.wy.hd
theorem Sh.wn{ws:List Str}{B:List Tn}{t:Tr}(h:Sh ws B t) {wn:List (List Int)}(hw:∀q∈wn,q∈opl B t):zvw B wn [] t:=by
 intro q hq e v he hv;rw[a9]at he;subst he;obtain⟨x,hx,rfl⟩:=aI.mp (hw q hq);rw[←zqf B t [] (zeV _ h.hdT)]at hx;obtain⟨y,hy,hx⟩:=iV.mp hx;unfold zxw at hx;obtain⟨u,hu,rfl⟩:=aI.mp hx;have:=(zpa hy).1;rw[this]at hv;cases hv;cases e:zey B y.2 with
 |none=>rw[e]at hu;cases hu
 |some _=>rfl
section
variable {B:List Tn}{t:Tr}{xs:List Tr}
theorem zsK:∀(xs ys:List Tr),nR B (xs++ys)=nR B xs+nR B ys
 | [],ys=>by rw[a9,nR,b8]
 |x::xs,ys=>by rw[d9,nR,nR,zsK xs ys,kh]
theorem Bd.small{n:Nat}(h:Bd t n):t.weight≤400∧t.depth≤40:=by
 have h1:=h.w;have h2:=h.d;exact⟨aX (kc _ (zeJ _)) h1,by omega⟩
end
theorem zib{α β:Type}{R:α→β→Prop}:∀{xs:List α}{ys:List β},aN R xs ys→ ∃zs:List (α×β),zs.map (λz=>z.1)=xs∧zs.map (λz=>z.2)=ys∧ ∀z∈zs,R z.1 z.2
 |_,_, .nil=>⟨[],rfl,rfl,by simp⟩
 |_,_, .cons h1 h2=>by
  obtain⟨zs,e1,e2,h3⟩:=zib h2;exact⟨(_,_)::zs,by rw[aA,e1],by rw[aA,e2],λz hz=>by
   rcases az.mp hz with rfl |hz
   ·exact h1
   ·exact h3 z hz⟩
theorem zhw{α β γ:Type}{R:α→β→Prop}{R':β→γ→Prop}:∀{xs:List α}{ys:List β}{zs:List γ},aN R xs ys→aN R' ys zs→aN (λx z=>∃y,R x y∧R' y z) xs zs
 |_,_,_, .nil, .nil=> .nil
 |_,_,_, .cons h1 h2, .cons g1 g2=> .cons ⟨_,h1,g1⟩ (zhw h2 g2)
theorem zhs{α β:Type}{R:α→β→Prop}:∀{ys:List β}{xs:List α}{y:β},aN R xs (ys++[y])→ ∃pre x,xs=pre++[x]∧R x y
 | [],_,y, .cons h .nil=>⟨[],_,rfl,h⟩
 |_::ys,_,y, .cons (a:=a) h g=>by
  obtain⟨pre,x,e,h⟩:=zhs g;exact⟨a::pre,x,by rw[e];rfl,h⟩
section
variable {ws:List Str}{B:List Tn}
theorem zqs (os:List Tr) (x:Tr):∃l,zdJ B x os=l++[zhM B x os]:=by
 have:=zkt (B:=B) os x;rw[List.getLast?_eq_some_iff]at this;exact this
theorem zkx:∀(xs os:List Tr),aN (λline u=>∃l,line=l++[u]) (zkT B xs os) (zdm B xs os)
 | [],os=> .nil
 |x::xs,os=> .cons (zqs os x) (zkx xs _)
theorem zko:∀(xs os:List Tr),∃l,zlF B xs os=l++[zeR B xs os]
 | [],os=>⟨[],rfl⟩
 |x::xs,os=>by
  obtain⟨l,e⟩:=zko xs (zgB B x os);exact⟨os::l,by rw[zlF,e,zeR];rfl⟩
theorem zoz:∀(xs ys:List Tr) (t:Tr),zhq B t (xs++ys)=zhq B (zhq B t xs) ys
 | [],ys,t=>rfl
 |x::xs,ys,t=>zoz xs ys (gol B x)
theorem Roa.app:∀(xs:List Tr) {ys:List Tr}{t:Tr},Roa ws B t xs→Roa ws B (zhq B t xs) ys→Roa ws B t (xs++ys)
 | [],_,_,_,h=>h
 |x::xs,_,_,⟨h1,h2,h3⟩,h=>⟨h1,h2,Roa.app xs h3 h⟩
end
section
variable {ws:List Str}{B:List Tn}{a l d o:Addr}{r:Nat}{t:Tr}{xs os:List Tr}{S:Sto}{Q:WK}{X:Str→Sto→Prop}
theorem zjz{S0:Sto}{ds:List Addr}(hd:S d=ae (.lst (ds.map W.ref))) (hn:xs.length≤700) (AD:Ats S0 S d o ds (zkT B xs os)) (h:∀q,S q=none→Q (.ref q) (put S q (.lst ((zdm B xs os).map enc)))):zcO (r+1) [.tup [.ref d, .ref o]] S Q X:=by
 obtain⟨zs,e1,e2,h3⟩:=zib (zhw AD (zkx xs os));rw[zcO];walk_at "wp";rw[zaj hd];have e3:ds.map W.ref=zs.map λz=>W.ref z.1:=by rw[←e1,bj];rfl
 have hz:zs.length=xs.length:=by rw[←zff (B:=B) xs os,←e2,aq]
 rw[e3];refine zaO (λσ=>∃y,σ=[y]) (λz:Addr×Tr=>W.ref z.1) (λz=>enc z.2) (by rw[←e3];exact hd) zs [] _ ⟨none,rfl⟩ (by simp;omega) (λz hz σ R hI hR=>?_) ?_
 ·obtain⟨y,rfl⟩:=hI;obtain⟨line,A,l,rfl⟩:=h3 z hz;rw[zeF];walk_at "wp";have Ae:=A.e;rw[bD]at Ae;rw[zaj Ae,show [z.2].map enc=[enc z.2] from rfl,zlx];exact hR _ _ ⟨_,rfl⟩ .refl
 ·intro q hq;have:=h q hq;rw[←e2,bj]at this;exact⟨_, .refl,this⟩
theorem zpQ{E:WX}{D:WEnds}{G:Sto→Prop}(K:Bk2 ws B) (hG:G S) (ha:S a=ae (.lst (B.map zba))) (hr:60≤r):∀(zs:List Tr) {t:Tr}{y1 y3:Option W},Roa ws B t zs→Bd t (nR B zs)→(∀y3,D.nx [ae (.ref a),y1,ae (enc (zhq B t zs)),y3] S)→
  forL (wGN 3) (zcj (r+1) zaR) E D G (zs.map enc) [ae (.ref a),y1,ae (enc t),y3] S
 | [],t,y1,y3,_,_,h=>h y3
 |z::zs,t,y1,y3,⟨hz,ez,hr'⟩,hb,h=>by
  rw[nR]at hb;have h2:=K.ow hz ez (hb.mono (by omega));have hd:=hb.small.2;rw[aA];refine zbj λF hF=>?_;rw[zlL,zcj,zbV];walk_at "wp";refine h2.ok_made1 ha (by omega) ?_;rw[ez,zef (by omega)];show zbs _ _ _ _ _;rw[zbs];walk_at "wp";exact h2.ok_made2 ha (by omega) (hF _ _ _ .refl hG (zpQ K hG ha hr zs hr' (K.goal hz ez hb) h))
theorem zkG (K:Bk2 ws B) (ha:S a=ae (.lst (B.map zba))) (hl:S l=ae (.lst (xs.map enc))) (hx:Roa ws B t xs) (ht:t.depth≤50) (hb:Bd t (nR B xs)) (hr:64≤r) (h:Q (enc (zhq B t xs)) S):zbH (r+1) [.ref a, .tup [enc t, .ref l]] S Q X:=by
 rw[zbH,zgP];refine⟨rfl,?_⟩;rw[zch];walk_at "wp";rw[show atI [enc t,W.ref l] 1=ae (.ref l) from rfl];walk_at "wp";rw[if_neg (by decide),zaj hl,zcq];walk_at "wp";rw[zcl];walk_at "wp";show zcu S l _;rw[zaj hl];obtain⟨r,rfl⟩:∃r',r=r'+1:=⟨r - 1,by omega⟩
 refine zpQ K hl ha (by omega) xs hx hb λy3=>?_;rw[zce];walk_at "wp";exact⟨_, .refl,h⟩
end
structure Rds (S:Sto) (ws:List Str) (B:List Tn) (ab:Addr) (t:Tr) (l1 l2:Addr) (xs os:List Tr):Prop where
  K:Bk2 ws B
  fb:S ab=ae (.lst (B.map zba))
  sh:Sh ws B t
  bd:Bd t 4
  f1:S l1=ae (.lst (xs.map enc))
  f2:S l2=ae (.lst (os.map enc))
  r1:Roa ws B t xs
  r2:Roa ws B t os
  n:nR B xs+nR B os≤4
  x3:xs.length≤3
  o3:os.length≤3
  hB:B.length≤1000
theorem Rds.symm{S:Sto}{ws:List Str}{B:List Tn}{ab:Addr}{t:Tr}{l1 l2:Addr}{xs os:List Tr}(h:Rds S ws B ab t l1 l2 xs os):Rds S ws B ab t l2 l1 os xs:=⟨h.K,h.fb,h.sh,h.bd,h.f2,h.f1,h.r2,h.r1,by have:=h.n;omega,h.o3,h.x3,h.hB⟩
theorem Pre.pb{S:Sto}{aw at' ab:Addr}{w0 w1 w2 w3 w4 w5:Str}{tt:List Str}{B:List Tn}(P:Pre S aw at' ab w0 w1 w2 w3 w4 w5 tt B):PB B:=λt ht x hx=>by
 have h1:=(zpq hx).2.2;have h2:=(P.bk.lf t ht).dp;omega
mutual
noncomputable def Tr.wd:Tr→Prop
 | .bl _=>True
 | .nd _ ts=>ts.length≤1000∧wds ts
noncomputable def wds:List Tr→Prop
 | []=>True
 |t::ts=>t.wd∧wds ts
end
noncomputable def stk (x:Tr):List Str→Tr
 | []=>x
 |h::hs=> .nd h [stk x hs]
section
variable {ws:List Str}{B:List Tn}
def zyg (B:List Tn) (wn:List (List Int)) (p:List Int) (t:Tr):Prop:=∀e v,t.at e=ae v→(p++e∈wn↔(zey B v).isSome=true)
theorem Sh.all{t:Tr}(h:Sh ws B t):zyg B (opl B t) [] t:=λe v hv=>by
 have ft:=zeV (m:=0) _ h.hdT;rw[a9];constructor
 ·intro he;exact h.wn (λq hq=>hq) e he e v (by simp) hv
 ·intro ho;obtain⟨u,ho⟩:=dG.mp ho;have m:=ztf t [] e v hv;rw[a9]at m;unfold opl;rw[←zqf B t [] ft];refine aI.mpr ⟨(e,u.1),iV.mpr ⟨(e,v),m,?_⟩,rfl⟩;unfold zxw;rw[ho];simp
structure Ful (ws:List Str) (B:List Tn) (t u:Tr):Prop where
  wi:Wi B (opl B t) t.depth [] t u
  sr:src B u=t
  wy:Wy ws B u
  us:u.us B []=t.op B []
open Classical in
noncomputable def fw (ws:List Str) (B:List Tn) (t:Tr):Tr:=if h:∃u,Ful ws B t u then choose h else t
noncomputable def hh (ws:List Str) (B:List Tn) (t:Tr):Nat→Tr
 |0=>t
 |k+1=>gol B (fw ws B (hh ws B t k))
noncomputable def wys (ws:List Str) (B:List Tn) (t:Tr) (k:Nat):List Tr:=(aU k).map λi=>fw ws B (hh ws B t i)
end
structure WyF (ws:List Str) (B:List Tn) (x u:Tr):Prop where
  f:Ful ws B x u
  wt:u.weight≤400
  dp:u.depth≤40
  ar:u.ar B
  hd:u.hd λ_=>True
  wd:(u.mk B (zaJ 2)).wd
section
variable {ws:List Str}{B:List Tn}{x:Tr}
theorem Sh.quiet (K:Bk3 ws B) (h:Sh ws B x):x.quiet=true:=by
 refine zhS x ?_;have:∀(n:Nat) (x:Tr),x.depth≤n→Sh ws B x→x.hd zcM:=by
  intro n
  induction n with
  |zero=>
   intro x hd h;have:=zaS x;omega
  |succ n ih=>
   intro x hd h;obtain⟨s,ts,rfl,hs,_,k⟩:=h.cases K;rw[Tr.depth]at hd;rw[Tr.hd,hds_iff];exact⟨K.b.sg s hs,λu hu=>ih u (by have:=zbA hu;omega) (k u hu)⟩
 exact this _ x (au _) h
end
section
variable {ws:List Str}{B:List Tn}
theorem zzw (b:BkOk ws ws B) (O:Ort B) {t:Tn}(ht:t∈B) {x:Tr}{us:List Tr}(hx:Wy ws B x) (hl:us.length=t.2.1.nb) (h:src B x=t.2.1.fill us) :
  ∃(m:Nat) (vs:List Tr),m≤1∧x=evT t m vs∧vs.map (src B)=us∧(∀y∈vs,Wy ws B y)∧wts vs+1≤x.weight:=by
 rcases hx.cases b with⟨s,as,rfl,hs,es,ka⟩ |⟨u,as,hu,rfl,eu,la,ka⟩
 ·obtain⟨vs,ev,lv,ms,kv,wv⟩:=zeY b O ht es hx hl h;have hm:=O.mt t ht vs lv;rw[←ev]at hm;obtain⟨s0,ls,e0,_⟩:=O.inn t ht;rw[e0,Tr.mt]at hm;split at hm
  ·have:=zfY _ _ _ hm;exact⟨0,vs,by omega,ev,ms,kv,by rw[zfb];omega⟩
  ·cases hm
 ·rw[show src B (.nd u.1 as)=_ from zdv eu]at h;have m1:=O.mt t ht us hl;have m2:=O.mt u hu (as.map (src B)) (by rw[aq,la]);have:u=t:=O.one u hu t ht _ (by rw[m2];rfl) (by rw[show u.2.1.fill (as.map (src B))=_ from h,m1];rfl)
  subst this;rw[show u.2.1.fill (as.map (src B))=_ from h,m1]at m2;exact⟨1,as,by omega,rfl,(aG m2).symm,ka,by rw[zfb];omega⟩
end
section
variable {ws:List Str}{B:List Tn}
theorem Wy.re{h:Str}{ts us:List Tr}(w:Wy ws B (.nd h ts)) (hl:us.length=ts.length) (hu:∀x∈us,Wy ws B x):Wy ws B (.nd h us):=by
 obtain⟨h1,h2⟩:=w;rw[Tr.hd,hds_iff]at h1;rw[Tr.ar,ars_iff]at h2;refine⟨?_,?_⟩
 ·rw[Tr.hd,hds_iff];exact⟨h1.1,λu hm=>(hu u hm).hd⟩
 ·rw[Tr.ar,ars_iff];exact⟨λt e=>by rw[hl];exact h2.1 t e,λu hm=>(hu u hm).ar⟩
end
structure Pw (w0 w1 w2 w3 w4 w5:Str) (tt:List Str) (B:List Tn) (p:Pl):Prop where
  b:BookOk w0 w1 w2 w3 w4 w5 tt B
  T:Titles tt
  G:Signs w0 w1 w2 w3 w4 w5
  o:PlOk [w2,w3,w4,w5] B p
  w:p.wt≤23
  n:p.nt≤4
section
variable {w0 w1 w2 w3 w4 w5:Str}{tt:List Str}{B:List Tn}{p:Pl}
theorem Pw.k (u:Pw w0 w1 w2 w3 w4 w5 tt B p):BkOk [w0,w1,w2,w3,w4,w5] [w2,w3,w4,w5] B:=u.b.bk u.T u.G
theorem Pw.nd (u:Pw w0 w1 w2 w3 w4 w5 tt B p):(B.map λt=>t.1).Nodup:=u.k.nd
end
section
variable {ws:List Str}{B:List Tn}{x y:Tr}
structure Cel (ws:List Str) (B:List Tn) (x y:Tr):Prop where
  K:Bk3 ws B
  wx:Wy ws B x
  wy:Wy ws B y
  e:src B x=src B y
  sm:(src B y).small=true
theorem Cel.symm (h:Cel ws B x y):Cel ws B y x:=⟨h.K,h.wy,h.wx,h.e.symm,by rw[h.e];exact h.sm⟩
end
section
variable {B:List Tn}
structure Lfs (B:List Tn):Prop where
  op:∀t∈B,∀us:List Tr,us.length=t.2.1.nb→zey B (t.2.1.fill us)=ae t
  lf:∀t∈B,∃n h c d,t.2.1∈leftsL n h c d
end
structure Ms where
  c0:Nat
  c1:Nat
  k:Tn→Nat→Nat
mutual
theorem zhZ:∀x:Tr,x.quiet=true→x.hd zcM
 | .bl n,h=>by rw[Tr.quiet]at h;cases h
 | .nd s ts,h=>by
  rw[Tr.quiet,b3]at h;rw[Tr.hd];exact⟨(zfJ s).mp h.1,zha ts h.2⟩
theorem zha:∀ts:List Tr,zhF ts=true→hds zcM ts
 | [],h=>by rw[hds];trivial
 |t::ts,h=>by
  rw[zhF,b3]at h;rw[hds];exact⟨zhZ t h.1,zha ts h.2⟩
end
theorem zjU:∀(q:List Int) {X v:Tr},X.at q=ae v→X.put q v=X
 | [],X,v,h=>by
  rw[zhn]at h;cases h;exact zea _ _
 |i::q, .bl n,v,h=>by cases h
 |i::q, .nd s ts,v,h=>by
  obtain⟨w,h0,h1,h2⟩:=zgt h;rw[zgn h1,zjU q h2];congr 1;exact List.ext_getElem? λj=>by
   rw[List.getElem?_set];split
   ·rename_i e;rw[←e,h1];simp [(cj.mp h1).1]
   ·rfl
theorem zuJ:∀(q:List Int) {X v:Tr},X.at q=ae v→q.length+v.depth≤X.depth
 | [],X,v,h=>by
  rw[zhn]at h;cases h;simp
 |i::q, .bl n,v,h=>by cases h
 |i::q, .nd s ts,v,h=>by
  obtain⟨w,h0,h1,h2⟩:=zgt h;have:=zuJ q h2;have:=zbA (aV h1);rw[Tr.depth,aR];omega
theorem zmm{u:Tr}:∀(ts:List Tr) (i:Nat),dts (ts.set i u)≤max (dts ts) u.depth
 | [],i=>by simp [dts]
 |t::ts,0=>by rw[ku,dts,dts];omega
 |t::ts,i+1=>by
  have:=zmm (u:=u) ts i;rw[jb,dts,dts];omega
theorem zsQ{u:Tr}:∀(q:List Int) {X v:Tr},X.at q=ae v→(X.put q u).depth≤max X.depth (q.length+u.depth)
 | [],X,v,h=>by rw[zea];simp;omega
 |i::q, .bl n,v,h=>by cases h
 |i::q, .nd s ts,v,h=>by
  obtain⟨w,h0,h1,h2⟩:=zgt h;have h3:=zsQ (u:=u) q h2;have h4:=zmm (u:=w.put q u) ts i.toNat;have h5:=zbA (aV h1);rw[zgn h1,Tr.depth,Tr.depth,aR];omega
section
variable {ws:List Str}{B:List Tn}
theorem Sh.sig (K:Bk3 ws B) {X:Tr}(h:Sh ws B X):X.hd zcM:=zhZ _ (h.quiet K)
theorem Sh.mkq (K:Bk3 ws B) {X:Tr}(h:Sh ws B X) (g:Tn→Tr):X.mk B g=X:=znq K.b.ti _ (h.sig K)
theorem zsJ (K:Bk3 ws B) {ts:List Tr}(h:∀t∈ts,Sh ws B t) (g:Tn→Tr):ts.map (Tr.mk B g)=ts:=by
 rw[cC (g:=id) λt ht=>(h t ht).mkq K g,List.map_id]
theorem zoR (K:Bk3 ws B) (g:Tn→Tr) {u:Tr}:∀(q:List Int) {X v:Tr},Sh ws B X→X.at q=ae v→(X.put q u).mk B g=X.put q (u.mk B g)
 | [],X,v,hs,h=>by rw[zea,zea]
 |i::q, .bl n,v,hs,h=>by cases h
 |i::q, .nd s ts,v,hs,h=>by
  obtain⟨w,h0,h1,h2⟩:=zgt h;obtain⟨s',ts',e,_,e2,k⟩:=hs.cases K;cases e;rw[zgn h1,zgn h1,zej e2,List.map_set,zsJ K k,zoR K g q (k w (aV h1)) h2]
theorem zsL{u:Tr}(hu:Wy ws B u):∀(q:List Int) {X v:Tr},Wy ws B X→X.at q=ae v→Wy ws B (X.put q u)
 | [],X,v,hs,h=>by rw[zea];exact hu
 |i::q, .bl n,v,hs,h=>by cases h
 |i::q, .nd s ts,v,hs,h=>by
  obtain⟨w,h0,h1,h2⟩:=zgt h;rw[zgn h1];refine hs.re (by simp) λz hz=>?_;rcases jk hz with q' |rfl
  ·exact hs.kids z q'
  ·exact zsL hu q (hs.kids w (aV h1)) h2
end
noncomputable def zeZ (A:List (Int×Tr)):List (Key×W):=A.map λx=>(Sum.inl x.1,enc x.2)
noncomputable def lkA (A:List (Int×Tr)) (n:Int):Option Tr:=(A.find? λx=>decide (x.1=n)).map (·.2)
noncomputable def smA (A:List (Int×Tr)):Nat:=(A.map λx=>x.2.weight).sum
def NdA (A:List (Int×Tr)):Prop:=(A.map (·.1)).Nodup
theorem zhi{x:Int×Tr}{A:List (Int×Tr)}{n:Int}(h:x.1=n):lkA (x::A) n=ae x.2:=by simp [lkA,bF,h]
theorem zgq{x:Int×Tr}{A:List (Int×Tr)}{n:Int}(h:x.1≠n):lkA (x::A) n=lkA A n:=by simp [lkA,bF,h]
theorem zpy{n:Int}:∀A:List (Int×Tr),vlK (zeZ A) (.inl n)=(lkA A n).map enc
 | []=>rfl
 |x::A=>by
  have ih:=zpy (n:=n) A;by_cases h:x.1=n
  ·rw[zhi h];simp [vlK,zeZ,h]
  ·rw[zgq h,←ih];simp [vlK,zeZ,h]
theorem zsY:∀{A:List (Int×Tr)}{x:Int×Tr},NdA A→x∈A→lkA A x.1=ae x.2
 |y::A,x,h,hx=>by
  unfold NdA at h;rw[aA,dc]at h;rcases az.mp hx with rfl |hx
  ·exact zhi rfl
  ·rw[zgq (λz=>h.1 (by rw[z];exact aI.mpr ⟨x,hx,rfl⟩))];exact zsY h.2 hx
theorem zrj:∀{A:List (Int×Tr)}{n:Int},lkA A n=none→ ∀x∈A,x.1≠n
 |y::A,n,h,x,hx=>by
  by_cases e:y.1=n
  ·rw[zhi e]at h;cases h
  ·rw[zgq e]at h;rcases az.mp hx with rfl |hx
   ·exact e
   ·exact zrj h x hx
theorem zjW:∀{A:List (Int×Tr)}{n m:Int}{t:Tr},lkA A n=none→lkA (A++[(n,t)]) m=if m=n then ae t else lkA A m
 | [],n,m,t,h=>by
  by_cases e:m=n
  ·subst e;rw[if_pos rfl];exact zhi rfl
  ·rw[if_neg e];exact zgq (λz=>e z.symm)
 |y::A,n,m,t,h=>by
  have hy:=zrj h y a0;rw[zgq hy]at h;rw[d9];by_cases e:y.1=m
  ·rw[zhi e,zhi e,if_neg (by rw[←e];exact hy)]
  ·rw[zgq e,zgq e,zjW h]
theorem zzx{n:Int}{t:Tr}{A:List (Int×Tr)}(h:lkA A n=none):ptK (zeZ A) (.inl n) (enc t)=zeZ (A++[(n,t)]):=by
 unfold ptK;rw[if_neg]
 ·simp [zeZ]
 ·intro z;obtain⟨kv,h1,h2⟩:=iJ.mp z;obtain⟨x,hx,rfl⟩:=aI.mp h1;have h3:(Sum.inl x.1:Key)= .inl n:=of_decide_eq_true h2;exact zrj h x hx (iq h3)
theorem zwZ{n:Int}{t:Tr}{A:List (Int×Tr)}(hn:NdA A) (h:lkA A n=ae t):ptK (zeZ A) (.inl n) (enc t)=zeZ A:=by
 unfold ptK;have hm:(zeZ A).map (λkv=>if kv.1=Sum.inl n then(kv.1,enc t) else kv)=zeZ A:=by
  unfold zeZ;rw[bj];refine cC λx hx=>?_;simp only[gH];by_cases e:x.1=n
  ·have:=zsY hn hx;rw[e,h]at this;cases this;rw[if_pos (by rw[e])]
  ·rw[if_neg (λz=>e (iq z))]
 by_cases e:((zeZ A).any λkv=>decide (kv.1=Sum.inl n))=true
 ·rw[if_pos e];exact hm
 ·exfalso;apply e;cases k:A.find? (λx=>decide (x.1=n)) with
  |none=>unfold lkA at h;rw[k]at h;cases h
  |some x=>
   have h1:=cA k;have h2:=jp k;exact iJ.mpr ⟨(Sum.inl x.1,enc x.2),aI.mpr ⟨x,h1,rfl⟩,by have:=of_decide_eq_true h2;simp [this]⟩
theorem zwk{n:Int}{t:Tr}{A:List (Int×Tr)}(hn:NdA A) (h:lkA A n=none):NdA (A++[(n,t)]):=by
 unfold NdA at hn⊢;rw[bD,jT];refine⟨hn,by simp,λa ha b hb=>?_⟩
 obtain⟨x,hx,rfl⟩:=aI.mp ha;simp only[aA,cp,bh]at hb;subst hb;exact zrj h x hx
theorem zxe{n:Int}{t:Tr}{A:List (Int×Tr)}:smA (A++[(n,t)])=smA A+t.weight:=by simp [smA]
structure PaOk (P:Tr→Prop) (A A':List (Int×Tr)) (R u:Tr):Prop where
  ex:∀n t,lkA A n=ae t→lkA A' n=ae t
  fl:∀us:List Tr,(∀n t,lkA A' n=ae t→us.getD n.toNat (.bl n)=t)→R.fill us=u
  ps:∀n t,lkA A' n=ae t→P t
  nd:NdA A'
  sm:smA A'≤smA A+u.weight
  ln:A'.length≤A.length+R.weight
  ky:∀m,R.fits m→(∀n t,lkA A n=ae t→0≤n∧n<(m:Int))→ ∀n t,lkA A' n=ae t→0≤n∧n<(m:Int)
structure PaOks (P:Tr→Prop) (A A':List (Int×Tr)) (Rs us:List Tr):Prop where
  ex:∀n t,lkA A n=ae t→lkA A' n=ae t
  fl:∀vs:List Tr,(∀n t,lkA A' n=ae t→vs.getD n.toNat (.bl n)=t)→fills vs Rs=us
  ps:∀n t,lkA A' n=ae t→P t
  nd:NdA A'
  sm:smA A'≤smA A+wts us
  ln:A'.length≤A.length+wts Rs
  ky:∀m,fitss m Rs→(∀n t,lkA A n=ae t→0≤n∧n<(m:Int))→ ∀n t,lkA A' n=ae t→0≤n∧n<(m:Int)
theorem PaOks.cons{P:Tr→Prop}{A A1 A2:List (Int×Tr)}{R u:Tr}{Rs us:List Tr}(h:PaOk P A A1 R u) (k:PaOks P A1 A2 Rs us):PaOks P A A2 (R::Rs) (u::us) where
  ex n t e:=k.ex n t (h.ex n t e)
  fl vs hv:=by rw[fills,h.fl vs λn t e=>hv n t (k.ex n t e),k.fl vs hv]
  ps:=k.ps
  nd:=k.nd
  sm:=by have h1:=h.sm;have h2:=k.sm;rw[zbi];omega
  ln:=by have h1:=h.ln;have h2:=k.ln;rw[zbi];omega
  ky m hm hA:=by rw[fitss]at hm;exact k.ky m hm.2 (h.ky m hm.1 hA)
theorem PaOks.up{P:Tr→Prop}{A A':List (Int×Tr)}{Rs us:List Tr}{s:Str}(k:PaOks P A A' Rs us):PaOk P A A' (.nd s Rs) (.nd s us) where
  ex:=k.ex
  fl vs hv:=by rw[Tr.fill,k.fl vs hv]
  ps:=k.ps
  nd:=k.nd
  sm:=by have h2:=k.sm;rw[Tr.weight];omega
  ln:=by have h2:=k.ln;rw[Tr.weight];omega
  ky m hm hA:=by rw[Tr.fits]at hm;exact k.ky m hm hA
theorem zgd{P:Tr→Prop}{r:Nat}{a:Addr}{E:WX}{D:WEnds}{x0 x1:Option W}:∀(ls us:List Tr)
  (one:∀l∈ls,∀{t:Tr}{S:Sto}{A:List (Int×Tr)}{Q:WK}{E:Str→Sto→Prop},t.fits 0→P t→S a=ae (.dk (zeZ A))→NdA A→(∀n t,lkA A n=ae t→P t)→A.length+l.weight≤1000→(∀A',PaOk P A A' l t→Q (.ref a) (put S a (.dk (zeZ A'))))→(∀A',Q .non (put S a (.dk (zeZ A'))))→zbh r [enc l,enc t, .ref a] S Q E)
  {S:Sto}{A:List (Int×Tr)}{x3 x4:Option W},ls.length=us.length→fitss 0 us→(∀t∈us,P t)→S a=ae (.dk (zeZ A))→NdA A→(∀n t,lkA A n=ae t→P t)→A.length+wts ls≤1000→
  (∀A' x3 x4,PaOks P A A' ls us→D.nx [x0,x1,ae (.ref a),x3,x4] (put S a (.dk (zeZ A'))))→(∀A',D.rt .non (put S a (.dk (zeZ A'))))→
  forL (wGT (zat (wGN 3) (zat (wGN 4) zbT))) (zdy r (zbh r)) E D (λ_=>True) (pairs (encs ls) (encs us)) [x0,x1,ae (.ref a),x3,x4] S
 | [],[],one,S,A,x3,x4,hl,hf,hp,ha,hn,hA,hw,h1,h0=>by
  have q:=h1 A x3 x4 ⟨λ_ _ h=>h,λ_ _=>by rw[fills],hA,hn,by rw[ziP];omega,by rw[ziP];omega,λ_ _ h=>h⟩
  rw[zdT ha]at q;simpa [encs,pairs,forL]using q
 | [],u::us,one,S,A,x3,x4,hl,hf,hp,ha,hn,hA,hw,h1,h0=>by simp at hl
 |l::ls,[],one,S,A,x3,x4,hl,hf,hp,ha,hn,hA,hw,h1,h0=>by simp at hl
 |l::ls,u::us,one,S,A,x3,x4,hl,hf,hp,ha,hn,hA,hw,h1,h0=>by
  simp only[fitss]at hf;rw[zbi]at hw;simp only[encs,pairs];refine zbj λN hN=>?_;simp only[zdy];walk_at "wp";refine one l a0 hf.1 (hp u a0) ha hn hA (by omega) (λA1 e=>?_) λA1=>?_
  ·walk_at "wp";have:=e.ln;refine hN _ _ _ .refl trivial (zgd ls us (λl' hl'=>one l' (aK _ hl')) (by simpa using hl) hf.2 (λt ht=>hp t (aK _ ht)) zag e.nd e.ps (by omega) (λA2 x3 x4 e2=>?_) λA2=>?_)
   ·rw[zbc];exact h1 _ _ _ (.cons e e2)
   ·rw[zbc];exact h0 _
  ·walk_at "wp";exact h0 A1
theorem zhP{P:Tr→Prop}(hc:∀s ts,P (.nd s ts)→ ∀t∈ts,P t) (hd50:∀t,P t→t.depth≤50) {a:Addr}:∀(d:Nat) {l t:Tr}{r:Nat}{S:Sto}{A:List (Int×Tr)}{Q:WK}{E:Str→Sto→Prop},l.depth≤d→d≤r+1→t.fits 0→P t→S a=ae (.dk (zeZ A))→NdA A→(∀n t,lkA A n=ae t→P t)→A.length+l.weight≤1000→
  (∀A',PaOk P A A' l t→Q (.ref a) (put S a (.dk (zeZ A'))))→(∀A',Q .non (put S a (.dk (zeZ A'))))→zbh (r+1) [enc l,enc t, .ref a] S Q E
 |0,l,t,r,S,A,Q,E,hd,hr,hf,hp,ha,hn,hA,hl,h1,h0=>by have:=zaS l;omega
 |d+1, .bl n,t,r,S,A,Q,E,hd,hr,hf,hp,ha,hn,hA,hl,h1,h0=>by
  rw[zbh];simp only[enc];walk_at "wp";simp only[zmP];walk_at "wp";simp only[zlU ha,zpA];rw[zpy];have hlen:(zeZ A).length<sizeLine:=by
   have:=zbM (n:=A.length) (by omega);unfold zeZ;rw[aq];exact this
  cases e:lkA A n with
  |none=>
   simp only[Option.map_none,fH];rw[zef (by have:=hd50 t hp;omega)];simp only[zqO];walk_at "wp";simp only[zlU ha,zpA];rw[zzx e];refine⟨hlen,_, .refl,h1 _ ⟨λm u h=>?_,λus hu=>?_,λm u h=>?_,zwk hn e,by rw[zxe];exact au _,by rw[Tr.weight];simp,λk hk hA' m u h=>?_⟩⟩
   ·rw[zjW e];by_cases em:m=n
    ·subst em;rw[e]at h;cases h
    ·rw[if_neg em];exact h
   ·rw[Tr.fill];exact hu n t (by rw[zjW e,if_pos rfl])
   ·rw[zjW e]at h;by_cases em:m=n
    ·rw[if_pos em]at h;cases h;exact hp
    ·rw[if_neg em]at h;exact hA m u h
   ·rw[zjW e]at h;by_cases em:m=n
    ·rw[Tr.fits]at hk;subst em;exact hk
    ·rw[if_neg em]at h;exact hA' m u h
  |some v=>
   simp only[d7,dq];rw[zrl 60 v t (by have:=hd50 v (hA n v e);omega)];dsimp only;cases es:v.same t with
   |false=>
    walk_at "wp";have:=h0 A;rw[zdT ha]at this;exact⟨_, .refl,this⟩
   |true=>
    have ev:=(ziH v t).mp es;subst ev;simp only[zqO];walk_at "wp";simp only[zlU ha,zpA];rw[zwZ hn e];exact⟨hlen,_, .refl,h1 _ ⟨λm u h=>h,λus hu=>by rw[Tr.fill];exact hu n _ e,hA,hn,by omega,by omega,λ_ _ h=>h⟩⟩
 |d+1, .nd s ls, .bl n,r,S,A,Q,E,hd,hr,hf,hp,ha,hn,hA,hl,h1,h0=>by
  simp only[Tr.fits]at hf;omega
 |d+1, .nd s ls, .nd z us,r,S,A,Q,E,hd,hr,hf,hp,ha,hn,hA,hl,h1,h0=>by
  simp only[Tr.fits]at hf;simp only[Tr.depth]at hd;simp only[Tr.weight]at hl;have no:∃S'',Sub S'' S∧Q .non S'':=by
   have:=h0 A;rw[zdT ha]at this;exact⟨_, .refl,this⟩
  rw[zbh];simp only[enc];walk_at "wp";simp only[zaT];by_cases e1:s=z
  ·subst e1;simp only[beq_self_eq_true,iB,er,if_false];by_cases e2:ls.length=us.length
   ·rw[e2];simp only[beq_self_eq_true,iB,er,if_false]
    try walk_at "wp"
    have hr1:ls=[]∨ ∃r',r=r'+1:=by
     cases ls with
     |nil=>exact .inl rfl
     |cons l ls=>
      have:=zaS l;rw[zdn]at hd;exact .inr ⟨r - 1,by omega⟩
    refine zgd ls us (λl hl' {t S A Q E} f1 f2 f3 f4 f5 f6 f7 f8=>?_) e2 hf (hc _ _ hp) ha hn hA (by omega) (λA' x3 x4 e=>?_) λA'=>?_
    ·rcases hr1 with rfl |⟨r,rfl⟩
     ·cases hl'
     ·exact zhP hc hd50 d (by have:=zbA hl';omega) (by omega) f1 f2 f3 f4 f5 f6 f7 f8
    ·walk_at "wp";exact⟨_, .refl,h1 A' e.up⟩
    ·exact⟨_, .refl,h0 A'⟩
   ·have:(((ls.length+1:Nat):Int) == ((us.length+1:Nat):Int))=false:=by simp;omega
    simp only[this,iz,if_true];exact no
  ·have:(s == z)=false:=by simp [e1]
   simp only[this,iz,if_true];exact no
theorem zii{E:WX}{D:WEnds}{x0:Option W}{r:Nat}:∀(ts:List Tr) (one:∀u∈ts,∀{S:Sto}{Q:WK}{E:Str→Sto→Prop},(∀S' b,Sub S S'→S' b=ae (.lst ((u.pl []).map zbn))→Q (.ref b) S')→zaF r [enc u] S Q E) (i:Nat) {acc:List (List Int)}{f:Addr}{S:Sto}{x2 x3:Option W},S f=ae (.lst (acc.map zbn))→acc.length+wts ts≤100000→dts ts≤1000→
  (∀S' g x2 x3,Sub S S'→S' g=ae (.lst ((acc++pls [] i ts).map zbn))→D.nx [x0,ae (.ref g),x2,x3] S')→forL (wGT (zat (wGN 2) (zat (wGN 3) zbT))) (zbY r (zaF r)) E D (λ_=>True) (zhz i (encs ts)) [x0,ae (.ref f),x2,x3] S
 | [],one,i,acc,f,S,x2,x3,hf,hl,hd,h=>by
  have:=h S f x2 x3 .refl (by simpa [pls]using hf);simpa [forL,zhz,encs]using this
 |t::ts,one,i,acc,f,S,x2,x3,hf,hl,hd,h=>by
  simp only[dts]at hd;simp only[wts]at hl;simp only[encs,zhz];refine zbj λN hN=>?_;simp only[zbY];walk_at "wp";refine one t a0 λS1 b sb hb=>?_;dsimp only;rw[zaj hb];have hpl:(t.pl []).length=t.weight:=by rw[←zeW,aq,zfZ]
  refine zaO (λσ=>∃x,σ=[x,ae (.int i)]) zbn (λq=>zbn ((i:Int)::q)) hb (t.pl []) [] _ ⟨none,rfl⟩ (by simp;omega) (λq hq σ R hI hR=>?_) ?_
  ·obtain⟨x,rfl⟩:=hI;have hq2:=zvV hq;simp only[zdf];walk_at "wp";have e1:W.tup [.int (i:Int)]=zbn [(i:Int)]:=rfl;rw[e1,zto];refine⟨zal (by decide),zal (by simp at hq2⊢;omega),hR _ _ ⟨_,rfl⟩ .refl⟩
  ·rw[a9,zaj (sb _ _ hf)];refine⟨zal (by simp;omega),λa ha=>?_⟩;have e:acc.map zbn++(t.pl []).map (λq=>zbn ((i:Int)::q))=(acc++t.pl [(i:Int)]).map zbn:=by
    have:=zsz [(i:Int)] t [];rw[bI]at this;rw[bD,this,bj];rfl
   rw[e];have hpl2:(t.pl [(i:Int)]).length=t.weight:=by rw[←zeW,aq,zfZ]
   refine hN _ _ _ .refl trivial (zii ts (λu hu=>one u (aK _ hu)) (i+1) zag (by simp;omega) (by omega) λS' g x2 x3 sb' hg=>?_);exact h S' g x2 x3 ((sb.trans (.new ha)).trans sb') (by rw[pls,←cf];exact hg)
theorem zmZ:∀(d:Nat) {t:Tr}{r:Nat}{S:Sto}{Q:WK}{E:Str→Sto→Prop},t.depth≤d→d≤r→t.weight≤1000→t.depth≤1000→t.fits 0→(∀S' b,Sub S S'→S' b=ae (.lst ((t.pl []).map zbn))→Q (.ref b) S')→zaF (r+1) [enc t] S Q E
 |0,t,r,S,Q,E,hd,hr,hw,hz,ht,h=>by have:=zaS t;omega
 |d+1, .bl n,r,S,Q,E,hd,hr,hw,hz,ht,h=>by
  rw[Tr.fits]at ht;omega
 |d+1, .nd s ts,r,S,Q,E,hd,hr,hw,hz,ht,h=>by
  simp only[Tr.depth]at hd hz;simp only[Tr.weight]at hw;rw[Tr.fits]at ht;obtain⟨r,rfl⟩:∃r',r=r'+1:=⟨r - 1,by omega⟩
  rw[zaF];simp only[enc];walk_at "wp";refine⟨zal (by decide),zal (by decide),λa ha=>?_⟩;have en:W.tup (.str s::encs ts)=enc (.nd s ts):=by simp [enc]
  try walk_at "wp"
  refine zii ts (λu hu {S Q E} q=>zmZ d (by have:=zbA hu;omega) (by omega) (by have:=zdc hu;omega) (by have:=zbA hu;omega) (zfK ht hu) q) 0 (acc:=[[]]) zag (by simp;omega) (by omega) λS' g x2 x3 sb hg=>?_;walk_at "wp";exact⟨_, .refl,h _ g ((Sub.new ha).trans sb) (by rw[Tr.pl];exact hg)⟩
section
theorem zlZ{m:Nat}:∀{ts:List Tr},(∀t∈ts,t.fits m)→fitss m ts
 | [],_=>by rw[fitss];trivial
 |t::ts,h=>by rw[fitss];exact⟨h t a0,zlZ λu hu=>h u (aK _ hu)⟩
mutual
theorem zme{us:List Tr}{k:Nat}(hk:1≤k) (hu:∀u∈us,u.depth≤k):∀t:Tr,(t.fill us).depth+1≤t.depth+k
 | .bl n=>by
  rw[Tr.fill,Tr.depth,br];cases e:us[n.toNat]? with
  |none=>simp only[fH,Tr.depth];omega
  |some v=>have:=hu v (aV e);simp only[dq];omega
 | .nd s ts=>by
  have:=zkz hk hu ts;rw[Tr.fill,Tr.depth,Tr.depth];omega
theorem zkz{us:List Tr}{k:Nat}(hk:1≤k) (hu:∀u∈us,u.depth≤k):∀ts:List Tr,dts (fills us ts)+1≤dts ts+k
 | []=>by rw[fills,ziI];omega
 |t::ts=>by
  have h1:=zme hk hu t;have h2:=zkz hk hu ts;rw[fills,zdn,zdn];omega
end
theorem Sh.fit (K:Bk3 ws B):∀(n:Nat) {X:Tr},X.depth≤n→Sh ws B X→X.fits 0
 |0,X,hn,h=>by have:=zaS X;omega
 |n+1,X,hn,h=>by
  obtain⟨s,ts,rfl,_,_,k⟩:=h.cases K;rw[Tr.depth]at hn;rw[Tr.fits];exact zlZ λt ht=>Sh.fit K n (by have:=zbA ht;omega) (k t ht)
theorem Sh.kid (K:Bk3 ws B) {s:Str}{ts:List Tr}(h:Sh ws B (.nd s ts)):∀t∈ts,Sh ws B t:=by
 obtain⟨s',ts',e,_,_,k⟩:=h.cases K;cases e;exact k
theorem Sh.part (K:Bk3 ws B):∀(q:List Int) {X u:Tr},Sh ws B X→X.at q=ae u→Sh ws B u
 | [],X,u,h,e=>by
  rw[zhn]at e;cases e;exact h
 |i::q, .bl n,u,h,e=>by cases e
 |i::q, .nd s ts,u,h,e=>by
  obtain⟨v,h0,h1,h2⟩:=zgt e;exact Sh.part K q (h.kid K v (aV h1)) h2
theorem Sh.ne0 (K:Bk3 ws B) {X:Tr}(h:Sh ws B X):X.ne B=0:=by
 have:=(K.src h.wy).2.2.1;rw[h.q]at this;exact this
theorem zsD (K:Bk3 ws B) {v:Tr}:∀(q:List Int) {X w:Tr},Sh ws B X→X.at q=ae w→(X.put q v).ne B≤v.ne B
 | [],X,w,h,e=>by rw[zea];exact au _
 |i::q, .bl n,w,h,e=>by cases e
 |i::q, .nd s ts,w,h,e=>by
  obtain⟨u,h0,h1,h2⟩:=zgt e;obtain⟨s',ts',e0,_,et,k⟩:=h.cases K;cases e0;rw[zgn h1,Tr.ne,et];have:nes B (ts.set i.toNat (u.put q v))≤v.ne B:=zgc λx hx=>by
   rcases jk hx with z |rfl
   ·rw[(k x z).ne0 K];exact aY _
   ·exact zsD K q (k u (aV h1)) h2
  show 0+_≤_;omega
structure Bw (ws:List Str) (B:List Tn) (X x:Tr):Prop where
  wy:Wy ws B x
  go:gol B x=X
  sw:(src B x).weight≤X.weight+6
  sd:(src B x).depth≤X.depth+3
  ne:x.ne B≤1
theorem Bw.quiet (K:Bk3 ws B) {X:Tr}(h:Sh ws B X):Bw ws B X X:=⟨h.wy,h.mkq K _,by rw[h.q];omega,by rw[h.q];omega,by rw[h.ne0 K];omega⟩
noncomputable def zbz (A:List (Int×Tr)) (c:Tr) (m:Nat):List Tr:=(aU m).map λn:Nat=>(lkA A (n:Int)).getD c
theorem zrh{A:List (Int×Tr)}{c t:Tr}{m:Nat}{n:Int}(h:lkA A n=ae t) (h0:0≤n) (hm:n<m):(zbz A c m).getD n.toNat (.bl n)=t:=by
 unfold zbz;rw[br,bt,fI (by omega)];simp only[d7,dq];rw[cw h0,h,dq]
theorem zmG:∀(A:List (Int×Tr)) (c:Tr) (m:Nat),c.weight=1→wts (zbz A c m)≤smA A+m
 | [],c,m,hc=>by
  unfold zbz;have:∀l:List Nat,wts (l.map λn:Nat=>(lkA [] (n:Int)).getD c)=l.length:=λl=>by
   induction l with
   |nil=>rfl
   |cons n l ih=>
    rw[aA,zbi,ih];show c.weight+_=_;rw[hc,aR];omega
  rw[this,iD];omega
 |x::A,c,m,hc=>by
  have ih:=zmG A c m hc;have key:∀l:List Nat,l.Nodup→wts (l.map λn:Nat=>(lkA (x::A) (n:Int)).getD c)≤wts (l.map λn:Nat=>(lkA A (n:Int)).getD c)+(if x.1.toNat∈l then x.2.weight else 0):=λl=>by
   induction l with
   |nil=>intro _;simp
   |cons n l il=>
    intro hn;rw[dc]at hn;have il:=il hn.2;rw[aA,aA,zbi,zbi];by_cases e:x.1=(n:Int)
    ·rw[zhi e,dq];have e':x.1.toNat=n:=by omega
     rw[e']at il⊢;rw[if_neg hn.1]at il;rw[if_pos a0];omega
    ·rw[zgq e];have:(if x.1.toNat∈l then x.2.weight else 0)≤if x.1.toNat∈n::l then x.2.weight else 0:=by
      by_cases z:x.1.toNat∈l
      ·rw[if_pos z,if_pos (aK _ z)];exact au _
      ·rw[if_neg z];exact aY _
     omega
  have k:=key (aU m) iU;have sm:smA (x::A)=x.2.weight+smA A:=by simp [smA]
  have:(if x.1.toNat∈aU m then x.2.weight else 0)≤x.2.weight:=by split<;>omega
  unfold zbz at ih⊢;omega
theorem ztN (K:Bk3 ws B) {X u c:Tr}{q:List Int}{t:Tn}{A:List (Int×Tr)}(hX:Sh ws B X) (hu:X.at q=ae u) (ht:t∈B) (hc:Sh ws B c) (wc:c.weight=1)
  (h:PaOk (λv=>Sh ws B v∧v.depth≤u.depth) [] A t.2.2 u):Bw ws B X (X.put q (.nd t.1 (zbz A c t.2.1.nb))):=by
 have hl:(zbz A c t.2.1.nb).length=t.2.1.nb:=by simp [zbz]
 have hs:∀v∈zbz A c t.2.1.nb,Sh ws B v∧v.depth≤u.depth:=λv hv=>by
  obtain⟨n,_,rfl⟩:=aI.mp hv;cases e:lkA A (n:Int) with
  |none=>
   have:=zaS u;have:c.depth≤1:=by have:=zdh c;omega
   exact⟨hc,by show c.depth≤_;omega⟩
  |some w=>exact h.ps _ _ e
 have et:=zcr K.b.nd ht;have wn:Wy ws B (.nd t.1 (zbz A c t.2.1.nb)):=by
  refine⟨?_,?_⟩
  ·rw[Tr.hd,hds_iff];exact⟨.inr ⟨t,ht,rfl⟩,λu hu=>(hs u hu).1.wy.hd⟩
  ·rw[Tr.ar,ars_iff];refine⟨λt' e=>?_,λu hu=>(hs u hu).1.wy.ar⟩;rw[et]at e;cases e;exact hl
 have ms:∀g:Tn→Tr,(zbz A c t.2.1.nb).map (Tr.mk B g)=zbz A c t.2.1.nb:=λg=>zsJ K (λv hv=>(hs v hv).1) g;have hg:gol B (X.put q (.nd t.1 (zbz A c t.2.1.nb)))=X:=by
  rw[show gol B (X.put q (.nd t.1 (zbz A c t.2.1.nb)))=X.put q (gol B (.nd t.1 (zbz A c t.2.1.nb))) from zoR K _ q hX hu];rw[show gol B (.nd t.1 (zbz A c t.2.1.nb))=_ from zdv et,ms];have e:t.2.2.fill (zbz A c t.2.1.nb)=u:=by
   have ft:=(K.b.ri t ht).fits;refine h.fl _ λn v e=>?_;have:=h.ky _ ft (λ_ _ z=>by cases z) n v e
   exact zrh e this.1 this.2
  rw[e];exact zjU q hu
 have hsr:src B (X.put q (.nd t.1 (zbz A c t.2.1.nb)))=X.put q (t.2.1.fill (zbz A c t.2.1.nb)):=by
  rw[show src B (X.put q (.nd t.1 (zbz A c t.2.1.nb)))=X.put q (src B (.nd t.1 (zbz A c t.2.1.nb))) from zoR K _ q hX hu];rw[show src B (.nd t.1 (zbz A c t.2.1.nb))=_ from zdv et,ms]
 refine⟨zsL wn q hX.wy hu,hg,?_,?_,?_⟩
 ·rw[hsr];have h1:=zhX (u:=t.2.1.fill (zbz A c t.2.1.nb)) q hu;have h2:=(K.b.lf t ht).fw _ hl;have h3:=zmG A c t.2.1.nb wc;have h4:=h.sm;have h5:=(K.b.lf t ht).nb;simp only[smA,cp,List.sum_nil,b8]at h4;unfold smA at h3;omega
 ·rw[hsr];have h1:=zsQ (u:=t.2.1.fill (zbz A c t.2.1.nb)) q hu;have h2:=zuJ q hu;have h3:(t.2.1.fill (zbz A c t.2.1.nb)).depth≤u.depth+3:=by
   have:=zme (us:=zbz A c t.2.1.nb) (zaS u) (λv hv=>(hs v hv).2) t.2.1;have:=(K.b.lf t ht).dp;omega
  omega
 ·refine aX (zsD K q hX hu) ?_;have:nes B (zbz A c t.2.1.nb)≤0:=zgc λv hv=>by rw[(hs v hv).1.ne0 K];exact au _
  rw[Tr.ne,et];show 1+_≤1;omega
end
theorem zus{S:Sto}{a b:Addr}{xs:List W}(ha:S a=ae (.lst xs)) (hb:S b=ae (.lst [])):eqF S 60 (.ref a) (.ref b)=ae xs.isEmpty:=by
 show(match S a with
  |some (.lst xs)=>match S b with
   |some (.lst ys)=>zed (eqF S 59) xs ys
   |_=>none
  |_=>none)=ae xs.isEmpty
 rw[ha,hb];cases xs<;>rfl
section
variable {ws:List Str}{B:List Tn}{S:Sto}{a:Addr}{t:Tr}{r:Nat}{Q:WK}{E:Str→Sto→Prop}{cell:Int}
theorem ztY (K:Bk3 ws B) (L:Lft B) (hP:PB B) (ha:S a=ae (.lst (B.map zba))) (h:Sh ws B t) (hw:t.weight≤400) (hd:t.depth≤40) (hr:120≤r)
  (q:∀u S',Sub S S'→Wy ws B u→src B u=t→u.ne B≤1→Q (enc u) S'):zei (r+1) [.ref a,enc t, .int cell] S Q E:=by
 obtain⟨r,rfl⟩:∃r',r=r'+1:=⟨r - 1,by omega⟩
 have ol:=znb B t [];rw[zei];walk_at "wp";refine zgO L ha (by omega) (by omega) (by omega) h.hdT λm hm=>?_
 try walk_at "wp"
 try rw[zaj zag]
 refine zaO (λσ=>∃y,σ=[y]) zjr (λx=>zbn x.1) zag (t.op B []) [] _ ⟨none,rfl⟩ (by simp;omega) (λx hx σ R hI hR=>?_) ?_
 ·obtain⟨y,rfl⟩:=hI;simp only[zhc,zjr];walk_at "wp";exact hR _ _ ⟨_,rfl⟩ .refl
 ·rw[a9];have e0:(t.op B []).map (λx=>zbn x.1)=(opl B t).map zbn:=by unfold opl;rw[bj];rfl
  rw[e0];have sm:Sub S (put S m (.lst ((t.op B []).map zjr))):= .put .refl hm;generalize put S m (.lst ((t.op B []).map zjr))=S1 at sm⊢;intro f hf;have s2:Sub S1 (put S1 f (.lst ((opl B t).map zbn))):= .put .refl hf;have ff:put S1 f (.lst ((opl B t).map zbn)) f=ae (.lst ((opl B t).map zbn)):=zag;generalize put S1 f (.lst ((opl B t).map zbn))=S2 at s2 ff⊢
  try walk_at "wp"
  refine⟨by decide,λz hz=>?_⟩;rw[zus (keep ff hz) zag]
  try walk_at "wp"
  have sz:Sub S (put S2 z (.lst [])):=(sm.trans s2).trans (.put .refl hz);have fz:=keep (x:=Ob.lst []) ff hz;generalize put S2 z (.lst [])=S3 at sz fz⊢;cases ho:opl B t with
  |nil=>
   simp only[cp,kw,if_true];exact⟨_, .refl,q t _ sz h.wy h.q (by rw[h.ne0 K];omega)⟩
  |cons p0 ps=>
   rw[←ho];have hne:(opl B t).map zbn≠ []:=by rw[ho];simp
   have hie:((opl B t).map zbn).isEmpty=false:=by rw[ho];rfl
   rw[hie];simp only[er,if_false];rw[zaj fz];obtain⟨j,x,e1,e2⟩:=zmr cell hne;have hpos:(0:Int)<(((opl B t).map zbn).length:Int):=by
    have:=eL.mpr hne;omega
   refine⟨hpos,?_⟩;rw[zaj fz,e2];obtain⟨p,hp,rfl⟩:=aI.mp (aV e1);dsimp only;refine⟨by decide,λg hg=>?_⟩;obtain⟨u,hu,e3,e4,e5⟩:=zuB K (wn:=[p]) t.depth t [] (au _) h (h.wn λq hq=>by simp only[bh]at hq;subst hq;exact hp)
   have sg:Sub S (put S3 g (.lst [zbn p])):=sz.trans (.put .refl hg);refine zsd L hP hu (by omega) (by omega) (sg _ _ ha) zag h.hdT (by omega) (by omega) (by simp) rfl (λx hx=>by simp only[bh]at hx;subst hx;exact hp) ?_
   refine⟨_, .refl,q u _ sg e4 e3 ?_⟩;have:cnt [p] []≤1:=by unfold cnt;simp
   omega
structure Vb (X:Tr) (n k:Nat):Prop where
  w:2 ^ (n+k)*(X.weight+6*k)≤400
  d:X.depth+3*n+6*k≤40
theorem Vb.bd{X:Tr}{n k:Nat}(h:Vb X n k):Bd X (n+k):=by
 have h1:=h.w;have h2:=h.d;have:2 ^ (n+k)*X.weight≤2 ^ (n+k)*(X.weight+6*k):=dY _ (by omega);exact⟨by omega,by omega⟩
theorem Vb.on (K:Bk2 ws B) {X x:Tr}{n k:Nat}(h:Vb X n (k+1)) (hx:Wy ws B x) (ex:src B x=X) (hn:x.ne B≤1):Vb (gol B x) n k:=by
 have h1:=h.w;have h2:=h.d;have sx:=K.src hx;obtain⟨p,hp,e1,e2,hpn,hs⟩:=zqF K.toBk3 hx sx.1 sx.2.1.symm;rw[sx.2.2.1,eU]at hpn;have e:gol B x=p.ev B (zbt (byC 1)):=by
  rw[←e1];exact zdg K.b hp
 have h3:=zfN (c:=zbt (byC 1)) K.b K.sl K.O hp;have h4:=zhm (c:=zbt (byC 1)) K.b K.O hp;rw[hs,ex]at h3 h4;have h5:2 ^ p.pn*X.weight≤2 ^ 1*X.weight:=dI _ (cV (by decide) (by omega));rw[e];refine⟨?_,by omega⟩
 have h6:(p.ev B (zbt (byC 1))).weight+6*k≤2*(X.weight+6*(k+1)):=by omega
 have h7:=dY (2 ^ (n+k)) h6;rw[←gC,←Nat.pow_succ]at h7;exact aX h7 h1
theorem Vb.back{X x:Tr}{n k:Nat}(h:Vb X n (k+1)) (b:Bw ws B X x):Vb (src B x) (n+1) k:=by
 have h1:=h.w;have h2:=h.d;have h3:=b.sw;have h4:=b.sd;refine⟨?_,by omega⟩
 have h6:(src B x).weight+6*k≤X.weight+6*(k+1):=by omega
 have h7:=dY (2 ^ (n+1+k)) h6;rw[show n+1+k=n+(k+1) by omega]at h7⊢
 exact aX h7 h1
noncomputable def zbZ (x:Tr×Bool):W:= .tup [enc x.1, .bl x.2]
noncomputable def Stp (ws:List Str) (B:List Tn) (X:Tr):Tr×Bool→Tr→Prop
 | (x,true),Y=>Wy ws B x∧src B x=X∧x.ne B≤1∧gol B x=Y
 | (x,false),Y=>Bw ws B X x∧src B x=Y
noncomputable def Wnd (ws:List Str) (B:List Tn):Tr→List (Tr×Bool)→Tr→Prop
 |X,[],Y=>X=Y
 |X,x::ss,Y=>∃Z,Stp ws B X x Z∧Wnd ws B Z ss Y
theorem Wnd.snoc:∀{ss:List (Tr×Bool)}{X Y Z:Tr}{x:Tr×Bool},Wnd ws B X ss Y→Stp ws B Y x Z→Wnd ws B X (ss++[x]) Z
 | [],X,Y,Z,x,h,k=>by
  cases h;exact⟨Z,k,rfl⟩
 |y::ss,X,Y,Z,x,⟨V,h1,h2⟩,k=>⟨V,h1,h2.snoc k⟩
theorem Stp.sh (K:Bk3 ws B) {X Y:Tr}{x:Tr×Bool}(h:Stp ws B X x Y):Sh ws B Y:=by
 obtain⟨x,b⟩:=x;cases b with
 |true=>
  obtain⟨h1,_,_,rfl⟩:=h;exact⟨(K.gol h1).1,(K.gol h1).2.1⟩
 |false=>
  obtain⟨h1,rfl⟩:=h;exact⟨(K.src h1.wy).1,(K.src h1.wy).2.1⟩
theorem Stp.vb (K:Bk2 ws B) {X Y:Tr}{x:Tr×Bool}{n k:Nat}(h:Stp ws B X x Y) (v:Vb X n (k+1)):∃n',n'≤n+1∧Vb Y n' k:=by
 obtain⟨x,b⟩:=x;cases b with
 |true=>
  obtain⟨h1,h2,h3,rfl⟩:=h;exact⟨n,by omega,v.on K h1 h2 h3⟩
 |false=>
  obtain⟨h1,rfl⟩:=h;exact⟨n+1,au _,v.back h1⟩
theorem zoP{c:Str}(K:Bk3 ws B) (hB:B≠ []) (lB:B.length≤1000) (ha:S a=ae (.lst (B.map zba))) (h:Sh ws B t) (hc:Sh ws B (.nd c [])) (hw:t.weight≤400) (hd:t.depth≤40) (hr:120≤r)
  (q:∀u S',Sub S S'→Bw ws B t u→Q (enc u) S'):zdj (r+1) [.ref a,enc t, .int cell, .str c] S Q E:=by
 obtain⟨r,rfl⟩:∃r',r=r'+1:=⟨r - 1,by omega⟩
 rw[zdj];walk_at "wp";rw[zaj ha];have hBe:B.map zba≠ []:=by simpa using hB
 obtain⟨j,x,e1,e2⟩:=zmr cell hBe;have hpos:(0:Int)<((B.map zba).length:Int):=by
  have:=eL.mpr hBe;omega
 refine⟨hpos,?_⟩;rw[zaj ha,e2];obtain⟨u,hu,rfl⟩:=aI.mp (aV e1);have hL:=K.b.lf u hu;have hR:=K.b.ri u hu;simp only[zba]
 try walk_at "wp"
 refine zmZ t.depth (au _) (by omega) (by omega) (by omega) (h.fit K _ (au _)) λS1 b s1 fb=>?_
 try walk_at "wp"
 rw[zaj fb];have hpe:(t.pl []).map zbn≠ []:=by
  intro z;have:=congrArg dw z;rw[aq,←zeW,aq,zfZ]at this;have:=zes t;simp at *;omega
 obtain⟨j2,x2,e3,e4⟩:=zmr (cell / 4) hpe;have hpos2:(0:Int)<(((t.pl []).map zbn).length:Int):=by
  have:=eL.mpr hpe;omega
 refine⟨⟨by decide,by decide⟩,hpos2,?_⟩
 rw[zaj fb,e4];obtain⟨p,hp,rfl⟩:=aI.mp (aV e3);have hp2:∃v,t.at p=ae v∧p.length<t.depth:=by
  rw[←zeW,aI]at hp;obtain⟨⟨p',v⟩,hm,rfl⟩:=hp;have:=zpa hm;exact⟨v,this.1,this.2⟩
 obtain⟨v,hv,hpl⟩:=hp2;have shv:=h.part K p hv;have dv:=zuJ p hv;dsimp only;refine zxa hv ?_
 try walk_at "wp"
 rw[zvf];intro d hd';have s2:Sub S1 (put S1 d (.dk [])):= .put .refl hd';have fd:put S1 d (.dk []) d=ae (.dk (zeZ [])):=zag;generalize put S1 d (.dk [])=S2 at s2 fd⊢;have en:∀A:List (Int×Tr),Sub S2 (put S2 d (.dk (zeZ A)))∨True:=λ_=> .inr trivial;refine zhP (P:=λw=>Sh ws B w∧w.depth≤v.depth) (λs ts hs w hw=>⟨hs.1.kid K w hw,by have:=hs.2;rw[Tr.depth]at this;have:=zbA hw;omega⟩) (λw hw=>by have:=hw.2;omega) u.2.2.depth (au _) (by have:=hR.dp;omega) (shv.fit K _ (au _)) ⟨shv,au _⟩ fd jx (λ_ _ z=>by cases z) (by have:=hR.wt;simp;omega) (λA hA=>?_) λA=>?_
 ·have nS:S d=none:=by
   cases z:S d with
   |none=>rfl
   |some o=>rw[s1 _ _ z]at hd';cases hd'
  have sA:Sub S (put S2 d (.dk (zeZ A))):=λx o e=>by
   by_cases hx:x=d
   ·subst hx;rw[nS]at e;cases e
   ·rw[zaA hx];exact s2 _ _ (s1 _ _ e)
  have fA:put S2 d (.dk (zeZ A)) d=ae (.dk (zeZ A)):=zag;generalize put S2 d (.dk (zeZ A))=S3 at sA fA⊢
  try walk_at "wp"
  refine zgH u.2.1.depth (au _) (by have:=hL.dp;omega) (by have:=hL.wt;have:=hL.nb;omega) ?_
  try walk_at "wp"
  have hnb:=hL.nb;refine⟨⟨by omega,by omega⟩,?_⟩
  have eup:zlv 0 u.2.1.nb=(aU u.2.1.nb).map λn:Nat=>W.int (n:Int):=by
   unfold zlv;refine cC λn _=>?_;simp
  have e6:((u.2.1.nb:Nat):Int).toNat=u.2.1.nb:=by omega
  try rw[e6]
  rw[eup];refine zaO (λσ=>∃y,σ=[y,ae (.ref d),ae (.str c)]) (λn:Nat=>W.int (n:Int)) (λn=>enc ((lkA A (n:Int)).getD (.nd c []))) trivial (aU u.2.1.nb) [] _ ⟨none,rfl⟩ (by simp;omega) (λn hn σ R hI hR'=>?_) ?_
  ·obtain⟨y,rfl⟩:=hI;rw[zfc];simp only[zmP];walk_at "wp";simp only[zlU fA,zpA];refine⟨by decide,?_⟩;rw[zpy];have:=hR' [ae (.int (n:Int)),ae (.ref d),ae (.str c)] S3 ⟨_,rfl⟩ .refl;cases z:lkA A (n:Int) with
   |none=>rw[z]at this;simpa [enc,encs]using this
   |some w=>rw[z]at this;simpa using this
  ·rw[a9];intro g hg;have e7:(aU u.2.1.nb).map (λn=>enc ((lkA A ((n:Nat):Int)).getD (.nd c [])))=encs (zbz A (.nd c []) u.2.1.nb):=by
    unfold zbz;rw[zaw,bj];rfl
   rw[e7];have sg:Sub S (put S3 g (.lst (encs (zbz A (.nd c []) u.2.1.nb)))):=sA.trans (.put .refl hg);have fg:put S3 g (.lst (encs (zbz A (.nd c []) u.2.1.nb))) g=ae (.lst (encs (zbz A (.nd c []) u.2.1.nb))):=zag;generalize put S3 g (.lst (encs (zbz A (.nd c []) u.2.1.nb)))=S4 at sg fg⊢
   try walk_at "wp"
   try rw[zaj fg]
   have lw:(zbz A (.nd c []) u.2.1.nb).length=u.2.1.nb:=by simp [zbz]
   have e8:W.tup (.str u.1::encs (zbz A (.nd c []) u.2.1.nb))=enc (.nd u.1 (zbz A (.nd c []) u.2.1.nb)):=by simp [enc]
   simp only[zaT,lw];refine⟨zal (by decide),zal (by omega),?_⟩;rw[e8];refine zpL p hv (by omega) (by omega) (by omega) ⟨_, .refl,q _ _ sg ?_⟩;exact ztN K h hv hu hc (by simp [Tr.weight,wts]) hA
 ·have nS:S d=none:=by
   cases z:S d with
   |none=>rfl
   |some o=>rw[s1 _ _ z]at hd';cases hd'
  have sA:Sub S (put S2 d (.dk (zeZ A))):=λx o e=>by
   by_cases hx:x=d
   ·subst hx;rw[nS]at e;cases e
   ·rw[zaA hx];exact s2 _ _ (s1 _ _ e)
  try walk_at "wp"
  exact⟨_, .refl,q t _ sA (.quiet K h)⟩
end
section
variable {ws:List Str}{B:List Tn}{S:Sto}{a:Addr}{r:Nat}{Q:WK}{E:Str→Sto→Prop}{c:Str}
theorem Two.mk2 (K:Bk2 ws B) {x X:Tr}(hx:Wy ws B x) (ex:src B x=X) (hn:x.ne B≤1) {n k:Nat}(v:Vb X n (k+1)):Two ws B x X:=K.ow hx ex (v.bd.mono (by omega))
structure Wk46 (ws:List Str) (B:List Tn) (X:Tr) (m:Nat) (ss:List (Tr×Bool)) (Y:Tr):Prop where
  w:Wnd ws B X ss Y
  sh:Sh ws B Y
  l:ss.length≤m
  v:∃n,Vb Y n (m - ss.length)
theorem zlk{EX:WX}{D:WEnds}{l lc:Addr}{X:Tr}{cs0:List Int}(K:Bk2 ws B) (L:Lft B) (hP:PB B) (hB:B≠ []) (lB:B.length≤1000) (fb:S a=ae (.lst (B.map zba))) (hc:Sh ws B (.nd c [])) (f0:S l=none) (flc:S lc=ae (.lst (cs0.map W.int))) (hr:121≤r)
  (hD:∀S' ss Y x7 x8 x9,Sub S S'→S' l=ae (.lst (ss.map zbZ))→Wk46 ws B X 3 ss Y→D.nx [ae (.ref a),ae (enc X),ae (.ref lc),ae (.int 3),ae (.str c),ae (.ref l),ae (enc Y),x7,x8,x9] S') :
  ∀(cs:List Int) {S':Sto}{ss:List (Tr×Bool)}{Y:Tr}{x7 x8 x9:Option W},Sub S S'→S' l=ae (.lst (ss.map zbZ))→Wk46 ws B X 3 ss Y→
  forL (wGN 7) (zcQ (r+1) zaR) EX D (λS'=>S' lc=ae (.lst (cs0.map W.int))) (cs.map W.int) [ae (.ref a),ae (enc X),ae (.ref lc),ae (.int 3),ae (.str c),ae (.ref l),ae (enc Y),x7,x8,x9] S'
 | [],S',ss,Y,x7,x8,x9,sb,fl,k=>hD S' ss Y x7 x8 x9 sb fl k
 |n::cs,S',ss,Y,x7,x8,x9,sb,fl,k=>by
  rw[aA];refine zbj λN hN=>?_;rw[zcQ];walk_at "wp";rw[zaj fl,aq];by_cases hl:(ss.length:Int)<3
  ·rw[if_pos (by first |exact hl |simpa using hl)];refine⟨by decide,?_⟩;obtain⟨n0,v⟩:=k.v;rw[show 3 - ss.length=(2 - ss.length)+1 by omega]at v
   have hbd:=v.bd.small;have fin:∀(u Z:Tr) (b:Bool) (S1:Sto),Sub S' S1→Stp ws B Y (u,b) Z→zcu S1 l λxs=>xs.length<sizeLine∧N [ae (.ref a),ae (enc X),ae (.ref lc),ae (.int 3),ae (.str c),ae (.ref l),ae (enc Z),ae (.int n),ae (.bl b),ae (enc u)] (put S1 l (.lst (xs++[.tup [enc u, .bl b]]))):=λu Z b S1 s1 st=>by
    rw[zaj (s1 _ _ fl),aq];obtain⟨n',_,v'⟩:=st.vb K v;have e:ss.map zbZ++[W.tup [enc u, .bl b]]=(ss++[(u,b)]).map zbZ:=by rw[bD];rfl
    rw[e];have s2:Sub S (put S1 l (.lst ((ss++[(u,b)]).map zbZ))):=λx o ex=>by
     by_cases hx:x=l
     ·subst hx;rw[f0]at ex;cases ex
     ·rw[zaA hx];exact s1 _ _ (sb _ _ ex)
    refine⟨zbM (by omega),hN _ _ _ .refl (s2 _ _ flc) (zlk K L hP hB lB fb hc f0 flc hr hD cs s2 zag ⟨k.w.snoc st,st.sh K.toBk3,by simp;omega,n',?_⟩)⟩
    rw[aS,bK,show 3 - (ss.length+1)=2 - ss.length by omega]
    exact v'
   by_cases hp:n % 2=0
   ·have e2:(n % 2 == 0)=true:=by simp [hp]
    rw[e2]
    try simp only[if_true]
    refine⟨⟨by decide,by decide⟩,?_⟩
    refine ztY K.toBk3 L hP (sb _ _ fb) k.sh hbd.1 hbd.2 (by omega) λu S1 s1 w1 w2 w3=>?_
    try walk_at "wp"
    refine(Two.mk2 K w1 w2 w3 v).ok_made2 (s1 _ _ (sb _ _ fb)) (by omega) ?_
    try walk_at "wp"
    have:=fin u (gol B u) true S1 s1 ⟨w1,w2,w3,rfl⟩;exact⟨by rw[zaj (s1 _ _ fl)];trivial,by decide,this⟩
   ·have e2:(n % 2 == 0)=false:=by simp [hp]
    rw[e2]
    try simp only[er,if_false]
    refine⟨⟨by decide,by decide⟩,?_⟩
    refine zoP K.toBk3 hB lB (sb _ _ fb) k.sh hc hbd.1 hbd.2 (by omega) λu S1 s1 bw=>?_
    try walk_at "wp"
    have vb:=v.back bw;refine(K.ow bw.wy rfl (vb.bd.mono (by have:=bw.ne;omega))).ok_made1 (s1 _ _ (sb _ _ fb)) (by omega) ?_
    try walk_at "wp"
    have:=fin u (src B u) false S1 s1 ⟨bw,rfl⟩;exact⟨by rw[zaj (s1 _ _ fl)];trivial,by decide,this⟩
  ·rw[if_neg (by first |exact hl |simpa using hl)];exact hN _ _ _ .refl (sb _ _ flc) (zlk K L hP hB lB fb hc f0 flc hr hD cs sb fl k)
theorem zkO{lc:Addr}{X:Tr}{cs:List Int}(K:Bk2 ws B) (L:Lft B) (hP:PB B) (hB:B≠ []) (lB:B.length≤1000) (fb:S a=ae (.lst (B.map zba))) (hc:Sh ws B (.nd c [])) (flc:S lc=ae (.lst (cs.map W.int))) (hX:Sh ws B X) (hV:Vb X 0 3) (hr:122≤r)
  (h:∀S' l ss Y,Sub S S'→S' l=ae (.lst (ss.map zbZ))→Wk46 ws B X 3 ss Y→Q (.tup [.ref l,enc Y]) S'):zbS (r+1) [.ref a,enc X, .ref lc, .int 3, .str c] S Q E:=by
 obtain⟨r,rfl⟩:∃r',r=r'+1:=⟨r - 1,by omega⟩
 rw[zbS];walk_at "wp";refine⟨by decide,λl hl=>?_⟩;have s1:Sub S (put S l (.lst [])):= .put .refl hl;rw[zaj (s1 _ _ flc)];refine zlk (X:=X) K L hP hB lB fb hc hl flc (by omega) (λS' ss Y x7 x8 x9 sb fl k=>?_) cs s1 (ss:=[]) (Y:=X) zag ⟨rfl,hX,by simp,0,hV⟩
 walk_at "wp";exact⟨by decide,_, .refl,h S' l ss Y sb fl k⟩
end
section
variable {ws:List Str}{B:List Tn}{S:Sto}{a:Addr}{t:Tr}{r:Nat}{Q:WK}{E:Str→Sto→Prop}
theorem Two.ok_srcV{x y:Tr}(h:Two ws B x y) (ha:S a=ae (.lst (B.map zba))) (hr:60≤r) (q:Q (enc (src B x)) S):zdP (r+1) [.ref a,enc x] S Q E:=by
 obtain⟨p,c,d,k,hc,hd,rfl,rfl⟩:=h.ex;rw[show src B (p.ev B c)=_ from zeC k.b k.o]at q;exact k.ok_source ha hr q
structure Va (ws:List Str) (B:List Tn) (X:Tr) (fs:List Tr) (Y:Tr) (os:List Tr) (n:Nat):Prop where
  f:Roa ws B X fs
  o:Roa ws B Y os
  e:zhq B X fs=zhq B Y os
  no:nR B os≤n
  nf:nR B fs≤fs.length
  ol:os.length≤n
theorem Va.on (K:Bk2 ws B) {X Y x:Tr}{fs os:List Tr}{n k:Nat}(h:Va ws B X fs Y os n) (v:Vb Y n (k+1)) (hx:Wy ws B x) (ex:src B x=Y) (hn:x.ne B≤1):Va ws B X (fs++zdm B [x] os) (gol B x) (zeR B [x] os) n:=by
 have g:=zqh K [x] os (t:=Y) ⟨hx,ex,trivial⟩ h.o (v.bd.mono (by have:=h.no;rw[nR,nR];omega));refine⟨h.f.app fs (by rw[h.e];exact g.down),g.over,?_,aX g.no h.no,?_,by rw[ziC];exact h.ol⟩
 ·rw[zoz,h.e];exact g.go
 ·have:=g.nd;have:=h.nf;rw[zsK,aS,zff];simp only[nR,bK]at *;omega
theorem Va.back{X Y x:Tr}{fs os:List Tr}{n:Nat}(h:Va ws B X fs Y os n) (b:Bw ws B Y x):Va ws B X fs (src B x) (x::os) (n+1):=by
 refine⟨h.f,⟨b.wy,rfl,by rw[b.go];exact h.o⟩,?_,?_,h.nf,?_⟩
 ·rw[zhq,b.go];exact h.e
 ·have:=h.no;have:=b.ne;rw[nR];omega
 ·have:=h.ol;rw[aR];omega
structure VaS (S S':Sto) (X Y:Tr) (fs os:List Tr) (f o:Addr):Prop where
  sb:Sub S S'
  ff:S' f=ae (.lst (fs.map enc))
  fo:S' o=ae (.lst (os.map enc))
  nf:S f=none
  no:S o=none
  ne:f≠o
theorem zwV{EX:WX}{D:WEnds}{GS:Sto→Prop}{rest:List W}{X Y x:Tr}{fs os:List Tr}{f o l:Addr}{S':Sto}{x5 x6 x7 x8 x9 x10:Option W}(fb:S a=ae (.lst (B.map zba))) (hr:66≤r) (h2:Two ws B x Y) (w2:src B x=Y) (hc:Cells ws B [x] os) (ht:∀z∈os,∃y,Two ws B z y) (hbd:Y.weight≤400∧Y.depth≤40) (hol:os.length≤700) (hfl:fs.length≤100) (st:VaS S S' X Y fs os f o) (hG:∀S'',Sub S S''→GS S'')
  (k:∀S'' f' o' x10,VaS S S'' X (gol B x) (fs++zdm B [x] os) (zeR B [x] os) f' o'→forL (wGT (zat (wGN 5) (zat (wGN 6) zbT))) (zcc (r+1) zaR) EX D GS rest [ae (.ref a),ae (enc X),ae (.ref l),ae (.tup [enc X, .ref f']),ae (.tup [enc (gol B x), .ref o']),ae (enc x),ae (.bl true),ae (enc Y),ae (enc (gol B x)),ae (enc Y),x10] S'') :
  forL (wGT (zat (wGN 5) (zat (wGN 6) zbT))) (zcc (r+1) zaR) EX D GS (zbZ (x,true)::rest) [ae (.ref a),ae (enc X),ae (.ref l),ae (.tup [enc X, .ref f]),ae (.tup [enc Y, .ref o]),x5,x6,x7,x8,x9,x10] S':=by
 have fb':=st.sb _ _ fb;refine zbj λN hN=>?_;simp only[zbZ,zcc];walk_at "wp";refine h2.ok_srcV fb' (by omega) ?_;rw[w2];refine h2.ok_goal fb' (by omega) ?_
 try walk_at "wp"
 rw[zef (by omega)]
 try walk_at "wp"
 refine⟨by decide,λl1 hl1=>?_⟩
 try walk_at "wp"
 have s1:Sub S' (put S' l1 (.lst [enc x])):= .put .refl hl1;have f1:put S' l1 (.lst [enc x]) l1=ae (.lst ([x].map enc)):=zag;generalize put S' l1 (.lst [enc x])=S1 at s1 f1⊢;refine⟨by decide,?_⟩;refine ztG (t:=Y) (xs:=[x]) (os:=os) (s1 _ _ fb') f1 (s1 _ _ st.fo) hc (λz hz=>by simp only[bh]at hz;subst hz;exact⟨_,h2⟩) ht hbd.1 hbd.2 (by simp) (by omega) (by omega) λS2 d ov g=>?_
 obtain⟨ds,rs,g1,g2,g3,g4⟩:=g.ex;obtain⟨pl,el⟩:=zko (B:=B) [x] os;rw[el]at g4;obtain⟨pre,ρ,rfl,Aρ⟩:=zhs g4;rw[bD]at g2;have s2:Sub S' S2:=s1.trans g.sub
 try walk_at "wp"
 rw[show atI [enc X,W.ref f] 1=ae (.ref f) from rfl]
 try walk_at "wp"
 refine zjz (xs:=[x]) (os:=os) g1 (by simp) g3 λq hq=>?_;have s3:Sub S2 (put S2 q (.lst ((zdm B [x] os).map enc))):= .put .refl hq;have fq:put S2 q (.lst ((zdm B [x] os).map enc)) q=ae (.lst ((zdm B [x] os).map enc)):=zag;generalize put S2 q (.lst ((zdm B [x] os).map enc))=S3 at s3 fq⊢
 try walk_at "wp"
 rw[zaj (s3 _ _ (s2 _ _ st.ff)),zaj fq];have ld:=zff (B:=B) [x] os;refine⟨zal (by simp only[aq,ld,bK];omega),λf' hf'=>?_⟩;rw[←bD];have s4:Sub S3 (put S3 f' (.lst ((fs++zdm B [x] os).map enc))):= .put .refl hf';have ff':put S3 f' (.lst ((fs++zdm B [x] os).map enc)) f'=ae (.lst ((fs++zdm B [x] os).map enc)):=zag;have sS:Sub S S3:=st.sb.trans (s2.trans s3);have nf':S f'=none:=zfe sS hf';have hρ3:S3 ρ=ae (.lst ((zeR B [x] os).map enc)):=s3 _ _ Aρ.e;have nρ:S ρ=none:=zfe (st.sb.trans s1) Aρ.z;have nef:f'≠ρ:=by rintro rfl;rw[hρ3]at hf';cases hf'
 generalize put S3 f' (.lst ((fs++zdm B [x] os).map enc))=S4 at s4 ff'⊢
 try walk_at "wp"
 rw[show atI [W.ref d,W.ref ov] 1=ae (.ref ov) from rfl]
 try walk_at "wp"
 rw[zaj (s4 _ _ (s3 _ _ g2)),show [ρ].map W.ref=[W.ref ρ] from rfl,zlx]
 try walk_at "wp"
 have sub4:Sub S S4:=sS.trans s4;have cells:VaS S S4 X (gol B x) (fs++zdm B [x] os) (zeR B [x] os) f' ρ:=⟨sub4,ff',s4 _ _ hρ3,nf',nρ,nef⟩;have go:=k S4 f' ρ (ae (.tup [.ref d, .ref ov])) cells
 first |exact⟨by decide,by decide,hN _ _ _ .refl (hG _ sub4) go⟩ |exact⟨by decide,hN _ _ _ .refl (hG _ sub4) go⟩ |exact hN _ _ _ .refl (hG _ sub4) go
theorem zxk{EX:WX}{D:WEnds}{GS:Sto→Prop}{rest:List W}{X Y x:Tr}{fs os:List Tr}{f o l:Addr}{S':Sto}{x5 x6 x7 x8 x9 x10:Option W}(fb:S a=ae (.lst (B.map zba))) (hr:66≤r) (h2:Two ws B x (src B x)) (w2:gol B x=Y) (hbd:Y.weight≤400∧Y.depth≤40) (hol:os.length≤700) (st:VaS S S' X Y fs os f o) (hG:∀S'',Sub S S''→GS S'')
  (k:∀S'' o',VaS S S'' X (src B x) fs (x::os) f o'→forL (wGT (zat (wGN 5) (zat (wGN 6) zbT))) (zcc (r+1) zaR) EX D GS rest [ae (.ref a),ae (enc X),ae (.ref l),ae (.tup [enc X, .ref f]),ae (.tup [enc (src B x), .ref o']),ae (enc x),ae (.bl false),ae (enc (src B x)),ae (enc Y),ae (enc Y),x10] S'') :
  forL (wGT (zat (wGN 5) (zat (wGN 6) zbT))) (zcc (r+1) zaR) EX D GS (zbZ (x,false)::rest) [ae (.ref a),ae (enc X),ae (.ref l),ae (.tup [enc X, .ref f]),ae (.tup [enc Y, .ref o]),x5,x6,x7,x8,x9,x10] S':=by
 have fb':=st.sb _ _ fb;refine zbj λN hN=>?_;simp only[zbZ,zcc];walk_at "wp";refine h2.ok_srcV fb' (by omega) ?_;refine h2.ok_goal fb' (by omega) ?_;rw[w2]
 try walk_at "wp"
 rw[zef (by omega)]
 try walk_at "wp"
 rw[show atI [enc Y,W.ref o] 1=ae (.ref o) from rfl]
 try walk_at "wp"
 rw[zaj st.fo]
 try simp only[aq]
 refine⟨by decide,zal (by first |omega | (simp only[aR,c5,aq];omega)),λo' ho'=>?_⟩;have s1:Sub S' (put S' o' (.lst ((x::os).map enc))):= .put .refl ho';have fo':put S' o' (.lst ((x::os).map enc)) o'=ae (.lst ((x::os).map enc)):=zag;have no':S o'=none:=zfe st.sb ho';have nef:f≠o':=by rintro rfl;rw[st.ff]at ho';cases ho'
 try rw[show [enc x]++os.map enc=(x::os).map enc from rfl]
 try rw[show enc x::os.map enc=(x::os).map enc from rfl]
 generalize put S' o' (.lst ((x::os).map enc))=S1 at s1 fo'⊢
 try walk_at "wp"
 have sub1:Sub S S1:=st.sb.trans s1;have cells:VaS S S1 X (src B x) fs (x::os) f o':=⟨sub1,s1 _ _ st.ff,fo',st.nf,no',nef⟩;have go:=k S1 o' cells
 first |exact⟨by decide,by decide,hN _ _ _ .refl (hG _ sub1) go⟩ |exact⟨by decide,hN _ _ _ .refl (hG _ sub1) go⟩ |exact hN _ _ _ .refl (hG _ sub1) go
theorem zlf{EX:WX}{D:WEnds}{l:Addr}{X Z:Tr}{ss0:List (Tr×Bool)}(K:Bk2 ws B) (fb:S a=ae (.lst (B.map zba))) (fl:S l=ae (.lst (ss0.map zbZ))) (hr:66≤r):∀(ss:List (Tr×Bool)) {S':Sto}{fs os:List Tr}{Y:Tr}{n:Nat}{f o:Addr}{x5 x6 x7 x8 x9 x10:Option W},
  Wnd ws B Y ss Z→Vb Y n ss.length→Va ws B X fs Y os n→VaS S S' X Y fs os f o→fs.length+ss.length≤100→
  (∀S' fs' os' n' f o x5 x6 x7 x8 x9 x10,VaS S S' X Z fs' os' f o→Va ws B X fs' Z os' n'→Vb Z n' 0→fs'.length=fs.length+ss.countP (·.2)→os'.length+ss.countP (·.2)=os.length+ss.length→D.nx [ae (.ref a),ae (enc X),ae (.ref l),ae (.tup [enc X, .ref f]),ae (.tup [enc Z, .ref o]),x5,x6,x7,x8,x9,x10] S')→
  forL (wGT (zat (wGN 5) (zat (wGN 6) zbT))) (zcc (r+1) zaR) EX D (λS'=>S' l=ae (.lst (ss0.map zbZ))) (ss.map zbZ) [ae (.ref a),ae (enc X),ae (.ref l),ae (.tup [enc X, .ref f]),ae (.tup [enc Y, .ref o]),x5,x6,x7,x8,x9,x10] S'
 | [],S',fs,os,Y,n,f,o,x5,x6,x7,x8,x9,x10,hW,v,V,st,hl,hD=>by
  cases hW;exact hD S' fs os n f o x5 x6 x7 x8 x9 x10 st V v rfl rfl
 | (x,true)::ss,S',fs,os,Y,n,f,o,x5,x6,x7,x8,x9,x10,⟨Y',⟨w1,w2,w3,w4⟩,hW⟩,v,V,st,hl,hD=>by
  subst w4;rw[aR]at v hl;have h2:=Two.mk2 K w1 w2 w3 v;have hbd:=v.bd.small;have bY:Bd Y (n+(ss.length+1)):=v.bd;have hn13:n≤13:=by have:=v.d;omega
  have hol:=V.ol;have ld:=zff (B:=B) [x] os;rw[aA];refine zwV fb hr h2 w2 (zmw K [x] os (t:=Y) ⟨w1,w2,trivial⟩ V.o (bY.mono (by have:=V.no;rw[nR,nR];omega))) (Roa.two K os V.o (bY.mono (by have:=V.no;omega))) hbd (by omega) (by omega) st (λS'' s=>s _ _ fl) λS'' f' o' x10' cells=>?_;exact zlf (Z:=Z) K fb fl hr ss hW (v.on K w1 w2 w3) (V.on K v w1 w2 w3) cells (by rw[aS,ld,bK];omega) λS' fs' os' n' f o x5 x6 x7 x8 x9 x10 a1 a2 a3 a4 a5=>hD S' fs' os' n' f o x5 x6 x7 x8 x9 x10 a1 a2 a3 (by rw[a4,aS,ld,bK,iH rfl];omega) (by rw[ziC]at a5;rw[iH rfl,aR];omega)
 | (x,false)::ss,S',fs,os,Y,n,f,o,x5,x6,x7,x8,x9,x10,⟨Y',⟨b,w4⟩,hW⟩,v,V,st,hl,hD=>by
  subst w4;rw[aR]at v hl;have vb:=v.back b;have h2:Two ws B x (src B x):=K.ow b.wy rfl (vb.bd.mono (by have:=b.ne;omega));have hbd:=v.bd.small;have hn13:n≤13:=by have:=v.d;omega
  have hol:=V.ol;rw[aA];refine zxk fb hr h2 b.go hbd (by omega) st (λS'' s=>s _ _ fl) λS'' o' cells=>?_;exact zlf (Z:=Z) K fb fl hr ss hW vb (V.back b) cells (by omega) λS' fs' os' n' f o x5 x6 x7 x8 x9 x10 a1 a2 a3 a4 a5=>hD S' fs' os' n' f o x5 x6 x7 x8 x9 x10 a1 a2 a3 (by rw[a4,ju (by simp)]) (by rw[aR]at a5;rw[ju (by simp),aR];omega)
theorem zjS{l:Addr}{X Z:Tr}{ss:List (Tr×Bool)}(K:Bk2 ws B) (fb:S a=ae (.lst (B.map zba))) (fl:S l=ae (.lst (ss.map zbZ))) (hW:Wnd ws B X ss Z) (v:Vb X 0 ss.length) (hr:67≤r)
  (h:∀S' fs os n f o,VaS S S' X Z fs os f o→Va ws B X fs Z os n→Vb Z n 0→fs.length=ss.countP (·.2)→os.length+ss.countP (·.2)=ss.length→Q (.tup [.tup [enc X, .ref f], .tup [enc Z, .ref o]]) S'):zem (r+1) [.ref a,enc X, .ref l] S Q E:=by
 obtain⟨r,rfl⟩:∃r',r=r'+1:=⟨r - 1,by omega⟩
 have h6:ss.length≤6:=by have:=v.d;omega
 rw[zem];walk_at "wp";refine⟨by decide,λf hf=>⟨by decide,?_⟩⟩
 try walk_at "wp"
 refine⟨by decide,λo ho=>⟨by decide,?_⟩⟩;have hfo:f≠o:=by rintro rfl;rw[zag]at ho;cases ho
 have so:S o=none:=by rw[zaA hfo.symm]at ho;exact ho
 have s1:Sub S (put (put S f (.lst [])) o (.lst [])):=(Sub.put .refl hf).trans (.put .refl ho);have ff:put (put S f (.lst [])) o (.lst []) f=ae (.lst (([]:List Tr).map enc)):=by rw[zaA hfo,zag];rfl
 have fo:put (put S f (.lst [])) o (.lst []) o=ae (.lst (([]:List Tr).map enc)):=zag;generalize put (put S f (.lst [])) o (.lst [])=S1 at s1 ff fo⊢
 try walk_at "wp"
 rw[zaj (s1 _ _ fl)];refine zlf (fs:=[]) (os:=[]) K fb fl (by omega) ss hW v ⟨trivial,trivial,rfl,au _,au _,au _⟩ ⟨s1,ff,fo,hf,so,hfo⟩ (by simp;omega) λS' fs os n f o x5 x6 x7 x8 x9 x10 a1 a2 a3 a4 a5=>?_
 try walk_at "wp"
 exact⟨by decide,_, .refl,h S' fs os n f o a1 a2 a3 (by simpa using a4) (by simpa using a5)⟩
end
section
variable {ws:List Str}{B:List Tn}{x y:Tr}
theorem Two.d1 (h:Two ws B x y):x.depth≤40∧(src B x).depth≤40∧(gol B x).depth≤40:=by
 obtain⟨p,c,d,k,hc,hd,rfl,rfl⟩:=h.ex;refine⟨k.dp,?_,?_⟩
 ·rw[show src B (p.ev B c)=_ from zeC k.b k.o];exact k.dp
 ·rw[show gol B (p.ev B c)=_ from zdg k.b k.o];exact k.dp
end
section
variable {ws:List Str}{B:List Tn}{S:Sto}{a:Addr}{r:Nat}{Q:WK}{E:Str→Sto→Prop}
theorem Stp.dp (K:Bk2 ws B) {X Y:Tr}{x:Tr×Bool}{n k:Nat}(h:Stp ws B X x Y) (v:Vb X n (k+1)):x.1.depth≤40:=by
 obtain⟨x,b⟩:=x;cases b with
 |true=>
  obtain⟨h1,h2,h3,rfl⟩:=h;exact(Two.mk2 K h1 h2 h3 v).d1.1
 |false=>
  obtain⟨h1,rfl⟩:=h;exact(K.ow h1.wy rfl ((v.back h1).bd.mono (by have:=h1.ne;omega))).d1.1
theorem Wnd.dp (K:Bk2 ws B):∀{ss:List (Tr×Bool)}{X Y:Tr}{n k:Nat},Wnd ws B X ss Y→Vb X n k→ss.length≤k→ ∀x∈ss,x.1.depth≤40
 | [],X,Y,n,k,_,_,_,x,hx=>by cases hx
 |y::ss,X,Y,n,0,⟨Z,h1,h2⟩,v,hl,x,hx=>by simp at hl
 |y::ss,X,Y,n,k+1,⟨Z,h1,h2⟩,v,hl,x,hx=>by
  rcases az.mp hx with rfl |hx
  ·exact h1.dp K v
  ·obtain⟨n',_,v'⟩:=h1.vb K v;exact h2.dp K v' (by simpa using hl) x hx
theorem ztX{n:Nat}{x:Tr×Bool}(h:x.1.depth≤n):eqF S (n+2) (zbZ x) (zbZ x)=ae true:=by
 obtain⟨x,b⟩:=x;show zed (eqF S (n+1)) [enc x, .bl b] [enc x, .bl b]=ae true;have e1:=zrl (S:=S) (n+1) x x (by simp only at h;omega);rw[zkk]at e1;have e2:eqF S (n+1) (.bl b) (.bl b)=ae (b == b):=rfl;simp only[zed,e1,e2,beq_self_eq_true];rfl
theorem zmK{n:Nat}:∀{ss:List (Tr×Bool)},(∀x∈ss,x.1.depth≤n)→zed (eqF S (n+2)) (ss.map zbZ) (ss.map zbZ)=ae true
 | [],_=>rfl
 |x::ss,h=>by
  rw[aA];simp only[zed,ztX (h x a0),zmK λy hy=>h y (aK _ hy)];rfl
theorem zrX{a b:Addr}{ss:List (Tr×Bool)}(ha:S a=ae (.lst (ss.map zbZ))) (hb:S b=ae (.lst (ss.map zbZ))) (h:∀x∈ss,x.1.depth≤40):eqF S 60 (.ref a) (.ref b)=ae true:=by
 show(match S a with
  |some (.lst xs)=>match S b with
   |some (.lst ys)=>zed (eqF S 59) xs ys
   |_=>none
  |_=>none)=ae true
 rw[ha,hb];exact zmK (n:=57) λx hx=>by have:=h x hx;omega
theorem zux{T:Tr}:oIs false (enc T) .non S Q=Q (.bl false) S:=by
 cases T with
 |bl n=>simp only[enc,zqa]
 |nd s ts=>simp only[enc,zoO]
theorem zhf{l:Addr}{X Z:Tr}{ss:List (Tr×Bool)}{fs os:List Tr}{n:Nat}{f o:Addr}(K:Bk2 ws B) (fb:S a=ae (.lst (B.map zba))) (fl:S l=ae (.lst (ss.map zbZ))) (ff:S f=ae (.lst (fs.map enc))) (fo:S o=ae (.lst (os.map enc))) (V:Va ws B X fs Z os n) (v:Vb Z n 0) (vX:Bd X 3) (hl:ss.length≤3) (e1:fs.length=ss.countP (·.2)) (e2:os.length+ss.countP (·.2)=ss.length) (hr:66≤r) (h:Q (.bl true) S):zbI (r+1) [.ref a,enc X, .ref l,enc Z, .tup [.tup [enc X, .ref f], .tup [enc Z, .ref o]]] S Q E:=by
 obtain⟨r,rfl⟩:∃r',r=r'+1:=⟨r - 1,by omega⟩
 have hc:ss.countP (·.2)≤ss.length:=iS;have bX:Bd X (nR B fs):=vX.mono (by have:=V.nf;omega);have bZ:Bd Z (nR B os):=v.bd.mono (by have:=V.no;omega);have dX:=bX.small;have dZ:=bZ.small;have dE:=(Roa.end_bd K fs (n:=0) V.f (by rw[eU];exact bX)).small;rw[zbI];walk_at "wp";rw[show atI [W.tup [enc X, .ref f],W.tup [enc Z, .ref o]] 1=ae (.tup [enc Z, .ref o]) from rfl]
 try walk_at "wp"
 refine zkG K fb ff V.f (by omega) bX (by omega) ?_
 try walk_at "wp"
 rw[zux]
 try walk_at "wp"
 refine zkG K fb fo V.o (by omega) bZ (by omega) ?_;rw[←V.e,zef (by omega)]
 try walk_at "wp"
 rw[zef (by omega)]
 try walk_at "wp"
 rw[zef (by omega)]
 try walk_at "wp"
 rw[zaj fl];refine zfw (λσ=>∃x,σ=[x]) zbZ zbZ (λx=>x.2) ?_ ss [] _ ⟨none,rfl⟩ (by rw[c5];omega) (λx hx σ R1 R0 hI h1 h0=>?_) ?_
 ·exact fl
 ·obtain⟨y,rfl⟩:=hI;obtain⟨x,b⟩:=x;simp only[zbZ,zdX];walk_at "wp";rw[show atI [enc x,W.bl b] 1=ae (.bl b) from rfl];cases b with
  |true=>
   try walk_at "wp"
   exact h1 rfl _ _ ⟨_,rfl⟩ .refl
  |false=>
   try walk_at "wp"
   exact h0 rfl _ _ ⟨_,rfl⟩ .refl
 ·intro g hg;rw[a9];have s1:Sub S (put S g (.lst ((ss.filter λx=>x.2).map zbZ))):= .put .refl hg
  try walk_at "wp"
  rw[show atI [enc X,W.ref f] 1=ae (.ref f) from rfl]
  try walk_at "wp"
  rw[zaj (s1 _ _ ff)];have ec:((ss.filter λx=>x.2).map zbZ).length=ss.countP (·.2):=by rw[aq,List.countP_eq_length_filter]
  have q1:((fs.length:Int) == ((ss.countP (·.2):Nat):Int))=true:=by simp [e1]
  have q2:((os.length:Int) == ((ss.length:Nat):Int) - ((ss.countP (·.2):Nat):Int))=true:=by simp;omega
  simp only[ec,aq,q1];rw[show atI [enc Z,W.ref o] 1=ae (.ref o) from rfl]
  try walk_at "wp"
  simp only[zaj (s1 _ _ fo),zaj (s1 _ _ fl),aq]
  try walk_at "wp"
  simp only[q2];exact⟨_,s1,h⟩
end
section
variable {w0 w1 w2 w3 w4 w5:Str}{tt:List Str}{B:List Tn}{S:Sto}{aw at' ab ac:Addr}{cs:List Int}{Q:WK}{X:Str→Sto→Prop}
theorem Pre.ok_shape46{Y:Str→Sto→Prop}{v8:Int}(h8:v8=8) (P:Pre S aw at' ab w0 w1 w2 w3 w4 w5 tt B) (hc:S ac=ae (.lst (cs.map W.int)))
  (h:∀(t:Tr) (S':Sto),Sub S S'→Sh [w0,w1,w2,w3,w4,w5] B t→Vb t 0 3→Q (enc t) S'):zcE 199 [.ref ac, .ref ab, .ref aw, .int 4] S (λv S1=>zcD 199 [v, .ref ab, .int v8] S1 Q Y) X:=by
 subst h8;refine L2.zrx (r:=189) (m:=4) (by decide) hc P.fb P.fw P.bk P.ne λp v S' sub pa po pw pn=>?_;have K:=P.bk2;have po2:PlOk [w0,w1,w2,w3,w4,w5] B p:=po.sub λx hx=>aK _ (aK _ hx);have hdp:=zne p;refine L2.ztd (r:=198) (by decide) (sub _ _ P.fb) P.bk 23 (by omega) (by omega) pa po (by omega) ?_;have e:p.ev B (byC 8)=p.ev B zr:=zfV po λx h0 h1=>(zAy x h0 h1).symm;rw[e];have hw:=zqg P.bk po;have hd:=zgp (p.ev B zr);refine h _ S' sub ⟨K.wy po2,?_⟩ ⟨by simp only[b8];omega,by omega⟩
 show(p.ev B zr).mk B (λt=>t.2.1)=_;rw[zeC K.b po2];rfl
theorem Pre.leaf (P:Pre S aw at' ab w0 w1 w2 w3 w4 w5 tt B):Sh [w0,w1,w2,w3,w4,w5] B (.nd w2 []):=by
 have K:=P.bk2;have e:zaZ B w2=none:=zbe K.b.ti (K.b.sg w2 (by simp));refine⟨⟨?_,?_⟩,?_⟩
 ·rw[Tr.hd,hds_iff];exact⟨.inl (by simp),λ_ z=>nomatch z⟩
 ·rw[Tr.ar,ars_iff];exact⟨λt' e'=>(by rw[e]at e';cases e'),λ_ z=>nomatch z⟩
 ·rw[show src B (.nd w2 [])=_ from zej e];rfl
end
section
variable {w0 w1 w2 w3 w4 w5:Str}{tt:List Str}{B:List Tn}{S:Sto}{aw at' ab l l2 f o q:Addr}{ns:List Int}{X Z:Tr}{ss:List (Tr×Bool)}{fs os:List Tr}{n:Nat}{E:WX}{D:WEnds}{T:WS}{y0 y1 y2 y3 y4 y5 y6 y7 y8 y9:Option W}
theorem zyW (P:Pre S aw at' ab w0 w1 w2 w3 w4 w5 tt B) (h:∀S' X,Pre S' aw at' ab w0 w1 w2 w3 w4 w5 tt B→Sh [w0,w1,w2,w3,w4,w5] B X→Vb X 0 3→T E D [ae (.scr ns),ae (.ref aw),ae (.ref at'),ae (.ref ab),ae (enc X),y5,y6,y7,y8,y9] S') :
  zdO 199 T E D [ae (.scr ns),ae (.ref aw),ae (.ref at'),ae (.ref ab),y4,y5,y6,y7,y8,y9] S:=by
 rw[zdO];walk_at "wp";intro ac hc;exact(P.sub (.put .refl hc)).ok_shape46 rfl zag λt S' sb sh bd=>h S' t (P.sub ((Sub.put .refl hc).trans sb)) sh bd
structure Q46 (S:Sto) (w0 w1 w2 w3 w4 w5:Str) (B:List Tn) (ab l:Addr) (X Z:Tr) (ss:List (Tr×Bool)):Prop where
  K:Bk2 [w0,w1,w2,w3,w4,w5] B
  fb:S ab=ae (.lst (B.map zba))
  fl:S l=ae (.lst (ss.map zbZ))
  w:Wnd [w0,w1,w2,w3,w4,w5] B X ss Z
  v:Vb X 0 3
  n:ss.length≤3
theorem Q46.sub{S':Sto}(k:Q46 S w0 w1 w2 w3 w4 w5 B ab l X Z ss) (s:Sub S S'):Q46 S' w0 w1 w2 w3 w4 w5 B ab l X Z ss:=⟨k.K,s _ _ k.fb,s _ _ k.fl,k.w,k.v,k.n⟩
theorem Vb.less{X:Tr}{n k m:Nat}(h:Vb X n k) (hm:m≤k):Vb X n m:=by
 have h1:=h.w;have h2:=h.d;refine⟨aX (Nat.mul_le_mul (cV (by decide) (by omega)) (by omega)) h1,by omega⟩
theorem zyY (P:Pre S aw at' ab w0 w1 w2 w3 w4 w5 tt B) (hX:Sh [w0,w1,w2,w3,w4,w5] B X) (hV:Vb X 0 3) (h:∀S' l Z ss,Q46 S' w0 w1 w2 w3 w4 w5 B ab l X Z ss→T E D [ae (.scr ns),ae (.ref aw),ae (.ref at'),ae (.ref ab),ae (enc X),ae (.ref l),ae (enc Z),y7,y8,y9] S') :
  zdM 199 T E D [ae (.scr ns),ae (.ref aw),ae (.ref at'),ae (.ref ab),ae (enc X),y5,y6,y7,y8,y9] S:=by
 rw[zdM];walk_at "wp";intro p hp;have s1:Sub S (put S p (.lst ((zeo ns (ae 10) (ae 13)).map W.int))):= .put .refl hp;rw[zaj (s1 _ _ P.fw)];rw[show atI (six w0 w1 w2 w3 w4 w5) 2=ae (.str w2) from rfl];have hB:=P.b.len;refine zkO (r:=198) P.bk2 P.lft P.pb P.ne (by omega) (s1 _ _ P.fb) P.leaf zag hX hV (by omega) λS' l ss Z sb fl k=>?_
 try walk_at "wp"
 exact h S' l Z ss ⟨P.bk2,sb _ _ (s1 _ _ P.fb),fl,k.w,hV,k.l⟩
theorem zzg (k:Q46 S w0 w1 w2 w3 w4 w5 B ab l X Z ss) (h:∀S' l2,Q46 S' w0 w1 w2 w3 w4 w5 B ab l X Z ss→S' l2=ae (.lst (ss.map zbZ))→T E D [y0,y1,y2,ae (.ref ab),ae (enc X),ae (.ref l),ae (enc Z),ae (.ref l2),y8,y9] S') :
  zdQ 199 T E D [y0,y1,y2,ae (.ref ab),ae (enc X),ae (.ref l),ae (enc Z),y7,y8,y9] S:=by
 rw[zdQ];walk_at "wp";rw[zaj k.fl];have:=k.n
 first
  |exact⟨zal (by rw[aq];omega),λl2 h2=>h _ l2 (k.sub (.put .refl h2)) zag⟩
  |exact⟨by rw[aq];omega,λl2 h2=>h _ l2 (k.sub (.put .refl h2)) zag⟩
  |exact λl2 h2=>h _ l2 (k.sub (.put .refl h2)) zag
theorem zye (k:Q46 S w0 w1 w2 w3 w4 w5 B ab l X Z ss) (f2:S l2=ae (.lst (ss.map zbZ))) (h:∀S' fs os n f o,Q46 S' w0 w1 w2 w3 w4 w5 B ab l X Z ss→S' l2=ae (.lst (ss.map zbZ))→VaS S S' X Z fs os f o→Va [w0,w1,w2,w3,w4,w5] B X fs Z os n→Vb Z n 0→fs.length=ss.countP (·.2)→os.length+ss.countP (·.2)=ss.length→T E D [y0,y1,y2,ae (.ref ab),ae (enc X),ae (.ref l),ae (enc Z),ae (.ref l2),ae (.tup [.tup [enc X, .ref f], .tup [enc Z, .ref o]]),y9] S') :
  zdL 199 T E D [y0,y1,y2,ae (.ref ab),ae (enc X),ae (.ref l),ae (enc Z),ae (.ref l2),y8,y9] S:=by
 rw[zdL];walk_at "wp";exact zjS (r:=198) k.K k.fb f2 k.w (k.v.less k.n) (by omega) λS' fs os n f o a1 a2 a3 a4 a5=>h S' fs os n f o (k.sub a1.sb) (a1.sb _ _ f2) a1 a2 a3 a4 a5
theorem zyj (k:Q46 S w0 w1 w2 w3 w4 w5 B ab l X Z ss) (f2:S l2=ae (.lst (ss.map zbZ))) (ff:S f=ae (.lst (fs.map enc))) (fo:S o=ae (.lst (os.map enc))) (V:Va [w0,w1,w2,w3,w4,w5] B X fs Z os n) (v:Vb Z n 0) (e1:fs.length=ss.countP (·.2)) (e2:os.length+ss.countP (·.2)=ss.length) (h:T E D [y0,y1,y2,ae (.ref ab),ae (enc X),ae (.ref l),ae (enc Z),ae (.ref l2),ae (.tup [.tup [enc X, .ref f], .tup [enc Z, .ref o]]),y9] S) :
  zdN 199 T E D [y0,y1,y2,ae (.ref ab),ae (enc X),ae (.ref l),ae (enc Z),ae (.ref l2),ae (.tup [.tup [enc X, .ref f], .tup [enc Z, .ref o]]),y9] S:=by
 rw[zdN];walk_at "wp";rw[zrX f2 k.fl (k.w.dp k.K k.v k.n)]
 try walk_at "wp"
 refine zhf (r:=198) k.K k.fb k.fl ff fo V v (k.v.bd.mono (by omega)) k.n e1 e2 (by omega) ?_
 try walk_at "wp"
 exact h
theorem zzu (k:Q46 S w0 w1 w2 w3 w4 w5 B ab l X Z ss) (ff:S f=ae (.lst (fs.map enc))) (fo:S o=ae (.lst (os.map enc))) (ol:os.length≤3) (h:∀S' q,Q46 S' w0 w1 w2 w3 w4 w5 B ab l X Z ss→Sub S S'→S q=none→S' q=ae (.lst (os.map enc))→T E D [y0,y1,y2,ae (.ref ab),ae (enc X),ae (.ref l),ae (enc Z),y7,ae (.tup [.tup [enc X, .ref f], .tup [enc Z, .ref o]]),ae (.ref q)] S') :
  zdH 199 T E D [y0,y1,y2,ae (.ref ab),ae (enc X),ae (.ref l),ae (enc Z),y7,ae (.tup [.tup [enc X, .ref f], .tup [enc Z, .ref o]]),y9] S:=by
 rw[zdH];walk_at "wp";rw[show atI [W.tup [enc X, .ref f],W.tup [enc Z, .ref o]] 1=ae (.tup [enc Z, .ref o]) from rfl]
 try walk_at "wp"
 rw[show atI [enc Z,W.ref o] 1=ae (.ref o) from rfl]
 try walk_at "wp"
 rw[zaj fo]
 first
  |exact⟨zal (by rw[aq];omega),λl2 h2=>h _ l2 (k.sub (.put .refl h2)) (.put .refl h2) h2 zag⟩
  |exact⟨by rw[aq];omega,λl2 h2=>h _ l2 (k.sub (.put .refl h2)) (.put .refl h2) h2 zag⟩
  |exact λl2 h2=>h _ l2 (k.sub (.put .refl h2)) (.put .refl h2) h2 zag
theorem zxs (ff:S f=ae (.lst (fs.map enc))) (fl:fs.length≤3) (h:T E D [y0,y1,y2,y3,ae (enc X),y5,y6,y7,ae (.tup [.tup [enc X, .ref f], .tup [enc Z, .ref o]]),y9] (put S f (.lst (fs.map enc++[enc X])))) :
  zds 199 T E D [y0,y1,y2,y3,ae (enc X),y5,y6,y7,ae (.tup [.tup [enc X, .ref f], .tup [enc Z, .ref o]]),y9] S:=by
 rw[zds];walk_at "wp";rw[show atI [enc X,W.ref f] 1=ae (.ref f) from rfl]
 try walk_at "wp"
 rw[zaj ff,zaj ff];exact⟨trivial,zbM (by rw[aq];omega),h⟩
theorem zxR (fo:S o=ae (.lst (os.map enc))) (fq:S q=ae (.lst (os.map enc))) (hd:∀x∈os,x.depth≤40) (h:T E D [y0,y1,y2,y3,y4,y5,y6,y7,ae (.tup [.tup [enc X, .ref f], .tup [enc Z, .ref o]]),ae (.ref q)] S) :
  zdr 199 T E D [y0,y1,y2,y3,y4,y5,y6,y7,ae (.tup [.tup [enc X, .ref f], .tup [enc Z, .ref o]]),ae (.ref q)] S:=by
 rw[zdr];walk_at "wp";rw[show atI [W.tup [enc X, .ref f],W.tup [enc Z, .ref o]] 1=ae (.tup [enc Z, .ref o]) from rfl]
 try walk_at "wp"
 rw[show atI [enc Z,W.ref o] 1=ae (.ref o) from rfl]
 try walk_at "wp"
 have e:eqF S 60 (.ref o) (.ref q)=ae true:=by
  have fo':S o=ae (.lst (encs os)):=by rw[fo,zaw]
  have fq':S q=ae (.lst (encs os)):=by rw[fq,zaw]
  have:=ztF (n:=59) fo' fq' (show dts os<59 by have:=zij (k:=40) hd;omega)
  rw[znw]at this;exact this
 rw[e]
 try walk_at "wp"
 exact h
end
theorem zwF (ns:List Int) (hl:ns.length≤63):zdB 200 [.scr ns] (λ_=>none) (λw _=>w= .bl true) (λ_ _=>False):=by
 rw[show(200:Nat)=199+1 from rfl,zdB,zgP];refine⟨rfl,?_⟩;rw[zeP,zeL,zeQ];refine ztA λS1 aw at' ab w0 w1 w2 w3 w4 w5 tt B P=>zyW P λS2 X P hX hV=>zyY P hX hV λS3 l Z ss k=>zzg k λS4 l2 k f2=>zye k f2 λS5 fs os n f o k' f2' a1 V v e1 e2=>?_;have hn:=k.n;have hc:ss.countP (·.2)≤ss.length:=iS;refine zyj k' f2' a1.ff a1.fo V v e1 e2 (zzu k' a1.ff a1.fo (by omega) λS6 q k6 s6 q0 fq=>zxs (s6 _ _ a1.ff) (by omega) ?_);have nf6:∀x,S4 x≠none→x≠f:=λx hx z=>hx (by rw[z];exact a1.nf);have sub:Sub S4 (put S6 f (.lst (fs.map enc++[enc X]))):=λx ob e=>by
  rw[zaA (nf6 x (by rw[e];simp))];exact s6 _ _ (a1.sb _ _ e)
 have of:o≠f:=λz=>a1.ne z.symm;have qf:q≠f:=by rintro rfl;rw[a1.ff]at q0;cases q0
 refine zxR (by rw[zaA of];exact s6 _ _ a1.fo) (by rw[zaA qf];exact fq) (λx hx=>?_) ?_
 ·obtain⟨y,h2⟩:=Roa.two k.K os V.o (v.bd.mono (by have:=V.no;omega)) x hx;exact h2.d1.1
 ·have k7:=k.sub sub;rw[zec];walk_at "wp";refine zjS (r:=198) k7.K k7.fb k7.fl k7.w (k7.v.less k7.n) (by omega) λS' fs os n f o a1 a2 a3 a4 a5=>?_
  try walk_at "wp"
  refine zhf (r:=198) k7.K (a1.sb _ _ k7.fb) (a1.sb _ _ k7.fl) a1.ff a1.fo a2 a3 (k7.v.bd.mono (by omega)) k7.n a4 a5 (by omega) ?_
  first |exact⟨_, .refl,rfl⟩ |exact⟨_, .refl⟩
end L2
end
end
section
namespace K46
open PySem L2 PyProof.Rows
noncomputable def top (i:Nat):Stmt:=PySem.Challenge.pw_turnweave_k46_valleys.main.body.getD i (.Pass ⟨0,0,0,0⟩)
structure Cal (P:aE) (w:aB) (K:aj) (mg:Str→Option Value) (base:Heap) (nm:Str) (ps:List Str) (c:Nat→WSp) where
  zf:Addr
  zd:bC
  zg:∀r,FnOk P w K mg base (CX1 P w) r zf zd ps (zda K (c r))
  zb:Binds K zd ps []
  zk:eI K (.ref zf)=true
  zm:mg nm=ae (.ref zf)
noncomputable def mkC {P:aE}{w:aB}{K:aj}{h:Heap}{mg:Str→Option Value}{base:Heap}{nm:Str}{st:Stmt}{ps:List Str}{c:Nat→WSp}{f:Addr}{d:bC}(X:K.In h) (G:h.Ns aL mg) (F:Fun K nm nm st f d) (a:aZ K aL nm=ae (ae (.ref f))) (g:∀r,FnOk P w K mg base (CX1 P w) r f d ps (zda K (c r))) (b:Binds K d ps []):Cal P w K mg base nm ps c:=⟨f,d,g,b,F.kp,bb X G a⟩
def Dfn (K:aj) (nm:Str) (st:Stmt):Prop:=∃f d,aZ K aL nm=ae (ae (.ref f))∧Fun K nm nm st f d
theorem dfn{K:aj}{x:Str}{st:Stmt}{f:Addr}{oc:Value}{od an:Option Addr}{osl:Array (Option Value)}{kV doc pm cdv ct:Value}(a:aZ K aL x=ae (ae (.ref f))) (l:K.lookup f=ae ⟨oc,od, .func (dA x x (zhk st) (zfR st) (zak st) .none kV doc pm an cdv ct),osl⟩) (c:f9 K cdv x=true) (k:eI K (.ref f)=true):Dfn K x st:=⟨f,_,a,zxy l c k⟩
theorem nC{p:List Value→Prop}{k:Nat}(h:∀a us,us.length=k→p (a::us)):∀us,us.length=k+1→p us:=λus e=>by
 cases us with
 |nil=>cases e
 |cons a us=>exact h a us (Nat.succ.inj e)
theorem n0{p:List Value→Prop}(h:p []):∀us,us.length=0→p us:=λus e=>by
 cases us with
 |nil=>exact h
 |cons a us=>cases e
theorem n1{p:List Value→Prop}(h:∀a,p [a]):∀us,us.length=1→p us:=nC λa=>n0 (p:=λus=>p (a::us)) (h a)
theorem n2{p:List Value→Prop}(h:∀a b,p [a,b]):∀us,us.length=2→p us:=nC λa=>n1 (p:=λus=>p (a::us)) (h a)
theorem n3{p:List Value→Prop}(h:∀a b c,p [a,b,c]):∀us,us.length=3→p us:=nC λa=>n2 (p:=λus=>p (a::us)) (h a)
theorem n4{p:List Value→Prop}(h:∀a b c d,p [a,b,c,d]):∀us,us.length=4→p us:=nC λa=>n3 (p:=λus=>p (a::us)) (h a)
theorem n5{p:List Value→Prop}(h:∀a b c d e,p [a,b,c,d,e]):∀us,us.length=5→p us:=nC λa=>n4 (p:=λus=>p (a::us)) (h a)
theorem n6{p:List Value→Prop}(h:∀a b c d e f,p [a,b,c,d,e,f]):∀us,us.length=6→p us:=nC λa=>n5 (p:=λus=>p (a::us)) (h a)
local macro_rules | `(tactic| walk_at "sc") => `(tactic| (refine ⟨rfl, rfl, rfl, ?_, rfl, ?_, ?_⟩ <;> decide +kernel))
noncomputable abbrev Ok (P:aE) (w:aB) (K:aj) (mg:Str→Option Value) (base:Heap) (f:Addr) (d:bC) (ps:List Str) (c:Nat→WSp):Prop:=∀r,FnOk P w K mg base (CX1 P w) r f d ps (zda K (c r))
theorem zcL{P:aE}{w:aB}{K:aj}{mg:Str→Option Value}{base:Heap}{f:Addr}{d:bC}{ps:List Str}{c:Nat→WSp}(h0:c 0=zaR) (h:∀r,FnOk P w K mg base (CX1 P w) r f d ps (zda K (c r))→FnOk P w K mg base (CX1 P w) (r+1) f d ps (zda K (c (r+1)))):Ok P w K mg base f d ps c:=λr=>by
 induction r with
 |zero=>rw[h0];exact zvO
 |succ r ih=>exact h r ih
structure Ncl (mg:Str→Option Value) (x:Str) where
  xC:Addr
  xm:mg x=ae (.ref xC)
theorem zqG:bQ "ValueError" =ae (.type "ValueError"):=by first |rfl |decide +kernel | (unfold bQ;decide +kernel)
noncomputable abbrev s0:Stmt:=top 9
theorem sc0:FnScope ["t"] ["t"] (zak s0):=by walk_at "sc"
noncomputable abbrev s1:Stmt:=top 10
theorem sc1:FnScope ["things", "found", "thing"] ["things"] (zak s1):=by walk_at "sc"
noncomputable abbrev s2:Stmt:=top 11
theorem sc2:FnScope ["t", "heavy", "deep", "level"] ["t"] (zak s2):=by walk_at "sc"
noncomputable abbrev s3:Stmt:=top 13
theorem sc3:FnScope ["t", "place", "found", "number", "inner"] ["t", "place", "found"] (zak s3):=by walk_at "sc"
noncomputable abbrev s4:Stmt:=top 12
theorem sc4:FnScope ["t", "found"] ["t"] (zak s4):=by walk_at "sc"
noncomputable abbrev s5:Stmt:=top 15
theorem sc5:FnScope ["t", "number", "parts"] ["t", "number"] (zak s5):=by walk_at "sc"
noncomputable abbrev s6:Stmt:=top 14
theorem sc6:FnScope ["t", "place", "thing", "number"] ["t", "place"] (zak s6):=by walk_at "sc"
noncomputable abbrev s7:Stmt:=top 17
theorem sc7:FnScope ["side"] ["side"] (zak s7):=by walk_at "sc"
noncomputable abbrev s8:Stmt:=top 18
theorem sc8:FnScope ["side", "things"] ["side", "things"] (zak s8):=by walk_at "sc"
noncomputable abbrev s9:Stmt:=top 21
theorem sc9:FnScope ["one", "other"] ["one", "other"] (zak s9):=by walk_at "sc"
noncomputable abbrev s10:Stmt:=top 20
theorem sc10:FnScope ["left", "t", "things", "inner", "thing"] ["left", "t", "things"] (zak s10):=by walk_at "sc"
noncomputable abbrev s11:Stmt:=top 19
theorem sc11:FnScope ["left", "t", "things"] ["left", "t"] (zak s11):=by walk_at "sc"
noncomputable abbrev s12:Stmt:=top 25
theorem sc12:FnScope ["book", "title", "turning"] ["book", "title"] (zak s12):=by walk_at "sc"
noncomputable abbrev s13:Stmt:=top 29
theorem zAK:FnScope ["shape"] ["shape"] (zak s13):=by walk_at "sc"
noncomputable abbrev s14:Stmt:=top 30
theorem sc14:FnScope ["book", "way", "side", "parts", "turning"] ["book", "way", "side"] (zak s14):=by walk_at "sc"
noncomputable abbrev s15:Stmt:=top 27
theorem zAN:FnScope ["book", "way"] ["book", "way"] (zak s15):=by walk_at "sc"
noncomputable abbrev s16:Stmt:=top 28
theorem zAR:FnScope ["book", "way"] ["book", "way"] (zak s16):=by walk_at "sc"
noncomputable abbrev s17:Stmt:=top 31
theorem sc17:FnScope ["book", "way", "turning"] ["book", "way"] (zak s17):=by walk_at "sc"
noncomputable abbrev s18:Stmt:=top 35
theorem sc18:FnScope ["book", "shape", "turning"] ["book", "shape"] (zak s18):=by walk_at "sc"
noncomputable abbrev s19:Stmt:=top 34
theorem sc19:FnScope ["book", "shape", "place", "found", "turning", "number", "inner"] ["book", "shape", "place", "found"] (zak s19):=by walk_at "sc"
noncomputable abbrev s20:Stmt:=top 33
theorem sc20:FnScope ["book", "shape", "found"] ["book", "shape"] (zak s20):=by walk_at "sc"
noncomputable abbrev s21:Stmt:=top 36
theorem zAI:FnScope ["pairs"] ["pairs"] (zak s21):=by walk_at "sc"
noncomputable abbrev s22:Stmt:=top 40
theorem sc22:FnScope ["book", "shape", "turning"] ["book", "shape"] (zak s22):=by walk_at "sc"
noncomputable abbrev s23:Stmt:=top 39
theorem sc23:FnScope ["book", "shape", "place", "wanted", "top", "parts", "spot", "inner"] ["book", "shape", "place", "wanted"] (zak s23):=by walk_at "sc"
noncomputable abbrev s24:Stmt:=top 38
theorem zAO:FnScope ["book", "shape", "places"] ["book", "shape", "places"] (zak s24):=by walk_at "sc"
noncomputable abbrev s25:Stmt:=top 37
theorem sc25:FnScope ["book", "shape", "places", "known", "place"] ["book", "shape", "places"] (zak s25):=by walk_at "sc"
noncomputable abbrev s26:Stmt:=top 42
theorem sc26:FnScope ["book", "way", "other", "first", "second", "mine", "yours", "parts"] ["book", "way", "other"] (zak s26):=by walk_at "sc"
noncomputable abbrev s27:Stmt:=top 46
theorem sc27:FnScope ["book", "ways", "way"] ["book", "ways"] (zak s27):=by walk_at "sc"
noncomputable abbrev s28:Stmt:=top 45
theorem sc28:FnScope ["book", "way", "ways", "line", "over", "way_on"] ["book", "way", "ways"] (zak s28):=by walk_at "sc"
noncomputable abbrev s29:Stmt:=top 44
theorem sc29:FnScope ["book", "road", "other", "downs", "row", "overs", "way", "line"] ["book", "road", "other"] (zak s29):=by walk_at "sc"
noncomputable abbrev s30:Stmt:=top 47
theorem zAu:FnScope ["downs_and_overs"] ["downs_and_overs"] (zak s30):=by walk_at "sc"
noncomputable abbrev s31:Stmt:=top 49
theorem sc31:FnScope ["book", "shape", "steps", "first", "second", "way", "leads_on", "start", "stop", "stands", "downs_and_overs"] ["book", "shape", "steps"] (zak s31):=by walk_at "sc"
noncomputable abbrev s32:Stmt:=top 51
theorem zzU:FnScope ["script", "k"] ["script", "k"] (zak s32):=by walk_at "sc"
noncomputable abbrev s33:Stmt:=top 52
theorem sc33:FnScope ["one", "two", "great", "signs", "rest", "base", "k", "at", "words", "word"] ["one", "two", "great"] (zak s33):=by walk_at "sc"
noncomputable abbrev s34:Stmt:=top 53
theorem zAe:FnScope ["side"] ["side"] (zak s34):=by walk_at "sc"
noncomputable abbrev s35:Stmt:=top 54
theorem zAn:FnScope ["side", "things"] ["side", "things"] (zak s35):=by walk_at "sc"
noncomputable abbrev s36:Stmt:=top 55
theorem zAh:FnScope ["draw", "many", "w"] ["draw", "many", "w"] (zak s36):=by walk_at "sc"
noncomputable abbrev s37:Stmt:=top 56
theorem sc37:FnScope ["draw", "many", "w", "one", "other", "way"] ["draw", "many", "w"] (zak s37):=by walk_at "sc"
noncomputable abbrev s38:Stmt:=top 57
theorem zAT:FnScope ["way", "head", "c", "d"] ["way", "head", "c", "d"] (zak s38):=by walk_at "sc"
noncomputable abbrev s39:Stmt:=top 58
theorem sc39:FnScope ["script", "k", "w", "titles", "book", "j", "lefts", "n", "left", "right"] ["script", "k", "w", "titles"] (zak s39):=by walk_at "sc"
noncomputable abbrev s40:Stmt:=top 59
theorem sc40:FnScope ["cells", "book", "w", "room", "stack", "spent", "cell", "way", "need", "node", "k", "at"] ["cells", "book", "w", "room"] (zak s40):=by walk_at "sc"
noncomputable abbrev s41:Stmt:=top 60
theorem sc41:FnScope ["plan", "book", "by", "k", "bits", "head", "parts", "ways"] ["plan", "book", "by"] (zak s41):=by walk_at "sc"
noncomputable abbrev s42:Stmt:=top 61
theorem sc42:FnScope ["book", "way", "which", "parts", "turning"] ["book", "way", "which"] (zak s42):=by walk_at "sc"
noncomputable abbrev s43:Stmt:=top 62
theorem sc43:FnScope ["side", "shape", "known", "one", "other"] ["side", "shape", "known"] (zak s43):=by walk_at "sc"
noncomputable abbrev s44:Stmt:=top 63
theorem sc44:FnScope ["t", "place", "other", "k"] ["t", "place", "other"] (zak s44):=by walk_at "sc"
noncomputable abbrev s45:Stmt:=top 64
theorem sc45:FnScope ["t", "found", "i", "one"] ["t"] (zak s45):=by walk_at "sc"
noncomputable abbrev s46:Stmt:=top 65
theorem sc46:FnScope ["t", "place", "i"] ["t", "place"] (zak s46):=by walk_at "sc"
noncomputable abbrev s47:Stmt:=top 66
theorem sc47:FnScope ["book", "here", "cell", "c", "title", "left", "right", "some", "place", "parts", "ways"] ["book", "here", "cell", "c"] (zak s47):=by walk_at "sc"
noncomputable abbrev s48:Stmt:=top 67
theorem sc48:FnScope ["book", "here", "cell", "some"] ["book", "here", "cell"] (zak s48):=by walk_at "sc"
noncomputable abbrev s49:Stmt:=top 68
theorem sc49:FnScope ["book", "shape", "cells", "limit", "c", "steps", "here", "cell", "onward", "way"] ["book", "shape", "cells", "limit", "c"] (zak s49):=by walk_at "sc"
noncomputable abbrev s50:Stmt:=top 69
theorem sc50:FnScope ["book", "road", "here", "way"] ["book", "road"] (zak s50):=by walk_at "sc"
noncomputable abbrev s51:Stmt:=top 70
theorem sc51:FnScope ["book", "shape", "steps", "last", "found", "meeting", "onward"] ["book", "shape", "steps", "last", "found"] (zak s51):=by walk_at "sc"
noncomputable abbrev s52:Stmt:=top 71
theorem sc52:FnScope ["script", "w", "titles", "book", "shape", "steps", "last", "handed", "found", "held"] ["script"] (zak s52):=by walk_at "sc"
section
variable (P:aE) (w:aB) (K:aj) (mg:Str→Option Value) (base:Heap)
abbrev C0:=Cal P w K mg base "parts_of" ["t"] zcx
abbrev C1:=Cal P w K mg base "parts_of_all" ["things"] zbQ
abbrev C2:=Cal P w K mg base "is_small" ["t"] zdC
abbrev C3:=Cal P w K mg base "gather_places" ["t", "place", "found"] zaP
abbrev C4:=Cal P w K mg base "places" ["t"] zfi
abbrev C5:=Cal P w K mg base "numbered_part" ["t", "number"] zbE
abbrev C6:=Cal P w K mg base "part" ["t", "place"] zkv
abbrev C7:=Cal P w K mg base "blank_places" ["side"] zbP
abbrev C8:=Cal P w K mg base "filled" ["side", "things"] zcV
abbrev C9:=Cal P w K mg base "have_one_top" ["one", "other"] zbR
abbrev C10:=Cal P w K mg base "gather_matched" ["left", "t", "things"] zaE
abbrev C11:=Cal P w K mg base "matched" ["left", "t"] zbO
abbrev C12:=Cal P w K mg base "turning_of" ["book", "title"] zaV
abbrev C13:=Cal P w K mg base "only_small" ["shape"] zbg
abbrev C14:=Cal P w K mg base "with_sides" ["book", "way", "side"] zbF
abbrev C15:=Cal P w K mg base "source" ["book", "way"] zdP
abbrev C16:=Cal P w K mg base "goal" ["book", "way"] zgg
abbrev C17:=Cal P w K mg base "part_places" ["book", "way"] zbG
abbrev C18:=Cal P w K mg base "open_turning" ["book", "shape"] zby
abbrev C19:=Cal P w K mg base "gather_open" ["book", "shape", "place", "found"] zbq
abbrev C20:=Cal P w K mg base "open_uses" ["book", "shape"] zcy
abbrev C21:=Cal P w K mg base "places_of" ["pairs"] zcX
abbrev C22:=Cal P w K mg base "turned_top" ["book", "shape"] zcN
abbrev C23:=Cal P w K mg base "way_within" ["book", "shape", "place", "wanted"] zaW
abbrev C24:=Cal P w K mg base "way_with" ["book", "shape", "places"] zdG
abbrev C25:=Cal P w K mg base "way_of" ["book", "shape", "places"] zfs
abbrev C26:=Cal P w K mg base "moved" ["book", "way", "other"] zcT
abbrev C27:=Cal P w K mg base "check_goals" ["book", "ways"] zbo
abbrev C28:=Cal P w K mg base "moved_along" ["book", "way", "ways"] zco
abbrev C29:=Cal P w K mg base "grid" ["book", "road", "other"] zjX
abbrev C30:=Cal P w K mg base "last_downs" ["downs_and_overs"] zcO
abbrev C31:=Cal P w K mg base "valley" ["book", "shape", "steps"] zem
abbrev C32:=Cal P w K mg base "_law_cell" ["script", "k"] zaH
abbrev C33:=Cal P w K mg base "_law_words" ["one", "two", "great"] zbm
abbrev C34:=Cal P w K mg base "_law_count" ["side"] zaB
abbrev C35:=Cal P w K mg base "_law_filled" ["side", "things"] zbd
abbrev C36:=Cal P w K mg base "_law_item" ["draw", "many", "w"] zcA
abbrev C37:=Cal P w K mg base "_law_right" ["draw", "many", "w"] zcJ
abbrev C38:=Cal P w K mg base "_law_lefts" ["way", "head", "c", "d"] zcK
abbrev C39:=Cal P w K mg base "_law_book" ["script", "k", "w", "titles"] zcH
abbrev C40:=Cal P w K mg base "_law_plan" ["cells", "book", "w", "room"] zcE
abbrev C41:=Cal P w K mg base "_law_way" ["plan", "book", "by"] zcD
abbrev C42:=Cal P w K mg base "_law_made" ["book", "way", "which"] zaN
abbrev C43:=Cal P w K mg base "_law_parts" ["side", "shape", "known"] zbh
abbrev C44:=Cal P w K mg base "_law_put" ["t", "place", "other"] zcB
abbrev C45:=Cal P w K mg base "_law_places" ["t"] zaF
abbrev C46:=Cal P w K mg base "_law_at" ["t", "place"] zcg
abbrev C47:=Cal P w K mg base "_law_back" ["book", "here", "cell", "c"] zdj
abbrev C48:=Cal P w K mg base "_law_on" ["book", "here", "cell"] zei
abbrev C49:=Cal P w K mg base "_law_winding" ["book", "shape", "cells", "limit", "c"] zbS
abbrev C50:=Cal P w K mg base "_law_walked" ["book", "road"] zbH
abbrev C51:=Cal P w K mg base "_law_closed" ["book", "shape", "steps", "last", "found"] zbI
end
section
variable {P:aE}{w:aB}{K:aj}{mg:Str→Option Value}{base:Heap}
variable {f:Addr}{d:bC}
theorem o0 (F:Fun K "parts_of" "parts_of" s0 f d) (n_i:mg "isinstance" =none) (n_n:mg "int" =none):Ok P w K mg base f d ["t"] zcx:=zcL rfl λr ih=>zaQ F sc0 rfl rfl λ_ _ _ _ _ _ hr=>(zad (zaG (zbJ (zeA rfl n_i rfl n_n c7 (jv 0) (by decide) (by decide) (zqU _ (by simp)))) (zah (zam (zas zac))) zav)
  (zah (zam (zcS (jv 0) (zaI zae) zaM))))
theorem o1 (F:Fun K "parts_of_all" "parts_of_all" s1 f d) (x0:C0 P w K mg base):Ok P w K mg base f d ["things"] zbQ:=zcL rfl λr ih=>zaQ F sc1 rfl rfl λ_ _ _ _ _ _ hr=>(zad (zan (i:=1) sc1.nd rfl (ai rfl) (zaC (zaK zac)))
  (zad (zbC (zbl (jv 0)) (zao (i:=2) sc1.nd rfl (ai rfl)) (zah (zbb (zoC (jv 1) (zaa (zai (x0.zg r) hr rfl x0.zm x0.zk x0.zb (zaa (jv 2) zac)) zac)))))
  (zah (zam (jv 1)))))
theorem o2 (F:Fun K "is_small" "is_small" s2 f d) (x1:C1 P w K mg base) (n_l:mg "len" =none) {t_MOST_HEAVY:bc}(g_MOST_HEAVY:mg "MOST_HEAVY" =ae (.int 400 t_MOST_HEAVY)) {t_MOST_DEEP:bc}(g_MOST_DEEP:mg "MOST_DEEP" =ae (.int 40 t_MOST_DEEP)):Ok P w K mg base f d ["t"] zdC:=zcL rfl λr ih=>zaQ F sc2 rfl rfl λ_ _ _ _ _ _ hr=>(zad (zan (i:=1) sc2.nd rfl (ai rfl) zae)
  (zad (zan (i:=2) sc2.nd rfl (ai rfl) zae)
  (zad (zan (i:=3) sc2.nd rfl (ai rfl) (zaC (zaK (zaa (jv 0) zac))))
  (zad (zmD (zbJ (jv 3)) (zad (ztb (i:=1) sc2.nd rfl (ai rfl) (zbw rfl n_l (zaa (jv 3) zac)))
  (zad (ztb (i:=2) sc2.nd rfl (ai rfl) zae)
  (zad (zaG (JW.jt (zhO (zlp (jv 1) (zdx rfl g_MOST_HEAVY)) (zfC (zlp (jv 2) (zdx rfl g_MOST_DEEP))))) (zah (zam zfr)) zav)
  (zah (zan (i:=3) sc2.nd rfl (ai rfl) (zai (x1.zg r) hr rfl x1.zm x1.zk x1.zb (zaa (jv 3) zac))))))))
  (zah (zam zfr))))))
theorem o3 (F:Fun K "gather_places" "gather_places" s3 f d) (x0:C0 P w K mg base) (b:Binds K d ["t", "place", "found"] []) (m:mg "gather_places" =ae (.ref f)) (n_e:mg "enumerate" =none):Ok P w K mg base f d ["t", "place", "found"] zaP:=zcL rfl λr ih=>zaQ F sc3 rfl rfl λ_ _ _ _ _ _ hr=>(zad (zbb (zbr (jv 2) (zaa (jv 1) zac)))
  (zah (zbC (zjb rfl n_e (zai (x0.zg r) hr rfl x0.zm x0.zk x0.zb (zaa (jv 0) zac))) (zdD (zax (zao (i:=3) sc3.nd rfl (ai rfl)) (zax (zao (i:=4) sc3.nd rfl (ai rfl)) zcC)) (glS (glS gl0))) (zah (zbb (zai ih hr rfl m F.kp b (zaa (jv 4) (zaa (zbf (jv 1) (zas (zaa (jv 3) zac))) (zaa (jv 2) zac)))))))))
theorem o4 (F:Fun K "places" "places" s4 f d) (x3:C3 P w K mg base):Ok P w K mg base f d ["t"] zfi:=zcL rfl λr ih=>zaQ F sc4 rfl rfl λ_ _ _ _ _ _ hr=>(zad (zan (i:=1) sc4.nd rfl (ai rfl) (zaC (zaK zac)))
  (zad (zbb (zai (x3.zg r) hr rfl x3.zm x3.zk x3.zb (zaa (jv 0) (zaa (zas zac) (zaa (jv 1) zac)))))
  (zah (zam (jv 1)))))
theorem o5 (F:Fun K "numbered_part" "numbered_part" s5 f d) (x0:C0 P w K mg base) (n_l:mg "len" =none) (y_NoPlace:Ncl mg "NoPlace") (v_NoPlace:XcIn K "NoPlace" y_NoPlace.xC):Ok P w K mg base f d ["t", "number"] zbE:=zcL rfl λr ih=>zaQ F sc5 rfl rfl λ_ _ _ _ _ _ hr=>(zad (zan (i:=2) sc5.nd rfl (ai rfl) (zai (x0.zg r) hr rfl x0.zm x0.zk x0.zb (zaa (jv 0) zac)))
  (zad (zaG (JW.jt (zhO (zoM (jv 1) zae) (zfC (zyG (jv 1) (zbw rfl n_l (zaa (jv 2) zac)))))) (zah (zft v_NoPlace rfl y_NoPlace.xm (zaa zgi zac))) zav)
  (zah (zam (zaq (jv 2) (jv 1))))))
theorem o6 (F:Fun K "part" "part" s6 f d) (x5:C5 P w K mg base):Ok P w K mg base f d ["t", "place"] zkv:=zcL rfl λr ih=>zaQ F sc6 rfl rfl λ_ _ _ _ _ _ hr=>(zad (zan (i:=2) sc6.nd rfl (ai rfl) (jv 0))
  (zad (zbC (zbl (jv 1)) (zao (i:=3) sc6.nd rfl (ai rfl)) (zah (zan (i:=2) sc6.nd rfl (ai rfl) (zai (x5.zg r) hr rfl x5.zm x5.zk x5.zb (zaa (jv 2) (zaa (jv 3) zac))))))
  (zah (zam (jv 2)))))
theorem o7 (F:Fun K "blank_places" "blank_places" s7 f d) (x4:C4 P w K mg base) (x6:C6 P w K mg base) (n_i:mg "isinstance" =none) (n_n:mg "int" =none):Ok P w K mg base f d ["side"] zbP:=zcL rfl λr ih=>zaQ F sc7 rfl rfl λ_ _ _ _ _ _ hr=>(zah (zam (zaC (zdi (N:=["place", "side"]) (k:=1) (fr:=[0]) ⟨rfl,by decide +kernel,rfl,rfl,rfl,rfl,rfl,rfl,rfl⟩ (zbl (zai (x4.zg r) hr rfl x4.zm x4.zk x4.zb (zaa (jv 0) zac))) (λ_ _ _ _=>(zao (i:=0) (show bu [("place" :Str),("side" :Str)] from by decide +kernel) rfl (ai rfl))) (λ_ _ _ _=>(zqp (zbJ (zeA rfl n_i rfl n_n c7 (zai (x6.zg r) hr rfl x6.zm x6.zk x6.zb (zaa (jv 1) (zaa (jv 0) zac))) (by decide) (by decide) (zqU _ (by simp)))))) (λ_ _ _ _=>(jv 0))))))
theorem o8 (F:Fun K "filled" "filled" s8 f d) (b:Binds K d ["side", "things"] []) (m:mg "filled" =ae (.ref f)) (n_i:mg "isinstance" =none) (n_n:mg "int" =none) (n_t:mg "tuple" =none):Ok P w K mg base f d ["side", "things"] zcV:=zcL rfl λr ih=>zaQ F sc8 rfl rfl λ_ _ _ _ _ _ hr=>(zad (zaG (zbJ (zeA rfl n_i rfl n_n c7 (jv 0) (by decide) (by decide) (zqU _ (by simp)))) (zah (zam (zaq (jv 1) (jv 0)))) zav)
  (zah (zam (zbf (zas (zaa (zaq (jv 0) zae) zac)) (zjy rfl n_t (zdi (N:=["inner", "things"]) (k:=1) (fr:=[1]) ⟨rfl,by decide +kernel,rfl,rfl,rfl,rfl,rfl,rfl,rfl⟩ (zbl (zcS (jv 0) (zaI zae) zaM)) (λ_ _ _ _=>(zao (i:=0) (show bu [("inner" :Str),("things" :Str)] from by decide +kernel) rfl (ai rfl))) (λ_ _ _ _=>zbL) (λ_ _ _ _=>(zai ih hr rfl m F.kp b (zaa (jv 0) (zaa (jv 1) zac))))))))))
theorem o9 (F:Fun K "have_one_top" "have_one_top" s9 f d) (n_l:mg "len" =none):Ok P w K mg base f d ["one", "other"] zbR:=zcL rfl λr ih=>zaQ F sc9 rfl rfl λ_ _ _ _ _ _ hr=>(zah (zam (zsH (znN hr (zaq (jv 0) zae) (zaq (jv 1) zae)) (zsS (znN hr (zbw rfl n_l (zaa (jv 0) zac)) (zbw rfl n_l (zaa (jv 1) zac)))))))
theorem o10 (F:Fun K "gather_matched" "gather_matched" s10 f d) (x9:C9 P w K mg base) (b:Binds K d ["left", "t", "things"] []) (m:mg "gather_matched" =ae (.ref f)) (n_i:mg "isinstance" =none) (n_n:mg "int" =none) (n_z:mg "zip" =none):Ok P w K mg base f d ["left", "t", "things"] zaE:=zcL rfl λr ih=>zaQ F sc10 rfl rfl λ_ _ _ _ _ _ hr=>(zad (zaG (zbJ (zeA rfl n_i rfl n_n c7 (jv 0) (by decide) (by decide) (zqU _ (by simp)))) (zad (zbb (zbr (jv 2) (zaa (jv 1) zac)))
  (zah (zam zfr))) zav)
  (zad (zaG (zgl (zbJ (zai (x9.zg r) hr rfl x9.zm x9.zk x9.zb (zaa (jv 0) (zaa (jv 1) zac))))) (zah (zam zfr)) zav)
  (zad (zbC (zkE rfl n_z (zcS (jv 0) (zaI zae) zaM) (zcS (jv 1) (zaI zae) zaM)) (zdD (zax (zao (i:=3) sc10.nd rfl (ai rfl)) (zax (zao (i:=4) sc10.nd rfl (ai rfl)) zcC)) (glS (glS gl0))) (zah (zaG (zgl (zbJ (zai ih hr rfl m F.kp b (zaa (jv 3) (zaa (jv 4) (zaa (jv 2) zac)))))) (zah (zam zfr)) zav)))
  (zah (zam zfr)))))
theorem o11 (F:Fun K "matched" "matched" s11 f d) (x10:C10 P w K mg base):Ok P w K mg base f d ["left", "t"] zbO:=zcL rfl λr ih=>zaQ F sc11 rfl rfl λ_ _ _ _ _ _ hr=>(zad (zan (i:=2) sc11.nd rfl (ai rfl) (zaC (zaK zac)))
  (zad (zaG (zbJ (zai (x10.zg r) hr rfl x10.zm x10.zk x10.zb (zaa (jv 0) (zaa (jv 1) (zaa (jv 2) zac))))) (zah (zam (jv 2))) zav)
  (zah (zam zca))))
theorem o12 (F:Fun K "turning_of" "turning_of" s12 f d):Ok P w K mg base f d ["book", "title"] zaV:=zcL rfl λr ih=>zaQ F sc12 rfl rfl λ_ _ _ _ _ _ hr=>(zad (zbC (zbl (jv 0)) (zao (i:=2) sc12.nd rfl (ai rfl)) (zah (zaG (zdV hr (zaq (jv 2) zae) (jv 1)) (zah (zam (jv 2))) zav)))
  (zah (zam zca)))
theorem o13 (F:Fun K "only_small" "only_small" s13 f d) (x2:C2 P w K mg base) (yT:Ncl mg "TooGreat") (v_TooGreat:XcIn K "TooGreat" yT.xC):Ok P w K mg base f d ["shape"] zbg:=zcL rfl λr ih=>zaQ F zAK rfl rfl λ_ _ _ _ _ _ hr=>(zad (zaG (zgl (zbJ (zai (x2.zg r) hr rfl x2.zm x2.zk x2.zb (zaa (jv 0) zac)))) (zah (zft v_TooGreat rfl yT.xm (zaa zgi zac))) zav)
  (zah (zam (jv 0))))
theorem o14 (F:Fun K "with_sides" "with_sides" s14 f d) (x12:C12 P w K mg base) (x8:C8 P w K mg base) (b:Binds K d ["book", "way", "side"] []) (m:mg "with_sides" =ae (.ref f)) (n_t:mg "tuple" =none):Ok P w K mg base f d ["book", "way", "side"] zbF:=zcL rfl λr ih=>zaQ F sc14 rfl rfl λ_ _ _ _ _ _ hr=>(zad (zeK (i:=3) (N:=["inner", "book", "side"]) (k:=1) (fr:=[0,2]) sc14.nd rfl (ai rfl) ⟨rfl,by decide +kernel,rfl,rfl,rfl,rfl,rfl,rfl,rfl⟩ (zbl (zcS (jv 1) (zaI zae) zaM)) (λ_ _ _ _=>(zao (i:=0) (show bu [("inner" :Str),("book" :Str),("side" :Str)] from by decide +kernel) rfl (ai rfl))) (λ_ _ _ _=>zbL) (λ_ _ _ _=>(zai ih hr rfl m F.kp b (zaa (jv 1) (zaa (jv 0) (zaa (jv 2) zac))))))
  (zad (zan (i:=4) sc14.nd rfl (ai rfl) (zai (x12.zg r) hr rfl x12.zm x12.zk x12.zb (zaa (jv 0) (zaa (zaq (jv 1) zae) zac))))
  (zad (zaG (zka (jv 4) zca) (zah (zam (zbf (zas (zaa (zaq (jv 1) zae) zac)) (zdo rfl n_t (zaa (jv 3) zac))))) zav)
  (zah (zam (zai (x8.zg r) hr rfl x8.zm x8.zk x8.zb (zaa (zaq (jv 4) (jv 2)) (zaa (jv 3) zac))))))))
theorem o15 (F:Fun K "source" "source" s15 f d) (x13:C13 P w K mg base) (x14:C14 P w K mg base) {t_LEFT:bc}(g_LEFT:mg "LEFT" =ae (.int 1 t_LEFT)):Ok P w K mg base f d ["book", "way"] zdP:=zcL rfl λr ih=>zaQ F zAN rfl rfl λ_ _ _ _ _ _ hr=>(zah (zam (zai (x13.zg r) hr rfl x13.zm x13.zk x13.zb (zaa (zai (x14.zg r) hr rfl x14.zm x14.zk x14.zb (zaa (jv 0) (zaa (jv 1) (zaa (zdx rfl g_LEFT) zac)))) zac))))
theorem o16 (F:Fun K "goal" "goal" s16 f d) (x13:C13 P w K mg base) (x14:C14 P w K mg base) {t_RIGHT:bc}(g_RIGHT:mg "RIGHT" =ae (.int 2 t_RIGHT)):Ok P w K mg base f d ["book", "way"] zgg:=zcL rfl λr ih=>zaQ F zAR rfl rfl λ_ _ _ _ _ _ hr=>(zah (zam (zai (x13.zg r) hr rfl x13.zm x13.zk x13.zb (zaa (zai (x14.zg r) hr rfl x14.zm x14.zk x14.zb (zaa (jv 0) (zaa (jv 1) (zaa (zdx rfl g_RIGHT) zac)))) zac))))
theorem o17 (F:Fun K "part_places" "part_places" s17 f d) (x12:C12 P w K mg base) (x7:C7 P w K mg base) (n_r:mg "range" =none) (n_l:mg "len" =none) {t_LEFT:bc}(g_LEFT:mg "LEFT" =ae (.int 1 t_LEFT)):Ok P w K mg base f d ["book", "way"] zbG:=zcL rfl λr ih=>zaQ F sc17 rfl rfl λ_ _ _ _ _ _ hr=>(zad (zan (i:=2) sc17.nd rfl (ai rfl) (zai (x12.zg r) hr rfl x12.zm x12.zk x12.zb (zaa (jv 0) (zaa (zaq (jv 1) zae) zac))))
  (zad (zaG (zka (jv 2) zca) (zah (zam (zaC (zdi (N:=["number"]) (k:=1) (fr:=[]) ⟨rfl,by decide +kernel,rfl,rfl,rfl,rfl,rfl,rfl,rfl⟩ (zep rfl n_r (zaa (zjl (zbw rfl n_l (zaa (jv 1) zac)) zae) zac)) (λ_ _ _ _=>(zao (i:=0) (show bu [("number" :Str)] from by decide +kernel) rfl (ai rfl))) (λ_ _ _ _=>zbL) (λ_ _ _ _=>(zas (zaa (jv 0) zac))))))) zav)
  (zah (zam (zai (x7.zg r) hr rfl x7.zm x7.zk x7.zb (zaa (zaq (jv 2) (zdx rfl g_LEFT)) zac))))))
theorem o18 (F:Fun K "open_turning" "open_turning" s18 f d) (x11:C11 P w K mg base) {t_LEFT:bc}(g_LEFT:mg "LEFT" =ae (.int 1 t_LEFT)):Ok P w K mg base f d ["book", "shape"] zby:=zcL rfl λr ih=>zaQ F sc18 rfl rfl λ_ _ _ _ _ _ hr=>(zad (zbC (zbl (jv 0)) (zao (i:=2) sc18.nd rfl (ai rfl)) (zah (zaG (zgJ (zai (x11.zg r) hr rfl x11.zm x11.zk x11.zb (zaa (zaq (jv 2) (zdx rfl g_LEFT)) (zaa (jv 1) zac))) zca) (zah (zam (jv 2))) zav)))
  (zah (zam zca)))
theorem o19 (F:Fun K "gather_open" "gather_open" s19 f d) (x18:C18 P w K mg base) (b:Binds K d ["book", "shape", "place", "found"] []) (m:mg "gather_open" =ae (.ref f)) (n_e:mg "enumerate" =none):Ok P w K mg base f d ["book", "shape", "place", "found"] zbq:=zcL rfl λr ih=>zaQ F sc19 rfl rfl λ_ _ _ _ _ _ hr=>(zad (zan (i:=4) sc19.nd rfl (ai rfl) (zai (x18.zg r) hr rfl x18.zm x18.zk x18.zb (zaa (jv 0) (zaa (jv 1) zac))))
  (zad (zaG (zgJ (jv 4) zca) (zah (zbb (zbr (jv 3) (zaa (zas (zaa (jv 2) (zaa (zaq (jv 4) zae) zac))) zac)))) zav)
  (zah (zbC (zjb rfl n_e (zcS (jv 1) (zaI zae) zaM)) (zdD (zax (zao (i:=5) sc19.nd rfl (ai rfl)) (zax (zao (i:=6) sc19.nd rfl (ai rfl)) zcC)) (glS (glS gl0))) (zah (zbb (zai ih hr rfl m F.kp b (zaa (jv 0) (zaa (jv 6) (zaa (zbf (jv 2) (zas (zaa (jv 5) zac))) (zaa (jv 3) zac)))))))))))
theorem o20 (F:Fun K "open_uses" "open_uses" s20 f d) (x19:C19 P w K mg base):Ok P w K mg base f d ["book", "shape"] zcy:=zcL rfl λr ih=>zaQ F sc20 rfl rfl λ_ _ _ _ _ _ hr=>(zad (zan (i:=2) sc20.nd rfl (ai rfl) (zaC (zaK zac)))
  (zad (zbb (zai (x19.zg r) hr rfl x19.zm x19.zk x19.zb (zaa (jv 0) (zaa (jv 1) (zaa (zas zac) (zaa (jv 2) zac))))))
  (zah (zam (jv 2)))))
theorem o21 (F:Fun K "places_of" "places_of" s21 f d):Ok P w K mg base f d ["pairs"] zcX:=zcL rfl λr ih=>zaQ F zAI rfl rfl λ_ _ _ _ _ _ hr=>(zah (zam (zaC (zdi (N:=["pair"]) (k:=1) (fr:=[]) ⟨rfl,by decide +kernel,rfl,rfl,rfl,rfl,rfl,rfl,rfl⟩ (zbl (jv 0)) (λ_ _ _ _=>(zao (i:=0) (show bu [("pair" :Str)] from by decide +kernel) rfl (ai rfl))) (λ_ _ _ _=>zbL) (λ_ _ _ _=>(zaq (jv 0) zae))))))
theorem o22 (F:Fun K "turned_top" "turned_top" s22 f d) (x18:C18 P w K mg base) (x11:C11 P w K mg base) (n_t:mg "tuple" =none) {t_LEFT:bc}(g_LEFT:mg "LEFT" =ae (.int 1 t_LEFT)):Ok P w K mg base f d ["book", "shape"] zcN:=zcL rfl λr ih=>zaQ F sc22 rfl rfl λ_ _ _ _ _ _ hr=>(zad (zan (i:=2) sc22.nd rfl (ai rfl) (zai (x18.zg r) hr rfl x18.zm x18.zk x18.zb (zaa (jv 0) (zaa (jv 1) zac))))
  (zah (zam (zbf (zas (zaa (zaq (jv 2) zae) zac)) (zdo rfl n_t (zaa (zai (x11.zg r) hr rfl x11.zm x11.zk x11.zb (zaa (zaq (jv 2) (zdx rfl g_LEFT)) (zaa (jv 1) zac))) zac))))))
theorem o23 (F:Fun K "way_within" "way_within" s23 f d) (x22:C22 P w K mg base) (x17:C17 P w K mg base) (b:Binds K d ["book", "shape", "place", "wanted"] []) (m:mg "way_within" =ae (.ref f)) (n_z:mg "zip" =none) (n_t:mg "tuple" =none):Ok P w K mg base f d ["book", "shape", "place", "wanted"] zaW:=zcL rfl λr ih=>zaQ F sc23 rfl rfl λ_ _ _ _ _ _ hr=>(zad (zan (i:=4) sc23.nd rfl (ai rfl) (zwz (zvR hr (jv 2) (jv 3)) (zai (x22.zg r) hr rfl x22.zm x22.zk x22.zb (zaa (jv 0) (zaa (jv 1) zac))) (jv 1)))
  (zad (zan (i:=5) sc23.nd rfl (ai rfl) (zaC (zaK zac)))
  (zad (zbC (zkE rfl n_z (zai (x17.zg r) hr rfl x17.zm x17.zk x17.zb (zaa (jv 0) (zaa (jv 4) zac))) (zcS (jv 4) (zaI zae) zaM)) (zdD (zax (zao (i:=6) sc23.nd rfl (ai rfl)) (zax (zao (i:=7) sc23.nd rfl (ai rfl)) zcC)) (glS (glS gl0))) (zah (zbb (zbr (jv 5) (zaa (zai ih hr rfl m F.kp b (zaa (jv 0) (zaa (jv 7) (zaa (zbf (jv 2) (jv 6)) (zaa (jv 3) zac))))) zac)))))
  (zah (zam (zbf (zas (zaa (zaq (jv 4) zae) zac)) (zdo rfl n_t (zaa (jv 5) zac))))))))
theorem o24 (F:Fun K "way_with" "way_with" s24 f d) (x23:C23 P w K mg base) (n_d:mg "dict" =none):Ok P w K mg base f d ["book", "shape", "places"] zdG:=zcL rfl λr ih=>zaQ F zAO rfl rfl λ_ _ _ _ _ _ hr=>(zah (zam (zai (x23.zg r) hr rfl x23.zm x23.zk x23.zb (zaa (jv 0) (zaa (jv 1) (zaa (zas zac) (zaa (zqW hr rfl n_d (zdi (N:=["place"]) (k:=1) (fr:=[]) ⟨rfl,by decide +kernel,rfl,rfl,rfl,rfl,rfl,rfl,rfl⟩ (zbl (jv 2)) (λ_ _ _ _=>(zao (i:=0) (show bu [("place" :Str)] from by decide +kernel) rfl (ai rfl))) (λ_ _ _ _=>zbL) (λ_ _ _ _=>(zas (zaa (jv 0) (zaa zfr zac)))))) zac)))))))
theorem o25 (F:Fun K "way_of" "way_of" s25 f d) (x21:C21 P w K mg base) (x24:C24 P w K mg base) (x20:C20 P w K mg base) (y_NoUse:Ncl mg "NoUse") (v_NoUse:XcIn K "NoUse" y_NoUse.xC):Ok P w K mg base f d ["book", "shape", "places"] zfs:=zcL rfl λr ih=>zaQ F sc25 rfl rfl λ_ _ _ _ _ _ hr=>(zad (zan (i:=3) sc25.nd rfl (ai rfl) (zai (x21.zg r) hr rfl x21.zm x21.zk x21.zb (zaa (zai (x20.zg r) hr rfl x20.zm x20.zk x20.zb (zaa (jv 0) (zaa (jv 1) zac))) zac)))
  (zad (zbC (zbl (jv 2)) (zao (i:=4) sc25.nd rfl (ai rfl)) (zah (zaG (zsk hr (jv 4) (jv 3)) (zah (zft v_NoUse rfl y_NoUse.xm (zaa zgi zac))) zav)))
  (zah (zam (zai (x24.zg r) hr rfl x24.zm x24.zk x24.zb (zaa (jv 0) (zaa (jv 1) (zaa (jv 2) zac))))))))
theorem o26 (F:Fun K "moved" "moved" s26 f d) (x12:C12 P w K mg base) (x8:C8 P w K mg base) (x11:C11 P w K mg base) (b:Binds K d ["book", "way", "other"] []) (m:mg "moved" =ae (.ref f)) (n_z:mg "zip" =none) (n_t:mg "tuple" =none) {t_RIGHT:bc}(g_RIGHT:mg "RIGHT" =ae (.int 2 t_RIGHT)) {t_LEFT:bc}(g_LEFT:mg "LEFT" =ae (.int 1 t_LEFT)):Ok P w K mg base f d ["book", "way", "other"] zcT:=zcL rfl λr ih=>zaQ F sc26 rfl rfl λ_ _ _ _ _ _ hr=>(zad (zan (i:=3) sc26.nd rfl (ai rfl) (zai (x12.zg r) hr rfl x12.zm x12.zk x12.zb (zaa (jv 0) (zaa (zaq (jv 1) zae) zac))))
  (zad (zan (i:=4) sc26.nd rfl (ai rfl) (zai (x12.zg r) hr rfl x12.zm x12.zk x12.zb (zaa (jv 0) (zaa (zaq (jv 2) zae) zac))))
  (zad (zan (i:=5) sc26.nd rfl (ai rfl) (zcS (jv 1) (zaI zae) zaM))
  (zad (zan (i:=6) sc26.nd rfl (ai rfl) (zcS (jv 2) (zaI zae) zaM))
  (zad (zaG (JW.jt (zjx (zka (jv 3) zca) (zhd (zgJ (jv 4) zca)))) (zah (zan (i:=5) sc26.nd rfl (ai rfl) (zai (x11.zg r) hr rfl x11.zm x11.zk x11.zb (zaa (zaq (jv 4) (zdx rfl g_LEFT)) (zaa (jv 1) zac))))) zav)
  (zad (zaG (JW.jt (zjx (zgJ (jv 3) zca) (zhd (zka (jv 4) zca)))) (zah (zan (i:=6) sc26.nd rfl (ai rfl) (zai (x11.zg r) hr rfl x11.zm x11.zk x11.zb (zaa (zaq (jv 3) (zdx rfl g_LEFT)) (zaa (jv 2) zac))))) zav)
  (zad (zeK (i:=7) (N:=["inner", "outer", "book"]) (k:=2) (fr:=[0]) sc26.nd rfl (ai rfl) ⟨rfl,by decide +kernel,rfl,rfl,rfl,rfl,rfl,rfl,rfl⟩ (zkE rfl n_z (jv 5) (jv 6)) (λ_ _ _ _=>(zdD (zax (zao (i:=0) (show bu [("inner" :Str),("outer" :Str),("book" :Str)] from by decide +kernel) rfl (ai rfl)) (zax (zao (i:=1) (show bu [("inner" :Str),("outer" :Str),("book" :Str)] from by decide +kernel) rfl (ai rfl)) zcC)) (glS (glS gl0)))) (λ_ _ _ _=>zbL) (λ_ _ _ _=>(zai ih hr rfl m F.kp b (zaa (jv 2) (zaa (jv 0) (zaa (jv 1) zac))))))
  (zad (zaG (zka (jv 4) zca) (zah (zam (zbf (zas (zaa (zaq (jv 1) zae) zac)) (zdo rfl n_t (zaa (jv 7) zac))))) zav)
  (zah (zam (zai (x8.zg r) hr rfl x8.zm x8.zk x8.zb (zaa (zaq (jv 4) (zdx rfl g_RIGHT)) (zaa (jv 7) zac)))))))))))))
theorem o27 (F:Fun K "check_goals" "check_goals" s27 f d) (x16:C16 P w K mg base):Ok P w K mg base f d ["book", "ways"] zbo:=zcL rfl λr ih=>zaQ F sc27 rfl rfl λ_ _ _ _ _ _ hr=>(zah (zbC (zbl (jv 1)) (zao (i:=2) sc27.nd rfl (ai rfl)) (zah (zbb (zai (x16.zg r) hr rfl x16.zm x16.zk x16.zb (zaa (jv 0) (zaa (jv 2) zac)))))))
theorem o28 (F:Fun K "moved_along" "moved_along" s28 f d) (x26:C26 P w K mg base) (x27:C27 P w K mg base):Ok P w K mg base f d ["book", "way", "ways"] zco:=zcL rfl λr ih=>by
  refine zaQ F sc28 rfl rfl λ_ _ _ _ _ _ hr=>?_;delta zcm zbx zbv zbu zck zcp;delta zcs;delta zcm zbx zbv zbu zck zcp;exact(zad (zan (i:=3) sc28.nd rfl (ai rfl) (zaC (zaK (zaa (jv 1) zac))))
  (zad (zbC (zbl (jv 2)) (zao (i:=4) sc28.nd rfl (ai rfl)) (zad (zan (i:=5) sc28.nd rfl (ai rfl) (zai (x26.zg r) hr rfl x26.zm x26.zk x26.zb (zaa (jv 0) (zaa (zaq (jv 3) (zfd zae)) (zaa (jv 4) zac)))))
  (zad (zbb (zai (x27.zg r) hr rfl x27.zm x27.zk x27.zb (zaa (jv 0) (zaa (zaC (zaK (zaa (jv 5) zac))) zac))))
  (zah (zbb (zbr (jv 3) (zaa (jv 5) zac)))))))
  (zah (zam (jv 3)))))
theorem o29 (F:Fun K "grid" "grid" s29 f d) (x13:C13 P w K mg base) (x27:C27 P w K mg base) (x28:C28 P w K mg base) (x26:C26 P w K mg base) (n_s:mg "list" =none) (n_z:mg "zip" =none) (y_Apart:Ncl mg "Apart") (v_Apart:XcIn K "Apart" y_Apart.xC):Ok P w K mg base f d ["book", "road", "other"] zjX:=zcL rfl λr ih=>by
  refine zaQ F sc29 rfl rfl λ_ _ _ _ _ _ hr=>?_;delta zgE zeb zeg zeh zdY zgw zfE zfp zfF zfy zfA zfu zfx;delta zgD;delta zgE zeb zeg zeh zdY zgw zfE zfp zfF zfy zfA zfu zfx;exact(zad (zaG (zfM hr (zaq (jv 1) zae) (zaq (jv 2) zae)) (zah (zft v_Apart rfl y_Apart.xm (zaa zgi zac))) zav)
  (zad (zbb (zai (x13.zg r) hr rfl x13.zm x13.zk x13.zb (zaa (zaq (jv 1) zae) zac)))
  (zad (zbb (zai (x27.zg r) hr rfl x27.zm x27.zk x27.zb (zaa (jv 0) (zaa (zaq (jv 1) zae) zac))))
  (zad (zbb (zai (x27.zg r) hr rfl x27.zm x27.zk x27.zb (zaa (jv 0) (zaa (zaq (jv 2) zae) zac))))
  (zad (zan (i:=3) sc29.nd rfl (ai rfl) (zaC (zaK zac)))
  (zad (zan (i:=4) sc29.nd rfl (ai rfl) (zaC (zld rfl n_s (zaq (jv 2) zae))))
  (zad (zan (i:=5) sc29.nd rfl (ai rfl) (zaC (zaK (zaa (jv 4) zac))))
  (zad (zbC (zbl (zaq (jv 1) zae)) (zao (i:=6) sc29.nd rfl (ai rfl)) (zad (zan (i:=7) sc29.nd rfl (ai rfl) (zai (x28.zg r) hr rfl x28.zm x28.zk x28.zb (zaa (jv 0) (zaa (jv 6) (zaa (jv 4) zac)))))
  (zad (zeK (i:=4) (N:=["over", "down", "book"]) (k:=2) (fr:=[0]) sc29.nd rfl (ai rfl) ⟨rfl,by decide +kernel,rfl,rfl,rfl,rfl,rfl,rfl,rfl⟩ (zkE rfl n_z (jv 4) (jv 7)) (λ_ _ _ _=>(zdD (zax (zao (i:=0) (show bu [("over" :Str),("down" :Str),("book" :Str)] from by decide +kernel) rfl (ai rfl)) (zax (zao (i:=1) (show bu [("over" :Str),("down" :Str),("book" :Str)] from by decide +kernel) rfl (ai rfl)) zcC)) (glS (glS gl0)))) (λ_ _ _ _=>zbL) (λ_ _ _ _=>(zai (x26.zg r) hr rfl x26.zm x26.zk x26.zb (zaa (jv 2) (zaa (jv 0) (zaa (jv 1) zac))))))
  (zad (zbb (zbr (jv 3) (zaa (jv 7) zac)))
  (zah (zbb (zbr (jv 5) (zaa (jv 4) zac))))))))
  (zah (zam (zas (zaa (jv 3) (zaa (jv 5) zac)))))))))))))
theorem o30 (F:Fun K "last_downs" "last_downs" s30 f d):Ok P w K mg base f d ["downs_and_overs"] zcO:=zcL rfl λr ih=>zaQ F zAu rfl rfl λ_ _ _ _ _ _ hr=>(zah (zam (zaC (zdi (N:=["line"]) (k:=1) (fr:=[]) ⟨rfl,by decide +kernel,rfl,rfl,rfl,rfl,rfl,rfl,rfl⟩ (zbl (zaq (jv 0) zae)) (λ_ _ _ _=>(zao (i:=0) (show bu [("line" :Str)] from by decide +kernel) rfl (ai rfl))) (λ_ _ _ _=>zbL) (λ_ _ _ _=>(zaq (jv 0) (zfd zae)))))))
theorem o31 (F:Fun K "valley" "valley" s31 f d) (x15:C15 P w K mg base) (x16:C16 P w K mg base) (x29:C29 P w K mg base) (x30:C30 P w K mg base) (y_Apart:Ncl mg "Apart") (v_Apart:XcIn K "Apart" y_Apart.xC):Ok P w K mg base f d ["book", "shape", "steps"] zem:=zcL rfl λr ih=>zaQ F sc31 rfl rfl λ_ _ _ _ _ _ hr=>(zad (zan (i:=3) sc31.nd rfl (ai rfl) (zas (zaa (jv 1) (zaa (zaC (zaK zac)) zac))))
  (zad (zan (i:=4) sc31.nd rfl (ai rfl) (zas (zaa (jv 1) (zaa (zaC (zaK zac)) zac))))
  (zad (zbC (zbl (jv 2)) (zdD (zax (zao (i:=5) sc31.nd rfl (ai rfl)) (zax (zao (i:=6) sc31.nd rfl (ai rfl)) zcC)) (glS (glS gl0))) (zad (zan (i:=7) sc31.nd rfl (ai rfl) (zai (x15.zg r) hr rfl x15.zm x15.zk x15.zb (zaa (jv 0) (zaa (jv 5) zac))))
  (zad (zan (i:=8) sc31.nd rfl (ai rfl) (zai (x16.zg r) hr rfl x16.zm x16.zk x16.zb (zaa (jv 0) (zaa (jv 5) zac))))
  (zad (zan (i:=9) sc31.nd rfl (ai rfl) (zwz (zbJ (jv 6)) (jv 7) (jv 8)))
  (zad (zaG (zfM hr (jv 9) (zaq (jv 4) zae)) (zah (zft v_Apart rfl y_Apart.xm (zaa zgi zac))) zav)
  (zah (zaG (zbJ (jv 6)) (zad (zan (i:=10) sc31.nd rfl (ai rfl) (zai (x29.zg r) hr rfl x29.zm x29.zk x29.zb (zaa (jv 0) (zaa (zas (zaa (jv 7) (zaa (zaC (zaK (zaa (jv 5) zac))) zac))) (zaa (jv 4) zac)))))
  (zad (zan (i:=3) sc31.nd rfl (ai rfl) (zas (zaa (jv 1) (zaa (zbf (zaq (jv 3) zae) (zai (x30.zg r) hr rfl x30.zm x30.zk x30.zb (zaa (jv 10) zac))) zac))))
  (zah (zan (i:=4) sc31.nd rfl (ai rfl) (zas (zaa (jv 8) (zaa (zaq (zaq (jv 10) zae) (zfd zae)) zac))))))) (zah (zan (i:=4) sc31.nd rfl (ai rfl) (zas (zaa (jv 7) (zaa (zaC (zoB (zaK (zaa (jv 5) zac)) (zaq (jv 4) zae))) zac))))))))))))
  (zah (zam (zas (zaa (jv 3) (zaa (jv 4) zac))))))))
theorem o32 (F:Fun K "_law_cell" "_law_cell" s32 f d) (n_l:mg "len" =none):Ok P w K mg base f d ["script", "k"] zaH:=zcL rfl λr ih=>zaQ F zzU rfl rfl λ_ _ _ _ _ _ hr=>(zad (zaG (zoM (jv 1) (zbw rfl n_l (zaa (jv 0) zac))) (zah (zam (zaq (jv 0) (jv 1)))) zav)
  (zah (zam zae)))
theorem o33 (F:Fun K "_law_words" "_law_words" s33 f d) (n_r:mg "range" =none) (n_l:mg "len" =none) (n_n:mg "int" =none):Ok P w K mg base f d ["one", "two", "great"] zbm:=zcL rfl λr ih=>zaQ F sc33 rfl rfl λ_ _ _ _ _ _ hr=>(zad (zan (i:=3) sc33.nd rfl (cu rfl) zgi)
  (zad (zan (i:=4) sc33.nd rfl (ai rfl) (zci (jv 1) (zvD zae zae)))
  (zad (zan (i:=5) sc33.nd rfl (cu rfl) (zaC (zaK zac)))
  (zad (zbC (zep rfl n_r (zaa (zbf zae (zci (jv 0) zae)) zac)) (zao (i:=6) sc33.nd rfl (cu rfl)) (zad (zbb (zbr (jv 5) (zaa (zci (jv 4) zae) zac)))
  (zah (zan (i:=4) sc33.nd rfl (ai rfl) (zcF (jv 4) zae)))))
  (zad (zan (i:=7) sc33.nd rfl (cu rfl) (zci (zcF (jv 0) zae) (zbw rfl n_l (zaa (jv 5) zac))))
  (zad (zan (i:=8) sc33.nd rfl (ai rfl) (zaC (zaK zac)))
  (zad (zbC (zep rfl n_r (zaa zae zac)) (zao (i:=6) sc33.nd rfl (cu rfl)) (zad (zan (i:=9) sc33.nd rfl (ai rfl) (zsf zgi (zdi (N:=["j", "signs", "base", "k", "at"]) (k:=1) (fr:=[3,5,6,7]) ⟨rfl,by decide +kernel,rfl,rfl,rfl,rfl,rfl,rfl,rfl⟩ (zep rfl n_r (zaa (zbw rfl n_l (zaa (jv 5) zac)) zac)) (λ_ _ _ _=>(zao (i:=0) (show bu [("j" :Str),("signs" :Str),("base" :Str),("k" :Str),("at" :Str)] from by decide +kernel) rfl (ai rfl))) (λ_ _ _ _=>zbL) (λ_ _ _ _=>(zaq (jv 1) (zci (zbf (zaq (jv 2) (jv 0)) (zsU (jv 3) (ztO rfl n_n (zaa (znN hr (jv 0) (jv 4)) zac)))) zae))))))
  (zad (zaG (zbJ (jv 2)) (zah (zan (i:=9) sc33.nd rfl (ai rfl) (zbf (zrK (zaq (jv 9) zae)) (zcS (jv 9) (zaI zae) zaM)))) zav)
  (zah (zbb (zbr (jv 8) (zaa (jv 9) zac)))))))
  (zad (zaG (JW.jt (zjx (zdV hr (zci (zcF (jv 0) zae) zae) zae) (zhd (zgl (zbJ (jv 2)))))) (zah (zan (i:=8) sc33.nd rfl (ai rfl) (zaC (zkZ (zvs (jv 8) zaM (zaI zae)) (zaK (zaa (zaq (jv 8) zae) (zaa (zaq (jv 8) zae) (zaa (zaq (jv 8) zae) zac)))))))) zav)
  (zah (zam (jv 8)))))))))))
theorem o34 (F:Fun K "_law_count" "_law_count" s34 f d) (b:Binds K d ["side"] []) (m:mg "_law_count" =ae (.ref f)) (n_i:mg "isinstance" =none) (n_n:mg "int" =none) (n_u:mg "sum" =none):Ok P w K mg base f d ["side"] zaB:=zcL rfl λr ih=>zaQ F zAe rfl rfl λ_ _ _ _ _ _ hr=>(zad (zaG (zbJ (zeA rfl n_i rfl n_n c7 (jv 0) (by decide) (by decide) (zqU _ (by simp)))) (zah (zam zae)) zav)
  (zah (zam (zuw rfl n_u (zdi (N:=["one"]) (k:=1) (fr:=[]) ⟨rfl,by decide +kernel,rfl,rfl,rfl,rfl,rfl,rfl,rfl⟩ (zbl (zcS (jv 0) (zaI zae) zaM)) (λ_ _ _ _=>(zao (i:=0) (show bu [("one" :Str)] from by decide +kernel) rfl (ai rfl))) (λ_ _ _ _=>zbL) (λ_ _ _ _=>(zai ih hr rfl m F.kp b (zaa (jv 0) zac))))))))
theorem o35 (F:Fun K "_law_filled" "_law_filled" s35 f d) (b:Binds K d ["side", "things"] []) (m:mg "_law_filled" =ae (.ref f)) (n_i:mg "isinstance" =none) (n_n:mg "int" =none) (n_t:mg "tuple" =none):Ok P w K mg base f d ["side", "things"] zbd:=zcL rfl λr ih=>zaQ F zAn rfl rfl λ_ _ _ _ _ _ hr=>(zad (zaG (zbJ (zeA rfl n_i rfl n_n c7 (jv 0) (by decide) (by decide) (zqU _ (by simp)))) (zah (zam (zaq (jv 1) (jv 0)))) zav)
  (zah (zam (zbf (zcS (jv 0) zaM (zaI zae)) (zjy rfl n_t (zdi (N:=["one", "things"]) (k:=1) (fr:=[1]) ⟨rfl,by decide +kernel,rfl,rfl,rfl,rfl,rfl,rfl,rfl⟩ (zbl (zcS (jv 0) (zaI zae) zaM)) (λ_ _ _ _=>(zao (i:=0) (show bu [("one" :Str),("things" :Str)] from by decide +kernel) rfl (ai rfl))) (λ_ _ _ _=>zbL) (λ_ _ _ _=>(zai ih hr rfl m F.kp b (zaa (jv 0) (zaa (jv 1) zac))))))))))
theorem o36 (F:Fun K "_law_item" "_law_item" s36 f d):Ok P w K mg base f d ["draw", "many", "w"] zcA:=zcL rfl λr ih=>zaQ F zAh rfl rfl λ_ _ _ _ _ _ hr=>(zad (zaG (JW.jt (zjx (zlp (jv 1) zae) (zhd (zlp (zci (jv 0) zae) zae)))) (zah (zam (zci (zcF (jv 0) zae) (jv 1)))) zav)
  (zah (zam (zas (zaa (zaq (jv 2) (zmS (zaK (zaa zae (zaa zae zac))) (zci (zcF (jv 0) zae) zae))) zac)))))
theorem o37 (F:Fun K "_law_right" "_law_right" s37 f d) (x36:C36 P w K mg base):Ok P w K mg base f d ["draw", "many", "w"] zcJ:=zcL rfl λr ih=>zaQ F sc37 rfl rfl λ_ _ _ _ _ _ hr=>(zad (zan (i:=3) sc37.nd rfl (ai rfl) (zai (x36.zg r) hr rfl x36.zm x36.zk x36.zb (zaa (zcF (jv 0) zae) (zaa (jv 1) (zaa (jv 2) zac)))))
  (zad (zan (i:=4) sc37.nd rfl (ai rfl) (zai (x36.zg r) hr rfl x36.zm x36.zk x36.zb (zaa (zcF (jv 0) zae) (zaa (jv 1) (zaa (jv 2) zac)))))
  (zad (zan (i:=5) sc37.nd rfl (ai rfl) (zci (jv 0) zae))
  (zad (zaG (zdV hr (jv 5) zae) (zah (zam (jv 3))) zav)
  (zad (zaG (JW.jt (zhO (zdV hr (jv 5) zae) (zfC (zdV hr (jv 1) zae)))) (zah (zam (zas (zaa (zaq (jv 2) zae) (zaa (jv 3) zac))))) zav)
  (zad (zaG (zdV hr (jv 5) zae) (zah (zam (zas (zaa (zaq (jv 2) zae) (zaa (jv 3) (zaa (jv 4) zac)))))) zav)
  (zad (zaG (zdV hr (jv 5) zae) (zah (zam (zas (zaa (zaq (jv 2) zae) (zaa (jv 3) (zaa (jv 3) zac)))))) zav)
  (zad (zaG (zdV hr (jv 5) zae) (zah (zam (zas (zaa (zaq (jv 2) zae) (zaa (zas (zaa (zaq (jv 2) zae) (zaa (jv 3) zac))) (zaa (jv 4) zac)))))) zav)
  (zad (zaG (zdV hr (jv 5) zae) (zah (zam (zas (zaa (zaq (jv 2) zae) (zaa (jv 3) zac))))) zav)
  (zah (zam (zas (zaa (zaq (jv 2) zae) (zaa (jv 3) (zaa (jv 4) zac)))))))))))))))
theorem o38 (F:Fun K "_law_lefts" "_law_lefts" s38 f d):Ok P w K mg base f d ["way", "head", "c", "d"] zcK:=zcL rfl λr ih=>zaQ F zAT rfl rfl λ_ _ _ _ _ _ hr=>(zad (zaG (zdV hr (jv 0) zae) (zah (zam (zaC (zaK (zaa (zas (zaa (jv 1) (zaa zae zac))) zac))))) zav)
  (zad (zaG (zdV hr (jv 0) zae) (zah (zam (zaC (zaK (zaa (zas (zaa (jv 1) (zaa zae (zaa zae zac)))) zac))))) zav)
  (zad (zaG (zdV hr (jv 0) zae) (zah (zam (zaC (zaK (zaa (zas (zaa (jv 1) (zaa (zas (zaa (jv 2) zac)) zac))) (zaa (zas (zaa (jv 1) (zaa (zas (zaa (jv 3) (zaa zae zac))) zac))) zac)))))) zav)
  (zad (zaG (zdV hr (jv 0) zae) (zah (zam (zaC (zaK (zaa (zas (zaa (jv 1) (zaa (zas (zaa (jv 2) zac)) (zaa zae zac)))) (zaa (zas (zaa (jv 1) (zaa (zas (zaa (jv 3) (zaa zae zac))) (zaa zae zac)))) zac)))))) zav)
  (zad (zaG (zdV hr (jv 0) zae) (zah (zam (zaC (zaK (zaa (zas (zaa (jv 1) (zaa (zas (zaa (jv 3) (zaa (zas (zaa (jv 3) (zaa zae zac))) zac))) (zaa zae (zaa zae zac))))) (zaa (zas (zaa (jv 1) (zaa (zas (zaa (jv 3) (zaa (zas (zaa (jv 2) zac)) zac))) (zaa zae (zaa zae zac))))) zac)))))) zav)
  (zah (zam (zaC (zaK (zaa (zas (zaa (jv 1) zac)) zac))))))))))
theorem o39 (F:Fun K "_law_book" "_law_book" s39 f d) (x38:C38 P w K mg base) (x37:C37 P w K mg base) (x32:C32 P w K mg base) (x34:C34 P w K mg base) (n_r:mg "range" =none) (n_e:mg "enumerate" =none) (n_l:mg "len" =none):Ok P w K mg base f d ["script", "k", "w", "titles"] zcH:=zcL rfl λr ih=>zaQ F sc39 rfl rfl λ_ _ _ _ _ _ hr=>(zad (zan (i:=4) sc39.nd rfl (ai rfl) (zaC (zaK zac)))
  (zad (zbC (zep rfl n_r (zaa zae zac)) (zao (i:=5) sc39.nd rfl (ai rfl)) (zad (zan (i:=6) sc39.nd rfl (ai rfl) (zai (x38.zg r) hr rfl x38.zm x38.zk x38.zb (zaa (zci (zai (x32.zg r) hr rfl x32.zm x32.zk x32.zb (zaa (jv 0) (zaa (zbf (jv 1) (jv 5)) zac))) zae) (zaa (zaq (jv 2) (jv 5)) (zaa (zaq (jv 2) zae) (zaa (zaq (jv 2) zae) zac))))))
  (zah (zbC (zjb rfl n_e (jv 6)) (zdD (zax (zao (i:=7) sc39.nd rfl (ai rfl)) (zax (zao (i:=8) sc39.nd rfl (ai rfl)) zcC)) (glS (glS gl0))) (zad (zan (i:=9) sc39.nd rfl (ai rfl) (zai (x37.zg r) hr rfl x37.zm x37.zk x37.zb (zaa (zai (x32.zg r) hr rfl x32.zm x32.zk x32.zb (zaa (jv 0) (zaa (zbf (zbf (zbf (jv 1) zae) (zsU zae (jv 5))) (jv 7)) zac))) (zaa (zai (x34.zg r) hr rfl x34.zm x34.zk x34.zb (zaa (jv 8) zac)) (zaa (jv 2) zac)))))
  (zah (zbb (zbr (jv 4) (zaa (zas (zaa (zaq (jv 3) (zbw rfl n_l (zaa (jv 4) zac))) (zaa (jv 8) (zaa (jv 9) zac)))) zac)))))))))
  (zah (zam (jv 4)))))
theorem o40 (F:Fun K "_law_plan" "_law_plan" s40 f d) (x34:C34 P w K mg base) (n_l:mg "len" =none) (n_m:mg "min" =none):Ok P w K mg base f d ["cells", "book", "w", "room"] zcE:=zcL rfl λr ih=>zaQ F sc40 rfl rfl λ_ _ _ _ _ _ hr=>(zad (zan (i:=4) sc40.nd rfl (ai rfl) (zaC (zaK zac)))
  (zad (zan (i:=5) sc40.nd rfl (ai rfl) zae)
  (zad (zbC (zbl (jv 0)) (zao (i:=6) sc40.nd rfl (ai rfl)) (zad (zan (i:=7) sc40.nd rfl (ai rfl) (zci (jv 6) zae))
  (zad (zan (i:=8) sc40.nd rfl (ai rfl) (zmS (zaK (zaa zae (zaa zae (zaa zae (zaa zae zac))))) (zqx rfl n_m (zaa (jv 7) (zaa zae zac)))))
  (zad (zan (i:=9) sc40.nd rfl (ai rfl) (zas (zaa (zfd zae) (zaa zae (zaa (zaq (jv 2) (zmS (zaK (zaa zae (zaa zae (zaa zae (zaa zae zac))))) (zqx rfl n_m (zaa (jv 7) (zaa zae zac))))) zac)))))
  (zad (zaG (zlp (jv 7) zae) (zad (zan (i:=10) sc40.nd rfl (ai rfl) (zci (zcF (jv 6) zae) (zbw rfl n_l (zaa (jv 1) zac))))
  (zad (zan (i:=8) sc40.nd rfl (ai rfl) (zai (x34.zg r) hr rfl x34.zm x34.zk x34.zb (zaa (zaq (zaq (jv 1) (jv 10)) zae) zac)))
  (zad (zan (i:=9) sc40.nd rfl (ai rfl) (zas (zaa (jv 10) (zaa (zci (zcF (jv 6) zae) zae) (zaa zgi zac)))))
  (zah (zan (i:=5) sc40.nd rfl (ai rfl) (zbf (jv 5) zae)))))) zav)
  (zah (zaG (JW.jt (zjx (zlp (jv 3) zae) (zhd (zoM (jv 5) zae)))) (zad (zan (i:=3) sc40.nd rfl (ai rfl) (zjl (jv 3) zae))
  (zad (zan (i:=4) sc40.nd rfl (ai rfl) (zaC (zoB (zxN (zaK (zaa (zas (zaa (zfd zae) (zaa zae (zaa (zaq (jv 2) zae) (zaa (zaC (zaK zac)) zac))))) zac)) (zjl (jv 8) (zbw rfl n_l (zaa (jv 4) zac)))) (jv 4))))
  (zad (zan (i:=11) sc40.nd rfl (ai rfl) (zjl (zbw rfl n_l (zaa (jv 4) zac)) (jv 8)))
  (zah (zan (i:=4) sc40.nd rfl (ai rfl) (zaC (zkZ (zvs (jv 4) zaM (zaI (jv 11))) (zaK (zaa (zbf (jv 9) (zas (zaa (zcS (jv 4) (zaI (jv 11)) zaM) zac))) zac))))))))) zav)))))))
  (zad (zmD (zlp (zbw rfl n_l (zaa (jv 4) zac)) zae) (zah (zan (i:=4) sc40.nd rfl (ai rfl) (zaC (zkZ (zvs (jv 4) zaM (zaI (zfd zae))) (zaK (zaa (zas (zaa (zfd zae) (zaa zae (zaa (zaq (jv 2) zae) (zaa (zcS (jv 4) (zaI (zfd zae)) zaM) zac))))) zac)))))))
  (zah (zam (zmS (zoU (jv 4) (zaK (zaa (zas (zaa (zfd zae) (zaa zae (zaa (zaq (jv 2) zae) (zaa (zaC (zaK zac)) zac))))) zac))) zae)))))))
theorem o41 (F:Fun K "_law_way" "_law_way" s41 f d) (x35:C35 P w K mg base) (b:Binds K d ["plan", "book", "by"] []) (m:mg "_law_way" =ae (.ref f)) (n_t:mg "tuple" =none):Ok P w K mg base f d ["plan", "book", "by"] zcD:=zcL rfl λr ih=>zaQ F sc41 rfl rfl λ_ _ _ _ _ _ hr=>(zad (zph (jv 0) (zdD (zax (zao (i:=3) sc41.nd rfl (ai rfl)) (zax (zao (i:=4) sc41.nd rfl (ai rfl)) (zax (zao (i:=5) sc41.nd rfl (ai rfl)) (zax (zao (i:=6) sc41.nd rfl (ai rfl)) zcC)))) (glS (glS (glS (glS gl0))))))
  (zad (zeK (i:=7) (N:=["one", "book", "by"]) (k:=1) (fr:=[1,2]) sc41.nd rfl (ai rfl) ⟨rfl,by decide +kernel,rfl,rfl,rfl,rfl,rfl,rfl,rfl⟩ (zbl (jv 6)) (λ_ _ _ _=>(zao (i:=0) (show bu [("one" :Str),("book" :Str),("by" :Str)] from by decide +kernel) rfl (ai rfl))) (λ_ _ _ _=>zbL) (λ_ _ _ _=>(zai ih hr rfl m F.kp b (zaa (jv 0) (zaa (jv 1) (zaa (jv 2) zac))))))
  (zad (zaG (zoM (jv 3) zae) (zah (zam (zbf (zas (zaa (jv 5) zac)) (zdo rfl n_t (zaa (jv 7) zac))))) zav)
  (zad (zaG (zdV hr (zci (zcF (jv 4) (jv 2)) zae) zae) (zah (zam (zbf (zas (zaa (zaq (zaq (jv 1) (jv 3)) zae) zac)) (zdo rfl n_t (zaa (jv 7) zac))))) zav)
  (zah (zam (zai (x35.zg r) hr rfl x35.zm x35.zk x35.zb (zaa (zaq (zaq (jv 1) (jv 3)) zae) (zaa (jv 7) zac)))))))))
theorem o42 (F:Fun K "_law_made" "_law_made" s42 f d) (b:Binds K d ["book", "way", "which"] []) (m:mg "_law_made" =ae (.ref f)) (x35:C35 P w K mg base) (n_t:mg "tuple" =none):Ok P w K mg base f d ["book", "way", "which"] zaN:=zcL rfl λr ih=>zaQ F sc42 rfl rfl λ_ _ _ _ _ _ hr=>(zad (zeK (i:=3) (N:=["one", "book", "which"]) (k:=1) (fr:=[0,2]) sc42.nd rfl (ai rfl) ⟨rfl,by decide +kernel,rfl,rfl,rfl,rfl,rfl,rfl,rfl⟩ (zbl (zcS (jv 1) (zaI zae) zaM)) (λ_ _ _ _=>(zao (i:=0) (show bu [("one" :Str),("book" :Str),("which" :Str)] from by decide +kernel) rfl (ai rfl))) (λ_ _ _ _=>zbL) (λ_ _ _ _=>(zai ih hr rfl m F.kp b (zaa (jv 1) (zaa (jv 0) (zaa (jv 2) zac))))))
  (zad (zbC (zbl (jv 0)) (zao (i:=4) sc42.nd rfl (ai rfl)) (zah (zaG (zdV hr (zaq (jv 4) zae) (zaq (jv 1) zae)) (zah (zam (zai (x35.zg r) hr rfl x35.zm x35.zk x35.zb (zaa (zaq (jv 4) (jv 2)) (zaa (jv 3) zac))))) zav)))
  (zah (zam (zbf (zcS (jv 1) zaM (zaI zae)) (zdo rfl n_t (zaa (jv 3) zac)))))))
theorem o43 (F:Fun K "_law_parts" "_law_parts" s43 f d) (b:Binds K d ["side", "shape", "known"] []) (m:mg "_law_parts" =ae (.ref f)) (n_i:mg "isinstance" =none) (n_n:mg "int" =none) (n_z:mg "zip" =none) (n_l:mg "len" =none):Ok P w K mg base f d ["side", "shape", "known"] zbh:=zcL rfl λr ih=>zaQ F sc43 rfl rfl λ_ _ _ _ _ _ hr=>(zad (zaG (zbJ (zeA rfl n_i rfl n_n c7 (jv 0) (by decide) (by decide) (zqU _ (by simp)))) (zad (zaG (zfM hr (zmz hr (jv 2) (jv 0) (jv 1)) (jv 1)) (zah (zam zca)) zav)
  (zad (ztz hr (jv 2) (jv 0) (jv 1))
  (zah (zam (jv 2))))) zav)
  (zad (zaG (JW.jt (zhO (zfM hr (zaq (jv 0) zae) (zaq (jv 1) zae)) (zfC (zfM hr (zbw rfl n_l (zaa (jv 0) zac)) (zbw rfl n_l (zaa (jv 1) zac)))))) (zah (zam zca)) zav)
  (zad (zbC (zkE rfl n_z (zcS (jv 0) (zaI zae) zaM) (zcS (jv 1) (zaI zae) zaM)) (zdD (zax (zao (i:=3) sc43.nd rfl (ai rfl)) (zax (zao (i:=4) sc43.nd rfl (ai rfl)) zcC)) (glS (glS gl0))) (zah (zaG (zka (zai ih hr rfl m F.kp b (zaa (jv 3) (zaa (jv 4) (zaa (jv 2) zac)))) zca) (zah (zam zca)) zav)))
  (zah (zam (jv 2))))))
theorem o44 (F:Fun K "_law_put" "_law_put" s44 f d) (b:Binds K d ["t", "place", "other"] []) (m:mg "_law_put" =ae (.ref f)):Ok P w K mg base f d ["t", "place", "other"] zcB:=zcL rfl λr ih=>zaQ F sc44 rfl rfl λ_ _ _ _ _ _ hr=>(zad (zaG (zdV hr (jv 1) (zas zac)) (zah (zam (jv 2))) zav)
  (zad (zan (i:=3) sc44.nd rfl (ai rfl) (zbf (zaq (jv 1) zae) zae))
  (zah (zam (zbf (zbf (zcS (jv 0) zaM (zaI (jv 3))) (zas (zaa (zai ih hr rfl m F.kp b (zaa (zaq (jv 0) (jv 3)) (zaa (zcS (jv 1) (zaI zae) zaM) (zaa (jv 2) zac)))) zac))) (zcS (jv 0) (zaI (zbf (jv 3) zae)) zaM))))))
theorem o45 (F:Fun K "_law_places" "_law_places" s45 f d) (b:Binds K d ["t"] []) (m:mg "_law_places" =ae (.ref f)) (n_e:mg "enumerate" =none):Ok P w K mg base f d ["t"] zaF:=zcL rfl λr ih=>zaQ F sc45 rfl rfl λ_ _ _ _ _ _ hr=>(zad (zan (i:=1) sc45.nd rfl (ai rfl) (zaC (zaK (zaa (zas zac) zac))))
  (zad (zbC (zjb rfl n_e (zcS (jv 0) (zaI zae) zaM)) (zdD (zax (zao (i:=2) sc45.nd rfl (cu rfl)) (zax (zao (i:=3) sc45.nd rfl (ai rfl)) zcC)) (glS (glS gl0))) (zah (zan (i:=1) sc45.nd rfl (ai rfl) (zaC (zoU (jv 1) (zdi (N:=["place", "i"]) (k:=1) (fr:=[2]) ⟨rfl,by decide +kernel,rfl,rfl,rfl,rfl,rfl,rfl,rfl⟩ (zbl (zai ih hr rfl m F.kp b (zaa (jv 3) zac))) (λ_ _ _ _=>(zao (i:=0) (show bu [("place" :Str),("i" :Str)] from by decide +kernel) rfl (ai rfl))) (λ_ _ _ _=>zbL) (λ_ _ _ _=>(zbf (zas (zaa (jv 1) zac)) (jv 0)))))))))
  (zah (zam (jv 1)))))
theorem o46 (F:Fun K "_law_at" "_law_at" s46 f d):Ok P w K mg base f d ["t", "place"] zcg:=zcL rfl λr ih=>zaQ F sc46 rfl rfl λ_ _ _ _ _ _ hr=>(zad (zbC (zbl (jv 1)) (zao (i:=2) sc46.nd rfl (ai rfl)) (zah (zan (i:=0) sc46.nd rfl (ai rfl) (zaq (jv 0) (zbf (jv 2) zae)))))
  (zah (zam (jv 0))))
theorem o47 (F:Fun K "_law_back" "_law_back" s47 f d) (x45:C45 P w K mg base) (x43:C43 P w K mg base) (x44:C44 P w K mg base) (x46:C46 P w K mg base) (x34:C34 P w K mg base) (n_l:mg "len" =none) (n_r:mg "range" =none) (n_t:mg "tuple" =none):Ok P w K mg base f d ["book", "here", "cell", "c"] zdj:=zcL rfl λr ih=>zaQ F sc47 rfl rfl λ_ _ _ _ _ _ hr=>(zad (zph (zaq (jv 0) (zci (jv 2) (zbw rfl n_l (zaa (jv 0) zac)))) (zdD (zax (zao (i:=4) sc47.nd rfl (ai rfl)) (zax (zao (i:=5) sc47.nd rfl (ai rfl)) (zax (zao (i:=6) sc47.nd rfl (ai rfl)) zcC))) (glS (glS (glS gl0)))))
  (zad (zan (i:=7) sc47.nd rfl (ai rfl) (zai (x45.zg r) hr rfl x45.zm x45.zk x45.zb (zaa (jv 1) zac)))
  (zad (zan (i:=8) sc47.nd rfl (ai rfl) (zaq (jv 7) (zci (zcF (jv 2) zae) (zbw rfl n_l (zaa (jv 7) zac)))))
  (zad (zan (i:=9) sc47.nd rfl (cu rfl) (zai (x43.zg r) hr rfl x43.zm x43.zk x43.zb (zaa (jv 6) (zaa (zai (x46.zg r) hr rfl x46.zm x46.zk x46.zb (zaa (jv 1) (zaa (jv 8) zac))) (zaa zvo zac)))))
  (zad (zaG (zka (jv 9) zca) (zah (zam (jv 1))) zav)
  (zad (zeK (i:=10) (N:=["n", "parts", "c"]) (k:=1) (fr:=[9,3]) sc47.nd rfl (ai rfl) ⟨rfl,by decide +kernel,rfl,rfl,rfl,rfl,rfl,rfl,rfl⟩ (zep rfl n_r (zaa (zai (x34.zg r) hr rfl x34.zm x34.zk x34.zb (zaa (jv 5) zac)) zac)) (λ_ _ _ _=>(zao (i:=0) (show bu [("n" :Str),("parts" :Str),("c" :Str)] from by decide +kernel) rfl (ai rfl))) (λ_ _ _ _=>zbL) (λ_ _ _ _=>(zmz hr (jv 1) (jv 0) (zas (zaa (jv 2) zac)))))
  (zah (zam (zai (x44.zg r) hr rfl x44.zm x44.zk x44.zb (zaa (jv 1) (zaa (jv 8) (zaa (zbf (zas (zaa (jv 4) zac)) (zdo rfl n_t (zaa (jv 10) zac))) zac))))))))))))
theorem o48 (F:Fun K "_law_on" "_law_on" s48 f d) (x25:C25 P w K mg base) (x20:C20 P w K mg base) (n_l:mg "len" =none):Ok P w K mg base f d ["book", "here", "cell"] zei:=zcL rfl λr ih=>zaQ F sc48 rfl rfl λ_ _ _ _ _ _ hr=>(zad (zeK (i:=3) (N:=["one"]) (k:=1) (fr:=[]) sc48.nd rfl (ai rfl) ⟨rfl,by decide +kernel,rfl,rfl,rfl,rfl,rfl,rfl,rfl⟩ (zbl (zai (x20.zg r) hr rfl x20.zm x20.zk x20.zb (zaa (jv 0) (zaa (jv 1) zac)))) (λ_ _ _ _=>(zao (i:=0) (show bu [("one" :Str)] from by decide +kernel) rfl (ai rfl))) (λ_ _ _ _=>zbL) (λ_ _ _ _=>(zaq (jv 0) zae)))
  (zad (zaG (zdV hr (jv 3) (zaC (zaK zac))) (zah (zam (jv 1))) zav)
  (zah (zam (zai (x25.zg r) hr rfl x25.zm x25.zk x25.zb (zaa (jv 0) (zaa (jv 1) (zaa (zaC (zaK (zaa (zaq (jv 3) (zci (jv 2) (zbw rfl n_l (zaa (jv 3) zac)))) zac))) zac))))))))
theorem o49 (F:Fun K "_law_winding" "_law_winding" s49 f d) (x48:C48 P w K mg base) (x42:C42 P w K mg base) (x47:C47 P w K mg base) (n_l:mg "len" =none):Ok P w K mg base f d ["book", "shape", "cells", "limit", "c"] zbS:=zcL rfl λr ih=>zaQ F sc49 rfl rfl λ_ _ _ _ _ _ hr=>(zad (zan (i:=5) sc49.nd rfl (ai rfl) (zaC (zaK zac)))
  (zad (zan (i:=6) sc49.nd rfl (ai rfl) (jv 1))
  (zad (zbC (zbl (jv 2)) (zao (i:=7) sc49.nd rfl (ai rfl)) (zah (zaG (zoM (zbw rfl n_l (zaa (jv 5) zac)) (jv 3)) (zad (zan (i:=8) sc49.nd rfl (ai rfl) (znN hr (zci (jv 7) zae) zae))
  (zad (zaG (zbJ (jv 8)) (zad (zan (i:=9) sc49.nd rfl (ai rfl) (zai (x48.zg r) hr rfl x48.zm x48.zk x48.zb (zaa (jv 0) (zaa (jv 6) (zaa (zcF (jv 7) zae) zac)))))
  (zah (zan (i:=6) sc49.nd rfl (ai rfl) (zai (x42.zg r) hr rfl x42.zm x42.zk x42.zb (zaa (jv 0) (zaa (jv 9) (zaa zae zac))))))) (zad (zan (i:=9) sc49.nd rfl (ai rfl) (zai (x47.zg r) hr rfl x47.zm x47.zk x47.zb (zaa (jv 0) (zaa (jv 6) (zaa (zcF (jv 7) zae) (zaa (jv 4) zac))))))
  (zah (zan (i:=6) sc49.nd rfl (ai rfl) (zai (x42.zg r) hr rfl x42.zm x42.zk x42.zb (zaa (jv 0) (zaa (jv 9) (zaa zae zac))))))))
  (zah (zbb (zbr (jv 5) (zaa (zas (zaa (jv 9) (zaa (jv 8) zac))) zac)))))) zav)))
  (zah (zam (zas (zaa (jv 5) (zaa (jv 6) zac))))))))
theorem o50 (F:Fun K "_law_walked" "_law_walked" s50 f d) (x42:C42 P w K mg base) (n_i:mg "isinstance" =none) (n_t:mg "tuple" =none) (n_l:mg "len" =none) (n_s:mg "list" =none):Ok P w K mg base f d ["book", "road"] zbH:=zcL rfl λr ih=>by
  refine zaQ F sc50 rfl rfl λ_ _ _ _ _ _ hr=>?_;delta zce zbs zbV zcl zcq zch;delta zcj;delta zce zbs zbV zcl zcq zch;exact(zad (zaG (JW.jt (zhO (zgl (zbJ (zeA rfl n_i rfl n_t f_ (jv 1) (by decide) (by decide) (zqU _ (by simp))))) (zhO (zfM hr (zbw rfl n_l (zaa (jv 1) zac)) zae) (zfC (zgl (zbJ (zeA rfl n_i rfl n_s ko (zaq (jv 1) zae) (by decide) (by decide) (zqU _ (by simp))))))))) (zah (zam zca)) zav)
  (zad (zan (i:=2) sc50.nd rfl (ai rfl) (zaq (jv 1) zae))
  (zad (zbC (zbl (zaq (jv 1) zae)) (zao (i:=3) sc50.nd rfl (ai rfl)) (zad (zaG (zfM hr (zai (x42.zg r) hr rfl x42.zm x42.zk x42.zb (zaa (jv 0) (zaa (jv 3) (zaa zae zac)))) (jv 2)) (zah (zam zca)) zav)
  (zah (zan (i:=2) sc50.nd rfl (ai rfl) (zai (x42.zg r) hr rfl x42.zm x42.zk x42.zb (zaa (jv 0) (zaa (jv 3) (zaa zae zac))))))))
  (zah (zam (jv 2))))))
theorem o51 (F:Fun K "_law_closed" "_law_closed" s51 f d) (x50:C50 P w K mg base) (n_l:mg "len" =none) (n_i:mg "isinstance" =none) (n_t:mg "tuple" =none):Ok P w K mg base f d ["book", "shape", "steps", "last", "found"] zbI:=zcL rfl λr ih=>zaQ F sc51 rfl rfl λ_ _ _ _ _ _ hr=>(zad (zaG (JW.jt (zhO (zgl (zbJ (zeA rfl n_i rfl n_t f_ (jv 4) (by decide) (by decide) (zqU _ (by simp))))) (zfC (zfM hr (zbw rfl n_l (zaa (jv 4) zac)) zae)))) (zah (zam zfr)) zav)
  (zad (zan (i:=5) sc51.nd rfl (ai rfl) (zai (x50.zg r) hr rfl x50.zm x50.zk x50.zb (zaa (jv 0) (zaa (zaq (jv 4) zae) zac))))
  (zad (zaG (JW.jt (zhO (zka (jv 5) zca) (zfC (zfM hr (jv 5) (zai (x50.zg r) hr rfl x50.zm x50.zk x50.zb (zaa (jv 0) (zaa (zaq (jv 4) zae) zac))))))) (zah (zam zfr)) zav)
  (zad (zaG (JW.jt (zhO (zfM hr (zaq (zaq (jv 4) zae) zae) (jv 1)) (zfC (zfM hr (zaq (zaq (jv 4) zae) zae) (jv 3))))) (zah (zam zfr)) zav)
  (zad (zan (i:=6) sc51.nd rfl (ai rfl) (zbw rfl n_l (zaa (zaC (zdi (N:=["step"]) (k:=1) (fr:=[]) ⟨rfl,by decide +kernel,rfl,rfl,rfl,rfl,rfl,rfl,rfl⟩ (zbl (jv 2)) (λ_ _ _ _=>(zao (i:=0) (show bu [("step" :Str)] from by decide +kernel) rfl (ai rfl))) (λ_ _ _ _=>(zqp (zbJ (zaq (jv 0) zae)))) (λ_ _ _ _=>(jv 0)))) zac)))
  (zah (zam (zsH (znN hr (zbw rfl n_l (zaa (zaq (zaq (jv 4) zae) zae) zac)) (jv 6)) (zsS (znN hr (zbw rfl n_l (zaa (zaq (zaq (jv 4) zae) zae) zac)) (zjl (zbw rfl n_l (zaa (jv 2) zac)) (jv 6))))))))))))
theorem o52 (F:Fun K "law" "law" s52 f d) (x33:C33 P w K mg base) (x39:C39 P w K mg base) (x41:C41 P w K mg base) (x49:C49 P w K mg base) (x31:C31 P w K mg base) (x51:C51 P w K mg base) (x32:C32 P w K mg base) (x40:C40 P w K mg base) (n_s:mg "list" =none):Ok P w K mg base f d ["script"] zdB:=zcL rfl λr ih=>by
  refine zaQ F sc52 rfl rfl λ_ _ _ _ _ _ hr=>?_;delta zec zdr zds zdH zdN zdL zdQ zdM zdO zeQ zeL zeP;exact(zad (zan (i:=1) sc52.nd rfl (ai rfl) (zai (x33.zg r) hr rfl x33.zm x33.zk x33.zb (zaa (zai (x32.zg r) hr rfl x32.zm x32.zk x32.zb (zaa (jv 0) (zaa zae zac))) (zaa (zai (x32.zg r) hr rfl x32.zm x32.zk x32.zb (zaa (jv 0) (zaa zae zac))) (zaa zfr zac)))))
  (zad (zan (i:=2) sc52.nd rfl (ai rfl) (zai (x33.zg r) hr rfl x33.zm x33.zk x33.zb (zaa (zai (x32.zg r) hr rfl x32.zm x32.zk x32.zb (zaa (jv 0) (zaa zae zac))) (zaa (zai (x32.zg r) hr rfl x32.zm x32.zk x32.zb (zaa (jv 0) (zaa zae zac))) (zaa zfr zac)))))
  (zad (zan (i:=3) sc52.nd rfl (ai rfl) (zai (x39.zg r) hr rfl x39.zm x39.zk x39.zb (zaa (jv 0) (zaa zae (zaa (jv 1) (zaa (jv 2) zac))))))
  (zad (zan (i:=4) sc52.nd rfl (ai rfl) (zai (x41.zg r) hr rfl x41.zm x41.zk x41.zb (zaa (zai (x40.zg r) hr rfl x40.zm x40.zk x40.zb (zaa (zcS (jv 0) (zaI zae) zaM) (zaa (jv 3) (zaa (jv 1) (zaa zae zac))))) (zaa (jv 3) (zaa zae zac)))))
  (zad (zph (zai (x49.zg r) hr rfl x49.zm x49.zk x49.zb (zaa (jv 3) (zaa (jv 4) (zaa (zcS (jv 0) (zaI zae) (zaI zae)) (zaa zae (zaa (zaq (jv 1) zae) zac)))))) (zdD (zax (zao (i:=5) sc52.nd rfl (ai rfl)) (zax (zao (i:=6) sc52.nd rfl (ai rfl)) zcC)) (glS (glS gl0))))
  (zad (zan (i:=7) sc52.nd rfl (ai rfl) (zaC (zld rfl n_s (jv 5))))
  (zad (zan (i:=8) sc52.nd rfl (ai rfl) (zai (x31.zg r) hr rfl x31.zm x31.zk x31.zb (zaa (jv 3) (zaa (jv 4) (zaa (jv 7) zac)))))
  (zad (zaG (JW.jt (zhO (zfM hr (jv 7) (jv 5)) (zfC (zgl (zbJ (zai (x51.zg r) hr rfl x51.zm x51.zk x51.zb (zaa (jv 3) (zaa (jv 4) (zaa (jv 5) (zaa (jv 6) (zaa (jv 8) zac))))))))))) (zah (zam zfr)) zav)
  (zad (zan (i:=9) sc52.nd rfl (ai rfl) (zaC (zld rfl n_s (zaq (zaq (jv 8) zae) zae))))
  (zad (zbb (zbr (zaq (zaq (jv 8) zae) zae) (zaa (jv 4) zac)))
  (zad (zaG (zfM hr (zaq (zaq (jv 8) zae) zae) (jv 9)) (zah (zam zfr)) zav)
  (zah (zam (zai (x51.zg r) hr rfl x51.zm x51.zk x51.zb (zaa (jv 3) (zaa (jv 4) (zaa (jv 5) (zaa (jv 6) (zaa (zai (x31.zg r) hr rfl x31.zm x31.zk x31.zb (zaa (jv 3) (zaa (jv 4) (zaa (jv 5) zac)))) zac)))))))))))))))))))
end
theorem all_mk{l:gP}{w:aB}{K:aj}{h:Heap}{mg:Str→Option Value}{fa:Addr}(X:K.In h) (G:h.Ns aL mg) (hfa:mg "law" =ae (.ref fa))
  (D0:Dfn K "parts_of" s0)
  (D1:Dfn K "parts_of_all" s1)
  (D2:Dfn K "is_small" s2)
  (D4:Dfn K "places" s4)
  (D3:Dfn K "gather_places" s3)
  (D6:Dfn K "part" s6)
  (D5:Dfn K "numbered_part" s5)
  (D7:Dfn K "blank_places" s7)
  (D8:Dfn K "filled" s8)
  (D11:Dfn K "matched" s11)
  (D10:Dfn K "gather_matched" s10)
  (D9:Dfn K "have_one_top" s9)
  (D12:Dfn K "turning_of" s12)
  (D15:Dfn K "source" s15)
  (D16:Dfn K "goal" s16)
  (D13:Dfn K "only_small" s13)
  (D14:Dfn K "with_sides" s14)
  (D17:Dfn K "part_places" s17)
  (D20:Dfn K "open_uses" s20)
  (D19:Dfn K "gather_open" s19)
  (D18:Dfn K "open_turning" s18)
  (D21:Dfn K "places_of" s21)
  (D25:Dfn K "way_of" s25)
  (D24:Dfn K "way_with" s24)
  (D23:Dfn K "way_within" s23)
  (D22:Dfn K "turned_top" s22)
  (D26:Dfn K "moved" s26)
  (D29:Dfn K "grid" s29)
  (D28:Dfn K "moved_along" s28)
  (D27:Dfn K "check_goals" s27)
  (D30:Dfn K "last_downs" s30)
  (D31:Dfn K "valley" s31)
  (D32:Dfn K "_law_cell" s32)
  (D33:Dfn K "_law_words" s33)
  (D34:Dfn K "_law_count" s34)
  (D35:Dfn K "_law_filled" s35)
  (D36:Dfn K "_law_item" s36)
  (D37:Dfn K "_law_right" s37)
  (D38:Dfn K "_law_lefts" s38)
  (D39:Dfn K "_law_book" s39)
  (D40:Dfn K "_law_plan" s40)
  (D41:Dfn K "_law_way" s41)
  (D42:Dfn K "_law_made" s42)
  (D43:Dfn K "_law_parts" s43)
  (D44:Dfn K "_law_put" s44)
  (D45:Dfn K "_law_places" s45)
  (D46:Dfn K "_law_at" s46)
  (D47:Dfn K "_law_back" s47)
  (D48:Dfn K "_law_on" s48)
  (D49:Dfn K "_law_winding" s49)
  (D50:Dfn K "_law_walked" s50)
  (D51:Dfn K "_law_closed" s51)
  (D52:Dfn K "law" s52)
  (z_ValueError:aZ K aL "ValueError" =ae none)
  (z_d:aZ K aL "dict" =ae none)
  (z_e:aZ K aL "enumerate" =ae none)
  (z_n:aZ K aL "int" =ae none)
  (z_i:aZ K aL "isinstance" =ae none)
  (z_l:aZ K aL "len" =ae none)
  (z_s:aZ K aL "list" =ae none)
  (z_m:aZ K aL "min" =ae none)
  (z_r:aZ K aL "range" =ae none)
  (z_u:aZ K aL "sum" =ae none)
  (z_t:aZ K aL "tuple" =ae none)
  (z_z:aZ K aL "zip" =ae none)
  {t_MOST_HEAVY:bc}(z_MOST_HEAVY:aZ K aL "MOST_HEAVY" =ae (ae (.int 400 t_MOST_HEAVY)))
  {t_MOST_DEEP:bc}(z_MOST_DEEP:aZ K aL "MOST_DEEP" =ae (ae (.int 40 t_MOST_DEEP)))
  {t_LEFT:bc}(z_LEFT:aZ K aL "LEFT" =ae (ae (.int 1 t_LEFT)))
  {t_RIGHT:bc}(z_RIGHT:aZ K aL "RIGHT" =ae (ae (.int 2 t_RIGHT)))
  {C_Apart:Addr}(z_Apart:aZ K aL "Apart" =ae (ae (.ref C_Apart)))
  {C_NoPlace:Addr}(z_NoPlace:aZ K aL "NoPlace" =ae (ae (.ref C_NoPlace)))
  {C_NoUse:Addr}(z_NoUse:aZ K aL "NoUse" =ae (ae (.ref C_NoUse)))
  {C_TooGreat:Addr}(z_TooGreat:aZ K aL "TooGreat" =ae (ae (.ref C_TooGreat)))
  (za_Apart:eC K C_Apart bmV "ValueError.__new__" =true) (zb_Apart:bN K (.ref C_Apart) "__getattribute__" =ae (ae (.builtin "BaseException.__getattribute__"))) (zc_Apart:bN K (.ref C_Apart) "__getattr__" =ae none) (zd_Apart:bN K (.ref C_Apart) "__class__" =ae (ae (.builtin "object.__class__"))) (ze_Apart:cT K C_Apart (.type "object")=ae true) (zf_Apart:cT K C_Apart (.type "BaseException")=ae true)
  (za_NoPlace:eC K C_NoPlace bmV "ValueError.__new__" =true) (zb_NoPlace:bN K (.ref C_NoPlace) "__getattribute__" =ae (ae (.builtin "BaseException.__getattribute__"))) (zc_NoPlace:bN K (.ref C_NoPlace) "__getattr__" =ae none) (zd_NoPlace:bN K (.ref C_NoPlace) "__class__" =ae (ae (.builtin "object.__class__"))) (ze_NoPlace:cT K C_NoPlace (.type "object")=ae true) (zf_NoPlace:cT K C_NoPlace (.type "BaseException")=ae true)
  (za_NoUse:eC K C_NoUse bmV "ValueError.__new__" =true) (zb_NoUse:bN K (.ref C_NoUse) "__getattribute__" =ae (ae (.builtin "BaseException.__getattribute__"))) (zc_NoUse:bN K (.ref C_NoUse) "__getattr__" =ae none) (zd_NoUse:bN K (.ref C_NoUse) "__class__" =ae (ae (.builtin "object.__class__"))) (ze_NoUse:cT K C_NoUse (.type "object")=ae true) (zf_NoUse:cT K C_NoUse (.type "BaseException")=ae true)
  (za_TooGreat:eC K C_TooGreat bmV "ValueError.__new__" =true) (zb_TooGreat:bN K (.ref C_TooGreat) "__getattribute__" =ae (ae (.builtin "BaseException.__getattribute__"))) (zc_TooGreat:bN K (.ref C_TooGreat) "__getattr__" =ae none) (zd_TooGreat:bN K (.ref C_TooGreat) "__class__" =ae (ae (.builtin "object.__class__"))) (ze_TooGreat:cT K C_TooGreat (.type "object")=ae true) (zf_TooGreat:cT K C_TooGreat (.type "BaseException")=ae true)
  :∃fd:bC,(∀(s:ah) (v:Value),dU s fd ⟨[v],[]⟩ [("script",v)])∧ ∀base:Heap,K.In base→base.Ns aL mg→FnOk l.prog w K mg base (CX1 l.prog w) 200 fa fd ["script"] (zda K (zdB 200)):=by
 obtain⟨f52,d52,a52,F52⟩:=D52;have e:=hfa.symm.trans (bb X G a52);cases e;have n_ValueError:=b4 X G z_ValueError;have n_d:=b4 X G z_d;have n_e:=b4 X G z_e;have n_n:=b4 X G z_n;have n_i:=b4 X G z_i;have n_l:=b4 X G z_l;have n_s:=b4 X G z_s;have n_m:=b4 X G z_m;have n_r:=b4 X G z_r;have n_u:=b4 X G z_u;have n_t:=b4 X G z_t;have n_z:=b4 X G z_z;have g_MOST_HEAVY:=bb X G z_MOST_HEAVY;have g_MOST_DEEP:=bb X G z_MOST_DEEP;have g_LEFT:=bb X G z_LEFT;have g_RIGHT:=bb X G z_RIGHT;refine⟨d52,λs v=>?_,λbase _ _=>?_⟩
 ·obtain⟨oc,od,kV,doc,pm,an,cdv,ct,osl,rfl,lk,hcd⟩:=F52.ex;exact .of_eq rfl
 obtain⟨f,d,a,F⟩:=D0;have x0:=mkC (base:=base) X G F a (o0 (P:=l.prog) (w:=w) F n_i n_n) (F.binds λ_ _ _ _ _ _=>n1 λ_=>rfl);obtain⟨f,d,a,F⟩:=D1;have x1:=mkC (base:=base) X G F a (o1 (P:=l.prog) (w:=w) F x0) (F.binds λ_ _ _ _ _ _=>n1 λ_=>rfl);obtain⟨f,d,a,F⟩:=D2;have x2:=mkC (base:=base) X G F a (o2 (P:=l.prog) (w:=w) F x1 n_l g_MOST_HEAVY g_MOST_DEEP) (F.binds λ_ _ _ _ _ _=>n1 λ_=>rfl);obtain⟨f,d,a,F⟩:=D3;have x3:=mkC (base:=base) X G F a (o3 (P:=l.prog) (w:=w) F x0 (F.binds λ_ _ _ _ _ _=>n3 λ_ _ _=>rfl) (bb X G a) n_e) (F.binds λ_ _ _ _ _ _=>n3 λ_ _ _=>rfl);obtain⟨f,d,a,F⟩:=D4;have x4:=mkC (base:=base) X G F a (o4 (P:=l.prog) (w:=w) F x3) (F.binds λ_ _ _ _ _ _=>n1 λ_=>rfl);obtain⟨f,d,a,F⟩:=D5;have x5:=mkC (base:=base) X G F a (o5 (P:=l.prog) (w:=w) F x0 n_l ⟨C_NoPlace,bb X G z_NoPlace⟩ ⟨z_NoPlace,za_NoPlace,⟨zb_NoPlace,zc_NoPlace,zd_NoPlace,ze_NoPlace,zf_NoPlace⟩⟩) (F.binds λ_ _ _ _ _ _=>n2 λ_ _=>rfl);obtain⟨f,d,a,F⟩:=D6;have x6:=mkC (base:=base) X G F a (o6 (P:=l.prog) (w:=w) F x5) (F.binds λ_ _ _ _ _ _=>n2 λ_ _=>rfl);obtain⟨f,d,a,F⟩:=D7;have x7:=mkC (base:=base) X G F a (o7 (P:=l.prog) (w:=w) F x4 x6 n_i n_n) (F.binds λ_ _ _ _ _ _=>n1 λ_=>rfl);obtain⟨f,d,a,F⟩:=D8;have x8:=mkC (base:=base) X G F a (o8 (P:=l.prog) (w:=w) F (F.binds λ_ _ _ _ _ _=>n2 λ_ _=>rfl) (bb X G a) n_i n_n n_t) (F.binds λ_ _ _ _ _ _=>n2 λ_ _=>rfl);obtain⟨f,d,a,F⟩:=D9;have x9:=mkC (base:=base) X G F a (o9 (P:=l.prog) (w:=w) F n_l) (F.binds λ_ _ _ _ _ _=>n2 λ_ _=>rfl);obtain⟨f,d,a,F⟩:=D10;have x10:=mkC (base:=base) X G F a (o10 (P:=l.prog) (w:=w) F x9 (F.binds λ_ _ _ _ _ _=>n3 λ_ _ _=>rfl) (bb X G a) n_i n_n n_z) (F.binds λ_ _ _ _ _ _=>n3 λ_ _ _=>rfl);obtain⟨f,d,a,F⟩:=D11;have x11:=mkC (base:=base) X G F a (o11 (P:=l.prog) (w:=w) F x10) (F.binds λ_ _ _ _ _ _=>n2 λ_ _=>rfl);obtain⟨f,d,a,F⟩:=D12;have x12:=mkC (base:=base) X G F a (o12 (P:=l.prog) (w:=w) F) (F.binds λ_ _ _ _ _ _=>n2 λ_ _=>rfl);obtain⟨f,d,a,F⟩:=D13;have x13:=mkC (base:=base) X G F a (o13 (P:=l.prog) (w:=w) F x2 ⟨C_TooGreat,bb X G z_TooGreat⟩ ⟨z_TooGreat,za_TooGreat,⟨zb_TooGreat,zc_TooGreat,zd_TooGreat,ze_TooGreat,zf_TooGreat⟩⟩) (F.binds λ_ _ _ _ _ _=>n1 λ_=>rfl);obtain⟨f,d,a,F⟩:=D14;have x14:=mkC (base:=base) X G F a (o14 (P:=l.prog) (w:=w) F x12 x8 (F.binds λ_ _ _ _ _ _=>n3 λ_ _ _=>rfl) (bb X G a) n_t) (F.binds λ_ _ _ _ _ _=>n3 λ_ _ _=>rfl);obtain⟨f,d,a,F⟩:=D15;have x15:=mkC (base:=base) X G F a (o15 (P:=l.prog) (w:=w) F x13 x14 g_LEFT) (F.binds λ_ _ _ _ _ _=>n2 λ_ _=>rfl);obtain⟨f,d,a,F⟩:=D16;have x16:=mkC (base:=base) X G F a (o16 (P:=l.prog) (w:=w) F x13 x14 g_RIGHT) (F.binds λ_ _ _ _ _ _=>n2 λ_ _=>rfl);obtain⟨f,d,a,F⟩:=D17;have x17:=mkC (base:=base) X G F a (o17 (P:=l.prog) (w:=w) F x12 x7 n_r n_l g_LEFT) (F.binds λ_ _ _ _ _ _=>n2 λ_ _=>rfl);obtain⟨f,d,a,F⟩:=D18;have x18:=mkC (base:=base) X G F a (o18 (P:=l.prog) (w:=w) F x11 g_LEFT) (F.binds λ_ _ _ _ _ _=>n2 λ_ _=>rfl);obtain⟨f,d,a,F⟩:=D19;have x19:=mkC (base:=base) X G F a (o19 (P:=l.prog) (w:=w) F x18 (F.binds λ_ _ _ _ _ _=>n4 λ_ _ _ _=>rfl) (bb X G a) n_e) (F.binds λ_ _ _ _ _ _=>n4 λ_ _ _ _=>rfl);obtain⟨f,d,a,F⟩:=D20;have x20:=mkC (base:=base) X G F a (o20 (P:=l.prog) (w:=w) F x19) (F.binds λ_ _ _ _ _ _=>n2 λ_ _=>rfl);obtain⟨f,d,a,F⟩:=D21;have x21:=mkC (base:=base) X G F a (o21 (P:=l.prog) (w:=w) F) (F.binds λ_ _ _ _ _ _=>n1 λ_=>rfl);obtain⟨f,d,a,F⟩:=D22;have x22:=mkC (base:=base) X G F a (o22 (P:=l.prog) (w:=w) F x18 x11 n_t g_LEFT) (F.binds λ_ _ _ _ _ _=>n2 λ_ _=>rfl);obtain⟨f,d,a,F⟩:=D23;have x23:=mkC (base:=base) X G F a (o23 (P:=l.prog) (w:=w) F x22 x17 (F.binds λ_ _ _ _ _ _=>n4 λ_ _ _ _=>rfl) (bb X G a) n_z n_t) (F.binds λ_ _ _ _ _ _=>n4 λ_ _ _ _=>rfl);obtain⟨f,d,a,F⟩:=D24;have x24:=mkC (base:=base) X G F a (o24 (P:=l.prog) (w:=w) F x23 n_d) (F.binds λ_ _ _ _ _ _=>n3 λ_ _ _=>rfl);obtain⟨f,d,a,F⟩:=D25;have x25:=mkC (base:=base) X G F a (o25 (P:=l.prog) (w:=w) F x21 x24 x20 ⟨C_NoUse,bb X G z_NoUse⟩ ⟨z_NoUse,za_NoUse,⟨zb_NoUse,zc_NoUse,zd_NoUse,ze_NoUse,zf_NoUse⟩⟩) (F.binds λ_ _ _ _ _ _=>n3 λ_ _ _=>rfl);obtain⟨f,d,a,F⟩:=D26;have x26:=mkC (base:=base) X G F a (o26 (P:=l.prog) (w:=w) F x12 x8 x11 (F.binds λ_ _ _ _ _ _=>n3 λ_ _ _=>rfl) (bb X G a) n_z n_t g_RIGHT g_LEFT) (F.binds λ_ _ _ _ _ _=>n3 λ_ _ _=>rfl);obtain⟨f,d,a,F⟩:=D27;have x27:=mkC (base:=base) X G F a (o27 (P:=l.prog) (w:=w) F x16) (F.binds λ_ _ _ _ _ _=>n2 λ_ _=>rfl);obtain⟨f,d,a,F⟩:=D28;have x28:=mkC (base:=base) X G F a (o28 (P:=l.prog) (w:=w) F x26 x27) (F.binds λ_ _ _ _ _ _=>n3 λ_ _ _=>rfl);obtain⟨f,d,a,F⟩:=D29;have x29:=mkC (base:=base) X G F a (o29 (P:=l.prog) (w:=w) F x13 x27 x28 x26 n_s n_z ⟨C_Apart,bb X G z_Apart⟩ ⟨z_Apart,za_Apart,⟨zb_Apart,zc_Apart,zd_Apart,ze_Apart,zf_Apart⟩⟩) (F.binds λ_ _ _ _ _ _=>n3 λ_ _ _=>rfl);obtain⟨f,d,a,F⟩:=D30;have x30:=mkC (base:=base) X G F a (o30 (P:=l.prog) (w:=w) F) (F.binds λ_ _ _ _ _ _=>n1 λ_=>rfl);obtain⟨f,d,a,F⟩:=D31;have x31:=mkC (base:=base) X G F a (o31 (P:=l.prog) (w:=w) F x15 x16 x29 x30 ⟨C_Apart,bb X G z_Apart⟩ ⟨z_Apart,za_Apart,⟨zb_Apart,zc_Apart,zd_Apart,ze_Apart,zf_Apart⟩⟩) (F.binds λ_ _ _ _ _ _=>n3 λ_ _ _=>rfl);obtain⟨f,d,a,F⟩:=D32;have x32:=mkC (base:=base) X G F a (o32 (P:=l.prog) (w:=w) F n_l) (F.binds λ_ _ _ _ _ _=>n2 λ_ _=>rfl);obtain⟨f,d,a,F⟩:=D33;have x33:=mkC (base:=base) X G F a (o33 (P:=l.prog) (w:=w) F n_r n_l n_n) (F.binds λ_ _ _ _ _ _=>n3 λ_ _ _=>rfl);obtain⟨f,d,a,F⟩:=D34;have x34:=mkC (base:=base) X G F a (o34 (P:=l.prog) (w:=w) F (F.binds λ_ _ _ _ _ _=>n1 λ_=>rfl) (bb X G a) n_i n_n n_u) (F.binds λ_ _ _ _ _ _=>n1 λ_=>rfl);obtain⟨f,d,a,F⟩:=D35;have x35:=mkC (base:=base) X G F a (o35 (P:=l.prog) (w:=w) F (F.binds λ_ _ _ _ _ _=>n2 λ_ _=>rfl) (bb X G a) n_i n_n n_t) (F.binds λ_ _ _ _ _ _=>n2 λ_ _=>rfl);obtain⟨f,d,a,F⟩:=D36;have x36:=mkC (base:=base) X G F a (o36 (P:=l.prog) (w:=w) F) (F.binds λ_ _ _ _ _ _=>n3 λ_ _ _=>rfl);obtain⟨f,d,a,F⟩:=D37;have x37:=mkC (base:=base) X G F a (o37 (P:=l.prog) (w:=w) F x36) (F.binds λ_ _ _ _ _ _=>n3 λ_ _ _=>rfl);obtain⟨f,d,a,F⟩:=D38;have x38:=mkC (base:=base) X G F a (o38 (P:=l.prog) (w:=w) F) (F.binds λ_ _ _ _ _ _=>n4 λ_ _ _ _=>rfl);obtain⟨f,d,a,F⟩:=D39;have x39:=mkC (base:=base) X G F a (o39 (P:=l.prog) (w:=w) F x38 x37 x32 x34 n_r n_e n_l) (F.binds λ_ _ _ _ _ _=>n4 λ_ _ _ _=>rfl);obtain⟨f,d,a,F⟩:=D40;have x40:=mkC (base:=base) X G F a (o40 (P:=l.prog) (w:=w) F x34 n_l n_m) (F.binds λ_ _ _ _ _ _=>n4 λ_ _ _ _=>rfl);obtain⟨f,d,a,F⟩:=D41;have x41:=mkC (base:=base) X G F a (o41 (P:=l.prog) (w:=w) F x35 (F.binds λ_ _ _ _ _ _=>n3 λ_ _ _=>rfl) (bb X G a) n_t) (F.binds λ_ _ _ _ _ _=>n3 λ_ _ _=>rfl);obtain⟨f,d,a,F⟩:=D42;have x42:=mkC (base:=base) X G F a (o42 (P:=l.prog) (w:=w) F (F.binds λ_ _ _ _ _ _=>n3 λ_ _ _=>rfl) (bb X G a) x35 n_t) (F.binds λ_ _ _ _ _ _=>n3 λ_ _ _=>rfl);obtain⟨f,d,a,F⟩:=D43;have x43:=mkC (base:=base) X G F a (o43 (P:=l.prog) (w:=w) F (F.binds λ_ _ _ _ _ _=>n3 λ_ _ _=>rfl) (bb X G a) n_i n_n n_z n_l) (F.binds λ_ _ _ _ _ _=>n3 λ_ _ _=>rfl);obtain⟨f,d,a,F⟩:=D44;have x44:=mkC (base:=base) X G F a (o44 (P:=l.prog) (w:=w) F (F.binds λ_ _ _ _ _ _=>n3 λ_ _ _=>rfl) (bb X G a)) (F.binds λ_ _ _ _ _ _=>n3 λ_ _ _=>rfl);obtain⟨f,d,a,F⟩:=D45;have x45:=mkC (base:=base) X G F a (o45 (P:=l.prog) (w:=w) F (F.binds λ_ _ _ _ _ _=>n1 λ_=>rfl) (bb X G a) n_e) (F.binds λ_ _ _ _ _ _=>n1 λ_=>rfl);obtain⟨f,d,a,F⟩:=D46;have x46:=mkC (base:=base) X G F a (o46 (P:=l.prog) (w:=w) F) (F.binds λ_ _ _ _ _ _=>n2 λ_ _=>rfl);obtain⟨f,d,a,F⟩:=D47;have x47:=mkC (base:=base) X G F a (o47 (P:=l.prog) (w:=w) F x45 x43 x44 x46 x34 n_l n_r n_t) (F.binds λ_ _ _ _ _ _=>n4 λ_ _ _ _=>rfl);obtain⟨f,d,a,F⟩:=D48;have x48:=mkC (base:=base) X G F a (o48 (P:=l.prog) (w:=w) F x25 x20 n_l) (F.binds λ_ _ _ _ _ _=>n3 λ_ _ _=>rfl);obtain⟨f,d,a,F⟩:=D49;have x49:=mkC (base:=base) X G F a (o49 (P:=l.prog) (w:=w) F x48 x42 x47 n_l) (F.binds λ_ _ _ _ _ _=>n5 λ_ _ _ _ _=>rfl);obtain⟨f,d,a,F⟩:=D50;have x50:=mkC (base:=base) X G F a (o50 (P:=l.prog) (w:=w) F x42 n_i n_t n_l n_s) (F.binds λ_ _ _ _ _ _=>n2 λ_ _=>rfl);obtain⟨f,d,a,F⟩:=D51;have x51:=mkC (base:=base) X G F a (o51 (P:=l.prog) (w:=w) F x50 n_l n_i n_t) (F.binds λ_ _ _ _ _ _=>n5 λ_ _ _ _ _=>rfl);exact o52 F52 x33 x39 x41 x49 x31 x51 x32 x40 n_s 200
theorem walk{l:gP}{q:aE}{loose:List Str}{XP:(Str→Option Value)→Heap→Prop}{YP:aB→Heap→Prop}{d:DefRec}{K:fX→aj}(hn:l.most=ae 63) (hdf:d.params.defaults=[])
  (hY:∀(w:aB) (h:Heap),YP w h→(K w.params).In h)
  (F:∀(w:aB) (mg:Str→Option Value) (fa:Addr) (h:Heap),(K w.params).In h→h.Ns aL mg→mg d.name=ae (.ref fa)→
   ∃fd:bC,(∀(s:ah) (u:Value),dU s fd ⟨[u],[]⟩ [("script",u)])∧ ∀base:Heap,(K w.params).In base→base.Ns aL mg→FnOk l.prog w (K w.params) mg base (CX1 l.prog w) 200 fa fd ["script"] (zda (K w.params) (zdB 200))) :
  jP q loose XP YP l.row.toRowW d [] (λf vs=>gX f vs):=
 L2.ztV (n:=63) (k:=200) (x:= "script") (CX:=λw=>CX1 l.prog w) (sp:=λw=>zda (K w.params) (zdB 200)) hn (by decide) hdf ⟨rfl,by decide,by decide⟩ hY F (λw H a ns hl hO hS=>zre hO hS (zwF ns hl)) λ_ _ _ _ _ ⟨_,_,_,_,_,_,_,_,_,z⟩=>z
end K46
namespace PySem.W.Fast
def tw1002920440773863671:=Nat
def tw10056503605682126042:=Nat
def tw1005693271443438331:=Nat
def tw10080746852990014455:=Nat
def tw10083681107922138118:=Nat
def tw10161011268119542737:=Nat
def tw10183217673429534669:=Nat
def tw10347960576129896090:=Nat
def tw10356345617189368668:=Nat
def tw10383146626148742190:=Nat
def tw10409557593071779298:=Nat
def tw10429000437961740152:=Nat
def tw10431176696180972452:=Nat
def tw10440817150379301920:=Nat
def tw10462751388352251102:=Nat
def tw10469256356205247914:=Nat
def tw10492460082377049002:=Nat
def tw10695602599039333217:=Nat
def tw10704344933153859236:=Nat
def tw10730496539744795207:=Nat
def tw10775185913779661439:=Nat
def tw10782285970988568854:=Nat
def tw10831210280700052321:=Nat
def tw1119954052788056552:=Nat
def tw11219444307131099387:=Nat
def tw1122488862371762120:=Nat
def tw11285453521989182606:=Nat
def tw11450637903318232662:=Nat
def tw11607700270405974669:=Nat
def tw11635566291134849255:=Nat
def tw1177049408409066189:=Nat
def tw11777968285624743138:=Nat
def tw11778652715600502540:=Nat
def tw11819674965702566764:=Nat
def tw11858257962125059312:=Nat
def tw11909434038318647124:=Nat
def tw11975515096624518132:=Nat
def tw12187679671745256896:=Nat
def tw12277483254373676656:=Nat
def tw1227989777071185580:=Nat
def tw1230077574349797352:=Nat
def tw12381301757653075912:=Nat
def tw12418326324835372955:=Nat
def tw1247395621974213867:=Nat
def tw12614005810898767641:=Nat
def tw12688073896530262080:=Nat
def tw12753184490401147717:=Nat
def tw12911089710286705518:=Nat
def tw12952827947364542759:=Nat
def tw12954960997971740259:=Nat
def tw12955404181151848083:=Nat
def tw12966022613431503414:=Nat
def tw12985416039233155723:=Nat
def tw12987004689839227483:=Nat
def tw12998882826262869553:=Nat
def tw13051355562875796262:=Nat
def tw13054669067126004392:=Nat
def tw13068997454112084283:=Nat
def tw13340689716098684084:=Nat
def tw1338346819973479810:=Nat
def tw1345798523700730642:=Nat
def tw13465299327246539908:=Nat
def tw13540492115866757419:=Nat
def tw13641052410867304282:=Nat
def tw1366444013657816643:=Nat
def tw13712270637903377941:=Nat
def tw13931514253320398164:=Nat
def tw13969856190692348547:=Nat
def tw13976026729899361941:=Nat
def tw13977810777463139211:=Nat
def tw1411950028156312667:=Nat
def tw14161925992962182854:=Nat
def tw14353918136149093755:=Nat
def tw14528164235972579583:=Nat
def tw1464474370299462850:=Nat
def tw14665612895320966546:=Nat
def tw14746370177138699314:=Nat
def tw14877025025040091522:=Nat
def tw14878160342950910399:=Nat
def tw14939261195029997373:=Nat
def tw15016991957931745750:=Nat
def tw15028907822614027989:=Nat
def tw15038057602651295374:=Nat
def tw15069989434491295298:=Nat
def tw15135956188348990535:=Nat
def tw15140596646017094579:=Nat
def tw15149834969171111540:=Nat
def tw15213020410107736390:=Nat
def tw15248520676899881522:=Nat
def tw1526148759430216445:=Nat
def tw15336780214038411921:=Nat
def tw15412125766141049766:=Nat
def tw15461100224658313819:=Nat
def tw15554602678130062890:=Nat
def tw15566739661232055392:=Nat
def tw15645711668155226766:=Nat
def tw15744548752433141261:=Nat
def tw15775697576402534142:=Nat
def tw15825499097798172744:=Nat
def tw15859822071872614696:=Nat
def tw15981865646811061606:=Nat
def tw16033351867878467419:=Nat
def tw16057847547168938025:=Nat
def tw16107439173798677117:=Nat
def tw16308009005574292198:=Nat
def tw16311145797252138902:=Nat
def tw16316103716322709481:=Nat
def tw16339249896267745396:=Nat
def tw16340803639759695920:=Nat
def tw16371258528253034539:=Nat
def tw16407939626514095834:=Nat
def tw16433434825189875081:=Nat
def tw16444768769520286949:=Nat
def tw16558776979817361752:=Nat
def tw16598622086072486873:=Nat
def tw16693538681408368621:=Nat
def tw16747496620993548628:=Nat
def tw16856645399901720671:=Nat
def tw16895915580802608711:=Nat
def tw16922774084584250625:=Nat
def tw16964855801915573552:=Nat
def tw17044791701433084147:=Nat
def tw17074732801315110084:=Nat
def tw17123725916951126435:=Nat
def tw1715432982949617506:=Nat
def tw17158724351482643923:=Nat
def tw17198422763768436057:=Nat
def tw17244112885145701482:=Nat
def tw17332134454778187683:=Nat
def tw17467700108374097305:=Nat
def tw17476276755013713506:=Nat
def tw17601675639726911373:=Nat
def tw17607446589555656850:=Nat
def tw17636780377730369230:=Nat
def tw17707202847063485789:=Nat
def tw17764624552958781322:=Nat
def tw17812218049133999906:=Nat
def tw17823150300707896627:=Nat
def tw17969821041337686289:=Nat
def tw18070225607766984531:=Nat
def tw18091668153302670914:=Nat
def tw1809376432112181045:=Nat
def tw18120921410542017767:=Nat
def tw18341291173883100666:=Nat
def tw18412440841927049283:=Nat
def tw18439213406781640620:=Nat
def tw18549363857889357:=Nat
def tw1917467230142335245:=Nat
def tw2054232878399110078:=Nat
def tw2057732500942974443:=Nat
def tw2067849139002330659:=Nat
def tw2163840099487775336:=Nat
def tw2234971856970782110:=Nat
def tw2288635529736748608:=Nat
def tw2427145069906945400:=Nat
def tw2465446544681269243:=Nat
def tw2547123351564353127:=Nat
def tw2594770604867662787:=Nat
def tw261632331880919717:=Nat
def tw2619717958886586512:=Nat
def tw2880543391262669979:=Nat
def tw2940610747252494897:=Nat
def tw3197160002856742806:=Nat
def tw3299042088020968373:=Nat
def tw3324419286211850139:=Nat
def tw3480023317327762054:=Nat
def tw3623146556879785029:=Nat
def tw3856786016758362727:=Nat
def tw3872100189516922893:=Nat
def tw400725019308110520:=Nat
def tw4007940864642868808:=Nat
def tw4032560792854978983:=Nat
def tw4051573119547768584:=Nat
def tw4129674203198235599:=Nat
def tw4263115302280524878:=Nat
def tw4295500303212016986:=Nat
def tw4333339086950672029:=Nat
def tw4335461133429143877:=Nat
def tw4340179280769262672:=Nat
def tw4439693407852435835:=Nat
def tw4564967214133701656:=Nat
def tw4635424983590795599:=Nat
def tw4639464760701525123:=Nat
def tw4641707692485192580:=Nat
def tw4657003257794995740:=Nat
def tw4684851013946781481:=Nat
def tw485374131148916812:=Nat
def tw4928520143250837643:=Nat
def tw4974842194851754783:=Nat
def tw5027889393761648743:=Nat
def tw5102717361103706853:=Nat
def tw5233163971953312419:=Nat
def tw5318436594317698729:=Nat
def tw5467569699829084651:=Nat
def tw5643674467297021591:=Nat
def tw5680949909358600057:=Nat
def tw5707738470035016946:=Nat
def tw5909856347172295650:=Nat
def tw6015737350216438159:=Nat
def tw6114801039815140452:=Nat
def tw6156439418372337243:=Nat
def tw6195518166223780238:=Nat
def tw6319816530362069067:=Nat
def tw6341963455676372226:=Nat
def tw644679435231671658:=Nat
def tw6484648168765305056:=Nat
def tw6486801893487893329:=Nat
def tw6544809683454557930:=Nat
def tw655419081166631203:=Nat
def tw6571878055764965052:=Nat
def tw6821629415000649006:=Nat
def tw6987971150569238347:=Nat
def tw7038276439297360333:=Nat
def tw7044423646097687238:=Nat
def tw7103839496696229049:=Nat
def tw7340733716596706802:=Nat
def tw739115946664346366:=Nat
def tw7668100337545822666:=Nat
def tw7719037169350906630:=Nat
def tw783118123808975257:=Nat
def tw7843102372703540448:=Nat
def tw7861917305492940844:=Nat
def tw7890255717297515227:=Nat
def tw7893894704470202747:=Nat
def tw789443461967364441:=Nat
def tw7895154812558550002:=Nat
def tw7954498535415942503:=Nat
def tw8065998193598916225:=Nat
def tw8115036743743522107:=Nat
def tw8262916482473822823:=Nat
def tw8354859480461313573:=Nat
def tw8382774382913754122:=Nat
def tw840073151111018021:=Nat
def tw8462507904717731126:=Nat
def tw847419013829566559:=Nat
def tw8561333153892388436:=Nat
def tw8597958442873844987:=Nat
def tw8751346079422775347:=Nat
def tw878486867025343005:=Nat
def tw8799487803845822033:=Nat
def tw9095300648130125709:=Nat
def tw916073365245762541:=Nat
def tw9166367942821993253:=Nat
def tw9260262008463941229:=Nat
def tw9262923238385344256:=Nat
def tw9298957602966184939:=Nat
def tw9378053111758827898:=Nat
def tw9464395952286914825:=Nat
def tw9481473471215282578:=Nat
def tw9517169358190866344:=Nat
def tw9536361797103088399:=Nat
def tw9637066666553378559:=Nat
def tw9742338313126301563:=Nat
def tw9804092959961801836:=Nat
end PySem.W.Fast
open PySem PySem.W PyProof.Rows
set_option maxRecDepth 100000 in
set_option maxHeartbeats 0 in
theorem PySem.Challenge.cw_turnweave_k46_valleys_holds : PySem.Challenge.rw_turnweave_k46_valleys.Holds := by
 w_on;o_law;k_head;(case hw=>w_witness2)
 k_fill
 refine K46.walk (l:=PySem.Challenge.rw_turnweave_k46_valleys) rfl rfl (λw h Y=>PySem.W.kIn_of Y) ?F
 case F=>
  intro w mg fa h KX G hmg
  refine' K46.all_mk KX G hmg (K46.dfn ?_ ?_ ?_ ?_) (K46.dfn ?_ ?_ ?_ ?_) (K46.dfn ?_ ?_ ?_ ?_) (K46.dfn ?_ ?_ ?_ ?_) (K46.dfn ?_ ?_ ?_ ?_) (K46.dfn ?_ ?_ ?_ ?_) (K46.dfn ?_ ?_ ?_ ?_) (K46.dfn ?_ ?_ ?_ ?_) (K46.dfn ?_ ?_ ?_ ?_) (K46.dfn ?_ ?_ ?_ ?_) (K46.dfn ?_ ?_ ?_ ?_) (K46.dfn ?_ ?_ ?_ ?_) (K46.dfn ?_ ?_ ?_ ?_) (K46.dfn ?_ ?_ ?_ ?_) (K46.dfn ?_ ?_ ?_ ?_) (K46.dfn ?_ ?_ ?_ ?_) (K46.dfn ?_ ?_ ?_ ?_) (K46.dfn ?_ ?_ ?_ ?_) (K46.dfn ?_ ?_ ?_ ?_) (K46.dfn ?_ ?_ ?_ ?_) (K46.dfn ?_ ?_ ?_ ?_) (K46.dfn ?_ ?_ ?_ ?_) (K46.dfn ?_ ?_ ?_ ?_) (K46.dfn ?_ ?_ ?_ ?_) (K46.dfn ?_ ?_ ?_ ?_) (K46.dfn ?_ ?_ ?_ ?_) (K46.dfn ?_ ?_ ?_ ?_) (K46.dfn ?_ ?_ ?_ ?_) (K46.dfn ?_ ?_ ?_ ?_) (K46.dfn ?_ ?_ ?_ ?_) (K46.dfn ?_ ?_ ?_ ?_) (K46.dfn ?_ ?_ ?_ ?_) (K46.dfn ?_ ?_ ?_ ?_) (K46.dfn ?_ ?_ ?_ ?_) (K46.dfn ?_ ?_ ?_ ?_) (K46.dfn ?_ ?_ ?_ ?_) (K46.dfn ?_ ?_ ?_ ?_) (K46.dfn ?_ ?_ ?_ ?_) (K46.dfn ?_ ?_ ?_ ?_) (K46.dfn ?_ ?_ ?_ ?_) (K46.dfn ?_ ?_ ?_ ?_) (K46.dfn ?_ ?_ ?_ ?_) (K46.dfn ?_ ?_ ?_ ?_) (K46.dfn ?_ ?_ ?_ ?_) (K46.dfn ?_ ?_ ?_ ?_) (K46.dfn ?_ ?_ ?_ ?_) (K46.dfn ?_ ?_ ?_ ?_) (K46.dfn ?_ ?_ ?_ ?_) (K46.dfn ?_ ?_ ?_ ?_) (K46.dfn ?_ ?_ ?_ ?_) (K46.dfn ?_ ?_ ?_ ?_) (K46.dfn ?_ ?_ ?_ ?_) (K46.dfn ?_ ?_ ?_ ?_) ?_ ?_ ?_ ?_ ?_ ?_ ?_ ?_ ?_ ?_ ?_ ?_ ?_ ?_ ?_ ?_ ?_ ?_ ?_ ?_ ?_ ?_ ?_ ?_ ?_ ?_ ?_ ?_ ?_ ?_ ?_ ?_ ?_ ?_ ?_ ?_ ?_ ?_ ?_ ?_ ?_ ?_ ?_ ?_<;>first |k_is |kit_is | (dsimp only[List.map];kit_is) |kts_exm | (delta L2.bmV;k_exc) |skip
end
