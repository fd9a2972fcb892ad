import PyProof.Rows.All
import Wide.All
import OpenK.AllK
import Wide.FinOn
import Lean
import PyProof.EqAt
import PyProof.EqKinds
import PyProof.TupleCall
import PyProof.NeKinds
import PyProof.ListMulRoad
import PyProof.AttrMissHeap
import KE.KDictOf
import KE.KRevIter
import PyProof.ListRange
import KE.KSortTup
import KE.KMinKey
import PyProof.MinMaxWalk
import PyProof.Rows.CallKwBuiltin
import PyProof.Rows.SetFrom
import PyProof.Rows.SeqMore
import PySem.Challenge.RW_turnweave_k47_whole_winding
open Option renaming some→ae,isSome_iff_exists→dO,map_some→eE,getD_some→eF,getD_none→fN,isSome_map→ie,some→jH
open PySem renaming Shared→ah,wpAny_bind→ak,wpAny→am,starEach→ao,model→aq,eval→az,Pos→aB,World→aC,wpAny_pure→aD,Program→aE,mainGlobals→aL,Paired→aP,Around→aQ,backTo→aT,Tok→bq,Env→bB,wpAny_field→bE,FuncData→bG,compareOp→bH,IsPair→bN,binaryOp→bQ,NameKind→bT,Keyword→bU,bootBuiltins→bV,IsZip→b3,Builtin→b4,pyNext→b5,tupleKind→b7,Sem→b9,rawInt→cj,wpAny_setField_rec→ck,wpAny_mono→cn,assignEach→cp,sysModules→cy,IsPart→cM,IsEnum→cO,attributeBase→cT,wpAny_seqItems→cZ,behindInMarks→c6,bindL→da,atKey→de,bindC→dg,swapsWith→di,pyIter→dm,wpAny_callSpecial?_slot→dr,wpAny_call_entry→dt,wpAny_passesOwn→dy,CmpOp→dA,sliceBounds→dB,sizeLine_eq→dC,foldedSetIterable→dF,backToKw→dG,callerA→dM,codeAny→dN,getItem→dQ,keywordEach→dR,BindsTo→d5,mem_of_lookup→d_,wpAny_newObj_type→ef,valueAt→eg,call_meets→eA,wpAny_rule→eG,Walks→eL,PassesOwn→eQ,typeOf→eT,PlainAttrs→e_,storedH→fu,wpAny_typeOf→fx,Operator→fB,wpAny_onRaise→fG,post_val_or_str→fH,wpAny_truthy_bool→fJ,Params→fL,wpAny_holding→fP,wpAny_pyIter_list→fS,letOwnedTupleGo→fV,wpAny_getItem_str_slice→fW,tupleKind_room_in1→fX,revObj→gb,preSum→gf,wpAny_execs_nil→gi,wpAny_attempt→gj,wpAny_letGo→gl,builtinsNs→gq,call→gu,pick_run→gy,cellsFrom→gB,sliceRange_one→gL,wpAny_updateSeq_pair→gZ,typeIs_int→hU,concat_meets→h9,ZipApart→h_,seq_tuple_add→ig,wpAny_Call_Name_kw→io,wpAny_Name→ip,IsEnumOut→ir,typeLookup→iw,typeIs_str→iC,noFill_tuple_add→iD,storeName→iI,codeAny_mono→iR,wpAny_loadName_local→i7,codeAny_builtin→i9,wpAny_execs_cons→jb,getattributeRaised→jd,firstArgMember→jf,wpAny_pyIter_zip→jk,wpAny_isInstance→jn,wpAny_setField→jA,wpAny_newTuple→jC,wpAny_sequenceKey→jM,isSubtype_stop→jP,wpAny_pyIter_revIter→jU,wpAny_pyIter_tuple→j9,slot_list_getitem→kj,wpAny_loadName_cell→kr,wpAny_assign_Name→kz,wpAny_pyIter_enum→kB
open Or renaming inl→ai,inr→cq
open PySem.W renaming Frag→aj,nsIn→aZ,mg_of→bf,findIn→bS,mg_none_of→ca,kia_one→cA,mroIn→cX,fnOf→dH,excIn→eJ,hideAll→eO,keepIn→eW,kitOne→eX,codeIn→gg,hideAll_none→gm,of_hideAll→gA,lookIn→gN,hideAll_get→gV,instObj→ix,OpenLaw→iz,methodObj→iP,kitx_dict→iV,plainGet→jI,WalkO→kw,cellsFrom_some→kC,kitx_list→kF
open Nat renaming le_refl→ap,zero_le→aS,le_trans→a9,ne_of_lt→bA,lt_of_lt_of_le→bJ,zero_add→bO,ne_of_gt→cK,le_of_eq→cP,lt_irrefl→cQ,add_zero→c_,add_comm→dP,sub_zero→eM,eq_zero_or_pos→eV,zero_max→fD,le_add_right→fO,max_zero→gM,sub_self→gQ,le_max_left→gU,add_assoc→im,le_of_lt→iJ,le_max_right→iN,min_eq_left→iQ,le_of_not_lt→i_,max_assoc→jg,min_eq_right→jW
open List renaming length_map→ax,map_cons→ay,mem_cons→aA,mem_map→aG,mem_cons_of_mem→aI,length_append→aM,replicate→aN,length_cons→aO,mem_of_getElem?→aR,size_toArray→aU,mem_cons_self→aV,range→aX,nil_append→aY,getElem?_eq_getElem→a_,Nodup→bb,map_map→bg,not_mem_nil→bi,getElem?_map→bj,mem_append→bp,getD_eq_getElem?_getD→bv,mem_singleton→bz,map_append→bD,length_singleton→bF,append_nil→bK,append_assoc→bL,find?_cons→bM,cons_append→b8,isPrefixOf_iff_prefix→b_,replicate_succ→cb,lookup_cons→cc,getElem?_eq_some_iff→cf,getElem?_cons_succ→cg,map_nil→cm,mem_of_find?_eq_some→cx,length_drop→cC,mem_append_right→cE,length_take→cF,drop_zero→cG,map_congr_left→cI,any_cons→cU,length_nil→c5,length→db,sum_cons→df,all_eq_true→dh,take_of_length_le→du,nodup_cons→dw,flatten_cons→dJ,set_cons_zero→dS,set_cons_succ→dU,foldl_cons→dY,findSome?_cons→d6,length_pos_iff→eD,countP_cons→eK,mem_range→eN,getElem?_cons_zero→eP,drop_eq_getElem_cons→eS,drop_of_length_le→fh,flatMap_cons→fv,getElem?_range→fR,take_append_drop→f9,isEmpty_cons→ge,filterMap_cons→gk,take_length→gx,reverse_cons→gz,take_zero→gC,mem_filterMap→gF,range_succ_eq_map→gI,lookup→gJ,eq_nil_of_length_eq_zero→gR,length_replicate→gS,foldl→gW,getElem_mem→gX,zip_cons_cons→gY,mem_filter→hZ,range_succ→ic,pairwise_map→ii,getElem?_append_right→iq,getElem?_of_mem→iu,flatMap_nil→iA,forIn_cons→iH,mem_of_mem_take→iK,mem_of_mem_drop→iL,of_mem_zip→iO,nodup_range→iS,filter_append→iT,any_eq_true→iU,take_sublist→iY,nodup_nil→i3,take_add→i5,isEmpty_nil→i8,getElem?_drop→ja,getElem_of_mem→jc,drop_drop→jm,find?_some→jp,countP_cons_of_neg→jr,zipIdx_nil→jB,zipIdx_cons→jD,length_range→jF,forIn_nil→jJ,flatMap_def→jN,countP_cons_of_pos→jQ,map_take→jT,pairwise_cons→jV,filter_cons_of_neg→jY,nodup_append→j3,mem_append_left→j4,take_succ→j5,append_cancel_left→j_,mem_flatMap→kc,map_drop→kg,getElem?_set_self→kl,getElem?_replicate→ku,getElem?_set_ne→kx,getElem?_append_left→kJ,flatMap_append→kK
open Option.some renaming inj→aH,injEq→bC
open PySem.Heap renaming get?_push_of_some→aJ,lt_size→aK,get?_push_size→bt,SameBut→ci,size_push→cJ,ExtBut→gE
open PySem.NameKind renaming free→aW,cell→cw
open PySem.Value renaming ref→bc,none→cu,bool→d7,str→fe,int→fE,type→gT,isStrOf→ju
open PySem.Str renaming ofString→br,join→cW,length→gD,empty→iB
open Ne renaming symm→bu
open Bool renaming false_eq_true→bP,and_eq_true→b6,false_ne_true→c8,eq_iff_iff→eU,not_false→fK,and_false→fM,not_true→gd,false_or→jx,or_false→jE,true_and→ki,or_eq_true→km
open Int renaming toNat_natCast→bW,toNat_of_nonneg→cR,emod_nonneg→c7,emod_lt_of_pos→dj
open PyProof.Rows renaming AllBare→ce,envOfC→cr,boot_int→cY,slot_tuple_getitem→dW,IsTup→d9,IntsAre→eR,callWith_type1→eY,boot_tuple→gh,subscriptTail_builtinR→iZ,slicePart_none→i0,boot_list→j8,entry_tuple_getitem→ko,args_tuple_getitem→kE
open False renaming elim→cB
open PySem.Txt renaming slice→cL,upper→dL
open PySem.Builtin.SmallTypes renaming nextOf→cN,ownedTupleIsFree→d8,ownedTupleHandOut→fU
open PySem.Builtin.Str renaming occurrences→cS,strSliceIndices→f_
open True renaming intro→c9
open Sum renaming inr→dn
open PySem.Paired renaming length→dD
open PySem.Builtin.List renaming listTooLong→er
open ForInStep renaming yield→eC
open PySem.SeqAt renaming EqAt→eI,RcAt→fj,RcNeAt→fy
open Eq renaming trans→eZ
open PySem.Builtin.Tuple renaming tupleExact→fF,tupleItemsOf→kf
open List.cons renaming injEq→fI
open PySem.Builtin.Slice renaming slicePlaces→fQ,sliceAdjust→ij,sliceApplied→kh
open PySem.F renaming slot_enumerate_next→fT,slot_tuple_iterator_next→fZ,slot_zip_next→gc,slot_tuple_add→gp,slot_list_getattribute→gw,args_tuple_add_2→gG,entry_tuple_add→ik,slot_dict_get→iF,entry_list_extend→iW,args_list_extend_2→iX,args_enumerate_next_1→i4,entry_enumerate_next→i6,entry_zip_next→je,excBase_ValueError→jo,slot_list_extend→jL,entry_dict_get→jR,plainAttrs_list→jS,args_zip_next_1→jZ,entry_tuple_iterator_next→j6,args_dict_get_3→ke,args_tuple_iterator_next_1→kA,plainAttrs_str→kG,slot_int_rmul→kI
open LawfulMonad renaming pure_bind→fY
open LawfulBEq renaming eq_of_beq→gn
open PyProof.Rows.IsTup renaming new→gr
open Array renaming toList_append→gK,length_toList→iG,append_assoc→kH
open PySem.Calls renaming evalArgs_plain→gO,callWith_builtin→g_,spliced_cons→iy,Name_function_global→jK,spliced_nil→jO
open Sum.inl renaming inj→gP
open PySem.Obj renaming mapSeq→i',data_mapFields→jj
open Prod renaming snd→ia
open Function renaming comp→ib
open Lean renaming mkIdent→iE
open PySem.Heap.SameBut renaming update→jq
open PySem.Builtin.Dict renaming updateFrom→jG
open PySem.AutoSeq1 renaming wpAny_loadPart'→jX
open List.Pairwise renaming imp_of_mem→j7
open PySem.Around renaming under_plainId→kq
open Prod.mk renaming injEq→kD
set_option Elab.async false
set_option compiler.extract_closed false
set_option linter.all false
set_option maxRecDepth 100000
set_option maxHeartbeats 4000000
section
namespace L2
open PySem PySem.Spec PyProof.Rows
abbrev Key:=Sum Int Str
noncomputable def zoc:Key→Value→Bool
 | .inl k,v=>Value.isInt k v
 | .inr x,v=>ju x v
noncomputable def zBG (w:aC):Key→Int
 | .inl k=>hashInt k
 | .inr x=>hashStr w x
theorem zby:∀{k:Key}{v:Value},zoc k v=true→(∃i t,k=Sum.inl i∧v=fE i t)∨(∃x t,k=dn x∧v=fe x t)
 | .inl i,v,h=>by
  obtain⟨t,e⟩:=Value.isInt_shape (k:=i) (v:=v) h;exact .inl ⟨i,t,rfl,e⟩
 | .inr x,v,h=>by
  obtain⟨t,e⟩:=Value.isStrOf_shape (x:=x) (v:=v) h;exact .inr ⟨x,t,rfl,e⟩
theorem zpE (i:Int) (t:bq):zoc (.inl i) (.int i t)=true:=by simp [zoc,Value.isInt]
theorem zqo (x:Str) (t:bq):zoc (.inr x) (.str x t)=true:=by simp [zoc,ju]
theorem zwP (a b:Int):decide ((Sum.inl a:Key)=Sum.inl b)=(a == b):=by
 by_cases e:a=b
 ·subst e;simp
 ·have h:¬(Sum.inl a:Key)=Sum.inl b:=λq=>e (gP q);rw[decide_eq_false h];exact(beq_eq_false_iff_ne.mpr e).symm
theorem zxT (a b:Str):decide ((dn a:Key)=dn b)=decide (a=b):=by
 by_cases e:a=b
 ·subst e;simp
 ·have h:¬(dn a:Key)=dn b:=λq=>e (dn.inj q);rw[decide_eq_false h,decide_eq_false e]
theorem zxW (a:Int) (b:Str):decide ((Sum.inl a:Key)=dn b)=false:=decide_eq_false (λq=>nomatch q)
theorem zyg (a:Str) (b:Int):decide ((dn a:Key)=Sum.inl b)=false:=decide_eq_false (λq=>nomatch q)
noncomputable def zbd (prog:aE) (w:aC):PySem.KeyKind prog w Key where
  is:=zoc
  hash:=zBG w
  inj:=λv a b ha hb=>by
    rcases zby ha with⟨i,t,rfl,rfl⟩ |⟨x,t,rfl,rfl⟩
    · rcases zby hb with⟨j,u,rfl,e⟩ |⟨y,u,rfl,e⟩
      · injection e with e1 _;rw[e1]
      · exact nomatch e
    · rcases zby hb with⟨j,u,rfl,e⟩ |⟨y,u,rfl,e⟩
      · exact nomatch e
      · injection e with e1 _;rw[e1]
  byValue:=λk v h=>by
    rcases zby h with⟨i,t,rfl,rfl⟩ |⟨x,t,rfl,rfl⟩<;>rfl
  pyHash:=λhv h=>by
    rcases zby hv with⟨i,t,rfl,rfl⟩ |⟨x,t,rfl,rfl⟩
    · exact wpAny_pyHash_int h
    · exact wpAny_pyHash_str h
  eqBool:=λhu hv h=>by
    rcases zby hu with⟨i,t,rfl,rfl⟩ |⟨x,t,rfl,rfl⟩
    · rcases zby hv with⟨j,u,rfl,rfl⟩ |⟨y,u,rfl,rfl⟩
      · rw[zwP]at h;exact wpAny_eqBool_int h
      · rw[zxW]at h;exact eI.int_str i t y u _ _ _ _ h
    · rcases zby hv with⟨j,u,rfl,rfl⟩ |⟨y,u,rfl,rfl⟩
      · rw[zyg]at h;exact eI.str_int x t j u _ _ _ _ h
      · rw[zxT]at h;exact wpAny_eqBool_str h
  «strs» :=λk x t v h=>by
    rcases zby h with⟨i,u,rfl,e⟩ |⟨y,u,rfl,e⟩
    · exact nomatch e
    · injection e with e1 _;subst e1;cases v<;>rfl
theorem zlQ (prog:aE) (w:aC) (i:Int) (t:bq):(zbd prog w).is (.inl i) (.int i t)=true:=zpE i t
theorem zmv (prog:aE) (w:aC) (x:Str) (t:bq):(zbd prog w).is (.inr x) (.str x t)=true:=zqo x t
inductive V where
  |non |bl (b:Bool) |int (i:Int) |str (x:Str) |byt (b:Array UInt8) |flt (b:UInt64) |ref (a:Addr) |ty (n:String)
  deriving DecidableEq
noncomputable def RelV:V→Value→Prop
 | .non,u=>u=cu
 | .bl b,u=>u=d7 b
 | .int i,u=>∃t,u=fE i t
 | .str x,u=>∃t,u=fe x t
 | .byt b,u=>∃t,u=Value.bytes b t
 | .flt b,u=>∃t,u=Value.float b t
 | .ref a,u=>u=bc a
 | .ty n,u=>u=gT n
noncomputable abbrev Vals:List V→List Value→Prop:=aP RelV
theorem Vals.length{xs:List V}{us:List Value}(r:Vals xs us):xs.length=us.length:=dD r
theorem Vals.get:∀{xs:List V}{us:List Value}{i:Nat}{x:V},Vals xs us→xs[i]? =ae x→ ∃u,us[i]? =ae u∧RelV x u
 |_,_,_,_, .nil,e=>by simp at e
 |_,_,0,_, .cons r _,e=>by simp at e;subst e;exact⟨_,rfl,r⟩
 |_,_,i+1,x, .cons _ t,e=>by
  obtain⟨u,h1,h2⟩:=Vals.get (i:=i) (x:=x) t (by simpa using e);exact⟨u,by simpa using h1,h2⟩
theorem Vals.append:∀{xs ys:List V}{us ws:List Value},Vals xs us→Vals ys ws→Vals (xs++ys) (us++ws)
 |_,_,_,_, .nil,s=>s
 |_,_,_,_, .cons r t,s=> .cons r (Vals.append t s)
theorem Vals.take:∀{xs:List V}{us:List Value}(n:Nat),Vals xs us→Vals (xs.take n) (us.take n)
 |_,_,0,_=> .nil
 |_,_,_+1, .nil=> .nil
 |_,_,n+1, .cons r t=> .cons r (Vals.take n t)
theorem Vals.drop:∀{xs:List V}{us:List Value}(n:Nat),Vals xs us→Vals (xs.drop n) (us.drop n)
 |_,_,0,r=>r
 |_,_,_+1, .nil=> .nil
 |_,_,n+1, .cons _ t=>Vals.drop n t
noncomputable def RelO:Option V→Option Value→Prop
 |some v,ae u=>RelV v u
 |none,none=>True
 |_,_=>False
def KV {κ:Type}:List (κ×V)→List (κ×Value)→Prop:=aP λ(p:κ×V) (q:κ×Value)=>p.1=q.1∧RelV p.2 q.2
noncomputable def kV:Key→V
 | .inl i=> .int i
 | .inr x=> .str x
inductive HO where
    |lst (xs:List V)
    |tup (xs:List V)
    |dK (kvs:List (Key×V)) |dT (kvs:List (List Key×V))
    |set (S:Int→Bool) (n:Nat)
    |ins (C dx:Addr) (fs:List (Str×V))
    |own (x:Addr)
    |xd (fs:List (Str×V))
    |met (f x:Addr)
    |rng (lo hi:Int)
    |frz (o:Obj) (u:HO)
    |tbl (ps:Array Value)
    |ext (φ:Heap→Prop)
abbrev Hp:=Addr→Option HO
noncomputable def upd (H:Hp) (a:Addr) (o:HO):Hp:=λb=>if b=a then ae o else H b
theorem zay{H:Hp}{a:Addr}{o:HO}:upd H a o a=ae o:=by unfold upd;rw[if_pos rfl]
theorem zaz{H:Hp}{a b:Addr}{o:HO}(h:b≠a):upd H a o b=H b:=by unfold upd;rw[if_neg h]
theorem zpB{H:Hp}{a b:Addr}{o u:HO}(h:H a=ae o) (h':H b=ae u) (d:o≠u):a≠b:=by
 intro e;subst e;rw[h]at h';exact d (aH h')
theorem zau{H:Hp}{a b:Addr}{o:HO}(h:H a=ae o) (h':H b=none):a≠b:=by
 intro e;subst e;rw[h]at h';cases h'
section
variable (P:aE) (w:aC)
noncomputable def ObjOk (H:Hp) (h:Heap) (a:Addr):HO→Prop
 | .lst xs=>xs.length≤sizeLine∧ ∃(its:List Value) (n:Nat),Vals xs its∧h.get? a=ae { cls:= .type "list",data:= .seq its.toArray n }
 | .tup xs=>xs.length≤sizeLine∧ ∃its:List Value,Vals xs its∧d9 h a its.toArray
 | .dK kvs=>kvs.length≤sizeLine∧(a == cy)=false∧ ∃vs,KV kvs vs∧h.DictOf (zbd P w) a vs
 | .dT kvs=>kvs.length≤sizeLine∧(a == cy)=false∧ ∃xs:List (List Key×Addr×Value),
   aP (λ(p:List Key×V) (q:List Key×Addr×Value)=>p.1=q.1∧H q.2.1=ae (.tup (p.1.map kV))∧RelV p.2 q.2.2) kvs xs∧
   ∃o es ep,h.get? a=ae o∧o.ExactDict∧o.data= .dict es ep∧es.toList=xs.map (entryOfKey (b7 (zbd P w)))∧(xs.map (·.1)).Nodup
 | .set S n=>h.SetOf (intKind P w) a S n
 | .ins C dx fs=>H dx=ae (.own a)∧fs.length≤1000∧dx≠a∧h.get? a=ae (ix C dx)∧
   ∃mA,h.Ns1 dx mA∧(∀f,RelO (fs.lookup f) (mA f))∧PySem.Within mA (fs.map (·.1))
 | .own _=>∃o,h.get? a=ae o
 | .xd fs=>∃mA,h.Ns1 a mA∧ ∀f,RelO (fs.lookup f) (mA f)
 | .rng lo hi=>∃t u v,h.get? a=ae { cls:= .type "range",data:= .fields #[.int lo t, .int hi u, .int 1 v] }
 | .frz o u=>h.get? a=ae o∧ObjOk H h a u
 | .tbl ps=>h.get? a=ae { cls:= .none,data:= .fields ps }
 | .met f x=>h.get? a=ae (iP (.ref f) (.ref x))
 | .ext φ=>φ h∧(∃o,h.get? a=ae o)∧ ∀h1 h2:Heap,φ h1→(∀o,h1.get? a=ae o→h2.get? a=ae o)→φ h2
def HOk (H:Hp) (h:Heap):Prop:=∀a o,H a=ae o→ObjOk P w H h a o
end
section
variable {P:aE}{w:aC}{H H':Hp}{h h':Heap}{a:Addr}{o:HO}
theorem ObjOk.lt (x:ObjOk P w H h a o):a<h.objs.size:=by
 cases o with
 |lst xs=>obtain⟨_,_,_,_,e⟩:=x;exact aK e
 |tup xs=>obtain⟨_,_,_,p⟩:=x;exact p.lt
 |dK kvs=>obtain⟨_,_,_,_,o,_,_,e,_⟩:=x;exact aK e
 |dT kvs=>obtain⟨_,_,_,_,o,_,_,e,_⟩:=x;exact aK e
 |set S n=>obtain⟨o,_,_,_,e,_⟩:=x;exact aK e
 |ins C dx fs=>obtain⟨_,_,_,e,_⟩:=x;exact aK e
 |own y=>obtain⟨_,e⟩:=x;exact aK e
 |xd fs=>obtain⟨_,⟨_,_,_,e,_⟩,_⟩:=x;exact aK e
 |rng lo hi=>obtain⟨_,_,_,e⟩:=x;exact aK e
 |frz ob u=>obtain⟨e,_⟩:=x;exact aK e
 |tbl ps=>exact aK (show h.get? a=ae _ from x)
 |met f y=>exact aK (show h.get? a=ae _ from x)
 |ext φ=>obtain⟨_,⟨_,e⟩,_⟩:=x;exact aK e
theorem Paired.mapP{α β:Type}{F G:α→β→Prop}:∀{l₁:List α}{l₂:List β},aP F l₁ l₂→(∀a b,F a b→G a b)→aP G l₁ l₂
 |_,_, .nil,_=> .nil
 |_,_, .cons r t,f=> .cons (f _ _ r) (Paired.mapP t f)
theorem ObjOk.stay (x:ObjOk P w H h a o) (k:∀b u,(b=a∨H b=ae (.own a))→h.get? b=ae u→h'.get? b=ae u)
  (ho:∀b,H b=ae (.own a)→H' b=ae (.own a)) (ht:∀b xs,H b=ae (.tup xs)→H' b=ae (.tup xs)):ObjOk P w H' h' a o:=by
 induction o with
 |lst xs=>obtain⟨z,its,n,r,e⟩:=x;exact⟨z,its,n,r,k _ _ (.inl rfl) e⟩
 |tup xs=>obtain⟨z,its,r,ob,e,c⟩:=x;exact⟨z,its,r,ob,k _ _ (.inl rfl) e,c⟩
 |dK kvs=>obtain⟨z,y,vs,r,ob,es,ep,e,c⟩:=x;exact⟨z,y,vs,r,ob,es,ep,k _ _ (.inl rfl) e,c⟩
 |dT kvs=>
  obtain⟨z,y,xs,r,ob,es,ep,e,c⟩:=x;exact⟨z,y,xs,Paired.mapP r λp q z=>⟨z.1,ht _ _ z.2.1,z.2.2⟩,ob,es,ep,k _ _ (.inl rfl) e,c⟩
 |set S n=>obtain⟨ob,es,ep,t,e,c⟩:=x;exact⟨ob,es,ep,t,k _ _ (.inl rfl) e,c⟩
 |ins C dx fs=>
  obtain⟨d,z,ne,e,mA,⟨od,es,ep,e2,c⟩,r⟩:=x;exact⟨ho _ d,z,ne,k _ _ (.inl rfl) e,mA,⟨od,es,ep,k _ _ (.inr d) e2,c⟩,r⟩
 |own y=>obtain⟨ob,e⟩:=x;exact⟨ob,k _ _ (.inl rfl) e⟩
 |xd fs=>obtain⟨mA,⟨od,es,ep,e,c⟩,r⟩:=x;exact⟨mA,⟨od,es,ep,k _ _ (.inl rfl) e,c⟩,r⟩
 |rng lo hi=>obtain⟨t,u,v,e⟩:=x;exact⟨t,u,v,k _ _ (.inl rfl) e⟩
 |frz ob u ih=>obtain⟨e,q⟩:=x;exact⟨k _ _ (.inl rfl) e,ih q⟩
 |tbl ps=>
  have e:h.get? a=ae { cls:= .none,data:= .fields ps }:=x;show h'.get? a=ae { cls:= .none,data:= .fields ps };exact k a _ (.inl rfl) e
 |met f y=>
  have e:h.get? a=ae (iP (.ref f) (.ref y)):=x;show h'.get? a=ae (iP (.ref f) (.ref y));exact k a _ (.inl rfl) e
 |ext φ=>obtain⟨p,⟨o,e⟩,st⟩:=x;exact⟨st _ _ p λo q=>k _ _ (.inl rfl) q,⟨o,k _ _ (.inl rfl) e⟩,st⟩
theorem HOk.lt (x:HOk P w H h) (e:H a=ae o):a<h.objs.size:=(x a o e).lt
theorem HOk.fresh (x:HOk P w H h) (e:h.objs.size≤a):H a=none:=by
 cases q:H a with
 |none=>rfl
 |some u=>exact absurd (bJ (x.lt q) e) (cQ _)
theorem HOk.kept (x:HOk P w H h) (k:∀b u,h.get? b=ae u→h'.get? b=ae u):HOk P w H h':=λa o e=>
 (x a o e).stay (λb u _ q=>k b u q) (λ_ q=>q) λ_ _ q=>q
theorem HOk.laid (x:HOk P w H h) (k:∀b u,h.get? b=ae u→h'.get? b=ae u) (hp:h.objs.size≤a) (new:ObjOk P w (upd H a o) h' a o):HOk P w (upd H a o) h':=λb u e=>by
 have hn:=x.fresh hp;by_cases hb:b=a
 ·subst hb;rw[zay]at e;cases e;exact new
 ·rw[zaz hb]at e;exact(x b u e).stay (λc v _ q=>k c v q) (λc q=>by rw[zaz (zau q hn)];exact q) λc xs q=>by rw[zaz (zau q hn)];exact q
end
def Rd (H:Hp) (a:Addr) (u:HO):Prop:=H a=ae u∨ ∃o,H a=ae (.frz o u)
theorem Rd.ok{P:aE}{w:aC}{H:Hp}{h:Heap}{a:Addr}{u:HO}(r:Rd H a u) (x:HOk P w H h):ObjOk P w H h a u:=by
 rcases r with r |⟨o,r⟩
 ·exact x a u r
 ·obtain⟨_,q⟩:=x a _ r;exact q
noncomputable def Mut:Option HO→Prop
 |some (.lst _)=>True
 |some (.dK _)=>True
 |some (.dT _)=>True
 |some (.set _ _)=>True
 |some (.ins _ _ _)=>True
 |some (.ext _)=>True
 |_=>False
section
variable {P:aE}{w:aC}{H:Hp}{h h':Heap}{x e:Addr}{o':HO}
theorem HOk.write (ok:HOk P w H h) (mu:Mut (H x)) (he:e=x∨H e=ae (.own x)) (k:∀b u,b≠e→h.get? b=ae u→h'.get? b=ae u) (heo:∃u,h'.get? e=ae u)
  (new:ObjOk P w (upd H x o') h' x o'):HOk P w (upd H x o') h':=λb u q=>by
 have nown:∀c y,H c=ae (.own y)→c≠x:=λc y r z=>by subst z;rw[r]at mu;exact mu
 have ntup:∀c xs,H c=ae (.tup xs)→c≠x:=λc xs r z=>by subst z;rw[r]at mu;exact mu
 by_cases hb:b=x
 ·subst hb;rw[zay]at q;cases q;exact new
 ·rw[zaz hb]at q;by_cases hbe:b=e
  ·have q':H b=ae (.own x):=by
    rcases he with z |z
    ·exact absurd (hbe.trans z) hb
    ·rw[hbe];exact z
   rw[q]at q';cases q';obtain⟨v,hv⟩:=heo;exact⟨v,by rw[hbe];exact hv⟩
  ·refine(ok b u q).stay (λc v hc r=>k c v ?_ r) (λc r=>by rw[zaz (nown c b r)];exact r) λc xs r=>by rw[zaz (ntup c xs r)];exact r
   rcases hc with rfl |hc
   ·exact hbe
   ·rintro rfl;rcases he with z |z
    ·exact nown c b hc z
    ·rw[hc]at z;cases z;exact hb rfl
end
structure Un (fs ex:List Addr) (H H':Hp) (h h':Heap):Prop where
  keep:∀b o,h.get? b=ae o→H b=none→b∉fs→b∉ex→h'.get? b=ae o
  slot:∀b o,h.get? b=ae o→H b=none→b∈fs→b∉ex→ ∃sl,h'.get? b=ae { o with slots:=sl }
  free:∀b o,h.get? b=ae o→H b=none→b∉ex→H' b=none
  there:∀b o,h.get? b=ae o→b∉ex→ ∃o',h'.get? b=ae o'
  tups:∀b xs,H b=ae (.tup xs)→H' b=ae (.tup xs)
  frzs:∀b o u,H b=ae (.frz o u)→H' b=ae (.frz o u)
  tbls:∀b ps,H b=ae (.tbl ps)→ ∃more,H' b=ae (.tbl (ps++more))
section
variable {fs ex:List Addr}{H H1 H2:Hp}{h h1 h2 h':Heap}{a x e:Addr}{o:HO}
theorem Un.any (u:Un fs ex H H1 h h1) {b:Addr}{ob:Obj}(q:h.get? b=ae ob) (n:H b=none) (hx:b∉ex):∃sl,h1.get? b=ae { ob with slots:=sl }:=by
 by_cases hb:b∈fs
 ·exact u.slot b ob q n hb hx
 ·exact⟨ob.slots,u.keep b ob q n hb hx⟩
theorem Un.trans (a:Un fs ex H H1 h h1) (b:Un fs ex H1 H2 h1 h2):Un fs ex H H2 h h2 where
  keep:=λc ob q n hc hx=>b.keep c ob (a.keep c ob q n hc hx) (a.free c ob q n hx) hc hx
  slot:=λc ob q n hc hx=>by
    obtain⟨sl,e1⟩:=a.slot c ob q n hc hx;obtain⟨sl',e2⟩:=b.slot c _ e1 (a.free c ob q n hx) hc hx;exact⟨sl',e2⟩
  free:=λc ob q n hx=>by
    obtain⟨o',e1⟩:=a.there c ob q hx;exact b.free c o' e1 (a.free c ob q n hx) hx
  there:=λc ob q hx=>by
    obtain⟨o',e1⟩:=a.there c ob q hx;exact b.there c o' e1 hx
  tups:=λc xs q=>b.tups c xs (a.tups c xs q)
  frzs:=λc ob xs q=>b.frzs c ob xs (a.frzs c ob xs q)
  tbls:=λc ps q=>by
    obtain⟨m1,e1⟩:=a.tbls c ps q;obtain⟨m2,e2⟩:=b.tbls c _ e1;exact⟨m1++m2,by rw[e2,kH]⟩
theorem Un.kept (k:∀b u,h.get? b=ae u→h'.get? b=ae u):Un fs ex H H h h':=
 ⟨λb ob q _ _ _=>k b ob q,λb ob q _ _ _=>⟨ob.slots,k b ob q⟩,λ_ _ _ n _=>n,λb ob q _=>⟨ob,k b ob q⟩,λ_ _ q=>q,λ_ _ _ q=>q,λ_ ps q=>⟨#[],by rw[q];simp⟩⟩
theorem Un.refl:Un fs ex H H h h:=Un.kept λ_ _ q=>q
theorem Un.laid (k:∀b u,h.get? b=ae u→h'.get? b=ae u) (hp:h.objs.size≤a) (hn:H a=none):Un fs ex H (upd H a o) h h' where
  keep:=λb u q _ _ _=>k b u q
  slot:=λb u q _ _ _=>⟨u.slots,k b u q⟩
  free:=λb u q n _=>by rw[zaz (bA (bJ (aK q) hp))];exact n
  there:=λb u q _=>⟨u,k b u q⟩
  tups:=λb xs q=>by rw[zaz (zau q hn)];exact q
  frzs:=λb u xs q=>by rw[zaz (zau q hn)];exact q
  tbls:=λb ps q=>⟨#[],by rw[zaz (zau q hn),q];simp⟩
theorem Un.write (mu:Mut (H x)) (he:e=x∨H e=ae (.own x)) (k:∀b u,b≠e→h.get? b=ae u→h'.get? b=ae u) (heo:∃u,h'.get? e=ae u):Un fs ex H (upd H x o) h h':=by
 have hx:∀b,H b=none→b≠x:=λb n z=>by subst z;rw[n]at mu;exact mu
 have hb:∀b,H b=none→b≠e:=λb n z=>by
  subst z;rcases he with r |r
  ·exact hx b n r
  ·rw[n]at r;cases r
 have hm:∀b u,H b=ae u→ ¬Mut (ae u)→b≠x:=λb u q nm z=>by subst z;rw[q]at mu;exact nm mu
 refine⟨λb u q n _ _=>k b u (hb b n) q,λb u q n _ _=>⟨u.slots,k b u (hb b n) q⟩,λb u q n _=>by rw[zaz (hx b n)];exact n,λb u q _=>?_,
  λb xs q=>by rw[zaz (hm b _ q λz=>z)];exact q,λb u xs q=>by rw[zaz (hm b _ q λz=>z)];exact q,λb ps q=>⟨#[],by rw[zaz (hm b _ q λz=>z),q];simp⟩⟩
 by_cases hbe:b=e
 ·subst hbe;exact heo
 ·exact⟨u,k b u hbe q⟩
end
noncomputable def trk (h:Heap) (H:Hp):List Addr:=(aX h.objs.size).filter λa=>(H a).isSome
noncomputable def zso (h:Heap) (H:Hp):Heap:=eO h (trk h H)
theorem zpb (h:Heap) (H:Hp):(zso h H).objs.size=h.objs.size:=PySem.W.hideAll_size _ _
theorem zts{h:Heap}{H:Hp}{b:Addr}{o:Obj}(e:h.get? b=ae o) (n:H b=none):(zso h H).get? b=ae o:=
 gV _ e λhm=>by
  have q:(H b).isSome=true:=(hZ.mp hm).2;rw[n]at q;simp at q
theorem zvg{h:Heap}{H:Hp}{b:Addr}{o:Obj}(e:(zso h H).get? b=ae o):h.get? b=ae o∧H b=none:=by
 have e':h.get? b=ae o:=gA (trk h H) e;refine⟨e',?_⟩;cases q:H b with
 |none=>rfl
 |some x=>
  have hm:b∈trk h H:=hZ.mpr ⟨eN.mpr (aK e'),by simp [q]⟩
  have z:(zso h H).get? b=none:=gm (trk h H) hm;rw[z]at e;cases e
noncomputable def zwb (g h:Heap) (L:Addr):List (Addr×Obj):=(aX h.objs.size).filterMap λa=>if a=L∨(g.get? a).isSome=true then none else(h.get? a).map λo=>(a,o)
noncomputable def rest (g h:Heap) (L d:Addr):List (Addr×Obj):=(zwb g h L).filter λp=>decide (p.1≠d)
structure Mod (K:aj) (mg:Str→Option Value) (base:Heap):Prop where
  kin:K.In base
  glob:base.Ns aL mg
  blt:∃mb,base.Ns gq mb∧ ∀x:Str,x≠ "__name__" →mb x=bV x
  nolimit:base.NoLimit
structure Cx where
  prog:aE
  w:aC
  K:aj
  mg:Str→Option Value
  base:Heap
  A:aQ
  N:List Str
  s₀:ah
  H₀:Hp
  env:bB
  outer:List bB
  stack:List bB
  ex:List Addr
  fn:Str→Bool
  calm:Bool
  pn:List (Addr×Obj)
  xe:Value→ah→Prop
noncomputable def frs (l:List bB):List Addr:=l.filterMap (·.frame)
noncomputable abbrev Cx.fs (X:Cx):List Addr:=frs X.outer
def Vis (sc:Scope) (x:Str):Prop:=sc.names.lookup x=ae .local∨sc.names.lookup x=ae .cell∨sc.names.lookup x=ae .free
def Loc (sc:Scope) (x:Str):Prop:=sc.names.lookup x=ae .local∨sc.names.lookup x=ae .cell
def zBH (env:bB) (h:Heap) (m:Str→Option Value) (x:Str) (u:Value):Prop:=
 (env.kindOf x=ae .local∧m x=ae u)∨((env.kindOf x=ae .cell∨env.kindOf x=ae .free)∧ ∃c,env.cells.lookup x=ae c∧h.IsCell c (ae u))
structure Cx.Ok (X:Cx):Prop where
  mod:Mod X.K X.mg X.base
  kind:X.env.scope.kind= .function
  glob:X.env.globals=aL
  blt:X.env.builtins=gq
  above:X.s₀.heap.objs.size≤X.env.locals
  inj:∀x y c,X.env.cells.lookup x=ae c→X.env.cells.lookup y=ae c→x=y
  has:∀x,(X.env.kindOf x=ae .cell∨X.env.kindOf x=ae .free)→ ∃c,X.env.cells.lookup x=ae c
  cab:∀x c,X.fn x=true→X.env.cells.lookup x=ae c→X.s₀.heap.objs.size≤c
  hd:X.calm=true→X.A.handled=none
  frames:X.A.frames=ae X.stack
  stk:X.stack=X.outer∨(X.stack=X.env::X.outer∧X.env.frame=ae X.env.locals)
  exf:∀b∈X.ex,b≠X.env.locals∧ ∀x c,X.env.cells.lookup x=ae c→c≠b
  bs:∀b o,X.base.get? b=ae o→X.s₀.heap.get? b=ae o∧X.H₀ b=none
  bsz:X.base.objs.size≤X.s₀.heap.objs.size
  noex:∀b o,X.base.get? b=ae o→b∉X.ex
  exfs:∀b∈X.ex,b∉X.fs
  funs:X.s₀.heap.FunFrames X.base X.outer
  frf:∀b∈X.fs,X.H₀ b=none
structure Inv (X:Cx) (pins:List (Addr×Obj)) (σ:List (Option V)) (H:Hp) (s:ah):Prop where
  ok:X.Ok
  os:s.os=X.s₀.os
  bare:ce s.gens
  base:Un X.fs X.ex X.H₀ H X.s₀.heap s.heap
  loc:∃m,s.heap.Ns X.env.locals m∧ ∀(i:Nat) (x:Str) (v:V),X.N[i]? =ae x→σ[i]? =ae (ae v)→Vis X.env.scope x→ ∃u,RelV v u∧zBH X.env s.heap m x u
  cell:∀x c,X.env.cells.lookup x=ae c→ ∃v,s.heap.IsCell c v
  free:H X.env.locals=none
  freeC:∀x c,X.env.cells.lookup x=ae c→H c=none
  pin:∀p∈X.pn++pins,s.heap.get? p.1=ae p.2∧H p.1=none∧p.1≠X.env.locals∧p.1∉X.fs∧ ∀v,p.2.data≠ .cell v
  hok:HOk X.prog X.w H s.heap
  len:σ.length=X.N.length
section
variable {X:Cx}{pins:List (Addr×Obj)}{σ:List (Option V)}{H H':Hp}{s:ah}{h':Heap}
theorem Cx.Ok.nofr (ok:X.Ok) {b:Addr}{o:Obj}(e:X.base.get? b=ae o):b∉X.fs:=λhb=>by
 have:=(ok.funs.mem hb).1;rw[e]at this;cases this
theorem Inv.bs (I:Inv X pins σ H s):∀b o,X.base.get? b=ae o→s.heap.get? b=ae o∧H b=none:=λb o e=>
 ⟨I.base.keep b o (I.ok.bs b o e).1 (I.ok.bs b o e).2 (I.ok.nofr e) (I.ok.noex b o e),I.base.free b o (I.ok.bs b o e).1 (I.ok.bs b o e).2 (I.ok.noex b o e)⟩
theorem Inv.bk (I:Inv X pins σ H s):∀b o,X.base.get? b=ae o→s.heap.get? b=ae o:=λb o e=>(I.bs b o e).1
theorem Inv.mod (I:Inv X pins σ H s):Mod X.K X.mg X.base:=I.ok.mod
theorem Inv.kIn (I:Inv X pins σ H s):X.K.In s.heap:=I.ok.mod.kin.keeps I.bk
theorem Inv.lt (I:Inv X pins σ H s):X.env.locals<s.heap.objs.size:=let ⟨_,hn,_⟩:=I.loc;hn.lt
theorem Inv.sz (I:Inv X pins σ H s):X.s₀.heap.objs.size≤s.heap.objs.size:=a9 I.ok.above (iJ I.lt)
theorem Inv.nofs (I:Inv X pins σ H s) {a:Addr}(h:s.heap.objs.size≤a):a∉X.fs:=λhb=>by
 obtain⟨_,o,ho,_⟩:=I.ok.funs.mem hb;exact absurd (bJ (aK ho) (a9 I.sz h)) (cQ _)
theorem Inv.cne (I:Inv X pins σ H s):∀x c,X.env.cells.lookup x=ae c→c≠X.env.locals:=λx c e z=>by
 obtain⟨v,o,ho,hd⟩:=I.cell x c e;obtain⟨m,⟨o',es,ep,ho',hd',_⟩,_⟩:=I.loc;rw[z,ho']at ho;cases ho;rw[hd']at hd;cases hd
theorem Inv.funs (I:Inv X pins σ H s):s.heap.FunFrames X.base X.outer:=by
 have all:∀(l:List bB),(∀b∈frs l,b∈X.fs)→X.s₀.heap.FunFrames X.base l→s.heap.FunFrames X.base l:=by
  intro l
  induction l with
  |nil=>intro _ _;trivial
  |cons env r ih=>
   intro hs hl;obtain⟨hk,⟨L,o,hf,hn,ho,hd⟩,hr⟩:=hl;have hL:L∈X.fs:=hs L (by unfold frs;rw[gk,hf];exact aV);obtain⟨sl,e⟩:=I.base.slot L o ho (I.ok.frf L hL) hL λz=>I.ok.exfs L z hL;exact⟨hk,⟨L,_,hf,hn,e,hd⟩,ih (λb hb=>hs b (by unfold frs;rw[gk,hf];exact aI _ hb)) hr⟩
 exact all X.outer (λ_ hb=>hb) I.ok.funs
theorem Inv.stack (I:Inv X pins σ H s):s.heap.FunFrames X.base X.stack:=by
 rcases I.ok.stk with e |⟨e,hf⟩
 ·rw[e];exact I.funs
 ·rw[e];obtain⟨m,hn,_⟩:=I.loc;refine .cons (by rw[I.ok.kind];decide) hf hn ?_ I.funs;exact Heap.get?_none_of_le (a9 I.ok.bsz I.ok.above)
theorem Inv.stkSub (I:Inv X pins σ H s):∀b∈frs X.stack,b∈X.env.locals::X.fs:=λb hb=>by
 rcases I.ok.stk with e |⟨e,hf⟩
 ·rw[e]at hb;exact aI _ hb
 ·rw[e]at hb;unfold frs at hb;rw[gk,hf]at hb;exact hb
theorem Inv.stkFree (I:Inv X pins σ H s):∀b∈frs X.stack,H b=none:=λb hb=>by
 rcases aA.mp (I.stkSub b hb) with e |hb
 ·rw[e];exact I.free
 ·obtain⟨_,o,ho,_⟩:=I.ok.funs.mem hb;exact I.base.free b o ho (I.ok.frf b hb) λz=>I.ok.exfs b z hb
theorem Inv.step{g':Array GenState}{t':Nat}{d':Drawn}{ch:List Addr}(I:Inv X pins σ H s)
  (hch:∀b∈ch,(b∈X.ex∨X.s₀.heap.objs.size≤b)∧b≠X.env.locals∧(∀x c,X.env.cells.lookup x=ae c→c≠b)∧ ∀p∈X.pn++pins,p.1≠b)
  (keep:∀b o,b≠X.env.locals→b∉X.fs→b∉ch→s.heap.get? b=ae o→H b=none→h'.get? b=ae o)
  (slot:∀b o,b≠X.env.locals→b∈X.fs→b∉ch→s.heap.get? b=ae o→H b=none→ ∃sl,h'.get? b=ae { o with slots:=sl }) (free:∀b o,b∉ch→s.heap.get? b=ae o→H b=none→H' b=none)
  (there:∀b o,b∉ch→s.heap.get? b=ae o→ ∃o',h'.get? b=ae o')
  (tups:∀b xs,H b=ae (.tup xs)→H' b=ae (.tup xs)) (frzs:∀b o u,H b=ae (.frz o u)→H' b=ae (.frz o u)) (tbls:∀b ps,H b=ae (.tbl ps)→ ∃more,H' b=ae (.tbl (ps++more)))
  (ns:∀m,s.heap.Ns X.env.locals m→h'.Ns X.env.locals m) (hok:HOk X.prog X.w H' h') (hg:ce g') :
  Inv X pins σ H' { s with heap:=h',gens:=g',drawn:=d',toks:=t' }:=by
 have neL:∀b o,X.s₀.heap.get? b=ae o→b≠X.env.locals:=λb o e=>bA (bJ (aK e) I.ok.above);have neC:∀b o,X.s₀.heap.get? b=ae o→b∉X.ex→b∉ch:=λb o e hx hb=>by
  rcases(hch b hb).1 with z |z
  ·exact hx z
  ·exact absurd (bJ (aK e) z) (cQ _)
 have cellK:∀x c,X.env.cells.lookup x=ae c→ ∀v,s.heap.IsCell c v→h'.IsCell c v:=λx c e v ⟨o,ho,hd⟩=>by
  have nch:c∉ch:=λz=>(hch c z).2.2.1 x c e rfl;by_cases hc:c∈X.fs
  ·obtain⟨sl,q⟩:=slot c o (I.cne x c e) hc nch ho (I.freeC x c e);exact⟨_,q,hd⟩
  ·exact⟨o,keep c o (I.cne x c e) hc nch ho (I.freeC x c e),hd⟩
 refine⟨I.ok,I.os,hg,⟨λb o e n hb hx=>?_,λb o e n hb hx=>?_,λb o e n hx=>?_,λb o e hx=>?_,λb xs e=>tups b xs (I.base.tups b xs e),λb o xs e=>frzs b o xs (I.base.frzs b o xs e),λb ps e=>?_⟩,?_,λx c e=>?_,?_,λx c e=>?_,λp hp=>?_,hok,I.len⟩
 ·exact keep b o (neL b o e) hb (neC b o e hx) (I.base.keep b o e n hb hx) (I.base.free b o e n hx)
 ·obtain⟨sl,e1⟩:=I.base.slot b o e n hb hx;obtain⟨sl',e2⟩:=slot b _ (neL b o e) hb (neC b o e hx) e1 (I.base.free b o e n hx);exact⟨sl',e2⟩
 ·obtain⟨o',e1⟩:=I.base.there b o e hx;exact free b o' (neC b o e hx) e1 (I.base.free b o e n hx)
 ·obtain⟨o',e1⟩:=I.base.there b o e hx;exact there b o' (neC b o e hx) e1
 ·obtain⟨m1,e1⟩:=I.base.tbls b ps e;obtain⟨m2,e2⟩:=tbls b _ e1;exact⟨m1++m2,by rw[e2,kH]⟩
 ·obtain⟨m,hn,hl⟩:=I.loc;refine⟨m,ns m hn,λi x v e1 e2 e3=>?_⟩;obtain⟨u,r,l⟩:=hl i x v e1 e2 e3;refine⟨u,r,?_⟩;rcases l with l |⟨k,c,e,z⟩
  ·exact .inl l
  ·exact .inr ⟨k,c,e,cellK x c e _ z⟩
 ·obtain⟨v,z⟩:=I.cell x c e;exact⟨v,cellK x c e v z⟩
 ·obtain⟨m,⟨o,_,_,ho,_⟩,_⟩:=I.loc;exact free _ o (λz=>(hch _ z).2.1 rfl) ho I.free
 ·obtain⟨v,o,ho,hd⟩:=I.cell x c e;exact free c o (λz=>(hch c z).2.2.1 x c e rfl) ho (I.freeC x c e)
 ·obtain⟨e,n,ne,nf,d⟩:=I.pin p hp;have nch:p.1∉ch:=λz=>(hch p.1 z).2.2.2 p hp rfl;exact⟨keep p.1 p.2 ne nf nch e n,free p.1 p.2 nch e n,ne,nf,d⟩
theorem Inv.un{t':Nat}(I:Inv X pins σ H s) (u:Un X.fs [] H H' s.heap h') (hok:HOk X.prog X.w H' h'):Inv X pins σ H' { s with heap:=h',toks:=t' }:=by
 obtain⟨m,⟨o,es,ep,ho,r⟩,_⟩:=id I.loc;obtain⟨sl,hL⟩:=u.any ho I.free (by simp);exact I.step (g':=s.gens) (d':=s.drawn) (ch:=[]) (λ_ z=>nomatch z) (λb o _ hb _ e n=>u.keep b o e n hb (by simp)) (λb o _ hb _ e n=>u.slot b o e n hb (by simp)) (λb o _ e n=>u.free b o e n (by simp)) (λb o _ e=>u.there b o e (by simp)) u.tups u.frzs u.tbls (λm' hm=>by
  obtain⟨o',es',ep',ho',r'⟩:=hm;rw[ho]at ho';cases ho';exact⟨_,es',ep',hL,r'⟩) hok I.bare
theorem Inv.call{g':Array GenState}{t':Nat}{d':Drawn}{ch:List Addr}(I:Inv X pins σ H s) (u:Un (frs X.stack) ch H H' s.heap h') (hok:HOk X.prog X.w H' h') (hg:ce g')
  (hch:∀b∈ch,(b∈X.ex∨X.s₀.heap.objs.size≤b)∧b≠X.env.locals∧(∀x c,X.env.cells.lookup x=ae c→c≠b)∧ ∀p∈X.pn++pins,p.1≠b) :
  Inv X pins σ H' { s with heap:=h',gens:=g',drawn:=d',toks:=t' }:=by
 obtain⟨m,⟨o,es,ep,ho,r⟩,_⟩:=id I.loc;obtain⟨sl,hL⟩:=u.any ho I.free λz=>(hch _ z).2.1 rfl;exact I.step (ch:=ch) hch (λb o hL hb hc e n=>u.keep b o e n (λz=>(aA.mp (I.stkSub b z)).elim hL hb) hc) (λb o _ _ hc e n=>u.any e n hc) (λb o hc e n=>u.free b o e n hc) (λb o hc e=>u.there b o e hc) u.tups u.frzs u.tbls (λm' hm=>by
  obtain⟨o',es',ep',ho',r'⟩:=hm;rw[ho]at ho';cases ho';exact⟨_,es',ep',hL,r'⟩) hok hg
theorem Inv.turned{t':Nat}{it:Addr}(I:Inv X pins σ H s) (k:∀b o,b≠it→s.heap.get? b=ae o→h'.get? b=ae o) (hn:H it=none) (hL:it≠X.env.locals)
  (h1:it∈X.ex∨X.s₀.heap.objs.size≤it) (h2:∀x c,X.env.cells.lookup x=ae c→c≠it) (h3:∀p∈X.pn++pins,p.1≠it):Inv X pins σ H { s with heap:=h',toks:=t' }:=by
 have nit:∀b u,H b=ae u→b≠it:=λb u e z=>by rw[z,hn]at e;cases e
 refine I.step (g':=s.gens) (d':=s.drawn) (ch:=[it]) (λb hb=>?_) (λb o _ _ hc e _=>k b o (λz=>hc (by simp [z])) e) (λb o _ _ hc e _=>⟨o.slots,k b o (λz=>hc (by simp [z])) e⟩) (λ_ _ _ _ n=>n)
  (λb o hc e=>⟨o,k b o (λz=>hc (by simp [z])) e⟩) (λ_ _ e=>e) (λ_ _ _ e=>e) (λb ps e=>⟨#[],by rw[e];simp⟩) (λm hm=>?_) (λb u e=>?_) I.bare
 ·have e:b=it:=by simpa using hb
  subst e;exact⟨h1,hL,h2,h3⟩
 ·obtain⟨o,es,ep,ho,r⟩:=hm;exact⟨o,es,ep,k _ o (bu hL) ho,r⟩
 ·refine(I.hok b u e).stay (λc v hc q=>k c v ?_ q) (λ_ q=>q) λ_ _ q=>q;rcases hc with z |z
  ·rw[z];exact nit b u e
  ·exact nit c _ z
theorem Inv.tok (I:Inv X pins σ H s) (t:Nat):Inv X pins σ H { s with toks:=t }:=I.un (h':=s.heap) (t':=t) Un.refl I.hok
theorem Inv.kept{t':Nat}(I:Inv X pins σ H s) (k:∀b u,s.heap.get? b=ae u→h'.get? b=ae u):Inv X pins σ H { s with heap:=h',toks:=t' }:=I.un (Un.kept k) (I.hok.kept k)
theorem Inv.laid{a:Addr}{o:HO}{t':Nat}(I:Inv X pins σ H s) (k:∀b u,s.heap.get? b=ae u→h'.get? b=ae u) (hp:s.heap.objs.size≤a) (new:ObjOk X.prog X.w (upd H a o) h' a o) :
  Inv X pins σ (upd H a o) { s with heap:=h',toks:=t' }:=I.un (Un.laid k hp (I.hok.fresh hp)) (I.hok.laid k hp new)
theorem Inv.write{x e:Addr}{o:HO}{t':Nat}(I:Inv X pins σ H s) (mu:Mut (H x)) (he:e=x∨H e=ae (.own x)) (k:∀b u,b≠e→s.heap.get? b=ae u→h'.get? b=ae u) (heo:∃u,h'.get? e=ae u)
  (new:ObjOk X.prog X.w (upd H x o) h' x o):Inv X pins σ (upd H x o) { s with heap:=h',toks:=t' }:=I.un (Un.write mu he k heo) (I.hok.write mu he k heo new)
theorem Inv.pins_of{pins':List (Addr×Obj)}(I:Inv X pins σ H s) (h:∀p∈pins',s.heap.get? p.1=ae p.2∧H p.1=none∧p.1≠X.env.locals∧p.1∉X.fs∧ ∀v,p.2.data≠ .cell v):Inv X pins' σ H s:=
 ⟨I.ok,I.os,I.bare,I.base,I.loc,I.cell,I.free,I.freeC,λp hp=>(bp.mp hp).elim (λz=>I.pin p (j4 _ z)) (h p),I.hok,I.len⟩
theorem znE{N:List Str}(hN:N.Nodup) {i j:Nat}{x:Str}(a:N[i]? =ae x) (b:N[j]? =ae x):i=j:=by
 obtain⟨h1,e1⟩:=cf.mp a;obtain⟨h2,e2⟩:=cf.mp b;exact(List.getElem_inj hN).mp (e1.trans e2.symm)
theorem zkM{M:Model}{A:aQ}{E:Value→ah→Prop}{i:Nat}{x:Str}{v:V}{u:Value}{Q:Unit→ah→Prop}(I:Inv X pins σ H s) (hN:X.N.Nodup) (hi:X.N[i]? =ae x) (hx:Loc X.env.scope x) (r:RelV v u)
  (h:∀s',Inv X pins (σ.set i (ae v)) H s'→(∃a,ci a s.heap s'.heap∧(a=X.env.locals∨X.env.cells.lookup x=ae a))→Q () s') (hf:X.fn x=true∨X.env.scope.names.lookup x=ae .local:=by first |exact .inl rfl |exact .inr rfl |assumption):am M A (iI X.env x u) Q E s:=by
 obtain⟨m,hn,hl⟩:=id I.loc;have hcls:(X.env.scope.kind == .class || (X.env.scope.kind == .module&&X.env.locals != X.env.globals))=false:=by rw[I.ok.kind];rfl
 have hiσ:i<σ.length:=by rw[I.len];exact(cf.mp hi).1
 have cne:=I.cne;have tracked:∀{a:Addr}{h':Heap},(∃o,s.heap.get? a=ae o∧H a=none)→ci a s.heap h'→HOk X.prog X.w H h':=λ{a h'} ha hs b ob e=>by
  obtain⟨_,_,hfree⟩:=ha;refine(I.hok b ob e).stay (λc w' hc q=>(hs.2 c ?_).trans q) (λ_ q=>q) λ_ _ q=>q;rintro rfl;rcases hc with rfl |hc
  ·rw[hfree]at e;cases e
  ·rw[hfree]at hc;cases hc
 rcases hx with hk |hk
 ·refine wpAny_storeName_local hk hn (λh' hn' hs=>?_) hcls;obtain⟨oL,_,_,hoL,_⟩:=id hn;refine h _ ⟨I.ok,I.os,I.bare,⟨λb o e n hb hx=>?_,λb o e n hb hx=>?_,I.base.free,λb o e hx=>?_,I.base.tups,I.base.frzs,I.base.tbls⟩,⟨_,hn',λj y v' e1 e2 e3=>?_⟩,λy c e=>?_,I.free,I.freeC,λp hp=>?_,tracked ⟨oL,hoL,I.free⟩ hs,by simpa using I.len⟩ ⟨_,hs, .inl rfl⟩
  ·exact(hs.2 b (bA (bJ (aK e) I.ok.above))).trans (I.base.keep b o e n hb hx)
  ·obtain⟨sl,e1⟩:=I.base.slot b o e n hb hx;exact⟨sl,(hs.2 b (bA (bJ (aK e) I.ok.above))).trans e1⟩
  ·obtain⟨o',e1⟩:=I.base.there b o e hx;exact⟨o',(hs.2 b (bA (bJ (aK e) I.ok.above))).trans e1⟩
  ·by_cases hj:j=i
   ·subst hj;rw[hi]at e1;cases e1;rw[kl hiσ]at e2;cases e2;exact⟨u,r, .inl ⟨hk,by simp⟩⟩
   ·rw[kx (bu hj)]at e2;obtain⟨u',r',q⟩:=hl j y v' e1 e2 e3;refine⟨u',r',?_⟩;rcases q with⟨k,e⟩ |⟨k,c,e,z⟩
    ·refine .inl ⟨k,?_⟩;have:y≠x:=λe=>hj (znE hN e1 (e▸hi));simp [this,e]
    ·exact .inr ⟨k,c,e,z.sameBut hs (cne y c e)⟩
  ·obtain⟨w',z⟩:=I.cell y c e;exact⟨w',z.sameBut hs (cne y c e)⟩
  ·obtain⟨e,n,ne,nf,d⟩:=I.pin p hp;exact⟨(hs.2 p.1 ne).trans e,n,ne,nf,d⟩
 ·have hfn:X.fn x=true:=by
   rcases hf with z |z
   ·exact z
   ·rw[z]at hk;cases hk
  obtain⟨c,hc⟩:=I.ok.has x (.inl hk);obtain⟨w',z⟩:=I.cell x c hc;refine wpAny_storeName_cell I.ok.kind hk hc z (λh' hc' hs=>?_);obtain⟨oc,hoc,hocd⟩:=id z;refine h { s with heap:=h' } ⟨I.ok,I.os,I.bare,⟨λb o e n hb hx=>?_,λb o e n hb hx=>?_,I.base.free,λb o e hx=>?_,I.base.tups,I.base.frzs,I.base.tbls⟩,⟨m,hn.sameBut hs (bu (cne x c hc)),λj y v' e1 e2 e3=>?_⟩,λy c' e=>?_,I.free,I.freeC,λp hp=>?_,tracked ⟨oc,hoc,I.freeC x c hc⟩ hs,by simpa using I.len⟩ ⟨c,hs, .inr hc⟩
  ·exact(hs.2 b (bA (bJ (aK e) (I.ok.cab x c hfn hc)))).trans (I.base.keep b o e n hb hx)
  ·obtain⟨sl,e1⟩:=I.base.slot b o e n hb hx;exact⟨sl,(hs.2 b (bA (bJ (aK e) (I.ok.cab x c hfn hc)))).trans e1⟩
  ·obtain⟨o',e1⟩:=I.base.there b o e hx;exact⟨o',(hs.2 b (bA (bJ (aK e) (I.ok.cab x c hfn hc)))).trans e1⟩
  ·by_cases hj:j=i
   ·subst hj;rw[hi]at e1;cases e1;rw[kl hiσ]at e2;cases e2;exact⟨u,r, .inr ⟨.inl hk,c,hc,hc'⟩⟩
   ·rw[kx (bu hj)]at e2;obtain⟨u',r',q⟩:=hl j y v' e1 e2 e3;refine⟨u',r',?_⟩;rcases q with q |⟨k,c',e,z'⟩
    ·exact .inl q
    ·refine .inr ⟨k,c',e,z'.sameBut hs ?_⟩;rintro rfl;exact hj (znE hN e1 (I.ok.inj _ _ _ e hc▸hi))
  ·by_cases hcc:c'=c
   ·subst hcc;exact⟨_,hc'⟩
   ·obtain⟨w2,z2⟩:=I.cell y c' e;exact⟨w2,z2.sameBut hs hcc⟩
  ·obtain⟨e,n,ne,nf,d⟩:=I.pin p hp;refine⟨(hs.2 p.1 ?_).trans e,n,ne,nf,d⟩;intro q;rw[q,hoc]at e;have q':oc=p.2:=aH e;exact d w' (by rw[←q'];exact hocd)
theorem ziR{M:Model}{A:aQ}{E:Value→ah→Prop}{i:Nat}{x:Str}{v:V}{u:Value}{Q:Unit→ah→Prop}(I:Inv X pins σ H s) (hN:X.N.Nodup) (hi:X.N[i]? =ae x) (hx:Loc X.env.scope x) (r:RelV v u)
  (h:∀s',Inv X pins (σ.set i (ae v)) H s'→Q () s') (hf:X.fn x=true∨X.env.scope.names.lookup x=ae .local:=by first |exact .inl rfl |exact .inr rfl |assumption):am M A (iI X.env x u) Q E s:=
 zkM I hN hi hx r (λs' I' _=>h s' I') hf
theorem Inv.call'{s':ah}{ch:List Addr}(I:Inv X pins σ H s) (ho:s'.os=s.os) (u:Un (frs X.stack) ch H H' s.heap s'.heap) (hok:HOk X.prog X.w H' s'.heap) (hg:ce s'.gens)
  (hch:∀b∈ch,(b∈X.ex∨X.s₀.heap.objs.size≤b)∧b≠X.env.locals∧(∀x c,X.env.cells.lookup x=ae c→c≠b)∧ ∀p∈X.pn++pins,p.1≠b):Inv X pins σ H' s':=by
 obtain⟨h',g',d',t',o'⟩:=s';have e:o'=s.os:=ho;subst e;exact I.call (g':=g') (t':=t') (d':=d') u hok hg hch
end
abbrev XK:=Value→Option Addr→Hp→Prop
abbrev St:=List (Option V)
abbrev VK:=V→Hp→Prop
abbrev TE:=St→Hp→VK→Prop
abbrev TT:=St→Hp→(Bool→Hp→Prop)→Prop
abbrev TA:=St→Hp→(List V→Hp→Prop)→Prop
structure Ends where
  nx:St→Hp→Prop
  rt:VK
  bk:St→Hp→Prop:=λ_ _=>False
  ct:St→Hp→Prop:=λ_ _=>False
abbrev TS:=Ends→St→Hp→Prop
def EP (X:Cx) (pins:List (Addr×Obj)) (σ:St) (Q:VK) (u:Value) (s':ah):Prop:=∃v H',Inv X pins σ H' s'∧RelV v u∧Q v H'
def TP (X:Cx) (pins:List (Addr×Obj)) (σ:St) (Q:Bool→Hp→Prop) (b:Bool) (s':ah):Prop:=∃H',Inv X pins σ H' s'∧Q b H'
def AP (X:Cx) (pins:List (Addr×Obj)) (σ:St) (Q:List V→Hp→Prop) (us:List Value) (s':ah):Prop:=∃vs H',Inv X pins σ H' s'∧Vals vs us∧Q vs H'
def SP (X:Cx) (pins:List (Addr×Obj)) (D:Ends) (f:Flow) (s':ah):Prop:=
 match f with
 | .next=>∃σ' H',Inv X pins σ' H' s'∧D.nx σ' H'
 | .brk=>∃σ' H',Inv X pins σ' H' s'∧D.bk σ' H'
 | .cont=>∃σ' H',Inv X pins σ' H' s'∧D.ct σ' H'
 | .ret u=>∃v σ' H',Inv X pins σ' H' s'∧RelV v u∧D.rt v H'
def PE (X:Cx) (e:Expr) (t:TE):Prop:=
 ∀(pins:List (Addr×Obj)) (s:ah) (σ:St) (H:Hp) (Q:VK),Inv X pins σ H s→t σ H Q→am (aq X.prog X.w) X.A (az e X.env) (EP X pins σ Q) X.xe s
def PT (X:Cx) (e:Expr) (t:TT):Prop:=
 ∀(pins:List (Addr×Obj)) (s:ah) (σ:St) (H:Hp) (Q:Bool→Hp→Prop),Inv X pins σ H s→t σ H Q→am (aq X.prog X.w) X.A (isTrue e X.env (az e X.env)) (TP X pins σ Q) X.xe s
def PW (X:Cx) (e:Expr) (t:TT):Prop:=
 ∀(whole:b9 Value) (pins:List (Addr×Obj)) (s:ah) (σ:St) (H:Hp) (Q:Bool→Hp→Prop),Inv X pins σ H s→t σ H Q→am (aq X.prog X.w) X.A (isTrue e X.env whole) (TP X pins σ Q) X.xe s
theorem PW.pt{X:Cx}{e:Expr}{t:TT}(h:PW X e t):PT X e t:=h _
def PA (X:Cx) (es:List Expr) (t:TA):Prop:=
 ∀(pos:aB) (pins:List (Addr×Obj)) (s:ah) (σ:St) (H:Hp) (Q:List V→Hp→Prop),Inv X pins σ H s→t σ H Q→am (aq X.prog X.w) X.A (spliced (aT pos (ao es X.env))) (AP X pins σ Q) X.xe s
def PS (X:Cx) (st:Stmt) (t:TS):Prop:=
 ∀(pins:List (Addr×Obj)) (s:ah) (σ:St) (H:Hp) (D:Ends),Inv X pins σ H s→t D σ H→am (aq X.prog X.w) X.A (exec st X.env) (SP X pins D) X.xe s
def PSs (X:Cx) (st:List Stmt) (t:TS):Prop:=
 ∀(pins:List (Addr×Obj)) (s:ah) (σ:St) (H:Hp) (D:Ends),Inv X pins σ H s→t D σ H→am (aq X.prog X.w) X.A (execs st X.env) (SP X pins D) X.xe s
theorem thn{α:Type}{t:b9 α}{Q Q':α→ah→Prop}{M:Model}{A:aQ}{E:Value→ah→Prop}{s:ah}(h:am M A t Q E s) (hQ:∀a s,Q a s→Q' a s):am M A t Q' E s:=cn h hQ λ_ _ x=>x
section
variable {X:Cx}
noncomputable def zCu (i:Nat):TE:=λσ H Q=>∃v,σ[i]? =ae (ae v)∧Q v H
noncomputable def tC (v:V):TE:=λ_ H Q=>Q v H
theorem zyi{i:Nat}{x:Str}{pos:aB}(hN:X.N[i]? =ae x) (hv:Vis X.env.scope x) (hd:(x == ("__debug__" :Str))=false:=by decide) (hcd:(x == ("__classdict__" :Str))=false:=by decide):PE X (.Name x pos) (zCu i):=by
 intro pins s σ H Q I h;obtain⟨v,e,h⟩:=h;obtain⟨m,hn,hl⟩:=I.loc;obtain⟨u,r,l⟩:=hl i x v hN e hv;have fin:EP X pins σ Q u s:=⟨v,H,I,r,h⟩;rcases l with⟨hk,hm⟩ |⟨hk,c,hc,hcell⟩
 ·exact ip (i7 I.ok.kind hk hn hm fin) hd
 ·rcases hk with hk |hk
  ·exact ip (kr I.ok.kind hk hc hcell fin) hd
  ·exact ip (wpAny_loadName_free I.ok.kind hk hc hcell fin hcd) hd
theorem zyF{i j pos}:PE X (.Constant (.int i) j pos) (tC (.int i)):=λ_ _ _ H _ I h=>wpAny_Constant_int ⟨.int i,H,I.tok _,⟨_,rfl⟩,h⟩
theorem zBa{b j pos}:PE X (.Constant (.bool b) j pos) (tC (.bl b)):=λ_ _ _ H _ I h=>Constant_bool ⟨.bl b,H,I,rfl,h⟩
theorem zyS{j pos}:PE X (.Constant .none j pos) (tC .non):=λ_ _ _ H _ I h=>Constant_none ⟨.non,H,I,rfl,h⟩
theorem zxP{x j pos}:PE X (.Constant (.str x) j pos) (tC (.str x)):=λ_ _ _ H _ I h=>Calls.Constant_str ⟨.str x,H,I.tok _,⟨_,rfl⟩,h⟩
def Gl (X:Cx) (x:Str):Prop:=X.env.kindOf x=ae .globalImplicit
theorem zlO{E:Value→ah→Prop}{pins:List (Addr×Obj)}{s:ah}{σ:St}{H:Hp}{x:Str}{u:Value}{pos:aB}{Q:Value→ah→Prop}(I:Inv X pins σ H s) (hg:Gl X x) (hm:X.mg x=ae u) (h:Q u s)
  (hd:(x == ("__debug__" :Str))=false:=by decide):am (aq X.prog X.w) X.A (az (.Name x pos) X.env) Q E s:=
 jK I.ok.kind hg (Calls.loadGlobal_global (by rw[I.ok.glob];exact I.mod.glob.keeps I.bk) hm h) hd
theorem zhd{E:Value→ah→Prop}{pins:List (Addr×Obj)}{s:ah}{σ:St}{H:Hp}{x:Str}{u:Value}{pos:aB}{Q:Value→ah→Prop}(I:Inv X pins σ H s) (hg:Gl X x) (hm:X.mg x=none) (hv:bV x=ae u) (h:Q u s)
  (hn:x≠ "__name__" :=by decide) (hd:(x == ("__debug__" :Str))=false:=by decide):am (aq X.prog X.w) X.A (az (.Name x pos) X.env) Q E s:=by
 obtain⟨mb,h1,h2⟩:=I.mod.blt;exact jK I.ok.kind hg (Calls.loadGlobal_builtin (by rw[I.ok.glob];exact I.mod.glob.keeps I.bk) hm (by rw[I.ok.blt];exact h1.keeps I.bk) ((h2 x hn).trans hv) h) hd
theorem zwa{x:Str}{v:V}{u:Value}{pos:aB}(hg:Gl X x) (hm:X.mg x=ae u) (r:RelV v u) (hd:(x == ("__debug__" :Str))=false:=by decide):PE X (.Name x pos) (tC v):=
 λ_ _ _ H _ I h=>zlO I hg hm ⟨v,H,I,r,h⟩ hd
theorem zvK{x:Str}{v:V}{u:Value}{pos:aB}(hg:Gl X x) (hm:X.mg x=none) (hv:bV x=ae u) (r:RelV v u) (hn:x≠ "__name__" :=by decide) (hd:(x == ("__debug__" :Str))=false:=by decide):PE X (.Name x pos) (tC v):=
 λ_ _ _ H _ I h=>zhd I hg hm hv ⟨v,H,I,r,h⟩ hn hd
variable {a b:Expr}{ta tb:TE}{pos:aB}
variable {tA tB':TT}{rest:List Expr}
noncomputable def zCh (t u:TT):TT:=λσ H Q=>t σ H λc H1=>if c=true then u σ H1 Q else Q false H1
noncomputable def tOr (t u:TT):TT:=λσ H Q=>t σ H λc H1=>if c=true then Q true H1 else u σ H1 Q
noncomputable def zBJ (t:TT):TT:=λσ H Q=>t σ H λc H1=>Q (!c) H1
theorem zww (ha:PT X a tA):PW X (.BoolOp .And [a] pos) tA:=by
 intro wh pins s σ H Q I h;refine isTrue_and (thn (ha pins s σ H Q I h) λc s1 e=>?_);cases c with
 |true=>exact isTrue_and_nil e
 |false=>exact e
theorem zwU (ha:PT X a tA):PW X (.BoolOp .Or [a] pos) tA:=by
 intro wh pins s σ H Q I h;refine isTrue_or (thn (ha pins s σ H Q I h) λc s1 e=>?_);cases c with
 |false=>exact isTrue_or_nil e
 |true=>exact e
theorem zyy (ha:PT X a tA) (hb:PW X (.BoolOp .And (b::rest) pos) tB'):PW X (.BoolOp .And (a::b::rest) pos) (zCh tA tB'):=by
 intro wh pins s σ H Q I h;refine isTrue_and (thn (ha pins s σ H _ I h) λc s1 ⟨H1,I1,q1⟩=>?_);cases c with
 |true=>exact hb wh pins s1 σ H1 Q I1 q1
 |false=>exact⟨H1,I1,q1⟩
theorem zzZ (ha:PT X a tA) (hb:PW X (.BoolOp .Or (b::rest) pos) tB'):PW X (.BoolOp .Or (a::b::rest) pos) (tOr tA tB'):=by
 intro wh pins s σ H Q I h;refine isTrue_or (thn (ha pins s σ H _ I h) λc s1 ⟨H1,I1,q1⟩=>?_);cases c with
 |true=>exact⟨H1,I1,q1⟩
 |false=>exact hb wh pins s1 σ H1 Q I1 q1
theorem zxu (ha:PT X a tA):PT X (.UnaryOp .Not a pos) (zBJ tA):=by
 intro pins s σ H Q I h;exact isTrue_not (ha pins s σ H (λc H1=>Q (!c) H1) I h)
noncomputable def zAt (ta tb:TE):TE:=λσ H Q=>ta σ H λx H1=>∃c,x= .bl c∧if c=true then tb σ H1 Q else Q (.bl false) H1
noncomputable def zAE (ta:TE):TE:=λσ H Q=>ta σ H λx H1=>∃c,x= .bl c∧Q (.bl (!c)) H1
theorem zwV{op}{t:TE}(h:PE X a t):PE X (.BoolOp op [a] pos) t:=λpins s σ H Q I hw=>BoolOp_one (h pins s σ H Q I hw)
theorem zwY (ha:PE X a ta) (hb:PE X (.BoolOp .And (b::rest) pos) tb):PE X (.BoolOp .And (a::b::rest) pos) (zAt ta tb):=by
 intro pins s σ H Q I h;refine BoolOp_and (thn (ha pins s σ H _ I h) λv s1 ⟨x,H1,I1,r1,q1⟩=>?_);obtain⟨c,rfl,q1⟩:=q1;cases r1;refine fJ ?_;cases c with
 |true=>exact hb pins s1 σ H1 Q I1 q1
 |false=>exact⟨.bl false,H1,I1,rfl,q1⟩
theorem zys (ha:PE X a ta):PE X (.UnaryOp .Not a pos) (zAE ta):=by
 intro pins s σ H Q I h;refine UnaryOp_ (thn (ha pins s σ H _ I h) λv s1 ⟨x,H1,I1,r1,q1⟩=>?_);obtain⟨c,rfl,q1⟩:=q1;cases r1;exact not_of (fJ ⟨.bl (!c),H1,I1,rfl,q1⟩)
noncomputable def tIf (t:TT) (ta tb:TE):TE:=λσ H Q=>t σ H λc H1=>if c=true then ta σ H1 Q else tb σ H1 Q
theorem zsQ{c:Expr}(hc:PT X c tA) (ha:PE X a ta) (hb:PE X b tb):PE X (.IfExp c a b pos) (tIf tA ta tb):=by
 intro pins s σ H Q I h;refine wpAny_IfExp (thn (hc pins s σ H _ I h) λd s1 ⟨H1,I1,q1⟩=>?_);cases d with
 |true=>exact ha pins s1 σ H1 Q I1 q1
 |false=>exact hb pins s1 σ H1 Q I1 q1
end
def SqL (K:aj) (H:Hp) (a:Addr) (xs:List V):Prop:=
 Rd H a (.lst xs)∨
  ∃(o:Obj) (its:Array Value) (n:Nat),K.lookup a=ae o∧o.cls= .type "list" ∧o.dict=none∧o.data= .seq its n∧its.size≤sizeLine∧Vals xs its.toList
def SqT (K:aj) (H:Hp) (a:Addr) (xs:List V):Prop:=
 Rd H a (.tup xs)∨
  ∃(o:Obj) (its:Array Value) (n:Nat),K.lookup a=ae o∧o.cls= .type "tuple" ∧o.data= .seq its n∧its.size≤sizeLine∧Vals xs its.toList
noncomputable def zCe:Value→Option V
 | .none=>ae .non
 | .bool b=>ae (.bl b)
 | .int i _=>ae (.int i)
 | .str x _=>ae (.str x)
 | .bytes b _=>ae (.byt b)
 | .float b _=>ae (.flt b)
 | .ref a=>ae (.ref a)
 | .type n=>ae (.ty n)
 |_=>none
theorem RelV.abs{x:V}{u:Value}(r:RelV x u):zCe u=ae x:=by
 cases x with
 |non=>cases r;rfl
 |bl _=>cases r;rfl
 |int _=>obtain⟨t,rfl⟩:=r;rfl
 |str _=>obtain⟨t,rfl⟩:=r;rfl
 |byt _=>obtain⟨t,rfl⟩:=r;rfl
 |flt _=>obtain⟨t,rfl⟩:=r;rfl
 |ref _=>cases r;rfl
 |ty _=>cases r;rfl
theorem RelV.inj{x y:V}{u:Value}(r:RelV x u) (q:RelV y u):x=y:=aH (r.abs.symm.trans q.abs)
theorem Vals.inj:∀{xs ys:List V}{us:List Value},Vals xs us→Vals ys us→xs=ys
 |_,_,_, .nil, .nil=>rfl
 |_,_,_, .cons r t, .cons r' t'=>by rw[r.inj r',Vals.inj t t']
section
variable {X:Cx}{pins:List (Addr×Obj)}{σ:St}{H:Hp}{s:ah}{a:Addr}{xs ys:List V}
theorem SqL.of{K:aj}(h:H a=ae (.lst xs)):SqL K H a xs:= .inl (.inl h)
theorem SqT.of{K:aj}(h:H a=ae (.tup xs)):SqT K H a xs:= .inl (.inl h)
theorem Inv.list (I:Inv X pins σ H s) (h:SqL X.K H a xs):∃its:List Value,Vals xs its∧PlainL s.heap a its.toArray∧xs.length≤sizeLine:=by
 rcases h with h |⟨o,its,n,hk,hc,hd,hs,hz,r⟩
 ·obtain⟨z,its,n,r,e⟩:=h.ok I.hok;exact⟨its,r,⟨_,n,e,rfl,rfl,rfl⟩,z⟩
 ·refine⟨its.toList,r,⟨o,n,I.kIn a o hk,hc,hd,by simpa using hs⟩,?_⟩
  have e:=r.length;simp only[iG]at e;omega
theorem Inv.tuple (I:Inv X pins σ H s) (h:SqT X.K H a xs):∃its:List Value,Vals xs its∧d9 s.heap a its.toArray∧xs.length≤sizeLine:=by
 rcases h with h |⟨o,its,n,hk,hc,hs,hz,r⟩
 ·obtain⟨z,its,r,p⟩:=h.ok I.hok;exact⟨its,r,p,z⟩
 ·refine⟨its.toList,r,⟨o,I.kIn a o hk,hc,n,by simpa using hs⟩,?_⟩
  have e:=r.length;simp only[iG]at e;omega
theorem Inv.list_inj (I:Inv X pins σ H s) (h:SqL X.K H a xs) (h':SqL X.K H a ys):xs=ys:=by
 obtain⟨its,r,⟨o,n,e,_,_,d⟩,_⟩:=I.list h;obtain⟨its',r',⟨o',n',e',_,_,d'⟩,_⟩:=I.list h';rw[e]at e';cases e';rw[d]at d';injection d' with d1 _;have:its=its':=by simpa using congrArg Array.toList d1
 subst this;exact r.inj r'
theorem Inv.tuple_inj (I:Inv X pins σ H s) (h:SqT X.K H a xs) (h':SqT X.K H a ys):xs=ys:=by
 obtain⟨its,r,⟨o,e,_,n,d⟩,_⟩:=I.tuple h;obtain⟨its',r',⟨o',e',_,n',d'⟩,_⟩:=I.tuple h';rw[e]at e';cases e';rw[d]at d';injection d' with d1 _;have:its=its':=by simpa using congrArg Array.toList d1
 subst this;exact r.inj r'
end
noncomputable abbrev Cx.wish (X:Cx) (E:Value→ah→Prop):Cx:={ X with xe:=E }
noncomputable abbrev Cx.nox (X:Cx):Cx:=X.wish λ_ _=>False
theorem Cx.Ok.wish{X:Cx}(ok:X.Ok) (E:Value→ah→Prop):(X.wish E).Ok:=
 ⟨ok.mod,ok.kind,ok.glob,ok.blt,ok.above,ok.inj,ok.has,ok.cab,ok.hd,ok.frames,ok.stk,ok.exf,ok.bs,ok.bsz,ok.noex,ok.exfs,ok.funs,ok.frf⟩
theorem Cx.Ok.unwish{X:Cx}{E:Value→ah→Prop}(ok:(X.wish E).Ok):X.Ok:=
 ⟨ok.mod,ok.kind,ok.glob,ok.blt,ok.above,ok.inj,ok.has,ok.cab,ok.hd,ok.frames,ok.stk,ok.exf,ok.bs,ok.bsz,ok.noex,ok.exfs,ok.funs,ok.frf⟩
section
variable {X:Cx}{pins:List (Addr×Obj)}{σ:St}{H:Hp}{s:ah}{E:Value→ah→Prop}
theorem Inv.wish (I:Inv X pins σ H s) (E:Value→ah→Prop):Inv (X.wish E) pins σ H s:=⟨I.ok.wish E,I.os,I.bare,I.base,I.loc,I.cell,I.free,I.freeC,I.pin,I.hok,I.len⟩
theorem Inv.unwish (I:Inv (X.wish E) pins σ H s):Inv X pins σ H s:=⟨I.ok.unwish,I.os,I.bare,I.base,I.loc,I.cell,I.free,I.freeC,I.pin,I.hok,I.len⟩
theorem SP.unwish{D:Ends}{f:Flow}{s':ah}(h:SP (X.wish E) pins D f s'):SP X pins D f s':=by
 cases f with
 |next=>obtain⟨σ',H',I,q⟩:=h;exact⟨σ',H',I.unwish,q⟩
 |brk=>obtain⟨σ',H',I,q⟩:=h;exact⟨σ',H',I.unwish,q⟩
 |cont=>obtain⟨σ',H',I,q⟩:=h;exact⟨σ',H',I.unwish,q⟩
 |ret u=>obtain⟨v,σ',H',I,r,q⟩:=h;exact⟨v,σ',H',I.unwish,r,q⟩
theorem PE.nox{e:Expr}{t:TE}(h:PE X.nox e t):PE X e t:=λpins s σ H Q I hw=>
 cn (h pins s σ H Q (I.wish _) hw) (λ_ _ ⟨v,H',I',r,q⟩=>⟨v,H',I'.unwish,r,q⟩) λ_ _ z=>cB z
end
section
variable {X:Cx}{st:Stmt}{rest:List Stmt}{t u:TS}{e:Expr}{te:TE}{pos:aB}
noncomputable def zzR:TS:=λD σ H=>D.nx σ H
noncomputable def zCf (t u:TS):TS:=λD σ H=>t { D with nx:=u D } σ H
theorem pss_nil:PSs X [] zzR:=λ_ _ σ H _ I h=>gi ⟨σ,H,I,h⟩
theorem zsk (h1:PS X st t) (h2:PSs X rest u):PSs X (st::rest) (zCf t u):=by
 intro pins s σ H D I h;refine jb (thn (h1 pins s σ H { D with nx:=u D } I h) λf s1 q=>?_);cases f with
 |next=>
  obtain⟨σ',H',I',q⟩:=q;exact h2 pins s1 σ' H' D I' q
 |ret v=>exact q
 |brk=>exact q
 |cont=>exact q
theorem zuZ (h1:PS X st t):PSs X [st] t:=by
 intro pins s σ H D I h;refine jb (thn (h1 pins s σ H D I h) λf s1 q=>?_);cases f with
 |next=>exact gi q
 |ret v=>exact q
 |brk=>exact q
 |cont=>exact q
theorem Inv.quiet{pins:List (Addr×Obj)}{σ:St}{H:Hp}{s:ah}(I:Inv X pins σ H s):interactive X.env=false:=by simp [interactive,I.ok.kind]
noncomputable def zAL (te:TE):TS:=λD σ H=>te σ H λ_ H1=>D.nx σ H1
theorem zuC (he:PE X e te) (hs:di e none pos.line X.env=pure false:=by rfl):PS X (.Expr e pos) (zAL te):=by
 intro pins s σ H D I h;exact wpAny_Expr_any (thn (he pins s σ H _ I h) λv s1 ⟨x,H1,I1,r1,q1⟩=>⟨σ,H1,I1,q1⟩) I.quiet hs
noncomputable def zCw (te:TE):TS:=λD σ H=>te σ H D.rt
theorem zyq (he:PE X e te):PS X (.Return (ae e) pos) (zCw te):=by
 intro pins s σ H D I h;exact wpAny_Return_some (thn (he pins s σ H _ I h) λv s1 ⟨x,H1,I1,r1,q1⟩=>⟨x,σ,H1,I1,r1,q1⟩)
noncomputable def zBx (c:TT) (t u:TS):TS:=λD σ H=>c σ H λb H1=>if b=true then t D σ H1 else u D σ H1
theorem zAJ{c:Expr}{a b:List Stmt}{tc:TT}(hc:PT X c tc) (ha:PSs X a t) (hb:PSs X b u):PS X (.If c a b pos) (zBx tc t u):=by
 intro pins s σ H D I h;refine wpAny_If (thn (hc pins s σ H _ I h) λd s1 ⟨H1,I1,q1⟩=>?_);cases d with
 |true=>exact ha pins s1 σ H1 D I1 q1
 |false=>exact hb pins s1 σ H1 D I1 q1
end
abbrev TG:=V→St→Hp→(St→Hp→Prop)→Prop
abbrev TGs:=List V→St→Hp→(St→Hp→Prop)→Prop
def PG (X:Cx) (target:Expr) (t:TG):Prop:=
 ∀(pins:List (Addr×Obj)) (s:ah) (σ:St) (H:Hp) (v:V) (u:Value) (Q:St→Hp→Prop),Inv X pins σ H s→RelV v u→t v σ H Q→
  am (aq X.prog X.w) X.A (assign target X.env u) (λ_ s'=>∃σ' H',Inv X pins σ' H' s'∧Q σ' H') X.xe s
def PGs (X:Cx) (ts:List Expr) (t:TGs):Prop:=
 ∀(pins:List (Addr×Obj)) (s:ah) (σ:St) (H:Hp) (vs:List V) (us:List Value) (Q:St→Hp→Prop),Inv X pins σ H s→Vals vs us→t vs σ H Q→
  am (aq X.prog X.w) X.A (assignInOrder ((cp ts X.env).map (·.2)) us) (λ_ s'=>∃σ' H',Inv X pins σ' H' s'∧Q σ' H') X.xe s
abbrev TIp:=V→V→Hp→VK→Prop
def PIp (X:Cx) (op:fB) (t:TIp):Prop:=
 ∀(pins:List (Addr×Obj)) (s:ah) (σ:St) (H:Hp) (x y:V) (v u:Value) (Q:VK),Inv X pins σ H s→RelV x v→RelV y u→t x y H Q→
  am (aq X.prog X.w) X.A (inplaceOp op v u) (EP X pins σ Q) X.xe s
section
variable {X:Cx}{pos:aB}
noncomputable def zuS (i:Nat):TG:=λv σ H Q=>Q (σ.set i (ae v)) H
theorem zwf{i:Nat}{x:Str}(hN:X.N.Nodup) (hi:X.N[i]? =ae x) (hx:Loc X.env.scope x) (hf:X.fn x=true∨X.env.scope.names.lookup x=ae .local:=by first |exact .inl rfl |exact .inr rfl |assumption):PG X (.Name x pos) (zuS i):=by
 intro pins s σ H v u Q I r h;exact kz (ziR I hN hi hx r (λs' I'=>⟨_,H,I',h⟩) hf)
noncomputable def zBW:TGs:=λvs σ H Q=>vs=[]∧Q σ H
noncomputable def zAj (t:TG) (u:TGs):TGs:=λvs σ H Q=>∃v r,vs=v::r∧t v σ H λσ' H'=>u r σ' H' Q
theorem zuG:PGs X [] zBW:=by
 intro pins s σ H vs us Q I r h;obtain⟨e,h⟩:=h;subst e;cases r;exact assignInOrder_nil ⟨σ,H,I,h⟩
theorem zsp{e:Expr}{es:List Expr}{t:TG}{u:TGs}(h1:PG X e t) (h2:PGs X es u)
  (hs:(cp (e::es) X.env).map (·.2)=assign e X.env::(cp es X.env).map (·.2):=by rfl):PGs X (e::es) (zAj t u):=by
 intro pins s σ H vs us Q I r h;obtain⟨v,vr,e1,h⟩:=h;subst e1;cases r with
 |cons r rr=>
  rw[hs];refine assignInOrder_cons (thn (h1 pins s σ H _ _ _ I r h) λ_ s1 ⟨σ1,H1,I1,q1⟩=>?_);exact h2 pins s1 σ1 H1 _ _ Q I1 rr q1
noncomputable def zCi (K:aj) (n:Nat) (t:TGs):TG:=λv σ H Q=>∃a xs,v= .ref a∧SqT K H a xs∧xs.length=n∧t xs σ H Q
theorem zya{es:List Expr}{k:Nat}{t:TGs}{n:Nat}(hc:X.calm=true) (h:PGs X es t)
  (hn:(cp es X.env).length=n:=by rfl) (hst:(cp es X.env).findIdx? (·.1)=none:=by rfl):PG X (.Tuple es k pos) (zCi X.K n t):=by
 intro pins s σ H v u Q I r hw;obtain⟨a,xs,e1,hq,hl,hw⟩:=hw;subst e1;cases r;obtain⟨its,rv,ht,hz⟩:=I.tuple hq;refine assign_Tuple_tuple (I.ok.hd hc) ht (by simp [hn,←hl,rv.length]) hst λh' hx=>?_;have I1:Inv X pins σ H { s with heap:=h' }:=I.kept (t':=s.toks) λb o e=>hx b o (bA (aK e)) e;exact h pins _ σ H xs _ Q I1 (by simpa using rv) hw
noncomputable def zAu (te:TE) (g:TG):TS:=λD σ H=>te σ H λx H1=>g x σ H1 D.nx
theorem zyV{tg e:Expr}{te:TE}{g:TG}(he:PE X e te) (hg:PG X tg g) (hs:swapsWithSole [tg] e pos.line X.env=pure false:=by rfl) (hw:swappedStores [tg] e X.env=pure none:=by rfl)
  (h1:(cp [tg] X.env).map (·.2)=[assign tg X.env]:=by rfl):PS X (.Assign [tg] e pos) (zAu te g):=by
 intro pins s σ H D I h;refine wpAny_Assign_stores (thn (he pins s σ H _ I h) λv s1 ⟨x,H1,I1,r1,q1⟩=>?_) hs hw;rw[h1];exact thn (hg pins s1 σ H1 x v _ I1 r1 q1) λ_ s2 q=>q
theorem zzq{i:Nat}{x:Str}{e:Expr}{te:TE}{pos':aB}(hN:X.N.Nodup) (hi:X.N[i]? =ae x) (hx:Loc X.env.scope x) (he:PE X e te) (hs:di e (ae (.Name x pos')) pos.line X.env=pure false:=by rfl) (hf:X.fn x=true∨X.env.scope.names.lookup x=ae .local:=by first |exact .inl rfl |exact .inr rfl |assumption) :
  PS X (.Assign [.Name x pos'] e pos) (zAu te (zuS i)):=by
 intro pins s σ H D I h;refine wpAny_Assign_Name (thn (he pins s σ H _ I h) λv s1 ⟨y,H1,I1,r1,q1⟩=>?_) hs;exact ziR I1 hN hi hx r1 (λs2 I2=>⟨_,H1,I2,q1⟩) hf
noncomputable def zCp (i:Nat) (te:TE) (ti:TIp):TS:=λD σ H=>∃x,σ[i]? =ae (ae x)∧te σ H λy H1=>ti x y H1 λz H2=>D.nx (σ.set i (ae z)) H2
theorem zxO{i:Nat}{x:Str}{e:Expr}{te:TE}{op:fB}{ti:TIp}{pos':aB}(hN:X.N.Nodup) (hi:X.N[i]? =ae x) (hx:Loc X.env.scope x) (he:PE X e te) (ho:PIp X op ti) (hf:X.fn x=true∨X.env.scope.names.lookup x=ae .local:=by first |exact .inl rfl |exact .inr rfl |assumption) :
  PS X (.AugAssign (.Name x pos') op e pos) (zCp i te ti):=by
 intro pins s σ H D I h;obtain⟨v,e1,h⟩:=h;obtain⟨m,hn,hl⟩:=I.loc;have vis:Vis X.env.scope x:=by rcases hx with k |k;exact .inl k;exact .inr (.inl k)
 obtain⟨u,r,l⟩:=hl i x v hi e1 vis;refine wpAny_AugAssign_Name ?_;have go:am (aq X.prog X.w) X.A (az e X.env) (λw s₂=>am (aq X.prog X.w) X.A (inplaceOp op u w) (λr s₃=>am (aq X.prog X.w) X.A (iI X.env x r) (λ_=>SP X pins D .next) X.xe s₃) X.xe s₂) X.xe s:=by
  refine thn (he pins s σ H _ I h) λw s1 ⟨y,H1,I1,r1,q1⟩=>?_;refine thn (ho pins s1 σ H1 v y u w _ I1 r r1 q1) λz s2 ⟨zv,H2,I2,r2,q2⟩=>?_;exact ziR I2 hN hi hx r2 (λs3 I3=>⟨_,H2,I3,q2⟩) hf
 rcases l with⟨hk,hm⟩ |⟨hk,c,hc,hcell⟩
 ·exact i7 I.ok.kind hk hn hm go
 ·rcases hk with hk |hk
  ·exact kr I.ok.kind hk hc hcell go
  ·rcases hx with k |k
   ·have:X.env.scope.names.lookup x=ae .free:=hk;rw[k]at this;cases this
   ·have:X.env.scope.names.lookup x=ae .free:=hk;rw[k]at this;cases this
noncomputable def ipI (f:Int→Int→Int):TIp:=λx y H Q=>∃i j,x= .int i∧y= .int j∧Q (.int (f i j)) H
theorem zyu:PIp X .Add (ipI λi j=>i+j):=by
 intro pins s σ H x y v u Q I r1 r2 h;obtain⟨i,j,e1,e2,q⟩:=h;subst e1;subst e2;obtain⟨t,rfl⟩:=r1;obtain⟨t',rfl⟩:=r2;exact iadd_int ⟨.int _,H,I.tok _,⟨_,rfl⟩,q⟩
end
section
variable {X:Cx}{pos:aB}
noncomputable def zza (c:TT) (tb:TS):TS:=λD σ H=>∃W:Nat→St→Hp→Prop,(∃m,W m σ H)∧ ∀m σ H,W m σ H→
 c σ H λb H1=>if b=true then ∃N:St→Hp→Prop,(∀σ' H',N σ' H'→ ∃m',m'<m∧W m' σ' H')∧tb { D with nx:=N,ct:=N,bk:=D.nx } σ H1 else D.nx σ H1
theorem zsu{c:Expr}{body:List Stmt}{tc:TT}{tb:TS}(hp:eQ (aq X.prog X.w) X.A X.env X.xe) (hc:PT X c tc) (hb:PSs X body tb):PS X (.While c body [] pos) (zza tc tb):=by
 intro pins s σ H D I h;obtain⟨W,⟨m0,w0⟩,turn⟩:=h;refine wpAny_While (codeAny_whileLoop (λn s'=>∃σ' H',Inv X pins σ' H' s'∧W n σ' H') ?_ m0 ⟨σ,H,I,w0⟩);rintro n s1 ⟨σ1,H1,I1,w1⟩;refine dy hp (thn (hc pins s1 σ1 H1 _ I1 (turn n σ1 H1 w1)) λb s2 ⟨H2,I2,q2⟩=>?_);cases b with
 |true=>
  obtain⟨N,hN,q2⟩:=q2;rw[if_pos rfl];refine dy hp (thn (hb pins s2 σ1 H2 _ I2 q2) λf s3 q3=>?_);cases f with
  |next=>
   obtain⟨σ3,H3,I3,n3⟩:=q3;obtain⟨m',hm,w3⟩:=hN σ3 H3 n3;exact⟨m',hm,σ3,H3,I3,w3⟩
  |cont=>
   obtain⟨σ3,H3,I3,n3⟩:=q3;obtain⟨m',hm,w3⟩:=hN σ3 H3 n3;exact⟨m',hm,σ3,H3,I3,w3⟩
  |brk=>exact q3
  |ret v=>exact q3
 |false=>
  rw[if_neg c8];exact gi ⟨σ1,H2,I2,q2⟩
end
structure It where
  go:Nat→Hp→Prop
  yld:Nat→Hp→V→Hp→Prop
  stop:Nat→Hp→Prop
def zjE (X:Cx) (pins:List (Addr×Obj)) (H:Hp) (b:Addr):Prop:=
 H b=none∧b≠X.env.locals∧b∉X.fs∧(b∈X.ex∨X.s₀.heap.objs.size≤b)∧(∀x c,X.env.cells.lookup x=ae c→c≠b)∧ ∀p∈X.pn++pins,p.1≠b
theorem Inv.fpOk{X:Cx}{pins:List (Addr×Obj)}{σ:St}{H H':Hp}{s:ah}{b:Addr}(I:Inv X pins σ H s) (hb:s.heap.objs.size≤b) (hn:H' b=none):zjE X pins H' b:=by
 refine⟨hn,cK (bJ I.lt hb),I.nofs hb, .inr (a9 I.sz hb),λx c e z=>?_,λp hp z=>?_⟩
 ·obtain⟨v,q⟩:=I.cell x c e;exact absurd (bJ q.lt (by rw[z];exact hb)) (cQ _)
 ·exact absurd (bJ (aK (I.pin p hp).1) (by rw[z];exact hb)) (cQ _)
structure Turn (P:aE) (w:aC) (K:aj) (tg:Expr) (J:It) (fp:List Addr) (it:Addr) (tn:Nat→Heap→Prop):Prop where
  mem:it∈fp
  obj:∀i h,tn i h→ ∀b∈fp,∃o,h.get? b=ae o∧ ∀v,o.data≠ .cell v
  keep:∀i h h',tn i h→(∀b∈fp,∀o,h.get? b=ae o→h'.get? b=ae o)→tn i h'
  item:∀(X:Cx),X.prog=P→X.w=w→X.K=K→X.calm=true→ ∀(i:Nat) (pins:List (Addr×Obj)) (s:ah) (σ:St) (H:Hp) (E:Value→ah→Prop),Inv X pins σ H s→(∀b∈fp,zjE X pins H b)→tn i s.heap→J.go i H→
    am (aq P w) X.A (b5 (.ref it)) (λr s1=>∃u,r=ae u∧
      am (aq P w) X.A (fV tg (.ref it) u) (λ_ s2=>∃x H',Inv X pins σ H' s2∧RelV x u∧J.yld i H x H'∧tn (i+1) s2.heap∧ ∀b∈fp,H' b=none) E s1) E s
  done:∀(X:Cx),X.prog=P→X.w=w→X.K=K→X.calm=true→ ∀(i:Nat) (pins:List (Addr×Obj)) (s:ah) (σ:St) (H:Hp) (E:Value→ah→Prop),Inv X pins σ H s→(∀b∈fp,zjE X pins H b)→tn i s.heap→J.stop i H→
    am (aq P w) X.A (b5 (.ref it)) (λr s1=>r=none∧Inv X pins σ H s1) E s
  self:∀(A:aQ) (i:Nat) (s:ah) (Q:Value→ah→Prop) (E:Value→ah→Prop),tn i s.heap→Q (.ref it) s→am (aq P w) A (dm (.ref it)) Q E s
abbrev TI:=St→Hp→(It→Hp→Prop)→Prop
def PIE (X:Cx) (pins:List (Addr×Obj)) (σ:St) (tg:Expr) (R:It→Hp→Prop) (itv:Value) (s2:ah):Prop:=
 ∃(it:Addr) (fp:List Addr) (tn:Nat→Heap→Prop) (J:It) (H':Hp),itv= .ref it∧Inv X pins σ H' s2∧Turn X.prog X.w X.K tg J fp it tn∧tn 0 s2.heap∧(∀b∈fp,zjE X pins H' b)∧R J H'
def PI (X:Cx) (tg iter:Expr) (wi:TI):Prop:=
 ∀(pins:List (Addr×Obj)) (s:ah) (σ:St) (H:Hp) (R:It→Hp→Prop),Inv X pins σ H s→wi σ H R→
  am (aq X.prog X.w) X.A (az iter X.env) (λv s1=>am (aq X.prog X.w) X.A (dm v) (PIE X pins σ tg R) X.xe s1) X.xe s
theorem zrF{M:Model}{A:aQ}{E:Value→ah→Prop}{s:ah}{tg:Expr}{it:Addr}{u:Value}{o:Obj}{n:String}{vs:Array Value}{Q:Unit→ah→Prop}(ho:s.heap.get? it=ae o) (hc:o.cls= .type n) (hd:o.data= .fields vs)
    (hn: ["enumerate", "zip", "dict_itemiterator", "dict_reverseitemiterator", "odict_iterator", "itertools.zip_longest", "itertools.pairwise"].contains n=false) (hQ:Q () s):am M A (fV tg (.ref it) u) Q E s:=by
  unfold fV;cases tg<;>first
    |exact aD hQ
    | (cases u<;>first
        |exact aD hQ
        | (refine ak (wpAny_load ho ?_)
           rw[hc,hd];show am M A (if(["enumerate", "zip", "dict_itemiterator", "dict_reverseitemiterator", "odict_iterator", "itertools.zip_longest", "itertools.pairwise"].contains n&&vs[0]? == ae (cj _))=true then _ else _) Q E s;rw[if_neg (by intro h;rw[hn,Bool.false_and]at h;cases h)];exact aD hQ))
noncomputable def Itl (K:aj) (a:Addr):It:=
 ⟨λi H=>∃xs x,SqL K H a xs∧xs[i]? =ae x,λi H x H'=>H'=H∧ ∀xs,SqL K H a xs→xs[i]? =ae x,λi H=>∃xs,SqL K H a xs∧xs.length≤i⟩
noncomputable def Itt (K:aj) (a:Addr):It:=
 ⟨λi H=>∃xs x,SqT K H a xs∧xs[i]? =ae x,λi H x H'=>H'=H∧ ∀xs,SqT K H a xs→xs[i]? =ae x,λi H=>∃xs,SqT K H a xs∧xs.length≤i⟩
noncomputable def Itr (lo:Int) (n:Nat):It:=⟨λi _=>i<n,λi H x H'=>H'=H∧x= .int (lo+i),λi _=>n≤i⟩
theorem zqO{P:aE}{w:aC}{K:aj}{tg:Expr}(a it:Addr):Turn P w K tg (Itl K a) [it] it (λi h=>h.IsListIter it a i) where
  mem:=by simp
  obj:=λi h st b hb=>by
    have e:b=it:=by simpa using hb
    subst e;obtain⟨o,e,c,d⟩:=st;exact⟨o,e,λv z=>by rw[d]at z;cases z⟩
  keep:=λi h h' st k=>st.at λo e=>k it (by simp) o e
  item:=by
    intro X hP hw hK hc i pins s σ H E I hf st hg;subst hP hw hK;obtain⟨xs,x,hq,hx⟩:=hg;obtain⟨its,rv,p,hz⟩:=I.list hq;obtain⟨u,hu,ru⟩:=rv.get hx;obtain⟨f0,f1,f2,f3,f4,f5⟩:=hf it (by simp);refine wpAny_pyNext_list_item st p.isList (x:=u) (by simpa using hu) λh' st' sb=>?_;have I1:Inv X pins σ H { s with heap:=h' }:=I.turned (t':=s.toks) (λb o hb e=>(sb.2 b hb).trans e) f0 f1 f3 f4 f5;obtain⟨o,e,c,d⟩:=id st';exact⟨u,rfl,zrF (s:={ s with heap:=h' }) e c d (by decide) ⟨x,H,I1,ru,⟨rfl,λys hy=>by rw[I.list_inj hy hq];exact hx⟩,st',λb hb=>(hf b hb).1⟩⟩
  done:=by
    intro X hP hw hK hc i pins s σ H E I hf st hg;subst hP hw hK;obtain⟨xs,hq,hx⟩:=hg;obtain⟨its,rv,p,hz⟩:=I.list hq;obtain⟨f0,f1,f2,f3,f4,f5⟩:=hf it (by simp);have hl:=rv.length;exact wpAny_pyNext_list_end (I.ok.hd hc) st p.isList (by simp;omega) λh' eb=>⟨rfl,I.turned (t':=s.toks) (λb o hb e=>eb b o hb e) f0 f1 f3 f4 f5⟩
  self:=λ_ _ _ _ _ st h=>wpAny_pyIter_listiter st h
theorem zod{P:aE}{w:aC}{K:aj}{tg:Expr}(a it:Addr):Turn P w K tg (Itt K a) [it] it (λi h=>h.IsTupleIter it a i) where
  mem:=by simp
  obj:=λi h st b hb=>by
    have e:b=it:=by simpa using hb
    subst e;obtain⟨o,e,c,d⟩:=st;exact⟨o,e,λv z=>by rw[d]at z;cases z⟩
  keep:=λi h h' st k=>st.at λo e=>k it (by simp) o e
  item:=by
    intro X hP hw hK hc i pins s σ H E I hf st hg;subst hP hw hK;obtain⟨xs,x,hq,hx⟩:=hg;obtain⟨its,rv,p,hz⟩:=I.tuple hq;obtain⟨u,hu,ru⟩:=rv.get hx;obtain⟨f0,f1,f2,f3,f4,f5⟩:=hf it (by simp);refine wpAny_pyNext_tuple_item st (show s.heap.IsTuple a its.toArray from p) (x:=u) (by simpa using hu) λh' st' sb=>?_;have I1:Inv X pins σ H { s with heap:=h' }:=I.turned (t':=s.toks) (λb o hb e=>(sb.2 b hb).trans e) f0 f1 f3 f4 f5;obtain⟨o,e,c,d⟩:=id st';exact⟨u,rfl,zrF (s:={ s with heap:=h' }) e c d (by decide) ⟨x,H,I1,ru,⟨rfl,λys hy=>by rw[I.tuple_inj hy hq];exact hx⟩,st',λb hb=>(hf b hb).1⟩⟩
  done:=by
    intro X hP hw hK hc i pins s σ H E I hf st hg;subst hP hw hK;obtain⟨xs,hq,hx⟩:=hg;obtain⟨its,rv,p,hz⟩:=I.tuple hq;obtain⟨f0,f1,f2,f3,f4,f5⟩:=hf it (by simp);have hl:=rv.length;exact wpAny_pyNext_tuple_end (I.ok.hd hc) st (show s.heap.IsTuple a its.toArray from p) (by simp;omega) λh' eb=>⟨rfl,I.turned (t':=s.toks) (λb o hb e=>eb b o hb e) f0 f1 f3 f4 f5⟩
  self:=λ_ _ _ _ _ st h=>wpAny_pyIter_tupleiter st h
theorem zoG{P:aE}{w:aC}{K:aj}{tg:Expr}(it:Addr) (lo:Int) (n:Nat):Turn P w K tg (Itr lo n) [it] it (λi h=>IsRangeIter h it (lo+(i:Nat)*1) ((n:Int) - (i:Nat)) 1) where
  mem:=by simp
  obj:=λi h st b hb=>by
    have e:b=it:=by simpa using hb
    subst e;exact⟨_,st,λv z=>by
      have z':Data.fields _=Data.cell v:=z;cases z'⟩
  keep:=λi h h' st k=>k it (by simp) _ st
  item:=by
    intro X hP hw hK hc i pins s σ H E I hf st hg;subst hP hw hK;obtain⟨f0,f1,f2,f3,f4,f5⟩:=hf it (by simp);have W:=eL.range (prog:=X.prog) (w:=X.w) (I.ok.hd hc) it lo 1 n;refine W.item i s _ _ hg st λv h' tk hv st' kk=>?_;obtain⟨t,rfl⟩:=hv;have I1:Inv X pins σ H { s with heap:=h',toks:=tk }:=I.turned (λb o hb e=>kk b o (by simpa using hb) e) f0 f1 f3 f4 f5;refine⟨_,rfl,zrF (s:={ s with heap:=h',toks:=tk }) (n:= "range_iterator") st' rfl rfl (by decide) ⟨.int (lo+i),H,I1,⟨t,?_⟩,⟨rfl,rfl⟩,st',λb hb=>(hf b hb).1⟩⟩;rw[Int.mul_one]
  done:=by
    intro X hP hw hK hc i pins s σ H E I hf st hg;subst hP hw hK;obtain⟨f0,f1,f2,f3,f4,f5⟩:=hf it (by simp);exact wpAny_pyNext_range_end (I.ok.hd hc) st (by have:n≤i:=hg;omega) λh' eb=>⟨rfl,I.turned (t':=s.toks) (λb o hb e=>eb b o hb e) f0 f1 f3 f4 f5⟩
  self:=λ_ _ _ _ _ st h=>wpAny_pyIter_rangeiter st h
section
variable {X:Cx}{tg:Expr}
theorem ztx{pins:List (Addr×Obj)}{σ:St}{H:Hp}{s:ah}{R:It→Hp→Prop}{E:Value→ah→Prop}{lo hi:Int}{t u v:bq}{tk:Nat}(I:Inv X pins σ H s) (h1: -(2 ^ 62)≤lo) (h2:lo<2 ^ 62) (h3: -(2 ^ 62)≤hi) (h4:hi<2 ^ 62)
  (q:R (Itr lo (hi - lo).toNat) H):am (aq X.prog X.w) X.A (dm (.ref s.heap.objs.size)) (PIE X pins σ tg R) E { s with heap:=s.heap.push { cls:= .type "range",data:= .fields #[.int lo t, .int hi u, .int 1 v] },toks:=tk }:=by
 refine wpAny_pyIter_range (IsRange.new ..) (small_one h1 h2 h3 h4) ?_;have I1:Inv X pins σ H { s with heap:=s.heap.push { cls:= .type "range",data:= .fields #[.int lo t, .int hi u, .int 1 v] },toks:=tk }:=I.kept λb o e=>aJ _ e;refine⟨(s.heap.push { cls:= .type "range",data:= .fields #[.int lo t, .int hi u, .int 1 v] }).objs.size,[(s.heap.push { cls:= .type "range",data:= .fields #[.int lo t, .int hi u, .int 1 v] }).objs.size],_,_,H,rfl,
  I1.kept (t':=tk) λb o e=>aJ _ e,zoG _ lo (hi - lo).toNat,?_,λb hb=>?_,q⟩
 ·have e1:lo+((0:Nat):Int)*1=lo:=by simp
  have e2:(((hi - lo).toNat:Nat):Int) - ((0:Nat):Int)=b4.Range.rangeSize lo hi 1:=by rw[rangeSize_one];split<;>omega
  show IsRangeIter _ _ (lo+((0:Nat):Int)*1) ((((hi - lo).toNat:Nat):Int) - ((0:Nat):Int)) 1;rw[e1,e2];exact bt _ rfl
 ·have e:b=(s.heap.push { cls:= .type "range",data:= .fields #[.int lo t, .int hi u, .int 1 v] }).objs.size:=by simpa using hb
  subst e;exact I1.fpOk (ap _) (I1.hok.fresh (ap _))
noncomputable def zBf (ta:TA):TI:=λσ H R=>ta σ H λvs H1=>∃j:Int,vs=[.int j]∧ -(2 ^ 62)≤j∧j<2 ^ 62∧R (Itr 0 j.toNat) H1
theorem zpj{a:Expr}{ta:TA}{p pos:aB}(hg:Gl X "range") (hm:X.mg "range" =none) (ha:PA X [a] ta) (hs:ao [a] X.env=[(false,az a X.env)]:=by rfl):PI X tg (.Call (.Name "range" p) [a] [] pos) (zBf ta):=by
 intro pins s σ H R I h;refine Call_ (zhd I hg hm boot_range (eY (thn (ha pos pins s σ H _ I h) λus s1 ⟨vs,H1,I1,r1,q1⟩=>?_) hs rfl));obtain⟨j,e,q1,q2,q⟩:=q1;subst e;cases r1 with
 |cons r rr=>
  cases rr;obtain⟨t,rfl⟩:=r;exact call_range_1 (ztx I1 (by omega) (by omega) q1 q2 (by simpa using q))
noncomputable def zBI (wi:TI) (g:TG) (tb:TS):TS:=λD σ H=>wi σ H λJ H1=>∃W:Nat→Nat→St→Hp→Prop,(∃m,W 0 m σ H1)∧ ∀i m σ H,W i m σ H→
 (J.stop i H∧D.nx σ H)∨(J.go i H∧ ∃N:St→Hp→Prop,(∀σ' H',N σ' H'→ ∃m',m'<m∧W (i+1) m' σ' H')∧ ∀x H',J.yld i H x H'→g x σ H' λσ2 H2=>tb { D with nx:=N,ct:=N,bk:=D.nx } σ2 H2)
noncomputable def zke (fp:List Addr) (h:Heap):List (Addr×Obj):=fp.filterMap λb=>(h.get? b).map λo=>(b,o)
theorem zeF{fp:List Addr}{h:Heap}{b:Addr}{o:Obj}(hb:b∈fp) (e:h.get? b=ae o):(b,o)∈zke fp h:=gF.mpr ⟨b,hb,by rw[e];rfl⟩
theorem zpw{fp:List Addr}{h:Heap}{p:Addr×Obj}(hp:p∈zke fp h):p.1∈fp∧h.get? p.1=ae p.2:=by
 obtain⟨b,hb,e⟩:=gF.mp hp;cases q:h.get? b with
 |none=>rw[q]at e;cases e
 |some o=>
  rw[q]at e;have e':(b,o)=p:=aH e;subst e';exact⟨hb,q⟩
theorem Inv.pinned{pins:List (Addr×Obj)}{σ:St}{H:Hp}{s:ah}{fp:List Addr}(I:Inv X pins σ H s) (hf:∀b∈fp,zjE X pins H b) (ho:∀b∈fp,∃o,s.heap.get? b=ae o∧ ∀v,o.data≠ .cell v):Inv X (pins++zke fp s.heap) σ H s:=
 I.pins_of λp hp=>(bp.mp hp).elim (λz=>I.pin p (cE _ z)) λz=>by
  obtain⟨hb,e⟩:=zpw z;obtain⟨f0,f1,f2,_⟩:=hf p.1 hb;obtain⟨o,e',d⟩:=ho p.1 hb;rw[e]at e';cases e';exact⟨e,f0,f1,f2,d⟩
theorem Inv.unpinned{pins pl:List (Addr×Obj)}{σ:St}{H:Hp}{s:ah}(I:Inv X (pins++pl) σ H s):Inv X pins σ H s:=I.pins_of λp hp=>I.pin p (cE _ (j4 _ hp))
theorem zxJ{iter:Expr}{body:List Stmt}{wi:TI}{g:TG}{tb:TS}{pos:aB}(hp:eQ (aq X.prog X.w) X.A X.env X.xe) (hc:X.calm=true) (hi:PI X tg iter wi) (hg:PG X tg g) (hb:PSs X body tb)
  (hs:∀x,dF iter X.env x=pure x:=by intro _;rfl):PS X (.For tg iter body [] pos) (zBI wi g tb):=by
 intro pins s σ H D I h;refine wpAny_For (thn (hi pins s σ H _ I h) λv s1 h1=>thn h1 λitv s2 h2=>?_) hs;obtain⟨it,fp,tn,J,H2,e,I2,T,st2,f2,W,⟨m0,w0⟩,turn⟩:=h2;subst e;have stat:∀{H':Hp},(∀b∈fp,H' b=none)→ ∀b∈fp,zjE X pins H' b:=λhn b hb=>⟨hn b hb,(f2 b hb).2⟩;refine codeAny_forLoop_any (λn s'=>∃i σ' H',Inv X pins σ' H' s'∧tn i s'.heap∧(∀b∈fp,H' b=none)∧W i n σ' H') ?_ m0 ⟨0,σ,H2,I2,st2,λb hb=>(f2 b hb).1,w0⟩;rintro n s3 ⟨i,σ3,H3,I3,st3,fr3,w3⟩;rcases turn i n σ3 H3 w3 with⟨stop,qn⟩ |⟨go,N,hN,step⟩
 ·refine dy hp (thn (T.done X rfl rfl rfl hc i pins s3 σ3 H3 X.xe I3 (stat fr3) st3 stop) λr s4 ⟨hr,I4⟩=>?_);subst hr;exact gi ⟨σ3,H3,I4,qn⟩
 ·refine dy hp (thn (T.item X rfl rfl rfl hc i pins s3 σ3 H3 X.xe I3 (stat fr3) st3 go) λr s4 ⟨u,hr,h4⟩=>?_);subst hr;refine dy hp (thn h4 λ_ s5 ⟨x,H5,I5,r5,y5,st5,fr5⟩=>?_);have I5':=I5.pinned (stat fr5) (T.obj _ _ st5);refine dy hp (thn (hg _ s5 σ3 H5 x u _ I5' r5 (step x H5 y5)) λ_ s6 ⟨σ6,H6,I6,q6⟩=>?_);refine dy hp (thn (hb _ s6 σ6 H6 _ I6 q6) λf s7 q7=>?_);have again:∀{σ7:St}{H7:Hp},Inv X (pins++zke fp s5.heap) σ7 H7 s7→N σ7 H7→ ∃m,m<n∧ ∃i σ' H',Inv X pins σ' H' s7∧tn i s7.heap∧(∀b∈fp,H' b=none)∧W i m σ' H':=λ{σ7 H7} I7 n7=>by
   obtain⟨m',hm,w7⟩:=hN σ7 H7 n7;refine⟨m',hm,i+1,σ7,H7,I7.unpinned,T.keep _ _ _ st5 λb hb o e=>(I7.pin (b,o) (cE _ (cE _ (zeF hb e)))).1,λb hb=>?_,w7⟩;obtain⟨o,e,d⟩:=T.obj _ _ st5 b hb;exact(I7.pin (b,o) (cE _ (cE _ (zeF hb e)))).2.1
  cases f with
  |next=>obtain⟨σ7,H7,I7,n7⟩:=q7;exact again I7 n7
  |cont=>obtain⟨σ7,H7,I7,n7⟩:=q7;exact again I7 n7
  |brk=>obtain⟨σ7,H7,I7,q7⟩:=q7;exact⟨σ7,H7,I7.unpinned,q7⟩
  |ret v=>obtain⟨x7,σ7,H7,I7,r7,q7⟩:=q7;exact⟨x7,σ7,H7,I7.unpinned,r7,q7⟩
end
abbrev R2:=V→V→Hp→VK→Prop
def OpR (X:Cx) (f:Value→Value→b9 Value) (r:R2):Prop:=
 ∀(pins:List (Addr×Obj)) (s:ah) (σ:St) (H:Hp) (x y:V) (v u:Value) (Q:VK),Inv X pins σ H s→RelV x v→RelV y u→r x y H Q→
  am (aq X.prog X.w) X.A (f v u) (EP X pins σ Q) X.xe s
def UnR (X:Cx) (f:Value→b9 Value) (r:V→Hp→VK→Prop):Prop:=
 ∀(pins:List (Addr×Obj)) (s:ah) (σ:St) (H:Hp) (x:V) (v:Value) (Q:VK),Inv X pins σ H s→RelV x v→r x H Q→
  am (aq X.prog X.w) X.A (f v) (EP X pins σ Q) X.xe s
def CallR (X:Cx) (f:Value) (r:List V→Hp→VK→Prop):Prop:=
 ∀(pins:List (Addr×Obj)) (s:ah) (σ:St) (H:Hp) (xs:List V) (us:List Value) (Q:VK),Inv X pins σ H s→Vals xs us→r xs H Q→
  am (aq X.prog X.w) X.A (call f us) (EP X pins σ Q) X.xe s
def zBY (X:Cx) (r:V→Hp→(Bool→Hp→Prop)→Prop):Prop:=
 ∀(pins:List (Addr×Obj)) (s:ah) (σ:St) (H:Hp) (x:V) (v:Value) (Q:Bool→Hp→Prop),Inv X pins σ H s→RelV x v→r x H Q→
  am (aq X.prog X.w) X.A (truthy v) (TP X pins σ Q) X.xe s
noncomputable def tOp (r:R2) (ta tb:TE):TE:=λσ H Q=>ta σ H λx H1=>tb σ H1 λy H2=>r x y H2 Q
noncomputable def tUn (r:V→Hp→VK→Prop) (ta:TE):TE:=λσ H Q=>ta σ H λx H1=>r x H1 Q
noncomputable def rI (C:Int→Int→Prop) (g:Int→Int→V):R2:=λx y H Q=>∃i j,x= .int i∧y= .int j∧C i j∧Q (g i j) H
noncomputable def rI0 (g:Int→Int→V):R2:=λx y H Q=>∃i j,x= .int i∧y= .int j∧Q (g i j) H
def rU (g:Int→V):V→Hp→VK→Prop:=λx H Q=>∃i,x= .int i∧Q (g i) H
section
variable {X:Cx}{a b:Expr}{ta tb:TE}{pos:aB}
theorem zAU (ha:PE X a ta) (hb:PE X b tb) {pins:List (Addr×Obj)}{s:ah}{σ:St}{H:Hp}{R:V→V→Hp→Prop}(I:Inv X pins σ H s)
  (h:ta σ H λx H1=>tb σ H1 λy H2=>R x y H2) {Q:Value→ah→Prop}{f:Value→Value→b9 Value}
  (hf:∀v u s2 x y H2,Inv X pins σ H2 s2→RelV x v→RelV y u→R x y H2→am (aq X.prog X.w) X.A (f v u) Q X.xe s2) :
  am (aq X.prog X.w) X.A (az a X.env) (λv s₁=>am (aq X.prog X.w) X.A (az b X.env) (λu s₂=>am (aq X.prog X.w) X.A (f v u) Q X.xe s₂) X.xe s₁) X.xe s:=by
 refine thn (ha pins s σ H _ I h) λv s1 ⟨x,H1,I1,r1,q1⟩=>?_;refine thn (hb pins s1 σ H1 _ I1 q1) λu s2 ⟨y,H2,I2,r2,q2⟩=>?_;exact hf v u s2 x y H2 I2 r1 r2 q2
theorem zpZ{op:fB}{r:R2}(ho:OpR X (bQ op) r) (ha:PE X a ta) (hb:PE X b tb):PE X (.BinOp a op b pos) (tOp r ta tb):=by
 intro pins s σ H Q I h;exact wpAny_BinOp (zAU ha hb I h λv u s2 x y H2 I2 rx ry q=>ho pins s2 σ H2 x y v u Q I2 rx ry q)
theorem zzY{op:UnaryOp}{r:V→Hp→VK→Prop}(ho:UnR X (unaryOp op) r) (ha:PE X a ta):PE X (.UnaryOp op a pos) (tUn r ta):=by
 intro pins s σ H Q I h;exact UnaryOp_ (thn (ha pins s σ H _ I h) λv s1 ⟨x,H1,I1,r1,q1⟩=>ho pins s1 σ H1 x v Q I1 r1 q1)
theorem opI{f:Value→Value→b9 Value}{C:Int→Int→Prop}{g:Int→Int→Int}
  (rule:∀(i j:Int) (t u:bq) (s:ah) (Q:Value→ah→Prop) (E:Value→ah→Prop),C i j→Q (.int (g i j) s.toks) { s with toks:=s.toks+1 }→am (aq X.prog X.w) X.A (f (.int i t) (.int j u)) Q E s) :
  OpR X f (rI C λi j=> .int (g i j)):=by
 intro pins s σ H x y v u Q I rx ry h;obtain⟨i,j,rfl,rfl,hc,q⟩:=h;obtain⟨t,rfl⟩:=rx;obtain⟨t',rfl⟩:=ry;exact rule i j t t' s _ _ hc ⟨.int (g i j),H,I.tok _,⟨_,rfl⟩,q⟩
theorem zBq{f:Value→Value→b9 Value}{g:Int→Int→Int}
  (rule:∀(i j:Int) (t u:bq) (s:ah) (Q:Value→ah→Prop) (E:Value→ah→Prop),Q (.int (g i j) s.toks) { s with toks:=s.toks+1 }→am (aq X.prog X.w) X.A (f (.int i t) (.int j u)) Q E s) :
  OpR X f (rI0 λi j=> .int (g i j)):=by
 intro pins s σ H x y v u Q I rx ry h;obtain⟨i,j,rfl,rfl,q⟩:=h;obtain⟨t,rfl⟩:=rx;obtain⟨t',rfl⟩:=ry;exact rule i j t t' s _ _ ⟨.int (g i j),H,I.tok _,⟨_,rfl⟩,q⟩
theorem zzI{f:Value→Value→b9 Value}{g:Int→Int→Bool}
  (rule:∀(i j:Int) (t u:bq) (s:ah) (Q:Value→ah→Prop) (E:Value→ah→Prop),Q (.bool (g i j)) s→am (aq X.prog X.w) X.A (f (.int i t) (.int j u)) Q E s) :
  OpR X f (rI0 λi j=> .bl (g i j)):=by
 intro pins s σ H x y v u Q I rx ry h;obtain⟨i,j,rfl,rfl,q⟩:=h;obtain⟨t,rfl⟩:=rx;obtain⟨t',rfl⟩:=ry;exact rule i j t t' s _ _ ⟨.bl (g i j),H,I,rfl,q⟩
def zib (i j:Int):Prop:=0<j∧j<1073741824
def zAf (i j:Int):Prop:=0≤j∧j≤1000000∧i.natAbs<2 ^ 64
def CMul (i j:Int):Prop:=(-(2 ^ 64)<i∧i<2 ^ 64)∨(-(2 ^ 64)<j∧j<2 ^ 64)
theorem CMul.ok{i j:Int}(h:CMul i j):IntMulOk i j:=by
 rcases h with⟨h1,h2⟩ |⟨h1,h2⟩
 ·exact .of_left (intBits_le_64 h1 h2)
 ·exact .of_right (intBits_le_64 h1 h2)
theorem op_add:OpR X (bQ .Add) (rI0 λi j=> .int (i+j)):=zBq λ_ _ _ _ _ _ _ q=>add_int q
theorem zwG:OpR X (bQ .Sub) (rI0 λi j=> .int (i - j)):=zBq λ_ _ _ _ _ _ _ q=>sub_int q
theorem zxw:OpR X (bQ .Mult) (rI CMul λi j=> .int (i*j)):=opI λ_ _ _ _ _ _ _ hc q=>mul_int q hc.ok
theorem zvD:OpR X (bQ .FloorDiv) (rI zib λi j=> .int (i / j)):=opI λi j _ _ _ _ _ hc q=>by
 have h1:(0:Int)<j:=hc.1;have h2:j<1073741824:=hc.2;exact floordiv_int (by omega) (by rw[Int.fdiv_eq_ediv_of_nonneg i (by omega)];exact q) (.inl (PyProof.noPylong_small (by omega)))
theorem zxt:OpR X (bQ .Mod) (rI (λ_ j=>0<j) λi j=> .int (i % j)):=opI λi j _ _ _ _ _ hc q=>by
 have h1:(0:Int)<j:=hc;exact mod_int' (by omega) (by rw[Int.fmod_eq_emod_of_nonneg i (by omega)];exact q)
theorem zxn:OpR X (bQ .Pow) (rI zAf λi j=> .int (i ^ j.toNat)):=opI λ_ _ _ _ _ _ _ hc q=>pow_int_small hc.1 hc.2.1 hc.2.2 q
theorem unI{f:Value→b9 Value}{g:Int→Int}
  (rule:∀(i:Int) (t:bq) (s:ah) (Q:Value→ah→Prop) (E:Value→ah→Prop),Q (.int (g i) s.toks) { s with toks:=s.toks+1 }→am (aq X.prog X.w) X.A (f (.int i t)) Q E s) :
  UnR X f (rU λi=> .int (g i)):=by
 intro pins s σ H x v Q I rx h;obtain⟨i,rfl,q⟩:=h;obtain⟨t,rfl⟩:=rx;exact rule i t s _ _ ⟨.int (g i),H,I.tok _,⟨_,rfl⟩,q⟩
theorem zxp:UnR X (unaryOp .USub) (rU λi=> .int (-i)):=unI λ_ _ _ _ _ q=>neg_int q
end
section
variable {X:Cx}{a b c:Expr}{ta tb:TE}{pos:aB}
theorem zns{pins:List (Addr×Obj)}{σ:St}{H:Hp}{s:ah}{Q:VK}{k k':Bool}(I:Inv X pins σ H s) (q:Q (.bl k) H) (e:k=k'):EP X pins σ Q (.bool k') s:=by
 subst e;exact⟨.bl k,H,I,rfl,q⟩
theorem zAd:OpR X (bH .Lt) (rI0 λi j=> .bl (decide (i<j))):=zzI λ_ _ _ _ _ _ _ q=>lt_int q
theorem zAB:OpR X (bH .Gt) (rI0 λi j=> .bl (decide (j<i))):=zzI λ_ _ _ _ _ _ _ q=>gt_int q
theorem zAC:OpR X (bH .GtE) (rI0 λi j=> .bl (decide (j≤i))):=zzI λ_ _ _ _ _ _ _ q=>ge_int q
theorem op_in_str:OpR X (bH .In) (λx y H Q=>∃i j,x= .str i∧y= .str j∧Q (.bl (!(cS j i 0 j.length 1).isEmpty)) H):=by
 intro pins s σ H x y v u Q I rx ry h;obtain⟨i,j,rfl,rfl,q⟩:=h;obtain⟨t,rfl⟩:=rx;obtain⟨t',rfl⟩:=ry;exact in_str (zns I q rfl)
theorem op_isN:OpR X (bH .Is) (λx y H Q=>y= .non∧Q (.bl (decide (x= .non))) H):=by
 intro pins s σ H x y v u Q I rx ry h;obtain⟨rfl,q⟩:=h;cases ry;refine is_none_gen (zns I q ?_);cases x<;>first
  | (cases rx;rfl)
  | (obtain⟨t,rfl⟩:=rx;rfl)
theorem op_notN:OpR X (bH .IsNot) (λx y H Q=>y= .non∧Q (.bl (!decide (x= .non))) H):=by
 intro pins s σ H x y v u Q I rx ry h;obtain⟨rfl,q⟩:=h;cases ry;refine isnot_none_gen (zns I q ?_);cases x<;>first
  | (cases rx;rfl)
  | (obtain⟨t,rfl⟩:=rx;rfl)
theorem op_notin_str:OpR X (bH .NotIn) (λx y H Q=>∃i j,x= .str i∧y= .str j∧Q (.bl (!(!(cS j i 0 j.length 1).isEmpty))) H):=by
 intro pins s σ H x y v u Q I rx ry h;obtain⟨i,j,rfl,rfl,q⟩:=h;obtain⟨t,rfl⟩:=rx;obtain⟨t',rfl⟩:=ry;exact notIn_str (zns I q rfl)
theorem OpR.or{f:Value→Value→b9 Value}{r r':R2}(h:OpR X f r) (h':OpR X f r'):OpR X f (λx y H Q=>r x y H Q∨r' x y H Q):=by
 intro pins s σ H x y v u Q I rx ry q;rcases q with q |q
 ·exact h pins s σ H x y v u Q I rx ry q
 ·exact h' pins s σ H x y v u Q I rx ry q
theorem nomark (b:Expr) {op:dA}(h:op≠ .In:=by decide) (h2:op≠ .NotIn:=by decide):c6 op b=false:=by
 have e1:(op == dA.In)=false:=by cases op<;>first |rfl |exact absurd rfl h
 have e2:(op == dA.NotIn)=false:=by cases op<;>first |rfl |exact absurd rfl h2
 cases b<;>simp [c6,e1,e2]
theorem zwk{op:dA}{r:R2}(ho:OpR X (bH op) r) (ha:PE X a ta) (hb:PE X b tb) (hm:c6 op b=false):PE X (.Compare a [op] [b] pos) (tOp r ta tb):=by
 intro pins s σ H Q I h;exact wpAny_Compare1 (zAU ha hb I h λv u s2 x y H2 I2 rx ry q=>ho pins s2 σ H2 x y v u Q I2 rx ry q) hm
noncomputable def zzU (t:TE):TT:=λσ H Q=>t σ H λx H'=>∃k,x= .bl k∧Q k H'
theorem zwh{op:dA}{r:R2}(ho:OpR X (bH op) r) (ha:PE X a ta) (hb:PE X b tb) (hm:c6 op b=false):PT X (.Compare a [op] [b] pos) (zzU (tOp r ta tb)):=by
 intro pins s σ H Q I h;refine wpAny_isTrue_Compare1 (thn (ha pins s σ H _ I h) λv s1 ⟨x,H1,I1,r1,q1⟩=>thn (hb pins s1 σ H1 _ I1 q1) λu s2 ⟨y,H2,I2,r2,q2⟩=>
  thn (ho pins s2 σ H2 x y v u _ I2 r1 r2 q2) λc s3 ⟨z,H3,I3,r3,k,e,q3⟩=>?_) hm
 subst e;cases r3;exact fJ ⟨H3,I3,q3⟩
def zzF (K:aj) (x:V) (H:Hp) (k:Bool):Prop:=
 match x with
 | .non=>k=false
 | .bl b=>k=b
 | .int i=>k=(i != 0)
 | .str y=>y.length≤sizeLine∧k=((y.length:Int) != 0)
 | .byt y=>y.size≤sizeLine∧k=((y.size:Int) != 0)
 | .ref p=>(∃xs,SqL K H p xs∧k= !xs.isEmpty)∨(∃xs,SqT K H p xs∧k= !xs.isEmpty)∨ ∃kvs,H p=ae (.dK kvs)∧k= !kvs.isEmpty
 |_=>False
theorem zoN{κ:Type}{kvs:List (κ×V)}{vs:List (κ×Value)}(r:KV kvs vs):(!vs.isEmpty)= !kvs.isEmpty:=by
 cases r<;>rfl
theorem zis{xs:List V}{its:List Value}(r:Vals xs its):(!its.toArray.isEmpty)= !xs.isEmpty:=by
 cases r<;>simp
theorem ziz:(sizeLine:Nat)<2 ^ 63:=by rw[dC];decide
theorem zyz:zBY X (λx H Q=>∃k,zzF X.K x H k∧Q k H):=by
 intro pins s σ H x v Q I rx h;obtain⟨k,e,q⟩:=h;have hl:=ziz;have hs:sizeLine=16777216:=dC;cases x with
 |non=>
  cases rx;have e':k=false:=e;subst e';exact truthy_none ⟨H,I,q⟩
 |bl b=>
  cases rx;have e':k=b:=e;subst e';exact fJ ⟨H,I,q⟩
 |int i=>
  obtain⟨t,rfl⟩:=rx;have e':k=(i != 0):=e;subst e';exact PySem.P.truthy_int ⟨H,I,q⟩
 |str y=>
  obtain⟨t,rfl⟩:=rx;obtain⟨hy,e'⟩:y.length≤sizeLine∧k=((y.length:Int) != 0):=e;subst e';exact PySem.P.truthy_str (by omega) ⟨H,I.tok _,q⟩
 |byt y=>
  obtain⟨t,rfl⟩:=rx;obtain⟨hy,e'⟩:y.size≤sizeLine∧k=((y.size:Int) != 0):=e;subst e';exact PySem.W.truthy_bytes (by omega) ⟨H,I.tok _,q⟩
 |ref p=>
  cases rx;have e':(∃xs,SqL X.K H p xs∧k= !xs.isEmpty)∨(∃xs,SqT X.K H p xs∧k= !xs.isEmpty)∨ ∃kvs,H p=ae (.dK kvs)∧k= !kvs.isEmpty:=e;rcases e' with⟨xs,hx,e'⟩ |⟨xs,hx,e'⟩ |⟨kvs,hx,e'⟩
  ·subst e';obtain⟨its,r,pl,hz⟩:=I.list hx;have hlen:=r.length;exact wpAny_truthy_list pl.isList (by simp only[aU];omega) ⟨H,I.tok _,by rw[zis r];exact q⟩
  ·subst e';obtain⟨its,r,pl,hz⟩:=I.tuple hx;have hlen:=r.length;exact truthy_tuple pl (by simp only[aU];omega) ⟨H,I.tok _,by rw[zis r];exact q⟩
  ·subst e';obtain⟨hz,hS,vs,r,m⟩:kvs.length≤sizeLine∧(p == cy)=false∧ ∃vs,KV kvs vs∧s.heap.DictOf (zbd X.prog X.w) p vs:=I.hok p _ hx;have hlen:kvs.length=vs.length:=dD r;exact wpAny_truthy_dict hS m (by omega) ⟨H,I.tok _,by rw[zoN r];exact q⟩
 |_=>exact(show False from e).elim
theorem ztp (ha:PE X a ta) (he:∀whole,isTrue a X.env whole=(do let v ←whole;standAt a.pos;holding [v] (truthy v))) :
  PT X a (λσ H Q=>ta σ H λx H'=>∃k,zzF X.K x H' k∧Q k H'):=by
 intro pins s σ H Q I h;exact isTrue_plain (thn (ha pins s σ H _ I h) λv s1 ⟨x,H1,I1,r1,q1⟩=>zyz pins s1 σ H1 x v Q I1 r1 q1) (he _)
theorem op_add_str:OpR X (bQ .Add) (λx y H Q=>∃i j,x= .str i∧y= .str j∧i.length+j.length≤sizeLine∧Q (.str (i++j)) H):=by
 intro pins s σ H x y v u Q I rx ry h;obtain⟨i,j,rfl,rfl,hz,q⟩:=h;obtain⟨t,rfl⟩:=rx;obtain⟨t',rfl⟩:=ry;exact add_str (λt' tk=>⟨.str (i++j),H,I.tok _,⟨_,rfl⟩,q⟩) hz
theorem zkF{x:V}{us:List Value}(r:Vals [x] us):∃u,us=[u]∧RelV x u:=by
 cases r with
 |cons r1 r2=>cases r2;exact⟨_,rfl,r1⟩
theorem zzk{x y:V}{us:List Value}(r:Vals [x,y] us):∃u w',us=[u,w']∧RelV x u∧RelV y w':=by
 cases r with
 |cons r1 r2=>
  cases r2 with
  |cons r3 r4=>cases r4;exact⟨_,_,rfl,r1,r3⟩
theorem zqg (hc:X.calm=true):CallR X (.builtin "min") (λxs H Q=>∃i j,xs=[.int i, .int j]∧Q (.int (if j<i then j else i)) H):=by
 intro pins s σ H xs us Q I r h;obtain⟨i,j,rfl,q⟩:=h;obtain⟨u,w',rfl,⟨t,rfl⟩,⟨t',rfl⟩⟩:=zzk r;refine min_two_ints (I.ok.hd hc) λh' tk k=>⟨_,H,I.kept k,?_,q⟩;by_cases hj:j<i
 ·rw[if_pos hj,if_pos hj];exact⟨_,rfl⟩
 ·rw[if_neg hj,if_neg hj];exact⟨_,rfl⟩
theorem zqb:CallR X (.type "int") (λxs H Q=>(∃i,xs=[.int i]∧Q (.int i) H)∨ ∃k,xs=[.bl k]∧Q (.int (if k then 1 else 0)) H):=by
 intro pins s σ H xs us Q I r h;rcases h with⟨i,rfl,q⟩ |⟨k,rfl,q⟩
 ·obtain⟨u,rfl,t,rfl⟩:=zkF r;exact call_int_int ⟨.int i,H,I,⟨_,rfl⟩,q⟩
 ·obtain⟨u,rfl,r1⟩:=zkF r;cases r1;exact call_int_bool ⟨.int (if k then 1 else 0),H,I.tok _,⟨_,rfl⟩,q⟩
end
structure ObjM (h:Heap) (x dx C:Addr) (mA:Str→Option Value):Prop where
  obj:h.get? x=ae (ix C dx)
  ns:h.Ns1 dx mA
  ne:dx≠x
theorem zpO{h:Heap}{dx:Addr}{mA:Str→Option Value}(n:h.Ns1 dx mA):∃od,h.get? dx=ae od∧ ∀name,gN name od=ae (mA name):=by
 obtain⟨o,es,ep,ho,hd,hk,_,hm⟩:=n;refine⟨o,ho,λname=>?_⟩;have e:=hm name;unfold nsFind findBy at e;rw[←Array.find?_toList]at e;unfold gN;rw[hd];dsimp only;split
 ·rename_i y q;rw[q]at e;exact congrArg ae e
 ·rename_i q;rw[q]at e;have a:es.toList.any (·.refKey)=false:=by
   rw[List.any_eq_false];intro y hy;obtain⟨z,t,hkey⟩:=hk y (Array.mem_toList_iff.mp hy);simp [DictEntry.refKey,hkey]
  have a':¬es.toList.any (·.refKey)=true:=by rw[a];exact c8
  rw[if_neg a'];exact congrArg ae e
theorem ObjM.look{h:Heap}{x dx C:Addr}{mA:Str→Option Value}(I:ObjM h x dx C mA):∃od,PySem.W.InstAt h x (ix C dx) C (ae od)∧ ∀name,gN name od=ae (mA name):=
 let ⟨od,ho,hl⟩:=zpO I.ns
 ⟨od,⟨I.obj,rfl,rfl,ho⟩,hl⟩
section
variable {P:aE}{w:aC}{H:Hp}{h:Heap}{a C dx:Addr}{fs:List (Str×V)}
theorem zwl (hok:HOk P w H h) (e:H a=ae (.ins C dx fs)):∃mA,ObjM h a dx C mA∧(∀f,RelO (fs.lookup f) (mA f))∧PySem.Within mA (fs.map (·.1))∧fs.length≤1000∧H dx=ae (.own a):=by
 obtain⟨d,z,ne,ob,mA,n,r,q⟩:=(show ObjOk P w H h a (.ins C dx fs) from hok a _ e);exact⟨mA,⟨ob,n,ne⟩,r,q,z,d⟩
end
structure Cls (K:aj) (C:Addr):Prop where
  pg:jI K C iB=true
  hd:PySem.W.hasDictIn K C=true
  po:PySem.W.plainOver K C=true
  sa:bS K (.ref C) "__setattr__" =ae (ae (.builtin "object.__setattr__"))
theorem Cls.get{K:aj}{C:Addr}(c:Cls K C) (f:Str):jI K C f=true:=c.pg
section
variable {X:Cx}{pins:List (Addr×Obj)}{σ:St}{H:Hp}{s:ah}{A:aQ}{E:Value→ah→Prop}{Q:Value→ah→Prop}{c:Value}{b:Bool}
inductive TyOf (K:aj) (H:Hp):V→Value→Prop where
  |non:TyOf K H .non (.type "NoneType")
  |bl (x:Bool):TyOf K H (.bl x) (.type "bool")
  |int (i:Int):TyOf K H (.int i) (.type "int")
  |str (x:Str):TyOf K H (.str x) (.type "str")
  |flt (x:UInt64):TyOf K H (.flt x) (.type "float")
  |lst {a:Addr}{xs:List V}(e:H a=ae (.lst xs)):TyOf K H (.ref a) (.type "list")
  |frz {a:Addr}{o:Obj}{xs:List V}(e:H a=ae (.frz o (.lst xs))):TyOf K H (.ref a) (.type "list")
  |tup {a:Addr}{xs:List V}(e:H a=ae (.tup xs)):TyOf K H (.ref a) (.type "tuple")
  |dK {a:Addr}{kvs:List (Key×V)}(e:H a=ae (.dK kvs)):TyOf K H (.ref a) (.type "dict")
  |dT {a:Addr}{kvs:List (List Key×V)}(e:H a=ae (.dT kvs)):TyOf K H (.ref a) (.type "dict")
  |ins {a C dx:Addr}{fs:List (Str×V)}(e:H a=ae (.ins C dx fs)) (cl:Cls K C) (ha:bS K (.ref C) "__class__" =ae (ae (.builtin "object.__class__")))
      (hn:PySem.W.specialIn K (.builtin "object.__class__") "__get__" =ae (ae (.builtin "getset_descriptor.__get__"))) (htk:PySem.W.takesIn K (.builtin "object.__class__")=ae true)
      (hm:cX K C (.type "object")=ae true):TyOf K H (.ref a) (.ref C)
theorem zql{x:V}{u t:Value}(I:Inv X pins σ H s) (rx:RelV x u) (ty:TyOf X.K H x t) (e:eX X.K t c=ae b) (h:∀tk,Q (.bool b) { s with toks:=tk }) :
  am (aq X.prog X.w) A (call (.builtin "isinstance") [u,c]) Q E s:=by
 cases ty with
 |non=>cases(show u=cu from rx);exact cA PySem.W.kitx_none I.kIn c9 e (λz=>nomatch z) h
 |bl y=>cases(show u=d7 y from rx);exact cA PySem.W.kitx_bool I.kIn c9 e (λz=>nomatch z) h
 |int i=>obtain⟨t,q⟩:=(show ∃t,u=fE i t from rx);cases q;exact cA PySem.W.kitx_int I.kIn c9 e (λz=>nomatch z) h
 |str y=>obtain⟨t,q⟩:=(show ∃t,u=fe y t from rx);cases q;exact cA PySem.W.kitx_str I.kIn c9 e (λz=>nomatch z) h
 |flt y=>obtain⟨t,q⟩:=(show ∃t,u=Value.float y t from rx);cases q;exact cA PySem.W.kitx_float I.kIn c9 e (λz=>nomatch z) h
 | @lst a xs ea=>
  cases(show u=bc a from rx);obtain⟨_,_,n,_,h1⟩:=(show ObjOk X.prog X.w H s.heap a (.lst xs) from I.hok a _ ea);exact cA kF I.kIn ⟨_,h1,rfl⟩ e (λz=>nomatch z) h
 | @frz a ob xs ea=>
  cases(show u=bc a from rx);obtain⟨_,_,_,n,_,h1⟩:=(show ObjOk X.prog X.w H s.heap a (.frz ob (.lst xs)) from I.hok a _ ea);exact cA kF I.kIn ⟨_,h1,rfl⟩ e (λz=>nomatch z) h
 | @tup a xs ea=>
  cases(show u=bc a from rx);obtain⟨_,_,_,p⟩:=(show ObjOk X.prog X.w H s.heap a (.tup xs) from I.hok a _ ea);obtain⟨o,h1,h2,_⟩:=p;exact cA PySem.W.kitx_tuple I.kIn ⟨o,h1,h2⟩ e (λz=>nomatch z) h
 | @dK a kvs ea=>
  cases(show u=bc a from rx);obtain⟨_,_,vs,_,p⟩:=(show ObjOk X.prog X.w H s.heap a (.dK kvs) from I.hok a _ ea);obtain⟨o,es,ep,h1,h2,_⟩:=p;exact cA iV I.kIn ⟨o,h1,h2.1⟩ e (λz=>nomatch z) h
 | @dT a kvs ea=>
  cases(show u=bc a from rx);obtain⟨_,_,xs,_,o,es,ep,h1,h2,_⟩:=(show ObjOk X.prog X.w H s.heap a (.dT kvs) from I.hok a _ ea);exact cA iV I.kIn ⟨o,h1,h2.1⟩ e (λz=>nomatch z) h
 | @ins a C dx fs ea cl ha hn htk hm=>
  cases(show u=bc a from rx);obtain⟨mA,O,_⟩:=zwl I.hok ea;obtain⟨od,J,_⟩:=O.look;exact cA (PySem.W.kitx_own (cl.get _) cl.hd ha hn htk hm) I.kIn J e (λz=>nomatch z) h
end
structure Room (k:Nat) (A:aQ):Prop where
  hd:A.handled=none
  dp:A.depth+3*k+5<recursionLimit
  un:A.units+16*k+200<cLine
theorem Room.deeper{k:Nat}{A:aQ}(r:Room (k+1) A) (env:bB):Room k (A.deeper env):=
 ⟨r.hd,by have:=r.dp;show A.depth+1+3*k+5<_;omega,by have:=r.un;show A.units+3+16*k+200<_;omega⟩
theorem Room.depth{k:Nat}{A:aQ}(r:Room k A):A.depth<recursionLimit:=by have:=r.dp;omega
theorem Room.units{k:Nat}{A:aQ}(r:Room k A):A.units+64<cLine:=by have:=r.un;omega
noncomputable def zCA:TA:=λ_ H Q=>Q [] H
noncomputable def zBj (ta:TE) (tr:TA):TA:=λσ H Q=>ta σ H λx H1=>tr σ H1 λxs H2=>Q (x::xs) H2
section
variable {X:Cx}{e:Expr}{es:List Expr}{te:TE}{t:TA}{pos:aB}
theorem pa_nil:PA X [] zCA:=λ_ _ _ _ H Q I h=>jO ⟨[],H,I, .nil,h⟩
theorem zdh (ha:PE X e te) (hr:PA X es t) (hs:ao (e::es) X.env=(false,az e X.env)::ao es X.env:=by rfl):PA X (e::es) (zBj te t):=by
 intro pos pins s σ H Q I h;rw[hs];show am _ _ (spliced ((false,az e X.env)::aT pos (ao es X.env))) _ _ s;refine iy (thn (ha pins s σ H _ I h) λu s1 ⟨x,H1,I1,r1,q1⟩=>?_);exact thn (hr pos pins s1 σ H1 _ I1 q1) λus s2 ⟨xs,H2,I2,r2,q2⟩=>⟨x::xs,H2,I2, .cons r1 r2,q2⟩
noncomputable def zCt (t:TA):TE:=λσ H Q=>t σ H λxs H1=>xs.length≤sizeLine∧ ∀p,H1 p=none→Q (.ref p) (upd H1 p (.tup xs))
noncomputable def zCk (t:TA):TE:=λσ H Q=>t σ H λxs H1=>xs.length≤sizeLine∧ ∀p,H1 p=none→Q (.ref p) (upd H1 p (.lst xs))
theorem zym{x1}(h:PA X es t):PE X (.Tuple es x1 pos) (zCt t):=by
 intro pins s σ H Q I hq;refine wpAny_Tuple_spliced (thn (h pos pins s σ H _ I hq) λus s1 ⟨xs,H1,I1,r,z,q⟩=>⟨by rw[←r.length];exact z,?_⟩);have hf:H1 s1.heap.objs.size=none:=I1.hok.fresh (ap _);refine⟨.ref s1.heap.objs.size,upd H1 s1.heap.objs.size (.tup xs),I1.laid (t':=s1.toks) (λb u e=>aJ _ e) (ap _) ?_,rfl,q _ hf⟩;exact⟨z,us,r,⟨_,bt _ rfl,rfl,_,rfl⟩⟩
theorem zyN (h:PA X es t):PE X (.List es pos) (zCk t):=by
 intro pins s σ H Q I hq;refine wpAny_List_spliced (thn (h pos pins s σ H _ I hq) λus s1 ⟨xs,H1,I1,r,z,q⟩=>⟨by rw[←r.length];exact z,?_⟩);have hf:H1 s1.heap.objs.size=none:=I1.hok.fresh (ap _);refine⟨.ref s1.heap.objs.size,upd H1 s1.heap.objs.size (.lst xs),I1.laid (t':=s1.toks) (λb u e=>aJ _ e) (ap _) ?_,rfl,q _ hf⟩;exact⟨z,us,0,r,bt _ rfl⟩
end
abbrev Sp:=List V→Hp→VK→XK→Prop
abbrev CXT:=List bB→Hp→ah→XK→Value→ah→Prop
structure Env0 (P:aE) (w:aC) (K:aj) (mg:Str→Option Value) (base:Heap) (A:aQ) (outer:List bB) (s:ah) (H:Hp):Prop where
  frames:A.frames=ae outer
  mod:Mod K mg base
  bs:∀b o,base.get? b=ae o→s.heap.get? b=ae o∧H b=none
  bsz:base.objs.size≤s.heap.objs.size
  funs:s.heap.FunFrames base outer
  frf:∀b∈frs outer,H b=none
  hok:HOk P w H s.heap
  bare:ce s.gens
def CE (outer:List bB) (P:aE) (w:aC) (H:Hp) (s:ah) (Q:VK) (u:Value) (s':ah):Prop:=
 ∃v H',s'.os=s.os∧ce s'.gens∧Un (frs outer) [] H H' s.heap s'.heap∧HOk P w H' s'.heap∧RelV v u∧Q v H'
def CR (CX:CXT) (outer:List bB) (P:aE) (w:aC) (H:Hp) (s:ah) (Q:VK) (E:XK) (r:Result) (s':ah):Prop:=
 match r with
 | .ok (.ret u)=>CE outer P w H s Q u s'
 | .ok _=>False
 | .error e=>CX outer H s E e s'
structure FnOk (P:aE) (w:aC) (K:aj) (mg:Str→Option Value) (base:Heap) (CX:CXT) (k:Nat) (f:Addr) (fd:bG) (ps:List Str) (sp:Sp):Prop where
  len:∀vs H Q E,sp vs H Q E→vs.length=ps.length
  run:∀(A:aQ) (outer:List bB) (s:ah) (H:Hp) (args:Args) (us:List Value) (vs:List V) (Q:VK) (E:XK),Room k A→Env0 P w K mg base A outer s H→d5 s fd args (ps.zip us)→Vals vs us→sp vs H Q E→
    dN (aq P w) A (.call (.ref f) args) (CR CX outer P w H s Q E) s
section
variable {X:Cx}{pins:List (Addr×Obj)}{σ:St}{H:Hp}{s:ah}
theorem Inv.env0 (I:Inv X pins σ H s):Env0 X.prog X.w X.K X.mg X.base X.A X.stack s H:=
 ⟨I.ok.frames,I.ok.mod,I.bs,a9 I.ok.bsz I.sz,I.stack,I.stkFree,I.hok,I.bare⟩
end
def Binds (K:aj) (fd:bG) (ps:List Str) (ds:List Value):Prop:=
 ∀(s:ah) (us:List Value),K.In s.heap→(us++ds).length=ps.length→d5 s fd ⟨us,[]⟩ (ps.zip (us++ds))
theorem Binds.all{K:aj}{fd:bG}{ps:List Str}(h:∀us:List Value,us.length=ps.length→bindArgs fd ⟨us,[]⟩=pure (ps.zip us)):Binds K fd ps []:=λs us _ hl=>by
 rw[bK]at hl⊢;exact .of_eq (h us hl)
structure FnScope (N P:List Str) (sc:Scope):Prop where
  kind:sc.kind= .function
  co:sc.isCoroutine=false
  gen:sc.isGenerator=false
  nd:N.Nodup
  pre:N.take P.length=P
  par:∀x∈P,sc.names.lookup x=ae .local∨sc.names.lookup x=ae .cell
  nofree:∀y∈sc.names,y.2≠ .free
theorem zka{kindOf:Str→Option bT}{x:Str}:∀{binds:List (Str×Value)}{m:Str→Option Value},(∀v,(x,v)∉binds)→da kindOf binds m x=m x
 | [],_,_=>rfl
 | (n,v)::r,m,h=>by
  unfold da;rw[zka λw hw=>h w (aI _ hw)];split
  ·have:x≠n:=by rintro rfl;exact h v aV
   simp [this]
  ·rfl
theorem zlm{kindOf:Str→Option bT}{x:Str}:∀{binds:List (Str×Value)}{m:Str→Option Value},(∀v,(x,v)∉binds)→dg kindOf binds m x=m x
 | [],_,_=>rfl
 | (n,v)::r,m,h=>by
  unfold dg;rw[zlm λw hw=>h w (aI _ hw)];split
  ·rfl
  ·have:x≠n:=by rintro rfl;exact h v aV
   simp [this]
theorem zkP{kindOf:Str→Option bT}{x:Str}{v:Value}:∀{P:List Str}{vs:List Value}{i:Nat}{m:Str→Option Value},P.Nodup→P[i]? =ae x→vs[i]? =ae v→kindOf x=ae .local→
  da kindOf (P.zip vs) m x=ae v
 | [],_,_,_,_,h,_,_=>by simp at h
 |_::_,[],_,_,_,_,h,_=>by simp at h
 |p::P,w::vs,0,m,nd,h1,h2,hk=>by
  simp at h1 h2;subst h1;subst h2;show da kindOf ((p,w)::P.zip vs) m p=_;unfold da;rw[zka λv hv=>(dw.mp nd).1 (iO hv).1,if_pos hk];simp
 |p::P,w::vs,i+1,m,nd,h1,h2,hk=>by
  show da kindOf ((p,w)::P.zip vs) m x=_;unfold da;exact zkP (i:=i) (dw.mp nd).2 (by simpa using h1) (by simpa using h2) hk
theorem zkj{kindOf:Str→Option bT}{x:Str}{v:Value}:∀{P:List Str}{vs:List Value}{i:Nat}{m:Str→Option Value},P.Nodup→P[i]? =ae x→vs[i]? =ae v→kindOf x≠ae .local→
  dg kindOf (P.zip vs) m x=ae v
 | [],_,_,_,_,h,_,_=>by simp at h
 |_::_,[],_,_,_,_,h,_=>by simp at h
 |p::P,w::vs,0,m,nd,h1,h2,hk=>by
  simp at h1 h2;subst h1;subst h2;show dg kindOf ((p,w)::P.zip vs) m p=_;unfold dg;rw[zlm λv hv=>(dw.mp nd).1 (iO hv).1,if_neg hk];simp
 |p::P,w::vs,i+1,m,nd,h1,h2,hk=>by
  show dg kindOf ((p,w)::P.zip vs) m x=_;unfold dg;exact zkj (i:=i) (dw.mp nd).2 (by simpa using h1) (by simpa using h2) hk
noncomputable def start (N:List Str) (vs:List V):St:=vs.map ae++aN (N.length - vs.length) none
noncomputable def zvN (CX:CXT) (P:aE) (w:aC) (K:aj) (mg:Str→Option Value) (base:Heap) (N:List Str) (qual:Str) (scope:Scope) (f:Addr) (cd:Value) (A:aQ) (outer:List bB) (s:ah) (H:Hp) (E:XK):Cx where
  prog:=P
  w:=w
  K:=K
  mg:=mg
  base:=base
  A:=A.deeper (cr qual scope s.heap.objs.size f cd)
  N:=N
  s₀:=s
  H₀:=H
  env:=cr qual scope s.heap.objs.size f cd
  outer:=outer
  stack:=cr qual scope s.heap.objs.size f cd::outer
  ex:=[]
  calm:=true
  fn:=λ_=>true
  pn:=[]
  xe:=λe s'=>am (aq P w) (A.deeper (cr qual scope s.heap.objs.size f cd)) (leaving (cr qual scope s.heap.objs.size f cd) e) (λ_ s''=>CX outer H s E e s'') (λe' s''=>CX outer H s E e' s'') s'
theorem zmC{sc:Scope}{n:Nat}{x:Str}(h:sc.names.lookup x=ae .cell):∃c,(gB n sc.names []).lookup x=ae c:=by
 have q:=kC sc.names n [] (.inl h);exact dO.mp q
theorem zph{CX:CXT}{P:aE}{w:aC}{K:aj}{mg:Str→Option Value}{base:Heap}{N ps:List Str}{qual:Str}{scope:Scope}{f:Addr}{cd:Value}{A:aQ}{outer:List bB}{s s1:ah}{H:Hp}{E:XK}{us:List Value}{vs:List V}
  (S:FnScope N ps scope) (hd:A.handled=none) (e0:Env0 P w K mg base A outer s H) (hl:vs.length=ps.length) (r:Vals vs us)
  (x:InCallC s s.heap.objs.size (da (cr qual scope s.heap.objs.size f cd).kindOf (ps.zip us) λ_=>none) (gB (s.heap.objs.size+1) scope.names []) (dg (cr qual scope s.heap.objs.size f cd).kindOf (ps.zip us) λ_=>none) s1) :
  Inv (zvN CX P w K mg base N qual scope f cd A outer s H E) [] (start N vs) H s1:=by
 have hpl:ps.length≤N.length:=by have:=congrArg db S.pre;rw[cF]at this;omega
 obtain⟨h1,tk,rfl,hk⟩:=x.done;have noA:∀b:Addr,b∉(zvN CX P w K mg base N qual scope f cd A outer s H E).ex:=λb z=>absurd (show b∈([]:List Addr) from z) (by simp);refine⟨⟨e0.mod,S.kind,rfl,rfl,ap _,λy z c h1 h2=>?_,λy hy=>?_,λy c _ h=>?_,λ_=>hd,aQ.frames_deeper e0.frames, .inr ⟨rfl,rfl⟩,λb z=>absurd z (noA b),e0.bs,e0.bsz,λb _ _=>noA b,λb z=>absurd z (noA b),e0.funs,e0.frf⟩,
  rfl,e0.bare,Un.kept hk,⟨_,x.toInCall.ns,λi y v h1 h2 h3=>?_⟩,λy c h=>⟨_,x.cell y c h⟩,e0.hok.fresh (ap _),λy c h=>?_,λp hp=>absurd (show p∈([]:List (Addr×Obj)) from hp) (by simp),e0.hok.kept hk,?_⟩
 ·exact name_of_addr x.apart (d_ h1) (d_ h2)
 ·have hy:scope.names.lookup y=ae .cell∨scope.names.lookup y=ae .free:=hy;rcases hy with hy |hy
  ·exact zmC hy
  ·exact absurd rfl (S.nofree _ (d_ hy))
 ·exact iJ (x.above y c (d_ h))
 ·have hi:i<vs.length:=by
   unfold start at h2;by_cases hi:i<vs.length
   ·exact hi
   ·rw[iq (by simpa using hi)]at h2;rw[ku]at h2;split at h2<;>cases h2
  have ha:vs[i]? =ae v:=by
   unfold start at h2;rw[kJ (by simpa using hi),bj]at h2;cases e:vs[i]? with
   |none=>rw[e]at h2;cases h2
   |some a=>rw[e]at h2;cases h2;rfl
  obtain⟨u,hu,rv⟩:=r.get ha;have hp:ps[i]? =ae y:=by
   rw[←S.pre,List.getElem?_take_of_lt (by omega)];exact h1
  have ndP:ps.Nodup:=by rw[←S.pre];exact S.nd.sublist (iY _ _)
  refine⟨u,rv,?_⟩;rcases S.par y (aR hp) with k |k
  ·exact .inl ⟨k,zkP ndP hp hu k⟩
  ·obtain⟨c,e⟩:=zmC (n:=s.heap.objs.size+1) k;refine .inr ⟨.inl k,c,e,?_⟩;have q:=x.cell y c e;rw[zkj ndP hp hu (by show scope.names.lookup y≠_;rw[k];decide)]at q;exact q
 ·exact e0.hok.fresh (iJ (x.above y c (d_ h)))
 ·unfold start;show _=N.length;rw[aM,ax,gS];omega
theorem zzQ{CX:CXT}{P:aE}{w:aC}{K:aj}{mg:Str→Option Value}{base:Heap}{k:Nat}{f:Addr}{name qual:Str}{params:Arguments}{body:List Stmt}{scope:Scope}{dV kV doc pm cdv ct oc:Value}{an od:Option Addr}
  {osl:Array (Option Value)}{N ps:List Str}{sp:Sp}(lk:K.lookup f=ae ⟨oc,od, .func (dH name qual params body scope dV kV doc pm an cdv ct),osl⟩) (hcd:gg K cdv qual=true) (S:FnScope N ps scope)
  (len:∀vs H Q E,sp vs H Q E→vs.length=ps.length)
  (hbody:∀(A:aQ) (outer:List bB) (s:ah) (H:Hp) (vs:List V) (Q:VK) (E:XK),Room k (A.deeper (cr qual scope s.heap.objs.size f cdv))→sp vs H Q E→
   ∃t,PSs (zvN CX P w K mg base N qual scope f cdv A outer s H E) body t∧t { nx:=λ_ H'=>Q .non H',rt:=Q } (start N vs) H) :
  FnOk P w K mg base CX (k+1) f (dH name qual params body scope dV kV doc pm an cdv ct) ps sp:=by
 refine⟨len,λA outer s H args us vs Q E hr e0 hb r hsp=>?_⟩;have hl:=len _ _ _ _ hsp;have KX:K.In s.heap:=e0.mod.kin.keeps λb o e=>(e0.bs b o e).1;have lim:s.heap.NoLimit:=e0.mod.nolimit.keeps λb o e=>(e0.bs b o e).1;have hkind:∀y∈ps.zip us,scope.names.lookup y.1=ae .local∨(scope.names.lookup y.1=ae .cell∧((gB (s.heap.objs.size+1) scope.names []).lookup y.1).isSome=true):=λ⟨n,v⟩ hy=>by
  rcases S.par n (iO hy).1 with q |q
  ·exact .inl q
  ·exact .inr ⟨q,kC _ _ _ (.inl q)⟩
 refine codeAny_call_function hr.depth (KX _ _ lk) rfl S.co S.gen rfl (PySem.W.codeRec_of KX hcd) (hb _ _ _ _ ?_);refine wpAny_newFunctionEnv_cells S.kind hkind λenv he s1 x=>?_;subst he;refine⟨lim.keeps x.toInCall.keep,codeAny_func ?_⟩;obtain⟨t,ht,hq⟩:=hbody A outer s H vs Q E (hr.deeper _) hsp;have I:Inv (zvN CX P w K mg base N qual scope f cdv A outer s H E) [] (start N vs) H s1:=zph S hr.hd e0 hl r x;refine cn (ht [] s1 (start N vs) H _ I hq) (λfl s' hs=>?_) λe s' hs=>hs;have fin:∀{σ':St}{H':Hp}{v:V}{u:Value},Inv (zvN CX P w K mg base N qual scope f cdv A outer s H E) [] σ' H' s'→RelV v u→Q v H'→CE outer P w H s Q u s':=
  λ{σ' H' v u} J rv q=>⟨v,H',J.os,J.bare,J.base,J.hok,rv,q⟩
 cases fl with
 |ret u=>
  obtain⟨v,σ',H',J,rv,q⟩:=hs;exact fin J rv q
 |next=>
  obtain⟨σ',H',J,q⟩:=hs;exact fin (v:=V.non) (u:=cu) J rfl q
 |brk=>
  obtain⟨_,_,_,q⟩:=hs;exact cB q
 |cont=>
  obtain⟨_,_,_,q⟩:=hs;exact cB q
section
variable {X:Cx}{x:Str}{p pos:aB}{e:Expr}{es:List Expr}{t:TA}{id T:String}{r:List V→Hp→VK→Prop}
noncomputable def tCB (r:List V→Hp→VK→Prop) (t:TA):TE:=λσ H Q=>t σ H λvs H1=>r vs H1 Q
theorem zjf (hc:CallR X (.builtin id) r) (hg:Gl X x) (hm:X.mg x=none) (hv:bV x=ae (.builtin id)) (ha:PA X (e::es) t) (hn:x≠ "__name__" :=by decide) (hdb:(x == ("__debug__" :Str))=false:=by decide)
  (he:ao (e::es) X.env=(false,az e X.env)::ao es X.env:=by rfl) (hpl:(aT pos (ao es X.env)).any (·.1)=false:=by rfl):PE X (.Call (.Name x p) (e::es) [] pos) (tCB r t):=by
 intro pins s σ H Q I h;refine io (zhd I hg hm hv ?_ hn hdb);exact PyProof.Rows.callWith_builtin1 (thn (ha pos pins s σ H _ I h) λus s1 ⟨vs,H1,I1,r1,q1⟩=>hc pins s1 σ H1 vs us Q I1 r1 q1) he hpl
theorem zhS (hc:CallR X (.type T) r) (hg:Gl X x) (hm:X.mg x=none) (hv:bV x=ae (.type T)) (ha:PA X (e::es) t) (hn:x≠ "__name__" :=by decide) (hdb:(x == ("__debug__" :Str))=false:=by decide)
  (he:ao (e::es) X.env=(false,az e X.env)::ao es X.env:=by rfl) (hpl:(aT pos (ao es X.env)).any (·.1)=false:=by rfl):PE X (.Call (.Name x p) (e::es) [] pos) (tCB r t):=by
 intro pins s σ H Q I h;refine io (zhd I hg hm hv ?_ hn hdb);exact eY (thn (ha pos pins s σ H _ I h) λus s1 ⟨vs,H1,I1,r1,q1⟩=>hc pins s1 σ H1 vs us Q I1 r1 q1) he hpl
end
end L2
namespace HT
open PySem PyProof.Rows
section
variable {prog:aE}{w:aC}{A:aQ}{E:Value→ah→Prop}{s:ah}
theorem cat_tup{t b:Addr}{vs ws:List Value}{Q:Value→ah→Prop}(ht:d9 s.heap t vs.toArray) (hb:d9 s.heap b ws.toArray) (hv:vs≠ [])
  (h1:ws=[]→Q (.ref t) s) (h2:ws≠ []→Q (.ref s.heap.objs.size) { s with heap:=s.heap.push { cls:= .type "tuple",data:= .seq (vs++ws).toArray } })
  (hsz:vs.length+ws.length≤sizeLine):am (aq prog w) A (bQ .Add (.ref t) (.ref b)) Q E s:=by
 obtain⟨⟨cls,dd,data,sl⟩,ho,hc,n,hd⟩:=id ht;obtain⟨⟨cls2,dd2,data2,sl2⟩,ho2,hc2,n2,hd2⟩:=id hb;simp only at hc hd hc2 hd2;subst hc hd hc2 hd2;have e:vs.toArray++ws.toArray=(vs++ws).toArray:=by simp
 by_cases hw:ws=[]
 ·exact h9 ⟨_,ho,rfl⟩ ⟨_,ho2,rfl⟩ iD ig gp ik (gG _ _)
   (tuple_addW1 t b vs.toArray ws.toArray n n2 dd dd2 sl sl2 (by simpa using hv) (by simp [hw])) ⟨ho,ho2,h1 hw⟩
 ·refine h9 ⟨_,ho,rfl⟩ ⟨_,ho2,rfl⟩ iD ig gp ik (gG _ _)
   (tuple_addW2 t b vs.toArray ws.toArray n n2 dd dd2 sl sl2 (by simpa using hv) (by simpa using hw) (by rw[aU,aU];exact hsz)) ⟨ho,ho2,?_⟩
  rw[e];exact h2 hw
noncomputable def sIx (n d:Nat):Option Int→Nat
 |none=>d
 |some v=>if v<0 then(v+(n:Int)).toNat else min v.toNat n
theorem sIx_none (n d:Nat):sIx n d none=d:=rfl
theorem sIx_nat (n d k:Nat):sIx n d (ae (k:Int))=min k n:=by
 show(if(k:Int)<0 then((k:Int)+(n:Int)).toNat else min (k:Int).toNat n)=min k n;rw[if_neg (by omega),bW]
theorem sIx_le (n d:Nat) (hd:d≤n) (o:Option Int):sIx n d o≤n:=by
 cases o with
 |none=>exact hd
 |some v=>
  show(if v<0 then(v+(n:Int)).toNat else min v.toNat n)≤n;by_cases hv:v<0
  ·rw[if_pos hv];omega
  ·rw[if_neg hv];exact Nat.min_le_right _ _
theorem zpX (v:Int) (n d:Nat):(if v<0 then max (v+(n:Int)) 0 else min v (n:Int))=((sIx n d (ae v):Nat):Int):=by
 show(if v<0 then max (v+(n:Int)) 0 else min v (n:Int))=(((if v<0 then(v+(n:Int)).toNat else min v.toNat n):Nat):Int);by_cases hv:v<0
 ·simp only[if_pos hv];omega
 ·simp only[if_neg hv];omega
theorem zov (lo hi:Option Int) (n:Nat):ij lo hi 1 (n:Int)=(((sIx n 0 lo:Nat):Int),((sIx n n hi:Nat):Int)):=by
 have h1:¬((1:Int)<0):=by omega
 unfold ij;simp only[h1,if_false];refine Prod.ext ?_ ?_
 ·cases lo with
  |none=>rfl
  |some v=>exact zpX v n 0
 ·cases hi with
  |none=>rfl
  |some v=>exact zpX v n n
theorem zof (i j:Nat):fQ (i:Int) (j:Int) 1=j - i:=by
 unfold fQ;have h1:(1:Int) > 0:=by omega
 simp only[h1,if_true,Int.ediv_one];split<;>omega
theorem ziD{v:Value}{o:Option Int}{Q:Option Int→ah→Prop}(p:cM v o) (h:Q o s):am (aq prog w) A (b4.Slice.slicePartIndex v) Q E s:=by
 cases p with
 |none=>exact i0 h
 |int i t=>exact slicePart_int h
theorem sliceApplied_gen{sl:Addr}{vl vu:Value}{lo hi:Option Int}{n:Nat}{Q:Int×Int×Nat→ah→Prop}(hs:s.heap.IsSliceOf sl vl vu .none) (pl:cM vl lo) (pu:cM vu hi)
  (h:Q (((sIx n 0 lo:Nat):Int),1,sIx n n hi - sIx n 0 lo) s):am (aq prog w) A (kh (.ref sl) (pure (n:Int))) Q E s:=by
 obtain⟨os,hos,hcs,hds⟩:=id hs;unfold kh b4.Slice.sliceFields;refine ak (ak (bE hos hds (x:=vl) rfl (ak (bE hos hds (x:=vu) rfl (ak (bE hos hds (x:= .none) rfl (aD ?_)))))));refine ak (i0 ?_);show am _ _ (if((1:Int) == 0)=true then _ else _) _ _ s;rw[if_neg (by decide)];refine ak (ziD pl (ak (ziD pu (ak (aD ?_)))));show am _ _ (match ij lo hi 1 (n:Int) with | (lo,hi)=>pure (lo,(1:Int),fQ lo hi 1)) _ _ s;rw[zov lo hi n];show am _ _ (pure (((sIx n 0 lo:Nat):Int),(1:Int),fQ ((sIx n 0 lo:Nat):Int) ((sIx n n hi:Nat):Int) 1)) _ _ s;rw[zof];exact aD h
theorem zte (xs:Array Value) (i k:Nat):((aX k).filterMap λ(m:Nat)=>xs[((i:Int)+(m:Int)*1).toNat]?).toArray=((xs.toList.drop i).take k).toArray:=by
 have e:(λ(m:Nat)=>xs[((i:Int)+(m:Int)*1).toNat]?)=λm=>xs[i+m]? :=by
  funext m;have:((i:Int)+(m:Int)*1).toNat=i+m:=by omega
  rw[this]
 rw[e];have:=gy xs i k;rw[List.filterMap_map]at this;have e2:((λx=>xs[x]?)∘λx=>i+x)=λm=>xs[i+m]? :=rfl;rw[e2]at this;rw[this]
theorem getItem_tuple_cut{t sl:Addr}{items:Array Value}{vl vu:Value}{lo hi:Option Int}{Q:Value→ah→Prop}(ht:d9 s.heap t items) (hs:s.heap.IsSliceOf sl vl vu .none) (pl:cM vl lo) (pu:cM vu hi)
  (hw:¬(sIx items.size 0 lo=0∧sIx items.size items.size hi=items.size))
  (h:Q (.ref s.heap.objs.size) { s with heap:=s.heap.push { cls:= .type "tuple",data:= .seq ((items.toList.drop (sIx items.size 0 lo)).take (sIx items.size items.size hi - sIx items.size 0 lo)).toArray } })
  (hsz:items.size≤sizeLine):am (aq prog w) A (dQ (.ref t) (.ref sl)) Q E s:=by
 have htake:sizeOk (.seq ((items.toList.drop (sIx items.size 0 lo)).take (sIx items.size items.size hi - sIx items.size 0 lo)).toArray):=by
  show((items.toList.drop (sIx items.size 0 lo)).take (sIx items.size items.size hi - sIx items.size 0 lo)).toArray.size≤sizeLine;rw[aU,cF,cC,iG];omega
 have hj:sIx items.size items.size hi≤items.size:=sIx_le _ _ (ap _) hi;obtain⟨os,hos,hcs,hds⟩:=id hs;have hTs:s.TypeIs (.ref sl) "slice" :=⟨os,hos,hcs⟩;unfold dQ
 try with_reducible refine fP ?_
 first |refine ak (aD ?_) |skip
 refine ak (jM ht.typeIs (by decide) ?_);refine ak (dr (name:=br "__getitem__") ht.typeIs dW
  (dt dW ht.typeIs ko ?_ (kE _ _)))
 show am _ _ (kf (.ref t) >>= _) _ _ s;refine ak (tupleItemsOf_ ht ?_);refine ak (fx hTs ?_);rw[if_pos (by decide)];refine ak (sliceApplied_gen hs pl pu ?_);have hno:¬((((sIx items.size 0 lo:Nat):Int) == 0&&(1:Int) == 1&&(sIx items.size items.size hi - sIx items.size 0 lo) == items.size)=true):=by
  intro q;rw[b6,b6]at q;have q1:((sIx items.size 0 lo:Nat):Int)=0:=gn q.1.1;have q2:sIx items.size items.size hi - sIx items.size 0 lo=items.size:=gn q.2;exact hw ⟨by omega,by omega⟩
 show am _ _ (if(((sIx items.size 0 lo:Nat):Int) == 0&&(1:Int) == 1&&(sIx items.size items.size hi - sIx items.size 0 lo) == items.size)=true then _ else _) _ _ s;rw[if_neg hno,zte]
 first
  |exact ak (m:=fF _) (ef (aD ⟨_,rfl,aD h⟩) htake)
  |exact ak (m:=fF _) (ef (ak (aD (aD ⟨_,rfl,aD h⟩))) htake)
  |exact ak (ak (m:=fF _) (ef (aD (aD ⟨_,rfl,aD h⟩)) htake))
  |exact ak (ak (m:=fF _) (ef (aD ⟨_,rfl,aD h⟩) htake))
end
end HT
namespace L2
open PySem PySem.Spec PyProof.Rows
abbrev TO:=St→Hp→(Option Int→Hp→Prop)→Prop
def PO (X:Cx) (e:Option Expr) (t:TO):Prop:=
 ∀(pins:List (Addr×Obj)) (s:ah) (σ:St) (H:Hp) (Q:Option Int→Hp→Prop),Inv X pins σ H s→t σ H Q→
  am (aq X.prog X.w) X.A (evalPart e X.env) (λu s'=>∃o H',Inv X pins σ H' s'∧cM u o∧Q o H') X.xe s
noncomputable def zwu:TO:=λ_ H Q=>Q none H
noncomputable def zAm (t:TE):TO:=λσ H Q=>t σ H λx H1=>∃i,x= .int i∧Q (ae i) H1
section
variable {X:Cx}{e:Expr}{te:TE}{lo hi:Option Expr}{tl th:TO}{pos p2:aB}
theorem po_none:PO X none zwu:=by
 intro pins s σ H Q I h;rw[evalPart_none];exact aD ⟨none,H,I, .none,h⟩
theorem zvu (h:PE X e te):PO X (ae e) (zAm te):=by
 intro pins s σ H Q I hw;rw[evalPart_some];refine thn (h pins s σ H _ I hw) λu s1 ⟨x,H1,I1,r1,q1⟩=>?_;obtain⟨i,rfl,q⟩:=q1;obtain⟨t,rfl⟩:=r1;exact⟨ae i,H1,I1, .int i t,q⟩
def SlR (X:Cx) (r:V→Option Int→Option Int→Hp→VK→Prop):Prop:=
 ∀(pins:List (Addr×Obj)) (s:ah) (σ:St) (H:Hp) (x:V) (v vl vu:Value) (lo hi:Option Int) (sl:Addr) (Q:VK),Inv X pins σ H s→RelV x v→s.heap.IsSliceOf sl vl vu .none→cM vl lo→cM vu hi→r x lo hi H Q→
  ∃T id,iw (.type T) "__getitem__" =pure (ae (.builtin id))∧s.TypeIs v T∧am (aq X.prog X.w) X.A (dQ v (.ref sl)) (EP X pins σ Q) X.xe s
theorem SlR.or{r r':V→Option Int→Option Int→Hp→VK→Prop}(h:SlR X r) (h':SlR X r'):SlR X (λx lo hi H Q=>r x lo hi H Q∨r' x lo hi H Q):=by
 intro pins s σ H x v vl vu lo hi sl Q I rx hs pl pu q;rcases q with q |q
 ·exact h pins s σ H x v vl vu lo hi sl Q I rx hs pl pu q
 ·exact h' pins s σ H x v vl vu lo hi sl Q I rx hs pl pu q
noncomputable def tSl (r:V→Option Int→Option Int→Hp→VK→Prop) (te:TE) (tl th:TO):TE:=λσ H Q=>te σ H λx H1=>tl σ H1 λl H2=>th σ H2 λu H3=>r x l u H3 Q
theorem zmZ{r:V→Option Int→Option Int→Hp→VK→Prop}(hr:SlR X r) (he:PE X e te) (hl:PO X lo tl) (hu:PO X hi th):PE X (.Subscript e (.Slice lo hi none p2) pos) (tSl r te tl th):=by
 intro pins s σ H Q I h;refine Subscript_ (thn (he pins s σ H _ I h) λv s1 ⟨x,H1,I1,r1,q1⟩=>?_);refine wpAny_Slice (thn (hl pins s1 σ H1 _ I1 q1) λvl s2 ⟨l,H2,I2,pl,q2⟩=>thn (hu pins s2 σ H2 _ I2 q2) λvu s3 ⟨u,H3,I3,pu,q3⟩=>?_);rw[evalPart_none];refine aD ?_;have I4:Inv X pins σ H3 { s3 with heap:=s3.heap.push { cls:= .type "slice",data:= .fields #[vl,vu, .none] } }:=I3.kept (t':=s3.toks) λb ob q=>aJ _ q;obtain⟨T,id,hT,ht,hg⟩:=hr pins { s3 with heap:=s3.heap.push { cls:= .type "slice",data:= .fields #[vl,vu, .none] } } σ H3 x v vl vu l u s3.heap.objs.size Q I4 r1 (Heap.IsSliceOf.new ..) pl pu q3;show am (aq X.prog X.w) X.A (subscriptTail e (.Slice lo hi none p2) v (.ref s3.heap.objs.size)) (EP X pins σ Q) X.xe { s3 with heap:=s3.heap.push { cls:= .type "slice",data:= .fields #[vl,vu, .none] } };exact tail_any (ops:=[.ref s3.heap.objs.size,v]) ht hT hg (by with_unfolding_all rfl)
noncomputable def zqc (xs:List V) (lo hi:Option Int):List V:=(xs.drop (HT.sIx xs.length 0 lo)).take (HT.sIx xs.length xs.length hi - HT.sIx xs.length 0 lo)
theorem zhj (xs:List V) (lo hi:Option Int):(zqc xs lo hi).length≤xs.length:=by
 unfold zqc;rw[cF,cC];omega
def zBD (K:aj):V→Option Int→Option Int→Hp→VK→Prop:=λx lo hi H Q=>∃a xs,x= .ref a∧SqT K H a xs∧
 ¬(HT.sIx xs.length 0 lo=0∧HT.sIx xs.length xs.length hi=xs.length)∧ ∀p,H p=none→Q (.ref p) (upd H p (.tup (zqc xs lo hi)))
theorem zxy:SlR X (zBD X.K):=by
 intro pins s σ H x v vl vu lo hi sl Q I rx hs pl pu h;obtain⟨a,xs,rfl,hx,hw,q⟩:=h;cases rx;obtain⟨its,r,ht,hz⟩:=I.tuple hx;have hlen:its.toArray.size=xs.length:=by rw[aU];exact r.length.symm
 refine⟨"tuple",_,dW.lookup,ht.typeIs,?_⟩;refine HT.getItem_tuple_cut ht hs pl pu (by rw[hlen];exact hw) ?_ (by rw[hlen];exact hz);rw[hlen];refine⟨.ref s.heap.objs.size,_,I.laid (t':=s.toks) (o:= .tup (zqc xs lo hi)) (λb ob q=>aJ _ q) (ap _) ?_,rfl,q _ (I.hok.fresh (ap _))⟩;exact⟨a9 (zhj xs lo hi) hz,_,(r.drop (HT.sIx xs.length 0 lo)).take (HT.sIx xs.length xs.length hi - HT.sIx xs.length 0 lo),gr _ _⟩
noncomputable def zwy (K:aj):R2:=λx y H Q=>∃a b xs ys,x= .ref a∧y= .ref b∧SqT K H a xs∧SqT K H b ys∧xs≠ []∧xs.length+ys.length≤sizeLine∧
 (ys=[]→Q (.ref a) H)∧(ys≠ []→ ∀p,H p=none→Q (.ref p) (upd H p (.tup (xs++ys))))
theorem Vals.nil_iff{xs:List V}{us:List Value}(r:Vals xs us):us=[]↔xs=[]:=by
 cases r with
 |nil=>simp
 |cons _ _=>simp
theorem op_catT:OpR X (bQ .Add) (zwy X.K):=by
 intro pins s σ H x y v u Q I rx ry h;obtain⟨a,b,xs,ys,rfl,rfl,ha,hb,hx,hz,q1,q2⟩:=h;cases rx;cases ry;obtain⟨its,r1,p1,_⟩:=I.tuple ha;obtain⟨its2,r2,p2,_⟩:=I.tuple hb;refine HT.cat_tup p1 p2 (λz=>hx (r1.nil_iff.mp z)) (λz=>⟨.ref a,H,I,rfl,q1 (r2.nil_iff.mp z)⟩) (λz=>?_) (by rw[←r1.length,←r2.length];exact hz);refine⟨.ref s.heap.objs.size,_,I.laid (t':=s.toks) (o:= .tup (xs++ys)) (λb ob q=>aJ _ q) (ap _) ?_,rfl,q2 (λw=>z (r2.nil_iff.mpr w)) _ (I.hok.fresh (ap _))⟩;exact⟨by rw[aM];exact hz,_,r1.append r2,gr _ _⟩
end
noncomputable def ixN (n:Nat) (i:Int):Option Nat:=if 0≤i then(if i<n then ae i.toNat else none) else if -(n:Int)≤i then ae (i+n).toNat else none
noncomputable def atI {α:Type}(xs:List α) (i:Int):Option α:=(ixN xs.length i).bind λj=>xs[j]?
theorem zvS{n:Nat}{i:Int}{j:Nat}(h:ixN n i=ae j):seqIndex? i n=ae j∧j<n∧ -(n:Int)≤i∧i<n:=by
 unfold ixN at h;by_cases h0:0≤i
 ·rw[if_pos h0]at h;by_cases h1:i<n
  ·rw[if_pos h1]at h;have e:i.toNat=j:=aH h;exact⟨by rw[seqIndex_of h0 h1,e],by omega,by omega,h1⟩
  ·rw[if_neg h1]at h;cases h
 ·rw[if_neg h0]at h;by_cases h1: -(n:Int)≤i
  ·rw[if_pos h1]at h;have e:(i+n).toNat=j:=aH h;exact⟨by rw[seqIndex_neg (by omega) h1,e],by omega,h1,by omega⟩
  ·rw[if_neg h1]at h;cases h
theorem zmj{α:Type}{xs:List α}{i:Int}{v:α}(h:atI xs i=ae v):∃j,seqIndex? i xs.length=ae j∧xs[j]? =ae v∧j<xs.length∧ -(xs.length:Int)≤i∧i<xs.length:=by
 unfold atI at h;cases e:ixN xs.length i with
 |none=>rw[e]at h;cases h
 |some j=>
  rw[e]at h;obtain⟨h1,h2,h3,h4⟩:=zvS e;exact⟨j,h1,h,h2,h3,h4⟩
theorem zwc{α:Type}{xs:List α}{j:Nat}{v:α}(h:xs[j]? =ae v):atI xs (j:Int)=ae v:=by
 have hj:j<xs.length:=(cf.mp h).1;have e:ixN xs.length (j:Int)=ae j:=by
  unfold ixN;rw[if_pos (by omega),if_pos (by omega)];simp
 unfold atI;rw[e];exact h
def zmo (b:Expr):Prop:=∀o i,subscripted b false o i=operate [o,i] (dQ o i)
def IxR (X:Cx) (r:R2):Prop:=
 ∀(value slice:Expr) (pins:List (Addr×Obj)) (s:ah) (σ:St) (H:Hp) (x y:V) (v u:Value) (Q:VK),Inv X pins σ H s→RelV x v→RelV y u→r x y H Q→
  subscripted slice false v u=operate [v,u] (dQ v u)→am (aq X.prog X.w) X.A (subscriptTail value slice v u) (EP X pins σ Q) X.xe s
def MtR (X:Cx) (id:String) (r:V→List V→Hp→VK→Prop):Prop:=
 ∀(pins:List (Addr×Obj)) (s:ah) (σ:St) (H:Hp) (x:V) (xs:List V) (v:Value) (us:List Value) (Q:VK),Inv X pins σ H s→RelV x v→Vals xs us→r x xs H Q→
  am (aq X.prog X.w) X.A (call (.builtin id) (v::us)) (EP X pins σ Q) X.xe s
section
variable {X:Cx}{a b:Expr}{ta tb:TE}{pos:aB}
theorem IxR.or{r r':R2}(h:IxR X r) (h':IxR X r'):IxR X (λx y H Q=>r x y H Q∨r' x y H Q):=by
 intro value slice pins s σ H x y v u Q I rx ry q hs;rcases q with q |q
 ·exact h value slice pins s σ H x y v u Q I rx ry q hs
 ·exact h' value slice pins s σ H x y v u Q I rx ry q hs
theorem MtR.or{id:String}{r r':V→List V→Hp→VK→Prop}(h:MtR X id r) (h':MtR X id r'):MtR X id (λx xs H Q=>r x xs H Q∨r' x xs H Q):=by
 intro pins s σ H x xs v us Q I rx rs q;rcases q with q |q
 ·exact h pins s σ H x xs v us Q I rx rs q
 ·exact h' pins s σ H x xs v us Q I rx rs q
theorem zxU{r:R2}(hr:IxR X r) (ha:PE X a ta) (hb:PE X b tb) (hs:zmo b):PE X (.Subscript a b pos) (tOp r ta tb):=by
 intro pins s σ H Q I h;exact Subscript_ (zAU ha hb I h λv u s2 x y H2 I2 rx ry q=>hr a b pins s2 σ H2 x y v u Q I2 rx ry q (hs _ _))
noncomputable def zBs (K:aj):R2:=λx y H Q=>∃p xs i v,x= .ref p∧y= .int i∧SqL K H p xs∧atI xs i=ae v∧Q v H
noncomputable def zBo (K:aj):R2:=λx y H Q=>∃p xs i v,x= .ref p∧y= .int i∧SqT K H p xs∧atI xs i=ae v∧Q v H
noncomputable def zBt:R2:=λx y H Q=>∃z i c,x= .str z∧y= .int i∧z.length≤sizeLine∧atI z.cps.toList i=ae c∧Q (.str ⟨#[c]⟩) H
theorem ix_list:IxR X (zBs X.K):=by
 intro value slice pins s σ H x y v u Q I rx ry h hs;obtain⟨p,xs,i,z,rfl,rfl,hq,he,q⟩:=h;cases rx;obtain⟨t,rfl⟩:=ry;obtain⟨its,r,pl,hz⟩:=I.list hq;obtain⟨j,h1,h2,h3,h4,h5⟩:=zmj he;obtain⟨w,ew,rw'⟩:=r.get h2;have hl:=r.length;have hn:=ziz;have fin:EP X pins σ Q w s:=⟨z,H,I,rw',q⟩;by_cases h0:0≤i
 ·have hj:i.toNat=j:=by
   rw[seqIndex_of h0 h5]at h1;exact aH h1
  exact item_listR pl.isList h0 (by omega) (by rw[hj];simpa using ew) fin hs
 ·have hj:(i+(its.toArray.size:Int)).toNat=j:=by
   rw[seqIndex_neg (by omega) h4]at h1;rw[aU,←hl];exact aH h1
  exact iZ (x:=w) pl.isList.typeIs kj.lookup
   (wpAny_getItem_list_neg (Q:=λr s'=>r=w∧EP X pins σ Q r s') pl.isList (by omega) (by rw[aU]<;>omega) (by omega) (by rw[hj];simpa using ew) ⟨rfl,fin⟩) hs
theorem ix_tup:IxR X (zBo X.K):=by
 intro value slice pins s σ H x y v u Q I rx ry h hs;obtain⟨p,xs,i,z,rfl,rfl,hq,he,q⟩:=h;cases rx;obtain⟨t,rfl⟩:=ry;obtain⟨its,r,pl,hz⟩:=I.tuple hq;obtain⟨j,h1,h2,h3,h4,h5⟩:=zmj he;obtain⟨w,ew,rw'⟩:=r.get h2;have hl:=r.length;have hn:=ziz;have fin:EP X pins σ Q w s:=⟨z,H,I,rw',q⟩;exact iZ (x:=w) pl.typeIs slot_tuple_getitem.lookup
  (getItem_tuple (j:=j) (Q:=λr s'=>r=w∧EP X pins σ Q r s') pl (by omega) (by omega) (by rw[aU,←hl];exact h1) (by simpa using ew) ⟨rfl,fin⟩) hs
theorem zyo:IxR X zBt:=by
 intro value slice pins s σ H x y v u Q I rx ry h hs;obtain⟨z,i,c,rfl,rfl,hz,he,q⟩:=h;obtain⟨t,rfl⟩:=rx;obtain⟨t',rfl⟩:=ry;obtain⟨j,h1,h2,h3,h4,h5⟩:=zmj he;have hl:z.cps.toList.length=z.length:=by simp [gD]
 rw[hl]at h1 h4 h5;have hn:=ziz;exact tail_any (iC s z t) slot_str_getitem.lookup (getItem_str (c:=c) (by
  have e1:decide (i< -(2 ^ 63:Int))=false:=decide_eq_false (by omega);have e2:decide (i≥2 ^ 63)=false:=decide_eq_false (by omega);rw[e1,e2,jE]) (by rw[h1];simpa using h2) ⟨.str ⟨#[c]⟩,H,I.tok _,⟨_,rfl⟩,q⟩) hs
noncomputable def rIx (K:aj):R2:=λx y H Q=>zBs K x y H Q∨zBo K x y H Q∨zBt x y H Q
theorem ztT:IxR X (rIx X.K):=ix_list.or (ix_tup.or zyo)
theorem zlp (lo hi:Option Int) (n:Nat):(dB lo hi none n).1=((HT.sIx n 0 lo:Nat):Int)∧(dB lo hi none n).2.1=((HT.sIx n n hi:Nat):Int)∧(dB lo hi none n).2.2=1:=by
 refine⟨?_,?_,rfl⟩
 ·cases lo with
  |none=>simp [dB,HT.sIx]
  |some i=>
   simp only[dB,HT.sIx,fN,show(1:Int) > 0 by decide,if_true]
   by_cases h:i<0
   ·simp only[h,if_true]<;>omega
   ·simp only[h,if_false]<;>omega
 ·cases hi with
  |none=>simp [dB,HT.sIx]
  |some i=>
   simp only[dB,HT.sIx,fN,show(1:Int) > 0 by decide,if_true]
   by_cases h:i<0
   ·simp only[h,if_true]<;>omega
   ·simp only[h,if_false]<;>omega
theorem ziZ (its:List Value) (lo hi:Option Int):slicePick its.toArray lo hi none=((its.drop (HT.sIx its.length 0 lo)).take (HT.sIx its.length its.length hi - HT.sIx its.length 0 lo)).toArray:=by
 obtain⟨h1,h2,h3⟩:=zlp lo hi its.toArray.size;unfold slicePick;rw[h1,h2,h3];simp only[gL,gy,aU]<;>rfl
def zBZ (K:aj):V→Option Int→Option Int→Hp→VK→Prop:=λx lo hi H Q=>∃a xs,x= .ref a∧SqL K H a xs∧ ∀p,H p=none→Q (.ref p) (upd H p (.lst (zqc xs lo hi)))
theorem zrw:SlR X (zBZ X.K):=by
 intro pins s σ H x v vl vu lo hi sl Q I rx hs pl pu h;obtain⟨a,xs,rfl,hx,q⟩:=h;cases rx;obtain⟨its,r,ht,hz⟩:=I.list hx;have hlen:=r.length;refine⟨"list",_,kj.lookup,ht.isList.typeIs,?_⟩;refine wpAny_getItem_list_slice ht.isList hs pl pu .none (by simp) ?_ (by rw[aU]<;>omega);rw[ziZ,←hlen];refine⟨.ref s.heap.objs.size,_,I.laid (t':=s.toks) (o:= .lst (zqc xs lo hi)) (λb ob q=>aJ _ q) (ap _) ?_,rfl,q _ (I.hok.fresh (ap _))⟩;exact⟨a9 (zhj xs lo hi) hz,_,0,(r.drop (HT.sIx xs.length 0 lo)).take (HT.sIx xs.length xs.length hi - HT.sIx xs.length 0 lo),bt _ rfl⟩
theorem call_len_seq:CallR X (.builtin "len") (λxs H Q=>∃p ys,xs=[.ref p]∧(SqL X.K H p ys∨SqT X.K H p ys)∧Q (.int ys.length) H):=by
 intro pins s σ H xs us Q I r h;obtain⟨p,ys,rfl,hq,q⟩:=h;obtain⟨u,rfl,rx⟩:=zkF r;cases rx;have hn:=ziz;rcases hq with hq |hq
 ·obtain⟨its,r',pl,hz⟩:=I.list hq;have hlen:=r'.length;exact Calls.call_len_list pl.isList (by simp only[aU]<;>omega) ⟨.int ys.length,H,I.tok _,⟨s.toks+1,by rw[aU,hlen]⟩,q⟩
 ·obtain⟨its,r',pl,hz⟩:=I.tuple hq;have hlen:=r'.length;exact len_tuple pl (by simp only[aU]<;>omega) ⟨.int ys.length,H,I.tok _,⟨s.toks+1,by rw[aU,hlen]⟩,q⟩
theorem zli:CallR X (.builtin "len") (λxs H Q=>∃z,xs=[.str z]∧z.length≤sizeLine∧Q (.int z.length) H):=by
 intro pins s σ H xs us Q I r h;obtain⟨z,rfl,hz,q⟩:=h;obtain⟨u,rfl,t,rfl⟩:=zkF r;have hn:=ziz;exact len_str (by omega) ⟨.int z.length,H,I.tok _,⟨_,rfl⟩,q⟩
theorem CallR.or{f:Value}{r r':List V→Hp→VK→Prop}(h:CallR X f r) (h':CallR X f r'):CallR X f (λxs H Q=>r xs H Q∨r' xs H Q):=by
 intro pins s σ H xs us Q I rs q;rcases q with q |q
 ·exact h pins s σ H xs us Q I rs q
 ·exact h' pins s σ H xs us Q I rs q
theorem zky:CallR X (.type "list") (λxs H Q=>∃p ys,xs=[.ref p]∧(SqL X.K H p ys∨SqT X.K H p ys)∧ ∀l,H l=none→Q (.ref l) (upd H l (.lst ys))):=by
 intro pins s σ H xs us Q I r h;obtain⟨p,ys,rfl,hq,q⟩:=h;obtain⟨u,rfl,rx⟩:=zkF r;cases rx;have fin:∀(its:List Value),Vals ys its→ys.length≤sizeLine→ ∀(h':Heap) (c':Nat),(∀b o',s.heap.get? b=ae o'→h'.get? b=ae o')→
   h'.get? s.heap.objs.size=ae { cls:= .type "list",dict:=none,data:= .seq its.toArray c',slots:= #[] }→EP X pins σ Q (.ref s.heap.objs.size) { s with heap:=h' }:=λits r' hz h' c' kp e=>
  ⟨.ref s.heap.objs.size,_,I.laid (t':=s.toks) kp (ap _) (show ObjOk X.prog X.w _ h' _ (.lst ys) from⟨hz,its,c',r',e⟩),rfl,q _ (I.hok.fresh (ap _))⟩
 rcases hq with hq |hq
 ·obtain⟨its,r',pl,hz⟩:=I.list hq;have hlen:=r'.length;obtain⟨o,ho,hc,n,hd⟩:=pl.isList;exact call_list_seq p (.inl rfl) ho hc hd (λh' c' kp e=>fin its r' hz h' c' kp e) (by simp only[aU]<;>omega)
 ·obtain⟨its,r',pl,hz⟩:=I.tuple hq;have hlen:=r'.length;obtain⟨o,ho,hc,n,hd⟩:=pl;exact call_list_seq p (.inr rfl) ho hc hd (λh' c' kp e=>fin its r' hz h' c' kp e) (by simp only[aU]<;>omega)
theorem zfL:CallR X (.type "tuple") (λxs H Q=>∃p ys,xs=[.ref p]∧((SqL X.K H p ys∧ ∀l,H l=none→Q (.ref l) (upd H l (.tup ys)))∨(SqT X.K H p ys∧Q (.ref p) H))):=by
 intro pins s σ H xs us Q I r h;obtain⟨p,ys,rfl,h⟩:=h;obtain⟨u,rfl,rx⟩:=zkF r;cases rx;rcases h with⟨hq,q⟩ |⟨hq,q⟩
 ·obtain⟨its,r',pl,hz⟩:=I.list hq;have hlen:=r'.length;refine call_tuple_list pl.isList (λh' kp=>?_) (by simp only[aU]<;>omega);have I1:Inv X pins σ H { s with heap:=h' }:=I.kept (t':=s.toks) kp;have I2:Inv X pins σ (upd H h'.objs.size (.tup ys)) { s with heap:=h'.push { cls:= .type "tuple",data:= .seq its.toArray } }:=
   I1.laid (t':=s.toks) (λb o e=>aJ _ e) (ap _) (show ObjOk X.prog X.w _ _ _ (.tup ys) from⟨hz,its,r',gr _ _⟩)
  exact⟨.ref h'.objs.size,_,I2,rfl,q _ (I1.hok.fresh (ap _))⟩
 ·obtain⟨its,r',pl,hz⟩:=I.tuple hq;exact call_tuple_same pl ⟨.ref p,H,I,rfl,q⟩
def tyV (K:aj) (T:String) (x:V) (H:Hp):Prop:=match x with
 | .str _=>T= "str"
 | .int _=>T= "int"
 | .ref p=>(T= "list" ∧ ∃xs,SqL K H p xs)∨(T= "tuple" ∧ ∃o,K.lookup p=ae o∧o.cls= .type "tuple" ∧o.dict=none)∨
   (T= "dict" ∧((∃kvs,H p=ae (.dK kvs))∨ ∃kvs,H p=ae (.dT kvs)))∨(T= "set" ∧ ∃S n,H p=ae (.set S n))
 |_=>False
theorem ztW{pins:List (Addr×Obj)}{σ:St}{H:Hp}{s:ah}{T:String}{x:V}{v:Value}(I:Inv X pins σ H s) (r:RelV x v) (ty:tyV X.K T x H) :
  s.TypeIs v T∧ ∀a,v= .ref a→ ∃ob,s.heap.get? a=ae ob∧ob.dict=none:=by
 cases x with
 |str z=>
  obtain⟨t,rfl⟩:=r;cases(show T= "str" from ty);exact⟨iC s z t,λ_ e=>nomatch e⟩
 |int i=>
  obtain⟨t,rfl⟩:=r;cases(show T= "int" from ty);exact⟨hU s i t,λ_ e=>nomatch e⟩
 |ref p=>
  cases r;rcases ty with⟨rfl,xs,hq⟩ |⟨rfl,o,hk,hc,hd⟩ |⟨rfl,hk⟩ |⟨rfl,S,n,hk⟩
  ·obtain⟨its,_,pl,_⟩:=I.list hq;refine⟨pl.isList.typeIs,λa e=>?_⟩;cases e;obtain⟨o,n,e,c,hd,_⟩:=pl;exact⟨o,e,hd⟩
  ·refine⟨⟨o,I.kIn p o hk,hc⟩,λa e=>?_⟩;cases e;exact⟨o,I.kIn _ o hk,hd⟩
  ·have z:∃o,s.heap.get? p=ae o∧o.ExactDict:=by
    rcases hk with⟨kvs,hk⟩ |⟨kvs,hk⟩
    ·obtain⟨_,_,_,_,o,_,_,e,ex,_⟩:=I.hok p _ hk;exact⟨o,e,ex⟩
    ·obtain⟨_,_,_,_,o,_,_,e,ex,_⟩:=I.hok p _ hk;exact⟨o,e,ex⟩
   obtain⟨o,e,ex⟩:=z;refine⟨⟨o,e,ex.1⟩,λa e2=>?_⟩;cases e2;exact⟨o,e,ex.2.1⟩
  ·obtain⟨o,_,_,_,e,ex,_⟩:=I.hok p _ hk;refine⟨⟨o,e,ex.1⟩,λa e2=>?_⟩;cases e2;exact⟨o,e,ex.2.1⟩
 |_=>exact cB ty
noncomputable def zBT (K:aj) (T:String) (r:V→List V→Hp→VK→Prop) (to:TE):TE:=λσ H Q=>to σ H λx H1=>tyV K T x H1∧r x [] H1 Q
noncomputable def tBM (K:aj) (T:String) (r:V→List V→Hp→VK→Prop) (to:TE) (t:TA):TE:=λσ H Q=>to σ H λx H1=>tyV K T x H1∧t σ H1 λxs H2=>r x xs H2 Q
variable {o e:Expr}{es:List Expr}{to:TE}{t:TA}{name:Str}{apos cpos:aB}{T id:String}{r:V→List V→Hp→VK→Prop}
theorem zxF (pa:e_ T) (slot:Slot T name id) (hty:eT (.builtin id)=pure (.type "method_descriptor")) (hm:MtR X id r) (ho:PE X o to)
  (hbase:cT o name X.env (az o X.env)=az o X.env:=by rfl) (hline:(apos.endLine == cpos.line)=true:=by rfl):PE X (.Call (.Attribute o name apos) [] [] cpos) (zBT X.K T r to):=by
 intro pins s σ H Q I h;refine wpAny_Call_method0_late hbase hline (thn (ho pins s σ H _ I h) λv s1 ⟨x,H1,I1,r1,ty,q1⟩=>?_);obtain⟨h1,h2⟩:=ztW I1 r1 ty;exact⟨T,id,pa,slot,hty,h1,h2,g_ rfl (PySem.evalArgs_none (hm pins s1 σ H1 x [] v [] Q I1 r1 .nil q1))⟩
theorem zxk (pa:e_ T) (slot:Slot T name id) (hty:eT (.builtin id)=pure (.type "method_descriptor")) (hm:MtR X id r) (ho:PE X o to) (ha:PA X (e::es) t)
  (hbase:cT o name X.env (az o X.env)=az o X.env:=by rfl)
  (hfew:((aT cpos (ao (e::es) X.env)).all (λx=> !x.1)&&(dG cpos (dR [] X.env)).all (λx=>x.1.isSome)
   &&decide ((e::es).length+([]:List bU).length+(if([]:List bU).isEmpty then 0 else 1)<30))=true:=by rfl)
  (hline:(apos.endLine == cpos.line)=true:=by rfl) (hs:ao (e::es) X.env=(false,az e X.env)::ao es X.env:=by rfl) (hplain:(aT cpos (ao es X.env)).any (·.1)=false:=by rfl) :
  PE X (.Call (.Attribute o name apos) (e::es) [] cpos) (tBM X.K T r to t):=by
 intro pins s σ H Q I h;refine wpAny_Call_method_late hbase hfew hline rfl (thn (ho pins s σ H _ I h) λv s1 ⟨x,H1,I1,r1,ty,q1⟩=>?_);obtain⟨h1,h2⟩:=ztW I1 r1 ty;refine⟨T,id,pa,slot,hty,h1,h2,?_⟩;have hA:=ha cpos pins s1 σ H1 _ I1 q1;rw[hs]at hA⊢;refine g_ (by show(false || (aT cpos (ao es X.env)).any (·.1))=false;rw[hplain]<;>rfl) (gO ?_)
 exact thn hA λus s2 ⟨vs,H2,I2,r2,q2⟩=>hm pins s2 σ H2 x vs v us Q I2 r1 r2 q2
end
def MtM (X:Cx) (id:String) (r:V→List V→Hp→VK→Prop):Prop:=
 ∀(pins:List (Addr×Obj)) (s:ah) (σ:St) (H:Hp) (x:V) (xs:List V) (v:Value) (us:List Value) (Q:VK),Inv X pins σ H s→RelV x v→Vals xs us→r x xs H Q→
  am (aq X.prog X.w) X.A (call (.builtin id) (v::us)) (EP X pins σ Q) X.xe s
theorem Vals.one:∀{x:V}{us:List Value},Vals [x] us→ ∃u,us=[u]∧RelV x u
 |_,_, .cons r .nil=>⟨_,rfl,r⟩
theorem Vals.rep{xs:List V}{us:List Value}(h:Vals xs us):∀k:Nat,Vals (aN k xs).flatten (aN k us).flatten
 |0=> .nil
 |k+1=>by
  rw[cb,cb,dJ,dJ];exact Vals.append h (Vals.rep h k)
theorem zjS (its:List Value):∀(k:Nat) (acc:List Value),
  gW (λx1 x2=>x1++x2) acc.toArray (aN k its.toArray)=(acc++(aN k its).flatten).toArray
 |0,acc=>by simp
 |k+1,acc=>by
  have e:acc.toArray++its.toArray=(acc++its).toArray:=by simp
  have e2:(acc++its)++(aN k its).flatten=acc++(aN (k+1) its).flatten:=by
   rw[cb,dJ,bL]
  rw[←e2,←zjS its k (acc++its),←e,cb,dY]
section
variable {X:Cx}{pins:List (Addr×Obj)}{σ:St}{H:Hp}{s:ah}{l:Addr}{xs ys:List V}
theorem Inv.lset{its its':List Value}{n:Nat}{f:Array Value→Array Value}{t':Nat}(I:Inv X pins σ H s) (hH:H l=ae (.lst xs))
  (e:s.heap.get? l=ae { cls:= .type "list",data:= .seq its.toArray n }) (hf:f its.toArray=its'.toArray) (hv:Vals ys its') (hz:ys.length≤sizeLine) :
  Inv X pins σ (upd H l (.lst ys)) { s with heap:=s.heap.update l (i' f),toks:=t' }:=by
 have q:=PySem.IsL.update e f;rw[hf]at q;refine I.write (x:=l) (e:=l) (by rw[hH];exact trivial) (.inl rfl) (λb' u hb hu=>(Heap.get?_update_other s.heap (i' f) (bu hb)).trans hu) ⟨_,q⟩ ?_;exact⟨hz,its',_,hv,q⟩
theorem Inv.lnew{its:List Value}{t':Nat}(I:Inv X pins σ H s) (hv:Vals ys its) (hz:ys.length≤sizeLine) :
  Inv X pins σ (upd H s.heap.objs.size (.lst ys)) { s with heap:=s.heap.push { cls:= .type "list",data:= .seq its.toArray },toks:=t' }:=
 I.laid (λ_ _ q=>aJ _ q) (ap _) ⟨hz,its,0,hv,bt _ rfl⟩
theorem Inv.fresh (I:Inv X pins σ H s):H s.heap.objs.size=none:=I.hok.fresh (ap _)
theorem Inv.lstM (I:Inv X pins σ H s) (hH:H l=ae (.lst xs)):xs.length≤sizeLine∧ ∃(its:List Value) (n:Nat),Vals xs its∧xs.length=its.length∧s.heap.get? l=ae { cls:= .type "list",data:= .seq its.toArray n }:=by
 obtain⟨z,its,n,r,e⟩:=I.hok l _ hH;exact⟨z,its,n,r,r.length,e⟩
theorem ziT{n:Nat}(h:n≤sizeLine):er n=false:=by
 unfold er;exact decide_eq_false (by omega)
end
section
variable {X:Cx}
def zrK:V→List V→Hp→VK→Prop:=λx vs H Q=>∃l xs y,x= .ref l∧vs=[y]∧H l=ae (.lst xs)∧xs.length<sizeLine∧Q .non (upd H l (.lst (xs++[y])))
theorem zlj:MtM X "list.append" zrK:=by
 intro pins s σ H x vs v us Q I rx rv h;obtain⟨l,xs,y,rfl,rfl,hH,hz,q⟩:=h;cases rx;obtain⟨u,rfl,ru⟩:=rv.one;obtain⟨z,its,n,r,hl,e⟩:=I.lstM hH;refine eA F.slot_list_append ⟨_,e,rfl⟩ F.entry_list_append (F.args_list_append_2 _ _) (PySem.list_append l its.toArray n u (by rw[aU];omega)) ⟨e,?_⟩;refine⟨.non,_,I.lset (its':=its++[u]) hH e (by simp) (r.append (.cons ru .nil)) ?_,rfl,q⟩;rw[aM,bF];omega
def zqN:V→List V→Hp→VK→Prop:=λx vs H Q=>∃l b xs zs,x= .ref l∧vs=[.ref b]∧H l=ae (.lst xs)∧H b=ae (.lst zs)∧xs.length+zs.length≤sizeLine∧Q .non (upd H l (.lst (xs++zs)))
theorem zqS:MtM X "list.extend" zqN:=by
 intro pins s σ H x vs v us Q I rx rv h;obtain⟨l,b,xs,zs,rfl,rfl,hH,hB,hz,q⟩:=h;cases rx;obtain⟨u,rfl,ru⟩:=rv.one;cases ru;obtain⟨z,its,n,r,hl,e⟩:=I.lstM hH;obtain⟨z2,its2,n2,r2,hl2,e2⟩:=I.lstM hB;have hsz:its.toArray.size+its2.toArray.size≤sizeLine:=by rw[aU,aU];omega
 have hlong:¬(!its.toArray.isEmpty&&er (its.toArray.size+its2.toArray.size))=true:=by
  rw[ziT hsz,fM];exact c8
 refine eA jL ⟨_,e,rfl⟩ iW (iX _ _)
  (AutoSeq1.list_extend_list_list_0 l its.toArray n b its2.toArray n2 hlong (by rw[aU];omega) (by omega)) ⟨e,e2,?_⟩
 refine⟨.non,_,I.lset (its':=its++its2) hH e (by simp) (r.append r2) ?_,rfl,q⟩;rw[aM];omega
noncomputable def zAQ:R2:=λx y H Q=>∃l b xs zs,x= .ref l∧y= .ref b∧H l=ae (.lst xs)∧H b=ae (.lst zs)∧xs.length+zs.length≤sizeLine∧ ∀p,H p=none→Q (.ref p) (upd H p (.lst (xs++zs)))
theorem znf:OpR X (bQ .Add) zAQ:=by
 intro pins s σ H x y v u Q I rx ry h;obtain⟨l,b,xs,zs,rfl,rfl,hH,hB,hz,q⟩:=h;cases rx;cases ry;obtain⟨z,its,n,r,hl,e⟩:=I.lstM hH;obtain⟨z2,its2,n2,r2,hl2,e2⟩:=I.lstM hB;refine PySem.P.add_list e e2 ?_ (by rw[aU,aU];omega);have ea:its.toArray++its2.toArray=(its++its2).toArray:=by simp
 rw[ea];exact⟨.ref _,_,I.lnew (t':=s.toks) (r.append r2) (by rw[aM];omega),rfl,q _ I.fresh⟩
noncomputable def zBR:R2:=λx y H Q=>∃l k xs,x= .ref l∧y= .int k∧H l=ae (.lst xs)∧ -(2 ^ 63)≤k∧k<2 ^ 63∧xs.length*k.toNat≤sizeLine∧
 ∀p,H p=none→Q (.ref p) (upd H p (.lst (aN k.toNat xs).flatten))
theorem zvG{α:Type}(xs:List α) (k:Nat):(aN k xs).flatten.length=k*xs.length:=by
 induction k with
 |zero=>simp
 |succ k ih=>rw[cb,dJ,aM,ih,Nat.succ_mul,dP]
theorem zzh:OpR X (bQ .Mult) zBR:=by
 intro pins s σ H x y v u Q I rx ry h;obtain⟨l,k,xs,rfl,rfl,hH,h1,h2,hz,q⟩:=h;cases rx;obtain⟨t,rfl⟩:=ry;obtain⟨z,its,n,r,hl,e⟩:=I.lstM hH;have hlen:its.toArray.size*k.toNat≤sizeLine:=by rw[aU,←hl];exact hz
 have hcap:¬its.toArray.size*k.toNat > (2 ^ 63 - 1) / 8:=by
  have:(sizeLine:Nat)≤(2 ^ 63 - 1) / 8:=by decide
  omega
 have hfit:¬(!Builtin.List.listFitsIndex k)=true:=by
  rw[fitsIndex_both h1 h2];exact c8
 have hlong:¬er (its.toArray.size*k.toNat)=true:=by
  rw[ziT hlen];exact c8
 have hnew:gW (λx1 x2=>x1++x2) #[] (aN (if its.toArray.isEmpty=true then 0 else k.toNat) its.toArray)=(aN k.toNat its).flatten.toArray:=by
  have f0:∀m:Nat,gW (λx1 x2=>x1++x2) #[] (aN m its.toArray)=(aN m its).flatten.toArray:=λm=>by
   have:=zjS its m [];rw[aY]at this;exact this
  rw[f0];cases its with
  |nil=>simp
  |cons a r'=>rw[if_neg (by simp)]
 refine wpAny_binaryOp_repeat_ref (T:= "list") (U:= "int") (by decide) ⟨_,e,rfl⟩ (λs'=>hU s' k t) noFill_list_mul F.fills_int_mul kI repeat_list F.slot_int_index.lookup
  (eA kI (hU s k t) F.entry_int_rmul (F.args_int_rmul_2 _ _) (int___rmul___int_list k t l its.toArray n)
   ⟨e,rfl,⟨_,e,rfl⟩,eA F.slot_list_mul ⟨_,e,rfl⟩ F.entry_list_mul (F.args_list_mul_2 _ _) (AutoListH.list___mul___list_int_3 l its.toArray n k t hfit hcap hlong) ⟨e,?_⟩⟩)
 rw[hnew];exact⟨.ref _,_,I.lnew (t':=s.toks) (r.rep k.toNat) (by rw[zvG,Nat.mul_comm];exact hz),rfl,q _ I.fresh⟩
end
end L2
namespace Att
open PySem PySem.W PySem.Calls PyProof.Rows
theorem zhQ{P:fL}{h:Heap}:∀(ns:List Int) (vs:List Value),WellAll P h vs (ns.map WData.int)→eR vs ns:=by
 intro ns
 induction ns with
 |nil=>
  intro vs w;rw[cm]at w;cases w;exact .nil
 |cons n ns ih=>
  intro vs w;rw[ay]at w;cases w with
  |cons a b=>
   cases a;exact .cons _ _ (ih _ b)
theorem zrj{l:OpenLaw}{n:Nat}(hn:l.most=ae n) {P:fL}{h:Heap}{args:List WData}{vals:List Value}
  (hpre:l.row.toRowW.claim.pre args=true) (hwl:WellAll P h vals args) :
  ∃a vs ns,vals=[bc a]∧args=[WData.list (ns.map WData.int)]∧h.get? a=ae { cls:= .type "list",data:= .seq vs.toArray }∧eR vs ns∧ns.length≤n:=by
 have hsh:WShape.hasAll [] args [.list .int]=true:=(pre_splitW hpre).1;have hc:l.pre.holds [] { args:=args }=true:=(pre_splitW hpre).2;obtain⟨d,r,rfl,h1,h2⟩:=hasAllW_cons hsh;obtain rfl:=hasAllW_nil h2;obtain⟨xs,rfl,h3⟩:=hasW_list h1;obtain⟨ns,rfl⟩:=items_int h3;have hlen:ns.length≤n:=by
  unfold OpenLaw.pre at hc;have h4:(WTm.not (.lt (.lit (.int (n:Int))) (.len (.arg 0)))).holds [] { args:=[.list (ns.map .int)] }=true:=by
   have h4:=(holds_andW hc).1;rw[hn]at h4;exact h4
  have h5:=condW_of h4 (w_not (w_lt w_lit (w_len_list (w_arg rfl))));rw[ax]at h5;refine i_ λq=>?_;have q':(n:Int)<((ns.length:Nat):Int):=by omega
  first
   | (rw[decide_eq_true q']at h5;exact absurd h5 (by decide))
   | (simp at h5;omega)
 cases hwl with
 |cons w1 w2=>
  cases w2;cases w1 with
  |list ho hall=>exact⟨_,_,ns,rfl,rfl,ho,zhQ ns _ hall,hlen⟩
theorem zqJ (l:OpenLaw) (args:List WData):l.row.toRowW.claim.post args (.bool true) args=true:=
 postW_of (r:=l.row.toRowW) (X:=(true == true))
  (show WShape.has [] (.bool true) .bool=true by first |rfl |decide |simp [WShape.has,WShape.arms,WShape.armsAll])
  (show(WTm.eq .res (.lit (.bool true))).value [] { args:=args,res:=ae (.bool true),after:=args }=ae (.bool (true == true)) from w_eq_bool (w_res rfl) w_lit) rfl
theorem attach_call{l:OpenLaw}{n:Nat}{q:aE}{loose:List Str}{XP:(Str→Option Value)→Heap→Prop}{YP:aC→Heap→Prop}{d:DefRec}
  (hn:l.most=ae n) (hdf:d.params.defaults=[])
  (call:∀(w:aC) (s₀ s₁:ah) (mg mb:Str→Option Value) (fa:Addr) (o:Obj) (pm cd doc:Value) (a:Addr) (vs:List Value) (ns:List Int),
   Ground q loose [] XP w s₀ mg mb s₁.heap→YP w s₁.heap→
   s₁.heap.get? fa=ae o→o.data= .func (docDef d.name d.params d.body d.scope pm cd doc)→s₁.heap.CodeRec cd d.name→mg d.name=ae (.ref fa)→
   s₁.heap.get? a=ae { cls:= .type "list",data:= .seq vs.toArray }→eR vs ns→ns.length≤n→s₁.gens= #[]→
   dN (aq l.prog w) dM (.call (.ref fa) ⟨[.ref a],[]⟩) (λr s'=>r= .ok (.ret (.bool true))∧OldK s₁.heap s'.heap∧s'.os=s₁.os∧ce s'.gens) s₁) :
  WalkO q loose XP YP l.row.toRowW d [] (λf vs=>gu f vs):=by
 intro w s₀ s₁ mg mb G Y fa o pm cd doc dV kV ho hd hcd hD hmg hg args vals as hpre hlay hrd hwl hlo;obtain rfl:dV= .none:=Dflts.none hD hdf;obtain rfl:kV= .none:=Dflts.noKw hD;obtain⟨a,vs,ns,rfl,rfl,hobj,hints,hlen⟩:=zrj hn hpre hwl;refine enter_call (iR (call w s₀ s₁ mg mb fa o pm cd doc a vs ns G Y ho (fd_plain hd) hcd hmg hobj hints hlen hg) λr s' hq=>?_);obtain⟨rfl,h2,h3,h4⟩:=hq;exact⟨.inl ⟨.bool true, .bool true,[],rfl,λ_=>rfl, .bool true,zqJ l _,λ_=>⟨List.Pairwise.nil,λ_ hm=>(nomatch hm)⟩⟩,h2,h3,h4⟩
end Att
namespace L2
open PySem PySem.Spec PyProof.Rows
theorem zkC:∀{vs:List Value}{ns:List Int},eR vs ns→Vals (ns.map V.int) vs
 |_,_, .nil=> .nil
 |_,_, .cons n t h=> .cons ⟨t,rfl⟩ (zkC h)
def zzw (H:Hp):Prop:=∀b,H b=none∨ ∃o xs,H b=ae (.frz o (.lst xs))
theorem zsW{P:aE}{w:aC}{K:aj}{mg mb:Str→Option Value}{CX:CXT}{k:Nat}{fa a:Addr}{fd:bG}{x:Str}{sp:Sp}{s₁:ah}{vs:List Value}{ns:List Int}
  (KX:K.In s₁.heap) (hns:s₁.heap.Ns aL mg) (hb:s₁.heap.Ns gq mb) (hbb:∀x:Str,x≠ "__name__" →mb x=bV x) (hlim:s₁.heap.NoLimit) (hg:s₁.gens= #[])
  (ha:s₁.heap.get? a=ae { cls:= .type "list",data:= .seq vs.toArray }) (hi:eR vs ns) (hl:ns.length≤sizeLine) (hr:Room k dM)
  (F:∀base:Heap,K.In base→base.Ns aL mg→FnOk P w K mg base CX k fa fd [x] sp) (hbind:∀(s:ah) (u:Value),d5 s fd ⟨[u],[]⟩ [(x,u)])
  (hsp:∀H:Hp,zzw H→SqL K H a (ns.map V.int)→sp [.ref a] H (λv _=>v= .bl true) λ_ _ _=>False)
  (hCX:∀H e s',CX [] H s₁ (λ_ _ _=>False) e s'→False) :
  dN (aq P w) dM (.call (.ref fa) ⟨[.ref a],[]⟩) (λr s'=>r= .ok (.ret (.bool true))∧OldK s₁.heap s'.heap∧s'.os=s₁.os∧ce s'.gens) s₁:=by
 have rv:=zkC hi;have lenV:=hi.length;have core:∀H:Hp,zzw H→SqL K H a (ns.map V.int)→HOk P w H s₁.heap→(∀b,H b≠none→b=a)→(H a≠none→K.lookup a=none)→
   dN (aq P w) dM (.call (.ref fa) ⟨[.ref a],[]⟩) (λr s'=>r= .ok (.ret (.bool true))∧OldK s₁.heap s'.heap∧s'.os=s₁.os∧ce s'.gens) s₁:=by
  intro H hO hS hok hA hK;have base_of:∀{b:Addr}{o:Obj},s₁.heap.get? b=ae o→H b=none→(zso s₁.heap H).get? b=ae o:=λe n=>zts e n;have noA:∀{b:Addr}{o:Obj}{es:Array DictEntry}{ep:Nat},s₁.heap.get? b=ae o→o.data= .dict es ep→H b=none:=λ{b o es ep} e d=>by
   cases q:H b with
   |none=>rfl
   |some u=>
    have e':b=a:=hA b (by rw[q];simp);subst e';rw[ha]at e;cases e;have d':Data.seq vs.toArray _=Data.dict es ep:=d;cases d'
  have nsK:∀{b:Addr}{m:Str→Option Value},s₁.heap.Ns b m→(zso s₁.heap H).Ns b m:=λ{b m} ⟨o,es,ep,e,d,r⟩=>⟨o,es,ep,base_of e (noA e d),d,r⟩;have hKb:K.In (zso s₁.heap H):=λb o e=>base_of (KX b o e) (by
   cases q:H b with
   |none=>rfl
   |some u=>
    have e':b=a:=hA b (by rw[q];simp);subst e';rw[hK (by rw[q];simp)]at e;cases e)
  have hM:Mod K mg (zso s₁.heap H):=⟨hKb,nsK hns,⟨mb,nsK hb,hbb⟩,let ⟨mc,h1,h2⟩:=hlim;⟨mc,nsK h1,h2⟩⟩;have e0:Env0 P w K mg (zso s₁.heap H) dM [] s₁ H:=⟨rfl,hM,λb o e=>zvg e,cP (zpb _ _),trivial,λb hb=>absurd (show b∈([]:List Addr) from hb) (by simp),hok, .of_eq hg⟩;refine iR ((F _ hKb (nsK hns)).run dM [] s₁ H ⟨[.ref a],[]⟩ [.ref a] [.ref a] _ _ hr e0 (hbind s₁ (.ref a)) (.cons rfl .nil) (hsp H hO hS)) λr s' h=>?_;cases r with
  |error e=>exact(hCX H e s' h).elim
  |ok fl=>
   cases fl with
   |next=>exact cB h
   |brk=>exact cB h
   |cont=>exact cB h
   |ret u=>
    obtain⟨v,H',os,bare,un,hok',r',q⟩:=h;have q':v= .bl true:=q;subst q';obtain rfl:u=d7 true:=r';refine⟨rfl,OldK.of_keep λb o e=>?_,os,bare⟩;cases q:H b with
    |none=>exact un.keep b o e q (by intro z;exact absurd (show b∈([]:List Addr) from z) (by simp)) (by simp)
    |some u=>
     rcases hO b with z |⟨ob,xs,z⟩
     ·rw[q]at z;cases z
     ·have z2:=un.frzs b ob _ z;obtain⟨e1,_⟩:=hok b _ z;obtain⟨e2,_⟩:=hok' b _ z2;rw[e]at e1;cases e1;exact e2
 cases hk:K.lookup a with
 |some o=>
  have e:=KX a o hk;rw[ha]at e;cases e;refine core (λ_=>none) (λ_=> .inl rfl) (.inr ⟨_,vs.toArray,_,hk,rfl,rfl,rfl,by rw[aU,lenV];exact hl,by simpa using rv⟩) (λb u z=>by have z':(none:Option HO)=ae u:=z;cases z') (λb z=>absurd rfl z) λz=>absurd rfl z
 |none=>
  refine core (λb=>if b=a then ae (.frz { cls:= .type "list",data:= .seq vs.toArray } (.lst (ns.map V.int))) else none) (λb=>?_) (.inl (.inr ⟨{ cls:= .type "list",data:= .seq vs.toArray },if_pos rfl⟩)) (λb u z=>?_) (λb z=>?_) λ_=>hk
  ·by_cases hb:b=a
   ·exact .inr ⟨_,_,if_pos hb⟩
   ·exact .inl (if_neg hb)
  ·by_cases hb:b=a
   ·have z':=(if_pos hb).symm.trans z;cases z';subst hb;exact⟨ha,by rw[ax];exact hl,vs,_,rv,ha⟩
   ·have z':=(if_neg hb).symm.trans z;cases z'
  ·by_cases hb:b=a
   ·exact hb
   ·exact absurd (if_neg hb) z
theorem zvP{l:iz}{n k:Nat}{q:aE}{loose:List Str}{XP:(Str→Option Value)→Heap→Prop}{YP:aC→Heap→Prop}{d:DefRec}{K:fL→aj}{CX:aC→CXT}{sp:aC→Sp}{x:Str}
  (hn:l.most=ae n) (hn2:n≤sizeLine) (hdf:d.params.defaults=[]) (hr:Room k dM)
  (hY:∀(w:aC) (h:Heap),YP w h→(K w.params).In h)
  (F:∀(w:aC) (mg:Str→Option Value) (fa:Addr) (h:Heap),(K w.params).In h→h.Ns aL mg→mg d.name=ae (.ref fa)→
   ∃fd:bG,(∀(s:ah) (u:Value),d5 s fd ⟨[u],[]⟩ [(x,u)])∧
    ∀base:Heap,(K w.params).In base→base.Ns aL mg→FnOk l.prog w (K w.params) mg base (CX w) k fa fd [x] (sp w))
  (hsp:∀(w:aC) (H:Hp) (a:Addr) (ns:List Int),ns.length≤n→zzw H→SqL (K w.params) H a (ns.map V.int)→sp w [.ref a] H (λv _=>v= .bl true) λ_ _ _=>False)
  (hCX:∀(w:aC) (H:Hp) (s:ah) (e:Value) (s':ah),CX w [] H s (λ_ _ _=>False) e s'→False) :
  kw q loose XP YP l.row.toRowW d [] (λf vs=>gu f vs):=by
 refine Att.attach_call hn hdf λw s₀ s₁ mg mb fa o pm cd doc a vs ns G Y ho hd hcd hmg hobj hints hlen hg=>?_;have KX:=hY w _ Y;obtain⟨fd,hb,hF⟩:=F w mg fa _ KX G.T.g hmg;exact zsW KX G.T.g G.T.b G.T.builtins G.T.nolimit hg hobj hints (a9 hlen hn2) hr hF hb (λH hO hS=>hsp w H a ns hlen hO hS) λH e s'=>hCX w H s₁ e s'
noncomputable def zgZ (s:Stmt):Arguments:=match s with
 | .FunctionDef _ a _ _ _ _ _ _ _ _=>a
 |_=>{ posonlyargs:=[],args:=[],vararg:=none,kwonlyargs:=[],kw_defaults:=[],kwarg:=none,defaults:=[] }
noncomputable def zfZ (s:Stmt):List Stmt:=match s with
 | .FunctionDef _ _ b _ _ _ _ _ _ _=>b
 |_=>[]
noncomputable def zak (s:Stmt):Scope:=match s with
 | .FunctionDef _ _ _ _ _ _ sc _ _ _=>sc
 |_=>{ kind:= .function,names:=[],isGenerator:=false,isCoroutine:=false }
structure Fun (K:aj) (x qual:Str) (st:Stmt) (f:Addr) (fd:bG):Prop where
  ex:∃(oc:Value) (od:Option Addr) (kV doc pm:Value) (an:Option Addr) (cdv ct:Value) (osl:Array (Option Value)),
    fd=dH x qual (zgZ st) (zfZ st) (zak st) .none kV doc pm an cdv ct∧K.lookup f=ae ⟨oc,od, .func fd,osl⟩∧gg K cdv qual=true
  kp:eW K (.ref f)=true
section
variable {K:aj}
theorem Fun.binds{x qual:Str}{st:Stmt}{f:Addr}{fd:bG}{ps:List Str}(F:Fun K x qual st f fd)
  (h:∀(kV doc pm:Value) (an:Option Addr) (cdv ct:Value) (us:List Value),us.length=ps.length→bindArgs (dH x qual (zgZ st) (zfZ st) (zak st) .none kV doc pm an cdv ct) ⟨us,[]⟩=pure (ps.zip us)):Binds K fd ps []:=by
 obtain⟨oc,od,kV,doc,pm,an,cdv,ct,osl,rfl,lk,hcd⟩:=F.ex;exact .all (h kV doc pm an cdv ct)
theorem zxa{x qual:Str}{st:Stmt}{f:Addr}{oc:Value}{od an:Option Addr}{osl:Array (Option Value)}{kV doc pm cdv ct:Value}(l:K.lookup f=ae ⟨oc,od, .func (dH x qual (zgZ st) (zfZ st) (zak st) .none kV doc pm an cdv ct),osl⟩)
  (c:gg K cdv qual=true) (k:eW K (.ref f)=true):Fun K x qual st f (dH x qual (zgZ st) (zfZ st) (zak st) .none kV doc pm an cdv ct):=⟨⟨oc,od,kV,doc,pm,an,cdv,ct,osl,rfl,l,c⟩,k⟩
end
theorem zBE{A B:Prop}(h:B):if false=true then A else B:=by
 rw[if_neg c8];exact h
theorem zBw{A B:Prop}(h:A):if true=true then A else B:=by
 rw[if_pos rfl];exact h
def Same (H H':Hp):Prop:=∀b o,H b=ae o→H' b=ae o
theorem Same.trans{H H1 H2:Hp}(a:Same H H1) (b:Same H1 H2):Same H H2:=λc o h=>b c o (a c o h)
section
variable {κ:Type} [DecidableEq κ]
noncomputable def zjF (kvs:List (κ×V)) (k:κ):Option V:=(kvs.find? λkv=>decide (kv.1=k)).map (·.2)
noncomputable def zhY (kvs:List (κ×V)) (k:κ) (v:V):List (κ×V):=
 if(kvs.any λkv=>decide (kv.1=k))=true then kvs.map (λkv=>if kv.1=k then(kv.1,v) else kv) else kvs++[(k,v)]
theorem zfm{p:κ×V}{r:List (κ×V)}{k:κ}(e:p.1=k):zjF (p::r) k=ae p.2:=by simp [zjF,bM,e]
theorem zfQ{p:κ×V}{r:List (κ×V)}{k:κ}(e:¬p.1=k):zjF (p::r) k=zjF r k:=by simp [zjF,bM,e]
theorem zmJ (k:κ):∀kvs:List (κ×V),(kvs.any λkv=>decide (kv.1=k))=(zjF kvs k).isSome
 | []=>rfl
 |p::r=>by
  rw[cU];by_cases e:p.1=k
  ·simp only[zfm e,decide_eq_true e,Bool.true_or,Option.isSome_some]
  ·rw[zfQ e,decide_eq_false e,jx];exact zmJ k r
theorem zfe (kvs:List (κ×V)) (k:κ) (v:V):(zhY kvs k v).length≤kvs.length+1:=by
 unfold zhY;split
 ·rw[ax];omega
 ·rw[aM,aO,c5];omega
theorem RelO.isSome_eq{o:Option V}{u:Option Value}(r:RelO o u):o.isSome=u.isSome:=by
 cases o with
 |none=>cases u with
  |none=>rfl
  |some _=>exact(show False from r).elim
 |some _=>cases u with
  |none=>exact(show False from r).elim
  |some _=>rfl
theorem RelO.getD{o:Option V}{u:Option Value}{d:V}{d':Value}(r:RelO o u) (rd:RelV d d'):RelV (o.getD d) (u.getD d'):=by
 cases o with
 |none=>cases u with
  |none=>exact rd
  |some _=>exact(show False from r).elim
 |some _=>cases u with
  |none=>exact(show False from r).elim
  |some _=>exact r
theorem KV.val{kvs:List (κ×V)}{vs:List (κ×Value)}(r:KV kvs vs) (k:κ):RelO (zjF kvs k) (eg vs k):=by
 unfold KV at r
 induction r with
 |nil=>exact c9
 | @cons p q ps qs h t ih=>
  obtain⟨h1,h2⟩:=h;by_cases e:p.1=k
  ·have e':q.1=k:=h1.symm.trans e;have b:eg (q::qs) k=ae q.2:=by simp [eg,bM,e']
   rw[zfm e,b];exact h2
  ·have e':¬q.1=k:=λz=>e (h1.trans z);have b:eg (q::qs) k=eg qs k:=by simp [eg,bM,e']
   rw[zfQ e,b];exact ih
theorem KV.any{kvs:List (κ×V)}{vs:List (κ×Value)}(r:KV kvs vs) (k:κ):(kvs.any λkv=>decide (kv.1=k))=vs.any λkv=>decide (kv.1=k):=by
 unfold KV at r
 induction r with
 |nil=>rfl
 |cons h t ih=>rw[cU,cU,ih,h.1]
theorem KV.repl{kvs:List (κ×V)}{vs:List (κ×Value)}(r:KV kvs vs) (k:κ) {y:V}{u:Value}(ry:RelV y u) :
  KV (kvs.map λkv=>if kv.1=k then(kv.1,y) else kv) (vs.map λkv=>if kv.1=k then(kv.1,u) else kv):=by
 unfold KV at r⊢
 induction r with
 |nil=>exact .nil
 | @cons p q ps qs h t ih=>
  rw[ay,ay];refine .cons ?_ ih;obtain⟨h1,h2⟩:=h;by_cases e:p.1=k
  ·rw[if_pos e,if_pos (h1.symm.trans e)];exact⟨h1,ry⟩
  ·rw[if_neg e,if_neg (λz=>e (h1.trans z))];exact⟨h1,h2⟩
theorem KV.put{kvs:List (κ×V)}{vs:List (κ×Value)}(r:KV kvs vs) (k:κ) {y:V}{u:Value}(ry:RelV y u):KV (zhY kvs k y) (stored vs k u):=by
 unfold zhY stored;rw[r.any k];by_cases e:(vs.any λkv=>decide (kv.1=k))=true
 ·rw[if_pos e,if_pos e];exact r.repl k ry
 ·rw[if_neg e,if_neg e];exact aP.snoc r ⟨rfl,ry⟩
theorem KV.length{kvs:List (κ×V)}{vs:List (κ×Value)}(r:KV kvs vs):kvs.length=vs.length:=dD r
end
theorem zsE{P:aE}{w:aC}{k:Key}{u:Value}(r:RelV (kV k) u):(zbd P w).is k u=true:=by
 cases k with
 |inl i=>obtain⟨t,e⟩:=(show ∃t,u=fE i t from r);subst e;exact zlQ P w i t
 |inr x=>obtain⟨t,e⟩:=(show ∃t,u=fe x t from r);subst e;exact zmv P w x t
theorem zkG{P:aE}{w:aC}:∀{ks:List Key}{us:List Value},Vals (ks.map kV) us→ItemsAre (zbd P w) ks us
 | [],_,r=>by rw[cm]at r;cases r;exact .nil
 |k::ks,_,r=>by
  rw[ay]at r;cases r with
  |cons h t=>exact .cons (zsE h) (zkG t)
noncomputable abbrev KT (H:Hp):List (List Key×V)→List (List Key×Addr×Value)→Prop:=aP λp q=>p.1=q.1∧H q.2.1=ae (.tup (p.1.map kV))∧RelV p.2 q.2.2
theorem KT.val{H:Hp}{kvs:List (List Key×V)}{xs:List (List Key×Addr×Value)}(r:KT H kvs xs) (k:List Key):RelO (zjF kvs k) ((de xs k).map (·.2)):=by
 induction r with
 |nil=>exact c9
 | @cons p q ps qs h t ih=>
  obtain⟨h1,_,h2⟩:=h;by_cases e:p.1=k
  ·have e':q.1=k:=h1.symm.trans e;have b:de (q::qs) k=ae q.2:=by simp [de,bM,e']
   rw[zfm e,b];exact h2
  ·have e':¬q.1=k:=λz=>e (h1.trans z);have b:de (q::qs) k=de qs k:=by simp [de,bM,e']
   rw[zfQ e,b];exact ih
theorem KT.repl{H:Hp}{kvs:List (List Key×V)}{xs:List (List Key×Addr×Value)}(r:KT H kvs xs) (k:List Key) {y:V}{u:Value}(ry:RelV y u) :
  KT H (kvs.map λkv=>if kv.1=k then(kv.1,y) else kv) (xs.map (putAt k u)):=by
 induction r with
 |nil=>exact .nil
 | @cons p q ps qs h t ih=>
  rw[ay,ay];refine .cons ?_ ih;obtain⟨h1,h2,h3⟩:=h;unfold putAt;by_cases e:p.1=k
  ·rw[if_pos e,if_pos (h1.symm.trans e)];exact⟨h1,h2,ry⟩
  ·rw[if_neg e,if_neg (λz=>e (h1.trans z))];exact⟨h1,h2,h3⟩
theorem KT.put{H:Hp}{kvs:List (List Key×V)}{xs:List (List Key×Addr×Value)}(r:KT H kvs xs) (k:List Key) {b:Addr}{y:V}{u:Value}(hb:H b=ae (.tup (k.map kV))) (ry:RelV y u) :
  KT H (zhY kvs k y) (fu xs k b u):=by
 have e:(kvs.any λkv=>decide (kv.1=k))=(de xs k).isSome:=by
  rw[zmJ,(r.val k).isSome_eq,ie]
 unfold zhY fu;rw[e];by_cases q:(de xs k).isSome=true
 ·rw[if_pos q,if_pos q];exact r.repl k ry
 ·rw[if_neg q,if_neg q];exact aP.snoc r ⟨rfl,hb,ry⟩
theorem KT.keeps{H H':Hp}{kvs:List (List Key×V)}{xs:List (List Key×Addr×Value)}(r:KT H kvs xs) (ht:∀b ys,H b=ae (.tup ys)→H' b=ae (.tup ys)):KT H' kvs xs:=
 Paired.mapP r λ_ _ z=>⟨z.1,ht _ _ z.2.1,z.2.2⟩
section
variable {P:aE}{w:aC}{H:Hp}{h:Heap}{a:Addr}
theorem zwT{u:HO}(ok:HOk P w H h) (e:Rd H a u):ObjOk P w H h a u:=e.ok ok
theorem zty{kvs:List (Key×V)}(ok:HOk P w H h) (e:Rd H a (.dK kvs)):kvs.length≤sizeLine∧(a == cy)=false∧ ∃vs,KV kvs vs∧h.DictOf (zbd P w) a vs:=
 show ObjOk P w H h a (.dK kvs) from zwT ok e
theorem zAq{kvs:List (Key×V)}(ok:HOk P w H h) (e:H a=ae (.dK kvs)):kvs.length≤sizeLine∧(a == cy)=false∧ ∃vs,KV kvs vs∧h.DictOf (zbd P w) a vs:=zty ok (.inl e)
theorem zkm{ks:List Key}(ok:HOk P w H h) (e:H a=ae (.tup (ks.map kV))):(b7 (zbd P w)).is h ks a:=by
 obtain⟨_,its,r,o,h1,h2,n,h3⟩:=(show ObjOk P w H h a (.tup (ks.map kV)) from ok a _ e);exact⟨o,its.toArray,n,h1,h2,h3,by simpa using zkG r⟩
theorem zrW{kvs:List (List Key×V)}(ok:HOk P w H h) (e:Rd H a (.dT kvs)):kvs.length≤sizeLine∧(a == cy)=false∧
  ∃xs,KT H kvs xs∧h.DictOfH (b7 (zbd P w)) a xs:=by
 obtain⟨z,y,xs,r,o,es,ep,h1,h2,h3,h4,h5⟩:=(show ObjOk P w H h a (.dT kvs) from zwT ok e);refine⟨z,y,xs,r,o,es,ep,h1,h2,h3,h4,λx hx=>?_,h5⟩;have all:∀{l:List (List Key×V)}{m:List (List Key×Addr×Value)},KT H l m→ ∀x∈m,(b7 (zbd P w)).is h x.1 x.2.1:=by
  intro l m q
  induction q with
  |nil=>intro x hx;exact nomatch hx
  | @cons p q ps qs hq t ih=>
   intro x hx;rcases aA.mp hx with e |hx
   ·subst e;exact zkm ok (by rw[←hq.1];exact hq.2.1)
   ·exact ih x hx
 exact all r x hx
theorem zBg{kvs:List (List Key×V)}(ok:HOk P w H h) (e:H a=ae (.dT kvs)):kvs.length≤sizeLine∧(a == cy)=false∧
  ∃xs,KT H kvs xs∧h.DictOfH (b7 (zbd P w)) a xs:=zrW ok (.inl e)
end
def DGet (H:Hp) (a:Addr) (y:V) (r:Option V):Prop:=
 (∃kvs k,Rd H a (.dK kvs)∧y=kV k∧r=zjF kvs k)∨ ∃kvs k b,Rd H a (.dT kvs)∧y= .ref b∧H b=ae (.tup (k.map kV))∧r=zjF kvs k
def DPut (H:Hp) (a:Addr) (y v:V) (H':Hp):Prop:=
 (∃kvs k,H a=ae (.dK kvs)∧y=kV k∧kvs.length<sizeLine∧H'=upd H a (.dK (zhY kvs k v)))∨
 ∃kvs k b,H a=ae (.dT kvs)∧y= .ref b∧H b=ae (.tup (k.map kV))∧kvs.length<sizeLine∧H'=upd H a (.dT (zhY kvs k v))
theorem DGet.k{H:Hp}{a:Addr}{kvs:List (Key×V)}{k:Key}(e:H a=ae (.dK kvs)):DGet H a (kV k) (zjF kvs k):= .inl ⟨kvs,k, .inl e,rfl,rfl⟩
theorem DGet.t{H:Hp}{a b:Addr}{kvs:List (List Key×V)}{k:List Key}(e:H a=ae (.dT kvs)) (eb:H b=ae (.tup (k.map kV))):DGet H a (.ref b) (zjF kvs k):= .inr ⟨kvs,k,b, .inl e,rfl,eb,rfl⟩
theorem DPut.k{H:Hp}{a:Addr}{kvs:List (Key×V)}{k:Key}{v:V}(e:H a=ae (.dK kvs)) (hl:kvs.length<sizeLine):DPut H a (kV k) v (upd H a (.dK (zhY kvs k v))):= .inl ⟨kvs,k,e,rfl,hl,rfl⟩
section
variable {X:Cx}{pins:List (Addr×Obj)}{σ:St}{H:Hp}{s:ah}{a:Addr}{y v:V}{u r:Value}{o:Option V}{A:aQ}{E:Value→ah→Prop}
theorem Inv.big (I:Inv X pins σ H s):cy<s.heap.objs.size:=by
 have h:aL<s.heap.objs.size:=(I.mod.glob.keeps I.bk).lt;exact Nat.lt_trans (by decide) h
theorem zBF{Q:Value→ah→Prop}(hu:A.units+1<cLine) (I:Inv X pins σ H s) (g:DGet H a y o) (ry:RelV y u) (h:∀s',Inv X pins σ H s'→Q (.bool o.isSome) s') :
  am (aq X.prog X.w) A (bH .In u (.ref a)) Q E s:=by
 rcases g with⟨kvs,k,e,ey,l⟩ |⟨kvs,k,b,e,ey,eb,l⟩
 ·subst ey;obtain⟨z,hd,vs,rel,dd⟩:=zty I.hok e;refine wpAny_in_of (zsE ry) hd dd.mapOf ?_;rw[←(rel.val k).isSome_eq,←l];exact h _ (I.tok _)
 ·subst ey;cases(show u=bc b from ry);obtain⟨z,hd,xs,rel,dd⟩:=zrW I.hok e;refine wpAny_in_heap (fX hu) (zkm I.hok eb) hd dd ?_;have q:=(rel.val k).isSome_eq;rw[ie]at q;rw[←q,←l];exact h _ (I.tok _)
theorem zqj{h':Heap}{t':Nat}{ob:HO}(I:Inv X pins σ H s) (mu:Mut (H a)) (hs:ci a s.heap h') (he:∃q,h'.get? a=ae q) (new:ObjOk X.prog X.w (upd H a ob) h' a ob) :
  Inv X pins σ (upd H a ob) { s with heap:=h',toks:=t' }:=
 I.write (x:=a) (e:=a) mu (.inl rfl) (λb q hb z=>(hs.2 b hb).trans z) he new
theorem zxh{P:aE}{w:aC}{H':Hp}{h':Heap}{kvs:List (Key×V)}{vs:List (Key×Value)}(z:kvs.length≤sizeLine) (hd:(a == cy)=false) (rel:KV kvs vs) (dd:h'.DictOf (zbd P w) a vs) :
  ObjOk P w H' h' a (.dK kvs):=⟨z,hd,vs,rel,dd⟩
theorem zrh{H':Hp}{Q:Unit→ah→Prop}(hu:A.units+1<cLine) (I:Inv X pins σ H s) (g:DPut H a y v H') (ry:RelV y u) (rv:RelV v r) (h:∀s',Inv X pins σ H' s'→Q () s') :
  am (aq X.prog X.w) A (setItem (.ref a) u r) Q E s:=by
 rcases g with⟨kvs,k,e,ey,l,eH⟩ |⟨kvs,k,b,e,ey,eb,l,eH⟩
 ·subst ey eH;obtain⟨z,hd,vs,rel,dd⟩:=zAq I.hok e;have hz:vs.length≤sizeLine:=by rw[←rel.length];exact z
  have hl:(zhY kvs k v).length≤sizeLine:=by have:=zfe kvs k v;omega
  refine wpAny_setItem_pairs (hsz:=hz) (zsE ry) dd λh' dd' hs=>h _ ?_;have he:∃q,h'.get? a=ae q:=let ⟨q,_,_,hq,_⟩:=dd';⟨q,hq⟩;exact zqj I (by rw[e];exact c9) hs he (zxh hl hd (rel.put k rv) dd')
 ·subst ey eH;cases(show u=bc b from ry);obtain⟨z,hd,xs,rel,dd⟩:=zBg I.hok e;have hz:xs.length≤sizeLine:=by rw[←dD rel];exact z
  have hl:(zhY kvs k v).length≤sizeLine:=by have:=zfe kvs k v;omega
  refine wpAny_setItem_heap (hsz:=hz) (fX hu) (zkm I.hok eb) dd λh' dd' hs=>h _ ?_;obtain⟨q,es,ep,hq,h2,h3,h4,_,h5⟩:=dd';refine zqj I (by rw[e];exact c9) hs ⟨q,hq⟩ ⟨hl,hd,_,(rel.put k eb rv).keeps λc ys ec=>?_,q,es,ep,hq,h2,h3,h4,h5⟩;rw[zaz (zpB ec e (λz=>nomatch z))];exact ec
end
noncomputable def zAb (td ty tv:TE):TS:=λD σ H=>tv σ H λv H1=>td σ H1 λx H2=>ty σ H2 λy H3=>∃a H4,x= .ref a∧DPut H3 a y v H4∧D.nx σ H4
section
variable {X:Cx}{o i value:Expr}{pos pos':aB}{td ty tv:TE}
theorem zvI (hu:X.A.units+1<cLine) (ho:PE X o td) (hi:PE X i ty) (hv:PE X value tv) (hs:di value (ae (.Subscript o i pos')) pos.line X.env=pure false) :
  PS X (.Assign [.Subscript o i pos'] value pos) (zAb td ty tv):=by
 intro pins s σ H D I h;refine wpAny_Assign_Subscript (thn (hv pins s σ H _ I h) λr s1 ⟨v,H1,I1,rv,q1⟩=>thn (ho pins s1 σ H1 _ I1 q1) λu s2 ⟨x,H2,I2,rx,q2⟩=>thn (hi pins s2 σ H2 _ I2 q2) λiv s3 ⟨y,H3,I3,ry,a,H4,ex,g,q3⟩=>?_) hs;subst ex;obtain rfl:u=bc a:=rx;exact zrh hu I3 g ry rv λs4 I4=>⟨σ,H4,I4,q3⟩
end
theorem zsY{P:aE}{w:aC}{H:Hp}(h:Heap) (hb:cy<h.objs.size):ObjOk P w H (h.push { cls:= .type "dict",data:= .dict #[] }) h.objs.size (.dK []):=
 ⟨aS _,beq_eq_false_iff_ne.mpr (bu (bA hb)),[], .nil,Heap.DictOf.new h⟩
noncomputable def zxQ:TE:=λ_ H Q=>∀p,H p=none→Q (.ref p) (upd H p (.dK []))
section
variable {X:Cx}{pos:aB}
theorem pe_dnewK:PE X (.Dict [] [] pos) zxQ:=λpins s σ H Q I h=>
 wpAny_Dict_empty ⟨.ref s.heap.objs.size,_,I.laid (a:=s.heap.objs.size) (o:= .dK []) (t':=s.toks) (λ_ _ q=>aJ _ q) (ap _) (zsY s.heap I.big),rfl,h _ (I.hok.fresh (ap _))⟩
end
structure M2 (X:Cx) (o:Expr) (m:Str) (apos:aB) (e f:Expr) (cpos:aB):Prop where
  base:cT o m X.env (az o X.env)=az o X.env
  few:((aT cpos (ao [e,f] X.env)).all (λx=> !x.1)&&(dG cpos (dR [] X.env)).all (λx=>x.1.isSome)
    &&decide (([e,f]:List Expr).length+([]:List bU).length+(if([]:List bU).isEmpty then 0 else 1)<30))=true
  line:(apos.endLine == cpos.line)=true
  trees:aT cpos (ao [e,f] X.env)=[(false,az e X.env),(false,az f X.env)]
def IsD (H:Hp) (a:Addr):Prop:=(∃kvs,Rd H a (.dK kvs))∨ ∃kvs,Rd H a (.dT kvs)
theorem zzm{X:Cx}{pins:List (Addr×Obj)}{σ:St}{H:Hp}{s:ah}{a:Addr}(I:Inv X pins σ H s) (d:IsD H a) :
  s.TypeIs (.ref a) "dict" ∧(∀b,bc a= .ref b→ ∃ob,s.heap.get? b=ae ob∧ob.dict=none)∧(a == cy)=false:=by
 rcases d with⟨kvs,e⟩ |⟨kvs,e⟩
 ·obtain⟨_,hd,vs,_,dd⟩:=zty I.hok e;refine⟨dd.typeIs,λb q=>?_,hd⟩;cases q;obtain⟨ob,_,_,h1,h2,_⟩:=dd;exact⟨ob,h1,h2.2.1⟩
 ·obtain⟨_,hd,xs,_,dd⟩:=zrW I.hok e;refine⟨dd.typeIs,λb q=>?_,hd⟩;cases q;obtain⟨ob,_,_,h1,h2,_⟩:=dd;exact⟨ob,h1,h2.2.1⟩
section
variable {X:Cx}{pins:List (Addr×Obj)}{σ:St}{H:Hp}{s:ah}{a:Addr}{y d:V}{u r:Value}{o:Option V}{A:aQ}{E:Value→ah→Prop}
theorem zyQ{Q:Value→ah→Prop}(hu:A.units+1<cLine) (I:Inv X pins σ H s) (g:DGet H a y o) (ry:RelV y u) (rd:RelV d r) (h:∀w' s',Inv X pins σ H s'→RelV (o.getD d) w'→Q w' s') :
  am (aq X.prog X.w) A (call (.builtin "dict.get") [.ref a,u,r]) Q E s:=by
 rcases g with⟨kvs,k,e,ey,l⟩ |⟨kvs,k,b,e,ey,eb,l⟩
 ·subst ey;obtain⟨z,hd,vs,rel,dd⟩:=zty I.hok e;refine call_meetsIn iF dd.typeIs jR (ke _ _ _) (meets_dict_get_default (zbd X.prog X.w) a (zsE ry) hd r) ⟨_,dd.mapOf,h _ _ (I.tok _) ?_⟩;rw[l];exact(rel.val k).getD rd
 ·subst ey;cases(show u=bc b from ry);obtain⟨z,hd,xs,rel,dd⟩:=zrW I.hok e;refine call_meetsIn iF dd.typeIs jR (ke _ _ _) (meetsH_dict_get_default (b7 (zbd X.prog X.w)) a b hd r) ⟨fX hu,k,xs,zkm I.hok eb,dd,h _ _ (I.tok _) ?_⟩;rw[l];exact(rel.val k).getD rd
end
noncomputable def zwQ (td ty tx:TE):TE:=λσ H Q=>td σ H λx H1=>∃a,x= .ref a∧IsD H1 a∧ty σ H1 λy H2=>tx σ H2 λz H3=>∃o,DGet H3 a y o∧Q (o.getD z) H3
section
variable {X:Cx}{o e f:Expr}{apos cpos:aB}{td ty tx:TE}
theorem zsj (hu:X.A.units+1<cLine) (ho:PE X o td) (he:PE X e ty) (hf:PE X f tx) (m:M2 X o "get" apos e f cpos):PE X (.Call (.Attribute o "get" apos) [e,f] [] cpos) (zwQ td ty tx):=by
 intro pins s σ H Q I h;refine wpAny_Call_method m.base m.few m.line PySem.F.plainAttrs_dict iF PySem.F.type_dict_get (thn (ho pins s σ H _ I h) λu s1 ⟨x,H1,I1,rx,a,ex,d,q1⟩=>?_);subst ex;obtain rfl:u=bc a:=rx;obtain⟨t1,t2,_⟩:=zzm I1 d;refine⟨t1,t2,?_⟩;rw[m.trees];refine g_ rfl (gO (iy (thn (he pins s1 σ H1 _ I1 q1) λiv s2 ⟨y,H2,I2,ry,q2⟩=>
  iy (thn (hf pins s2 σ H2 _ I2 q2) λfv s3 ⟨z,H3,I3,rz,ov,g,q3⟩=>jO ?_))))
 exact zyQ hu I3 g ry rz λw' s4 I4 rw'=>⟨_,H3,I4,rw',q3⟩
end
end L2
namespace Att
open PySem PySem.W PySem.Calls PyProof.Rows
end Att
namespace L2
open PySem PySem.Spec PyProof.Rows
section
variable {prog:aE}{w:aC}{A:aQ}{R:Result→ah→Prop}{s:ah}
theorem zlh{elt target iter:Expr}{ifs:List Expr}{scope:Scope}{pos:aB}{it acc:Value}{env:bB}(I:Nat→ah→Prop)
  (turn:∀n s,I n s→am (aq prog w) A (b5 it) (λr s₁=>match r with
   |none=>R (.ok .next) s₁
   |some v=>am (aq prog w) A (fV target it v) (λ_ s₀=>am (aq prog w) A (assign target env v) (λ_ s₂=>
     am (aq prog w) A (forIn ifs true λc r=>if r=true then do let ok ←isTrue c env (az c env);pure (eC ok) else pure (eC r)) (λok s₃=>
      if ok=true then am (aq prog w) A (az elt env) (λx s₄=>
       am (aq prog w) A (call (.builtin "list.append") [acc,x]) (λ_ s₅=>∃m,m<n∧I m s₅) (λ_ _=>False) s₄) (λ_ _=>False) s₃
      else ∃m,m<n∧I m s₃) (λ_ _=>False) s₂) (λ_ _=>False) s₀) (λ_ _=>False) s₁) (λ_ _=>False) s)
  (n:Nat) (h:I n s) :
  dN (aq prog w) A (.compLoop (.ListComp elt [⟨target,iter,ifs,0⟩] scope pos) 0 it acc env) R s:=by
 refine codeAny_loop rfl I (λn s hI=>?_) n h;show am _ A ((compTurn (.ListComp elt [⟨target,iter,ifs,0⟩] scope pos) 0 it acc env).onRaise (λx=>do noteFrame x env;theTreesLotGoes x)) _ _ s;refine wpAny_noted ?_;rw[compTurn_list];refine ak (wpAny_standAt (ak (cn (turn n s hI) (λr s₁ h₁=>?_) λ_ _ h'=>h'.elim)));cases r with
 |none=>exact aD h₁
 |some v=>
  refine ak (cn h₁ (λ_ s₀ h₀=>?_) λ_ _ h'=>h'.elim);refine ak (cn h₀ (λ_ s₂ h₂=>ak (cn h₂ (λok s₃ h₃=>?_) λ_ _ h'=>h'.elim)) λ_ _ h'=>h'.elim);cases ok with
  |false=>exact aD ⟨rfl,h₃⟩
  |true=>
   exact ak (ak (cn h₃ (λx s₄ h₄=>ak (cn h₄ (λ_ s₅ h₅=>aD (aD ⟨rfl,h₅⟩)) λ_ _ h'=>h'.elim)) λ_ _ h'=>h'.elim))
end
noncomputable def zhW (cells:List (Str×Addr)):List (Str×bT)→List (Str×Addr)→List (Str×Addr)
 | [],acc=>acc
 | (n,k)::r,acc=>if(k == aW)=true then zhW cells r ((n,(cells.lookup n).getD 0)::acc) else zhW cells r acc
theorem zoo{scope:Scope}{env:bB}(h:∀y∈scope.names,y.2= .free→ ∃c,env.cells.lookup y.1=ae c) :
  closureFor scope env=pure (zhW env.cells scope.names []):=by
 have go:∀(l:List (Str×bT)) (acc:List (Str×Addr)),(∀y∈l,y.2= .free→ ∃c,env.cells.lookup y.1=ae c)→
   (forIn l acc λ(x:Str×bT) (cs:List (Str×Addr))=>(if(x.2 == aW)=true then(do let a ←cellOf env x.1;pure (eC ((x.1,a)::cs))) else pure (eC cs):b9 (ForInStep (List (Str×Addr)))))=(pure (zhW env.cells l acc):b9 (List (Str×Addr))):=by
  intro l
  induction l with
  |nil=>intro acc _;rfl
  |cons x l ih=>
   intro acc hl;obtain⟨n,k⟩:=x;have hr:=λy hy=>hl y (aI _ hy);rw[iH];by_cases hk:k= .free
   ·subst hk;obtain⟨c,hc⟩:=hl (n, .free) aV rfl;have hc':env.cells.lookup n=ae c:=hc;have e:cellOf env n=pure c:=by unfold cellOf;rw[hc']
    have e2:zhW env.cells ((n,aW)::l) acc=zhW env.cells l ((n,c)::acc):=by
     show(if(aW == aW)=true then zhW env.cells l ((n,(env.cells.lookup n).getD 0)::acc) else zhW env.cells l acc)=_;rw[if_pos (by rfl),hc'];rfl
    dsimp only;rw[if_pos (by rfl),e,fY,fY,e2];exact ih _ hr
   ·have hb:¬(k == aW)=true:=by simpa using hk
    have e2:zhW env.cells ((n,k)::l) acc=zhW env.cells l acc:=by
     show(if(k == aW)=true then zhW env.cells l ((n,(env.cells.lookup n).getD 0)::acc) else zhW env.cells l acc)=_;rw[if_neg hb]
    dsimp only;rw[if_neg hb,fY,e2];exact ih _ hr
 have q:=go scope.names [] h;unfold closureFor
 first
  |exact(bind_pure _).trans q
  | (simp only[bind_pure];exact q)
  | (simp only[fY,bind_assoc,bind_pure];exact q)
theorem zjd{cells:List (Str×Addr)}{x:Str}{c:Addr}:∀(l:List (Str×bT)) (acc:List (Str×Addr)),(∀y∈l,y.2= .free→ ∃c,cells.lookup y.1=ae c)→
  (zhW cells l acc).lookup x=ae c→acc.lookup x=ae c∨cells.lookup x=ae c
 | [],acc,_,h=> .inl h
 | (n,k)::r,acc,hl,h=>by
  have hr:=λy hy=>hl y (aI (n,k) hy);by_cases hk:k= .free
  ·subst hk;have h':(zhW cells r ((n,(cells.lookup n).getD 0)::acc)).lookup x=ae c:=h;rcases zjd r _ hr h' with q |q
   ·rw[cc]at q;cases e:x == n with
    |true=>
     rw[e]at q;obtain⟨d,hd⟩:=hl (n, .free) aV rfl;have hd':cells.lookup n=ae d:=hd;have e1:x=n:=gn e;rw[hd']at q;have q':d=c:=aH q;exact .inr (by rw[e1,hd',q'])
    |false=>
     rw[e]at q;exact .inl q
   ·exact .inr q
  ·have hb:¬(k == aW)=true:=by simpa using hk
   have h':(if(k == aW)=true then zhW cells r ((n,(cells.lookup n).getD 0)::acc) else zhW cells r acc).lookup x=ae c:=h;rw[if_neg hb]at h';exact zjd r acc hr h'
theorem zgK{cells:List (Str×Addr)}{x:Str}:∀(l:List (Str×bT)) (acc:List (Str×Addr)),((x,aW)∈l∨ ∃c,acc.lookup x=ae c)→ ∃c,(zhW cells l acc).lookup x=ae c
 | [],acc,h=>by
  rcases h with h |h
  ·cases h
  ·exact h
 | (n,k)::r,acc,h=>by
  by_cases hk:k= .free
  ·subst hk;refine zgK r ((n,(cells.lookup n).getD 0)::acc) ?_;cases e:x == n with
   |true=>exact .inr ⟨_,by rw[cc,e]⟩
   |false=>
    rcases h with h |⟨c,h⟩
    ·rcases aA.mp h with q |q
     ·have:x=n:=congrArg Prod.fst q;rw[this]at e;simp at e
     ·exact .inl q
    ·exact .inr ⟨c,by rw[cc,e];exact h⟩
  ·have hb:¬(k == aW)=true:=by simpa using hk
   show ∃c,(if(k == aW)=true then zhW cells r ((n,(cells.lookup n).getD 0)::acc) else zhW cells r acc).lookup x=ae c;rw[if_neg hb];refine zgK r acc ?_;rcases h with h |h
   ·rcases aA.mp h with q |q
    ·exact absurd (congrArg ia q).symm hk
    ·exact .inl q
   ·exact .inr h
theorem zds{env:bB}{x:Str}{k:bT}:∀{names:List (Str×bT)},(∀y∈names,y.2≠ .cell)→
  (names.map λ(n,k)=>if(k == aW&&env.scope.kind == .function&&env.kindOf n == ae .cell) then(n,cw) else(n,k)).lookup x=ae k→(k= .cell∨k= .free)→(x,aW)∈names
 | [],_,h,_=>by simp at h
 | (n,j)::r,hc,h,hk=>by
  have h':gJ x ((if(j == aW&&env.scope.kind == .function&&env.kindOf n == ae .cell)=true then(n,cw) else(n,j)) ::
   (r.map λ(n,k)=>if(k == aW&&env.scope.kind == .function&&env.kindOf n == ae .cell) then(n,cw) else(n,k)))=ae k:=h
  have hr:=λy hy=>hc y (aI (n,j) hy);have hj:j≠ .cell:=hc (n,j) aV;cases e:x == n with
  |true=>
   have e1:x=n:=gn e;subst e1;by_cases c:(j == aW&&env.scope.kind == .function&&env.kindOf x == ae .cell)=true
   ·have c1:(j == aW)=true:=by
     cases q:(j == aW) with
     |true=>rfl
     |false=>rw[q]at c;simp at c
    have c2:j= .free:=by simpa using c1
    rw[c2];exact aV
   ·rw[if_neg c]at h';simp only[cc,beq_self_eq_true]at h';have h2:j=k:=aH h';rcases hk with z |z
    ·exact absurd (h2.trans z) hj
    ·rw[h2,z];exact aV
  |false=>
   by_cases c:(j == aW&&env.scope.kind == .function&&env.kindOf n == ae .cell)=true
   ·rw[if_pos c]at h';simp only[cc,e]at h';exact aI _ (zds hr h' hk)
   ·rw[if_neg c]at h';simp only[cc,e]at h';exact aI _ (zds hr h' hk)
theorem zey{env:bB}{x:Str}:∀{names:List (Str×bT)},names.lookup x=ae .free→
  (names.map λ(n,k)=>if(k == aW&&env.scope.kind == .function&&env.kindOf n == ae .cell) then(n,cw) else(n,k)).lookup x=ae .cell∨
  (names.map λ(n,k)=>if(k == aW&&env.scope.kind == .function&&env.kindOf n == ae .cell) then(n,cw) else(n,k)).lookup x=ae .free
 | [],h=>by simp at h
 | (n,j)::r,h=>by
  show gJ x ((if(j == aW&&env.scope.kind == .function&&env.kindOf n == ae .cell)=true then(n,cw) else(n,j)) ::
   (r.map λ(n,k)=>if(k == aW&&env.scope.kind == .function&&env.kindOf n == ae .cell) then(n,cw) else(n,k)))=_∨
   gJ x ((if(j == aW&&env.scope.kind == .function&&env.kindOf n == ae .cell)=true then(n,cw) else(n,j)) ::
   (r.map λ(n,k)=>if(k == aW&&env.scope.kind == .function&&env.kindOf n == ae .cell) then(n,cw) else(n,k)))=_
  cases e:x == n with
  |true=>
   simp only[cc,e]at h;have h2:j= .free:=aH h;subst h2;by_cases c:(aW == aW&&env.scope.kind == .function&&env.kindOf n == ae .cell)=true
   ·rw[if_pos c];simp only[cc,e];exact .inl trivial
   ·rw[if_neg c];simp only[cc,e];exact .inr trivial
  |false=>
   simp only[cc,e]at h;by_cases c:(j == aW&&env.scope.kind == .function&&env.kindOf n == ae .cell)=true
   ·rw[if_pos c];simp only[cc,e];exact zey h
   ·rw[if_neg c];simp only[cc,e];exact zey h
noncomputable def zbI (X:Cx) (scope:Scope) (N:List Str) (s:ah) (H:Hp) (fp:List Addr) (pins:List (Addr×Obj)):Cx:=
 { X with N:=N,s₀:=s,H₀:=H,env:=compEnvC scope (zhW X.env.cells scope.names []) s.heap.objs.size X.env,outer:=X.stack,stack:=X.stack,ex:=fp,fn:=λ_=>false,pn:=X.pn++pins,xe:=λ_ _=>False }
structure CompSc (X:Cx) (scope:Scope) (N:List Str) (k:Nat) (fr:List Nat):Prop where
  kind:scope.kind= .function
  nd:N.Nodup
  len:N.length=k+fr.length
  cell:(scope.names.all λy=>y.2 != cw)=true
  loc:(scope.names.all λy=>y.2 != bT.local || scope.names.lookup y.1 == ae bT.local)=true
  free:(scope.names.all λy=>y.2 != aW || X.env.kindOf y.1 == ae cw || X.env.kindOf y.1 == ae aW)=true
  frs:((N.drop k).all λx=>scope.names.lookup x == ae aW)=true
  pl:N.drop k=fr.map λj=>X.N.getD j iB
  plen:(fr.all λj=>decide (j<X.N.length))=true
noncomputable def zhU (σ:St) (fr:List Nat):St:=fr.map λj=>(σ[j]?).join
noncomputable def zmK (σ:St) (k:Nat) (fr:List Nat):St:=aN k none++zhU σ fr
section
variable {X:Cx}{scope:Scope}{N:List Str}{k:Nat}{fr:List Nat}
theorem CompSc.cell' (S:CompSc X scope N k fr):∀y∈scope.names,y.2≠ .cell:=λy hy=>by
 have q:=dh.mp S.cell y hy;simpa using q
theorem CompSc.loc' (S:CompSc X scope N k fr):∀y∈scope.names,y.2= .local→scope.names.lookup y.1=ae .local:=λy hy e=>by
 have q:=dh.mp S.loc y hy;rw[e]at q;simpa using q
theorem CompSc.kinds (S:CompSc X scope N k fr):∀y∈scope.names,y.2= .free→X.env.kindOf y.1=ae .cell∨X.env.kindOf y.1=ae .free:=λy hy e=>by
 have q:=dh.mp S.free y hy;rw[e]at q;simpa using q
theorem CompSc.hasCell (S:CompSc X scope N k fr) (ok:X.Ok):∀y∈scope.names,y.2= .free→ ∃c,X.env.cells.lookup y.1=ae c:=λy hy e=>ok.has y.1 (S.kinds y hy e)
theorem CompSc.sub (S:CompSc X scope N k fr) (ok:X.Ok) {x:Str}{c:Addr}(h:(zhW X.env.cells scope.names []).lookup x=ae c):X.env.cells.lookup x=ae c:=by
 rcases zjd scope.names [] (S.hasCell ok) h with q |q
 ·simp at q
 ·exact q
end
section
variable {X:Cx}{pins:List (Addr×Obj)}{σ:St}{H:Hp}{s:ah}{scope:Scope}{N:List Str}{k:Nat}{fr:List Nat}{fp:List Addr}
theorem zvY (I:Inv X pins σ H s) (S:CompSc X scope N k fr) (hfp:∀b∈fp,zjE X pins H b) (hob:∀b∈fp,∃o,s.heap.get? b=ae o):(zbI X scope N s H fp pins).Ok where
  mod:=I.ok.mod
  kind:=S.kind
  glob:=I.ok.glob
  blt:=I.ok.blt
  above:=ap _
  inj:=λx y c h1 h2=>I.ok.inj x y c (S.sub I.ok h1) (S.sub I.ok h2)
  has:=λx hx=>zgK scope.names [] (.inl (by
    rcases hx with hx |hx
    · exact zds S.cell' hx (.inl rfl)
    · exact zds S.cell' hx (.inr rfl)))
  cab:=λx c h _=>absurd h (by show ¬(false=true);decide)
  hd:=I.ok.hd
  frames:=I.ok.frames
  stk:= .inl rfl
  exf:=λb hb=>⟨by
    obtain⟨o,e⟩:=hob b hb;exact bA (aK e),λx c h=>(hfp b hb).2.2.2.2.1 x c (S.sub I.ok h)⟩
  bs:=I.bs
  bsz:=a9 I.ok.bsz I.sz
  noex:=λb o e hb=>by
    rcases(hfp b hb).2.2.2.1 with z |z
    · exact I.ok.noex b o e z
    · exact absurd (bJ (aK (I.ok.bs b o e).1) z) (cQ _)
  exfs:=λb hb z=>by
    rcases aA.mp (I.stkSub b z) with q |q
    · exact(hfp b hb).2.1 q
    · exact(hfp b hb).2.2.1 q
  funs:=I.stack
  frf:=I.stkFree
theorem zvE (I:Inv X pins σ H s) (S:CompSc X scope N k fr) {H':Hp}{b:Addr}(hb:b∈fp) (hf:zjE X pins H b) (hob:∃o,s.heap.get? b=ae o) (hn:H' b=none):zjE (zbI X scope N s H fp pins) [] H' b:=by
 refine⟨hn,?_,λz=>?_, .inl hb,λx c h=>hf.2.2.2.2.1 x c (S.sub I.ok h),λp hp=>?_⟩
 ·obtain⟨o,e⟩:=hob;exact bA (aK e)
 ·rcases aA.mp (I.stkSub b z) with q |q
  ·exact hf.2.1 q
  ·exact hf.2.2.1 q
 ·rcases bp.mp hp with z |z
  ·exact hf.2.2.2.2.2 p z
  ·cases z
theorem zoi{j:Nat}{v:V}(h:(zhU σ fr)[j]? =ae (ae v)):∃i,fr[j]? =ae i∧σ[i]? =ae (ae v):=by
 unfold zhU at h;rw[bj]at h;cases e:fr[j]? with
 |none=>rw[e]at h;cases h
 |some i=>
  rw[e]at h;have h':(σ[i]?).join=ae v:=aH h;refine⟨i,rfl,?_⟩;cases q:σ[i]? with
  |none=>rw[q]at h';cases h'
  |some o=>
   rw[q]at h';have h2:o=ae v:=h';rw[h2]
theorem ztr (I:Inv X pins σ H s) (S:CompSc X scope N k fr) (hfp:∀b∈fp,zjE X pins H b) (hob:∀b∈fp,∃o,s.heap.get? b=ae o) {h1:Heap}{tk:Nat}{m:Str→Option Value}
    (hns:h1.Ns s.heap.objs.size m) (hk:∀b o,s.heap.get? b=ae o→h1.get? b=ae o):Inv (zbI X scope N s H fp pins) [] (zmK σ k fr) H { s with heap:=h1,toks:=tk } where
  ok:=zvY I S hfp hob
  os:=rfl
  bare:=I.bare
  base:=Un.kept hk
  loc:=⟨m,hns,λi x v e1 e2 e3=>by
    have e2':(aN k (none:Option V)++zhU σ fr)[i]? =ae (ae v):=e2;have hi:k≤i:=by
      refine i_ λz=>?_;rw[kJ (by simpa using z),ku]at e2';split at e2'<;>cases e2'
    rw[iq (by simpa using hi),gS]at e2';obtain⟨j,f1,f2⟩:=zoi e2';have e1':N[i]? =ae x:=e1;have d1:(N.drop k)[i - k]? =ae x:=by
      rw[ja];have:k+(i - k)=i:=by omega
      rw[this];exact e1'
    have d2:=d1;rw[S.pl,bj,f1]at d2;have d3:X.N.getD j iB=x:=aH d2;have jl:j<X.N.length:=of_decide_eq_true (dh.mp S.plen j (aR f1));have d4:X.N[j]? =ae x:=by
      rw[bv,a_ jl]at d3;rw[a_ jl];exact congrArg ae d3
    have fk:scope.names.lookup x=ae .free:=by
      have q:=dh.mp S.frs x (aR d1);simpa using q
    have hmem:(x,aW)∈scope.names:=d_ fk;have kd:=S.kinds _ hmem rfl;have vis:Vis X.env.scope x:=by
      rcases kd with z |z
      · exact .inr (.inl z)
      · exact .inr (.inr z)
    obtain⟨m0,_,hl⟩:=I.loc;obtain⟨u,ru,lk⟩:=hl j x v d4 f2 vis;refine⟨u,ru, .inr ⟨zey fk,?_⟩⟩;have kd':X.env.kindOf x=ae .cell∨X.env.kindOf x=ae .free:=kd;rcases lk with⟨z,_⟩ |⟨_,c,hc,hcell⟩
    · rcases kd' with q |q<;>(rw[z]at q;cases q)
    · obtain⟨c',hc'⟩:=zgK (cells:=X.env.cells) scope.names [] (.inl hmem);have e:=S.sub I.ok hc';rw[hc]at e;cases e;exact⟨c,hc',hcell.keeps hk⟩⟩
  cell:=λx c h=>by
    obtain⟨v,z⟩:=I.cell x c (S.sub I.ok h);exact⟨v,z.keeps hk⟩
  free:=I.hok.fresh (ap _)
  freeC:=λx c h=>I.freeC x c (S.sub I.ok h)
  pin:=λp hp=>by
    have hp':p∈X.pn++pins:=by
      rcases bp.mp hp with z |z
      · exact z
      · cases z
    obtain⟨e,n,ne,nf,d⟩:=I.pin p hp';refine⟨hk _ _ e,n,bA (aK e),λz=>?_,d⟩;rcases aA.mp (I.stkSub p.1 z) with q |q
    · exact ne q
    · exact nf q
  hok:=I.hok.kept hk
  len:=by
    show(aN k (none:Option V)++zhU σ fr).length=N.length;rw[aM,gS,S.len];unfold zhU;rw[ax]
theorem zkB{σ':St}{H':Hp}{s':ah}{h':Heap}(I:Inv X pins σ H s) (hfp:∀b∈fp,zjE X pins H b) (J:Inv (zbI X scope N s H fp pins) [] σ' H' s') (sb:ci s.heap.objs.size s'.heap h'):Inv X pins σ H' { s' with heap:=h' }:=by
 have neC:∀b o,s.heap.get? b=ae o→b≠s.heap.objs.size:=λb o e=>bA (aK e);have frC:H' s.heap.objs.size=none:=J.free;refine Inv.call' (s':={ s' with heap:=h' }) (ch:=fp) I J.os ⟨λb o e n hf hx=>?_,λb o e n hf hx=>?_,λb o e n hx=>J.base.free b o e n hx,λb o e hx=>?_,J.base.tups,J.base.frzs,J.base.tbls⟩ (λb o e=>?_) J.bare λb hb=>⟨(hfp b hb).2.2.2.1,(hfp b hb).2.1,(hfp b hb).2.2.2.2.1,(hfp b hb).2.2.2.2.2⟩
 ·exact(sb.2 b (neC b o e)).trans (J.base.keep b o e n hf hx)
 ·obtain⟨sl,q⟩:=J.base.slot b o e n hf hx;exact⟨sl,(sb.2 b (neC b o e)).trans q⟩
 ·obtain⟨o',q⟩:=J.base.there b o e hx;exact⟨o',(sb.2 b (neC b o e)).trans q⟩
 ·refine(J.hok b o e).stay (λc v hc q=>(sb.2 c ?_).trans q) (λ_ q=>q) λ_ _ q=>q;rintro rfl;rcases hc with rfl |hc
  ·rw[frC]at e;cases e
  ·rw[frC]at hc;cases hc
end
def PTs (X:Cx) (ifs:List Expr) (t:TT):Prop:=
 ∀(pins:List (Addr×Obj)) (s:ah) (σ:St) (H:Hp) (Q:Bool→Hp→Prop),Inv X pins σ H s→t σ H Q→
  am (aq X.prog X.w) X.A (forIn ifs true λc r=>if r=true then do let ok ←isTrue c X.env (az c X.env);pure (eC ok) else pure (eC r)) (TP X pins σ Q) X.xe s
noncomputable def zBC:TT:=λ_ H Q=>Q true H
theorem zuL{X:Cx}:PTs X [] zBC:=λ_ _ _ H _ I h=>wpAny_tests_nil ⟨H,I,h⟩
theorem zvU{X:Cx}{c:Expr}{t:TT}(h:PT X c t):PTs X [c] t:=λpins s σ H Q I q=>wpAny_tests_one (h pins s σ H Q I q)
def zBd (X:Cx) (scope:Scope) (N:List Str) (tg:Expr) (ifs:List Expr) (elt:Expr) (l:Addr) (x:V) (σ:St) (H:Hp) (M:St→Hp→Prop):Prop:=
 ∀(s₀:ah) (H₀:Hp) (fp:List Addr) (pn:List (Addr×Obj)),∃(g:TG) (tt:TT) (te:TE),PG (zbI X scope N s₀ H₀ fp pn) tg g∧PTs (zbI X scope N s₀ H₀ fp pn) ifs tt∧PE (zbI X scope N s₀ H₀ fp pn) elt te∧
  g x σ H λσ2 H2=>tt σ2 H2 λb H3=>if b=true then te σ2 H3 λy H4=>∃ys,H4 l=ae (.lst ys)∧ys.length<sizeLine∧M σ2 (upd H4 l (.lst (ys++[y]))) else M σ2 H3
def zuB (X:Cx) (scope:Scope) (N:List Str) (k:Nat) (fr:List Nat) (tg:Expr) (ifs:List Expr) (elt:Expr) (σ:St) (Q:VK) (J:It) (H1:Hp):Prop:=∀l,H1 l=none→
 ∃W:Nat→Nat→St→Hp→Prop,(∃m,W 0 m (zmK σ k fr) (upd H1 l (.lst [])))∧ ∀i m σ' H',W i m σ' H'→
  (J.stop i H'∧Q (.ref l) H')∨(J.go i H'∧ ∃M:St→Hp→Prop,(∀σ'' H'',M σ'' H''→ ∃m',m'<m∧W (i+1) m' σ'' H'')∧ ∀x H2,J.yld i H' x H2→zBd X scope N tg ifs elt l x σ' H2 M)
noncomputable def ztq (X:Cx) (scope:Scope) (N:List Str) (k:Nat) (fr:List Nat) (tg:Expr) (ifs:List Expr) (elt:Expr) (wi:TI):TE:=λσ H Q=>wi σ H λJ H1=>zuB X scope N k fr tg ifs elt σ Q J H1
theorem zkw{X:Cx}{use:Option (Value→b9 Unit)}{Qf:Value→ah→Prop}{pins:List (Addr×Obj)}{s:ah}{σ:St}{H:Hp}{Q:VK}{scope:Scope}{N:List Str}{k:Nat}{fr:List Nat}{tg iter elt:Expr}{ifs:List Expr}{wi:TI}{pos:aB}(hx:X.xe=λ_ _=>False) (hc:X.calm=true) (S:CompSc X scope N k fr) (hi:PI X tg iter wi) (I:Inv X pins σ H s)
  (fin:∀{s3 s6:ah}{H3 H5:Hp}{fp:List Addr}{σ5:St}{l:Addr}{a:Flow},Inv X pins σ H3 s3→(∀b∈fp,zjE X pins H3 b)→Inv (zbI X scope N s3 H3 fp pins) [] σ5 H5 s6→Q (.ref l) H5→compPost (aq X.prog X.w) X.A X.xe use Qf (.ref l) s3.heap.objs.size (.ok a) s6)
  (h:ztq X scope N k fr tg ifs elt wi σ H Q)
  (hs:∀x,dF iter X.env x=pure x:=by intro _;rfl):am (aq X.prog X.w) X.A (comprehension (.ListComp elt [⟨tg,iter,ifs,0⟩] scope pos) scope X.env (firstIterPos [⟨tg,iter,ifs,0⟩] pos) (newList []) (firstAsync [⟨tg,iter,ifs,0⟩]) (firstIter [⟨tg,iter,ifs,0⟩] X.env) use) Qf X.xe s:=by
 refine wpAny_comprehension_free (use:=use) rfl hs (zoo (S.hasCell I.ok)) S.kind S.loc' (thn (hi pins s σ H _ I h) λv s1 h1=>thn h1 λitv s2 h2=>?_);obtain⟨it,fp,tn,J,H2,e,I2,T,st2,f2,h2⟩:=h2;subst e;have fr2:H2 s2.heap.objs.size=none:=I2.hok.fresh (ap _);obtain⟨W,⟨m0,w0⟩,turn⟩:=h2 s2.heap.objs.size fr2;refine wpAny_newList ?_ (by show 0≤sizeLine;exact aS _);have I3:Inv X pins σ (upd H2 s2.heap.objs.size (.lst [])) { s2 with heap:=s2.heap.push { cls:= .type "list",data:= .seq ([]:List Value).toArray } }:=I2.lnew (t':=s2.toks) (ys:=[]) .nil (aS _);have old:∀b o,s2.heap.get? b=ae o→(s2.heap.push { cls:= .type "list",data:= .seq ([]:List Value).toArray }).get? b=ae o:=λb o e=>aJ _ e;have fpo2:∀b∈fp,∃o,s2.heap.get? b=ae o:=λb hb=>by
  obtain⟨o,e,_⟩:=T.obj _ _ st2 b hb;exact⟨o,e⟩
 have fpo:∀b∈fp,∃o,(s2.heap.push { cls:= .type "list",data:= .seq ([]:List Value).toArray }).get? b=ae o:=λb hb=>by
  obtain⟨o,e⟩:=fpo2 b hb;exact⟨o,old b o e⟩
 have f3:∀b∈fp,zjE X pins (upd H2 s2.heap.objs.size (.lst [])) b:=λb hb=>by
  obtain⟨o,e⟩:=fpo2 b hb;refine⟨?_,(f2 b hb).2⟩;rw[zaz (bA (aK e))];exact(f2 b hb).1
 generalize hs3:({ s2 with heap:=s2.heap.push { cls:= .type "list",data:= .seq ([]:List Value).toArray } }:ah)=s3 at I3⊢;have st3:tn 0 s3.heap:=by
  rw[←hs3];exact T.keep _ _ _ st2 λb _ o e=>old b o e
 have fpo3:∀b∈fp,∃o,s3.heap.get? b=ae o:=by rw[←hs3];exact fpo
 clear fpo old hs3;refine wpAny_newFunctionEnv S.cell' (by intro y hy;simp at hy) (λh1 hns1 hsb1=>?_) S.kind;have hk1:∀b o,s3.heap.get? b=ae o→h1.get? b=ae o:=λb o e=>hsb1.extBut b o (bA (aK e)) (aJ _ e);have I4:=ztr (tk:=s3.toks+([]:List (Str×Value)).length) I3 S f3 fpo3 hns1 hk1;have st4:tn 0 h1:=T.keep _ _ _ st3 λb _ o e=>hk1 b o e;have stat:∀{H':Hp},(∀b∈fp,H' b=none)→ ∀b∈fp,zjE (zbI X scope N s3 (upd H2 s2.heap.objs.size (.lst [])) fp pins) [] H' b:=λhn b hb=>zvE I3 S hb (f3 b hb) (fpo3 b hb) (hn b hb);have loop:∀s4:ah,s4={ s3 with heap:=h1,toks:=s3.toks+([]:List (Str×Value)).length }→
   dN (aq X.prog X.w) X.A (.compLoop (.ListComp elt [⟨tg,iter,ifs,0⟩] scope pos) 0 (.ref it) (.ref s2.heap.objs.size) (compEnvC scope (zhW X.env.cells scope.names []) s3.heap.objs.size X.env))
    (compPost (aq X.prog X.w) X.A X.xe use Qf (.ref s2.heap.objs.size) s3.heap.objs.size) s4:=by
  rintro s4 rfl;refine zlh (λn s'=>∃i σ' H',Inv (zbI X scope N s3 (upd H2 s2.heap.objs.size (.lst [])) fp pins) [] σ' H' s'∧tn i s'.heap∧(∀b∈fp,H' b=none)∧W i n σ' H') ?_ m0 ⟨0,_,_,I4,st4,λb hb=>(f3 b hb).1,w0⟩;rintro n s5 ⟨i,σ5,H5,I5,st5,fr5,w5⟩;rcases turn i n σ5 H5 w5 with⟨stop,qn⟩ |⟨go,M,hM,step⟩
  ·refine thn (T.done (zbI X scope N s3 (upd H2 s2.heap.objs.size (.lst [])) fp pins) rfl rfl rfl hc i [] s5 σ5 H5 _ I5 (stat fr5) st5 stop) λr s6 ⟨hr,I6⟩=>?_;subst hr;exact fin I3 f3 I6 qn
  ·refine thn (T.item (zbI X scope N s3 (upd H2 s2.heap.objs.size (.lst [])) fp pins) rfl rfl rfl hc i [] s5 σ5 H5 _ I5 (stat fr5) st5 go) λr s6 ⟨u,hr,h6⟩=>?_;subst hr;refine thn h6 λ_ s7 ⟨x,H7,I7,r7,y7,st7,fr7⟩=>?_;have I7':=I7.pinned (stat fr7) (T.obj _ _ st7);obtain⟨g,tt,te,hg,ht,he,q⟩:=step x H7 y7 s3 (upd H2 s2.heap.objs.size (.lst [])) fp pins;have again:∀{s8:ah}{σ8:St}{H8:Hp},Inv (zbI X scope N s3 (upd H2 s2.heap.objs.size (.lst [])) fp pins) ([]++zke fp s7.heap) σ8 H8 s8→M σ8 H8→
     ∃m,m<n∧ ∃i σ' H',Inv (zbI X scope N s3 (upd H2 s2.heap.objs.size (.lst [])) fp pins) [] σ' H' s8∧tn i s8.heap∧(∀b∈fp,H' b=none)∧W i m σ' H':=λ{s8 σ8 H8} I8 n8=>by
    obtain⟨m',hm,w8⟩:=hM σ8 H8 n8;refine⟨m',hm,i+1,σ8,H8,I8.unpinned,T.keep _ _ _ st7 λb hb o e=>(I8.pin (b,o) (cE _ (cE _ (zeF hb e)))).1,λb hb=>?_,w8⟩;obtain⟨o,e,d⟩:=T.obj _ _ st7 b hb;exact(I8.pin (b,o) (cE _ (cE _ (zeF hb e)))).2.1
   refine thn (hg _ s7 σ5 H7 x u _ I7' r7 q) λ_ s8 ⟨σ8,H8,I8,q8⟩=>?_;refine thn (ht _ s8 σ8 H8 _ I8 q8) λb s9 ⟨H9,I9,q9⟩=>?_;cases b with
   |false=>exact again I9 q9
   |true=>
    refine thn (he _ s9 σ8 H9 _ I9 q9) λy s10 ⟨yv,H10,I10,r10,ys,hl,hz,qM⟩=>?_;exact thn (zlj _ s10 σ8 H10 (.ref s2.heap.objs.size) [yv] (.ref s2.heap.objs.size) [y] (λ_ H'=>M σ8 H') I10 rfl (.cons r10 .nil) ⟨_,ys,yv,rfl,rfl,hl,hz,qM⟩) λ_ s11 ⟨_,H11,I11,_,q11⟩=>again I11 q11
 exact codeAny_compStart_list (loop _ rfl) (T.self _ 0 _ _ _ st4 (loop _ rfl))
theorem zwt{X:Cx}{scope:Scope}{N:List Str}{k:Nat}{fr:List Nat}{tg iter elt:Expr}{ifs:List Expr}{wi:TI}{pos:aB}(hx:X.xe=λ_ _=>False) (hc:X.calm=true) (S:CompSc X scope N k fr) (hi:PI X tg iter wi)
  (hs:∀x,dF iter X.env x=pure x:=by intro _;rfl):PE X (.ListComp elt [⟨tg,iter,ifs,0⟩] scope pos) (ztq X scope N k fr tg ifs elt wi):=by
 intro pins s σ H Q I h;rw[eval_ListComp];refine zkw hx hc S hi I (λ{s3 s6 H3 H5 fp σ5 l a} I3 f3 I6 qn=>?_) h hs;obtain⟨m6,ns6,_⟩:=I6.loc;exact⟨m6,ns6,λh' sb=>⟨.ref l,H5,zkB I3 f3 I6 sb,rfl,qn⟩⟩
theorem zuT{X:Cx}{scope:Scope}{N:List Str}{k:Nat}{fr:List Nat}{tg iter elt:Expr}{ifs:List Expr}{wi:TI}{pos spos pos':aB}{i:Nat}{x:Str}(hx:X.xe=λ_ _=>False) (hc:X.calm=true) (S:CompSc X scope N k fr) (hi:PI X tg iter wi)
  (hN:X.N.Nodup) (hxi:X.N[i]? =ae x) (hxl:Loc X.env.scope x) (hw:di (.ListComp elt [⟨tg,iter,ifs,0⟩] scope pos) (ae (.Name x pos')) spos.line X.env=pure true) (hf:X.fn x=true∨X.env.scope.names.lookup x=ae .local)
  (hs:∀x,dF iter X.env x=pure x:=by intro _;rfl):PS X (.Assign [.Name x pos'] (.ListComp elt [⟨tg,iter,ifs,0⟩] scope pos) spos) (zAu (ztq X scope N k fr tg ifs elt wi) (zuS i)):=by
 intro pins s σ H D I h;rw[exec_Assign_Name_used x pos' _ spos hw];refine ak (wpAny_standAt (ak ?_));rw[arm_evalThenUse_ListComp];refine ak ?_;refine zkw (Qf:=λ_ s'=>am (aq X.prog X.w) X.A (pure ()) (λ_ s2=>am (aq X.prog X.w) X.A (pure Flow.next) (SP X pins D) X.xe s2) X.xe s') hx hc S hi I (λ{s3 s6 H3 H5 fp σ5 l a} I3 f3 I6 qn=>?_) h hs;have IX:Inv X pins σ H5 s6:=zkB (h':=s6.heap) I3 f3 I6 ⟨rfl,λ_ _=>rfl⟩;obtain⟨m6,ns6,_⟩:=I6.loc;have ns6:s6.heap.Ns s3.heap.objs.size m6:=ns6;have frC:H5 s3.heap.objs.size=none:=I6.free;have fC:zjE X pins H5 s3.heap.objs.size:=I3.fpOk (ap _) frC;refine kz (zkM IX hN hxi hxl (v:= .ref l) rfl (λs7 I7 ⟨b,sb,hb⟩=>?_) hf);have hbC:s3.heap.objs.size≠b:=by
  rcases hb with rfl |hb
  ·exact fC.2.1
  ·exact bu (fC.2.2.2.2.1 _ _ hb)
 refine⟨m6,ns6.sameBut sb hbC,λh' sb2=>aD (aD ⟨_,H5,?_,qn⟩)⟩;refine Inv.call' (s':={ s7 with heap:=h' }) (ch:=[s3.heap.objs.size]) I7 rfl ⟨λc o e n hfs hex=>?_,λc o e n hfs hex=>?_,λc o e n _=>n,λc o e hex=>?_,λ_ _ q=>q,λ_ _ _ q=>q,λ_ ps q=>⟨#[],by simpa using q⟩⟩ (λc o e=>?_) I7.bare λc hcm=>?_
 ·exact(sb2.2 c (λz=>hex (by simp [z]))).trans e
 ·exact⟨o.slots,(sb2.2 c (λz=>hex (by simp [z]))).trans e⟩
 ·exact⟨o,(sb2.2 c (λz=>hex (by simp [z]))).trans e⟩
 ·refine(I7.hok c o e).stay (λd v hd q=>(sb2.2 d ?_).trans q) (λ_ q=>q) λ_ _ q=>q;rintro rfl;rcases hd with rfl |hd
  ·rw[frC]at e;cases e
  ·rw[frC]at hd;cases hd
 ·rw[bz.mp hcm];exact⟨fC.2.2.2.1,fC.2.1,fC.2.2.2.2.1,fC.2.2.2.2.2⟩
noncomputable def Its (x:Str):It:=⟨λi _=>i<x.cps.size,λi H v H'=>H'=H∧ ∃c,x.cps[i]? =ae c∧v= .str ⟨#[c]⟩,λi _=>i=x.cps.size⟩
theorem zmw{P:aE}{w:aC}{K:aj}{tg:Expr}(it:Addr) (x:Str) (t:bq) (ty:String)
    (hn: ["enumerate", "zip", "dict_itemiterator", "dict_reverseitemiterator", "odict_iterator", "itertools.zip_longest", "itertools.pairwise"].contains ty=false)
    (hW:∀A':aQ,A'.handled=none→eL P w A' it [it] [it] x.cps.size (SignAt x) (λi h=>h.IsStrIter it ty x t i))
    (hself:∀(A:aQ) (i:Nat) (s:ah) (Q:Value→ah→Prop) (E:Value→ah→Prop),s.heap.IsStrIter it ty x t i→Q (.ref it) s→am (aq P w) A (dm (.ref it)) Q E s) :
    Turn P w K tg (Its x) [it] it (λi h=>h.IsStrIter it ty x t i) where
  mem:=by simp
  obj:=λi h st b hb=>by
    have e:b=it:=by simpa using hb
    subst e;obtain⟨o,e,c,d⟩:=st;exact⟨o,e,λv z=>by rw[d]at z;cases z⟩
  keep:=λi h h' st k=>by
    obtain⟨o,e,r⟩:=st;exact⟨o,k it (by simp) o e,r⟩
  item:=by
    intro X hP hw hK hc i pins s σ H E I hf st hg;subst hP hw hK;obtain⟨f0,f1,f2,f3,f4,f5⟩:=hf it (by simp);refine(hW X.A (I.ok.hd hc)).item i s _ _ hg st λv h' tk hv st' kk=>?_;obtain⟨c,u,hc',rfl⟩:=hv;have I1:Inv X pins σ H { s with heap:=h',toks:=tk }:=I.turned (λb o hb e=>kk b o (by simpa using hb) e) f0 f1 f3 f4 f5;obtain⟨o,e,c',d⟩:=id st';exact⟨_,rfl,zrF (s:={ s with heap:=h',toks:=tk }) e c' d hn ⟨.str ⟨#[c]⟩,H,I1,⟨u,rfl⟩,⟨rfl,c,hc',rfl⟩,st',λb hb=>(hf b hb).1⟩⟩
  done:=by
    intro X hP hw hK hc i pins s σ H E I hf st hg;subst hP hw hK;obtain⟨f0,f1,f2,f3,f4,f5⟩:=hf it (by simp);have hi:i=x.cps.size:=hg;subst hi;exact(hW X.A (I.ok.hd hc)).done s _ _ st λh' tk kk=>⟨rfl,I.turned (λb o hb e=>kk b o (by simpa using hb) e) f0 f1 f3 f4 f5⟩
  self:=hself
def TupsOn (H H':Hp):Prop:=∀b xs,H b=ae (.tup xs)→H' b=ae (.tup xs)
theorem TupsOn.trans{H H1 H2:Hp}(a:TupsOn H H1) (b:TupsOn H1 H2):TupsOn H H2:=λc xs h=>b c xs (a c xs h)
section
variable {X:Cx}
def zCm:V→Option Int→Option Int→Hp→VK→Prop:=λx lo hi H Q=>∃z,x= .str z∧z.length≤sizeLine∧Q (.str (cL z lo hi)) H
theorem sl_str:SlR X zCm:=by
 intro pins s σ H x v vl vu lo hi sl Q I rx hs pl pu h;obtain⟨z,rfl,hz,q⟩:=h;obtain⟨t,rfl⟩:=rx;refine⟨"str",_,F.slot_str_getitem.lookup,iC _ _ _,?_⟩;obtain⟨o,ho,hc,hd⟩:=hs;have fin:∀t' k,EP X pins σ Q (.str (cL z lo hi) t') { s with toks:=k }:=λt' k=>⟨.str _,H,I.tok _,⟨t',rfl⟩,q⟩;have le:=a9 (Txt.slice_le z lo hi) hz;cases pl with
 |none=>
  cases pu with
  |none=>exact fW (l:=none) (u:=none) (st:=none) ⟨o,ho,hc,hd⟩ rfl (fH ⟨le,fin⟩)
  |int j u=>exact fW (l:=none) (u:=ae (j,u)) (st:=none) ⟨o,ho,hc,hd⟩ rfl (fH ⟨le,fin⟩)
 |int i w=>
  cases pu with
  |none=>exact fW (l:=ae (i,w)) (u:=none) (st:=none) ⟨o,ho,hc,hd⟩ rfl (fH ⟨le,fin⟩)
  |int j u=>exact fW (l:=ae (i,w)) (u:=ae (j,u)) (st:=none) ⟨o,ho,hc,hd⟩ rfl (fH ⟨le,fin⟩)
noncomputable def zzx (xs:List Nat) (lo hi:Option Int):List Nat:=(xs.drop (HT.sIx xs.length 0 lo)).take (HT.sIx xs.length xs.length hi - HT.sIx xs.length 0 lo)
theorem ztE (lo hi:Option Int) (n:Nat):f_ lo hi 1 n=sliceRange ((HT.sIx n 0 lo:Nat):Int) ((HT.sIx n n hi:Nat):Int) 1:=by
 have one:(1:Int) > 0:=by decide
 have a:∀(v:Option Int) (d:Nat),(match v with |none=>(d:Int) |some i=>(if(1:Int) > 0 then max 0 (min (if i<0 then i+(n:Int) else i) (n:Int)) else max (-1) (min (if i<0 then i+(n:Int) else i) ((n:Int) - 1))))=((HT.sIx n d v:Nat):Int):=by
  intro v d;cases v with
  |none=>rfl
  |some i=>
   simp only[HT.sIx,one,if_true];by_cases h:i<0
   ·simp only[h,if_true];omega
   ·simp only[h,if_false];omega
 have l:=a lo 0;have u:=a hi n;unfold f_;simp only[one,if_true]at l u⊢
 first
  |rw[l,u]
  | (cases lo<;>cases hi<;>simp_all)
theorem zpm (z:Str) (lo hi:Option Int):(cL z lo hi).cps.toList=zzx z.cps.toList lo hi:=by
 have hn:z.length=z.cps.toList.length:=by simp [gD]
 have hp:(f_ lo hi 1 z.length).filterMap (z.cps[·]?)=zzx z.cps.toList lo hi:=by
  rw[ztE,gL,gy,hn];rfl
 unfold cL;split
 ·rename_i h;have h1:(f_ lo hi 1 z.length).length=z.length:=by simpa using h
  rw[ztE,gL,ax,jF]at h1;have le1:=HT.sIx_le z.length z.length (ap _) hi;unfold zzx;rw[←hn];have e0:HT.sIx z.length 0 lo=0∨z.length=0:=by omega
  have hz:z.cps.toList.length=z.length:=hn.symm;rcases e0 with e0 |e0
  ·rw[e0,cG,du (by omega)]
  ·have:z.cps.toList=[]:=gR (by omega);rw[this];simp
 ·show(List.filterMap _ _).toArray.toList=_;rw[hp]
theorem zsN:CallR X (.builtin "isinstance") (λxs H Q=>∃x t c b,xs=[x, .ty c]∧TyOf X.K H x t∧eX X.K t (.type c)=ae b∧Q (.bl b) H):=by
 intro pins s σ H xs us Q I r h;obtain⟨x,t,c,b,rfl,ty,e,q⟩:=h;obtain⟨u,v,rfl,rx,ry⟩:=zzk r;cases(show v=gT c from ry);exact zql I rx ty e λtk=>⟨.bl b,H,I.tok _,rfl,q⟩
end
section
variable {X:Cx}
theorem zfi (l:Addr) (items:Array Value) (n:Nat) (b:Addr) (items2:Array Value) (n2:Nat) (dd:Option Addr) (sl:Array (Option Value)) (hs0:¬(!items.isEmpty&&er (items.size+items2.size))=true) (hs1:items.size≤sizeLine) (hs2:items.size+items2.size≤sizeLine+1) :
  Meets (b4.«list.extend» ⟨[.ref l, .ref b],[]⟩) (λ_ R s=>s.heap.get? l=ae { cls:= .type "list",dict:=none,data:= .seq items n,slots:= #[] }∧s.heap.get? b=ae { cls:= .type "tuple",dict:=dd,data:= .seq items2 n2,slots:=sl }∧R (.ok (.ret cu)) { s with heap:=s.heap.update l (i' λx=>x++items2),toks:=s.toks }):=
 .of_wp λprog w A R s h=>by
  obtain⟨hp,g,d,tk,os⟩:=s;obtain⟨hl,hb,h⟩:=h;have f1:=AutoSeq1.idx_int;have f2:=AutoSeq1.sub_tuple_tuple;have f3:=AutoSeq1.sub_list_list;have f4:=AutoSeq1.sub_tuple_list;have f5:=AutoSeq1.sub_list_tuple;have hz':(items++items2).size≤sizeLine+1:=by rw[Array.size_append];exact hs2
  wp_walk using(wpAny_updateSeq hl rfl (hz:=hs1) (_hz':=hz')),jX hl,jX hb;exact⟨_,rfl,h⟩
def znM (K:aj):V→List V→Hp→VK→Prop:=λx vs H Q=>∃l b xs zs,x= .ref l∧vs=[.ref b]∧H l=ae (.lst xs)∧SqT K H b zs∧xs.length+zs.length≤sizeLine∧Q .non (upd H l (.lst (xs++zs)))
theorem zoh:MtM X "list.extend" (znM X.K):=by
 intro pins s σ H x vs v us Q I rx rv h;obtain⟨l,b,xs,zs,rfl,rfl,hH,hB,hz,q⟩:=h;cases rx;obtain⟨u,rfl,ru⟩:=rv.one;cases ru;obtain⟨z,its,n,r,hl,e⟩:=I.lstM hH;obtain⟨its2,r2,ht,hz2⟩:=I.tuple hB;obtain⟨⟨cls,dd,data,sl⟩,e2,hc,n2,hd⟩:=ht;simp only at hc hd;subst hc hd;have hl2:=r2.length;have hsz:its.toArray.size+its2.toArray.size≤sizeLine:=by rw[aU,aU];omega
 have hlong:¬(!its.toArray.isEmpty&&er (its.toArray.size+its2.toArray.size))=true:=by
  rw[ziT hsz,fM];exact c8
 refine eA jL ⟨_,e,rfl⟩ iW (iX _ _)
  (zfi l its.toArray n b its2.toArray n2 dd sl hlong (by rw[aU];omega) (by omega)) ⟨e,e2,?_⟩
 refine⟨.non,_,I.lset (its':=its++its2) hH e (by simp) (r.append r2) ?_,rfl,q⟩;rw[aM];omega
def zxH (K:aj):V→List V→Hp→VK→Prop:=λx vs H Q=>∃(z:Str) (b:Addr) (ys:List Str),x= .str z∧vs=[.ref b]∧SqL K H b (ys.map V.str)∧(ys.map (·.length)).sum+ys.length*z.length≤16777216∧Q (.str (cW z ys)) H
theorem zvq{ys:List Str}:∀{us:List Value},Vals (ys.map V.str) us→StrsAre us ys:=by
 induction ys with
 |nil=>
  intro us r;cases r;exact .nil
 |cons y ys ih=>
  intro us r;cases r with
  |cons a b=>
   obtain⟨t,rfl⟩:=a;exact .cons y t (ih b)
theorem zwz:MtM X "str.join" (zxH X.K):=by
 intro pins s σ H x vs v us Q I rx rv h;obtain⟨z,b,ys,rfl,rfl,hB,hz,q⟩:=h;obtain⟨t,rfl⟩:=rx;obtain⟨u,rfl,ru⟩:=rv.one;cases ru;obtain⟨its,r,pl,_⟩:=I.list hB;refine join_list pl.isList (by simpa using zvq r) hz λt' k=>⟨.str (cW z ys),H,I.tok _,⟨t',?_⟩,q⟩;show fe (b4.Str.glued z ys) t'=_;rw[StrLaws.glued_eq_join]
end
inductive W where
  |non |bl (b:Bool) |int (i:Int) |str (x:Str) |tup (ws:List W) |ref (a:Addr) |scr (ns:List Int)
inductive Ob where
  |lst (ws:List W)
  |dct (kvs:List (List Int×W))
  |dk (kvs:List (Key×W))
  |ins (C:Addr) (fs:List (Str×W))
abbrev Sto:=Addr→Option Ob
noncomputable def put (S:Sto) (a:Addr) (o:Ob):Sto:=λb=>if b=a then ae o else S b
def FzL (K:aj) (H:Hp) (a:Addr) (xs:List V):Prop:=
 (∃o,H a=ae (.frz o (.lst xs)))∨
  ∃(o:Obj) (its:Array Value) (n:Nat),K.lookup a=ae o∧o.cls= .type "list" ∧o.dict=none∧o.data= .seq its n∧its.size≤sizeLine∧Vals xs its.toList
mutual
inductive Rep (K:aj) (H:Hp):W→V→Prop
 |non:Rep K H .non .non
 |bl (b:Bool):Rep K H (.bl b) (.bl b)
 |int (i:Int):Rep K H (.int i) (.int i)
 |str (x:Str):Rep K H (.str x) (.str x)
 |ref (a:Addr):Rep K H (.ref a) (.ref a)
 |scr {a:Addr}{ns:List Int}:FzL K H a (ns.map V.int)→Rep K H (.scr ns) (.ref a)
 |tup {a:Addr}{vs:List V}{ws:List W}:H a=ae (.tup vs)→Reps K H ws vs→Rep K H (.tup ws) (.ref a)
inductive Reps (K:aj) (H:Hp):List W→List V→Prop
 |nil:Reps K H [] []
 |cons {w:W}{v:V}{ws:List W}{vs:List V}:Rep K H w v→Reps K H ws vs→Reps K H (w::ws) (v::vs)
end
structure Ext (H:Hp) (S:Sto) (H':Hp) (S':Sto):Prop where
  tup:∀b xs,H b=ae (.tup xs)→H' b=ae (.tup xs)
  frz:∀b o u,H b=ae (.frz o u)→H' b=ae (.frz o u)
  fr:∀b xs,H b=ae (.lst xs)→S b=none→H' b=ae (.lst xs)∧S' b=none
  all:∀b o,H b=ae o→ ∃o',H' b=ae o'
def Sub (S S':Sto):Prop:=∀a o,S a=ae o→S' a=ae o
section
variable {K:aj}{H H' H1 H2:Hp}{S S' S1 S2:Sto}
theorem zag{a:Addr}{o:Ob}:put S a o a=ae o:=by unfold put;rw[if_pos rfl]
theorem zaD{a b:Addr}{o:Ob}(h:b≠a):put S a o b=S b:=by unfold put;rw[if_neg h]
theorem zba{a:Addr}{o o':Ob}:put (put S a o) a o'=put S a o':=by funext b;unfold put;split<;>rfl
theorem Ext.refl:Ext H S H S:=⟨λ_ _ h=>h,λ_ _ _ h=>h,λ_ _ h g=>⟨h,g⟩,λ_ o h=>⟨o,h⟩⟩
theorem Ext.trans (a:Ext H S H1 S1) (b:Ext H1 S1 H2 S2):Ext H S H2 S2:=⟨λc xs h=>b.tup c xs (a.tup c xs h),λc o u h=>b.frz c o u (a.frz c o u h),
 λc o h g=>by
  obtain⟨h1,g1⟩:=a.fr c o h g;exact b.fr c o h1 g1,λc o h=>by
  obtain⟨o1,h1⟩:=a.all c o h;exact b.all c o1 h1⟩
theorem Ext.new{p:Addr}{o:HO}(h:H p=none):Ext H S (upd H p o) S:=
  ⟨λb xs e=>by rw[zaz (zau e h)];exact e,λb ob u e=>by rw[zaz (zau e h)];exact e,
   λb ob e g=>⟨by rw[zaz (zau e h)];exact e,g⟩,λb ob e=>⟨ob,by rw[zaz (zau e h)];exact e⟩⟩
theorem Ext.newS{p:Addr}{o:HO}{ob:Ob}(h:H p=none):Ext H S (upd H p o) (put S p ob):=
  ⟨λb xs e=>by rw[zaz (zau e h)];exact e,λb ob u e=>by rw[zaz (zau e h)];exact e,
   λb ob e g=>⟨by rw[zaz (zau e h)];exact e,by rw[zaD (zau e h)];exact g⟩,λb ob e=>⟨ob,by rw[zaz (zau e h)];exact e⟩⟩
theorem Ext.mut{p:Addr}{o u:HO}{ob ob0:Ob}(h:H p=ae u) (hs:S p=ae ob0) (ht:∀xs,u≠ .tup xs) (hf:∀ob q,u≠ .frz ob q):Ext H S (upd H p o) (put S p ob):=
  ⟨λb xs e=>by rw[zaz (zpB e h λz=>ht xs z.symm)];exact e,λb ob q e=>by rw[zaz (zpB e h λz=>hf ob q z.symm)];exact e,
   λb ob e g=>by
     have hb:b≠p:=by rintro rfl;rw[hs]at g;cases g
     exact⟨by rw[zaz hb];exact e,by rw[zaD hb];exact g⟩,λb ob e=>by
     by_cases hb:b=p
     · subst hb;exact⟨o,zay⟩
     · exact⟨ob,by rw[zaz hb];exact e⟩⟩
theorem Ext.lst{p:Addr}{o:HO}{ob ob0:Ob}{xs:List V}(h:H p=ae (.lst xs)) (hs:S p=ae ob0):Ext H S (upd H p o) (put S p ob):= .mut h hs (λ_ z=>nomatch z) λ_ _ z=>nomatch z
theorem Ext.drop (h:Sub S' S):Ext H S H S':=⟨λ_ _ h=>h,λ_ _ _ h=>h,λb o e g=>⟨e,by
 cases q:S' b with
 |none=>rfl
 |some z=>rw[h b z q]at g;cases g⟩,λ_ o h=>⟨o,h⟩⟩
theorem Ext.free (e:Ext H S H' S') {p:Addr}(h:H' p=none):H p=none:=by
 cases q:H p with
 |none=>rfl
 |some o=>obtain⟨o',z⟩:=e.all p o q;rw[h]at z;cases z
theorem Ext.fz{a:Addr}{xs:List V}(e:Ext H S H' S') (h:FzL K H a xs):FzL K H' a xs:=by
 rcases h with⟨o,h⟩ |h
 ·exact .inl ⟨o,e.frz _ _ _ h⟩
 ·exact .inr h
theorem FzL.sq{a:Addr}{xs:List V}(h:FzL K H a xs):SqL K H a xs:=by
 rcases h with⟨o,h⟩ |h
 ·exact .inl (.inr ⟨o,h⟩)
 ·exact .inr h
mutual
theorem Rep.ext (e:Ext H S H' S') {w:W}{v:V}:Rep K H w v→Rep K H' w v
 | .non=> .non
 | .bl b=> .bl b
 | .int i=> .int i
 | .str x=> .str x
 | .ref a=> .ref a
 | .scr h=> .scr (e.fz h)
 | .tup h hs=> .tup (e.tup _ _ h) (Reps.ext e hs)
theorem Reps.ext (e:Ext H S H' S') {ws:List W}{vs:List V}:Reps K H ws vs→Reps K H' ws vs
 | .nil=> .nil
 | .cons h hs=> .cons (Rep.ext e h) (Reps.ext e hs)
end
theorem Reps.length:∀{ws:List W}{vs:List V},Reps K H ws vs→ws.length=vs.length
 |_,_, .nil=>rfl
 |_,_, .cons _ hs=>congrArg (· +1) (Reps.length hs)
theorem Reps.get:∀{ws:List W}{vs:List V}{i:Nat}{w:W},Reps K H ws vs→ws[i]? =ae w→ ∃v,vs[i]? =ae v∧Rep K H w v
 |_,_,_,_, .nil,e=>by simp at e
 |_,_,0,_, .cons h _,e=>by simp at e;subst e;exact⟨_,rfl,h⟩
 |_,_,i+1,w, .cons _ hs,e=>by
  obtain⟨v,h1,h2⟩:=Reps.get (i:=i) (w:=w) hs (by simpa using e);exact⟨v,by simpa using h1,h2⟩
theorem Reps.append:∀{ws us:List W}{vs xs:List V},Reps K H ws vs→Reps K H us xs→Reps K H (ws++us) (vs++xs)
 |_,_,_,_, .nil,h=>h
 |_,_,_,_, .cons r t,h=> .cons r (Reps.append t h)
theorem Reps.take:∀{ws:List W}{vs:List V}(n:Nat),Reps K H ws vs→Reps K H (ws.take n) (vs.take n)
 |_,_,0,_=> .nil
 |_,_,_+1, .nil=> .nil
 |_,_,n+1, .cons r t=> .cons r (Reps.take n t)
theorem Reps.drop:∀{ws:List W}{vs:List V}(n:Nat),Reps K H ws vs→Reps K H (ws.drop n) (vs.drop n)
 |_,_,0,r=>r
 |_,_,_+1, .nil=> .nil
 |_,_,n+1, .cons _ t=>Reps.drop n t
theorem Reps.one{w:W}{v:V}(h:Rep K H w v):Reps K H [w] [v]:= .cons h .nil
theorem Reps.ofInts:∀(ns:List Int),Reps K H (ns.map W.int) (ns.map V.int)
 | []=> .nil
 |n::ns=> .cons (.int n) (Reps.ofInts ns)
end
noncomputable def RepO (K:aj) (H:Hp) (a:Addr):Ob→Prop
 | .lst ws=>∃vs,H a=ae (.lst vs)∧Reps K H ws vs
 | .dct kvs=>∃ps:List (List Key×V),H a=ae (.dT ps)∧aP (λq p=>p.1=q.1.map Sum.inl∧Rep K H q.2 p.2) kvs ps
 | .dk kvs=>∃ps:List (Key×V),H a=ae (.dK ps)∧aP (λq p=>p.1=q.1∧Rep K H q.2 p.2) kvs ps
 | .ins C fs=>∃(dx:Addr) (ps:List (Str×V)),H a=ae (.ins C dx ps)∧aP (λq p=>p.1=q.1∧Rep K H q.2 p.2) fs ps
def RepS (K:aj) (H:Hp) (S:Sto):Prop:=∀a o,S a=ae o→RepO K H a o
section
variable {K:aj}{H H':Hp}{S S' S0 S0':Sto}{a b p:Addr}{o:Ob}
theorem Sub.refl:Sub S S:=λ_ _ h=>h
theorem Sub.trans{S1 S2 S3:Sto}(h:Sub S1 S2) (g:Sub S2 S3):Sub S1 S3:=λa o e=>g a o (h a o e)
theorem Sub.new (h:S a=none):Sub S (put S a o):=λb u e=>by rw[zaD (by rintro rfl;rw[h]at e;cases e)];exact e
theorem RepS.sub (h:RepS K H S') (q:Sub S S'):RepS K H S:=λa o e=>h a o (q a o e)
theorem RepO.some (h:RepO K H a o):∃u,H a=ae u:=by
 cases o with
 |lst ws=>obtain⟨vs,e,_⟩:=h;exact⟨_,e⟩
 |dct kvs=>obtain⟨vs,e,_⟩:=h;exact⟨_,e⟩
 |dk kvs=>obtain⟨vs,e,_⟩:=h;exact⟨_,e⟩
 |ins C fs=>obtain⟨_,vs,e,_⟩:=h;exact⟨_,e⟩
theorem RepS.free (h:RepS K H S) (e:H p=none):S p=none:=by
 cases q:S p with
 |none=>rfl
 |some o=>obtain⟨u,z⟩:=(h p o q).some;rw[e]at z;cases z
theorem RepO.keep (e:Ext H S0 H' S0') (k:∀u,H a=jH u→H' a=jH u) (h:RepO K H a o):RepO K H' a o:=by
 cases o with
 |lst ws=>obtain⟨vs,e1,r⟩:=h;exact⟨vs,k _ e1,r.ext e⟩
 |dct kvs=>obtain⟨vs,e1,r⟩:=h;exact⟨vs,k _ e1,Paired.mapP r λ_ _ z=>⟨z.1,z.2.ext e⟩⟩
 |dk kvs=>obtain⟨vs,e1,r⟩:=h;exact⟨vs,k _ e1,Paired.mapP r λ_ _ z=>⟨z.1,z.2.ext e⟩⟩
 |ins C fs=>obtain⟨dx,vs,e1,r⟩:=h;exact⟨dx,vs,k _ e1,Paired.mapP r λ_ _ z=>⟨z.1,z.2.ext e⟩⟩
theorem RepS.new{u:HO}(h:RepS K H S) (e:H p=none):RepS K (upd H p u) S:=λa o q=>
 (h a o q).keep (.new (S:=S) e) λv z=>by rw[zaz (zau z e)];exact z
theorem RepS.put_lst{ws:List W}{vs:List V}(h:RepS K H S) (e:H p=none) (r:Reps K (upd H p (.lst vs)) ws vs):RepS K (upd H p (.lst vs)) (put S p (.lst ws)):=λa o q=>by
 by_cases ha:a=p
 ·subst ha;rw[zag]at q;cases q;exact⟨vs,zay,r⟩
 ·rw[zaD ha]at q;exact h.new e a o q
theorem RepS.set_lst{ws0 ws:List W}{vs:List V}(h:RepS K H S) (e:S a=ae (.lst ws0)) (r:Reps K H ws vs):Ext H S (upd H a (.lst vs)) (put S a (.lst ws))∧RepS K (upd H a (.lst vs)) (put S a (.lst ws)):=by
 obtain⟨vs0,e0,_⟩:=h a _ e;have x:Ext H S (upd H a (.lst vs)) (put S a (.lst ws)):= .lst e0 e;refine⟨x,λb o q=>?_⟩;by_cases hb:b=a
 ·subst hb;rw[zag]at q;cases q;exact⟨vs,zay,r.ext x⟩
 ·rw[zaD hb]at q;exact(h b o q).keep x λu z=>by rw[zaz hb];exact z
end
abbrev WSt:=List (Option W)
abbrev WK:=W→Sto→Prop
abbrev WX:=Str→WSt→Sto→Prop
abbrev WE:=WX→WSt→Sto→WK→Prop
abbrev WT:=WX→WSt→Sto→(Bool→Sto→Prop)→Prop
abbrev WA:=WX→WSt→Sto→(List W→Sto→Prop)→Prop
structure WEnds where
  nx:WSt→Sto→Prop
  rt:WK
  bk:WSt→Sto→Prop:=λ_ _=>False
  ct:WSt→Sto→Prop:=λ_ _=>False
abbrev WS:=WX→WEnds→WSt→Sto→Prop
abbrev WG:=W→WSt→Sto→(WSt→Sto→Prop)→Prop
abbrev WSp:=List W→Sto→WK→(Str→Sto→Prop)→Prop
abbrev WI:=WX→WSt→Sto→(List W→(Sto→Prop)→Sto→Prop)→Prop
abbrev WL:=WX→WSt→Sto→(List W→Sto→Prop)→Prop
noncomputable def RpO (K:aj) (H:Hp):Option W→Option V→Prop
 |none,_=>True
 |some w,ae v=>Rep K H w v
 |some _,none=>False
def RpSt (K:aj) (H:Hp) (σW:WSt) (σ:St):Prop:=aP (RpO K H) σW σ
section
variable {K:aj}{H H':Hp}{S S':Sto}
theorem RpO.ext (e:Ext H S H' S'):∀{w:Option W}{v:Option V},RpO K H w v→RpO K H' w v
 |none,_,_=>trivial
 |some _,ae _,h=>Rep.ext e h
 |some _,none,h=>h.elim
theorem RpSt.ext (e:Ext H S H' S') {σW:WSt}{σ:St}(h:RpSt K H σW σ):RpSt K H' σW σ:=Paired.mapP h λ_ _ r=>RpO.ext e r
theorem RpSt.get:∀{σW:WSt}{σ:St}{i:Nat}{w:W},RpSt K H σW σ→σW[i]? =ae (ae w)→ ∃v,σ[i]? =ae (ae v)∧Rep K H w v
 |_,_,_,_, .nil,e=>by simp at e
 |_,_,0,_, .cons (b:=b) h _,e=>by
  simp at e;subst e;cases b with
  |none=>exact(show False from h).elim
  |some v=>exact⟨v,rfl,h⟩
 |_,_,i+1,w, .cons _ hs,e=>by
  obtain⟨v,h1,h2⟩:=RpSt.get (i:=i) (w:=w) hs (by simpa using e);exact⟨v,by simpa using h1,h2⟩
theorem RpSt.set{w:W}{v:V}(h:Rep K H w v):∀{σW:WSt}{σ:St}(i:Nat),RpSt K H σW σ→RpSt K H (σW.set i (ae w)) (σ.set i (ae v))
 |_,_,_, .nil=> .nil
 |_,_,0, .cons _ t=> .cons h t
 |_,_,i+1, .cons q t=> .cons q (RpSt.set h i t)
end
def Wish (K:aj) (H:Hp) (S:Sto) (QW:WK) (Q:VK):Prop:=∀w S' v H',Ext H S H' S'→Rep K H' w v→RepS K H' S'→QW w S'→Q v H'
noncomputable def zzy (K:aj) (t:WSt→Sto→WK→Prop):TE:=λσ H Q=>∃σW S QW,RpSt K H σW σ∧RepS K H S∧t σW S QW∧Wish K H S QW Q
noncomputable def zvi (K:aj) (t:WSt→Sto→(Bool→Sto→Prop)→Prop):TT:=λσ H Q=>∃σW S QW,RpSt K H σW σ∧RepS K H S∧t σW S QW∧ ∀b S' H',Ext H S H' S'→RepS K H' S'→QW b S'→Q b H'
noncomputable def zAi (K:aj) (t:WSt→Sto→(List W→Sto→Prop)→Prop):TA:=λσ H Q=>∃σW S QW,RpSt K H σW σ∧RepS K H S∧t σW S QW∧ ∀ws S' vs H',Ext H S H' S'→Reps K H' ws vs→RepS K H' S'→QW ws S'→Q vs H'
def Goes (K:aj) (H:Hp) (S:Sto) (P:WSt→Sto→Prop) (Q:St→Hp→Prop):Prop:=∀σW S' σ H',Ext H S H' S'→RpSt K H' σW σ→RepS K H' S'→P σW S'→Q σ H'
structure Meets (K:aj) (H:Hp) (S:Sto) (DW:WEnds) (D:Ends):Prop where
  nx:Goes K H S DW.nx D.nx
  rt:Wish K H S DW.rt D.rt
  bk:Goes K H S DW.bk D.bk
  ct:Goes K H S DW.ct D.ct
noncomputable def zxN (K:aj) (t:WEnds→WSt→Sto→Prop):TS:=λD σ H=>∃σW S DW,RpSt K H σW σ∧RepS K H S∧t DW σW S∧Meets K H S DW D
noncomputable def zAZ (K:aj) (t:WG):TG:=λv σ H Q=>∃w σW S P,Rep K H w v∧RpSt K H σW σ∧RepS K H S∧t w σW S P∧Goes K H S P Q
def ItW (K:aj) (J:It) (ws:List W) (G:Sto→Prop) (H0:Hp) (S0:Sto):Prop:=∀i S H,Ext H0 S0 H S→RepS K H S→G S→
 (∀w,ws[i]? =ae w→J.go i H∧ ∀x H',J.yld i H x H'→Ext H S H' S∧RepS K H' S∧Rep K H' w x)∧(i=ws.length→J.stop i H)
noncomputable def zxg (K:aj) (t:WSt→Sto→(List W→(Sto→Prop)→Sto→Prop)→Prop):TI:=λσ H R=>∃σW S QW,RpSt K H σW σ∧RepS K H S∧t σW S QW∧
 ∀ws G S' J H',Ext H S H' S'→RepS K H' S'→G S'→ItW K J ws G H' S'→QW ws G S'→R J H'
noncomputable def zwK (K:aj) (t:WSt→Sto→(List W→Sto→Prop)→Prop):TE:=λσ H Q=>∃σW S QW,RpSt K H σW σ∧RepS K H S∧t σW S QW∧
 ∀ws S' vs a H',Ext H S H' S'→H a=none→H' a=ae (.lst vs)→S' a=none→Reps K H' ws vs→RepS K H' S'→QW ws S'→Q (.ref a) H'
noncomputable def zdn (K:aj) (sp:WSp):Sp:=λvs H Q E=>∃ws S QW EW,Reps K H ws vs∧RepS K H S∧sp ws S QW EW∧Wish K H S QW Q∧
 ∀cl C S' H',aZ K aL cl=ae (ae (.ref C))→RepS K H' S'→EW cl S'→E (.ref C) none H'
def Fly (g h:Heap) (H:Hp) (a C:Addr):Prop:=g.get? a=none∧H a=none∧ ∃oe vs T oT ts,h.get? a=ae oe∧oe.cls= .ref C∧oe.data= .fields vs∧vs[1]? =ae (.ref T)∧
 g.get? T=none∧H T=none∧T≠a∧h.get? T=ae oT∧oT.data= .fields ts∧ts[3]? =ae .none
noncomputable def CX1 (P:aE) (w:aC):CXT:=λouter H s E e s'=>∃a C H',e= .ref a∧s'.os=s.os∧ce s'.gens∧Un (frs outer) [] H H' s.heap s'.heap∧HOk P w H' s'.heap∧Fly s.heap s'.heap H' a C∧E (.ref C) none H'
structure Hook (X:Cx) (E:WX):Prop where
  own:eQ (aq X.prog X.w) X.A X.env X.xe
  far:∀(pins:List (Addr×Obj)) (σ:St) (H:Hp) (s:ah) (σW:WSt) (cl:Str) (C a:Addr) (H':Hp) (S':Sto) (s':ah),Inv X pins σ H s→RpSt X.K H σW σ→aZ X.K aL cl=ae (ae (.ref C))→
    s'.os=s.os→ce s'.gens→Un (frs X.stack) [] H H' s.heap s'.heap→HOk X.prog X.w H' s'.heap→Fly s.heap s'.heap H' a C→RepS X.K H' S'→E cl σW S'→X.xe (.ref a) s'
  near:∀(pins:List (Addr×Obj)) (σ:St) (H:Hp) (s:ah) (σW:WSt) (cl:Str) (C a:Addr) (S:Sto) (h':Heap) (args:List Value),Inv X pins σ H s→RpSt X.K H σW σ→aZ X.K aL cl=ae (ae (.ref C))→
    Heap.MadeExcOf s.heap h' a (.ref C) args→RepS X.K H S→E cl σW S→X.xe (.ref a) { s with heap:=h' }
def JE (X:Cx) (e:Expr) (t:WE):Prop:=∀E,Hook X E→PE X e (zzy X.K (t E))
def JT (X:Cx) (e:Expr) (t:WT):Prop:=∀E,Hook X E→PT X e (zvi X.K (t E))
def JW (X:Cx) (e:Expr) (t:WT):Prop:=∀E,Hook X E→PW X e (zvi X.K (t E))
def JA (X:Cx) (es:List Expr) (t:WA):Prop:=∀E,Hook X E→PA X es (zAi X.K (t E))
def JS (X:Cx) (st:Stmt) (t:WS):Prop:=∀E,Hook X E→PS X st (zxN X.K (t E))
def JSs (X:Cx) (st:List Stmt) (t:WS):Prop:=∀E,Hook X E→PSs X st (zxN X.K (t E))
def JG (X:Cx) (tg:Expr) (t:WG):Prop:=∀E,Hook X E→PG X tg (zAZ X.K t)
def JI (X:Cx) (tg iter:Expr) (t:WI):Prop:=∀E,Hook X E→PI X tg iter (zxg X.K (t E))
def JL (X:Cx) (e:Expr) (t:WL):Prop:=∀E,Hook X E→PE X e (zwK X.K (t E))
theorem PE.mono{X:Cx}{e:Expr}{t t':TE}(h:PE X e t) (q:∀σ H Q,t' σ H Q→t σ H Q):PE X e t':=λpins s σ H Q I z=>h pins s σ H Q I (q σ H Q z)
theorem PT.mono{X:Cx}{e:Expr}{t t':TT}(h:PT X e t) (q:∀σ H Q,t' σ H Q→t σ H Q):PT X e t':=λpins s σ H Q I z=>h pins s σ H Q I (q σ H Q z)
theorem PW.mono{X:Cx}{e:Expr}{t t':TT}(h:PW X e t) (q:∀σ H Q,t' σ H Q→t σ H Q):PW X e t':=λwh pins s σ H Q I z=>h wh pins s σ H Q I (q σ H Q z)
theorem PA.mono{X:Cx}{e:List Expr}{t t':TA}(h:PA X e t) (q:∀σ H Q,t' σ H Q→t σ H Q):PA X e t':=λpos pins s σ H Q I z=>h pos pins s σ H Q I (q σ H Q z)
theorem PS.mono{X:Cx}{e:Stmt}{t t':TS}(h:PS X e t) (q:∀D σ H,t' D σ H→t D σ H):PS X e t':=λpins s σ H D I z=>h pins s σ H D I (q D σ H z)
theorem PSs.mono{X:Cx}{e:List Stmt}{t t':TS}(h:PSs X e t) (q:∀D σ H,t' D σ H→t D σ H):PSs X e t':=λpins s σ H D I z=>h pins s σ H D I (q D σ H z)
theorem PG.mono{X:Cx}{e:Expr}{t t':TG}(h:PG X e t) (q:∀v σ H Q,t' v σ H Q→t v σ H Q):PG X e t':=λpins s σ H v u Q I r z=>h pins s σ H v u Q I r (q v σ H Q z)
theorem PI.mono{X:Cx}{tg e:Expr}{t t':TI}(h:PI X tg e t) (q:∀σ H R,t' σ H R→t σ H R):PI X tg e t':=λpins s σ H R I z=>h pins s σ H R I (q σ H R z)
noncomputable def zae (i:Nat):WE:=λ_ σ S Q=>match σ[i]? with
 |some (ae w)=>Q w S
 |_=>False
noncomputable def wC (w:W):WE:=λ_ _ S Q=>Q w S
section
variable {X:Cx}
theorem jv (i:Nat) {x:Str}{pos:aB}(hN:X.N[i]? =ae x:=by rfl) (hv:Vis X.env.scope x:=by first |exact ai rfl |exact cq (ai rfl) |exact cq (cq rfl)) (hd:(x == ("__debug__" :Str))=false:=by decide)
  (hcd:(x == ("__classdict__" :Str))=false:=by decide):JE X (.Name x pos) (zae i):=λE hE=>(zyi hN hv hd hcd).mono λσ H Q ⟨σW,S,QW,hσ,hS,ht,hQ⟩=>by
 unfold zae at ht;split at ht
 ·rename_i w e;obtain⟨v,e',r⟩:=hσ.get e;exact⟨v,e',hQ w S v H .refl r hS ht⟩
 ·exact ht.elim
theorem zpY{e:Expr}{v:V}{w:W}(h:PE X e (tC v)) (r:∀K H,Rep K H w v):JE X e (wC w):=λE hE=>h.mono λσ H Q ⟨σW,S,QW,hσ,hS,ht,hQ⟩=>hQ w S v H .refl (r _ _) hS ht
theorem zaf{i j pos}:JE X (.Constant (.int i) j pos) (wC (.int i)):=zpY zyF λ_ _=> .int i
theorem zfY{b j pos}:JE X (.Constant (.bool b) j pos) (wC (.bl b)):=zpY zBa λ_ _=> .bl b
theorem zcl{j pos}:JE X (.Constant .none j pos) (wC .non):=zpY zyS λ_ _=> .non
theorem zgw{x j pos}:JE X (.Constant (.str x) j pos) (wC (.str x)):=zpY zxP λ_ _=> .str x
theorem zdC{x:Str}{i:Int}{u:bq}{pos:aB}(hg:Gl X x) (hm:X.mg x=ae (.int i u)) (hd:(x == ("__debug__" :Str))=false:=by decide):JE X (.Name x pos) (wC (.int i)):=zpY (v:= .int i) (zwa hg hm ⟨u,rfl⟩ hd) λ_ _=> .int i
end
abbrev W2:=W→W→Sto→WK→Prop
noncomputable def wOp (r:W2) (a b:WE):WE:=λE σ S Q=>a E σ S λx S1=>b E σ S1 λy S2=>r x y S2 Q
def OpW (K:aj) (r:R2) (wr:W2):Prop:=∀H x y wx wy S (Q:VK) (QW:WK),Rep K H wx x→Rep K H wy y→RepS K H S→wr wx wy S QW→Wish K H S QW Q→r x y H Q
theorem Wish.from{K:aj}{H H':Hp}{S S':Sto}{QW:WK}{Q:VK}(h:Wish K H S QW Q) (e:Ext H S H' S'):Wish K H' S' QW Q:=λw S v H'' e' r hS q=>h w S v H'' (e.trans e') r hS q
theorem Goes.from{K:aj}{H H':Hp}{S S':Sto}{P:WSt→Sto→Prop}{Q:St→Hp→Prop}(h:Goes K H S P Q) (e:Ext H S H' S'):Goes K H' S' P Q:=λσW S σ H'' e' r hS q=>h σW S σ H'' (e.trans e') r hS q
theorem Meets.from{K:aj}{H H':Hp}{S S':Sto}{DW:WEnds}{D:Ends}(h:Meets K H S DW D) (e:Ext H S H' S'):Meets K H' S' DW D:=⟨h.nx.from e,h.rt.from e,h.bk.from e,h.ct.from e⟩
section
variable {X:Cx}{a b:Expr}{pos:aB}
theorem zgP{K:aj}{ta tb:WSt→Sto→WK→Prop}{wr:W→W→Sto→WK→Prop}{σ:St}{H:Hp}{Q:VK}{R:V→V→Hp→Prop}
  (h:zzy K (λσ S Q=>ta σ S λx S1=>tb σ S1 λy S2=>wr x y S2 Q) σ H Q)
  (hR:∀H2 x y wx wy S (QW:WK),Rep K H2 wx x→Rep K H2 wy y→RepS K H2 S→wr wx wy S QW→Wish K H2 S QW Q→R x y H2) :
  zzy K ta σ H λx H1=>zzy K tb σ H1 λy H2=>R x y H2:=by
 obtain⟨σW,S,QW,hσ,hS,ht,hQ⟩:=h;refine⟨σW,S,_,hσ,hS,ht,λw1 S1 v1 H1 e1 r1 hS1 h1=>?_⟩;refine⟨σW,S1,_,hσ.ext e1,hS1,h1,λw2 S2 v2 H2 e2 r2 hS2 h2=>?_⟩;exact hR H2 v1 v2 w1 w2 S2 QW (r1.ext e2) r2 hS2 h2 (hQ.from (e1.trans e2))
theorem zoz{op:fB}{r:R2}{wr:W2}{ta tb:WE}(ho:OpR X (bQ op) r) (hw:OpW X.K r wr) (ha:JE X a ta) (hb:JE X b tb):JE X (.BinOp a op b pos) (wOp wr ta tb):=λE hE=>
 (zpZ ho (ha E hE) (hb E hE)).mono λσ H Q h=>zgP h λH2 x y wx wy S QW rx ry hS q hQ=>hw H2 x y wx wy S Q QW rx ry hS q hQ
theorem zuf{op:dA}{r:R2}{wr:W2}{ta tb:WE}(ho:OpR X (bH op) r) (hw:OpW X.K r wr) (ha:JE X a ta) (hb:JE X b tb) (hm:c6 op b=false):JE X (.Compare a [op] [b] pos) (wOp wr ta tb):=λE hE=>
 (zwk ho (ha E hE) (hb E hE) hm).mono λσ H Q h=>zgP h λH2 x y wx wy S QW rx ry hS q hQ=>hw H2 x y wx wy S Q QW rx ry hS q hQ
end
theorem ObjOk.ex{P:aE}{w:aC}{H:Hp}{h:Heap}{a:Addr}{o:HO}(x:ObjOk P w H h a o):∃u,h.get? a=ae u:=by
 cases o with
 |lst xs=>obtain⟨_,_,_,_,e⟩:=x;exact⟨_,e⟩
 |tup xs=>obtain⟨_,_,_,o,e,_⟩:=x;exact⟨_,e⟩
 |dK kvs=>obtain⟨_,_,_,_,o,_,_,e,_⟩:=x;exact⟨_,e⟩
 |dT kvs=>obtain⟨_,_,_,_,o,_,_,e,_⟩:=x;exact⟨_,e⟩
 |set S n=>obtain⟨o,_,_,_,e,_⟩:=x;exact⟨_,e⟩
 |ins C dx fs=>obtain⟨_,_,_,e,_⟩:=x;exact⟨_,e⟩
 |own y=>exact x
 |xd fs=>obtain⟨_,⟨_,_,_,e,_⟩,_⟩:=x;exact⟨_,e⟩
 |rng lo hi=>obtain⟨_,_,_,e⟩:=x;exact⟨_,e⟩
 |frz ob u=>obtain⟨e,_⟩:=x;exact⟨_,e⟩
 |tbl ps=>exact⟨_,show h.get? a=ae _ from x⟩
 |met f y=>exact⟨_,show h.get? a=ae _ from x⟩
 |ext φ=>exact x.2.1
noncomputable def unt (H:Hp) (S:Sto):Hp:=λb=>match H b with
 |some (.lst xs)=>match S b with
  |none=>none
  |some _=>ae (.lst xs)
 |o=>o
noncomputable def rtk (H:Hp) (S:Sto) (H':Hp):Hp:=λb=>match unt H S b with
 |none=>match H b with
  |some o=>ae o
  |none=>H' b
 |some _=>match H' b with
  |some o=>ae o
  |none=>ae (.ext λh=>∃o,h.get? b=ae o)
section
variable {w:aC}{K:aj}{H:Hp}{S:Sto}{h:Heap}{b:Addr}{o:HO}
theorem zmB (e:unt H S b=ae o):H b=ae o:=by
 unfold unt at e;split at e
 ·rename_i xs q;split at e
  ·cases e
  ·rw[q];exact e
 ·exact e
theorem zeZ (e:H b=none):unt H S b=none:=by unfold unt;rw[e]
theorem zno (e:H b=ae o) (n:∀xs,o≠ .lst xs):unt H S b=ae o:=by
 unfold unt;rw[e];cases o<;>first |rfl |exact absurd rfl (n _)
theorem znp{u:Ob}(e:H b=ae o) (hs:S b=ae u):unt H S b=ae o:=by
 unfold unt;rw[e];cases o<;>first |rfl | (dsimp only;rw[hs])
theorem zoY{xs:List V}(e:H b=ae (.lst xs)) (hs:S b=none):unt H S b=none:=by
 unfold unt;rw[e];dsimp only;rw[hs]
theorem zyJ (e:unt H S b=none) (q:H b=ae o):(∃xs,o= .lst xs)∧S b=none:=by
 unfold unt at e;rw[q]at e;cases o<;>first |cases e |skip;rename_i xs;dsimp only at e;split at e
 ·exact⟨⟨xs,rfl⟩, ‹_›⟩
 ·cases e
mutual
theorem Rep.mv{H1:Hp}(t:∀b xs,H b=ae (.tup xs)→H1 b=ae (.tup xs)) (f:∀b o u,H b=ae (.frz o u)→H1 b=ae (.frz o u)) {w:W}{v:V}:Rep K H w v→Rep K H1 w v
 | .non=> .non
 | .bl b=> .bl b
 | .int i=> .int i
 | .str x=> .str x
 | .ref a=> .ref a
 | .scr h=> .scr (by
  rcases h with⟨o,h⟩ |h
  ·exact .inl ⟨o,f _ _ _ h⟩
  ·exact .inr h)
 | .tup h hs=> .tup (t _ _ h) (Reps.mv t f hs)
theorem Reps.mv{H1:Hp}(t:∀b xs,H b=ae (.tup xs)→H1 b=ae (.tup xs)) (f:∀b o u,H b=ae (.frz o u)→H1 b=ae (.frz o u)) {ws:List W}{vs:List V}:Reps K H ws vs→Reps K H1 ws vs
 | .nil=> .nil
 | .cons h hs=> .cons (Rep.mv t f h) (Reps.mv t f hs)
end
theorem zfk:∀b xs,H b=ae (.tup xs)→unt H S b=ae (.tup xs):=λb xs e=>zno e λ_ z=>nomatch z
theorem zge:∀b o u,H b=ae (.frz o u)→unt H S b=ae (.frz o u):=λb o u e=>zno e λ_ z=>nomatch z
theorem RepS.unt (r:RepS K H S):RepS K (unt H S) S:=λa o e=>by
 have q:=r a o e;cases o with
 |lst ws=>obtain⟨vs,z,rs⟩:=q;exact⟨vs,znp z e,Reps.mv zfk zge rs⟩
 |dct kvs=>obtain⟨ps,z,rs⟩:=q;exact⟨ps,znp z e,Paired.mapP rs λ_ _ z=>⟨z.1,Rep.mv zfk zge z.2⟩⟩
 |dk kvs=>obtain⟨ps,z,rs⟩:=q;exact⟨ps,znp z e,Paired.mapP rs λ_ _ z=>⟨z.1,Rep.mv zfk zge z.2⟩⟩
 |ins C fs=>obtain⟨dx,ps,z,rs⟩:=q;exact⟨dx,ps,znp z e,Paired.mapP rs λ_ _ z=>⟨z.1,Rep.mv zfk zge z.2⟩⟩
theorem HOk.unt (x:HOk P w H h):HOk P w (unt H S) h:=λa o e=>
 (x a o (zmB e)).stay (λ_ _ _ q=>q) (λb q=>zno q λ_ z=>nomatch z) λb xs q=>zfk b xs q
theorem zeV (ok:HOk P w H h) (un:Un fs [] (unt H S) H' h h') (e:H' b=ae o):rtk H S H' b=ae o:=by
 unfold rtk;split
 ·rename_i q;split
  ·rename_i u z;obtain⟨ob,eo⟩:=(ok b u z).ex;rw[un.free b ob eo q (by simp)]at e;cases e
  ·exact e
 ·rw[e]
theorem znW (un:Un fs [] (unt H S) H' h h') (ok:HOk P w H h):Un fs [] H (rtk H S H') h h' where
  keep:=λb o e n hb hx=>un.keep b o e (zeZ n) hb hx
  slot:=λb o e n hb hx=>un.slot b o e (zeZ n) hb hx
  free:=λb o e n hx=>by
    unfold rtk;rw[zeZ n,n];exact un.free b o e (zeZ n) hx
  there:=un.there
  tups:=λb xs e=>zeV ok un (un.tups b xs (zfk b xs e))
  frzs:=λb o u e=>zeV ok un (un.frzs b o u (zge b o u e))
  tbls:=λb ps e=>by
    obtain⟨m,z⟩:=un.tbls b ps (zno e λ_ z=>nomatch z);exact⟨m,zeV ok un z⟩
theorem ztA (un:Un fs [] (unt H S) H' h h') (ok:HOk P w H h) (ok':HOk P w H' h') (hf:∀b∈fs,H b=none):HOk P w (rtk H S H') h':=λb o e=>by
 have back:∀{o},H' b=ae o→ObjOk P w (rtk H S H') h' b o:=λ{o} q=>(ok' b o q).stay (λ_ _ _ z=>z) (λc z=>zeV ok un z) λc xs z=>zeV ok un z;unfold rtk at e;split at e
 ·rename_i q;split at e
  ·rename_i u z;cases e;obtain⟨⟨xs,rfl⟩,_⟩:=zyJ q z;obtain⟨l,its,n,r,g⟩:=ok b _ z;exact⟨l,its,n,r,un.keep b _ g q (λhb=>by rw[hf b hb]at z;cases z) (by simp)⟩
  ·exact back e
 ·rename_i u q;split at e
  ·rename_i u' z;cases e;exact back z
  ·rename_i z;cases e;obtain⟨ob,eo⟩:=(ok b u (zmB q)).ex;obtain⟨ob',eo'⟩:=un.there b ob eo (by simp);exact⟨⟨ob',eo'⟩,⟨ob',eo'⟩,λh1 h2 ⟨o,z⟩ k=>⟨o,k o z⟩⟩
theorem zvb (e:H b=ae o):∃o',rtk H S H' b=ae o':=by
 unfold rtk;split
 ·rw[e];exact⟨_,rfl⟩
 ·split
  ·exact⟨_,rfl⟩
  ·exact⟨_,rfl⟩
theorem zqC (un:Un fs [] (unt H S) H' h h') (ok:HOk P w H h) (r:RepS K H' S'):Ext H S (rtk H S H') S' where
  tup:=λb xs e=>(znW un ok).tups b xs e
  frz:=λb o u e=>(znW un ok).frzs b o u e
  fr:=λb xs e hs=>by
    refine⟨?_,?_⟩
    · unfold rtk;rw[zoY e hs,e]
    · cases q:S' b with
      |none=>rfl
      |some u=>
        obtain⟨v,z⟩:=(r b u q).some;obtain⟨ob,eo⟩:=(ok b _ e).ex;rw[un.free b ob eo (zoY e hs) (by simp)]at z;cases z
  all:=λb o e=>zvb e
theorem ztV (un:Un fs [] (unt H S) H' h h') (ok:HOk P w H h):Ext H' S' (rtk H S H') S' where
  tup:=λb xs e=>zeV ok un e
  frz:=λb o u e=>zeV ok un e
  fr:=λb xs e hs=>⟨zeV ok un e,hs⟩
  all:=λb o e=>⟨o,zeV ok un e⟩
theorem zxi (un:Un fs [] (unt H S) H' h h') (ok:HOk P w H h) (r:RepS K H' S'):RepS K (rtk H S H') S':=λa o e=>(r a o e).keep (ztV (S':=S') un ok) λu z=>zeV ok un z
end
theorem zAs{X:Cx}{k:Nat}{f:Addr}{fd:bG}{ps:List Str}{c:WSp}{E:WX}{pins:List (Addr×Obj)}{σ:St}{σW:WSt}{H:Hp}{S:Sto}{s:ah}{Q:VK}{QW:WK}{us:List Value}{vs:List V}{ws:List W}
  (F:FnOk X.prog X.w X.K X.mg X.base (CX1 X.prog X.w) k f fd ps (zdn X.K c)) (hr:Room k X.A) (hb:Binds X.K fd ps []) (I:Inv X pins σ H s) (r:Vals vs us) (rs:Reps X.K H ws vs) (hσ:RpSt X.K H σW σ) (hS:RepS X.K H S)
  (h:c ws S QW λcl S'=>E cl σW S') (hQ:Wish X.K H S QW Q)
  (hx:∀(cl:Str) (C a:Addr) (H':Hp) (S':Sto) (s':ah),aZ X.K aL cl=ae (ae (.ref C))→s'.os=s.os→ce s'.gens→Un (frs X.stack) [] H H' s.heap s'.heap→HOk X.prog X.w H' s'.heap→Fly s.heap s'.heap H' a C→Ext H S H' S'→RepS X.K H' S'→E cl σW S'→X.xe (.ref a) s'):am (aq X.prog X.w) X.A (call (.ref f) us) (EP X pins σ Q) X.xe s:=by
 have e0:=I.env0;have sp:zdn X.K c vs (unt H S) (λv H'=>∃w S',Rep X.K H' w v∧RepS X.K H' S'∧QW w S') (λcv _ H'=>∃cl C S',cv= .ref C∧aZ X.K aL cl=ae (ae (.ref C))∧RepS X.K H' S'∧E cl σW S'):=
  ⟨ws,S,QW,_,Reps.mv zfk zge rs,hS.unt,h,λw S' v H' _ r1 r2 q=>⟨w,S',r1,r2,q⟩,λcl C S' H' hn hS' q=>⟨cl,C,S',rfl,hn,hS',q⟩⟩
 have e1:Env0 X.prog X.w X.K X.mg X.base X.A X.stack s (unt H S):=⟨e0.frames,e0.mod,λb o e=>⟨(e0.bs b o e).1,zeZ (e0.bs b o e).2⟩,e0.bsz,e0.funs,λb hb=>zeZ (e0.frf b hb),e0.hok.unt,e0.bare⟩;have hl:us.length=ps.length:=by rw[←r.length];exact F.len _ _ _ _ sp
 have hb':=hb s us I.kIn (by rw[bK];exact hl);rw[bK]at hb';refine wpAny_call (iR (F.run X.A X.stack s (unt H S) ⟨us,[]⟩ us vs _ _ hr e1 hb' r sp) λrr s' hq=>?_);cases rr with
 |error e=>
  obtain⟨a,C,H',rfl,os,bare,un,ok',fly,cl,C',S',ec,hn,hS',q⟩:=hq;cases ec;refine hx cl C a (rtk H S H') S' s' hn os bare (znW un I.hok) (ztA un I.hok ok' e0.frf) ?_ (zqC un I.hok hS') (zxi un I.hok hS') q;obtain⟨g1,g2,oe,vs',T,oT,ts,a1,a2,a3,a4,a5,a6,a7⟩:=fly;have free:∀{b:Addr},s.heap.get? b=none→H' b=none→rtk H S H' b=none:=λ{b} q1 q2=>by
   have hn:H b=none:=by
    cases z:H b with
    |none=>rfl
    |some u=>obtain⟨ob,eo⟩:=(I.hok b u z).ex;rw[q1]at eo;cases eo
   unfold rtk;rw[zeZ hn,hn];exact q2
  exact⟨g1,free g1 g2,oe,vs',T,oT,ts,a1,a2,a3,a4,a5,free a5 a6,a7⟩
 |ok fl=>
  cases fl with
  |ret u=>
   obtain⟨v,H',os,bare,un,ok',rv,w,S',r1,r2,q⟩:=hq;exact⟨v,rtk H S H',I.call' os (znW un I.hok) (ztA un I.hok ok' e0.frf) bare (λ_ z=>nomatch z),rv,hQ w S' v _ (zqC un I.hok r2) (r1.ext (ztV (S':=S') un I.hok)) (zxi un I.hok r2) q⟩
  |next=>exact cB hq
  |brk=>exact cB hq
  |cont=>exact cB hq
theorem zAp{X:Cx}{k:Nat}{f:Addr}{fd:bG}{ps:List Str}{c:WSp}{E:WX}{pins:List (Addr×Obj)}{σ:St}{σW:WSt}{H:Hp}{S:Sto}{s:ah}{Q:VK}{QW:WK}{us:List Value}{vs:List V}{ws:List W}
  (F:FnOk X.prog X.w X.K X.mg X.base (CX1 X.prog X.w) k f fd ps (zdn X.K c)) (hr:Room k X.A) (hb:Binds X.K fd ps []) (hE:Hook X E) (I:Inv X pins σ H s) (r:Vals vs us) (rs:Reps X.K H ws vs) (hσ:RpSt X.K H σW σ) (hS:RepS X.K H S)
  (h:c ws S QW λcl S'=>E cl σW S') (hQ:Wish X.K H S QW Q):am (aq X.prog X.w) X.A (call (.ref f) us) (EP X pins σ Q) X.xe s:=
 zAs (E:=E) F hr hb I r rs hσ hS h hQ λcl C a H' S' s' hn os bare un ok fly _ hS' q=>hE.far pins σ H s σW cl C a H' S' s' I hσ hn os bare un ok fly hS' q
theorem zqM{X:Cx}{pins:List (Addr×Obj)}{σ:St}{H':Hp}{s':ah}{a C:Addr}{hid:List Addr}{h':Heap}(I:Inv X pins σ H' s') (hst:X.stack=X.env::X.outer) (hf:X.env.frame=ae X.env.locals) (hex:X.ex=[])
  (h0:∀b∈hid,X.s₀.heap.get? b=none∧H' b=none) (ha:a∈hid) (L:Heap.Left (eO s'.heap (hid++frs X.stack)) X.stack a (.ref C) s'.heap h') :
  Un X.fs [] X.H₀ H' X.s₀.heap h'∧HOk X.prog X.w H' h'∧Fly X.s₀.heap h' H' a C:=by
 obtain⟨st,ff,tr,sl⟩:=L;have keepB:∀b o,s'.heap.get? b=ae o→b∉hid→b∉frs X.stack→h'.get? b=ae o:=λb o e h1 h2=>st b o (gV _ e λz=>(bp.mp z).elim h1 h2);have nh:∀b o,X.s₀.heap.get? b=ae o→b∉hid:=λb o e hb=>by rw[(h0 b hb).1]at e;cases e
 have slotB:∀b o,b∈frs X.stack→s'.heap.get? b=ae o→ ∃sl,h'.get? b=ae { o with slots:=sl }:=λb o hb e=>by
  obtain⟨_,o',eo',nf⟩:=I.stack.mem hb;rw[e]at eo';cases eo';exact sl b o e nf
 have nx:∀b:Addr,b∉X.ex:=λb=>by rw[hex];simp
 have fsS:∀b∈X.fs,b∈frs X.stack:=λb hb=>by
  rw[hst];unfold frs;rw[gk,hf];exact aI _ hb
 refine⟨⟨λb o e n hb _=>?_,λb o e n hb _=>?_,λb o e n _=>I.base.free b o e n (nx b),λb o e _=>?_,I.base.tups,I.base.frzs,I.base.tbls⟩,λb o e=>?_,(h0 a ha).1,(h0 a ha).2,?_⟩
 ·refine keepB b o (I.base.keep b o e n hb (nx b)) (nh b o e) λz=>?_;rcases aA.mp (I.stkSub b z) with q |q
  ·exact absurd (bJ (aK e) I.ok.above) (by rw[q];exact cQ _)
  ·exact hb q
 ·obtain⟨sl1,e1⟩:=I.base.slot b o e n hb (nx b);obtain⟨sl2,e2⟩:=slotB b _ (fsS b hb) e1;exact⟨sl2,e2⟩
 ·obtain⟨o',e1⟩:=I.base.there b o e (nx b);by_cases hb:b∈frs X.stack
  ·obtain⟨sl2,e2⟩:=slotB b _ hb e1;exact⟨_,e2⟩
  ·exact⟨o',keepB b o' e1 (nh b o e) hb⟩
 ·refine(I.hok b o e).stay (λc u hc q=>?_) (λ_ q=>q) λ_ _ q=>q;have tk:∃v,H' c=ae v:=by
   rcases hc with z |z
   ·exact⟨o,by rw[z];exact e⟩
   ·exact⟨_,z⟩
  obtain⟨v,tk⟩:=tk;exact keepB c u q (λz=>by rw[(h0 c z).2]at tk;cases tk) λz=>by rw[I.stkFree c z]at tk;cases tk
 ·obtain⟨oe,vs,T,oT,ts,e1,e2,e3,e4,e5,e6,e7,e8,e9⟩:=tr;have nf:T∉frs X.stack:=λhb=>by
   obtain⟨_,o,eo,nf⟩:=ff.mem hb;rw[e7]at eo;cases eo;exact nf ts e8
  have both:X.s₀.heap.get? T=none∧H' T=none:=by
   by_cases hT:T∈hid
   ·exact h0 T hT
   ·have z:s'.heap.get? T=none:=by
     cases q:s'.heap.get? T with
     |none=>rfl
     |some o=>
      rw[gV _ q λz=>(bp.mp z).elim hT nf]at e5;cases e5
    constructor
    ·cases q:X.s₀.heap.get? T with
     |none=>rfl
     |some o=>obtain⟨o',q'⟩:=I.base.there T o q (nx T);rw[z]at q';cases q'
    ·cases q:H' T with
     |none=>rfl
     |some u=>obtain⟨o',q'⟩:=(I.hok T u q).ex;rw[z]at q';cases q'
  exact⟨oe,vs,T,oT,ts,e1,e2,e3,e4,both.1,both.2,e6,e7,e8,e9⟩
theorem zrD{h base:Heap}{l:List bB}{hid:List Addr}(hl:h.FunFrames base l):h.FunFrames (eO h (hid++frs l)) l:=
 PySem.W.funFrames_hide hl λenv he a ha=>cE _ (gF.mpr ⟨env,he,ha⟩)
theorem zth{P:aE}{w:aC}{K:aj}{mg:Str→Option Value}{base:Heap}{N:List Str}{qual:Str}{scope:Scope}{f:Addr}{cdv:Value}{A:aQ}{outer:List bB}{s:ah}{H:Hp}{E:XK}{EW:Str→Sto→Prop}
    (hEW:∀cl C S' H',aZ K aL cl=ae (ae (.ref C))→RepS K H' S'→EW cl S'→E (.ref C) none H'):Hook (zvN (CX1 P w) P w K mg base N qual scope f cdv A outer s H E) (λc _ S'=>EW c S') where
  own:=eQ.leaving
  far:=λpins σ H1 s1 σW cl C a H' S' s' I hσ hn os bare un ok fly hS q=>by
    have I':=I.call' os un ok bare (λ_ z=>nomatch z);obtain⟨g1,g2,oe,vs,T,oT,ts,e1,e2,e3,e4,g3,g4,e5,e6,e7,e8⟩:=fly;have s0:∀{b:Addr},s1.heap.get? b=none→s.heap.get? b=none:=λ{b} z=>by
      cases q:s.heap.get? b with
      |none=>rfl
      |some o=>obtain⟨o',q'⟩:=I.base.there b o q (by exact λz=>nomatch z);rw[z]at q';cases q'
    refine wpAny_leaving_next (base:=eO s'.heap ([a,T]++frs (cr qual scope s.heap.objs.size f cdv::outer))) I'.ok.frames (zrD I'.stack) rfl ⟨oe,vs,T,oT,ts,e1,e2,e3,e4,gm _ (by simp),e5,e6,e7,e8⟩ (λb o z=>gA _ z) (gm _ (by simp)) λh' L=>?_;obtain⟨u1,u2,u3⟩:=zqM (hid:=[a,T]) I' rfl rfl rfl (λb hb=>by
      rcases aA.mp hb with rfl |hb
      · exact⟨s0 g1,g2⟩
      · rw[bz.mp hb];exact⟨s0 g3,g4⟩) (by simp) L
    exact⟨a,C,H',rfl,I'.os,I'.bare,u1,u2,u3,hEW cl C S' H' hn hS q⟩
  near:=λpins σ H1 s1 σW cl C a S h' args I hσ hn me hS q=>by
    have I':=I.kept (t':=s1.toks) me.keeps;obtain⟨t,e1,_,_⟩:=me.there;have s0:s.heap.get? a=none:=by
      cases q:s.heap.get? a with
      |none=>rfl
      |some o=>obtain⟨o',q'⟩:=I.base.there a o q (by exact λz=>nomatch z);rw[me.new]at q';cases q'
    have h1:H1 a=none:=by
      cases q:H1 a with
      |none=>rfl
      |some u=>obtain⟨o',q'⟩:=(I.hok a u q).ex;rw[me.new]at q';cases q'
    refine wpAny_leaving_first (base:=eO h' ([a]++frs (cr qual scope s.heap.objs.size f cdv::outer))) (s:={ s1 with heap:=h' }) I'.ok.frames (zrD I'.stack) rfl e1 (λb o z=>gA _ z) (gm _ (by simp)) rfl rfl λh'' L=>?_;obtain⟨u1,u2,u3⟩:=zqM (hid:=[a]) I' rfl rfl rfl (λb hb=>by rw[bz.mp hb];exact⟨s0,h1⟩) (by simp) L
    exact⟨a,C,H1,rfl,I'.os,I'.bare,u1,u2,u3,hEW cl C S H1 hn hS q⟩
def zcE (S:Sto) (a:Addr) (Q:List W→Prop):Prop:=match S a with
 |some (.lst ws)=>Q ws
 |_=>False
theorem zaj{S:Sto}{a:Addr}{Q:List W→Prop}{ws:List W}(h:S a=ae (.lst ws)):zcE S a Q=Q ws:=by unfold zcE;rw[h]
theorem zbn{S:Sto}{a:Addr}{Q:List W→Prop}(h:zcE S a Q):∃ws,S a=ae (.lst ws)∧Q ws:=by
 unfold zcE at h;split at h
 ·exact⟨_, ‹_›,h⟩
 ·exact h.elim
noncomputable def zuj:W→Sto→(Bool→Sto→Prop)→Prop
 | .non,S,Q=>Q false S
 | .bl b,S,Q=>Q b S
 | .int i,S,Q=>Q (i != 0) S
 | .str x,S,Q=>x.length≤sizeLine∧Q ((x.length:Int) != 0) S
 | .tup ws,S,Q=>Q (!ws.isEmpty) S
 | .ref a,S,Q=>zcE S a λws=>Q (!ws.isEmpty) S
 | .scr ns,S,Q=>Q (!ns.isEmpty) S
noncomputable def zgi (t:WE):WT:=λE σ S Q=>t E σ S λw S'=>zuj w S' Q
noncomputable def wTb (t:WE):WT:=λE σ S Q=>t E σ S λw S'=>match w with
 | .bl b=>Q b S'
 |_=>False
noncomputable def zrT (t u:WT):WT:=λE σ S Q=>t E σ S λc S1=>if c=true then u E σ S1 Q else Q false S1
noncomputable def wOr (t u:WT):WT:=λE σ S Q=>t E σ S λc S1=>if c=true then Q true S1 else u E σ S1 Q
noncomputable def zrS (t:WT):WT:=λE σ S Q=>t E σ S λc S1=>Q (!c) S1
noncomputable def zsK (t u:WE):WE:=λE σ S Q=>t E σ S λw S1=>match w with
 | .bl true=>u E σ S1 Q
 | .bl false=>Q (.bl false) S1
 |_=>False
noncomputable def zvk (t:WE):WE:=λE σ S Q=>t E σ S λw S1=>match w with
 | .bl b=>Q (.bl !b) S1
 |_=>False
noncomputable def wIf (c:WT) (t u:WE):WE:=λE σ S Q=>c E σ S λb S1=>if b=true then t E σ S1 Q else u E σ S1 Q
noncomputable def zbS (c:WT) (t u:WS):WS:=λE D σ S=>c E σ S λb S1=>if b=true then t E D σ S1 else u E D σ S1
noncomputable def zaF:WS:=λ_ D σ S=>D.nx σ S
noncomputable def zar (t u:WS):WS:=λE D σ S=>t E { D with nx:=u E D } σ S
noncomputable def zaZ (e:WE):WS:=λE D σ S=>e E σ S D.rt
noncomputable def zda (e:WE):WS:=λE D σ S=>e E σ S λ_ S1=>D.nx σ S1
noncomputable def wGN (i:Nat):WG:=λw σ S Q=>Q (σ.set i (ae w)) S
noncomputable def wAsg (e:WE) (g:WG):WS:=λE D σ S=>e E σ S λw S1=>g w σ S1 D.nx
abbrev WGs:=List W→WSt→Sto→(WSt→Sto→Prop)→Prop
noncomputable def zbE:WGs:=λws σ S Q=>match ws with
 | []=>Q σ S
 |_=>False
noncomputable def zaq (g:WG) (u:WGs):WGs:=λws σ S Q=>match ws with
 | []=>False
 |w::r=>g w σ S λσ' S'=>u r σ' S' Q
noncomputable def wGT (u:WGs):WG:=λw σ S Q=>match w with
 | .tup ws=>u ws σ S Q
 |_=>False
section
variable {X:Cx}{a b c e:Expr}{pos:aB}{ta tb:WE}{tc tA tB':WT}{st:Stmt}{rest:List Stmt}{t u:WS}
theorem zuF{K:aj}{H:Hp}{w:W}{v:V}{S:Sto}{QW:Bool→Sto→Prop}(r:Rep K H w v) (hS:RepS K H S) (h:zuj w S QW):∃k,zzF K v H k∧QW k S:=by
 cases r with
 |non=>exact⟨false,rfl,h⟩
 |bl b=>exact⟨b,rfl,h⟩
 |int i=>exact⟨_,rfl,h⟩
 |str x=>exact⟨_,⟨h.1,rfl⟩,h.2⟩
 |ref a=>
  obtain⟨ws,e,h⟩:=zbn h;obtain⟨vs,e1,r1⟩:=hS a _ e;refine⟨_, .inl ⟨vs, .of e1,rfl⟩,?_⟩;have q:vs.isEmpty=ws.isEmpty:=by cases r1<;>rfl
  rw[q];exact h
 | @scr a ns f=>
  refine⟨_, .inl ⟨_,f.sq,rfl⟩,?_⟩;have q:(ns.map V.int).isEmpty=ns.isEmpty:=by cases ns<;>rfl
  rw[q];exact h
 | @tup a vs ws f hs=>
  refine⟨_, .inr (.inl ⟨vs, .of f,rfl⟩),?_⟩;have q:vs.isEmpty=ws.isEmpty:=by cases hs<;>rfl
  rw[q];exact h
theorem zbJ (ha:JE X a ta) (he:∀whole,isTrue a X.env whole=(do let v ←whole;standAt a.pos;holding [v] (truthy v)):=by intro _;rfl):JT X a (zgi ta):=λE hE=>
 (ztp (ha E hE) he).mono λσ H Q ⟨σW,S,QW,hσ,hS,ht,hQ⟩=>⟨σW,S,_,hσ,hS,ht,λw S1 v H1 e1 r1 hS1 h1=>by
  obtain⟨k,hk,q⟩:=zuF r1 hS1 h1;exact⟨k,hk,hQ k S1 H1 e1 hS1 q⟩⟩
theorem zfu{op:dA}{r:R2}{wr:W2}(ho:OpR X (bH op) r) (hw:OpW X.K r wr) (ha:JE X a ta) (hb:JE X b tb) (hm:c6 op b=false):JT X (.Compare a [op] [b] pos) (wTb (wOp wr ta tb)):=λE hE=>
 (zwh ho (ha E hE) (hb E hE) hm).mono λσ H Q ⟨σW,S,QW,hσ,hS,ht,hQ⟩=>by
  refine zgP (Q:=λv H1=>∃k,v= .bl k∧Q k H1) ⟨σW,S,λw S'=>match w with
   | .bl b=>QW b S'
   |_=>False,hσ,hS,ht,λw S1 v H1 e1 r1 hS1 h1=>?_⟩ λH2 x y wx wy S QW rx ry hS q hQ=>hw H2 x y wx wy S _ QW rx ry hS q hQ
  cases r1 with
  |bl k=>exact⟨k,rfl,hQ k S1 H1 e1 hS1 h1⟩
  |_=>exact h1.elim
theorem zgx (ha:JT X a tA):JT X (.UnaryOp .Not a pos) (zrS tA):=λE hE=>
 (zxu (ha E hE)).mono λσ H Q ⟨σW,S,QW,hσ,hS,ht,hQ⟩=>⟨σW,S,_,hσ,hS,ht,λb S1 H1 e1 hS1 h1=>hQ _ S1 H1 e1 hS1 h1⟩
theorem JW.jt (h:JW X a tA):JT X a tA:=λE hE=>(h E hE).pt
theorem zhu (ha:JT X a tA):JW X (.BoolOp .And [a] pos) tA:=λE hE=>zww (ha E hE)
theorem zgn (ha:JT X a tA):JW X (.BoolOp .Or [a] pos) tA:=λE hE=>zwU (ha E hE)
theorem zle{rest:List Expr}(ha:JT X a tA) (hb:JW X (.BoolOp .And (b::rest) pos) tB'):JW X (.BoolOp .And (a::b::rest) pos) (zrT tA tB'):=λE hE=>
 (zyy (ha E hE) (hb E hE)).mono λσ H Q ⟨σW,S,QW,hσ,hS,ht,hQ⟩=>⟨σW,S,_,hσ,hS,ht,λb S1 H1 e1 hS1 h1=>by
  cases b with
  |true=>exact⟨σW,S1,_,hσ.ext e1,hS1,h1,λb S2 H2 e2 hS2 h2=>hQ b S2 H2 (e1.trans e2) hS2 h2⟩
  |false=>exact hQ _ S1 H1 e1 hS1 h1⟩
theorem zjc{rest:List Expr}(ha:JT X a tA) (hb:JW X (.BoolOp .Or (b::rest) pos) tB'):JW X (.BoolOp .Or (a::b::rest) pos) (wOr tA tB'):=λE hE=>
 (zzZ (ha E hE) (hb E hE)).mono λσ H Q ⟨σW,S,QW,hσ,hS,ht,hQ⟩=>⟨σW,S,_,hσ,hS,ht,λb S1 H1 e1 hS1 h1=>by
  cases b with
  |false=>exact⟨σW,S1,_,hσ.ext e1,hS1,h1,λb S2 H2 e2 hS2 h2=>hQ b S2 H2 (e1.trans e2) hS2 h2⟩
  |true=>exact hQ _ S1 H1 e1 hS1 h1⟩
theorem ztJ{op}(h:JE X a ta):JE X (.BoolOp op [a] pos) ta:=λE hE=>zwV (h E hE)
theorem zup{rest:List Expr}(ha:JE X a ta) (hb:JE X (.BoolOp .And (b::rest) pos) tb):JE X (.BoolOp .And (a::b::rest) pos) (zsK ta tb):=λE hE=>
 (zwY (ha E hE) (hb E hE)).mono λσ H Q ⟨σW,S,QW,hσ,hS,ht,hQ⟩=>⟨σW,S,_,hσ,hS,ht,λw S1 v H1 e1 r1 hS1 h1=>by
  cases r1 with
  |bl k=>
   refine⟨k,rfl,?_⟩;cases k with
   |true=>exact⟨σW,S1,_,hσ.ext e1,hS1,h1,hQ.from e1⟩
   |false=>exact hQ _ S1 _ H1 e1 (.bl false) hS1 h1
  |_=>exact h1.elim⟩
theorem zwZ (ha:JE X a ta):JE X (.UnaryOp .Not a pos) (zvk ta):=λE hE=>
 (zys (ha E hE)).mono λσ H Q ⟨σW,S,QW,hσ,hS,ht,hQ⟩=>⟨σW,S,_,hσ,hS,ht,λw S1 v H1 e1 r1 hS1 h1=>by
  cases r1 with
  |bl k=>exact⟨k,rfl,hQ _ S1 _ H1 e1 (.bl _) hS1 h1⟩
  |_=>exact h1.elim⟩
theorem zyO (hc:JT X c tc) (ha:JE X a ta) (hb:JE X b tb):JE X (.IfExp c a b pos) (wIf tc ta tb):=λE hE=>
 (zsQ (hc E hE) (ha E hE) (hb E hE)).mono λσ H Q ⟨σW,S,QW,hσ,hS,ht,hQ⟩=>⟨σW,S,_,hσ,hS,ht,λk S1 H1 e1 hS1 h1=>by
  cases k with
  |true=>exact⟨σW,S1,_,hσ.ext e1,hS1,h1,hQ.from e1⟩
  |false=>exact⟨σW,S1,_,hσ.ext e1,hS1,h1,hQ.from e1⟩⟩
theorem zaw:JSs X [] zaF:=λE hE=>pss_nil.mono λD σ H ⟨σW,S,DW,hσ,hS,ht,hD⟩=>hD.nx σW S σ H .refl hσ hS ht
theorem zad (h1:JS X st t) (h2:JSs X rest u):JSs X (st::rest) (zar t u):=λE hE=>
 (zsk (h1 E hE) (h2 E hE)).mono λD σ H ⟨σW,S,DW,hσ,hS,ht,hD⟩=>
  ⟨σW,S,{ DW with nx:=u E DW },hσ,hS,ht,⟨λσW' S' σ' H' e r hS' q=>⟨σW',S',DW,r,hS',q,hD.from e⟩,hD.rt,hD.bk,hD.ct⟩⟩
theorem zah (h1:JS X st t):JSs X [st] t:=λE hE=>zuZ (h1 E hE)
theorem zbi (he:JE X e ta) (hs:di e none pos.line X.env=pure false:=by rfl):JS X (.Expr e pos) (zda ta):=λE hE=>
 (zuC (he E hE) hs).mono λD σ H ⟨σW,S,DW,hσ,hS,ht,hD⟩=>⟨σW,S,_,hσ,hS,ht,λw S1 v H1 e1 r1 hS1 h1=>hD.nx σW S1 σ H1 e1 (hσ.ext e1) hS1 h1⟩
theorem zam (he:JE X e ta):JS X (.Return (ae e) pos) (zaZ ta):=λE hE=>
 (zyq (he E hE)).mono λD σ H ⟨σW,S,DW,hσ,hS,ht,hD⟩=>⟨σW,S,_,hσ,hS,ht,hD.rt⟩
theorem zaO{a b:List Stmt}(hc:JT X c tc) (ha:JSs X a t) (hb:JSs X b u):JS X (.If c a b pos) (zbS tc t u):=λE hE=>
 (zAJ (hc E hE) (ha E hE) (hb E hE)).mono λD σ H ⟨σW,S,DW,hσ,hS,ht,hD⟩=>⟨σW,S,_,hσ,hS,ht,λk S1 H1 e1 hS1 h1=>by
  cases k with
  |true=>exact⟨σW,S1,DW,hσ.ext e1,hS1,h1,hD.from e1⟩
  |false=>exact⟨σW,S1,DW,hσ.ext e1,hS1,h1,hD.from e1⟩⟩
theorem zao{i:Nat}{x:Str}(hN:X.N.Nodup) (hi:X.N[i]? =ae x) (hx:Loc X.env.scope x) (hf:X.fn x=true∨X.env.scope.names.lookup x=ae .local:=by first |exact .inl rfl |exact .inr rfl |assumption):JG X (.Name x pos) (wGN i):=λE hE=>
 (zwf hN hi hx hf).mono λv σ H Q ⟨w,σW,S,P,r,hσ,hS,ht,hP⟩=>hP _ S _ H .refl (hσ.set r i) hS ht
def JGs (X:Cx) (tgs:List Expr) (t:WGs):Prop:=∀E,Hook X E→PGs X tgs (λvs σ H Q=>∃ws σW S P,Reps X.K H ws vs∧RpSt X.K H σW σ∧RepS X.K H S∧t ws σW S P∧Goes X.K H S P Q)
theorem zcg:JGs X [] zbE:=λE hE pins s σ H vs us Q I r h=>by
 obtain⟨ws,σW,S,P,rs,hσ,hS,ht,hP⟩:=h;unfold zbE at ht;split at ht
 ·cases rs;exact zuG pins s σ H [] us Q I r ⟨rfl,hP σW S σ H .refl hσ hS ht⟩
 ·exact ht.elim
theorem zav{es:List Expr}{g:WG}{gs:WGs}(h1:JG X e g) (h2:JGs X es gs)
  (hs:(cp (e::es) X.env).map (·.2)=assign e X.env::(cp es X.env).map (·.2):=by rfl):JGs X (e::es) (zaq g gs):=λE hE pins s σ H vs us Q I r h=>by
 obtain⟨ws,σW,S,P,rs,hσ,hS,ht,hP⟩:=h;unfold zaq at ht;split at ht
 ·exact ht.elim
 ·cases rs with
  |cons r1 r2=>
   refine zsp (h1 E hE) (h2 E hE) hs pins s σ H _ us Q I r ⟨_,_,rfl,⟨_,σW,S,_,r1,hσ,hS,ht,λσW' S' σ' H' e' rr hS' q=>?_⟩⟩;exact⟨_,σW',S',P,r2.ext e',rr,hS',q,hP.from e'⟩
theorem zdp{es:List Expr}{k n:Nat}{gs:WGs}(h:JGs X es gs) (hlen:∀ws σ S P,gs ws σ S P→ws.length=n)
  (hn:(cp es X.env).length=n:=by rfl) (hst:(cp es X.env).findIdx? (·.1)=none:=by rfl) (hcl:X.calm=true:=by rfl):JG X (.Tuple es k pos) (wGT gs):=λE hE=>
 (zya hcl (h E hE) hn hst).mono λv σ H Q ⟨w,σW,S,P,r,hσ,hS,ht,hP⟩=>by
  cases r with
  |tup f hs=>exact⟨_,_,rfl, .of f,by rw[←hs.length];exact hlen _ _ _ _ ht,⟨_,σW,S,P,hs,hσ,hS,ht,hP⟩⟩
  |_=>exact ht.elim
theorem zpd{tg:Expr}{g:WG}(he:JE X e ta) (hg:JG X tg g) (hs:swapsWithSole [tg] e pos.line X.env=pure false:=by rfl) (hw:swappedStores [tg] e X.env=pure none:=by rfl)
  (h1:(cp [tg] X.env).map (·.2)=[assign tg X.env]:=by rfl):JS X (.Assign [tg] e pos) (wAsg ta g):=λE hE=>
 (zyV (he E hE) (hg E hE) hs hw h1).mono λD σ H ⟨σW,S,DW,hσ,hS,ht,hD⟩=>⟨σW,S,_,hσ,hS,ht,λw S1 v H1 e1 r1 hS1 h1=>⟨w,σW,S1,_,r1,hσ.ext e1,hS1,h1,hD.nx.from e1⟩⟩
theorem zan{i:Nat}{x:Str}{pos':aB}(hN:X.N.Nodup) (hi:X.N[i]? =ae x) (hx:Loc X.env.scope x) (he:JE X e ta) (hs:di e (ae (.Name x pos')) pos.line X.env=pure false:=by rfl)
  (hf:X.fn x=true∨X.env.scope.names.lookup x=ae .local:=by first |exact .inl rfl |exact .inr rfl |assumption):JS X (.Assign [.Name x pos'] e pos) (wAsg ta (wGN i)):=λE hE=>
 (zzq hN hi hx (he E hE) hs hf).mono λD σ H ⟨σW,S,DW,hσ,hS,ht,hD⟩=>⟨σW,S,_,hσ,hS,ht,λw S1 v H1 e1 r1 hS1 h1=>hD.nx _ S1 _ H1 e1 ((hσ.ext e1).set r1 i) hS1 h1⟩
end
noncomputable def waNil:WA:=λ_ _ S Q=>Q [] S
noncomputable def zab (t:WE) (u:WA):WA:=λE σ S Q=>t E σ S λw S1=>u E σ S1 λws S2=>Q (w::ws) S2
noncomputable def zbO (t:WA):WE:=λE σ S Q=>t E σ S λws S1=>ws.length≤sizeLine∧Q (.tup ws) S1
noncomputable def zdq (t:WA):WL:=λE σ S Q=>t E σ S λws S1=>ws.length≤sizeLine∧Q ws S1
noncomputable def zcF (t:WL):WE:=λE σ S Q=>t E σ S λws S1=>∀a,S1 a=none→Q (.ref a) (put S1 a (.lst ws))
section
variable {X:Cx}{e:Expr}{es:List Expr}{te:WE}{ta:WA}{tl:WL}{pos:aB}
theorem zac:JA X [] waNil:=λE hE=>pa_nil.mono λσ H Q ⟨σW,S,QW,hσ,hS,ht,hQ⟩=>hQ [] S [] H .refl .nil hS ht
theorem zaa (ha:JE X e te) (hr:JA X es ta) (hs:ao (e::es) X.env=(false,az e X.env)::ao es X.env:=by rfl):JA X (e::es) (zab te ta):=λE hE=>
 (zdh (ha E hE) (hr E hE) hs).mono λσ H Q ⟨σW,S,QW,hσ,hS,ht,hQ⟩=>⟨σW,S,_,hσ,hS,ht,λw S1 v H1 e1 r1 hS1 h1=>⟨σW,S1,_,hσ.ext e1,hS1,h1,λws S2 vs H2 e2 r2 hS2 h2=>
  hQ (w::ws) S2 (v::vs) H2 (e1.trans e2) (.cons (r1.ext e2) r2) hS2 h2⟩⟩
theorem zat{x1}(h:JA X es ta):JE X (.Tuple es x1 pos) (zbO ta):=λE hE=>
 (zym (h E hE)).mono λσ H Q ⟨σW,S,QW,hσ,hS,ht,hQ⟩=>⟨σW,S,_,hσ,hS,ht,λws S1 vs H1 e1 r1 hS1 h1=>by
  refine⟨by rw[←r1.length];exact h1.1,λp hp=>hQ (.tup ws) S1 _ _ (e1.trans (.new hp)) (.tup zay (r1.ext (.new (S:=S1) hp))) (hS1.new hp) h1.2⟩⟩
theorem zaM (h:JA X es ta):JL X (.List es pos) (zdq ta):=λE hE=>
 (zyN (h E hE)).mono λσ H Q ⟨σW,S,QW,hσ,hS,ht,hQ⟩=>⟨σW,S,_,hσ,hS,ht,λws S1 vs H1 e1 r1 hS1 h1=>by
  refine⟨by rw[←r1.length];exact h1.1,λp hp=>hQ ws S1 vs p _ (e1.trans (.new hp)) (e1.free hp) zay (hS1.free hp) (r1.ext (.new (S:=S1) hp)) (hS1.new hp) h1.2⟩⟩
theorem zaI (h:JL X e tl):JE X e (zcF tl):=λE hE=>
 (h E hE).mono λσ H Q ⟨σW,S,QW,hσ,hS,ht,hQ⟩=>⟨σW,S,_,hσ,hS,ht,λws S1 vs a H1 e1 fa ea na r1 hS1 h1=>by
  refine hQ (.ref a) (put S1 a (.lst ws)) (.ref a) H1 ⟨e1.tup,e1.frz,λb o q g=>by
   have hb:b≠a:=by rintro rfl;rw[fa]at q;cases q
   rw[zaD hb];exact e1.fr b o q g,e1.all⟩ (.ref a) (λb o q=>?_) (h1 a na)
  by_cases hb:b=a
  ·subst hb;rw[zag]at q;cases q;exact⟨vs,ea,r1⟩
  ·rw[zaD hb]at q;exact hS1 b o q⟩
end
noncomputable def zap (c:WSp) (t:WA):WE:=λE σ S Q=>t E σ S λws S1=>c ws S1 Q λcl S2=>E cl σ S2
noncomputable def zcG (n k:Nat) (body:WS):WSp:=λws S Q E=>ws.length=k∧body (λc _ S'=>E c S') { nx:=λ_ S'=>∃S'',Sub S'' S'∧Q .non S'',rt:=λw S'=>∃S'',Sub S'' S'∧Q w S'' } (ws.map ae++aN (n - k) none) S
section
variable {X:Cx}{k:Nat}{f:Addr}{fd:bG}{ps:List Str}{c:WSp}{x:Str}{p pos:aB}{e:Expr}{es:List Expr}{t:WA}
theorem zai (F:FnOk X.prog X.w X.K X.mg X.base (CX1 X.prog X.w) k f fd ps (zdn X.K c)) (hr:Room k X.A) (hg:Gl X x) (hm:X.mg x=ae (.ref f)) (hk:eW X.K (.ref f)=true) (hb:Binds X.K fd ps [])
  (ha:JA X (e::es) t) (hdb:(x == ("__debug__" :Str))=false:=by decide) (he:ao (e::es) X.env=(false,az e X.env)::ao es X.env:=by rfl) (hpl:(aT pos (ao es X.env)).any (·.1)=false:=by rfl) :
  JE X (.Call (.Name x p) (e::es) [] pos) (zap c t):=λE hE pins s σ H Q I h=>by
 obtain⟨σW,S,QW,hσ,hS,ht,hQ⟩:=h;refine io (zlO I hg hm ?_ hdb);refine PySem.W.callWith_K (h₀:=X.base) I.ok.mod.kin hk (thn (ha E hE pos pins s σ H (λvs H1=>∃ws S1,Reps X.K H1 ws vs∧RpSt X.K H1 σW σ∧RepS X.K H1 S1∧c ws S1 QW (λcl S'=>E cl σW S')∧Wish X.K H1 S1 QW Q) I
  ⟨σW,S,_,hσ,hS,ht,λws S1 vs H1 e1 r1 hS1 h1=>⟨ws,S1,r1,hσ.ext e1,hS1,h1,hQ.from e1⟩⟩) λus s1 ⟨vs,H1,I1,r,ws,S1,r1,hσ1,hS1,h1,hQ1⟩=>⟨I1.kIn,?_⟩) he hpl
 exact zAp F hr hb hE I1 r r1 hσ1 hS1 h1 hQ1
theorem zqz{K:aj}{H:Hp}{N:List Str}{ws:List W}{vs:List V}(h:Reps K H ws vs):RpSt K H (ws.map ae++aN (N.length - ws.length) none) (start N vs):=by
 have go:∀{ws:List W}{vs:List V}(m:Nat),Reps K H ws vs→RpSt K H (ws.map ae++aN m none) (vs.map ae++aN m none):=by
  intro ws
  induction ws with
  |nil=>
   intro vs m h;cases h
   induction m with
   |zero=>exact .nil
   |succ m ih=>exact .cons trivial ih
  |cons w ws ih=>
   intro vs m h;cases h with
   |cons r rs=>exact .cons r (ih m rs)
 unfold start;rw[←h.length];exact go _ h
theorem zaS{P:aE}{w:aC}{K:aj}{mg:Str→Option Value}{base:Heap}{x qual:Str}{st:Stmt}{f:Addr}{fd:bG}{N ps:List Str}{r n k:Nat}{body:WS}(F:Fun K x qual st f fd) (S:FnScope N ps (zak st)) (hn:N.length=n) (hk:ps.length=k)
  (hbody:∀(cdv:Value) (A:aQ) (outer:List bB) (s:ah) (H:Hp) (E:XK),Room r (A.deeper (cr qual (zak st) s.heap.objs.size f cdv))→
   JSs (zvN (CX1 P w) P w K mg base N qual (zak st) f cdv A outer s H E) (zfZ st) body):FnOk P w K mg base (CX1 P w) (r+1) f fd ps (zdn K (zcG n k body)):=by
 obtain⟨oc,od,kV,doc,pm,an,cdv,ct,osl,rfl,lk,hcd⟩:=F.ex;refine zzQ lk hcd S (λvs H Q E h=>?_) λA outer s H vs Q E hr h=>?_
 ·obtain⟨ws,S,QW,EW,rs,_,h,_⟩:=h;rw[←rs.length,h.1,hk]
 ·obtain⟨ws,S',QW,EW,rs,hS,h,hQ,hEW⟩:=h;refine⟨_,hbody cdv A outer s H E hr (λc _ S'=>EW c S') (zth hEW),?_⟩;refine⟨_,S',{ nx:=λ_ S'=>∃S'',Sub S'' S'∧QW .non S'',rt:=λw S'=>∃S'',Sub S'' S'∧QW w S'' },zqz (N:=N) rs,hS,by rw[hn,h.1];exact h.2,⟨λσW S1 σ H1 e1 rr hS1 q=>?_,λw S1 v H1 e1 rr hS1 q=>?_,λ_ _ _ _ _ _ _ q=>q,λ_ _ _ _ _ _ _ q=>q⟩⟩
  ·obtain⟨S2,sb,q⟩:=q;exact hQ .non S2 .non H1 (e1.trans (.drop sb)) .non (hS1.sub sb) q
  ·obtain⟨S2,sb,q⟩:=q;exact hQ w S2 v H1 (e1.trans (.drop sb)) rr (hS1.sub sb) q
end
noncomputable def zdb (C:Int→Int→Prop) (g:Int→Int→W):W2
 | .int i, .int j,S,Q=>C i j∧Q (g i j) S
 |_,_,_,_=>False
noncomputable def zfj (g:Int→Int→W):W2
 | .int i, .int j,S,Q=>Q (g i j) S
 |_,_,_,_=>False
theorem ziH{K:aj}{C:Int→Int→Prop}{g:Int→Int→Int}:OpW K (rI C λi j=> .int (g i j)) (zdb C λi j=> .int (g i j)):=λH x y wx wy S Q QW rx ry hS h hQ=>by
 cases rx<;>cases ry<;>first |exact⟨_,_,rfl,rfl,h.1,hQ _ S _ H .refl (.int _) hS h.2⟩ |exact h.elim
theorem zss{K:aj}{g:Int→Int→Int}:OpW K (rI0 λi j=> .int (g i j)) (zfj λi j=> .int (g i j)):=λH x y wx wy S Q QW rx ry hS h hQ=>by
 cases rx<;>cases ry<;>first |exact⟨_,_,rfl,rfl,hQ _ S _ H .refl (.int _) hS h⟩ |exact h.elim
theorem ziF{K:aj}{g:Int→Int→Bool}:OpW K (rI0 λi j=> .bl (g i j)) (zfj λi j=> .bl (g i j)):=λH x y wx wy S Q QW rx ry hS h hQ=>by
 cases rx<;>cases ry<;>first |exact⟨_,_,rfl,rfl,hQ _ S _ H .refl (.bl _) hS h⟩ |exact h.elim
noncomputable def zdr:W2
 | .int i, .int j,S,Q=>Q (.int (i+j)) S
 | .str x, .str y,S,Q=>x.length+y.length≤sizeLine∧Q (.str (x++y)) S
 | .tup xs, .tup ys,S,Q=>xs.length+ys.length≤sizeLine∧Q (.tup (xs++ys)) S
 | .ref a, .ref b,S,Q=>zcE S a λxs=>zcE S b λys=>xs.length+ys.length≤sizeLine∧ ∀p,S p=none→Q (.ref p) (put S p (.lst (xs++ys)))
 |_,_,_,_=>False
section
variable {X:Cx}
theorem Reps.nil_r{K:aj}{H:Hp}{ws:List W}(h:Reps K H ws []):ws=[]:=by cases h;rfl
theorem op_catT0:OpR X (bQ .Add) (λx y H Q=>∃a b ys,x= .ref a∧y= .ref b∧SqT X.K H a []∧SqT X.K H b ys∧Q (.ref b) H):=by
 intro pins s σ H x y v u Q I rx ry h;obtain⟨a,b,ys,rfl,rfl,ha,hb,q⟩:=h;cases rx;cases ry;obtain⟨its,r1,p1,_⟩:=I.tuple ha;obtain⟨its2,r2,p2,_⟩:=I.tuple hb;cases r1;obtain⟨⟨cls,dd,data,sl⟩,ho,hc,n,hd⟩:=id p1;obtain⟨⟨cls2,dd2,data2,sl2⟩,ho2,hc2,n2,hd2⟩:=id p2;simp only at hc hd hc2 hd2;subst hc hd hc2 hd2;exact h9 ⟨_,ho,rfl⟩ ⟨_,ho2,rfl⟩ iD ig gp ik (gG _ _)
   (tuple_addW0 a b _ _ n n2 dd dd2 sl sl2 (by simp)) ⟨ho,ho2,⟨.ref b,H,I,rfl,q⟩⟩
theorem zpv:OpR X (bQ .Add) (λx y H Q=>(rI0 λi j=> .int (i+j)) x y H Q∨(∃i j,x= .str i∧y= .str j∧i.length+j.length≤sizeLine∧Q (.str (i++j)) H)∨
  (∃a b ys,x= .ref a∧y= .ref b∧SqT X.K H a []∧SqT X.K H b ys∧Q (.ref b) H)∨zwy X.K x y H Q∨zAQ x y H Q):=op_add.or (op_add_str.or (op_catT0.or (op_catT.or znf)))
theorem zvT{K:aj}:OpW K (λx y H Q=>(rI0 λi j=> .int (i+j)) x y H Q∨(∃i j,x= .str i∧y= .str j∧i.length+j.length≤sizeLine∧Q (.str (i++j)) H)∨
  (∃a b ys,x= .ref a∧y= .ref b∧SqT K H a []∧SqT K H b ys∧Q (.ref b) H)∨zwy K x y H Q∨zAQ x y H Q) zdr:=λH x y wx wy S Q QW rx ry hS h hQ=>by
 cases rx with
 |int i=>
  cases ry with
  |int j=>exact .inl ⟨i,j,rfl,rfl,hQ _ S _ H .refl (.int _) hS h⟩
  |_=>exact h.elim
 |str i=>
  cases ry with
  |str j=>exact .inr (.inl ⟨i,j,rfl,rfl,h.1,hQ _ S _ H .refl (.str _) hS h.2⟩)
  |_=>exact h.elim
 | @tup a vs ws f hs=>
  cases ry with
  | @tup b us zs g ks=>
   cases hs with
   |nil=>exact .inr (.inr (.inl ⟨a,b,us,rfl,rfl, .of f, .of g,hQ (.tup zs) S _ H .refl (.tup g ks) hS h.2⟩))
   |cons h1 h2=>
    refine .inr (.inr (.inr (.inl ⟨a,b,_,us,rfl,rfl, .of f, .of g,by simp,?_,λe=>?_,λe p hp=>?_⟩)))
    ·rw[←(Reps.cons h1 h2).length,←ks.length];exact h.1
    ·subst e;have e':=ks.nil_r;subst e';have q:=h.2;rw[bK]at q;exact hQ _ S _ H .refl (.tup f (.cons h1 h2)) hS q
    ·exact hQ _ S _ _ (.new hp) (.tup zay (((Reps.cons h1 h2).append ks).ext (.new (S:=S) hp))) (hS.new hp) h.2
  |_=>exact h.elim
 |ref a=>
  cases ry with
  |ref b=>
   obtain⟨xs,ea,h⟩:=zbn h;obtain⟨ys,eb,h⟩:=zbn h;obtain⟨vs,e1,r1⟩:=hS a _ ea;obtain⟨us,e2,r2⟩:=hS b _ eb;refine .inr (.inr (.inr (.inr ⟨a,b,vs,us,rfl,rfl,e1,e2,by rw[←r1.length,←r2.length];exact h.1,λp hp=>?_⟩)))
   exact hQ _ _ _ _ (.newS hp) (.ref p) (hS.put_lst hp ((r1.append r2).ext (.new (S:=S) hp))) (h.2 p (hS.free hp))
  |_=>exact h.elim
 |_=>exact h.elim
variable {a b:Expr}{pos:aB}{ta tb:WE}
theorem zbg (ha:JE X a ta) (hb:JE X b tb):JE X (.BinOp a .Add b pos) (wOp zdr ta tb):=zoz zpv zvT ha hb
theorem zjZ (ha:JE X a ta) (hb:JE X b tb):JE X (.BinOp a .Sub b pos) (wOp (zfj λi j=> .int (i - j)) ta tb):=zoz zwG zss ha hb
theorem ztZ (ha:JE X a ta) (hb:JE X b tb):JE X (.BinOp a .Mult b pos) (wOp (zdb CMul λi j=> .int (i*j)) ta tb):=zoz zxw ziH ha hb
theorem zce (ha:JE X a ta) (hb:JE X b tb):JE X (.BinOp a .FloorDiv b pos) (wOp (zdb zib λi j=> .int (i / j)) ta tb):=zoz zvD ziH ha hb
theorem zbY (ha:JE X a ta) (hb:JE X b tb):JE X (.BinOp a .Mod b pos) (wOp (zdb (λ_ j=>0<j) λi j=> .int (i % j)) ta tb):=zoz zxt ziH ha hb
theorem zyZ (ha:JE X a ta) (hb:JE X b tb):JE X (.BinOp a .Pow b pos) (wOp (zdb zAf λi j=> .int (i ^ j.toNat)) ta tb):=zoz zxn ziH ha hb
noncomputable def zoa (t:WE):WE:=λE σ S Q=>t E σ S λw S1=>match w with
 | .int i=>Q (.int (-i)) S1
 |_=>False
theorem zeR (ha:JE X a ta):JE X (.UnaryOp .USub a pos) (zoa ta):=λE hE=>
 (zzY zxp (ha E hE)).mono λσ H Q ⟨σW,S,QW,hσ,hS,ht,hQ⟩=>⟨σW,S,_,hσ,hS,ht,λw S1 v H1 e1 r1 hS1 h1=>by
  cases r1 with
  |int i=>exact⟨i,rfl,hQ _ S1 _ H1 e1 (.int _) hS1 h1⟩
  |_=>exact h1.elim⟩
noncomputable def zAH (t u:WE):WL:=λE σ S Q=>t E σ S λx S1=>u E σ S1 λy S2=>match x,y with
 | .ref a, .ref b=>zcE S2 a λxs=>zcE S2 b λys=>xs.length+ys.length≤sizeLine∧Q (xs++ys) S2
 |_,_=>False
end
noncomputable def zfS (f:W→W→Option Bool):List W→List W→Option Bool
 | [],[]=>ae true
 | [],_=>ae false
 |_,[]=>ae false
 |x::xs,y::ys=>match f x y,zfS f xs ys with
  |some a,ae b=>ae (a&&b)
  |_,_=>none
noncomputable def eqF (S:Sto):Nat→W→W→Option Bool
 |0,_,_=>none
 |n+1,w,u=>match w,u with
  | .non, .non=>ae true
  | .bl a, .bl b=>ae (a == b)
  | .int a, .int b=>ae (a == b)
  | .str a, .str b=>ae (a == b)
  | .tup _, .int _=>ae false
  | .int _, .tup _=>ae false
  | .tup xs, .tup ys=>zfS (eqF S n) xs ys
  | .ref a, .ref b=>match S a with
   |some (.lst xs)=>match S b with
    |some (.lst ys)=>zfS (eqF S n) xs ys
    |_=>none
   |_=>none
  |_,_=>none
theorem znP{f:W→W→Option Bool}:∀{xs ys:List W}{b:Bool},zfS f xs ys=ae b→
  (∀j,j<xs.length→j<ys.length→ ∃c,f (xs.getD j .non) (ys.getD j .non)=ae c)∧
  ((aX (min xs.length ys.length)).all (λj=>(f (xs.getD j .non) (ys.getD j .non)).getD true)&&xs.length == ys.length)=b
 | [],[],b,h=>by
  have:true=b:=aH h;subst this;exact⟨λj h=>absurd h (by simp),by simp⟩
 | [],y::ys,b,h=>by
  have:false=b:=aH h;subst this;exact⟨λj h=>absurd h (by simp),by simp⟩
 |x::xs,[],b,h=>by
  have:false=b:=aH h;subst this;exact⟨λj _ h=>absurd h (by simp),by simp⟩
 |x::xs,y::ys,b,h=>by
  unfold zfS at h;split at h
  ·rename_i c d e1 e2;have hb:(c&&d)=b:=aH h;obtain⟨h1,h2⟩:=znP e2;refine⟨λj j1 j2=>?_,?_⟩
   ·cases j with
    |zero=>exact⟨c,by simpa using e1⟩
    |succ j=>simpa using h1 j (by simpa using j1) (by simpa using j2)
   ·have hm:min (xs.length+1) (ys.length+1)=min xs.length ys.length+1:=by omega
    have hl:(xs.length+1 == ys.length+1)=(xs.length == ys.length):=by simp
    rw[aO,aO,hm,gI,List.all_cons,List.all_map,hl];have q:((λj=>(f ((x::xs).getD j .non) ((y::ys).getD j .non)).getD true)∘Nat.succ)=λj=>(f (xs.getD j .non) (ys.getD j .non)).getD true:=by
     funext j;simp
    rw[q,Bool.and_assoc,h2];have q0:(f ((x::xs).getD 0 .non) ((y::ys).getD 0 .non)).getD true=c:=by simp [e1]
    rw[q0,hb]
  ·cases h
section
variable {X:Cx}{pins:List (Addr×Obj)}{σ:St}{H:Hp}{s:ah}{S:Sto}
theorem zjl (I:Inv X pins σ H s):∀(n:Nat) {wx wy:W}{v:V}{b:Bool},Rep X.K H wx v→Rep X.K H wy v→RepS X.K H S→eqF S n wx wy=ae b→b=true
 |0,_,_,_,_,_,_,_,h=>by cases h
 |n+1,wx,wy,v,b,rx,ry,hS,h=>by
  have list:∀{ws us:List W}{vs:List V}{b:Bool},Reps X.K H ws vs→Reps X.K H us vs→zfS (eqF S n) ws us=ae b→b=true:=by
   intro ws
   induction ws with
   |nil=>
    intro us vs b r1 r2 e;cases r1;cases r2;exact(aH e).symm
   |cons w ws ih=>
    intro us vs b r1 r2 e;cases r1 with
    |cons a1 a2=>
     cases r2 with
     |cons c1 c2=>
      unfold zfS at e;split at e
      ·rename_i c d e1 e2;have q1:=zjl I n a1 c1 hS e1;have q2:=ih a2 c2 e2;have:=aH e;rw[q1,q2]at this;exact this.symm
      ·cases e
  cases rx with
  |non=>cases ry;exact(aH h).symm
  |bl k=>cases ry;have:=aH h;simpa using this.symm
  |int k=>cases ry;have:=aH h;simpa using this.symm
  |str k=>cases ry;have:=aH h;simpa using this.symm
  |ref a=>
   cases ry with
   |ref _=>
    have h':(match S a with
     |some (.lst xs)=>match S a with
      |some (.lst ys)=>zfS (eqF S n) xs ys
      |_=>none
     |_=>none)=ae b:=h
    cases e:S a with
    |none=>rw[e]at h';cases h'
    |some o=>
     rw[e]at h';cases o with
     |lst ws=>
      obtain⟨vs,_,r⟩:=hS a _ e;exact list r r h'
     |dct _=>cases h'
     |dk _=>cases h'
     |ins _ _=>cases h'
   |scr _=>cases h
   |tup _ _=>cases h
  |scr f=>cases ry<;>cases h
  |tup f hs=>
   cases ry with
   |ref _=>cases h
   |scr _=>cases h
   |tup g ks=>
    have e:=I.tuple_inj (.of f) (.of g);subst e;exact list hs ks h
theorem zjI{A:aQ}:A.in1.units=A.units+1:=rfl
theorem znK (I:Inv X pins σ H s) (hS:RepS X.K H S):∀(n:Nat) {A:aQ}{wx wy:W}{x y:V}{u v:Value}{b:Bool},A.units+n<cLine→Rep X.K H wx x→Rep X.K H wy y→RelV x u→RelV y v→eqF S n wx wy=ae b→
  eI A s u v b∧fj A s u v b∧fy A s u v (!b)
 |0,_,_,_,_,_,_,_,_,_,_,_,_,_,h=>by cases h
 |n+1,A,wx,wy,x,y,u,v,b,hu,rx,ry,ru,rv,h=>by
  have hu0:A.units<cLine:=by omega
  have items:∀{ws zs:List W}{xs ys:List V}{us vs:List Value}{b:Bool},Reps X.K H ws xs→Reps X.K H zs ys→Vals xs us→Vals ys vs→zfS (eqF S n) ws zs=ae b→
    (∀j (h1:j<us.toArray.size) (h2:j<vs.toArray.size),eI A.in1 s us.toArray[j] vs.toArray[j] ((eqF S n (ws.getD j .non) (zs.getD j .non)).getD true))∧
    ((aX (min us.toArray.size vs.toArray.size)).all (λj=>(eqF S n (ws.getD j .non) (zs.getD j .non)).getD true)&&us.toArray.size == vs.toArray.size)=b:=by
   intro ws zs xs ys us vs b r1 r2 q1 q2 e;obtain⟨h1,h2⟩:=znP e;have l1:=r1.length;have l2:=r2.length;have l3:=q1.length;have l4:=q2.length;refine⟨λj j1 j2=>?_,?_⟩
   ·rw[aU]at j1 j2;obtain⟨c,hc⟩:=h1 j (by omega) (by omega);have jw:j<ws.length:=by omega
    have jz:j<zs.length:=by omega
    obtain⟨x',ex,rx'⟩:=r1.get (a_ jw);obtain⟨y',ey,ry'⟩:=r2.get (a_ jz);obtain⟨u',eu,ru'⟩:=q1.get ex;obtain⟨v',ev,rv'⟩:=q2.get ey;have e1:us.toArray[j]=u':=by
     obtain⟨_,e⟩:=cf.mp eu;simpa using e
    have e2:vs.toArray[j]=v':=by
     obtain⟨_,e⟩:=cf.mp ev;simpa using e
    have g1:ws.getD j .non=ws[j]:=by rw[bv,a_ jw];rfl
    have g2:zs.getD j .non=zs[j]:=by rw[bv,a_ jz];rfl
    rw[e1,e2,hc];rw[g1,g2]at hc;exact(znK I hS n (by rw[zjI];omega) rx' ry' ru' rv' hc).1
   ·rw[aU,aU,←l3,←l4,←l1,←l2];exact h2
  cases rx with
  |non=>
   cases(show u=cu from ru);cases ry with
   |non=>cases(show v=cu from rv);cases h;exact⟨.same _, .none_none, .none_none⟩
   |_=>cases h
  |bl k=>
   cases(show u=d7 k from ru);cases ry with
   |bl j=>cases(show v=d7 j from rv);cases h;exact⟨.bool_bool _ _, .bool_bool _ _, .bool_bool _ _⟩
   |_=>cases h
  |int k=>
   obtain⟨t0,rfl⟩:=ru;cases ry with
   |int j=>obtain⟨t,rfl⟩:=rv;cases h;exact⟨.int_int _ _ _ _, .int_int _ _ _ _, .int_int _ _ _ _⟩
   |tup f hs=>cases(show v=bc _ from rv);cases h;obtain⟨its,_,p,_⟩:=I.tuple (.of f);exact⟨.int_tuple _ _ p hu0, .int_tuple _ _ p hu0, .int_tuple _ _ p hu0⟩
   |_=>cases h
  |str k=>
   obtain⟨t0,rfl⟩:=ru;cases ry with
   |str j=>obtain⟨t,rfl⟩:=rv;cases h;exact⟨.str_str _ _ _ _, .str_str _ _ _ _, .str_str _ _ _ _⟩
   |_=>cases h
  | @tup a xs ws f hs=>
   cases(show u=bc a from ru);obtain⟨its,q1,p,_⟩:=I.tuple (.of f);cases ry with
   |int j=>obtain⟨t,rfl⟩:=rv;cases h;exact⟨.tuple_int _ _ p hu0, .tuple_int _ _ p hu0, .tuple_int _ _ p hu0⟩
   | @tup c ys zs g ks=>
    cases(show v=bc c from rv);obtain⟨its2,q2,p2,_⟩:=I.tuple (.of g);obtain⟨h1,h2⟩:=items hs ks q1 q2 h;have rc:fj A s (.ref a) (.ref c) b:=by
     have:=fj.tuples p p2 hu0 h1;rw[h2]at this;exact this
    have rn:fy A s (.ref a) (.ref c) (!b):=by
     have:=fy.tuples p p2 hu0 h1;rw[h2]at this;exact this
    refine⟨?_,rc,rn⟩;by_cases e:a=c
    ·subst e;have:=zjl I (n+1) (.tup f hs) (.tup g ks) hS h;rw[this];exact .same _
    ·exact .of_refs e rc
   |_=>cases h
  |ref a=>
   cases(show u=bc a from ru);cases ry with
   |ref c=>
    cases(show v=bc c from rv);have h':(match S a with
     |some (.lst xs)=>match S c with
      |some (.lst ys)=>zfS (eqF S n) xs ys
      |_=>none
     |_=>none)=ae b:=h
    cases e:S a with
    |none=>rw[e]at h';cases h'
    |some o=>
     rw[e]at h';cases o with
     |dct _=>cases h'
     |dk _=>cases h'
     |ins _ _=>cases h'
     |lst ws=>
      cases e2:S c with
      |none=>rw[e2]at h';cases h'
      |some o2=>
       rw[e2]at h';cases o2 with
       |dct _=>cases h'
       |dk _=>cases h'
       |ins _ _=>cases h'
       |lst zs=>
        obtain⟨xs,f,hs⟩:=hS a _ e;obtain⟨ys,g,ks⟩:=hS c _ e2;obtain⟨its,q1,p,_⟩:=I.list (.of f);obtain⟨its2,q2,p2,_⟩:=I.list (.of g);obtain⟨h1,h2⟩:=items hs ks q1 q2 h';have both:fj A s (.ref a) (.ref c) b∧fy A s (.ref a) (.ref c) (!b):=by
         by_cases hz:its.toArray.size=its2.toArray.size
         ·have t1:=fj.lists p.isList p2.isList hz hu0 h1;have t2:=fy.lists p.isList p2.isList hz hu0 h1;rw[←hz,Nat.min_self,beq_self_eq_true,Bool.and_true]at h2;rw[h2]at t1 t2;exact⟨t1,t2⟩
         ·have hz':(its.toArray.size != its2.toArray.size)=true:=by simpa using hz
          have hz2:(its.toArray.size == its2.toArray.size)=false:=by simpa using hz
          rw[hz2,fM]at h2;subst h2;exact⟨.lists_lengths p.isList p2.isList hz' hu0, .lists_lengths p.isList p2.isList hz' hu0⟩
        refine⟨?_,both.1,both.2⟩;by_cases ee:a=c
        ·subst ee;have:=zjl I (n+1) (.ref a) (.ref a) hS h;rw[this];exact .same _
        ·exact .of_refs ee both.1
   |_=>cases h
  |scr f=>cases ry<;>cases h
end
noncomputable def oEq (neg:Bool):W2:=λx y S Q=>match eqF S 60 x y with
 |some b=>Q (.bl (if neg then !b else b)) S
 |none=>False
noncomputable def zAc (K:aj) (neg:Bool):R2:=λx y H Q=>∃wx wy S b,Rep K H wx x∧Rep K H wy y∧RepS K H S∧eqF S 60 wx wy=ae b∧Q (.bl (if neg then !b else b)) H
section
variable {X:Cx}
theorem zun (hu:X.A.units+60<cLine):OpR X (bH .Eq) (zAc X.K false):=by
 intro pins s σ H x y v u Q I rx ry h;obtain⟨wx,wy,S,b,r1,r2,hS,e,q⟩:=h;exact(znK I hS 60 hu r1 r2 rx ry e).2.1 _ _ _ _ ⟨.bl b,H,I,rfl,q⟩
theorem zzb (hu:X.A.units+60<cLine):OpR X (bH .NotEq) (zAc X.K true):=by
 intro pins s σ H x y v u Q I rx ry h;obtain⟨wx,wy,S,b,r1,r2,hS,e,q⟩:=h;exact(znK I hS 60 hu r1 r2 rx ry e).2.2 _ _ _ _ ⟨.bl (!b),H,I,rfl,q⟩
theorem zpW{K:aj}{neg:Bool}:OpW K (zAc K neg) (oEq neg):=λH x y wx wy S Q QW rx ry hS h hQ=>by
 unfold oEq at h;split at h
 ·rename_i b e;exact⟨wx,wy,S,b,rx,ry,hS,e,hQ _ S _ H .refl (.bl _) hS h⟩
 ·exact h.elim
variable {a b:Expr}{pos:aB}{ta tb:WE}
theorem zoO{k:Nat}(hr:Room k X.A) (ha:JE X a ta) (hb:JE X b tb):JE X (.Compare a [.Eq] [b] pos) (wOp (oEq false) ta tb):=zuf (zun (by have:=hr.units;omega)) zpW ha hb (nomark b)
theorem zer{k:Nat}(hr:Room k X.A) (ha:JE X a ta) (hb:JE X b tb):JT X (.Compare a [.Eq] [b] pos) (wTb (wOp (oEq false) ta tb)):=zfu (zun (by have:=hr.units;omega)) zpW ha hb (nomark b)
theorem zhm{k:Nat}(hr:Room k X.A) (ha:JE X a ta) (hb:JE X b tb):JT X (.Compare a [.NotEq] [b] pos) (wTb (wOp (oEq true) ta tb)):=zfu (zzb (by have:=hr.units;omega)) zpW ha hb (nomark b)
noncomputable abbrev oLt:W2:=zfj λi j=> .bl (decide (i<j))
noncomputable abbrev oGt:W2:=zfj λi j=> .bl (decide (j<i))
noncomputable abbrev oGe:W2:=zfj λi j=> .bl (decide (j≤i))
noncomputable def oLe:W2
 | .int i, .int j,S,Q=>Q (.bl (decide (i≤j))) S
 | .str i, .str j,S,Q=>Q (.bl (!decide (j.cps.toList<i.cps.toList))) S
 |_,_,_,_=>False
theorem zpI (ha:JE X a ta) (hb:JE X b tb):JT X (.Compare a [.Lt] [b] pos) (wTb (wOp oLt ta tb)):=zfu zAd ziF ha hb (nomark b)
theorem zlx (ha:JE X a ta) (hb:JE X b tb):JT X (.Compare a [.Gt] [b] pos) (wTb (wOp oGt ta tb)):=zfu zAB ziF ha hb (nomark b)
theorem zzE (ha:JE X a ta) (hb:JE X b tb):JT X (.Compare a [.GtE] [b] pos) (wTb (wOp oGe ta tb)):=zfu zAC ziF ha hb (nomark b)
noncomputable def oIs (neg:Bool):W2
 | .non, .non,S,Q=>Q (.bl (!neg)) S
 | .bl a, .bl b,S,Q=>Q (.bl (if neg then a != b else a == b)) S
 | .bl _, .non,S,Q=>Q (.bl neg) S
 | .int _, .non,S,Q=>Q (.bl neg) S
 | .str _, .non,S,Q=>Q (.bl neg) S
 | .tup _, .non,S,Q=>Q (.bl neg) S
 | .ref _, .non,S,Q=>Q (.bl neg) S
 |_,_,_,_=>False
theorem zxB:OpR X (bH .Is) (λx y H Q=>(y= .non∧Q (.bl (decide (x= .non))) H)∨ ∃a b,x= .bl a∧y= .bl b∧Q (.bl (a == b)) H):=op_isN.or (by
 intro pins s σ H x y v u Q I rx ry h;obtain⟨a,b,rfl,rfl,q⟩:=h;cases rx;cases ry;exact is_bool ⟨.bl _,H,I,rfl,q⟩)
theorem zqf:OpR X (bH .IsNot) (λx y H Q=>(y= .non∧Q (.bl (!decide (x= .non))) H)∨ ∃a b,x= .bl a∧y= .bl b∧Q (.bl (a != b)) H):=op_notN.or (by
 intro pins s σ H x y v u Q I rx ry h;obtain⟨a,b,rfl,rfl,q⟩:=h;cases rx;cases ry;exact isnot_bool ⟨.bl _,H,I,rfl,q⟩)
theorem zwH{K:aj}:OpW K (λx y H Q=>(y= .non∧Q (.bl (decide (x= .non))) H)∨ ∃a b,x= .bl a∧y= .bl b∧Q (.bl (a == b)) H) (oIs false):=λH x y wx wy S Q QW rx ry hS h hQ=>by
 cases ry with
 |non=>cases rx<;>first |exact .inl ⟨rfl,by simpa using hQ _ S _ H .refl (.bl _) hS h⟩ |exact h.elim
 |bl b=>
  cases rx with
  |bl a=>exact .inr ⟨a,b,rfl,rfl,hQ _ S _ H .refl (.bl _) hS h⟩
  |_=>exact h.elim
 |_=>cases rx<;>exact h.elim
theorem zpf{K:aj}:OpW K (λx y H Q=>(y= .non∧Q (.bl (!decide (x= .non))) H)∨ ∃a b,x= .bl a∧y= .bl b∧Q (.bl (a != b)) H) (oIs true):=λH x y wx wy S Q QW rx ry hS h hQ=>by
 cases ry with
 |non=>cases rx<;>first |exact .inl ⟨rfl,by simpa using hQ _ S _ H .refl (.bl _) hS h⟩ |exact h.elim
 |bl b=>
  cases rx with
  |bl a=>exact .inr ⟨a,b,rfl,rfl,hQ _ S _ H .refl (.bl _) hS h⟩
  |_=>exact h.elim
 |_=>cases rx<;>exact h.elim
theorem zkA (ha:JE X a ta) (hb:JE X b tb):JT X (.Compare a [.Is] [b] pos) (wTb (wOp (oIs false) ta tb)):=zfu zxB zwH ha hb (nomark b)
theorem zgJ (ha:JE X a ta) (hb:JE X b tb):JT X (.Compare a [.IsNot] [b] pos) (wTb (wOp (oIs true) ta tb)):=zfu zqf zpf ha hb (nomark b)
end
noncomputable def inF (S:Sto) (x:W):List W→Option Bool
 | []=>ae false
 |w::ws=>match eqF S 59 w x with
  |some a=>match inF S x ws with
   |some b=>ae (a || b)
   |none=>none
  |none=>none
section
variable {X:Cx}{pins:List (Addr×Obj)}{σ:St}{H:Hp}{s:ah}{S:Sto}
theorem zlS (I:Inv X pins σ H s) (hS:RepS X.K H S):∀(n:Nat) {w w' u:W}{v:V}{b b':Bool},Rep X.K H w v→Rep X.K H w' v→eqF S n w u=ae b→eqF S n w' u=ae b'→b=b'
 |0,_,_,_,_,_,_,_,_,h,_=>by cases h
 |n+1,w,w',u,v,b,b',r,r',h,h'=>by
  have list:∀{us ws zs:List W}{vs:List V}{b b':Bool},Reps X.K H ws vs→Reps X.K H zs vs→zfS (eqF S n) ws us=ae b→zfS (eqF S n) zs us=ae b'→b=b':=by
   intro us
   induction us with
   |nil=>
    intro ws zs vs b b' r1 r2 e1 e2;cases r1 with
    |nil=>cases r2;rw[e1]at e2;exact aH e2
    |cons _ _=>cases r2 with
     |cons _ _=>have:=aH e1;have:=aH e2;subst_vars;rfl
   |cons u us ih=>
    intro ws zs vs b b' r1 r2 e1 e2;cases r1 with
    |nil=>cases r2;rw[e1]at e2;exact aH e2
    |cons a1 a2=>
     cases r2 with
     |cons c1 c2=>
      unfold zfS at e1 e2;split at e1
      ·rename_i p q f1 f2;split at e2
       ·rename_i p' q' g1 g2;have h1:=zlS I hS n a1 c1 f1 g1;have h2:=ih a2 c2 f2 g2;rw[←aH e1,←aH e2,h1,h2]
       ·cases e2
      ·cases e1
  have nolist:∀{a:Addr}{vs:List V}{ws:List W},H a=ae (.tup vs)→S a=ae (.lst ws)→False:=λf e=>by
   obtain⟨_,g,_⟩:=hS _ _ e;rw[f]at g;cases g
  cases r with
  |non=>cases r';rw[h]at h';exact aH h'
  |bl k=>cases r';rw[h]at h';exact aH h'
  |int k=>cases r';rw[h]at h';exact aH h'
  |str k=>cases r';rw[h]at h';exact aH h'
  |scr f=>cases u<;>cases h
  | @tup a vs ws f hs=>
   cases r' with
   | @tup _ us zs g ks=>
    rw[f]at g;cases g;cases u with
    |tup us=>exact list hs ks h h'
    |int _=>have:=aH h;have:=aH h';subst_vars;rfl
    |_=>cases h
   |scr _=>cases u<;>cases h'
   |ref _=>
    exfalso;cases u with
    |ref c=>
     have h2:(match S a with
      |some (.lst xs)=>match S c with
       |some (.lst ys)=>zfS (eqF S n) xs ys
       |_=>none
      |_=>none)=ae b':=h'
     split at h2
     ·exact nolist f ‹_›
     ·cases h2
    |_=>cases h'
  |ref a=>
   cases r' with
   |ref _=>rw[h]at h';exact aH h'
   |scr _=>cases u<;>cases h'
   |tup f hs=>
    exfalso;cases u with
    |ref c=>
     have h2:(match S a with
      |some (.lst xs)=>match S c with
       |some (.lst ys)=>zfS (eqF S n) xs ys
       |_=>none
      |_=>none)=ae b:=h
     split at h2
     ·exact nolist f ‹_›
     ·cases h2
    |_=>cases h
open Classical in
theorem znQ (I:Inv X pins σ H s) (hS:RepS X.K H S) {A:aQ}{ws:List W}{vs:List V}{us:List Value}{wx:W}{x:V}{u:Value}{b:Bool}(hu:A.units+60<cLine) (r:Reps X.K H ws vs) (rv:Vals vs us) (rx:Rep X.K H wx x) (ru:RelV x u) (h:inF S wx ws=ae b) :
  ∃e:Value→Bool,(∀y,y∈us.toArray→eI A.in1 s y u (e y))∧us.toArray.any e=b:=by
 refine⟨λy=>decide (∃w v,Rep X.K H w v∧RelV v y∧eqF S 59 w wx=ae true),?_,?_⟩
 ·have go:∀{ws:List W}{vs:List V}{us:List Value}{b:Bool},Reps X.K H ws vs→Vals vs us→inF S wx ws=ae b→ ∀y∈us,eI A.in1 s y u (decide (∃w v,Rep X.K H w v∧RelV v y∧eqF S 59 w wx=ae true)):=by
   intro ws
   induction ws with
   |nil=>intro vs us b r rv h y hy;cases r;cases rv;cases hy
   |cons w ws ih=>
    intro vs us b r rv h y hy;cases r with
    |cons r1 r2=>
     cases rv with
     |cons q1 q2=>
      unfold inF at h;split at h
      ·rename_i c e1;split at h
       ·rename_i d e2;rcases aA.mp hy with rfl |hy
        ·have ok:=(znK I hS 59 (A:=A.in1) (by rw[zjI];omega) r1 rx q1 ru e1).1;have ec:c=decide (∃w v,Rep X.K H w v∧RelV v y∧eqF S 59 w wx=ae true):=by
          cases c with
          |true=>exact(decide_eq_true ⟨w,_,r1,q1,e1⟩).symm
          |false=>
           symm;refine decide_eq_false λ⟨w',v',r',q',e'⟩=>?_;have:=RelV.inj q' q1;subst this;exact absurd (zlS I hS 59 r1 r' e1 e') (by simp)
         rw[←ec];exact ok
        ·exact ih r2 q2 e2 y hy
       ·cases h
      ·cases h
  intro y hy;exact go r rv h y (by simpa using hy)
 ·have go:∀{ws:List W}{vs:List V}{us:List Value}{b:Bool},Reps X.K H ws vs→Vals vs us→inF S wx ws=ae b→us.any (λy=>decide (∃w v,Rep X.K H w v∧RelV v y∧eqF S 59 w wx=ae true))=b:=by
   intro ws
   induction ws with
   |nil=>intro vs us b r rv h;cases r;cases rv;exact aH h
   |cons w ws ih=>
    intro vs us b r rv h;cases r with
    |cons r1 r2=>
     cases rv with
     | @cons _ _ _ _ q1 q2=>
      rename_i y _;unfold inF at h;split at h
      ·rename_i c e1;split at h
       ·rename_i d e2;have ec:decide (∃w v,Rep X.K H w v∧RelV v y∧eqF S 59 w wx=ae true)=c:=by
          cases c with
          |true=>exact decide_eq_true ⟨w,_,r1,q1,e1⟩
          |false=>
           refine decide_eq_false λ⟨w',v',r',q',e'⟩=>?_;have:=RelV.inj q' q1;subst this;exact absurd (zlS I hS 59 r1 r' e1 e') (by simp)
        rw[cU,ih r2 q2 e2,ec];exact aH h
       ·cases h
      ·cases h
  have:=go r rv h;simpa using this
end
noncomputable def oIn (neg:Bool):W2:=λx y S Q=>match y with
 | .str j=>match x with
  | .str i=>Q (.bl (if neg then !(!(cS j i 0 j.length 1).isEmpty) else !(cS j i 0 j.length 1).isEmpty)) S
  |_=>False
 | .tup ws=>match inF S x ws with
  |some b=>Q (.bl (if neg then !b else b)) S
  |none=>False
 | .ref a=>zcE S a λws=>match inF S x ws with
  |some b=>Q (.bl (if neg then !b else b)) S
  |none=>False
 |_=>False
noncomputable def zBm (K:aj) (neg:Bool):R2:=λx y H Q=>∃wx ws vs S p b,y= .ref p∧(SqL K H p vs∨SqT K H p vs)∧Reps K H ws vs∧Rep K H wx x∧RepS K H S∧inF S wx ws=ae b∧Q (.bl (if neg then !b else b)) H
section
variable {X:Cx}{a b:Expr}{pos:aB}{ta tb:WE}
theorem zxb (hu:X.A.units+60<cLine):OpR X (bH .In) (zBm X.K false):=by
 intro pins s σ H x y v u Q I rx ry h;obtain⟨wx,ws,vs,S,p,b,rfl,hq,rs,r,hS,e,q⟩:=h;cases ry;rcases hq with hq |hq
 ·obtain⟨its,rv,p,_⟩:=I.list hq;obtain⟨f,h1,h2⟩:=znQ I hS hu rs rv r rx e;exact SeqAt.in_listAt f p.isList h1 (by rw[h2];exact⟨.bl b,H,I,rfl,q⟩)
 ·obtain⟨its,rv,p,_⟩:=I.tuple hq;obtain⟨f,h1,h2⟩:=znQ I hS hu rs rv r rx e;exact SeqAt.in_tupleAt f p h1 (by rw[h2];exact⟨.bl b,H,I,rfl,q⟩)
theorem zrv (hu:X.A.units+60<cLine):OpR X (bH .NotIn) (zBm X.K true):=by
 intro pins s σ H x y v u Q I rx ry h;obtain⟨wx,ws,vs,S,p,b,rfl,hq,rs,r,hS,e,q⟩:=h;cases ry;rcases hq with hq |hq
 ·obtain⟨its,rv,p,_⟩:=I.list hq;obtain⟨f,h1,h2⟩:=znQ I hS hu rs rv r rx e;exact SeqAt.notIn_listAt f p.isList h1 (by rw[h2];exact⟨.bl (!b),H,I,rfl,q⟩)
 ·obtain⟨its,rv,p,_⟩:=I.tuple hq;obtain⟨f,h1,h2⟩:=znQ I hS hu rs rv r rx e;exact SeqAt.notIn_tupleAt f p h1 (by rw[h2];exact⟨.bl (!b),H,I,rfl,q⟩)
theorem zix{K:aj}{neg:Bool}{H:Hp}{x y:V}{wx wy:W}{S:Sto}{Q:VK}{QW:WK}(rx:Rep K H wx x) (ry:Rep K H wy y) (hS:RepS K H S) (h:oIn neg wx wy S QW) (hQ:Wish K H S QW Q) :
  (∃i j,x= .str i∧y= .str j∧Q (.bl (if neg then !(!(cS j i 0 j.length 1).isEmpty) else !(cS j i 0 j.length 1).isEmpty)) H)∨zBm K neg x y H Q:=by
 cases ry with
 |str j=>
  cases rx with
  |str i=>exact .inl ⟨i,j,rfl,rfl,hQ _ S _ H .refl (.bl _) hS h⟩
  |_=>exact h.elim
 |tup f hs=>
  refine .inr ?_;unfold oIn at h;dsimp only at h;split at h
  ·exact⟨wx,_,_,S,_,_,rfl, .inr (.of f),hs,rx,hS, ‹_›,hQ _ S _ H .refl (.bl _) hS h⟩
  ·exact h.elim
 |ref a=>
  refine .inr ?_;obtain⟨ws,e,h⟩:=zbn h;obtain⟨vs,f,hs⟩:=hS a _ e;split at h
  ·exact⟨wx,_,_,S,_,_,rfl, .inl (.of f),hs,rx,hS, ‹_›,hQ _ S _ H .refl (.bl _) hS h⟩
  ·exact h.elim
 |_=>exact h.elim
theorem zAX{k:Nat}(hr:Room k X.A) (ha:JE X a ta) (hb:JE X b tb) (hm:c6 .In b=false:=by with_unfolding_all rfl):JE X (.Compare a [.In] [b] pos) (wOp (oIn false) ta tb):=
 zuf (op_in_str.or (zxb (by have:=hr.units;omega))) (λH x y wx wy S Q QW rx ry hS h hQ=>zix rx ry hS h hQ) ha hb hm
theorem zsH{k:Nat}(hr:Room k X.A) (ha:JE X a ta) (hb:JE X b tb) (hm:c6 .NotIn b=false:=by with_unfolding_all rfl):JT X (.Compare a [.NotIn] [b] pos) (wTb (wOp (oIn true) ta tb)):=
 zfu (op_notin_str.or (zrv (by have:=hr.units;omega))) (λH x y wx wy S Q QW rx ry hS h hQ=>zix rx ry hS h hQ) ha hb hm
end
noncomputable def oIx:W2:=λx y S Q=>match y with
 | .int i=>match x with
  | .tup ws=>match atI ws i with
   |some w=>Q w S
   |none=>False
  | .ref a=>zcE S a λws=>match atI ws i with
   |some w=>Q w S
   |none=>False
  | .scr ns=>match atI ns i with
   |some n=>Q (.int n) S
   |none=>False
  | .str x=>x.length≤sizeLine∧match atI x.cps.toList i with
   |some c=>Q (.str ⟨#[c]⟩) S
   |none=>False
  |_=>False
 |_=>False
theorem zlP{K:aj}{H:Hp}{ws:List W}{vs:List V}{i:Int}{w:W}(r:Reps K H ws vs) (e:atI ws i=ae w):∃v,atI vs i=ae v∧Rep K H w v:=by
 unfold atI at e⊢;rw[←r.length];cases q:ixN ws.length i with
 |none=>rw[q]at e;cases e
 |some j=>rw[q]at e;exact r.get e
theorem zvA{α β:Type}{f:α→β}{xs:List α}{i:Int}{x:α}(e:atI xs i=ae x):atI (xs.map f) i=ae (f x):=by
 unfold atI at e⊢;rw[ax];cases q:ixN xs.length i with
 |none=>rw[q]at e;cases e
 |some j=>
  rw[q]at e;show(xs.map f)[j]? =_;rw[bj,show xs[j]? =ae x from e];rfl
theorem zxG{K:aj}:OpW K (rIx K) oIx:=λH x y wx wy S Q QW rx ry hS h hQ=>by
 cases ry with
 |int i=>
  cases rx with
  |tup f hs=>
   unfold oIx at h;dsimp only at h;split at h
   ·obtain⟨v,ev,r⟩:=zlP hs ‹_›;exact .inr (.inl ⟨_,_,i,v,rfl,rfl, .of f,ev,hQ _ S _ H .refl r hS h⟩)
   ·exact h.elim
  |ref a=>
   obtain⟨ws,e,h⟩:=zbn h;obtain⟨vs,f,hs⟩:=hS a _ e;split at h
   ·obtain⟨v,ev,r⟩:=zlP hs ‹_›;exact .inl ⟨_,_,i,v,rfl,rfl, .of f,ev,hQ _ S _ H .refl r hS h⟩
   ·exact h.elim
  |scr f=>
   unfold oIx at h;dsimp only at h;split at h
   ·exact .inl ⟨_,_,i,_,rfl,rfl,f.sq,zvA ‹_›,hQ _ S _ H .refl (.int _) hS h⟩
   ·exact h.elim
  |str z=>
   unfold oIx at h;dsimp only at h;obtain⟨hz,h⟩:=h;split at h
   ·exact .inr (.inr ⟨z,i,_,rfl,rfl,hz, ‹_›,hQ _ S _ H .refl (.str _) hS h⟩)
   ·exact h.elim
  |_=>exact h.elim
 |_=>exact h.elim
section
variable {X:Cx}{a b e:Expr}{pos p2:aB}{ta tb te:WE}{lo hi:Option Expr}
theorem zas (ha:JE X a ta) (hb:JE X b tb) (hs:zmo b:=by intro _ _;rfl):JE X (.Subscript a b pos) (wOp oIx ta tb):=λE hE=>
 (zxU ztT (ha E hE) (hb E hE) hs).mono λσ H Q h=>zgP h λH2 x y wx wy S QW rx ry hS q hQ=>zxG H2 x y wx wy S Q QW rx ry hS q hQ
abbrev WO:=WX→WSt→Sto→(Option Int→Sto→Prop)→Prop
noncomputable def zAM (K:aj) (t:WSt→Sto→(Option Int→Sto→Prop)→Prop):TO:=λσ H Q=>∃σW S QW,RpSt K H σW σ∧RepS K H S∧t σW S QW∧ ∀b S' H',Ext H S H' S'→RepS K H' S'→QW b S'→Q b H'
def JO (X:Cx) (e:Option Expr) (t:WO):Prop:=∀E,Hook X E→PO X e (zAM X.K (t E))
noncomputable def woN:WO:=λ_ _ S Q=>Q none S
noncomputable def woS (t:WE):WO:=λE σ S Q=>t E σ S λw S1=>match w with
 | .int i=>Q (ae i) S1
 |_=>False
theorem PO.mono{X:Cx}{e:Option Expr}{t t':TO}(h:PO X e t) (q:∀σ H Q,t' σ H Q→t σ H Q):PO X e t':=λpins s σ H Q I z=>h pins s σ H Q I (q σ H Q z)
theorem zaH:JO X none woN:=λE hE=>po_none.mono λσ H Q ⟨σW,S,QW,hσ,hS,ht,hQ⟩=>hQ none S H .refl hS ht
theorem zaC (h:JE X e te):JO X (ae e) (woS te):=λE hE=>(zvu (h E hE)).mono λσ H Q ⟨σW,S,QW,hσ,hS,ht,hQ⟩=>⟨σW,S,_,hσ,hS,ht,λw S1 v H1 e1 r1 hS1 h1=>by
 cases r1 with
 |int i=>exact⟨i,rfl,hQ _ S1 H1 e1 hS1 h1⟩
 |_=>exact h1.elim⟩
noncomputable def zeg {α:Type}(xs:List α) (lo hi:Option Int):List α:=(xs.drop (HT.sIx xs.length 0 lo)).take (HT.sIx xs.length xs.length hi - HT.sIx xs.length 0 lo)
theorem ziM{K:aj}{H:Hp}{ws:List W}{vs:List V}{lo hi:Option Int}(r:Reps K H ws vs):Reps K H (zeg ws lo hi) (zqc vs lo hi):=by
 unfold zeg zqc;rw[r.length];exact(r.drop _).take _
theorem zmD{α β:Type}{f:α→β}{xs:List α}{lo hi:Option Int}:zeg (xs.map f) lo hi=(zeg xs lo hi).map f:=by
 unfold zeg;rw[ax,jT,kg]
theorem zfa{prog:aE}{w:aC}{A:aQ}{E:Value→ah→Prop}{s:ah}{t sl:Addr}{items:Array Value}{vl vu:Value}{lo hi:Option Int}{Q:Value→ah→Prop}(ht:d9 s.heap t items) (hs:s.heap.IsSliceOf sl vl vu .none) (pl:cM vl lo) (pu:cM vu hi)
  (hw:HT.sIx items.size 0 lo=0∧HT.sIx items.size items.size hi=items.size) (h:Q (.ref t) s):am (aq prog w) A (dQ (.ref t) (.ref sl)) Q E s:=by
 obtain⟨os,hos,hcs,hds⟩:=id hs;have hTs:s.TypeIs (.ref sl) "slice" :=⟨os,hos,hcs⟩;unfold dQ
 try with_reducible refine fP ?_
 first |refine ak (aD ?_) |skip
 refine ak (jM ht.typeIs (by decide) ?_);refine ak (dr (name:=br "__getitem__") ht.typeIs dW
  (dt dW ht.typeIs ko ?_ (kE _ _)))
 show am _ _ (kf (.ref t) >>= _) _ _ s;refine ak (tupleItemsOf_ ht ?_);refine ak (fx hTs ?_);rw[if_pos (by decide)];refine ak (HT.sliceApplied_gen hs pl pu ?_);show am _ _ (if(((HT.sIx items.size 0 lo:Nat):Int) == 0&&(1:Int) == 1&&(HT.sIx items.size items.size hi - HT.sIx items.size 0 lo) == items.size)=true then _ else _) _ _ s;rw[hw.1,hw.2,if_pos (by simp)];unfold b4.Tuple.tupleIsExact;refine ak (ak (fx ht.typeIs (aD ?_)));rw[if_pos (by decide)];exact ak (eG (aD ⟨_,rfl,aD h⟩))
theorem sl_tupW:SlR X (λx lo hi H Q=>∃a xs,x= .ref a∧SqT X.K H a xs∧((HT.sIx xs.length 0 lo=0∧HT.sIx xs.length xs.length hi=xs.length)∧Q (.ref a) H∨ ¬(HT.sIx xs.length 0 lo=0∧HT.sIx xs.length xs.length hi=xs.length)∧ ∀p,H p=none→Q (.ref p) (upd H p (.tup (zqc xs lo hi))))):=by
 intro pins s σ H x v vl vu lo hi sl Q I rx hs pl pu h;obtain⟨a,xs,rfl,hx,⟨hw,q⟩ |⟨hw,q⟩⟩:=h
 ·cases rx;obtain⟨its,r,ht,hz⟩:=I.tuple hx;have hlen:its.toArray.size=xs.length:=by rw[aU];exact r.length.symm
  refine⟨"tuple",_,dW.lookup,ht.typeIs,?_⟩;exact zfa ht hs pl pu (by rw[hlen];exact hw) ⟨.ref a,H,I,rfl,q⟩
 ·exact zxy pins s σ H _ v vl vu lo hi sl Q I rx hs pl pu ⟨a,xs,rfl,hx,hw,q⟩
noncomputable def oSl:W→Option Int→Option Int→Sto→WK→Prop
 | .tup ws,lo,hi,S,Q=>Q (.tup (zeg ws lo hi)) S
 | .str z,lo,hi,S,Q=>z.length≤sizeLine∧Q (.str (cL z lo hi)) S
 | .ref a,lo,hi,S,Q=>zcE S a λws=>∀p,S p=none→Q (.ref p) (put S p (.lst (zeg ws lo hi)))
 | .scr ns,lo,hi,S,Q=>∀p,S p=none→Q (.ref p) (put S p (.lst ((zeg ns lo hi).map W.int)))
 |_,_,_,_,_=>False
noncomputable def wSl (t:WE) (l h:WO):WE:=λE σ S Q=>t E σ S λx S1=>l E σ S1 λlo S2=>h E σ S2 λhi S3=>oSl x lo hi S3 Q
theorem zoI{α:Type}{xs:List α}{lo hi:Option Int}(h:HT.sIx xs.length 0 lo=0∧HT.sIx xs.length xs.length hi=xs.length):zeg xs lo hi=xs:=by
 unfold zeg;rw[h.1,h.2,cG,eM,gx]
theorem zcu{tl th:WO}(he:JE X e te) (hl:JO X lo tl) (hh:JO X hi th):JE X (.Subscript e (.Slice lo hi none p2) pos) (wSl te tl th):=λE hE=>
 (zmZ (sl_tupW.or (sl_str.or zrw)) (he E hE) (hl E hE) (hh E hE)).mono λσ H Q ⟨σW,S,QW,hσ,hS,ht,hQ⟩=>
  ⟨σW,S,_,hσ,hS,ht,λw S1 v H1 e1 r1 hS1 h1=>⟨σW,S1,_,hσ.ext e1,hS1,h1,λlo S2 H2 e2 hS2 h2=>⟨σW,S2,_,(hσ.ext e1).ext e2,hS2,h2,λhi S3 H3 e3 hS3 h3=>by
   have hQ':=hQ.from (e1.trans (e2.trans e3));have r3:=(r1.ext e2).ext e3;cases r3 with
   | @tup a vs ws f hs=>
    refine .inl ⟨a,vs,rfl, .of f,?_⟩;by_cases hw:HT.sIx vs.length 0 lo=0∧HT.sIx vs.length vs.length hi=vs.length
    ·refine .inl ⟨hw,hQ' (.tup ws) S3 _ H3 .refl (.tup f hs) hS3 ?_⟩;have:=zoI (xs:=ws) (lo:=lo) (hi:=hi) (by rw[hs.length];exact hw);have h3':QW (.tup (zeg ws lo hi)) S3:=h3;rw[this]at h3';exact h3'
    ·exact .inr ⟨hw,λp hp=>hQ' _ S3 _ _ (.new hp) (.tup zay ((ziM hs).ext (.new (S:=S3) hp))) (hS3.new hp) h3⟩
   |str z=>exact .inr (.inl ⟨z,rfl,h3.1,hQ' _ S3 _ H3 .refl (.str _) hS3 h3.2⟩)
   |ref a=>
    obtain⟨ws,ea,h⟩:=zbn h3;obtain⟨vs,f,hs⟩:=hS3 a _ ea;exact .inr (.inr ⟨a,vs,rfl, .of f,λp hp=>hQ' _ _ _ _ (.newS hp) (.ref p) (hS3.put_lst hp ((ziM hs).ext (.new (S:=S3) hp))) (h p (hS3.free hp))⟩)
   | @scr a ns f=>
    refine .inr (.inr ⟨a,_,rfl,f.sq,λp hp=>hQ' _ _ _ _ (.newS hp) (.ref p) (hS3.put_lst hp ?_) (h3 p (hS3.free hp))⟩);have q:zqc (ns.map V.int) lo hi=(zeg ns lo hi).map V.int:=zmD;rw[q];exact Reps.ofInts _
   |_=>exact h3.elim⟩⟩⟩
noncomputable def zwB (t:WE) (l h:WO):WL:=λE σ S Q=>t E σ S λx S1=>l E σ S1 λlo S2=>h E σ S2 λhi S3=>match x with
 | .ref a=>zcE S3 a λws=>Q (zeg ws lo hi) S3
 | .scr ns=>Q ((zeg ns lo hi).map W.int) S3
 |_=>False
theorem zuU{tl th:WO}(he:JE X e te) (hl:JO X lo tl) (hh:JO X hi th):JL X (.Subscript e (.Slice lo hi none p2) pos) (zwB te tl th):=λE hE=>
 (zmZ zrw (he E hE) (hl E hE) (hh E hE)).mono λσ H Q ⟨σW,S,QW,hσ,hS,ht,hQ⟩=>
  ⟨σW,S,_,hσ,hS,ht,λw S1 v H1 e1 r1 hS1 h1=>⟨σW,S1,_,hσ.ext e1,hS1,h1,λlo S2 H2 e2 hS2 h2=>⟨σW,S2,_,(hσ.ext e1).ext e2,hS2,h2,λhi S3 H3 e3 hS3 h3=>by
   have e':=e1.trans (e2.trans e3);have r3:=(r1.ext e2).ext e3;cases r3 with
   |ref a=>
    obtain⟨ws,ea,h⟩:=zbn h3;obtain⟨vs,f,hs⟩:=hS3 a _ ea;exact⟨a,vs,rfl, .of f,λp hp=>hQ _ S3 _ p _ (e'.trans (.new hp)) (e'.free hp) zay (hS3.free hp) ((ziM hs).ext (.new (S:=S3) hp)) (hS3.new hp) h⟩
   | @scr a ns f=>
    refine⟨a,_,rfl,f.sq,λp hp=>hQ _ S3 _ p _ (e'.trans (.new hp)) (e'.free hp) zay (hS3.free hp) ?_ (hS3.new hp) h3⟩;have q:zqc (ns.map V.int) lo hi=(zeg ns lo hi).map V.int:=zmD;rw[q];exact Reps.ofInts _
   |_=>exact h3.elim⟩⟩⟩
end
abbrev WF:=List W→Sto→WK→Prop
noncomputable def wB (f:WF) (t:WA):WE:=λE σ S Q=>t E σ S λws S1=>f ws S1 Q
def zmh (K:aj) (r:List V→Hp→VK→Prop) (f:WF):Prop:=∀H vs ws S (Q:VK) (QW:WK),Reps K H ws vs→RepS K H S→f ws S QW→Wish K H S QW Q→r vs H Q
noncomputable def wBL (f:WF) (t:WL):WE:=λE σ S Q=>t E σ S λws S1=>f ws S1 Q
def zrO (K:aj) (r:List V→Hp→VK→Prop) (f:WF):Prop:=∀H a vs ws S (Q:VK) (QW:WK),H a=ae (.lst vs)→S a=none→Reps K H ws vs→RepS K H S→f ws S QW→Wish K H S QW Q→r [.ref a] H Q
section
variable {X:Cx}{x:Str}{p pos:aB}{e:Expr}{es:List Expr}{t:WA}{tl:WL}{id T:String}{r:List V→Hp→VK→Prop}{f:WF}
theorem zuv (hc:CallR X (.builtin id) r) (hw:zmh X.K r f) (hg:Gl X x) (hm:X.mg x=none) (hv:bV x=ae (.builtin id)) (ha:JA X (e::es) t) (hn:x≠ "__name__" :=by decide) (hdb:(x == ("__debug__" :Str))=false:=by decide)
  (he:ao (e::es) X.env=(false,az e X.env)::ao es X.env:=by rfl) (hpl:(aT pos (ao es X.env)).any (·.1)=false:=by rfl):JE X (.Call (.Name x p) (e::es) [] pos) (wB f t):=λE hE=>
 (zjf hc hg hm hv (ha E hE) hn hdb he hpl).mono λσ H Q ⟨σW,S,QW,hσ,hS,ht,hQ⟩=>⟨σW,S,_,hσ,hS,ht,λws S1 vs H1 e1 r1 hS1 h1=>hw H1 vs ws S1 Q QW r1 hS1 h1 (hQ.from e1)⟩
theorem zyB (hc:CallR X (.type T) r) (hw:zmh X.K r f) (hg:Gl X x) (hm:X.mg x=none) (hv:bV x=ae (.type T)) (ha:JA X (e::es) t) (hn:x≠ "__name__" :=by decide) (hdb:(x == ("__debug__" :Str))=false:=by decide)
  (he:ao (e::es) X.env=(false,az e X.env)::ao es X.env:=by rfl) (hpl:(aT pos (ao es X.env)).any (·.1)=false:=by rfl):JE X (.Call (.Name x p) (e::es) [] pos) (wB f t):=λE hE=>
 (zhS hc hg hm hv (ha E hE) hn hdb he hpl).mono λσ H Q ⟨σW,S,QW,hσ,hS,ht,hQ⟩=>⟨σW,S,_,hσ,hS,ht,λws S1 vs H1 e1 r1 hS1 h1=>hw H1 vs ws S1 Q QW r1 hS1 h1 (hQ.from e1)⟩
theorem zwe (hc:CallR X (.builtin id) r) (hw:zrO X.K r f) (hg:Gl X x) (hm:X.mg x=none) (hv:bV x=ae (.builtin id)) (ha:JL X e tl) (hn:x≠ "__name__" :=by decide) (hdb:(x == ("__debug__" :Str))=false:=by decide)
  (he:ao [e] X.env=(false,az e X.env)::ao [] X.env:=by rfl) (hpl:(aT pos (ao [] X.env)).any (·.1)=false:=by rfl):JE X (.Call (.Name x p) [e] [] pos) (wBL f tl):=λE hE=>
 (zjf hc hg hm hv (zdh (ha E hE) pa_nil he) hn hdb he hpl).mono λσ H Q ⟨σW,S,QW,hσ,hS,ht,hQ⟩=>⟨σW,S,_,hσ,hS,ht,λws S1 vs a H1 e1 fa ea na r1 hS1 h1=>hw H1 a vs ws S1 Q QW ea na r1 hS1 h1 (hQ.from e1)⟩
theorem zuz (hc:CallR X (.type T) r) (hw:zrO X.K r f) (hg:Gl X x) (hm:X.mg x=none) (hv:bV x=ae (.type T)) (ha:JL X e tl) (hn:x≠ "__name__" :=by decide) (hdb:(x == ("__debug__" :Str))=false:=by decide)
  (he:ao [e] X.env=(false,az e X.env)::ao [] X.env:=by rfl) (hpl:(aT pos (ao [] X.env)).any (·.1)=false:=by rfl):JE X (.Call (.Name x p) [e] [] pos) (wBL f tl):=λE hE=>
 (zhS hc hg hm hv (zdh (ha E hE) pa_nil he) hn hdb he hpl).mono λσ H Q ⟨σW,S,QW,hσ,hS,ht,hQ⟩=>⟨σW,S,_,hσ,hS,ht,λws S1 vs a H1 e1 fa ea na r1 hS1 h1=>hw H1 a vs ws S1 Q QW ea na r1 hS1 h1 (hQ.from e1)⟩
noncomputable def zeh:WF:=λws S Q=>match ws with
 | [.tup us]=>Q (.int us.length) S
 | [.ref a]=>zcE S a λus=>Q (.int us.length) S
 | [.scr ns]=>Q (.int ns.length) S
 | [.str z]=>z.length≤sizeLine∧Q (.int z.length) S
 |_=>False
theorem zrP{K:aj}:zmh K (λxs H Q=>(∃p ys,xs=[.ref p]∧(SqL K H p ys∨SqT K H p ys)∧Q (.int ys.length) H)∨ ∃z,xs=[.str z]∧z.length≤sizeLine∧Q (.int z.length) H) zeh:=λH vs ws S Q QW r hS h hQ=>by
 cases r with
 |nil=>exact h.elim
 |cons r1 r2=>
  cases r2 with
  |cons _ _=>cases r1<;>exact h.elim
  |nil=>
   cases r1 with
   |tup f hs=>exact .inl ⟨_,_,rfl, .inr (.of f),by rw[←hs.length];exact hQ _ S _ H .refl (.int _) hS h⟩
   |ref a=>
    obtain⟨us,e,h⟩:=zbn h;obtain⟨vs,f,hs⟩:=hS a _ e;exact .inl ⟨_,_,rfl, .inl (.of f),by rw[←hs.length];exact hQ _ S _ H .refl (.int _) hS h⟩
   |scr f=>exact .inl ⟨_,_,rfl, .inl f.sq,by rw[ax];exact hQ _ S _ H .refl (.int _) hS h⟩
   |str z=>exact .inr ⟨z,rfl,h.1,hQ _ S _ H .refl (.int _) hS h.2⟩
   |_=>exact h.elim
theorem zbs (hg:Gl X "len") (hm:X.mg "len" =none) (ha:JA X (e::es) t) 
  (he:ao (e::es) X.env=(false,az e X.env)::ao es X.env:=by rfl) (hpl:(aT pos (ao es X.env)).any (·.1)=false:=by rfl):JE X (.Call (.Name "len" p) (e::es) [] pos) (wB zeh t):=
 zuv (call_len_seq.or zli) zrP hg hm PySem.boot_len ha (by decide) (by decide) he hpl
noncomputable def zdt:WF:=λws S Q=>match ws with
 | [.tup us]=>Q (.tup us) S
 | [.ref a]=>zcE S a λus=>Q (.tup us) S
 |_=>False
theorem zlY{K:aj}:zmh K (λxs H Q=>∃p ys,xs=[.ref p]∧((SqL K H p ys∧ ∀l,H l=none→Q (.ref l) (upd H l (.tup ys)))∨(SqT K H p ys∧Q (.ref p) H))) zdt:=λH vs ws S Q QW r hS h hQ=>by
 cases r with
 |nil=>exact h.elim
 |cons r1 r2=>
  cases r2 with
  |cons _ _=>cases r1<;>exact h.elim
  |nil=>
   cases r1 with
   |tup f hs=>exact⟨_,_,rfl, .inr ⟨.of f,hQ _ S _ H .refl (.tup f hs) hS h⟩⟩
   |ref a=>
    obtain⟨us,e,h⟩:=zbn h;obtain⟨vs,f,hs⟩:=hS a _ e;exact⟨_,_,rfl, .inl ⟨.of f,λl hl=>hQ _ S _ _ (.new hl) (.tup zay (hs.ext (.new (S:=S) hl))) (hS.new hl) h⟩⟩
   |_=>exact h.elim
noncomputable def zgh:WF:=λws S Q=>Q (.tup ws) S
theorem zlV{K:aj}:zrO K (λxs H Q=>∃p ys,xs=[.ref p]∧((SqL K H p ys∧ ∀l,H l=none→Q (.ref l) (upd H l (.tup ys)))∨(SqT K H p ys∧Q (.ref p) H))) zgh:=λH a vs ws S Q QW ea na r hS h hQ=>
 ⟨a,vs,rfl, .inl ⟨.of ea,λl hl=>hQ _ S _ _ (.new hl) (.tup zay (r.ext (.new (S:=S) hl))) (hS.new hl) h⟩⟩
noncomputable def zlK (t:WE):WL:=λE σ S Q=>t E σ S λw S1=>match w with
 | .tup ws=>Q ws S1
 | .ref a=>zcE S1 a λws=>Q ws S1
 | .scr ns=>Q (ns.map W.int) S1
 |_=>False
theorem zvL{te:WE}(hg:Gl X "list") (hm:X.mg "list" =none) (ha:JE X e te)
  (he:ao [e] X.env=(false,az e X.env)::ao [] X.env:=by rfl) (hpl:(aT pos (ao [] X.env)).any (·.1)=false:=by rfl):JL X (.Call (.Name "list" p) [e] [] pos) (zlK te):=λE hE=>
 (zhS zky hg hm j8 (zdh (ha E hE) pa_nil he) (by decide) (by decide) he hpl).mono λσ H Q ⟨σW,S,QW,hσ,hS,ht,hQ⟩=>⟨σW,S,_,hσ,hS,ht,λw S1 v H1 e1 r1 hS1 h1=>by
  cases r1 with
  |tup f hs=>exact⟨_,_,rfl, .inr (.of f),λl hl=>hQ _ S1 _ l _ (e1.trans (.new hl)) (e1.free hl) zay (hS1.free hl) (hs.ext (.new (S:=S1) hl)) (hS1.new hl) h1⟩
  |ref a=>
   obtain⟨ws,ea,h⟩:=zbn h1;obtain⟨vs,f,hs⟩:=hS1 a _ ea;exact⟨_,_,rfl, .inl (.of f),λl hl=>hQ _ S1 _ l _ (e1.trans (.new hl)) (e1.free hl) zay (hS1.free hl) (hs.ext (.new (S:=S1) hl)) (hS1.new hl) h⟩
  |scr f=>exact⟨_,_,rfl, .inl f.sq,λl hl=>hQ _ S1 _ l _ (e1.trans (.new hl)) (e1.free hl) zay (hS1.free hl) (Reps.ofInts _) (hS1.new hl) h1⟩
  |_=>exact h1.elim⟩
noncomputable def tyW:W→Sto→(String→Prop)→Prop
 | .non,_,Q=>Q "NoneType"
 | .bl _,_,Q=>Q "bool"
 | .int _,_,Q=>Q "int"
 | .str _,_,Q=>Q "str"
 | .tup _,_,Q=>Q "tuple"
 | .ref a,S,Q=>zcE S a λ_=>Q "list"
 | .scr _,_,_=>False
noncomputable def zcn (A B:String):Bool:=A == B || (A == "bool" &&B == "int")
noncomputable def zoH (T:String) (t:WE):WE:=λE σ S Q=>t E σ S λw S1=>tyW w S1 λA=>Q (.bl (zcn A T)) S1
theorem zep{a:Expr}{ta:WE}{p2:aB}{T:Str}{T':String}(hg:Gl X "isinstance") (hm:X.mg "isinstance" =none) (hgT:Gl X T) (hmT:X.mg T=none) (hv:bV T=ae (.type T')) (ha:JE X a ta) (hn:T≠ "__name__") (hd:(T == ("__debug__" :Str))=false)
  (hk:∀A∈ ["NoneType", "bool", "int", "str", "tuple", "list"],eX X.K (.type A) (.type T')=ae (zcn A T'))
  (he:ao [a, .Name T p2] X.env=(false,az a X.env)::ao [.Name T p2] X.env:=by rfl) (he2:ao [.Name T p2] X.env=(false,az (.Name T p2) X.env)::ao [] X.env:=by rfl) (hpl:(aT pos (ao [.Name T p2] X.env)).any (·.1)=false:=by rfl) :
  JE X (.Call (.Name "isinstance" p) [a, .Name T p2] [] pos) (zoH T' ta):=λE hE=>
 (zjf zsN hg hm PyProof.Rows.boot_isinstance (zdh (ha E hE) (zdh (zvK (v:= .ty T') hgT hmT hv rfl hn hd) pa_nil he2) he) (by decide) (by decide) he hpl).mono λσ H Q ⟨σW,S,QW,hσ,hS,ht,hQ⟩=>⟨σW,S,_,hσ,hS,ht,λw S1 v H1 e1 r1 hS1 h1=>by
  have fin:∀{t:Value}(A:String),t= .type A→A∈ ["NoneType", "bool", "int", "str", "tuple", "list"]→TyOf X.K H1 v t→QW (.bl (zcn A T')) S1→ ∃x t c b,[v,V.ty T']=[x, .ty c]∧TyOf X.K H1 x t∧eX X.K t (.type c)=ae b∧Q (.bl b) H1:=λA e hA ty q=>by
   subst e;exact⟨v,_,T',_,rfl,ty,hk A hA,hQ _ S1 _ H1 e1 (.bl _) hS1 q⟩
  cases r1 with
  |non=>exact fin _ rfl (by simp) .non h1
  |bl b=>exact fin _ rfl (by simp) (.bl b) h1
  |int i=>exact fin _ rfl (by simp) (.int i) h1
  |str z=>exact fin _ rfl (by simp) (.str z) h1
  |tup f hs=>exact fin _ rfl (by simp) (.tup f) h1
  |ref a=>
   obtain⟨ws,ea,h⟩:=zbn h1;obtain⟨vs,f,hs⟩:=hS1 a _ ea;exact fin _ rfl (by simp) (.lst f) h
  |scr f=>exact h1.elim⟩
end
abbrev WMf:=W→List W→Sto→WK→Prop
noncomputable def rvL:W→Sto→Prop
 | .ref a,S=>zcE S a λ_=>True
 |_,_=>False
noncomputable def rvS:W→Sto→Prop
 | .str _,_=>True
 |_,_=>False
noncomputable def wM (rv:W→Sto→Prop) (f:WMf) (to:WE) (t:WA):WE:=λE σ S Q=>to E σ S λw S1=>rv w S1∧t E σ S1 λws S2=>f w ws S2 Q
noncomputable def wML (rv:W→Sto→Prop) (f:WMf) (to:WE) (t:WL):WE:=λE σ S Q=>to E σ S λw S1=>rv w S1∧t E σ S1 λws S2=>f w ws S2 Q
def MtW (K:aj) (r:V→List V→Hp→VK→Prop) (f:WMf):Prop:=∀H x w vs ws S (Q:VK) (QW:WK),Rep K H w x→Reps K H ws vs→RepS K H S→f w ws S QW→Wish K H S QW Q→r x vs H Q
def MtL (K:aj) (r:V→List V→Hp→VK→Prop) (f:WMf):Prop:=∀H x w a vs ws S (Q:VK) (QW:WK),Rep K H w x→H a=ae (.lst vs)→S a=none→Reps K H ws vs→RepS K H S→f w ws S QW→Wish K H S QW Q→r x [.ref a] H Q
def zyC (K:aj) (T:String) (rv:W→Sto→Prop):Prop:=∀H w v S,Rep K H w v→RepS K H S→rv w S→tyV K T v H
theorem ztH{K:aj}:zyC K "list" rvL:=λH w v S r hS h=>by
 cases r with
 |ref a=>
  obtain⟨ws,e,_⟩:=zbn h;obtain⟨vs,f,_⟩:=hS a _ e;exact .inl ⟨rfl,vs, .of f⟩
 |_=>exact h.elim
theorem ztL{K:aj}:zyC K "str" rvS:=λH w v S r hS h=>by
 cases r with
 |str x=>exact rfl
 |_=>exact h.elim
section
variable {X:Cx}{o e:Expr}{es:List Expr}{to:WE}{t:WA}{tl:WL}{name:Str}{apos cpos:aB}{id T:String}{r:V→List V→Hp→VK→Prop}{f:WMf}{rv:W→Sto→Prop}
theorem zBr (pa:e_ T) (slot:Slot T name id) (hty:eT (.builtin id)=pure (.type "method_descriptor")) (hrv:zyC X.K T rv) (hm:MtR X id r) (hw:MtW X.K r f) (ho:JE X o to) (ha:JA X (e::es) t)
  (hbase:cT o name X.env (az o X.env)=az o X.env:=by rfl)
  (hfew:((aT cpos (ao (e::es) X.env)).all (λx=> !x.1)&&(dG cpos (dR [] X.env)).all (λx=>x.1.isSome)
   &&decide ((e::es).length+([]:List bU).length+(if([]:List bU).isEmpty then 0 else 1)<30))=true:=by rfl)
  (hline:(apos.endLine == cpos.line)=true:=by rfl) (hs:ao (e::es) X.env=(false,az e X.env)::ao es X.env:=by rfl) (hplain:(aT cpos (ao es X.env)).any (·.1)=false:=by rfl) :
  JE X (.Call (.Attribute o name apos) (e::es) [] cpos) (wM rv f to t):=λE hE=>
 (zxk pa slot hty hm (ho E hE) (ha E hE) hbase hfew hline hs hplain).mono λσ H Q ⟨σW,S,QW,hσ,hS,ht,hQ⟩=>⟨σW,S,_,hσ,hS,ht,λw S1 v H1 e1 r1 hS1 h1=>
  ⟨hrv H1 w v S1 r1 hS1 h1.1,σW,S1,_,hσ.ext e1,hS1,h1.2,λws S2 vs H2 e2 r2 hS2 h2=>hw H2 v w vs ws S2 Q QW (r1.ext e2) r2 hS2 h2 (hQ.from (e1.trans e2))⟩⟩
theorem zAz (pa:e_ T) (slot:Slot T name id) (hty:eT (.builtin id)=pure (.type "method_descriptor")) (hrv:zyC X.K T rv) (hm:MtR X id r) (hw:MtL X.K r f) (ho:JE X o to) (ha:JL X e tl)
  (hbase:cT o name X.env (az o X.env)=az o X.env:=by rfl)
  (hfew:((aT cpos (ao [e] X.env)).all (λx=> !x.1)&&(dG cpos (dR [] X.env)).all (λx=>x.1.isSome)
   &&decide ([e].length+([]:List bU).length+(if([]:List bU).isEmpty then 0 else 1)<30))=true:=by rfl)
  (hline:(apos.endLine == cpos.line)=true:=by rfl) (hs:ao [e] X.env=(false,az e X.env)::ao [] X.env:=by rfl) (hplain:(aT cpos (ao [] X.env)).any (·.1)=false:=by rfl) :
  JE X (.Call (.Attribute o name apos) [e] [] cpos) (wML rv f to tl):=λE hE=>
 (zxk pa slot hty hm (ho E hE) (zdh (ha E hE) pa_nil hs) hbase hfew hline hs hplain).mono λσ H Q ⟨σW,S,QW,hσ,hS,ht,hQ⟩=>⟨σW,S,_,hσ,hS,ht,λw S1 v H1 e1 r1 hS1 h1=>
  ⟨hrv H1 w v S1 r1 hS1 h1.1,σW,S1,_,hσ.ext e1,hS1,h1.2,λws S2 vs a H2 e2 fa ea na r2 hS2 h2=>hw H2 v w a vs ws S2 Q QW (r1.ext e2) ea na r2 hS2 h2 (hQ.from (e1.trans e2))⟩⟩
theorem zAP (pa:e_ T) (slot:Slot T name id) (hty:eT (.builtin id)=pure (.type "method_descriptor")) (hrv:zyC X.K T rv) (hm:MtR X id r) (hw:MtW X.K r f) (ho:JE X o to)
  (hbase:cT o name X.env (az o X.env)=az o X.env:=by rfl) (hline:(apos.endLine == cpos.line)=true:=by rfl):JE X (.Call (.Attribute o name apos) [] [] cpos) (wM rv f to waNil):=λE hE=>
 (zxF pa slot hty hm (ho E hE) hbase hline).mono λσ H Q ⟨σW,S,QW,hσ,hS,ht,hQ⟩=>⟨σW,S,_,hσ,hS,ht,λw S1 v H1 e1 r1 hS1 h1=>
  ⟨hrv H1 w v S1 r1 hS1 h1.1,hw H1 v w [] [] S1 Q QW r1 .nil hS1 h1.2 (hQ.from e1)⟩⟩
noncomputable def zbT:WMf:=λw ws S Q=>match w with
 | .ref a=>zcE S a λxs=>match ws with
  | [y]=>xs.length<sizeLine∧Q .non (put S a (.lst (xs++[y])))
  |_=>False
 |_=>False
theorem zol{K:aj}:MtW K zrK zbT:=λH x w vs ws S Q QW r rs hS h hQ=>by
 cases r with
 |ref a=>
  obtain⟨xs,ea,h⟩:=zbn h;obtain⟨us,f,hs⟩:=hS a _ ea;cases rs with
  |nil=>exact h.elim
  |cons r1 r2=>
   cases r2 with
   |cons _ _=>exact h.elim
   |nil=>
    obtain⟨e,hS'⟩:=hS.set_lst ea (hs.append (.one r1));exact⟨a,us,_,rfl,rfl,f,by rw[←hs.length];exact h.1,hQ _ _ _ _ e .non hS' h.2⟩
 |_=>exact h.elim
theorem zbB (ho:JE X o to) (ha:JA X (e::es) t)
  (hbase:cT o "append" X.env (az o X.env)=az o X.env:=by rfl)
  (hfew:((aT cpos (ao (e::es) X.env)).all (λx=> !x.1)&&(dG cpos (dR [] X.env)).all (λx=>x.1.isSome)
   &&decide ((e::es).length+([]:List bU).length+(if([]:List bU).isEmpty then 0 else 1)<30))=true:=by rfl)
  (hline:(apos.endLine == cpos.line)=true:=by rfl) (hs:ao (e::es) X.env=(false,az e X.env)::ao es X.env:=by rfl) (hplain:(aT cpos (ao es X.env)).any (·.1)=false:=by rfl) :
  JE X (.Call (.Attribute o "append" apos) (e::es) [] cpos) (wM rvL zbT to t):=zBr jS PySem.F.slot_list_append PySem.F.type_list_append ztH zlj zol ho ha hbase hfew hline hs hplain
noncomputable def zCa:WMf:=λw ws S Q=>match w with
 | .ref a=>zcE S a λxs=>match ws with
  | []=>match xs[xs.length - 1]? with
   |some y=>Q y (put S a (.lst xs.dropLast))
   |none=>False
  |_=>False
 |_=>False
noncomputable def zhE:WMf:=λw ws S Q=>match w with
 | .ref a=>zcE S a λxs=>match ws with
  | [.tup ys]=>xs.length+ys.length≤sizeLine∧Q .non (put S a (.lst (xs++ys)))
  | [.ref b]=>zcE S b λys=>xs.length+ys.length≤sizeLine∧Q .non (put S a (.lst (xs++ys)))
  |_=>False
 |_=>False
theorem zor{K:aj}:MtW K (λx vs H Q=>zqN x vs H Q∨znM K x vs H Q) zhE:=λH x w vs ws S Q QW r rs hS h hQ=>by
 cases r with
 |ref a=>
  obtain⟨xs,ea,h⟩:=zbn h;obtain⟨us,f,hs⟩:=hS a _ ea;cases rs with
  |nil=>exact h.elim
  |cons r1 r2=>
   cases r2 with
   |cons _ _=>cases r1<;>exact h.elim
   |nil=>
    cases r1 with
    |tup g ks=>
     obtain⟨e,hS'⟩:=hS.set_lst ea (hs.append ks);exact .inr ⟨a,_,us,_,rfl,rfl,f, .of g,by rw[←hs.length,←ks.length];exact h.1,hQ _ _ _ _ e .non hS' h.2⟩
    |ref b=>
     obtain⟨ys,eb,h⟩:=zbn h;obtain⟨zs,g,ks⟩:=hS b _ eb;obtain⟨e,hS'⟩:=hS.set_lst ea (hs.append ks);exact .inl ⟨a,b,us,zs,rfl,rfl,f,g,by rw[←hs.length,←ks.length];exact h.1,hQ _ _ _ _ e .non hS' h.2⟩
    |_=>exact h.elim
 |_=>exact h.elim
theorem zrN (ho:JE X o to) (ha:JA X (e::es) t)
  (hbase:cT o "extend" X.env (az o X.env)=az o X.env:=by rfl)
  (hfew:((aT cpos (ao (e::es) X.env)).all (λx=> !x.1)&&(dG cpos (dR [] X.env)).all (λx=>x.1.isSome)
   &&decide ((e::es).length+([]:List bU).length+(if([]:List bU).isEmpty then 0 else 1)<30))=true:=by rfl)
  (hline:(apos.endLine == cpos.line)=true:=by rfl) (hs:ao (e::es) X.env=(false,az e X.env)::ao es X.env:=by rfl) (hplain:(aT cpos (ao es X.env)).any (·.1)=false:=by rfl) :
  JE X (.Call (.Attribute o "extend" apos) (e::es) [] cpos) (wM rvL zhE to t):=zBr jS PySem.F.slot_list_extend PySem.F.type_list_extend ztH (MtR.or zqS zoh) zor ho ha hbase hfew hline hs hplain
noncomputable def zsy:WMf:=λw ws S Q=>match w with
 | .ref a=>zcE S a λxs=>xs.length+ws.length≤sizeLine∧Q .non (put S a (.lst (xs++ws)))
 |_=>False
noncomputable def zgy:List W→Option (List Str)
 | []=>ae []
 | .str b::ws=>(zgy ws).map (b:: ·)
 |_=>none
theorem znA{K:aj}{H:Hp}:∀{ws:List W}{vs:List V}{bs:List Str},Reps K H ws vs→zgy ws=ae bs→vs=bs.map V.str
 | [],_,_, .nil,e=>by have:=aH e;subst this;rfl
 |w::ws,_,_, .cons r rs,e=>by
  cases r with
  |str b=>
   have e':(zgy ws).map (b:: ·)=ae _:=e;cases q:zgy ws with
   |none=>rw[q]at e';cases e'
   |some cs=>
    rw[q]at e';have:=aH e';subst this;rw[ay,znA rs q]
  |_=>cases e
noncomputable def zkW:WMf:=λw ws S Q=>match w with
 | .str z=>match zgy ws with
  |some ys=>(ys.map (·.length)).sum+ys.length*z.length≤16777216∧Q (.str (cW z ys)) S
  |none=>False
 |_=>False
theorem ztt{K:aj}:MtL K (zxH K) zkW:=λH x w a vs ws S Q QW r ea na rs hS h hQ=>by
 cases r with
 |str z=>
  unfold zkW at h;dsimp only at h;split at h
  ·rename_i ys e;have:=znA rs e;subst this;exact⟨z,a,ys,rfl,rfl, .of ea,h.1,hQ _ S _ H .refl (.str _) hS h.2⟩
  ·exact h.elim
 |_=>exact h.elim
theorem ztc (ho:JE X o to) (ha:JL X e tl)
  (hbase:cT o "join" X.env (az o X.env)=az o X.env:=by rfl)
  (hfew:((aT cpos (ao [e] X.env)).all (λx=> !x.1)&&(dG cpos (dR [] X.env)).all (λx=>x.1.isSome)
   &&decide ([e].length+([]:List bU).length+(if([]:List bU).isEmpty then 0 else 1)<30))=true:=by rfl)
  (hline:(apos.endLine == cpos.line)=true:=by rfl) (hs:ao [e] X.env=(false,az e X.env)::ao [] X.env:=by rfl) (hplain:(aT cpos (ao [] X.env)).any (·.1)=false:=by rfl) :
  JE X (.Call (.Attribute o "join" apos) [e] [] cpos) (wML rvS zkW to tl):=zAz kG PySem.F.slot_str_join PySem.F.type_str_join ztL zwz ztt ho ha hbase hfew hline hs hplain
noncomputable def zxr:WMf:=λw ws S Q=>match w with
 | .str z=>match ws with
  | [.str y]=>match cS z y 0 z.length 1 with
   |i::_=>Q (.int i) S
   | []=>False
  |_=>False
 |_=>False
end
noncomputable def zye (i:Nat) (g:Int→Int→Int) (e:WE):WS:=λE D σ S=>match σ[i]? with
 |some (ae (.int a))=>e E σ S λw S1=>match w with
  | .int b=>D.nx (σ.set i (ae (.int (g a b)))) S1
  |_=>False
 |_=>False
section
variable {X:Cx}{e:Expr}{te:WE}{pos pos':aB}
theorem zuw{i:Nat}{x:Str}(hN:X.N.Nodup) (hi:X.N[i]? =ae x) (hx:Loc X.env.scope x) (he:JE X e te) (hf:X.fn x=true∨X.env.scope.names.lookup x=ae .local:=by first |exact .inl rfl |exact .inr rfl |assumption) :
  JS X (.AugAssign (.Name x pos') .Add e pos) (zye i (λa b=>a+b) te):=λE hE=>
 (zxO hN hi hx (he E hE) zyu hf).mono λD σ H ⟨σW,S,DW,hσ,hS,ht,hD⟩=>by
  unfold zye at ht;split at ht
  ·rename_i a ea;obtain⟨v,ev,rv⟩:=hσ.get ea;cases rv;refine⟨_,ev,σW,S,_,hσ,hS,ht,λw S1 v H1 e1 r1 hS1 h1=>?_⟩;cases r1 with
   |int b=>exact⟨a,b,rfl,rfl,hD.nx _ S1 _ H1 e1 ((hσ.ext e1).set (.int _) i) hS1 h1⟩
   |_=>exact h1.elim
  ·exact ht.elim
end
noncomputable def zpG (c:WT) (b:WS):WS:=λE D σ S=>∃I:Nat→WSt→Sto→Prop,(∃m,I m σ S)∧ ∀m σ S,I m σ S→c E σ S λk S1=>if k=true then
 b E { D with nx:=λσ' S'=>∃m' S'',m'<m∧Sub S'' S'∧I m' σ' S'',ct:=λσ' S'=>∃m' S'',m'<m∧Sub S'' S'∧I m' σ' S'',bk:=D.nx } σ S1 else D.nx σ S1
section
variable {X:Cx}{c:Expr}{body:List Stmt}{tc:WT}{tb:WS}{pos:aB}
theorem znC (hc:JT X c tc) (hb:JSs X body tb):JS X (.While c body [] pos) (zpG tc tb):=λE hE=>
 (zsu hE.own (hc E hE) (hb E hE)).mono λD σ H ⟨σW,S,DW,hσ,hS,⟨J,⟨n,ht⟩,step⟩,hD⟩=>by
  refine⟨λm σ1 H1=>∃σW1 S1,Ext H S H1 S1∧RpSt X.K H1 σW1 σ1∧RepS X.K H1 S1∧J m σW1 S1,⟨n,σW,S, .refl,hσ,hS,ht⟩,?_⟩;rintro m σ1 H1 ⟨σW1,S1,e1,hσ1,hS1,h1⟩;refine⟨σW1,S1,_,hσ1,hS1,step m σW1 S1 h1,λk S2 H2 e2 hS2 h2=>?_⟩;cases k with
  |false=>exact hD.nx σW1 S2 σ1 H2 (e1.trans e2) (hσ1.ext e2) hS2 h2
  |true=>
   rw[if_pos rfl]at h2⊢;refine⟨λσ' H'=>∃m',m'<m∧ ∃σW1 S1,Ext H S H' S1∧RpSt X.K H' σW1 σ'∧RepS X.K H' S1∧J m' σW1 S1,λσ' H' n'=>n',σW1,S2,_,hσ1.ext e2,hS2,h2,?_⟩;have e12:=e1.trans e2;have go:Goes X.K H2 S2 (λσ' S'=>∃m' S'',m'<m∧Sub S'' S'∧J m' σ' S'') (λσ' H'=>∃m',m'<m∧ ∃σW1 S1,Ext H S H' S1∧RpSt X.K H' σW1 σ'∧RepS X.K H' S1∧J m' σW1 S1):=λσW3 S3 σ3 H3 e3 hσ3 hS3 ⟨m',S4,hm,sb,q⟩=>
    ⟨m',hm,σW3,S4,(e12.trans e3).trans (.drop sb),hσ3,hS3.sub sb,q⟩
   exact⟨go,hD.rt.from e12,hD.nx.from e12,go⟩
end
noncomputable def forL (g:WG) (b:WS) (E:WX) (D:WEnds) (G:Sto→Prop):List W→WSt→Sto→Prop
 | [],σ,S=>D.nx σ S
 |w::ws,σ,S=>g w σ S λσ1 S1=>b E { D with nx:=λσ' S'=>∃S'',Sub S'' S'∧G S''∧forL g b E D G ws σ' S'',ct:=λσ' S'=>∃S'',Sub S'' S'∧G S''∧forL g b E D G ws σ' S'',bk:=D.nx } σ1 S1
noncomputable def zgs (q:WI) (g:WG) (b:WS):WS:=λE D σ S=>q E σ S λws G S1=>forL g b E D G ws σ S1
section
variable {X:Cx}{tg iter:Expr}{body:List Stmt}{q:WI}{g:WG}{tb:WS}{pos:aB}
theorem zbH (hi:JI X tg iter q) (hg:JG X tg g) (hb:JSs X body tb) (hcl:X.calm=true:=by rfl)
  (hs:∀x,dF iter X.env x=pure x:=by intro _;rfl):JS X (.For tg iter body [] pos) (zgs q g tb):=λE hE=>
 (zxJ hE.own hcl (hi E hE) (hg E hE) (hb E hE) hs).mono λD σ H ⟨σW,S,DW,hσ,hS,ht,hD⟩=>by
  refine⟨σW,S,_,hσ,hS,ht,λws G S1 J H1 e1 hS1 hG1 hJ h1=>?_⟩;refine⟨λi m σ2 H2=>∃σW2 S2,Ext H1 S1 H2 S2∧RpSt X.K H2 σW2 σ2∧RepS X.K H2 S2∧G S2∧m=ws.length - i∧i≤ws.length∧forL g tb E DW G (ws.drop i) σW2 S2,
   ⟨ws.length,σW,S1, .refl,hσ.ext e1,hS1,hG1,rfl,aS _,h1⟩,?_⟩
  rintro i m σ2 H2 ⟨σW2,S2,e2,hσ2,hS2,hG2,rfl,hi2,h2⟩;obtain⟨ji,js⟩:=hJ i S2 H2 e2 hS2 hG2;by_cases hlt:i<ws.length
  ·obtain⟨jgo,jy⟩:=ji ws[i] (a_ hlt);refine .inr ⟨jgo,λσ' H'=>∃σW2 S2,Ext H1 S1 H' S2∧RpSt X.K H' σW2 σ'∧RepS X.K H' S2∧G S2∧ws.length - (i+1)=ws.length - (i+1)∧i+1≤ws.length∧forL g tb E DW G (ws.drop (i+1)) σW2 S2,λσ' H' z=>⟨_,by omega,z⟩,λx H3 y3=>?_⟩
   obtain⟨e3,hS3,r3⟩:=jy x H3 y3;rw[eS hlt]at h2;refine⟨_,σW2,S2,_,r3,hσ2.ext e3,hS3,h2,λσW4 S4 σ4 H4 e4 hσ4 hS4 h4=>?_⟩;have e14:Ext H1 S1 H4 S4:=(e2.trans e3).trans e4;refine⟨σW4,S4,_,hσ4,hS4,h4,?_⟩;have go:Goes X.K H4 S4 (λσ' S'=>∃S'',Sub S'' S'∧G S''∧forL g tb E DW G (ws.drop (i+1)) σ' S'') (λσ' H'=>∃σW2 S2,Ext H1 S1 H' S2∧RpSt X.K H' σW2 σ'∧RepS X.K H' S2∧G S2∧ws.length - (i+1)=ws.length - (i+1)∧i+1≤ws.length∧forL g tb E DW G (ws.drop (i+1)) σW2 S2):=
    λσW5 S5 σ5 H5 e5 hσ5 hS5 ⟨S6,sb,hG6,q⟩=>⟨σW5,S6,(e14.trans e5).trans (.drop sb),hσ5,hS5.sub sb,hG6,rfl,hlt,q⟩
   exact⟨go,hD.rt.from (e1.trans e14),hD.nx.from (e1.trans e14),go⟩
  ·have hl:i=ws.length:=by omega
   rw[fh (cP hl.symm)]at h2;exact .inl ⟨js hl,hD.nx σW2 S2 σ2 H2 (e1.trans e2) hσ2 hS2 h2⟩
end
section
variable {X:Cx}{tg:Expr}
noncomputable def zBL (K:aj) (tl:TE):TI:=λσ H R=>tl σ H λx H1=>(∃a,x= .ref a∧(∃xs,SqL K H1 a xs)∧R (Itl K a) H1)∨(∃a,x= .ref a∧(∃xs,SqT K H1 a xs)∧R (Itt K a) H1)∨ ∃z,x= .str z∧R (Its z) H1
theorem zyW{l:Expr}{tl:TE}(hl:PE X l tl):PI X tg l (zBL X.K tl):=by
 intro pins s σ H R I h;refine thn (hl pins s σ H _ I h) λv s1 ⟨x,H1,I1,r1,q1⟩=>?_;have fp:∀b∈ [s1.heap.objs.size],zjE X pins H1 b:=λb hb=>by
  have e:b=s1.heap.objs.size:=by simpa using hb
  subst e;exact I1.fpOk (ap _) (I1.hok.fresh (ap _))
 rcases q1 with⟨a,e,⟨xs,hq⟩,q⟩ |⟨a,e,⟨xs,hq⟩,q⟩ |⟨z,e,q⟩
 ·subst e;cases r1;obtain⟨its,rv,p,hz⟩:=I1.list hq;refine fS p.isList ?_;exact⟨s1.heap.objs.size,[s1.heap.objs.size],_,_,H1,rfl,I1.kept (t':=s1.toks) λb o e=>aJ _ e,zqO a _,⟨_,bt _ rfl,rfl,rfl⟩,fp,q⟩
 ·subst e;cases r1;obtain⟨its,rv,p,hz⟩:=I1.tuple hq;refine j9 (show s1.heap.IsTuple a its.toArray from p) ?_;exact⟨s1.heap.objs.size,[s1.heap.objs.size],_,_,H1,rfl,I1.kept (t':=s1.toks) λb o e=>aJ _ e,zod a _,⟨_,bt _ rfl,rfl,rfl⟩,fp,q⟩
 ·subst e;obtain⟨t,rfl⟩:=r1;cases ha:z.cps.all (· <128)
  ·refine wpAny_pyIter_wide ha ?_;exact⟨s1.heap.objs.size,[s1.heap.objs.size],_,_,H1,rfl,I1.kept (t':=s1.toks) λb o e=>aJ _ e,
    zmw _ z t "str_iterator" (by decide) (λA' hA=>eL.strWide hA _ z t) (λ_ _ _ _ _ st h=>wpAny_pyIter_striter_wide st h),⟨_,bt _ rfl,rfl,rfl⟩,fp,q⟩
  ·refine wpAny_pyIter_ascii ha ?_;exact⟨s1.heap.objs.size,[s1.heap.objs.size],_,_,H1,rfl,I1.kept (t':=s1.toks) λb o e=>aJ _ e,
    zmw _ z t "str_ascii_iterator" (by decide) (λA' hA=>eL.strAscii hA _ z t) (λ_ _ _ _ _ st h=>wpAny_pyIter_striter_ascii st h),⟨_,bt _ rfl,rfl,rfl⟩,fp,q⟩
noncomputable def zlE (z:Str):List W:=z.cps.toList.map λc=> .str ⟨#[c]⟩
noncomputable def wIv (t:WE):WI:=λE σ S Q=>t E σ S λw S1=>match w with
 | .tup ws=>Q ws (λ_=>True) S1
 | .ref a=>zcE S1 a λws=>Q ws (λS'=>S' a=ae (.lst ws)) S1
 | .scr ns=>Q (ns.map W.int) (λ_=>True) S1
 | .str z=>Q (zlE z) (λ_=>True) S1
 |_=>False
theorem zrJ{K:aj}{a:Addr}{ws:List W}{G:Sto→Prop}{H0:Hp}{S0:Sto}(h:∀S H,Ext H0 S0 H S→RepS K H S→G S→ ∃vs,SqL K H a vs∧Reps K H ws vs):ItW K (Itl K a) ws G H0 S0:=λi S H e hS hG=>by
 obtain⟨vs,hq,r⟩:=h S H e hS hG;refine⟨λw ew=>?_,λhl=>⟨vs,hq,by rw[←r.length,hl];exact ap _⟩⟩
 obtain⟨v,ev,rv⟩:=r.get ew;refine⟨⟨vs,v,hq,ev⟩,λx H' ⟨e1,e2⟩=>?_⟩;subst e1;have e3:=e2 vs hq;rw[ev]at e3;cases e3;exact⟨.refl,hS,rv⟩
theorem zyD{K:aj}{a:Addr}{ws:List W}{vs:List V}{H0:Hp}{S0:Sto}(f:H0 a=ae (.tup vs)) (r:Reps K H0 ws vs):ItW K (Itt K a) ws (λ_=>True) H0 S0:=λi S H e hS hG=>by
 have f':=e.tup _ _ f;have r':=r.ext e;refine⟨λw ew=>?_,λhl=>⟨vs, .of f',by rw[←r'.length,hl];exact ap _⟩⟩
 obtain⟨v,ev,rv⟩:=r'.get ew;refine⟨⟨vs,v, .of f',ev⟩,λx H' ⟨e1,e2⟩=>?_⟩;subst e1;have e3:=e2 vs (.of f');rw[ev]at e3;cases e3;exact⟨.refl,hS,rv⟩
theorem zxz{K:aj}{z:Str}{H0:Hp}{S0:Sto}:ItW K (Its z) (zlE z) (λ_=>True) H0 S0:=λi S H e hS hG=>by
 unfold zlE;refine⟨λw ew=>?_,λhl=>?_⟩
 ·rw[bj]at ew;cases ec:z.cps.toList[i]? with
  |none=>rw[ec]at ew;cases ew
  |some c=>
   rw[ec]at ew;have ew':=aH ew;subst ew';have hi:i<z.cps.size:=by
    have:=(cf.mp ec).1;simpa using this
   refine⟨hi,λx H' ⟨e1,c',e2,e3⟩=>?_⟩;subst e1 e3;have:c'=c:=by
    have q:z.cps.toList[i]? =ae c':=by rw[←e2];simp
    rw[ec]at q;exact(aH q).symm
   subst this;exact⟨.refl,hS, .str _⟩
 ·show i=z.cps.size;simpa using hl
theorem zbm{l:Expr}{tl:WE}(hl:JE X l tl):JI X tg l (wIv tl):=λE hE=>
 (zyW (hl E hE)).mono λσ H R ⟨σW,S,QW,hσ,hS,ht,hR⟩=>⟨σW,S,_,hσ,hS,ht,λw S1 v H1 e1 r1 hS1 h1=>by
  cases r1 with
  |tup f hs=>exact .inr (.inl ⟨_,rfl,⟨_, .of f⟩,hR _ _ S1 _ H1 e1 hS1 trivial (zyD f hs) h1⟩)
  |ref a=>
   obtain⟨ws,ea,h⟩:=zbn h1;obtain⟨vs,f,hs⟩:=hS1 a _ ea;refine .inl ⟨_,rfl,⟨_, .of f⟩,hR _ _ S1 _ H1 e1 hS1 ea (zrJ λS2 H2 e2 hS2 g2=>?_) h⟩;obtain⟨vs2,f2,hs2⟩:=hS2 a _ g2;exact⟨vs2, .of f2,hs2⟩
  |scr f=>exact .inl ⟨_,rfl,⟨_,f.sq⟩,hR _ _ S1 _ H1 e1 hS1 trivial (zrJ λS2 H2 e2 hS2 g2=>⟨_,(e2.fz f).sq,Reps.ofInts _⟩) h1⟩
  |str z=>exact .inr (.inr ⟨z,rfl,hR _ _ S1 _ H1 e1 hS1 trivial zxz h1⟩)
  |_=>exact h1.elim⟩
noncomputable def zlW (lo:Int) (n:Nat):List W:=(aX n).map λ(i:Nat)=> .int (lo+(i:Int))
theorem zwX{K:aj}{lo:Int}{n:Nat}{H0:Hp}{S0:Sto}:ItW K (Itr lo n) (zlW lo n) (λ_=>True) H0 S0:=λi S H e hS hG=>by
 unfold zlW;refine⟨λw ew=>?_,λhl=>by
  have:i=n:=by simpa using hl
  exact cP this.symm⟩
 rw[bj]at ew;by_cases hi:i<n
 ·rw[fR hi]at ew;have ew':=aH ew;subst ew';refine⟨hi,λx H' ⟨e1,e2⟩=>?_⟩;subst e1 e2;exact⟨.refl,hS, .int _⟩
 ·rw[List.getElem?_eq_none (by simpa using hi)]at ew;cases ew
noncomputable def ztX (t:WA):WI:=λE σ S Q=>t E σ S λws S1=>match ws with
 | [.int j]=>(-(2 ^ 62)≤j∧j<2 ^ 62)∧Q (zlW 0 j.toNat) (λ_=>True) S1
 |_=>False
theorem zeE{a:Expr}{ta:WA}{p pos:aB}(hg:Gl X "range") (hm:X.mg "range" =none) (ha:JA X [a] ta) (hs:ao [a] X.env=[(false,az a X.env)]:=by rfl):JI X tg (.Call (.Name "range" p) [a] [] pos) (ztX ta):=λE hE=>
 (zpj hg hm (ha E hE) hs).mono λσ H R ⟨σW,S,QW,hσ,hS,ht,hR⟩=>⟨σW,S,_,hσ,hS,ht,λws S1 vs H1 e1 r1 hS1 h1=>by
  cases r1 with
  |nil=>exact h1.elim
  |cons r2 r3=>
   cases r3 with
   |cons _ _=>cases r2<;>exact h1.elim
   |nil=>
    cases r2 with
    |int j=>exact⟨j,rfl,h1.1.1,h1.1.2,hR _ _ S1 _ H1 e1 hS1 trivial zwX h1.2⟩
    |_=>exact h1.elim⟩
end
noncomputable def zgC:WT:=λ_ _ S Q=>Q true S
def JTs (X:Cx) (ifs:List Expr) (t:WT):Prop:=∀E,Hook X E→PTs X ifs (zvi X.K (t E))
theorem zbx{X:Cx}:JTs X [] zgC:=λE hE pins s σ H Q I ⟨σW,S,QW,hσ,hS,ht,hQ⟩=>zuL pins s σ H Q I (hQ true S H .refl hS ht)
theorem zpo{X:Cx}{c:Expr}{t:WT}(h:JT X c t):JTs X [c] t:=λE hE=>zvU (h E hE)
noncomputable def zeO (g:WG) (c:WT) (e:WE) (E:WX) (G:Sto→Prop) (Q:List W→Sto→Prop):List W→List W→WSt→Sto→Prop
 | [],acc,_,S=>Q acc S
 |w::ws,acc,σ,S=>g w σ S λσ1 S1=>c E σ1 S1 λb S2=>if b=true then e E σ1 S2 λy S3=>acc.length<sizeLine∧ ∃S4,Sub S4 S3∧G S4∧zeO g c e E G Q ws (acc++[y]) σ1 S4
   else ∃S4,Sub S4 S2∧G S4∧zeO g c e E G Q ws acc σ1 S4
noncomputable abbrev noE:WX:=λ_ _ _=>False
theorem zly{X:Cx}(h:X.xe=λ_ _=>False):Hook X noE:=⟨by rw[h];exact eQ.never,λ_ _ _ _ _ _ _ _ _ _ _ _ _ _ _ _ _ _ _ _ z=>z.elim,λ_ _ _ _ _ _ _ _ _ _ _ _ _ _ _ _ z=>z.elim⟩
theorem PS.nox{X:Cx}{st:Stmt}{t:TS}(h:PS X.nox st t):PS X st t:=λpins s σ H D I hw=>
 cn (h pins s σ H D (I.wish _) hw) (λ_ _ q=>q.unwish) λ_ _ z=>cB z
noncomputable def zcW (k:Nat) (fr:List Nat) (q:WI) (g:WG) (c:WT) (e:WE):WL:=λ_ σ S Q=>q noE σ S λws G S1=>zeO g c e noE G Q ws [] (aN k none++fr.map λj=>(σ[j]?).join) S1
theorem zox{K:aj}{H:Hp}{σW:WSt}{σ:St}{k:Nat}{fr:List Nat}(h:RpSt K H σW σ):RpSt K H (aN k none++fr.map λj=>(σW[j]?).join) (zmK σ k fr):=by
 have one:∀j:Nat,RpO K H (σW[j]?).join (σ[j]?).join:=λj=>by
  cases e:σW[j]? with
  |none=>exact trivial
  |some w=>
   cases w with
   |none=>exact trivial
   |some w=>
    obtain⟨v,ev,r⟩:=h.get e;rw[ev];exact r
 have go:∀fr:List Nat,RpSt K H (fr.map λj=>(σW[j]?).join) (zhU σ fr):=by
  intro fr
  induction fr with
  |nil=>exact .nil
  |cons j fr ih=>exact .cons (one j) ih
 unfold zmK
 induction k with
 |zero=>exact go fr
 |succ k ih=>exact .cons trivial ih
section
variable {X:Cx}{scope:Scope}{N:List Str}{k:Nat}{fr:List Nat}{tg iter elt:Expr}{ifs:List Expr}{pos:aB}{q:WI}{g:WG}{c:WT}{e:WE}
theorem Ext.loose{H H':Hp}(a:∀b xs,H b=ae (.tup xs)→H' b=ae (.tup xs)) (b:∀c o u,H c=ae (.frz o u)→H' c=ae (.frz o u)) (d:∀b o,H b=ae o→ ∃o',H' b=ae o'):Ext H (λ_=>ae (.lst [])) H' (λ_=>ae (.lst [])):=
 ⟨a,b,(λ_ _ _ g=>nomatch g),d⟩
theorem Ext.over{H H':Hp}{S S':Sto}{l:Addr}{o:HO}(e:Ext H S H' S') (h:H l=none):Ext H S (upd H' l o) S':=
 ⟨λb xs q=>by rw[zaz (zau q h)];exact e.tup b xs q,λb ob u q=>by rw[zaz (zau q h)];exact e.frz b ob u q,λb ob q z=>by rw[zaz (zau q h)];exact e.fr b ob q z,λb ob q=>by rw[zaz (zau q h)];exact e.all b ob q⟩
theorem zkY (hg:∀s₀ H₀ fp pn,JG (zbI X scope N s₀ H₀ fp pn) tg g) (hc:∀s₀ H₀ fp pn,JTs (zbI X scope N s₀ H₀ fp pn) ifs c) (he:∀s₀ H₀ fp pn,JE (zbI X scope N s₀ H₀ fp pn) elt e)
  {E:WX}(σ:St) (H:Hp) (Q:VK):zwK X.K (zcW k fr q g c e E) σ H Q→ztq X scope N k fr tg ifs elt (zxg X.K (q noE)) σ H Q:=λ⟨σW,S0,QW,hσ,hS,ht,hQ⟩=>by
  refine⟨σW,S0,_,hσ,hS,ht,λws G S1 J H1 e1 hS1 hG1 hJ h1 l hl=>?_⟩;have upl:∀{H':Hp}{vs us:List V}{S':Sto},H' l=ae (.lst vs)→S' l=none→RepS X.K H' S'→Ext H' (λ_=>ae (.lst [])) (upd H' l (.lst us)) (λ_=>ae (.lst []))∧RepS X.K (upd H' l (.lst us)) S':=λ{H' vs us S'} f n hS'=>by
   have x:Ext H' (λ_=>ae (.lst [])) (upd H' l (.lst us)) (λ_=>ae (.lst [])):= .loose (λb xs q=>by rw[zaz (zpB q f λz=>nomatch z)];exact q) (λb o u q=>by rw[zaz (zpB q f λz=>nomatch z)];exact q) λb o q=>by
    by_cases hb:b=l
    ·subst hb;exact⟨_,zay⟩
    ·exact⟨o,by rw[zaz hb];exact q⟩
   refine⟨x,λa o q=>(hS' a o q).keep x λu z=>?_⟩;have ha:a≠l:=by rintro rfl;rw[n]at q;cases q
   rw[zaz ha];exact z
  refine⟨λi m σ' H'=>∃σW' S' acc vs,Ext H1 S1 H' S'∧H' l=ae (.lst vs)∧S' l=none∧Reps X.K H' acc vs∧RpSt X.K H' σW' σ'∧RepS X.K H' S'∧G S'∧m=ws.length - i∧i≤ws.length∧zeO g c e noE G QW (ws.drop i) acc σW' S',
   ⟨ws.length,_,S1,[],[], .new hl,zay,hS1.free hl, .nil,zox (hσ.ext (e1.trans (.new (S:=S1) hl))),hS1.new hl,hG1,rfl,aS _,h1⟩,?_⟩
  rintro i m σ' H' ⟨σW',S',acc,vs,e2,f2,n2,ra,hσ2,hS2,hG2,rfl,hi2,h2⟩;obtain⟨ji,js⟩:=hJ i S' H' e2 hS2 hG2;by_cases hlt:i<ws.length
  ·obtain⟨jgo,jy⟩:=ji ws[i] (a_ hlt);refine .inr ⟨jgo,λσ'' H''=>∃σW' S' acc vs,Ext H1 S1 H'' S'∧H'' l=ae (.lst vs)∧S' l=none∧Reps X.K H'' acc vs∧RpSt X.K H'' σW' σ''∧RepS X.K H'' S'∧G S'∧ws.length - (i+1)=ws.length - (i+1)∧i+1≤ws.length∧zeO g c e noE G QW (ws.drop (i+1)) acc σW' S',
    λσ'' H'' z=>⟨_,by omega,z⟩,λx H3 y3=>?_⟩
   obtain⟨e3,hS3,r3⟩:=jy x H3 y3;rw[eS hlt]at h2;intro s₀ H₀ fp pn;have hk:Hook (zbI X scope N s₀ H₀ fp pn) noE:=zly rfl;refine⟨_,_,_,hg s₀ H₀ fp pn noE hk,hc s₀ H₀ fp pn noE hk,he s₀ H₀ fp pn noE hk,?_⟩;refine⟨_,σW',S',_,r3,hσ2.ext e3,hS3,h2,λσW4 S4 σ4 H4 e4 hσ4 hS4 h4=>?_⟩;refine⟨σW4,S4,_,hσ4,hS4,h4,λb S5 H5 e5 hS5 h5=>?_⟩;have e15:Ext H' S' H5 S5:=(e3.trans e4).trans e5;have hσ5:=hσ4.ext e5;obtain⟨f5,n5⟩:=e15.fr l _ f2 n2;cases b with
   |false=>
    have h5:∃S4,Sub S4 S5∧G S4∧zeO g c e noE G QW (ws.drop (i+1)) acc σW4 S4:=h5;refine zBE ?_;obtain⟨S6,sb,hG6,h6⟩:=h5;have e16:=e15.trans (.drop sb);exact⟨σW4,S6,acc,vs,e2.trans e16,f5,(e16.fr l _ f2 n2).2,ra.ext e15,hσ5,hS5.sub sb,hG6,rfl,hlt,h6⟩
   |true=>
    rw[if_pos rfl]at h5;refine zBw ?_;refine⟨σW4,S5,_,hσ5,hS5,h5,λy S6 v H6 e6 r6 hS6 h6=>?_⟩;have e17:=e15.trans e6;obtain⟨f6,n6⟩:=e17.fr l _ f2 n2;obtain⟨hz,S7,sb,hG7,h7⟩:=h6;obtain⟨x6,hS6'⟩:=upl (us:=vs++[v]) f6 n6 hS6;have ra6:Reps X.K H6 (acc++[y]) (vs++[v]):=(ra.ext e17).append (.one r6);refine⟨vs,f6,by rw[←ra.length];exact hz,σW4,S7,acc++[y],vs++[v],?_,zay,((e17.trans (.drop sb)).fr l _ f2 n2).2,ra6.ext x6,(hσ5.ext e6).ext x6,hS6'.sub sb,hG7,rfl,hlt,h7⟩
    exact(e2.trans (e17.trans (.drop sb))).over hl
  ·have hll:i=ws.length:=by omega
   rw[fh (cP hll.symm)]at h2;exact .inl ⟨js hll,hQ acc S' vs l H' (e1.trans e2) (e1.free hl) f2 n2 ra hS2 h2⟩
theorem zcZ (S:CompSc X.nox scope N k fr) (hi:JI X.nox tg iter q) (hg:∀s₀ H₀ fp pn,JG (zbI X.nox scope N s₀ H₀ fp pn) tg g) (hc:∀s₀ H₀ fp pn,JTs (zbI X.nox scope N s₀ H₀ fp pn) ifs c) (he:∀s₀ H₀ fp pn,JE (zbI X.nox scope N s₀ H₀ fp pn) elt e)
  (hs:∀x,dF iter X.env x=pure x:=by intro _;rfl) (hcl:X.calm=true:=by rfl):JL X (.ListComp elt [⟨tg,iter,ifs,0⟩] scope pos) (zcW k fr q g c e):=λE hE=>
 (PE.nox (zwt rfl hcl S (hi noE (zly rfl)) hs)).mono (zkY (X:=X.nox) hg hc he)
theorem zdX{i:Nat}{x:Str}{pos' spos:aB}(hN:X.N.Nodup) (hxi:X.N[i]? =ae x) (hxl:Loc X.env.scope x) (S:CompSc X.nox scope N k fr) (hi:JI X.nox tg iter q) (hg:∀s₀ H₀ fp pn,JG (zbI X.nox scope N s₀ H₀ fp pn) tg g) (hc:∀s₀ H₀ fp pn,JTs (zbI X.nox scope N s₀ H₀ fp pn) ifs c) (he:∀s₀ H₀ fp pn,JE (zbI X.nox scope N s₀ H₀ fp pn) elt e)
  (hw:di (.ListComp elt [⟨tg,iter,ifs,0⟩] scope pos) (ae (.Name x pos')) spos.line X.env=pure true:=by rfl) (hf:X.fn x=true∨X.env.scope.names.lookup x=ae .local:=by first |exact .inl rfl |exact .inr rfl |assumption)
  (hs:∀x,dF iter X.env x=pure x:=by intro _;rfl) (hcl:X.calm=true:=by rfl):JS X (.Assign [.Name x pos'] (.ListComp elt [⟨tg,iter,ifs,0⟩] scope pos) spos) (wAsg (zcF (zcW k fr q g c e)) (wGN i)):=λE hE=>
 (PS.nox (zuT (X:=X.nox) rfl hcl S (hi noE (zly rfl)) hN hxi hxl hw hf hs)).mono λD σ H ⟨σW,S0,DW,hσ,hS,ht,hD⟩=>
  zkY (X:=X.nox) (E:=E) hg hc he σ H _ ⟨σW,S0,_,hσ,hS,ht,λws S1 vs a H1 e1 fa ea na r1 hS1 h1=>by
   have ex:Ext H S0 H1 (put S1 a (.lst ws)):=⟨e1.tup,e1.frz,λb o q g=>by
    have hb:b≠a:=by rintro rfl;rw[fa]at q;cases q
    rw[zaD hb];exact e1.fr b o q g,e1.all⟩
   refine hD.nx _ (put S1 a (.lst ws)) _ H1 ex ((hσ.ext ex).set (.ref a) i) (λb o q=>?_) (h1 a na);by_cases hb:b=a
   ·subst hb;rw[zag]at q;cases q;exact⟨vs,ea,r1⟩
   ·rw[zaD hb]at q;exact hS1 b o q⟩
end
def SeqIt (k:Bool) (h:Heap) (it a:Addr) (i:Nat):Prop:=if k=true then h.IsListIter it a i else h.IsTupleIter it a i
def SeqIs (k:Bool) (h:Heap) (a:Addr) (its:Array Value):Prop:=if k=true then h.IsList a its else h.IsTuple a its
section
variable {k:Bool}{h h':Heap}{it a:Addr}{i:Nat}{its:Array Value}
theorem SeqIt.at (x:SeqIt k h it a i) (e:∀o,h.get? it=ae o→h'.get? it=ae o):SeqIt k h' it a i:=by
 cases k with
 |true=>exact Heap.IsListIter.at (show h.IsListIter it a i from x) e
 |false=>exact Heap.IsTupleIter.at (show h.IsTupleIter it a i from x) e
theorem SeqIs.at (x:SeqIs k h a its) (e:∀o,h.get? a=ae o→h'.get? a=ae o):SeqIs k h' a its:=by
 cases k with
 |true=>exact Heap.IsList.at (show h.IsList a its from x) e
 |false=>obtain⟨o,ho,r⟩:=(show h.IsTuple a its from x);exact⟨o,e o ho,r⟩
theorem SeqIt.ob (x:SeqIt k h it a i):∃o vs,h.get? it=ae o∧o.data= .fields vs:=by
 cases k with
 |true=>obtain⟨o,ho,_,hd⟩:=(show h.IsListIter it a i from x);exact⟨o,_,ho,hd⟩
 |false=>obtain⟨o,ho,_,hd⟩:=(show h.IsTupleIter it a i from x);exact⟨o,_,ho,hd⟩
end
section
variable {prog:aE}{w:aC}{A:aQ}{E:Value→ah→Prop}{s:ah}
theorem zha{it t:Addr}{i:Nat}{its:Array Value}{x:Value}{Q:Value→ah→Prop}(hit:s.heap.IsTupleIter it t i) (ht:s.heap.IsTuple t its) (hx:its[i]? =ae x)
  (hQ:∀g,g.IsTupleIter it t (i+1)→ci it s.heap g→Q x { s with heap:=g }):am (aq prog w) A (cN (.ref it)) Q E s:=by
 obtain⟨o,ho,hc,hd⟩:=id hit;obtain⟨ot,hot,_,nt,hdt⟩:=ht;unfold cN;refine ak (dr (name:=br "__next__") hit.typeIs fZ (dt fZ hit.typeIs j6 ?_ (kA _)));show am _ _ (field (.ref it) 0 >>= _) _ _ s;refine ak (bE ho hd (x:= .ref t) rfl ?_);show am _ _ (if(bc t == cu)=true then _ else _) _ _ s;rw[if_neg (show ¬((bc t == cu)=true) from c8)];show am _ _ (field (.ref it) 1 >>= _) _ _ s;refine ak (bE ho hd (x:= .int i 0) rfl ?_);show am _ _ (seqItems? (.ref t) >>= _) _ _ s;refine ak (cZ hot hdt ?_);simp only[bW,hx];refine ak (jA ho hd (by simp) (aD ⟨x,rfl,aD (hQ _ ?_ (jq ..))⟩));exact⟨_,Heap.get?_update_self _ ho (Obj.isFreed_of_fields (jj hd _)),(Obj.cls_mapFields ..).trans hc,by rw[jj hd];simp [cj]⟩
theorem zhZ{it t:Addr}{i:Nat}{its:Array Value}{Q:Value→ah→Prop}(hh:A.handled=none) (hit:s.heap.IsTupleIter it t i) (ht:s.heap.IsTuple t its) (hx:its[i]? =none)
  (hE:∀g e,gE it s.heap g→(∃o,g.get? e=ae o∧o.cls= .type "StopIteration")→E (.ref e) { s with heap:=g }):am (aq prog w) A (cN (.ref it)) Q E s:=by
 obtain⟨o,ho,hc,hd⟩:=id hit;obtain⟨ot,hot,_,nt,hdt⟩:=ht;unfold cN;refine ak (dr (name:=br "__next__") hit.typeIs fZ (dt fZ hit.typeIs j6 ?_ (kA _)));show am _ _ (field (.ref it) 0 >>= _) _ _ s;refine ak (bE ho hd (x:= .ref t) rfl ?_);show am _ _ (if(bc t == cu)=true then _ else _) _ _ s;rw[if_neg (show ¬((bc t == cu)=true) from c8)];show am _ _ (field (.ref it) 1 >>= _) _ _ s;refine ak (bE ho hd (x:= .int i 0) rfl ?_);show am _ _ (seqItems? (.ref t) >>= _) _ _ s;refine ak (cZ hot hdt ?_);simp only[bW,hx];refine ak (eG (ak (jA ho hd (by simp) ?_)));show am _ _ (newExc (.type "StopIteration") [] >>= _) _ _ _;refine ak ?_;simp only[newExc,newTuple];refine ak (ef ?_ (by size_fits));refine ak (m:=jf _ _) (wpAny_of_eq (a:=cu) (by first |rfl | (simp only[jf];rfl)) ?_);refine ef ?_ (by size_fits);simp only[raiseNew];refine ak (wpAny_handled ?_)
 first |rw[show A.in1.handled=none from hh] |rw[hh]
 refine ak (aD (wpAny_throw ?_));exact hE _ _ (((jq ..).extBut.push _).push _) ⟨_,bt _ rfl,rfl⟩
theorem zfK{k:Bool}{it t:Addr}{i:Nat}{its:Array Value}{x:Value}{Q:Value→ah→Prop}(hit:SeqIt k s.heap it t i) (ht:SeqIs k s.heap t its) (hx:its[i]? =ae x)
  (hQ:∀g,SeqIt k g it t (i+1)→ci it s.heap g→Q x { s with heap:=g }):am (aq prog w) A (cN (.ref it)) Q E s:=by
 cases k with
 |true=>exact wpAny_nextOf_list_item hit ht hx hQ
 |false=>exact zha hit ht hx hQ
theorem ziU{k:Bool}{it t:Addr}{i:Nat}{its:Array Value}{Q:Value→ah→Prop}(hh:A.handled=none) (hit:SeqIt k s.heap it t i) (ht:SeqIs k s.heap t its) (hx:its[i]? =none)
  (hE:∀g e,gE it s.heap g→(∃o,g.get? e=ae o∧o.cls= .type "StopIteration")→E (.ref e) { s with heap:=g }):am (aq prog w) A (cN (.ref it)) Q E s:=by
 cases k with
 |true=>exact wpAny_nextOf_list_end hh hit ht hx hE
 |false=>exact zhZ hh hit ht hx hE
theorem zqr{k:Bool}{e it l:Addr}{i:Nat}{its:Array Value}{x old:Value}{Q:Option Value→ah→Prop}
  (he:cO s.heap e it i old) (hit:SeqIt k s.heap it l i) (hl:SeqIs k s.heap l its) (hx:its[i]? =ae x) (hne:e≠it)
  (hQ:∀g,ir g e it ((i:Int)+1) x s.heap.objs.size→SeqIt k g it l (i+1)→g.get? s.heap.objs.size=ae { cls:= .type "tuple",data:= .seq #[.int i s.toks,x] }→g.objs.size=s.heap.objs.size+1→
   (∀b o,b≠e→b≠it→s.heap.get? b=ae o→g.get? b=ae o)→Q (ae (.ref s.heap.objs.size)) { s with heap:=g,toks:=s.toks+1 }):am (aq prog w) A (b5 (.ref e)) Q E s:=by
 have hT:s.TypeIs (.ref e) "enumerate" :=⟨_,he,rfl⟩;unfold b5;refine ak (gj (dr (name:=br "__next__") hT fT (dt fT hT i6 ?_ (i4 _))));obtain⟨hp,g,d,tk,os⟩:=s;show am _ _ (field (.ref e) 2 >>= _) _ _ _;refine ak (bE he rfl (x:= .ref it) rfl ?_);refine ak (zfK hit hl hx λg1 hit1 hs1=>?_);replace hs1:ci it hp g1:=hs1;have he1:cO g1 e it i old:=(hs1.2 e hne).trans he;show am _ _ (field (.ref e) 3 >>= _) _ _ ⟨g1,g,d,tk,os⟩;refine ak (bE he1 rfl (x:=cj i) rfl ?_);show am _ _ (field (.ref e) 4 >>= _) _ _ ⟨g1,g,d,tk,os⟩;refine ak (bE he1 rfl (x:= .none) rfl ?_);show am _ _ (mkInt i >>= _) _ _ ⟨g1,g,d,tk,os⟩;refine ak (wpAny_mkInt ?_);show am _ _ (setField (.ref e) 3 (cj ((i:Int)+1)) >>= _) _ _ ⟨g1,g,d,tk+1,os⟩;refine ak (ck he1 (by simp) λg2 he2 hs2=>?_);replace hs2:ci e g1 g2:=hs2;replace he2:cO g2 e it ((i:Int)+1) old:=he2;show am _ _ (setField (.ref e) 4 .none >>= _) _ _ ⟨g2,g,d,tk+1,os⟩;refine ak (ck he2 (by simp) λg3 he3 hs3=>?_);replace hs3:ci e g2 g3:=hs3;replace he3:cO g3 e it ((i:Int)+1) old:=he3;show am _ _ (newTuple [.int i tk,x] >>= _) _ _ ⟨g3,g,d,tk+1,os⟩;refine ak (jC ?_);have he4:cO (g3.push { cls:= .type "tuple",data:= .seq #[.int i tk,x] }) e it ((i:Int)+1) old:=aJ _ he3;generalize hg4:g3.push { cls:= .type "tuple",data:= .seq #[.int i tk,x] }=g4 at he4;have hsz:g3.objs.size=hp.objs.size:=by rw[hs3.1,hs2.1,hs1.1]
 have hel:e<hp.objs.size:=aK he;have ht4:g4.get? hp.objs.size=ae { cls:= .type "tuple",data:= .seq #[.int i tk,x] }:=by rw[←hg4,←hsz];exact bt _ rfl
 have hz4:g4.objs.size=hp.objs.size+1:=by rw[←hg4,cJ,hsz]
 have hk4:∀b o,b≠e→b≠it→hp.get? b=ae o→g4.get? b=ae o:=λb o hbe hbi hb=>by rw[←hg4];exact aJ _ (hs3.extBut b o hbe (hs2.extBut b o hbe (hs1.extBut b o hbi hb)))
 have hit4:SeqIt k g4 it l (i+1):=by rw[←hg4];exact hit1.at λo ho=>aJ _ (hs3.extBut it o (bu hne) (hs2.extBut it o (bu hne) ho))
 show am _ _ (d8 (.ref e) >>= _) _ _ ⟨g4,g,d,tk+1,os⟩;rw[hsz];clear hg4 he3 hs3 he2 hs2 he1 hs1 hit1 hsz g3 g2 g1;refine ak ?_;unfold d8;refine ak (bE he4 rfl (x:= .none) rfl (aD ?_));simp only[if_true];refine ak (eG ?_);refine ak (bE he4 rfl (x:=old) rfl ?_);refine ak (ck he4 (by simp) λg5 he5 hs5=>?_);replace hs5:ci e g4 g5:=hs5;replace he5:cO g5 e it ((i:Int)+1) x:=he5;show am _ _ (fU (.ref e) (.ref hp.objs.size) >>= _) _ _ ⟨g5,g,d,tk+1,os⟩;refine ak ?_;unfold fU;refine ak (ck he5 (by simp) λg6 he6 hs6=>?_);replace hs6:ci e g5 g6:=hs6;replace he6:ir g6 e it ((i:Int)+1) x hp.objs.size:=he6;refine ck he6 (by simp) λg7 he7 hs7=>?_;replace hs7:ci e g6 g7:=hs7;replace he7:ir g7 e it ((i:Int)+1) x hp.objs.size:=he7;refine ak (gl (aD ⟨_,rfl,aD (hQ g7 he7 ?_ ?_ ?_ ?_)⟩))
 ·exact hit4.at λo ho=>hs7.extBut it o (bu hne) (hs6.extBut it o (bu hne) (hs5.extBut it o (bu hne) ho))
 ·exact hs7.extBut _ _ (cK hel) (hs6.extBut _ _ (cK hel) (hs5.extBut _ _ (cK hel) ht4))
 ·rw[hs7.1,hs6.1,hs5.1,hz4]
 ·exact λb o hbe hbi hb=>hs7.extBut b o hbe (hs6.extBut b o hbe (hs5.extBut b o hbe (hk4 b o hbe hbi hb)))
theorem zsZ{k:Bool}{e it l:Addr}{i:Nat}{its:Array Value}{old:Value}{Q:Option Value→ah→Prop}(hh:A.handled=none)
  (he:cO s.heap e it i old) (hit:SeqIt k s.heap it l i) (hl:SeqIs k s.heap l its) (hx:its[i]? =none) (hQ:∀g,gE it s.heap g→Q none { s with heap:=g }):am (aq prog w) A (b5 (.ref e)) Q E s:=by
 have hT:s.TypeIs (.ref e) "enumerate" :=⟨_,he,rfl⟩;unfold b5;refine ak (gj (dr (name:=br "__next__") hT fT (dt fT hT i6 ?_ (i4 _))));show am _ _ (field (.ref e) 2 >>= _) _ _ _;refine ak (bE he rfl (x:= .ref it) rfl ?_);refine ak (ziU hh hit hl hx λg x he' hx'=>?_);obtain⟨o,ho,hc⟩:=hx';refine ak (jn (T:= "StopIteration") (b:=true) ⟨o,ho,hc⟩ jP ?_);exact aD (hQ _ he')
end
noncomputable def zew (k:Bool) (a:Addr):Obj:={ cls:= .type (if k=true then "list_iterator" else "tuple_iterator"),data:= .fields #[.ref a, .int 0 0] }
theorem ziK{k:Bool}{h:Heap}{it a:Addr}(e:h.get? it=ae (zew k a)):SeqIt k h it a 0:=by
 cases k with
 |true=>exact⟨_,e,rfl,rfl⟩
 |false=>exact⟨_,e,rfl,rfl⟩
theorem zfV{k:Bool}{a:Addr}:(zew k a).isFreed=false:=by cases k<;>rfl
section
variable {prog:aE}{w:aC}{A:aQ}{E:Value→ah→Prop}{s:ah}
theorem zjo{k:Bool}{a:Addr}{its:Array Value}{Q:Value→ah→Prop}(ha:SeqIs k s.heap a its) (hQ:Q (.ref s.heap.objs.size) { s with heap:=s.heap.push (zew k a) }):am (aq prog w) A (dm (.ref a)) Q E s:=by
 cases k with
 |true=>exact fS ha hQ
 |false=>exact j9 ha hQ
end
theorem SeqIs.push{k:Bool}{h:Heap}{a:Addr}{its:Array Value}(x:SeqIs k h a its) (o:Obj):SeqIs k (h.push o) a its:=x.at λ_ e=>aJ _ e
theorem zok{k:Bool}(l:Addr) (its:Array Value) :
  PySem.Meets (b4.«enumerate.__new__» ⟨[.type "enumerate", .ref l],[]⟩) (λ_ R s=>SeqIs k s.heap l its∧
   R (.ok (.ret (.ref (s.heap.push (zew k l)).objs.size))) { s with heap:=(s.heap.push (zew k l)).push { cls:= .type "enumerate",data:= .fields #[.none, .bool false, .ref s.heap.objs.size,cj 0, .none, .none] } }):=
 .of_wp λprog w A R s h=>by
  obtain⟨hp,g,d,tk,os⟩:=s;obtain⟨hl,h⟩:=h;have hsub:=sub_enumerate;have hL:SeqIs k (ah.heap ⟨hp,g,d,tk,os⟩) l its:=hl;have fin:∀{A:aQ}{E:Value→ah→Prop}{Q:Value→ah→Prop},Q (.ref hp.objs.size) ⟨hp.push (zew k l),g,d,tk,os⟩→am (aq prog w) A (dm (.ref l)) Q E ⟨hp,g,d,tk,os⟩:=λq=>zjo hL q
  wp_walk
  refine wpAny_stack_any λst=>aD ?_;split
  ·rename_i c _ _ _ _ _;cases(c == gT "enumerate")
   ·wp_walk using fin
    exact⟨_,rfl,h⟩
   ·wp_walk using fin
    exact⟨_,rfl,h⟩
  ·wp_walk using fin
   exact⟨_,rfl,h⟩
section
variable {prog:aE}{w:aC}{A:aQ}{E:Value→ah→Prop}{s:ah}
theorem zrl{k:Bool}{l:Addr}{its:Array Value}{Q:Value→ah→Prop}(hL:SeqIs k s.heap l its)
  (h:∀g,cO g (s.heap.objs.size+1) s.heap.objs.size 0 .none→SeqIt k g s.heap.objs.size l 0→g.objs.size=s.heap.objs.size+2→(∀b o,s.heap.get? b=ae o→g.get? b=ae o)→Q (.ref (s.heap.objs.size+1)) { s with heap:=g }) :
  am (aq prog w) A (call (.type "enumerate") [.ref l]) Q E s:=by
 refine callType_new PySem.F.called_enumerate (by decide) (PySem.F.typeCall_enumerate_1 _) (PySem.F.newCall_enumerate_1 _) (λobj=>PySem.F.args_object_init_2 obj _) PySem.F.entry_enumerate_new (zok (k:=k) l its) ⟨hL,?_⟩;have hz:(s.heap.push (zew k l)).objs.size=s.heap.objs.size+1:=cJ ..;show _∧_;rw[hz];have he:cO ((s.heap.push (zew k l)).push { cls:= .type "enumerate",data:= .fields #[.none, .bool false, .ref s.heap.objs.size,cj 0, .none, .none] }) (s.heap.objs.size+1) s.heap.objs.size 0 .none:=by
  have:=bt (s.heap.push (zew k l)) (o:={ cls:= .type "enumerate",data:= .fields #[.none, .bool false, .ref s.heap.objs.size,cj 0, .none, .none] }) rfl;rw[hz]at this;exact this
 exact⟨⟨_,he,rfl⟩,h _ he (ziK (aJ _ (bt _ zfV))) (by rw[cJ,hz]) λb o x=>aJ _ (aJ _ x)⟩
end
section
variable {X:Cx}{pins:List (Addr×Obj)}{σ:St}{H:Hp}{s:ah}{g:Heap}{fp:List Addr}
theorem Inv.turnNew{p:Addr}{o:HO}{t':Nat}(I:Inv X pins σ H s) (hp:s.heap.objs.size≤p) (k:∀b u,b∉fp→s.heap.get? b=ae u→g.get? b=ae u) (hf:∀b∈fp,zjE X pins H b) (new:ObjOk X.prog X.w (upd H p o) g p o) :
  Inv X pins σ (upd H p o) { s with heap:=g,toks:=t' }:=by
 have hn:=I.hok.fresh hp;have lt:∀{b u},s.heap.get? b=ae u→b≠p:=λe=>bA (bJ (aK e) hp);have nfp:∀{b u},H b=ae u→b∉fp:=λe z=>by rw[(hf _ z).1]at e;cases e
 refine I.call (g':=s.gens) (d':=s.drawn) (ch:=fp) ⟨λb u e _ _ hx=>k b u hx e,λb u e _ _ hx=>⟨u.slots,k b u hx e⟩,λb u e n _=>by rw[zaz (lt e)];exact n,λb u e hx=>⟨u,k b u hx e⟩,
  λb xs e=>by rw[zaz (zau e hn)];exact e,λb u xs e=>by rw[zaz (zau e hn)];exact e,λb ps e=>⟨#[],by rw[zaz (zau e hn),e];simp⟩⟩ (λb u e=>?_) I.bare λb hb=>⟨(hf b hb).2.2.2.1,(hf b hb).2.1,(hf b hb).2.2.2.2.1,(hf b hb).2.2.2.2.2⟩
 by_cases hb:b=p
 ·subst hb;rw[zay]at e;cases e;exact new
 ·rw[zaz hb]at e;refine(I.hok b u e).stay (λc v hc q=>k c v ?_ q) (λc q=>by rw[zaz (zau q hn)];exact q) λc xs q=>by rw[zaz (zau q hn)];exact q
  rcases hc with rfl |hc
  ·exact nfp e
  ·exact nfp hc
theorem Inv.turnedL{t':Nat}(I:Inv X pins σ H s) (k:∀b u,b∉fp→s.heap.get? b=ae u→g.get? b=ae u) (hf:∀b∈fp,zjE X pins H b):Inv X pins σ H { s with heap:=g,toks:=t' }:=by
 have nfp:∀{b u},H b=ae u→b∉fp:=λe z=>by rw[(hf _ z).1]at e;cases e
 refine I.call (g':=s.gens) (d':=s.drawn) (ch:=fp) ⟨λb u e _ _ hx=>k b u hx e,λb u e _ _ hx=>⟨u.slots,k b u hx e⟩,λb u e n _=>n,λb u e hx=>⟨u,k b u hx e⟩,
  λb xs e=>e,λb u xs e=>e,λb ps e=>⟨#[],by rw[e];simp⟩⟩ (λb u e=>?_) I.bare λb hb=>⟨(hf b hb).2.2.2.1,(hf b hb).2.1,(hf b hb).2.2.2.2.1,(hf b hb).2.2.2.2.2⟩
 refine(I.hok b u e).stay (λc v hc q=>k c v ?_ q) (λc q=>q) λc xs q=>q;rcases hc with rfl |hc
 ·exact nfp e
 ·exact nfp hc
def SqK (k:Bool) (K:aj) (H:Hp) (a:Addr) (xs:List V):Prop:=if k=true then SqL K H a xs else SqT K H a xs
theorem Inv.seq{k:Bool}{a:Addr}{xs:List V}(I:Inv X pins σ H s) (h:SqK k X.K H a xs):∃its:List Value,Vals xs its∧SeqIs k s.heap a its.toArray∧xs.length≤sizeLine:=by
 cases k with
 |true=>obtain⟨its,r,p,z⟩:=I.list h;exact⟨its,r,p.isList,z⟩
 |false=>obtain⟨its,r,p,z⟩:=I.tuple h;exact⟨its,r,p,z⟩
theorem Inv.seq_inj{k:Bool}{a:Addr}{xs ys:List V}(I:Inv X pins σ H s) (h:SqK k X.K H a xs) (h':SqK k X.K H a ys):xs=ys:=by
 cases k with
 |true=>exact I.list_inj h h'
 |false=>exact I.tuple_inj h h'
end
noncomputable def Ite (k:Bool) (K:aj) (a:Addr):It:=
 ⟨λi H=>∃xs x,SqK k K H a xs∧xs[i]? =ae x,λi H v H'=>∃p x,H p=none∧v= .ref p∧H'=upd H p (.tup [.int i,x])∧ ∀xs,SqK k K H a xs→xs[i]? =ae x,λi H=>∃xs,SqK k K H a xs∧xs.length≤i⟩
theorem zqZ{P:aE}{w:aC}{K:aj}{es:List Expr}{x1:Nat}{pos:aB}(k:Bool) (a e it:Addr) (hne:e≠it):Turn P w K (.Tuple es x1 pos) (Ite k K a) [e,it] e (λi h=>(∃old,cO h e it (i:Nat) old)∧SeqIt k h it a i) where
  mem:=by simp
  obj:=λi h ⟨⟨old,he⟩,hit⟩ b hb=>by
    rcases aA.mp hb with rfl |hb
    · exact⟨_,he,λv z=>by cases z⟩
    · have q:b=it:=by simpa using hb
      subst q;obtain⟨o,vs,e,d⟩:=hit.ob;exact⟨o,e,λv z=>by rw[d]at z;cases z⟩
  keep:=λi h h' ⟨⟨old,he⟩,hit⟩ kk=>⟨⟨old,kk e (by simp) _ he⟩,hit.at λo q=>kk it (by simp) o q⟩
  item:=by
    intro X hP hw hK hc i pins s σ H E I hf st hg;subst hP hw hK;obtain⟨xs,x,hq,hx⟩:=hg;obtain⟨⟨old,he⟩,hit⟩:=st;obtain⟨its,rv,p,hz⟩:=I.seq hq;obtain⟨u,hu,ru⟩:=rv.get hx;refine zqr he hit p (x:=u) (by simpa using hu) hne λg ho hit' ht hz' kk=>⟨_,rfl,?_⟩;refine wpAny_letOwnedTupleGo_enum ho λg2 he2 hs2=>?_;have hlt:s.heap.objs.size≠e:=cK (aK he);have kk2:∀b o,b∉ [e,it]→s.heap.get? b=ae o→g2.get? b=ae o:=λb o hb q=>by
      have h1:b≠e:=λz=>hb (by simp [z]);have h2:b≠it:=λz=>hb (by simp [z]);exact(hs2.2 b h1).trans (kk b o h1 h2 q)
    have hn:=I.hok.fresh (ap s.heap.objs.size);have ht2:g2.get? s.heap.objs.size=ae { cls:= .type "tuple",data:= .seq #[.int i s.toks,u] }:=(hs2.2 _ hlt).trans ht;refine⟨.ref s.heap.objs.size,upd H s.heap.objs.size (.tup [.int i,x]),I.turnNew (fp:=[e,it]) (t':=s.toks+1) (ap _) kk2 hf ⟨by show 2≤sizeLine;rw[dC];decide,[.int i s.toks,u], .cons ⟨_,rfl⟩ (.cons ru .nil),⟨_,ht2,rfl,_,rfl⟩⟩,rfl,
      ⟨_,x,hn,rfl,rfl,λys hy=>by rw[I.seq_inj hy hq];exact hx⟩,⟨⟨u,by simpa using he2⟩,hit'.at λo q=>(hs2.2 it (bu hne)).trans q⟩,λb hb=>?_⟩
    have hb':=(hf b hb).1;have:b≠s.heap.objs.size:=by
      rcases aA.mp hb with rfl |hb
      · exact bu hlt
      · have q:b=it:=by simpa using hb
        subst q;obtain⟨o,vs,e,d⟩:=hit.ob;exact bA (aK e)
    rw[zaz this];exact hb'
  done:=by
    intro X hP hw hK hc i pins s σ H E I hf st hg;subst hP hw hK;obtain⟨xs,hq,hx⟩:=hg;obtain⟨⟨old,he⟩,hit⟩:=st;obtain⟨its,rv,p,hz⟩:=I.seq hq;have hl:=rv.length;exact zsZ (I.ok.hd hc) he hit p (by simp;omega) λg eb=>⟨rfl,I.turnedL (fp:=[e,it]) (t':=s.toks) (λb o hb q=>eb b o (λz=>hb (by simp [z])) q) hf⟩
  self:=λA i s Q E ⟨⟨old,he⟩,hit⟩ h=>kB he h
section
variable {X:Cx}{es:List Expr}{x1:Nat}{tpos:aB}
noncomputable def zzB (K:aj) (ta:TA):TI:=λσ H R=>ta σ H λvs H1=>∃k a xs,vs=[.ref a]∧SqK k K H1 a xs∧R (Ite k K a) H1
theorem zuX{a:Expr}{ta:TA}{p pos:aB}(hg:Gl X "enumerate") (hm:X.mg "enumerate" =none) (ha:PA X [a] ta) (hs:ao [a] X.env=[(false,az a X.env)]:=by rfl):PI X (.Tuple es x1 tpos) (.Call (.Name "enumerate" p) [a] [] pos) (zzB X.K ta):=by
 intro pins s σ H R I h;refine Call_ (zhd I hg hm boot_enumerate (eY (thn (ha pos pins s σ H _ I h) λus s1 ⟨vs,H1,I1,r1,q1⟩=>?_) hs rfl));obtain⟨k,a,xs,e,hq,q⟩:=q1;subst e;cases r1 with
 |cons r rr=>
  cases rr;cases(show _=bc a from r);obtain⟨its,rv,pl,hz⟩:=I1.seq hq;refine zrl pl λg he hit hz' kk=>kB he ?_;have I2:Inv X pins σ H1 { s1 with heap:=g }:=I1.kept (t':=s1.toks) kk;refine⟨s1.heap.objs.size+1,[s1.heap.objs.size+1,s1.heap.objs.size],_,_,H1,rfl,I2,zqZ k a _ _ (Nat.succ_ne_self _),⟨⟨.none,he⟩,hit⟩,λb hb=>?_,q⟩;have hb':s1.heap.objs.size≤b:=by
   rcases aA.mp hb with rfl |hb
   ·exact Nat.le_succ _
   ·have q:b=s1.heap.objs.size:=by simpa using hb
    exact cP q.symm
  exact I1.fpOk hb' (I1.hok.fresh hb')
noncomputable def zht:Nat→List W→List W
 |_,[]=>[]
 |n,w::ws=> .tup [.int n,w]::zht (n+1) ws
theorem zmP:∀{ws:List W}{n i:Nat}{u:W},(zht n ws)[i]? =ae u→ ∃w,ws[i]? =ae w∧u= .tup [.int ((n+i:Nat):Int),w]
 | [],_,_,_,h=>by simp [zht]at h
 |w::ws,n,0,u,h=>by
  simp [zht]at h;exact⟨w,rfl,by rw[←h];rfl⟩
 |w::ws,n,i+1,u,h=>by
  obtain⟨w',e,q⟩:=zmP (ws:=ws) (n:=n+1) (i:=i) (u:=u) (by simpa [zht]using h);refine⟨w',by simpa using e,?_⟩
  rw[q,show n+1+i=n+(i+1) by omega]
theorem znZ:∀{ws:List W}{n:Nat},(zht n ws).length=ws.length
 | [],_=>rfl
 |w::ws,n=>by simp [zht,znZ (ws:=ws)]
theorem zuO{K:aj}{k:Bool}{a:Addr}{ws:List W}{G:Sto→Prop}{H0:Hp}{S0:Sto}(h:∀S H,Ext H0 S0 H S→RepS K H S→G S→ ∃vs,SqK k K H a vs∧Reps K H ws vs):ItW K (Ite k K a) (zht 0 ws) G H0 S0:=λi S H e hS hG=>by
 obtain⟨vs,hq,r⟩:=h S H e hS hG;refine⟨λu eu=>?_,λhl=>⟨vs,hq,by rw[←r.length,hl,znZ];exact ap _⟩⟩
 obtain⟨w,ew,rfl⟩:=zmP eu;obtain⟨v,ev,rv⟩:=r.get ew;refine⟨⟨vs,v,hq,ev⟩,λx H' ⟨p,y,hp,e1,e2,e3⟩=>?_⟩;subst e1 e2;have e4:=e3 vs hq;rw[ev]at e4;cases e4;rw[bO];exact⟨.new hp,hS.new hp, .tup zay (.cons (.int _) (.cons (rv.ext (.new (S:=S) hp)) .nil))⟩
noncomputable def zoP:W→Sto→(List W→(Sto→Prop)→Prop)→Prop
 | .tup ws,_,Q=>Q ws λ_=>True
 | .ref a,S,Q=>zcE S a λws=>Q ws λS'=>S' a=ae (.lst ws)
 | .scr ns,_,Q=>Q (ns.map W.int) λ_=>True
 |_,_,_=>False
theorem zvn{K:aj}{H:Hp}{S:Sto}{w:W}{v:V}{Q:List W→(Sto→Prop)→Prop}(r:Rep K H w v) (hS:RepS K H S) (h:zoP w S Q) :
  ∃k a ws G,v= .ref a∧G S∧(∀S' H',Ext H S H' S'→RepS K H' S'→G S'→ ∃vs,SqK k K H' a vs∧Reps K H' ws vs)∧Q ws G:=by
 cases r with
 |tup f hs=>exact⟨false,_,_,_,rfl,trivial,λS' H' e hS' _=>⟨_, .of (e.tup _ _ f),hs.ext e⟩,h⟩
 |ref a=>
  obtain⟨ws,ea,h⟩:=zbn h;exact⟨true,_,ws,_,rfl,ea,λS' H' e hS' g=>by
   obtain⟨vs,f,hs⟩:=hS' a _ g;exact⟨vs, .of f,hs⟩,h⟩
 |scr f=>exact⟨true,_,_,_,rfl,trivial,λS' H' e hS' _=>⟨_,(e.fz f).sq,Reps.ofInts _⟩,h⟩
 |_=>exact h.elim
noncomputable def zom (t:WE):WI:=λE σ S Q=>t E σ S λw S1=>zoP w S1 λws G=>Q (zht 0 ws) G S1
theorem ziW{a:Expr}{ta:WE}{p pos:aB}(hg:Gl X "enumerate") (hm:X.mg "enumerate" =none) (ha:JE X a ta) (hs:ao [a] X.env=[(false,az a X.env)]:=by rfl) (hs2:ao [a] X.env=(false,az a X.env)::ao [] X.env:=by rfl):JI X (.Tuple es x1 tpos) (.Call (.Name "enumerate" p) [a] [] pos) (zom ta):=λE hE=>
 (zuX hg hm (zdh (ha E hE) pa_nil hs2) hs).mono λσ H R ⟨σW,S,QW,hσ,hS,ht,hR⟩=>⟨σW,S,_,hσ,hS,ht,λw S1 v H1 e1 r1 hS1 h1=>by
  obtain⟨k,a,ws,G,rfl,hG,hq,h⟩:=zvn r1 hS1 h1;obtain⟨vs,hv,_⟩:=hq S1 H1 .refl hS1 hG;exact⟨k,a,vs,rfl,hv,hR _ _ S1 _ H1 e1 hS1 hG (zuO hq) h⟩⟩
end
section
variable {prog:aE}{w:aC}{A:aQ}{E:Value→ah→Prop}{s:ah}
theorem zrY{k1 k2:Bool}{z TI TO i1 i2 l1 l2:Addr}{n1 n2:Nat}{xs ys:Array Value}{x y a b:Value}{Q:Option Value→ah→Prop}(D:h_ z TI TO i1 i2 l1 l2)
  (hz:b3 s.heap z TI TO .none) (hTI:bN s.heap TI (.ref i1) (.ref i2)) (hTO:bN s.heap TO a b) (h1:SeqIt k1 s.heap i1 l1 n1) (h2:SeqIt k2 s.heap i2 l2 n2) (hl1:SeqIs k1 s.heap l1 xs) (hl2:SeqIs k2 s.heap l2 ys) (hx:xs[n1]? =ae x) (hy:ys[n2]? =ae y)
  (hQ:∀g,b3 g z TI TO (cj s.heap.objs.size)→bN g TO x y→SeqIt k1 g i1 l1 (n1+1)→SeqIt k2 g i2 l2 (n2+1)→bN g s.heap.objs.size x y→g.objs.size=s.heap.objs.size+1→
   (∀c o,c≠z→c≠TO→c≠i1→c≠i2→s.heap.get? c=ae o→g.get? c=ae o)→Q (ae (.ref s.heap.objs.size)) { s with heap:=g }):am (aq prog w) A (b5 (.ref z)) Q E s:=by
 have hT:s.TypeIs (.ref z) "zip" :=⟨_,hz,rfl⟩;unfold b5;refine ak (gj (dr (name:=br "__next__") hT gc (dt gc hT je ?_ (jZ _))));show am _ _ (field (.ref z) 2 >>= _) _ _ _;refine ak (bE hz rfl (x:= .bool false) rfl ?_);show am _ _ (field (.ref z) 3 >>= _) _ _ _;refine ak (bE hz rfl (x:= .ref TI) rfl ?_);refine ak (cZ hTI rfl ?_);show am _ _ (d8 (.ref z) >>= _) _ _ _;refine ak ?_;unfold d8;refine ak (bE hz rfl (x:= .none) rfl (aD ?_));simp only[if_true];refine ak (eG ?_);refine ak (bE hz rfl (x:= .ref TO) rfl ?_);refine ak (ck hz (by simp) λg1 hz1 hs1=>?_);replace hz1:b3 g1 z TI TO .ellipsis:=hz1;refine ak ?_;simp only[jD,jB,iH,jJ];refine ak (ak (fG ?_));show am _ _ (cN (.ref i1) >>= _) _ _ _;refine ak (zfK (h1.at λo e=>hs1.extBut _ o D.i1z e) (hl1.at λo e=>hs1.extBut _ o D.l1z e) hx λg2 h12 hs2=>aD ?_);have hTO2:bN g2 TO a b:=hs2.extBut _ _ D.TOi1 (hs1.extBut _ _ D.TOz hTO);refine ak (cZ hTO2 rfl ?_);refine ak (gZ hTO2 λg3 hTO3 hs3=>?_);replace hTO3:bN g3 TO x b:=hTO3;refine ak (gl (aD ?_));refine ak (ak (fG ?_));show am _ _ (cN (.ref i2) >>= _) _ _ _;refine ak (zfK (h2.at λo e=>hs3.extBut _ o D.TOi2.symm (hs2.extBut _ o D.i12.symm (hs1.extBut _ o D.i2z e))) (hl2.at λo e=>hs3.extBut _ o D.l2TO (hs2.extBut _ o D.l2i1 (hs1.extBut _ o D.l2z e))) hy λg4 h24 hs4=>aD ?_);have hTO4:bN g4 TO x b:=hs4.extBut _ _ D.TOi2 hTO3;refine ak (cZ hTO4 rfl ?_);refine ak (gZ hTO4 λg5 hTO5 hs5=>?_);replace hTO5:bN g5 TO x y:=hTO5;refine ak (gl (aD (aD ?_)));refine ak (cZ hTO5 rfl ?_);refine ak (jC ?_);have hsz:g5.objs.size=s.heap.objs.size:=by rw[hs5.1,hs4.1,hs3.1,hs2.1,hs1.1]
 have hz5:b3 g5 z TI TO .ellipsis:=hs5.extBut _ _ D.TOz.symm (hs4.extBut _ _ D.i2z.symm (hs3.extBut _ _ D.TOz.symm (hs2.extBut _ _ D.i1z.symm hz1)));have hk5:∀c o,c≠z→c≠TO→c≠i1→c≠i2→s.heap.get? c=ae o→g5.get? c=ae o:=λc o c1 c2 c3 c4 e=>hs5.extBut _ _ c2 (hs4.extBut _ _ c4 (hs3.extBut _ _ c2 (hs2.extBut _ _ c3 (hs1.extBut _ _ c1 e))));have h15:SeqIt k1 g5 i1 l1 (n1+1):=h12.at λo e=>hs5.extBut _ o D.TOi1.symm (hs4.extBut _ o D.i12 (hs3.extBut _ o D.TOi1.symm e));have h25:SeqIt k2 g5 i2 l2 (n2+1):=h24.at λo e=>hs5.extBut _ o D.TOi2.symm e;have hzlt:z<g5.objs.size:=aK hz5;show am _ _ (fU (.ref z) (.ref g5.objs.size) >>= _) _ _ _;refine ak ?_;unfold fU;have hz6:b3 (g5.push { cls:= .type "tuple",data:= .seq #[x,y] }) z TI TO .ellipsis:=aJ _ hz5;refine ak (ck hz6 (by simp) λg7 hz7 hs7=>?_);replace hz7:b3 g7 z TI TO (cj g5.objs.size):=hz7;refine ck hz7 (by simp) λg8 hz8 hs8=>?_;replace hz8:b3 g8 z TI TO (cj g5.objs.size):=hz8;have up:∀c o,c≠z→g5.get? c=ae o→g8.get? c=ae o:=λc o c1 e=>hs8.extBut _ _ c1 (hs7.extBut _ _ c1 (aJ _ e));have hT8:bN g8 g5.objs.size x y:=hs8.extBut _ _ (cK hzlt) (hs7.extBut _ _ (cK hzlt) (bt _ rfl));have hzz:g8.objs.size=g5.objs.size+1:=by rw[hs8.1,hs7.1,cJ]
 rw[hsz]at hz8 hT8 hzz;refine aD ⟨_,rfl,aD ?_⟩;show Q (ae (.ref g5.objs.size)) _;rw[hsz];exact hQ g8 hz8 (up _ _ D.TOz hTO5) (h15.at λo e=>up _ o D.i1z e) (h25.at λo e=>up _ o D.i2z e) hT8 hzz λc o c1 c2 c3 c4 e=>up c o c1 (hk5 c o c1 c2 c3 c4 e)
theorem zvv{k1 k2:Bool}{z TI TO i1 i2 l1 l2:Addr}{n1 n2:Nat}{xs ys:Array Value}{a b:Value}{Q:Option Value→ah→Prop}(hh:A.handled=none) (D:h_ z TI TO i1 i2 l1 l2)
  (hz:b3 s.heap z TI TO .none) (hTI:bN s.heap TI (.ref i1) (.ref i2)) (hTO:bN s.heap TO a b) (h1:SeqIt k1 s.heap i1 l1 n1) (h2:SeqIt k2 s.heap i2 l2 n2) (hl1:SeqIs k1 s.heap l1 xs) (hl2:SeqIs k2 s.heap l2 ys) (hend:xs[n1]? =none∨ys[n2]? =none)
  (hQ:∀g,(∀c o,c≠z→c≠TO→c≠i1→c≠i2→s.heap.get? c=ae o→g.get? c=ae o)→Q none { s with heap:=g }):am (aq prog w) A (b5 (.ref z)) Q E s:=by
 have hT:s.TypeIs (.ref z) "zip" :=⟨_,hz,rfl⟩;have fin:∀(g:Heap) (e:Addr),(∀c o,c≠z→c≠TO→c≠i1→c≠i2→s.heap.get? c=ae o→g.get? c=ae o)→(∃o,g.get? e=ae o∧o.cls= .type "StopIteration")→
   am (aq prog w) A (do if(←isInstance (.ref e) (.type "StopIteration")) then pure none else throw (.ref e)) Q E { s with heap:=g }:=λg e hk ⟨o,ho,hc⟩=>
  ak (jn (T:= "StopIteration") (b:=true) ⟨o,ho,hc⟩ jP (aD (hQ _ hk)))
 unfold b5;refine ak (gj (dr (name:=br "__next__") hT gc (dt gc hT je ?_ (jZ _))));show am _ _ (field (.ref z) 2 >>= _) _ _ _;refine ak (bE hz rfl (x:= .bool false) rfl ?_);show am _ _ (field (.ref z) 3 >>= _) _ _ _;refine ak (bE hz rfl (x:= .ref TI) rfl ?_);refine ak (cZ hTI rfl ?_);show am _ _ (d8 (.ref z) >>= _) _ _ _;refine ak ?_;unfold d8;refine ak (bE hz rfl (x:= .none) rfl (aD ?_));simp only[if_true];refine ak (eG ?_);refine ak (bE hz rfl (x:= .ref TO) rfl ?_);refine ak (ck hz (by simp) λg1 hz1 hs1=>?_);replace hz1:b3 g1 z TI TO .ellipsis:=hz1;refine ak ?_;simp only[jD,jB,iH,jJ];refine ak (ak (fG ?_));show am _ _ (cN (.ref i1) >>= _) _ _ _;cases hx:xs[n1]? with
 |none=>
  refine ak (ziU hh (h1.at λo e=>hs1.extBut _ o D.i1z e) (hl1.at λo e=>hs1.extBut _ o D.l1z e) hx λg2 e hs2 he=>?_);obtain⟨oe,hoe,hce⟩:=he;have hz2:b3 g2 z TI TO .ellipsis:=hs2 _ _ D.i1z.symm hz1;have hez:e≠z:=λx=>by subst x;rw[hz2]at hoe;cases hoe;simp at hce
  refine ck hz2 (by simp) λg3 _ hs3=>fin g3 e (λc o c1 _ c3 _ x=>hs3.extBut _ _ c1 (hs2 _ _ c3 (hs1.extBut _ _ c1 x))) ⟨oe,hs3.extBut _ _ hez hoe,hce⟩
 |some x=>
  have hy:ys[n2]? =none:=by rcases hend with h |h;rw[hx]at h;cases h;exact h
  refine ak (zfK (h1.at λo e=>hs1.extBut _ o D.i1z e) (hl1.at λo e=>hs1.extBut _ o D.l1z e) hx λg2 h12 hs2=>aD ?_);have hTO2:bN g2 TO a b:=hs2.extBut _ _ D.TOi1 (hs1.extBut _ _ D.TOz hTO);refine ak (cZ hTO2 rfl ?_);refine ak (gZ hTO2 λg3 hTO3 hs3=>?_);refine ak (gl (aD ?_));refine ak (ak (fG ?_));show am _ _ (cN (.ref i2) >>= _) _ _ _;refine ak (ziU hh (h2.at λo e=>hs3.extBut _ o D.TOi2.symm (hs2.extBut _ o D.i12.symm (hs1.extBut _ o D.i2z e))) (hl2.at λo e=>hs3.extBut _ o D.l2TO (hs2.extBut _ o D.l2i1 (hs1.extBut _ o D.l2z e))) hy λg4 e hs4 he=>?_);obtain⟨oe,hoe,hce⟩:=he;have hz4:b3 g4 z TI TO .ellipsis:=hs4 _ _ D.i2z.symm (hs3.extBut _ _ D.TOz.symm (hs2.extBut _ _ D.i1z.symm hz1));have hez:e≠z:=λx=>by subst x;rw[hz4]at hoe;cases hoe;simp at hce
  refine ck hz4 (by simp) λg5 _ hs5=>fin g5 e (λc o c1 c2 c3 c4 x=>hs5.extBut _ _ c1 (hs4 _ _ c4 (hs3.extBut _ _ c2 (hs2.extBut _ _ c3 (hs1.extBut _ _ c1 x))))) ⟨oe,hs5.extBut _ _ hez hoe,hce⟩
end
noncomputable abbrev zH1 (k1:Bool) (h:Heap) (l1:Addr):Heap:=h.push (zew k1 l1)
noncomputable abbrev zH2 (k1 k2:Bool) (h:Heap) (l1 l2:Addr):Heap:=(zH1 k1 h l1).push (zew k2 l2)
noncomputable abbrev zH3 (k1 k2:Bool) (h:Heap) (l1 l2:Addr):Heap:=(zH2 k1 k2 h l1 l2).push { cls:= .type "tuple",data:= .seq #[.ref h.objs.size, .ref (zH1 k1 h l1).objs.size] }
noncomputable abbrev zH4 (k1 k2:Bool) (h:Heap) (l1 l2:Addr):Heap:=(zH3 k1 k2 h l1 l2).push { cls:= .type "tuple",data:= .seq #[.none, .none] }
noncomputable abbrev zH5 (k1 k2:Bool) (h:Heap) (l1 l2:Addr):Heap:=(zH4 k1 k2 h l1 l2).push { cls:= .type "zip",data:= .fields #[.none, .bool false, .bool false, .ref (zH2 k1 k2 h l1 l2).objs.size, .ref (zH3 k1 k2 h l1 l2).objs.size] }
theorem zoE{k1 k2:Bool}(l1 l2:Addr) (xs ys:Array Value) :
  PySem.Meets (b4.«zip.__new__» ⟨[.type "zip", .ref l1, .ref l2],[]⟩) (λ_ R s=>SeqIs k1 s.heap l1 xs∧SeqIs k2 s.heap l2 ys∧R (.ok (.ret (.ref (zH4 k1 k2 s.heap l1 l2).objs.size))) { s with heap:=zH5 k1 k2 s.heap l1 l2 }):=
 .of_wp λprog w A R s h=>by
  obtain⟨hp,g,d,tk,os⟩:=s;obtain⟨hl1,hl2,h⟩:=h;have hsub:=sub_zip;have f1:∀{A:aQ}{E:Value→ah→Prop}{Q:Value→ah→Prop},Q (.ref hp.objs.size) ⟨hp.push (zew k1 l1),g,d,tk,os⟩→am (aq prog w) A (dm (.ref l1)) Q E ⟨hp,g,d,tk,os⟩:=λq=>zjo (s:=⟨hp,g,d,tk,os⟩) hl1 q;have f2:∀{A:aQ}{E:Value→ah→Prop}{Q:Value→ah→Prop},Q (.ref (hp.push (zew k1 l1)).objs.size) ⟨(hp.push (zew k1 l1)).push (zew k2 l2),g,d,tk,os⟩→am (aq prog w) A (dm (.ref l2)) Q E ⟨hp.push (zew k1 l1),g,d,tk,os⟩:=λq=>zjo (s:=⟨hp.push (zew k1 l1),g,d,tk,os⟩) (hl2.push _) q
  wp_walk using f1,f2
  exact⟨_,rfl,h⟩
section
variable {prog:aE}{w:aC}{A:aQ}{E:Value→ah→Prop}{s:ah}
theorem zsI{k1 k2:Bool}{l1 l2:Addr}{xs ys:Array Value}{Q:Value→ah→Prop}(hl1:SeqIs k1 s.heap l1 xs) (hl2:SeqIs k2 s.heap l2 ys)
  (h:∀g,b3 g (s.heap.objs.size+4) (s.heap.objs.size+2) (s.heap.objs.size+3) .none→bN g (s.heap.objs.size+2) (.ref s.heap.objs.size) (.ref (s.heap.objs.size+1))→
   bN g (s.heap.objs.size+3) .none .none→SeqIt k1 g s.heap.objs.size l1 0→SeqIt k2 g (s.heap.objs.size+1) l2 0→g.objs.size=s.heap.objs.size+5→
   (∀c o,s.heap.get? c=ae o→g.get? c=ae o)→Q (.ref (s.heap.objs.size+4)) { s with heap:=g }):am (aq prog w) A (call (.type "zip") [.ref l1, .ref l2]) Q E s:=by
 refine callType_new PySem.F.called_zip (by decide) (PySem.F.typeCall_zip_2 _ _) (PySem.F.newCall_zip_2 _ _) (λobj=>PySem.F.args_object_init_3 obj _ _) PySem.F.entry_zip_new (zoE (k1:=k1) (k2:=k2) l1 l2 xs ys) ⟨hl1,hl2,?_⟩;have z1:(zH1 k1 s.heap l1).objs.size=s.heap.objs.size+1:=cJ ..;have z2:(zH2 k1 k2 s.heap l1 l2).objs.size=s.heap.objs.size+2:=by rw[cJ,z1]
 have z3:(zH3 k1 k2 s.heap l1 l2).objs.size=s.heap.objs.size+3:=by rw[cJ,z2]
 have z4:(zH4 k1 k2 s.heap l1 l2).objs.size=s.heap.objs.size+4:=by rw[cJ,z3]
 have z5:(zH5 k1 k2 s.heap l1 l2).objs.size=s.heap.objs.size+5:=by rw[cJ,z4]
 have g5:(zH5 k1 k2 s.heap l1 l2).get? (zH4 k1 k2 s.heap l1 l2).objs.size=ae _:=bt _ rfl;have g4:(zH5 k1 k2 s.heap l1 l2).get? (zH3 k1 k2 s.heap l1 l2).objs.size=ae _:=aJ _ (bt _ rfl);have g3:(zH5 k1 k2 s.heap l1 l2).get? (zH2 k1 k2 s.heap l1 l2).objs.size=ae _:=aJ _ (aJ _ (bt _ rfl));have g2:(zH5 k1 k2 s.heap l1 l2).get? (zH1 k1 s.heap l1).objs.size=ae _:=aJ _ (aJ _ (aJ _ (bt _ zfV)));have g1:(zH5 k1 k2 s.heap l1 l2).get? s.heap.objs.size=ae _:=aJ _ (aJ _ (aJ _ (aJ _ (bt _ zfV))));show _∧_;rw[z2,z3,z4]at g5;rw[z1,z2]at g3;rw[z3]at g4;rw[z1]at g2;rw[z4];exact⟨⟨_,g5,rfl⟩,h _ g5 g3 g4 (ziK g1) (ziK g2) z5 λc o x=>aJ _ (aJ _ (aJ _ (aJ _ (aJ _ x))))⟩
end
def SqZ (k:Bool) (K:aj) (H:Hp) (a:Addr) (xs:List V):Prop:=if k=true then SqL K H a xs else H a=ae (.tup xs)
theorem SqZ.sq{k:Bool}{K:aj}{H:Hp}{a:Addr}{xs:List V}(h:SqZ k K H a xs):SqK k K H a xs:=by
 cases k with
 |true=>exact h
 |false=>exact .of h
theorem SeqIs.ob{k:Bool}{h:Heap}{a:Addr}{its:Array Value}(x:SeqIs k h a its):∃o n,h.get? a=ae o∧o.data= .seq its n∧(k=true→o.cls= .type "list"):=by
 cases k with
 |true=>obtain⟨o,ho,hc,n,hd⟩:=(show h.IsList a its from x);exact⟨o,n,ho,hd,λ_=>hc⟩
 |false=>obtain⟨o,ho,hc,n,hd⟩:=(show h.IsTuple a its from x);exact⟨o,n,ho,hd,λz=>by cases z⟩
theorem SeqIs.ne_fields{k:Bool}{h:Heap}{a b:Addr}{its:Array Value}{o:Obj}{vs:Array Value}(x:SeqIs k h a its) (e:h.get? b=ae o) (d:o.data= .fields vs):a≠b:=λz=>by
 subst z;obtain⟨o',n,ho,hd,_⟩:=x.ob;rw[ho]at e;cases e;rw[hd]at d;cases d
noncomputable def Itz (k1 k2:Bool) (K:aj) (a b:Addr):It:=
  ⟨λi H=>∃xs ys x y,SqZ k1 K H a xs∧SqZ k2 K H b ys∧xs[i]? =ae x∧ys[i]? =ae y,
   λi H v H'=>∃p x y,H p=none∧v= .ref p∧H'=upd H p (.tup [x,y])∧(∀xs,SqZ k1 K H a xs→xs[i]? =ae x)∧ ∀ys,SqZ k2 K H b ys→ys[i]? =ae y,
   λi H=>∃xs ys,SqZ k1 K H a xs∧SqZ k2 K H b ys∧(xs.length≤i∨ys.length≤i)⟩
structure ZipFar (z TI TO i1 i2:Addr):Prop where
  TIz:TI≠z
  TOz:TO≠z
  i1z:i1≠z
  i2z:i2≠z
  TITO:TI≠TO
  TIi1:TI≠i1
  TIi2:TI≠i2
  TOi1:TO≠i1
  TOi2:TO≠i2
  i12:i1≠i2
def zyM (k1 k2:Bool) (z TI TO i1 i2 a b:Addr) (i:Nat) (h:Heap):Prop:=b3 h z TI TO .none∧bN h TI (.ref i1) (.ref i2)∧(∃u v,bN h TO u v)∧SeqIt k1 h i1 a i∧SeqIt k2 h i2 b i
section
variable {X:Cx}{pins:List (Addr×Obj)}{σ:St}{H:Hp}{s:ah}
theorem zkE{k1 k2:Bool}{z TI TO i1 i2 a b:Addr}{i:Nat}{xs ys:List V}(I:Inv X pins σ H s) (hTO:H TO=none) (D:ZipFar z TI TO i1 i2) (st:zyM k1 k2 z TI TO i1 i2 a b i s.heap) (ha:SqZ k1 X.K H a xs) (hb:SqZ k2 X.K H b ys):h_ z TI TO i1 i2 a b:=by
 obtain⟨hz,hTI,⟨u,v,hTOo⟩,h1,h2⟩:=st;obtain⟨o1,v1,e1,d1⟩:=h1.ob;obtain⟨o2,v2,e2,d2⟩:=h2.ob;obtain⟨its,_,pa,_⟩:=I.seq ha.sq;obtain⟨its2,_,pb,_⟩:=I.seq hb.sq;have nTO:∀{k:Bool}{c:Addr}{zs:List V}{its:Array Value},SqZ k X.K H c zs→SeqIs k s.heap c its→c≠TO:=λ{k c zs its} hc pc e=>by
  subst e;cases k with
  |false=>rw[show H c=ae (.tup zs) from hc]at hTO;cases hTO
  |true=>
   obtain⟨o,n,ho,_,hcl⟩:=pc.ob;rw[hTOo]at ho;cases ho;have:=hcl rfl;simp at this
 exact⟨D.TIz,D.TOz,D.i1z,D.i2z,D.TITO,D.TIi1,D.TIi2,D.TOi1,D.TOi2,D.i12,pa.ne_fields hz rfl,nTO ha pa,pa.ne_fields e1 d1,pa.ne_fields e2 d2,pb.ne_fields hz rfl,nTO hb pb,pb.ne_fields e1 d1,pb.ne_fields e2 d2⟩
end
theorem zsd{P:aE}{w:aC}{K:aj}{es:List Expr}{x1:Nat}{pos:aB}(k1 k2:Bool) (a b z TI TO i1 i2:Addr) (D:ZipFar z TI TO i1 i2):Turn P w K (.Tuple es x1 pos) (Itz k1 k2 K a b) [z,TI,TO,i1,i2] z (zyM k1 k2 z TI TO i1 i2 a b) where
  mem:=by simp
  obj:=λi h ⟨hz,hTI,⟨u,v,hTO⟩,h1,h2⟩ c hc=>by
    obtain⟨o1,v1,e1,d1⟩:=h1.ob;obtain⟨o2,v2,e2,d2⟩:=h2.ob;simp only[aA,bi,or_false]at hc;rcases hc with rfl |rfl |rfl |rfl |rfl
    · exact⟨_,hz,λv z=>by cases z⟩
    · exact⟨_,hTI,λv z=>by cases z⟩
    · exact⟨_,hTO,λv z=>by cases z⟩
    · exact⟨_,e1,λv z=>by rw[d1]at z;cases z⟩
    · exact⟨_,e2,λv z=>by rw[d2]at z;cases z⟩
  keep:=λi h h' ⟨hz,hTI,⟨u,v,hTO⟩,h1,h2⟩ kk=>⟨kk z (by simp) _ hz,kk TI (by simp) _ hTI,⟨u,v,kk TO (by simp) _ hTO⟩,h1.at λo q=>kk i1 (by simp) o q,h2.at λo q=>kk i2 (by simp) o q⟩
  item:=by
    intro X hP hw hK hc i pins s σ H E I hf st hg;subst hP hw hK;obtain⟨xs,ys,x,y,ha,hb,hx,hy⟩:=hg;have Z:=zkE I (hf TO (by simp)).1 D st ha hb;obtain⟨hz,hTI,⟨c0,d0,hTO⟩,h1,h2⟩:=st;obtain⟨its,rv,pa,_⟩:=I.seq ha.sq;obtain⟨its2,rv2,pb,_⟩:=I.seq hb.sq;obtain⟨u,hu,ru⟩:=rv.get hx;obtain⟨u2,hu2,ru2⟩:=rv2.get hy;refine zrY Z hz hTI hTO h1 h2 pa pb (x:=u) (y:=u2) (by simpa using hu) (by simpa using hu2) λg hz1 hTO1 h11 h21 hp hz' kk=>⟨_,rfl,?_⟩;refine wpAny_letOwnedTupleGo_zip hz1 λg2 hz2 hs2=>?_;have hs2':∀c o,c≠z→g.get? c=ae o→g2.get? c=ae o:=λc o hc e=>(hs2.2 c hc).trans e;have kk2:∀c o,c∉ [z,TI,TO,i1,i2]→s.heap.get? c=ae o→g2.get? c=ae o:=λc o hc q=>by
      simp only[aA,bi,or_false,not_or]at hc;exact hs2' c o hc.1 (kk c o hc.1 hc.2.2.1 hc.2.2.2.1 hc.2.2.2.2 q)
    have hn:=I.hok.fresh (ap s.heap.objs.size);have hpz:s.heap.objs.size≠z:=cK (aK hz);have ht2:g2.get? s.heap.objs.size=ae { cls:= .type "tuple",data:= .seq #[u,u2] }:=hs2' _ _ hpz hp;refine⟨.ref s.heap.objs.size,upd H s.heap.objs.size (.tup [x,y]),I.turnNew (fp:=[z,TI,TO,i1,i2]) (t':=s.toks) (ap _) kk2 hf ⟨by show 2≤sizeLine;rw[dC];decide,[u,u2], .cons ru (.cons ru2 .nil),⟨_,ht2,rfl,_,rfl⟩⟩,rfl,
      ⟨_,x,y,hn,rfl,rfl,λzs hy=>by rw[I.seq_inj hy.sq ha.sq];exact hx,λzs hy'=>by rw[I.seq_inj hy'.sq hb.sq];exact hy⟩,
      ⟨hz2,hs2' _ _ D.TIz (kk _ _ D.TIz D.TITO D.TIi1 D.TIi2 hTI),⟨u,u2,hs2' _ _ D.TOz hTO1⟩,h11.at λo q=>hs2' _ o D.i1z q,h21.at λo q=>hs2' _ o D.i2z q⟩,λc hc=>?_⟩
    have hlt:∃o,s.heap.get? c=ae o:=by
      obtain⟨o1,v1,e1,d1⟩:=h1.ob;obtain⟨o2,v2,e2,d2⟩:=h2.ob;simp only[aA,bi,or_false]at hc;rcases hc with rfl |rfl |rfl |rfl |rfl
      · exact⟨_,hz⟩
      · exact⟨_,hTI⟩
      · exact⟨_,hTO⟩
      · exact⟨_,e1⟩
      · exact⟨_,e2⟩
    obtain⟨o,ho⟩:=hlt;rw[zaz (bA (aK ho))];exact(hf c hc).1
  done:=by
    intro X hP hw hK hc i pins s σ H E I hf st hg;subst hP hw hK;obtain⟨xs,ys,ha,hb,hx⟩:=hg;have Z:=zkE I (hf TO (by simp)).1 D st ha hb;obtain⟨hz,hTI,⟨c0,d0,hTO⟩,h1,h2⟩:=st;obtain⟨its,rv,pa,_⟩:=I.seq ha.sq;obtain⟨its2,rv2,pb,_⟩:=I.seq hb.sq;have hl:=rv.length;have hl2:=rv2.length;refine zvv (I.ok.hd hc) Z hz hTI hTO h1 h2 pa pb ?_ λg eb=>⟨rfl,I.turnedL (fp:=[z,TI,TO,i1,i2]) (t':=s.toks) (λc o hc q=>?_) hf⟩
    · rcases hx with hx |hx
      · exact .inl (by simp;omega)
      · exact .inr (by simp;omega)
    · simp only[aA,bi,or_false,not_or]at hc;exact eb c o hc.1 hc.2.2.1 hc.2.2.2.1 hc.2.2.2.2 q
  self:=λA i s Q E st h=>jk st.1 h
section
variable {X:Cx}{es:List Expr}{x1:Nat}{tpos:aB}
noncomputable def zCn (K:aj) (ta:TA):TI:=λσ H R=>ta σ H λvs H1=>∃k1 k2 a b xs ys,vs=[.ref a, .ref b]∧SqZ k1 K H1 a xs∧SqZ k2 K H1 b ys∧R (Itz k1 k2 K a b) H1
theorem zzj{a b:Expr}{ta:TA}{p pos:aB}(hg:Gl X "zip") (hm:X.mg "zip" =none) (ha:PA X [a,b] ta) (hs:ao [a,b] X.env=[(false,az a X.env),(false,az b X.env)]:=by rfl) (hs2:ao [b] X.env=[(false,az b X.env)]:=by rfl):PI X (.Tuple es x1 tpos) (.Call (.Name "zip" p) [a,b] [] pos) (zCn X.K ta):=by
 intro pins s σ H R I h;refine Call_ (zhd I hg hm boot_zip (eY (thn (ha pos pins s σ H _ I h) λus s1 ⟨vs,H1,I1,r1,q1⟩=>?_) (by rw[hs,hs2]) (by rw[hs2];rfl)));obtain⟨k1,k2,a,b,xs,ys,e,hq1,hq2,q⟩:=q1;subst e;cases r1 with
 |cons r rr=>
  cases rr with
  |cons r' rr=>
   cases rr;cases(show _=bc a from r);cases(show _=bc b from r');obtain⟨its,rv,pl,_⟩:=I1.seq hq1.sq;obtain⟨its2,rv2,pl2,_⟩:=I1.seq hq2.sq;refine zsI pl pl2 λg hz hTI hTO h1 h2 hz' kk=>jk hz ?_;have I2:Inv X pins σ H1 { s1 with heap:=g }:=I1.kept (t':=s1.toks) kk;have ne:∀(n i j:Nat),i≠j→n+i≠n+j:=λn i j h e=>h (Nat.add_left_cancel e);have D:ZipFar (s1.heap.objs.size+4) (s1.heap.objs.size+2) (s1.heap.objs.size+3) s1.heap.objs.size (s1.heap.objs.size+1):=
    ⟨ne _ 2 4 (by decide),ne _ 3 4 (by decide),ne _ 0 4 (by decide),ne _ 1 4 (by decide),ne _ 2 3 (by decide),ne _ 2 0 (by decide),ne _ 2 1 (by decide),ne _ 3 0 (by decide),ne _ 3 1 (by decide),ne _ 0 1 (by decide)⟩
   refine⟨_,_,_,_,H1,rfl,I2,zsd k1 k2 a b _ _ _ _ _ D,⟨hz,hTI,⟨_,_,hTO⟩,h1,h2⟩,λc hc=>?_,q⟩;have hb':s1.heap.objs.size≤c:=by
    simp only[aA,bi,or_false]at hc;rcases hc with rfl |rfl |rfl |rfl |rfl
    ·exact fO _ _
    ·exact fO _ _
    ·exact fO _ _
    ·exact ap _
    ·exact fO _ _
   exact I1.fpOk hb' (I1.hok.fresh hb')
noncomputable def pairs:List W→List W→List W
 |x::xs,y::ys=> .tup [x,y]::pairs xs ys
 |_,_=>[]
theorem zjV:∀{xs ys:List W}{i:Nat}{u:W},(pairs xs ys)[i]? =ae u→ ∃x y,xs[i]? =ae x∧ys[i]? =ae y∧u= .tup [x,y]
 | [],_,_,_,h=>by simp [pairs]at h
 |_::_,[],_,_,h=>by simp [pairs]at h
 |x::xs,y::ys,0,u,h=>by
  simp [pairs]at h;exact⟨x,y,rfl,rfl,h.symm⟩
 |x::xs,y::ys,i+1,u,h=>by simpa using zjV (xs:=xs) (ys:=ys) (i:=i) (u:=u) (by simpa [pairs]using h)
theorem zkn:∀{xs ys:List W},(pairs xs ys).length=min xs.length ys.length
 | [],_=>by simp [pairs]
 |_::_,[]=>by simp [pairs]
 |x::xs,y::ys=>by simp [pairs,zkn (xs:=xs) (ys:=ys)]
theorem zyH{K:aj}{k1 k2:Bool}{a b:Addr}{ws us:List W}{G:Sto→Prop}{H0:Hp}{S0:Sto}(h:∀S H,Ext H0 S0 H S→RepS K H S→G S→(∃vs,SqZ k1 K H a vs∧Reps K H ws vs)∧ ∃vs,SqZ k2 K H b vs∧Reps K H us vs):ItW K (Itz k1 k2 K a b) (pairs ws us) G H0 S0:=λi S H e hS hG=>by
 obtain⟨⟨xs,hq,r⟩,⟨ys,hq2,r2⟩⟩:=h S H e hS hG;refine⟨λu eu=>?_,λhl=>⟨xs,ys,hq,hq2,?_⟩⟩
 ·obtain⟨x,y,ex,ey,rfl⟩:=zjV eu;obtain⟨v,ev,rv⟩:=r.get ex;obtain⟨v2,ev2,rv2⟩:=r2.get ey;refine⟨⟨xs,ys,v,v2,hq,hq2,ev,ev2⟩,λx H' ⟨p,y1,y2,hp,e1,e2,e3,e4⟩=>?_⟩;subst e1 e2;have f1:=e3 xs hq;have f2:=e4 ys hq2;rw[ev]at f1;cases f1;rw[ev2]at f2;cases f2;exact⟨.new hp,hS.new hp, .tup zay (.cons (rv.ext (.new (S:=S) hp)) (.cons (rv2.ext (.new (S:=S) hp)) .nil))⟩
 ·rw[zkn]at hl;rw[←r.length,←r2.length];omega
theorem zmF{K:aj}{H:Hp}{S:Sto}{w:W}{v:V}{Q:List W→(Sto→Prop)→Prop}(r:Rep K H w v) (hS:RepS K H S) (h:zoP w S Q) :
  ∃k a ws G,v= .ref a∧G S∧(∀S' H',Ext H S H' S'→RepS K H' S'→G S'→ ∃vs,SqZ k K H' a vs∧Reps K H' ws vs)∧Q ws G:=by
 cases r with
 |tup f hs=>exact⟨false,_,_,_,rfl,trivial,λS' H' e hS' _=>⟨_,e.tup _ _ f,hs.ext e⟩,h⟩
 |ref a=>
  obtain⟨ws,ea,h⟩:=zbn h;exact⟨true,_,ws,_,rfl,ea,λS' H' e hS' g=>by
   obtain⟨vs,f,hs⟩:=hS' a _ g;exact⟨vs, .of f,hs⟩,h⟩
 |scr f=>exact⟨true,_,_,_,rfl,trivial,λS' H' e hS' _=>⟨_,(e.fz f).sq,Reps.ofInts _⟩,h⟩
 |_=>exact h.elim
noncomputable def zuA (t u:WE):WI:=λE σ S Q=>t E σ S λx S1=>u E σ S1 λy S2=>zoP x S2 λxs G=>zoP y S2 λys G'=>Q (pairs xs ys) (λS'=>G S'∧G' S') S2
theorem zkv{a b:Expr}{ta tb:WE}{p pos:aB}(hg:Gl X "zip") (hm:X.mg "zip" =none) (ha:JE X a ta) (hb:JE X b tb) (hs:ao [a,b] X.env=[(false,az a X.env),(false,az b X.env)]:=by rfl) (hs2:ao [b] X.env=[(false,az b X.env)]:=by rfl)
  (h3:ao [a,b] X.env=(false,az a X.env)::ao [b] X.env:=by rfl) (h4:ao [b] X.env=(false,az b X.env)::ao [] X.env:=by rfl):JI X (.Tuple es x1 tpos) (.Call (.Name "zip" p) [a,b] [] pos) (zuA ta tb):=λE hE=>
 (zzj hg hm (zdh (ha E hE) (zdh (hb E hE) pa_nil h4) h3) hs hs2).mono λσ H R ⟨σW,S,QW,hσ,hS,ht,hR⟩=>⟨σW,S,_,hσ,hS,ht,λx S1 v H1 e1 r1 hS1 h1=>⟨σW,S1,_,hσ.ext e1,hS1,h1,λy S2 v2 H2 e2 r2 hS2 h2=>by
  obtain⟨k1,a,ws,G,rfl,hG,hq,h⟩:=zmF (r1.ext e2) hS2 h2;obtain⟨k2,b,us,G',rfl,hG',hq',h⟩:=zmF r2 hS2 h;obtain⟨vs,hv,_⟩:=hq S2 H2 .refl hS2 hG;obtain⟨vs',hv',_⟩:=hq' S2 H2 .refl hS2 hG';exact⟨k1,k2,a,b,vs,vs',rfl,hv,hv',hR _ _ S2 _ H2 (e1.trans e2) hS2 ⟨hG,hG'⟩ (zyH λS' H' e hS' g=>⟨hq S' H' e hS' g.1,hq' S' H' e hS' g.2⟩) h⟩⟩⟩
end
section
noncomputable def zwM (hi:Int) (n:Nat):List W:=(aX n).map λ(i:Nat)=> .int (hi - (i:Int))
noncomputable def zBU (t:WA):WI:=λE σ S Q=>t E σ S λws S1=>match ws with
 | [.int i, .int j, .int c]=>c= -1∧(-(2 ^ 62)≤i∧i<2 ^ 62∧ -(2 ^ 62)≤j∧j<2 ^ 62)∧Q (zwM i (i - j).toNat) (λ_=>True) S1
 |_=>False
end
section
variable {X:Cx}{e:Expr}{es:List Expr}{t:WA}{p pos:aB}
noncomputable def zwC:WF:=λws S Q=>match ws with
 | [.int i]=>Q (.int i) S
 | [.bl b]=>Q (.int (if b then 1 else 0)) S
 |_=>False
theorem zoR{K:aj}:zmh K (λxs H Q=>(∃i,xs=[.int i]∧Q (.int i) H)∨ ∃k,xs=[.bl k]∧Q (.int (if k then 1 else 0)) H) zwC:=λH vs ws S Q QW r hS h hQ=>by
 cases r with
 |nil=>exact h.elim
 |cons r1 r2=>
  cases r2 with
  |cons _ _=>cases r1<;>exact h.elim
  |nil=>
   cases r1 with
   |int i=>exact .inl ⟨i,rfl,hQ _ S _ H .refl (.int _) hS h⟩
   |bl b=>exact .inr ⟨b,rfl,hQ _ S _ H .refl (.int _) hS h⟩
   |_=>exact h.elim
theorem zrI (hg:Gl X "int") (hm:X.mg "int" =none) (ha:JA X (e::es) t)
  (he:ao (e::es) X.env=(false,az e X.env)::ao es X.env:=by rfl) (hpl:(aT pos (ao es X.env)).any (·.1)=false:=by rfl):JE X (.Call (.Name "int" p) (e::es) [] pos) (wB zwC t):=
 zyB zqb zoR hg hm cY ha (by decide) (by decide) he hpl
noncomputable def zAh:WF:=λws S Q=>match ws with
 | [.int i, .int j]=>Q (.int (if j > i then j else i)) S
 |_=>False
noncomputable def zkt:WF:=λws S Q=>match ws with
 | [.int i, .int j]=>Q (.int (if j<i then j else i)) S
 |_=>False
theorem zoe{K:aj}:zmh K (λxs H Q=>∃i j,xs=[.int i, .int j]∧Q (.int (if j<i then j else i)) H) zkt:=λH vs ws S Q QW r hS h hQ=>by
 unfold zkt at h;split at h
 ·cases r with
  |cons r1 r2=>cases r2 with
   |cons r2 r3=>cases r3;cases r1;cases r2;exact⟨_,_,rfl,hQ _ S _ H .refl (.int _) hS h⟩
 ·exact h.elim
theorem zoQ{id:String}{r:List V→Hp→VK→Prop}{f:WF}{x:Str}(hc:X.calm=true→CallR X (.builtin id) r) (hw:zmh X.K r f) (hg:Gl X x) (hm:X.mg x=none) (hv:bV x=ae (.builtin id)) (ha:JA X (e::es) t) (hn:x≠ "__name__" :=by decide) (hdb:(x == ("__debug__" :Str))=false:=by decide)
  (he:ao (e::es) X.env=(false,az e X.env)::ao es X.env:=by rfl) (hpl:(aT pos (ao es X.env)).any (·.1)=false:=by rfl) (hcl:X.calm=true:=by rfl):JE X (.Call (.Name x p) (e::es) [] pos) (wB f t):=λE hE=>zuv (hc hcl) hw hg hm hv ha hn hdb he hpl E hE
theorem zqq (hg:Gl X "min") (hm:X.mg "min" =none) (ha:JA X (e::es) t)
  (he:ao (e::es) X.env=(false,az e X.env)::ao es X.env:=by rfl) (hpl:(aT pos (ao es X.env)).any (·.1)=false:=by rfl) (hcl:X.calm=true:=by rfl):JE X (.Call (.Name "min" p) (e::es) [] pos) (wB zkt t):=zoQ zqg zoe hg hm PyProof.Rows.boot_min ha (by decide) (by decide) he hpl hcl
theorem zhe{tl:WL}(hg:Gl X "tuple") (hm:X.mg "tuple" =none) (ha:JL X e tl)
  (he:ao [e] X.env=(false,az e X.env)::ao [] X.env:=by rfl) (hpl:(aT pos (ao [] X.env)).any (·.1)=false:=by rfl):JE X (.Call (.Name "tuple" p) [e] [] pos) (wBL zgh tl):=zuz zfL zlV hg hm gh ha (by decide) (by decide) he hpl
theorem zdu (hg:Gl X "tuple") (hm:X.mg "tuple" =none) (ha:JA X (e::es) t)
  (he:ao (e::es) X.env=(false,az e X.env)::ao es X.env:=by rfl) (hpl:(aT pos (ao es X.env)).any (·.1)=false:=by rfl):JE X (.Call (.Name "tuple" p) (e::es) [] pos) (wB zdt t):=zyB zfL zlY hg hm gh ha (by decide) (by decide) he hpl
end
theorem zqA{K:aj}:∀T∈ ["int", "bool", "str", "tuple", "list"],∀A∈ ["NoneType", "bool", "int", "str", "tuple", "list"],eX K (.type A) (.type T)=ae (zcn A T):=by
 intro T hT A hA;simp only[aA,bi,or_false]at hT hA;rcases hT with rfl |rfl |rfl |rfl |rfl<;>rcases hA with rfl |rfl |rfl |rfl |rfl |rfl<;>rfl
theorem gl0:∀(ws:List W) (σ:WSt) (S:Sto) (P:WSt→Sto→Prop),zbE ws σ S P→ws.length=0:=λws σ S P h=>by
 cases ws with
 |nil=>rfl
 |cons _ _=>exact h.elim
theorem glS{i n:Nat}{u:WGs}(h:∀(ws:List W) (σ:WSt) (S:Sto) (P:WSt→Sto→Prop),u ws σ S P→ws.length=n):∀(ws:List W) (σ:WSt) (S:Sto) (P:WSt→Sto→Prop),zaq (wGN i) u ws σ S P→ws.length=n+1:=λws σ S P q=>by
 cases ws with
 |nil=>exact q.elim
 |cons w ws=>exact congrArg (· +1) (h _ _ _ _ q)
noncomputable def zaU:WSp:=λ_ _ _ _=>False
theorem zxY{P:aE}{w:aC}{K:aj}{mg:Str→Option Value}{base:Heap}{f:Addr}{fd:bG}{ps:List Str}{k:Nat}:FnOk P w K mg base (CX1 P w) k f fd ps (zdn K zaU):=
 ⟨λvs H Q E ⟨_,_,_,_,_,_,h,_⟩=>h.elim,λA outer s H args us vs Q E _ _ _ _ ⟨_,_,_,_,_,_,h,_⟩=>h.elim⟩
section
variable {X:Cx}{a b:Expr}{pos:aB}{ta tb:WE}{la lb:WL}
noncomputable def zsT (t:WL) (u:WE):WE:=λE σ S Q=>t E σ S λws S1=>u E σ S1 λy S2=>match y with
 | .int i=>match atI ws i with
  |some w=>Q w S2
  |none=>False
 |_=>False
theorem zjX (ha:JL X a la) (hb:JE X b tb) (hs:zmo b:=by intro _ _;rfl):JE X (.Subscript a b pos) (zsT la tb):=λE hE=>
 (zxU ztT (ha E hE) (hb E hE) hs).mono λσ H Q ⟨σW,S,QW,hσ,hS,ht,hQ⟩=>⟨σW,S,_,hσ,hS,ht,λws S1 vs p H1 e1 fp ep np r1 hS1 h1=>⟨σW,S1,_,hσ.ext e1,hS1,h1,λy S2 v2 H2 e2 r2 hS2 h2=>by
  cases r2 with
  |int i=>
   dsimp only at h2;split at h2
   ·obtain⟨v,ev,r⟩:=zlP (r1.ext e2) ‹_›;exact .inl ⟨p,vs,i,v,rfl,rfl, .of (e2.fr p _ ep np).1,ev,hQ _ S2 _ H2 (e1.trans e2) r hS2 h2⟩
   ·exact h2.elim
  |_=>exact h2.elim⟩⟩
noncomputable def zsb (t:WE) (u:WL):WL:=λE σ S Q=>t E σ S λx S1=>u E σ S1 λys S2=>match x with
 | .ref a=>zcE S2 a λxs=>xs.length+ys.length≤sizeLine∧Q (xs++ys) S2
 |_=>False
noncomputable def zow (t u:WL):WL:=λE σ S Q=>t E σ S λxs S1=>u E σ S1 λys S2=>xs.length+ys.length≤sizeLine∧Q (xs++ys) S2
noncomputable def zps (t:WL) (u:WE):WL:=λE σ S Q=>t E σ S λxs S1=>u E σ S1 λy S2=>match y with
 | .ref a=>zcE S2 a λys=>xs.length+ys.length≤sizeLine∧Q (xs++ys) S2
 |_=>False
theorem zpg (ha:JE X a ta) (hb:JL X b lb):JL X (.BinOp a .Add b pos) (zsb ta lb):=λE hE=>
 (zpZ znf (ha E hE) (hb E hE)).mono λσ H Q ⟨σW,S,QW,hσ,hS,ht,hQ⟩=>⟨σW,S,_,hσ,hS,ht,λw1 S1 v1 H1 e1 r1 hS1 h1=>⟨σW,S1,_,hσ.ext e1,hS1,h1,λys S2 us q H2 e2 fq eq nq r2 hS2 h2=>by
  cases r1 with
  |ref p=>
   obtain⟨xs,ea,h⟩:=zbn h2;obtain⟨vs,f1,q1⟩:=hS2 p _ ea;exact⟨p,q,vs,us,rfl,rfl,f1,eq,by rw[←q1.length,←r2.length];exact h.1,λp hp=>hQ _ S2 _ p _ ((e1.trans e2).trans (.new hp)) ((e1.trans e2).free hp) zay (hS2.free hp) ((q1.append r2).ext (.new (S:=S2) hp)) (hS2.new hp) h.2⟩
  |_=>exact h2.elim⟩⟩
theorem zlF (ha:JL X a la) (hb:JL X b lb):JL X (.BinOp a .Add b pos) (zow la lb):=λE hE=>
 (zpZ znf (ha E hE) (hb E hE)).mono λσ H Q ⟨σW,S,QW,hσ,hS,ht,hQ⟩=>⟨σW,S,_,hσ,hS,ht,λxs S1 vs p H1 e1 fp ep np r1 hS1 h1=>⟨σW,S1,_,hσ.ext e1,hS1,h1,λys S2 us q H2 e2 fq eq nq r2 hS2 h2=>
  ⟨p,q,vs,us,rfl,rfl,(e2.fr p _ ep np).1,eq,by rw[←r1.length,←r2.length];exact h2.1,λz hz=>hQ _ S2 _ z _ ((e1.trans e2).trans (.new hz)) ((e1.trans e2).free hz) zay (hS2.free hz) (((r1.ext e2).append r2).ext (.new (S:=S2) hz)) (hS2.new hz) h2.2⟩⟩⟩
theorem zqk (ha:JL X a la) (hb:JE X b tb):JL X (.BinOp a .Add b pos) (zps la tb):=λE hE=>
 (zpZ znf (ha E hE) (hb E hE)).mono λσ H Q ⟨σW,S,QW,hσ,hS,ht,hQ⟩=>⟨σW,S,_,hσ,hS,ht,λxs S1 vs p H1 e1 fp ep np r1 hS1 h1=>⟨σW,S1,_,hσ.ext e1,hS1,h1,λy S2 v2 H2 e2 r2 hS2 h2=>by
  cases r2 with
  |ref q=>
   obtain⟨ys,ea,h⟩:=zbn h2;obtain⟨us,f2,q2⟩:=hS2 q _ ea;exact⟨p,q,vs,us,rfl,rfl,(e2.fr p _ ep np).1,f2,by rw[←r1.length,←q2.length];exact h.1,λz hz=>hQ _ S2 _ z _ ((e1.trans e2).trans (.new hz)) ((e1.trans e2).free hz) zay (hS2.free hz) (((r1.ext e2).append q2).ext (.new (S:=S2) hz)) (hS2.new hz) h.2⟩
  |_=>exact h2.elim⟩⟩
noncomputable def zti (t:WL) (u:WE):WL:=λE σ S Q=>t E σ S λxs S1=>u E σ S1 λy S2=>match y with
 | .int k=>(-(2 ^ 63)≤k∧k<2 ^ 63∧xs.length*k.toNat≤sizeLine)∧Q (aN k.toNat xs).flatten S2
 |_=>False
theorem Reps.rep{K:aj}{H:Hp}{ws:List W}{vs:List V}(h:Reps K H ws vs):∀k:Nat,Reps K H (aN k ws).flatten (aN k vs).flatten
 |0=> .nil
 |k+1=>by
  rw[cb,cb,dJ,dJ];exact h.append (Reps.rep h k)
theorem zxf (ha:JL X a la) (hb:JE X b tb):JL X (.BinOp a .Mult b pos) (zti la tb):=λE hE=>
 (zpZ zzh (ha E hE) (hb E hE)).mono λσ H Q ⟨σW,S,QW,hσ,hS,ht,hQ⟩=>⟨σW,S,_,hσ,hS,ht,λxs S1 vs p H1 e1 fp ep np r1 hS1 h1=>⟨σW,S1,_,hσ.ext e1,hS1,h1,λy S2 v2 H2 e2 r2 hS2 h2=>by
  cases r2 with
  |int k=>
   obtain⟨⟨k1,k2,k3⟩,h⟩:=h2;exact⟨p,k,vs,rfl,rfl,(e2.fr p _ ep np).1,k1,k2,by rw[←r1.length];exact k3,λz hz=>hQ _ S2 _ z _ ((e1.trans e2).trans (.new hz)) ((e1.trans e2).free hz) zay (hS2.free hz) (((r1.ext e2).rep k.toNat).ext (.new (S:=S2) hz)) (hS2.new hz) h⟩
  |_=>exact h2.elim⟩⟩
end
theorem ztb{K:aj}{H:Hp}{a:Addr}{ns:List Int}{c:WSp}{E:XK}(hO:zzw H) (hS:SqL K H a (ns.map V.int)) (h:c [.scr ns] (λ_=>none) (λw _=>w= .bl true) (λ_ _=>False)):zdn K c [.ref a] H (λv _=>v= .bl true) E:=by
 have fz:FzL K H a (ns.map V.int):=by
  rcases hS with(hS |⟨o,hS⟩) |hS
  ·rcases hO a with z |⟨o,xs,z⟩
   ·rw[hS]at z;cases z
   ·rw[hS]at z;cases z
  ·exact .inl ⟨o,hS⟩
  ·exact .inr hS
 refine⟨[.scr ns],λ_=>none,_,λ_ _=>False, .one (.scr fz),(λa o e=>by cases e),h,λw S v H' e r hS' q=>?_,λ_ _ _ _ _ _ z=>z.elim⟩
 subst q;cases r;rfl
section
noncomputable def zBk:W2
 | .tup xs, .int k,S,Q=>(xs≠ []∧ -(2 ^ 63)≤k∧k<2 ^ 63∧xs.length*k.toNat≤sizeLine)∧Q (.tup (aN k.toNat xs).flatten) S
 |_,_,_,_=>False
end
noncomputable def zgr (kvs:List (List Int×W)) (k:List Int):Option W:=(kvs.find? λkv=>decide (kv.1=k)).map (·.2)
noncomputable def zvy (kvs:List (List Int×W)) (k:List Int) (v:W):List (List Int×W):=
 if(kvs.any λkv=>decide (kv.1=k))=true then kvs.map (λkv=>if kv.1=k then(kv.1,v) else kv) else kvs++[(k,v)]
noncomputable def zcy:List W→Option (List Int)
 | []=>ae []
 | .int i::ws=>(zcy ws).map (i:: ·)
 |_=>none
noncomputable def zpF:W→Option (List Int)
 | .tup ws=>zcy ws
 |_=>none
def zsA (S:Sto) (a:Addr) (P:List (List Int×W)→Prop):Prop:=match S a with
 |some (.dct kvs)=>P kvs
 |_=>False
theorem zuR{S:Sto}{a:Addr}{P:List (List Int×W)→Prop}(h:zsA S a P):∃kvs,S a=ae (.dct kvs)∧P kvs:=by
 unfold zsA at h;split at h
 ·exact⟨_, ‹_›,h⟩
 ·exact h.elim
theorem zlI{S:Sto}{a:Addr}{kvs:List (List Int×W)}{P:List (List Int×W)→Prop}(e:S a=ae (.dct kvs)):zsA S a P=P kvs:=by unfold zsA;rw[e]
section
variable {K:aj}{H:Hp}
noncomputable abbrev RepD (K:aj) (H:Hp):List (List Int×W)→List (List Key×V)→Prop:=aP λq p=>p.1=q.1.map Sum.inl∧Rep K H q.2 p.2
theorem zjn:∀{a b:List Int},a.map (Sum.inl:Int→Key)=b.map Sum.inl→a=b
 | [],[],_=>rfl
 | [],_::_,h=>by simp at h
 |_::_,[],h=>by simp at h
 |x::xs,y::ys,h=>by
  simp only[ay,fI,Sum.inl.injEq]at h;rw[h.1,zjn h.2]
theorem RepD.val{kvs:List (List Int×W)}{ps:List (List Key×V)}(r:RepD K H kvs ps) (k:List Int):(∀w,zgr kvs k=ae w→ ∃v,zjF ps (k.map Sum.inl)=ae v∧Rep K H w v)∧(zgr kvs k=none→zjF ps (k.map Sum.inl)=none):=by
 induction r with
 |nil=>exact⟨λw h=>by simp [zgr]at h,λ_=>rfl⟩
 | @cons q p kvs ps h t ih=>
  by_cases hk:q.1=k
  ·have e:p.1=k.map Sum.inl:=by rw[h.1,hk]
   rw[zfm e];have ew:zgr (q::kvs) k=ae q.2:=by simp [zgr,bM,hk]
   rw[ew];exact⟨λw z=>by cases z;exact⟨_,rfl,h.2⟩,λz=>by cases z⟩
  ·have e:¬p.1=k.map Sum.inl:=by rw[h.1];exact λz=>hk (zjn z)
   rw[zfQ e];have ew:zgr (q::kvs) k=zgr kvs k:=by simp [zgr,bM,hk]
   rw[ew];exact ih
theorem RepD.any{kvs:List (List Int×W)}{ps:List (List Key×V)}(r:RepD K H kvs ps) (k:List Int):(ps.any λkv=>decide (kv.1=k.map Sum.inl))=kvs.any λkv=>decide (kv.1=k):=by
 induction r with
 |nil=>rfl
 | @cons q p kvs ps h t ih=>
  rw[cU,cU,ih];congr 1;apply decide_eq_decide.mpr;rw[h.1];exact⟨zjn,λz=>by rw[z]⟩
theorem RepD.put{kvs:List (List Int×W)}{ps:List (List Key×V)}(r:RepD K H kvs ps) (k:List Int) {w:W}{v:V}(rw':Rep K H w v):RepD K H (zvy kvs k w) (zhY ps (k.map Sum.inl) v):=by
 unfold zvy zhY;rw[r.any k];split
 ·rename_i hany;clear hany
  induction r with
  |nil=>exact .nil
  | @cons q p kvs ps h t ih=>
   rw[ay,ay];refine .cons ?_ ih;by_cases hk:q.1=k
   ·rw[if_pos hk,if_pos (by rw[h.1,hk])];exact⟨h.1,rw'⟩
   ·rw[if_neg hk,if_neg (by rw[h.1];exact λz=>hk (zjn z))];exact h
 ·rename_i hany;clear hany
  induction r with
  |nil=>exact .cons ⟨rfl,rw'⟩ .nil
  |cons h t ih=>exact .cons h ih
theorem RepD.length{kvs:List (List Int×W)}{ps:List (List Key×V)}(r:RepD K H kvs ps):kvs.length=ps.length:=dD r
theorem ziy:∀{ws:List W}{vs:List V}{k:List Int},Reps K H ws vs→zcy ws=ae k→vs=(k.map (Sum.inl:Int→Key)).map kV
 | [],_,_, .nil,e=>by cases e;rfl
 |w::ws,_,k, .cons r rs,e=>by
  cases r with
  |int i=>
   cases q:zcy ws with
   |none=>simp [zcy,q]at e
   |some ks=>
    simp only[zcy,q,eE,bC]at e;subst e;rw[ziy rs q];rfl
  |_=>simp [zcy]at e
theorem znm{w:W}{v:V}{k:List Int}(r:Rep K H w v) (e:zpF w=ae k):∃b,v= .ref b∧H b=ae (.tup ((k.map (Sum.inl:Int→Key)).map kV)):=by
 cases r with
 |tup f hs=>exact⟨_,rfl,by rw[f,ziy hs e]⟩
 |_=>simp [zpF]at e
theorem zuQ{S:Sto}{a:Addr}{kvs:List (List Int×W)}{y:V}{wy:W}{k:List Int}(hS:RepS K H S) (e:S a=ae (.dct kvs)) (ry:Rep K H wy y) (ek:zpF wy=ae k):∃o,DGet H a y o∧(zgr kvs k=none→o=none)∧ ∀w,zgr kvs k=ae w→ ∃v,o=ae v∧Rep K H w v:=by
 obtain⟨ps,e1,r⟩:=hS a _ e;obtain⟨b,rfl,eb⟩:=znm ry ek;have rv:=RepD.val r k;exact⟨zjF ps (k.map Sum.inl), .t e1 eb,rv.2,rv.1⟩
end
noncomputable def zyb (neg:Bool):W2:=λy x S Q=>match x with
 | .ref a=>match zpF y with
  |some k=>zsA S a λkvs=>Q (.bl (if neg then !(zgr kvs k).isSome else(zgr kvs k).isSome)) S
  |none=>False
 |_=>False
noncomputable def zAG:W2:=λx y S Q=>match x with
 | .ref a=>match zpF y with
  |some k=>zsA S a λkvs=>match zgr kvs k with
   |some w=>Q w S
   |none=>False
  |none=>False
 |_=>False
section
variable {X:Cx}{a b o:Expr}{pos:aB}{ta tb:WE}
noncomputable def zBu (neg:Bool):R2:=λy x H Q=>∃a o,x= .ref a∧DGet H a y o∧Q (.bl (if neg then !o.isSome else o.isSome)) H
theorem zzi (hu:X.A.units+1<cLine):OpR X (bH .In) (zBu false):=by
 intro pins s σ H x y v u Q I rx ry h;obtain⟨a,o,rfl,g,q⟩:=h;cases ry;exact zBF hu I g rx λs3 I3=>⟨.bl o.isSome,H,I3,rfl,q⟩
theorem zwx{K:aj}{neg:Bool}:OpW K (zBu neg) (zyb neg):=λH x y wx wy S Q QW rx ry hS h hQ=>by
 unfold zyb at h;split at h
 ·split at h
  ·rename_i k ek;obtain⟨kvs,ea,h⟩:=zuR h;cases ry;obtain⟨o,g,g0,g1⟩:=zuQ hS ea rx ek;have eo:o.isSome=(zgr kvs k).isSome:=by
    cases q:zgr kvs k with
    |none=>rw[g0 q];rfl
    |some w=>obtain⟨v,ev,_⟩:=g1 w q;rw[ev];rfl
   exact⟨_,o,rfl,g,by rw[eo];exact hQ _ S _ H .refl (.bl _) hS h⟩
  ·exact h.elim
 ·exact h.elim
theorem zxD{k:Nat}(hr:Room k X.A) (ha:JE X a ta) (hb:JE X b tb) (hm:c6 .In b=false:=by with_unfolding_all rfl):JT X (.Compare a [.In] [b] pos) (wTb (wOp (zyb false) ta tb)):=
 zfu (zzi (by have:=hr.units;omega)) zwx ha hb hm
end
section
variable {X:Cx}{o e:Expr}{to:WE}{tl:WL}{apos cpos p pos:aB}
def ztR:V→List V→Hp→VK→Prop:=λx vs H Q=>∃z:Str,x= .str z∧vs=[]∧z.length≤5592405∧Q (.str (dL z)) H
theorem zrZ:MtR X "str.upper" ztR:=by
 intro pins s σ H x vs v us Q I rx rv h;obtain⟨z,rfl,rfl,hz,q⟩:=h;obtain⟨t,rfl⟩:=rx;cases rv;exact SCL.upper hz λ_=>⟨.str (dL z),H,I.tok _,⟨_,rfl⟩,q⟩
noncomputable def znd:WMf:=λw ws S Q=>match w,ws with
 | .str z,[]=>z.length≤5592405∧Q (.str (dL z)) S
 |_,_=>False
theorem zrr{K:aj}:MtW K ztR znd:=λH x w vs ws S Q QW r rs hS h hQ=>by
 cases r with
 |str z=>
  cases rs with
  |nil=>exact⟨z,rfl,rfl,h.1,hQ _ S _ H .refl (.str _) hS h.2⟩
  |cons _ _=>exact h.elim
 |_=>exact h.elim
theorem ztj (ho:JE X o to) (hbase:cT o "upper" X.env (az o X.env)=az o X.env:=by rfl) (hline:(apos.endLine == cpos.line)=true:=by rfl):JE X (.Call (.Attribute o "upper" apos) [] [] cpos) (wM rvS znd to waNil):=
 zAP kG PySem.F.slot_str_upper PySem.F.type_str_upper ztL zrZ zrr ho hbase hline
theorem zgU:∀(ns:List Int) (n:Nat),n≤ns.length→gf (λi=>ns.getD i 0) n=(ns.take n).sum
 |ns,0,_=>by simp [gf]
 |ns,n+1,h=>by
  rw[gf,zgU ns n (by omega),j5,List.sum_append];congr 1;rw[bv,a_ (by omega)];simp
theorem zqv (hc:X.calm=true):CallR X (.builtin "sum") (λxs H Q=>∃(p:Addr) (ns:List Int),xs=[.ref p]∧SqL X.K H p (ns.map V.int)∧Q (.int ns.sum) H):=by
 intro pins s σ H xs us Q I r h;obtain⟨p,ns,rfl,hq,q⟩:=h;obtain⟨u,rfl,rx⟩:=zkF r;cases rx;obtain⟨its,r',pl,hz⟩:=I.list hq;have hlen:ns.length=its.length:=by have:=r'.length;rw[ax]at this;exact this
 have hp:p<s.heap.objs.size:=by obtain⟨o,n,e,_⟩:=pl;exact aK e
 have hd:X.A.in1.handled=none:=I.ok.hd hc;have get:∀(i:Nat) (v:Value),its.toArray[i]? =ae v→ ∃t,v= .int (ns.getD i 0) t:=λi v e=>by
  have e':its[i]? =ae v:=by simpa using e
  have hi:i<ns.length:=by rw[hlen];exact(cf.mp e').1
  obtain⟨u,hu,ru⟩:=r'.get (i:=i) (x:= .int (ns.getD i 0)) (by rw[bj,a_ hi,bv,a_ hi];rfl);rw[e']at hu;cases hu;exact ru
 refine call_sum_walkG (fS pl.isList ?_);refine⟨s.heap.objs.size,_,_,_,_,_,λi=>ns.getD i 0,rfl,eL.list hd _ p (bA hp) its.toArray,⟨⟨_,bt _ rfl,rfl,rfl⟩,pl.isList.push _⟩,?_,λi v hP=>get i v hP,λh' tk t' hk=>?_⟩
 ·intro b hb;have hsz:∀o:Obj,(s.heap.push o).objs.size=s.heap.objs.size+1:=λo=>cJ ..;simp only[aA,bi,or_false]at hb;show b<(s.heap.push _).objs.size;rw[hsz];rcases hb with rfl |rfl
  ·exact Nat.lt_succ_self _
  ·exact Nat.lt_succ_of_lt hp
 ·have e:gf (λi=>ns.getD i 0) its.toArray.size=ns.sum:=by
   rw[aU,←hlen,zgU ns _ (ap _),gx]
  have I1:Inv X pins σ H { s with heap:=h',toks:=tk }:=I.kept λb o e=>hk b o (λz=>by
   have z':b=s.heap.objs.size:=by simpa using z
   rw[z']at e;exact absurd (aK e) (cQ _)) (aJ _ e)
  exact⟨.int _,H,I1,⟨t',by rw[e]⟩,q⟩
noncomputable def zrA:WF:=λws S Q=>match zcy ws with
 |some ns=>Q (.int ns.sum) S
 |none=>False
theorem zgY{K:aj}{H:Hp}:∀{ws:List W}{vs:List V}{ns:List Int},Reps K H ws vs→zcy ws=ae ns→vs=ns.map V.int
 | [],_,_, .nil,e=>by cases e;rfl
 |w::ws,_,ns, .cons r rs,e=>by
  cases r with
  |int i=>
   cases q:zcy ws with
   |none=>simp [zcy,q]at e
   |some ks=>
    simp only[zcy,q,eE,bC]at e;subst e;rw[zgY rs q];rfl
  |_=>simp [zcy]at e
theorem zpx{K:aj}:zrO K (λxs H Q=>∃(p:Addr) (ns:List Int),xs=[.ref p]∧SqL K H p (ns.map V.int)∧Q (.int ns.sum) H) zrA:=λH a vs ws S Q QW ea na r hS h hQ=>by
 unfold zrA at h;split at h
 ·rename_i ns e;have:=zgY r e;subst this;exact⟨a,ns,rfl, .of ea,hQ _ S _ H .refl (.int _) hS h⟩
 ·exact h.elim
theorem zws (hg:Gl X "sum") (hm:X.mg "sum" =none) (ha:JL X e tl)
  (he:ao [e] X.env=(false,az e X.env)::ao [] X.env:=by rfl) (hpl:(aT pos (ao [] X.env)).any (·.1)=false:=by rfl) (hcl:X.calm=true:=by rfl):JE X (.Call (.Name "sum" p) [e] [] pos) (wBL zrA tl):=λE hE=>
 zwe (zqv hcl) zpx hg hm PyProof.Rows.boot_sum ha (by decide) (by decide) he hpl E hE
end
theorem zry:iw (.type "list") "keys" =pure none:=by rw[typeLookup_type,builtinLookup_eq_fast];kernel_rfl
theorem zjM:entryFor table "dict.update.loop" =ae b4.«dict.update.loop» :=entryFor_of_tree (by kernel_rfl)
theorem zfy:plainId "dict.update.loop" =true:=by decide +kernel
section
variable {prog:aE}{w:aC}{A:aQ}{E:Value→ah→Prop}{s:ah}
theorem zjk{a:Addr}{o:Obj}{xs:Array Value}{k:Nat}{name:Str}{Q:Option Value→ah→Prop}
  (hx : s.heap.get? a = ae o) (hc : o.cls = .type "list") (hdat : o.data = .seq xs k) (hd : o.dict = none) (hmiss : iw (.type "list") name = pure none) (hname : (["__module__", "__name__", "__qualname__", "__doc__", "__annotations__"] : List Str).contains name = false) (hA : A.handled = none)
  (h:∀h' tk,(∀b o,s.heap.get? b=ae o→h'.get? b=ae o)→Q none { s with heap:=h',toks:=tk }) (hsz:name.length+100≤sizeLine:=by size_fits) :
  am (aq prog w) A (getAttr? (.ref a) name) Q E s:=by
 obtain⟨c,dct,dat,sl⟩:=o;simp only at hc hdat hd;subst hc hdat hd;obtain⟨hp,g,d,tk,os⟩:=s;have hT:∀tk',(⟨hp,g,d,tk',os⟩:ah).TypeIs (.ref a) "list" :=λ_=>⟨_,hx,rfl⟩;have f1:=sub_AttributeError;have f3:=gw.lookup;have f4:=gw.bind (.ref a);have f5:=am_list_getattr_none;unfold getAttr? getAttrBy? getAttrBy
 repeat (any_goals (first |assumption |exact hT _ | ((with_reducible show am _ _ (call (Value.builtin "list.__getattribute__") _ _) _ _ _);refine eA gw (hT _) am_entry_list_getattribute (F.args_list_getattribute_2 _ _) (meets_getattribute_miss_list a xs k sl name _ hmiss hname hsz) ⟨hx,hA,λh' tk' e hx'=>?_⟩) |wp_step))
 obtain⟨t',u',he⟩:=hx'.there;have hTe:∀tk',(⟨h',g,d,tk',os⟩:ah).TypeIs (.ref e) "AttributeError" :=λ_=>⟨_,he,rfl⟩;show am _ _ (jd _ _ _ _ _ _ _) _ _ _;unfold jd
 repeat (any_goals (first |assumption |exact hTe _ |wp_step))
 exact h h' tk' hx'.keeps
end
section
variable {prog:aE}{w:aC}{A:aQ}{R:Result→ah→Prop}{I l d:Addr}{items:Array Value}
noncomputable def zvO (xs:List (List Key×Addr×Value)) (ps:List (List Key×Addr)):List (List Key×Addr×Value):=ps.foldl (λxs p=>fu xs p.1 p.2 (.bool true)) xs
theorem zoy (hu:(b7 (zbd prog w)).room A.in1) (hh:A.in1.handled=none) (hne:l≠I) (hdI:d≠I) (hdl:d≠l) (h0:Heap) (hd0:h0.get? d=none) (hI0:h0.get? I=none) (ps:List (List Key×Addr)) (hps:ps.length=items.size)
  (hp:∀(i:Nat) (p:List Key×Addr) (v:Value),ps[i]? =ae p→items[i]? =ae v→ ∃(t:Addr) (o:Obj) (n:Nat),v= .ref t∧h0.get? t=ae o∧o.cls= .type "tuple" ∧o.data= .seq #[.ref p.2, .bool true] n)
  (hk:∀p∈ps,(b7 (zbd prog w)).is h0 p.1 p.2) :
  ∀(k i:Nat) (s:ah) (xs:List (List Key×Addr×Value)),items.size - i=k→i≤items.size→s.heap.IsListIter I l i→s.heap.IsList l items→(∀b o,h0.get? b=ae o→s.heap.get? b=ae o)→s.heap.DictOfH (b7 (zbd prog w)) d xs→xs.length+(items.size - i)≤sizeLine→
  (∀h' tk,(∀b o,h0.get? b=ae o→h'.get? b=ae o)→h'.DictOfH (b7 (zbd prog w)) d (zvO xs (ps.drop i))→R (.ok (.ret .none)) { s with heap:=h',toks:=tk })→
  dN (aq prog w) A (.builtin "dict.update.loop" ⟨[.ref d, .ref I,cj i, .none],[]⟩) R s:=by
 have W:=eL.list (prog:=prog) (w:=w) (A:=A.in1) hh I l hne items;intro k
 induction k with
 |zero=>
  intro i s xs hki hi hit hl hold hd hsz hR;have hin:i=items.size:=by omega
  subst hin;refine i9 zjM ?_;rw[kq zfy _];show am _ A.in1 (b5 (.ref I) >>= _) _ _ s;refine ak (W.done s _ _ ⟨hit,hl⟩ λh' tk hk'=>?_);have hd':h'.DictOfH (b7 (zbd prog w)) d xs:=by
   obtain⟨q,es,ep,q1,q2,q3,q4,q5,q6⟩:=hd;refine⟨q,es,ep,hk' d q (λz=>hdI (bz.mp z)) q1,q2,q3,q4,λx hx=>?_,q6⟩;obtain⟨ob,its,m,k1,k2,k3,k4⟩:=q5 x hx;refine⟨ob,its,m,hk' _ _ (λz=>?_) k1,k2,k3,k4⟩;obtain⟨oi,hi1,hi2,_⟩:=hit;rw[bz.mp z,hi1]at k1;cases k1;rw[k2]at hi2;exact absurd hi2 (by decide)
  show am _ A.in1 (b4.Dict.addKeywords d [] >>= _) _ _ _;refine ak (aD (aD (hR h' tk (λb o e=>hk' b o (λz=>by rw[bz.mp z,hI0]at e;cases e) (hold b o e)) ?_)))
  rw[fh (by omega)];exact hd'
 |succ k ih=>
  intro i s xs hki hi hit hl hold hd hsz hR;have hlt:i<items.size:=by omega
  refine i9 zjM ?_;rw[kq zfy _];show am _ A.in1 (b5 (.ref I) >>= _) _ _ s;refine ak (W.item i s _ _ hlt ⟨hit,hl⟩ λv h' tk hP hst' hk'=>?_);obtain⟨p,hpi⟩:∃p,ps[i]? =ae p:=⟨ps[i],a_ (by omega)⟩;obtain⟨t,o,n,rfl,ho,hc,hdat⟩:=hp i p v hpi hP;have ho':=hk' t o (λz=>by rw[bz.mp z]at ho;rw[hI0]at ho;cases ho) (hold t o ho)
  have hkey:(b7 (zbd prog w)).is h' p.1 p.2:=by
   obtain⟨ob,its,m,k1,k2,k3,k4⟩:=hk p (aR hpi);exact⟨ob,its,m,hk' _ _ (λz=>by rw[bz.mp z]at k1;rw[hI0]at k1;cases k1) (hold _ _ k1),k2,k3,k4⟩
  have hd':h'.DictOfH (b7 (zbd prog w)) d xs:=by
   obtain⟨q,es,ep,q1,q2,q3,q4,q5,q6⟩:=hd;refine⟨q,es,ep,hk' d q (λz=>hdI (bz.mp z)) q1,q2,q3,q4,λx hx=>?_,q6⟩;obtain⟨ob,its,m,k1,k2,k3,k4⟩:=q5 x hx;refine⟨ob,its,m,hk' _ _ (λz=>?_) k1,k2,k3,k4⟩;obtain⟨oi,hi1,hi2,_⟩:=hit;rw[bz.mp z,hi1]at k1;cases k1;rw[k2]at hi2;exact absurd hi2 (by decide)
  show am _ A.in1 (holding [.ref t] _ >>= _) _ _ _;refine ak (fP ?_);refine ak (wpAny_tryCatch ?_);unfold b4.Dict.pairItems;refine ak (fx (T:= "tuple") ⟨o,ho',hc⟩ ?_);rw[if_pos (by decide)];refine ak (cZ ho' hdat ?_);refine aD ?_;show am _ A.in1 (holding [.ref p.2, .bool true] (dictSet d (.ref p.2) (.bool true))) _ _ _;refine fP (wpAny_dictSet_heap (hsz:=by omega) hu hkey hd' λh2 hd2 hs2=>?_)
  refine aD ⟨plainId_quiet zfy _,?_⟩;have ei:((i:Int)+1)=((i+1:Nat):Int):=by omega
  rw[ei];have hln:(fu xs p.1 p.2 (d7 true)).length≤xs.length+1:=by
   unfold fu;split<;>simp
  have hst2:=W.frame (i+1) h' h2 hst' λb hb o e=>by
   have hbd:b≠d:=by
    rcases aA.mp hb with z |z
    ·rw[z];exact bu hdI
    ·rw[bz.mp z];exact bu hdl
   exact(hs2.2 b hbd).trans e
  refine ih (i+1) _ _ (by omega) (by omega) hst2.1 hst2.2 (λb o e=>?_) hd2 (by omega) λh3 tk3 old3 hd3=>?_
  ·have hbd:b≠d:=λz=>by rw[z,hd0]at e;cases e
   have hbI:b∉ [I]:=λz=>by rw[bz.mp z,hI0]at e;cases e
   exact(hs2.2 b hbd).trans (hk' b o hbI (hold b o e))
  ·refine hR h3 tk3 old3 ?_;have ed:ps.drop i=p::ps.drop (i+1):=by
    have hi':i<ps.length:=by omega
    rw[eS hi'];rw[a_ hi']at hpi;cases hpi;rfl
   rw[ed];exact hd3
end
section
variable {X:Cx}{e:Expr}{p pos:aB}{tl:WL}
def zmQ (H:Hp) (q:List Key) (v:V):Prop:=∃t b,v= .ref t∧H t=ae (.tup [.ref b, .bl true])∧H b=ae (.tup (q.map kV))
noncomputable def zoq (qs:List (List Key)):List (List Key×V):=qs.foldl (λkvs q=>zhY kvs q (.bl true)) []
theorem zjN:∀(qs:List (List Key)) (kvs:List (List Key×V)),(qs.foldl (λkvs q=>zhY kvs q (V.bl true)) kvs).length≤kvs.length+qs.length
 | [],kvs=>by simp
 |q::qs,kvs=>by
  have h1:=zfe kvs q (V.bl true);have h2:=zjN qs (zhY kvs q (.bl true));rw[dY,aO];omega
theorem KT.fold{H:Hp}:∀(ps:List (List Key×Addr)) {kvs:List (List Key×V)}{xs:List (List Key×Addr×Value)},KT H kvs xs→(∀p∈ps,H p.2=ae (.tup (p.1.map kV)))→KT H ((ps.map λp=>p.1).foldl (λkvs q=>zhY kvs q (.bl true)) kvs) (zvO xs ps)
 | [],_,_,r,_=>r
 |p::ps,kvs,xs,r,h=>by
  rw[ay,dY];exact KT.fold ps (r.put p.1 (h p aV) rfl) λp' hp'=>h p' (aI _ hp')
theorem znc{P:aE}{w:aC}{H:Hp}{h:Heap}(ok:HOk P w H h):∀{qs:List (List Key)}{vs:List V}{its:List Value},aP (zmQ H) qs vs→Vals vs its→ ∃ps:List (List Key×Addr),(ps.map λp=>p.1)=qs∧
  (∀(i:Nat) (p:List Key×Addr) (v:Value),ps[i]? =ae p→its[i]? =ae v→ ∃(t:Addr) (o:Obj) (n:Nat),v= .ref t∧h.get? t=ae o∧o.cls= .type "tuple" ∧o.data= .seq #[.ref p.2, .bool true] n)∧ ∀p∈ps,H p.2=ae (.tup (p.1.map kV))
 |_,_,_, .nil, .nil=>⟨[],rfl,(λi p v h=>by simp at h),λ_ h=>nomatch h⟩
 |_,_,_, .cons (a:=q) hq hs, .cons hv hvs=>by
  obtain⟨ps,e,h1,h2⟩:=znc ok hs hvs;obtain⟨t,b,rfl,ht,hb⟩:=hq;refine⟨(q,b)::ps,by rw[ay,e],λi p v hp hv'=>?_,λp hp=>?_⟩
  ·cases i with
   |zero=>
    simp only[eP,bC]at hp hv';subst hp hv';obtain⟨_,its,r,o,g1,g2,n,g3⟩:=(show ObjOk P w H h t (.tup [.ref b, .bl true]) from ok t _ ht);cases r with
    |cons r1 r2=>
     cases r2 with
     |cons r3 r4=>
      cases r4;cases r1;cases r3;exact⟨t,o,n,hv,g1,g2,by simpa using g3⟩
   |succ i=>
    simp only[cg]at hp hv';exact h1 i p v hp hv'
  ·rcases aA.mp hp with rfl |hp
   ·exact hb
   ·exact h2 p hp
theorem zot (hc:X.calm=true) (hu:X.A.units+2<cLine):CallR X (.type "dict") (λxs H Q=>∃(l:Addr) (vs:List V) (qs:List (List Key)),xs=[.ref l]∧SqL X.K H l vs∧aP (zmQ H) qs vs∧qs.length≤sizeLine∧ ∀d,H d=none→Q (.ref d) (upd H d (.dT (zoq qs)))):=by
 intro pins s σ H xs us Q I r h;obtain⟨l,vs,qs,rfl,hq,hp,hlen,q⟩:=h;obtain⟨u,rfl,rx⟩:=zkF r;cases rx;obtain⟨its,r',pl,hz⟩:=I.list hq;have hd:X.A.in1.handled=none:=I.ok.hd hc;have hl:l<s.heap.objs.size:=by obtain⟨o,n,e,_⟩:=pl;exact aK e
 refine callType_codes (Q₁:=λobj s₁=>obj= .ref s.heap.objs.size∧s₁={ s with heap:=s.heap.push { cls:= .type "dict",data:= .dict #[] } }) F.kt_called_dict (F.kt_typeCall_dict_1 _) F.entry_dict_init (kt_code_dict_new _ ⟨rfl,rfl⟩) ?_;rintro obj s₁ ⟨rfl,rfl⟩;have hT:({ s with heap:=s.heap.push { cls:= .type "dict",data:= .dict #[] } }:ah).TypeIs (.ref s.heap.objs.size) "dict" :=⟨_,bt _ rfl,rfl⟩;refine⟨hT,F.args_dict_init_2 _ _,?_⟩;unfold b4.«dict.__init__»;refine ak ?_;unfold b4.Dict.selfAndRest;refine ak (wpAny_notOrdered_dict hT ?_);show am _ _ (pure (s.heap.objs.size,[bc l])) _ _ _;refine aD ?_;show am _ _ (jG "dict.__init__" s.heap.objs.size (.ref l) [] .none) _ _ _;unfold jG;obtain⟨ol,nl,hol,hcl,hdl,hnl⟩:=pl;have hol1:=aJ { cls:= .type "dict",data:= .dict #[] } hol;obtain⟨ps,eqs,hps,hks⟩:=znc I.hok hp r';have hplen:ps.length=its.toArray.size:=by
  have h1:=congrArg db eqs;have h2:=dD hp;have h3:=r'.length;rw[ax]at h1;rw[aU];omega
 refine ak (fx (T:= "list") ⟨ol,hol1,hcl⟩ ?_);dsimp only;rw[if_pos (by decide)];refine ak (zjk hol1 hcl hnl hdl zry (by decide +kernel) hd λh1 tk1 kp1=>?_);rw[if_pos (show(none:Option Value).isNone=true from rfl)];refine ak (eG ?_);have hl1:h1.IsList l its.toArray:=⟨ol,kp1 _ _ hol1,hcl,nl,hnl⟩;refine ak (fS hl1 ?_);refine aD ⟨plainId_quiet zfy _,?_⟩;have hd1:h1.get? s.heap.objs.size=ae { cls:= .type "dict",data:= .dict #[] }:=kp1 _ _ (bt _ rfl);have hdlt:=aK hd1;have hI0:s.heap.get? h1.objs.size=none:=by
  cases z:s.heap.get? h1.objs.size with
  |none=>rfl
  |some ob=>exact absurd (aK (kp1 _ _ (aJ _ z))) (cQ _)
 have hd0:s.heap.get? s.heap.objs.size=none:=by
  cases z:s.heap.get? s.heap.objs.size with
  |none=>rfl
  |some ob=>exact absurd (aK z) (cQ _)
 refine zoy (A:=X.A.in1) (I:=h1.objs.size) (l:=l) (d:=s.heap.objs.size) (items:=its.toArray) ?_ hd (bA (Nat.lt_trans hl hdlt)) (bA hdlt) (cK hl) s.heap hd0 hI0 ps hplen (λi p v h1 h2=>hps i p v h1 (by simpa using h2)) (λp hp=>zkm I.hok (hks p hp)) _ 0 _ [] rfl (aS _) ?_ ?_ ?_ ?_ ?_ λh' tk' old' hd'=>?_
 ·exact fX (A:=X.A.in1) (show X.A.in1.units+1<cLine from by have:X.A.in1.units=X.A.units+1:=rfl;omega)
 ·exact⟨_,bt _ rfl,rfl,rfl⟩
 ·exact hl1.push _
 ·exact λb o e=>aJ _ (kp1 _ _ (aJ _ e))
 ·refine⟨_, #[],0,aJ _ hd1,?_,rfl,rfl,(λx hx=>nomatch hx),i3⟩
  first |exact⟨rfl,rfl⟩ |exact rfl |exact .inl rfl | (unfold Obj.ExactDict;simp)
 ·rw[c5,←hplen];have h1:=congrArg db eqs;rw[ax]at h1;omega
 ·rw[cG]at hd';obtain⟨o',es,ep,g1,g2,g3,g4,g5,g6⟩:=hd';have hl0:=zjN qs [];have kt:KT H (zoq qs) (zvO [] ps):=by
   have:=KT.fold ps (show KT H [] [] from .nil) hks;rw[eqs]at this;exact this
  refine⟨rfl, .ref s.heap.objs.size,_,I.laid (t':=tk') (o:= .dT (zoq qs)) old' (ap _) ⟨?_,?_,_,kt.keeps λb ys eb=>?_,o',es,ep,g1,g2,g3,g4,g6⟩,rfl,q _ (I.hok.fresh (ap _))⟩
  ·simp only[c5,bO]at hl0;exact a9 hl0 hlen
  ·have:=I.big;exact beq_eq_false_iff_ne.mpr (cK this)
  ·rw[zaz (zau eb (I.hok.fresh (ap _)))];exact eb
noncomputable def zeL:List W→Option (List (List Int))
 | []=>ae []
 | .tup [k, .bl true]::ws=>match zpF k,zeL ws with
  |some q,ae qs=>ae (q::qs)
  |_,_=>none
 |_=>none
noncomputable def zia (qs:List (List Int)):List (List Int×W):=qs.foldl (λkvs k=>zvy kvs k (.bl true)) []
noncomputable def zkQ:WF:=λws S Q=>match zeL ws with
 |some qs=>qs.length≤1000000∧ ∀a,S a=none→Q (.ref a) (put S a (.dct (zia qs)))
 |none=>False
theorem zld{K:aj}{H:Hp}:∀{ws:List W}{vs:List V}{qs:List (List Int)},Reps K H ws vs→zeL ws=ae qs→aP (zmQ H) (qs.map λq=>q.map Sum.inl) vs
 | [],_,_, .nil,e=>by
  simp only[zeL,bC]at e;subst e;exact .nil
 |w::ws,_,qs, .cons r rs,e=>by
  cases w with
  |tup us=>
   rcases us with _ |⟨k,_ |⟨b,_ |⟨x,us⟩⟩⟩
   ·simp [zeL]at e
   ·simp [zeL]at e
   ·cases b with
    |bl b=>
     cases b with
     |true=>
      simp only[zeL]at e;cases e1:zpF k with
      |none=>rw[e1]at e;simp at e
      |some q=>
       cases e2:zeL ws with
       |none=>rw[e1,e2]at e;simp at e
       |some qs'=>
        rw[e1,e2]at e;simp only[bC]at e;subst e;cases r with
        | @tup t vs' _ ft hs=>
         cases hs with
         |cons r1 r2=>
          cases r2 with
          |cons r3 r4=>
           cases r4;cases r3;obtain⟨b,rfl,eb⟩:=znm r1 e1;exact .cons ⟨t,b,rfl,ft,eb⟩ (zld rs e2)
     |false=>simp [zeL]at e
    |_=>simp [zeL]at e
   ·cases b<;>simp [zeL]at e
  |_=>simp [zeL]at e
theorem zjR{K:aj}{H:Hp}:∀(qs:List (List Int)) {kvs:List (List Int×W)}{ps:List (List Key×V)},RepD K H kvs ps→RepD K H (qs.foldl (λkvs k=>zvy kvs k (.bl true)) kvs) ((qs.map λq=>q.map Sum.inl).foldl (λkvs q=>zhY kvs q (.bl true)) ps)
 | [],_,_,r=>r
 |q::qs,_,_,r=>by
  rw[ay,dY,dY];exact zjR qs (r.put q (.bl true))
theorem zoD{K:aj}:zrO K (λxs H Q=>∃(l:Addr) (vs:List V) (qs:List (List Key)),xs=[.ref l]∧SqL K H l vs∧aP (zmQ H) qs vs∧qs.length≤sizeLine∧ ∀d,H d=none→Q (.ref d) (upd H d (.dT (zoq qs)))) zkQ:=λH a vs ws S Q QW ea na r hS h hQ=>by
 unfold zkQ at h;split at h
 ·rename_i qs e;have hp:=zld r e;refine⟨a,vs,_,rfl, .of ea,hp,?_,λd hd=>?_⟩
  ·rw[ax,dC];omega
  ·have rd:RepD K H (zia qs) (zoq (qs.map λq=>q.map Sum.inl)):=zjR qs (show RepD K H [] [] from .nil);have x:Ext H S (upd H d (.dT (zoq (qs.map λq=>q.map Sum.inl)))) (put S d (.dct (zia qs))):= .newS hd;refine hQ (.ref d) (put S d (.dct (zia qs))) (.ref d) _ x (.ref d) (λb o q=>?_) (h.2 d (hS.free hd));by_cases hb:b=d
   ·subst hb;rw[zag]at q;cases q;exact⟨_,zay,Paired.mapP rd λ_ _ z=>⟨z.1,z.2.ext x⟩⟩
   ·rw[zaD hb]at q;exact hS.new hd b o q
 ·exact h.elim
theorem zsG{k:Nat}(hr:Room k X.A) (hg:Gl X "dict") (hm:X.mg "dict" =none) (ha:JL X e tl)
  (he:ao [e] X.env=(false,az e X.env)::ao [] X.env:=by rfl) (hpl:(aT pos (ao [] X.env)).any (·.1)=false:=by rfl) (hcl:X.calm=true:=by rfl):JE X (.Call (.Name "dict" p) [e] [] pos) (wBL zkQ tl):=λE hE=>
 zuz (zot hcl (by have:=hr.units;omega)) zoD hg hm PyProof.Rows.boot_dict ha (by decide) (by decide) he hpl E hE
theorem _root_.pz{a b:Prop}(h:a→b) (g:b→a):a=b:=propext ⟨h,g⟩
theorem dztk{ws:List W}{S:Sto}{Q:WK}:(zkQ ws S Q)=(match zeL ws with
 |some qs=>qs.length≤1000000∧ ∀a,S a=none→Q (.ref a) (put S a (.dct (zia qs)))
 |none=>False):=rfl
noncomputable def ztk:=@dztk
theorem zkb:∀ps:List (List Int),zeL (ps.map λp=>W.tup [.tup (p.map W.int), .bl true])=ae ps
 | []=>rfl
 |p::ps=>by
  have e:zpF (.tup (p.map W.int))=ae p:=by
   show zcy (p.map W.int)=ae p
   induction p with
   |nil=>rfl
   |cons i p ih=>rw[ay,zcy,ih];rfl
  rw[ay,zeL,e,zkb ps]
theorem zta (kvs:List (List Int×W)) (q k:List Int) (v:W):(zgr (zvy kvs q v) k).isSome=(decide (k=q) || (zgr kvs k).isSome):=by
 have e:∀kvs:List (List Int×W),(zgr kvs k).isSome=kvs.any λkv=>decide (kv.1=k):=λkvs=>by
  unfold zgr;rw[ie]
  induction kvs with
  |nil=>rfl
  |cons a kvs ih=>
   rw[bM,cU];cases decide (a.1=k) with
   |true=>rfl
   |false=>simpa using ih
 rw[e,e];unfold zvy;split
 ·rename_i h;have:(kvs.map λkv=>if kv.1=q then(kv.1,v) else kv).any (λkv=>decide (kv.1=k))=kvs.any λkv=>decide (kv.1=k):=by
   rw[List.any_map];congr 1;funext kv;simp only[ib];split<;>rfl
  rw[this];by_cases hk:k=q
  ·subst hk;rw[h];simp
  ·rw[decide_eq_false hk,jx]
 ·rw[List.any_append];simp only[cU,List.any_nil,jE];rw[Bool.or_comm];congr 1;apply decide_eq_decide.mpr;exact eq_comm
theorem znL:∀(qs:List (List Int)) (kvs:List (List Int×W)) (k:List Int),(zgr (qs.foldl (λkvs k=>zvy kvs k (.bl true)) kvs) k).isSome=(decide (k∈qs) || (zgr kvs k).isSome)
 | [],kvs,k=>by simp
 |q::qs,kvs,k=>by
  rw[dY,znL qs,zta,←Bool.or_assoc];congr 1;rw[eU];simp only[km,decide_eq_true_eq,aA];exact or_comm
theorem zkI (qs:List (List Int)) (k:List Int):(zgr (zia qs) k).isSome=decide (k∈qs):=by
 unfold zia;rw[znL];simp [zgr]
end
section
variable {a:Expr}
theorem Reps.rev{K:aj}{H:Hp}:∀{ws:List W}{vs:List V},Reps K H ws vs→Reps K H ws.reverse vs.reverse
 |_,_, .nil=> .nil
 |_,_, .cons a b=>by
  rw[gz,gz];exact(Reps.rev b).append (.cons a .nil)
end
end L2
end
section
namespace L2
open PySem PySem.Spec PyProof.Rows PySem.W PySem.Calls Builtin Builtin.ObjectAttr Builtin.Getset_descriptor
structure XcOk (K:Frag) (C:Addr):Prop where
  ga:findIn K (.ref C) "__getattribute__" =ae (ae (.builtin "BaseException.__getattribute__"))
  gt:findIn K (.ref C) "__getattr__" =ae none
  cl:findIn K (.ref C) "__class__" =ae (ae (.builtin "object.__class__"))
  ob:mroIn K C (.type "object")=ae true
  be:mroIn K C (.type "BaseException")=ae true
noncomputable abbrev bmV:List Value:=[.type "ValueError", .type "Exception", .type "BaseException", .type "object"]
structure XcIn (K:aj) (x:Str) (C:Addr):Prop where
  nm:aZ K aL x=ae (ae (.ref C))
  ex:eJ K C bmV "ValueError.__new__" =true
  xc:XcOk K C
theorem XcIn.own{K:aj}{x:Str}{C:Addr}{h:Heap}{mg:Str→Option Value}(O:XcIn K x C) (X:K.In h) (G:h.Ns aL mg):OwnCls x C bmV "ValueError.__new__" mg h:=by
 have q:=O.ex;refine⟨bf X G O.nm,?_⟩;unfold eJ at q;split at q
 ·rename_i dd cd sl ho;split at q
  ·rename_i C' bm k0 k1 k2 k3 n k5 hm hs;simp only[b6,beq_iff_eq,Bool.not_eq_true']at q;obtain⟨⟨⟨⟨⟨rfl,hnn⟩,hdel⟩,ht⟩,hok⟩,hni⟩:=q;obtain⟨nm,bs,mro,ns,qn,hd,sn,sub,ab,col,del⟩:=cd;dsimp only at hm hdel hok hni;subst hm hdel;have hsl:sl= #[k0,k1,k2,k3,ae (.builtin n),k5]:=by
    obtain⟨l⟩:=sl;simp only at hs;rw[hs]
   subst hsl;subst hnn;exact⟨bm,ns,nm,qn,bs,hd,sn,sub,ab,col,dd,k0,k1,k2,k3,k5,_,X _ _ ho, .of_isNs (PySem.W.isNs_of_in X hok),PySem.W.nsMap_none_of_in X hok hni,PySem.W.tail_of_in X ht⟩
  ·cases q
 ·cases q
noncomputable def zhq (x:Str) (t:WA):WS:=λE _ σ S=>t E σ S λws S1=>ws.length≤sizeLine∧E x σ S1
theorem zfT{X:Cx}{x:Str}{C:Addr}{e:Expr}{es:List Expr}{t:WA}{np cpos pos:aB}(O:XcIn X.K x C) (hg:Gl X x) (hm:X.mg x=ae (.ref C)) (ha:JA X (e::es) t) (hcl:X.calm=true:=by rfl) (hdb:(x == ("__debug__" :Str))=false:=by decide)
  (he:ao (e::es) X.env=(false,az e X.env)::ao es X.env:=by rfl) (hpl:(aT cpos (ao es X.env)).any (·.1)=false:=by rfl) :
  JS X (.Raise (ae (.Call (.Name x np) (e::es) [] cpos)) none pos) (zhq x t):=λE hE pins s σ H D I z=>by
 obtain⟨σW,S,DW,hσ,hS,ht,hD⟩:=z;have OC:=(O.own I.mod.kin I.mod.glob).keeps I.bk;obtain⟨tl,N,nm,q,bs,hdct,sn,sub,ab,col,dd,k0,k1,k2,k3,k5,mN,hC,hN,hni,T⟩:=(O.own I.mod.kin I.mod.glob).obj;refine wpAny_Raise_call_subT (C:=C) (nm:=nm) (q:=q) (N:=N) (bs:=bs) (bm:=tl) (hdct:=hdct) (sn:=sn) (sub:=sub) (ab:=ab) (col:=col) (dd:=dd) (k0:=k0) (k1:=k1) (k2:=k2) (k3:=k3) (k5:=k5)
  jo (mN:=mN) (T.hasType jo.hasBase) (I.ok.hd hcl) (by rw[he];show(false || (aT cpos (ao es X.env)).any (·.1))=false;rw[hpl];rfl) hni (zlO I hg hm ⟨rfl,?_⟩ hdb)
 have go:=ha E hE cpos pins s σ H (λvs H1=>∃ws S1,Reps X.K H1 ws vs∧RpSt X.K H1 σW σ∧RepS X.K H1 S1∧ws.length≤sizeLine∧E x σW S1) I ⟨σW,S,_,hσ,hS,ht,λws S1 vs H1 e1 r1 hS1 h1=>⟨ws,S1,r1,hσ.ext e1,hS1,h1.1,h1.2⟩⟩;rw[he]at go⊢;refine gO (cn go (λus s2 ⟨vs,H1,I1,r,ws,S1,r1,hσ1,hS1,hl,h1⟩=>?_) λ_ _ y=>y);refine⟨rfl,by rw[←r.length,←r1.length];exact hl,I1.bk _ _ hC,hN.keeps I1.bk,T.keeps I1.bk,λh' a me=>?_⟩
 exact hE.near pins σ H1 s2 σW x C a S1 h' us I1 hσ1 O.nm me hS1 h1
inductive Tr where
  |bl (n:Int)
  |nd (s:Str) (ts:List Tr)
noncomputable def Tr.kids:Tr→List Tr
 | .bl _=>[]
 | .nd _ ts=>ts
mutual
noncomputable def Tr.weight:Tr→Nat
 | .bl _=>1
 | .nd _ ts=>1+wts ts
noncomputable def wts:List Tr→Nat
 | []=>0
 |t::ts=>t.weight+wts ts
end
mutual
noncomputable def Tr.depth:Tr→Nat
 | .bl _=>1
 | .nd _ ts=>1+dts ts
noncomputable def dts:List Tr→Nat
 | []=>0
 |t::ts=>max t.depth (dts ts)
end
theorem zel:wts []=0:=by unfold wts;rfl
theorem zaK (t:Tr) (ts:List Tr):wts (t::ts)=t.weight+wts ts:=by
 conv=>lhs;unfold wts
theorem zeK:∀(ts us:List Tr),wts (ts++us)=wts ts+wts us
 | [],us=>by
  show wts us=wts []+wts us;rw[zel];omega
 |t::ts,us=>by
  show wts (t::(ts++us))=_;rw[zaK,zaK,zeK ts us];omega
theorem zfd:dts []=0:=by unfold dts;rfl
theorem zbh (t:Tr) (ts:List Tr):dts (t::ts)=max t.depth (dts ts):=by
 conv=>lhs;unfold dts
theorem zeb (t:Tr):t.weight=1+wts t.kids:=by
 cases t with
 |bl n=>
  show Tr.weight (.bl n)=1+wts [];unfold Tr.weight wts;rfl
 |nd s ts=>
  show Tr.weight (.nd s ts)=1+wts ts
  conv=>lhs;unfold Tr.weight
theorem zeH (t:Tr):t.depth=1+dts t.kids:=by
 cases t with
 |bl n=>
  show Tr.depth (.bl n)=1+dts [];unfold Tr.depth dts;rfl
 |nd s ts=>
  show Tr.depth (.nd s ts)=1+dts ts
  conv=>lhs;unfold Tr.depth
theorem zfU (t:Tr):1≤t.weight:=by rw[zeb];omega
theorem zaB (t:Tr):1≤t.depth:=by rw[zeH];omega
theorem zig:∀(ts us:List Tr),dts (ts++us)=max (dts ts) (dts us)
 | [],us=>by
  show dts us=max (dts []) (dts us);rw[zfd];omega
 |t::ts,us=>by
  show dts (t::(ts++us))=_;rw[zbh,zbh,zig ts us];exact(jg _ _ _).symm
theorem zcP:∀(ts:List Tr),ts.length≤wts ts
 | []=>aS _
 |t::ts=>by
  have:=zcP ts;have:=zfU t;rw[zaK,aO];omega
theorem zdD{t:Tr}:∀{ts:List Tr},t∈ts→t.weight≤wts ts
 | [],h=>by cases h
 |u::ts,h=>by
  rw[zaK];rcases aA.mp h with e |h
  ·rw[e];omega
  ·have:=zdD h;omega
theorem zmI:∀{ts:List Tr},ts≠ []→dts ts=1+dts (ts.flatMap Tr.kids)
 | [],h=>absurd rfl h
 | [t],_=>by
  rw[fv,iA,bK,zbh,zfd,zeH];omega
 |t::u::r,_=>by
  have ih:=zmI (ts:=u::r) (by simp);have e:(t::u::r).flatMap Tr.kids=t.kids++(u::r).flatMap Tr.kids:=fv ..;rw[zbh,ih,e,zig,zeH];omega
theorem znu:∀(ts:List Tr),wts (ts.flatMap Tr.kids)+ts.length=wts ts
 | []=>by rw[iA,zel];rfl
 |t::ts=>by
  have ih:=znu ts;rw[fv,zeK,zaK,aO,zeb];omega
mutual
theorem zdl:∀t:Tr,t.depth≤t.weight
 | .bl n=>by unfold Tr.depth Tr.weight;exact ap _
 | .nd s ts=>by
  have:=zin ts;rw[zeH,zeb];show 1+dts ts≤1+wts ts;omega
theorem zin:∀ts:List Tr,dts ts≤wts ts
 | []=>by rw[zfd];exact aS _
 |t::ts=>by
  have:=zdl t;have:=zin ts;rw[zbh,zaK];omega
end
mutual
noncomputable def enc:Tr→W
 | .bl n=> .int n
 | .nd s ts=> .tup (.str s::encs ts)
noncomputable def encs:List Tr→List W
 | []=>[]
 |t::ts=>enc t::encs ts
end
theorem zaA:∀ts:List Tr,encs ts=ts.map enc
 | []=>by simp [encs]
 |t::ts=>by simp [encs,zaA ts]
theorem zaT (ts:List Tr):(encs ts).length=ts.length:=by rw[zaA,ax]
noncomputable def zbo (p:List Int):W:= .tup (p.map W.int)
theorem zlz:zcn "int" "int" =true:=by decide +kernel
theorem zkl:zcn "int" "bool" =false:=by decide +kernel
theorem zmd:zcn "int" "str" =false:=by decide +kernel
theorem zjq:zcn "int" "tuple" =false:=by decide +kernel
theorem zkO:zcn "int" "list" =false:=by decide +kernel
theorem zki:zcn "bool" "int" =true:=by decide +kernel
theorem zjt:zcn "bool" "bool" =true:=by decide +kernel
theorem zkZ:zcn "bool" "str" =false:=by decide +kernel
theorem zhX:zcn "bool" "tuple" =false:=by decide +kernel
theorem zjb:zcn "bool" "list" =false:=by decide +kernel
theorem zlR:zcn "str" "int" =false:=by decide +kernel
theorem zjK:zcn "str" "bool" =false:=by decide +kernel
theorem zlw:zcn "str" "str" =true:=by decide +kernel
theorem ziL:zcn "str" "tuple" =false:=by decide +kernel
theorem zkg:zcn "str" "list" =false:=by decide +kernel
theorem zjD:zcn "tuple" "int" =false:=by decide +kernel
theorem zic:zcn "tuple" "bool" =false:=by decide +kernel
theorem zje:zcn "tuple" "str" =false:=by decide +kernel
theorem sub_tuple_tuple:zcn "tuple" "tuple" =true:=by decide +kernel
theorem sub_tuple_list:zcn "tuple" "list" =false:=by decide +kernel
theorem zjJ:zcn "list" "int" =false:=by decide +kernel
theorem ziY:zcn "list" "bool" =false:=by decide +kernel
theorem zjW:zcn "list" "str" =false:=by decide +kernel
theorem sub_list_tuple:zcn "list" "tuple" =false:=by decide +kernel
theorem sub_list_list:zcn "list" "list" =true:=by decide +kernel
section
variable {α:Type}{x:α}{xs:List α}
theorem zjA (n:Nat):zeg xs (ae (n:Int)) none=xs.drop n:=by
 unfold zeg;rw[HT.sIx_nat,HT.sIx_none];by_cases h:n≤xs.length
 ·rw[iQ h,du (by rw[cC];omega)]
 ·rw[jW (by omega),fh (ap _),fh (by omega),List.take_nil]
theorem zjh (n:Nat):zeg xs none (ae (n:Int))=xs.take n:=by
 unfold zeg;rw[HT.sIx_nat,HT.sIx_none,cG,eM];by_cases h:n≤xs.length
 ·rw[iQ h]
 ·rw[jW (by omega),gx,du (by omega)]
theorem zvd:zeg (x::xs) (ae 1) none=xs:=by rw[show(1:Int)=((1:Nat):Int) from rfl,zjA];rfl
theorem zlG{n d k:Nat}(h:0<k):HT.sIx n d (ae (-(k:Int)))=n - k:=by
 show(if(-(k:Int))<0 then(-(k:Int)+(n:Int)).toNat else min (-(k:Int)).toNat n)=n - k;rw[if_pos (by omega)];omega
theorem zmm (k:Nat) (h:0<k):zeg xs none (ae (-(k:Int)))=xs.take (xs.length - k):=by
 unfold zeg;rw[zlG h,HT.sIx_none,cG,eM]
theorem zro (k:Nat) (h:0<k):zeg xs (ae (-(k:Int))) none=xs.drop (xs.length - k):=by
 unfold zeg;rw[zlG h,HT.sIx_none,du (by rw[cC];omega)]
theorem zcb{n:Nat}:atI xs (n:Int)=xs[n]? :=by
 unfold atI ixN;rw[if_pos (by omega)];by_cases h:n<xs.length
 ·rw[if_pos (by omega)];simp
 ·rw[if_neg (by omega)];simp;omega
theorem zjz:atI (x::xs) 0=ae x:=zcb (n:=0)
end
section
variable {S S':Sto}{a b:Addr}{o:Ob}{Q:List W→Prop}{ws:List W}
theorem zmO{u:Ob}(h:b≠a):put (put S a o) b u=put (put S b u) a o:=by
 funext c;unfold put;by_cases h1:c=b
 ·rw[if_pos h1,if_pos h1,if_neg (by rw[h1];exact h)]
 ·rw[if_neg h1,if_neg h1]
theorem znt{u o':Ob}(h:b≠a):put (put (put S a o) b u) a o'=put (put S a o') b u:=by rw[zmO h,zba,zmO h]
theorem zgT:zcE (put S a (.lst ws)) a Q=Q ws:=zaj zag
theorem zdO (h:put S a o b=none):S b=none∧b≠a:=by
 have hb:b≠a:=by rintro rfl;rw[zag]at h;cases h
 rw[zaD hb]at h;exact⟨h,hb⟩
theorem zvB{u:Ob}(h:S a=ae u) (n:S b=none):a≠b:=by rintro rfl;rw[h]at n;cases n
theorem Sub.put (h:Sub S S') (n:S a=none):Sub S (L2.put S' a o):=λb u e=>by rw[zaD (zvB e n)];exact h b u e
theorem Sub.put2{u:Ob}(h:Sub S S'):Sub (L2.put S a u) (L2.put S' a u):=λb w e=>by
 by_cases hb:b=a
 ·subst hb;rw[zag]at e⊢;exact e
 ·rw[zaD hb]at e⊢;exact h b w e
end
theorem zzl (S:Sto) (a b:Int):eqF S 60 (.int a) (.int b)=ae (a == b):=by have h:eqF S 60 (.int a) (.int b)=ae (a == b):=rfl;exact h
theorem zzt (S:Sto) (a b:Str):eqF S 60 (.str a) (.str b)=ae (a == b):=by have h:eqF S 60 (.str a) (.str b)=ae (a == b):=rfl;exact h
theorem zAl (S:Sto) (a b:Bool):eqF S 60 (.bl a) (.bl b)=ae (a == b):=by have h:eqF S 60 (.bl a) (.bl b)=ae (a == b):=rfl;exact h
theorem zal{n:Nat}(h:n≤16777216):n≤sizeLine:=by rw[dC];exact h
theorem zbK{n:Nat}(h:n<16777216):n<sizeLine:=by rw[dC];exact h
section
variable {S:Sto}{Q:WK}{QB:Bool→Sto→Prop}{QS:List W→(Sto→Prop)→Prop}{QT:String→Prop}
theorem zdy{a:Addr}{o:Ob}(h:S a=ae o):put S a o=S:=by
 funext b;unfold put;split
 ·rename_i e;rw[e,h]
 ·rfl
theorem dzsS{b:Bool}:zuj (.bl b) S QB=QB b S:=rfl
noncomputable def zsS:=@dzsS
theorem dzrb{i:Int}:zuj (.int i) S QB=QB (i != 0) S:=rfl
noncomputable def zrb:=@dzrb
theorem dzpD{ws:List W}:zuj (.tup ws) S QB=QB (!ws.isEmpty) S:=rfl
noncomputable def zpD:=@dzpD
theorem dzqx{a:Addr}:zuj (.ref a) S QB=zcE S a λws=>QB (!ws.isEmpty) S:=rfl
noncomputable def zqx:=@dzqx
theorem dzrE:zuj .non S QB=QB false S:=rfl
noncomputable def zrE:=@dzrE
theorem dzln{ws:List W}:zoP (.tup ws) S QS=QS ws λ_=>True:=rfl
noncomputable def zln:=@dzln
theorem dzhl{a:Addr}:zoP (.ref a) S QS=zcE S a λws=>QS ws λS'=>S' a=ae (.lst ws):=rfl
noncomputable def zhl:=@dzhl
theorem dzvX{b:Bool}:tyW (.bl b) S QT=QT "bool" :=rfl
noncomputable def zvX:=@dzvX
theorem dzto{i:Int}:tyW (.int i) S QT=QT "int" :=rfl
noncomputable def zto:=@dzto
theorem dzsR{i:Str}:tyW (.str i) S QT=QT "str" :=rfl
noncomputable def zsR:=@dzsR
theorem dztu{i:List W}:tyW (.tup i) S QT=QT "tuple" :=rfl
noncomputable def ztu:=@dztu
theorem dztf:tyW .non S QT=QT "NoneType" :=rfl
noncomputable def ztf:=@dztf
theorem dzrX{a:Addr}:tyW (.ref a) S QT=zcE S a λ_=>QT "list" :=rfl
noncomputable def zrX:=@dzrX
theorem dzpl{i j:Int}:zdr (.int i) (.int j) S Q=Q (.int (i+j)) S:=rfl
noncomputable def zpl:=@dzpl
theorem dzre{i j:Str}:zdr (.str i) (.str j) S Q=(i.length+j.length≤sizeLine∧Q (.str (i++j)) S):=rfl
noncomputable def zre:=@dzre
theorem dzhb{i j:List W}:zdr (.tup i) (.tup j) S Q=(i.length+j.length≤sizeLine∧Q (.tup (i++j)) S):=rfl
noncomputable def zhb:=@dzhb
theorem dzqe{a b:Addr}:zdr (.ref a) (.ref b) S Q=zcE S a λxs=>zcE S b λys=>xs.length+ys.length≤sizeLine∧ ∀p,S p=none→Q (.ref p) (put S p (.lst (xs++ys))):=rfl
noncomputable def zqe:=@dzqe
theorem dzAy{C:Int→Int→Prop}{g:Int→Int→W}{i j:Int}:zdb C g (.int i) (.int j) S Q=(C i j∧Q (g i j) S):=rfl
noncomputable def zAy:=@dzAy
theorem dzyY{g:Int→Int→W}{i j:Int}:zfj g (.int i) (.int j) S Q=Q (g i j) S:=rfl
noncomputable def zyY:=@dzyY
theorem dztw{i j:Int}:oLe (.int i) (.int j) S Q=Q (.bl (decide (i≤j))) S:=rfl
noncomputable def ztw:=@dztw
theorem dzsD{i j:Str}:oLe (.str i) (.str j) S Q=Q (.bl (!decide (j.cps.toList<i.cps.toList))) S:=rfl
noncomputable def zsD:=@dzsD
theorem dzqE{us:List W}:zeh [.tup us] S Q=Q (.int us.length) S:=rfl
noncomputable def zqE:=@dzqE
theorem dzqK{a:Addr}:zeh [.ref a] S Q=zcE S a λus=>Q (.int us.length) S:=rfl
noncomputable def zqK:=@dzqK
theorem dzqL{ns:List Int}:zeh [.scr ns] S Q=Q (.int ns.length) S:=rfl
noncomputable def zqL:=@dzqL
theorem dzpt{z:Str}:zeh [.str z] S Q=(z.length≤sizeLine∧Q (.int z.length) S):=rfl
noncomputable def zpt:=@dzpt
theorem dzse{ws:List W}{i:Int}:oIx (.tup ws) (.int i) S Q=match atI ws i with
 |some w=>Q w S
 |none=>False:=rfl
noncomputable def zse:=@dzse
theorem dzsz{a:Addr}{i:Int}:oIx (.ref a) (.int i) S Q=zcE S a λws=>match atI ws i with
 |some w=>Q w S
 |none=>False:=rfl
noncomputable def zsz:=@dzsz
theorem dzsc{ns:List Int}{i:Int}:oIx (.scr ns) (.int i) S Q=match atI ns i with
 |some n=>Q (.int n) S
 |none=>False:=rfl
noncomputable def zsc:=@dzsc
theorem dztg{x:Str}{i:Int}:oIx (.str x) (.int i) S Q=(x.length≤sizeLine∧match atI x.cps.toList i with
 |some c=>Q (.str ⟨#[c]⟩) S
 |none=>False):=rfl
noncomputable def ztg:=@dztg
theorem dztl{ws:List W}{lo hi:Option Int}:oSl (.tup ws) lo hi S Q=Q (.tup (zeg ws lo hi)) S:=rfl
noncomputable def ztl:=@dztl
theorem dzst{z:Str}{lo hi:Option Int}:oSl (.str z) lo hi S Q=(z.length≤sizeLine∧Q (.str (cL z lo hi)) S):=rfl
noncomputable def zst:=@dzst
theorem dzsf{a:Addr}{lo hi:Option Int}:oSl (.ref a) lo hi S Q=zcE S a λws=>∀p,S p=none→Q (.ref p) (put S p (.lst (zeg ws lo hi))):=rfl
noncomputable def zsf:=@dzsf
theorem dzsC{ns:List Int}{lo hi:Option Int}:oSl (.scr ns) lo hi S Q= ∀p,S p=none→Q (.ref p) (put S p (.lst ((zeg ns lo hi).map W.int))):=rfl
noncomputable def zsC:=@dzsC
theorem dzmc{us:List W}:zdt [.tup us] S Q=Q (.tup us) S:=rfl
noncomputable def zmc:=@dzmc
theorem dzmt{a:Addr}:zdt [.ref a] S Q=zcE S a λus=>Q (.tup us) S:=rfl
noncomputable def zmt:=@dzmt
theorem dzsO{a:Addr}{y:W}:zbT (.ref a) [y] S Q=zcE S a λxs=>xs.length<sizeLine∧Q .non (put S a (.lst (xs++[y]))):=rfl
noncomputable def zsO:=@dzsO
theorem dzzC{a:Addr}:zCa (.ref a) [] S Q=zcE S a λxs=>match xs[xs.length - 1]? with
 |some y=>Q y (put S a (.lst xs.dropLast))
 |none=>False:=rfl
noncomputable def zzC:=@dzzC
theorem dzjG{a:Addr}{ys:List W}:zhE (.ref a) [.tup ys] S Q=zcE S a λxs=>xs.length+ys.length≤sizeLine∧Q .non (put S a (.lst (xs++ys))):=rfl
noncomputable def zjG:=@dzjG
theorem dzkp{a b:Addr}:zhE (.ref a) [.ref b] S Q=zcE S a λxs=>zcE S b λys=>xs.length+ys.length≤sizeLine∧Q .non (put S a (.lst (xs++ys))):=rfl
noncomputable def zkp:=@dzkp
theorem dzqR{a:Addr}{ws:List W}:zsy (.ref a) ws S Q=zcE S a λxs=>xs.length+ws.length≤sizeLine∧Q .non (put S a (.lst (xs++ws))):=rfl
noncomputable def zqR:=@dzqR
theorem dzzM{a:Addr}:rvL (.ref a) S=zcE S a λ_=>True:=rfl
noncomputable def zzM:=@dzzM
theorem dzAF{x:Str}:rvS (.str x) S=True:=rfl
noncomputable def zAF:=@dzAF
theorem dzsB{b:Bool}:zwC [.bl b] S Q=Q (.int (if b then 1 else 0)) S:=rfl
noncomputable def zsB:=@dzsB
theorem dzpL{i:Int}:zwC [.int i] S Q=Q (.int i) S:=rfl
noncomputable def zpL:=@dzpL
theorem dzyl{i j:Int}:zAh [.int i, .int j] S Q=Q (.int (if j > i then j else i)) S:=rfl
noncomputable def zyl:=@dzyl
theorem dzwR{i j:Int}:zkt [.int i, .int j] S Q=Q (.int (if j<i then j else i)) S:=rfl
noncomputable def zwR:=@dzwR
theorem dzyr{z:Str}{ws:List W}:zkW (.str z) ws S Q=match zgy ws with
 |some ys=>(ys.map (·.length)).sum+ys.length*z.length≤16777216∧Q (.str (cW z ys)) S
 |none=>False:=rfl
noncomputable def zyr:=@dzyr
theorem dzvM{z y:Str}:zxr (.str z) [.str y] S Q=match cS z y 0 z.length 1 with
 |i::_=>Q (.int i) S
 | []=>False:=rfl
noncomputable def zvM:=@dzvM
theorem dzsU{neg:Bool}:oIs neg .non .non S Q=Q (.bl (!neg)) S:=rfl
noncomputable def zsU:=@dzsU
theorem dzwg{neg a b:Bool}:oIs neg (.bl a) (.bl b) S Q=Q (.bl (if neg then a != b else a == b)) S:=rfl
noncomputable def zwg:=@dzwg
theorem dzuI{neg a:Bool}:oIs neg (.bl a) .non S Q=Q (.bl neg) S:=rfl
noncomputable def zuI:=@dzuI
theorem dzqV{neg:Bool}{ws:List W}:oIs neg (.tup ws) .non S Q=Q (.bl neg) S:=rfl
noncomputable def zqV:=@dzqV
theorem dzwn{neg:Bool}{a:Addr}:oIs neg (.ref a) .non S Q=Q (.bl neg) S:=rfl
noncomputable def zwn:=@dzwn
theorem dzqW{neg:Bool}{a:Int}:oIs neg (.int a) .non S Q=Q (.bl neg) S:=rfl
noncomputable def zqW:=@dzqW
theorem dztn{neg:Bool}{x:W}{ws:List W}:oIn neg x (.tup ws) S Q=match inF S x ws with
 |some b=>Q (.bl (if neg then !b else b)) S
 |none=>False:=rfl
noncomputable def ztn:=@dztn
theorem dzsM{neg:Bool}{x:W}{a:Addr}:oIn neg x (.ref a) S Q=zcE S a λws=>match inF S x ws with
 |some b=>Q (.bl (if neg then !b else b)) S
 |none=>False:=rfl
noncomputable def zsM:=@dzsM
theorem dzsm{neg:Bool}{i j:Str}:oIn neg (.str i) (.str j) S Q=Q (.bl (if neg then !(!(cS j i 0 j.length 1).isEmpty) else !(cS j i 0 j.length 1).isEmpty)) S:=rfl
noncomputable def zsm:=@dzsm
end
theorem zlt{g:WG}{b:WS}{E:WX}{D:WEnds}{G:Sto→Prop}(I:List W→WSt→Sto→Prop)
  (step:∀w ws σ S (N:WSt→Sto→Prop),I (w::ws) σ S→(∀σ' S' S'',Sub S'' S'→G S''→I ws σ' S''→N σ' S')→g w σ S λσ1 S1=>b E { D with nx:=N,ct:=N,bk:=D.nx } σ1 S1)
  (done:∀σ S,I [] σ S→D.nx σ S):∀(ws:List W) (σ:WSt) (S:Sto),I ws σ S→forL g b E D G ws σ S
 | [],σ,S,h=>done σ S h
 |w::ws,σ,S,h=>step w ws σ S _ h λσ' S' S'' sb hG hI=>⟨S'',sb,hG,zlt I step done ws σ' S'' hI⟩
section
variable {E:WX}{σ:WSt}{S:Sto}{Q:WK}{QB:Bool→Sto→Prop}{QA:List W→Sto→Prop}{QI:List W→(Sto→Prop)→Sto→Prop}{QO:Option Int→Sto→Prop}{P:WSt→Sto→Prop}{D:WEnds}{w x y:W}{ws:List W}{EX:Str→Sto→Prop}
theorem dzyv{i:Nat}:(zae i E σ S Q)=(match σ[i]? with
 |some (ae w)=>Q w S
 |_=>False):=rfl
noncomputable def zyv:=@dzyv
theorem dzBM{w:W}:(wC w E σ S Q)=(Q w S):=rfl
noncomputable def zBM:=@dzBM
theorem dzzL{r:W2}{a b:WE}:(wOp r a b E σ S Q)=(a E σ S λx S1=>b E σ S1 λy S2=>r x y S2 Q):=rfl
noncomputable def zzL:=@dzzL
theorem dzxC{t:WE}:(zgi t E σ S QB)=(t E σ S λw S'=>zuj w S' QB):=rfl
noncomputable def zxC:=@dzxC
theorem dzAS{t:WE}:(wTb t E σ S QB)=(t E σ S λw S'=>match w with
 | .bl b=>QB b S'
 |_=>False):=rfl
noncomputable def zAS:=@dzAS
theorem dzzf{t u:WT}:(zrT t u E σ S QB)=(t E σ S λc S1=>if c=true then u E σ S1 QB else QB false S1):=rfl
noncomputable def zzf:=@dzzf
theorem dzBc{t u:WT}:(wOr t u E σ S QB)=(t E σ S λc S1=>if c=true then QB true S1 else u E σ S1 QB):=rfl
noncomputable def zBc:=@dzBc
theorem dzyL{t:WT}:(zrS t E σ S QB)=(t E σ S λc S1=>QB (!c) S1):=rfl
noncomputable def zyL:=@dzyL
theorem dzuW{t u:WE}:(zsK t u E σ S Q)=(t E σ S λw S1=>match w with
 | .bl true=>u E σ S1 Q
 | .bl false=>Q (.bl false) S1
 |_=>False):=rfl
noncomputable def zuW:=@dzuW
theorem dzuY{t:WE}:(zvk t E σ S Q)=(t E σ S λw S1=>match w with
 | .bl b=>Q (.bl !b) S1
 |_=>False):=rfl
noncomputable def zuY:=@dzuY
theorem dzBl{c:WT}{t u:WE}:(wIf c t u E σ S Q)=(c E σ S λb S1=>if b=true then t E σ S1 Q else u E σ S1 Q):=rfl
noncomputable def zBl:=@dzBl
theorem dzxA{c:WT}{t u:WS}:(zbS c t u E D σ S)=(c E σ S λb S1=>if b=true then t E D σ S1 else u E D σ S1):=rfl
noncomputable def zxA:=@dzxA
theorem dzvZ:(zaF  E D σ S)=(D.nx σ S):=rfl
noncomputable def zvZ:=@dzvZ
theorem dzuc{t u:WS}:(zar t u E D σ S)=(t E { D with nx:=u E D } σ S):=rfl
noncomputable def zuc:=@dzuc
theorem dzxv{e:WE}:(zaZ e E D σ S)=(e E σ S D.rt):=rfl
noncomputable def zxv:=@dzxv
theorem dzwv{e:WE}:(zda e E D σ S)=(e E σ S λ_ S1=>D.nx σ S1):=rfl
noncomputable def zwv:=@dzwv
theorem dzgX{i:Nat}:(wGN i w σ S P)=(P (σ.set i (ae w)) S):=rfl
noncomputable def zgX:=@dzgX
theorem dztN{e:WE}{g:WG}:(wAsg e g E D σ S)=(e E σ S λw S1=>g w σ S1 D.nx):=rfl
noncomputable def ztN:=@dztN
theorem dzfW:(zbE  ws σ S P)=(match ws with
 | []=>P σ S
 |_=>False):=rfl
noncomputable def zfW:=@dzfW
theorem dzdW{g:WG}{u:WGs}:(zaq g u ws σ S P)=(match ws with
 | []=>False
 |w::r=>g w σ S λσ' S'=>u r σ' S' P):=rfl
noncomputable def zdW:=@dzdW
theorem dzoC{u:WGs}:(wGT u w σ S P)=(match w with
 | .tup ws=>u ws σ S P
 |_=>False):=rfl
noncomputable def zoC:=@dzoC
theorem dzwq:(waNil  E σ S QA)=(QA [] S):=rfl
noncomputable def zwq:=@dzwq
theorem dztz{t:WE}{u:WA}:(zab t u E σ S QA)=(t E σ S λw S1=>u E σ S1 λws S2=>QA (w::ws) S2):=rfl
noncomputable def ztz:=@dztz
theorem dzzg{t:WA}:(zbO t E σ S Q)=(t E σ S λws S1=>ws.length≤sizeLine∧Q (.tup ws) S1):=rfl
noncomputable def zzg:=@dzzg
theorem dzxS{t:WA}:(zdq t E σ S QA)=(t E σ S λws S1=>ws.length≤sizeLine∧QA ws S1):=rfl
noncomputable def zxS:=@dzxS
theorem dzul{t:WL}:(zcF t E σ S Q)=(t E σ S λws S1=>∀a,S1 a=none→Q (.ref a) (put S1 a (.lst ws))):=rfl
noncomputable def zul:=@dzul
theorem dzuJ{c:WSp}{t:WA}:(zap c t E σ S Q)=(t E σ S λws S1=>c ws S1 Q λcl S2=>E cl σ S2):=rfl
noncomputable def zuJ:=@dzuJ
theorem dzhf{n k:Nat}{body:WS}:(zcG n k body ws S Q EX)=(ws.length=k∧body (λc _ S'=>EX c S') { nx:=λ_ S'=>∃S'',Sub S'' S'∧Q .non S'',rt:=λw S'=>∃S'',Sub S'' S'∧Q w S'' } (ws.map ae++aN (n - k) none) S):=rfl
noncomputable def zhf:=@dzhf
theorem dzwF{t:WE}:(zoa t E σ S Q)=(t E σ S λw S1=>match w with
 | .int i=>Q (.int (-i)) S1
 |_=>False):=rfl
noncomputable def zwF:=@dzwF
theorem zAn{t u:WE}:(zAH t u E σ S QA)=(t E σ S λx S1=>u E σ S1 λy S2=>match x,y with
 | .ref a, .ref b=>zcE S2 a λxs=>zcE S2 b λys=>xs.length+ys.length≤sizeLine∧QA (xs++ys) S2
 |_,_=>False):=pz id id
theorem dzAa{neg:Bool}:(oEq neg x y S Q)=(match eqF S 60 x y with
 |some b=>Q (.bl (if neg then !b else b)) S
 |none=>False):=rfl
noncomputable def zAa:=@dzAa
theorem dzAW:(woN  E σ S QO)=(QO none S):=rfl
noncomputable def zAW:=@dzAW
theorem dzzV{t:WE}:(woS t E σ S QO)=(t E σ S λw S1=>match w with
 | .int i=>QO (ae i) S1
 |_=>False):=rfl
noncomputable def zzV:=@dzzV
theorem dzAI{t:WE}{l h:WO}:(wSl t l h E σ S Q)=(t E σ S λx S1=>l E σ S1 λlo S2=>h E σ S2 λhi S3=>oSl x lo hi S3 Q):=rfl
noncomputable def zAI:=@dzAI
theorem dzCx{f:WF}{t:WA}:(wB f t E σ S Q)=(t E σ S λws S1=>f ws S1 Q):=rfl
noncomputable def zCx:=@dzCx
theorem dzAV{f:WF}{t:WL}:(wBL f t E σ S Q)=(t E σ S λws S1=>f ws S1 Q):=rfl
noncomputable def zAV:=@dzAV
theorem dzrH:(zgh  ws S Q)=(Q (.tup ws) S):=rfl
noncomputable def zrH:=@dzrH
theorem dzrk{t:WE}:(zlK t E σ S QA)=(t E σ S λw S1=>match w with
 | .tup ws=>QA ws S1
 | .ref a=>zcE S1 a λws=>QA ws S1
 | .scr ns=>QA (ns.map W.int) S1
 |_=>False):=rfl
noncomputable def zrk:=@dzrk
theorem dzwW{T:String}{t:WE}:(zoH T t E σ S Q)=(t E σ S λw S1=>tyW w S1 λA=>Q (.bl (zcn A T)) S1):=rfl
noncomputable def zwW:=@dzwW
theorem dzCq{rv:W→Sto→Prop}{f:WMf}{to:WE}{t:WA}:(wM rv f to t E σ S Q)=(to E σ S λw S1=>rv w S1∧t E σ S1 λws S2=>f w ws S2 Q):=rfl
noncomputable def zCq:=@dzCq
theorem dzAg{rv:W→Sto→Prop}{f:WMf}{to:WE}{t:WL}:(wML rv f to t E σ S Q)=(to E σ S λw S1=>rv w S1∧t E σ S1 λws S2=>f w ws S2 Q):=rfl
noncomputable def zAg:=@dzAg
theorem dzwO{i:Nat}{g:Int→Int→Int}{e:WE}:(zye i g e E D σ S)=(match σ[i]? with
 |some (ae (.int a))=>e E σ S λw S1=>match w with
  | .int b=>D.nx (σ.set i (ae (.int (g a b)))) S1
  |_=>False
 |_=>False):=rfl
noncomputable def zwO:=@dzwO
theorem dzxl{q:WI}{g:WG}{b:WS}:(zgs q g b E D σ S)=(q E σ S λws G S1=>forL g b E D G ws σ S1):=rfl
noncomputable def zxl:=@dzxl
theorem dzzN{t:WE}:(wIv t E σ S QI)=(t E σ S λw S1=>match w with
 | .tup ws=>QI ws (λ_=>True) S1
 | .ref a=>zcE S1 a λws=>QI ws (λS'=>S' a=ae (.lst ws)) S1
 | .scr ns=>QI (ns.map W.int) (λ_=>True) S1
 | .str z=>QI (zlE z) (λ_=>True) S1
 |_=>False):=rfl
noncomputable def zzN:=@dzzN
theorem dzzr{t:WA}:(ztX t E σ S QI)=(t E σ S λws S1=>match ws with
 | [.int j]=>(-(2 ^ 62)≤j∧j<2 ^ 62)∧QI (zlW 0 j.toNat) (λ_=>True) S1
 |_=>False):=rfl
noncomputable def zzr:=@dzzr
theorem dzyp:(zgC  E σ S QB)=(QB true S):=rfl
noncomputable def zyp:=@dzyp
theorem dzqm{k:Nat}{fr:List Nat}{q:WI}{g:WG}{c:WT}{e:WE}:(zcW k fr q g c e E σ S QA)=(q noE σ S λws G S1=>zeO g c e noE G QA ws [] (aN k none++fr.map λj=>(σ[j]?).join) S1):=rfl
noncomputable def zqm:=@dzqm
theorem dzvH{t:WE}:(zom t E σ S QI)=(t E σ S λw S1=>zoP w S1 λws G=>QI (zht 0 ws) G S1):=rfl
noncomputable def zvH:=@dzvH
theorem dzyd{t u:WE}:(zuA t u E σ S QI)=(t E σ S λx S1=>u E σ S1 λy S2=>zoP x S2 λxs G=>zoP y S2 λys G'=>QI (pairs xs ys) (λS'=>G S'∧G' S') S2):=rfl
noncomputable def zyd:=@dzyd
theorem dzvQ{t:WE}{l h:WO}:(zwB t l h E σ S QA)=(t E σ S λx S1=>l E σ S1 λlo S2=>h E σ S2 λhi S3=>match x with
 | .ref a=>zcE S3 a λws=>QA (zeg ws lo hi) S3
 | .scr ns=>QA ((zeg ns lo hi).map W.int) S3
 |_=>False):=rfl
noncomputable def zvQ:=@dzvQ
theorem dzxx{t:WL}{u:WE}:(zsT t u E σ S Q)=(t E σ S λws S1=>u E σ S1 λy S2=>match y with
 | .int i=>match atI ws i with
  |some w=>Q w S2
  |none=>False
 |_=>False):=rfl
noncomputable def zxx:=@dzxx
theorem dzvW{t:WE}{u:WL}:(zsb t u E σ S QA)=(t E σ S λx S1=>u E σ S1 λys S2=>match x with
 | .ref a=>zcE S2 a λxs=>xs.length+ys.length≤sizeLine∧QA (xs++ys) S2
 |_=>False):=rfl
noncomputable def zvW:=@dzvW
theorem dzwA{t u:WL}:(zow t u E σ S QA)=(t E σ S λxs S1=>u E σ S1 λys S2=>xs.length+ys.length≤sizeLine∧QA (xs++ys) S2):=rfl
noncomputable def zwA:=@dzwA
theorem dzuV{t:WL}{u:WE}:(zps t u E σ S QA)=(t E σ S λxs S1=>u E σ S1 λy S2=>match y with
 | .ref a=>zcE S2 a λys=>xs.length+ys.length≤sizeLine∧QA (xs++ys) S2
 |_=>False):=rfl
noncomputable def zuV:=@dzuV
theorem dzve{t:WL}{u:WE}:(zti t u E σ S QA)=(t E σ S λxs S1=>u E σ S1 λy S2=>match y with
 | .int k=>(-(2 ^ 63)≤k∧k<2 ^ 63∧xs.length*k.toNat≤sizeLine)∧QA (aN k.toNat xs).flatten S2
 |_=>False):=rfl
noncomputable def zve:=@dzve
end
section
variable {S:Sto}{Q:WK}
theorem dzyx{xs:List W}{k:Int}:zBk (.tup xs) (.int k) S Q=((xs≠ []∧ -(2 ^ 63)≤k∧k<2 ^ 63∧xs.length*k.toNat≤sizeLine)∧Q (.tup (aN k.toNat xs).flatten) S):=rfl
noncomputable def zyx:=@dzyx
theorem dzzT{neg:Bool}{y:W}{a:Addr}:zyb neg y (.ref a) S Q=(match zpF y with
 |some k=>zsA S a λkvs=>Q (.bl (if neg then !(zgr kvs k).isSome else(zgr kvs k).isSome)) S
 |none=>False):=rfl
noncomputable def zzT:=@dzzT
theorem dzyE{y:W}{a:Addr}:zAG (.ref a) y S Q=(match zpF y with
 |some k=>zsA S a λkvs=>match zgr kvs k with
  |some w=>Q w S
  |none=>False
 |none=>False):=rfl
noncomputable def zyE:=@dzyE
theorem dzwj{ws:List W}:(zrA ws S Q)=(match zcy ws with
 |some ns=>Q (.int ns.sum) S
 |none=>False):=rfl
noncomputable def zwj:=@dzwj
theorem dzvt{z:Str}:znd (.str z) [] S Q=(z.length≤5592405∧Q (.str (dL z)) S):=rfl
noncomputable def zvt:=@dzvt
theorem zga:∀p:List Int,zcy (p.map W.int)=ae p
 | []=>rfl
 |i::p=>by rw[ay,zcy,zga p];rfl
theorem zAo (p:List Int):zpF (zbo p)=ae p:=zga p
theorem zsV{a:Addr}{kvs:List (List Int×W)}{P:List (List Int×W)→Prop}:zsA (put S a (.dct kvs)) a P=P kvs:=zlI zag
end
end L2
end
section
def L2.wZ (d:String):Lean.MacroM (Lean.TSyntax `tactic):=do
  let a:Array Lean.Term:=(("L2.zyv L2.zBM L2.zzL L2.zxC L2.zAS L2.zzf L2.zBc L2.zyL L2.zuW L2.zuY L2.zBl L2.zxA L2.zvZ L2.zuc L2.zxv L2.zwv L2.zgX L2.ztN L2.zfW L2.zdW L2.zoC L2.zwq L2.ztz L2.zzg L2.zxS L2.zul L2.zuJ L2.zhf L2.zwF L2.zAa L2.zAW L2.zzV L2.zAI L2.zCx L2.zAV L2.zrH L2.zrk L2.zwW L2.zCq L2.zAg L2.zwO L2.zxl L2.zzN L2.zzr L2.zyp L2.zqm L2.zvH L2.zyd L2.zvQ L2.zxx L2.zvW L2.zwA L2.zuV L2.zve L2.zyx L2.zzT L2.zyE L2.zwj L2.ztk L2.zvt L2.zAo L2.zsV L2.zgT L2.zba L2.zzl L2.zzt L2.zAl L2.zvd L2.zjz L2.zlz L2.zkl L2.zmd L2.zjq L2.zkO L2.zki L2.zjt L2.zkZ L2.zhX L2.zjb L2.zlR L2.zjK L2.zlw L2.ziL L2.zkg L2.zjD L2.zic L2.zje L2.sub_tuple_tuple L2.sub_tuple_list L2.zjJ L2.ziY L2.zjW L2.sub_list_tuple L2.sub_list_list L2.zsS L2.zrb L2.zpD L2.zqx L2.zrE L2.zln L2.zhl L2.zvX L2.zto L2.zsR L2.ztu L2.ztf L2.zrX L2.zpl L2.zre L2.zhb L2.zqe L2.zAy L2.zyY L2.ztw L2.zsD L2.zqE L2.zqK L2.zqL L2.zpt L2.zse L2.zsz L2.zsc L2.ztg L2.ztl L2.zst L2.zsf L2.zsC L2.zmc L2.zmt L2.zsO L2.zzC L2.zjG L2.zkp L2.zqR L2.zzM L2.zAF L2.zsB L2.zpL L2.zyl L2.zwR L2.zyr L2.zvM L2.zsU L2.zwg L2.zuI L2.zqV L2.zwn L2.zqW L2.ztn L2.zsM L2.zsm List.map_cons List.map_nil List.length_cons List.length_nil List.cons_append List.nil_append List.append_nil List.replicate List.getElem?_cons_zero List.getElem?_cons_succ List.getElem?_nil List.set_cons_zero List.set_cons_succ Nat.reduceAdd Nat.reduceSub true_and and_true if_true if_false Bool.false_eq_true reduceIte Bool.not_true Bool.not_false Option.join_some Option.join_none decide_eq_true_eq and_self".splitOn " ").filter (· != d)).toArray.map λs=>iE s.toName
  `(tactic| simp only [$[$a:term],*])
local macro_rules | `(tactic| walk_at "wp") => L2.wZ ""
def L2.wY:Lean.MacroM (Lean.TSyntax `tactic):=do
  let a:Array Lean.Term:=("L2.dzyv L2.dzBM L2.dzzL L2.dzxC L2.dzAS L2.dzzf L2.dzBc L2.dzyL L2.dzuW L2.dzuY L2.dzBl L2.dzxA L2.dzvZ L2.dzuc L2.dzxv L2.dzwv L2.dzgX L2.dztN L2.dzfW L2.dzdW L2.dzoC L2.dzwq L2.dztz L2.dzzg L2.dzxS L2.dzul L2.dzuJ L2.dzhf L2.dzwF L2.dzAa L2.dzAW L2.dzzV L2.dzAI L2.dzCx L2.dzAV L2.dzrH L2.dzrk L2.dzwW L2.dzCq L2.dzAg L2.dzwO L2.dzxl L2.dzzN L2.dzzr L2.dzyp L2.dzqm L2.dzvH L2.dzyd L2.dzvQ L2.dzxx L2.dzvW L2.dzwA L2.dzuV L2.dzve L2.dzyx L2.dzzT L2.dzyE L2.dzwj L2.dztk L2.dzvt L2.dzsS L2.dzrb L2.dzpD L2.dzqx L2.dzrE L2.dzln L2.dzhl L2.dzvX L2.dzto L2.dzsR L2.dztu L2.dztf L2.dzrX L2.dzpl L2.dzre L2.dzhb L2.dzqe L2.dzAy L2.dzyY L2.dztw L2.dzsD L2.dzqE L2.dzqK L2.dzqL L2.dzpt L2.dzse L2.dzsz L2.dzsc L2.dztg L2.dztl L2.dzst L2.dzsf L2.dzsC L2.dzmc L2.dzmt L2.dzsO L2.dzzC L2.dzjG L2.dzkp L2.dzqR L2.dzzM L2.dzAF L2.dzsB L2.dzpL L2.dzyl L2.dzwR L2.dzyr L2.dzvM L2.dzsU L2.dzwg L2.dzuI L2.dzqV L2.dzwn L2.dzqW L2.dztn L2.dzsM L2.dzsm List.map_cons List.map_nil List.length_cons List.length_nil List.cons_append List.nil_append List.append_nil List.replicate List.getElem?_cons_zero List.getElem?_cons_succ List.getElem?_nil List.set_cons_zero List.set_cons_succ Nat.reduceAdd Nat.reduceSub Option.join_some Option.join_none Bool.not_true Bool.not_false".splitOn " ").toArray.map λs=>iE s.toName
  let b:Array Lean.Term:=("L2.zAo L2.zsV L2.zgT L2.zba L2.zzl L2.zzt L2.zAl L2.zvd L2.zjz L2.zlz L2.zkl L2.zmd L2.zjq L2.zkO L2.zki L2.zjt L2.zkZ L2.zhX L2.zjb L2.zlR L2.zjK L2.zlw L2.ziL L2.zkg L2.zjD L2.zic L2.zje L2.sub_tuple_tuple L2.sub_tuple_list L2.zjJ L2.ziY L2.zjW L2.sub_list_tuple L2.sub_list_list List.map_cons List.map_nil List.length_cons List.length_nil List.cons_append List.nil_append List.append_nil List.replicate List.getElem?_cons_zero List.getElem?_cons_succ List.getElem?_nil List.set_cons_zero List.set_cons_succ Nat.reduceAdd Nat.reduceSub true_and and_true if_true if_false Bool.false_eq_true reduceIte Bool.not_true Bool.not_false Option.join_some Option.join_none decide_eq_true_eq and_self".splitOn " ").toArray.map λs=>iE s.toName
  `(tactic| (first | (dsimp only [$[$a:term],*]; (try simp only [$[$b:term],*]); (try dsimp only [$[$a:term],*]); (try simp only [$[$b:term],*])) | (simp only [$[$b:term],*]; (try dsimp only [$[$a:term],*]); (try simp only [$[$b:term],*]))))
local macro_rules | `(tactic| walk_at "wd") => L2.wY
section
namespace L2
open PySem PySem.Spec PyProof.Rows
noncomputable def vlK (kvs:List (Key×W)) (k:Key):Option W:=(kvs.find? λkv=>decide (kv.1=k)).map (·.2)
noncomputable def ptK (kvs:List (Key×W)) (k:Key) (v:W):List (Key×W):=
 if(kvs.any λkv=>decide (kv.1=k))=true then kvs.map (λkv=>if kv.1=k then(kv.1,v) else kv) else kvs++[(k,v)]
noncomputable def zpP:W→Option Key
 | .int i=>ae (.inl i)
 | .str x=>ae (.inr x)
 |_=>none
def dkW (S:Sto) (a:Addr) (P:List (Key×W)→Prop):Prop:=match S a with
 |some (.dk kvs)=>P kvs
 |_=>False
theorem zoT{S:Sto}{a:Addr}{P:List (Key×W)→Prop}(h:dkW S a P):∃kvs,S a=ae (.dk kvs)∧P kvs:=by
 unfold dkW at h;split at h
 ·exact⟨_, ‹_›,h⟩
 ·exact h.elim
theorem zny{S:Sto}{a:Addr}{kvs:List (Key×W)}{P:List (Key×W)→Prop}(e:S a=ae (.dk kvs)):dkW S a P=P kvs:=by unfold dkW;rw[e]
section
variable {K:aj}{H:Hp}
noncomputable abbrev RpK (K:aj) (H:Hp):List (Key×W)→List (Key×V)→Prop:=aP λq p=>p.1=q.1∧Rep K H q.2 p.2
theorem RpK.val{kvs:List (Key×W)}{ps:List (Key×V)}(r:RpK K H kvs ps) (k:Key):(∀w,vlK kvs k=ae w→ ∃v,zjF ps k=ae v∧Rep K H w v)∧(vlK kvs k=none→zjF ps k=none):=by
 induction r with
 |nil=>exact⟨λw h=>by simp [vlK]at h,λ_=>rfl⟩
 | @cons q p kvs ps h t ih=>
  by_cases hk:q.1=k
  ·have e:p.1=k:=by rw[h.1,hk]
   rw[zfm e];have ew:vlK (q::kvs) k=ae q.2:=by simp [vlK,bM,hk]
   rw[ew];exact⟨λw z=>by cases z;exact⟨_,rfl,h.2⟩,λz=>by cases z⟩
  ·have e:¬p.1=k:=by rw[h.1];exact hk
   rw[zfQ e];have ew:vlK (q::kvs) k=vlK kvs k:=by simp [vlK,bM,hk]
   rw[ew];exact ih
theorem RpK.any{kvs:List (Key×W)}{ps:List (Key×V)}(r:RpK K H kvs ps) (k:Key):(ps.any λkv=>decide (kv.1=k))=kvs.any λkv=>decide (kv.1=k):=by
 induction r with
 |nil=>rfl
 | @cons q p kvs ps h t ih=>
  rw[cU,cU,ih,h.1]
theorem RpK.put{kvs:List (Key×W)}{ps:List (Key×V)}(r:RpK K H kvs ps) (k:Key) {w:W}{v:V}(rw':Rep K H w v):RpK K H (ptK kvs k w) (zhY ps k v):=by
 unfold ptK zhY;rw[r.any k];split
 ·rename_i hany;clear hany
  induction r with
  |nil=>exact .nil
  | @cons q p kvs ps h t ih=>
   rw[ay,ay];refine .cons ?_ ih;by_cases hk:q.1=k
   ·rw[if_pos hk,if_pos (by rw[h.1,hk])];exact⟨h.1,rw'⟩
   ·rw[if_neg hk,if_neg (by rw[h.1];exact hk)];exact h
 ·rename_i hany;clear hany
  induction r with
  |nil=>exact .cons ⟨rfl,rw'⟩ .nil
  |cons h t ih=>exact .cons h ih
theorem znS{w:W}{v:V}{k:Key}(r:Rep K H w v) (e:zpP w=ae k):v=kV k:=by
 cases r with
 |int i=>cases e;rfl
 |str x=>cases e;rfl
 |_=>simp [zpP]at e
theorem zvr{S:Sto}{a:Addr}{kvs:List (Key×W)}{y:V}{wy:W}{k:Key}(hS:RepS K H S) (e:S a=ae (.dk kvs)) (ry:Rep K H wy y) (ek:zpP wy=ae k):∃o,DGet H a y o∧(vlK kvs k=none→o=none)∧ ∀w,vlK kvs k=ae w→ ∃v,o=ae v∧Rep K H w v:=by
 obtain⟨ps,e1,r⟩:=hS a _ e;cases znS ry ek;have rv:=RpK.val r k;exact⟨zjF ps k, .k e1,rv.2,rv.1⟩
end
noncomputable def zuH:WE:=λ_ _ S Q=>∀a,S a=none→Q (.ref a) (put S a (.dk []))
noncomputable def zuP (td ty tv:WE):WS:=λE D σ S=>tv E σ S λv S1=>td E σ S1 λx S2=>ty E σ S2 λy S3=>match x with
 | .ref a=>match zpP y with
  |some k=>dkW S3 a λkvs=>kvs.length<sizeLine∧D.nx σ (put S3 a (.dk (ptK kvs k v)))
  |none=>False
 |_=>False
noncomputable def zni (td ty tz:WE):WE:=λE σ S Q=>td E σ S λx S1=>match x with
 | .ref a=>dkW S1 a λ_=>ty E σ S1 λy S2=>tz E σ S2 λz S3=>match zpP y with
  |some k=>dkW S3 a λkvs=>Q ((vlK kvs k).getD z) S3
  |none=>False
 |_=>False
section
variable {X:Cx}{a b o i e f value:Expr}{pos pos' apos cpos:aB}{td ty tv tz:WE}
theorem zuN:JE X (.Dict [] [] pos) zuH:=λE hE=>
 pe_dnewK.mono λσ H Q ⟨σW,S,QW,hσ,hS,ht,hQ⟩ p hp=>by
  refine hQ (.ref p) (put S p (.dk [])) (.ref p) _ (.newS hp) (.ref p) (λb o q=>?_) (ht p (hS.free hp));by_cases hb:b=p
  ·subst hb;rw[zag]at q;cases q;exact⟨[],zay, .nil⟩
  ·rw[zaD hb]at q;exact hS.new hp b o q
theorem zvR{k:Nat}(hr:Room k X.A) (ho:JE X o td) (hi:JE X i ty) (hv:JE X value tv) (hs:di value (ae (.Subscript o i pos')) pos.line X.env=pure false:=by rfl):JS X (.Assign [.Subscript o i pos'] value pos) (zuP td ty tv):=λE hE=>
 (zvI (by have:=hr.units;omega) (ho E hE) (hi E hE) (hv E hE) hs).mono λD σ H ⟨σW,S,DW,hσ,hS,ht,hD⟩=>
  ⟨σW,S,_,hσ,hS,ht,λw S1 v H1 e1 r1 hS1 h1=>⟨σW,S1,_,hσ.ext e1,hS1,h1,λwx S2 x H2 e2 r2 hS2 h2=>⟨σW,S2,_,(hσ.ext e1).ext e2,hS2,h2,λwy S3 y H3 e3 r3 hS3 h3=>by
   split at h3
   ·split at h3
    ·rename_i a _ k ek;obtain⟨kvs,ea,hl,h3⟩:=zoT h3;cases r2;obtain⟨ps,e4,r4⟩:=hS3 a _ ea;cases znS r3 ek;have r1':Rep X.K H3 w v:=(r1.ext e2).ext e3;have x4:Ext H3 S3 (upd H3 a (.dK (zhY ps k v))) (put S3 a (.dk (ptK kvs k w))):= .mut e4 ea (λ_ z=>nomatch z) λ_ _ z=>nomatch z;refine⟨a,_,rfl, .k e4 (by rw[←dD r4];exact hl),?_⟩;refine hD.nx _ (put S3 a (.dk (ptK kvs k w))) _ _ (((e1.trans e2).trans e3).trans x4) ((((hσ.ext e1).ext e2).ext e3).ext x4) (λc ob q=>?_) h3;by_cases hc:c=a
     ·subst hc;rw[zag]at q;cases q;exact⟨_,zay,Paired.mapP (RpK.put r4 k r1') λ_ _ z=>⟨z.1,z.2.ext x4⟩⟩
     ·rw[zaD hc]at q;exact(hS3 c ob q).keep x4 λu z=>by rw[zaz hc];exact z
    ·exact h3.elim
   ·exact h3.elim⟩⟩⟩
theorem znr{k:Nat}(hr:Room k X.A) (ho:JE X o td) (he:JE X e ty) (hf:JE X f tz) (m:M2 X o "get" apos e f cpos:=by exact⟨rfl,rfl,rfl,rfl⟩):JE X (.Call (.Attribute o "get" apos) [e,f] [] cpos) (zni td ty tz):=λE hE=>
 (zsj (by have:=hr.units;omega) (ho E hE) (he E hE) (hf E hE) m).mono λσ H Q ⟨σW,S,QW,hσ,hS,ht,hQ⟩=>
  ⟨σW,S,_,hσ,hS,ht,λwx S1 x H1 e1 r1 hS1 h1=>by
   split at h1
   ·rename_i a;obtain⟨kv0,ea0,h1⟩:=zoT h1;cases r1;obtain⟨ps0,e0,_⟩:=hS1 a _ ea0;refine⟨a,rfl, .inl ⟨_, .inl e0⟩,σW,S1,_,hσ.ext e1,hS1,h1,λwy S2 y H2 e2 r2 hS2 h2=>⟨σW,S2,_,(hσ.ext e1).ext e2,hS2,h2,λwz S3 z H3 e3 r3 hS3 h3=>?_⟩⟩;split at h3
    ·rename_i k ek;obtain⟨kvs,ea,h3⟩:=zoT h3;obtain⟨o,g,g0,g1⟩:=zvr hS3 ea (r2.ext e3) ek;refine⟨o,g,?_⟩;cases q:vlK kvs k with
     |none=>
      rw[q]at h3;rw[g0 q];exact hQ wz S3 z H3 ((e1.trans e2).trans e3) r3 hS3 h3
     |some w=>
      rw[q]at h3;obtain⟨v,rfl,rv⟩:=g1 w q;exact hQ w S3 v H3 ((e1.trans e2).trans e3) rv hS3 h3
    ·exact h3.elim
   ·exact h1.elim⟩
end
section
variable {E:WX}{D:WEnds}{σ:WSt}{S:Sto}{Q:WK}
theorem zvl:(zuH E σ S Q)= ∀a,S a=none→Q (.ref a) (put S a (.dk [])):=pz id id
theorem zqt{td ty tv:WE}:(zuP td ty tv E D σ S)=(tv E σ S λv S1=>td E σ S1 λx S2=>ty E σ S2 λy S3=>match x with
 | .ref a=>match zpP y with
  |some k=>dkW S3 a λkvs=>kvs.length<sizeLine∧D.nx σ (put S3 a (.dk (ptK kvs k v)))
  |none=>False
 |_=>False):=pz id id
theorem zmU{td ty tz:WE}:(zni td ty tz E σ S Q)=(td E σ S λx S1=>match x with
 | .ref a=>dkW S1 a λ_=>ty E σ S1 λy S2=>tz E σ S2 λz S3=>match zpP y with
  |some k=>dkW S3 a λkvs=>Q ((vlK kvs k).getD z) S3
  |none=>False
 |_=>False):=pz id id
end
noncomputable def Itv (K:aj) (a:Addr) (n:Nat):It:=
 ⟨λi H=>∃xs x,SqL K H a xs∧xs.length=n∧xs.reverse[i]? =ae x,λi H x H'=>H'=H∧ ∀xs,SqL K H a xs→xs.reverse[i]? =ae x,λi H=>n≤i⟩
theorem zsX{P:aE}{w:aC}{K:aj}{tg:Expr}(a it:Addr) (n:Nat):Turn P w K tg (Itv K a n) [it] it (λi h=>i≤n∧h.IsRevIter it a ((n:Int) - 1 - (i:Int))) where
  mem:=by simp
  obj:=λi h st b hb=>by
    have e:b=it:=by simpa using hb
    subst e;obtain⟨_,o,e,c,d⟩:=st;exact⟨o,e,λv z=>by rw[d]at z;cases z⟩
  keep:=λi h h' st k=>⟨st.1,st.2.at λo e=>k it (by simp) o e⟩
  item:=by
    intro X hP hw hK hc i pins s σ H E I hf st hg;subst hP hw hK;obtain⟨xs,x,hq,hn,hx⟩:=hg;obtain⟨its,rv,p,hz⟩:=I.list hq;have hi:i<xs.length:=by
      have:=(cf.mp hx).1;simpa using this
    have hx':xs[n - 1 - i]? =ae x:=by
      rw[List.getElem?_reverse hi]at hx;rw[←hn];exact hx
    obtain⟨u,hu,ru⟩:=rv.get hx';obtain⟨f0,f1,f2,f3,f4,f5⟩:=hf it (by simp);have e1:(n:Int) - 1 - (i:Int)=((n - 1 - i:Nat):Int):=by omega
    have hit:=st.2;rw[e1]at hit;refine wpAny_pyNext_rev_item hit p.isList (x:=u) (by simpa using hu) λh' st' sb=>?_;have e2:((n - 1 - i:Nat):Int) - 1=(n:Int) - 1 - ((i+1:Nat):Int):=by omega
    rw[e2]at st';have I1:Inv X pins σ H { s with heap:=h' }:=I.turned (t':=s.toks) (λb o hb e=>(sb.2 b hb).trans e) f0 f1 f3 f4 f5;obtain⟨o,e,c,d⟩:=id st';exact⟨u,rfl,zrF (s:={ s with heap:=h' }) e c d (by decide) ⟨x,H,I1,ru,⟨rfl,λys hy=>by rw[I.list_inj hy hq];exact hx⟩,⟨by omega,st'⟩,λb hb=>(hf b hb).1⟩⟩
  done:=by
    intro X hP hw hK hc i pins s σ H E I hf st hg;subst hP hw hK;have hg':n≤i:=hg;obtain⟨f0,f1,f2,f3,f4,f5⟩:=hf it (by simp);have hit:=st.2;rw[show(n:Int) - 1 - (i:Int)= -1 by have:=st.1;omega]at hit
    exact wpAny_pyNext_rev_end (I.ok.hd hc) hit λh' eb=>⟨rfl,I.turned (t':=s.toks) (λb o hb e=>eb b o hb e) f0 f1 f3 f4 f5⟩
  self:=λ_ _ _ _ _ st h=>jU st.2 h
section
variable {X:Cx}{tg:Expr}
noncomputable def zBP (K:aj) (ta:TA):TI:=λσ H R=>ta σ H λvs H1=>∃a xs,vs=[.ref a]∧SqL K H1 a xs∧R (Itv K a xs.length) H1
theorem zxZ{a:Expr}{ta:TA}{p pos:aB}(hg:Gl X "reversed") (hm:X.mg "reversed" =none) (ha:PA X [a] ta) (hs:ao [a] X.env=[(false,az a X.env)]:=by rfl):PI X tg (.Call (.Name "reversed" p) [a] [] pos) (zBP X.K ta):=by
 intro pins s σ H R I h;refine Call_ (zhd I hg hm PyProof.Rows.boot_reversed (eY (thn (ha pos pins s σ H _ I h) λus s1 ⟨vs,H1,I1,r1,q1⟩=>?_) hs rfl));obtain⟨a,xs,e,hq,q⟩:=q1;subst e;cases r1 with
 |cons r rr=>
  cases rr;cases(show _=bc a from r);obtain⟨its,rv,pl,hz⟩:=I1.list hq;have hl:s1.heap.IsList a its.toArray:=pl.isList;have hlen:=rv.length;refine PySem.call_reversed_list hl ?_;have ho:(s1.heap.push (gb a ((its.toArray.size:Int) - 1))).get? s1.heap.objs.size=ae (gb a ((its.toArray.size:Int) - 1)):=bt _ rfl;have hit:(s1.heap.push (gb a ((its.toArray.size:Int) - 1))).IsRevIter s1.heap.objs.size a ((its.toArray.size:Int) - 1):=⟨_,ho,rfl,rfl⟩;refine jU (s:={ s1 with heap:=s1.heap.push (gb a ((its.toArray.size:Int) - 1)) }) hit ?_;refine⟨s1.heap.objs.size,[s1.heap.objs.size],_,_,H1,rfl,I1.kept (t':=s1.toks) λb o e=>aJ _ e,zsX a _ xs.length,⟨aS _,?_⟩,λb hb=>?_,q⟩
  ·have e:((xs.length:Int) - 1 - ((0:Nat):Int))=(its.toArray.size:Int) - 1:=by rw[aU];omega
   rw[e];exact hit
  ·have e:b=s1.heap.objs.size:=by simpa using hb
   subst e;exact I1.fpOk (ap _) (I1.hok.fresh (ap _))
theorem zyI{K:aj}{a:Addr}{ws:List W}{H0:Hp}{S0:Sto}:ItW K (Itv K a ws.length) ws.reverse (λS=>S a=ae (.lst ws)) H0 S0:=λi S H e hS hG=>by
 obtain⟨vs,f,r⟩:=hS a _ hG;have hl:=r.length;refine⟨λw ew=>?_,λh=>by rw[List.length_reverse]at h;exact cP h.symm⟩
 obtain⟨v,ev,rv⟩:=r.rev.get ew;refine⟨⟨vs,v, .of f,hl.symm,ev⟩,λx H' ⟨e1,e2⟩=>?_⟩;subst e1;have e3:=e2 vs (.of f);rw[ev]at e3;cases e3;exact⟨.refl,hS,rv⟩
noncomputable def zAO (t:WE):WI:=λE σ S Q=>t E σ S λw S1=>match w with
 | .ref a=>zcE S1 a λws=>Q ws.reverse (λS'=>S' a=ae (.lst ws)) S1
 |_=>False
theorem zyX{a:Expr}{ta:WE}{p pos:aB}(hg:Gl X "reversed") (hm:X.mg "reversed" =none) (ha:JE X a ta) (hs:ao [a] X.env=[(false,az a X.env)]:=by rfl) (hs2:ao [a] X.env=(false,az a X.env)::ao [] X.env:=by rfl):JI X tg (.Call (.Name "reversed" p) [a] [] pos) (zAO ta):=λE hE=>
 (zxZ hg hm (zdh (ha E hE) pa_nil hs2) hs).mono λσ H R ⟨σW,S,QW,hσ,hS,ht,hR⟩=>⟨σW,S,_,hσ,hS,ht,λw S1 v H1 e1 r1 hS1 h1=>by
  cases r1 with
  |ref a=>
   obtain⟨ws,ea,h⟩:=zbn h1;obtain⟨vs,f,hs⟩:=hS1 a _ ea;refine⟨a,vs,rfl, .of f,?_⟩;rw[←hs.length];exact hR _ _ S1 _ H1 e1 hS1 ea zyI h
  |_=>exact h1.elim⟩
end
section
variable {E:WX}{σ:WSt}{S:Sto}{QI:List W→(Sto→Prop)→Sto→Prop}
theorem zzu{t:WE}:(zAO t E σ S QI)=(t E σ S λw S1=>match w with
 | .ref a=>zcE S1 a λws=>QI ws.reverse (λS'=>S' a=ae (.lst ws)) S1
 |_=>False):=pz id id
end
noncomputable def zcM:Nat→WSp
 |0=>zaU
 |r+1=>zcG 1 1 (zar (zbS (zgi (zoH "int" (zae 0))) (zaZ (zbO waNil)) zaF)
  (zaZ (wSl (zae 0) (woS (wC (.int 1))) woN)))
noncomputable def zcY (r:Nat) (self:WSp):WS:=(zda (wM rvL zhE (zae 1) (zab (zap (zcM r) (zab (zae 2) waNil)) waNil)))
noncomputable def zbV:Nat→WSp
 |0=>zaU
 |r+1=>zcG 3 1 (zar (wAsg (zcF (zdq waNil)) (wGN 1))
  (zar (zgs (wIv (zae 0)) (wGN 2) (zcY r zaU))
  (zaZ (zae 1))))
noncomputable def zgp (r:Nat) (self:WSp):WS:=(zar (zye 1 (λa b=>a+b) (wB zeh (zab (zae 3) waNil)))
  (zar (zye 2 (λa b=>a+b) (wC (.int 1)))
  (zar (zbS (wOr (wTb (wOp oGt (zae 1) (wC (.int 400)))) (wTb (wOp oGt (zae 2) (wC (.int 40))))) (zaZ (wC (.bl false))) zaF)
  (wAsg (zap (zbV r) (zab (zae 3) waNil)) (wGN 3)))))
noncomputable def zdI:Nat→WSp
 |0=>zaU
 |r+1=>zcG 4 1 (zar (wAsg (wC (.int 0)) (wGN 1))
  (zar (wAsg (wC (.int 0)) (wGN 2))
  (zar (wAsg (zcF (zdq (zab (zae 0) waNil))) (wGN 3))
  (zar (zpG (zgi (zae 3)) (zgp r zaU))
  (zaZ (wC (.bl true)))))))
noncomputable def zcK (r:Nat) (self:WSp):WS:=(zda (zap self (zab (zae 4) (zab (wOp zdr (zae 1) (zbO (zab (zae 3) waNil))) (zab (zae 2) waNil)))))
noncomputable def zaW:Nat→WSp
 |0=>zaU
 |r+1=>zcG 5 3 (zar (zda (wM rvL zbT (zae 2) (zab (zae 1) waNil)))
  (zgs (zom (zap (zcM r) (zab (zae 0) waNil))) (wGT (zaq (wGN 3) (zaq (wGN 4) zbE))) (zcK r (zaW r))))
noncomputable def zfD:Nat→WSp
 |0=>zaU
 |r+1=>zcG 2 1 (zar (wAsg (zcF (zdq waNil)) (wGN 1))
  (zar (zda (zap (zaW r) (zab (zae 0) (zab (zbO waNil) (zab (zae 1) waNil)))))
  (zaZ (zae 1))))
noncomputable def zbM:Nat→WSp
 |0=>zaU
 |r+1=>zcG 3 2 (zar (wAsg (zap (zcM r) (zab (zae 0) waNil)) (wGN 2))
  (zar (zbS (wOr (wTb (wOp oLt (zae 1) (wC (.int 0)))) (wTb (wOp oGe (zae 1) (wB zeh (zab (zae 2) waNil))))) (zhq "NoPlace" (zab (wC (.str "there is no such place")) waNil)) zaF)
  (zaZ (wOp oIx (zae 2) (zae 1)))))
noncomputable def ziO (r:Nat) (self:WSp):WS:=(wAsg (zap (zbM r) (zab (zae 2) (zab (zae 3) waNil))) (wGN 2))
noncomputable def zjL:Nat→WSp
 |0=>zaU
 |r+1=>zcG 4 2 (zar (wAsg (zae 0) (wGN 2))
  (zar (zgs (wIv (zae 1)) (wGN 3) (ziO r zaU))
  (zaZ (zae 2))))
noncomputable def zgA (r:Nat) (self:WSp):WE:=(zae 0)
noncomputable def zbW:Nat→WSp
 |0=>zaU
 |r+1=>zcG 1 1 (zaZ (zcF (zcW 1 [0] (wIv (zap (zfD r) (zab (zae 0) waNil))) (wGN 0) (zgi (zoH "int" (zap (zjL r) (zab (zae 1) (zab (zae 0) waNil))))) (zgA r zaU))))
noncomputable def ziu (r:Nat) (self:WSp):WE:=(zap self (zab (zae 0) (zab (zae 1) waNil)))
noncomputable def zdd:Nat→WSp
 |0=>zaU
 |r+1=>zcG 2 2 (zar (zbS (zgi (zoH "int" (zae 0))) (zaZ (wOp oIx (zae 1) (zae 0))) zaF)
  (zaZ (wOp zdr (zbO (zab (wOp oIx (zae 0) (wC (.int 0))) waNil)) (wBL zgh (zcW 1 [1] (wIv (wSl (zae 0) (woS (wC (.int 1))) woN)) (wGN 0) zgC (ziu r (zdd r)))))))
noncomputable def zbX:Nat→WSp
 |0=>zaU
 |r+1=>zcG 2 2 (zaZ (zsK (wOp (oEq false) (wOp oIx (zae 0) (wC (.int 0))) (wOp oIx (zae 1) (wC (.int 0)))) (wOp (oEq false) (wB zeh (zab (zae 0) waNil)) (wB zeh (zab (zae 1) waNil)))))
noncomputable def zcB (r:Nat) (self:WSp):WS:=(zbS (zrS (zgi (zap self (zab (zae 3) (zab (zae 4) (zab (zae 2) waNil)))))) (zaZ (wC (.bl false))) zaF)
noncomputable def zaE:Nat→WSp
 |0=>zaU
 |r+1=>zcG 5 3 (zar (zbS (zgi (zoH "int" (zae 0))) (zar (zda (wM rvL zbT (zae 2) (zab (zae 1) waNil)))
  (zaZ (wC (.bl true)))) zaF)
  (zar (zbS (zrS (zgi (zap (zbX r) (zab (zae 0) (zab (zae 1) waNil))))) (zaZ (wC (.bl false))) zaF)
  (zar (zgs (zuA (wSl (zae 0) (woS (wC (.int 1))) woN) (wSl (zae 1) (woS (wC (.int 1))) woN)) (wGT (zaq (wGN 3) (zaq (wGN 4) zbE))) (zcB r (zaE r)))
  (zaZ (wC (.bl true))))))
noncomputable def zbZ:Nat→WSp
 |0=>zaU
 |r+1=>zcG 3 2 (zar (wAsg (zcF (zdq waNil)) (wGN 2))
  (zar (zbS (zgi (zap (zaE r) (zab (zae 0) (zab (zae 1) (zab (zae 2) waNil))))) (zaZ (zae 2)) zaF)
  (zaZ (wC .non))))
noncomputable def zeP (r:Nat) (self:WSp):WS:=(zbS (wTb (wOp (oEq false) (wOp oIx (zae 2) (wC (.int 0))) (zae 1))) (zaZ (zae 2)) zaF)
noncomputable def zbc:Nat→WSp
 |0=>zaU
 |r+1=>zcG 3 2 (zar (zgs (wIv (zae 0)) (wGN 2) (zeP r zaU))
  (zaZ (wC .non)))
noncomputable def zbk:Nat→WSp
 |0=>zaU
 |r+1=>zcG 1 1 (zar (zbS (zrS (zgi (zap (zdI r) (zab (zae 0) waNil)))) (zhq "TooGreat" (zab (wC (.str "the shape is not small")) waNil)) zaF)
  (zaZ (zae 0)))
noncomputable def zeQ (r:Nat) (self:WSp):WE:=(zap self (zab (zae 1) (zab (zae 0) (zab (zae 2) waNil))))
noncomputable def zbL:Nat→WSp
 |0=>zaU
 |r+1=>zcG 5 3 (zar (wAsg (zcF (zcW 1 [0,2] (wIv (wSl (zae 1) (woS (wC (.int 1))) woN)) (wGN 0) zgC (zeQ r (zbL r)))) (wGN 3))
  (zar (wAsg (zap (zbc r) (zab (zae 0) (zab (wOp oIx (zae 1) (wC (.int 0))) waNil))) (wGN 4))
  (zar (zbS (wTb (wOp (oIs false) (zae 4) (wC .non))) (zaZ (wOp zdr (zbO (zab (wOp oIx (zae 1) (wC (.int 0))) waNil)) (wB zdt (zab (zae 3) waNil)))) zaF)
  (zaZ (zap (zdd r) (zab (wOp oIx (zae 4) (zae 2)) (zab (zae 3) waNil)))))))
noncomputable def zdw:Nat→WSp
 |0=>zaU
 |r+1=>zcG 2 2 (zaZ (zap (zbk r) (zab (zap (zbL r) (zab (zae 0) (zab (zae 1) (zab (wC (.int 1)) waNil)))) waNil)))
noncomputable def zfx:Nat→WSp
 |0=>zaU
 |r+1=>zcG 2 2 (zaZ (zap (zbk r) (zab (zap (zbL r) (zab (zae 0) (zab (zae 1) (zab (wC (.int 2)) waNil)))) waNil)))
noncomputable def zen (r:Nat) (self:WSp):WE:=(zbO (zab (zae 0) waNil))
noncomputable def zbQ:Nat→WSp
 |0=>zaU
 |r+1=>zcG 3 2 (zar (wAsg (zap (zbc r) (zab (zae 0) (zab (wOp oIx (zae 1) (wC (.int 0))) waNil))) (wGN 2))
  (zar (zbS (wTb (wOp (oIs false) (zae 2) (wC .non))) (zaZ (zcF (zcW 1 [] (ztX (zab (wOp (zfj λi j=> .int (i - j)) (wB zeh (zab (zae 1) waNil)) (wC (.int 1))) waNil)) (wGN 0) zgC (zen r zaU)))) zaF)
  (zaZ (zap (zbW r) (zab (wOp oIx (zae 2) (wC (.int 1))) waNil)))))
noncomputable def zef (r:Nat) (self:WSp):WS:=(zbS (wTb (wOp (oIs true) (zap (zbZ r) (zab (wOp oIx (zae 2) (wC (.int 1))) (zab (zae 1) waNil))) (wC .non))) (zaZ (zae 2)) zaF)
noncomputable def zbG:Nat→WSp
 |0=>zaU
 |r+1=>zcG 3 2 (zar (zgs (wIv (zae 0)) (wGN 2) (zef r zaU))
  (zaZ (wC .non)))
noncomputable def zdg (r:Nat) (self:WSp):WS:=(zda (zap self (zab (zae 0) (zab (zae 6) (zab (wOp zdr (zae 2) (zbO (zab (zae 5) waNil))) (zab (zae 3) waNil))))))
noncomputable def zbv:Nat→WSp
 |0=>zaU
 |r+1=>zcG 7 4 (zar (wAsg (zap (zbG r) (zab (zae 0) (zab (zae 1) waNil))) (wGN 4))
  (zar (zbS (wTb (wOp (oIs true) (zae 4) (wC .non))) (zda (wM rvL zbT (zae 3) (zab (zbO (zab (zae 2) (zab (wOp oIx (zae 4) (wC (.int 0))) waNil))) waNil))) zaF)
  (zgs (zom (wSl (zae 1) (woS (wC (.int 1))) woN)) (wGT (zaq (wGN 5) (zaq (wGN 6) zbE))) (zdg r (zbv r)))))
noncomputable def zcL:Nat→WSp
 |0=>zaU
 |r+1=>zcG 3 2 (zar (wAsg (zcF (zdq waNil)) (wGN 2))
  (zar (zda (zap (zbv r) (zab (zae 0) (zab (zae 1) (zab (zbO waNil) (zab (zae 2) waNil))))))
  (zaZ (zae 2))))
noncomputable def zfz (r:Nat) (self:WSp):WE:=(wOp oIx (zae 0) (wC (.int 0)))
noncomputable def zdo:Nat→WSp
 |0=>zaU
 |r+1=>zcG 1 1 (zaZ (zcF (zcW 1 [] (wIv (zae 0)) (wGN 0) zgC (zfz r zaU))))
noncomputable def zcX:Nat→WSp
 |0=>zaU
 |r+1=>zcG 3 2 (zar (wAsg (zap (zbG r) (zab (zae 0) (zab (zae 1) waNil))) (wGN 2))
  (zaZ (wOp zdr (zbO (zab (wOp oIx (zae 2) (wC (.int 0))) waNil)) (wB zdt (zab (zap (zbZ r) (zab (wOp oIx (zae 2) (wC (.int 1))) (zab (zae 1) waNil))) waNil)))))
noncomputable def zcT (r:Nat) (self:WSp):WS:=(zda (wM rvL zbT (zae 5) (zab (zap self (zab (zae 0) (zab (zae 7) (zab (wOp zdr (zae 2) (zae 6)) (zab (zae 3) waNil))))) waNil)))
noncomputable def zbb:Nat→WSp
 |0=>zaU
 |r+1=>zcG 8 4 (zar (wAsg (wIf (wTb (wOp (zyb false) (zae 2) (zae 3))) (zap (zcX r) (zab (zae 0) (zab (zae 1) waNil))) (zae 1)) (wGN 4))
  (zar (wAsg (zcF (zdq waNil)) (wGN 5))
  (zar (zgs (zuA (zap (zbQ r) (zab (zae 0) (zab (zae 4) waNil))) (wSl (zae 4) (woS (wC (.int 1))) woN)) (wGT (zaq (wGN 6) (zaq (wGN 7) zbE))) (zcT r (zbb r)))
  (zaZ (wOp zdr (zbO (zab (wOp oIx (zae 4) (wC (.int 0))) waNil)) (wB zdt (zab (zae 5) waNil)))))))
noncomputable def zgq (r:Nat) (self:WSp):WE:=(zbO (zab (zae 0) (zab (wC (.bl true)) waNil)))
noncomputable def zdK:Nat→WSp
 |0=>zaU
 |r+1=>zcG 3 3 (zaZ (zap (zbb r) (zab (zae 0) (zab (zae 1) (zab (zbO waNil) (zab (wBL zkQ (zcW 1 [] (wIv (zae 2)) (wGN 0) zgC (zgq r zaU))) waNil))))))
noncomputable def zir (r:Nat) (self:WSp):WS:=(zbS (wTb (wOp (oIn true) (zae 4) (zae 3))) (zhq "NoUse" (zab (wC (.str "no use is open at one of the places")) waNil)) zaF)
noncomputable def zeB:Nat→WSp
 |0=>zaU
 |r+1=>zcG 5 3 (zar (wAsg (zap (zdo r) (zab (zap (zcL r) (zab (zae 0) (zab (zae 1) waNil))) waNil)) (wGN 3))
  (zar (zgs (wIv (zae 2)) (wGN 4) (zir r zaU))
  (zaZ (zap (zdK r) (zab (zae 0) (zab (zae 1) (zab (zae 2) waNil)))))))
noncomputable def zhA (r:Nat) (self:WSp):WE:=(zap self (zab (zae 2) (zab (zae 0) (zab (zae 1) waNil))))
noncomputable def zdc:Nat→WSp
 |0=>zaU
 |r+1=>zcG 8 3 (zar (wAsg (zap (zbc r) (zab (zae 0) (zab (wOp oIx (zae 1) (wC (.int 0))) waNil))) (wGN 3))
  (zar (wAsg (zap (zbc r) (zab (zae 0) (zab (wOp oIx (zae 2) (wC (.int 0))) waNil))) (wGN 4))
  (zar (wAsg (wSl (zae 1) (woS (wC (.int 1))) woN) (wGN 5))
  (zar (wAsg (wSl (zae 2) (woS (wC (.int 1))) woN) (wGN 6))
  (zar (zbS (zrT (wTb (wOp (oIs false) (zae 3) (wC .non))) (wTb (wOp (oIs true) (zae 4) (wC .non)))) (wAsg (zap (zbZ r) (zab (wOp oIx (zae 4) (wC (.int 1))) (zab (zae 1) waNil))) (wGN 5)) zaF)
  (zar (zbS (zrT (wTb (wOp (oIs true) (zae 3) (wC .non))) (wTb (wOp (oIs false) (zae 4) (wC .non)))) (wAsg (zap (zbZ r) (zab (wOp oIx (zae 3) (wC (.int 1))) (zab (zae 2) waNil))) (wGN 6)) zaF)
  (zar (wAsg (zcF (zcW 2 [0] (zuA (zae 5) (zae 6)) (wGT (zaq (wGN 0) (zaq (wGN 1) zbE))) zgC (zhA r (zdc r)))) (wGN 7))
  (zar (zbS (wTb (wOp (oIs false) (zae 4) (wC .non))) (zaZ (wOp zdr (zbO (zab (wOp oIx (zae 1) (wC (.int 0))) waNil)) (wB zdt (zab (zae 7) waNil)))) zaF)
  (zaZ (zap (zdd r) (zab (wOp oIx (zae 4) (wC (.int 2))) (zab (zae 7) waNil))))))))))))
noncomputable def zdj (r:Nat) (self:WSp):WS:=(zda (zap (zfx r) (zab (zae 0) (zab (zae 2) waNil))))
noncomputable def zbu:Nat→WSp
 |0=>zaU
 |r+1=>zcG 3 2 (zgs (wIv (zae 1)) (wGN 2) (zdj r zaU))
noncomputable def zcC (r:Nat):WS:=(zaZ (zae 3))
noncomputable def zbF (r:Nat):WS:=(zda (wM rvL zbT (zae 3) (zab (zae 5) waNil)))
noncomputable def zbz (r:Nat) (T:WS):WS:=(zar (zda (zap (zbu r) (zab (zae 0) (zab (zcF (zdq (zab (zae 5) waNil))) waNil)))) T)
noncomputable def zbD (r:Nat) (T:WS):WS:=(zar (wAsg (zap (zdc r) (zab (zae 0) (zab (wOp oIx (zae 3) (zoa (wC (.int 1)))) (zab (zae 4) waNil)))) (wGN 5)) T)
noncomputable def zcA (r:Nat) (self:WSp):WS:=(zbD r (zbz r (zbF r)))
noncomputable def zcz (r:Nat) (T:WS):WS:=(zar (zgs (wIv (zae 2)) (wGN 4) (zcA r zaU)) T)
noncomputable def zcp (r:Nat) (T:WS):WS:=(zar (wAsg (zcF (zdq (zab (zae 1) waNil))) (wGN 3)) T)
noncomputable def zcw:Nat→WSp
 |0=>zaU
 |r+1=>zcG 6 3 (zcp r (zcz r (zcC r)))
noncomputable def zgG (r:Nat):WS:=(zaZ (zbO (zab (zae 3) (zab (zae 5) waNil))))
noncomputable def zmz (r:Nat) (self:WSp):WE:=(zap (zdc r) (zab (zae 2) (zab (zae 0) (zab (zae 1) waNil))))
noncomputable def zeu (r:Nat):WS:=(zda (wM rvL zbT (zae 5) (zab (zae 4) waNil)))
noncomputable def zek (r:Nat) (T:WS):WS:=(zar (zda (wM rvL zbT (zae 3) (zab (zae 7) waNil))) T)
noncomputable def zej (r:Nat) (T:WS):WS:=(zar (wAsg (zcF (zcW 2 [0] (zuA (zae 4) (zae 7)) (wGT (zaq (wGN 0) (zaq (wGN 1) zbE))) zgC (zmz r zaU))) (wGN 4)) T)
noncomputable def zev (r:Nat) (T:WS):WS:=(zar (wAsg (zap (zcw r) (zab (zae 0) (zab (zae 6) (zab (zae 4) waNil)))) (wGN 7)) T)
noncomputable def zgQ (r:Nat) (self:WSp):WS:=(zev r (zej r (zek r (zeu r))))
noncomputable def zgI (r:Nat) (T:WS):WS:=(zar (zgs (wIv (wOp oIx (zae 1) (wC (.int 1)))) (wGN 6) (zgQ r zaU)) T)
noncomputable def zfr (r:Nat) (T:WS):WS:=(zar (wAsg (zcF (zdq (zab (zae 4) waNil))) (wGN 5)) T)
noncomputable def zfp (r:Nat) (T:WS):WS:=(zar (wAsg (zcF (zlK (wOp oIx (zae 2) (wC (.int 1))))) (wGN 4)) T)
noncomputable def zfM (r:Nat) (T:WS):WS:=(zar (wAsg (zcF (zdq waNil)) (wGN 3)) T)
noncomputable def zfo (r:Nat) (T:WS):WS:=(zar (zda (zap (zbu r) (zab (zae 0) (zab (wOp oIx (zae 2) (wC (.int 1))) waNil)))) T)
noncomputable def zfH (r:Nat) (T:WS):WS:=(zar (zda (zap (zbu r) (zab (zae 0) (zab (wOp oIx (zae 1) (wC (.int 1))) waNil)))) T)
noncomputable def zfA (r:Nat) (T:WS):WS:=(zar (zda (zap (zbk r) (zab (wOp oIx (zae 1) (wC (.int 0))) waNil))) T)
noncomputable def zfR (r:Nat) (T:WS):WS:=(zar (zbS (wTb (wOp (oEq true) (wOp oIx (zae 1) (wC (.int 0))) (wOp oIx (zae 2) (wC (.int 0))))) (zhq "Apart" (zab (wC (.str "the roads are not from one shape")) waNil)) zaF) T)
noncomputable def zkN:Nat→WSp
 |0=>zaU
 |r+1=>zcG 8 3 (zfR r (zfA r (zfH r (zfo r (zfM r (zfp r (zfr r (zgI r (zgG r)))))))))
noncomputable def zeT (r:Nat) (self:WSp):WE:=(wOp oIx (zae 0) (zoa (wC (.int 1))))
noncomputable def zcV:Nat→WSp
 |0=>zaU
 |r+1=>zcG 1 1 (zaZ (zcF (zcW 1 [] (wIv (wOp oIx (zae 0) (wC (.int 0)))) (wGN 0) zgC (zeT r zaU))))
noncomputable def zcm (r:Nat) (self:WSp):WS:=(zar (wAsg (zap (zdw r) (zab (zae 0) (zab (zae 5) waNil))) (wGN 7))
  (zar (wAsg (zap (zfx r) (zab (zae 0) (zab (zae 5) waNil))) (wGN 8))
  (zar (wAsg (wIf (zgi (zae 6)) (zae 7) (zae 8)) (wGN 9))
  (zar (zbS (wTb (wOp (oEq true) (zae 9) (wOp oIx (zae 4) (wC (.int 0))))) (zhq "Apart" (zab (wC (.str "a step does not stand where the winding stands")) waNil)) zaF)
  (zbS (zgi (zae 6)) (zar (wAsg (zap (zkN r) (zab (zae 0) (zab (zbO (zab (zae 7) (zab (zcF (zdq (zab (zae 5) waNil))) waNil))) (zab (zae 4) waNil)))) (wGN 10))
  (zar (wAsg (zbO (zab (zae 1) (zab (wOp zdr (wOp oIx (zae 3) (wC (.int 1))) (zap (zcV r) (zab (zae 10) waNil))) waNil))) (wGN 3))
  (wAsg (zbO (zab (zae 8) (zab (wOp oIx (wOp oIx (zae 10) (wC (.int 1))) (zoa (wC (.int 1)))) waNil))) (wGN 4)))) (wAsg (zbO (zab (zae 7) (zab (zcF (zps (zdq (zab (zae 5) waNil)) (wOp oIx (zae 4) (wC (.int 1))))) waNil))) (wGN 4)))))))
noncomputable def zeC:Nat→WSp
 |0=>zaU
 |r+1=>zcG 11 3 (zar (wAsg (zbO (zab (zae 1) (zab (zcF (zdq waNil)) waNil))) (wGN 3))
  (zar (wAsg (zbO (zab (zae 1) (zab (zcF (zdq waNil)) waNil))) (wGN 4))
  (zar (zgs (wIv (zae 2)) (wGT (zaq (wGN 5) (zaq (wGN 6) zbE))) (zcm r zaU))
  (zaZ (zbO (zab (zae 3) (zab (zae 4) waNil)))))))
noncomputable def zbf:Nat→WSp
 |0=>zaU
 |r+1=>zcG 2 2 (zar (zbS (wTb (wOp oLt (zae 1) (wB zeh (zab (zae 0) waNil)))) (zaZ (wOp oIx (zae 0) (zae 1))) zaF)
  (zaZ (wC (.int 0))))
noncomputable def zeW (r:Nat) (self:WSp):WE:=(wOp oIx (zae 1) (wOp (zdb (λ_ j=>0<j) λi j=> .int (i % j)) (wOp zdr (wOp oIx (zae 2) (zae 0)) (wOp (zdb CMul λi j=> .int (i*j)) (zae 3) (wB zwC (zab (wOp (oEq false) (zae 0) (zae 4)) waNil)))) (wC (.int 26))))
noncomputable def zeU (r:Nat) (self:WSp):WS:=(zar (wAsg (wML rvS zkW (wC (.str "")) (zcW 1 [3,5,6,7] (ztX (zab (wB zeh (zab (zae 5) waNil)) waNil)) (wGN 0) zgC (zeW r zaU))) (wGN 9))
  (zar (zbS (zgi (zae 2)) (wAsg (wOp zdr (wM rvS znd (wOp oIx (zae 9) (wC (.int 0))) waNil) (wSl (zae 9) (woS (wC (.int 1))) woN)) (wGN 9)) zaF)
  (zda (wM rvL zbT (zae 8) (zab (zae 9) waNil)))))
noncomputable def zdz (r:Nat) (self:WSp):WS:=(zar (zda (wM rvL zbT (zae 5) (zab (wOp (zdb (λ_ j=>0<j) λi j=> .int (i % j)) (zae 4) (wC (.int 26))) waNil)))
  (wAsg (wOp (zdb zib λi j=> .int (i / j)) (zae 4) (wC (.int 26))) (wGN 4)))
noncomputable def zch:Nat→WSp
 |0=>zaU
 |r+1=>zcG 10 3 (zar (wAsg (wC (.str "abcdefghijklmnopqrstuvwxyz")) (wGN 3))
  (zar (wAsg (wOp (zdb (λ_ j=>0<j) λi j=> .int (i % j)) (zae 1) (wOp (zdb zAf λi j=> .int (i ^ j.toNat)) (wC (.int 26)) (wC (.int 8)))) (wGN 4))
  (zar (wAsg (zcF (zdq waNil)) (wGN 5))
  (zar (zgs (ztX (zab (wOp zdr (wC (.int 1)) (wOp (zdb (λ_ j=>0<j) λi j=> .int (i % j)) (zae 0) (wC (.int 8)))) waNil)) (wGN 6) (zdz r zaU))
  (zar (wAsg (wOp (zdb (λ_ j=>0<j) λi j=> .int (i % j)) (wOp (zdb zib λi j=> .int (i / j)) (zae 0) (wC (.int 8))) (wB zeh (zab (zae 5) waNil))) (wGN 7))
  (zar (wAsg (zcF (zdq waNil)) (wGN 8))
  (zar (zgs (ztX (zab (wC (.int 6)) waNil)) (wGN 6) (zeU r zaU))
  (zar (zbS (zrT (wTb (wOp (oEq false) (wOp (zdb (λ_ j=>0<j) λi j=> .int (i % j)) (wOp (zdb zib λi j=> .int (i / j)) (zae 0) (wC (.int 64))) (wC (.int 2))) (wC (.int 1)))) (zrS (zgi (zae 2)))) (wAsg (zcF (zow (zwB (zae 8) woN (woS (wC (.int 3)))) (zdq (zab (wOp oIx (zae 8) (wC (.int 2))) (zab (wOp oIx (zae 8) (wC (.int 2))) (zab (wOp oIx (zae 8) (wC (.int 5))) waNil)))))) (wGN 8)) zaF)
  (zaZ (zae 8))))))))))
noncomputable def zdx (r:Nat) (self:WSp):WE:=(zap self (zab (zae 0) waNil))
noncomputable def zax:Nat→WSp
 |0=>zaU
 |r+1=>zcG 1 1 (zar (zbS (zgi (zoH "int" (zae 0))) (zaZ (wC (.int 1))) zaF)
  (zaZ (wBL zrA (zcW 1 [] (wIv (wSl (zae 0) (woS (wC (.int 1))) woN)) (wGN 0) zgC (zdx r (zax r))))))
noncomputable def zet (r:Nat) (self:WSp):WE:=(zap self (zab (zae 0) (zab (zae 1) waNil)))
noncomputable def zbl:Nat→WSp
 |0=>zaU
 |r+1=>zcG 2 2 (zar (zbS (zgi (zoH "int" (zae 0))) (zaZ (wOp oIx (zae 1) (zae 0))) zaF)
  (zaZ (wOp zdr (wSl (zae 0) woN (woS (wC (.int 1)))) (wBL zgh (zcW 1 [1] (wIv (wSl (zae 0) (woS (wC (.int 1))) woN)) (wGN 0) zgC (zet r (zbl r)))))))
noncomputable def zcN:Nat→WSp
 |0=>zaU
 |r+1=>zcG 3 3 (zar (zbS (zrT (wTb (wOp oGt (zae 1) (wC (.int 0)))) (wTb (wOp oGt (wOp (zdb (λ_ j=>0<j) λi j=> .int (i % j)) (zae 0) (wC (.int 4))) (wC (.int 0))))) (zaZ (wOp (zdb (λ_ j=>0<j) λi j=> .int (i % j)) (wOp (zdb zib λi j=> .int (i / j)) (zae 0) (wC (.int 4))) (zae 1))) zaF)
  (zaZ (zbO (zab (wOp oIx (zae 2) (zsT (zdq (zab (wC (.int 2)) (zab (wC (.int 5)) waNil))) (wOp (zdb (λ_ j=>0<j) λi j=> .int (i % j)) (wOp (zdb zib λi j=> .int (i / j)) (zae 0) (wC (.int 4))) (wC (.int 2))))) waNil))))
noncomputable def zci:Nat→WSp
 |0=>zaU
 |r+1=>zcG 6 3 (zar (wAsg (zap (zcN r) (zab (wOp (zdb zib λi j=> .int (i / j)) (zae 0) (wC (.int 7))) (zab (zae 1) (zab (zae 2) waNil)))) (wGN 3))
  (zar (wAsg (zap (zcN r) (zab (wOp (zdb zib λi j=> .int (i / j)) (zae 0) (wC (.int 700))) (zab (zae 1) (zab (zae 2) waNil)))) (wGN 4))
  (zar (wAsg (wOp (zdb (λ_ j=>0<j) λi j=> .int (i % j)) (zae 0) (wC (.int 7))) (wGN 5))
  (zar (zbS (wTb (wOp (oEq false) (zae 5) (wC (.int 0)))) (zaZ (zae 3)) zaF)
  (zar (zbS (wOr (wTb (wOp (oEq false) (zae 5) (wC (.int 1)))) (wTb (wOp (oEq false) (zae 1) (wC (.int 0))))) (zaZ (zbO (zab (wOp oIx (zae 2) (wC (.int 3))) (zab (zae 3) waNil)))) zaF)
  (zar (zbS (wTb (wOp (oEq false) (zae 5) (wC (.int 2)))) (zaZ (zbO (zab (wOp oIx (zae 2) (wC (.int 4))) (zab (zae 3) (zab (zae 4) waNil))))) zaF)
  (zar (zbS (wTb (wOp (oEq false) (zae 5) (wC (.int 3)))) (zaZ (zbO (zab (wOp oIx (zae 2) (wC (.int 4))) (zab (zae 3) (zab (zae 3) waNil))))) zaF)
  (zar (zbS (wTb (wOp (oEq false) (zae 5) (wC (.int 4)))) (zaZ (zbO (zab (wOp oIx (zae 2) (wC (.int 4))) (zab (zbO (zab (wOp oIx (zae 2) (wC (.int 3))) (zab (zae 3) waNil))) (zab (zae 4) waNil))))) zaF)
  (zar (zbS (wTb (wOp (oEq false) (zae 5) (wC (.int 5)))) (zaZ (zbO (zab (wOp oIx (zae 2) (wC (.int 0))) (zab (zae 3) waNil)))) zaF)
  (zaZ (zbO (zab (wOp oIx (zae 2) (wC (.int 1))) (zab (zae 3) (zab (zae 4) waNil))))))))))))))
noncomputable def zbA:Nat→WSp
 |0=>zaU
 |r+1=>zcG 4 4 (zar (zbS (wTb (wOp (oEq false) (zae 0) (wC (.int 0)))) (zaZ (zcF (zdq (zab (zbO (zab (zae 1) (zab (wC (.int 0)) waNil))) waNil)))) zaF)
  (zar (zbS (wTb (wOp (oEq false) (zae 0) (wC (.int 1)))) (zaZ (zcF (zdq (zab (zbO (zab (zae 1) (zab (wC (.int 0)) (zab (wC (.int 1)) waNil)))) waNil)))) zaF)
  (zar (zbS (wTb (wOp (oEq false) (zae 0) (wC (.int 2)))) (zaZ (zcF (zdq (zab (zbO (zab (zae 1) (zab (zbO (zab (zae 2) waNil)) waNil))) (zab (zbO (zab (zae 1) (zab (zbO (zab (zae 3) (zab (wC (.int 0)) waNil))) waNil))) waNil))))) zaF)
  (zar (zbS (wTb (wOp (oEq false) (zae 0) (wC (.int 3)))) (zaZ (zcF (zdq (zab (zbO (zab (zae 1) (zab (zbO (zab (zae 2) waNil)) (zab (wC (.int 0)) waNil)))) (zab (zbO (zab (zae 1) (zab (zbO (zab (zae 3) (zab (wC (.int 0)) waNil))) (zab (wC (.int 1)) waNil)))) waNil))))) zaF)
  (zaZ (zcF (zdq (zab (zbO (zab (zae 1) waNil)) waNil))))))))
noncomputable def zdZ (r:Nat) (self:WSp):WS:=(zar (wAsg (zap (zci r) (zab (zap (zbf r) (zab (zae 0) (zab (wOp zdr (wOp zdr (wOp zdr (zae 1) (wC (.int 2))) (wOp (zdb CMul λi j=> .int (i*j)) (wC (.int 2)) (zae 5))) (zae 7)) waNil))) (zab (zap (zax r) (zab (zae 8) waNil)) (zab (zae 2) waNil)))) (wGN 9))
  (zda (wM rvL zbT (zae 4) (zab (zbO (zab (wOp oIx (zae 3) (wB zeh (zab (zae 4) waNil))) (zab (zae 8) (zab (zae 9) waNil)))) waNil))))
noncomputable def zdE (r:Nat) (self:WSp):WS:=(zar (wAsg (zap (zci r) (zab (zap (zbf r) (zab (zae 0) (zab (wOp zdr (wOp zdr (wOp zdr (zae 1) (wC (.int 2))) (wOp (zdb CMul λi j=> .int (i*j)) (wC (.int 2)) (zae 5))) (zae 7)) waNil))) (zab (zap (zax r) (zab (zae 8) waNil)) (zab (zae 2) waNil)))) (wGN 9))
  (zda (wM rvL zbT (zae 4) (zab (zbO (zab (wOp oIx (zae 3) (wB zeh (zab (zae 4) waNil))) (zab (zae 8) (zab (zae 9) waNil)))) waNil))))
noncomputable def zdL (r:Nat) (self:WSp):WS:=(zar (wAsg (zap (zbA r) (zab (wOp (zdb (λ_ j=>0<j) λi j=> .int (i % j)) (zap (zbf r) (zab (zae 0) (zab (wOp zdr (zae 1) (zae 5)) waNil))) (wC (.int 5))) (zab (wOp oIx (zae 2) (zae 5)) (zab (wOp oIx (zae 2) (wC (.int 2))) (zab (wOp oIx (zae 2) (wC (.int 3))) waNil))))) (wGN 6))
  (zgs (zom (zae 6)) (wGT (zaq (wGN 7) (zaq (wGN 8) zbE))) (zdE r zaU)))
noncomputable def zbN:Nat→WSp
 |0=>zaU
 |r+1=>zcG 10 4 (zar (wAsg (zcF (zdq waNil)) (wGN 4))
  (zar (zgs (ztX (zab (wC (.int 2)) waNil)) (wGN 5) (zdL r zaU))
  (zaZ (zae 4))))
noncomputable def zfG (r:Nat) (self:WSp):WS:=(wAsg (zcF (zow (zwB (zae 4) woN (woS (zoa (wC (.int 2))))) (zdq (zab (zbO (zab (zoa (wC (.int 1))) (zab (wC (.int 0)) (zab (wOp oIx (zae 2) (wC (.int 4))) (zab (wSl (zae 4) (woS (zoa (wC (.int 2)))) woN) waNil))))) waNil)))) (wGN 4))
noncomputable def zfE (r:Nat) (self:WSp):WS:=(zar (wAsg (wOp (zdb (λ_ j=>0<j) λi j=> .int (i % j)) (zae 6) (wC (.int 8))) (wGN 7))
  (zar (wAsg (zsT (zdq (zab (wC (.int 0)) (zab (wC (.int 0)) (zab (wC (.int 1)) (zab (wC (.int 2)) waNil))))) (wB zkt (zab (zae 7) (zab (wC (.int 3)) waNil)))) (wGN 8))
  (zar (wAsg (zbO (zab (zoa (wC (.int 1))) (zab (wC (.int 0)) (zab (wOp oIx (zae 2) (zsT (zdq (zab (wC (.int 2)) (zab (wC (.int 5)) (zab (wC (.int 3)) (zab (wC (.int 4)) waNil))))) (wB zkt (zab (zae 7) (zab (wC (.int 3)) waNil))))) waNil)))) (wGN 9))
  (zar (zbS (wTb (wOp oGt (zae 7) (wC (.int 3)))) (zar (wAsg (wOp (zdb (λ_ j=>0<j) λi j=> .int (i % j)) (wOp (zdb zib λi j=> .int (i / j)) (zae 6) (wC (.int 8))) (wB zeh (zab (zae 1) waNil))) (wGN 10))
  (zar (wAsg (zap (zax r) (zab (wOp oIx (wOp oIx (zae 1) (zae 10)) (wC (.int 1))) waNil)) (wGN 8))
  (zar (wAsg (zbO (zab (zae 10) (zab (wOp (zdb (λ_ j=>0<j) λi j=> .int (i % j)) (wOp (zdb zib λi j=> .int (i / j)) (zae 6) (wC (.int 64))) (wC (.int 8))) (zab (wC (.str "")) waNil)))) (wGN 9))
  (wAsg (wOp zdr (zae 5) (wC (.int 1))) (wGN 5))))) zaF)
  (zbS (zrT (wTb (wOp oGt (zae 3) (wC (.int 0)))) (wTb (wOp oLt (zae 5) (wC (.int 5))))) (zar (wAsg (wOp (zfj λi j=> .int (i - j)) (zae 3) (wC (.int 1))) (wGN 3))
  (zar (wAsg (zcF (zps (zti (zdq (zab (zbO (zab (zoa (wC (.int 1))) (zab (wC (.int 0)) (zab (wOp oIx (zae 2) (wC (.int 2))) (zab (zcF (zdq waNil)) waNil))))) waNil)) (wOp (zfj λi j=> .int (i - j)) (zae 8) (wB zeh (zab (zae 4) waNil)))) (zae 4))) (wGN 4))
  (zar (wAsg (wOp (zfj λi j=> .int (i - j)) (wB zeh (zab (zae 4) waNil)) (zae 8)) (wGN 11))
  (wAsg (zcF (zow (zwB (zae 4) woN (woS (zae 11))) (zdq (zab (wOp zdr (zae 9) (zbO (zab (wSl (zae 4) (woS (zae 11)) woN) waNil))) waNil)))) (wGN 4))))) zaF)))))
noncomputable def zcQ:Nat→WSp
 |0=>zaU
 |r+1=>zcG 12 4 (zar (wAsg (zcF (zdq waNil)) (wGN 4))
  (zar (wAsg (wC (.int 0)) (wGN 5))
  (zar (zgs (wIv (zae 0)) (wGN 6) (zfE r zaU))
  (zar (zpG (wTb (wOp oGt (wB zeh (zab (zae 4) waNil)) (wC (.int 1)))) (zfG r zaU))
  (zaZ (zsT (zsb (zae 4) (zdq (zab (zbO (zab (zoa (wC (.int 1))) (zab (wC (.int 0)) (zab (wOp oIx (zae 2) (wC (.int 5))) (zab (zcF (zdq waNil)) waNil))))) waNil))) (wC (.int 0))))))))
noncomputable def zgv (r:Nat) (self:WSp):WE:=(zap self (zab (zae 0) (zab (zae 1) (zab (zae 2) waNil))))
noncomputable def zcO:Nat→WSp
 |0=>zaU
 |r+1=>zcG 8 3 (zar (wAsg (zae 0) (wGT (zaq (wGN 3) (zaq (wGN 4) (zaq (wGN 5) (zaq (wGN 6) zbE))))))
  (zar (wAsg (zcF (zcW 1 [1,2] (wIv (zae 6)) (wGN 0) zgC (zgv r (zcO r)))) (wGN 7))
  (zar (zbS (wTb (wOp oLt (zae 3) (wC (.int 0)))) (zaZ (wOp zdr (zbO (zab (zae 5) waNil)) (wB zdt (zab (zae 7) waNil)))) zaF)
  (zar (zbS (wTb (wOp (oEq false) (wOp (zdb (λ_ j=>0<j) λi j=> .int (i % j)) (wOp (zdb zib λi j=> .int (i / j)) (zae 4) (zae 2)) (wC (.int 2))) (wC (.int 1)))) (zaZ (wOp zdr (zbO (zab (wOp oIx (wOp oIx (zae 1) (zae 3)) (wC (.int 0))) waNil)) (wB zdt (zab (zae 7) waNil)))) zaF)
  (zaZ (zap (zbl r) (zab (wOp oIx (wOp oIx (zae 1) (zae 3)) (wC (.int 1))) (zab (zae 7) waNil))))))))
noncomputable def zfI (r:Nat) (self:WSp):WS:=(zbS (wTb (wOp (oEq false) (wOp oIx (zae 4) (wC (.int 0))) (wOp oIx (zae 1) (wC (.int 0))))) (zaZ (zap (zbl r) (zab (wOp oIx (zae 4) (zae 2)) (zab (zae 3) waNil)))) zaF)
noncomputable def zfN (r:Nat) (self:WSp):WE:=(zap self (zab (zae 1) (zab (zae 0) (zab (zae 2) waNil))))
noncomputable def zaQ:Nat→WSp
 |0=>zaU
 |r+1=>zcG 5 3 (zar (wAsg (zcF (zcW 1 [0,2] (wIv (wSl (zae 1) (woS (wC (.int 1))) woN)) (wGN 0) zgC (zfN r (zaQ r)))) (wGN 3))
  (zar (zgs (wIv (zae 0)) (wGN 4) (zfI r zaU))
  (zaZ (wOp zdr (wSl (zae 1) woN (woS (wC (.int 1)))) (wB zdt (zab (zae 3) waNil))))))
noncomputable def zdB (r:Nat) (self:WSp):WS:=(zbS (wTb (wOp (oIs false) (zap self (zab (zae 3) (zab (zae 4) (zab (zae 2) waNil)))) (wC .non))) (zaZ (wC .non)) zaF)
noncomputable def zaV:Nat→WSp
 |0=>zaU
 |r+1=>zcG 5 3 (zar (zbS (zgi (zoH "int" (zae 0))) (zar (zbS (wTb (wOp (oEq true) (zni (zae 2) (zae 0) (zae 1)) (zae 1))) (zaZ (wC .non)) zaF)
  (zar (zuP (zae 2) (zae 0) (zae 1))
  (zaZ (zae 2)))) zaF)
  (zar (zbS (wOr (wTb (wOp (oEq true) (wOp oIx (zae 0) (wC (.int 0))) (wOp oIx (zae 1) (wC (.int 0))))) (wTb (wOp (oEq true) (wB zeh (zab (zae 0) waNil)) (wB zeh (zab (zae 1) waNil))))) (zaZ (wC .non)) zaF)
  (zar (zgs (zuA (wSl (zae 0) (woS (wC (.int 1))) woN) (wSl (zae 1) (woS (wC (.int 1))) woN)) (wGT (zaq (wGN 3) (zaq (wGN 4) zbE))) (zdB r (zaV r)))
  (zaZ (zae 2)))))
noncomputable def zcJ:Nat→WSp
 |0=>zaU
 |r+1=>zcG 4 3 (zar (zbS (wTb (wOp (oEq false) (zae 1) (zbO waNil))) (zaZ (zae 2)) zaF)
  (zar (wAsg (wOp zdr (wOp oIx (zae 1) (wC (.int 0))) (wC (.int 1))) (wGN 3))
  (zaZ (wOp zdr (wOp zdr (wSl (zae 0) woN (woS (zae 3))) (zbO (zab (zap (zcJ r) (zab (wOp oIx (zae 0) (zae 3)) (zab (wSl (zae 1) (woS (wC (.int 1))) woN) (zab (zae 2) waNil)))) waNil))) (wSl (zae 0) (woS (wOp zdr (zae 3) (wC (.int 1)))) woN)))))
noncomputable def zdi (r:Nat) (self:WSp):WE:=(wOp zdr (zbO (zab (zae 1) waNil)) (zae 0))
noncomputable def zcf (r:Nat) (self:WSp):WS:=(wAsg (zcF (zsb (zae 1) (zcW 1 [2] (wIv (zap self (zab (zae 3) waNil))) (wGN 0) zgC (zdi r zaU)))) (wGN 1))
noncomputable def zaJ:Nat→WSp
 |0=>zaU
 |r+1=>zcG 4 1 (zar (wAsg (zcF (zdq (zab (zbO waNil) waNil))) (wGN 1))
  (zar (zgs (zom (wSl (zae 0) (woS (wC (.int 1))) woN)) (wGT (zaq (wGN 2) (zaq (wGN 3) zbE))) (zcf r (zaJ r)))
  (zaZ (zae 1))))
noncomputable def zdm (r:Nat) (self:WSp):WS:=(wAsg (wOp oIx (zae 0) (wOp zdr (zae 2) (wC (.int 1)))) (wGN 0))
noncomputable def zcs:Nat→WSp
 |0=>zaU
 |r+1=>zcG 3 2 (zar (zgs (wIv (zae 1)) (wGN 2) (zdm r zaU))
  (zaZ (zae 0)))
noncomputable def zfJ (r:Nat) (self:WSp):WE:=(zni (zae 1) (zae 0) (zbO (zab (zae 2) waNil)))
noncomputable def zdk:Nat→WSp
 |0=>zaU
 |r+1=>zcG 11 4 (zar (wAsg (wOp oIx (zae 0) (wOp (zdb (λ_ j=>0<j) λi j=> .int (i % j)) (zae 2) (wB zeh (zab (zae 0) waNil)))) (wGT (zaq (wGN 4) (zaq (wGN 5) (zaq (wGN 6) zbE)))))
  (zar (wAsg (zap (zaJ r) (zab (zae 1) waNil)) (wGN 7))
  (zar (wAsg (wOp oIx (zae 7) (wOp (zdb (λ_ j=>0<j) λi j=> .int (i % j)) (wOp (zdb zib λi j=> .int (i / j)) (zae 2) (wC (.int 4))) (wB zeh (zab (zae 7) waNil)))) (wGN 8))
  (zar (wAsg (zap (zaV r) (zab (zae 6) (zab (zap (zcs r) (zab (zae 1) (zab (zae 8) waNil))) (zab zuH waNil)))) (wGN 9))
  (zar (zbS (wTb (wOp (oIs false) (zae 9) (wC .non))) (zaZ (zae 1)) zaF)
  (zar (wAsg (zcF (zcW 1 [9,3] (ztX (zab (zap (zax r) (zab (zae 5) waNil)) waNil)) (wGN 0) zgC (zfJ r zaU))) (wGN 10))
  (zaZ (zap (zcJ r) (zab (zae 1) (zab (zae 8) (zab (wOp zdr (zbO (zab (zae 4) waNil)) (wB zdt (zab (zae 10) waNil))) waNil)))))))))))
noncomputable def zeo (r:Nat) (self:WSp):WE:=(wOp oIx (zae 0) (wC (.int 0)))
noncomputable def zcx:Nat→WSp
 |0=>zaU
 |r+1=>zcG 5 3 (zar (wAsg (zcF (zcW 1 [] (wIv (zap (zcL r) (zab (zae 0) (zab (zae 1) waNil)))) (wGN 0) zgC (zeo r zaU))) (wGN 3))
  (zar (zbS (wTb (wOp (oEq false) (zae 3) (zcF (zdq waNil)))) (zaZ (zae 1)) zaF)
  (zar (wAsg (zcF (zdq (zab (wOp oIx (zae 3) (wOp (zdb (λ_ j=>0<j) λi j=> .int (i % j)) (zae 2) (wB zeh (zab (zae 3) waNil)))) (zab (wOp oIx (zae 3) (wOp (zdb (λ_ j=>0<j) λi j=> .int (i % j)) (wOp (zdb zib λi j=> .int (i / j)) (zae 2) (wC (.int 64))) (wB zeh (zab (zae 3) waNil)))) waNil)))) (wGN 4))
  (zaZ (zap (zeB r) (zab (zae 0) (zab (zae 1) (zab (wSl (zae 4) woN (woS (wOp zdr (wC (.int 1)) (wOp (zdb (λ_ j=>0<j) λi j=> .int (i % j)) (wOp (zdb zib λi j=> .int (i / j)) (zae 2) (wC (.int 4096))) (wC (.int 2)))))) waNil))))))))
noncomputable def zbU (r:Nat) (self:WSp):WS:=(zbS (wTb (wOp oLt (wB zeh (zab (zae 5) waNil)) (zae 3))) (zar (wAsg (wOp (oEq false) (wOp (zdb (λ_ j=>0<j) λi j=> .int (i % j)) (zae 7) (wC (.int 2))) (wC (.int 0))) (wGN 8))
  (zar (zbS (zgi (zae 8)) (zar (wAsg (zap (zcx r) (zab (zae 0) (zab (zae 6) (zab (wOp (zdb zib λi j=> .int (i / j)) (zae 7) (wC (.int 2))) waNil)))) (wGN 9))
  (wAsg (zap (zaQ r) (zab (zae 0) (zab (zae 9) (zab (wC (.int 2)) waNil)))) (wGN 6))) (zar (wAsg (zap (zdk r) (zab (zae 0) (zab (zae 6) (zab (wOp (zdb zib λi j=> .int (i / j)) (zae 7) (wC (.int 2))) (zab (zae 4) waNil))))) (wGN 9))
  (wAsg (zap (zaQ r) (zab (zae 0) (zab (zae 9) (zab (wC (.int 1)) waNil)))) (wGN 6))))
  (zda (wM rvL zbT (zae 5) (zab (zbO (zab (zae 9) (zab (zae 8) waNil))) waNil))))) zaF)
noncomputable def zbj:Nat→WSp
 |0=>zaU
 |r+1=>zcG 10 5 (zar (wAsg (zcF (zdq waNil)) (wGN 5))
  (zar (wAsg (zae 1) (wGN 6))
  (zar (zgs (wIv (zae 2)) (wGN 7) (zbU r zaU))
  (zaZ (zbO (zab (zae 5) (zab (zae 6) waNil)))))))
noncomputable def zcv (r:Nat):WS:=(zaZ (zae 2))
noncomputable def zbC (r:Nat):WS:=(wAsg (zap (zaQ r) (zab (zae 0) (zab (zae 3) (zab (wC (.int 2)) waNil)))) (wGN 2))
noncomputable def zcc (r:Nat) (T:WS):WS:=(zar (zbS (wTb (wOp (oEq true) (zap (zaQ r) (zab (zae 0) (zab (zae 3) (zab (wC (.int 1)) waNil)))) (zae 2))) (zaZ (wC .non)) zaF) T)
noncomputable def zcD (r:Nat) (self:WSp):WS:=(zcc r (zbC r))
noncomputable def zcr (r:Nat) (T:WS):WS:=(zar (zgs (wIv (wOp oIx (zae 1) (wC (.int 1)))) (wGN 3) (zcD r zaU)) T)
noncomputable def zco (r:Nat) (T:WS):WS:=(zar (wAsg (wOp oIx (zae 1) (wC (.int 0))) (wGN 2)) T)
noncomputable def zcq (r:Nat) (T:WS):WS:=(zar (zbS (wOr (zrS (zgi (zoH "tuple" (zae 1)))) (wOr (wTb (wOp (oEq true) (wB zeh (zab (zae 1) waNil)) (wC (.int 2)))) (zrS (zgi (zoH "list" (wOp oIx (zae 1) (wC (.int 1)))))))) (zaZ (wC .non)) zaF) T)
noncomputable def zbR:Nat→WSp
 |0=>zaU
 |r+1=>zcG 4 2 (zcq r (zco r (zcr r (zcv r))))
noncomputable def zeq (r:Nat) (self:WSp):WE:=(zae 0)
noncomputable def zbP:Nat→WSp
 |0=>zaU
 |r+1=>zcG 7 5 (zar (zbS (wOr (zrS (zgi (zoH "tuple" (zae 4)))) (wTb (wOp (oEq true) (wB zeh (zab (zae 4) waNil)) (wC (.int 2))))) (zaZ (wC (.bl false))) zaF)
  (zar (wAsg (zap (zbR r) (zab (zae 0) (zab (wOp oIx (zae 4) (wC (.int 0))) waNil))) (wGN 5))
  (zar (zbS (wOr (wTb (wOp (oIs false) (zae 5) (wC .non))) (wTb (wOp (oEq true) (zae 5) (zap (zbR r) (zab (zae 0) (zab (wOp oIx (zae 4) (wC (.int 1))) waNil)))))) (zaZ (wC (.bl false))) zaF)
  (zar (zbS (wOr (wTb (wOp (oEq true) (wOp oIx (wOp oIx (zae 4) (wC (.int 0))) (wC (.int 0))) (zae 1))) (wTb (wOp (oEq true) (wOp oIx (wOp oIx (zae 4) (wC (.int 1))) (wC (.int 0))) (zae 3)))) (zaZ (wC (.bl false))) zaF)
  (zar (wAsg (wB zeh (zab (zcF (zcW 1 [] (wIv (zae 2)) (wGN 0) (zgi (wOp oIx (zae 0) (wC (.int 1)))) (zeq r zaU))) waNil)) (wGN 6))
  (zaZ (zsK (wOp (oEq false) (wB zeh (zab (wOp oIx (wOp oIx (zae 4) (wC (.int 0))) (wC (.int 1))) waNil)) (zae 6)) (wOp (oEq false) (wB zeh (zab (wOp oIx (wOp oIx (zae 4) (wC (.int 1))) (wC (.int 1))) waNil)) (wOp (zfj λi j=> .int (i - j)) (wB zeh (zab (zae 2) waNil)) (zae 6))))))))))
noncomputable def zdV (r:Nat) (self:WSp):WE:=(zap self (zab (zae 0) (zab (zae 1) (zab (zae 2) waNil))))
noncomputable def zbw:Nat→WSp
 |0=>zaU
 |r+1=>zcG 3 3 (zar (zbS (zgi (zoH "int" (zae 0))) (zar (zda (wM rvL zbT (zae 1) (zab (zae 0) waNil)))
  (zaZ (zsT (zdq (zab (zae 0) (zab (zbO (zab (zae 2) waNil)) waNil))) (wB zwC (zab (wOp (oIn false) (zae 0) (wSl (zae 1) woN (woS (zoa (wC (.int 1)))))) waNil))))) zaF)
  (zaZ (wOp zdr (wSl (zae 0) woN (woS (wC (.int 1)))) (wBL zgh (zcW 1 [1,2] (wIv (wSl (zae 0) (woS (wC (.int 1))) woN)) (wGN 0) zgC (zdV r (zbw r)))))))
noncomputable def zeY (r:Nat):WS:=(zaZ (zap (zbP r) (zab (zae 3) (zab (zae 6) (zab (zae 7) (zab (zae 4) (zab (zap (zeC r) (zab (zae 3) (zab (zae 6) (zab (zae 7) waNil)))) waNil)))))))
noncomputable def zhK (r:Nat) (self:WSp):WE:=(zbO (zab (zae 0) (zab (zvk (zae 1)) waNil)))
noncomputable def zea (r:Nat) (T:WS):WS:=(zar (wAsg (zcF (zcW 2 [] (zAO (zae 5)) (wGT (zaq (wGN 0) (zaq (wGN 1) zbE))) zgC (zhK r zaU))) (wGN 7)) T)
noncomputable def zdN (r:Nat) (T:WS):WS:=(zar (zbS (zrS (zgi (zap (zbP r) (zab (zae 3) (zab (zae 4) (zab (zae 5) (zab (zae 6) (zab (zap (zeC r) (zab (zae 3) (zab (zae 4) (zab (zae 5) waNil)))) waNil)))))))) (zaZ (wC (.bl false))) zaF) T)
noncomputable def zdU (r:Nat) (T:WS):WS:=(zar (wAsg (zap (zbj r) (zab (zae 3) (zab (zae 4) (zab (wSl (zae 0) (woS (wC (.int 13))) woN) (zab (wC (.int 12)) (zab (wOp oIx (zae 1) (wC (.int 2))) waNil)))))) (wGT (zaq (wGN 5) (zaq (wGN 6) zbE)))) T)
noncomputable def zdY (r:Nat) (T:WS):WS:=(zar (wAsg (zap (zcO r) (zab (zap (zcQ r) (zab (wSl (zae 0) (woS (wC (.int 10))) (woS (wC (.int 13)))) (zab (zae 3) (zab (zae 1) (zab (wC (.int 4)) waNil))))) (zab (zae 3) (zab (wC (.int 8)) waNil)))) (wGN 4)) T)
noncomputable def zfc (r:Nat) (self:WSp):WE:=(zbO (zab (zae 0) (zab (zae 1) (zab (zap (zbw r) (zab (zae 2) (zab (zcF (zdq waNil)) (zab (wOp oIx (zae 3) (wC (.int 2))) waNil)))) waNil))))
noncomputable def zdQ (r:Nat) (T:WS):WS:=(zar (wAsg (zcF (zcW 3 [1] (wIv (zae 3)) (wGT (zaq (wGN 0) (zaq (wGN 1) (zaq (wGN 2) zbE)))) zgC (zfc r zaU))) (wGN 3)) T)
noncomputable def zed (r:Nat) (T:WS):WS:=(zar (wAsg (zap (zbN r) (zab (zae 0) (zab (wC (.int 4)) (zab (zae 1) (zab (zae 2) waNil))))) (wGN 3)) T)
noncomputable def zee (r:Nat) (T:WS):WS:=(zar (wAsg (zap (zch r) (zab (zap (zbf r) (zab (zae 0) (zab (wC (.int 2)) waNil))) (zab (zap (zbf r) (zab (zae 0) (zab (wC (.int 3)) waNil))) (zab (wC (.bl true)) waNil)))) (wGN 2)) T)
noncomputable def zdT (r:Nat) (T:WS):WS:=(zar (wAsg (zap (zch r) (zab (zap (zbf r) (zab (zae 0) (zab (wC (.int 0)) waNil))) (zab (zap (zbf r) (zab (zae 0) (zab (wC (.int 1)) waNil))) (zab (wC (.bl false)) waNil)))) (wGN 1)) T)
noncomputable def zdH:Nat→WSp
 |0=>zaU
 |r+1=>zcG 8 1 (zdT r (zee r (zed r (zdQ r (zdY r (zdU r (zdN r (zea r (zeY r)))))))))
theorem zgH{r:Nat}{t:Tr}{S:Sto}{Q:WK}{E:Str→Sto→Prop}(h:Q (.tup (encs t.kids)) S):zcM (r+1) [enc t] S Q E:=by
 rw[zcM];cases t with
 |bl n=>
  simp only[enc];walk_at "wd";exact⟨aS _,S, .refl,h⟩
 |nd s ts=>
  simp only[enc];walk_at "wd";exact⟨S, .refl,h⟩
mutual
noncomputable def Tr.pl (p:List Int):Tr→List (List Int)
 | .bl _=>[p]
 | .nd _ ts=>p::pls p 0 ts
noncomputable def pls (p:List Int) (i:Nat):List Tr→List (List Int)
 | []=>[]
 |t::ts=>t.pl (p++[(i:Int)])++pls p (i+1) ts
end
mutual
theorem zug:∀(t:Tr) (p:List Int),(t.pl p).length=t.weight
 | .bl _,p=>by simp [Tr.pl,Tr.weight]
 | .nd _ ts,p=>by simp [Tr.pl,Tr.weight,zpq ts p 0];omega
theorem zpq:∀(ts:List Tr) (p:List Int) (i:Nat),(pls p i ts).length=wts ts
 | [],p,i=>by simp [pls,wts]
 |t::ts,p,i=>by simp [pls,wts,zug t,zpq ts p (i+1)]
end
theorem znw{p:List Int}{i:Int}{S:Sto}{Q:WK}:zdr (zbo p) (.tup [.int i]) S Q=(p.length+1≤sizeLine∧Q (zbo (p++[i])) S):=by
 unfold zbo;rw[zhb];simp
mutual
theorem zjT:∀(t:Tr) {r:Nat}{p:List Int}{a:Addr}{xs:List W}{S:Sto}{Q:WK}{E:Str→Sto→Prop},t.depth≤r→S a=ae (.lst xs)→xs.length+t.weight≤1000000→p.length+t.depth≤1000000→
  Q .non (put S a (.lst (xs++(t.pl p).map zbo)))→zaW (r+1) [enc t,zbo p, .ref a] S Q E
 | .bl n,r,p,a,xs,S,Q,E,hr,ha,hx,hp,h=>by
  obtain⟨r,rfl⟩:∃r',r=r'+1:=⟨r - 1,by simp [Tr.depth]at hr;omega⟩
  rw[zaW];walk_at "wd";simp only[zaj ha,true_and];simp [Tr.weight]at hx;refine⟨zbK (by omega),?_⟩;refine zgH ?_;simp only[Tr.kids,encs,zht,forL];simp only[Tr.pl,ay,cm]at h;exact⟨_, .refl,h⟩
 | .nd s ts,r,p,a,xs,S,Q,E,hr,ha,hx,hp,h=>by
  simp only[Tr.depth]at hr hp;simp only[Tr.weight]at hx;obtain⟨r,rfl⟩:∃r',r=r'+1:=⟨r - 1,by omega⟩
  rw[zaW];walk_at "wd";simp only[zaj ha,true_and];refine⟨zbK (by omega),?_⟩;refine zgH ?_;dsimp only[Tr.kids];refine zij ts (xs:=xs++[zbo p]) (by omega) zag (by simp;omega) (by omega) λx y=>?_;rw[zba];refine⟨_, .refl,?_⟩;simpa [Tr.pl,bL]using h
theorem zij:∀(ts:List Tr) {r:Nat}{p:List Int}{i:Nat}{a:Addr}{xs:List W}{S:Sto}{E:WX}{D:WEnds}{t0 x y:Option W},dts ts≤r→S a=ae (.lst xs)→xs.length+wts ts≤1000000→p.length+1+dts ts≤1000000→
  (∀x y,D.nx [t0,ae (zbo p),ae (.ref a),x,y] (put S a (.lst (xs++(pls p i ts).map zbo))))→
  forL (wGT (zaq (wGN 3) (zaq (wGN 4) zbE))) (zcK (r+1) (zaW (r+1))) E D (λ_=>True) (zht i (encs ts)) [t0,ae (zbo p),ae (.ref a),x,y] S
 | [],r,p,i,a,xs,S,E,D,t0,x,y,hr,ha,hx,hp,h=>by
  simp only[encs,zht,forL];have:=h x y;simp only[pls,cm,bK,zdy ha]at this;exact this
 |t::ts,r,p,i,a,xs,S,E,D,t0,x,y,hr,ha,hx,hp,h=>by
  simp only[dts]at hr hp;simp only[wts]at hx;simp only[encs,zht,forL,zcK];walk_at "wd";rw[znw];refine⟨zal (by omega),zal (by omega),zjT t (p:=p++[(i:Int)]) (by omega) ha (by omega) (by simp;omega) ?_⟩;refine⟨_, .refl,zij ts (by omega) zag (by simp [zug];omega) (by omega) λx y=>?_⟩;rw[zba];simpa [pls,bL]using h x y
end
theorem zrG{t:Tr}{r:Nat}{S:Sto}{Q:WK}{E:Str→Sto→Prop}(hr:t.depth+1≤r) (hw:t.weight≤100000) (hd:t.depth≤100000) (h:∀a,S a=none→Q (.ref a) (put S a (.lst ((t.pl []).map zbo)))):zfD (r+1) [enc t] S Q E:=by
 obtain⟨r,rfl⟩:∃r',r=r'+1:=⟨r - 1,by omega⟩
 rw[zfD];walk_at "wd";refine⟨aS _,λa ha=>⟨aS _,zjT t (p:=[]) (xs:=[]) (by omega) zag (by simp;omega) (by simp;omega) ?_⟩⟩;rw[zba,aY];exact⟨_, .refl,h a ha⟩
noncomputable def Tr.at:Tr→List Int→Option Tr
 |t,[]=>ae t
 | .bl _,_::_=>none
 | .nd _ ts,i::p=>if i<0 then none else match ts[i.toNat]? with
  |some u=>u.at p
  |none=>none
theorem zlC{t u:Tr}{i:Int}{r:Nat}{S:Sto}{Q:WK}{E:Str→Sto→Prop}(hi:0≤i) (hu:t.kids[i.toNat]? =ae u) (h:Q (enc u) S):zbM (r+2) [enc t, .int i] S Q E:=by
 rw[zbM];walk_at "wd";refine zgH ?_;have hl:i.toNat<t.kids.length:=(cf.mp hu).1;walk_at "wd";rw[zaT];rw[if_neg (by omega),if_neg (by omega)];have e:atI (encs t.kids) i=ae (enc u):=by
  have q:=zcb (xs:=encs t.kids) (n:=i.toNat);rw[cR hi]at q;rw[q,zaA,bj,hu];rfl
 rw[e];exact⟨S, .refl,h⟩
theorem zlT{p:List Int}:∀{t u:Tr}{r:Nat}{S:Sto}{E:WX}{D:WEnds}{x y z:Option W},t.at p=ae u→(∀z,D.nx [x,y,ae (enc u),z] S)→
  forL (wGN 3) (ziO (r+2) zaU) E D (λ_=>True) (p.map W.int) [x,y,ae (enc t),z] S:=by
 induction p with
 |nil=>
  intro t u r S E D x y z e h;unfold Tr.at at e;cases e;exact h z
 |cons i p ih=>
  intro t u r S E D x y z e h;cases t with
  |bl n=>cases e
  |nd s ts=>
   unfold Tr.at at e;split at e
   ·cases e
   ·rename_i hi;split at e
    ·rename_i v ev;simp only[ay,forL,ziO];walk_at "wd";refine zlC (t:= .nd s ts) (u:=v) (by omega) ev ⟨S, .refl,?_⟩;exact ih e h
    ·cases e
theorem zvm{t u:Tr}{p:List Int}{r:Nat}{S:Sto}{Q:WK}{E:Str→Sto→Prop}(e:t.at p=ae u) (h:Q (enc u) S):zjL (r+3) [enc t,zbo p] S Q E:=by
 rw[zjL];walk_at "wd";unfold zbo;dsimp only;exact zlT e λz=>⟨S, .refl,h⟩
def Low (c:Nat):Prop:=97≤c∧c≤122
def zcU (x:Str):Prop:=1≤x.cps.toList.length∧x.cps.toList.length≤8∧ ∀c∈x.cps.toList,Low c
def zdf (x:Str):Prop:=∃c r,x.cps.toList=c::r∧65≤c∧c≤90∧r.length≤7∧ ∀d∈r,Low d
theorem zuK:(br "abcdefghijklmnopqrstuvwxyz").cps.toList=List.range' 97 26:=by decide +kernel
theorem zyA:(br "abcdefghijklmnopqrstuvwxyz").length=26:=by decide +kernel
theorem zjY:∀cs:List Nat,(cW (br "") (cs.map λc=>(⟨#[c]⟩:Str))).cps.toList=cs
 | []=>rfl
 | [c]=>rfl
 |c::d::r=>by
  have ih:=zjY (d::r);show((⟨#[c]⟩:Str)++br "" ++cW (br "") ((d::r).map λc=>(⟨#[c]⟩:Str))).cps.toList=_;show(#[c]++(br "").cps++(cW (br "") ((d::r).map λc=>(⟨#[c]⟩:Str))).cps).toList=_;rw[gK,gK,ih];rfl
theorem zsq (cs:List Nat):((cs.map λc=>(⟨#[c]⟩:Str)).map (·.length)).sum=cs.length:=by
 induction cs with
 |nil=>rfl
 |cons c r ih=>
  rw[ay,ay,df,ih,aO];show 1+r.length=r.length+1;omega
theorem zhk:∀cs:List Nat,zgy (cs.map λc=>W.str ⟨#[c]⟩)=ae (cs.map λc=>(⟨#[c]⟩:Str))
 | []=>rfl
 |c::cs=>by rw[ay,zgy,zhk cs];rfl
theorem zrB (cs:List Nat) (h:cs.length≤1000):(List.map (λx=>x.length) (cs.map λc=>(⟨#[c]⟩:Str))).sum+(cs.map λc=>(⟨#[c]⟩:Str)).length*(br "").length≤16777216:=by
 have e:=zsq cs;have z:(br "").length=0:=by decide +kernel
 rw[e,z];omega
theorem znq{lo:Int}{n:Nat}:(zlW lo n).length=n:=by simp [zlW]
theorem zko{α:Type}{xs:List α}(n:Int) (h:xs≠ []):∃(i:Nat) (x:α),xs[i]? =ae x∧atI xs (n % (xs.length:Int))=ae x:=by
 have hp:0<xs.length:=eD.mpr h;have h0:0≤n % (xs.length:Int):=c7 _ (by omega);have h1:n % (xs.length:Int)<(xs.length:Int):=dj _ (by omega);have hlt:(n % (xs.length:Int)).toNat<xs.length:=by omega
 refine⟨(n % (xs.length:Int)).toNat,xs[(n % (xs.length:Int)).toNat],a_ hlt,?_⟩;have e:=zwc (xs:=xs) (j:=(n % (xs.length:Int)).toNat) (v:=xs[(n % (xs.length:Int)).toNat]) (a_ hlt);rw[cR h0]at e;exact e
theorem zeX (ts us:List Tr):encs (ts++us)=encs ts++encs us:=by rw[zaA,zaA,zaA,bD]
theorem zpR (ts:List Tr) (n:Nat):(encs ts).take n=encs (ts.take n):=by rw[zaA,zaA,jT]
theorem zpi (ts:List Tr) (n:Nat):(encs ts).drop n=encs (ts.drop n):=by rw[zaA,zaA,kg]
mutual
noncomputable def Tr.plt (p:List Int):Tr→List (List Int×Tr)
 | .bl n=>[(p, .bl n)]
 | .nd s ts=>(p, .nd s ts)::zfO p 0 ts
noncomputable def zfO (p:List Int) (i:Nat):List Tr→List (List Int×Tr)
 | []=>[]
 |t::ts=>t.plt (p++[(i:Int)])++zfO p (i+1) ts
end
mutual
theorem zfb:∀(t:Tr) (p:List Int),(t.plt p).map (·.1)=t.pl p
 | .bl _,p=>by simp [Tr.plt,Tr.pl]
 | .nd _ ts,p=>by simp [Tr.plt,Tr.pl,znV ts p 0]
theorem znV:∀(ts:List Tr) (p:List Int) (i:Nat),(zfO p i ts).map (·.1)=pls p i ts
 | [],p,i=>by simp [zfO,pls]
 |t::ts,p,i=>by simp [zfO,pls,zfb t,znV ts p (i+1)]
end
mutual
theorem zgl:∀(t:Tr) (p:List Int),(t.plt p).length=t.weight
 | .bl _,p=>by simp [Tr.plt,Tr.weight]
 | .nd _ ts,p=>by simp [Tr.plt,Tr.weight,zmE ts p 0];omega
theorem zmE:∀(ts:List Tr) (p:List Int) (i:Nat),(zfO p i ts).length=wts ts
 | [],p,i=>by simp [zfO,wts]
 |t::ts,p,i=>by simp [zfO,wts,zgl t,zmE ts p (i+1)]
end
theorem zpJ{s:Str}{ts:List Tr}{i:Nat}{q:List Int}{u:Tr}(h:ts[i]? =ae u):(Tr.nd s ts).at ((i:Int)::q)=u.at q:=by
 rw[Tr.at,if_neg (by omega)];simp [h]
mutual
theorem zhh:∀(t:Tr) (p q:List Int) (u:Tr),(q,u)∈t.plt p→ ∃r,q=p++r∧t.at r=ae u∧r.length<t.depth
 | .bl n,p,q,u,h=>by
  simp only[Tr.plt,bz,kD]at h;obtain⟨rfl,rfl⟩:=h;exact⟨[],by simp,by simp [Tr.at],by simp [Tr.depth]⟩
 | .nd s ts,p,q,u,h=>by
  simp only[Tr.plt,aA,kD]at h;rcases h with⟨rfl,rfl⟩ |h
  ·exact⟨[],by simp,by simp [Tr.at],by simp [Tr.depth];omega⟩
  ·obtain⟨j,v,r,h1,h2,h3,h4⟩:=zpr ts p 0 q u h;refine⟨(j:Int)::r,by rw[h2];simp,by rw[zpJ h1];exact h3,by simp [Tr.depth];omega⟩
theorem zpr:∀(ts:List Tr) (p:List Int) (i:Nat) (q:List Int) (u:Tr),(q,u)∈zfO p i ts→ ∃(j:Nat) (v:Tr) (r:List Int),ts[j]? =ae v∧q=p++[((i+j:Nat):Int)]++r∧v.at r=ae u∧r.length<dts ts
 | [],p,i,q,u,h=>by simp [zfO]at h
 |t::ts,p,i,q,u,h=>by
  simp only[zfO,bp]at h;rcases h with h |h
  ·obtain⟨r,h1,h2,h3⟩:=zhh t _ q u h;exact⟨0,t,r,rfl,by simpa using h1,h2,by simp [dts];omega⟩
  ·obtain⟨j,v,r,h1,h2,h3,h4⟩:=zpr ts p (i+1) q u h;refine⟨j+1,v,r,by simpa using h1,?_,h3,by simp [dts];omega⟩
   rw[h2,show i+1+j=i+(j+1) by omega]
end
theorem keep{S:Sto}{a p:Addr}{o x:Ob}(f:S a=ae o) (h:S p=none):put S p x a=ae o:=by rw[zaD (zvB f h)];exact f
noncomputable def sw:List (List Int×Tr)→Nat
 | []=>0
 |x::xs=>x.2.weight+sw xs
theorem zbq{u:Tr}:∀{ts:List Tr},u∈ts→u.depth≤dts ts
 |t::ts,h=>by
  rcases aA.mp h with rfl |h
  ·simp [dts];omega
  ·have:=zbq h;simp [dts];omega
theorem zaL{α:Type}{g:WG}{e:WE}{E:WX}{G:Sto→Prop}{Q:List W→Sto→Prop}{S:Sto}(I:WSt→Prop) (k f:α→W) (hG:G S):∀(xs:List α) (acc:List W) (σ:WSt),I σ→acc.length+xs.length≤1000000→
  (∀x∈xs,∀σ (R:WSt→W→Sto→Prop),I σ→(∀σ1 S3,I σ1→Sub S S3→R σ1 (f x) S3)→g (k x) σ S λσ1 S1=>e E σ1 S1 λy S3=>R σ1 y S3)→
  Q (acc++xs.map f) S→zeO g zgC e E G Q (xs.map k) acc σ S
 | [],acc,σ,hI,hl,step,hQ=>by simpa [zeO]using hQ
 |x::xs,acc,σ,hI,hl,step,hQ=>by
  simp only[ay,zeO,zgC,if_true];simp only[aO]at hl;refine step x aV σ _ hI λσ1 S3 hI1 sb=>⟨zbK (by omega),S,sb,hG,zaL I k f hG xs (acc++[f x]) σ1 hI1 (by simp;omega) (λy hy=>step y (aI _ hy)) ?_⟩;simpa using hQ
theorem zfv{α:Type}{g:WG}{c:WT}{e:WE}{E:WX}{G:Sto→Prop}{Q:List W→Sto→Prop}{S:Sto}(I:WSt→Prop) (k f:α→W) (P:α→Bool) (hG:G S):∀(xs:List α) (acc:List W) (σ:WSt),I σ→acc.length+xs.length≤1000000→
  (∀x∈xs,∀σ (R1:WSt→W→Sto→Prop) (R0:WSt→Sto→Prop),I σ→(P x=true→ ∀σ1 S3,I σ1→Sub S S3→R1 σ1 (f x) S3)→(P x=false→ ∀σ1 S3,I σ1→Sub S S3→R0 σ1 S3)→
   g (k x) σ S λσ1 S1=>c E σ1 S1 λb S2=>if b=true then e E σ1 S2 λy S3=>R1 σ1 y S3 else R0 σ1 S2)→
  Q (acc++(xs.filter P).map f) S→zeO g c e E G Q (xs.map k) acc σ S
 | [],acc,σ,hI,hl,step,hQ=>by simpa [zeO]using hQ
 |x::xs,acc,σ,hI,hl,step,hQ=>by
  simp only[ay,zeO];simp only[aO]at hl;refine step x aV σ _ _ hI (λhp σ1 S3 hI1 sb=>⟨zbK (by omega),S,sb,hG,zfv I k f P hG xs (acc++[f x]) σ1 hI1 (by simp;omega) (λy hy=>step y (aI _ hy)) ?_⟩)
   λhp σ1 S3 hI1 sb=>⟨S,sb,hG,zfv I k f P hG xs acc σ1 hI1 (by omega) (λy hy=>step y (aI _ hy)) ?_⟩
  ·rw[List.filter_cons_of_pos hp]at hQ;simpa using hQ
  ·rw[jY (by rw[hp];simp)]at hQ;exact hQ
noncomputable def Tr.isBl:Tr→Bool
 | .bl _=>true
 | .nd _ _=>false
noncomputable def Tr.num:Tr→Int
 | .bl n=>n
 | .nd _ _=>0
noncomputable def Tr.bls (t:Tr):List (List Int×Tr):=(t.plt []).filter λx=>x.2.isBl
theorem zhH{t:Tr}{x:List Int×Tr}(h:x∈t.bls):t.at x.1=ae x.2∧x.2= .bl x.2.num∧x.1.length<t.depth:=by
 obtain⟨h1,h2⟩:=hZ.mp h;obtain⟨r,h3,h4,h5⟩:=zhh t [] x.1 x.2 h1;simp at h3;subst h3;refine⟨h4,?_,h5⟩;obtain⟨p,u⟩:=x;cases u with
 |bl n=>rfl
 |nd s ts=>simp [Tr.isBl]at h2
theorem zvV (t:Tr):t.bls.length≤t.weight:=by
 unfold Tr.bls;exact a9 (List.length_filter_le ..) (by rw[zgl];exact ap _)
theorem zoA{t:Tr}{r:Nat}{S:Sto}{Q:WK}{E:Str→Sto→Prop}(hr:t.depth+4≤r) (hw:t.weight≤90000) (h:∀a,S a=none→Q (.ref a) (put S a (.lst (t.bls.map λx=>zbo x.1)))):zbW (r+1) [enc t] S Q E:=by
 have hd:=zdl t;obtain⟨r,rfl⟩:∃r',r=r'+3:=⟨r - 3,by omega⟩
 rw[zbW];walk_at "wd";refine zrG (by omega) (by omega) (by omega) λa ha=>?_;walk_at "wd";rw[←zfb,bg];refine zfv (λσ=>∃x,σ=[x,ae (enc t)]) (λx=>zbo x.1) (λx=>zbo x.1) (λx=>x.2.isBl) ?_ (t.plt []) [] _ ⟨none,rfl⟩ (by simp [zgl];omega) (λx hx σ R1 R0 hI h1 h0=>?_) ?_
 ·exact zag
 ·obtain⟨y,rfl⟩:=hI;obtain⟨q,h3,h4,h5⟩:=zhh t [] x.1 x.2 hx;simp at h3;subst h3;walk_at "wd";refine zvm h4 ?_;obtain⟨p,u⟩:=x;cases u with
  |bl n=>
   simp only[enc];walk_at "wd";exact h1 rfl _ _ ⟨_,rfl⟩ .refl
  |nd s ts=>
   simp only[enc];walk_at "wd";exact h0 rfl _ _ ⟨_,rfl⟩ .refl
 ·rw[aY];intro b hb;obtain⟨hb1,hb2⟩:=zdO hb;exact⟨_, .put2 (.put .refl ha),h b hb1⟩
mutual
noncomputable def Tr.fill (us:List Tr):Tr→Tr
 | .bl n=>us.getD n.toNat (.bl n)
 | .nd s ts=> .nd s (fills us ts)
noncomputable def fills (us:List Tr):List Tr→List Tr
 | []=>[]
 |t::ts=>t.fill us::fills us ts
end
mutual
noncomputable def Tr.fits (m:Nat):Tr→Prop
 | .bl n=>0≤n∧n<m
 | .nd _ ts=>fitss m ts
noncomputable def fitss (m:Nat):List Tr→Prop
 | []=>True
 |t::ts=>t.fits m∧fitss m ts
end
theorem zhx (us:List Tr):∀ts:List Tr,fills us ts=ts.map (Tr.fill us)
 | []=>by simp [fills]
 |t::ts=>by simp [fills,zhx us ts]
theorem zfl{m:Nat}{t:Tr}:∀{ts:List Tr},fitss m ts→t∈ts→t.fits m
 |u::ts,h,hm=>by
  simp only[fitss]at h;rcases aA.mp hm with rfl |hm
  ·exact h.1
  ·exact zfl h.2 hm
theorem zhs{us:List Tr}{a:Addr}:∀(d:Nat) {t:Tr}{r:Nat}{S:Sto}{Q:WK}{E:Str→Sto→Prop},t.depth≤d→d≤r+1→S a=ae (.lst (encs us))→t.fits us.length→t.weight≤90000→Q (enc (t.fill us)) S→zdd (r+1) [enc t, .ref a] S Q E
 |0,t,r,S,Q,E,hd,hr,ha,hf,hw,h=>by have:=zaB t;omega
 |d+1, .bl n,r,S,Q,E,hd,hr,ha,hf,hw,h=>by
  simp only[Tr.fits]at hf;simp only[Tr.fill]at h;rw[zdd];simp only[enc];walk_at "wd";have e:atI (encs us) n=ae (enc (us.getD n.toNat (.bl n))):=by
   have q:=zcb (xs:=encs us) (n:=n.toNat);rw[cR hf.1]at q;rw[q,zaA,bj,bv,a_ (by omega)];rfl
  rw[zaj ha,e];exact⟨S, .refl,h⟩
 |d+1, .nd s ts,r,S,Q,E,hd,hr,ha,hf,hw,h=>by
  simp only[Tr.fits]at hf;simp only[Tr.fill]at h;simp only[Tr.depth]at hd;simp only[Tr.weight]at hw;have hk:=zcP ts;rw[zdd];simp only[enc]at h⊢;walk_at "wd";refine⟨zal (by decide),?_⟩;rw[zaA];refine zaL (λσ=>∃x,σ=[x,ae (.ref a)]) enc (λt=>enc (t.fill us)) trivial ts [] _ ⟨none,rfl⟩ (by simp;omega) (λx hx σ R hI hR=>?_) ?_
  ·obtain⟨y,rfl⟩:=hI;have hdx:=zbq hx;have hwx:=zdD hx;have:=zaB x;obtain⟨r,rfl⟩:∃r',r=r'+1:=⟨r - 1,by omega⟩
   simp only[ziu];walk_at "wd";exact zhs d (t:=x) (r:=r) (by omega) (by omega) ha (zfl hf hx) (by omega) (hR _ _ ⟨_,rfl⟩ .refl)
  ·rw[aY];refine⟨zal (by simp;omega),S, .refl,?_⟩;have e:encs (fills us ts)=ts.map λt=>enc (t.fill us):=by rw[zaA,zhx,bg];rfl
   rw[e]at h;exact h
noncomputable def Tr.put:Tr→List Int→Tr→Tr
 |_,[],u=>u
 | .bl n,_::_,_=> .bl n
 | .nd s ts,i::p,u=>match ts[i.toNat]? with
  |some v=> .nd s (ts.set i.toNat (v.put p u))
  |none=> .nd s ts
theorem zgV (t:Tr):t.at []=ae t:=by cases t<;>rfl
theorem zez (t u:Tr):t.put [] u=u:=by cases t<;>rfl
theorem zgB{s:Str}{ts:List Tr}{i:Int}{p:List Int}{u:Tr}(h:(Tr.nd s ts).at (i::p)=ae u):∃v,0≤i∧ts[i.toNat]? =ae v∧v.at p=ae u:=by
 unfold Tr.at at h;split at h
 ·cases h
 ·split at h
  ·exact⟨_,by omega, ‹_›,h⟩
  ·cases h
theorem zqy:∀(q:List Int) {D t:Tr}(r:List Int),D.at q=ae t→D.at (q++r)=t.at r
 | [],D,t,r,h=>by rw[zgV]at h;cases h;rfl
 |i::q, .bl n,t,r,h=>by cases h
 |i::q, .nd s ts,t,r,h=>by
  obtain⟨v,h0,h1,h2⟩:=zgB h;rw[b8];have e:(i:Int)=((i.toNat:Nat):Int):=(cR h0).symm;rw[e,zpJ h1];exact zqy q r h2
theorem zgz{s:Str}{ts:List Tr}{i:Int}{p:List Int}{u v:Tr}(h:ts[i.toNat]? =ae v):(Tr.nd s ts).put (i::p) u= .nd s (ts.set i.toNat (v.put p u)):=by
 rw[Tr.put,h]
theorem znY{S:Sto}{p:List Int}:eqF S 60 (zbo p) (.tup [])=ae p.isEmpty:=by
 cases p<;>rfl
theorem zqX{u:Tr}:∀(p:List Int) {t v:Tr}{r:Nat}{S:Sto}{Q:WK}{E:Str→Sto→Prop},t.at p=ae v→p.length≤r→t.weight≤90000→p.length≤90000→Q (enc (t.put p u)) S→zcJ (r+1) [enc t,zbo p,enc u] S Q E
 | [],t,v,r,S,Q,E,h,hr,hw,hp,q=>by
  rw[zez]at q;rw[zcJ];walk_at "wd";rw[znY];exact⟨aS _,S, .refl,q⟩
 |i::p, .bl n,v,r,S,Q,E,h,hr,hw,hp,q=>by cases h
 |i::p, .nd s ts,v,r,S,Q,E,h,hr,hw,hp,q=>by
  obtain⟨w,h0,h1,h2⟩:=zgB h;obtain⟨j,rfl⟩:∃j:Nat,i=j:=⟨i.toNat,(cR h0).symm⟩;rw[bW]at h1;rw[zgz (by rw[bW];exact h1),bW]at q;simp only[aO]at hr hp;simp only[Tr.weight]at hw;have hk:=zcP ts;have hl:=(cf.mp h1).1;have hm:=zdD (aR h1);obtain⟨r,rfl⟩:∃r',r=r'+1:=⟨r - 1,by omega⟩
  rw[zcJ];walk_at "wd";rw[znY];simp only[ge,bP,if_false];have ep:zbo ((j:Int)::p)= .tup (.int j::p.map W.int):=rfl;simp only[ep,enc];walk_at "wd";rw[show((j:Int)+1)=((j+1:Nat):Int) by omega,zcb,cg,zaA,bj,h1]
  dsimp only[Option.map];rw[show((j+1:Nat):Int)+1=((j+2:Nat):Int) by omega,zjh,zjA]
  refine⟨aS _,zqX p (r:=r) h2 (by omega) (by omega) (by omega) ?_⟩;simp only[List.take_succ_cons,List.drop_succ_cons,←zaA,zpR,zpi];walk_at "wd";simp only[zaT,cF,cC];refine⟨zal (by decide),zal (by omega),zal (by simp only[aM,zaT,cF,aO,c5,cC];omega),S, .refl,?_⟩;have e:enc (.nd s (ts.set j (w.put p u)))= .tup (.str s::(encs (ts.take j)++[enc (w.put p u)]++encs (ts.drop (j+1)))):=by
   simp only[enc];rw[List.set_eq_take_append_cons_drop,if_pos hl,zeX];simp [encs]
  rw[e]at q;simpa using q
mutual
noncomputable def Tr.same:Tr→Tr→Bool
 | .bl n, .bl m=>n == m
 | .nd s ts, .nd z us=>s == z&&zgF ts us
 |_,_=>false
noncomputable def zgF:List Tr→List Tr→Bool
 | [],[]=>true
 |t::ts,u::us=>t.same u&&zgF ts us
 |_,_=>false
end
mutual
theorem zjx:∀(t u:Tr),t.same u=true↔t=u
 | .bl n, .bl m=>by simp [Tr.same]
 | .nd s ts, .nd z us=>by simp [Tr.same,zkJ ts us]
 | .bl n, .nd z us=>by simp [Tr.same]
 | .nd s ts, .bl m=>by simp [Tr.same]
theorem zkJ:∀(ts us:List Tr),zgF ts us=true↔ts=us
 | [],[]=>by simp [zgF]
 |t::ts,u::us=>by simp [zgF,zjx t u,zkJ ts us]
 | [],u::us=>by simp [zgF]
 |t::ts,[]=>by simp [zgF]
end
theorem zoX (t:Tr):t.same t=true:=(zjx t t).mpr rfl
theorem ztU{S:Sto}{n:Nat}{xs ys:List W}:eqF S (n+1) (.tup xs) (.tup ys)=zfS (eqF S n) xs ys:=eZ (b:=zfS (eqF S n) xs ys) rfl rfl
theorem zxK{S:Sto}{n:Nat}{x y:Str}:eqF S (n+1) (.str x) (.str y)=ae (x == y):=eZ (b:=ae (x == y)) rfl rfl
theorem zpA{S:Sto}{n:Nat}{x y:Int}:eqF S (n+1) (.int x) (.int y)=ae (x == y):=eZ (b:=ae (x == y)) rfl rfl
theorem zxI{S:Sto}{n:Nat}{x:Int}{ys:List W}:eqF S (n+1) (.int x) (.tup ys)=ae false:=eZ (b:=ae false) rfl rfl
theorem zxX{S:Sto}{n:Nat}{x:Int}{ys:List W}:eqF S (n+1) (.tup ys) (.int x)=ae false:=eZ (b:=ae false) rfl rfl
mutual
theorem zvj{S:Sto}:∀(n:Nat) (t u:Tr),t.depth<n→eqF S n (enc t) (enc u)=ae (t.same u)
 |0,t,u,h=>by omega
 |n+1, .bl k, .bl m,h=>by simp only[enc,zpA,Tr.same]
 |n+1, .nd s ts, .nd z us,h=>by
  simp only[Tr.depth]at h;obtain⟨n,rfl⟩:∃m,n=m+1:=⟨n - 1,by omega⟩
  simp only[enc,ztU,zfS,zxK,Tr.same];rw[zuu (n+1) ts us (by omega)]
 |n+1, .bl k, .nd z us,h=>by simp only[enc,zxI,Tr.same]
 |n+1, .nd s ts, .bl m,h=>by simp only[enc,zxX,Tr.same]
theorem zuu{S:Sto}:∀(n:Nat) (ts us:List Tr),dts ts<n→zfS (eqF S n) (encs ts) (encs us)=ae (zgF ts us)
 |n,[],[],h=>by simp only[encs,zfS,zgF]
 |n,[],u::us,h=>by simp only[encs,zfS,zgF]
 |n,t::ts,[],h=>by simp only[encs,zfS,zgF]
 |n,t::ts,u::us,h=>by
  simp only[dts]at h;simp only[encs,zfS,zgF,zvj n t u (by omega),zuu n ts us (by omega)]
end
theorem zoj (n:Int):n % 2=0∨n % 2=1:=by omega
theorem zkX (j:Int) (m:Nat):zlW j (m+1)= .int j::zlW (j+1) m:=by
 unfold zlW;rw[gI,ay,bg];congr 1
 ·simp
 ·apply cI;intro i _;simp only[ib,W.int.injEq];omega
theorem zkd{α:Type}{xs:List α}{i:Int}(h0:0≤i) (h1:i<xs.length):∃x,atI xs i=ae x∧x∈xs:=by
 have q:=zcb (xs:=xs) (n:=i.toNat);rw[cR h0,a_ (by omega)]at q;exact⟨_,q,gX ..⟩
theorem zvx{ss:List Str}{i:Int}(h0:0≤i) (h1:i<ss.length):∃x,atI (ss.map W.str) i=ae (.str x)∧x∈ss:=by
 obtain⟨w,h,m⟩:=zkd (xs:=ss.map W.str) h0 (by simpa using h1);obtain⟨x,hx,rfl⟩:=aG.mp m;exact⟨x,h,hx⟩
theorem zpQ{g:WG}{b:WS}{E:WX}{D:WEnds}(I:Nat→WSt→Sto→Prop) (n:Nat)
  (step:∀i,i<n→ ∀σ S (N:WSt→Sto→Prop),I i σ S→(∀σ' S' S'',Sub S'' S'→I (i+1) σ' S''→N σ' S')→g (.int i) σ S λσ1 S1=>b E { D with nx:=N,ct:=N,bk:=D.nx } σ1 S1)
  (done:∀σ S,I n σ S→D.nx σ S) {σ:WSt}{S:Sto}(h:I 0 σ S):forL g b E D (λ_=>True) (zlW 0 n) σ S:=by
 refine zlt (λws σ S=>∃i,i≤n∧ws=zlW (i:Int) (n - i)∧I i σ S) ?_ ?_ _ _ _ ⟨0,aS _,rfl,h⟩
 ·rintro w ws σ S N ⟨i,hi,e,hI⟩ hN;obtain⟨m,hm⟩:∃m,n - i=m+1:=by
   rcases eV (n - i) with z |z
   ·rw[z]at e;cases e
   ·exact⟨n - i - 1,by omega⟩
  rw[hm,zkX]at e;cases e;exact step i (by omega) σ S N hI λσ' S' S'' sb h'=>hN σ' S' S'' sb trivial ⟨i+1,by omega,by rw[show n - (i+1)=m by omega];push_cast;rfl,h'⟩
 ·rintro σ S ⟨i,hi,e,hI⟩;have:n - i=0:=by
   rcases eV (n - i) with z |z
   ·exact z
   ·obtain⟨m,hm⟩:∃m,n - i=m+1:=⟨n - i - 1,by omega⟩
    rw[hm,zkX]at e;cases e
  rw[show i=n by omega]at hI
  exact done σ S hI
theorem zqP:∀{ts:List Tr}{i:Nat}{v u:Tr},ts[i]? =ae v→wts (ts.set i u)+v.weight=wts ts+u.weight
 | [],i,v,u,h=>by simp at h
 |t::ts,0,v,u,h=>by
  simp at h;subst h;rw[dS,zaK,zaK];omega
 |t::ts,i+1,v,u,h=>by
  have:=zqP (ts:=ts) (i:=i) (v:=v) (u:=u) (by simpa using h);rw[dU,zaK,zaK];omega
theorem zih:∀(p:List Int) {D u v:Tr},D.at p=ae v→(D.put p u).weight+v.weight=D.weight+u.weight
 | [],D,u,v,h=>by rw[zgV]at h;cases h;rw[zez];omega
 |i::p, .bl n,u,v,h=>by cases h
 |i::p, .nd s ts,u,v,h=>by
  obtain⟨w,h0,e1,e2⟩:=zgB h;rw[zgz e1];have h1:=zih p (u:=u) e2;have h2:=zqP (u:=w.put p u) e1;simp only[Tr.weight];omega
theorem ziq{k:Nat}:∀{ts:List Tr},(∀t∈ts,t.depth≤k)→dts ts≤k
 | [],_=>by simp [dts]
 |t::ts,h=>by
  have:=h t aV;have:=ziq (ts:=ts) λu hu=>h u (aI _ hu);simp only[dts];omega
theorem zbp{g:WG}{b:WS}{E:WX}{D:WEnds}{G:Sto→Prop}{w:W}{ws:List W}{σ:WSt}{S:Sto}(h:∀N:WSt→Sto→Prop,(∀σ S S',Sub S' S→G S'→forL g b E D G ws σ S'→N σ S)→g w σ S λσ1 S1=>b E { D with nx:=N,ct:=N,bk:=D.nx } σ1 S1):forL g b E D G (w::ws) σ S:=h _ λσ S S' a c d=>⟨S',a,c,d⟩
mutual
noncomputable def Tr.mt:Tr→Tr→Option (List Tr)
 | .bl _,t=>ae [t]
 | .nd s ls, .nd z us=>if s == z&&ls.length == us.length then mts ls us else none
 | .nd _ _, .bl _=>none
noncomputable def mts:List Tr→List Tr→Option (List Tr)
 | [],_=>ae []
 |_::_,[]=>ae []
 |l::ls,u::us=>match l.mt u with
  |none=>none
  |some xs=>match mts ls us with
   |none=>none
   |some ys=>ae (xs++ys)
end
theorem zyk{s z:Str}{ls us:List Tr}{r:Nat}{S:Sto}{Q:WK}{E:Str→Sto→Prop}(h:Q (.bl (s == z&&ls.length == us.length)) S):zbX (r+1) [enc (.nd s ls),enc (.nd z us)] S Q E:=by
 rw[zbX];simp only[enc];walk_at "wd";cases e:s == z with
 |false=>
  rw[e]at h;exact⟨_, .refl,h⟩
 |true=>
  rw[e]at h;walk_at "wd";refine⟨_, .refl,?_⟩;have:(((encs ls).length+1:Nat):Int)=((encs us).length+1:Nat)↔ls.length=us.length:=by rw[zaT,zaT];omega
  have e2:((((encs ls).length+1:Nat):Int) == ((encs us).length+1:Nat))=(ls.length == us.length):=by
   rw[eU,beq_iff_eq,beq_iff_eq];exact this
  rw[e2];simpa using h
mutual
theorem ztD:∀(l t:Tr) (ys:List Tr),l.mt t=ae ys→ys.length≤l.weight
 | .bl _,t,ys,h=>by simp only[Tr.mt,bC]at h;subst h;simp [Tr.weight]
 | .nd s ls, .nd z us,ys,h=>by
  simp only[Tr.mt]at h;split at h
  ·have:=zrg ls us ys h;simp only[Tr.weight];omega
  ·cases h
 | .nd _ _, .bl _,ys,h=>by simp [Tr.mt]at h
theorem zrg:∀(ls us ys:List Tr),mts ls us=ae ys→ys.length≤wts ls
 | [],us,ys,h=>by simp only[mts,bC]at h;subst h;simp
 |l::ls,[],ys,h=>by simp only[mts,bC]at h;subst h;simp
 |l::ls,u::us,ys,h=>by
  simp only[mts]at h;split at h
  ·cases h
  ·rename_i xs e1;split at h
   ·cases h
   ·rename_i zs e2;cases h;have:=ztD l u xs e1;have:=zrg ls us zs e2;simp only[aM,wts];omega
end
theorem zhD{r:Nat}{a:Addr}{E:WX}{D:WEnds}{x0 x1:Option W}:∀(ls us:List Tr)
  (one:∀l∈ls,∀{t:Tr}{S:Sto}{xs:List W}{Q:WK}{E:Str→Sto→Prop},t.fits 0→S a=ae (.lst xs)→xs.length+l.weight≤100000→(∀ys,l.mt t=ae ys→Q (.bl true) (put S a (.lst (xs++encs ys))))→(l.mt t=none→ ∀ys,Q (.bl false) (put S a (.lst (xs++ys))))→zaE r [enc l,enc t, .ref a] S Q E)
  {S:Sto}{xs:List W}{x3 x4:Option W},fitss 0 us→S a=ae (.lst xs)→xs.length+wts ls≤100000→
  (∀ys x3 x4,mts ls us=ae ys→D.nx [x0,x1,ae (.ref a),x3,x4] (put S a (.lst (xs++encs ys))))→(mts ls us=none→ ∀ys,D.rt (.bl false) (put S a (.lst (xs++ys))))→
  forL (wGT (zaq (wGN 3) (zaq (wGN 4) zbE))) (zcB r (zaE r)) E D (λ_=>True) (pairs (encs ls) (encs us)) [x0,x1,ae (.ref a),x3,x4] S
 | [],us,one,S,xs,x3,x4,hf,ha,hl,h1,h0=>by
  have q:=h1 [] x3 x4 (by simp [mts]);simp only[encs,bK,zdy ha]at q;simpa [encs,pairs,forL]using q
 |l::ls,[],one,S,xs,x3,x4,hf,ha,hl,h1,h0=>by
  have q:=h1 [] x3 x4 (by simp [mts]);simp only[encs,bK,zdy ha]at q;simpa [encs,pairs,forL]using q
 |l::ls,u::us,one,S,xs,x3,x4,hf,ha,hl,h1,h0=>by
  simp only[fitss]at hf;simp only[wts]at hl;simp only[encs,pairs];refine zbp λN hN=>?_;simp only[zcB];walk_at "wd";refine one l aV hf.1 ha (by omega) (λys e=>?_) λe ys=>?_
  ·walk_at "wd";have hyl:=ztD l u ys e;refine hN _ _ _ .refl trivial (zhD ls us (λl' hl'=>one l' (aI _ hl')) hf.2 zag (by rw[aM,zaT];omega) (λzs x3 x4 e2=>?_) λe2 zs=>?_)
   ·rw[zba,bL,←zeX];exact h1 _ _ _ (by simp only[mts,e,e2])
   ·rw[zba,bL];exact h0 (by simp only[mts,e,e2]) _
  ·walk_at "wd";exact h0 (by simp only[mts,e]) ys
theorem znH{a:Addr}:∀(d:Nat) {l t:Tr}{r:Nat}{S:Sto}{xs:List W}{Q:WK}{E:Str→Sto→Prop},l.depth≤d→d≤r→t.fits 0→S a=ae (.lst xs)→xs.length+l.weight≤100000→
  (∀ys,l.mt t=ae ys→Q (.bl true) (put S a (.lst (xs++encs ys))))→(l.mt t=none→ ∀ys,Q (.bl false) (put S a (.lst (xs++ys))))→zaE (r+1) [enc l,enc t, .ref a] S Q E
 |0,l,t,r,S,xs,Q,E,hd,hr,hf,ha,hl,h1,h0=>by have:=zaB l;omega
 |d+1, .bl n,t,r,S,xs,Q,E,hd,hr,hf,ha,hl,h1,h0=>by
  have hw:=zfU (.bl n);rw[zaE];simp only[enc];walk_at "wd";simp only[zaj ha,true_and];refine⟨zbK (by omega),_, .refl,?_⟩;have:=h1 [t] (by simp [Tr.mt]);simpa only[encs]using this
 |d+1, .nd s ls, .bl n,r,S,xs,Q,E,hd,hr,hf,ha,hl,h1,h0=>by
  simp only[Tr.fits]at hf;omega
 |d+1, .nd s ls, .nd z us,r,S,xs,Q,E,hd,hr,hf,ha,hl,h1,h0=>by
  simp only[Tr.fits]at hf;simp only[Tr.depth]at hd;simp only[Tr.weight]at hl;obtain⟨r,rfl⟩:∃r',r=r'+1:=⟨r - 1,by omega⟩
  have en:∀s ts,enc (.nd s ts)= .tup (.str s::encs ts):=λs ts=>by simp [enc]
  rw[zaE];walk_at "wd";rw[en,en];walk_at "wd";rw[←en,←en];refine zyk ?_;rw[en,en];walk_at "wd";simp only[Tr.mt]at h1 h0;cases e:(s == z&&ls.length == us.length) with
  |false=>
   rw[e]at h0;have:=h0 (by simp) [];rw[bK,zdy ha]at this;exact⟨_, .refl,this⟩
  |true=>
   rw[e]at h0 h1;simp only[if_true]at h0 h1;walk_at "wd";refine zhD ls us (λl hl' {t S xs Q E} f1 f2 f3 f4 f5=>znH d (by have:=zbq hl';omega) (by omega) f1 f2 f3 f4 f5) hf ha (by omega) (λys x3 x4 e=>?_) λe ys=>?_
   ·walk_at "wd";exact⟨_, .refl,h1 ys e⟩
   ·exact⟨_, .refl,h0 e ys⟩
theorem zeI{l t:Tr}{r:Nat}{S:Sto}{Q:WK}{E:Str→Sto→Prop}(hr:l.depth<r) (hf:t.fits 0) (hw:l.weight≤90000) (h1:∀ys,l.mt t=ae ys→ ∀a,S a=none→Q (.ref a) (put S a (.lst (encs ys)))) (h0:l.mt t=none→Q .non S):zbZ (r+1) [enc l,enc t] S Q E:=by
 obtain⟨r,rfl⟩:∃r',r=r'+1:=⟨r - 1,by omega⟩
 rw[zbZ];walk_at "wd";refine⟨aS _,λa ha=>znH l.depth (ap _) (by omega) hf zag (by simpa using(by omega:l.weight≤100000)) (λys e=>?_) λe ys=>?_⟩
 ·walk_at "wd";exact⟨_, .refl,h1 ys e a ha⟩
 ·walk_at "wd";exact⟨_, .put .refl ha,h0 e⟩
mutual
theorem zlq:∀(l t:Tr) (ys:List Tr),l.mt t=ae ys→wts ys≤t.weight
 | .bl _,t,ys,h=>by simp only[Tr.mt,bC]at h;subst h;simp [wts]
 | .nd s ls, .nd z us,ys,h=>by
  simp only[Tr.mt]at h;split at h
  ·have:=zgg ls us ys h;simp only[Tr.weight];omega
  ·cases h
 | .nd _ _, .bl _,ys,h=>by simp [Tr.mt]at h
theorem zgg:∀(ls us ys:List Tr),mts ls us=ae ys→wts ys≤wts us
 | [],us,ys,h=>by simp only[mts,bC]at h;subst h;simp [wts]
 |l::ls,[],ys,h=>by simp only[mts,bC]at h;subst h;simp [wts]
 |l::ls,u::us,ys,h=>by
  simp only[mts]at h;split at h
  ·cases h
  ·rename_i xs e1;split at h
   ·cases h
   ·rename_i zs e2;cases h;have:=zlq l u xs e1;have:=zgg ls us zs e2;simp only[zeK,wts];omega
end
noncomputable def ztO (c:Nat):Bool:=decide (97≤c)&&decide (c≤122)
noncomputable def small (xs:List Nat):Bool:=xs.all ztO
theorem znh (x:Str):(cL x (ae 1) none).cps.toList=x.cps.toList.drop 1:=by
 rw[zpm];unfold zzx;rw[HT.sIx_none];have ez:HT.sIx x.cps.toList.length 0 (ae 1)=min 1 x.cps.toList.length:=HT.sIx_nat x.cps.toList.length 0 1;rw[ez];by_cases h:1≤x.cps.toList.length
 ·rw[iQ h,du (by rw[cC];exact ap _)]
 ·have:x.cps.toList=[]:=gR (by omega);rw[this];rfl
theorem zmf (x:Str):x.length=x.cps.toList.length:=by simp [gD]
theorem zrz{S:Sto}{x:Int}:∀xs:List Int,inF S (.int x) (xs.map W.int)=ae (xs.contains x)
 | []=>rfl
 |y::ys=>by
  simp only[ay,inF,zpA,zrz ys,List.contains_cons];rw[show(y == x)=(x == y) from by rw[eU,beq_iff_eq,beq_iff_eq];exact eq_comm]
mutual
theorem ztI:∀(t:Tr) (p q:List Int) (u:Tr),t.at q=ae u→(p++q,u)∈t.plt p
 | .bl n,p,[],u,h=>by rw[zgV]at h;cases h;simp [Tr.plt]
 | .bl n,p,i::q,u,h=>by cases h
 | .nd s ts,p,[],u,h=>by rw[zgV]at h;cases h;simp [Tr.plt]
 | .nd s ts,p,i::q,u,h=>by
  obtain⟨v,h0,e1,e2⟩:=zgB h;simp only[Tr.plt,aA];refine .inr ?_;have:=zrx ts p 0 i.toNat q u v e1 e2;rw[bO,cR h0]at this;simpa using this
theorem zrx:∀(ts:List Tr) (p:List Int) (i j:Nat) (q:List Int) (u v:Tr),ts[j]? =ae v→v.at q=ae u→(p++((i+j:Nat):Int)::q,u)∈zfO p i ts
 | [],p,i,j,q,u,v,h1,h2=>by simp at h1
 |t::ts,p,i,0,q,u,v,h1,h2=>by
  simp at h1;subst h1;simp only[zfO,bp];refine .inl ?_;have:=ztI t (p++[(i:Int)]) q u h2;simpa using this
 |t::ts,p,i,j+1,q,u,v,h1,h2=>by
  simp only[zfO,bp];refine .inr ?_;have:=zrx ts p (i+1) j q u v (by simpa using h1) h2;rw[show i+1+j=i+(j+1) by omega]at this
  exact this
end
theorem zqn{t:Tr}{x:List Int×Tr}(h:x∈t.plt []):t.at x.1=ae x.2∧x.1.length<t.depth:=by
 obtain⟨q,h3,h4,h5⟩:=zhh t [] x.1 x.2 h;simp at h3;subst h3;exact⟨h4,h5⟩
theorem zft{α:Type}{g:WG}{b:WS}{E:WX}{D:WEnds}{G:Sto→Prop}{S:Sto}(hG:G S) (I:WSt→Prop) (key:α→W) (f:α→Option W):∀(xs:List α) (σ:WSt),I σ→
  (∀x∈xs,∀σ (N:WSt→Sto→Prop),I σ→(f x=none→ ∀σ' S',I σ'→Sub S S'→N σ' S')→(∀w,f x=ae w→ ∀S',Sub S S'→D.rt w S')→g (key x) σ S λσ1 S1=>b E { D with nx:=N,ct:=N,bk:=D.nx } σ1 S1)→
  (xs.findSome? f=none→ ∀σ,I σ→D.nx σ S)→(∀w,xs.findSome? f=ae w→ ∀S',Sub S S'→D.rt w S')→forL g b E D G (xs.map key) σ S
 | [],σ,hI,step,done,ret=>by
  have:=done rfl σ hI;simpa [forL]using this
 |x::xs,σ,hI,step,done,ret=>by
  rw[ay];refine zbp λN hN=>?_;refine step x aV σ N hI (λe σ' S' hI' sb=>?_) λw e S' sb=>ret w (by rw[d6,e]) S' sb;refine hN _ _ S sb hG (zft hG I key f xs σ' hI' (λy hy=>step y (aI _ hy)) (λe2=>done (by rw[d6,e];exact e2)) λw e2=>ret w (by rw[d6,e];exact e2))
abbrev Tn:=Str×Tr×Tr
noncomputable def zaY (t:Tn):W:= .tup [.str t.1,enc t.2.1,enc t.2.2]
noncomputable def Tn0:Tn:=("", .bl 0, .bl 0)
noncomputable def lf (ts:List Tn) (j:Nat):Tr:=(ts.getD j Tn0).2.1
theorem zoJ (n:Nat):zlW 0 n=(aX n).map λ(i:Nat)=>W.int i:=by
 unfold zlW;apply cI;intro i _;simp
theorem ziA{r:Nat}{a b:Addr}{ps:List W}{E:WX}{D:WEnds}{x0:Option W}(hba:b≠a):∀(ts:List Tr) {S:Sto}{us:List Tr}{x2:Option W},S a=ae (.lst (encs us))→S b=ae (.lst ps)→us.length+wts ts≤200000→
  (∀x2,D.nx [x0,ae (.ref a),x2] (put S a (.lst (encs (us++ts.flatMap Tr.kids)))))→
  forL (wGN 2) (zcY (r+1) zaU) E D (λS'=>S' b=ae (.lst ps)) (encs ts) [x0,ae (.ref a),x2] S
 | [],S,us,x2,ha,hb,hl,h=>by
  have:=h x2;simp only[iA,bK,zdy ha]at this;simpa [encs,forL]using this
 |t::ts,S,us,x2,ha,hb,hl,h=>by
  simp only[wts]at hl;have hk:=zcP t.kids;have hw:=zeb t;simp only[encs];refine zbp λN hN=>?_;simp only[zcY];walk_at "wd";simp only[zaj ha,true_and];refine zgH ?_;walk_at "wd";rw[zaj ha];refine⟨zal (by rw[zaT,zaT];omega),hN _ _ _ .refl (by rw[zaD hba];exact hb) ?_⟩;rw[←zeX];refine ziA hba ts zag (by rw[zaD hba];exact hb) (by rw[aM];omega) λx2=>?_;rw[zba];have:=h x2;rw[fv,←bL]at this;exact this
theorem zms{ts:List Tr}{b:Addr}{r:Nat}{S:Sto}{Q:WK}{E:Str→Sto→Prop}(hb:S b=ae (.lst (encs ts))) (hw:wts ts≤100000) (h:∀a,S a=none→Q (.ref a) (put S a (.lst (encs (ts.flatMap Tr.kids))))):zbV (r+2) [.ref b] S Q E:=by
 rw[zbV];walk_at "wd";refine⟨aS _,λa ha=>?_⟩;have hba:=zvB hb ha;rw[zaj (keep hb ha)];refine ziA (us:=[]) hba ts (by simp [zag,encs]) (keep hb ha) (by simpa using(by omega:wts ts≤200000)) λx2=>?_;rw[zba];walk_at "wd";exact⟨_, .refl,h a ha⟩
noncomputable def Tr.small (t:Tr):Bool:=decide (t.weight≤400)&&decide (t.depth≤40)
theorem zgb{t:Tr}{r:Nat}{S:Sto}{Q:WK}{E:Str→Sto→Prop}(hw:t.weight≤90000) (h:Q (.bl t.small) S):zdI (r+3) [enc t] S Q E:=by
 rw[zdI];walk_at "wd";refine⟨zal (by decide),λa ha=>?_⟩;refine⟨λm σ S'=>∃(ts:List Tr) (k d:Nat) (b:Addr),m=wts ts∧k+wts ts=t.weight∧d+dts ts=t.depth∧k≤400∧d≤40∧S b=none∧S'=put S b (.lst (encs ts))∧σ=[ae (enc t),ae (.int k),ae (.int d),ae (.ref b)],⟨_,[t],0,0,a,rfl,by simp [wts],by simp [dts],by decide,by decide,ha,by simp [encs],rfl⟩,?_⟩
 rintro m σ S' ⟨ts,k,d,b,rfl,hwt,hk,hk4,hd4,hb,rfl,rfl⟩;walk_at "wd";cases ts with
 |nil=>
  simp only[encs,i8];walk_at "wd";simp only[dts,wts,c_]at hk hwt;have e:t.small=true:=by unfold Tr.small;rw[decide_eq_true (by omega),decide_eq_true (by omega)];rfl
  rw[e]at h;exact⟨_, .put .refl hb,h⟩
 |cons u us=>
  have hne:(encs (u::us)).isEmpty=false:=by simp [encs]
  rw[hne];have hfl:=znu (u::us);have hdf:=zmI (ts:=u::us) (by simp);have hlw:=zcP (u::us);simp only[zgp];walk_at "wd";rw[zaT];have no:400<t.weight∨40<t.depth→ ∃S'',Sub S'' (put S b (Ob.lst (encs (u::us))))∧Q (W.bl false) S'':=λz=>by
   have e:t.small=false:=by
    unfold Tr.small;rcases z with z |z
    ·rw[decide_eq_false (by omega)];rfl
    ·rw[decide_eq_false (p:=t.depth≤40) (by omega),fM]
   rw[e]at h;exact⟨_, .put .refl hb,h⟩
  split
  ·exact no (.inl (by omega))
  ·split
   ·exact no (.inr (by omega))
   ·refine zms zag (by omega) λc hc=>?_;obtain⟨hc1,hc2⟩:=zdO hc;refine⟨wts ((u::us).flatMap Tr.kids),put S c (.lst (encs ((u::us).flatMap Tr.kids))),by simp only[aO]at hfl;omega, .put2 (.put .refl hb),_,k+(u::us).length,d+1,c,rfl,by omega,by omega,by omega,by omega,hc1,rfl,?_⟩
    push_cast
    rfl
theorem zgk{ns:List Int}{k:Int}{r:Nat}{S:Sto}{Q:WK}{E:Str→Sto→Prop}(h0:0≤k) (h:∀n:Int,Q (.int n) S):zbf (r+1) [.scr ns, .int k] S Q E:=by
 rw[zbf];walk_at "wd";split
 ·obtain⟨x,e,_⟩:=zkd (xs:=ns) (i:=k) h0 (by omega);rw[e];exact⟨S, .refl,h _⟩
 ·exact⟨S, .refl,h _⟩
noncomputable def lt (rs:List Int) (pos:Int) (k j:Nat):Nat:=97+((rs.getD j 0+(k:Int)*(if(0+(j:Int) == pos)=true then 1 else 0)) % 26).toNat
noncomputable def zfn (rs:List Int) (pos:Int) (k:Nat):List Nat:=(aX rs.length).map (lt rs pos k)
noncomputable def wd0 (rs:List Int) (pos:Int) (k:Nat):Str:=cW (br "") ((zfn rs pos k).map λc=>(⟨#[c]⟩:Str))
noncomputable def wd1 (rs:List Int) (pos:Int) (k:Nat):Str:=dL ⟨#[lt rs pos k 0]⟩++cL (wd0 rs pos k) (ae 1) none
noncomputable def wd (great:Bool) (rs:List Int) (pos:Int) (k:Nat):Str:=if great then wd1 rs pos k else wd0 rs pos k
theorem zii (rs:List Int) (pos:Int) (k j:Nat):Low (lt rs pos k j):=by
 have h0:=c7 (rs.getD j 0+(k:Int)*(if(0+(j:Int) == pos)=true then 1 else 0)) (show(26:Int)≠0 by decide)
 have h1:=dj (rs.getD j 0+(k:Int)*(if(0+(j:Int) == pos)=true then 1 else 0)) (show(0:Int)<26 by decide)
 unfold lt Low;omega
theorem zxj{n:Int}(h0:0≤n) (h1:n<26):atI (br "abcdefghijklmnopqrstuvwxyz").cps.toList n=ae (97+n.toNat):=by
 have e:=zcb (xs:=(br "abcdefghijklmnopqrstuvwxyz").cps.toList) (n:=n.toNat);rw[cR h0]at e;rw[e,zuK,List.getElem?_range' (by omega)];simp
theorem zgO (rs:List Int) (pos:Int) (k:Nat):(wd0 rs pos k).cps.toList=zfn rs pos k:=zjY _
theorem zhp (rs:List Int) (pos:Int) (k:Nat):(zfn rs pos k).length=rs.length:=by simp [zfn]
theorem zkc{rs:List Int}{pos:Int}{k c:Nat}(h:c∈zfn rs pos k):Low c:=by
 obtain⟨j,_,rfl⟩:=aG.mp h;exact zii rs pos k j
theorem zou{rs:List Int}(pos:Int) (k:Nat) (h:1≤rs.length):zfn rs pos k=lt rs pos k 0::(zfn rs pos k).drop 1:=by
 unfold zfn;obtain⟨n,hn⟩:∃n,rs.length=n+1:=⟨rs.length - 1,by omega⟩
 rw[hn,gI];simp
theorem zjU{c:Nat}(h:Low c):dL ⟨#[c]⟩=⟨#[c - 32]⟩:=by
 unfold Low at h;rw[PySem.W.KOpn.upper_one (by omega),if_pos h]
theorem zmG{rs:List Int}(pos:Int) (k:Nat):(wd1 rs pos k).cps.toList=(lt rs pos k 0 - 32)::(zfn rs pos k).drop 1:=by
 unfold wd1;rw[zjU (zii _ _ _ _)];show((#[lt rs pos k 0 - 32]:Array Nat)++(cL (wd0 rs pos k) (ae 1) none).cps).toList=_;rw[gK,znh,zgO];rfl
structure Base (rs:List Int) (pos:Int):Prop where
  l1:1≤rs.length
  l8:rs.length≤8
  p0:0≤pos
  p1:pos<rs.length
theorem zmL{rs:List Int}{pos:Int}(b:Base rs pos) (k:Nat):zcU (wd0 rs pos k):=by
 unfold zcU;rw[zgO,zhp];exact⟨b.l1,b.l8,λc hc=>zkc hc⟩
theorem zpK{rs:List Int}{pos:Int}(b:Base rs pos) (k:Nat):zdf (wd1 rs pos k):=by
 have:=zii rs pos k 0;have hl:=b.l8;unfold Low at this;refine⟨_,_,zmG pos k,by omega,by omega,by rw[cC,zhp];omega,λd hd=>zkc (iL hd)⟩
theorem zzW{rs:List Int}{pos:Int}(b:Base rs pos) {k m:Nat}(hk:k<26) (hm:m<26) (h:k≠m):lt rs pos k pos.toNat≠lt rs pos m pos.toNat:=by
 have p0:=b.p0;have e:(0+((pos.toNat:Nat):Int) == pos)=true:=by rw[beq_iff_eq];omega
 unfold lt;rw[e,if_pos rfl];omega
theorem zxL{great:Bool}{rs:List Int}{pos:Int}(b:Base rs pos) {k m:Nat}(hk:k<26) (hm:m<26) (h:k≠m):wd great rs pos k≠wd great rs pos m:=by
 have hn:=zzW b hk hm h;have p0:=b.p0;have p1:=b.p1;intro e;have e':=congrArg (λx:Str=>x.cps.toList) e;cases great with
 |false=>
  simp only[wd,bP,if_false,zgO]at e';have e2:=congrArg (λl=>l[pos.toNat]?) e';simp only[zfn,bj,fR (show pos.toNat<rs.length by omega),eE,bC]at e2
  exact hn e2
 |true=>
  simp only[wd,if_true,zmG]at e';have e2:=congrArg (λl=>l[pos.toNat]?) e';cases hp:pos.toNat with
  |zero=>
   rw[hp]at hn;have h1:=zii rs pos k 0;have h2:=zii rs pos m 0;unfold Low at h1 h2;simp only[hp,eP,bC]at e2;omega
  |succ n=>
   rw[hp]at hn;simp only[hp,cg,ja,zfn,bj]at e2;rw[show 1+n=n+1 by omega,fR (show n+1<rs.length by omega)]at e2
   simp only[eE,bC]at e2;exact hn e2
def zmr (great:Bool) (ws:List Str):Prop:=∃rs pos,Base rs pos∧(ws=(aX 6).map (wd great rs pos)∨(great=false∧ws=[wd0 rs pos 0,wd0 rs pos 1,wd0 rs pos 2,wd0 rs pos 2,wd0 rs pos 2,wd0 rs pos 5]))
structure Signs (w0 w1 w2 w3 w4 w5:Str):Prop where
  ok:∀x∈ [w0,w1,w2,w3,w4,w5],zcU x
  n0:∀x∈ [w1,w2,w3,w4,w5],w0≠x
  n1:∀x∈ [w2,w3,w4,w5],w1≠x
  n5:∀x∈ [w2,w3,w4],w5≠x
theorem zml{ws:List Str}(h:zmr false ws):∃w0 w1 w2 w3 w4 w5,ws=[w0,w1,w2,w3,w4,w5]∧Signs w0 w1 w2 w3 w4 w5:=by
 obtain⟨rs,pos,b,h⟩:=h;have hs:=λk=>zmL b k;have hn:∀k m:Nat,k<26→m<26→k≠m→wd0 rs pos k≠wd0 rs pos m:=λk m h1 h2 h3=>zxL (great:=false) b h1 h2 h3;rcases h with rfl |⟨_,rfl⟩
 ·refine⟨_,_,_,_,_,_,rfl,⟨?_,?_,?_,?_⟩⟩
  ·simp only[aA,bi,or_false,forall_eq_or_imp,forall_eq];exact⟨hs 0,hs 1,hs 2,hs 3,hs 4,hs 5⟩
  ·simp only[aA,bi,or_false,forall_eq_or_imp,forall_eq];exact⟨hn 0 1 (by decide) (by decide) (by decide),hn 0 2 (by decide) (by decide) (by decide),hn 0 3 (by decide) (by decide) (by decide),hn 0 4 (by decide) (by decide) (by decide),hn 0 5 (by decide) (by decide) (by decide)⟩
  ·simp only[aA,bi,or_false,forall_eq_or_imp,forall_eq];exact⟨hn 1 2 (by decide) (by decide) (by decide),hn 1 3 (by decide) (by decide) (by decide),hn 1 4 (by decide) (by decide) (by decide),hn 1 5 (by decide) (by decide) (by decide)⟩
  ·simp only[aA,bi,or_false,forall_eq_or_imp,forall_eq];exact⟨hn 5 2 (by decide) (by decide) (by decide),hn 5 3 (by decide) (by decide) (by decide),hn 5 4 (by decide) (by decide) (by decide)⟩
 ·refine⟨_,_,_,_,_,_,rfl,⟨?_,?_,?_,?_⟩⟩
  ·simp only[aA,bi,or_false,forall_eq_or_imp,forall_eq];exact⟨hs 0,hs 1,hs 2,hs 2,hs 2,hs 5⟩
  ·simp only[aA,bi,or_false,forall_eq_or_imp,forall_eq];exact⟨hn 0 1 (by decide) (by decide) (by decide),hn 0 2 (by decide) (by decide) (by decide),hn 0 2 (by decide) (by decide) (by decide),hn 0 2 (by decide) (by decide) (by decide),hn 0 5 (by decide) (by decide) (by decide)⟩
  ·simp only[aA,bi,or_false,forall_eq_or_imp,forall_eq];exact⟨hn 1 2 (by decide) (by decide) (by decide),hn 1 2 (by decide) (by decide) (by decide),hn 1 2 (by decide) (by decide) (by decide),hn 1 5 (by decide) (by decide) (by decide)⟩
  ·simp only[aA,bi,or_false,forall_eq_or_imp,forall_eq];exact⟨hn 5 2 (by decide) (by decide) (by decide),hn 5 2 (by decide) (by decide) (by decide),hn 5 2 (by decide) (by decide) (by decide)⟩
structure Titles (ts:List Str):Prop where
  len:ts.length=6
  ok:∀x∈ts,zdf x
  nd:ts.Nodup
theorem zkf{ws:List Str}(h:zmr true ws):Titles ws:=by
 obtain⟨rs,pos,b,h⟩:=h;rcases h with rfl |⟨e,_⟩
 ·refine⟨by simp,λx hx=>?_,?_⟩
  ·obtain⟨k,_,rfl⟩:=aG.mp hx;exact zpK b k
  ·rw[bb,ii];refine j7 (λ{a c} ha hc hne=>?_) (iS (n:=6));have ha:=eN.mp ha;have hc:=eN.mp hc;exact zxL b (by omega) (by omega) hne
 ·cases e
theorem zkU:∀(ws:List W) {rs:List Int}{sp:Int}{a:Addr}{r:Nat}{S:Sto}{E:WX}{D:WEnds}{x0 x1 x2 x3 x6 x7 x8 x9:Option W},S a=ae (.lst (rs.map W.int))→rs.length+ws.length≤1000→
  (∀(rs':List Int) sp' x6',rs'.length=rs.length+ws.length→D.nx [x0,x1,x2,x3,ae (.int sp'),ae (.ref a),x6',x7,x8,x9] (put S a (.lst (rs'.map W.int))))→
  forL (wGN 6) (zdz r zaU) E D (λ_=>True) ws [x0,x1,x2,x3,ae (.int sp),ae (.ref a),x6,x7,x8,x9] S
 | [],rs,sp,a,r,S,E,D,x0,x1,x2,x3,x6,x7,x8,x9,ha,hl,h=>by
  simp only[forL];have:=h rs sp x6 (by simp);rw[zdy ha]at this;exact this
 |w::ws,rs,sp,a,r,S,E,D,x0,x1,x2,x3,x6,x7,x8,x9,ha,hl,h=>by
  simp only[forL,zdz];walk_at "wd";simp only[aO]at hl h;simp only[zaj ha,true_and];refine⟨by decide,zbK (by simp;omega),⟨by decide,by decide⟩,_, .refl,?_⟩
  refine zkU (r:=r) ws (rs:=rs++[sp % 26]) (by rw[zag];simp) (by simp;omega) λrs' sp' x6' h1=>?_;rw[zba];exact h rs' sp' x6' (by simp at h1;omega)
theorem zqH{c:Prop} [Decidable c] {a b:Prop}(h1:c→a) (h2:¬c→b):if c then a else b:=by split<;>simp_all
theorem zoF{A T:WS}{E:WX}{D:WEnds}{σ:WSt}{S:Sto}(h:∀T',T'=T→zar A T' E D σ S):zar A T E D σ S:=h T rfl
theorem zob{one two:Int}{great:Bool}{r:Nat}{S:Sto}{Q:WK}{E:Str→Sto→Prop}(h:∀(a:Addr) (ws:List Str),S a=none→zmr great ws→Q (.ref a) (put S a (.lst (ws.map W.str)))):zch (r+1) [.int one, .int two, .bl great] S Q E:=by
 rw[zch];walk_at "wd";have o0:0≤one % 8:=c7 _ (by decide);have o1:one % 8<8:=dj _ (by decide);refine⟨⟨by decide,by decide,by decide⟩,by decide,aS _,λa ha=>⟨by decide,⟨by omega,by omega⟩,?_⟩⟩
 refine zkU _ (rs:=[]) zag (by simp [znq];omega) λrs sp x6 hl=>?_;rw[zba];simp only[c5,znq,bO]at hl;have hl':(rs.length:Int)=1+one % 8:=by rw[hl];omega
 have p0:0≤one / 8 % (rs.length:Int):=c7 _ (by omega);have p1:one / 8 % (rs.length:Int)<(rs.length:Int):=dj _ (by omega);have B:Base rs (one / 8 % (rs.length:Int)):=⟨by omega,by omega,p0,p1⟩
 walk_at "wd";simp only[ax];refine⟨⟨by decide,by decide⟩,by omega,aS _,λb hb=>⟨⟨by decide,by decide⟩,?_⟩⟩
 obtain⟨hb1,hb2⟩:=zdO hb;generalize hpos:one / 8 % (rs.length:Int)=pos at B p0 p1⊢;refine zpQ (λi σ S'=>∃x6 x9,S'=put (put S a (.lst (rs.map W.int))) b (.lst (((aX i).map (wd great rs pos)).map W.str))∧σ=[ae (.int one),ae (.int two),ae (.bl great),ae (.str (br "abcdefghijklmnopqrstuvwxyz")),ae (.int sp),ae (.ref a),x6,ae (.int pos),ae (.ref b),x9]) 6 ?_ ?_ ⟨x6,none,rfl,rfl⟩
 ·rintro k hk σ S' N ⟨x6,x9,rfl,rfl⟩ hN;have ea:put (put S a (Ob.lst (rs.map W.int))) b (Ob.lst (((aX k).map (wd great rs pos)).map W.str)) a=ae (.lst (rs.map W.int)):=by rw[zaD (bu hb2),zag]
  simp only[zeU];walk_at "wd";rw[zaj ea];simp only[ax];refine⟨⟨by omega,by omega⟩,?_⟩
  rw[bW];refine zaL (λσ=>∃x,σ=[x,ae (.str (br "abcdefghijklmnopqrstuvwxyz")),ae (.ref a),ae (.int (k:Int)),ae (.int pos)]) (λi:Nat=>W.int (0+(i:Int))) (λi=>W.str ⟨#[lt rs pos k i]⟩) trivial (aX rs.length) [] _ ⟨none,rfl⟩ (by simp;omega) (λi hi σ R hI hR=>?_) ?_
  ·obtain⟨x,rfl⟩:=hI;have hi:=eN.mp hi;simp only[zeW];walk_at "wd";have e:=zcb (xs:=rs.map W.int) (n:=i);rw[show(i:Int)=0+(i:Int) by omega,bj,a_ hi]at e
   rw[zaj ea,e];dsimp only[Option.map];walk_at "wd";have ec:=zxj (n:=(rs[i]+(k:Int)*(if(0+(i:Int) == pos)=true then 1 else 0)) % 26) (c7 _ (by decide)) (dj _ (by decide));rw[ec];have el:lt rs pos k i=97+((rs[i]+(k:Int)*(if(0+(i:Int) == pos)=true then 1 else 0)) % 26).toNat:=by
    unfold lt;rw[bv,a_ hi];rfl
   rw[←el];exact⟨.inl ⟨by omega,by omega⟩,by decide,zal (by rw[zyA];decide),hR _ _ ⟨_,rfl⟩ .refl⟩
  ·have es:(aX rs.length).map (λi=>W.str ⟨#[lt rs pos k i]⟩)=(zfn rs pos k).map λc=>W.str ⟨#[c]⟩:=by
    unfold zfn;rw[bg];rfl
   have hw:=zmL B k;rw[aY,es,zhk];refine⟨zrB _ (by rw[zhp];omega),?_⟩;show _;have ew:cW (br "") ((zfn rs pos k).map λc=>(⟨#[c]⟩:Str))=wd0 rs pos k:=rfl;rw[ew];have hl8:(wd0 rs pos k).length≤8:=by rw[zmf];exact hw.2.1
   have fin:∀z:Str,z=wd great rs pos k→ ∀x9:Option W,N [ae (.int one),ae (.int two),ae (.bl great),ae (.str (br "abcdefghijklmnopqrstuvwxyz")),ae (.int sp),ae (.ref a),ae (.int (k:Int)),ae (.int pos),ae (.ref b),x9] (put (put S a (.lst (rs.map W.int))) b (.lst (((aX k).map (wd great rs pos)).map W.str++[.str z]))):=λz hz x9=>by
    subst hz;refine hN _ _ _ .refl ⟨_,_,?_,rfl⟩;rw[ic,bD,bD];rfl
   have hxl:(((aX k).map (wd great rs pos)).map W.str).length<sizeLine:=zbK (by simp;omega);cases great with
   |false=>
    try walk_at "wd"
    try simp only[zgT,zba,true_and]
    exact⟨hxl,fin _ rfl _⟩
   |true=>
    walk_at "wd";rw[zgO,zou pos k B.l1,zjz];dsimp only
    try walk_at "wd"
    try simp only[zgT,zba,true_and]
    refine⟨zal (by omega),?_⟩;have h1:(⟨#[lt rs pos k 0]⟩:Str).length=1:=rfl;have h2:(dL ⟨#[lt rs pos k 0]⟩).length=1:=by rw[zjU (zii _ _ _ _)];rfl
    have h3:(cL (wd0 rs pos k) (ae 1) none).length≤8:=by
     rw[zmf,znh,cC,←zmf];omega
    exact⟨by omega,zal (by omega),zal (by omega),hxl,fin _ rfl _⟩
 ·rintro σ S' ⟨x6,x9,rfl,rfl⟩;have eb:put (put S a (Ob.lst (rs.map W.int))) b (Ob.lst (((aX 6).map (wd great rs pos)).map W.str)) b=ae (.lst (((aX 6).map (wd great rs pos)).map W.str)):=zag;walk_at "wd";cases great with
  |true=>
   walk_at "wd";refine⟨⟨by decide,by decide⟩,by decide,?_⟩
   split
   ·exact⟨_, .put2 (.put .refl ha),h b _ hb1 ⟨rs,pos,B, .inl rfl⟩⟩
   ·exact⟨_, .put2 (.put .refl ha),h b _ hb1 ⟨rs,pos,B, .inl rfl⟩⟩
  |false=>
   walk_at "wd";refine⟨⟨by decide,by decide⟩,by decide,?_⟩
   split
   ·have e6:((aX 6).map (wd false rs pos)).map W.str=[.str (wd0 rs pos 0), .str (wd0 rs pos 1), .str (wd0 rs pos 2), .str (wd0 rs pos 3), .str (wd0 rs pos 4), .str (wd0 rs pos 5)]:=rfl;simp only[e6]
    try walk_at "wd"
    have c3:zeg [W.str (wd0 rs pos 0), .str (wd0 rs pos 1), .str (wd0 rs pos 2), .str (wd0 rs pos 3), .str (wd0 rs pos 4), .str (wd0 rs pos 5)] none (ae 3)=[.str (wd0 rs pos 0), .str (wd0 rs pos 1), .str (wd0 rs pos 2)]:=rfl;have a2:atI [W.str (wd0 rs pos 0), .str (wd0 rs pos 1), .str (wd0 rs pos 2), .str (wd0 rs pos 3), .str (wd0 rs pos 4), .str (wd0 rs pos 5)] 2=ae (.str (wd0 rs pos 2)):=rfl;have a5:atI [W.str (wd0 rs pos 0), .str (wd0 rs pos 1), .str (wd0 rs pos 2), .str (wd0 rs pos 3), .str (wd0 rs pos 4), .str (wd0 rs pos 5)] 5=ae (.str (wd0 rs pos 5)):=rfl;simp only[c3,a2,a5]
    try walk_at "wd"
    refine⟨zal (by decide),zal (by decide),λc hc=>?_⟩;obtain⟨hc1,hc2⟩:=zdO hc;obtain⟨hc1,hc3⟩:=zdO hc1;exact⟨_, .put2 (.put (.put .refl ha) hb1),h c _ hc1 ⟨rs,pos,B, .inr ⟨rfl,rfl⟩⟩⟩
   ·exact⟨_, .put2 (.put .refl ha),h b _ hb1 ⟨rs,pos,B, .inl rfl⟩⟩
mutual
noncomputable def Tr.nb:Tr→Nat
 | .bl _=>1
 | .nd _ ts=>nbs ts
noncomputable def nbs:List Tr→Nat
 | []=>0
 |t::ts=>t.nb+nbs ts
end
mutual
theorem ztP:∀(t:Tr) (p:List Int),((t.plt p).filter λx=>x.2.isBl).length=t.nb
 | .bl n,p=>by simp [Tr.plt,Tr.isBl,Tr.nb]
 | .nd s ts,p=>by
  have:=zqI ts p 0;simpa [Tr.plt,Tr.isBl,Tr.nb]using this
theorem zqI:∀(ts:List Tr) (p:List Int) (i:Nat),((zfO p i ts).filter λx=>x.2.isBl).length=nbs ts
 | [],p,i=>by simp [zfO,nbs]
 |t::ts,p,i=>by
  have h1:=ztP t (p++[(i:Int)]);have h2:=zqI ts p (i+1);rw[zfO,iT,aM,h1,h2,nbs]
end
theorem zzp (t:Tr):t.bls.length=t.nb:=ztP t []
theorem zrC:∀ts:List Tr,(ts.map λt=>(t.nb:Int)).sum=(nbs ts:Int)
 | []=>by simp [nbs]
 |t::ts=>by
  rw[ay,df,zrC ts,nbs];omega
theorem zvF (ts:List Tr):zcy (ts.map λt=>W.int (t.nb:Int))=ae (ts.map λt=>(t.nb:Int)):=by
 have:=zga (ts.map λt=>(t.nb:Int));rw[bg]at this;exact this
theorem zgS:∀(d:Nat) {t:Tr}{r:Nat}{S:Sto}{Q:WK}{E:Str→Sto→Prop},t.depth≤d→d≤r+1→t.weight≤90000→Q (.int t.nb) S→zax (r+1) [enc t] S Q E
 |0,t,r,S,Q,E,hd,hr,hw,h=>by have:=zaB t;omega
 |d+1, .bl n,r,S,Q,E,hd,hr,hw,h=>by
  rw[zax];simp only[enc];walk_at "wd";simp only[Tr.nb]at h;exact⟨S, .refl,h⟩
 |d+1, .nd s ts,r,S,Q,E,hd,hr,hw,h=>by
  simp only[Tr.depth]at hd;simp only[Tr.weight]at hw;have hk:=zcP ts;rw[zax];simp only[enc];walk_at "wd";rw[zaA];refine zaL (λσ=>∃x,σ=[x]) enc (λt=> .int (t.nb:Int)) trivial ts [] _ ⟨none,rfl⟩ (by simp;omega) (λx hx σ R hI hR=>?_) ?_
  ·obtain⟨y,rfl⟩:=hI;have hdx:=zbq hx;have hwx:=zdD hx;have:=zaB x;obtain⟨r,rfl⟩:∃r',r=r'+1:=⟨r - 1,by omega⟩
   simp only[zdx];walk_at "wd";exact zgS d (t:=x) (r:=r) (by omega) (by omega) (by omega) (hR _ _ ⟨_,rfl⟩ .refl)
  ·rw[aY,zvF];dsimp only;rw[zrC];simp only[Tr.nb]at h;exact⟨S, .refl,h⟩
theorem zjC{w:W}{ws:List W}:zeg (w::ws) none (ae 1)=[w]:=by
 rw[show(1:Int)=((1:Nat):Int) from rfl,zjh];rfl
theorem zgm{us:List Tr}{a:Addr}:∀(d:Nat) {t:Tr}{r:Nat}{S:Sto}{Q:WK}{E:Str→Sto→Prop},t.depth≤d→d≤r+1→S a=ae (.lst (encs us))→t.fits us.length→t.weight≤90000→Q (enc (t.fill us)) S→zbl (r+1) [enc t, .ref a] S Q E
 |0,t,r,S,Q,E,hd,hr,ha,hf,hw,h=>by have:=zaB t;omega
 |d+1, .bl n,r,S,Q,E,hd,hr,ha,hf,hw,h=>by
  simp only[Tr.fits]at hf;simp only[Tr.fill]at h;rw[zbl];simp only[enc];walk_at "wd";have e:atI (encs us) n=ae (enc (us.getD n.toNat (.bl n))):=by
   have q:=zcb (xs:=encs us) (n:=n.toNat);rw[cR hf.1]at q;rw[q,zaA,bj,bv,a_ (by omega)];rfl
  rw[zaj ha,e];exact⟨S, .refl,h⟩
 |d+1, .nd s ts,r,S,Q,E,hd,hr,ha,hf,hw,h=>by
  simp only[Tr.fits]at hf;simp only[Tr.fill]at h;simp only[Tr.depth]at hd;simp only[Tr.weight]at hw;have hk:=zcP ts;rw[zbl];simp only[enc]at h⊢;walk_at "wd";rw[zjC];rw[zaA];refine zaL (λσ=>∃x,σ=[x,ae (.ref a)]) enc (λt=>enc (t.fill us)) trivial ts [] _ ⟨none,rfl⟩ (by simp;omega) (λx hx σ R hI hR=>?_) ?_
  ·obtain⟨y,rfl⟩:=hI;have hdx:=zbq hx;have hwx:=zdD hx;have:=zaB x;obtain⟨r,rfl⟩:∃r',r=r'+1:=⟨r - 1,by omega⟩
   simp only[zet];walk_at "wd";exact zgm d (t:=x) (r:=r) (by omega) (by omega) ha (zfl hf hx) (by omega) (hR _ _ ⟨_,rfl⟩ .refl)
  ·rw[aY];walk_at "wd";refine⟨zal (by simp;omega),S, .refl,?_⟩;have e:encs (fills us ts)=ts.map λt=>enc (t.fill us):=by rw[zaA,zhx,bg];rfl
   rw[e]at h;exact h
inductive Item (ws:List Str) (m:Nat):Tr→Prop
 |bl {n:Int}:0≤n→n<m→Item ws m (.bl n)
 |nd {s:Str}:s∈ws→Item ws m (.nd s [])
inductive RightT (ws:List Str) (m:Nat):Tr→Prop
 |one {t:Tr}:Item ws m t→RightT ws m t
 |un {s:Str}{t:Tr}:s∈ws→Item ws m t→RightT ws m (.nd s [t])
 |two {s:Str}{t u:Tr}:s∈ws→0<m→Item ws m t→Item ws m u→RightT ws m (.nd s [t,u])
 |deep {s z:Str}{t u:Tr}:s∈ws→z∈ws→0<m→Item ws m t→Item ws m u→RightT ws m (.nd s [.nd z [t],u])
noncomputable def leftsL (n:Nat) (h c d:Str):List Tr:=
 match n with
 |0=>[.nd h [.bl 0]]
 |1=>[.nd h [.bl 0, .bl 1]]
 |2=>[.nd h [.nd c []], .nd h [.nd d [.bl 0]]]
 |3=>[.nd h [.nd c [], .bl 0], .nd h [.nd d [.bl 0], .bl 1]]
 |4=>[.nd h [.nd d [.nd d [.bl 0]], .bl 1, .bl 2], .nd h [.nd d [.nd c []], .bl 0, .bl 1]]
 |_=>[.nd h []]
section
variable {w0 w1 w2 w3 w4 w5:Str}{r:Nat}{S:Sto}{Q:WK}{E:Str→Sto→Prop}{a:Addr}
noncomputable abbrev six (w0 w1 w2 w3 w4 w5:Str):List W:=[.str w0, .str w1, .str w2, .str w3, .str w4, .str w5]
theorem zCy:atI (six w0 w1 w2 w3 w4 w5) 0=ae (.str w0):=rfl
theorem zBQ:atI (six w0 w1 w2 w3 w4 w5) 1=ae (.str w1):=rfl
theorem six2:atI (six w0 w1 w2 w3 w4 w5) 2=ae (.str w2):=rfl
theorem zBe:atI (six w0 w1 w2 w3 w4 w5) 3=ae (.str w3):=rfl
theorem six4:atI (six w0 w1 w2 w3 w4 w5) 4=ae (.str w4):=rfl
theorem zCb:atI (six w0 w1 w2 w3 w4 w5) 5=ae (.str w5):=rfl
theorem zpc{draw:Int}{m:Nat}(ha:S a=ae (.lst (six w0 w1 w2 w3 w4 w5))) (h:∀t,Item [w0,w1,w2,w3,w4,w5] m t→Q (enc t) S):zcN (r+1) [.int draw, .int m, .ref a] S Q E:=by
 rw[zcN];walk_at "wd";have fin:∀w:Str,w∈ [w0,w1,w2,w3,w4,w5]→ ∃S'',Sub S'' S∧Q (.tup [.str w]) S'':=λw hw=>⟨S, .refl,by
  have:=h _ (.nd hw);simpa only[enc,encs]using this⟩
 have pick:∃x:Str,x∈ [w0,w1,w2,w3,w4,w5]∧ ∃i:Int,atI [W.int 2,W.int 5] (draw / 4 % 2)=ae (.int i)∧atI (six w0 w1 w2 w3 w4 w5) i=ae (.str x):=by
  rcases zoj (draw / 4) with e |e
  ·exact⟨w2,by simp,2,by rw[e];rfl,rfl⟩
  ·exact⟨w5,by simp,5,by rw[e];rfl,rfl⟩
 obtain⟨x,hx,i,e1,e2⟩:=pick;simp only[e1];walk_at "wd";simp only[zaj ha,e2];have tail:2≤sizeLine∧zib draw 4∧(0:Int)<2∧1≤sizeLine∧ ∃S'',Sub S'' S∧Q (.tup [.str x]) S'':=⟨zal (by decide),⟨by decide,by decide⟩,by decide,zal (by decide),fin x hx⟩
 split
 ·rename_i hm;refine⟨by decide,?_⟩;split
  ·refine⟨⟨by decide,by decide⟩,hm,S, .refl,?_⟩
   have:=h (.bl (draw / 4 % (m:Int))) (.bl (c7 _ (by omega)) (dj _ hm));simpa only[enc]using this
  ·exact tail
 ·exact tail
theorem zsn{draw:Int}{m:Nat}(ha:S a=ae (.lst (six w0 w1 w2 w3 w4 w5))) (h:∀t,RightT [w0,w1,w2,w3,w4,w5] m t→Q (enc t) S):zci (r+2) [.int draw, .int m, .ref a] S Q E:=by
 rw[zci,zhf];refine⟨rfl,zoF λT hT=>?_⟩;walk_at "wd";refine⟨⟨by decide,by decide⟩,zpc ha λt ht=>?_⟩
 subst hT;refine zoF λT hT=>?_;walk_at "wd";refine⟨⟨by decide,by decide⟩,zpc ha λu hu=>?_⟩
 subst hT;refine zoF λT hT=>?_;walk_at "wd";refine⟨by decide,?_⟩;subst hT;have q1:=h _ (.one ht);have q2:=λ(s:Str) (hs:s∈ [w0,w1,w2,w3,w4,w5])=>h _ (.un hs ht);have q3:=λ(s:Str) (hs:s∈ [w0,w1,w2,w3,w4,w5]) (h0:0<m)=>h _ (.two hs h0 ht hu);have q4:=λ(s:Str) (hs:s∈ [w0,w1,w2,w3,w4,w5]) (h0:0<m)=>h _ (.two hs h0 ht ht);have q5:=λ(s z:Str) (hs:s∈ [w0,w1,w2,w3,w4,w5]) (hz:z∈ [w0,w1,w2,w3,w4,w5]) (h0:0<m)=>h _ (.deep hs hz h0 ht hu);simp only[enc,encs]at q2 q3 q4 q5;have l2:2≤sizeLine:=zal (by decide);have l3:3≤sizeLine:=zal (by decide);refine zoF λT hT=>?_;walk_at "wd";refine zqH (λ_=>⟨S, .refl,q1⟩) λ_=>?_;subst hT;refine zoF λT hT=>?_;walk_at "wd";simp only[zaj ha,zBe];refine zqH (λ_=>⟨l2,S, .refl,q2 _ (by simp)⟩) λ_=>zqH (λ_=>⟨l2,S, .refl,q2 _ (by simp)⟩) λhm=>?_;subst hT;have h0:0<m:=by
  rcases eV m with z |z
  ·rw[z]at hm;exact absurd rfl hm
  ·exact z
 refine zoF λT hT=>?_;walk_at "wd";simp only[zaj ha,six4];refine zqH (λ_=>⟨l3,S, .refl,q3 _ (by simp) h0⟩) λ_=>?_;subst hT;refine zoF λT hT=>?_;walk_at "wd";simp only[zaj ha,six4];refine zqH (λ_=>⟨l3,S, .refl,q4 _ (by simp) h0⟩) λ_=>?_;subst hT;refine zoF λT hT=>?_;walk_at "wd";simp only[zaj ha,zBe,six4];refine zqH (λ_=>⟨l2,l3,S, .refl,q5 _ _ (by simp) (by simp) h0⟩) λ_=>?_;subst hT;refine zoF λT hT=>?_;walk_at "wd";simp only[zaj ha,zCy];refine zqH (λ_=>⟨l2,S, .refl,q2 _ (by simp)⟩) λ_=>?_;subst hT;walk_at "wd";simp only[zaj ha,zBQ];exact⟨l3,S, .refl,q3 _ (by simp) h0⟩
end
section
variable {w0 w1 w2 w3 w4 w5:Str}{tt:List Str}{ns:List Int}{aw at' ab al:Addr}{r:Nat}{E:WX}{D:WEnds}{k j:Int}
theorem zmA (h6:tt.length=6) (k0:0≤k) (j0:0≤j):∀(ls:List Tr) {i:Nat}{C:List Tn}{S:Sto}{G:Sto→Prop}{x7 x8 x9:Option W},(∀L∈ls,L.depth≤4∧L.weight≤7)→C.length+ls.length≤6→S ab=ae (.lst (C.map zaY))→S aw=ae (.lst (six w0 w1 w2 w3 w4 w5))→S at'=ae (.lst (tt.map W.str))→ab≠aw→ab≠at'→
  (∀o,G (put S ab o))→
  (∀(C':List Tn) (x7 x8 x9:Option W),C'.map (λt=>t.2.1)=ls→(C.map (λt=>t.1)=tt.take C.length→(C++C').map (λt=>t.1)=tt.take (C++C').length)→(∀t∈C',RightT [w0,w1,w2,w3,w4,w5] t.2.1.nb t.2.2)→D.nx [ae (.scr ns),ae (.int k),ae (.ref aw),ae (.ref at'),ae (.ref ab),ae (.int j),ae (.ref al),x7,x8,x9] (put S ab (.lst ((C++C').map zaY))))→
  forL (wGT (zaq (wGN 7) (zaq (wGN 8) zbE))) (zdZ (r+6) zaU) E D G (zht i (encs ls)) [ae (.scr ns),ae (.int k),ae (.ref aw),ae (.ref at'),ae (.ref ab),ae (.int j),ae (.ref al),x7,x8,x9] S
 | [],i,C,S,G,x7,x8,x9,hL,hl,hb,hw,ht,n1,n2,hG,h=>by
  simp only[encs,zht,forL];have:=h [] x7 x8 x9 rfl (λz=>by simpa using z) (λ_ h=>nomatch h)
  rw[bK,zdy hb]at this;exact this
 |L::ls,i,C,S,G,x7,x8,x9,hL,hl,hb,hw,ht,n1,n2,hG,h=>by
  have hLd:=hL L aV;simp only[aO]at hl;simp only[encs,zht];refine zbp λN hN=>?_;simp only[zdZ];walk_at "wd";refine⟨.inl ⟨by decide,by decide⟩,zgk (by omega) λdraw=>zgS 4 hLd.1 (by omega) (by omega) (zsn hw λR hR=>?_)⟩
  try walk_at "wd"
  obtain⟨ti,eti,_⟩:=zvx (ss:=tt) (i:=(C.length:Int)) (by omega) (by omega);simp only[zaj hb,zaj ht,ax,eti,true_and];refine⟨zal (by decide),zbK (by omega),?_⟩;refine hN _ _ (put S ab (.lst ((C++[(ti,L,R)]).map zaY))) (by rw[bD];exact .refl) (hG _) ?_;refine zmA h6 k0 j0 ls (C:=C++[(ti,L,R)]) (λM hM=>hL M (aI _ hM)) (by simp;omega) zag (by rw[zaD (bu n1)];exact hw) (by rw[zaD (bu n2)];exact ht) n1 n2 (λo=>by rw[zba];exact hG o) λC' x7 x8 x9 e1 e2 e3=>?_
  rw[zba];have:=h ((ti,L,R)::C') x7 x8 x9 (by rw[ay,e1]) (λz=>?_) (λt ht'=>?_)
  ·simpa using this
  ·have e:C++[(ti,L,R)]++C'=C++(ti,L,R)::C':=by simp
   rw[e]at e2;refine e2 ?_;rw[bD,z,aM,bF,j5];congr 1;have e4:(tt.map W.str)[C.length]? =ae (.str ti):=by rw[←zcb];exact eti
   rw[bj]at e4;cases q:tt[C.length]? with
   |none=>rw[q]at e4;cases e4
   |some y=>rw[q]at e4;cases e4;rfl
  ·rcases aA.mp ht' with rfl |z
   ·exact hR
   ·exact e3 t z
theorem zlJ (n:Nat) (h c d:Str):∀L∈leftsL n h c d,L.depth≤4∧L.weight≤7:=by
 intro L hL;unfold leftsL at hL;split at hL<;>simp only[aA,bi,or_false]at hL
 all_goals first
  | (subst hL;simp [Tr.depth,dts,Tr.weight,wts])
  | (rcases hL with rfl |rfl<;>simp [Tr.depth,dts,Tr.weight,wts])
theorem zfq (n:Nat) (h c d:Str):1≤(leftsL n h c d).length∧(leftsL n h c d).length≤2:=by
 unfold leftsL;split<;>simp
noncomputable def hdOf (w0 w1:Str) (j:Nat):Str:=if j=0 then w0 else w1
end
noncomputable def zsg (x:Str):Bool:=decide (1≤x.cps.toList.length)&&(decide (x.cps.toList.length≤8)&&small x.cps.toList)
theorem zpp (xs:List Nat):small xs=true↔ ∀c∈xs,Low c:=by
 unfold small;rw[dh];simp only[ztO,Low,b6,decide_eq_true_eq]
theorem zfP (x:Str):zsg x=true↔zcU x:=by
 unfold zsg zcU;rw[b6,b6,decide_eq_true_eq,decide_eq_true_eq,zpp]
theorem zeJ{x y:Str}(h:zcU x) (g:zdf y):x≠y:=by
 rintro rfl;obtain⟨c,r,e,h1,h2,_⟩:=g;have:=h.2.2 c (by rw[e];exact aV);unfold Low at this;omega
mutual
noncomputable def Tr.hd (P:Str→Prop):Tr→Prop
 | .bl _=>False
 | .nd s ts=>P s∧hds P ts
noncomputable def hds (P:Str→Prop):List Tr→Prop
 | []=>True
 |t::ts=>t.hd P∧hds P ts
end
mutual
noncomputable def Tr.hb (P:Str→Prop):Tr→Prop
 | .bl _=>True
 | .nd s ts=>P s∧hbs P ts
noncomputable def hbs (P:Str→Prop):List Tr→Prop
 | []=>True
 |t::ts=>t.hb P∧hbs P ts
end
theorem hds_iff{P:Str→Prop}:∀{ts:List Tr},hds P ts↔ ∀t∈ts,t.hd P
 | []=>by simp [hds]
 |t::ts=>by simp [hds,hds_iff (ts:=ts)]
mutual
theorem zpe{P P':Str→Prop}(h:∀s,P s→P' s):∀(t:Tr),t.hd P→t.hd P'
 | .bl _,q=>by simp [Tr.hd]at q
 | .nd s ts,q=>by
  simp only[Tr.hd]at q⊢;exact⟨h s q.1,zmT h ts q.2⟩
theorem zmT{P P':Str→Prop}(h:∀s,P s→P' s):∀(ts:List Tr),hds P ts→hds P' ts
 | [],_=>by simp [hds]
 |t::ts,q=>by
  simp only[hds]at q⊢;exact⟨zpe h t q.1,zmT h ts q.2⟩
end
mutual
theorem ziV{P P':Str→Prop}(h:∀s,P s→P' s):∀(t:Tr),t.hb P→t.hb P'
 | .bl _,q=>by simp [Tr.hb]
 | .nd s ts,q=>by
  simp only[Tr.hb]at q⊢;exact⟨h s q.1,zmy h ts q.2⟩
theorem zmy{P P':Str→Prop}(h:∀s,P s→P' s):∀(ts:List Tr),hbs P ts→hbs P' ts
 | [],_=>by simp [hbs]
 |t::ts,q=>by
  simp only[hbs]at q⊢;exact⟨ziV h t q.1,zmy h ts q.2⟩
end
mutual
theorem zhg{P:Str→Prop}{us:List Tr}(hu:∀u∈us,u.hd P):∀(t:Tr),t.hb P→t.fits us.length→(t.fill us).hd P
 | .bl n,h,f=>by
  simp only[Tr.fits]at f;simp only[Tr.fill];rw[bv,a_ (show n.toNat<us.length by omega)]
  exact hu _ (gX ..)
 | .nd s ts,h,f=>by
  simp only[Tr.fits]at f;simp only[Tr.hb]at h;simp only[Tr.fill,Tr.hd];exact⟨h.1,znv hu ts h.2 f⟩
theorem znv{P:Str→Prop}{us:List Tr}(hu:∀u∈us,u.hd P):∀(ts:List Tr),hbs P ts→fitss us.length ts→hds P (fills us ts)
 | [],h,f=>by simp [fills,hds]
 |t::ts,h,f=>by
  simp only[fitss]at f;simp only[hbs]at h;simp only[fills,hds];exact⟨zhg hu t h.1 f.1,znv hu ts h.2 f.2⟩
end
structure RightW (ws:List Str) (m:Nat) (t:Tr):Prop where
  dp:t.depth≤4
  fits:t.fits m
  hb:∀{P:Str→Prop},(∀x∈ws,P x)→t.hb P
  wt:t.weight≤7
def zBS (B:List Tn):Prop:=∀t∈B,∀(us:List Tr) (M:Nat),us.length=t.2.1.nb→1≤M→(∀u∈us,u.weight≤M)→(t.2.2.fill us).weight≤2+2*M∧(t.2.1.nb=0→(t.2.2.fill us).weight≤1+M)
structure BookOk (w0 w1 w2 w3 w4 w5:Str) (tt:List Str) (B:List Tn):Prop where
  lf:∃n m:Nat,B.map (λt=>t.2.1)=leftsL n w0 w2 w3++leftsL m w1 w2 w3
  ti:B.map (λt=>t.1)=tt.take B.length
  ri:∀t∈B,RightW [w0,w1,w2,w3,w4,w5] t.2.1.nb t.2.2
structure LeftT (P:Str→Prop) (L:Tr):Prop where
  hb:L.hb P
  fits:L.fits L.nb
  wt:L.weight≤L.nb+3
  dp:L.depth≤4
  nb:L.nb≤3
  nd:∃s ts,L= .nd s ts
  fw:∀us:List Tr,us.length=L.nb→(L.fill us).weight≤3+wts us
  fw0:L.nb=0→(L.fill []).weight≤2
theorem zgR{P:Str→Prop}{n:Nat}{h c d:Str}(hh:P h) (hc:P c) (hd:P d):∀L∈leftsL n h c d,LeftT P L:=by
 unfold leftsL;intro L hL;split at hL<;>simp only[aA,bi,or_false]at hL
 all_goals first
  | (subst hL;exact⟨by simp [Tr.hb,hbs,hh,hc,hd],by simp [Tr.fits,fitss,Tr.nb,nbs],by simp [Tr.weight,wts,Tr.nb,nbs],by simp [Tr.depth,dts],by simp [Tr.nb,nbs],⟨_,_,rfl⟩,λus hu=>by rcases us with _ |⟨u,_ |⟨v,_ |⟨x,_ |⟨y,us⟩⟩⟩⟩<;>simp [Tr.nb,nbs,Tr.fill,fills,Tr.weight,wts]at hu⊢ <;>omega,λh0=>by simp [Tr.nb,nbs,Tr.fill,fills,Tr.weight,wts]at h0⊢⟩)
  | (rcases hL with rfl |rfl<;>exact⟨by simp [Tr.hb,hbs,hh,hc,hd],by simp [Tr.fits,fitss,Tr.nb,nbs],by simp [Tr.weight,wts,Tr.nb,nbs],by simp [Tr.depth,dts],by simp [Tr.nb,nbs],⟨_,_,rfl⟩,λus hu=>by rcases us with _ |⟨u,_ |⟨v,_ |⟨x,_ |⟨y,us⟩⟩⟩⟩<;>simp [Tr.nb,nbs,Tr.fill,fills,Tr.weight,wts]at hu⊢ <;>omega,λh0=>by simp [Tr.nb,nbs,Tr.fill,fills,Tr.weight,wts]at h0⊢⟩)
section
variable {w0 w1 w2 w3 w4 w5:Str}{tt:List Str}{B:List Tn}
theorem BookOk.len (b:BookOk w0 w1 w2 w3 w4 w5 tt B):2≤B.length∧B.length≤4:=by
 obtain⟨n,m,e⟩:=b.lf;have h1:=zfq n w0 w2 w3;have h2:=zfq m w1 w2 w3;have e':=congrArg db e;rw[ax,aM]at e';omega
theorem BookOk.left (b:BookOk w0 w1 w2 w3 w4 w5 tt B) {P:Str→Prop}(h0:P w0) (h1:P w1) (h2:P w2) (h3:P w3) {t:Tn}(ht:t∈B):LeftT P t.2.1:=by
 obtain⟨n,m,e⟩:=b.lf;have:t.2.1∈leftsL n w0 w2 w3++leftsL m w1 w2 w3:=by rw[←e];exact aG.mpr ⟨t,ht,rfl⟩
 rcases bp.mp this with z |z
 ·exact zgR h0 h2 h3 _ z
 ·exact zgR h1 h2 h3 _ z
theorem BookOk.nodup (b:BookOk w0 w1 w2 w3 w4 w5 tt B) (T:Titles tt):(B.map λt=>t.1).Nodup:=by
 rw[b.ti];exact bb.sublist (iY ..) T.nd
theorem BookOk.mem (b:BookOk w0 w1 w2 w3 w4 w5 tt B) {t:Tn}(ht:t∈B):t.1∈tt:=by
 have:t.1∈B.map λt=>t.1:=aG.mpr ⟨t,ht,rfl⟩;rw[b.ti]at this;exact iK this
end
noncomputable def zaN (B:List Tn) (s:Str):Option Tn:=B.find? λt=>t.1 == s
theorem zca:∀{B:List Tn}{t:Tn},(B.map λt=>t.1).Nodup→t∈B→zaN B t.1=ae t
 |u::B,t,hn,ht=>by
  unfold zaN;rw[ay,dw]at hn;rw[bM];rcases aA.mp ht with rfl |ht
  ·simp
  ·have hne:u.1≠t.1:=λz=>hn.1 (by rw[z];exact aG.mpr ⟨t,ht,rfl⟩);have:(u.1 == t.1)=false:=by simpa using hne
   rw[this];exact zca hn.2 ht
theorem zhC{B:List Tn}{s:Str}(h:∀t∈B,t.1≠s):zaN B s=none:=by
 unfold zaN;rw[List.find?_eq_none];intro t ht;simpa using h t ht
noncomputable def topB (B:List Tn) (s:Str) (n:Nat):Bool:=match zaN B s with
 |none=>zsg s
 |some t=>n == t.2.1.nb
mutual
noncomputable def Tr.way (B:List Tn):Tr→Bool
 | .bl _=>false
 | .nd s ts=>topB B s ts.length&&zid B ts
noncomputable def zid (B:List Tn):List Tr→Bool
 | []=>true
 |t::ts=>t.way B&&zid B ts
end
mutual
noncomputable def Tr.quiet:Tr→Bool
 | .bl _=>false
 | .nd s ts=>zsg s&&zhv ts
noncomputable def zhv:List Tr→Bool
 | []=>true
 |t::ts=>t.quiet&&zhv ts
end
theorem zjm (B:List Tn):∀ts:List Tr,zid B ts=ts.all (Tr.way B)
 | []=>by simp [zid]
 |t::ts=>by simp [zid,zjm B ts]
mutual
theorem ziC:∀t:Tr,t.hd zcU→t.quiet=true
 | .bl n,h=>by simp [Tr.hd]at h
 | .nd s ts,h=>by
  simp only[Tr.hd]at h;rw[Tr.quiet,(zfP s).mpr h.1,zhR ts h.2];rfl
theorem zhR:∀ts:List Tr,hds zcU ts→zhv ts=true
 | [],h=>by simp [zhv]
 |t::ts,h=>by
  simp only[hds]at h;rw[zhv,ziC t h.1,zhR ts h.2];rfl
end
mutual
theorem zjs{B:List Tn}(hB:∀t∈B,zdf t.1) {us:List Tr}(hu:∀u∈us,u.way B=true):∀(t:Tr),t.hb zcU→t.fits us.length→(t.fill us).way B=true
 | .bl n,h,f=>by
  simp only[Tr.fits]at f;simp only[Tr.fill];rw[bv,a_ (show n.toNat<us.length by omega)]
  exact hu _ (gX ..)
 | .nd s ts,h,f=>by
  simp only[Tr.fits]at f;simp only[Tr.hb]at h;simp only[Tr.fill,Tr.way];rw[zkT hB hu ts h.2 f,topB,zhC λt ht=>(zeJ h.1 (hB t ht)).symm,(zfP s).mpr h.1];rfl
theorem zkT{B:List Tn}(hB:∀t∈B,zdf t.1) {us:List Tr}(hu:∀u∈us,u.way B=true):∀(ts:List Tr),hbs zcU ts→fitss us.length ts→zid B (fills us ts)=true
 | [],h,f=>by simp [fills,zid]
 |t::ts,h,f=>by
  simp only[fitss]at f;simp only[hbs]at h;rw[fills,zid,zjs hB hu t h.1 f.1,zkT hB hu ts h.2 f.2];rfl
end
inductive Pl where
  |nd (k bits:Int) (head:Str) (ps:List Pl)
mutual
noncomputable def Pl.wt:Pl→Nat
 | .nd _ _ _ ps=>1+pwts ps
noncomputable def pwts:List Pl→Nat
 | []=>0
 |p::ps=>p.wt+pwts ps
end
mutual
noncomputable def Pl.dp:Pl→Nat
 | .nd _ _ _ ps=>1+zeS ps
noncomputable def zeS:List Pl→Nat
 | []=>0
 |p::ps=>max p.dp (zeS ps)
end
mutual
noncomputable def Pl.nt:Pl→Nat
 | .nd k _ _ ps=>(if k<0 then 0 else 1)+pnts ps
noncomputable def pnts:List Pl→Nat
 | []=>0
 |p::ps=>p.nt+pnts ps
end
inductive PlOk (ws:List Str) (B:List Tn):Pl→Prop
 |sign {b:Int}{h:Str}{ps:List Pl}:h∈ws→(∀p∈ps,PlOk ws B p)→PlOk ws B (.nd (-1) b h ps)
 |turn {k:Nat}{b:Int}{h:Str}{ps:List Pl}{t:Tn}:B[k]? =ae t→ps.length=t.2.1.nb→0≤b→b<8→(∀p∈ps,PlOk ws B p)→PlOk ws B (.nd k b h ps)
mutual
noncomputable def Pl.ev (B:List Tn) (c:Int→Nat):Pl→Tr
 | .nd k b h ps=>if k<0 then .nd h (evs B c ps) else match c b with
  |0=>(B.getD k.toNat (h, .bl 0, .bl 0)).2.1.fill (evs B c ps)
  |1=> .nd (B.getD k.toNat (h, .bl 0, .bl 0)).1 (evs B c ps)
  |_=>(B.getD k.toNat (h, .bl 0, .bl 0)).2.2.fill (evs B c ps)
noncomputable def evs (B:List Tn) (c:Int→Nat):List Pl→List Tr
 | []=>[]
 |p::ps=>p.ev B c::evs B c ps
end
theorem zlv (B:List Tn) (c:Int→Nat):∀ps:List Pl,evs B c ps=ps.map (Pl.ev B c)
 | []=>by simp [evs]
 |p::ps=>by simp [evs,zlv B c ps]
theorem zcH:∀ps qs:List Pl,pwts (ps++qs)=pwts ps+pwts qs
 | [],qs=>by simp [pwts]
 |p::ps,qs=>by simp [pwts,zcH ps qs];omega
theorem zcd:∀ps qs:List Pl,pnts (ps++qs)=pnts ps+pnts qs
 | [],qs=>by simp [pnts]
 |p::ps,qs=>by simp [pnts,zcd ps qs];omega
theorem zeG{p:Pl}:∀{ps:List Pl},p∈ps→p.dp≤zeS ps
 |q::ps,h=>by
  rcases aA.mp h with rfl |h
  ·simp [zeS];omega
  ·have:=zeG h;simp [zeS];omega
mutual
theorem zng:∀p:Pl,p.dp≤p.wt
 | .nd k b h ps=>by have:=zrp ps;simp [Pl.dp,Pl.wt];omega
theorem zrp:∀ps:List Pl,zeS ps≤pwts ps
 | []=>by simp [zeS]
 |p::ps=>by have:=zng p;have:=zrp ps;simp [zeS,pwts];omega
end
theorem zvc (p:Pl):1≤p.dp:=by cases p;simp [Pl.dp]
theorem zwi (p:Pl):1≤p.wt:=by cases p;simp [Pl.wt]
theorem zaR{B:List Tn}{c:Int→Nat}{b:Int}{h:Str}{ps:List Pl}:(Pl.nd (-1) b h ps).ev B c= .nd h (ps.map (Pl.ev B c)):=by
 rw[Pl.ev,if_pos (by decide),zlv]
noncomputable def evT (t:Tn) (n:Nat) (us:List Tr):Tr:=match n with
 |0=>t.2.1.fill us
 |1=> .nd t.1 us
 |_=>t.2.2.fill us
theorem zaG{B:List Tn}{c:Int→Nat}{b:Int}{h:Str}{ps:List Pl}{k:Nat}{t:Tn}(e:B[k]? =ae t):(Pl.nd k b h ps).ev B c=evT t (c b) (ps.map (Pl.ev B c)):=by
 rw[Pl.ev,if_neg (by omega),zlv,bW,bv,e];rfl
section
variable {ws:List Str}{m:Nat}{t:Tr}
theorem zde (h:Item ws m t):t.depth=1:=by
 cases h<;>simp [Tr.depth,dts]
theorem zlA (h:RightT ws m t):t.depth≤3:=by
 cases h with
 |one h=>rw[zde h];decide
 |un hs h=>simp [Tr.depth,dts,zde h]
 |two hs h0 h h'=>simp [Tr.depth,dts,zde h,zde h']
 |deep hs hz h0 h h'=>simp [Tr.depth,dts,zde h,zde h']
theorem zdG (h:Item ws m t):t.fits m:=by
 cases h with
 |bl h0 h1=>exact⟨h0,h1⟩
 |nd hs=>simp [Tr.fits,fitss]
theorem zoM (h:RightT ws m t):t.fits m:=by
 cases h with
 |one h=>exact zdG h
 |un hs h=>simp [Tr.fits,fitss,zdG h]
 |two hs h0 h h'=>simp [Tr.fits,fitss,zdG h,zdG h']
 |deep hs hz h0 h h'=>simp [Tr.fits,fitss,zdG h,zdG h']
theorem zgd{P:Str→Prop}(hP:∀x∈ws,P x) (h:Item ws m t):t.hb P:=by
 cases h with
 |bl h0 h1=>simp [Tr.hb]
 |nd hs=>simp [Tr.hb,hbs,hP _ hs]
theorem zsv{P:Str→Prop}(hP:∀x∈ws,P x) (h:RightT ws m t):t.hb P:=by
 cases h with
 |one h=>exact zgd hP h
 |un hs h=>simp [Tr.hb,hbs,zgd hP h,hP _ hs]
 |two hs h0 h h'=>simp [Tr.hb,hbs,zgd hP h,zgd hP h',hP _ hs]
 |deep hs hz h0 h h'=>simp [Tr.hb,hbs,zgd hP h,zgd hP h',hP _ hs,hP _ hz]
theorem zcR (h:Item ws m t):t.weight=1:=by
 cases h<;>simp [Tr.weight,wts]
theorem zjO (h:RightT ws m t):t.weight≤4:=by
 cases h with
 |one h=>rw[zcR h];decide
 |un hs h=>simp [Tr.weight,wts,zcR h]
 |two hs h0 h h'=>simp [Tr.weight,wts,zcR h,zcR h']
 |deep hs hz h0 h h'=>simp [Tr.weight,wts,zcR h,zcR h']
end
theorem RightT.w{ws:List Str}{m:Nat}{t:Tr}(h:RightT ws m t):RightW ws m t:=⟨Nat.le_succ_of_le (zlA h),zoM h,λhP=>zsv hP h,a9 (zjO h) (by decide)⟩
structure BkOk (ws hs:List Str) (B:List Tn):Prop where
  ti:∀t∈B,zdf t.1
  nd:(B.map λt=>t.1).Nodup
  sg:∀x∈ws,zcU x
  sb:∀x∈hs,x∈ws
  lf:∀t∈B,LeftT zcU t.2.1
  ri:∀t∈B,RightW ws t.2.1.nb t.2.2
theorem BookOk.bk{w0 w1 w2 w3 w4 w5:Str}{tt:List Str}{B:List Tn}(b:BookOk w0 w1 w2 w3 w4 w5 tt B) (T:Titles tt) (G:Signs w0 w1 w2 w3 w4 w5):BkOk [w0,w1,w2,w3,w4,w5] [w2,w3,w4,w5] B:=
 ⟨λt ht=>T.ok _ (b.mem ht),b.nodup T,G.ok,λx hx=>aI _ (aI _ hx),λt ht=>b.left (G.ok _ (by simp)) (G.ok _ (by simp)) (G.ok _ (by simp)) (G.ok _ (by simp)) ht,b.ri⟩
section
variable {ws hs:List Str}{B:List Tn}{c:Int→Nat}
theorem zuk (b:BkOk ws hs B) {p:Pl}(h:PlOk hs B p):(p.ev B c).way B=true:=by
 induction h with
 | @sign b' h ps hh hp ih=>
  rw[zaR,Tr.way,topB,zhC λt ht=>(zeJ (b.sg h (b.sb h hh)) (b.ti t ht)).symm,zjm,(zfP h).mpr (b.sg h (b.sb h hh))];simp only[List.all_map,ki,dh];exact λp hp=>ih p hp
 | @turn k b' h ps t e hl b0 b1 hp ih=>
  have ht:t∈B:=aR e;have hu:∀u∈ps.map (Pl.ev B c),u.way B=true:=λu hu=>by
   obtain⟨p,hp,rfl⟩:=aG.mp hu;exact ih p hp
  rw[zaG e];unfold evT;split
  ·exact zjs b.ti hu _ (b.lf t ht).hb (by rw[ax,hl];exact(b.lf t ht).fits)
  ·rw[Tr.way,topB,zca b.nd ht,zjm];simp only[ax,hl,beq_self_eq_true,ki,dh];exact hu
  ·exact zjs b.ti hu _ ((b.ri t ht).hb b.sg) (by rw[ax,hl];exact(b.ri t ht).fits)
theorem zAA (b:BkOk ws hs B) {P:Str→Prop}(hP:∀s,zcU s→P s) (hc:(∃b,0≤b∧b<8∧c b=1)→ ∀t∈B,P t.1) {p:Pl}(h:PlOk hs B p):(p.ev B c).hd P:=by
 induction h with
 | @sign b' h ps hh hp ih=>
  rw[zaR,Tr.hd,hds_iff];refine⟨hP _ (b.sg h (b.sb h hh)),λt ht=>?_⟩;obtain⟨p,hp,rfl⟩:=aG.mp ht;exact ih p hp
 | @turn k b' h ps t e hl b0 b1 hp ih=>
  have ht:t∈B:=aR e;have hu:∀u∈ps.map (Pl.ev B c),u.hd P:=λu hu=>by
   obtain⟨p,hp,rfl⟩:=aG.mp hu;exact ih p hp
  rw[zaG e];unfold evT;split
  ·exact zhg hu _ (ziV hP _ (b.lf t ht).hb) (by rw[ax,hl];exact(b.lf t ht).fits)
  ·rename_i ec;rw[Tr.hd,hds_iff];exact⟨hc ⟨b',b0,b1,ec⟩ t ht,hu⟩
  ·exact zhg hu _ (ziV hP _ ((b.ri t ht).hb b.sg)) (by rw[ax,hl];exact(b.ri t ht).fits)
theorem zjB{p:Pl}:∀{ps:List Pl},p∈ps→p.nt≤pnts ps
 |q::ps,h=>by
  rcases aA.mp h with rfl |h
  ·simp [pnts]
  ·have:=zjB h;simp [pnts];omega
theorem znj{p:Pl}:∀{ps:List Pl},p∈ps→p.wt≤pwts ps
 |q::ps,h=>by
  rcases aA.mp h with rfl |h
  ·simp [pwts]
  ·have:=znj h;simp [pwts];omega
end
mutual
noncomputable def Tr.mk (B:List Tn) (g:Tn→Tr):Tr→Tr
 | .bl n=> .bl n
 | .nd s ts=>match zaN B s with
  |none=> .nd s (mks B g ts)
  |some t=>(g t).fill (mks B g ts)
noncomputable def mks (B:List Tn) (g:Tn→Tr):List Tr→List Tr
 | []=>[]
 |t::ts=>t.mk B g::mks B g ts
end
theorem zhL (B:List Tn) (g:Tn→Tr):∀ts:List Tr,mks B g ts=ts.map (Tr.mk B g)
 | []=>by simp [mks]
 |t::ts=>by simp [mks,zhL B g ts]
theorem zlB{B:List Tn}{g:Tn→Tr}{s:Str}{ts:List Tr}(h:zaN B s=none):(Tr.nd s ts).mk B g= .nd s (ts.map (Tr.mk B g)):=by
 rw[Tr.mk,h,zhL]
theorem zma{B:List Tn}{g:Tn→Tr}{s:Str}{ts:List Tr}{t:Tn}(h:zaN B s=ae t):(Tr.nd s ts).mk B g=(g t).fill (ts.map (Tr.mk B g)):=by
 rw[Tr.mk,h,zhL]
theorem zaX{B:List Tn}(hB:∀t∈B,zdf t.1) {s:Str}(h:zcU s):zaN B s=none:=zhC λt ht=>(zeJ h (hB t ht)).symm
mutual
theorem zmM{B:List Tn}{g:Tn→Tr}(hB:∀t∈B,zdf t.1):∀t:Tr,t.hd zcU→t.mk B g=t
 | .bl n,h=>by simp [Tr.hd]at h
 | .nd s ts,h=>by
  simp only[Tr.hd]at h;rw[Tr.mk,zaX hB h.1,zkD hB ts h.2]
theorem zkD{B:List Tn}{g:Tn→Tr}(hB:∀t∈B,zdf t.1):∀ts:List Tr,hds zcU ts→mks B g ts=ts
 | [],h=>by simp [mks]
 |t::ts,h=>by
  simp only[hds]at h;rw[mks,zmM hB t h.1,zkD hB ts h.2]
end
mutual
theorem zjy{B:List Tn}{g:Tn→Tr}(hB:∀t∈B,zdf t.1) {us:List Tr}:∀t:Tr,t.hb zcU→t.fits us.length→(t.fill us).mk B g=t.fill (us.map (Tr.mk B g))
 | .bl n,h,f=>by
  simp only[Tr.fits]at f;simp only[Tr.fill];rw[bv,bv,bj,a_ (show n.toNat<us.length by omega)]
  rfl
 | .nd s ts,h,f=>by
  simp only[Tr.hb]at h;simp only[Tr.fits]at f;simp only[Tr.fill];rw[Tr.mk,zaX hB h.1];simp only[];rw[znn hB ts h.2 f]
theorem znn{B:List Tn}{g:Tn→Tr}(hB:∀t∈B,zdf t.1) {us:List Tr}:∀ts:List Tr,hbs zcU ts→fitss us.length ts→mks B g (fills us ts)=fills (us.map (Tr.mk B g)) ts
 | [],h,f=>by simp [fills,mks]
 |t::ts,h,f=>by
  simp only[hbs]at h;simp only[fitss]at f;rw[fills,mks,fills,zjy hB t h.1 f.1,znn hB ts h.2 f.2]
end
section
variable {ws hs:List Str}{B:List Tn}{c d:Int→Nat}
theorem zyh (b:BkOk ws hs B) {g:Tn→Tr}(hg:∀t∈B,∀x:Int,0≤x→x<8→c x=1→ ∀us,(g t).fill us=evT t (d x) us) (h0:∀x:Int,0≤x→x<8→c x≠1→d x=c x) {p:Pl}(h:PlOk hs B p):(p.ev B c).mk B g=p.ev B d:=by
 induction h with
 | @sign b' h ps hh hp ih=>
  rw[zaR,zaR,zlB (zaX b.ti (b.sg h (b.sb h hh))),bg];congr 1;exact cI λp hp=>ih p hp
 | @turn k b' h ps t e hl b0 b1 hp ih=>
  have ht:t∈B:=aR e;have em:(ps.map (Pl.ev B c)).map (Tr.mk B g)=ps.map (Pl.ev B d):=by
   rw[bg];exact cI λp hp=>ih p hp
  rw[zaG e,zaG e];by_cases hc:c b'=1
  ·rw[←hg t ht b' b0 b1 hc,hc];show(Tr.nd t.1 _).mk B g=_;rw[zma (zca b.nd ht),em]
  ·rw[h0 b' b0 b1 hc];unfold evT;split
   ·rw[zjy b.ti _ (b.lf t ht).hb (by rw[ax,hl];exact(b.lf t ht).fits),em]
   ·rename_i z;exact absurd z hc
   ·rw[zjy b.ti _ ((b.ri t ht).hb b.sg) (by rw[ax,hl];exact(b.ri t ht).fits),em]
noncomputable def zgD (c:Int→Nat):Int→Nat:=λx=>if c x=1 then 0 else c x
noncomputable def zck (c:Int→Nat):Int→Nat:=λx=>if c x=1 then 2 else c x
theorem zfF (b:BkOk ws hs B) {p:Pl}(h:PlOk hs B p):(p.ev B c).mk B (λt=>t.2.1)=p.ev B (zgD c):=
 zyh b (λt ht x _ _ hx us=>by rw[zgD,if_pos hx];rfl) (λx _ _ hx=>by rw[zgD,if_neg hx]) h
theorem zec (b:BkOk ws hs B) {p:Pl}(h:PlOk hs B p):(p.ev B c).mk B (λt=>t.2.2)=p.ev B (zck c):=
 zyh b (λt ht x _ _ hx us=>by rw[zck,if_pos hx];rfl) (λx _ _ hx=>by rw[zck,if_neg hx]) h
theorem zgf{p:Pl}(h:PlOk hs B p) (hc:∀x:Int,0≤x→x<8→c x=d x):p.ev B c=p.ev B d:=by
 induction h with
 | @sign b' h ps hh hp ih=>
  rw[zaR,zaR];congr 1;exact cI λp hp=>ih p hp
 | @turn k b' h ps t e hl b0 b1 hp ih=>
  rw[zaG e,zaG e,hc b' b0 b1];congr 1;exact cI λp hp=>ih p hp
end
theorem zmR{n:Nat}{h c d:Str}{L:Tr}(hL:L∈leftsL n h c d) {us:List Tr}(hu:us.length=L.nb):L.mt (L.fill us)=ae us:=by
 unfold leftsL at hL;split at hL<;>simp only[aA,bi,or_false]at hL
 all_goals first
  | (subst hL;rcases us with _ |⟨u,_ |⟨v,_ |⟨x,_ |⟨y,us⟩⟩⟩⟩<;>simp [Tr.nb,nbs,Tr.fill,fills,Tr.mt,mts]at hu⊢ <;>omega)
  | (rcases hL with rfl |rfl<;>rcases us with _ |⟨u,_ |⟨v,_ |⟨x,_ |⟨y,us⟩⟩⟩⟩<;>simp [Tr.nb,nbs,Tr.fill,fills,Tr.mt,mts]at hu⊢ <;>omega)
def zzv (B:List Tn):Prop:=∀t∈B,∀us:List Tr,us.length=t.2.1.nb→t.2.1.mt (t.2.1.fill us)=ae us
theorem BookOk.mt{w0 w1 w2 w3 w4 w5:Str}{tt:List Str}{B:List Tn}(b:BookOk w0 w1 w2 w3 w4 w5 tt B):zzv B:=λt ht us hu=>by
 obtain⟨n,m,e⟩:=b.lf;have:t.2.1∈leftsL n w0 w2 w3++leftsL m w1 w2 w3:=by rw[←e];exact aG.mpr ⟨t,ht,rfl⟩
 rcases bp.mp this with z |z
 ·exact zmR z hu
 ·exact zmR z hu
mutual
inductive Mv (B:List Tn):Nat→Tr→Tr→Tr→Prop
 |nn {n:Nat}{s z:Str}{ts us cs:List Tr}:zaN B s=none→zaN B z=none→Mvs B n ts us cs→Mv B (n+1) (.nd s ts) (.nd z us) (.nd s cs)
 |ns {n:Nat}{s z:Str}{ts us cs ms:List Tr}{t:Tn}:zaN B s=none→zaN B z=ae t→t.2.1.mt (.nd s ts)=ae ms→cs.length=t.2.1.nb→Mvs B n ms us cs→Mv B (n+1) (.nd s ts) (.nd z us) (t.2.2.fill cs)
 |sn {n:Nat}{s z:Str}{ts us cs ms:List Tr}{t:Tn}:zaN B s=ae t→zaN B z=none→t.2.1.mt (.nd z us)=ae ms→Mvs B n ts ms cs→Mv B (n+1) (.nd s ts) (.nd z us) (.nd s cs)
 |ss {n:Nat}{s z:Str}{ts us cs:List Tr}{t t':Tn}:zaN B s=ae t'→zaN B z=ae t→cs.length=t.2.1.nb→Mvs B n ts us cs→Mv B (n+1) (.nd s ts) (.nd z us) (t.2.2.fill cs)
inductive Mvs (B:List Tn):Nat→List Tr→List Tr→List Tr→Prop
 |nil {n:Nat}:Mvs B n [] [] []
 |cons {n:Nat}{a b c:Tr}{as bs cs:List Tr}:Mv B n a b c→Mvs B n as bs cs→Mvs B n (a::as) (b::bs) (c::cs)
end
mutual
theorem Mv.monoA{B:List Tn}:∀{n:Nat}{a b c:Tr},Mv B n a b c→ ∀m,n≤m→Mv B m a b c
 |_,_,_,_, .nn h1 h2 h3=>λm h=>by
  obtain⟨m,rfl⟩:∃m',m=m'+1:=⟨m - 1,by omega⟩
  exact .nn h1 h2 (Mvs.monoA h3 m (by omega))
 |_,_,_,_, .ns h1 h2 h3 h4 h5=>λm h=>by
  obtain⟨m,rfl⟩:∃m',m=m'+1:=⟨m - 1,by omega⟩
  exact .ns h1 h2 h3 h4 (Mvs.monoA h5 m (by omega))
 |_,_,_,_, .sn h1 h2 h3 h4=>λm h=>by
  obtain⟨m,rfl⟩:∃m',m=m'+1:=⟨m - 1,by omega⟩
  exact .sn h1 h2 h3 (Mvs.monoA h4 m (by omega))
 |_,_,_,_, .ss h1 h2 h3 h4=>λm h=>by
  obtain⟨m,rfl⟩:∃m',m=m'+1:=⟨m - 1,by omega⟩
  exact .ss h1 h2 h3 (Mvs.monoA h4 m (by omega))
theorem Mvs.monoA{B:List Tn}:∀{n:Nat}{a b c:List Tr},Mvs B n a b c→ ∀m,n≤m→Mvs B m a b c
 |_,_,_,_, .nil=>λ_ _=> .nil
 |_,_,_,_, .cons h1 h2=>λm h=> .cons (Mv.monoA h1 m h) (Mvs.monoA h2 m h)
end
theorem Mv.mono{B:List Tn}{n m:Nat}{a b c:Tr}(h:n≤m) (M:Mv B n a b c):Mv B m a b c:=Mv.monoA M m h
theorem Mvs.mono{B:List Tn}{n m:Nat}{a b c:List Tr}(h:n≤m) (M:Mvs B n a b c):Mvs B m a b c:=Mvs.monoA M m h
theorem Mvs.get{B:List Tn}{n:Nat}:∀{as bs cs:List Tr}{i:Nat},Mvs B n as bs cs→i<cs.length→ ∃a b c,as[i]? =ae a∧bs[i]? =ae b∧cs[i]? =ae c∧Mv B n a b c
 |_,_,_,i, .nil,h=>by simp at h
 |_,_,_,0, .cons h1 _,h=>⟨_,_,_,rfl,rfl,rfl,h1⟩
 |_,_,_,i+1, .cons _ h2,h=>by
  obtain⟨a,b,c,e1,e2,e3,q⟩:=Mvs.get (i:=i) h2 (by simpa using h);exact⟨a,b,c,by simpa using e1,by simpa using e2,by simpa using e3,q⟩
theorem Mvs.of{B:List Tn}{n:Nat}{α:Type}{f g h:α→Tr}:∀(xs:List α),(∀x∈xs,Mv B n (f x) (g x) (h x))→Mvs B n (xs.map f) (xs.map g) (xs.map h)
 | [],_=> .nil
 |x::xs,q=> .cons (q x aV) (Mvs.of xs λy hy=>q y (aI _ hy))
mutual
theorem zlU{B:List Tn}(hB:∀t∈B,zdf t.1) {n:Nat}{us vs cs:List Tr}(h:Mvs B n us vs cs):∀t:Tr,t.hb zcU→t.fits cs.length→Mv B (n+t.depth) (t.fill us) (t.fill vs) (t.fill cs)
 | .bl k,q,f=>by
  simp only[Tr.fits]at f;obtain⟨a,b,c,e1,e2,e3,m⟩:=h.get (i:=k.toNat) (by omega);simp only[Tr.fill,bv,e1,e2,e3,eF];exact m.mono (by omega)
 | .nd s ts,q,f=>by
  simp only[Tr.hb]at q;simp only[Tr.fits]at f;have:=zmN hB h ts q.2 f;simp only[Tr.fill,Tr.depth];rw[show n+(1+dts ts)=n+dts ts+1 by omega]
  exact .nn (zaX hB q.1) (zaX hB q.1) this
theorem zmN{B:List Tn}(hB:∀t∈B,zdf t.1) {n:Nat}{us vs cs:List Tr}(h:Mvs B n us vs cs):∀ts:List Tr,hbs zcU ts→fitss cs.length ts→Mvs B (n+dts ts) (fills us ts) (fills vs ts) (fills cs ts)
 | [],q,f=>by simp only[fills];exact .nil
 |t::ts,q,f=>by
  simp only[hbs]at q;simp only[fitss]at f;have h1:=zlU hB h t q.1 f.1;have h2:=zmN hB h ts q.2 f.2;simp only[fills,dts];exact .cons (h1.mono (by omega)) (h2.mono (by omega))
end
noncomputable def zjp (c d:Int→Nat):Int→Nat:=λx=>if d x=1 then 2 else c x
theorem zhJ{ws hs:List Str}{B:List Tn}{c d:Int→Nat}(b:BkOk ws hs B) (hm:zzv B) (hc:∀x:Int,0≤x→x<8→(c x≤1∧d x≤1)∨(c x=2∧d x=2)) {p:Pl}(h:PlOk hs B p):Mv B (p.dp+3*p.nt) (p.ev B c) (p.ev B d) (p.ev B (zjp c d)):=by
 induction h with
 | @sign b' h ps hh hp ih=>
  rw[zaR,zaR,zaR,Pl.dp,Pl.nt,if_pos (by decide),show 1+zeS ps+3*(0+pnts ps)=zeS ps+3*pnts ps+1 by omega]
  refine .nn (zaX b.ti (b.sg h (b.sb h hh))) (zaX b.ti (b.sg h (b.sb h hh))) (.of ps λp hp=>(ih p hp).mono ?_);have:=zeG hp;have:=zjB hp;omega
 | @turn k b' h ps t e hl b0 b1 hp ih=>
  have ht:t∈B:=aR e;have en:(Pl.nd k b' h ps).nt=1+pnts ps:=by rw[Pl.nt,if_neg (by omega)]
  have M:Mvs B (zeS ps+3*pnts ps) (ps.map (Pl.ev B c)) (ps.map (Pl.ev B d)) (ps.map (Pl.ev B (zjp c d))):= .of ps λp hp=>(ih p hp).mono (by
   have:=zeG hp;have:=zjB hp;omega)
  have lc:(ps.map (Pl.ev B (zjp c d))).length=t.2.1.nb:=by rw[ax,hl]
  have l1:(ps.map (Pl.ev B c)).length=t.2.1.nb:=by rw[ax,hl]
  have l2:(ps.map (Pl.ev B d)).length=t.2.1.nb:=by rw[ax,hl]
  have tt:=zca b.nd ht;have L:=b.lf t ht;have R:=b.ri t ht;have hd:=L.dp;rw[zaG e,zaG e,zaG e,Pl.dp,en,show 1+zeS ps+3*(1+pnts ps)=zeS ps+3*pnts ps+3+1 by omega]
  have lsign:∀us,∃s ts,t.2.1.fill us= .nd s ts∧zaN B s=none:=λus=>by
   obtain⟨s,ts,el⟩:=L.nd;have hb:=L.hb;rw[el,Tr.hb]at hb;exact⟨s,fills us ts,by rw[el,Tr.fill],zaX b.ti hb.1⟩
  have hp:zjp c d b'=if d b'=1 then 2 else c b':=rfl;rw[hp];rcases hc b' b0 b1 with⟨c1,d1⟩ |⟨c2,d2⟩
  ·by_cases dz:d b'=1
   ·rw[if_pos dz,dz];by_cases cz:c b'=1
    ·rw[cz];exact .ss tt tt lc (M.mono (by omega))
    ·rw[show c b'=0 by omega]
     obtain⟨s,ts,es,hs⟩:=lsign (ps.map (Pl.ev B c));have:=hm t ht _ l1;simp only[evT];rw[es]at this⊢;exact .ns hs tt this lc (M.mono (by omega))
   ·rw[if_neg dz,show d b'=0 by omega]
    by_cases cz:c b'=1
    ·rw[cz];obtain⟨s,ts,es,hs⟩:=lsign (ps.map (Pl.ev B d));have:=hm t ht _ l2;simp only[evT];rw[es]at this⊢;exact .sn tt hs this (M.mono (by omega))
    ·rw[show c b'=0 by omega]
     simp only[evT];exact(zlU b.ti M _ L.hb (by rw[lc];exact L.fits)).mono (by omega)
  ·rw[d2,if_neg (by decide),c2];simp only[evT];have:=R.dp;exact(zlU b.ti M _ (R.hb b.sg) (by rw[lc];exact R.fits)).mono (by omega)
theorem zpT{P:Str→Prop}:∀{ts us:List Tr},hds P ts→hds P us→hds P (ts++us)
 | [],us,_,h=>h
 |t::ts,us,h,g=>by
  simp only[hds,b8]at h⊢;exact⟨h.1,zpT h.2 g⟩
mutual
inductive PlAt (S:Sto):Pl→W→Prop
 |nd {k b:Int}{h:Str}{ps:List Pl}{a:Addr}{vs:List W}:S a=ae (.lst vs)→PlsAt S ps vs→PlAt S (.nd k b h ps) (.tup [.int k, .int b, .str h, .ref a])
inductive PlsAt (S:Sto):List Pl→List W→Prop
 |nil:PlsAt S [] []
 |cons {p:Pl}{v:W}{ps:List Pl}{vs:List W}:PlAt S p v→PlsAt S ps vs→PlsAt S (p::ps) (v::vs)
end
mutual
theorem PlAt.sub{S S':Sto}(h:Sub S S'):∀{p:Pl}{v:W},PlAt S p v→PlAt S' p v
 |_,_, .nd e q=> .nd (h _ _ e) (PlsAt.sub h q)
theorem PlsAt.sub{S S':Sto}(h:Sub S S'):∀{ps:List Pl}{vs:List W},PlsAt S ps vs→PlsAt S' ps vs
 |_,_, .nil=> .nil
 |_,_, .cons a b=> .cons (PlAt.sub h a) (PlsAt.sub h b)
end
section
variable {S:Sto}
theorem PlsAt.len:∀{ps:List Pl}{vs:List W},PlsAt S ps vs→ps.length=vs.length
 |_,_, .nil=>rfl
 |_,_, .cons _ h=>congrArg (· +1) (PlsAt.len h)
theorem PlsAt.app:∀{ps qs:List Pl}{vs us:List W},PlsAt S ps vs→PlsAt S qs us→PlsAt S (ps++qs) (vs++us)
 |_,_,_,_, .nil,h=>h
 |_,_,_,_, .cons a b,h=> .cons a (PlsAt.app b h)
theorem PlsAt.take:∀(n:Nat) {ps:List Pl}{vs:List W},PlsAt S ps vs→PlsAt S (ps.take n) (vs.take n)
 |0,_,_,_=> .nil
 |_+1,_,_, .nil=> .nil
 |n+1,_,_, .cons a b=> .cons a (PlsAt.take n b)
theorem PlsAt.drop:∀(n:Nat) {ps:List Pl}{vs:List W},PlsAt S ps vs→PlsAt S (ps.drop n) (vs.drop n)
 |0,_,_,h=>h
 |_+1,_,_, .nil=> .nil
 |n+1,_,_, .cons _ b=>PlsAt.drop n b
theorem PlsAt.rep{p:Pl}{v:W}(h:PlAt S p v):∀n:Nat,PlsAt S (aN n p) (aN n [v]).flatten
 |0=> .nil
 |n+1=>by
  rw[cb,cb,dJ];exact .cons h (PlsAt.rep h n)
end
noncomputable def pad (w:Str):Pl:= .nd (-1) 0 w []
noncomputable def zbt (need:Nat) (w:Str) (ps:List Pl):List Pl:=aN (need - ps.length) (pad w)++ps
noncomputable def push (need:Nat) (w:Str) (k b:Int) (h:Str) (ps:List Pl):List Pl:=
 (zbt need w ps).take ((zbt need w ps).length - need)++[.nd k b h ((zbt need w ps).drop ((zbt need w ps).length - need))]
theorem zmW (w:Str):∀n:Nat,pwts (aN n (pad w))=n
 |0=>by simp [pwts]
 |n+1=>by rw[cb,pwts,zmW w n];simp [pad,Pl.wt,pwts];omega
theorem zmX (w:Str):∀n:Nat,pnts (aN n (pad w))=0
 |0=>by simp [pnts]
 |n+1=>by rw[cb,pnts,zmX w n];simp [pad,Pl.nt,pnts]
theorem zgM:∀ps:List Pl,ps.length≤pwts ps
 | []=>by simp
 |p::ps=>by have:=zgM ps;have:=zwi p;simp [pwts];omega
theorem zdJ (need:Nat) (w:Str) (ps:List Pl):(zbt need w ps).length=need - ps.length+ps.length:=by simp [zbt]
theorem zrd{need:Nat}{w:Str}{k b:Int}{h:Str}{ps:List Pl}:pwts (push need w k b h ps)=need - ps.length+pwts ps+1∧pnts (push need w k b h ps)=pnts ps+(if k<0 then 0 else 1)∧(push need w k b h ps).length=need - ps.length+ps.length - need+1:=by
 have hl:=zdJ need w ps;have h1:pwts (zbt need w ps)=need - ps.length+pwts ps:=by rw[zbt,zcH,zmW]
 have h2:pnts (zbt need w ps)=pnts ps:=by rw[zbt,zcd,zmX];omega
 have h3:=zcH ((zbt need w ps).take ((zbt need w ps).length - need)) ((zbt need w ps).drop ((zbt need w ps).length - need));have h4:=zcd ((zbt need w ps).take ((zbt need w ps).length - need)) ((zbt need w ps).drop ((zbt need w ps).length - need));rw[f9]at h3 h4;unfold push;refine⟨?_,?_,?_⟩
 ·rw[zcH,pwts,pwts,Pl.wt];omega
 ·rw[zcd,pnts,pnts,Pl.nt];omega
 ·rw[aM,cF,bF,hl];omega
theorem zon{need:Nat}{w:Str}(ps:List Pl):((zbt need w ps).drop ((zbt need w ps).length - need)).length=need:=by
 have hl:=zdJ need w ps;rw[cC,hl];omega
theorem zks{ws:List Str}{B:List Tn}{need:Nat}{w:Str}{ps:List Pl}(hw:w∈ws) (h:∀p∈ps,PlOk ws B p):∀p∈zbt need w ps,PlOk ws B p:=λp hp=>by
 rcases bp.mp hp with z |z
 ·rw[(List.mem_replicate.mp z).2];exact .sign hw λq hq=>by cases hq
 ·exact h p z
theorem zvC{ws:List Str}{B:List Tn}{need:Nat}{w:Str}{k b:Int}{h:Str}{ps:List Pl}(hw:w∈ws) (hp:∀p∈ps,PlOk ws B p) (hn:∀qs:List Pl,qs.length=need→(∀q∈qs,PlOk ws B q)→PlOk ws B (.nd k b h qs)):∀p∈push need w k b h ps,PlOk ws B p:=λp hq=>by
 rcases bp.mp hq with z |z
 ·exact zks hw hp p (iK z)
 ·rw[bz.mp z];exact hn _ (zon ps) λq hq=>zks hw hp q (iL hq)
noncomputable def ztd:WS:=(zbS (zrT (wTb (wOp oGt (zae 3) (wC (.int 0)))) (wTb (wOp oLt (zae 5) (wC (.int 5))))) (zar (wAsg (wOp (zfj λi j=> .int (i - j)) (zae 3) (wC (.int 1))) (wGN 3))
  (zar (wAsg (zcF (zps (zti (zdq (zab (zbO (zab (zoa (wC (.int 1))) (zab (wC (.int 0)) (zab (wOp oIx (zae 2) (wC (.int 2))) (zab (zcF (zdq waNil)) waNil))))) waNil)) (wOp (zfj λi j=> .int (i - j)) (zae 8) (wB zeh (zab (zae 4) waNil)))) (zae 4))) (wGN 4))
  (zar (wAsg (wOp (zfj λi j=> .int (i - j)) (wB zeh (zab (zae 4) waNil)) (zae 8)) (wGN 11))
  (wAsg (zcF (zow (zwB (zae 4) woN (woS (zae 11))) (zdq (zab (wOp zdr (zae 9) (zbO (zab (wSl (zae 4) (woS (zae 11)) woN) waNil))) waNil)))) (wGN 4))))) zaF)
theorem zrQ{r:Nat}:zfE r zaU=(zar (wAsg (wOp (zdb (λ_ j=>0<j) λi j=> .int (i % j)) (zae 6) (wC (.int 8))) (wGN 7))
  (zar (wAsg (zsT (zdq (zab (wC (.int 0)) (zab (wC (.int 0)) (zab (wC (.int 1)) (zab (wC (.int 2)) waNil))))) (wB zkt (zab (zae 7) (zab (wC (.int 3)) waNil)))) (wGN 8))
  (zar (wAsg (zbO (zab (zoa (wC (.int 1))) (zab (wC (.int 0)) (zab (wOp oIx (zae 2) (zsT (zdq (zab (wC (.int 2)) (zab (wC (.int 5)) (zab (wC (.int 3)) (zab (wC (.int 4)) waNil))))) (wB zkt (zab (zae 7) (zab (wC (.int 3)) waNil))))) waNil)))) (wGN 9))
  (zar (zbS (wTb (wOp oGt (zae 7) (wC (.int 3)))) (zar (wAsg (wOp (zdb (λ_ j=>0<j) λi j=> .int (i % j)) (wOp (zdb zib λi j=> .int (i / j)) (zae 6) (wC (.int 8))) (wB zeh (zab (zae 1) waNil))) (wGN 10))
  (zar (wAsg (zap (zax r) (zab (wOp oIx (wOp oIx (zae 1) (zae 10)) (wC (.int 1))) waNil)) (wGN 8))
  (zar (wAsg (zbO (zab (zae 10) (zab (wOp (zdb (λ_ j=>0<j) λi j=> .int (i % j)) (wOp (zdb zib λi j=> .int (i / j)) (zae 6) (wC (.int 64))) (wC (.int 8))) (zab (wC (.str "")) waNil)))) (wGN 9))
  (wAsg (wOp zdr (zae 5) (wC (.int 1))) (wGN 5))))) zaF)
  ztd)))):=rfl
section
variable {w0 w1 w2 w3 w4 w5:Str}{S:Sto}{aw st:Addr}{E:WX}{D:WEnds}
theorem zrm{need:Nat}{k b room spent:Int}{h:Str}{ps:List Pl}{vs:List W}{x0 x1 x6 x7 x10 x11:Option W}(hw:S aw=ae (.lst (six w0 w1 w2 w3 w4 w5))) (hst:S st=ae (.lst vs)) (hp:PlsAt S ps vs) (hn:need≤3) (hl:ps.length≤100)
  (h1:D.nx [x0,x1,ae (.ref aw),ae (.int room),ae (.ref st),ae (.int spent),x6,x7,ae (.int need),ae (.tup [.int k, .int b, .str h]),x10,x11] S)
  (h2:0<room→spent<5→ ∀(st':Addr) (S':Sto) (vs':List W) (x11:Option W),Sub S S'→S' st'=ae (.lst vs')→PlsAt S' (push need w2 k b h ps) vs'→D.nx [x0,x1,ae (.ref aw),ae (.int (room - 1)),ae (.ref st'),ae (.int spent),x6,x7,ae (.int need),ae (.tup [.int k, .int b, .str h]),x10,x11] S') :
  ztd E D [x0,x1,ae (.ref aw),ae (.int room),ae (.ref st),ae (.int spent),x6,x7,ae (.int need),ae (.tup [.int k, .int b, .str h]),x10,x11] S:=by
 unfold ztd;walk_at "wd";split
 ·rename_i c1;split
  ·rename_i c2;simp only[zaj hw,six2];have f1:=λ(a:Addr) (ha:S a=none)=>keep (x:=Ob.lst []) hst ha;refine⟨aS _,λa ha=>⟨zal (by decide),zal (by decide),?_⟩⟩;rw[zaj (f1 a ha),zaj (f1 a ha)];have hlen:=hp.len;have en:((need:Int) - (vs.length:Int)).toNat=need - ps.length:=by omega
   rw[en];have pa:PlAt (put S a (Ob.lst [])) (pad w2) (.tup [.int (-1), .int 0, .str w2, .ref a]):= .nd zag .nil;have pp:PlsAt (put S a (Ob.lst [])) (zbt need w2 ps) ((aN (need - ps.length) [W.tup [.int (-1), .int 0, .str w2, .ref a]]).flatten++vs):=(PlsAt.rep pa _).app (hp.sub (.put .refl ha));have pl:=pp.len;have sub1:Sub S (put S a (Ob.lst [])):= .put .refl ha;have hfl:((aN (need - ps.length) [W.tup [.int (-1), .int 0, .str w2, .ref a]]).flatten).length≤3:=by
    rw[aM,zdJ]at pl;omega
   have e0:(1*(need - ps.length))≤sizeLine:=zal (by omega);refine⟨⟨by omega,by omega,e0⟩,zal (by omega),?_⟩
   generalize (aN (need - ps.length) [W.tup [.int (-1), .int 0, .str w2, .ref a]]).flatten++vs=ys at pp pl⊢;generalize put S a (Ob.lst [])=S1 at pp sub1⊢;intro b2 hb2;have sub2:Sub S1 (put S1 b2 (.lst ys)):= .put .refl hb2;generalize put S1 b2 (Ob.lst ys)=S2 at sub2⊢;have hpl:=zdJ need w2 ps;have ea:((ys.length:Nat):Int) - (need:Int)=((ys.length - need:Nat):Int):=by omega
   rw[ea,zjh,zjA];intro p hp3;have sub3:Sub S2 (put S2 p (.lst (ys.drop (ys.length - need)))):= .put .refl hp3;have fp:put S2 p (Ob.lst (ys.drop (ys.length - need))) p=ae (.lst (ys.drop (ys.length - need))):=zag;generalize put S2 p (Ob.lst (ys.drop (ys.length - need)))=S3 at sub3 fp⊢;refine⟨zal (by decide),zal (by decide),zal (by decide),zal (by rw[cF];omega),λq hq=>?_⟩;have sub4:Sub S3 (put S3 q (.lst (ys.take (ys.length - need)++[.tup [.int k, .int b, .str h, .ref p]]))):= .put .refl hq;refine h2 c1 c2 q _ _ _ (((sub1.trans sub2).trans sub3).trans sub4) zag ?_;unfold push;have pp3:=pp.sub ((sub2.trans sub3).trans sub4);rw[←pl]at *;exact(pp3.take _).app (.cons (.nd (sub4 _ _ fp) (pp3.drop _)) .nil)
  ·exact h1
 ·exact h1
theorem zvf (n:Int) (h0:0≤n) (h1:n<8):∃m:Nat,m≤2∧atI [W.int 0,W.int 0,W.int 1,W.int 2] (if 3<n then 3 else n)=ae (.int (m:Int)):=by
 rcases(show n=0∨n=1∨n=2∨(3≤n) by omega) with rfl |rfl |rfl |h
 ·exact⟨0,by decide,rfl⟩
 ·exact⟨0,by decide,rfl⟩
 ·exact⟨1,by decide,rfl⟩
 ·have:(if 3<n then 3 else n)=3:=by split<;>omega
  rw[this];exact⟨2,by decide,rfl⟩
theorem zwr (n:Int) (h0:0≤n) (h1:n<8):∃(i:Int) (x:Str),x∈ [w2,w3,w4,w5]∧atI [W.int 2,W.int 5,W.int 3,W.int 4] (if 3<n then 3 else n)=ae (.int i)∧atI (six w0 w1 w2 w3 w4 w5) i=ae (.str x):=by
 rcases(show n=0∨n=1∨n=2∨(3≤n) by omega) with rfl |rfl |rfl |h
 ·exact⟨2,w2,by simp,rfl,rfl⟩
 ·exact⟨5,w5,by simp,rfl,rfl⟩
 ·exact⟨3,w3,by simp,rfl,rfl⟩
 ·have:(if 3<n then 3 else n)=3:=by split<;>omega
  rw[this];exact⟨4,w4,by simp,rfl,rfl⟩
end
section
variable {r:Nat}{S:Sto}{Q:WK}{E:Str→Sto→Prop}{a:Addr}{B:List Tn}
noncomputable def zex:Option Tn→W
 |some t=>zaY t
 |none=> .non
theorem zll (B:List Tn) (s:Str):B.findSome? (λt=>if t.1 == s then ae (zaY t) else none)=(zaN B s).map zaY:=by
 unfold zaN
 induction B with
 |nil=>rfl
 |cons t B ih=>
  rw[d6,bM];cases e:t.1 == s with
  |true=>rfl
  |false=>simpa using ih
theorem zfC{s:Str}(ha:S a=ae (.lst (B.map zaY))) (h:Q (zex (zaN B s)) S):zbc (r+1) [.ref a, .str s] S Q E:=by
 rw[zbc];walk_at "wp";rw[zaj ha];refine zft (S:=S) ?_ (λσ=>∃x,σ=[ae (.ref a),ae (.str s),x]) zaY (λt=>if t.1 == s then ae (zaY t) else none) B _ ⟨_,rfl⟩ (λt ht σ N hI hno hret=>?_) (λe σ hI=>?_) λw e S' sb=>?_
 ·exact ha
 ·obtain⟨x,rfl⟩:=hI;simp only[zeP];have ee:zaY t= .tup [.str t.1,enc t.2.1,enc t.2.2]:=rfl;rw[ee];walk_at "wp";cases e:t.1 == s with
  |true=>
   rw[e]at hret;exact hret _ rfl _ .refl
  |false=>
   rw[e]at hno;exact hno rfl _ _ ⟨_,rfl⟩ .refl
 ·obtain⟨x,rfl⟩:=hI;walk_at "wp";rw[zll]at e;have:zaN B s=none:=by
   cases q:zaN B s with
   |none=>rfl
   |some t=>rw[q]at e;cases e
  rw[this]at h;exact⟨_, .refl,h⟩
 ·rw[zll]at e;cases q:zaN B s with
  |none=>rw[q]at e;cases e
  |some t=>
   rw[q]at e h;cases e;exact⟨_,sb,h⟩
end
noncomputable def byC (f:Int):Int→Nat:=λb=>if b / f % 2=1 then 1 else 0
theorem PlsAt.zip{S:Sto}:∀{ps:List Pl}{vs:List W},PlsAt S ps vs→ ∀x∈ps.zip vs,PlAt S x.1 x.2∧x.1∈ps
 |_,_, .nil,x,h=>by simp at h
 |_,_, .cons a b,x,h=>by
  rw[gY]at h;rcases aA.mp h with rfl |h
  ·exact⟨a,aV⟩
  ·have:=PlsAt.zip b x h;exact⟨this.1,aI _ this.2⟩
theorem PlsAt.snd{S:Sto}{ps:List Pl}{vs:List W}(h:PlsAt S ps vs):(ps.zip vs).map ia=vs:=List.map_snd_zip (by rw[h.len];exact ap _)
theorem PlsAt.fst{S:Sto}{ps:List Pl}{vs:List W}(h:PlsAt S ps vs) {α:Type}(f:Pl→α):(ps.zip vs).map (λx=>f x.1)=ps.map f:=by
 have:(ps.zip vs).map Prod.fst=ps:=List.map_fst_zip (by rw[h.len];exact ap _)
 conv=>rhs;rw[←this,bg]
 rfl
section
variable {S:Sto}{a:Addr}{ws hs:List Str}{B:List Tn}
theorem zux{f:Int}(hf:f=1∨f=2∨f=4∨f=8) (ha:S a=ae (.lst (B.map zaY))) (b:BkOk ws hs B):∀(d:Nat) {p:Pl}{v:W}{r:Nat}{Q:WK}{E:Str→Sto→Prop},p.dp≤d→d+8≤r→PlAt S p v→PlOk hs B p→p.wt≤1000→Q (enc (p.ev B (byC f))) S→zcO (r+1) [v, .ref a, .int f] S Q E
 |0,p,v,r,Q,E,hd,hr,hp,ok,hw,h=>by have:=zvc p;omega
 |d+1, .nd k b' hh ps,v,r,Q,E,hd,hr,hp,ok,hw,h=>by
  cases hp with
  | @nd _ _ _ _ c vs hc hps=>
  simp only[Pl.dp]at hd;simp only[Pl.wt]at hw;have hlen:=zgM ps;obtain⟨r,rfl⟩:∃r',r=r'+1:=⟨r - 1,by omega⟩
  rw[zcO];walk_at "wd";rw[zaj hc];rw[←hps.snd];have okp:∀x∈ps,PlOk hs B x:=by
   cases ok with
   |sign _ h=>exact h
   |turn _ _ _ _ h=>exact h
  refine zaL (λσ=>∃x,σ=[x,ae (.ref a),ae (.int f)]) ia (λx=>enc (x.1.ev B (byC f))) ?_ (ps.zip vs) [] _ ⟨none,rfl⟩ (by simp;omega) (λx hx σ R hI hR=>?_) ?_
  ·rw[hps.snd];exact hc
  ·obtain⟨y,rfl⟩:=hI;obtain⟨h1,h2⟩:=hps.zip x hx;have:=zeG h2;have:=znj h2;simp only[zgv];walk_at "wd";exact zux hf ha b d (by omega) (by omega) h1 (okp _ h2) (by omega) (hR _ _ ⟨_,rfl⟩ .refl)
  ·rw[aY,hps.fst λp=>enc (p.ev B (byC f))];intro q hq;have eu:(ps.map λp=>enc (p.ev B (byC f)))=encs (ps.map (Pl.ev B (byC f))):=by rw[zaA,bg];rfl
   rw[eu];have fq:put S q (Ob.lst (encs (ps.map (Pl.ev B (byC f))))) q=ae (.lst (encs (ps.map (Pl.ev B (byC f))))):=zag;have fa:=keep (x:=Ob.lst (encs (ps.map (Pl.ev B (byC f))))) ha hq;have sub:Sub S (put S q (Ob.lst (encs (ps.map (Pl.ev B (byC f)))))):= .put .refl hq;generalize put S q (Ob.lst (encs (ps.map (Pl.ev B (byC f)))))=S1 at fq fa sub⊢
   try walk_at "wd"
   cases ok with
   |sign hs' _=>
    rw[if_pos (by decide)]
    try rw[zaj fq]
    rw[zaR]at h;rw[zaT,ax];simp only[enc]at h;exact⟨zal (by decide),zal (by omega),_,sub,h⟩
   | @turn k _ _ _ t e hl b0 b1 _=>
    have ek:atI (B.map zaY) (k:Int)=ae (.tup [.str t.1,enc t.2.1,enc t.2.2]):=by
     rw[zcb,bj,e];rfl
    have hdiv:zib b' f:=by rcases hf with rfl |rfl |rfl |rfl<;>exact⟨by decide,by decide⟩
    have ht:t∈B:=aR e;rw[zaG e]at h;rw[if_neg (by omega)];refine⟨hdiv,by decide,?_⟩
    simp only[zaj fa,ek];by_cases e1:b' / f % 2=1
    ·rw[e1];have:byC f b'=1:=by unfold byC;rw[if_pos e1]
     rw[this]at h;simp only[evT,enc]at h
     try walk_at "wd"
     try rw[zaj fq]
     rw[zaT,ax];exact⟨zal (by decide),zal (by omega),_,sub,h⟩
    ·have e2:(b' / f % 2 == 1)=false:=by simpa using e1
     rw[e2];have:byC f b'=0:=by unfold byC;rw[if_neg e1]
     rw[this]at h;simp only[evT]at h;walk_at "wd";rw[show atI [W.str t.1,enc t.2.1,enc t.2.2] 1=ae (enc t.2.1) from rfl];dsimp only;have hLd:=(b.lf t ht).dp;have hLw:=(b.lf t ht).wt;have hLn:=(b.lf t ht).nb;exact zgm 4 hLd (by omega) fq (by rw[ax,hl];exact(b.lf t ht).fits) (by omega) ⟨_,sub,h⟩
end
noncomputable def zaP (n:Int) (t:Tn):Tr:=if n=1 then t.2.1 else t.2.2
structure Sides (g:Tn→Tr) (B:List Tn):Prop where
  fits:∀t∈B,(g t).fits t.2.1.nb
  dp:∀t∈B,(g t).depth≤4
  wt:∀t∈B,(g t).weight≤10
mutual
noncomputable def Tr.ar (B:List Tn):Tr→Prop
 | .bl _=>False
 | .nd s ts=>(∀t,zaN B s=ae t→ts.length=t.2.1.nb)∧ars B ts
noncomputable def ars (B:List Tn):List Tr→Prop
 | []=>True
 |t::ts=>t.ar B∧ars B ts
end
theorem ars_iff{B:List Tn}:∀{ts:List Tr},ars B ts↔ ∀t∈ts,t.ar B
 | []=>by simp [ars]
 |t::ts=>by simp [ars,ars_iff (ts:=ts)]
mutual
theorem zwp{B:List Tn}:∀t:Tr,t.way B=true→t.ar B
 | .bl n,h=>by simp [Tr.way]at h
 | .nd s ts,h=>by
  simp only[Tr.way,b6]at h;simp only[Tr.ar];refine⟨λt ht=>?_,ztK ts h.2⟩;have:=h.1;rw[topB,ht]at this;simpa using this
theorem ztK{B:List Tn}:∀ts:List Tr,zid B ts=true→ars B ts
 | [],h=>by simp [ars]
 |t::ts,h=>by
  simp only[zid,b6]at h;simp only[ars];exact⟨zwp t h.1,ztK ts h.2⟩
end
section
variable {S:Sto}{a:Addr}{B:List Tn}{n:Int}
theorem zpU (t:Tn) (h:n=1∨n=2):atI [W.str t.1,enc t.2.1,enc t.2.2] n=ae (enc (zaP n t)):=by
 rcases h with rfl |rfl<;>rfl
theorem zjg (ha:S a=ae (.lst (B.map zaY))) (hn:n=1∨n=2) (hg:Sides (zaP n) B):∀(d:Nat) {t:Tr}{r:Nat}{Q:WK}{E:Str→Sto→Prop},t.depth≤d→d+10≤r→t.ar B→t.weight≤1000→Q (enc (t.mk B (zaP n))) S→zbL (r+1) [.ref a,enc t, .int n] S Q E
 |0,t,r,Q,E,hd,hr,hh,hw,h=>by have:=zaB t;omega
 |d+1, .bl k,r,Q,E,hd,hr,hh,hw,h=>by simp [Tr.ar]at hh
 |d+1, .nd s ts,r,Q,E,hd,hr,hh,hw,h=>by
  simp only[Tr.depth]at hd;simp only[Tr.weight]at hw;simp only[Tr.ar]at hh;have hk:=zcP ts;obtain⟨r,rfl⟩:∃r',r=r'+1:=⟨r - 1,by omega⟩
  rw[zbL];simp only[enc];walk_at "wp";rw[zaA];refine zaL (λσ=>∃x,σ=[x,ae (.ref a),ae (.int n)]) enc (λt=>enc (t.mk B (zaP n))) trivial ts [] _ ⟨none,rfl⟩ (by simp;omega) (λx hx σ R hI hR=>?_) ?_
  ·obtain⟨y,rfl⟩:=hI;have hdx:=zbq hx;have hwx:=zdD hx;simp only[zeQ];walk_at "wp";exact zjg ha hn hg d (by omega) (by omega) (ars_iff.mp hh.2 x hx) (by omega) (hR _ _ ⟨_,rfl⟩ .refl)
  ·rw[aY];intro q hq;have eu:(ts.map λt=>enc (t.mk B (zaP n)))=encs (ts.map (Tr.mk B (zaP n))):=by rw[zaA,bg];rfl
   rw[eu];have fq:put S q (Ob.lst (encs (ts.map (Tr.mk B (zaP n))))) q=ae (.lst (encs (ts.map (Tr.mk B (zaP n))))):=zag;have fa:=keep (x:=Ob.lst (encs (ts.map (Tr.mk B (zaP n))))) ha hq;have sub:Sub S (put S q (Ob.lst (encs (ts.map (Tr.mk B (zaP n)))))):= .put .refl hq;generalize put S q (Ob.lst (encs (ts.map (Tr.mk B (zaP n)))))=S1 at fq fa sub⊢;refine zfC fa ?_;cases e:zaN B s with
   |none=>
    rw[zlB e]at h;simp only[zex]
    try walk_at "wp"
    try rw[zaj fq]
    rw[zaT,ax];simp only[enc]at h;exact⟨zal (by decide),zal (by omega),_,sub,h⟩
   |some t=>
    have ht:t∈B:=cx e;have ee:zex (ae t)= .tup [.str t.1,enc t.2.1,enc t.2.2]:=rfl;rw[zma e]at h;rw[ee]
    try walk_at "wp"
    rw[zpU t hn];dsimp only;have hgw:=hg.wt t ht;exact zhs 4 (hg.dp t ht) (by omega) fq (by rw[ax,hh.1 t e];exact hg.fits t ht) (by omega) ⟨_,sub,h⟩
theorem zjw{t:Tr}(h1:t.weight≤400) (h2:t.depth≤40):t.small=true:=by
 unfold Tr.small;rw[decide_eq_true h1,decide_eq_true h2];rfl
theorem ok_source{t:Tr}{r:Nat}{Q:WK}{E:Str→Sto→Prop}(ha:S a=ae (.lst (B.map zaY))) (hg:Sides (zaP 1) B) (hd:t.depth≤40) (hr:60≤r) (hh:t.ar B) (hw:t.weight≤1000) (h1:(t.mk B (zaP 1)).weight≤400) (h2:(t.mk B (zaP 1)).depth≤40) (h:Q (enc (t.mk B (zaP 1))) S):zdw (r+1) [.ref a,enc t] S Q E:=by
 obtain⟨r,rfl⟩:∃r',r=r'+5:=⟨r - 5,by omega⟩
 rw[zdw];walk_at "wp";refine zjg ha (.inl rfl) hg 40 (r:=r+4) hd (by omega) hh hw ?_;rw[zbk];walk_at "wp";refine zgb (r:=r+1) (by omega) ?_;rw[zjw h1 h2]
 try walk_at "wp"
 exact⟨_, .refl,_, .refl,h⟩
theorem ok_goal{t:Tr}{r:Nat}{Q:WK}{E:Str→Sto→Prop}(ha:S a=ae (.lst (B.map zaY))) (hg:Sides (zaP 2) B) (hd:t.depth≤40) (hr:60≤r) (hh:t.ar B) (hw:t.weight≤1000) (h1:(t.mk B (zaP 2)).weight≤400) (h2:(t.mk B (zaP 2)).depth≤40) (h:Q (enc (t.mk B (zaP 2))) S):zfx (r+1) [.ref a,enc t] S Q E:=by
 obtain⟨r,rfl⟩:∃r',r=r'+5:=⟨r - 5,by omega⟩
 rw[zfx];walk_at "wp";refine zjg ha (.inr rfl) hg 40 (r:=r+4) hd (by omega) hh hw ?_;rw[zbk];walk_at "wp";refine zgb (r:=r+1) (by omega) ?_;rw[zjw h1 h2]
 try walk_at "wp"
 exact⟨_, .refl,_, .refl,h⟩
end
noncomputable def zzz (r:Nat):WS:=(zar (wAsg (zcF (zcW 2 [0] (zuA (zae 5) (zae 6)) (wGT (zaq (wGN 0) (zaq (wGN 1) zbE))) zgC (zhA r (zdc r)))) (wGN 7))
  (zar (zbS (wTb (wOp (oIs false) (zae 4) (wC .non))) (zaZ (wOp zdr (zbO (zab (wOp oIx (zae 1) (wC (.int 0))) waNil)) (wB zdt (zab (zae 7) waNil)))) zaF)
  (zaZ (zap (zdd r) (zab (wOp oIx (zae 4) (wC (.int 2))) (zab (zae 7) waNil))))))
noncomputable def zrV (r:Nat) (T:WS):WS:=(zar (zbS (zrT (wTb (wOp (oIs false) (zae 3) (wC .non))) (wTb (wOp (oIs true) (zae 4) (wC .non)))) (wAsg (zap (zbZ r) (zab (wOp oIx (zae 4) (wC (.int 1))) (zab (zae 1) waNil))) (wGN 5)) zaF)
  (zar (zbS (zrT (wTb (wOp (oIs true) (zae 3) (wC .non))) (wTb (wOp (oIs false) (zae 4) (wC .non)))) (wAsg (zap (zbZ r) (zab (wOp oIx (zae 3) (wC (.int 1))) (zab (zae 2) waNil))) (wGN 6)) zaF)
  T))
theorem zoK{r:Nat}:zdc (r+1)=zcG 8 3 (zar (wAsg (zap (zbc r) (zab (zae 0) (zab (wOp oIx (zae 1) (wC (.int 0))) waNil))) (wGN 3))
  (zar (wAsg (zap (zbc r) (zab (zae 0) (zab (wOp oIx (zae 2) (wC (.int 0))) waNil))) (wGN 4))
  (zar (wAsg (wSl (zae 1) (woS (wC (.int 1))) woN) (wGN 5))
  (zar (wAsg (wSl (zae 2) (woS (wC (.int 1))) woN) (wGN 6))
  (zrV r (zzz r)))))):=rfl
mutual
theorem zrq{P:Str→Prop}:∀(l t:Tr) (ys:List Tr),l.mt t=ae ys→t.hd P→hds P ys∧wts ys≤t.weight
 | .bl _,t,ys,h,q=>by
  simp only[Tr.mt,bC]at h;subst h;simp only[hds,wts];exact⟨⟨q,trivial⟩,by omega⟩
 | .nd s ls, .nd z us,ys,h,q=>by
  simp only[Tr.mt]at h;simp only[Tr.hd]at q;split at h
  ·have:=zui ls us ys h q.2;simp only[Tr.weight];exact⟨this.1,by omega⟩
  ·cases h
 | .nd _ _, .bl _,ys,h,q=>by simp [Tr.mt]at h
theorem zui{P:Str→Prop}:∀(ls us ys:List Tr),mts ls us=ae ys→hds P us→hds P ys∧wts ys≤wts us
 | [],us,ys,h,q=>by simp only[mts,bC]at h;subst h;simp [hds,wts]
 |l::ls,[],ys,h,q=>by simp only[mts,bC]at h;subst h;simp [hds,wts]
 |l::ls,u::us,ys,h,q=>by
  simp only[mts]at h;simp only[hds]at q;split at h
  ·cases h
  ·rename_i xs ex;split at h
   ·cases h
   ·rename_i zs ez;simp only[bC]at h;subst h;have h1:=zrq l u xs ex q.1;have h2:=zui ls us zs ez q.2;rw[zeK,wts];exact⟨zpT h1.1 h2.1,by omega⟩
end
mutual
theorem zff{P:Str→Prop}{m:Nat}:∀t:Tr,t.hd P→t.fits m
 | .bl n,h=>by simp [Tr.hd]at h
 | .nd s ts,h=>by
  simp only[Tr.hd]at h;simp only[Tr.fits];exact znX ts h.2
theorem znX{P:Str→Prop}{m:Nat}:∀ts:List Tr,hds P ts→fitss m ts
 | [],h=>by simp [fitss]
 |t::ts,h=>by
  simp only[hds]at h;simp only[fitss];exact⟨zff t h.1,znX ts h.2⟩
end
theorem Mvs.triples{B:List Tn}{n:Nat}:∀{as bs cs:List Tr},Mvs B n as bs cs→ ∃zs:List (Tr×Tr×Tr),as=zs.map (λz=>z.1)∧bs=zs.map (λz=>z.2.1)∧cs=zs.map (λz=>z.2.2)∧ ∀z∈zs,Mv B n z.1 z.2.1 z.2.2
 |_,_,_, .nil=>⟨[],rfl,rfl,rfl,λ_ h=>nomatch h⟩
 |_,_,_, .cons (a:=a) (b:=b) (c:=c) h1 h2=>by
  obtain⟨zs,e1,e2,e3,h⟩:=Mvs.triples h2;exact⟨(a,b,c)::zs,by rw[e1];rfl,by rw[e2];rfl,by rw[e3];rfl,λz hz=>(aA.mp hz).elim (λe=>by rw[e];exact h1) (h z)⟩
theorem zlc:∀zs:List (Tr×Tr×Tr),pairs (encs (zs.map λz=>z.1)) (encs (zs.map λz=>z.2.1))=zs.map λz=>W.tup [enc z.1,enc z.2.1]
 | []=>by simp [encs,pairs]
 |z::zs=>by simp [encs,pairs,zlc zs]
noncomputable def zBb (f:Option Tn) (s:Str) (cs:List Tr):Tr:=match f with
 |none=> .nd s cs
 |some t=>t.2.2.fill cs
def zwI (S:Sto) (v:W) (ws:List W):Prop:=v= .tup ws∨ ∃q,v= .ref q∧S q=ae (.lst ws)
section
variable {S:Sto}{a:Addr}{B:List Tn}
theorem zpN{v:W}{ws:List W}{Q:List W→(Sto→Prop)→Prop}(h:zwI S v ws) (hq:∀G:Sto→Prop,G S→(∀S',Sub S S'→G S')→Q ws G):zoP v S Q:=by
 rcases h with rfl |⟨q,rfl,e⟩
 ·rw[zln];exact hq _ trivial λ_ _=>trivial
 ·rw[zhl,zaj e];exact hq _ e λS' sb=>sb _ _ e
theorem zsh{n r:Nat}{x y:Tr}{as bs cs:List Tr}{va vb vf:W}{f:Option Tn}{x7:Option W}{s:Str}{ts:List Tr}(hx:x= .nd s ts) (ha:S a=ae (.lst (B.map zaY))) (h1:zwI S va (encs as)) (h2:zwI S vb (encs bs)) (M:Mvs B n as bs cs) (hl:as.length≤1000)
  (hR:∀t,f=ae t→t.2.2.depth≤4∧t.2.2.weight≤100∧t.2.2.fits cs.length) (hr:5≤r)
  (one:∀{a' b' c':Tr}{Q:WK}{E:Str→Sto→Prop},a'∈as→b'∈bs→Mv B n a' b' c'→Q (enc c') S→zdc r [.ref a,enc a',enc b'] S Q E) {E:WX}{D:WEnds}
  (hQ:∀S',Sub S S'→D.rt (enc (zBb f s cs)) S') :
  zzz r E D [ae (.ref a),ae (enc x),ae (enc y),ae vf,ae (zex f),ae va,ae vb,x7] S:=by
 obtain⟨zs,rfl,rfl,rfl,hz⟩:=M.triples;unfold zzz;walk_at "wd";refine zpN h1 λG1 g1 k1=>zpN h2 λG2 g2 k2=>?_;rw[zlc];rw[ax]at hl;refine zaL (λσ=>∃x y,σ=[x,y,ae (.ref a)]) (λz=>W.tup [enc z.1,enc z.2.1]) (λz=>enc z.2.2) ?_ zs [] _ ⟨none,none,rfl⟩ (by simp;omega) (λz hz' σ R hI hR=>?_) ?_
 ·exact⟨g1,g2⟩
 ·obtain⟨u,v,rfl⟩:=hI;simp only[zhA];walk_at "wd";refine one (a':=z.1) (b':=z.2.1) (c':=z.2.2) (aG.mpr ⟨z,hz',rfl⟩) (aG.mpr ⟨z,hz',rfl⟩) (hz z hz') ?_;exact hR _ _ ⟨_,_,rfl⟩ .refl
 ·rw[aY];intro q hq;have eu:(zs.map λz=>enc z.2.2)=encs (zs.map λz=>z.2.2):=by rw[zaA,bg];rfl
  rw[eu];have fq:put S q (Ob.lst (encs (zs.map λz=>z.2.2))) q=ae (.lst (encs (zs.map λz=>z.2.2))):=zag;have sub:Sub S (put S q (Ob.lst (encs (zs.map λz=>z.2.2)))):= .put .refl hq;generalize put S q (Ob.lst (encs (zs.map λz=>z.2.2)))=S1 at fq sub⊢;obtain⟨r,rfl⟩:∃r',r=r'+1:=⟨r - 1,by omega⟩
  cases f with
  |none=>
   subst hx;simp only[zex,enc,zBb]at hQ⊢
   try walk_at "wd"
   try rw[zaj fq]
   rw[zaT,ax];exact⟨zal (by decide),zal (by omega),hQ _ sub⟩
  |some t=>
   have ee:zex (ae t)= .tup [.str t.1,enc t.2.1,enc t.2.2]:=rfl;rw[ee]
   try walk_at "wd"
   rw[show atI [W.str t.1,enc t.2.1,enc t.2.2] 2=ae (enc t.2.2) from rfl];dsimp only;obtain⟨g1,g2,g3⟩:=hR t rfl;exact zhs 4 g1 (by omega) fq (by rw[ax];rw[ax]at g3;exact g3) (by omega) (hQ _ sub)
theorem Mv.nd{n:Nat}{x y z:Tr}:Mv B n x y z→ ∃s ts z' us,x= .nd s ts∧y= .nd z' us
 | .nn _ _ _=>⟨_,_,_,_,rfl,rfl⟩
 | .ns _ _ _ _ _=>⟨_,_,_,_,rfl,rfl⟩
 | .sn _ _ _ _=>⟨_,_,_,_,rfl,rfl⟩
 | .ss _ _ _ _=>⟨_,_,_,_,rfl,rfl⟩
section
variable {T:WS}{E:WX}{D:WEnds}{r:Nat}{x0 x1 x2 x5 x6 x7:Option W}
theorem zuD (h:T E D [x0,x1,x2,ae (zex none),ae (zex none),x5,x6,x7] S):zrV r T E D [x0,x1,x2,ae (zex none),ae (zex none),x5,x6,x7] S:=by
 rw[show zex none=W.non from rfl]at h⊢;unfold zrV;walk_at "wd";exact h
theorem zvJ{t t':Tn}(h:T E D [x0,x1,x2,ae (zex (ae t')),ae (zex (ae t)),x5,x6,x7] S):zrV r T E D [x0,x1,x2,ae (zex (ae t')),ae (zex (ae t)),x5,x6,x7] S:=by
 have ee:∀t:Tn,zex (ae t)= .tup [.str t.1,enc t.2.1,enc t.2.2]:=λ_=>rfl;rw[ee,ee]at h⊢;unfold zrV;walk_at "wd";exact h
theorem zvo{t:Tn}{x:Tr}{ms:List Tr}(e:t.2.1.mt x=ae ms) (hr:t.2.1.depth<r) (ft:x.fits 0) (hw:t.2.1.weight≤90000) (h:∀q,S q=none→T E D [x0,ae (enc x),x2,ae (zex none),ae (zex (ae t)),ae (.ref q),x6,x7] (put S q (.lst (encs ms)))):zrV (r+1) T E D [x0,ae (enc x),x2,ae (zex none),ae (zex (ae t)),x5,x6,x7] S:=by
 have ee:∀t:Tn,zex (ae t)= .tup [.str t.1,enc t.2.1,enc t.2.2]:=λ_=>rfl;have a1:∀t:Tn,atI [W.str t.1,enc t.2.1,enc t.2.2] 1=ae (enc t.2.1):=λ_=>rfl;rw[ee,show zex none=W.non from rfl]at *;unfold zrV;walk_at "wd";rw[a1];dsimp only;refine zeI hr ft hw (λys hys q hq=>?_) λh0=>by rw[e]at h0;cases h0
 rw[e]at hys;cases hys
 try walk_at "wd"
 exact h q hq
theorem zuE{t:Tn}{y:Tr}{ms:List Tr}(e:t.2.1.mt y=ae ms) (hr:t.2.1.depth<r) (ft:y.fits 0) (hw:t.2.1.weight≤90000) (h:∀q,S q=none→T E D [x0,x1,ae (enc y),ae (zex (ae t)),ae (zex none),x5,ae (.ref q),x7] (put S q (.lst (encs ms)))):zrV (r+1) T E D [x0,x1,ae (enc y),ae (zex (ae t)),ae (zex none),x5,x6,x7] S:=by
 have ee:∀t:Tn,zex (ae t)= .tup [.str t.1,enc t.2.1,enc t.2.2]:=λ_=>rfl;have a1:∀t:Tn,atI [W.str t.1,enc t.2.1,enc t.2.2] 1=ae (enc t.2.1):=λ_=>rfl;rw[ee,show zex none=W.non from rfl]at *;unfold zrV;walk_at "wd";rw[a1];dsimp only;refine zeI hr ft hw (λys hys q hq=>?_) λh0=>by rw[e]at h0;cases h0
 rw[e]at hys;cases hys
 try walk_at "wd"
 exact h q hq
end
theorem znF (hB:∀t∈B,t.2.1.depth≤4∧t.2.1.weight≤100∧t.2.2.depth≤4∧t.2.2.weight≤100∧t.2.2.fits t.2.1.nb):∀(n:Nat) {S:Sto}{x y z:Tr}{r:Nat}{Q:WK}{E:Str→Sto→Prop},S a=ae (.lst (B.map zaY))→Mv B n x y z→n+12≤r→x.hd (λ_=>True)→y.hd (λ_=>True)→x.weight≤1000→y.weight≤1000→Q (enc z) S→zdc (r+1) [.ref a,enc x,enc y] S Q E
 |0,S,x,y,z,r,Q,E,ha,M,hr,hx,hy,wx,wy,h=>by cases M
 |n+1,S,x,y,z,r,Q,E,ha,M,hr,hx,hy,wx,wy,h=>by
  obtain⟨r,rfl⟩:∃r',r=r'+1:=⟨r - 1,by omega⟩
  have one:∀{as bs:List Tr},hds (λ_=>True) as→hds (λ_=>True) bs→wts as≤1000→wts bs≤1000→ ∀(S1:Sto),Sub S S1→ ∀{a' b' c':Tr}{Q:WK}{E:Str→Sto→Prop},a'∈as→b'∈bs→Mv B n a' b' c'→Q (enc c') S1→zdc (r+1) [.ref a,enc a',enc b'] S1 Q E:=λ{as bs} h1 h2 h3 h4 S1 sb {a' b' c' Q E} m1 m2 M q=>
   znF hB n (sb _ _ ha) M (by omega) (hds_iff.mp h1 _ m1) (hds_iff.mp h2 _ m2) (by have:=zdD m1;omega) (by have:=zdD m2;omega) q
  have start:∀{s z:Str}{ts us:List Tr}{E':WX}{D:WEnds}{S1:Sto}{va vb vf:W}{f:Option Tn}{as bs cs:List Tr},S1 a=ae (.lst (B.map zaY))→Sub S S1→zwI S1 va (encs as)→zwI S1 vb (encs bs)→Mvs B n as bs cs→hds (λ_=>True) as→hds (λ_=>True) bs→wts as≤1000→wts bs≤1000→(∀t,f=ae t→t∈B∧cs.length=t.2.1.nb)→(∀S',Sub S S'→D.rt (enc (zBb f s cs)) S')→
    zzz (r+1) E' D [ae (.ref a),ae (W.tup (W.str s::encs ts)),ae (W.tup (W.str z::encs us)),ae vf,ae (zex f),ae va,ae vb,none] S1:=λ{s z ts us E' D S1 va vb vf f as bs cs} hS1 sb q1 q2 M h1 h2 h3 h4 hf hQ=>by
   have hl:=zcP as;have:=zsh (x:= .nd s ts) (y:= .nd z us) (vf:=vf) (f:=f) (x7:=none) (E:=E') (D:=D) rfl hS1 q1 q2 M (by omega) (λt ht=>by
    obtain⟨m,e⟩:=hf t ht;obtain⟨g1,g2,g3,g4,g5⟩:=hB t m;exact⟨g3,g4,by rw[e];exact g5⟩) (by omega) (one h1 h2 h3 h4 S1 sb) λS' sb'=>hQ S' (sb.trans sb')
   simpa only[enc]using this
  obtain⟨s,ts,z',us,rfl,rfl⟩:=M.nd;have ex:enc (.nd s ts)= .tup (.str s::encs ts):=by simp only[enc]
  have ey:enc (.nd z' us)= .tup (.str z'::encs us):=by simp only[enc]
  have hx':=hx;have hy':=hy;have wx':=wx;have wy':=wy;simp only[Tr.hd]at hx' hy';simp only[Tr.weight]at wx' wy';rw[zoK,ex,ey];walk_at "wd";refine zfC ha (zfC ha ?_);cases M with
  | @nn _ _ _ _ _ cs e1 e2 M=>
   rw[e1,e2];exact zuD (start (f:=none) ha .refl (.inl rfl) (.inl rfl) M hx'.2 hy'.2 (by omega) (by omega) (λ_ h=>nomatch h) λS' sb=>⟨_,sb,h⟩)
  | @ns _ _ _ _ _ cs ms t e1 e2 e3 e4 M=>
   have ht:t∈B:=cx e2;have hm:=zrq t.2.1 _ _ e3 hx;have ft:=zff (m:=0) _ hx;obtain⟨g1,g2,g3,g4,g5⟩:=hB t ht;rw[e1,e2,←ex];refine zvo e3 (by omega) ft (by omega) λq hq=>?_;rw[ex];exact start (f:=ae t) (keep ha hq) (.put .refl hq) (.inr ⟨q,rfl,zag⟩) (.inl rfl) M hm.1 hy'.2 (by omega) (by omega) (λ_ h=>by cases h;exact⟨ht,e4⟩) λS' sb=>⟨_,sb,h⟩
  | @sn _ _ _ _ _ cs ms t e1 e2 e3 M=>
   have ht:t∈B:=cx e1;have hm:=zrq t.2.1 _ _ e3 hy;have ft:=zff (m:=0) _ hy;obtain⟨g1,g2,g3,g4,g5⟩:=hB t ht;rw[e1,e2,←ey];refine zuE e3 (by omega) ft (by omega) λq hq=>?_;rw[ey];exact start (f:=none) (keep ha hq) (.put .refl hq) (.inl rfl) (.inr ⟨q,rfl,zag⟩) M hx'.2 hm.1 (by omega) (by omega) (λ_ h=>nomatch h) λS' sb=>⟨_,sb,h⟩
  | @ss _ _ _ _ _ cs t t' e1 e2 e3 M=>
   have ht:t∈B:=cx e2;rw[e1,e2];exact zvJ (start (f:=ae t) ha .refl (.inl rfl) (.inl rfl) M hx'.2 hy'.2 (by omega) (by omega) (λ_ h=>by cases h;exact⟨ht,e3⟩) λS' sb=>⟨_,sb,h⟩)
end
theorem zyR:zaP 1=λt=>t.2.1:=by funext t;exact if_pos rfl
theorem zzo:zaP 2=λt=>t.2.2:=by funext t;exact if_neg (by decide)
section
variable {ws hs:List Str}{B:List Tn}
theorem BkOk.s1 (b:BkOk ws hs B):Sides (zaP 1) B:=by
 rw[zyR];refine⟨λt ht=>(b.lf t ht).fits,λt ht=>(b.lf t ht).dp,λt ht=>?_⟩;have h1:=(b.lf t ht).wt;have h2:=(b.lf t ht).nb;show t.2.1.weight≤10;omega
theorem BkOk.s2 (b:BkOk ws hs B):Sides (zaP 2) B:=by
 rw[zzo];refine⟨λt ht=>(b.ri t ht).fits,λt ht=>?_,λt ht=>?_⟩
 ·have:=(b.ri t ht).dp;show t.2.2.depth≤4;omega
 ·have:=(b.ri t ht).wt;show t.2.2.weight≤10;omega
mutual
theorem zzH:∀(L t:Tr) (ys:List Tr),L.mt t=ae ys→ ∀y∈ys,y.depth≤t.depth
 | .bl n,t,ys,e,y,hy=>by
  rw[Tr.mt]at e;cases e;rw[bz]at hy;rw[hy];exact ap _
 | .nd s ls, .bl n,ys,e,y,hy=>by rw[Tr.mt]at e;cases e
 | .nd s ls, .nd z us,ys,e,y,hy=>by
  rw[Tr.mt]at e;split at e
  ·have:=znB ls us ys e y hy;rw[Tr.depth];omega
  ·cases e
theorem znB:∀(ls us ys:List Tr),mts ls us=ae ys→ ∀y∈ys,y.depth≤dts us
 | [],us,ys,e,y,hy=>by rw[mts]at e;cases e;cases hy
 |l::ls,[],ys,e,y,hy=>by rw[mts]at e;cases e;cases hy
 |l::ls,u::us,ys,e,y,hy=>by
  rw[mts]at e;cases q1:l.mt u with
  |none=>rw[q1]at e;cases e
  |some xs=>
   rw[q1]at e;cases q2:mts ls us with
   |none=>rw[q2]at e;cases e
   |some zs=>
    rw[q2]at e;cases e;rw[dts];rcases bp.mp hy with hy |hy
    ·have:=zzH l u xs q1 y hy;omega
    ·have:=znB ls us zs q2 y hy;omega
end
mutual
theorem Mv.fuel{B:List Tn}(hn:∀t∈B,∃s ts,t.2.1= .nd s ts):∀{n:Nat}{a b c:Tr},Mv B n a b c→Mv B a.depth a b c
 |_,_,_,_, .nn h1 h2 h3=>by
  rw[Tr.depth,dP];exact .nn h1 h2 ((Mvs.fuel hn h3).mono (ap _))
 |_,_,_,_, .ns (ms:=ms) (t:=t) h1 h2 h3 h4 h5=>by
  rw[Tr.depth,dP];refine .ns h1 h2 h3 h4 ((Mvs.fuel hn h5).mono (ziq λy hy=>?_));obtain⟨s',ls,e⟩:=hn t (cx h2);rw[e,Tr.mt]at h3;split at h3
  ·exact znB _ _ _ h3 y hy
  ·cases h3
 |_,_,_,_, .sn h1 h2 h3 h4=>by
  rw[Tr.depth,dP];exact .sn h1 h2 h3 ((Mvs.fuel hn h4).mono (ap _))
 |_,_,_,_, .ss h1 h2 h3 h4=>by
  rw[Tr.depth,dP];exact .ss h1 h2 h3 ((Mvs.fuel hn h4).mono (ap _))
theorem Mvs.fuel{B:List Tn}(hn:∀t∈B,∃s ts,t.2.1= .nd s ts):∀{n:Nat}{as bs cs:List Tr},Mvs B n as bs cs→Mvs B (dts as) as bs cs
 |_,_,_,_, .nil=> .nil
 |_,_,_,_, .cons h1 h2=>by
  rw[dts];exact .cons ((Mv.fuel hn h1).mono (gU _ _)) ((Mvs.fuel hn h2).mono (iN _ _))
end
structure Pk (ws hs:List Str) (B:List Tn) (p:Pl):Prop where
  b:BkOk ws hs B
  m:zzv B
  o:PlOk hs B p
  dp:∀{c:Int→Nat},(p.ev B c).depth≤40
  wt:∀{c:Int→Nat},(p.ev B c).weight≤400
theorem Pk.ar (k:Pk ws hs B p):(p.ev B c).ar B:=zwp _ (zuk k.b k.o)
theorem Pk.hd (k:Pk ws hs B p):(p.ev B c).hd λ_=>True:=zAA k.b (λ_ _=>trivial) (λ_ _ _=>trivial) k.o
theorem Pk.src (k:Pk ws hs B p):(p.ev B c).mk B (zaP 1)=p.ev B (zgD c):=by rw[zyR];exact zfF k.b k.o
theorem Pk.goal (k:Pk ws hs B p):(p.ev B c).mk B (zaP 2)=p.ev B (zck c):=by rw[zzo];exact zec k.b k.o
theorem Pk.ok_source (k:Pk ws hs B p) (ha:S a=ae (.lst (B.map zaY))) (hr:60≤r) (h:Q (enc (p.ev B (zgD c))) S):zdw (r+1) [.ref a,enc (p.ev B c)] S Q E:=by
 have h1:=k.wt (c:=c);have h2:=k.dp (c:=c);have h3:=k.wt (c:=zgD c);have h4:=k.dp (c:=zgD c);exact L2.ok_source ha k.b.s1 (by omega) hr k.ar (by omega) (by rw[k.src];omega) (by rw[k.src];omega) (by rw[k.src];exact h)
theorem Pk.ok_goal (k:Pk ws hs B p) (ha:S a=ae (.lst (B.map zaY))) (hr:60≤r) (h:Q (enc (p.ev B (zck c))) S):zfx (r+1) [.ref a,enc (p.ev B c)] S Q E:=by
 have h1:=k.wt (c:=c);have h2:=k.dp (c:=c);have h3:=k.wt (c:=zck c);have h4:=k.dp (c:=zck c);exact L2.ok_goal ha k.b.s2 (by omega) hr k.ar (by omega) (by rw[k.goal];omega) (by rw[k.goal];omega) (by rw[k.goal];exact h)
def Ok2 (c d:Int→Nat):Prop:=∀x:Int,0≤x→x<8→(c x≤1∧d x≤1)∨(c x=2∧d x=2)
theorem Pk.ok_move (k:Pk ws hs B p) (hc:Ok2 c d) (ha:S a=ae (.lst (B.map zaY))) (hr:60≤r) (h:Q (enc (p.ev B (zjp c d))) S):zdc (r+1) [.ref a,enc (p.ev B c),enc (p.ev B d)] S Q E:=by
 have h1:=k.wt (c:=c);have h3:=k.wt (c:=d);have bd:=k.dp (c:=c);refine znF (λt ht=>?_) (p.ev B c).depth ha ((zhJ k.b k.m hc k.o).fuel λt ht=>(k.b.lf t ht).nd) (by omega) k.hd k.hd (by omega) (by omega) h;have L:=k.b.lf t ht;have R:=k.b.ri t ht;have g1:=L.dp;have g2:=L.wt;have g3:=L.nb;have g4:=R.dp;have g5:=R.wt;exact⟨by omega,by omega,by omega,by omega,R.fits⟩
end
theorem zAe (f x:Int):byC f x≤1:=by unfold byC;split<;>omega
section
variable {S:Sto}{a:Addr}{B:List Tn}{n:Int}
theorem zjQ (B:List Tn) (s:Str) (g:Tn→W):B.findSome? (λt=>if t.1 == s then ae (g t) else none)=(zaN B s).map g:=by
 unfold zaN
 induction B with
 |nil=>rfl
 |cons t B ih=>
  rw[d6,bM];cases e:t.1 == s with
  |true=>rfl
  |false=>simpa using ih
theorem zls (hnd:(B.map λt=>t.1).Nodup) (ha:S a=ae (.lst (B.map zaY))) (hn:n=1∨n=2) (hg:Sides (zaP n) B):∀(d:Nat) {t:Tr}{r:Nat}{Q:WK}{E:Str→Sto→Prop},t.depth≤d→d+10≤r→t.ar B→t.weight≤1000→Q (enc (t.mk B (zaP n))) S→zaQ (r+1) [.ref a,enc t, .int n] S Q E
 |0,t,r,Q,E,hd,hr,hh,hw,h=>by have:=zaB t;omega
 |d+1, .bl k,r,Q,E,hd,hr,hh,hw,h=>by simp [Tr.ar]at hh
 |d+1, .nd s ts,r,Q,E,hd,hr,hh,hw,h=>by
  simp only[Tr.depth]at hd;simp only[Tr.weight]at hw;simp only[Tr.ar]at hh;have hk:=zcP ts;obtain⟨r,rfl⟩:∃r',r=r'+1:=⟨r - 1,by omega⟩
  rw[zaQ];simp only[enc];walk_at "wp";rw[zaA];refine zaL (λσ=>∃x,σ=[x,ae (.ref a),ae (.int n)]) enc (λt=>enc (t.mk B (zaP n))) trivial ts [] _ ⟨none,rfl⟩ (by simp;omega) (λx hx σ R hI hR=>?_) ?_
  ·obtain⟨y,rfl⟩:=hI;have hdx:=zbq hx;have hwx:=zdD hx;simp only[zfN];walk_at "wp";exact zls hnd ha hn hg d (by omega) (by omega) (ars_iff.mp hh.2 x hx) (by omega) (hR _ _ ⟨_,rfl⟩ .refl)
  ·rw[aY];intro q hq;have eu:(ts.map λt=>enc (t.mk B (zaP n)))=encs (ts.map (Tr.mk B (zaP n))):=by rw[zaA,bg];rfl
   rw[eu,←zaA];have fq:put S q (Ob.lst (encs (ts.map (Tr.mk B (zaP n))))) q=ae (.lst (encs (ts.map (Tr.mk B (zaP n))))):=zag;have fa:=keep (x:=Ob.lst (encs (ts.map (Tr.mk B (zaP n))))) ha hq;have sub:Sub S (put S q (Ob.lst (encs (ts.map (Tr.mk B (zaP n)))))):= .put .refl hq;generalize put S q (Ob.lst (encs (ts.map (Tr.mk B (zaP n)))))=S1 at fq fa sub⊢
   try walk_at "wp"
   rw[zaj fa];refine zft (S:=S1) ?_ (λσ=>∃x,σ=[ae (.ref a),ae (.tup (.str s::encs ts)),ae (.int n),ae (.ref q),x]) zaY (λt=>if t.1 == s then ae (enc ((zaP n t).fill (ts.map (Tr.mk B (zaP n))))) else none) B _ ⟨_,rfl⟩ (λt ht σ N hI hno hret=>?_) (λe σ hI=>?_) λw e S' sb=>?_
   ·exact fa
   ·obtain⟨x,rfl⟩:=hI;simp only[zfI];have ee:zaY t= .tup [.str t.1,enc t.2.1,enc t.2.2]:=rfl;rw[ee];walk_at "wp";cases e:t.1 == s with
    |true=>
     rw[e]at hret
     try walk_at "wp"
     rw[zpU t hn];dsimp only;have et:t.1=s:=by simpa using e
     have hgw:=hg.wt t ht;refine zgm 4 (hg.dp t ht) (by omega) fq ?_ (by omega) (hret _ rfl _ .refl);rw[ax,hh.1 t (by rw[←et];exact zca hnd ht)];exact hg.fits t ht
    |false=>
     rw[e]at hno;exact hno rfl _ _ ⟨_,rfl⟩ .refl
   ·obtain⟨x,rfl⟩:=hI;rw[zjQ]at e;have e0:zaN B s=none:=by
     cases z:zaN B s with
     |none=>rfl
     |some t=>rw[z]at e;cases e
    rw[zlB e0]at h
    try walk_at "wp"
    rw[zjC]
    try rw[zaj fq]
    try walk_at "wp"
    simp only[enc]at h;refine⟨zal ?_,_,sub,h⟩;rw[zaT,ax];omega
   ·rw[zjQ]at e;cases z:zaN B s with
    |none=>rw[z]at e;cases e
    |some t=>
     rw[z]at e;rw[zma z]at h;cases e;exact⟨_,sub.trans sb,h⟩
end
section
variable {S:Sto}{a:Addr}{ws hs:List Str}{B:List Tn}{c:Int→Nat}{p:Pl}{r:Nat}{Q:WK}{E:Str→Sto→Prop}
theorem Pk.ok_made1 (k:Pk ws hs B p) (ha:S a=ae (.lst (B.map zaY))) (hr:60≤r) (h:Q (enc (p.ev B (zgD c))) S):zaQ (r+1) [.ref a,enc (p.ev B c), .int 1] S Q E:=by
 have h1:=k.wt (c:=c);have h2:=k.dp (c:=c);exact zls k.b.nd ha (.inl rfl) k.b.s1 40 h2 (by omega) k.ar (by omega) (by rw[k.src];exact h)
theorem Pk.ok_made2 (k:Pk ws hs B p) (ha:S a=ae (.lst (B.map zaY))) (hr:60≤r) (h:Q (enc (p.ev B (zck c))) S):zaQ (r+1) [.ref a,enc (p.ev B c), .int 2] S Q E:=by
 have h1:=k.wt (c:=c);have h2:=k.dp (c:=c);exact zls k.b.nd ha (.inr rfl) k.b.s2 40 h2 (by omega) k.ar (by omega) (by rw[k.goal];exact h)
end
noncomputable def pps (B:List Tn) (s:Str) (n:Nat):List (List Int):=match zaN B s with
 |none=>(aX n).map λ(i:Nat)=>[(i:Int)]
 |some t=>t.2.1.bls.map λx=>x.1
mutual
noncomputable def Tr.us (B:List Tn) (p:List Int):Tr→List (List Int×Str)
 | .bl _=>[]
 | .nd s ts=>(match zaN B s with
  |none=>[]
  |some _=>[(p,s)])++usz B p (pps B s ts.length) ts
noncomputable def usz (B:List Tn) (p:List Int):List (List Int)→List Tr→List (List Int×Str)
 |q::qs,t::ts=>t.us B (p++q)++usz B p qs ts
 |_,_=>[]
end
noncomputable def ppl (B:List Tn) (k:Int) (n:Nat):List (List Int):=if k<0 then(aX n).map λ(i:Nat)=>[(i:Int)] else(B.getD k.toNat (⟨#[]⟩, .bl 0, .bl 0)).2.1.bls.map λx=>x.1
mutual
noncomputable def Pl.ns (B:List Tn) (p:List Int):Pl→List (List Int×Int×Str)
 | .nd k b h ps=>(if k<0 then [] else [(p,b,(B.getD k.toNat (⟨#[]⟩, .bl 0, .bl 0)).1)])++nsz B p (ppl B k ps.length) ps
noncomputable def nsz (B:List Tn) (p:List Int):List (List Int)→List Pl→List (List Int×Int×Str)
 |q::qs,t::ts=>t.ns B (p++q)++nsz B p qs ts
 |_,_=>[]
end
noncomputable def zBn (c:Int→Nat) (xs:List (List Int×Int×Str)):List (List Int×Str):=(xs.filter λx=>c x.2.1 == 1).map λx=>(x.1,x.2.2)
noncomputable def zeM (B:List Tn) (t:Tr):Option Tn:=B.find? λu=>(u.2.1.mt t).isSome
mutual
noncomputable def Tr.op (B:List Tn) (p:List Int):Tr→List (List Int×Str)
 | .bl _=>[]
 | .nd s ts=>(match zeM B (.nd s ts) with
  |none=>[]
  |some t=>[(p,t.1)])++ops B p 0 ts
noncomputable def ops (B:List Tn) (p:List Int) (i:Nat):List Tr→List (List Int×Str)
 | []=>[]
 |t::ts=>t.op B (p++[(i:Int)])++ops B p (i+1) ts
end
theorem zdM{n:Nat}{h c d:Str}{L:Tr}(hL:L∈leftsL n h c d):∃ts,L= .nd h ts:=by
 unfold leftsL at hL;split at hL<;>simp only[aA,bi,or_false]at hL
 all_goals first
  | (subst hL;exact⟨_,rfl⟩)
  | (rcases hL with rfl |rfl<;>exact⟨_,rfl⟩)
theorem zlH{s z:Str}{ls us:List Tr}(h:((Tr.nd s ls).mt (.nd z us)).isSome=true):s=z:=by
 simp only[Tr.mt]at h;split at h
 ·rename_i q;simp only[b6,beq_iff_eq]at q;exact q.1
 ·cases h
theorem zjP{n:Nat}{h c d:Str}{L M x:Tr}(hL:L∈leftsL n h c d) (hM:M∈leftsL n h c d) (h1:(L.mt x).isSome=true) (h2:(M.mt x).isSome=true):L=M:=by
  cases x with
  |bl k=>
    obtain⟨ts,rfl⟩:=zdM hL;simp [Tr.mt]at h1
  |nd s ts=>
    unfold leftsL at hL hM;split at hL<;>simp only[aA,bi,or_false]at hL hM
    all_goals first
      | (rw[hL,hM])
      | (rcases hL with rfl |rfl<;>rcases hM with rfl |rfl<;>first
          |rfl
          | (exfalso
             rcases ts with _ |⟨u,us⟩
             · simp [Tr.mt]at h1
             · cases u with
               |bl k=>simp [Tr.mt,mts]at h1 h2
               |nd z vs=>
                 rcases vs with _ |⟨v,vs⟩
                 · simp [Tr.mt,mts]at h1 h2
                 · rcases vs with _ |⟨v',vs⟩
                   · cases v with
                     |bl k=>simp [Tr.mt,mts]at h1 h2
                     |nd z' xs=>
                       rcases xs with _ |⟨x',xs⟩
                       · simp [Tr.mt,mts]at h1 h2
                       · simp [Tr.mt,mts]at h1 h2
                   · simp [Tr.mt,mts]at h1 h2))
section
variable {w0 w1 w2 w3 w4 w5:Str}{tt:List Str}{B:List Tn}
theorem BookOk.one (b:BookOk w0 w1 w2 w3 w4 w5 tt B) (G:Signs w0 w1 w2 w3 w4 w5) {u v:Tn}(hu:u∈B) (hv:v∈B) {x:Tr}(h1:(u.2.1.mt x).isSome=true) (h2:(v.2.1.mt x).isSome=true):u.2.1=v.2.1:=by
 obtain⟨n,m,e⟩:=b.lf;have mu:u.2.1∈leftsL n w0 w2 w3++leftsL m w1 w2 w3:=by rw[←e];exact aG.mpr ⟨u,hu,rfl⟩
 have mv:v.2.1∈leftsL n w0 w2 w3++leftsL m w1 w2 w3:=by rw[←e];exact aG.mpr ⟨v,hv,rfl⟩
 have key:∀{L M:Tr},L∈leftsL n w0 w2 w3→M∈leftsL m w1 w2 w3→(L.mt x).isSome=true→(M.mt x).isSome=true→False:=λ{L M} hL hM k1 k2=>by
  obtain⟨ts,rfl⟩:=zdM hL;obtain⟨us,rfl⟩:=zdM hM;cases x with
  |bl k=>simp [Tr.mt]at k1
  |nd s vs=>exact G.n0 w1 (by simp) ((zlH k1).trans (zlH k2).symm)
 rcases bp.mp mu with z |z<;>rcases bp.mp mv with y |y
 ·exact zjP z y h1 h2
 ·exact(key z y h1 h2).elim
 ·exact(key y z h2 h1).elim
 ·exact zjP z y h1 h2
theorem zho (n:Nat) (h c d:Str):(leftsL n h c d).Nodup:=by
 unfold leftsL;split<;>simp
theorem BookOk.inj (b:BookOk w0 w1 w2 w3 w4 w5 tt B) (G:Signs w0 w1 w2 w3 w4 w5):(B.map λt=>t.2.1).Nodup:=by
 obtain⟨n,m,e⟩:=b.lf;rw[e,j3];refine⟨zho ..,zho ..,λx hx y hy=>?_⟩;obtain⟨ts,rfl⟩:=zdM hx;obtain⟨us,rfl⟩:=zdM hy;intro z;cases z;exact G.n0 _ (by simp) rfl
theorem zum{α β:Type}{f:α→β}:∀{xs:List α}{x y:α},(xs.map f).Nodup→x∈xs→y∈xs→f x=f y→x=y
 |z::xs,x,y,h,hx,hy,e=>by
  rw[ay,dw]at h;rcases aA.mp hx with h1 |h1
  ·rcases aA.mp hy with h2 |h2
   ·rw[h1,h2]
   ·exact(h.1 (aG.mpr ⟨y,h2,by rw[←e,h1]⟩)).elim
  ·rcases aA.mp hy with h2 |h2
   ·exact(h.1 (aG.mpr ⟨x,h1,by rw[e,h2]⟩)).elim
   ·exact zum h.2 h1 h2 e
end
mutual
inductive Wi (B:List Tn) (wn:List (List Int)):Nat→List Int→Tr→Tr→Prop
 |no {n:Nat}{p:List Int}{s:Str}{ts us:List Tr}:p∉wn→zaN B s=none→Wis B wn n p ((aX ts.length).map λ(i:Nat)=>[(i:Int)]) ts us→Wi B wn (n+1) p (.nd s ts) (.nd s us)
 |yes {n:Nat}{p:List Int}{s:Str}{ts us ms:List Tr}{t:Tn}:p∈wn→zeM B (.nd s ts)=ae t→t.2.1.mt (.nd s ts)=ae ms→zaN B t.1=ae t→Wis B wn n p (t.2.1.bls.map λx=>x.1) ms us→Wi B wn (n+1) p (.nd s ts) (.nd t.1 us)
inductive Wis (B:List Tn) (wn:List (List Int)):Nat→List Int→List (List Int)→List Tr→List Tr→Prop
 |nil {n:Nat}{p:List Int}:Wis B wn n p [] [] []
 |cons {n:Nat}{p q:List Int}{qs:List (List Int)}{t u:Tr}{ts us:List Tr}:Wi B wn n (p++q) t u→Wis B wn n p qs ts us→Wis B wn n p (q::qs) (t::ts) (u::us)
end
noncomputable def zkx (c:Int→Nat) (xs:List (List Int×Int×Str)):List (List Int):=(zBn c xs).map λx=>x.1
def zlb (qs:List (List Int)):Prop:=qs.Pairwise λa b=>¬a <+:b∧ ¬b <+:a
noncomputable def zkL (x:List Int×Str):W:= .tup [zbo x.1, .str x.2]
section
variable {a:Addr}{B:List Tn}
structure Lft (B:List Tn):Prop where
  d:∀t∈B,t.2.1.depth≤4
  w:∀t∈B,t.2.1.weight≤20
theorem zoB{S:Sto}{r:Nat}{Q:WK}{E:Str→Sto→Prop}{s:Str}{ts:List Tr}(L:Lft B) (ha:S a=ae (.lst (B.map zaY))) (hl:ts.length≤1000) (hr:20≤r) (h:∀q,S q=none→Q (.ref q) (put S q (.lst ((pps B s ts.length).map zbo)))):zbQ (r+1) [.ref a,enc (.nd s ts)] S Q E:=by
 obtain⟨r,rfl⟩:∃r',r=r'+1:=⟨r - 1,by omega⟩
 rw[zbQ];simp only[enc];walk_at "wp";refine zfC ha ?_;unfold pps at h;cases e:zaN B s with
 |none=>
  rw[e]at h;simp only[zex]
  try walk_at "wp"
  rw[zaT];have e1:(((ts.length+1:Nat):Int) - 1).toNat=ts.length:=by omega
  rw[e1];refine⟨⟨by omega,by omega⟩,?_⟩
  rw[zoJ];refine zaL (λσ=>∃x,σ=[x]) (λi:Nat=>W.int i) (λi=>zbo [(i:Int)]) trivial (aX ts.length) [] _ ⟨none,rfl⟩ (by simp;omega) (λx hx σ R hI hR=>?_) ?_
  ·obtain⟨y,rfl⟩:=hI;simp only[zen];walk_at "wp";exact⟨zal (by decide),hR _ _ ⟨_,rfl⟩ .refl⟩
  ·rw[aY];intro q hq;have:=h q hq;simp only[bg]at this;exact⟨_, .refl,this⟩
 |some t=>
  rw[e]at h;have ht:t∈B:=cx e;have ee:zex (ae t)= .tup [.str t.1,enc t.2.1,enc t.2.2]:=rfl;rw[ee]
  try walk_at "wp"
  rw[show atI [W.str t.1,enc t.2.1,enc t.2.2] 1=ae (enc t.2.1) from rfl];dsimp only;have h1:=L.d t ht;have h2:=L.w t ht;refine zoA (by omega) (by omega) λq hq=>?_;have:=h q hq;simp only[bg]at this;exact⟨_, .refl,this⟩
theorem zkR (B:List Tn) (x:Tr):B.findSome? (λt=>if(t.2.1.mt x).isSome then ae (zaY t) else none)=(zeM B x).map zaY:=by
 unfold zeM
 induction B with
 |nil=>rfl
 |cons t B ih=>
  rw[d6,bM];cases e:(t.2.1.mt x).isSome with
  |true=>rfl
  |false=>simpa using ih
theorem zhn{S:Sto}{r:Nat}{Q:WK}{E:Str→Sto→Prop}{x:Tr}(L:Lft B) (ha:S a=ae (.lst (B.map zaY))) (hf:x.fits 0) (hr:20≤r) (h:Q (zex (zeM B x)) S):zbG (r+1) [.ref a,enc x] S Q E:=by
 obtain⟨r,rfl⟩:∃r',r=r'+1:=⟨r - 1,by omega⟩
 rw[zbG];walk_at "wp";rw[zaj ha];refine zft (S:=S) ?_ (λσ=>∃y,σ=[ae (.ref a),ae (enc x),y]) zaY (λt=>if(t.2.1.mt x).isSome then ae (zaY t) else none) B _ ⟨_,rfl⟩ (λt ht σ N hI hno hret=>?_) (λe σ hI=>?_) λw e S' sb=>?_
 ·exact ha
 ·obtain⟨y,rfl⟩:=hI;simp only[zef];have ee:zaY t= .tup [.str t.1,enc t.2.1,enc t.2.2]:=rfl;rw[ee];walk_at "wp";rw[show atI [W.str t.1,enc t.2.1,enc t.2.2] 1=ae (enc t.2.1) from rfl];dsimp only;have h1:=L.d t ht;have h2:=L.w t ht;refine zeI (by omega) hf (by omega) (λys hys q hq=>?_) λh0=>?_
  ·try walk_at "wp"
   rw[hys]at hret;exact hret _ rfl _ (.put .refl hq)
  ·try walk_at "wp"
   rw[h0]at hno;exact hno rfl _ _ ⟨_,rfl⟩ .refl
 ·obtain⟨y,rfl⟩:=hI;walk_at "wp";rw[zkR]at e;have:zeM B x=none:=by
   cases q:zeM B x with
   |none=>rfl
   |some t=>rw[q]at e;cases e
  rw[this]at h;exact⟨_, .refl,h⟩
 ·rw[zkR]at e;cases q:zeM B x with
  |none=>rw[q]at e;cases e
  |some t=>
   rw[q]at e h;cases e;exact⟨_,sb,h⟩
end
mutual
theorem znz (B:List Tn):∀(t:Tr) (p:List Int),(t.op B p).length≤t.weight
 | .bl n,p=>by simp [Tr.op]
 | .nd s ts,p=>by
  have:=zpS B ts p 0;rw[Tr.op,aM,Tr.weight];split<;>simp<;>omega
theorem zpS (B:List Tn):∀(ts:List Tr) (p:List Int) (i:Nat),(ops B p i ts).length≤wts ts
 | [],p,i=>by simp [ops]
 |t::ts,p,i=>by
  have h1:=znz B t (p++[(i:Int)]);have h2:=zpS B ts p (i+1);rw[ops,aM,wts];omega
end
section
variable {a f:Addr}{B:List Tn}
mutual
theorem znk (L:Lft B) (haf:f≠a):∀(t:Tr) {r:Nat}{p:List Int}{xs:List W}{S:Sto}{Q:WK}{E:Str→Sto→Prop},t.depth+25≤r→S a=ae (.lst (B.map zaY))→S f=ae (.lst xs)→xs.length+t.weight≤100000→p.length+t.depth≤1000→t.hd (λ_=>True)→
  Q .non (put S f (.lst (xs++(t.op B p).map zkL)))→zbv (r+1) [.ref a,enc t,zbo p, .ref f] S Q E
 | .bl n,r,p,xs,S,Q,E,hr,ha,hf,hx,hp,hh,h=>by simp [Tr.hd]at hh
 | .nd s ts,r,p,xs,S,Q,E,hr,ha,hf,hx,hp,hh,h=>by
  have ft:=zff (m:=0) _ hh;simp only[Tr.depth]at hr hp;simp only[Tr.weight]at hx;simp only[Tr.hd]at hh;obtain⟨r,rfl⟩:∃r',r=r'+1:=⟨r - 1,by omega⟩
  rw[zbv];have ee:enc (.nd s ts)= .tup (.str s::encs ts):=by simp only[enc]
  walk_at "wp";refine zhn L ha ft (by omega) ?_;rw[Tr.op]at h;cases e:zeM B (.nd s ts) with
  |none=>
   rw[e]at h;simp only[aY]at h;simp only[zex];rw[ee]
   try walk_at "wp"
   exact zhc L haf ts (by omega) ha hf (by omega) (by omega) hh.2 λx5 x6=>⟨_, .refl,h⟩
  |some t=>
   rw[e]at h;have et:zex (ae t)= .tup [.str t.1,enc t.2.1,enc t.2.2]:=rfl;rw[et,ee]
   try walk_at "wp"
   simp only[zaj hf,true_and];refine⟨zal (by decide),zbK (by omega),?_⟩;refine zhc L haf ts (xs:=xs++[zkL (p,t.1)]) (by omega) (by rw[zaD (bu haf)];exact ha) zag (by simp;omega) (by omega) hh.2 λx5 x6=>⟨_, .refl,?_⟩;rw[zba];simpa using h
theorem zhc (L:Lft B) (haf:f≠a):∀(ts:List Tr) {r:Nat}{p:List Int}{i:Nat}{xs:List W}{S:Sto}{E:WX}{D:WEnds}{t0 x4 x5 x6:Option W},dts ts+25≤r→S a=ae (.lst (B.map zaY))→S f=ae (.lst xs)→xs.length+wts ts≤100000→p.length+1+dts ts≤1000→hds (λ_=>True) ts→
  (∀x5 x6,D.nx [ae (.ref a),t0,ae (zbo p),ae (.ref f),x4,x5,x6] (put S f (.lst (xs++(ops B p i ts).map zkL))))→
  forL (wGT (zaq (wGN 5) (zaq (wGN 6) zbE))) (zdg (r+1) (zbv (r+1))) E D (λ_=>True) (zht i (encs ts)) [ae (.ref a),t0,ae (zbo p),ae (.ref f),x4,x5,x6] S
 | [],r,p,i,xs,S,E,D,t0,x4,x5,x6,hr,ha,hf,hx,hp,hh,h=>by
  simp only[encs,zht,forL];have:=h x5 x6;rw[ops,cm,bK,zdy hf]at this;exact this
 |t::ts,r,p,i,xs,S,E,D,t0,x4,x5,x6,hr,ha,hf,hx,hp,hh,h=>by
  simp only[dts]at hr hp;simp only[wts]at hx;simp only[hds]at hh;simp only[encs,zht];refine zbp λN hN=>?_;simp only[zdg];walk_at "wp";rw[znw];refine⟨zal (by decide),zal (by omega),?_⟩;have ol:=znz B t (p++[(i:Int)]);refine znk L haf t (by omega) ha hf (by omega) (by simp;omega) hh.1 ?_;refine hN _ _ _ .refl trivial (zhc L haf ts (xs:=xs++(t.op B (p++[(i:Int)])).map zkL) (by omega) (by rw[zaD (bu haf)];exact ha) zag (by simp;omega) (by omega) hh.2 λx5 x6=>?_);rw[zba];have:=h x5 x6;rw[ops,bD]at this;simpa using this
end
theorem ztF{p q:List Int}{S:Sto}{Q:WK}:zdr (zbo p) (zbo q) S Q=(p.length+q.length≤sizeLine∧Q (zbo (p++q)) S):=by
 unfold zbo;rw[zhb,ax,ax,bD]
def PB (B:List Tn):Prop:=∀t∈B,∀x∈t.2.1.bls,x.1.length≤4
theorem zri{s:Str}{n:Nat}(h:PB B):∀q∈pps B s n,q.length≤4:=λq hq=>by
 unfold pps at hq;cases e:zaN B s with
 |none=>
  rw[e]at hq;obtain⟨i,_,rfl⟩:=aG.mp hq;simp
 |some t=>
  rw[e]at hq;obtain⟨x,hx,rfl⟩:=aG.mp hq;exact h t (cx e) x hx
end
section
variable {a:Addr}{B:List Tn}{S:Sto}{r:Nat}{Q:WK}{E:Str→Sto→Prop}{t:Tr}
theorem zhy (L:Lft B) (ha:S a=ae (.lst (B.map zaY))) (hd:t.depth≤60) (hr:t.depth+30≤r) (hw:t.weight≤1000) (hh:t.hd (λ_=>True)) (h:∀q,S q=none→Q (.ref q) (put S q (.lst ((t.op B []).map zkL)))):zcL (r+1) [.ref a,enc t] S Q E:=by
 obtain⟨r,rfl⟩:∃r',r=r'+1:=⟨r - 1,by omega⟩
 rw[zcL];walk_at "wp";refine⟨aS _,λq hq=>⟨aS _,?_⟩⟩;have hqa:q≠a:=λz=>by rw[z,ha]at hq;cases hq
 refine znk L hqa t (p:=[]) (xs:=[]) (by omega) (keep ha hq) zag (by simp;omega) (by simp;omega) hh ?_;rw[zba,aY];exact⟨_, .refl,h q hq⟩
theorem zlD{f:Addr}{xs:List (List Int×Str)}(hf:S f=ae (.lst (xs.map zkL))) (hl:xs.length≤10000) (h:∀q,S q=none→Q (.ref q) (put S q (.lst ((xs.map λx=>x.1).map zbo)))):zdo (r+1) [.ref f] S Q E:=by
 rw[zdo];walk_at "wp";rw[zaj hf];refine zaL (λσ=>∃y,σ=[y]) zkL (λx=>zbo x.1) ?_ xs [] _ ⟨none,rfl⟩ (by simp;omega) (λx hx σ R hI hR=>?_) ?_
 ·exact hf
 ·obtain⟨y,rfl⟩:=hI;simp only[zfz,zkL];walk_at "wp";exact hR _ _ ⟨_,rfl⟩ .refl
 ·rw[aY];intro q hq;have:=h q hq;rw[bg]at this;exact⟨_, .refl,this⟩
theorem zkh{s:Str}{ts ms:List Tr}{u:Tn}(L:Lft B) (ha:S a=ae (.lst (B.map zaY))) (hh:(Tr.nd s ts).hd (λ_=>True)) (hw:(Tr.nd s ts).weight≤1000) (hr:25≤r) (h1:zeM B (.nd s ts)=ae u) (h2:u.2.1.mt (.nd s ts)=ae ms) (h:Q (enc (.nd u.1 ms)) S):zcX (r+1) [.ref a,enc (.nd s ts)] S Q E:=by
 obtain⟨r,rfl⟩:∃r',r=r'+1:=⟨r - 1,by omega⟩
 have ht:u∈B:=cx h1;have ft:=zff (m:=0) _ hh;have hm:=zrq u.2.1 _ _ h2 hh;have hl:=zcP ms;rw[zcX];walk_at "wp";refine zhn L ha ft (by omega) ?_;rw[h1];have et:zex (ae u)= .tup [.str u.1,enc u.2.1,enc u.2.2]:=rfl;rw[et]
 try walk_at "wp"
 rw[show atI [W.str u.1,enc u.2.1,enc u.2.2] 1=ae (enc u.2.1) from rfl];have g1:=L.d u ht;have g2:=L.w u ht;refine⟨zal (by decide),zeI (by omega) ft (by omega) (λys hys q hq=>?_) λh0=>by rw[h2]at h0;cases h0⟩
 rw[h2]at hys;cases hys
 try walk_at "wp"
 rw[zaT];simp only[enc]at h;exact⟨zal (by omega),_, .put .refl hq,h⟩
end
theorem zsF{B:List Tn}{s:Str}{n:Nat}(h:zaN B s=none):pps B s n=(aX n).map λ(i:Nat)=>[(i:Int)]:=by unfold pps;rw[h]
theorem zsP{B:List Tn}{s:Str}{n:Nat}{t:Tn}(h:zaN B s=ae t):pps B s n=t.2.1.bls.map λx=>x.1:=by unfold pps;rw[h]
theorem Wis.len{B:List Tn}{wn:List (List Int)}{n:Nat}{p:List Int}:∀{qs:List (List Int)}{ts us:List Tr},Wis B wn n p qs ts us→us.length=ts.length
 |_,_,_, .nil=>rfl
 |_,_,_, .cons _ h=>by rw[aO,aO,Wis.len h]
section
variable {a w:Addr}{B:List Tn}{wn:List (List Int)}
theorem zhr (n:Nat) (hP4:∀{t u:Tr}{p:List Int}{r:Nat}{S:Sto}{Q:WK}{E:Str→Sto→Prop},Wi B wn n p t u→n+40≤r+1→S a=ae (.lst (B.map zaY))→S w=ae (.dct (zia wn))→t.hd (λ_=>True)→t.weight≤1000→p.length+4*n≤1000→Q (enc u) S→zbb (r+1) [.ref a,enc t,zbo p, .ref w] S Q E) :
  ∀{ts us:List Tr}{qs:List (List Int)}{p:List Int},Wis B wn n p qs ts us→ ∀{r:Nat}{xs:List W}{f:Addr}{S:Sto}{G:Sto→Prop}{E:WX}{D:WEnds}{t0 x4 x6 x7:Option W},(∀q∈qs,q.length≤4)→n+40≤r+1→S a=ae (.lst (B.map zaY))→S w=ae (.dct (zia wn))→S f=ae (.lst xs)→f≠a→f≠w→xs.length+ts.length≤10000→wts ts≤1000→hds (λ_=>True) ts→p.length+4+4*n≤1000→(∀o,G (put S f o))→
  (∀x6 x7,D.nx [ae (.ref a),t0,ae (zbo p),ae (.ref w),x4,ae (.ref f),x6,x7] (put S f (.lst (xs++encs us))))→
  forL (wGT (zaq (wGN 6) (zaq (wGN 7) zbE))) (zcT (r+1) (zbb (r+1))) E D G (pairs (qs.map zbo) (encs ts)) [ae (.ref a),t0,ae (zbo p),ae (.ref w),x4,ae (.ref f),x6,x7] S
 |_,_,_,p, .nil=>by
  rename_i r xs f S G E D t0 x4 x6 x7;intro hq hr ha hw hf n1 n2 hx hwt hh hp hG h;simp only[cm,encs,pairs,forL];have:=h x6 x7;simp only[encs,bK,zdy hf]at this;exact this
 |_,_,_,p, .cons (q:=q) (t:=t) (u:=u) (ts:=ts) (us:=us) h1 h2=>by
  rename_i r xs f S G E D t0 x4 x6 x7 qs;intro hq hr ha hw hf n1 n2 hx hwt hh hp hG h;simp only[wts]at hwt;simp only[hds]at hh;simp only[aO]at hx;have hq4:=hq q aV;simp only[ay,encs,pairs];refine zbp λN hN=>?_;simp only[zcT];walk_at "wp";simp only[zaj hf,true_and];rw[ztF];refine⟨zal (by omega),hP4 h1 hr ha hw hh.1 (by omega) (by simp;omega) ?_⟩
  try walk_at "wp"
  rw[zaj hf];refine⟨zbK (by omega),?_⟩;refine hN _ _ _ .refl (hG _) (zhr n hP4 h2 (xs:=xs++[enc u]) (λq' hq'=>hq q' (aI _ hq')) hr (by rw[zaD (bu n1)];exact ha) (by rw[zaD (bu n2)];exact hw) zag n1 n2 (by simp;omega) (by omega) hh.2 hp (λo=>by rw[zba];exact hG o) λx6 x7=>?_)
  rw[zba];have:=h x6 x7;simpa [encs]using this
theorem zlf (L:Lft B) (hP:PB B):∀(n:Nat) {t u:Tr}{p:List Int}{r:Nat}{S:Sto}{Q:WK}{E:Str→Sto→Prop},Wi B wn n p t u→n+40≤r+1→S a=ae (.lst (B.map zaY))→S w=ae (.dct (zia wn))→t.hd (λ_=>True)→t.weight≤1000→p.length+4*n≤1000→Q (enc u) S→zbb (r+1) [.ref a,enc t,zbo p, .ref w] S Q E
 |0,t,u,p,r,S,Q,E,M,hr,ha,hw,hh,hwt,hp,h=>by cases M
 |n+1,t,u,p,r,S,Q,E,M,hr,ha,hw,hh,hwt,hp,h=>by
  obtain⟨r,rfl⟩:∃r',r=r'+1:=⟨r - 1,by omega⟩
  have tail:∀{s:Str}{ts us:List Tr}{t0:Option W}{E':WX},Wis B wn n p (pps B s ts.length) ts us→hds (λ_=>True) ts→wts ts≤1000→Q (enc (.nd s us)) S→
    (1:Nat)=1→ ∀f,S f=none→zbQ (r+1) [.ref a, .tup (.str s::encs ts)] (put S f (.lst [])) (λx S1=>zoP x S1 λxs G=>forL (wGT (zaq (wGN 6) (zaq (wGN 7) zbE))) (zcT (r+1) (zbb (r+1))) E' { nx:=zaZ (wOp zdr (zbO (zab (wOp oIx (zae 4) (wC (W.int 0))) waNil)) (wB zdt (zab (zae 5) waNil))) E' { nx:=λx S'=>∃S'',Sub S'' S'∧Q W.non S'',rt:=λw S'=>∃S'',Sub S'' S'∧Q w S'' },rt:=λw S'=>∃S'',Sub S'' S'∧Q w S'' } (λS'=>G S'∧True) (pairs xs (encs ts)) [ae (.ref a),t0,ae (zbo p),ae (.ref w),ae (.tup (.str s::encs ts)),ae (.ref f),none,none] S1) E:=λ{s ts us t0 E'} WW hd hw' hQ _ f hf=>by
   have hk:=zcP ts;have n1:f≠a:=λz=>by rw[z,ha]at hf;cases hf
   have n2:f≠w:=λz=>by rw[z,hw]at hf;cases hf
   have ee:W.tup (W.str s::encs ts)=enc (.nd s ts):=by simp only[enc]
   rw[ee];refine zoB L (keep ha hf) (by omega) (by omega) λq hq=>?_;rw[zhl,zgT,←ee];obtain⟨hq1,hq2⟩:=zdO hq;refine zhr n (zlf L hP n) WW (zri hP) (by omega) (keep (keep ha hf) hq) (keep (keep hw hf) hq) (keep zag hq) n1 n2 (by simp;omega) hw' hd (by omega) (λo=>⟨?_,trivial⟩) λx6 x7=>?_
   ·show put _ f o q=_;rw[zaD hq2];exact zag
   ·have hlu:us.length≤1000:=by
     have:=Wis.len WW;omega
    walk_at "wp";rw[zaT];simp only[enc]at hQ;refine⟨zal (by decide),zal (by omega),S,?_,hQ⟩;rw[znt hq2];exact .put (.put .refl hf) hq1
  cases M with
  | @no _ _ s ts us h1 h2 h3=>
   simp only[Tr.hd]at hh;simp only[Tr.weight]at hwt;rw[zbb];simp only[enc];walk_at "wp";rw[zlI hw,zkI,decide_eq_false h1]
   try walk_at "wp"
   refine⟨aS _,λf hf=>?_⟩;have:=tail (t0:=ae (.tup (.str s::encs ts))) (E':=λc x S'=>E c S') (by rw[zsF h2];exact h3) hh.2 (by omega) h rfl f hf;simpa only[and_true]using this
  | @yes _ _ s ts us ms t h1 h2 h3 h4 h5=>
   have hm:=zrq t.2.1 _ _ h3 hh;rw[zbb];walk_at "wp";rw[zlI hw,zkI,decide_eq_true h1]
   try walk_at "wp"
   refine zkh L ha hh hwt (by omega) h2 h3 ?_;simp only[enc]
   try walk_at "wp"
   refine⟨aS _,λf hf=>?_⟩;have:=tail (t0:=ae (.tup (.str s::encs ts))) (E':=λc x S'=>E c S') (by rw[zsP h4];exact h5) hm.1 (by omega) h rfl f hf;simpa only[and_true]using this
end
theorem zlk{S:Sto}{n:Nat}:∀(p q:List Int),zfS (eqF S (n+1)) (p.map W.int) (q.map W.int)=ae (decide (p=q))
 | [],[]=>by simp [zfS]
 | [],j::q=>by simp [zfS]
 |i::p,[]=>by simp [zfS]
 |i::p,j::q=>by
  rw[ay,ay,zfS,zpA,zlk p q];simp only[bC];rw[eU];simp
theorem zAK{S:Sto}{n:Nat}(p q:List Int):eqF S (n+2) (zbo p) (zbo q)=ae (decide (p=q)):=by
 unfold zbo;rw[ztU,zlk]
theorem zxq{S:Sto}{x:List Int}:∀ys:List (List Int),inF S (zbo x) (ys.map zbo)=ae (decide (x∈ys))
 | []=>by simp [inF]
 |y::ys=>by
  rw[ay,inF,zAK (n:=57),zxq ys];simp only[bC];rw[eU];simp only[km,decide_eq_true_eq,aA];exact⟨λh=>h.elim (λe=> .inl e.symm) .inr,λh=>h.elim (λe=> .inl e.symm) .inr⟩
section
variable {a:Addr}{B:List Tn}{wn:List (List Int)}{S:Sto}{r n:Nat}{Q:WK}{E:Str→Sto→Prop}{t u:Tr}{f:Addr}
theorem zos (L:Lft B) (hP:PB B) (M:Wi B wn n [] t u) (hn:n≤60) (hr:110≤r) (ha:S a=ae (.lst (B.map zaY))) (hf:S f=ae (.lst (wn.map zbo))) (hh:t.hd (λ_=>True)) (hw:t.weight≤1000) (hl:wn.length≤10000) (h:Q (enc u) S):zdK (r+1) [.ref a,enc t, .ref f] S Q E:=by
 obtain⟨r,rfl⟩:∃r',r=r'+1:=⟨r - 1,by omega⟩
 rw[zdK];walk_at "wd";refine⟨aS _,?_⟩;rw[zaj hf];refine zaL (λσ=>∃y,σ=[y]) zbo (λp=>W.tup [zbo p, .bl true]) ?_ wn [] _ ⟨none,rfl⟩ (by simp;omega) (λx hx σ R hI hR=>?_) ?_
 ·exact hf
 ·obtain⟨y,rfl⟩:=hI;simp only[zgq];walk_at "wd";exact⟨zal (by decide),hR _ _ ⟨_,rfl⟩ .refl⟩
 ·rw[aY];have e:zeL (wn.map λp=>W.tup [zbo p, .bl true])=ae wn:=zkb wn;rw[e];refine⟨by omega,λd hd=>?_⟩;have e0:W.tup []=zbo []:=rfl;rw[e0];exact zlf L hP n M (by omega) (keep ha hd) zag hh hw (by simp;omega) ⟨_, .put .refl hd,h⟩
theorem zsL{ks:List (List Int)}(L:Lft B) (hP:PB B) (M:Wi B wn n [] t u) (hn:n≤60) (hr:115≤r) (ha:S a=ae (.lst (B.map zaY))) (hf:S f=ae (.lst (wn.map zbo))) (hh:t.hd (λ_=>True)) (hw:t.weight≤1000) (hd:t.depth≤60) (hl:wn.length≤10000) (hks:((t.op B []).map λx=>x.1)=ks) (hin:∀x∈wn,x∈ks) (h:Q (enc u) S):zeB (r+1) [.ref a,enc t, .ref f] S Q E:=by
 obtain⟨r,rfl⟩:∃r',r=r'+1:=⟨r - 1,by omega⟩
 have ol:=znz B t [];rw[zeB];walk_at "wd";refine zhy L ha hd (by omega) hw hh λq hq=>?_;refine zlD zag (by omega) λq2 hq2=>?_;rw[hks];have f2:put (put S q (Ob.lst ((t.op B []).map zkL))) q2 (Ob.lst (ks.map zbo)) q2=ae (.lst (ks.map zbo)):=zag;have ff:=keep (x:=Ob.lst (ks.map zbo)) (keep (x:=Ob.lst ((t.op B []).map zkL)) hf hq) hq2;have fa:=keep (x:=Ob.lst (ks.map zbo)) (keep (x:=Ob.lst ((t.op B []).map zkL)) ha hq) hq2;have sub:Sub S (put (put S q (Ob.lst ((t.op B []).map zkL))) q2 (Ob.lst (ks.map zbo))):= .trans (.put .refl hq) (.put .refl hq2);generalize put (put S q (Ob.lst ((t.op B []).map zkL))) q2 (Ob.lst (ks.map zbo))=S2 at f2 ff fa sub⊢
 try walk_at "wd"
 rw[zaj ff];refine zft (S:=S2) ?_ (λσ=>∃x,σ=[ae (.ref a),ae (enc t),ae (.ref f),ae (.ref q2),x]) zbo (λ_=>none) wn _ ⟨_,rfl⟩ (λx hx σ N hI hno hret=>?_) (λe σ hI=>?_) λw e S' sb=>?_
 ·exact ff
 ·obtain⟨y,rfl⟩:=hI;unfold zir;walk_at "wd";rw[zaj f2,zxq,decide_eq_true (hin x hx)]
  try walk_at "wd"
  exact hno rfl _ _ ⟨_,rfl⟩ .refl
 ·obtain⟨y,rfl⟩:=hI
  try walk_at "wd"
  exact zos L hP M hn (by omega) fa ff hh hw hl ⟨_,sub,h⟩
 ·rw[List.findSome?_eq_none_iff.mpr (λ_ _=>rfl)]at e;cases e
end
theorem zqD{S:Sto}{E:WX}{D:WEnds}{x1:Option W}{r:Nat}:∀(q:List Int) {t u:Tr}{x2:Option W},t.at q=ae u→(∀x2,D.nx [ae (enc u),x1,x2] S)→forL (wGN 2) (zdm r zaU) E D (λ_=>True) (q.map W.int) [ae (enc t),x1,x2] S
 | [],t,u,x2,h,hD=>by
  cases t<;>simp only[Tr.at,bC]at h<;>subst h<;>simpa [forL]using hD x2
 |i::q, .bl n,u,x2,h,hD=>by simp [Tr.at]at h
 |i::q, .nd s ts,u,x2,h,hD=>by
  obtain⟨a,h2,e1,e2⟩:=zgB h;rw[ay];refine zbp λN hN=>?_;simp only[zdm,enc];walk_at "wp";have ei:(i:Int)+1=((i.toNat+1:Nat):Int):=by omega
  rw[ei,zcb,cg,zaA,bj,e1];exact hN _ _ _ .refl trivial (zqD q e2 hD)
theorem zxo{S:Sto}{q:List Int}{t u:Tr}{r:Nat}{Q:WK}{E:Str→Sto→Prop}(ha:t.at q=ae u) (h:Q (enc u) S):zcs (r+1) [enc t,zbo q] S Q E:=by
 rw[zcs];simp only[zbo];walk_at "wp";refine zqD q ha λx2=>?_;walk_at "wp";exact⟨_, .refl,h⟩
theorem zzd{x:List Int}{t:Tr}{p:List Int}(h:x∈t.pl p):x.length<p.length+t.depth:=by
 rw[←zfb,aG]at h;obtain⟨⟨q,u⟩,hm,rfl⟩:=h;obtain⟨r,rfl,_,hr⟩:=zhh t p q u hm;simp;omega
mutual
theorem zus (p:List Int):∀(t:Tr) (q:List Int),t.pl (p++q)=(t.pl q).map (p++ ·)
 | .bl _,q=>by simp [Tr.pl]
 | .nd _ ts,q=>by simp [Tr.pl,zrs p ts q 0]
theorem zrs (p:List Int):∀(ts:List Tr) (q:List Int) (i:Nat),pls (p++q) i ts=(pls q i ts).map (p++ ·)
 | [],q,i=>by simp [pls]
 |t::ts,q,i=>by rw[pls,pls,bD,←zus p t,zrs p ts q (i+1),bL]
end
noncomputable def zyT (B:List Tn) (x:List Int×Tr):List (List Int×Str):=(zeM B x.2).toList.map λb=>(x.1,b.1)
mutual
theorem zoW (B:List Tn):∀(t:Tr) (p:List Int),t.fits 0→(t.plt p).flatMap (zyT B)=t.op B p
 | .bl n,p,h=>by
  simp only[Tr.fits]at h;omega
 | .nd s ts,p,h=>by
  simp only[Tr.fits]at h;rw[Tr.plt,fv,zrc B ts p 0 h,Tr.op,zyT];cases zeM B (.nd s ts)<;>rfl
theorem zrc (B:List Tn):∀(ts:List Tr) (p:List Int) (i:Nat),fitss 0 ts→(zfO p i ts).flatMap (zyT B)=ops B p i ts
 | [],p,i,h=>by simp [zfO,ops]
 |t::ts,p,i,h=>by
  simp only[fitss]at h;rw[zfO,ops,kK,zoW B t _ h.1,zrc B ts p (i+1) h.2]
end
section
variable {c:Int→Nat}
def One (c:Int→Nat):Prop:=∀x:Int,0≤x→x<8→c x≤1
theorem One.src (hc:One c):∀x:Int,0≤x→x<8→zgD c x=0:=λx h0 h1=>by
 have:=hc x h0 h1;unfold zgD;split<;>omega
end
theorem ztm (x:Int) (h0:0≤x) (h8:x<8):byC 8 x=0:=by
 have:∀n:Nat,n<8→byC 8 (n:Int)=0:=by decide
 obtain⟨n,rfl⟩:=Int.eq_ofNat_of_zero_le h0;exact this n (by omega)
theorem zgt (f:Int):One (byC f):=λx _ _=>zAe f x
section
variable {c d:Int→Nat}
theorem zgW{c d:Int→Nat}(hc:One c) (hd:One d):Ok2 c d:=λx h0 h1=> .inl ⟨hc x h0 h1,hd x h0 h1⟩
end
def Ap (a b:List Int):Prop:=∃(c:List Int) (x y:Int) (a' b':List Int),a=c++x::a'∧b=c++y::b'∧x<y
def Bf (a b:List Int):Prop:=Ap a b∨ ∃x e,b=a++x::e
theorem zjr:∀(ts:List Tr) (p:List Int) (i:Nat) (x:List Int×Tr),x∈zfO p i ts→ ∃(j:Nat) (e:List Int),i≤j∧x.1=p++(j:Int)::e
 | [],p,i,x,h=>by rw[zfO]at h;cases h
 |t::ts,p,i,x,h=>by
  rw[zfO]at h;rcases bp.mp h with h |h
  ·obtain⟨r,e,_,_⟩:=zhh t _ x.1 x.2 h;exact⟨i,r,ap _,by rw[e];simp⟩
  ·obtain⟨j,e,h1,h2⟩:=zjr ts p (i+1) x h;exact⟨j,e,by omega,h2⟩
mutual
theorem ztG:∀(t:Tr) (p:List Int),(t.plt p).Pairwise λx y=>Bf x.1 y.1
 | .bl n,p=>by rw[Tr.plt];exact List.pairwise_singleton _ _
 | .nd s ts,p=>by
  rw[Tr.plt];refine jV.mpr ⟨λy hy=>?_,zpV ts p 0⟩;obtain⟨j,e,_,h⟩:=zjr ts p 0 y hy;exact .inr ⟨j,e,h⟩
theorem zpV:∀(ts:List Tr) (p:List Int) (i:Nat),(zfO p i ts).Pairwise λx y=>Bf x.1 y.1
 | [],p,i=>by rw[zfO];exact .nil
 |t::ts,p,i=>by
  rw[zfO];refine List.pairwise_append.mpr ⟨ztG t _,zpV ts p (i+1),λx hx y hy=>?_⟩;obtain⟨r,e,_,_⟩:=zhh t _ x.1 x.2 hx;obtain⟨j,e',hj,h⟩:=zjr ts p (i+1) y hy;exact .inl ⟨p,i,j,r,e',by rw[e];simp,h,by omega⟩
end
theorem zxc (t:Tr):(t.bls.map λx=>x.1).Pairwise Ap:=by
 rw[ii];have h:=(ztG t []).filter λx=>x.2.isBl;refine j7 (λ{x y} hx hy hb=>?_) h;rcases hb with hb |⟨z,e,hb⟩
 ·exact hb
 ·obtain⟨h1,h2,_⟩:=zhH hx;obtain⟨h3,_,_⟩:=zhH hy;rw[h2]at h1;rw[hb,zqy x.1 (z::e) h1,Tr.at]at h3;cases h3
theorem zsi (n:Nat):((aX n).map λ(i:Nat)=>[(i:Int)]).Pairwise Ap:=by
 rw[ii];exact(List.pairwise_lt_range).imp λ{i j} h=>⟨[],i,j,[],[],rfl,rfl,by omega⟩
noncomputable def u1 (B:List Tn) (p:Pl):List (List Int×Str):=zBn (byC 1) (p.ns B [])
mutual
noncomputable def Tr.ord (k:Nat):Tr→Option Nat
 | .bl n=>if n=(k:Int) then ae (k+1) else none
 | .nd _ ts=>zog k ts
noncomputable def zog (k:Nat):List Tr→Option Nat
 | []=>ae k
 |t::ts=>match t.ord k with
  |some m=>zog m ts
  |none=>none
end
def zzA (B:List Tn) (z:Str):Prop:=∀u∈B,∀s ls,u.2.1= .nd s ls→s≠z
structure Ort (B:List Tn):Prop where
  inn:∀t∈B,∃s ls,t.2.1= .nd s ls∧hbs (zzA B) ls
  mt:zzv B
  fm:∀t∈B,∀x ys,t.2.1.mt x=ae ys→x=t.2.1.fill ys∧ys.length=t.2.1.nb
  one:∀u∈B,∀v∈B,∀x:Tr,(u.2.1.mt x).isSome=true→(v.2.1.mt x).isSome=true→u=v
  od:∀t∈B,t.2.1.ord 0=ae t.2.1.nb
mutual
theorem zua:∀(L x:Tr) (ys:List Tr) (k m:Nat),L.ord k=ae m→L.mt x=ae ys→ys.length+k=m∧ ∀pre post:List Tr,pre.length=k→L.fill (pre++ys++post)=x
 | .bl n,x,ys,k,m,h,e=>by
  rw[Tr.ord]at h;split at h
  ·rename_i hn;cases h;rw[Tr.mt]at e;cases e;refine⟨by simp;omega,λpre post hp=>?_⟩;rw[Tr.fill,hn,bW,bv,bL,iq (by omega),hp,gQ];rfl
  ·cases h
 | .nd s ls, .bl n,ys,k,m,h,e=>by rw[Tr.mt]at e;cases e
 | .nd s ls, .nd z us,ys,k,m,h,e=>by
  rw[Tr.mt]at e;split at e
  ·rename_i hc;rw[b6,beq_iff_eq,beq_iff_eq]at hc;rw[Tr.ord]at h;obtain⟨h1,h2⟩:=zpn ls us ys k m hc.2 h e;exact⟨h1,λpre post hp=>by rw[Tr.fill,h2 pre post hp,hc.1]⟩
  ·cases e
theorem zpn:∀(ls us ys:List Tr) (k m:Nat),ls.length=us.length→zog k ls=ae m→mts ls us=ae ys→ys.length+k=m∧ ∀pre post:List Tr,pre.length=k→fills (pre++ys++post) ls=us
 | [],us,ys,k,m,hl,h,e=>by
  rw[zog]at h;cases h;rw[mts]at e;cases e;cases us with
  |nil=>exact⟨by simp,λ_ _ _=>by rw[fills]⟩
  |cons _ _=>cases hl
 |l::ls,[],ys,k,m,hl,h,e=>by cases hl
 |l::ls,u::us,ys,k,m,hl,h,e=>by
  rw[zog]at h;rw[mts]at e;cases q:l.ord k with
  |none=>rw[q]at h;cases h
  |some j=>
   rw[q]at h;cases q1:l.mt u with
   |none=>rw[q1]at e;cases e
   |some xs=>
    rw[q1]at e;cases q2:mts ls us with
    |none=>rw[q2]at e;cases e
    |some zs=>
     rw[q2]at e;cases e;obtain⟨h1,h2⟩:=zua l u xs k j q q1;obtain⟨h3,h4⟩:=zpn ls us zs j m (by simpa using hl) h q2;refine⟨by rw[aM];omega,λpre post hp=>?_⟩;rw[fills];have e1:=h2 pre (zs++post) hp;have e2:=h4 (pre++xs) post (by rw[aM];omega);have a1:pre++(xs++zs)++post=pre++xs++(zs++post):=by simp
     have a2:pre++(xs++zs)++post=pre++xs++zs++post:=by simp
     rw[a1,e1,←a1,a2,e2]
end
theorem zmS{n:Nat}{h c d:Str}{L:Tr}(hL:L∈leftsL n h c d):L.ord 0=ae L.nb:=by
 unfold leftsL at hL;split at hL<;>simp only[aA,bi,or_false]at hL
 all_goals first
  | (subst hL;simp [Tr.ord,zog,Tr.nb,nbs])
  | (rcases hL with rfl |rfl<;>simp [Tr.ord,zog,Tr.nb,nbs])
theorem zgL{n:Nat}{h c d:Str}{P:Str→Prop}(hc:P c) (hd:P d) {L:Tr}(hL:L∈leftsL n h c d):∃ls,L= .nd h ls∧hbs P ls:=by
 unfold leftsL at hL;split at hL<;>simp only[aA,bi,or_false]at hL
 all_goals first
  | (subst hL;exact⟨_,rfl,by simp [hbs,Tr.hb,hc,hd]⟩)
  | (rcases hL with rfl |rfl<;>exact⟨_,rfl,by simp [hbs,Tr.hb,hc,hd]⟩)
section
variable {w0 w1 w2 w3 w4 w5:Str}{tt:List Str}{B:List Tn}
theorem BookOk.mem_lefts (b:BookOk w0 w1 w2 w3 w4 w5 tt B) {t:Tn}(ht:t∈B):∃n,t.2.1∈leftsL n w0 w2 w3∨t.2.1∈leftsL n w1 w2 w3:=by
 obtain⟨n,m,e⟩:=b.lf;have:t.2.1∈leftsL n w0 w2 w3++leftsL m w1 w2 w3:=by rw[←e];exact aG.mpr ⟨t,ht,rfl⟩
 rcases bp.mp this with z |z
 ·exact⟨n, .inl z⟩
 ·exact⟨m, .inr z⟩
theorem BookOk.ort (b:BookOk w0 w1 w2 w3 w4 w5 tt B) (G:Signs w0 w1 w2 w3 w4 w5):Ort B:=by
 have top:∀z,z≠w0→z≠w1→zzA B z:=λz h0 h1 u hu s ls e=>by
  obtain⟨n,z |z⟩:=b.mem_lefts hu
  ·obtain⟨l,e',_⟩:=zgL (P:=λ_=>True) trivial trivial z;rw[e]at e';cases e';exact h0.symm
  ·obtain⟨l,e',_⟩:=zgL (P:=λ_=>True) trivial trivial z;rw[e]at e';cases e';exact h1.symm
 have t2:=top w2 (G.n0 w2 (by simp)).symm (G.n1 w2 (by simp)).symm;have t3:=top w3 (G.n0 w3 (by simp)).symm (G.n1 w3 (by simp)).symm;have od:∀t∈B,t.2.1.ord 0=ae t.2.1.nb:=λt ht=>by
  obtain⟨n,z |z⟩:=b.mem_lefts ht
  ·exact zmS z
  ·exact zmS z
 refine⟨λt ht=>?_,b.mt,λt ht x ys e=>?_,λu hu v hv x h1 h2=>zum (b.inj G) hu hv (b.one G hu hv h1 h2),od⟩
 ·obtain⟨n,z |z⟩:=b.mem_lefts ht
  ·obtain⟨l,e',h⟩:=zgL t2 t3 z;exact⟨_,_,e',h⟩
  ·obtain⟨l,e',h⟩:=zgL t2 t3 z;exact⟨_,_,e',h⟩
 ·have ho:=od t ht;obtain⟨h1,h2⟩:=zua _ _ _ _ _ ho e;have:=h2 [] [] rfl;simp only[aY,bK]at this;exact⟨this.symm,by omega⟩
end
structure Wy (ws:List Str) (B:List Tn) (a:Tr):Prop where
  hd:a.hd λs=>s∈ws∨ ∃t∈B,t.1=s
  ar:a.ar B
noncomputable abbrev src (B:List Tn) (a:Tr):Tr:=a.mk B λt=>t.2.1
noncomputable abbrev gol (B:List Tn) (a:Tr):Tr:=a.mk B λt=>t.2.2
section
variable {ws:List Str}{B:List Tn}
theorem zlL{P:Str→Prop}:∀{ts:List Tr}{t:Tr},hds P ts→t∈ts→t.hd P
 |u::ts,t,h,ht=>by
  rw[hds]at h;rcases aA.mp ht with rfl |ht
  ·exact h.1
  ·exact zlL h.2 ht
theorem zmu:∀{ts:List Tr}{t:Tr},ars B ts→t∈ts→t.ar B
 |u::ts,t,h,ht=>by
  rw[ars]at h;rcases aA.mp ht with rfl |ht
  ·exact h.1
  ·exact zmu h.2 ht
theorem Wy.cases (b:BkOk ws ws B) {a:Tr}(h:Wy ws B a):(∃s as,a= .nd s as∧s∈ws∧zaN B s=none∧ ∀x∈as,Wy ws B x)∨(∃t as,t∈B∧a= .nd t.1 as∧zaN B t.1=ae t∧as.length=t.2.1.nb∧ ∀x∈as,Wy ws B x):=by
 obtain⟨h1,h2⟩:=h;cases a with
 |bl n=>rw[Tr.hd]at h1;exact h1.elim
 |nd s as=>
  rw[Tr.hd]at h1;rw[Tr.ar]at h2;have kids:∀x∈as,Wy ws B x:=λx hx=>⟨zlL h1.2 hx,zmu h2.2 hx⟩;rcases h1.1 with h |⟨t,ht,rfl⟩
  ·exact .inl ⟨s,as,rfl,h,zaX b.ti (b.sg s h),kids⟩
  ·have e:=zca b.nd ht;exact .inr ⟨t,as,ht,rfl,e,h2.1 t e,kids⟩
theorem zem{g:Tn→Tr}{s:Str}{as:List Tr}(h:zaN B s=none):(Tr.nd s as).mk B g= .nd s (as.map (Tr.mk B g)):=by
 rw[Tr.mk,h,zhL]
theorem zdA{g:Tn→Tr}{t:Tn}{as:List Tr}(h:zaN B t.1=ae t):(Tr.nd t.1 as).mk B g=(g t).fill (as.map (Tr.mk B g)):=by
 rw[Tr.mk,h,zhL]
mutual
theorem zyU (b:BkOk ws ws B) (O:Ort B):∀(L a:Tr),L.hb (zzA B)→Wy ws B a→(L.mt (src B a)).isSome=true→(L.mt a).isSome=true
 | .bl n,a,_,_,_=>by rw[Tr.mt];rfl
 | .nd z ls,a,hL,ha,h=>by
  rw[Tr.hb]at hL;rcases ha.cases b with⟨s,as,rfl,hs,e,kids⟩ |⟨t,as,ht,rfl,e,hl,kids⟩
  ·rw[show src B (.nd s as)= .nd s (as.map (src B)) from zem e,Tr.mt,ax]at h;rw[Tr.mt];split at h
   ·rename_i hc;rw[if_pos hc];exact zmp b O ls as hL.2 kids h
   ·cases h
  ·obtain⟨s0,l0,e0,_⟩:=O.inn t ht;rw[show src B (.nd t.1 as)=t.2.1.fill (as.map (src B)) from zdA e,e0,Tr.fill]at h;exact absurd (zlH h).symm (hL.1 t ht s0 l0 e0)
theorem zmp (b:BkOk ws ws B) (O:Ort B):∀(ls as:List Tr),hbs (zzA B) ls→(∀x∈as,Wy ws B x)→(mts ls (as.map (src B))).isSome=true→(mts ls as).isSome=true
 | [],as,_,_,_=>by rw[mts];rfl
 |l::ls,[],_,_,_=>by rw[mts];rfl
 |l::ls,a::as,hL,ha,h=>by
  rw[hbs]at hL;rw[ay,mts]at h;cases q1:l.mt (src B a) with
  |none=>rw[q1]at h;cases h
  |some xs=>
   rw[q1]at h;cases q2:mts ls (as.map (src B)) with
   |none=>rw[q2]at h;cases h
   |some zs=>
    have h1:=zyU b O l a hL.1 (ha a (by simp)) (by rw[q1];rfl);have h2:=zmp b O ls as hL.2 (λx hx=>ha x (aI _ hx)) (by rw[q2];rfl);obtain⟨x1,h1⟩:=dO.mp h1;obtain⟨x2,h2⟩:=dO.mp h2;rw[mts,h1,h2];rfl
end
end
section
variable {ws:List Str}{B:List Tn}
theorem Wy.kids{s:Str}{as:List Tr}(h:Wy ws B (.nd s as)):∀x∈as,Wy ws B x:=λx hx=>by
 obtain⟨h1,h2⟩:=h;rw[Tr.hd]at h1;rw[Tr.ar]at h2;exact⟨zlL h1.2 hx,zmu h2.2 hx⟩
mutual
theorem zva:∀(L a:Tr) (ys:List Tr),L.mt a=ae ys→Wy ws B a→ ∀y∈ys,Wy ws B y
 | .bl n,a,ys,e,h,y,hy=>by
  rw[Tr.mt]at e;cases e;rw[bz]at hy;rw[hy];exact h
 | .nd s ls, .bl n,ys,e,h,y,hy=>by rw[Tr.mt]at e;cases e
 | .nd s ls, .nd z us,ys,e,h,y,hy=>by
  rw[Tr.mt]at e;split at e
  ·exact ztM ls us ys e h.kids y hy
  ·cases e
theorem ztM:∀(ls us ys:List Tr),mts ls us=ae ys→(∀x∈us,Wy ws B x)→ ∀y∈ys,Wy ws B y
 | [],us,ys,e,h,y,hy=>by rw[mts]at e;cases e;cases hy
 |l::ls,[],ys,e,h,y,hy=>by rw[mts]at e;cases e;cases hy
 |l::ls,u::us,ys,e,h,y,hy=>by
  rw[mts]at e;cases q1:l.mt u with
  |none=>rw[q1]at e;cases e
  |some xs=>
   rw[q1]at e;cases q2:mts ls us with
   |none=>rw[q2]at e;cases e
   |some zs=>
    rw[q2]at e;cases e;rcases bp.mp hy with hy |hy
    ·exact zva l u xs q1 (h u (by simp)) y hy
    ·exact ztM ls us zs q2 (λx hx=>h x (aI _ hx)) y hy
end
theorem zmx (b:BkOk ws ws B) {t:Tn}(ht:t∈B) {vs:List Tr}(hl:vs.length=t.2.1.nb) (g:Tn→Tr):(t.2.1.fill vs).mk B g=t.2.1.fill (vs.map (Tr.mk B g)):=
 zjy b.ti _ (b.lf t ht).hb (by rw[hl];exact(b.lf t ht).fits)
theorem zfh (b:BkOk ws ws B) (O:Ort B) {t:Tn}(ht:t∈B) {s:Str}{bs us:List Tr}(e:zaN B s=none) (hw:Wy ws B (.nd s bs)) (hl:us.length=t.2.1.nb) (h:src B (.nd s bs)=t.2.1.fill us) :
  ∃vs, .nd s bs=t.2.1.fill vs∧vs.length=t.2.1.nb∧vs.map (src B)=us∧(∀x∈vs,Wy ws B x)∧wts vs≤(Tr.nd s bs).weight:=by
 obtain⟨s0,ls,e0,hin⟩:=O.inn t ht;have hm:t.2.1.mt (src B (.nd s bs))=ae us:=by rw[h];exact O.mt t ht us hl
 have h1:(t.2.1.mt (.nd s bs)).isSome=true:=by
  have hm':=hm;rw[show src B (.nd s bs)= .nd s (bs.map (src B)) from zem e,e0,Tr.mt,ax]at hm';rw[e0,Tr.mt];split at hm'
  ·rename_i hc;rw[if_pos hc];exact zmp b O ls bs hin hw.kids (by rw[hm'];rfl)
  ·cases hm'
 obtain⟨vs,hv⟩:=dO.mp h1;obtain⟨h2,h3⟩:=O.fm t ht _ _ hv;refine⟨vs,h2,h3,?_,zva _ _ _ hv hw,zlq _ _ _ hv⟩;rw[h2,show src B (t.2.1.fill vs)=_ from zmx b ht h3 _,O.mt t ht _ (by rw[ax,h3])]at hm;exact aH hm
theorem zfB{s:Str}{as:List Tr}:(Tr.nd s as).weight=1+wts as:=by rw[Tr.weight]
inductive PlB (P:Int→Prop):Pl→Prop
 |sign {b:Int}{h:Str}{ps:List Pl}:(∀p∈ps,PlB P p)→PlB P (.nd (-1) b h ps)
 |turn {k:Nat}{b:Int}{h:Str}{ps:List Pl}:P b→(∀p∈ps,PlB P p)→PlB P (.nd k b h ps)
def zwD (x:Int):Prop:=x=1∨x=2∨x=3
theorem zsJ (b:BkOk ws ws B) (O:Ort B):∀(n:Nat) (x y:Tr),x.weight+y.weight≤n→Wy ws B x→Wy ws B y→src B x=src B y→ ∃p,PlOk ws B p∧PlB zwD p∧p.ev B (byC 1)=x∧p.ev B (byC 2)=y
 |0,x,y,hn,hx,hy,e=>by
  rcases hx.cases b with⟨s,as,rfl,_⟩ |⟨t,as,_,rfl,_⟩<;>rw[zfB]at hn<;>omega
 |n+1,x,y,hn,hx,hy,e=>by
  have lists:∀(xs ys:List Tr),wts xs+wts ys≤n→(∀x∈xs,Wy ws B x)→(∀y∈ys,Wy ws B y)→xs.map (src B)=ys.map (src B)→ ∃ps:List Pl,(∀p∈ps,PlOk ws B p)∧(∀p∈ps,PlB zwD p)∧ps.map (Pl.ev B (byC 1))=xs∧ps.map (Pl.ev B (byC 2))=ys:=by
   intro xs
   induction xs with
   |nil=>
    intro ys _ _ _ e;cases ys with
    |nil=>exact⟨[],by simp,by simp,rfl,rfl⟩
    |cons y ys=>cases e
   |cons x xs ih=>
    intro ys hw h1 h2 e;cases ys with
    |nil=>cases e
    |cons y ys=>
     rw[ay,ay,fI]at e;rw[wts,wts]at hw;obtain⟨p,hp,hq,e1,e2⟩:=zsJ b O n x y (by omega) (h1 x (by simp)) (h2 y (by simp)) e.1;obtain⟨ps,hps,hqs,e3,e4⟩:=ih ys (by omega) (λz hz=>h1 z (aI _ hz)) (λz hz=>h2 z (aI _ hz)) e.2;exact⟨p::ps,λq hq=>by
      rcases aA.mp hq with rfl |hq
      ·exact hp
      ·exact hps q hq,λq hz=>by
      rcases aA.mp hz with rfl |hz
      ·exact hq
      ·exact hqs q hz,by rw[ay,e1,e3],by rw[ay,e2,e4]⟩
  rcases hx.cases b with⟨s,as,rfl,hs,es,ka⟩ |⟨t,as,ht,rfl,et,la,ka⟩
  ·rcases hy.cases b with⟨s',bs,rfl,hs',es',kb⟩ |⟨t,bs,ht,rfl,et,lb,kb⟩
   ·rw[show src B (.nd s as)=_ from zem es,show src B (.nd s' bs)=_ from zem es']at e;injection e with e1 e2;subst e1;rw[zfB,zfB]at hn;obtain⟨ps,hps,hqs,e3,e4⟩:=lists as bs (by omega) ka kb e2;exact⟨.nd (-1) 0 s ps, .sign hs hps, .sign hqs,by rw[zaR,e3],by rw[zaR,e4]⟩
   ·rw[show src B (.nd t.1 bs)=_ from zdA et]at e;obtain⟨vs,ev,lv,ms,kv,wv⟩:=zfh b O ht es hx (by rw[ax,lb]) e;rw[zfB (s:=t.1)]at hn;obtain⟨ps,hps,hqs,e3,e4⟩:=lists vs bs (by omega) kv kb ms;obtain⟨k,hk⟩:=iu ht;refine⟨.nd k 2 t.1 ps, .turn hk (by rw[←lb,←e4,ax]) (by decide) (by decide) hps, .turn (by unfold zwD;decide) hqs,?_,?_⟩
    ·rw[zaG hk,e3,ev,show byC 1 2=0 by decide];rfl
    ·rw[zaG hk,e4,show byC 2 2=1 by decide];rfl
  ·rcases hy.cases b with⟨s,bs,rfl,hs,es,kb⟩ |⟨u,bs,hu,rfl,eu,lb,kb⟩
   ·rw[show src B (.nd t.1 as)=_ from zdA et]at e;obtain⟨vs,ev,lv,ms,kv,wv⟩:=zfh b O ht es hy (by rw[ax,la]) e.symm;rw[zfB (s:=t.1)]at hn;obtain⟨ps,hps,hqs,e3,e4⟩:=lists as vs (by omega) ka kv ms.symm;obtain⟨k,hk⟩:=iu ht;refine⟨.nd k 1 t.1 ps, .turn hk (by rw[←la,←e3,ax]) (by decide) (by decide) hps, .turn (by unfold zwD;decide) hqs,?_,?_⟩
    ·rw[zaG hk,e3,show byC 1 1=1 by decide];rfl
    ·rw[zaG hk,e4,ev,show byC 2 1=0 by decide];rfl
   ·rw[show src B (.nd t.1 as)=_ from zdA et,show src B (.nd u.1 bs)=_ from zdA eu]at e;have m1:=O.mt t ht (as.map (src B)) (by rw[ax,la]);have m2:=O.mt u hu (bs.map (src B)) (by rw[ax,lb]);have:t=u:=O.one t ht u hu _ (by rw[m1];rfl) (by rw[show(t.2.1.fill (as.map (src B)))=_ from e,m2];rfl)
    subst this;have e2:as.map (src B)=bs.map (src B):=by
     rw[show(t.2.1.fill (as.map (src B)))=_ from e,m2]at m1;exact(aH m1).symm
    rw[zfB,zfB]at hn;obtain⟨ps,hps,hqs,e3,e4⟩:=lists as bs (by omega) ka kb e2;obtain⟨k,hk⟩:=iu ht;refine⟨.nd k 3 t.1 ps, .turn hk (by rw[←la,←e3,ax]) (by decide) (by decide) hps, .turn (by unfold zwD;decide) hqs,?_,?_⟩
    ·rw[zaG hk,e3,show byC 1 3=1 by decide];rfl
    ·rw[zaG hk,e4,show byC 2 3=1 by decide];rfl
end
theorem zru:∀xs ys:List Tr,wts (xs++ys)=wts xs+wts ys
 | [],ys=>by rw[aY,wts,bO]
 |x::xs,ys=>by rw[b8,wts,wts,zru xs ys,im]
mutual
theorem zja:∀(L:Tr) (k m:Nat),L.ord k=ae m→k≤m∧L.nb+k=m∧ ∀(us:List Tr),m≤us.length→(L.fill us).weight+(m - k)=L.weight+wts ((us.drop k).take (m - k))∧ ∀u∈(us.drop k).take (m - k),u.depth≤(L.fill us).depth
 | .bl n,k,m,h=>by
  rw[Tr.ord]at h;split at h
  ·rename_i hn;cases h;refine⟨by omega,by rw[Tr.nb];omega,λus hu=>?_⟩
   have hk:k<us.length:=by omega
   have e:(us.drop k).take (k+1 - k)=[us[k]]:=by
    rw[show k+1 - k=1 by omega,eS hk]
    rfl
   have f:(Tr.bl n).fill us=us[k]:=by
    rw[Tr.fill,hn,bW,bv,a_ hk];rfl
   rw[e,f];refine⟨?_,λu hu=>?_⟩
   ·simp only[Tr.weight,wts];omega
   ·rw[bz]at hu;rw[hu];exact ap _
  ·cases h
 | .nd s ls,k,m,h=>by
  rw[Tr.ord]at h;obtain⟨h1,h2,h3⟩:=zfw ls k m h;refine⟨h1,by rw[Tr.nb];exact h2,λus hu=>?_⟩
  obtain⟨h4,h5⟩:=h3 us hu;rw[Tr.fill,Tr.weight,Tr.weight,Tr.depth];exact⟨by omega,λu hu'=>a9 (h5 u hu') (by omega)⟩
theorem zfw:∀(ls:List Tr) (k m:Nat),zog k ls=ae m→k≤m∧nbs ls+k=m∧ ∀(us:List Tr),m≤us.length→wts (fills us ls)+(m - k)=wts ls+wts ((us.drop k).take (m - k))∧ ∀u∈(us.drop k).take (m - k),u.depth≤dts (fills us ls)
 | [],k,m,h=>by
  rw[zog]at h;cases h;refine⟨ap _,by rw[nbs];omega,λus _=>?_⟩
  rw[gQ,gC,fills];exact⟨rfl,λu hu=>by cases hu⟩
 |l::ls,k,m,h=>by
  rw[zog]at h;cases q:l.ord k with
  |none=>rw[q]at h;cases h
  |some j=>
   rw[q]at h;obtain⟨h1,h2,h3⟩:=zja l k j q;obtain⟨g1,g2,g3⟩:=zfw ls j m h;refine⟨by omega,by rw[nbs];omega,λus hu=>?_⟩
   obtain⟨h4,h5⟩:=h3 us (by omega);obtain⟨g4,g5⟩:=g3 us hu;have e:(us.drop k).take (m - k)=(us.drop k).take (j - k)++(us.drop j).take (m - j):=by
    rw[show m - k=(j - k)+(m - j) by omega,i5,jm,show k+(j - k)=j by omega]
   rw[e,zru,fills,wts,wts,dts];refine⟨by omega,λu hu=>?_⟩;rcases bp.mp hu with hu |hu
   ·have:=h5 u hu;omega
   ·have:=g5 u hu;omega
end
theorem zqh:∀(L:Tr),L.nb≤L.weight:=λL=>by rw[←zzp];exact zvV L
theorem zpz:∀ls:List Tr,nbs ls≤wts ls
 | []=>by rw[nbs,wts];exact ap _
 |l::ls=>by rw[nbs,wts];have:=zqh l;have:=zpz ls;omega
section
variable {B:List Tn}
theorem Ort.fill (O:Ort B) {t:Tn}(ht:t∈B) {us:List Tr}(hl:us.length=t.2.1.nb):(t.2.1.fill us).weight+t.2.1.nb=t.2.1.weight+wts us∧1+wts us≤(t.2.1.fill us).weight∧1+dts us≤(t.2.1.fill us).depth:=by
 obtain⟨s,ls,e,_⟩:=O.inn t ht;have ho:=O.od t ht;obtain⟨_,h2,h3⟩:=zja _ _ _ ho;obtain⟨h4,_⟩:=h3 us (by omega);rw[eM,cG,du (by omega)]at h4;have hw:1+t.2.1.nb≤t.2.1.weight:=by
  rw[e,Tr.nb,Tr.weight];have:=zpz ls;omega
 refine⟨h4,by omega,?_⟩
 rw[e]at ho hl⊢;rw[Tr.ord]at ho;obtain⟨_,_,g3⟩:=zfw _ _ _ ho;obtain⟨_,g5⟩:=g3 us (by omega);rw[eM,cG,du (by omega)]at g5;rw[Tr.fill,Tr.depth];have:=ziq g5;omega
noncomputable def zr:Int→Nat:=λ_=>0
end
section
variable {B:List Tn}
mutual
noncomputable def Tr.ne (B:List Tn):Tr→Nat
 | .bl _=>0
 | .nd s ts=>(match zaN B s with
  |none=>0
  |some _=>1)+nes B ts
noncomputable def nes (B:List Tn):List Tr→Nat
 | []=>0
 |t::ts=>max (t.ne B) (nes B ts)
end
theorem zme{t:Tr}:∀{ts:List Tr},t∈ts→t.ne B≤nes B ts
 |u::ts,h=>by
  rw[nes];rcases aA.mp h with rfl |h
  ·omega
  ·have:=zme h;omega
theorem zit{n:Nat}:∀{ts:List Tr},(∀t∈ts,t.ne B≤n)→nes B ts≤n
 | [],_=>by rw[nes];omega
 |t::ts,h=>by
  rw[nes];have:=h t (by simp);have:=zit λu hu=>h u (aI _ hu);omega
mutual
theorem ziG (hB:∀t∈B,zdf t.1) {us:List Tr}:∀t:Tr,t.hb zcU→(t.fill us).ne B≤nes B us
 | .bl n,_=>by
  rw[Tr.fill,bv];cases e:us[n.toNat]? with
  |none=>simp [Tr.ne]
  |some u=>exact zme (aR e)
 | .nd s ts,h=>by
  rw[Tr.hb]at h;rw[Tr.fill,Tr.ne,zaX hB h.1];have:=znx hB (us:=us) ts h.2;simpa using this
theorem znx (hB:∀t∈B,zdf t.1) {us:List Tr}:∀ts:List Tr,hbs zcU ts→nes B (fills us ts)≤nes B us
 | [],_=>by rw[fills,nes];omega
 |t::ts,h=>by
  rw[hbs]at h;rw[fills,nes];have:=ziG hB (us:=us) t h.1;have:=znx hB (us:=us) ts h.2;omega
end
mutual
theorem zut:∀(L:Tr) (k m:Nat),L.ord k=ae m→ ∀(us:List Tr),m≤us.length→ ∀u∈(us.drop k).take (m - k),u.ne B≤(L.fill us).ne B
 | .bl n,k,m,h,us,hu,u,hm=>by
  rw[Tr.ord]at h;split at h
  ·rename_i hn;cases h;have hk:k<us.length:=by omega
   have e:(us.drop k).take (k+1 - k)=[us[k]]:=by
    rw[show k+1 - k=1 by omega,eS hk]
    rfl
   have f:(Tr.bl n).fill us=us[k]:=by
    rw[Tr.fill,hn,bW,bv,a_ hk];rfl
   rw[e,bz]at hm;rw[f,hm];exact ap _
  ·cases h
 | .nd s ls,k,m,h,us,hu,u,hm=>by
  rw[Tr.ord]at h;have:=zqs ls k m h us hu u hm;rw[Tr.fill,Tr.ne];omega
theorem zqs:∀(ls:List Tr) (k m:Nat),zog k ls=ae m→ ∀(us:List Tr),m≤us.length→ ∀u∈(us.drop k).take (m - k),u.ne B≤nes B (fills us ls)
 | [],k,m,h,us,hu,u,hm=>by
  rw[zog]at h;cases h;rw[gQ,gC]at hm;cases hm
 |l::ls,k,m,h,us,hu,u,hm=>by
  rw[zog]at h;cases q:l.ord k with
  |none=>rw[q]at h;cases h
  |some j=>
   rw[q]at h;obtain⟨h1,_,_⟩:=zja l k j q;obtain⟨g1,_,_⟩:=zfw ls j m h;have e:(us.drop k).take (m - k)=(us.drop k).take (j - k)++(us.drop j).take (m - j):=by
    rw[show m - k=(j - k)+(m - j) by omega,i5,jm,show k+(j - k)=j by omega]
   rw[e]at hm;rw[fills,nes];rcases bp.mp hm with hm |hm
   ·have:=zut l k j q us (by omega) u hm;omega
   ·have:=zqs ls j m h us hu u hm;omega
end
theorem Ort.ne (O:Ort B) {t:Tn}(ht:t∈B) {us:List Tr}(hl:us.length=t.2.1.nb):nes B us≤(t.2.1.fill us).ne B:=zit λu hu=>by
 refine zut _ _ _ (O.od t ht) us (by omega) u ?_;rw[eM,cG,du (by omega)];exact hu
theorem zpu{c:Int→Nat}{p:Pl}{ps:List Pl}(hp:p∈ps):(p.ev B c).ne B≤nes B (ps.map (Pl.ev B c)):=zme (aG.mpr ⟨p,hp,rfl⟩)
theorem zvs{c d:Int→Nat}(b:BkOk ws ws B) (O:Ort B) (hc:One c) (hd:One d) {p:Pl}(h:PlOk ws B p):(p.ev B (zjp c d)).ne B≤(p.ev B c).ne B:=by
 induction h with
 | @sign b' h ps hh hp ih=>
  have:nes B (ps.map (Pl.ev B (zjp c d)))≤nes B (ps.map (Pl.ev B c)):=zit λu hu=>by
   obtain⟨p,hp,rfl⟩:=aG.mp hu;exact a9 (ih p hp) (zpu hp)
  have e:=zaX b.ti (b.sg h hh);rw[zaR,zaR,Tr.ne,Tr.ne,e];simpa using this
 | @turn k b' h ps t e hl b0 b1 hp ih=>
  have ht:t∈B:=aR e;have key:nes B (ps.map (Pl.ev B (zjp c d)))≤nes B (ps.map (Pl.ev B c)):=zit λu hu=>by
   obtain⟨p,hp,rfl⟩:=aG.mp hu;exact a9 (ih p hp) (zpu hp)
  have l1:(ps.map (Pl.ev B c)).length=t.2.1.nb:=by rw[ax,hl]
  have low:nes B (ps.map (Pl.ev B c))+c b'≤(evT t (c b') (ps.map (Pl.ev B c))).ne B:=by
   have:=hc b' b0 b1;by_cases h1:c b'=1
   ·rw[h1];show _≤(Tr.nd t.1 _).ne B;rw[Tr.ne,zca b.nd ht];show _≤1+_;omega
   ·rw[show c b'=0 by omega]
    exact O.ne ht l1
  rw[zaG e,zaG e];refine a9 ?_ low;have hp:zjp c d b'=if d b'=1 then 2 else c b':=rfl;rw[hp];by_cases dz:d b'=1
  ·rw[if_pos dz];have:=ziG b.ti (us:=ps.map (Pl.ev B (zjp c d))) t.2.2 ((b.ri t ht).hb b.sg);show(t.2.2.fill _).ne B≤_;omega
  ·rw[if_neg dz];have:=hc b' b0 b1;by_cases h1:c b'=1
   ·rw[h1];show(Tr.nd t.1 _).ne B≤_;rw[Tr.ne,zca b.nd ht];show 1+_≤_;omega
   ·rw[show c b'=0 by omega]
    have:=ziG b.ti (us:=ps.map (Pl.ev B (zjp c d))) t.2.1 (b.lf t ht).hb;show(t.2.1.fill _).ne B≤_;omega
end
mutual
theorem Mv.one{B:List Tn}:∀{n m:Nat}{a b c d:Tr},Mv B n a b c→Mv B m a b d→c=d
 |_,_,_,_,_,_, .nn h1 h2 h3,g=>by
  cases g with
  |nn g1 g2 g3=>rw[Mvs.one h3 g3]
  |ns g1 g2 g3 g4 g5=>rw[h2]at g2;cases g2
  |sn g1 g2 g3 g4=>rw[h1]at g1;cases g1
  |ss g1 g2 g3 g4=>rw[h1]at g1;cases g1
 |_,_,_,_,_,_, .ns h1 h2 h3 h4 h5,g=>by
  cases g with
  |nn g1 g2 g3=>rw[h2]at g2;cases g2
  |ns g1 g2 g3 g4 g5=>
   rw[h2]at g2;cases g2;rw[h3]at g3;cases g3;rw[Mvs.one h5 g5]
  |sn g1 g2 g3 g4=>rw[h1]at g1;cases g1
  |ss g1 g2 g3 g4=>rw[h1]at g1;cases g1
 |_,_,_,_,_,_, .sn h1 h2 h3 h4,g=>by
  cases g with
  |nn g1 g2 g3=>rw[h1]at g1;cases g1
  |ns g1 g2 g3 g4 g5=>rw[h1]at g1;cases g1
  |sn g1 g2 g3 g4=>
   rw[h1]at g1;cases g1;rw[h3]at g3;cases g3;rw[Mvs.one h4 g4]
  |ss g1 g2 g3 g4=>rw[h2]at g2;cases g2
 |_,_,_,_,_,_, .ss h1 h2 h3 h4,g=>by
  cases g with
  |nn g1 g2 g3=>rw[h1]at g1;cases g1
  |ns g1 g2 g3 g4 g5=>rw[h1]at g1;cases g1
  |sn g1 g2 g3 g4=>rw[h2]at g2;cases g2
  |ss g1 g2 g3 g4=>
   rw[h2]at g2;cases g2;rw[Mvs.one h4 g4]
theorem Mvs.one{B:List Tn}:∀{n m:Nat}{a b c d:List Tr},Mvs B n a b c→Mvs B m a b d→c=d
 |_,_,_,_,_,_, .nil,g=>by
  cases g;rfl
 |_,_,_,_,_,_, .cons h1 h2,g=>by
  cases g with
  |cons g1 g2=>rw[Mv.one h1 g1,Mvs.one h2 g2]
end
open Classical in
noncomputable def res (B:List Tn) (x y:Tr):Tr:=if h:∃z n,Mv B n x y z then choose h else x
theorem Mv.res{B:List Tn}{n:Nat}{x y z:Tr}(h:Mv B n x y z):res B x y=z:=by
 unfold L2.res;have e:∃z n,Mv B n x y z:=⟨z,n,h⟩;rw[dif_pos e];obtain⟨m,h'⟩:=Classical.choose_spec e;exact Mv.one h' h
structure Bk3 (ws:List Str) (B:List Tn):Prop where
  b:BkOk ws ws B
  O:Ort B
  lw:∀t∈B,t.2.1.hb λs=>s∈ws
structure Bk2 (ws:List Str) (B:List Tn):Prop extends Bk3 ws B where
  sl:zBS B
instance {ws:List Str}{B:List Tn}:Coe (Bk2 ws B) (Bk3 ws B):=⟨Bk2.toBk3⟩
section
variable {ws:List Str}{B:List Tn}{x y:Tr}{p:Pl}
theorem Bk3.wy (K:Bk3 ws B) {c:Int→Nat}{p:Pl}(h:PlOk ws B p):Wy ws B (p.ev B c):=by
 refine⟨?_,zwp _ (zuk K.b h)⟩
 induction h with
 | @sign b' h ps hh hp ih=>
  rw[zaR,Tr.hd,hds_iff];refine⟨.inl hh,λu hu=>?_⟩;obtain⟨p,hp,rfl⟩:=aG.mp hu;exact ih p hp
 | @turn k b' h ps t e hl b0 b1 hp ih=>
  have ht:t∈B:=aR e;have hu:∀u∈ps.map (Pl.ev B c),u.hd λs=>s∈ws∨ ∃t∈B,t.1=s:=λu hu=>by
   obtain⟨p,hp,rfl⟩:=aG.mp hu;exact ih p hp
  rw[zaG e];unfold evT;split
  ·exact zhg hu _ (ziV (λs hs=> .inl hs) _ (K.lw t ht)) (by rw[ax,hl];exact(K.b.lf t ht).fits)
  ·rw[Tr.hd,hds_iff];exact⟨.inr ⟨t,ht,rfl⟩,hu⟩
  ·exact zhg hu _ ((K.b.ri t ht).hb (λs hs=> .inl hs)) (by rw[ax,hl];exact(K.b.ri t ht).fits)
theorem zxm (x:Int) (h:zwD x):byC 1 x=1∨byC 2 x=1:=by
 rcases h with rfl |rfl |rfl
 ·exact .inl (by decide)
 ·exact .inr (by decide)
 ·exact .inl (by decide)
theorem PlB.imp{P Q:Int→Prop}(h:∀x,P x→Q x) {p:Pl}(hp:PlB P p):PlB Q p:=by
 induction hp with
 |sign _ ih=>exact .sign ih
 |turn hb _ ih=>exact .turn (h _ hb) ih
structure Two (ws:List Str) (B:List Tn) (x y:Tr):Prop where
  K:Bk3 ws B
  ex:∃p c d,Pk ws ws B p∧One c∧One d∧p.ev B c=x∧p.ev B d=y
theorem Two.symm (h:Two ws B x y):Two ws B y x:=by
 obtain⟨p,c,d,k,hc,hd,e1,e2⟩:=h.ex;exact⟨h.K,p,d,c,k,hd,hc,e2,e1⟩
structure Moved (ws:List Str) (B:List Tn) (x y z:Tr):Prop where
  wy:Wy ws B z
  sr:src B z=gol B y
  go:gol B z=gol B (res B y x)
  ne:z.ne B≤x.ne B
theorem Two.moved (h:Two ws B x y):Moved ws B x y (res B x y):=by
 obtain⟨p,c,d,k,hc,hd,rfl,rfl⟩:=h.ex;have m1:=(zhJ (c:=c) (d:=d) k.b k.m (zgW hc hd) k.o).res;have m2:=(zhJ (c:=d) (d:=c) k.b k.m (zgW hd hc) k.o).res;rw[m1];refine⟨h.K.wy k.o,?_,?_,zvs h.K.b h.K.O hc hd k.o⟩
 ·show(p.ev B (zjp c d)).mk B (λt=>t.2.1)=(p.ev B d).mk B λt=>t.2.2;rw[zfF k.b k.o,zec k.b k.o];refine zgf k.o λx h0 h1=>?_;have a:=hc x h0 h1;have b:=hd x h0 h1;unfold zgD zck zjp;generalize c x=m at a⊢;generalize d x=n at b⊢;obtain rfl |rfl:m=0∨m=1:=by omega
  all_goals obtain rfl |rfl:n=0∨n=1:=by omega
  all_goals rfl
 ·rw[m2];show(p.ev B (zjp c d)).mk B (λt=>t.2.2)=(p.ev B (zjp d c)).mk B λt=>t.2.2;rw[zec k.b k.o,zec k.b k.o];refine zgf k.o λx h0 h1=>?_;have a:=hc x h0 h1;have b:=hd x h0 h1;unfold zck zjp;generalize c x=m at a⊢;generalize d x=n at b⊢;obtain rfl |rfl:m=0∨m=1:=by omega
  all_goals obtain rfl |rfl:n=0∨n=1:=by omega
  all_goals rfl
end
section
variable {ws:List Str}{B:List Tn}{x t:Tr}
structure Bd (t:Tr) (n:Nat):Prop where
  w:2 ^ n*t.weight≤400
  d:t.depth+3*n≤40
theorem zzO (b:BkOk ws ws B) {p:Pl}(h:PlOk ws B p):(p.ev B zr).ne B=0:=by
 induction h with
 | @sign b' h ps hh hp ih=>
  have:nes B (ps.map (Pl.ev B zr))≤0:=zit λu hu=>by
   obtain⟨p,hp,rfl⟩:=aG.mp hu;rw[ih p hp];exact ap _
  have e:=zaX b.ti (b.sg h hh);rw[zaR,Tr.ne,e];show 0+_=0;omega
 | @turn k b' h ps t e hl b0 b1 hp ih=>
  have ht:t∈B:=aR e;have:nes B (ps.map (Pl.ev B zr))≤0:=zit λu hu=>by
   obtain⟨p,hp,rfl⟩:=aG.mp hu;rw[ih p hp];exact ap _
  have:=ziG b.ti (us:=ps.map (Pl.ev B zr)) t.2.1 (b.lf t ht).hb;rw[zaG e];show(t.2.1.fill _).ne B=0;omega
theorem zCl:∀x:Int,0≤x→x<8→zr x=byC 8 x:=λx h0 h8=>(ztm x h0 h8).symm
theorem Bk3.src (K:Bk3 ws B) (h:Wy ws B x):Wy ws B (src B x)∧L2.src B (src B x)=L2.src B x∧(L2.src B x).ne B=0∧gol B (L2.src B x)=L2.src B x:=by
 obtain⟨p,hp,_,rfl,_⟩:=zsJ K.b K.O _ x x (ap _) h h rfl;have e:L2.src B (p.ev B (byC 1))=p.ev B zr:=by
  show(p.ev B (byC 1)).mk B (λt=>t.2.1)=_;rw[zfF K.b hp];exact zgf hp (zgt 1).src
 rw[e];refine⟨K.wy hp,?_,zzO K.b hp,?_⟩
 ·show(p.ev B zr).mk B (λt=>t.2.1)=_;rw[zfF K.b hp];rfl
 ·show(p.ev B zr).mk B (λt=>t.2.2)=_;rw[zec K.b hp];rfl
theorem Bk3.gol (K:Bk3 ws B) (h:Wy ws B x):Wy ws B (gol B x)∧L2.src B (L2.gol B x)=L2.gol B x∧(L2.gol B x).ne B=0∧L2.gol B (L2.gol B x)=L2.gol B x:=by
 obtain⟨p,hp,_,rfl,_⟩:=zsJ K.b K.O _ x x (ap _) h h rfl;have e:L2.gol B (p.ev B (byC 1))=p.ev B (zck (byC 1)):=zec K.b hp;have tg:∀x,zck (byC 1) x≠1:=λx=>by unfold zck;split<;>omega
 have s:L2.src B (p.ev B (zck (byC 1)))=p.ev B (zck (byC 1)):=by
  show(p.ev B (zck (byC 1))).mk B (λt=>t.2.1)=_;rw[zfF K.b hp];exact zgf hp λb _ _=>by rw[zgD,if_neg (tg b)]
 have w:Wy ws B (p.ev B (zck (byC 1))):=K.wy hp;rw[e];refine⟨w,s,?_,?_⟩
 ·have:=(K.src w).2.2.1;rwa [s]at this
 ·have:=(K.src w).2.2.2;rwa [s]at this
end
section
variable {ws:List Str}{B:List Tn}{x y:Tr}{S:Sto}{a:Addr}{r:Nat}{Q:WK}{E:Str→Sto→Prop}
theorem Two.ok_move (h:Two ws B x y) (ha:S a=ae (.lst (B.map zaY))) (hr:60≤r) (q:Q (enc (res B x y)) S):zdc (r+1) [.ref a,enc x,enc y] S Q E:=by
 obtain⟨p,c,d,k,hc,hd,rfl,rfl⟩:=h.ex;have m:=(zhJ (c:=c) (d:=d) k.b k.m (zgW hc hd) k.o).res;rw[m]at q;exact k.ok_move (zgW hc hd) ha hr q
theorem Two.ok_goal (h:Two ws B x y) (ha:S a=ae (.lst (B.map zaY))) (hr:60≤r) (q:Q (enc (L2.gol B x)) S):zfx (r+1) [.ref a,enc x] S Q E:=by
 obtain⟨p,c,d,k,hc,hd,rfl,rfl⟩:=h.ex;rw[show L2.gol B (p.ev B c)=_ from zec k.b k.o]at q;exact k.ok_goal ha hr q
theorem Two.ok_made1 (h:Two ws B x y) (ha:S a=ae (.lst (B.map zaY))) (hr:60≤r) (q:Q (enc (L2.src B x)) S):zaQ (r+1) [.ref a,enc x, .int 1] S Q E:=by
 obtain⟨p,c,d,k,hc,hd,rfl,rfl⟩:=h.ex;rw[show L2.src B (p.ev B c)=_ from zfF k.b k.o]at q;exact k.ok_made1 ha hr q
theorem Two.ok_made2 (h:Two ws B x y) (ha:S a=ae (.lst (B.map zaY))) (hr:60≤r) (q:Q (enc (L2.gol B x)) S):zaQ (r+1) [.ref a,enc x, .int 2] S Q E:=by
 obtain⟨p,c,d,k,hc,hd,rfl,rfl⟩:=h.ex;rw[show L2.gol B (p.ev B c)=_ from zec k.b k.o]at q;exact k.ok_made2 ha hr q
end
noncomputable def zlX (B:List Tn):Tr→List Tr→Tr
 |t,[]=>t
 |_,x::xs=>zlX B (gol B x) xs
noncomputable def Roa (ws:List Str) (B:List Tn):Tr→List Tr→Prop
 |_,[]=>True
 |t,x::xs=>Wy ws B x∧src B x=t∧Roa ws B (gol B x) xs
noncomputable def nR (B:List Tn):List Tr→Nat
 | []=>0
 |x::xs=>x.ne B+nR B xs
noncomputable def zdR (B:List Tn):Tr→List Tr→List Tr
 |x,[]=>[x]
 |x,o::os=>x::zdR B (res B x o) os
noncomputable def zgo (B:List Tn):Tr→List Tr→List Tr
 |_,[]=>[]
 |x,o::os=>res B o x::zgo B (res B x o) os
noncomputable def zgc (B:List Tn):Tr→List Tr→Tr
 |x,[]=>x
 |x,o::os=>zgc B (res B x o) os
noncomputable def zlu (B:List Tn):List Tr→List Tr→List (List Tr)
 | [],_=>[]
 |x::xs,os=>zdR B x os::zlu B xs (zgo B x os)
noncomputable def zmb (B:List Tn):List Tr→List Tr→List (List Tr)
 | [],os=>[os]
 |x::xs,os=>os::zmb B xs (zgo B x os)
noncomputable def zdP (B:List Tn):List Tr→List Tr→List Tr
 | [],_=>[]
 |x::xs,os=>zgc B x os::zdP B xs (zgo B x os)
noncomputable def zgE (B:List Tn):List Tr→List Tr→List Tr
 | [],os=>os
 |x::xs,os=>zgE B xs (zgo B x os)
section
variable {ws:List Str}{B:List Tn}
theorem znJ:∀(os:List Tr) (x:Tr),(zdR B x os).length=os.length+1
 | [],x=>rfl
 |o::os,x=>by rw[zdR,aO,znJ os];rfl
theorem ziJ:∀(os:List Tr) (x:Tr),(zgo B x os).length=os.length
 | [],x=>rfl
 |o::os,x=>by rw[zgo,aO,ziJ os];rfl
theorem zla:∀(os:List Tr) (x:Tr),(zdR B x os).getLast? =ae (zgc B x os)
 | [],x=>rfl
 |o::os,x=>by
  rw[zdR,List.getLast?_cons,zla os,zgc];rfl
theorem zgN:∀(xs os:List Tr),(zdP B xs os).length=xs.length
 | [],os=>rfl
 |x::xs,os=>by rw[zdP,aO,zgN xs];rfl
theorem znl:∀(xs os:List Tr),(zgE B xs os).length=os.length
 | [],os=>rfl
 |x::xs,os=>by rw[zgE,znl xs,ziJ]
inductive RowC (ws:List Str) (B:List Tn):Tr→List Tr→Prop
 |nil {x:Tr}:RowC ws B x []
 |cons {x o:Tr}{os:List Tr}:Two ws B x o→(∃y,Two ws B (res B x o) y)→RowC ws B (res B x o) os→RowC ws B x (o::os)
inductive Cells (ws:List Str) (B:List Tn):List Tr→List Tr→Prop
 |nil {os:List Tr}:Cells ws B [] os
 |cons {x:Tr}{xs os:List Tr}:RowC ws B x os→Cells ws B xs (zgo B x os)→Cells ws B (x::xs) os
end
theorem zfX{α β:Type}{R:α→β→Prop}:∀{xs:List α}{ys:List β}{xs':List α}{ys':List β},aP R xs ys→aP R xs' ys'→aP R (xs++xs') (ys++ys')
 |_,_,_,_, .nil,h=>h
 |_,_,_,_, .cons h1 h2,h=> .cons h1 (zfX h2 h)
theorem zcj{α β:Type}{R R':α→β→Prop}(f:∀x y,R x y→R' x y):∀{xs:List α}{ys:List β},aP R xs ys→aP R' xs ys
 |_,_, .nil=> .nil
 |_,_, .cons h1 h2=> .cons (f _ _ h1) (zcj f h2)
mutual
theorem zxM:∀(L t:Tr) (ms:List Tr) (p:List Int),L.mt t=ae ms→aP (λ(x:List Int×Tr) m=>∃e,x.1=p++e∧t.at e=ae m) ((L.plt p).filter λx=>x.2.isBl) ms
 | .bl n,t,ms,p,e=>by
  rw[Tr.mt]at e;cases e;rw[Tr.plt];exact .cons ⟨[],by simp,by rw[Tr.at]⟩ .nil
 | .nd s ls, .bl n,ms,p,e=>by rw[Tr.mt]at e;cases e
 | .nd s ls, .nd z us,ms,p,e=>by
  rw[Tr.mt]at e;split at e
  ·rename_i hc;rw[b6,beq_iff_eq,beq_iff_eq]at hc;rw[Tr.plt,jY (by simp [Tr.isBl])];refine zcj ?_ (ztC ls us ms p 0 hc.2 e);rintro x m ⟨j,e,u,h1,h2,h3⟩;refine⟨(j:Int)::e,by rw[h1,bO],?_⟩
   rw[Tr.at,if_neg (by omega),bW,h2];exact h3
  ·cases e
theorem ztC:∀(ls us ms:List Tr) (p:List Int) (i:Nat),ls.length=us.length→mts ls us=ae ms→aP (λ(x:List Int×Tr) m=>∃(j:Nat) (e:List Int) (u:Tr),x.1=p++((i+j:Nat):Int)::e∧us[j]? =ae u∧u.at e=ae m) ((zfO p i ls).filter λx=>x.2.isBl) ms
 | [],us,ms,p,i,hl,e=>by
  rw[mts]at e;cases e;rw[zfO];exact .nil
 |l::ls,[],ms,p,i,hl,e=>by cases hl
 |l::ls,u::us,ms,p,i,hl,e=>by
  rw[mts]at e;cases q1:l.mt u with
  |none=>rw[q1]at e;cases e
  |some xs=>
   rw[q1]at e;cases q2:mts ls us with
   |none=>rw[q2]at e;cases e
   |some zs=>
    rw[q2]at e;cases e;rw[zfO,iT];refine zfX (zcj ?_ (zxM l u xs _ q1)) (zcj ?_ (ztC ls us zs p (i+1) (by simpa using hl) q2))
    ·rintro x m ⟨e,h1,h2⟩;exact⟨0,e,u,by rw[h1];simp,rfl,h2⟩
    ·rintro x m ⟨j,e,v,h1,h2,h3⟩;exact⟨j+1,e,v,by rw[h1,show i+1+j=i+(j+1) by omega],by rw[cg];exact h2,h3⟩
end
theorem zyj{L t:Tr}{ms:List Tr}(h:L.mt t=ae ms):aP (λq m=>t.at q=ae m) (L.bls.map λx=>x.1) ms:=by
 have:=zxM L t ms [] h;clear h;unfold Tr.bls;generalize (L.plt []).filter (λx=>x.2.isBl)=xs at this⊢
 induction this with
 |nil=>exact .nil
 |cons h1 h2 ih=>
  obtain⟨e,h3,h4⟩:=h1;rw[ay];rw[aY]at h3;exact .cons (by rw[h3];exact h4) ih
noncomputable def cnt (wn:List (List Int)) (p:List Int):Nat:=wn.countP λq=>p.isPrefixOf q
theorem zqa (wn:List (List Int)) (p q:List Int):cnt wn (p++q)≤cnt wn p:=by
 unfold cnt;refine List.countP_mono_left λx _ h=>?_;obtain⟨e,rfl⟩:=b_.mp h;exact b_.mpr ⟨q++e,by simp⟩
theorem zuq:∀(wn:List (List Int)) (p:List Int) (i:Int) (q:List Int),p∈wn→cnt wn (p++i::q)+1≤cnt wn p
 |w::wn,p,i,q,h=>by
  unfold cnt;rw[eK,eK];have hs:=zqa wn p (i::q);unfold cnt at hs;rcases aA.mp h with rfl |h
  ·have h1:(p++i::q).isPrefixOf p=false:=by
    rw[Bool.eq_false_iff];intro z;obtain⟨e,z⟩:=b_.mp z;have:=congrArg db z;simp at this
   have h2:p.isPrefixOf p=true:=b_.mpr ⟨[],by simp⟩
   rw[h1,h2];simp;omega
  ·have ih:=zuq wn p i q h;unfold cnt at ih;have h3:(p++i::q).isPrefixOf w=true→p.isPrefixOf w=true:=λz=>by
    obtain⟨e,rfl⟩:=b_.mp z;exact b_.mpr ⟨i::q++e,by simp⟩
   by_cases z:(p++i::q).isPrefixOf w=true
   ·rw[if_pos z,if_pos (h3 z)];omega
   ·rw[if_neg z];omega
theorem zlM{B:List Tn}:∀{ts:List Tr},(∀t∈ts,t.ar B)→ars B ts
 | [],_=>by rw[ars];trivial
 |t::ts,h=>by rw[ars];exact⟨h t (by simp),zlM λu hu=>h u (aI _ hu)⟩
structure Sh (ws:List Str) (B:List Tn) (t:Tr):Prop where
  wy:Wy ws B t
  q:src B t=t
section
variable {ws:List Str}{B:List Tn}
theorem Sh.cases (K:Bk3 ws B) {t:Tr}(h:Sh ws B t):∃s ts,t= .nd s ts∧s∈ws∧zaN B s=none∧ ∀x∈ts,Sh ws B x:=by
 rcases h.wy.cases K.b with⟨s,ts,rfl,hs,e,k⟩ |⟨u,ts,hu,rfl,e,hl,k⟩
 ·have q:=h.q;rw[show src B (.nd s ts)=_ from zem e]at q;injection q with _ q;refine⟨s,ts,rfl,hs,e,λx hx=>⟨k x hx,?_⟩⟩;obtain⟨i,hi,rfl⟩:=jc hx;have:=congrArg (λl=>l[i]?) q;simp only[bj,a_ hi]at this;exact aH this
 ·have q:=h.q;rw[show src B (.nd u.1 ts)=_ from zdA e]at q;obtain⟨s0,l0,e0,_⟩:=K.O.inn u hu;have hb:=(K.b.lf u hu).hb;rw[e0,Tr.hb]at hb;rw[e0,Tr.fill]at q;injection q with q _;exact absurd q (zeJ hb.1 (K.b.ti u hu))
theorem Sh.parts (K:Bk3 ws B) {t:Tr}(h:Sh ws B t) {u:Tn}(hu:u∈B) {ms:List Tr}(e:u.2.1.mt t=ae ms):t=u.2.1.fill ms∧ms.length=u.2.1.nb∧ ∀x∈ms,Sh ws B x:=by
 obtain⟨h1,h2⟩:=K.O.fm u hu _ _ e;refine⟨h1,h2,λx hx=>⟨zva _ _ _ e h.wy x hx,?_⟩⟩;have q:=h.q;rw[h1,show src B (u.2.1.fill ms)=_ from zmx K.b hu h2 _]at q;have m1:=K.O.mt u hu ms h2;have m2:=K.O.mt u hu (ms.map (src B)) (by rw[ax,h2]);rw[show u.2.1.fill (ms.map (src B))=_ from q,m1]at m2;have q:=aH m2;obtain⟨i,hi,rfl⟩:=jc hx;have:=congrArg (λl=>l[i]?) q;simp only[bj,a_ hi]at this;exact(aH this).symm
def zwE (B:List Tn) (wn:List (List Int)) (p:List Int) (t:Tr):Prop:=∀q∈wn,∀e v,q=p++e→t.at e=ae v→(zeM B v).isSome=true
theorem zxd{s:Str}{ts:List Tr}{i:Nat}{u:Tr}(h:ts[i]? =ae u) (e:List Int):(Tr.nd s ts).at ((i:Int)::e)=u.at e:=by
 rw[Tr.at,if_neg (by omega),bW,h]
theorem zrL{wn:List (List Int)}{n:Nat}{p:List Int}{c:Nat}(ih:∀(t:Tr) (p:List Int),t.depth≤n→Sh ws B t→zwE B wn p t→ ∃u,Wi B wn n p t u∧src B u=t∧Wy ws B u∧u.ne B≤cnt wn p) :
  ∀{qs:List (List Int)}{ts:List Tr},aP (λq t=>t.depth≤n∧Sh ws B t∧zwE B wn (p++q) t∧cnt wn (p++q)≤c) qs ts→ ∃us,Wis B wn n p qs ts us∧us.map (src B)=ts∧(∀u∈us,Wy ws B u)∧nes B us≤c
 |_,_, .nil=>⟨[], .nil,rfl,by simp,by rw[nes];omega⟩
 |_,_, .cons ⟨h1,h2,h3,h4⟩ h=>by
  obtain⟨u,w,e,y,k⟩:=ih _ _ h1 h2 h3;obtain⟨us,ws',es,ys,ks⟩:=zrL ih h;refine⟨u::us, .cons w ws',by rw[ay,e,es],λv hv=>?_,by rw[nes];omega⟩
  rcases aA.mp hv with rfl |hv
  ·exact y
  ·exact ys v hv
theorem zvw (K:Bk3 ws B) {wn:List (List Int)}:∀(n:Nat) (t:Tr) (p:List Int),t.depth≤n→Sh ws B t→zwE B wn p t→ ∃u,Wi B wn n p t u∧src B u=t∧Wy ws B u∧u.ne B≤cnt wn p
 |0,t,p,hd,h,_=>by
  obtain⟨s,ts,rfl,_⟩:=h.cases K;rw[Tr.depth]at hd;omega
 |n+1,t,p,hd,h,hw=>by
  obtain⟨s,ts,rfl,hs,e,k⟩:=h.cases K;rw[Tr.depth]at hd;by_cases hp:p∈wn
  ·have ho:=hw p hp [] (.nd s ts) (by simp) (by rw[Tr.at]);obtain⟨u,ho⟩:=dO.mp ho;have hu:u∈B:=cx ho;have hm:(u.2.1.mt (.nd s ts)).isSome=true:=by simpa using jp ho
   obtain⟨ms,hm⟩:=dO.mp hm;obtain⟨f1,f2,f3⟩:=h.parts K hu hm;have ba:=zyj hm;have hdm:∀y∈ms,y.depth≤n:=λy hy=>by
    obtain⟨s0,l0,e0,_⟩:=K.O.inn u hu;rw[e0,Tr.mt]at hm;split at hm
    ·have:=znB _ _ _ hm y hy;omega
    ·cases hm
   have hne:∀q∈u.2.1.bls.map (λx=>x.1),∃i e,q=i::e:=λq hq=>by
    obtain⟨z,hz,rfl⟩:=aG.mp hq;obtain⟨h1,h2,_⟩:=zhH hz;cases hq:z.1 with
    |nil=>
     rw[hq,Tr.at]at h1;have h3:u.2.1=z.2:=aH h1;obtain⟨s0,l0,e0,_⟩:=K.O.inn u hu;rw[←h3,e0]at h2;cases h2
    |cons i is=>exact⟨i,is,rfl⟩
   have pr:∀{qs:List (List Int)}{xs:List Tr},(∀q∈qs,∃i e,q=i::e)→(∀x∈xs,x.depth≤n∧Sh ws B x)→aP (λq m=>(Tr.nd s ts).at q=ae m) qs xs→aP (λq t=>t.depth≤n∧Sh ws B t∧zwE B wn (p++q) t∧cnt wn (p++q)≤cnt wn p - 1) qs xs:=by
    intro qs xs h1 h2 h3
    induction h3 with
    |nil=>exact .nil
    | @cons q m qs xs h4 _ ih=>
     obtain⟨i,e,rfl⟩:=h1 q (by simp);obtain⟨g1,g2⟩:=h2 m (by simp);refine .cons ⟨g1,g2,λq' hq' e' v' h5 h6=>hw q' hq' (i::e++e') v' (by rw[h5];simp) (by rw[zqy _ e' h4];exact h6),?_⟩ (ih (λq hq=>h1 q (aI _ hq)) λx hx=>h2 x (aI _ hx));have:=zuq wn p i e hp;omega
   obtain⟨us,wi,es,ys,ks⟩:=zrL (zvw K n) (pr hne (λx hx=>⟨hdm x hx,f3 x hx⟩) ba);have et:=zca K.b.nd hu;have lu:us.length=u.2.1.nb:=by rw[←f2,←es,ax]
   refine⟨.nd u.1 us, .yes hp ho hm et wi,?_,⟨?_,?_⟩,?_⟩
   ·rw[show src B (.nd u.1 us)=_ from zdA et,es,f1]
   ·rw[Tr.hd,hds_iff];exact⟨.inr ⟨u,hu,rfl⟩,λx hx=>(ys x hx).hd⟩
   ·rw[Tr.ar];refine⟨λt ht=>?_,zlM λx hx=>(ys x hx).ar⟩;rw[et]at ht;cases ht;exact lu
   ·rw[Tr.ne,et];have h1:1≤cnt wn p:=by
     unfold cnt;exact List.countP_pos_iff.mpr ⟨p,hp,b_.mpr ⟨[],by simp⟩⟩
    show 1+_≤_;omega
  ·have pr:∀(i:Nat) (xs:List Tr),(∀(j:Nat) x,xs[j]? =ae x→ts[i+j]? =ae x)→aP (λq t=>t.depth≤n∧Sh ws B t∧zwE B wn (p++q) t∧cnt wn (p++q)≤cnt wn p) ((List.range' i xs.length).map λ(i:Nat)=>[(i:Int)]) xs:=by
    intro i xs
    induction xs generalizing i with
    |nil=>intro _;exact .nil
    |cons x xs ih=>
     intro hx;have hi:=hx 0 x rfl;rw[c_]at hi;have hm:x∈ts:=aR hi;have hdx:=zbq hm;rw[aO,List.range'_succ,ay];refine .cons ⟨by omega,k x hm,λq' hq' e' v' h5 h6=>hw q' hq' ((i:Int)::e') v' (by rw[h5];simp) (by rw[zxd hi];exact h6),zqa wn p _⟩ (ih (i+1) λj y hy=>?_);have:=hx (j+1) y (by rw[cg];exact hy);rw[show i+1+j=i+(j+1) by omega]
     exact this
   have pr0:=pr 0 ts λj x h=>by rw[bO];exact h
   rw[←List.range_eq_range']at pr0;obtain⟨us,wi,es,ys,ks⟩:=zrL (zvw K n) pr0;refine⟨.nd s us, .no hp e wi,?_,⟨?_,?_⟩,?_⟩
   ·rw[show src B (.nd s us)=_ from zem e,es]
   ·rw[Tr.hd,hds_iff];exact⟨.inl hs,λx hx=>(ys x hx).hd⟩
   ·rw[Tr.ar];exact⟨λt ht=>(by rw[e]at ht;cases ht),zlM λx hx=>(ys x hx).ar⟩
   ·rw[Tr.ne,e];show 0+_≤_;omega
end
theorem zqU{B:List Tn}:∀(ps:List Pl),(∀p∈ps,(p.ev B zr).weight≤p.wt+2*p.nt)→wts (ps.map (Pl.ev B zr))≤pwts ps+2*pnts ps
 | [],_=>by simp [wts]
 |p::ps,h=>by
  have h1:=h p aV;have h2:=zqU ps λq hq=>h q (aI _ hq);rw[ay,wts,pwts,pnts];omega
theorem zqd{ws hs:List Str}{B:List Tn}(b:BkOk ws hs B) {p:Pl}(h:PlOk hs B p):(p.ev B zr).weight≤p.wt+2*p.nt:=by
 induction h with
 | @sign b' h ps hh hp ih=>
  have:=zqU ps ih;rw[zaR,Tr.weight,Pl.wt,Pl.nt,if_pos (by decide)];omega
 | @turn k b' h ps t e hl b0 b1 hp ih=>
  have ht:t∈B:=aR e;have:=zqU ps ih;have:=(b.lf t ht).fw (ps.map (Pl.ev B zr)) (by rw[ax,hl]);rw[zaG e,Pl.wt,Pl.nt,if_neg (by omega)];show(t.2.1.fill _).weight≤_;omega
theorem PlOk.sub{ws hs:List Str}{B:List Tn}(h:∀x∈hs,x∈ws) {p:Pl}(hp:PlOk hs B p):PlOk ws B p:=by
 induction hp with
 |sign h1 _ ih=>exact .sign (h _ h1) ih
 |turn e hl b0 b1 _ ih=>exact .turn e hl b0 b1 ih
section
variable {ws:List Str}{B:List Tn}{a l q:Addr}{r:Nat}{E:WX}{D:WEnds}
theorem zpC{S:Sto}{G:Sto→Prop}(hG:G S) (ha:S a=ae (.lst (B.map zaY))) (hr:60≤r):∀(xs:List Tr) (y1 y2:Option W),(∀x∈xs,∃y,Two ws B x y)→(∀z,D.nx [ae (.ref a),y1,z] S)→forL (wGN 2) (zdj (r+1) zaU) E D G (xs.map enc) [ae (.ref a),y1,y2] S
 | [],y1,y2,_,h=>h y2
 |x::xs,y1,y2,hx,h=>by
  rw[ay];refine zbp λN hN=>?_;rw[zgX,zdj];walk_at "wd";obtain⟨y,h2⟩:=hx x (by simp);exact h2.ok_goal ha (by omega) (hN _ _ _ .refl hG (zpC hG ha hr xs y1 _ (λz hz=>hx z (aI _ hz)) h))
theorem zdS{S:Sto}{xs:List Tr}{Q:WK}{X:Str→Sto→Prop}(ha:S a=ae (.lst (B.map zaY))) (hl:S l=ae (.lst (xs.map enc))) (hx:∀x∈xs,∃y,Two ws B x y) (hr:60≤r) (h:Q .non S):zbu (r+2) [.ref a, .ref l] S Q X:=by
 rw[show r+2=r+1+1 from rfl,zbu];walk_at "wd";rw[zaj hl];exact zpC hl ha hr xs _ _ hx λz=>⟨_, .refl,h⟩
theorem zmk{α:Type}(xs:List α) (x:α):atI (xs++[x]) (-1)=ae x:=by
 unfold atI ixN;rw[if_neg (by decide),aM,bF];rw[if_pos (by omega)];show(xs++[x])[_]? =ae x;rw[show((-1+((xs.length+1:Nat):Int)).toNat)=xs.length by omega,List.getElem?_concat_length]
theorem zAN{S:Sto}{T:WS}{x y:Tr}{xs:List W}{y1 y2 y5:Option W}(ha:S a=ae (.lst (B.map zaY))) (hq:S q=ae (.lst (xs++[enc x]))) (h2:Two ws B x y) (hr:61≤r) (h:T E D [ae (.ref a),y1,y2,ae (.ref q),ae (enc y),ae (enc (res B x y))] S) :
  zbD r T E D [ae (.ref a),y1,y2,ae (.ref q),ae (enc y),y5] S:=by
 rw[zbD];walk_at "wd";rw[zaj hq,zmk];obtain⟨r,rfl⟩:∃r',r=r'+1:=⟨r - 1,by omega⟩
 exact h2.ok_move ha (by omega) h
theorem zzJ{S:Sto}{T:WS}{x:Tr}{y1 y2 y3 y4:Option W}(ha:S a=ae (.lst (B.map zaY))) (h2:∃y,Two ws B x y) (hr:62≤r) (h:∀S',Sub S S'→T E D [ae (.ref a),y1,y2,y3,y4,ae (enc x)] S') :
  zbz r T E D [ae (.ref a),y1,y2,y3,y4,ae (enc x)] S:=by
 rw[zbz];walk_at "wd";refine⟨by decide,λt ht=>?_⟩;obtain⟨r,rfl⟩:∃r',r=r'+2:=⟨r - 2,by omega⟩
 exact zdS (xs:=[x]) (keep ha ht) zag (λz hz=>by rw[bz.mp hz];exact h2) (by omega) (h _ (.put .refl ht))
theorem zAD{S:Sto}{x:Tr}{xs:List W}{y1 y2 y3 y4:Option W}(hq:S q=ae (.lst xs)) (hl:xs.length≤1000) (h:D.nx [y1,y2,y3,ae (.ref q),y4,ae (enc x)] (put S q (.lst (xs++[enc x])))) :
  zbF r E D [y1,y2,y3,ae (.ref q),y4,ae (enc x)] S:=by
 rw[zbF];walk_at "wd";rw[zaj hq,zaj hq];exact⟨trivial,zbK (by omega),h⟩
theorem zpk{S0:Sto}{G:Sto→Prop}(ha:S0 a=ae (.lst (B.map zaY))) (h0:S0 q=none) (hG:∀S,Sub S0 S→G S) (hr:62≤r):∀(os:List Tr) {x:Tr},RowC ws B x os→ ∀(xs:List W) {S:Sto}{y1 y2 y4 y5:Option W},xs.length+os.length≤900→Sub S0 S→S q=ae (.lst (xs++[enc x]))→
  (∀S' y4 y5,Sub S0 S'→S' q=ae (.lst (xs++(zdR B x os).map enc))→D.nx [ae (.ref a),y1,y2,ae (.ref q),y4,y5] S')→
  forL (wGN 4) (zcA r zaU) E D G (os.map enc) [ae (.ref a),y1,y2,ae (.ref q),y4,y5] S
 | [],x,_=>λxs S y1 y2 y4 y5 hl sb hq h=>h S _ _ sb hq
 |o::os,x, .cons h2 h3 hc=>by
  intro xs S y1 y2 y4 y5 hl sb hq h;rw[ay];rw[aO]at hl;refine zbp λN hN=>?_;rw[zgX,zcA];refine zAN (sb _ _ ha) hq h2 (by omega) ?_;refine zzJ (sb _ _ ha) h3 hr λS1 s1=>?_;refine zAD (s1 _ _ hq) (by rw[aM,bF];omega) ?_;have sb2:Sub S0 (put S1 q (.lst (xs++[enc x]++[enc (res B x o)]))):= .put (sb.trans s1) h0;refine hN _ _ _ .refl (hG _ sb2) (zpk ha h0 hG hr os hc (xs++[enc x]) (by rw[aM,bF];omega) sb2 zag λS' z4 z5 s' hq'=>?_);refine h S' z4 z5 s' ?_;rw[hq',zdR,ay];simp
theorem zji{S:Sto}{x:Tr}{os:List Tr}{Q:WK}{X:Str→Sto→Prop}(ha:S a=ae (.lst (B.map zaY))) (hl:S l=ae (.lst (os.map enc))) (hc:RowC ws B x os) (hn:os.length≤800) (hr:62≤r)
  (h:∀S' q,Sub S S'→S q=none→S' q=ae (.lst ((zdR B x os).map enc))→Q (.ref q) S'):zcw (r+1) [.ref a,enc x, .ref l] S Q X:=by
 rw[zcw,zhf];refine⟨rfl,?_⟩;rw[zcp];walk_at "wd";refine⟨by decide,λq hq=>?_⟩;rw[zcz];walk_at "wd";rw[zaj (keep hl hq)];refine zpk ha hq (λS' sb=>sb _ _ hl) hr os (x:=x) hc [] (by simp;omega) (.put .refl hq) zag λS' y4 y5 sb hq'=>?_;rw[zcC];walk_at "wd";exact⟨_, .refl,h S' q sb hq (by rw[hq',aY])⟩
end
theorem zei{S:Sto}{t:Tr}(h:t.depth≤57):eqF S 60 (enc t) (enc t)=ae true:=by
 rw[zvj 60 _ _ (by omega),zoX]
structure At (S0 S:Sto) (d o b:Addr) (xs:List Tr):Prop where
  d:b≠d
  o:b≠o
  e:S b=ae (.lst (xs.map enc))
  z:S0 b=none
theorem zfs{S0 S:Sto}{q:Addr}(s:Sub S0 S) (h:S q=none):S0 q=none:=by
 cases e:S0 q with
 |none=>rfl
 |some v=>rw[s _ _ e]at h;cases h
theorem At.sub{S0 S S':Sto}{d o b:Addr}{xs:List Tr}(h:At S0 S d o b xs) (s:Sub S S'):At S0 S' d o b xs:=⟨h.d,h.o,s _ _ h.e,h.z⟩
theorem At.pd{S0 S:Sto}{d o b:Addr}{xs:List Tr}{v:Ob}(h:At S0 S d o b xs):At S0 (put S d v) d o b xs:=⟨h.d,h.o,by rw[zaD h.d];exact h.e,h.z⟩
theorem At.po{S0 S:Sto}{d o b:Addr}{xs:List Tr}{v:Ob}(h:At S0 S d o b xs):At S0 (put S o v) d o b xs:=⟨h.d,h.o,by rw[zaD h.o];exact h.e,h.z⟩
noncomputable abbrev Ats (S0 S:Sto) (d o:Addr) (bs:List Addr) (xss:List (List Tr)):Prop:=aP (At S0 S d o) bs xss
theorem zfg{α β:Type}{R:α→β→Prop}{xs:List α}{ys:List β}{x:α}{y:β}(h:aP R xs ys) (g:R x y):aP R (xs++[x]) (ys++[y]):=zfX h (.cons g .nil)
theorem zrU{t:Tr}{r:Nat}{S:Sto}{Q:WK}{X:Str→Sto→Prop}(hw:t.weight≤400) (hd:t.depth≤40) (h:Q (enc t) S):zbk (r+5) [enc t] S Q X:=by
 rw[show r+5=r+4+1 from rfl,zbk];walk_at "wd";refine zgb (r:=r+3) (by omega) ?_;rw[zjw hw hd]
 try walk_at "wd"
 exact⟨_, .refl,h⟩
theorem zlo{α β:Type}(f:α→W) (g:β→W):∀(xs:List α) (ys:List β),pairs (xs.map f) (ys.map g)=(xs.zip ys).map λp=> .tup [f p.1,g p.2]
 | [],ys=>by simp [pairs]
 |x::xs,[]=>by simp [pairs]
 |x::xs,y::ys=>by rw[ay,ay,pairs,zlo f g xs ys];rfl
theorem zpM{B:List Tn}:∀(os:List Tr) (x:Tr),(os.zip (zdR B x os)).map (λp=>res B p.1 p.2)=zgo B x os
 | [],x=>rfl
 |o::os,x=>by rw[zdR,gY,ay,zpM os,zgo]
theorem znb{ws:List Str}{B:List Tn}:∀(os:List Tr) {x:Tr},RowC ws B x os→ ∀p∈os.zip (zdR B x os),Two ws B p.1 p.2
 | [],x,_,p,hp=>by cases hp
 |o::os,x, .cons h2 _ hc,p,hp=>by
  rw[zdR,gY]at hp;rcases aA.mp hp with rfl |hp
  ·exact h2.symm
  ·exact znb os hc p hp
section
variable {ws:List Str}{B:List Tn}{a l1 l2 d o ρ:Addr}{r:Nat}{E:WX}{D:WEnds}{T:WS}{t:Tr}{xs os:List Tr}{S:Sto}{y0 y1 y2 y3 y4 y5 y6 y7:Option W}
theorem zBN (hd:t.depth≤57) (h:T E D [y0,ae (.tup [enc t, .ref l1]),ae (.tup [enc t, .ref l2]),y3,y4,y5,y6,y7] S) :
  zfR r T E D [y0,ae (.tup [enc t, .ref l1]),ae (.tup [enc t, .ref l2]),y3,y4,y5,y6,y7] S:=by
 rw[zfR];walk_at "wd";rw[zei hd];exact h
theorem zBO (hw:t.weight≤400) (hd:t.depth≤40) (hr:60≤r) (h:T E D [y0,ae (.tup [enc t, .ref l1]),y2,y3,y4,y5,y6,y7] S) :
  zfA r T E D [y0,ae (.tup [enc t, .ref l1]),y2,y3,y4,y5,y6,y7] S:=by
 rw[zfA];walk_at "wd";obtain⟨r,rfl⟩:∃r',r=r'+5:=⟨r - 5,by omega⟩
 exact zrU hw hd h
theorem zBz (ha:S a=ae (.lst (B.map zaY))) (hl:S l1=ae (.lst (xs.map enc))) (hx:∀x∈xs,∃y,Two ws B x y) (hr:62≤r) (h:T E D [ae (.ref a),ae (.tup [enc t, .ref l1]),y2,y3,y4,y5,y6,y7] S) :
  zfH r T E D [ae (.ref a),ae (.tup [enc t, .ref l1]),y2,y3,y4,y5,y6,y7] S:=by
 rw[zfH];walk_at "wd";obtain⟨r,rfl⟩:∃r',r=r'+2:=⟨r - 2,by omega⟩
 exact zdS ha hl hx (by omega) h
theorem zCo (ha:S a=ae (.lst (B.map zaY))) (hl:S l2=ae (.lst (os.map enc))) (hx:∀x∈os,∃y,Two ws B x y) (hr:62≤r) (h:T E D [ae (.ref a),y1,ae (.tup [enc t, .ref l2]),y3,y4,y5,y6,y7] S) :
  zfo r T E D [ae (.ref a),y1,ae (.tup [enc t, .ref l2]),y3,y4,y5,y6,y7] S:=by
 rw[zfo];walk_at "wd";obtain⟨r,rfl⟩:∃r',r=r'+2:=⟨r - 2,by omega⟩
 exact zdS ha hl hx (by omega) h
theorem zBy (h:∀d,S d=none→T E D [y0,y1,y2,ae (.ref d),y4,y5,y6,y7] (put S d (.lst []))):zfM r T E D [y0,y1,y2,y3,y4,y5,y6,y7] S:=by
 rw[zfM];walk_at "wd";exact⟨aS _,h⟩
theorem zCz{vs:List W}(hl:S l2=ae (.lst vs)) (h:∀ρ,S ρ=none→T E D [y0,y1,ae (.tup [enc t, .ref l2]),y3,ae (.ref ρ),y5,y6,y7] (put S ρ (.lst vs))):zfp r T E D [y0,y1,ae (.tup [enc t, .ref l2]),y3,y4,y5,y6,y7] S:=by
 rw[zfp];walk_at "wd";show zcE S l2 λws=>∀ρ,S ρ=none→T E D [y0,y1,ae (.tup [enc t, .ref l2]),y3,ae (.ref ρ),y5,y6,y7] (put S ρ (.lst ws));rw[zaj hl];exact h
theorem zCv (h:∀o,S o=none→T E D [y0,y1,y2,y3,ae (.ref ρ),ae (.ref o),y6,y7] (put S o (.lst [.ref ρ]))):zfr r T E D [y0,y1,y2,y3,ae (.ref ρ),y5,y6,y7] S:=by
 rw[zfr];walk_at "wd";exact⟨by decide,h⟩
theorem zzG{x:Tr}(ha:S a=ae (.lst (B.map zaY))) (hl:S ρ=ae (.lst (os.map enc))) (hc:RowC ws B x os) (hn:os.length≤800) (hr:63≤r)
  (h:∀S' q,Sub S S'→S q=none→S' q=ae (.lst ((zdR B x os).map enc))→T E D [ae (.ref a),y1,y2,y3,ae (.ref ρ),y5,ae (enc x),ae (.ref q)] S') :
  zev r T E D [ae (.ref a),y1,y2,y3,ae (.ref ρ),y5,ae (enc x),y7] S:=by
 rw[zev];walk_at "wd";obtain⟨r,rfl⟩:∃r',r=r'+1:=⟨r - 1,by omega⟩
 exact zji ha hl hc hn (by omega) h
theorem zzD{x:Tr}{q:Addr}(ha:S a=ae (.lst (B.map zaY))) (hl:S ρ=ae (.lst (os.map enc))) (hq:S q=ae (.lst ((zdR B x os).map enc))) (hc:RowC ws B x os) (hn:os.length≤800) (hr:63≤r)
  (h:∀ρ',S ρ'=none→T E D [ae (.ref a),y1,y2,y3,ae (.ref ρ'),y5,y6,ae (.ref q)] (put S ρ' (.lst ((zgo B x os).map enc)))) :
  zej r T E D [ae (.ref a),y1,y2,y3,ae (.ref ρ),y5,y6,ae (.ref q)] S:=by
 rw[zej];walk_at "wd";rw[zaj hl,zaj hq,zlo];refine zaL (λσ=>∃u v,σ=[u,v,ae (.ref a)]) (λp:Tr×Tr=> .tup [enc p.1,enc p.2]) (λp=>enc (res B p.1 p.2)) ⟨hl,hq⟩ (os.zip (zdR B x os)) [] _ ⟨none,none,rfl⟩ (by rw[List.length_zip,znJ];simp;omega) (λp hp σ R hI hR=>?_) ?_
 ·obtain⟨u,v,rfl⟩:=hI;have h2:=znb os hc p hp;rw[zoC];show zaq (wGN 0) (zaq (wGN 1) zbE) [enc p.1,enc p.2] _ S _;rw[zdW];show wGN 0 _ _ _ _;rw[zgX,zdW];show wGN 1 _ _ _ _;rw[zgX,zfW,zmz];show zap _ _ _ [ae (enc p.1),ae (enc p.2),ae (.ref a)] _ _;walk_at "wd";obtain⟨r,rfl⟩:∃r',r=r'+1:=⟨r - 1,by omega⟩
  exact h2.ok_move ha (by omega) (hR _ _ ⟨_,_,rfl⟩ .refl)
 ·intro ρ' hρ;have:=h ρ' hρ;rw[←zpM,bg]at this;exact this
theorem zAr{q:Addr}{vs:List W}(hd:S d=ae (.lst vs)) (hn:vs.length≤1000) (h:T E D [y0,y1,y2,ae (.ref d),y4,y5,y6,ae (.ref q)] (put S d (.lst (vs++[.ref q])))) :
  zek r T E D [y0,y1,y2,ae (.ref d),y4,y5,y6,ae (.ref q)] S:=by
 rw[zek];walk_at "wd";rw[zaj hd,zaj hd];exact⟨trivial,zbK (by omega),h⟩
theorem zAT{vs:List W}(hd:S o=ae (.lst vs)) (hn:vs.length≤1000) (h:D.nx [y0,y1,y2,y3,ae (.ref ρ),ae (.ref o),y6,y7] (put S o (.lst (vs++[.ref ρ])))) :
  zeu r E D [y0,y1,y2,y3,ae (.ref ρ),ae (.ref o),y6,y7] S:=by
 rw[zeu];walk_at "wd";rw[zaj hd,zaj hd];exact⟨trivial,zbK (by omega),h⟩
theorem zrt{S0:Sto}{G:Sto→Prop}(ha:S0 a=ae (.lst (B.map zaY))) (hd0:S0 d=none) (ho0:S0 o=none) (hdo:d≠o) (hG:∀S,Sub S0 S→G S) (hr:64≤r):∀(xs:List Tr) {os:List Tr},Cells ws B xs os→ ∀{S:Sto}{ρ:Addr}{ds rs:List Addr}{Ds Rs:List (List Tr)}{y1 y2 y6 y7:Option W},os.length≤800→ds.length+xs.length≤800→rs.length+xs.length≤800→Sub S0 S→S d=ae (.lst (ds.map W.ref))→S o=ae (.lst (rs.map W.ref++[.ref ρ]))→Ats S0 S d o ds Ds→Ats S0 S d o rs Rs→At S0 S d o ρ os→
  (∀S' ds' rs' y4 y6 y7,Sub S0 S'→S' d=ae (.lst (ds'.map W.ref))→S' o=ae (.lst (rs'.map W.ref))→Ats S0 S' d o ds' (Ds++zlu B xs os)→Ats S0 S' d o rs' (Rs++zmb B xs os)→D.nx [ae (.ref a),y1,y2,ae (.ref d),y4,ae (.ref o),y6,y7] S')→
  forL (wGN 6) (zgQ r zaU) E D G (xs.map enc) [ae (.ref a),y1,y2,ae (.ref d),ae (.ref ρ),ae (.ref o),y6,y7] S
 | [],os,hz=>by
  rename_i S ρ ds rs Ds Rs y1 y2 y6 y7;intro _ _ _ sb hd ho AD AR Aρ h;refine h S ds (rs++[ρ]) _ _ _ sb hd ?_ ?_ ?_
  ·rw[ho,bD];rfl
  ·rw[zlu,bK];exact AD
  ·rw[zmb];exact zfg AR Aρ
 |x::xs,os, .cons hc hcs=>by
  rename_i S ρ ds rs Ds Rs y1 y2 y6 y7;intro n1 n2 n3 sb hd ho AD AR Aρ h;rw[aO]at n2 n3;rw[ay];refine zbp λN hN=>?_;rw[zgX,zgQ];refine zzG (sb _ _ ha) Aρ.e hc n1 (by omega) λS1 q s1 hq0 hq=>?_;refine zzD (s1 _ _ (sb _ _ ha)) (s1 _ _ Aρ.e) hq hc n1 (by omega) λρ' hρ=>?_;have s2:Sub S (put S1 ρ' (.lst ((zgo B x os).map enc))):=s1.trans (.put .refl hρ);have qd:q≠d:=by rintro rfl;rw[hd]at hq0;cases hq0
  have qo:q≠o:=by rintro rfl;rw[ho]at hq0;cases hq0
  have ρd:ρ'≠d:=by rintro rfl;rw[s1 _ _ hd]at hρ;cases hρ
  have ρo:ρ'≠o:=by rintro rfl;rw[s1 _ _ ho]at hρ;cases hρ
  have Aq:At S0 (put S1 ρ' (.lst ((zgo B x os).map enc))) d o q (zdR B x os):=⟨qd,qo,keep hq hρ,zfs sb hq0⟩;have Aρ':At S0 (put S1 ρ' (.lst ((zgo B x os).map enc))) d o ρ' (zgo B x os):=⟨ρd,ρo,zag,zfs (sb.trans s1) hρ⟩;have AD':=zcj (λ_ _ z=>At.sub z s2) AD;have AR':=zcj (λ_ _ z=>At.sub z s2) AR;have A0:=Aρ.sub s2;have hd2:=s2 _ _ hd;have ho2:=s2 _ _ ho;have sb2:=sb.trans s2;generalize put S1 ρ' (.lst ((zgo B x os).map enc))=S2 at Aq Aρ' AD' AR' A0 hd2 ho2 sb2⊢;have ld:(ds.map W.ref).length≤1000:=by rw[ax];omega
  have lo:(rs.map W.ref++[W.ref ρ]).length≤1000:=by rw[aM,ax,bF];omega
  refine zAr hd2 ld ?_;refine zAT (vs:=rs.map W.ref++[.ref ρ]) (by rw[zaD hdo.symm];exact ho2) lo ?_;have sb3:Sub S0 (put (put S2 d (.lst (ds.map W.ref++[.ref q]))) o (.lst (rs.map W.ref++[.ref ρ]++[.ref ρ']))):= .put (.put sb2 hd0) ho0;refine hN _ _ _ .refl (hG _ sb3) (zrt ha hd0 ho0 hdo hG hr xs (ds:=ds++[q]) (rs:=rs++[ρ]) (Ds:=Ds++[zdR B x os]) (Rs:=Rs++[os]) hcs (by rw[ziJ];exact n1) (by rw[aM,bF];omega) (by rw[aM,bF];omega) sb3 ?_ ?_ ?_ ?_ Aρ'.pd.po λS' ds' rs' z4 z6 z7 s' h1 h2 h3 h4=>?_)
  ·rw[zaD hdo,zag,bD];rfl
  ·rw[zag,bD];rfl
  ·exact zfg (zcj (λ_ _ z=>At.po (At.pd z)) AD') Aq.pd.po
  ·exact zfg (zcj (λ_ _ z=>At.po (At.pd z)) AR') A0.pd.po
  ·refine h S' ds' rs' z4 z6 z7 s' h1 h2 ?_ ?_
   ·rw[zlu];rw[bL]at h3;exact h3
   ·rw[zmb];rw[bL]at h4;exact h4
structure Grd (S0 S:Sto) (B:List Tn) (xs os:List Tr) (d o:Addr):Prop where
  sub:Sub S0 S
  d0:S0 d=none
  o0:S0 o=none
  ne:d≠o
  ex:∃ds rs,S d=ae (.lst (ds.map W.ref))∧S o=ae (.lst (rs.map W.ref))∧Ats S0 S d o ds (zlu B xs os)∧Ats S0 S d o rs (zmb B xs os)
theorem zwo{Q:WK}{X:Str→Sto→Prop}(ha:S a=ae (.lst (B.map zaY))) (h1:S l1=ae (.lst (xs.map enc))) (h2:S l2=ae (.lst (os.map enc))) (hc:Cells ws B xs os) (tx:∀x∈xs,∃y,Two ws B x y) (to:∀x∈os,∃y,Two ws B x y) (hw:t.weight≤400) (hd:t.depth≤40) (nx:xs.length≤700) (no:os.length≤700) (hr:64≤r)
  (h:∀S' d o,Grd S S' B xs os d o→Q (.tup [.ref d, .ref o]) S'):zkN (r+1) [.ref a, .tup [enc t, .ref l1], .tup [enc t, .ref l2]] S Q X:=by
 rw[zkN,zhf];refine⟨rfl,?_⟩;refine zBN (by omega) (zBO hw (by omega) (by omega) (zBz ha h1 tx (by omega) (zCo ha h2 to (by omega) (zBy λd hd=>zCz (keep h2 hd) λρ hρ=>zCv λo h0=>?_))));have ρd:ρ≠d:=by rintro rfl;rw[zag]at hρ;cases hρ
 have od:o≠d:=by rintro rfl;rw[zaD ρd.symm,zag]at h0;cases h0
 have oρ:o≠ρ:=by rintro rfl;rw[zag]at h0;cases h0
 have oS:S o=none:=by rw[zaD oρ,zaD od]at h0;exact h0
 have sb:Sub S (put (put (put S d (.lst [])) ρ (.lst (os.map enc))) o (.lst [.ref ρ])):=(Sub.put .refl hd).trans ((Sub.put .refl hρ).trans (.put .refl h0));rw[zgI];walk_at "wd";show zcE _ l1 _;rw[zaj (sb _ _ h1)];refine zrt ha hd oS od.symm (λS' s'=>s' _ _ h1) hr xs (ds:=[]) (rs:=[]) (Ds:=[]) (Rs:=[]) hc (by omega) (by simp;omega) (by simp;omega) sb ?_ zag .nil .nil ⟨ρd,oρ.symm,?_,by rw[zaD ρd]at hρ;exact hρ⟩ λS' ds rs y4 y6 y7 s' g1 g2 g3 g4=>?_
 ·rw[zaD od.symm,zaD ρd.symm,zag];rfl
 ·rw[zaD oρ.symm,zag]
 ·rw[zgG];walk_at "wd";exact⟨by decide,_, .refl,h S' d o ⟨s',hd,oS,od.symm,ds,rs,g1,g2,g3,g4⟩⟩
end
noncomputable def opl (B:List Tn) (t:Tr):List (List Int):=(t.op B []).map λx=>x.1
theorem Sh.hdT{ws:List Str}{B:List Tn}{t:Tr}(h:Sh ws B t):t.hd λ_=>True:=zpe (λ_ _=>trivial) _ h.wy.hd
theorem Sh.wn{ws:List Str}{B:List Tn}{t:Tr}(h:Sh ws B t) {wn:List (List Int)}(hw:∀q∈wn,q∈opl B t):zwE B wn [] t:=by
 intro q hq e v he hv;rw[aY]at he;subst he;obtain⟨x,hx,rfl⟩:=aG.mp (hw q hq);rw[←zoW B t [] (zff _ h.hdT)]at hx;obtain⟨y,hy,hx⟩:=kc.mp hx;unfold zyT at hx;obtain⟨u,hu,rfl⟩:=aG.mp hx;have:=(zqn hy).1;rw[this]at hv;cases hv;cases e:zeM B y.2 with
 |none=>rw[e]at hu;cases hu
 |some _=>rfl
theorem zik{α β:Type}{R:α→β→Prop}:∀{xs:List α}{ys:List β},aP R xs ys→ ∃zs:List (α×β),zs.map (λz=>z.1)=xs∧zs.map (λz=>z.2)=ys∧ ∀z∈zs,R z.1 z.2
 |_,_, .nil=>⟨[],rfl,rfl,by simp⟩
 |_,_, .cons h1 h2=>by
  obtain⟨zs,e1,e2,h3⟩:=zik h2;exact⟨(_,_)::zs,by rw[ay,e1],by rw[ay,e2],λz hz=>by
   rcases aA.mp hz with rfl |hz
   ·exact h1
   ·exact h3 z hz⟩
theorem zhi{α β γ:Type}{R:α→β→Prop}{R':β→γ→Prop}:∀{xs:List α}{ys:List β}{zs:List γ},aP R xs ys→aP R' ys zs→aP (λx z=>∃y,R x y∧R' y z) xs zs
 |_,_,_, .nil, .nil=> .nil
 |_,_,_, .cons h1 h2, .cons g1 g2=> .cons ⟨_,h1,g1⟩ (zhi h2 g2)
theorem zhz{α β:Type}{R:α→β→Prop}:∀{ys:List β}{xs:List α}{y:β},aP R xs (ys++[y])→ ∃pre x,xs=pre++[x]∧R x y
 | [],_,y, .cons h .nil=>⟨[],_,rfl,h⟩
 |_::ys,_,y, .cons (a:=a) h g=>by
  obtain⟨pre,x,e,h⟩:=zhz g;exact⟨a::pre,x,by rw[e];rfl,h⟩
section
variable {ws:List Str}{B:List Tn}
theorem zqp (os:List Tr) (x:Tr):∃l,zdR B x os=l++[zgc B x os]:=by
 have:=zla (B:=B) os x;rw[List.getLast?_eq_some_iff]at this;exact this
theorem zkS:∀(xs os:List Tr),aP (λline u=>∃l,line=l++[u]) (zlu B xs os) (zdP B xs os)
 | [],os=> .nil
 |x::xs,os=> .cons (zqp os x) (zkS xs _)
theorem zkV:∀(xs os:List Tr),∃l,zmb B xs os=l++[zgE B xs os]
 | [],os=>⟨[],rfl⟩
 |x::xs,os=>by
  obtain⟨l,e⟩:=zkV xs (zgo B x os);exact⟨os::l,by rw[zmb,e,zgE];rfl⟩
theorem zrf:∀(xs ys:List Tr) (t:Tr),zlX B t (xs++ys)=zlX B (zlX B t xs) ys
 | [],ys,t=>rfl
 |x::xs,ys,t=>zrf xs ys (gol B x)
theorem Roa.app:∀(xs:List Tr) {ys:List Tr}{t:Tr},Roa ws B t xs→Roa ws B (zlX B t xs) ys→Roa ws B t (xs++ys)
 | [],_,_,_,h=>h
 |x::xs,_,_,⟨h1,h2,h3⟩,h=>⟨h1,h2,Roa.app xs h3 h⟩
end
section
variable {B:List Tn}{l d o:Addr}{r:Nat}{xs os:List Tr}{S:Sto}{Q:WK}{X:Str→Sto→Prop}
theorem zkk{S0:Sto}{ds:List Addr}(hd:S d=ae (.lst (ds.map W.ref))) (hn:xs.length≤700) (AD:Ats S0 S d o ds (zlu B xs os)) (h:∀q,S q=none→Q (.ref q) (put S q (.lst ((zdP B xs os).map enc)))):zcV (r+1) [.tup [.ref d, .ref o]] S Q X:=by
 obtain⟨zs,e1,e2,h3⟩:=zik (zhi AD (zkS xs os));rw[zcV];walk_at "wd";rw[zaj hd];have e3:ds.map W.ref=zs.map λz=>W.ref z.1:=by rw[←e1,bg];rfl
 have hz:zs.length=xs.length:=by rw[←zgN (B:=B) xs os,←e2,ax]
 rw[e3];refine zaL (λσ=>∃y,σ=[y]) (λz:Addr×Tr=>W.ref z.1) (λz=>enc z.2) (by rw[←e3];exact hd) zs [] _ ⟨none,rfl⟩ (by simp;omega) (λz hz σ R hI hR=>?_) ?_
 ·obtain⟨y,rfl⟩:=hI;obtain⟨line,A,l,rfl⟩:=h3 z hz;rw[zeT];walk_at "wd";have Ae:=A.e;rw[bD]at Ae;rw[zaj Ae,show [z.2].map enc=[enc z.2] from rfl,zmk];exact hR _ _ ⟨_,rfl⟩ .refl
 ·intro q hq;have:=h q hq;rw[←e2,bg]at this;exact⟨_, .refl,this⟩
end
structure Rds (S:Sto) (ws:List Str) (B:List Tn) (ab:Addr) (t:Tr) (l1 l2:Addr) (xs os:List Tr):Prop where
  K:Bk2 ws B
  fb:S ab=ae (.lst (B.map zaY))
  sh:Sh ws B t
  bd:Bd t 4
  f1:S l1=ae (.lst (xs.map enc))
  f2:S l2=ae (.lst (os.map enc))
  r1:Roa ws B t xs
  r2:Roa ws B t os
  n:nR B xs+nR B os≤4
  x3:xs.length≤3
  o3:os.length≤3
  hB:B.length≤1000
theorem Rds.symm{S:Sto}{ws:List Str}{B:List Tn}{ab:Addr}{t:Tr}{l1 l2:Addr}{xs os:List Tr}(h:Rds S ws B ab t l1 l2 xs os):Rds S ws B ab t l2 l1 os xs:=⟨h.K,h.fb,h.sh,h.bd,h.f2,h.f1,h.r2,h.r1,by have:=h.n;omega,h.o3,h.x3,h.hB⟩
mutual
noncomputable def Tr.wd:Tr→Prop
 | .bl _=>True
 | .nd _ ts=>ts.length≤1000∧wds ts
noncomputable def wds:List Tr→Prop
 | []=>True
 |t::ts=>t.wd∧wds ts
end
noncomputable def stk (x:Tr):List Str→Tr
 | []=>x
 |h::hs=> .nd h [stk x hs]
section
variable {ws:List Str}{B:List Tn}
def zAw (B:List Tn) (wn:List (List Int)) (p:List Int) (t:Tr):Prop:=∀e v,t.at e=ae v→(p++e∈wn↔(zeM B v).isSome=true)
theorem Sh.all{t:Tr}(h:Sh ws B t):zAw B (opl B t) [] t:=λe v hv=>by
 have ft:=zff (m:=0) _ h.hdT;rw[aY];constructor
 ·intro he;exact h.wn (λq hq=>hq) e he e v (by simp) hv
 ·intro ho;obtain⟨u,ho⟩:=dO.mp ho;have m:=ztI t [] e v hv;rw[aY]at m;unfold opl;rw[←zoW B t [] ft];refine aG.mpr ⟨(e,u.1),kc.mpr ⟨(e,v),m,?_⟩,rfl⟩;unfold zyT;rw[ho];simp
structure Ful (ws:List Str) (B:List Tn) (t u:Tr):Prop where
  wi:Wi B (opl B t) t.depth [] t u
  sr:src B u=t
  wy:Wy ws B u
  us:u.us B []=t.op B []
open Classical in
noncomputable def fw (ws:List Str) (B:List Tn) (t:Tr):Tr:=if h:∃u,Ful ws B t u then choose h else t
noncomputable def hh (ws:List Str) (B:List Tn) (t:Tr):Nat→Tr
 |0=>t
 |k+1=>gol B (fw ws B (hh ws B t k))
noncomputable def wys (ws:List Str) (B:List Tn) (t:Tr) (k:Nat):List Tr:=(aX k).map λi=>fw ws B (hh ws B t i)
end
structure WyF (ws:List Str) (B:List Tn) (x u:Tr):Prop where
  f:Ful ws B x u
  wt:u.weight≤400
  dp:u.depth≤40
  ar:u.ar B
  hd:u.hd λ_=>True
  wd:(u.mk B (zaP 2)).wd
section
variable {w0 w1 w2 w3 w4 w5:Str}{tt:List Str}{B:List Tn}{t:Tr}
theorem BookOk.bk3 (b:BookOk w0 w1 w2 w3 w4 w5 tt B) (T:Titles tt) (G:Signs w0 w1 w2 w3 w4 w5):Bk3 [w0,w1,w2,w3,w4,w5] B:=by
 have k:=b.bk T G;refine⟨⟨k.ti,k.nd,k.sg,λx hx=>hx,k.lf,k.ri⟩,b.ort G,λt ht=>?_⟩;obtain⟨n,z |z⟩:=b.mem_lefts ht
 ·exact(zgR (P:=λs=>s∈ [w0,w1,w2,w3,w4,w5]) (by simp) (by simp) (by simp) _ z).hb
 ·exact(zgR (P:=λs=>s∈ [w0,w1,w2,w3,w4,w5]) (by simp) (by simp) (by simp) _ z).hb
end
section
variable {ws:List Str}{B:List Tn}{x:Tr}
theorem Sh.quiet (K:Bk3 ws B) (h:Sh ws B x):x.quiet=true:=by
 refine ziC x ?_;have:∀(n:Nat) (x:Tr),x.depth≤n→Sh ws B x→x.hd zcU:=by
  intro n
  induction n with
  |zero=>
   intro x hd h;have:=zaB x;omega
  |succ n ih=>
   intro x hd h;obtain⟨s,ts,rfl,hs,_,k⟩:=h.cases K;rw[Tr.depth]at hd;rw[Tr.hd,hds_iff];exact⟨K.b.sg s hs,λu hu=>ih u (by have:=zbq hu;omega) (k u hu)⟩
 exact this _ x (ap _) h
end
section
variable {ws:List Str}{B:List Tn}
theorem zyP (b:BkOk ws ws B) (O:Ort B) {t:Tn}(ht:t∈B) {x:Tr}{us:List Tr}(hx:Wy ws B x) (hl:us.length=t.2.1.nb) (h:src B x=t.2.1.fill us) :
  ∃(m:Nat) (vs:List Tr),m≤1∧x=evT t m vs∧vs.map (src B)=us∧(∀y∈vs,Wy ws B y)∧wts vs+1≤x.weight:=by
 rcases hx.cases b with⟨s,as,rfl,hs,es,ka⟩ |⟨u,as,hu,rfl,eu,la,ka⟩
 ·obtain⟨vs,ev,lv,ms,kv,wv⟩:=zfh b O ht es hx hl h;have hm:=O.mt t ht vs lv;rw[←ev]at hm;obtain⟨s0,ls,e0,_⟩:=O.inn t ht;rw[e0,Tr.mt]at hm;split at hm
  ·have:=zgg _ _ _ hm;exact⟨0,vs,by omega,ev,ms,kv,by rw[zfB];omega⟩
  ·cases hm
 ·rw[show src B (.nd u.1 as)=_ from zdA eu]at h;have m1:=O.mt t ht us hl;have m2:=O.mt u hu (as.map (src B)) (by rw[ax,la]);have:u=t:=O.one u hu t ht _ (by rw[m2];rfl) (by rw[show u.2.1.fill (as.map (src B))=_ from h,m1];rfl)
  subst this;rw[show u.2.1.fill (as.map (src B))=_ from h,m1]at m2;exact⟨1,as,by omega,rfl,(aH m2).symm,ka,by rw[zfB];omega⟩
end
section
variable {ws:List Str}{B:List Tn}
theorem Wy.re{h:Str}{ts us:List Tr}(w:Wy ws B (.nd h ts)) (hl:us.length=ts.length) (hu:∀x∈us,Wy ws B x):Wy ws B (.nd h us):=by
 obtain⟨h1,h2⟩:=w;rw[Tr.hd,hds_iff]at h1;rw[Tr.ar,ars_iff]at h2;refine⟨?_,?_⟩
 ·rw[Tr.hd,hds_iff];exact⟨h1.1,λu hm=>(hu u hm).hd⟩
 ·rw[Tr.ar,ars_iff];exact⟨λt e=>by rw[hl];exact h2.1 t e,λu hm=>(hu u hm).ar⟩
end
structure Pw (w0 w1 w2 w3 w4 w5:Str) (tt:List Str) (B:List Tn) (p:Pl):Prop where
  b:BookOk w0 w1 w2 w3 w4 w5 tt B
  T:Titles tt
  G:Signs w0 w1 w2 w3 w4 w5
  o:PlOk [w2,w3,w4,w5] B p
  w:p.wt≤23
  n:p.nt≤4
section
variable {w0 w1 w2 w3 w4 w5:Str}{tt:List Str}{B:List Tn}{p:Pl}
theorem Pw.k (u:Pw w0 w1 w2 w3 w4 w5 tt B p):BkOk [w0,w1,w2,w3,w4,w5] [w2,w3,w4,w5] B:=u.b.bk u.T u.G
theorem Pw.nd (u:Pw w0 w1 w2 w3 w4 w5 tt B p):(B.map λt=>t.1).Nodup:=u.k.nd
end
section
variable {ws:List Str}{B:List Tn}{x y:Tr}
structure Cel (ws:List Str) (B:List Tn) (x y:Tr):Prop where
  K:Bk3 ws B
  wx:Wy ws B x
  wy:Wy ws B y
  e:src B x=src B y
  sm:(src B y).small=true
theorem Cel.symm (h:Cel ws B x y):Cel ws B y x:=⟨h.K,h.wy,h.wx,h.e.symm,by rw[h.e];exact h.sm⟩
end
section
variable {B:List Tn}
structure Lfs (B:List Tn):Prop where
  op:∀t∈B,∀us:List Tr,us.length=t.2.1.nb→zeM B (t.2.1.fill us)=ae t
  lf:∀t∈B,∃n h c d,t.2.1∈leftsL n h c d
end
structure Ms where
  c0:Nat
  c1:Nat
  k:Tn→Nat→Nat
mutual
theorem zif:∀x:Tr,x.quiet=true→x.hd zcU
 | .bl n,h=>by rw[Tr.quiet]at h;cases h
 | .nd s ts,h=>by
  rw[Tr.quiet,b6]at h;rw[Tr.hd];exact⟨(zfP s).mp h.1,zhT ts h.2⟩
theorem zhT:∀ts:List Tr,zhv ts=true→hds zcU ts
 | [],h=>by rw[hds];trivial
 |t::ts,h=>by
  rw[zhv,b6]at h;rw[hds];exact⟨zif t h.1,zhT ts h.2⟩
end
theorem zkq:∀(q:List Int) {X v:Tr},X.at q=ae v→X.put q v=X
 | [],X,v,h=>by
  rw[zgV]at h;cases h;exact zez _ _
 |i::q, .bl n,v,h=>by cases h
 |i::q, .nd s ts,v,h=>by
  obtain⟨w,h0,h1,h2⟩:=zgB h;rw[zgz h1,zkq q h2];congr 1;exact List.ext_getElem? λj=>by
   rw[List.getElem?_set];split
   ·rename_i e;rw[←e,h1];simp [(cf.mp h1).1]
   ·rfl
theorem zwm:∀(q:List Int) {X v:Tr},X.at q=ae v→q.length+v.depth≤X.depth
 | [],X,v,h=>by
  rw[zgV]at h;cases h;simp
 |i::q, .bl n,v,h=>by cases h
 |i::q, .nd s ts,v,h=>by
  obtain⟨w,h0,h1,h2⟩:=zgB h;have:=zwm q h2;have:=zbq (aR h1);rw[Tr.depth,aO];omega
theorem zmV{u:Tr}:∀(ts:List Tr) (i:Nat),dts (ts.set i u)≤max (dts ts) u.depth
 | [],i=>by simp [dts]
 |t::ts,0=>by rw[dS,dts,dts];omega
 |t::ts,i+1=>by
  have:=zmV (u:=u) ts i;rw[dU,dts,dts];omega
theorem ztS{u:Tr}:∀(q:List Int) {X v:Tr},X.at q=ae v→(X.put q u).depth≤max X.depth (q.length+u.depth)
 | [],X,v,h=>by rw[zez];simp;omega
 |i::q, .bl n,v,h=>by cases h
 |i::q, .nd s ts,v,h=>by
  obtain⟨w,h0,h1,h2⟩:=zgB h;have h3:=ztS (u:=u) q h2;have h4:=zmV (u:=w.put q u) ts i.toNat;have h5:=zbq (aR h1);rw[zgz h1,Tr.depth,Tr.depth,aO];omega
section
variable {ws:List Str}{B:List Tn}
theorem Sh.sig (K:Bk3 ws B) {X:Tr}(h:Sh ws B X):X.hd zcU:=zif _ (h.quiet K)
theorem Sh.mkq (K:Bk3 ws B) {X:Tr}(h:Sh ws B X) (g:Tn→Tr):X.mk B g=X:=zmM K.b.ti _ (h.sig K)
theorem zuy (K:Bk3 ws B) {ts:List Tr}(h:∀t∈ts,Sh ws B t) (g:Tn→Tr):ts.map (Tr.mk B g)=ts:=by
 rw[cI (g:=id) λt ht=>(h t ht).mkq K g,List.map_id]
theorem zrn (K:Bk3 ws B) (g:Tn→Tr) {u:Tr}:∀(q:List Int) {X v:Tr},Sh ws B X→X.at q=ae v→(X.put q u).mk B g=X.put q (u.mk B g)
 | [],X,v,hs,h=>by rw[zez,zez]
 |i::q, .bl n,v,hs,h=>by cases h
 |i::q, .nd s ts,v,hs,h=>by
  obtain⟨w,h0,h1,h2⟩:=zgB h;obtain⟨s',ts',e,_,e2,k⟩:=hs.cases K;cases e;rw[zgz h1,zgz h1,zem e2,List.map_set,zuy K k,zrn K g q (k w (aR h1)) h2]
theorem zue{u:Tr}(hu:Wy ws B u):∀(q:List Int) {X v:Tr},Wy ws B X→X.at q=ae v→Wy ws B (X.put q u)
 | [],X,v,hs,h=>by rw[zez];exact hu
 |i::q, .bl n,v,hs,h=>by cases h
 |i::q, .nd s ts,v,hs,h=>by
  obtain⟨w,h0,h1,h2⟩:=zgB h;rw[zgz h1];refine hs.re (by simp) λz hz=>?_;rcases List.mem_or_eq_of_mem_set hz with q' |rfl
  ·exact hs.kids z q'
  ·exact zue hu q (hs.kids w (aR h1)) h2
end
section
variable {w0 w1 w2 w3 w4 w5:Str}{r:Nat}{S:Sto}{aw st:Addr}{E:WX}{D:WEnds}
noncomputable def pds:List Pl→Nat
 | []=>0
 |p::ps=>max 1 (p.dp - 1)+pds ps
theorem zdF:∀ps qs:List Pl,pds (ps++qs)=pds ps+pds qs
 | [],qs=>by simp [pds]
 |p::ps,qs=>by rw[b8,pds,pds,zdF ps qs];omega
theorem ziQ:∀(ps:List Pl),zeS ps≤pds ps+1
 | []=>by simp [zeS]
 |p::ps=>by
  have:=ziQ ps;rw[zeS,pds];omega
theorem zhM:∀ps qs:List Pl,zeS (ps++qs)=max (zeS ps) (zeS qs)
 | [],qs=>by rw[aY,zeS,fD]
 |p::ps,qs=>by rw[b8,zeS,zeS,zhM ps qs,jg]
theorem zne (w:Str):∀n:Nat,zeS (aN n (pad w))≤1
 |0=>by simp [zeS]
 |n+1=>by
  have:=zne w n;rw[cb,zeS];simp only[pad,Pl.dp,zeS]at this⊢;omega
theorem zsr{need:Nat}{w:Str}{k b:Int}{h:Str}{ps:List Pl}:pds (push need w k b h ps)≤pds ps+1:=by
 unfold push;rw[zdF,pds,pds,Pl.dp];have hl:=zdJ need w ps;by_cases c:ps.length<need
 ·have e1:(zbt need w ps).length - need=0:=by omega
  rw[e1,gC,cG,pds,zbt,zhM];have h1:=zne w (need - ps.length);have h2:=ziQ ps;omega
 ·have e0:zbt need w ps=ps:=by
   unfold zbt;rw[show need - ps.length=0 by omega]
   rfl
  rw[e0];have h1:=zdF (ps.take (ps.length - need)) (ps.drop (ps.length - need));rw[f9]at h1;have h2:=ziQ (ps.drop (ps.length - need));omega
theorem zvp{k:Int}{b:Int}{h:Str}{qs:List Pl}(hl:qs.length=2):max 1 ((Pl.nd k b h qs).dp - 1)≤pds qs:=by
 match qs,hl with
 | [p,q],_=>
  rw[Pl.dp,zeS,zeS,zeS,pds,pds,pds];omega
inductive PlID (S:Sto) (ac ab aw:Addr) (hs:List Str) (B:List Tn) (m:Nat) (ws:List W) (σ:WSt) (S':Sto):Prop
 |mk (ns:List Int) (ps:List Pl) (vs:List W) (st:Addr) (room spent:Int) (x6 x7 x8 x9 x10 x11:Option W):ws=ns.map W.int→Sub S S'→S' st=ae (.lst vs)→PlsAt S' ps vs→(∀p∈ps,PlOk hs B p)→0≤room→room≤m→(pnts ps:Int)≤spent→pnts ps≤4→(pwts ps:Int)+ps.length≤2*(m - room)+pnts ps+2→(pds ps:Int)≤m - room→
  σ=[ae (.ref ac),ae (.ref ab),ae (.ref aw),ae (.int room),ae (.ref st),ae (.int spent),x6,x7,x8,x9,x10,x11]→PlID S ac ab aw hs B m ws σ S'
inductive PlWD (S:Sto) (hs:List Str) (B:List Tn) (m:Nat) (f:Addr→WSt) (mm:Nat) (σ:WSt) (S2:Sto):Prop
 |mk (ps:List Pl) (vs:List W) (st:Addr):mm=ps.length→Sub S S2→S2 st=ae (.lst vs)→PlsAt S2 ps vs→(∀p∈ps,PlOk hs B p)→pnts ps≤4→pwts ps+ps.length≤2*m+pnts ps+2→pds ps≤m→σ=f st→PlWD S hs B m f mm σ S2
theorem zsl{m:Nat}(hm9:m≤9) {Q:WK}{X:Str→Sto→Prop}{ac ab:Addr}{cells:List Int}{B:List Tn}(hc:S ac=ae (.lst (cells.map W.int))) (hb:S ab=ae (.lst (B.map zaY))) (hw:S aw=ae (.lst (six w0 w1 w2 w3 w4 w5))) (bk:BkOk [w0,w1,w2,w3,w4,w5] [w2,w3,w4,w5] B) (hB:B≠ [])
  (h:∀(p:Pl) (v:W) (S':Sto),Sub S S'→PlAt S' p v→PlOk [w2,w3,w4,w5] B p→p.wt≤2*m+1+p.nt→p.nt≤4→p.dp≤m+1→Q v S'):zcQ (r+10) [.ref ac, .ref ab, .ref aw, .int m] S Q X:=by
 rw[show r+10=r+9+1 from rfl,zcQ];walk_at "wd";refine⟨aS _,λst0 hst0=>?_⟩;rw[zaj (keep hc hst0)];refine zlt (PlID S ac ab aw [w2,w3,w4,w5] B m) ?_ ?_ _ _ _ ⟨cells,[],[],st0,m,0,none,none,none,none,none,none,rfl, .put .refl hst0,zag, .nil,(λ_ h=>nomatch h),by omega,by omega,by simp [pnts],by simp [pnts],by simp [pnts,pwts],by simp [pds],rfl⟩
 ·rintro w ws σ S' N ⟨ns,ps,vs,st,room,spent,x6,x7,x8,x9,x10,x11,ew,sub,hst,hp,ok,r0,r1,p0,p1,p2,p3,rfl⟩ hN;cases ns with
  |nil=>cases ew
  |cons n ns=>
  cases ew;have fw:=sub _ _ hw;have fb:=sub _ _ hb;have fc:=sub _ _ hc;have m0:0≤n % 8:=c7 _ (by decide);have m1:n % 8<8:=dj _ (by decide);have hpl:=zgM ps;obtain⟨need,hneed,en⟩:=zvf (n % 8) m0 m1;obtain⟨i,hd,hhd,e1,e2⟩:=zwr (w0:=w0) (w1:=w1) (w2:=w2) (w3:=w3) (w4:=w4) (w5:=w5) (n % 8) m0 m1;have go:∀(need:Nat) (k b:Int) (hh:Str) (sp:Int) (x10:Option W),need≤3→(∀qs:List Pl,qs.length=need→(∀q∈qs,PlOk [w2,w3,w4,w5] B q)→PlOk [w2,w3,w4,w5] B (.nd k b hh qs))→(k<0∧need≤2∧sp=spent∨ ¬k<0∧sp=spent+1)→
    ∀(E:WX) (D:WEnds),D.nx=N→ztd E D [ae (.ref ac),ae (.ref ab),ae (.ref aw),ae (.int room),ae (.ref st),ae (.int sp),ae (.int n),ae (.int (n % 8)),ae (.int need),ae (.tup [.int k, .int b, .str hh]),x10,x11] S':=λneed k b hh sp x10 hn hok hk E D hD=>by
   subst hD;refine zrm fw hst hp hn (by omega) ?_ λc1 c2 st' S2 vs' x11 sub2 hst2 hp2=>?_
   ·refine hN _ _ S' .refl fc ⟨ns,ps,vs,st,room,sp,_,_,_,_,_,_,rfl,sub,hst,hp,ok,r0,r1,by omega,p1,p2,p3,rfl⟩
   ·obtain⟨s1,s2,s3⟩:=zrd (need:=need) (w:=w2) (k:=k) (b:=b) (h:=hh) (ps:=ps);have hz:ps.length=0→pwts ps=0∧pnts ps=0:=λz=>by
     cases ps with
     |nil=>exact⟨rfl,rfl⟩
     |cons _ _=>simp at z
    have fin:(pnts (push need w2 k b hh ps):Int)≤sp→pnts (push need w2 k b hh ps)≤4→(pwts (push need w2 k b hh ps):Int)+(push need w2 k b hh ps).length≤2*(m - (room - 1))+pnts (push need w2 k b hh ps)+2→D.nx [ae (.ref ac),ae (.ref ab),ae (.ref aw),ae (.int (room - 1)),ae (.ref st'),ae (.int sp),ae (.int n),ae (.int (n % 8)),ae (.int need),ae (.tup [.int k, .int b, .str hh]),x10,x11] S2:=λf1 f2 f3=>
     hN _ _ S2 .refl (sub2 _ _ fc) ⟨ns,_,vs',st',room - 1,sp,_,_,_,_,_,_,rfl,sub.trans sub2,hst2,hp2,zvC (by simp) ok hok,by omega,by omega,f1,f2,f3,(by have:=zsr (need:=need) (w:=w2) (k:=k) (b:=b) (h:=hh) (ps:=ps);omega),rfl⟩
    rcases hk with⟨kn,n2,es⟩ |⟨kp,es⟩
    ·rw[if_pos kn]at s2;refine fin (by omega) (by omega) ?_;rcases eV ps.length with z |z
     ·have:=hz z;omega
     ·omega
    ·rw[if_neg kp]at s2;refine fin (by omega) (by omega) ?_;rcases eV ps.length with z |z
     ·have:=hz z;omega
     ·omega
  rw[zrQ];walk_at "wd";simp only[en,e1];walk_at "wd";simp only[zaj fw,e2];refine⟨by decide,zal (by decide),zal (by decide),zal (by decide),?_⟩;split
  ·have hbl:(B.map zaY)≠ []:=by simpa using hB
   obtain⟨j,x,ej,ex⟩:=zko (n / 8) hbl;have hlt:0<(B.map zaY).length:=eD.mpr hbl;have ek:n / 8 % ((B.map zaY).length:Int)=(((n / 8 % ((B.map zaY).length:Int)).toNat:Nat):Int):=by
    have:=c7 (n / 8) (show((B.map zaY).length:Int)≠0 by omega)
    omega
   have ek2:=zcb (xs:=B.map zaY) (n:=(n / 8 % ((B.map zaY).length:Int)).toNat);rw[←ek,ex,bj]at ek2;cases et:B[(n / 8 % ((B.map zaY).length:Int)).toNat]? with
   |none=>rw[et]at ek2;cases ek2
   |some t=>
    rw[et]at ek2;have ext:x= .tup [.str t.1,enc t.2.1,enc t.2.2]:=by cases ek2;rfl
    have ht:t∈B:=aR et;have LT:=bk.lf t ht;have hLd:=LT.dp;have hLw:=LT.wt;have hLn:=LT.nb;simp only[zaj fb,ex,ext];walk_at "wd";rw[show atI [W.str t.1,enc t.2.1,enc t.2.2] 1=ae (enc t.2.1) from rfl];refine⟨⟨by decide,by decide⟩,by omega,?_⟩
    refine zgS 4 hLd (by omega) (by omega) ⟨⟨by decide,by decide⟩,by decide,zal (by decide),?_⟩
    have b0:0≤n / 64 % 8:=c7 _ (by decide);have b1:n / 64 % 8<8:=dj _ (by decide);refine go t.2.1.nb _ _ _ _ _ hLn (λqs hq hqs=>?_) (.inr ⟨by omega,rfl⟩) _ _ rfl;rw[ek];exact .turn et hq b0 b1 hqs
  ·exact go need (-1) 0 hd spent _ (by omega) (λqs hq hqs=> .sign hhd hqs) (.inl ⟨by decide,hneed,rfl⟩) _ _ rfl
 ·rintro σ S' ⟨ns,ps,vs,st,room,spent,x6,x7,x8,x9,x10,x11,ew,sub,hst,hp,ok,r0,r1,p0,p1,p2,p3,rfl⟩;have hpl:=zgM ps;refine⟨PlWD S [w2,w3,w4,w5] B m (λst=>[ae (.ref ac),ae (.ref ab),ae (.ref aw),ae (.int room),ae (.ref st),ae (.int spent),x6,x7,x8,x9,x10,x11]),⟨_,ps,vs,st,rfl,sub,hst,hp,ok,p1,by omega,by omega,rfl⟩,?_⟩
  rintro mm σ S2 ⟨ps,vs,st,rfl,sub,hst,hp,ok,p1,p2,p3,rfl⟩;have hlen:=hp.len;have fw:=sub _ _ hw;walk_at "wd";rw[zaj hst];split
  ·rename_i hgt;simp only[zfG];walk_at "wd";simp only[zaj hst,zaj fw,six4];have c1:zeg vs none (ae (-2))=vs.take (vs.length - 2):=zmm 2 (by decide);have c2:zeg vs (ae (-2)) none=vs.drop (vs.length - 2):=zro 2 (by decide);rw[c1,c2];intro p hp3;have sub3:Sub S2 (put S2 p (.lst (vs.drop (vs.length - 2)))):= .put .refl hp3;have fp:put S2 p (Ob.lst (vs.drop (vs.length - 2))) p=ae (.lst (vs.drop (vs.length - 2))):=zag;generalize put S2 p (Ob.lst (vs.drop (vs.length - 2)))=S3 at sub3 fp⊢;refine⟨zal (by decide),zal (by decide),zal (by rw[cF];omega),λq hq=>?_⟩;have sub4:Sub S3 (put S3 q (.lst (vs.take (vs.length - 2)++[.tup [.int (-1), .int 0, .str w4, .ref p]]))):= .put .refl hq;have hp4:=hp.sub (sub3.trans sub4);have hw3:=zcH (ps.take (vs.length - 2)) (ps.drop (vs.length - 2));have hn3:=zcd (ps.take (vs.length - 2)) (ps.drop (vs.length - 2));rw[f9]at hw3 hn3;refine⟨_,_,?_, .refl,ps.take (vs.length - 2)++[.nd (-1) 0 w4 (ps.drop (vs.length - 2))],_,q,rfl,(sub.trans sub3).trans sub4,zag,(hp4.take _).app (.cons (.nd (sub4 _ _ fp) (hp4.drop _)) .nil),λx hx=>?_,?_,?_,?_,rfl⟩
   ·rw[aM,cF,bF];omega
   ·rcases bp.mp hx with z |z
    ·exact ok x (iK z)
    ·rw[bz.mp z];exact .sign (by simp) λy hy=>ok y (iL hy)
   ·rw[zcd,pnts,pnts,Pl.nt,if_pos (by decide)];omega
   ·rw[zcH,pwts,pwts,Pl.wt,aM,cF,bF,zcd,pnts,pnts,Pl.nt,if_pos (by decide)];omega
   ·have hd3:=zdF (ps.take (vs.length - 2)) (ps.drop (vs.length - 2));rw[f9]at hd3;have h2:=zvp (k:= -1) (b:=0) (h:=w4) (qs:=ps.drop (vs.length - 2)) (by rw[cC];omega);rw[zdF,pds,pds];omega
  ·rename_i hle
   try walk_at "wd"
   simp only[zaj fw,zCb];refine⟨aS _,λa ha=>⟨zal (by decide),zal (by decide),?_⟩⟩;rw[zaj (keep hst ha)];refine⟨zal (by omega),?_⟩;cases hp with
   |nil=>
    exact⟨_, .refl,h (pad w5) _ _ (sub.trans (.put .refl ha)) (.nd zag .nil) (.sign (by simp) λ_ z=>nomatch z) (by simp [pad,Pl.wt,pwts];omega) (by simp [pad,Pl.nt,pnts]) (by simp [pad,Pl.dp,zeS])⟩
   | @cons p v ps vs h1 h2=>
    rw[b8,zjz];have e0:ps=[]:=by
     cases ps with
     |nil=>rfl
     |cons q qs=>
      have:=h2.len;simp only[aO]at this hle;omega
    subst e0;simp only[pwts,pnts,aO,c5,pds]at p1 p2 p3;exact⟨_, .refl,h p v _ (sub.trans (.put .refl ha)) (h1.sub (.put .refl ha)) (ok p aV) (by omega) (by omega) (by omega)⟩
end
noncomputable def zeN (A:List (Int×Tr)):List (Key×W):=A.map λx=>(Sum.inl x.1,enc x.2)
noncomputable def lkA (A:List (Int×Tr)) (n:Int):Option Tr:=(A.find? λx=>decide (x.1=n)).map (·.2)
noncomputable def smA (A:List (Int×Tr)):Nat:=(A.map λx=>x.2.weight).sum
def NdA (A:List (Int×Tr)):Prop:=(A.map (·.1)).Nodup
theorem zhN{x:Int×Tr}{A:List (Int×Tr)}{n:Int}(h:x.1=n):lkA (x::A) n=ae x.2:=by simp [lkA,bM,h]
theorem zgu{x:Int×Tr}{A:List (Int×Tr)}{n:Int}(h:x.1≠n):lkA (x::A) n=lkA A n:=by simp [lkA,bM,h]
theorem zoS{n:Int}:∀A:List (Int×Tr),vlK (zeN A) (.inl n)=(lkA A n).map enc
 | []=>rfl
 |x::A=>by
  have ih:=zoS (n:=n) A;by_cases h:x.1=n
  ·rw[zhN h];simp [vlK,zeN,h]
  ·rw[zgu h,←ih];simp [vlK,zeN,h]
theorem zud:∀{A:List (Int×Tr)}{x:Int×Tr},NdA A→x∈A→lkA A x.1=ae x.2
 |y::A,x,h,hx=>by
  unfold NdA at h;rw[ay,dw]at h;rcases aA.mp hx with rfl |hx
  ·exact zhN rfl
  ·rw[zgu (λz=>h.1 (by rw[z];exact aG.mpr ⟨x,hx,rfl⟩))];exact zud h.2 hx
theorem zsw:∀{A:List (Int×Tr)}{n:Int},lkA A n=none→ ∀x∈A,x.1≠n
 |y::A,n,h,x,hx=>by
  by_cases e:y.1=n
  ·rw[zhN e]at h;cases h
  ·rw[zgu e]at h;rcases aA.mp hx with rfl |hx
   ·exact e
   ·exact zsw h x hx
theorem zkr:∀{A:List (Int×Tr)}{n m:Int}{t:Tr},lkA A n=none→lkA (A++[(n,t)]) m=if m=n then ae t else lkA A m
 | [],n,m,t,h=>by
  by_cases e:m=n
  ·subst e;rw[if_pos rfl];exact zhN rfl
  ·rw[if_neg e];exact zgu (λz=>e z.symm)
 |y::A,n,m,t,h=>by
  have hy:=zsw h y aV;rw[zgu hy]at h;rw[b8];by_cases e:y.1=m
  ·rw[zhN e,zhN e,if_neg (by rw[←e];exact hy)]
  ·rw[zgu e,zgu e,zkr h]
theorem zAR{n:Int}{t:Tr}{A:List (Int×Tr)}(h:lkA A n=none):ptK (zeN A) (.inl n) (enc t)=zeN (A++[(n,t)]):=by
 unfold ptK;rw[if_neg]
 ·simp [zeN]
 ·intro z;obtain⟨kv,h1,h2⟩:=iU.mp z;obtain⟨x,hx,rfl⟩:=aG.mp h1;have h3:(Sum.inl x.1:Key)= .inl n:=of_decide_eq_true h2;exact zsw h x hx (gP h3)
theorem zwN{n:Int}{t:Tr}{A:List (Int×Tr)}(hn:NdA A) (h:lkA A n=ae t):ptK (zeN A) (.inl n) (enc t)=zeN A:=by
 unfold ptK;have hm:(zeN A).map (λkv=>if kv.1=Sum.inl n then(kv.1,enc t) else kv)=zeN A:=by
  unfold zeN;rw[bg];refine cI λx hx=>?_;simp only[ib];by_cases e:x.1=n
  ·have:=zud hn hx;rw[e,h]at this;cases this;rw[if_pos (by rw[e])]
  ·rw[if_neg (λz=>e (gP z))]
 by_cases e:((zeN A).any λkv=>decide (kv.1=Sum.inl n))=true
 ·rw[if_pos e];exact hm
 ·exfalso;apply e;cases k:A.find? (λx=>decide (x.1=n)) with
  |none=>unfold lkA at h;rw[k]at h;cases h
  |some x=>
   have h1:=cx k;have h2:=jp k;exact iU.mpr ⟨(Sum.inl x.1,enc x.2),aG.mpr ⟨x,h1,rfl⟩,by have:=of_decide_eq_true h2;simp [this]⟩
theorem zyc{n:Int}{t:Tr}{A:List (Int×Tr)}(hn:NdA A) (h:lkA A n=none):NdA (A++[(n,t)]):=by
 unfold NdA at hn⊢;rw[bD,j3];refine⟨hn,by simp,λa ha b hb=>?_⟩
 obtain⟨x,hx,rfl⟩:=aG.mp ha;simp only[ay,cm,bz]at hb;subst hb;exact zsw h x hx
theorem zwS{n:Int}{t:Tr}{A:List (Int×Tr)}:smA (A++[(n,t)])=smA A+t.weight:=by simp [smA]
structure PaOk (P:Tr→Prop) (A A':List (Int×Tr)) (R u:Tr):Prop where
  ex:∀n t,lkA A n=ae t→lkA A' n=ae t
  fl:∀us:List Tr,(∀n t,lkA A' n=ae t→us.getD n.toNat (.bl n)=t)→R.fill us=u
  ps:∀n t,lkA A' n=ae t→P t
  nd:NdA A'
  sm:smA A'≤smA A+u.weight
  ln:A'.length≤A.length+R.weight
  ky:∀m,R.fits m→(∀n t,lkA A n=ae t→0≤n∧n<(m:Int))→ ∀n t,lkA A' n=ae t→0≤n∧n<(m:Int)
structure PaOks (P:Tr→Prop) (A A':List (Int×Tr)) (Rs us:List Tr):Prop where
  ex:∀n t,lkA A n=ae t→lkA A' n=ae t
  fl:∀vs:List Tr,(∀n t,lkA A' n=ae t→vs.getD n.toNat (.bl n)=t)→fills vs Rs=us
  ps:∀n t,lkA A' n=ae t→P t
  nd:NdA A'
  sm:smA A'≤smA A+wts us
  ln:A'.length≤A.length+wts Rs
  ky:∀m,fitss m Rs→(∀n t,lkA A n=ae t→0≤n∧n<(m:Int))→ ∀n t,lkA A' n=ae t→0≤n∧n<(m:Int)
theorem PaOks.cons{P:Tr→Prop}{A A1 A2:List (Int×Tr)}{R u:Tr}{Rs us:List Tr}(h:PaOk P A A1 R u) (k:PaOks P A1 A2 Rs us):PaOks P A A2 (R::Rs) (u::us) where
  ex n t e:=k.ex n t (h.ex n t e)
  fl vs hv:=by rw[fills,h.fl vs λn t e=>hv n t (k.ex n t e),k.fl vs hv]
  ps:=k.ps
  nd:=k.nd
  sm:=by have h1:=h.sm;have h2:=k.sm;rw[zaK];omega
  ln:=by have h1:=h.ln;have h2:=k.ln;rw[zaK];omega
  ky m hm hA:=by rw[fitss]at hm;exact k.ky m hm.2 (h.ky m hm.1 hA)
theorem PaOks.up{P:Tr→Prop}{A A':List (Int×Tr)}{Rs us:List Tr}{s:Str}(k:PaOks P A A' Rs us):PaOk P A A' (.nd s Rs) (.nd s us) where
  ex:=k.ex
  fl vs hv:=by rw[Tr.fill,k.fl vs hv]
  ps:=k.ps
  nd:=k.nd
  sm:=by have h2:=k.sm;rw[Tr.weight];omega
  ln:=by have h2:=k.ln;rw[Tr.weight];omega
  ky m hm hA:=by rw[Tr.fits]at hm;exact k.ky m hm hA
theorem zes{P:Tr→Prop}{r:Nat}{a:Addr}{E:WX}{D:WEnds}{x0 x1:Option W}:∀(ls us:List Tr)
  (one:∀l∈ls,∀{t:Tr}{S:Sto}{A:List (Int×Tr)}{Q:WK}{E:Str→Sto→Prop},t.fits 0→P t→S a=ae (.dk (zeN A))→NdA A→(∀n t,lkA A n=ae t→P t)→A.length+l.weight≤1000→(∀A',PaOk P A A' l t→Q (.ref a) (put S a (.dk (zeN A'))))→(∀A',Q .non (put S a (.dk (zeN A'))))→zaV r [enc l,enc t, .ref a] S Q E)
  {S:Sto}{A:List (Int×Tr)}{x3 x4:Option W},ls.length=us.length→fitss 0 us→(∀t∈us,P t)→S a=ae (.dk (zeN A))→NdA A→(∀n t,lkA A n=ae t→P t)→A.length+wts ls≤1000→
  (∀A' x3 x4,PaOks P A A' ls us→D.nx [x0,x1,ae (.ref a),x3,x4] (put S a (.dk (zeN A'))))→(∀A',D.rt .non (put S a (.dk (zeN A'))))→
  forL (wGT (zaq (wGN 3) (zaq (wGN 4) zbE))) (zdB r (zaV r)) E D (λ_=>True) (pairs (encs ls) (encs us)) [x0,x1,ae (.ref a),x3,x4] S
 | [],[],one,S,A,x3,x4,hl,hf,hp,ha,hn,hA,hw,h1,h0=>by
  have q:=h1 A x3 x4 ⟨λ_ _ h=>h,λ_ _=>by rw[fills],hA,hn,by rw[zel];omega,by rw[zel];omega,λ_ _ h=>h⟩
  rw[zdy ha]at q;simpa [encs,pairs,forL]using q
 | [],u::us,one,S,A,x3,x4,hl,hf,hp,ha,hn,hA,hw,h1,h0=>by simp at hl
 |l::ls,[],one,S,A,x3,x4,hl,hf,hp,ha,hn,hA,hw,h1,h0=>by simp at hl
 |l::ls,u::us,one,S,A,x3,x4,hl,hf,hp,ha,hn,hA,hw,h1,h0=>by
  simp only[fitss]at hf;rw[zaK]at hw;simp only[encs,pairs];refine zbp λN hN=>?_;simp only[zdB];walk_at "wd";refine one l aV hf.1 (hp u aV) ha hn hA (by omega) (λA1 e=>?_) λA1=>?_
  ·walk_at "wd";have:=e.ln;refine hN _ _ _ .refl trivial (zes ls us (λl' hl'=>one l' (aI _ hl')) (by simpa using hl) hf.2 (λt ht=>hp t (aI _ ht)) zag e.nd e.ps (by omega) (λA2 x3 x4 e2=>?_) λA2=>?_)
   ·rw[zba];exact h1 _ _ _ (.cons e e2)
   ·rw[zba];exact h0 _
  ·walk_at "wd";exact h0 A1
theorem zgj{P:Tr→Prop}(hc:∀s ts,P (.nd s ts)→ ∀t∈ts,P t) (hd50:∀t,P t→t.depth≤50) {a:Addr}:∀(d:Nat) {l t:Tr}{r:Nat}{S:Sto}{A:List (Int×Tr)}{Q:WK}{E:Str→Sto→Prop},l.depth≤d→d≤r+1→t.fits 0→P t→S a=ae (.dk (zeN A))→NdA A→(∀n t,lkA A n=ae t→P t)→A.length+l.weight≤1000→
  (∀A',PaOk P A A' l t→Q (.ref a) (put S a (.dk (zeN A'))))→(∀A',Q .non (put S a (.dk (zeN A'))))→zaV (r+1) [enc l,enc t, .ref a] S Q E
 |0,l,t,r,S,A,Q,E,hd,hr,hf,hp,ha,hn,hA,hl,h1,h0=>by have:=zaB l;omega
 |d+1, .bl n,t,r,S,A,Q,E,hd,hr,hf,hp,ha,hn,hA,hl,h1,h0=>by
  rw[zaV];simp only[enc];walk_at "wd";simp only[zmU];walk_at "wd";simp only[zny ha,zpP];rw[zoS];have hlen:(zeN A).length<sizeLine:=by
   have:=zbK (n:=A.length) (by omega);unfold zeN;rw[ax];exact this
  cases e:lkA A n with
  |none=>
   simp only[Option.map_none,fN];rw[zei (by have:=hd50 t hp;omega)];simp only[zqt];walk_at "wd";simp only[zny ha,zpP];rw[zAR e];refine⟨hlen,_, .refl,h1 _ ⟨λm u h=>?_,λus hu=>?_,λm u h=>?_,zyc hn e,by rw[zwS];exact ap _,by rw[Tr.weight];simp,λk hk hA' m u h=>?_⟩⟩
   ·rw[zkr e];by_cases em:m=n
    ·subst em;rw[e]at h;cases h
    ·rw[if_neg em];exact h
   ·rw[Tr.fill];exact hu n t (by rw[zkr e,if_pos rfl])
   ·rw[zkr e]at h;by_cases em:m=n
    ·rw[if_pos em]at h;cases h;exact hp
    ·rw[if_neg em]at h;exact hA m u h
   ·rw[zkr e]at h;by_cases em:m=n
    ·rw[Tr.fits]at hk;subst em;exact hk
    ·rw[if_neg em]at h;exact hA' m u h
  |some v=>
   simp only[eE,eF];rw[zvj 60 v t (by have:=hd50 v (hA n v e);omega)];dsimp only;cases es:v.same t with
   |false=>
    walk_at "wd";have:=h0 A;rw[zdy ha]at this;exact⟨_, .refl,this⟩
   |true=>
    have ev:=(zjx v t).mp es;subst ev;simp only[zqt];walk_at "wd";simp only[zny ha,zpP];rw[zwN hn e];exact⟨hlen,_, .refl,h1 _ ⟨λm u h=>h,λus hu=>by rw[Tr.fill];exact hu n _ e,hA,hn,by omega,by omega,λ_ _ h=>h⟩⟩
 |d+1, .nd s ls, .bl n,r,S,A,Q,E,hd,hr,hf,hp,ha,hn,hA,hl,h1,h0=>by
  simp only[Tr.fits]at hf;omega
 |d+1, .nd s ls, .nd z us,r,S,A,Q,E,hd,hr,hf,hp,ha,hn,hA,hl,h1,h0=>by
  simp only[Tr.fits]at hf;simp only[Tr.depth]at hd;simp only[Tr.weight]at hl;have no:∃S'',Sub S'' S∧Q .non S'':=by
   have:=h0 A;rw[zdy ha]at this;exact⟨_, .refl,this⟩
  rw[zaV];simp only[enc];walk_at "wd";simp only[zaT];by_cases e1:s=z
  ·subst e1;simp only[beq_self_eq_true,gd,bP,if_false];by_cases e2:ls.length=us.length
   ·rw[e2];simp only[beq_self_eq_true,gd,bP,if_false]
    try walk_at "wd"
    have hr1:ls=[]∨ ∃r',r=r'+1:=by
     cases ls with
     |nil=>exact .inl rfl
     |cons l ls=>
      have:=zaB l;rw[zbh]at hd;exact .inr ⟨r - 1,by omega⟩
    refine zes ls us (λl hl' {t S A Q E} f1 f2 f3 f4 f5 f6 f7 f8=>?_) e2 hf (hc _ _ hp) ha hn hA (by omega) (λA' x3 x4 e=>?_) λA'=>?_
    ·rcases hr1 with rfl |⟨r,rfl⟩
     ·cases hl'
     ·exact zgj hc hd50 d (by have:=zbq hl';omega) (by omega) f1 f2 f3 f4 f5 f6 f7 f8
    ·walk_at "wd";exact⟨_, .refl,h1 A' e.up⟩
    ·exact⟨_, .refl,h0 A'⟩
   ·have:(((ls.length+1:Nat):Int) == ((us.length+1:Nat):Int))=false:=by simp;omega
    simp only[this,fK,if_true];exact no
  ·have:(s == z)=false:=by simp [e1]
   simp only[this,fK,if_true];exact no
theorem zil{E:WX}{D:WEnds}{x0:Option W}{r:Nat}:∀(ts:List Tr) (one:∀u∈ts,∀{S:Sto}{Q:WK}{E:Str→Sto→Prop},(∀S' b,Sub S S'→S' b=ae (.lst ((u.pl []).map zbo))→Q (.ref b) S')→zaJ r [enc u] S Q E) (i:Nat) {acc:List (List Int)}{f:Addr}{S:Sto}{x2 x3:Option W},S f=ae (.lst (acc.map zbo))→acc.length+wts ts≤100000→dts ts≤1000→
  (∀S' g x2 x3,Sub S S'→S' g=ae (.lst ((acc++pls [] i ts).map zbo))→D.nx [x0,ae (.ref g),x2,x3] S')→forL (wGT (zaq (wGN 2) (zaq (wGN 3) zbE))) (zcf r (zaJ r)) E D (λ_=>True) (zht i (encs ts)) [x0,ae (.ref f),x2,x3] S
 | [],one,i,acc,f,S,x2,x3,hf,hl,hd,h=>by
  have:=h S f x2 x3 .refl (by simpa [pls]using hf);simpa [forL,zht,encs]using this
 |t::ts,one,i,acc,f,S,x2,x3,hf,hl,hd,h=>by
  simp only[dts]at hd;simp only[wts]at hl;simp only[encs,zht];refine zbp λN hN=>?_;simp only[zcf];walk_at "wd";refine one t aV λS1 b sb hb=>?_;dsimp only;rw[zaj hb];have hpl:(t.pl []).length=t.weight:=by rw[←zfb,ax,zgl]
  refine zaL (λσ=>∃x,σ=[x,ae (.int i)]) zbo (λq=>zbo ((i:Int)::q)) hb (t.pl []) [] _ ⟨none,rfl⟩ (by simp;omega) (λq hq σ R hI hR=>?_) ?_
  ·obtain⟨x,rfl⟩:=hI;have hq2:=zzd hq;simp only[zdi];walk_at "wd";have e1:W.tup [.int (i:Int)]=zbo [(i:Int)]:=rfl;rw[e1,ztF];refine⟨zal (by decide),zal (by simp at hq2⊢;omega),hR _ _ ⟨_,rfl⟩ .refl⟩
  ·rw[aY,zaj (sb _ _ hf)];refine⟨zal (by simp;omega),λa ha=>?_⟩;have e:acc.map zbo++(t.pl []).map (λq=>zbo ((i:Int)::q))=(acc++t.pl [(i:Int)]).map zbo:=by
    have:=zus [(i:Int)] t [];rw[bK]at this;rw[bD,this,bg];rfl
   rw[e];have hpl2:(t.pl [(i:Int)]).length=t.weight:=by rw[←zfb,ax,zgl]
   refine hN _ _ _ .refl trivial (zil ts (λu hu=>one u (aI _ hu)) (i+1) zag (by simp;omega) (by omega) λS' g x2 x3 sb' hg=>?_);exact h S' g x2 x3 ((sb.trans (.new ha)).trans sb') (by rw[pls,←bL];exact hg)
theorem zmH:∀(d:Nat) {t:Tr}{r:Nat}{S:Sto}{Q:WK}{E:Str→Sto→Prop},t.depth≤d→d≤r→t.weight≤1000→t.depth≤1000→t.fits 0→(∀S' b,Sub S S'→S' b=ae (.lst ((t.pl []).map zbo))→Q (.ref b) S')→zaJ (r+1) [enc t] S Q E
 |0,t,r,S,Q,E,hd,hr,hw,hz,ht,h=>by have:=zaB t;omega
 |d+1, .bl n,r,S,Q,E,hd,hr,hw,hz,ht,h=>by
  rw[Tr.fits]at ht;omega
 |d+1, .nd s ts,r,S,Q,E,hd,hr,hw,hz,ht,h=>by
  simp only[Tr.depth]at hd hz;simp only[Tr.weight]at hw;rw[Tr.fits]at ht;obtain⟨r,rfl⟩:∃r',r=r'+1:=⟨r - 1,by omega⟩
  rw[zaJ];simp only[enc];walk_at "wd";refine⟨zal (by decide),zal (by decide),λa ha=>?_⟩;have en:W.tup (.str s::encs ts)=enc (.nd s ts):=by simp [enc]
  try walk_at "wd"
  refine zil ts (λu hu {S Q E} q=>zmH d (by have:=zbq hu;omega) (by omega) (by have:=zdD hu;omega) (by have:=zbq hu;omega) (zfl ht hu) q) 0 (acc:=[[]]) zag (by simp;omega) (by omega) λS' g x2 x3 sb hg=>?_;walk_at "wd";exact⟨_, .refl,h _ g ((Sub.new ha).trans sb) (by rw[Tr.pl];exact hg)⟩
section
theorem znI{m:Nat}:∀{ts:List Tr},(∀t∈ts,t.fits m)→fitss m ts
 | [],_=>by rw[fitss];trivial
 |t::ts,h=>by rw[fitss];exact⟨h t aV,znI λu hu=>h u (aI _ hu)⟩
mutual
theorem zjj{us:List Tr}{k:Nat}(hk:1≤k) (hu:∀u∈us,u.depth≤k):∀t:Tr,(t.fill us).depth+1≤t.depth+k
 | .bl n=>by
  rw[Tr.fill,Tr.depth,bv];cases e:us[n.toNat]? with
  |none=>simp only[fN,Tr.depth];omega
  |some v=>have:=hu v (aR e);simp only[eF];omega
 | .nd s ts=>by
  have:=zkz hk hu ts;rw[Tr.fill,Tr.depth,Tr.depth];omega
theorem zkz{us:List Tr}{k:Nat}(hk:1≤k) (hu:∀u∈us,u.depth≤k):∀ts:List Tr,dts (fills us ts)+1≤dts ts+k
 | []=>by rw[fills,zfd];omega
 |t::ts=>by
  have h1:=zjj hk hu t;have h2:=zkz hk hu ts;rw[fills,zbh,zbh];omega
end
theorem Sh.fit (K:Bk3 ws B):∀(n:Nat) {X:Tr},X.depth≤n→Sh ws B X→X.fits 0
 |0,X,hn,h=>by have:=zaB X;omega
 |n+1,X,hn,h=>by
  obtain⟨s,ts,rfl,_,_,k⟩:=h.cases K;rw[Tr.depth]at hn;rw[Tr.fits];exact znI λt ht=>Sh.fit K n (by have:=zbq ht;omega) (k t ht)
theorem Sh.kid (K:Bk3 ws B) {s:Str}{ts:List Tr}(h:Sh ws B (.nd s ts)):∀t∈ts,Sh ws B t:=by
 obtain⟨s',ts',e,_,_,k⟩:=h.cases K;cases e;exact k
theorem Sh.part (K:Bk3 ws B):∀(q:List Int) {X u:Tr},Sh ws B X→X.at q=ae u→Sh ws B u
 | [],X,u,h,e=>by
  rw[zgV]at e;cases e;exact h
 |i::q, .bl n,u,h,e=>by cases e
 |i::q, .nd s ts,u,h,e=>by
  obtain⟨v,h0,h1,h2⟩:=zgB e;exact Sh.part K q (h.kid K v (aR h1)) h2
structure Bw (ws:List Str) (B:List Tn) (X x:Tr):Prop where
  wy:Wy ws B x
  go:gol B x=X
  sw:(src B x).weight≤X.weight+6
  sd:(src B x).depth≤X.depth+3
  ne:x.ne B≤1
noncomputable def zbr (A:List (Int×Tr)) (c:Tr) (m:Nat):List Tr:=(aX m).map λn:Nat=>(lkA A (n:Int)).getD c
theorem znO{A:List (Int×Tr)}{c t:Tr}{m:Nat}{n:Int}(h:lkA A n=ae t) (h0:0≤n) (hm:n<m):(zbr A c m).getD n.toNat (.bl n)=t:=by
 unfold zbr;rw[bv,bj,fR (by omega)];simp only[eE,eF];rw[cR h0,h,eF]
theorem zna:∀(A:List (Int×Tr)) (c:Tr) (m:Nat),c.weight=1→wts (zbr A c m)≤smA A+m
 | [],c,m,hc=>by
  unfold zbr;have:∀l:List Nat,wts (l.map λn:Nat=>(lkA [] (n:Int)).getD c)=l.length:=λl=>by
   induction l with
   |nil=>rfl
   |cons n l ih=>
    rw[ay,zaK,ih];show c.weight+_=_;rw[hc,aO];omega
  rw[this,jF];omega
 |x::A,c,m,hc=>by
  have ih:=zna A c m hc;have key:∀l:List Nat,l.Nodup→wts (l.map λn:Nat=>(lkA (x::A) (n:Int)).getD c)≤wts (l.map λn:Nat=>(lkA A (n:Int)).getD c)+(if x.1.toNat∈l then x.2.weight else 0):=λl=>by
   induction l with
   |nil=>intro _;simp
   |cons n l il=>
    intro hn;rw[dw]at hn;have il:=il hn.2;rw[ay,ay,zaK,zaK];by_cases e:x.1=(n:Int)
    ·rw[zhN e,eF];have e':x.1.toNat=n:=by omega
     rw[e']at il⊢;rw[if_neg hn.1]at il;rw[if_pos aV];omega
    ·rw[zgu e];have:(if x.1.toNat∈l then x.2.weight else 0)≤if x.1.toNat∈n::l then x.2.weight else 0:=by
      by_cases z:x.1.toNat∈l
      ·rw[if_pos z,if_pos (aI _ z)];exact ap _
      ·rw[if_neg z];exact aS _
     omega
  have k:=key (aX m) iS;have sm:smA (x::A)=x.2.weight+smA A:=by simp [smA]
  have:(if x.1.toNat∈aX m then x.2.weight else 0)≤x.2.weight:=by split<;>omega
  unfold zbr at ih⊢;omega
end
theorem zwd{S:Sto}{a b:Addr}{xs:List W}(ha:S a=ae (.lst xs)) (hb:S b=ae (.lst [])):eqF S 60 (.ref a) (.ref b)=ae xs.isEmpty:=by
 show(match S a with
  |some (.lst xs)=>match S b with
   |some (.lst ys)=>zfS (eqF S 59) xs ys
   |_=>none
  |_=>none)=ae xs.isEmpty
 rw[ha,hb];cases xs<;>rfl
section
noncomputable def zcI (x:Tr×Bool):W:= .tup [enc x.1, .bl x.2]
end
section
variable {ws:List Str}{B:List Tn}{S:Sto}{a:Addr}{t:Tr}{r:Nat}{Q:WK}{E:Str→Sto→Prop}
theorem Two.ok_srcV{x y:Tr}(h:Two ws B x y) (ha:S a=ae (.lst (B.map zaY))) (hr:60≤r) (q:Q (enc (src B x)) S):zdw (r+1) [.ref a,enc x] S Q E:=by
 obtain⟨p,c,d,k,hc,hd,rfl,rfl⟩:=h.ex;rw[show src B (p.ev B c)=_ from zfF k.b k.o]at q;exact k.ok_source ha hr q
structure VaS (S S':Sto) (X Y:Tr) (fs os:List Tr) (f o:Addr):Prop where
  sb:Sub S S'
  ff:S' f=ae (.lst (fs.map enc))
  fo:S' o=ae (.lst (os.map enc))
  nf:S f=none
  no:S o=none
  ne:f≠o
theorem zBp{A C:WS}{EX:WX}{D:WEnds}{S':Sto}{x0 x1 x2 x3 x4 x5 x7 x8 x9 x10:Option W}{b:Bool}(h:(if b=true then A else C) EX D [x0,x1,x2,x3,x4,x5,ae (.bl b),x7,x8,x9,x10] S'):zbS (zgi (zae 6)) A C EX D [x0,x1,x2,x3,x4,x5,ae (.bl b),x7,x8,x9,x10] S':=by
 walk_at "wd";cases b with
 |true=>exact h
 |false=>exact h
theorem ztQ{T:WS}{EX:WX}{D:WEnds}{X Y x:Tr}{f o l:Addr}{S':Sto}{x7 x8 x9 x10:Option W}{b:Bool}(fb:S' a=ae (.lst (B.map zaY))) (hr:66≤r) {y:Tr}(h2:Two ws B x y) (hY:(if b=true then src B x else gol B x)=Y) (hd:Y.depth≤40) (h:T EX D [ae (.ref a),ae (enc X),ae (.ref l),ae (.tup [enc X, .ref f]),ae (.tup [enc Y, .ref o]),ae (enc x),ae (.bl b),ae (enc (src B x)),ae (enc (gol B x)),ae (enc Y),x10] S') :
  zar (wAsg (zap (zdw (r+1)) (zab (zae 0) (zab (zae 5) waNil))) (wGN 7))
  (zar (wAsg (zap (zfx (r+1)) (zab (zae 0) (zab (zae 5) waNil))) (wGN 8))
  (zar (wAsg (wIf (zgi (zae 6)) (zae 7) (zae 8)) (wGN 9))
  (zar (zbS (wTb (wOp (oEq true) (zae 9) (wOp oIx (zae 4) (wC (.int 0))))) (zhq "Apart" (zab (wC (.str "a step does not stand where the winding stands")) waNil)) zaF) T)))
  EX D [ae (.ref a),ae (enc X),ae (.ref l),ae (.tup [enc X, .ref f]),ae (.tup [enc Y, .ref o]),ae (enc x),ae (.bl b),x7,x8,x9,x10] S':=by
 walk_at "wd";refine h2.ok_srcV fb (by omega) ?_;refine h2.ok_goal fb (by omega) ?_;cases b with
 |true=>
  simp only[if_true]at hY
  try walk_at "wd"
  rw[hY]at h⊢;rw[zei (by omega)];exact h
 |false=>
  simp only[bP,if_false]at hY
  try walk_at "wd"
  rw[hY]at h⊢;rw[zei (by omega)];exact h
theorem zyK{EX:WX}{D:WEnds}{GS:Sto→Prop}{rest:List W}{X Y x:Tr}{fs os:List Tr}{f o l:Addr}{S':Sto}{x5 x6 x7 x8 x9 x10:Option W}(fb:S a=ae (.lst (B.map zaY))) (hr:66≤r) (h2:Two ws B x Y) (w2:src B x=Y) (hc:Cells ws B [x] os) (ht:∀z∈os,∃y,Two ws B z y) (hbd:Y.weight≤400∧Y.depth≤40) (hol:os.length≤700) (hfl:fs.length≤100) (st:VaS S S' X Y fs os f o) (hG:∀S'',Sub S S''→GS S'')
  (k:∀S'' f' o' x10,VaS S S'' X (gol B x) (fs++zdP B [x] os) (zgE B [x] os) f' o'→forL (wGT (zaq (wGN 5) (zaq (wGN 6) zbE))) (zcm (r+1) zaU) EX D GS rest [ae (.ref a),ae (enc X),ae (.ref l),ae (.tup [enc X, .ref f']),ae (.tup [enc (gol B x), .ref o']),ae (enc x),ae (.bl true),ae (enc Y),ae (enc (gol B x)),ae (enc Y),x10] S'') :
  forL (wGT (zaq (wGN 5) (zaq (wGN 6) zbE))) (zcm (r+1) zaU) EX D GS (zcI (x,true)::rest) [ae (.ref a),ae (enc X),ae (.ref l),ae (.tup [enc X, .ref f]),ae (.tup [enc Y, .ref o]),x5,x6,x7,x8,x9,x10] S':=by
 have fb':=st.sb _ _ fb;refine zbp λN hN=>?_;simp only[zcI];rw[zoC];show zaq (wGN 5) (zaq (wGN 6) zbE) [enc x, .bl true] _ S' _;simp only[zdW,zgX,zfW,dS,dU];rw[zcm];refine ztQ (b:=true) fb' hr h2 w2 hbd.2 (zBp ?_);rw[if_pos rfl,w2];walk_at "wd";refine⟨by decide,λl1 hl1=>?_⟩
 try walk_at "wd"
 have s1:Sub S' (put S' l1 (.lst [enc x])):= .put .refl hl1;have f1:put S' l1 (.lst [enc x]) l1=ae (.lst ([x].map enc)):=zag;generalize put S' l1 (.lst [enc x])=S1 at s1 f1⊢;refine⟨by decide,?_⟩;refine zwo (t:=Y) (xs:=[x]) (os:=os) (s1 _ _ fb') f1 (s1 _ _ st.fo) hc (λz hz=>by simp only[bz]at hz;subst hz;exact⟨_,h2⟩) ht hbd.1 hbd.2 (by simp) (by omega) (by omega) λS2 d ov g=>?_
 obtain⟨ds,rs,g1,g2,g3,g4⟩:=g.ex;obtain⟨pl,el⟩:=zkV (B:=B) [x] os;rw[el]at g4;obtain⟨pre,ρ,rfl,Aρ⟩:=zhz g4;rw[bD]at g2;have s2:Sub S' S2:=s1.trans g.sub
 try walk_at "wd"
 rw[show atI [enc X,W.ref f] 1=ae (.ref f) from rfl]
 try walk_at "wd"
 refine zkk (xs:=[x]) (os:=os) g1 (by simp) g3 λq hq=>?_;have s3:Sub S2 (put S2 q (.lst ((zdP B [x] os).map enc))):= .put .refl hq;have fq:put S2 q (.lst ((zdP B [x] os).map enc)) q=ae (.lst ((zdP B [x] os).map enc)):=zag;generalize put S2 q (.lst ((zdP B [x] os).map enc))=S3 at s3 fq⊢
 try walk_at "wd"
 rw[zaj (s3 _ _ (s2 _ _ st.ff)),zaj fq];have ld:=zgN (B:=B) [x] os;refine⟨zal (by simp only[ax,ld,bF];omega),λf' hf'=>?_⟩;rw[←bD];have s4:Sub S3 (put S3 f' (.lst ((fs++zdP B [x] os).map enc))):= .put .refl hf';have ff':put S3 f' (.lst ((fs++zdP B [x] os).map enc)) f'=ae (.lst ((fs++zdP B [x] os).map enc)):=zag;have sS:Sub S S3:=st.sb.trans (s2.trans s3);have nf':S f'=none:=zfs sS hf';have hρ3:S3 ρ=ae (.lst ((zgE B [x] os).map enc)):=s3 _ _ Aρ.e;have nρ:S ρ=none:=zfs (st.sb.trans s1) Aρ.z;have nef:f'≠ρ:=by rintro rfl;rw[hρ3]at hf';cases hf'
 generalize put S3 f' (.lst ((fs++zdP B [x] os).map enc))=S4 at s4 ff'⊢
 try walk_at "wd"
 rw[show atI [W.ref d,W.ref ov] 1=ae (.ref ov) from rfl]
 try walk_at "wd"
 rw[zaj (s4 _ _ (s3 _ _ g2)),show [ρ].map W.ref=[W.ref ρ] from rfl,zmk]
 try walk_at "wd"
 have sub4:Sub S S4:=sS.trans s4;have cells:VaS S S4 X (gol B x) (fs++zdP B [x] os) (zgE B [x] os) f' ρ:=⟨sub4,ff',s4 _ _ hρ3,nf',nρ,nef⟩;have go:=k S4 f' ρ (ae (.tup [.ref d, .ref ov])) cells
 first |exact⟨by decide,by decide,hN _ _ _ .refl (hG _ sub4) go⟩ |exact⟨by decide,hN _ _ _ .refl (hG _ sub4) go⟩ |exact hN _ _ _ .refl (hG _ sub4) go
theorem zxV{EX:WX}{D:WEnds}{GS:Sto→Prop}{rest:List W}{X Y x:Tr}{fs os:List Tr}{f o l:Addr}{S':Sto}{x5 x6 x7 x8 x9 x10:Option W}(fb:S a=ae (.lst (B.map zaY))) (hr:66≤r) (h2:Two ws B x (src B x)) (w2:gol B x=Y) (hbd:Y.weight≤400∧Y.depth≤40) (hol:os.length≤700) (st:VaS S S' X Y fs os f o) (hG:∀S'',Sub S S''→GS S'')
  (k:∀S'' o',VaS S S'' X (src B x) fs (x::os) f o'→forL (wGT (zaq (wGN 5) (zaq (wGN 6) zbE))) (zcm (r+1) zaU) EX D GS rest [ae (.ref a),ae (enc X),ae (.ref l),ae (.tup [enc X, .ref f]),ae (.tup [enc (src B x), .ref o']),ae (enc x),ae (.bl false),ae (enc (src B x)),ae (enc Y),ae (enc Y),x10] S'') :
  forL (wGT (zaq (wGN 5) (zaq (wGN 6) zbE))) (zcm (r+1) zaU) EX D GS (zcI (x,false)::rest) [ae (.ref a),ae (enc X),ae (.ref l),ae (.tup [enc X, .ref f]),ae (.tup [enc Y, .ref o]),x5,x6,x7,x8,x9,x10] S':=by
 have fb':=st.sb _ _ fb;refine zbp λN hN=>?_;simp only[zcI];rw[zoC];show zaq (wGN 5) (zaq (wGN 6) zbE) [enc x, .bl false] _ S' _;simp only[zdW,zgX,zfW,dS,dU];rw[zcm];refine ztQ (b:=false) fb' hr h2 w2 hbd.2 (zBp ?_);rw[if_neg (by decide),w2];walk_at "wd";rw[show atI [enc Y,W.ref o] 1=ae (.ref o) from rfl]
 try walk_at "wd"
 rw[zaj st.fo]
 try simp only[ax]
 refine⟨by decide,zal (by first |omega | (simp only[aO,c5,ax];omega)),λo' ho'=>?_⟩;have s1:Sub S' (put S' o' (.lst ((x::os).map enc))):= .put .refl ho';have fo':put S' o' (.lst ((x::os).map enc)) o'=ae (.lst ((x::os).map enc)):=zag;have no':S o'=none:=zfs st.sb ho';have nef:f≠o':=by rintro rfl;rw[st.ff]at ho';cases ho'
 try rw[show [enc x]++os.map enc=(x::os).map enc from rfl]
 try rw[show enc x::os.map enc=(x::os).map enc from rfl]
 generalize put S' o' (.lst ((x::os).map enc))=S1 at s1 fo'⊢
 try walk_at "wd"
 have sub1:Sub S S1:=st.sb.trans s1;have cells:VaS S S1 X (src B x) fs (x::os) f o':=⟨sub1,s1 _ _ st.ff,fo',st.nf,no',nef⟩;have go:=k S1 o' cells
 first |exact⟨by decide,by decide,hN _ _ _ .refl (hG _ sub1) go⟩ |exact⟨by decide,hN _ _ _ .refl (hG _ sub1) go⟩ |exact hN _ _ _ .refl (hG _ sub1) go
end
section
variable {S:Sto}{Q:WK}
theorem zvz{T:Tr}:oIs false (enc T) .non S Q=Q (.bl false) S:=by
 cases T with
 |bl n=>simp only[enc,zqW]
 |nd s ts=>simp only[enc,zqV]
end
mutual
noncomputable def Tr.mq (op:Nat→Nat→Nat) (f:Tn→Nat) (B:List Tn):Tr→Nat
 | .bl _=>0
 | .nd s ts=>(match zaN B s with
  |none=>0
  |some t=>f t)+mqs op f B ts
noncomputable def mqs (op:Nat→Nat→Nat) (f:Tn→Nat) (B:List Tn):List Tr→Nat
 | []=>0
 |t::ts=>op (t.mq op f B) (mqs op f B ts)
end
structure Opq (op:Nat→Nat→Nat):Prop where
  m:∀{a b c d:Nat},a≤c→b≤d→op a b≤op c d
  s:∀{a b c d:Nat},op (a+b) (c+d)≤op a c+op b d
  z:op 0 0=0
theorem zhO:Opq λa b=>a+b:=⟨λh1 h2=>Nat.add_le_add h1 h2,λ{a b c d}=>by omega,rfl⟩
theorem zhw:Opq λa b=>max a b:=⟨λ{a b c d} h1 h2=>by omega,λ{a b c d}=>by omega,rfl⟩
structure Mq (op:Nat→Nat→Nat) (f:Tn→Nat) (B:List Tn):Prop where
  o:Opq op
  l1:∀t∈B,∀us:List Tr,us.length=t.2.1.nb→mqs op f B us≤(t.2.1.fill us).mq op f B
  l2:∀t∈B,∀us:List Tr,us.length=t.2.1.nb→(t.2.1.fill us).mq op f B≤mqs op f B us
  r:∀t∈B,∀us:List Tr,us.length=t.2.1.nb→(t.2.2.fill us).mq op f B≤mqs op f B us
mutual
noncomputable def Pl.mq (op:Nat→Nat→Nat) (f:Tn→Nat) (B:List Tn):Pl→Nat
 | .nd k _ _ ps=>(if k<0 then 0 else match B[k.toNat]? with
  |some t=>f t
  |none=>0)+zlN op f B ps
noncomputable def zlN (op:Nat→Nat→Nat) (f:Tn→Nat) (B:List Tn):List Pl→Nat
 | []=>0
 |p::ps=>op (p.mq op f B) (zlN op f B ps)
end
section
variable {ws:List Str}{B:List Tn}{op:Nat→Nat→Nat}{f:Tn→Nat}
theorem zbe{s:Str}{ts:List Tr}(h:zaN B s=none):(Tr.nd s ts).mq op f B=mqs op f B ts:=by rw[Tr.mq,h];exact bO _
theorem znR{s:Str}{ts:List Tr}{t:Tn}(h:zaN B s=ae t):(Tr.nd s ts).mq op f B=f t+mqs op f B ts:=by rw[Tr.mq,h]
theorem zjv{b:Int}{h:Str}{ps:List Pl}:(Pl.nd (-1) b h ps).mq op f B=zlN op f B ps:=by rw[Pl.mq,if_pos (by decide)];exact bO _
theorem ziI{k:Nat}{b:Int}{h:Str}{ps:List Pl}{t:Tn}(e:B[k]? =ae t):(Pl.nd k b h ps).mq op f B=f t+zlN op f B ps:=by
 rw[Pl.mq,if_neg (by omega),bW,e]
theorem zpa (o:Opq op) {g h:Pl→Tr}:∀(ps:List Pl),(∀p∈ps,(g p).mq op f B≤(h p).mq op f B)→mqs op f B (ps.map g)≤mqs op f B (ps.map h)
 | [],_=>ap _
 |p::ps,k=>by
  rw[ay,ay,mqs,mqs];exact o.m (k p aV) (zpa o ps λq hq=>k q (aI _ hq))
theorem zeA (o:Opq op):∀(ts:List Tr),(∀t∈ts,t.mq op f B=0)→mqs op f B ts=0
 | [],_=>by rw[mqs]
 |t::ts,h=>by rw[mqs,h t aV,zeA o ts λu hu=>h u (aI _ hu)];exact o.z
theorem zmi (o:Opq op) {c d:Int→Nat}:∀(ps:List Pl),(∀p∈ps,p.mq op f B≤(p.ev B c).mq op f B+(p.ev B d).mq op f B)→zlN op f B ps≤mqs op f B (ps.map (Pl.ev B c))+mqs op f B (ps.map (Pl.ev B d))
 | [],_=>by rw[zlN];exact aS _
 |p::ps,h=>by
  rw[zlN,ay,ay,mqs,mqs];exact a9 (o.m (h p aV) (zmi o ps λq hq=>h q (aI _ hq))) o.s
theorem zub (M:Mq op f B) (b:BkOk ws ws B) {t:Tn}(ht:t∈B) {us:List Tr}(hl:us.length=t.2.1.nb) {n:Nat}(hn:n≤1):mqs op f B us+n*f t≤(evT t n us).mq op f B:=by
 by_cases h1:n=1
 ·subst h1;show _≤(Tr.nd t.1 us).mq op f B;rw[znR (zca b.nd ht)];omega
 ·rw[show n=0 by omega]
  have:=M.l1 t ht us hl;show _+0*_≤(t.2.1.fill us).mq op f B;omega
theorem ztB (M:Mq op f B) (b:BkOk ws ws B) {c d:Int→Nat}(hc:One c) (hd:One d) {p:Pl}(h:PlOk ws B p) (hb:PlB (λx=>c x=1∨d x=1) p):p.mq op f B≤(p.ev B c).mq op f B+(p.ev B d).mq op f B:=by
 induction h with
 | @sign b' h ps hh hp ih=>
  have kids:∀p∈ps,PlB (λx=>c x=1∨d x=1) p:=by
   cases hb with
   |sign h=>exact h
  have e:=zaX b.ti (b.sg h hh);rw[zaR,zaR,zjv,zbe e,zbe e];exact zmi M.o ps λp hp=>ih p hp (kids p hp)
 | @turn k b' h ps t e hl b0 b1 hp ih=>
  have ht:t∈B:=aR e;obtain⟨hb1,kids⟩:(c b'=1∨d b'=1)∧ ∀p∈ps,PlB (λx=>c x=1∨d x=1) p:=by
   cases hb with
   |turn h1 h2=>exact⟨h1,h2⟩
  have key:=zmi M.o (c:=c) (d:=d) ps λp hp=>ih p hp (kids p hp);have lo:∀c:Int→Nat,One c→mqs op f B (ps.map (Pl.ev B c))+c b'*f t≤(evT t (c b') (ps.map (Pl.ev B c))).mq op f B:=λc hc=>zub M b ht (by rw[ax,hl]) (by have:=hc b' b0 b1;omega);rw[zaG e,zaG e,ziI e];have h1:=lo c hc;have h2:=lo d hd;have h3:f t≤c b'*f t+d b'*f t:=by
   rcases hb1 with z |z
   ·rw[z];omega
   ·rw[z];omega
  omega
theorem zqY (M:Mq op f B) (b:BkOk ws ws B) {c d:Int→Nat}(hc:One c) (hd:One d) {p:Pl}(h:PlOk ws B p):(p.ev B (zjp c d)).mq op f B≤(p.ev B c).mq op f B:=by
 induction h with
 | @sign b' h ps hh hp ih=>
  have e:=zaX b.ti (b.sg h hh);rw[zaR,zaR,zbe e,zbe e];exact zpa M.o ps ih
 | @turn k b' h ps t e hl b0 b1 hp ih=>
  have ht:t∈B:=aR e;have key:=zpa M.o ps ih;have l1:(ps.map (Pl.ev B c)).length=t.2.1.nb:=by rw[ax,hl]
  have l2:(ps.map (Pl.ev B (zjp c d))).length=t.2.1.nb:=by rw[ax,hl]
  have low:=zub M b ht l1 (n:=c b') (by have:=hc b' b0 b1;omega);rw[zaG e,zaG e];refine a9 ?_ low;have hp:zjp c d b'=if d b'=1 then 2 else c b':=rfl;rw[hp];by_cases dz:d b'=1
  ·rw[if_pos dz];have:=M.r t ht _ l2;show(t.2.2.fill _).mq op f B≤_;omega
  ·rw[if_neg dz];have:=hc b' b0 b1;by_cases h1:c b'=1
   ·rw[h1];show(Tr.nd t.1 _).mq op f B≤_;rw[znR (zca b.nd ht)];omega
   ·rw[show c b'=0 by omega]
    have:=M.l2 t ht _ l2;show(t.2.1.fill _).mq op f B≤_;omega
theorem zyG (M:Mq op f B) (b:BkOk ws ws B) {p:Pl}(h:PlOk ws B p):(p.ev B zr).mq op f B=0:=by
 induction h with
 | @sign b' h ps hh hp ih=>
  rw[zaR,zbe (zaX b.ti (b.sg h hh))];exact zeA M.o _ λu hu=>by
   obtain⟨p,hp,rfl⟩:=aG.mp hu;exact ih p hp
 | @turn k b' h ps t e hl b0 b1 hp ih=>
  have ht:t∈B:=aR e;rw[zaG e];show(t.2.1.fill _).mq op f B=0;have h1:=M.l2 t ht (ps.map (Pl.ev B zr)) (by rw[ax,hl]);have h2:mqs op f B (ps.map (Pl.ev B zr))=0:=zeA M.o _ λu hu=>by
   obtain⟨p,hp,rfl⟩:=aG.mp hu;exact ih p hp
  omega
end
noncomputable def ffT (t:Tn):Nat:=if t.2.2.kids.isEmpty then 0 else 1
noncomputable def mW (B:List Tn):Tr→Nat:=Tr.mq (λa b=>a+b) (λ_=>1) B
noncomputable def mD (B:List Tn):Tr→Nat:=Tr.mq (λa b=>max a b) ffT B
structure Thn (ws:List Str) (B:List Tn):Prop where
  K:Bk3 ws B
  W:Mq (λa b=>a+b) (λ_=>1) B
  D:Mq (λa b=>max a b) ffT B
  rw:∀t∈B,∀us:List Tr,us.length=t.2.1.nb→(t.2.2.fill us).weight≤4+wts us
  rd:∀t∈B,∀(us:List Tr) (m:Nat),us.length=t.2.1.nb→(∀u∈us,u.depth≤m)→(t.2.1.nb=0→m=0)→(t.2.1.nb≠0→1≤m)→(t.2.2.fill us).depth≤1+m+ffT t
  ld:∀t∈B,t.2.1.depth≤3
section
variable {ws:List Str}{B:List Tn}
theorem zmg{c:Int→Nat}:∀(ps:List Pl),(∀p∈ps,(p.ev B c).weight≤(p.ev B zr).weight+3*p.mq (λa b=>a+b) (λ_=>1) B)→wts (ps.map (Pl.ev B c))≤wts (ps.map (Pl.ev B zr))+3*zlN (λa b=>a+b) (λ_=>1) B ps
 | [],_=>by simp [wts]
 |p::ps,h=>by
  have h1:=h p aV;have h2:=zmg ps λq hq=>h q (aI _ hq);rw[ay,ay,zaK,zaK,zlN];omega
theorem Thn.weight (H:Thn ws B) {c:Int→Nat}{p:Pl}(h:PlOk ws B p):(p.ev B c).weight≤(p.ev B zr).weight+3*p.mq (λa b=>a+b) (λ_=>1) B:=by
 induction h with
 | @sign b' h ps hh hp ih=>
  have:=zmg ps ih;rw[zaR,zaR,Tr.weight,Tr.weight,zjv];omega
 | @turn k b' h ps t e hl b0 b1 hp ih=>
  have ht:t∈B:=aR e;have hs:=zmg ps ih;have l1:(ps.map (Pl.ev B c)).length=t.2.1.nb:=by rw[ax,hl]
  have l0:(ps.map (Pl.ev B zr)).length=t.2.1.nb:=by rw[ax,hl]
  obtain⟨f1,_,_⟩:=H.K.O.fill ht l1;obtain⟨f2,f3,_⟩:=H.K.O.fill ht l0;rw[zaG e,zaG e,ziI e,show zr b'=0 from rfl];show(evT t (c b') _).weight≤(t.2.1.fill (ps.map (Pl.ev B zr))).weight+_;unfold evT;split
  ·omega
  ·rw[Tr.weight];omega
  ·have:=H.rw t ht _ l1;omega
mutual
theorem zmY{us vs:List Tr}{k:Nat}(h:∀(n:Nat) (m:Int),(vs.getD n (.bl m)).depth≤(us.getD n (.bl m)).depth+k):∀t:Tr,(t.fill vs).depth≤(t.fill us).depth+k
 | .bl n=>by rw[Tr.fill,Tr.fill];exact h _ _
 | .nd s ts=>by
  have:=zkK h ts;rw[Tr.fill,Tr.fill,Tr.depth,Tr.depth];omega
theorem zkK{us vs:List Tr}{k:Nat}(h:∀(n:Nat) (m:Int),(vs.getD n (.bl m)).depth≤(us.getD n (.bl m)).depth+k):∀ts:List Tr,dts (fills vs ts)≤dts (fills us ts)+k
 | []=>by rw[fills,fills];omega
 |t::ts=>by
  have h1:=zmY h t;have h2:=zkK h ts;rw[fills,fills,zbh,zbh];omega
end
theorem znD{p:Pl}:∀{ps:List Pl},p∈ps→p.mq (λa b=>max a b) ffT B≤zlN (λa b=>max a b) ffT B ps
 |q::ps,h=>by
  rw[zlN];rcases aA.mp h with rfl |h
  ·exact gU _ _
  ·exact a9 (znD h) (iN _ _)
theorem zlZ{c:Int→Nat}:∀(ps:List Pl),(∀p∈ps,(p.ev B c).depth≤(p.ev B zr).depth+p.mq (λa b=>max a b) ffT B)→ ∀u∈ps.map (Pl.ev B c),u.depth≤dts (ps.map (Pl.ev B zr))+zlN (λa b=>max a b) ffT B ps
 | [],_,u,hu=>by cases hu
 |p::ps,h,u,hu=>by
  rw[ay]at hu;rw[ay,zbh,zlN];rcases aA.mp hu with rfl |hu
  ·have:=h p aV;omega
  ·have:=zlZ ps (λq hq=>h q (aI _ hq)) u hu;omega
theorem Thn.depth (H:Thn ws B) {c:Int→Nat}{p:Pl}(h:PlOk ws B p):(p.ev B c).depth≤(p.ev B zr).depth+p.mq (λa b=>max a b) ffT B:=by
 induction h with
 | @sign b' h ps hh hp ih=>
  have:=ziq (zlZ ps ih);rw[zaR,zaR,Tr.depth,Tr.depth,zjv];omega
 | @turn k b' h ps t e hl b0 b1 hp ih=>
  have ht:t∈B:=aR e;have hs:=zlZ ps ih;have l1:(ps.map (Pl.ev B c)).length=t.2.1.nb:=by rw[ax,hl]
  have l0:(ps.map (Pl.ev B zr)).length=t.2.1.nb:=by rw[ax,hl]
  obtain⟨_,_,f3⟩:=H.K.O.fill ht l0;rw[zaG e,zaG e,ziI e,show zr b'=0 from rfl];show(evT t (c b') _).depth≤(t.2.1.fill (ps.map (Pl.ev B zr))).depth+_;unfold evT;split
  ·have:=zmY (us:=ps.map (Pl.ev B zr)) (vs:=ps.map (Pl.ev B c)) (k:=zlN (λa b=>max a b) ffT B ps) (λn m=>by
    rw[bv,bv,bj,bj];cases en:ps[n]? with
    |none=>simp
    |some q=>
     have hq:=aR en;have h1:=ih q hq;have h2:=znD (B:=B) hq;show(q.ev B c).depth≤(q.ev B zr).depth+_;omega) t.2.1
   omega
  ·rw[Tr.depth];have:=ziq hs;omega
  ·by_cases hps:ps=[]
   ·subst hps;have nb0:t.2.1.nb=0:=by simpa using hl.symm
    have:=H.rd t ht _ 0 l1 (λu hu=>by simp at hu) (λ_=>rfl) (λz=>absurd nb0 z)
    have hp:1≤(t.2.1.fill (([]:List Pl).map (Pl.ev B zr))).depth:=zaB _;simp only[cm]at *;omega
   ·have nb1:t.2.1.nb≠0:=by rw[←hl];exact λz=>hps (gR z)
    have hm:1≤dts (ps.map (Pl.ev B zr))+zlN (λa b=>max a b) ffT B ps:=by
     obtain⟨q,qs,rfl⟩:=List.exists_cons_of_ne_nil hps;rw[ay,zbh];have:=zaB (q.ev B zr);omega
    have:=H.rd t ht _ _ l1 hs (λz=>absurd z nb1) (λ_=>hm);omega
end
structure Rm (t:Tr) (a b:Nat):Prop where
  w:t.weight+3*a≤400
  d:t.depth+b≤40
section
variable {ws:List Str}{B:List Tn}{x y t:Tr}{a b a' b':Nat}
theorem Rm.mono (h:Rm t a b) (ha:a'≤a) (hb:b'≤b):Rm t a' b':=by
 have h1:=h.w;have h2:=h.d;exact⟨by omega,by omega⟩
theorem Rm.small (h:Rm t a b):t.weight≤400∧t.depth≤40:=by
 have h1:=h.w;have h2:=h.d;omega
theorem Thn.plan (H:Thn ws B) (hx:Wy ws B x) (hy:Wy ws B y) (e:src B x=src B y):∃p,PlOk ws B p∧p.ev B (byC 1)=x∧p.ev B (byC 2)=y∧p.mq (λa b=>a+b) (λ_=>1) B≤mW B x+mW B y∧p.mq (λa b=>max a b) ffT B≤mD B x+mD B y∧p.ev B zr=src B x:=by
 obtain⟨p,hp,hb,e1,e2⟩:=zsJ H.K.b H.K.O _ x y (ap _) hx hy e;have m1:=ztB H.W H.K.b (zgt 1) (zgt 2) hp (hb.imp zxm);have m2:=ztB H.D H.K.b (zgt 1) (zgt 2) hp (hb.imp zxm);rw[e1,e2]at m1 m2;refine⟨p,hp,e1,e2,m1,m2,?_⟩;rw[←e1];show _=(p.ev B (byC 1)).mk B λt=>t.2.1;rw[zfF H.K.b hp];exact zgf hp λb h0 h1=>((zgt 1).src b h0 h1).symm
theorem Thn.q0 (H:Thn ws B) (h:Sh ws B t):mW B t=0∧mD B t=0:=by
 obtain⟨p,hp,e1,_,_,_,e⟩:=H.plan h.wy h.wy rfl;rw[h.q]at e;have w:=zyG H.W H.K.b hp;have d:=zyG H.D H.K.b hp;rw[e]at w d;exact⟨w,d⟩
theorem Thn.two (H:Thn ws B) (hx:Wy ws B x) (hy:Wy ws B y) (ex:src B x=t) (ey:src B y=t) (h:Rm t (mW B x+mW B y) (mD B x+mD B y)):Two ws B x y:=by
 obtain⟨p,hp,e1,e2,m1,m2,hs⟩:=H.plan hx hy (ex.trans ey.symm);have h1:=h.w;have h2:=h.d;refine⟨H.K,p,byC 1,byC 2,⟨H.K.b,H.K.O.mt,hp,λ{c}=>?_,λ{c}=>?_⟩,zgt 1,zgt 2,e1,e2⟩
 ·have:=H.depth (c:=c) hp;rw[hs,ex]at this;omega
 ·have:=H.weight (c:=c) hp;rw[hs,ex]at this;omega
theorem Thn.ow (H:Thn ws B) (hx:Wy ws B x) (ex:src B x=t) (h:Rm t (mW B x) (mD B x)):Two ws B x t:=by
 obtain⟨h1,h2,_,_⟩:=H.K.src hx;rw[ex]at h1 h2;obtain⟨z1,z2⟩:=H.q0 ⟨h1,h2⟩;exact H.two hx h1 ex h2 (by rw[z1,z2];exact h)
theorem Thn.gol' (H:Thn ws B) (hx:Wy ws B x) (ex:src B x=t):(gol B x).weight≤t.weight+3*mW B x∧(gol B x).depth≤t.depth+mD B x:=by
 obtain⟨s1,s2,_,_⟩:=H.K.src hx;obtain⟨p,hp,e1,e2,m1,m2,hs⟩:=H.plan hx s1 s2.symm;obtain⟨z1,z2⟩:=H.q0 ⟨s1,s2⟩;rw[z1,c_]at m1;rw[z2,c_]at m2;have e:gol B x=p.ev B (zck (byC 1)):=by
  rw[←e1];exact zec H.K.b hp
 have h1:=H.weight (c:=zck (byC 1)) hp;have h2:=H.depth (c:=zck (byC 1)) hp;rw[hs,ex]at h1 h2;rw[e];omega
theorem Thn.goal (H:Thn ws B) (hx:Wy ws B x) (ex:src B x=t) (h:Rm t (mW B x+a) (mD B x+b)):Rm (gol B x) a b:=by
 have h1:=h.w;have h2:=h.d;have h3:=H.gol' hx ex;exact⟨by omega,by omega⟩
theorem Two.mqq (H:Thn ws B) (h:Two ws B x y):mW B (res B x y)≤mW B x∧mD B (res B x y)≤mD B x:=by
 obtain⟨p,c,d,k,hc,hd,rfl,rfl⟩:=h.ex;rw[(zhJ (c:=c) (d:=d) k.b k.m (zgW hc hd) k.o).res];exact⟨zqY H.W H.K.b hc hd k.o,zqY H.D H.K.b hc hd k.o⟩
noncomputable def nQ (μ:Tr→Nat):List Tr→Nat
 | []=>0
 |x::xs=>μ x+nQ μ xs
theorem zpH{μ:Tr→Nat}:∀xs ys:List Tr,nQ μ (xs++ys)=nQ μ xs+nQ μ ys
 | [],ys=>by simp [nQ]
 |x::xs,ys=>by rw[b8,nQ,nQ,zpH xs ys];omega
structure RowQ (ws:List Str) (B:List Tn) (t x:Tr) (os:List Tr):Prop where
  row:Roa ws B (gol B x) (zgo B x os)
  nw:nQ (mW B) (zgo B x os)≤nQ (mW B) os
  nd:nQ (mD B) (zgo B x os)≤nQ (mD B) os
  wy:Wy ws B (zgc B x os)
  sr:src B (zgc B x os)=zlX B t os
  lw:mW B (zgc B x os)≤mW B x
  ld:mD B (zgc B x os)≤mD B x
  go:zlX B (gol B x) (zgo B x os)=gol B (zgc B x os)
  c:RowC ws B x os
theorem Thn.row (H:Thn ws B):∀(os:List Tr) {x t:Tr},Wy ws B x→src B x=t→Roa ws B t os→Rm t (mW B x+nQ (mW B) os) (mD B x+nQ (mD B) os)→RowQ ws B t x os
 | [],x,t,hx,ex,_,_=>⟨trivial,ap _,ap _,hx,ex,ap _,ap _,rfl, .nil⟩
 |o::os,x,t,hx,ex,⟨ho,eo,hr⟩,hb=>by
  rw[nQ,nQ]at hb;have h2:Two ws B x o:=H.two hx ho ex eo (hb.mono (by omega) (by omega));have m:=h2.moved;have m':=h2.symm.moved;have q:=h2.mqq H;have q':=h2.symm.mqq H;have b1:Rm (gol B o) (mW B x+nQ (mW B) os) (mD B x+nQ (mD B) os):=H.goal ho eo (hb.mono (by omega) (by omega));have b2:Rm (gol B o) (mW B (res B x o)+nQ (mW B) os) (mD B (res B x o)+nQ (mD B) os):=b1.mono (by omega) (by omega);have ih:=Thn.row H os m.wy m.sr hr b2;refine⟨?_,?_,?_,ih.wy,ih.sr,a9 ih.lw q.1,a9 ih.ld q.2,?_,?_⟩
  ·rw[zgo];refine⟨m'.wy,m'.sr,?_⟩;rw[m'.go];exact ih.row
  ·rw[zgo,nQ,nQ];have:=ih.nw;omega
  ·rw[zgo,nQ,nQ];have:=ih.nd;omega
  ·rw[zgo,zlX,zgc,m'.go];exact ih.go
  ·exact .cons h2 ⟨_,H.ow m.wy m.sr (b2.mono (by omega) (by omega))⟩ ih.c
theorem Thn.twos (H:Thn ws B):∀(xs:List Tr) {t:Tr},Roa ws B t xs→Rm t (nQ (mW B) xs) (nQ (mD B) xs)→ ∀x∈xs,∃y,Two ws B x y
 | [],t,_,_,x,hx=>by cases hx
 |z::xs,t,⟨hz,ez,hr⟩,hb,x,hx=>by
  rw[nQ,nQ]at hb;rcases aA.mp hx with rfl |hx
  ·exact⟨_,H.ow hz ez (hb.mono (by omega) (by omega))⟩
  ·exact Thn.twos H xs hr (H.goal hz ez hb) x hx
theorem Thn.endb (H:Thn ws B):∀(xs:List Tr) {t:Tr},Roa ws B t xs→Rm t (nQ (mW B) xs) (nQ (mD B) xs)→Rm (zlX B t xs) 0 0
 | [],t,_,h=>h
 |x::xs,t,⟨hx,ex,hr⟩,h=>Thn.endb H xs hr (H.goal hx ex h)
end
section
variable {ws:List Str}{B:List Tn}{a l:Addr}{r:Nat}{t:Tr}{xs:List Tr}{S:Sto}{Q:WK}{X:Str→Sto→Prop}
theorem znT{E:WX}{D:WEnds}{G:Sto→Prop}(H:Thn ws B) (hG:G S) (ha:S a=ae (.lst (B.map zaY))) (hr:60≤r):∀(zs:List Tr) {t:Tr}{y1 y3:Option W},Roa ws B t zs→Rm t (nQ (mW B) zs) (nQ (mD B) zs)→(∀y3,D.nx [ae (.ref a),y1,ae (enc (zlX B t zs)),y3] S)→
  forL (wGN 3) (zcD (r+1) zaU) E D G (zs.map enc) [ae (.ref a),y1,ae (enc t),y3] S
 | [],t,y1,y3,_,_,h=>h y3
 |z::zs,t,y1,y3,⟨hz,ez,hr'⟩,hb,h=>by
  rw[nQ,nQ]at hb;have h2:=H.ow hz ez (hb.mono (by omega) (by omega));have hd:=hb.small.2;rw[ay];refine zbp λF hF=>?_;rw[zgX,zcD,zcc];walk_at "wp";refine h2.ok_made1 ha (by omega) ?_;rw[ez,zei (by omega)];show zbC _ _ _ _ _;rw[zbC];walk_at "wp";exact h2.ok_made2 ha (by omega) (hF _ _ _ .refl hG (znT H hG ha hr zs hr' (H.goal hz ez hb) h))
theorem ziv (H:Thn ws B) (ha:S a=ae (.lst (B.map zaY))) (hl:S l=ae (.lst (xs.map enc))) (hx:Roa ws B t xs) (hb:Rm t (nQ (mW B) xs) (nQ (mD B) xs)) (hr:64≤r) (h:Q (enc (zlX B t xs)) S):zbR (r+1) [.ref a, .tup [enc t, .ref l]] S Q X:=by
 rw[zbR,zhf];refine⟨rfl,?_⟩;rw[zcq];walk_at "wp";rw[show atI [enc t,W.ref l] 1=ae (.ref l) from rfl];walk_at "wp";rw[if_neg (by decide),zaj hl,zco];walk_at "wp";rw[zcr];walk_at "wp";show zcE S l _;rw[zaj hl];obtain⟨r,rfl⟩:∃r',r=r'+1:=⟨r - 1,by omega⟩
 refine znT H hl ha (by omega) xs hx hb λy3=>?_;rw[zcv];walk_at "wp";exact⟨_, .refl,h⟩
end
section
variable {ws:List Str}{B:List Tn}{S:Sto}{a:Addr}{r:Nat}{Q:WK}{E:Str→Sto→Prop}
noncomputable def StpQ (ws:List Str) (B:List Tn) (X:Tr):Tr×Bool→Tr→Prop
 | (x,true),Y=>Wy ws B x∧src B x=X∧gol B x=Y
 | (x,false),Y=>Wy ws B x∧gol B x=X∧src B x=Y
noncomputable def WndQ (ws:List Str) (B:List Tn):Tr→List (Tr×Bool)→Tr→Prop
 |X,[],Y=>X=Y
 |X,x::ss,Y=>∃Z,StpQ ws B X x Z∧WndQ ws B Z ss Y
theorem WndQ.app:∀{ss ts:List (Tr×Bool)}{X Y Z:Tr},WndQ ws B X ss Y→WndQ ws B Y ts Z→WndQ ws B X (ss++ts) Z
 | [],ts,X,Y,Z,h,k=>by cases h;exact k
 |y::ss,ts,X,Y,Z,⟨V,h1,h2⟩,k=>⟨V,h1,h2.app k⟩
theorem WndQ.snoc{ss:List (Tr×Bool)}{X Y Z:Tr}{x:Tr×Bool}(h:WndQ ws B X ss Y) (k:StpQ ws B Y x Z):WndQ ws B X (ss++[x]) Z:=h.app ⟨Z,k,rfl⟩
theorem WndQ.cut:∀{ss ts:List (Tr×Bool)}{X Z:Tr},WndQ ws B X (ss++ts) Z→ ∃Y,WndQ ws B X ss Y∧WndQ ws B Y ts Z
 | [],ts,X,Z,h=>⟨X,rfl,h⟩
 |y::ss,ts,X,Z,⟨V,h1,h2⟩=>by
  obtain⟨Y,k1,k2⟩:=h2.cut;exact⟨Y,⟨V,h1,k1⟩,k2⟩
theorem StpQ.one{X Y Z:Tr}{x:Tr×Bool}(h:StpQ ws B X x Y) (k:StpQ ws B X x Z):Y=Z:=by
 obtain⟨x,b⟩:=x;cases b with
 |true=>exact h.2.2.symm.trans k.2.2
 |false=>exact h.2.2.symm.trans k.2.2
theorem WndQ.one:∀{ss:List (Tr×Bool)}{X Y Z:Tr},WndQ ws B X ss Y→WndQ ws B X ss Z→Y=Z
 | [],X,Y,Z,h,k=>by cases h;exact k
 |s::ss,X,Y,Z,⟨V,h1,h2⟩,⟨V',k1,k2⟩=>by
  have:=h1.one k1;subst this;exact h2.one k2
noncomputable def onQ (μ:Tr→Nat):List (Tr×Bool)→Nat
 | []=>0
 | (x,b)::ss=>(if b then μ x else 0)+onQ μ ss
noncomputable def bkQ (μ:Tr→Nat):List (Tr×Bool)→Nat
 | []=>0
 | (x,b)::ss=>(if b then 0 else μ x)+bkQ μ ss
theorem zwL{μ:Tr→Nat}{x:Tr}{ss:List (Tr×Bool)}:onQ μ ((x,true)::ss)=μ x+onQ μ ss:=by rw[onQ];rfl
theorem ziX{μ:Tr→Nat}:∀ss ts:List (Tr×Bool),onQ μ (ss++ts)=onQ μ ss+onQ μ ts
 | [],ts=>by simp [onQ]
 | (x,b)::ss,ts=>by rw[b8,onQ,onQ,ziX ss ts];omega
theorem zju{μ:Tr→Nat}:∀ss ts:List (Tr×Bool),bkQ μ (ss++ts)=bkQ μ ss+bkQ μ ts
 | [],ts=>by simp [bkQ]
 | (x,b)::ss,ts=>by rw[b8,bkQ,bkQ,zju ss ts];omega
theorem zsa{μ:Tr→Nat}{x:Tr}{ss:List (Tr×Bool)}:bkQ μ (ss++[(x,false)])=bkQ μ ss+μ x:=by rw[zju,bkQ,bkQ];rfl
theorem zxE{μ:Tr→Nat}{x:Tr}{ss:List (Tr×Bool)}:bkQ μ (ss++[(x,true)])=bkQ μ ss:=by rw[zju,bkQ,bkQ];rfl
theorem zze{μ:Tr→Nat}{x:Tr}{ss:List (Tr×Bool)}:onQ μ (ss++[(x,true)])=onQ μ ss+μ x:=by rw[ziX,onQ,onQ];rfl
theorem zxs{μ:Tr→Nat}{x:Tr}{ss:List (Tr×Bool)}:onQ μ (ss++[(x,false)])=onQ μ ss:=by rw[ziX,onQ,onQ];rfl
def AllR (ws:List Str) (B:List Tn) (X:Tr) (ss:List (Tr×Bool)):Prop:=∀s1 s2 Y,ss=s1++s2→WndQ ws B X s1 Y→Rm Y (bkQ (mW B) s1+onQ (mW B) s2) (bkQ (mD B) s1+onQ (mD B) s2)
structure VaQ (ws:List Str) (B:List Tn) (X:Tr) (fs:List Tr) (Y:Tr) (os:List Tr) (s1:List (Tr×Bool)):Prop where
  f:Roa ws B X fs
  o:Roa ws B Y os
  e:zlX B X fs=zlX B Y os
  nw:nQ (mW B) os≤bkQ (mW B) s1
  nd:nQ (mD B) os≤bkQ (mD B) s1
  fw:nQ (mW B) fs≤onQ (mW B) s1
  fd:nQ (mD B) fs≤onQ (mD B) s1
  ol:os.length≤s1.length
  fl:fs.length≤s1.length
theorem VaQ.on{X Y x:Tr}{fs os:List Tr}{s1:List (Tr×Bool)}(h:VaQ ws B X fs Y os s1) (hx:Wy ws B x) (ex:src B x=Y) (g:RowQ ws B Y x os):VaQ ws B X (fs++zdP B [x] os) (gol B x) (zgE B [x] os) (s1++[(x,true)]):=by
 have ed:zdP B [x] os=[zgc B x os]:=by rw[zdP,zdP]
 have eo:zgE B [x] os=zgo B x os:=by rw[zgE,zgE]
 rw[ed,eo];refine⟨h.f.app fs ⟨g.wy,by rw[g.sr,h.e],trivial⟩,g.row,?_,?_,?_,?_,?_,?_,?_⟩
 ·rw[zrf];show zlX B (gol B (zgc B x os)) []=_;exact g.go.symm
 ·rw[zxE];exact a9 g.nw h.nw
 ·rw[zxE];exact a9 g.nd h.nd
 ·rw[zze,zpH];have:=h.fw;have:=g.lw;simp only[nQ];omega
 ·rw[zze,zpH];have:=h.fd;have:=g.ld;simp only[nQ];omega
 ·rw[ziJ,aM];have:=h.ol;omega
 ·rw[aM,aM];have:=h.fl;simp only[bF];omega
theorem VaQ.back{X Y x:Tr}{fs os:List Tr}{s1:List (Tr×Bool)}(h:VaQ ws B X fs Y os s1) (w1:Wy ws B x) (w2:gol B x=Y):VaQ ws B X fs (src B x) (x::os) (s1++[(x,false)]):=by
 refine⟨h.f,⟨w1,rfl,by rw[w2];exact h.o⟩,?_,?_,?_,?_,?_,?_,?_⟩
 ·rw[zlX,w2];exact h.e
 ·rw[zsa,nQ];have:=h.nw;omega
 ·rw[zsa,nQ];have:=h.nd;omega
 ·rw[zxs];exact h.fw
 ·rw[zxs];exact h.fd
 ·rw[aO,aM];have:=h.ol;simp only[bF];omega
 ·rw[aM];have:=h.fl;omega
theorem ziN{EX:WX}{D:WEnds}{l:Addr}{X Z:Tr}{ss0:List (Tr×Bool)}(H:Thn ws B) (fb:S a=ae (.lst (B.map zaY))) (fl:S l=ae (.lst (ss0.map zcI))) (hr:66≤r):∀(ss:List (Tr×Bool)) {sp:List (Tr×Bool)}{S':Sto}{fs os:List Tr}{Y:Tr}{f o:Addr}{x5 x6 x7 x8 x9 x10:Option W},
  AllR ws B X (sp++ss)→WndQ ws B X sp Y→WndQ ws B Y ss Z→VaQ ws B X fs Y os sp→VaS S S' X Y fs os f o→sp.length+ss.length≤100→
  (∀S' fs' os' f o x5 x6 x7 x8 x9 x10,VaS S S' X Z fs' os' f o→VaQ ws B X fs' Z os' (sp++ss)→fs'.length=fs.length+ss.countP (·.2)→os'.length+ss.countP (·.2)=os.length+ss.length→D.nx [ae (.ref a),ae (enc X),ae (.ref l),ae (.tup [enc X, .ref f]),ae (.tup [enc Z, .ref o]),x5,x6,x7,x8,x9,x10] S')→
  forL (wGT (zaq (wGN 5) (zaq (wGN 6) zbE))) (zcm (r+1) zaU) EX D (λS'=>S' l=ae (.lst (ss0.map zcI))) (ss.map zcI) [ae (.ref a),ae (enc X),ae (.ref l),ae (.tup [enc X, .ref f]),ae (.tup [enc Y, .ref o]),x5,x6,x7,x8,x9,x10] S'
 | [],sp,S',fs,os,Y,f,o,x5,x6,x7,x8,x9,x10,A,hX,hW,V,st,hl,hD=>by
  cases hW;exact hD S' fs os f o x5 x6 x7 x8 x9 x10 st (by rw[bK];exact V) rfl rfl
 | (x,true)::ss,sp,S',fs,os,Y,f,o,x5,x6,x7,x8,x9,x10,A,hX,⟨Y',⟨w1,w2,w4⟩,hW⟩,V,st,hl,hD=>by
  subst w4;rw[aO]at hl;have bY:=A sp ((x,true)::ss) Y rfl hX;rw[zwL,zwL]at bY;have nw:=V.nw;have nd:=V.nd;have hR:=H.row os w1 w2 V.o (bY.mono (by omega) (by omega));have h2:=H.ow w1 w2 (bY.mono (by omega) (by omega));have hbd:=bY.small;have hol:=V.ol;have hfl:=V.fl;have ld:=zgN (B:=B) [x] os;have A':AllR ws B X ((sp++[(x,true)])++ss):=by rw[bL];exact A
  rw[ay];refine zyK fb hr h2 w2 (.cons hR.c .nil) (H.twos os V.o (bY.mono (by omega) (by omega))) hbd (by omega) (by omega) st (λS'' s=>s _ _ fl) λS'' f' o' x10' cells=>?_;exact ziN (Z:=Z) (sp:=sp++[(x,true)]) H fb fl hr ss A' (hX.snoc ⟨w1,w2,rfl⟩) hW (V.on w1 w2 hR) cells (by rw[aM,bF];omega) λS' fs' os' f o x5 x6 x7 x8 x9 x10 a1 a2 a4 a5=>hD S' fs' os' f o x5 x6 x7 x8 x9 x10 a1 (by rw[bL]at a2;exact a2) (by rw[a4,aM,ld,bF,jQ rfl];omega) (by rw[znl]at a5;rw[jQ rfl,aO];omega)
 | (x,false)::ss,sp,S',fs,os,Y,f,o,x5,x6,x7,x8,x9,x10,A,hX,⟨Y',⟨w1,w2,w4⟩,hW⟩,V,st,hl,hD=>by
  subst w4;rw[aO]at hl;have A':AllR ws B X ((sp++[(x,false)])++ss):=by rw[bL];exact A
  have bY:=A sp ((x,false)::ss) Y rfl hX;have bZ:=A' (sp++[(x,false)]) ss (src B x) rfl (hX.snoc ⟨w1,w2,rfl⟩);rw[zsa,zsa]at bZ;have h2:Two ws B x (src B x):=H.ow w1 rfl (bZ.mono (by omega) (by omega));have hbd:=bY.small;have hol:=V.ol;have hfl:=V.fl;rw[ay];refine zxV fb hr h2 w2 hbd (by omega) st (λS'' s=>s _ _ fl) λS'' o' cells=>?_;exact ziN (Z:=Z) (sp:=sp++[(x,false)]) H fb fl hr ss A' (hX.snoc ⟨w1,w2,rfl⟩) hW (V.back w1 w2) cells (by rw[aM,bF];omega) λS' fs' os' f o x5 x6 x7 x8 x9 x10 a1 a2 a4 a5=>hD S' fs' os' f o x5 x6 x7 x8 x9 x10 a1 (by rw[bL]at a2;exact a2) (by rw[a4,jr (by simp)]) (by rw[aO]at a5;rw[jr (by simp),aO];omega)
theorem zim{l:Addr}{X Z:Tr}{ss:List (Tr×Bool)}(H:Thn ws B) (fb:S a=ae (.lst (B.map zaY))) (fl:S l=ae (.lst (ss.map zcI))) (hW:WndQ ws B X ss Z) (A:AllR ws B X ss) (h6:ss.length≤50) (hr:67≤r)
  (h:∀S' fs os f o,VaS S S' X Z fs os f o→VaQ ws B X fs Z os ss→fs.length=ss.countP (·.2)→os.length+ss.countP (·.2)=ss.length→Q (.tup [.tup [enc X, .ref f], .tup [enc Z, .ref o]]) S'):zeC (r+1) [.ref a,enc X, .ref l] S Q E:=by
 obtain⟨r,rfl⟩:∃r',r=r'+1:=⟨r - 1,by omega⟩
 rw[zeC];walk_at "wp";refine⟨by decide,λf hf=>⟨by decide,?_⟩⟩
 try walk_at "wp"
 refine⟨by decide,λo ho=>⟨by decide,?_⟩⟩;have hfo:f≠o:=by rintro rfl;rw[zag]at ho;cases ho
 have so:S o=none:=by rw[zaD hfo.symm]at ho;exact ho
 have s1:Sub S (put (put S f (.lst [])) o (.lst [])):=(Sub.put .refl hf).trans (.put .refl ho);have ff:put (put S f (.lst [])) o (.lst []) f=ae (.lst (([]:List Tr).map enc)):=by rw[zaD hfo,zag];rfl
 have fo:put (put S f (.lst [])) o (.lst []) o=ae (.lst (([]:List Tr).map enc)):=zag;generalize put (put S f (.lst [])) o (.lst [])=S1 at s1 ff fo⊢
 try walk_at "wp"
 rw[zaj (s1 _ _ fl)];refine ziN (fs:=[]) (os:=[]) (sp:=[]) H fb fl (by omega) ss A rfl hW ⟨trivial,trivial,rfl,ap _,ap _,ap _,ap _,ap _,ap _⟩ ⟨s1,ff,fo,hf,so,hfo⟩ (by simp;omega) λS' fs os f o x5 x6 x7 x8 x9 x10 a1 a2 a4 a5=>?_
 try walk_at "wp"
 exact⟨by decide,_, .refl,h S' fs os f o a1 a2 (by simpa using a4) (by simpa using a5)⟩
end
section
variable {ws:List Str}{B:List Tn}{S:Sto}{a:Addr}{r:Nat}{Q:WK}{E:Str→Sto→Prop}
theorem zie{l:Addr}{X Z:Tr}{ss:List (Tr×Bool)}{fs os:List Tr}{f o:Addr}(H:Thn ws B) (fb:S a=ae (.lst (B.map zaY))) (fl:S l=ae (.lst (ss.map zcI))) (ff:S f=ae (.lst (fs.map enc))) (fo:S o=ae (.lst (os.map enc))) (V:VaQ ws B X fs Z os ss) (hW:WndQ ws B X ss Z) (A:AllR ws B X ss) (hl:ss.length≤50) (e1:fs.length=ss.countP (·.2)) (e2:os.length+ss.countP (·.2)=ss.length) (hr:66≤r) (h:Q (.bl true) S):zbP (r+1) [.ref a,enc X, .ref l,enc Z, .tup [.tup [enc X, .ref f], .tup [enc Z, .ref o]]] S Q E:=by
 obtain⟨r,rfl⟩:∃r',r=r'+1:=⟨r - 1,by omega⟩
 have bX:Rm X (nQ (mW B) fs) (nQ (mD B) fs):=(A [] ss X rfl rfl).mono (by have:=V.fw;omega) (by have:=V.fd;omega);have bZ:Rm Z (nQ (mW B) os) (nQ (mD B) os):=(A ss [] Z (by simp) hW).mono (by have:=V.nw;omega) (by have:=V.nd;omega);have dX:=bX.small;have dZ:=bZ.small;have dE:=(H.endb fs V.f bX).small;rw[zbP];walk_at "wp";rw[show atI [W.tup [enc X, .ref f],W.tup [enc Z, .ref o]] 1=ae (.tup [enc Z, .ref o]) from rfl]
 try walk_at "wp"
 refine ziv H fb ff V.f bX (by omega) ?_
 try walk_at "wp"
 rw[zvz]
 try walk_at "wp"
 refine ziv H fb fo V.o bZ (by omega) ?_;rw[←V.e,zei (by omega)]
 try walk_at "wp"
 rw[zei (by omega)]
 try walk_at "wp"
 rw[zei (by omega)]
 try walk_at "wp"
 rw[zaj fl];refine zfv (λσ=>∃x,σ=[x]) zcI zcI (λx=>x.2) ?_ ss [] _ ⟨none,rfl⟩ (by rw[c5];omega) (λx hx σ R1 R0 hI h1 h0=>?_) ?_
 ·exact fl
 ·obtain⟨y,rfl⟩:=hI;obtain⟨x,b⟩:=x;simp only[zcI,zeq];walk_at "wp";rw[show atI [enc x,W.bl b] 1=ae (.bl b) from rfl];cases b with
  |true=>
   try walk_at "wp"
   exact h1 rfl _ _ ⟨_,rfl⟩ .refl
  |false=>
   try walk_at "wp"
   exact h0 rfl _ _ ⟨_,rfl⟩ .refl
 ·intro g hg;rw[aY];have s1:Sub S (put S g (.lst ((ss.filter λx=>x.2).map zcI))):= .put .refl hg
  try walk_at "wp"
  rw[show atI [enc X,W.ref f] 1=ae (.ref f) from rfl]
  try walk_at "wp"
  rw[zaj (s1 _ _ ff)];have ec:((ss.filter λx=>x.2).map zcI).length=ss.countP (·.2):=by rw[ax,List.countP_eq_length_filter]
  have q1:((fs.length:Int) == ((ss.countP (·.2):Nat):Int))=true:=by simp [e1]
  have q2:((os.length:Int) == ((ss.length:Nat):Int) - ((ss.countP (·.2):Nat):Int))=true:=by simp;omega
  simp only[ec,ax,q1];rw[show atI [enc Z,W.ref o] 1=ae (.ref o) from rfl]
  try walk_at "wp"
  simp only[zaj (s1 _ _ fo),zaj (s1 _ _ fl),ax]
  try walk_at "wp"
  simp only[q2];exact⟨_,s1,h⟩
noncomputable def flp (x:Tr×Bool):Tr×Bool:=(x.1, !x.2)
noncomputable def zhV (ss:List (Tr×Bool)):List (Tr×Bool):=ss.reverse.map flp
theorem znN (s1 s2:List (Tr×Bool)):zhV (s1++s2)=zhV s2++zhV s1:=by unfold zhV;rw[List.reverse_append,bD]
theorem ziP (x:Tr×Bool) (ss:List (Tr×Bool)):zhV (x::ss)=zhV ss++[flp x]:=by unfold zhV;rw[gz,bD];rfl
theorem zuM (x:Tr×Bool):flp (flp x)=x:=by simp [flp]
theorem zhG:∀ss:List (Tr×Bool),zhV (zhV ss)=ss
 | []=>rfl
 |x::ss=>by rw[ziP,znN,zhG ss];show [flp (flp x)]++ss=_;rw[zuM];rfl
theorem ztv (ss:List (Tr×Bool)):(zhV ss).length=ss.length:=by simp [zhV]
theorem StpQ.flp{X Y:Tr}{x:Tr×Bool}(h:StpQ ws B X x Y):StpQ ws B Y (flp x) X:=by
 obtain⟨x,b⟩:=x;cases b with
 |true=>exact⟨h.1,h.2.2,h.2.1⟩
 |false=>exact⟨h.1,h.2.2,h.2.1⟩
theorem WndQ.rev:∀{ss:List (Tr×Bool)}{X Y:Tr},WndQ ws B X ss Y→WndQ ws B Y (zhV ss) X
 | [],X,Y,h=>by cases h;rfl
 |x::ss,X,Y,⟨Z,h1,h2⟩=>by rw[ziP];exact h2.rev.snoc h1.flp
theorem zhF{μ:Tr→Nat}:∀ss:List (Tr×Bool),onQ μ (zhV ss)=bkQ μ ss∧bkQ μ (zhV ss)=onQ μ ss
 | []=>⟨rfl,rfl⟩
 | (x,b)::ss=>by
  obtain⟨h1,h2⟩:=zhF (μ:=μ) ss;rw[ziP,ziX,zju,h1,h2,onQ,bkQ];cases b with
  |true=>simp [flp,onQ,bkQ];omega
  |false=>simp [flp,onQ,bkQ];omega
theorem AllR.rev{X Z:Tr}{ss:List (Tr×Bool)}(A:AllR ws B X ss) (hW:WndQ ws B X ss Z):AllR ws B Z (zhV ss):=λs1 s2 Y e h=>by
 have e2:ss=zhV s2++zhV s1:=by rw[←zhG ss,e,znN]
 subst e2;obtain⟨Y',h1,h2⟩:=hW.cut;have h3:=h2.rev;rw[zhG]at h3;have ey:=h.one h3;subst ey;have:=A (zhV s2) (zhV s1) Y rfl h1;rw[(zhF s2).2,(zhF s1).1,(zhF s2).2,(zhF s1).1]at this;rw[dP (bkQ (mW B) s1),dP (bkQ (mD B) s1)];exact this
structure Pb (X:Tr) (a b k:Nat):Prop where
  w:X.weight+3*a+7*k≤400
  d:X.depth+b+2*k≤40
theorem Pb.small{X:Tr}{a b k:Nat}(h:Pb X a b k):X.weight≤400∧X.depth≤40:=by
 have h1:=h.w;have h2:=h.d;omega
theorem Pb.rm{X:Tr}{a b k a' b':Nat}(h:Pb X a b k) (ha:a'≤2*k) (hb:b'≤2*k):Rm X (a+a') (b+b'):=by
 have h1:=h.w;have h2:=h.d;exact⟨by omega,by omega⟩
structure StC (ws:List Str) (B:List Tn) (X:Tr) (s:Tr×Bool) (Y:Tr):Prop where
  st:StpQ ws B X s Y
  on:s.2=true→mW B s.1≤2∧mD B s.1≤2
  bk:s.2=false→mW B s.1≤1∧Y.weight≤X.weight+4∧Y.depth+mD B s.1≤X.depth+2
theorem StC.pb (H:Thn ws B) {X Y:Tr}{s:Tr×Bool}{a b k:Nat}(h:StC ws B X s Y) (p:Pb X a b (k+1)):Pb Y (a+if s.2 then 0 else mW B s.1) (b+if s.2 then 0 else mD B s.1) k:=by
 obtain⟨x,c⟩:=s;have h1:=p.w;have h2:=p.d;cases c with
 |true=>
  obtain⟨w1,w2,rfl⟩:=h.st;have g:=H.gol' w1 w2;obtain⟨o1,o2⟩:=h.on rfl;simp only at o1 o2;refine⟨?_,?_⟩
  ·simp only[if_true];omega
  ·simp only[if_true];omega
 |false=>
  obtain⟨o1,o2,o3⟩:=h.bk rfl;simp only at o1 o3;refine⟨?_,?_⟩
  ·simp only[bP,if_false];omega
  ·simp only[bP,if_false];omega
noncomputable def WndC (ws:List Str) (B:List Tn):Tr→List (Tr×Bool)→Tr→Prop
 |X,[],Y=>X=Y
 |X,x::ss,Y=>∃Z,StC ws B X x Z∧WndC ws B Z ss Y
theorem WndC.q:∀{ss:List (Tr×Bool)}{X Y:Tr},WndC ws B X ss Y→WndQ ws B X ss Y
 | [],X,Y,h=>h
 |x::ss,X,Y,⟨Z,h1,h2⟩=>⟨Z,h1.st,h2.q⟩
theorem WndC.snoc:∀{ss:List (Tr×Bool)}{X Y Z:Tr}{x:Tr×Bool},WndC ws B X ss Y→StC ws B Y x Z→WndC ws B X (ss++[x]) Z
 | [],X,Y,Z,x,h,k=>by cases h;exact⟨Z,k,rfl⟩
 |y::ss,X,Y,Z,x,⟨V,h1,h2⟩,k=>⟨V,h1,h2.snoc k⟩
theorem WndC.on2:∀{ss:List (Tr×Bool)}{X Y:Tr},WndC ws B X ss Y→onQ (mW B) ss≤2*ss.length∧onQ (mD B) ss≤2*ss.length
 | [],X,Y,h=>by simp [onQ]
 | (x,c)::ss,X,Y,⟨Z,h1,h2⟩=>by
  have ih:=h2.on2;rw[onQ,onQ,aO];cases c with
  |true=>
   have:=h1.on rfl;simp only at this;simp only[if_true];omega
  |false=>
   simp only[bP,if_false];omega
theorem WndC.all (H:Thn ws B):∀{ss:List (Tr×Bool)}{X Z:Tr}{a b k:Nat},WndC ws B X ss Z→Pb X a b k→ss.length≤k→ ∀s1 s2 Y,ss=s1++s2→WndQ ws B X s1 Y→Rm Y (a+bkQ (mW B) s1+onQ (mW B) s2) (b+bkQ (mD B) s1+onQ (mD B) s2)
 |ss,X,Z,a,b,k,h,p,hl,[],s2,Y,e,hY=>by
  cases hY;rw[aY]at e;subst e;have:=h.on2;rw[bkQ,bkQ,c_,c_];exact p.rm (by omega) (by omega)
 | [],X,Z,a,b,k,h,p,hl,s::s1,s2,Y,e,hY=>by simp at e
 |s'::ss,X,Z,a,b,0,h,p,hl,s::s1,s2,Y,e,hY=>by simp at hl
 |s'::ss,X,Z,a,b,k+1,⟨V,h1,h2⟩,p,hl,s::s1,s2,Y,e,⟨V',k1,k2⟩=>by
  rw[b8,fI]at e;obtain⟨rfl,rfl⟩:=e;have ev:=h1.st.one k1;subst ev;have ih:=WndC.all H h2 (h1.pb H p) (by simpa using hl) s1 s2 Y rfl k2;obtain⟨x,c⟩:=s';rw[bkQ,bkQ];simp only at ih;rw[←im,←im];exact ih
theorem WndC.allR (H:Thn ws B) {ss:List (Tr×Bool)}{X Z:Tr}{k:Nat}(h:WndC ws B X ss Z) (p:Pb X 0 0 k) (hl:ss.length≤k):AllR ws B X ss:=λs1 s2 Y e hY=>by
 have:=WndC.all H h p hl s1 s2 Y e hY;rw[bO,bO]at this;exact this
end
theorem zxe{a b:List Int}(h:Ap a b) {p x:List Int}(ha:(p++a).isPrefixOf x=true) (hb:(p++b).isPrefixOf x=true):False:=by
 obtain⟨c,i,j,a',b',rfl,rfl,hij⟩:=h;obtain⟨e,rfl⟩:=b_.mp ha;obtain⟨g,z⟩:=b_.mp hb;simp only[bL]at z;have z:=j_ (j_ z);rw[b8,b8,fI]at z;omega
noncomputable def zrR (wn:List (List Int)) (p:List Int):List (List Int)→Nat
 | []=>0
 |q::qs=>cnt wn (p++q)+zrR wn p qs
theorem zqB{p x:List Int}:∀{qs:List (List Int)},qs.Pairwise Ap→(∀q∈qs,q≠ [])→qs.countP (λq=>(p++q).isPrefixOf x)+(if x=p then 1 else 0)≤if p.isPrefixOf x=true then 1 else 0
 | [],_,_=>by
  by_cases e:x=p
  ·subst e;rw[if_pos rfl,if_pos (b_.mpr ⟨[],by simp⟩)]
   simp
  ·rw[if_neg e];simp
 |q::qs,hp,hn=>by
  rw[jV]at hp;have ih:=zqB (p:=p) (x:=x) hp.2 λq' hq=>hn q' (aI _ hq);rw[eK];by_cases hq:(p++q).isPrefixOf x=true
  ·have hpx:p.isPrefixOf x=true:=by
    obtain⟨e,rfl⟩:=b_.mp hq;exact b_.mpr ⟨q++e,by simp⟩
   have hx:x≠p:=by
    rintro rfl;obtain⟨e,z⟩:=b_.mp hq;have:=congrArg db z;have h1:0<q.length:=eD.mpr (hn q aV);simp only[aM]at this;omega
   have h0:qs.countP (λq=>(p++q).isPrefixOf x)=0:=by
    rw[List.countP_eq_zero];intro q' hq' z;exact zxe (hp.1 q' hq') hq z
   rw[h0,if_pos hq,if_neg hx,if_pos hpx];omega
  ·rw[if_neg hq];omega
theorem zlg (w:List Int) (wn:List (List Int)) (p:List Int):∀qs:List (List Int),zrR (w::wn) p qs=qs.countP (λq=>(p++q).isPrefixOf w)+zrR wn p qs
 | []=>rfl
 |q::qs=>by
  rw[zrR,zrR,zlg w wn p qs,eK];have:cnt (w::wn) (p++q)=cnt wn (p++q)+if(p++q).isPrefixOf w=true then 1 else 0:=by unfold cnt;rw[eK]
  omega
theorem zmq{p:List Int}{qs:List (List Int)}(h1:qs.Pairwise Ap) (h2:∀q∈qs,q≠ []):∀wn:List (List Int),zrR wn p qs+(if p∈wn then 1 else 0)≤cnt wn p
 | []=>by
  have:∀qs:List (List Int),zrR [] p qs=0:=λqs=>by
   induction qs with
   |nil=>rfl
   |cons q qs ih=>rw[zrR,ih];rfl
  rw[this];simp
 |w::wn=>by
  have ih:=zmq (p:=p) h1 h2 wn;have o:=zqB (p:=p) (x:=w) h1 h2;rw[zlg];have:cnt (w::wn) p=cnt wn p+if p.isPrefixOf w=true then 1 else 0:=by unfold cnt;rw[eK]
  have m:(if p∈w::wn then 1 else 0)≤(if w=p then 1 else 0)+if p∈wn then 1 else 0:=by
   by_cases e:w=p
   ·rw[if_pos e];split<;>omega
   ·rw[if_neg e];by_cases z:p∈wn
    ·rw[if_pos z];split<;>omega
    ·rw[if_neg (λy=>by
      rcases aA.mp y with y |y
      ·exact e y.symm
      ·exact z y)]
     omega
  omega
section
variable {ws:List Str}{B:List Tn}{wn:List (List Int)}
mutual
theorem ztY (K:Bk3 ws B):∀{n:Nat}{p:List Int}{t u:Tr},Wi B wn n p t u→mW B u≤cnt wn p
 |_,p,_,_, .no (ts:=ts) h1 h2 h3=>by
  have ih:=zmn K h3;have:=zmq (p:=p) (zsi ts.length) (λq hq=>by obtain⟨i,_,rfl⟩:=aG.mp hq;simp) wn
  rw[mW,zbe h2];omega
 |_,p,_,_, .yes (s:=s) (ts:=ts) (t:=t) h1 h2 h3 h4 h5=>by
  have ih:=zmn K h5;have ht:t∈B:=cx h2;have:=zmq (p:=p) (zxc t.2.1) (λq hq=>by
   obtain⟨z,hz,rfl⟩:=aG.mp hq;obtain⟨g1,g2,_⟩:=zhH hz;intro e;rw[e,Tr.at]at g1;have g3:t.2.1=z.2:=aH g1;obtain⟨s0,l0,e0,_⟩:=K.O.inn t ht;rw[←g3,e0]at g2;cases g2) wn
  rw[if_pos h1]at this;rw[mW,znR h4];omega
theorem zmn (K:Bk3 ws B):∀{n:Nat}{p:List Int}{qs:List (List Int)}{ts us:List Tr},Wis B wn n p qs ts us→mqs (λa b=>a+b) (λ_=>1) B us≤zrR wn p qs
 |_,_,_,_,_, .nil=>by rw[mqs];exact aS _
 |_,_,_,_,_, .cons a b=>by
  have h1:=ztY K a;have h2:=zmn K b;rw[mqs,zrR];unfold mW at h1;omega
end
mutual
theorem zyw:∀x:Tr,mD B x≤x.ne B
 | .bl _=>by rw[mD,Tr.mq,Tr.ne];exact ap _
 | .nd s ts=>by
  have:=zur ts;rw[mD,Tr.mq,Tr.ne];cases e:zaN B s with
  |none=>simpa using this
  |some t=>
   have:ffT t≤1:=by unfold ffT;split<;>omega
   simp only;omega
theorem zur:∀xs:List Tr,mqs (λa b=>max a b) ffT B xs≤nes B xs
 | []=>by rw[mqs,nes];exact ap _
 |x::xs=>by
  have h1:=zyw x;have h2:=zur xs;rw[mqs,nes];unfold mD at h1;omega
end
end
def Dst (t u:Tr):Prop:=∀n,t= .bl n→u≠ .bl n
inductive RgtL (ws:List Str) (m:Nat):Tr→Prop
 |one {t:Tr}:Item ws m t→RgtL ws m t
 |un {s:Str}{t:Tr}:s∈ws→Item ws m t→RgtL ws m (.nd s [t])
 |two {s:Str}{t u:Tr}:s∈ws→0<m→Item ws m t→Item ws m u→Dst t u→RgtL ws m (.nd s [t,u])
 |deep {s z:Str}{t u:Tr}:s∈ws→z∈ws→0<m→Item ws m t→Item ws m u→Dst t u→RgtL ws m (.nd s [.nd z [t],u])
theorem RgtL.t{ws:List Str}{m:Nat}{R:Tr}(h:RgtL ws m R):RightT ws m R:=by
 cases h with
 |one a=>exact .one a
 |un a b=>exact .un a b
 |two a b c d _=>exact .two a b c d
 |deep a b c d e _=>exact .deep a b c d e
noncomputable def gv (g:Tr→Nat) (us:List Tr) (n:Nat):Nat:=match us[n]? with
 |some u=>g u
 |none=>0
noncomputable def iv (g:Tr→Nat) (us:List Tr):Tr→Nat
 | .bl n=>gv g us n.toNat
 | .nd _ _=>0
theorem znU{g:Tr→Nat}:∀(us:List Tr) (n:Nat),gv g us n≤(us.map g).sum
 | [],n=>by simp [gv]
 |u::us,0=>by simp [gv]
 |u::us,n+1=>by
  have:=znU (g:=g) us n;unfold gv at this⊢;rw[cg,ay,df];omega
theorem zuh{g:Tr→Nat}:∀(us:List Tr) (n k:Nat),n≠k→gv g us n+gv g us k≤(us.map g).sum
 | [],n,k,h=>by simp [gv]
 |u::us,0,0,h=>absurd rfl h
 |u::us,0,k+1,h=>by
  have:=znU (g:=g) us k;unfold gv at this⊢;rw[cg,eP,ay,df];simp only;omega
 |u::us,n+1,0,h=>by
  have:=znU (g:=g) us n;unfold gv at this⊢;rw[cg,eP,ay,df];simp only;omega
 |u::us,n+1,k+1,h=>by
  have:=zuh (g:=g) us n k (by omega);unfold gv at this⊢;rw[cg,cg,ay,df];omega
section
variable {ws:List Str}{B:List Tn}{m:Nat}{us:List Tr}{t u:Tr}
theorem ziB{g:Tr→Nat}:iv g us t≤(us.map g).sum:=by
 cases t with
 |bl n=>exact znU us _
 |nd s ts=>exact aS _
theorem znG{g:Tr→Nat}(h1:Item ws m t) (h2:Item ws m u) (d:Dst t u):iv g us t+iv g us u≤(us.map g).sum:=by
 cases h1 with
 | @bl n a b=>
  cases h2 with
  | @bl k a' b'=>
   exact zuh us _ _ λe=>d n rfl (by rw[show k=n by omega])
  |nd _=>
   have:=ziB (g:=g) (us:=us) (t:= .bl n);show _+0≤_;omega
 |nd _=>
  have:=ziB (g:=g) (us:=us) (t:=u);show 0+_≤_;omega
theorem ziS{n:Int}(h0:0≤n) (h1:n<m) (hl:us.length=m):∃v,us[n.toNat]? =ae v∧(Tr.bl n).fill us=v:=by
 have hn:n.toNat<us.length:=by omega
 refine⟨us[n.toNat],a_ hn,?_⟩;rw[Tr.fill,bv,a_ hn];rfl
theorem zio (h:Item ws m t) (hl:us.length=m):(t.fill us).weight≤1+iv Tr.weight us t:=by
 cases h with
 |bl a b=>
  obtain⟨v,e,f⟩:=ziS a b hl;rw[f];show _≤1+gv Tr.weight us _;unfold gv;rw[e];simp only;omega
 |nd _=>simp [Tr.fill,fills,Tr.weight,wts]
theorem ziw (h:Item ws m t) (hl:us.length=m) {k:Nat}(hk:∀u∈us,u.depth≤k):(t.fill us).depth≤max k 1:=by
 cases h with
 |bl a b=>
  obtain⟨v,e,f⟩:=ziS a b hl;rw[f];have:=hk v (aR e);omega
 |nd _=>simp [Tr.fill,fills,Tr.depth,dts];omega
theorem zhB{op:Nat→Nat→Nat}{f:Tn→Nat}(hs:∀s∈ws,zaN B s=none) (h:Item ws m t) (hl:us.length=m):(t.fill us).mq op f B≤iv (Tr.mq op f B) us t:=by
 cases h with
 |bl a b=>
  obtain⟨v,e,g⟩:=ziS a b hl;rw[g];show _≤gv (Tr.mq op f B) us _;unfold gv;rw[e];exact ap _
 |nd h=>simp only[Tr.fill,fills,zbe (hs _ h),mqs];exact aS _
theorem zoU:∀us:List Tr,wts us=(us.map Tr.weight).sum
 | []=>by simp [wts]
 |u::us=>by rw[zaK,zoU us,ay,df]
theorem zoZ{f:Tn→Nat}:∀us:List Tr,mqs (λa b=>a+b) f B us=(us.map (Tr.mq (λa b=>a+b) f B)).sum
 | []=>by rw[mqs];rfl
 |u::us=>by rw[mqs,zoZ us,ay,df]
theorem zuo{f:Tn→Nat}:∀(us:List Tr) (n:Nat),gv (Tr.mq (λa b=>max a b) f B) us n≤mqs (λa b=>max a b) f B us
 | [],n=>by simp [gv]
 |u::us,0=>by
  unfold gv;rw[eP,mqs];exact gU _ _
 |u::us,n+1=>by
  have:=zuo (f:=f) us n;unfold gv at this⊢;rw[cg,mqs];exact a9 this (iN _ _)
theorem zxR{f:Tn→Nat}:iv (Tr.mq (λa b=>max a b) f B) us t≤mqs (λa b=>max a b) f B us:=by
 cases t with
 |bl n=>exact zuo us _
 |nd s ts=>exact aS _
theorem zzX (h:RgtL ws m t) (hl:us.length=m):(t.fill us).weight≤4+wts us:=by
 rw[zoU];cases h with
 |one a=>
  have:=zio a hl;have:=ziB (g:=Tr.weight) (us:=us) (t:=t);omega
 | @un s t _ a=>
  have:=zio a hl;have:=ziB (g:=Tr.weight) (us:=us) (t:=t);simp only[Tr.fill,fills,Tr.weight,zaK,zel];omega
 | @two s t u _ _ a b d=>
  have:=zio a hl;have:=zio b hl;have:=znG (g:=Tr.weight) (us:=us) a b d;simp only[Tr.fill,fills,Tr.weight,zaK,zel];omega
 | @deep s z t u _ _ _ a b d=>
  have:=zio a hl;have:=zio b hl;have:=znG (g:=Tr.weight) (us:=us) a b d;simp only[Tr.fill,fills,Tr.weight,zaK,zel];omega
theorem zzc{f:Tn→Nat}(hs:∀s∈ws,zaN B s=none) (h:RgtL ws m t) (hl:us.length=m):(t.fill us).mq (λa b=>a+b) f B≤mqs (λa b=>a+b) f B us:=by
 rw[zoZ];cases h with
 |one a=>exact a9 (zhB hs a hl) ziB
 | @un s t h a=>
  have:=a9 (zhB (op:=λa b=>a+b) (f:=f) hs a hl) ziB;simp only[Tr.fill,fills,zbe (hs s h),mqs];omega
 | @two s t u h _ a b d=>
  have h1:=zhB (op:=λa b=>a+b) (f:=f) hs a hl;have h2:=zhB (op:=λa b=>a+b) (f:=f) hs b hl;have:=znG (g:=Tr.mq (λa b=>a+b) f B) (us:=us) a b d;simp only[Tr.fill,fills,zbe (hs s h),mqs];omega
 | @deep s z t u h h' _ a b d=>
  have h1:=zhB (op:=λa b=>a+b) (f:=f) hs a hl;have h2:=zhB (op:=λa b=>a+b) (f:=f) hs b hl;have:=znG (g:=Tr.mq (λa b=>a+b) f B) (us:=us) a b d;simp only[Tr.fill,fills,zbe (hs s h),zbe (hs z h'),mqs];omega
theorem zzs{f:Tn→Nat}(hs:∀s∈ws,zaN B s=none) (h:RgtL ws m t) (hl:us.length=m):(t.fill us).mq (λa b=>max a b) f B≤mqs (λa b=>max a b) f B us:=by
 have it:∀{v:Tr},Item ws m v→(v.fill us).mq (λa b=>max a b) f B≤mqs (λa b=>max a b) f B us:=λa=>a9 (zhB hs a hl) zxR;cases h with
 |one a=>exact it a
 | @un s t h a=>
  have:=it a;simp only[Tr.fill,fills,zbe (hs s h),mqs];omega
 | @two s t u h _ a b d=>
  have:=it a;have:=it b;simp only[Tr.fill,fills,zbe (hs s h),mqs];omega
 | @deep s z t u h h' _ a b d=>
  have:=it a;have:=it b;simp only[Tr.fill,fills,zbe (hs s h),zbe (hs z h'),mqs];omega
theorem zAk (h:RgtL ws m t) (hl:us.length=m) {k:Nat}(hk:∀u∈us,u.depth≤k) (h0:m=0→k=0) (h1:m≠0→1≤k):(t.fill us).depth≤1+k+if t.kids.isEmpty then 0 else 1:=by
 cases h with
 |one a=>
  have:=ziw a hl hk;omega
 | @un s t _ a=>
  have:=ziw a hl hk;simp only[Tr.fill,fills,Tr.depth,zbh,zfd,Tr.kids,ge,bP,if_false];omega
 | @two s t u _ hm a b d=>
  have:=ziw a hl hk;have:=ziw b hl hk;simp only[Tr.fill,fills,Tr.depth,zbh,zfd,Tr.kids,ge,bP,if_false];omega
 | @deep s z t u _ _ hm a b d=>
  have:=ziw a hl hk;have:=ziw b hl hk;have:=h1 (by omega);simp only[Tr.fill,fills,Tr.depth,zbh,zfd,Tr.kids,ge,bP,if_false];omega
theorem zyt{op:Nat→Nat→Nat}{f:Tn→Nat}(z1:∀a,op a 0=a) (z2:∀a,op 0 a=a) {n:Nat}{h c d:Str}(eh:zaN B h=none) (ec:zaN B c=none) (ed:zaN B d=none) (hn:n≠4) {L:Tr}(hL:L∈leftsL n h c d) (hl:us.length=L.nb):(L.fill us).mq op f B=mqs op f B us:=by
 unfold leftsL at hL;split at hL<;>simp only[aA,bi,or_false]at hL
 all_goals first
  |exact absurd rfl hn
  | (subst hL;rcases us with _ |⟨u,_ |⟨v,_ |⟨x,us⟩⟩⟩<;>simp [Tr.nb,nbs]at hl<;>simp [Tr.fill,fills,zbe eh,zbe ec,zbe ed,mqs,z1,z2])
  | (rcases hL with rfl |rfl<;>rcases us with _ |⟨u,_ |⟨v,_ |⟨x,us⟩⟩⟩<;>simp [Tr.nb,nbs]at hl<;>simp [Tr.fill,fills,zbe eh,zbe ec,zbe ed,mqs,z1,z2])
theorem zqT{n:Nat}{h c d:Str}(hn:n≠4) {L:Tr}(hL:L∈leftsL n h c d):L.depth≤3∧L.nb≤2∧L.weight≤L.nb+2:=by
 unfold leftsL at hL;split at hL<;>simp only[aA,bi,or_false]at hL
 all_goals first
  |exact absurd rfl hn
  | (subst hL;simp [Tr.depth,dts,Tr.nb,nbs,Tr.weight,wts])
  | (rcases hL with rfl |rfl<;>simp [Tr.depth,dts,Tr.nb,nbs,Tr.weight,wts])
end
structure Bk47 (w0 w1 w2 w3 w4 w5:Str) (tt:List Str) (B:List Tn):Prop where
  b:BookOk w0 w1 w2 w3 w4 w5 tt B
  l:∀t∈B,∃n h,n≠4∧(h=w0∨h=w1)∧t.2.1∈leftsL n h w2 w3
  r:∀t∈B,RgtL [w0,w1,w2,w3,w4,w5] t.2.1.nb t.2.2
section
variable {w0 w1 w2 w3 w4 w5:Str}{tt:List Str}{B:List Tn}
theorem Bk47.thn (h:Bk47 w0 w1 w2 w3 w4 w5 tt B) (T:Titles tt) (G:Signs w0 w1 w2 w3 w4 w5):Thn [w0,w1,w2,w3,w4,w5] B:=by
 have K:=h.b.bk3 T G;have hs:∀s∈ [w0,w1,w2,w3,w4,w5],zaN B s=none:=λs hs=>zaX K.b.ti (K.b.sg s hs);have lq:∀{op:Nat→Nat→Nat}{f:Tn→Nat},(∀a,op a 0=a)→(∀a,op 0 a=a)→ ∀t∈B,∀us:List Tr,us.length=t.2.1.nb→(t.2.1.fill us).mq op f B=mqs op f B us:=λz1 z2 t ht us hl=>by
  obtain⟨n,hd,hn,h1,h2⟩:=h.l t ht;have eh:zaN B hd=none:=by
   rcases h1 with rfl |rfl
   ·exact hs _ (by simp)
   ·exact hs _ (by simp)
  exact zyt z1 z2 eh (hs w2 (by simp)) (hs w3 (by simp)) hn h2 hl
 refine⟨K,⟨zhO,?_,?_,?_⟩,⟨zhw,?_,?_,?_⟩,?_,?_,?_⟩
 ·exact λt ht us hl=>cP (lq (op:=λa b=>a+b) (λa=>c_ a) (λa=>bO a) t ht us hl).symm
 ·exact λt ht us hl=>cP (lq (op:=λa b=>a+b) (λa=>c_ a) (λa=>bO a) t ht us hl)
 ·exact λt ht us hl=>zzc hs (h.r t ht) hl
 ·exact λt ht us hl=>cP (lq (op:=λa b=>max a b) (λa=>gM a) (λa=>fD a) t ht us hl).symm
 ·exact λt ht us hl=>cP (lq (op:=λa b=>max a b) (λa=>gM a) (λa=>fD a) t ht us hl)
 ·exact λt ht us hl=>zzs hs (h.r t ht) hl
 ·exact λt ht us hl=>zzX (h.r t ht) hl
 ·exact λt ht us k hl hk h0 h1=>zAk (h.r t ht) hl hk h0 h1
 ·intro t ht;obtain⟨n,hd,hn,_,h2⟩:=h.l t ht;exact(zqT hn h2).1
end
section
variable {r:Nat}{S:Sto}{Q:WK}{E:Str→Sto→Prop}
theorem zoL{n:Int}{h c d:Str}(H:∀(p:Addr) (k:Nat),k≠4→S p=none→Q (.ref p) (put S p (.lst (encs (leftsL k h c d))))):zbA (r+1) [.int n, .str h, .str c, .str d] S Q E:=by
 rw[zbA,zhf];refine⟨rfl,?_⟩;have l1:1≤sizeLine:=zal (by decide);have l2:2≤sizeLine:=zal (by decide);have l3:3≤sizeLine:=zal (by decide);have l4:4≤sizeLine:=zal (by decide);refine zoF λT hT=>?_;walk_at "wd";refine zqH (λ_=>⟨l2,l1,λp hp=>⟨_, .refl,by simpa only[leftsL,enc,encs]using H p 0 (by decide) hp⟩⟩) λ_=>?_
 subst hT;refine zoF λT hT=>?_;walk_at "wd";refine zqH (λ_=>⟨l3,l1,λp hp=>⟨_, .refl,by simpa only[leftsL,enc,encs]using H p 1 (by decide) hp⟩⟩) λ_=>?_
 subst hT;refine zoF λT hT=>?_;walk_at "wd";refine zqH (λ_=>⟨l1,l2,l2,l2,l2,λp hp=>⟨_, .refl,by simpa only[leftsL,enc,encs]using H p 2 (by decide) hp⟩⟩) λ_=>?_
 subst hT;refine zoF λT hT=>?_;walk_at "wd";refine zqH (λ_=>⟨l1,l3,l2,l3,l2,λp hp=>⟨_, .refl,by simpa only[leftsL,enc,encs]using H p 3 (by decide) hp⟩⟩) λ_=>?_
 subst hT;walk_at "wd";exact⟨l1,l1,λp hp=>⟨_, .refl,by simpa only[leftsL,enc,encs]using H p 5 (by decide) hp⟩⟩
end
section
variable {w0 w1 w2 w3 w4 w5:Str}{tt:List Str}{ns:List Int}{aw at' ab al:Addr}{r:Nat}{E:WX}{k j:Int}
theorem zqG{S:Sto}{Q:WK}{E:Str→Sto→Prop}(h6:tt.length=6) (k0:0≤k) (hw:S aw=ae (.lst (six w0 w1 w2 w3 w4 w5))) (ht:S at'=ae (.lst (tt.map W.str)))
  (h:∀(p:Addr) (B:List Tn) (n m:Nat),S p=none→n≠4→m≠4→B.map (λt=>t.2.1)=leftsL n w0 w2 w3++leftsL m w1 w2 w3→B.map (λt=>t.1)=tt.take B.length→(∀t∈B,RightT [w0,w1,w2,w3,w4,w5] t.2.1.nb t.2.2)→Q (.ref p) (put S p (.lst (B.map zaY)))):zbN (r+7) [.scr ns, .int k, .ref aw, .ref at'] S Q E:=by
 rw[show r+7=r+6+1 from rfl,zbN];walk_at "wd";refine⟨aS _,λab hb=>⟨⟨by decide,by decide⟩,?_⟩⟩
 refine zpQ (λi σ S'=>∃(B:List Tn) (f:Nat→Nat) (x5 x6 x7 x8 x9:Option W),(∀j,f j≠4)∧B.map (λt=>t.2.1)=(aX i).flatMap (λj=>leftsL (f j) (hdOf w0 w1 j) w2 w3)∧B.map (λt=>t.1)=tt.take B.length∧(∀t∈B,RightT [w0,w1,w2,w3,w4,w5] t.2.1.nb t.2.2)∧S'=put S ab (.lst (B.map zaY))∧
  σ=[ae (.scr ns),ae (.int k),ae (.ref aw),ae (.ref at'),ae (.ref ab),x5,x6,x7,x8,x9]) 2 ?_ ?_ ⟨[],λ_=>0,none,none,none,none,none,(λ_=>(by decide:(0:Nat)≠4)),rfl,rfl,(λ_ h=>nomatch h),rfl,rfl⟩
 ·rintro j hj σ S' N ⟨B,f,x5,x6,x7,x8,x9,e0,e1,e2,e3,rfl,rfl⟩ hN;have fw:put S ab (Ob.lst (B.map zaY)) aw=ae (.lst (six w0 w1 w2 w3 w4 w5)):=keep hw hb;have ft:put S ab (Ob.lst (B.map zaY)) at'=ae (.lst (tt.map W.str)):=keep ht hb;have fb:put S ab (Ob.lst (B.map zaY)) ab=ae (.lst (B.map zaY)):=zag;have n1:ab≠aw:=λz=>by rw[z,hw]at hb;cases hb
  have n2:ab≠at':=λz=>by rw[z,ht]at hb;cases hb
  have eh:atI (six w0 w1 w2 w3 w4 w5) (j:Int)=ae (.str (hdOf w0 w1 j)):=by
   rcases(show j=0∨j=1 by omega) with rfl |rfl<;>rfl
  simp only[zdL];walk_at "wd";refine zgk (by omega) λdraw=>?_;walk_at "wd";simp only[zaj fw,eh,six2,zBe];refine⟨by decide,zoL λal n hn4 hal=>?_⟩;have hl:=zfq n (hdOf w0 w1 j) w2 w3;have hB:B.length≤4:=by
   have:=congrArg db e1;rw[ax]at this;rcases(show j=0∨j=1 by omega) with rfl |rfl
   ·simp at this;rw[this];simp
   ·simp at this;have:=zfq (f 0) (hdOf w0 w1 0) w2 w3;omega
  have nal:al≠ab:=λz=>by rw[z,fb]at hal;cases hal
  try walk_at "wd"
  rw[show zdE (r+6) zaU=zdZ (r+6) zaU from rfl];refine zmA h6 k0 (by omega) (leftsL n (hdOf w0 w1 j) w2 w3) (zlJ _ _ _ _) (by omega) (keep fb hal) (keep fw hal) (keep ft hal) n1 n2 (λo=>?_) λC' x7 x8 x9 g1 g2 g3=>?_
  ·rw[zaD nal,zag]
  ·refine hN _ _ (put S ab (.lst ((B++C').map zaY))) ?_ ⟨B++C',λi=>if i=j then n else f i,_,_,_,_,_,(λi=>by by_cases z:i=j<;>simp [z,hn4,e0]),?_,g2 e2,λt ht'=>?_,rfl,rfl⟩
   ·rw[znt nal];exact .put .refl (by rw[zaD nal];exact(zdO hal).1)
   ·rw[bD,e1,g1,ic,kK];congr 1
    ·rw[jN,jN];congr 1;refine cI λi hi=>?_;have:=eN.mp hi;dsimp only;rw[if_neg (by omega)]
    ·simp
   ·rcases bp.mp ht' with z |z
    ·exact e3 t z
    ·exact g3 t z
 ·rintro σ S' ⟨B,f,x5,x6,x7,x8,x9,e0,e1,e2,e3,rfl,rfl⟩;walk_at "wd";refine⟨_, .refl,h ab B (f 0) (f 1) hb (e0 0) (e0 1) ?_ e2 e3⟩;rw[e1];simp [ic,hdOf]
end
mutual
noncomputable def Tr.onc (c:Str):Tr→List Int→Tr×List Int
 | .bl n,seen=>(if seen.contains n then .nd c [] else .bl n,seen++[n])
 | .nd s ts,seen=>(.nd s (zlr c ts seen).1,(zlr c ts seen).2)
noncomputable def zlr (c:Str):List Tr→List Int→List Tr×List Int
 | [],seen=>([],seen)
 |t::ts,seen=>((t.onc c seen).1::(zlr c ts (t.onc c seen).2).1,(zlr c ts (t.onc c seen).2).2)
end
theorem zqw{c:Str}{n:Int}{seen:List Int}:(Tr.bl n).onc c seen=(if seen.contains n then .nd c [] else .bl n,seen++[n]):=by rw[Tr.onc]
theorem zhI{c s:Str}{ts:List Tr}{seen:List Int}:(Tr.nd s ts).onc c seen=(.nd s (zlr c ts seen).1,(zlr c ts seen).2):=by rw[Tr.onc]
theorem zdv{c:Str}{seen:List Int}:zlr c [] seen=([],seen):=by rw[zlr]
theorem zct{c:Str}{t:Tr}{ts:List Tr}{seen:List Int}:zlr c (t::ts) seen=((t.onc c seen).1::(zlr c ts (t.onc c seen).2).1,(zlr c ts (t.onc c seen).2).2):=by rw[zlr]
mutual
theorem zpy{c:Str}:∀(t:Tr) (seen:List Int),(t.onc c seen).2.length≤seen.length+t.weight
 | .bl n,seen=>by rw[zqw,Tr.weight];simp
 | .nd s ts,seen=>by rw[zhI,Tr.weight];have:=ziE (c:=c) ts seen;simp only;omega
theorem ziE{c:Str}:∀(ts:List Tr) (seen:List Int),(zlr c ts seen).2.length≤seen.length+wts ts
 | [],seen=>by rw[zdv,zel];simp
 |t::ts,seen=>by
  rw[zct,zaK];have h1:=zpy (c:=c) t seen;have h2:=ziE (c:=c) ts (t.onc c seen).2;simp only;omega
end
theorem zqF{c:Str}:∀(ts:List Tr) (seen:List Int),(zlr c ts seen).1.length=ts.length
 | [],seen=>by rw[zdv]
 |t::ts,seen=>by rw[zct,aO,aO,zqF ts]
theorem zeD{ws:List Str}{m:Nat}{c:Str}{t:Tr}(hc:c∈ws) (h:Item ws m t) (seen:List Int):Item ws m (t.onc c seen).1∧(∀n,(t.onc c seen).1= .bl n→n∉seen)∧ ∀n,(t.onc c seen).1= .bl n→n∈(t.onc c seen).2:=by
 cases h with
 | @bl n a b=>
  rw[zqw];by_cases z:seen.contains n=true
  ·rw[if_pos z];exact⟨.nd hc,λk e=>by simp at e,λk e=>by simp at e⟩
  ·rw[if_neg z];refine⟨.bl a b,λk e=>?_,λk e=>?_⟩
   ·cases e;simpa using z
   ·cases e;simp
 |nd h=>
  rw[zhI,zdv];exact⟨.nd h,λk e=>by simp at e,λk e=>by simp at e⟩
theorem zku{ws:List Str}{m:Nat}{c:Str}{R:Tr}(hc:c∈ws) (h:RightT ws m R):RgtL ws m (R.onc c []).1:=by
 cases h with
 |one a=>exact .one (zeD hc a []).1
 | @un s t hs a=>
  rw[zhI,zct,zdv];exact .un hs (zeD hc a []).1
 | @two s t u hs hm a b=>
  rw[zhI,zct,zct,zdv];have h1:=zeD hc a [];have h2:=zeD hc b (t.onc c []).2;exact .two hs hm h1.1 h2.1 λn e e2=>h2.2.1 n e2 (h1.2.2 n e)
 | @deep s z t u hs hz hm a b=>
  rw[zhI,zct,zct,zdv,zhI,zct,zdv];have h1:=zeD hc a [];have h2:=zeD hc b (t.onc c []).2;exact .deep hs hz hm h1.1 h2.1 λn e e2=>h2.2.1 n e2 (h1.2.2 n e)
theorem zsx{α:Type}(xs:List α) (x:α):zeg (xs++[x]) none (ae (-1))=xs:=by
 unfold zeg;rw[HT.sIx_none,show(-1:Int)= -((1:Nat):Int) from rfl,zlG (by decide),cG,aM,bF];simp
section
variable {c:Str}{q:Addr}
theorem zjH{r:Nat}{E:WX}{Q:List W→Sto→Prop}:∀(ts:List Tr) (one:∀t∈ts,∀{S:Sto}{seen:List Int}{Q:WK}{E:Str→Sto→Prop},S q=ae (.lst (seen.map W.int))→seen.length+t.weight≤1000→Q (enc (t.onc c seen).1) (put S q (.lst ((t.onc c seen).2.map W.int)))→zbw r [enc t, .ref q, .str c] S Q E)
  {acc:List W}{seen:List Int}{S:Sto}{x:Option W},S q=ae (.lst (seen.map W.int))→seen.length+wts ts≤1000→acc.length+ts.length≤1000→Q (acc++encs (zlr c ts seen).1) (put S q (.lst ((zlr c ts seen).2.map W.int)))→
  zeO (wGN 0) zgC (zdV r (zbw r)) E (λ_=>True) Q (encs ts) acc [x,ae (.ref q),ae (.str c)] S
 | [],one,acc,seen,S,x,fq,hl,ha,h=>by
  rw[zdv,zdy fq]at h;simpa [encs,zeO]using h
 |t::ts,one,acc,seen,S,x,fq,hl,ha,h=>by
  rw[zaK]at hl;rw[aO]at ha;rw[zct]at h;have ol:=zpy (c:=c) t seen;simp only[encs,zeO,zdV];walk_at "wd";refine one t aV fq (by omega) ⟨zbK (by omega),_, .refl,zjH ts (λu hu=>one u (aI _ hu)) (seen:=(t.onc c seen).2) zag (by omega) (by simp;omega) ?_⟩;rw[zba,bL];simpa [encs]using h
theorem zrM:∀(d:Nat) {R:Tr}{r:Nat}{S:Sto}{seen:List Int}{Q:WK}{E:Str→Sto→Prop},R.depth≤d→d≤r+1→S q=ae (.lst (seen.map W.int))→seen.length+R.weight≤1000→Q (enc (R.onc c seen).1) (put S q (.lst ((R.onc c seen).2.map W.int)))→zbw (r+1) [enc R, .ref q, .str c] S Q E
 |0,R,r,S,seen,Q,E,hd,hr,fq,hl,h=>by have:=zaB R;omega
 |d+1, .bl n,r,S,seen,Q,E,hd,hr,fq,hl,h=>by
  rw[zqw]at h;rw[zbw];simp only[enc];walk_at "wd";simp only[zaj fq,ax];refine⟨trivial,zbK (by omega),?_⟩;have e:seen.map W.int++[W.int n]=(seen++[n]).map W.int:=by simp
  rw[e];have f1:put S q (.lst ((seen++[n]).map W.int)) q=ae (.lst ((seen++[n]).map W.int)):=zag;simp only at h;generalize put S q (.lst ((seen++[n]).map W.int))=S1 at f1 h⊢;refine⟨by decide,by decide,λp hp=>?_⟩
  rw[bD,ay,cm,zsx,zrz];by_cases z:seen.contains n=true
  ·rw[if_pos z]at h;rw[z];exact⟨_, .put .refl hp,by simpa [enc,encs]using h⟩
  ·rw[if_neg z]at h;rw[show seen.contains n=false by simpa using z]
   exact⟨_, .put .refl hp,by simpa [enc]using h⟩
 |d+1, .nd s ts,r,S,seen,Q,E,hd,hr,fq,hl,h=>by
  rw[zhI]at h;rw[Tr.depth]at hd;rw[Tr.weight]at hl;have hk:=zcP ts;have ol:=ziE (c:=c) ts seen;rw[zbw];simp only[enc];walk_at "wd";have hr1:ts=[]∨ ∃r',r=r'+1:=by
   cases ts with
   |nil=>exact .inl rfl
   |cons l ls=>
    have:=zaB l;rw[zbh]at hd;exact .inr ⟨r - 1,by omega⟩
  refine zjH ts (λt ht {S seen Q E} f1 f2 f3=>?_) fq (by omega) (by simp;omega) ?_
  ·rcases hr1 with rfl |⟨r,rfl⟩
   ·cases ht
   ·exact zrM d (by have:=zbq ht;omega) (by omega) f1 f2 f3
  ·rw[aY,zjC];simp only[enc]at h;refine⟨zal (by rw[zaT,zqF];simp;omega),_, .refl,h⟩
end
structure P47 (S:Sto) (aw ab:Addr) (w0 w1 w2 w3 w4 w5:Str) (tt:List Str) (B:List Tn):Prop where
  G:Signs w0 w1 w2 w3 w4 w5
  T:Titles tt
  b:Bk47 w0 w1 w2 w3 w4 w5 tt B
  fw:S aw=ae (.lst (six w0 w1 w2 w3 w4 w5))
  fb:S ab=ae (.lst (B.map zaY))
section
variable {w0 w1 w2 w3 w4 w5:Str}{tt:List Str}{B:List Tn}{S:Sto}{aw ab:Addr}
theorem P47.sub{S':Sto}(P:P47 S aw ab w0 w1 w2 w3 w4 w5 tt B) (h:Sub S S'):P47 S' aw ab w0 w1 w2 w3 w4 w5 tt B:=⟨P.G,P.T,P.b,h _ _ P.fw,h _ _ P.fb⟩
theorem P47.H (P:P47 S aw ab w0 w1 w2 w3 w4 w5 tt B):Thn [w0,w1,w2,w3,w4,w5] B:=P.b.thn P.T P.G
theorem P47.bk (P:P47 S aw ab w0 w1 w2 w3 w4 w5 tt B):BkOk [w0,w1,w2,w3,w4,w5] [w2,w3,w4,w5] B:=P.b.b.bk P.T P.G
theorem P47.ne (P:P47 S aw ab w0 w1 w2 w3 w4 w5 tt B):B≠ []:=by
 have h:=P.b.b.len;rintro rfl;simp at h
theorem P47.lft (P:P47 S aw ab w0 w1 w2 w3 w4 w5 tt B):Lft B:=⟨λt ht=>(P.bk.lf t ht).dp,λt ht=>by
 have h1:=(P.bk.lf t ht).wt;have h2:=(P.bk.lf t ht).nb;omega⟩
theorem P47.pb (P:P47 S aw ab w0 w1 w2 w3 w4 w5 tt B):PB B:=λt ht x hx=>by
 have h1:=(zhH hx).2.2;have h2:=(P.bk.lf t ht).dp;omega
theorem P47.leaf (P:P47 S aw ab w0 w1 w2 w3 w4 w5 tt B):Sh [w0,w1,w2,w3,w4,w5] B (.nd w2 []):=by
 have K:=P.H.K;have e:zaN B w2=none:=zaX K.b.ti (K.b.sg w2 (by simp));refine⟨⟨?_,?_⟩,?_⟩
 ·rw[Tr.hd,hds_iff];exact⟨.inl (by simp),λ_ z=>nomatch z⟩
 ·rw[Tr.ar,ars_iff];exact⟨λt' e'=>(by rw[e]at e';cases e'),λ_ z=>nomatch z⟩
 ·rw[show src B (.nd w2 [])=_ from zem e];rfl
end
noncomputable def zyn (c:Str) (t:Tn):Tn:=(t.1,t.2.1,(t.2.2.onc c []).1)
section
variable {ns:List Int}{E:WX}{D:WEnds}{T:WS}{S:Sto}{a1 a2 a3 a4 a5 a6 a7:Option W}
theorem zAY (h:∀S' aw w0 w1 w2 w3 w4 w5,Signs w0 w1 w2 w3 w4 w5→S' aw=ae (.lst (six w0 w1 w2 w3 w4 w5))→T E D [ae (.scr ns),ae (.ref aw),a2,a3,a4,a5,a6,a7] S') :
  zdT 199 T E D [ae (.scr ns),a1,a2,a3,a4,a5,a6,a7] S:=by
 rw[zdT];walk_at "wd";refine zgk (by decide) λc0=>zgk (by decide) λc1=>zob λaw ws hw0 hws=>?_;obtain⟨w0,w1,w2,w3,w4,w5,rfl,G⟩:=zml hws;exact h _ aw w0 w1 w2 w3 w4 w5 G zag
theorem zzK{aw:Addr}{w0 w1 w2 w3 w4 w5:Str}(fw:S aw=ae (.lst (six w0 w1 w2 w3 w4 w5))) (h:∀S' at' tt,Titles tt→S' aw=ae (.lst (six w0 w1 w2 w3 w4 w5))→S' at'=ae (.lst (tt.map W.str))→T E D [ae (.scr ns),ae (.ref aw),ae (.ref at'),a3,a4,a5,a6,a7] S') :
  zee 199 T E D [ae (.scr ns),ae (.ref aw),a2,a3,a4,a5,a6,a7] S:=by
 rw[zee];walk_at "wd";refine zgk (by decide) λc2=>zgk (by decide) λc3=>zob λat' tt ht0 htt=>?_;exact h _ at' tt (zkf htt) (keep fw ht0) zag
theorem zzS{aw at':Addr}{w0 w1 w2 w3 w4 w5:Str}{tt:List Str}(Ti:Titles tt) (fw:S aw=ae (.lst (six w0 w1 w2 w3 w4 w5))) (ft:S at'=ae (.lst (tt.map W.str)))
  (h:∀S' ab (B:List Tn) (n m:Nat),S' aw=ae (.lst (six w0 w1 w2 w3 w4 w5))→S' ab=ae (.lst (B.map zaY))→n≠4→m≠4→B.map (λt=>t.2.1)=leftsL n w0 w2 w3++leftsL m w1 w2 w3→B.map (λt=>t.1)=tt.take B.length→(∀t∈B,RightT [w0,w1,w2,w3,w4,w5] t.2.1.nb t.2.2)→T E D [ae (.scr ns),ae (.ref aw),ae (.ref at'),ae (.ref ab),a4,a5,a6,a7] S') :
  zed 199 T E D [ae (.scr ns),ae (.ref aw),ae (.ref at'),a3,a4,a5,a6,a7] S:=by
 rw[zed];walk_at "wd";refine zqG (r:=192) Ti.len (by decide) fw ft λab B n m hb0 n4 m4 e1 e2 e3=>?_;exact h _ ab B n m (keep fw hb0) zag n4 m4 e1 e2 e3
theorem zwJ{aw:Addr}{w0 w1 w2 w3 w4 w5:Str}{t:Tn}{Q:WK}{r:Nat}(fw:S aw=ae (.lst (six w0 w1 w2 w3 w4 w5))) (hw7:t.2.2.weight≤7) (hd4:t.2.2.depth≤4) (hr:10≤r) (h:∀S',Sub S S'→Q (zaY (zyn w2 t)) S') :
  zfc (r+1) zaU E [ae (.str t.1),ae (enc t.2.1),ae (enc t.2.2),ae (.ref aw)] S Q:=by
 rw[zfc];walk_at "wd";refine⟨by decide,λq hq=>?_⟩;rw[zaj (keep fw hq),six2];refine zrM (r:=r) 4 hd4 (by omega) (seen:=[]) zag (by simp;omega) ?_;rw[zba];exact⟨by decide,h _ (.put .refl hq)⟩
theorem zAv{aw at' ab:Addr}{w0 w1 w2 w3 w4 w5:Str}{tt:List Str}{B:List Tn}{n m:Nat}(G:Signs w0 w1 w2 w3 w4 w5) (Ti:Titles tt) (fw:S aw=ae (.lst (six w0 w1 w2 w3 w4 w5))) (fb:S ab=ae (.lst (B.map zaY))) (n4:n≠4) (m4:m≠4) (e1:B.map (λt=>t.2.1)=leftsL n w0 w2 w3++leftsL m w1 w2 w3) (e2:B.map (λt=>t.1)=tt.take B.length) (e3:∀t∈B,RightT [w0,w1,w2,w3,w4,w5] t.2.1.nb t.2.2)
  (h:∀S' ab B,P47 S' aw ab w0 w1 w2 w3 w4 w5 tt B→T E D [ae (.scr ns),ae (.ref aw),ae (.ref at'),ae (.ref ab),a4,a5,a6,a7] S') :
  zdQ 199 T E D [ae (.scr ns),ae (.ref aw),ae (.ref at'),ae (.ref ab),a4,a5,a6,a7] S:=by
 have b0:BookOk w0 w1 w2 w3 w4 w5 tt B:=⟨⟨n,m,e1⟩,e2,λt ht=>(e3 t ht).w⟩;have hlen:=b0.len;rw[zdQ];walk_at "wd";rw[zaj fb];refine zaL (λσ=>∃x y z,σ=[x,y,z,ae (.ref aw)]) zaY (λt=>zaY (zyn w2 t)) fb B [] _ ⟨none,none,none,rfl⟩ (by rw[c5];omega) (λt ht σ R hI hR=>?_) ?_
 ·obtain⟨x,y,z,rfl⟩:=hI;have hw7:=(e3 t ht).w.wt;have hd4:=(e3 t ht).w.dp;simp only[zaY];rw[zoC];show zaq (wGN 0) (zaq (wGN 1) (zaq (wGN 2) zbE)) [.str t.1,enc t.2.1,enc t.2.2] _ S _;simp only[zdW,zgX,zfW,dS,dU];exact zwJ fw hw7 hd4 (by decide) λS' s'=>hR _ _ ⟨_,_,_,rfl⟩ s'
 ·rw[aY];intro ab' hab';have eB:B.map (λt=>zaY (zyn w2 t))=(B.map (zyn w2)).map zaY:=by rw[bg];rfl
  rw[eB];refine h _ ab' (B.map (zyn w2)) ⟨G,Ti,⟨⟨⟨n,m,?_⟩,?_,λt ht=>?_⟩,λt ht=>?_,λt ht=>?_⟩,keep fw hab',zag⟩
  ·rw[bg];exact e1
  ·rw[bg,ax];exact e2
  ·obtain⟨u,hu,rfl⟩:=aG.mp ht;exact(zku (by simp) (e3 u hu)).t.w
  ·obtain⟨u,hu,rfl⟩:=aG.mp ht;have hm:u.2.1∈B.map λt=>t.2.1:=aG.mpr ⟨u,hu,rfl⟩;rw[e1]at hm;rcases bp.mp hm with z |z
   ·exact⟨n,w0,n4, .inl rfl,z⟩
   ·exact⟨m,w1,m4, .inr rfl,z⟩
  ·obtain⟨u,hu,rfl⟩:=aG.mp ht;exact zku (by simp) (e3 u hu)
end
section
variable {ws:List Str}{B:List Tn}{S:Sto}{a:Addr}{t:Tr}{r:Nat}{Q:WK}{E:Str→Sto→Prop}{cell:Int}
theorem Sh.mq0{op:Nat→Nat→Nat}{f:Tn→Nat}(K:Bk3 ws B) (o:Opq op):∀(n:Nat) {X:Tr},X.depth≤n→Sh ws B X→X.mq op f B=0
 |0,X,hn,h=>by have:=zaB X;omega
 |n+1,X,hn,h=>by
  obtain⟨s,ts,rfl,_,et,k⟩:=h.cases K;rw[Tr.depth]at hn;rw[zbe et];exact zeA o _ λt ht=>Sh.mq0 K o n (by have:=zbq ht;omega) (k t ht)
theorem zqQ{op:Nat→Nat→Nat}{f:Tn→Nat}(o:Opq op) (z1:∀a,op a 0=a) (z2:∀a,op 0 a=a) {x:Tr}:∀(ts:List Tr) (i:Nat),(∀t∈ts,t.mq op f B=0)→mqs op f B (ts.set i x)≤x.mq op f B
 | [],i,h=>by rw[List.set_nil,mqs];exact aS _
 |t::ts,0,h=>by rw[dS,mqs,zeA o ts λu hu=>h u (aI _ hu),z1];exact ap _
 |t::ts,i+1,h=>by
  rw[dU,mqs,h t aV,z2];exact zqQ o z1 z2 ts i λu hu=>h u (aI _ hu)
theorem zoV{op:Nat→Nat→Nat}{f:Tn→Nat}(K:Bk3 ws B) (o:Opq op) (z1:∀a,op a 0=a) (z2:∀a,op 0 a=a) {v:Tr}:∀(q:List Int) {X w:Tr},Sh ws B X→X.at q=ae w→(X.put q v).mq op f B≤v.mq op f B
 | [],X,w,h,e=>by rw[zez];exact ap _
 |i::q, .bl n,w,h,e=>by cases e
 |i::q, .nd s ts,w,h,e=>by
  obtain⟨u,h0,h1,h2⟩:=zgB e;obtain⟨s',ts',e0,_,et,k⟩:=h.cases K;cases e0;rw[zgz h1,zbe et];exact a9 (zqQ o z1 z2 _ _ λx hx=>(k x hx).mq0 K o _ (ap _)) (zoV K o z1 z2 q (k u (aR h1)) h2)
theorem zvh (K:Bk3 ws B) (L:Lft B) (hP:PB B) (ha:S a=ae (.lst (B.map zaY))) (h:Sh ws B t) (hw:t.weight≤400) (hd:t.depth≤40) (hr:120≤r)
  (q:∀u S',Sub S S'→Wy ws B u→src B u=t→mW B u≤2→mD B u≤2→Q (enc u) S'):zcx (r+1) [.ref a,enc t, .int cell] S Q E:=by
 obtain⟨r,rfl⟩:∃r',r=r'+1:=⟨r - 1,by omega⟩
 have ol:=znz B t [];rw[zcx];walk_at "wp";refine zhy L ha (by omega) (by omega) (by omega) h.hdT λm hm=>?_
 try walk_at "wp"
 try rw[zaj zag]
 refine zaL (λσ=>∃y,σ=[y]) zkL (λx=>zbo x.1) zag (t.op B []) [] _ ⟨none,rfl⟩ (by simp;omega) (λx hx σ R hI hR=>?_) ?_
 ·obtain⟨y,rfl⟩:=hI;simp only[zeo,zkL];walk_at "wp";exact hR _ _ ⟨_,rfl⟩ .refl
 ·rw[aY];have e0:(t.op B []).map (λx=>zbo x.1)=(opl B t).map zbo:=by unfold opl;rw[bg];rfl
  rw[e0];have sm:Sub S (put S m (.lst ((t.op B []).map zkL))):= .put .refl hm;generalize put S m (.lst ((t.op B []).map zkL))=S1 at sm⊢;intro f hf;have s2:Sub S1 (put S1 f (.lst ((opl B t).map zbo))):= .put .refl hf;have ff:put S1 f (.lst ((opl B t).map zbo)) f=ae (.lst ((opl B t).map zbo)):=zag;generalize put S1 f (.lst ((opl B t).map zbo))=S2 at s2 ff⊢
  try walk_at "wp"
  refine⟨by decide,λz hz=>?_⟩;rw[zwd (keep ff hz) zag]
  try walk_at "wp"
  have sz:Sub S (put S2 z (.lst [])):=(sm.trans s2).trans (.put .refl hz);have fz:=keep (x:=Ob.lst []) ff hz;generalize put S2 z (.lst [])=S3 at sz fz⊢;cases ho:opl B t with
  |nil=>
   simp only[cm,i8,if_true];exact⟨_, .refl,q t _ sz h.wy h.q (by rw[mW,h.mq0 K zhO _ (ap _)];omega) (by rw[mD,h.mq0 K zhw _ (ap _)];omega)⟩
  |cons p0 ps=>
   rw[←ho];have hne:(opl B t).map zbo≠ []:=by rw[ho];simp
   have hie:((opl B t).map zbo).isEmpty=false:=by rw[ho];rfl
   rw[hie];simp only[bP,if_false];have hpos:(0:Int)<(((opl B t).map zbo).length:Int):=by
    have:=eD.mpr hne;omega
   obtain⟨j,x,e1,e2⟩:=zko cell hne;obtain⟨p,hp,rfl⟩:=aG.mp (aR e1);obtain⟨j',x',e1',e2'⟩:=zko (cell / 64) hne;obtain⟨p',hp',rfl⟩:=aG.mp (aR e1');simp only[zaj fz,e2,e2'];refine⟨hpos,⟨by decide,by decide⟩,hpos,by decide,λg0 hg0=>⟨⟨by decide,by decide⟩,by decide,λg hg=>?_⟩⟩
   have key:∀wn:List (List Int),wn.length≤2→(∀q∈wn,q∈opl B t)→zeB (r+1) [W.ref a,enc t,W.ref g] (put (put S3 g0 (Ob.lst [zbo p,zbo p'])) g (Ob.lst (wn.map zbo))) (λw S'=>∃S'',Sub S'' S'∧Q w S'') λcl S2=>E cl S2:=λwn wl wq=>by
    obtain⟨u,hu,e3,e4,e5⟩:=zvw K (wn:=wn) t.depth t [] (ap _) h (h.wn wq);have sg:Sub S (put (put S3 g0 (Ob.lst [zbo p,zbo p'])) g (Ob.lst (wn.map zbo))):=(sz.trans (.put .refl hg0)).trans (.put .refl hg);refine zsL L hP hu (by omega) (by omega) (sg _ _ ha) zag h.hdT (by omega) (by omega) (by omega) rfl wq ?_;have c2:cnt wn []≤2:=a9 (List.countP_le_length) wl;have c3:=ztY K hu;have c4:=zyw (B:=B) u;exact⟨_, .refl,q u _ sg e4 e3 (by omega) (by omega)⟩
   rcases(by omega:cell / 4096 % 2=0∨cell / 4096 % 2=1) with e |e<;>rw[e]
   ·exact key [p] (by simp) (λq hq=>by simp only[bz]at hq;subst hq;exact hp)
   ·exact key [p,p'] (by simp) (λq hq=>by
     simp only[aA,bi,or_false]at hq;rcases hq with rfl |rfl
     ·exact hp
     ·exact hp')
end
theorem zop{P:Tr→Prop}(hc:∀s ts,P (.nd s ts)→ ∀t∈ts,P t) (hd50:∀t,P t→t.depth≤50) {a:Addr}{l t:Tr}{r:Nat}{S:Sto}{A:List (Int×Tr)}{Q:WK}{E:Str→Sto→Prop}(hd:l.depth≤r+1) (hf:t.fits 0) (hp:∀n,l= .bl n→P t) (hk:∀s us,t= .nd s us→ ∀u∈us,P u) (ha:S a=ae (.dk (zeN A))) (hn:NdA A) (hA:∀n t,lkA A n=ae t→P t) (hl:A.length+l.weight≤1000)
  (h1:∀A',PaOk P A A' l t→Q (.ref a) (put S a (.dk (zeN A')))) (h0:∀A',Q .non (put S a (.dk (zeN A')))):zaV (r+1) [enc l,enc t, .ref a] S Q E:=by
 cases l with
 |bl n=>exact zgj hc hd50 (r+1) hd (ap _) hf (hp n rfl) ha hn hA hl h1 h0
 |nd s ls=>
  cases t with
  |bl n=>simp only[Tr.fits]at hf;omega
  |nd z us=>
   simp only[Tr.fits]at hf;simp only[Tr.depth]at hd;simp only[Tr.weight]at hl;have no:∃S'',Sub S'' S∧Q .non S'':=by
    have:=h0 A;rw[zdy ha]at this;exact⟨_, .refl,this⟩
   rw[zaV];simp only[enc];walk_at "wd";simp only[zaT];by_cases e1:s=z
   ·subst e1;simp only[beq_self_eq_true,gd,bP,if_false];by_cases e2:ls.length=us.length
    ·rw[e2];simp only[beq_self_eq_true,gd,bP,if_false]
     try walk_at "wd"
     have hr1:ls=[]∨ ∃r',r=r'+1:=by
      cases ls with
      |nil=>exact .inl rfl
      |cons l ls=>
       have:=zaB l;rw[zbh]at hd;exact .inr ⟨r - 1,by omega⟩
     refine zes ls us (λl hl' {t S A Q E} f1 f2 f3 f4 f5 f6 f7 f8=>?_) e2 hf (hk _ _ rfl) ha hn hA (by omega) (λA' x3 x4 e=>?_) λA'=>?_
     ·rcases hr1 with rfl |⟨r,rfl⟩
      ·cases hl'
      ·exact zgj hc hd50 (r+1) (by have:=zbq hl';omega) (by omega) f1 f2 f3 f4 f5 f6 f7 f8
     ·walk_at "wd";exact⟨_, .refl,h1 A' e.up⟩
     ·exact⟨_, .refl,h0 A'⟩
    ·have:(((ls.length+1:Nat):Int) == ((us.length+1:Nat):Int))=false:=by simp;omega
     simp only[this,fK,if_true];exact no
   ·have:(s == z)=false:=by simp [e1]
    simp only[this,fK,if_true];exact no
section
variable {ws:List Str}{B:List Tn}{S:Sto}{a:Addr}{t:Tr}{r:Nat}{Q:WK}{E:Str→Sto→Prop}{cell:Int}
def LfF (B:List Tn):Prop:=∀t∈B,t.2.1.depth≤3∧t.2.1.nb≤2∧ ∀us:List Tr,us.length=t.2.1.nb→(t.2.1.fill us).weight≤2+wts us
theorem zzn{us:List Tr}{n:Nat}{h c d:Str}(hn:n≠4) {L:Tr}(hL:L∈leftsL n h c d) (hl:us.length=L.nb):(L.fill us).weight≤2+wts us:=by
 unfold leftsL at hL;split at hL<;>simp only[aA,bi,or_false]at hL
 all_goals first
  |exact absurd rfl hn
  | (subst hL;rcases us with _ |⟨u,_ |⟨v,_ |⟨x,us⟩⟩⟩<;>simp [Tr.nb,nbs]at hl<;>simp [Tr.fill,fills,Tr.weight,wts]<;>omega)
  | (rcases hL with rfl |rfl<;>rcases us with _ |⟨u,_ |⟨v,_ |⟨x,us⟩⟩⟩<;>simp [Tr.nb,nbs]at hl<;>simp [Tr.fill,fills,Tr.weight,wts]<;>omega)
theorem Bk47.lff{w0 w1 w2 w3 w4 w5:Str}{tt:List Str}{B:List Tn}(h:Bk47 w0 w1 w2 w3 w4 w5 tt B):LfF B:=λt ht=>by
 obtain⟨n,hd,hn,_,h2⟩:=h.l t ht;exact⟨(zqT hn h2).1,(zqT hn h2).2.1,λus hl=>zzn hn h2 hl⟩
structure BwC (ws:List Str) (B:List Tn) (X x:Tr):Prop where
  wy:Wy ws B x
  go:gol B x=X
  w:mW B x≤1
  sw:(src B x).weight≤X.weight+4
  sd:(src B x).depth+mD B x≤X.depth+2
theorem BwC.quiet (K:Bk3 ws B) {X:Tr}(h:Sh ws B X):BwC ws B X X:=⟨h.wy,h.mkq K _,by rw[mW,h.mq0 K zhO _ (ap _)];omega,by rw[h.q];omega,by rw[h.q,mD,h.mq0 K zhw _ (ap _)];omega⟩
theorem BwC.st{X x:Tr}(h:BwC ws B X x):StC ws B X (x,false) (src B x):=⟨⟨h.wy,h.go,rfl⟩,nofun,λ_=>⟨h.w,h.sw,h.sd⟩⟩
theorem zra (K:Bk3 ws B) (hl4:LfF B) {X u c:Tr}{q:List Int}{t:Tn}{A:List (Int×Tr)}(hX:Sh ws B X) (hu:X.at q=ae u) (ht:t∈B) (hc:Sh ws B c) (wc:c.weight=1)
  (h:PaOk (λv=>Sh ws B v∧v.depth≤u.depth - ffT t) [] A t.2.2 u) 
  :BwC ws B X (X.put q (.nd t.1 (zbr A c t.2.1.nb))):=by
 have hl:(zbr A c t.2.1.nb).length=t.2.1.nb:=by simp [zbr]
 have ud:1+ffT t≤u.depth:=by
  have e:=h.fl (zbr A c t.2.1.nb) λn v e=>(by
   have ft:=(K.b.ri t ht).fits;have:=h.ky _ ft (λ_ _ z=>by cases z) n v e
   exact znO e this.1 this.2)
  have:=zaB u;unfold ffT;split
  ·omega
  ·rename_i z;cases hr:t.2.2 with
   |bl n=>rw[hr]at z;exact absurd rfl z
   |nd s rs=>
    rw[hr]at z e;cases rs with
    |nil=>exact absurd rfl z
    |cons r rs=>
     rw[←e,Tr.fill,fills,Tr.depth,zbh];have:=zaB (r.fill (zbr A c t.2.1.nb));omega
 have hs:∀v∈zbr A c t.2.1.nb,Sh ws B v∧v.depth≤u.depth - ffT t:=λv hv=>by
  obtain⟨n,_,rfl⟩:=aG.mp hv;cases e:lkA A (n:Int) with
  |none=>
   have:c.depth≤1:=by have:=zdl c;omega
   exact⟨hc,by show c.depth≤_;omega⟩
  |some w=>exact h.ps _ _ e
 have et:=zca K.b.nd ht;have wn:Wy ws B (.nd t.1 (zbr A c t.2.1.nb)):=by
  refine⟨?_,?_⟩
  ·rw[Tr.hd,hds_iff];exact⟨.inr ⟨t,ht,rfl⟩,λu hu=>(hs u hu).1.wy.hd⟩
  ·rw[Tr.ar,ars_iff];refine⟨λt' e=>?_,λu hu=>(hs u hu).1.wy.ar⟩;rw[et]at e;cases e;exact hl
 have ms:∀g:Tn→Tr,(zbr A c t.2.1.nb).map (Tr.mk B g)=zbr A c t.2.1.nb:=λg=>zuy K (λv hv=>(hs v hv).1) g;have hg:gol B (X.put q (.nd t.1 (zbr A c t.2.1.nb)))=X:=by
  rw[show gol B (X.put q (.nd t.1 (zbr A c t.2.1.nb)))=X.put q (gol B (.nd t.1 (zbr A c t.2.1.nb))) from zrn K _ q hX hu];rw[show gol B (.nd t.1 (zbr A c t.2.1.nb))=_ from zdA et,ms];have e:t.2.2.fill (zbr A c t.2.1.nb)=u:=by
   have ft:=(K.b.ri t ht).fits;refine h.fl _ λn v e=>?_;have:=h.ky _ ft (λ_ _ z=>by cases z) n v e
   exact znO e this.1 this.2
  rw[e];exact zkq q hu
 have hsr:src B (X.put q (.nd t.1 (zbr A c t.2.1.nb)))=X.put q (t.2.1.fill (zbr A c t.2.1.nb)):=by
  rw[show src B (X.put q (.nd t.1 (zbr A c t.2.1.nb)))=X.put q (src B (.nd t.1 (zbr A c t.2.1.nb))) from zrn K _ q hX hu];rw[show src B (.nd t.1 (zbr A c t.2.1.nb))=_ from zdA et,ms]
 obtain⟨f1,f2,f3⟩:=hl4 t ht;have zn:∀{op:Nat→Nat→Nat}{f:Tn→Nat},Opq op→(Tr.nd t.1 (zbr A c t.2.1.nb)).mq op f B=f t:=λo=>by
  rw[znR et,zeA o _ λv hv=>(hs v hv).1.mq0 K o _ (ap _)];rfl
 refine⟨zue wn q hX.wy hu,hg,?_,?_,?_⟩
 ·have:=zoV (f:=λ_=>1) (v:= .nd t.1 (zbr A c t.2.1.nb)) K zhO (λa=>c_ a) (λa=>bO a) q hX hu;rw[zn zhO]at this;exact this
 ·rw[hsr];have h1:=zih (u:=t.2.1.fill (zbr A c t.2.1.nb)) q hu;have h2:=f3 _ hl;have h3:=zna A c t.2.1.nb wc;have h4:=h.sm;simp only[smA,cm,List.sum_nil,bO]at h4;unfold smA at h3;omega
 ·rw[hsr];have h1:=ztS (u:=t.2.1.fill (zbr A c t.2.1.nb)) q hu;have h2:=zwm q hu;have h3:=zjj (us:=zbr A c t.2.1.nb) (k:=u.depth - ffT t) (by omega) (λv hv=>(hs v hv).2) t.2.1;have h4:=zoV (f:=ffT) (v:= .nd t.1 (zbr A c t.2.1.nb)) K zhw (λa=>gM a) (λa=>fD a) q hX hu;rw[zn zhw]at h4;have h5:ffT t≤1:=by unfold ffT;split<;>omega
  unfold mD;omega
theorem zqi{c:Str}(K:Bk3 ws B) (hl4:LfF B) (hB:B≠ []) (lB:B.length≤1000) (ha:S a=ae (.lst (B.map zaY))) (h:Sh ws B t) (hc:Sh ws B (.nd c [])) (hw:t.weight≤400) (hd:t.depth≤40) (hr:120≤r)
  (q:∀u S',Sub S S'→BwC ws B t u→Q (enc u) S'):zdk (r+1) [.ref a,enc t, .int cell, .str c] S Q E:=by
 obtain⟨r,rfl⟩:∃r',r=r'+1:=⟨r - 1,by omega⟩
 rw[zdk];walk_at "wd";rw[zaj ha];have hBe:B.map zaY≠ []:=by simpa using hB
 obtain⟨j,x,e1,e2⟩:=zko cell hBe;have hpos:(0:Int)<((B.map zaY).length:Int):=by
  have:=eD.mpr hBe;omega
 refine⟨hpos,?_⟩;rw[zaj ha,e2];obtain⟨u,hu,rfl⟩:=aG.mp (aR e1);have hL:=K.b.lf u hu;have hR:=K.b.ri u hu;simp only[zaY]
 try walk_at "wd"
 refine zmH t.depth (ap _) (by omega) (by omega) (by omega) (h.fit K _ (ap _)) λS1 b s1 fb=>?_
 try walk_at "wd"
 rw[zaj fb];have hpe:(t.pl []).map zbo≠ []:=by
  intro z;have:=congrArg db z;rw[ax,←zfb,ax,zgl]at this;have:=zfU t;simp at *;omega
 obtain⟨j2,x2,e3,e4⟩:=zko (cell / 4) hpe;have hpos2:(0:Int)<(((t.pl []).map zbo).length:Int):=by
  have:=eD.mpr hpe;omega
 refine⟨⟨by decide,by decide⟩,hpos2,?_⟩
 rw[zaj fb,e4];obtain⟨p,hp,rfl⟩:=aG.mp (aR e3);have hp2:∃v,t.at p=ae v∧p.length<t.depth:=by
  rw[←zfb,aG]at hp;obtain⟨⟨p',v⟩,hm,rfl⟩:=hp;have:=zqn hm;exact⟨v,this.1,this.2⟩
 obtain⟨v,hv,hpl⟩:=hp2;have shv:=h.part K p hv;have dv:=zwm p hv;dsimp only;refine zxo hv ?_
 try walk_at "wd"
 rw[zvl];intro d hd';have s2:Sub S1 (put S1 d (.dk [])):= .put .refl hd';have fd:put S1 d (.dk []) d=ae (.dk (zeN [])):=zag;generalize put S1 d (.dk [])=S2 at s2 fd⊢;have en:∀A:List (Int×Tr),Sub S2 (put S2 d (.dk (zeN A)))∨True:=λ_=> .inr trivial;have hk47:∀s us,v= .nd s us→ ∀w∈us,Sh ws B w∧w.depth≤v.depth - ffT u:=λs us e w hw=>by
  subst e;refine⟨shv.kid K w hw,?_⟩;rw[Tr.depth];have:=zbq hw;have:ffT u≤1:=by unfold ffT;split<;>omega
  omega
 refine zop (P:=λw=>Sh ws B w∧w.depth≤v.depth - ffT u) (λs ts hs w hw=>⟨hs.1.kid K w hw,by have:=hs.2;rw[Tr.depth]at this;have:=zbq hw;omega⟩) (λw hw=>by have:=hw.2;omega) (by have:=hR.dp;omega) (shv.fit K _ (ap _)) (λn e=>⟨shv,by unfold ffT;rw[e];exact ap _⟩) hk47 fd i3 (λ_ _ z=>by cases z) (by have:=hR.wt;simp;omega) (λA hA=>?_) λA=>?_
 ·have nS:S d=none:=by
   cases z:S d with
   |none=>rfl
   |some o=>rw[s1 _ _ z]at hd';cases hd'
  have sA:Sub S (put S2 d (.dk (zeN A))):=λx o e=>by
   by_cases hx:x=d
   ·subst hx;rw[nS]at e;cases e
   ·rw[zaD hx];exact s2 _ _ (s1 _ _ e)
  have fA:put S2 d (.dk (zeN A)) d=ae (.dk (zeN A)):=zag;generalize put S2 d (.dk (zeN A))=S3 at sA fA⊢
  try walk_at "wd"
  refine zgS u.2.1.depth (ap _) (by have:=hL.dp;omega) (by have:=hL.wt;have:=hL.nb;omega) ?_
  try walk_at "wd"
  have hnb:=hL.nb;refine⟨⟨by omega,by omega⟩,?_⟩
  have eup:zlW 0 u.2.1.nb=(aX u.2.1.nb).map λn:Nat=>W.int (n:Int):=by
   unfold zlW;refine cI λn _=>?_;simp
  have e6:((u.2.1.nb:Nat):Int).toNat=u.2.1.nb:=by omega
  try rw[e6]
  rw[eup];refine zaL (λσ=>∃y,σ=[y,ae (.ref d),ae (.str c)]) (λn:Nat=>W.int (n:Int)) (λn=>enc ((lkA A (n:Int)).getD (.nd c []))) trivial (aX u.2.1.nb) [] _ ⟨none,rfl⟩ (by simp;omega) (λn hn σ R hI hR'=>?_) ?_
  ·obtain⟨y,rfl⟩:=hI;rw[zfJ];simp only[zmU];walk_at "wd";simp only[zny fA,zpP];refine⟨by decide,?_⟩;rw[zoS];have:=hR' [ae (.int (n:Int)),ae (.ref d),ae (.str c)] S3 ⟨_,rfl⟩ .refl;cases z:lkA A (n:Int) with
   |none=>rw[z]at this;simpa [enc,encs]using this
   |some w=>rw[z]at this;simpa using this
  ·rw[aY];intro g hg;have e7:(aX u.2.1.nb).map (λn=>enc ((lkA A ((n:Nat):Int)).getD (.nd c [])))=encs (zbr A (.nd c []) u.2.1.nb):=by
    unfold zbr;rw[zaA,bg];rfl
   rw[e7];have sg:Sub S (put S3 g (.lst (encs (zbr A (.nd c []) u.2.1.nb)))):=sA.trans (.put .refl hg);have fg:put S3 g (.lst (encs (zbr A (.nd c []) u.2.1.nb))) g=ae (.lst (encs (zbr A (.nd c []) u.2.1.nb))):=zag;generalize put S3 g (.lst (encs (zbr A (.nd c []) u.2.1.nb)))=S4 at sg fg⊢
   try walk_at "wd"
   try rw[zaj fg]
   have lw:(zbr A (.nd c []) u.2.1.nb).length=u.2.1.nb:=by simp [zbr]
   have e8:W.tup (.str u.1::encs (zbr A (.nd c []) u.2.1.nb))=enc (.nd u.1 (zbr A (.nd c []) u.2.1.nb)):=by simp [enc]
   simp only[zaT,lw];refine⟨zal (by decide),zal (by omega),?_⟩;rw[e8];refine zqX p hv (by omega) (by omega) (by omega) ⟨_, .refl,q _ _ sg ?_⟩;exact zra K hl4 h hv hu hc (by simp [Tr.weight,wts]) hA
 ·have nS:S d=none:=by
   cases z:S d with
   |none=>rfl
   |some o=>rw[s1 _ _ z]at hd';cases hd'
  have sA:Sub S (put S2 d (.dk (zeN A))):=λx o e=>by
   by_cases hx:x=d
   ·subst hx;rw[nS]at e;cases e
   ·rw[zaD hx];exact s2 _ _ (s1 _ _ e)
  try walk_at "wd"
  exact⟨_, .refl,q t _ sA (BwC.quiet K h)⟩
end
section
variable {ws:List Str}{B:List Tn}{S:Sto}{a:Addr}{t:Tr}{r:Nat}{Q:WK}{E:Str→Sto→Prop}{c:Str}
theorem StpQ.shq (H:Thn ws B) {X Y:Tr}{x:Tr×Bool}(h:StpQ ws B X x Y):Sh ws B Y:=by
 obtain⟨x,b⟩:=x;cases b with
 |true=>
  obtain⟨h1,_,rfl⟩:=h;exact⟨(H.K.gol h1).1,(H.K.gol h1).2.1⟩
 |false=>
  obtain⟨h1,_,rfl⟩:=h;exact⟨(H.K.src h1).1,(H.K.src h1).2.1⟩
structure Wk47 (ws:List Str) (B:List Tn) (X:Tr) (ss:List (Tr×Bool)) (Y:Tr):Prop where
  w:WndC ws B X ss Y
  sh:Sh ws B Y
  l:ss.length≤12
  v:∃a b,Pb Y a b (12 - ss.length)
theorem zhP{EX:WX}{D:WEnds}{l lc:Addr}{X:Tr}{cs0:List Int}(H:Thn ws B) (hl4:LfF B) (L:Lft B) (hP:PB B) (hB:B≠ []) (lB:B.length≤1000) (fb:S a=ae (.lst (B.map zaY))) (hc:Sh ws B (.nd c [])) (f0:S l=none) (flc:S lc=ae (.lst (cs0.map W.int))) (hr:121≤r)
  (hD:∀S' ss Y x7 x8 x9,Sub S S'→S' l=ae (.lst (ss.map zcI))→Wk47 ws B X ss Y→D.nx [ae (.ref a),ae (enc X),ae (.ref lc),ae (.int 12),ae (.str c),ae (.ref l),ae (enc Y),x7,x8,x9] S') :
  ∀(cs:List Int) {S':Sto}{ss:List (Tr×Bool)}{Y:Tr}{x7 x8 x9:Option W},Sub S S'→S' l=ae (.lst (ss.map zcI))→Wk47 ws B X ss Y→
  forL (wGN 7) (zbU (r+1) zaU) EX D (λS'=>S' lc=ae (.lst (cs0.map W.int))) (cs.map W.int) [ae (.ref a),ae (enc X),ae (.ref lc),ae (.int 12),ae (.str c),ae (.ref l),ae (enc Y),x7,x8,x9] S'
 | [],S',ss,Y,x7,x8,x9,sb,fl,k=>hD S' ss Y x7 x8 x9 sb fl k
 |n::cs,S',ss,Y,x7,x8,x9,sb,fl,k=>by
  rw[ay];refine zbp λN hN=>?_;rw[zbU];walk_at "wd";rw[zaj fl,ax];by_cases hl:(ss.length:Int)<12
  ·rw[if_pos (by first |exact hl |simpa using hl)];refine⟨by decide,?_⟩;obtain⟨a0,b0,v⟩:=k.v;rw[show 12 - ss.length=(11 - ss.length)+1 by omega]at v
   have hbd:=v.small;have fin:∀(u Z:Tr) (b:Bool) (S1:Sto),Sub S' S1→StC ws B Y (u,b) Z→zcE S1 l λxs=>xs.length<sizeLine∧N [ae (.ref a),ae (enc X),ae (.ref lc),ae (.int 12),ae (.str c),ae (.ref l),ae (enc Z),ae (.int n),ae (.bl b),ae (enc u)] (put S1 l (.lst (xs++[.tup [enc u, .bl b]]))):=λu Z b S1 s1 st=>by
    rw[zaj (s1 _ _ fl),ax];obtain⟨a1,b1,v'⟩:∃a1 b1,Pb Z a1 b1 (11 - ss.length):=⟨_,_,st.pb H v⟩;have e:ss.map zcI++[W.tup [enc u, .bl b]]=(ss++[(u,b)]).map zcI:=by rw[bD];rfl
    rw[e];have s2:Sub S (put S1 l (.lst ((ss++[(u,b)]).map zcI))):=λx o ex=>by
     by_cases hx:x=l
     ·subst hx;rw[f0]at ex;cases ex
     ·rw[zaD hx];exact s1 _ _ (sb _ _ ex)
    refine⟨zbK (by omega),hN _ _ _ .refl (s2 _ _ flc) (zhP H hl4 L hP hB lB fb hc f0 flc hr hD cs s2 zag ⟨k.w.snoc st,st.st.shq H,by simp;omega,a1,b1,?_⟩)⟩
    rw[aM,bF,show 12 - (ss.length+1)=11 - ss.length by omega]
    exact v'
   by_cases hp:n % 2=0
   ·have e2:(n % 2 == 0)=true:=by simp [hp]
    rw[e2]
    try simp only[if_true]
    refine⟨⟨by decide,by decide⟩,?_⟩
    refine zvh H.K L hP (sb _ _ fb) k.sh hbd.1 hbd.2 (by omega) λu S1 s1 w1 w2 w3 w4=>?_
    try walk_at "wd"
    refine(H.ow w1 w2 ((v.rm (a':=2) (b':=2) (by omega) (by omega)).mono (by omega) (by omega))).ok_made2 (s1 _ _ (sb _ _ fb)) (by omega) ?_
    try walk_at "wd"
    have:=fin u (gol B u) true S1 s1 ⟨⟨w1,w2,rfl⟩,λ_=>⟨w3,w4⟩,nofun⟩;exact⟨by rw[zaj (s1 _ _ fl)];trivial,by decide,this⟩
   ·have e2:(n % 2 == 0)=false:=by simp [hp]
    rw[e2]
    try simp only[bP,if_false]
    refine⟨⟨by decide,by decide⟩,?_⟩
    refine zqi H.K hl4 hB lB (sb _ _ fb) k.sh hc hbd.1 hbd.2 (by omega) λu S1 s1 bw=>?_
    try walk_at "wd"
    have vb:=bw.st.pb H v;refine(H.ow bw.wy rfl ((vb.rm (a':=0) (b':=0) (by omega) (by omega)).mono (by simp) (by simp))).ok_made1 (s1 _ _ (sb _ _ fb)) (by omega) ?_
    try walk_at "wd"
    have:=fin u (src B u) false S1 s1 bw.st;exact⟨by rw[zaj (s1 _ _ fl)];trivial,by decide,this⟩
  ·rw[if_neg (by first |exact hl |simpa using hl)];exact hN _ _ _ .refl (sb _ _ flc) (zhP H hl4 L hP hB lB fb hc f0 flc hr hD cs sb fl k)
theorem zkH{lc:Addr}{X:Tr}{cs:List Int}(H:Thn ws B) (hl4:LfF B) (L:Lft B) (hP:PB B) (hB:B≠ []) (lB:B.length≤1000) (fb:S a=ae (.lst (B.map zaY))) (hc:Sh ws B (.nd c [])) (flc:S lc=ae (.lst (cs.map W.int))) (hX:Sh ws B X) (hV:Pb X 0 0 12) (hr:122≤r)
  (h:∀S' l ss Y,Sub S S'→S' l=ae (.lst (ss.map zcI))→Wk47 ws B X ss Y→Q (.tup [.ref l,enc Y]) S'):zbj (r+1) [.ref a,enc X, .ref lc,(.int 12), .str c] S Q E:=by
 obtain⟨r,rfl⟩:∃r',r=r'+1:=⟨r - 1,by omega⟩
 rw[zbj];walk_at "wd";refine⟨by decide,λl hl=>?_⟩;have s1:Sub S (put S l (.lst [])):= .put .refl hl;rw[zaj (s1 _ _ flc)];refine zhP (X:=X) H hl4 L hP hB lB fb hc hl flc (by omega) (λS' ss Y x7 x8 x9 sb fl k=>?_) cs s1 (ss:=[]) (Y:=X) zag ⟨rfl,hX,by simp,0,0,hV⟩
 walk_at "wd";exact⟨by decide,_, .refl,h S' l ss Y sb fl k⟩
theorem Thn.zr_dp (H:Thn ws B) {p:Pl}(h:PlOk ws B p):(p.ev B zr).depth≤3*p.dp:=by
 induction h with
 | @sign b' h ps hh hp ih=>
  have:=ziq (k:=3*zeS ps) (ts:=ps.map (Pl.ev B zr)) λt ht=>by
   obtain⟨p,hp,rfl⟩:=aG.mp ht;have:=ih p hp;have:=zeG hp;omega
  rw[zaR,Tr.depth,Pl.dp];omega
 | @turn k b' h ps t e hl b0 b1 hp ih=>
  have ht:t∈B:=aR e;rw[zaG e,Pl.dp];show(t.2.1.fill (ps.map (Pl.ev B zr))).depth≤_;have h1:=zjj (us:=ps.map (Pl.ev B zr)) (k:=max 1 (3*zeS ps)) (by omega) (λu hu=>by
   obtain⟨p,hp,rfl⟩:=aG.mp hu;have:=ih p hp;have:=zeG hp;omega) t.2.1
  have h2:=H.ld t ht;omega
end
section
variable {w0 w1 w2 w3 w4 w5:Str}{tt:List Str}{B:List Tn}{S:Sto}{aw ab ac l f o:Addr}{cs ns:List Int}{Q:WK}{X:Str→Sto→Prop}{Y Z:Tr}{ss:List (Tr×Bool)}{fs os:List Tr}{E:WX}{D:WEnds}{T:WS}{y0 y1 y2 y4 y5 y6 y7:Option W}
theorem P47.ok_shape{Y:Str→Sto→Prop}{v8:Int}(h8:v8=8) (P:P47 S aw ab w0 w1 w2 w3 w4 w5 tt B) (hc:S ac=ae (.lst (cs.map W.int)))
  (h:∀(t:Tr) (S':Sto),Sub S S'→Sh [w0,w1,w2,w3,w4,w5] B t→Pb t 0 0 12→Q (enc t) S'):zcQ 199 [.ref ac, .ref ab, .ref aw, .int 4] S (λv S1=>zcO 199 [v, .ref ab, .int v8] S1 Q Y) X:=by
 subst h8;refine L2.zsl (r:=189) (m:=4) (by decide) hc P.fb P.fw P.bk P.ne λp v S' sub pa po pw pn pd=>?_;have H:=P.H;have po2:PlOk [w0,w1,w2,w3,w4,w5] B p:=po.sub λx hx=>aI _ (aI _ hx);have hdp:=zng p;refine L2.zux (r:=198) (by decide) (sub _ _ P.fb) P.bk 23 (by omega) (by omega) pa po (by omega) ?_;have e:p.ev B (byC 8)=p.ev B zr:=zgf po λx h0 h1=>(zCl x h0 h1).symm;rw[e];have hw:=zqd P.bk po;have hd:=H.zr_dp po2;refine h _ S' sub ⟨H.K.wy po2,?_⟩ ⟨by omega,by omega⟩
 show(p.ev B zr).mk B (λt=>t.2.1)=_;rw[zfF H.K.b po2];rfl
theorem zBi (P:P47 S aw ab w0 w1 w2 w3 w4 w5 tt B) (h:∀S' X,P47 S' aw ab w0 w1 w2 w3 w4 w5 tt B→Sh [w0,w1,w2,w3,w4,w5] B X→Pb X 0 0 12→T E D [ae (.scr ns),ae (.ref aw),y2,ae (.ref ab),ae (enc X),y5,y6,y7] S') :
  zdY 199 T E D [ae (.scr ns),ae (.ref aw),y2,ae (.ref ab),y4,y5,y6,y7] S:=by
 rw[zdY];walk_at "wd";intro ac hc;exact(P.sub (.put .refl hc)).ok_shape rfl zag λt S' sb sh bd=>h S' t (P.sub ((Sub.put .refl hc).trans sb)) sh bd
structure Q47 (S:Sto) (ws:List Str) (B:List Tn) (ab l:Addr) (X Z:Tr) (ss:List (Tr×Bool)):Prop where
  H:Thn ws B
  fb:S ab=ae (.lst (B.map zaY))
  fl:S l=ae (.lst (ss.map zcI))
  w:WndQ ws B X ss Z
  r:AllR ws B X ss
  n:ss.length≤12
theorem Q47.sub{ws:List Str}{S':Sto}{X:Tr}(k:Q47 S ws B ab l X Z ss) (s:Sub S S'):Q47 S' ws B ab l X Z ss:=⟨k.H,s _ _ k.fb,s _ _ k.fl,k.w,k.r,k.n⟩
theorem zAx{X:Tr}(P:P47 S aw ab w0 w1 w2 w3 w4 w5 tt B) (hX:Sh [w0,w1,w2,w3,w4,w5] B X) (hV:Pb X 0 0 12) (h:∀S' l Z ss,Q47 S' [w0,w1,w2,w3,w4,w5] B ab l X Z ss→T E D [ae (.scr ns),ae (.ref aw),y2,ae (.ref ab),ae (enc X),ae (.ref l),ae (enc Z),y7] S') :
  zdU 199 T E D [ae (.scr ns),ae (.ref aw),y2,ae (.ref ab),ae (enc X),y5,y6,y7] S:=by
 rw[zdU];walk_at "wd";intro p hp;have s1:Sub S (put S p (.lst ((zeg ns (ae 13) none).map W.int))):= .put .refl hp;rw[zaj (s1 _ _ P.fw)];rw[show atI (six w0 w1 w2 w3 w4 w5) 2=ae (.str w2) from rfl];have hB:=P.b.b.len;refine zkH (r:=198) P.H P.b.lff P.lft P.pb P.ne (by omega) (s1 _ _ P.fb) P.leaf zag hX hV (by omega) λS' l ss Z sb fl k=>?_
 try walk_at "wd"
 exact h S' l Z ss ⟨P.H,sb _ _ (s1 _ _ P.fb),fl,k.w.q,k.w.allR P.H hV k.l,k.l⟩
theorem zBh{ws:List Str}{X:Tr}(k:Q47 S ws B ab l X Z ss) (h:∀S',Sub S S'→T E D [y0,y1,y2,ae (.ref ab),ae (enc X),ae (.ref l),ae (enc Z),y7] S') :
  zdN 199 T E D [y0,y1,y2,ae (.ref ab),ae (enc X),ae (.ref l),ae (enc Z),y7] S:=by
 rw[zdN];walk_at "wd";have:=k.n;refine zim (r:=198) k.H k.fb k.fl k.w k.r (by omega) (by omega) λS' fs os f o a1 a2 a3 a4=>?_
 try walk_at "wd"
 refine zie (r:=198) k.H (a1.sb _ _ k.fb) (a1.sb _ _ k.fl) a1.ff a1.fo a2 k.w k.r (by omega) a3 a4 (by omega) ?_
 try walk_at "wd"
 exact h S' a1.sb
theorem zzP{ws:List Str}{X:Tr}(k:Q47 S ws B ab l X Z ss) (h:∀S' l2,Q47 S' ws B ab l2 Z X (zhV ss)→T E D [y0,y1,y2,ae (.ref ab),y4,ae (.ref l),y6,ae (.ref l2)] S') :
  zea 199 T E D [y0,y1,y2,ae (.ref ab),y4,ae (.ref l),y6,y7] S:=by
 rw[zea];have:=k.n;simp only[zuc,ztN,zul,zqm,zzu];walk_at "wd";rw[zaj k.fl,←List.map_reverse];refine zaL (λσ=>∃x y,σ=[x,y]) zcI (λx=>zcI (flp x)) k.fl ss.reverse [] _ ⟨none,none,rfl⟩ (by simp;omega) (λt ht σ R hI hR=>?_) ?_
 ·obtain⟨x,y,rfl⟩:=hI;obtain⟨t,b⟩:=t;simp only[zcI];rw[zoC];show zaq (wGN 0) (zaq (wGN 1) zbE) [enc t, .bl b] _ S _;simp only[zdW,zgX,zfW,dS,dU];rw[zhK];walk_at "wd";exact⟨by decide,hR _ _ ⟨_,_,rfl⟩ .refl⟩
 ·rw[aY];intro l2 h2;have e:ss.reverse.map (λx=>zcI (flp x))=(zhV ss).map zcI:=by unfold zhV;rw[bg];rfl
  rw[e];have s2:Sub S (put S l2 (.lst ((zhV ss).map zcI))):= .put .refl h2;exact h _ l2 ⟨k.H,s2 _ _ k.fb,zag,k.w.rev,k.r.rev k.w,by rw[ztv];exact k.n⟩
end
theorem zyf (ns:List Int) (hl:ns.length≤63):zdH 200 [.scr ns] (λ_=>none) (λw _=>w= .bl true) (λ_ _=>False):=by
 rw[show(200:Nat)=199+1 from rfl,zdH,zhf];refine⟨rfl,?_⟩;refine zAY λS1 aw w0 w1 w2 w3 w4 w5 G fw=>zzK fw λS2 at' tt Ti fw ft=>zzS Ti fw ft λS3 ab B n m fw fb n4 m4 e1 e2 e3=>zAv G Ti fw fb n4 m4 e1 e2 e3 λS4 ab B P=>zBi P λS5 X P hX hV=>zAx P hX hV λS6 l Z ss k=>zBh k λS7 s7=>zzP (k.sub s7) λS8 l2 k=>?_;rw[zeY];walk_at "wd";have:=k.n;refine zim (r:=198) k.H k.fb k.fl k.w k.r (by omega) (by omega) λS' fs os f o a1 a2 a3 a4=>?_
 try walk_at "wd"
 refine zie (r:=198) k.H (a1.sb _ _ k.fb) (a1.sb _ _ k.fl) a1.ff a1.fo a2 k.w k.r (by omega) a3 a4 (by omega) ?_
 first |exact⟨_, .refl,rfl⟩ |exact⟨_, .refl⟩
end L2
end
end
section
namespace K47
open PySem L2 PyProof.Rows
noncomputable def top (i:Nat):Stmt:=PySem.Challenge.pw_turnweave_k47_whole_winding.main.body.getD i (.Pass ⟨0,0,0,0⟩)
structure Cal (P:aE) (w:aC) (K:aj) (mg:Str→Option Value) (base:Heap) (nm:Str) (ps:List Str) (c:Nat→WSp) where
  zf:Addr
  zd:bG
  zg:∀r,FnOk P w K mg base (CX1 P w) r zf zd ps (zdn K (c r))
  zb:Binds K zd ps []
  zk:eW K (.ref zf)=true
  zm:mg nm=ae (.ref zf)
noncomputable def mkC {P:aE}{w:aC}{K:aj}{h:Heap}{mg:Str→Option Value}{base:Heap}{nm:Str}{st:Stmt}{ps:List Str}{c:Nat→WSp}{f:Addr}{d:bG}(X:K.In h) (G:h.Ns aL mg) (F:Fun K nm nm st f d) (a:aZ K aL nm=ae (ae (.ref f))) (g:∀r,FnOk P w K mg base (CX1 P w) r f d ps (zdn K (c r))) (b:Binds K d ps []):Cal P w K mg base nm ps c:=⟨f,d,g,b,F.kp,bf X G a⟩
def Dfn (K:aj) (nm:Str) (st:Stmt):Prop:=∃f d,aZ K aL nm=ae (ae (.ref f))∧Fun K nm nm st f d
theorem dfn{K:aj}{x:Str}{st:Stmt}{f:Addr}{oc:Value}{od an:Option Addr}{osl:Array (Option Value)}{kV doc pm cdv ct:Value}(a:aZ K aL x=ae (ae (.ref f))) (l:K.lookup f=ae ⟨oc,od, .func (dH x x (zgZ st) (zfZ st) (zak st) .none kV doc pm an cdv ct),osl⟩) (c:gg K cdv x=true) (k:eW K (.ref f)=true):Dfn K x st:=⟨f,_,a,zxa l c k⟩
theorem nC{p:List Value→Prop}{k:Nat}(h:∀a us,us.length=k→p (a::us)):∀us,us.length=k+1→p us:=λus e=>by
 cases us with
 |nil=>cases e
 |cons a us=>exact h a us (Nat.succ.inj e)
theorem n0{p:List Value→Prop}(h:p []):∀us,us.length=0→p us:=λus e=>by
 cases us with
 |nil=>exact h
 |cons a us=>cases e
theorem n1{p:List Value→Prop}(h:∀a,p [a]):∀us,us.length=1→p us:=nC λa=>n0 (p:=λus=>p (a::us)) (h a)
theorem n2{p:List Value→Prop}(h:∀a b,p [a,b]):∀us,us.length=2→p us:=nC λa=>n1 (p:=λus=>p (a::us)) (h a)
theorem n3{p:List Value→Prop}(h:∀a b c,p [a,b,c]):∀us,us.length=3→p us:=nC λa=>n2 (p:=λus=>p (a::us)) (h a)
theorem n4{p:List Value→Prop}(h:∀a b c d,p [a,b,c,d]):∀us,us.length=4→p us:=nC λa=>n3 (p:=λus=>p (a::us)) (h a)
theorem n5{p:List Value→Prop}(h:∀a b c d e,p [a,b,c,d,e]):∀us,us.length=5→p us:=nC λa=>n4 (p:=λus=>p (a::us)) (h a)
theorem n6{p:List Value→Prop}(h:∀a b c d e f,p [a,b,c,d,e,f]):∀us,us.length=6→p us:=nC λa=>n5 (p:=λus=>p (a::us)) (h a)
local macro_rules | `(tactic| walk_at "sc") => `(tactic| (refine ⟨rfl, rfl, rfl, ?_, rfl, ?_, ?_⟩ <;> decide +kernel))
noncomputable abbrev Ok (P:aE) (w:aC) (K:aj) (mg:Str→Option Value) (base:Heap) (f:Addr) (d:bG) (ps:List Str) (c:Nat→WSp):Prop:=∀r,FnOk P w K mg base (CX1 P w) r f d ps (zdn K (c r))
theorem zcS{P:aE}{w:aC}{K:aj}{mg:Str→Option Value}{base:Heap}{f:Addr}{d:bG}{ps:List Str}{c:Nat→WSp}(h0:c 0=zaU) (h:∀r,FnOk P w K mg base (CX1 P w) r f d ps (zdn K (c r))→FnOk P w K mg base (CX1 P w) (r+1) f d ps (zdn K (c (r+1)))):Ok P w K mg base f d ps c:=λr=>by
 induction r with
 |zero=>rw[h0];exact zxY
 |succ r ih=>exact h r ih
structure Ncl (mg:Str→Option Value) (x:Str) where
  xC:Addr
  xm:mg x=ae (.ref xC)
theorem zqu:bV "ValueError" =ae (.type "ValueError"):=by first |rfl |decide +kernel | (unfold bV;decide +kernel)
noncomputable abbrev s0:Stmt:=top 9
theorem sc0:FnScope ["t"] ["t"] (zak s0):=by walk_at "sc"
noncomputable abbrev s1:Stmt:=top 10
theorem sc1:FnScope ["things", "found", "thing"] ["things"] (zak s1):=by walk_at "sc"
noncomputable abbrev s2:Stmt:=top 11
theorem sc2:FnScope ["t", "heavy", "deep", "level"] ["t"] (zak s2):=by walk_at "sc"
noncomputable abbrev s3:Stmt:=top 13
theorem sc3:FnScope ["t", "place", "found", "number", "inner"] ["t", "place", "found"] (zak s3):=by walk_at "sc"
noncomputable abbrev s4:Stmt:=top 12
theorem sc4:FnScope ["t", "found"] ["t"] (zak s4):=by walk_at "sc"
noncomputable abbrev s5:Stmt:=top 15
theorem sc5:FnScope ["t", "number", "parts"] ["t", "number"] (zak s5):=by walk_at "sc"
noncomputable abbrev s6:Stmt:=top 14
theorem sc6:FnScope ["t", "place", "thing", "number"] ["t", "place"] (zak s6):=by walk_at "sc"
noncomputable abbrev s7:Stmt:=top 17
theorem sc7:FnScope ["side"] ["side"] (zak s7):=by walk_at "sc"
noncomputable abbrev s8:Stmt:=top 18
theorem sc8:FnScope ["side", "things"] ["side", "things"] (zak s8):=by walk_at "sc"
noncomputable abbrev s9:Stmt:=top 21
theorem sc9:FnScope ["one", "other"] ["one", "other"] (zak s9):=by walk_at "sc"
noncomputable abbrev s10:Stmt:=top 20
theorem sc10:FnScope ["left", "t", "things", "inner", "thing"] ["left", "t", "things"] (zak s10):=by walk_at "sc"
noncomputable abbrev s11:Stmt:=top 19
theorem sc11:FnScope ["left", "t", "things"] ["left", "t"] (zak s11):=by walk_at "sc"
noncomputable abbrev s12:Stmt:=top 25
theorem sc12:FnScope ["book", "title", "turning"] ["book", "title"] (zak s12):=by walk_at "sc"
noncomputable abbrev s13:Stmt:=top 29
theorem zBA:FnScope ["shape"] ["shape"] (zak s13):=by walk_at "sc"
noncomputable abbrev s14:Stmt:=top 30
theorem sc14:FnScope ["book", "way", "side", "parts", "turning"] ["book", "way", "side"] (zak s14):=by walk_at "sc"
noncomputable abbrev s15:Stmt:=top 27
theorem zCd:FnScope ["book", "way"] ["book", "way"] (zak s15):=by walk_at "sc"
noncomputable abbrev s16:Stmt:=top 28
theorem zCg:FnScope ["book", "way"] ["book", "way"] (zak s16):=by walk_at "sc"
noncomputable abbrev s17:Stmt:=top 31
theorem sc17:FnScope ["book", "way", "turning"] ["book", "way"] (zak s17):=by walk_at "sc"
noncomputable abbrev s18:Stmt:=top 35
theorem sc18:FnScope ["book", "shape", "turning"] ["book", "shape"] (zak s18):=by walk_at "sc"
noncomputable abbrev s19:Stmt:=top 34
theorem sc19:FnScope ["book", "shape", "place", "found", "turning", "number", "inner"] ["book", "shape", "place", "found"] (zak s19):=by walk_at "sc"
noncomputable abbrev s20:Stmt:=top 33
theorem sc20:FnScope ["book", "shape", "found"] ["book", "shape"] (zak s20):=by walk_at "sc"
noncomputable abbrev s21:Stmt:=top 36
theorem zCj:FnScope ["pairs"] ["pairs"] (zak s21):=by walk_at "sc"
noncomputable abbrev s22:Stmt:=top 40
theorem sc22:FnScope ["book", "shape", "turning"] ["book", "shape"] (zak s22):=by walk_at "sc"
noncomputable abbrev s23:Stmt:=top 39
theorem sc23:FnScope ["book", "shape", "place", "wanted", "top", "parts", "spot", "inner"] ["book", "shape", "place", "wanted"] (zak s23):=by walk_at "sc"
noncomputable abbrev s24:Stmt:=top 38
theorem zBB:FnScope ["book", "shape", "places"] ["book", "shape", "places"] (zak s24):=by walk_at "sc"
noncomputable abbrev s25:Stmt:=top 37
theorem sc25:FnScope ["book", "shape", "places", "known", "place"] ["book", "shape", "places"] (zak s25):=by walk_at "sc"
noncomputable abbrev s26:Stmt:=top 42
theorem sc26:FnScope ["book", "way", "other", "first", "second", "mine", "yours", "parts"] ["book", "way", "other"] (zak s26):=by walk_at "sc"
noncomputable abbrev s27:Stmt:=top 46
theorem sc27:FnScope ["book", "ways", "way"] ["book", "ways"] (zak s27):=by walk_at "sc"
noncomputable abbrev s28:Stmt:=top 45
theorem sc28:FnScope ["book", "way", "ways", "line", "over", "way_on"] ["book", "way", "ways"] (zak s28):=by walk_at "sc"
noncomputable abbrev s29:Stmt:=top 44
theorem sc29:FnScope ["book", "road", "other", "downs", "row", "overs", "way", "line"] ["book", "road", "other"] (zak s29):=by walk_at "sc"
noncomputable abbrev s30:Stmt:=top 47
theorem zBK:FnScope ["downs_and_overs"] ["downs_and_overs"] (zak s30):=by walk_at "sc"
noncomputable abbrev s31:Stmt:=top 49
theorem sc31:FnScope ["book", "shape", "steps", "first", "second", "way", "leads_on", "start", "stop", "stands", "downs_and_overs"] ["book", "shape", "steps"] (zak s31):=by walk_at "sc"
noncomputable abbrev s32:Stmt:=top 51
theorem zCc:FnScope ["script", "k"] ["script", "k"] (zak s32):=by walk_at "sc"
noncomputable abbrev s33:Stmt:=top 52
theorem sc33:FnScope ["one", "two", "great", "signs", "rest", "base", "k", "at", "words", "word"] ["one", "two", "great"] (zak s33):=by walk_at "sc"
noncomputable abbrev s34:Stmt:=top 53
theorem zCs:FnScope ["side"] ["side"] (zak s34):=by walk_at "sc"
noncomputable abbrev s35:Stmt:=top 54
theorem zBv:FnScope ["side", "things"] ["side", "things"] (zak s35):=by walk_at "sc"
noncomputable abbrev s36:Stmt:=top 55
theorem zCr:FnScope ["draw", "many", "w"] ["draw", "many", "w"] (zak s36):=by walk_at "sc"
noncomputable abbrev s37:Stmt:=top 56
theorem sc37:FnScope ["draw", "many", "w", "one", "other", "way"] ["draw", "many", "w"] (zak s37):=by walk_at "sc"
noncomputable abbrev s38:Stmt:=top 57
theorem zBV:FnScope ["way", "head", "c", "d"] ["way", "head", "c", "d"] (zak s38):=by walk_at "sc"
noncomputable abbrev s39:Stmt:=top 58
theorem sc39:FnScope ["script", "k", "w", "titles", "book", "j", "lefts", "n", "left", "right"] ["script", "k", "w", "titles"] (zak s39):=by walk_at "sc"
noncomputable abbrev s40:Stmt:=top 59
theorem sc40:FnScope ["cells", "book", "w", "room", "stack", "spent", "cell", "way", "need", "node", "k", "at"] ["cells", "book", "w", "room"] (zak s40):=by walk_at "sc"
noncomputable abbrev s41:Stmt:=top 60
theorem sc41:FnScope ["plan", "book", "by", "k", "bits", "head", "parts", "ways"] ["plan", "book", "by"] (zak s41):=by walk_at "sc"
noncomputable abbrev s42:Stmt:=top 61
theorem sc42:FnScope ["book", "way", "which", "parts", "turning"] ["book", "way", "which"] (zak s42):=by walk_at "sc"
noncomputable abbrev s43:Stmt:=top 62
theorem sc43:FnScope ["side", "shape", "known", "one", "other"] ["side", "shape", "known"] (zak s43):=by walk_at "sc"
noncomputable abbrev s44:Stmt:=top 63
theorem sc44:FnScope ["t", "place", "other", "k"] ["t", "place", "other"] (zak s44):=by walk_at "sc"
noncomputable abbrev s45:Stmt:=top 64
theorem sc45:FnScope ["t", "found", "i", "one"] ["t"] (zak s45):=by walk_at "sc"
noncomputable abbrev s46:Stmt:=top 65
theorem sc46:FnScope ["t", "place", "i"] ["t", "place"] (zak s46):=by walk_at "sc"
noncomputable abbrev s47:Stmt:=top 66
theorem sc47:FnScope ["book", "here", "cell", "c", "title", "left", "right", "some", "place", "parts", "ways"] ["book", "here", "cell", "c"] (zak s47):=by walk_at "sc"
noncomputable abbrev s48:Stmt:=top 67
theorem sc48:FnScope ["book", "here", "cell", "some", "both"] ["book", "here", "cell"] (zak s48):=by walk_at "sc"
noncomputable abbrev s49:Stmt:=top 68
theorem sc49:FnScope ["book", "shape", "cells", "limit", "c", "steps", "here", "cell", "onward", "way"] ["book", "shape", "cells", "limit", "c"] (zak s49):=by walk_at "sc"
noncomputable abbrev s50:Stmt:=top 69
theorem sc50:FnScope ["book", "road", "here", "way"] ["book", "road"] (zak s50):=by walk_at "sc"
noncomputable abbrev s51:Stmt:=top 70
theorem sc51:FnScope ["book", "shape", "steps", "last", "found", "meeting", "onward"] ["book", "shape", "steps", "last", "found"] (zak s51):=by walk_at "sc"
noncomputable abbrev s52:Stmt:=top 71
theorem zBX:FnScope ["side", "seen", "c"] ["side", "seen", "c"] (zak s52):=by walk_at "sc"
noncomputable abbrev s53:Stmt:=top 72
theorem sc53:FnScope ["script", "w", "titles", "book", "shape", "steps", "last", "back"] ["script"] (zak s53):=by walk_at "sc"
section
variable (P:aE) (w:aC) (K:aj) (mg:Str→Option Value) (base:Heap)
abbrev C0:=Cal P w K mg base "parts_of" ["t"] zcM
abbrev C1:=Cal P w K mg base "parts_of_all" ["things"] zbV
abbrev C2:=Cal P w K mg base "is_small" ["t"] zdI
abbrev C3:=Cal P w K mg base "gather_places" ["t", "place", "found"] zaW
abbrev C4:=Cal P w K mg base "places" ["t"] zfD
abbrev C5:=Cal P w K mg base "numbered_part" ["t", "number"] zbM
abbrev C6:=Cal P w K mg base "part" ["t", "place"] zjL
abbrev C7:=Cal P w K mg base "blank_places" ["side"] zbW
abbrev C8:=Cal P w K mg base "filled" ["side", "things"] zdd
abbrev C9:=Cal P w K mg base "have_one_top" ["one", "other"] zbX
abbrev C10:=Cal P w K mg base "gather_matched" ["left", "t", "things"] zaE
abbrev C11:=Cal P w K mg base "matched" ["left", "t"] zbZ
abbrev C12:=Cal P w K mg base "turning_of" ["book", "title"] zbc
abbrev C13:=Cal P w K mg base "only_small" ["shape"] zbk
abbrev C14:=Cal P w K mg base "with_sides" ["book", "way", "side"] zbL
abbrev C15:=Cal P w K mg base "source" ["book", "way"] zdw
abbrev C16:=Cal P w K mg base "goal" ["book", "way"] zfx
abbrev C17:=Cal P w K mg base "part_places" ["book", "way"] zbQ
abbrev C18:=Cal P w K mg base "open_turning" ["book", "shape"] zbG
abbrev C19:=Cal P w K mg base "gather_open" ["book", "shape", "place", "found"] zbv
abbrev C20:=Cal P w K mg base "open_uses" ["book", "shape"] zcL
abbrev C21:=Cal P w K mg base "places_of" ["pairs"] zdo
abbrev C22:=Cal P w K mg base "turned_top" ["book", "shape"] zcX
abbrev C23:=Cal P w K mg base "way_within" ["book", "shape", "place", "wanted"] zbb
abbrev C24:=Cal P w K mg base "way_with" ["book", "shape", "places"] zdK
abbrev C25:=Cal P w K mg base "way_of" ["book", "shape", "places"] zeB
abbrev C26:=Cal P w K mg base "moved" ["book", "way", "other"] zdc
abbrev C27:=Cal P w K mg base "check_goals" ["book", "ways"] zbu
abbrev C28:=Cal P w K mg base "moved_along" ["book", "way", "ways"] zcw
abbrev C29:=Cal P w K mg base "grid" ["book", "road", "other"] zkN
abbrev C30:=Cal P w K mg base "last_downs" ["downs_and_overs"] zcV
abbrev C31:=Cal P w K mg base "valley" ["book", "shape", "steps"] zeC
abbrev C32:=Cal P w K mg base "_law_cell" ["script", "k"] zbf
abbrev C33:=Cal P w K mg base "_law_words" ["one", "two", "great"] zch
abbrev C34:=Cal P w K mg base "_law_count" ["side"] zax
abbrev C35:=Cal P w K mg base "_law_filled" ["side", "things"] zbl
abbrev C36:=Cal P w K mg base "_law_item" ["draw", "many", "w"] zcN
abbrev C37:=Cal P w K mg base "_law_right" ["draw", "many", "w"] zci
abbrev C38:=Cal P w K mg base "_law_lefts" ["way", "head", "c", "d"] zbA
abbrev C39:=Cal P w K mg base "_law_book" ["script", "k", "w", "titles"] zbN
abbrev C40:=Cal P w K mg base "_law_plan" ["cells", "book", "w", "room"] zcQ
abbrev C41:=Cal P w K mg base "_law_way" ["plan", "book", "by"] zcO
abbrev C42:=Cal P w K mg base "_law_made" ["book", "way", "which"] zaQ
abbrev C43:=Cal P w K mg base "_law_parts" ["side", "shape", "known"] zaV
abbrev C44:=Cal P w K mg base "_law_put" ["t", "place", "other"] zcJ
abbrev C45:=Cal P w K mg base "_law_places" ["t"] zaJ
abbrev C46:=Cal P w K mg base "_law_at" ["t", "place"] zcs
abbrev C47:=Cal P w K mg base "_law_back" ["book", "here", "cell", "c"] zdk
abbrev C48:=Cal P w K mg base "_law_on" ["book", "here", "cell"] zcx
abbrev C49:=Cal P w K mg base "_law_winding" ["book", "shape", "cells", "limit", "c"] zbj
abbrev C50:=Cal P w K mg base "_law_walked" ["book", "road"] zbR
abbrev C51:=Cal P w K mg base "_law_closed" ["book", "shape", "steps", "last", "found"] zbP
abbrev C52:=Cal P w K mg base "_law_once" ["side", "seen", "c"] zbw
end
section
variable {P:aE}{w:aC}{K:aj}{mg:Str→Option Value}{base:Heap}
variable {f:Addr}{d:bG}
theorem o0 (F:Fun K "parts_of" "parts_of" s0 f d) (n_i:mg "isinstance" =none) (n_n:mg "int" =none):Ok P w K mg base f d ["t"] zcM:=zcS rfl λr ih=>zaS F sc0 rfl rfl λ_ _ _ _ _ _ hr=>(zad (zaO (zbJ (zep rfl n_i rfl n_n cY (jv 0) (by decide) (by decide) (zqA _ (by simp)))) (zah (zam (zat zac))) zaw)
  (zah (zam (zcu (jv 0) (zaC zaf) zaH))))
theorem o1 (F:Fun K "parts_of_all" "parts_of_all" s1 f d) (x0:C0 P w K mg base):Ok P w K mg base f d ["things"] zbV:=zcS rfl λr ih=>zaS F sc1 rfl rfl λ_ _ _ _ _ _ hr=>(zad (zan (i:=1) sc1.nd rfl (ai rfl) (zaI (zaM zac)))
  (zad (zbH (zbm (jv 0)) (zao (i:=2) sc1.nd rfl (ai rfl)) (zah (zbi (zrN (jv 1) (zaa (zai (x0.zg r) hr rfl x0.zm x0.zk x0.zb (zaa (jv 2) zac)) zac)))))
  (zah (zam (jv 1)))))
theorem o2 (F:Fun K "is_small" "is_small" s2 f d) (x1:C1 P w K mg base) (n_l:mg "len" =none) {t_MOST_HEAVY:bq}(g_MOST_HEAVY:mg "MOST_HEAVY" =ae (.int 400 t_MOST_HEAVY)) {t_MOST_DEEP:bq}(g_MOST_DEEP:mg "MOST_DEEP" =ae (.int 40 t_MOST_DEEP)):Ok P w K mg base f d ["t"] zdI:=zcS rfl λr ih=>zaS F sc2 rfl rfl λ_ _ _ _ _ _ hr=>(zad (zan (i:=1) sc2.nd rfl (ai rfl) zaf)
  (zad (zan (i:=2) sc2.nd rfl (ai rfl) zaf)
  (zad (zan (i:=3) sc2.nd rfl (ai rfl) (zaI (zaM (zaa (jv 0) zac))))
  (zad (znC (zbJ (jv 3)) (zad (zuw (i:=1) sc2.nd rfl (ai rfl) (zbs rfl n_l (zaa (jv 3) zac)))
  (zad (zuw (i:=2) sc2.nd rfl (ai rfl) zaf)
  (zad (zaO (JW.jt (zjc (zlx (jv 1) (zdC rfl g_MOST_HEAVY)) (zgn (zlx (jv 2) (zdC rfl g_MOST_DEEP))))) (zah (zam zfY)) zaw)
  (zah (zan (i:=3) sc2.nd rfl (ai rfl) (zai (x1.zg r) hr rfl x1.zm x1.zk x1.zb (zaa (jv 3) zac))))))))
  (zah (zam zfY))))))
theorem o3 (F:Fun K "gather_places" "gather_places" s3 f d) (x0:C0 P w K mg base) (b:Binds K d ["t", "place", "found"] []) (m:mg "gather_places" =ae (.ref f)) (n_e:mg "enumerate" =none):Ok P w K mg base f d ["t", "place", "found"] zaW:=zcS rfl λr ih=>zaS F sc3 rfl rfl λ_ _ _ _ _ _ hr=>(zad (zbi (zbB (jv 2) (zaa (jv 1) zac)))
  (zah (zbH (ziW rfl n_e (zai (x0.zg r) hr rfl x0.zm x0.zk x0.zb (zaa (jv 0) zac))) (zdp (zav (zao (i:=3) sc3.nd rfl (ai rfl)) (zav (zao (i:=4) sc3.nd rfl (ai rfl)) zcg)) (glS (glS gl0))) (zah (zbi (zai ih hr rfl m F.kp b (zaa (jv 4) (zaa (zbg (jv 1) (zat (zaa (jv 3) zac))) (zaa (jv 2) zac)))))))))
theorem o4 (F:Fun K "places" "places" s4 f d) (x3:C3 P w K mg base):Ok P w K mg base f d ["t"] zfD:=zcS rfl λr ih=>zaS F sc4 rfl rfl λ_ _ _ _ _ _ hr=>(zad (zan (i:=1) sc4.nd rfl (ai rfl) (zaI (zaM zac)))
  (zad (zbi (zai (x3.zg r) hr rfl x3.zm x3.zk x3.zb (zaa (jv 0) (zaa (zat zac) (zaa (jv 1) zac)))))
  (zah (zam (jv 1)))))
theorem o5 (F:Fun K "numbered_part" "numbered_part" s5 f d) (x0:C0 P w K mg base) (n_l:mg "len" =none) (y_NoPlace:Ncl mg "NoPlace") (v_NoPlace:XcIn K "NoPlace" y_NoPlace.xC):Ok P w K mg base f d ["t", "number"] zbM:=zcS rfl λr ih=>zaS F sc5 rfl rfl λ_ _ _ _ _ _ hr=>(zad (zan (i:=2) sc5.nd rfl (ai rfl) (zai (x0.zg r) hr rfl x0.zm x0.zk x0.zb (zaa (jv 0) zac)))
  (zad (zaO (JW.jt (zjc (zpI (jv 1) zaf) (zgn (zzE (jv 1) (zbs rfl n_l (zaa (jv 2) zac)))))) (zah (zfT v_NoPlace rfl y_NoPlace.xm (zaa zgw zac))) zaw)
  (zah (zam (zas (jv 2) (jv 1))))))
theorem o6 (F:Fun K "part" "part" s6 f d) (x5:C5 P w K mg base):Ok P w K mg base f d ["t", "place"] zjL:=zcS rfl λr ih=>zaS F sc6 rfl rfl λ_ _ _ _ _ _ hr=>(zad (zan (i:=2) sc6.nd rfl (ai rfl) (jv 0))
  (zad (zbH (zbm (jv 1)) (zao (i:=3) sc6.nd rfl (ai rfl)) (zah (zan (i:=2) sc6.nd rfl (ai rfl) (zai (x5.zg r) hr rfl x5.zm x5.zk x5.zb (zaa (jv 2) (zaa (jv 3) zac))))))
  (zah (zam (jv 2)))))
theorem o7 (F:Fun K "blank_places" "blank_places" s7 f d) (x4:C4 P w K mg base) (x6:C6 P w K mg base) (n_i:mg "isinstance" =none) (n_n:mg "int" =none):Ok P w K mg base f d ["side"] zbW:=zcS rfl λr ih=>zaS F sc7 rfl rfl λ_ _ _ _ _ _ hr=>(zah (zam (zaI (zcZ (N:=["place", "side"]) (k:=1) (fr:=[0]) ⟨rfl,by decide +kernel,rfl,rfl,rfl,rfl,rfl,rfl,rfl⟩ (zbm (zai (x4.zg r) hr rfl x4.zm x4.zk x4.zb (zaa (jv 0) zac))) (λ_ _ _ _=>(zao (i:=0) (show bb [("place" :Str),("side" :Str)] from by decide +kernel) rfl (ai rfl))) (λ_ _ _ _=>(zpo (zbJ (zep rfl n_i rfl n_n cY (zai (x6.zg r) hr rfl x6.zm x6.zk x6.zb (zaa (jv 1) (zaa (jv 0) zac))) (by decide) (by decide) (zqA _ (by simp)))))) (λ_ _ _ _=>(jv 0))))))
theorem o8 (F:Fun K "filled" "filled" s8 f d) (b:Binds K d ["side", "things"] []) (m:mg "filled" =ae (.ref f)) (n_i:mg "isinstance" =none) (n_n:mg "int" =none) (n_t:mg "tuple" =none):Ok P w K mg base f d ["side", "things"] zdd:=zcS rfl λr ih=>zaS F sc8 rfl rfl λ_ _ _ _ _ _ hr=>(zad (zaO (zbJ (zep rfl n_i rfl n_n cY (jv 0) (by decide) (by decide) (zqA _ (by simp)))) (zah (zam (zas (jv 1) (jv 0)))) zaw)
  (zah (zam (zbg (zat (zaa (zas (jv 0) zaf) zac)) (zhe rfl n_t (zcZ (N:=["inner", "things"]) (k:=1) (fr:=[1]) ⟨rfl,by decide +kernel,rfl,rfl,rfl,rfl,rfl,rfl,rfl⟩ (zbm (zcu (jv 0) (zaC zaf) zaH)) (λ_ _ _ _=>(zao (i:=0) (show bb [("inner" :Str),("things" :Str)] from by decide +kernel) rfl (ai rfl))) (λ_ _ _ _=>zbx) (λ_ _ _ _=>(zai ih hr rfl m F.kp b (zaa (jv 0) (zaa (jv 1) zac))))))))))
theorem o9 (F:Fun K "have_one_top" "have_one_top" s9 f d) (n_l:mg "len" =none):Ok P w K mg base f d ["one", "other"] zbX:=zcS rfl λr ih=>zaS F sc9 rfl rfl λ_ _ _ _ _ _ hr=>(zah (zam (zup (zoO hr (zas (jv 0) zaf) (zas (jv 1) zaf)) (ztJ (zoO hr (zbs rfl n_l (zaa (jv 0) zac)) (zbs rfl n_l (zaa (jv 1) zac)))))))
theorem o10 (F:Fun K "gather_matched" "gather_matched" s10 f d) (x9:C9 P w K mg base) (b:Binds K d ["left", "t", "things"] []) (m:mg "gather_matched" =ae (.ref f)) (n_i:mg "isinstance" =none) (n_n:mg "int" =none) (n_z:mg "zip" =none):Ok P w K mg base f d ["left", "t", "things"] zaE:=zcS rfl λr ih=>zaS F sc10 rfl rfl λ_ _ _ _ _ _ hr=>(zad (zaO (zbJ (zep rfl n_i rfl n_n cY (jv 0) (by decide) (by decide) (zqA _ (by simp)))) (zad (zbi (zbB (jv 2) (zaa (jv 1) zac)))
  (zah (zam zfY))) zaw)
  (zad (zaO (zgx (zbJ (zai (x9.zg r) hr rfl x9.zm x9.zk x9.zb (zaa (jv 0) (zaa (jv 1) zac))))) (zah (zam zfY)) zaw)
  (zad (zbH (zkv rfl n_z (zcu (jv 0) (zaC zaf) zaH) (zcu (jv 1) (zaC zaf) zaH)) (zdp (zav (zao (i:=3) sc10.nd rfl (ai rfl)) (zav (zao (i:=4) sc10.nd rfl (ai rfl)) zcg)) (glS (glS gl0))) (zah (zaO (zgx (zbJ (zai ih hr rfl m F.kp b (zaa (jv 3) (zaa (jv 4) (zaa (jv 2) zac)))))) (zah (zam zfY)) zaw)))
  (zah (zam zfY)))))
theorem o11 (F:Fun K "matched" "matched" s11 f d) (x10:C10 P w K mg base):Ok P w K mg base f d ["left", "t"] zbZ:=zcS rfl λr ih=>zaS F sc11 rfl rfl λ_ _ _ _ _ _ hr=>(zad (zan (i:=2) sc11.nd rfl (ai rfl) (zaI (zaM zac)))
  (zad (zaO (zbJ (zai (x10.zg r) hr rfl x10.zm x10.zk x10.zb (zaa (jv 0) (zaa (jv 1) (zaa (jv 2) zac))))) (zah (zam (jv 2))) zaw)
  (zah (zam zcl))))
theorem o12 (F:Fun K "turning_of" "turning_of" s12 f d):Ok P w K mg base f d ["book", "title"] zbc:=zcS rfl λr ih=>zaS F sc12 rfl rfl λ_ _ _ _ _ _ hr=>(zad (zbH (zbm (jv 0)) (zao (i:=2) sc12.nd rfl (ai rfl)) (zah (zaO (zer hr (zas (jv 2) zaf) (jv 1)) (zah (zam (jv 2))) zaw)))
  (zah (zam zcl)))
theorem o13 (F:Fun K "only_small" "only_small" s13 f d) (x2:C2 P w K mg base) (yT:Ncl mg "TooGreat") (v_TooGreat:XcIn K "TooGreat" yT.xC):Ok P w K mg base f d ["shape"] zbk:=zcS rfl λr ih=>zaS F zBA rfl rfl λ_ _ _ _ _ _ hr=>(zad (zaO (zgx (zbJ (zai (x2.zg r) hr rfl x2.zm x2.zk x2.zb (zaa (jv 0) zac)))) (zah (zfT v_TooGreat rfl yT.xm (zaa zgw zac))) zaw)
  (zah (zam (jv 0))))
theorem o14 (F:Fun K "with_sides" "with_sides" s14 f d) (x12:C12 P w K mg base) (x8:C8 P w K mg base) (b:Binds K d ["book", "way", "side"] []) (m:mg "with_sides" =ae (.ref f)) (n_t:mg "tuple" =none):Ok P w K mg base f d ["book", "way", "side"] zbL:=zcS rfl λr ih=>zaS F sc14 rfl rfl λ_ _ _ _ _ _ hr=>(zad (zdX (i:=3) (N:=["inner", "book", "side"]) (k:=1) (fr:=[0,2]) sc14.nd rfl (ai rfl) ⟨rfl,by decide +kernel,rfl,rfl,rfl,rfl,rfl,rfl,rfl⟩ (zbm (zcu (jv 1) (zaC zaf) zaH)) (λ_ _ _ _=>(zao (i:=0) (show bb [("inner" :Str),("book" :Str),("side" :Str)] from by decide +kernel) rfl (ai rfl))) (λ_ _ _ _=>zbx) (λ_ _ _ _=>(zai ih hr rfl m F.kp b (zaa (jv 1) (zaa (jv 0) (zaa (jv 2) zac))))))
  (zad (zan (i:=4) sc14.nd rfl (ai rfl) (zai (x12.zg r) hr rfl x12.zm x12.zk x12.zb (zaa (jv 0) (zaa (zas (jv 1) zaf) zac))))
  (zad (zaO (zkA (jv 4) zcl) (zah (zam (zbg (zat (zaa (zas (jv 1) zaf) zac)) (zdu rfl n_t (zaa (jv 3) zac))))) zaw)
  (zah (zam (zai (x8.zg r) hr rfl x8.zm x8.zk x8.zb (zaa (zas (jv 4) (jv 2)) (zaa (jv 3) zac))))))))
theorem o15 (F:Fun K "source" "source" s15 f d) (x13:C13 P w K mg base) (x14:C14 P w K mg base) {t_LEFT:bq}(g_LEFT:mg "LEFT" =ae (.int 1 t_LEFT)):Ok P w K mg base f d ["book", "way"] zdw:=zcS rfl λr ih=>zaS F zCd rfl rfl λ_ _ _ _ _ _ hr=>(zah (zam (zai (x13.zg r) hr rfl x13.zm x13.zk x13.zb (zaa (zai (x14.zg r) hr rfl x14.zm x14.zk x14.zb (zaa (jv 0) (zaa (jv 1) (zaa (zdC rfl g_LEFT) zac)))) zac))))
theorem o16 (F:Fun K "goal" "goal" s16 f d) (x13:C13 P w K mg base) (x14:C14 P w K mg base) {t_RIGHT:bq}(g_RIGHT:mg "RIGHT" =ae (.int 2 t_RIGHT)):Ok P w K mg base f d ["book", "way"] zfx:=zcS rfl λr ih=>zaS F zCg rfl rfl λ_ _ _ _ _ _ hr=>(zah (zam (zai (x13.zg r) hr rfl x13.zm x13.zk x13.zb (zaa (zai (x14.zg r) hr rfl x14.zm x14.zk x14.zb (zaa (jv 0) (zaa (jv 1) (zaa (zdC rfl g_RIGHT) zac)))) zac))))
theorem o17 (F:Fun K "part_places" "part_places" s17 f d) (x12:C12 P w K mg base) (x7:C7 P w K mg base) (n_r:mg "range" =none) (n_l:mg "len" =none) {t_LEFT:bq}(g_LEFT:mg "LEFT" =ae (.int 1 t_LEFT)):Ok P w K mg base f d ["book", "way"] zbQ:=zcS rfl λr ih=>zaS F sc17 rfl rfl λ_ _ _ _ _ _ hr=>(zad (zan (i:=2) sc17.nd rfl (ai rfl) (zai (x12.zg r) hr rfl x12.zm x12.zk x12.zb (zaa (jv 0) (zaa (zas (jv 1) zaf) zac))))
  (zad (zaO (zkA (jv 2) zcl) (zah (zam (zaI (zcZ (N:=["number"]) (k:=1) (fr:=[]) ⟨rfl,by decide +kernel,rfl,rfl,rfl,rfl,rfl,rfl,rfl⟩ (zeE rfl n_r (zaa (zjZ (zbs rfl n_l (zaa (jv 1) zac)) zaf) zac)) (λ_ _ _ _=>(zao (i:=0) (show bb [("number" :Str)] from by decide +kernel) rfl (ai rfl))) (λ_ _ _ _=>zbx) (λ_ _ _ _=>(zat (zaa (jv 0) zac))))))) zaw)
  (zah (zam (zai (x7.zg r) hr rfl x7.zm x7.zk x7.zb (zaa (zas (jv 2) (zdC rfl g_LEFT)) zac))))))
theorem o18 (F:Fun K "open_turning" "open_turning" s18 f d) (x11:C11 P w K mg base) {t_LEFT:bq}(g_LEFT:mg "LEFT" =ae (.int 1 t_LEFT)):Ok P w K mg base f d ["book", "shape"] zbG:=zcS rfl λr ih=>zaS F sc18 rfl rfl λ_ _ _ _ _ _ hr=>(zad (zbH (zbm (jv 0)) (zao (i:=2) sc18.nd rfl (ai rfl)) (zah (zaO (zgJ (zai (x11.zg r) hr rfl x11.zm x11.zk x11.zb (zaa (zas (jv 2) (zdC rfl g_LEFT)) (zaa (jv 1) zac))) zcl) (zah (zam (jv 2))) zaw)))
  (zah (zam zcl)))
theorem o19 (F:Fun K "gather_open" "gather_open" s19 f d) (x18:C18 P w K mg base) (b:Binds K d ["book", "shape", "place", "found"] []) (m:mg "gather_open" =ae (.ref f)) (n_e:mg "enumerate" =none):Ok P w K mg base f d ["book", "shape", "place", "found"] zbv:=zcS rfl λr ih=>zaS F sc19 rfl rfl λ_ _ _ _ _ _ hr=>(zad (zan (i:=4) sc19.nd rfl (ai rfl) (zai (x18.zg r) hr rfl x18.zm x18.zk x18.zb (zaa (jv 0) (zaa (jv 1) zac))))
  (zad (zaO (zgJ (jv 4) zcl) (zah (zbi (zbB (jv 3) (zaa (zat (zaa (jv 2) (zaa (zas (jv 4) zaf) zac))) zac)))) zaw)
  (zah (zbH (ziW rfl n_e (zcu (jv 1) (zaC zaf) zaH)) (zdp (zav (zao (i:=5) sc19.nd rfl (ai rfl)) (zav (zao (i:=6) sc19.nd rfl (ai rfl)) zcg)) (glS (glS gl0))) (zah (zbi (zai ih hr rfl m F.kp b (zaa (jv 0) (zaa (jv 6) (zaa (zbg (jv 2) (zat (zaa (jv 5) zac))) (zaa (jv 3) zac)))))))))))
theorem o20 (F:Fun K "open_uses" "open_uses" s20 f d) (x19:C19 P w K mg base):Ok P w K mg base f d ["book", "shape"] zcL:=zcS rfl λr ih=>zaS F sc20 rfl rfl λ_ _ _ _ _ _ hr=>(zad (zan (i:=2) sc20.nd rfl (ai rfl) (zaI (zaM zac)))
  (zad (zbi (zai (x19.zg r) hr rfl x19.zm x19.zk x19.zb (zaa (jv 0) (zaa (jv 1) (zaa (zat zac) (zaa (jv 2) zac))))))
  (zah (zam (jv 2)))))
theorem o21 (F:Fun K "places_of" "places_of" s21 f d):Ok P w K mg base f d ["pairs"] zdo:=zcS rfl λr ih=>zaS F zCj rfl rfl λ_ _ _ _ _ _ hr=>(zah (zam (zaI (zcZ (N:=["pair"]) (k:=1) (fr:=[]) ⟨rfl,by decide +kernel,rfl,rfl,rfl,rfl,rfl,rfl,rfl⟩ (zbm (jv 0)) (λ_ _ _ _=>(zao (i:=0) (show bb [("pair" :Str)] from by decide +kernel) rfl (ai rfl))) (λ_ _ _ _=>zbx) (λ_ _ _ _=>(zas (jv 0) zaf))))))
theorem o22 (F:Fun K "turned_top" "turned_top" s22 f d) (x18:C18 P w K mg base) (x11:C11 P w K mg base) (n_t:mg "tuple" =none) {t_LEFT:bq}(g_LEFT:mg "LEFT" =ae (.int 1 t_LEFT)):Ok P w K mg base f d ["book", "shape"] zcX:=zcS rfl λr ih=>zaS F sc22 rfl rfl λ_ _ _ _ _ _ hr=>(zad (zan (i:=2) sc22.nd rfl (ai rfl) (zai (x18.zg r) hr rfl x18.zm x18.zk x18.zb (zaa (jv 0) (zaa (jv 1) zac))))
  (zah (zam (zbg (zat (zaa (zas (jv 2) zaf) zac)) (zdu rfl n_t (zaa (zai (x11.zg r) hr rfl x11.zm x11.zk x11.zb (zaa (zas (jv 2) (zdC rfl g_LEFT)) (zaa (jv 1) zac))) zac))))))
theorem o23 (F:Fun K "way_within" "way_within" s23 f d) (x22:C22 P w K mg base) (x17:C17 P w K mg base) (b:Binds K d ["book", "shape", "place", "wanted"] []) (m:mg "way_within" =ae (.ref f)) (n_z:mg "zip" =none) (n_t:mg "tuple" =none):Ok P w K mg base f d ["book", "shape", "place", "wanted"] zbb:=zcS rfl λr ih=>zaS F sc23 rfl rfl λ_ _ _ _ _ _ hr=>(zad (zan (i:=4) sc23.nd rfl (ai rfl) (zyO (zxD hr (jv 2) (jv 3)) (zai (x22.zg r) hr rfl x22.zm x22.zk x22.zb (zaa (jv 0) (zaa (jv 1) zac))) (jv 1)))
  (zad (zan (i:=5) sc23.nd rfl (ai rfl) (zaI (zaM zac)))
  (zad (zbH (zkv rfl n_z (zai (x17.zg r) hr rfl x17.zm x17.zk x17.zb (zaa (jv 0) (zaa (jv 4) zac))) (zcu (jv 4) (zaC zaf) zaH)) (zdp (zav (zao (i:=6) sc23.nd rfl (ai rfl)) (zav (zao (i:=7) sc23.nd rfl (ai rfl)) zcg)) (glS (glS gl0))) (zah (zbi (zbB (jv 5) (zaa (zai ih hr rfl m F.kp b (zaa (jv 0) (zaa (jv 7) (zaa (zbg (jv 2) (jv 6)) (zaa (jv 3) zac))))) zac)))))
  (zah (zam (zbg (zat (zaa (zas (jv 4) zaf) zac)) (zdu rfl n_t (zaa (jv 5) zac))))))))
theorem o24 (F:Fun K "way_with" "way_with" s24 f d) (x23:C23 P w K mg base) (n_d:mg "dict" =none):Ok P w K mg base f d ["book", "shape", "places"] zdK:=zcS rfl λr ih=>zaS F zBB rfl rfl λ_ _ _ _ _ _ hr=>(zah (zam (zai (x23.zg r) hr rfl x23.zm x23.zk x23.zb (zaa (jv 0) (zaa (jv 1) (zaa (zat zac) (zaa (zsG hr rfl n_d (zcZ (N:=["place"]) (k:=1) (fr:=[]) ⟨rfl,by decide +kernel,rfl,rfl,rfl,rfl,rfl,rfl,rfl⟩ (zbm (jv 2)) (λ_ _ _ _=>(zao (i:=0) (show bb [("place" :Str)] from by decide +kernel) rfl (ai rfl))) (λ_ _ _ _=>zbx) (λ_ _ _ _=>(zat (zaa (jv 0) (zaa zfY zac)))))) zac)))))))
theorem o25 (F:Fun K "way_of" "way_of" s25 f d) (x21:C21 P w K mg base) (x24:C24 P w K mg base) (x20:C20 P w K mg base) (y_NoUse:Ncl mg "NoUse") (v_NoUse:XcIn K "NoUse" y_NoUse.xC):Ok P w K mg base f d ["book", "shape", "places"] zeB:=zcS rfl λr ih=>zaS F sc25 rfl rfl λ_ _ _ _ _ _ hr=>(zad (zan (i:=3) sc25.nd rfl (ai rfl) (zai (x21.zg r) hr rfl x21.zm x21.zk x21.zb (zaa (zai (x20.zg r) hr rfl x20.zm x20.zk x20.zb (zaa (jv 0) (zaa (jv 1) zac))) zac)))
  (zad (zbH (zbm (jv 2)) (zao (i:=4) sc25.nd rfl (ai rfl)) (zah (zaO (zsH hr (jv 4) (jv 3)) (zah (zfT v_NoUse rfl y_NoUse.xm (zaa zgw zac))) zaw)))
  (zah (zam (zai (x24.zg r) hr rfl x24.zm x24.zk x24.zb (zaa (jv 0) (zaa (jv 1) (zaa (jv 2) zac))))))))
theorem o26 (F:Fun K "moved" "moved" s26 f d) (x12:C12 P w K mg base) (x8:C8 P w K mg base) (x11:C11 P w K mg base) (b:Binds K d ["book", "way", "other"] []) (m:mg "moved" =ae (.ref f)) (n_z:mg "zip" =none) (n_t:mg "tuple" =none) {t_RIGHT:bq}(g_RIGHT:mg "RIGHT" =ae (.int 2 t_RIGHT)) {t_LEFT:bq}(g_LEFT:mg "LEFT" =ae (.int 1 t_LEFT)):Ok P w K mg base f d ["book", "way", "other"] zdc:=zcS rfl λr ih=>zaS F sc26 rfl rfl λ_ _ _ _ _ _ hr=>(zad (zan (i:=3) sc26.nd rfl (ai rfl) (zai (x12.zg r) hr rfl x12.zm x12.zk x12.zb (zaa (jv 0) (zaa (zas (jv 1) zaf) zac))))
  (zad (zan (i:=4) sc26.nd rfl (ai rfl) (zai (x12.zg r) hr rfl x12.zm x12.zk x12.zb (zaa (jv 0) (zaa (zas (jv 2) zaf) zac))))
  (zad (zan (i:=5) sc26.nd rfl (ai rfl) (zcu (jv 1) (zaC zaf) zaH))
  (zad (zan (i:=6) sc26.nd rfl (ai rfl) (zcu (jv 2) (zaC zaf) zaH))
  (zad (zaO (JW.jt (zle (zkA (jv 3) zcl) (zhu (zgJ (jv 4) zcl)))) (zah (zan (i:=5) sc26.nd rfl (ai rfl) (zai (x11.zg r) hr rfl x11.zm x11.zk x11.zb (zaa (zas (jv 4) (zdC rfl g_LEFT)) (zaa (jv 1) zac))))) zaw)
  (zad (zaO (JW.jt (zle (zgJ (jv 3) zcl) (zhu (zkA (jv 4) zcl)))) (zah (zan (i:=6) sc26.nd rfl (ai rfl) (zai (x11.zg r) hr rfl x11.zm x11.zk x11.zb (zaa (zas (jv 3) (zdC rfl g_LEFT)) (zaa (jv 2) zac))))) zaw)
  (zad (zdX (i:=7) (N:=["inner", "outer", "book"]) (k:=2) (fr:=[0]) sc26.nd rfl (ai rfl) ⟨rfl,by decide +kernel,rfl,rfl,rfl,rfl,rfl,rfl,rfl⟩ (zkv rfl n_z (jv 5) (jv 6)) (λ_ _ _ _=>(zdp (zav (zao (i:=0) (show bb [("inner" :Str),("outer" :Str),("book" :Str)] from by decide +kernel) rfl (ai rfl)) (zav (zao (i:=1) (show bb [("inner" :Str),("outer" :Str),("book" :Str)] from by decide +kernel) rfl (ai rfl)) zcg)) (glS (glS gl0)))) (λ_ _ _ _=>zbx) (λ_ _ _ _=>(zai ih hr rfl m F.kp b (zaa (jv 2) (zaa (jv 0) (zaa (jv 1) zac))))))
  (zad (zaO (zkA (jv 4) zcl) (zah (zam (zbg (zat (zaa (zas (jv 1) zaf) zac)) (zdu rfl n_t (zaa (jv 7) zac))))) zaw)
  (zah (zam (zai (x8.zg r) hr rfl x8.zm x8.zk x8.zb (zaa (zas (jv 4) (zdC rfl g_RIGHT)) (zaa (jv 7) zac)))))))))))))
theorem o27 (F:Fun K "check_goals" "check_goals" s27 f d) (x16:C16 P w K mg base):Ok P w K mg base f d ["book", "ways"] zbu:=zcS rfl λr ih=>zaS F sc27 rfl rfl λ_ _ _ _ _ _ hr=>(zah (zbH (zbm (jv 1)) (zao (i:=2) sc27.nd rfl (ai rfl)) (zah (zbi (zai (x16.zg r) hr rfl x16.zm x16.zk x16.zb (zaa (jv 0) (zaa (jv 2) zac)))))))
theorem o28 (F:Fun K "moved_along" "moved_along" s28 f d) (x26:C26 P w K mg base) (x27:C27 P w K mg base):Ok P w K mg base f d ["book", "way", "ways"] zcw:=zcS rfl λr ih=>by
  refine zaS F sc28 rfl rfl λ_ _ _ _ _ _ hr=>?_;delta zcC zbF zbz zbD zcz zcp;delta zcA;delta zcC zbF zbz zbD zcz zcp;exact(zad (zan (i:=3) sc28.nd rfl (ai rfl) (zaI (zaM (zaa (jv 1) zac))))
  (zad (zbH (zbm (jv 2)) (zao (i:=4) sc28.nd rfl (ai rfl)) (zad (zan (i:=5) sc28.nd rfl (ai rfl) (zai (x26.zg r) hr rfl x26.zm x26.zk x26.zb (zaa (jv 0) (zaa (zas (jv 3) (zeR zaf)) (zaa (jv 4) zac)))))
  (zad (zbi (zai (x27.zg r) hr rfl x27.zm x27.zk x27.zb (zaa (jv 0) (zaa (zaI (zaM (zaa (jv 5) zac))) zac))))
  (zah (zbi (zbB (jv 3) (zaa (jv 5) zac)))))))
  (zah (zam (jv 3)))))
theorem o29 (F:Fun K "grid" "grid" s29 f d) (x13:C13 P w K mg base) (x27:C27 P w K mg base) (x28:C28 P w K mg base) (x26:C26 P w K mg base) (n_s:mg "list" =none) (n_z:mg "zip" =none) (y_Apart:Ncl mg "Apart") (v_Apart:XcIn K "Apart" y_Apart.xC):Ok P w K mg base f d ["book", "road", "other"] zkN:=zcS rfl λr ih=>by
  refine zaS F sc29 rfl rfl λ_ _ _ _ _ _ hr=>?_;delta zgG zeu zek zej zev zgI zfr zfp zfM zfo zfH zfA zfR;delta zgQ;delta zgG zeu zek zej zev zgI zfr zfp zfM zfo zfH zfA zfR;exact(zad (zaO (zhm hr (zas (jv 1) zaf) (zas (jv 2) zaf)) (zah (zfT v_Apart rfl y_Apart.xm (zaa zgw zac))) zaw)
  (zad (zbi (zai (x13.zg r) hr rfl x13.zm x13.zk x13.zb (zaa (zas (jv 1) zaf) zac)))
  (zad (zbi (zai (x27.zg r) hr rfl x27.zm x27.zk x27.zb (zaa (jv 0) (zaa (zas (jv 1) zaf) zac))))
  (zad (zbi (zai (x27.zg r) hr rfl x27.zm x27.zk x27.zb (zaa (jv 0) (zaa (zas (jv 2) zaf) zac))))
  (zad (zan (i:=3) sc29.nd rfl (ai rfl) (zaI (zaM zac)))
  (zad (zan (i:=4) sc29.nd rfl (ai rfl) (zaI (zvL rfl n_s (zas (jv 2) zaf))))
  (zad (zan (i:=5) sc29.nd rfl (ai rfl) (zaI (zaM (zaa (jv 4) zac))))
  (zad (zbH (zbm (zas (jv 1) zaf)) (zao (i:=6) sc29.nd rfl (ai rfl)) (zad (zan (i:=7) sc29.nd rfl (ai rfl) (zai (x28.zg r) hr rfl x28.zm x28.zk x28.zb (zaa (jv 0) (zaa (jv 6) (zaa (jv 4) zac)))))
  (zad (zdX (i:=4) (N:=["over", "down", "book"]) (k:=2) (fr:=[0]) sc29.nd rfl (ai rfl) ⟨rfl,by decide +kernel,rfl,rfl,rfl,rfl,rfl,rfl,rfl⟩ (zkv rfl n_z (jv 4) (jv 7)) (λ_ _ _ _=>(zdp (zav (zao (i:=0) (show bb [("over" :Str),("down" :Str),("book" :Str)] from by decide +kernel) rfl (ai rfl)) (zav (zao (i:=1) (show bb [("over" :Str),("down" :Str),("book" :Str)] from by decide +kernel) rfl (ai rfl)) zcg)) (glS (glS gl0)))) (λ_ _ _ _=>zbx) (λ_ _ _ _=>(zai (x26.zg r) hr rfl x26.zm x26.zk x26.zb (zaa (jv 2) (zaa (jv 0) (zaa (jv 1) zac))))))
  (zad (zbi (zbB (jv 3) (zaa (jv 7) zac)))
  (zah (zbi (zbB (jv 5) (zaa (jv 4) zac))))))))
  (zah (zam (zat (zaa (jv 3) (zaa (jv 5) zac)))))))))))))
theorem o30 (F:Fun K "last_downs" "last_downs" s30 f d):Ok P w K mg base f d ["downs_and_overs"] zcV:=zcS rfl λr ih=>zaS F zBK rfl rfl λ_ _ _ _ _ _ hr=>(zah (zam (zaI (zcZ (N:=["line"]) (k:=1) (fr:=[]) ⟨rfl,by decide +kernel,rfl,rfl,rfl,rfl,rfl,rfl,rfl⟩ (zbm (zas (jv 0) zaf)) (λ_ _ _ _=>(zao (i:=0) (show bb [("line" :Str)] from by decide +kernel) rfl (ai rfl))) (λ_ _ _ _=>zbx) (λ_ _ _ _=>(zas (jv 0) (zeR zaf)))))))
theorem o31 (F:Fun K "valley" "valley" s31 f d) (x15:C15 P w K mg base) (x16:C16 P w K mg base) (x29:C29 P w K mg base) (x30:C30 P w K mg base) (y_Apart:Ncl mg "Apart") (v_Apart:XcIn K "Apart" y_Apart.xC):Ok P w K mg base f d ["book", "shape", "steps"] zeC:=zcS rfl λr ih=>zaS F sc31 rfl rfl λ_ _ _ _ _ _ hr=>(zad (zan (i:=3) sc31.nd rfl (ai rfl) (zat (zaa (jv 1) (zaa (zaI (zaM zac)) zac))))
  (zad (zan (i:=4) sc31.nd rfl (ai rfl) (zat (zaa (jv 1) (zaa (zaI (zaM zac)) zac))))
  (zad (zbH (zbm (jv 2)) (zdp (zav (zao (i:=5) sc31.nd rfl (ai rfl)) (zav (zao (i:=6) sc31.nd rfl (ai rfl)) zcg)) (glS (glS gl0))) (zad (zan (i:=7) sc31.nd rfl (ai rfl) (zai (x15.zg r) hr rfl x15.zm x15.zk x15.zb (zaa (jv 0) (zaa (jv 5) zac))))
  (zad (zan (i:=8) sc31.nd rfl (ai rfl) (zai (x16.zg r) hr rfl x16.zm x16.zk x16.zb (zaa (jv 0) (zaa (jv 5) zac))))
  (zad (zan (i:=9) sc31.nd rfl (ai rfl) (zyO (zbJ (jv 6)) (jv 7) (jv 8)))
  (zad (zaO (zhm hr (jv 9) (zas (jv 4) zaf)) (zah (zfT v_Apart rfl y_Apart.xm (zaa zgw zac))) zaw)
  (zah (zaO (zbJ (jv 6)) (zad (zan (i:=10) sc31.nd rfl (ai rfl) (zai (x29.zg r) hr rfl x29.zm x29.zk x29.zb (zaa (jv 0) (zaa (zat (zaa (jv 7) (zaa (zaI (zaM (zaa (jv 5) zac))) zac))) (zaa (jv 4) zac)))))
  (zad (zan (i:=3) sc31.nd rfl (ai rfl) (zat (zaa (jv 1) (zaa (zbg (zas (jv 3) zaf) (zai (x30.zg r) hr rfl x30.zm x30.zk x30.zb (zaa (jv 10) zac))) zac))))
  (zah (zan (i:=4) sc31.nd rfl (ai rfl) (zat (zaa (jv 8) (zaa (zas (zas (jv 10) zaf) (zeR zaf)) zac))))))) (zah (zan (i:=4) sc31.nd rfl (ai rfl) (zat (zaa (jv 7) (zaa (zaI (zqk (zaM (zaa (jv 5) zac)) (zas (jv 4) zaf))) zac))))))))))))
  (zah (zam (zat (zaa (jv 3) (zaa (jv 4) zac))))))))
theorem o32 (F:Fun K "_law_cell" "_law_cell" s32 f d) (n_l:mg "len" =none):Ok P w K mg base f d ["script", "k"] zbf:=zcS rfl λr ih=>zaS F zCc rfl rfl λ_ _ _ _ _ _ hr=>(zad (zaO (zpI (jv 1) (zbs rfl n_l (zaa (jv 0) zac))) (zah (zam (zas (jv 0) (jv 1)))) zaw)
  (zah (zam zaf)))
theorem o33 (F:Fun K "_law_words" "_law_words" s33 f d) (n_r:mg "range" =none) (n_l:mg "len" =none) (n_n:mg "int" =none):Ok P w K mg base f d ["one", "two", "great"] zch:=zcS rfl λr ih=>zaS F sc33 rfl rfl λ_ _ _ _ _ _ hr=>(zad (zan (i:=3) sc33.nd rfl (cq rfl) zgw)
  (zad (zan (i:=4) sc33.nd rfl (ai rfl) (zbY (jv 1) (zyZ zaf zaf)))
  (zad (zan (i:=5) sc33.nd rfl (cq rfl) (zaI (zaM zac)))
  (zad (zbH (zeE rfl n_r (zaa (zbg zaf (zbY (jv 0) zaf)) zac)) (zao (i:=6) sc33.nd rfl (cq rfl)) (zad (zbi (zbB (jv 5) (zaa (zbY (jv 4) zaf) zac)))
  (zah (zan (i:=4) sc33.nd rfl (ai rfl) (zce (jv 4) zaf)))))
  (zad (zan (i:=7) sc33.nd rfl (cq rfl) (zbY (zce (jv 0) zaf) (zbs rfl n_l (zaa (jv 5) zac))))
  (zad (zan (i:=8) sc33.nd rfl (ai rfl) (zaI (zaM zac)))
  (zad (zbH (zeE rfl n_r (zaa zaf zac)) (zao (i:=6) sc33.nd rfl (cq rfl)) (zad (zan (i:=9) sc33.nd rfl (ai rfl) (ztc zgw (zcZ (N:=["j", "signs", "base", "k", "at"]) (k:=1) (fr:=[3,5,6,7]) ⟨rfl,by decide +kernel,rfl,rfl,rfl,rfl,rfl,rfl,rfl⟩ (zeE rfl n_r (zaa (zbs rfl n_l (zaa (jv 5) zac)) zac)) (λ_ _ _ _=>(zao (i:=0) (show bb [("j" :Str),("signs" :Str),("base" :Str),("k" :Str),("at" :Str)] from by decide +kernel) rfl (ai rfl))) (λ_ _ _ _=>zbx) (λ_ _ _ _=>(zas (jv 1) (zbY (zbg (zas (jv 2) (jv 0)) (ztZ (jv 3) (zrI rfl n_n (zaa (zoO hr (jv 0) (jv 4)) zac)))) zaf))))))
  (zad (zaO (zbJ (jv 2)) (zah (zan (i:=9) sc33.nd rfl (ai rfl) (zbg (ztj (zas (jv 9) zaf)) (zcu (jv 9) (zaC zaf) zaH)))) zaw)
  (zah (zbi (zbB (jv 8) (zaa (jv 9) zac)))))))
  (zad (zaO (JW.jt (zle (zer hr (zbY (zce (jv 0) zaf) zaf) zaf) (zhu (zgx (zbJ (jv 2)))))) (zah (zan (i:=8) sc33.nd rfl (ai rfl) (zaI (zlF (zuU (jv 8) zaH (zaC zaf)) (zaM (zaa (zas (jv 8) zaf) (zaa (zas (jv 8) zaf) (zaa (zas (jv 8) zaf) zac)))))))) zaw)
  (zah (zam (jv 8)))))))))))
theorem o34 (F:Fun K "_law_count" "_law_count" s34 f d) (b:Binds K d ["side"] []) (m:mg "_law_count" =ae (.ref f)) (n_i:mg "isinstance" =none) (n_n:mg "int" =none) (n_u:mg "sum" =none):Ok P w K mg base f d ["side"] zax:=zcS rfl λr ih=>zaS F zCs rfl rfl λ_ _ _ _ _ _ hr=>(zad (zaO (zbJ (zep rfl n_i rfl n_n cY (jv 0) (by decide) (by decide) (zqA _ (by simp)))) (zah (zam zaf)) zaw)
  (zah (zam (zws rfl n_u (zcZ (N:=["one"]) (k:=1) (fr:=[]) ⟨rfl,by decide +kernel,rfl,rfl,rfl,rfl,rfl,rfl,rfl⟩ (zbm (zcu (jv 0) (zaC zaf) zaH)) (λ_ _ _ _=>(zao (i:=0) (show bb [("one" :Str)] from by decide +kernel) rfl (ai rfl))) (λ_ _ _ _=>zbx) (λ_ _ _ _=>(zai ih hr rfl m F.kp b (zaa (jv 0) zac))))))))
theorem o35 (F:Fun K "_law_filled" "_law_filled" s35 f d) (b:Binds K d ["side", "things"] []) (m:mg "_law_filled" =ae (.ref f)) (n_i:mg "isinstance" =none) (n_n:mg "int" =none) (n_t:mg "tuple" =none):Ok P w K mg base f d ["side", "things"] zbl:=zcS rfl λr ih=>zaS F zBv rfl rfl λ_ _ _ _ _ _ hr=>(zad (zaO (zbJ (zep rfl n_i rfl n_n cY (jv 0) (by decide) (by decide) (zqA _ (by simp)))) (zah (zam (zas (jv 1) (jv 0)))) zaw)
  (zah (zam (zbg (zcu (jv 0) zaH (zaC zaf)) (zhe rfl n_t (zcZ (N:=["one", "things"]) (k:=1) (fr:=[1]) ⟨rfl,by decide +kernel,rfl,rfl,rfl,rfl,rfl,rfl,rfl⟩ (zbm (zcu (jv 0) (zaC zaf) zaH)) (λ_ _ _ _=>(zao (i:=0) (show bb [("one" :Str),("things" :Str)] from by decide +kernel) rfl (ai rfl))) (λ_ _ _ _=>zbx) (λ_ _ _ _=>(zai ih hr rfl m F.kp b (zaa (jv 0) (zaa (jv 1) zac))))))))))
theorem o36 (F:Fun K "_law_item" "_law_item" s36 f d):Ok P w K mg base f d ["draw", "many", "w"] zcN:=zcS rfl λr ih=>zaS F zCr rfl rfl λ_ _ _ _ _ _ hr=>(zad (zaO (JW.jt (zle (zlx (jv 1) zaf) (zhu (zlx (zbY (jv 0) zaf) zaf)))) (zah (zam (zbY (zce (jv 0) zaf) (jv 1)))) zaw)
  (zah (zam (zat (zaa (zas (jv 2) (zjX (zaM (zaa zaf (zaa zaf zac))) (zbY (zce (jv 0) zaf) zaf))) zac)))))
theorem o37 (F:Fun K "_law_right" "_law_right" s37 f d) (x36:C36 P w K mg base):Ok P w K mg base f d ["draw", "many", "w"] zci:=zcS rfl λr ih=>zaS F sc37 rfl rfl λ_ _ _ _ _ _ hr=>(zad (zan (i:=3) sc37.nd rfl (ai rfl) (zai (x36.zg r) hr rfl x36.zm x36.zk x36.zb (zaa (zce (jv 0) zaf) (zaa (jv 1) (zaa (jv 2) zac)))))
  (zad (zan (i:=4) sc37.nd rfl (ai rfl) (zai (x36.zg r) hr rfl x36.zm x36.zk x36.zb (zaa (zce (jv 0) zaf) (zaa (jv 1) (zaa (jv 2) zac)))))
  (zad (zan (i:=5) sc37.nd rfl (ai rfl) (zbY (jv 0) zaf))
  (zad (zaO (zer hr (jv 5) zaf) (zah (zam (jv 3))) zaw)
  (zad (zaO (JW.jt (zjc (zer hr (jv 5) zaf) (zgn (zer hr (jv 1) zaf)))) (zah (zam (zat (zaa (zas (jv 2) zaf) (zaa (jv 3) zac))))) zaw)
  (zad (zaO (zer hr (jv 5) zaf) (zah (zam (zat (zaa (zas (jv 2) zaf) (zaa (jv 3) (zaa (jv 4) zac)))))) zaw)
  (zad (zaO (zer hr (jv 5) zaf) (zah (zam (zat (zaa (zas (jv 2) zaf) (zaa (jv 3) (zaa (jv 3) zac)))))) zaw)
  (zad (zaO (zer hr (jv 5) zaf) (zah (zam (zat (zaa (zas (jv 2) zaf) (zaa (zat (zaa (zas (jv 2) zaf) (zaa (jv 3) zac))) (zaa (jv 4) zac)))))) zaw)
  (zad (zaO (zer hr (jv 5) zaf) (zah (zam (zat (zaa (zas (jv 2) zaf) (zaa (jv 3) zac))))) zaw)
  (zah (zam (zat (zaa (zas (jv 2) zaf) (zaa (jv 3) (zaa (jv 4) zac)))))))))))))))
theorem o38 (F:Fun K "_law_lefts" "_law_lefts" s38 f d):Ok P w K mg base f d ["way", "head", "c", "d"] zbA:=zcS rfl λr ih=>zaS F zBV rfl rfl λ_ _ _ _ _ _ hr=>(zad (zaO (zer hr (jv 0) zaf) (zah (zam (zaI (zaM (zaa (zat (zaa (jv 1) (zaa zaf zac))) zac))))) zaw)
  (zad (zaO (zer hr (jv 0) zaf) (zah (zam (zaI (zaM (zaa (zat (zaa (jv 1) (zaa zaf (zaa zaf zac)))) zac))))) zaw)
  (zad (zaO (zer hr (jv 0) zaf) (zah (zam (zaI (zaM (zaa (zat (zaa (jv 1) (zaa (zat (zaa (jv 2) zac)) zac))) (zaa (zat (zaa (jv 1) (zaa (zat (zaa (jv 3) (zaa zaf zac))) zac))) zac)))))) zaw)
  (zad (zaO (zer hr (jv 0) zaf) (zah (zam (zaI (zaM (zaa (zat (zaa (jv 1) (zaa (zat (zaa (jv 2) zac)) (zaa zaf zac)))) (zaa (zat (zaa (jv 1) (zaa (zat (zaa (jv 3) (zaa zaf zac))) (zaa zaf zac)))) zac)))))) zaw)
  (zah (zam (zaI (zaM (zaa (zat (zaa (jv 1) zac)) zac)))))))))
theorem o39 (F:Fun K "_law_book" "_law_book" s39 f d) (x38:C38 P w K mg base) (x37:C37 P w K mg base) (x32:C32 P w K mg base) (x34:C34 P w K mg base) (n_r:mg "range" =none) (n_e:mg "enumerate" =none) (n_l:mg "len" =none):Ok P w K mg base f d ["script", "k", "w", "titles"] zbN:=zcS rfl λr ih=>zaS F sc39 rfl rfl λ_ _ _ _ _ _ hr=>(zad (zan (i:=4) sc39.nd rfl (ai rfl) (zaI (zaM zac)))
  (zad (zbH (zeE rfl n_r (zaa zaf zac)) (zao (i:=5) sc39.nd rfl (ai rfl)) (zad (zan (i:=6) sc39.nd rfl (ai rfl) (zai (x38.zg r) hr rfl x38.zm x38.zk x38.zb (zaa (zbY (zai (x32.zg r) hr rfl x32.zm x32.zk x32.zb (zaa (jv 0) (zaa (zbg (jv 1) (jv 5)) zac))) zaf) (zaa (zas (jv 2) (jv 5)) (zaa (zas (jv 2) zaf) (zaa (zas (jv 2) zaf) zac))))))
  (zah (zbH (ziW rfl n_e (jv 6)) (zdp (zav (zao (i:=7) sc39.nd rfl (ai rfl)) (zav (zao (i:=8) sc39.nd rfl (ai rfl)) zcg)) (glS (glS gl0))) (zad (zan (i:=9) sc39.nd rfl (ai rfl) (zai (x37.zg r) hr rfl x37.zm x37.zk x37.zb (zaa (zai (x32.zg r) hr rfl x32.zm x32.zk x32.zb (zaa (jv 0) (zaa (zbg (zbg (zbg (jv 1) zaf) (ztZ zaf (jv 5))) (jv 7)) zac))) (zaa (zai (x34.zg r) hr rfl x34.zm x34.zk x34.zb (zaa (jv 8) zac)) (zaa (jv 2) zac)))))
  (zah (zbi (zbB (jv 4) (zaa (zat (zaa (zas (jv 3) (zbs rfl n_l (zaa (jv 4) zac))) (zaa (jv 8) (zaa (jv 9) zac)))) zac)))))))))
  (zah (zam (jv 4)))))
theorem o40 (F:Fun K "_law_plan" "_law_plan" s40 f d) (x34:C34 P w K mg base) (n_l:mg "len" =none) (n_m:mg "min" =none):Ok P w K mg base f d ["cells", "book", "w", "room"] zcQ:=zcS rfl λr ih=>zaS F sc40 rfl rfl λ_ _ _ _ _ _ hr=>(zad (zan (i:=4) sc40.nd rfl (ai rfl) (zaI (zaM zac)))
  (zad (zan (i:=5) sc40.nd rfl (ai rfl) zaf)
  (zad (zbH (zbm (jv 0)) (zao (i:=6) sc40.nd rfl (ai rfl)) (zad (zan (i:=7) sc40.nd rfl (ai rfl) (zbY (jv 6) zaf))
  (zad (zan (i:=8) sc40.nd rfl (ai rfl) (zjX (zaM (zaa zaf (zaa zaf (zaa zaf (zaa zaf zac))))) (zqq rfl n_m (zaa (jv 7) (zaa zaf zac)))))
  (zad (zan (i:=9) sc40.nd rfl (ai rfl) (zat (zaa (zeR zaf) (zaa zaf (zaa (zas (jv 2) (zjX (zaM (zaa zaf (zaa zaf (zaa zaf (zaa zaf zac))))) (zqq rfl n_m (zaa (jv 7) (zaa zaf zac))))) zac)))))
  (zad (zaO (zlx (jv 7) zaf) (zad (zan (i:=10) sc40.nd rfl (ai rfl) (zbY (zce (jv 6) zaf) (zbs rfl n_l (zaa (jv 1) zac))))
  (zad (zan (i:=8) sc40.nd rfl (ai rfl) (zai (x34.zg r) hr rfl x34.zm x34.zk x34.zb (zaa (zas (zas (jv 1) (jv 10)) zaf) zac)))
  (zad (zan (i:=9) sc40.nd rfl (ai rfl) (zat (zaa (jv 10) (zaa (zbY (zce (jv 6) zaf) zaf) (zaa zgw zac)))))
  (zah (zan (i:=5) sc40.nd rfl (ai rfl) (zbg (jv 5) zaf)))))) zaw)
  (zah (zaO (JW.jt (zle (zlx (jv 3) zaf) (zhu (zpI (jv 5) zaf)))) (zad (zan (i:=3) sc40.nd rfl (ai rfl) (zjZ (jv 3) zaf))
  (zad (zan (i:=4) sc40.nd rfl (ai rfl) (zaI (zqk (zxf (zaM (zaa (zat (zaa (zeR zaf) (zaa zaf (zaa (zas (jv 2) zaf) (zaa (zaI (zaM zac)) zac))))) zac)) (zjZ (jv 8) (zbs rfl n_l (zaa (jv 4) zac)))) (jv 4))))
  (zad (zan (i:=11) sc40.nd rfl (ai rfl) (zjZ (zbs rfl n_l (zaa (jv 4) zac)) (jv 8)))
  (zah (zan (i:=4) sc40.nd rfl (ai rfl) (zaI (zlF (zuU (jv 4) zaH (zaC (jv 11))) (zaM (zaa (zbg (jv 9) (zat (zaa (zcu (jv 4) (zaC (jv 11)) zaH) zac))) zac))))))))) zaw)))))))
  (zad (znC (zlx (zbs rfl n_l (zaa (jv 4) zac)) zaf) (zah (zan (i:=4) sc40.nd rfl (ai rfl) (zaI (zlF (zuU (jv 4) zaH (zaC (zeR zaf))) (zaM (zaa (zat (zaa (zeR zaf) (zaa zaf (zaa (zas (jv 2) zaf) (zaa (zcu (jv 4) (zaC (zeR zaf)) zaH) zac))))) zac)))))))
  (zah (zam (zjX (zpg (jv 4) (zaM (zaa (zat (zaa (zeR zaf) (zaa zaf (zaa (zas (jv 2) zaf) (zaa (zaI (zaM zac)) zac))))) zac))) zaf)))))))
theorem o41 (F:Fun K "_law_way" "_law_way" s41 f d) (x35:C35 P w K mg base) (b:Binds K d ["plan", "book", "by"] []) (m:mg "_law_way" =ae (.ref f)) (n_t:mg "tuple" =none):Ok P w K mg base f d ["plan", "book", "by"] zcO:=zcS rfl λr ih=>zaS F sc41 rfl rfl λ_ _ _ _ _ _ hr=>(zad (zpd (jv 0) (zdp (zav (zao (i:=3) sc41.nd rfl (ai rfl)) (zav (zao (i:=4) sc41.nd rfl (ai rfl)) (zav (zao (i:=5) sc41.nd rfl (ai rfl)) (zav (zao (i:=6) sc41.nd rfl (ai rfl)) zcg)))) (glS (glS (glS (glS gl0))))))
  (zad (zdX (i:=7) (N:=["one", "book", "by"]) (k:=1) (fr:=[1,2]) sc41.nd rfl (ai rfl) ⟨rfl,by decide +kernel,rfl,rfl,rfl,rfl,rfl,rfl,rfl⟩ (zbm (jv 6)) (λ_ _ _ _=>(zao (i:=0) (show bb [("one" :Str),("book" :Str),("by" :Str)] from by decide +kernel) rfl (ai rfl))) (λ_ _ _ _=>zbx) (λ_ _ _ _=>(zai ih hr rfl m F.kp b (zaa (jv 0) (zaa (jv 1) (zaa (jv 2) zac))))))
  (zad (zaO (zpI (jv 3) zaf) (zah (zam (zbg (zat (zaa (jv 5) zac)) (zdu rfl n_t (zaa (jv 7) zac))))) zaw)
  (zad (zaO (zer hr (zbY (zce (jv 4) (jv 2)) zaf) zaf) (zah (zam (zbg (zat (zaa (zas (zas (jv 1) (jv 3)) zaf) zac)) (zdu rfl n_t (zaa (jv 7) zac))))) zaw)
  (zah (zam (zai (x35.zg r) hr rfl x35.zm x35.zk x35.zb (zaa (zas (zas (jv 1) (jv 3)) zaf) (zaa (jv 7) zac)))))))))
theorem o42 (F:Fun K "_law_made" "_law_made" s42 f d) (b:Binds K d ["book", "way", "which"] []) (m:mg "_law_made" =ae (.ref f)) (x35:C35 P w K mg base) (n_t:mg "tuple" =none):Ok P w K mg base f d ["book", "way", "which"] zaQ:=zcS rfl λr ih=>zaS F sc42 rfl rfl λ_ _ _ _ _ _ hr=>(zad (zdX (i:=3) (N:=["one", "book", "which"]) (k:=1) (fr:=[0,2]) sc42.nd rfl (ai rfl) ⟨rfl,by decide +kernel,rfl,rfl,rfl,rfl,rfl,rfl,rfl⟩ (zbm (zcu (jv 1) (zaC zaf) zaH)) (λ_ _ _ _=>(zao (i:=0) (show bb [("one" :Str),("book" :Str),("which" :Str)] from by decide +kernel) rfl (ai rfl))) (λ_ _ _ _=>zbx) (λ_ _ _ _=>(zai ih hr rfl m F.kp b (zaa (jv 1) (zaa (jv 0) (zaa (jv 2) zac))))))
  (zad (zbH (zbm (jv 0)) (zao (i:=4) sc42.nd rfl (ai rfl)) (zah (zaO (zer hr (zas (jv 4) zaf) (zas (jv 1) zaf)) (zah (zam (zai (x35.zg r) hr rfl x35.zm x35.zk x35.zb (zaa (zas (jv 4) (jv 2)) (zaa (jv 3) zac))))) zaw)))
  (zah (zam (zbg (zcu (jv 1) zaH (zaC zaf)) (zdu rfl n_t (zaa (jv 3) zac)))))))
theorem o43 (F:Fun K "_law_parts" "_law_parts" s43 f d) (b:Binds K d ["side", "shape", "known"] []) (m:mg "_law_parts" =ae (.ref f)) (n_i:mg "isinstance" =none) (n_n:mg "int" =none) (n_z:mg "zip" =none) (n_l:mg "len" =none):Ok P w K mg base f d ["side", "shape", "known"] zaV:=zcS rfl λr ih=>zaS F sc43 rfl rfl λ_ _ _ _ _ _ hr=>(zad (zaO (zbJ (zep rfl n_i rfl n_n cY (jv 0) (by decide) (by decide) (zqA _ (by simp)))) (zad (zaO (zhm hr (znr hr (jv 2) (jv 0) (jv 1)) (jv 1)) (zah (zam zcl)) zaw)
  (zad (zvR hr (jv 2) (jv 0) (jv 1))
  (zah (zam (jv 2))))) zaw)
  (zad (zaO (JW.jt (zjc (zhm hr (zas (jv 0) zaf) (zas (jv 1) zaf)) (zgn (zhm hr (zbs rfl n_l (zaa (jv 0) zac)) (zbs rfl n_l (zaa (jv 1) zac)))))) (zah (zam zcl)) zaw)
  (zad (zbH (zkv rfl n_z (zcu (jv 0) (zaC zaf) zaH) (zcu (jv 1) (zaC zaf) zaH)) (zdp (zav (zao (i:=3) sc43.nd rfl (ai rfl)) (zav (zao (i:=4) sc43.nd rfl (ai rfl)) zcg)) (glS (glS gl0))) (zah (zaO (zkA (zai ih hr rfl m F.kp b (zaa (jv 3) (zaa (jv 4) (zaa (jv 2) zac)))) zcl) (zah (zam zcl)) zaw)))
  (zah (zam (jv 2))))))
theorem o44 (F:Fun K "_law_put" "_law_put" s44 f d) (b:Binds K d ["t", "place", "other"] []) (m:mg "_law_put" =ae (.ref f)):Ok P w K mg base f d ["t", "place", "other"] zcJ:=zcS rfl λr ih=>zaS F sc44 rfl rfl λ_ _ _ _ _ _ hr=>(zad (zaO (zer hr (jv 1) (zat zac)) (zah (zam (jv 2))) zaw)
  (zad (zan (i:=3) sc44.nd rfl (ai rfl) (zbg (zas (jv 1) zaf) zaf))
  (zah (zam (zbg (zbg (zcu (jv 0) zaH (zaC (jv 3))) (zat (zaa (zai ih hr rfl m F.kp b (zaa (zas (jv 0) (jv 3)) (zaa (zcu (jv 1) (zaC zaf) zaH) (zaa (jv 2) zac)))) zac))) (zcu (jv 0) (zaC (zbg (jv 3) zaf)) zaH))))))
theorem o45 (F:Fun K "_law_places" "_law_places" s45 f d) (b:Binds K d ["t"] []) (m:mg "_law_places" =ae (.ref f)) (n_e:mg "enumerate" =none):Ok P w K mg base f d ["t"] zaJ:=zcS rfl λr ih=>zaS F sc45 rfl rfl λ_ _ _ _ _ _ hr=>(zad (zan (i:=1) sc45.nd rfl (ai rfl) (zaI (zaM (zaa (zat zac) zac))))
  (zad (zbH (ziW rfl n_e (zcu (jv 0) (zaC zaf) zaH)) (zdp (zav (zao (i:=2) sc45.nd rfl (cq rfl)) (zav (zao (i:=3) sc45.nd rfl (ai rfl)) zcg)) (glS (glS gl0))) (zah (zan (i:=1) sc45.nd rfl (ai rfl) (zaI (zpg (jv 1) (zcZ (N:=["place", "i"]) (k:=1) (fr:=[2]) ⟨rfl,by decide +kernel,rfl,rfl,rfl,rfl,rfl,rfl,rfl⟩ (zbm (zai ih hr rfl m F.kp b (zaa (jv 3) zac))) (λ_ _ _ _=>(zao (i:=0) (show bb [("place" :Str),("i" :Str)] from by decide +kernel) rfl (ai rfl))) (λ_ _ _ _=>zbx) (λ_ _ _ _=>(zbg (zat (zaa (jv 1) zac)) (jv 0)))))))))
  (zah (zam (jv 1)))))
theorem o46 (F:Fun K "_law_at" "_law_at" s46 f d):Ok P w K mg base f d ["t", "place"] zcs:=zcS rfl λr ih=>zaS F sc46 rfl rfl λ_ _ _ _ _ _ hr=>(zad (zbH (zbm (jv 1)) (zao (i:=2) sc46.nd rfl (ai rfl)) (zah (zan (i:=0) sc46.nd rfl (ai rfl) (zas (jv 0) (zbg (jv 2) zaf)))))
  (zah (zam (jv 0))))
theorem o47 (F:Fun K "_law_back" "_law_back" s47 f d) (x45:C45 P w K mg base) (x43:C43 P w K mg base) (x44:C44 P w K mg base) (x46:C46 P w K mg base) (x34:C34 P w K mg base) (n_l:mg "len" =none) (n_r:mg "range" =none) (n_t:mg "tuple" =none):Ok P w K mg base f d ["book", "here", "cell", "c"] zdk:=zcS rfl λr ih=>zaS F sc47 rfl rfl λ_ _ _ _ _ _ hr=>(zad (zpd (zas (jv 0) (zbY (jv 2) (zbs rfl n_l (zaa (jv 0) zac)))) (zdp (zav (zao (i:=4) sc47.nd rfl (ai rfl)) (zav (zao (i:=5) sc47.nd rfl (ai rfl)) (zav (zao (i:=6) sc47.nd rfl (ai rfl)) zcg))) (glS (glS (glS gl0)))))
  (zad (zan (i:=7) sc47.nd rfl (ai rfl) (zai (x45.zg r) hr rfl x45.zm x45.zk x45.zb (zaa (jv 1) zac)))
  (zad (zan (i:=8) sc47.nd rfl (ai rfl) (zas (jv 7) (zbY (zce (jv 2) zaf) (zbs rfl n_l (zaa (jv 7) zac)))))
  (zad (zan (i:=9) sc47.nd rfl (cq rfl) (zai (x43.zg r) hr rfl x43.zm x43.zk x43.zb (zaa (jv 6) (zaa (zai (x46.zg r) hr rfl x46.zm x46.zk x46.zb (zaa (jv 1) (zaa (jv 8) zac))) (zaa zuN zac)))))
  (zad (zaO (zkA (jv 9) zcl) (zah (zam (jv 1))) zaw)
  (zad (zdX (i:=10) (N:=["n", "parts", "c"]) (k:=1) (fr:=[9,3]) sc47.nd rfl (ai rfl) ⟨rfl,by decide +kernel,rfl,rfl,rfl,rfl,rfl,rfl,rfl⟩ (zeE rfl n_r (zaa (zai (x34.zg r) hr rfl x34.zm x34.zk x34.zb (zaa (jv 5) zac)) zac)) (λ_ _ _ _=>(zao (i:=0) (show bb [("n" :Str),("parts" :Str),("c" :Str)] from by decide +kernel) rfl (ai rfl))) (λ_ _ _ _=>zbx) (λ_ _ _ _=>(znr hr (jv 1) (jv 0) (zat (zaa (jv 2) zac)))))
  (zah (zam (zai (x44.zg r) hr rfl x44.zm x44.zk x44.zb (zaa (jv 1) (zaa (jv 8) (zaa (zbg (zat (zaa (jv 4) zac)) (zdu rfl n_t (zaa (jv 10) zac))) zac))))))))))))
theorem o48 (F:Fun K "_law_on" "_law_on" s48 f d) (x25:C25 P w K mg base) (x20:C20 P w K mg base) (n_l:mg "len" =none):Ok P w K mg base f d ["book", "here", "cell"] zcx:=zcS rfl λr ih=>zaS F sc48 rfl rfl λ_ _ _ _ _ _ hr=>(zad (zdX (i:=3) (N:=["one"]) (k:=1) (fr:=[]) sc48.nd rfl (ai rfl) ⟨rfl,by decide +kernel,rfl,rfl,rfl,rfl,rfl,rfl,rfl⟩ (zbm (zai (x20.zg r) hr rfl x20.zm x20.zk x20.zb (zaa (jv 0) (zaa (jv 1) zac)))) (λ_ _ _ _=>(zao (i:=0) (show bb [("one" :Str)] from by decide +kernel) rfl (ai rfl))) (λ_ _ _ _=>zbx) (λ_ _ _ _=>(zas (jv 0) zaf)))
  (zad (zaO (zer hr (jv 3) (zaI (zaM zac))) (zah (zam (jv 1))) zaw)
  (zad (zan (i:=4) sc48.nd rfl (ai rfl) (zaI (zaM (zaa (zas (jv 3) (zbY (jv 2) (zbs rfl n_l (zaa (jv 3) zac)))) (zaa (zas (jv 3) (zbY (zce (jv 2) zaf) (zbs rfl n_l (zaa (jv 3) zac)))) zac)))))
  (zah (zam (zai (x25.zg r) hr rfl x25.zm x25.zk x25.zb (zaa (jv 0) (zaa (jv 1) (zaa (zcu (jv 4) zaH (zaC (zbg zaf (zbY (zce (jv 2) zaf) zaf)))) zac)))))))))
theorem o49 (F:Fun K "_law_winding" "_law_winding" s49 f d) (x48:C48 P w K mg base) (x42:C42 P w K mg base) (x47:C47 P w K mg base) (n_l:mg "len" =none):Ok P w K mg base f d ["book", "shape", "cells", "limit", "c"] zbj:=zcS rfl λr ih=>zaS F sc49 rfl rfl λ_ _ _ _ _ _ hr=>(zad (zan (i:=5) sc49.nd rfl (ai rfl) (zaI (zaM zac)))
  (zad (zan (i:=6) sc49.nd rfl (ai rfl) (jv 1))
  (zad (zbH (zbm (jv 2)) (zao (i:=7) sc49.nd rfl (ai rfl)) (zah (zaO (zpI (zbs rfl n_l (zaa (jv 5) zac)) (jv 3)) (zad (zan (i:=8) sc49.nd rfl (ai rfl) (zoO hr (zbY (jv 7) zaf) zaf))
  (zad (zaO (zbJ (jv 8)) (zad (zan (i:=9) sc49.nd rfl (ai rfl) (zai (x48.zg r) hr rfl x48.zm x48.zk x48.zb (zaa (jv 0) (zaa (jv 6) (zaa (zce (jv 7) zaf) zac)))))
  (zah (zan (i:=6) sc49.nd rfl (ai rfl) (zai (x42.zg r) hr rfl x42.zm x42.zk x42.zb (zaa (jv 0) (zaa (jv 9) (zaa zaf zac))))))) (zad (zan (i:=9) sc49.nd rfl (ai rfl) (zai (x47.zg r) hr rfl x47.zm x47.zk x47.zb (zaa (jv 0) (zaa (jv 6) (zaa (zce (jv 7) zaf) (zaa (jv 4) zac))))))
  (zah (zan (i:=6) sc49.nd rfl (ai rfl) (zai (x42.zg r) hr rfl x42.zm x42.zk x42.zb (zaa (jv 0) (zaa (jv 9) (zaa zaf zac))))))))
  (zah (zbi (zbB (jv 5) (zaa (zat (zaa (jv 9) (zaa (jv 8) zac))) zac)))))) zaw)))
  (zah (zam (zat (zaa (jv 5) (zaa (jv 6) zac))))))))
theorem o50 (F:Fun K "_law_walked" "_law_walked" s50 f d) (x42:C42 P w K mg base) (n_i:mg "isinstance" =none) (n_t:mg "tuple" =none) (n_l:mg "len" =none) (n_s:mg "list" =none):Ok P w K mg base f d ["book", "road"] zbR:=zcS rfl λr ih=>by
  refine zaS F sc50 rfl rfl λ_ _ _ _ _ _ hr=>?_;delta zcv zbC zcc zcr zco zcq;delta zcD;delta zcv zbC zcc zcr zco zcq;exact(zad (zaO (JW.jt (zjc (zgx (zbJ (zep rfl n_i rfl n_t gh (jv 1) (by decide) (by decide) (zqA _ (by simp))))) (zjc (zhm hr (zbs rfl n_l (zaa (jv 1) zac)) zaf) (zgn (zgx (zbJ (zep rfl n_i rfl n_s j8 (zas (jv 1) zaf) (by decide) (by decide) (zqA _ (by simp))))))))) (zah (zam zcl)) zaw)
  (zad (zan (i:=2) sc50.nd rfl (ai rfl) (zas (jv 1) zaf))
  (zad (zbH (zbm (zas (jv 1) zaf)) (zao (i:=3) sc50.nd rfl (ai rfl)) (zad (zaO (zhm hr (zai (x42.zg r) hr rfl x42.zm x42.zk x42.zb (zaa (jv 0) (zaa (jv 3) (zaa zaf zac)))) (jv 2)) (zah (zam zcl)) zaw)
  (zah (zan (i:=2) sc50.nd rfl (ai rfl) (zai (x42.zg r) hr rfl x42.zm x42.zk x42.zb (zaa (jv 0) (zaa (jv 3) (zaa zaf zac))))))))
  (zah (zam (jv 2))))))
theorem o51 (F:Fun K "_law_closed" "_law_closed" s51 f d) (x50:C50 P w K mg base) (n_l:mg "len" =none) (n_i:mg "isinstance" =none) (n_t:mg "tuple" =none):Ok P w K mg base f d ["book", "shape", "steps", "last", "found"] zbP:=zcS rfl λr ih=>zaS F sc51 rfl rfl λ_ _ _ _ _ _ hr=>(zad (zaO (JW.jt (zjc (zgx (zbJ (zep rfl n_i rfl n_t gh (jv 4) (by decide) (by decide) (zqA _ (by simp))))) (zgn (zhm hr (zbs rfl n_l (zaa (jv 4) zac)) zaf)))) (zah (zam zfY)) zaw)
  (zad (zan (i:=5) sc51.nd rfl (ai rfl) (zai (x50.zg r) hr rfl x50.zm x50.zk x50.zb (zaa (jv 0) (zaa (zas (jv 4) zaf) zac))))
  (zad (zaO (JW.jt (zjc (zkA (jv 5) zcl) (zgn (zhm hr (jv 5) (zai (x50.zg r) hr rfl x50.zm x50.zk x50.zb (zaa (jv 0) (zaa (zas (jv 4) zaf) zac))))))) (zah (zam zfY)) zaw)
  (zad (zaO (JW.jt (zjc (zhm hr (zas (zas (jv 4) zaf) zaf) (jv 1)) (zgn (zhm hr (zas (zas (jv 4) zaf) zaf) (jv 3))))) (zah (zam zfY)) zaw)
  (zad (zan (i:=6) sc51.nd rfl (ai rfl) (zbs rfl n_l (zaa (zaI (zcZ (N:=["step"]) (k:=1) (fr:=[]) ⟨rfl,by decide +kernel,rfl,rfl,rfl,rfl,rfl,rfl,rfl⟩ (zbm (jv 2)) (λ_ _ _ _=>(zao (i:=0) (show bb [("step" :Str)] from by decide +kernel) rfl (ai rfl))) (λ_ _ _ _=>(zpo (zbJ (zas (jv 0) zaf)))) (λ_ _ _ _=>(jv 0)))) zac)))
  (zah (zam (zup (zoO hr (zbs rfl n_l (zaa (zas (zas (jv 4) zaf) zaf) zac)) (jv 6)) (ztJ (zoO hr (zbs rfl n_l (zaa (zas (zas (jv 4) zaf) zaf) zac)) (zjZ (zbs rfl n_l (zaa (jv 2) zac)) (jv 6))))))))))))
theorem o52 (F:Fun K "_law_once" "_law_once" s52 f d) (b:Binds K d ["side", "seen", "c"] []) (m:mg "_law_once" =ae (.ref f)) (n_i:mg "isinstance" =none) (n_n:mg "int" =none) (n_t:mg "tuple" =none):Ok P w K mg base f d ["side", "seen", "c"] zbw:=zcS rfl λr ih=>zaS F zBX rfl rfl λ_ _ _ _ _ _ hr=>(zad (zaO (zbJ (zep rfl n_i rfl n_n cY (jv 0) (by decide) (by decide) (zqA _ (by simp)))) (zad (zbi (zbB (jv 1) (zaa (jv 0) zac)))
  (zah (zam (zjX (zaM (zaa (jv 0) (zaa (zat (zaa (jv 2) zac)) zac))) (zrI rfl n_n (zaa (zAX hr (jv 0) (zcu (jv 1) zaH (zaC (zeR zaf)))) zac)))))) zaw)
  (zah (zam (zbg (zcu (jv 0) zaH (zaC zaf)) (zhe rfl n_t (zcZ (N:=["one", "seen", "c"]) (k:=1) (fr:=[1,2]) ⟨rfl,by decide +kernel,rfl,rfl,rfl,rfl,rfl,rfl,rfl⟩ (zbm (zcu (jv 0) (zaC zaf) zaH)) (λ_ _ _ _=>(zao (i:=0) (show bb [("one" :Str),("seen" :Str),("c" :Str)] from by decide +kernel) rfl (ai rfl))) (λ_ _ _ _=>zbx) (λ_ _ _ _=>(zai ih hr rfl m F.kp b (zaa (jv 0) (zaa (jv 1) (zaa (jv 2) zac)))))))))))
theorem o53 (F:Fun K "law" "law" s53 f d) (x33:C33 P w K mg base) (x39:C39 P w K mg base) (x41:C41 P w K mg base) (x49:C49 P w K mg base) (x51:C51 P w K mg base) (x32:C32 P w K mg base) (x40:C40 P w K mg base) (x31:C31 P w K mg base) (x52:C52 P w K mg base) (n_v:mg "reversed" =none):Ok P w K mg base f d ["script"] zdH:=zcS rfl λr ih=>by
  refine zaS F sc53 rfl rfl λ_ _ _ _ _ _ hr=>?_;delta zeY zea zdN zdU zdY zdQ zed zee zdT;exact(zad (zan (i:=1) sc53.nd rfl (cq rfl) (zai (x33.zg r) hr rfl x33.zm x33.zk x33.zb (zaa (zai (x32.zg r) hr rfl x32.zm x32.zk x32.zb (zaa (jv 0) (zaa zaf zac))) (zaa (zai (x32.zg r) hr rfl x32.zm x32.zk x32.zb (zaa (jv 0) (zaa zaf zac))) (zaa zfY zac)))))
  (zad (zan (i:=2) sc53.nd rfl (ai rfl) (zai (x33.zg r) hr rfl x33.zm x33.zk x33.zb (zaa (zai (x32.zg r) hr rfl x32.zm x32.zk x32.zb (zaa (jv 0) (zaa zaf zac))) (zaa (zai (x32.zg r) hr rfl x32.zm x32.zk x32.zb (zaa (jv 0) (zaa zaf zac))) (zaa zfY zac)))))
  (zad (zan (i:=3) sc53.nd rfl (ai rfl) (zai (x39.zg r) hr rfl x39.zm x39.zk x39.zb (zaa (jv 0) (zaa zaf (zaa (jv 1) (zaa (jv 2) zac))))))
  (zad (zdX (i:=3) (N:=["title", "left", "right", "w"]) (k:=3) (fr:=[1]) sc53.nd rfl (ai rfl) ⟨rfl,by decide +kernel,rfl,rfl,rfl,rfl,rfl,rfl,rfl⟩ (zbm (jv 3)) (λ_ _ _ _=>(zdp (zav (zao (i:=0) (show bb [("title" :Str),("left" :Str),("right" :Str),("w" :Str)] from by decide +kernel) rfl (ai rfl)) (zav (zao (i:=1) (show bb [("title" :Str),("left" :Str),("right" :Str),("w" :Str)] from by decide +kernel) rfl (ai rfl)) (zav (zao (i:=2) (show bb [("title" :Str),("left" :Str),("right" :Str),("w" :Str)] from by decide +kernel) rfl (ai rfl)) zcg))) (glS (glS (glS gl0))))) (λ_ _ _ _=>zbx) (λ_ _ _ _=>(zat (zaa (jv 0) (zaa (jv 1) (zaa (zai (x52.zg r) hr rfl x52.zm x52.zk x52.zb (zaa (jv 2) (zaa (zaI (zaM zac)) (zaa (zas (jv 3) zaf) zac)))) zac))))))
  (zad (zan (i:=4) sc53.nd rfl (ai rfl) (zai (x41.zg r) hr rfl x41.zm x41.zk x41.zb (zaa (zai (x40.zg r) hr rfl x40.zm x40.zk x40.zb (zaa (zcu (jv 0) (zaC zaf) (zaC zaf)) (zaa (jv 3) (zaa (jv 1) (zaa zaf zac))))) (zaa (jv 3) (zaa zaf zac)))))
  (zad (zpd (zai (x49.zg r) hr rfl x49.zm x49.zk x49.zb (zaa (jv 3) (zaa (jv 4) (zaa (zcu (jv 0) (zaC zaf) zaH) (zaa zaf (zaa (zas (jv 1) zaf) zac)))))) (zdp (zav (zao (i:=5) sc53.nd rfl (ai rfl)) (zav (zao (i:=6) sc53.nd rfl (ai rfl)) zcg)) (glS (glS gl0))))
  (zad (zaO (zgx (zbJ (zai (x51.zg r) hr rfl x51.zm x51.zk x51.zb (zaa (jv 3) (zaa (jv 4) (zaa (jv 5) (zaa (jv 6) (zaa (zai (x31.zg r) hr rfl x31.zm x31.zk x31.zb (zaa (jv 3) (zaa (jv 4) (zaa (jv 5) zac)))) zac)))))))) (zah (zam zfY)) zaw)
  (zad (zdX (i:=7) (N:=["way", "onward"]) (k:=2) (fr:=[]) sc53.nd rfl (ai rfl) ⟨rfl,by decide +kernel,rfl,rfl,rfl,rfl,rfl,rfl,rfl⟩ (zyX rfl n_v (jv 5)) (λ_ _ _ _=>(zdp (zav (zao (i:=0) (show bb [("way" :Str),("onward" :Str)] from by decide +kernel) rfl (ai rfl)) (zav (zao (i:=1) (show bb [("way" :Str),("onward" :Str)] from by decide +kernel) rfl (ai rfl)) zcg)) (glS (glS gl0)))) (λ_ _ _ _=>zbx) (λ_ _ _ _=>(zat (zaa (jv 0) (zaa (zwZ (jv 1)) zac)))))
  (zah (zam (zai (x51.zg r) hr rfl x51.zm x51.zk x51.zb (zaa (jv 3) (zaa (jv 6) (zaa (jv 7) (zaa (jv 4) (zaa (zai (x31.zg r) hr rfl x31.zm x31.zk x31.zb (zaa (jv 3) (zaa (jv 6) (zaa (jv 7) zac)))) zac))))))))))))))))
end
theorem all_mk{l:iz}{w:aC}{K:aj}{h:Heap}{mg:Str→Option Value}{fa:Addr}(X:K.In h) (G:h.Ns aL mg) (hfa:mg "law" =ae (.ref fa))
  (D0:Dfn K "parts_of" s0)
  (D1:Dfn K "parts_of_all" s1)
  (D2:Dfn K "is_small" s2)
  (D4:Dfn K "places" s4)
  (D3:Dfn K "gather_places" s3)
  (D6:Dfn K "part" s6)
  (D5:Dfn K "numbered_part" s5)
  (D7:Dfn K "blank_places" s7)
  (D8:Dfn K "filled" s8)
  (D11:Dfn K "matched" s11)
  (D10:Dfn K "gather_matched" s10)
  (D9:Dfn K "have_one_top" s9)
  (D12:Dfn K "turning_of" s12)
  (D15:Dfn K "source" s15)
  (D16:Dfn K "goal" s16)
  (D13:Dfn K "only_small" s13)
  (D14:Dfn K "with_sides" s14)
  (D17:Dfn K "part_places" s17)
  (D20:Dfn K "open_uses" s20)
  (D19:Dfn K "gather_open" s19)
  (D18:Dfn K "open_turning" s18)
  (D21:Dfn K "places_of" s21)
  (D25:Dfn K "way_of" s25)
  (D24:Dfn K "way_with" s24)
  (D23:Dfn K "way_within" s23)
  (D22:Dfn K "turned_top" s22)
  (D26:Dfn K "moved" s26)
  (D29:Dfn K "grid" s29)
  (D28:Dfn K "moved_along" s28)
  (D27:Dfn K "check_goals" s27)
  (D30:Dfn K "last_downs" s30)
  (D31:Dfn K "valley" s31)
  (D32:Dfn K "_law_cell" s32)
  (D33:Dfn K "_law_words" s33)
  (D34:Dfn K "_law_count" s34)
  (D35:Dfn K "_law_filled" s35)
  (D36:Dfn K "_law_item" s36)
  (D37:Dfn K "_law_right" s37)
  (D38:Dfn K "_law_lefts" s38)
  (D39:Dfn K "_law_book" s39)
  (D40:Dfn K "_law_plan" s40)
  (D41:Dfn K "_law_way" s41)
  (D42:Dfn K "_law_made" s42)
  (D43:Dfn K "_law_parts" s43)
  (D44:Dfn K "_law_put" s44)
  (D45:Dfn K "_law_places" s45)
  (D46:Dfn K "_law_at" s46)
  (D47:Dfn K "_law_back" s47)
  (D48:Dfn K "_law_on" s48)
  (D49:Dfn K "_law_winding" s49)
  (D50:Dfn K "_law_walked" s50)
  (D51:Dfn K "_law_closed" s51)
  (D52:Dfn K "_law_once" s52)
  (D53:Dfn K "law" s53)
  (z_ValueError:aZ K aL "ValueError" =ae none)
  (z_d:aZ K aL "dict" =ae none)
  (z_e:aZ K aL "enumerate" =ae none)
  (z_n:aZ K aL "int" =ae none)
  (z_i:aZ K aL "isinstance" =ae none)
  (z_l:aZ K aL "len" =ae none)
  (z_s:aZ K aL "list" =ae none)
  (z_m:aZ K aL "min" =ae none)
  (z_r:aZ K aL "range" =ae none)
  (z_v:aZ K aL "reversed" =ae none)
  (z_u:aZ K aL "sum" =ae none)
  (z_t:aZ K aL "tuple" =ae none)
  (z_z:aZ K aL "zip" =ae none)
  {t_MOST_HEAVY:bq}(z_MOST_HEAVY:aZ K aL "MOST_HEAVY" =ae (ae (.int 400 t_MOST_HEAVY)))
  {t_MOST_DEEP:bq}(z_MOST_DEEP:aZ K aL "MOST_DEEP" =ae (ae (.int 40 t_MOST_DEEP)))
  {t_LEFT:bq}(z_LEFT:aZ K aL "LEFT" =ae (ae (.int 1 t_LEFT)))
  {t_RIGHT:bq}(z_RIGHT:aZ K aL "RIGHT" =ae (ae (.int 2 t_RIGHT)))
  {C_Apart:Addr}(z_Apart:aZ K aL "Apart" =ae (ae (.ref C_Apart)))
  {C_NoPlace:Addr}(z_NoPlace:aZ K aL "NoPlace" =ae (ae (.ref C_NoPlace)))
  {C_NoUse:Addr}(z_NoUse:aZ K aL "NoUse" =ae (ae (.ref C_NoUse)))
  {C_TooGreat:Addr}(z_TooGreat:aZ K aL "TooGreat" =ae (ae (.ref C_TooGreat)))
  (za_Apart:eJ K C_Apart bmV "ValueError.__new__" =true) (zb_Apart:bS K (.ref C_Apart) "__getattribute__" =ae (ae (.builtin "BaseException.__getattribute__"))) (zc_Apart:bS K (.ref C_Apart) "__getattr__" =ae none) (zd_Apart:bS K (.ref C_Apart) "__class__" =ae (ae (.builtin "object.__class__"))) (ze_Apart:cX K C_Apart (.type "object")=ae true) (zf_Apart:cX K C_Apart (.type "BaseException")=ae true)
  (za_NoPlace:eJ K C_NoPlace bmV "ValueError.__new__" =true) (zb_NoPlace:bS K (.ref C_NoPlace) "__getattribute__" =ae (ae (.builtin "BaseException.__getattribute__"))) (zc_NoPlace:bS K (.ref C_NoPlace) "__getattr__" =ae none) (zd_NoPlace:bS K (.ref C_NoPlace) "__class__" =ae (ae (.builtin "object.__class__"))) (ze_NoPlace:cX K C_NoPlace (.type "object")=ae true) (zf_NoPlace:cX K C_NoPlace (.type "BaseException")=ae true)
  (za_NoUse:eJ K C_NoUse bmV "ValueError.__new__" =true) (zb_NoUse:bS K (.ref C_NoUse) "__getattribute__" =ae (ae (.builtin "BaseException.__getattribute__"))) (zc_NoUse:bS K (.ref C_NoUse) "__getattr__" =ae none) (zd_NoUse:bS K (.ref C_NoUse) "__class__" =ae (ae (.builtin "object.__class__"))) (ze_NoUse:cX K C_NoUse (.type "object")=ae true) (zf_NoUse:cX K C_NoUse (.type "BaseException")=ae true)
  (za_TooGreat:eJ K C_TooGreat bmV "ValueError.__new__" =true) (zb_TooGreat:bS K (.ref C_TooGreat) "__getattribute__" =ae (ae (.builtin "BaseException.__getattribute__"))) (zc_TooGreat:bS K (.ref C_TooGreat) "__getattr__" =ae none) (zd_TooGreat:bS K (.ref C_TooGreat) "__class__" =ae (ae (.builtin "object.__class__"))) (ze_TooGreat:cX K C_TooGreat (.type "object")=ae true) (zf_TooGreat:cX K C_TooGreat (.type "BaseException")=ae true)
  :∃fd:bG,(∀(s:ah) (v:Value),d5 s fd ⟨[v],[]⟩ [("script",v)])∧ ∀base:Heap,K.In base→base.Ns aL mg→FnOk l.prog w K mg base (CX1 l.prog w) 200 fa fd ["script"] (zdn K (zdH 200)):=by
 obtain⟨f53,d53,a53,F53⟩:=D53;have e:=hfa.symm.trans (bf X G a53);cases e;have n_ValueError:=ca X G z_ValueError;have n_d:=ca X G z_d;have n_e:=ca X G z_e;have n_n:=ca X G z_n;have n_i:=ca X G z_i;have n_l:=ca X G z_l;have n_s:=ca X G z_s;have n_m:=ca X G z_m;have n_r:=ca X G z_r;have n_v:=ca X G z_v;have n_u:=ca X G z_u;have n_t:=ca X G z_t;have n_z:=ca X G z_z;have g_MOST_HEAVY:=bf X G z_MOST_HEAVY;have g_MOST_DEEP:=bf X G z_MOST_DEEP;have g_LEFT:=bf X G z_LEFT;have g_RIGHT:=bf X G z_RIGHT;refine⟨d53,λs v=>?_,λbase _ _=>?_⟩
 ·obtain⟨oc,od,kV,doc,pm,an,cdv,ct,osl,rfl,lk,hcd⟩:=F53.ex;exact .of_eq rfl
 obtain⟨f,d,a,F⟩:=D0;have x0:=mkC (base:=base) X G F a (o0 (P:=l.prog) (w:=w) F n_i n_n) (F.binds λ_ _ _ _ _ _=>n1 λ_=>rfl);obtain⟨f,d,a,F⟩:=D1;have x1:=mkC (base:=base) X G F a (o1 (P:=l.prog) (w:=w) F x0) (F.binds λ_ _ _ _ _ _=>n1 λ_=>rfl);obtain⟨f,d,a,F⟩:=D2;have x2:=mkC (base:=base) X G F a (o2 (P:=l.prog) (w:=w) F x1 n_l g_MOST_HEAVY g_MOST_DEEP) (F.binds λ_ _ _ _ _ _=>n1 λ_=>rfl);obtain⟨f,d,a,F⟩:=D3;have x3:=mkC (base:=base) X G F a (o3 (P:=l.prog) (w:=w) F x0 (F.binds λ_ _ _ _ _ _=>n3 λ_ _ _=>rfl) (bf X G a) n_e) (F.binds λ_ _ _ _ _ _=>n3 λ_ _ _=>rfl);obtain⟨f,d,a,F⟩:=D4;have x4:=mkC (base:=base) X G F a (o4 (P:=l.prog) (w:=w) F x3) (F.binds λ_ _ _ _ _ _=>n1 λ_=>rfl);obtain⟨f,d,a,F⟩:=D5;have x5:=mkC (base:=base) X G F a (o5 (P:=l.prog) (w:=w) F x0 n_l ⟨C_NoPlace,bf X G z_NoPlace⟩ ⟨z_NoPlace,za_NoPlace,⟨zb_NoPlace,zc_NoPlace,zd_NoPlace,ze_NoPlace,zf_NoPlace⟩⟩) (F.binds λ_ _ _ _ _ _=>n2 λ_ _=>rfl);obtain⟨f,d,a,F⟩:=D6;have x6:=mkC (base:=base) X G F a (o6 (P:=l.prog) (w:=w) F x5) (F.binds λ_ _ _ _ _ _=>n2 λ_ _=>rfl);obtain⟨f,d,a,F⟩:=D7;have x7:=mkC (base:=base) X G F a (o7 (P:=l.prog) (w:=w) F x4 x6 n_i n_n) (F.binds λ_ _ _ _ _ _=>n1 λ_=>rfl);obtain⟨f,d,a,F⟩:=D8;have x8:=mkC (base:=base) X G F a (o8 (P:=l.prog) (w:=w) F (F.binds λ_ _ _ _ _ _=>n2 λ_ _=>rfl) (bf X G a) n_i n_n n_t) (F.binds λ_ _ _ _ _ _=>n2 λ_ _=>rfl);obtain⟨f,d,a,F⟩:=D9;have x9:=mkC (base:=base) X G F a (o9 (P:=l.prog) (w:=w) F n_l) (F.binds λ_ _ _ _ _ _=>n2 λ_ _=>rfl);obtain⟨f,d,a,F⟩:=D10;have x10:=mkC (base:=base) X G F a (o10 (P:=l.prog) (w:=w) F x9 (F.binds λ_ _ _ _ _ _=>n3 λ_ _ _=>rfl) (bf X G a) n_i n_n n_z) (F.binds λ_ _ _ _ _ _=>n3 λ_ _ _=>rfl);obtain⟨f,d,a,F⟩:=D11;have x11:=mkC (base:=base) X G F a (o11 (P:=l.prog) (w:=w) F x10) (F.binds λ_ _ _ _ _ _=>n2 λ_ _=>rfl);obtain⟨f,d,a,F⟩:=D12;have x12:=mkC (base:=base) X G F a (o12 (P:=l.prog) (w:=w) F) (F.binds λ_ _ _ _ _ _=>n2 λ_ _=>rfl);obtain⟨f,d,a,F⟩:=D13;have x13:=mkC (base:=base) X G F a (o13 (P:=l.prog) (w:=w) F x2 ⟨C_TooGreat,bf X G z_TooGreat⟩ ⟨z_TooGreat,za_TooGreat,⟨zb_TooGreat,zc_TooGreat,zd_TooGreat,ze_TooGreat,zf_TooGreat⟩⟩) (F.binds λ_ _ _ _ _ _=>n1 λ_=>rfl);obtain⟨f,d,a,F⟩:=D14;have x14:=mkC (base:=base) X G F a (o14 (P:=l.prog) (w:=w) F x12 x8 (F.binds λ_ _ _ _ _ _=>n3 λ_ _ _=>rfl) (bf X G a) n_t) (F.binds λ_ _ _ _ _ _=>n3 λ_ _ _=>rfl);obtain⟨f,d,a,F⟩:=D15;have x15:=mkC (base:=base) X G F a (o15 (P:=l.prog) (w:=w) F x13 x14 g_LEFT) (F.binds λ_ _ _ _ _ _=>n2 λ_ _=>rfl);obtain⟨f,d,a,F⟩:=D16;have x16:=mkC (base:=base) X G F a (o16 (P:=l.prog) (w:=w) F x13 x14 g_RIGHT) (F.binds λ_ _ _ _ _ _=>n2 λ_ _=>rfl);obtain⟨f,d,a,F⟩:=D17;have x17:=mkC (base:=base) X G F a (o17 (P:=l.prog) (w:=w) F x12 x7 n_r n_l g_LEFT) (F.binds λ_ _ _ _ _ _=>n2 λ_ _=>rfl);obtain⟨f,d,a,F⟩:=D18;have x18:=mkC (base:=base) X G F a (o18 (P:=l.prog) (w:=w) F x11 g_LEFT) (F.binds λ_ _ _ _ _ _=>n2 λ_ _=>rfl);obtain⟨f,d,a,F⟩:=D19;have x19:=mkC (base:=base) X G F a (o19 (P:=l.prog) (w:=w) F x18 (F.binds λ_ _ _ _ _ _=>n4 λ_ _ _ _=>rfl) (bf X G a) n_e) (F.binds λ_ _ _ _ _ _=>n4 λ_ _ _ _=>rfl);obtain⟨f,d,a,F⟩:=D20;have x20:=mkC (base:=base) X G F a (o20 (P:=l.prog) (w:=w) F x19) (F.binds λ_ _ _ _ _ _=>n2 λ_ _=>rfl);obtain⟨f,d,a,F⟩:=D21;have x21:=mkC (base:=base) X G F a (o21 (P:=l.prog) (w:=w) F) (F.binds λ_ _ _ _ _ _=>n1 λ_=>rfl);obtain⟨f,d,a,F⟩:=D22;have x22:=mkC (base:=base) X G F a (o22 (P:=l.prog) (w:=w) F x18 x11 n_t g_LEFT) (F.binds λ_ _ _ _ _ _=>n2 λ_ _=>rfl);obtain⟨f,d,a,F⟩:=D23;have x23:=mkC (base:=base) X G F a (o23 (P:=l.prog) (w:=w) F x22 x17 (F.binds λ_ _ _ _ _ _=>n4 λ_ _ _ _=>rfl) (bf X G a) n_z n_t) (F.binds λ_ _ _ _ _ _=>n4 λ_ _ _ _=>rfl);obtain⟨f,d,a,F⟩:=D24;have x24:=mkC (base:=base) X G F a (o24 (P:=l.prog) (w:=w) F x23 n_d) (F.binds λ_ _ _ _ _ _=>n3 λ_ _ _=>rfl);obtain⟨f,d,a,F⟩:=D25;have x25:=mkC (base:=base) X G F a (o25 (P:=l.prog) (w:=w) F x21 x24 x20 ⟨C_NoUse,bf X G z_NoUse⟩ ⟨z_NoUse,za_NoUse,⟨zb_NoUse,zc_NoUse,zd_NoUse,ze_NoUse,zf_NoUse⟩⟩) (F.binds λ_ _ _ _ _ _=>n3 λ_ _ _=>rfl);obtain⟨f,d,a,F⟩:=D26;have x26:=mkC (base:=base) X G F a (o26 (P:=l.prog) (w:=w) F x12 x8 x11 (F.binds λ_ _ _ _ _ _=>n3 λ_ _ _=>rfl) (bf X G a) n_z n_t g_RIGHT g_LEFT) (F.binds λ_ _ _ _ _ _=>n3 λ_ _ _=>rfl);obtain⟨f,d,a,F⟩:=D27;have x27:=mkC (base:=base) X G F a (o27 (P:=l.prog) (w:=w) F x16) (F.binds λ_ _ _ _ _ _=>n2 λ_ _=>rfl);obtain⟨f,d,a,F⟩:=D28;have x28:=mkC (base:=base) X G F a (o28 (P:=l.prog) (w:=w) F x26 x27) (F.binds λ_ _ _ _ _ _=>n3 λ_ _ _=>rfl);obtain⟨f,d,a,F⟩:=D29;have x29:=mkC (base:=base) X G F a (o29 (P:=l.prog) (w:=w) F x13 x27 x28 x26 n_s n_z ⟨C_Apart,bf X G z_Apart⟩ ⟨z_Apart,za_Apart,⟨zb_Apart,zc_Apart,zd_Apart,ze_Apart,zf_Apart⟩⟩) (F.binds λ_ _ _ _ _ _=>n3 λ_ _ _=>rfl);obtain⟨f,d,a,F⟩:=D30;have x30:=mkC (base:=base) X G F a (o30 (P:=l.prog) (w:=w) F) (F.binds λ_ _ _ _ _ _=>n1 λ_=>rfl);obtain⟨f,d,a,F⟩:=D31;have x31:=mkC (base:=base) X G F a (o31 (P:=l.prog) (w:=w) F x15 x16 x29 x30 ⟨C_Apart,bf X G z_Apart⟩ ⟨z_Apart,za_Apart,⟨zb_Apart,zc_Apart,zd_Apart,ze_Apart,zf_Apart⟩⟩) (F.binds λ_ _ _ _ _ _=>n3 λ_ _ _=>rfl);obtain⟨f,d,a,F⟩:=D32;have x32:=mkC (base:=base) X G F a (o32 (P:=l.prog) (w:=w) F n_l) (F.binds λ_ _ _ _ _ _=>n2 λ_ _=>rfl);obtain⟨f,d,a,F⟩:=D33;have x33:=mkC (base:=base) X G F a (o33 (P:=l.prog) (w:=w) F n_r n_l n_n) (F.binds λ_ _ _ _ _ _=>n3 λ_ _ _=>rfl);obtain⟨f,d,a,F⟩:=D34;have x34:=mkC (base:=base) X G F a (o34 (P:=l.prog) (w:=w) F (F.binds λ_ _ _ _ _ _=>n1 λ_=>rfl) (bf X G a) n_i n_n n_u) (F.binds λ_ _ _ _ _ _=>n1 λ_=>rfl);obtain⟨f,d,a,F⟩:=D35;have x35:=mkC (base:=base) X G F a (o35 (P:=l.prog) (w:=w) F (F.binds λ_ _ _ _ _ _=>n2 λ_ _=>rfl) (bf X G a) n_i n_n n_t) (F.binds λ_ _ _ _ _ _=>n2 λ_ _=>rfl);obtain⟨f,d,a,F⟩:=D36;have x36:=mkC (base:=base) X G F a (o36 (P:=l.prog) (w:=w) F) (F.binds λ_ _ _ _ _ _=>n3 λ_ _ _=>rfl);obtain⟨f,d,a,F⟩:=D37;have x37:=mkC (base:=base) X G F a (o37 (P:=l.prog) (w:=w) F x36) (F.binds λ_ _ _ _ _ _=>n3 λ_ _ _=>rfl);obtain⟨f,d,a,F⟩:=D38;have x38:=mkC (base:=base) X G F a (o38 (P:=l.prog) (w:=w) F) (F.binds λ_ _ _ _ _ _=>n4 λ_ _ _ _=>rfl);obtain⟨f,d,a,F⟩:=D39;have x39:=mkC (base:=base) X G F a (o39 (P:=l.prog) (w:=w) F x38 x37 x32 x34 n_r n_e n_l) (F.binds λ_ _ _ _ _ _=>n4 λ_ _ _ _=>rfl);obtain⟨f,d,a,F⟩:=D40;have x40:=mkC (base:=base) X G F a (o40 (P:=l.prog) (w:=w) F x34 n_l n_m) (F.binds λ_ _ _ _ _ _=>n4 λ_ _ _ _=>rfl);obtain⟨f,d,a,F⟩:=D41;have x41:=mkC (base:=base) X G F a (o41 (P:=l.prog) (w:=w) F x35 (F.binds λ_ _ _ _ _ _=>n3 λ_ _ _=>rfl) (bf X G a) n_t) (F.binds λ_ _ _ _ _ _=>n3 λ_ _ _=>rfl);obtain⟨f,d,a,F⟩:=D42;have x42:=mkC (base:=base) X G F a (o42 (P:=l.prog) (w:=w) F (F.binds λ_ _ _ _ _ _=>n3 λ_ _ _=>rfl) (bf X G a) x35 n_t) (F.binds λ_ _ _ _ _ _=>n3 λ_ _ _=>rfl);obtain⟨f,d,a,F⟩:=D43;have x43:=mkC (base:=base) X G F a (o43 (P:=l.prog) (w:=w) F (F.binds λ_ _ _ _ _ _=>n3 λ_ _ _=>rfl) (bf X G a) n_i n_n n_z n_l) (F.binds λ_ _ _ _ _ _=>n3 λ_ _ _=>rfl);obtain⟨f,d,a,F⟩:=D44;have x44:=mkC (base:=base) X G F a (o44 (P:=l.prog) (w:=w) F (F.binds λ_ _ _ _ _ _=>n3 λ_ _ _=>rfl) (bf X G a)) (F.binds λ_ _ _ _ _ _=>n3 λ_ _ _=>rfl);obtain⟨f,d,a,F⟩:=D45;have x45:=mkC (base:=base) X G F a (o45 (P:=l.prog) (w:=w) F (F.binds λ_ _ _ _ _ _=>n1 λ_=>rfl) (bf X G a) n_e) (F.binds λ_ _ _ _ _ _=>n1 λ_=>rfl);obtain⟨f,d,a,F⟩:=D46;have x46:=mkC (base:=base) X G F a (o46 (P:=l.prog) (w:=w) F) (F.binds λ_ _ _ _ _ _=>n2 λ_ _=>rfl);obtain⟨f,d,a,F⟩:=D47;have x47:=mkC (base:=base) X G F a (o47 (P:=l.prog) (w:=w) F x45 x43 x44 x46 x34 n_l n_r n_t) (F.binds λ_ _ _ _ _ _=>n4 λ_ _ _ _=>rfl);obtain⟨f,d,a,F⟩:=D48;have x48:=mkC (base:=base) X G F a (o48 (P:=l.prog) (w:=w) F x25 x20 n_l) (F.binds λ_ _ _ _ _ _=>n3 λ_ _ _=>rfl);obtain⟨f,d,a,F⟩:=D49;have x49:=mkC (base:=base) X G F a (o49 (P:=l.prog) (w:=w) F x48 x42 x47 n_l) (F.binds λ_ _ _ _ _ _=>n5 λ_ _ _ _ _=>rfl);obtain⟨f,d,a,F⟩:=D50;have x50:=mkC (base:=base) X G F a (o50 (P:=l.prog) (w:=w) F x42 n_i n_t n_l n_s) (F.binds λ_ _ _ _ _ _=>n2 λ_ _=>rfl);obtain⟨f,d,a,F⟩:=D51;have x51:=mkC (base:=base) X G F a (o51 (P:=l.prog) (w:=w) F x50 n_l n_i n_t) (F.binds λ_ _ _ _ _ _=>n5 λ_ _ _ _ _=>rfl);obtain⟨f,d,a,F⟩:=D52;have x52:=mkC (base:=base) X G F a (o52 (P:=l.prog) (w:=w) F (F.binds λ_ _ _ _ _ _=>n3 λ_ _ _=>rfl) (bf X G a) n_i n_n n_t) (F.binds λ_ _ _ _ _ _=>n3 λ_ _ _=>rfl);exact o53 F53 x33 x39 x41 x49 x51 x32 x40 x31 x52 n_v 200
theorem walk{l:iz}{q:aE}{loose:List Str}{XP:(Str→Option Value)→Heap→Prop}{YP:aC→Heap→Prop}{d:DefRec}{K:fL→aj}(hn:l.most=ae 63) (hdf:d.params.defaults=[])
  (hY:∀(w:aC) (h:Heap),YP w h→(K w.params).In h)
  (F:∀(w:aC) (mg:Str→Option Value) (fa:Addr) (h:Heap),(K w.params).In h→h.Ns aL mg→mg d.name=ae (.ref fa)→
   ∃fd:bG,(∀(s:ah) (u:Value),d5 s fd ⟨[u],[]⟩ [("script",u)])∧ ∀base:Heap,(K w.params).In base→base.Ns aL mg→FnOk l.prog w (K w.params) mg base (CX1 l.prog w) 200 fa fd ["script"] (zdn (K w.params) (zdH 200))) :
  kw q loose XP YP l.row.toRowW d [] (λf vs=>gu f vs):=
 L2.zvP (n:=63) (k:=200) (x:= "script") (CX:=λw=>CX1 l.prog w) (sp:=λw=>zdn (K w.params) (zdH 200)) hn (by decide) hdf ⟨rfl,by decide,by decide⟩ hY F (λw H a ns hl hO hS=>ztb hO hS (zyf ns hl)) λ_ _ _ _ _ ⟨_,_,_,_,_,_,_,_,_,z⟩=>z
end K47
namespace PySem.W.Fast
def tw10071397912612989055:=Nat
def tw10071967554673933405:=Nat
def tw10214538922517087013:=Nat
def tw10222708760174897782:=Nat
def tw10230400847987888939:=Nat
def tw10243547270506447538:=Nat
def tw10284995620881418892:=Nat
def tw1039561959864555890:=Nat
def tw10515041617305489285:=Nat
def tw10590440213673308584:=Nat
def tw10617467007186051386:=Nat
def tw10621553511892430176:=Nat
def tw10639741878857192234:=Nat
def tw10639954042072687872:=Nat
def tw10644450358242493204:=Nat
def tw10752139885070612236:=Nat
def tw10827158068058705698:=Nat
def tw10828941158596968322:=Nat
def tw10902587702566983525:=Nat
def tw1095069866843122700:=Nat
def tw11008766732173309839:=Nat
def tw11033759766617052170:=Nat
def tw11039441622317772228:=Nat
def tw11085953304025150499:=Nat
def tw11098028910978212984:=Nat
def tw11122312378988047280:=Nat
def tw11220878877127933922:=Nat
def tw11249867229662090614:=Nat
def tw112631506233209472:=Nat
def tw112711336038280780:=Nat
def tw11310287920921666515:=Nat
def tw11401021789360010771:=Nat
def tw11473094812855437445:=Nat
def tw11479904256142512562:=Nat
def tw11599732533139030250:=Nat
def tw11755533029079555786:=Nat
def tw11756488918833249847:=Nat
def tw11851642979020598066:=Nat
def tw11866018508766325361:=Nat
def tw11867282832342015308:=Nat
def tw11943885660584431339:=Nat
def tw11948320985804597913:=Nat
def tw11961875267518306278:=Nat
def tw12014083855308730555:=Nat
def tw1206629800813152696:=Nat
def tw12115313705765442179:=Nat
def tw12173297835867745894:=Nat
def tw12188436333854517991:=Nat
def tw12206160316224935963:=Nat
def tw12281344317177756169:=Nat
def tw12282354521138568588:=Nat
def tw1228938727059744209:=Nat
def tw12307271611356060130:=Nat
def tw123333343057051113:=Nat
def tw12459758717789029037:=Nat
def tw12481157671620088765:=Nat
def tw12737747084938732608:=Nat
def tw12810975522078865132:=Nat
def tw13068174219678145222:=Nat
def tw13071010529921998704:=Nat
def tw13290761292993403865:=Nat
def tw13297786305503498277:=Nat
def tw1345250755121884243:=Nat
def tw135289657184689772:=Nat
def tw1371809725347546352:=Nat
def tw13719595575953803490:=Nat
def tw13793887072821671288:=Nat
def tw13845775986857250193:=Nat
def tw13894230041877659149:=Nat
def tw13925692217581991171:=Nat
def tw13997235123743045107:=Nat
def tw14228697787223646842:=Nat
def tw14257720416797203919:=Nat
def tw14274513552455508044:=Nat
def tw14280410496850212589:=Nat
def tw14283096364681088450:=Nat
def tw14285236112457855849:=Nat
def tw14323595585130473362:=Nat
def tw14379844359255421650:=Nat
def tw14424805327434544486:=Nat
def tw14473852426431638394:=Nat
def tw14475836697326321467:=Nat
def tw14482205851713529522:=Nat
def tw14608752199227942166:=Nat
def tw14773777141799660507:=Nat
def tw14837399977270095810:=Nat
def tw14899574339833275982:=Nat
def tw15092259675898239803:=Nat
def tw15186702051046605364:=Nat
def tw1540286970516668299:=Nat
def tw15475185083034876071:=Nat
def tw15503172593861560879:=Nat
def tw15550691789708269387:=Nat
def tw15578274593025299430:=Nat
def tw15734119668253765007:=Nat
def tw15781625062782612388:=Nat
def tw15787342887211394799:=Nat
def tw15793656347622524423:=Nat
def tw15848440095026799220:=Nat
def tw15879178397396317054:=Nat
def tw15913227055755573798:=Nat
def tw15956512326474770023:=Nat
def tw15980355847265499880:=Nat
def tw15998047787941941265:=Nat
def tw16009450936885516567:=Nat
def tw16014597875299295815:=Nat
def tw16014696048280567157:=Nat
def tw16146800794466016359:=Nat
def tw16158610332557185274:=Nat
def tw16166316319712008552:=Nat
def tw1625003350026280587:=Nat
def tw16279766570818292250:=Nat
def tw16320799439805712548:=Nat
def tw1639754864440594858:=Nat
def tw1655399924749926098:=Nat
def tw16568332525306594721:=Nat
def tw1661390554876523308:=Nat
def tw16649180352306513095:=Nat
def tw16659034038305741937:=Nat
def tw17253372031629315922:=Nat
def tw17297278113117736642:=Nat
def tw17433845525564536996:=Nat
def tw17500967480590749522:=Nat
def tw17616279264097473459:=Nat
def tw17718371061135948501:=Nat
def tw17737488356492267065:=Nat
def tw17742318494124874267:=Nat
def tw17924273234717639679:=Nat
def tw17942209780962732209:=Nat
def tw17945239685149380748:=Nat
def tw18020107905713800493:=Nat
def tw18124557410516190412:=Nat
def tw18126551452803166193:=Nat
def tw18144943519727487460:=Nat
def tw18160697143613380274:=Nat
def tw18356986090007547605:=Nat
def tw1999274177209738436:=Nat
def tw2002521655514306119:=Nat
def tw2051530064647511154:=Nat
def tw2156493410485520515:=Nat
def tw2212724001072711034:=Nat
def tw2251422260793658504:=Nat
def tw2265032497541154972:=Nat
def tw2271276539555923642:=Nat
def tw2279202772428695699:=Nat
def tw2300941819804435767:=Nat
def tw2351322953489652626:=Nat
def tw2485622781621907666:=Nat
def tw2492956431684351553:=Nat
def tw2505483062394040025:=Nat
def tw2545306309289227290:=Nat
def tw2568995692930920015:=Nat
def tw2583480644849308809:=Nat
def tw2599655320711096104:=Nat
def tw2600929747216643347:=Nat
def tw2617268558838981632:=Nat
def tw267380073073774782:=Nat
def tw2685333258530665057:=Nat
def tw2717067561332308899:=Nat
def tw2782827798094855967:=Nat
def tw2874809469179969666:=Nat
def tw2903837272533384919:=Nat
def tw3027394964087837257:=Nat
def tw3085024151585245243:=Nat
def tw3146575765595940568:=Nat
def tw3202184101386164857:=Nat
def tw3218360213830064323:=Nat
def tw3424431663797157712:=Nat
def tw3449790546449038731:=Nat
def tw3463423284049235908:=Nat
def tw360157106330488076:=Nat
def tw3619517893814721714:=Nat
def tw3744105977777835984:=Nat
def tw378587509199230965:=Nat
def tw3810595267055155938:=Nat
def tw382273617544420550:=Nat
def tw3824199819400444878:=Nat
def tw3838683961274381280:=Nat
def tw388596233375207874:=Nat
def tw3931778939100944722:=Nat
def tw3942883350293621047:=Nat
def tw3947157806171373851:=Nat
def tw3991289466407579927:=Nat
def tw3994532038710421886:=Nat
def tw4005691159311110763:=Nat
def tw4063116038710268826:=Nat
def tw4074255322068580722:=Nat
def tw4122547536055060622:=Nat
def tw4123673330577616126:=Nat
def tw4157222900023653123:=Nat
def tw4178348556634721128:=Nat
def tw4507508717452554970:=Nat
def tw4553237761386964977:=Nat
def tw4588311418606383984:=Nat
def tw4725408156177033227:=Nat
def tw4817538151580457863:=Nat
def tw4888856109507463460:=Nat
def tw4895018807609992038:=Nat
def tw4906874363501522713:=Nat
def tw4934159854077148378:=Nat
def tw5036613759453444063:=Nat
def tw5046895158505320397:=Nat
def tw5066194435775013628:=Nat
def tw5081993969562183548:=Nat
def tw5083095927591926173:=Nat
def tw5200142707781630673:=Nat
def tw5218578014807516137:=Nat
def tw5632971255235984691:=Nat
def tw5756455243761446591:=Nat
def tw5766047494857649039:=Nat
def tw5886448566503489446:=Nat
def tw5931528695258999310:=Nat
def tw611993231467052436:=Nat
def tw6144222031918323855:=Nat
def tw6243692862320999092:=Nat
def tw6271324510325846483:=Nat
def tw6369402142216455122:=Nat
def tw644202958947660396:=Nat
def tw6448488691716390571:=Nat
def tw6554695601512376202:=Nat
def tw6798465968221052683:=Nat
def tw6844348472661478743:=Nat
def tw6858733238911646983:=Nat
def tw6878841075450565929:=Nat
def tw6902427930710290337:=Nat
def tw6936279955221251679:=Nat
def tw7034416302272756708:=Nat
def tw730632103280855659:=Nat
def tw7396843847663882577:=Nat
def tw7409927082494434193:=Nat
def tw7448896424865236469:=Nat
def tw7472660526855200816:=Nat
def tw7479867627026261538:=Nat
def tw748195675637688604:=Nat
def tw7498522376204064528:=Nat
def tw7549200978924465279:=Nat
def tw7560140246168708391:=Nat
def tw768636827128260966:=Nat
def tw7825742249419006802:=Nat
def tw7857149690972030814:=Nat
def tw8234027003063694676:=Nat
def tw8721488437676222600:=Nat
def tw8769977672474312844:=Nat
def tw8848159929066666647:=Nat
def tw8867350395008090470:=Nat
def tw8868048907954276766:=Nat
def tw8909311449374023228:=Nat
def tw8926316773963085287:=Nat
def tw9025720807614338186:=Nat
def tw9075593368460600389:=Nat
def tw9100908974695078328:=Nat
def tw9148438812542368685:=Nat
def tw9201415533378040065:=Nat
def tw9221313512904947157:=Nat
def tw9294058253294211887:=Nat
def tw9374127455659229659:=Nat
def tw9386511384400741589:=Nat
def tw9429332424790094261:=Nat
def tw9490973099723201880:=Nat
def tw9538511585063830522:=Nat
def tw966800457850496710:=Nat
def tw9802383316656200439:=Nat
def tw9873872719851394992:=Nat
def tw9915037748678659565:=Nat
end PySem.W.Fast
open PySem PySem.W PyProof.Rows
set_option maxRecDepth 100000 in
set_option maxHeartbeats 0 in
theorem PySem.Challenge.cw_turnweave_k47_whole_winding_holds : PySem.Challenge.rw_turnweave_k47_whole_winding.Holds := by
 w_on;o_law;k_head;(case hw=>w_witness2)
 k_fill
 refine K47.walk (l:=PySem.Challenge.rw_turnweave_k47_whole_winding) rfl rfl (λw h Y=>PySem.W.kIn_of Y) ?F
 case F=>
  intro w mg fa h KX G hmg
  refine' K47.all_mk KX G hmg (K47.dfn ?_ ?_ ?_ ?_) (K47.dfn ?_ ?_ ?_ ?_) (K47.dfn ?_ ?_ ?_ ?_) (K47.dfn ?_ ?_ ?_ ?_) (K47.dfn ?_ ?_ ?_ ?_) (K47.dfn ?_ ?_ ?_ ?_) (K47.dfn ?_ ?_ ?_ ?_) (K47.dfn ?_ ?_ ?_ ?_) (K47.dfn ?_ ?_ ?_ ?_) (K47.dfn ?_ ?_ ?_ ?_) (K47.dfn ?_ ?_ ?_ ?_) (K47.dfn ?_ ?_ ?_ ?_) (K47.dfn ?_ ?_ ?_ ?_) (K47.dfn ?_ ?_ ?_ ?_) (K47.dfn ?_ ?_ ?_ ?_) (K47.dfn ?_ ?_ ?_ ?_) (K47.dfn ?_ ?_ ?_ ?_) (K47.dfn ?_ ?_ ?_ ?_) (K47.dfn ?_ ?_ ?_ ?_) (K47.dfn ?_ ?_ ?_ ?_) (K47.dfn ?_ ?_ ?_ ?_) (K47.dfn ?_ ?_ ?_ ?_) (K47.dfn ?_ ?_ ?_ ?_) (K47.dfn ?_ ?_ ?_ ?_) (K47.dfn ?_ ?_ ?_ ?_) (K47.dfn ?_ ?_ ?_ ?_) (K47.dfn ?_ ?_ ?_ ?_) (K47.dfn ?_ ?_ ?_ ?_) (K47.dfn ?_ ?_ ?_ ?_) (K47.dfn ?_ ?_ ?_ ?_) (K47.dfn ?_ ?_ ?_ ?_) (K47.dfn ?_ ?_ ?_ ?_) (K47.dfn ?_ ?_ ?_ ?_) (K47.dfn ?_ ?_ ?_ ?_) (K47.dfn ?_ ?_ ?_ ?_) (K47.dfn ?_ ?_ ?_ ?_) (K47.dfn ?_ ?_ ?_ ?_) (K47.dfn ?_ ?_ ?_ ?_) (K47.dfn ?_ ?_ ?_ ?_) (K47.dfn ?_ ?_ ?_ ?_) (K47.dfn ?_ ?_ ?_ ?_) (K47.dfn ?_ ?_ ?_ ?_) (K47.dfn ?_ ?_ ?_ ?_) (K47.dfn ?_ ?_ ?_ ?_) (K47.dfn ?_ ?_ ?_ ?_) (K47.dfn ?_ ?_ ?_ ?_) (K47.dfn ?_ ?_ ?_ ?_) (K47.dfn ?_ ?_ ?_ ?_) (K47.dfn ?_ ?_ ?_ ?_) (K47.dfn ?_ ?_ ?_ ?_) (K47.dfn ?_ ?_ ?_ ?_) (K47.dfn ?_ ?_ ?_ ?_) (K47.dfn ?_ ?_ ?_ ?_) (K47.dfn ?_ ?_ ?_ ?_) ?_ ?_ ?_ ?_ ?_ ?_ ?_ ?_ ?_ ?_ ?_ ?_ ?_ ?_ ?_ ?_ ?_ ?_ ?_ ?_ ?_ ?_ ?_ ?_ ?_ ?_ ?_ ?_ ?_ ?_ ?_ ?_ ?_ ?_ ?_ ?_ ?_ ?_ ?_ ?_ ?_ ?_ ?_ ?_ ?_<;>first |k_is |kit_is | (dsimp only[List.map];kit_is) |kts_exm | (delta L2.bmV;k_exc) |skip
end
