import PyProof.Rows.All
import Wide.All
import OpenK.AllK
import Wide.FinOn
import Lean
import PyProof.EqAt
import PyProof.EqKinds
import PyProof.TupleCall
import PyProof.NeKinds
import PyProof.ListMulRoad
import PyProof.AttrMissHeap
import KE.KDictOf
import KE.KRevIter
import PyProof.ListRange
import KE.KSortTup
import KE.KMinKey
import PyProof.MinMaxWalk
import PyProof.Rows.CallKwBuiltin
import PyProof.Rows.SetFrom
import PyProof.Rows.SeqMore
import PySem.Challenge.RW_turnweave_k46_valleys
open Option renaming some→ae,isSome_iff_exists→dr,getD_some→dt,map_some→eF,getD_none→gd,isSome_map→iv,some→kg
open PySem renaming Shared→ah,wpAny_bind→ak,wpAny→am,starEach→ao,model→ap,eval→ay,World→aB,Pos→aC,wpAny_pure→aD,Program→aE,mainGlobals→aL,Paired→aM,Around→aN,backTo→aP,Tok→bg,Env→bt,wpAny_field→bA,FuncData→bC,compareOp→bF,IsPair→bI,binaryOp→bM,NameKind→bN,bootBuiltins→bP,Keyword→bQ,tupleKind→bS,pyNext→bT,Builtin→bU,Sem→bW,IsZip→b3,assignEach→b9,wpAny_setField_rec→cf,wpAny_mono→cg,rawInt→cj,sysModules→cr,attributeBase→cw,IsPart→cy,IsEnum→cM,wpAny_seqItems→cU,bindC→cX,bindL→cY,swapsWith→c7,wpAny_call_entry→c8,behindInMarks→de,wpAny_callSpecial?_slot→df,pyIter→dh,atKey→di,callerA→dj,keywordEach→dm,sliceBounds→dq,getItem→du,sizeLine_eq→dw,CmpOp→dy,wpAny_passesOwn→dD,codeAny→dJ,foldedSetIterable→dL,backToKw→dM,wpAny_newObj_type→dO,call_meets→dP,mem_of_lookup→dQ,Walks→dS,valueAt→d_,BindsTo→er,wpAny_rule→eC,typeOf→eI,PlainAttrs→eR,wpAny_typeOf→eU,storedH→eW,PassesOwn→e_,Params→fx,wpAny_holding→fE,wpAny_attempt→fG,wpAny_letGo→fJ,preSum→fL,post_val_or_str→fM,letOwnedTupleGo→fQ,Operator→fR,tupleKind_room_in1→fS,wpAny_execs_nil→fT,wpAny_onRaise→fY,wpAny_pyIter_list→f9,wpAny_getItem_str_slice→gc,storeName→gi,builtinsNs→gj,typeIs_int→gm,typeLookup→gn,concat_meets→gz,ZipApart→gB,codeAny_mono→gD,wpAny_Call_Name_kw→gE,call→gH,IsEnumOut→gJ,wpAny_Name→gO,wpAny_updateSeq_pair→gV,wpAny_truthy_bool→gX,seq_tuple_add→g_,cellsFrom→h9,pick_run→i',noFill_tuple_add→ij,sliceRange_one→ir,typeIs_str→iz,wpAny_sequenceKey→iF,wpAny_assign_Name→iH,wpAny_setField→i8,wpAny_pyIter_tuple→jh,wpAny_loadName_local→jq,codeAny_builtin→jC,wpAny_pyIter_enum→jD,getattributeRaised→jL,wpAny_newTuple→jM,firstArgMember→jO,isSubtype_stop→jS,slot_list_getitem→j3,wpAny_loadName_cell→j6,wpAny_execs_cons→j_,wpAny_isInstance→kq,wpAny_pyIter_zip→ku
open Or renaming inl→ai,inr→cx
open PySem.W renaming Frag→aj,nsIn→aZ,mg_of→bb,findIn→bO,mg_none_of→b4,kia_one→ci,mroIn→cS,fnOf→dG,excIn→eB,keepIn→eL,hideAll→eV,kitOne→eX,hideAll_none→fP,codeIn→fW,lookIn→gq,hideAll_get→gG,of_hideAll→gN,methodObj→gW,instObj→gZ,OpenLaw→iu,cellsFrom_some→iU,kitx_list→iX,kitx_dict→i0,plainGet→jN,WalkO→kj
open List renaming length_map→aq,mem_cons→az,map_cons→aA,mem_map→aI,mem_cons_of_mem→aK,replicate→aO,size_toArray→aQ,length_cons→aR,length_append→aS,range→aU,mem_of_getElem?→aX,mem_cons_self→a0,nil_append→a8,getElem?_eq_getElem→a9,mem_singleton→bf,map_map→bn,getD_eq_getElem?_getD→bo,Nodup→bp,getElem?_map→bq,mem_append→bu,not_mem_nil→bx,map_append→bE,find?_cons→bG,append_nil→bJ,length_singleton→bK,lookup_cons→b7,replicate_succ→b_,getElem?_eq_some_iff→ca,mem_append_right→ck,map_nil→cm,append_assoc→cp,length_drop→cA,map_congr_left→cF,any_cons→cG,length_take→cJ,mem_of_find?_eq_some→cK,all_eq_true→cZ,length_nil→c5,take_of_length_le→c_,nodup_cons→da,drop_zero→dc,length→dA,isPrefixOf_iff_prefix→dB,flatten_cons→dI,cons_append→dR,foldl_cons→dU,findSome?_cons→d6,getElem?_cons_succ→eD,length_pos_iff→eG,drop_of_length_le→eM,flatMap_cons→eN,drop_eq_getElem_cons→eP,mem_range→eS,set_cons_zero→fF,set_cons_succ→fK,getElem?_range→fU,filterMap_cons→f_,getElem_mem→gb,getElem?_of_mem→gg,mem_of_mem_drop→gp,flatMap_nil→gr,forIn_cons→gx,getElem?_append_right→gA,lookup→gF,length_replicate→gL,zip_cons_cons→gT,range_succ_eq_map→gU,range_succ→hU,of_mem_zip→h_,mem_filterMap→ia,mem_filter→ig,mem_of_mem_take→iq,take_length→iw,foldl→iy,length_range→iA,getElem?_drop→iB,take_sublist→iL,mem_flatMap→iM,take_add→iN,getElem?_replicate→iQ,take_append_drop→iR,nodup_append→iV,sum_cons→iW,filter_append→i6,eq_nil_of_length_eq_zero→i7,filter_cons_of_neg→i9,take_succ→j',zipIdx_nil→je,countP_cons_of_neg→jg,any_eq_true→jj,take_zero→jk,countP_cons→jm,getElem_of_mem→jo,countP_cons_of_pos→jr,forIn_nil→ju,countP_le_length→jA,nodup_range→jB,Pairwise→jG,mem_append_left→jI,mem_or_eq_of_mem_set→jJ,zipIdx_cons→jK,getElem?_set_self→jP,getElem?_set_ne→jU,drop_drop→jV,nodup_nil→jX,getElem?_append_left→j9,flatMap_def→ki,flatMap_append→kl,find?_some→kr,getElem?_cons_zero→kw,isEmpty_nil→kx,map_drop→kz,map_take→kA
open Nat renaming le_refl→au,le_trans→aW,zero_le→aY,ne_of_lt→br,lt_of_lt_of_le→bH,zero_add→b5,ne_of_gt→cD,lt_irrefl→cE,pow_le_pow_right→db,mul_le_mul_right→dn,add_comm→dW,mul_le_mul_left→dY,sub_zero→eA,eq_zero_or_pos→eQ,add_zero→eZ,le_of_eq→fh,le_add_right→fi,mul_add→fv,sub_self→gu,mul_assoc→gv,min_eq_left→io,le_of_lt→ip,min_eq_right→iK,le_of_not_lt→i4,add_assoc→jE,le_mul_of_pos_left→jY,le_mul_of_pos_right→kB
open Option.some renaming inj→aG,injEq→bB
open PySem.Heap renaming get?_push_of_some→aH,lt_size→aJ,get?_push_size→bi,SameBut→b8,size_push→cL,ExtBut→ib
open PySem.NameKind renaming free→aT,cell→cq
open PySem.Value renaming ref→a_,none→cb,bool→dN,str→fe,int→fH,type→ix,isStrOf→iC
open PySem.Str renaming ofString→bh,join→cN,empty→gP,length→ik
open Ne renaming symm→bj
open Bool renaming and_eq_true→bR,false_ne_true→cT,false_eq_true→dC,eq_iff_iff→fD,and_false→fV,or_eq_true→iG,not_true→jf,false_or→jp,or_false→jx,not_false→kc,true_and→kf
open Int renaming toNat_natCast→bV,toNat_of_nonneg→cI,emod_nonneg→cO,emod_lt_of_pos→cV
open PyProof.Rows renaming AllBare→b6,envOfC→cn,boot_int→dg,slot_tuple_getitem→d7,IsTup→eE,IntsAre→eY,callWith_type1→fu,boot_tuple→fB,slicePart_none→iJ,subscriptTail_builtinR→iS,boot_list→i3,entry_tuple_getitem→jQ,args_tuple_getitem→jW
open False renaming elim→cc
open PySem.Txt renaming slice→cu,upper→dF
open PySem.Builtin.SmallTypes renaming nextOf→cB,ownedTupleIsFree→d9,ownedTupleHandOut→fj
open True renaming intro→cQ
open PySem.Builtin.Str renaming occurrences→cR,strSliceIndices→fN
open Sum renaming inr→c6
open PySem.Paired renaming length→dH
open PySem.SeqAt renaming EqAt→d5,RcNeAt→eK,RcAt→eO
open ForInStep renaming yield→d8
open PySem.Builtin.List renaming listTooLong→eg
open Eq renaming trans→eT
open PySem.F renaming slot_enumerate_next→fy,slot_zip_next→fI,slot_tuple_iterator_next→fO,slot_dict_get→gh,args_tuple_add_2→gl,entry_tuple_add→gy,slot_tuple_add→gY,slot_list_getattribute→im,entry_zip_next→iD,args_list_extend_2→iE,slot_list_extend→iP,entry_tuple_iterator_next→iZ,plainAttrs_list→i5,entry_dict_get→i_,args_dict_get_3→jd,excBase_ValueError→jF,entry_enumerate_next→jR,plainAttrs_str→jZ,entry_list_extend→j5,args_enumerate_next_1→j7,args_zip_next_1→kh,slot_int_rmul→km,args_tuple_iterator_next_1→ko
open LawfulBEq renaming eq_of_beq→fX
open PySem.Builtin.Tuple renaming tupleExact→fZ,tupleItemsOf→j4
open LawfulMonad renaming pure_bind→ge
open PySem.Builtin.Slice renaming slicePlaces→gf,sliceAdjust→gk,sliceApplied→iT
open Sum.inl renaming inj→gw
open Array renaming length_toList→gK,toList_append→ic,append_assoc→jH
open PyProof.Rows.IsTup renaming new→gM
open PySem.Calls renaming spliced_cons→gQ,callWith_builtin→g9,evalArgs_plain→ii,spliced_nil→jb,Name_function_global→jn
open Prod renaming snd→gR
open PySem.Obj renaming mapSeq→gS,data_mapFields→ke
open Function renaming comp→hZ
open PySem.AutoSeq1 renaming wpAny_loadPart'→iI
open PySem.Builtin.Dict renaming updateFrom→iO
open List.cons renaming injEq→iY
open Prod.mk renaming injEq→ja
open PySem.Heap.SameBut renaming update→jc
open PySem.Around renaming under_plainId→jT
set_option Elab.async false
set_option compiler.extract_closed false
set_option linter.all false
set_option maxRecDepth 100000
set_option maxHeartbeats 4000000
section
namespace L2
open PySem PySem.Spec PyProof.Rows
abbrev Key:=Sum Int Str
noncomputable def znV:Key→Value→Bool
 | .inl k,v=>Value.isInt k v
 | .inr x,v=>iC x v
noncomputable def zAo (w:aB):Key→Int
 | .inl k=>hashInt k
 | .inr x=>hashStr w x
theorem zbo:∀{k:Key}{v:Value},znV k v=true→(∃i t,k=Sum.inl i∧v=fH i t)∨(∃x t,k=c6 x∧v=fe x t)
 | .inl i,v,h=>by
  obtain⟨t,e⟩:=Value.isInt_shape (k:=i) (v:=v) h;exact .inl ⟨i,t,rfl,e⟩
 | .inr x,v,h=>by
  obtain⟨t,e⟩:=Value.isStrOf_shape (x:=x) (v:=v) h;exact .inr ⟨x,t,rfl,e⟩
theorem zph (i:Int) (t:bg):znV (.inl i) (.int i t)=true:=by simp [znV,Value.isInt]
theorem zqm (x:Str) (t:bg):znV (.inr x) (.str x t)=true:=by simp [znV,iC]
theorem zxM (a b:Int):decide ((Sum.inl a:Key)=Sum.inl b)=(a == b):=by
 by_cases e:a=b
 ·subst e;simp
 ·have h:¬(Sum.inl a:Key)=Sum.inl b:=λq=>e (gw q);rw[decide_eq_false h];exact(beq_eq_false_iff_ne.mpr e).symm
theorem zwc (a b:Str):decide ((c6 a:Key)=c6 b)=decide (a=b):=by
 by_cases e:a=b
 ·subst e;simp
 ·have h:¬(c6 a:Key)=c6 b:=λq=>e (c6.inj q);rw[decide_eq_false h,decide_eq_false e]
theorem zxQ (a:Int) (b:Str):decide ((Sum.inl a:Key)=c6 b)=false:=decide_eq_false (λq=>nomatch q)
theorem zwO (a:Str) (b:Int):decide ((c6 a:Key)=Sum.inl b)=false:=decide_eq_false (λq=>nomatch q)
noncomputable def zaX (prog:aE) (w:aB):PySem.KeyKind prog w Key where
  is:=znV
  hash:=zAo w
  inj:=λv a b ha hb=>by
    rcases zbo ha with⟨i,t,rfl,rfl⟩ |⟨x,t,rfl,rfl⟩
    · rcases zbo hb with⟨j,u,rfl,e⟩ |⟨y,u,rfl,e⟩
      · injection e with e1 _;rw[e1]
      · exact nomatch e
    · rcases zbo hb with⟨j,u,rfl,e⟩ |⟨y,u,rfl,e⟩
      · exact nomatch e
      · injection e with e1 _;rw[e1]
  byValue:=λk v h=>by
    rcases zbo h with⟨i,t,rfl,rfl⟩ |⟨x,t,rfl,rfl⟩<;>rfl
  pyHash:=λhv h=>by
    rcases zbo hv with⟨i,t,rfl,rfl⟩ |⟨x,t,rfl,rfl⟩
    · exact wpAny_pyHash_int h
    · exact wpAny_pyHash_str h
  eqBool:=λhu hv h=>by
    rcases zbo hu with⟨i,t,rfl,rfl⟩ |⟨x,t,rfl,rfl⟩
    · rcases zbo hv with⟨j,u,rfl,rfl⟩ |⟨y,u,rfl,rfl⟩
      · rw[zxM]at h;exact wpAny_eqBool_int h
      · rw[zxQ]at h;exact d5.int_str i t y u _ _ _ _ h
    · rcases zbo hv with⟨j,u,rfl,rfl⟩ |⟨y,u,rfl,rfl⟩
      · rw[zwO]at h;exact d5.str_int x t j u _ _ _ _ h
      · rw[zwc]at h;exact wpAny_eqBool_str h
  «strs» :=λk x t v h=>by
    rcases zbo h with⟨i,u,rfl,e⟩ |⟨y,u,rfl,e⟩
    · exact nomatch e
    · injection e with e1 _;subst e1;cases v<;>rfl
theorem zlH (prog:aE) (w:aB) (i:Int) (t:bg):(zaX prog w).is (.inl i) (.int i t)=true:=zph i t
theorem zla (prog:aE) (w:aB) (x:Str) (t:bg):(zaX prog w).is (.inr x) (.str x t)=true:=zqm x t
inductive V where
  |non |bl (b:Bool) |int (i:Int) |str (x:Str) |byt (b:Array UInt8) |flt (b:UInt64) |ref (a:Addr) |ty (n:String)
  deriving DecidableEq
noncomputable def RelV:V→Value→Prop
 | .non,u=>u=cb
 | .bl b,u=>u=dN b
 | .int i,u=>∃t,u=fH i t
 | .str x,u=>∃t,u=fe x t
 | .byt b,u=>∃t,u=Value.bytes b t
 | .flt b,u=>∃t,u=Value.float b t
 | .ref a,u=>u=a_ a
 | .ty n,u=>u=ix n
noncomputable abbrev Vals:List V→List Value→Prop:=aM RelV
theorem Vals.length{xs:List V}{us:List Value}(r:Vals xs us):xs.length=us.length:=dH r
theorem Vals.get:∀{xs:List V}{us:List Value}{i:Nat}{x:V},Vals xs us→xs[i]? =ae x→ ∃u,us[i]? =ae u∧RelV x u
 |_,_,_,_, .nil,e=>by simp at e
 |_,_,0,_, .cons r _,e=>by simp at e;subst e;exact⟨_,rfl,r⟩
 |_,_,i+1,x, .cons _ t,e=>by
  obtain⟨u,h1,h2⟩:=Vals.get (i:=i) (x:=x) t (by simpa using e);exact⟨u,by simpa using h1,h2⟩
theorem Vals.append:∀{xs ys:List V}{us ws:List Value},Vals xs us→Vals ys ws→Vals (xs++ys) (us++ws)
 |_,_,_,_, .nil,s=>s
 |_,_,_,_, .cons r t,s=> .cons r (Vals.append t s)
theorem Vals.take:∀{xs:List V}{us:List Value}(n:Nat),Vals xs us→Vals (xs.take n) (us.take n)
 |_,_,0,_=> .nil
 |_,_,_+1, .nil=> .nil
 |_,_,n+1, .cons r t=> .cons r (Vals.take n t)
theorem Vals.drop:∀{xs:List V}{us:List Value}(n:Nat),Vals xs us→Vals (xs.drop n) (us.drop n)
 |_,_,0,r=>r
 |_,_,_+1, .nil=> .nil
 |_,_,n+1, .cons _ t=>Vals.drop n t
noncomputable def RelO:Option V→Option Value→Prop
 |some v,ae u=>RelV v u
 |none,none=>True
 |_,_=>False
def KV {κ:Type}:List (κ×V)→List (κ×Value)→Prop:=aM λ(p:κ×V) (q:κ×Value)=>p.1=q.1∧RelV p.2 q.2
noncomputable def kV:Key→V
 | .inl i=> .int i
 | .inr x=> .str x
inductive HO where
    |lst (xs:List V)
    |tup (xs:List V)
    |dK (kvs:List (Key×V)) |dT (kvs:List (List Key×V))
    |set (S:Int→Bool) (n:Nat)
    |ins (C dx:Addr) (fs:List (Str×V))
    |own (x:Addr)
    |xd (fs:List (Str×V))
    |met (f x:Addr)
    |rng (lo hi:Int)
    |frz (o:Obj) (u:HO)
    |tbl (ps:Array Value)
    |ext (φ:Heap→Prop)
abbrev Hp:=Addr→Option HO
noncomputable def upd (H:Hp) (a:Addr) (o:HO):Hp:=λb=>if b=a then ae o else H b
theorem zay{H:Hp}{a:Addr}{o:HO}:upd H a o a=ae o:=by unfold upd;rw[if_pos rfl]
theorem zaz{H:Hp}{a b:Addr}{o:HO}(h:b≠a):upd H a o b=H b:=by unfold upd;rw[if_neg h]
theorem zqg{H:Hp}{a b:Addr}{o u:HO}(h:H a=ae o) (h':H b=ae u) (d:o≠u):a≠b:=by
 intro e;subst e;rw[h]at h';exact d (aG h')
theorem zau{H:Hp}{a b:Addr}{o:HO}(h:H a=ae o) (h':H b=none):a≠b:=by
 intro e;subst e;rw[h]at h';cases h'
section
variable (P:aE) (w:aB)
noncomputable def ObjOk (H:Hp) (h:Heap) (a:Addr):HO→Prop
 | .lst xs=>xs.length≤sizeLine∧ ∃(its:List Value) (n:Nat),Vals xs its∧h.get? a=ae { cls:= .type "list",data:= .seq its.toArray n }
 | .tup xs=>xs.length≤sizeLine∧ ∃its:List Value,Vals xs its∧eE h a its.toArray
 | .dK kvs=>kvs.length≤sizeLine∧(a == cr)=false∧ ∃vs,KV kvs vs∧h.DictOf (zaX P w) a vs
 | .dT kvs=>kvs.length≤sizeLine∧(a == cr)=false∧ ∃xs:List (List Key×Addr×Value),
   aM (λ(p:List Key×V) (q:List Key×Addr×Value)=>p.1=q.1∧H q.2.1=ae (.tup (p.1.map kV))∧RelV p.2 q.2.2) kvs xs∧
   ∃o es ep,h.get? a=ae o∧o.ExactDict∧o.data= .dict es ep∧es.toList=xs.map (entryOfKey (bS (zaX P w)))∧(xs.map (·.1)).Nodup
 | .set S n=>h.SetOf (intKind P w) a S n
 | .ins C dx fs=>H dx=ae (.own a)∧fs.length≤1000∧dx≠a∧h.get? a=ae (gZ C dx)∧
   ∃mA,h.Ns1 dx mA∧(∀f,RelO (fs.lookup f) (mA f))∧PySem.Within mA (fs.map (·.1))
 | .own _=>∃o,h.get? a=ae o
 | .xd fs=>∃mA,h.Ns1 a mA∧ ∀f,RelO (fs.lookup f) (mA f)
 | .rng lo hi=>∃t u v,h.get? a=ae { cls:= .type "range",data:= .fields #[.int lo t, .int hi u, .int 1 v] }
 | .frz o u=>h.get? a=ae o∧ObjOk H h a u
 | .tbl ps=>h.get? a=ae { cls:= .none,data:= .fields ps }
 | .met f x=>h.get? a=ae (gW (.ref f) (.ref x))
 | .ext φ=>φ h∧(∃o,h.get? a=ae o)∧ ∀h1 h2:Heap,φ h1→(∀o,h1.get? a=ae o→h2.get? a=ae o)→φ h2
def HOk (H:Hp) (h:Heap):Prop:=∀a o,H a=ae o→ObjOk P w H h a o
end
section
variable {P:aE}{w:aB}{H H':Hp}{h h':Heap}{a:Addr}{o:HO}
theorem ObjOk.lt (x:ObjOk P w H h a o):a<h.objs.size:=by
 cases o with
 |lst xs=>obtain⟨_,_,_,_,e⟩:=x;exact aJ e
 |tup xs=>obtain⟨_,_,_,p⟩:=x;exact p.lt
 |dK kvs=>obtain⟨_,_,_,_,o,_,_,e,_⟩:=x;exact aJ e
 |dT kvs=>obtain⟨_,_,_,_,o,_,_,e,_⟩:=x;exact aJ e
 |set S n=>obtain⟨o,_,_,_,e,_⟩:=x;exact aJ e
 |ins C dx fs=>obtain⟨_,_,_,e,_⟩:=x;exact aJ e
 |own y=>obtain⟨_,e⟩:=x;exact aJ e
 |xd fs=>obtain⟨_,⟨_,_,_,e,_⟩,_⟩:=x;exact aJ e
 |rng lo hi=>obtain⟨_,_,_,e⟩:=x;exact aJ e
 |frz ob u=>obtain⟨e,_⟩:=x;exact aJ e
 |tbl ps=>exact aJ (show h.get? a=ae _ from x)
 |met f y=>exact aJ (show h.get? a=ae _ from x)
 |ext φ=>obtain⟨_,⟨_,e⟩,_⟩:=x;exact aJ e
theorem Paired.mapP{α β:Type}{F G:α→β→Prop}:∀{l₁:List α}{l₂:List β},aM F l₁ l₂→(∀a b,F a b→G a b)→aM G l₁ l₂
 |_,_, .nil,_=> .nil
 |_,_, .cons r t,f=> .cons (f _ _ r) (Paired.mapP t f)
theorem ObjOk.stay (x:ObjOk P w H h a o) (k:∀b u,(b=a∨H b=ae (.own a))→h.get? b=ae u→h'.get? b=ae u)
  (ho:∀b,H b=ae (.own a)→H' b=ae (.own a)) (ht:∀b xs,H b=ae (.tup xs)→H' b=ae (.tup xs)):ObjOk P w H' h' a o:=by
 induction o with
 |lst xs=>obtain⟨z,its,n,r,e⟩:=x;exact⟨z,its,n,r,k _ _ (.inl rfl) e⟩
 |tup xs=>obtain⟨z,its,r,ob,e,c⟩:=x;exact⟨z,its,r,ob,k _ _ (.inl rfl) e,c⟩
 |dK kvs=>obtain⟨z,y,vs,r,ob,es,ep,e,c⟩:=x;exact⟨z,y,vs,r,ob,es,ep,k _ _ (.inl rfl) e,c⟩
 |dT kvs=>
  obtain⟨z,y,xs,r,ob,es,ep,e,c⟩:=x;exact⟨z,y,xs,Paired.mapP r λp q z=>⟨z.1,ht _ _ z.2.1,z.2.2⟩,ob,es,ep,k _ _ (.inl rfl) e,c⟩
 |set S n=>obtain⟨ob,es,ep,t,e,c⟩:=x;exact⟨ob,es,ep,t,k _ _ (.inl rfl) e,c⟩
 |ins C dx fs=>
  obtain⟨d,z,ne,e,mA,⟨od,es,ep,e2,c⟩,r⟩:=x;exact⟨ho _ d,z,ne,k _ _ (.inl rfl) e,mA,⟨od,es,ep,k _ _ (.inr d) e2,c⟩,r⟩
 |own y=>obtain⟨ob,e⟩:=x;exact⟨ob,k _ _ (.inl rfl) e⟩
 |xd fs=>obtain⟨mA,⟨od,es,ep,e,c⟩,r⟩:=x;exact⟨mA,⟨od,es,ep,k _ _ (.inl rfl) e,c⟩,r⟩
 |rng lo hi=>obtain⟨t,u,v,e⟩:=x;exact⟨t,u,v,k _ _ (.inl rfl) e⟩
 |frz ob u ih=>obtain⟨e,q⟩:=x;exact⟨k _ _ (.inl rfl) e,ih q⟩
 |tbl ps=>
  have e:h.get? a=ae { cls:= .none,data:= .fields ps }:=x;show h'.get? a=ae { cls:= .none,data:= .fields ps };exact k a _ (.inl rfl) e
 |met f y=>
  have e:h.get? a=ae (gW (.ref f) (.ref y)):=x;show h'.get? a=ae (gW (.ref f) (.ref y));exact k a _ (.inl rfl) e
 |ext φ=>obtain⟨p,⟨o,e⟩,st⟩:=x;exact⟨st _ _ p λo q=>k _ _ (.inl rfl) q,⟨o,k _ _ (.inl rfl) e⟩,st⟩
theorem HOk.lt (x:HOk P w H h) (e:H a=ae o):a<h.objs.size:=(x a o e).lt
theorem HOk.fresh (x:HOk P w H h) (e:h.objs.size≤a):H a=none:=by
 cases q:H a with
 |none=>rfl
 |some u=>exact absurd (bH (x.lt q) e) (cE _)
theorem HOk.kept (x:HOk P w H h) (k:∀b u,h.get? b=ae u→h'.get? b=ae u):HOk P w H h':=λa o e=>
 (x a o e).stay (λb u _ q=>k b u q) (λ_ q=>q) λ_ _ q=>q
theorem HOk.laid (x:HOk P w H h) (k:∀b u,h.get? b=ae u→h'.get? b=ae u) (hp:h.objs.size≤a) (new:ObjOk P w (upd H a o) h' a o):HOk P w (upd H a o) h':=λb u e=>by
 have hn:=x.fresh hp;by_cases hb:b=a
 ·subst hb;rw[zay]at e;cases e;exact new
 ·rw[zaz hb]at e;exact(x b u e).stay (λc v _ q=>k c v q) (λc q=>by rw[zaz (zau q hn)];exact q) λc xs q=>by rw[zaz (zau q hn)];exact q
end
def Rd (H:Hp) (a:Addr) (u:HO):Prop:=H a=ae u∨ ∃o,H a=ae (.frz o u)
theorem Rd.ok{P:aE}{w:aB}{H:Hp}{h:Heap}{a:Addr}{u:HO}(r:Rd H a u) (x:HOk P w H h):ObjOk P w H h a u:=by
 rcases r with r |⟨o,r⟩
 ·exact x a u r
 ·obtain⟨_,q⟩:=x a _ r;exact q
noncomputable def Mut:Option HO→Prop
 |some (.lst _)=>True
 |some (.dK _)=>True
 |some (.dT _)=>True
 |some (.set _ _)=>True
 |some (.ins _ _ _)=>True
 |some (.ext _)=>True
 |_=>False
section
variable {P:aE}{w:aB}{H:Hp}{h h':Heap}{x e:Addr}{o':HO}
theorem HOk.write (ok:HOk P w H h) (mu:Mut (H x)) (he:e=x∨H e=ae (.own x)) (k:∀b u,b≠e→h.get? b=ae u→h'.get? b=ae u) (heo:∃u,h'.get? e=ae u)
  (new:ObjOk P w (upd H x o') h' x o'):HOk P w (upd H x o') h':=λb u q=>by
 have nown:∀c y,H c=ae (.own y)→c≠x:=λc y r z=>by subst z;rw[r]at mu;exact mu
 have ntup:∀c xs,H c=ae (.tup xs)→c≠x:=λc xs r z=>by subst z;rw[r]at mu;exact mu
 by_cases hb:b=x
 ·subst hb;rw[zay]at q;cases q;exact new
 ·rw[zaz hb]at q;by_cases hbe:b=e
  ·have q':H b=ae (.own x):=by
    rcases he with z |z
    ·exact absurd (hbe.trans z) hb
    ·rw[hbe];exact z
   rw[q]at q';cases q';obtain⟨v,hv⟩:=heo;exact⟨v,by rw[hbe];exact hv⟩
  ·refine(ok b u q).stay (λc v hc r=>k c v ?_ r) (λc r=>by rw[zaz (nown c b r)];exact r) λc xs r=>by rw[zaz (ntup c xs r)];exact r
   rcases hc with rfl |hc
   ·exact hbe
   ·rintro rfl;rcases he with z |z
    ·exact nown c b hc z
    ·rw[hc]at z;cases z;exact hb rfl
end
structure Un (fs ex:List Addr) (H H':Hp) (h h':Heap):Prop where
  keep:∀b o,h.get? b=ae o→H b=none→b∉fs→b∉ex→h'.get? b=ae o
  slot:∀b o,h.get? b=ae o→H b=none→b∈fs→b∉ex→ ∃sl,h'.get? b=ae { o with slots:=sl }
  free:∀b o,h.get? b=ae o→H b=none→b∉ex→H' b=none
  there:∀b o,h.get? b=ae o→b∉ex→ ∃o',h'.get? b=ae o'
  tups:∀b xs,H b=ae (.tup xs)→H' b=ae (.tup xs)
  frzs:∀b o u,H b=ae (.frz o u)→H' b=ae (.frz o u)
  tbls:∀b ps,H b=ae (.tbl ps)→ ∃more,H' b=ae (.tbl (ps++more))
section
variable {fs ex:List Addr}{H H1 H2:Hp}{h h1 h2 h':Heap}{a x e:Addr}{o:HO}
theorem Un.any (u:Un fs ex H H1 h h1) {b:Addr}{ob:Obj}(q:h.get? b=ae ob) (n:H b=none) (hx:b∉ex):∃sl,h1.get? b=ae { ob with slots:=sl }:=by
 by_cases hb:b∈fs
 ·exact u.slot b ob q n hb hx
 ·exact⟨ob.slots,u.keep b ob q n hb hx⟩
theorem Un.trans (a:Un fs ex H H1 h h1) (b:Un fs ex H1 H2 h1 h2):Un fs ex H H2 h h2 where
  keep:=λc ob q n hc hx=>b.keep c ob (a.keep c ob q n hc hx) (a.free c ob q n hx) hc hx
  slot:=λc ob q n hc hx=>by
    obtain⟨sl,e1⟩:=a.slot c ob q n hc hx;obtain⟨sl',e2⟩:=b.slot c _ e1 (a.free c ob q n hx) hc hx;exact⟨sl',e2⟩
  free:=λc ob q n hx=>by
    obtain⟨o',e1⟩:=a.there c ob q hx;exact b.free c o' e1 (a.free c ob q n hx) hx
  there:=λc ob q hx=>by
    obtain⟨o',e1⟩:=a.there c ob q hx;exact b.there c o' e1 hx
  tups:=λc xs q=>b.tups c xs (a.tups c xs q)
  frzs:=λc ob xs q=>b.frzs c ob xs (a.frzs c ob xs q)
  tbls:=λc ps q=>by
    obtain⟨m1,e1⟩:=a.tbls c ps q;obtain⟨m2,e2⟩:=b.tbls c _ e1;exact⟨m1++m2,by rw[e2,jH]⟩
theorem Un.kept (k:∀b u,h.get? b=ae u→h'.get? b=ae u):Un fs ex H H h h':=
 ⟨λb ob q _ _ _=>k b ob q,λb ob q _ _ _=>⟨ob.slots,k b ob q⟩,λ_ _ _ n _=>n,λb ob q _=>⟨ob,k b ob q⟩,λ_ _ q=>q,λ_ _ _ q=>q,λ_ ps q=>⟨#[],by rw[q];simp⟩⟩
theorem Un.refl:Un fs ex H H h h:=Un.kept λ_ _ q=>q
theorem Un.laid (k:∀b u,h.get? b=ae u→h'.get? b=ae u) (hp:h.objs.size≤a) (hn:H a=none):Un fs ex H (upd H a o) h h' where
  keep:=λb u q _ _ _=>k b u q
  slot:=λb u q _ _ _=>⟨u.slots,k b u q⟩
  free:=λb u q n _=>by rw[zaz (br (bH (aJ q) hp))];exact n
  there:=λb u q _=>⟨u,k b u q⟩
  tups:=λb xs q=>by rw[zaz (zau q hn)];exact q
  frzs:=λb u xs q=>by rw[zaz (zau q hn)];exact q
  tbls:=λb ps q=>⟨#[],by rw[zaz (zau q hn),q];simp⟩
theorem Un.write (mu:Mut (H x)) (he:e=x∨H e=ae (.own x)) (k:∀b u,b≠e→h.get? b=ae u→h'.get? b=ae u) (heo:∃u,h'.get? e=ae u):Un fs ex H (upd H x o) h h':=by
 have hx:∀b,H b=none→b≠x:=λb n z=>by subst z;rw[n]at mu;exact mu
 have hb:∀b,H b=none→b≠e:=λb n z=>by
  subst z;rcases he with r |r
  ·exact hx b n r
  ·rw[n]at r;cases r
 have hm:∀b u,H b=ae u→ ¬Mut (ae u)→b≠x:=λb u q nm z=>by subst z;rw[q]at mu;exact nm mu
 refine⟨λb u q n _ _=>k b u (hb b n) q,λb u q n _ _=>⟨u.slots,k b u (hb b n) q⟩,λb u q n _=>by rw[zaz (hx b n)];exact n,λb u q _=>?_,
  λb xs q=>by rw[zaz (hm b _ q λz=>z)];exact q,λb u xs q=>by rw[zaz (hm b _ q λz=>z)];exact q,λb ps q=>⟨#[],by rw[zaz (hm b _ q λz=>z),q];simp⟩⟩
 by_cases hbe:b=e
 ·subst hbe;exact heo
 ·exact⟨u,k b u hbe q⟩
end
noncomputable def trk (h:Heap) (H:Hp):List Addr:=(aU h.objs.size).filter λa=>(H a).isSome
noncomputable def zqX (h:Heap) (H:Hp):Heap:=eV h (trk h H)
theorem zqn (h:Heap) (H:Hp):(zqX h H).objs.size=h.objs.size:=PySem.W.hideAll_size _ _
theorem zse{h:Heap}{H:Hp}{b:Addr}{o:Obj}(e:h.get? b=ae o) (n:H b=none):(zqX h H).get? b=ae o:=
 gG _ e λhm=>by
  have q:(H b).isSome=true:=(ig.mp hm).2;rw[n]at q;simp at q
theorem zvr{h:Heap}{H:Hp}{b:Addr}{o:Obj}(e:(zqX h H).get? b=ae o):h.get? b=ae o∧H b=none:=by
 have e':h.get? b=ae o:=gN (trk h H) e;refine⟨e',?_⟩;cases q:H b with
 |none=>rfl
 |some x=>
  have hm:b∈trk h H:=ig.mpr ⟨eS.mpr (aJ e'),by simp [q]⟩
  have z:(zqX h H).get? b=none:=fP (trk h H) hm;rw[z]at e;cases e
noncomputable def zuq (g h:Heap) (L:Addr):List (Addr×Obj):=(aU h.objs.size).filterMap λa=>if a=L∨(g.get? a).isSome=true then none else(h.get? a).map λo=>(a,o)
noncomputable def rest (g h:Heap) (L d:Addr):List (Addr×Obj):=(zuq g h L).filter λp=>decide (p.1≠d)
structure Mod (K:aj) (mg:Str→Option Value) (base:Heap):Prop where
  kin:K.In base
  glob:base.Ns aL mg
  blt:∃mb,base.Ns gj mb∧ ∀x:Str,x≠ "__name__" →mb x=bP x
  nolimit:base.NoLimit
structure Cx where
  prog:aE
  w:aB
  K:aj
  mg:Str→Option Value
  base:Heap
  A:aN
  N:List Str
  s₀:ah
  H₀:Hp
  env:bt
  outer:List bt
  stack:List bt
  ex:List Addr
  fn:Str→Bool
  calm:Bool
  pn:List (Addr×Obj)
  xe:Value→ah→Prop
noncomputable def frs (l:List bt):List Addr:=l.filterMap (·.frame)
noncomputable abbrev Cx.fs (X:Cx):List Addr:=frs X.outer
def Vis (sc:Scope) (x:Str):Prop:=sc.names.lookup x=ae .local∨sc.names.lookup x=ae .cell∨sc.names.lookup x=ae .free
def Loc (sc:Scope) (x:Str):Prop:=sc.names.lookup x=ae .local∨sc.names.lookup x=ae .cell
def zAb (env:bt) (h:Heap) (m:Str→Option Value) (x:Str) (u:Value):Prop:=
 (env.kindOf x=ae .local∧m x=ae u)∨((env.kindOf x=ae .cell∨env.kindOf x=ae .free)∧ ∃c,env.cells.lookup x=ae c∧h.IsCell c (ae u))
structure Cx.Ok (X:Cx):Prop where
  mod:Mod X.K X.mg X.base
  kind:X.env.scope.kind= .function
  glob:X.env.globals=aL
  blt:X.env.builtins=gj
  above:X.s₀.heap.objs.size≤X.env.locals
  inj:∀x y c,X.env.cells.lookup x=ae c→X.env.cells.lookup y=ae c→x=y
  has:∀x,(X.env.kindOf x=ae .cell∨X.env.kindOf x=ae .free)→ ∃c,X.env.cells.lookup x=ae c
  cab:∀x c,X.fn x=true→X.env.cells.lookup x=ae c→X.s₀.heap.objs.size≤c
  hd:X.calm=true→X.A.handled=none
  frames:X.A.frames=ae X.stack
  stk:X.stack=X.outer∨(X.stack=X.env::X.outer∧X.env.frame=ae X.env.locals)
  exf:∀b∈X.ex,b≠X.env.locals∧ ∀x c,X.env.cells.lookup x=ae c→c≠b
  bs:∀b o,X.base.get? b=ae o→X.s₀.heap.get? b=ae o∧X.H₀ b=none
  bsz:X.base.objs.size≤X.s₀.heap.objs.size
  noex:∀b o,X.base.get? b=ae o→b∉X.ex
  exfs:∀b∈X.ex,b∉X.fs
  funs:X.s₀.heap.FunFrames X.base X.outer
  frf:∀b∈X.fs,X.H₀ b=none
structure Inv (X:Cx) (pins:List (Addr×Obj)) (σ:List (Option V)) (H:Hp) (s:ah):Prop where
  ok:X.Ok
  os:s.os=X.s₀.os
  bare:b6 s.gens
  base:Un X.fs X.ex X.H₀ H X.s₀.heap s.heap
  loc:∃m,s.heap.Ns X.env.locals m∧ ∀(i:Nat) (x:Str) (v:V),X.N[i]? =ae x→σ[i]? =ae (ae v)→Vis X.env.scope x→ ∃u,RelV v u∧zAb X.env s.heap m x u
  cell:∀x c,X.env.cells.lookup x=ae c→ ∃v,s.heap.IsCell c v
  free:H X.env.locals=none
  freeC:∀x c,X.env.cells.lookup x=ae c→H c=none
  pin:∀p∈X.pn++pins,s.heap.get? p.1=ae p.2∧H p.1=none∧p.1≠X.env.locals∧p.1∉X.fs∧ ∀v,p.2.data≠ .cell v
  hok:HOk X.prog X.w H s.heap
  len:σ.length=X.N.length
section
variable {X:Cx}{pins:List (Addr×Obj)}{σ:List (Option V)}{H H':Hp}{s:ah}{h':Heap}
theorem Cx.Ok.nofr (ok:X.Ok) {b:Addr}{o:Obj}(e:X.base.get? b=ae o):b∉X.fs:=λhb=>by
 have:=(ok.funs.mem hb).1;rw[e]at this;cases this
theorem Inv.bs (I:Inv X pins σ H s):∀b o,X.base.get? b=ae o→s.heap.get? b=ae o∧H b=none:=λb o e=>
 ⟨I.base.keep b o (I.ok.bs b o e).1 (I.ok.bs b o e).2 (I.ok.nofr e) (I.ok.noex b o e),I.base.free b o (I.ok.bs b o e).1 (I.ok.bs b o e).2 (I.ok.noex b o e)⟩
theorem Inv.bk (I:Inv X pins σ H s):∀b o,X.base.get? b=ae o→s.heap.get? b=ae o:=λb o e=>(I.bs b o e).1
theorem Inv.mod (I:Inv X pins σ H s):Mod X.K X.mg X.base:=I.ok.mod
theorem Inv.kIn (I:Inv X pins σ H s):X.K.In s.heap:=I.ok.mod.kin.keeps I.bk
theorem Inv.lt (I:Inv X pins σ H s):X.env.locals<s.heap.objs.size:=let ⟨_,hn,_⟩:=I.loc;hn.lt
theorem Inv.sz (I:Inv X pins σ H s):X.s₀.heap.objs.size≤s.heap.objs.size:=aW I.ok.above (ip I.lt)
theorem Inv.nofs (I:Inv X pins σ H s) {a:Addr}(h:s.heap.objs.size≤a):a∉X.fs:=λhb=>by
 obtain⟨_,o,ho,_⟩:=I.ok.funs.mem hb;exact absurd (bH (aJ ho) (aW I.sz h)) (cE _)
theorem Inv.cne (I:Inv X pins σ H s):∀x c,X.env.cells.lookup x=ae c→c≠X.env.locals:=λx c e z=>by
 obtain⟨v,o,ho,hd⟩:=I.cell x c e;obtain⟨m,⟨o',es,ep,ho',hd',_⟩,_⟩:=I.loc;rw[z,ho']at ho;cases ho;rw[hd']at hd;cases hd
theorem Inv.funs (I:Inv X pins σ H s):s.heap.FunFrames X.base X.outer:=by
 have all:∀(l:List bt),(∀b∈frs l,b∈X.fs)→X.s₀.heap.FunFrames X.base l→s.heap.FunFrames X.base l:=by
  intro l
  induction l with
  |nil=>intro _ _;trivial
  |cons env r ih=>
   intro hs hl;obtain⟨hk,⟨L,o,hf,hn,ho,hd⟩,hr⟩:=hl;have hL:L∈X.fs:=hs L (by unfold frs;rw[f_,hf];exact a0);obtain⟨sl,e⟩:=I.base.slot L o ho (I.ok.frf L hL) hL λz=>I.ok.exfs L z hL;exact⟨hk,⟨L,_,hf,hn,e,hd⟩,ih (λb hb=>hs b (by unfold frs;rw[f_,hf];exact aK _ hb)) hr⟩
 exact all X.outer (λ_ hb=>hb) I.ok.funs
theorem Inv.stack (I:Inv X pins σ H s):s.heap.FunFrames X.base X.stack:=by
 rcases I.ok.stk with e |⟨e,hf⟩
 ·rw[e];exact I.funs
 ·rw[e];obtain⟨m,hn,_⟩:=I.loc;refine .cons (by rw[I.ok.kind];decide) hf hn ?_ I.funs;exact Heap.get?_none_of_le (aW I.ok.bsz I.ok.above)
theorem Inv.stkSub (I:Inv X pins σ H s):∀b∈frs X.stack,b∈X.env.locals::X.fs:=λb hb=>by
 rcases I.ok.stk with e |⟨e,hf⟩
 ·rw[e]at hb;exact aK _ hb
 ·rw[e]at hb;unfold frs at hb;rw[f_,hf]at hb;exact hb
theorem Inv.stkFree (I:Inv X pins σ H s):∀b∈frs X.stack,H b=none:=λb hb=>by
 rcases az.mp (I.stkSub b hb) with e |hb
 ·rw[e];exact I.free
 ·obtain⟨_,o,ho,_⟩:=I.ok.funs.mem hb;exact I.base.free b o ho (I.ok.frf b hb) λz=>I.ok.exfs b z hb
theorem Inv.step{g':Array GenState}{t':Nat}{d':Drawn}{ch:List Addr}(I:Inv X pins σ H s)
  (hch:∀b∈ch,(b∈X.ex∨X.s₀.heap.objs.size≤b)∧b≠X.env.locals∧(∀x c,X.env.cells.lookup x=ae c→c≠b)∧ ∀p∈X.pn++pins,p.1≠b)
  (keep:∀b o,b≠X.env.locals→b∉X.fs→b∉ch→s.heap.get? b=ae o→H b=none→h'.get? b=ae o)
  (slot:∀b o,b≠X.env.locals→b∈X.fs→b∉ch→s.heap.get? b=ae o→H b=none→ ∃sl,h'.get? b=ae { o with slots:=sl }) (free:∀b o,b∉ch→s.heap.get? b=ae o→H b=none→H' b=none)
  (there:∀b o,b∉ch→s.heap.get? b=ae o→ ∃o',h'.get? b=ae o')
  (tups:∀b xs,H b=ae (.tup xs)→H' b=ae (.tup xs)) (frzs:∀b o u,H b=ae (.frz o u)→H' b=ae (.frz o u)) (tbls:∀b ps,H b=ae (.tbl ps)→ ∃more,H' b=ae (.tbl (ps++more)))
  (ns:∀m,s.heap.Ns X.env.locals m→h'.Ns X.env.locals m) (hok:HOk X.prog X.w H' h') (hg:b6 g') :
  Inv X pins σ H' { s with heap:=h',gens:=g',drawn:=d',toks:=t' }:=by
 have neL:∀b o,X.s₀.heap.get? b=ae o→b≠X.env.locals:=λb o e=>br (bH (aJ e) I.ok.above);have neC:∀b o,X.s₀.heap.get? b=ae o→b∉X.ex→b∉ch:=λb o e hx hb=>by
  rcases(hch b hb).1 with z |z
  ·exact hx z
  ·exact absurd (bH (aJ e) z) (cE _)
 have cellK:∀x c,X.env.cells.lookup x=ae c→ ∀v,s.heap.IsCell c v→h'.IsCell c v:=λx c e v ⟨o,ho,hd⟩=>by
  have nch:c∉ch:=λz=>(hch c z).2.2.1 x c e rfl;by_cases hc:c∈X.fs
  ·obtain⟨sl,q⟩:=slot c o (I.cne x c e) hc nch ho (I.freeC x c e);exact⟨_,q,hd⟩
  ·exact⟨o,keep c o (I.cne x c e) hc nch ho (I.freeC x c e),hd⟩
 refine⟨I.ok,I.os,hg,⟨λb o e n hb hx=>?_,λb o e n hb hx=>?_,λb o e n hx=>?_,λb o e hx=>?_,λb xs e=>tups b xs (I.base.tups b xs e),λb o xs e=>frzs b o xs (I.base.frzs b o xs e),λb ps e=>?_⟩,?_,λx c e=>?_,?_,λx c e=>?_,λp hp=>?_,hok,I.len⟩
 ·exact keep b o (neL b o e) hb (neC b o e hx) (I.base.keep b o e n hb hx) (I.base.free b o e n hx)
 ·obtain⟨sl,e1⟩:=I.base.slot b o e n hb hx;obtain⟨sl',e2⟩:=slot b _ (neL b o e) hb (neC b o e hx) e1 (I.base.free b o e n hx);exact⟨sl',e2⟩
 ·obtain⟨o',e1⟩:=I.base.there b o e hx;exact free b o' (neC b o e hx) e1 (I.base.free b o e n hx)
 ·obtain⟨o',e1⟩:=I.base.there b o e hx;exact there b o' (neC b o e hx) e1
 ·obtain⟨m1,e1⟩:=I.base.tbls b ps e;obtain⟨m2,e2⟩:=tbls b _ e1;exact⟨m1++m2,by rw[e2,jH]⟩
 ·obtain⟨m,hn,hl⟩:=I.loc;refine⟨m,ns m hn,λi x v e1 e2 e3=>?_⟩;obtain⟨u,r,l⟩:=hl i x v e1 e2 e3;refine⟨u,r,?_⟩;rcases l with l |⟨k,c,e,z⟩
  ·exact .inl l
  ·exact .inr ⟨k,c,e,cellK x c e _ z⟩
 ·obtain⟨v,z⟩:=I.cell x c e;exact⟨v,cellK x c e v z⟩
 ·obtain⟨m,⟨o,_,_,ho,_⟩,_⟩:=I.loc;exact free _ o (λz=>(hch _ z).2.1 rfl) ho I.free
 ·obtain⟨v,o,ho,hd⟩:=I.cell x c e;exact free c o (λz=>(hch c z).2.2.1 x c e rfl) ho (I.freeC x c e)
 ·obtain⟨e,n,ne,nf,d⟩:=I.pin p hp;have nch:p.1∉ch:=λz=>(hch p.1 z).2.2.2 p hp rfl;exact⟨keep p.1 p.2 ne nf nch e n,free p.1 p.2 nch e n,ne,nf,d⟩
theorem Inv.un{t':Nat}(I:Inv X pins σ H s) (u:Un X.fs [] H H' s.heap h') (hok:HOk X.prog X.w H' h'):Inv X pins σ H' { s with heap:=h',toks:=t' }:=by
 obtain⟨m,⟨o,es,ep,ho,r⟩,_⟩:=id I.loc;obtain⟨sl,hL⟩:=u.any ho I.free (by simp);exact I.step (g':=s.gens) (d':=s.drawn) (ch:=[]) (λ_ z=>nomatch z) (λb o _ hb _ e n=>u.keep b o e n hb (by simp)) (λb o _ hb _ e n=>u.slot b o e n hb (by simp)) (λb o _ e n=>u.free b o e n (by simp)) (λb o _ e=>u.there b o e (by simp)) u.tups u.frzs u.tbls (λm' hm=>by
  obtain⟨o',es',ep',ho',r'⟩:=hm;rw[ho]at ho';cases ho';exact⟨_,es',ep',hL,r'⟩) hok I.bare
theorem Inv.call{g':Array GenState}{t':Nat}{d':Drawn}{ch:List Addr}(I:Inv X pins σ H s) (u:Un (frs X.stack) ch H H' s.heap h') (hok:HOk X.prog X.w H' h') (hg:b6 g')
  (hch:∀b∈ch,(b∈X.ex∨X.s₀.heap.objs.size≤b)∧b≠X.env.locals∧(∀x c,X.env.cells.lookup x=ae c→c≠b)∧ ∀p∈X.pn++pins,p.1≠b) :
  Inv X pins σ H' { s with heap:=h',gens:=g',drawn:=d',toks:=t' }:=by
 obtain⟨m,⟨o,es,ep,ho,r⟩,_⟩:=id I.loc;obtain⟨sl,hL⟩:=u.any ho I.free λz=>(hch _ z).2.1 rfl;exact I.step (ch:=ch) hch (λb o hL hb hc e n=>u.keep b o e n (λz=>(az.mp (I.stkSub b z)).elim hL hb) hc) (λb o _ _ hc e n=>u.any e n hc) (λb o hc e n=>u.free b o e n hc) (λb o hc e=>u.there b o e hc) u.tups u.frzs u.tbls (λm' hm=>by
  obtain⟨o',es',ep',ho',r'⟩:=hm;rw[ho]at ho';cases ho';exact⟨_,es',ep',hL,r'⟩) hok hg
theorem Inv.turned{t':Nat}{it:Addr}(I:Inv X pins σ H s) (k:∀b o,b≠it→s.heap.get? b=ae o→h'.get? b=ae o) (hn:H it=none) (hL:it≠X.env.locals)
  (h1:it∈X.ex∨X.s₀.heap.objs.size≤it) (h2:∀x c,X.env.cells.lookup x=ae c→c≠it) (h3:∀p∈X.pn++pins,p.1≠it):Inv X pins σ H { s with heap:=h',toks:=t' }:=by
 have nit:∀b u,H b=ae u→b≠it:=λb u e z=>by rw[z,hn]at e;cases e
 refine I.step (g':=s.gens) (d':=s.drawn) (ch:=[it]) (λb hb=>?_) (λb o _ _ hc e _=>k b o (λz=>hc (by simp [z])) e) (λb o _ _ hc e _=>⟨o.slots,k b o (λz=>hc (by simp [z])) e⟩) (λ_ _ _ _ n=>n)
  (λb o hc e=>⟨o,k b o (λz=>hc (by simp [z])) e⟩) (λ_ _ e=>e) (λ_ _ _ e=>e) (λb ps e=>⟨#[],by rw[e];simp⟩) (λm hm=>?_) (λb u e=>?_) I.bare
 ·have e:b=it:=by simpa using hb
  subst e;exact⟨h1,hL,h2,h3⟩
 ·obtain⟨o,es,ep,ho,r⟩:=hm;exact⟨o,es,ep,k _ o (bj hL) ho,r⟩
 ·refine(I.hok b u e).stay (λc v hc q=>k c v ?_ q) (λ_ q=>q) λ_ _ q=>q;rcases hc with z |z
  ·rw[z];exact nit b u e
  ·exact nit c _ z
theorem Inv.tok (I:Inv X pins σ H s) (t:Nat):Inv X pins σ H { s with toks:=t }:=I.un (h':=s.heap) (t':=t) Un.refl I.hok
theorem Inv.kept{t':Nat}(I:Inv X pins σ H s) (k:∀b u,s.heap.get? b=ae u→h'.get? b=ae u):Inv X pins σ H { s with heap:=h',toks:=t' }:=I.un (Un.kept k) (I.hok.kept k)
theorem Inv.laid{a:Addr}{o:HO}{t':Nat}(I:Inv X pins σ H s) (k:∀b u,s.heap.get? b=ae u→h'.get? b=ae u) (hp:s.heap.objs.size≤a) (new:ObjOk X.prog X.w (upd H a o) h' a o) :
  Inv X pins σ (upd H a o) { s with heap:=h',toks:=t' }:=I.un (Un.laid k hp (I.hok.fresh hp)) (I.hok.laid k hp new)
theorem Inv.write{x e:Addr}{o:HO}{t':Nat}(I:Inv X pins σ H s) (mu:Mut (H x)) (he:e=x∨H e=ae (.own x)) (k:∀b u,b≠e→s.heap.get? b=ae u→h'.get? b=ae u) (heo:∃u,h'.get? e=ae u)
  (new:ObjOk X.prog X.w (upd H x o) h' x o):Inv X pins σ (upd H x o) { s with heap:=h',toks:=t' }:=I.un (Un.write mu he k heo) (I.hok.write mu he k heo new)
theorem Inv.pins_of{pins':List (Addr×Obj)}(I:Inv X pins σ H s) (h:∀p∈pins',s.heap.get? p.1=ae p.2∧H p.1=none∧p.1≠X.env.locals∧p.1∉X.fs∧ ∀v,p.2.data≠ .cell v):Inv X pins' σ H s:=
 ⟨I.ok,I.os,I.bare,I.base,I.loc,I.cell,I.free,I.freeC,λp hp=>(bu.mp hp).elim (λz=>I.pin p (jI _ z)) (h p),I.hok,I.len⟩
theorem znk{N:List Str}(hN:N.Nodup) {i j:Nat}{x:Str}(a:N[i]? =ae x) (b:N[j]? =ae x):i=j:=by
 obtain⟨h1,e1⟩:=ca.mp a;obtain⟨h2,e2⟩:=ca.mp b;exact(List.getElem_inj hN).mp (e1.trans e2.symm)
theorem zjt{M:Model}{A:aN}{E:Value→ah→Prop}{i:Nat}{x:Str}{v:V}{u:Value}{Q:Unit→ah→Prop}(I:Inv X pins σ H s) (hN:X.N.Nodup) (hi:X.N[i]? =ae x) (hx:Loc X.env.scope x) (r:RelV v u)
  (h:∀s',Inv X pins (σ.set i (ae v)) H s'→(∃a,b8 a s.heap s'.heap∧(a=X.env.locals∨X.env.cells.lookup x=ae a))→Q () s') (hf:X.fn x=true∨X.env.scope.names.lookup x=ae .local:=by first |exact .inl rfl |exact .inr rfl |assumption):am M A (gi X.env x u) Q E s:=by
 obtain⟨m,hn,hl⟩:=id I.loc;have hcls:(X.env.scope.kind == .class || (X.env.scope.kind == .module&&X.env.locals != X.env.globals))=false:=by rw[I.ok.kind];rfl
 have hiσ:i<σ.length:=by rw[I.len];exact(ca.mp hi).1
 have cne:=I.cne;have tracked:∀{a:Addr}{h':Heap},(∃o,s.heap.get? a=ae o∧H a=none)→b8 a s.heap h'→HOk X.prog X.w H h':=λ{a h'} ha hs b ob e=>by
  obtain⟨_,_,hfree⟩:=ha;refine(I.hok b ob e).stay (λc w' hc q=>(hs.2 c ?_).trans q) (λ_ q=>q) λ_ _ q=>q;rintro rfl;rcases hc with rfl |hc
  ·rw[hfree]at e;cases e
  ·rw[hfree]at hc;cases hc
 rcases hx with hk |hk
 ·refine wpAny_storeName_local hk hn (λh' hn' hs=>?_) hcls;obtain⟨oL,_,_,hoL,_⟩:=id hn;refine h _ ⟨I.ok,I.os,I.bare,⟨λb o e n hb hx=>?_,λb o e n hb hx=>?_,I.base.free,λb o e hx=>?_,I.base.tups,I.base.frzs,I.base.tbls⟩,⟨_,hn',λj y v' e1 e2 e3=>?_⟩,λy c e=>?_,I.free,I.freeC,λp hp=>?_,tracked ⟨oL,hoL,I.free⟩ hs,by simpa using I.len⟩ ⟨_,hs, .inl rfl⟩
  ·exact(hs.2 b (br (bH (aJ e) I.ok.above))).trans (I.base.keep b o e n hb hx)
  ·obtain⟨sl,e1⟩:=I.base.slot b o e n hb hx;exact⟨sl,(hs.2 b (br (bH (aJ e) I.ok.above))).trans e1⟩
  ·obtain⟨o',e1⟩:=I.base.there b o e hx;exact⟨o',(hs.2 b (br (bH (aJ e) I.ok.above))).trans e1⟩
  ·by_cases hj:j=i
   ·subst hj;rw[hi]at e1;cases e1;rw[jP hiσ]at e2;cases e2;exact⟨u,r, .inl ⟨hk,by simp⟩⟩
   ·rw[jU (bj hj)]at e2;obtain⟨u',r',q⟩:=hl j y v' e1 e2 e3;refine⟨u',r',?_⟩;rcases q with⟨k,e⟩ |⟨k,c,e,z⟩
    ·refine .inl ⟨k,?_⟩;have:y≠x:=λe=>hj (znk hN e1 (e▸hi));simp [this,e]
    ·exact .inr ⟨k,c,e,z.sameBut hs (cne y c e)⟩
  ·obtain⟨w',z⟩:=I.cell y c e;exact⟨w',z.sameBut hs (cne y c e)⟩
  ·obtain⟨e,n,ne,nf,d⟩:=I.pin p hp;exact⟨(hs.2 p.1 ne).trans e,n,ne,nf,d⟩
 ·have hfn:X.fn x=true:=by
   rcases hf with z |z
   ·exact z
   ·rw[z]at hk;cases hk
  obtain⟨c,hc⟩:=I.ok.has x (.inl hk);obtain⟨w',z⟩:=I.cell x c hc;refine wpAny_storeName_cell I.ok.kind hk hc z (λh' hc' hs=>?_);obtain⟨oc,hoc,hocd⟩:=id z;refine h { s with heap:=h' } ⟨I.ok,I.os,I.bare,⟨λb o e n hb hx=>?_,λb o e n hb hx=>?_,I.base.free,λb o e hx=>?_,I.base.tups,I.base.frzs,I.base.tbls⟩,⟨m,hn.sameBut hs (bj (cne x c hc)),λj y v' e1 e2 e3=>?_⟩,λy c' e=>?_,I.free,I.freeC,λp hp=>?_,tracked ⟨oc,hoc,I.freeC x c hc⟩ hs,by simpa using I.len⟩ ⟨c,hs, .inr hc⟩
  ·exact(hs.2 b (br (bH (aJ e) (I.ok.cab x c hfn hc)))).trans (I.base.keep b o e n hb hx)
  ·obtain⟨sl,e1⟩:=I.base.slot b o e n hb hx;exact⟨sl,(hs.2 b (br (bH (aJ e) (I.ok.cab x c hfn hc)))).trans e1⟩
  ·obtain⟨o',e1⟩:=I.base.there b o e hx;exact⟨o',(hs.2 b (br (bH (aJ e) (I.ok.cab x c hfn hc)))).trans e1⟩
  ·by_cases hj:j=i
   ·subst hj;rw[hi]at e1;cases e1;rw[jP hiσ]at e2;cases e2;exact⟨u,r, .inr ⟨.inl hk,c,hc,hc'⟩⟩
   ·rw[jU (bj hj)]at e2;obtain⟨u',r',q⟩:=hl j y v' e1 e2 e3;refine⟨u',r',?_⟩;rcases q with q |⟨k,c',e,z'⟩
    ·exact .inl q
    ·refine .inr ⟨k,c',e,z'.sameBut hs ?_⟩;rintro rfl;exact hj (znk hN e1 (I.ok.inj _ _ _ e hc▸hi))
  ·by_cases hcc:c'=c
   ·subst hcc;exact⟨_,hc'⟩
   ·obtain⟨w2,z2⟩:=I.cell y c' e;exact⟨w2,z2.sameBut hs hcc⟩
  ·obtain⟨e,n,ne,nf,d⟩:=I.pin p hp;refine⟨(hs.2 p.1 ?_).trans e,n,ne,nf,d⟩;intro q;rw[q,hoc]at e;have q':oc=p.2:=aG e;exact d w' (by rw[←q'];exact hocd)
theorem zja{M:Model}{A:aN}{E:Value→ah→Prop}{i:Nat}{x:Str}{v:V}{u:Value}{Q:Unit→ah→Prop}(I:Inv X pins σ H s) (hN:X.N.Nodup) (hi:X.N[i]? =ae x) (hx:Loc X.env.scope x) (r:RelV v u)
  (h:∀s',Inv X pins (σ.set i (ae v)) H s'→Q () s') (hf:X.fn x=true∨X.env.scope.names.lookup x=ae .local:=by first |exact .inl rfl |exact .inr rfl |assumption):am M A (gi X.env x u) Q E s:=
 zjt I hN hi hx r (λs' I' _=>h s' I') hf
theorem Inv.call'{s':ah}{ch:List Addr}(I:Inv X pins σ H s) (ho:s'.os=s.os) (u:Un (frs X.stack) ch H H' s.heap s'.heap) (hok:HOk X.prog X.w H' s'.heap) (hg:b6 s'.gens)
  (hch:∀b∈ch,(b∈X.ex∨X.s₀.heap.objs.size≤b)∧b≠X.env.locals∧(∀x c,X.env.cells.lookup x=ae c→c≠b)∧ ∀p∈X.pn++pins,p.1≠b):Inv X pins σ H' s':=by
 obtain⟨h',g',d',t',o'⟩:=s';have e:o'=s.os:=ho;subst e;exact I.call (g':=g') (t':=t') (d':=d') u hok hg hch
end
abbrev XK:=Value→Option Addr→Hp→Prop
abbrev St:=List (Option V)
abbrev VK:=V→Hp→Prop
abbrev TE:=St→Hp→VK→Prop
abbrev TT:=St→Hp→(Bool→Hp→Prop)→Prop
abbrev TA:=St→Hp→(List V→Hp→Prop)→Prop
structure Ends where
  nx:St→Hp→Prop
  rt:VK
  bk:St→Hp→Prop:=λ_ _=>False
  ct:St→Hp→Prop:=λ_ _=>False
abbrev TS:=Ends→St→Hp→Prop
def EP (X:Cx) (pins:List (Addr×Obj)) (σ:St) (Q:VK) (u:Value) (s':ah):Prop:=∃v H',Inv X pins σ H' s'∧RelV v u∧Q v H'
def TP (X:Cx) (pins:List (Addr×Obj)) (σ:St) (Q:Bool→Hp→Prop) (b:Bool) (s':ah):Prop:=∃H',Inv X pins σ H' s'∧Q b H'
def AP (X:Cx) (pins:List (Addr×Obj)) (σ:St) (Q:List V→Hp→Prop) (us:List Value) (s':ah):Prop:=∃vs H',Inv X pins σ H' s'∧Vals vs us∧Q vs H'
def SP (X:Cx) (pins:List (Addr×Obj)) (D:Ends) (f:Flow) (s':ah):Prop:=
 match f with
 | .next=>∃σ' H',Inv X pins σ' H' s'∧D.nx σ' H'
 | .brk=>∃σ' H',Inv X pins σ' H' s'∧D.bk σ' H'
 | .cont=>∃σ' H',Inv X pins σ' H' s'∧D.ct σ' H'
 | .ret u=>∃v σ' H',Inv X pins σ' H' s'∧RelV v u∧D.rt v H'
def PE (X:Cx) (e:Expr) (t:TE):Prop:=
 ∀(pins:List (Addr×Obj)) (s:ah) (σ:St) (H:Hp) (Q:VK),Inv X pins σ H s→t σ H Q→am (ap X.prog X.w) X.A (ay e X.env) (EP X pins σ Q) X.xe s
def PT (X:Cx) (e:Expr) (t:TT):Prop:=
 ∀(pins:List (Addr×Obj)) (s:ah) (σ:St) (H:Hp) (Q:Bool→Hp→Prop),Inv X pins σ H s→t σ H Q→am (ap X.prog X.w) X.A (isTrue e X.env (ay e X.env)) (TP X pins σ Q) X.xe s
def PW (X:Cx) (e:Expr) (t:TT):Prop:=
 ∀(whole:bW Value) (pins:List (Addr×Obj)) (s:ah) (σ:St) (H:Hp) (Q:Bool→Hp→Prop),Inv X pins σ H s→t σ H Q→am (ap X.prog X.w) X.A (isTrue e X.env whole) (TP X pins σ Q) X.xe s
theorem PW.pt{X:Cx}{e:Expr}{t:TT}(h:PW X e t):PT X e t:=h _
def PA (X:Cx) (es:List Expr) (t:TA):Prop:=
 ∀(pos:aC) (pins:List (Addr×Obj)) (s:ah) (σ:St) (H:Hp) (Q:List V→Hp→Prop),Inv X pins σ H s→t σ H Q→am (ap X.prog X.w) X.A (spliced (aP pos (ao es X.env))) (AP X pins σ Q) X.xe s
def PS (X:Cx) (st:Stmt) (t:TS):Prop:=
 ∀(pins:List (Addr×Obj)) (s:ah) (σ:St) (H:Hp) (D:Ends),Inv X pins σ H s→t D σ H→am (ap X.prog X.w) X.A (exec st X.env) (SP X pins D) X.xe s
def PSs (X:Cx) (st:List Stmt) (t:TS):Prop:=
 ∀(pins:List (Addr×Obj)) (s:ah) (σ:St) (H:Hp) (D:Ends),Inv X pins σ H s→t D σ H→am (ap X.prog X.w) X.A (execs st X.env) (SP X pins D) X.xe s
theorem thn{α:Type}{t:bW α}{Q Q':α→ah→Prop}{M:Model}{A:aN}{E:Value→ah→Prop}{s:ah}(h:am M A t Q E s) (hQ:∀a s,Q a s→Q' a s):am M A t Q' E s:=cg h hQ λ_ _ x=>x
section
variable {X:Cx}
noncomputable def zAv (i:Nat):TE:=λσ H Q=>∃v,σ[i]? =ae (ae v)∧Q v H
noncomputable def tC (v:V):TE:=λ_ H Q=>Q v H
theorem zxZ{i:Nat}{x:Str}{pos:aC}(hN:X.N[i]? =ae x) (hv:Vis X.env.scope x) (hd:(x == ("__debug__" :Str))=false:=by decide) (hcd:(x == ("__classdict__" :Str))=false:=by decide):PE X (.Name x pos) (zAv i):=by
 intro pins s σ H Q I h;obtain⟨v,e,h⟩:=h;obtain⟨m,hn,hl⟩:=I.loc;obtain⟨u,r,l⟩:=hl i x v hN e hv;have fin:EP X pins σ Q u s:=⟨v,H,I,r,h⟩;rcases l with⟨hk,hm⟩ |⟨hk,c,hc,hcell⟩
 ·exact gO (jq I.ok.kind hk hn hm fin) hd
 ·rcases hk with hk |hk
  ·exact gO (j6 I.ok.kind hk hc hcell fin) hd
  ·exact gO (wpAny_loadName_free I.ok.kind hk hc hcell fin hcd) hd
theorem zvZ{i j pos}:PE X (.Constant (.int i) j pos) (tC (.int i)):=λ_ _ _ H _ I h=>wpAny_Constant_int ⟨.int i,H,I.tok _,⟨_,rfl⟩,h⟩
theorem zzD{b j pos}:PE X (.Constant (.bool b) j pos) (tC (.bl b)):=λ_ _ _ H _ I h=>Constant_bool ⟨.bl b,H,I,rfl,h⟩
theorem zvV{j pos}:PE X (.Constant .none j pos) (tC .non):=λ_ _ _ H _ I h=>Constant_none ⟨.non,H,I,rfl,h⟩
theorem zxf{x j pos}:PE X (.Constant (.str x) j pos) (tC (.str x)):=λ_ _ _ H _ I h=>Calls.Constant_str ⟨.str x,H,I.tok _,⟨_,rfl⟩,h⟩
def Gl (X:Cx) (x:Str):Prop:=X.env.kindOf x=ae .globalImplicit
theorem zlS{E:Value→ah→Prop}{pins:List (Addr×Obj)}{s:ah}{σ:St}{H:Hp}{x:Str}{u:Value}{pos:aC}{Q:Value→ah→Prop}(I:Inv X pins σ H s) (hg:Gl X x) (hm:X.mg x=ae u) (h:Q u s)
  (hd:(x == ("__debug__" :Str))=false:=by decide):am (ap X.prog X.w) X.A (ay (.Name x pos) X.env) Q E s:=
 jn I.ok.kind hg (Calls.loadGlobal_global (by rw[I.ok.glob];exact I.mod.glob.keeps I.bk) hm h) hd
theorem zii{E:Value→ah→Prop}{pins:List (Addr×Obj)}{s:ah}{σ:St}{H:Hp}{x:Str}{u:Value}{pos:aC}{Q:Value→ah→Prop}(I:Inv X pins σ H s) (hg:Gl X x) (hm:X.mg x=none) (hv:bP x=ae u) (h:Q u s)
  (hn:x≠ "__name__" :=by decide) (hd:(x == ("__debug__" :Str))=false:=by decide):am (ap X.prog X.w) X.A (ay (.Name x pos) X.env) Q E s:=by
 obtain⟨mb,h1,h2⟩:=I.mod.blt;exact jn I.ok.kind hg (Calls.loadGlobal_builtin (by rw[I.ok.glob];exact I.mod.glob.keeps I.bk) hm (by rw[I.ok.blt];exact h1.keeps I.bk) ((h2 x hn).trans hv) h) hd
theorem zuk{x:Str}{v:V}{u:Value}{pos:aC}(hg:Gl X x) (hm:X.mg x=ae u) (r:RelV v u) (hd:(x == ("__debug__" :Str))=false:=by decide):PE X (.Name x pos) (tC v):=
 λ_ _ _ H _ I h=>zlS I hg hm ⟨v,H,I,r,h⟩ hd
theorem zuO{x:Str}{v:V}{u:Value}{pos:aC}(hg:Gl X x) (hm:X.mg x=none) (hv:bP x=ae u) (r:RelV v u) (hn:x≠ "__name__" :=by decide) (hd:(x == ("__debug__" :Str))=false:=by decide):PE X (.Name x pos) (tC v):=
 λ_ _ _ H _ I h=>zii I hg hm hv ⟨v,H,I,r,h⟩ hn hd
variable {a b:Expr}{ta tb:TE}{pos:aC}
variable {tA tB':TT}{rest:List Expr}
noncomputable def zAp (t u:TT):TT:=λσ H Q=>t σ H λc H1=>if c=true then u σ H1 Q else Q false H1
noncomputable def tOr (t u:TT):TT:=λσ H Q=>t σ H λc H1=>if c=true then Q true H1 else u σ H1 Q
noncomputable def zzY (t:TT):TT:=λσ H Q=>t σ H λc H1=>Q (!c) H1
theorem ztN (ha:PT X a tA):PW X (.BoolOp .And [a] pos) tA:=by
 intro wh pins s σ H Q I h;refine isTrue_and (thn (ha pins s σ H Q I h) λc s1 e=>?_);cases c with
 |true=>exact isTrue_and_nil e
 |false=>exact e
theorem zxv (ha:PT X a tA):PW X (.BoolOp .Or [a] pos) tA:=by
 intro wh pins s σ H Q I h;refine isTrue_or (thn (ha pins s σ H Q I h) λc s1 e=>?_);cases c with
 |false=>exact isTrue_or_nil e
 |true=>exact e
theorem zvC (ha:PT X a tA) (hb:PW X (.BoolOp .And (b::rest) pos) tB'):PW X (.BoolOp .And (a::b::rest) pos) (zAp tA tB'):=by
 intro wh pins s σ H Q I h;refine isTrue_and (thn (ha pins s σ H _ I h) λc s1 ⟨H1,I1,q1⟩=>?_);cases c with
 |true=>exact hb wh pins s1 σ H1 Q I1 q1
 |false=>exact⟨H1,I1,q1⟩
theorem zzt (ha:PT X a tA) (hb:PW X (.BoolOp .Or (b::rest) pos) tB'):PW X (.BoolOp .Or (a::b::rest) pos) (tOr tA tB'):=by
 intro wh pins s σ H Q I h;refine isTrue_or (thn (ha pins s σ H _ I h) λc s1 ⟨H1,I1,q1⟩=>?_);cases c with
 |true=>exact⟨H1,I1,q1⟩
 |false=>exact hb wh pins s1 σ H1 Q I1 q1
theorem zxj (ha:PT X a tA):PT X (.UnaryOp .Not a pos) (zzY tA):=by
 intro pins s σ H Q I h;exact isTrue_not (ha pins s σ H (λc H1=>Q (!c) H1) I h)
noncomputable def zzq (ta tb:TE):TE:=λσ H Q=>ta σ H λx H1=>∃c,x= .bl c∧if c=true then tb σ H1 Q else Q (.bl false) H1
theorem zwI{op}{t:TE}(h:PE X a t):PE X (.BoolOp op [a] pos) t:=λpins s σ H Q I hw=>BoolOp_one (h pins s σ H Q I hw)
theorem zvY (ha:PE X a ta) (hb:PE X (.BoolOp .And (b::rest) pos) tb):PE X (.BoolOp .And (a::b::rest) pos) (zzq ta tb):=by
 intro pins s σ H Q I h;refine BoolOp_and (thn (ha pins s σ H _ I h) λv s1 ⟨x,H1,I1,r1,q1⟩=>?_);obtain⟨c,rfl,q1⟩:=q1;cases r1;refine gX ?_;cases c with
 |true=>exact hb pins s1 σ H1 Q I1 q1
 |false=>exact⟨.bl false,H1,I1,rfl,q1⟩
noncomputable def tIf (t:TT) (ta tb:TE):TE:=λσ H Q=>t σ H λc H1=>if c=true then ta σ H1 Q else tb σ H1 Q
theorem zrg{c:Expr}(hc:PT X c tA) (ha:PE X a ta) (hb:PE X b tb):PE X (.IfExp c a b pos) (tIf tA ta tb):=by
 intro pins s σ H Q I h;refine wpAny_IfExp (thn (hc pins s σ H _ I h) λd s1 ⟨H1,I1,q1⟩=>?_);cases d with
 |true=>exact ha pins s1 σ H1 Q I1 q1
 |false=>exact hb pins s1 σ H1 Q I1 q1
end
def SqL (K:aj) (H:Hp) (a:Addr) (xs:List V):Prop:=
 Rd H a (.lst xs)∨
  ∃(o:Obj) (its:Array Value) (n:Nat),K.lookup a=ae o∧o.cls= .type "list" ∧o.dict=none∧o.data= .seq its n∧its.size≤sizeLine∧Vals xs its.toList
def SqT (K:aj) (H:Hp) (a:Addr) (xs:List V):Prop:=
 Rd H a (.tup xs)∨
  ∃(o:Obj) (its:Array Value) (n:Nat),K.lookup a=ae o∧o.cls= .type "tuple" ∧o.data= .seq its n∧its.size≤sizeLine∧Vals xs its.toList
noncomputable def zAt:Value→Option V
 | .none=>ae .non
 | .bool b=>ae (.bl b)
 | .int i _=>ae (.int i)
 | .str x _=>ae (.str x)
 | .bytes b _=>ae (.byt b)
 | .float b _=>ae (.flt b)
 | .ref a=>ae (.ref a)
 | .type n=>ae (.ty n)
 |_=>none
theorem RelV.abs{x:V}{u:Value}(r:RelV x u):zAt u=ae x:=by
 cases x with
 |non=>cases r;rfl
 |bl _=>cases r;rfl
 |int _=>obtain⟨t,rfl⟩:=r;rfl
 |str _=>obtain⟨t,rfl⟩:=r;rfl
 |byt _=>obtain⟨t,rfl⟩:=r;rfl
 |flt _=>obtain⟨t,rfl⟩:=r;rfl
 |ref _=>cases r;rfl
 |ty _=>cases r;rfl
theorem RelV.inj{x y:V}{u:Value}(r:RelV x u) (q:RelV y u):x=y:=aG (r.abs.symm.trans q.abs)
theorem Vals.inj:∀{xs ys:List V}{us:List Value},Vals xs us→Vals ys us→xs=ys
 |_,_,_, .nil, .nil=>rfl
 |_,_,_, .cons r t, .cons r' t'=>by rw[r.inj r',Vals.inj t t']
section
variable {X:Cx}{pins:List (Addr×Obj)}{σ:St}{H:Hp}{s:ah}{a:Addr}{xs ys:List V}
theorem SqL.of{K:aj}(h:H a=ae (.lst xs)):SqL K H a xs:= .inl (.inl h)
theorem SqT.of{K:aj}(h:H a=ae (.tup xs)):SqT K H a xs:= .inl (.inl h)
theorem Inv.list (I:Inv X pins σ H s) (h:SqL X.K H a xs):∃its:List Value,Vals xs its∧PlainL s.heap a its.toArray∧xs.length≤sizeLine:=by
 rcases h with h |⟨o,its,n,hk,hc,hd,hs,hz,r⟩
 ·obtain⟨z,its,n,r,e⟩:=h.ok I.hok;exact⟨its,r,⟨_,n,e,rfl,rfl,rfl⟩,z⟩
 ·refine⟨its.toList,r,⟨o,n,I.kIn a o hk,hc,hd,by simpa using hs⟩,?_⟩
  have e:=r.length;simp only[gK]at e;omega
theorem Inv.tuple (I:Inv X pins σ H s) (h:SqT X.K H a xs):∃its:List Value,Vals xs its∧eE s.heap a its.toArray∧xs.length≤sizeLine:=by
 rcases h with h |⟨o,its,n,hk,hc,hs,hz,r⟩
 ·obtain⟨z,its,r,p⟩:=h.ok I.hok;exact⟨its,r,p,z⟩
 ·refine⟨its.toList,r,⟨o,I.kIn a o hk,hc,n,by simpa using hs⟩,?_⟩
  have e:=r.length;simp only[gK]at e;omega
theorem Inv.list_inj (I:Inv X pins σ H s) (h:SqL X.K H a xs) (h':SqL X.K H a ys):xs=ys:=by
 obtain⟨its,r,⟨o,n,e,_,_,d⟩,_⟩:=I.list h;obtain⟨its',r',⟨o',n',e',_,_,d'⟩,_⟩:=I.list h';rw[e]at e';cases e';rw[d]at d';injection d' with d1 _;have:its=its':=by simpa using congrArg Array.toList d1
 subst this;exact r.inj r'
theorem Inv.tuple_inj (I:Inv X pins σ H s) (h:SqT X.K H a xs) (h':SqT X.K H a ys):xs=ys:=by
 obtain⟨its,r,⟨o,e,_,n,d⟩,_⟩:=I.tuple h;obtain⟨its',r',⟨o',e',_,n',d'⟩,_⟩:=I.tuple h';rw[e]at e';cases e';rw[d]at d';injection d' with d1 _;have:its=its':=by simpa using congrArg Array.toList d1
 subst this;exact r.inj r'
end
noncomputable abbrev Cx.wish (X:Cx) (E:Value→ah→Prop):Cx:={ X with xe:=E }
noncomputable abbrev Cx.nox (X:Cx):Cx:=X.wish λ_ _=>False
theorem Cx.Ok.wish{X:Cx}(ok:X.Ok) (E:Value→ah→Prop):(X.wish E).Ok:=
 ⟨ok.mod,ok.kind,ok.glob,ok.blt,ok.above,ok.inj,ok.has,ok.cab,ok.hd,ok.frames,ok.stk,ok.exf,ok.bs,ok.bsz,ok.noex,ok.exfs,ok.funs,ok.frf⟩
theorem Cx.Ok.unwish{X:Cx}{E:Value→ah→Prop}(ok:(X.wish E).Ok):X.Ok:=
 ⟨ok.mod,ok.kind,ok.glob,ok.blt,ok.above,ok.inj,ok.has,ok.cab,ok.hd,ok.frames,ok.stk,ok.exf,ok.bs,ok.bsz,ok.noex,ok.exfs,ok.funs,ok.frf⟩
section
variable {X:Cx}{pins:List (Addr×Obj)}{σ:St}{H:Hp}{s:ah}{E:Value→ah→Prop}
theorem Inv.wish (I:Inv X pins σ H s) (E:Value→ah→Prop):Inv (X.wish E) pins σ H s:=⟨I.ok.wish E,I.os,I.bare,I.base,I.loc,I.cell,I.free,I.freeC,I.pin,I.hok,I.len⟩
theorem Inv.unwish (I:Inv (X.wish E) pins σ H s):Inv X pins σ H s:=⟨I.ok.unwish,I.os,I.bare,I.base,I.loc,I.cell,I.free,I.freeC,I.pin,I.hok,I.len⟩
theorem SP.unwish{D:Ends}{f:Flow}{s':ah}(h:SP (X.wish E) pins D f s'):SP X pins D f s':=by
 cases f with
 |next=>obtain⟨σ',H',I,q⟩:=h;exact⟨σ',H',I.unwish,q⟩
 |brk=>obtain⟨σ',H',I,q⟩:=h;exact⟨σ',H',I.unwish,q⟩
 |cont=>obtain⟨σ',H',I,q⟩:=h;exact⟨σ',H',I.unwish,q⟩
 |ret u=>obtain⟨v,σ',H',I,r,q⟩:=h;exact⟨v,σ',H',I.unwish,r,q⟩
theorem PE.nox{e:Expr}{t:TE}(h:PE X.nox e t):PE X e t:=λpins s σ H Q I hw=>
 cg (h pins s σ H Q (I.wish _) hw) (λ_ _ ⟨v,H',I',r,q⟩=>⟨v,H',I'.unwish,r,q⟩) λ_ _ z=>cc z
end
section
variable {X:Cx}{st:Stmt}{rest:List Stmt}{t u:TS}{e:Expr}{te:TE}{pos:aC}
noncomputable def zyn:TS:=λD σ H=>D.nx σ H
noncomputable def zAs (t u:TS):TS:=λD σ H=>t { D with nx:=u D } σ H
theorem pss_nil:PSs X [] zyn:=λ_ _ σ H _ I h=>fT ⟨σ,H,I,h⟩
theorem zsi (h1:PS X st t) (h2:PSs X rest u):PSs X (st::rest) (zAs t u):=by
 intro pins s σ H D I h;refine j_ (thn (h1 pins s σ H { D with nx:=u D } I h) λf s1 q=>?_);cases f with
 |next=>
  obtain⟨σ',H',I',q⟩:=q;exact h2 pins s1 σ' H' D I' q
 |ret v=>exact q
 |brk=>exact q
 |cont=>exact q
theorem zvf (h1:PS X st t):PSs X [st] t:=by
 intro pins s σ H D I h;refine j_ (thn (h1 pins s σ H D I h) λf s1 q=>?_);cases f with
 |next=>exact fT q
 |ret v=>exact q
 |brk=>exact q
 |cont=>exact q
theorem Inv.quiet{pins:List (Addr×Obj)}{σ:St}{H:Hp}{s:ah}(I:Inv X pins σ H s):interactive X.env=false:=by simp [interactive,I.ok.kind]
noncomputable def zyI (te:TE):TS:=λD σ H=>te σ H λ_ H1=>D.nx σ H1
theorem zuo (he:PE X e te) (hs:c7 e none pos.line X.env=pure false:=by rfl):PS X (.Expr e pos) (zyI te):=by
 intro pins s σ H D I h;exact wpAny_Expr_any (thn (he pins s σ H _ I h) λv s1 ⟨x,H1,I1,r1,q1⟩=>⟨σ,H1,I1,q1⟩) I.quiet hs
noncomputable def zAX (te:TE):TS:=λD σ H=>te σ H D.rt
theorem zxG (he:PE X e te):PS X (.Return (ae e) pos) (zAX te):=by
 intro pins s σ H D I h;exact wpAny_Return_some (thn (he pins s σ H _ I h) λv s1 ⟨x,H1,I1,r1,q1⟩=>⟨x,σ,H1,I1,r1,q1⟩)
noncomputable def zAj (c:TT) (t u:TS):TS:=λD σ H=>c σ H λb H1=>if b=true then t D σ H1 else u D σ H1
theorem zyD{c:Expr}{a b:List Stmt}{tc:TT}(hc:PT X c tc) (ha:PSs X a t) (hb:PSs X b u):PS X (.If c a b pos) (zAj tc t u):=by
 intro pins s σ H D I h;refine wpAny_If (thn (hc pins s σ H _ I h) λd s1 ⟨H1,I1,q1⟩=>?_);cases d with
 |true=>exact ha pins s1 σ H1 D I1 q1
 |false=>exact hb pins s1 σ H1 D I1 q1
end
abbrev TG:=V→St→Hp→(St→Hp→Prop)→Prop
abbrev TGs:=List V→St→Hp→(St→Hp→Prop)→Prop
def PG (X:Cx) (target:Expr) (t:TG):Prop:=
 ∀(pins:List (Addr×Obj)) (s:ah) (σ:St) (H:Hp) (v:V) (u:Value) (Q:St→Hp→Prop),Inv X pins σ H s→RelV v u→t v σ H Q→
  am (ap X.prog X.w) X.A (assign target X.env u) (λ_ s'=>∃σ' H',Inv X pins σ' H' s'∧Q σ' H') X.xe s
def PGs (X:Cx) (ts:List Expr) (t:TGs):Prop:=
 ∀(pins:List (Addr×Obj)) (s:ah) (σ:St) (H:Hp) (vs:List V) (us:List Value) (Q:St→Hp→Prop),Inv X pins σ H s→Vals vs us→t vs σ H Q→
  am (ap X.prog X.w) X.A (assignInOrder ((b9 ts X.env).map (·.2)) us) (λ_ s'=>∃σ' H',Inv X pins σ' H' s'∧Q σ' H') X.xe s
abbrev TIp:=V→V→Hp→VK→Prop
def PIp (X:Cx) (op:fR) (t:TIp):Prop:=
 ∀(pins:List (Addr×Obj)) (s:ah) (σ:St) (H:Hp) (x y:V) (v u:Value) (Q:VK),Inv X pins σ H s→RelV x v→RelV y u→t x y H Q→
  am (ap X.prog X.w) X.A (inplaceOp op v u) (EP X pins σ Q) X.xe s
section
variable {X:Cx}{pos:aC}
noncomputable def zvk (i:Nat):TG:=λv σ H Q=>Q (σ.set i (ae v)) H
theorem ztw{i:Nat}{x:Str}(hN:X.N.Nodup) (hi:X.N[i]? =ae x) (hx:Loc X.env.scope x) (hf:X.fn x=true∨X.env.scope.names.lookup x=ae .local:=by first |exact .inl rfl |exact .inr rfl |assumption):PG X (.Name x pos) (zvk i):=by
 intro pins s σ H v u Q I r h;exact iH (zja I hN hi hx r (λs' I'=>⟨_,H,I',h⟩) hf)
noncomputable def zAx:TGs:=λvs σ H Q=>vs=[]∧Q σ H
noncomputable def zzm (t:TG) (u:TGs):TGs:=λvs σ H Q=>∃v r,vs=v::r∧t v σ H λσ' H'=>u r σ' H' Q
theorem ztV:PGs X [] zAx:=by
 intro pins s σ H vs us Q I r h;obtain⟨e,h⟩:=h;subst e;cases r;exact assignInOrder_nil ⟨σ,H,I,h⟩
theorem zsg{e:Expr}{es:List Expr}{t:TG}{u:TGs}(h1:PG X e t) (h2:PGs X es u)
  (hs:(b9 (e::es) X.env).map (·.2)=assign e X.env::(b9 es X.env).map (·.2):=by rfl):PGs X (e::es) (zzm t u):=by
 intro pins s σ H vs us Q I r h;obtain⟨v,vr,e1,h⟩:=h;subst e1;cases r with
 |cons r rr=>
  rw[hs];refine assignInOrder_cons (thn (h1 pins s σ H _ _ _ I r h) λ_ s1 ⟨σ1,H1,I1,q1⟩=>?_);exact h2 pins s1 σ1 H1 _ _ Q I1 rr q1
noncomputable def zAa (K:aj) (n:Nat) (t:TGs):TG:=λv σ H Q=>∃a xs,v= .ref a∧SqT K H a xs∧xs.length=n∧t xs σ H Q
theorem zxq{es:List Expr}{k:Nat}{t:TGs}{n:Nat}(hc:X.calm=true) (h:PGs X es t)
  (hn:(b9 es X.env).length=n:=by rfl) (hst:(b9 es X.env).findIdx? (·.1)=none:=by rfl):PG X (.Tuple es k pos) (zAa X.K n t):=by
 intro pins s σ H v u Q I r hw;obtain⟨a,xs,e1,hq,hl,hw⟩:=hw;subst e1;cases r;obtain⟨its,rv,ht,hz⟩:=I.tuple hq;refine assign_Tuple_tuple (I.ok.hd hc) ht (by simp [hn,←hl,rv.length]) hst λh' hx=>?_;have I1:Inv X pins σ H { s with heap:=h' }:=I.kept (t':=s.toks) λb o e=>hx b o (br (aJ e)) e;exact h pins _ σ H xs _ Q I1 (by simpa using rv) hw
noncomputable def zzL (te:TE) (g:TG):TS:=λD σ H=>te σ H λx H1=>g x σ H1 D.nx
theorem zxR{tg e:Expr}{te:TE}{g:TG}(he:PE X e te) (hg:PG X tg g) (hs:swapsWithSole [tg] e pos.line X.env=pure false:=by rfl) (hw:swappedStores [tg] e X.env=pure none:=by rfl)
  (h1:(b9 [tg] X.env).map (·.2)=[assign tg X.env]:=by rfl):PS X (.Assign [tg] e pos) (zzL te g):=by
 intro pins s σ H D I h;refine wpAny_Assign_stores (thn (he pins s σ H _ I h) λv s1 ⟨x,H1,I1,r1,q1⟩=>?_) hs hw;rw[h1];exact thn (hg pins s1 σ H1 x v _ I1 r1 q1) λ_ s2 q=>q
theorem zwm{i:Nat}{x:Str}{e:Expr}{te:TE}{pos':aC}(hN:X.N.Nodup) (hi:X.N[i]? =ae x) (hx:Loc X.env.scope x) (he:PE X e te) (hs:c7 e (ae (.Name x pos')) pos.line X.env=pure false:=by rfl) (hf:X.fn x=true∨X.env.scope.names.lookup x=ae .local:=by first |exact .inl rfl |exact .inr rfl |assumption) :
  PS X (.Assign [.Name x pos'] e pos) (zzL te (zvk i)):=by
 intro pins s σ H D I h;refine wpAny_Assign_Name (thn (he pins s σ H _ I h) λv s1 ⟨y,H1,I1,r1,q1⟩=>?_) hs;exact zja I1 hN hi hx r1 (λs2 I2=>⟨_,H1,I2,q1⟩) hf
noncomputable def zAF (i:Nat) (te:TE) (ti:TIp):TS:=λD σ H=>∃x,σ[i]? =ae (ae x)∧te σ H λy H1=>ti x y H1 λz H2=>D.nx (σ.set i (ae z)) H2
theorem zwK{i:Nat}{x:Str}{e:Expr}{te:TE}{op:fR}{ti:TIp}{pos':aC}(hN:X.N.Nodup) (hi:X.N[i]? =ae x) (hx:Loc X.env.scope x) (he:PE X e te) (ho:PIp X op ti) (hf:X.fn x=true∨X.env.scope.names.lookup x=ae .local:=by first |exact .inl rfl |exact .inr rfl |assumption) :
  PS X (.AugAssign (.Name x pos') op e pos) (zAF i te ti):=by
 intro pins s σ H D I h;obtain⟨v,e1,h⟩:=h;obtain⟨m,hn,hl⟩:=I.loc;have vis:Vis X.env.scope x:=by rcases hx with k |k;exact .inl k;exact .inr (.inl k)
 obtain⟨u,r,l⟩:=hl i x v hi e1 vis;refine wpAny_AugAssign_Name ?_;have go:am (ap X.prog X.w) X.A (ay e X.env) (λw s₂=>am (ap X.prog X.w) X.A (inplaceOp op u w) (λr s₃=>am (ap X.prog X.w) X.A (gi X.env x r) (λ_=>SP X pins D .next) X.xe s₃) X.xe s₂) X.xe s:=by
  refine thn (he pins s σ H _ I h) λw s1 ⟨y,H1,I1,r1,q1⟩=>?_;refine thn (ho pins s1 σ H1 v y u w _ I1 r r1 q1) λz s2 ⟨zv,H2,I2,r2,q2⟩=>?_;exact zja I2 hN hi hx r2 (λs3 I3=>⟨_,H2,I3,q2⟩) hf
 rcases l with⟨hk,hm⟩ |⟨hk,c,hc,hcell⟩
 ·exact jq I.ok.kind hk hn hm go
 ·rcases hk with hk |hk
  ·exact j6 I.ok.kind hk hc hcell go
  ·rcases hx with k |k
   ·have:X.env.scope.names.lookup x=ae .free:=hk;rw[k]at this;cases this
   ·have:X.env.scope.names.lookup x=ae .free:=hk;rw[k]at this;cases this
noncomputable def ipI (f:Int→Int→Int):TIp:=λx y H Q=>∃i j,x= .int i∧y= .int j∧Q (.int (f i j)) H
theorem zxS:PIp X .Add (ipI λi j=>i+j):=by
 intro pins s σ H x y v u Q I r1 r2 h;obtain⟨i,j,e1,e2,q⟩:=h;subst e1;subst e2;obtain⟨t,rfl⟩:=r1;obtain⟨t',rfl⟩:=r2;exact iadd_int ⟨.int _,H,I.tok _,⟨_,rfl⟩,q⟩
end
section
variable {X:Cx}{pos:aC}
noncomputable def zwH (c:TT) (tb:TS):TS:=λD σ H=>∃W:Nat→St→Hp→Prop,(∃m,W m σ H)∧ ∀m σ H,W m σ H→
 c σ H λb H1=>if b=true then ∃N:St→Hp→Prop,(∀σ' H',N σ' H'→ ∃m',m'<m∧W m' σ' H')∧tb { D with nx:=N,ct:=N,bk:=D.nx } σ H1 else D.nx σ H1
theorem zsm{c:Expr}{body:List Stmt}{tc:TT}{tb:TS}(hp:e_ (ap X.prog X.w) X.A X.env X.xe) (hc:PT X c tc) (hb:PSs X body tb):PS X (.While c body [] pos) (zwH tc tb):=by
 intro pins s σ H D I h;obtain⟨W,⟨m0,w0⟩,turn⟩:=h;refine wpAny_While (codeAny_whileLoop (λn s'=>∃σ' H',Inv X pins σ' H' s'∧W n σ' H') ?_ m0 ⟨σ,H,I,w0⟩);rintro n s1 ⟨σ1,H1,I1,w1⟩;refine dD hp (thn (hc pins s1 σ1 H1 _ I1 (turn n σ1 H1 w1)) λb s2 ⟨H2,I2,q2⟩=>?_);cases b with
 |true=>
  obtain⟨N,hN,q2⟩:=q2;rw[if_pos rfl];refine dD hp (thn (hb pins s2 σ1 H2 _ I2 q2) λf s3 q3=>?_);cases f with
  |next=>
   obtain⟨σ3,H3,I3,n3⟩:=q3;obtain⟨m',hm,w3⟩:=hN σ3 H3 n3;exact⟨m',hm,σ3,H3,I3,w3⟩
  |cont=>
   obtain⟨σ3,H3,I3,n3⟩:=q3;obtain⟨m',hm,w3⟩:=hN σ3 H3 n3;exact⟨m',hm,σ3,H3,I3,w3⟩
  |brk=>exact q3
  |ret v=>exact q3
 |false=>
  rw[if_neg cT];exact fT ⟨σ1,H2,I2,q2⟩
end
structure It where
  go:Nat→Hp→Prop
  yld:Nat→Hp→V→Hp→Prop
  stop:Nat→Hp→Prop
def zjh (X:Cx) (pins:List (Addr×Obj)) (H:Hp) (b:Addr):Prop:=
 H b=none∧b≠X.env.locals∧b∉X.fs∧(b∈X.ex∨X.s₀.heap.objs.size≤b)∧(∀x c,X.env.cells.lookup x=ae c→c≠b)∧ ∀p∈X.pn++pins,p.1≠b
theorem Inv.fpOk{X:Cx}{pins:List (Addr×Obj)}{σ:St}{H H':Hp}{s:ah}{b:Addr}(I:Inv X pins σ H s) (hb:s.heap.objs.size≤b) (hn:H' b=none):zjh X pins H' b:=by
 refine⟨hn,cD (bH I.lt hb),I.nofs hb, .inr (aW I.sz hb),λx c e z=>?_,λp hp z=>?_⟩
 ·obtain⟨v,q⟩:=I.cell x c e;exact absurd (bH q.lt (by rw[z];exact hb)) (cE _)
 ·exact absurd (bH (aJ (I.pin p hp).1) (by rw[z];exact hb)) (cE _)
structure Turn (P:aE) (w:aB) (K:aj) (tg:Expr) (J:It) (fp:List Addr) (it:Addr) (tn:Nat→Heap→Prop):Prop where
  mem:it∈fp
  obj:∀i h,tn i h→ ∀b∈fp,∃o,h.get? b=ae o∧ ∀v,o.data≠ .cell v
  keep:∀i h h',tn i h→(∀b∈fp,∀o,h.get? b=ae o→h'.get? b=ae o)→tn i h'
  item:∀(X:Cx),X.prog=P→X.w=w→X.K=K→X.calm=true→ ∀(i:Nat) (pins:List (Addr×Obj)) (s:ah) (σ:St) (H:Hp) (E:Value→ah→Prop),Inv X pins σ H s→(∀b∈fp,zjh X pins H b)→tn i s.heap→J.go i H→
    am (ap P w) X.A (bT (.ref it)) (λr s1=>∃u,r=ae u∧
      am (ap P w) X.A (fQ tg (.ref it) u) (λ_ s2=>∃x H',Inv X pins σ H' s2∧RelV x u∧J.yld i H x H'∧tn (i+1) s2.heap∧ ∀b∈fp,H' b=none) E s1) E s
  done:∀(X:Cx),X.prog=P→X.w=w→X.K=K→X.calm=true→ ∀(i:Nat) (pins:List (Addr×Obj)) (s:ah) (σ:St) (H:Hp) (E:Value→ah→Prop),Inv X pins σ H s→(∀b∈fp,zjh X pins H b)→tn i s.heap→J.stop i H→
    am (ap P w) X.A (bT (.ref it)) (λr s1=>r=none∧Inv X pins σ H s1) E s
  self:∀(A:aN) (i:Nat) (s:ah) (Q:Value→ah→Prop) (E:Value→ah→Prop),tn i s.heap→Q (.ref it) s→am (ap P w) A (dh (.ref it)) Q E s
abbrev TI:=St→Hp→(It→Hp→Prop)→Prop
def PIE (X:Cx) (pins:List (Addr×Obj)) (σ:St) (tg:Expr) (R:It→Hp→Prop) (itv:Value) (s2:ah):Prop:=
 ∃(it:Addr) (fp:List Addr) (tn:Nat→Heap→Prop) (J:It) (H':Hp),itv= .ref it∧Inv X pins σ H' s2∧Turn X.prog X.w X.K tg J fp it tn∧tn 0 s2.heap∧(∀b∈fp,zjh X pins H' b)∧R J H'
def PI (X:Cx) (tg iter:Expr) (wi:TI):Prop:=
 ∀(pins:List (Addr×Obj)) (s:ah) (σ:St) (H:Hp) (R:It→Hp→Prop),Inv X pins σ H s→wi σ H R→
  am (ap X.prog X.w) X.A (ay iter X.env) (λv s1=>am (ap X.prog X.w) X.A (dh v) (PIE X pins σ tg R) X.xe s1) X.xe s
theorem zrc{M:Model}{A:aN}{E:Value→ah→Prop}{s:ah}{tg:Expr}{it:Addr}{u:Value}{o:Obj}{n:String}{vs:Array Value}{Q:Unit→ah→Prop}(ho:s.heap.get? it=ae o) (hc:o.cls= .type n) (hd:o.data= .fields vs)
    (hn: ["enumerate", "zip", "dict_itemiterator", "dict_reverseitemiterator", "odict_iterator", "itertools.zip_longest", "itertools.pairwise"].contains n=false) (hQ:Q () s):am M A (fQ tg (.ref it) u) Q E s:=by
  unfold fQ;cases tg<;>first
    |exact aD hQ
    | (cases u<;>first
        |exact aD hQ
        | (refine ak (wpAny_load ho ?_)
           rw[hc,hd];show am M A (if(["enumerate", "zip", "dict_itemiterator", "dict_reverseitemiterator", "odict_iterator", "itertools.zip_longest", "itertools.pairwise"].contains n&&vs[0]? == ae (cj _))=true then _ else _) Q E s;rw[if_neg (by intro h;rw[hn,Bool.false_and]at h;cases h)];exact aD hQ))
noncomputable def Itl (K:aj) (a:Addr):It:=
 ⟨λi H=>∃xs x,SqL K H a xs∧xs[i]? =ae x,λi H x H'=>H'=H∧ ∀xs,SqL K H a xs→xs[i]? =ae x,λi H=>∃xs,SqL K H a xs∧xs.length≤i⟩
noncomputable def Itt (K:aj) (a:Addr):It:=
 ⟨λi H=>∃xs x,SqT K H a xs∧xs[i]? =ae x,λi H x H'=>H'=H∧ ∀xs,SqT K H a xs→xs[i]? =ae x,λi H=>∃xs,SqT K H a xs∧xs.length≤i⟩
noncomputable def Itr (lo:Int) (n:Nat):It:=⟨λi _=>i<n,λi H x H'=>H'=H∧x= .int (lo+i),λi _=>n≤i⟩
theorem zoL{P:aE}{w:aB}{K:aj}{tg:Expr}(a it:Addr):Turn P w K tg (Itl K a) [it] it (λi h=>h.IsListIter it a i) where
  mem:=by simp
  obj:=λi h st b hb=>by
    have e:b=it:=by simpa using hb
    subst e;obtain⟨o,e,c,d⟩:=st;exact⟨o,e,λv z=>by rw[d]at z;cases z⟩
  keep:=λi h h' st k=>st.at λo e=>k it (by simp) o e
  item:=by
    intro X hP hw hK hc i pins s σ H E I hf st hg;subst hP hw hK;obtain⟨xs,x,hq,hx⟩:=hg;obtain⟨its,rv,p,hz⟩:=I.list hq;obtain⟨u,hu,ru⟩:=rv.get hx;obtain⟨f0,f1,f2,f3,f4,f5⟩:=hf it (by simp);refine wpAny_pyNext_list_item st p.isList (x:=u) (by simpa using hu) λh' st' sb=>?_;have I1:Inv X pins σ H { s with heap:=h' }:=I.turned (t':=s.toks) (λb o hb e=>(sb.2 b hb).trans e) f0 f1 f3 f4 f5;obtain⟨o,e,c,d⟩:=id st';exact⟨u,rfl,zrc (s:={ s with heap:=h' }) e c d (by decide) ⟨x,H,I1,ru,⟨rfl,λys hy=>by rw[I.list_inj hy hq];exact hx⟩,st',λb hb=>(hf b hb).1⟩⟩
  done:=by
    intro X hP hw hK hc i pins s σ H E I hf st hg;subst hP hw hK;obtain⟨xs,hq,hx⟩:=hg;obtain⟨its,rv,p,hz⟩:=I.list hq;obtain⟨f0,f1,f2,f3,f4,f5⟩:=hf it (by simp);have hl:=rv.length;exact wpAny_pyNext_list_end (I.ok.hd hc) st p.isList (by simp;omega) λh' eb=>⟨rfl,I.turned (t':=s.toks) (λb o hb e=>eb b o hb e) f0 f1 f3 f4 f5⟩
  self:=λ_ _ _ _ _ st h=>wpAny_pyIter_listiter st h
theorem znt{P:aE}{w:aB}{K:aj}{tg:Expr}(a it:Addr):Turn P w K tg (Itt K a) [it] it (λi h=>h.IsTupleIter it a i) where
  mem:=by simp
  obj:=λi h st b hb=>by
    have e:b=it:=by simpa using hb
    subst e;obtain⟨o,e,c,d⟩:=st;exact⟨o,e,λv z=>by rw[d]at z;cases z⟩
  keep:=λi h h' st k=>st.at λo e=>k it (by simp) o e
  item:=by
    intro X hP hw hK hc i pins s σ H E I hf st hg;subst hP hw hK;obtain⟨xs,x,hq,hx⟩:=hg;obtain⟨its,rv,p,hz⟩:=I.tuple hq;obtain⟨u,hu,ru⟩:=rv.get hx;obtain⟨f0,f1,f2,f3,f4,f5⟩:=hf it (by simp);refine wpAny_pyNext_tuple_item st (show s.heap.IsTuple a its.toArray from p) (x:=u) (by simpa using hu) λh' st' sb=>?_;have I1:Inv X pins σ H { s with heap:=h' }:=I.turned (t':=s.toks) (λb o hb e=>(sb.2 b hb).trans e) f0 f1 f3 f4 f5;obtain⟨o,e,c,d⟩:=id st';exact⟨u,rfl,zrc (s:={ s with heap:=h' }) e c d (by decide) ⟨x,H,I1,ru,⟨rfl,λys hy=>by rw[I.tuple_inj hy hq];exact hx⟩,st',λb hb=>(hf b hb).1⟩⟩
  done:=by
    intro X hP hw hK hc i pins s σ H E I hf st hg;subst hP hw hK;obtain⟨xs,hq,hx⟩:=hg;obtain⟨its,rv,p,hz⟩:=I.tuple hq;obtain⟨f0,f1,f2,f3,f4,f5⟩:=hf it (by simp);have hl:=rv.length;exact wpAny_pyNext_tuple_end (I.ok.hd hc) st (show s.heap.IsTuple a its.toArray from p) (by simp;omega) λh' eb=>⟨rfl,I.turned (t':=s.toks) (λb o hb e=>eb b o hb e) f0 f1 f3 f4 f5⟩
  self:=λ_ _ _ _ _ st h=>wpAny_pyIter_tupleiter st h
theorem znM{P:aE}{w:aB}{K:aj}{tg:Expr}(it:Addr) (lo:Int) (n:Nat):Turn P w K tg (Itr lo n) [it] it (λi h=>IsRangeIter h it (lo+(i:Nat)*1) ((n:Int) - (i:Nat)) 1) where
  mem:=by simp
  obj:=λi h st b hb=>by
    have e:b=it:=by simpa using hb
    subst e;exact⟨_,st,λv z=>by
      have z':Data.fields _=Data.cell v:=z;cases z'⟩
  keep:=λi h h' st k=>k it (by simp) _ st
  item:=by
    intro X hP hw hK hc i pins s σ H E I hf st hg;subst hP hw hK;obtain⟨f0,f1,f2,f3,f4,f5⟩:=hf it (by simp);have W:=dS.range (prog:=X.prog) (w:=X.w) (I.ok.hd hc) it lo 1 n;refine W.item i s _ _ hg st λv h' tk hv st' kk=>?_;obtain⟨t,rfl⟩:=hv;have I1:Inv X pins σ H { s with heap:=h',toks:=tk }:=I.turned (λb o hb e=>kk b o (by simpa using hb) e) f0 f1 f3 f4 f5;refine⟨_,rfl,zrc (s:={ s with heap:=h',toks:=tk }) (n:= "range_iterator") st' rfl rfl (by decide) ⟨.int (lo+i),H,I1,⟨t,?_⟩,⟨rfl,rfl⟩,st',λb hb=>(hf b hb).1⟩⟩;rw[Int.mul_one]
  done:=by
    intro X hP hw hK hc i pins s σ H E I hf st hg;subst hP hw hK;obtain⟨f0,f1,f2,f3,f4,f5⟩:=hf it (by simp);exact wpAny_pyNext_range_end (I.ok.hd hc) st (by have:n≤i:=hg;omega) λh' eb=>⟨rfl,I.turned (t':=s.toks) (λb o hb e=>eb b o hb e) f0 f1 f3 f4 f5⟩
  self:=λ_ _ _ _ _ st h=>wpAny_pyIter_rangeiter st h
section
variable {X:Cx}{tg:Expr}
theorem zrO{pins:List (Addr×Obj)}{σ:St}{H:Hp}{s:ah}{R:It→Hp→Prop}{E:Value→ah→Prop}{lo hi:Int}{t u v:bg}{tk:Nat}(I:Inv X pins σ H s) (h1: -(2 ^ 62)≤lo) (h2:lo<2 ^ 62) (h3: -(2 ^ 62)≤hi) (h4:hi<2 ^ 62)
  (q:R (Itr lo (hi - lo).toNat) H):am (ap X.prog X.w) X.A (dh (.ref s.heap.objs.size)) (PIE X pins σ tg R) E { s with heap:=s.heap.push { cls:= .type "range",data:= .fields #[.int lo t, .int hi u, .int 1 v] },toks:=tk }:=by
 refine wpAny_pyIter_range (IsRange.new ..) (small_one h1 h2 h3 h4) ?_;have I1:Inv X pins σ H { s with heap:=s.heap.push { cls:= .type "range",data:= .fields #[.int lo t, .int hi u, .int 1 v] },toks:=tk }:=I.kept λb o e=>aH _ e;refine⟨(s.heap.push { cls:= .type "range",data:= .fields #[.int lo t, .int hi u, .int 1 v] }).objs.size,[(s.heap.push { cls:= .type "range",data:= .fields #[.int lo t, .int hi u, .int 1 v] }).objs.size],_,_,H,rfl,
  I1.kept (t':=tk) λb o e=>aH _ e,znM _ lo (hi - lo).toNat,?_,λb hb=>?_,q⟩
 ·have e1:lo+((0:Nat):Int)*1=lo:=by simp
  have e2:(((hi - lo).toNat:Nat):Int) - ((0:Nat):Int)=bU.Range.rangeSize lo hi 1:=by rw[rangeSize_one];split<;>omega
  show IsRangeIter _ _ (lo+((0:Nat):Int)*1) ((((hi - lo).toNat:Nat):Int) - ((0:Nat):Int)) 1;rw[e1,e2];exact bi _ rfl
 ·have e:b=(s.heap.push { cls:= .type "range",data:= .fields #[.int lo t, .int hi u, .int 1 v] }).objs.size:=by simpa using hb
  subst e;exact I1.fpOk (au _) (I1.hok.fresh (au _))
noncomputable def zzC (ta:TA):TI:=λσ H R=>ta σ H λvs H1=>∃j:Int,vs=[.int j]∧ -(2 ^ 62)≤j∧j<2 ^ 62∧R (Itr 0 j.toNat) H1
theorem zou{a:Expr}{ta:TA}{p pos:aC}(hg:Gl X "range") (hm:X.mg "range" =none) (ha:PA X [a] ta) (hs:ao [a] X.env=[(false,ay a X.env)]:=by rfl):PI X tg (.Call (.Name "range" p) [a] [] pos) (zzC ta):=by
 intro pins s σ H R I h;refine Call_ (zii I hg hm boot_range (fu (thn (ha pos pins s σ H _ I h) λus s1 ⟨vs,H1,I1,r1,q1⟩=>?_) hs rfl));obtain⟨j,e,q1,q2,q⟩:=q1;subst e;cases r1 with
 |cons r rr=>
  cases rr;obtain⟨t,rfl⟩:=r;exact call_range_1 (zrO I1 (by omega) (by omega) q1 q2 (by simpa using q))
noncomputable def zzW (wi:TI) (g:TG) (tb:TS):TS:=λD σ H=>wi σ H λJ H1=>∃W:Nat→Nat→St→Hp→Prop,(∃m,W 0 m σ H1)∧ ∀i m σ H,W i m σ H→
 (J.stop i H∧D.nx σ H)∨(J.go i H∧ ∃N:St→Hp→Prop,(∀σ' H',N σ' H'→ ∃m',m'<m∧W (i+1) m' σ' H')∧ ∀x H',J.yld i H x H'→g x σ H' λσ2 H2=>tb { D with nx:=N,ct:=N,bk:=D.nx } σ2 H2)
noncomputable def zjp (fp:List Addr) (h:Heap):List (Addr×Obj):=fp.filterMap λb=>(h.get? b).map λo=>(b,o)
theorem zes{fp:List Addr}{h:Heap}{b:Addr}{o:Obj}(hb:b∈fp) (e:h.get? b=ae o):(b,o)∈zjp fp h:=ia.mpr ⟨b,hb,by rw[e];rfl⟩
theorem zqM{fp:List Addr}{h:Heap}{p:Addr×Obj}(hp:p∈zjp fp h):p.1∈fp∧h.get? p.1=ae p.2:=by
 obtain⟨b,hb,e⟩:=ia.mp hp;cases q:h.get? b with
 |none=>rw[q]at e;cases e
 |some o=>
  rw[q]at e;have e':(b,o)=p:=aG e;subst e';exact⟨hb,q⟩
theorem Inv.pinned{pins:List (Addr×Obj)}{σ:St}{H:Hp}{s:ah}{fp:List Addr}(I:Inv X pins σ H s) (hf:∀b∈fp,zjh X pins H b) (ho:∀b∈fp,∃o,s.heap.get? b=ae o∧ ∀v,o.data≠ .cell v):Inv X (pins++zjp fp s.heap) σ H s:=
 I.pins_of λp hp=>(bu.mp hp).elim (λz=>I.pin p (ck _ z)) λz=>by
  obtain⟨hb,e⟩:=zqM z;obtain⟨f0,f1,f2,_⟩:=hf p.1 hb;obtain⟨o,e',d⟩:=ho p.1 hb;rw[e]at e';cases e';exact⟨e,f0,f1,f2,d⟩
theorem Inv.unpinned{pins pl:List (Addr×Obj)}{σ:St}{H:Hp}{s:ah}(I:Inv X (pins++pl) σ H s):Inv X pins σ H s:=I.pins_of λp hp=>I.pin p (ck _ (jI _ hp))
theorem zxB{iter:Expr}{body:List Stmt}{wi:TI}{g:TG}{tb:TS}{pos:aC}(hp:e_ (ap X.prog X.w) X.A X.env X.xe) (hc:X.calm=true) (hi:PI X tg iter wi) (hg:PG X tg g) (hb:PSs X body tb)
  (hs:∀x,dL iter X.env x=pure x:=by intro _;rfl):PS X (.For tg iter body [] pos) (zzW wi g tb):=by
 intro pins s σ H D I h;refine wpAny_For (thn (hi pins s σ H _ I h) λv s1 h1=>thn h1 λitv s2 h2=>?_) hs;obtain⟨it,fp,tn,J,H2,e,I2,T,st2,f2,W,⟨m0,w0⟩,turn⟩:=h2;subst e;have stat:∀{H':Hp},(∀b∈fp,H' b=none)→ ∀b∈fp,zjh X pins H' b:=λhn b hb=>⟨hn b hb,(f2 b hb).2⟩;refine codeAny_forLoop_any (λn s'=>∃i σ' H',Inv X pins σ' H' s'∧tn i s'.heap∧(∀b∈fp,H' b=none)∧W i n σ' H') ?_ m0 ⟨0,σ,H2,I2,st2,λb hb=>(f2 b hb).1,w0⟩;rintro n s3 ⟨i,σ3,H3,I3,st3,fr3,w3⟩;rcases turn i n σ3 H3 w3 with⟨stop,qn⟩ |⟨go,N,hN,step⟩
 ·refine dD hp (thn (T.done X rfl rfl rfl hc i pins s3 σ3 H3 X.xe I3 (stat fr3) st3 stop) λr s4 ⟨hr,I4⟩=>?_);subst hr;exact fT ⟨σ3,H3,I4,qn⟩
 ·refine dD hp (thn (T.item X rfl rfl rfl hc i pins s3 σ3 H3 X.xe I3 (stat fr3) st3 go) λr s4 ⟨u,hr,h4⟩=>?_);subst hr;refine dD hp (thn h4 λ_ s5 ⟨x,H5,I5,r5,y5,st5,fr5⟩=>?_);have I5':=I5.pinned (stat fr5) (T.obj _ _ st5);refine dD hp (thn (hg _ s5 σ3 H5 x u _ I5' r5 (step x H5 y5)) λ_ s6 ⟨σ6,H6,I6,q6⟩=>?_);refine dD hp (thn (hb _ s6 σ6 H6 _ I6 q6) λf s7 q7=>?_);have again:∀{σ7:St}{H7:Hp},Inv X (pins++zjp fp s5.heap) σ7 H7 s7→N σ7 H7→ ∃m,m<n∧ ∃i σ' H',Inv X pins σ' H' s7∧tn i s7.heap∧(∀b∈fp,H' b=none)∧W i m σ' H':=λ{σ7 H7} I7 n7=>by
   obtain⟨m',hm,w7⟩:=hN σ7 H7 n7;refine⟨m',hm,i+1,σ7,H7,I7.unpinned,T.keep _ _ _ st5 λb hb o e=>(I7.pin (b,o) (ck _ (ck _ (zes hb e)))).1,λb hb=>?_,w7⟩;obtain⟨o,e,d⟩:=T.obj _ _ st5 b hb;exact(I7.pin (b,o) (ck _ (ck _ (zes hb e)))).2.1
  cases f with
  |next=>obtain⟨σ7,H7,I7,n7⟩:=q7;exact again I7 n7
  |cont=>obtain⟨σ7,H7,I7,n7⟩:=q7;exact again I7 n7
  |brk=>obtain⟨σ7,H7,I7,q7⟩:=q7;exact⟨σ7,H7,I7.unpinned,q7⟩
  |ret v=>obtain⟨x7,σ7,H7,I7,r7,q7⟩:=q7;exact⟨x7,σ7,H7,I7.unpinned,r7,q7⟩
end
abbrev R2:=V→V→Hp→VK→Prop
def OpR (X:Cx) (f:Value→Value→bW Value) (r:R2):Prop:=
 ∀(pins:List (Addr×Obj)) (s:ah) (σ:St) (H:Hp) (x y:V) (v u:Value) (Q:VK),Inv X pins σ H s→RelV x v→RelV y u→r x y H Q→
  am (ap X.prog X.w) X.A (f v u) (EP X pins σ Q) X.xe s
def UnR (X:Cx) (f:Value→bW Value) (r:V→Hp→VK→Prop):Prop:=
 ∀(pins:List (Addr×Obj)) (s:ah) (σ:St) (H:Hp) (x:V) (v:Value) (Q:VK),Inv X pins σ H s→RelV x v→r x H Q→
  am (ap X.prog X.w) X.A (f v) (EP X pins σ Q) X.xe s
def CallR (X:Cx) (f:Value) (r:List V→Hp→VK→Prop):Prop:=
 ∀(pins:List (Addr×Obj)) (s:ah) (σ:St) (H:Hp) (xs:List V) (us:List Value) (Q:VK),Inv X pins σ H s→Vals xs us→r xs H Q→
  am (ap X.prog X.w) X.A (call f us) (EP X pins σ Q) X.xe s
def zAN (X:Cx) (r:V→Hp→(Bool→Hp→Prop)→Prop):Prop:=
 ∀(pins:List (Addr×Obj)) (s:ah) (σ:St) (H:Hp) (x:V) (v:Value) (Q:Bool→Hp→Prop),Inv X pins σ H s→RelV x v→r x H Q→
  am (ap X.prog X.w) X.A (truthy v) (TP X pins σ Q) X.xe s
noncomputable def tOp (r:R2) (ta tb:TE):TE:=λσ H Q=>ta σ H λx H1=>tb σ H1 λy H2=>r x y H2 Q
noncomputable def tUn (r:V→Hp→VK→Prop) (ta:TE):TE:=λσ H Q=>ta σ H λx H1=>r x H1 Q
noncomputable def rI (C:Int→Int→Prop) (g:Int→Int→V):R2:=λx y H Q=>∃i j,x= .int i∧y= .int j∧C i j∧Q (g i j) H
noncomputable def rI0 (g:Int→Int→V):R2:=λx y H Q=>∃i j,x= .int i∧y= .int j∧Q (g i j) H
def rU (g:Int→V):V→Hp→VK→Prop:=λx H Q=>∃i,x= .int i∧Q (g i) H
section
variable {X:Cx}{a b:Expr}{ta tb:TE}{pos:aC}
theorem zyY (ha:PE X a ta) (hb:PE X b tb) {pins:List (Addr×Obj)}{s:ah}{σ:St}{H:Hp}{R:V→V→Hp→Prop}(I:Inv X pins σ H s)
  (h:ta σ H λx H1=>tb σ H1 λy H2=>R x y H2) {Q:Value→ah→Prop}{f:Value→Value→bW Value}
  (hf:∀v u s2 x y H2,Inv X pins σ H2 s2→RelV x v→RelV y u→R x y H2→am (ap X.prog X.w) X.A (f v u) Q X.xe s2) :
  am (ap X.prog X.w) X.A (ay a X.env) (λv s₁=>am (ap X.prog X.w) X.A (ay b X.env) (λu s₂=>am (ap X.prog X.w) X.A (f v u) Q X.xe s₂) X.xe s₁) X.xe s:=by
 refine thn (ha pins s σ H _ I h) λv s1 ⟨x,H1,I1,r1,q1⟩=>?_;refine thn (hb pins s1 σ H1 _ I1 q1) λu s2 ⟨y,H2,I2,r2,q2⟩=>?_;exact hf v u s2 x y H2 I2 r1 r2 q2
theorem zpH{op:fR}{r:R2}(ho:OpR X (bM op) r) (ha:PE X a ta) (hb:PE X b tb):PE X (.BinOp a op b pos) (tOp r ta tb):=by
 intro pins s σ H Q I h;exact wpAny_BinOp (zyY ha hb I h λv u s2 x y H2 I2 rx ry q=>ho pins s2 σ H2 x y v u Q I2 rx ry q)
theorem zzb{op:UnaryOp}{r:V→Hp→VK→Prop}(ho:UnR X (unaryOp op) r) (ha:PE X a ta):PE X (.UnaryOp op a pos) (tUn r ta):=by
 intro pins s σ H Q I h;exact UnaryOp_ (thn (ha pins s σ H _ I h) λv s1 ⟨x,H1,I1,r1,q1⟩=>ho pins s1 σ H1 x v Q I1 r1 q1)
theorem opI{f:Value→Value→bW Value}{C:Int→Int→Prop}{g:Int→Int→Int}
  (rule:∀(i j:Int) (t u:bg) (s:ah) (Q:Value→ah→Prop) (E:Value→ah→Prop),C i j→Q (.int (g i j) s.toks) { s with toks:=s.toks+1 }→am (ap X.prog X.w) X.A (f (.int i t) (.int j u)) Q E s) :
  OpR X f (rI C λi j=> .int (g i j)):=by
 intro pins s σ H x y v u Q I rx ry h;obtain⟨i,j,rfl,rfl,hc,q⟩:=h;obtain⟨t,rfl⟩:=rx;obtain⟨t',rfl⟩:=ry;exact rule i j t t' s _ _ hc ⟨.int (g i j),H,I.tok _,⟨_,rfl⟩,q⟩
theorem zzP{f:Value→Value→bW Value}{g:Int→Int→Int}
  (rule:∀(i j:Int) (t u:bg) (s:ah) (Q:Value→ah→Prop) (E:Value→ah→Prop),Q (.int (g i j) s.toks) { s with toks:=s.toks+1 }→am (ap X.prog X.w) X.A (f (.int i t) (.int j u)) Q E s) :
  OpR X f (rI0 λi j=> .int (g i j)):=by
 intro pins s σ H x y v u Q I rx ry h;obtain⟨i,j,rfl,rfl,q⟩:=h;obtain⟨t,rfl⟩:=rx;obtain⟨t',rfl⟩:=ry;exact rule i j t t' s _ _ ⟨.int (g i j),H,I.tok _,⟨_,rfl⟩,q⟩
theorem zyO{f:Value→Value→bW Value}{g:Int→Int→Bool}
  (rule:∀(i j:Int) (t u:bg) (s:ah) (Q:Value→ah→Prop) (E:Value→ah→Prop),Q (.bool (g i j)) s→am (ap X.prog X.w) X.A (f (.int i t) (.int j u)) Q E s) :
  OpR X f (rI0 λi j=> .bl (g i j)):=by
 intro pins s σ H x y v u Q I rx ry h;obtain⟨i,j,rfl,rfl,q⟩:=h;obtain⟨t,rfl⟩:=rx;obtain⟨t',rfl⟩:=ry;exact rule i j t t' s _ _ ⟨.bl (g i j),H,I,rfl,q⟩
def ziu (i j:Int):Prop:=0<j∧j<1073741824
def zzx (i j:Int):Prop:=0≤j∧j≤1000000∧i.natAbs<2 ^ 64
def CMul (i j:Int):Prop:=(-(2 ^ 64)<i∧i<2 ^ 64)∨(-(2 ^ 64)<j∧j<2 ^ 64)
theorem CMul.ok{i j:Int}(h:CMul i j):IntMulOk i j:=by
 rcases h with⟨h1,h2⟩ |⟨h1,h2⟩
 ·exact .of_left (intBits_le_64 h1 h2)
 ·exact .of_right (intBits_le_64 h1 h2)
theorem op_add:OpR X (bM .Add) (rI0 λi j=> .int (i+j)):=zzP λ_ _ _ _ _ _ _ q=>add_int q
theorem zxz:OpR X (bM .Sub) (rI0 λi j=> .int (i - j)):=zzP λ_ _ _ _ _ _ _ q=>sub_int q
theorem zwy:OpR X (bM .Mult) (rI CMul λi j=> .int (i*j)):=opI λ_ _ _ _ _ _ _ hc q=>mul_int q hc.ok
theorem zuY:OpR X (bM .FloorDiv) (rI ziu λi j=> .int (i / j)):=opI λi j _ _ _ _ _ hc q=>by
 have h1:(0:Int)<j:=hc.1;have h2:j<1073741824:=hc.2;exact floordiv_int (by omega) (by rw[Int.fdiv_eq_ediv_of_nonneg i (by omega)];exact q) (.inl (PyProof.noPylong_small (by omega)))
theorem zxK:OpR X (bM .Mod) (rI (λ_ j=>0<j) λi j=> .int (i % j)):=opI λi j _ _ _ _ _ hc q=>by
 have h1:(0:Int)<j:=hc;exact mod_int' (by omega) (by rw[Int.fmod_eq_emod_of_nonneg i (by omega)];exact q)
theorem zwY:OpR X (bM .Pow) (rI zzx λi j=> .int (i ^ j.toNat)):=opI λ_ _ _ _ _ _ _ hc q=>pow_int_small hc.1 hc.2.1 hc.2.2 q
theorem unI{f:Value→bW Value}{g:Int→Int}
  (rule:∀(i:Int) (t:bg) (s:ah) (Q:Value→ah→Prop) (E:Value→ah→Prop),Q (.int (g i) s.toks) { s with toks:=s.toks+1 }→am (ap X.prog X.w) X.A (f (.int i t)) Q E s) :
  UnR X f (rU λi=> .int (g i)):=by
 intro pins s σ H x v Q I rx h;obtain⟨i,rfl,q⟩:=h;obtain⟨t,rfl⟩:=rx;exact rule i t s _ _ ⟨.int (g i),H,I.tok _,⟨_,rfl⟩,q⟩
theorem zxW:UnR X (unaryOp .USub) (rU λi=> .int (-i)):=unI λ_ _ _ _ _ q=>neg_int q
end
section
variable {X:Cx}{a b c:Expr}{ta tb:TE}{pos:aC}
theorem zoq{pins:List (Addr×Obj)}{σ:St}{H:Hp}{s:ah}{Q:VK}{k k':Bool}(I:Inv X pins σ H s) (q:Q (.bl k) H) (e:k=k'):EP X pins σ Q (.bool k') s:=by
 subst e;exact⟨.bl k,H,I,rfl,q⟩
theorem zyj:OpR X (bF .Lt) (rI0 λi j=> .bl (decide (i<j))):=zyO λ_ _ _ _ _ _ _ q=>lt_int q
theorem zyl:OpR X (bF .Gt) (rI0 λi j=> .bl (decide (j<i))):=zyO λ_ _ _ _ _ _ _ q=>gt_int q
theorem zyQ:OpR X (bF .GtE) (rI0 λi j=> .bl (decide (j≤i))):=zyO λ_ _ _ _ _ _ _ q=>ge_int q
theorem op_isN:OpR X (bF .Is) (λx y H Q=>y= .non∧Q (.bl (decide (x= .non))) H):=by
 intro pins s σ H x y v u Q I rx ry h;obtain⟨rfl,q⟩:=h;cases ry;refine is_none_gen (zoq I q ?_);cases x<;>first
  | (cases rx;rfl)
  | (obtain⟨t,rfl⟩:=rx;rfl)
theorem op_notN:OpR X (bF .IsNot) (λx y H Q=>y= .non∧Q (.bl (!decide (x= .non))) H):=by
 intro pins s σ H x y v u Q I rx ry h;obtain⟨rfl,q⟩:=h;cases ry;refine isnot_none_gen (zoq I q ?_);cases x<;>first
  | (cases rx;rfl)
  | (obtain⟨t,rfl⟩:=rx;rfl)
theorem op_notin_str:OpR X (bF .NotIn) (λx y H Q=>∃i j,x= .str i∧y= .str j∧Q (.bl (!(!(cR j i 0 j.length 1).isEmpty))) H):=by
 intro pins s σ H x y v u Q I rx ry h;obtain⟨i,j,rfl,rfl,q⟩:=h;obtain⟨t,rfl⟩:=rx;obtain⟨t',rfl⟩:=ry;exact notIn_str (zoq I q rfl)
theorem OpR.or{f:Value→Value→bW Value}{r r':R2}(h:OpR X f r) (h':OpR X f r'):OpR X f (λx y H Q=>r x y H Q∨r' x y H Q):=by
 intro pins s σ H x y v u Q I rx ry q;rcases q with q |q
 ·exact h pins s σ H x y v u Q I rx ry q
 ·exact h' pins s σ H x y v u Q I rx ry q
theorem nomark (b:Expr) {op:dy}(h:op≠ .In:=by decide) (h2:op≠ .NotIn:=by decide):de op b=false:=by
 have e1:(op == dy.In)=false:=by cases op<;>first |rfl |exact absurd rfl h
 have e2:(op == dy.NotIn)=false:=by cases op<;>first |rfl |exact absurd rfl h2
 cases b<;>simp [de,e1,e2]
theorem ztC{op:dy}{r:R2}(ho:OpR X (bF op) r) (ha:PE X a ta) (hb:PE X b tb) (hm:de op b=false):PE X (.Compare a [op] [b] pos) (tOp r ta tb):=by
 intro pins s σ H Q I h;exact wpAny_Compare1 (zyY ha hb I h λv u s2 x y H2 I2 rx ry q=>ho pins s2 σ H2 x y v u Q I2 rx ry q) hm
noncomputable def zyT (t:TE):TT:=λσ H Q=>t σ H λx H'=>∃k,x= .bl k∧Q k H'
theorem zuS{op:dy}{r:R2}(ho:OpR X (bF op) r) (ha:PE X a ta) (hb:PE X b tb) (hm:de op b=false):PT X (.Compare a [op] [b] pos) (zyT (tOp r ta tb)):=by
 intro pins s σ H Q I h;refine wpAny_isTrue_Compare1 (thn (ha pins s σ H _ I h) λv s1 ⟨x,H1,I1,r1,q1⟩=>thn (hb pins s1 σ H1 _ I1 q1) λu s2 ⟨y,H2,I2,r2,q2⟩=>
  thn (ho pins s2 σ H2 x y v u _ I2 r1 r2 q2) λc s3 ⟨z,H3,I3,r3,k,e,q3⟩=>?_) hm
 subst e;cases r3;exact gX ⟨H3,I3,q3⟩
def zyx (K:aj) (x:V) (H:Hp) (k:Bool):Prop:=
 match x with
 | .non=>k=false
 | .bl b=>k=b
 | .int i=>k=(i != 0)
 | .str y=>y.length≤sizeLine∧k=((y.length:Int) != 0)
 | .byt y=>y.size≤sizeLine∧k=((y.size:Int) != 0)
 | .ref p=>(∃xs,SqL K H p xs∧k= !xs.isEmpty)∨(∃xs,SqT K H p xs∧k= !xs.isEmpty)∨ ∃kvs,H p=ae (.dK kvs)∧k= !kvs.isEmpty
 |_=>False
theorem znO{κ:Type}{kvs:List (κ×V)}{vs:List (κ×Value)}(r:KV kvs vs):(!vs.isEmpty)= !kvs.isEmpty:=by
 cases r<;>rfl
theorem zil{xs:List V}{its:List Value}(r:Vals xs its):(!its.toArray.isEmpty)= !xs.isEmpty:=by
 cases r<;>simp
theorem zim:(sizeLine:Nat)<2 ^ 63:=by rw[dw];decide
theorem zxo:zAN X (λx H Q=>∃k,zyx X.K x H k∧Q k H):=by
 intro pins s σ H x v Q I rx h;obtain⟨k,e,q⟩:=h;have hl:=zim;have hs:sizeLine=16777216:=dw;cases x with
 |non=>
  cases rx;have e':k=false:=e;subst e';exact truthy_none ⟨H,I,q⟩
 |bl b=>
  cases rx;have e':k=b:=e;subst e';exact gX ⟨H,I,q⟩
 |int i=>
  obtain⟨t,rfl⟩:=rx;have e':k=(i != 0):=e;subst e';exact PySem.P.truthy_int ⟨H,I,q⟩
 |str y=>
  obtain⟨t,rfl⟩:=rx;obtain⟨hy,e'⟩:y.length≤sizeLine∧k=((y.length:Int) != 0):=e;subst e';exact PySem.P.truthy_str (by omega) ⟨H,I.tok _,q⟩
 |byt y=>
  obtain⟨t,rfl⟩:=rx;obtain⟨hy,e'⟩:y.size≤sizeLine∧k=((y.size:Int) != 0):=e;subst e';exact PySem.W.truthy_bytes (by omega) ⟨H,I.tok _,q⟩
 |ref p=>
  cases rx;have e':(∃xs,SqL X.K H p xs∧k= !xs.isEmpty)∨(∃xs,SqT X.K H p xs∧k= !xs.isEmpty)∨ ∃kvs,H p=ae (.dK kvs)∧k= !kvs.isEmpty:=e;rcases e' with⟨xs,hx,e'⟩ |⟨xs,hx,e'⟩ |⟨kvs,hx,e'⟩
  ·subst e';obtain⟨its,r,pl,hz⟩:=I.list hx;have hlen:=r.length;exact wpAny_truthy_list pl.isList (by simp only[aQ];omega) ⟨H,I.tok _,by rw[zil r];exact q⟩
  ·subst e';obtain⟨its,r,pl,hz⟩:=I.tuple hx;have hlen:=r.length;exact truthy_tuple pl (by simp only[aQ];omega) ⟨H,I.tok _,by rw[zil r];exact q⟩
  ·subst e';obtain⟨hz,hS,vs,r,m⟩:kvs.length≤sizeLine∧(p == cr)=false∧ ∃vs,KV kvs vs∧s.heap.DictOf (zaX X.prog X.w) p vs:=I.hok p _ hx;have hlen:kvs.length=vs.length:=dH r;exact wpAny_truthy_dict hS m (by omega) ⟨H,I.tok _,by rw[znO r];exact q⟩
 |_=>exact(show False from e).elim
theorem zrA (ha:PE X a ta) (he:∀whole,isTrue a X.env whole=(do let v ←whole;standAt a.pos;holding [v] (truthy v))) :
  PT X a (λσ H Q=>ta σ H λx H'=>∃k,zyx X.K x H' k∧Q k H'):=by
 intro pins s σ H Q I h;exact isTrue_plain (thn (ha pins s σ H _ I h) λv s1 ⟨x,H1,I1,r1,q1⟩=>zxo pins s1 σ H1 x v Q I1 r1 q1) (he _)
theorem op_add_str:OpR X (bM .Add) (λx y H Q=>∃i j,x= .str i∧y= .str j∧i.length+j.length≤sizeLine∧Q (.str (i++j)) H):=by
 intro pins s σ H x y v u Q I rx ry h;obtain⟨i,j,rfl,rfl,hz,q⟩:=h;obtain⟨t,rfl⟩:=rx;obtain⟨t',rfl⟩:=ry;exact add_str (λt' tk=>⟨.str (i++j),H,I.tok _,⟨_,rfl⟩,q⟩) hz
theorem zjU{x:V}{us:List Value}(r:Vals [x] us):∃u,us=[u]∧RelV x u:=by
 cases r with
 |cons r1 r2=>cases r2;exact⟨_,rfl,r1⟩
theorem zwM{x y:V}{us:List Value}(r:Vals [x,y] us):∃u w',us=[u,w']∧RelV x u∧RelV y w':=by
 cases r with
 |cons r1 r2=>
  cases r2 with
  |cons r3 r4=>cases r4;exact⟨_,_,rfl,r1,r3⟩
theorem zqQ (hc:X.calm=true):CallR X (.builtin "min") (λxs H Q=>∃i j,xs=[.int i, .int j]∧Q (.int (if j<i then j else i)) H):=by
 intro pins s σ H xs us Q I r h;obtain⟨i,j,rfl,q⟩:=h;obtain⟨u,w',rfl,⟨t,rfl⟩,⟨t',rfl⟩⟩:=zwM r;refine min_two_ints (I.ok.hd hc) λh' tk k=>⟨_,H,I.kept k,?_,q⟩;by_cases hj:j<i
 ·rw[if_pos hj,if_pos hj];exact⟨_,rfl⟩
 ·rw[if_neg hj,if_neg hj];exact⟨_,rfl⟩
theorem zpT:CallR X (.type "int") (λxs H Q=>(∃i,xs=[.int i]∧Q (.int i) H)∨ ∃k,xs=[.bl k]∧Q (.int (if k then 1 else 0)) H):=by
 intro pins s σ H xs us Q I r h;rcases h with⟨i,rfl,q⟩ |⟨k,rfl,q⟩
 ·obtain⟨u,rfl,t,rfl⟩:=zjU r;exact call_int_int ⟨.int i,H,I,⟨_,rfl⟩,q⟩
 ·obtain⟨u,rfl,r1⟩:=zjU r;cases r1;exact call_int_bool ⟨.int (if k then 1 else 0),H,I.tok _,⟨_,rfl⟩,q⟩
end
structure ObjM (h:Heap) (x dx C:Addr) (mA:Str→Option Value):Prop where
  obj:h.get? x=ae (gZ C dx)
  ns:h.Ns1 dx mA
  ne:dx≠x
theorem zpj{h:Heap}{dx:Addr}{mA:Str→Option Value}(n:h.Ns1 dx mA):∃od,h.get? dx=ae od∧ ∀name,gq name od=ae (mA name):=by
 obtain⟨o,es,ep,ho,hd,hk,_,hm⟩:=n;refine⟨o,ho,λname=>?_⟩;have e:=hm name;unfold nsFind findBy at e;rw[←Array.find?_toList]at e;unfold gq;rw[hd];dsimp only;split
 ·rename_i y q;rw[q]at e;exact congrArg ae e
 ·rename_i q;rw[q]at e;have a:es.toList.any (·.refKey)=false:=by
   rw[List.any_eq_false];intro y hy;obtain⟨z,t,hkey⟩:=hk y (Array.mem_toList_iff.mp hy);simp [DictEntry.refKey,hkey]
  have a':¬es.toList.any (·.refKey)=true:=by rw[a];exact cT
  rw[if_neg a'];exact congrArg ae e
theorem ObjM.look{h:Heap}{x dx C:Addr}{mA:Str→Option Value}(I:ObjM h x dx C mA):∃od,PySem.W.InstAt h x (gZ C dx) C (ae od)∧ ∀name,gq name od=ae (mA name):=
 let ⟨od,ho,hl⟩:=zpj I.ns
 ⟨od,⟨I.obj,rfl,rfl,ho⟩,hl⟩
section
variable {P:aE}{w:aB}{H:Hp}{h:Heap}{a C dx:Addr}{fs:List (Str×V)}
theorem zuC (hok:HOk P w H h) (e:H a=ae (.ins C dx fs)):∃mA,ObjM h a dx C mA∧(∀f,RelO (fs.lookup f) (mA f))∧PySem.Within mA (fs.map (·.1))∧fs.length≤1000∧H dx=ae (.own a):=by
 obtain⟨d,z,ne,ob,mA,n,r,q⟩:=(show ObjOk P w H h a (.ins C dx fs) from hok a _ e);exact⟨mA,⟨ob,n,ne⟩,r,q,z,d⟩
end
structure Cls (K:aj) (C:Addr):Prop where
  pg:jN K C gP=true
  hd:PySem.W.hasDictIn K C=true
  po:PySem.W.plainOver K C=true
  sa:bO K (.ref C) "__setattr__" =ae (ae (.builtin "object.__setattr__"))
theorem Cls.get{K:aj}{C:Addr}(c:Cls K C) (f:Str):jN K C f=true:=c.pg
section
variable {X:Cx}{pins:List (Addr×Obj)}{σ:St}{H:Hp}{s:ah}{A:aN}{E:Value→ah→Prop}{Q:Value→ah→Prop}{c:Value}{b:Bool}
inductive TyOf (K:aj) (H:Hp):V→Value→Prop where
  |non:TyOf K H .non (.type "NoneType")
  |bl (x:Bool):TyOf K H (.bl x) (.type "bool")
  |int (i:Int):TyOf K H (.int i) (.type "int")
  |str (x:Str):TyOf K H (.str x) (.type "str")
  |flt (x:UInt64):TyOf K H (.flt x) (.type "float")
  |lst {a:Addr}{xs:List V}(e:H a=ae (.lst xs)):TyOf K H (.ref a) (.type "list")
  |frz {a:Addr}{o:Obj}{xs:List V}(e:H a=ae (.frz o (.lst xs))):TyOf K H (.ref a) (.type "list")
  |tup {a:Addr}{xs:List V}(e:H a=ae (.tup xs)):TyOf K H (.ref a) (.type "tuple")
  |dK {a:Addr}{kvs:List (Key×V)}(e:H a=ae (.dK kvs)):TyOf K H (.ref a) (.type "dict")
  |dT {a:Addr}{kvs:List (List Key×V)}(e:H a=ae (.dT kvs)):TyOf K H (.ref a) (.type "dict")
  |ins {a C dx:Addr}{fs:List (Str×V)}(e:H a=ae (.ins C dx fs)) (cl:Cls K C) (ha:bO K (.ref C) "__class__" =ae (ae (.builtin "object.__class__")))
      (hn:PySem.W.specialIn K (.builtin "object.__class__") "__get__" =ae (ae (.builtin "getset_descriptor.__get__"))) (htk:PySem.W.takesIn K (.builtin "object.__class__")=ae true)
      (hm:cS K C (.type "object")=ae true):TyOf K H (.ref a) (.ref C)
theorem zpI{x:V}{u t:Value}(I:Inv X pins σ H s) (rx:RelV x u) (ty:TyOf X.K H x t) (e:eX X.K t c=ae b) (h:∀tk,Q (.bool b) { s with toks:=tk }) :
  am (ap X.prog X.w) A (call (.builtin "isinstance") [u,c]) Q E s:=by
 cases ty with
 |non=>cases(show u=cb from rx);exact ci PySem.W.kitx_none I.kIn cQ e (λz=>nomatch z) h
 |bl y=>cases(show u=dN y from rx);exact ci PySem.W.kitx_bool I.kIn cQ e (λz=>nomatch z) h
 |int i=>obtain⟨t,q⟩:=(show ∃t,u=fH i t from rx);cases q;exact ci PySem.W.kitx_int I.kIn cQ e (λz=>nomatch z) h
 |str y=>obtain⟨t,q⟩:=(show ∃t,u=fe y t from rx);cases q;exact ci PySem.W.kitx_str I.kIn cQ e (λz=>nomatch z) h
 |flt y=>obtain⟨t,q⟩:=(show ∃t,u=Value.float y t from rx);cases q;exact ci PySem.W.kitx_float I.kIn cQ e (λz=>nomatch z) h
 | @lst a xs ea=>
  cases(show u=a_ a from rx);obtain⟨_,_,n,_,h1⟩:=(show ObjOk X.prog X.w H s.heap a (.lst xs) from I.hok a _ ea);exact ci iX I.kIn ⟨_,h1,rfl⟩ e (λz=>nomatch z) h
 | @frz a ob xs ea=>
  cases(show u=a_ a from rx);obtain⟨_,_,_,n,_,h1⟩:=(show ObjOk X.prog X.w H s.heap a (.frz ob (.lst xs)) from I.hok a _ ea);exact ci iX I.kIn ⟨_,h1,rfl⟩ e (λz=>nomatch z) h
 | @tup a xs ea=>
  cases(show u=a_ a from rx);obtain⟨_,_,_,p⟩:=(show ObjOk X.prog X.w H s.heap a (.tup xs) from I.hok a _ ea);obtain⟨o,h1,h2,_⟩:=p;exact ci PySem.W.kitx_tuple I.kIn ⟨o,h1,h2⟩ e (λz=>nomatch z) h
 | @dK a kvs ea=>
  cases(show u=a_ a from rx);obtain⟨_,_,vs,_,p⟩:=(show ObjOk X.prog X.w H s.heap a (.dK kvs) from I.hok a _ ea);obtain⟨o,es,ep,h1,h2,_⟩:=p;exact ci i0 I.kIn ⟨o,h1,h2.1⟩ e (λz=>nomatch z) h
 | @dT a kvs ea=>
  cases(show u=a_ a from rx);obtain⟨_,_,xs,_,o,es,ep,h1,h2,_⟩:=(show ObjOk X.prog X.w H s.heap a (.dT kvs) from I.hok a _ ea);exact ci i0 I.kIn ⟨o,h1,h2.1⟩ e (λz=>nomatch z) h
 | @ins a C dx fs ea cl ha hn htk hm=>
  cases(show u=a_ a from rx);obtain⟨mA,O,_⟩:=zuC I.hok ea;obtain⟨od,J,_⟩:=O.look;exact ci (PySem.W.kitx_own (cl.get _) cl.hd ha hn htk hm) I.kIn J e (λz=>nomatch z) h
end
structure Room (k:Nat) (A:aN):Prop where
  hd:A.handled=none
  dp:A.depth+3*k+5<recursionLimit
  un:A.units+16*k+200<cLine
theorem Room.deeper{k:Nat}{A:aN}(r:Room (k+1) A) (env:bt):Room k (A.deeper env):=
 ⟨r.hd,by have:=r.dp;show A.depth+1+3*k+5<_;omega,by have:=r.un;show A.units+3+16*k+200<_;omega⟩
theorem Room.depth{k:Nat}{A:aN}(r:Room k A):A.depth<recursionLimit:=by have:=r.dp;omega
theorem Room.units{k:Nat}{A:aN}(r:Room k A):A.units+64<cLine:=by have:=r.un;omega
noncomputable def zAn:TA:=λ_ H Q=>Q [] H
noncomputable def zyG (ta:TE) (tr:TA):TA:=λσ H Q=>ta σ H λx H1=>tr σ H1 λxs H2=>Q (x::xs) H2
section
variable {X:Cx}{e:Expr}{es:List Expr}{te:TE}{t:TA}{pos:aC}
theorem pa_nil:PA X [] zAn:=λ_ _ _ _ H Q I h=>jb ⟨[],H,I, .nil,h⟩
theorem zdz (ha:PE X e te) (hr:PA X es t) (hs:ao (e::es) X.env=(false,ay e X.env)::ao es X.env:=by rfl):PA X (e::es) (zyG te t):=by
 intro pos pins s σ H Q I h;rw[hs];show am _ _ (spliced ((false,ay e X.env)::aP pos (ao es X.env))) _ _ s;refine gQ (thn (ha pins s σ H _ I h) λu s1 ⟨x,H1,I1,r1,q1⟩=>?_);exact thn (hr pos pins s1 σ H1 _ I1 q1) λus s2 ⟨xs,H2,I2,r2,q2⟩=>⟨x::xs,H2,I2, .cons r1 r2,q2⟩
noncomputable def zAg (t:TA):TE:=λσ H Q=>t σ H λxs H1=>xs.length≤sizeLine∧ ∀p,H1 p=none→Q (.ref p) (upd H1 p (.tup xs))
noncomputable def zAc (t:TA):TE:=λσ H Q=>t σ H λxs H1=>xs.length≤sizeLine∧ ∀p,H1 p=none→Q (.ref p) (upd H1 p (.lst xs))
theorem zwa{x1}(h:PA X es t):PE X (.Tuple es x1 pos) (zAg t):=by
 intro pins s σ H Q I hq;refine wpAny_Tuple_spliced (thn (h pos pins s σ H _ I hq) λus s1 ⟨xs,H1,I1,r,z,q⟩=>⟨by rw[←r.length];exact z,?_⟩);have hf:H1 s1.heap.objs.size=none:=I1.hok.fresh (au _);refine⟨.ref s1.heap.objs.size,upd H1 s1.heap.objs.size (.tup xs),I1.laid (t':=s1.toks) (λb u e=>aH _ e) (au _) ?_,rfl,q _ hf⟩;exact⟨z,us,r,⟨_,bi _ rfl,rfl,_,rfl⟩⟩
theorem zxN (h:PA X es t):PE X (.List es pos) (zAc t):=by
 intro pins s σ H Q I hq;refine wpAny_List_spliced (thn (h pos pins s σ H _ I hq) λus s1 ⟨xs,H1,I1,r,z,q⟩=>⟨by rw[←r.length];exact z,?_⟩);have hf:H1 s1.heap.objs.size=none:=I1.hok.fresh (au _);refine⟨.ref s1.heap.objs.size,upd H1 s1.heap.objs.size (.lst xs),I1.laid (t':=s1.toks) (λb u e=>aH _ e) (au _) ?_,rfl,q _ hf⟩;exact⟨z,us,0,r,bi _ rfl⟩
end
abbrev Sp:=List V→Hp→VK→XK→Prop
abbrev CXT:=List bt→Hp→ah→XK→Value→ah→Prop
structure Env0 (P:aE) (w:aB) (K:aj) (mg:Str→Option Value) (base:Heap) (A:aN) (outer:List bt) (s:ah) (H:Hp):Prop where
  frames:A.frames=ae outer
  mod:Mod K mg base
  bs:∀b o,base.get? b=ae o→s.heap.get? b=ae o∧H b=none
  bsz:base.objs.size≤s.heap.objs.size
  funs:s.heap.FunFrames base outer
  frf:∀b∈frs outer,H b=none
  hok:HOk P w H s.heap
  bare:b6 s.gens
def CE (outer:List bt) (P:aE) (w:aB) (H:Hp) (s:ah) (Q:VK) (u:Value) (s':ah):Prop:=
 ∃v H',s'.os=s.os∧b6 s'.gens∧Un (frs outer) [] H H' s.heap s'.heap∧HOk P w H' s'.heap∧RelV v u∧Q v H'
def CR (CX:CXT) (outer:List bt) (P:aE) (w:aB) (H:Hp) (s:ah) (Q:VK) (E:XK) (r:Result) (s':ah):Prop:=
 match r with
 | .ok (.ret u)=>CE outer P w H s Q u s'
 | .ok _=>False
 | .error e=>CX outer H s E e s'
structure FnOk (P:aE) (w:aB) (K:aj) (mg:Str→Option Value) (base:Heap) (CX:CXT) (k:Nat) (f:Addr) (fd:bC) (ps:List Str) (sp:Sp):Prop where
  len:∀vs H Q E,sp vs H Q E→vs.length=ps.length
  run:∀(A:aN) (outer:List bt) (s:ah) (H:Hp) (args:Args) (us:List Value) (vs:List V) (Q:VK) (E:XK),Room k A→Env0 P w K mg base A outer s H→er s fd args (ps.zip us)→Vals vs us→sp vs H Q E→
    dJ (ap P w) A (.call (.ref f) args) (CR CX outer P w H s Q E) s
section
variable {X:Cx}{pins:List (Addr×Obj)}{σ:St}{H:Hp}{s:ah}
theorem Inv.env0 (I:Inv X pins σ H s):Env0 X.prog X.w X.K X.mg X.base X.A X.stack s H:=
 ⟨I.ok.frames,I.ok.mod,I.bs,aW I.ok.bsz I.sz,I.stack,I.stkFree,I.hok,I.bare⟩
end
def Binds (K:aj) (fd:bC) (ps:List Str) (ds:List Value):Prop:=
 ∀(s:ah) (us:List Value),K.In s.heap→(us++ds).length=ps.length→er s fd ⟨us,[]⟩ (ps.zip (us++ds))
theorem Binds.all{K:aj}{fd:bC}{ps:List Str}(h:∀us:List Value,us.length=ps.length→bindArgs fd ⟨us,[]⟩=pure (ps.zip us)):Binds K fd ps []:=λs us _ hl=>by
 rw[bJ]at hl⊢;exact .of_eq (h us hl)
structure FnScope (N P:List Str) (sc:Scope):Prop where
  kind:sc.kind= .function
  co:sc.isCoroutine=false
  gen:sc.isGenerator=false
  nd:N.Nodup
  pre:N.take P.length=P
  par:∀x∈P,sc.names.lookup x=ae .local∨sc.names.lookup x=ae .cell
  nofree:∀y∈sc.names,y.2≠ .free
theorem zjr{kindOf:Str→Option bN}{x:Str}:∀{binds:List (Str×Value)}{m:Str→Option Value},(∀v,(x,v)∉binds)→cY kindOf binds m x=m x
 | [],_,_=>rfl
 | (n,v)::r,m,h=>by
  unfold cY;rw[zjr λw hw=>h w (aK _ hw)];split
  ·have:x≠n:=by rintro rfl;exact h v a0
   simp [this]
  ·rfl
theorem zjF{kindOf:Str→Option bN}{x:Str}:∀{binds:List (Str×Value)}{m:Str→Option Value},(∀v,(x,v)∉binds)→cX kindOf binds m x=m x
 | [],_,_=>rfl
 | (n,v)::r,m,h=>by
  unfold cX;rw[zjF λw hw=>h w (aK _ hw)];split
  ·rfl
  ·have:x≠n:=by rintro rfl;exact h v a0
   simp [this]
theorem zkL{kindOf:Str→Option bN}{x:Str}{v:Value}:∀{P:List Str}{vs:List Value}{i:Nat}{m:Str→Option Value},P.Nodup→P[i]? =ae x→vs[i]? =ae v→kindOf x=ae .local→
  cY kindOf (P.zip vs) m x=ae v
 | [],_,_,_,_,h,_,_=>by simp at h
 |_::_,[],_,_,_,_,h,_=>by simp at h
 |p::P,w::vs,0,m,nd,h1,h2,hk=>by
  simp at h1 h2;subst h1;subst h2;show cY kindOf ((p,w)::P.zip vs) m p=_;unfold cY;rw[zjr λv hv=>(da.mp nd).1 (h_ hv).1,if_pos hk];simp
 |p::P,w::vs,i+1,m,nd,h1,h2,hk=>by
  show cY kindOf ((p,w)::P.zip vs) m x=_;unfold cY;exact zkL (i:=i) (da.mp nd).2 (by simpa using h1) (by simpa using h2) hk
theorem zkI{kindOf:Str→Option bN}{x:Str}{v:Value}:∀{P:List Str}{vs:List Value}{i:Nat}{m:Str→Option Value},P.Nodup→P[i]? =ae x→vs[i]? =ae v→kindOf x≠ae .local→
  cX kindOf (P.zip vs) m x=ae v
 | [],_,_,_,_,h,_,_=>by simp at h
 |_::_,[],_,_,_,_,h,_=>by simp at h
 |p::P,w::vs,0,m,nd,h1,h2,hk=>by
  simp at h1 h2;subst h1;subst h2;show cX kindOf ((p,w)::P.zip vs) m p=_;unfold cX;rw[zjF λv hv=>(da.mp nd).1 (h_ hv).1,if_neg hk];simp
 |p::P,w::vs,i+1,m,nd,h1,h2,hk=>by
  show cX kindOf ((p,w)::P.zip vs) m x=_;unfold cX;exact zkI (i:=i) (da.mp nd).2 (by simpa using h1) (by simpa using h2) hk
noncomputable def start (N:List Str) (vs:List V):St:=vs.map ae++aO (N.length - vs.length) none
noncomputable def zud (CX:CXT) (P:aE) (w:aB) (K:aj) (mg:Str→Option Value) (base:Heap) (N:List Str) (qual:Str) (scope:Scope) (f:Addr) (cd:Value) (A:aN) (outer:List bt) (s:ah) (H:Hp) (E:XK):Cx where
  prog:=P
  w:=w
  K:=K
  mg:=mg
  base:=base
  A:=A.deeper (cn qual scope s.heap.objs.size f cd)
  N:=N
  s₀:=s
  H₀:=H
  env:=cn qual scope s.heap.objs.size f cd
  outer:=outer
  stack:=cn qual scope s.heap.objs.size f cd::outer
  ex:=[]
  calm:=true
  fn:=λ_=>true
  pn:=[]
  xe:=λe s'=>am (ap P w) (A.deeper (cn qual scope s.heap.objs.size f cd)) (leaving (cn qual scope s.heap.objs.size f cd) e) (λ_ s''=>CX outer H s E e s'') (λe' s''=>CX outer H s E e' s'') s'
theorem zna{sc:Scope}{n:Nat}{x:Str}(h:sc.names.lookup x=ae .cell):∃c,(h9 n sc.names []).lookup x=ae c:=by
 have q:=iU sc.names n [] (.inl h);exact dr.mp q
theorem zpP{CX:CXT}{P:aE}{w:aB}{K:aj}{mg:Str→Option Value}{base:Heap}{N ps:List Str}{qual:Str}{scope:Scope}{f:Addr}{cd:Value}{A:aN}{outer:List bt}{s s1:ah}{H:Hp}{E:XK}{us:List Value}{vs:List V}
  (S:FnScope N ps scope) (hd:A.handled=none) (e0:Env0 P w K mg base A outer s H) (hl:vs.length=ps.length) (r:Vals vs us)
  (x:InCallC s s.heap.objs.size (cY (cn qual scope s.heap.objs.size f cd).kindOf (ps.zip us) λ_=>none) (h9 (s.heap.objs.size+1) scope.names []) (cX (cn qual scope s.heap.objs.size f cd).kindOf (ps.zip us) λ_=>none) s1) :
  Inv (zud CX P w K mg base N qual scope f cd A outer s H E) [] (start N vs) H s1:=by
 have hpl:ps.length≤N.length:=by have:=congrArg dA S.pre;rw[cJ]at this;omega
 obtain⟨h1,tk,rfl,hk⟩:=x.done;have noA:∀b:Addr,b∉(zud CX P w K mg base N qual scope f cd A outer s H E).ex:=λb z=>absurd (show b∈([]:List Addr) from z) (by simp);refine⟨⟨e0.mod,S.kind,rfl,rfl,au _,λy z c h1 h2=>?_,λy hy=>?_,λy c _ h=>?_,λ_=>hd,aN.frames_deeper e0.frames, .inr ⟨rfl,rfl⟩,λb z=>absurd z (noA b),e0.bs,e0.bsz,λb _ _=>noA b,λb z=>absurd z (noA b),e0.funs,e0.frf⟩,
  rfl,e0.bare,Un.kept hk,⟨_,x.toInCall.ns,λi y v h1 h2 h3=>?_⟩,λy c h=>⟨_,x.cell y c h⟩,e0.hok.fresh (au _),λy c h=>?_,λp hp=>absurd (show p∈([]:List (Addr×Obj)) from hp) (by simp),e0.hok.kept hk,?_⟩
 ·exact name_of_addr x.apart (dQ h1) (dQ h2)
 ·have hy:scope.names.lookup y=ae .cell∨scope.names.lookup y=ae .free:=hy;rcases hy with hy |hy
  ·exact zna hy
  ·exact absurd rfl (S.nofree _ (dQ hy))
 ·exact ip (x.above y c (dQ h))
 ·have hi:i<vs.length:=by
   unfold start at h2;by_cases hi:i<vs.length
   ·exact hi
   ·rw[gA (by simpa using hi)]at h2;rw[iQ]at h2;split at h2<;>cases h2
  have ha:vs[i]? =ae v:=by
   unfold start at h2;rw[j9 (by simpa using hi),bq]at h2;cases e:vs[i]? with
   |none=>rw[e]at h2;cases h2
   |some a=>rw[e]at h2;cases h2;rfl
  obtain⟨u,hu,rv⟩:=r.get ha;have hp:ps[i]? =ae y:=by
   rw[←S.pre,List.getElem?_take_of_lt (by omega)];exact h1
  have ndP:ps.Nodup:=by rw[←S.pre];exact S.nd.sublist (iL _ _)
  refine⟨u,rv,?_⟩;rcases S.par y (aX hp) with k |k
  ·exact .inl ⟨k,zkL ndP hp hu k⟩
  ·obtain⟨c,e⟩:=zna (n:=s.heap.objs.size+1) k;refine .inr ⟨.inl k,c,e,?_⟩;have q:=x.cell y c e;rw[zkI ndP hp hu (by show scope.names.lookup y≠_;rw[k];decide)]at q;exact q
 ·exact e0.hok.fresh (ip (x.above y c (dQ h)))
 ·unfold start;show _=N.length;rw[aS,aq,gL];omega
theorem zyk{CX:CXT}{P:aE}{w:aB}{K:aj}{mg:Str→Option Value}{base:Heap}{k:Nat}{f:Addr}{name qual:Str}{params:Arguments}{body:List Stmt}{scope:Scope}{dV kV doc pm cdv ct oc:Value}{an od:Option Addr}
  {osl:Array (Option Value)}{N ps:List Str}{sp:Sp}(lk:K.lookup f=ae ⟨oc,od, .func (dG name qual params body scope dV kV doc pm an cdv ct),osl⟩) (hcd:fW K cdv qual=true) (S:FnScope N ps scope)
  (len:∀vs H Q E,sp vs H Q E→vs.length=ps.length)
  (hbody:∀(A:aN) (outer:List bt) (s:ah) (H:Hp) (vs:List V) (Q:VK) (E:XK),Room k (A.deeper (cn qual scope s.heap.objs.size f cdv))→sp vs H Q E→
   ∃t,PSs (zud CX P w K mg base N qual scope f cdv A outer s H E) body t∧t { nx:=λ_ H'=>Q .non H',rt:=Q } (start N vs) H) :
  FnOk P w K mg base CX (k+1) f (dG name qual params body scope dV kV doc pm an cdv ct) ps sp:=by
 refine⟨len,λA outer s H args us vs Q E hr e0 hb r hsp=>?_⟩;have hl:=len _ _ _ _ hsp;have KX:K.In s.heap:=e0.mod.kin.keeps λb o e=>(e0.bs b o e).1;have lim:s.heap.NoLimit:=e0.mod.nolimit.keeps λb o e=>(e0.bs b o e).1;have hkind:∀y∈ps.zip us,scope.names.lookup y.1=ae .local∨(scope.names.lookup y.1=ae .cell∧((h9 (s.heap.objs.size+1) scope.names []).lookup y.1).isSome=true):=λ⟨n,v⟩ hy=>by
  rcases S.par n (h_ hy).1 with q |q
  ·exact .inl q
  ·exact .inr ⟨q,iU _ _ _ (.inl q)⟩
 refine codeAny_call_function hr.depth (KX _ _ lk) rfl S.co S.gen rfl (PySem.W.codeRec_of KX hcd) (hb _ _ _ _ ?_);refine wpAny_newFunctionEnv_cells S.kind hkind λenv he s1 x=>?_;subst he;refine⟨lim.keeps x.toInCall.keep,codeAny_func ?_⟩;obtain⟨t,ht,hq⟩:=hbody A outer s H vs Q E (hr.deeper _) hsp;have I:Inv (zud CX P w K mg base N qual scope f cdv A outer s H E) [] (start N vs) H s1:=zpP S hr.hd e0 hl r x;refine cg (ht [] s1 (start N vs) H _ I hq) (λfl s' hs=>?_) λe s' hs=>hs;have fin:∀{σ':St}{H':Hp}{v:V}{u:Value},Inv (zud CX P w K mg base N qual scope f cdv A outer s H E) [] σ' H' s'→RelV v u→Q v H'→CE outer P w H s Q u s':=
  λ{σ' H' v u} J rv q=>⟨v,H',J.os,J.bare,J.base,J.hok,rv,q⟩
 cases fl with
 |ret u=>
  obtain⟨v,σ',H',J,rv,q⟩:=hs;exact fin J rv q
 |next=>
  obtain⟨σ',H',J,q⟩:=hs;exact fin (v:=V.non) (u:=cb) J rfl q
 |brk=>
  obtain⟨_,_,_,q⟩:=hs;exact cc q
 |cont=>
  obtain⟨_,_,_,q⟩:=hs;exact cc q
section
variable {X:Cx}{x:Str}{p pos:aC}{e:Expr}{es:List Expr}{t:TA}{id T:String}{r:List V→Hp→VK→Prop}
noncomputable def tCB (r:List V→Hp→VK→Prop) (t:TA):TE:=λσ H Q=>t σ H λvs H1=>r vs H1 Q
theorem ziO (hc:CallR X (.builtin id) r) (hg:Gl X x) (hm:X.mg x=none) (hv:bP x=ae (.builtin id)) (ha:PA X (e::es) t) (hn:x≠ "__name__" :=by decide) (hdb:(x == ("__debug__" :Str))=false:=by decide)
  (he:ao (e::es) X.env=(false,ay e X.env)::ao es X.env:=by rfl) (hpl:(aP pos (ao es X.env)).any (·.1)=false:=by rfl):PE X (.Call (.Name x p) (e::es) [] pos) (tCB r t):=by
 intro pins s σ H Q I h;refine gE (zii I hg hm hv ?_ hn hdb);exact PyProof.Rows.callWith_builtin1 (thn (ha pos pins s σ H _ I h) λus s1 ⟨vs,H1,I1,r1,q1⟩=>hc pins s1 σ H1 vs us Q I1 r1 q1) he hpl
theorem zhj (hc:CallR X (.type T) r) (hg:Gl X x) (hm:X.mg x=none) (hv:bP x=ae (.type T)) (ha:PA X (e::es) t) (hn:x≠ "__name__" :=by decide) (hdb:(x == ("__debug__" :Str))=false:=by decide)
  (he:ao (e::es) X.env=(false,ay e X.env)::ao es X.env:=by rfl) (hpl:(aP pos (ao es X.env)).any (·.1)=false:=by rfl):PE X (.Call (.Name x p) (e::es) [] pos) (tCB r t):=by
 intro pins s σ H Q I h;refine gE (zii I hg hm hv ?_ hn hdb);exact fu (thn (ha pos pins s σ H _ I h) λus s1 ⟨vs,H1,I1,r1,q1⟩=>hc pins s1 σ H1 vs us Q I1 r1 q1) he hpl
end
end L2
namespace HT
open PySem PyProof.Rows
section
variable {prog:aE}{w:aB}{A:aN}{E:Value→ah→Prop}{s:ah}
theorem cat_tup{t b:Addr}{vs ws:List Value}{Q:Value→ah→Prop}(ht:eE s.heap t vs.toArray) (hb:eE s.heap b ws.toArray) (hv:vs≠ [])
  (h1:ws=[]→Q (.ref t) s) (h2:ws≠ []→Q (.ref s.heap.objs.size) { s with heap:=s.heap.push { cls:= .type "tuple",data:= .seq (vs++ws).toArray } })
  (hsz:vs.length+ws.length≤sizeLine):am (ap prog w) A (bM .Add (.ref t) (.ref b)) Q E s:=by
 obtain⟨⟨cls,dd,data,sl⟩,ho,hc,n,hd⟩:=id ht;obtain⟨⟨cls2,dd2,data2,sl2⟩,ho2,hc2,n2,hd2⟩:=id hb;simp only at hc hd hc2 hd2;subst hc hd hc2 hd2;have e:vs.toArray++ws.toArray=(vs++ws).toArray:=by simp
 by_cases hw:ws=[]
 ·exact gz ⟨_,ho,rfl⟩ ⟨_,ho2,rfl⟩ ij g_ gY gy (gl _ _)
   (tuple_addW1 t b vs.toArray ws.toArray n n2 dd dd2 sl sl2 (by simpa using hv) (by simp [hw])) ⟨ho,ho2,h1 hw⟩
 ·refine gz ⟨_,ho,rfl⟩ ⟨_,ho2,rfl⟩ ij g_ gY gy (gl _ _)
   (tuple_addW2 t b vs.toArray ws.toArray n n2 dd dd2 sl sl2 (by simpa using hv) (by simpa using hw) (by rw[aQ,aQ];exact hsz)) ⟨ho,ho2,?_⟩
  rw[e];exact h2 hw
noncomputable def sIx (n d:Nat):Option Int→Nat
 |none=>d
 |some v=>if v<0 then(v+(n:Int)).toNat else min v.toNat n
theorem sIx_none (n d:Nat):sIx n d none=d:=rfl
theorem sIx_nat (n d k:Nat):sIx n d (ae (k:Int))=min k n:=by
 show(if(k:Int)<0 then((k:Int)+(n:Int)).toNat else min (k:Int).toNat n)=min k n;rw[if_neg (by omega),bV]
theorem sIx_le (n d:Nat) (hd:d≤n) (o:Option Int):sIx n d o≤n:=by
 cases o with
 |none=>exact hd
 |some v=>
  show(if v<0 then(v+(n:Int)).toNat else min v.toNat n)≤n;by_cases hv:v<0
  ·rw[if_pos hv];omega
  ·rw[if_neg hv];exact Nat.min_le_right _ _
theorem zoS (v:Int) (n d:Nat):(if v<0 then max (v+(n:Int)) 0 else min v (n:Int))=((sIx n d (ae v):Nat):Int):=by
 show(if v<0 then max (v+(n:Int)) 0 else min v (n:Int))=(((if v<0 then(v+(n:Int)).toNat else min v.toNat n):Nat):Int);by_cases hv:v<0
 ·simp only[if_pos hv];omega
 ·simp only[if_neg hv];omega
theorem znE (lo hi:Option Int) (n:Nat):gk lo hi 1 (n:Int)=(((sIx n 0 lo:Nat):Int),((sIx n n hi:Nat):Int)):=by
 have h1:¬((1:Int)<0):=by omega
 unfold gk;simp only[h1,if_false];refine Prod.ext ?_ ?_
 ·cases lo with
  |none=>rfl
  |some v=>exact zoS v n 0
 ·cases hi with
  |none=>rfl
  |some v=>exact zoS v n n
theorem znF (i j:Nat):gf (i:Int) (j:Int) 1=j - i:=by
 unfold gf;have h1:(1:Int) > 0:=by omega
 simp only[h1,if_true,Int.ediv_one];split<;>omega
theorem zib{v:Value}{o:Option Int}{Q:Option Int→ah→Prop}(p:cy v o) (h:Q o s):am (ap prog w) A (bU.Slice.slicePartIndex v) Q E s:=by
 cases p with
 |none=>exact iJ h
 |int i t=>exact slicePart_int h
theorem sliceApplied_gen{sl:Addr}{vl vu:Value}{lo hi:Option Int}{n:Nat}{Q:Int×Int×Nat→ah→Prop}(hs:s.heap.IsSliceOf sl vl vu .none) (pl:cy vl lo) (pu:cy vu hi)
  (h:Q (((sIx n 0 lo:Nat):Int),1,sIx n n hi - sIx n 0 lo) s):am (ap prog w) A (iT (.ref sl) (pure (n:Int))) Q E s:=by
 obtain⟨os,hos,hcs,hds⟩:=id hs;unfold iT bU.Slice.sliceFields;refine ak (ak (bA hos hds (x:=vl) rfl (ak (bA hos hds (x:=vu) rfl (ak (bA hos hds (x:= .none) rfl (aD ?_)))))));refine ak (iJ ?_);show am _ _ (if((1:Int) == 0)=true then _ else _) _ _ s;rw[if_neg (by decide)];refine ak (zib pl (ak (zib pu (ak (aD ?_)))));show am _ _ (match gk lo hi 1 (n:Int) with | (lo,hi)=>pure (lo,(1:Int),gf lo hi 1)) _ _ s;rw[znE lo hi n];show am _ _ (pure (((sIx n 0 lo:Nat):Int),(1:Int),gf ((sIx n 0 lo:Nat):Int) ((sIx n n hi:Nat):Int) 1)) _ _ s;rw[znF];exact aD h
theorem zsr (xs:Array Value) (i k:Nat):((aU k).filterMap λ(m:Nat)=>xs[((i:Int)+(m:Int)*1).toNat]?).toArray=((xs.toList.drop i).take k).toArray:=by
 have e:(λ(m:Nat)=>xs[((i:Int)+(m:Int)*1).toNat]?)=λm=>xs[i+m]? :=by
  funext m;have:((i:Int)+(m:Int)*1).toNat=i+m:=by omega
  rw[this]
 rw[e];have:=i' xs i k;rw[List.filterMap_map]at this;have e2:((λx=>xs[x]?)∘λx=>i+x)=λm=>xs[i+m]? :=rfl;rw[e2]at this;rw[this]
theorem getItem_tuple_cut{t sl:Addr}{items:Array Value}{vl vu:Value}{lo hi:Option Int}{Q:Value→ah→Prop}(ht:eE s.heap t items) (hs:s.heap.IsSliceOf sl vl vu .none) (pl:cy vl lo) (pu:cy vu hi)
  (hw:¬(sIx items.size 0 lo=0∧sIx items.size items.size hi=items.size))
  (h:Q (.ref s.heap.objs.size) { s with heap:=s.heap.push { cls:= .type "tuple",data:= .seq ((items.toList.drop (sIx items.size 0 lo)).take (sIx items.size items.size hi - sIx items.size 0 lo)).toArray } })
  (hsz:items.size≤sizeLine):am (ap prog w) A (du (.ref t) (.ref sl)) Q E s:=by
 have htake:sizeOk (.seq ((items.toList.drop (sIx items.size 0 lo)).take (sIx items.size items.size hi - sIx items.size 0 lo)).toArray):=by
  show((items.toList.drop (sIx items.size 0 lo)).take (sIx items.size items.size hi - sIx items.size 0 lo)).toArray.size≤sizeLine;rw[aQ,cJ,cA,gK];omega
 have hj:sIx items.size items.size hi≤items.size:=sIx_le _ _ (au _) hi;obtain⟨os,hos,hcs,hds⟩:=id hs;have hTs:s.TypeIs (.ref sl) "slice" :=⟨os,hos,hcs⟩;unfold du
 try with_reducible refine fE ?_
 first |refine ak (aD ?_) |skip
 refine ak (iF ht.typeIs (by decide) ?_);refine ak (df (name:=bh "__getitem__") ht.typeIs d7
  (c8 d7 ht.typeIs jQ ?_ (jW _ _)))
 show am _ _ (j4 (.ref t) >>= _) _ _ s;refine ak (tupleItemsOf_ ht ?_);refine ak (eU hTs ?_);rw[if_pos (by decide)];refine ak (sliceApplied_gen hs pl pu ?_);have hno:¬((((sIx items.size 0 lo:Nat):Int) == 0&&(1:Int) == 1&&(sIx items.size items.size hi - sIx items.size 0 lo) == items.size)=true):=by
  intro q;rw[bR,bR]at q;have q1:((sIx items.size 0 lo:Nat):Int)=0:=fX q.1.1;have q2:sIx items.size items.size hi - sIx items.size 0 lo=items.size:=fX q.2;exact hw ⟨by omega,by omega⟩
 show am _ _ (if(((sIx items.size 0 lo:Nat):Int) == 0&&(1:Int) == 1&&(sIx items.size items.size hi - sIx items.size 0 lo) == items.size)=true then _ else _) _ _ s;rw[if_neg hno,zsr]
 first
  |exact ak (m:=fZ _) (dO (aD ⟨_,rfl,aD h⟩) htake)
  |exact ak (m:=fZ _) (dO (ak (aD (aD ⟨_,rfl,aD h⟩))) htake)
  |exact ak (ak (m:=fZ _) (dO (aD (aD ⟨_,rfl,aD h⟩)) htake))
  |exact ak (ak (m:=fZ _) (dO (aD ⟨_,rfl,aD h⟩) htake))
end
end HT
namespace L2
open PySem PySem.Spec PyProof.Rows
abbrev TO:=St→Hp→(Option Int→Hp→Prop)→Prop
def PO (X:Cx) (e:Option Expr) (t:TO):Prop:=
 ∀(pins:List (Addr×Obj)) (s:ah) (σ:St) (H:Hp) (Q:Option Int→Hp→Prop),Inv X pins σ H s→t σ H Q→
  am (ap X.prog X.w) X.A (evalPart e X.env) (λu s'=>∃o H',Inv X pins σ H' s'∧cy u o∧Q o H') X.xe s
noncomputable def ztS:TO:=λ_ H Q=>Q none H
noncomputable def zyi (t:TE):TO:=λσ H Q=>t σ H λx H1=>∃i,x= .int i∧Q (ae i) H1
section
variable {X:Cx}{e:Expr}{te:TE}{lo hi:Option Expr}{tl th:TO}{pos p2:aC}
theorem po_none:PO X none ztS:=by
 intro pins s σ H Q I h;rw[evalPart_none];exact aD ⟨none,H,I, .none,h⟩
theorem ztI (h:PE X e te):PO X (ae e) (zyi te):=by
 intro pins s σ H Q I hw;rw[evalPart_some];refine thn (h pins s σ H _ I hw) λu s1 ⟨x,H1,I1,r1,q1⟩=>?_;obtain⟨i,rfl,q⟩:=q1;obtain⟨t,rfl⟩:=r1;exact⟨ae i,H1,I1, .int i t,q⟩
def SlR (X:Cx) (r:V→Option Int→Option Int→Hp→VK→Prop):Prop:=
 ∀(pins:List (Addr×Obj)) (s:ah) (σ:St) (H:Hp) (x:V) (v vl vu:Value) (lo hi:Option Int) (sl:Addr) (Q:VK),Inv X pins σ H s→RelV x v→s.heap.IsSliceOf sl vl vu .none→cy vl lo→cy vu hi→r x lo hi H Q→
  ∃T id,gn (.type T) "__getitem__" =pure (ae (.builtin id))∧s.TypeIs v T∧am (ap X.prog X.w) X.A (du v (.ref sl)) (EP X pins σ Q) X.xe s
theorem SlR.or{r r':V→Option Int→Option Int→Hp→VK→Prop}(h:SlR X r) (h':SlR X r'):SlR X (λx lo hi H Q=>r x lo hi H Q∨r' x lo hi H Q):=by
 intro pins s σ H x v vl vu lo hi sl Q I rx hs pl pu q;rcases q with q |q
 ·exact h pins s σ H x v vl vu lo hi sl Q I rx hs pl pu q
 ·exact h' pins s σ H x v vl vu lo hi sl Q I rx hs pl pu q
noncomputable def tSl (r:V→Option Int→Option Int→Hp→VK→Prop) (te:TE) (tl th:TO):TE:=λσ H Q=>te σ H λx H1=>tl σ H1 λl H2=>th σ H2 λu H3=>r x l u H3 Q
theorem zlX{r:V→Option Int→Option Int→Hp→VK→Prop}(hr:SlR X r) (he:PE X e te) (hl:PO X lo tl) (hu:PO X hi th):PE X (.Subscript e (.Slice lo hi none p2) pos) (tSl r te tl th):=by
 intro pins s σ H Q I h;refine Subscript_ (thn (he pins s σ H _ I h) λv s1 ⟨x,H1,I1,r1,q1⟩=>?_);refine wpAny_Slice (thn (hl pins s1 σ H1 _ I1 q1) λvl s2 ⟨l,H2,I2,pl,q2⟩=>thn (hu pins s2 σ H2 _ I2 q2) λvu s3 ⟨u,H3,I3,pu,q3⟩=>?_);rw[evalPart_none];refine aD ?_;have I4:Inv X pins σ H3 { s3 with heap:=s3.heap.push { cls:= .type "slice",data:= .fields #[vl,vu, .none] } }:=I3.kept (t':=s3.toks) λb ob q=>aH _ q;obtain⟨T,id,hT,ht,hg⟩:=hr pins { s3 with heap:=s3.heap.push { cls:= .type "slice",data:= .fields #[vl,vu, .none] } } σ H3 x v vl vu l u s3.heap.objs.size Q I4 r1 (Heap.IsSliceOf.new ..) pl pu q3;show am (ap X.prog X.w) X.A (subscriptTail e (.Slice lo hi none p2) v (.ref s3.heap.objs.size)) (EP X pins σ Q) X.xe { s3 with heap:=s3.heap.push { cls:= .type "slice",data:= .fields #[vl,vu, .none] } };exact tail_any (ops:=[.ref s3.heap.objs.size,v]) ht hT hg (by with_unfolding_all rfl)
noncomputable def zpV (xs:List V) (lo hi:Option Int):List V:=(xs.drop (HT.sIx xs.length 0 lo)).take (HT.sIx xs.length xs.length hi - HT.sIx xs.length 0 lo)
theorem zhb (xs:List V) (lo hi:Option Int):(zpV xs lo hi).length≤xs.length:=by
 unfold zpV;rw[cJ,cA];omega
def zAP (K:aj):V→Option Int→Option Int→Hp→VK→Prop:=λx lo hi H Q=>∃a xs,x= .ref a∧SqT K H a xs∧
 ¬(HT.sIx xs.length 0 lo=0∧HT.sIx xs.length xs.length hi=xs.length)∧ ∀p,H p=none→Q (.ref p) (upd H p (.tup (zpV xs lo hi)))
theorem zwF:SlR X (zAP X.K):=by
 intro pins s σ H x v vl vu lo hi sl Q I rx hs pl pu h;obtain⟨a,xs,rfl,hx,hw,q⟩:=h;cases rx;obtain⟨its,r,ht,hz⟩:=I.tuple hx;have hlen:its.toArray.size=xs.length:=by rw[aQ];exact r.length.symm
 refine⟨"tuple",_,d7.lookup,ht.typeIs,?_⟩;refine HT.getItem_tuple_cut ht hs pl pu (by rw[hlen];exact hw) ?_ (by rw[hlen];exact hz);rw[hlen];refine⟨.ref s.heap.objs.size,_,I.laid (t':=s.toks) (o:= .tup (zpV xs lo hi)) (λb ob q=>aH _ q) (au _) ?_,rfl,q _ (I.hok.fresh (au _))⟩;exact⟨aW (zhb xs lo hi) hz,_,(r.drop (HT.sIx xs.length 0 lo)).take (HT.sIx xs.length xs.length hi - HT.sIx xs.length 0 lo),gM _ _⟩
noncomputable def zuI (K:aj):R2:=λx y H Q=>∃a b xs ys,x= .ref a∧y= .ref b∧SqT K H a xs∧SqT K H b ys∧xs≠ []∧xs.length+ys.length≤sizeLine∧
 (ys=[]→Q (.ref a) H)∧(ys≠ []→ ∀p,H p=none→Q (.ref p) (upd H p (.tup (xs++ys))))
theorem Vals.nil_iff{xs:List V}{us:List Value}(r:Vals xs us):us=[]↔xs=[]:=by
 cases r with
 |nil=>simp
 |cons _ _=>simp
theorem op_catT:OpR X (bM .Add) (zuI X.K):=by
 intro pins s σ H x y v u Q I rx ry h;obtain⟨a,b,xs,ys,rfl,rfl,ha,hb,hx,hz,q1,q2⟩:=h;cases rx;cases ry;obtain⟨its,r1,p1,_⟩:=I.tuple ha;obtain⟨its2,r2,p2,_⟩:=I.tuple hb;refine HT.cat_tup p1 p2 (λz=>hx (r1.nil_iff.mp z)) (λz=>⟨.ref a,H,I,rfl,q1 (r2.nil_iff.mp z)⟩) (λz=>?_) (by rw[←r1.length,←r2.length];exact hz);refine⟨.ref s.heap.objs.size,_,I.laid (t':=s.toks) (o:= .tup (xs++ys)) (λb ob q=>aH _ q) (au _) ?_,rfl,q2 (λw=>z (r2.nil_iff.mpr w)) _ (I.hok.fresh (au _))⟩;exact⟨by rw[aS];exact hz,_,r1.append r2,gM _ _⟩
end
noncomputable def ixN (n:Nat) (i:Int):Option Nat:=if 0≤i then(if i<n then ae i.toNat else none) else if -(n:Int)≤i then ae (i+n).toNat else none
noncomputable def atI {α:Type}(xs:List α) (i:Int):Option α:=(ixN xs.length i).bind λj=>xs[j]?
theorem zus{n:Nat}{i:Int}{j:Nat}(h:ixN n i=ae j):seqIndex? i n=ae j∧j<n∧ -(n:Int)≤i∧i<n:=by
 unfold ixN at h;by_cases h0:0≤i
 ·rw[if_pos h0]at h;by_cases h1:i<n
  ·rw[if_pos h1]at h;have e:i.toNat=j:=aG h;exact⟨by rw[seqIndex_of h0 h1,e],by omega,by omega,h1⟩
  ·rw[if_neg h1]at h;cases h
 ·rw[if_neg h0]at h;by_cases h1: -(n:Int)≤i
  ·rw[if_pos h1]at h;have e:(i+n).toNat=j:=aG h;exact⟨by rw[seqIndex_neg (by omega) h1,e],by omega,h1,by omega⟩
  ·rw[if_neg h1]at h;cases h
theorem zlb{α:Type}{xs:List α}{i:Int}{v:α}(h:atI xs i=ae v):∃j,seqIndex? i xs.length=ae j∧xs[j]? =ae v∧j<xs.length∧ -(xs.length:Int)≤i∧i<xs.length:=by
 unfold atI at h;cases e:ixN xs.length i with
 |none=>rw[e]at h;cases h
 |some j=>
  rw[e]at h;obtain⟨h1,h2,h3,h4⟩:=zus e;exact⟨j,h1,h,h2,h3,h4⟩
theorem zuH{α:Type}{xs:List α}{j:Nat}{v:α}(h:xs[j]? =ae v):atI xs (j:Int)=ae v:=by
 have hj:j<xs.length:=(ca.mp h).1;have e:ixN xs.length (j:Int)=ae j:=by
  unfold ixN;rw[if_pos (by omega),if_pos (by omega)];simp
 unfold atI;rw[e];exact h
def zlR (b:Expr):Prop:=∀o i,subscripted b false o i=operate [o,i] (du o i)
def IxR (X:Cx) (r:R2):Prop:=
 ∀(value slice:Expr) (pins:List (Addr×Obj)) (s:ah) (σ:St) (H:Hp) (x y:V) (v u:Value) (Q:VK),Inv X pins σ H s→RelV x v→RelV y u→r x y H Q→
  subscripted slice false v u=operate [v,u] (du v u)→am (ap X.prog X.w) X.A (subscriptTail value slice v u) (EP X pins σ Q) X.xe s
def MtR (X:Cx) (id:String) (r:V→List V→Hp→VK→Prop):Prop:=
 ∀(pins:List (Addr×Obj)) (s:ah) (σ:St) (H:Hp) (x:V) (xs:List V) (v:Value) (us:List Value) (Q:VK),Inv X pins σ H s→RelV x v→Vals xs us→r x xs H Q→
  am (ap X.prog X.w) X.A (call (.builtin id) (v::us)) (EP X pins σ Q) X.xe s
section
variable {X:Cx}{a b:Expr}{ta tb:TE}{pos:aC}
theorem IxR.or{r r':R2}(h:IxR X r) (h':IxR X r'):IxR X (λx y H Q=>r x y H Q∨r' x y H Q):=by
 intro value slice pins s σ H x y v u Q I rx ry q hs;rcases q with q |q
 ·exact h value slice pins s σ H x y v u Q I rx ry q hs
 ·exact h' value slice pins s σ H x y v u Q I rx ry q hs
theorem MtR.or{id:String}{r r':V→List V→Hp→VK→Prop}(h:MtR X id r) (h':MtR X id r'):MtR X id (λx xs H Q=>r x xs H Q∨r' x xs H Q):=by
 intro pins s σ H x xs v us Q I rx rs q;rcases q with q |q
 ·exact h pins s σ H x xs v us Q I rx rs q
 ·exact h' pins s σ H x xs v us Q I rx rs q
theorem zwn{r:R2}(hr:IxR X r) (ha:PE X a ta) (hb:PE X b tb) (hs:zlR b):PE X (.Subscript a b pos) (tOp r ta tb):=by
 intro pins s σ H Q I h;exact Subscript_ (zyY ha hb I h λv u s2 x y H2 I2 rx ry q=>hr a b pins s2 σ H2 x y v u Q I2 rx ry q (hs _ _))
noncomputable def zzQ (K:aj):R2:=λx y H Q=>∃p xs i v,x= .ref p∧y= .int i∧SqL K H p xs∧atI xs i=ae v∧Q v H
noncomputable def zzO (K:aj):R2:=λx y H Q=>∃p xs i v,x= .ref p∧y= .int i∧SqT K H p xs∧atI xs i=ae v∧Q v H
noncomputable def zzM:R2:=λx y H Q=>∃z i c,x= .str z∧y= .int i∧z.length≤sizeLine∧atI z.cps.toList i=ae c∧Q (.str ⟨#[c]⟩) H
theorem ix_list:IxR X (zzQ X.K):=by
 intro value slice pins s σ H x y v u Q I rx ry h hs;obtain⟨p,xs,i,z,rfl,rfl,hq,he,q⟩:=h;cases rx;obtain⟨t,rfl⟩:=ry;obtain⟨its,r,pl,hz⟩:=I.list hq;obtain⟨j,h1,h2,h3,h4,h5⟩:=zlb he;obtain⟨w,ew,rw'⟩:=r.get h2;have hl:=r.length;have hn:=zim;have fin:EP X pins σ Q w s:=⟨z,H,I,rw',q⟩;by_cases h0:0≤i
 ·have hj:i.toNat=j:=by
   rw[seqIndex_of h0 h5]at h1;exact aG h1
  exact item_listR pl.isList h0 (by omega) (by rw[hj];simpa using ew) fin hs
 ·have hj:(i+(its.toArray.size:Int)).toNat=j:=by
   rw[seqIndex_neg (by omega) h4]at h1;rw[aQ,←hl];exact aG h1
  exact iS (x:=w) pl.isList.typeIs j3.lookup
   (wpAny_getItem_list_neg (Q:=λr s'=>r=w∧EP X pins σ Q r s') pl.isList (by omega) (by rw[aQ]<;>omega) (by omega) (by rw[hj];simpa using ew) ⟨rfl,fin⟩) hs
theorem ix_tup:IxR X (zzO X.K):=by
 intro value slice pins s σ H x y v u Q I rx ry h hs;obtain⟨p,xs,i,z,rfl,rfl,hq,he,q⟩:=h;cases rx;obtain⟨t,rfl⟩:=ry;obtain⟨its,r,pl,hz⟩:=I.tuple hq;obtain⟨j,h1,h2,h3,h4,h5⟩:=zlb he;obtain⟨w,ew,rw'⟩:=r.get h2;have hl:=r.length;have hn:=zim;have fin:EP X pins σ Q w s:=⟨z,H,I,rw',q⟩;exact iS (x:=w) pl.typeIs slot_tuple_getitem.lookup
  (getItem_tuple (j:=j) (Q:=λr s'=>r=w∧EP X pins σ Q r s') pl (by omega) (by omega) (by rw[aQ,←hl];exact h1) (by simpa using ew) ⟨rfl,fin⟩) hs
theorem zwj:IxR X zzM:=by
 intro value slice pins s σ H x y v u Q I rx ry h hs;obtain⟨z,i,c,rfl,rfl,hz,he,q⟩:=h;obtain⟨t,rfl⟩:=rx;obtain⟨t',rfl⟩:=ry;obtain⟨j,h1,h2,h3,h4,h5⟩:=zlb he;have hl:z.cps.toList.length=z.length:=by simp [ik]
 rw[hl]at h1 h4 h5;have hn:=zim;exact tail_any (iz s z t) slot_str_getitem.lookup (getItem_str (c:=c) (by
  have e1:decide (i< -(2 ^ 63:Int))=false:=decide_eq_false (by omega);have e2:decide (i≥2 ^ 63)=false:=decide_eq_false (by omega);rw[e1,e2,jx]) (by rw[h1];simpa using h2) ⟨.str ⟨#[c]⟩,H,I.tok _,⟨_,rfl⟩,q⟩) hs
noncomputable def rIx (K:aj):R2:=λx y H Q=>zzQ K x y H Q∨zzO K x y H Q∨zzM x y H Q
theorem ztq:IxR X (rIx X.K):=ix_list.or (ix_tup.or zwj)
theorem zjM (lo hi:Option Int) (n:Nat):(dq lo hi none n).1=((HT.sIx n 0 lo:Nat):Int)∧(dq lo hi none n).2.1=((HT.sIx n n hi:Nat):Int)∧(dq lo hi none n).2.2=1:=by
 refine⟨?_,?_,rfl⟩
 ·cases lo with
  |none=>simp [dq,HT.sIx]
  |some i=>
   simp only[dq,HT.sIx,gd,show(1:Int) > 0 by decide,if_true]
   by_cases h:i<0
   ·simp only[h,if_true]<;>omega
   ·simp only[h,if_false]<;>omega
 ·cases hi with
  |none=>simp [dq,HT.sIx]
  |some i=>
   simp only[dq,HT.sIx,gd,show(1:Int) > 0 by decide,if_true]
   by_cases h:i<0
   ·simp only[h,if_true]<;>omega
   ·simp only[h,if_false]<;>omega
theorem ziS (its:List Value) (lo hi:Option Int):slicePick its.toArray lo hi none=((its.drop (HT.sIx its.length 0 lo)).take (HT.sIx its.length its.length hi - HT.sIx its.length 0 lo)).toArray:=by
 obtain⟨h1,h2,h3⟩:=zjM lo hi its.toArray.size;unfold slicePick;rw[h1,h2,h3];simp only[ir,i',aQ]<;>rfl
def zAd (K:aj):V→Option Int→Option Int→Hp→VK→Prop:=λx lo hi H Q=>∃a xs,x= .ref a∧SqL K H a xs∧ ∀p,H p=none→Q (.ref p) (upd H p (.lst (zpV xs lo hi)))
theorem zoW:SlR X (zAd X.K):=by
 intro pins s σ H x v vl vu lo hi sl Q I rx hs pl pu h;obtain⟨a,xs,rfl,hx,q⟩:=h;cases rx;obtain⟨its,r,ht,hz⟩:=I.list hx;have hlen:=r.length;refine⟨"list",_,j3.lookup,ht.isList.typeIs,?_⟩;refine wpAny_getItem_list_slice ht.isList hs pl pu .none (by simp) ?_ (by rw[aQ]<;>omega);rw[ziS,←hlen];refine⟨.ref s.heap.objs.size,_,I.laid (t':=s.toks) (o:= .lst (zpV xs lo hi)) (λb ob q=>aH _ q) (au _) ?_,rfl,q _ (I.hok.fresh (au _))⟩;exact⟨aW (zhb xs lo hi) hz,_,0,(r.drop (HT.sIx xs.length 0 lo)).take (HT.sIx xs.length xs.length hi - HT.sIx xs.length 0 lo),bi _ rfl⟩
theorem call_len_seq:CallR X (.builtin "len") (λxs H Q=>∃p ys,xs=[.ref p]∧(SqL X.K H p ys∨SqT X.K H p ys)∧Q (.int ys.length) H):=by
 intro pins s σ H xs us Q I r h;obtain⟨p,ys,rfl,hq,q⟩:=h;obtain⟨u,rfl,rx⟩:=zjU r;cases rx;have hn:=zim;rcases hq with hq |hq
 ·obtain⟨its,r',pl,hz⟩:=I.list hq;have hlen:=r'.length;exact Calls.call_len_list pl.isList (by simp only[aQ]<;>omega) ⟨.int ys.length,H,I.tok _,⟨s.toks+1,by rw[aQ,hlen]⟩,q⟩
 ·obtain⟨its,r',pl,hz⟩:=I.tuple hq;have hlen:=r'.length;exact len_tuple pl (by simp only[aQ]<;>omega) ⟨.int ys.length,H,I.tok _,⟨s.toks+1,by rw[aQ,hlen]⟩,q⟩
theorem zjY:CallR X (.builtin "len") (λxs H Q=>∃z,xs=[.str z]∧z.length≤sizeLine∧Q (.int z.length) H):=by
 intro pins s σ H xs us Q I r h;obtain⟨z,rfl,hz,q⟩:=h;obtain⟨u,rfl,t,rfl⟩:=zjU r;have hn:=zim;exact len_str (by omega) ⟨.int z.length,H,I.tok _,⟨_,rfl⟩,q⟩
theorem CallR.or{f:Value}{r r':List V→Hp→VK→Prop}(h:CallR X f r) (h':CallR X f r'):CallR X f (λxs H Q=>r xs H Q∨r' xs H Q):=by
 intro pins s σ H xs us Q I rs q;rcases q with q |q
 ·exact h pins s σ H xs us Q I rs q
 ·exact h' pins s σ H xs us Q I rs q
theorem zkq:CallR X (.type "list") (λxs H Q=>∃p ys,xs=[.ref p]∧(SqL X.K H p ys∨SqT X.K H p ys)∧ ∀l,H l=none→Q (.ref l) (upd H l (.lst ys))):=by
 intro pins s σ H xs us Q I r h;obtain⟨p,ys,rfl,hq,q⟩:=h;obtain⟨u,rfl,rx⟩:=zjU r;cases rx;have fin:∀(its:List Value),Vals ys its→ys.length≤sizeLine→ ∀(h':Heap) (c':Nat),(∀b o',s.heap.get? b=ae o'→h'.get? b=ae o')→
   h'.get? s.heap.objs.size=ae { cls:= .type "list",dict:=none,data:= .seq its.toArray c',slots:= #[] }→EP X pins σ Q (.ref s.heap.objs.size) { s with heap:=h' }:=λits r' hz h' c' kp e=>
  ⟨.ref s.heap.objs.size,_,I.laid (t':=s.toks) kp (au _) (show ObjOk X.prog X.w _ h' _ (.lst ys) from⟨hz,its,c',r',e⟩),rfl,q _ (I.hok.fresh (au _))⟩
 rcases hq with hq |hq
 ·obtain⟨its,r',pl,hz⟩:=I.list hq;have hlen:=r'.length;obtain⟨o,ho,hc,n,hd⟩:=pl.isList;exact call_list_seq p (.inl rfl) ho hc hd (λh' c' kp e=>fin its r' hz h' c' kp e) (by simp only[aQ]<;>omega)
 ·obtain⟨its,r',pl,hz⟩:=I.tuple hq;have hlen:=r'.length;obtain⟨o,ho,hc,n,hd⟩:=pl;exact call_list_seq p (.inr rfl) ho hc hd (λh' c' kp e=>fin its r' hz h' c' kp e) (by simp only[aQ]<;>omega)
theorem zfa:CallR X (.type "tuple") (λxs H Q=>∃p ys,xs=[.ref p]∧((SqL X.K H p ys∧ ∀l,H l=none→Q (.ref l) (upd H l (.tup ys)))∨(SqT X.K H p ys∧Q (.ref p) H))):=by
 intro pins s σ H xs us Q I r h;obtain⟨p,ys,rfl,h⟩:=h;obtain⟨u,rfl,rx⟩:=zjU r;cases rx;rcases h with⟨hq,q⟩ |⟨hq,q⟩
 ·obtain⟨its,r',pl,hz⟩:=I.list hq;have hlen:=r'.length;refine call_tuple_list pl.isList (λh' kp=>?_) (by simp only[aQ]<;>omega);have I1:Inv X pins σ H { s with heap:=h' }:=I.kept (t':=s.toks) kp;have I2:Inv X pins σ (upd H h'.objs.size (.tup ys)) { s with heap:=h'.push { cls:= .type "tuple",data:= .seq its.toArray } }:=
   I1.laid (t':=s.toks) (λb o e=>aH _ e) (au _) (show ObjOk X.prog X.w _ _ _ (.tup ys) from⟨hz,its,r',gM _ _⟩)
  exact⟨.ref h'.objs.size,_,I2,rfl,q _ (I1.hok.fresh (au _))⟩
 ·obtain⟨its,r',pl,hz⟩:=I.tuple hq;exact call_tuple_same pl ⟨.ref p,H,I,rfl,q⟩
def tyV (K:aj) (T:String) (x:V) (H:Hp):Prop:=match x with
 | .str _=>T= "str"
 | .int _=>T= "int"
 | .ref p=>(T= "list" ∧ ∃xs,SqL K H p xs)∨(T= "tuple" ∧ ∃o,K.lookup p=ae o∧o.cls= .type "tuple" ∧o.dict=none)∨
   (T= "dict" ∧((∃kvs,H p=ae (.dK kvs))∨ ∃kvs,H p=ae (.dT kvs)))∨(T= "set" ∧ ∃S n,H p=ae (.set S n))
 |_=>False
theorem ztr{pins:List (Addr×Obj)}{σ:St}{H:Hp}{s:ah}{T:String}{x:V}{v:Value}(I:Inv X pins σ H s) (r:RelV x v) (ty:tyV X.K T x H) :
  s.TypeIs v T∧ ∀a,v= .ref a→ ∃ob,s.heap.get? a=ae ob∧ob.dict=none:=by
 cases x with
 |str z=>
  obtain⟨t,rfl⟩:=r;cases(show T= "str" from ty);exact⟨iz s z t,λ_ e=>nomatch e⟩
 |int i=>
  obtain⟨t,rfl⟩:=r;cases(show T= "int" from ty);exact⟨gm s i t,λ_ e=>nomatch e⟩
 |ref p=>
  cases r;rcases ty with⟨rfl,xs,hq⟩ |⟨rfl,o,hk,hc,hd⟩ |⟨rfl,hk⟩ |⟨rfl,S,n,hk⟩
  ·obtain⟨its,_,pl,_⟩:=I.list hq;refine⟨pl.isList.typeIs,λa e=>?_⟩;cases e;obtain⟨o,n,e,c,hd,_⟩:=pl;exact⟨o,e,hd⟩
  ·refine⟨⟨o,I.kIn p o hk,hc⟩,λa e=>?_⟩;cases e;exact⟨o,I.kIn _ o hk,hd⟩
  ·have z:∃o,s.heap.get? p=ae o∧o.ExactDict:=by
    rcases hk with⟨kvs,hk⟩ |⟨kvs,hk⟩
    ·obtain⟨_,_,_,_,o,_,_,e,ex,_⟩:=I.hok p _ hk;exact⟨o,e,ex⟩
    ·obtain⟨_,_,_,_,o,_,_,e,ex,_⟩:=I.hok p _ hk;exact⟨o,e,ex⟩
   obtain⟨o,e,ex⟩:=z;refine⟨⟨o,e,ex.1⟩,λa e2=>?_⟩;cases e2;exact⟨o,e,ex.2.1⟩
  ·obtain⟨o,_,_,_,e,ex,_⟩:=I.hok p _ hk;refine⟨⟨o,e,ex.1⟩,λa e2=>?_⟩;cases e2;exact⟨o,e,ex.2.1⟩
 |_=>exact cc ty
noncomputable def zAH (K:aj) (T:String) (r:V→List V→Hp→VK→Prop) (to:TE):TE:=λσ H Q=>to σ H λx H1=>tyV K T x H1∧r x [] H1 Q
noncomputable def tBM (K:aj) (T:String) (r:V→List V→Hp→VK→Prop) (to:TE) (t:TA):TE:=λσ H Q=>to σ H λx H1=>tyV K T x H1∧t σ H1 λxs H2=>r x xs H2 Q
variable {o e:Expr}{es:List Expr}{to:TE}{t:TA}{name:Str}{apos cpos:aC}{T id:String}{r:V→List V→Hp→VK→Prop}
theorem zxA (pa:eR T) (slot:Slot T name id) (hty:eI (.builtin id)=pure (.type "method_descriptor")) (hm:MtR X id r) (ho:PE X o to)
  (hbase:cw o name X.env (ay o X.env)=ay o X.env:=by rfl) (hline:(apos.endLine == cpos.line)=true:=by rfl):PE X (.Call (.Attribute o name apos) [] [] cpos) (zAH X.K T r to):=by
 intro pins s σ H Q I h;refine wpAny_Call_method0_late hbase hline (thn (ho pins s σ H _ I h) λv s1 ⟨x,H1,I1,r1,ty,q1⟩=>?_);obtain⟨h1,h2⟩:=ztr I1 r1 ty;exact⟨T,id,pa,slot,hty,h1,h2,g9 rfl (PySem.evalArgs_none (hm pins s1 σ H1 x [] v [] Q I1 r1 .nil q1))⟩
theorem zwC (pa:eR T) (slot:Slot T name id) (hty:eI (.builtin id)=pure (.type "method_descriptor")) (hm:MtR X id r) (ho:PE X o to) (ha:PA X (e::es) t)
  (hbase:cw o name X.env (ay o X.env)=ay o X.env:=by rfl)
  (hfew:((aP cpos (ao (e::es) X.env)).all (λx=> !x.1)&&(dM cpos (dm [] X.env)).all (λx=>x.1.isSome)
   &&decide ((e::es).length+([]:List bQ).length+(if([]:List bQ).isEmpty then 0 else 1)<30))=true:=by rfl)
  (hline:(apos.endLine == cpos.line)=true:=by rfl) (hs:ao (e::es) X.env=(false,ay e X.env)::ao es X.env:=by rfl) (hplain:(aP cpos (ao es X.env)).any (·.1)=false:=by rfl) :
  PE X (.Call (.Attribute o name apos) (e::es) [] cpos) (tBM X.K T r to t):=by
 intro pins s σ H Q I h;refine wpAny_Call_method_late hbase hfew hline rfl (thn (ho pins s σ H _ I h) λv s1 ⟨x,H1,I1,r1,ty,q1⟩=>?_);obtain⟨h1,h2⟩:=ztr I1 r1 ty;refine⟨T,id,pa,slot,hty,h1,h2,?_⟩;have hA:=ha cpos pins s1 σ H1 _ I1 q1;rw[hs]at hA⊢;refine g9 (by show(false || (aP cpos (ao es X.env)).any (·.1))=false;rw[hplain]<;>rfl) (ii ?_)
 exact thn hA λus s2 ⟨vs,H2,I2,r2,q2⟩=>hm pins s2 σ H2 x vs v us Q I2 r1 r2 q2
end
def MtM (X:Cx) (id:String) (r:V→List V→Hp→VK→Prop):Prop:=
 ∀(pins:List (Addr×Obj)) (s:ah) (σ:St) (H:Hp) (x:V) (xs:List V) (v:Value) (us:List Value) (Q:VK),Inv X pins σ H s→RelV x v→Vals xs us→r x xs H Q→
  am (ap X.prog X.w) X.A (call (.builtin id) (v::us)) (EP X pins σ Q) X.xe s
theorem Vals.one:∀{x:V}{us:List Value},Vals [x] us→ ∃u,us=[u]∧RelV x u
 |_,_, .cons r .nil=>⟨_,rfl,r⟩
theorem Vals.rep{xs:List V}{us:List Value}(h:Vals xs us):∀k:Nat,Vals (aO k xs).flatten (aO k us).flatten
 |0=> .nil
 |k+1=>by
  rw[b_,b_,dI,dI];exact Vals.append h (Vals.rep h k)
theorem zjj (its:List Value):∀(k:Nat) (acc:List Value),
  iy (λx1 x2=>x1++x2) acc.toArray (aO k its.toArray)=(acc++(aO k its).flatten).toArray
 |0,acc=>by simp
 |k+1,acc=>by
  have e:acc.toArray++its.toArray=(acc++its).toArray:=by simp
  have e2:(acc++its)++(aO k its).flatten=acc++(aO (k+1) its).flatten:=by
   rw[b_,dI,cp]
  rw[←e2,←zjj its k (acc++its),←e,b_,dU]
section
variable {X:Cx}{pins:List (Addr×Obj)}{σ:St}{H:Hp}{s:ah}{l:Addr}{xs ys:List V}
theorem Inv.lset{its its':List Value}{n:Nat}{f:Array Value→Array Value}{t':Nat}(I:Inv X pins σ H s) (hH:H l=ae (.lst xs))
  (e:s.heap.get? l=ae { cls:= .type "list",data:= .seq its.toArray n }) (hf:f its.toArray=its'.toArray) (hv:Vals ys its') (hz:ys.length≤sizeLine) :
  Inv X pins σ (upd H l (.lst ys)) { s with heap:=s.heap.update l (gS f),toks:=t' }:=by
 have q:=PySem.IsL.update e f;rw[hf]at q;refine I.write (x:=l) (e:=l) (by rw[hH];exact trivial) (.inl rfl) (λb' u hb hu=>(Heap.get?_update_other s.heap (gS f) (bj hb)).trans hu) ⟨_,q⟩ ?_;exact⟨hz,its',_,hv,q⟩
theorem Inv.lnew{its:List Value}{t':Nat}(I:Inv X pins σ H s) (hv:Vals ys its) (hz:ys.length≤sizeLine) :
  Inv X pins σ (upd H s.heap.objs.size (.lst ys)) { s with heap:=s.heap.push { cls:= .type "list",data:= .seq its.toArray },toks:=t' }:=
 I.laid (λ_ _ q=>aH _ q) (au _) ⟨hz,its,0,hv,bi _ rfl⟩
theorem Inv.fresh (I:Inv X pins σ H s):H s.heap.objs.size=none:=I.hok.fresh (au _)
theorem Inv.lstM (I:Inv X pins σ H s) (hH:H l=ae (.lst xs)):xs.length≤sizeLine∧ ∃(its:List Value) (n:Nat),Vals xs its∧xs.length=its.length∧s.heap.get? l=ae { cls:= .type "list",data:= .seq its.toArray n }:=by
 obtain⟨z,its,n,r,e⟩:=I.hok l _ hH;exact⟨z,its,n,r,r.length,e⟩
theorem zjc{n:Nat}(h:n≤sizeLine):eg n=false:=by
 unfold eg;exact decide_eq_false (by omega)
end
section
variable {X:Cx}
def zoy:V→List V→Hp→VK→Prop:=λx vs H Q=>∃l xs y,x= .ref l∧vs=[y]∧H l=ae (.lst xs)∧xs.length<sizeLine∧Q .non (upd H l (.lst (xs++[y])))
theorem zkP:MtM X "list.append" zoy:=by
 intro pins s σ H x vs v us Q I rx rv h;obtain⟨l,xs,y,rfl,rfl,hH,hz,q⟩:=h;cases rx;obtain⟨u,rfl,ru⟩:=rv.one;obtain⟨z,its,n,r,hl,e⟩:=I.lstM hH;refine dP F.slot_list_append ⟨_,e,rfl⟩ F.entry_list_append (F.args_list_append_2 _ _) (PySem.list_append l its.toArray n u (by rw[aQ];omega)) ⟨e,?_⟩;refine⟨.non,_,I.lset (its':=its++[u]) hH e (by simp) (r.append (.cons ru .nil)) ?_,rfl,q⟩;rw[aS,bK];omega
def zqf:V→List V→Hp→VK→Prop:=λx vs H Q=>∃l b xs zs,x= .ref l∧vs=[.ref b]∧H l=ae (.lst xs)∧H b=ae (.lst zs)∧xs.length+zs.length≤sizeLine∧Q .non (upd H l (.lst (xs++zs)))
theorem zoK:MtM X "list.extend" zqf:=by
 intro pins s σ H x vs v us Q I rx rv h;obtain⟨l,b,xs,zs,rfl,rfl,hH,hB,hz,q⟩:=h;cases rx;obtain⟨u,rfl,ru⟩:=rv.one;cases ru;obtain⟨z,its,n,r,hl,e⟩:=I.lstM hH;obtain⟨z2,its2,n2,r2,hl2,e2⟩:=I.lstM hB;have hsz:its.toArray.size+its2.toArray.size≤sizeLine:=by rw[aQ,aQ];omega
 have hlong:¬(!its.toArray.isEmpty&&eg (its.toArray.size+its2.toArray.size))=true:=by
  rw[zjc hsz,fV];exact cT
 refine dP iP ⟨_,e,rfl⟩ j5 (iE _ _)
  (AutoSeq1.list_extend_list_list_0 l its.toArray n b its2.toArray n2 hlong (by rw[aQ];omega) (by omega)) ⟨e,e2,?_⟩
 refine⟨.non,_,I.lset (its':=its++its2) hH e (by simp) (r.append r2) ?_,rfl,q⟩;rw[aS];omega
noncomputable def zzw:R2:=λx y H Q=>∃l b xs zs,x= .ref l∧y= .ref b∧H l=ae (.lst xs)∧H b=ae (.lst zs)∧xs.length+zs.length≤sizeLine∧ ∀p,H p=none→Q (.ref p) (upd H p (.lst (xs++zs)))
theorem zmh:OpR X (bM .Add) zzw:=by
 intro pins s σ H x y v u Q I rx ry h;obtain⟨l,b,xs,zs,rfl,rfl,hH,hB,hz,q⟩:=h;cases rx;cases ry;obtain⟨z,its,n,r,hl,e⟩:=I.lstM hH;obtain⟨z2,its2,n2,r2,hl2,e2⟩:=I.lstM hB;refine PySem.P.add_list e e2 ?_ (by rw[aQ,aQ];omega);have ea:its.toArray++its2.toArray=(its++its2).toArray:=by simp
 rw[ea];exact⟨.ref _,_,I.lnew (t':=s.toks) (r.append r2) (by rw[aS];omega),rfl,q _ I.fresh⟩
noncomputable def zAC:R2:=λx y H Q=>∃l k xs,x= .ref l∧y= .int k∧H l=ae (.lst xs)∧ -(2 ^ 63)≤k∧k<2 ^ 63∧xs.length*k.toNat≤sizeLine∧
 ∀p,H p=none→Q (.ref p) (upd H p (.lst (aO k.toNat xs).flatten))
theorem zum{α:Type}(xs:List α) (k:Nat):(aO k xs).flatten.length=k*xs.length:=by
 induction k with
 |zero=>simp
 |succ k ih=>rw[b_,dI,aS,ih,Nat.succ_mul,dW]
theorem zwv:OpR X (bM .Mult) zAC:=by
 intro pins s σ H x y v u Q I rx ry h;obtain⟨l,k,xs,rfl,rfl,hH,h1,h2,hz,q⟩:=h;cases rx;obtain⟨t,rfl⟩:=ry;obtain⟨z,its,n,r,hl,e⟩:=I.lstM hH;have hlen:its.toArray.size*k.toNat≤sizeLine:=by rw[aQ,←hl];exact hz
 have hcap:¬its.toArray.size*k.toNat > (2 ^ 63 - 1) / 8:=by
  have:(sizeLine:Nat)≤(2 ^ 63 - 1) / 8:=by decide
  omega
 have hfit:¬(!Builtin.List.listFitsIndex k)=true:=by
  rw[fitsIndex_both h1 h2];exact cT
 have hlong:¬eg (its.toArray.size*k.toNat)=true:=by
  rw[zjc hlen];exact cT
 have hnew:iy (λx1 x2=>x1++x2) #[] (aO (if its.toArray.isEmpty=true then 0 else k.toNat) its.toArray)=(aO k.toNat its).flatten.toArray:=by
  have f0:∀m:Nat,iy (λx1 x2=>x1++x2) #[] (aO m its.toArray)=(aO m its).flatten.toArray:=λm=>by
   have:=zjj its m [];rw[a8]at this;exact this
  rw[f0];cases its with
  |nil=>simp
  |cons a r'=>rw[if_neg (by simp)]
 refine wpAny_binaryOp_repeat_ref (T:= "list") (U:= "int") (by decide) ⟨_,e,rfl⟩ (λs'=>gm s' k t) noFill_list_mul F.fills_int_mul km repeat_list F.slot_int_index.lookup
  (dP km (gm s k t) F.entry_int_rmul (F.args_int_rmul_2 _ _) (int___rmul___int_list k t l its.toArray n)
   ⟨e,rfl,⟨_,e,rfl⟩,dP F.slot_list_mul ⟨_,e,rfl⟩ F.entry_list_mul (F.args_list_mul_2 _ _) (AutoListH.list___mul___list_int_3 l its.toArray n k t hfit hcap hlong) ⟨e,?_⟩⟩)
 rw[hnew];exact⟨.ref _,_,I.lnew (t':=s.toks) (r.rep k.toNat) (by rw[zum,Nat.mul_comm];exact hz),rfl,q _ I.fresh⟩
end
end L2
namespace Att
open PySem PySem.W PySem.Calls PyProof.Rows
theorem zhD{P:fx}{h:Heap}:∀(ns:List Int) (vs:List Value),WellAll P h vs (ns.map WData.int)→eY vs ns:=by
 intro ns
 induction ns with
 |nil=>
  intro vs w;rw[cm]at w;cases w;exact .nil
 |cons n ns ih=>
  intro vs w;rw[aA]at w;cases w with
  |cons a b=>
   cases a;exact .cons _ _ (ih _ b)
theorem zpf{l:OpenLaw}{n:Nat}(hn:l.most=ae n) {P:fx}{h:Heap}{args:List WData}{vals:List Value}
  (hpre:l.row.toRowW.claim.pre args=true) (hwl:WellAll P h vals args) :
  ∃a vs ns,vals=[a_ a]∧args=[WData.list (ns.map WData.int)]∧h.get? a=ae { cls:= .type "list",data:= .seq vs.toArray }∧eY vs ns∧ns.length≤n:=by
 have hsh:WShape.hasAll [] args [.list .int]=true:=(pre_splitW hpre).1;have hc:l.pre.holds [] { args:=args }=true:=(pre_splitW hpre).2;obtain⟨d,r,rfl,h1,h2⟩:=hasAllW_cons hsh;obtain rfl:=hasAllW_nil h2;obtain⟨xs,rfl,h3⟩:=hasW_list h1;obtain⟨ns,rfl⟩:=items_int h3;have hlen:ns.length≤n:=by
  unfold OpenLaw.pre at hc;have h4:(WTm.not (.lt (.lit (.int (n:Int))) (.len (.arg 0)))).holds [] { args:=[.list (ns.map .int)] }=true:=by
   have h4:=(holds_andW hc).1;rw[hn]at h4;exact h4
  have h5:=condW_of h4 (w_not (w_lt w_lit (w_len_list (w_arg rfl))));rw[aq]at h5;refine i4 λq=>?_;have q':(n:Int)<((ns.length:Nat):Int):=by omega
  first
   | (rw[decide_eq_true q']at h5;exact absurd h5 (by decide))
   | (simp at h5;omega)
 cases hwl with
 |cons w1 w2=>
  cases w2;cases w1 with
  |list ho hall=>exact⟨_,_,ns,rfl,rfl,ho,zhD ns _ hall,hlen⟩
theorem zqJ (l:OpenLaw) (args:List WData):l.row.toRowW.claim.post args (.bool true) args=true:=
 postW_of (r:=l.row.toRowW) (X:=(true == true))
  (show WShape.has [] (.bool true) .bool=true by first |rfl |decide |simp [WShape.has,WShape.arms,WShape.armsAll])
  (show(WTm.eq .res (.lit (.bool true))).value [] { args:=args,res:=ae (.bool true),after:=args }=ae (.bool (true == true)) from w_eq_bool (w_res rfl) w_lit) rfl
theorem attach_call{l:OpenLaw}{n:Nat}{q:aE}{loose:List Str}{XP:(Str→Option Value)→Heap→Prop}{YP:aB→Heap→Prop}{d:DefRec}
  (hn:l.most=ae n) (hdf:d.params.defaults=[])
  (call:∀(w:aB) (s₀ s₁:ah) (mg mb:Str→Option Value) (fa:Addr) (o:Obj) (pm cd doc:Value) (a:Addr) (vs:List Value) (ns:List Int),
   Ground q loose [] XP w s₀ mg mb s₁.heap→YP w s₁.heap→
   s₁.heap.get? fa=ae o→o.data= .func (docDef d.name d.params d.body d.scope pm cd doc)→s₁.heap.CodeRec cd d.name→mg d.name=ae (.ref fa)→
   s₁.heap.get? a=ae { cls:= .type "list",data:= .seq vs.toArray }→eY vs ns→ns.length≤n→s₁.gens= #[]→
   dJ (ap l.prog w) dj (.call (.ref fa) ⟨[.ref a],[]⟩) (λr s'=>r= .ok (.ret (.bool true))∧OldK s₁.heap s'.heap∧s'.os=s₁.os∧b6 s'.gens) s₁) :
  WalkO q loose XP YP l.row.toRowW d [] (λf vs=>gH f vs):=by
 intro w s₀ s₁ mg mb G Y fa o pm cd doc dV kV ho hd hcd hD hmg hg args vals as hpre hlay hrd hwl hlo;obtain rfl:dV= .none:=Dflts.none hD hdf;obtain rfl:kV= .none:=Dflts.noKw hD;obtain⟨a,vs,ns,rfl,rfl,hobj,hints,hlen⟩:=zpf hn hpre hwl;refine enter_call (gD (call w s₀ s₁ mg mb fa o pm cd doc a vs ns G Y ho (fd_plain hd) hcd hmg hobj hints hlen hg) λr s' hq=>?_);obtain⟨rfl,h2,h3,h4⟩:=hq;exact⟨.inl ⟨.bool true, .bool true,[],rfl,λ_=>rfl, .bool true,zqJ l _,λ_=>⟨jG.nil,λ_ hm=>(nomatch hm)⟩⟩,h2,h3,h4⟩
end Att
namespace L2
open PySem PySem.Spec PyProof.Rows
theorem zkM:∀{vs:List Value}{ns:List Int},eY vs ns→Vals (ns.map V.int) vs
 |_,_, .nil=> .nil
 |_,_, .cons n t h=> .cons ⟨t,rfl⟩ (zkM h)
def zyc (H:Hp):Prop:=∀b,H b=none∨ ∃o xs,H b=ae (.frz o (.lst xs))
theorem zrh{P:aE}{w:aB}{K:aj}{mg mb:Str→Option Value}{CX:CXT}{k:Nat}{fa a:Addr}{fd:bC}{x:Str}{sp:Sp}{s₁:ah}{vs:List Value}{ns:List Int}
  (KX:K.In s₁.heap) (hns:s₁.heap.Ns aL mg) (hb:s₁.heap.Ns gj mb) (hbb:∀x:Str,x≠ "__name__" →mb x=bP x) (hlim:s₁.heap.NoLimit) (hg:s₁.gens= #[])
  (ha:s₁.heap.get? a=ae { cls:= .type "list",data:= .seq vs.toArray }) (hi:eY vs ns) (hl:ns.length≤sizeLine) (hr:Room k dj)
  (F:∀base:Heap,K.In base→base.Ns aL mg→FnOk P w K mg base CX k fa fd [x] sp) (hbind:∀(s:ah) (u:Value),er s fd ⟨[u],[]⟩ [(x,u)])
  (hsp:∀H:Hp,zyc H→SqL K H a (ns.map V.int)→sp [.ref a] H (λv _=>v= .bl true) λ_ _ _=>False)
  (hCX:∀H e s',CX [] H s₁ (λ_ _ _=>False) e s'→False) :
  dJ (ap P w) dj (.call (.ref fa) ⟨[.ref a],[]⟩) (λr s'=>r= .ok (.ret (.bool true))∧OldK s₁.heap s'.heap∧s'.os=s₁.os∧b6 s'.gens) s₁:=by
 have rv:=zkM hi;have lenV:=hi.length;have core:∀H:Hp,zyc H→SqL K H a (ns.map V.int)→HOk P w H s₁.heap→(∀b,H b≠none→b=a)→(H a≠none→K.lookup a=none)→
   dJ (ap P w) dj (.call (.ref fa) ⟨[.ref a],[]⟩) (λr s'=>r= .ok (.ret (.bool true))∧OldK s₁.heap s'.heap∧s'.os=s₁.os∧b6 s'.gens) s₁:=by
  intro H hO hS hok hA hK;have base_of:∀{b:Addr}{o:Obj},s₁.heap.get? b=ae o→H b=none→(zqX s₁.heap H).get? b=ae o:=λe n=>zse e n;have noA:∀{b:Addr}{o:Obj}{es:Array DictEntry}{ep:Nat},s₁.heap.get? b=ae o→o.data= .dict es ep→H b=none:=λ{b o es ep} e d=>by
   cases q:H b with
   |none=>rfl
   |some u=>
    have e':b=a:=hA b (by rw[q];simp);subst e';rw[ha]at e;cases e;have d':Data.seq vs.toArray _=Data.dict es ep:=d;cases d'
  have nsK:∀{b:Addr}{m:Str→Option Value},s₁.heap.Ns b m→(zqX s₁.heap H).Ns b m:=λ{b m} ⟨o,es,ep,e,d,r⟩=>⟨o,es,ep,base_of e (noA e d),d,r⟩;have hKb:K.In (zqX s₁.heap H):=λb o e=>base_of (KX b o e) (by
   cases q:H b with
   |none=>rfl
   |some u=>
    have e':b=a:=hA b (by rw[q];simp);subst e';rw[hK (by rw[q];simp)]at e;cases e)
  have hM:Mod K mg (zqX s₁.heap H):=⟨hKb,nsK hns,⟨mb,nsK hb,hbb⟩,let ⟨mc,h1,h2⟩:=hlim;⟨mc,nsK h1,h2⟩⟩;have e0:Env0 P w K mg (zqX s₁.heap H) dj [] s₁ H:=⟨rfl,hM,λb o e=>zvr e,fh (zqn _ _),trivial,λb hb=>absurd (show b∈([]:List Addr) from hb) (by simp),hok, .of_eq hg⟩;refine gD ((F _ hKb (nsK hns)).run dj [] s₁ H ⟨[.ref a],[]⟩ [.ref a] [.ref a] _ _ hr e0 (hbind s₁ (.ref a)) (.cons rfl .nil) (hsp H hO hS)) λr s' h=>?_;cases r with
  |error e=>exact(hCX H e s' h).elim
  |ok fl=>
   cases fl with
   |next=>exact cc h
   |brk=>exact cc h
   |cont=>exact cc h
   |ret u=>
    obtain⟨v,H',os,bare,un,hok',r',q⟩:=h;have q':v= .bl true:=q;subst q';obtain rfl:u=dN true:=r';refine⟨rfl,OldK.of_keep λb o e=>?_,os,bare⟩;cases q:H b with
    |none=>exact un.keep b o e q (by intro z;exact absurd (show b∈([]:List Addr) from z) (by simp)) (by simp)
    |some u=>
     rcases hO b with z |⟨ob,xs,z⟩
     ·rw[q]at z;cases z
     ·have z2:=un.frzs b ob _ z;obtain⟨e1,_⟩:=hok b _ z;obtain⟨e2,_⟩:=hok' b _ z2;rw[e]at e1;cases e1;exact e2
 cases hk:K.lookup a with
 |some o=>
  have e:=KX a o hk;rw[ha]at e;cases e;refine core (λ_=>none) (λ_=> .inl rfl) (.inr ⟨_,vs.toArray,_,hk,rfl,rfl,rfl,by rw[aQ,lenV];exact hl,by simpa using rv⟩) (λb u z=>by have z':(none:Option HO)=ae u:=z;cases z') (λb z=>absurd rfl z) λz=>absurd rfl z
 |none=>
  refine core (λb=>if b=a then ae (.frz { cls:= .type "list",data:= .seq vs.toArray } (.lst (ns.map V.int))) else none) (λb=>?_) (.inl (.inr ⟨{ cls:= .type "list",data:= .seq vs.toArray },if_pos rfl⟩)) (λb u z=>?_) (λb z=>?_) λ_=>hk
  ·by_cases hb:b=a
   ·exact .inr ⟨_,_,if_pos hb⟩
   ·exact .inl (if_neg hb)
  ·by_cases hb:b=a
   ·have z':=(if_pos hb).symm.trans z;cases z';subst hb;exact⟨ha,by rw[aq];exact hl,vs,_,rv,ha⟩
   ·have z':=(if_neg hb).symm.trans z;cases z'
  ·by_cases hb:b=a
   ·exact hb
   ·exact absurd (if_neg hb) z
theorem zuA{l:iu}{n k:Nat}{q:aE}{loose:List Str}{XP:(Str→Option Value)→Heap→Prop}{YP:aB→Heap→Prop}{d:DefRec}{K:fx→aj}{CX:aB→CXT}{sp:aB→Sp}{x:Str}
  (hn:l.most=ae n) (hn2:n≤sizeLine) (hdf:d.params.defaults=[]) (hr:Room k dj)
  (hY:∀(w:aB) (h:Heap),YP w h→(K w.params).In h)
  (F:∀(w:aB) (mg:Str→Option Value) (fa:Addr) (h:Heap),(K w.params).In h→h.Ns aL mg→mg d.name=ae (.ref fa)→
   ∃fd:bC,(∀(s:ah) (u:Value),er s fd ⟨[u],[]⟩ [(x,u)])∧
    ∀base:Heap,(K w.params).In base→base.Ns aL mg→FnOk l.prog w (K w.params) mg base (CX w) k fa fd [x] (sp w))
  (hsp:∀(w:aB) (H:Hp) (a:Addr) (ns:List Int),ns.length≤n→zyc H→SqL (K w.params) H a (ns.map V.int)→sp w [.ref a] H (λv _=>v= .bl true) λ_ _ _=>False)
  (hCX:∀(w:aB) (H:Hp) (s:ah) (e:Value) (s':ah),CX w [] H s (λ_ _ _=>False) e s'→False) :
  kj q loose XP YP l.row.toRowW d [] (λf vs=>gH f vs):=by
 refine Att.attach_call hn hdf λw s₀ s₁ mg mb fa o pm cd doc a vs ns G Y ho hd hcd hmg hobj hints hlen hg=>?_;have KX:=hY w _ Y;obtain⟨fd,hb,hF⟩:=F w mg fa _ KX G.T.g hmg;exact zrh KX G.T.g G.T.b G.T.builtins G.T.nolimit hg hobj hints (aW hlen hn2) hr hF hb (λH hO hS=>hsp w H a ns hlen hO hS) λH e s'=>hCX w H s₁ e s'
noncomputable def zhE (s:Stmt):Arguments:=match s with
 | .FunctionDef _ a _ _ _ _ _ _ _ _=>a
 |_=>{ posonlyargs:=[],args:=[],vararg:=none,kwonlyargs:=[],kw_defaults:=[],kwarg:=none,defaults:=[] }
noncomputable def zfV (s:Stmt):List Stmt:=match s with
 | .FunctionDef _ _ b _ _ _ _ _ _ _=>b
 |_=>[]
noncomputable def zak (s:Stmt):Scope:=match s with
 | .FunctionDef _ _ _ _ _ _ sc _ _ _=>sc
 |_=>{ kind:= .function,names:=[],isGenerator:=false,isCoroutine:=false }
structure Fun (K:aj) (x qual:Str) (st:Stmt) (f:Addr) (fd:bC):Prop where
  ex:∃(oc:Value) (od:Option Addr) (kV doc pm:Value) (an:Option Addr) (cdv ct:Value) (osl:Array (Option Value)),
    fd=dG x qual (zhE st) (zfV st) (zak st) .none kV doc pm an cdv ct∧K.lookup f=ae ⟨oc,od, .func fd,osl⟩∧fW K cdv qual=true
  kp:eL K (.ref f)=true
section
variable {K:aj}
theorem Fun.binds{x qual:Str}{st:Stmt}{f:Addr}{fd:bC}{ps:List Str}(F:Fun K x qual st f fd)
  (h:∀(kV doc pm:Value) (an:Option Addr) (cdv ct:Value) (us:List Value),us.length=ps.length→bindArgs (dG x qual (zhE st) (zfV st) (zak st) .none kV doc pm an cdv ct) ⟨us,[]⟩=pure (ps.zip us)):Binds K fd ps []:=by
 obtain⟨oc,od,kV,doc,pm,an,cdv,ct,osl,rfl,lk,hcd⟩:=F.ex;exact .all (h kV doc pm an cdv ct)
theorem zxX{x qual:Str}{st:Stmt}{f:Addr}{oc:Value}{od an:Option Addr}{osl:Array (Option Value)}{kV doc pm cdv ct:Value}(l:K.lookup f=ae ⟨oc,od, .func (dG x qual (zhE st) (zfV st) (zak st) .none kV doc pm an cdv ct),osl⟩)
  (c:fW K cdv qual=true) (k:eL K (.ref f)=true):Fun K x qual st f (dG x qual (zhE st) (zfV st) (zak st) .none kV doc pm an cdv ct):=⟨⟨oc,od,kV,doc,pm,an,cdv,ct,osl,rfl,l,c⟩,k⟩
end
theorem zAm{A B:Prop}(h:B):if false=true then A else B:=by
 rw[if_neg cT];exact h
theorem zAB{A B:Prop}(h:A):if true=true then A else B:=by
 rw[if_pos rfl];exact h
def Same (H H':Hp):Prop:=∀b o,H b=ae o→H' b=ae o
theorem Same.trans{H H1 H2:Hp}(a:Same H H1) (b:Same H1 H2):Same H H2:=λc o h=>b c o (a c o h)
section
variable {κ:Type} [DecidableEq κ]
noncomputable def zji (kvs:List (κ×V)) (k:κ):Option V:=(kvs.find? λkv=>decide (kv.1=k)).map (·.2)
noncomputable def zhM (kvs:List (κ×V)) (k:κ) (v:V):List (κ×V):=
 if(kvs.any λkv=>decide (kv.1=k))=true then kvs.map (λkv=>if kv.1=k then(kv.1,v) else kv) else kvs++[(k,v)]
theorem zfA{p:κ×V}{r:List (κ×V)}{k:κ}(e:p.1=k):zji (p::r) k=ae p.2:=by simp [zji,bG,e]
theorem zfN{p:κ×V}{r:List (κ×V)}{k:κ}(e:¬p.1=k):zji (p::r) k=zji r k:=by simp [zji,bG,e]
theorem zmN (k:κ):∀kvs:List (κ×V),(kvs.any λkv=>decide (kv.1=k))=(zji kvs k).isSome
 | []=>rfl
 |p::r=>by
  rw[cG];by_cases e:p.1=k
  ·simp only[zfA e,decide_eq_true e,Bool.true_or,Option.isSome_some]
  ·rw[zfN e,decide_eq_false e,jp];exact zmN k r
theorem zeY (kvs:List (κ×V)) (k:κ) (v:V):(zhM kvs k v).length≤kvs.length+1:=by
 unfold zhM;split
 ·rw[aq];omega
 ·rw[aS,aR,c5];omega
theorem RelO.isSome_eq{o:Option V}{u:Option Value}(r:RelO o u):o.isSome=u.isSome:=by
 cases o with
 |none=>cases u with
  |none=>rfl
  |some _=>exact(show False from r).elim
 |some _=>cases u with
  |none=>exact(show False from r).elim
  |some _=>rfl
theorem RelO.getD{o:Option V}{u:Option Value}{d:V}{d':Value}(r:RelO o u) (rd:RelV d d'):RelV (o.getD d) (u.getD d'):=by
 cases o with
 |none=>cases u with
  |none=>exact rd
  |some _=>exact(show False from r).elim
 |some _=>cases u with
  |none=>exact(show False from r).elim
  |some _=>exact r
theorem KV.val{kvs:List (κ×V)}{vs:List (κ×Value)}(r:KV kvs vs) (k:κ):RelO (zji kvs k) (d_ vs k):=by
 unfold KV at r
 induction r with
 |nil=>exact cQ
 | @cons p q ps qs h t ih=>
  obtain⟨h1,h2⟩:=h;by_cases e:p.1=k
  ·have e':q.1=k:=h1.symm.trans e;have b:d_ (q::qs) k=ae q.2:=by simp [d_,bG,e']
   rw[zfA e,b];exact h2
  ·have e':¬q.1=k:=λz=>e (h1.trans z);have b:d_ (q::qs) k=d_ qs k:=by simp [d_,bG,e']
   rw[zfN e,b];exact ih
theorem KV.any{kvs:List (κ×V)}{vs:List (κ×Value)}(r:KV kvs vs) (k:κ):(kvs.any λkv=>decide (kv.1=k))=vs.any λkv=>decide (kv.1=k):=by
 unfold KV at r
 induction r with
 |nil=>rfl
 |cons h t ih=>rw[cG,cG,ih,h.1]
theorem KV.repl{kvs:List (κ×V)}{vs:List (κ×Value)}(r:KV kvs vs) (k:κ) {y:V}{u:Value}(ry:RelV y u) :
  KV (kvs.map λkv=>if kv.1=k then(kv.1,y) else kv) (vs.map λkv=>if kv.1=k then(kv.1,u) else kv):=by
 unfold KV at r⊢
 induction r with
 |nil=>exact .nil
 | @cons p q ps qs h t ih=>
  rw[aA,aA];refine .cons ?_ ih;obtain⟨h1,h2⟩:=h;by_cases e:p.1=k
  ·rw[if_pos e,if_pos (h1.symm.trans e)];exact⟨h1,ry⟩
  ·rw[if_neg e,if_neg (λz=>e (h1.trans z))];exact⟨h1,h2⟩
theorem KV.put{kvs:List (κ×V)}{vs:List (κ×Value)}(r:KV kvs vs) (k:κ) {y:V}{u:Value}(ry:RelV y u):KV (zhM kvs k y) (stored vs k u):=by
 unfold zhM stored;rw[r.any k];by_cases e:(vs.any λkv=>decide (kv.1=k))=true
 ·rw[if_pos e,if_pos e];exact r.repl k ry
 ·rw[if_neg e,if_neg e];exact aM.snoc r ⟨rfl,ry⟩
theorem KV.length{kvs:List (κ×V)}{vs:List (κ×Value)}(r:KV kvs vs):kvs.length=vs.length:=dH r
end
theorem zrd{P:aE}{w:aB}{k:Key}{u:Value}(r:RelV (kV k) u):(zaX P w).is k u=true:=by
 cases k with
 |inl i=>obtain⟨t,e⟩:=(show ∃t,u=fH i t from r);subst e;exact zlH P w i t
 |inr x=>obtain⟨t,e⟩:=(show ∃t,u=fe x t from r);subst e;exact zla P w x t
theorem zjK{P:aE}{w:aB}:∀{ks:List Key}{us:List Value},Vals (ks.map kV) us→ItemsAre (zaX P w) ks us
 | [],_,r=>by rw[cm]at r;cases r;exact .nil
 |k::ks,_,r=>by
  rw[aA]at r;cases r with
  |cons h t=>exact .cons (zrd h) (zjK t)
noncomputable abbrev KT (H:Hp):List (List Key×V)→List (List Key×Addr×Value)→Prop:=aM λp q=>p.1=q.1∧H q.2.1=ae (.tup (p.1.map kV))∧RelV p.2 q.2.2
theorem KT.val{H:Hp}{kvs:List (List Key×V)}{xs:List (List Key×Addr×Value)}(r:KT H kvs xs) (k:List Key):RelO (zji kvs k) ((di xs k).map (·.2)):=by
 induction r with
 |nil=>exact cQ
 | @cons p q ps qs h t ih=>
  obtain⟨h1,_,h2⟩:=h;by_cases e:p.1=k
  ·have e':q.1=k:=h1.symm.trans e;have b:di (q::qs) k=ae q.2:=by simp [di,bG,e']
   rw[zfA e,b];exact h2
  ·have e':¬q.1=k:=λz=>e (h1.trans z);have b:di (q::qs) k=di qs k:=by simp [di,bG,e']
   rw[zfN e,b];exact ih
theorem KT.repl{H:Hp}{kvs:List (List Key×V)}{xs:List (List Key×Addr×Value)}(r:KT H kvs xs) (k:List Key) {y:V}{u:Value}(ry:RelV y u) :
  KT H (kvs.map λkv=>if kv.1=k then(kv.1,y) else kv) (xs.map (putAt k u)):=by
 induction r with
 |nil=>exact .nil
 | @cons p q ps qs h t ih=>
  rw[aA,aA];refine .cons ?_ ih;obtain⟨h1,h2,h3⟩:=h;unfold putAt;by_cases e:p.1=k
  ·rw[if_pos e,if_pos (h1.symm.trans e)];exact⟨h1,h2,ry⟩
  ·rw[if_neg e,if_neg (λz=>e (h1.trans z))];exact⟨h1,h2,h3⟩
theorem KT.put{H:Hp}{kvs:List (List Key×V)}{xs:List (List Key×Addr×Value)}(r:KT H kvs xs) (k:List Key) {b:Addr}{y:V}{u:Value}(hb:H b=ae (.tup (k.map kV))) (ry:RelV y u) :
  KT H (zhM kvs k y) (eW xs k b u):=by
 have e:(kvs.any λkv=>decide (kv.1=k))=(di xs k).isSome:=by
  rw[zmN,(r.val k).isSome_eq,iv]
 unfold zhM eW;rw[e];by_cases q:(di xs k).isSome=true
 ·rw[if_pos q,if_pos q];exact r.repl k ry
 ·rw[if_neg q,if_neg q];exact aM.snoc r ⟨rfl,hb,ry⟩
theorem KT.keeps{H H':Hp}{kvs:List (List Key×V)}{xs:List (List Key×Addr×Value)}(r:KT H kvs xs) (ht:∀b ys,H b=ae (.tup ys)→H' b=ae (.tup ys)):KT H' kvs xs:=
 Paired.mapP r λ_ _ z=>⟨z.1,ht _ _ z.2.1,z.2.2⟩
section
variable {P:aE}{w:aB}{H:Hp}{h:Heap}{a:Addr}
theorem zwb{u:HO}(ok:HOk P w H h) (e:Rd H a u):ObjOk P w H h a u:=e.ok ok
theorem zrb{kvs:List (Key×V)}(ok:HOk P w H h) (e:Rd H a (.dK kvs)):kvs.length≤sizeLine∧(a == cr)=false∧ ∃vs,KV kvs vs∧h.DictOf (zaX P w) a vs:=
 show ObjOk P w H h a (.dK kvs) from zwb ok e
theorem zze{kvs:List (Key×V)}(ok:HOk P w H h) (e:H a=ae (.dK kvs)):kvs.length≤sizeLine∧(a == cr)=false∧ ∃vs,KV kvs vs∧h.DictOf (zaX P w) a vs:=zrb ok (.inl e)
theorem zjS{ks:List Key}(ok:HOk P w H h) (e:H a=ae (.tup (ks.map kV))):(bS (zaX P w)).is h ks a:=by
 obtain⟨_,its,r,o,h1,h2,n,h3⟩:=(show ObjOk P w H h a (.tup (ks.map kV)) from ok a _ e);exact⟨o,its.toArray,n,h1,h2,h3,by simpa using zjK r⟩
theorem zrz{kvs:List (List Key×V)}(ok:HOk P w H h) (e:Rd H a (.dT kvs)):kvs.length≤sizeLine∧(a == cr)=false∧
  ∃xs,KT H kvs xs∧h.DictOfH (bS (zaX P w)) a xs:=by
 obtain⟨z,y,xs,r,o,es,ep,h1,h2,h3,h4,h5⟩:=(show ObjOk P w H h a (.dT kvs) from zwb ok e);refine⟨z,y,xs,r,o,es,ep,h1,h2,h3,h4,λx hx=>?_,h5⟩;have all:∀{l:List (List Key×V)}{m:List (List Key×Addr×Value)},KT H l m→ ∀x∈m,(bS (zaX P w)).is h x.1 x.2.1:=by
  intro l m q
  induction q with
  |nil=>intro x hx;exact nomatch hx
  | @cons p q ps qs hq t ih=>
   intro x hx;rcases az.mp hx with e |hx
   ·subst e;exact zjS ok (by rw[←hq.1];exact hq.2.1)
   ·exact ih x hx
 exact all r x hx
theorem zyW{kvs:List (List Key×V)}(ok:HOk P w H h) (e:H a=ae (.dT kvs)):kvs.length≤sizeLine∧(a == cr)=false∧
  ∃xs,KT H kvs xs∧h.DictOfH (bS (zaX P w)) a xs:=zrz ok (.inl e)
end
def DGet (H:Hp) (a:Addr) (y:V) (r:Option V):Prop:=
 (∃kvs k,Rd H a (.dK kvs)∧y=kV k∧r=zji kvs k)∨ ∃kvs k b,Rd H a (.dT kvs)∧y= .ref b∧H b=ae (.tup (k.map kV))∧r=zji kvs k
def DPut (H:Hp) (a:Addr) (y v:V) (H':Hp):Prop:=
 (∃kvs k,H a=ae (.dK kvs)∧y=kV k∧kvs.length<sizeLine∧H'=upd H a (.dK (zhM kvs k v)))∨
 ∃kvs k b,H a=ae (.dT kvs)∧y= .ref b∧H b=ae (.tup (k.map kV))∧kvs.length<sizeLine∧H'=upd H a (.dT (zhM kvs k v))
theorem DGet.k{H:Hp}{a:Addr}{kvs:List (Key×V)}{k:Key}(e:H a=ae (.dK kvs)):DGet H a (kV k) (zji kvs k):= .inl ⟨kvs,k, .inl e,rfl,rfl⟩
theorem DGet.t{H:Hp}{a b:Addr}{kvs:List (List Key×V)}{k:List Key}(e:H a=ae (.dT kvs)) (eb:H b=ae (.tup (k.map kV))):DGet H a (.ref b) (zji kvs k):= .inr ⟨kvs,k,b, .inl e,rfl,eb,rfl⟩
theorem DPut.k{H:Hp}{a:Addr}{kvs:List (Key×V)}{k:Key}{v:V}(e:H a=ae (.dK kvs)) (hl:kvs.length<sizeLine):DPut H a (kV k) v (upd H a (.dK (zhM kvs k v))):= .inl ⟨kvs,k,e,rfl,hl,rfl⟩
section
variable {X:Cx}{pins:List (Addr×Obj)}{σ:St}{H:Hp}{s:ah}{a:Addr}{y v:V}{u r:Value}{o:Option V}{A:aN}{E:Value→ah→Prop}
theorem Inv.big (I:Inv X pins σ H s):cr<s.heap.objs.size:=by
 have h:aL<s.heap.objs.size:=(I.mod.glob.keeps I.bk).lt;exact Nat.lt_trans (by decide) h
theorem zAE{Q:Value→ah→Prop}(hu:A.units+1<cLine) (I:Inv X pins σ H s) (g:DGet H a y o) (ry:RelV y u) (h:∀s',Inv X pins σ H s'→Q (.bool o.isSome) s') :
  am (ap X.prog X.w) A (bF .In u (.ref a)) Q E s:=by
 rcases g with⟨kvs,k,e,ey,l⟩ |⟨kvs,k,b,e,ey,eb,l⟩
 ·subst ey;obtain⟨z,hd,vs,rel,dd⟩:=zrb I.hok e;refine wpAny_in_of (zrd ry) hd dd.mapOf ?_;rw[←(rel.val k).isSome_eq,←l];exact h _ (I.tok _)
 ·subst ey;cases(show u=a_ b from ry);obtain⟨z,hd,xs,rel,dd⟩:=zrz I.hok e;refine wpAny_in_heap (fS hu) (zjS I.hok eb) hd dd ?_;have q:=(rel.val k).isSome_eq;rw[iv]at q;rw[←q,←l];exact h _ (I.tok _)
theorem zqj{h':Heap}{t':Nat}{ob:HO}(I:Inv X pins σ H s) (mu:Mut (H a)) (hs:b8 a s.heap h') (he:∃q,h'.get? a=ae q) (new:ObjOk X.prog X.w (upd H a ob) h' a ob) :
  Inv X pins σ (upd H a ob) { s with heap:=h',toks:=t' }:=
 I.write (x:=a) (e:=a) mu (.inl rfl) (λb q hb z=>(hs.2 b hb).trans z) he new
theorem zwr{P:aE}{w:aB}{H':Hp}{h':Heap}{kvs:List (Key×V)}{vs:List (Key×Value)}(z:kvs.length≤sizeLine) (hd:(a == cr)=false) (rel:KV kvs vs) (dd:h'.DictOf (zaX P w) a vs) :
  ObjOk P w H' h' a (.dK kvs):=⟨z,hd,vs,rel,dd⟩
theorem zqb{H':Hp}{Q:Unit→ah→Prop}(hu:A.units+1<cLine) (I:Inv X pins σ H s) (g:DPut H a y v H') (ry:RelV y u) (rv:RelV v r) (h:∀s',Inv X pins σ H' s'→Q () s') :
  am (ap X.prog X.w) A (setItem (.ref a) u r) Q E s:=by
 rcases g with⟨kvs,k,e,ey,l,eH⟩ |⟨kvs,k,b,e,ey,eb,l,eH⟩
 ·subst ey eH;obtain⟨z,hd,vs,rel,dd⟩:=zze I.hok e;have hz:vs.length≤sizeLine:=by rw[←rel.length];exact z
  have hl:(zhM kvs k v).length≤sizeLine:=by have:=zeY kvs k v;omega
  refine wpAny_setItem_pairs (hsz:=hz) (zrd ry) dd λh' dd' hs=>h _ ?_;have he:∃q,h'.get? a=ae q:=let ⟨q,_,_,hq,_⟩:=dd';⟨q,hq⟩;exact zqj I (by rw[e];exact cQ) hs he (zwr hl hd (rel.put k rv) dd')
 ·subst ey eH;cases(show u=a_ b from ry);obtain⟨z,hd,xs,rel,dd⟩:=zyW I.hok e;have hz:xs.length≤sizeLine:=by rw[←dH rel];exact z
  have hl:(zhM kvs k v).length≤sizeLine:=by have:=zeY kvs k v;omega
  refine wpAny_setItem_heap (hsz:=hz) (fS hu) (zjS I.hok eb) dd λh' dd' hs=>h _ ?_;obtain⟨q,es,ep,hq,h2,h3,h4,_,h5⟩:=dd';refine zqj I (by rw[e];exact cQ) hs ⟨q,hq⟩ ⟨hl,hd,_,(rel.put k eb rv).keeps λc ys ec=>?_,q,es,ep,hq,h2,h3,h4,h5⟩;rw[zaz (zqg ec e (λz=>nomatch z))];exact ec
end
noncomputable def zzh (td ty tv:TE):TS:=λD σ H=>tv σ H λv H1=>td σ H1 λx H2=>ty σ H2 λy H3=>∃a H4,x= .ref a∧DPut H3 a y v H4∧D.nx σ H4
section
variable {X:Cx}{o i value:Expr}{pos pos':aC}{td ty tv:TE}
theorem zvj (hu:X.A.units+1<cLine) (ho:PE X o td) (hi:PE X i ty) (hv:PE X value tv) (hs:c7 value (ae (.Subscript o i pos')) pos.line X.env=pure false) :
  PS X (.Assign [.Subscript o i pos'] value pos) (zzh td ty tv):=by
 intro pins s σ H D I h;refine wpAny_Assign_Subscript (thn (hv pins s σ H _ I h) λr s1 ⟨v,H1,I1,rv,q1⟩=>thn (ho pins s1 σ H1 _ I1 q1) λu s2 ⟨x,H2,I2,rx,q2⟩=>thn (hi pins s2 σ H2 _ I2 q2) λiv s3 ⟨y,H3,I3,ry,a,H4,ex,g,q3⟩=>?_) hs;subst ex;obtain rfl:u=a_ a:=rx;exact zqb hu I3 g ry rv λs4 I4=>⟨σ,H4,I4,q3⟩
end
theorem zsv{P:aE}{w:aB}{H:Hp}(h:Heap) (hb:cr<h.objs.size):ObjOk P w H (h.push { cls:= .type "dict",data:= .dict #[] }) h.objs.size (.dK []):=
 ⟨aY _,beq_eq_false_iff_ne.mpr (bj (br hb)),[], .nil,Heap.DictOf.new h⟩
noncomputable def zwx:TE:=λ_ H Q=>∀p,H p=none→Q (.ref p) (upd H p (.dK []))
section
variable {X:Cx}{pos:aC}
theorem pe_dnewK:PE X (.Dict [] [] pos) zwx:=λpins s σ H Q I h=>
 wpAny_Dict_empty ⟨.ref s.heap.objs.size,_,I.laid (a:=s.heap.objs.size) (o:= .dK []) (t':=s.toks) (λ_ _ q=>aH _ q) (au _) (zsv s.heap I.big),rfl,h _ (I.hok.fresh (au _))⟩
end
structure M2 (X:Cx) (o:Expr) (m:Str) (apos:aC) (e f:Expr) (cpos:aC):Prop where
  base:cw o m X.env (ay o X.env)=ay o X.env
  few:((aP cpos (ao [e,f] X.env)).all (λx=> !x.1)&&(dM cpos (dm [] X.env)).all (λx=>x.1.isSome)
    &&decide (([e,f]:List Expr).length+([]:List bQ).length+(if([]:List bQ).isEmpty then 0 else 1)<30))=true
  line:(apos.endLine == cpos.line)=true
  trees:aP cpos (ao [e,f] X.env)=[(false,ay e X.env),(false,ay f X.env)]
def IsD (H:Hp) (a:Addr):Prop:=(∃kvs,Rd H a (.dK kvs))∨ ∃kvs,Rd H a (.dT kvs)
theorem zxE{X:Cx}{pins:List (Addr×Obj)}{σ:St}{H:Hp}{s:ah}{a:Addr}(I:Inv X pins σ H s) (d:IsD H a) :
  s.TypeIs (.ref a) "dict" ∧(∀b,a_ a= .ref b→ ∃ob,s.heap.get? b=ae ob∧ob.dict=none)∧(a == cr)=false:=by
 rcases d with⟨kvs,e⟩ |⟨kvs,e⟩
 ·obtain⟨_,hd,vs,_,dd⟩:=zrb I.hok e;refine⟨dd.typeIs,λb q=>?_,hd⟩;cases q;obtain⟨ob,_,_,h1,h2,_⟩:=dd;exact⟨ob,h1,h2.2.1⟩
 ·obtain⟨_,hd,xs,_,dd⟩:=zrz I.hok e;refine⟨dd.typeIs,λb q=>?_,hd⟩;cases q;obtain⟨ob,_,_,h1,h2,_⟩:=dd;exact⟨ob,h1,h2.2.1⟩
section
variable {X:Cx}{pins:List (Addr×Obj)}{σ:St}{H:Hp}{s:ah}{a:Addr}{y d:V}{u r:Value}{o:Option V}{A:aN}{E:Value→ah→Prop}
theorem zvH{Q:Value→ah→Prop}(hu:A.units+1<cLine) (I:Inv X pins σ H s) (g:DGet H a y o) (ry:RelV y u) (rd:RelV d r) (h:∀w' s',Inv X pins σ H s'→RelV (o.getD d) w'→Q w' s') :
  am (ap X.prog X.w) A (call (.builtin "dict.get") [.ref a,u,r]) Q E s:=by
 rcases g with⟨kvs,k,e,ey,l⟩ |⟨kvs,k,b,e,ey,eb,l⟩
 ·subst ey;obtain⟨z,hd,vs,rel,dd⟩:=zrb I.hok e;refine call_meetsIn gh dd.typeIs i_ (jd _ _ _) (meets_dict_get_default (zaX X.prog X.w) a (zrd ry) hd r) ⟨_,dd.mapOf,h _ _ (I.tok _) ?_⟩;rw[l];exact(rel.val k).getD rd
 ·subst ey;cases(show u=a_ b from ry);obtain⟨z,hd,xs,rel,dd⟩:=zrz I.hok e;refine call_meetsIn gh dd.typeIs i_ (jd _ _ _) (meetsH_dict_get_default (bS (zaX X.prog X.w)) a b hd r) ⟨fS hu,k,xs,zjS I.hok eb,dd,h _ _ (I.tok _) ?_⟩;rw[l];exact(rel.val k).getD rd
end
noncomputable def zxU (td ty tx:TE):TE:=λσ H Q=>td σ H λx H1=>∃a,x= .ref a∧IsD H1 a∧ty σ H1 λy H2=>tx σ H2 λz H3=>∃o,DGet H3 a y o∧Q (o.getD z) H3
section
variable {X:Cx}{o e f:Expr}{apos cpos:aC}{td ty tx:TE}
theorem zrt (hu:X.A.units+1<cLine) (ho:PE X o td) (he:PE X e ty) (hf:PE X f tx) (m:M2 X o "get" apos e f cpos):PE X (.Call (.Attribute o "get" apos) [e,f] [] cpos) (zxU td ty tx):=by
 intro pins s σ H Q I h;refine wpAny_Call_method m.base m.few m.line PySem.F.plainAttrs_dict gh PySem.F.type_dict_get (thn (ho pins s σ H _ I h) λu s1 ⟨x,H1,I1,rx,a,ex,d,q1⟩=>?_);subst ex;obtain rfl:u=a_ a:=rx;obtain⟨t1,t2,_⟩:=zxE I1 d;refine⟨t1,t2,?_⟩;rw[m.trees];refine g9 rfl (ii (gQ (thn (he pins s1 σ H1 _ I1 q1) λiv s2 ⟨y,H2,I2,ry,q2⟩=>
  gQ (thn (hf pins s2 σ H2 _ I2 q2) λfv s3 ⟨z,H3,I3,rz,ov,g,q3⟩=>jb ?_))))
 exact zvH hu I3 g ry rz λw' s4 I4 rw'=>⟨_,H3,I4,rw',q3⟩
end
end L2
namespace Att
open PySem PySem.W PySem.Calls PyProof.Rows
end Att
namespace L2
open PySem PySem.Spec PyProof.Rows
section
variable {prog:aE}{w:aB}{A:aN}{R:Result→ah→Prop}{s:ah}
theorem zkw{elt target iter:Expr}{ifs:List Expr}{scope:Scope}{pos:aC}{it acc:Value}{env:bt}(I:Nat→ah→Prop)
  (turn:∀n s,I n s→am (ap prog w) A (bT it) (λr s₁=>match r with
   |none=>R (.ok .next) s₁
   |some v=>am (ap prog w) A (fQ target it v) (λ_ s₀=>am (ap prog w) A (assign target env v) (λ_ s₂=>
     am (ap prog w) A (forIn ifs true λc r=>if r=true then do let ok ←isTrue c env (ay c env);pure (d8 ok) else pure (d8 r)) (λok s₃=>
      if ok=true then am (ap prog w) A (ay elt env) (λx s₄=>
       am (ap prog w) A (call (.builtin "list.append") [acc,x]) (λ_ s₅=>∃m,m<n∧I m s₅) (λ_ _=>False) s₄) (λ_ _=>False) s₃
      else ∃m,m<n∧I m s₃) (λ_ _=>False) s₂) (λ_ _=>False) s₀) (λ_ _=>False) s₁) (λ_ _=>False) s)
  (n:Nat) (h:I n s) :
  dJ (ap prog w) A (.compLoop (.ListComp elt [⟨target,iter,ifs,0⟩] scope pos) 0 it acc env) R s:=by
 refine codeAny_loop rfl I (λn s hI=>?_) n h;show am _ A ((compTurn (.ListComp elt [⟨target,iter,ifs,0⟩] scope pos) 0 it acc env).onRaise (λx=>do noteFrame x env;theTreesLotGoes x)) _ _ s;refine wpAny_noted ?_;rw[compTurn_list];refine ak (wpAny_standAt (ak (cg (turn n s hI) (λr s₁ h₁=>?_) λ_ _ h'=>h'.elim)));cases r with
 |none=>exact aD h₁
 |some v=>
  refine ak (cg h₁ (λ_ s₀ h₀=>?_) λ_ _ h'=>h'.elim);refine ak (cg h₀ (λ_ s₂ h₂=>ak (cg h₂ (λok s₃ h₃=>?_) λ_ _ h'=>h'.elim)) λ_ _ h'=>h'.elim);cases ok with
  |false=>exact aD ⟨rfl,h₃⟩
  |true=>
   exact ak (ak (cg h₃ (λx s₄ h₄=>ak (cg h₄ (λ_ s₅ h₅=>aD (aD ⟨rfl,h₅⟩)) λ_ _ h'=>h'.elim)) λ_ _ h'=>h'.elim))
end
noncomputable def zhI (cells:List (Str×Addr)):List (Str×bN)→List (Str×Addr)→List (Str×Addr)
 | [],acc=>acc
 | (n,k)::r,acc=>if(k == aT)=true then zhI cells r ((n,(cells.lookup n).getD 0)::acc) else zhI cells r acc
theorem znZ{scope:Scope}{env:bt}(h:∀y∈scope.names,y.2= .free→ ∃c,env.cells.lookup y.1=ae c) :
  closureFor scope env=pure (zhI env.cells scope.names []):=by
 have go:∀(l:List (Str×bN)) (acc:List (Str×Addr)),(∀y∈l,y.2= .free→ ∃c,env.cells.lookup y.1=ae c)→
   (forIn l acc λ(x:Str×bN) (cs:List (Str×Addr))=>(if(x.2 == aT)=true then(do let a ←cellOf env x.1;pure (d8 ((x.1,a)::cs))) else pure (d8 cs):bW (ForInStep (List (Str×Addr)))))=(pure (zhI env.cells l acc):bW (List (Str×Addr))):=by
  intro l
  induction l with
  |nil=>intro acc _;rfl
  |cons x l ih=>
   intro acc hl;obtain⟨n,k⟩:=x;have hr:=λy hy=>hl y (aK _ hy);rw[gx];by_cases hk:k= .free
   ·subst hk;obtain⟨c,hc⟩:=hl (n, .free) a0 rfl;have hc':env.cells.lookup n=ae c:=hc;have e:cellOf env n=pure c:=by unfold cellOf;rw[hc']
    have e2:zhI env.cells ((n,aT)::l) acc=zhI env.cells l ((n,c)::acc):=by
     show(if(aT == aT)=true then zhI env.cells l ((n,(env.cells.lookup n).getD 0)::acc) else zhI env.cells l acc)=_;rw[if_pos (by rfl),hc'];rfl
    dsimp only;rw[if_pos (by rfl),e,ge,ge,e2];exact ih _ hr
   ·have hb:¬(k == aT)=true:=by simpa using hk
    have e2:zhI env.cells ((n,k)::l) acc=zhI env.cells l acc:=by
     show(if(k == aT)=true then zhI env.cells l ((n,(env.cells.lookup n).getD 0)::acc) else zhI env.cells l acc)=_;rw[if_neg hb]
    dsimp only;rw[if_neg hb,ge,e2];exact ih _ hr
 have q:=go scope.names [] h;unfold closureFor
 first
  |exact(bind_pure _).trans q
  | (simp only[bind_pure];exact q)
  | (simp only[ge,bind_assoc,bind_pure];exact q)
theorem zjb{cells:List (Str×Addr)}{x:Str}{c:Addr}:∀(l:List (Str×bN)) (acc:List (Str×Addr)),(∀y∈l,y.2= .free→ ∃c,cells.lookup y.1=ae c)→
  (zhI cells l acc).lookup x=ae c→acc.lookup x=ae c∨cells.lookup x=ae c
 | [],acc,_,h=> .inl h
 | (n,k)::r,acc,hl,h=>by
  have hr:=λy hy=>hl y (aK (n,k) hy);by_cases hk:k= .free
  ·subst hk;have h':(zhI cells r ((n,(cells.lookup n).getD 0)::acc)).lookup x=ae c:=h;rcases zjb r _ hr h' with q |q
   ·rw[b7]at q;cases e:x == n with
    |true=>
     rw[e]at q;obtain⟨d,hd⟩:=hl (n, .free) a0 rfl;have hd':cells.lookup n=ae d:=hd;have e1:x=n:=fX e;rw[hd']at q;have q':d=c:=aG q;exact .inr (by rw[e1,hd',q'])
    |false=>
     rw[e]at q;exact .inl q
   ·exact .inr q
  ·have hb:¬(k == aT)=true:=by simpa using hk
   have h':(if(k == aT)=true then zhI cells r ((n,(cells.lookup n).getD 0)::acc) else zhI cells r acc).lookup x=ae c:=h;rw[if_neg hb]at h';exact zjb r acc hr h'
theorem zgB{cells:List (Str×Addr)}{x:Str}:∀(l:List (Str×bN)) (acc:List (Str×Addr)),((x,aT)∈l∨ ∃c,acc.lookup x=ae c)→ ∃c,(zhI cells l acc).lookup x=ae c
 | [],acc,h=>by
  rcases h with h |h
  ·cases h
  ·exact h
 | (n,k)::r,acc,h=>by
  by_cases hk:k= .free
  ·subst hk;refine zgB r ((n,(cells.lookup n).getD 0)::acc) ?_;cases e:x == n with
   |true=>exact .inr ⟨_,by rw[b7,e]⟩
   |false=>
    rcases h with h |⟨c,h⟩
    ·rcases az.mp h with q |q
     ·have:x=n:=congrArg Prod.fst q;rw[this]at e;simp at e
     ·exact .inl q
    ·exact .inr ⟨c,by rw[b7,e];exact h⟩
  ·have hb:¬(k == aT)=true:=by simpa using hk
   show ∃c,(if(k == aT)=true then zhI cells r ((n,(cells.lookup n).getD 0)::acc) else zhI cells r acc).lookup x=ae c;rw[if_neg hb];refine zgB r acc ?_;rcases h with h |h
   ·rcases az.mp h with q |q
    ·exact absurd (congrArg gR q).symm hk
    ·exact .inl q
   ·exact .inr h
theorem zdn{env:bt}{x:Str}{k:bN}:∀{names:List (Str×bN)},(∀y∈names,y.2≠ .cell)→
  (names.map λ(n,k)=>if(k == aT&&env.scope.kind == .function&&env.kindOf n == ae .cell) then(n,cq) else(n,k)).lookup x=ae k→(k= .cell∨k= .free)→(x,aT)∈names
 | [],_,h,_=>by simp at h
 | (n,j)::r,hc,h,hk=>by
  have h':gF x ((if(j == aT&&env.scope.kind == .function&&env.kindOf n == ae .cell)=true then(n,cq) else(n,j)) ::
   (r.map λ(n,k)=>if(k == aT&&env.scope.kind == .function&&env.kindOf n == ae .cell) then(n,cq) else(n,k)))=ae k:=h
  have hr:=λy hy=>hc y (aK (n,j) hy);have hj:j≠ .cell:=hc (n,j) a0;cases e:x == n with
  |true=>
   have e1:x=n:=fX e;subst e1;by_cases c:(j == aT&&env.scope.kind == .function&&env.kindOf x == ae .cell)=true
   ·have c1:(j == aT)=true:=by
     cases q:(j == aT) with
     |true=>rfl
     |false=>rw[q]at c;simp at c
    have c2:j= .free:=by simpa using c1
    rw[c2];exact a0
   ·rw[if_neg c]at h';simp only[b7,beq_self_eq_true]at h';have h2:j=k:=aG h';rcases hk with z |z
    ·exact absurd (h2.trans z) hj
    ·rw[h2,z];exact a0
  |false=>
   by_cases c:(j == aT&&env.scope.kind == .function&&env.kindOf n == ae .cell)=true
   ·rw[if_pos c]at h';simp only[b7,e]at h';exact aK _ (zdn hr h' hk)
   ·rw[if_neg c]at h';simp only[b7,e]at h';exact aK _ (zdn hr h' hk)
theorem zdX{env:bt}{x:Str}:∀{names:List (Str×bN)},names.lookup x=ae .free→
  (names.map λ(n,k)=>if(k == aT&&env.scope.kind == .function&&env.kindOf n == ae .cell) then(n,cq) else(n,k)).lookup x=ae .cell∨
  (names.map λ(n,k)=>if(k == aT&&env.scope.kind == .function&&env.kindOf n == ae .cell) then(n,cq) else(n,k)).lookup x=ae .free
 | [],h=>by simp at h
 | (n,j)::r,h=>by
  show gF x ((if(j == aT&&env.scope.kind == .function&&env.kindOf n == ae .cell)=true then(n,cq) else(n,j)) ::
   (r.map λ(n,k)=>if(k == aT&&env.scope.kind == .function&&env.kindOf n == ae .cell) then(n,cq) else(n,k)))=_∨
   gF x ((if(j == aT&&env.scope.kind == .function&&env.kindOf n == ae .cell)=true then(n,cq) else(n,j)) ::
   (r.map λ(n,k)=>if(k == aT&&env.scope.kind == .function&&env.kindOf n == ae .cell) then(n,cq) else(n,k)))=_
  cases e:x == n with
  |true=>
   simp only[b7,e]at h;have h2:j= .free:=aG h;subst h2;by_cases c:(aT == aT&&env.scope.kind == .function&&env.kindOf n == ae .cell)=true
   ·rw[if_pos c];simp only[b7,e];exact .inl trivial
   ·rw[if_neg c];simp only[b7,e];exact .inr trivial
  |false=>
   simp only[b7,e]at h;by_cases c:(j == aT&&env.scope.kind == .function&&env.kindOf n == ae .cell)=true
   ·rw[if_pos c];simp only[b7,e];exact zdX h
   ·rw[if_neg c];simp only[b7,e];exact zdX h
noncomputable def zbC (X:Cx) (scope:Scope) (N:List Str) (s:ah) (H:Hp) (fp:List Addr) (pins:List (Addr×Obj)):Cx:=
 { X with N:=N,s₀:=s,H₀:=H,env:=compEnvC scope (zhI X.env.cells scope.names []) s.heap.objs.size X.env,outer:=X.stack,stack:=X.stack,ex:=fp,fn:=λ_=>false,pn:=X.pn++pins,xe:=λ_ _=>False }
structure CompSc (X:Cx) (scope:Scope) (N:List Str) (k:Nat) (fr:List Nat):Prop where
  kind:scope.kind= .function
  nd:N.Nodup
  len:N.length=k+fr.length
  cell:(scope.names.all λy=>y.2 != cq)=true
  loc:(scope.names.all λy=>y.2 != bN.local || scope.names.lookup y.1 == ae bN.local)=true
  free:(scope.names.all λy=>y.2 != aT || X.env.kindOf y.1 == ae cq || X.env.kindOf y.1 == ae aT)=true
  frs:((N.drop k).all λx=>scope.names.lookup x == ae aT)=true
  pl:N.drop k=fr.map λj=>X.N.getD j gP
  plen:(fr.all λj=>decide (j<X.N.length))=true
noncomputable def zhG (σ:St) (fr:List Nat):St:=fr.map λj=>(σ[j]?).join
noncomputable def znm (σ:St) (k:Nat) (fr:List Nat):St:=aO k none++zhG σ fr
section
variable {X:Cx}{scope:Scope}{N:List Str}{k:Nat}{fr:List Nat}
theorem CompSc.cell' (S:CompSc X scope N k fr):∀y∈scope.names,y.2≠ .cell:=λy hy=>by
 have q:=cZ.mp S.cell y hy;simpa using q
theorem CompSc.loc' (S:CompSc X scope N k fr):∀y∈scope.names,y.2= .local→scope.names.lookup y.1=ae .local:=λy hy e=>by
 have q:=cZ.mp S.loc y hy;rw[e]at q;simpa using q
theorem CompSc.kinds (S:CompSc X scope N k fr):∀y∈scope.names,y.2= .free→X.env.kindOf y.1=ae .cell∨X.env.kindOf y.1=ae .free:=λy hy e=>by
 have q:=cZ.mp S.free y hy;rw[e]at q;simpa using q
theorem CompSc.hasCell (S:CompSc X scope N k fr) (ok:X.Ok):∀y∈scope.names,y.2= .free→ ∃c,X.env.cells.lookup y.1=ae c:=λy hy e=>ok.has y.1 (S.kinds y hy e)
theorem CompSc.sub (S:CompSc X scope N k fr) (ok:X.Ok) {x:Str}{c:Addr}(h:(zhI X.env.cells scope.names []).lookup x=ae c):X.env.cells.lookup x=ae c:=by
 rcases zjb scope.names [] (S.hasCell ok) h with q |q
 ·simp at q
 ·exact q
end
section
variable {X:Cx}{pins:List (Addr×Obj)}{σ:St}{H:Hp}{s:ah}{scope:Scope}{N:List Str}{k:Nat}{fr:List Nat}{fp:List Addr}
theorem zua (I:Inv X pins σ H s) (S:CompSc X scope N k fr) (hfp:∀b∈fp,zjh X pins H b) (hob:∀b∈fp,∃o,s.heap.get? b=ae o):(zbC X scope N s H fp pins).Ok where
  mod:=I.ok.mod
  kind:=S.kind
  glob:=I.ok.glob
  blt:=I.ok.blt
  above:=au _
  inj:=λx y c h1 h2=>I.ok.inj x y c (S.sub I.ok h1) (S.sub I.ok h2)
  has:=λx hx=>zgB scope.names [] (.inl (by
    rcases hx with hx |hx
    · exact zdn S.cell' hx (.inl rfl)
    · exact zdn S.cell' hx (.inr rfl)))
  cab:=λx c h _=>absurd h (by show ¬(false=true);decide)
  hd:=I.ok.hd
  frames:=I.ok.frames
  stk:= .inl rfl
  exf:=λb hb=>⟨by
    obtain⟨o,e⟩:=hob b hb;exact br (aJ e),λx c h=>(hfp b hb).2.2.2.2.1 x c (S.sub I.ok h)⟩
  bs:=I.bs
  bsz:=aW I.ok.bsz I.sz
  noex:=λb o e hb=>by
    rcases(hfp b hb).2.2.2.1 with z |z
    · exact I.ok.noex b o e z
    · exact absurd (bH (aJ (I.ok.bs b o e).1) z) (cE _)
  exfs:=λb hb z=>by
    rcases az.mp (I.stkSub b z) with q |q
    · exact(hfp b hb).2.1 q
    · exact(hfp b hb).2.2.1 q
  funs:=I.stack
  frf:=I.stkFree
theorem zuX (I:Inv X pins σ H s) (S:CompSc X scope N k fr) {H':Hp}{b:Addr}(hb:b∈fp) (hf:zjh X pins H b) (hob:∃o,s.heap.get? b=ae o) (hn:H' b=none):zjh (zbC X scope N s H fp pins) [] H' b:=by
 refine⟨hn,?_,λz=>?_, .inl hb,λx c h=>hf.2.2.2.2.1 x c (S.sub I.ok h),λp hp=>?_⟩
 ·obtain⟨o,e⟩:=hob;exact br (aJ e)
 ·rcases az.mp (I.stkSub b z) with q |q
  ·exact hf.2.1 q
  ·exact hf.2.2.1 q
 ·rcases bu.mp hp with z |z
  ·exact hf.2.2.2.2.2 p z
  ·cases z
theorem znC{j:Nat}{v:V}(h:(zhG σ fr)[j]? =ae (ae v)):∃i,fr[j]? =ae i∧σ[i]? =ae (ae v):=by
 unfold zhG at h;rw[bq]at h;cases e:fr[j]? with
 |none=>rw[e]at h;cases h
 |some i=>
  rw[e]at h;have h':(σ[i]?).join=ae v:=aG h;refine⟨i,rfl,?_⟩;cases q:σ[i]? with
  |none=>rw[q]at h';cases h'
  |some o=>
   rw[q]at h';have h2:o=ae v:=h';rw[h2]
theorem zrl (I:Inv X pins σ H s) (S:CompSc X scope N k fr) (hfp:∀b∈fp,zjh X pins H b) (hob:∀b∈fp,∃o,s.heap.get? b=ae o) {h1:Heap}{tk:Nat}{m:Str→Option Value}
    (hns:h1.Ns s.heap.objs.size m) (hk:∀b o,s.heap.get? b=ae o→h1.get? b=ae o):Inv (zbC X scope N s H fp pins) [] (znm σ k fr) H { s with heap:=h1,toks:=tk } where
  ok:=zua I S hfp hob
  os:=rfl
  bare:=I.bare
  base:=Un.kept hk
  loc:=⟨m,hns,λi x v e1 e2 e3=>by
    have e2':(aO k (none:Option V)++zhG σ fr)[i]? =ae (ae v):=e2;have hi:k≤i:=by
      refine i4 λz=>?_;rw[j9 (by simpa using z),iQ]at e2';split at e2'<;>cases e2'
    rw[gA (by simpa using hi),gL]at e2';obtain⟨j,f1,f2⟩:=znC e2';have e1':N[i]? =ae x:=e1;have d1:(N.drop k)[i - k]? =ae x:=by
      rw[iB];have:k+(i - k)=i:=by omega
      rw[this];exact e1'
    have d2:=d1;rw[S.pl,bq,f1]at d2;have d3:X.N.getD j gP=x:=aG d2;have jl:j<X.N.length:=of_decide_eq_true (cZ.mp S.plen j (aX f1));have d4:X.N[j]? =ae x:=by
      rw[bo,a9 jl]at d3;rw[a9 jl];exact congrArg ae d3
    have fk:scope.names.lookup x=ae .free:=by
      have q:=cZ.mp S.frs x (aX d1);simpa using q
    have hmem:(x,aT)∈scope.names:=dQ fk;have kd:=S.kinds _ hmem rfl;have vis:Vis X.env.scope x:=by
      rcases kd with z |z
      · exact .inr (.inl z)
      · exact .inr (.inr z)
    obtain⟨m0,_,hl⟩:=I.loc;obtain⟨u,ru,lk⟩:=hl j x v d4 f2 vis;refine⟨u,ru, .inr ⟨zdX fk,?_⟩⟩;have kd':X.env.kindOf x=ae .cell∨X.env.kindOf x=ae .free:=kd;rcases lk with⟨z,_⟩ |⟨_,c,hc,hcell⟩
    · rcases kd' with q |q<;>(rw[z]at q;cases q)
    · obtain⟨c',hc'⟩:=zgB (cells:=X.env.cells) scope.names [] (.inl hmem);have e:=S.sub I.ok hc';rw[hc]at e;cases e;exact⟨c,hc',hcell.keeps hk⟩⟩
  cell:=λx c h=>by
    obtain⟨v,z⟩:=I.cell x c (S.sub I.ok h);exact⟨v,z.keeps hk⟩
  free:=I.hok.fresh (au _)
  freeC:=λx c h=>I.freeC x c (S.sub I.ok h)
  pin:=λp hp=>by
    have hp':p∈X.pn++pins:=by
      rcases bu.mp hp with z |z
      · exact z
      · cases z
    obtain⟨e,n,ne,nf,d⟩:=I.pin p hp';refine⟨hk _ _ e,n,br (aJ e),λz=>?_,d⟩;rcases az.mp (I.stkSub p.1 z) with q |q
    · exact ne q
    · exact nf q
  hok:=I.hok.kept hk
  len:=by
    show(aO k (none:Option V)++zhG σ fr).length=N.length;rw[aS,gL,S.len];unfold zhG;rw[aq]
theorem zkv{σ':St}{H':Hp}{s':ah}{h':Heap}(I:Inv X pins σ H s) (hfp:∀b∈fp,zjh X pins H b) (J:Inv (zbC X scope N s H fp pins) [] σ' H' s') (sb:b8 s.heap.objs.size s'.heap h'):Inv X pins σ H' { s' with heap:=h' }:=by
 have neC:∀b o,s.heap.get? b=ae o→b≠s.heap.objs.size:=λb o e=>br (aJ e);have frC:H' s.heap.objs.size=none:=J.free;refine Inv.call' (s':={ s' with heap:=h' }) (ch:=fp) I J.os ⟨λb o e n hf hx=>?_,λb o e n hf hx=>?_,λb o e n hx=>J.base.free b o e n hx,λb o e hx=>?_,J.base.tups,J.base.frzs,J.base.tbls⟩ (λb o e=>?_) J.bare λb hb=>⟨(hfp b hb).2.2.2.1,(hfp b hb).2.1,(hfp b hb).2.2.2.2.1,(hfp b hb).2.2.2.2.2⟩
 ·exact(sb.2 b (neC b o e)).trans (J.base.keep b o e n hf hx)
 ·obtain⟨sl,q⟩:=J.base.slot b o e n hf hx;exact⟨sl,(sb.2 b (neC b o e)).trans q⟩
 ·obtain⟨o',q⟩:=J.base.there b o e hx;exact⟨o',(sb.2 b (neC b o e)).trans q⟩
 ·refine(J.hok b o e).stay (λc v hc q=>(sb.2 c ?_).trans q) (λ_ q=>q) λ_ _ q=>q;rintro rfl;rcases hc with rfl |hc
  ·rw[frC]at e;cases e
  ·rw[frC]at hc;cases hc
end
def PTs (X:Cx) (ifs:List Expr) (t:TT):Prop:=
 ∀(pins:List (Addr×Obj)) (s:ah) (σ:St) (H:Hp) (Q:Bool→Hp→Prop),Inv X pins σ H s→t σ H Q→
  am (ap X.prog X.w) X.A (forIn ifs true λc r=>if r=true then do let ok ←isTrue c X.env (ay c X.env);pure (d8 ok) else pure (d8 r)) (TP X pins σ Q) X.xe s
noncomputable def zAK:TT:=λ_ H Q=>Q true H
theorem zve{X:Cx}:PTs X [] zAK:=λ_ _ _ H _ I h=>wpAny_tests_nil ⟨H,I,h⟩
theorem ztY{X:Cx}{c:Expr}{t:TT}(h:PT X c t):PTs X [c] t:=λpins s σ H Q I q=>wpAny_tests_one (h pins s σ H Q I q)
def zzy (X:Cx) (scope:Scope) (N:List Str) (tg:Expr) (ifs:List Expr) (elt:Expr) (l:Addr) (x:V) (σ:St) (H:Hp) (M:St→Hp→Prop):Prop:=
 ∀(s₀:ah) (H₀:Hp) (fp:List Addr) (pn:List (Addr×Obj)),∃(g:TG) (tt:TT) (te:TE),PG (zbC X scope N s₀ H₀ fp pn) tg g∧PTs (zbC X scope N s₀ H₀ fp pn) ifs tt∧PE (zbC X scope N s₀ H₀ fp pn) elt te∧
  g x σ H λσ2 H2=>tt σ2 H2 λb H3=>if b=true then te σ2 H3 λy H4=>∃ys,H4 l=ae (.lst ys)∧ys.length<sizeLine∧M σ2 (upd H4 l (.lst (ys++[y]))) else M σ2 H3
def zuL (X:Cx) (scope:Scope) (N:List Str) (k:Nat) (fr:List Nat) (tg:Expr) (ifs:List Expr) (elt:Expr) (σ:St) (Q:VK) (J:It) (H1:Hp):Prop:=∀l,H1 l=none→
 ∃W:Nat→Nat→St→Hp→Prop,(∃m,W 0 m (znm σ k fr) (upd H1 l (.lst [])))∧ ∀i m σ' H',W i m σ' H'→
  (J.stop i H'∧Q (.ref l) H')∨(J.go i H'∧ ∃M:St→Hp→Prop,(∀σ'' H'',M σ'' H''→ ∃m',m'<m∧W (i+1) m' σ'' H'')∧ ∀x H2,J.yld i H' x H2→zzy X scope N tg ifs elt l x σ' H2 M)
noncomputable def zrs (X:Cx) (scope:Scope) (N:List Str) (k:Nat) (fr:List Nat) (tg:Expr) (ifs:List Expr) (elt:Expr) (wi:TI):TE:=λσ H Q=>wi σ H λJ H1=>zuL X scope N k fr tg ifs elt σ Q J H1
theorem zjN{X:Cx}{use:Option (Value→bW Unit)}{Qf:Value→ah→Prop}{pins:List (Addr×Obj)}{s:ah}{σ:St}{H:Hp}{Q:VK}{scope:Scope}{N:List Str}{k:Nat}{fr:List Nat}{tg iter elt:Expr}{ifs:List Expr}{wi:TI}{pos:aC}(hx:X.xe=λ_ _=>False) (hc:X.calm=true) (S:CompSc X scope N k fr) (hi:PI X tg iter wi) (I:Inv X pins σ H s)
  (fin:∀{s3 s6:ah}{H3 H5:Hp}{fp:List Addr}{σ5:St}{l:Addr}{a:Flow},Inv X pins σ H3 s3→(∀b∈fp,zjh X pins H3 b)→Inv (zbC X scope N s3 H3 fp pins) [] σ5 H5 s6→Q (.ref l) H5→compPost (ap X.prog X.w) X.A X.xe use Qf (.ref l) s3.heap.objs.size (.ok a) s6)
  (h:zrs X scope N k fr tg ifs elt wi σ H Q)
  (hs:∀x,dL iter X.env x=pure x:=by intro _;rfl):am (ap X.prog X.w) X.A (comprehension (.ListComp elt [⟨tg,iter,ifs,0⟩] scope pos) scope X.env (firstIterPos [⟨tg,iter,ifs,0⟩] pos) (newList []) (firstAsync [⟨tg,iter,ifs,0⟩]) (firstIter [⟨tg,iter,ifs,0⟩] X.env) use) Qf X.xe s:=by
 refine wpAny_comprehension_free (use:=use) rfl hs (znZ (S.hasCell I.ok)) S.kind S.loc' (thn (hi pins s σ H _ I h) λv s1 h1=>thn h1 λitv s2 h2=>?_);obtain⟨it,fp,tn,J,H2,e,I2,T,st2,f2,h2⟩:=h2;subst e;have fr2:H2 s2.heap.objs.size=none:=I2.hok.fresh (au _);obtain⟨W,⟨m0,w0⟩,turn⟩:=h2 s2.heap.objs.size fr2;refine wpAny_newList ?_ (by show 0≤sizeLine;exact aY _);have I3:Inv X pins σ (upd H2 s2.heap.objs.size (.lst [])) { s2 with heap:=s2.heap.push { cls:= .type "list",data:= .seq ([]:List Value).toArray } }:=I2.lnew (t':=s2.toks) (ys:=[]) .nil (aY _);have old:∀b o,s2.heap.get? b=ae o→(s2.heap.push { cls:= .type "list",data:= .seq ([]:List Value).toArray }).get? b=ae o:=λb o e=>aH _ e;have fpo2:∀b∈fp,∃o,s2.heap.get? b=ae o:=λb hb=>by
  obtain⟨o,e,_⟩:=T.obj _ _ st2 b hb;exact⟨o,e⟩
 have fpo:∀b∈fp,∃o,(s2.heap.push { cls:= .type "list",data:= .seq ([]:List Value).toArray }).get? b=ae o:=λb hb=>by
  obtain⟨o,e⟩:=fpo2 b hb;exact⟨o,old b o e⟩
 have f3:∀b∈fp,zjh X pins (upd H2 s2.heap.objs.size (.lst [])) b:=λb hb=>by
  obtain⟨o,e⟩:=fpo2 b hb;refine⟨?_,(f2 b hb).2⟩;rw[zaz (br (aJ e))];exact(f2 b hb).1
 generalize hs3:({ s2 with heap:=s2.heap.push { cls:= .type "list",data:= .seq ([]:List Value).toArray } }:ah)=s3 at I3⊢;have st3:tn 0 s3.heap:=by
  rw[←hs3];exact T.keep _ _ _ st2 λb _ o e=>old b o e
 have fpo3:∀b∈fp,∃o,s3.heap.get? b=ae o:=by rw[←hs3];exact fpo
 clear fpo old hs3;refine wpAny_newFunctionEnv S.cell' (by intro y hy;simp at hy) (λh1 hns1 hsb1=>?_) S.kind;have hk1:∀b o,s3.heap.get? b=ae o→h1.get? b=ae o:=λb o e=>hsb1.extBut b o (br (aJ e)) (aH _ e);have I4:=zrl (tk:=s3.toks+([]:List (Str×Value)).length) I3 S f3 fpo3 hns1 hk1;have st4:tn 0 h1:=T.keep _ _ _ st3 λb _ o e=>hk1 b o e;have stat:∀{H':Hp},(∀b∈fp,H' b=none)→ ∀b∈fp,zjh (zbC X scope N s3 (upd H2 s2.heap.objs.size (.lst [])) fp pins) [] H' b:=λhn b hb=>zuX I3 S hb (f3 b hb) (fpo3 b hb) (hn b hb);have loop:∀s4:ah,s4={ s3 with heap:=h1,toks:=s3.toks+([]:List (Str×Value)).length }→
   dJ (ap X.prog X.w) X.A (.compLoop (.ListComp elt [⟨tg,iter,ifs,0⟩] scope pos) 0 (.ref it) (.ref s2.heap.objs.size) (compEnvC scope (zhI X.env.cells scope.names []) s3.heap.objs.size X.env))
    (compPost (ap X.prog X.w) X.A X.xe use Qf (.ref s2.heap.objs.size) s3.heap.objs.size) s4:=by
  rintro s4 rfl;refine zkw (λn s'=>∃i σ' H',Inv (zbC X scope N s3 (upd H2 s2.heap.objs.size (.lst [])) fp pins) [] σ' H' s'∧tn i s'.heap∧(∀b∈fp,H' b=none)∧W i n σ' H') ?_ m0 ⟨0,_,_,I4,st4,λb hb=>(f3 b hb).1,w0⟩;rintro n s5 ⟨i,σ5,H5,I5,st5,fr5,w5⟩;rcases turn i n σ5 H5 w5 with⟨stop,qn⟩ |⟨go,M,hM,step⟩
  ·refine thn (T.done (zbC X scope N s3 (upd H2 s2.heap.objs.size (.lst [])) fp pins) rfl rfl rfl hc i [] s5 σ5 H5 _ I5 (stat fr5) st5 stop) λr s6 ⟨hr,I6⟩=>?_;subst hr;exact fin I3 f3 I6 qn
  ·refine thn (T.item (zbC X scope N s3 (upd H2 s2.heap.objs.size (.lst [])) fp pins) rfl rfl rfl hc i [] s5 σ5 H5 _ I5 (stat fr5) st5 go) λr s6 ⟨u,hr,h6⟩=>?_;subst hr;refine thn h6 λ_ s7 ⟨x,H7,I7,r7,y7,st7,fr7⟩=>?_;have I7':=I7.pinned (stat fr7) (T.obj _ _ st7);obtain⟨g,tt,te,hg,ht,he,q⟩:=step x H7 y7 s3 (upd H2 s2.heap.objs.size (.lst [])) fp pins;have again:∀{s8:ah}{σ8:St}{H8:Hp},Inv (zbC X scope N s3 (upd H2 s2.heap.objs.size (.lst [])) fp pins) ([]++zjp fp s7.heap) σ8 H8 s8→M σ8 H8→
     ∃m,m<n∧ ∃i σ' H',Inv (zbC X scope N s3 (upd H2 s2.heap.objs.size (.lst [])) fp pins) [] σ' H' s8∧tn i s8.heap∧(∀b∈fp,H' b=none)∧W i m σ' H':=λ{s8 σ8 H8} I8 n8=>by
    obtain⟨m',hm,w8⟩:=hM σ8 H8 n8;refine⟨m',hm,i+1,σ8,H8,I8.unpinned,T.keep _ _ _ st7 λb hb o e=>(I8.pin (b,o) (ck _ (ck _ (zes hb e)))).1,λb hb=>?_,w8⟩;obtain⟨o,e,d⟩:=T.obj _ _ st7 b hb;exact(I8.pin (b,o) (ck _ (ck _ (zes hb e)))).2.1
   refine thn (hg _ s7 σ5 H7 x u _ I7' r7 q) λ_ s8 ⟨σ8,H8,I8,q8⟩=>?_;refine thn (ht _ s8 σ8 H8 _ I8 q8) λb s9 ⟨H9,I9,q9⟩=>?_;cases b with
   |false=>exact again I9 q9
   |true=>
    refine thn (he _ s9 σ8 H9 _ I9 q9) λy s10 ⟨yv,H10,I10,r10,ys,hl,hz,qM⟩=>?_;exact thn (zkP _ s10 σ8 H10 (.ref s2.heap.objs.size) [yv] (.ref s2.heap.objs.size) [y] (λ_ H'=>M σ8 H') I10 rfl (.cons r10 .nil) ⟨_,ys,yv,rfl,rfl,hl,hz,qM⟩) λ_ s11 ⟨_,H11,I11,_,q11⟩=>again I11 q11
 exact codeAny_compStart_list (loop _ rfl) (T.self _ 0 _ _ _ st4 (loop _ rfl))
theorem zui{X:Cx}{scope:Scope}{N:List Str}{k:Nat}{fr:List Nat}{tg iter elt:Expr}{ifs:List Expr}{wi:TI}{pos:aC}(hx:X.xe=λ_ _=>False) (hc:X.calm=true) (S:CompSc X scope N k fr) (hi:PI X tg iter wi)
  (hs:∀x,dL iter X.env x=pure x:=by intro _;rfl):PE X (.ListComp elt [⟨tg,iter,ifs,0⟩] scope pos) (zrs X scope N k fr tg ifs elt wi):=by
 intro pins s σ H Q I h;rw[eval_ListComp];refine zjN hx hc S hi I (λ{s3 s6 H3 H5 fp σ5 l a} I3 f3 I6 qn=>?_) h hs;obtain⟨m6,ns6,_⟩:=I6.loc;exact⟨m6,ns6,λh' sb=>⟨.ref l,H5,zkv I3 f3 I6 sb,rfl,qn⟩⟩
theorem zuD{X:Cx}{scope:Scope}{N:List Str}{k:Nat}{fr:List Nat}{tg iter elt:Expr}{ifs:List Expr}{wi:TI}{pos spos pos':aC}{i:Nat}{x:Str}(hx:X.xe=λ_ _=>False) (hc:X.calm=true) (S:CompSc X scope N k fr) (hi:PI X tg iter wi)
  (hN:X.N.Nodup) (hxi:X.N[i]? =ae x) (hxl:Loc X.env.scope x) (hw:c7 (.ListComp elt [⟨tg,iter,ifs,0⟩] scope pos) (ae (.Name x pos')) spos.line X.env=pure true) (hf:X.fn x=true∨X.env.scope.names.lookup x=ae .local)
  (hs:∀x,dL iter X.env x=pure x:=by intro _;rfl):PS X (.Assign [.Name x pos'] (.ListComp elt [⟨tg,iter,ifs,0⟩] scope pos) spos) (zzL (zrs X scope N k fr tg ifs elt wi) (zvk i)):=by
 intro pins s σ H D I h;rw[exec_Assign_Name_used x pos' _ spos hw];refine ak (wpAny_standAt (ak ?_));rw[arm_evalThenUse_ListComp];refine ak ?_;refine zjN (Qf:=λ_ s'=>am (ap X.prog X.w) X.A (pure ()) (λ_ s2=>am (ap X.prog X.w) X.A (pure Flow.next) (SP X pins D) X.xe s2) X.xe s') hx hc S hi I (λ{s3 s6 H3 H5 fp σ5 l a} I3 f3 I6 qn=>?_) h hs;have IX:Inv X pins σ H5 s6:=zkv (h':=s6.heap) I3 f3 I6 ⟨rfl,λ_ _=>rfl⟩;obtain⟨m6,ns6,_⟩:=I6.loc;have ns6:s6.heap.Ns s3.heap.objs.size m6:=ns6;have frC:H5 s3.heap.objs.size=none:=I6.free;have fC:zjh X pins H5 s3.heap.objs.size:=I3.fpOk (au _) frC;refine iH (zjt IX hN hxi hxl (v:= .ref l) rfl (λs7 I7 ⟨b,sb,hb⟩=>?_) hf);have hbC:s3.heap.objs.size≠b:=by
  rcases hb with rfl |hb
  ·exact fC.2.1
  ·exact bj (fC.2.2.2.2.1 _ _ hb)
 refine⟨m6,ns6.sameBut sb hbC,λh' sb2=>aD (aD ⟨_,H5,?_,qn⟩)⟩;refine Inv.call' (s':={ s7 with heap:=h' }) (ch:=[s3.heap.objs.size]) I7 rfl ⟨λc o e n hfs hex=>?_,λc o e n hfs hex=>?_,λc o e n _=>n,λc o e hex=>?_,λ_ _ q=>q,λ_ _ _ q=>q,λ_ ps q=>⟨#[],by simpa using q⟩⟩ (λc o e=>?_) I7.bare λc hcm=>?_
 ·exact(sb2.2 c (λz=>hex (by simp [z]))).trans e
 ·exact⟨o.slots,(sb2.2 c (λz=>hex (by simp [z]))).trans e⟩
 ·exact⟨o,(sb2.2 c (λz=>hex (by simp [z]))).trans e⟩
 ·refine(I7.hok c o e).stay (λd v hd q=>(sb2.2 d ?_).trans q) (λ_ q=>q) λ_ _ q=>q;rintro rfl;rcases hd with rfl |hd
  ·rw[frC]at e;cases e
  ·rw[frC]at hd;cases hd
 ·rw[bf.mp hcm];exact⟨fC.2.2.2.1,fC.2.1,fC.2.2.2.2.1,fC.2.2.2.2.2⟩
noncomputable def Its (x:Str):It:=⟨λi _=>i<x.cps.size,λi H v H'=>H'=H∧ ∃c,x.cps[i]? =ae c∧v= .str ⟨#[c]⟩,λi _=>i=x.cps.size⟩
theorem zmX{P:aE}{w:aB}{K:aj}{tg:Expr}(it:Addr) (x:Str) (t:bg) (ty:String)
    (hn: ["enumerate", "zip", "dict_itemiterator", "dict_reverseitemiterator", "odict_iterator", "itertools.zip_longest", "itertools.pairwise"].contains ty=false)
    (hW:∀A':aN,A'.handled=none→dS P w A' it [it] [it] x.cps.size (SignAt x) (λi h=>h.IsStrIter it ty x t i))
    (hself:∀(A:aN) (i:Nat) (s:ah) (Q:Value→ah→Prop) (E:Value→ah→Prop),s.heap.IsStrIter it ty x t i→Q (.ref it) s→am (ap P w) A (dh (.ref it)) Q E s) :
    Turn P w K tg (Its x) [it] it (λi h=>h.IsStrIter it ty x t i) where
  mem:=by simp
  obj:=λi h st b hb=>by
    have e:b=it:=by simpa using hb
    subst e;obtain⟨o,e,c,d⟩:=st;exact⟨o,e,λv z=>by rw[d]at z;cases z⟩
  keep:=λi h h' st k=>by
    obtain⟨o,e,r⟩:=st;exact⟨o,k it (by simp) o e,r⟩
  item:=by
    intro X hP hw hK hc i pins s σ H E I hf st hg;subst hP hw hK;obtain⟨f0,f1,f2,f3,f4,f5⟩:=hf it (by simp);refine(hW X.A (I.ok.hd hc)).item i s _ _ hg st λv h' tk hv st' kk=>?_;obtain⟨c,u,hc',rfl⟩:=hv;have I1:Inv X pins σ H { s with heap:=h',toks:=tk }:=I.turned (λb o hb e=>kk b o (by simpa using hb) e) f0 f1 f3 f4 f5;obtain⟨o,e,c',d⟩:=id st';exact⟨_,rfl,zrc (s:={ s with heap:=h',toks:=tk }) e c' d hn ⟨.str ⟨#[c]⟩,H,I1,⟨u,rfl⟩,⟨rfl,c,hc',rfl⟩,st',λb hb=>(hf b hb).1⟩⟩
  done:=by
    intro X hP hw hK hc i pins s σ H E I hf st hg;subst hP hw hK;obtain⟨f0,f1,f2,f3,f4,f5⟩:=hf it (by simp);have hi:i=x.cps.size:=hg;subst hi;exact(hW X.A (I.ok.hd hc)).done s _ _ st λh' tk kk=>⟨rfl,I.turned (λb o hb e=>kk b o (by simpa using hb) e) f0 f1 f3 f4 f5⟩
  self:=hself
def TupsOn (H H':Hp):Prop:=∀b xs,H b=ae (.tup xs)→H' b=ae (.tup xs)
theorem TupsOn.trans{H H1 H2:Hp}(a:TupsOn H H1) (b:TupsOn H1 H2):TupsOn H H2:=λc xs h=>b c xs (a c xs h)
section
variable {X:Cx}
def zzZ:V→Option Int→Option Int→Hp→VK→Prop:=λx lo hi H Q=>∃z,x= .str z∧z.length≤sizeLine∧Q (.str (cu z lo hi)) H
theorem sl_str:SlR X zzZ:=by
 intro pins s σ H x v vl vu lo hi sl Q I rx hs pl pu h;obtain⟨z,rfl,hz,q⟩:=h;obtain⟨t,rfl⟩:=rx;refine⟨"str",_,F.slot_str_getitem.lookup,iz _ _ _,?_⟩;obtain⟨o,ho,hc,hd⟩:=hs;have fin:∀t' k,EP X pins σ Q (.str (cu z lo hi) t') { s with toks:=k }:=λt' k=>⟨.str _,H,I.tok _,⟨t',rfl⟩,q⟩;have le:=aW (Txt.slice_le z lo hi) hz;cases pl with
 |none=>
  cases pu with
  |none=>exact gc (l:=none) (u:=none) (st:=none) ⟨o,ho,hc,hd⟩ rfl (fM ⟨le,fin⟩)
  |int j u=>exact gc (l:=none) (u:=ae (j,u)) (st:=none) ⟨o,ho,hc,hd⟩ rfl (fM ⟨le,fin⟩)
 |int i w=>
  cases pu with
  |none=>exact gc (l:=ae (i,w)) (u:=none) (st:=none) ⟨o,ho,hc,hd⟩ rfl (fM ⟨le,fin⟩)
  |int j u=>exact gc (l:=ae (i,w)) (u:=ae (j,u)) (st:=none) ⟨o,ho,hc,hd⟩ rfl (fM ⟨le,fin⟩)
noncomputable def zye (xs:List Nat) (lo hi:Option Int):List Nat:=(xs.drop (HT.sIx xs.length 0 lo)).take (HT.sIx xs.length xs.length hi - HT.sIx xs.length 0 lo)
theorem zts (lo hi:Option Int) (n:Nat):fN lo hi 1 n=sliceRange ((HT.sIx n 0 lo:Nat):Int) ((HT.sIx n n hi:Nat):Int) 1:=by
 have one:(1:Int) > 0:=by decide
 have a:∀(v:Option Int) (d:Nat),(match v with |none=>(d:Int) |some i=>(if(1:Int) > 0 then max 0 (min (if i<0 then i+(n:Int) else i) (n:Int)) else max (-1) (min (if i<0 then i+(n:Int) else i) ((n:Int) - 1))))=((HT.sIx n d v:Nat):Int):=by
  intro v d;cases v with
  |none=>rfl
  |some i=>
   simp only[HT.sIx,one,if_true];by_cases h:i<0
   ·simp only[h,if_true];omega
   ·simp only[h,if_false];omega
 have l:=a lo 0;have u:=a hi n;unfold fN;simp only[one,if_true]at l u⊢
 first
  |rw[l,u]
  | (cases lo<;>cases hi<;>simp_all)
theorem zps (z:Str) (lo hi:Option Int):(cu z lo hi).cps.toList=zye z.cps.toList lo hi:=by
 have hn:z.length=z.cps.toList.length:=by simp [ik]
 have hp:(fN lo hi 1 z.length).filterMap (z.cps[·]?)=zye z.cps.toList lo hi:=by
  rw[zts,ir,i',hn];rfl
 unfold cu;split
 ·rename_i h;have h1:(fN lo hi 1 z.length).length=z.length:=by simpa using h
  rw[zts,ir,aq,iA]at h1;have le1:=HT.sIx_le z.length z.length (au _) hi;unfold zye;rw[←hn];have e0:HT.sIx z.length 0 lo=0∨z.length=0:=by omega
  have hz:z.cps.toList.length=z.length:=hn.symm;rcases e0 with e0 |e0
  ·rw[e0,dc,c_ (by omega)]
  ·have:z.cps.toList=[]:=i7 (by omega);rw[this];simp
 ·show(List.filterMap _ _).toArray.toList=_;rw[hp]
theorem zsj:CallR X (.builtin "isinstance") (λxs H Q=>∃x t c b,xs=[x, .ty c]∧TyOf X.K H x t∧eX X.K t (.type c)=ae b∧Q (.bl b) H):=by
 intro pins s σ H xs us Q I r h;obtain⟨x,t,c,b,rfl,ty,e,q⟩:=h;obtain⟨u,v,rfl,rx,ry⟩:=zwM r;cases(show v=ix c from ry);exact zpI I rx ty e λtk=>⟨.bl b,H,I.tok _,rfl,q⟩
end
section
variable {X:Cx}
theorem zeT (l:Addr) (items:Array Value) (n:Nat) (b:Addr) (items2:Array Value) (n2:Nat) (dd:Option Addr) (sl:Array (Option Value)) (hs0:¬(!items.isEmpty&&eg (items.size+items2.size))=true) (hs1:items.size≤sizeLine) (hs2:items.size+items2.size≤sizeLine+1) :
  Meets (bU.«list.extend» ⟨[.ref l, .ref b],[]⟩) (λ_ R s=>s.heap.get? l=ae { cls:= .type "list",dict:=none,data:= .seq items n,slots:= #[] }∧s.heap.get? b=ae { cls:= .type "tuple",dict:=dd,data:= .seq items2 n2,slots:=sl }∧R (.ok (.ret cb)) { s with heap:=s.heap.update l (gS λx=>x++items2),toks:=s.toks }):=
 .of_wp λprog w A R s h=>by
  obtain⟨hp,g,d,tk,os⟩:=s;obtain⟨hl,hb,h⟩:=h;have f1:=AutoSeq1.idx_int;have f2:=AutoSeq1.sub_tuple_tuple;have f3:=AutoSeq1.sub_list_list;have f4:=AutoSeq1.sub_tuple_list;have f5:=AutoSeq1.sub_list_tuple;have hz':(items++items2).size≤sizeLine+1:=by rw[Array.size_append];exact hs2
  wp_walk using(wpAny_updateSeq hl rfl (hz:=hs1) (_hz':=hz')),iI hl,iI hb;exact⟨_,rfl,h⟩
def zmU (K:aj):V→List V→Hp→VK→Prop:=λx vs H Q=>∃l b xs zs,x= .ref l∧vs=[.ref b]∧H l=ae (.lst xs)∧SqT K H b zs∧xs.length+zs.length≤sizeLine∧Q .non (upd H l (.lst (xs++zs)))
theorem znT:MtM X "list.extend" (zmU X.K):=by
 intro pins s σ H x vs v us Q I rx rv h;obtain⟨l,b,xs,zs,rfl,rfl,hH,hB,hz,q⟩:=h;cases rx;obtain⟨u,rfl,ru⟩:=rv.one;cases ru;obtain⟨z,its,n,r,hl,e⟩:=I.lstM hH;obtain⟨its2,r2,ht,hz2⟩:=I.tuple hB;obtain⟨⟨cls,dd,data,sl⟩,e2,hc,n2,hd⟩:=ht;simp only at hc hd;subst hc hd;have hl2:=r2.length;have hsz:its.toArray.size+its2.toArray.size≤sizeLine:=by rw[aQ,aQ];omega
 have hlong:¬(!its.toArray.isEmpty&&eg (its.toArray.size+its2.toArray.size))=true:=by
  rw[zjc hsz,fV];exact cT
 refine dP iP ⟨_,e,rfl⟩ j5 (iE _ _)
  (zeT l its.toArray n b its2.toArray n2 dd sl hlong (by rw[aQ];omega) (by omega)) ⟨e,e2,?_⟩
 refine⟨.non,_,I.lset (its':=its++its2) hH e (by simp) (r.append r2) ?_,rfl,q⟩;rw[aS];omega
def zxd (K:aj):V→List V→Hp→VK→Prop:=λx vs H Q=>∃(z:Str) (b:Addr) (ys:List Str),x= .str z∧vs=[.ref b]∧SqL K H b (ys.map V.str)∧(ys.map (·.length)).sum+ys.length*z.length≤16777216∧Q (.str (cN z ys)) H
theorem zvi{ys:List Str}:∀{us:List Value},Vals (ys.map V.str) us→StrsAre us ys:=by
 induction ys with
 |nil=>
  intro us r;cases r;exact .nil
 |cons y ys ih=>
  intro us r;cases r with
  |cons a b=>
   obtain⟨t,rfl⟩:=a;exact .cons y t (ih b)
theorem ztB:MtM X "str.join" (zxd X.K):=by
 intro pins s σ H x vs v us Q I rx rv h;obtain⟨z,b,ys,rfl,rfl,hB,hz,q⟩:=h;obtain⟨t,rfl⟩:=rx;obtain⟨u,rfl,ru⟩:=rv.one;cases ru;obtain⟨its,r,pl,_⟩:=I.list hB;refine join_list pl.isList (by simpa using zvi r) hz λt' k=>⟨.str (cN z ys),H,I.tok _,⟨t',?_⟩,q⟩;show fe (bU.Str.glued z ys) t'=_;rw[StrLaws.glued_eq_join]
end
inductive W where
  |non |bl (b:Bool) |int (i:Int) |str (x:Str) |tup (ws:List W) |ref (a:Addr) |scr (ns:List Int)
inductive Ob where
  |lst (ws:List W)
  |dct (kvs:List (List Int×W))
  |dk (kvs:List (Key×W))
  |ins (C:Addr) (fs:List (Str×W))
abbrev Sto:=Addr→Option Ob
noncomputable def put (S:Sto) (a:Addr) (o:Ob):Sto:=λb=>if b=a then ae o else S b
def FzL (K:aj) (H:Hp) (a:Addr) (xs:List V):Prop:=
 (∃o,H a=ae (.frz o (.lst xs)))∨
  ∃(o:Obj) (its:Array Value) (n:Nat),K.lookup a=ae o∧o.cls= .type "list" ∧o.dict=none∧o.data= .seq its n∧its.size≤sizeLine∧Vals xs its.toList
mutual
inductive Rep (K:aj) (H:Hp):W→V→Prop
 |non:Rep K H .non .non
 |bl (b:Bool):Rep K H (.bl b) (.bl b)
 |int (i:Int):Rep K H (.int i) (.int i)
 |str (x:Str):Rep K H (.str x) (.str x)
 |ref (a:Addr):Rep K H (.ref a) (.ref a)
 |scr {a:Addr}{ns:List Int}:FzL K H a (ns.map V.int)→Rep K H (.scr ns) (.ref a)
 |tup {a:Addr}{vs:List V}{ws:List W}:H a=ae (.tup vs)→Reps K H ws vs→Rep K H (.tup ws) (.ref a)
inductive Reps (K:aj) (H:Hp):List W→List V→Prop
 |nil:Reps K H [] []
 |cons {w:W}{v:V}{ws:List W}{vs:List V}:Rep K H w v→Reps K H ws vs→Reps K H (w::ws) (v::vs)
end
structure Ext (H:Hp) (S:Sto) (H':Hp) (S':Sto):Prop where
  tup:∀b xs,H b=ae (.tup xs)→H' b=ae (.tup xs)
  frz:∀b o u,H b=ae (.frz o u)→H' b=ae (.frz o u)
  fr:∀b xs,H b=ae (.lst xs)→S b=none→H' b=ae (.lst xs)∧S' b=none
  all:∀b o,H b=ae o→ ∃o',H' b=ae o'
def Sub (S S':Sto):Prop:=∀a o,S a=ae o→S' a=ae o
section
variable {K:aj}{H H' H1 H2:Hp}{S S' S1 S2:Sto}
theorem zag{a:Addr}{o:Ob}:put S a o a=ae o:=by unfold put;rw[if_pos rfl]
theorem zaA{a b:Addr}{o:Ob}(h:b≠a):put S a o b=S b:=by unfold put;rw[if_neg h]
theorem zbb{a:Addr}{o o':Ob}:put (put S a o) a o'=put S a o':=by funext b;unfold put;split<;>rfl
theorem Ext.refl:Ext H S H S:=⟨λ_ _ h=>h,λ_ _ _ h=>h,λ_ _ h g=>⟨h,g⟩,λ_ o h=>⟨o,h⟩⟩
theorem Ext.trans (a:Ext H S H1 S1) (b:Ext H1 S1 H2 S2):Ext H S H2 S2:=⟨λc xs h=>b.tup c xs (a.tup c xs h),λc o u h=>b.frz c o u (a.frz c o u h),
 λc o h g=>by
  obtain⟨h1,g1⟩:=a.fr c o h g;exact b.fr c o h1 g1,λc o h=>by
  obtain⟨o1,h1⟩:=a.all c o h;exact b.all c o1 h1⟩
theorem Ext.new{p:Addr}{o:HO}(h:H p=none):Ext H S (upd H p o) S:=
  ⟨λb xs e=>by rw[zaz (zau e h)];exact e,λb ob u e=>by rw[zaz (zau e h)];exact e,
   λb ob e g=>⟨by rw[zaz (zau e h)];exact e,g⟩,λb ob e=>⟨ob,by rw[zaz (zau e h)];exact e⟩⟩
theorem Ext.newS{p:Addr}{o:HO}{ob:Ob}(h:H p=none):Ext H S (upd H p o) (put S p ob):=
  ⟨λb xs e=>by rw[zaz (zau e h)];exact e,λb ob u e=>by rw[zaz (zau e h)];exact e,
   λb ob e g=>⟨by rw[zaz (zau e h)];exact e,by rw[zaA (zau e h)];exact g⟩,λb ob e=>⟨ob,by rw[zaz (zau e h)];exact e⟩⟩
theorem Ext.mut{p:Addr}{o u:HO}{ob ob0:Ob}(h:H p=ae u) (hs:S p=ae ob0) (ht:∀xs,u≠ .tup xs) (hf:∀ob q,u≠ .frz ob q):Ext H S (upd H p o) (put S p ob):=
  ⟨λb xs e=>by rw[zaz (zqg e h λz=>ht xs z.symm)];exact e,λb ob q e=>by rw[zaz (zqg e h λz=>hf ob q z.symm)];exact e,
   λb ob e g=>by
     have hb:b≠p:=by rintro rfl;rw[hs]at g;cases g
     exact⟨by rw[zaz hb];exact e,by rw[zaA hb];exact g⟩,λb ob e=>by
     by_cases hb:b=p
     · subst hb;exact⟨o,zay⟩
     · exact⟨ob,by rw[zaz hb];exact e⟩⟩
theorem Ext.lst{p:Addr}{o:HO}{ob ob0:Ob}{xs:List V}(h:H p=ae (.lst xs)) (hs:S p=ae ob0):Ext H S (upd H p o) (put S p ob):= .mut h hs (λ_ z=>nomatch z) λ_ _ z=>nomatch z
theorem Ext.drop (h:Sub S' S):Ext H S H S':=⟨λ_ _ h=>h,λ_ _ _ h=>h,λb o e g=>⟨e,by
 cases q:S' b with
 |none=>rfl
 |some z=>rw[h b z q]at g;cases g⟩,λ_ o h=>⟨o,h⟩⟩
theorem Ext.free (e:Ext H S H' S') {p:Addr}(h:H' p=none):H p=none:=by
 cases q:H p with
 |none=>rfl
 |some o=>obtain⟨o',z⟩:=e.all p o q;rw[h]at z;cases z
theorem Ext.fz{a:Addr}{xs:List V}(e:Ext H S H' S') (h:FzL K H a xs):FzL K H' a xs:=by
 rcases h with⟨o,h⟩ |h
 ·exact .inl ⟨o,e.frz _ _ _ h⟩
 ·exact .inr h
theorem FzL.sq{a:Addr}{xs:List V}(h:FzL K H a xs):SqL K H a xs:=by
 rcases h with⟨o,h⟩ |h
 ·exact .inl (.inr ⟨o,h⟩)
 ·exact .inr h
mutual
theorem Rep.ext (e:Ext H S H' S') {w:W}{v:V}:Rep K H w v→Rep K H' w v
 | .non=> .non
 | .bl b=> .bl b
 | .int i=> .int i
 | .str x=> .str x
 | .ref a=> .ref a
 | .scr h=> .scr (e.fz h)
 | .tup h hs=> .tup (e.tup _ _ h) (Reps.ext e hs)
theorem Reps.ext (e:Ext H S H' S') {ws:List W}{vs:List V}:Reps K H ws vs→Reps K H' ws vs
 | .nil=> .nil
 | .cons h hs=> .cons (Rep.ext e h) (Reps.ext e hs)
end
theorem Reps.length:∀{ws:List W}{vs:List V},Reps K H ws vs→ws.length=vs.length
 |_,_, .nil=>rfl
 |_,_, .cons _ hs=>congrArg (· +1) (Reps.length hs)
theorem Reps.get:∀{ws:List W}{vs:List V}{i:Nat}{w:W},Reps K H ws vs→ws[i]? =ae w→ ∃v,vs[i]? =ae v∧Rep K H w v
 |_,_,_,_, .nil,e=>by simp at e
 |_,_,0,_, .cons h _,e=>by simp at e;subst e;exact⟨_,rfl,h⟩
 |_,_,i+1,w, .cons _ hs,e=>by
  obtain⟨v,h1,h2⟩:=Reps.get (i:=i) (w:=w) hs (by simpa using e);exact⟨v,by simpa using h1,h2⟩
theorem Reps.append:∀{ws us:List W}{vs xs:List V},Reps K H ws vs→Reps K H us xs→Reps K H (ws++us) (vs++xs)
 |_,_,_,_, .nil,h=>h
 |_,_,_,_, .cons r t,h=> .cons r (Reps.append t h)
theorem Reps.take:∀{ws:List W}{vs:List V}(n:Nat),Reps K H ws vs→Reps K H (ws.take n) (vs.take n)
 |_,_,0,_=> .nil
 |_,_,_+1, .nil=> .nil
 |_,_,n+1, .cons r t=> .cons r (Reps.take n t)
theorem Reps.drop:∀{ws:List W}{vs:List V}(n:Nat),Reps K H ws vs→Reps K H (ws.drop n) (vs.drop n)
 |_,_,0,r=>r
 |_,_,_+1, .nil=> .nil
 |_,_,n+1, .cons _ t=>Reps.drop n t
theorem Reps.one{w:W}{v:V}(h:Rep K H w v):Reps K H [w] [v]:= .cons h .nil
theorem Reps.ofInts:∀(ns:List Int),Reps K H (ns.map W.int) (ns.map V.int)
 | []=> .nil
 |n::ns=> .cons (.int n) (Reps.ofInts ns)
end
noncomputable def RepO (K:aj) (H:Hp) (a:Addr):Ob→Prop
 | .lst ws=>∃vs,H a=ae (.lst vs)∧Reps K H ws vs
 | .dct kvs=>∃ps:List (List Key×V),H a=ae (.dT ps)∧aM (λq p=>p.1=q.1.map Sum.inl∧Rep K H q.2 p.2) kvs ps
 | .dk kvs=>∃ps:List (Key×V),H a=ae (.dK ps)∧aM (λq p=>p.1=q.1∧Rep K H q.2 p.2) kvs ps
 | .ins C fs=>∃(dx:Addr) (ps:List (Str×V)),H a=ae (.ins C dx ps)∧aM (λq p=>p.1=q.1∧Rep K H q.2 p.2) fs ps
def RepS (K:aj) (H:Hp) (S:Sto):Prop:=∀a o,S a=ae o→RepO K H a o
section
variable {K:aj}{H H':Hp}{S S' S0 S0':Sto}{a b p:Addr}{o:Ob}
theorem Sub.refl:Sub S S:=λ_ _ h=>h
theorem Sub.trans{S1 S2 S3:Sto}(h:Sub S1 S2) (g:Sub S2 S3):Sub S1 S3:=λa o e=>g a o (h a o e)
theorem Sub.new (h:S a=none):Sub S (put S a o):=λb u e=>by rw[zaA (by rintro rfl;rw[h]at e;cases e)];exact e
theorem RepS.sub (h:RepS K H S') (q:Sub S S'):RepS K H S:=λa o e=>h a o (q a o e)
theorem RepO.some (h:RepO K H a o):∃u,H a=ae u:=by
 cases o with
 |lst ws=>obtain⟨vs,e,_⟩:=h;exact⟨_,e⟩
 |dct kvs=>obtain⟨vs,e,_⟩:=h;exact⟨_,e⟩
 |dk kvs=>obtain⟨vs,e,_⟩:=h;exact⟨_,e⟩
 |ins C fs=>obtain⟨_,vs,e,_⟩:=h;exact⟨_,e⟩
theorem RepS.free (h:RepS K H S) (e:H p=none):S p=none:=by
 cases q:S p with
 |none=>rfl
 |some o=>obtain⟨u,z⟩:=(h p o q).some;rw[e]at z;cases z
theorem RepO.keep (e:Ext H S0 H' S0') (k:∀u,H a=kg u→H' a=kg u) (h:RepO K H a o):RepO K H' a o:=by
 cases o with
 |lst ws=>obtain⟨vs,e1,r⟩:=h;exact⟨vs,k _ e1,r.ext e⟩
 |dct kvs=>obtain⟨vs,e1,r⟩:=h;exact⟨vs,k _ e1,Paired.mapP r λ_ _ z=>⟨z.1,z.2.ext e⟩⟩
 |dk kvs=>obtain⟨vs,e1,r⟩:=h;exact⟨vs,k _ e1,Paired.mapP r λ_ _ z=>⟨z.1,z.2.ext e⟩⟩
 |ins C fs=>obtain⟨dx,vs,e1,r⟩:=h;exact⟨dx,vs,k _ e1,Paired.mapP r λ_ _ z=>⟨z.1,z.2.ext e⟩⟩
theorem RepS.new{u:HO}(h:RepS K H S) (e:H p=none):RepS K (upd H p u) S:=λa o q=>
 (h a o q).keep (.new (S:=S) e) λv z=>by rw[zaz (zau z e)];exact z
theorem RepS.put_lst{ws:List W}{vs:List V}(h:RepS K H S) (e:H p=none) (r:Reps K (upd H p (.lst vs)) ws vs):RepS K (upd H p (.lst vs)) (put S p (.lst ws)):=λa o q=>by
 by_cases ha:a=p
 ·subst ha;rw[zag]at q;cases q;exact⟨vs,zay,r⟩
 ·rw[zaA ha]at q;exact h.new e a o q
theorem RepS.set_lst{ws0 ws:List W}{vs:List V}(h:RepS K H S) (e:S a=ae (.lst ws0)) (r:Reps K H ws vs):Ext H S (upd H a (.lst vs)) (put S a (.lst ws))∧RepS K (upd H a (.lst vs)) (put S a (.lst ws)):=by
 obtain⟨vs0,e0,_⟩:=h a _ e;have x:Ext H S (upd H a (.lst vs)) (put S a (.lst ws)):= .lst e0 e;refine⟨x,λb o q=>?_⟩;by_cases hb:b=a
 ·subst hb;rw[zag]at q;cases q;exact⟨vs,zay,r.ext x⟩
 ·rw[zaA hb]at q;exact(h b o q).keep x λu z=>by rw[zaz hb];exact z
end
abbrev WSt:=List (Option W)
abbrev WK:=W→Sto→Prop
abbrev WX:=Str→WSt→Sto→Prop
abbrev WE:=WX→WSt→Sto→WK→Prop
abbrev WT:=WX→WSt→Sto→(Bool→Sto→Prop)→Prop
abbrev WA:=WX→WSt→Sto→(List W→Sto→Prop)→Prop
structure WEnds where
  nx:WSt→Sto→Prop
  rt:WK
  bk:WSt→Sto→Prop:=λ_ _=>False
  ct:WSt→Sto→Prop:=λ_ _=>False
abbrev WS:=WX→WEnds→WSt→Sto→Prop
abbrev WG:=W→WSt→Sto→(WSt→Sto→Prop)→Prop
abbrev WSp:=List W→Sto→WK→(Str→Sto→Prop)→Prop
abbrev WI:=WX→WSt→Sto→(List W→(Sto→Prop)→Sto→Prop)→Prop
abbrev WL:=WX→WSt→Sto→(List W→Sto→Prop)→Prop
noncomputable def RpO (K:aj) (H:Hp):Option W→Option V→Prop
 |none,_=>True
 |some w,ae v=>Rep K H w v
 |some _,none=>False
def RpSt (K:aj) (H:Hp) (σW:WSt) (σ:St):Prop:=aM (RpO K H) σW σ
section
variable {K:aj}{H H':Hp}{S S':Sto}
theorem RpO.ext (e:Ext H S H' S'):∀{w:Option W}{v:Option V},RpO K H w v→RpO K H' w v
 |none,_,_=>trivial
 |some _,ae _,h=>Rep.ext e h
 |some _,none,h=>h.elim
theorem RpSt.ext (e:Ext H S H' S') {σW:WSt}{σ:St}(h:RpSt K H σW σ):RpSt K H' σW σ:=Paired.mapP h λ_ _ r=>RpO.ext e r
theorem RpSt.get:∀{σW:WSt}{σ:St}{i:Nat}{w:W},RpSt K H σW σ→σW[i]? =ae (ae w)→ ∃v,σ[i]? =ae (ae v)∧Rep K H w v
 |_,_,_,_, .nil,e=>by simp at e
 |_,_,0,_, .cons (b:=b) h _,e=>by
  simp at e;subst e;cases b with
  |none=>exact(show False from h).elim
  |some v=>exact⟨v,rfl,h⟩
 |_,_,i+1,w, .cons _ hs,e=>by
  obtain⟨v,h1,h2⟩:=RpSt.get (i:=i) (w:=w) hs (by simpa using e);exact⟨v,by simpa using h1,h2⟩
theorem RpSt.set{w:W}{v:V}(h:Rep K H w v):∀{σW:WSt}{σ:St}(i:Nat),RpSt K H σW σ→RpSt K H (σW.set i (ae w)) (σ.set i (ae v))
 |_,_,_, .nil=> .nil
 |_,_,0, .cons _ t=> .cons h t
 |_,_,i+1, .cons q t=> .cons q (RpSt.set h i t)
end
def Wish (K:aj) (H:Hp) (S:Sto) (QW:WK) (Q:VK):Prop:=∀w S' v H',Ext H S H' S'→Rep K H' w v→RepS K H' S'→QW w S'→Q v H'
noncomputable def zyb (K:aj) (t:WSt→Sto→WK→Prop):TE:=λσ H Q=>∃σW S QW,RpSt K H σW σ∧RepS K H S∧t σW S QW∧Wish K H S QW Q
noncomputable def ztv (K:aj) (t:WSt→Sto→(Bool→Sto→Prop)→Prop):TT:=λσ H Q=>∃σW S QW,RpSt K H σW σ∧RepS K H S∧t σW S QW∧ ∀b S' H',Ext H S H' S'→RepS K H' S'→QW b S'→Q b H'
noncomputable def zyZ (K:aj) (t:WSt→Sto→(List W→Sto→Prop)→Prop):TA:=λσ H Q=>∃σW S QW,RpSt K H σW σ∧RepS K H S∧t σW S QW∧ ∀ws S' vs H',Ext H S H' S'→Reps K H' ws vs→RepS K H' S'→QW ws S'→Q vs H'
def Goes (K:aj) (H:Hp) (S:Sto) (P:WSt→Sto→Prop) (Q:St→Hp→Prop):Prop:=∀σW S' σ H',Ext H S H' S'→RpSt K H' σW σ→RepS K H' S'→P σW S'→Q σ H'
structure Meets (K:aj) (H:Hp) (S:Sto) (DW:WEnds) (D:Ends):Prop where
  nx:Goes K H S DW.nx D.nx
  rt:Wish K H S DW.rt D.rt
  bk:Goes K H S DW.bk D.bk
  ct:Goes K H S DW.ct D.ct
noncomputable def zvA (K:aj) (t:WEnds→WSt→Sto→Prop):TS:=λD σ H=>∃σW S DW,RpSt K H σW σ∧RepS K H S∧t DW σW S∧Meets K H S DW D
noncomputable def zzI (K:aj) (t:WG):TG:=λv σ H Q=>∃w σW S P,Rep K H w v∧RpSt K H σW σ∧RepS K H S∧t w σW S P∧Goes K H S P Q
def ItW (K:aj) (J:It) (ws:List W) (G:Sto→Prop) (H0:Hp) (S0:Sto):Prop:=∀i S H,Ext H0 S0 H S→RepS K H S→G S→
 (∀w,ws[i]? =ae w→J.go i H∧ ∀x H',J.yld i H x H'→Ext H S H' S∧RepS K H' S∧Rep K H' w x)∧(i=ws.length→J.stop i H)
noncomputable def zwg (K:aj) (t:WSt→Sto→(List W→(Sto→Prop)→Sto→Prop)→Prop):TI:=λσ H R=>∃σW S QW,RpSt K H σW σ∧RepS K H S∧t σW S QW∧
 ∀ws G S' J H',Ext H S H' S'→RepS K H' S'→G S'→ItW K J ws G H' S'→QW ws G S'→R J H'
noncomputable def zvI (K:aj) (t:WSt→Sto→(List W→Sto→Prop)→Prop):TE:=λσ H Q=>∃σW S QW,RpSt K H σW σ∧RepS K H S∧t σW S QW∧
 ∀ws S' vs a H',Ext H S H' S'→H a=none→H' a=ae (.lst vs)→S' a=none→Reps K H' ws vs→RepS K H' S'→QW ws S'→Q (.ref a) H'
noncomputable def zcX (K:aj) (sp:WSp):Sp:=λvs H Q E=>∃ws S QW EW,Reps K H ws vs∧RepS K H S∧sp ws S QW EW∧Wish K H S QW Q∧
 ∀cl C S' H',aZ K aL cl=ae (ae (.ref C))→RepS K H' S'→EW cl S'→E (.ref C) none H'
def Fly (g h:Heap) (H:Hp) (a C:Addr):Prop:=g.get? a=none∧H a=none∧ ∃oe vs T oT ts,h.get? a=ae oe∧oe.cls= .ref C∧oe.data= .fields vs∧vs[1]? =ae (.ref T)∧
 g.get? T=none∧H T=none∧T≠a∧h.get? T=ae oT∧oT.data= .fields ts∧ts[3]? =ae .none
noncomputable def CX1 (P:aE) (w:aB):CXT:=λouter H s E e s'=>∃a C H',e= .ref a∧s'.os=s.os∧b6 s'.gens∧Un (frs outer) [] H H' s.heap s'.heap∧HOk P w H' s'.heap∧Fly s.heap s'.heap H' a C∧E (.ref C) none H'
structure Hook (X:Cx) (E:WX):Prop where
  own:e_ (ap X.prog X.w) X.A X.env X.xe
  far:∀(pins:List (Addr×Obj)) (σ:St) (H:Hp) (s:ah) (σW:WSt) (cl:Str) (C a:Addr) (H':Hp) (S':Sto) (s':ah),Inv X pins σ H s→RpSt X.K H σW σ→aZ X.K aL cl=ae (ae (.ref C))→
    s'.os=s.os→b6 s'.gens→Un (frs X.stack) [] H H' s.heap s'.heap→HOk X.prog X.w H' s'.heap→Fly s.heap s'.heap H' a C→RepS X.K H' S'→E cl σW S'→X.xe (.ref a) s'
  near:∀(pins:List (Addr×Obj)) (σ:St) (H:Hp) (s:ah) (σW:WSt) (cl:Str) (C a:Addr) (S:Sto) (h':Heap) (args:List Value),Inv X pins σ H s→RpSt X.K H σW σ→aZ X.K aL cl=ae (ae (.ref C))→
    Heap.MadeExcOf s.heap h' a (.ref C) args→RepS X.K H S→E cl σW S→X.xe (.ref a) { s with heap:=h' }
def JE (X:Cx) (e:Expr) (t:WE):Prop:=∀E,Hook X E→PE X e (zyb X.K (t E))
def JT (X:Cx) (e:Expr) (t:WT):Prop:=∀E,Hook X E→PT X e (ztv X.K (t E))
def JW (X:Cx) (e:Expr) (t:WT):Prop:=∀E,Hook X E→PW X e (ztv X.K (t E))
def JA (X:Cx) (es:List Expr) (t:WA):Prop:=∀E,Hook X E→PA X es (zyZ X.K (t E))
def JS (X:Cx) (st:Stmt) (t:WS):Prop:=∀E,Hook X E→PS X st (zvA X.K (t E))
def JSs (X:Cx) (st:List Stmt) (t:WS):Prop:=∀E,Hook X E→PSs X st (zvA X.K (t E))
def JG (X:Cx) (tg:Expr) (t:WG):Prop:=∀E,Hook X E→PG X tg (zzI X.K t)
def JI (X:Cx) (tg iter:Expr) (t:WI):Prop:=∀E,Hook X E→PI X tg iter (zwg X.K (t E))
def JL (X:Cx) (e:Expr) (t:WL):Prop:=∀E,Hook X E→PE X e (zvI X.K (t E))
theorem PE.mono{X:Cx}{e:Expr}{t t':TE}(h:PE X e t) (q:∀σ H Q,t' σ H Q→t σ H Q):PE X e t':=λpins s σ H Q I z=>h pins s σ H Q I (q σ H Q z)
theorem PT.mono{X:Cx}{e:Expr}{t t':TT}(h:PT X e t) (q:∀σ H Q,t' σ H Q→t σ H Q):PT X e t':=λpins s σ H Q I z=>h pins s σ H Q I (q σ H Q z)
theorem PW.mono{X:Cx}{e:Expr}{t t':TT}(h:PW X e t) (q:∀σ H Q,t' σ H Q→t σ H Q):PW X e t':=λwh pins s σ H Q I z=>h wh pins s σ H Q I (q σ H Q z)
theorem PA.mono{X:Cx}{e:List Expr}{t t':TA}(h:PA X e t) (q:∀σ H Q,t' σ H Q→t σ H Q):PA X e t':=λpos pins s σ H Q I z=>h pos pins s σ H Q I (q σ H Q z)
theorem PS.mono{X:Cx}{e:Stmt}{t t':TS}(h:PS X e t) (q:∀D σ H,t' D σ H→t D σ H):PS X e t':=λpins s σ H D I z=>h pins s σ H D I (q D σ H z)
theorem PSs.mono{X:Cx}{e:List Stmt}{t t':TS}(h:PSs X e t) (q:∀D σ H,t' D σ H→t D σ H):PSs X e t':=λpins s σ H D I z=>h pins s σ H D I (q D σ H z)
theorem PG.mono{X:Cx}{e:Expr}{t t':TG}(h:PG X e t) (q:∀v σ H Q,t' v σ H Q→t v σ H Q):PG X e t':=λpins s σ H v u Q I r z=>h pins s σ H v u Q I r (q v σ H Q z)
theorem PI.mono{X:Cx}{tg e:Expr}{t t':TI}(h:PI X tg e t) (q:∀σ H R,t' σ H R→t σ H R):PI X tg e t':=λpins s σ H R I z=>h pins s σ H R I (q σ H R z)
noncomputable def zae (i:Nat):WE:=λ_ σ S Q=>match σ[i]? with
 |some (ae w)=>Q w S
 |_=>False
noncomputable def wC (w:W):WE:=λ_ _ S Q=>Q w S
section
variable {X:Cx}
theorem jv (i:Nat) {x:Str}{pos:aC}(hN:X.N[i]? =ae x:=by rfl) (hv:Vis X.env.scope x:=by first |exact ai rfl |exact cx (ai rfl) |exact cx (cx rfl)) (hd:(x == ("__debug__" :Str))=false:=by decide)
  (hcd:(x == ("__classdict__" :Str))=false:=by decide):JE X (.Name x pos) (zae i):=λE hE=>(zxZ hN hv hd hcd).mono λσ H Q ⟨σW,S,QW,hσ,hS,ht,hQ⟩=>by
 unfold zae at ht;split at ht
 ·rename_i w e;obtain⟨v,e',r⟩:=hσ.get e;exact⟨v,e',hQ w S v H .refl r hS ht⟩
 ·exact ht.elim
theorem zoF{e:Expr}{v:V}{w:W}(h:PE X e (tC v)) (r:∀K H,Rep K H w v):JE X e (wC w):=λE hE=>h.mono λσ H Q ⟨σW,S,QW,hσ,hS,ht,hQ⟩=>hQ w S v H .refl (r _ _) hS ht
theorem zaf{i j pos}:JE X (.Constant (.int i) j pos) (wC (.int i)):=zoF zvZ λ_ _=> .int i
theorem zfF{b j pos}:JE X (.Constant (.bool b) j pos) (wC (.bl b)):=zoF zzD λ_ _=> .bl b
theorem zcc{j pos}:JE X (.Constant .none j pos) (wC .non):=zoF zvV λ_ _=> .non
theorem zgf{x j pos}:JE X (.Constant (.str x) j pos) (wC (.str x)):=zoF zxf λ_ _=> .str x
theorem zdv{x:Str}{i:Int}{u:bg}{pos:aC}(hg:Gl X x) (hm:X.mg x=ae (.int i u)) (hd:(x == ("__debug__" :Str))=false:=by decide):JE X (.Name x pos) (wC (.int i)):=zoF (v:= .int i) (zuk hg hm ⟨u,rfl⟩ hd) λ_ _=> .int i
end
abbrev W2:=W→W→Sto→WK→Prop
noncomputable def wOp (r:W2) (a b:WE):WE:=λE σ S Q=>a E σ S λx S1=>b E σ S1 λy S2=>r x y S2 Q
def OpW (K:aj) (r:R2) (wr:W2):Prop:=∀H x y wx wy S (Q:VK) (QW:WK),Rep K H wx x→Rep K H wy y→RepS K H S→wr wx wy S QW→Wish K H S QW Q→r x y H Q
theorem Wish.from{K:aj}{H H':Hp}{S S':Sto}{QW:WK}{Q:VK}(h:Wish K H S QW Q) (e:Ext H S H' S'):Wish K H' S' QW Q:=λw S v H'' e' r hS q=>h w S v H'' (e.trans e') r hS q
theorem Goes.from{K:aj}{H H':Hp}{S S':Sto}{P:WSt→Sto→Prop}{Q:St→Hp→Prop}(h:Goes K H S P Q) (e:Ext H S H' S'):Goes K H' S' P Q:=λσW S σ H'' e' r hS q=>h σW S σ H'' (e.trans e') r hS q
theorem Meets.from{K:aj}{H H':Hp}{S S':Sto}{DW:WEnds}{D:Ends}(h:Meets K H S DW D) (e:Ext H S H' S'):Meets K H' S' DW D:=⟨h.nx.from e,h.rt.from e,h.bk.from e,h.ct.from e⟩
section
variable {X:Cx}{a b:Expr}{pos:aC}
theorem zgA{K:aj}{ta tb:WSt→Sto→WK→Prop}{wr:W→W→Sto→WK→Prop}{σ:St}{H:Hp}{Q:VK}{R:V→V→Hp→Prop}
  (h:zyb K (λσ S Q=>ta σ S λx S1=>tb σ S1 λy S2=>wr x y S2 Q) σ H Q)
  (hR:∀H2 x y wx wy S (QW:WK),Rep K H2 wx x→Rep K H2 wy y→RepS K H2 S→wr wx wy S QW→Wish K H2 S QW Q→R x y H2) :
  zyb K ta σ H λx H1=>zyb K tb σ H1 λy H2=>R x y H2:=by
 obtain⟨σW,S,QW,hσ,hS,ht,hQ⟩:=h;refine⟨σW,S,_,hσ,hS,ht,λw1 S1 v1 H1 e1 r1 hS1 h1=>?_⟩;refine⟨σW,S1,_,hσ.ext e1,hS1,h1,λw2 S2 v2 H2 e2 r2 hS2 h2=>?_⟩;exact hR H2 v1 v2 w1 w2 S2 QW (r1.ext e2) r2 hS2 h2 (hQ.from (e1.trans e2))
theorem znS{op:fR}{r:R2}{wr:W2}{ta tb:WE}(ho:OpR X (bM op) r) (hw:OpW X.K r wr) (ha:JE X a ta) (hb:JE X b tb):JE X (.BinOp a op b pos) (wOp wr ta tb):=λE hE=>
 (zpH ho (ha E hE) (hb E hE)).mono λσ H Q h=>zgA h λH2 x y wx wy S QW rx ry hS q hQ=>hw H2 x y wx wy S Q QW rx ry hS q hQ
theorem zvS{op:dy}{r:R2}{wr:W2}{ta tb:WE}(ho:OpR X (bF op) r) (hw:OpW X.K r wr) (ha:JE X a ta) (hb:JE X b tb) (hm:de op b=false):JE X (.Compare a [op] [b] pos) (wOp wr ta tb):=λE hE=>
 (ztC ho (ha E hE) (hb E hE) hm).mono λσ H Q h=>zgA h λH2 x y wx wy S QW rx ry hS q hQ=>hw H2 x y wx wy S Q QW rx ry hS q hQ
end
theorem ObjOk.ex{P:aE}{w:aB}{H:Hp}{h:Heap}{a:Addr}{o:HO}(x:ObjOk P w H h a o):∃u,h.get? a=ae u:=by
 cases o with
 |lst xs=>obtain⟨_,_,_,_,e⟩:=x;exact⟨_,e⟩
 |tup xs=>obtain⟨_,_,_,o,e,_⟩:=x;exact⟨_,e⟩
 |dK kvs=>obtain⟨_,_,_,_,o,_,_,e,_⟩:=x;exact⟨_,e⟩
 |dT kvs=>obtain⟨_,_,_,_,o,_,_,e,_⟩:=x;exact⟨_,e⟩
 |set S n=>obtain⟨o,_,_,_,e,_⟩:=x;exact⟨_,e⟩
 |ins C dx fs=>obtain⟨_,_,_,e,_⟩:=x;exact⟨_,e⟩
 |own y=>exact x
 |xd fs=>obtain⟨_,⟨_,_,_,e,_⟩,_⟩:=x;exact⟨_,e⟩
 |rng lo hi=>obtain⟨_,_,_,e⟩:=x;exact⟨_,e⟩
 |frz ob u=>obtain⟨e,_⟩:=x;exact⟨_,e⟩
 |tbl ps=>exact⟨_,show h.get? a=ae _ from x⟩
 |met f y=>exact⟨_,show h.get? a=ae _ from x⟩
 |ext φ=>exact x.2.1
noncomputable def unt (H:Hp) (S:Sto):Hp:=λb=>match H b with
 |some (.lst xs)=>match S b with
  |none=>none
  |some _=>ae (.lst xs)
 |o=>o
noncomputable def rtk (H:Hp) (S:Sto) (H':Hp):Hp:=λb=>match unt H S b with
 |none=>match H b with
  |some o=>ae o
  |none=>H' b
 |some _=>match H' b with
  |some o=>ae o
  |none=>ae (.ext λh=>∃o,h.get? b=ae o)
section
variable {w:aB}{K:aj}{H:Hp}{S:Sto}{h:Heap}{b:Addr}{o:HO}
theorem zmF (e:unt H S b=ae o):H b=ae o:=by
 unfold unt at e;split at e
 ·rename_i xs q;split at e
  ·cases e
  ·rw[q];exact e
 ·exact e
theorem zeK (e:H b=none):unt H S b=none:=by unfold unt;rw[e]
theorem zmD (e:H b=ae o) (n:∀xs,o≠ .lst xs):unt H S b=ae o:=by
 unfold unt;rw[e];cases o<;>first |rfl |exact absurd rfl (n _)
theorem zmb{u:Ob}(e:H b=ae o) (hs:S b=ae u):unt H S b=ae o:=by
 unfold unt;rw[e];cases o<;>first |rfl | (dsimp only;rw[hs])
theorem zpO{xs:List V}(e:H b=ae (.lst xs)) (hs:S b=none):unt H S b=none:=by
 unfold unt;rw[e];dsimp only;rw[hs]
theorem zwU (e:unt H S b=none) (q:H b=ae o):(∃xs,o= .lst xs)∧S b=none:=by
 unfold unt at e;rw[q]at e;cases o<;>first |cases e |skip;rename_i xs;dsimp only at e;split at e
 ·exact⟨⟨xs,rfl⟩, ‹_›⟩
 ·cases e
mutual
theorem Rep.mv{H1:Hp}(t:∀b xs,H b=ae (.tup xs)→H1 b=ae (.tup xs)) (f:∀b o u,H b=ae (.frz o u)→H1 b=ae (.frz o u)) {w:W}{v:V}:Rep K H w v→Rep K H1 w v
 | .non=> .non
 | .bl b=> .bl b
 | .int i=> .int i
 | .str x=> .str x
 | .ref a=> .ref a
 | .scr h=> .scr (by
  rcases h with⟨o,h⟩ |h
  ·exact .inl ⟨o,f _ _ _ h⟩
  ·exact .inr h)
 | .tup h hs=> .tup (t _ _ h) (Reps.mv t f hs)
theorem Reps.mv{H1:Hp}(t:∀b xs,H b=ae (.tup xs)→H1 b=ae (.tup xs)) (f:∀b o u,H b=ae (.frz o u)→H1 b=ae (.frz o u)) {ws:List W}{vs:List V}:Reps K H ws vs→Reps K H1 ws vs
 | .nil=> .nil
 | .cons h hs=> .cons (Rep.mv t f h) (Reps.mv t f hs)
end
theorem zeR:∀b xs,H b=ae (.tup xs)→unt H S b=ae (.tup xs):=λb xs e=>zmD e λ_ z=>nomatch z
theorem zfW:∀b o u,H b=ae (.frz o u)→unt H S b=ae (.frz o u):=λb o u e=>zmD e λ_ z=>nomatch z
theorem RepS.unt (r:RepS K H S):RepS K (unt H S) S:=λa o e=>by
 have q:=r a o e;cases o with
 |lst ws=>obtain⟨vs,z,rs⟩:=q;exact⟨vs,zmb z e,Reps.mv zeR zfW rs⟩
 |dct kvs=>obtain⟨ps,z,rs⟩:=q;exact⟨ps,zmb z e,Paired.mapP rs λ_ _ z=>⟨z.1,Rep.mv zeR zfW z.2⟩⟩
 |dk kvs=>obtain⟨ps,z,rs⟩:=q;exact⟨ps,zmb z e,Paired.mapP rs λ_ _ z=>⟨z.1,Rep.mv zeR zfW z.2⟩⟩
 |ins C fs=>obtain⟨dx,ps,z,rs⟩:=q;exact⟨dx,ps,zmb z e,Paired.mapP rs λ_ _ z=>⟨z.1,Rep.mv zeR zfW z.2⟩⟩
theorem HOk.unt (x:HOk P w H h):HOk P w (unt H S) h:=λa o e=>
 (x a o (zmF e)).stay (λ_ _ _ q=>q) (λb q=>zmD q λ_ z=>nomatch z) λb xs q=>zeR b xs q
theorem zeD (ok:HOk P w H h) (un:Un fs [] (unt H S) H' h h') (e:H' b=ae o):rtk H S H' b=ae o:=by
 unfold rtk;split
 ·rename_i q;split
  ·rename_i u z;obtain⟨ob,eo⟩:=(ok b u z).ex;rw[un.free b ob eo q (by simp)]at e;cases e
  ·exact e
 ·rw[e]
theorem zmA (un:Un fs [] (unt H S) H' h h') (ok:HOk P w H h):Un fs [] H (rtk H S H') h h' where
  keep:=λb o e n hb hx=>un.keep b o e (zeK n) hb hx
  slot:=λb o e n hb hx=>un.slot b o e (zeK n) hb hx
  free:=λb o e n hx=>by
    unfold rtk;rw[zeK n,n];exact un.free b o e (zeK n) hx
  there:=un.there
  tups:=λb xs e=>zeD ok un (un.tups b xs (zeR b xs e))
  frzs:=λb o u e=>zeD ok un (un.frzs b o u (zfW b o u e))
  tbls:=λb ps e=>by
    obtain⟨m,z⟩:=un.tbls b ps (zmD e λ_ z=>nomatch z);exact⟨m,zeD ok un z⟩
theorem zsM (un:Un fs [] (unt H S) H' h h') (ok:HOk P w H h) (ok':HOk P w H' h') (hf:∀b∈fs,H b=none):HOk P w (rtk H S H') h':=λb o e=>by
 have back:∀{o},H' b=ae o→ObjOk P w (rtk H S H') h' b o:=λ{o} q=>(ok' b o q).stay (λ_ _ _ z=>z) (λc z=>zeD ok un z) λc xs z=>zeD ok un z;unfold rtk at e;split at e
 ·rename_i q;split at e
  ·rename_i u z;cases e;obtain⟨⟨xs,rfl⟩,_⟩:=zwU q z;obtain⟨l,its,n,r,g⟩:=ok b _ z;exact⟨l,its,n,r,un.keep b _ g q (λhb=>by rw[hf b hb]at z;cases z) (by simp)⟩
  ·exact back e
 ·rename_i u q;split at e
  ·rename_i u' z;cases e;exact back z
  ·rename_i z;cases e;obtain⟨ob,eo⟩:=(ok b u (zmF q)).ex;obtain⟨ob',eo'⟩:=un.there b ob eo (by simp);exact⟨⟨ob',eo'⟩,⟨ob',eo'⟩,λh1 h2 ⟨o,z⟩ k=>⟨o,k o z⟩⟩
theorem ztH (e:H b=ae o):∃o',rtk H S H' b=ae o':=by
 unfold rtk;split
 ·rw[e];exact⟨_,rfl⟩
 ·split
  ·exact⟨_,rfl⟩
  ·exact⟨_,rfl⟩
theorem zpl (un:Un fs [] (unt H S) H' h h') (ok:HOk P w H h) (r:RepS K H' S'):Ext H S (rtk H S H') S' where
  tup:=λb xs e=>(zmA un ok).tups b xs e
  frz:=λb o u e=>(zmA un ok).frzs b o u e
  fr:=λb xs e hs=>by
    refine⟨?_,?_⟩
    · unfold rtk;rw[zpO e hs,e]
    · cases q:S' b with
      |none=>rfl
      |some u=>
        obtain⟨v,z⟩:=(r b u q).some;obtain⟨ob,eo⟩:=(ok b _ e).ex;rw[un.free b ob eo (zpO e hs) (by simp)]at z;cases z
  all:=λb o e=>ztH e
theorem ztm (un:Un fs [] (unt H S) H' h h') (ok:HOk P w H h):Ext H' S' (rtk H S H') S' where
  tup:=λb xs e=>zeD ok un e
  frz:=λb o u e=>zeD ok un e
  fr:=λb xs e hs=>⟨zeD ok un e,hs⟩
  all:=λb o e=>⟨o,zeD ok un e⟩
theorem zwA (un:Un fs [] (unt H S) H' h h') (ok:HOk P w H h) (r:RepS K H' S'):RepS K (rtk H S H') S':=λa o e=>(r a o e).keep (ztm (S':=S') un ok) λu z=>zeD ok un z
end
theorem zyv{X:Cx}{k:Nat}{f:Addr}{fd:bC}{ps:List Str}{c:WSp}{E:WX}{pins:List (Addr×Obj)}{σ:St}{σW:WSt}{H:Hp}{S:Sto}{s:ah}{Q:VK}{QW:WK}{us:List Value}{vs:List V}{ws:List W}
  (F:FnOk X.prog X.w X.K X.mg X.base (CX1 X.prog X.w) k f fd ps (zcX X.K c)) (hr:Room k X.A) (hb:Binds X.K fd ps []) (I:Inv X pins σ H s) (r:Vals vs us) (rs:Reps X.K H ws vs) (hσ:RpSt X.K H σW σ) (hS:RepS X.K H S)
  (h:c ws S QW λcl S'=>E cl σW S') (hQ:Wish X.K H S QW Q)
  (hx:∀(cl:Str) (C a:Addr) (H':Hp) (S':Sto) (s':ah),aZ X.K aL cl=ae (ae (.ref C))→s'.os=s.os→b6 s'.gens→Un (frs X.stack) [] H H' s.heap s'.heap→HOk X.prog X.w H' s'.heap→Fly s.heap s'.heap H' a C→Ext H S H' S'→RepS X.K H' S'→E cl σW S'→X.xe (.ref a) s'):am (ap X.prog X.w) X.A (call (.ref f) us) (EP X pins σ Q) X.xe s:=by
 have e0:=I.env0;have sp:zcX X.K c vs (unt H S) (λv H'=>∃w S',Rep X.K H' w v∧RepS X.K H' S'∧QW w S') (λcv _ H'=>∃cl C S',cv= .ref C∧aZ X.K aL cl=ae (ae (.ref C))∧RepS X.K H' S'∧E cl σW S'):=
  ⟨ws,S,QW,_,Reps.mv zeR zfW rs,hS.unt,h,λw S' v H' _ r1 r2 q=>⟨w,S',r1,r2,q⟩,λcl C S' H' hn hS' q=>⟨cl,C,S',rfl,hn,hS',q⟩⟩
 have e1:Env0 X.prog X.w X.K X.mg X.base X.A X.stack s (unt H S):=⟨e0.frames,e0.mod,λb o e=>⟨(e0.bs b o e).1,zeK (e0.bs b o e).2⟩,e0.bsz,e0.funs,λb hb=>zeK (e0.frf b hb),e0.hok.unt,e0.bare⟩;have hl:us.length=ps.length:=by rw[←r.length];exact F.len _ _ _ _ sp
 have hb':=hb s us I.kIn (by rw[bJ];exact hl);rw[bJ]at hb';refine wpAny_call (gD (F.run X.A X.stack s (unt H S) ⟨us,[]⟩ us vs _ _ hr e1 hb' r sp) λrr s' hq=>?_);cases rr with
 |error e=>
  obtain⟨a,C,H',rfl,os,bare,un,ok',fly,cl,C',S',ec,hn,hS',q⟩:=hq;cases ec;refine hx cl C a (rtk H S H') S' s' hn os bare (zmA un I.hok) (zsM un I.hok ok' e0.frf) ?_ (zpl un I.hok hS') (zwA un I.hok hS') q;obtain⟨g1,g2,oe,vs',T,oT,ts,a1,a2,a3,a4,a5,a6,a7⟩:=fly;have free:∀{b:Addr},s.heap.get? b=none→H' b=none→rtk H S H' b=none:=λ{b} q1 q2=>by
   have hn:H b=none:=by
    cases z:H b with
    |none=>rfl
    |some u=>obtain⟨ob,eo⟩:=(I.hok b u z).ex;rw[q1]at eo;cases eo
   unfold rtk;rw[zeK hn,hn];exact q2
  exact⟨g1,free g1 g2,oe,vs',T,oT,ts,a1,a2,a3,a4,a5,free a5 a6,a7⟩
 |ok fl=>
  cases fl with
  |ret u=>
   obtain⟨v,H',os,bare,un,ok',rv,w,S',r1,r2,q⟩:=hq;exact⟨v,rtk H S H',I.call' os (zmA un I.hok) (zsM un I.hok ok' e0.frf) bare (λ_ z=>nomatch z),rv,hQ w S' v _ (zpl un I.hok r2) (r1.ext (ztm (S':=S') un I.hok)) (zwA un I.hok r2) q⟩
  |next=>exact cc hq
  |brk=>exact cc hq
  |cont=>exact cc hq
theorem zyy{X:Cx}{k:Nat}{f:Addr}{fd:bC}{ps:List Str}{c:WSp}{E:WX}{pins:List (Addr×Obj)}{σ:St}{σW:WSt}{H:Hp}{S:Sto}{s:ah}{Q:VK}{QW:WK}{us:List Value}{vs:List V}{ws:List W}
  (F:FnOk X.prog X.w X.K X.mg X.base (CX1 X.prog X.w) k f fd ps (zcX X.K c)) (hr:Room k X.A) (hb:Binds X.K fd ps []) (hE:Hook X E) (I:Inv X pins σ H s) (r:Vals vs us) (rs:Reps X.K H ws vs) (hσ:RpSt X.K H σW σ) (hS:RepS X.K H S)
  (h:c ws S QW λcl S'=>E cl σW S') (hQ:Wish X.K H S QW Q):am (ap X.prog X.w) X.A (call (.ref f) us) (EP X pins σ Q) X.xe s:=
 zyv (E:=E) F hr hb I r rs hσ hS h hQ λcl C a H' S' s' hn os bare un ok fly _ hS' q=>hE.far pins σ H s σW cl C a H' S' s' I hσ hn os bare un ok fly hS' q
theorem zpr{X:Cx}{pins:List (Addr×Obj)}{σ:St}{H':Hp}{s':ah}{a C:Addr}{hid:List Addr}{h':Heap}(I:Inv X pins σ H' s') (hst:X.stack=X.env::X.outer) (hf:X.env.frame=ae X.env.locals) (hex:X.ex=[])
  (h0:∀b∈hid,X.s₀.heap.get? b=none∧H' b=none) (ha:a∈hid) (L:Heap.Left (eV s'.heap (hid++frs X.stack)) X.stack a (.ref C) s'.heap h') :
  Un X.fs [] X.H₀ H' X.s₀.heap h'∧HOk X.prog X.w H' h'∧Fly X.s₀.heap h' H' a C:=by
 obtain⟨st,ff,tr,sl⟩:=L;have keepB:∀b o,s'.heap.get? b=ae o→b∉hid→b∉frs X.stack→h'.get? b=ae o:=λb o e h1 h2=>st b o (gG _ e λz=>(bu.mp z).elim h1 h2);have nh:∀b o,X.s₀.heap.get? b=ae o→b∉hid:=λb o e hb=>by rw[(h0 b hb).1]at e;cases e
 have slotB:∀b o,b∈frs X.stack→s'.heap.get? b=ae o→ ∃sl,h'.get? b=ae { o with slots:=sl }:=λb o hb e=>by
  obtain⟨_,o',eo',nf⟩:=I.stack.mem hb;rw[e]at eo';cases eo';exact sl b o e nf
 have nx:∀b:Addr,b∉X.ex:=λb=>by rw[hex];simp
 have fsS:∀b∈X.fs,b∈frs X.stack:=λb hb=>by
  rw[hst];unfold frs;rw[f_,hf];exact aK _ hb
 refine⟨⟨λb o e n hb _=>?_,λb o e n hb _=>?_,λb o e n _=>I.base.free b o e n (nx b),λb o e _=>?_,I.base.tups,I.base.frzs,I.base.tbls⟩,λb o e=>?_,(h0 a ha).1,(h0 a ha).2,?_⟩
 ·refine keepB b o (I.base.keep b o e n hb (nx b)) (nh b o e) λz=>?_;rcases az.mp (I.stkSub b z) with q |q
  ·exact absurd (bH (aJ e) I.ok.above) (by rw[q];exact cE _)
  ·exact hb q
 ·obtain⟨sl1,e1⟩:=I.base.slot b o e n hb (nx b);obtain⟨sl2,e2⟩:=slotB b _ (fsS b hb) e1;exact⟨sl2,e2⟩
 ·obtain⟨o',e1⟩:=I.base.there b o e (nx b);by_cases hb:b∈frs X.stack
  ·obtain⟨sl2,e2⟩:=slotB b _ hb e1;exact⟨_,e2⟩
  ·exact⟨o',keepB b o' e1 (nh b o e) hb⟩
 ·refine(I.hok b o e).stay (λc u hc q=>?_) (λ_ q=>q) λ_ _ q=>q;have tk:∃v,H' c=ae v:=by
   rcases hc with z |z
   ·exact⟨o,by rw[z];exact e⟩
   ·exact⟨_,z⟩
  obtain⟨v,tk⟩:=tk;exact keepB c u q (λz=>by rw[(h0 c z).2]at tk;cases tk) λz=>by rw[I.stkFree c z]at tk;cases tk
 ·obtain⟨oe,vs,T,oT,ts,e1,e2,e3,e4,e5,e6,e7,e8,e9⟩:=tr;have nf:T∉frs X.stack:=λhb=>by
   obtain⟨_,o,eo,nf⟩:=ff.mem hb;rw[e7]at eo;cases eo;exact nf ts e8
  have both:X.s₀.heap.get? T=none∧H' T=none:=by
   by_cases hT:T∈hid
   ·exact h0 T hT
   ·have z:s'.heap.get? T=none:=by
     cases q:s'.heap.get? T with
     |none=>rfl
     |some o=>
      rw[gG _ q λz=>(bu.mp z).elim hT nf]at e5;cases e5
    constructor
    ·cases q:X.s₀.heap.get? T with
     |none=>rfl
     |some o=>obtain⟨o',q'⟩:=I.base.there T o q (nx T);rw[z]at q';cases q'
    ·cases q:H' T with
     |none=>rfl
     |some u=>obtain⟨o',q'⟩:=(I.hok T u q).ex;rw[z]at q';cases q'
  exact⟨oe,vs,T,oT,ts,e1,e2,e3,e4,both.1,both.2,e6,e7,e8,e9⟩
theorem zqz{h base:Heap}{l:List bt}{hid:List Addr}(hl:h.FunFrames base l):h.FunFrames (eV h (hid++frs l)) l:=
 PySem.W.funFrames_hide hl λenv he a ha=>ck _ (ia.mpr ⟨env,he,ha⟩)
theorem zsx{P:aE}{w:aB}{K:aj}{mg:Str→Option Value}{base:Heap}{N:List Str}{qual:Str}{scope:Scope}{f:Addr}{cdv:Value}{A:aN}{outer:List bt}{s:ah}{H:Hp}{E:XK}{EW:Str→Sto→Prop}
    (hEW:∀cl C S' H',aZ K aL cl=ae (ae (.ref C))→RepS K H' S'→EW cl S'→E (.ref C) none H'):Hook (zud (CX1 P w) P w K mg base N qual scope f cdv A outer s H E) (λc _ S'=>EW c S') where
  own:=e_.leaving
  far:=λpins σ H1 s1 σW cl C a H' S' s' I hσ hn os bare un ok fly hS q=>by
    have I':=I.call' os un ok bare (λ_ z=>nomatch z);obtain⟨g1,g2,oe,vs,T,oT,ts,e1,e2,e3,e4,g3,g4,e5,e6,e7,e8⟩:=fly;have s0:∀{b:Addr},s1.heap.get? b=none→s.heap.get? b=none:=λ{b} z=>by
      cases q:s.heap.get? b with
      |none=>rfl
      |some o=>obtain⟨o',q'⟩:=I.base.there b o q (by exact λz=>nomatch z);rw[z]at q';cases q'
    refine wpAny_leaving_next (base:=eV s'.heap ([a,T]++frs (cn qual scope s.heap.objs.size f cdv::outer))) I'.ok.frames (zqz I'.stack) rfl ⟨oe,vs,T,oT,ts,e1,e2,e3,e4,fP _ (by simp),e5,e6,e7,e8⟩ (λb o z=>gN _ z) (fP _ (by simp)) λh' L=>?_;obtain⟨u1,u2,u3⟩:=zpr (hid:=[a,T]) I' rfl rfl rfl (λb hb=>by
      rcases az.mp hb with rfl |hb
      · exact⟨s0 g1,g2⟩
      · rw[bf.mp hb];exact⟨s0 g3,g4⟩) (by simp) L
    exact⟨a,C,H',rfl,I'.os,I'.bare,u1,u2,u3,hEW cl C S' H' hn hS q⟩
  near:=λpins σ H1 s1 σW cl C a S h' args I hσ hn me hS q=>by
    have I':=I.kept (t':=s1.toks) me.keeps;obtain⟨t,e1,_,_⟩:=me.there;have s0:s.heap.get? a=none:=by
      cases q:s.heap.get? a with
      |none=>rfl
      |some o=>obtain⟨o',q'⟩:=I.base.there a o q (by exact λz=>nomatch z);rw[me.new]at q';cases q'
    have h1:H1 a=none:=by
      cases q:H1 a with
      |none=>rfl
      |some u=>obtain⟨o',q'⟩:=(I.hok a u q).ex;rw[me.new]at q';cases q'
    refine wpAny_leaving_first (base:=eV h' ([a]++frs (cn qual scope s.heap.objs.size f cdv::outer))) (s:={ s1 with heap:=h' }) I'.ok.frames (zqz I'.stack) rfl e1 (λb o z=>gN _ z) (fP _ (by simp)) rfl rfl λh'' L=>?_;obtain⟨u1,u2,u3⟩:=zpr (hid:=[a]) I' rfl rfl rfl (λb hb=>by rw[bf.mp hb];exact⟨s0,h1⟩) (by simp) L
    exact⟨a,C,H1,rfl,I'.os,I'.bare,u1,u2,u3,hEW cl C S H1 hn hS q⟩
def zcu (S:Sto) (a:Addr) (Q:List W→Prop):Prop:=match S a with
 |some (.lst ws)=>Q ws
 |_=>False
theorem zaj{S:Sto}{a:Addr}{Q:List W→Prop}{ws:List W}(h:S a=ae (.lst ws)):zcu S a Q=Q ws:=by unfold zcu;rw[h]
theorem zbl{S:Sto}{a:Addr}{Q:List W→Prop}(h:zcu S a Q):∃ws,S a=ae (.lst ws)∧Q ws:=by
 unfold zcu at h;split at h
 ·exact⟨_, ‹_›,h⟩
 ·exact h.elim
noncomputable def zsH:W→Sto→(Bool→Sto→Prop)→Prop
 | .non,S,Q=>Q false S
 | .bl b,S,Q=>Q b S
 | .int i,S,Q=>Q (i != 0) S
 | .str x,S,Q=>x.length≤sizeLine∧Q ((x.length:Int) != 0) S
 | .tup ws,S,Q=>Q (!ws.isEmpty) S
 | .ref a,S,Q=>zcu S a λws=>Q (!ws.isEmpty) S
 | .scr ns,S,Q=>Q (!ns.isEmpty) S
noncomputable def zgt (t:WE):WT:=λE σ S Q=>t E σ S λw S'=>zsH w S' Q
noncomputable def wTb (t:WE):WT:=λE σ S Q=>t E σ S λw S'=>match w with
 | .bl b=>Q b S'
 |_=>False
noncomputable def zqU (t u:WT):WT:=λE σ S Q=>t E σ S λc S1=>if c=true then u E σ S1 Q else Q false S1
noncomputable def wOr (t u:WT):WT:=λE σ S Q=>t E σ S λc S1=>if c=true then Q true S1 else u E σ S1 Q
noncomputable def zqS (t:WT):WT:=λE σ S Q=>t E σ S λc S1=>Q (!c) S1
noncomputable def zrN (t u:WE):WE:=λE σ S Q=>t E σ S λw S1=>match w with
 | .bl true=>u E σ S1 Q
 | .bl false=>Q (.bl false) S1
 |_=>False
noncomputable def wIf (c:WT) (t u:WE):WE:=λE σ S Q=>c E σ S λb S1=>if b=true then t E σ S1 Q else u E σ S1 Q
noncomputable def zbK (c:WT) (t u:WS):WS:=λE D σ S=>c E σ S λb S1=>if b=true then t E D σ S1 else u E D σ S1
noncomputable def zaD:WS:=λ_ D σ S=>D.nx σ S
noncomputable def zas (t u:WS):WS:=λE D σ S=>t E { D with nx:=u E D } σ S
noncomputable def zaU (e:WE):WS:=λE D σ S=>e E σ S D.rt
noncomputable def zcV (e:WE):WS:=λE D σ S=>e E σ S λ_ S1=>D.nx σ S1
noncomputable def wGN (i:Nat):WG:=λw σ S Q=>Q (σ.set i (ae w)) S
noncomputable def wAsg (e:WE) (g:WG):WS:=λE D σ S=>e E σ S λw S1=>g w σ S1 D.nx
abbrev WGs:=List W→WSt→Sto→(WSt→Sto→Prop)→Prop
noncomputable def zbI:WGs:=λws σ S Q=>match ws with
 | []=>Q σ S
 |_=>False
noncomputable def zaq (g:WG) (u:WGs):WGs:=λws σ S Q=>match ws with
 | []=>False
 |w::r=>g w σ S λσ' S'=>u r σ' S' Q
noncomputable def wGT (u:WGs):WG:=λw σ S Q=>match w with
 | .tup ws=>u ws σ S Q
 |_=>False
section
variable {X:Cx}{a b c e:Expr}{pos:aC}{ta tb:WE}{tc tA tB':WT}{st:Stmt}{rest:List Stmt}{t u:WS}
theorem zuu{K:aj}{H:Hp}{w:W}{v:V}{S:Sto}{QW:Bool→Sto→Prop}(r:Rep K H w v) (hS:RepS K H S) (h:zsH w S QW):∃k,zyx K v H k∧QW k S:=by
 cases r with
 |non=>exact⟨false,rfl,h⟩
 |bl b=>exact⟨b,rfl,h⟩
 |int i=>exact⟨_,rfl,h⟩
 |str x=>exact⟨_,⟨h.1,rfl⟩,h.2⟩
 |ref a=>
  obtain⟨ws,e,h⟩:=zbl h;obtain⟨vs,e1,r1⟩:=hS a _ e;refine⟨_, .inl ⟨vs, .of e1,rfl⟩,?_⟩;have q:vs.isEmpty=ws.isEmpty:=by cases r1<;>rfl
  rw[q];exact h
 | @scr a ns f=>
  refine⟨_, .inl ⟨_,f.sq,rfl⟩,?_⟩;have q:(ns.map V.int).isEmpty=ns.isEmpty:=by cases ns<;>rfl
  rw[q];exact h
 | @tup a vs ws f hs=>
  refine⟨_, .inr (.inl ⟨vs, .of f,rfl⟩),?_⟩;have q:vs.isEmpty=ws.isEmpty:=by cases hs<;>rfl
  rw[q];exact h
theorem zbM (ha:JE X a ta) (he:∀whole,isTrue a X.env whole=(do let v ←whole;standAt a.pos;holding [v] (truthy v)):=by intro _;rfl):JT X a (zgt ta):=λE hE=>
 (zrA (ha E hE) he).mono λσ H Q ⟨σW,S,QW,hσ,hS,ht,hQ⟩=>⟨σW,S,_,hσ,hS,ht,λw S1 v H1 e1 r1 hS1 h1=>by
  obtain⟨k,hk,q⟩:=zuu r1 hS1 h1;exact⟨k,hk,hQ k S1 H1 e1 hS1 q⟩⟩
theorem zfo{op:dy}{r:R2}{wr:W2}(ho:OpR X (bF op) r) (hw:OpW X.K r wr) (ha:JE X a ta) (hb:JE X b tb) (hm:de op b=false):JT X (.Compare a [op] [b] pos) (wTb (wOp wr ta tb)):=λE hE=>
 (zuS ho (ha E hE) (hb E hE) hm).mono λσ H Q ⟨σW,S,QW,hσ,hS,ht,hQ⟩=>by
  refine zgA (Q:=λv H1=>∃k,v= .bl k∧Q k H1) ⟨σW,S,λw S'=>match w with
   | .bl b=>QW b S'
   |_=>False,hσ,hS,ht,λw S1 v H1 e1 r1 hS1 h1=>?_⟩ λH2 x y wx wy S QW rx ry hS q hQ=>hw H2 x y wx wy S _ QW rx ry hS q hQ
  cases r1 with
  |bl k=>exact⟨k,rfl,hQ k S1 H1 e1 hS1 h1⟩
  |_=>exact h1.elim
theorem zgm (ha:JT X a tA):JT X (.UnaryOp .Not a pos) (zqS tA):=λE hE=>
 (zxj (ha E hE)).mono λσ H Q ⟨σW,S,QW,hσ,hS,ht,hQ⟩=>⟨σW,S,_,hσ,hS,ht,λb S1 H1 e1 hS1 h1=>hQ _ S1 H1 e1 hS1 h1⟩
theorem JW.jt (h:JW X a tA):JT X a tA:=λE hE=>(h E hE).pt
theorem zgR (ha:JT X a tA):JW X (.BoolOp .And [a] pos) tA:=λE hE=>ztN (ha E hE)
theorem zfE (ha:JT X a tA):JW X (.BoolOp .Or [a] pos) tA:=λE hE=>zxv (ha E hE)
theorem zkQ{rest:List Expr}(ha:JT X a tA) (hb:JW X (.BoolOp .And (b::rest) pos) tB'):JW X (.BoolOp .And (a::b::rest) pos) (zqU tA tB'):=λE hE=>
 (zvC (ha E hE) (hb E hE)).mono λσ H Q ⟨σW,S,QW,hσ,hS,ht,hQ⟩=>⟨σW,S,_,hσ,hS,ht,λb S1 H1 e1 hS1 h1=>by
  cases b with
  |true=>exact⟨σW,S1,_,hσ.ext e1,hS1,h1,λb S2 H2 e2 hS2 h2=>hQ b S2 H2 (e1.trans e2) hS2 h2⟩
  |false=>exact hQ _ S1 H1 e1 hS1 h1⟩
theorem zhO{rest:List Expr}(ha:JT X a tA) (hb:JW X (.BoolOp .Or (b::rest) pos) tB'):JW X (.BoolOp .Or (a::b::rest) pos) (wOr tA tB'):=λE hE=>
 (zzt (ha E hE) (hb E hE)).mono λσ H Q ⟨σW,S,QW,hσ,hS,ht,hQ⟩=>⟨σW,S,_,hσ,hS,ht,λb S1 H1 e1 hS1 h1=>by
  cases b with
  |false=>exact⟨σW,S1,_,hσ.ext e1,hS1,h1,λb S2 H2 e2 hS2 h2=>hQ b S2 H2 (e1.trans e2) hS2 h2⟩
  |true=>exact hQ _ S1 H1 e1 hS1 h1⟩
theorem zsO{op}(h:JE X a ta):JE X (.BoolOp op [a] pos) ta:=λE hE=>zwI (h E hE)
theorem ztb{rest:List Expr}(ha:JE X a ta) (hb:JE X (.BoolOp .And (b::rest) pos) tb):JE X (.BoolOp .And (a::b::rest) pos) (zrN ta tb):=λE hE=>
 (zvY (ha E hE) (hb E hE)).mono λσ H Q ⟨σW,S,QW,hσ,hS,ht,hQ⟩=>⟨σW,S,_,hσ,hS,ht,λw S1 v H1 e1 r1 hS1 h1=>by
  cases r1 with
  |bl k=>
   refine⟨k,rfl,?_⟩;cases k with
   |true=>exact⟨σW,S1,_,hσ.ext e1,hS1,h1,hQ.from e1⟩
   |false=>exact hQ _ S1 _ H1 e1 (.bl false) hS1 h1
  |_=>exact h1.elim⟩
theorem zxw (hc:JT X c tc) (ha:JE X a ta) (hb:JE X b tb):JE X (.IfExp c a b pos) (wIf tc ta tb):=λE hE=>
 (zrg (hc E hE) (ha E hE) (hb E hE)).mono λσ H Q ⟨σW,S,QW,hσ,hS,ht,hQ⟩=>⟨σW,S,_,hσ,hS,ht,λk S1 H1 e1 hS1 h1=>by
  cases k with
  |true=>exact⟨σW,S1,_,hσ.ext e1,hS1,h1,hQ.from e1⟩
  |false=>exact⟨σW,S1,_,hσ.ext e1,hS1,h1,hQ.from e1⟩⟩
theorem zav:JSs X [] zaD:=λE hE=>pss_nil.mono λD σ H ⟨σW,S,DW,hσ,hS,ht,hD⟩=>hD.nx σW S σ H .refl hσ hS ht
theorem zad (h1:JS X st t) (h2:JSs X rest u):JSs X (st::rest) (zas t u):=λE hE=>
 (zsi (h1 E hE) (h2 E hE)).mono λD σ H ⟨σW,S,DW,hσ,hS,ht,hD⟩=>
  ⟨σW,S,{ DW with nx:=u E DW },hσ,hS,ht,⟨λσW' S' σ' H' e r hS' q=>⟨σW',S',DW,r,hS',q,hD.from e⟩,hD.rt,hD.bk,hD.ct⟩⟩
theorem zah (h1:JS X st t):JSs X [st] t:=λE hE=>zvf (h1 E hE)
theorem zbc (he:JE X e ta) (hs:c7 e none pos.line X.env=pure false:=by rfl):JS X (.Expr e pos) (zcV ta):=λE hE=>
 (zuo (he E hE) hs).mono λD σ H ⟨σW,S,DW,hσ,hS,ht,hD⟩=>⟨σW,S,_,hσ,hS,ht,λw S1 v H1 e1 r1 hS1 h1=>hD.nx σW S1 σ H1 e1 (hσ.ext e1) hS1 h1⟩
theorem zam (he:JE X e ta):JS X (.Return (ae e) pos) (zaU ta):=λE hE=>
 (zxG (he E hE)).mono λD σ H ⟨σW,S,DW,hσ,hS,ht,hD⟩=>⟨σW,S,_,hσ,hS,ht,hD.rt⟩
theorem zaI{a b:List Stmt}(hc:JT X c tc) (ha:JSs X a t) (hb:JSs X b u):JS X (.If c a b pos) (zbK tc t u):=λE hE=>
 (zyD (hc E hE) (ha E hE) (hb E hE)).mono λD σ H ⟨σW,S,DW,hσ,hS,ht,hD⟩=>⟨σW,S,_,hσ,hS,ht,λk S1 H1 e1 hS1 h1=>by
  cases k with
  |true=>exact⟨σW,S1,DW,hσ.ext e1,hS1,h1,hD.from e1⟩
  |false=>exact⟨σW,S1,DW,hσ.ext e1,hS1,h1,hD.from e1⟩⟩
theorem zao{i:Nat}{x:Str}(hN:X.N.Nodup) (hi:X.N[i]? =ae x) (hx:Loc X.env.scope x) (hf:X.fn x=true∨X.env.scope.names.lookup x=ae .local:=by first |exact .inl rfl |exact .inr rfl |assumption):JG X (.Name x pos) (wGN i):=λE hE=>
 (ztw hN hi hx hf).mono λv σ H Q ⟨w,σW,S,P,r,hσ,hS,ht,hP⟩=>hP _ S _ H .refl (hσ.set r i) hS ht
def JGs (X:Cx) (tgs:List Expr) (t:WGs):Prop:=∀E,Hook X E→PGs X tgs (λvs σ H Q=>∃ws σW S P,Reps X.K H ws vs∧RpSt X.K H σW σ∧RepS X.K H S∧t ws σW S P∧Goes X.K H S P Q)
theorem zcF:JGs X [] zbI:=λE hE pins s σ H vs us Q I r h=>by
 obtain⟨ws,σW,S,P,rs,hσ,hS,ht,hP⟩:=h;unfold zbI at ht;split at ht
 ·cases rs;exact ztV pins s σ H [] us Q I r ⟨rfl,hP σW S σ H .refl hσ hS ht⟩
 ·exact ht.elim
theorem zax{es:List Expr}{g:WG}{gs:WGs}(h1:JG X e g) (h2:JGs X es gs)
  (hs:(b9 (e::es) X.env).map (·.2)=assign e X.env::(b9 es X.env).map (·.2):=by rfl):JGs X (e::es) (zaq g gs):=λE hE pins s σ H vs us Q I r h=>by
 obtain⟨ws,σW,S,P,rs,hσ,hS,ht,hP⟩:=h;unfold zaq at ht;split at ht
 ·exact ht.elim
 ·cases rs with
  |cons r1 r2=>
   refine zsg (h1 E hE) (h2 E hE) hs pins s σ H _ us Q I r ⟨_,_,rfl,⟨_,σW,S,_,r1,hσ,hS,ht,λσW' S' σ' H' e' rr hS' q=>?_⟩⟩;exact⟨_,σW',S',P,r2.ext e',rr,hS',q,hP.from e'⟩
theorem zdG{es:List Expr}{k n:Nat}{gs:WGs}(h:JGs X es gs) (hlen:∀ws σ S P,gs ws σ S P→ws.length=n)
  (hn:(b9 es X.env).length=n:=by rfl) (hst:(b9 es X.env).findIdx? (·.1)=none:=by rfl) (hcl:X.calm=true:=by rfl):JG X (.Tuple es k pos) (wGT gs):=λE hE=>
 (zxq hcl (h E hE) hn hst).mono λv σ H Q ⟨w,σW,S,P,r,hσ,hS,ht,hP⟩=>by
  cases r with
  |tup f hs=>exact⟨_,_,rfl, .of f,by rw[←hs.length];exact hlen _ _ _ _ ht,⟨_,σW,S,P,hs,hσ,hS,ht,hP⟩⟩
  |_=>exact ht.elim
theorem zoT{tg:Expr}{g:WG}(he:JE X e ta) (hg:JG X tg g) (hs:swapsWithSole [tg] e pos.line X.env=pure false:=by rfl) (hw:swappedStores [tg] e X.env=pure none:=by rfl)
  (h1:(b9 [tg] X.env).map (·.2)=[assign tg X.env]:=by rfl):JS X (.Assign [tg] e pos) (wAsg ta g):=λE hE=>
 (zxR (he E hE) (hg E hE) hs hw h1).mono λD σ H ⟨σW,S,DW,hσ,hS,ht,hD⟩=>⟨σW,S,_,hσ,hS,ht,λw S1 v H1 e1 r1 hS1 h1=>⟨w,σW,S1,_,r1,hσ.ext e1,hS1,h1,hD.nx.from e1⟩⟩
theorem zan{i:Nat}{x:Str}{pos':aC}(hN:X.N.Nodup) (hi:X.N[i]? =ae x) (hx:Loc X.env.scope x) (he:JE X e ta) (hs:c7 e (ae (.Name x pos')) pos.line X.env=pure false:=by rfl)
  (hf:X.fn x=true∨X.env.scope.names.lookup x=ae .local:=by first |exact .inl rfl |exact .inr rfl |assumption):JS X (.Assign [.Name x pos'] e pos) (wAsg ta (wGN i)):=λE hE=>
 (zwm hN hi hx (he E hE) hs hf).mono λD σ H ⟨σW,S,DW,hσ,hS,ht,hD⟩=>⟨σW,S,_,hσ,hS,ht,λw S1 v H1 e1 r1 hS1 h1=>hD.nx _ S1 _ H1 e1 ((hσ.ext e1).set r1 i) hS1 h1⟩
end
noncomputable def waNil:WA:=λ_ _ S Q=>Q [] S
noncomputable def zab (t:WE) (u:WA):WA:=λE σ S Q=>t E σ S λw S1=>u E σ S1 λws S2=>Q (w::ws) S2
noncomputable def zbD (t:WA):WE:=λE σ S Q=>t E σ S λws S1=>ws.length≤sizeLine∧Q (.tup ws) S1
noncomputable def zdm (t:WA):WL:=λE σ S Q=>t E σ S λws S1=>ws.length≤sizeLine∧Q ws S1
noncomputable def zct (t:WL):WE:=λE σ S Q=>t E σ S λws S1=>∀a,S1 a=none→Q (.ref a) (put S1 a (.lst ws))
section
variable {X:Cx}{e:Expr}{es:List Expr}{te:WE}{ta:WA}{tl:WL}{pos:aC}
theorem zac:JA X [] waNil:=λE hE=>pa_nil.mono λσ H Q ⟨σW,S,QW,hσ,hS,ht,hQ⟩=>hQ [] S [] H .refl .nil hS ht
theorem zaa (ha:JE X e te) (hr:JA X es ta) (hs:ao (e::es) X.env=(false,ay e X.env)::ao es X.env:=by rfl):JA X (e::es) (zab te ta):=λE hE=>
 (zdz (ha E hE) (hr E hE) hs).mono λσ H Q ⟨σW,S,QW,hσ,hS,ht,hQ⟩=>⟨σW,S,_,hσ,hS,ht,λw S1 v H1 e1 r1 hS1 h1=>⟨σW,S1,_,hσ.ext e1,hS1,h1,λws S2 vs H2 e2 r2 hS2 h2=>
  hQ (w::ws) S2 (v::vs) H2 (e1.trans e2) (.cons (r1.ext e2) r2) hS2 h2⟩⟩
theorem zat{x1}(h:JA X es ta):JE X (.Tuple es x1 pos) (zbD ta):=λE hE=>
 (zwa (h E hE)).mono λσ H Q ⟨σW,S,QW,hσ,hS,ht,hQ⟩=>⟨σW,S,_,hσ,hS,ht,λws S1 vs H1 e1 r1 hS1 h1=>by
  refine⟨by rw[←r1.length];exact h1.1,λp hp=>hQ (.tup ws) S1 _ _ (e1.trans (.new hp)) (.tup zay (r1.ext (.new (S:=S1) hp))) (hS1.new hp) h1.2⟩⟩
theorem zaJ (h:JA X es ta):JL X (.List es pos) (zdm ta):=λE hE=>
 (zxN (h E hE)).mono λσ H Q ⟨σW,S,QW,hσ,hS,ht,hQ⟩=>⟨σW,S,_,hσ,hS,ht,λws S1 vs H1 e1 r1 hS1 h1=>by
  refine⟨by rw[←r1.length];exact h1.1,λp hp=>hQ ws S1 vs p _ (e1.trans (.new hp)) (e1.free hp) zay (hS1.free hp) (r1.ext (.new (S:=S1) hp)) (hS1.new hp) h1.2⟩⟩
theorem zaC (h:JL X e tl):JE X e (zct tl):=λE hE=>
 (h E hE).mono λσ H Q ⟨σW,S,QW,hσ,hS,ht,hQ⟩=>⟨σW,S,_,hσ,hS,ht,λws S1 vs a H1 e1 fa ea na r1 hS1 h1=>by
  refine hQ (.ref a) (put S1 a (.lst ws)) (.ref a) H1 ⟨e1.tup,e1.frz,λb o q g=>by
   have hb:b≠a:=by rintro rfl;rw[fa]at q;cases q
   rw[zaA hb];exact e1.fr b o q g,e1.all⟩ (.ref a) (λb o q=>?_) (h1 a na)
  by_cases hb:b=a
  ·subst hb;rw[zag]at q;cases q;exact⟨vs,ea,r1⟩
  ·rw[zaA hb]at q;exact hS1 b o q⟩
end
noncomputable def zap (c:WSp) (t:WA):WE:=λE σ S Q=>t E σ S λws S1=>c ws S1 Q λcl S2=>E cl σ S2
noncomputable def zcv (n k:Nat) (body:WS):WSp:=λws S Q E=>ws.length=k∧body (λc _ S'=>E c S') { nx:=λ_ S'=>∃S'',Sub S'' S'∧Q .non S'',rt:=λw S'=>∃S'',Sub S'' S'∧Q w S'' } (ws.map ae++aO (n - k) none) S
section
variable {X:Cx}{k:Nat}{f:Addr}{fd:bC}{ps:List Str}{c:WSp}{x:Str}{p pos:aC}{e:Expr}{es:List Expr}{t:WA}
theorem zai (F:FnOk X.prog X.w X.K X.mg X.base (CX1 X.prog X.w) k f fd ps (zcX X.K c)) (hr:Room k X.A) (hg:Gl X x) (hm:X.mg x=ae (.ref f)) (hk:eL X.K (.ref f)=true) (hb:Binds X.K fd ps [])
  (ha:JA X (e::es) t) (hdb:(x == ("__debug__" :Str))=false:=by decide) (he:ao (e::es) X.env=(false,ay e X.env)::ao es X.env:=by rfl) (hpl:(aP pos (ao es X.env)).any (·.1)=false:=by rfl) :
  JE X (.Call (.Name x p) (e::es) [] pos) (zap c t):=λE hE pins s σ H Q I h=>by
 obtain⟨σW,S,QW,hσ,hS,ht,hQ⟩:=h;refine gE (zlS I hg hm ?_ hdb);refine PySem.W.callWith_K (h₀:=X.base) I.ok.mod.kin hk (thn (ha E hE pos pins s σ H (λvs H1=>∃ws S1,Reps X.K H1 ws vs∧RpSt X.K H1 σW σ∧RepS X.K H1 S1∧c ws S1 QW (λcl S'=>E cl σW S')∧Wish X.K H1 S1 QW Q) I
  ⟨σW,S,_,hσ,hS,ht,λws S1 vs H1 e1 r1 hS1 h1=>⟨ws,S1,r1,hσ.ext e1,hS1,h1,hQ.from e1⟩⟩) λus s1 ⟨vs,H1,I1,r,ws,S1,r1,hσ1,hS1,h1,hQ1⟩=>⟨I1.kIn,?_⟩) he hpl
 exact zyy F hr hb hE I1 r r1 hσ1 hS1 h1 hQ1
theorem zpB{K:aj}{H:Hp}{N:List Str}{ws:List W}{vs:List V}(h:Reps K H ws vs):RpSt K H (ws.map ae++aO (N.length - ws.length) none) (start N vs):=by
 have go:∀{ws:List W}{vs:List V}(m:Nat),Reps K H ws vs→RpSt K H (ws.map ae++aO m none) (vs.map ae++aO m none):=by
  intro ws
  induction ws with
  |nil=>
   intro vs m h;cases h
   induction m with
   |zero=>exact .nil
   |succ m ih=>exact .cons trivial ih
  |cons w ws ih=>
   intro vs m h;cases h with
   |cons r rs=>exact .cons r (ih m rs)
 unfold start;rw[←h.length];exact go _ h
theorem zaP{P:aE}{w:aB}{K:aj}{mg:Str→Option Value}{base:Heap}{x qual:Str}{st:Stmt}{f:Addr}{fd:bC}{N ps:List Str}{r n k:Nat}{body:WS}(F:Fun K x qual st f fd) (S:FnScope N ps (zak st)) (hn:N.length=n) (hk:ps.length=k)
  (hbody:∀(cdv:Value) (A:aN) (outer:List bt) (s:ah) (H:Hp) (E:XK),Room r (A.deeper (cn qual (zak st) s.heap.objs.size f cdv))→
   JSs (zud (CX1 P w) P w K mg base N qual (zak st) f cdv A outer s H E) (zfV st) body):FnOk P w K mg base (CX1 P w) (r+1) f fd ps (zcX K (zcv n k body)):=by
 obtain⟨oc,od,kV,doc,pm,an,cdv,ct,osl,rfl,lk,hcd⟩:=F.ex;refine zyk lk hcd S (λvs H Q E h=>?_) λA outer s H vs Q E hr h=>?_
 ·obtain⟨ws,S,QW,EW,rs,_,h,_⟩:=h;rw[←rs.length,h.1,hk]
 ·obtain⟨ws,S',QW,EW,rs,hS,h,hQ,hEW⟩:=h;refine⟨_,hbody cdv A outer s H E hr (λc _ S'=>EW c S') (zsx hEW),?_⟩;refine⟨_,S',{ nx:=λ_ S'=>∃S'',Sub S'' S'∧QW .non S'',rt:=λw S'=>∃S'',Sub S'' S'∧QW w S'' },zpB (N:=N) rs,hS,by rw[hn,h.1];exact h.2,⟨λσW S1 σ H1 e1 rr hS1 q=>?_,λw S1 v H1 e1 rr hS1 q=>?_,λ_ _ _ _ _ _ _ q=>q,λ_ _ _ _ _ _ _ q=>q⟩⟩
  ·obtain⟨S2,sb,q⟩:=q;exact hQ .non S2 .non H1 (e1.trans (.drop sb)) .non (hS1.sub sb) q
  ·obtain⟨S2,sb,q⟩:=q;exact hQ w S2 v H1 (e1.trans (.drop sb)) rr (hS1.sub sb) q
end
noncomputable def zdk (C:Int→Int→Prop) (g:Int→Int→W):W2
 | .int i, .int j,S,Q=>C i j∧Q (g i j) S
 |_,_,_,_=>False
noncomputable def zeW (g:Int→Int→W):W2
 | .int i, .int j,S,Q=>Q (g i j) S
 |_,_,_,_=>False
theorem ziy{K:aj}{C:Int→Int→Prop}{g:Int→Int→Int}:OpW K (rI C λi j=> .int (g i j)) (zdk C λi j=> .int (g i j)):=λH x y wx wy S Q QW rx ry hS h hQ=>by
 cases rx<;>cases ry<;>first |exact⟨_,_,rfl,rfl,h.1,hQ _ S _ H .refl (.int _) hS h.2⟩ |exact h.elim
theorem zro{K:aj}{g:Int→Int→Int}:OpW K (rI0 λi j=> .int (g i j)) (zeW λi j=> .int (g i j)):=λH x y wx wy S Q QW rx ry hS h hQ=>by
 cases rx<;>cases ry<;>first |exact⟨_,_,rfl,rfl,hQ _ S _ H .refl (.int _) hS h⟩ |exact h.elim
theorem ziF{K:aj}{g:Int→Int→Bool}:OpW K (rI0 λi j=> .bl (g i j)) (zeW λi j=> .bl (g i j)):=λH x y wx wy S Q QW rx ry hS h hQ=>by
 cases rx<;>cases ry<;>first |exact⟨_,_,rfl,rfl,hQ _ S _ H .refl (.bl _) hS h⟩ |exact h.elim
noncomputable def zdF:W2
 | .int i, .int j,S,Q=>Q (.int (i+j)) S
 | .str x, .str y,S,Q=>x.length+y.length≤sizeLine∧Q (.str (x++y)) S
 | .tup xs, .tup ys,S,Q=>xs.length+ys.length≤sizeLine∧Q (.tup (xs++ys)) S
 | .ref a, .ref b,S,Q=>zcu S a λxs=>zcu S b λys=>xs.length+ys.length≤sizeLine∧ ∀p,S p=none→Q (.ref p) (put S p (.lst (xs++ys)))
 |_,_,_,_=>False
section
variable {X:Cx}
theorem Reps.nil_r{K:aj}{H:Hp}{ws:List W}(h:Reps K H ws []):ws=[]:=by cases h;rfl
theorem op_catT0:OpR X (bM .Add) (λx y H Q=>∃a b ys,x= .ref a∧y= .ref b∧SqT X.K H a []∧SqT X.K H b ys∧Q (.ref b) H):=by
 intro pins s σ H x y v u Q I rx ry h;obtain⟨a,b,ys,rfl,rfl,ha,hb,q⟩:=h;cases rx;cases ry;obtain⟨its,r1,p1,_⟩:=I.tuple ha;obtain⟨its2,r2,p2,_⟩:=I.tuple hb;cases r1;obtain⟨⟨cls,dd,data,sl⟩,ho,hc,n,hd⟩:=id p1;obtain⟨⟨cls2,dd2,data2,sl2⟩,ho2,hc2,n2,hd2⟩:=id p2;simp only at hc hd hc2 hd2;subst hc hd hc2 hd2;exact gz ⟨_,ho,rfl⟩ ⟨_,ho2,rfl⟩ ij g_ gY gy (gl _ _)
   (tuple_addW0 a b _ _ n n2 dd dd2 sl sl2 (by simp)) ⟨ho,ho2,⟨.ref b,H,I,rfl,q⟩⟩
theorem zos:OpR X (bM .Add) (λx y H Q=>(rI0 λi j=> .int (i+j)) x y H Q∨(∃i j,x= .str i∧y= .str j∧i.length+j.length≤sizeLine∧Q (.str (i++j)) H)∨
  (∃a b ys,x= .ref a∧y= .ref b∧SqT X.K H a []∧SqT X.K H b ys∧Q (.ref b) H)∨zuI X.K x y H Q∨zzw x y H Q):=op_add.or (op_add_str.or (op_catT0.or (op_catT.or zmh)))
theorem zvp{K:aj}:OpW K (λx y H Q=>(rI0 λi j=> .int (i+j)) x y H Q∨(∃i j,x= .str i∧y= .str j∧i.length+j.length≤sizeLine∧Q (.str (i++j)) H)∨
  (∃a b ys,x= .ref a∧y= .ref b∧SqT K H a []∧SqT K H b ys∧Q (.ref b) H)∨zuI K x y H Q∨zzw x y H Q) zdF:=λH x y wx wy S Q QW rx ry hS h hQ=>by
 cases rx with
 |int i=>
  cases ry with
  |int j=>exact .inl ⟨i,j,rfl,rfl,hQ _ S _ H .refl (.int _) hS h⟩
  |_=>exact h.elim
 |str i=>
  cases ry with
  |str j=>exact .inr (.inl ⟨i,j,rfl,rfl,h.1,hQ _ S _ H .refl (.str _) hS h.2⟩)
  |_=>exact h.elim
 | @tup a vs ws f hs=>
  cases ry with
  | @tup b us zs g ks=>
   cases hs with
   |nil=>exact .inr (.inr (.inl ⟨a,b,us,rfl,rfl, .of f, .of g,hQ (.tup zs) S _ H .refl (.tup g ks) hS h.2⟩))
   |cons h1 h2=>
    refine .inr (.inr (.inr (.inl ⟨a,b,_,us,rfl,rfl, .of f, .of g,by simp,?_,λe=>?_,λe p hp=>?_⟩)))
    ·rw[←(Reps.cons h1 h2).length,←ks.length];exact h.1
    ·subst e;have e':=ks.nil_r;subst e';have q:=h.2;rw[bJ]at q;exact hQ _ S _ H .refl (.tup f (.cons h1 h2)) hS q
    ·exact hQ _ S _ _ (.new hp) (.tup zay (((Reps.cons h1 h2).append ks).ext (.new (S:=S) hp))) (hS.new hp) h.2
  |_=>exact h.elim
 |ref a=>
  cases ry with
  |ref b=>
   obtain⟨xs,ea,h⟩:=zbl h;obtain⟨ys,eb,h⟩:=zbl h;obtain⟨vs,e1,r1⟩:=hS a _ ea;obtain⟨us,e2,r2⟩:=hS b _ eb;refine .inr (.inr (.inr (.inr ⟨a,b,vs,us,rfl,rfl,e1,e2,by rw[←r1.length,←r2.length];exact h.1,λp hp=>?_⟩)))
   exact hQ _ _ _ _ (.newS hp) (.ref p) (hS.put_lst hp ((r1.append r2).ext (.new (S:=S) hp))) (h.2 p (hS.free hp))
  |_=>exact h.elim
 |_=>exact h.elim
variable {a b:Expr}{pos:aC}{ta tb:WE}
theorem zbe (ha:JE X a ta) (hb:JE X b tb):JE X (.BinOp a .Add b pos) (wOp zdF ta tb):=znS zos zvp ha hb
theorem zkb (ha:JE X a ta) (hb:JE X b tb):JE X (.BinOp a .Sub b pos) (wOp (zeW λi j=> .int (i - j)) ta tb):=znS zxz zro ha hb
theorem zte (ha:JE X a ta) (hb:JE X b tb):JE X (.BinOp a .Mult b pos) (wOp (zdk CMul λi j=> .int (i*j)) ta tb):=znS zwy ziy ha hb
theorem zcD (ha:JE X a ta) (hb:JE X b tb):JE X (.BinOp a .FloorDiv b pos) (wOp (zdk ziu λi j=> .int (i / j)) ta tb):=znS zuY ziy ha hb
theorem zce (ha:JE X a ta) (hb:JE X b tb):JE X (.BinOp a .Mod b pos) (wOp (zdk (λ_ j=>0<j) λi j=> .int (i % j)) ta tb):=znS zxK ziy ha hb
theorem zwQ (ha:JE X a ta) (hb:JE X b tb):JE X (.BinOp a .Pow b pos) (wOp (zdk zzx λi j=> .int (i ^ j.toNat)) ta tb):=znS zwY ziy ha hb
noncomputable def zoa (t:WE):WE:=λE σ S Q=>t E σ S λw S1=>match w with
 | .int i=>Q (.int (-i)) S1
 |_=>False
theorem zfh (ha:JE X a ta):JE X (.UnaryOp .USub a pos) (zoa ta):=λE hE=>
 (zzb zxW (ha E hE)).mono λσ H Q ⟨σW,S,QW,hσ,hS,ht,hQ⟩=>⟨σW,S,_,hσ,hS,ht,λw S1 v H1 e1 r1 hS1 h1=>by
  cases r1 with
  |int i=>exact⟨i,rfl,hQ _ S1 _ H1 e1 (.int _) hS1 h1⟩
  |_=>exact h1.elim⟩
noncomputable def zyS (t u:WE):WL:=λE σ S Q=>t E σ S λx S1=>u E σ S1 λy S2=>match x,y with
 | .ref a, .ref b=>zcu S2 a λxs=>zcu S2 b λys=>xs.length+ys.length≤sizeLine∧Q (xs++ys) S2
 |_,_=>False
end
noncomputable def zea (f:W→W→Option Bool):List W→List W→Option Bool
 | [],[]=>ae true
 | [],_=>ae false
 |_,[]=>ae false
 |x::xs,y::ys=>match f x y,zea f xs ys with
  |some a,ae b=>ae (a&&b)
  |_,_=>none
noncomputable def eqF (S:Sto):Nat→W→W→Option Bool
 |0,_,_=>none
 |n+1,w,u=>match w,u with
  | .non, .non=>ae true
  | .bl a, .bl b=>ae (a == b)
  | .int a, .int b=>ae (a == b)
  | .str a, .str b=>ae (a == b)
  | .tup _, .int _=>ae false
  | .int _, .tup _=>ae false
  | .tup xs, .tup ys=>zea (eqF S n) xs ys
  | .ref a, .ref b=>match S a with
   |some (.lst xs)=>match S b with
    |some (.lst ys)=>zea (eqF S n) xs ys
    |_=>none
   |_=>none
  |_,_=>none
theorem zmK{f:W→W→Option Bool}:∀{xs ys:List W}{b:Bool},zea f xs ys=ae b→
  (∀j,j<xs.length→j<ys.length→ ∃c,f (xs.getD j .non) (ys.getD j .non)=ae c)∧
  ((aU (min xs.length ys.length)).all (λj=>(f (xs.getD j .non) (ys.getD j .non)).getD true)&&xs.length == ys.length)=b
 | [],[],b,h=>by
  have:true=b:=aG h;subst this;exact⟨λj h=>absurd h (by simp),by simp⟩
 | [],y::ys,b,h=>by
  have:false=b:=aG h;subst this;exact⟨λj h=>absurd h (by simp),by simp⟩
 |x::xs,[],b,h=>by
  have:false=b:=aG h;subst this;exact⟨λj _ h=>absurd h (by simp),by simp⟩
 |x::xs,y::ys,b,h=>by
  unfold zea at h;split at h
  ·rename_i c d e1 e2;have hb:(c&&d)=b:=aG h;obtain⟨h1,h2⟩:=zmK e2;refine⟨λj j1 j2=>?_,?_⟩
   ·cases j with
    |zero=>exact⟨c,by simpa using e1⟩
    |succ j=>simpa using h1 j (by simpa using j1) (by simpa using j2)
   ·have hm:min (xs.length+1) (ys.length+1)=min xs.length ys.length+1:=by omega
    have hl:(xs.length+1 == ys.length+1)=(xs.length == ys.length):=by simp
    rw[aR,aR,hm,gU,List.all_cons,List.all_map,hl];have q:((λj=>(f ((x::xs).getD j .non) ((y::ys).getD j .non)).getD true)∘Nat.succ)=λj=>(f (xs.getD j .non) (ys.getD j .non)).getD true:=by
     funext j;simp
    rw[q,Bool.and_assoc,h2];have q0:(f ((x::xs).getD 0 .non) ((y::ys).getD 0 .non)).getD true=c:=by simp [e1]
    rw[q0,hb]
  ·cases h
section
variable {X:Cx}{pins:List (Addr×Obj)}{σ:St}{H:Hp}{s:ah}{S:Sto}
theorem ziw (I:Inv X pins σ H s):∀(n:Nat) {wx wy:W}{v:V}{b:Bool},Rep X.K H wx v→Rep X.K H wy v→RepS X.K H S→eqF S n wx wy=ae b→b=true
 |0,_,_,_,_,_,_,_,h=>by cases h
 |n+1,wx,wy,v,b,rx,ry,hS,h=>by
  have list:∀{ws us:List W}{vs:List V}{b:Bool},Reps X.K H ws vs→Reps X.K H us vs→zea (eqF S n) ws us=ae b→b=true:=by
   intro ws
   induction ws with
   |nil=>
    intro us vs b r1 r2 e;cases r1;cases r2;exact(aG e).symm
   |cons w ws ih=>
    intro us vs b r1 r2 e;cases r1 with
    |cons a1 a2=>
     cases r2 with
     |cons c1 c2=>
      unfold zea at e;split at e
      ·rename_i c d e1 e2;have q1:=ziw I n a1 c1 hS e1;have q2:=ih a2 c2 e2;have:=aG e;rw[q1,q2]at this;exact this.symm
      ·cases e
  cases rx with
  |non=>cases ry;exact(aG h).symm
  |bl k=>cases ry;have:=aG h;simpa using this.symm
  |int k=>cases ry;have:=aG h;simpa using this.symm
  |str k=>cases ry;have:=aG h;simpa using this.symm
  |ref a=>
   cases ry with
   |ref _=>
    have h':(match S a with
     |some (.lst xs)=>match S a with
      |some (.lst ys)=>zea (eqF S n) xs ys
      |_=>none
     |_=>none)=ae b:=h
    cases e:S a with
    |none=>rw[e]at h';cases h'
    |some o=>
     rw[e]at h';cases o with
     |lst ws=>
      obtain⟨vs,_,r⟩:=hS a _ e;exact list r r h'
     |dct _=>cases h'
     |dk _=>cases h'
     |ins _ _=>cases h'
   |scr _=>cases h
   |tup _ _=>cases h
  |scr f=>cases ry<;>cases h
  |tup f hs=>
   cases ry with
   |ref _=>cases h
   |scr _=>cases h
   |tup g ks=>
    have e:=I.tuple_inj (.of f) (.of g);subst e;exact list hs ks h
theorem zkA{A:aN}:A.in1.units=A.units+1:=rfl
theorem zno (I:Inv X pins σ H s) (hS:RepS X.K H S):∀(n:Nat) {A:aN}{wx wy:W}{x y:V}{u v:Value}{b:Bool},A.units+n<cLine→Rep X.K H wx x→Rep X.K H wy y→RelV x u→RelV y v→eqF S n wx wy=ae b→
  d5 A s u v b∧eO A s u v b∧eK A s u v (!b)
 |0,_,_,_,_,_,_,_,_,_,_,_,_,_,h=>by cases h
 |n+1,A,wx,wy,x,y,u,v,b,hu,rx,ry,ru,rv,h=>by
  have hu0:A.units<cLine:=by omega
  have items:∀{ws zs:List W}{xs ys:List V}{us vs:List Value}{b:Bool},Reps X.K H ws xs→Reps X.K H zs ys→Vals xs us→Vals ys vs→zea (eqF S n) ws zs=ae b→
    (∀j (h1:j<us.toArray.size) (h2:j<vs.toArray.size),d5 A.in1 s us.toArray[j] vs.toArray[j] ((eqF S n (ws.getD j .non) (zs.getD j .non)).getD true))∧
    ((aU (min us.toArray.size vs.toArray.size)).all (λj=>(eqF S n (ws.getD j .non) (zs.getD j .non)).getD true)&&us.toArray.size == vs.toArray.size)=b:=by
   intro ws zs xs ys us vs b r1 r2 q1 q2 e;obtain⟨h1,h2⟩:=zmK e;have l1:=r1.length;have l2:=r2.length;have l3:=q1.length;have l4:=q2.length;refine⟨λj j1 j2=>?_,?_⟩
   ·rw[aQ]at j1 j2;obtain⟨c,hc⟩:=h1 j (by omega) (by omega);have jw:j<ws.length:=by omega
    have jz:j<zs.length:=by omega
    obtain⟨x',ex,rx'⟩:=r1.get (a9 jw);obtain⟨y',ey,ry'⟩:=r2.get (a9 jz);obtain⟨u',eu,ru'⟩:=q1.get ex;obtain⟨v',ev,rv'⟩:=q2.get ey;have e1:us.toArray[j]=u':=by
     obtain⟨_,e⟩:=ca.mp eu;simpa using e
    have e2:vs.toArray[j]=v':=by
     obtain⟨_,e⟩:=ca.mp ev;simpa using e
    have g1:ws.getD j .non=ws[j]:=by rw[bo,a9 jw];rfl
    have g2:zs.getD j .non=zs[j]:=by rw[bo,a9 jz];rfl
    rw[e1,e2,hc];rw[g1,g2]at hc;exact(zno I hS n (by rw[zkA];omega) rx' ry' ru' rv' hc).1
   ·rw[aQ,aQ,←l3,←l4,←l1,←l2];exact h2
  cases rx with
  |non=>
   cases(show u=cb from ru);cases ry with
   |non=>cases(show v=cb from rv);cases h;exact⟨.same _, .none_none, .none_none⟩
   |_=>cases h
  |bl k=>
   cases(show u=dN k from ru);cases ry with
   |bl j=>cases(show v=dN j from rv);cases h;exact⟨.bool_bool _ _, .bool_bool _ _, .bool_bool _ _⟩
   |_=>cases h
  |int k=>
   obtain⟨t0,rfl⟩:=ru;cases ry with
   |int j=>obtain⟨t,rfl⟩:=rv;cases h;exact⟨.int_int _ _ _ _, .int_int _ _ _ _, .int_int _ _ _ _⟩
   |tup f hs=>cases(show v=a_ _ from rv);cases h;obtain⟨its,_,p,_⟩:=I.tuple (.of f);exact⟨.int_tuple _ _ p hu0, .int_tuple _ _ p hu0, .int_tuple _ _ p hu0⟩
   |_=>cases h
  |str k=>
   obtain⟨t0,rfl⟩:=ru;cases ry with
   |str j=>obtain⟨t,rfl⟩:=rv;cases h;exact⟨.str_str _ _ _ _, .str_str _ _ _ _, .str_str _ _ _ _⟩
   |_=>cases h
  | @tup a xs ws f hs=>
   cases(show u=a_ a from ru);obtain⟨its,q1,p,_⟩:=I.tuple (.of f);cases ry with
   |int j=>obtain⟨t,rfl⟩:=rv;cases h;exact⟨.tuple_int _ _ p hu0, .tuple_int _ _ p hu0, .tuple_int _ _ p hu0⟩
   | @tup c ys zs g ks=>
    cases(show v=a_ c from rv);obtain⟨its2,q2,p2,_⟩:=I.tuple (.of g);obtain⟨h1,h2⟩:=items hs ks q1 q2 h;have rc:eO A s (.ref a) (.ref c) b:=by
     have:=eO.tuples p p2 hu0 h1;rw[h2]at this;exact this
    have rn:eK A s (.ref a) (.ref c) (!b):=by
     have:=eK.tuples p p2 hu0 h1;rw[h2]at this;exact this
    refine⟨?_,rc,rn⟩;by_cases e:a=c
    ·subst e;have:=ziw I (n+1) (.tup f hs) (.tup g ks) hS h;rw[this];exact .same _
    ·exact .of_refs e rc
   |_=>cases h
  |ref a=>
   cases(show u=a_ a from ru);cases ry with
   |ref c=>
    cases(show v=a_ c from rv);have h':(match S a with
     |some (.lst xs)=>match S c with
      |some (.lst ys)=>zea (eqF S n) xs ys
      |_=>none
     |_=>none)=ae b:=h
    cases e:S a with
    |none=>rw[e]at h';cases h'
    |some o=>
     rw[e]at h';cases o with
     |dct _=>cases h'
     |dk _=>cases h'
     |ins _ _=>cases h'
     |lst ws=>
      cases e2:S c with
      |none=>rw[e2]at h';cases h'
      |some o2=>
       rw[e2]at h';cases o2 with
       |dct _=>cases h'
       |dk _=>cases h'
       |ins _ _=>cases h'
       |lst zs=>
        obtain⟨xs,f,hs⟩:=hS a _ e;obtain⟨ys,g,ks⟩:=hS c _ e2;obtain⟨its,q1,p,_⟩:=I.list (.of f);obtain⟨its2,q2,p2,_⟩:=I.list (.of g);obtain⟨h1,h2⟩:=items hs ks q1 q2 h';have both:eO A s (.ref a) (.ref c) b∧eK A s (.ref a) (.ref c) (!b):=by
         by_cases hz:its.toArray.size=its2.toArray.size
         ·have t1:=eO.lists p.isList p2.isList hz hu0 h1;have t2:=eK.lists p.isList p2.isList hz hu0 h1;rw[←hz,Nat.min_self,beq_self_eq_true,Bool.and_true]at h2;rw[h2]at t1 t2;exact⟨t1,t2⟩
         ·have hz':(its.toArray.size != its2.toArray.size)=true:=by simpa using hz
          have hz2:(its.toArray.size == its2.toArray.size)=false:=by simpa using hz
          rw[hz2,fV]at h2;subst h2;exact⟨.lists_lengths p.isList p2.isList hz' hu0, .lists_lengths p.isList p2.isList hz' hu0⟩
        refine⟨?_,both.1,both.2⟩;by_cases ee:a=c
        ·subst ee;have:=ziw I (n+1) (.ref a) (.ref a) hS h;rw[this];exact .same _
        ·exact .of_refs ee both.1
   |_=>cases h
  |scr f=>cases ry<;>cases h
end
noncomputable def oEq (neg:Bool):W2:=λx y S Q=>match eqF S 60 x y with
 |some b=>Q (.bl (if neg then !b else b)) S
 |none=>False
noncomputable def zzr (K:aj) (neg:Bool):R2:=λx y H Q=>∃wx wy S b,Rep K H wx x∧Rep K H wy y∧RepS K H S∧eqF S 60 wx wy=ae b∧Q (.bl (if neg then !b else b)) H
section
variable {X:Cx}
theorem zta (hu:X.A.units+60<cLine):OpR X (bF .Eq) (zzr X.K false):=by
 intro pins s σ H x y v u Q I rx ry h;obtain⟨wx,wy,S,b,r1,r2,hS,e,q⟩:=h;exact(zno I hS 60 hu r1 r2 rx ry e).2.1 _ _ _ _ ⟨.bl b,H,I,rfl,q⟩
theorem zxC (hu:X.A.units+60<cLine):OpR X (bF .NotEq) (zzr X.K true):=by
 intro pins s σ H x y v u Q I rx ry h;obtain⟨wx,wy,S,b,r1,r2,hS,e,q⟩:=h;exact(zno I hS 60 hu r1 r2 rx ry e).2.2 _ _ _ _ ⟨.bl (!b),H,I,rfl,q⟩
theorem zpD{K:aj}{neg:Bool}:OpW K (zzr K neg) (oEq neg):=λH x y wx wy S Q QW rx ry hS h hQ=>by
 unfold oEq at h;split at h
 ·rename_i b e;exact⟨wx,wy,S,b,rx,ry,hS,e,hQ _ S _ H .refl (.bl _) hS h⟩
 ·exact h.elim
variable {a b:Expr}{pos:aC}{ta tb:WE}
theorem znB{k:Nat}(hr:Room k X.A) (ha:JE X a ta) (hb:JE X b tb):JE X (.Compare a [.Eq] [b] pos) (wOp (oEq false) ta tb):=zvS (zta (by have:=hr.units;omega)) zpD ha hb (nomark b)
theorem zdV{k:Nat}(hr:Room k X.A) (ha:JE X a ta) (hb:JE X b tb):JT X (.Compare a [.Eq] [b] pos) (wTb (wOp (oEq false) ta tb)):=zfo (zta (by have:=hr.units;omega)) zpD ha hb (nomark b)
theorem zfY{k:Nat}(hr:Room k X.A) (ha:JE X a ta) (hb:JE X b tb):JT X (.Compare a [.NotEq] [b] pos) (wTb (wOp (oEq true) ta tb)):=zfo (zxC (by have:=hr.units;omega)) zpD ha hb (nomark b)
noncomputable abbrev oLt:W2:=zeW λi j=> .bl (decide (i<j))
noncomputable abbrev oGt:W2:=zeW λi j=> .bl (decide (j<i))
noncomputable abbrev oGe:W2:=zeW λi j=> .bl (decide (j≤i))
noncomputable def oLe:W2
 | .int i, .int j,S,Q=>Q (.bl (decide (i≤j))) S
 | .str i, .str j,S,Q=>Q (.bl (!decide (j.cps.toList<i.cps.toList))) S
 |_,_,_,_=>False
theorem zpx (ha:JE X a ta) (hb:JE X b tb):JT X (.Compare a [.Lt] [b] pos) (wTb (wOp oLt ta tb)):=zfo zyj ziF ha hb (nomark b)
theorem zlx (ha:JE X a ta) (hb:JE X b tb):JT X (.Compare a [.Gt] [b] pos) (wTb (wOp oGt ta tb)):=zfo zyl ziF ha hb (nomark b)
theorem zyr (ha:JE X a ta) (hb:JE X b tb):JT X (.Compare a [.GtE] [b] pos) (wTb (wOp oGe ta tb)):=zfo zyQ ziF ha hb (nomark b)
noncomputable def oIs (neg:Bool):W2
 | .non, .non,S,Q=>Q (.bl (!neg)) S
 | .bl a, .bl b,S,Q=>Q (.bl (if neg then a != b else a == b)) S
 | .bl _, .non,S,Q=>Q (.bl neg) S
 | .int _, .non,S,Q=>Q (.bl neg) S
 | .str _, .non,S,Q=>Q (.bl neg) S
 | .tup _, .non,S,Q=>Q (.bl neg) S
 | .ref _, .non,S,Q=>Q (.bl neg) S
 |_,_,_,_=>False
theorem zww:OpR X (bF .Is) (λx y H Q=>(y= .non∧Q (.bl (decide (x= .non))) H)∨ ∃a b,x= .bl a∧y= .bl b∧Q (.bl (a == b)) H):=op_isN.or (by
 intro pins s σ H x y v u Q I rx ry h;obtain⟨a,b,rfl,rfl,q⟩:=h;cases rx;cases ry;exact is_bool ⟨.bl _,H,I,rfl,q⟩)
theorem zqr:OpR X (bF .IsNot) (λx y H Q=>(y= .non∧Q (.bl (!decide (x= .non))) H)∨ ∃a b,x= .bl a∧y= .bl b∧Q (.bl (a != b)) H):=op_notN.or (by
 intro pins s σ H x y v u Q I rx ry h;obtain⟨a,b,rfl,rfl,q⟩:=h;cases rx;cases ry;exact isnot_bool ⟨.bl _,H,I,rfl,q⟩)
theorem zxu{K:aj}:OpW K (λx y H Q=>(y= .non∧Q (.bl (decide (x= .non))) H)∨ ∃a b,x= .bl a∧y= .bl b∧Q (.bl (a == b)) H) (oIs false):=λH x y wx wy S Q QW rx ry hS h hQ=>by
 cases ry with
 |non=>cases rx<;>first |exact .inl ⟨rfl,by simpa using hQ _ S _ H .refl (.bl _) hS h⟩ |exact h.elim
 |bl b=>
  cases rx with
  |bl a=>exact .inr ⟨a,b,rfl,rfl,hQ _ S _ H .refl (.bl _) hS h⟩
  |_=>exact h.elim
 |_=>cases rx<;>exact h.elim
theorem zpa{K:aj}:OpW K (λx y H Q=>(y= .non∧Q (.bl (!decide (x= .non))) H)∨ ∃a b,x= .bl a∧y= .bl b∧Q (.bl (a != b)) H) (oIs true):=λH x y wx wy S Q QW rx ry hS h hQ=>by
 cases ry with
 |non=>cases rx<;>first |exact .inl ⟨rfl,by simpa using hQ _ S _ H .refl (.bl _) hS h⟩ |exact h.elim
 |bl b=>
  cases rx with
  |bl a=>exact .inr ⟨a,b,rfl,rfl,hQ _ S _ H .refl (.bl _) hS h⟩
  |_=>exact h.elim
 |_=>cases rx<;>exact h.elim
theorem zkJ (ha:JE X a ta) (hb:JE X b tb):JT X (.Compare a [.Is] [b] pos) (wTb (wOp (oIs false) ta tb)):=zfo zww zxu ha hb (nomark b)
theorem zgG (ha:JE X a ta) (hb:JE X b tb):JT X (.Compare a [.IsNot] [b] pos) (wTb (wOp (oIs true) ta tb)):=zfo zqr zpa ha hb (nomark b)
end
noncomputable def inF (S:Sto) (x:W):List W→Option Bool
 | []=>ae false
 |w::ws=>match eqF S 59 w x with
  |some a=>match inF S x ws with
   |some b=>ae (a || b)
   |none=>none
  |none=>none
section
variable {X:Cx}{pins:List (Addr×Obj)}{σ:St}{H:Hp}{s:ah}{S:Sto}
theorem zld (I:Inv X pins σ H s) (hS:RepS X.K H S):∀(n:Nat) {w w' u:W}{v:V}{b b':Bool},Rep X.K H w v→Rep X.K H w' v→eqF S n w u=ae b→eqF S n w' u=ae b'→b=b'
 |0,_,_,_,_,_,_,_,_,h,_=>by cases h
 |n+1,w,w',u,v,b,b',r,r',h,h'=>by
  have list:∀{us ws zs:List W}{vs:List V}{b b':Bool},Reps X.K H ws vs→Reps X.K H zs vs→zea (eqF S n) ws us=ae b→zea (eqF S n) zs us=ae b'→b=b':=by
   intro us
   induction us with
   |nil=>
    intro ws zs vs b b' r1 r2 e1 e2;cases r1 with
    |nil=>cases r2;rw[e1]at e2;exact aG e2
    |cons _ _=>cases r2 with
     |cons _ _=>have:=aG e1;have:=aG e2;subst_vars;rfl
   |cons u us ih=>
    intro ws zs vs b b' r1 r2 e1 e2;cases r1 with
    |nil=>cases r2;rw[e1]at e2;exact aG e2
    |cons a1 a2=>
     cases r2 with
     |cons c1 c2=>
      unfold zea at e1 e2;split at e1
      ·rename_i p q f1 f2;split at e2
       ·rename_i p' q' g1 g2;have h1:=zld I hS n a1 c1 f1 g1;have h2:=ih a2 c2 f2 g2;rw[←aG e1,←aG e2,h1,h2]
       ·cases e2
      ·cases e1
  have nolist:∀{a:Addr}{vs:List V}{ws:List W},H a=ae (.tup vs)→S a=ae (.lst ws)→False:=λf e=>by
   obtain⟨_,g,_⟩:=hS _ _ e;rw[f]at g;cases g
  cases r with
  |non=>cases r';rw[h]at h';exact aG h'
  |bl k=>cases r';rw[h]at h';exact aG h'
  |int k=>cases r';rw[h]at h';exact aG h'
  |str k=>cases r';rw[h]at h';exact aG h'
  |scr f=>cases u<;>cases h
  | @tup a vs ws f hs=>
   cases r' with
   | @tup _ us zs g ks=>
    rw[f]at g;cases g;cases u with
    |tup us=>exact list hs ks h h'
    |int _=>have:=aG h;have:=aG h';subst_vars;rfl
    |_=>cases h
   |scr _=>cases u<;>cases h'
   |ref _=>
    exfalso;cases u with
    |ref c=>
     have h2:(match S a with
      |some (.lst xs)=>match S c with
       |some (.lst ys)=>zea (eqF S n) xs ys
       |_=>none
      |_=>none)=ae b':=h'
     split at h2
     ·exact nolist f ‹_›
     ·cases h2
    |_=>cases h'
  |ref a=>
   cases r' with
   |ref _=>rw[h]at h';exact aG h'
   |scr _=>cases u<;>cases h'
   |tup f hs=>
    exfalso;cases u with
    |ref c=>
     have h2:(match S a with
      |some (.lst xs)=>match S c with
       |some (.lst ys)=>zea (eqF S n) xs ys
       |_=>none
      |_=>none)=ae b:=h
     split at h2
     ·exact nolist f ‹_›
     ·cases h2
    |_=>cases h
open Classical in
theorem ztt (I:Inv X pins σ H s) (hS:RepS X.K H S) {A:aN}{ws:List W}{vs:List V}{us:List Value}{wx:W}{x:V}{u:Value}{b:Bool}(hu:A.units+60<cLine) (r:Reps X.K H ws vs) (rv:Vals vs us) (rx:Rep X.K H wx x) (ru:RelV x u) (h:inF S wx ws=ae b) :
  ∃e:Value→Bool,(∀y,y∈us.toArray→d5 A.in1 s y u (e y))∧us.toArray.any e=b:=by
 refine⟨λy=>decide (∃w v,Rep X.K H w v∧RelV v y∧eqF S 59 w wx=ae true),?_,?_⟩
 ·have go:∀{ws:List W}{vs:List V}{us:List Value}{b:Bool},Reps X.K H ws vs→Vals vs us→inF S wx ws=ae b→ ∀y∈us,d5 A.in1 s y u (decide (∃w v,Rep X.K H w v∧RelV v y∧eqF S 59 w wx=ae true)):=by
   intro ws
   induction ws with
   |nil=>intro vs us b r rv h y hy;cases r;cases rv;cases hy
   |cons w ws ih=>
    intro vs us b r rv h y hy;cases r with
    |cons r1 r2=>
     cases rv with
     |cons q1 q2=>
      unfold inF at h;split at h
      ·rename_i c e1;split at h
       ·rename_i d e2;rcases az.mp hy with rfl |hy
        ·have ok:=(zno I hS 59 (A:=A.in1) (by rw[zkA];omega) r1 rx q1 ru e1).1;have ec:c=decide (∃w v,Rep X.K H w v∧RelV v y∧eqF S 59 w wx=ae true):=by
          cases c with
          |true=>exact(decide_eq_true ⟨w,_,r1,q1,e1⟩).symm
          |false=>
           symm;refine decide_eq_false λ⟨w',v',r',q',e'⟩=>?_;have:=RelV.inj q' q1;subst this;exact absurd (zld I hS 59 r1 r' e1 e') (by simp)
         rw[←ec];exact ok
        ·exact ih r2 q2 e2 y hy
       ·cases h
      ·cases h
  intro y hy;exact go r rv h y (by simpa using hy)
 ·have go:∀{ws:List W}{vs:List V}{us:List Value}{b:Bool},Reps X.K H ws vs→Vals vs us→inF S wx ws=ae b→us.any (λy=>decide (∃w v,Rep X.K H w v∧RelV v y∧eqF S 59 w wx=ae true))=b:=by
   intro ws
   induction ws with
   |nil=>intro vs us b r rv h;cases r;cases rv;exact aG h
   |cons w ws ih=>
    intro vs us b r rv h;cases r with
    |cons r1 r2=>
     cases rv with
     | @cons _ _ _ _ q1 q2=>
      rename_i y _;unfold inF at h;split at h
      ·rename_i c e1;split at h
       ·rename_i d e2;have ec:decide (∃w v,Rep X.K H w v∧RelV v y∧eqF S 59 w wx=ae true)=c:=by
          cases c with
          |true=>exact decide_eq_true ⟨w,_,r1,q1,e1⟩
          |false=>
           refine decide_eq_false λ⟨w',v',r',q',e'⟩=>?_;have:=RelV.inj q' q1;subst this;exact absurd (zld I hS 59 r1 r' e1 e') (by simp)
        rw[cG,ih r2 q2 e2,ec];exact aG h
       ·cases h
      ·cases h
  have:=go r rv h;simpa using this
end
noncomputable def oIn (neg:Bool):W2:=λx y S Q=>match y with
 | .str j=>match x with
  | .str i=>Q (.bl (if neg then !(!(cR j i 0 j.length 1).isEmpty) else !(cR j i 0 j.length 1).isEmpty)) S
  |_=>False
 | .tup ws=>match inF S x ws with
  |some b=>Q (.bl (if neg then !b else b)) S
  |none=>False
 | .ref a=>zcu S a λws=>match inF S x ws with
  |some b=>Q (.bl (if neg then !b else b)) S
  |none=>False
 |_=>False
noncomputable def zzR (K:aj) (neg:Bool):R2:=λx y H Q=>∃wx ws vs S p b,y= .ref p∧(SqL K H p vs∨SqT K H p vs)∧Reps K H ws vs∧Rep K H wx x∧RepS K H S∧inF S wx ws=ae b∧Q (.bl (if neg then !b else b)) H
section
variable {X:Cx}{a b:Expr}{pos:aC}{ta tb:WE}
theorem zqy (hu:X.A.units+60<cLine):OpR X (bF .NotIn) (zzR X.K true):=by
 intro pins s σ H x y v u Q I rx ry h;obtain⟨wx,ws,vs,S,p,b,rfl,hq,rs,r,hS,e,q⟩:=h;cases ry;rcases hq with hq |hq
 ·obtain⟨its,rv,p,_⟩:=I.list hq;obtain⟨f,h1,h2⟩:=ztt I hS hu rs rv r rx e;exact SeqAt.notIn_listAt f p.isList h1 (by rw[h2];exact⟨.bl (!b),H,I,rfl,q⟩)
 ·obtain⟨its,rv,p,_⟩:=I.tuple hq;obtain⟨f,h1,h2⟩:=ztt I hS hu rs rv r rx e;exact SeqAt.notIn_tupleAt f p h1 (by rw[h2];exact⟨.bl (!b),H,I,rfl,q⟩)
theorem znR{K:aj}{neg:Bool}{H:Hp}{x y:V}{wx wy:W}{S:Sto}{Q:VK}{QW:WK}(rx:Rep K H wx x) (ry:Rep K H wy y) (hS:RepS K H S) (h:oIn neg wx wy S QW) (hQ:Wish K H S QW Q) :
  (∃i j,x= .str i∧y= .str j∧Q (.bl (if neg then !(!(cR j i 0 j.length 1).isEmpty) else !(cR j i 0 j.length 1).isEmpty)) H)∨zzR K neg x y H Q:=by
 cases ry with
 |str j=>
  cases rx with
  |str i=>exact .inl ⟨i,j,rfl,rfl,hQ _ S _ H .refl (.bl _) hS h⟩
  |_=>exact h.elim
 |tup f hs=>
  refine .inr ?_;unfold oIn at h;dsimp only at h;split at h
  ·exact⟨wx,_,_,S,_,_,rfl, .inr (.of f),hs,rx,hS, ‹_›,hQ _ S _ H .refl (.bl _) hS h⟩
  ·exact h.elim
 |ref a=>
  refine .inr ?_;obtain⟨ws,e,h⟩:=zbl h;obtain⟨vs,f,hs⟩:=hS a _ e;split at h
  ·exact⟨wx,_,_,S,_,_,rfl, .inl (.of f),hs,rx,hS, ‹_›,hQ _ S _ H .refl (.bl _) hS h⟩
  ·exact h.elim
 |_=>exact h.elim
theorem zsy{k:Nat}(hr:Room k X.A) (ha:JE X a ta) (hb:JE X b tb) (hm:de .NotIn b=false:=by with_unfolding_all rfl):JT X (.Compare a [.NotIn] [b] pos) (wTb (wOp (oIn true) ta tb)):=
 zfo (op_notin_str.or (zqy (by have:=hr.units;omega))) (λH x y wx wy S Q QW rx ry hS h hQ=>znR rx ry hS h hQ) ha hb hm
end
noncomputable def oIx:W2:=λx y S Q=>match y with
 | .int i=>match x with
  | .tup ws=>match atI ws i with
   |some w=>Q w S
   |none=>False
  | .ref a=>zcu S a λws=>match atI ws i with
   |some w=>Q w S
   |none=>False
  | .scr ns=>match atI ns i with
   |some n=>Q (.int n) S
   |none=>False
  | .str x=>x.length≤sizeLine∧match atI x.cps.toList i with
   |some c=>Q (.str ⟨#[c]⟩) S
   |none=>False
  |_=>False
 |_=>False
theorem zle{K:aj}{H:Hp}{ws:List W}{vs:List V}{i:Int}{w:W}(r:Reps K H ws vs) (e:atI ws i=ae w):∃v,atI vs i=ae v∧Rep K H w v:=by
 unfold atI at e⊢;rw[←r.length];cases q:ixN ws.length i with
 |none=>rw[q]at e;cases e
 |some j=>rw[q]at e;exact r.get e
theorem ztA{α β:Type}{f:α→β}{xs:List α}{i:Int}{x:α}(e:atI xs i=ae x):atI (xs.map f) i=ae (f x):=by
 unfold atI at e⊢;rw[aq];cases q:ixN xs.length i with
 |none=>rw[q]at e;cases e
 |some j=>
  rw[q]at e;show(xs.map f)[j]? =_;rw[bq,show xs[j]? =ae x from e];rfl
theorem zvK{K:aj}:OpW K (rIx K) oIx:=λH x y wx wy S Q QW rx ry hS h hQ=>by
 cases ry with
 |int i=>
  cases rx with
  |tup f hs=>
   unfold oIx at h;dsimp only at h;split at h
   ·obtain⟨v,ev,r⟩:=zle hs ‹_›;exact .inr (.inl ⟨_,_,i,v,rfl,rfl, .of f,ev,hQ _ S _ H .refl r hS h⟩)
   ·exact h.elim
  |ref a=>
   obtain⟨ws,e,h⟩:=zbl h;obtain⟨vs,f,hs⟩:=hS a _ e;split at h
   ·obtain⟨v,ev,r⟩:=zle hs ‹_›;exact .inl ⟨_,_,i,v,rfl,rfl, .of f,ev,hQ _ S _ H .refl r hS h⟩
   ·exact h.elim
  |scr f=>
   unfold oIx at h;dsimp only at h;split at h
   ·exact .inl ⟨_,_,i,_,rfl,rfl,f.sq,ztA ‹_›,hQ _ S _ H .refl (.int _) hS h⟩
   ·exact h.elim
  |str z=>
   unfold oIx at h;dsimp only at h;obtain⟨hz,h⟩:=h;split at h
   ·exact .inr (.inr ⟨z,i,_,rfl,rfl,hz, ‹_›,hQ _ S _ H .refl (.str _) hS h⟩)
   ·exact h.elim
  |_=>exact h.elim
 |_=>exact h.elim
section
variable {X:Cx}{a b e:Expr}{pos p2:aC}{ta tb te:WE}{lo hi:Option Expr}
theorem zar (ha:JE X a ta) (hb:JE X b tb) (hs:zlR b:=by intro _ _;rfl):JE X (.Subscript a b pos) (wOp oIx ta tb):=λE hE=>
 (zwn ztq (ha E hE) (hb E hE) hs).mono λσ H Q h=>zgA h λH2 x y wx wy S QW rx ry hS q hQ=>zvK H2 x y wx wy S Q QW rx ry hS q hQ
abbrev WO:=WX→WSt→Sto→(Option Int→Sto→Prop)→Prop
noncomputable def zyJ (K:aj) (t:WSt→Sto→(Option Int→Sto→Prop)→Prop):TO:=λσ H Q=>∃σW S QW,RpSt K H σW σ∧RepS K H S∧t σW S QW∧ ∀b S' H',Ext H S H' S'→RepS K H' S'→QW b S'→Q b H'
def JO (X:Cx) (e:Option Expr) (t:WO):Prop:=∀E,Hook X E→PO X e (zyJ X.K (t E))
noncomputable def woN:WO:=λ_ _ S Q=>Q none S
noncomputable def woS (t:WE):WO:=λE σ S Q=>t E σ S λw S1=>match w with
 | .int i=>Q (ae i) S1
 |_=>False
theorem PO.mono{X:Cx}{e:Option Expr}{t t':TO}(h:PO X e t) (q:∀σ H Q,t' σ H Q→t σ H Q):PO X e t':=λpins s σ H Q I z=>h pins s σ H Q I (q σ H Q z)
theorem zaL:JO X none woN:=λE hE=>po_none.mono λσ H Q ⟨σW,S,QW,hσ,hS,ht,hQ⟩=>hQ none S H .refl hS ht
theorem zaH (h:JE X e te):JO X (ae e) (woS te):=λE hE=>(ztI (h E hE)).mono λσ H Q ⟨σW,S,QW,hσ,hS,ht,hQ⟩=>⟨σW,S,_,hσ,hS,ht,λw S1 v H1 e1 r1 hS1 h1=>by
 cases r1 with
 |int i=>exact⟨i,rfl,hQ _ S1 H1 e1 hS1 h1⟩
 |_=>exact h1.elim⟩
noncomputable def zeu {α:Type}(xs:List α) (lo hi:Option Int):List α:=(xs.drop (HT.sIx xs.length 0 lo)).take (HT.sIx xs.length xs.length hi - HT.sIx xs.length 0 lo)
theorem ziY{K:aj}{H:Hp}{ws:List W}{vs:List V}{lo hi:Option Int}(r:Reps K H ws vs):Reps K H (zeu ws lo hi) (zpV vs lo hi):=by
 unfold zeu zpV;rw[r.length];exact(r.drop _).take _
theorem zmu{α β:Type}{f:α→β}{xs:List α}{lo hi:Option Int}:zeu (xs.map f) lo hi=(zeu xs lo hi).map f:=by
 unfold zeu;rw[aq,kA,kz]
theorem zeO{prog:aE}{w:aB}{A:aN}{E:Value→ah→Prop}{s:ah}{t sl:Addr}{items:Array Value}{vl vu:Value}{lo hi:Option Int}{Q:Value→ah→Prop}(ht:eE s.heap t items) (hs:s.heap.IsSliceOf sl vl vu .none) (pl:cy vl lo) (pu:cy vu hi)
  (hw:HT.sIx items.size 0 lo=0∧HT.sIx items.size items.size hi=items.size) (h:Q (.ref t) s):am (ap prog w) A (du (.ref t) (.ref sl)) Q E s:=by
 obtain⟨os,hos,hcs,hds⟩:=id hs;have hTs:s.TypeIs (.ref sl) "slice" :=⟨os,hos,hcs⟩;unfold du
 try with_reducible refine fE ?_
 first |refine ak (aD ?_) |skip
 refine ak (iF ht.typeIs (by decide) ?_);refine ak (df (name:=bh "__getitem__") ht.typeIs d7
  (c8 d7 ht.typeIs jQ ?_ (jW _ _)))
 show am _ _ (j4 (.ref t) >>= _) _ _ s;refine ak (tupleItemsOf_ ht ?_);refine ak (eU hTs ?_);rw[if_pos (by decide)];refine ak (HT.sliceApplied_gen hs pl pu ?_);show am _ _ (if(((HT.sIx items.size 0 lo:Nat):Int) == 0&&(1:Int) == 1&&(HT.sIx items.size items.size hi - HT.sIx items.size 0 lo) == items.size)=true then _ else _) _ _ s;rw[hw.1,hw.2,if_pos (by simp)];unfold bU.Tuple.tupleIsExact;refine ak (ak (eU ht.typeIs (aD ?_)));rw[if_pos (by decide)];exact ak (eC (aD ⟨_,rfl,aD h⟩))
theorem sl_tupW:SlR X (λx lo hi H Q=>∃a xs,x= .ref a∧SqT X.K H a xs∧((HT.sIx xs.length 0 lo=0∧HT.sIx xs.length xs.length hi=xs.length)∧Q (.ref a) H∨ ¬(HT.sIx xs.length 0 lo=0∧HT.sIx xs.length xs.length hi=xs.length)∧ ∀p,H p=none→Q (.ref p) (upd H p (.tup (zpV xs lo hi))))):=by
 intro pins s σ H x v vl vu lo hi sl Q I rx hs pl pu h;obtain⟨a,xs,rfl,hx,⟨hw,q⟩ |⟨hw,q⟩⟩:=h
 ·cases rx;obtain⟨its,r,ht,hz⟩:=I.tuple hx;have hlen:its.toArray.size=xs.length:=by rw[aQ];exact r.length.symm
  refine⟨"tuple",_,d7.lookup,ht.typeIs,?_⟩;exact zeO ht hs pl pu (by rw[hlen];exact hw) ⟨.ref a,H,I,rfl,q⟩
 ·exact zwF pins s σ H _ v vl vu lo hi sl Q I rx hs pl pu ⟨a,xs,rfl,hx,hw,q⟩
noncomputable def oSl:W→Option Int→Option Int→Sto→WK→Prop
 | .tup ws,lo,hi,S,Q=>Q (.tup (zeu ws lo hi)) S
 | .str z,lo,hi,S,Q=>z.length≤sizeLine∧Q (.str (cu z lo hi)) S
 | .ref a,lo,hi,S,Q=>zcu S a λws=>∀p,S p=none→Q (.ref p) (put S p (.lst (zeu ws lo hi)))
 | .scr ns,lo,hi,S,Q=>∀p,S p=none→Q (.ref p) (put S p (.lst ((zeu ns lo hi).map W.int)))
 |_,_,_,_,_=>False
noncomputable def wSl (t:WE) (l h:WO):WE:=λE σ S Q=>t E σ S λx S1=>l E σ S1 λlo S2=>h E σ S2 λhi S3=>oSl x lo hi S3 Q
theorem znU{α:Type}{xs:List α}{lo hi:Option Int}(h:HT.sIx xs.length 0 lo=0∧HT.sIx xs.length xs.length hi=xs.length):zeu xs lo hi=xs:=by
 unfold zeu;rw[h.1,h.2,dc,eA,iw]
theorem zcT{tl th:WO}(he:JE X e te) (hl:JO X lo tl) (hh:JO X hi th):JE X (.Subscript e (.Slice lo hi none p2) pos) (wSl te tl th):=λE hE=>
 (zlX (sl_tupW.or (sl_str.or zoW)) (he E hE) (hl E hE) (hh E hE)).mono λσ H Q ⟨σW,S,QW,hσ,hS,ht,hQ⟩=>
  ⟨σW,S,_,hσ,hS,ht,λw S1 v H1 e1 r1 hS1 h1=>⟨σW,S1,_,hσ.ext e1,hS1,h1,λlo S2 H2 e2 hS2 h2=>⟨σW,S2,_,(hσ.ext e1).ext e2,hS2,h2,λhi S3 H3 e3 hS3 h3=>by
   have hQ':=hQ.from (e1.trans (e2.trans e3));have r3:=(r1.ext e2).ext e3;cases r3 with
   | @tup a vs ws f hs=>
    refine .inl ⟨a,vs,rfl, .of f,?_⟩;by_cases hw:HT.sIx vs.length 0 lo=0∧HT.sIx vs.length vs.length hi=vs.length
    ·refine .inl ⟨hw,hQ' (.tup ws) S3 _ H3 .refl (.tup f hs) hS3 ?_⟩;have:=znU (xs:=ws) (lo:=lo) (hi:=hi) (by rw[hs.length];exact hw);have h3':QW (.tup (zeu ws lo hi)) S3:=h3;rw[this]at h3';exact h3'
    ·exact .inr ⟨hw,λp hp=>hQ' _ S3 _ _ (.new hp) (.tup zay ((ziY hs).ext (.new (S:=S3) hp))) (hS3.new hp) h3⟩
   |str z=>exact .inr (.inl ⟨z,rfl,h3.1,hQ' _ S3 _ H3 .refl (.str _) hS3 h3.2⟩)
   |ref a=>
    obtain⟨ws,ea,h⟩:=zbl h3;obtain⟨vs,f,hs⟩:=hS3 a _ ea;exact .inr (.inr ⟨a,vs,rfl, .of f,λp hp=>hQ' _ _ _ _ (.newS hp) (.ref p) (hS3.put_lst hp ((ziY hs).ext (.new (S:=S3) hp))) (h p (hS3.free hp))⟩)
   | @scr a ns f=>
    refine .inr (.inr ⟨a,_,rfl,f.sq,λp hp=>hQ' _ _ _ _ (.newS hp) (.ref p) (hS3.put_lst hp ?_) (h3 p (hS3.free hp))⟩);have q:zpV (ns.map V.int) lo hi=(zeu ns lo hi).map V.int:=zmu;rw[q];exact Reps.ofInts _
   |_=>exact h3.elim⟩⟩⟩
noncomputable def zvy (t:WE) (l h:WO):WL:=λE σ S Q=>t E σ S λx S1=>l E σ S1 λlo S2=>h E σ S2 λhi S3=>match x with
 | .ref a=>zcu S3 a λws=>Q (zeu ws lo hi) S3
 | .scr ns=>Q ((zeu ns lo hi).map W.int) S3
 |_=>False
theorem ztT{tl th:WO}(he:JE X e te) (hl:JO X lo tl) (hh:JO X hi th):JL X (.Subscript e (.Slice lo hi none p2) pos) (zvy te tl th):=λE hE=>
 (zlX zoW (he E hE) (hl E hE) (hh E hE)).mono λσ H Q ⟨σW,S,QW,hσ,hS,ht,hQ⟩=>
  ⟨σW,S,_,hσ,hS,ht,λw S1 v H1 e1 r1 hS1 h1=>⟨σW,S1,_,hσ.ext e1,hS1,h1,λlo S2 H2 e2 hS2 h2=>⟨σW,S2,_,(hσ.ext e1).ext e2,hS2,h2,λhi S3 H3 e3 hS3 h3=>by
   have e':=e1.trans (e2.trans e3);have r3:=(r1.ext e2).ext e3;cases r3 with
   |ref a=>
    obtain⟨ws,ea,h⟩:=zbl h3;obtain⟨vs,f,hs⟩:=hS3 a _ ea;exact⟨a,vs,rfl, .of f,λp hp=>hQ _ S3 _ p _ (e'.trans (.new hp)) (e'.free hp) zay (hS3.free hp) ((ziY hs).ext (.new (S:=S3) hp)) (hS3.new hp) h⟩
   | @scr a ns f=>
    refine⟨a,_,rfl,f.sq,λp hp=>hQ _ S3 _ p _ (e'.trans (.new hp)) (e'.free hp) zay (hS3.free hp) ?_ (hS3.new hp) h3⟩;have q:zpV (ns.map V.int) lo hi=(zeu ns lo hi).map V.int:=zmu;rw[q];exact Reps.ofInts _
   |_=>exact h3.elim⟩⟩⟩
end
abbrev WF:=List W→Sto→WK→Prop
noncomputable def wB (f:WF) (t:WA):WE:=λE σ S Q=>t E σ S λws S1=>f ws S1 Q
def zlQ (K:aj) (r:List V→Hp→VK→Prop) (f:WF):Prop:=∀H vs ws S (Q:VK) (QW:WK),Reps K H ws vs→RepS K H S→f ws S QW→Wish K H S QW Q→r vs H Q
noncomputable def wBL (f:WF) (t:WL):WE:=λE σ S Q=>t E σ S λws S1=>f ws S1 Q
def zoP (K:aj) (r:List V→Hp→VK→Prop) (f:WF):Prop:=∀H a vs ws S (Q:VK) (QW:WK),H a=ae (.lst vs)→S a=none→Reps K H ws vs→RepS K H S→f ws S QW→Wish K H S QW Q→r [.ref a] H Q
section
variable {X:Cx}{x:Str}{p pos:aC}{e:Expr}{es:List Expr}{t:WA}{tl:WL}{id T:String}{r:List V→Hp→VK→Prop}{f:WF}
theorem zsL (hc:CallR X (.builtin id) r) (hw:zlQ X.K r f) (hg:Gl X x) (hm:X.mg x=none) (hv:bP x=ae (.builtin id)) (ha:JA X (e::es) t) (hn:x≠ "__name__" :=by decide) (hdb:(x == ("__debug__" :Str))=false:=by decide)
  (he:ao (e::es) X.env=(false,ay e X.env)::ao es X.env:=by rfl) (hpl:(aP pos (ao es X.env)).any (·.1)=false:=by rfl):JE X (.Call (.Name x p) (e::es) [] pos) (wB f t):=λE hE=>
 (ziO hc hg hm hv (ha E hE) hn hdb he hpl).mono λσ H Q ⟨σW,S,QW,hσ,hS,ht,hQ⟩=>⟨σW,S,_,hσ,hS,ht,λws S1 vs H1 e1 r1 hS1 h1=>hw H1 vs ws S1 Q QW r1 hS1 h1 (hQ.from e1)⟩
theorem zwq (hc:CallR X (.type T) r) (hw:zlQ X.K r f) (hg:Gl X x) (hm:X.mg x=none) (hv:bP x=ae (.type T)) (ha:JA X (e::es) t) (hn:x≠ "__name__" :=by decide) (hdb:(x == ("__debug__" :Str))=false:=by decide)
  (he:ao (e::es) X.env=(false,ay e X.env)::ao es X.env:=by rfl) (hpl:(aP pos (ao es X.env)).any (·.1)=false:=by rfl):JE X (.Call (.Name x p) (e::es) [] pos) (wB f t):=λE hE=>
 (zhj hc hg hm hv (ha E hE) hn hdb he hpl).mono λσ H Q ⟨σW,S,QW,hσ,hS,ht,hQ⟩=>⟨σW,S,_,hσ,hS,ht,λws S1 vs H1 e1 r1 hS1 h1=>hw H1 vs ws S1 Q QW r1 hS1 h1 (hQ.from e1)⟩
theorem zvs (hc:CallR X (.builtin id) r) (hw:zoP X.K r f) (hg:Gl X x) (hm:X.mg x=none) (hv:bP x=ae (.builtin id)) (ha:JL X e tl) (hn:x≠ "__name__" :=by decide) (hdb:(x == ("__debug__" :Str))=false:=by decide)
  (he:ao [e] X.env=(false,ay e X.env)::ao [] X.env:=by rfl) (hpl:(aP pos (ao [] X.env)).any (·.1)=false:=by rfl):JE X (.Call (.Name x p) [e] [] pos) (wBL f tl):=λE hE=>
 (ziO hc hg hm hv (zdz (ha E hE) pa_nil he) hn hdb he hpl).mono λσ H Q ⟨σW,S,QW,hσ,hS,ht,hQ⟩=>⟨σW,S,_,hσ,hS,ht,λws S1 vs a H1 e1 fa ea na r1 hS1 h1=>hw H1 a vs ws S1 Q QW ea na r1 hS1 h1 (hQ.from e1)⟩
theorem ztl (hc:CallR X (.type T) r) (hw:zoP X.K r f) (hg:Gl X x) (hm:X.mg x=none) (hv:bP x=ae (.type T)) (ha:JL X e tl) (hn:x≠ "__name__" :=by decide) (hdb:(x == ("__debug__" :Str))=false:=by decide)
  (he:ao [e] X.env=(false,ay e X.env)::ao [] X.env:=by rfl) (hpl:(aP pos (ao [] X.env)).any (·.1)=false:=by rfl):JE X (.Call (.Name x p) [e] [] pos) (wBL f tl):=λE hE=>
 (zhj hc hg hm hv (zdz (ha E hE) pa_nil he) hn hdb he hpl).mono λσ H Q ⟨σW,S,QW,hσ,hS,ht,hQ⟩=>⟨σW,S,_,hσ,hS,ht,λws S1 vs a H1 e1 fa ea na r1 hS1 h1=>hw H1 a vs ws S1 Q QW ea na r1 hS1 h1 (hQ.from e1)⟩
noncomputable def zem:WF:=λws S Q=>match ws with
 | [.tup us]=>Q (.int us.length) S
 | [.ref a]=>zcu S a λus=>Q (.int us.length) S
 | [.scr ns]=>Q (.int ns.length) S
 | [.str z]=>z.length≤sizeLine∧Q (.int z.length) S
 |_=>False
theorem zoR{K:aj}:zlQ K (λxs H Q=>(∃p ys,xs=[.ref p]∧(SqL K H p ys∨SqT K H p ys)∧Q (.int ys.length) H)∨ ∃z,xs=[.str z]∧z.length≤sizeLine∧Q (.int z.length) H) zem:=λH vs ws S Q QW r hS h hQ=>by
 cases r with
 |nil=>exact h.elim
 |cons r1 r2=>
  cases r2 with
  |cons _ _=>cases r1<;>exact h.elim
  |nil=>
   cases r1 with
   |tup f hs=>exact .inl ⟨_,_,rfl, .inr (.of f),by rw[←hs.length];exact hQ _ S _ H .refl (.int _) hS h⟩
   |ref a=>
    obtain⟨us,e,h⟩:=zbl h;obtain⟨vs,f,hs⟩:=hS a _ e;exact .inl ⟨_,_,rfl, .inl (.of f),by rw[←hs.length];exact hQ _ S _ H .refl (.int _) hS h⟩
   |scr f=>exact .inl ⟨_,_,rfl, .inl f.sq,by rw[aq];exact hQ _ S _ H .refl (.int _) hS h⟩
   |str z=>exact .inr ⟨z,rfl,h.1,hQ _ S _ H .refl (.int _) hS h.2⟩
   |_=>exact h.elim
theorem zbr (hg:Gl X "len") (hm:X.mg "len" =none) (ha:JA X (e::es) t) 
  (he:ao (e::es) X.env=(false,ay e X.env)::ao es X.env:=by rfl) (hpl:(aP pos (ao es X.env)).any (·.1)=false:=by rfl):JE X (.Call (.Name "len" p) (e::es) [] pos) (wB zem t):=
 zsL (call_len_seq.or zjY) zoR hg hm PySem.boot_len ha (by decide) (by decide) he hpl
noncomputable def zdo:WF:=λws S Q=>match ws with
 | [.tup us]=>Q (.tup us) S
 | [.ref a]=>zcu S a λus=>Q (.tup us) S
 |_=>False
theorem zlo{K:aj}:zlQ K (λxs H Q=>∃p ys,xs=[.ref p]∧((SqL K H p ys∧ ∀l,H l=none→Q (.ref l) (upd H l (.tup ys)))∨(SqT K H p ys∧Q (.ref p) H))) zdo:=λH vs ws S Q QW r hS h hQ=>by
 cases r with
 |nil=>exact h.elim
 |cons r1 r2=>
  cases r2 with
  |cons _ _=>cases r1<;>exact h.elim
  |nil=>
   cases r1 with
   |tup f hs=>exact⟨_,_,rfl, .inr ⟨.of f,hQ _ S _ H .refl (.tup f hs) hS h⟩⟩
   |ref a=>
    obtain⟨us,e,h⟩:=zbl h;obtain⟨vs,f,hs⟩:=hS a _ e;exact⟨_,_,rfl, .inl ⟨.of f,λl hl=>hQ _ S _ _ (.new hl) (.tup zay (hs.ext (.new (S:=S) hl))) (hS.new hl) h⟩⟩
   |_=>exact h.elim
noncomputable def zhq:WF:=λws S Q=>Q (.tup ws) S
theorem zls{K:aj}:zoP K (λxs H Q=>∃p ys,xs=[.ref p]∧((SqL K H p ys∧ ∀l,H l=none→Q (.ref l) (upd H l (.tup ys)))∨(SqT K H p ys∧Q (.ref p) H))) zhq:=λH a vs ws S Q QW ea na r hS h hQ=>
 ⟨a,vs,rfl, .inl ⟨.of ea,λl hl=>hQ _ S _ _ (.new hl) (.tup zay (r.ext (.new (S:=S) hl))) (hS.new hl) h⟩⟩
noncomputable def zhe (t:WE):WL:=λE σ S Q=>t E σ S λw S1=>match w with
 | .tup ws=>Q ws S1
 | .ref a=>zcu S1 a λws=>Q ws S1
 | .scr ns=>Q (ns.map W.int) S1
 |_=>False
theorem zkV{te:WE}(hg:Gl X "list") (hm:X.mg "list" =none) (ha:JE X e te)
  (he:ao [e] X.env=(false,ay e X.env)::ao [] X.env:=by rfl) (hpl:(aP pos (ao [] X.env)).any (·.1)=false:=by rfl):JL X (.Call (.Name "list" p) [e] [] pos) (zhe te):=λE hE=>
 (zhj zkq hg hm i3 (zdz (ha E hE) pa_nil he) (by decide) (by decide) he hpl).mono λσ H Q ⟨σW,S,QW,hσ,hS,ht,hQ⟩=>⟨σW,S,_,hσ,hS,ht,λw S1 v H1 e1 r1 hS1 h1=>by
  cases r1 with
  |tup f hs=>exact⟨_,_,rfl, .inr (.of f),λl hl=>hQ _ S1 _ l _ (e1.trans (.new hl)) (e1.free hl) zay (hS1.free hl) (hs.ext (.new (S:=S1) hl)) (hS1.new hl) h1⟩
  |ref a=>
   obtain⟨ws,ea,h⟩:=zbl h1;obtain⟨vs,f,hs⟩:=hS1 a _ ea;exact⟨_,_,rfl, .inl (.of f),λl hl=>hQ _ S1 _ l _ (e1.trans (.new hl)) (e1.free hl) zay (hS1.free hl) (hs.ext (.new (S:=S1) hl)) (hS1.new hl) h⟩
  |scr f=>exact⟨_,_,rfl, .inl f.sq,λl hl=>hQ _ S1 _ l _ (e1.trans (.new hl)) (e1.free hl) zay (hS1.free hl) (Reps.ofInts _) (hS1.new hl) h1⟩
  |_=>exact h1.elim⟩
noncomputable def tyW:W→Sto→(String→Prop)→Prop
 | .non,_,Q=>Q "NoneType"
 | .bl _,_,Q=>Q "bool"
 | .int _,_,Q=>Q "int"
 | .str _,_,Q=>Q "str"
 | .tup _,_,Q=>Q "tuple"
 | .ref a,S,Q=>zcu S a λ_=>Q "list"
 | .scr _,_,_=>False
noncomputable def zcd (A B:String):Bool:=A == B || (A == "bool" &&B == "int")
noncomputable def zoh (T:String) (t:WE):WE:=λE σ S Q=>t E σ S λw S1=>tyW w S1 λA=>Q (.bl (zcd A T)) S1
theorem zez{a:Expr}{ta:WE}{p2:aC}{T:Str}{T':String}(hg:Gl X "isinstance") (hm:X.mg "isinstance" =none) (hgT:Gl X T) (hmT:X.mg T=none) (hv:bP T=ae (.type T')) (ha:JE X a ta) (hn:T≠ "__name__") (hd:(T == ("__debug__" :Str))=false)
  (hk:∀A∈ ["NoneType", "bool", "int", "str", "tuple", "list"],eX X.K (.type A) (.type T')=ae (zcd A T'))
  (he:ao [a, .Name T p2] X.env=(false,ay a X.env)::ao [.Name T p2] X.env:=by rfl) (he2:ao [.Name T p2] X.env=(false,ay (.Name T p2) X.env)::ao [] X.env:=by rfl) (hpl:(aP pos (ao [.Name T p2] X.env)).any (·.1)=false:=by rfl) :
  JE X (.Call (.Name "isinstance" p) [a, .Name T p2] [] pos) (zoh T' ta):=λE hE=>
 (ziO zsj hg hm PyProof.Rows.boot_isinstance (zdz (ha E hE) (zdz (zuO (v:= .ty T') hgT hmT hv rfl hn hd) pa_nil he2) he) (by decide) (by decide) he hpl).mono λσ H Q ⟨σW,S,QW,hσ,hS,ht,hQ⟩=>⟨σW,S,_,hσ,hS,ht,λw S1 v H1 e1 r1 hS1 h1=>by
  have fin:∀{t:Value}(A:String),t= .type A→A∈ ["NoneType", "bool", "int", "str", "tuple", "list"]→TyOf X.K H1 v t→QW (.bl (zcd A T')) S1→ ∃x t c b,[v,V.ty T']=[x, .ty c]∧TyOf X.K H1 x t∧eX X.K t (.type c)=ae b∧Q (.bl b) H1:=λA e hA ty q=>by
   subst e;exact⟨v,_,T',_,rfl,ty,hk A hA,hQ _ S1 _ H1 e1 (.bl _) hS1 q⟩
  cases r1 with
  |non=>exact fin _ rfl (by simp) .non h1
  |bl b=>exact fin _ rfl (by simp) (.bl b) h1
  |int i=>exact fin _ rfl (by simp) (.int i) h1
  |str z=>exact fin _ rfl (by simp) (.str z) h1
  |tup f hs=>exact fin _ rfl (by simp) (.tup f) h1
  |ref a=>
   obtain⟨ws,ea,h⟩:=zbl h1;obtain⟨vs,f,hs⟩:=hS1 a _ ea;exact fin _ rfl (by simp) (.lst f) h
  |scr f=>exact h1.elim⟩
end
abbrev WMf:=W→List W→Sto→WK→Prop
noncomputable def rvL:W→Sto→Prop
 | .ref a,S=>zcu S a λ_=>True
 |_,_=>False
noncomputable def rvS:W→Sto→Prop
 | .str _,_=>True
 |_,_=>False
noncomputable def wM (rv:W→Sto→Prop) (f:WMf) (to:WE) (t:WA):WE:=λE σ S Q=>to E σ S λw S1=>rv w S1∧t E σ S1 λws S2=>f w ws S2 Q
noncomputable def wML (rv:W→Sto→Prop) (f:WMf) (to:WE) (t:WL):WE:=λE σ S Q=>to E σ S λw S1=>rv w S1∧t E σ S1 λws S2=>f w ws S2 Q
def MtW (K:aj) (r:V→List V→Hp→VK→Prop) (f:WMf):Prop:=∀H x w vs ws S (Q:VK) (QW:WK),Rep K H w x→Reps K H ws vs→RepS K H S→f w ws S QW→Wish K H S QW Q→r x vs H Q
def MtL (K:aj) (r:V→List V→Hp→VK→Prop) (f:WMf):Prop:=∀H x w a vs ws S (Q:VK) (QW:WK),Rep K H w x→H a=ae (.lst vs)→S a=none→Reps K H ws vs→RepS K H S→f w ws S QW→Wish K H S QW Q→r x [.ref a] H Q
def zxO (K:aj) (T:String) (rv:W→Sto→Prop):Prop:=∀H w v S,Rep K H w v→RepS K H S→rv w S→tyV K T v H
theorem zth{K:aj}:zxO K "list" rvL:=λH w v S r hS h=>by
 cases r with
 |ref a=>
  obtain⟨ws,e,_⟩:=zbl h;obtain⟨vs,f,_⟩:=hS a _ e;exact .inl ⟨rfl,vs, .of f⟩
 |_=>exact h.elim
theorem zsG{K:aj}:zxO K "str" rvS:=λH w v S r hS h=>by
 cases r with
 |str x=>exact rfl
 |_=>exact h.elim
section
variable {X:Cx}{o e:Expr}{es:List Expr}{to:WE}{t:WA}{tl:WL}{name:Str}{apos cpos:aC}{id T:String}{r:V→List V→Hp→VK→Prop}{f:WMf}{rv:W→Sto→Prop}
theorem zzN (pa:eR T) (slot:Slot T name id) (hty:eI (.builtin id)=pure (.type "method_descriptor")) (hrv:zxO X.K T rv) (hm:MtR X id r) (hw:MtW X.K r f) (ho:JE X o to) (ha:JA X (e::es) t)
  (hbase:cw o name X.env (ay o X.env)=ay o X.env:=by rfl)
  (hfew:((aP cpos (ao (e::es) X.env)).all (λx=> !x.1)&&(dM cpos (dm [] X.env)).all (λx=>x.1.isSome)
   &&decide ((e::es).length+([]:List bQ).length+(if([]:List bQ).isEmpty then 0 else 1)<30))=true:=by rfl)
  (hline:(apos.endLine == cpos.line)=true:=by rfl) (hs:ao (e::es) X.env=(false,ay e X.env)::ao es X.env:=by rfl) (hplain:(aP cpos (ao es X.env)).any (·.1)=false:=by rfl) :
  JE X (.Call (.Attribute o name apos) (e::es) [] cpos) (wM rv f to t):=λE hE=>
 (zwC pa slot hty hm (ho E hE) (ha E hE) hbase hfew hline hs hplain).mono λσ H Q ⟨σW,S,QW,hσ,hS,ht,hQ⟩=>⟨σW,S,_,hσ,hS,ht,λw S1 v H1 e1 r1 hS1 h1=>
  ⟨hrv H1 w v S1 r1 hS1 h1.1,σW,S1,_,hσ.ext e1,hS1,h1.2,λws S2 vs H2 e2 r2 hS2 h2=>hw H2 v w vs ws S2 Q QW (r1.ext e2) r2 hS2 h2 (hQ.from (e1.trans e2))⟩⟩
theorem zzo (pa:eR T) (slot:Slot T name id) (hty:eI (.builtin id)=pure (.type "method_descriptor")) (hrv:zxO X.K T rv) (hm:MtR X id r) (hw:MtL X.K r f) (ho:JE X o to) (ha:JL X e tl)
  (hbase:cw o name X.env (ay o X.env)=ay o X.env:=by rfl)
  (hfew:((aP cpos (ao [e] X.env)).all (λx=> !x.1)&&(dM cpos (dm [] X.env)).all (λx=>x.1.isSome)
   &&decide ([e].length+([]:List bQ).length+(if([]:List bQ).isEmpty then 0 else 1)<30))=true:=by rfl)
  (hline:(apos.endLine == cpos.line)=true:=by rfl) (hs:ao [e] X.env=(false,ay e X.env)::ao [] X.env:=by rfl) (hplain:(aP cpos (ao [] X.env)).any (·.1)=false:=by rfl) :
  JE X (.Call (.Attribute o name apos) [e] [] cpos) (wML rv f to tl):=λE hE=>
 (zwC pa slot hty hm (ho E hE) (zdz (ha E hE) pa_nil hs) hbase hfew hline hs hplain).mono λσ H Q ⟨σW,S,QW,hσ,hS,ht,hQ⟩=>⟨σW,S,_,hσ,hS,ht,λw S1 v H1 e1 r1 hS1 h1=>
  ⟨hrv H1 w v S1 r1 hS1 h1.1,σW,S1,_,hσ.ext e1,hS1,h1.2,λws S2 vs a H2 e2 fa ea na r2 hS2 h2=>hw H2 v w a vs ws S2 Q QW (r1.ext e2) ea na r2 hS2 h2 (hQ.from (e1.trans e2))⟩⟩
theorem zzE (pa:eR T) (slot:Slot T name id) (hty:eI (.builtin id)=pure (.type "method_descriptor")) (hrv:zxO X.K T rv) (hm:MtR X id r) (hw:MtW X.K r f) (ho:JE X o to)
  (hbase:cw o name X.env (ay o X.env)=ay o X.env:=by rfl) (hline:(apos.endLine == cpos.line)=true:=by rfl):JE X (.Call (.Attribute o name apos) [] [] cpos) (wM rv f to waNil):=λE hE=>
 (zxA pa slot hty hm (ho E hE) hbase hline).mono λσ H Q ⟨σW,S,QW,hσ,hS,ht,hQ⟩=>⟨σW,S,_,hσ,hS,ht,λw S1 v H1 e1 r1 hS1 h1=>
  ⟨hrv H1 w v S1 r1 hS1 h1.1,hw H1 v w [] [] S1 Q QW r1 .nil hS1 h1.2 (hQ.from e1)⟩⟩
noncomputable def zbZ:WMf:=λw ws S Q=>match w with
 | .ref a=>zcu S a λxs=>match ws with
  | [y]=>xs.length<sizeLine∧Q .non (put S a (.lst (xs++[y])))
  |_=>False
 |_=>False
theorem znQ{K:aj}:MtW K zoy zbZ:=λH x w vs ws S Q QW r rs hS h hQ=>by
 cases r with
 |ref a=>
  obtain⟨xs,ea,h⟩:=zbl h;obtain⟨us,f,hs⟩:=hS a _ ea;cases rs with
  |nil=>exact h.elim
  |cons r1 r2=>
   cases r2 with
   |cons _ _=>exact h.elim
   |nil=>
    obtain⟨e,hS'⟩:=hS.set_lst ea (hs.append (.one r1));exact⟨a,us,_,rfl,rfl,f,by rw[←hs.length];exact h.1,hQ _ _ _ _ e .non hS' h.2⟩
 |_=>exact h.elim
theorem zbt (ho:JE X o to) (ha:JA X (e::es) t)
  (hbase:cw o "append" X.env (ay o X.env)=ay o X.env:=by rfl)
  (hfew:((aP cpos (ao (e::es) X.env)).all (λx=> !x.1)&&(dM cpos (dm [] X.env)).all (λx=>x.1.isSome)
   &&decide ((e::es).length+([]:List bQ).length+(if([]:List bQ).isEmpty then 0 else 1)<30))=true:=by rfl)
  (hline:(apos.endLine == cpos.line)=true:=by rfl) (hs:ao (e::es) X.env=(false,ay e X.env)::ao es X.env:=by rfl) (hplain:(aP cpos (ao es X.env)).any (·.1)=false:=by rfl) :
  JE X (.Call (.Attribute o "append" apos) (e::es) [] cpos) (wM rvL zbZ to t):=zzN i5 PySem.F.slot_list_append PySem.F.type_list_append zth zkP znQ ho ha hbase hfew hline hs hplain
noncomputable def zAJ:WMf:=λw ws S Q=>match w with
 | .ref a=>zcu S a λxs=>match ws with
  | []=>match xs[xs.length - 1]? with
   |some y=>Q y (put S a (.lst xs.dropLast))
   |none=>False
  |_=>False
 |_=>False
noncomputable def zhp:WMf:=λw ws S Q=>match w with
 | .ref a=>zcu S a λxs=>match ws with
  | [.tup ys]=>xs.length+ys.length≤sizeLine∧Q .non (put S a (.lst (xs++ys)))
  | [.ref b]=>zcu S b λys=>xs.length+ys.length≤sizeLine∧Q .non (put S a (.lst (xs++ys)))
  |_=>False
 |_=>False
theorem znD{K:aj}:MtW K (λx vs H Q=>zqf x vs H Q∨zmU K x vs H Q) zhp:=λH x w vs ws S Q QW r rs hS h hQ=>by
 cases r with
 |ref a=>
  obtain⟨xs,ea,h⟩:=zbl h;obtain⟨us,f,hs⟩:=hS a _ ea;cases rs with
  |nil=>exact h.elim
  |cons r1 r2=>
   cases r2 with
   |cons _ _=>cases r1<;>exact h.elim
   |nil=>
    cases r1 with
    |tup g ks=>
     obtain⟨e,hS'⟩:=hS.set_lst ea (hs.append ks);exact .inr ⟨a,_,us,_,rfl,rfl,f, .of g,by rw[←hs.length,←ks.length];exact h.1,hQ _ _ _ _ e .non hS' h.2⟩
    |ref b=>
     obtain⟨ys,eb,h⟩:=zbl h;obtain⟨zs,g,ks⟩:=hS b _ eb;obtain⟨e,hS'⟩:=hS.set_lst ea (hs.append ks);exact .inl ⟨a,b,us,zs,rfl,rfl,f,g,by rw[←hs.length,←ks.length];exact h.1,hQ _ _ _ _ e .non hS' h.2⟩
    |_=>exact h.elim
 |_=>exact h.elim
theorem zqE (ho:JE X o to) (ha:JA X (e::es) t)
  (hbase:cw o "extend" X.env (ay o X.env)=ay o X.env:=by rfl)
  (hfew:((aP cpos (ao (e::es) X.env)).all (λx=> !x.1)&&(dM cpos (dm [] X.env)).all (λx=>x.1.isSome)
   &&decide ((e::es).length+([]:List bQ).length+(if([]:List bQ).isEmpty then 0 else 1)<30))=true:=by rfl)
  (hline:(apos.endLine == cpos.line)=true:=by rfl) (hs:ao (e::es) X.env=(false,ay e X.env)::ao es X.env:=by rfl) (hplain:(aP cpos (ao es X.env)).any (·.1)=false:=by rfl) :
  JE X (.Call (.Attribute o "extend" apos) (e::es) [] cpos) (wM rvL zhp to t):=zzN i5 PySem.F.slot_list_extend PySem.F.type_list_extend zth (MtR.or zoK znT) znD ho ha hbase hfew hline hs hplain
noncomputable def zrJ:WMf:=λw ws S Q=>match w with
 | .ref a=>zcu S a λxs=>xs.length+ws.length≤sizeLine∧Q .non (put S a (.lst (xs++ws)))
 |_=>False
noncomputable def zgl:List W→Option (List Str)
 | []=>ae []
 | .str b::ws=>(zgl ws).map (b:: ·)
 |_=>none
theorem zmI{K:aj}{H:Hp}:∀{ws:List W}{vs:List V}{bs:List Str},Reps K H ws vs→zgl ws=ae bs→vs=bs.map V.str
 | [],_,_, .nil,e=>by have:=aG e;subst this;rfl
 |w::ws,_,_, .cons r rs,e=>by
  cases r with
  |str b=>
   have e':(zgl ws).map (b:: ·)=ae _:=e;cases q:zgl ws with
   |none=>rw[q]at e';cases e'
   |some cs=>
    rw[q]at e';have:=aG e';subst this;rw[aA,zmI rs q]
  |_=>cases e
noncomputable def zjW:WMf:=λw ws S Q=>match w with
 | .str z=>match zgl ws with
  |some ys=>(ys.map (·.length)).sum+ys.length*z.length≤16777216∧Q (.str (cN z ys)) S
  |none=>False
 |_=>False
theorem zre{K:aj}:MtL K (zxd K) zjW:=λH x w a vs ws S Q QW r ea na rs hS h hQ=>by
 cases r with
 |str z=>
  unfold zjW at h;dsimp only at h;split at h
  ·rename_i ys e;have:=zmI rs e;subst this;exact⟨z,a,ys,rfl,rfl, .of ea,h.1,hQ _ S _ H .refl (.str _) hS h.2⟩
  ·exact h.elim
 |_=>exact h.elim
theorem zrW (ho:JE X o to) (ha:JL X e tl)
  (hbase:cw o "join" X.env (ay o X.env)=ay o X.env:=by rfl)
  (hfew:((aP cpos (ao [e] X.env)).all (λx=> !x.1)&&(dM cpos (dm [] X.env)).all (λx=>x.1.isSome)
   &&decide ([e].length+([]:List bQ).length+(if([]:List bQ).isEmpty then 0 else 1)<30))=true:=by rfl)
  (hline:(apos.endLine == cpos.line)=true:=by rfl) (hs:ao [e] X.env=(false,ay e X.env)::ao [] X.env:=by rfl) (hplain:(aP cpos (ao [] X.env)).any (·.1)=false:=by rfl) :
  JE X (.Call (.Attribute o "join" apos) [e] [] cpos) (wML rvS zjW to tl):=zzo jZ PySem.F.slot_str_join PySem.F.type_str_join zsG ztB zre ho ha hbase hfew hline hs hplain
noncomputable def zwd:WMf:=λw ws S Q=>match w with
 | .str z=>match ws with
  | [.str y]=>match cR z y 0 z.length 1 with
   |i::_=>Q (.int i) S
   | []=>False
  |_=>False
 |_=>False
end
noncomputable def zxc (i:Nat) (g:Int→Int→Int) (e:WE):WS:=λE D σ S=>match σ[i]? with
 |some (ae (.int a))=>e E σ S λw S1=>match w with
  | .int b=>D.nx (σ.set i (ae (.int (g a b)))) S1
  |_=>False
 |_=>False
section
variable {X:Cx}{e:Expr}{te:WE}{pos pos':aC}
theorem zsS{i:Nat}{x:Str}(hN:X.N.Nodup) (hi:X.N[i]? =ae x) (hx:Loc X.env.scope x) (he:JE X e te) (hf:X.fn x=true∨X.env.scope.names.lookup x=ae .local:=by first |exact .inl rfl |exact .inr rfl |assumption) :
  JS X (.AugAssign (.Name x pos') .Add e pos) (zxc i (λa b=>a+b) te):=λE hE=>
 (zwK hN hi hx (he E hE) zxS hf).mono λD σ H ⟨σW,S,DW,hσ,hS,ht,hD⟩=>by
  unfold zxc at ht;split at ht
  ·rename_i a ea;obtain⟨v,ev,rv⟩:=hσ.get ea;cases rv;refine⟨_,ev,σW,S,_,hσ,hS,ht,λw S1 v H1 e1 r1 hS1 h1=>?_⟩;cases r1 with
   |int b=>exact⟨a,b,rfl,rfl,hD.nx _ S1 _ H1 e1 ((hσ.ext e1).set (.int _) i) hS1 h1⟩
   |_=>exact h1.elim
  ·exact ht.elim
end
noncomputable def zpi (c:WT) (b:WS):WS:=λE D σ S=>∃I:Nat→WSt→Sto→Prop,(∃m,I m σ S)∧ ∀m σ S,I m σ S→c E σ S λk S1=>if k=true then
 b E { D with nx:=λσ' S'=>∃m' S'',m'<m∧Sub S'' S'∧I m' σ' S'',ct:=λσ' S'=>∃m' S'',m'<m∧Sub S'' S'∧I m' σ' S'',bk:=D.nx } σ S1 else D.nx σ S1
section
variable {X:Cx}{c:Expr}{body:List Stmt}{tc:WT}{tb:WS}{pos:aC}
theorem zmG (hc:JT X c tc) (hb:JSs X body tb):JS X (.While c body [] pos) (zpi tc tb):=λE hE=>
 (zsm hE.own (hc E hE) (hb E hE)).mono λD σ H ⟨σW,S,DW,hσ,hS,⟨J,⟨n,ht⟩,step⟩,hD⟩=>by
  refine⟨λm σ1 H1=>∃σW1 S1,Ext H S H1 S1∧RpSt X.K H1 σW1 σ1∧RepS X.K H1 S1∧J m σW1 S1,⟨n,σW,S, .refl,hσ,hS,ht⟩,?_⟩;rintro m σ1 H1 ⟨σW1,S1,e1,hσ1,hS1,h1⟩;refine⟨σW1,S1,_,hσ1,hS1,step m σW1 S1 h1,λk S2 H2 e2 hS2 h2=>?_⟩;cases k with
  |false=>exact hD.nx σW1 S2 σ1 H2 (e1.trans e2) (hσ1.ext e2) hS2 h2
  |true=>
   rw[if_pos rfl]at h2⊢;refine⟨λσ' H'=>∃m',m'<m∧ ∃σW1 S1,Ext H S H' S1∧RpSt X.K H' σW1 σ'∧RepS X.K H' S1∧J m' σW1 S1,λσ' H' n'=>n',σW1,S2,_,hσ1.ext e2,hS2,h2,?_⟩;have e12:=e1.trans e2;have go:Goes X.K H2 S2 (λσ' S'=>∃m' S'',m'<m∧Sub S'' S'∧J m' σ' S'') (λσ' H'=>∃m',m'<m∧ ∃σW1 S1,Ext H S H' S1∧RpSt X.K H' σW1 σ'∧RepS X.K H' S1∧J m' σW1 S1):=λσW3 S3 σ3 H3 e3 hσ3 hS3 ⟨m',S4,hm,sb,q⟩=>
    ⟨m',hm,σW3,S4,(e12.trans e3).trans (.drop sb),hσ3,hS3.sub sb,q⟩
   exact⟨go,hD.rt.from e12,hD.nx.from e12,go⟩
end
noncomputable def forL (g:WG) (b:WS) (E:WX) (D:WEnds) (G:Sto→Prop):List W→WSt→Sto→Prop
 | [],σ,S=>D.nx σ S
 |w::ws,σ,S=>g w σ S λσ1 S1=>b E { D with nx:=λσ' S'=>∃S'',Sub S'' S'∧G S''∧forL g b E D G ws σ' S'',ct:=λσ' S'=>∃S'',Sub S'' S'∧G S''∧forL g b E D G ws σ' S'',bk:=D.nx } σ1 S1
noncomputable def zgq (q:WI) (g:WG) (b:WS):WS:=λE D σ S=>q E σ S λws G S1=>forL g b E D G ws σ S1
section
variable {X:Cx}{tg iter:Expr}{body:List Stmt}{q:WI}{g:WG}{tb:WS}{pos:aC}
theorem zbB (hi:JI X tg iter q) (hg:JG X tg g) (hb:JSs X body tb) (hcl:X.calm=true:=by rfl)
  (hs:∀x,dL iter X.env x=pure x:=by intro _;rfl):JS X (.For tg iter body [] pos) (zgq q g tb):=λE hE=>
 (zxB hE.own hcl (hi E hE) (hg E hE) (hb E hE) hs).mono λD σ H ⟨σW,S,DW,hσ,hS,ht,hD⟩=>by
  refine⟨σW,S,_,hσ,hS,ht,λws G S1 J H1 e1 hS1 hG1 hJ h1=>?_⟩;refine⟨λi m σ2 H2=>∃σW2 S2,Ext H1 S1 H2 S2∧RpSt X.K H2 σW2 σ2∧RepS X.K H2 S2∧G S2∧m=ws.length - i∧i≤ws.length∧forL g tb E DW G (ws.drop i) σW2 S2,
   ⟨ws.length,σW,S1, .refl,hσ.ext e1,hS1,hG1,rfl,aY _,h1⟩,?_⟩
  rintro i m σ2 H2 ⟨σW2,S2,e2,hσ2,hS2,hG2,rfl,hi2,h2⟩;obtain⟨ji,js⟩:=hJ i S2 H2 e2 hS2 hG2;by_cases hlt:i<ws.length
  ·obtain⟨jgo,jy⟩:=ji ws[i] (a9 hlt);refine .inr ⟨jgo,λσ' H'=>∃σW2 S2,Ext H1 S1 H' S2∧RpSt X.K H' σW2 σ'∧RepS X.K H' S2∧G S2∧ws.length - (i+1)=ws.length - (i+1)∧i+1≤ws.length∧forL g tb E DW G (ws.drop (i+1)) σW2 S2,λσ' H' z=>⟨_,by omega,z⟩,λx H3 y3=>?_⟩
   obtain⟨e3,hS3,r3⟩:=jy x H3 y3;rw[eP hlt]at h2;refine⟨_,σW2,S2,_,r3,hσ2.ext e3,hS3,h2,λσW4 S4 σ4 H4 e4 hσ4 hS4 h4=>?_⟩;have e14:Ext H1 S1 H4 S4:=(e2.trans e3).trans e4;refine⟨σW4,S4,_,hσ4,hS4,h4,?_⟩;have go:Goes X.K H4 S4 (λσ' S'=>∃S'',Sub S'' S'∧G S''∧forL g tb E DW G (ws.drop (i+1)) σ' S'') (λσ' H'=>∃σW2 S2,Ext H1 S1 H' S2∧RpSt X.K H' σW2 σ'∧RepS X.K H' S2∧G S2∧ws.length - (i+1)=ws.length - (i+1)∧i+1≤ws.length∧forL g tb E DW G (ws.drop (i+1)) σW2 S2):=
    λσW5 S5 σ5 H5 e5 hσ5 hS5 ⟨S6,sb,hG6,q⟩=>⟨σW5,S6,(e14.trans e5).trans (.drop sb),hσ5,hS5.sub sb,hG6,rfl,hlt,q⟩
   exact⟨go,hD.rt.from (e1.trans e14),hD.nx.from (e1.trans e14),go⟩
  ·have hl:i=ws.length:=by omega
   rw[eM (fh hl.symm)]at h2;exact .inl ⟨js hl,hD.nx σW2 S2 σ2 H2 (e1.trans e2) hσ2 hS2 h2⟩
end
section
variable {X:Cx}{tg:Expr}
noncomputable def zzV (K:aj) (tl:TE):TI:=λσ H R=>tl σ H λx H1=>(∃a,x= .ref a∧(∃xs,SqL K H1 a xs)∧R (Itl K a) H1)∨(∃a,x= .ref a∧(∃xs,SqT K H1 a xs)∧R (Itt K a) H1)∨ ∃z,x= .str z∧R (Its z) H1
theorem zvO{l:Expr}{tl:TE}(hl:PE X l tl):PI X tg l (zzV X.K tl):=by
 intro pins s σ H R I h;refine thn (hl pins s σ H _ I h) λv s1 ⟨x,H1,I1,r1,q1⟩=>?_;have fp:∀b∈ [s1.heap.objs.size],zjh X pins H1 b:=λb hb=>by
  have e:b=s1.heap.objs.size:=by simpa using hb
  subst e;exact I1.fpOk (au _) (I1.hok.fresh (au _))
 rcases q1 with⟨a,e,⟨xs,hq⟩,q⟩ |⟨a,e,⟨xs,hq⟩,q⟩ |⟨z,e,q⟩
 ·subst e;cases r1;obtain⟨its,rv,p,hz⟩:=I1.list hq;refine f9 p.isList ?_;exact⟨s1.heap.objs.size,[s1.heap.objs.size],_,_,H1,rfl,I1.kept (t':=s1.toks) λb o e=>aH _ e,zoL a _,⟨_,bi _ rfl,rfl,rfl⟩,fp,q⟩
 ·subst e;cases r1;obtain⟨its,rv,p,hz⟩:=I1.tuple hq;refine jh (show s1.heap.IsTuple a its.toArray from p) ?_;exact⟨s1.heap.objs.size,[s1.heap.objs.size],_,_,H1,rfl,I1.kept (t':=s1.toks) λb o e=>aH _ e,znt a _,⟨_,bi _ rfl,rfl,rfl⟩,fp,q⟩
 ·subst e;obtain⟨t,rfl⟩:=r1;cases ha:z.cps.all (· <128)
  ·refine wpAny_pyIter_wide ha ?_;exact⟨s1.heap.objs.size,[s1.heap.objs.size],_,_,H1,rfl,I1.kept (t':=s1.toks) λb o e=>aH _ e,
    zmX _ z t "str_iterator" (by decide) (λA' hA=>dS.strWide hA _ z t) (λ_ _ _ _ _ st h=>wpAny_pyIter_striter_wide st h),⟨_,bi _ rfl,rfl,rfl⟩,fp,q⟩
  ·refine wpAny_pyIter_ascii ha ?_;exact⟨s1.heap.objs.size,[s1.heap.objs.size],_,_,H1,rfl,I1.kept (t':=s1.toks) λb o e=>aH _ e,
    zmX _ z t "str_ascii_iterator" (by decide) (λA' hA=>dS.strAscii hA _ z t) (λ_ _ _ _ _ st h=>wpAny_pyIter_striter_ascii st h),⟨_,bi _ rfl,rfl,rfl⟩,fp,q⟩
noncomputable def zlE (z:Str):List W:=z.cps.toList.map λc=> .str ⟨#[c]⟩
noncomputable def wIv (t:WE):WI:=λE σ S Q=>t E σ S λw S1=>match w with
 | .tup ws=>Q ws (λ_=>True) S1
 | .ref a=>zcu S1 a λws=>Q ws (λS'=>S' a=ae (.lst ws)) S1
 | .scr ns=>Q (ns.map W.int) (λ_=>True) S1
 | .str z=>Q (zlE z) (λ_=>True) S1
 |_=>False
theorem zqI{K:aj}{a:Addr}{ws:List W}{G:Sto→Prop}{H0:Hp}{S0:Sto}(h:∀S H,Ext H0 S0 H S→RepS K H S→G S→ ∃vs,SqL K H a vs∧Reps K H ws vs):ItW K (Itl K a) ws G H0 S0:=λi S H e hS hG=>by
 obtain⟨vs,hq,r⟩:=h S H e hS hG;refine⟨λw ew=>?_,λhl=>⟨vs,hq,by rw[←r.length,hl];exact au _⟩⟩
 obtain⟨v,ev,rv⟩:=r.get ew;refine⟨⟨vs,v,hq,ev⟩,λx H' ⟨e1,e2⟩=>?_⟩;subst e1;have e3:=e2 vs hq;rw[ev]at e3;cases e3;exact⟨.refl,hS,rv⟩
theorem zwN{K:aj}{a:Addr}{ws:List W}{vs:List V}{H0:Hp}{S0:Sto}(f:H0 a=ae (.tup vs)) (r:Reps K H0 ws vs):ItW K (Itt K a) ws (λ_=>True) H0 S0:=λi S H e hS hG=>by
 have f':=e.tup _ _ f;have r':=r.ext e;refine⟨λw ew=>?_,λhl=>⟨vs, .of f',by rw[←r'.length,hl];exact au _⟩⟩
 obtain⟨v,ev,rv⟩:=r'.get ew;refine⟨⟨vs,v, .of f',ev⟩,λx H' ⟨e1,e2⟩=>?_⟩;subst e1;have e3:=e2 vs (.of f');rw[ev]at e3;cases e3;exact⟨.refl,hS,rv⟩
theorem zwG{K:aj}{z:Str}{H0:Hp}{S0:Sto}:ItW K (Its z) (zlE z) (λ_=>True) H0 S0:=λi S H e hS hG=>by
 unfold zlE;refine⟨λw ew=>?_,λhl=>?_⟩
 ·rw[bq]at ew;cases ec:z.cps.toList[i]? with
  |none=>rw[ec]at ew;cases ew
  |some c=>
   rw[ec]at ew;have ew':=aG ew;subst ew';have hi:i<z.cps.size:=by
    have:=(ca.mp ec).1;simpa using this
   refine⟨hi,λx H' ⟨e1,c',e2,e3⟩=>?_⟩;subst e1 e3;have:c'=c:=by
    have q:z.cps.toList[i]? =ae c':=by rw[←e2];simp
    rw[ec]at q;exact(aG q).symm
   subst this;exact⟨.refl,hS, .str _⟩
 ·show i=z.cps.size;simpa using hl
theorem zbk{l:Expr}{tl:WE}(hl:JE X l tl):JI X tg l (wIv tl):=λE hE=>
 (zvO (hl E hE)).mono λσ H R ⟨σW,S,QW,hσ,hS,ht,hR⟩=>⟨σW,S,_,hσ,hS,ht,λw S1 v H1 e1 r1 hS1 h1=>by
  cases r1 with
  |tup f hs=>exact .inr (.inl ⟨_,rfl,⟨_, .of f⟩,hR _ _ S1 _ H1 e1 hS1 trivial (zwN f hs) h1⟩)
  |ref a=>
   obtain⟨ws,ea,h⟩:=zbl h1;obtain⟨vs,f,hs⟩:=hS1 a _ ea;refine .inl ⟨_,rfl,⟨_, .of f⟩,hR _ _ S1 _ H1 e1 hS1 ea (zqI λS2 H2 e2 hS2 g2=>?_) h⟩;obtain⟨vs2,f2,hs2⟩:=hS2 a _ g2;exact⟨vs2, .of f2,hs2⟩
  |scr f=>exact .inl ⟨_,rfl,⟨_,f.sq⟩,hR _ _ S1 _ H1 e1 hS1 trivial (zqI λS2 H2 e2 hS2 g2=>⟨_,(e2.fz f).sq,Reps.ofInts _⟩) h1⟩
  |str z=>exact .inr (.inr ⟨z,rfl,hR _ _ S1 _ H1 e1 hS1 trivial zwG h1⟩)
  |_=>exact h1.elim⟩
noncomputable def zkZ (lo:Int) (n:Nat):List W:=(aU n).map λ(i:Nat)=> .int (lo+(i:Int))
theorem zxV{K:aj}{lo:Int}{n:Nat}{H0:Hp}{S0:Sto}:ItW K (Itr lo n) (zkZ lo n) (λ_=>True) H0 S0:=λi S H e hS hG=>by
 unfold zkZ;refine⟨λw ew=>?_,λhl=>by
  have:i=n:=by simpa using hl
  exact fh this.symm⟩
 rw[bq]at ew;by_cases hi:i<n
 ·rw[fU hi]at ew;have ew':=aG ew;subst ew';refine⟨hi,λx H' ⟨e1,e2⟩=>?_⟩;subst e1 e2;exact⟨.refl,hS, .int _⟩
 ·rw[List.getElem?_eq_none (by simpa using hi)]at ew;cases ew
noncomputable def zsU (t:WA):WI:=λE σ S Q=>t E σ S λws S1=>match ws with
 | [.int j]=>(-(2 ^ 62)≤j∧j<2 ^ 62)∧Q (zkZ 0 j.toNat) (λ_=>True) S1
 |_=>False
theorem zew{a:Expr}{ta:WA}{p pos:aC}(hg:Gl X "range") (hm:X.mg "range" =none) (ha:JA X [a] ta) (hs:ao [a] X.env=[(false,ay a X.env)]:=by rfl):JI X tg (.Call (.Name "range" p) [a] [] pos) (zsU ta):=λE hE=>
 (zou hg hm (ha E hE) hs).mono λσ H R ⟨σW,S,QW,hσ,hS,ht,hR⟩=>⟨σW,S,_,hσ,hS,ht,λws S1 vs H1 e1 r1 hS1 h1=>by
  cases r1 with
  |nil=>exact h1.elim
  |cons r2 r3=>
   cases r3 with
   |cons _ _=>cases r2<;>exact h1.elim
   |nil=>
    cases r2 with
    |int j=>exact⟨j,rfl,h1.1.1,h1.1.2,hR _ _ S1 _ H1 e1 hS1 trivial zxV h1.2⟩
    |_=>exact h1.elim⟩
end
noncomputable def zhL:WT:=λ_ _ S Q=>Q true S
def JTs (X:Cx) (ifs:List Expr) (t:WT):Prop:=∀E,Hook X E→PTs X ifs (ztv X.K (t E))
theorem zbN{X:Cx}:JTs X [] zhL:=λE hE pins s σ H Q I ⟨σW,S,QW,hσ,hS,ht,hQ⟩=>zve pins s σ H Q I (hQ true S H .refl hS ht)
theorem zpL{X:Cx}{c:Expr}{t:WT}(h:JT X c t):JTs X [c] t:=λE hE=>ztY (h E hE)
noncomputable def zfT (g:WG) (c:WT) (e:WE) (E:WX) (G:Sto→Prop) (Q:List W→Sto→Prop):List W→List W→WSt→Sto→Prop
 | [],acc,_,S=>Q acc S
 |w::ws,acc,σ,S=>g w σ S λσ1 S1=>c E σ1 S1 λb S2=>if b=true then e E σ1 S2 λy S3=>acc.length<sizeLine∧ ∃S4,Sub S4 S3∧G S4∧zfT g c e E G Q ws (acc++[y]) σ1 S4
   else ∃S4,Sub S4 S2∧G S4∧zfT g c e E G Q ws acc σ1 S4
noncomputable abbrev noE:WX:=λ_ _ _=>False
theorem zlw{X:Cx}(h:X.xe=λ_ _=>False):Hook X noE:=⟨by rw[h];exact e_.never,λ_ _ _ _ _ _ _ _ _ _ _ _ _ _ _ _ _ _ _ _ z=>z.elim,λ_ _ _ _ _ _ _ _ _ _ _ _ _ _ _ _ z=>z.elim⟩
theorem PS.nox{X:Cx}{st:Stmt}{t:TS}(h:PS X.nox st t):PS X st t:=λpins s σ H D I hw=>
 cg (h pins s σ H D (I.wish _) hw) (λ_ _ q=>q.unwish) λ_ _ z=>cc z
noncomputable def zdi (k:Nat) (fr:List Nat) (q:WI) (g:WG) (c:WT) (e:WE):WL:=λ_ σ S Q=>q noE σ S λws G S1=>zfT g c e noE G Q ws [] (aO k none++fr.map λj=>(σ[j]?).join) S1
theorem znK{K:aj}{H:Hp}{σW:WSt}{σ:St}{k:Nat}{fr:List Nat}(h:RpSt K H σW σ):RpSt K H (aO k none++fr.map λj=>(σW[j]?).join) (znm σ k fr):=by
 have one:∀j:Nat,RpO K H (σW[j]?).join (σ[j]?).join:=λj=>by
  cases e:σW[j]? with
  |none=>exact trivial
  |some w=>
   cases w with
   |none=>exact trivial
   |some w=>
    obtain⟨v,ev,r⟩:=h.get e;rw[ev];exact r
 have go:∀fr:List Nat,RpSt K H (fr.map λj=>(σW[j]?).join) (zhG σ fr):=by
  intro fr
  induction fr with
  |nil=>exact .nil
  |cons j fr ih=>exact .cons (one j) ih
 unfold znm
 induction k with
 |zero=>exact go fr
 |succ k ih=>exact .cons trivial ih
section
variable {X:Cx}{scope:Scope}{N:List Str}{k:Nat}{fr:List Nat}{tg iter elt:Expr}{ifs:List Expr}{pos:aC}{q:WI}{g:WG}{c:WT}{e:WE}
theorem Ext.loose{H H':Hp}(a:∀b xs,H b=ae (.tup xs)→H' b=ae (.tup xs)) (b:∀c o u,H c=ae (.frz o u)→H' c=ae (.frz o u)) (d:∀b o,H b=ae o→ ∃o',H' b=ae o'):Ext H (λ_=>ae (.lst [])) H' (λ_=>ae (.lst [])):=
 ⟨a,b,(λ_ _ _ g=>nomatch g),d⟩
theorem Ext.over{H H':Hp}{S S':Sto}{l:Addr}{o:HO}(e:Ext H S H' S') (h:H l=none):Ext H S (upd H' l o) S':=
 ⟨λb xs q=>by rw[zaz (zau q h)];exact e.tup b xs q,λb ob u q=>by rw[zaz (zau q h)];exact e.frz b ob u q,λb ob q z=>by rw[zaz (zau q h)];exact e.fr b ob q z,λb ob q=>by rw[zaz (zau q h)];exact e.all b ob q⟩
theorem zjm (hg:∀s₀ H₀ fp pn,JG (zbC X scope N s₀ H₀ fp pn) tg g) (hc:∀s₀ H₀ fp pn,JTs (zbC X scope N s₀ H₀ fp pn) ifs c) (he:∀s₀ H₀ fp pn,JE (zbC X scope N s₀ H₀ fp pn) elt e)
  {E:WX}(σ:St) (H:Hp) (Q:VK):zvI X.K (zdi k fr q g c e E) σ H Q→zrs X scope N k fr tg ifs elt (zwg X.K (q noE)) σ H Q:=λ⟨σW,S0,QW,hσ,hS,ht,hQ⟩=>by
  refine⟨σW,S0,_,hσ,hS,ht,λws G S1 J H1 e1 hS1 hG1 hJ h1 l hl=>?_⟩;have upl:∀{H':Hp}{vs us:List V}{S':Sto},H' l=ae (.lst vs)→S' l=none→RepS X.K H' S'→Ext H' (λ_=>ae (.lst [])) (upd H' l (.lst us)) (λ_=>ae (.lst []))∧RepS X.K (upd H' l (.lst us)) S':=λ{H' vs us S'} f n hS'=>by
   have x:Ext H' (λ_=>ae (.lst [])) (upd H' l (.lst us)) (λ_=>ae (.lst [])):= .loose (λb xs q=>by rw[zaz (zqg q f λz=>nomatch z)];exact q) (λb o u q=>by rw[zaz (zqg q f λz=>nomatch z)];exact q) λb o q=>by
    by_cases hb:b=l
    ·subst hb;exact⟨_,zay⟩
    ·exact⟨o,by rw[zaz hb];exact q⟩
   refine⟨x,λa o q=>(hS' a o q).keep x λu z=>?_⟩;have ha:a≠l:=by rintro rfl;rw[n]at q;cases q
   rw[zaz ha];exact z
  refine⟨λi m σ' H'=>∃σW' S' acc vs,Ext H1 S1 H' S'∧H' l=ae (.lst vs)∧S' l=none∧Reps X.K H' acc vs∧RpSt X.K H' σW' σ'∧RepS X.K H' S'∧G S'∧m=ws.length - i∧i≤ws.length∧zfT g c e noE G QW (ws.drop i) acc σW' S',
   ⟨ws.length,_,S1,[],[], .new hl,zay,hS1.free hl, .nil,znK (hσ.ext (e1.trans (.new (S:=S1) hl))),hS1.new hl,hG1,rfl,aY _,h1⟩,?_⟩
  rintro i m σ' H' ⟨σW',S',acc,vs,e2,f2,n2,ra,hσ2,hS2,hG2,rfl,hi2,h2⟩;obtain⟨ji,js⟩:=hJ i S' H' e2 hS2 hG2;by_cases hlt:i<ws.length
  ·obtain⟨jgo,jy⟩:=ji ws[i] (a9 hlt);refine .inr ⟨jgo,λσ'' H''=>∃σW' S' acc vs,Ext H1 S1 H'' S'∧H'' l=ae (.lst vs)∧S' l=none∧Reps X.K H'' acc vs∧RpSt X.K H'' σW' σ''∧RepS X.K H'' S'∧G S'∧ws.length - (i+1)=ws.length - (i+1)∧i+1≤ws.length∧zfT g c e noE G QW (ws.drop (i+1)) acc σW' S',
    λσ'' H'' z=>⟨_,by omega,z⟩,λx H3 y3=>?_⟩
   obtain⟨e3,hS3,r3⟩:=jy x H3 y3;rw[eP hlt]at h2;intro s₀ H₀ fp pn;have hk:Hook (zbC X scope N s₀ H₀ fp pn) noE:=zlw rfl;refine⟨_,_,_,hg s₀ H₀ fp pn noE hk,hc s₀ H₀ fp pn noE hk,he s₀ H₀ fp pn noE hk,?_⟩;refine⟨_,σW',S',_,r3,hσ2.ext e3,hS3,h2,λσW4 S4 σ4 H4 e4 hσ4 hS4 h4=>?_⟩;refine⟨σW4,S4,_,hσ4,hS4,h4,λb S5 H5 e5 hS5 h5=>?_⟩;have e15:Ext H' S' H5 S5:=(e3.trans e4).trans e5;have hσ5:=hσ4.ext e5;obtain⟨f5,n5⟩:=e15.fr l _ f2 n2;cases b with
   |false=>
    have h5:∃S4,Sub S4 S5∧G S4∧zfT g c e noE G QW (ws.drop (i+1)) acc σW4 S4:=h5;refine zAm ?_;obtain⟨S6,sb,hG6,h6⟩:=h5;have e16:=e15.trans (.drop sb);exact⟨σW4,S6,acc,vs,e2.trans e16,f5,(e16.fr l _ f2 n2).2,ra.ext e15,hσ5,hS5.sub sb,hG6,rfl,hlt,h6⟩
   |true=>
    rw[if_pos rfl]at h5;refine zAB ?_;refine⟨σW4,S5,_,hσ5,hS5,h5,λy S6 v H6 e6 r6 hS6 h6=>?_⟩;have e17:=e15.trans e6;obtain⟨f6,n6⟩:=e17.fr l _ f2 n2;obtain⟨hz,S7,sb,hG7,h7⟩:=h6;obtain⟨x6,hS6'⟩:=upl (us:=vs++[v]) f6 n6 hS6;have ra6:Reps X.K H6 (acc++[y]) (vs++[v]):=(ra.ext e17).append (.one r6);refine⟨vs,f6,by rw[←ra.length];exact hz,σW4,S7,acc++[y],vs++[v],?_,zay,((e17.trans (.drop sb)).fr l _ f2 n2).2,ra6.ext x6,(hσ5.ext e6).ext x6,hS6'.sub sb,hG7,rfl,hlt,h7⟩
    exact(e2.trans (e17.trans (.drop sb))).over hl
  ·have hll:i=ws.length:=by omega
   rw[eM (fh hll.symm)]at h2;exact .inl ⟨js hll,hQ acc S' vs l H' (e1.trans e2) (e1.free hl) f2 n2 ra hS2 h2⟩
theorem zdb (S:CompSc X.nox scope N k fr) (hi:JI X.nox tg iter q) (hg:∀s₀ H₀ fp pn,JG (zbC X.nox scope N s₀ H₀ fp pn) tg g) (hc:∀s₀ H₀ fp pn,JTs (zbC X.nox scope N s₀ H₀ fp pn) ifs c) (he:∀s₀ H₀ fp pn,JE (zbC X.nox scope N s₀ H₀ fp pn) elt e)
  (hs:∀x,dL iter X.env x=pure x:=by intro _;rfl) (hcl:X.calm=true:=by rfl):JL X (.ListComp elt [⟨tg,iter,ifs,0⟩] scope pos) (zdi k fr q g c e):=λE hE=>
 (PE.nox (zui rfl hcl S (hi noE (zlw rfl)) hs)).mono (zjm (X:=X.nox) hg hc he)
theorem zeS{i:Nat}{x:Str}{pos' spos:aC}(hN:X.N.Nodup) (hxi:X.N[i]? =ae x) (hxl:Loc X.env.scope x) (S:CompSc X.nox scope N k fr) (hi:JI X.nox tg iter q) (hg:∀s₀ H₀ fp pn,JG (zbC X.nox scope N s₀ H₀ fp pn) tg g) (hc:∀s₀ H₀ fp pn,JTs (zbC X.nox scope N s₀ H₀ fp pn) ifs c) (he:∀s₀ H₀ fp pn,JE (zbC X.nox scope N s₀ H₀ fp pn) elt e)
  (hw:c7 (.ListComp elt [⟨tg,iter,ifs,0⟩] scope pos) (ae (.Name x pos')) spos.line X.env=pure true:=by rfl) (hf:X.fn x=true∨X.env.scope.names.lookup x=ae .local:=by first |exact .inl rfl |exact .inr rfl |assumption)
  (hs:∀x,dL iter X.env x=pure x:=by intro _;rfl) (hcl:X.calm=true:=by rfl):JS X (.Assign [.Name x pos'] (.ListComp elt [⟨tg,iter,ifs,0⟩] scope pos) spos) (wAsg (zct (zdi k fr q g c e)) (wGN i)):=λE hE=>
 (PS.nox (zuD (X:=X.nox) rfl hcl S (hi noE (zlw rfl)) hN hxi hxl hw hf hs)).mono λD σ H ⟨σW,S0,DW,hσ,hS,ht,hD⟩=>
  zjm (X:=X.nox) (E:=E) hg hc he σ H _ ⟨σW,S0,_,hσ,hS,ht,λws S1 vs a H1 e1 fa ea na r1 hS1 h1=>by
   have ex:Ext H S0 H1 (put S1 a (.lst ws)):=⟨e1.tup,e1.frz,λb o q g=>by
    have hb:b≠a:=by rintro rfl;rw[fa]at q;cases q
    rw[zaA hb];exact e1.fr b o q g,e1.all⟩
   refine hD.nx _ (put S1 a (.lst ws)) _ H1 ex ((hσ.ext ex).set (.ref a) i) (λb o q=>?_) (h1 a na);by_cases hb:b=a
   ·subst hb;rw[zag]at q;cases q;exact⟨vs,ea,r1⟩
   ·rw[zaA hb]at q;exact hS1 b o q⟩
end
def SeqIt (k:Bool) (h:Heap) (it a:Addr) (i:Nat):Prop:=if k=true then h.IsListIter it a i else h.IsTupleIter it a i
def SeqIs (k:Bool) (h:Heap) (a:Addr) (its:Array Value):Prop:=if k=true then h.IsList a its else h.IsTuple a its
section
variable {k:Bool}{h h':Heap}{it a:Addr}{i:Nat}{its:Array Value}
theorem SeqIt.at (x:SeqIt k h it a i) (e:∀o,h.get? it=ae o→h'.get? it=ae o):SeqIt k h' it a i:=by
 cases k with
 |true=>exact Heap.IsListIter.at (show h.IsListIter it a i from x) e
 |false=>exact Heap.IsTupleIter.at (show h.IsTupleIter it a i from x) e
theorem SeqIs.at (x:SeqIs k h a its) (e:∀o,h.get? a=ae o→h'.get? a=ae o):SeqIs k h' a its:=by
 cases k with
 |true=>exact Heap.IsList.at (show h.IsList a its from x) e
 |false=>obtain⟨o,ho,r⟩:=(show h.IsTuple a its from x);exact⟨o,e o ho,r⟩
theorem SeqIt.ob (x:SeqIt k h it a i):∃o vs,h.get? it=ae o∧o.data= .fields vs:=by
 cases k with
 |true=>obtain⟨o,ho,_,hd⟩:=(show h.IsListIter it a i from x);exact⟨o,_,ho,hd⟩
 |false=>obtain⟨o,ho,_,hd⟩:=(show h.IsTupleIter it a i from x);exact⟨o,_,ho,hd⟩
end
section
variable {prog:aE}{w:aB}{A:aN}{E:Value→ah→Prop}{s:ah}
theorem zho{it t:Addr}{i:Nat}{its:Array Value}{x:Value}{Q:Value→ah→Prop}(hit:s.heap.IsTupleIter it t i) (ht:s.heap.IsTuple t its) (hx:its[i]? =ae x)
  (hQ:∀g,g.IsTupleIter it t (i+1)→b8 it s.heap g→Q x { s with heap:=g }):am (ap prog w) A (cB (.ref it)) Q E s:=by
 obtain⟨o,ho,hc,hd⟩:=id hit;obtain⟨ot,hot,_,nt,hdt⟩:=ht;unfold cB;refine ak (df (name:=bh "__next__") hit.typeIs fO (c8 fO hit.typeIs iZ ?_ (ko _)));show am _ _ (field (.ref it) 0 >>= _) _ _ s;refine ak (bA ho hd (x:= .ref t) rfl ?_);show am _ _ (if(a_ t == cb)=true then _ else _) _ _ s;rw[if_neg (show ¬((a_ t == cb)=true) from cT)];show am _ _ (field (.ref it) 1 >>= _) _ _ s;refine ak (bA ho hd (x:= .int i 0) rfl ?_);show am _ _ (seqItems? (.ref t) >>= _) _ _ s;refine ak (cU hot hdt ?_);simp only[bV,hx];refine ak (i8 ho hd (by simp) (aD ⟨x,rfl,aD (hQ _ ?_ (jc ..))⟩));exact⟨_,Heap.get?_update_self _ ho (Obj.isFreed_of_fields (ke hd _)),(Obj.cls_mapFields ..).trans hc,by rw[ke hd];simp [cj]⟩
theorem zhQ{it t:Addr}{i:Nat}{its:Array Value}{Q:Value→ah→Prop}(hh:A.handled=none) (hit:s.heap.IsTupleIter it t i) (ht:s.heap.IsTuple t its) (hx:its[i]? =none)
  (hE:∀g e,ib it s.heap g→(∃o,g.get? e=ae o∧o.cls= .type "StopIteration")→E (.ref e) { s with heap:=g }):am (ap prog w) A (cB (.ref it)) Q E s:=by
 obtain⟨o,ho,hc,hd⟩:=id hit;obtain⟨ot,hot,_,nt,hdt⟩:=ht;unfold cB;refine ak (df (name:=bh "__next__") hit.typeIs fO (c8 fO hit.typeIs iZ ?_ (ko _)));show am _ _ (field (.ref it) 0 >>= _) _ _ s;refine ak (bA ho hd (x:= .ref t) rfl ?_);show am _ _ (if(a_ t == cb)=true then _ else _) _ _ s;rw[if_neg (show ¬((a_ t == cb)=true) from cT)];show am _ _ (field (.ref it) 1 >>= _) _ _ s;refine ak (bA ho hd (x:= .int i 0) rfl ?_);show am _ _ (seqItems? (.ref t) >>= _) _ _ s;refine ak (cU hot hdt ?_);simp only[bV,hx];refine ak (eC (ak (i8 ho hd (by simp) ?_)));show am _ _ (newExc (.type "StopIteration") [] >>= _) _ _ _;refine ak ?_;simp only[newExc,newTuple];refine ak (dO ?_ (by size_fits));refine ak (m:=jO _ _) (wpAny_of_eq (a:=cb) (by first |rfl | (simp only[jO];rfl)) ?_);refine dO ?_ (by size_fits);simp only[raiseNew];refine ak (wpAny_handled ?_)
 first |rw[show A.in1.handled=none from hh] |rw[hh]
 refine ak (aD (wpAny_throw ?_));exact hE _ _ (((jc ..).extBut.push _).push _) ⟨_,bi _ rfl,rfl⟩
theorem zfr{k:Bool}{it t:Addr}{i:Nat}{its:Array Value}{x:Value}{Q:Value→ah→Prop}(hit:SeqIt k s.heap it t i) (ht:SeqIs k s.heap t its) (hx:its[i]? =ae x)
  (hQ:∀g,SeqIt k g it t (i+1)→b8 it s.heap g→Q x { s with heap:=g }):am (ap prog w) A (cB (.ref it)) Q E s:=by
 cases k with
 |true=>exact wpAny_nextOf_list_item hit ht hx hQ
 |false=>exact zho hit ht hx hQ
theorem ziC{k:Bool}{it t:Addr}{i:Nat}{its:Array Value}{Q:Value→ah→Prop}(hh:A.handled=none) (hit:SeqIt k s.heap it t i) (ht:SeqIs k s.heap t its) (hx:its[i]? =none)
  (hE:∀g e,ib it s.heap g→(∃o,g.get? e=ae o∧o.cls= .type "StopIteration")→E (.ref e) { s with heap:=g }):am (ap prog w) A (cB (.ref it)) Q E s:=by
 cases k with
 |true=>exact wpAny_nextOf_list_end hh hit ht hx hE
 |false=>exact zhQ hh hit ht hx hE
theorem zoD{k:Bool}{e it l:Addr}{i:Nat}{its:Array Value}{x old:Value}{Q:Option Value→ah→Prop}
  (he:cM s.heap e it i old) (hit:SeqIt k s.heap it l i) (hl:SeqIs k s.heap l its) (hx:its[i]? =ae x) (hne:e≠it)
  (hQ:∀g,gJ g e it ((i:Int)+1) x s.heap.objs.size→SeqIt k g it l (i+1)→g.get? s.heap.objs.size=ae { cls:= .type "tuple",data:= .seq #[.int i s.toks,x] }→g.objs.size=s.heap.objs.size+1→
   (∀b o,b≠e→b≠it→s.heap.get? b=ae o→g.get? b=ae o)→Q (ae (.ref s.heap.objs.size)) { s with heap:=g,toks:=s.toks+1 }):am (ap prog w) A (bT (.ref e)) Q E s:=by
 have hT:s.TypeIs (.ref e) "enumerate" :=⟨_,he,rfl⟩;unfold bT;refine ak (fG (df (name:=bh "__next__") hT fy (c8 fy hT jR ?_ (j7 _))));obtain⟨hp,g,d,tk,os⟩:=s;show am _ _ (field (.ref e) 2 >>= _) _ _ _;refine ak (bA he rfl (x:= .ref it) rfl ?_);refine ak (zfr hit hl hx λg1 hit1 hs1=>?_);replace hs1:b8 it hp g1:=hs1;have he1:cM g1 e it i old:=(hs1.2 e hne).trans he;show am _ _ (field (.ref e) 3 >>= _) _ _ ⟨g1,g,d,tk,os⟩;refine ak (bA he1 rfl (x:=cj i) rfl ?_);show am _ _ (field (.ref e) 4 >>= _) _ _ ⟨g1,g,d,tk,os⟩;refine ak (bA he1 rfl (x:= .none) rfl ?_);show am _ _ (mkInt i >>= _) _ _ ⟨g1,g,d,tk,os⟩;refine ak (wpAny_mkInt ?_);show am _ _ (setField (.ref e) 3 (cj ((i:Int)+1)) >>= _) _ _ ⟨g1,g,d,tk+1,os⟩;refine ak (cf he1 (by simp) λg2 he2 hs2=>?_);replace hs2:b8 e g1 g2:=hs2;replace he2:cM g2 e it ((i:Int)+1) old:=he2;show am _ _ (setField (.ref e) 4 .none >>= _) _ _ ⟨g2,g,d,tk+1,os⟩;refine ak (cf he2 (by simp) λg3 he3 hs3=>?_);replace hs3:b8 e g2 g3:=hs3;replace he3:cM g3 e it ((i:Int)+1) old:=he3;show am _ _ (newTuple [.int i tk,x] >>= _) _ _ ⟨g3,g,d,tk+1,os⟩;refine ak (jM ?_);have he4:cM (g3.push { cls:= .type "tuple",data:= .seq #[.int i tk,x] }) e it ((i:Int)+1) old:=aH _ he3;generalize hg4:g3.push { cls:= .type "tuple",data:= .seq #[.int i tk,x] }=g4 at he4;have hsz:g3.objs.size=hp.objs.size:=by rw[hs3.1,hs2.1,hs1.1]
 have hel:e<hp.objs.size:=aJ he;have ht4:g4.get? hp.objs.size=ae { cls:= .type "tuple",data:= .seq #[.int i tk,x] }:=by rw[←hg4,←hsz];exact bi _ rfl
 have hz4:g4.objs.size=hp.objs.size+1:=by rw[←hg4,cL,hsz]
 have hk4:∀b o,b≠e→b≠it→hp.get? b=ae o→g4.get? b=ae o:=λb o hbe hbi hb=>by rw[←hg4];exact aH _ (hs3.extBut b o hbe (hs2.extBut b o hbe (hs1.extBut b o hbi hb)))
 have hit4:SeqIt k g4 it l (i+1):=by rw[←hg4];exact hit1.at λo ho=>aH _ (hs3.extBut it o (bj hne) (hs2.extBut it o (bj hne) ho))
 show am _ _ (d9 (.ref e) >>= _) _ _ ⟨g4,g,d,tk+1,os⟩;rw[hsz];clear hg4 he3 hs3 he2 hs2 he1 hs1 hit1 hsz g3 g2 g1;refine ak ?_;unfold d9;refine ak (bA he4 rfl (x:= .none) rfl (aD ?_));simp only[if_true];refine ak (eC ?_);refine ak (bA he4 rfl (x:=old) rfl ?_);refine ak (cf he4 (by simp) λg5 he5 hs5=>?_);replace hs5:b8 e g4 g5:=hs5;replace he5:cM g5 e it ((i:Int)+1) x:=he5;show am _ _ (fj (.ref e) (.ref hp.objs.size) >>= _) _ _ ⟨g5,g,d,tk+1,os⟩;refine ak ?_;unfold fj;refine ak (cf he5 (by simp) λg6 he6 hs6=>?_);replace hs6:b8 e g5 g6:=hs6;replace he6:gJ g6 e it ((i:Int)+1) x hp.objs.size:=he6;refine cf he6 (by simp) λg7 he7 hs7=>?_;replace hs7:b8 e g6 g7:=hs7;replace he7:gJ g7 e it ((i:Int)+1) x hp.objs.size:=he7;refine ak (fJ (aD ⟨_,rfl,aD (hQ g7 he7 ?_ ?_ ?_ ?_)⟩))
 ·exact hit4.at λo ho=>hs7.extBut it o (bj hne) (hs6.extBut it o (bj hne) (hs5.extBut it o (bj hne) ho))
 ·exact hs7.extBut _ _ (cD hel) (hs6.extBut _ _ (cD hel) (hs5.extBut _ _ (cD hel) ht4))
 ·rw[hs7.1,hs6.1,hs5.1,hz4]
 ·exact λb o hbe hbi hb=>hs7.extBut b o hbe (hs6.extBut b o hbe (hs5.extBut b o hbe (hk4 b o hbe hbi hb)))
theorem zra{k:Bool}{e it l:Addr}{i:Nat}{its:Array Value}{old:Value}{Q:Option Value→ah→Prop}(hh:A.handled=none)
  (he:cM s.heap e it i old) (hit:SeqIt k s.heap it l i) (hl:SeqIs k s.heap l its) (hx:its[i]? =none) (hQ:∀g,ib it s.heap g→Q none { s with heap:=g }):am (ap prog w) A (bT (.ref e)) Q E s:=by
 have hT:s.TypeIs (.ref e) "enumerate" :=⟨_,he,rfl⟩;unfold bT;refine ak (fG (df (name:=bh "__next__") hT fy (c8 fy hT jR ?_ (j7 _))));show am _ _ (field (.ref e) 2 >>= _) _ _ _;refine ak (bA he rfl (x:= .ref it) rfl ?_);refine ak (ziC hh hit hl hx λg x he' hx'=>?_);obtain⟨o,ho,hc⟩:=hx';refine ak (kq (T:= "StopIteration") (b:=true) ⟨o,ho,hc⟩ jS ?_);exact aD (hQ _ he')
end
noncomputable def zed (k:Bool) (a:Addr):Obj:={ cls:= .type (if k=true then "list_iterator" else "tuple_iterator"),data:= .fields #[.ref a, .int 0 0] }
theorem ziU{k:Bool}{h:Heap}{it a:Addr}(e:h.get? it=ae (zed k a)):SeqIt k h it a 0:=by
 cases k with
 |true=>exact⟨_,e,rfl,rfl⟩
 |false=>exact⟨_,e,rfl,rfl⟩
theorem zfX{k:Bool}{a:Addr}:(zed k a).isFreed=false:=by cases k<;>rfl
section
variable {prog:aE}{w:aB}{A:aN}{E:Value→ah→Prop}{s:ah}
theorem ziT{k:Bool}{a:Addr}{its:Array Value}{Q:Value→ah→Prop}(ha:SeqIs k s.heap a its) (hQ:Q (.ref s.heap.objs.size) { s with heap:=s.heap.push (zed k a) }):am (ap prog w) A (dh (.ref a)) Q E s:=by
 cases k with
 |true=>exact f9 ha hQ
 |false=>exact jh ha hQ
end
theorem SeqIs.push{k:Bool}{h:Heap}{a:Addr}{its:Array Value}(x:SeqIs k h a its) (o:Obj):SeqIs k (h.push o) a its:=x.at λ_ e=>aH _ e
theorem znP{k:Bool}(l:Addr) (its:Array Value) :
  PySem.Meets (bU.«enumerate.__new__» ⟨[.type "enumerate", .ref l],[]⟩) (λ_ R s=>SeqIs k s.heap l its∧
   R (.ok (.ret (.ref (s.heap.push (zed k l)).objs.size))) { s with heap:=(s.heap.push (zed k l)).push { cls:= .type "enumerate",data:= .fields #[.none, .bool false, .ref s.heap.objs.size,cj 0, .none, .none] } }):=
 .of_wp λprog w A R s h=>by
  obtain⟨hp,g,d,tk,os⟩:=s;obtain⟨hl,h⟩:=h;have hsub:=sub_enumerate;have hL:SeqIs k (ah.heap ⟨hp,g,d,tk,os⟩) l its:=hl;have fin:∀{A:aN}{E:Value→ah→Prop}{Q:Value→ah→Prop},Q (.ref hp.objs.size) ⟨hp.push (zed k l),g,d,tk,os⟩→am (ap prog w) A (dh (.ref l)) Q E ⟨hp,g,d,tk,os⟩:=λq=>ziT hL q
  wp_walk
  refine wpAny_stack_any λst=>aD ?_;split
  ·rename_i c _ _ _ _ _;cases(c == ix "enumerate")
   ·wp_walk using fin
    exact⟨_,rfl,h⟩
   ·wp_walk using fin
    exact⟨_,rfl,h⟩
  ·wp_walk using fin
   exact⟨_,rfl,h⟩
section
variable {prog:aE}{w:aB}{A:aN}{E:Value→ah→Prop}{s:ah}
theorem zpt{k:Bool}{l:Addr}{its:Array Value}{Q:Value→ah→Prop}(hL:SeqIs k s.heap l its)
  (h:∀g,cM g (s.heap.objs.size+1) s.heap.objs.size 0 .none→SeqIt k g s.heap.objs.size l 0→g.objs.size=s.heap.objs.size+2→(∀b o,s.heap.get? b=ae o→g.get? b=ae o)→Q (.ref (s.heap.objs.size+1)) { s with heap:=g }) :
  am (ap prog w) A (call (.type "enumerate") [.ref l]) Q E s:=by
 refine callType_new PySem.F.called_enumerate (by decide) (PySem.F.typeCall_enumerate_1 _) (PySem.F.newCall_enumerate_1 _) (λobj=>PySem.F.args_object_init_2 obj _) PySem.F.entry_enumerate_new (znP (k:=k) l its) ⟨hL,?_⟩;have hz:(s.heap.push (zed k l)).objs.size=s.heap.objs.size+1:=cL ..;show _∧_;rw[hz];have he:cM ((s.heap.push (zed k l)).push { cls:= .type "enumerate",data:= .fields #[.none, .bool false, .ref s.heap.objs.size,cj 0, .none, .none] }) (s.heap.objs.size+1) s.heap.objs.size 0 .none:=by
  have:=bi (s.heap.push (zed k l)) (o:={ cls:= .type "enumerate",data:= .fields #[.none, .bool false, .ref s.heap.objs.size,cj 0, .none, .none] }) rfl;rw[hz]at this;exact this
 exact⟨⟨_,he,rfl⟩,h _ he (ziU (aH _ (bi _ zfX))) (by rw[cL,hz]) λb o x=>aH _ (aH _ x)⟩
end
section
variable {X:Cx}{pins:List (Addr×Obj)}{σ:St}{H:Hp}{s:ah}{g:Heap}{fp:List Addr}
theorem Inv.turnNew{p:Addr}{o:HO}{t':Nat}(I:Inv X pins σ H s) (hp:s.heap.objs.size≤p) (k:∀b u,b∉fp→s.heap.get? b=ae u→g.get? b=ae u) (hf:∀b∈fp,zjh X pins H b) (new:ObjOk X.prog X.w (upd H p o) g p o) :
  Inv X pins σ (upd H p o) { s with heap:=g,toks:=t' }:=by
 have hn:=I.hok.fresh hp;have lt:∀{b u},s.heap.get? b=ae u→b≠p:=λe=>br (bH (aJ e) hp);have nfp:∀{b u},H b=ae u→b∉fp:=λe z=>by rw[(hf _ z).1]at e;cases e
 refine I.call (g':=s.gens) (d':=s.drawn) (ch:=fp) ⟨λb u e _ _ hx=>k b u hx e,λb u e _ _ hx=>⟨u.slots,k b u hx e⟩,λb u e n _=>by rw[zaz (lt e)];exact n,λb u e hx=>⟨u,k b u hx e⟩,
  λb xs e=>by rw[zaz (zau e hn)];exact e,λb u xs e=>by rw[zaz (zau e hn)];exact e,λb ps e=>⟨#[],by rw[zaz (zau e hn),e];simp⟩⟩ (λb u e=>?_) I.bare λb hb=>⟨(hf b hb).2.2.2.1,(hf b hb).2.1,(hf b hb).2.2.2.2.1,(hf b hb).2.2.2.2.2⟩
 by_cases hb:b=p
 ·subst hb;rw[zay]at e;cases e;exact new
 ·rw[zaz hb]at e;refine(I.hok b u e).stay (λc v hc q=>k c v ?_ q) (λc q=>by rw[zaz (zau q hn)];exact q) λc xs q=>by rw[zaz (zau q hn)];exact q
  rcases hc with rfl |hc
  ·exact nfp e
  ·exact nfp hc
theorem Inv.turnedL{t':Nat}(I:Inv X pins σ H s) (k:∀b u,b∉fp→s.heap.get? b=ae u→g.get? b=ae u) (hf:∀b∈fp,zjh X pins H b):Inv X pins σ H { s with heap:=g,toks:=t' }:=by
 have nfp:∀{b u},H b=ae u→b∉fp:=λe z=>by rw[(hf _ z).1]at e;cases e
 refine I.call (g':=s.gens) (d':=s.drawn) (ch:=fp) ⟨λb u e _ _ hx=>k b u hx e,λb u e _ _ hx=>⟨u.slots,k b u hx e⟩,λb u e n _=>n,λb u e hx=>⟨u,k b u hx e⟩,
  λb xs e=>e,λb u xs e=>e,λb ps e=>⟨#[],by rw[e];simp⟩⟩ (λb u e=>?_) I.bare λb hb=>⟨(hf b hb).2.2.2.1,(hf b hb).2.1,(hf b hb).2.2.2.2.1,(hf b hb).2.2.2.2.2⟩
 refine(I.hok b u e).stay (λc v hc q=>k c v ?_ q) (λc q=>q) λc xs q=>q;rcases hc with rfl |hc
 ·exact nfp e
 ·exact nfp hc
def SqK (k:Bool) (K:aj) (H:Hp) (a:Addr) (xs:List V):Prop:=if k=true then SqL K H a xs else SqT K H a xs
theorem Inv.seq{k:Bool}{a:Addr}{xs:List V}(I:Inv X pins σ H s) (h:SqK k X.K H a xs):∃its:List Value,Vals xs its∧SeqIs k s.heap a its.toArray∧xs.length≤sizeLine:=by
 cases k with
 |true=>obtain⟨its,r,p,z⟩:=I.list h;exact⟨its,r,p.isList,z⟩
 |false=>obtain⟨its,r,p,z⟩:=I.tuple h;exact⟨its,r,p,z⟩
theorem Inv.seq_inj{k:Bool}{a:Addr}{xs ys:List V}(I:Inv X pins σ H s) (h:SqK k X.K H a xs) (h':SqK k X.K H a ys):xs=ys:=by
 cases k with
 |true=>exact I.list_inj h h'
 |false=>exact I.tuple_inj h h'
end
noncomputable def Ite (k:Bool) (K:aj) (a:Addr):It:=
 ⟨λi H=>∃xs x,SqK k K H a xs∧xs[i]? =ae x,λi H v H'=>∃p x,H p=none∧v= .ref p∧H'=upd H p (.tup [.int i,x])∧ ∀xs,SqK k K H a xs→xs[i]? =ae x,λi H=>∃xs,SqK k K H a xs∧xs.length≤i⟩
theorem zoE{P:aE}{w:aB}{K:aj}{es:List Expr}{x1:Nat}{pos:aC}(k:Bool) (a e it:Addr) (hne:e≠it):Turn P w K (.Tuple es x1 pos) (Ite k K a) [e,it] e (λi h=>(∃old,cM h e it (i:Nat) old)∧SeqIt k h it a i) where
  mem:=by simp
  obj:=λi h ⟨⟨old,he⟩,hit⟩ b hb=>by
    rcases az.mp hb with rfl |hb
    · exact⟨_,he,λv z=>by cases z⟩
    · have q:b=it:=by simpa using hb
      subst q;obtain⟨o,vs,e,d⟩:=hit.ob;exact⟨o,e,λv z=>by rw[d]at z;cases z⟩
  keep:=λi h h' ⟨⟨old,he⟩,hit⟩ kk=>⟨⟨old,kk e (by simp) _ he⟩,hit.at λo q=>kk it (by simp) o q⟩
  item:=by
    intro X hP hw hK hc i pins s σ H E I hf st hg;subst hP hw hK;obtain⟨xs,x,hq,hx⟩:=hg;obtain⟨⟨old,he⟩,hit⟩:=st;obtain⟨its,rv,p,hz⟩:=I.seq hq;obtain⟨u,hu,ru⟩:=rv.get hx;refine zoD he hit p (x:=u) (by simpa using hu) hne λg ho hit' ht hz' kk=>⟨_,rfl,?_⟩;refine wpAny_letOwnedTupleGo_enum ho λg2 he2 hs2=>?_;have hlt:s.heap.objs.size≠e:=cD (aJ he);have kk2:∀b o,b∉ [e,it]→s.heap.get? b=ae o→g2.get? b=ae o:=λb o hb q=>by
      have h1:b≠e:=λz=>hb (by simp [z]);have h2:b≠it:=λz=>hb (by simp [z]);exact(hs2.2 b h1).trans (kk b o h1 h2 q)
    have hn:=I.hok.fresh (au s.heap.objs.size);have ht2:g2.get? s.heap.objs.size=ae { cls:= .type "tuple",data:= .seq #[.int i s.toks,u] }:=(hs2.2 _ hlt).trans ht;refine⟨.ref s.heap.objs.size,upd H s.heap.objs.size (.tup [.int i,x]),I.turnNew (fp:=[e,it]) (t':=s.toks+1) (au _) kk2 hf ⟨by show 2≤sizeLine;rw[dw];decide,[.int i s.toks,u], .cons ⟨_,rfl⟩ (.cons ru .nil),⟨_,ht2,rfl,_,rfl⟩⟩,rfl,
      ⟨_,x,hn,rfl,rfl,λys hy=>by rw[I.seq_inj hy hq];exact hx⟩,⟨⟨u,by simpa using he2⟩,hit'.at λo q=>(hs2.2 it (bj hne)).trans q⟩,λb hb=>?_⟩
    have hb':=(hf b hb).1;have:b≠s.heap.objs.size:=by
      rcases az.mp hb with rfl |hb
      · exact bj hlt
      · have q:b=it:=by simpa using hb
        subst q;obtain⟨o,vs,e,d⟩:=hit.ob;exact br (aJ e)
    rw[zaz this];exact hb'
  done:=by
    intro X hP hw hK hc i pins s σ H E I hf st hg;subst hP hw hK;obtain⟨xs,hq,hx⟩:=hg;obtain⟨⟨old,he⟩,hit⟩:=st;obtain⟨its,rv,p,hz⟩:=I.seq hq;have hl:=rv.length;exact zra (I.ok.hd hc) he hit p (by simp;omega) λg eb=>⟨rfl,I.turnedL (fp:=[e,it]) (t':=s.toks) (λb o hb q=>eb b o (λz=>hb (by simp [z])) q) hf⟩
  self:=λA i s Q E ⟨⟨old,he⟩,hit⟩ h=>jD he h
section
variable {X:Cx}{es:List Expr}{x1:Nat}{tpos:aC}
noncomputable def zyA (K:aj) (ta:TA):TI:=λσ H R=>ta σ H λvs H1=>∃k a xs,vs=[.ref a]∧SqK k K H1 a xs∧R (Ite k K a) H1
theorem zuG{a:Expr}{ta:TA}{p pos:aC}(hg:Gl X "enumerate") (hm:X.mg "enumerate" =none) (ha:PA X [a] ta) (hs:ao [a] X.env=[(false,ay a X.env)]:=by rfl):PI X (.Tuple es x1 tpos) (.Call (.Name "enumerate" p) [a] [] pos) (zyA X.K ta):=by
 intro pins s σ H R I h;refine Call_ (zii I hg hm boot_enumerate (fu (thn (ha pos pins s σ H _ I h) λus s1 ⟨vs,H1,I1,r1,q1⟩=>?_) hs rfl));obtain⟨k,a,xs,e,hq,q⟩:=q1;subst e;cases r1 with
 |cons r rr=>
  cases rr;cases(show _=a_ a from r);obtain⟨its,rv,pl,hz⟩:=I1.seq hq;refine zpt pl λg he hit hz' kk=>jD he ?_;have I2:Inv X pins σ H1 { s1 with heap:=g }:=I1.kept (t':=s1.toks) kk;refine⟨s1.heap.objs.size+1,[s1.heap.objs.size+1,s1.heap.objs.size],_,_,H1,rfl,I2,zoE k a _ _ (Nat.succ_ne_self _),⟨⟨.none,he⟩,hit⟩,λb hb=>?_,q⟩;have hb':s1.heap.objs.size≤b:=by
   rcases az.mp hb with rfl |hb
   ·exact Nat.le_succ _
   ·have q:b=s1.heap.objs.size:=by simpa using hb
    exact fh q.symm
  exact I1.fpOk hb' (I1.hok.fresh hb')
noncomputable def zgP:Nat→List W→List W
 |_,[]=>[]
 |n,w::ws=> .tup [.int n,w]::zgP (n+1) ws
theorem zmy:∀{ws:List W}{n i:Nat}{u:W},(zgP n ws)[i]? =ae u→ ∃w,ws[i]? =ae w∧u= .tup [.int ((n+i:Nat):Int),w]
 | [],_,_,_,h=>by simp [zgP]at h
 |w::ws,n,0,u,h=>by
  simp [zgP]at h;exact⟨w,rfl,by rw[←h];rfl⟩
 |w::ws,n,i+1,u,h=>by
  obtain⟨w',e,q⟩:=zmy (ws:=ws) (n:=n+1) (i:=i) (u:=u) (by simpa [zgP]using h);refine⟨w',by simpa using e,?_⟩
  rw[q,show n+1+i=n+(i+1) by omega]
theorem zme:∀{ws:List W}{n:Nat},(zgP n ws).length=ws.length
 | [],_=>rfl
 |w::ws,n=>by simp [zgP,zme (ws:=ws)]
theorem ztK{K:aj}{k:Bool}{a:Addr}{ws:List W}{G:Sto→Prop}{H0:Hp}{S0:Sto}(h:∀S H,Ext H0 S0 H S→RepS K H S→G S→ ∃vs,SqK k K H a vs∧Reps K H ws vs):ItW K (Ite k K a) (zgP 0 ws) G H0 S0:=λi S H e hS hG=>by
 obtain⟨vs,hq,r⟩:=h S H e hS hG;refine⟨λu eu=>?_,λhl=>⟨vs,hq,by rw[←r.length,hl,zme];exact au _⟩⟩
 obtain⟨w,ew,rfl⟩:=zmy eu;obtain⟨v,ev,rv⟩:=r.get ew;refine⟨⟨vs,v,hq,ev⟩,λx H' ⟨p,y,hp,e1,e2,e3⟩=>?_⟩;subst e1 e2;have e4:=e3 vs hq;rw[ev]at e4;cases e4;rw[b5];exact⟨.new hp,hS.new hp, .tup zay (.cons (.int _) (.cons (rv.ext (.new (S:=S) hp)) .nil))⟩
noncomputable def zog:W→Sto→(List W→(Sto→Prop)→Prop)→Prop
 | .tup ws,_,Q=>Q ws λ_=>True
 | .ref a,S,Q=>zcu S a λws=>Q ws λS'=>S' a=ae (.lst ws)
 | .scr ns,_,Q=>Q (ns.map W.int) λ_=>True
 |_,_,_=>False
theorem zvu{K:aj}{H:Hp}{S:Sto}{w:W}{v:V}{Q:List W→(Sto→Prop)→Prop}(r:Rep K H w v) (hS:RepS K H S) (h:zog w S Q) :
  ∃k a ws G,v= .ref a∧G S∧(∀S' H',Ext H S H' S'→RepS K H' S'→G S'→ ∃vs,SqK k K H' a vs∧Reps K H' ws vs)∧Q ws G:=by
 cases r with
 |tup f hs=>exact⟨false,_,_,_,rfl,trivial,λS' H' e hS' _=>⟨_, .of (e.tup _ _ f),hs.ext e⟩,h⟩
 |ref a=>
  obtain⟨ws,ea,h⟩:=zbl h;exact⟨true,_,ws,_,rfl,ea,λS' H' e hS' g=>by
   obtain⟨vs,f,hs⟩:=hS' a _ g;exact⟨vs, .of f,hs⟩,h⟩
 |scr f=>exact⟨true,_,_,_,rfl,trivial,λS' H' e hS' _=>⟨_,(e.fz f).sq,Reps.ofInts _⟩,h⟩
 |_=>exact h.elim
noncomputable def zod (t:WE):WI:=λE σ S Q=>t E σ S λw S1=>zog w S1 λws G=>Q (zgP 0 ws) G S1
theorem ziR{a:Expr}{ta:WE}{p pos:aC}(hg:Gl X "enumerate") (hm:X.mg "enumerate" =none) (ha:JE X a ta) (hs:ao [a] X.env=[(false,ay a X.env)]:=by rfl) (hs2:ao [a] X.env=(false,ay a X.env)::ao [] X.env:=by rfl):JI X (.Tuple es x1 tpos) (.Call (.Name "enumerate" p) [a] [] pos) (zod ta):=λE hE=>
 (zuG hg hm (zdz (ha E hE) pa_nil hs2) hs).mono λσ H R ⟨σW,S,QW,hσ,hS,ht,hR⟩=>⟨σW,S,_,hσ,hS,ht,λw S1 v H1 e1 r1 hS1 h1=>by
  obtain⟨k,a,ws,G,rfl,hG,hq,h⟩:=zvu r1 hS1 h1;obtain⟨vs,hv,_⟩:=hq S1 H1 .refl hS1 hG;exact⟨k,a,vs,rfl,hv,hR _ _ S1 _ H1 e1 hS1 hG (ztK hq) h⟩⟩
end
section
variable {prog:aE}{w:aB}{A:aN}{E:Value→ah→Prop}{s:ah}
theorem zrk{k1 k2:Bool}{z TI TO i1 i2 l1 l2:Addr}{n1 n2:Nat}{xs ys:Array Value}{x y a b:Value}{Q:Option Value→ah→Prop}(D:gB z TI TO i1 i2 l1 l2)
  (hz:b3 s.heap z TI TO .none) (hTI:bI s.heap TI (.ref i1) (.ref i2)) (hTO:bI s.heap TO a b) (h1:SeqIt k1 s.heap i1 l1 n1) (h2:SeqIt k2 s.heap i2 l2 n2) (hl1:SeqIs k1 s.heap l1 xs) (hl2:SeqIs k2 s.heap l2 ys) (hx:xs[n1]? =ae x) (hy:ys[n2]? =ae y)
  (hQ:∀g,b3 g z TI TO (cj s.heap.objs.size)→bI g TO x y→SeqIt k1 g i1 l1 (n1+1)→SeqIt k2 g i2 l2 (n2+1)→bI g s.heap.objs.size x y→g.objs.size=s.heap.objs.size+1→
   (∀c o,c≠z→c≠TO→c≠i1→c≠i2→s.heap.get? c=ae o→g.get? c=ae o)→Q (ae (.ref s.heap.objs.size)) { s with heap:=g }):am (ap prog w) A (bT (.ref z)) Q E s:=by
 have hT:s.TypeIs (.ref z) "zip" :=⟨_,hz,rfl⟩;unfold bT;refine ak (fG (df (name:=bh "__next__") hT fI (c8 fI hT iD ?_ (kh _))));show am _ _ (field (.ref z) 2 >>= _) _ _ _;refine ak (bA hz rfl (x:= .bool false) rfl ?_);show am _ _ (field (.ref z) 3 >>= _) _ _ _;refine ak (bA hz rfl (x:= .ref TI) rfl ?_);refine ak (cU hTI rfl ?_);show am _ _ (d9 (.ref z) >>= _) _ _ _;refine ak ?_;unfold d9;refine ak (bA hz rfl (x:= .none) rfl (aD ?_));simp only[if_true];refine ak (eC ?_);refine ak (bA hz rfl (x:= .ref TO) rfl ?_);refine ak (cf hz (by simp) λg1 hz1 hs1=>?_);replace hz1:b3 g1 z TI TO .ellipsis:=hz1;refine ak ?_;simp only[jK,je,gx,ju];refine ak (ak (fY ?_));show am _ _ (cB (.ref i1) >>= _) _ _ _;refine ak (zfr (h1.at λo e=>hs1.extBut _ o D.i1z e) (hl1.at λo e=>hs1.extBut _ o D.l1z e) hx λg2 h12 hs2=>aD ?_);have hTO2:bI g2 TO a b:=hs2.extBut _ _ D.TOi1 (hs1.extBut _ _ D.TOz hTO);refine ak (cU hTO2 rfl ?_);refine ak (gV hTO2 λg3 hTO3 hs3=>?_);replace hTO3:bI g3 TO x b:=hTO3;refine ak (fJ (aD ?_));refine ak (ak (fY ?_));show am _ _ (cB (.ref i2) >>= _) _ _ _;refine ak (zfr (h2.at λo e=>hs3.extBut _ o D.TOi2.symm (hs2.extBut _ o D.i12.symm (hs1.extBut _ o D.i2z e))) (hl2.at λo e=>hs3.extBut _ o D.l2TO (hs2.extBut _ o D.l2i1 (hs1.extBut _ o D.l2z e))) hy λg4 h24 hs4=>aD ?_);have hTO4:bI g4 TO x b:=hs4.extBut _ _ D.TOi2 hTO3;refine ak (cU hTO4 rfl ?_);refine ak (gV hTO4 λg5 hTO5 hs5=>?_);replace hTO5:bI g5 TO x y:=hTO5;refine ak (fJ (aD (aD ?_)));refine ak (cU hTO5 rfl ?_);refine ak (jM ?_);have hsz:g5.objs.size=s.heap.objs.size:=by rw[hs5.1,hs4.1,hs3.1,hs2.1,hs1.1]
 have hz5:b3 g5 z TI TO .ellipsis:=hs5.extBut _ _ D.TOz.symm (hs4.extBut _ _ D.i2z.symm (hs3.extBut _ _ D.TOz.symm (hs2.extBut _ _ D.i1z.symm hz1)));have hk5:∀c o,c≠z→c≠TO→c≠i1→c≠i2→s.heap.get? c=ae o→g5.get? c=ae o:=λc o c1 c2 c3 c4 e=>hs5.extBut _ _ c2 (hs4.extBut _ _ c4 (hs3.extBut _ _ c2 (hs2.extBut _ _ c3 (hs1.extBut _ _ c1 e))));have h15:SeqIt k1 g5 i1 l1 (n1+1):=h12.at λo e=>hs5.extBut _ o D.TOi1.symm (hs4.extBut _ o D.i12 (hs3.extBut _ o D.TOi1.symm e));have h25:SeqIt k2 g5 i2 l2 (n2+1):=h24.at λo e=>hs5.extBut _ o D.TOi2.symm e;have hzlt:z<g5.objs.size:=aJ hz5;show am _ _ (fj (.ref z) (.ref g5.objs.size) >>= _) _ _ _;refine ak ?_;unfold fj;have hz6:b3 (g5.push { cls:= .type "tuple",data:= .seq #[x,y] }) z TI TO .ellipsis:=aH _ hz5;refine ak (cf hz6 (by simp) λg7 hz7 hs7=>?_);replace hz7:b3 g7 z TI TO (cj g5.objs.size):=hz7;refine cf hz7 (by simp) λg8 hz8 hs8=>?_;replace hz8:b3 g8 z TI TO (cj g5.objs.size):=hz8;have up:∀c o,c≠z→g5.get? c=ae o→g8.get? c=ae o:=λc o c1 e=>hs8.extBut _ _ c1 (hs7.extBut _ _ c1 (aH _ e));have hT8:bI g8 g5.objs.size x y:=hs8.extBut _ _ (cD hzlt) (hs7.extBut _ _ (cD hzlt) (bi _ rfl));have hzz:g8.objs.size=g5.objs.size+1:=by rw[hs8.1,hs7.1,cL]
 rw[hsz]at hz8 hT8 hzz;refine aD ⟨_,rfl,aD ?_⟩;show Q (ae (.ref g5.objs.size)) _;rw[hsz];exact hQ g8 hz8 (up _ _ D.TOz hTO5) (h15.at λo e=>up _ o D.i1z e) (h25.at λo e=>up _ o D.i2z e) hT8 hzz λc o c1 c2 c3 c4 e=>up c o c1 (hk5 c o c1 c2 c3 c4 e)
theorem zuQ{k1 k2:Bool}{z TI TO i1 i2 l1 l2:Addr}{n1 n2:Nat}{xs ys:Array Value}{a b:Value}{Q:Option Value→ah→Prop}(hh:A.handled=none) (D:gB z TI TO i1 i2 l1 l2)
  (hz:b3 s.heap z TI TO .none) (hTI:bI s.heap TI (.ref i1) (.ref i2)) (hTO:bI s.heap TO a b) (h1:SeqIt k1 s.heap i1 l1 n1) (h2:SeqIt k2 s.heap i2 l2 n2) (hl1:SeqIs k1 s.heap l1 xs) (hl2:SeqIs k2 s.heap l2 ys) (hend:xs[n1]? =none∨ys[n2]? =none)
  (hQ:∀g,(∀c o,c≠z→c≠TO→c≠i1→c≠i2→s.heap.get? c=ae o→g.get? c=ae o)→Q none { s with heap:=g }):am (ap prog w) A (bT (.ref z)) Q E s:=by
 have hT:s.TypeIs (.ref z) "zip" :=⟨_,hz,rfl⟩;have fin:∀(g:Heap) (e:Addr),(∀c o,c≠z→c≠TO→c≠i1→c≠i2→s.heap.get? c=ae o→g.get? c=ae o)→(∃o,g.get? e=ae o∧o.cls= .type "StopIteration")→
   am (ap prog w) A (do if(←isInstance (.ref e) (.type "StopIteration")) then pure none else throw (.ref e)) Q E { s with heap:=g }:=λg e hk ⟨o,ho,hc⟩=>
  ak (kq (T:= "StopIteration") (b:=true) ⟨o,ho,hc⟩ jS (aD (hQ _ hk)))
 unfold bT;refine ak (fG (df (name:=bh "__next__") hT fI (c8 fI hT iD ?_ (kh _))));show am _ _ (field (.ref z) 2 >>= _) _ _ _;refine ak (bA hz rfl (x:= .bool false) rfl ?_);show am _ _ (field (.ref z) 3 >>= _) _ _ _;refine ak (bA hz rfl (x:= .ref TI) rfl ?_);refine ak (cU hTI rfl ?_);show am _ _ (d9 (.ref z) >>= _) _ _ _;refine ak ?_;unfold d9;refine ak (bA hz rfl (x:= .none) rfl (aD ?_));simp only[if_true];refine ak (eC ?_);refine ak (bA hz rfl (x:= .ref TO) rfl ?_);refine ak (cf hz (by simp) λg1 hz1 hs1=>?_);replace hz1:b3 g1 z TI TO .ellipsis:=hz1;refine ak ?_;simp only[jK,je,gx,ju];refine ak (ak (fY ?_));show am _ _ (cB (.ref i1) >>= _) _ _ _;cases hx:xs[n1]? with
 |none=>
  refine ak (ziC hh (h1.at λo e=>hs1.extBut _ o D.i1z e) (hl1.at λo e=>hs1.extBut _ o D.l1z e) hx λg2 e hs2 he=>?_);obtain⟨oe,hoe,hce⟩:=he;have hz2:b3 g2 z TI TO .ellipsis:=hs2 _ _ D.i1z.symm hz1;have hez:e≠z:=λx=>by subst x;rw[hz2]at hoe;cases hoe;simp at hce
  refine cf hz2 (by simp) λg3 _ hs3=>fin g3 e (λc o c1 _ c3 _ x=>hs3.extBut _ _ c1 (hs2 _ _ c3 (hs1.extBut _ _ c1 x))) ⟨oe,hs3.extBut _ _ hez hoe,hce⟩
 |some x=>
  have hy:ys[n2]? =none:=by rcases hend with h |h;rw[hx]at h;cases h;exact h
  refine ak (zfr (h1.at λo e=>hs1.extBut _ o D.i1z e) (hl1.at λo e=>hs1.extBut _ o D.l1z e) hx λg2 h12 hs2=>aD ?_);have hTO2:bI g2 TO a b:=hs2.extBut _ _ D.TOi1 (hs1.extBut _ _ D.TOz hTO);refine ak (cU hTO2 rfl ?_);refine ak (gV hTO2 λg3 hTO3 hs3=>?_);refine ak (fJ (aD ?_));refine ak (ak (fY ?_));show am _ _ (cB (.ref i2) >>= _) _ _ _;refine ak (ziC hh (h2.at λo e=>hs3.extBut _ o D.TOi2.symm (hs2.extBut _ o D.i12.symm (hs1.extBut _ o D.i2z e))) (hl2.at λo e=>hs3.extBut _ o D.l2TO (hs2.extBut _ o D.l2i1 (hs1.extBut _ o D.l2z e))) hy λg4 e hs4 he=>?_);obtain⟨oe,hoe,hce⟩:=he;have hz4:b3 g4 z TI TO .ellipsis:=hs4 _ _ D.i2z.symm (hs3.extBut _ _ D.TOz.symm (hs2.extBut _ _ D.i1z.symm hz1));have hez:e≠z:=λx=>by subst x;rw[hz4]at hoe;cases hoe;simp at hce
  refine cf hz4 (by simp) λg5 _ hs5=>fin g5 e (λc o c1 c2 c3 c4 x=>hs5.extBut _ _ c1 (hs4 _ _ c4 (hs3.extBut _ _ c2 (hs2.extBut _ _ c3 (hs1.extBut _ _ c1 x))))) ⟨oe,hs5.extBut _ _ hez hoe,hce⟩
end
noncomputable abbrev zH1 (k1:Bool) (h:Heap) (l1:Addr):Heap:=h.push (zed k1 l1)
noncomputable abbrev zH2 (k1 k2:Bool) (h:Heap) (l1 l2:Addr):Heap:=(zH1 k1 h l1).push (zed k2 l2)
noncomputable abbrev zH3 (k1 k2:Bool) (h:Heap) (l1 l2:Addr):Heap:=(zH2 k1 k2 h l1 l2).push { cls:= .type "tuple",data:= .seq #[.ref h.objs.size, .ref (zH1 k1 h l1).objs.size] }
noncomputable abbrev zH4 (k1 k2:Bool) (h:Heap) (l1 l2:Addr):Heap:=(zH3 k1 k2 h l1 l2).push { cls:= .type "tuple",data:= .seq #[.none, .none] }
noncomputable abbrev zH5 (k1 k2:Bool) (h:Heap) (l1 l2:Addr):Heap:=(zH4 k1 k2 h l1 l2).push { cls:= .type "zip",data:= .fields #[.none, .bool false, .bool false, .ref (zH2 k1 k2 h l1 l2).objs.size, .ref (zH3 k1 k2 h l1 l2).objs.size] }
theorem znv{k1 k2:Bool}(l1 l2:Addr) (xs ys:Array Value) :
  PySem.Meets (bU.«zip.__new__» ⟨[.type "zip", .ref l1, .ref l2],[]⟩) (λ_ R s=>SeqIs k1 s.heap l1 xs∧SeqIs k2 s.heap l2 ys∧R (.ok (.ret (.ref (zH4 k1 k2 s.heap l1 l2).objs.size))) { s with heap:=zH5 k1 k2 s.heap l1 l2 }):=
 .of_wp λprog w A R s h=>by
  obtain⟨hp,g,d,tk,os⟩:=s;obtain⟨hl1,hl2,h⟩:=h;have hsub:=sub_zip;have f1:∀{A:aN}{E:Value→ah→Prop}{Q:Value→ah→Prop},Q (.ref hp.objs.size) ⟨hp.push (zed k1 l1),g,d,tk,os⟩→am (ap prog w) A (dh (.ref l1)) Q E ⟨hp,g,d,tk,os⟩:=λq=>ziT (s:=⟨hp,g,d,tk,os⟩) hl1 q;have f2:∀{A:aN}{E:Value→ah→Prop}{Q:Value→ah→Prop},Q (.ref (hp.push (zed k1 l1)).objs.size) ⟨(hp.push (zed k1 l1)).push (zed k2 l2),g,d,tk,os⟩→am (ap prog w) A (dh (.ref l2)) Q E ⟨hp.push (zed k1 l1),g,d,tk,os⟩:=λq=>ziT (s:=⟨hp.push (zed k1 l1),g,d,tk,os⟩) (hl2.push _) q
  wp_walk using f1,f2
  exact⟨_,rfl,h⟩
section
variable {prog:aE}{w:aB}{A:aN}{E:Value→ah→Prop}{s:ah}
theorem zsh{k1 k2:Bool}{l1 l2:Addr}{xs ys:Array Value}{Q:Value→ah→Prop}(hl1:SeqIs k1 s.heap l1 xs) (hl2:SeqIs k2 s.heap l2 ys)
  (h:∀g,b3 g (s.heap.objs.size+4) (s.heap.objs.size+2) (s.heap.objs.size+3) .none→bI g (s.heap.objs.size+2) (.ref s.heap.objs.size) (.ref (s.heap.objs.size+1))→
   bI g (s.heap.objs.size+3) .none .none→SeqIt k1 g s.heap.objs.size l1 0→SeqIt k2 g (s.heap.objs.size+1) l2 0→g.objs.size=s.heap.objs.size+5→
   (∀c o,s.heap.get? c=ae o→g.get? c=ae o)→Q (.ref (s.heap.objs.size+4)) { s with heap:=g }):am (ap prog w) A (call (.type "zip") [.ref l1, .ref l2]) Q E s:=by
 refine callType_new PySem.F.called_zip (by decide) (PySem.F.typeCall_zip_2 _ _) (PySem.F.newCall_zip_2 _ _) (λobj=>PySem.F.args_object_init_3 obj _ _) PySem.F.entry_zip_new (znv (k1:=k1) (k2:=k2) l1 l2 xs ys) ⟨hl1,hl2,?_⟩;have z1:(zH1 k1 s.heap l1).objs.size=s.heap.objs.size+1:=cL ..;have z2:(zH2 k1 k2 s.heap l1 l2).objs.size=s.heap.objs.size+2:=by rw[cL,z1]
 have z3:(zH3 k1 k2 s.heap l1 l2).objs.size=s.heap.objs.size+3:=by rw[cL,z2]
 have z4:(zH4 k1 k2 s.heap l1 l2).objs.size=s.heap.objs.size+4:=by rw[cL,z3]
 have z5:(zH5 k1 k2 s.heap l1 l2).objs.size=s.heap.objs.size+5:=by rw[cL,z4]
 have g5:(zH5 k1 k2 s.heap l1 l2).get? (zH4 k1 k2 s.heap l1 l2).objs.size=ae _:=bi _ rfl;have g4:(zH5 k1 k2 s.heap l1 l2).get? (zH3 k1 k2 s.heap l1 l2).objs.size=ae _:=aH _ (bi _ rfl);have g3:(zH5 k1 k2 s.heap l1 l2).get? (zH2 k1 k2 s.heap l1 l2).objs.size=ae _:=aH _ (aH _ (bi _ rfl));have g2:(zH5 k1 k2 s.heap l1 l2).get? (zH1 k1 s.heap l1).objs.size=ae _:=aH _ (aH _ (aH _ (bi _ zfX)));have g1:(zH5 k1 k2 s.heap l1 l2).get? s.heap.objs.size=ae _:=aH _ (aH _ (aH _ (aH _ (bi _ zfX))));show _∧_;rw[z2,z3,z4]at g5;rw[z1,z2]at g3;rw[z3]at g4;rw[z1]at g2;rw[z4];exact⟨⟨_,g5,rfl⟩,h _ g5 g3 g4 (ziU g1) (ziU g2) z5 λc o x=>aH _ (aH _ (aH _ (aH _ (aH _ x))))⟩
end
def SqZ (k:Bool) (K:aj) (H:Hp) (a:Addr) (xs:List V):Prop:=if k=true then SqL K H a xs else H a=ae (.tup xs)
theorem SqZ.sq{k:Bool}{K:aj}{H:Hp}{a:Addr}{xs:List V}(h:SqZ k K H a xs):SqK k K H a xs:=by
 cases k with
 |true=>exact h
 |false=>exact .of h
theorem SeqIs.ob{k:Bool}{h:Heap}{a:Addr}{its:Array Value}(x:SeqIs k h a its):∃o n,h.get? a=ae o∧o.data= .seq its n∧(k=true→o.cls= .type "list"):=by
 cases k with
 |true=>obtain⟨o,ho,hc,n,hd⟩:=(show h.IsList a its from x);exact⟨o,n,ho,hd,λ_=>hc⟩
 |false=>obtain⟨o,ho,hc,n,hd⟩:=(show h.IsTuple a its from x);exact⟨o,n,ho,hd,λz=>by cases z⟩
theorem SeqIs.ne_fields{k:Bool}{h:Heap}{a b:Addr}{its:Array Value}{o:Obj}{vs:Array Value}(x:SeqIs k h a its) (e:h.get? b=ae o) (d:o.data= .fields vs):a≠b:=λz=>by
 subst z;obtain⟨o',n,ho,hd,_⟩:=x.ob;rw[ho]at e;cases e;rw[hd]at d;cases d
noncomputable def Itz (k1 k2:Bool) (K:aj) (a b:Addr):It:=
  ⟨λi H=>∃xs ys x y,SqZ k1 K H a xs∧SqZ k2 K H b ys∧xs[i]? =ae x∧ys[i]? =ae y,
   λi H v H'=>∃p x y,H p=none∧v= .ref p∧H'=upd H p (.tup [x,y])∧(∀xs,SqZ k1 K H a xs→xs[i]? =ae x)∧ ∀ys,SqZ k2 K H b ys→ys[i]? =ae y,
   λi H=>∃xs ys,SqZ k1 K H a xs∧SqZ k2 K H b ys∧(xs.length≤i∨ys.length≤i)⟩
structure ZipFar (z TI TO i1 i2:Addr):Prop where
  TIz:TI≠z
  TOz:TO≠z
  i1z:i1≠z
  i2z:i2≠z
  TITO:TI≠TO
  TIi1:TI≠i1
  TIi2:TI≠i2
  TOi1:TO≠i1
  TOi2:TO≠i2
  i12:i1≠i2
def zxy (k1 k2:Bool) (z TI TO i1 i2 a b:Addr) (i:Nat) (h:Heap):Prop:=b3 h z TI TO .none∧bI h TI (.ref i1) (.ref i2)∧(∃u v,bI h TO u v)∧SeqIt k1 h i1 a i∧SeqIt k2 h i2 b i
section
variable {X:Cx}{pins:List (Addr×Obj)}{σ:St}{H:Hp}{s:ah}
theorem zky{k1 k2:Bool}{z TI TO i1 i2 a b:Addr}{i:Nat}{xs ys:List V}(I:Inv X pins σ H s) (hTO:H TO=none) (D:ZipFar z TI TO i1 i2) (st:zxy k1 k2 z TI TO i1 i2 a b i s.heap) (ha:SqZ k1 X.K H a xs) (hb:SqZ k2 X.K H b ys):gB z TI TO i1 i2 a b:=by
 obtain⟨hz,hTI,⟨u,v,hTOo⟩,h1,h2⟩:=st;obtain⟨o1,v1,e1,d1⟩:=h1.ob;obtain⟨o2,v2,e2,d2⟩:=h2.ob;obtain⟨its,_,pa,_⟩:=I.seq ha.sq;obtain⟨its2,_,pb,_⟩:=I.seq hb.sq;have nTO:∀{k:Bool}{c:Addr}{zs:List V}{its:Array Value},SqZ k X.K H c zs→SeqIs k s.heap c its→c≠TO:=λ{k c zs its} hc pc e=>by
  subst e;cases k with
  |false=>rw[show H c=ae (.tup zs) from hc]at hTO;cases hTO
  |true=>
   obtain⟨o,n,ho,_,hcl⟩:=pc.ob;rw[hTOo]at ho;cases ho;have:=hcl rfl;simp at this
 exact⟨D.TIz,D.TOz,D.i1z,D.i2z,D.TITO,D.TIi1,D.TIi2,D.TOi1,D.TOi2,D.i12,pa.ne_fields hz rfl,nTO ha pa,pa.ne_fields e1 d1,pa.ne_fields e2 d2,pb.ne_fields hz rfl,nTO hb pb,pb.ne_fields e1 d1,pb.ne_fields e2 d2⟩
end
theorem zrC{P:aE}{w:aB}{K:aj}{es:List Expr}{x1:Nat}{pos:aC}(k1 k2:Bool) (a b z TI TO i1 i2:Addr) (D:ZipFar z TI TO i1 i2):Turn P w K (.Tuple es x1 pos) (Itz k1 k2 K a b) [z,TI,TO,i1,i2] z (zxy k1 k2 z TI TO i1 i2 a b) where
  mem:=by simp
  obj:=λi h ⟨hz,hTI,⟨u,v,hTO⟩,h1,h2⟩ c hc=>by
    obtain⟨o1,v1,e1,d1⟩:=h1.ob;obtain⟨o2,v2,e2,d2⟩:=h2.ob;simp only[az,bx,or_false]at hc;rcases hc with rfl |rfl |rfl |rfl |rfl
    · exact⟨_,hz,λv z=>by cases z⟩
    · exact⟨_,hTI,λv z=>by cases z⟩
    · exact⟨_,hTO,λv z=>by cases z⟩
    · exact⟨_,e1,λv z=>by rw[d1]at z;cases z⟩
    · exact⟨_,e2,λv z=>by rw[d2]at z;cases z⟩
  keep:=λi h h' ⟨hz,hTI,⟨u,v,hTO⟩,h1,h2⟩ kk=>⟨kk z (by simp) _ hz,kk TI (by simp) _ hTI,⟨u,v,kk TO (by simp) _ hTO⟩,h1.at λo q=>kk i1 (by simp) o q,h2.at λo q=>kk i2 (by simp) o q⟩
  item:=by
    intro X hP hw hK hc i pins s σ H E I hf st hg;subst hP hw hK;obtain⟨xs,ys,x,y,ha,hb,hx,hy⟩:=hg;have Z:=zky I (hf TO (by simp)).1 D st ha hb;obtain⟨hz,hTI,⟨c0,d0,hTO⟩,h1,h2⟩:=st;obtain⟨its,rv,pa,_⟩:=I.seq ha.sq;obtain⟨its2,rv2,pb,_⟩:=I.seq hb.sq;obtain⟨u,hu,ru⟩:=rv.get hx;obtain⟨u2,hu2,ru2⟩:=rv2.get hy;refine zrk Z hz hTI hTO h1 h2 pa pb (x:=u) (y:=u2) (by simpa using hu) (by simpa using hu2) λg hz1 hTO1 h11 h21 hp hz' kk=>⟨_,rfl,?_⟩;refine wpAny_letOwnedTupleGo_zip hz1 λg2 hz2 hs2=>?_;have hs2':∀c o,c≠z→g.get? c=ae o→g2.get? c=ae o:=λc o hc e=>(hs2.2 c hc).trans e;have kk2:∀c o,c∉ [z,TI,TO,i1,i2]→s.heap.get? c=ae o→g2.get? c=ae o:=λc o hc q=>by
      simp only[az,bx,or_false,not_or]at hc;exact hs2' c o hc.1 (kk c o hc.1 hc.2.2.1 hc.2.2.2.1 hc.2.2.2.2 q)
    have hn:=I.hok.fresh (au s.heap.objs.size);have hpz:s.heap.objs.size≠z:=cD (aJ hz);have ht2:g2.get? s.heap.objs.size=ae { cls:= .type "tuple",data:= .seq #[u,u2] }:=hs2' _ _ hpz hp;refine⟨.ref s.heap.objs.size,upd H s.heap.objs.size (.tup [x,y]),I.turnNew (fp:=[z,TI,TO,i1,i2]) (t':=s.toks) (au _) kk2 hf ⟨by show 2≤sizeLine;rw[dw];decide,[u,u2], .cons ru (.cons ru2 .nil),⟨_,ht2,rfl,_,rfl⟩⟩,rfl,
      ⟨_,x,y,hn,rfl,rfl,λzs hy=>by rw[I.seq_inj hy.sq ha.sq];exact hx,λzs hy'=>by rw[I.seq_inj hy'.sq hb.sq];exact hy⟩,
      ⟨hz2,hs2' _ _ D.TIz (kk _ _ D.TIz D.TITO D.TIi1 D.TIi2 hTI),⟨u,u2,hs2' _ _ D.TOz hTO1⟩,h11.at λo q=>hs2' _ o D.i1z q,h21.at λo q=>hs2' _ o D.i2z q⟩,λc hc=>?_⟩
    have hlt:∃o,s.heap.get? c=ae o:=by
      obtain⟨o1,v1,e1,d1⟩:=h1.ob;obtain⟨o2,v2,e2,d2⟩:=h2.ob;simp only[az,bx,or_false]at hc;rcases hc with rfl |rfl |rfl |rfl |rfl
      · exact⟨_,hz⟩
      · exact⟨_,hTI⟩
      · exact⟨_,hTO⟩
      · exact⟨_,e1⟩
      · exact⟨_,e2⟩
    obtain⟨o,ho⟩:=hlt;rw[zaz (br (aJ ho))];exact(hf c hc).1
  done:=by
    intro X hP hw hK hc i pins s σ H E I hf st hg;subst hP hw hK;obtain⟨xs,ys,ha,hb,hx⟩:=hg;have Z:=zky I (hf TO (by simp)).1 D st ha hb;obtain⟨hz,hTI,⟨c0,d0,hTO⟩,h1,h2⟩:=st;obtain⟨its,rv,pa,_⟩:=I.seq ha.sq;obtain⟨its2,rv2,pb,_⟩:=I.seq hb.sq;have hl:=rv.length;have hl2:=rv2.length;refine zuQ (I.ok.hd hc) Z hz hTI hTO h1 h2 pa pb ?_ λg eb=>⟨rfl,I.turnedL (fp:=[z,TI,TO,i1,i2]) (t':=s.toks) (λc o hc q=>?_) hf⟩
    · rcases hx with hx |hx
      · exact .inl (by simp;omega)
      · exact .inr (by simp;omega)
    · simp only[az,bx,or_false,not_or]at hc;exact eb c o hc.1 hc.2.2.1 hc.2.2.2.1 hc.2.2.2.2 q
  self:=λA i s Q E st h=>ku st.1 h
section
variable {X:Cx}{es:List Expr}{x1:Nat}{tpos:aC}
noncomputable def zAS (K:aj) (ta:TA):TI:=λσ H R=>ta σ H λvs H1=>∃k1 k2 a b xs ys,vs=[.ref a, .ref b]∧SqZ k1 K H1 a xs∧SqZ k2 K H1 b ys∧R (Itz k1 k2 K a b) H1
theorem zwX{a b:Expr}{ta:TA}{p pos:aC}(hg:Gl X "zip") (hm:X.mg "zip" =none) (ha:PA X [a,b] ta) (hs:ao [a,b] X.env=[(false,ay a X.env),(false,ay b X.env)]:=by rfl) (hs2:ao [b] X.env=[(false,ay b X.env)]:=by rfl):PI X (.Tuple es x1 tpos) (.Call (.Name "zip" p) [a,b] [] pos) (zAS X.K ta):=by
 intro pins s σ H R I h;refine Call_ (zii I hg hm boot_zip (fu (thn (ha pos pins s σ H _ I h) λus s1 ⟨vs,H1,I1,r1,q1⟩=>?_) (by rw[hs,hs2]) (by rw[hs2];rfl)));obtain⟨k1,k2,a,b,xs,ys,e,hq1,hq2,q⟩:=q1;subst e;cases r1 with
 |cons r rr=>
  cases rr with
  |cons r' rr=>
   cases rr;cases(show _=a_ a from r);cases(show _=a_ b from r');obtain⟨its,rv,pl,_⟩:=I1.seq hq1.sq;obtain⟨its2,rv2,pl2,_⟩:=I1.seq hq2.sq;refine zsh pl pl2 λg hz hTI hTO h1 h2 hz' kk=>ku hz ?_;have I2:Inv X pins σ H1 { s1 with heap:=g }:=I1.kept (t':=s1.toks) kk;have ne:∀(n i j:Nat),i≠j→n+i≠n+j:=λn i j h e=>h (Nat.add_left_cancel e);have D:ZipFar (s1.heap.objs.size+4) (s1.heap.objs.size+2) (s1.heap.objs.size+3) s1.heap.objs.size (s1.heap.objs.size+1):=
    ⟨ne _ 2 4 (by decide),ne _ 3 4 (by decide),ne _ 0 4 (by decide),ne _ 1 4 (by decide),ne _ 2 3 (by decide),ne _ 2 0 (by decide),ne _ 2 1 (by decide),ne _ 3 0 (by decide),ne _ 3 1 (by decide),ne _ 0 1 (by decide)⟩
   refine⟨_,_,_,_,H1,rfl,I2,zrC k1 k2 a b _ _ _ _ _ D,⟨hz,hTI,⟨_,_,hTO⟩,h1,h2⟩,λc hc=>?_,q⟩;have hb':s1.heap.objs.size≤c:=by
    simp only[az,bx,or_false]at hc;rcases hc with rfl |rfl |rfl |rfl |rfl
    ·exact fi _ _
    ·exact fi _ _
    ·exact fi _ _
    ·exact au _
    ·exact fi _ _
   exact I1.fpOk hb' (I1.hok.fresh hb')
noncomputable def pairs:List W→List W→List W
 |x::xs,y::ys=> .tup [x,y]::pairs xs ys
 |_,_=>[]
theorem zjH:∀{xs ys:List W}{i:Nat}{u:W},(pairs xs ys)[i]? =ae u→ ∃x y,xs[i]? =ae x∧ys[i]? =ae y∧u= .tup [x,y]
 | [],_,_,_,h=>by simp [pairs]at h
 |_::_,[],_,_,h=>by simp [pairs]at h
 |x::xs,y::ys,0,u,h=>by
  simp [pairs]at h;exact⟨x,y,rfl,rfl,h.symm⟩
 |x::xs,y::ys,i+1,u,h=>by simpa using zjH (xs:=xs) (ys:=ys) (i:=i) (u:=u) (by simpa [pairs]using h)
theorem zkD:∀{xs ys:List W},(pairs xs ys).length=min xs.length ys.length
 | [],_=>by simp [pairs]
 |_::_,[]=>by simp [pairs]
 |x::xs,y::ys=>by simp [pairs,zkD (xs:=xs) (ys:=ys)]
theorem zxF{K:aj}{k1 k2:Bool}{a b:Addr}{ws us:List W}{G:Sto→Prop}{H0:Hp}{S0:Sto}(h:∀S H,Ext H0 S0 H S→RepS K H S→G S→(∃vs,SqZ k1 K H a vs∧Reps K H ws vs)∧ ∃vs,SqZ k2 K H b vs∧Reps K H us vs):ItW K (Itz k1 k2 K a b) (pairs ws us) G H0 S0:=λi S H e hS hG=>by
 obtain⟨⟨xs,hq,r⟩,⟨ys,hq2,r2⟩⟩:=h S H e hS hG;refine⟨λu eu=>?_,λhl=>⟨xs,ys,hq,hq2,?_⟩⟩
 ·obtain⟨x,y,ex,ey,rfl⟩:=zjH eu;obtain⟨v,ev,rv⟩:=r.get ex;obtain⟨v2,ev2,rv2⟩:=r2.get ey;refine⟨⟨xs,ys,v,v2,hq,hq2,ev,ev2⟩,λx H' ⟨p,y1,y2,hp,e1,e2,e3,e4⟩=>?_⟩;subst e1 e2;have f1:=e3 xs hq;have f2:=e4 ys hq2;rw[ev]at f1;cases f1;rw[ev2]at f2;cases f2;exact⟨.new hp,hS.new hp, .tup zay (.cons (rv.ext (.new (S:=S) hp)) (.cons (rv2.ext (.new (S:=S) hp)) .nil))⟩
 ·rw[zkD]at hl;rw[←r.length,←r2.length];omega
theorem zmv{K:aj}{H:Hp}{S:Sto}{w:W}{v:V}{Q:List W→(Sto→Prop)→Prop}(r:Rep K H w v) (hS:RepS K H S) (h:zog w S Q) :
  ∃k a ws G,v= .ref a∧G S∧(∀S' H',Ext H S H' S'→RepS K H' S'→G S'→ ∃vs,SqZ k K H' a vs∧Reps K H' ws vs)∧Q ws G:=by
 cases r with
 |tup f hs=>exact⟨false,_,_,_,rfl,trivial,λS' H' e hS' _=>⟨_,e.tup _ _ f,hs.ext e⟩,h⟩
 |ref a=>
  obtain⟨ws,ea,h⟩:=zbl h;exact⟨true,_,ws,_,rfl,ea,λS' H' e hS' g=>by
   obtain⟨vs,f,hs⟩:=hS' a _ g;exact⟨vs, .of f,hs⟩,h⟩
 |scr f=>exact⟨true,_,_,_,rfl,trivial,λS' H' e hS' _=>⟨_,(e.fz f).sq,Reps.ofInts _⟩,h⟩
 |_=>exact h.elim
noncomputable def zsN (t u:WE):WI:=λE σ S Q=>t E σ S λx S1=>u E σ S1 λy S2=>zog x S2 λxs G=>zog y S2 λys G'=>Q (pairs xs ys) (λS'=>G S'∧G' S') S2
theorem zjL{a b:Expr}{ta tb:WE}{p pos:aC}(hg:Gl X "zip") (hm:X.mg "zip" =none) (ha:JE X a ta) (hb:JE X b tb) (hs:ao [a,b] X.env=[(false,ay a X.env),(false,ay b X.env)]:=by rfl) (hs2:ao [b] X.env=[(false,ay b X.env)]:=by rfl)
  (h3:ao [a,b] X.env=(false,ay a X.env)::ao [b] X.env:=by rfl) (h4:ao [b] X.env=(false,ay b X.env)::ao [] X.env:=by rfl):JI X (.Tuple es x1 tpos) (.Call (.Name "zip" p) [a,b] [] pos) (zsN ta tb):=λE hE=>
 (zwX hg hm (zdz (ha E hE) (zdz (hb E hE) pa_nil h4) h3) hs hs2).mono λσ H R ⟨σW,S,QW,hσ,hS,ht,hR⟩=>⟨σW,S,_,hσ,hS,ht,λx S1 v H1 e1 r1 hS1 h1=>⟨σW,S1,_,hσ.ext e1,hS1,h1,λy S2 v2 H2 e2 r2 hS2 h2=>by
  obtain⟨k1,a,ws,G,rfl,hG,hq,h⟩:=zmv (r1.ext e2) hS2 h2;obtain⟨k2,b,us,G',rfl,hG',hq',h⟩:=zmv r2 hS2 h;obtain⟨vs,hv,_⟩:=hq S2 H2 .refl hS2 hG;obtain⟨vs',hv',_⟩:=hq' S2 H2 .refl hS2 hG';exact⟨k1,k2,a,b,vs,vs',rfl,hv,hv',hR _ _ S2 _ H2 (e1.trans e2) hS2 ⟨hG,hG'⟩ (zxF λS' H' e hS' g=>⟨hq S' H' e hS' g.1,hq' S' H' e hS' g.2⟩) h⟩⟩⟩
end
section
noncomputable def zvE (hi:Int) (n:Nat):List W:=(aU n).map λ(i:Nat)=> .int (hi - (i:Int))
noncomputable def zAI (t:WA):WI:=λE σ S Q=>t E σ S λws S1=>match ws with
 | [.int i, .int j, .int c]=>c= -1∧(-(2 ^ 62)≤i∧i<2 ^ 62∧ -(2 ^ 62)≤j∧j<2 ^ 62)∧Q (zvE i (i - j).toNat) (λ_=>True) S1
 |_=>False
end
section
variable {X:Cx}{e:Expr}{es:List Expr}{t:WA}{p pos:aC}
noncomputable def zvP:WF:=λws S Q=>match ws with
 | [.int i]=>Q (.int i) S
 | [.bl b]=>Q (.int (if b then 1 else 0)) S
 |_=>False
theorem zpE{K:aj}:zlQ K (λxs H Q=>(∃i,xs=[.int i]∧Q (.int i) H)∨ ∃k,xs=[.bl k]∧Q (.int (if k then 1 else 0)) H) zvP:=λH vs ws S Q QW r hS h hQ=>by
 cases r with
 |nil=>exact h.elim
 |cons r1 r2=>
  cases r2 with
  |cons _ _=>cases r1<;>exact h.elim
  |nil=>
   cases r1 with
   |int i=>exact .inl ⟨i,rfl,hQ _ S _ H .refl (.int _) hS h⟩
   |bl b=>exact .inr ⟨b,rfl,hQ _ S _ H .refl (.int _) hS h⟩
   |_=>exact h.elim
theorem zvc (hg:Gl X "int") (hm:X.mg "int" =none) (ha:JA X (e::es) t)
  (he:ao (e::es) X.env=(false,ay e X.env)::ao es X.env:=by rfl) (hpl:(aP pos (ao es X.env)).any (·.1)=false:=by rfl):JE X (.Call (.Name "int" p) (e::es) [] pos) (wB zvP t):=
 zwq zpT zpE hg hm dg ha (by decide) (by decide) he hpl
noncomputable def zyt:WF:=λws S Q=>match ws with
 | [.int i, .int j]=>Q (.int (if j > i then j else i)) S
 |_=>False
noncomputable def zki:WF:=λws S Q=>match ws with
 | [.int i, .int j]=>Q (.int (if j<i then j else i)) S
 |_=>False
theorem znG{K:aj}:zlQ K (λxs H Q=>∃i j,xs=[.int i, .int j]∧Q (.int (if j<i then j else i)) H) zki:=λH vs ws S Q QW r hS h hQ=>by
 unfold zki at h;split at h
 ·cases r with
  |cons r1 r2=>cases r2 with
   |cons r2 r3=>cases r3;cases r1;cases r2;exact⟨_,_,rfl,hQ _ S _ H .refl (.int _) hS h⟩
 ·exact h.elim
theorem zpW{id:String}{r:List V→Hp→VK→Prop}{f:WF}{x:Str}(hc:X.calm=true→CallR X (.builtin id) r) (hw:zlQ X.K r f) (hg:Gl X x) (hm:X.mg x=none) (hv:bP x=ae (.builtin id)) (ha:JA X (e::es) t) (hn:x≠ "__name__" :=by decide) (hdb:(x == ("__debug__" :Str))=false:=by decide)
  (he:ao (e::es) X.env=(false,ay e X.env)::ao es X.env:=by rfl) (hpl:(aP pos (ao es X.env)).any (·.1)=false:=by rfl) (hcl:X.calm=true:=by rfl):JE X (.Call (.Name x p) (e::es) [] pos) (wB f t):=λE hE=>zsL (hc hcl) hw hg hm hv ha hn hdb he hpl E hE
theorem zoU (hg:Gl X "min") (hm:X.mg "min" =none) (ha:JA X (e::es) t)
  (he:ao (e::es) X.env=(false,ay e X.env)::ao es X.env:=by rfl) (hpl:(aP pos (ao es X.env)).any (·.1)=false:=by rfl) (hcl:X.calm=true:=by rfl):JE X (.Call (.Name "min" p) (e::es) [] pos) (wB zki t):=zpW zqQ znG hg hm PyProof.Rows.boot_min ha (by decide) (by decide) he hpl hcl
theorem zke{tl:WL}(hg:Gl X "tuple") (hm:X.mg "tuple" =none) (ha:JL X e tl)
  (he:ao [e] X.env=(false,ay e X.env)::ao [] X.env:=by rfl) (hpl:(aP pos (ao [] X.env)).any (·.1)=false:=by rfl):JE X (.Call (.Name "tuple" p) [e] [] pos) (wBL zhq tl):=ztl zfa zls hg hm fB ha (by decide) (by decide) he hpl
theorem zdr (hg:Gl X "tuple") (hm:X.mg "tuple" =none) (ha:JA X (e::es) t)
  (he:ao (e::es) X.env=(false,ay e X.env)::ao es X.env:=by rfl) (hpl:(aP pos (ao es X.env)).any (·.1)=false:=by rfl):JE X (.Call (.Name "tuple" p) (e::es) [] pos) (wB zdo t):=zwq zfa zlo hg hm fB ha (by decide) (by decide) he hpl
end
theorem zqT{K:aj}:∀T∈ ["int", "bool", "str", "tuple", "list"],∀A∈ ["NoneType", "bool", "int", "str", "tuple", "list"],eX K (.type A) (.type T)=ae (zcd A T):=by
 intro T hT A hA;simp only[az,bx,or_false]at hT hA;rcases hT with rfl |rfl |rfl |rfl |rfl<;>rcases hA with rfl |rfl |rfl |rfl |rfl |rfl<;>rfl
theorem gl0:∀(ws:List W) (σ:WSt) (S:Sto) (P:WSt→Sto→Prop),zbI ws σ S P→ws.length=0:=λws σ S P h=>by
 cases ws with
 |nil=>rfl
 |cons _ _=>exact h.elim
theorem glS{i n:Nat}{u:WGs}(h:∀(ws:List W) (σ:WSt) (S:Sto) (P:WSt→Sto→Prop),u ws σ S P→ws.length=n):∀(ws:List W) (σ:WSt) (S:Sto) (P:WSt→Sto→Prop),zaq (wGN i) u ws σ S P→ws.length=n+1:=λws σ S P q=>by
 cases ws with
 |nil=>exact q.elim
 |cons w ws=>exact congrArg (· +1) (h _ _ _ _ q)
noncomputable def zaR:WSp:=λ_ _ _ _=>False
theorem zvM{P:aE}{w:aB}{K:aj}{mg:Str→Option Value}{base:Heap}{f:Addr}{fd:bC}{ps:List Str}{k:Nat}:FnOk P w K mg base (CX1 P w) k f fd ps (zcX K zaR):=
 ⟨λvs H Q E ⟨_,_,_,_,_,_,h,_⟩=>h.elim,λA outer s H args us vs Q E _ _ _ _ ⟨_,_,_,_,_,_,h,_⟩=>h.elim⟩
section
variable {X:Cx}{a b:Expr}{pos:aC}{ta tb:WE}{la lb:WL}
noncomputable def zsF (t:WL) (u:WE):WE:=λE σ S Q=>t E σ S λws S1=>u E σ S1 λy S2=>match y with
 | .int i=>match atI ws i with
  |some w=>Q w S2
  |none=>False
 |_=>False
theorem zmS (ha:JL X a la) (hb:JE X b tb) (hs:zlR b:=by intro _ _;rfl):JE X (.Subscript a b pos) (zsF la tb):=λE hE=>
 (zwn ztq (ha E hE) (hb E hE) hs).mono λσ H Q ⟨σW,S,QW,hσ,hS,ht,hQ⟩=>⟨σW,S,_,hσ,hS,ht,λws S1 vs p H1 e1 fp ep np r1 hS1 h1=>⟨σW,S1,_,hσ.ext e1,hS1,h1,λy S2 v2 H2 e2 r2 hS2 h2=>by
  cases r2 with
  |int i=>
   dsimp only at h2;split at h2
   ·obtain⟨v,ev,r⟩:=zle (r1.ext e2) ‹_›;exact .inl ⟨p,vs,i,v,rfl,rfl, .of (e2.fr p _ ep np).1,ev,hQ _ S2 _ H2 (e1.trans e2) r hS2 h2⟩
   ·exact h2.elim
  |_=>exact h2.elim⟩⟩
noncomputable def zrj (t:WE) (u:WL):WL:=λE σ S Q=>t E σ S λx S1=>u E σ S1 λys S2=>match x with
 | .ref a=>zcu S2 a λxs=>xs.length+ys.length≤sizeLine∧Q (xs++ys) S2
 |_=>False
noncomputable def zoc (t u:WL):WL:=λE σ S Q=>t E σ S λxs S1=>u E σ S1 λys S2=>xs.length+ys.length≤sizeLine∧Q (xs++ys) S2
noncomputable def zpY (t:WL) (u:WE):WL:=λE σ S Q=>t E σ S λxs S1=>u E σ S1 λy S2=>match y with
 | .ref a=>zcu S2 a λys=>xs.length+ys.length≤sizeLine∧Q (xs++ys) S2
 |_=>False
theorem zqa (ha:JE X a ta) (hb:JL X b lb):JL X (.BinOp a .Add b pos) (zrj ta lb):=λE hE=>
 (zpH zmh (ha E hE) (hb E hE)).mono λσ H Q ⟨σW,S,QW,hσ,hS,ht,hQ⟩=>⟨σW,S,_,hσ,hS,ht,λw1 S1 v1 H1 e1 r1 hS1 h1=>⟨σW,S1,_,hσ.ext e1,hS1,h1,λys S2 us q H2 e2 fq eq nq r2 hS2 h2=>by
  cases r1 with
  |ref p=>
   obtain⟨xs,ea,h⟩:=zbl h2;obtain⟨vs,f1,q1⟩:=hS2 p _ ea;exact⟨p,q,vs,us,rfl,rfl,f1,eq,by rw[←q1.length,←r2.length];exact h.1,λp hp=>hQ _ S2 _ p _ ((e1.trans e2).trans (.new hp)) ((e1.trans e2).free hp) zay (hS2.free hp) ((q1.append r2).ext (.new (S:=S2) hp)) (hS2.new hp) h.2⟩
  |_=>exact h2.elim⟩⟩
theorem zlK (ha:JL X a la) (hb:JL X b lb):JL X (.BinOp a .Add b pos) (zoc la lb):=λE hE=>
 (zpH zmh (ha E hE) (hb E hE)).mono λσ H Q ⟨σW,S,QW,hσ,hS,ht,hQ⟩=>⟨σW,S,_,hσ,hS,ht,λxs S1 vs p H1 e1 fp ep np r1 hS1 h1=>⟨σW,S1,_,hσ.ext e1,hS1,h1,λys S2 us q H2 e2 fq eq nq r2 hS2 h2=>
  ⟨p,q,vs,us,rfl,rfl,(e2.fr p _ ep np).1,eq,by rw[←r1.length,←r2.length];exact h2.1,λz hz=>hQ _ S2 _ z _ ((e1.trans e2).trans (.new hz)) ((e1.trans e2).free hz) zay (hS2.free hz) (((r1.ext e2).append r2).ext (.new (S:=S2) hz)) (hS2.new hz) h2.2⟩⟩⟩
theorem zpc (ha:JL X a la) (hb:JE X b tb):JL X (.BinOp a .Add b pos) (zpY la tb):=λE hE=>
 (zpH zmh (ha E hE) (hb E hE)).mono λσ H Q ⟨σW,S,QW,hσ,hS,ht,hQ⟩=>⟨σW,S,_,hσ,hS,ht,λxs S1 vs p H1 e1 fp ep np r1 hS1 h1=>⟨σW,S1,_,hσ.ext e1,hS1,h1,λy S2 v2 H2 e2 r2 hS2 h2=>by
  cases r2 with
  |ref q=>
   obtain⟨ys,ea,h⟩:=zbl h2;obtain⟨us,f2,q2⟩:=hS2 q _ ea;exact⟨p,q,vs,us,rfl,rfl,(e2.fr p _ ep np).1,f2,by rw[←r1.length,←q2.length];exact h.1,λz hz=>hQ _ S2 _ z _ ((e1.trans e2).trans (.new hz)) ((e1.trans e2).free hz) zay (hS2.free hz) (((r1.ext e2).append q2).ext (.new (S:=S2) hz)) (hS2.new hz) h.2⟩
  |_=>exact h2.elim⟩⟩
noncomputable def zsc (t:WL) (u:WE):WL:=λE σ S Q=>t E σ S λxs S1=>u E σ S1 λy S2=>match y with
 | .int k=>(-(2 ^ 63)≤k∧k<2 ^ 63∧xs.length*k.toNat≤sizeLine)∧Q (aO k.toNat xs).flatten S2
 |_=>False
theorem Reps.rep{K:aj}{H:Hp}{ws:List W}{vs:List V}(h:Reps K H ws vs):∀k:Nat,Reps K H (aO k ws).flatten (aO k vs).flatten
 |0=> .nil
 |k+1=>by
  rw[b_,b_,dI,dI];exact h.append (Reps.rep h k)
theorem zvW (ha:JL X a la) (hb:JE X b tb):JL X (.BinOp a .Mult b pos) (zsc la tb):=λE hE=>
 (zpH zwv (ha E hE) (hb E hE)).mono λσ H Q ⟨σW,S,QW,hσ,hS,ht,hQ⟩=>⟨σW,S,_,hσ,hS,ht,λxs S1 vs p H1 e1 fp ep np r1 hS1 h1=>⟨σW,S1,_,hσ.ext e1,hS1,h1,λy S2 v2 H2 e2 r2 hS2 h2=>by
  cases r2 with
  |int k=>
   obtain⟨⟨k1,k2,k3⟩,h⟩:=h2;exact⟨p,k,vs,rfl,rfl,(e2.fr p _ ep np).1,k1,k2,by rw[←r1.length];exact k3,λz hz=>hQ _ S2 _ z _ ((e1.trans e2).trans (.new hz)) ((e1.trans e2).free hz) zay (hS2.free hz) (((r1.ext e2).rep k.toNat).ext (.new (S:=S2) hz)) (hS2.new hz) h⟩
  |_=>exact h2.elim⟩⟩
end
theorem zrK{K:aj}{H:Hp}{a:Addr}{ns:List Int}{c:WSp}{E:XK}(hO:zyc H) (hS:SqL K H a (ns.map V.int)) (h:c [.scr ns] (λ_=>none) (λw _=>w= .bl true) (λ_ _=>False)):zcX K c [.ref a] H (λv _=>v= .bl true) E:=by
 have fz:FzL K H a (ns.map V.int):=by
  rcases hS with(hS |⟨o,hS⟩) |hS
  ·rcases hO a with z |⟨o,xs,z⟩
   ·rw[hS]at z;cases z
   ·rw[hS]at z;cases z
  ·exact .inl ⟨o,hS⟩
  ·exact .inr hS
 refine⟨[.scr ns],λ_=>none,_,λ_ _=>False, .one (.scr fz),(λa o e=>by cases e),h,λw S v H' e r hS' q=>?_,λ_ _ _ _ _ _ z=>z.elim⟩
 subst q;cases r;rfl
section
noncomputable def zyq:W2
 | .tup xs, .int k,S,Q=>(xs≠ []∧ -(2 ^ 63)≤k∧k<2 ^ 63∧xs.length*k.toNat≤sizeLine)∧Q (.tup (aO k.toNat xs).flatten) S
 |_,_,_,_=>False
end
noncomputable def zgk (kvs:List (List Int×W)) (k:List Int):Option W:=(kvs.find? λkv=>decide (kv.1=k)).map (·.2)
noncomputable def ztx (kvs:List (List Int×W)) (k:List Int) (v:W):List (List Int×W):=
 if(kvs.any λkv=>decide (kv.1=k))=true then kvs.map (λkv=>if kv.1=k then(kv.1,v) else kv) else kvs++[(k,v)]
noncomputable def zcj:List W→Option (List Int)
 | []=>ae []
 | .int i::ws=>(zcj ws).map (i:: ·)
 |_=>none
noncomputable def zpR:W→Option (List Int)
 | .tup ws=>zcj ws
 |_=>none
def zqY (S:Sto) (a:Addr) (P:List (List Int×W)→Prop):Prop:=match S a with
 |some (.dct kvs)=>P kvs
 |_=>False
theorem zuT{S:Sto}{a:Addr}{P:List (List Int×W)→Prop}(h:zqY S a P):∃kvs,S a=ae (.dct kvs)∧P kvs:=by
 unfold zqY at h;split at h
 ·exact⟨_, ‹_›,h⟩
 ·exact h.elim
theorem zlq{S:Sto}{a:Addr}{kvs:List (List Int×W)}{P:List (List Int×W)→Prop}(e:S a=ae (.dct kvs)):zqY S a P=P kvs:=by unfold zqY;rw[e]
section
variable {K:aj}{H:Hp}
noncomputable abbrev RepD (K:aj) (H:Hp):List (List Int×W)→List (List Key×V)→Prop:=aM λq p=>p.1=q.1.map Sum.inl∧Rep K H q.2 p.2
theorem ziI:∀{a b:List Int},a.map (Sum.inl:Int→Key)=b.map Sum.inl→a=b
 | [],[],_=>rfl
 | [],_::_,h=>by simp at h
 |_::_,[],h=>by simp at h
 |x::xs,y::ys,h=>by
  simp only[aA,iY,Sum.inl.injEq]at h;rw[h.1,ziI h.2]
theorem RepD.val{kvs:List (List Int×W)}{ps:List (List Key×V)}(r:RepD K H kvs ps) (k:List Int):(∀w,zgk kvs k=ae w→ ∃v,zji ps (k.map Sum.inl)=ae v∧Rep K H w v)∧(zgk kvs k=none→zji ps (k.map Sum.inl)=none):=by
 induction r with
 |nil=>exact⟨λw h=>by simp [zgk]at h,λ_=>rfl⟩
 | @cons q p kvs ps h t ih=>
  by_cases hk:q.1=k
  ·have e:p.1=k.map Sum.inl:=by rw[h.1,hk]
   rw[zfA e];have ew:zgk (q::kvs) k=ae q.2:=by simp [zgk,bG,hk]
   rw[ew];exact⟨λw z=>by cases z;exact⟨_,rfl,h.2⟩,λz=>by cases z⟩
  ·have e:¬p.1=k.map Sum.inl:=by rw[h.1];exact λz=>hk (ziI z)
   rw[zfN e];have ew:zgk (q::kvs) k=zgk kvs k:=by simp [zgk,bG,hk]
   rw[ew];exact ih
theorem RepD.any{kvs:List (List Int×W)}{ps:List (List Key×V)}(r:RepD K H kvs ps) (k:List Int):(ps.any λkv=>decide (kv.1=k.map Sum.inl))=kvs.any λkv=>decide (kv.1=k):=by
 induction r with
 |nil=>rfl
 | @cons q p kvs ps h t ih=>
  rw[cG,cG,ih];congr 1;apply decide_eq_decide.mpr;rw[h.1];exact⟨ziI,λz=>by rw[z]⟩
theorem RepD.put{kvs:List (List Int×W)}{ps:List (List Key×V)}(r:RepD K H kvs ps) (k:List Int) {w:W}{v:V}(rw':Rep K H w v):RepD K H (ztx kvs k w) (zhM ps (k.map Sum.inl) v):=by
 unfold ztx zhM;rw[r.any k];split
 ·rename_i hany;clear hany
  induction r with
  |nil=>exact .nil
  | @cons q p kvs ps h t ih=>
   rw[aA,aA];refine .cons ?_ ih;by_cases hk:q.1=k
   ·rw[if_pos hk,if_pos (by rw[h.1,hk])];exact⟨h.1,rw'⟩
   ·rw[if_neg hk,if_neg (by rw[h.1];exact λz=>hk (ziI z))];exact h
 ·rename_i hany;clear hany
  induction r with
  |nil=>exact .cons ⟨rfl,rw'⟩ .nil
  |cons h t ih=>exact .cons h ih
theorem RepD.length{kvs:List (List Int×W)}{ps:List (List Key×V)}(r:RepD K H kvs ps):kvs.length=ps.length:=dH r
theorem zif:∀{ws:List W}{vs:List V}{k:List Int},Reps K H ws vs→zcj ws=ae k→vs=(k.map (Sum.inl:Int→Key)).map kV
 | [],_,_, .nil,e=>by cases e;rfl
 |w::ws,_,k, .cons r rs,e=>by
  cases r with
  |int i=>
   cases q:zcj ws with
   |none=>simp [zcj,q]at e
   |some ks=>
    simp only[zcj,q,eF,bB]at e;subst e;rw[zif rs q];rfl
  |_=>simp [zcj]at e
theorem zns{w:W}{v:V}{k:List Int}(r:Rep K H w v) (e:zpR w=ae k):∃b,v= .ref b∧H b=ae (.tup ((k.map (Sum.inl:Int→Key)).map kV)):=by
 cases r with
 |tup f hs=>exact⟨_,rfl,by rw[f,zif hs e]⟩
 |_=>simp [zpR]at e
theorem ztE{S:Sto}{a:Addr}{kvs:List (List Int×W)}{y:V}{wy:W}{k:List Int}(hS:RepS K H S) (e:S a=ae (.dct kvs)) (ry:Rep K H wy y) (ek:zpR wy=ae k):∃o,DGet H a y o∧(zgk kvs k=none→o=none)∧ ∀w,zgk kvs k=ae w→ ∃v,o=ae v∧Rep K H w v:=by
 obtain⟨ps,e1,r⟩:=hS a _ e;obtain⟨b,rfl,eb⟩:=zns ry ek;have rv:=RepD.val r k;exact⟨zji ps (k.map Sum.inl), .t e1 eb,rv.2,rv.1⟩
end
noncomputable def zwi (neg:Bool):W2:=λy x S Q=>match x with
 | .ref a=>match zpR y with
  |some k=>zqY S a λkvs=>Q (.bl (if neg then !(zgk kvs k).isSome else(zgk kvs k).isSome)) S
  |none=>False
 |_=>False
noncomputable def zzA:W2:=λx y S Q=>match x with
 | .ref a=>match zpR y with
  |some k=>zqY S a λkvs=>match zgk kvs k with
   |some w=>Q w S
   |none=>False
  |none=>False
 |_=>False
section
variable {X:Cx}{a b o:Expr}{pos:aC}{ta tb:WE}
noncomputable def zzU (neg:Bool):R2:=λy x H Q=>∃a o,x= .ref a∧DGet H a y o∧Q (.bl (if neg then !o.isSome else o.isSome)) H
theorem zxx (hu:X.A.units+1<cLine):OpR X (bF .In) (zzU false):=by
 intro pins s σ H x y v u Q I rx ry h;obtain⟨a,o,rfl,g,q⟩:=h;cases ry;exact zAE hu I g rx λs3 I3=>⟨.bl o.isSome,H,I3,rfl,q⟩
theorem zuK{K:aj}{neg:Bool}:OpW K (zzU neg) (zwi neg):=λH x y wx wy S Q QW rx ry hS h hQ=>by
 unfold zwi at h;split at h
 ·split at h
  ·rename_i k ek;obtain⟨kvs,ea,h⟩:=zuT h;cases ry;obtain⟨o,g,g0,g1⟩:=ztE hS ea rx ek;have eo:o.isSome=(zgk kvs k).isSome:=by
    cases q:zgk kvs k with
    |none=>rw[g0 q];rfl
    |some w=>obtain⟨v,ev,_⟩:=g1 w q;rw[ev];rfl
   exact⟨_,o,rfl,g,by rw[eo];exact hQ _ S _ H .refl (.bl _) hS h⟩
  ·exact h.elim
 ·exact h.elim
theorem zwz{k:Nat}(hr:Room k X.A) (ha:JE X a ta) (hb:JE X b tb) (hm:de .In b=false:=by with_unfolding_all rfl):JT X (.Compare a [.In] [b] pos) (wTb (wOp (zwi false) ta tb)):=
 zfo (zxx (by have:=hr.units;omega)) zuK ha hb hm
end
section
variable {X:Cx}{o e:Expr}{to:WE}{tl:WL}{apos cpos p pos:aC}
def zsD:V→List V→Hp→VK→Prop:=λx vs H Q=>∃z:Str,x= .str z∧vs=[]∧z.length≤5592405∧Q (.str (dF z)) H
theorem zsq:MtR X "str.upper" zsD:=by
 intro pins s σ H x vs v us Q I rx rv h;obtain⟨z,rfl,rfl,hz,q⟩:=h;obtain⟨t,rfl⟩:=rx;cases rv;exact SCL.upper hz λ_=>⟨.str (dF z),H,I.tok _,⟨_,rfl⟩,q⟩
noncomputable def zlU:WMf:=λw ws S Q=>match w,ws with
 | .str z,[]=>z.length≤5592405∧Q (.str (dF z)) S
 |_,_=>False
theorem zql{K:aj}:MtW K zsD zlU:=λH x w vs ws S Q QW r rs hS h hQ=>by
 cases r with
 |str z=>
  cases rs with
  |nil=>exact⟨z,rfl,rfl,h.1,hQ _ S _ H .refl (.str _) hS h.2⟩
  |cons _ _=>exact h.elim
 |_=>exact h.elim
theorem zrq (ho:JE X o to) (hbase:cw o "upper" X.env (ay o X.env)=ay o X.env:=by rfl) (hline:(apos.endLine == cpos.line)=true:=by rfl):JE X (.Call (.Attribute o "upper" apos) [] [] cpos) (wM rvS zlU to waNil):=
 zzE jZ PySem.F.slot_str_upper PySem.F.type_str_upper zsG zsq zql ho hbase hline
theorem zhH:∀(ns:List Int) (n:Nat),n≤ns.length→fL (λi=>ns.getD i 0) n=(ns.take n).sum
 |ns,0,_=>by simp [fL]
 |ns,n+1,h=>by
  rw[fL,zhH ns n (by omega),j',List.sum_append];congr 1;rw[bo,a9 (by omega)];simp
theorem zpg (hc:X.calm=true):CallR X (.builtin "sum") (λxs H Q=>∃(p:Addr) (ns:List Int),xs=[.ref p]∧SqL X.K H p (ns.map V.int)∧Q (.int ns.sum) H):=by
 intro pins s σ H xs us Q I r h;obtain⟨p,ns,rfl,hq,q⟩:=h;obtain⟨u,rfl,rx⟩:=zjU r;cases rx;obtain⟨its,r',pl,hz⟩:=I.list hq;have hlen:ns.length=its.length:=by have:=r'.length;rw[aq]at this;exact this
 have hp:p<s.heap.objs.size:=by obtain⟨o,n,e,_⟩:=pl;exact aJ e
 have hd:X.A.in1.handled=none:=I.ok.hd hc;have get:∀(i:Nat) (v:Value),its.toArray[i]? =ae v→ ∃t,v= .int (ns.getD i 0) t:=λi v e=>by
  have e':its[i]? =ae v:=by simpa using e
  have hi:i<ns.length:=by rw[hlen];exact(ca.mp e').1
  obtain⟨u,hu,ru⟩:=r'.get (i:=i) (x:= .int (ns.getD i 0)) (by rw[bq,a9 hi,bo,a9 hi];rfl);rw[e']at hu;cases hu;exact ru
 refine call_sum_walkG (f9 pl.isList ?_);refine⟨s.heap.objs.size,_,_,_,_,_,λi=>ns.getD i 0,rfl,dS.list hd _ p (br hp) its.toArray,⟨⟨_,bi _ rfl,rfl,rfl⟩,pl.isList.push _⟩,?_,λi v hP=>get i v hP,λh' tk t' hk=>?_⟩
 ·intro b hb;have hsz:∀o:Obj,(s.heap.push o).objs.size=s.heap.objs.size+1:=λo=>cL ..;simp only[az,bx,or_false]at hb;show b<(s.heap.push _).objs.size;rw[hsz];rcases hb with rfl |rfl
  ·exact Nat.lt_succ_self _
  ·exact Nat.lt_succ_of_lt hp
 ·have e:fL (λi=>ns.getD i 0) its.toArray.size=ns.sum:=by
   rw[aQ,←hlen,zhH ns _ (au _),iw]
  have I1:Inv X pins σ H { s with heap:=h',toks:=tk }:=I.kept λb o e=>hk b o (λz=>by
   have z':b=s.heap.objs.size:=by simpa using z
   rw[z']at e;exact absurd (aJ e) (cE _)) (aH _ e)
  exact⟨.int _,H,I1,⟨t',by rw[e]⟩,q⟩
noncomputable def zqA:WF:=λws S Q=>match zcj ws with
 |some ns=>Q (.int ns.sum) S
 |none=>False
theorem zht{K:aj}{H:Hp}:∀{ws:List W}{vs:List V}{ns:List Int},Reps K H ws vs→zcj ws=ae ns→vs=ns.map V.int
 | [],_,_, .nil,e=>by cases e;rfl
 |w::ws,_,ns, .cons r rs,e=>by
  cases r with
  |int i=>
   cases q:zcj ws with
   |none=>simp [zcj,q]at e
   |some ks=>
    simp only[zcj,q,eF,bB]at e;subst e;rw[zht rs q];rfl
  |_=>simp [zcj]at e
theorem zpu{K:aj}:zoP K (λxs H Q=>∃(p:Addr) (ns:List Int),xs=[.ref p]∧SqL K H p (ns.map V.int)∧Q (.int ns.sum) H) zqA:=λH a vs ws S Q QW ea na r hS h hQ=>by
 unfold zqA at h;split at h
 ·rename_i ns e;have:=zht r e;subst this;exact⟨a,ns,rfl, .of ea,hQ _ S _ H .refl (.int _) hS h⟩
 ·exact h.elim
theorem zuN (hg:Gl X "sum") (hm:X.mg "sum" =none) (ha:JL X e tl)
  (he:ao [e] X.env=(false,ay e X.env)::ao [] X.env:=by rfl) (hpl:(aP pos (ao [] X.env)).any (·.1)=false:=by rfl) (hcl:X.calm=true:=by rfl):JE X (.Call (.Name "sum" p) [e] [] pos) (wBL zqA tl):=λE hE=>
 zvs (zpg hcl) zpu hg hm PyProof.Rows.boot_sum ha (by decide) (by decide) he hpl E hE
end
theorem zoZ:gn (.type "list") "keys" =pure none:=by rw[typeLookup_type,builtinLookup_eq_fast];kernel_rfl
theorem zjO:entryFor table "dict.update.loop" =ae bU.«dict.update.loop» :=entryFor_of_tree (by kernel_rfl)
theorem zfx:plainId "dict.update.loop" =true:=by decide +kernel
section
variable {prog:aE}{w:aB}{A:aN}{E:Value→ah→Prop}{s:ah}
theorem zit{a:Addr}{o:Obj}{xs:Array Value}{k:Nat}{name:Str}{Q:Option Value→ah→Prop}
  (hx : s.heap.get? a = ae o) (hc : o.cls = .type "list") (hdat : o.data = .seq xs k) (hd : o.dict = none) (hmiss : gn (.type "list") name = pure none) (hname : (["__module__", "__name__", "__qualname__", "__doc__", "__annotations__"] : List Str).contains name = false) (hA : A.handled = none)
  (h:∀h' tk,(∀b o,s.heap.get? b=ae o→h'.get? b=ae o)→Q none { s with heap:=h',toks:=tk }) (hsz:name.length+100≤sizeLine:=by size_fits) :
  am (ap prog w) A (getAttr? (.ref a) name) Q E s:=by
 obtain⟨c,dct,dat,sl⟩:=o;simp only at hc hdat hd;subst hc hdat hd;obtain⟨hp,g,d,tk,os⟩:=s;have hT:∀tk',(⟨hp,g,d,tk',os⟩:ah).TypeIs (.ref a) "list" :=λ_=>⟨_,hx,rfl⟩;have f1:=sub_AttributeError;have f3:=im.lookup;have f4:=im.bind (.ref a);have f5:=am_list_getattr_none;unfold getAttr? getAttrBy? getAttrBy
 repeat (any_goals (first |assumption |exact hT _ | ((with_reducible show am _ _ (call (Value.builtin "list.__getattribute__") _ _) _ _ _);refine dP im (hT _) am_entry_list_getattribute (F.args_list_getattribute_2 _ _) (meets_getattribute_miss_list a xs k sl name _ hmiss hname hsz) ⟨hx,hA,λh' tk' e hx'=>?_⟩) |wp_step))
 obtain⟨t',u',he⟩:=hx'.there;have hTe:∀tk',(⟨h',g,d,tk',os⟩:ah).TypeIs (.ref e) "AttributeError" :=λ_=>⟨_,he,rfl⟩;show am _ _ (jL _ _ _ _ _ _ _) _ _ _;unfold jL
 repeat (any_goals (first |assumption |exact hTe _ |wp_step))
 exact h h' tk' hx'.keeps
end
section
variable {prog:aE}{w:aB}{A:aN}{R:Result→ah→Prop}{I l d:Addr}{items:Array Value}
noncomputable def zvv (xs:List (List Key×Addr×Value)) (ps:List (List Key×Addr)):List (List Key×Addr×Value):=ps.foldl (λxs p=>eW xs p.1 p.2 (.bool true)) xs
theorem zof (hu:(bS (zaX prog w)).room A.in1) (hh:A.in1.handled=none) (hne:l≠I) (hdI:d≠I) (hdl:d≠l) (h0:Heap) (hd0:h0.get? d=none) (hI0:h0.get? I=none) (ps:List (List Key×Addr)) (hps:ps.length=items.size)
  (hp:∀(i:Nat) (p:List Key×Addr) (v:Value),ps[i]? =ae p→items[i]? =ae v→ ∃(t:Addr) (o:Obj) (n:Nat),v= .ref t∧h0.get? t=ae o∧o.cls= .type "tuple" ∧o.data= .seq #[.ref p.2, .bool true] n)
  (hk:∀p∈ps,(bS (zaX prog w)).is h0 p.1 p.2) :
  ∀(k i:Nat) (s:ah) (xs:List (List Key×Addr×Value)),items.size - i=k→i≤items.size→s.heap.IsListIter I l i→s.heap.IsList l items→(∀b o,h0.get? b=ae o→s.heap.get? b=ae o)→s.heap.DictOfH (bS (zaX prog w)) d xs→xs.length+(items.size - i)≤sizeLine→
  (∀h' tk,(∀b o,h0.get? b=ae o→h'.get? b=ae o)→h'.DictOfH (bS (zaX prog w)) d (zvv xs (ps.drop i))→R (.ok (.ret .none)) { s with heap:=h',toks:=tk })→
  dJ (ap prog w) A (.builtin "dict.update.loop" ⟨[.ref d, .ref I,cj i, .none],[]⟩) R s:=by
 have W:=dS.list (prog:=prog) (w:=w) (A:=A.in1) hh I l hne items;intro k
 induction k with
 |zero=>
  intro i s xs hki hi hit hl hold hd hsz hR;have hin:i=items.size:=by omega
  subst hin;refine jC zjO ?_;rw[jT zfx _];show am _ A.in1 (bT (.ref I) >>= _) _ _ s;refine ak (W.done s _ _ ⟨hit,hl⟩ λh' tk hk'=>?_);have hd':h'.DictOfH (bS (zaX prog w)) d xs:=by
   obtain⟨q,es,ep,q1,q2,q3,q4,q5,q6⟩:=hd;refine⟨q,es,ep,hk' d q (λz=>hdI (bf.mp z)) q1,q2,q3,q4,λx hx=>?_,q6⟩;obtain⟨ob,its,m,k1,k2,k3,k4⟩:=q5 x hx;refine⟨ob,its,m,hk' _ _ (λz=>?_) k1,k2,k3,k4⟩;obtain⟨oi,hi1,hi2,_⟩:=hit;rw[bf.mp z,hi1]at k1;cases k1;rw[k2]at hi2;exact absurd hi2 (by decide)
  show am _ A.in1 (bU.Dict.addKeywords d [] >>= _) _ _ _;refine ak (aD (aD (hR h' tk (λb o e=>hk' b o (λz=>by rw[bf.mp z,hI0]at e;cases e) (hold b o e)) ?_)))
  rw[eM (by omega)];exact hd'
 |succ k ih=>
  intro i s xs hki hi hit hl hold hd hsz hR;have hlt:i<items.size:=by omega
  refine jC zjO ?_;rw[jT zfx _];show am _ A.in1 (bT (.ref I) >>= _) _ _ s;refine ak (W.item i s _ _ hlt ⟨hit,hl⟩ λv h' tk hP hst' hk'=>?_);obtain⟨p,hpi⟩:∃p,ps[i]? =ae p:=⟨ps[i],a9 (by omega)⟩;obtain⟨t,o,n,rfl,ho,hc,hdat⟩:=hp i p v hpi hP;have ho':=hk' t o (λz=>by rw[bf.mp z]at ho;rw[hI0]at ho;cases ho) (hold t o ho)
  have hkey:(bS (zaX prog w)).is h' p.1 p.2:=by
   obtain⟨ob,its,m,k1,k2,k3,k4⟩:=hk p (aX hpi);exact⟨ob,its,m,hk' _ _ (λz=>by rw[bf.mp z]at k1;rw[hI0]at k1;cases k1) (hold _ _ k1),k2,k3,k4⟩
  have hd':h'.DictOfH (bS (zaX prog w)) d xs:=by
   obtain⟨q,es,ep,q1,q2,q3,q4,q5,q6⟩:=hd;refine⟨q,es,ep,hk' d q (λz=>hdI (bf.mp z)) q1,q2,q3,q4,λx hx=>?_,q6⟩;obtain⟨ob,its,m,k1,k2,k3,k4⟩:=q5 x hx;refine⟨ob,its,m,hk' _ _ (λz=>?_) k1,k2,k3,k4⟩;obtain⟨oi,hi1,hi2,_⟩:=hit;rw[bf.mp z,hi1]at k1;cases k1;rw[k2]at hi2;exact absurd hi2 (by decide)
  show am _ A.in1 (holding [.ref t] _ >>= _) _ _ _;refine ak (fE ?_);refine ak (wpAny_tryCatch ?_);unfold bU.Dict.pairItems;refine ak (eU (T:= "tuple") ⟨o,ho',hc⟩ ?_);rw[if_pos (by decide)];refine ak (cU ho' hdat ?_);refine aD ?_;show am _ A.in1 (holding [.ref p.2, .bool true] (dictSet d (.ref p.2) (.bool true))) _ _ _;refine fE (wpAny_dictSet_heap (hsz:=by omega) hu hkey hd' λh2 hd2 hs2=>?_)
  refine aD ⟨plainId_quiet zfx _,?_⟩;have ei:((i:Int)+1)=((i+1:Nat):Int):=by omega
  rw[ei];have hln:(eW xs p.1 p.2 (dN true)).length≤xs.length+1:=by
   unfold eW;split<;>simp
  have hst2:=W.frame (i+1) h' h2 hst' λb hb o e=>by
   have hbd:b≠d:=by
    rcases az.mp hb with z |z
    ·rw[z];exact bj hdI
    ·rw[bf.mp z];exact bj hdl
   exact(hs2.2 b hbd).trans e
  refine ih (i+1) _ _ (by omega) (by omega) hst2.1 hst2.2 (λb o e=>?_) hd2 (by omega) λh3 tk3 old3 hd3=>?_
  ·have hbd:b≠d:=λz=>by rw[z,hd0]at e;cases e
   have hbI:b∉ [I]:=λz=>by rw[bf.mp z,hI0]at e;cases e
   exact(hs2.2 b hbd).trans (hk' b o hbI (hold b o e))
  ·refine hR h3 tk3 old3 ?_;have ed:ps.drop i=p::ps.drop (i+1):=by
    have hi':i<ps.length:=by omega
    rw[eP hi'];rw[a9 hi']at hpi;cases hpi;rfl
   rw[ed];exact hd3
end
section
variable {X:Cx}{e:Expr}{p pos:aC}{tl:WL}
def zmO (H:Hp) (q:List Key) (v:V):Prop:=∃t b,v= .ref t∧H t=ae (.tup [.ref b, .bl true])∧H b=ae (.tup (q.map kV))
noncomputable def znH (qs:List (List Key)):List (List Key×V):=qs.foldl (λkvs q=>zhM kvs q (.bl true)) []
theorem zjw:∀(qs:List (List Key)) (kvs:List (List Key×V)),(qs.foldl (λkvs q=>zhM kvs q (V.bl true)) kvs).length≤kvs.length+qs.length
 | [],kvs=>by simp
 |q::qs,kvs=>by
  have h1:=zeY kvs q (V.bl true);have h2:=zjw qs (zhM kvs q (.bl true));rw[dU,aR];omega
theorem KT.fold{H:Hp}:∀(ps:List (List Key×Addr)) {kvs:List (List Key×V)}{xs:List (List Key×Addr×Value)},KT H kvs xs→(∀p∈ps,H p.2=ae (.tup (p.1.map kV)))→KT H ((ps.map λp=>p.1).foldl (λkvs q=>zhM kvs q (.bl true)) kvs) (zvv xs ps)
 | [],_,_,r,_=>r
 |p::ps,kvs,xs,r,h=>by
  rw[aA,dU];exact KT.fold ps (r.put p.1 (h p a0) rfl) λp' hp'=>h p' (aK _ hp')
theorem zmn{P:aE}{w:aB}{H:Hp}{h:Heap}(ok:HOk P w H h):∀{qs:List (List Key)}{vs:List V}{its:List Value},aM (zmO H) qs vs→Vals vs its→ ∃ps:List (List Key×Addr),(ps.map λp=>p.1)=qs∧
  (∀(i:Nat) (p:List Key×Addr) (v:Value),ps[i]? =ae p→its[i]? =ae v→ ∃(t:Addr) (o:Obj) (n:Nat),v= .ref t∧h.get? t=ae o∧o.cls= .type "tuple" ∧o.data= .seq #[.ref p.2, .bool true] n)∧ ∀p∈ps,H p.2=ae (.tup (p.1.map kV))
 |_,_,_, .nil, .nil=>⟨[],rfl,(λi p v h=>by simp at h),λ_ h=>nomatch h⟩
 |_,_,_, .cons (a:=q) hq hs, .cons hv hvs=>by
  obtain⟨ps,e,h1,h2⟩:=zmn ok hs hvs;obtain⟨t,b,rfl,ht,hb⟩:=hq;refine⟨(q,b)::ps,by rw[aA,e],λi p v hp hv'=>?_,λp hp=>?_⟩
  ·cases i with
   |zero=>
    simp only[kw,bB]at hp hv';subst hp hv';obtain⟨_,its,r,o,g1,g2,n,g3⟩:=(show ObjOk P w H h t (.tup [.ref b, .bl true]) from ok t _ ht);cases r with
    |cons r1 r2=>
     cases r2 with
     |cons r3 r4=>
      cases r4;cases r1;cases r3;exact⟨t,o,n,hv,g1,g2,by simpa using g3⟩
   |succ i=>
    simp only[eD]at hp hv';exact h1 i p v hp hv'
  ·rcases az.mp hp with rfl |hp
   ·exact hb
   ·exact h2 p hp
theorem znJ (hc:X.calm=true) (hu:X.A.units+2<cLine):CallR X (.type "dict") (λxs H Q=>∃(l:Addr) (vs:List V) (qs:List (List Key)),xs=[.ref l]∧SqL X.K H l vs∧aM (zmO H) qs vs∧qs.length≤sizeLine∧ ∀d,H d=none→Q (.ref d) (upd H d (.dT (znH qs)))):=by
 intro pins s σ H xs us Q I r h;obtain⟨l,vs,qs,rfl,hq,hp,hlen,q⟩:=h;obtain⟨u,rfl,rx⟩:=zjU r;cases rx;obtain⟨its,r',pl,hz⟩:=I.list hq;have hd:X.A.in1.handled=none:=I.ok.hd hc;have hl:l<s.heap.objs.size:=by obtain⟨o,n,e,_⟩:=pl;exact aJ e
 refine callType_codes (Q₁:=λobj s₁=>obj= .ref s.heap.objs.size∧s₁={ s with heap:=s.heap.push { cls:= .type "dict",data:= .dict #[] } }) F.kt_called_dict (F.kt_typeCall_dict_1 _) F.entry_dict_init (kt_code_dict_new _ ⟨rfl,rfl⟩) ?_;rintro obj s₁ ⟨rfl,rfl⟩;have hT:({ s with heap:=s.heap.push { cls:= .type "dict",data:= .dict #[] } }:ah).TypeIs (.ref s.heap.objs.size) "dict" :=⟨_,bi _ rfl,rfl⟩;refine⟨hT,F.args_dict_init_2 _ _,?_⟩;unfold bU.«dict.__init__»;refine ak ?_;unfold bU.Dict.selfAndRest;refine ak (wpAny_notOrdered_dict hT ?_);show am _ _ (pure (s.heap.objs.size,[a_ l])) _ _ _;refine aD ?_;show am _ _ (iO "dict.__init__" s.heap.objs.size (.ref l) [] .none) _ _ _;unfold iO;obtain⟨ol,nl,hol,hcl,hdl,hnl⟩:=pl;have hol1:=aH { cls:= .type "dict",data:= .dict #[] } hol;obtain⟨ps,eqs,hps,hks⟩:=zmn I.hok hp r';have hplen:ps.length=its.toArray.size:=by
  have h1:=congrArg dA eqs;have h2:=dH hp;have h3:=r'.length;rw[aq]at h1;rw[aQ];omega
 refine ak (eU (T:= "list") ⟨ol,hol1,hcl⟩ ?_);dsimp only;rw[if_pos (by decide)];refine ak (zit hol1 hcl hnl hdl zoZ (by decide +kernel) hd λh1 tk1 kp1=>?_);rw[if_pos (show(none:Option Value).isNone=true from rfl)];refine ak (eC ?_);have hl1:h1.IsList l its.toArray:=⟨ol,kp1 _ _ hol1,hcl,nl,hnl⟩;refine ak (f9 hl1 ?_);refine aD ⟨plainId_quiet zfx _,?_⟩;have hd1:h1.get? s.heap.objs.size=ae { cls:= .type "dict",data:= .dict #[] }:=kp1 _ _ (bi _ rfl);have hdlt:=aJ hd1;have hI0:s.heap.get? h1.objs.size=none:=by
  cases z:s.heap.get? h1.objs.size with
  |none=>rfl
  |some ob=>exact absurd (aJ (kp1 _ _ (aH _ z))) (cE _)
 have hd0:s.heap.get? s.heap.objs.size=none:=by
  cases z:s.heap.get? s.heap.objs.size with
  |none=>rfl
  |some ob=>exact absurd (aJ z) (cE _)
 refine zof (A:=X.A.in1) (I:=h1.objs.size) (l:=l) (d:=s.heap.objs.size) (items:=its.toArray) ?_ hd (br (Nat.lt_trans hl hdlt)) (br hdlt) (cD hl) s.heap hd0 hI0 ps hplen (λi p v h1 h2=>hps i p v h1 (by simpa using h2)) (λp hp=>zjS I.hok (hks p hp)) _ 0 _ [] rfl (aY _) ?_ ?_ ?_ ?_ ?_ λh' tk' old' hd'=>?_
 ·exact fS (A:=X.A.in1) (show X.A.in1.units+1<cLine from by have:X.A.in1.units=X.A.units+1:=rfl;omega)
 ·exact⟨_,bi _ rfl,rfl,rfl⟩
 ·exact hl1.push _
 ·exact λb o e=>aH _ (kp1 _ _ (aH _ e))
 ·refine⟨_, #[],0,aH _ hd1,?_,rfl,rfl,(λx hx=>nomatch hx),jX⟩
  first |exact⟨rfl,rfl⟩ |exact rfl |exact .inl rfl | (unfold Obj.ExactDict;simp)
 ·rw[c5,←hplen];have h1:=congrArg dA eqs;rw[aq]at h1;omega
 ·rw[dc]at hd';obtain⟨o',es,ep,g1,g2,g3,g4,g5,g6⟩:=hd';have hl0:=zjw qs [];have kt:KT H (znH qs) (zvv [] ps):=by
   have:=KT.fold ps (show KT H [] [] from .nil) hks;rw[eqs]at this;exact this
  refine⟨rfl, .ref s.heap.objs.size,_,I.laid (t':=tk') (o:= .dT (znH qs)) old' (au _) ⟨?_,?_,_,kt.keeps λb ys eb=>?_,o',es,ep,g1,g2,g3,g4,g6⟩,rfl,q _ (I.hok.fresh (au _))⟩
  ·simp only[c5,b5]at hl0;exact aW hl0 hlen
  ·have:=I.big;exact beq_eq_false_iff_ne.mpr (cD this)
  ·rw[zaz (zau eb (I.hok.fresh (au _)))];exact eb
noncomputable def zex:List W→Option (List (List Int))
 | []=>ae []
 | .tup [k, .bl true]::ws=>match zpR k,zex ws with
  |some q,ae qs=>ae (q::qs)
  |_,_=>none
 |_=>none
noncomputable def zhP (qs:List (List Int)):List (List Int×W):=qs.foldl (λkvs k=>ztx kvs k (.bl true)) []
noncomputable def zjQ:WF:=λws S Q=>match zex ws with
 |some qs=>qs.length≤1000000∧ ∀a,S a=none→Q (.ref a) (put S a (.dct (zhP qs)))
 |none=>False
theorem zjs{K:aj}{H:Hp}:∀{ws:List W}{vs:List V}{qs:List (List Int)},Reps K H ws vs→zex ws=ae qs→aM (zmO H) (qs.map λq=>q.map Sum.inl) vs
 | [],_,_, .nil,e=>by
  simp only[zex,bB]at e;subst e;exact .nil
 |w::ws,_,qs, .cons r rs,e=>by
  cases w with
  |tup us=>
   rcases us with _ |⟨k,_ |⟨b,_ |⟨x,us⟩⟩⟩
   ·simp [zex]at e
   ·simp [zex]at e
   ·cases b with
    |bl b=>
     cases b with
     |true=>
      simp only[zex]at e;cases e1:zpR k with
      |none=>rw[e1]at e;simp at e
      |some q=>
       cases e2:zex ws with
       |none=>rw[e1,e2]at e;simp at e
       |some qs'=>
        rw[e1,e2]at e;simp only[bB]at e;subst e;cases r with
        | @tup t vs' _ ft hs=>
         cases hs with
         |cons r1 r2=>
          cases r2 with
          |cons r3 r4=>
           cases r4;cases r3;obtain⟨b,rfl,eb⟩:=zns r1 e1;exact .cons ⟨t,b,rfl,ft,eb⟩ (zjs rs e2)
     |false=>simp [zex]at e
    |_=>simp [zex]at e
   ·cases b<;>simp [zex]at e
  |_=>simp [zex]at e
theorem zjC{K:aj}{H:Hp}:∀(qs:List (List Int)) {kvs:List (List Int×W)}{ps:List (List Key×V)},RepD K H kvs ps→RepD K H (qs.foldl (λkvs k=>ztx kvs k (.bl true)) kvs) ((qs.map λq=>q.map Sum.inl).foldl (λkvs q=>zhM kvs q (.bl true)) ps)
 | [],_,_,r=>r
 |q::qs,_,_,r=>by
  rw[aA,dU,dU];exact zjC qs (r.put q (.bl true))
theorem znN{K:aj}:zoP K (λxs H Q=>∃(l:Addr) (vs:List V) (qs:List (List Key)),xs=[.ref l]∧SqL K H l vs∧aM (zmO H) qs vs∧qs.length≤sizeLine∧ ∀d,H d=none→Q (.ref d) (upd H d (.dT (znH qs)))) zjQ:=λH a vs ws S Q QW ea na r hS h hQ=>by
 unfold zjQ at h;split at h
 ·rename_i qs e;have hp:=zjs r e;refine⟨a,vs,_,rfl, .of ea,hp,?_,λd hd=>?_⟩
  ·rw[aq,dw];omega
  ·have rd:RepD K H (zhP qs) (znH (qs.map λq=>q.map Sum.inl)):=zjC qs (show RepD K H [] [] from .nil);have x:Ext H S (upd H d (.dT (znH (qs.map λq=>q.map Sum.inl)))) (put S d (.dct (zhP qs))):= .newS hd;refine hQ (.ref d) (put S d (.dct (zhP qs))) (.ref d) _ x (.ref d) (λb o q=>?_) (h.2 d (hS.free hd));by_cases hb:b=d
   ·subst hb;rw[zag]at q;cases q;exact⟨_,zay,Paired.mapP rd λ_ _ z=>⟨z.1,z.2.ext x⟩⟩
   ·rw[zaA hb]at q;exact hS.new hd b o q
 ·exact h.elim
theorem zrR{k:Nat}(hr:Room k X.A) (hg:Gl X "dict") (hm:X.mg "dict" =none) (ha:JL X e tl)
  (he:ao [e] X.env=(false,ay e X.env)::ao [] X.env:=by rfl) (hpl:(aP pos (ao [] X.env)).any (·.1)=false:=by rfl) (hcl:X.calm=true:=by rfl):JE X (.Call (.Name "dict" p) [e] [] pos) (wBL zjQ tl):=λE hE=>
 ztl (znJ hcl (by have:=hr.units;omega)) znN hg hm PyProof.Rows.boot_dict ha (by decide) (by decide) he hpl E hE
theorem _root_.pz{a b:Prop}(h:a→b) (g:b→a):a=b:=propext ⟨h,g⟩
theorem zqW{ws:List W}{S:Sto}{Q:WK}:(zjQ ws S Q)=(match zex ws with
 |some qs=>qs.length≤1000000∧ ∀a,S a=none→Q (.ref a) (put S a (.dct (zhP qs)))
 |none=>False):=pz id id
theorem zjx:∀ps:List (List Int),zex (ps.map λp=>W.tup [.tup (p.map W.int), .bl true])=ae ps
 | []=>rfl
 |p::ps=>by
  have e:zpR (.tup (p.map W.int))=ae p:=by
   show zcj (p.map W.int)=ae p
   induction p with
   |nil=>rfl
   |cons i p ih=>rw[aA,zcj,ih];rfl
  rw[aA,zex,e,zjx ps]
theorem zru (kvs:List (List Int×W)) (q k:List Int) (v:W):(zgk (ztx kvs q v) k).isSome=(decide (k=q) || (zgk kvs k).isSome):=by
 have e:∀kvs:List (List Int×W),(zgk kvs k).isSome=kvs.any λkv=>decide (kv.1=k):=λkvs=>by
  unfold zgk;rw[iv]
  induction kvs with
  |nil=>rfl
  |cons a kvs ih=>
   rw[bG,cG];cases decide (a.1=k) with
   |true=>rfl
   |false=>simpa using ih
 rw[e,e];unfold ztx;split
 ·rename_i h;have:(kvs.map λkv=>if kv.1=q then(kv.1,v) else kv).any (λkv=>decide (kv.1=k))=kvs.any λkv=>decide (kv.1=k):=by
   rw[List.any_map];congr 1;funext kv;simp only[hZ];split<;>rfl
  rw[this];by_cases hk:k=q
  ·subst hk;rw[h];simp
  ·rw[decide_eq_false hk,jp]
 ·rw[List.any_append];simp only[cG,List.any_nil,jx];rw[Bool.or_comm];congr 1;apply decide_eq_decide.mpr;exact eq_comm
theorem zmP:∀(qs:List (List Int)) (kvs:List (List Int×W)) (k:List Int),(zgk (qs.foldl (λkvs k=>ztx kvs k (.bl true)) kvs) k).isSome=(decide (k∈qs) || (zgk kvs k).isSome)
 | [],kvs,k=>by simp
 |q::qs,kvs,k=>by
  rw[dU,zmP qs,zru,←Bool.or_assoc];congr 1;rw[fD];simp only[iG,decide_eq_true_eq,az];exact or_comm
theorem zjk (qs:List (List Int)) (k:List Int):(zgk (zhP qs) k).isSome=decide (k∈qs):=by
 unfold zhP;rw[zmP];simp [zgk]
end
end L2
end
section
namespace L2
open PySem PySem.Spec PyProof.Rows PySem.W PySem.Calls Builtin Builtin.ObjectAttr Builtin.Getset_descriptor
structure XcOk (K:Frag) (C:Addr):Prop where
  ga:findIn K (.ref C) "__getattribute__" =ae (ae (.builtin "BaseException.__getattribute__"))
  gt:findIn K (.ref C) "__getattr__" =ae none
  cl:findIn K (.ref C) "__class__" =ae (ae (.builtin "object.__class__"))
  ob:mroIn K C (.type "object")=ae true
  be:mroIn K C (.type "BaseException")=ae true
noncomputable abbrev bmV:List Value:=[.type "ValueError", .type "Exception", .type "BaseException", .type "object"]
structure XcIn (K:aj) (x:Str) (C:Addr):Prop where
  nm:aZ K aL x=ae (ae (.ref C))
  ex:eB K C bmV "ValueError.__new__" =true
  xc:XcOk K C
theorem XcIn.own{K:aj}{x:Str}{C:Addr}{h:Heap}{mg:Str→Option Value}(O:XcIn K x C) (X:K.In h) (G:h.Ns aL mg):OwnCls x C bmV "ValueError.__new__" mg h:=by
 have q:=O.ex;refine⟨bb X G O.nm,?_⟩;unfold eB at q;split at q
 ·rename_i dd cd sl ho;split at q
  ·rename_i C' bm k0 k1 k2 k3 n k5 hm hs;simp only[bR,beq_iff_eq,Bool.not_eq_true']at q;obtain⟨⟨⟨⟨⟨rfl,hnn⟩,hdel⟩,ht⟩,hok⟩,hni⟩:=q;obtain⟨nm,bs,mro,ns,qn,hd,sn,sub,ab,col,del⟩:=cd;dsimp only at hm hdel hok hni;subst hm hdel;have hsl:sl= #[k0,k1,k2,k3,ae (.builtin n),k5]:=by
    obtain⟨l⟩:=sl;simp only at hs;rw[hs]
   subst hsl;subst hnn;exact⟨bm,ns,nm,qn,bs,hd,sn,sub,ab,col,dd,k0,k1,k2,k3,k5,_,X _ _ ho, .of_isNs (PySem.W.isNs_of_in X hok),PySem.W.nsMap_none_of_in X hok hni,PySem.W.tail_of_in X ht⟩
  ·cases q
 ·cases q
noncomputable def zgU (x:Str) (t:WA):WS:=λE _ σ S=>t E σ S λws S1=>ws.length≤sizeLine∧E x σ S1
theorem zfC{X:Cx}{x:Str}{C:Addr}{e:Expr}{es:List Expr}{t:WA}{np cpos pos:aC}(O:XcIn X.K x C) (hg:Gl X x) (hm:X.mg x=ae (.ref C)) (ha:JA X (e::es) t) (hcl:X.calm=true:=by rfl) (hdb:(x == ("__debug__" :Str))=false:=by decide)
  (he:ao (e::es) X.env=(false,ay e X.env)::ao es X.env:=by rfl) (hpl:(aP cpos (ao es X.env)).any (·.1)=false:=by rfl) :
  JS X (.Raise (ae (.Call (.Name x np) (e::es) [] cpos)) none pos) (zgU x t):=λE hE pins s σ H D I z=>by
 obtain⟨σW,S,DW,hσ,hS,ht,hD⟩:=z;have OC:=(O.own I.mod.kin I.mod.glob).keeps I.bk;obtain⟨tl,N,nm,q,bs,hdct,sn,sub,ab,col,dd,k0,k1,k2,k3,k5,mN,hC,hN,hni,T⟩:=(O.own I.mod.kin I.mod.glob).obj;refine wpAny_Raise_call_subT (C:=C) (nm:=nm) (q:=q) (N:=N) (bs:=bs) (bm:=tl) (hdct:=hdct) (sn:=sn) (sub:=sub) (ab:=ab) (col:=col) (dd:=dd) (k0:=k0) (k1:=k1) (k2:=k2) (k3:=k3) (k5:=k5)
  jF (mN:=mN) (T.hasType jF.hasBase) (I.ok.hd hcl) (by rw[he];show(false || (aP cpos (ao es X.env)).any (·.1))=false;rw[hpl];rfl) hni (zlS I hg hm ⟨rfl,?_⟩ hdb)
 have go:=ha E hE cpos pins s σ H (λvs H1=>∃ws S1,Reps X.K H1 ws vs∧RpSt X.K H1 σW σ∧RepS X.K H1 S1∧ws.length≤sizeLine∧E x σW S1) I ⟨σW,S,_,hσ,hS,ht,λws S1 vs H1 e1 r1 hS1 h1=>⟨ws,S1,r1,hσ.ext e1,hS1,h1.1,h1.2⟩⟩;rw[he]at go⊢;refine ii (cg go (λus s2 ⟨vs,H1,I1,r,ws,S1,r1,hσ1,hS1,hl,h1⟩=>?_) λ_ _ y=>y);refine⟨rfl,by rw[←r.length,←r1.length];exact hl,I1.bk _ _ hC,hN.keeps I1.bk,T.keeps I1.bk,λh' a me=>?_⟩
 exact hE.near pins σ H1 s2 σW x C a S1 h' us I1 hσ1 O.nm me hS1 h1
inductive Tr where
  |bl (n:Int)
  |nd (s:Str) (ts:List Tr)
noncomputable def Tr.kids:Tr→List Tr
 | .bl _=>[]
 | .nd _ ts=>ts
mutual
noncomputable def Tr.weight:Tr→Nat
 | .bl _=>1
 | .nd _ ts=>1+wts ts
noncomputable def wts:List Tr→Nat
 | []=>0
 |t::ts=>t.weight+wts ts
end
mutual
noncomputable def Tr.depth:Tr→Nat
 | .bl _=>1
 | .nd _ ts=>1+dts ts
noncomputable def dts:List Tr→Nat
 | []=>0
 |t::ts=>max t.depth (dts ts)
end
theorem ziB:wts []=0:=by unfold wts;rfl
theorem zbi (t:Tr) (ts:List Tr):wts (t::ts)=t.weight+wts ts:=by
 conv=>lhs;unfold wts
theorem zet:∀(ts us:List Tr),wts (ts++us)=wts ts+wts us
 | [],us=>by
  show wts us=wts []+wts us;rw[ziB];omega
 |t::ts,us=>by
  show wts (t::(ts++us))=_;rw[zbi,zbi,zet ts us];omega
theorem zis:dts []=0:=by unfold dts;rfl
theorem zdq (t:Tr) (ts:List Tr):dts (t::ts)=max t.depth (dts ts):=by
 conv=>lhs;unfold dts
theorem zdK (t:Tr):t.weight=1+wts t.kids:=by
 cases t with
 |bl n=>
  show Tr.weight (.bl n)=1+wts [];unfold Tr.weight wts;rfl
 |nd s ts=>
  show Tr.weight (.nd s ts)=1+wts ts
  conv=>lhs;unfold Tr.weight
theorem zep (t:Tr):t.depth=1+dts t.kids:=by
 cases t with
 |bl n=>
  show Tr.depth (.bl n)=1+dts [];unfold Tr.depth dts;rfl
 |nd s ts=>
  show Tr.depth (.nd s ts)=1+dts ts
  conv=>lhs;unfold Tr.depth
theorem zen (t:Tr):1≤t.weight:=by rw[zdK];omega
theorem zaS (t:Tr):1≤t.depth:=by rw[zep];omega
theorem zia:∀(ts us:List Tr),dts (ts++us)=max (dts ts) (dts us)
 | [],us=>by
  show dts us=max (dts []) (dts us);rw[zis];omega
 |t::ts,us=>by
  show dts (t::(ts++us))=_;rw[zdq,zdq,zia ts us];exact(Nat.max_assoc _ _ _).symm
theorem zcR:∀(ts:List Tr),ts.length≤wts ts
 | []=>aY _
 |t::ts=>by
  have:=zcR ts;have:=zen t;rw[zbi,aR];omega
theorem zdf{t:Tr}:∀{ts:List Tr},t∈ts→t.weight≤wts ts
 | [],h=>by cases h
 |u::ts,h=>by
  rw[zbi];rcases az.mp h with e |h
  ·rw[e];omega
  ·have:=zdf h;omega
theorem zms:∀{ts:List Tr},ts≠ []→dts ts=1+dts (ts.flatMap Tr.kids)
 | [],h=>absurd rfl h
 | [t],_=>by
  rw[eN,gr,bJ,zdq,zis,zep];omega
 |t::u::r,_=>by
  have ih:=zms (ts:=u::r) (by simp);have e:(t::u::r).flatMap Tr.kids=t.kids++(u::r).flatMap Tr.kids:=eN ..;rw[zdq,ih,e,zia,zep];omega
theorem zlY:∀(ts:List Tr),wts (ts.flatMap Tr.kids)+ts.length=wts ts
 | []=>by rw[gr,ziB];rfl
 |t::ts=>by
  have ih:=zlY ts;rw[eN,zet,zbi,aR,zdK];omega
mutual
theorem zcY:∀t:Tr,t.depth≤t.weight
 | .bl n=>by unfold Tr.depth Tr.weight;exact au _
 | .nd s ts=>by
  have:=zij ts;rw[zep,zdK];show 1+dts ts≤1+wts ts;omega
theorem zij:∀ts:List Tr,dts ts≤wts ts
 | []=>by rw[zis];exact aY _
 |t::ts=>by
  have:=zcY t;have:=zij ts;rw[zdq,zbi];omega
end
mutual
noncomputable def enc:Tr→W
 | .bl n=> .int n
 | .nd s ts=> .tup (.str s::encs ts)
noncomputable def encs:List Tr→List W
 | []=>[]
 |t::ts=>enc t::encs ts
end
theorem zaw:∀ts:List Tr,encs ts=ts.map enc
 | []=>by simp [encs]
 |t::ts=>by simp [encs,zaw ts]
theorem zaT (ts:List Tr):(encs ts).length=ts.length:=by rw[zaw,aq]
noncomputable def zbm (p:List Int):W:= .tup (p.map W.int)
theorem zlf:zcd "int" "int" =true:=by decide +kernel
theorem zkg:zcd "int" "bool" =false:=by decide +kernel
theorem zli:zcd "int" "str" =false:=by decide +kernel
theorem ziM:zcd "int" "tuple" =false:=by decide +kernel
theorem zjX:zcd "int" "list" =false:=by decide +kernel
theorem zka:zcd "bool" "int" =true:=by decide +kernel
theorem ziV:zcd "bool" "bool" =true:=by decide +kernel
theorem zkj:zcd "bool" "str" =false:=by decide +kernel
theorem zhN:zcd "bool" "tuple" =false:=by decide +kernel
theorem ziG:zcd "bool" "list" =false:=by decide +kernel
theorem zlg:zcd "str" "int" =false:=by decide +kernel
theorem zjG:zcd "str" "bool" =false:=by decide +kernel
theorem zlJ:zcd "str" "str" =true:=by decide +kernel
theorem zje:zcd "str" "tuple" =false:=by decide +kernel
theorem zkt:zcd "str" "list" =false:=by decide +kernel
theorem zio:zcd "tuple" "int" =false:=by decide +kernel
theorem zhJ:zcd "tuple" "bool" =false:=by decide +kernel
theorem ziz:zcd "tuple" "str" =false:=by decide +kernel
theorem sub_tuple_tuple:zcd "tuple" "tuple" =true:=by decide +kernel
theorem sub_tuple_list:zcd "tuple" "list" =false:=by decide +kernel
theorem zkc:zcd "list" "int" =false:=by decide +kernel
theorem zjd:zcd "list" "bool" =false:=by decide +kernel
theorem zjy:zcd "list" "str" =false:=by decide +kernel
theorem sub_list_tuple:zcd "list" "tuple" =false:=by decide +kernel
theorem sub_list_list:zcd "list" "list" =true:=by decide +kernel
section
variable {α:Type}{x:α}{xs:List α}
theorem ziH (n:Nat):zeu xs (ae (n:Int)) none=xs.drop n:=by
 unfold zeu;rw[HT.sIx_nat,HT.sIx_none];by_cases h:n≤xs.length
 ·rw[io h,c_ (by rw[cA];omega)]
 ·rw[iK (by omega),eM (au _),eM (by omega),List.take_nil]
theorem ziW (n:Nat):zeu xs none (ae (n:Int))=xs.take n:=by
 unfold zeu;rw[HT.sIx_nat,HT.sIx_none,dc,eA];by_cases h:n≤xs.length
 ·rw[io h]
 ·rw[iK (by omega),iw,c_ (by omega)]
theorem zty:zeu (x::xs) (ae 1) none=xs:=by rw[show(1:Int)=((1:Nat):Int) from rfl,ziH];rfl
theorem zoz{n d k:Nat}(h:0<k):HT.sIx n d (ae (-(k:Int)))=n - k:=by
 show(if(-(k:Int))<0 then(-(k:Int)+(n:Int)).toNat else min (-(k:Int)).toNat n)=n - k;rw[if_pos (by omega)];omega
theorem zlP (k:Nat) (h:0<k):zeu xs none (ae (-(k:Int)))=xs.take (xs.length - k):=by
 unfold zeu;rw[zoz h,HT.sIx_none,dc,eA]
theorem zox (k:Nat) (h:0<k):zeu xs (ae (-(k:Int))) none=xs.drop (xs.length - k):=by
 unfold zeu;rw[zoz h,HT.sIx_none,c_ (by rw[cA];omega)]
theorem zbU{n:Nat}:atI xs (n:Int)=xs[n]? :=by
 unfold atI ixN;rw[if_pos (by omega)];by_cases h:n<xs.length
 ·rw[if_pos (by omega)];simp
 ·rw[if_neg (by omega)];simp;omega
theorem ziv:atI (x::xs) 0=ae x:=zbU (n:=0)
end
section
variable {S S':Sto}{a b:Addr}{o:Ob}{Q:List W→Prop}{ws:List W}
theorem zmi{u:Ob}(h:b≠a):put (put S a o) b u=put (put S b u) a o:=by
 funext c;unfold put;by_cases h1:c=b
 ·rw[if_pos h1,if_pos h1,if_neg (by rw[h1];exact h)]
 ·rw[if_neg h1,if_neg h1]
theorem zmH{u o':Ob}(h:b≠a):put (put (put S a o) b u) a o'=put (put S a o') b u:=by rw[zmi h,zbb,zmi h]
theorem zgC:zcu (put S a (.lst ws)) a Q=Q ws:=zaj zag
theorem zdS (h:put S a o b=none):S b=none∧b≠a:=by
 have hb:b≠a:=by rintro rfl;rw[zag]at h;cases h
 rw[zaA hb]at h;exact⟨h,hb⟩
theorem zuM{u:Ob}(h:S a=ae u) (n:S b=none):a≠b:=by rintro rfl;rw[h]at n;cases n
theorem Sub.put (h:Sub S S') (n:S a=none):Sub S (L2.put S' a o):=λb u e=>by rw[zaA (zuM e n)];exact h b u e
theorem Sub.put2{u:Ob}(h:Sub S S'):Sub (L2.put S a u) (L2.put S' a u):=λb w e=>by
 by_cases hb:b=a
 ·subst hb;rw[zag]at e⊢;exact e
 ·rw[zaA hb]at e⊢;exact h b w e
end
theorem zxa (S:Sto) (a b:Int):eqF S 60 (.int a) (.int b)=ae (a == b):=by have h:eqF S 60 (.int a) (.int b)=ae (a == b):=rfl;exact h
theorem zwR (S:Sto) (a b:Str):eqF S 60 (.str a) (.str b)=ae (a == b):=by have h:eqF S 60 (.str a) (.str b)=ae (a == b):=rfl;exact h
theorem zzK (S:Sto) (a b:Bool):eqF S 60 (.bl a) (.bl b)=ae (a == b):=by have h:eqF S 60 (.bl a) (.bl b)=ae (a == b):=rfl;exact h
theorem zal{n:Nat}(h:n≤16777216):n≤sizeLine:=by rw[dw];exact h
theorem zbO{n:Nat}(h:n<16777216):n<sizeLine:=by rw[dw];exact h
section
variable {S:Sto}{Q:WK}{QB:Bool→Sto→Prop}{QS:List W→(Sto→Prop)→Prop}{QT:String→Prop}
theorem zdU{a:Addr}{o:Ob}(h:S a=ae o):put S a o=S:=by
 funext b;unfold put;split
 ·rename_i e;rw[e,h]
 ·rfl
theorem zsb{b:Bool}:zsH (.bl b) S QB=QB b S:=pz id id
theorem zoA{i:Int}:zsH (.int i) S QB=QB (i != 0) S:=pz id id
theorem zqG{ws:List W}:zsH (.tup ws) S QB=QB (!ws.isEmpty) S:=pz id id
theorem zoX{a:Addr}:zsH (.ref a) S QB=zcu S a λws=>QB (!ws.isEmpty) S:=pz id id
theorem zoV:zsH .non S QB=QB false S:=pz id id
theorem zjl{ws:List W}:zog (.tup ws) S QS=QS ws λ_=>True:=pz id id
theorem zhA{a:Addr}:zog (.ref a) S QS=zcu S a λws=>QS ws λS'=>S' a=ae (.lst ws):=pz id id
theorem zuZ{b:Bool}:tyW (.bl b) S QT=QT "bool" :=pz id id
theorem zst{i:Int}:tyW (.int i) S QT=QT "int" :=pz id id
theorem zrw{i:Str}:tyW (.str i) S QT=QT "str" :=pz id id
theorem zsa{i:List W}:tyW (.tup i) S QT=QT "tuple" :=pz id id
theorem zsf:tyW .non S QT=QT "NoneType" :=pz id id
theorem zsp{a:Addr}:tyW (.ref a) S QT=zcu S a λ_=>QT "list" :=pz id id
theorem zpG{i j:Int}:zdF (.int i) (.int j) S Q=Q (.int (i+j)) S:=pz id id
theorem zpn{i j:Str}:zdF (.str i) (.str j) S Q=(i.length+j.length≤sizeLine∧Q (.str (i++j)) S):=pz id id
theorem zgN{i j:List W}:zdF (.tup i) (.tup j) S Q=(i.length+j.length≤sizeLine∧Q (.tup (i++j)) S):=pz id id
theorem zpM{a b:Addr}:zdF (.ref a) (.ref b) S Q=zcu S a λxs=>zcu S b λys=>xs.length+ys.length≤sizeLine∧ ∀p,S p=none→Q (.ref p) (put S p (.lst (xs++ys))):=pz id id
theorem zzj{C:Int→Int→Prop}{g:Int→Int→W}{i j:Int}:zdk C g (.int i) (.int j) S Q=(C i j∧Q (g i j) S):=pz id id
theorem zxe{g:Int→Int→W}{i j:Int}:zeW g (.int i) (.int j) S Q=Q (g i j) S:=pz id id
theorem zqV{i j:Int}:oLe (.int i) (.int j) S Q=Q (.bl (decide (i≤j))) S:=pz id id
theorem zrp{i j:Str}:oLe (.str i) (.str j) S Q=Q (.bl (!decide (j.cps.toList<i.cps.toList))) S:=pz id id
theorem zqi{us:List W}:zem [.tup us] S Q=Q (.int us.length) S:=pz id id
theorem zqw{a:Addr}:zem [.ref a] S Q=zcu S a λus=>Q (.int us.length) S:=pz id id
theorem zqR{ns:List Int}:zem [.scr ns] S Q=Q (.int ns.length) S:=pz id id
theorem zoM{z:Str}:zem [.str z] S Q=(z.length≤sizeLine∧Q (.int z.length) S):=pz id id
theorem zrf{ws:List W}{i:Int}:oIx (.tup ws) (.int i) S Q=match atI ws i with
 |some w=>Q w S
 |none=>False:=pz id id
theorem zrE{a:Addr}{i:Int}:oIx (.ref a) (.int i) S Q=zcu S a λws=>match atI ws i with
 |some w=>Q w S
 |none=>False:=pz id id
theorem zrI{ns:List Int}{i:Int}:oIx (.scr ns) (.int i) S Q=match atI ns i with
 |some n=>Q (.int n) S
 |none=>False:=pz id id
theorem zrX{x:Str}{i:Int}:oIx (.str x) (.int i) S Q=(x.length≤sizeLine∧match atI x.cps.toList i with
 |some c=>Q (.str ⟨#[c]⟩) S
 |none=>False):=pz id id
theorem zsd{ws:List W}{lo hi:Option Int}:oSl (.tup ws) lo hi S Q=Q (.tup (zeu ws lo hi)) S:=pz id id
theorem zrG{z:Str}{lo hi:Option Int}:oSl (.str z) lo hi S Q=(z.length≤sizeLine∧Q (.str (cu z lo hi)) S):=pz id id
theorem zrP{a:Addr}{lo hi:Option Int}:oSl (.ref a) lo hi S Q=zcu S a λws=>∀p,S p=none→Q (.ref p) (put S p (.lst (zeu ws lo hi))):=pz id id
theorem zry{ns:List Int}{lo hi:Option Int}:oSl (.scr ns) lo hi S Q= ∀p,S p=none→Q (.ref p) (put S p (.lst ((zeu ns lo hi).map W.int))):=pz id id
theorem zlG{us:List W}:zdo [.tup us] S Q=Q (.tup us) S:=pz id id
theorem zll{a:Addr}:zdo [.ref a] S Q=zcu S a λus=>Q (.tup us) S:=pz id id
theorem zsu{a:Addr}{y:W}:zbZ (.ref a) [y] S Q=zcu S a λxs=>xs.length<sizeLine∧Q .non (put S a (.lst (xs++[y]))):=pz id id
theorem zyu{a:Addr}:zAJ (.ref a) [] S Q=zcu S a λxs=>match xs[xs.length - 1]? with
 |some y=>Q y (put S a (.lst xs.dropLast))
 |none=>False:=pz id id
theorem zjJ{a:Addr}{ys:List W}:zhp (.ref a) [.tup ys] S Q=zcu S a λxs=>xs.length+ys.length≤sizeLine∧Q .non (put S a (.lst (xs++ys))):=pz id id
theorem zjP{a b:Addr}:zhp (.ref a) [.ref b] S Q=zcu S a λxs=>zcu S b λys=>xs.length+ys.length≤sizeLine∧Q .non (put S a (.lst (xs++ys))):=pz id id
theorem zoO{a:Addr}{ws:List W}:zrJ (.ref a) ws S Q=zcu S a λxs=>xs.length+ws.length≤sizeLine∧Q .non (put S a (.lst (xs++ws))):=pz id id
theorem zyP{a:Addr}:rvL (.ref a) S=zcu S a λ_=>True:=pz id id
theorem zyw{x:Str}:rvS (.str x) S=True:=pz id id
theorem zrY{b:Bool}:zvP [.bl b] S Q=Q (.int (if b then 1 else 0)) S:=pz id id
theorem zqq{i:Int}:zvP [.int i] S Q=Q (.int i) S:=pz id id
theorem zwL{i j:Int}:zyt [.int i, .int j] S Q=Q (.int (if j > i then j else i)) S:=pz id id
theorem zwh{i j:Int}:zki [.int i, .int j] S Q=Q (.int (if j<i then j else i)) S:=pz id id
theorem zwl{z:Str}{ws:List W}:zjW (.str z) ws S Q=match zgl ws with
 |some ys=>(ys.map (·.length)).sum+ys.length*z.length≤16777216∧Q (.str (cN z ys)) S
 |none=>False:=pz id id
theorem ztM{z y:Str}:zwd (.str z) [.str y] S Q=match cR z y 0 z.length 1 with
 |i::_=>Q (.int i) S
 | []=>False:=pz id id
theorem zrB{neg:Bool}:oIs neg .non .non S Q=Q (.bl (!neg)) S:=pz id id
theorem zuE{neg a b:Bool}:oIs neg (.bl a) (.bl b) S Q=Q (.bl (if neg then a != b else a == b)) S:=pz id id
theorem ztG{neg a:Bool}:oIs neg (.bl a) .non S Q=Q (.bl neg) S:=pz id id
theorem zoY{neg:Bool}{ws:List W}:oIs neg (.tup ws) .non S Q=Q (.bl neg) S:=pz id id
theorem zvt{neg:Bool}{a:Addr}:oIs neg (.ref a) .non S Q=Q (.bl neg) S:=pz id id
theorem zqt{neg:Bool}{a:Int}:oIs neg (.int a) .non S Q=Q (.bl neg) S:=pz id id
theorem zsn{neg:Bool}{x:W}{ws:List W}:oIn neg x (.tup ws) S Q=match inF S x ws with
 |some b=>Q (.bl (if neg then !b else b)) S
 |none=>False:=pz id id
theorem zrM{neg:Bool}{x:W}{a:Addr}:oIn neg x (.ref a) S Q=zcu S a λws=>match inF S x ws with
 |some b=>Q (.bl (if neg then !b else b)) S
 |none=>False:=pz id id
theorem zrU{neg:Bool}{i j:Str}:oIn neg (.str i) (.str j) S Q=Q (.bl (if neg then !(!(cR j i 0 j.length 1).isEmpty) else !(cR j i 0 j.length 1).isEmpty)) S:=pz id id
end
theorem zlp{g:WG}{b:WS}{E:WX}{D:WEnds}{G:Sto→Prop}(I:List W→WSt→Sto→Prop)
  (step:∀w ws σ S (N:WSt→Sto→Prop),I (w::ws) σ S→(∀σ' S' S'',Sub S'' S'→G S''→I ws σ' S''→N σ' S')→g w σ S λσ1 S1=>b E { D with nx:=N,ct:=N,bk:=D.nx } σ1 S1)
  (done:∀σ S,I [] σ S→D.nx σ S):∀(ws:List W) (σ:WSt) (S:Sto),I ws σ S→forL g b E D G ws σ S
 | [],σ,S,h=>done σ S h
 |w::ws,σ,S,h=>step w ws σ S _ h λσ' S' S'' sb hG hI=>⟨S'',sb,hG,zlp I step done ws σ' S'' hI⟩
section
variable {E:WX}{σ:WSt}{S:Sto}{Q:WK}{QB:Bool→Sto→Prop}{QA:List W→Sto→Prop}{QI:List W→(Sto→Prop)→Sto→Prop}{QO:Option Int→Sto→Prop}{P:WSt→Sto→Prop}{D:WEnds}{w x y:W}{ws:List W}{EX:Str→Sto→Prop}
theorem zwS{i:Nat}:(zae i E σ S Q)=(match σ[i]? with
 |some (ae w)=>Q w S
 |_=>False):=pz id id
theorem zAG{w:W}:(wC w E σ S Q)=(Q w S):=pz id id
theorem zyH{r:W2}{a b:WE}:(wOp r a b E σ S Q)=(a E σ S λx S1=>b E σ S1 λy S2=>r x y S2 Q):=pz id id
theorem zwJ{t:WE}:(zgt t E σ S QB)=(t E σ S λw S'=>zsH w S' QB):=pz id id
theorem zzd{t:WE}:(wTb t E σ S QB)=(t E σ S λw S'=>match w with
 | .bl b=>QB b S'
 |_=>False):=pz id id
theorem zxl{t u:WT}:(zqU t u E σ S QB)=(t E σ S λc S1=>if c=true then u E σ S1 QB else QB false S1):=pz id id
theorem zyN{t u:WT}:(wOr t u E σ S QB)=(t E σ S λc S1=>if c=true then QB true S1 else u E σ S1 QB):=pz id id
theorem zxI{t:WT}:(zqS t E σ S QB)=(t E σ S λc S1=>QB (!c) S1):=pz id id
theorem ztX{t u:WE}:(zrN t u E σ S Q)=(t E σ S λw S1=>match w with
 | .bl true=>u E σ S1 Q
 | .bl false=>Q (.bl false) S1
 |_=>False):=pz id id
theorem zzv{c:WT}{t u:WE}:(wIf c t u E σ S Q)=(c E σ S λb S1=>if b=true then t E σ S1 Q else u E σ S1 Q):=pz id id
theorem zvF{c:WT}{t u:WS}:(zbK c t u E D σ S)=(c E σ S λb S1=>if b=true then t E D σ S1 else u E D σ S1):=pz id id
theorem zul:(zaD  E D σ S)=(D.nx σ S):=pz id id
theorem zxb{t u:WS}:(zas t u E D σ S)=(t E { D with nx:=u E D } σ S):=pz id id
theorem zwE{e:WE}:(zaU e E D σ S)=(e E σ S D.rt):=pz id id
theorem zuc{e:WE}:(zcV e E D σ S)=(e E σ S λ_ S1=>D.nx σ S1):=pz id id
theorem ziN{i:Nat}:(wGN i w σ S P)=(P (σ.set i (ae w)) S):=pz id id
theorem zwD{e:WE}{g:WG}:(wAsg e g E D σ S)=(e E σ S λw S1=>g w σ S1 D.nx):=pz id id
theorem ziq:(zbI  ws σ S P)=(match ws with
 | []=>P σ S
 |_=>False):=pz id id
theorem zfD{g:WG}{u:WGs}:(zaq g u ws σ S P)=(match ws with
 | []=>False
 |w::r=>g w σ S λσ' S'=>u r σ' S' P):=pz id id
theorem zrL{u:WGs}:(wGT u w σ S P)=(match w with
 | .tup ws=>u ws σ S P
 |_=>False):=pz id id
theorem zun:(waNil  E σ S QA)=(QA [] S):=pz id id
theorem zsk{t:WE}{u:WA}:(zab t u E σ S QA)=(t E σ S λw S1=>u E σ S1 λws S2=>QA (w::ws) S2):=pz id id
theorem zxt{t:WA}:(zbD t E σ S Q)=(t E σ S λws S1=>ws.length≤sizeLine∧Q (.tup ws) S1):=pz id id
theorem zxH{t:WA}:(zdm t E σ S QA)=(t E σ S λws S1=>ws.length≤sizeLine∧QA ws S1):=pz id id
theorem zvL{t:WL}:(zct t E σ S Q)=(t E σ S λws S1=>∀a,S1 a=none→Q (.ref a) (put S1 a (.lst ws))):=pz id id
theorem zuw{c:WSp}{t:WA}:(zap c t E σ S Q)=(t E σ S λws S1=>c ws S1 Q λcl S2=>E cl σ S2):=pz id id
theorem zgM{n k:Nat}{body:WS}:(zcv n k body ws S Q EX)=(ws.length=k∧body (λc _ S'=>EX c S') { nx:=λ_ S'=>∃S'',Sub S'' S'∧Q .non S'',rt:=λw S'=>∃S'',Sub S'' S'∧Q w S'' } (ws.map ae++aO (n - k) none) S):=pz id id
theorem zwB{t:WE}:(zoa t E σ S Q)=(t E σ S λw S1=>match w with
 | .int i=>Q (.int (-i)) S1
 |_=>False):=pz id id
theorem zzB{t u:WE}:(zyS t u E σ S QA)=(t E σ S λx S1=>u E σ S1 λy S2=>match x,y with
 | .ref a, .ref b=>zcu S2 a λxs=>zcu S2 b λys=>xs.length+ys.length≤sizeLine∧QA (xs++ys) S2
 |_,_=>False):=pz id id
theorem zyM{neg:Bool}:(oEq neg x y S Q)=(match eqF S 60 x y with
 |some b=>Q (.bl (if neg then !b else b)) S
 |none=>False):=pz id id
theorem zzp:(woN  E σ S QO)=(QO none S):=pz id id
theorem zyo{t:WE}:(woS t E σ S QO)=(t E σ S λw S1=>match w with
 | .int i=>QO (ae i) S1
 |_=>False):=pz id id
theorem zzG{t:WE}{l h:WO}:(wSl t l h E σ S Q)=(t E σ S λx S1=>l E σ S1 λlo S2=>h E σ S2 λhi S3=>oSl x lo hi S3 Q):=pz id id
theorem zAe{f:WF}{t:WA}:(wB f t E σ S Q)=(t E σ S λws S1=>f ws S1 Q):=pz id id
theorem zzl{f:WF}{t:WL}:(wBL f t E σ S Q)=(t E σ S λws S1=>f ws S1 Q):=pz id id
theorem zoH:(zhq  ws S Q)=(Q (.tup ws) S):=pz id id
theorem zqK{t:WE}:(zhe t E σ S QA)=(t E σ S λw S1=>match w with
 | .tup ws=>QA ws S1
 | .ref a=>zcu S1 a λws=>QA ws S1
 | .scr ns=>QA (ns.map W.int) S1
 |_=>False):=pz id id
theorem zxP{T:String}{t:WE}:(zoh T t E σ S Q)=(t E σ S λw S1=>tyW w S1 λA=>Q (.bl (zcd A T)) S1):=pz id id
theorem zAD{rv:W→Sto→Prop}{f:WMf}{to:WE}{t:WA}:(wM rv f to t E σ S Q)=(to E σ S λw S1=>rv w S1∧t E σ S1 λws S2=>f w ws S2 Q):=pz id id
theorem zyR{rv:W→Sto→Prop}{f:WMf}{to:WE}{t:WL}:(wML rv f to t E σ S Q)=(to E σ S λw S1=>rv w S1∧t E σ S1 λws S2=>f w ws S2 Q):=pz id id
theorem zxi{i:Nat}{g:Int→Int→Int}{e:WE}:(zxc i g e E D σ S)=(match σ[i]? with
 |some (ae (.int a))=>e E σ S λw S1=>match w with
  | .int b=>D.nx (σ.set i (ae (.int (g a b)))) S1
  |_=>False
 |_=>False):=pz id id
theorem zvU{q:WI}{g:WG}{b:WS}:(zgq q g b E D σ S)=(q E σ S λws G S1=>forL g b E D G ws σ S1):=pz id id
theorem zzi{t:WE}:(wIv t E σ S QI)=(t E σ S λw S1=>match w with
 | .tup ws=>QI ws (λ_=>True) S1
 | .ref a=>zcu S1 a λws=>QI ws (λS'=>S' a=ae (.lst ws)) S1
 | .scr ns=>QI (ns.map W.int) (λ_=>True) S1
 | .str z=>QI (zlE z) (λ_=>True) S1
 |_=>False):=pz id id
theorem zwp{t:WA}:(zsU t E σ S QI)=(t E σ S λws S1=>match ws with
 | [.int j]=>(-(2 ^ 62)≤j∧j<2 ^ 62)∧QI (zkZ 0 j.toNat) (λ_=>True) S1
 |_=>False):=pz id id
theorem zxD:(zhL  E σ S QB)=(QB true S):=pz id id
theorem zuU{k:Nat}{fr:List Nat}{q:WI}{g:WG}{c:WT}{e:WE}:(zdi k fr q g c e E σ S QA)=(q noE σ S λws G S1=>zfT g c e noE G QA ws [] (aO k none++fr.map λj=>(σ[j]?).join) S1):=pz id id
theorem zux{t:WE}:(zod t E σ S QI)=(t E σ S λw S1=>zog w S1 λws G=>QI (zgP 0 ws) G S1):=pz id id
theorem zwe{t u:WE}:(zsN t u E σ S QI)=(t E σ S λx S1=>u E σ S1 λy S2=>zog x S2 λxs G=>zog y S2 λys G'=>QI (pairs xs ys) (λS'=>G S'∧G' S') S2):=pz id id
theorem zue{t:WE}{l h:WO}:(zvy t l h E σ S QA)=(t E σ S λx S1=>l E σ S1 λlo S2=>h E σ S2 λhi S3=>match x with
 | .ref a=>zcu S3 a λws=>QA (zeu ws lo hi) S3
 | .scr ns=>QA ((zeu ns lo hi).map W.int) S3
 |_=>False):=pz id id
theorem zwk{t:WL}{u:WE}:(zsF t u E σ S Q)=(t E σ S λws S1=>u E σ S1 λy S2=>match y with
 | .int i=>match atI ws i with
  |some w=>Q w S2
  |none=>False
 |_=>False):=pz id id
theorem zvh{t:WE}{u:WL}:(zrj t u E σ S QA)=(t E σ S λx S1=>u E σ S1 λys S2=>match x with
 | .ref a=>zcu S2 a λxs=>xs.length+ys.length≤sizeLine∧QA (xs++ys) S2
 |_=>False):=pz id id
theorem ztW{t u:WL}:(zoc t u E σ S QA)=(t E σ S λxs S1=>u E σ S1 λys S2=>xs.length+ys.length≤sizeLine∧QA (xs++ys) S2):=pz id id
theorem zvl{t:WL}{u:WE}:(zpY t u E σ S QA)=(t E σ S λxs S1=>u E σ S1 λy S2=>match y with
 | .ref a=>zcu S2 a λys=>xs.length+ys.length≤sizeLine∧QA (xs++ys) S2
 |_=>False):=pz id id
theorem ztL{t:WL}{u:WE}:(zsc t u E σ S QA)=(t E σ S λxs S1=>u E σ S1 λy S2=>match y with
 | .int k=>(-(2 ^ 63)≤k∧k<2 ^ 63∧xs.length*k.toNat≤sizeLine)∧QA (aO k.toNat xs).flatten S2
 |_=>False):=pz id id
end
section
variable {S:Sto}{Q:WK}
theorem zvz{xs:List W}{k:Int}:zyq (.tup xs) (.int k) S Q=((xs≠ []∧ -(2 ^ 63)≤k∧k<2 ^ 63∧xs.length*k.toNat≤sizeLine)∧Q (.tup (aO k.toNat xs).flatten) S):=pz id id
theorem zzJ{neg:Bool}{y:W}{a:Addr}:zwi neg y (.ref a) S Q=(match zpR y with
 |some k=>zqY S a λkvs=>Q (.bl (if neg then !(zgk kvs k).isSome else(zgk kvs k).isSome)) S
 |none=>False):=pz id id
theorem zxr{y:W}{a:Addr}:zzA (.ref a) y S Q=(match zpR y with
 |some k=>zqY S a λkvs=>match zgk kvs k with
  |some w=>Q w S
  |none=>False
 |none=>False):=pz id id
theorem zug{ws:List W}:(zqA ws S Q)=(match zcj ws with
 |some ns=>Q (.int ns.sum) S
 |none=>False):=pz id id
theorem ztF{z:Str}:zlU (.str z) [] S Q=(z.length≤5592405∧Q (.str (dF z)) S):=pz id id
theorem zfO:∀p:List Int,zcj (p.map W.int)=ae p
 | []=>rfl
 |i::p=>by rw[aA,zcj,zfO p];rfl
theorem zzH (p:List Int):zpR (zbm p)=ae p:=zfO p
theorem zrn{a:Addr}{kvs:List (List Int×W)}{P:List (List Int×W)→Prop}:zqY (put S a (.dct kvs)) a P=P kvs:=zlq zag
end
end L2
end
section
def L2.wZ (d:String):Lean.MacroM (Lean.TSyntax `tactic):=do
  let a:Array Lean.Term:=(("L2.zwS L2.zAG L2.zyH L2.zwJ L2.zzd L2.zxl L2.zyN L2.zxI L2.ztX L2.zzv L2.zvF L2.zul L2.zxb L2.zwE L2.zuc L2.ziN L2.zwD L2.ziq L2.zfD L2.zrL L2.zun L2.zsk L2.zxt L2.zxH L2.zvL L2.zuw L2.zgM L2.zwB L2.zyM L2.zzp L2.zyo L2.zzG L2.zAe L2.zzl L2.zoH L2.zqK L2.zxP L2.zAD L2.zyR L2.zxi L2.zvU L2.zzi L2.zwp L2.zxD L2.zuU L2.zux L2.zwe L2.zue L2.zwk L2.zvh L2.ztW L2.zvl L2.ztL L2.zvz L2.zzJ L2.zxr L2.zug L2.zqW L2.ztF L2.zzH L2.zrn L2.zgC L2.zbb L2.zxa L2.zwR L2.zzK L2.zty L2.ziv L2.zlf L2.zkg L2.zli L2.ziM L2.zjX L2.zka L2.ziV L2.zkj L2.zhN L2.ziG L2.zlg L2.zjG L2.zlJ L2.zje L2.zkt L2.zio L2.zhJ L2.ziz L2.sub_tuple_tuple L2.sub_tuple_list L2.zkc L2.zjd L2.zjy L2.sub_list_tuple L2.sub_list_list L2.zsb L2.zoA L2.zqG L2.zoX L2.zoV L2.zjl L2.zhA L2.zuZ L2.zst L2.zrw L2.zsa L2.zsf L2.zsp L2.zpG L2.zpn L2.zgN L2.zpM L2.zzj L2.zxe L2.zqV L2.zrp L2.zqi L2.zqw L2.zqR L2.zoM L2.zrf L2.zrE L2.zrI L2.zrX L2.zsd L2.zrG L2.zrP L2.zry L2.zlG L2.zll L2.zsu L2.zyu L2.zjJ L2.zjP L2.zoO L2.zyP L2.zyw L2.zrY L2.zqq L2.zwL L2.zwh L2.zwl L2.ztM L2.zrB L2.zuE L2.ztG L2.zoY L2.zvt L2.zqt L2.zsn L2.zrM L2.zrU List.map_cons List.map_nil List.length_cons List.length_nil List.cons_append List.nil_append List.append_nil List.replicate List.getElem?_cons_zero List.getElem?_cons_succ List.getElem?_nil List.set_cons_zero List.set_cons_succ Nat.reduceAdd Nat.reduceSub true_and and_true if_true if_false Bool.false_eq_true reduceIte Bool.not_true Bool.not_false Option.join_some Option.join_none decide_eq_true_eq and_self".splitOn " ").filter (· != d)).toArray.map λs=>Lean.mkIdent s.toName
  `(tactic| simp only [$[$a:term],*])
local macro_rules | `(tactic| walk_at "wp") => L2.wZ ""
section
namespace L2
open PySem PySem.Spec PyProof.Rows
noncomputable def vlK (kvs:List (Key×W)) (k:Key):Option W:=(kvs.find? λkv=>decide (kv.1=k)).map (·.2)
noncomputable def ptK (kvs:List (Key×W)) (k:Key) (v:W):List (Key×W):=
 if(kvs.any λkv=>decide (kv.1=k))=true then kvs.map (λkv=>if kv.1=k then(kv.1,v) else kv) else kvs++[(k,v)]
noncomputable def zqH:W→Option Key
 | .int i=>ae (.inl i)
 | .str x=>ae (.inr x)
 |_=>none
def dkW (S:Sto) (a:Addr) (P:List (Key×W)→Prop):Prop:=match S a with
 |some (.dk kvs)=>P kvs
 |_=>False
theorem zpp{S:Sto}{a:Addr}{P:List (Key×W)→Prop}(h:dkW S a P):∃kvs,S a=ae (.dk kvs)∧P kvs:=by
 unfold dkW at h;split at h
 ·exact⟨_, ‹_›,h⟩
 ·exact h.elim
theorem zmw{S:Sto}{a:Addr}{kvs:List (Key×W)}{P:List (Key×W)→Prop}(e:S a=ae (.dk kvs)):dkW S a P=P kvs:=by unfold dkW;rw[e]
section
variable {K:aj}{H:Hp}
noncomputable abbrev RpK (K:aj) (H:Hp):List (Key×W)→List (Key×V)→Prop:=aM λq p=>p.1=q.1∧Rep K H q.2 p.2
theorem RpK.val{kvs:List (Key×W)}{ps:List (Key×V)}(r:RpK K H kvs ps) (k:Key):(∀w,vlK kvs k=ae w→ ∃v,zji ps k=ae v∧Rep K H w v)∧(vlK kvs k=none→zji ps k=none):=by
 induction r with
 |nil=>exact⟨λw h=>by simp [vlK]at h,λ_=>rfl⟩
 | @cons q p kvs ps h t ih=>
  by_cases hk:q.1=k
  ·have e:p.1=k:=by rw[h.1,hk]
   rw[zfA e];have ew:vlK (q::kvs) k=ae q.2:=by simp [vlK,bG,hk]
   rw[ew];exact⟨λw z=>by cases z;exact⟨_,rfl,h.2⟩,λz=>by cases z⟩
  ·have e:¬p.1=k:=by rw[h.1];exact hk
   rw[zfN e];have ew:vlK (q::kvs) k=vlK kvs k:=by simp [vlK,bG,hk]
   rw[ew];exact ih
theorem RpK.any{kvs:List (Key×W)}{ps:List (Key×V)}(r:RpK K H kvs ps) (k:Key):(ps.any λkv=>decide (kv.1=k))=kvs.any λkv=>decide (kv.1=k):=by
 induction r with
 |nil=>rfl
 | @cons q p kvs ps h t ih=>
  rw[cG,cG,ih,h.1]
theorem RpK.put{kvs:List (Key×W)}{ps:List (Key×V)}(r:RpK K H kvs ps) (k:Key) {w:W}{v:V}(rw':Rep K H w v):RpK K H (ptK kvs k w) (zhM ps k v):=by
 unfold ptK zhM;rw[r.any k];split
 ·rename_i hany;clear hany
  induction r with
  |nil=>exact .nil
  | @cons q p kvs ps h t ih=>
   rw[aA,aA];refine .cons ?_ ih;by_cases hk:q.1=k
   ·rw[if_pos hk,if_pos (by rw[h.1,hk])];exact⟨h.1,rw'⟩
   ·rw[if_neg hk,if_neg (by rw[h.1];exact hk)];exact h
 ·rename_i hany;clear hany
  induction r with
  |nil=>exact .cons ⟨rfl,rw'⟩ .nil
  |cons h t ih=>exact .cons h ih
theorem zmV{w:W}{v:V}{k:Key}(r:Rep K H w v) (e:zqH w=ae k):v=kV k:=by
 cases r with
 |int i=>cases e;rfl
 |str x=>cases e;rfl
 |_=>simp [zqH]at e
theorem zvo{S:Sto}{a:Addr}{kvs:List (Key×W)}{y:V}{wy:W}{k:Key}(hS:RepS K H S) (e:S a=ae (.dk kvs)) (ry:Rep K H wy y) (ek:zqH wy=ae k):∃o,DGet H a y o∧(vlK kvs k=none→o=none)∧ ∀w,vlK kvs k=ae w→ ∃v,o=ae v∧Rep K H w v:=by
 obtain⟨ps,e1,r⟩:=hS a _ e;cases zmV ry ek;have rv:=RpK.val r k;exact⟨zji ps k, .k e1,rv.2,rv.1⟩
end
noncomputable def ztP:WE:=λ_ _ S Q=>∀a,S a=none→Q (.ref a) (put S a (.dk []))
noncomputable def zuf (td ty tv:WE):WS:=λE D σ S=>tv E σ S λv S1=>td E σ S1 λx S2=>ty E σ S2 λy S3=>match x with
 | .ref a=>match zqH y with
  |some k=>dkW S3 a λkvs=>kvs.length<sizeLine∧D.nx σ (put S3 a (.dk (ptK kvs k v)))
  |none=>False
 |_=>False
noncomputable def znc (td ty tz:WE):WE:=λE σ S Q=>td E σ S λx S1=>match x with
 | .ref a=>dkW S1 a λ_=>ty E σ S1 λy S2=>tz E σ S2 λz S3=>match zqH y with
  |some k=>dkW S3 a λkvs=>Q ((vlK kvs k).getD z) S3
  |none=>False
 |_=>False
section
variable {X:Cx}{a b o i e f value:Expr}{pos pos' apos cpos:aC}{td ty tv tz:WE}
theorem zuj:JE X (.Dict [] [] pos) ztP:=λE hE=>
 pe_dnewK.mono λσ H Q ⟨σW,S,QW,hσ,hS,ht,hQ⟩ p hp=>by
  refine hQ (.ref p) (put S p (.dk [])) (.ref p) _ (.newS hp) (.ref p) (λb o q=>?_) (ht p (hS.free hp));by_cases hb:b=p
  ·subst hb;rw[zag]at q;cases q;exact⟨[],zay, .nil⟩
  ·rw[zaA hb]at q;exact hS.new hp b o q
theorem zvd{k:Nat}(hr:Room k X.A) (ho:JE X o td) (hi:JE X i ty) (hv:JE X value tv) (hs:c7 value (ae (.Subscript o i pos')) pos.line X.env=pure false:=by rfl):JS X (.Assign [.Subscript o i pos'] value pos) (zuf td ty tv):=λE hE=>
 (zvj (by have:=hr.units;omega) (ho E hE) (hi E hE) (hv E hE) hs).mono λD σ H ⟨σW,S,DW,hσ,hS,ht,hD⟩=>
  ⟨σW,S,_,hσ,hS,ht,λw S1 v H1 e1 r1 hS1 h1=>⟨σW,S1,_,hσ.ext e1,hS1,h1,λwx S2 x H2 e2 r2 hS2 h2=>⟨σW,S2,_,(hσ.ext e1).ext e2,hS2,h2,λwy S3 y H3 e3 r3 hS3 h3=>by
   split at h3
   ·split at h3
    ·rename_i a _ k ek;obtain⟨kvs,ea,hl,h3⟩:=zpp h3;cases r2;obtain⟨ps,e4,r4⟩:=hS3 a _ ea;cases zmV r3 ek;have r1':Rep X.K H3 w v:=(r1.ext e2).ext e3;have x4:Ext H3 S3 (upd H3 a (.dK (zhM ps k v))) (put S3 a (.dk (ptK kvs k w))):= .mut e4 ea (λ_ z=>nomatch z) λ_ _ z=>nomatch z;refine⟨a,_,rfl, .k e4 (by rw[←dH r4];exact hl),?_⟩;refine hD.nx _ (put S3 a (.dk (ptK kvs k w))) _ _ (((e1.trans e2).trans e3).trans x4) ((((hσ.ext e1).ext e2).ext e3).ext x4) (λc ob q=>?_) h3;by_cases hc:c=a
     ·subst hc;rw[zag]at q;cases q;exact⟨_,zay,Paired.mapP (RpK.put r4 k r1') λ_ _ z=>⟨z.1,z.2.ext x4⟩⟩
     ·rw[zaA hc]at q;exact(hS3 c ob q).keep x4 λu z=>by rw[zaz hc];exact z
    ·exact h3.elim
   ·exact h3.elim⟩⟩⟩
theorem znf{k:Nat}(hr:Room k X.A) (ho:JE X o td) (he:JE X e ty) (hf:JE X f tz) (m:M2 X o "get" apos e f cpos:=by exact⟨rfl,rfl,rfl,rfl⟩):JE X (.Call (.Attribute o "get" apos) [e,f] [] cpos) (znc td ty tz):=λE hE=>
 (zrt (by have:=hr.units;omega) (ho E hE) (he E hE) (hf E hE) m).mono λσ H Q ⟨σW,S,QW,hσ,hS,ht,hQ⟩=>
  ⟨σW,S,_,hσ,hS,ht,λwx S1 x H1 e1 r1 hS1 h1=>by
   split at h1
   ·rename_i a;obtain⟨kv0,ea0,h1⟩:=zpp h1;cases r1;obtain⟨ps0,e0,_⟩:=hS1 a _ ea0;refine⟨a,rfl, .inl ⟨_, .inl e0⟩,σW,S1,_,hσ.ext e1,hS1,h1,λwy S2 y H2 e2 r2 hS2 h2=>⟨σW,S2,_,(hσ.ext e1).ext e2,hS2,h2,λwz S3 z H3 e3 r3 hS3 h3=>?_⟩⟩;split at h3
    ·rename_i k ek;obtain⟨kvs,ea,h3⟩:=zpp h3;obtain⟨o,g,g0,g1⟩:=zvo hS3 ea (r2.ext e3) ek;refine⟨o,g,?_⟩;cases q:vlK kvs k with
     |none=>
      rw[q]at h3;rw[g0 q];exact hQ wz S3 z H3 ((e1.trans e2).trans e3) r3 hS3 h3
     |some w=>
      rw[q]at h3;obtain⟨v,rfl,rv⟩:=g1 w q;exact hQ w S3 v H3 ((e1.trans e2).trans e3) rv hS3 h3
    ·exact h3.elim
   ·exact h1.elim⟩
end
section
variable {E:WX}{D:WEnds}{σ:WSt}{S:Sto}{Q:WK}
theorem ztJ:(ztP E σ S Q)= ∀a,S a=none→Q (.ref a) (put S a (.dk [])):=pz id id
theorem zqN{td ty tv:WE}:(zuf td ty tv E D σ S)=(tv E σ S λv S1=>td E σ S1 λx S2=>ty E σ S2 λy S3=>match x with
 | .ref a=>match zqH y with
  |some k=>dkW S3 a λkvs=>kvs.length<sizeLine∧D.nx σ (put S3 a (.dk (ptK kvs k v)))
  |none=>False
 |_=>False):=pz id id
theorem znr{td ty tz:WE}:(znc td ty tz E σ S Q)=(td E σ S λx S1=>match x with
 | .ref a=>dkW S1 a λ_=>ty E σ S1 λy S2=>tz E σ S2 λz S3=>match zqH y with
  |some k=>dkW S3 a λkvs=>Q ((vlK kvs k).getD z) S3
  |none=>False
 |_=>False):=pz id id
end
noncomputable def zcE:Nat→WSp
 |0=>zaR
 |r+1=>zcv 1 1 (zas (zbK (zgt (zoh "int" (zae 0))) (zaU (zbD waNil)) zaD)
  (zaU (wSl (zae 0) (woS (wC (.int 1))) woN)))
noncomputable def zcQ (r:Nat) (self:WSp):WS:=(zcV (wM rvL zhp (zae 1) (zab (zap (zcE r) (zab (zae 2) waNil)) waNil)))
noncomputable def zbT:Nat→WSp
 |0=>zaR
 |r+1=>zcv 3 1 (zas (wAsg (zct (zdm waNil)) (wGN 1))
  (zas (zgq (wIv (zae 0)) (wGN 2) (zcQ r zaR))
  (zaU (zae 1))))
noncomputable def zgs (r:Nat) (self:WSp):WS:=(zas (zxc 1 (λa b=>a+b) (wB zem (zab (zae 3) waNil)))
  (zas (zxc 2 (λa b=>a+b) (wC (.int 1)))
  (zas (zbK (wOr (wTb (wOp oGt (zae 1) (wC (.int 400)))) (wTb (wOp oGt (zae 2) (wC (.int 40))))) (zaU (wC (.bl false))) zaD)
  (wAsg (zap (zbT r) (zab (zae 3) waNil)) (wGN 3)))))
noncomputable def zdH:Nat→WSp
 |0=>zaR
 |r+1=>zcv 4 1 (zas (wAsg (wC (.int 0)) (wGN 1))
  (zas (wAsg (wC (.int 0)) (wGN 2))
  (zas (wAsg (zct (zdm (zab (zae 0) waNil))) (wGN 3))
  (zas (zpi (zgt (zae 3)) (zgs r zaR))
  (zaU (wC (.bl true)))))))
noncomputable def zcH (r:Nat) (self:WSp):WS:=(zcV (zap self (zab (zae 4) (zab (wOp zdF (zae 1) (zbD (zab (zae 3) waNil))) (zab (zae 2) waNil)))))
noncomputable def zaO:Nat→WSp
 |0=>zaR
 |r+1=>zcv 5 3 (zas (zcV (wM rvL zbZ (zae 2) (zab (zae 1) waNil)))
  (zgq (zod (zap (zcE r) (zab (zae 0) waNil))) (wGT (zaq (wGN 3) (zaq (wGN 4) zbI))) (zcH r (zaO r))))
noncomputable def zfv:Nat→WSp
 |0=>zaR
 |r+1=>zcv 2 1 (zas (wAsg (zct (zdm waNil)) (wGN 1))
  (zas (zcV (zap (zaO r) (zab (zae 0) (zab (zbD waNil) (zab (zae 1) waNil)))))
  (zaU (zae 1))))
noncomputable def zbF:Nat→WSp
 |0=>zaR
 |r+1=>zcv 3 2 (zas (wAsg (zap (zcE r) (zab (zae 0) waNil)) (wGN 2))
  (zas (zbK (wOr (wTb (wOp oLt (zae 1) (wC (.int 0)))) (wTb (wOp oGe (zae 1) (wB zem (zab (zae 2) waNil))))) (zgU "NoPlace" (zab (wC (.str "there is no such place")) waNil)) zaD)
  (zaU (wOp oIx (zae 2) (zae 1)))))
noncomputable def ziP (r:Nat) (self:WSp):WS:=(wAsg (zap (zbF r) (zab (zae 2) (zab (zae 3) waNil))) (wGN 2))
noncomputable def zkh:Nat→WSp
 |0=>zaR
 |r+1=>zcv 4 2 (zas (wAsg (zae 0) (wGN 2))
  (zas (zgq (wIv (zae 1)) (wGN 3) (ziP r zaR))
  (zaU (zae 2))))
noncomputable def zgw (r:Nat) (self:WSp):WE:=(zae 0)
noncomputable def zbR:Nat→WSp
 |0=>zaR
 |r+1=>zcv 1 1 (zaU (zct (zdi 1 [0] (wIv (zap (zfv r) (zab (zae 0) waNil))) (wGN 0) (zgt (zoh "int" (zap (zkh r) (zab (zae 1) (zab (zae 0) waNil))))) (zgw r zaR))))
noncomputable def zik (r:Nat) (self:WSp):WE:=(zap self (zab (zae 0) (zab (zae 1) waNil)))
noncomputable def zcU:Nat→WSp
 |0=>zaR
 |r+1=>zcv 2 2 (zas (zbK (zgt (zoh "int" (zae 0))) (zaU (wOp oIx (zae 1) (zae 0))) zaD)
  (zaU (wOp zdF (zbD (zab (wOp oIx (zae 0) (wC (.int 0))) waNil)) (wBL zhq (zdi 1 [1] (wIv (wSl (zae 0) (woS (wC (.int 1))) woN)) (wGN 0) zhL (zik r (zcU r)))))))
noncomputable def zbQ:Nat→WSp
 |0=>zaR
 |r+1=>zcv 2 2 (zaU (zrN (wOp (oEq false) (wOp oIx (zae 0) (wC (.int 0))) (wOp oIx (zae 1) (wC (.int 0)))) (wOp (oEq false) (wB zem (zab (zae 0) waNil)) (wB zem (zab (zae 1) waNil)))))
noncomputable def zcf (r:Nat) (self:WSp):WS:=(zbK (zqS (zgt (zap self (zab (zae 3) (zab (zae 4) (zab (zae 2) waNil)))))) (zaU (wC (.bl false))) zaD)
noncomputable def zaE:Nat→WSp
 |0=>zaR
 |r+1=>zcv 5 3 (zas (zbK (zgt (zoh "int" (zae 0))) (zas (zcV (wM rvL zbZ (zae 2) (zab (zae 1) waNil)))
  (zaU (wC (.bl true)))) zaD)
  (zas (zbK (zqS (zgt (zap (zbQ r) (zab (zae 0) (zab (zae 1) waNil))))) (zaU (wC (.bl false))) zaD)
  (zas (zgq (zsN (wSl (zae 0) (woS (wC (.int 1))) woN) (wSl (zae 1) (woS (wC (.int 1))) woN)) (wGT (zaq (wGN 3) (zaq (wGN 4) zbI))) (zcf r (zaE r)))
  (zaU (wC (.bl true))))))
noncomputable def zbS:Nat→WSp
 |0=>zaR
 |r+1=>zcv 3 2 (zas (wAsg (zct (zdm waNil)) (wGN 2))
  (zas (zbK (zgt (zap (zaE r) (zab (zae 0) (zab (zae 1) (zab (zae 2) waNil))))) (zaU (zae 2)) zaD)
  (zaU (wC .non))))
noncomputable def zeE (r:Nat) (self:WSp):WS:=(zbK (wTb (wOp (oEq false) (wOp oIx (zae 2) (wC (.int 0))) (zae 1))) (zaU (zae 2)) zaD)
noncomputable def zaW:Nat→WSp
 |0=>zaR
 |r+1=>zcv 3 2 (zas (zgq (wIv (zae 0)) (wGN 2) (zeE r zaR))
  (zaU (wC .non)))
noncomputable def zbf:Nat→WSp
 |0=>zaR
 |r+1=>zcv 1 1 (zas (zbK (zqS (zgt (zap (zdH r) (zab (zae 0) waNil)))) (zgU "TooGreat" (zab (wC (.str "the shape is not small")) waNil)) zaD)
  (zaU (zae 0)))
noncomputable def zeB (r:Nat) (self:WSp):WE:=(zap self (zab (zae 1) (zab (zae 0) (zab (zae 2) waNil))))
noncomputable def zbE:Nat→WSp
 |0=>zaR
 |r+1=>zcv 5 3 (zas (wAsg (zct (zdi 1 [0,2] (wIv (wSl (zae 1) (woS (wC (.int 1))) woN)) (wGN 0) zhL (zeB r (zbE r)))) (wGN 3))
  (zas (wAsg (zap (zaW r) (zab (zae 0) (zab (wOp oIx (zae 1) (wC (.int 0))) waNil))) (wGN 4))
  (zas (zbK (wTb (wOp (oIs false) (zae 4) (wC .non))) (zaU (wOp zdF (zbD (zab (wOp oIx (zae 1) (wC (.int 0))) waNil)) (wB zdo (zab (zae 3) waNil)))) zaD)
  (zaU (zap (zcU r) (zab (wOp oIx (zae 4) (zae 2)) (zab (zae 3) waNil)))))))
noncomputable def zdt:Nat→WSp
 |0=>zaR
 |r+1=>zcv 2 2 (zaU (zap (zbf r) (zab (zap (zbE r) (zab (zae 0) (zab (zae 1) (zab (wC (.int 1)) waNil)))) waNil)))
noncomputable def zfK:Nat→WSp
 |0=>zaR
 |r+1=>zcv 2 2 (zaU (zap (zbf r) (zab (zap (zbE r) (zab (zae 0) (zab (zae 1) (zab (wC (.int 2)) waNil)))) waNil)))
noncomputable def zeg (r:Nat) (self:WSp):WE:=(zbD (zab (zae 0) waNil))
noncomputable def zbG:Nat→WSp
 |0=>zaR
 |r+1=>zcv 3 2 (zas (wAsg (zap (zaW r) (zab (zae 0) (zab (wOp oIx (zae 1) (wC (.int 0))) waNil))) (wGN 2))
  (zas (zbK (wTb (wOp (oIs false) (zae 2) (wC .non))) (zaU (zct (zdi 1 [] (zsU (zab (wOp (zeW λi j=> .int (i - j)) (wB zem (zab (zae 1) waNil)) (wC (.int 1))) waNil)) (wGN 0) zhL (zeg r zaR)))) zaD)
  (zaU (zap (zbR r) (zab (wOp oIx (zae 2) (wC (.int 1))) waNil)))))
noncomputable def zdT (r:Nat) (self:WSp):WS:=(zbK (wTb (wOp (oIs true) (zap (zbS r) (zab (wOp oIx (zae 2) (wC (.int 1))) (zab (zae 1) waNil))) (wC .non))) (zaU (zae 2)) zaD)
noncomputable def zby:Nat→WSp
 |0=>zaR
 |r+1=>zcv 3 2 (zas (zgq (wIv (zae 0)) (wGN 2) (zdT r zaR))
  (zaU (wC .non)))
noncomputable def zdg (r:Nat) (self:WSp):WS:=(zcV (zap self (zab (zae 0) (zab (zae 6) (zab (wOp zdF (zae 2) (zbD (zab (zae 5) waNil))) (zab (zae 3) waNil))))))
noncomputable def zbp:Nat→WSp
 |0=>zaR
 |r+1=>zcv 7 4 (zas (wAsg (zap (zby r) (zab (zae 0) (zab (zae 1) waNil))) (wGN 4))
  (zas (zbK (wTb (wOp (oIs true) (zae 4) (wC .non))) (zcV (wM rvL zbZ (zae 3) (zab (zbD (zab (zae 2) (zab (wOp oIx (zae 4) (wC (.int 0))) waNil))) waNil))) zaD)
  (zgq (zod (wSl (zae 1) (woS (wC (.int 1))) woN)) (wGT (zaq (wGN 5) (zaq (wGN 6) zbI))) (zdg r (zbp r)))))
noncomputable def zcx:Nat→WSp
 |0=>zaR
 |r+1=>zcv 3 2 (zas (wAsg (zct (zdm waNil)) (wGN 2))
  (zas (zcV (zap (zbp r) (zab (zae 0) (zab (zae 1) (zab (zbD waNil) (zab (zae 2) waNil))))))
  (zaU (zae 2))))
noncomputable def zfy (r:Nat) (self:WSp):WE:=(wOp oIx (zae 0) (wC (.int 0)))
noncomputable def zda:Nat→WSp
 |0=>zaR
 |r+1=>zcv 1 1 (zaU (zct (zdi 1 [] (wIv (zae 0)) (wGN 0) zhL (zfy r zaR))))
noncomputable def zcM:Nat→WSp
 |0=>zaR
 |r+1=>zcv 3 2 (zas (wAsg (zap (zby r) (zab (zae 0) (zab (zae 1) waNil))) (wGN 2))
  (zaU (wOp zdF (zbD (zab (wOp oIx (zae 2) (wC (.int 0))) waNil)) (wB zdo (zab (zap (zbS r) (zab (wOp oIx (zae 2) (wC (.int 1))) (zab (zae 1) waNil))) waNil)))))
noncomputable def zcI (r:Nat) (self:WSp):WS:=(zcV (wM rvL zbZ (zae 5) (zab (zap self (zab (zae 0) (zab (zae 7) (zab (wOp zdF (zae 2) (zae 6)) (zab (zae 3) waNil))))) waNil)))
noncomputable def zaV:Nat→WSp
 |0=>zaR
 |r+1=>zcv 8 4 (zas (wAsg (wIf (wTb (wOp (zwi false) (zae 2) (zae 3))) (zap (zcM r) (zab (zae 0) (zab (zae 1) waNil))) (zae 1)) (wGN 4))
  (zas (wAsg (zct (zdm waNil)) (wGN 5))
  (zas (zgq (zsN (zap (zbG r) (zab (zae 0) (zab (zae 4) waNil))) (wSl (zae 4) (woS (wC (.int 1))) woN)) (wGT (zaq (wGN 6) (zaq (wGN 7) zbI))) (zcI r (zaV r)))
  (zaU (wOp zdF (zbD (zab (wOp oIx (zae 4) (wC (.int 0))) waNil)) (wB zdo (zab (zae 5) waNil)))))))
noncomputable def zgo (r:Nat) (self:WSp):WE:=(zbD (zab (zae 0) (zab (wC (.bl true)) waNil)))
noncomputable def zdA:Nat→WSp
 |0=>zaR
 |r+1=>zcv 3 3 (zaU (zap (zaV r) (zab (zae 0) (zab (zae 1) (zab (zbD waNil) (zab (wBL zjQ (zdi 1 [] (wIv (zae 2)) (wGN 0) zhL (zgo r zaR))) waNil))))))
noncomputable def zic (r:Nat) (self:WSp):WS:=(zbK (wTb (wOp (oIn true) (zae 4) (zae 3))) (zgU "NoUse" (zab (wC (.str "no use is open at one of the places")) waNil)) zaD)
noncomputable def zfk:Nat→WSp
 |0=>zaR
 |r+1=>zcv 5 3 (zas (wAsg (zap (zda r) (zab (zap (zcx r) (zab (zae 0) (zab (zae 1) waNil))) waNil)) (wGN 3))
  (zas (zgq (wIv (zae 2)) (wGN 4) (zic r zaR))
  (zaU (zap (zdA r) (zab (zae 0) (zab (zae 1) (zab (zae 2) waNil)))))))
noncomputable def zhf (r:Nat) (self:WSp):WE:=(zap self (zab (zae 2) (zab (zae 0) (zab (zae 1) waNil))))
noncomputable def zcS:Nat→WSp
 |0=>zaR
 |r+1=>zcv 8 3 (zas (wAsg (zap (zaW r) (zab (zae 0) (zab (wOp oIx (zae 1) (wC (.int 0))) waNil))) (wGN 3))
  (zas (wAsg (zap (zaW r) (zab (zae 0) (zab (wOp oIx (zae 2) (wC (.int 0))) waNil))) (wGN 4))
  (zas (wAsg (wSl (zae 1) (woS (wC (.int 1))) woN) (wGN 5))
  (zas (wAsg (wSl (zae 2) (woS (wC (.int 1))) woN) (wGN 6))
  (zas (zbK (zqU (wTb (wOp (oIs false) (zae 3) (wC .non))) (wTb (wOp (oIs true) (zae 4) (wC .non)))) (wAsg (zap (zbS r) (zab (wOp oIx (zae 4) (wC (.int 1))) (zab (zae 1) waNil))) (wGN 5)) zaD)
  (zas (zbK (zqU (wTb (wOp (oIs true) (zae 3) (wC .non))) (wTb (wOp (oIs false) (zae 4) (wC .non)))) (wAsg (zap (zbS r) (zab (wOp oIx (zae 3) (wC (.int 1))) (zab (zae 2) waNil))) (wGN 6)) zaD)
  (zas (wAsg (zct (zdi 2 [0] (zsN (zae 5) (zae 6)) (wGT (zaq (wGN 0) (zaq (wGN 1) zbI))) zhL (zhf r (zcS r)))) (wGN 7))
  (zas (zbK (wTb (wOp (oIs false) (zae 4) (wC .non))) (zaU (wOp zdF (zbD (zab (wOp oIx (zae 1) (wC (.int 0))) waNil)) (wB zdo (zab (zae 7) waNil)))) zaD)
  (zaU (zap (zcU r) (zab (wOp oIx (zae 4) (wC (.int 2))) (zab (zae 7) waNil))))))))))))
noncomputable def zdc (r:Nat) (self:WSp):WS:=(zcV (zap (zfK r) (zab (zae 0) (zab (zae 2) waNil))))
noncomputable def zbq:Nat→WSp
 |0=>zaR
 |r+1=>zcv 3 2 (zgq (wIv (zae 1)) (wGN 2) (zdc r zaR))
noncomputable def zch (r:Nat):WS:=(zaU (zae 3))
noncomputable def zbs (r:Nat):WS:=(zcV (wM rvL zbZ (zae 3) (zab (zae 5) waNil)))
noncomputable def zbx (r:Nat) (T:WS):WS:=(zas (zcV (zap (zbq r) (zab (zae 0) (zab (zct (zdm (zab (zae 5) waNil))) waNil)))) T)
noncomputable def zbw (r:Nat) (T:WS):WS:=(zas (wAsg (zap (zcS r) (zab (zae 0) (zab (wOp oIx (zae 3) (zoa (wC (.int 1)))) (zab (zae 4) waNil)))) (wGN 5)) T)
noncomputable def zco (r:Nat) (self:WSp):WS:=(zbw r (zbx r (zbs r)))
noncomputable def zcg (r:Nat) (T:WS):WS:=(zas (zgq (wIv (zae 2)) (wGN 4) (zco r zaR)) T)
noncomputable def zck (r:Nat) (T:WS):WS:=(zas (wAsg (zct (zdm (zab (zae 1) waNil))) (wGN 3)) T)
noncomputable def zcm:Nat→WSp
 |0=>zaR
 |r+1=>zcv 6 3 (zck r (zcg r (zch r)))
noncomputable def zgE (r:Nat):WS:=(zaU (zbD (zab (zae 3) (zab (zae 5) waNil))))
noncomputable def zlZ (r:Nat) (self:WSp):WE:=(zap (zcS r) (zab (zae 2) (zab (zae 0) (zab (zae 1) waNil))))
noncomputable def zec (r:Nat):WS:=(zcV (wM rvL zbZ (zae 5) (zab (zae 4) waNil)))
noncomputable def zeb (r:Nat) (T:WS):WS:=(zas (zcV (wM rvL zbZ (zae 3) (zab (zae 7) waNil))) T)
noncomputable def zee (r:Nat) (T:WS):WS:=(zas (wAsg (zct (zdi 2 [0] (zsN (zae 4) (zae 7)) (wGT (zaq (wGN 0) (zaq (wGN 1) zbI))) zhL (zlZ r zaR))) (wGN 4)) T)
noncomputable def zel (r:Nat) (T:WS):WS:=(zas (wAsg (zap (zcm r) (zab (zae 0) (zab (zae 6) (zab (zae 4) waNil)))) (wGN 7)) T)
noncomputable def zgD (r:Nat) (self:WSp):WS:=(zel r (zee r (zeb r (zec r))))
noncomputable def zgF (r:Nat) (T:WS):WS:=(zas (zgq (wIv (wOp oIx (zae 1) (wC (.int 1)))) (wGN 6) (zgD r zaR)) T)
noncomputable def zfI (r:Nat) (T:WS):WS:=(zas (wAsg (zct (zdm (zab (zae 4) waNil))) (wGN 5)) T)
noncomputable def zfH (r:Nat) (T:WS):WS:=(zas (wAsg (zct (zhe (wOp oIx (zae 2) (wC (.int 1))))) (wGN 4)) T)
noncomputable def zfB (r:Nat) (T:WS):WS:=(zas (wAsg (zct (zdm waNil)) (wGN 3)) T)
noncomputable def zfu (r:Nat) (T:WS):WS:=(zas (zcV (zap (zbq r) (zab (zae 0) (zab (wOp oIx (zae 2) (wC (.int 1))) waNil)))) T)
noncomputable def zfe (r:Nat) (T:WS):WS:=(zas (zcV (zap (zbq r) (zab (zae 0) (zab (wOp oIx (zae 1) (wC (.int 1))) waNil)))) T)
noncomputable def zfb (r:Nat) (T:WS):WS:=(zas (zcV (zap (zbf r) (zab (wOp oIx (zae 1) (wC (.int 0))) waNil))) T)
noncomputable def zfd (r:Nat) (T:WS):WS:=(zas (zbK (wTb (wOp (oEq true) (wOp oIx (zae 1) (wC (.int 0))) (wOp oIx (zae 2) (wC (.int 0))))) (zgU "Apart" (zab (wC (.str "the roads are not from one shape")) waNil)) zaD) T)
noncomputable def zkB:Nat→WSp
 |0=>zaR
 |r+1=>zcv 8 3 (zfd r (zfb r (zfe r (zfu r (zfB r (zfH r (zfI r (zgF r (zgE r)))))))))
noncomputable def zeF (r:Nat) (self:WSp):WE:=(wOp oIx (zae 0) (zoa (wC (.int 1))))
noncomputable def zcO:Nat→WSp
 |0=>zaR
 |r+1=>zcv 1 1 (zaU (zct (zdi 1 [] (wIv (wOp oIx (zae 0) (wC (.int 0)))) (wGN 0) zhL (zeF r zaR))))
noncomputable def zcb (r:Nat) (self:WSp):WS:=(zas (wAsg (zap (zdt r) (zab (zae 0) (zab (zae 5) waNil))) (wGN 7))
  (zas (wAsg (zap (zfK r) (zab (zae 0) (zab (zae 5) waNil))) (wGN 8))
  (zas (wAsg (wIf (zgt (zae 6)) (zae 7) (zae 8)) (wGN 9))
  (zas (zbK (wTb (wOp (oEq true) (zae 9) (wOp oIx (zae 4) (wC (.int 0))))) (zgU "Apart" (zab (wC (.str "a step does not stand where the winding stands")) waNil)) zaD)
  (zbK (zgt (zae 6)) (zas (wAsg (zap (zkB r) (zab (zae 0) (zab (zbD (zab (zae 7) (zab (zct (zdm (zab (zae 5) waNil))) waNil))) (zab (zae 4) waNil)))) (wGN 10))
  (zas (wAsg (zbD (zab (zae 1) (zab (wOp zdF (wOp oIx (zae 3) (wC (.int 1))) (zap (zcO r) (zab (zae 10) waNil))) waNil))) (wGN 3))
  (wAsg (zbD (zab (zae 8) (zab (wOp oIx (wOp oIx (zae 10) (wC (.int 1))) (zoa (wC (.int 1)))) waNil))) (wGN 4)))) (wAsg (zbD (zab (zae 7) (zab (zct (zpY (zdm (zab (zae 5) waNil)) (wOp oIx (zae 4) (wC (.int 1))))) waNil))) (wGN 4)))))))
noncomputable def zeq:Nat→WSp
 |0=>zaR
 |r+1=>zcv 11 3 (zas (wAsg (zbD (zab (zae 1) (zab (zct (zdm waNil)) waNil))) (wGN 3))
  (zas (wAsg (zbD (zab (zae 1) (zab (zct (zdm waNil)) waNil))) (wGN 4))
  (zas (zgq (wIv (zae 2)) (wGT (zaq (wGN 5) (zaq (wGN 6) zbI))) (zcb r zaR))
  (zaU (zbD (zab (zae 3) (zab (zae 4) waNil)))))))
noncomputable def zaG:Nat→WSp
 |0=>zaR
 |r+1=>zcv 2 2 (zas (zbK (wTb (wOp oLt (zae 1) (wB zem (zab (zae 0) waNil)))) (zaU (wOp oIx (zae 0) (zae 1))) zaD)
  (zaU (wC (.int 0))))
noncomputable def zeG (r:Nat) (self:WSp):WE:=(wOp oIx (zae 1) (wOp (zdk (λ_ j=>0<j) λi j=> .int (i % j)) (wOp zdF (wOp oIx (zae 2) (zae 0)) (wOp (zdk CMul λi j=> .int (i*j)) (zae 3) (wB zvP (zab (wOp (oEq false) (zae 0) (zae 4)) waNil)))) (wC (.int 26))))
noncomputable def zeC (r:Nat) (self:WSp):WS:=(zas (wAsg (wML rvS zjW (wC (.str "")) (zdi 1 [3,5,6,7] (zsU (zab (wB zem (zab (zae 5) waNil)) waNil)) (wGN 0) zhL (zeG r zaR))) (wGN 9))
  (zas (zbK (zgt (zae 2)) (wAsg (wOp zdF (wM rvS zlU (wOp oIx (zae 9) (wC (.int 0))) waNil) (wSl (zae 9) (woS (wC (.int 1))) woN)) (wGN 9)) zaD)
  (zcV (wM rvL zbZ (zae 8) (zab (zae 9) waNil)))))
noncomputable def zdw (r:Nat) (self:WSp):WS:=(zas (zcV (wM rvL zbZ (zae 5) (zab (wOp (zdk (λ_ j=>0<j) λi j=> .int (i % j)) (zae 4) (wC (.int 26))) waNil)))
  (wAsg (wOp (zdk ziu λi j=> .int (i / j)) (zae 4) (wC (.int 26))) (wGN 4)))
noncomputable def zbn:Nat→WSp
 |0=>zaR
 |r+1=>zcv 10 3 (zas (wAsg (wC (.str "abcdefghijklmnopqrstuvwxyz")) (wGN 3))
  (zas (wAsg (wOp (zdk (λ_ j=>0<j) λi j=> .int (i % j)) (zae 1) (wOp (zdk zzx λi j=> .int (i ^ j.toNat)) (wC (.int 26)) (wC (.int 8)))) (wGN 4))
  (zas (wAsg (zct (zdm waNil)) (wGN 5))
  (zas (zgq (zsU (zab (wOp zdF (wC (.int 1)) (wOp (zdk (λ_ j=>0<j) λi j=> .int (i % j)) (zae 0) (wC (.int 8)))) waNil)) (wGN 6) (zdw r zaR))
  (zas (wAsg (wOp (zdk (λ_ j=>0<j) λi j=> .int (i % j)) (wOp (zdk ziu λi j=> .int (i / j)) (zae 0) (wC (.int 8))) (wB zem (zab (zae 5) waNil))) (wGN 7))
  (zas (wAsg (zct (zdm waNil)) (wGN 8))
  (zas (zgq (zsU (zab (wC (.int 6)) waNil)) (wGN 6) (zeC r zaR))
  (zas (zbK (zqU (wTb (wOp (oEq false) (wOp (zdk (λ_ j=>0<j) λi j=> .int (i % j)) (wOp (zdk ziu λi j=> .int (i / j)) (zae 0) (wC (.int 64))) (wC (.int 2))) (wC (.int 1)))) (zqS (zgt (zae 2)))) (wAsg (zct (zoc (zvy (zae 8) woN (woS (wC (.int 3)))) (zdm (zab (wOp oIx (zae 8) (wC (.int 2))) (zab (wOp oIx (zae 8) (wC (.int 2))) (zab (wOp oIx (zae 8) (wC (.int 5))) waNil)))))) (wGN 8)) zaD)
  (zaU (zae 8))))))))))
noncomputable def zds (r:Nat) (self:WSp):WE:=(zap self (zab (zae 0) waNil))
noncomputable def zaB:Nat→WSp
 |0=>zaR
 |r+1=>zcv 1 1 (zas (zbK (zgt (zoh "int" (zae 0))) (zaU (wC (.int 1))) zaD)
  (zaU (wBL zqA (zdi 1 [] (wIv (wSl (zae 0) (woS (wC (.int 1))) woN)) (wGN 0) zhL (zds r (zaB r))))))
noncomputable def zdZ (r:Nat) (self:WSp):WE:=(zap self (zab (zae 0) (zab (zae 1) waNil)))
noncomputable def zbd:Nat→WSp
 |0=>zaR
 |r+1=>zcv 2 2 (zas (zbK (zgt (zoh "int" (zae 0))) (zaU (wOp oIx (zae 1) (zae 0))) zaD)
  (zaU (wOp zdF (wSl (zae 0) woN (woS (wC (.int 1)))) (wBL zhq (zdi 1 [1] (wIv (wSl (zae 0) (woS (wC (.int 1))) woN)) (wGN 0) zhL (zdZ r (zbd r)))))))
noncomputable def zcG:Nat→WSp
 |0=>zaR
 |r+1=>zcv 3 3 (zas (zbK (zqU (wTb (wOp oGt (zae 1) (wC (.int 0)))) (wTb (wOp oGt (wOp (zdk (λ_ j=>0<j) λi j=> .int (i % j)) (zae 0) (wC (.int 4))) (wC (.int 0))))) (zaU (wOp (zdk (λ_ j=>0<j) λi j=> .int (i % j)) (wOp (zdk ziu λi j=> .int (i / j)) (zae 0) (wC (.int 4))) (zae 1))) zaD)
  (zaU (zbD (zab (wOp oIx (zae 2) (zsF (zdm (zab (wC (.int 2)) (zab (wC (.int 5)) waNil))) (wOp (zdk (λ_ j=>0<j) λi j=> .int (i % j)) (wOp (zdk ziu λi j=> .int (i / j)) (zae 0) (wC (.int 4))) (wC (.int 2))))) waNil))))
noncomputable def zcL:Nat→WSp
 |0=>zaR
 |r+1=>zcv 6 3 (zas (wAsg (zap (zcG r) (zab (wOp (zdk ziu λi j=> .int (i / j)) (zae 0) (wC (.int 7))) (zab (zae 1) (zab (zae 2) waNil)))) (wGN 3))
  (zas (wAsg (zap (zcG r) (zab (wOp (zdk ziu λi j=> .int (i / j)) (zae 0) (wC (.int 700))) (zab (zae 1) (zab (zae 2) waNil)))) (wGN 4))
  (zas (wAsg (wOp (zdk (λ_ j=>0<j) λi j=> .int (i % j)) (zae 0) (wC (.int 7))) (wGN 5))
  (zas (zbK (wTb (wOp (oEq false) (zae 5) (wC (.int 0)))) (zaU (zae 3)) zaD)
  (zas (zbK (wOr (wTb (wOp (oEq false) (zae 5) (wC (.int 1)))) (wTb (wOp (oEq false) (zae 1) (wC (.int 0))))) (zaU (zbD (zab (wOp oIx (zae 2) (wC (.int 3))) (zab (zae 3) waNil)))) zaD)
  (zas (zbK (wTb (wOp (oEq false) (zae 5) (wC (.int 2)))) (zaU (zbD (zab (wOp oIx (zae 2) (wC (.int 4))) (zab (zae 3) (zab (zae 4) waNil))))) zaD)
  (zas (zbK (wTb (wOp (oEq false) (zae 5) (wC (.int 3)))) (zaU (zbD (zab (wOp oIx (zae 2) (wC (.int 4))) (zab (zae 3) (zab (zae 3) waNil))))) zaD)
  (zas (zbK (wTb (wOp (oEq false) (zae 5) (wC (.int 4)))) (zaU (zbD (zab (wOp oIx (zae 2) (wC (.int 4))) (zab (zbD (zab (wOp oIx (zae 2) (wC (.int 3))) (zab (zae 3) waNil))) (zab (zae 4) waNil))))) zaD)
  (zas (zbK (wTb (wOp (oEq false) (zae 5) (wC (.int 5)))) (zaU (zbD (zab (wOp oIx (zae 2) (wC (.int 0))) (zab (zae 3) waNil)))) zaD)
  (zaU (zbD (zab (wOp oIx (zae 2) (wC (.int 1))) (zab (zae 3) (zab (zae 4) waNil))))))))))))))
noncomputable def zcJ:Nat→WSp
 |0=>zaR
 |r+1=>zcv 4 4 (zas (zbK (wTb (wOp (oEq false) (zae 0) (wC (.int 0)))) (zaU (zct (zdm (zab (zbD (zab (zae 1) (zab (wC (.int 0)) waNil))) waNil)))) zaD)
  (zas (zbK (wTb (wOp (oEq false) (zae 0) (wC (.int 1)))) (zaU (zct (zdm (zab (zbD (zab (zae 1) (zab (wC (.int 0)) (zab (wC (.int 1)) waNil)))) waNil)))) zaD)
  (zas (zbK (wTb (wOp (oEq false) (zae 0) (wC (.int 2)))) (zaU (zct (zdm (zab (zbD (zab (zae 1) (zab (zbD (zab (zae 2) waNil)) waNil))) (zab (zbD (zab (zae 1) (zab (zbD (zab (zae 3) (zab (wC (.int 0)) waNil))) waNil))) waNil))))) zaD)
  (zas (zbK (wTb (wOp (oEq false) (zae 0) (wC (.int 3)))) (zaU (zct (zdm (zab (zbD (zab (zae 1) (zab (zbD (zab (zae 2) waNil)) (zab (wC (.int 0)) waNil)))) (zab (zbD (zab (zae 1) (zab (zbD (zab (zae 3) (zab (wC (.int 0)) waNil))) (zab (wC (.int 1)) waNil)))) waNil))))) zaD)
  (zas (zbK (wTb (wOp (oEq false) (zae 0) (wC (.int 4)))) (zaU (zct (zdm (zab (zbD (zab (zae 1) (zab (zbD (zab (zae 3) (zab (zbD (zab (zae 3) (zab (wC (.int 0)) waNil))) waNil))) (zab (wC (.int 1)) (zab (wC (.int 2)) waNil))))) (zab (zbD (zab (zae 1) (zab (zbD (zab (zae 3) (zab (zbD (zab (zae 2) waNil)) waNil))) (zab (wC (.int 0)) (zab (wC (.int 1)) waNil))))) waNil))))) zaD)
  (zaU (zct (zdm (zab (zbD (zab (zae 1) waNil)) waNil)))))))))
noncomputable def zdL (r:Nat) (self:WSp):WS:=(zas (wAsg (zap (zcL r) (zab (zap (zaG r) (zab (zae 0) (zab (wOp zdF (wOp zdF (wOp zdF (zae 1) (wC (.int 2))) (wOp (zdk CMul λi j=> .int (i*j)) (wC (.int 2)) (zae 5))) (zae 7)) waNil))) (zab (zap (zaB r) (zab (zae 8) waNil)) (zab (zae 2) waNil)))) (wGN 9))
  (zcV (wM rvL zbZ (zae 4) (zab (zbD (zab (wOp oIx (zae 3) (wB zem (zab (zae 4) waNil))) (zab (zae 8) (zab (zae 9) waNil)))) waNil))))
noncomputable def zfz (r:Nat) (self:WSp):WS:=(zas (wAsg (zap (zcJ r) (zab (wOp (zdk (λ_ j=>0<j) λi j=> .int (i % j)) (zap (zaG r) (zab (zae 0) (zab (wOp zdF (zae 1) (zae 5)) waNil))) (wC (.int 6))) (zab (wOp oIx (zae 2) (zae 5)) (zab (wOp oIx (zae 2) (wC (.int 2))) (zab (wOp oIx (zae 2) (wC (.int 3))) waNil))))) (wGN 6))
  (zgq (zod (zae 6)) (wGT (zaq (wGN 7) (zaq (wGN 8) zbI))) (zdL r zaR)))
noncomputable def zcA:Nat→WSp
 |0=>zaR
 |r+1=>zcv 10 4 (zas (wAsg (zct (zdm waNil)) (wGN 4))
  (zas (zgq (zsU (zab (wC (.int 2)) waNil)) (wGN 5) (zfz r zaR))
  (zaU (zae 4))))
noncomputable def zfJ (r:Nat) (self:WSp):WS:=(wAsg (zct (zoc (zvy (zae 4) woN (woS (zoa (wC (.int 2))))) (zdm (zab (zbD (zab (zoa (wC (.int 1))) (zab (wC (.int 0)) (zab (wOp oIx (zae 2) (wC (.int 4))) (zab (wSl (zae 4) (woS (zoa (wC (.int 2)))) woN) waNil))))) waNil)))) (wGN 4))
noncomputable def zfs (r:Nat) (self:WSp):WS:=(zas (wAsg (wOp (zdk (λ_ j=>0<j) λi j=> .int (i % j)) (zae 6) (wC (.int 8))) (wGN 7))
  (zas (wAsg (zsF (zdm (zab (wC (.int 0)) (zab (wC (.int 0)) (zab (wC (.int 1)) (zab (wC (.int 2)) waNil))))) (wB zki (zab (zae 7) (zab (wC (.int 3)) waNil)))) (wGN 8))
  (zas (wAsg (zbD (zab (zoa (wC (.int 1))) (zab (wC (.int 0)) (zab (wOp oIx (zae 2) (zsF (zdm (zab (wC (.int 2)) (zab (wC (.int 5)) (zab (wC (.int 3)) (zab (wC (.int 4)) waNil))))) (wB zki (zab (zae 7) (zab (wC (.int 3)) waNil))))) waNil)))) (wGN 9))
  (zas (zbK (wTb (wOp oGt (zae 7) (wC (.int 3)))) (zas (wAsg (wOp (zdk (λ_ j=>0<j) λi j=> .int (i % j)) (wOp (zdk ziu λi j=> .int (i / j)) (zae 6) (wC (.int 8))) (wB zem (zab (zae 1) waNil))) (wGN 10))
  (zas (wAsg (zap (zaB r) (zab (wOp oIx (wOp oIx (zae 1) (zae 10)) (wC (.int 1))) waNil)) (wGN 8))
  (zas (wAsg (zbD (zab (zae 10) (zab (wOp (zdk (λ_ j=>0<j) λi j=> .int (i % j)) (wOp (zdk ziu λi j=> .int (i / j)) (zae 6) (wC (.int 64))) (wC (.int 8))) (zab (wC (.str "")) waNil)))) (wGN 9))
  (wAsg (wOp zdF (zae 5) (wC (.int 1))) (wGN 5))))) zaD)
  (zbK (zqU (wTb (wOp oGt (zae 3) (wC (.int 0)))) (wTb (wOp oLt (zae 5) (wC (.int 5))))) (zas (wAsg (wOp (zeW λi j=> .int (i - j)) (zae 3) (wC (.int 1))) (wGN 3))
  (zas (wAsg (zct (zpY (zsc (zdm (zab (zbD (zab (zoa (wC (.int 1))) (zab (wC (.int 0)) (zab (wOp oIx (zae 2) (wC (.int 2))) (zab (zct (zdm waNil)) waNil))))) waNil)) (wOp (zeW λi j=> .int (i - j)) (zae 8) (wB zem (zab (zae 4) waNil)))) (zae 4))) (wGN 4))
  (zas (wAsg (wOp (zeW λi j=> .int (i - j)) (wB zem (zab (zae 4) waNil)) (zae 8)) (wGN 11))
  (wAsg (zct (zoc (zvy (zae 4) woN (woS (zae 11))) (zdm (zab (wOp zdF (zae 9) (zbD (zab (wSl (zae 4) (woS (zae 11)) woN) waNil))) waNil)))) (wGN 4))))) zaD)))))
noncomputable def zcy:Nat→WSp
 |0=>zaR
 |r+1=>zcv 12 4 (zas (wAsg (zct (zdm waNil)) (wGN 4))
  (zas (wAsg (wC (.int 0)) (wGN 5))
  (zas (zgq (wIv (zae 0)) (wGN 6) (zfs r zaR))
  (zas (zpi (wTb (wOp oGt (wB zem (zab (zae 4) waNil)) (wC (.int 1)))) (zfJ r zaR))
  (zaU (zsF (zrj (zae 4) (zdm (zab (zbD (zab (zoa (wC (.int 1))) (zab (wC (.int 0)) (zab (wOp oIx (zae 2) (wC (.int 5))) (zab (zct (zdm waNil)) waNil))))) waNil))) (wC (.int 0))))))))
noncomputable def zgi (r:Nat) (self:WSp):WE:=(zap self (zab (zae 0) (zab (zae 1) (zab (zae 2) waNil))))
noncomputable def zcz:Nat→WSp
 |0=>zaR
 |r+1=>zcv 8 3 (zas (wAsg (zae 0) (wGT (zaq (wGN 3) (zaq (wGN 4) (zaq (wGN 5) (zaq (wGN 6) zbI))))))
  (zas (wAsg (zct (zdi 1 [1,2] (wIv (zae 6)) (wGN 0) zhL (zgi r (zcz r)))) (wGN 7))
  (zas (zbK (wTb (wOp oLt (zae 3) (wC (.int 0)))) (zaU (wOp zdF (zbD (zab (zae 5) waNil)) (wB zdo (zab (zae 7) waNil)))) zaD)
  (zas (zbK (wTb (wOp (oEq false) (wOp (zdk (λ_ j=>0<j) λi j=> .int (i % j)) (wOp (zdk ziu λi j=> .int (i / j)) (zae 4) (zae 2)) (wC (.int 2))) (wC (.int 1)))) (zaU (wOp zdF (zbD (zab (wOp oIx (wOp oIx (zae 1) (zae 3)) (wC (.int 0))) waNil)) (wB zdo (zab (zae 7) waNil)))) zaD)
  (zaU (zap (zbd r) (zab (wOp oIx (wOp oIx (zae 1) (zae 3)) (wC (.int 1))) (zab (zae 7) waNil))))))))
noncomputable def zfj (r:Nat) (self:WSp):WS:=(zbK (wTb (wOp (oEq false) (wOp oIx (zae 4) (wC (.int 0))) (wOp oIx (zae 1) (wC (.int 0))))) (zaU (zap (zbd r) (zab (wOp oIx (zae 4) (zae 2)) (zab (zae 3) waNil)))) zaD)
noncomputable def zfg (r:Nat) (self:WSp):WE:=(zap self (zab (zae 1) (zab (zae 0) (zab (zae 2) waNil))))
noncomputable def zaM:Nat→WSp
 |0=>zaR
 |r+1=>zcv 5 3 (zas (wAsg (zct (zdi 1 [0,2] (wIv (wSl (zae 1) (woS (wC (.int 1))) woN)) (wGN 0) zhL (zfg r (zaM r)))) (wGN 3))
  (zas (zgq (wIv (zae 0)) (wGN 4) (zfj r zaR))
  (zaU (wOp zdF (wSl (zae 1) woN (woS (wC (.int 1)))) (wB zdo (zab (zae 3) waNil))))))
noncomputable def zdx (r:Nat) (self:WSp):WS:=(zbK (wTb (wOp (oIs false) (zap self (zab (zae 3) (zab (zae 4) (zab (zae 2) waNil)))) (wC .non))) (zaU (wC .non)) zaD)
noncomputable def zbg:Nat→WSp
 |0=>zaR
 |r+1=>zcv 5 3 (zas (zbK (zgt (zoh "int" (zae 0))) (zas (zbK (wTb (wOp (oEq true) (znc (zae 2) (zae 0) (zae 1)) (zae 1))) (zaU (wC .non)) zaD)
  (zas (zuf (zae 2) (zae 0) (zae 1))
  (zaU (zae 2)))) zaD)
  (zas (zbK (wOr (wTb (wOp (oEq true) (wOp oIx (zae 0) (wC (.int 0))) (wOp oIx (zae 1) (wC (.int 0))))) (wTb (wOp (oEq true) (wB zem (zab (zae 0) waNil)) (wB zem (zab (zae 1) waNil))))) (zaU (wC .non)) zaD)
  (zas (zgq (zsN (wSl (zae 0) (woS (wC (.int 1))) woN) (wSl (zae 1) (woS (wC (.int 1))) woN)) (wGT (zaq (wGN 3) (zaq (wGN 4) zbI))) (zdx r (zbg r)))
  (zaU (zae 2)))))
noncomputable def zcw:Nat→WSp
 |0=>zaR
 |r+1=>zcv 4 3 (zas (zbK (wTb (wOp (oEq false) (zae 1) (zbD waNil))) (zaU (zae 2)) zaD)
  (zas (wAsg (wOp zdF (wOp oIx (zae 1) (wC (.int 0))) (wC (.int 1))) (wGN 3))
  (zaU (wOp zdF (wOp zdF (wSl (zae 0) woN (woS (zae 3))) (zbD (zab (zap (zcw r) (zab (wOp oIx (zae 0) (zae 3)) (zab (wSl (zae 1) (woS (wC (.int 1))) woN) (zab (zae 2) waNil)))) waNil))) (wSl (zae 0) (woS (wOp zdF (zae 3) (wC (.int 1)))) woN)))))
noncomputable def zdh (r:Nat) (self:WSp):WE:=(wOp zdF (zbD (zab (zae 1) waNil)) (zae 0))
noncomputable def zbX (r:Nat) (self:WSp):WS:=(wAsg (zct (zrj (zae 1) (zdi 1 [2] (wIv (zap self (zab (zae 3) waNil))) (wGN 0) zhL (zdh r zaR)))) (wGN 1))
noncomputable def zaF:Nat→WSp
 |0=>zaR
 |r+1=>zcv 4 1 (zas (wAsg (zct (zdm (zab (zbD waNil) waNil))) (wGN 1))
  (zas (zgq (zod (wSl (zae 0) (woS (wC (.int 1))) woN)) (wGT (zaq (wGN 2) (zaq (wGN 3) zbI))) (zbX r (zaF r)))
  (zaU (zae 1))))
noncomputable def zcZ (r:Nat) (self:WSp):WS:=(wAsg (wOp oIx (zae 0) (wOp zdF (zae 2) (wC (.int 1)))) (wGN 0))
noncomputable def zcr:Nat→WSp
 |0=>zaR
 |r+1=>zcv 3 2 (zas (zgq (wIv (zae 1)) (wGN 2) (zcZ r zaR))
  (zaU (zae 0)))
noncomputable def zfm (r:Nat) (self:WSp):WE:=(znc (zae 1) (zae 0) (zbD (zab (zae 2) waNil)))
noncomputable def zdj:Nat→WSp
 |0=>zaR
 |r+1=>zcv 11 4 (zas (wAsg (wOp oIx (zae 0) (wOp (zdk (λ_ j=>0<j) λi j=> .int (i % j)) (zae 2) (wB zem (zab (zae 0) waNil)))) (wGT (zaq (wGN 4) (zaq (wGN 5) (zaq (wGN 6) zbI)))))
  (zas (wAsg (zap (zaF r) (zab (zae 1) waNil)) (wGN 7))
  (zas (wAsg (wOp oIx (zae 7) (wOp (zdk (λ_ j=>0<j) λi j=> .int (i % j)) (wOp (zdk ziu λi j=> .int (i / j)) (zae 2) (wC (.int 4))) (wB zem (zab (zae 7) waNil)))) (wGN 8))
  (zas (wAsg (zap (zbg r) (zab (zae 6) (zab (zap (zcr r) (zab (zae 1) (zab (zae 8) waNil))) (zab ztP waNil)))) (wGN 9))
  (zas (zbK (wTb (wOp (oIs false) (zae 9) (wC .non))) (zaU (zae 1)) zaD)
  (zas (wAsg (zct (zdi 1 [9,3] (zsU (zab (zap (zaB r) (zab (zae 5) waNil)) waNil)) (wGN 0) zhL (zfm r zaR))) (wGN 10))
  (zaU (zap (zcw r) (zab (zae 1) (zab (zae 8) (zab (wOp zdF (zbD (zab (zae 4) waNil)) (wB zdo (zab (zae 10) waNil))) waNil)))))))))))
noncomputable def zgQ (r:Nat) (self:WSp):WE:=(wOp oIx (zae 0) (wC (.int 0)))
noncomputable def zej:Nat→WSp
 |0=>zaR
 |r+1=>zcv 4 3 (zas (wAsg (zct (zdi 1 [] (wIv (zap (zcx r) (zab (zae 0) (zab (zae 1) waNil)))) (wGN 0) zhL (zgQ r zaR))) (wGN 3))
  (zas (zbK (wTb (wOp (oEq false) (zae 3) (zct (zdm waNil)))) (zaU (zae 1)) zaD)
  (zaU (zap (zfk r) (zab (zae 0) (zab (zae 1) (zab (zct (zdm (zab (wOp oIx (zae 3) (wOp (zdk (λ_ j=>0<j) λi j=> .int (i % j)) (zae 2) (wB zem (zab (zae 3) waNil)))) waNil))) waNil)))))))
noncomputable def zcP (r:Nat) (self:WSp):WS:=(zbK (wTb (wOp oLt (wB zem (zab (zae 5) waNil)) (zae 3))) (zas (wAsg (wOp (oEq false) (wOp (zdk (λ_ j=>0<j) λi j=> .int (i % j)) (zae 7) (wC (.int 2))) (wC (.int 0))) (wGN 8))
  (zas (zbK (zgt (zae 8)) (zas (wAsg (zap (zej r) (zab (zae 0) (zab (zae 6) (zab (wOp (zdk ziu λi j=> .int (i / j)) (zae 7) (wC (.int 2))) waNil)))) (wGN 9))
  (wAsg (zap (zaM r) (zab (zae 0) (zab (zae 9) (zab (wC (.int 2)) waNil)))) (wGN 6))) (zas (wAsg (zap (zdj r) (zab (zae 0) (zab (zae 6) (zab (wOp (zdk ziu λi j=> .int (i / j)) (zae 7) (wC (.int 2))) (zab (zae 4) waNil))))) (wGN 9))
  (wAsg (zap (zaM r) (zab (zae 0) (zab (zae 9) (zab (wC (.int 1)) waNil)))) (wGN 6))))
  (zcV (wM rvL zbZ (zae 5) (zab (zbD (zab (zae 9) (zab (zae 8) waNil))) waNil))))) zaD)
noncomputable def zbP:Nat→WSp
 |0=>zaR
 |r+1=>zcv 10 5 (zas (wAsg (zct (zdm waNil)) (wGN 5))
  (zas (wAsg (zae 1) (wGN 6))
  (zas (zgq (wIv (zae 2)) (wGN 7) (zcP r zaR))
  (zaU (zbD (zab (zae 5) (zab (zae 6) waNil)))))))
noncomputable def zcs (r:Nat):WS:=(zaU (zae 2))
noncomputable def zbu (r:Nat):WS:=(wAsg (zap (zaM r) (zab (zae 0) (zab (zae 3) (zab (wC (.int 2)) waNil)))) (wGN 2))
noncomputable def zbV (r:Nat) (T:WS):WS:=(zas (zbK (wTb (wOp (oEq true) (zap (zaM r) (zab (zae 0) (zab (zae 3) (zab (wC (.int 1)) waNil)))) (zae 2))) (zaU (wC .non)) zaD) T)
noncomputable def zcl (r:Nat) (self:WSp):WS:=(zbV r (zbu r))
noncomputable def zcq (r:Nat) (T:WS):WS:=(zas (zgq (wIv (wOp oIx (zae 1) (wC (.int 1)))) (wGN 3) (zcl r zaR)) T)
noncomputable def zcn (r:Nat) (T:WS):WS:=(zas (wAsg (wOp oIx (zae 1) (wC (.int 0))) (wGN 2)) T)
noncomputable def zcp (r:Nat) (T:WS):WS:=(zas (zbK (wOr (zqS (zgt (zoh "tuple" (zae 1)))) (wOr (wTb (wOp (oEq true) (wB zem (zab (zae 1) waNil)) (wC (.int 2)))) (zqS (zgt (zoh "list" (wOp oIx (zae 1) (wC (.int 1)))))))) (zaU (wC .non)) zaD) T)
noncomputable def zbH:Nat→WSp
 |0=>zaR
 |r+1=>zcv 4 2 (zcp r (zcn r (zcq r (zcs r))))
noncomputable def zei (r:Nat) (self:WSp):WE:=(zae 0)
noncomputable def zbJ:Nat→WSp
 |0=>zaR
 |r+1=>zcv 7 5 (zas (zbK (wOr (zqS (zgt (zoh "tuple" (zae 4)))) (wTb (wOp (oEq true) (wB zem (zab (zae 4) waNil)) (wC (.int 2))))) (zaU (wC (.bl false))) zaD)
  (zas (wAsg (zap (zbH r) (zab (zae 0) (zab (wOp oIx (zae 4) (wC (.int 0))) waNil))) (wGN 5))
  (zas (zbK (wOr (wTb (wOp (oIs false) (zae 5) (wC .non))) (wTb (wOp (oEq true) (zae 5) (zap (zbH r) (zab (zae 0) (zab (wOp oIx (zae 4) (wC (.int 1))) waNil)))))) (zaU (wC (.bl false))) zaD)
  (zas (zbK (wOr (wTb (wOp (oEq true) (wOp oIx (wOp oIx (zae 4) (wC (.int 0))) (wC (.int 0))) (zae 1))) (wTb (wOp (oEq true) (wOp oIx (wOp oIx (zae 4) (wC (.int 1))) (wC (.int 0))) (zae 3)))) (zaU (wC (.bl false))) zaD)
  (zas (wAsg (wB zem (zab (zct (zdi 1 [] (wIv (zae 2)) (wGN 0) (zgt (wOp oIx (zae 0) (wC (.int 1)))) (zei r zaR))) waNil)) (wGN 6))
  (zaU (zrN (wOp (oEq false) (wB zem (zab (wOp oIx (wOp oIx (zae 4) (wC (.int 0))) (wC (.int 1))) waNil)) (zae 6)) (wOp (oEq false) (wB zem (zab (wOp oIx (wOp oIx (zae 4) (wC (.int 1))) (wC (.int 1))) waNil)) (wOp (zeW λi j=> .int (i - j)) (wB zem (zab (zae 2) waNil)) (zae 6))))))))))
noncomputable def zdW (r:Nat):WS:=(zaU (zap (zbJ r) (zab (zae 3) (zab (zae 4) (zab (zae 5) (zab (zae 6) (zab (zap (zeq r) (zab (zae 3) (zab (zae 4) (zab (zae 5) waNil)))) waNil)))))))
noncomputable def zdu (r:Nat) (T:WS):WS:=(zas (zbK (wTb (wOp (oEq true) (wOp oIx (wOp oIx (zae 8) (wC (.int 1))) (wC (.int 1))) (zae 9))) (zaU (wC (.bl false))) zaD) T)
noncomputable def zdp (r:Nat) (T:WS):WS:=(zas (zcV (wM rvL zbZ (wOp oIx (wOp oIx (zae 8) (wC (.int 0))) (wC (.int 1))) (zab (zae 4) waNil))) T)
noncomputable def zdM (r:Nat) (T:WS):WS:=(zas (wAsg (zct (zhe (wOp oIx (wOp oIx (zae 8) (wC (.int 1))) (wC (.int 1))))) (wGN 9)) T)
noncomputable def zdP (r:Nat) (T:WS):WS:=(zas (zbK (wOr (wTb (wOp (oEq true) (zae 7) (zae 5))) (zqS (zgt (zap (zbJ r) (zab (zae 3) (zab (zae 4) (zab (zae 5) (zab (zae 6) (zab (zae 8) waNil))))))))) (zaU (wC (.bl false))) zaD) T)
noncomputable def zdJ (r:Nat) (T:WS):WS:=(zas (wAsg (zap (zeq r) (zab (zae 3) (zab (zae 4) (zab (zae 7) waNil)))) (wGN 8)) T)
noncomputable def zdO (r:Nat) (T:WS):WS:=(zas (wAsg (zct (zhe (zae 5))) (wGN 7)) T)
noncomputable def zdN (r:Nat) (T:WS):WS:=(zas (wAsg (zap (zbP r) (zab (zae 3) (zab (zae 4) (zab (wSl (zae 0) (woS (wC (.int 10))) (woS (wC (.int 13)))) (zab (wC (.int 3)) (zab (wOp oIx (zae 1) (wC (.int 2))) waNil)))))) (wGT (zaq (wGN 5) (zaq (wGN 6) zbI)))) T)
noncomputable def zdI (r:Nat) (T:WS):WS:=(zas (wAsg (zap (zcz r) (zab (zap (zcy r) (zab (wSl (zae 0) (woS (wC (.int 13))) woN) (zab (zae 3) (zab (zae 1) (zab (wC (.int 4)) waNil))))) (zab (zae 3) (zab (wC (.int 8)) waNil)))) (wGN 4)) T)
noncomputable def zeL (r:Nat) (T:WS):WS:=(zas (wAsg (zap (zcA r) (zab (zae 0) (zab (wC (.int 4)) (zab (zae 1) (zab (zae 2) waNil))))) (wGN 3)) T)
noncomputable def zeJ (r:Nat) (T:WS):WS:=(zas (wAsg (zap (zbn r) (zab (zap (zaG r) (zab (zae 0) (zab (wC (.int 2)) waNil))) (zab (zap (zaG r) (zab (zae 0) (zab (wC (.int 3)) waNil))) (zab (wC (.bl true)) waNil)))) (wGN 2)) T)
noncomputable def zeU (r:Nat) (T:WS):WS:=(zas (wAsg (zap (zbn r) (zab (zap (zaG r) (zab (zae 0) (zab (wC (.int 0)) waNil))) (zab (zap (zaG r) (zab (zae 0) (zab (wC (.int 1)) waNil))) (zab (wC (.bl false)) waNil)))) (wGN 1)) T)
noncomputable def zdD:Nat→WSp
 |0=>zaR
 |r+1=>zcv 10 1 (zeU r (zeJ r (zeL r (zdI r (zdN r (zdO r (zdJ r (zdP r (zdM r (zdp r (zdu r (zdW r))))))))))))
theorem zgy{r:Nat}{t:Tr}{S:Sto}{Q:WK}{E:Str→Sto→Prop}(h:Q (.tup (encs t.kids)) S):zcE (r+1) [enc t] S Q E:=by
 rw[zcE];cases t with
 |bl n=>
  simp only[enc];walk_at "wp";exact⟨aY _,S, .refl,h⟩
 |nd s ts=>
  simp only[enc];walk_at "wp";exact⟨S, .refl,h⟩
mutual
noncomputable def Tr.pl (p:List Int):Tr→List (List Int)
 | .bl _=>[p]
 | .nd _ ts=>p::pls p 0 ts
noncomputable def pls (p:List Int) (i:Nat):List Tr→List (List Int)
 | []=>[]
 |t::ts=>t.pl (p++[(i:Int)])++pls p (i+1) ts
end
mutual
theorem ztd:∀(t:Tr) (p:List Int),(t.pl p).length=t.weight
 | .bl _,p=>by simp [Tr.pl,Tr.weight]
 | .nd _ ts,p=>by simp [Tr.pl,Tr.weight,zop ts p 0];omega
theorem zop:∀(ts:List Tr) (p:List Int) (i:Nat),(pls p i ts).length=wts ts
 | [],p,i=>by simp [pls,wts]
 |t::ts,p,i=>by simp [pls,wts,ztd t,zop ts p (i+1)]
end
theorem zlV{p:List Int}{i:Int}{S:Sto}{Q:WK}:zdF (zbm p) (.tup [.int i]) S Q=(p.length+1≤sizeLine∧Q (zbm (p++[i])) S):=by
 unfold zbm;rw[zgN];simp
mutual
theorem zjB:∀(t:Tr) {r:Nat}{p:List Int}{a:Addr}{xs:List W}{S:Sto}{Q:WK}{E:Str→Sto→Prop},t.depth≤r→S a=ae (.lst xs)→xs.length+t.weight≤1000000→p.length+t.depth≤1000000→
  Q .non (put S a (.lst (xs++(t.pl p).map zbm)))→zaO (r+1) [enc t,zbm p, .ref a] S Q E
 | .bl n,r,p,a,xs,S,Q,E,hr,ha,hx,hp,h=>by
  obtain⟨r,rfl⟩:∃r',r=r'+1:=⟨r - 1,by simp [Tr.depth]at hr;omega⟩
  rw[zaO];walk_at "wp";simp only[zaj ha,true_and];simp [Tr.weight]at hx;refine⟨zbO (by omega),?_⟩;refine zgy ?_;simp only[Tr.kids,encs,zgP,forL];simp only[Tr.pl,aA,cm]at h;exact⟨_, .refl,h⟩
 | .nd s ts,r,p,a,xs,S,Q,E,hr,ha,hx,hp,h=>by
  simp only[Tr.depth]at hr hp;simp only[Tr.weight]at hx;obtain⟨r,rfl⟩:∃r',r=r'+1:=⟨r - 1,by omega⟩
  rw[zaO];walk_at "wp";simp only[zaj ha,true_and];refine⟨zbO (by omega),?_⟩;refine zgy ?_;dsimp only[Tr.kids];refine zid ts (xs:=xs++[zbm p]) (by omega) zag (by simp;omega) (by omega) λx y=>?_;rw[zbb];refine⟨_, .refl,?_⟩;simpa [Tr.pl,cp]using h
theorem zid:∀(ts:List Tr) {r:Nat}{p:List Int}{i:Nat}{a:Addr}{xs:List W}{S:Sto}{E:WX}{D:WEnds}{t0 x y:Option W},dts ts≤r→S a=ae (.lst xs)→xs.length+wts ts≤1000000→p.length+1+dts ts≤1000000→
  (∀x y,D.nx [t0,ae (zbm p),ae (.ref a),x,y] (put S a (.lst (xs++(pls p i ts).map zbm))))→
  forL (wGT (zaq (wGN 3) (zaq (wGN 4) zbI))) (zcH (r+1) (zaO (r+1))) E D (λ_=>True) (zgP i (encs ts)) [t0,ae (zbm p),ae (.ref a),x,y] S
 | [],r,p,i,a,xs,S,E,D,t0,x,y,hr,ha,hx,hp,h=>by
  simp only[encs,zgP,forL];have:=h x y;simp only[pls,cm,bJ,zdU ha]at this;exact this
 |t::ts,r,p,i,a,xs,S,E,D,t0,x,y,hr,ha,hx,hp,h=>by
  simp only[dts]at hr hp;simp only[wts]at hx;simp only[encs,zgP,forL,zcH];walk_at "wp";rw[zlV];refine⟨zal (by omega),zal (by omega),zjB t (p:=p++[(i:Int)]) (by omega) ha (by omega) (by simp;omega) ?_⟩;refine⟨_, .refl,zid ts (by omega) zag (by simp [ztd];omega) (by omega) λx y=>?_⟩;rw[zbb];simpa [pls,cp]using h x y
end
theorem zpk{t:Tr}{r:Nat}{S:Sto}{Q:WK}{E:Str→Sto→Prop}(hr:t.depth+1≤r) (hw:t.weight≤100000) (hd:t.depth≤100000) (h:∀a,S a=none→Q (.ref a) (put S a (.lst ((t.pl []).map zbm)))):zfv (r+1) [enc t] S Q E:=by
 obtain⟨r,rfl⟩:∃r',r=r'+1:=⟨r - 1,by omega⟩
 rw[zfv];walk_at "wp";refine⟨aY _,λa ha=>⟨aY _,zjB t (p:=[]) (xs:=[]) (by omega) zag (by simp;omega) (by simp;omega) ?_⟩⟩;rw[zbb,a8];exact⟨_, .refl,h a ha⟩
noncomputable def Tr.at:Tr→List Int→Option Tr
 |t,[]=>ae t
 | .bl _,_::_=>none
 | .nd _ ts,i::p=>if i<0 then none else match ts[i.toNat]? with
  |some u=>u.at p
  |none=>none
theorem zlM{t u:Tr}{i:Int}{r:Nat}{S:Sto}{Q:WK}{E:Str→Sto→Prop}(hi:0≤i) (hu:t.kids[i.toNat]? =ae u) (h:Q (enc u) S):zbF (r+2) [enc t, .int i] S Q E:=by
 rw[zbF];walk_at "wp";refine zgy ?_;have hl:i.toNat<t.kids.length:=(ca.mp hu).1;walk_at "wp";rw[zaT];rw[if_neg (by omega),if_neg (by omega)];have e:atI (encs t.kids) i=ae (enc u):=by
  have q:=zbU (xs:=encs t.kids) (n:=i.toNat);rw[cI hi]at q;rw[q,zaw,bq,hu];rfl
 rw[e];exact⟨S, .refl,h⟩
theorem zlt{p:List Int}:∀{t u:Tr}{r:Nat}{S:Sto}{E:WX}{D:WEnds}{x y z:Option W},t.at p=ae u→(∀z,D.nx [x,y,ae (enc u),z] S)→
  forL (wGN 3) (ziP (r+2) zaR) E D (λ_=>True) (p.map W.int) [x,y,ae (enc t),z] S:=by
 induction p with
 |nil=>
  intro t u r S E D x y z e h;unfold Tr.at at e;cases e;exact h z
 |cons i p ih=>
  intro t u r S E D x y z e h;cases t with
  |bl n=>cases e
  |nd s ts=>
   unfold Tr.at at e;split at e
   ·cases e
   ·rename_i hi;split at e
    ·rename_i v ev;simp only[aA,forL,ziP];walk_at "wp";refine zlM (t:= .nd s ts) (u:=v) (by omega) ev ⟨S, .refl,?_⟩;exact ih e h
    ·cases e
theorem ztu{t u:Tr}{p:List Int}{r:Nat}{S:Sto}{Q:WK}{E:Str→Sto→Prop}(e:t.at p=ae u) (h:Q (enc u) S):zkh (r+3) [enc t,zbm p] S Q E:=by
 rw[zkh];walk_at "wp";unfold zbm;dsimp only;exact zlt e λz=>⟨S, .refl,h⟩
def Low (c:Nat):Prop:=97≤c∧c≤122
def zcN (x:Str):Prop:=1≤x.cps.toList.length∧x.cps.toList.length≤8∧ ∀c∈x.cps.toList,Low c
def zde (x:Str):Prop:=∃c r,x.cps.toList=c::r∧65≤c∧c≤90∧r.length≤7∧ ∀d∈r,Low d
theorem zuy:(bh "abcdefghijklmnopqrstuvwxyz").cps.toList=List.range' 97 26:=by decide +kernel
theorem zws:(bh "abcdefghijklmnopqrstuvwxyz").length=26:=by decide +kernel
theorem zjA:∀cs:List Nat,(cN (bh "") (cs.map λc=>(⟨#[c]⟩:Str))).cps.toList=cs
 | []=>rfl
 | [c]=>rfl
 |c::d::r=>by
  have ih:=zjA (d::r);show((⟨#[c]⟩:Str)++bh "" ++cN (bh "") ((d::r).map λc=>(⟨#[c]⟩:Str))).cps.toList=_;show(#[c]++(bh "").cps++(cN (bh "") ((d::r).map λc=>(⟨#[c]⟩:Str))).cps).toList=_;rw[ic,ic,ih];rfl
theorem zrH (cs:List Nat):((cs.map λc=>(⟨#[c]⟩:Str)).map (·.length)).sum=cs.length:=by
 induction cs with
 |nil=>rfl
 |cons c r ih=>
  rw[aA,aA,iW,ih,aR];show 1+r.length=r.length+1;omega
theorem zhv:∀cs:List Nat,zgl (cs.map λc=>W.str ⟨#[c]⟩)=ae (cs.map λc=>(⟨#[c]⟩:Str))
 | []=>rfl
 |c::cs=>by rw[aA,zgl,zhv cs];rfl
theorem zov (cs:List Nat) (h:cs.length≤1000):(List.map (λx=>x.length) (cs.map λc=>(⟨#[c]⟩:Str))).sum+(cs.map λc=>(⟨#[c]⟩:Str)).length*(bh "").length≤16777216:=by
 have e:=zrH cs;have z:(bh "").length=0:=by decide +kernel
 rw[e,z];omega
theorem znd{lo:Int}{n:Nat}:(zkZ lo n).length=n:=by simp [zkZ]
theorem znp{α:Type}{xs:List α}(n:Int) (h:xs≠ []):∃(i:Nat) (x:α),xs[i]? =ae x∧atI xs (n % (xs.length:Int))=ae x:=by
 have hp:0<xs.length:=eG.mpr h;have h0:0≤n % (xs.length:Int):=cO _ (by omega);have h1:n % (xs.length:Int)<(xs.length:Int):=cV _ (by omega);have hlt:(n % (xs.length:Int)).toNat<xs.length:=by omega
 refine⟨(n % (xs.length:Int)).toNat,xs[(n % (xs.length:Int)).toNat],a9 hlt,?_⟩;have e:=zuH (xs:=xs) (j:=(n % (xs.length:Int)).toNat) (v:=xs[(n % (xs.length:Int)).toNat]) (a9 hlt);rw[cI h0]at e;exact e
theorem zeV (ts us:List Tr):encs (ts++us)=encs ts++encs us:=by rw[zaw,zaw,zaw,bE]
theorem zpy (ts:List Tr) (n:Nat):(encs ts).take n=encs (ts.take n):=by rw[zaw,zaw,kA]
theorem zqh (ts:List Tr) (n:Nat):(encs ts).drop n=encs (ts.drop n):=by rw[zaw,zaw,kz]
mutual
noncomputable def Tr.plt (p:List Int):Tr→List (List Int×Tr)
 | .bl n=>[(p, .bl n)]
 | .nd s ts=>(p, .nd s ts)::zgT p 0 ts
noncomputable def zgT (p:List Int) (i:Nat):List Tr→List (List Int×Tr)
 | []=>[]
 |t::ts=>t.plt (p++[(i:Int)])++zgT p (i+1) ts
end
mutual
theorem zeP:∀(t:Tr) (p:List Int),(t.plt p).map (·.1)=t.pl p
 | .bl _,p=>by simp [Tr.plt,Tr.pl]
 | .nd _ ts,p=>by simp [Tr.plt,Tr.pl,znj ts p 0]
theorem znj:∀(ts:List Tr) (p:List Int) (i:Nat),(zgT p i ts).map (·.1)=pls p i ts
 | [],p,i=>by simp [zgT,pls]
 |t::ts,p,i=>by simp [zgT,pls,zeP t,znj ts p (i+1)]
end
mutual
theorem zgc:∀(t:Tr) (p:List Int),(t.plt p).length=t.weight
 | .bl _,p=>by simp [Tr.plt,Tr.weight]
 | .nd _ ts,p=>by simp [Tr.plt,Tr.weight,znn ts p 0];omega
theorem znn:∀(ts:List Tr) (p:List Int) (i:Nat),(zgT p i ts).length=wts ts
 | [],p,i=>by simp [zgT,wts]
 |t::ts,p,i=>by simp [zgT,wts,zgc t,znn ts p (i+1)]
end
theorem zqO{s:Str}{ts:List Tr}{i:Nat}{q:List Int}{u:Tr}(h:ts[i]? =ae u):(Tr.nd s ts).at ((i:Int)::q)=u.at q:=by
 rw[Tr.at,if_neg (by omega)];simp [h]
mutual
theorem zkN:∀(t:Tr) (p q:List Int) (u:Tr),(q,u)∈t.plt p→ ∃r,q=p++r∧t.at r=ae u∧r.length<t.depth
 | .bl n,p,q,u,h=>by
  simp only[Tr.plt,bf,ja]at h;obtain⟨rfl,rfl⟩:=h;exact⟨[],by simp,by simp [Tr.at],by simp [Tr.depth]⟩
 | .nd s ts,p,q,u,h=>by
  simp only[Tr.plt,az,ja]at h;rcases h with⟨rfl,rfl⟩ |h
  ·exact⟨[],by simp,by simp [Tr.at],by simp [Tr.depth];omega⟩
  ·obtain⟨j,v,r,h1,h2,h3,h4⟩:=zqL ts p 0 q u h;refine⟨(j:Int)::r,by rw[h2];simp,by rw[zqO h1];exact h3,by simp [Tr.depth];omega⟩
theorem zqL:∀(ts:List Tr) (p:List Int) (i:Nat) (q:List Int) (u:Tr),(q,u)∈zgT p i ts→ ∃(j:Nat) (v:Tr) (r:List Int),ts[j]? =ae v∧q=p++[((i+j:Nat):Int)]++r∧v.at r=ae u∧r.length<dts ts
 | [],p,i,q,u,h=>by simp [zgT]at h
 |t::ts,p,i,q,u,h=>by
  simp only[zgT,bu]at h;rcases h with h |h
  ·obtain⟨r,h1,h2,h3⟩:=zkN t _ q u h;exact⟨0,t,r,rfl,by simpa using h1,h2,by simp [dts];omega⟩
  ·obtain⟨j,v,r,h1,h2,h3,h4⟩:=zqL ts p (i+1) q u h;refine⟨j+1,v,r,by simpa using h1,?_,h3,by simp [dts];omega⟩
   rw[h2,show i+1+j=i+(j+1) by omega]
end
theorem keep{S:Sto}{a p:Addr}{o x:Ob}(f:S a=ae o) (h:S p=none):put S p x a=ae o:=by rw[zaA (zuM f h)];exact f
noncomputable def sw:List (List Int×Tr)→Nat
 | []=>0
 |x::xs=>x.2.weight+sw xs
theorem zbA{u:Tr}:∀{ts:List Tr},u∈ts→u.depth≤dts ts
 |t::ts,h=>by
  rcases az.mp h with rfl |h
  ·simp [dts];omega
  ·have:=zbA h;simp [dts];omega
theorem zaQ{α:Type}{g:WG}{e:WE}{E:WX}{G:Sto→Prop}{Q:List W→Sto→Prop}{S:Sto}(I:WSt→Prop) (k f:α→W) (hG:G S):∀(xs:List α) (acc:List W) (σ:WSt),I σ→acc.length+xs.length≤1000000→
  (∀x∈xs,∀σ (R:WSt→W→Sto→Prop),I σ→(∀σ1 S3,I σ1→Sub S S3→R σ1 (f x) S3)→g (k x) σ S λσ1 S1=>e E σ1 S1 λy S3=>R σ1 y S3)→
  Q (acc++xs.map f) S→zfT g zhL e E G Q (xs.map k) acc σ S
 | [],acc,σ,hI,hl,step,hQ=>by simpa [zfT]using hQ
 |x::xs,acc,σ,hI,hl,step,hQ=>by
  simp only[aA,zfT,zhL,if_true];simp only[aR]at hl;refine step x a0 σ _ hI λσ1 S3 hI1 sb=>⟨zbO (by omega),S,sb,hG,zaQ I k f hG xs (acc++[f x]) σ1 hI1 (by simp;omega) (λy hy=>step y (aK _ hy)) ?_⟩;simpa using hQ
theorem zff{α:Type}{g:WG}{c:WT}{e:WE}{E:WX}{G:Sto→Prop}{Q:List W→Sto→Prop}{S:Sto}(I:WSt→Prop) (k f:α→W) (P:α→Bool) (hG:G S):∀(xs:List α) (acc:List W) (σ:WSt),I σ→acc.length+xs.length≤1000000→
  (∀x∈xs,∀σ (R1:WSt→W→Sto→Prop) (R0:WSt→Sto→Prop),I σ→(P x=true→ ∀σ1 S3,I σ1→Sub S S3→R1 σ1 (f x) S3)→(P x=false→ ∀σ1 S3,I σ1→Sub S S3→R0 σ1 S3)→
   g (k x) σ S λσ1 S1=>c E σ1 S1 λb S2=>if b=true then e E σ1 S2 λy S3=>R1 σ1 y S3 else R0 σ1 S2)→
  Q (acc++(xs.filter P).map f) S→zfT g c e E G Q (xs.map k) acc σ S
 | [],acc,σ,hI,hl,step,hQ=>by simpa [zfT]using hQ
 |x::xs,acc,σ,hI,hl,step,hQ=>by
  simp only[aA,zfT];simp only[aR]at hl;refine step x a0 σ _ _ hI (λhp σ1 S3 hI1 sb=>⟨zbO (by omega),S,sb,hG,zff I k f P hG xs (acc++[f x]) σ1 hI1 (by simp;omega) (λy hy=>step y (aK _ hy)) ?_⟩)
   λhp σ1 S3 hI1 sb=>⟨S,sb,hG,zff I k f P hG xs acc σ1 hI1 (by omega) (λy hy=>step y (aK _ hy)) ?_⟩
  ·rw[List.filter_cons_of_pos hp]at hQ;simpa using hQ
  ·rw[i9 (by rw[hp];simp)]at hQ;exact hQ
noncomputable def Tr.isBl:Tr→Bool
 | .bl _=>true
 | .nd _ _=>false
noncomputable def Tr.num:Tr→Int
 | .bl n=>n
 | .nd _ _=>0
noncomputable def Tr.bls (t:Tr):List (List Int×Tr):=(t.plt []).filter λx=>x.2.isBl
theorem zol{t:Tr}{x:List Int×Tr}(h:x∈t.bls):t.at x.1=ae x.2∧x.2= .bl x.2.num∧x.1.length<t.depth:=by
 obtain⟨h1,h2⟩:=ig.mp h;obtain⟨r,h3,h4,h5⟩:=zkN t [] x.1 x.2 h1;simp at h3;subst h3;refine⟨h4,?_,h5⟩;obtain⟨p,u⟩:=x;cases u with
 |bl n=>rfl
 |nd s ts=>simp [Tr.isBl]at h2
theorem ztz (t:Tr):t.bls.length≤t.weight:=by
 unfold Tr.bls;exact aW (List.length_filter_le ..) (by rw[zgc];exact au _)
theorem znw{t:Tr}{r:Nat}{S:Sto}{Q:WK}{E:Str→Sto→Prop}(hr:t.depth+4≤r) (hw:t.weight≤90000) (h:∀a,S a=none→Q (.ref a) (put S a (.lst (t.bls.map λx=>zbm x.1)))):zbR (r+1) [enc t] S Q E:=by
 have hd:=zcY t;obtain⟨r,rfl⟩:∃r',r=r'+3:=⟨r - 3,by omega⟩
 rw[zbR];walk_at "wp";refine zpk (by omega) (by omega) (by omega) λa ha=>?_;walk_at "wp";rw[←zeP,bn];refine zff (λσ=>∃x,σ=[x,ae (enc t)]) (λx=>zbm x.1) (λx=>zbm x.1) (λx=>x.2.isBl) ?_ (t.plt []) [] _ ⟨none,rfl⟩ (by simp [zgc];omega) (λx hx σ R1 R0 hI h1 h0=>?_) ?_
 ·exact zag
 ·obtain⟨y,rfl⟩:=hI;obtain⟨q,h3,h4,h5⟩:=zkN t [] x.1 x.2 hx;simp at h3;subst h3;walk_at "wp";refine ztu h4 ?_;obtain⟨p,u⟩:=x;cases u with
  |bl n=>
   simp only[enc];walk_at "wp";exact h1 rfl _ _ ⟨_,rfl⟩ .refl
  |nd s ts=>
   simp only[enc];walk_at "wp";exact h0 rfl _ _ ⟨_,rfl⟩ .refl
 ·rw[a8];intro b hb;obtain⟨hb1,hb2⟩:=zdS hb;exact⟨_, .put2 (.put .refl ha),h b hb1⟩
mutual
noncomputable def Tr.fill (us:List Tr):Tr→Tr
 | .bl n=>us.getD n.toNat (.bl n)
 | .nd s ts=> .nd s (fills us ts)
noncomputable def fills (us:List Tr):List Tr→List Tr
 | []=>[]
 |t::ts=>t.fill us::fills us ts
end
mutual
noncomputable def Tr.fits (m:Nat):Tr→Prop
 | .bl n=>0≤n∧n<m
 | .nd _ ts=>fitss m ts
noncomputable def fitss (m:Nat):List Tr→Prop
 | []=>True
 |t::ts=>t.fits m∧fitss m ts
end
theorem zhl (us:List Tr):∀ts:List Tr,fills us ts=ts.map (Tr.fill us)
 | []=>by simp [fills]
 |t::ts=>by simp [fills,zhl us ts]
theorem zft{m:Nat}{t:Tr}:∀{ts:List Tr},fitss m ts→t∈ts→t.fits m
 |u::ts,h,hm=>by
  simp only[fitss]at h;rcases az.mp hm with rfl |hm
  ·exact h.1
  ·exact zft h.2 hm
theorem zhC{us:List Tr}{a:Addr}:∀(d:Nat) {t:Tr}{r:Nat}{S:Sto}{Q:WK}{E:Str→Sto→Prop},t.depth≤d→d≤r+1→S a=ae (.lst (encs us))→t.fits us.length→t.weight≤90000→Q (enc (t.fill us)) S→zcU (r+1) [enc t, .ref a] S Q E
 |0,t,r,S,Q,E,hd,hr,ha,hf,hw,h=>by have:=zaS t;omega
 |d+1, .bl n,r,S,Q,E,hd,hr,ha,hf,hw,h=>by
  simp only[Tr.fits]at hf;simp only[Tr.fill]at h;rw[zcU];simp only[enc];walk_at "wp";have e:atI (encs us) n=ae (enc (us.getD n.toNat (.bl n))):=by
   have q:=zbU (xs:=encs us) (n:=n.toNat);rw[cI hf.1]at q;rw[q,zaw,bq,bo,a9 (by omega)];rfl
  rw[zaj ha,e];exact⟨S, .refl,h⟩
 |d+1, .nd s ts,r,S,Q,E,hd,hr,ha,hf,hw,h=>by
  simp only[Tr.fits]at hf;simp only[Tr.fill]at h;simp only[Tr.depth]at hd;simp only[Tr.weight]at hw;have hk:=zcR ts;rw[zcU];simp only[enc]at h⊢;walk_at "wp";refine⟨zal (by decide),?_⟩;rw[zaw];refine zaQ (λσ=>∃x,σ=[x,ae (.ref a)]) enc (λt=>enc (t.fill us)) trivial ts [] _ ⟨none,rfl⟩ (by simp;omega) (λx hx σ R hI hR=>?_) ?_
  ·obtain⟨y,rfl⟩:=hI;have hdx:=zbA hx;have hwx:=zdf hx;have:=zaS x;obtain⟨r,rfl⟩:∃r',r=r'+1:=⟨r - 1,by omega⟩
   simp only[zik];walk_at "wp";exact zhC d (t:=x) (r:=r) (by omega) (by omega) ha (zft hf hx) (by omega) (hR _ _ ⟨_,rfl⟩ .refl)
  ·rw[a8];refine⟨zal (by simp;omega),S, .refl,?_⟩;have e:encs (fills us ts)=ts.map λt=>enc (t.fill us):=by rw[zaw,zhl,bn];rfl
   rw[e]at h;exact h
noncomputable def Tr.put:Tr→List Int→Tr→Tr
 |_,[],u=>u
 | .bl n,_::_,_=> .bl n
 | .nd s ts,i::p,u=>match ts[i.toNat]? with
  |some v=> .nd s (ts.set i.toNat (v.put p u))
  |none=> .nd s ts
theorem zhx (t:Tr):t.at []=ae t:=by cases t<;>rfl
theorem zdY (t u:Tr):t.put [] u=u:=by cases t<;>rfl
theorem zgv{s:Str}{ts:List Tr}{i:Int}{p:List Int}{u:Tr}(h:(Tr.nd s ts).at (i::p)=ae u):∃v,0≤i∧ts[i.toNat]? =ae v∧v.at p=ae u:=by
 unfold Tr.at at h;split at h
 ·cases h
 ·split at h
  ·exact⟨_,by omega, ‹_›,h⟩
  ·cases h
theorem ztj:∀(q:List Int) {D t:Tr}(r:List Int),D.at q=ae t→D.at (q++r)=t.at r
 | [],D,t,r,h=>by rw[zhx]at h;cases h;rfl
 |i::q, .bl n,t,r,h=>by cases h
 |i::q, .nd s ts,t,r,h=>by
  obtain⟨v,h0,h1,h2⟩:=zgv h;rw[dR];have e:(i:Int)=((i.toNat:Nat):Int):=(cI h0).symm;rw[e,zqO h1];exact ztj q r h2
theorem zgh{s:Str}{ts:List Tr}{i:Int}{p:List Int}{u v:Tr}(h:ts[i.toNat]? =ae v):(Tr.nd s ts).put (i::p) u= .nd s (ts.set i.toNat (v.put p u)):=by
 rw[Tr.put,h]
theorem zmc{S:Sto}{p:List Int}:eqF S 60 (zbm p) (.tup [])=ae p.isEmpty:=by
 cases p<;>rfl
theorem zqk{u:Tr}:∀(p:List Int) {t v:Tr}{r:Nat}{S:Sto}{Q:WK}{E:Str→Sto→Prop},t.at p=ae v→p.length≤r→t.weight≤90000→p.length≤90000→Q (enc (t.put p u)) S→zcw (r+1) [enc t,zbm p,enc u] S Q E
 | [],t,v,r,S,Q,E,h,hr,hw,hp,q=>by
  rw[zdY]at q;rw[zcw];walk_at "wp";rw[zmc];exact⟨aY _,S, .refl,q⟩
 |i::p, .bl n,v,r,S,Q,E,h,hr,hw,hp,q=>by cases h
 |i::p, .nd s ts,v,r,S,Q,E,h,hr,hw,hp,q=>by
  obtain⟨w,h0,h1,h2⟩:=zgv h;obtain⟨j,rfl⟩:∃j:Nat,i=j:=⟨i.toNat,(cI h0).symm⟩;rw[bV]at h1;rw[zgh (by rw[bV];exact h1),bV]at q;simp only[aR]at hr hp;simp only[Tr.weight]at hw;have hk:=zcR ts;have hl:=(ca.mp h1).1;have hm:=zdf (aX h1);obtain⟨r,rfl⟩:∃r',r=r'+1:=⟨r - 1,by omega⟩
  rw[zcw];walk_at "wp";rw[zmc];simp only[List.isEmpty_cons,dC,if_false];have ep:zbm ((j:Int)::p)= .tup (.int j::p.map W.int):=rfl;simp only[ep,enc];walk_at "wp";rw[show((j:Int)+1)=((j+1:Nat):Int) by omega,zbU,eD,zaw,bq,h1]
  dsimp only[Option.map];rw[show((j+1:Nat):Int)+1=((j+2:Nat):Int) by omega,ziW,ziH]
  refine⟨aY _,zqk p (r:=r) h2 (by omega) (by omega) (by omega) ?_⟩;simp only[List.take_succ_cons,List.drop_succ_cons,←zaw,zpy,zqh];walk_at "wp";simp only[zaT,cJ,cA];refine⟨zal (by decide),zal (by omega),zal (by simp only[aS,zaT,cJ,aR,c5,cA];omega),S, .refl,?_⟩;have e:enc (.nd s (ts.set j (w.put p u)))= .tup (.str s::(encs (ts.take j)++[enc (w.put p u)]++encs (ts.drop (j+1)))):=by
   simp only[enc];rw[List.set_eq_take_append_cons_drop,if_pos hl,zeV];simp [encs]
  rw[e]at q;simpa using q
mutual
noncomputable def Tr.same:Tr→Tr→Bool
 | .bl n, .bl m=>n == m
 | .nd s ts, .nd z us=>s == z&&zeX ts us
 |_,_=>false
noncomputable def zeX:List Tr→List Tr→Bool
 | [],[]=>true
 |t::ts,u::us=>t.same u&&zeX ts us
 |_,_=>false
end
mutual
theorem ziQ:∀(t u:Tr),t.same u=true↔t=u
 | .bl n, .bl m=>by simp [Tr.same]
 | .nd s ts, .nd z us=>by simp [Tr.same,zhu ts us]
 | .bl n, .nd z us=>by simp [Tr.same]
 | .nd s ts, .bl m=>by simp [Tr.same]
theorem zhu:∀(ts us:List Tr),zeX ts us=true↔ts=us
 | [],[]=>by simp [zeX]
 |t::ts,u::us=>by simp [zeX,ziQ t u,zhu ts us]
 | [],u::us=>by simp [zeX]
 |t::ts,[]=>by simp [zeX]
end
theorem zjV (t:Tr):t.same t=true:=(ziQ t t).mpr rfl
theorem znz (t:List Tr):zeX t t=true:=(zhu t t).mpr rfl
theorem zsE{S:Sto}{n:Nat}{xs ys:List W}:eqF S (n+1) (.tup xs) (.tup ys)=zea (eqF S n) xs ys:=eT (b:=zea (eqF S n) xs ys) rfl rfl
theorem zxn{S:Sto}{n:Nat}{x y:Str}:eqF S (n+1) (.str x) (.str y)=ae (x == y):=eT (b:=ae (x == y)) rfl rfl
theorem zsA{S:Sto}{n:Nat}{x y:Int}:eqF S (n+1) (.int x) (.int y)=ae (x == y):=eT (b:=ae (x == y)) rfl rfl
theorem zwf{S:Sto}{n:Nat}{x:Int}{ys:List W}:eqF S (n+1) (.int x) (.tup ys)=ae false:=eT (b:=ae false) rfl rfl
theorem zvT{S:Sto}{n:Nat}{x:Int}{ys:List W}:eqF S (n+1) (.tup ys) (.int x)=ae false:=eT (b:=ae false) rfl rfl
mutual
theorem zso{S:Sto}:∀(n:Nat) (t u:Tr),t.depth<n→eqF S n (enc t) (enc u)=ae (t.same u)
 |0,t,u,h=>by omega
 |n+1, .bl k, .bl m,h=>by simp only[enc,zsA,Tr.same]
 |n+1, .nd s ts, .nd z us,h=>by
  simp only[Tr.depth]at h;obtain⟨n,rfl⟩:∃m,n=m+1:=⟨n - 1,by omega⟩
  simp only[enc,zsE,zea,zxn,Tr.same];rw[zor (n+1) ts us (by omega)]
 |n+1, .bl k, .nd z us,h=>by simp only[enc,zwf,Tr.same]
 |n+1, .nd s ts, .bl m,h=>by simp only[enc,zvT,Tr.same]
theorem zor{S:Sto}:∀(n:Nat) (ts us:List Tr),dts ts<n→zea (eqF S n) (encs ts) (encs us)=ae (zeX ts us)
 |n,[],[],h=>by simp only[encs,zea,zeX]
 |n,[],u::us,h=>by simp only[encs,zea,zeX]
 |n,t::ts,[],h=>by simp only[encs,zea,zeX]
 |n,t::ts,u::us,h=>by
  simp only[dts]at h;simp only[encs,zea,zeX,zso n t u (by omega),zor n ts us (by omega)]
end
theorem ztZ{S:Sto}{n:Nat}{a b:Addr}{ts us:List Tr}(ha:S a=ae (.lst (encs ts))) (hb:S b=ae (.lst (encs us))) (h:dts ts<n):eqF S (n+1) (.ref a) (.ref b)=ae (zeX ts us):=by
 show(match S a with
  |some (.lst xs)=>match S b with
   |some (.lst ys)=>zea (eqF S n) xs ys
   |_=>none
  |_=>none)=ae (zeX ts us)
 rw[ha,hb];exact zor n ts us h
theorem znW (n:Int):n % 2=0∨n % 2=1:=by omega
theorem zkx (j:Int) (m:Nat):zkZ j (m+1)= .int j::zkZ (j+1) m:=by
 unfold zkZ;rw[gU,aA,bn];congr 1
 ·simp
 ·apply cF;intro i _;simp only[hZ,W.int.injEq];omega
theorem zkE{α:Type}{xs:List α}{i:Int}(h0:0≤i) (h1:i<xs.length):∃x,atI xs i=ae x∧x∈xs:=by
 have q:=zbU (xs:=xs) (n:=i.toNat);rw[cI h0,a9 (by omega)]at q;exact⟨_,q,gb ..⟩
theorem zuB{ss:List Str}{i:Int}(h0:0≤i) (h1:i<ss.length):∃x,atI (ss.map W.str) i=ae (.str x)∧x∈ss:=by
 obtain⟨w,h,m⟩:=zkE (xs:=ss.map W.str) h0 (by simpa using h1);obtain⟨x,hx,rfl⟩:=aI.mp m;exact⟨x,h,hx⟩
theorem zpJ{g:WG}{b:WS}{E:WX}{D:WEnds}(I:Nat→WSt→Sto→Prop) (n:Nat)
  (step:∀i,i<n→ ∀σ S (N:WSt→Sto→Prop),I i σ S→(∀σ' S' S'',Sub S'' S'→I (i+1) σ' S''→N σ' S')→g (.int i) σ S λσ1 S1=>b E { D with nx:=N,ct:=N,bk:=D.nx } σ1 S1)
  (done:∀σ S,I n σ S→D.nx σ S) {σ:WSt}{S:Sto}(h:I 0 σ S):forL g b E D (λ_=>True) (zkZ 0 n) σ S:=by
 refine zlp (λws σ S=>∃i,i≤n∧ws=zkZ (i:Int) (n - i)∧I i σ S) ?_ ?_ _ _ _ ⟨0,aY _,rfl,h⟩
 ·rintro w ws σ S N ⟨i,hi,e,hI⟩ hN;obtain⟨m,hm⟩:∃m,n - i=m+1:=by
   rcases eQ (n - i) with z |z
   ·rw[z]at e;cases e
   ·exact⟨n - i - 1,by omega⟩
  rw[hm,zkx]at e;cases e;exact step i (by omega) σ S N hI λσ' S' S'' sb h'=>hN σ' S' S'' sb trivial ⟨i+1,by omega,by rw[show n - (i+1)=m by omega];push_cast;rfl,h'⟩
 ·rintro σ S ⟨i,hi,e,hI⟩;have:n - i=0:=by
   rcases eQ (n - i) with z |z
   ·exact z
   ·obtain⟨m,hm⟩:∃m,n - i=m+1:=⟨n - i - 1,by omega⟩
    rw[hm,zkx]at e;cases e
  rw[show i=n by omega]at hI
  exact done σ S hI
theorem zpK:∀{ts:List Tr}{i:Nat}{v u:Tr},ts[i]? =ae v→wts (ts.set i u)+v.weight=wts ts+u.weight
 | [],i,v,u,h=>by simp at h
 |t::ts,0,v,u,h=>by
  simp at h;subst h;rw[fF,zbi,zbi];omega
 |t::ts,i+1,v,u,h=>by
  have:=zpK (ts:=ts) (i:=i) (v:=v) (u:=u) (by simpa using h);rw[fK,zbi,zbi];omega
theorem zie:∀(p:List Int) {D u v:Tr},D.at p=ae v→(D.put p u).weight+v.weight=D.weight+u.weight
 | [],D,u,v,h=>by rw[zhx]at h;cases h;rw[zdY];omega
 |i::p, .bl n,u,v,h=>by cases h
 |i::p, .nd s ts,u,v,h=>by
  obtain⟨w,h0,e1,e2⟩:=zgv h;rw[zgh e1];have h1:=zie p (u:=u) e2;have h2:=zpK (u:=w.put p u) e1;simp only[Tr.weight];omega
mutual
theorem zhV{us:List Tr}{k:Nat}(hk:1≤k) (hu:∀u∈us,u.depth≤k):∀t:Tr,(t.fill us).depth≤t.depth+k
 | .bl n=>by
  simp only[Tr.fill,Tr.depth];rw[bo];cases e:us[n.toNat]? with
  |none=>simp [Tr.depth]
  |some u=>
   have:=hu u (aX e);simp only[dt];omega
 | .nd s ts=>by
  have:=zgS hk hu ts;simp only[Tr.fill,Tr.depth];omega
theorem zgS{us:List Tr}{k:Nat}(hk:1≤k) (hu:∀u∈us,u.depth≤k):∀ts:List Tr,dts (fills us ts)≤dts ts+k
 | []=>by simp [fills,dts]
 |t::ts=>by
  have:=zhV hk hu t;have:=zgS hk hu ts;simp only[fills,dts];omega
end
theorem zhT{k:Nat}:∀{ts:List Tr},(∀t∈ts,t.depth≤k)→dts ts≤k
 | [],_=>by simp [dts]
 |t::ts,h=>by
  have:=h t a0;have:=zhT (ts:=ts) λu hu=>h u (aK _ hu);simp only[dts];omega
theorem zbj{g:WG}{b:WS}{E:WX}{D:WEnds}{G:Sto→Prop}{w:W}{ws:List W}{σ:WSt}{S:Sto}(h:∀N:WSt→Sto→Prop,(∀σ S S',Sub S' S→G S'→forL g b E D G ws σ S'→N σ S)→g w σ S λσ1 S1=>b E { D with nx:=N,ct:=N,bk:=D.nx } σ1 S1):forL g b E D G (w::ws) σ S:=h _ λσ S S' a c d=>⟨S',a,c,d⟩
mutual
noncomputable def Tr.mt:Tr→Tr→Option (List Tr)
 | .bl _,t=>ae [t]
 | .nd s ls, .nd z us=>if s == z&&ls.length == us.length then mts ls us else none
 | .nd _ _, .bl _=>none
noncomputable def mts:List Tr→List Tr→Option (List Tr)
 | [],_=>ae []
 |_::_,[]=>ae []
 |l::ls,u::us=>match l.mt u with
  |none=>none
  |some xs=>match mts ls us with
   |none=>none
   |some ys=>ae (xs++ys)
end
theorem zwZ{s z:Str}{ls us:List Tr}{r:Nat}{S:Sto}{Q:WK}{E:Str→Sto→Prop}(h:Q (.bl (s == z&&ls.length == us.length)) S):zbQ (r+1) [enc (.nd s ls),enc (.nd z us)] S Q E:=by
 rw[zbQ];simp only[enc];walk_at "wp";cases e:s == z with
 |false=>
  rw[e]at h;exact⟨_, .refl,h⟩
 |true=>
  rw[e]at h;walk_at "wp";refine⟨_, .refl,?_⟩;have:(((encs ls).length+1:Nat):Int)=((encs us).length+1:Nat)↔ls.length=us.length:=by rw[zaT,zaT];omega
  have e2:((((encs ls).length+1:Nat):Int) == ((encs us).length+1:Nat))=(ls.length == us.length):=by
   rw[fD,beq_iff_eq,beq_iff_eq];exact this
  rw[e2];simpa using h
mutual
theorem ztk:∀(l t:Tr) (ys:List Tr),l.mt t=ae ys→ys.length≤l.weight
 | .bl _,t,ys,h=>by simp only[Tr.mt,bB]at h;subst h;simp [Tr.weight]
 | .nd s ls, .nd z us,ys,h=>by
  simp only[Tr.mt]at h;split at h
  ·have:=zpF ls us ys h;simp only[Tr.weight];omega
  ·cases h
 | .nd _ _, .bl _,ys,h=>by simp [Tr.mt]at h
theorem zpF:∀(ls us ys:List Tr),mts ls us=ae ys→ys.length≤wts ls
 | [],us,ys,h=>by simp only[mts,bB]at h;subst h;simp
 |l::ls,[],ys,h=>by simp only[mts,bB]at h;subst h;simp
 |l::ls,u::us,ys,h=>by
  simp only[mts]at h;split at h
  ·cases h
  ·rename_i xs e1;split at h
   ·cases h
   ·rename_i zs e2;cases h;have:=ztk l u xs e1;have:=zpF ls us zs e2;simp only[aS,wts];omega
end
theorem zhn{r:Nat}{a:Addr}{E:WX}{D:WEnds}{x0 x1:Option W}:∀(ls us:List Tr)
  (one:∀l∈ls,∀{t:Tr}{S:Sto}{xs:List W}{Q:WK}{E:Str→Sto→Prop},t.fits 0→S a=ae (.lst xs)→xs.length+l.weight≤100000→(∀ys,l.mt t=ae ys→Q (.bl true) (put S a (.lst (xs++encs ys))))→(l.mt t=none→ ∀ys,Q (.bl false) (put S a (.lst (xs++ys))))→zaE r [enc l,enc t, .ref a] S Q E)
  {S:Sto}{xs:List W}{x3 x4:Option W},fitss 0 us→S a=ae (.lst xs)→xs.length+wts ls≤100000→
  (∀ys x3 x4,mts ls us=ae ys→D.nx [x0,x1,ae (.ref a),x3,x4] (put S a (.lst (xs++encs ys))))→(mts ls us=none→ ∀ys,D.rt (.bl false) (put S a (.lst (xs++ys))))→
  forL (wGT (zaq (wGN 3) (zaq (wGN 4) zbI))) (zcf r (zaE r)) E D (λ_=>True) (pairs (encs ls) (encs us)) [x0,x1,ae (.ref a),x3,x4] S
 | [],us,one,S,xs,x3,x4,hf,ha,hl,h1,h0=>by
  have q:=h1 [] x3 x4 (by simp [mts]);simp only[encs,bJ,zdU ha]at q;simpa [encs,pairs,forL]using q
 |l::ls,[],one,S,xs,x3,x4,hf,ha,hl,h1,h0=>by
  have q:=h1 [] x3 x4 (by simp [mts]);simp only[encs,bJ,zdU ha]at q;simpa [encs,pairs,forL]using q
 |l::ls,u::us,one,S,xs,x3,x4,hf,ha,hl,h1,h0=>by
  simp only[fitss]at hf;simp only[wts]at hl;simp only[encs,pairs];refine zbj λN hN=>?_;simp only[zcf];walk_at "wp";refine one l a0 hf.1 ha (by omega) (λys e=>?_) λe ys=>?_
  ·walk_at "wp";have hyl:=ztk l u ys e;refine hN _ _ _ .refl trivial (zhn ls us (λl' hl'=>one l' (aK _ hl')) hf.2 zag (by rw[aS,zaT];omega) (λzs x3 x4 e2=>?_) λe2 zs=>?_)
   ·rw[zbb,cp,←zeV];exact h1 _ _ _ (by simp only[mts,e,e2])
   ·rw[zbb,cp];exact h0 (by simp only[mts,e,e2]) _
  ·walk_at "wp";exact h0 (by simp only[mts,e]) ys
theorem zmp{a:Addr}:∀(d:Nat) {l t:Tr}{r:Nat}{S:Sto}{xs:List W}{Q:WK}{E:Str→Sto→Prop},l.depth≤d→d≤r→t.fits 0→S a=ae (.lst xs)→xs.length+l.weight≤100000→
  (∀ys,l.mt t=ae ys→Q (.bl true) (put S a (.lst (xs++encs ys))))→(l.mt t=none→ ∀ys,Q (.bl false) (put S a (.lst (xs++ys))))→zaE (r+1) [enc l,enc t, .ref a] S Q E
 |0,l,t,r,S,xs,Q,E,hd,hr,hf,ha,hl,h1,h0=>by have:=zaS l;omega
 |d+1, .bl n,t,r,S,xs,Q,E,hd,hr,hf,ha,hl,h1,h0=>by
  have hw:=zen (.bl n);rw[zaE];simp only[enc];walk_at "wp";simp only[zaj ha,true_and];refine⟨zbO (by omega),_, .refl,?_⟩;have:=h1 [t] (by simp [Tr.mt]);simpa only[encs]using this
 |d+1, .nd s ls, .bl n,r,S,xs,Q,E,hd,hr,hf,ha,hl,h1,h0=>by
  simp only[Tr.fits]at hf;omega
 |d+1, .nd s ls, .nd z us,r,S,xs,Q,E,hd,hr,hf,ha,hl,h1,h0=>by
  simp only[Tr.fits]at hf;simp only[Tr.depth]at hd;simp only[Tr.weight]at hl;obtain⟨r,rfl⟩:∃r',r=r'+1:=⟨r - 1,by omega⟩
  have en:∀s ts,enc (.nd s ts)= .tup (.str s::encs ts):=λs ts=>by simp [enc]
  rw[zaE];walk_at "wp";rw[en,en];walk_at "wp";rw[←en,←en];refine zwZ ?_;rw[en,en];walk_at "wp";simp only[Tr.mt]at h1 h0;cases e:(s == z&&ls.length == us.length) with
  |false=>
   rw[e]at h0;have:=h0 (by simp) [];rw[bJ,zdU ha]at this;exact⟨_, .refl,this⟩
  |true=>
   rw[e]at h0 h1;simp only[if_true]at h0 h1;walk_at "wp";refine zhn ls us (λl hl' {t S xs Q E} f1 f2 f3 f4 f5=>zmp d (by have:=zbA hl';omega) (by omega) f1 f2 f3 f4 f5) hf ha (by omega) (λys x3 x4 e=>?_) λe ys=>?_
   ·walk_at "wp";exact⟨_, .refl,h1 ys e⟩
   ·exact⟨_, .refl,h0 e ys⟩
theorem zer{l t:Tr}{r:Nat}{S:Sto}{Q:WK}{E:Str→Sto→Prop}(hr:l.depth<r) (hf:t.fits 0) (hw:l.weight≤90000) (h1:∀ys,l.mt t=ae ys→ ∀a,S a=none→Q (.ref a) (put S a (.lst (encs ys)))) (h0:l.mt t=none→Q .non S):zbS (r+1) [enc l,enc t] S Q E:=by
 obtain⟨r,rfl⟩:∃r',r=r'+1:=⟨r - 1,by omega⟩
 rw[zbS];walk_at "wp";refine⟨aY _,λa ha=>zmp l.depth (au _) (by omega) hf zag (by simpa using(by omega:l.weight≤100000)) (λys e=>?_) λe ys=>?_⟩
 ·walk_at "wp";exact⟨_, .refl,h1 ys e a ha⟩
 ·walk_at "wp";exact⟨_, .put .refl ha,h0 e⟩
mutual
theorem zkr:∀(l t:Tr) (ys:List Tr),l.mt t=ae ys→wts ys≤t.weight
 | .bl _,t,ys,h=>by simp only[Tr.mt,bB]at h;subst h;simp [wts]
 | .nd s ls, .nd z us,ys,h=>by
  simp only[Tr.mt]at h;split at h
  ·have:=zfQ ls us ys h;simp only[Tr.weight];omega
  ·cases h
 | .nd _ _, .bl _,ys,h=>by simp [Tr.mt]at h
theorem zfQ:∀(ls us ys:List Tr),mts ls us=ae ys→wts ys≤wts us
 | [],us,ys,h=>by simp only[mts,bB]at h;subst h;simp [wts]
 |l::ls,[],ys,h=>by simp only[mts,bB]at h;subst h;simp [wts]
 |l::ls,u::us,ys,h=>by
  simp only[mts]at h;split at h
  ·cases h
  ·rename_i xs e1;split at h
   ·cases h
   ·rename_i zs e2;cases h;have:=zkr l u xs e1;have:=zfQ ls us zs e2;simp only[zet,wts];omega
end
noncomputable def zto (c:Nat):Bool:=decide (97≤c)&&decide (c≤122)
noncomputable def small (xs:List Nat):Bool:=xs.all zto
theorem zmJ (x:Str):(cu x (ae 1) none).cps.toList=x.cps.toList.drop 1:=by
 rw[zps];unfold zye;rw[HT.sIx_none];have ez:HT.sIx x.cps.toList.length 0 (ae 1)=min 1 x.cps.toList.length:=HT.sIx_nat x.cps.toList.length 0 1;rw[ez];by_cases h:1≤x.cps.toList.length
 ·rw[io h,c_ (by rw[cA];exact au _)]
 ·have:x.cps.toList=[]:=i7 (by omega);rw[this];rfl
theorem zlN (x:Str):x.length=x.cps.toList.length:=by simp [ik]
mutual
theorem zsZ:∀(t:Tr) (p q:List Int) (u:Tr),t.at q=ae u→(p++q,u)∈t.plt p
 | .bl n,p,[],u,h=>by rw[zhx]at h;cases h;simp [Tr.plt]
 | .bl n,p,i::q,u,h=>by cases h
 | .nd s ts,p,[],u,h=>by rw[zhx]at h;cases h;simp [Tr.plt]
 | .nd s ts,p,i::q,u,h=>by
  obtain⟨v,h0,e1,e2⟩:=zgv h;simp only[Tr.plt,az];refine .inr ?_;have:=zom ts p 0 i.toNat q u v e1 e2;rw[b5,cI h0]at this;simpa using this
theorem zom:∀(ts:List Tr) (p:List Int) (i j:Nat) (q:List Int) (u v:Tr),ts[j]? =ae v→v.at q=ae u→(p++((i+j:Nat):Int)::q,u)∈zgT p i ts
 | [],p,i,j,q,u,v,h1,h2=>by simp at h1
 |t::ts,p,i,0,q,u,v,h1,h2=>by
  simp at h1;subst h1;simp only[zgT,bu];refine .inl ?_;have:=zsZ t (p++[(i:Int)]) q u h2;simpa using this
 |t::ts,p,i,j+1,q,u,v,h1,h2=>by
  simp only[zgT,bu];refine .inr ?_;have:=zom ts p (i+1) j q u v (by simpa using h1) h2;rw[show i+1+j=i+(j+1) by omega]at this
  exact this
end
theorem zpv{t:Tr}{x:List Int×Tr}(h:x∈t.plt []):t.at x.1=ae x.2∧x.1.length<t.depth:=by
 obtain⟨q,h3,h4,h5⟩:=zkN t [] x.1 x.2 h;simp at h3;subst h3;exact⟨h4,h5⟩
theorem zfq{α:Type}{g:WG}{b:WS}{E:WX}{D:WEnds}{G:Sto→Prop}{S:Sto}(hG:G S) (I:WSt→Prop) (key:α→W) (f:α→Option W):∀(xs:List α) (σ:WSt),I σ→
  (∀x∈xs,∀σ (N:WSt→Sto→Prop),I σ→(f x=none→ ∀σ' S',I σ'→Sub S S'→N σ' S')→(∀w,f x=ae w→ ∀S',Sub S S'→D.rt w S')→g (key x) σ S λσ1 S1=>b E { D with nx:=N,ct:=N,bk:=D.nx } σ1 S1)→
  (xs.findSome? f=none→ ∀σ,I σ→D.nx σ S)→(∀w,xs.findSome? f=ae w→ ∀S',Sub S S'→D.rt w S')→forL g b E D G (xs.map key) σ S
 | [],σ,hI,step,done,ret=>by
  have:=done rfl σ hI;simpa [forL]using this
 |x::xs,σ,hI,step,done,ret=>by
  rw[aA];refine zbj λN hN=>?_;refine step x a0 σ N hI (λe σ' S' hI' sb=>?_) λw e S' sb=>ret w (by rw[d6,e]) S' sb;refine hN _ _ S sb hG (zfq hG I key f xs σ' hI' (λy hy=>step y (aK _ hy)) (λe2=>done (by rw[d6,e];exact e2)) λw e2=>ret w (by rw[d6,e];exact e2))
abbrev Tn:=Str×Tr×Tr
noncomputable def zba (t:Tn):W:= .tup [.str t.1,enc t.2.1,enc t.2.2]
noncomputable def Tn0:Tn:=("", .bl 0, .bl 0)
noncomputable def lf (ts:List Tn) (j:Nat):Tr:=(ts.getD j Tn0).2.1
theorem znX (n:Nat):zkZ 0 n=(aU n).map λ(i:Nat)=>W.int i:=by
 unfold zkZ;apply cF;intro i _;simp
theorem zhZ{r:Nat}{a b:Addr}{ps:List W}{E:WX}{D:WEnds}{x0:Option W}(hba:b≠a):∀(ts:List Tr) {S:Sto}{us:List Tr}{x2:Option W},S a=ae (.lst (encs us))→S b=ae (.lst ps)→us.length+wts ts≤200000→
  (∀x2,D.nx [x0,ae (.ref a),x2] (put S a (.lst (encs (us++ts.flatMap Tr.kids)))))→
  forL (wGN 2) (zcQ (r+1) zaR) E D (λS'=>S' b=ae (.lst ps)) (encs ts) [x0,ae (.ref a),x2] S
 | [],S,us,x2,ha,hb,hl,h=>by
  have:=h x2;simp only[gr,bJ,zdU ha]at this;simpa [encs,forL]using this
 |t::ts,S,us,x2,ha,hb,hl,h=>by
  simp only[wts]at hl;have hk:=zcR t.kids;have hw:=zdK t;simp only[encs];refine zbj λN hN=>?_;simp only[zcQ];walk_at "wp";simp only[zaj ha,true_and];refine zgy ?_;walk_at "wp";rw[zaj ha];refine⟨zal (by rw[zaT,zaT];omega),hN _ _ _ .refl (by rw[zaA hba];exact hb) ?_⟩;rw[←zeV];refine zhZ hba ts zag (by rw[zaA hba];exact hb) (by rw[aS];omega) λx2=>?_;rw[zbb];have:=h x2;rw[eN,←cp]at this;exact this
theorem zlL{ts:List Tr}{b:Addr}{r:Nat}{S:Sto}{Q:WK}{E:Str→Sto→Prop}(hb:S b=ae (.lst (encs ts))) (hw:wts ts≤100000) (h:∀a,S a=none→Q (.ref a) (put S a (.lst (encs (ts.flatMap Tr.kids))))):zbT (r+2) [.ref b] S Q E:=by
 rw[zbT];walk_at "wp";refine⟨aY _,λa ha=>?_⟩;have hba:=zuM hb ha;rw[zaj (keep hb ha)];refine zhZ (us:=[]) hba ts (by simp [zag,encs]) (keep hb ha) (by simpa using(by omega:wts ts≤200000)) λx2=>?_;rw[zbb];walk_at "wp";exact⟨_, .refl,h a ha⟩
noncomputable def Tr.small (t:Tr):Bool:=decide (t.weight≤400)&&decide (t.depth≤40)
theorem zgd{t:Tr}{r:Nat}{S:Sto}{Q:WK}{E:Str→Sto→Prop}(hw:t.weight≤90000) (h:Q (.bl t.small) S):zdH (r+3) [enc t] S Q E:=by
 rw[zdH];walk_at "wp";refine⟨zal (by decide),λa ha=>?_⟩;refine⟨λm σ S'=>∃(ts:List Tr) (k d:Nat) (b:Addr),m=wts ts∧k+wts ts=t.weight∧d+dts ts=t.depth∧k≤400∧d≤40∧S b=none∧S'=put S b (.lst (encs ts))∧σ=[ae (enc t),ae (.int k),ae (.int d),ae (.ref b)],⟨_,[t],0,0,a,rfl,by simp [wts],by simp [dts],by decide,by decide,ha,by simp [encs],rfl⟩,?_⟩
 rintro m σ S' ⟨ts,k,d,b,rfl,hwt,hk,hk4,hd4,hb,rfl,rfl⟩;walk_at "wp";cases ts with
 |nil=>
  simp only[encs,kx];walk_at "wp";simp only[dts,wts,eZ]at hk hwt;have e:t.small=true:=by unfold Tr.small;rw[decide_eq_true (by omega),decide_eq_true (by omega)];rfl
  rw[e]at h;exact⟨_, .put .refl hb,h⟩
 |cons u us=>
  have hne:(encs (u::us)).isEmpty=false:=by simp [encs]
  rw[hne];have hfl:=zlY (u::us);have hdf:=zms (ts:=u::us) (by simp);have hlw:=zcR (u::us);simp only[zgs];walk_at "wp";rw[zaT];have no:400<t.weight∨40<t.depth→ ∃S'',Sub S'' (put S b (Ob.lst (encs (u::us))))∧Q (W.bl false) S'':=λz=>by
   have e:t.small=false:=by
    unfold Tr.small;rcases z with z |z
    ·rw[decide_eq_false (by omega)];rfl
    ·rw[decide_eq_false (p:=t.depth≤40) (by omega),fV]
   rw[e]at h;exact⟨_, .put .refl hb,h⟩
  split
  ·exact no (.inl (by omega))
  ·split
   ·exact no (.inr (by omega))
   ·refine zlL zag (by omega) λc hc=>?_;obtain⟨hc1,hc2⟩:=zdS hc;refine⟨wts ((u::us).flatMap Tr.kids),put S c (.lst (encs ((u::us).flatMap Tr.kids))),by simp only[aR]at hfl;omega, .put2 (.put .refl hb),_,k+(u::us).length,d+1,c,rfl,by omega,by omega,by omega,by omega,hc1,rfl,?_⟩
    push_cast
    rfl
theorem zfS{ns:List Int}{k:Int}{r:Nat}{S:Sto}{Q:WK}{E:Str→Sto→Prop}(h0:0≤k) (h:∀n:Int,Q (.int n) S):zaG (r+1) [.scr ns, .int k] S Q E:=by
 rw[zaG];walk_at "wp";split
 ·obtain⟨x,e,_⟩:=zkE (xs:=ns) (i:=k) h0 (by omega);rw[e];exact⟨S, .refl,h _⟩
 ·exact⟨S, .refl,h _⟩
noncomputable def lt (rs:List Int) (pos:Int) (k j:Nat):Nat:=97+((rs.getD j 0+(k:Int)*(if(0+(j:Int) == pos)=true then 1 else 0)) % 26).toNat
noncomputable def zfc (rs:List Int) (pos:Int) (k:Nat):List Nat:=(aU rs.length).map (lt rs pos k)
noncomputable def wd0 (rs:List Int) (pos:Int) (k:Nat):Str:=cN (bh "") ((zfc rs pos k).map λc=>(⟨#[c]⟩:Str))
noncomputable def wd1 (rs:List Int) (pos:Int) (k:Nat):Str:=dF ⟨#[lt rs pos k 0]⟩++cu (wd0 rs pos k) (ae 1) none
noncomputable def wd (great:Bool) (rs:List Int) (pos:Int) (k:Nat):Str:=if great then wd1 rs pos k else wd0 rs pos k
theorem zhS (rs:List Int) (pos:Int) (k j:Nat):Low (lt rs pos k j):=by
 have h0:=cO (rs.getD j 0+(k:Int)*(if(0+(j:Int) == pos)=true then 1 else 0)) (show(26:Int)≠0 by decide)
 have h1:=cV (rs.getD j 0+(k:Int)*(if(0+(j:Int) == pos)=true then 1 else 0)) (show(0:Int)<26 by decide)
 unfold lt Low;omega
theorem zvQ{n:Int}(h0:0≤n) (h1:n<26):atI (bh "abcdefghijklmnopqrstuvwxyz").cps.toList n=ae (97+n.toNat):=by
 have e:=zbU (xs:=(bh "abcdefghijklmnopqrstuvwxyz").cps.toList) (n:=n.toNat);rw[cI h0]at e;rw[e,zuy,List.getElem?_range' (by omega)];simp
theorem zgI (rs:List Int) (pos:Int) (k:Nat):(wd0 rs pos k).cps.toList=zfc rs pos k:=zjA _
theorem zhz (rs:List Int) (pos:Int) (k:Nat):(zfc rs pos k).length=rs.length:=by simp [zfc]
theorem zju{rs:List Int}{pos:Int}{k c:Nat}(h:c∈zfc rs pos k):Low c:=by
 obtain⟨j,_,rfl⟩:=aI.mp h;exact zhS rs pos k j
theorem znI{rs:List Int}(pos:Int) (k:Nat) (h:1≤rs.length):zfc rs pos k=lt rs pos k 0::(zfc rs pos k).drop 1:=by
 unfold zfc;obtain⟨n,hn⟩:∃n,rs.length=n+1:=⟨rs.length - 1,by omega⟩
 rw[hn,gU];simp
theorem zjI{c:Nat}(h:Low c):dF ⟨#[c]⟩=⟨#[c - 32]⟩:=by
 unfold Low at h;rw[PySem.W.KOpn.upper_one (by omega),if_pos h]
theorem zmE{rs:List Int}(pos:Int) (k:Nat):(wd1 rs pos k).cps.toList=(lt rs pos k 0 - 32)::(zfc rs pos k).drop 1:=by
 unfold wd1;rw[zjI (zhS _ _ _ _)];show((#[lt rs pos k 0 - 32]:Array Nat)++(cu (wd0 rs pos k) (ae 1) none).cps).toList=_;rw[ic,zmJ,zgI];rfl
structure Base (rs:List Int) (pos:Int):Prop where
  l1:1≤rs.length
  l8:rs.length≤8
  p0:0≤pos
  p1:pos<rs.length
theorem zmt{rs:List Int}{pos:Int}(b:Base rs pos) (k:Nat):zcN (wd0 rs pos k):=by
 unfold zcN;rw[zgI,zhz];exact⟨b.l1,b.l8,λc hc=>zju hc⟩
theorem zpZ{rs:List Int}{pos:Int}(b:Base rs pos) (k:Nat):zde (wd1 rs pos k):=by
 have:=zhS rs pos k 0;have hl:=b.l8;unfold Low at this;refine⟨_,_,zmE pos k,by omega,by omega,by rw[cA,zhz];omega,λd hd=>zju (gp hd)⟩
theorem zzg{rs:List Int}{pos:Int}(b:Base rs pos) {k m:Nat}(hk:k<26) (hm:m<26) (h:k≠m):lt rs pos k pos.toNat≠lt rs pos m pos.toNat:=by
 have p0:=b.p0;have e:(0+((pos.toNat:Nat):Int) == pos)=true:=by rw[beq_iff_eq];omega
 unfold lt;rw[e,if_pos rfl];omega
theorem zwu{great:Bool}{rs:List Int}{pos:Int}(b:Base rs pos) {k m:Nat}(hk:k<26) (hm:m<26) (h:k≠m):wd great rs pos k≠wd great rs pos m:=by
 have hn:=zzg b hk hm h;have p0:=b.p0;have p1:=b.p1;intro e;have e':=congrArg (λx:Str=>x.cps.toList) e;cases great with
 |false=>
  simp only[wd,dC,if_false,zgI]at e';have e2:=congrArg (λl=>l[pos.toNat]?) e';simp only[zfc,bq,fU (show pos.toNat<rs.length by omega),eF,bB]at e2
  exact hn e2
 |true=>
  simp only[wd,if_true,zmE]at e';have e2:=congrArg (λl=>l[pos.toNat]?) e';cases hp:pos.toNat with
  |zero=>
   rw[hp]at hn;have h1:=zhS rs pos k 0;have h2:=zhS rs pos m 0;unfold Low at h1 h2;simp only[hp,kw,bB]at e2;omega
  |succ n=>
   rw[hp]at hn;simp only[hp,eD,iB,zfc,bq]at e2;rw[show 1+n=n+1 by omega,fU (show n+1<rs.length by omega)]at e2
   simp only[eF,bB]at e2;exact hn e2
def zlc (great:Bool) (ws:List Str):Prop:=∃rs pos,Base rs pos∧(ws=(aU 6).map (wd great rs pos)∨(great=false∧ws=[wd0 rs pos 0,wd0 rs pos 1,wd0 rs pos 2,wd0 rs pos 2,wd0 rs pos 2,wd0 rs pos 5]))
structure Signs (w0 w1 w2 w3 w4 w5:Str):Prop where
  ok:∀x∈ [w0,w1,w2,w3,w4,w5],zcN x
  n0:∀x∈ [w1,w2,w3,w4,w5],w0≠x
  n1:∀x∈ [w2,w3,w4,w5],w1≠x
  n5:∀x∈ [w2,w3,w4],w5≠x
theorem zkX{ws:List Str}(h:zlc false ws):∃w0 w1 w2 w3 w4 w5,ws=[w0,w1,w2,w3,w4,w5]∧Signs w0 w1 w2 w3 w4 w5:=by
 obtain⟨rs,pos,b,h⟩:=h;have hs:=λk=>zmt b k;have hn:∀k m:Nat,k<26→m<26→k≠m→wd0 rs pos k≠wd0 rs pos m:=λk m h1 h2 h3=>zwu (great:=false) b h1 h2 h3;rcases h with rfl |⟨_,rfl⟩
 ·refine⟨_,_,_,_,_,_,rfl,⟨?_,?_,?_,?_⟩⟩
  ·simp only[az,bx,or_false,forall_eq_or_imp,forall_eq];exact⟨hs 0,hs 1,hs 2,hs 3,hs 4,hs 5⟩
  ·simp only[az,bx,or_false,forall_eq_or_imp,forall_eq];exact⟨hn 0 1 (by decide) (by decide) (by decide),hn 0 2 (by decide) (by decide) (by decide),hn 0 3 (by decide) (by decide) (by decide),hn 0 4 (by decide) (by decide) (by decide),hn 0 5 (by decide) (by decide) (by decide)⟩
  ·simp only[az,bx,or_false,forall_eq_or_imp,forall_eq];exact⟨hn 1 2 (by decide) (by decide) (by decide),hn 1 3 (by decide) (by decide) (by decide),hn 1 4 (by decide) (by decide) (by decide),hn 1 5 (by decide) (by decide) (by decide)⟩
  ·simp only[az,bx,or_false,forall_eq_or_imp,forall_eq];exact⟨hn 5 2 (by decide) (by decide) (by decide),hn 5 3 (by decide) (by decide) (by decide),hn 5 4 (by decide) (by decide) (by decide)⟩
 ·refine⟨_,_,_,_,_,_,rfl,⟨?_,?_,?_,?_⟩⟩
  ·simp only[az,bx,or_false,forall_eq_or_imp,forall_eq];exact⟨hs 0,hs 1,hs 2,hs 2,hs 2,hs 5⟩
  ·simp only[az,bx,or_false,forall_eq_or_imp,forall_eq];exact⟨hn 0 1 (by decide) (by decide) (by decide),hn 0 2 (by decide) (by decide) (by decide),hn 0 2 (by decide) (by decide) (by decide),hn 0 2 (by decide) (by decide) (by decide),hn 0 5 (by decide) (by decide) (by decide)⟩
  ·simp only[az,bx,or_false,forall_eq_or_imp,forall_eq];exact⟨hn 1 2 (by decide) (by decide) (by decide),hn 1 2 (by decide) (by decide) (by decide),hn 1 2 (by decide) (by decide) (by decide),hn 1 5 (by decide) (by decide) (by decide)⟩
  ·simp only[az,bx,or_false,forall_eq_or_imp,forall_eq];exact⟨hn 5 2 (by decide) (by decide) (by decide),hn 5 2 (by decide) (by decide) (by decide),hn 5 2 (by decide) (by decide) (by decide)⟩
structure Titles (ts:List Str):Prop where
  len:ts.length=6
  ok:∀x∈ts,zde x
  nd:ts.Nodup
theorem zgn{ws:List Str}(h:zlc true ws):Titles ws:=by
 obtain⟨rs,pos,b,h⟩:=h;rcases h with rfl |⟨e,_⟩
 ·refine⟨by simp,λx hx=>?_,?_⟩
  ·obtain⟨k,_,rfl⟩:=aI.mp hx;exact zpZ b k
  ·rw[bp,List.pairwise_map];refine jG.imp_of_mem (λ{a c} ha hc hne=>?_) (jB (n:=6));have ha:=eS.mp ha;have hc:=eS.mp hc;exact zwu b (by omega) (by omega) hne
 ·cases e
theorem zjz:∀(ws:List W) {rs:List Int}{sp:Int}{a:Addr}{r:Nat}{S:Sto}{E:WX}{D:WEnds}{x0 x1 x2 x3 x6 x7 x8 x9:Option W},S a=ae (.lst (rs.map W.int))→rs.length+ws.length≤1000→
  (∀(rs':List Int) sp' x6',rs'.length=rs.length+ws.length→D.nx [x0,x1,x2,x3,ae (.int sp'),ae (.ref a),x6',x7,x8,x9] (put S a (.lst (rs'.map W.int))))→
  forL (wGN 6) (zdw r zaR) E D (λ_=>True) ws [x0,x1,x2,x3,ae (.int sp),ae (.ref a),x6,x7,x8,x9] S
 | [],rs,sp,a,r,S,E,D,x0,x1,x2,x3,x6,x7,x8,x9,ha,hl,h=>by
  simp only[forL];have:=h rs sp x6 (by simp);rw[zdU ha]at this;exact this
 |w::ws,rs,sp,a,r,S,E,D,x0,x1,x2,x3,x6,x7,x8,x9,ha,hl,h=>by
  simp only[forL,zdw];walk_at "wp";simp only[aR]at hl h;simp only[zaj ha,true_and];refine⟨by decide,zbO (by simp;omega),⟨by decide,by decide⟩,_, .refl,?_⟩
  refine zjz (r:=r) ws (rs:=rs++[sp % 26]) (by rw[zag];simp) (by simp;omega) λrs' sp' x6' h1=>?_;rw[zbb];exact h rs' sp' x6' (by simp at h1;omega)
theorem zoi{c:Prop} [Decidable c] {a b:Prop}(h1:c→a) (h2:¬c→b):if c then a else b:=by split<;>simp_all
theorem zmo{A T:WS}{E:WX}{D:WEnds}{σ:WSt}{S:Sto}(h:∀T',T'=T→zas A T' E D σ S):zas A T E D σ S:=h T rfl
theorem zml{one two:Int}{great:Bool}{r:Nat}{S:Sto}{Q:WK}{E:Str→Sto→Prop}(h:∀(a:Addr) (ws:List Str),S a=none→zlc great ws→Q (.ref a) (put S a (.lst (ws.map W.str)))):zbn (r+1) [.int one, .int two, .bl great] S Q E:=by
 rw[zbn];walk_at "wp";have o0:0≤one % 8:=cO _ (by decide);have o1:one % 8<8:=cV _ (by decide);refine⟨⟨by decide,by decide,by decide⟩,by decide,aY _,λa ha=>⟨by decide,⟨by omega,by omega⟩,?_⟩⟩
 refine zjz _ (rs:=[]) zag (by simp [znd];omega) λrs sp x6 hl=>?_;rw[zbb];simp only[c5,znd,b5]at hl;have hl':(rs.length:Int)=1+one % 8:=by rw[hl];omega
 have p0:0≤one / 8 % (rs.length:Int):=cO _ (by omega);have p1:one / 8 % (rs.length:Int)<(rs.length:Int):=cV _ (by omega);have B:Base rs (one / 8 % (rs.length:Int)):=⟨by omega,by omega,p0,p1⟩
 walk_at "wp";simp only[aq];refine⟨⟨by decide,by decide⟩,by omega,aY _,λb hb=>⟨⟨by decide,by decide⟩,?_⟩⟩
 obtain⟨hb1,hb2⟩:=zdS hb;generalize hpos:one / 8 % (rs.length:Int)=pos at B p0 p1⊢;refine zpJ (λi σ S'=>∃x6 x9,S'=put (put S a (.lst (rs.map W.int))) b (.lst (((aU i).map (wd great rs pos)).map W.str))∧σ=[ae (.int one),ae (.int two),ae (.bl great),ae (.str (bh "abcdefghijklmnopqrstuvwxyz")),ae (.int sp),ae (.ref a),x6,ae (.int pos),ae (.ref b),x9]) 6 ?_ ?_ ⟨x6,none,rfl,rfl⟩
 ·rintro k hk σ S' N ⟨x6,x9,rfl,rfl⟩ hN;have ea:put (put S a (Ob.lst (rs.map W.int))) b (Ob.lst (((aU k).map (wd great rs pos)).map W.str)) a=ae (.lst (rs.map W.int)):=by rw[zaA (bj hb2),zag]
  simp only[zeC];walk_at "wp";rw[zaj ea];simp only[aq];refine⟨⟨by omega,by omega⟩,?_⟩
  rw[bV];refine zaQ (λσ=>∃x,σ=[x,ae (.str (bh "abcdefghijklmnopqrstuvwxyz")),ae (.ref a),ae (.int (k:Int)),ae (.int pos)]) (λi:Nat=>W.int (0+(i:Int))) (λi=>W.str ⟨#[lt rs pos k i]⟩) trivial (aU rs.length) [] _ ⟨none,rfl⟩ (by simp;omega) (λi hi σ R hI hR=>?_) ?_
  ·obtain⟨x,rfl⟩:=hI;have hi:=eS.mp hi;simp only[zeG];walk_at "wp";have e:=zbU (xs:=rs.map W.int) (n:=i);rw[show(i:Int)=0+(i:Int) by omega,bq,a9 hi]at e
   rw[zaj ea,e];dsimp only[Option.map];walk_at "wp";have ec:=zvQ (n:=(rs[i]+(k:Int)*(if(0+(i:Int) == pos)=true then 1 else 0)) % 26) (cO _ (by decide)) (cV _ (by decide));rw[ec];have el:lt rs pos k i=97+((rs[i]+(k:Int)*(if(0+(i:Int) == pos)=true then 1 else 0)) % 26).toNat:=by
    unfold lt;rw[bo,a9 hi];rfl
   rw[←el];exact⟨.inl ⟨by omega,by omega⟩,by decide,zal (by rw[zws];decide),hR _ _ ⟨_,rfl⟩ .refl⟩
  ·have es:(aU rs.length).map (λi=>W.str ⟨#[lt rs pos k i]⟩)=(zfc rs pos k).map λc=>W.str ⟨#[c]⟩:=by
    unfold zfc;rw[bn];rfl
   have hw:=zmt B k;rw[a8,es,zhv];refine⟨zov _ (by rw[zhz];omega),?_⟩;show _;have ew:cN (bh "") ((zfc rs pos k).map λc=>(⟨#[c]⟩:Str))=wd0 rs pos k:=rfl;rw[ew];have hl8:(wd0 rs pos k).length≤8:=by rw[zlN];exact hw.2.1
   have fin:∀z:Str,z=wd great rs pos k→ ∀x9:Option W,N [ae (.int one),ae (.int two),ae (.bl great),ae (.str (bh "abcdefghijklmnopqrstuvwxyz")),ae (.int sp),ae (.ref a),ae (.int (k:Int)),ae (.int pos),ae (.ref b),x9] (put (put S a (.lst (rs.map W.int))) b (.lst (((aU k).map (wd great rs pos)).map W.str++[.str z]))):=λz hz x9=>by
    subst hz;refine hN _ _ _ .refl ⟨_,_,?_,rfl⟩;rw[hU,bE,bE];rfl
   have hxl:(((aU k).map (wd great rs pos)).map W.str).length<sizeLine:=zbO (by simp;omega);cases great with
   |false=>
    try walk_at "wp"
    try simp only[zgC,zbb,true_and]
    exact⟨hxl,fin _ rfl _⟩
   |true=>
    walk_at "wp";rw[zgI,znI pos k B.l1,ziv];dsimp only
    try walk_at "wp"
    try simp only[zgC,zbb,true_and]
    refine⟨zal (by omega),?_⟩;have h1:(⟨#[lt rs pos k 0]⟩:Str).length=1:=rfl;have h2:(dF ⟨#[lt rs pos k 0]⟩).length=1:=by rw[zjI (zhS _ _ _ _)];rfl
    have h3:(cu (wd0 rs pos k) (ae 1) none).length≤8:=by
     rw[zlN,zmJ,cA,←zlN];omega
    exact⟨by omega,zal (by omega),zal (by omega),hxl,fin _ rfl _⟩
 ·rintro σ S' ⟨x6,x9,rfl,rfl⟩;have eb:put (put S a (Ob.lst (rs.map W.int))) b (Ob.lst (((aU 6).map (wd great rs pos)).map W.str)) b=ae (.lst (((aU 6).map (wd great rs pos)).map W.str)):=zag;walk_at "wp";cases great with
  |true=>
   walk_at "wp";refine⟨⟨by decide,by decide⟩,by decide,?_⟩
   split
   ·exact⟨_, .put2 (.put .refl ha),h b _ hb1 ⟨rs,pos,B, .inl rfl⟩⟩
   ·exact⟨_, .put2 (.put .refl ha),h b _ hb1 ⟨rs,pos,B, .inl rfl⟩⟩
  |false=>
   walk_at "wp";refine⟨⟨by decide,by decide⟩,by decide,?_⟩
   split
   ·have e6:((aU 6).map (wd false rs pos)).map W.str=[.str (wd0 rs pos 0), .str (wd0 rs pos 1), .str (wd0 rs pos 2), .str (wd0 rs pos 3), .str (wd0 rs pos 4), .str (wd0 rs pos 5)]:=rfl;simp only[e6]
    try walk_at "wp"
    have c3:zeu [W.str (wd0 rs pos 0), .str (wd0 rs pos 1), .str (wd0 rs pos 2), .str (wd0 rs pos 3), .str (wd0 rs pos 4), .str (wd0 rs pos 5)] none (ae 3)=[.str (wd0 rs pos 0), .str (wd0 rs pos 1), .str (wd0 rs pos 2)]:=rfl;have a2:atI [W.str (wd0 rs pos 0), .str (wd0 rs pos 1), .str (wd0 rs pos 2), .str (wd0 rs pos 3), .str (wd0 rs pos 4), .str (wd0 rs pos 5)] 2=ae (.str (wd0 rs pos 2)):=rfl;have a5:atI [W.str (wd0 rs pos 0), .str (wd0 rs pos 1), .str (wd0 rs pos 2), .str (wd0 rs pos 3), .str (wd0 rs pos 4), .str (wd0 rs pos 5)] 5=ae (.str (wd0 rs pos 5)):=rfl;simp only[c3,a2,a5]
    try walk_at "wp"
    refine⟨zal (by decide),zal (by decide),λc hc=>?_⟩;obtain⟨hc1,hc2⟩:=zdS hc;obtain⟨hc1,hc3⟩:=zdS hc1;exact⟨_, .put2 (.put (.put .refl ha) hb1),h c _ hc1 ⟨rs,pos,B, .inr ⟨rfl,rfl⟩⟩⟩
   ·exact⟨_, .put2 (.put .refl ha),h b _ hb1 ⟨rs,pos,B, .inl rfl⟩⟩
mutual
noncomputable def Tr.nb:Tr→Nat
 | .bl _=>1
 | .nd _ ts=>nbs ts
noncomputable def nbs:List Tr→Nat
 | []=>0
 |t::ts=>t.nb+nbs ts
end
mutual
theorem zti:∀(t:Tr) (p:List Int),((t.plt p).filter λx=>x.2.isBl).length=t.nb
 | .bl n,p=>by simp [Tr.plt,Tr.isBl,Tr.nb]
 | .nd s ts,p=>by
  have:=zoj ts p 0;simpa [Tr.plt,Tr.isBl,Tr.nb]using this
theorem zoj:∀(ts:List Tr) (p:List Int) (i:Nat),((zgT p i ts).filter λx=>x.2.isBl).length=nbs ts
 | [],p,i=>by simp [zgT,nbs]
 |t::ts,p,i=>by
  have h1:=zti t (p++[(i:Int)]);have h2:=zoj ts p (i+1);rw[zgT,i6,aS,h1,h2,nbs]
end
theorem zwT (t:Tr):t.bls.length=t.nb:=zti t []
theorem zqs:∀ts:List Tr,(ts.map λt=>(t.nb:Int)).sum=(nbs ts:Int)
 | []=>by simp [nbs]
 |t::ts=>by
  rw[aA,iW,zqs ts,nbs];omega
theorem zuF (ts:List Tr):zcj (ts.map λt=>W.int (t.nb:Int))=ae (ts.map λt=>(t.nb:Int)):=by
 have:=zfO (ts.map λt=>(t.nb:Int));rw[bn]at this;exact this
theorem zgH:∀(d:Nat) {t:Tr}{r:Nat}{S:Sto}{Q:WK}{E:Str→Sto→Prop},t.depth≤d→d≤r+1→t.weight≤90000→Q (.int t.nb) S→zaB (r+1) [enc t] S Q E
 |0,t,r,S,Q,E,hd,hr,hw,h=>by have:=zaS t;omega
 |d+1, .bl n,r,S,Q,E,hd,hr,hw,h=>by
  rw[zaB];simp only[enc];walk_at "wp";simp only[Tr.nb]at h;exact⟨S, .refl,h⟩
 |d+1, .nd s ts,r,S,Q,E,hd,hr,hw,h=>by
  simp only[Tr.depth]at hd;simp only[Tr.weight]at hw;have hk:=zcR ts;rw[zaB];simp only[enc];walk_at "wp";rw[zaw];refine zaQ (λσ=>∃x,σ=[x]) enc (λt=> .int (t.nb:Int)) trivial ts [] _ ⟨none,rfl⟩ (by simp;omega) (λx hx σ R hI hR=>?_) ?_
  ·obtain⟨y,rfl⟩:=hI;have hdx:=zbA hx;have hwx:=zdf hx;have:=zaS x;obtain⟨r,rfl⟩:∃r',r=r'+1:=⟨r - 1,by omega⟩
   simp only[zds];walk_at "wp";exact zgH d (t:=x) (r:=r) (by omega) (by omega) (by omega) (hR _ _ ⟨_,rfl⟩ .refl)
  ·rw[a8,zuF];dsimp only;rw[zqs];simp only[Tr.nb]at h;exact⟨S, .refl,h⟩
theorem zmB{w:W}{ws:List W}:zeu (w::ws) none (ae 1)=[w]:=by
 rw[show(1:Int)=((1:Nat):Int) from rfl,ziW];rfl
theorem zfP{us:List Tr}{a:Addr}:∀(d:Nat) {t:Tr}{r:Nat}{S:Sto}{Q:WK}{E:Str→Sto→Prop},t.depth≤d→d≤r+1→S a=ae (.lst (encs us))→t.fits us.length→t.weight≤90000→Q (enc (t.fill us)) S→zbd (r+1) [enc t, .ref a] S Q E
 |0,t,r,S,Q,E,hd,hr,ha,hf,hw,h=>by have:=zaS t;omega
 |d+1, .bl n,r,S,Q,E,hd,hr,ha,hf,hw,h=>by
  simp only[Tr.fits]at hf;simp only[Tr.fill]at h;rw[zbd];simp only[enc];walk_at "wp";have e:atI (encs us) n=ae (enc (us.getD n.toNat (.bl n))):=by
   have q:=zbU (xs:=encs us) (n:=n.toNat);rw[cI hf.1]at q;rw[q,zaw,bq,bo,a9 (by omega)];rfl
  rw[zaj ha,e];exact⟨S, .refl,h⟩
 |d+1, .nd s ts,r,S,Q,E,hd,hr,ha,hf,hw,h=>by
  simp only[Tr.fits]at hf;simp only[Tr.fill]at h;simp only[Tr.depth]at hd;simp only[Tr.weight]at hw;have hk:=zcR ts;rw[zbd];simp only[enc]at h⊢;walk_at "wp";rw[zmB];rw[zaw];refine zaQ (λσ=>∃x,σ=[x,ae (.ref a)]) enc (λt=>enc (t.fill us)) trivial ts [] _ ⟨none,rfl⟩ (by simp;omega) (λx hx σ R hI hR=>?_) ?_
  ·obtain⟨y,rfl⟩:=hI;have hdx:=zbA hx;have hwx:=zdf hx;have:=zaS x;obtain⟨r,rfl⟩:∃r',r=r'+1:=⟨r - 1,by omega⟩
   simp only[zdZ];walk_at "wp";exact zfP d (t:=x) (r:=r) (by omega) (by omega) ha (zft hf hx) (by omega) (hR _ _ ⟨_,rfl⟩ .refl)
  ·rw[a8];walk_at "wp";refine⟨zal (by simp;omega),S, .refl,?_⟩;have e:encs (fills us ts)=ts.map λt=>enc (t.fill us):=by rw[zaw,zhl,bn];rfl
   rw[e]at h;exact h
inductive Item (ws:List Str) (m:Nat):Tr→Prop
 |bl {n:Int}:0≤n→n<m→Item ws m (.bl n)
 |nd {s:Str}:s∈ws→Item ws m (.nd s [])
inductive RightT (ws:List Str) (m:Nat):Tr→Prop
 |one {t:Tr}:Item ws m t→RightT ws m t
 |un {s:Str}{t:Tr}:s∈ws→Item ws m t→RightT ws m (.nd s [t])
 |two {s:Str}{t u:Tr}:s∈ws→0<m→Item ws m t→Item ws m u→RightT ws m (.nd s [t,u])
 |deep {s z:Str}{t u:Tr}:s∈ws→z∈ws→0<m→Item ws m t→Item ws m u→RightT ws m (.nd s [.nd z [t],u])
noncomputable def leftsL (n:Nat) (h c d:Str):List Tr:=
 match n with
 |0=>[.nd h [.bl 0]]
 |1=>[.nd h [.bl 0, .bl 1]]
 |2=>[.nd h [.nd c []], .nd h [.nd d [.bl 0]]]
 |3=>[.nd h [.nd c [], .bl 0], .nd h [.nd d [.bl 0], .bl 1]]
 |4=>[.nd h [.nd d [.nd d [.bl 0]], .bl 1, .bl 2], .nd h [.nd d [.nd c []], .bl 0, .bl 1]]
 |_=>[.nd h []]
section
variable {w0 w1 w2 w3 w4 w5:Str}{r:Nat}{S:Sto}{Q:WK}{E:Str→Sto→Prop}{a:Addr}
noncomputable abbrev six (w0 w1 w2 w3 w4 w5:Str):List W:=[.str w0, .str w1, .str w2, .str w3, .str w4, .str w5]
theorem zAT:atI (six w0 w1 w2 w3 w4 w5) 0=ae (.str w0):=rfl
theorem zAh:atI (six w0 w1 w2 w3 w4 w5) 1=ae (.str w1):=rfl
theorem six2:atI (six w0 w1 w2 w3 w4 w5) 2=ae (.str w2):=rfl
theorem zyF:atI (six w0 w1 w2 w3 w4 w5) 3=ae (.str w3):=rfl
theorem six4:atI (six w0 w1 w2 w3 w4 w5) 4=ae (.str w4):=rfl
theorem zAA:atI (six w0 w1 w2 w3 w4 w5) 5=ae (.str w5):=rfl
theorem zpQ{draw:Int}{m:Nat}(ha:S a=ae (.lst (six w0 w1 w2 w3 w4 w5))) (h:∀t,Item [w0,w1,w2,w3,w4,w5] m t→Q (enc t) S):zcG (r+1) [.int draw, .int m, .ref a] S Q E:=by
 rw[zcG];walk_at "wp";have fin:∀w:Str,w∈ [w0,w1,w2,w3,w4,w5]→ ∃S'',Sub S'' S∧Q (.tup [.str w]) S'':=λw hw=>⟨S, .refl,by
  have:=h _ (.nd hw);simpa only[enc,encs]using this⟩
 have pick:∃x:Str,x∈ [w0,w1,w2,w3,w4,w5]∧ ∃i:Int,atI [W.int 2,W.int 5] (draw / 4 % 2)=ae (.int i)∧atI (six w0 w1 w2 w3 w4 w5) i=ae (.str x):=by
  rcases znW (draw / 4) with e |e
  ·exact⟨w2,by simp,2,by rw[e];rfl,rfl⟩
  ·exact⟨w5,by simp,5,by rw[e];rfl,rfl⟩
 obtain⟨x,hx,i,e1,e2⟩:=pick;simp only[e1];walk_at "wp";simp only[zaj ha,e2];have tail:2≤sizeLine∧ziu draw 4∧(0:Int)<2∧1≤sizeLine∧ ∃S'',Sub S'' S∧Q (.tup [.str x]) S'':=⟨zal (by decide),⟨by decide,by decide⟩,by decide,zal (by decide),fin x hx⟩
 split
 ·rename_i hm;refine⟨by decide,?_⟩;split
  ·refine⟨⟨by decide,by decide⟩,hm,S, .refl,?_⟩
   have:=h (.bl (draw / 4 % (m:Int))) (.bl (cO _ (by omega)) (cV _ hm));simpa only[enc]using this
  ·exact tail
 ·exact tail
theorem zrF{draw:Int}{m:Nat}(ha:S a=ae (.lst (six w0 w1 w2 w3 w4 w5))) (h:∀t,RightT [w0,w1,w2,w3,w4,w5] m t→Q (enc t) S):zcL (r+2) [.int draw, .int m, .ref a] S Q E:=by
 rw[zcL,zgM];refine⟨rfl,zmo λT hT=>?_⟩;walk_at "wp";refine⟨⟨by decide,by decide⟩,zpQ ha λt ht=>?_⟩
 subst hT;refine zmo λT hT=>?_;walk_at "wp";refine⟨⟨by decide,by decide⟩,zpQ ha λu hu=>?_⟩
 subst hT;refine zmo λT hT=>?_;walk_at "wp";refine⟨by decide,?_⟩;subst hT;have q1:=h _ (.one ht);have q2:=λ(s:Str) (hs:s∈ [w0,w1,w2,w3,w4,w5])=>h _ (.un hs ht);have q3:=λ(s:Str) (hs:s∈ [w0,w1,w2,w3,w4,w5]) (h0:0<m)=>h _ (.two hs h0 ht hu);have q4:=λ(s:Str) (hs:s∈ [w0,w1,w2,w3,w4,w5]) (h0:0<m)=>h _ (.two hs h0 ht ht);have q5:=λ(s z:Str) (hs:s∈ [w0,w1,w2,w3,w4,w5]) (hz:z∈ [w0,w1,w2,w3,w4,w5]) (h0:0<m)=>h _ (.deep hs hz h0 ht hu);simp only[enc,encs]at q2 q3 q4 q5;have l2:2≤sizeLine:=zal (by decide);have l3:3≤sizeLine:=zal (by decide);refine zmo λT hT=>?_;walk_at "wp";refine zoi (λ_=>⟨S, .refl,q1⟩) λ_=>?_;subst hT;refine zmo λT hT=>?_;walk_at "wp";simp only[zaj ha,zyF];refine zoi (λ_=>⟨l2,S, .refl,q2 _ (by simp)⟩) λ_=>zoi (λ_=>⟨l2,S, .refl,q2 _ (by simp)⟩) λhm=>?_;subst hT;have h0:0<m:=by
  rcases eQ m with z |z
  ·rw[z]at hm;exact absurd rfl hm
  ·exact z
 refine zmo λT hT=>?_;walk_at "wp";simp only[zaj ha,six4];refine zoi (λ_=>⟨l3,S, .refl,q3 _ (by simp) h0⟩) λ_=>?_;subst hT;refine zmo λT hT=>?_;walk_at "wp";simp only[zaj ha,six4];refine zoi (λ_=>⟨l3,S, .refl,q4 _ (by simp) h0⟩) λ_=>?_;subst hT;refine zmo λT hT=>?_;walk_at "wp";simp only[zaj ha,zyF,six4];refine zoi (λ_=>⟨l2,l3,S, .refl,q5 _ _ (by simp) (by simp) h0⟩) λ_=>?_;subst hT;refine zmo λT hT=>?_;walk_at "wp";simp only[zaj ha,zAT];refine zoi (λ_=>⟨l2,S, .refl,q2 _ (by simp)⟩) λ_=>?_;subst hT;walk_at "wp";simp only[zaj ha,zAh];exact⟨l3,S, .refl,q3 _ (by simp) h0⟩
theorem zrT{n:Int}{h c d:Str}(H:∀(p:Addr) (k:Nat),S p=none→Q (.ref p) (put S p (.lst (encs (leftsL k h c d))))):zcJ (r+1) [.int n, .str h, .str c, .str d] S Q E:=by
 rw[zcJ,zgM];refine⟨rfl,?_⟩;have l1:1≤sizeLine:=zal (by decide);have l2:2≤sizeLine:=zal (by decide);have l3:3≤sizeLine:=zal (by decide);have l4:4≤sizeLine:=zal (by decide);refine zmo λT hT=>?_;walk_at "wp";refine zoi (λ_=>⟨l2,l1,λp hp=>⟨_, .refl,by simpa only[leftsL,enc,encs]using H p 0 hp⟩⟩) λ_=>?_
 subst hT;refine zmo λT hT=>?_;walk_at "wp";refine zoi (λ_=>⟨l3,l1,λp hp=>⟨_, .refl,by simpa only[leftsL,enc,encs]using H p 1 hp⟩⟩) λ_=>?_
 subst hT;refine zmo λT hT=>?_;walk_at "wp";refine zoi (λ_=>⟨l1,l2,l2,l2,l2,λp hp=>⟨_, .refl,by simpa only[leftsL,enc,encs]using H p 2 hp⟩⟩) λ_=>?_
 subst hT;refine zmo λT hT=>?_;walk_at "wp";refine zoi (λ_=>⟨l1,l3,l2,l3,l2,λp hp=>⟨_, .refl,by simpa only[leftsL,enc,encs]using H p 3 hp⟩⟩) λ_=>?_
 subst hT;refine zmo λT hT=>?_;walk_at "wp";refine zoi (λ_=>⟨l2,l2,l4,l1,l2,l4,l2,λp hp=>⟨_, .refl,by simpa only[leftsL,enc,encs]using H p 4 hp⟩⟩) λ_=>?_
 subst hT;walk_at "wp";exact⟨l1,l1,λp hp=>⟨_, .refl,by simpa only[leftsL,enc,encs]using H p 5 hp⟩⟩
end
section
variable {w0 w1 w2 w3 w4 w5:Str}{tt:List Str}{ns:List Int}{aw at' ab al:Addr}{r:Nat}{E:WX}{D:WEnds}{k j:Int}
theorem zmL (h6:tt.length=6) (k0:0≤k) (j0:0≤j):∀(ls:List Tr) {i:Nat}{C:List Tn}{S:Sto}{G:Sto→Prop}{x7 x8 x9:Option W},(∀L∈ls,L.depth≤4∧L.weight≤7)→C.length+ls.length≤6→S ab=ae (.lst (C.map zba))→S aw=ae (.lst (six w0 w1 w2 w3 w4 w5))→S at'=ae (.lst (tt.map W.str))→ab≠aw→ab≠at'→
  (∀o,G (put S ab o))→
  (∀(C':List Tn) (x7 x8 x9:Option W),C'.map (λt=>t.2.1)=ls→(C.map (λt=>t.1)=tt.take C.length→(C++C').map (λt=>t.1)=tt.take (C++C').length)→(∀t∈C',RightT [w0,w1,w2,w3,w4,w5] t.2.1.nb t.2.2)→D.nx [ae (.scr ns),ae (.int k),ae (.ref aw),ae (.ref at'),ae (.ref ab),ae (.int j),ae (.ref al),x7,x8,x9] (put S ab (.lst ((C++C').map zba))))→
  forL (wGT (zaq (wGN 7) (zaq (wGN 8) zbI))) (zdL (r+6) zaR) E D G (zgP i (encs ls)) [ae (.scr ns),ae (.int k),ae (.ref aw),ae (.ref at'),ae (.ref ab),ae (.int j),ae (.ref al),x7,x8,x9] S
 | [],i,C,S,G,x7,x8,x9,hL,hl,hb,hw,ht,n1,n2,hG,h=>by
  simp only[encs,zgP,forL];have:=h [] x7 x8 x9 rfl (λz=>by simpa using z) (λ_ h=>nomatch h)
  rw[bJ,zdU hb]at this;exact this
 |L::ls,i,C,S,G,x7,x8,x9,hL,hl,hb,hw,ht,n1,n2,hG,h=>by
  have hLd:=hL L a0;simp only[aR]at hl;simp only[encs,zgP];refine zbj λN hN=>?_;simp only[zdL];walk_at "wp";refine⟨.inl ⟨by decide,by decide⟩,zfS (by omega) λdraw=>zgH 4 hLd.1 (by omega) (by omega) (zrF hw λR hR=>?_)⟩
  try walk_at "wp"
  obtain⟨ti,eti,_⟩:=zuB (ss:=tt) (i:=(C.length:Int)) (by omega) (by omega);simp only[zaj hb,zaj ht,aq,eti,true_and];refine⟨zal (by decide),zbO (by omega),?_⟩;refine hN _ _ (put S ab (.lst ((C++[(ti,L,R)]).map zba))) (by rw[bE];exact .refl) (hG _) ?_;refine zmL h6 k0 j0 ls (C:=C++[(ti,L,R)]) (λM hM=>hL M (aK _ hM)) (by simp;omega) zag (by rw[zaA (bj n1)];exact hw) (by rw[zaA (bj n2)];exact ht) n1 n2 (λo=>by rw[zbb];exact hG o) λC' x7 x8 x9 e1 e2 e3=>?_
  rw[zbb];have:=h ((ti,L,R)::C') x7 x8 x9 (by rw[aA,e1]) (λz=>?_) (λt ht'=>?_)
  ·simpa using this
  ·have e:C++[(ti,L,R)]++C'=C++(ti,L,R)::C':=by simp
   rw[e]at e2;refine e2 ?_;rw[bE,z,aS,bK,j'];congr 1;have e4:(tt.map W.str)[C.length]? =ae (.str ti):=by rw[←zbU];exact eti
   rw[bq]at e4;cases q:tt[C.length]? with
   |none=>rw[q]at e4;cases e4
   |some y=>rw[q]at e4;cases e4;rfl
  ·rcases az.mp ht' with rfl |z
   ·exact hR
   ·exact e3 t z
theorem zlm (n:Nat) (h c d:Str):∀L∈leftsL n h c d,L.depth≤4∧L.weight≤7:=by
 intro L hL;unfold leftsL at hL;split at hL<;>simp only[az,bx,or_false]at hL
 all_goals first
  | (subst hL;simp [Tr.depth,dts,Tr.weight,wts])
  | (rcases hL with rfl |rfl<;>simp [Tr.depth,dts,Tr.weight,wts])
theorem zfl (n:Nat) (h c d:Str):1≤(leftsL n h c d).length∧(leftsL n h c d).length≤2:=by
 unfold leftsL;split<;>simp
noncomputable def hdOf (w0 w1:Str) (j:Nat):Str:=if j=0 then w0 else w1
theorem zup{S:Sto}{Q:WK}{E:Str→Sto→Prop}(h6:tt.length=6) (k0:0≤k) (hw:S aw=ae (.lst (six w0 w1 w2 w3 w4 w5))) (ht:S at'=ae (.lst (tt.map W.str)))
  (h:∀(p:Addr) (B:List Tn) (n m:Nat),S p=none→B.map (λt=>t.2.1)=leftsL n w0 w2 w3++leftsL m w1 w2 w3→B.map (λt=>t.1)=tt.take B.length→(∀t∈B,RightT [w0,w1,w2,w3,w4,w5] t.2.1.nb t.2.2)→Q (.ref p) (put S p (.lst (B.map zba)))):zcA (r+7) [.scr ns, .int k, .ref aw, .ref at'] S Q E:=by
 rw[show r+7=r+6+1 from rfl,zcA];walk_at "wp";refine⟨aY _,λab hb=>⟨⟨by decide,by decide⟩,?_⟩⟩
 refine zpJ (λi σ S'=>∃(B:List Tn) (f:Nat→Nat) (x5 x6 x7 x8 x9:Option W),B.map (λt=>t.2.1)=(aU i).flatMap (λj=>leftsL (f j) (hdOf w0 w1 j) w2 w3)∧B.map (λt=>t.1)=tt.take B.length∧(∀t∈B,RightT [w0,w1,w2,w3,w4,w5] t.2.1.nb t.2.2)∧S'=put S ab (.lst (B.map zba))∧
  σ=[ae (.scr ns),ae (.int k),ae (.ref aw),ae (.ref at'),ae (.ref ab),x5,x6,x7,x8,x9]) 2 ?_ ?_ ⟨[],λ_=>0,none,none,none,none,none,rfl,rfl,(λ_ h=>nomatch h),rfl,rfl⟩
 ·rintro j hj σ S' N ⟨B,f,x5,x6,x7,x8,x9,e1,e2,e3,rfl,rfl⟩ hN;have fw:put S ab (Ob.lst (B.map zba)) aw=ae (.lst (six w0 w1 w2 w3 w4 w5)):=keep hw hb;have ft:put S ab (Ob.lst (B.map zba)) at'=ae (.lst (tt.map W.str)):=keep ht hb;have fb:put S ab (Ob.lst (B.map zba)) ab=ae (.lst (B.map zba)):=zag;have n1:ab≠aw:=λz=>by rw[z,hw]at hb;cases hb
  have n2:ab≠at':=λz=>by rw[z,ht]at hb;cases hb
  have eh:atI (six w0 w1 w2 w3 w4 w5) (j:Int)=ae (.str (hdOf w0 w1 j)):=by
   rcases(show j=0∨j=1 by omega) with rfl |rfl<;>rfl
  simp only[zfz];walk_at "wp";refine zfS (by omega) λdraw=>?_;walk_at "wp";simp only[zaj fw,eh,six2,zyF];refine⟨by decide,zrT λal n hal=>?_⟩;have hl:=zfl n (hdOf w0 w1 j) w2 w3;have hB:B.length≤4:=by
   have:=congrArg dA e1;rw[aq]at this;rcases(show j=0∨j=1 by omega) with rfl |rfl
   ·simp at this;rw[this];simp
   ·simp at this;have:=zfl (f 0) (hdOf w0 w1 0) w2 w3;omega
  have nal:al≠ab:=λz=>by rw[z,fb]at hal;cases hal
  try walk_at "wp"
  refine zmL h6 k0 (by omega) (leftsL n (hdOf w0 w1 j) w2 w3) (zlm _ _ _ _) (by omega) (keep fb hal) (keep fw hal) (keep ft hal) n1 n2 (λo=>?_) λC' x7 x8 x9 g1 g2 g3=>?_
  ·rw[zaA nal,zag]
  ·refine hN _ _ (put S ab (.lst ((B++C').map zba))) ?_ ⟨B++C',λi=>if i=j then n else f i,_,_,_,_,_,?_,g2 e2,λt ht'=>?_,rfl,rfl⟩
   ·rw[zmH nal];exact .put .refl (by rw[zaA nal];exact(zdS hal).1)
   ·rw[bE,e1,g1,hU,kl];congr 1
    ·rw[ki,ki];congr 1;refine cF λi hi=>?_;have:=eS.mp hi;dsimp only;rw[if_neg (by omega)]
    ·simp
   ·rcases bu.mp ht' with z |z
    ·exact e3 t z
    ·exact g3 t z
 ·rintro σ S' ⟨B,f,x5,x6,x7,x8,x9,e1,e2,e3,rfl,rfl⟩;walk_at "wp";refine⟨_, .refl,h ab B (f 0) (f 1) hb ?_ e2 e3⟩;rw[e1];simp [hU,hdOf]
end
noncomputable def signB (x:Str):Bool:=decide (1≤x.cps.toList.length)&&(decide (x.cps.toList.length≤8)&&small x.cps.toList)
theorem zpm (xs:List Nat):small xs=true↔ ∀c∈xs,Low c:=by
 unfold small;rw[cZ];simp only[zto,Low,bR,decide_eq_true_eq]
theorem zfw (x:Str):signB x=true↔zcN x:=by
 unfold signB zcN;rw[bR,bR,decide_eq_true_eq,decide_eq_true_eq,zpm]
theorem zeo{x y:Str}(h:zcN x) (g:zde y):x≠y:=by
 rintro rfl;obtain⟨c,r,e,h1,h2,_⟩:=g;have:=h.2.2 c (by rw[e];exact a0);unfold Low at this;omega
mutual
noncomputable def Tr.hd (P:Str→Prop):Tr→Prop
 | .bl _=>False
 | .nd s ts=>P s∧hds P ts
noncomputable def hds (P:Str→Prop):List Tr→Prop
 | []=>True
 |t::ts=>t.hd P∧hds P ts
end
mutual
noncomputable def Tr.hb (P:Str→Prop):Tr→Prop
 | .bl _=>True
 | .nd s ts=>P s∧hbs P ts
noncomputable def hbs (P:Str→Prop):List Tr→Prop
 | []=>True
 |t::ts=>t.hb P∧hbs P ts
end
theorem hds_iff{P:Str→Prop}:∀{ts:List Tr},hds P ts↔ ∀t∈ts,t.hd P
 | []=>by simp [hds]
 |t::ts=>by simp [hds,hds_iff (ts:=ts)]
mutual
theorem zpU{P P':Str→Prop}(h:∀s,P s→P' s):∀(t:Tr),t.hd P→t.hd P'
 | .bl _,q=>by simp [Tr.hd]at q
 | .nd s ts,q=>by
  simp only[Tr.hd]at q⊢;exact⟨h s q.1,zmm h ts q.2⟩
theorem zmm{P P':Str→Prop}(h:∀s,P s→P' s):∀(ts:List Tr),hds P ts→hds P' ts
 | [],_=>by simp [hds]
 |t::ts,q=>by
  simp only[hds]at q⊢;exact⟨zpU h t q.1,zmm h ts q.2⟩
end
mutual
theorem ziJ{P P':Str→Prop}(h:∀s,P s→P' s):∀(t:Tr),t.hb P→t.hb P'
 | .bl _,q=>by simp [Tr.hb]
 | .nd s ts,q=>by
  simp only[Tr.hb]at q⊢;exact⟨h s q.1,zmq h ts q.2⟩
theorem zmq{P P':Str→Prop}(h:∀s,P s→P' s):∀(ts:List Tr),hbs P ts→hbs P' ts
 | [],_=>by simp [hbs]
 |t::ts,q=>by
  simp only[hbs]at q⊢;exact⟨ziJ h t q.1,zmq h ts q.2⟩
end
mutual
theorem zgV{P:Str→Prop}{us:List Tr}(hu:∀u∈us,u.hd P):∀(t:Tr),t.hb P→t.fits us.length→(t.fill us).hd P
 | .bl n,h,f=>by
  simp only[Tr.fits]at f;simp only[Tr.fill];rw[bo,a9 (show n.toNat<us.length by omega)]
  exact hu _ (gb ..)
 | .nd s ts,h,f=>by
  simp only[Tr.fits]at f;simp only[Tr.hb]at h;simp only[Tr.fill,Tr.hd];exact⟨h.1,zmz hu ts h.2 f⟩
theorem zmz{P:Str→Prop}{us:List Tr}(hu:∀u∈us,u.hd P):∀(ts:List Tr),hbs P ts→fitss us.length ts→hds P (fills us ts)
 | [],h,f=>by simp [fills,hds]
 |t::ts,h,f=>by
  simp only[fitss]at f;simp only[hbs]at h;simp only[fills,hds];exact⟨zgV hu t h.1 f.1,zmz hu ts h.2 f.2⟩
end
structure RightW (ws:List Str) (m:Nat) (t:Tr):Prop where
  dp:t.depth≤4
  fits:t.fits m
  hb:∀{P:Str→Prop},(∀x∈ws,P x)→t.hb P
  wt:t.weight≤7
def zxg (B:List Tn):Prop:=∀t∈B,∀(us:List Tr) (M:Nat),us.length=t.2.1.nb→1≤M→(∀u∈us,u.weight≤M)→(t.2.2.fill us).weight≤2+2*M∧(t.2.1.nb=0→(t.2.2.fill us).weight≤1+M)
structure BookOk (w0 w1 w2 w3 w4 w5:Str) (tt:List Str) (B:List Tn):Prop where
  lf:∃n m:Nat,B.map (λt=>t.2.1)=leftsL n w0 w2 w3++leftsL m w1 w2 w3
  ti:B.map (λt=>t.1)=tt.take B.length
  ri:∀t∈B,RightW [w0,w1,w2,w3,w4,w5] t.2.1.nb t.2.2
structure LeftT (P:Str→Prop) (L:Tr):Prop where
  hb:L.hb P
  fits:L.fits L.nb
  wt:L.weight≤L.nb+3
  dp:L.depth≤4
  nb:L.nb≤3
  nd:∃s ts,L= .nd s ts
  fw:∀us:List Tr,us.length=L.nb→(L.fill us).weight≤3+wts us
  fw0:L.nb=0→(L.fill []).weight≤2
theorem zgJ{P:Str→Prop}{n:Nat}{h c d:Str}(hh:P h) (hc:P c) (hd:P d):∀L∈leftsL n h c d,LeftT P L:=by
 unfold leftsL;intro L hL;split at hL<;>simp only[az,bx,or_false]at hL
 all_goals first
  | (subst hL;exact⟨by simp [Tr.hb,hbs,hh,hc,hd],by simp [Tr.fits,fitss,Tr.nb,nbs],by simp [Tr.weight,wts,Tr.nb,nbs],by simp [Tr.depth,dts],by simp [Tr.nb,nbs],⟨_,_,rfl⟩,λus hu=>by rcases us with _ |⟨u,_ |⟨v,_ |⟨x,_ |⟨y,us⟩⟩⟩⟩<;>simp [Tr.nb,nbs,Tr.fill,fills,Tr.weight,wts]at hu⊢ <;>omega,λh0=>by simp [Tr.nb,nbs,Tr.fill,fills,Tr.weight,wts]at h0⊢⟩)
  | (rcases hL with rfl |rfl<;>exact⟨by simp [Tr.hb,hbs,hh,hc,hd],by simp [Tr.fits,fitss,Tr.nb,nbs],by simp [Tr.weight,wts,Tr.nb,nbs],by simp [Tr.depth,dts],by simp [Tr.nb,nbs],⟨_,_,rfl⟩,λus hu=>by rcases us with _ |⟨u,_ |⟨v,_ |⟨x,_ |⟨y,us⟩⟩⟩⟩<;>simp [Tr.nb,nbs,Tr.fill,fills,Tr.weight,wts]at hu⊢ <;>omega,λh0=>by simp [Tr.nb,nbs,Tr.fill,fills,Tr.weight,wts]at h0⊢⟩)
section
variable {w0 w1 w2 w3 w4 w5:Str}{tt:List Str}{B:List Tn}
theorem BookOk.len (b:BookOk w0 w1 w2 w3 w4 w5 tt B):2≤B.length∧B.length≤4:=by
 obtain⟨n,m,e⟩:=b.lf;have h1:=zfl n w0 w2 w3;have h2:=zfl m w1 w2 w3;have e':=congrArg dA e;rw[aq,aS]at e';omega
theorem BookOk.left (b:BookOk w0 w1 w2 w3 w4 w5 tt B) {P:Str→Prop}(h0:P w0) (h1:P w1) (h2:P w2) (h3:P w3) {t:Tn}(ht:t∈B):LeftT P t.2.1:=by
 obtain⟨n,m,e⟩:=b.lf;have:t.2.1∈leftsL n w0 w2 w3++leftsL m w1 w2 w3:=by rw[←e];exact aI.mpr ⟨t,ht,rfl⟩
 rcases bu.mp this with z |z
 ·exact zgJ h0 h2 h3 _ z
 ·exact zgJ h1 h2 h3 _ z
theorem BookOk.nodup (b:BookOk w0 w1 w2 w3 w4 w5 tt B) (T:Titles tt):(B.map λt=>t.1).Nodup:=by
 rw[b.ti];exact bp.sublist (iL ..) T.nd
theorem BookOk.mem (b:BookOk w0 w1 w2 w3 w4 w5 tt B) {t:Tn}(ht:t∈B):t.1∈tt:=by
 have:t.1∈B.map λt=>t.1:=aI.mpr ⟨t,ht,rfl⟩;rw[b.ti]at this;exact iq this
end
noncomputable def zaY (B:List Tn) (s:Str):Option Tn:=B.find? λt=>t.1 == s
theorem zci:∀{B:List Tn}{t:Tn},(B.map λt=>t.1).Nodup→t∈B→zaY B t.1=ae t
 |u::B,t,hn,ht=>by
  unfold zaY;rw[aA,da]at hn;rw[bG];rcases az.mp ht with rfl |ht
  ·simp
  ·have hne:u.1≠t.1:=λz=>hn.1 (by rw[z];exact aI.mpr ⟨t,ht,rfl⟩);have:(u.1 == t.1)=false:=by simpa using hne
   rw[this];exact zci hn.2 ht
theorem zhg{B:List Tn}{s:Str}(h:∀t∈B,t.1≠s):zaY B s=none:=by
 unfold zaY;rw[List.find?_eq_none];intro t ht;simpa using h t ht
noncomputable def topB (B:List Tn) (s:Str) (n:Nat):Bool:=match zaY B s with
 |none=>signB s
 |some t=>n == t.2.1.nb
mutual
noncomputable def Tr.way (B:List Tn):Tr→Bool
 | .bl _=>false
 | .nd s ts=>topB B s ts.length&&zhX B ts
noncomputable def zhX (B:List Tn):List Tr→Bool
 | []=>true
 |t::ts=>t.way B&&zhX B ts
end
mutual
noncomputable def Tr.quiet:Tr→Bool
 | .bl _=>false
 | .nd s ts=>signB s&&zgO ts
noncomputable def zgO:List Tr→Bool
 | []=>true
 |t::ts=>t.quiet&&zgO ts
end
theorem zjg (B:List Tn):∀ts:List Tr,zhX B ts=ts.all (Tr.way B)
 | []=>by simp [zhX]
 |t::ts=>by simp [zhX,zjg B ts]
mutual
theorem zhU:∀t:Tr,t.hd zcN→t.quiet=true
 | .bl n,h=>by simp [Tr.hd]at h
 | .nd s ts,h=>by
  simp only[Tr.hd]at h;rw[Tr.quiet,(zfw s).mpr h.1,zhd ts h.2];rfl
theorem zhd:∀ts:List Tr,hds zcN ts→zgO ts=true
 | [],h=>by simp [zgO]
 |t::ts,h=>by
  simp only[hds]at h;rw[zgO,zhU t h.1,zhd ts h.2];rfl
end
mutual
theorem ziE{B:List Tn}(hB:∀t∈B,zde t.1) {us:List Tr}(hu:∀u∈us,u.way B=true):∀(t:Tr),t.hb zcN→t.fits us.length→(t.fill us).way B=true
 | .bl n,h,f=>by
  simp only[Tr.fits]at f;simp only[Tr.fill];rw[bo,a9 (show n.toNat<us.length by omega)]
  exact hu _ (gb ..)
 | .nd s ts,h,f=>by
  simp only[Tr.fits]at f;simp only[Tr.hb]at h;simp only[Tr.fill,Tr.way];rw[zkG hB hu ts h.2 f,topB,zhg λt ht=>(zeo h.1 (hB t ht)).symm,(zfw s).mpr h.1];rfl
theorem zkG{B:List Tn}(hB:∀t∈B,zde t.1) {us:List Tr}(hu:∀u∈us,u.way B=true):∀(ts:List Tr),hbs zcN ts→fitss us.length ts→zhX B (fills us ts)=true
 | [],h,f=>by simp [fills,zhX]
 |t::ts,h,f=>by
  simp only[fitss]at f;simp only[hbs]at h;rw[fills,zhX,ziE hB hu t h.1 f.1,zkG hB hu ts h.2 f.2];rfl
end
inductive Pl where
  |nd (k bits:Int) (head:Str) (ps:List Pl)
mutual
noncomputable def Pl.wt:Pl→Nat
 | .nd _ _ _ ps=>1+pwts ps
noncomputable def pwts:List Pl→Nat
 | []=>0
 |p::ps=>p.wt+pwts ps
end
mutual
noncomputable def Pl.dp:Pl→Nat
 | .nd _ _ _ ps=>1+zob ps
noncomputable def zob:List Pl→Nat
 | []=>0
 |p::ps=>max p.dp (zob ps)
end
mutual
noncomputable def Pl.nt:Pl→Nat
 | .nd k _ _ ps=>(if k<0 then 0 else 1)+pnts ps
noncomputable def pnts:List Pl→Nat
 | []=>0
 |p::ps=>p.nt+pnts ps
end
inductive PlOk (ws:List Str) (B:List Tn):Pl→Prop
 |sign {b:Int}{h:Str}{ps:List Pl}:h∈ws→(∀p∈ps,PlOk ws B p)→PlOk ws B (.nd (-1) b h ps)
 |turn {k:Nat}{b:Int}{h:Str}{ps:List Pl}{t:Tn}:B[k]? =ae t→ps.length=t.2.1.nb→0≤b→b<8→(∀p∈ps,PlOk ws B p)→PlOk ws B (.nd k b h ps)
mutual
noncomputable def Pl.ev (B:List Tn) (c:Int→Nat):Pl→Tr
 | .nd k b h ps=>if k<0 then .nd h (evs B c ps) else match c b with
  |0=>(B.getD k.toNat (h, .bl 0, .bl 0)).2.1.fill (evs B c ps)
  |1=> .nd (B.getD k.toNat (h, .bl 0, .bl 0)).1 (evs B c ps)
  |_=>(B.getD k.toNat (h, .bl 0, .bl 0)).2.2.fill (evs B c ps)
noncomputable def evs (B:List Tn) (c:Int→Nat):List Pl→List Tr
 | []=>[]
 |p::ps=>p.ev B c::evs B c ps
end
theorem zlk (B:List Tn) (c:Int→Nat):∀ps:List Pl,evs B c ps=ps.map (Pl.ev B c)
 | []=>by simp [evs]
 |p::ps=>by simp [evs,zlk B c ps]
theorem zcB:∀ps qs:List Pl,pwts (ps++qs)=pwts ps+pwts qs
 | [],qs=>by simp [pwts]
 |p::ps,qs=>by simp [pwts,zcB ps qs];omega
theorem zbW:∀ps qs:List Pl,pnts (ps++qs)=pnts ps+pnts qs
 | [],qs=>by simp [pnts]
 |p::ps,qs=>by simp [pnts,zbW ps qs];omega
theorem zgL{p:Pl}:∀{ps:List Pl},p∈ps→p.dp≤zob ps
 |q::ps,h=>by
  rcases az.mp h with rfl |h
  ·simp [zob];omega
  ·have:=zgL h;simp [zob];omega
mutual
theorem zmx:∀p:Pl,p.dp≤p.wt
 | .nd k b h ps=>by have:=zpA ps;simp [Pl.dp,Pl.wt];omega
theorem zpA:∀ps:List Pl,zob ps≤pwts ps
 | []=>by simp [zob]
 |p::ps=>by have:=zmx p;have:=zpA ps;simp [zob,pwts];omega
end
theorem zuz (p:Pl):1≤p.dp:=by cases p;simp [Pl.dp]
theorem ztQ (p:Pl):1≤p.wt:=by cases p;simp [Pl.wt]
theorem zaZ{B:List Tn}{c:Int→Nat}{b:Int}{h:Str}{ps:List Pl}:(Pl.nd (-1) b h ps).ev B c= .nd h (ps.map (Pl.ev B c)):=by
 rw[Pl.ev,if_pos (by decide),zlk]
noncomputable def evT (t:Tn) (n:Nat) (us:List Tr):Tr:=match n with
 |0=>t.2.1.fill us
 |1=> .nd t.1 us
 |_=>t.2.2.fill us
theorem zaN{B:List Tn}{c:Int→Nat}{b:Int}{h:Str}{ps:List Pl}{k:Nat}{t:Tn}(e:B[k]? =ae t):(Pl.nd k b h ps).ev B c=evT t (c b) (ps.map (Pl.ev B c)):=by
 rw[Pl.ev,if_neg (by omega),zlk,bV,bo,e];rfl
section
variable {ws:List Str}{m:Nat}{t:Tr}
theorem zcW (h:Item ws m t):t.depth=1:=by
 cases h<;>simp [Tr.depth,dts]
theorem zlB (h:RightT ws m t):t.depth≤3:=by
 cases h with
 |one h=>rw[zcW h];decide
 |un hs h=>simp [Tr.depth,dts,zcW h]
 |two hs h0 h h'=>simp [Tr.depth,dts,zcW h,zcW h']
 |deep hs hz h0 h h'=>simp [Tr.depth,dts,zcW h,zcW h']
theorem zdE (h:Item ws m t):t.fits m:=by
 cases h with
 |bl h0 h1=>exact⟨h0,h1⟩
 |nd hs=>simp [Tr.fits,fitss]
theorem znu (h:RightT ws m t):t.fits m:=by
 cases h with
 |one h=>exact zdE h
 |un hs h=>simp [Tr.fits,fitss,zdE h]
 |two hs h0 h h'=>simp [Tr.fits,fitss,zdE h,zdE h']
 |deep hs hz h0 h h'=>simp [Tr.fits,fitss,zdE h,zdE h']
theorem zgb{P:Str→Prop}(hP:∀x∈ws,P x) (h:Item ws m t):t.hb P:=by
 cases h with
 |bl h0 h1=>simp [Tr.hb]
 |nd hs=>simp [Tr.hb,hbs,hP _ hs]
theorem zrQ{P:Str→Prop}(hP:∀x∈ws,P x) (h:RightT ws m t):t.hb P:=by
 cases h with
 |one h=>exact zgb hP h
 |un hs h=>simp [Tr.hb,hbs,zgb hP h,hP _ hs]
 |two hs h0 h h'=>simp [Tr.hb,hbs,zgb hP h,zgb hP h',hP _ hs]
 |deep hs hz h0 h h'=>simp [Tr.hb,hbs,zgb hP h,zgb hP h',hP _ hs,hP _ hz]
theorem zcC (h:Item ws m t):t.weight=1:=by
 cases h<;>simp [Tr.weight,wts]
theorem zjE (h:RightT ws m t):t.weight≤4:=by
 cases h with
 |one h=>rw[zcC h];decide
 |un hs h=>simp [Tr.weight,wts,zcC h]
 |two hs h0 h h'=>simp [Tr.weight,wts,zcC h,zcC h']
 |deep hs hz h0 h h'=>simp [Tr.weight,wts,zcC h,zcC h']
theorem zdB (h:Item ws m t) {us:List Tr}{M:Nat}(hl:us.length=m) (hM:1≤M) (hu:∀u∈us,u.weight≤M):(t.fill us).weight≤M:=by
 cases h with
 | @bl n h0 h1=>
  simp only[Tr.fill];rw[bo,a9 (show n.toNat<us.length by omega)]
  exact hu _ (gb ..)
 |nd hs=>simp [Tr.fill,fills,Tr.weight,wts];omega
theorem zny (h:RightT ws m t) {us:List Tr}{M:Nat}(hl:us.length=m) (hM:1≤M) (hu:∀u∈us,u.weight≤M):(t.fill us).weight≤2+2*M∧(m=0→(t.fill us).weight≤1+M):=by
 cases h with
 |one h=>
  have:=zdB h hl hM hu;omega
 |un hs h=>
  have:=zdB h hl hM hu;simp only[Tr.fill,fills,Tr.weight,wts];omega
 |two hs h0 h h'=>
  have:=zdB h hl hM hu;have:=zdB h' hl hM hu;simp only[Tr.fill,fills,Tr.weight,wts];omega
 |deep hs hz h0 h h'=>
  have:=zdB h hl hM hu;have:=zdB h' hl hM hu;simp only[Tr.fill,fills,Tr.weight,wts];omega
end
theorem RightT.w{ws:List Str}{m:Nat}{t:Tr}(h:RightT ws m t):RightW ws m t:=⟨Nat.le_succ_of_le (zlB h),znu h,λhP=>zrQ hP h,aW (zjE h) (by decide)⟩
theorem zvb{ws:List Str}{B:List Tn}(h:∀t∈B,RightT ws t.2.1.nb t.2.2):zxg B:=λt ht us M hl hM hu=>zny (h t ht) hl hM hu
structure BkOk (ws hs:List Str) (B:List Tn):Prop where
  ti:∀t∈B,zde t.1
  nd:(B.map λt=>t.1).Nodup
  sg:∀x∈ws,zcN x
  sb:∀x∈hs,x∈ws
  lf:∀t∈B,LeftT zcN t.2.1
  ri:∀t∈B,RightW ws t.2.1.nb t.2.2
theorem BookOk.bk{w0 w1 w2 w3 w4 w5:Str}{tt:List Str}{B:List Tn}(b:BookOk w0 w1 w2 w3 w4 w5 tt B) (T:Titles tt) (G:Signs w0 w1 w2 w3 w4 w5):BkOk [w0,w1,w2,w3,w4,w5] [w2,w3,w4,w5] B:=
 ⟨λt ht=>T.ok _ (b.mem ht),b.nodup T,G.ok,λx hx=>aK _ (aK _ hx),λt ht=>b.left (G.ok _ (by simp)) (G.ok _ (by simp)) (G.ok _ (by simp)) (G.ok _ (by simp)) ht,b.ri⟩
section
variable {ws hs:List Str}{B:List Tn}{c:Int→Nat}
theorem ztn (b:BkOk ws hs B) {p:Pl}(h:PlOk hs B p):(p.ev B c).way B=true:=by
 induction h with
 | @sign b' h ps hh hp ih=>
  rw[zaZ,Tr.way,topB,zhg λt ht=>(zeo (b.sg h (b.sb h hh)) (b.ti t ht)).symm,zjg,(zfw h).mpr (b.sg h (b.sb h hh))];simp only[List.all_map,kf,cZ];exact λp hp=>ih p hp
 | @turn k b' h ps t e hl b0 b1 hp ih=>
  have ht:t∈B:=aX e;have hu:∀u∈ps.map (Pl.ev B c),u.way B=true:=λu hu=>by
   obtain⟨p,hp,rfl⟩:=aI.mp hu;exact ih p hp
  rw[zaN e];unfold evT;split
  ·exact ziE b.ti hu _ (b.lf t ht).hb (by rw[aq,hl];exact(b.lf t ht).fits)
  ·rw[Tr.way,topB,zci b.nd ht,zjg];simp only[aq,hl,beq_self_eq_true,kf,cZ];exact hu
  ·exact ziE b.ti hu _ ((b.ri t ht).hb b.sg) (by rw[aq,hl];exact(b.ri t ht).fits)
theorem zza (b:BkOk ws hs B) {P:Str→Prop}(hP:∀s,zcN s→P s) (hc:(∃b,0≤b∧b<8∧c b=1)→ ∀t∈B,P t.1) {p:Pl}(h:PlOk hs B p):(p.ev B c).hd P:=by
 induction h with
 | @sign b' h ps hh hp ih=>
  rw[zaZ,Tr.hd,hds_iff];refine⟨hP _ (b.sg h (b.sb h hh)),λt ht=>?_⟩;obtain⟨p,hp,rfl⟩:=aI.mp ht;exact ih p hp
 | @turn k b' h ps t e hl b0 b1 hp ih=>
  have ht:t∈B:=aX e;have hu:∀u∈ps.map (Pl.ev B c),u.hd P:=λu hu=>by
   obtain⟨p,hp,rfl⟩:=aI.mp hu;exact ih p hp
  rw[zaN e];unfold evT;split
  ·exact zgV hu _ (ziJ hP _ (b.lf t ht).hb) (by rw[aq,hl];exact(b.lf t ht).fits)
  ·rename_i ec;rw[Tr.hd,hds_iff];exact⟨hc ⟨b',b0,b1,ec⟩ t ht,hu⟩
  ·exact zgV hu _ (ziJ hP _ ((b.ri t ht).hb b.sg)) (by rw[aq,hl];exact(b.ri t ht).fits)
theorem ziL{p:Pl}:∀{ps:List Pl},p∈ps→p.nt≤pnts ps
 |q::ps,h=>by
  rcases az.mp h with rfl |h
  ·simp [pnts]
  ·have:=ziL h;simp [pnts];omega
theorem zmQ{p:Pl}:∀{ps:List Pl},p∈ps→p.wt≤pwts ps
 |q::ps,h=>by
  rcases az.mp h with rfl |h
  ·simp [pwts]
  ·have:=zmQ h;simp [pwts];omega
theorem zeM (n:Nat):1≤2 ^ n:=Nat.one_le_two_pow
mutual
theorem zhm:∀t:Tr,(t.fill []).depth=t.depth
 | .bl n=>by simp [Tr.fill]
 | .nd s ts=>by simp [Tr.fill,Tr.depth,zgr ts]
theorem zgr:∀ts:List Tr,dts (fills [] ts)=dts ts
 | []=>by simp [fills]
 |t::ts=>by simp [fills,dts,zhm t,zgr ts]
end
end
mutual
noncomputable def Tr.mk (B:List Tn) (g:Tn→Tr):Tr→Tr
 | .bl n=> .bl n
 | .nd s ts=>match zaY B s with
  |none=> .nd s (mks B g ts)
  |some t=>(g t).fill (mks B g ts)
noncomputable def mks (B:List Tn) (g:Tn→Tr):List Tr→List Tr
 | []=>[]
 |t::ts=>t.mk B g::mks B g ts
end
theorem zha (B:List Tn) (g:Tn→Tr):∀ts:List Tr,mks B g ts=ts.map (Tr.mk B g)
 | []=>by simp [mks]
 |t::ts=>by simp [mks,zha B g ts]
theorem zln{B:List Tn}{g:Tn→Tr}{s:Str}{ts:List Tr}(h:zaY B s=none):(Tr.nd s ts).mk B g= .nd s (ts.map (Tr.mk B g)):=by
 rw[Tr.mk,h,zha]
theorem zlu{B:List Tn}{g:Tn→Tr}{s:Str}{ts:List Tr}{t:Tn}(h:zaY B s=ae t):(Tr.nd s ts).mk B g=(g t).fill (ts.map (Tr.mk B g)):=by
 rw[Tr.mk,h,zha]
theorem zbh{B:List Tn}(hB:∀t∈B,zde t.1) {s:Str}(h:zcN s):zaY B s=none:=zhg λt ht=>(zeo h (hB t ht)).symm
mutual
theorem zmg{B:List Tn}{g:Tn→Tr}(hB:∀t∈B,zde t.1):∀t:Tr,t.hd zcN→t.mk B g=t
 | .bl n,h=>by simp [Tr.hd]at h
 | .nd s ts,h=>by
  simp only[Tr.hd]at h;rw[Tr.mk,zbh hB h.1,zjD hB ts h.2]
theorem zjD{B:List Tn}{g:Tn→Tr}(hB:∀t∈B,zde t.1):∀ts:List Tr,hds zcN ts→mks B g ts=ts
 | [],h=>by simp [mks]
 |t::ts,h=>by
  simp only[hds]at h;rw[mks,zmg hB t h.1,zjD hB ts h.2]
end
mutual
theorem ziX{B:List Tn}{g:Tn→Tr}(hB:∀t∈B,zde t.1) {us:List Tr}:∀t:Tr,t.hb zcN→t.fits us.length→(t.fill us).mk B g=t.fill (us.map (Tr.mk B g))
 | .bl n,h,f=>by
  simp only[Tr.fits]at f;simp only[Tr.fill];rw[bo,bo,bq,a9 (show n.toNat<us.length by omega)]
  rfl
 | .nd s ts,h,f=>by
  simp only[Tr.hb]at h;simp only[Tr.fits]at f;simp only[Tr.fill];rw[Tr.mk,zbh hB h.1];simp only[];rw[zmW hB ts h.2 f]
theorem zmW{B:List Tn}{g:Tn→Tr}(hB:∀t∈B,zde t.1) {us:List Tr}:∀ts:List Tr,hbs zcN ts→fitss us.length ts→mks B g (fills us ts)=fills (us.map (Tr.mk B g)) ts
 | [],h,f=>by simp [fills,mks]
 |t::ts,h,f=>by
  simp only[hbs]at h;simp only[fitss]at f;rw[fills,mks,fills,ziX hB t h.1 f.1,zmW hB ts h.2 f.2]
end
section
variable {ws hs:List Str}{B:List Tn}{c d:Int→Nat}
theorem zvR (b:BkOk ws hs B) {g:Tn→Tr}(hg:∀t∈B,∀x:Int,0≤x→x<8→c x=1→ ∀us,(g t).fill us=evT t (d x) us) (h0:∀x:Int,0≤x→x<8→c x≠1→d x=c x) {p:Pl}(h:PlOk hs B p):(p.ev B c).mk B g=p.ev B d:=by
 induction h with
 | @sign b' h ps hh hp ih=>
  rw[zaZ,zaZ,zln (zbh b.ti (b.sg h (b.sb h hh))),bn];congr 1;exact cF λp hp=>ih p hp
 | @turn k b' h ps t e hl b0 b1 hp ih=>
  have ht:t∈B:=aX e;have em:(ps.map (Pl.ev B c)).map (Tr.mk B g)=ps.map (Pl.ev B d):=by
   rw[bn];exact cF λp hp=>ih p hp
  rw[zaN e,zaN e];by_cases hc:c b'=1
  ·rw[←hg t ht b' b0 b1 hc,hc];show(Tr.nd t.1 _).mk B g=_;rw[zlu (zci b.nd ht),em]
  ·rw[h0 b' b0 b1 hc];unfold evT;split
   ·rw[ziX b.ti _ (b.lf t ht).hb (by rw[aq,hl];exact(b.lf t ht).fits),em]
   ·rename_i z;exact absurd z hc
   ·rw[ziX b.ti _ ((b.ri t ht).hb b.sg) (by rw[aq,hl];exact(b.ri t ht).fits),em]
noncomputable def zgu (c:Int→Nat):Int→Nat:=λx=>if c x=1 then 0 else c x
noncomputable def zbv (c:Int→Nat):Int→Nat:=λx=>if c x=1 then 2 else c x
theorem zeA (b:BkOk ws hs B) {p:Pl}(h:PlOk hs B p):(p.ev B c).mk B (λt=>t.2.1)=p.ev B (zgu c):=
 zvR b (λt ht x _ _ hx us=>by rw[zgu,if_pos hx];rfl) (λx _ _ hx=>by rw[zgu,if_neg hx]) h
theorem zdd (b:BkOk ws hs B) {p:Pl}(h:PlOk hs B p):(p.ev B c).mk B (λt=>t.2.2)=p.ev B (zbv c):=
 zvR b (λt ht x _ _ hx us=>by rw[zbv,if_pos hx];rfl) (λx _ _ hx=>by rw[zbv,if_neg hx]) h
theorem zfZ{p:Pl}(h:PlOk hs B p) (hc:∀x:Int,0≤x→x<8→c x=d x):p.ev B c=p.ev B d:=by
 induction h with
 | @sign b' h ps hh hp ih=>
  rw[zaZ,zaZ];congr 1;exact cF λp hp=>ih p hp
 | @turn k b' h ps t e hl b0 b1 hp ih=>
  rw[zaN e,zaN e,hc b' b0 b1];congr 1;exact cF λp hp=>ih p hp
end
theorem zlT{n:Nat}{h c d:Str}{L:Tr}(hL:L∈leftsL n h c d) {us:List Tr}(hu:us.length=L.nb):L.mt (L.fill us)=ae us:=by
 unfold leftsL at hL;split at hL<;>simp only[az,bx,or_false]at hL
 all_goals first
  | (subst hL;rcases us with _ |⟨u,_ |⟨v,_ |⟨x,_ |⟨y,us⟩⟩⟩⟩<;>simp [Tr.nb,nbs,Tr.fill,fills,Tr.mt,mts]at hu⊢ <;>omega)
  | (rcases hL with rfl |rfl<;>rcases us with _ |⟨u,_ |⟨v,_ |⟨x,_ |⟨y,us⟩⟩⟩⟩<;>simp [Tr.nb,nbs,Tr.fill,fills,Tr.mt,mts]at hu⊢ <;>omega)
def zyd (B:List Tn):Prop:=∀t∈B,∀us:List Tr,us.length=t.2.1.nb→t.2.1.mt (t.2.1.fill us)=ae us
theorem BookOk.mt{w0 w1 w2 w3 w4 w5:Str}{tt:List Str}{B:List Tn}(b:BookOk w0 w1 w2 w3 w4 w5 tt B):zyd B:=λt ht us hu=>by
 obtain⟨n,m,e⟩:=b.lf;have:t.2.1∈leftsL n w0 w2 w3++leftsL m w1 w2 w3:=by rw[←e];exact aI.mpr ⟨t,ht,rfl⟩
 rcases bu.mp this with z |z
 ·exact zlT z hu
 ·exact zlT z hu
mutual
inductive Mv (B:List Tn):Nat→Tr→Tr→Tr→Prop
 |nn {n:Nat}{s z:Str}{ts us cs:List Tr}:zaY B s=none→zaY B z=none→Mvs B n ts us cs→Mv B (n+1) (.nd s ts) (.nd z us) (.nd s cs)
 |ns {n:Nat}{s z:Str}{ts us cs ms:List Tr}{t:Tn}:zaY B s=none→zaY B z=ae t→t.2.1.mt (.nd s ts)=ae ms→cs.length=t.2.1.nb→Mvs B n ms us cs→Mv B (n+1) (.nd s ts) (.nd z us) (t.2.2.fill cs)
 |sn {n:Nat}{s z:Str}{ts us cs ms:List Tr}{t:Tn}:zaY B s=ae t→zaY B z=none→t.2.1.mt (.nd z us)=ae ms→Mvs B n ts ms cs→Mv B (n+1) (.nd s ts) (.nd z us) (.nd s cs)
 |ss {n:Nat}{s z:Str}{ts us cs:List Tr}{t t':Tn}:zaY B s=ae t'→zaY B z=ae t→cs.length=t.2.1.nb→Mvs B n ts us cs→Mv B (n+1) (.nd s ts) (.nd z us) (t.2.2.fill cs)
inductive Mvs (B:List Tn):Nat→List Tr→List Tr→List Tr→Prop
 |nil {n:Nat}:Mvs B n [] [] []
 |cons {n:Nat}{a b c:Tr}{as bs cs:List Tr}:Mv B n a b c→Mvs B n as bs cs→Mvs B n (a::as) (b::bs) (c::cs)
end
mutual
theorem Mv.monoA{B:List Tn}:∀{n:Nat}{a b c:Tr},Mv B n a b c→ ∀m,n≤m→Mv B m a b c
 |_,_,_,_, .nn h1 h2 h3=>λm h=>by
  obtain⟨m,rfl⟩:∃m',m=m'+1:=⟨m - 1,by omega⟩
  exact .nn h1 h2 (Mvs.monoA h3 m (by omega))
 |_,_,_,_, .ns h1 h2 h3 h4 h5=>λm h=>by
  obtain⟨m,rfl⟩:∃m',m=m'+1:=⟨m - 1,by omega⟩
  exact .ns h1 h2 h3 h4 (Mvs.monoA h5 m (by omega))
 |_,_,_,_, .sn h1 h2 h3 h4=>λm h=>by
  obtain⟨m,rfl⟩:∃m',m=m'+1:=⟨m - 1,by omega⟩
  exact .sn h1 h2 h3 (Mvs.monoA h4 m (by omega))
 |_,_,_,_, .ss h1 h2 h3 h4=>λm h=>by
  obtain⟨m,rfl⟩:∃m',m=m'+1:=⟨m - 1,by omega⟩
  exact .ss h1 h2 h3 (Mvs.monoA h4 m (by omega))
theorem Mvs.monoA{B:List Tn}:∀{n:Nat}{a b c:List Tr},Mvs B n a b c→ ∀m,n≤m→Mvs B m a b c
 |_,_,_,_, .nil=>λ_ _=> .nil
 |_,_,_,_, .cons h1 h2=>λm h=> .cons (Mv.monoA h1 m h) (Mvs.monoA h2 m h)
end
theorem Mv.mono{B:List Tn}{n m:Nat}{a b c:Tr}(h:n≤m) (M:Mv B n a b c):Mv B m a b c:=Mv.monoA M m h
theorem Mvs.mono{B:List Tn}{n m:Nat}{a b c:List Tr}(h:n≤m) (M:Mvs B n a b c):Mvs B m a b c:=Mvs.monoA M m h
theorem Mvs.get{B:List Tn}{n:Nat}:∀{as bs cs:List Tr}{i:Nat},Mvs B n as bs cs→i<cs.length→ ∃a b c,as[i]? =ae a∧bs[i]? =ae b∧cs[i]? =ae c∧Mv B n a b c
 |_,_,_,i, .nil,h=>by simp at h
 |_,_,_,0, .cons h1 _,h=>⟨_,_,_,rfl,rfl,rfl,h1⟩
 |_,_,_,i+1, .cons _ h2,h=>by
  obtain⟨a,b,c,e1,e2,e3,q⟩:=Mvs.get (i:=i) h2 (by simpa using h);exact⟨a,b,c,by simpa using e1,by simpa using e2,by simpa using e3,q⟩
theorem Mvs.of{B:List Tn}{n:Nat}{α:Type}{f g h:α→Tr}:∀(xs:List α),(∀x∈xs,Mv B n (f x) (g x) (h x))→Mvs B n (xs.map f) (xs.map g) (xs.map h)
 | [],_=> .nil
 |x::xs,q=> .cons (q x a0) (Mvs.of xs λy hy=>q y (aK _ hy))
mutual
theorem zlr{B:List Tn}(hB:∀t∈B,zde t.1) {n:Nat}{us vs cs:List Tr}(h:Mvs B n us vs cs):∀t:Tr,t.hb zcN→t.fits cs.length→Mv B (n+t.depth) (t.fill us) (t.fill vs) (t.fill cs)
 | .bl k,q,f=>by
  simp only[Tr.fits]at f;obtain⟨a,b,c,e1,e2,e3,m⟩:=h.get (i:=k.toNat) (by omega);simp only[Tr.fill,bo,e1,e2,e3,dt];exact m.mono (by omega)
 | .nd s ts,q,f=>by
  simp only[Tr.hb]at q;simp only[Tr.fits]at f;have:=zmY hB h ts q.2 f;simp only[Tr.fill,Tr.depth];rw[show n+(1+dts ts)=n+dts ts+1 by omega]
  exact .nn (zbh hB q.1) (zbh hB q.1) this
theorem zmY{B:List Tn}(hB:∀t∈B,zde t.1) {n:Nat}{us vs cs:List Tr}(h:Mvs B n us vs cs):∀ts:List Tr,hbs zcN ts→fitss cs.length ts→Mvs B (n+dts ts) (fills us ts) (fills vs ts) (fills cs ts)
 | [],q,f=>by simp only[fills];exact .nil
 |t::ts,q,f=>by
  simp only[hbs]at q;simp only[fitss]at f;have h1:=zlr hB h t q.1 f.1;have h2:=zmY hB h ts q.2 f.2;simp only[fills,dts];exact .cons (h1.mono (by omega)) (h2.mono (by omega))
end
noncomputable def zkS (c d:Int→Nat):Int→Nat:=λx=>if d x=1 then 2 else c x
theorem ziZ{ws hs:List Str}{B:List Tn}{c d:Int→Nat}(b:BkOk ws hs B) (hm:zyd B) (hc:∀x:Int,0≤x→x<8→(c x≤1∧d x≤1)∨(c x=2∧d x=2)) {p:Pl}(h:PlOk hs B p):Mv B (p.dp+3*p.nt) (p.ev B c) (p.ev B d) (p.ev B (zkS c d)):=by
 induction h with
 | @sign b' h ps hh hp ih=>
  rw[zaZ,zaZ,zaZ,Pl.dp,Pl.nt,if_pos (by decide),show 1+zob ps+3*(0+pnts ps)=zob ps+3*pnts ps+1 by omega]
  refine .nn (zbh b.ti (b.sg h (b.sb h hh))) (zbh b.ti (b.sg h (b.sb h hh))) (.of ps λp hp=>(ih p hp).mono ?_);have:=zgL hp;have:=ziL hp;omega
 | @turn k b' h ps t e hl b0 b1 hp ih=>
  have ht:t∈B:=aX e;have en:(Pl.nd k b' h ps).nt=1+pnts ps:=by rw[Pl.nt,if_neg (by omega)]
  have M:Mvs B (zob ps+3*pnts ps) (ps.map (Pl.ev B c)) (ps.map (Pl.ev B d)) (ps.map (Pl.ev B (zkS c d))):= .of ps λp hp=>(ih p hp).mono (by
   have:=zgL hp;have:=ziL hp;omega)
  have lc:(ps.map (Pl.ev B (zkS c d))).length=t.2.1.nb:=by rw[aq,hl]
  have l1:(ps.map (Pl.ev B c)).length=t.2.1.nb:=by rw[aq,hl]
  have l2:(ps.map (Pl.ev B d)).length=t.2.1.nb:=by rw[aq,hl]
  have tt:=zci b.nd ht;have L:=b.lf t ht;have R:=b.ri t ht;have hd:=L.dp;rw[zaN e,zaN e,zaN e,Pl.dp,en,show 1+zob ps+3*(1+pnts ps)=zob ps+3*pnts ps+3+1 by omega]
  have lsign:∀us,∃s ts,t.2.1.fill us= .nd s ts∧zaY B s=none:=λus=>by
   obtain⟨s,ts,el⟩:=L.nd;have hb:=L.hb;rw[el,Tr.hb]at hb;exact⟨s,fills us ts,by rw[el,Tr.fill],zbh b.ti hb.1⟩
  have hp:zkS c d b'=if d b'=1 then 2 else c b':=rfl;rw[hp];rcases hc b' b0 b1 with⟨c1,d1⟩ |⟨c2,d2⟩
  ·by_cases dz:d b'=1
   ·rw[if_pos dz,dz];by_cases cz:c b'=1
    ·rw[cz];exact .ss tt tt lc (M.mono (by omega))
    ·rw[show c b'=0 by omega]
     obtain⟨s,ts,es,hs⟩:=lsign (ps.map (Pl.ev B c));have:=hm t ht _ l1;simp only[evT];rw[es]at this⊢;exact .ns hs tt this lc (M.mono (by omega))
   ·rw[if_neg dz,show d b'=0 by omega]
    by_cases cz:c b'=1
    ·rw[cz];obtain⟨s,ts,es,hs⟩:=lsign (ps.map (Pl.ev B d));have:=hm t ht _ l2;simp only[evT];rw[es]at this⊢;exact .sn tt hs this (M.mono (by omega))
    ·rw[show c b'=0 by omega]
     simp only[evT];exact(zlr b.ti M _ L.hb (by rw[lc];exact L.fits)).mono (by omega)
  ·rw[d2,if_neg (by decide),c2];simp only[evT];have:=R.dp;exact(zlr b.ti M _ (R.hb b.sg) (by rw[lc];exact R.fits)).mono (by omega)
theorem zqp{P:Str→Prop}:∀{ts us:List Tr},hds P ts→hds P us→hds P (ts++us)
 | [],us,_,h=>h
 |t::ts,us,h,g=>by
  simp only[hds,dR]at h⊢;exact⟨h.1,zqp h.2 g⟩
mutual
inductive PlAt (S:Sto):Pl→W→Prop
 |nd {k b:Int}{h:Str}{ps:List Pl}{a:Addr}{vs:List W}:S a=ae (.lst vs)→PlsAt S ps vs→PlAt S (.nd k b h ps) (.tup [.int k, .int b, .str h, .ref a])
inductive PlsAt (S:Sto):List Pl→List W→Prop
 |nil:PlsAt S [] []
 |cons {p:Pl}{v:W}{ps:List Pl}{vs:List W}:PlAt S p v→PlsAt S ps vs→PlsAt S (p::ps) (v::vs)
end
mutual
theorem PlAt.sub{S S':Sto}(h:Sub S S'):∀{p:Pl}{v:W},PlAt S p v→PlAt S' p v
 |_,_, .nd e q=> .nd (h _ _ e) (PlsAt.sub h q)
theorem PlsAt.sub{S S':Sto}(h:Sub S S'):∀{ps:List Pl}{vs:List W},PlsAt S ps vs→PlsAt S' ps vs
 |_,_, .nil=> .nil
 |_,_, .cons a b=> .cons (PlAt.sub h a) (PlsAt.sub h b)
end
section
variable {S:Sto}
theorem PlsAt.len:∀{ps:List Pl}{vs:List W},PlsAt S ps vs→ps.length=vs.length
 |_,_, .nil=>rfl
 |_,_, .cons _ h=>congrArg (· +1) (PlsAt.len h)
theorem PlsAt.app:∀{ps qs:List Pl}{vs us:List W},PlsAt S ps vs→PlsAt S qs us→PlsAt S (ps++qs) (vs++us)
 |_,_,_,_, .nil,h=>h
 |_,_,_,_, .cons a b,h=> .cons a (PlsAt.app b h)
theorem PlsAt.take:∀(n:Nat) {ps:List Pl}{vs:List W},PlsAt S ps vs→PlsAt S (ps.take n) (vs.take n)
 |0,_,_,_=> .nil
 |_+1,_,_, .nil=> .nil
 |n+1,_,_, .cons a b=> .cons a (PlsAt.take n b)
theorem PlsAt.drop:∀(n:Nat) {ps:List Pl}{vs:List W},PlsAt S ps vs→PlsAt S (ps.drop n) (vs.drop n)
 |0,_,_,h=>h
 |_+1,_,_, .nil=> .nil
 |n+1,_,_, .cons _ b=>PlsAt.drop n b
theorem PlsAt.rep{p:Pl}{v:W}(h:PlAt S p v):∀n:Nat,PlsAt S (aO n p) (aO n [v]).flatten
 |0=> .nil
 |n+1=>by
  rw[b_,b_,dI];exact .cons h (PlsAt.rep h n)
end
noncomputable def pad (w:Str):Pl:= .nd (-1) 0 w []
noncomputable def zbL (need:Nat) (w:Str) (ps:List Pl):List Pl:=aO (need - ps.length) (pad w)++ps
noncomputable def push (need:Nat) (w:Str) (k b:Int) (h:Str) (ps:List Pl):List Pl:=
 (zbL need w ps).take ((zbL need w ps).length - need)++[.nd k b h ((zbL need w ps).drop ((zbL need w ps).length - need))]
theorem zmr (w:Str):∀n:Nat,pwts (aO n (pad w))=n
 |0=>by simp [pwts]
 |n+1=>by rw[b_,pwts,zmr w n];simp [pad,Pl.wt,pwts];omega
theorem zng (w:Str):∀n:Nat,pnts (aO n (pad w))=0
 |0=>by simp [pnts]
 |n+1=>by rw[b_,pnts,zng w n];simp [pad,Pl.nt,pnts]
theorem zgx:∀ps:List Pl,ps.length≤pwts ps
 | []=>by simp
 |p::ps=>by have:=zgx ps;have:=ztQ p;simp [pwts];omega
theorem zev (need:Nat) (w:Str) (ps:List Pl):(zbL need w ps).length=need - ps.length+ps.length:=by simp [zbL]
theorem zoC{need:Nat}{w:Str}{k b:Int}{h:Str}{ps:List Pl}:pwts (push need w k b h ps)=need - ps.length+pwts ps+1∧pnts (push need w k b h ps)=pnts ps+(if k<0 then 0 else 1)∧(push need w k b h ps).length=need - ps.length+ps.length - need+1:=by
 have hl:=zev need w ps;have h1:pwts (zbL need w ps)=need - ps.length+pwts ps:=by rw[zbL,zcB,zmr]
 have h2:pnts (zbL need w ps)=pnts ps:=by rw[zbL,zbW,zng];omega
 have h3:=zcB ((zbL need w ps).take ((zbL need w ps).length - need)) ((zbL need w ps).drop ((zbL need w ps).length - need));have h4:=zbW ((zbL need w ps).take ((zbL need w ps).length - need)) ((zbL need w ps).drop ((zbL need w ps).length - need));rw[iR]at h3 h4;unfold push;refine⟨?_,?_,?_⟩
 ·rw[zcB,pwts,pwts,Pl.wt];omega
 ·rw[zbW,pnts,pnts,Pl.nt];omega
 ·rw[aS,cJ,bK,hl];omega
theorem znA{need:Nat}{w:Str}(ps:List Pl):((zbL need w ps).drop ((zbL need w ps).length - need)).length=need:=by
 have hl:=zev need w ps;rw[cA,hl];omega
theorem zjT{ws:List Str}{B:List Tn}{need:Nat}{w:Str}{ps:List Pl}(hw:w∈ws) (h:∀p∈ps,PlOk ws B p):∀p∈zbL need w ps,PlOk ws B p:=λp hp=>by
 rcases bu.mp hp with z |z
 ·rw[(List.mem_replicate.mp z).2];exact .sign hw λq hq=>by cases hq
 ·exact h p z
theorem zvm{ws:List Str}{B:List Tn}{need:Nat}{w:Str}{k b:Int}{h:Str}{ps:List Pl}(hw:w∈ws) (hp:∀p∈ps,PlOk ws B p) (hn:∀qs:List Pl,qs.length=need→(∀q∈qs,PlOk ws B q)→PlOk ws B (.nd k b h qs)):∀p∈push need w k b h ps,PlOk ws B p:=λp hq=>by
 rcases bu.mp hq with z |z
 ·exact zjT hw hp p (iq z)
 ·rw[bf.mp z];exact hn _ (znA ps) λq hq=>zjT hw hp q (gp hq)
noncomputable def zsl:WS:=(zbK (zqU (wTb (wOp oGt (zae 3) (wC (.int 0)))) (wTb (wOp oLt (zae 5) (wC (.int 5))))) (zas (wAsg (wOp (zeW λi j=> .int (i - j)) (zae 3) (wC (.int 1))) (wGN 3))
  (zas (wAsg (zct (zpY (zsc (zdm (zab (zbD (zab (zoa (wC (.int 1))) (zab (wC (.int 0)) (zab (wOp oIx (zae 2) (wC (.int 2))) (zab (zct (zdm waNil)) waNil))))) waNil)) (wOp (zeW λi j=> .int (i - j)) (zae 8) (wB zem (zab (zae 4) waNil)))) (zae 4))) (wGN 4))
  (zas (wAsg (wOp (zeW λi j=> .int (i - j)) (wB zem (zab (zae 4) waNil)) (zae 8)) (wGN 11))
  (wAsg (zct (zoc (zvy (zae 4) woN (woS (zae 11))) (zdm (zab (wOp zdF (zae 9) (zbD (zab (wSl (zae 4) (woS (zae 11)) woN) waNil))) waNil)))) (wGN 4))))) zaD)
theorem zoJ{r:Nat}:zfs r zaR=(zas (wAsg (wOp (zdk (λ_ j=>0<j) λi j=> .int (i % j)) (zae 6) (wC (.int 8))) (wGN 7))
  (zas (wAsg (zsF (zdm (zab (wC (.int 0)) (zab (wC (.int 0)) (zab (wC (.int 1)) (zab (wC (.int 2)) waNil))))) (wB zki (zab (zae 7) (zab (wC (.int 3)) waNil)))) (wGN 8))
  (zas (wAsg (zbD (zab (zoa (wC (.int 1))) (zab (wC (.int 0)) (zab (wOp oIx (zae 2) (zsF (zdm (zab (wC (.int 2)) (zab (wC (.int 5)) (zab (wC (.int 3)) (zab (wC (.int 4)) waNil))))) (wB zki (zab (zae 7) (zab (wC (.int 3)) waNil))))) waNil)))) (wGN 9))
  (zas (zbK (wTb (wOp oGt (zae 7) (wC (.int 3)))) (zas (wAsg (wOp (zdk (λ_ j=>0<j) λi j=> .int (i % j)) (wOp (zdk ziu λi j=> .int (i / j)) (zae 6) (wC (.int 8))) (wB zem (zab (zae 1) waNil))) (wGN 10))
  (zas (wAsg (zap (zaB r) (zab (wOp oIx (wOp oIx (zae 1) (zae 10)) (wC (.int 1))) waNil)) (wGN 8))
  (zas (wAsg (zbD (zab (zae 10) (zab (wOp (zdk (λ_ j=>0<j) λi j=> .int (i % j)) (wOp (zdk ziu λi j=> .int (i / j)) (zae 6) (wC (.int 64))) (wC (.int 8))) (zab (wC (.str "")) waNil)))) (wGN 9))
  (wAsg (wOp zdF (zae 5) (wC (.int 1))) (wGN 5))))) zaD)
  zsl)))):=rfl
section
variable {w0 w1 w2 w3 w4 w5:Str}{r:Nat}{S:Sto}{aw st:Addr}{E:WX}{D:WEnds}
theorem zoQ{need:Nat}{k b room spent:Int}{h:Str}{ps:List Pl}{vs:List W}{x0 x1 x6 x7 x10 x11:Option W}(hw:S aw=ae (.lst (six w0 w1 w2 w3 w4 w5))) (hst:S st=ae (.lst vs)) (hp:PlsAt S ps vs) (hn:need≤3) (hl:ps.length≤100)
  (h1:D.nx [x0,x1,ae (.ref aw),ae (.int room),ae (.ref st),ae (.int spent),x6,x7,ae (.int need),ae (.tup [.int k, .int b, .str h]),x10,x11] S)
  (h2:0<room→spent<5→ ∀(st':Addr) (S':Sto) (vs':List W) (x11:Option W),Sub S S'→S' st'=ae (.lst vs')→PlsAt S' (push need w2 k b h ps) vs'→D.nx [x0,x1,ae (.ref aw),ae (.int (room - 1)),ae (.ref st'),ae (.int spent),x6,x7,ae (.int need),ae (.tup [.int k, .int b, .str h]),x10,x11] S') :
  zsl E D [x0,x1,ae (.ref aw),ae (.int room),ae (.ref st),ae (.int spent),x6,x7,ae (.int need),ae (.tup [.int k, .int b, .str h]),x10,x11] S:=by
 unfold zsl;walk_at "wp";split
 ·rename_i c1;split
  ·rename_i c2;simp only[zaj hw,six2];have f1:=λ(a:Addr) (ha:S a=none)=>keep (x:=Ob.lst []) hst ha;refine⟨aY _,λa ha=>⟨zal (by decide),zal (by decide),?_⟩⟩;rw[zaj (f1 a ha),zaj (f1 a ha)];have hlen:=hp.len;have en:((need:Int) - (vs.length:Int)).toNat=need - ps.length:=by omega
   rw[en];have pa:PlAt (put S a (Ob.lst [])) (pad w2) (.tup [.int (-1), .int 0, .str w2, .ref a]):= .nd zag .nil;have pp:PlsAt (put S a (Ob.lst [])) (zbL need w2 ps) ((aO (need - ps.length) [W.tup [.int (-1), .int 0, .str w2, .ref a]]).flatten++vs):=(PlsAt.rep pa _).app (hp.sub (.put .refl ha));have pl:=pp.len;have sub1:Sub S (put S a (Ob.lst [])):= .put .refl ha;have hfl:((aO (need - ps.length) [W.tup [.int (-1), .int 0, .str w2, .ref a]]).flatten).length≤3:=by
    rw[aS,zev]at pl;omega
   have e0:(1*(need - ps.length))≤sizeLine:=zal (by omega);refine⟨⟨by omega,by omega,e0⟩,zal (by omega),?_⟩
   generalize (aO (need - ps.length) [W.tup [.int (-1), .int 0, .str w2, .ref a]]).flatten++vs=ys at pp pl⊢;generalize put S a (Ob.lst [])=S1 at pp sub1⊢;intro b2 hb2;have sub2:Sub S1 (put S1 b2 (.lst ys)):= .put .refl hb2;generalize put S1 b2 (Ob.lst ys)=S2 at sub2⊢;have hpl:=zev need w2 ps;have ea:((ys.length:Nat):Int) - (need:Int)=((ys.length - need:Nat):Int):=by omega
   rw[ea,ziW,ziH];intro p hp3;have sub3:Sub S2 (put S2 p (.lst (ys.drop (ys.length - need)))):= .put .refl hp3;have fp:put S2 p (Ob.lst (ys.drop (ys.length - need))) p=ae (.lst (ys.drop (ys.length - need))):=zag;generalize put S2 p (Ob.lst (ys.drop (ys.length - need)))=S3 at sub3 fp⊢;refine⟨zal (by decide),zal (by decide),zal (by decide),zal (by rw[cJ];omega),λq hq=>?_⟩;have sub4:Sub S3 (put S3 q (.lst (ys.take (ys.length - need)++[.tup [.int k, .int b, .str h, .ref p]]))):= .put .refl hq;refine h2 c1 c2 q _ _ _ (((sub1.trans sub2).trans sub3).trans sub4) zag ?_;unfold push;have pp3:=pp.sub ((sub2.trans sub3).trans sub4);rw[←pl]at *;exact(pp3.take _).app (.cons (.nd (sub4 _ _ fp) (pp3.drop _)) .nil)
  ·exact h1
 ·exact h1
theorem zut (n:Int) (h0:0≤n) (h1:n<8):∃m:Nat,m≤2∧atI [W.int 0,W.int 0,W.int 1,W.int 2] (if 3<n then 3 else n)=ae (.int (m:Int)):=by
 rcases(show n=0∨n=1∨n=2∨(3≤n) by omega) with rfl |rfl |rfl |h
 ·exact⟨0,by decide,rfl⟩
 ·exact⟨0,by decide,rfl⟩
 ·exact⟨1,by decide,rfl⟩
 ·have:(if 3<n then 3 else n)=3:=by split<;>omega
  rw[this];exact⟨2,by decide,rfl⟩
theorem ztD (n:Int) (h0:0≤n) (h1:n<8):∃(i:Int) (x:Str),x∈ [w2,w3,w4,w5]∧atI [W.int 2,W.int 5,W.int 3,W.int 4] (if 3<n then 3 else n)=ae (.int i)∧atI (six w0 w1 w2 w3 w4 w5) i=ae (.str x):=by
 rcases(show n=0∨n=1∨n=2∨(3≤n) by omega) with rfl |rfl |rfl |h
 ·exact⟨2,w2,by simp,rfl,rfl⟩
 ·exact⟨5,w5,by simp,rfl,rfl⟩
 ·exact⟨3,w3,by simp,rfl,rfl⟩
 ·have:(if 3<n then 3 else n)=3:=by split<;>omega
  rw[this];exact⟨4,w4,by simp,rfl,rfl⟩
inductive PlI (S:Sto) (ac ab aw:Addr) (hs:List Str) (B:List Tn) (m:Nat) (ws:List W) (σ:WSt) (S':Sto):Prop
 |mk (ns:List Int) (ps:List Pl) (vs:List W) (st:Addr) (room spent:Int) (x6 x7 x8 x9 x10 x11:Option W):ws=ns.map W.int→Sub S S'→S' st=ae (.lst vs)→PlsAt S' ps vs→(∀p∈ps,PlOk hs B p)→0≤room→room≤m→(pnts ps:Int)≤spent→pnts ps≤4→(pwts ps:Int)+ps.length≤2*(m - room)+pnts ps+2→
  σ=[ae (.ref ac),ae (.ref ab),ae (.ref aw),ae (.int room),ae (.ref st),ae (.int spent),x6,x7,x8,x9,x10,x11]→PlI S ac ab aw hs B m ws σ S'
inductive PlW (S:Sto) (hs:List Str) (B:List Tn) (m:Nat) (f:Addr→WSt) (mm:Nat) (σ:WSt) (S2:Sto):Prop
 |mk (ps:List Pl) (vs:List W) (st:Addr):mm=ps.length→Sub S S2→S2 st=ae (.lst vs)→PlsAt S2 ps vs→(∀p∈ps,PlOk hs B p)→pnts ps≤4→pwts ps+ps.length≤2*m+pnts ps+2→σ=f st→PlW S hs B m f mm σ S2
theorem zrx{m:Nat}(hm9:m≤9) {Q:WK}{X:Str→Sto→Prop}{ac ab:Addr}{cells:List Int}{B:List Tn}(hc:S ac=ae (.lst (cells.map W.int))) (hb:S ab=ae (.lst (B.map zba))) (hw:S aw=ae (.lst (six w0 w1 w2 w3 w4 w5))) (bk:BkOk [w0,w1,w2,w3,w4,w5] [w2,w3,w4,w5] B) (hB:B≠ [])
  (h:∀(p:Pl) (v:W) (S':Sto),Sub S S'→PlAt S' p v→PlOk [w2,w3,w4,w5] B p→p.wt≤2*m+1+p.nt→p.nt≤4→Q v S'):zcy (r+10) [.ref ac, .ref ab, .ref aw, .int m] S Q X:=by
 rw[show r+10=r+9+1 from rfl,zcy];walk_at "wp";refine⟨aY _,λst0 hst0=>?_⟩;rw[zaj (keep hc hst0)];refine zlp (PlI S ac ab aw [w2,w3,w4,w5] B m) ?_ ?_ _ _ _ ⟨cells,[],[],st0,m,0,none,none,none,none,none,none,rfl, .put .refl hst0,zag, .nil,(λ_ h=>nomatch h),by omega,by omega,by simp [pnts],by simp [pnts],by simp [pnts,pwts],rfl⟩
 ·rintro w ws σ S' N ⟨ns,ps,vs,st,room,spent,x6,x7,x8,x9,x10,x11,ew,sub,hst,hp,ok,r0,r1,p0,p1,p2,rfl⟩ hN;cases ns with
  |nil=>cases ew
  |cons n ns=>
  cases ew;have fw:=sub _ _ hw;have fb:=sub _ _ hb;have fc:=sub _ _ hc;have m0:0≤n % 8:=cO _ (by decide);have m1:n % 8<8:=cV _ (by decide);have hpl:=zgx ps;obtain⟨need,hneed,en⟩:=zut (n % 8) m0 m1;obtain⟨i,hd,hhd,e1,e2⟩:=ztD (w0:=w0) (w1:=w1) (w2:=w2) (w3:=w3) (w4:=w4) (w5:=w5) (n % 8) m0 m1;have go:∀(need:Nat) (k b:Int) (hh:Str) (sp:Int) (x10:Option W),need≤3→(∀qs:List Pl,qs.length=need→(∀q∈qs,PlOk [w2,w3,w4,w5] B q)→PlOk [w2,w3,w4,w5] B (.nd k b hh qs))→(k<0∧need≤2∧sp=spent∨ ¬k<0∧sp=spent+1)→
    ∀(E:WX) (D:WEnds),D.nx=N→zsl E D [ae (.ref ac),ae (.ref ab),ae (.ref aw),ae (.int room),ae (.ref st),ae (.int sp),ae (.int n),ae (.int (n % 8)),ae (.int need),ae (.tup [.int k, .int b, .str hh]),x10,x11] S':=λneed k b hh sp x10 hn hok hk E D hD=>by
   subst hD;refine zoQ fw hst hp hn (by omega) ?_ λc1 c2 st' S2 vs' x11 sub2 hst2 hp2=>?_
   ·refine hN _ _ S' .refl fc ⟨ns,ps,vs,st,room,sp,_,_,_,_,_,_,rfl,sub,hst,hp,ok,r0,r1,by omega,p1,p2,rfl⟩
   ·obtain⟨s1,s2,s3⟩:=zoC (need:=need) (w:=w2) (k:=k) (b:=b) (h:=hh) (ps:=ps);have hz:ps.length=0→pwts ps=0∧pnts ps=0:=λz=>by
     cases ps with
     |nil=>exact⟨rfl,rfl⟩
     |cons _ _=>simp at z
    have fin:(pnts (push need w2 k b hh ps):Int)≤sp→pnts (push need w2 k b hh ps)≤4→(pwts (push need w2 k b hh ps):Int)+(push need w2 k b hh ps).length≤2*(m - (room - 1))+pnts (push need w2 k b hh ps)+2→D.nx [ae (.ref ac),ae (.ref ab),ae (.ref aw),ae (.int (room - 1)),ae (.ref st'),ae (.int sp),ae (.int n),ae (.int (n % 8)),ae (.int need),ae (.tup [.int k, .int b, .str hh]),x10,x11] S2:=λf1 f2 f3=>
     hN _ _ S2 .refl (sub2 _ _ fc) ⟨ns,_,vs',st',room - 1,sp,_,_,_,_,_,_,rfl,sub.trans sub2,hst2,hp2,zvm (by simp) ok hok,by omega,by omega,f1,f2,f3,rfl⟩
    rcases hk with⟨kn,n2,es⟩ |⟨kp,es⟩
    ·rw[if_pos kn]at s2;refine fin (by omega) (by omega) ?_;rcases eQ ps.length with z |z
     ·have:=hz z;omega
     ·omega
    ·rw[if_neg kp]at s2;refine fin (by omega) (by omega) ?_;rcases eQ ps.length with z |z
     ·have:=hz z;omega
     ·omega
  rw[zoJ];walk_at "wp";simp only[en,e1];walk_at "wp";simp only[zaj fw,e2];refine⟨by decide,zal (by decide),zal (by decide),zal (by decide),?_⟩;split
  ·have hbl:(B.map zba)≠ []:=by simpa using hB
   obtain⟨j,x,ej,ex⟩:=znp (n / 8) hbl;have hlt:0<(B.map zba).length:=eG.mpr hbl;have ek:n / 8 % ((B.map zba).length:Int)=(((n / 8 % ((B.map zba).length:Int)).toNat:Nat):Int):=by
    have:=cO (n / 8) (show((B.map zba).length:Int)≠0 by omega)
    omega
   have ek2:=zbU (xs:=B.map zba) (n:=(n / 8 % ((B.map zba).length:Int)).toNat);rw[←ek,ex,bq]at ek2;cases et:B[(n / 8 % ((B.map zba).length:Int)).toNat]? with
   |none=>rw[et]at ek2;cases ek2
   |some t=>
    rw[et]at ek2;have ext:x= .tup [.str t.1,enc t.2.1,enc t.2.2]:=by cases ek2;rfl
    have ht:t∈B:=aX et;have LT:=bk.lf t ht;have hLd:=LT.dp;have hLw:=LT.wt;have hLn:=LT.nb;simp only[zaj fb,ex,ext];walk_at "wp";rw[show atI [W.str t.1,enc t.2.1,enc t.2.2] 1=ae (enc t.2.1) from rfl];refine⟨⟨by decide,by decide⟩,by omega,?_⟩
    refine zgH 4 hLd (by omega) (by omega) ⟨⟨by decide,by decide⟩,by decide,zal (by decide),?_⟩
    have b0:0≤n / 64 % 8:=cO _ (by decide);have b1:n / 64 % 8<8:=cV _ (by decide);refine go t.2.1.nb _ _ _ _ _ hLn (λqs hq hqs=>?_) (.inr ⟨by omega,rfl⟩) _ _ rfl;rw[ek];exact .turn et hq b0 b1 hqs
  ·exact go need (-1) 0 hd spent _ (by omega) (λqs hq hqs=> .sign hhd hqs) (.inl ⟨by decide,hneed,rfl⟩) _ _ rfl
 ·rintro σ S' ⟨ns,ps,vs,st,room,spent,x6,x7,x8,x9,x10,x11,ew,sub,hst,hp,ok,r0,r1,p0,p1,p2,rfl⟩;have hpl:=zgx ps;refine⟨PlW S [w2,w3,w4,w5] B m (λst=>[ae (.ref ac),ae (.ref ab),ae (.ref aw),ae (.int room),ae (.ref st),ae (.int spent),x6,x7,x8,x9,x10,x11]),⟨_,ps,vs,st,rfl,sub,hst,hp,ok,p1,by omega,rfl⟩,?_⟩
  rintro mm σ S2 ⟨ps,vs,st,rfl,sub,hst,hp,ok,p1,p2,rfl⟩;have hlen:=hp.len;have fw:=sub _ _ hw;walk_at "wp";rw[zaj hst];split
  ·rename_i hgt;simp only[zfJ];walk_at "wp";simp only[zaj hst,zaj fw,six4];have c1:zeu vs none (ae (-2))=vs.take (vs.length - 2):=zlP 2 (by decide);have c2:zeu vs (ae (-2)) none=vs.drop (vs.length - 2):=zox 2 (by decide);rw[c1,c2];intro p hp3;have sub3:Sub S2 (put S2 p (.lst (vs.drop (vs.length - 2)))):= .put .refl hp3;have fp:put S2 p (Ob.lst (vs.drop (vs.length - 2))) p=ae (.lst (vs.drop (vs.length - 2))):=zag;generalize put S2 p (Ob.lst (vs.drop (vs.length - 2)))=S3 at sub3 fp⊢;refine⟨zal (by decide),zal (by decide),zal (by rw[cJ];omega),λq hq=>?_⟩;have sub4:Sub S3 (put S3 q (.lst (vs.take (vs.length - 2)++[.tup [.int (-1), .int 0, .str w4, .ref p]]))):= .put .refl hq;have hp4:=hp.sub (sub3.trans sub4);have hw3:=zcB (ps.take (vs.length - 2)) (ps.drop (vs.length - 2));have hn3:=zbW (ps.take (vs.length - 2)) (ps.drop (vs.length - 2));rw[iR]at hw3 hn3;refine⟨_,_,?_, .refl,ps.take (vs.length - 2)++[.nd (-1) 0 w4 (ps.drop (vs.length - 2))],_,q,rfl,(sub.trans sub3).trans sub4,zag,(hp4.take _).app (.cons (.nd (sub4 _ _ fp) (hp4.drop _)) .nil),λx hx=>?_,?_,?_,rfl⟩
   ·rw[aS,cJ,bK];omega
   ·rcases bu.mp hx with z |z
    ·exact ok x (iq z)
    ·rw[bf.mp z];exact .sign (by simp) λy hy=>ok y (gp hy)
   ·rw[zbW,pnts,pnts,Pl.nt,if_pos (by decide)];omega
   ·rw[zcB,pwts,pwts,Pl.wt,aS,cJ,bK,zbW,pnts,pnts,Pl.nt,if_pos (by decide)];omega
  ·rename_i hle
   try walk_at "wp"
   simp only[zaj fw,zAA];refine⟨aY _,λa ha=>⟨zal (by decide),zal (by decide),?_⟩⟩;rw[zaj (keep hst ha)];refine⟨zal (by omega),?_⟩;cases hp with
   |nil=>
    exact⟨_, .refl,h (pad w5) _ _ (sub.trans (.put .refl ha)) (.nd zag .nil) (.sign (by simp) λ_ z=>nomatch z) (by simp [pad,Pl.wt,pwts];omega) (by simp [pad,Pl.nt,pnts])⟩
   | @cons p v ps vs h1 h2=>
    rw[dR,ziv];have e0:ps=[]:=by
     cases ps with
     |nil=>rfl
     |cons q qs=>
      have:=h2.len;simp only[aR]at this hle;omega
    subst e0;simp only[pwts,pnts,aR,c5]at p1 p2;exact⟨_, .refl,h p v _ (sub.trans (.put .refl ha)) (h1.sub (.put .refl ha)) (ok p a0) (by omega) (by omega)⟩
end
section
variable {r:Nat}{S:Sto}{Q:WK}{E:Str→Sto→Prop}{a:Addr}{B:List Tn}
noncomputable def zek:Option Tn→W
 |some t=>zba t
 |none=> .non
theorem zkK (B:List Tn) (s:Str):B.findSome? (λt=>if t.1 == s then ae (zba t) else none)=(zaY B s).map zba:=by
 unfold zaY
 induction B with
 |nil=>rfl
 |cons t B ih=>
  rw[d6,bG];cases e:t.1 == s with
  |true=>rfl
  |false=>simpa using ih
theorem zfG{s:Str}(ha:S a=ae (.lst (B.map zba))) (h:Q (zek (zaY B s)) S):zaW (r+1) [.ref a, .str s] S Q E:=by
 rw[zaW];walk_at "wp";rw[zaj ha];refine zfq (S:=S) ?_ (λσ=>∃x,σ=[ae (.ref a),ae (.str s),x]) zba (λt=>if t.1 == s then ae (zba t) else none) B _ ⟨_,rfl⟩ (λt ht σ N hI hno hret=>?_) (λe σ hI=>?_) λw e S' sb=>?_
 ·exact ha
 ·obtain⟨x,rfl⟩:=hI;simp only[zeE];have ee:zba t= .tup [.str t.1,enc t.2.1,enc t.2.2]:=rfl;rw[ee];walk_at "wp";cases e:t.1 == s with
  |true=>
   rw[e]at hret;exact hret _ rfl _ .refl
  |false=>
   rw[e]at hno;exact hno rfl _ _ ⟨_,rfl⟩ .refl
 ·obtain⟨x,rfl⟩:=hI;walk_at "wp";rw[zkK]at e;have:zaY B s=none:=by
   cases q:zaY B s with
   |none=>rfl
   |some t=>rw[q]at e;cases e
  rw[this]at h;exact⟨_, .refl,h⟩
 ·rw[zkK]at e;cases q:zaY B s with
  |none=>rw[q]at e;cases e
  |some t=>
   rw[q]at e h;cases e;exact⟨_,sb,h⟩
end
noncomputable def byC (f:Int):Int→Nat:=λb=>if b / f % 2=1 then 1 else 0
theorem PlsAt.zip{S:Sto}:∀{ps:List Pl}{vs:List W},PlsAt S ps vs→ ∀x∈ps.zip vs,PlAt S x.1 x.2∧x.1∈ps
 |_,_, .nil,x,h=>by simp at h
 |_,_, .cons a b,x,h=>by
  rw[gT]at h;rcases az.mp h with rfl |h
  ·exact⟨a,a0⟩
  ·have:=PlsAt.zip b x h;exact⟨this.1,aK _ this.2⟩
theorem PlsAt.snd{S:Sto}{ps:List Pl}{vs:List W}(h:PlsAt S ps vs):(ps.zip vs).map gR=vs:=List.map_snd_zip (by rw[h.len];exact au _)
theorem PlsAt.fst{S:Sto}{ps:List Pl}{vs:List W}(h:PlsAt S ps vs) {α:Type}(f:Pl→α):(ps.zip vs).map (λx=>f x.1)=ps.map f:=by
 have:(ps.zip vs).map Prod.fst=ps:=List.map_fst_zip (by rw[h.len];exact au _)
 conv=>rhs;rw[←this,bn]
 rfl
section
variable {S:Sto}{a:Addr}{ws hs:List Str}{B:List Tn}
theorem zsz{f:Int}(hf:f=1∨f=2∨f=4∨f=8) (ha:S a=ae (.lst (B.map zba))) (b:BkOk ws hs B):∀(d:Nat) {p:Pl}{v:W}{r:Nat}{Q:WK}{E:Str→Sto→Prop},p.dp≤d→d+8≤r→PlAt S p v→PlOk hs B p→p.wt≤1000→Q (enc (p.ev B (byC f))) S→zcz (r+1) [v, .ref a, .int f] S Q E
 |0,p,v,r,Q,E,hd,hr,hp,ok,hw,h=>by have:=zuz p;omega
 |d+1, .nd k b' hh ps,v,r,Q,E,hd,hr,hp,ok,hw,h=>by
  cases hp with
  | @nd _ _ _ _ c vs hc hps=>
  simp only[Pl.dp]at hd;simp only[Pl.wt]at hw;have hlen:=zgx ps;obtain⟨r,rfl⟩:∃r',r=r'+1:=⟨r - 1,by omega⟩
  rw[zcz];walk_at "wp";rw[zaj hc];rw[←hps.snd];have okp:∀x∈ps,PlOk hs B x:=by
   cases ok with
   |sign _ h=>exact h
   |turn _ _ _ _ h=>exact h
  refine zaQ (λσ=>∃x,σ=[x,ae (.ref a),ae (.int f)]) gR (λx=>enc (x.1.ev B (byC f))) ?_ (ps.zip vs) [] _ ⟨none,rfl⟩ (by simp;omega) (λx hx σ R hI hR=>?_) ?_
  ·rw[hps.snd];exact hc
  ·obtain⟨y,rfl⟩:=hI;obtain⟨h1,h2⟩:=hps.zip x hx;have:=zgL h2;have:=zmQ h2;simp only[zgi];walk_at "wp";exact zsz hf ha b d (by omega) (by omega) h1 (okp _ h2) (by omega) (hR _ _ ⟨_,rfl⟩ .refl)
  ·rw[a8,hps.fst λp=>enc (p.ev B (byC f))];intro q hq;have eu:(ps.map λp=>enc (p.ev B (byC f)))=encs (ps.map (Pl.ev B (byC f))):=by rw[zaw,bn];rfl
   rw[eu];have fq:put S q (Ob.lst (encs (ps.map (Pl.ev B (byC f))))) q=ae (.lst (encs (ps.map (Pl.ev B (byC f))))):=zag;have fa:=keep (x:=Ob.lst (encs (ps.map (Pl.ev B (byC f))))) ha hq;have sub:Sub S (put S q (Ob.lst (encs (ps.map (Pl.ev B (byC f)))))):= .put .refl hq;generalize put S q (Ob.lst (encs (ps.map (Pl.ev B (byC f)))))=S1 at fq fa sub⊢
   try walk_at "wp"
   cases ok with
   |sign hs' _=>
    rw[if_pos (by decide)]
    try rw[zaj fq]
    rw[zaZ]at h;rw[zaT,aq];simp only[enc]at h;exact⟨zal (by decide),zal (by omega),_,sub,h⟩
   | @turn k _ _ _ t e hl b0 b1 _=>
    have ek:atI (B.map zba) (k:Int)=ae (.tup [.str t.1,enc t.2.1,enc t.2.2]):=by
     rw[zbU,bq,e];rfl
    have hdiv:ziu b' f:=by rcases hf with rfl |rfl |rfl |rfl<;>exact⟨by decide,by decide⟩
    have ht:t∈B:=aX e;rw[zaN e]at h;rw[if_neg (by omega)];refine⟨hdiv,by decide,?_⟩
    simp only[zaj fa,ek];by_cases e1:b' / f % 2=1
    ·rw[e1];have:byC f b'=1:=by unfold byC;rw[if_pos e1]
     rw[this]at h;simp only[evT,enc]at h
     try walk_at "wp"
     try rw[zaj fq]
     rw[zaT,aq];exact⟨zal (by decide),zal (by omega),_,sub,h⟩
    ·have e2:(b' / f % 2 == 1)=false:=by simpa using e1
     rw[e2];have:byC f b'=0:=by unfold byC;rw[if_neg e1]
     rw[this]at h;simp only[evT]at h;walk_at "wp";rw[show atI [W.str t.1,enc t.2.1,enc t.2.2] 1=ae (enc t.2.1) from rfl];dsimp only;have hLd:=(b.lf t ht).dp;have hLw:=(b.lf t ht).wt;have hLn:=(b.lf t ht).nb;exact zfP 4 hLd (by omega) fq (by rw[aq,hl];exact(b.lf t ht).fits) (by omega) ⟨_,sub,h⟩
end
noncomputable def zaK (n:Int) (t:Tn):Tr:=if n=1 then t.2.1 else t.2.2
structure Sides (g:Tn→Tr) (B:List Tn):Prop where
  fits:∀t∈B,(g t).fits t.2.1.nb
  dp:∀t∈B,(g t).depth≤4
  wt:∀t∈B,(g t).weight≤10
mutual
noncomputable def Tr.ar (B:List Tn):Tr→Prop
 | .bl _=>False
 | .nd s ts=>(∀t,zaY B s=ae t→ts.length=t.2.1.nb)∧ars B ts
noncomputable def ars (B:List Tn):List Tr→Prop
 | []=>True
 |t::ts=>t.ar B∧ars B ts
end
theorem ars_iff{B:List Tn}:∀{ts:List Tr},ars B ts↔ ∀t∈ts,t.ar B
 | []=>by simp [ars]
 |t::ts=>by simp [ars,ars_iff (ts:=ts)]
mutual
theorem zuh{B:List Tn}:∀t:Tr,t.way B=true→t.ar B
 | .bl n,h=>by simp [Tr.way]at h
 | .nd s ts,h=>by
  simp only[Tr.way,bR]at h;simp only[Tr.ar];refine⟨λt ht=>?_,zsX ts h.2⟩;have:=h.1;rw[topB,ht]at this;simpa using this
theorem zsX{B:List Tn}:∀ts:List Tr,zhX B ts=true→ars B ts
 | [],h=>by simp [ars]
 |t::ts,h=>by
  simp only[zhX,bR]at h;simp only[ars];exact⟨zuh t h.1,zsX ts h.2⟩
end
section
variable {S:Sto}{a:Addr}{B:List Tn}{n:Int}
theorem zoB (t:Tn) (h:n=1∨n=2):atI [W.str t.1,enc t.2.1,enc t.2.2] n=ae (enc (zaK n t)):=by
 rcases h with rfl |rfl<;>rfl
theorem ziK (ha:S a=ae (.lst (B.map zba))) (hn:n=1∨n=2) (hg:Sides (zaK n) B):∀(d:Nat) {t:Tr}{r:Nat}{Q:WK}{E:Str→Sto→Prop},t.depth≤d→d+10≤r→t.ar B→t.weight≤1000→Q (enc (t.mk B (zaK n))) S→zbE (r+1) [.ref a,enc t, .int n] S Q E
 |0,t,r,Q,E,hd,hr,hh,hw,h=>by have:=zaS t;omega
 |d+1, .bl k,r,Q,E,hd,hr,hh,hw,h=>by simp [Tr.ar]at hh
 |d+1, .nd s ts,r,Q,E,hd,hr,hh,hw,h=>by
  simp only[Tr.depth]at hd;simp only[Tr.weight]at hw;simp only[Tr.ar]at hh;have hk:=zcR ts;obtain⟨r,rfl⟩:∃r',r=r'+1:=⟨r - 1,by omega⟩
  rw[zbE];simp only[enc];walk_at "wp";rw[zaw];refine zaQ (λσ=>∃x,σ=[x,ae (.ref a),ae (.int n)]) enc (λt=>enc (t.mk B (zaK n))) trivial ts [] _ ⟨none,rfl⟩ (by simp;omega) (λx hx σ R hI hR=>?_) ?_
  ·obtain⟨y,rfl⟩:=hI;have hdx:=zbA hx;have hwx:=zdf hx;simp only[zeB];walk_at "wp";exact ziK ha hn hg d (by omega) (by omega) (ars_iff.mp hh.2 x hx) (by omega) (hR _ _ ⟨_,rfl⟩ .refl)
  ·rw[a8];intro q hq;have eu:(ts.map λt=>enc (t.mk B (zaK n)))=encs (ts.map (Tr.mk B (zaK n))):=by rw[zaw,bn];rfl
   rw[eu];have fq:put S q (Ob.lst (encs (ts.map (Tr.mk B (zaK n))))) q=ae (.lst (encs (ts.map (Tr.mk B (zaK n))))):=zag;have fa:=keep (x:=Ob.lst (encs (ts.map (Tr.mk B (zaK n))))) ha hq;have sub:Sub S (put S q (Ob.lst (encs (ts.map (Tr.mk B (zaK n)))))):= .put .refl hq;generalize put S q (Ob.lst (encs (ts.map (Tr.mk B (zaK n)))))=S1 at fq fa sub⊢;refine zfG fa ?_;cases e:zaY B s with
   |none=>
    rw[zln e]at h;simp only[zek]
    try walk_at "wp"
    try rw[zaj fq]
    rw[zaT,aq];simp only[enc]at h;exact⟨zal (by decide),zal (by omega),_,sub,h⟩
   |some t=>
    have ht:t∈B:=cK e;have ee:zek (ae t)= .tup [.str t.1,enc t.2.1,enc t.2.2]:=rfl;rw[zlu e]at h;rw[ee]
    try walk_at "wp"
    rw[zoB t hn];dsimp only;have hgw:=hg.wt t ht;exact zhC 4 (hg.dp t ht) (by omega) fq (by rw[aq,hh.1 t e];exact hg.fits t ht) (by omega) ⟨_,sub,h⟩
theorem zin{t:Tr}(h1:t.weight≤400) (h2:t.depth≤40):t.small=true:=by
 unfold Tr.small;rw[decide_eq_true h1,decide_eq_true h2];rfl
theorem ok_source{t:Tr}{r:Nat}{Q:WK}{E:Str→Sto→Prop}(ha:S a=ae (.lst (B.map zba))) (hg:Sides (zaK 1) B) (hd:t.depth≤40) (hr:60≤r) (hh:t.ar B) (hw:t.weight≤1000) (h1:(t.mk B (zaK 1)).weight≤400) (h2:(t.mk B (zaK 1)).depth≤40) (h:Q (enc (t.mk B (zaK 1))) S):zdt (r+1) [.ref a,enc t] S Q E:=by
 obtain⟨r,rfl⟩:∃r',r=r'+5:=⟨r - 5,by omega⟩
 rw[zdt];walk_at "wp";refine ziK ha (.inl rfl) hg 40 (r:=r+4) hd (by omega) hh hw ?_;rw[zbf];walk_at "wp";refine zgd (r:=r+1) (by omega) ?_;rw[zin h1 h2]
 try walk_at "wp"
 exact⟨_, .refl,_, .refl,h⟩
theorem ok_goal{t:Tr}{r:Nat}{Q:WK}{E:Str→Sto→Prop}(ha:S a=ae (.lst (B.map zba))) (hg:Sides (zaK 2) B) (hd:t.depth≤40) (hr:60≤r) (hh:t.ar B) (hw:t.weight≤1000) (h1:(t.mk B (zaK 2)).weight≤400) (h2:(t.mk B (zaK 2)).depth≤40) (h:Q (enc (t.mk B (zaK 2))) S):zfK (r+1) [.ref a,enc t] S Q E:=by
 obtain⟨r,rfl⟩:∃r',r=r'+5:=⟨r - 5,by omega⟩
 rw[zfK];walk_at "wp";refine ziK ha (.inr rfl) hg 40 (r:=r+4) hd (by omega) hh hw ?_;rw[zbf];walk_at "wp";refine zgd (r:=r+1) (by omega) ?_;rw[zin h1 h2]
 try walk_at "wp"
 exact⟨_, .refl,_, .refl,h⟩
end
noncomputable def zyf (r:Nat):WS:=(zas (wAsg (zct (zdi 2 [0] (zsN (zae 5) (zae 6)) (wGT (zaq (wGN 0) (zaq (wGN 1) zbI))) zhL (zhf r (zcS r)))) (wGN 7))
  (zas (zbK (wTb (wOp (oIs false) (zae 4) (wC .non))) (zaU (wOp zdF (zbD (zab (wOp oIx (zae 1) (wC (.int 0))) waNil)) (wB zdo (zab (zae 7) waNil)))) zaD)
  (zaU (zap (zcU r) (zab (wOp oIx (zae 4) (wC (.int 2))) (zab (zae 7) waNil))))))
noncomputable def zss (r:Nat) (T:WS):WS:=(zas (zbK (zqU (wTb (wOp (oIs false) (zae 3) (wC .non))) (wTb (wOp (oIs true) (zae 4) (wC .non)))) (wAsg (zap (zbS r) (zab (wOp oIx (zae 4) (wC (.int 1))) (zab (zae 1) waNil))) (wGN 5)) zaD)
  (zas (zbK (zqU (wTb (wOp (oIs true) (zae 3) (wC .non))) (wTb (wOp (oIs false) (zae 4) (wC .non)))) (wAsg (zap (zbS r) (zab (wOp oIx (zae 3) (wC (.int 1))) (zab (zae 2) waNil))) (wGN 6)) zaD)
  T))
theorem znx{r:Nat}:zcS (r+1)=zcv 8 3 (zas (wAsg (zap (zaW r) (zab (zae 0) (zab (wOp oIx (zae 1) (wC (.int 0))) waNil))) (wGN 3))
  (zas (wAsg (zap (zaW r) (zab (zae 0) (zab (wOp oIx (zae 2) (wC (.int 0))) waNil))) (wGN 4))
  (zas (wAsg (wSl (zae 1) (woS (wC (.int 1))) woN) (wGN 5))
  (zas (wAsg (wSl (zae 2) (woS (wC (.int 1))) woN) (wGN 6))
  (zss r (zyf r)))))):=rfl
mutual
theorem zpX{P:Str→Prop}:∀(l t:Tr) (ys:List Tr),l.mt t=ae ys→t.hd P→hds P ys∧wts ys≤t.weight
 | .bl _,t,ys,h,q=>by
  simp only[Tr.mt,bB]at h;subst h;simp only[hds,wts];exact⟨⟨q,trivial⟩,by omega⟩
 | .nd s ls, .nd z us,ys,h,q=>by
  simp only[Tr.mt]at h;simp only[Tr.hd]at q;split at h
  ·have:=ztg ls us ys h q.2;simp only[Tr.weight];exact⟨this.1,by omega⟩
  ·cases h
 | .nd _ _, .bl _,ys,h,q=>by simp [Tr.mt]at h
theorem ztg{P:Str→Prop}:∀(ls us ys:List Tr),mts ls us=ae ys→hds P us→hds P ys∧wts ys≤wts us
 | [],us,ys,h,q=>by simp only[mts,bB]at h;subst h;simp [hds,wts]
 |l::ls,[],ys,h,q=>by simp only[mts,bB]at h;subst h;simp [hds,wts]
 |l::ls,u::us,ys,h,q=>by
  simp only[mts]at h;simp only[hds]at q;split at h
  ·cases h
  ·rename_i xs ex;split at h
   ·cases h
   ·rename_i zs ez;simp only[bB]at h;subst h;have h1:=zpX l u xs ex q.1;have h2:=ztg ls us zs ez q.2;rw[zet,wts];exact⟨zqp h1.1 h2.1,by omega⟩
end
mutual
theorem zeH{P:Str→Prop}{m:Nat}:∀t:Tr,t.hd P→t.fits m
 | .bl n,h=>by simp [Tr.hd]at h
 | .nd s ts,h=>by
  simp only[Tr.hd]at h;simp only[Tr.fits];exact zmf ts h.2
theorem zmf{P:Str→Prop}{m:Nat}:∀ts:List Tr,hds P ts→fitss m ts
 | [],h=>by simp [fitss]
 |t::ts,h=>by
  simp only[hds]at h;simp only[fitss];exact⟨zeH t h.1,zmf ts h.2⟩
end
theorem Mvs.triples{B:List Tn}{n:Nat}:∀{as bs cs:List Tr},Mvs B n as bs cs→ ∃zs:List (Tr×Tr×Tr),as=zs.map (λz=>z.1)∧bs=zs.map (λz=>z.2.1)∧cs=zs.map (λz=>z.2.2)∧ ∀z∈zs,Mv B n z.1 z.2.1 z.2.2
 |_,_,_, .nil=>⟨[],rfl,rfl,rfl,λ_ h=>nomatch h⟩
 |_,_,_, .cons (a:=a) (b:=b) (c:=c) h1 h2=>by
  obtain⟨zs,e1,e2,e3,h⟩:=Mvs.triples h2;exact⟨(a,b,c)::zs,by rw[e1];rfl,by rw[e2];rfl,by rw[e3];rfl,λz hz=>(az.mp hz).elim (λe=>by rw[e];exact h1) (h z)⟩
theorem zkm:∀zs:List (Tr×Tr×Tr),pairs (encs (zs.map λz=>z.1)) (encs (zs.map λz=>z.2.1))=zs.map λz=>W.tup [enc z.1,enc z.2.1]
 | []=>by simp [encs,pairs]
 |z::zs=>by simp [encs,pairs,zkm zs]
noncomputable def zzc (f:Option Tn) (s:Str) (cs:List Tr):Tr:=match f with
 |none=> .nd s cs
 |some t=>t.2.2.fill cs
def zxp (S:Sto) (v:W) (ws:List W):Prop:=v= .tup ws∨ ∃q,v= .ref q∧S q=ae (.lst ws)
section
variable {S:Sto}{a:Addr}{B:List Tn}
theorem zpd{v:W}{ws:List W}{Q:List W→(Sto→Prop)→Prop}(h:zxp S v ws) (hq:∀G:Sto→Prop,G S→(∀S',Sub S S'→G S')→Q ws G):zog v S Q:=by
 rcases h with rfl |⟨q,rfl,e⟩
 ·rw[zjl];exact hq _ trivial λ_ _=>trivial
 ·rw[zhA,zaj e];exact hq _ e λS' sb=>sb _ _ e
theorem zrV{n r:Nat}{x y:Tr}{as bs cs:List Tr}{va vb vf:W}{f:Option Tn}{x7:Option W}{s:Str}{ts:List Tr}(hx:x= .nd s ts) (ha:S a=ae (.lst (B.map zba))) (h1:zxp S va (encs as)) (h2:zxp S vb (encs bs)) (M:Mvs B n as bs cs) (hl:as.length≤1000)
  (hR:∀t,f=ae t→t.2.2.depth≤4∧t.2.2.weight≤100∧t.2.2.fits cs.length) (hr:5≤r)
  (one:∀{a' b' c':Tr}{Q:WK}{E:Str→Sto→Prop},a'∈as→b'∈bs→Mv B n a' b' c'→Q (enc c') S→zcS r [.ref a,enc a',enc b'] S Q E) {E:WX}{D:WEnds}
  (hQ:∀S',Sub S S'→D.rt (enc (zzc f s cs)) S') :
  zyf r E D [ae (.ref a),ae (enc x),ae (enc y),ae vf,ae (zek f),ae va,ae vb,x7] S:=by
 obtain⟨zs,rfl,rfl,rfl,hz⟩:=M.triples;unfold zyf;walk_at "wp";refine zpd h1 λG1 g1 k1=>zpd h2 λG2 g2 k2=>?_;rw[zkm];rw[aq]at hl;refine zaQ (λσ=>∃x y,σ=[x,y,ae (.ref a)]) (λz=>W.tup [enc z.1,enc z.2.1]) (λz=>enc z.2.2) ?_ zs [] _ ⟨none,none,rfl⟩ (by simp;omega) (λz hz' σ R hI hR=>?_) ?_
 ·exact⟨g1,g2⟩
 ·obtain⟨u,v,rfl⟩:=hI;simp only[zhf];walk_at "wp";refine one (a':=z.1) (b':=z.2.1) (c':=z.2.2) (aI.mpr ⟨z,hz',rfl⟩) (aI.mpr ⟨z,hz',rfl⟩) (hz z hz') ?_;exact hR _ _ ⟨_,_,rfl⟩ .refl
 ·rw[a8];intro q hq;have eu:(zs.map λz=>enc z.2.2)=encs (zs.map λz=>z.2.2):=by rw[zaw,bn];rfl
  rw[eu];have fq:put S q (Ob.lst (encs (zs.map λz=>z.2.2))) q=ae (.lst (encs (zs.map λz=>z.2.2))):=zag;have sub:Sub S (put S q (Ob.lst (encs (zs.map λz=>z.2.2)))):= .put .refl hq;generalize put S q (Ob.lst (encs (zs.map λz=>z.2.2)))=S1 at fq sub⊢;obtain⟨r,rfl⟩:∃r',r=r'+1:=⟨r - 1,by omega⟩
  cases f with
  |none=>
   subst hx;simp only[zek,enc,zzc]at hQ⊢
   try walk_at "wp"
   try rw[zaj fq]
   rw[zaT,aq];exact⟨zal (by decide),zal (by omega),hQ _ sub⟩
  |some t=>
   have ee:zek (ae t)= .tup [.str t.1,enc t.2.1,enc t.2.2]:=rfl;rw[ee]
   try walk_at "wp"
   rw[show atI [W.str t.1,enc t.2.1,enc t.2.2] 2=ae (enc t.2.2) from rfl];dsimp only;obtain⟨g1,g2,g3⟩:=hR t rfl;exact zhC 4 g1 (by omega) fq (by rw[aq];rw[aq]at g3;exact g3) (by omega) (hQ _ sub)
theorem Mv.nd{n:Nat}{x y z:Tr}:Mv B n x y z→ ∃s ts z' us,x= .nd s ts∧y= .nd z' us
 | .nn _ _ _=>⟨_,_,_,_,rfl,rfl⟩
 | .ns _ _ _ _ _=>⟨_,_,_,_,rfl,rfl⟩
 | .sn _ _ _ _=>⟨_,_,_,_,rfl,rfl⟩
 | .ss _ _ _ _=>⟨_,_,_,_,rfl,rfl⟩
section
variable {T:WS}{E:WX}{D:WEnds}{r:Nat}{x0 x1 x2 x5 x6 x7:Option W}
theorem zuJ (h:T E D [x0,x1,x2,ae (zek none),ae (zek none),x5,x6,x7] S):zss r T E D [x0,x1,x2,ae (zek none),ae (zek none),x5,x6,x7] S:=by
 rw[show zek none=W.non from rfl]at h⊢;unfold zss;walk_at "wp";exact h
theorem zuv{t t':Tn}(h:T E D [x0,x1,x2,ae (zek (ae t')),ae (zek (ae t)),x5,x6,x7] S):zss r T E D [x0,x1,x2,ae (zek (ae t')),ae (zek (ae t)),x5,x6,x7] S:=by
 have ee:∀t:Tn,zek (ae t)= .tup [.str t.1,enc t.2.1,enc t.2.2]:=λ_=>rfl;rw[ee,ee]at h⊢;unfold zss;walk_at "wp";exact h
theorem zvn{t:Tn}{x:Tr}{ms:List Tr}(e:t.2.1.mt x=ae ms) (hr:t.2.1.depth<r) (ft:x.fits 0) (hw:t.2.1.weight≤90000) (h:∀q,S q=none→T E D [x0,ae (enc x),x2,ae (zek none),ae (zek (ae t)),ae (.ref q),x6,x7] (put S q (.lst (encs ms)))):zss (r+1) T E D [x0,ae (enc x),x2,ae (zek none),ae (zek (ae t)),x5,x6,x7] S:=by
 have ee:∀t:Tn,zek (ae t)= .tup [.str t.1,enc t.2.1,enc t.2.2]:=λ_=>rfl;have a1:∀t:Tn,atI [W.str t.1,enc t.2.1,enc t.2.2] 1=ae (enc t.2.1):=λ_=>rfl;rw[ee,show zek none=W.non from rfl]at *;unfold zss;walk_at "wp";rw[a1];dsimp only;refine zer hr ft hw (λys hys q hq=>?_) λh0=>by rw[e]at h0;cases h0
 rw[e]at hys;cases hys
 try walk_at "wp"
 exact h q hq
theorem zuV{t:Tn}{y:Tr}{ms:List Tr}(e:t.2.1.mt y=ae ms) (hr:t.2.1.depth<r) (ft:y.fits 0) (hw:t.2.1.weight≤90000) (h:∀q,S q=none→T E D [x0,x1,ae (enc y),ae (zek (ae t)),ae (zek none),x5,ae (.ref q),x7] (put S q (.lst (encs ms)))):zss (r+1) T E D [x0,x1,ae (enc y),ae (zek (ae t)),ae (zek none),x5,x6,x7] S:=by
 have ee:∀t:Tn,zek (ae t)= .tup [.str t.1,enc t.2.1,enc t.2.2]:=λ_=>rfl;have a1:∀t:Tn,atI [W.str t.1,enc t.2.1,enc t.2.2] 1=ae (enc t.2.1):=λ_=>rfl;rw[ee,show zek none=W.non from rfl]at *;unfold zss;walk_at "wp";rw[a1];dsimp only;refine zer hr ft hw (λys hys q hq=>?_) λh0=>by rw[e]at h0;cases h0
 rw[e]at hys;cases hys
 try walk_at "wp"
 exact h q hq
end
theorem zmT (hB:∀t∈B,t.2.1.depth≤4∧t.2.1.weight≤100∧t.2.2.depth≤4∧t.2.2.weight≤100∧t.2.2.fits t.2.1.nb):∀(n:Nat) {S:Sto}{x y z:Tr}{r:Nat}{Q:WK}{E:Str→Sto→Prop},S a=ae (.lst (B.map zba))→Mv B n x y z→n+12≤r→x.hd (λ_=>True)→y.hd (λ_=>True)→x.weight≤1000→y.weight≤1000→Q (enc z) S→zcS (r+1) [.ref a,enc x,enc y] S Q E
 |0,S,x,y,z,r,Q,E,ha,M,hr,hx,hy,wx,wy,h=>by cases M
 |n+1,S,x,y,z,r,Q,E,ha,M,hr,hx,hy,wx,wy,h=>by
  obtain⟨r,rfl⟩:∃r',r=r'+1:=⟨r - 1,by omega⟩
  have one:∀{as bs:List Tr},hds (λ_=>True) as→hds (λ_=>True) bs→wts as≤1000→wts bs≤1000→ ∀(S1:Sto),Sub S S1→ ∀{a' b' c':Tr}{Q:WK}{E:Str→Sto→Prop},a'∈as→b'∈bs→Mv B n a' b' c'→Q (enc c') S1→zcS (r+1) [.ref a,enc a',enc b'] S1 Q E:=λ{as bs} h1 h2 h3 h4 S1 sb {a' b' c' Q E} m1 m2 M q=>
   zmT hB n (sb _ _ ha) M (by omega) (hds_iff.mp h1 _ m1) (hds_iff.mp h2 _ m2) (by have:=zdf m1;omega) (by have:=zdf m2;omega) q
  have start:∀{s z:Str}{ts us:List Tr}{E':WX}{D:WEnds}{S1:Sto}{va vb vf:W}{f:Option Tn}{as bs cs:List Tr},S1 a=ae (.lst (B.map zba))→Sub S S1→zxp S1 va (encs as)→zxp S1 vb (encs bs)→Mvs B n as bs cs→hds (λ_=>True) as→hds (λ_=>True) bs→wts as≤1000→wts bs≤1000→(∀t,f=ae t→t∈B∧cs.length=t.2.1.nb)→(∀S',Sub S S'→D.rt (enc (zzc f s cs)) S')→
    zyf (r+1) E' D [ae (.ref a),ae (W.tup (W.str s::encs ts)),ae (W.tup (W.str z::encs us)),ae vf,ae (zek f),ae va,ae vb,none] S1:=λ{s z ts us E' D S1 va vb vf f as bs cs} hS1 sb q1 q2 M h1 h2 h3 h4 hf hQ=>by
   have hl:=zcR as;have:=zrV (x:= .nd s ts) (y:= .nd z us) (vf:=vf) (f:=f) (x7:=none) (E:=E') (D:=D) rfl hS1 q1 q2 M (by omega) (λt ht=>by
    obtain⟨m,e⟩:=hf t ht;obtain⟨g1,g2,g3,g4,g5⟩:=hB t m;exact⟨g3,g4,by rw[e];exact g5⟩) (by omega) (one h1 h2 h3 h4 S1 sb) λS' sb'=>hQ S' (sb.trans sb')
   simpa only[enc]using this
  obtain⟨s,ts,z',us,rfl,rfl⟩:=M.nd;have ex:enc (.nd s ts)= .tup (.str s::encs ts):=by simp only[enc]
  have ey:enc (.nd z' us)= .tup (.str z'::encs us):=by simp only[enc]
  have hx':=hx;have hy':=hy;have wx':=wx;have wy':=wy;simp only[Tr.hd]at hx' hy';simp only[Tr.weight]at wx' wy';rw[znx,ex,ey];walk_at "wp";refine zfG ha (zfG ha ?_);cases M with
  | @nn _ _ _ _ _ cs e1 e2 M=>
   rw[e1,e2];exact zuJ (start (f:=none) ha .refl (.inl rfl) (.inl rfl) M hx'.2 hy'.2 (by omega) (by omega) (λ_ h=>nomatch h) λS' sb=>⟨_,sb,h⟩)
  | @ns _ _ _ _ _ cs ms t e1 e2 e3 e4 M=>
   have ht:t∈B:=cK e2;have hm:=zpX t.2.1 _ _ e3 hx;have ft:=zeH (m:=0) _ hx;obtain⟨g1,g2,g3,g4,g5⟩:=hB t ht;rw[e1,e2,←ex];refine zvn e3 (by omega) ft (by omega) λq hq=>?_;rw[ex];exact start (f:=ae t) (keep ha hq) (.put .refl hq) (.inr ⟨q,rfl,zag⟩) (.inl rfl) M hm.1 hy'.2 (by omega) (by omega) (λ_ h=>by cases h;exact⟨ht,e4⟩) λS' sb=>⟨_,sb,h⟩
  | @sn _ _ _ _ _ cs ms t e1 e2 e3 M=>
   have ht:t∈B:=cK e1;have hm:=zpX t.2.1 _ _ e3 hy;have ft:=zeH (m:=0) _ hy;obtain⟨g1,g2,g3,g4,g5⟩:=hB t ht;rw[e1,e2,←ey];refine zuV e3 (by omega) ft (by omega) λq hq=>?_;rw[ey];exact start (f:=none) (keep ha hq) (.put .refl hq) (.inl rfl) (.inr ⟨q,rfl,zag⟩) M hx'.2 hm.1 (by omega) (by omega) (λ_ h=>nomatch h) λS' sb=>⟨_,sb,h⟩
  | @ss _ _ _ _ _ cs t t' e1 e2 e3 M=>
   have ht:t∈B:=cK e2;rw[e1,e2];exact zuv (start (f:=ae t) ha .refl (.inl rfl) (.inl rfl) M hx'.2 hy'.2 (by omega) (by omega) (λ_ h=>by cases h;exact⟨ht,e3⟩) λS' sb=>⟨_,sb,h⟩)
end
theorem zvX:zaK 1=λt=>t.2.1:=by funext t;exact if_pos rfl
theorem zwt:zaK 2=λt=>t.2.2:=by funext t;exact if_neg (by decide)
section
variable {ws hs:List Str}{B:List Tn}
theorem BkOk.s1 (b:BkOk ws hs B):Sides (zaK 1) B:=by
 rw[zvX];refine⟨λt ht=>(b.lf t ht).fits,λt ht=>(b.lf t ht).dp,λt ht=>?_⟩;have h1:=(b.lf t ht).wt;have h2:=(b.lf t ht).nb;show t.2.1.weight≤10;omega
theorem BkOk.s2 (b:BkOk ws hs B):Sides (zaK 2) B:=by
 rw[zwt];refine⟨λt ht=>(b.ri t ht).fits,λt ht=>?_,λt ht=>?_⟩
 ·have:=(b.ri t ht).dp;show t.2.2.depth≤4;omega
 ·have:=(b.ri t ht).wt;show t.2.2.weight≤10;omega
mutual
theorem zzf:∀(L t:Tr) (ys:List Tr),L.mt t=ae ys→ ∀y∈ys,y.depth≤t.depth
 | .bl n,t,ys,e,y,hy=>by
  rw[Tr.mt]at e;cases e;rw[bf]at hy;rw[hy];exact au _
 | .nd s ls, .bl n,ys,e,y,hy=>by rw[Tr.mt]at e;cases e
 | .nd s ls, .nd z us,ys,e,y,hy=>by
  rw[Tr.mt]at e;split at e
  ·have:=zmC ls us ys e y hy;rw[Tr.depth];omega
  ·cases e
theorem zmC:∀(ls us ys:List Tr),mts ls us=ae ys→ ∀y∈ys,y.depth≤dts us
 | [],us,ys,e,y,hy=>by rw[mts]at e;cases e;cases hy
 |l::ls,[],ys,e,y,hy=>by rw[mts]at e;cases e;cases hy
 |l::ls,u::us,ys,e,y,hy=>by
  rw[mts]at e;cases q1:l.mt u with
  |none=>rw[q1]at e;cases e
  |some xs=>
   rw[q1]at e;cases q2:mts ls us with
   |none=>rw[q2]at e;cases e
   |some zs=>
    rw[q2]at e;cases e;rw[dts];rcases bu.mp hy with hy |hy
    ·have:=zzf l u xs q1 y hy;omega
    ·have:=zmC ls us zs q2 y hy;omega
end
mutual
theorem Mv.fuel{B:List Tn}(hn:∀t∈B,∃s ts,t.2.1= .nd s ts):∀{n:Nat}{a b c:Tr},Mv B n a b c→Mv B a.depth a b c
 |_,_,_,_, .nn h1 h2 h3=>by
  rw[Tr.depth,dW];exact .nn h1 h2 ((Mvs.fuel hn h3).mono (au _))
 |_,_,_,_, .ns (ms:=ms) (t:=t) h1 h2 h3 h4 h5=>by
  rw[Tr.depth,dW];refine .ns h1 h2 h3 h4 ((Mvs.fuel hn h5).mono (zhT λy hy=>?_));obtain⟨s',ls,e⟩:=hn t (cK h2);rw[e,Tr.mt]at h3;split at h3
  ·exact zmC _ _ _ h3 y hy
  ·cases h3
 |_,_,_,_, .sn h1 h2 h3 h4=>by
  rw[Tr.depth,dW];exact .sn h1 h2 h3 ((Mvs.fuel hn h4).mono (au _))
 |_,_,_,_, .ss h1 h2 h3 h4=>by
  rw[Tr.depth,dW];exact .ss h1 h2 h3 ((Mvs.fuel hn h4).mono (au _))
theorem Mvs.fuel{B:List Tn}(hn:∀t∈B,∃s ts,t.2.1= .nd s ts):∀{n:Nat}{as bs cs:List Tr},Mvs B n as bs cs→Mvs B (dts as) as bs cs
 |_,_,_,_, .nil=> .nil
 |_,_,_,_, .cons h1 h2=>by
  rw[dts];exact .cons ((Mv.fuel hn h1).mono (Nat.le_max_left _ _)) ((Mvs.fuel hn h2).mono (Nat.le_max_right _ _))
end
structure Pk (ws hs:List Str) (B:List Tn) (p:Pl):Prop where
  b:BkOk ws hs B
  m:zyd B
  o:PlOk hs B p
  dp:∀{c:Int→Nat},(p.ev B c).depth≤40
  wt:∀{c:Int→Nat},(p.ev B c).weight≤400
theorem Pk.ar (k:Pk ws hs B p):(p.ev B c).ar B:=zuh _ (ztn k.b k.o)
theorem Pk.hd (k:Pk ws hs B p):(p.ev B c).hd λ_=>True:=zza k.b (λ_ _=>trivial) (λ_ _ _=>trivial) k.o
theorem Pk.src (k:Pk ws hs B p):(p.ev B c).mk B (zaK 1)=p.ev B (zgu c):=by rw[zvX];exact zeA k.b k.o
theorem Pk.goal (k:Pk ws hs B p):(p.ev B c).mk B (zaK 2)=p.ev B (zbv c):=by rw[zwt];exact zdd k.b k.o
theorem Pk.ok_source (k:Pk ws hs B p) (ha:S a=ae (.lst (B.map zba))) (hr:60≤r) (h:Q (enc (p.ev B (zgu c))) S):zdt (r+1) [.ref a,enc (p.ev B c)] S Q E:=by
 have h1:=k.wt (c:=c);have h2:=k.dp (c:=c);have h3:=k.wt (c:=zgu c);have h4:=k.dp (c:=zgu c);exact L2.ok_source ha k.b.s1 (by omega) hr k.ar (by omega) (by rw[k.src];omega) (by rw[k.src];omega) (by rw[k.src];exact h)
theorem Pk.ok_goal (k:Pk ws hs B p) (ha:S a=ae (.lst (B.map zba))) (hr:60≤r) (h:Q (enc (p.ev B (zbv c))) S):zfK (r+1) [.ref a,enc (p.ev B c)] S Q E:=by
 have h1:=k.wt (c:=c);have h2:=k.dp (c:=c);have h3:=k.wt (c:=zbv c);have h4:=k.dp (c:=zbv c);exact L2.ok_goal ha k.b.s2 (by omega) hr k.ar (by omega) (by rw[k.goal];omega) (by rw[k.goal];omega) (by rw[k.goal];exact h)
def Ok2 (c d:Int→Nat):Prop:=∀x:Int,0≤x→x<8→(c x≤1∧d x≤1)∨(c x=2∧d x=2)
theorem Pk.ok_move (k:Pk ws hs B p) (hc:Ok2 c d) (ha:S a=ae (.lst (B.map zba))) (hr:60≤r) (h:Q (enc (p.ev B (zkS c d))) S):zcS (r+1) [.ref a,enc (p.ev B c),enc (p.ev B d)] S Q E:=by
 have h1:=k.wt (c:=c);have h3:=k.wt (c:=d);have bd:=k.dp (c:=c);refine zmT (λt ht=>?_) (p.ev B c).depth ha ((ziZ k.b k.m hc k.o).fuel λt ht=>(k.b.lf t ht).nd) (by omega) k.hd k.hd (by omega) (by omega) h;have L:=k.b.lf t ht;have R:=k.b.ri t ht;have g1:=L.dp;have g2:=L.wt;have g3:=L.nb;have g4:=R.dp;have g5:=R.wt;exact⟨by omega,by omega,by omega,by omega,R.fits⟩
end
theorem zyL (f x:Int):byC f x≤1:=by unfold byC;split<;>omega
section
variable {S:Sto}{a:Addr}{B:List Tn}{n:Int}
theorem zkf (B:List Tn) (s:Str) (g:Tn→W):B.findSome? (λt=>if t.1 == s then ae (g t) else none)=(zaY B s).map g:=by
 unfold zaY
 induction B with
 |nil=>rfl
 |cons t B ih=>
  rw[d6,bG];cases e:t.1 == s with
  |true=>rfl
  |false=>simpa using ih
theorem zlC (hnd:(B.map λt=>t.1).Nodup) (ha:S a=ae (.lst (B.map zba))) (hn:n=1∨n=2) (hg:Sides (zaK n) B):∀(d:Nat) {t:Tr}{r:Nat}{Q:WK}{E:Str→Sto→Prop},t.depth≤d→d+10≤r→t.ar B→t.weight≤1000→Q (enc (t.mk B (zaK n))) S→zaM (r+1) [.ref a,enc t, .int n] S Q E
 |0,t,r,Q,E,hd,hr,hh,hw,h=>by have:=zaS t;omega
 |d+1, .bl k,r,Q,E,hd,hr,hh,hw,h=>by simp [Tr.ar]at hh
 |d+1, .nd s ts,r,Q,E,hd,hr,hh,hw,h=>by
  simp only[Tr.depth]at hd;simp only[Tr.weight]at hw;simp only[Tr.ar]at hh;have hk:=zcR ts;obtain⟨r,rfl⟩:∃r',r=r'+1:=⟨r - 1,by omega⟩
  rw[zaM];simp only[enc];walk_at "wp";rw[zaw];refine zaQ (λσ=>∃x,σ=[x,ae (.ref a),ae (.int n)]) enc (λt=>enc (t.mk B (zaK n))) trivial ts [] _ ⟨none,rfl⟩ (by simp;omega) (λx hx σ R hI hR=>?_) ?_
  ·obtain⟨y,rfl⟩:=hI;have hdx:=zbA hx;have hwx:=zdf hx;simp only[zfg];walk_at "wp";exact zlC hnd ha hn hg d (by omega) (by omega) (ars_iff.mp hh.2 x hx) (by omega) (hR _ _ ⟨_,rfl⟩ .refl)
  ·rw[a8];intro q hq;have eu:(ts.map λt=>enc (t.mk B (zaK n)))=encs (ts.map (Tr.mk B (zaK n))):=by rw[zaw,bn];rfl
   rw[eu,←zaw];have fq:put S q (Ob.lst (encs (ts.map (Tr.mk B (zaK n))))) q=ae (.lst (encs (ts.map (Tr.mk B (zaK n))))):=zag;have fa:=keep (x:=Ob.lst (encs (ts.map (Tr.mk B (zaK n))))) ha hq;have sub:Sub S (put S q (Ob.lst (encs (ts.map (Tr.mk B (zaK n)))))):= .put .refl hq;generalize put S q (Ob.lst (encs (ts.map (Tr.mk B (zaK n)))))=S1 at fq fa sub⊢
   try walk_at "wp"
   rw[zaj fa];refine zfq (S:=S1) ?_ (λσ=>∃x,σ=[ae (.ref a),ae (.tup (.str s::encs ts)),ae (.int n),ae (.ref q),x]) zba (λt=>if t.1 == s then ae (enc ((zaK n t).fill (ts.map (Tr.mk B (zaK n))))) else none) B _ ⟨_,rfl⟩ (λt ht σ N hI hno hret=>?_) (λe σ hI=>?_) λw e S' sb=>?_
   ·exact fa
   ·obtain⟨x,rfl⟩:=hI;simp only[zfj];have ee:zba t= .tup [.str t.1,enc t.2.1,enc t.2.2]:=rfl;rw[ee];walk_at "wp";cases e:t.1 == s with
    |true=>
     rw[e]at hret
     try walk_at "wp"
     rw[zoB t hn];dsimp only;have et:t.1=s:=by simpa using e
     have hgw:=hg.wt t ht;refine zfP 4 (hg.dp t ht) (by omega) fq ?_ (by omega) (hret _ rfl _ .refl);rw[aq,hh.1 t (by rw[←et];exact zci hnd ht)];exact hg.fits t ht
    |false=>
     rw[e]at hno;exact hno rfl _ _ ⟨_,rfl⟩ .refl
   ·obtain⟨x,rfl⟩:=hI;rw[zkf]at e;have e0:zaY B s=none:=by
     cases z:zaY B s with
     |none=>rfl
     |some t=>rw[z]at e;cases e
    rw[zln e0]at h
    try walk_at "wp"
    rw[zmB]
    try rw[zaj fq]
    try walk_at "wp"
    simp only[enc]at h;refine⟨zal ?_,_,sub,h⟩;rw[zaT,aq];omega
   ·rw[zkf]at e;cases z:zaY B s with
    |none=>rw[z]at e;cases e
    |some t=>
     rw[z]at e;rw[zlu z]at h;cases e;exact⟨_,sub.trans sb,h⟩
end
section
variable {S:Sto}{a:Addr}{ws hs:List Str}{B:List Tn}{c:Int→Nat}{p:Pl}{r:Nat}{Q:WK}{E:Str→Sto→Prop}
theorem Pk.ok_made1 (k:Pk ws hs B p) (ha:S a=ae (.lst (B.map zba))) (hr:60≤r) (h:Q (enc (p.ev B (zgu c))) S):zaM (r+1) [.ref a,enc (p.ev B c), .int 1] S Q E:=by
 have h1:=k.wt (c:=c);have h2:=k.dp (c:=c);exact zlC k.b.nd ha (.inl rfl) k.b.s1 40 h2 (by omega) k.ar (by omega) (by rw[k.src];exact h)
theorem Pk.ok_made2 (k:Pk ws hs B p) (ha:S a=ae (.lst (B.map zba))) (hr:60≤r) (h:Q (enc (p.ev B (zbv c))) S):zaM (r+1) [.ref a,enc (p.ev B c), .int 2] S Q E:=by
 have h1:=k.wt (c:=c);have h2:=k.dp (c:=c);exact zlC k.b.nd ha (.inr rfl) k.b.s2 40 h2 (by omega) k.ar (by omega) (by rw[k.goal];exact h)
end
noncomputable def pps (B:List Tn) (s:Str) (n:Nat):List (List Int):=match zaY B s with
 |none=>(aU n).map λ(i:Nat)=>[(i:Int)]
 |some t=>t.2.1.bls.map λx=>x.1
mutual
noncomputable def Tr.us (B:List Tn) (p:List Int):Tr→List (List Int×Str)
 | .bl _=>[]
 | .nd s ts=>(match zaY B s with
  |none=>[]
  |some _=>[(p,s)])++usz B p (pps B s ts.length) ts
noncomputable def usz (B:List Tn) (p:List Int):List (List Int)→List Tr→List (List Int×Str)
 |q::qs,t::ts=>t.us B (p++q)++usz B p qs ts
 |_,_=>[]
end
noncomputable def ppl (B:List Tn) (k:Int) (n:Nat):List (List Int):=if k<0 then(aU n).map λ(i:Nat)=>[(i:Int)] else(B.getD k.toNat (⟨#[]⟩, .bl 0, .bl 0)).2.1.bls.map λx=>x.1
mutual
noncomputable def Pl.ns (B:List Tn) (p:List Int):Pl→List (List Int×Int×Str)
 | .nd k b h ps=>(if k<0 then [] else [(p,b,(B.getD k.toNat (⟨#[]⟩, .bl 0, .bl 0)).1)])++nsz B p (ppl B k ps.length) ps
noncomputable def nsz (B:List Tn) (p:List Int):List (List Int)→List Pl→List (List Int×Int×Str)
 |q::qs,t::ts=>t.ns B (p++q)++nsz B p qs ts
 |_,_=>[]
end
noncomputable def zzT (c:Int→Nat) (xs:List (List Int×Int×Str)):List (List Int×Str):=(xs.filter λx=>c x.2.1 == 1).map λx=>(x.1,x.2.2)
noncomputable def zey (B:List Tn) (t:Tr):Option Tn:=B.find? λu=>(u.2.1.mt t).isSome
mutual
noncomputable def Tr.op (B:List Tn) (p:List Int):Tr→List (List Int×Str)
 | .bl _=>[]
 | .nd s ts=>(match zey B (.nd s ts) with
  |none=>[]
  |some t=>[(p,t.1)])++ops B p 0 ts
noncomputable def ops (B:List Tn) (p:List Int) (i:Nat):List Tr→List (List Int×Str)
 | []=>[]
 |t::ts=>t.op B (p++[(i:Int)])++ops B p (i+1) ts
end
theorem zdC{n:Nat}{h c d:Str}{L:Tr}(hL:L∈leftsL n h c d):∃ts,L= .nd h ts:=by
 unfold leftsL at hL;split at hL<;>simp only[az,bx,or_false]at hL
 all_goals first
  | (subst hL;exact⟨_,rfl⟩)
  | (rcases hL with rfl |rfl<;>exact⟨_,rfl⟩)
theorem zly{s z:Str}{ls us:List Tr}(h:((Tr.nd s ls).mt (.nd z us)).isSome=true):s=z:=by
 simp only[Tr.mt]at h;split at h
 ·rename_i q;simp only[bR,beq_iff_eq]at q;exact q.1
 ·cases h
theorem zkl{n:Nat}{h c d:Str}{L M x:Tr}(hL:L∈leftsL n h c d) (hM:M∈leftsL n h c d) (h1:(L.mt x).isSome=true) (h2:(M.mt x).isSome=true):L=M:=by
  cases x with
  |bl k=>
    obtain⟨ts,rfl⟩:=zdC hL;simp [Tr.mt]at h1
  |nd s ts=>
    unfold leftsL at hL hM;split at hL<;>simp only[az,bx,or_false]at hL hM
    all_goals first
      | (rw[hL,hM])
      | (rcases hL with rfl |rfl<;>rcases hM with rfl |rfl<;>first
          |rfl
          | (exfalso
             rcases ts with _ |⟨u,us⟩
             · simp [Tr.mt]at h1
             · cases u with
               |bl k=>simp [Tr.mt,mts]at h1 h2
               |nd z vs=>
                 rcases vs with _ |⟨v,vs⟩
                 · simp [Tr.mt,mts]at h1 h2
                 · rcases vs with _ |⟨v',vs⟩
                   · cases v with
                     |bl k=>simp [Tr.mt,mts]at h1 h2
                     |nd z' xs=>
                       rcases xs with _ |⟨x',xs⟩
                       · simp [Tr.mt,mts]at h1 h2
                       · simp [Tr.mt,mts]at h1 h2
                   · simp [Tr.mt,mts]at h1 h2))
section
variable {w0 w1 w2 w3 w4 w5:Str}{tt:List Str}{B:List Tn}
theorem BookOk.one (b:BookOk w0 w1 w2 w3 w4 w5 tt B) (G:Signs w0 w1 w2 w3 w4 w5) {u v:Tn}(hu:u∈B) (hv:v∈B) {x:Tr}(h1:(u.2.1.mt x).isSome=true) (h2:(v.2.1.mt x).isSome=true):u.2.1=v.2.1:=by
 obtain⟨n,m,e⟩:=b.lf;have mu:u.2.1∈leftsL n w0 w2 w3++leftsL m w1 w2 w3:=by rw[←e];exact aI.mpr ⟨u,hu,rfl⟩
 have mv:v.2.1∈leftsL n w0 w2 w3++leftsL m w1 w2 w3:=by rw[←e];exact aI.mpr ⟨v,hv,rfl⟩
 have key:∀{L M:Tr},L∈leftsL n w0 w2 w3→M∈leftsL m w1 w2 w3→(L.mt x).isSome=true→(M.mt x).isSome=true→False:=λ{L M} hL hM k1 k2=>by
  obtain⟨ts,rfl⟩:=zdC hL;obtain⟨us,rfl⟩:=zdC hM;cases x with
  |bl k=>simp [Tr.mt]at k1
  |nd s vs=>exact G.n0 w1 (by simp) ((zly k1).trans (zly k2).symm)
 rcases bu.mp mu with z |z<;>rcases bu.mp mv with y |y
 ·exact zkl z y h1 h2
 ·exact(key z y h1 h2).elim
 ·exact(key y z h2 h1).elim
 ·exact zkl z y h1 h2
theorem zhw (n:Nat) (h c d:Str):(leftsL n h c d).Nodup:=by
 unfold leftsL;split<;>simp
theorem BookOk.inj (b:BookOk w0 w1 w2 w3 w4 w5 tt B) (G:Signs w0 w1 w2 w3 w4 w5):(B.map λt=>t.2.1).Nodup:=by
 obtain⟨n,m,e⟩:=b.lf;rw[e,iV];refine⟨zhw ..,zhw ..,λx hx y hy=>?_⟩;obtain⟨ts,rfl⟩:=zdC hx;obtain⟨us,rfl⟩:=zdC hy;intro z;cases z;exact G.n0 _ (by simp) rfl
theorem zsC{α β:Type}{f:α→β}:∀{xs:List α}{x y:α},(xs.map f).Nodup→x∈xs→y∈xs→f x=f y→x=y
 |z::xs,x,y,h,hx,hy,e=>by
  rw[aA,da]at h;rcases az.mp hx with h1 |h1
  ·rcases az.mp hy with h2 |h2
   ·rw[h1,h2]
   ·exact(h.1 (aI.mpr ⟨y,h2,by rw[←e,h1]⟩)).elim
  ·rcases az.mp hy with h2 |h2
   ·exact(h.1 (aI.mpr ⟨x,h1,by rw[e,h2]⟩)).elim
   ·exact zsC h.2 h1 h2 e
end
mutual
inductive Wi (B:List Tn) (wn:List (List Int)):Nat→List Int→Tr→Tr→Prop
 |no {n:Nat}{p:List Int}{s:Str}{ts us:List Tr}:p∉wn→zaY B s=none→Wis B wn n p ((aU ts.length).map λ(i:Nat)=>[(i:Int)]) ts us→Wi B wn (n+1) p (.nd s ts) (.nd s us)
 |yes {n:Nat}{p:List Int}{s:Str}{ts us ms:List Tr}{t:Tn}:p∈wn→zey B (.nd s ts)=ae t→t.2.1.mt (.nd s ts)=ae ms→zaY B t.1=ae t→Wis B wn n p (t.2.1.bls.map λx=>x.1) ms us→Wi B wn (n+1) p (.nd s ts) (.nd t.1 us)
inductive Wis (B:List Tn) (wn:List (List Int)):Nat→List Int→List (List Int)→List Tr→List Tr→Prop
 |nil {n:Nat}{p:List Int}:Wis B wn n p [] [] []
 |cons {n:Nat}{p q:List Int}{qs:List (List Int)}{t u:Tr}{ts us:List Tr}:Wi B wn n (p++q) t u→Wis B wn n p qs ts us→Wis B wn n p (q::qs) (t::ts) (u::us)
end
noncomputable def zkk (c:Int→Nat) (xs:List (List Int×Int×Str)):List (List Int):=(zzT c xs).map λx=>x.1
def zkF (qs:List (List Int)):Prop:=qs.Pairwise λa b=>¬a <+:b∧ ¬b <+:a
noncomputable def zkz (x:List Int×Str):W:= .tup [zbm x.1, .str x.2]
section
variable {a:Addr}{B:List Tn}
structure Lft (B:List Tn):Prop where
  d:∀t∈B,t.2.1.depth≤4
  w:∀t∈B,t.2.1.weight≤20
theorem zoe{S:Sto}{r:Nat}{Q:WK}{E:Str→Sto→Prop}{s:Str}{ts:List Tr}(L:Lft B) (ha:S a=ae (.lst (B.map zba))) (hl:ts.length≤1000) (hr:20≤r) (h:∀q,S q=none→Q (.ref q) (put S q (.lst ((pps B s ts.length).map zbm)))):zbG (r+1) [.ref a,enc (.nd s ts)] S Q E:=by
 obtain⟨r,rfl⟩:∃r',r=r'+1:=⟨r - 1,by omega⟩
 rw[zbG];simp only[enc];walk_at "wp";refine zfG ha ?_;unfold pps at h;cases e:zaY B s with
 |none=>
  rw[e]at h;simp only[zek]
  try walk_at "wp"
  rw[zaT];have e1:(((ts.length+1:Nat):Int) - 1).toNat=ts.length:=by omega
  rw[e1];refine⟨⟨by omega,by omega⟩,?_⟩
  rw[znX];refine zaQ (λσ=>∃x,σ=[x]) (λi:Nat=>W.int i) (λi=>zbm [(i:Int)]) trivial (aU ts.length) [] _ ⟨none,rfl⟩ (by simp;omega) (λx hx σ R hI hR=>?_) ?_
  ·obtain⟨y,rfl⟩:=hI;simp only[zeg];walk_at "wp";exact⟨zal (by decide),hR _ _ ⟨_,rfl⟩ .refl⟩
  ·rw[a8];intro q hq;have:=h q hq;simp only[bn]at this;exact⟨_, .refl,this⟩
 |some t=>
  rw[e]at h;have ht:t∈B:=cK e;have ee:zek (ae t)= .tup [.str t.1,enc t.2.1,enc t.2.2]:=rfl;rw[ee]
  try walk_at "wp"
  rw[show atI [W.str t.1,enc t.2.1,enc t.2.2] 1=ae (enc t.2.1) from rfl];dsimp only;have h1:=L.d t ht;have h2:=L.w t ht;refine znw (by omega) (by omega) λq hq=>?_;have:=h q hq;simp only[bn]at this;exact⟨_, .refl,this⟩
theorem zkC (B:List Tn) (x:Tr):B.findSome? (λt=>if(t.2.1.mt x).isSome then ae (zba t) else none)=(zey B x).map zba:=by
 unfold zey
 induction B with
 |nil=>rfl
 |cons t B ih=>
  rw[d6,bG];cases e:(t.2.1.mt x).isSome with
  |true=>rfl
  |false=>simpa using ih
theorem zhk{S:Sto}{r:Nat}{Q:WK}{E:Str→Sto→Prop}{x:Tr}(L:Lft B) (ha:S a=ae (.lst (B.map zba))) (hf:x.fits 0) (hr:20≤r) (h:Q (zek (zey B x)) S):zby (r+1) [.ref a,enc x] S Q E:=by
 obtain⟨r,rfl⟩:∃r',r=r'+1:=⟨r - 1,by omega⟩
 rw[zby];walk_at "wp";rw[zaj ha];refine zfq (S:=S) ?_ (λσ=>∃y,σ=[ae (.ref a),ae (enc x),y]) zba (λt=>if(t.2.1.mt x).isSome then ae (zba t) else none) B _ ⟨_,rfl⟩ (λt ht σ N hI hno hret=>?_) (λe σ hI=>?_) λw e S' sb=>?_
 ·exact ha
 ·obtain⟨y,rfl⟩:=hI;simp only[zdT];have ee:zba t= .tup [.str t.1,enc t.2.1,enc t.2.2]:=rfl;rw[ee];walk_at "wp";rw[show atI [W.str t.1,enc t.2.1,enc t.2.2] 1=ae (enc t.2.1) from rfl];dsimp only;have h1:=L.d t ht;have h2:=L.w t ht;refine zer (by omega) hf (by omega) (λys hys q hq=>?_) λh0=>?_
  ·try walk_at "wp"
   rw[hys]at hret;exact hret _ rfl _ (.put .refl hq)
  ·try walk_at "wp"
   rw[h0]at hno;exact hno rfl _ _ ⟨_,rfl⟩ .refl
 ·obtain⟨y,rfl⟩:=hI;walk_at "wp";rw[zkC]at e;have:zey B x=none:=by
   cases q:zey B x with
   |none=>rfl
   |some t=>rw[q]at e;cases e
  rw[this]at h;exact⟨_, .refl,h⟩
 ·rw[zkC]at e;cases q:zey B x with
  |none=>rw[q]at e;cases e
  |some t=>
   rw[q]at e h;cases e;exact⟨_,sb,h⟩
end
mutual
theorem zne (B:List Tn):∀(t:Tr) (p:List Int),(t.op B p).length≤t.weight
 | .bl n,p=>by simp [Tr.op]
 | .nd s ts,p=>by
  have:=zqe B ts p 0;rw[Tr.op,aS,Tr.weight];split<;>simp<;>omega
theorem zqe (B:List Tn):∀(ts:List Tr) (p:List Int) (i:Nat),(ops B p i ts).length≤wts ts
 | [],p,i=>by simp [ops]
 |t::ts,p,i=>by
  have h1:=zne B t (p++[(i:Int)]);have h2:=zqe B ts p (i+1);rw[ops,aS,wts];omega
end
section
variable {a f:Addr}{B:List Tn}
mutual
theorem zma (L:Lft B) (haf:f≠a):∀(t:Tr) {r:Nat}{p:List Int}{xs:List W}{S:Sto}{Q:WK}{E:Str→Sto→Prop},t.depth+25≤r→S a=ae (.lst (B.map zba))→S f=ae (.lst xs)→xs.length+t.weight≤100000→p.length+t.depth≤1000→t.hd (λ_=>True)→
  Q .non (put S f (.lst (xs++(t.op B p).map zkz)))→zbp (r+1) [.ref a,enc t,zbm p, .ref f] S Q E
 | .bl n,r,p,xs,S,Q,E,hr,ha,hf,hx,hp,hh,h=>by simp [Tr.hd]at hh
 | .nd s ts,r,p,xs,S,Q,E,hr,ha,hf,hx,hp,hh,h=>by
  have ft:=zeH (m:=0) _ hh;simp only[Tr.depth]at hr hp;simp only[Tr.weight]at hx;simp only[Tr.hd]at hh;obtain⟨r,rfl⟩:∃r',r=r'+1:=⟨r - 1,by omega⟩
  rw[zbp];have ee:enc (.nd s ts)= .tup (.str s::encs ts):=by simp only[enc]
  walk_at "wp";refine zhk L ha ft (by omega) ?_;rw[Tr.op]at h;cases e:zey B (.nd s ts) with
  |none=>
   rw[e]at h;simp only[a8]at h;simp only[zek];rw[ee]
   try walk_at "wp"
   exact zhh L haf ts (by omega) ha hf (by omega) (by omega) hh.2 λx5 x6=>⟨_, .refl,h⟩
  |some t=>
   rw[e]at h;have et:zek (ae t)= .tup [.str t.1,enc t.2.1,enc t.2.2]:=rfl;rw[et,ee]
   try walk_at "wp"
   simp only[zaj hf,true_and];refine⟨zal (by decide),zbO (by omega),?_⟩;refine zhh L haf ts (xs:=xs++[zkz (p,t.1)]) (by omega) (by rw[zaA (bj haf)];exact ha) zag (by simp;omega) (by omega) hh.2 λx5 x6=>⟨_, .refl,?_⟩;rw[zbb];simpa using h
theorem zhh (L:Lft B) (haf:f≠a):∀(ts:List Tr) {r:Nat}{p:List Int}{i:Nat}{xs:List W}{S:Sto}{E:WX}{D:WEnds}{t0 x4 x5 x6:Option W},dts ts+25≤r→S a=ae (.lst (B.map zba))→S f=ae (.lst xs)→xs.length+wts ts≤100000→p.length+1+dts ts≤1000→hds (λ_=>True) ts→
  (∀x5 x6,D.nx [ae (.ref a),t0,ae (zbm p),ae (.ref f),x4,x5,x6] (put S f (.lst (xs++(ops B p i ts).map zkz))))→
  forL (wGT (zaq (wGN 5) (zaq (wGN 6) zbI))) (zdg (r+1) (zbp (r+1))) E D (λ_=>True) (zgP i (encs ts)) [ae (.ref a),t0,ae (zbm p),ae (.ref f),x4,x5,x6] S
 | [],r,p,i,xs,S,E,D,t0,x4,x5,x6,hr,ha,hf,hx,hp,hh,h=>by
  simp only[encs,zgP,forL];have:=h x5 x6;rw[ops,cm,bJ,zdU hf]at this;exact this
 |t::ts,r,p,i,xs,S,E,D,t0,x4,x5,x6,hr,ha,hf,hx,hp,hh,h=>by
  simp only[dts]at hr hp;simp only[wts]at hx;simp only[hds]at hh;simp only[encs,zgP];refine zbj λN hN=>?_;simp only[zdg];walk_at "wp";rw[zlV];refine⟨zal (by decide),zal (by omega),?_⟩;have ol:=zne B t (p++[(i:Int)]);refine zma L haf t (by omega) ha hf (by omega) (by simp;omega) hh.1 ?_;refine hN _ _ _ .refl trivial (zhh L haf ts (xs:=xs++(t.op B (p++[(i:Int)])).map zkz) (by omega) (by rw[zaA (bj haf)];exact ha) zag (by simp;omega) (by omega) hh.2 λx5 x6=>?_);rw[zbb];have:=h x5 x6;rw[ops,bE]at this;simpa using this
end
theorem zsK{p q:List Int}{S:Sto}{Q:WK}:zdF (zbm p) (zbm q) S Q=(p.length+q.length≤sizeLine∧Q (zbm (p++q)) S):=by
 unfold zbm;rw[zgN,aq,aq,bE]
def PB (B:List Tn):Prop:=∀t∈B,∀x∈t.2.1.bls,x.1.length≤4
theorem zqu{s:Str}{n:Nat}(h:PB B):∀q∈pps B s n,q.length≤4:=λq hq=>by
 unfold pps at hq;cases e:zaY B s with
 |none=>
  rw[e]at hq;obtain⟨i,_,rfl⟩:=aI.mp hq;simp
 |some t=>
  rw[e]at hq;obtain⟨x,hx,rfl⟩:=aI.mp hq;exact h t (cK e) x hx
end
section
variable {a:Addr}{B:List Tn}{S:Sto}{r:Nat}{Q:WK}{E:Str→Sto→Prop}{t:Tr}
theorem zhs (L:Lft B) (ha:S a=ae (.lst (B.map zba))) (hd:t.depth≤60) (hr:t.depth+30≤r) (hw:t.weight≤1000) (hh:t.hd (λ_=>True)) (h:∀q,S q=none→Q (.ref q) (put S q (.lst ((t.op B []).map zkz)))):zcx (r+1) [.ref a,enc t] S Q E:=by
 obtain⟨r,rfl⟩:∃r',r=r'+1:=⟨r - 1,by omega⟩
 rw[zcx];walk_at "wp";refine⟨aY _,λq hq=>⟨aY _,?_⟩⟩;have hqa:q≠a:=λz=>by rw[z,ha]at hq;cases hq
 refine zma L hqa t (p:=[]) (xs:=[]) (by omega) (keep ha hq) zag (by simp;omega) (by simp;omega) hh ?_;rw[zbb,a8];exact⟨_, .refl,h q hq⟩
theorem zlO{f:Addr}{xs:List (List Int×Str)}(hf:S f=ae (.lst (xs.map zkz))) (hl:xs.length≤10000) (h:∀q,S q=none→Q (.ref q) (put S q (.lst ((xs.map λx=>x.1).map zbm)))):zda (r+1) [.ref f] S Q E:=by
 rw[zda];walk_at "wp";rw[zaj hf];refine zaQ (λσ=>∃y,σ=[y]) zkz (λx=>zbm x.1) ?_ xs [] _ ⟨none,rfl⟩ (by simp;omega) (λx hx σ R hI hR=>?_) ?_
 ·exact hf
 ·obtain⟨y,rfl⟩:=hI;simp only[zfy,zkz];walk_at "wp";exact hR _ _ ⟨_,rfl⟩ .refl
 ·rw[a8];intro q hq;have:=h q hq;rw[bn]at this;exact⟨_, .refl,this⟩
theorem zjZ{s:Str}{ts ms:List Tr}{u:Tn}(L:Lft B) (ha:S a=ae (.lst (B.map zba))) (hh:(Tr.nd s ts).hd (λ_=>True)) (hw:(Tr.nd s ts).weight≤1000) (hr:25≤r) (h1:zey B (.nd s ts)=ae u) (h2:u.2.1.mt (.nd s ts)=ae ms) (h:Q (enc (.nd u.1 ms)) S):zcM (r+1) [.ref a,enc (.nd s ts)] S Q E:=by
 obtain⟨r,rfl⟩:∃r',r=r'+1:=⟨r - 1,by omega⟩
 have ht:u∈B:=cK h1;have ft:=zeH (m:=0) _ hh;have hm:=zpX u.2.1 _ _ h2 hh;have hl:=zcR ms;rw[zcM];walk_at "wp";refine zhk L ha ft (by omega) ?_;rw[h1];have et:zek (ae u)= .tup [.str u.1,enc u.2.1,enc u.2.2]:=rfl;rw[et]
 try walk_at "wp"
 rw[show atI [W.str u.1,enc u.2.1,enc u.2.2] 1=ae (enc u.2.1) from rfl];have g1:=L.d u ht;have g2:=L.w u ht;refine⟨zal (by decide),zer (by omega) ft (by omega) (λys hys q hq=>?_) λh0=>by rw[h2]at h0;cases h0⟩
 rw[h2]at hys;cases hys
 try walk_at "wp"
 rw[zaT];simp only[enc]at h;exact⟨zal (by omega),_, .put .refl hq,h⟩
end
theorem zsw{B:List Tn}{s:Str}{n:Nat}(h:zaY B s=none):pps B s n=(aU n).map λ(i:Nat)=>[(i:Int)]:=by unfold pps;rw[h]
theorem zrD{B:List Tn}{s:Str}{n:Nat}{t:Tn}(h:zaY B s=ae t):pps B s n=t.2.1.bls.map λx=>x.1:=by unfold pps;rw[h]
theorem Wis.len{B:List Tn}{wn:List (List Int)}{n:Nat}{p:List Int}:∀{qs:List (List Int)}{ts us:List Tr},Wis B wn n p qs ts us→us.length=ts.length
 |_,_,_, .nil=>rfl
 |_,_,_, .cons _ h=>by rw[aR,aR,Wis.len h]
section
variable {a w:Addr}{B:List Tn}{wn:List (List Int)}
theorem zgY (n:Nat) (hP4:∀{t u:Tr}{p:List Int}{r:Nat}{S:Sto}{Q:WK}{E:Str→Sto→Prop},Wi B wn n p t u→n+40≤r+1→S a=ae (.lst (B.map zba))→S w=ae (.dct (zhP wn))→t.hd (λ_=>True)→t.weight≤1000→p.length+4*n≤1000→Q (enc u) S→zaV (r+1) [.ref a,enc t,zbm p, .ref w] S Q E) :
  ∀{ts us:List Tr}{qs:List (List Int)}{p:List Int},Wis B wn n p qs ts us→ ∀{r:Nat}{xs:List W}{f:Addr}{S:Sto}{G:Sto→Prop}{E:WX}{D:WEnds}{t0 x4 x6 x7:Option W},(∀q∈qs,q.length≤4)→n+40≤r+1→S a=ae (.lst (B.map zba))→S w=ae (.dct (zhP wn))→S f=ae (.lst xs)→f≠a→f≠w→xs.length+ts.length≤10000→wts ts≤1000→hds (λ_=>True) ts→p.length+4+4*n≤1000→(∀o,G (put S f o))→
  (∀x6 x7,D.nx [ae (.ref a),t0,ae (zbm p),ae (.ref w),x4,ae (.ref f),x6,x7] (put S f (.lst (xs++encs us))))→
  forL (wGT (zaq (wGN 6) (zaq (wGN 7) zbI))) (zcI (r+1) (zaV (r+1))) E D G (pairs (qs.map zbm) (encs ts)) [ae (.ref a),t0,ae (zbm p),ae (.ref w),x4,ae (.ref f),x6,x7] S
 |_,_,_,p, .nil=>by
  rename_i r xs f S G E D t0 x4 x6 x7;intro hq hr ha hw hf n1 n2 hx hwt hh hp hG h;simp only[cm,encs,pairs,forL];have:=h x6 x7;simp only[encs,bJ,zdU hf]at this;exact this
 |_,_,_,p, .cons (q:=q) (t:=t) (u:=u) (ts:=ts) (us:=us) h1 h2=>by
  rename_i r xs f S G E D t0 x4 x6 x7 qs;intro hq hr ha hw hf n1 n2 hx hwt hh hp hG h;simp only[wts]at hwt;simp only[hds]at hh;simp only[aR]at hx;have hq4:=hq q a0;simp only[aA,encs,pairs];refine zbj λN hN=>?_;simp only[zcI];walk_at "wp";simp only[zaj hf,true_and];rw[zsK];refine⟨zal (by omega),hP4 h1 hr ha hw hh.1 (by omega) (by simp;omega) ?_⟩
  try walk_at "wp"
  rw[zaj hf];refine⟨zbO (by omega),?_⟩;refine hN _ _ _ .refl (hG _) (zgY n hP4 h2 (xs:=xs++[enc u]) (λq' hq'=>hq q' (aK _ hq')) hr (by rw[zaA (bj n1)];exact ha) (by rw[zaA (bj n2)];exact hw) zag n1 n2 (by simp;omega) (by omega) hh.2 hp (λo=>by rw[zbb];exact hG o) λx6 x7=>?_)
  rw[zbb];have:=h x6 x7;simpa [encs]using this
theorem zjv (L:Lft B) (hP:PB B):∀(n:Nat) {t u:Tr}{p:List Int}{r:Nat}{S:Sto}{Q:WK}{E:Str→Sto→Prop},Wi B wn n p t u→n+40≤r+1→S a=ae (.lst (B.map zba))→S w=ae (.dct (zhP wn))→t.hd (λ_=>True)→t.weight≤1000→p.length+4*n≤1000→Q (enc u) S→zaV (r+1) [.ref a,enc t,zbm p, .ref w] S Q E
 |0,t,u,p,r,S,Q,E,M,hr,ha,hw,hh,hwt,hp,h=>by cases M
 |n+1,t,u,p,r,S,Q,E,M,hr,ha,hw,hh,hwt,hp,h=>by
  obtain⟨r,rfl⟩:∃r',r=r'+1:=⟨r - 1,by omega⟩
  have tail:∀{s:Str}{ts us:List Tr}{t0:Option W}{E':WX},Wis B wn n p (pps B s ts.length) ts us→hds (λ_=>True) ts→wts ts≤1000→Q (enc (.nd s us)) S→
    (1:Nat)=1→ ∀f,S f=none→zbG (r+1) [.ref a, .tup (.str s::encs ts)] (put S f (.lst [])) (λx S1=>zog x S1 λxs G=>forL (wGT (zaq (wGN 6) (zaq (wGN 7) zbI))) (zcI (r+1) (zaV (r+1))) E' { nx:=zaU (wOp zdF (zbD (zab (wOp oIx (zae 4) (wC (W.int 0))) waNil)) (wB zdo (zab (zae 5) waNil))) E' { nx:=λx S'=>∃S'',Sub S'' S'∧Q W.non S'',rt:=λw S'=>∃S'',Sub S'' S'∧Q w S'' },rt:=λw S'=>∃S'',Sub S'' S'∧Q w S'' } (λS'=>G S'∧True) (pairs xs (encs ts)) [ae (.ref a),t0,ae (zbm p),ae (.ref w),ae (.tup (.str s::encs ts)),ae (.ref f),none,none] S1) E:=λ{s ts us t0 E'} WW hd hw' hQ _ f hf=>by
   have hk:=zcR ts;have n1:f≠a:=λz=>by rw[z,ha]at hf;cases hf
   have n2:f≠w:=λz=>by rw[z,hw]at hf;cases hf
   have ee:W.tup (W.str s::encs ts)=enc (.nd s ts):=by simp only[enc]
   rw[ee];refine zoe L (keep ha hf) (by omega) (by omega) λq hq=>?_;rw[zhA,zgC,←ee];obtain⟨hq1,hq2⟩:=zdS hq;refine zgY n (zjv L hP n) WW (zqu hP) (by omega) (keep (keep ha hf) hq) (keep (keep hw hf) hq) (keep zag hq) n1 n2 (by simp;omega) hw' hd (by omega) (λo=>⟨?_,trivial⟩) λx6 x7=>?_
   ·show put _ f o q=_;rw[zaA hq2];exact zag
   ·have hlu:us.length≤1000:=by
     have:=Wis.len WW;omega
    walk_at "wp";rw[zaT];simp only[enc]at hQ;refine⟨zal (by decide),zal (by omega),S,?_,hQ⟩;rw[zmH hq2];exact .put (.put .refl hf) hq1
  cases M with
  | @no _ _ s ts us h1 h2 h3=>
   simp only[Tr.hd]at hh;simp only[Tr.weight]at hwt;rw[zaV];simp only[enc];walk_at "wp";rw[zlq hw,zjk,decide_eq_false h1]
   try walk_at "wp"
   refine⟨aY _,λf hf=>?_⟩;have:=tail (t0:=ae (.tup (.str s::encs ts))) (E':=λc x S'=>E c S') (by rw[zsw h2];exact h3) hh.2 (by omega) h rfl f hf;simpa only[and_true]using this
  | @yes _ _ s ts us ms t h1 h2 h3 h4 h5=>
   have hm:=zpX t.2.1 _ _ h3 hh;rw[zaV];walk_at "wp";rw[zlq hw,zjk,decide_eq_true h1]
   try walk_at "wp"
   refine zjZ L ha hh hwt (by omega) h2 h3 ?_;simp only[enc]
   try walk_at "wp"
   refine⟨aY _,λf hf=>?_⟩;have:=tail (t0:=ae (.tup (.str s::encs ts))) (E':=λc x S'=>E c S') (by rw[zrD h4];exact h5) hm.1 (by omega) h rfl f hf;simpa only[and_true]using this
end
theorem zko{S:Sto}{n:Nat}:∀(p q:List Int),zea (eqF S (n+1)) (p.map W.int) (q.map W.int)=ae (decide (p=q))
 | [],[]=>by simp [zea]
 | [],j::q=>by simp [zea]
 |i::p,[]=>by simp [zea]
 |i::p,j::q=>by
  rw[aA,aA,zea,zsA,zko p q];simp only[bB];rw[fD];simp
theorem zyB{S:Sto}{n:Nat}(p q:List Int):eqF S (n+2) (zbm p) (zbm q)=ae (decide (p=q)):=by
 unfold zbm;rw[zsE,zko]
theorem zxs{S:Sto}{x:List Int}:∀ys:List (List Int),inF S (zbm x) (ys.map zbm)=ae (decide (x∈ys))
 | []=>by simp [inF]
 |y::ys=>by
  rw[aA,inF,zyB (n:=57),zxs ys];simp only[bB];rw[fD];simp only[iG,decide_eq_true_eq,az];exact⟨λh=>h.elim (λe=> .inl e.symm) .inr,λh=>h.elim (λe=> .inl e.symm) .inr⟩
section
variable {a:Addr}{B:List Tn}{wn:List (List Int)}{S:Sto}{r n:Nat}{Q:WK}{E:Str→Sto→Prop}{t u:Tr}{f:Addr}
theorem znL (L:Lft B) (hP:PB B) (M:Wi B wn n [] t u) (hn:n≤60) (hr:110≤r) (ha:S a=ae (.lst (B.map zba))) (hf:S f=ae (.lst (wn.map zbm))) (hh:t.hd (λ_=>True)) (hw:t.weight≤1000) (hl:wn.length≤10000) (h:Q (enc u) S):zdA (r+1) [.ref a,enc t, .ref f] S Q E:=by
 obtain⟨r,rfl⟩:∃r',r=r'+1:=⟨r - 1,by omega⟩
 rw[zdA];walk_at "wp";refine⟨aY _,?_⟩;rw[zaj hf];refine zaQ (λσ=>∃y,σ=[y]) zbm (λp=>W.tup [zbm p, .bl true]) ?_ wn [] _ ⟨none,rfl⟩ (by simp;omega) (λx hx σ R hI hR=>?_) ?_
 ·exact hf
 ·obtain⟨y,rfl⟩:=hI;simp only[zgo];walk_at "wp";exact⟨zal (by decide),hR _ _ ⟨_,rfl⟩ .refl⟩
 ·rw[a8];have e:zex (wn.map λp=>W.tup [zbm p, .bl true])=ae wn:=zjx wn;rw[e];refine⟨by omega,λd hd=>?_⟩;have e0:W.tup []=zbm []:=rfl;rw[e0];exact zjv L hP n M (by omega) (keep ha hd) zag hh hw (by simp;omega) ⟨_, .put .refl hd,h⟩
theorem zri{ks:List (List Int)}(L:Lft B) (hP:PB B) (M:Wi B wn n [] t u) (hn:n≤60) (hr:115≤r) (ha:S a=ae (.lst (B.map zba))) (hf:S f=ae (.lst (wn.map zbm))) (hh:t.hd (λ_=>True)) (hw:t.weight≤1000) (hd:t.depth≤60) (hl:wn.length≤10000) (hks:((t.op B []).map λx=>x.1)=ks) (hin:∀x∈wn,x∈ks) (h:Q (enc u) S):zfk (r+1) [.ref a,enc t, .ref f] S Q E:=by
 obtain⟨r,rfl⟩:∃r',r=r'+1:=⟨r - 1,by omega⟩
 have ol:=zne B t [];rw[zfk];walk_at "wp";refine zhs L ha hd (by omega) hw hh λq hq=>?_;refine zlO zag (by omega) λq2 hq2=>?_;rw[hks];have f2:put (put S q (Ob.lst ((t.op B []).map zkz))) q2 (Ob.lst (ks.map zbm)) q2=ae (.lst (ks.map zbm)):=zag;have ff:=keep (x:=Ob.lst (ks.map zbm)) (keep (x:=Ob.lst ((t.op B []).map zkz)) hf hq) hq2;have fa:=keep (x:=Ob.lst (ks.map zbm)) (keep (x:=Ob.lst ((t.op B []).map zkz)) ha hq) hq2;have sub:Sub S (put (put S q (Ob.lst ((t.op B []).map zkz))) q2 (Ob.lst (ks.map zbm))):= .trans (.put .refl hq) (.put .refl hq2);generalize put (put S q (Ob.lst ((t.op B []).map zkz))) q2 (Ob.lst (ks.map zbm))=S2 at f2 ff fa sub⊢
 try walk_at "wp"
 rw[zaj ff];refine zfq (S:=S2) ?_ (λσ=>∃x,σ=[ae (.ref a),ae (enc t),ae (.ref f),ae (.ref q2),x]) zbm (λ_=>none) wn _ ⟨_,rfl⟩ (λx hx σ N hI hno hret=>?_) (λe σ hI=>?_) λw e S' sb=>?_
 ·exact ff
 ·obtain⟨y,rfl⟩:=hI;unfold zic;walk_at "wp";rw[zaj f2,zxs,decide_eq_true (hin x hx)]
  try walk_at "wp"
  exact hno rfl _ _ ⟨_,rfl⟩ .refl
 ·obtain⟨y,rfl⟩:=hI
  try walk_at "wp"
  exact znL L hP M hn (by omega) fa ff hh hw hl ⟨_,sub,h⟩
 ·rw[List.findSome?_eq_none_iff.mpr (λ_ _=>rfl)]at e;cases e
end
theorem zpq{S:Sto}{E:WX}{D:WEnds}{x1:Option W}{r:Nat}:∀(q:List Int) {t u:Tr}{x2:Option W},t.at q=ae u→(∀x2,D.nx [ae (enc u),x1,x2] S)→forL (wGN 2) (zcZ r zaR) E D (λ_=>True) (q.map W.int) [ae (enc t),x1,x2] S
 | [],t,u,x2,h,hD=>by
  cases t<;>simp only[Tr.at,bB]at h<;>subst h<;>simpa [forL]using hD x2
 |i::q, .bl n,u,x2,h,hD=>by simp [Tr.at]at h
 |i::q, .nd s ts,u,x2,h,hD=>by
  obtain⟨a,h2,e1,e2⟩:=zgv h;rw[aA];refine zbj λN hN=>?_;simp only[zcZ,enc];walk_at "wp";have ei:(i:Int)+1=((i.toNat+1:Nat):Int):=by omega
  rw[ei,zbU,eD,zaw,bq,e1];exact hN _ _ _ .refl trivial (zpq q e2 hD)
theorem zvB{S:Sto}{q:List Int}{t u:Tr}{r:Nat}{Q:WK}{E:Str→Sto→Prop}(ha:t.at q=ae u) (h:Q (enc u) S):zcr (r+1) [enc t,zbm q] S Q E:=by
 rw[zcr];simp only[zbm];walk_at "wp";refine zpq q ha λx2=>?_;walk_at "wp";exact⟨_, .refl,h⟩
theorem zxL{x:List Int}{t:Tr}{p:List Int}(h:x∈t.pl p):x.length<p.length+t.depth:=by
 rw[←zeP,aI]at h;obtain⟨⟨q,u⟩,hm,rfl⟩:=h;obtain⟨r,rfl,_,hr⟩:=zkN t p q u hm;simp;omega
mutual
theorem ztc (p:List Int):∀(t:Tr) (q:List Int),t.pl (p++q)=(t.pl q).map (p++ ·)
 | .bl _,q=>by simp [Tr.pl]
 | .nd _ ts,q=>by simp [Tr.pl,zok p ts q 0]
theorem zok (p:List Int):∀(ts:List Tr) (q:List Int) (i:Nat),pls (p++q) i ts=(pls q i ts).map (p++ ·)
 | [],q,i=>by simp [pls]
 |t::ts,q,i=>by rw[pls,pls,bE,←ztc p t,zok p ts q (i+1),cp]
end
noncomputable def zxh (B:List Tn) (x:List Int×Tr):List (List Int×Str):=(zey B x.2).toList.map λb=>(x.1,b.1)
mutual
theorem zon (B:List Tn):∀(t:Tr) (p:List Int),t.fits 0→(t.plt p).flatMap (zxh B)=t.op B p
 | .bl n,p,h=>by
  simp only[Tr.fits]at h;omega
 | .nd s ts,p,h=>by
  simp only[Tr.fits]at h;rw[Tr.plt,eN,zqC B ts p 0 h,Tr.op,zxh];cases zey B (.nd s ts)<;>rfl
theorem zqC (B:List Tn):∀(ts:List Tr) (p:List Int) (i:Nat),fitss 0 ts→(zgT p i ts).flatMap (zxh B)=ops B p i ts
 | [],p,i,h=>by simp [zgT,ops]
 |t::ts,p,i,h=>by
  simp only[fitss]at h;rw[zgT,ops,kl,zon B t _ h.1,zqC B ts p (i+1) h.2]
end
section
variable {c:Int→Nat}
def One (c:Int→Nat):Prop:=∀x:Int,0≤x→x<8→c x≤1
theorem One.src (hc:One c):∀x:Int,0≤x→x<8→zgu c x=0:=λx h0 h1=>by
 have:=hc x h0 h1;unfold zgu;split<;>omega
end
theorem zrv (x:Int) (h0:0≤x) (h8:x<8):byC 8 x=0:=by
 have:∀n:Nat,n<8→byC 8 (n:Int)=0:=by decide
 obtain⟨n,rfl⟩:=Int.eq_ofNat_of_zero_le h0;exact this n (by omega)
structure Pre (S:Sto) (aw at' ab:Addr) (w0 w1 w2 w3 w4 w5:Str) (tt:List Str) (B:List Tn):Prop where
  G:Signs w0 w1 w2 w3 w4 w5
  T:Titles tt
  b:BookOk w0 w1 w2 w3 w4 w5 tt B
  fw:S aw=ae (.lst (six w0 w1 w2 w3 w4 w5))
  ft:S at'=ae (.lst (tt.map W.str))
  fb:S ab=ae (.lst (B.map zba))
  sl:zxg B
theorem Pre.bk{S:Sto}{aw at' ab:Addr}{w0 w1 w2 w3 w4 w5:Str}{tt:List Str}{B:List Tn}(P:Pre S aw at' ab w0 w1 w2 w3 w4 w5 tt B):BkOk [w0,w1,w2,w3,w4,w5] [w2,w3,w4,w5] B:=P.b.bk P.T P.G
theorem Pre.ne{S:Sto}{aw at' ab:Addr}{w0 w1 w2 w3 w4 w5:Str}{tt:List Str}{B:List Tn}(P:Pre S aw at' ab w0 w1 w2 w3 w4 w5 tt B):B≠ []:=by
 have h:=P.b.len;rintro rfl;simp at h
theorem Pre.sub{S S':Sto}{aw at' ab:Addr}{w0 w1 w2 w3 w4 w5:Str}{tt:List Str}{B:List Tn}(P:Pre S aw at' ab w0 w1 w2 w3 w4 w5 tt B) (h:Sub S S'):Pre S' aw at' ab w0 w1 w2 w3 w4 w5 tt B:=⟨P.G,P.T,P.b,h _ _ P.fw,h _ _ P.ft,h _ _ P.fb,P.sl⟩
theorem zva{T:WS}{E:WX}{D:WEnds}{ns:List Int}{x1 x2 x3:Option W}{τ:WSt}{S:Sto}(h:∀(S':Sto) (aw at' ab:Addr) (w0 w1 w2 w3 w4 w5:Str) (tt:List Str) (B:List Tn),Pre S' aw at' ab w0 w1 w2 w3 w4 w5 tt B→T E D (ae (.scr ns)::ae (.ref aw)::ae (.ref at')::ae (.ref ab)::τ) S') :
  zas (wAsg (zap (zbn 199) (zab (zap (zaG 199) (zab (zae 0) (zab (wC (.int 0)) waNil))) (zab (zap (zaG 199) (zab (zae 0) (zab (wC (.int 1)) waNil))) (zab (wC (.bl false)) waNil)))) (wGN 1))
  (zas (wAsg (zap (zbn 199) (zab (zap (zaG 199) (zab (zae 0) (zab (wC (.int 2)) waNil))) (zab (zap (zaG 199) (zab (zae 0) (zab (wC (.int 3)) waNil))) (zab (wC (.bl true)) waNil)))) (wGN 2))
  (zas (wAsg (zap (zcA 199) (zab (zae 0) (zab (wC (.int 4)) (zab (zae 1) (zab (zae 2) waNil))))) (wGN 3)) T)) E D (ae (.scr ns)::x1::x2::x3::τ) S:=by
 walk_at "wp";refine zfS (by decide) λc0=>zfS (by decide) λc1=>zml λaw ws hw0 hws=>?_;obtain⟨w0,w1,w2,w3,w4,w5,rfl,G⟩:=zkX hws;have fw:put S aw (Ob.lst ([w0,w1,w2,w3,w4,w5].map W.str)) aw=ae (.lst (six w0 w1 w2 w3 w4 w5)):=zag;generalize put S aw (Ob.lst ([w0,w1,w2,w3,w4,w5].map W.str))=S1 at fw⊢;refine zfS (by decide) λc2=>zfS (by decide) λc3=>zml λat' tt ht0 htt=>?_;have ft:put S1 at' (Ob.lst (tt.map W.str)) at'=ae (.lst (tt.map W.str)):=zag;replace fw:=keep (x:=Ob.lst (tt.map W.str)) fw ht0;generalize put S1 at' (Ob.lst (tt.map W.str))=S2 at fw ft⊢;refine zup (r:=192) (zgn htt).len (by decide) fw ft λab B n m hb0 e1 e2 e3=>?_;exact h _ aw at' ab w0 w1 w2 w3 w4 w5 tt B ⟨G,zgn htt,⟨⟨n,m,e1⟩,e2,λt ht=>(e3 t ht).w⟩,keep (x:=Ob.lst (B.map zba)) fw hb0,keep (x:=Ob.lst (B.map zba)) ft hb0,zag,zvb e3⟩
theorem zhY (f:Int):One (byC f):=λx _ _=>zyL f x
section
variable {c d:Int→Nat}
theorem zir{c d:Int→Nat}(hc:One c) (hd:One d):Ok2 c d:=λx h0 h1=> .inl ⟨hc x h0 h1,hd x h0 h1⟩
end
noncomputable def u1 (B:List Tn) (p:Pl):List (List Int×Str):=zzT (byC 1) (p.ns B [])
mutual
noncomputable def Tr.ord (k:Nat):Tr→Option Nat
 | .bl n=>if n=(k:Int) then ae (k+1) else none
 | .nd _ ts=>znY k ts
noncomputable def znY (k:Nat):List Tr→Option Nat
 | []=>ae k
 |t::ts=>match t.ord k with
  |some m=>znY m ts
  |none=>none
end
def zya (B:List Tn) (z:Str):Prop:=∀u∈B,∀s ls,u.2.1= .nd s ls→s≠z
structure Ort (B:List Tn):Prop where
  inn:∀t∈B,∃s ls,t.2.1= .nd s ls∧hbs (zya B) ls
  mt:zyd B
  fm:∀t∈B,∀x ys,t.2.1.mt x=ae ys→x=t.2.1.fill ys∧ys.length=t.2.1.nb
  one:∀u∈B,∀v∈B,∀x:Tr,(u.2.1.mt x).isSome=true→(v.2.1.mt x).isSome=true→u=v
  od:∀t∈B,t.2.1.ord 0=ae t.2.1.nb
mutual
theorem zsP:∀(L x:Tr) (ys:List Tr) (k m:Nat),L.ord k=ae m→L.mt x=ae ys→ys.length+k=m∧ ∀pre post:List Tr,pre.length=k→L.fill (pre++ys++post)=x
 | .bl n,x,ys,k,m,h,e=>by
  rw[Tr.ord]at h;split at h
  ·rename_i hn;cases h;rw[Tr.mt]at e;cases e;refine⟨by simp;omega,λpre post hp=>?_⟩;rw[Tr.fill,hn,bV,bo,cp,gA (by omega),hp,gu];rfl
  ·cases h
 | .nd s ls, .bl n,ys,k,m,h,e=>by rw[Tr.mt]at e;cases e
 | .nd s ls, .nd z us,ys,k,m,h,e=>by
  rw[Tr.mt]at e;split at e
  ·rename_i hc;rw[bR,beq_iff_eq,beq_iff_eq]at hc;rw[Tr.ord]at h;obtain⟨h1,h2⟩:=zoN ls us ys k m hc.2 h e;exact⟨h1,λpre post hp=>by rw[Tr.fill,h2 pre post hp,hc.1]⟩
  ·cases e
theorem zoN:∀(ls us ys:List Tr) (k m:Nat),ls.length=us.length→znY k ls=ae m→mts ls us=ae ys→ys.length+k=m∧ ∀pre post:List Tr,pre.length=k→fills (pre++ys++post) ls=us
 | [],us,ys,k,m,hl,h,e=>by
  rw[znY]at h;cases h;rw[mts]at e;cases e;cases us with
  |nil=>exact⟨by simp,λ_ _ _=>by rw[fills]⟩
  |cons _ _=>cases hl
 |l::ls,[],ys,k,m,hl,h,e=>by cases hl
 |l::ls,u::us,ys,k,m,hl,h,e=>by
  rw[znY]at h;rw[mts]at e;cases q:l.ord k with
  |none=>rw[q]at h;cases h
  |some j=>
   rw[q]at h;cases q1:l.mt u with
   |none=>rw[q1]at e;cases e
   |some xs=>
    rw[q1]at e;cases q2:mts ls us with
    |none=>rw[q2]at e;cases e
    |some zs=>
     rw[q2]at e;cases e;obtain⟨h1,h2⟩:=zsP l u xs k j q q1;obtain⟨h3,h4⟩:=zoN ls us zs j m (by simpa using hl) h q2;refine⟨by rw[aS];omega,λpre post hp=>?_⟩;rw[fills];have e1:=h2 pre (zs++post) hp;have e2:=h4 (pre++xs) post (by rw[aS];omega);have a1:pre++(xs++zs)++post=pre++xs++(zs++post):=by simp
     have a2:pre++(xs++zs)++post=pre++xs++zs++post:=by simp
     rw[a1,e1,←a1,a2,e2]
end
theorem zmj{n:Nat}{h c d:Str}{L:Tr}(hL:L∈leftsL n h c d):L.ord 0=ae L.nb:=by
 unfold leftsL at hL;split at hL<;>simp only[az,bx,or_false]at hL
 all_goals first
  | (subst hL;simp [Tr.ord,znY,Tr.nb,nbs])
  | (rcases hL with rfl |rfl<;>simp [Tr.ord,znY,Tr.nb,nbs])
theorem zgz{n:Nat}{h c d:Str}{P:Str→Prop}(hc:P c) (hd:P d) {L:Tr}(hL:L∈leftsL n h c d):∃ls,L= .nd h ls∧hbs P ls:=by
 unfold leftsL at hL;split at hL<;>simp only[az,bx,or_false]at hL
 all_goals first
  | (subst hL;exact⟨_,rfl,by simp [hbs,Tr.hb,hc,hd]⟩)
  | (rcases hL with rfl |rfl<;>exact⟨_,rfl,by simp [hbs,Tr.hb,hc,hd]⟩)
section
variable {w0 w1 w2 w3 w4 w5:Str}{tt:List Str}{B:List Tn}
theorem BookOk.mem_lefts (b:BookOk w0 w1 w2 w3 w4 w5 tt B) {t:Tn}(ht:t∈B):∃n,t.2.1∈leftsL n w0 w2 w3∨t.2.1∈leftsL n w1 w2 w3:=by
 obtain⟨n,m,e⟩:=b.lf;have:t.2.1∈leftsL n w0 w2 w3++leftsL m w1 w2 w3:=by rw[←e];exact aI.mpr ⟨t,ht,rfl⟩
 rcases bu.mp this with z |z
 ·exact⟨n, .inl z⟩
 ·exact⟨m, .inr z⟩
theorem BookOk.ort (b:BookOk w0 w1 w2 w3 w4 w5 tt B) (G:Signs w0 w1 w2 w3 w4 w5):Ort B:=by
 have top:∀z,z≠w0→z≠w1→zya B z:=λz h0 h1 u hu s ls e=>by
  obtain⟨n,z |z⟩:=b.mem_lefts hu
  ·obtain⟨l,e',_⟩:=zgz (P:=λ_=>True) trivial trivial z;rw[e]at e';cases e';exact h0.symm
  ·obtain⟨l,e',_⟩:=zgz (P:=λ_=>True) trivial trivial z;rw[e]at e';cases e';exact h1.symm
 have t2:=top w2 (G.n0 w2 (by simp)).symm (G.n1 w2 (by simp)).symm;have t3:=top w3 (G.n0 w3 (by simp)).symm (G.n1 w3 (by simp)).symm;have od:∀t∈B,t.2.1.ord 0=ae t.2.1.nb:=λt ht=>by
  obtain⟨n,z |z⟩:=b.mem_lefts ht
  ·exact zmj z
  ·exact zmj z
 refine⟨λt ht=>?_,b.mt,λt ht x ys e=>?_,λu hu v hv x h1 h2=>zsC (b.inj G) hu hv (b.one G hu hv h1 h2),od⟩
 ·obtain⟨n,z |z⟩:=b.mem_lefts ht
  ·obtain⟨l,e',h⟩:=zgz t2 t3 z;exact⟨_,_,e',h⟩
  ·obtain⟨l,e',h⟩:=zgz t2 t3 z;exact⟨_,_,e',h⟩
 ·have ho:=od t ht;obtain⟨h1,h2⟩:=zsP _ _ _ _ _ ho e;have:=h2 [] [] rfl;simp only[a8,bJ]at this;exact⟨this.symm,by omega⟩
end
structure Wy (ws:List Str) (B:List Tn) (a:Tr):Prop where
  hd:a.hd λs=>s∈ws∨ ∃t∈B,t.1=s
  ar:a.ar B
noncomputable abbrev src (B:List Tn) (a:Tr):Tr:=a.mk B λt=>t.2.1
noncomputable abbrev gol (B:List Tn) (a:Tr):Tr:=a.mk B λt=>t.2.2
section
variable {ws:List Str}{B:List Tn}
theorem zlh{P:Str→Prop}:∀{ts:List Tr}{t:Tr},hds P ts→t∈ts→t.hd P
 |u::ts,t,h,ht=>by
  rw[hds]at h;rcases az.mp ht with rfl |ht
  ·exact h.1
  ·exact zlh h.2 ht
theorem zlz:∀{ts:List Tr}{t:Tr},ars B ts→t∈ts→t.ar B
 |u::ts,t,h,ht=>by
  rw[ars]at h;rcases az.mp ht with rfl |ht
  ·exact h.1
  ·exact zlz h.2 ht
theorem Wy.cases (b:BkOk ws ws B) {a:Tr}(h:Wy ws B a):(∃s as,a= .nd s as∧s∈ws∧zaY B s=none∧ ∀x∈as,Wy ws B x)∨(∃t as,t∈B∧a= .nd t.1 as∧zaY B t.1=ae t∧as.length=t.2.1.nb∧ ∀x∈as,Wy ws B x):=by
 obtain⟨h1,h2⟩:=h;cases a with
 |bl n=>rw[Tr.hd]at h1;exact h1.elim
 |nd s as=>
  rw[Tr.hd]at h1;rw[Tr.ar]at h2;have kids:∀x∈as,Wy ws B x:=λx hx=>⟨zlh h1.2 hx,zlz h2.2 hx⟩;rcases h1.1 with h |⟨t,ht,rfl⟩
  ·exact .inl ⟨s,as,rfl,h,zbh b.ti (b.sg s h),kids⟩
  ·have e:=zci b.nd ht;exact .inr ⟨t,as,ht,rfl,e,h2.1 t e,kids⟩
theorem zeh{g:Tn→Tr}{s:Str}{as:List Tr}(h:zaY B s=none):(Tr.nd s as).mk B g= .nd s (as.map (Tr.mk B g)):=by
 rw[Tr.mk,h,zha]
theorem zdy{g:Tn→Tr}{t:Tn}{as:List Tr}(h:zaY B t.1=ae t):(Tr.nd t.1 as).mk B g=(g t).fill (as.map (Tr.mk B g)):=by
 rw[Tr.mk,h,zha]
mutual
theorem zwV (b:BkOk ws ws B) (O:Ort B):∀(L a:Tr),L.hb (zya B)→Wy ws B a→(L.mt (src B a)).isSome=true→(L.mt a).isSome=true
 | .bl n,a,_,_,_=>by rw[Tr.mt];rfl
 | .nd z ls,a,hL,ha,h=>by
  rw[Tr.hb]at hL;rcases ha.cases b with⟨s,as,rfl,hs,e,kids⟩ |⟨t,as,ht,rfl,e,hl,kids⟩
  ·rw[show src B (.nd s as)= .nd s (as.map (src B)) from zeh e,Tr.mt,aq]at h;rw[Tr.mt];split at h
   ·rename_i hc;rw[if_pos hc];exact zlF b O ls as hL.2 kids h
   ·cases h
  ·obtain⟨s0,l0,e0,_⟩:=O.inn t ht;rw[show src B (.nd t.1 as)=t.2.1.fill (as.map (src B)) from zdy e,e0,Tr.fill]at h;exact absurd (zly h).symm (hL.1 t ht s0 l0 e0)
theorem zlF (b:BkOk ws ws B) (O:Ort B):∀(ls as:List Tr),hbs (zya B) ls→(∀x∈as,Wy ws B x)→(mts ls (as.map (src B))).isSome=true→(mts ls as).isSome=true
 | [],as,_,_,_=>by rw[mts];rfl
 |l::ls,[],_,_,_=>by rw[mts];rfl
 |l::ls,a::as,hL,ha,h=>by
  rw[hbs]at hL;rw[aA,mts]at h;cases q1:l.mt (src B a) with
  |none=>rw[q1]at h;cases h
  |some xs=>
   rw[q1]at h;cases q2:mts ls (as.map (src B)) with
   |none=>rw[q2]at h;cases h
   |some zs=>
    have h1:=zwV b O l a hL.1 (ha a (by simp)) (by rw[q1];rfl);have h2:=zlF b O ls as hL.2 (λx hx=>ha x (aK _ hx)) (by rw[q2];rfl);obtain⟨x1,h1⟩:=dr.mp h1;obtain⟨x2,h2⟩:=dr.mp h2;rw[mts,h1,h2];rfl
end
end
section
variable {ws:List Str}{B:List Tn}
theorem Wy.kids{s:Str}{as:List Tr}(h:Wy ws B (.nd s as)):∀x∈as,Wy ws B x:=λx hx=>by
 obtain⟨h1,h2⟩:=h;rw[Tr.hd]at h1;rw[Tr.ar]at h2;exact⟨zlh h1.2 hx,zlz h2.2 hx⟩
mutual
theorem zvq:∀(L a:Tr) (ys:List Tr),L.mt a=ae ys→Wy ws B a→ ∀y∈ys,Wy ws B y
 | .bl n,a,ys,e,h,y,hy=>by
  rw[Tr.mt]at e;cases e;rw[bf]at hy;rw[hy];exact h
 | .nd s ls, .bl n,ys,e,h,y,hy=>by rw[Tr.mt]at e;cases e
 | .nd s ls, .nd z us,ys,e,h,y,hy=>by
  rw[Tr.mt]at e;split at e
  ·exact ztp ls us ys e h.kids y hy
  ·cases e
theorem ztp:∀(ls us ys:List Tr),mts ls us=ae ys→(∀x∈us,Wy ws B x)→ ∀y∈ys,Wy ws B y
 | [],us,ys,e,h,y,hy=>by rw[mts]at e;cases e;cases hy
 |l::ls,[],ys,e,h,y,hy=>by rw[mts]at e;cases e;cases hy
 |l::ls,u::us,ys,e,h,y,hy=>by
  rw[mts]at e;cases q1:l.mt u with
  |none=>rw[q1]at e;cases e
  |some xs=>
   rw[q1]at e;cases q2:mts ls us with
   |none=>rw[q2]at e;cases e
   |some zs=>
    rw[q2]at e;cases e;rcases bu.mp hy with hy |hy
    ·exact zvq l u xs q1 (h u (by simp)) y hy
    ·exact ztp ls us zs q2 (λx hx=>h x (aK _ hx)) y hy
end
theorem zmd (b:BkOk ws ws B) {t:Tn}(ht:t∈B) {vs:List Tr}(hl:vs.length=t.2.1.nb) (g:Tn→Tr):(t.2.1.fill vs).mk B g=t.2.1.fill (vs.map (Tr.mk B g)):=
 ziX b.ti _ (b.lf t ht).hb (by rw[hl];exact(b.lf t ht).fits)
theorem zeN (b:BkOk ws ws B) (O:Ort B) {t:Tn}(ht:t∈B) {s:Str}{bs us:List Tr}(e:zaY B s=none) (hw:Wy ws B (.nd s bs)) (hl:us.length=t.2.1.nb) (h:src B (.nd s bs)=t.2.1.fill us) :
  ∃vs, .nd s bs=t.2.1.fill vs∧vs.length=t.2.1.nb∧vs.map (src B)=us∧(∀x∈vs,Wy ws B x)∧wts vs≤(Tr.nd s bs).weight:=by
 obtain⟨s0,ls,e0,hin⟩:=O.inn t ht;have hm:t.2.1.mt (src B (.nd s bs))=ae us:=by rw[h];exact O.mt t ht us hl
 have h1:(t.2.1.mt (.nd s bs)).isSome=true:=by
  have hm':=hm;rw[show src B (.nd s bs)= .nd s (bs.map (src B)) from zeh e,e0,Tr.mt,aq]at hm';rw[e0,Tr.mt];split at hm'
  ·rename_i hc;rw[if_pos hc];exact zlF b O ls bs hin hw.kids (by rw[hm'];rfl)
  ·cases hm'
 obtain⟨vs,hv⟩:=dr.mp h1;obtain⟨h2,h3⟩:=O.fm t ht _ _ hv;refine⟨vs,h2,h3,?_,zvq _ _ _ hv hw,zkr _ _ _ hv⟩;rw[h2,show src B (t.2.1.fill vs)=_ from zmd b ht h3 _,O.mt t ht _ (by rw[aq,h3])]at hm;exact aG hm
theorem zfn{s:Str}{as:List Tr}:(Tr.nd s as).weight=1+wts as:=by rw[Tr.weight]
inductive PlB (P:Int→Prop):Pl→Prop
 |sign {b:Int}{h:Str}{ps:List Pl}:(∀p∈ps,PlB P p)→PlB P (.nd (-1) b h ps)
 |turn {k:Nat}{b:Int}{h:Str}{ps:List Pl}:P b→(∀p∈ps,PlB P p)→PlB P (.nd k b h ps)
def zvx (x:Int):Prop:=x=1∨x=2∨x=3
theorem zrm (b:BkOk ws ws B) (O:Ort B):∀(n:Nat) (x y:Tr),x.weight+y.weight≤n→Wy ws B x→Wy ws B y→src B x=src B y→ ∃p,PlOk ws B p∧PlB zvx p∧p.ev B (byC 1)=x∧p.ev B (byC 2)=y
 |0,x,y,hn,hx,hy,e=>by
  rcases hx.cases b with⟨s,as,rfl,_⟩ |⟨t,as,_,rfl,_⟩<;>rw[zfn]at hn<;>omega
 |n+1,x,y,hn,hx,hy,e=>by
  have lists:∀(xs ys:List Tr),wts xs+wts ys≤n→(∀x∈xs,Wy ws B x)→(∀y∈ys,Wy ws B y)→xs.map (src B)=ys.map (src B)→ ∃ps:List Pl,(∀p∈ps,PlOk ws B p)∧(∀p∈ps,PlB zvx p)∧ps.map (Pl.ev B (byC 1))=xs∧ps.map (Pl.ev B (byC 2))=ys:=by
   intro xs
   induction xs with
   |nil=>
    intro ys _ _ _ e;cases ys with
    |nil=>exact⟨[],by simp,by simp,rfl,rfl⟩
    |cons y ys=>cases e
   |cons x xs ih=>
    intro ys hw h1 h2 e;cases ys with
    |nil=>cases e
    |cons y ys=>
     rw[aA,aA,iY]at e;rw[wts,wts]at hw;obtain⟨p,hp,hq,e1,e2⟩:=zrm b O n x y (by omega) (h1 x (by simp)) (h2 y (by simp)) e.1;obtain⟨ps,hps,hqs,e3,e4⟩:=ih ys (by omega) (λz hz=>h1 z (aK _ hz)) (λz hz=>h2 z (aK _ hz)) e.2;exact⟨p::ps,λq hq=>by
      rcases az.mp hq with rfl |hq
      ·exact hp
      ·exact hps q hq,λq hz=>by
      rcases az.mp hz with rfl |hz
      ·exact hq
      ·exact hqs q hz,by rw[aA,e1,e3],by rw[aA,e2,e4]⟩
  rcases hx.cases b with⟨s,as,rfl,hs,es,ka⟩ |⟨t,as,ht,rfl,et,la,ka⟩
  ·rcases hy.cases b with⟨s',bs,rfl,hs',es',kb⟩ |⟨t,bs,ht,rfl,et,lb,kb⟩
   ·rw[show src B (.nd s as)=_ from zeh es,show src B (.nd s' bs)=_ from zeh es']at e;injection e with e1 e2;subst e1;rw[zfn,zfn]at hn;obtain⟨ps,hps,hqs,e3,e4⟩:=lists as bs (by omega) ka kb e2;exact⟨.nd (-1) 0 s ps, .sign hs hps, .sign hqs,by rw[zaZ,e3],by rw[zaZ,e4]⟩
   ·rw[show src B (.nd t.1 bs)=_ from zdy et]at e;obtain⟨vs,ev,lv,ms,kv,wv⟩:=zeN b O ht es hx (by rw[aq,lb]) e;rw[zfn (s:=t.1)]at hn;obtain⟨ps,hps,hqs,e3,e4⟩:=lists vs bs (by omega) kv kb ms;obtain⟨k,hk⟩:=gg ht;refine⟨.nd k 2 t.1 ps, .turn hk (by rw[←lb,←e4,aq]) (by decide) (by decide) hps, .turn (by unfold zvx;decide) hqs,?_,?_⟩
    ·rw[zaN hk,e3,ev,show byC 1 2=0 by decide];rfl
    ·rw[zaN hk,e4,show byC 2 2=1 by decide];rfl
  ·rcases hy.cases b with⟨s,bs,rfl,hs,es,kb⟩ |⟨u,bs,hu,rfl,eu,lb,kb⟩
   ·rw[show src B (.nd t.1 as)=_ from zdy et]at e;obtain⟨vs,ev,lv,ms,kv,wv⟩:=zeN b O ht es hy (by rw[aq,la]) e.symm;rw[zfn (s:=t.1)]at hn;obtain⟨ps,hps,hqs,e3,e4⟩:=lists as vs (by omega) ka kv ms.symm;obtain⟨k,hk⟩:=gg ht;refine⟨.nd k 1 t.1 ps, .turn hk (by rw[←la,←e3,aq]) (by decide) (by decide) hps, .turn (by unfold zvx;decide) hqs,?_,?_⟩
    ·rw[zaN hk,e3,show byC 1 1=1 by decide];rfl
    ·rw[zaN hk,e4,ev,show byC 2 1=0 by decide];rfl
   ·rw[show src B (.nd t.1 as)=_ from zdy et,show src B (.nd u.1 bs)=_ from zdy eu]at e;have m1:=O.mt t ht (as.map (src B)) (by rw[aq,la]);have m2:=O.mt u hu (bs.map (src B)) (by rw[aq,lb]);have:t=u:=O.one t ht u hu _ (by rw[m1];rfl) (by rw[show(t.2.1.fill (as.map (src B)))=_ from e,m2];rfl)
    subst this;have e2:as.map (src B)=bs.map (src B):=by
     rw[show(t.2.1.fill (as.map (src B)))=_ from e,m2]at m1;exact(aG m1).symm
    rw[zfn,zfn]at hn;obtain⟨ps,hps,hqs,e3,e4⟩:=lists as bs (by omega) ka kb e2;obtain⟨k,hk⟩:=gg ht;refine⟨.nd k 3 t.1 ps, .turn hk (by rw[←la,←e3,aq]) (by decide) (by decide) hps, .turn (by unfold zvx;decide) hqs,?_,?_⟩
    ·rw[zaN hk,e3,show byC 1 3=1 by decide];rfl
    ·rw[zaN hk,e4,show byC 2 3=1 by decide];rfl
end
theorem zqP:∀xs ys:List Tr,wts (xs++ys)=wts xs+wts ys
 | [],ys=>by rw[a8,wts,b5]
 |x::xs,ys=>by rw[dR,wts,wts,zqP xs ys,jE]
mutual
theorem ziD:∀(L:Tr) (k m:Nat),L.ord k=ae m→k≤m∧L.nb+k=m∧ ∀(us:List Tr),m≤us.length→(L.fill us).weight+(m - k)=L.weight+wts ((us.drop k).take (m - k))∧ ∀u∈(us.drop k).take (m - k),u.depth≤(L.fill us).depth
 | .bl n,k,m,h=>by
  rw[Tr.ord]at h;split at h
  ·rename_i hn;cases h;refine⟨by omega,by rw[Tr.nb];omega,λus hu=>?_⟩
   have hk:k<us.length:=by omega
   have e:(us.drop k).take (k+1 - k)=[us[k]]:=by
    rw[show k+1 - k=1 by omega,eP hk]
    rfl
   have f:(Tr.bl n).fill us=us[k]:=by
    rw[Tr.fill,hn,bV,bo,a9 hk];rfl
   rw[e,f];refine⟨?_,λu hu=>?_⟩
   ·simp only[Tr.weight,wts];omega
   ·rw[bf]at hu;rw[hu];exact au _
  ·cases h
 | .nd s ls,k,m,h=>by
  rw[Tr.ord]at h;obtain⟨h1,h2,h3⟩:=zfL ls k m h;refine⟨h1,by rw[Tr.nb];exact h2,λus hu=>?_⟩
  obtain⟨h4,h5⟩:=h3 us hu;rw[Tr.fill,Tr.weight,Tr.weight,Tr.depth];exact⟨by omega,λu hu'=>aW (h5 u hu') (by omega)⟩
theorem zfL:∀(ls:List Tr) (k m:Nat),znY k ls=ae m→k≤m∧nbs ls+k=m∧ ∀(us:List Tr),m≤us.length→wts (fills us ls)+(m - k)=wts ls+wts ((us.drop k).take (m - k))∧ ∀u∈(us.drop k).take (m - k),u.depth≤dts (fills us ls)
 | [],k,m,h=>by
  rw[znY]at h;cases h;refine⟨au _,by rw[nbs];omega,λus _=>?_⟩
  rw[gu,jk,fills];exact⟨rfl,λu hu=>by cases hu⟩
 |l::ls,k,m,h=>by
  rw[znY]at h;cases q:l.ord k with
  |none=>rw[q]at h;cases h
  |some j=>
   rw[q]at h;obtain⟨h1,h2,h3⟩:=ziD l k j q;obtain⟨g1,g2,g3⟩:=zfL ls j m h;refine⟨by omega,by rw[nbs];omega,λus hu=>?_⟩
   obtain⟨h4,h5⟩:=h3 us (by omega);obtain⟨g4,g5⟩:=g3 us hu;have e:(us.drop k).take (m - k)=(us.drop k).take (j - k)++(us.drop j).take (m - j):=by
    rw[show m - k=(j - k)+(m - j) by omega,iN,jV,show k+(j - k)=j by omega]
   rw[e,zqP,fills,wts,wts,dts];refine⟨by omega,λu hu=>?_⟩;rcases bu.mp hu with hu |hu
   ·have:=h5 u hu;omega
   ·have:=g5 u hu;omega
end
theorem zgW:∀(L:Tr),L.nb≤L.weight:=λL=>by rw[←zwT];exact ztz L
theorem zot:∀ls:List Tr,nbs ls≤wts ls
 | []=>by rw[nbs,wts];exact au _
 |l::ls=>by rw[nbs,wts];have:=zgW l;have:=zot ls;omega
section
variable {B:List Tn}
theorem Ort.fill (O:Ort B) {t:Tn}(ht:t∈B) {us:List Tr}(hl:us.length=t.2.1.nb):(t.2.1.fill us).weight+t.2.1.nb=t.2.1.weight+wts us∧1+wts us≤(t.2.1.fill us).weight∧1+dts us≤(t.2.1.fill us).depth:=by
 obtain⟨s,ls,e,_⟩:=O.inn t ht;have ho:=O.od t ht;obtain⟨_,h2,h3⟩:=ziD _ _ _ ho;obtain⟨h4,_⟩:=h3 us (by omega);rw[eA,dc,c_ (by omega)]at h4;have hw:1+t.2.1.nb≤t.2.1.weight:=by
  rw[e,Tr.nb,Tr.weight];have:=zot ls;omega
 refine⟨h4,by omega,?_⟩
 rw[e]at ho hl⊢;rw[Tr.ord]at ho;obtain⟨_,_,g3⟩:=zfL _ _ _ ho;obtain⟨_,g5⟩:=g3 us (by omega);rw[eA,dc,c_ (by omega)]at g5;rw[Tr.fill,Tr.depth];have:=zhT g5;omega
mutual
noncomputable def Pl.pn:Pl→Nat
 | .nd k _ _ ps=>(if k<0 then 0 else 1)+pns ps
noncomputable def pns:List Pl→Nat
 | []=>0
 |p::ps=>max p.pn (pns ps)
end
theorem zhr{p:Pl}:∀{ps:List Pl},p∈ps→p.pn≤pns ps
 |q::ps,h=>by
  rw[pns];rcases az.mp h with rfl |h
  ·omega
  ·have:=zhr h;omega
noncomputable def zr:Int→Nat:=λ_=>0
theorem zkW{c:Int→Nat}{n:Nat}:∀(ps:List Pl),(∀p∈ps,(p.ev B c).weight≤2 ^ n*(p.ev B zr).weight)→wts (ps.map (Pl.ev B c))≤2 ^ n*wts (ps.map (Pl.ev B zr))
 | [],_=>by simp [wts]
 |p::ps,h=>by
  have h1:=h p a0;have h2:=zkW ps λq hq=>h q (aK _ hq);rw[aA,aA,wts,wts,fv];omega
theorem zfU{c:Int→Nat}(b:BkOk ws ws B) (sl:zxg B) (O:Ort B) {p:Pl}(h:PlOk ws B p):(p.ev B c).weight≤2 ^ p.pn*(p.ev B zr).weight:=by
 induction h with
 | @sign b' h ps hh hp ih=>
  have hk:∀p∈ps,(p.ev B c).weight≤2 ^ pns ps*(p.ev B zr).weight:=λp hp=>aW (ih p hp) (dn _ (db (by decide) (zhr hp)));have:=zkW ps hk;have hp1:=zeM (pns ps);rw[zaZ,zaZ,Tr.weight,Tr.weight,Pl.pn,if_pos (by decide),b5,fv,Nat.mul_one];omega
 | @turn k b' h ps t e hl b0 b1 hp ih=>
  have ht:t∈B:=aX e;have hk:∀p∈ps,(p.ev B c).weight≤2 ^ pns ps*(p.ev B zr).weight:=λp hp=>aW (ih p hp) (dn _ (db (by decide) (zhr hp)));have hs:=zkW ps hk;have hp1:=zeM (pns ps);have en:(Pl.nd k b' h ps).pn=1+pns ps:=by rw[Pl.pn,if_neg (by omega)]
  have l1:(ps.map (Pl.ev B c)).length=t.2.1.nb:=by rw[aq,hl]
  have l0:(ps.map (Pl.ev B zr)).length=t.2.1.nb:=by rw[aq,hl]
  obtain⟨f1,_,_⟩:=O.fill ht l1;obtain⟨f2,f3,_⟩:=O.fill ht l0;rw[zaN e,zaN e,en,show zr b'=0 from rfl];show(evT t (c b') _).weight≤2 ^ (1+pns ps)*(t.2.1.fill (ps.map (Pl.ev B zr))).weight;have hpow:2 ^ (1+pns ps)=2*2 ^ pns ps:=by rw[Nat.pow_add]
  have hm:2 ^ (1+pns ps)*(1+wts (ps.map (Pl.ev B zr)))=2*2 ^ pns ps+2*(2 ^ pns ps*wts (ps.map (Pl.ev B zr))):=by rw[hpow,fv,Nat.mul_one,gv]
  have hge:=dY (2 ^ (1+pns ps)) f3;unfold evT;split
  ·have g1:2 ^ pns ps*(t.2.1.fill (ps.map (Pl.ev B zr))).weight≤2 ^ (1+pns ps)*(t.2.1.fill (ps.map (Pl.ev B zr))).weight:=dn _ (db (by decide) (by omega));refine aW ?_ g1;have hc:(t.2.1.fill (ps.map (Pl.ev B zr))).weight=(t.2.1.weight - t.2.1.nb)+wts (ps.map (Pl.ev B zr)):=by
    have:=zgW t.2.1;omega
   have g2:t.2.1.weight - t.2.1.nb≤2 ^ pns ps*(t.2.1.weight - t.2.1.nb):=jY _ hp1;rw[hc,fv];have:=zgW t.2.1;omega
  ·rw[Tr.weight];omega
  ·have hM:1≤2 ^ pns ps*(1+wts (ps.map (Pl.ev B zr))):=aW hp1 (kB _ (by omega));cases hps:ps with
   |nil=>
    subst hps;have:=(sl t ht _ 1 l1 (by decide) (λu hu=>by simp at hu)).2 (by simpa using hl.symm)
    simp only[cm]at *;have:pns []=0:=by rw[pns]
    rw[this]at *;simp only[wts]at *;omega
   |cons q qs=>
    rw[←hps];have hw1:1≤wts (ps.map (Pl.ev B zr)):=by
     rw[hps,aA,wts];have:=zen (q.ev B zr);omega
    have hX:1≤2 ^ pns ps*wts (ps.map (Pl.ev B zr)):=aW hp1 (kB _ hw1);have:=(sl t ht _ (2 ^ pns ps*wts (ps.map (Pl.ev B zr))) l1 hX λu hu=>by
     obtain⟨p,hp,rfl⟩:=aI.mp hu;exact aW (hk p hp) (dY _ (zdf (aI.mpr ⟨p,hp,rfl⟩)))).1
    omega
end
section
variable {ws:List Str}{B:List Tn}
theorem zgX{c:Int→Nat}(b:BkOk ws ws B) (O:Ort B) {p:Pl}(h:PlOk ws B p):(p.ev B c).depth≤(p.ev B zr).depth+3*p.pn:=by
 induction h with
 | @sign b' h ps hh hp ih=>
  rw[zaZ,zaZ,Tr.depth,Tr.depth,Pl.pn,if_pos (by decide)];have:dts (ps.map (Pl.ev B c))≤dts (ps.map (Pl.ev B zr))+3*pns ps:=zhT λt ht=>by
   obtain⟨p,hp,rfl⟩:=aI.mp ht;have:=ih p hp;have:=zhr hp;have:=zbA (aI.mpr ⟨p,hp,rfl⟩:p.ev B zr∈ps.map (Pl.ev B zr));omega
  omega
 | @turn k b' h ps t e hl b0 b1 hp ih=>
  have ht:t∈B:=aX e;have l0:(ps.map (Pl.ev B zr)).length=t.2.1.nb:=by rw[aq,hl]
  obtain⟨_,_,f3⟩:=O.fill ht l0;have hk:∀u∈ps.map (Pl.ev B c),u.depth≤dts (ps.map (Pl.ev B zr))+3*pns ps:=λt ht=>by
   obtain⟨p,hp,rfl⟩:=aI.mp ht;have:=ih p hp;have:=zhr hp;have:=zbA (aI.mpr ⟨p,hp,rfl⟩:p.ev B zr∈ps.map (Pl.ev B zr));omega
  have en:(Pl.nd k b' h ps).pn=1+pns ps:=by rw[Pl.pn,if_neg (by omega)]
  have fd:∀L:Tr,L.depth≤4→(L.fill (ps.map (Pl.ev B c))).depth≤4+dts (ps.map (Pl.ev B zr))+3*pns ps:=λL hL=>by
   cases ps with
   |nil=>
    have:=zhm L;simp only[cm]at *;omega
   |cons q qs=>
    have h1:1≤(q.ev B zr).depth:=by
     have:=O.inn;cases q.ev B zr<;>simp [Tr.depth]
    have:=zhV (k:=dts ((q::qs).map (Pl.ev B zr))+3*pns (q::qs)) (by rw[aA,dts];omega) hk L;omega
  rw[zaN e,zaN e,en,show zr b'=0 from rfl];show(evT t (c b') _).depth≤(t.2.1.fill (ps.map (Pl.ev B zr))).depth+3*(1+pns ps);unfold evT;split
  ·have:=fd _ (b.lf t ht).dp;omega
  ·rw[Tr.depth];have:=zhT hk;omega
  ·have:=(b.ri t ht).dp;have:=fd t.2.2 (by omega);omega
mutual
noncomputable def Tr.ne (B:List Tn):Tr→Nat
 | .bl _=>0
 | .nd s ts=>(match zaY B s with
  |none=>0
  |some _=>1)+nes B ts
noncomputable def nes (B:List Tn):List Tr→Nat
 | []=>0
 |t::ts=>max (t.ne B) (nes B ts)
end
theorem zkT{t:Tr}:∀{ts:List Tr},t∈ts→t.ne B≤nes B ts
 |u::ts,h=>by
  rw[nes];rcases az.mp h with rfl |h
  ·omega
  ·have:=zkT h;omega
theorem zgg{n:Nat}:∀{ts:List Tr},(∀t∈ts,t.ne B≤n)→nes B ts≤n
 | [],_=>by rw[nes];omega
 |t::ts,h=>by
  rw[nes];have:=h t (by simp);have:=zgg λu hu=>h u (aK _ hu);omega
mutual
theorem zjf (hB:∀t∈B,zde t.1) {us:List Tr}:∀t:Tr,t.hb zcN→(t.fill us).ne B≤nes B us
 | .bl n,_=>by
  rw[Tr.fill,bo];cases e:us[n.toNat]? with
  |none=>simp [Tr.ne]
  |some u=>exact zkT (aX e)
 | .nd s ts,h=>by
  rw[Tr.hb]at h;rw[Tr.fill,Tr.ne,zbh hB h.1];have:=znh hB (us:=us) ts h.2;simpa using this
theorem znh (hB:∀t∈B,zde t.1) {us:List Tr}:∀ts:List Tr,hbs zcN ts→nes B (fills us ts)≤nes B us
 | [],_=>by rw[fills,nes];omega
 |t::ts,h=>by
  rw[hbs]at h;rw[fills,nes];have:=zjf hB (us:=us) t h.1;have:=znh hB (us:=us) ts h.2;omega
end
mutual
theorem zsI:∀(L:Tr) (k m:Nat),L.ord k=ae m→ ∀(us:List Tr),m≤us.length→ ∀u∈(us.drop k).take (m - k),u.ne B≤(L.fill us).ne B
 | .bl n,k,m,h,us,hu,u,hm=>by
  rw[Tr.ord]at h;split at h
  ·rename_i hn;cases h;have hk:k<us.length:=by omega
   have e:(us.drop k).take (k+1 - k)=[us[k]]:=by
    rw[show k+1 - k=1 by omega,eP hk]
    rfl
   have f:(Tr.bl n).fill us=us[k]:=by
    rw[Tr.fill,hn,bV,bo,a9 hk];rfl
   rw[e,bf]at hm;rw[f,hm];exact au _
  ·cases h
 | .nd s ls,k,m,h,us,hu,u,hm=>by
  rw[Tr.ord]at h;have:=zqd ls k m h us hu u hm;rw[Tr.fill,Tr.ne];omega
theorem zqd:∀(ls:List Tr) (k m:Nat),znY k ls=ae m→ ∀(us:List Tr),m≤us.length→ ∀u∈(us.drop k).take (m - k),u.ne B≤nes B (fills us ls)
 | [],k,m,h,us,hu,u,hm=>by
  rw[znY]at h;cases h;rw[gu,jk]at hm;cases hm
 |l::ls,k,m,h,us,hu,u,hm=>by
  rw[znY]at h;cases q:l.ord k with
  |none=>rw[q]at h;cases h
  |some j=>
   rw[q]at h;obtain⟨h1,_,_⟩:=ziD l k j q;obtain⟨g1,_,_⟩:=zfL ls j m h;have e:(us.drop k).take (m - k)=(us.drop k).take (j - k)++(us.drop j).take (m - j):=by
    rw[show m - k=(j - k)+(m - j) by omega,iN,jV,show k+(j - k)=j by omega]
   rw[e]at hm;rw[fills,nes];rcases bu.mp hm with hm |hm
   ·have:=zsI l k j q us (by omega) u hm;omega
   ·have:=zqd ls j m h us hu u hm;omega
end
theorem Ort.ne (O:Ort B) {t:Tn}(ht:t∈B) {us:List Tr}(hl:us.length=t.2.1.nb):nes B us≤(t.2.1.fill us).ne B:=zgg λu hu=>by
 refine zsI _ _ _ (O.od t ht) us (by omega) u ?_;rw[eA,dc,c_ (by omega)];exact hu
theorem zga{c:Int→Nat}{p:Pl}{ps:List Pl}(hp:p∈ps):(p.ev B c).ne B≤nes B (ps.map (Pl.ev B c)):=zkT (aI.mpr ⟨p,hp,rfl⟩)
theorem zqD{n:Nat}:∀{ps:List Pl},(∀p∈ps,p.pn≤n)→pns ps≤n
 | [],_=>by rw[pns];omega
 |p::ps,h=>by
  rw[pns];have:=h p (by simp);have:=zqD λu hu=>h u (aK _ hu);omega
theorem zyh{c d:Int→Nat}(b:BkOk ws ws B) (O:Ort B) (hc:One c) (hd:One d) {p:Pl}(h:PlOk ws B p) (hb:PlB (λx=>c x=1∨d x=1) p):p.pn≤(p.ev B c).ne B+(p.ev B d).ne B:=by
 induction h with
 | @sign b' h ps hh hp ih=>
  have kids:∀p∈ps,PlB (λx=>c x=1∨d x=1) p:=by
   cases hb with
   |sign h=>exact h
  have:pns ps≤nes B (ps.map (Pl.ev B c))+nes B (ps.map (Pl.ev B d)):=zqD λp hp=>by
   have:=ih p hp (kids p hp);have:=zga (B:=B) (c:=c) hp;have:=zga (B:=B) (c:=d) hp;omega
  have e:=zbh b.ti (b.sg h hh);rw[zaZ,zaZ,Pl.pn,if_pos (by decide),Tr.ne,Tr.ne,e];simpa using this
 | @turn k b' h ps t e hl b0 b1 hp ih=>
  have ht:t∈B:=aX e;obtain⟨hb1,kids⟩:(c b'=1∨d b'=1)∧ ∀p∈ps,PlB (λx=>c x=1∨d x=1) p:=by
   cases hb with
   |turn h1 h2=>exact⟨h1,h2⟩
  have key:pns ps≤nes B (ps.map (Pl.ev B c))+nes B (ps.map (Pl.ev B d)):=zqD λp hp=>by
   have:=ih p hp (kids p hp);have:=zga (B:=B) (c:=c) hp;have:=zga (B:=B) (c:=d) hp;omega
  have en:(Pl.nd k b' h ps).pn=1+pns ps:=by rw[Pl.pn,if_neg (by omega)]
  have low:∀c:Int→Nat,One c→nes B (ps.map (Pl.ev B c))+c b'≤(evT t (c b') (ps.map (Pl.ev B c))).ne B:=λc hc=>by
   have l1:(ps.map (Pl.ev B c)).length=t.2.1.nb:=by rw[aq,hl]
   have:=hc b' b0 b1;by_cases h1:c b'=1
   ·rw[h1];show _≤(Tr.nd t.1 _).ne B;rw[Tr.ne,zci b.nd ht];show _≤1+_;omega
   ·rw[show c b'=0 by omega]
    exact O.ne ht l1
  rw[zaN e,zaN e,en];have:=low c hc;have:=low d hd;omega
theorem ztU{c d:Int→Nat}(b:BkOk ws ws B) (O:Ort B) (hc:One c) (hd:One d) {p:Pl}(h:PlOk ws B p):(p.ev B (zkS c d)).ne B≤(p.ev B c).ne B:=by
 induction h with
 | @sign b' h ps hh hp ih=>
  have:nes B (ps.map (Pl.ev B (zkS c d)))≤nes B (ps.map (Pl.ev B c)):=zgg λu hu=>by
   obtain⟨p,hp,rfl⟩:=aI.mp hu;exact aW (ih p hp) (zga hp)
  have e:=zbh b.ti (b.sg h hh);rw[zaZ,zaZ,Tr.ne,Tr.ne,e];simpa using this
 | @turn k b' h ps t e hl b0 b1 hp ih=>
  have ht:t∈B:=aX e;have key:nes B (ps.map (Pl.ev B (zkS c d)))≤nes B (ps.map (Pl.ev B c)):=zgg λu hu=>by
   obtain⟨p,hp,rfl⟩:=aI.mp hu;exact aW (ih p hp) (zga hp)
  have l1:(ps.map (Pl.ev B c)).length=t.2.1.nb:=by rw[aq,hl]
  have low:nes B (ps.map (Pl.ev B c))+c b'≤(evT t (c b') (ps.map (Pl.ev B c))).ne B:=by
   have:=hc b' b0 b1;by_cases h1:c b'=1
   ·rw[h1];show _≤(Tr.nd t.1 _).ne B;rw[Tr.ne,zci b.nd ht];show _≤1+_;omega
   ·rw[show c b'=0 by omega]
    exact O.ne ht l1
  rw[zaN e,zaN e];refine aW ?_ low;have hp:zkS c d b'=if d b'=1 then 2 else c b':=rfl;rw[hp];by_cases dz:d b'=1
  ·rw[if_pos dz];have:=zjf b.ti (us:=ps.map (Pl.ev B (zkS c d))) t.2.2 ((b.ri t ht).hb b.sg);show(t.2.2.fill _).ne B≤_;omega
  ·rw[if_neg dz];have:=hc b' b0 b1;by_cases h1:c b'=1
   ·rw[h1];show(Tr.nd t.1 _).ne B≤_;rw[Tr.ne,zci b.nd ht];show 1+_≤_;omega
   ·rw[show c b'=0 by omega]
    have:=zjf b.ti (us:=ps.map (Pl.ev B (zkS c d))) t.2.1 (b.lf t ht).hb;show(t.2.1.fill _).ne B≤_;omega
end
mutual
theorem Mv.one{B:List Tn}:∀{n m:Nat}{a b c d:Tr},Mv B n a b c→Mv B m a b d→c=d
 |_,_,_,_,_,_, .nn h1 h2 h3,g=>by
  cases g with
  |nn g1 g2 g3=>rw[Mvs.one h3 g3]
  |ns g1 g2 g3 g4 g5=>rw[h2]at g2;cases g2
  |sn g1 g2 g3 g4=>rw[h1]at g1;cases g1
  |ss g1 g2 g3 g4=>rw[h1]at g1;cases g1
 |_,_,_,_,_,_, .ns h1 h2 h3 h4 h5,g=>by
  cases g with
  |nn g1 g2 g3=>rw[h2]at g2;cases g2
  |ns g1 g2 g3 g4 g5=>
   rw[h2]at g2;cases g2;rw[h3]at g3;cases g3;rw[Mvs.one h5 g5]
  |sn g1 g2 g3 g4=>rw[h1]at g1;cases g1
  |ss g1 g2 g3 g4=>rw[h1]at g1;cases g1
 |_,_,_,_,_,_, .sn h1 h2 h3 h4,g=>by
  cases g with
  |nn g1 g2 g3=>rw[h1]at g1;cases g1
  |ns g1 g2 g3 g4 g5=>rw[h1]at g1;cases g1
  |sn g1 g2 g3 g4=>
   rw[h1]at g1;cases g1;rw[h3]at g3;cases g3;rw[Mvs.one h4 g4]
  |ss g1 g2 g3 g4=>rw[h2]at g2;cases g2
 |_,_,_,_,_,_, .ss h1 h2 h3 h4,g=>by
  cases g with
  |nn g1 g2 g3=>rw[h1]at g1;cases g1
  |ns g1 g2 g3 g4 g5=>rw[h1]at g1;cases g1
  |sn g1 g2 g3 g4=>rw[h2]at g2;cases g2
  |ss g1 g2 g3 g4=>
   rw[h2]at g2;cases g2;rw[Mvs.one h4 g4]
theorem Mvs.one{B:List Tn}:∀{n m:Nat}{a b c d:List Tr},Mvs B n a b c→Mvs B m a b d→c=d
 |_,_,_,_,_,_, .nil,g=>by
  cases g;rfl
 |_,_,_,_,_,_, .cons h1 h2,g=>by
  cases g with
  |cons g1 g2=>rw[Mv.one h1 g1,Mvs.one h2 g2]
end
open Classical in
noncomputable def res (B:List Tn) (x y:Tr):Tr:=if h:∃z n,Mv B n x y z then choose h else x
theorem Mv.res{B:List Tn}{n:Nat}{x y z:Tr}(h:Mv B n x y z):res B x y=z:=by
 unfold L2.res;have e:∃z n,Mv B n x y z:=⟨z,n,h⟩;rw[dif_pos e];obtain⟨m,h'⟩:=Classical.choose_spec e;exact Mv.one h' h
structure Bk3 (ws:List Str) (B:List Tn):Prop where
  b:BkOk ws ws B
  O:Ort B
  lw:∀t∈B,t.2.1.hb λs=>s∈ws
structure Bk2 (ws:List Str) (B:List Tn):Prop extends Bk3 ws B where
  sl:zxg B
instance {ws:List Str}{B:List Tn}:Coe (Bk2 ws B) (Bk3 ws B):=⟨Bk2.toBk3⟩
theorem BookOk.bk2{w0 w1 w2 w3 w4 w5:Str}{tt:List Str}{B:List Tn}(b:BookOk w0 w1 w2 w3 w4 w5 tt B) (T:Titles tt) (G:Signs w0 w1 w2 w3 w4 w5) (sl:zxg B):Bk2 [w0,w1,w2,w3,w4,w5] B:=by
 have k:=b.bk T G;refine⟨⟨⟨k.ti,k.nd,k.sg,λx hx=>hx,k.lf,k.ri⟩,b.ort G,λt ht=>?_⟩,sl⟩;obtain⟨n,z |z⟩:=b.mem_lefts ht
 ·exact(zgJ (P:=λs=>s∈ [w0,w1,w2,w3,w4,w5]) (by simp) (by simp) (by simp) _ z).hb
 ·exact(zgJ (P:=λs=>s∈ [w0,w1,w2,w3,w4,w5]) (by simp) (by simp) (by simp) _ z).hb
section
variable {ws:List Str}{B:List Tn}{x y:Tr}{p:Pl}
theorem Bk3.wy (K:Bk3 ws B) {c:Int→Nat}{p:Pl}(h:PlOk ws B p):Wy ws B (p.ev B c):=by
 refine⟨?_,zuh _ (ztn K.b h)⟩
 induction h with
 | @sign b' h ps hh hp ih=>
  rw[zaZ,Tr.hd,hds_iff];refine⟨.inl hh,λu hu=>?_⟩;obtain⟨p,hp,rfl⟩:=aI.mp hu;exact ih p hp
 | @turn k b' h ps t e hl b0 b1 hp ih=>
  have ht:t∈B:=aX e;have hu:∀u∈ps.map (Pl.ev B c),u.hd λs=>s∈ws∨ ∃t∈B,t.1=s:=λu hu=>by
   obtain⟨p,hp,rfl⟩:=aI.mp hu;exact ih p hp
  rw[zaN e];unfold evT;split
  ·exact zgV hu _ (ziJ (λs hs=> .inl hs) _ (K.lw t ht)) (by rw[aq,hl];exact(K.b.lf t ht).fits)
  ·rw[Tr.hd,hds_iff];exact⟨.inr ⟨t,ht,rfl⟩,hu⟩
  ·exact zgV hu _ ((K.b.ri t ht).hb (λs hs=> .inl hs)) (by rw[aq,hl];exact(K.b.ri t ht).fits)
theorem zzz (x:Int) (h:zvx x):byC 1 x=1∨byC 2 x=1:=by
 rcases h with rfl |rfl |rfl
 ·exact .inl (by decide)
 ·exact .inr (by decide)
 ·exact .inl (by decide)
theorem PlB.imp{P Q:Int→Prop}(h:∀x,P x→Q x) {p:Pl}(hp:PlB P p):PlB Q p:=by
 induction hp with
 |sign _ ih=>exact .sign ih
 |turn hb _ ih=>exact .turn (h _ hb) ih
theorem zpw (K:Bk3 ws B) (hx:Wy ws B x) (hy:Wy ws B y) (e:src B x=src B y):∃p,PlOk ws B p∧p.ev B (byC 1)=x∧p.ev B (byC 2)=y∧p.pn≤x.ne B+y.ne B∧p.ev B zr=src B x:=by
 obtain⟨p,hp,hb,e1,e2⟩:=zrm K.b K.O _ x y (au _) hx hy e;refine⟨p,hp,e1,e2,?_,?_⟩
 ·have:=zyh K.b K.O (zhY 1) (zhY 2) hp (hb.imp zzz);rw[e1,e2]at this;exact this
 ·rw[←e1];show _=(p.ev B (byC 1)).mk B λt=>t.2.1;rw[zeA K.b hp];exact zfZ hp λb h0 h1=>((zhY 1).src b h0 h1).symm
theorem Bk2.pk (K:Bk2 ws B) {p:Pl}(hp:PlOk ws B p) {n:Nat}(hn:p.pn≤n) (hw:2 ^ n*(p.ev B zr).weight≤400) (hd:(p.ev B zr).depth+3*n≤40):Pk ws ws B p:=by
 refine⟨K.b,K.O.mt,hp,λ{c}=>?_,λ{c}=>?_⟩
 ·have:=zgX (c:=c) K.b K.O hp;omega
 ·have h1:=zfU (c:=c) K.b K.sl K.O hp;have h2:2 ^ p.pn*(p.ev B zr).weight≤2 ^ n*(p.ev B zr).weight:=dn _ (db (by decide) hn);omega
structure Two (ws:List Str) (B:List Tn) (x y:Tr):Prop where
  K:Bk3 ws B
  ex:∃p c d,Pk ws ws B p∧One c∧One d∧p.ev B c=x∧p.ev B d=y
theorem Two.symm (h:Two ws B x y):Two ws B y x:=by
 obtain⟨p,c,d,k,hc,hd,e1,e2⟩:=h.ex;exact⟨h.K,p,d,c,k,hd,hc,e2,e1⟩
structure Moved (ws:List Str) (B:List Tn) (x y z:Tr):Prop where
  wy:Wy ws B z
  sr:src B z=gol B y
  go:gol B z=gol B (res B y x)
  ne:z.ne B≤x.ne B
theorem Two.moved (h:Two ws B x y):Moved ws B x y (res B x y):=by
 obtain⟨p,c,d,k,hc,hd,rfl,rfl⟩:=h.ex;have m1:=(ziZ (c:=c) (d:=d) k.b k.m (zir hc hd) k.o).res;have m2:=(ziZ (c:=d) (d:=c) k.b k.m (zir hd hc) k.o).res;rw[m1];refine⟨h.K.wy k.o,?_,?_,ztU h.K.b h.K.O hc hd k.o⟩
 ·show(p.ev B (zkS c d)).mk B (λt=>t.2.1)=(p.ev B d).mk B λt=>t.2.2;rw[zeA k.b k.o,zdd k.b k.o];refine zfZ k.o λx h0 h1=>?_;have a:=hc x h0 h1;have b:=hd x h0 h1;unfold zgu zbv zkS;generalize c x=m at a⊢;generalize d x=n at b⊢;obtain rfl |rfl:m=0∨m=1:=by omega
  all_goals obtain rfl |rfl:n=0∨n=1:=by omega
  all_goals rfl
 ·rw[m2];show(p.ev B (zkS c d)).mk B (λt=>t.2.2)=(p.ev B (zkS d c)).mk B λt=>t.2.2;rw[zdd k.b k.o,zdd k.b k.o];refine zfZ k.o λx h0 h1=>?_;have a:=hc x h0 h1;have b:=hd x h0 h1;unfold zbv zkS;generalize c x=m at a⊢;generalize d x=n at b⊢;obtain rfl |rfl:m=0∨m=1:=by omega
  all_goals obtain rfl |rfl:n=0∨n=1:=by omega
  all_goals rfl
end
section
variable {ws:List Str}{B:List Tn}{x y t:Tr}
structure Bd (t:Tr) (n:Nat):Prop where
  w:2 ^ n*t.weight≤400
  d:t.depth+3*n≤40
theorem Bd.mono{n m:Nat}(h:Bd t m) (hn:n≤m):Bd t n:=by
 have h1:=h.w;have h2:=h.d;have h3:2 ^ n*t.weight≤2 ^ m*t.weight:=dn _ (db (by decide) hn);exact⟨by omega,by omega⟩
theorem zyK (b:BkOk ws ws B) {p:Pl}(h:PlOk ws B p):(p.ev B zr).ne B=0:=by
 induction h with
 | @sign b' h ps hh hp ih=>
  have:nes B (ps.map (Pl.ev B zr))≤0:=zgg λu hu=>by
   obtain⟨p,hp,rfl⟩:=aI.mp hu;rw[ih p hp];exact au _
  have e:=zbh b.ti (b.sg h hh);rw[zaZ,Tr.ne,e];show 0+_=0;omega
 | @turn k b' h ps t e hl b0 b1 hp ih=>
  have ht:t∈B:=aX e;have:nes B (ps.map (Pl.ev B zr))≤0:=zgg λu hu=>by
   obtain⟨p,hp,rfl⟩:=aI.mp hu;rw[ih p hp];exact au _
  have:=zjf b.ti (us:=ps.map (Pl.ev B zr)) t.2.1 (b.lf t ht).hb;rw[zaN e];show(t.2.1.fill _).ne B=0;omega
theorem zAk:∀x:Int,0≤x→x<8→zr x=byC 8 x:=λx h0 h8=>(zrv x h0 h8).symm
theorem Bk3.src (K:Bk3 ws B) (h:Wy ws B x):Wy ws B (src B x)∧L2.src B (src B x)=L2.src B x∧(L2.src B x).ne B=0∧gol B (L2.src B x)=L2.src B x:=by
 obtain⟨p,hp,_,rfl,_⟩:=zrm K.b K.O _ x x (au _) h h rfl;have e:L2.src B (p.ev B (byC 1))=p.ev B zr:=by
  show(p.ev B (byC 1)).mk B (λt=>t.2.1)=_;rw[zeA K.b hp];exact zfZ hp (zhY 1).src
 rw[e];refine⟨K.wy hp,?_,zyK K.b hp,?_⟩
 ·show(p.ev B zr).mk B (λt=>t.2.1)=_;rw[zeA K.b hp];rfl
 ·show(p.ev B zr).mk B (λt=>t.2.2)=_;rw[zdd K.b hp];rfl
theorem Bk2.two (K:Bk2 ws B) (hx:Wy ws B x) (hy:Wy ws B y) (ex:L2.src B x=t) (ey:L2.src B y=t) (h:Bd t (x.ne B+y.ne B)):Two ws B x y:=by
 obtain⟨p,hp,e1,e2,hn,hs⟩:=zpw K hx hy (ex.trans ey.symm);exact⟨K,p,byC 1,byC 2,K.pk hp hn (by rw[hs,ex];exact h.w) (by rw[hs,ex];exact h.d),zhY 1,zhY 2,e1,e2⟩
theorem Bk2.ow (K:Bk2 ws B) (hx:Wy ws B x) (ex:L2.src B x=t) (h:Bd t (x.ne B)):Two ws B x t:=by
 obtain⟨h1,h2,h3,_⟩:=K.src hx;rw[ex]at h1 h2 h3;exact K.two hx h1 ex h2 (by rw[h3];exact h)
theorem Bk2.goal (K:Bk2 ws B) (hx:Wy ws B x) (ex:L2.src B x=t) {n:Nat}(h:Bd t (x.ne B+n)):Bd (gol B x) n:=by
 have sx:=K.src hx;obtain⟨p,hp,e1,e2,hn,hs⟩:=zpw K hx sx.1 sx.2.1.symm;rw[sx.2.2.1,eZ]at hn;have e:gol B x=p.ev B (zbv (byC 1)):=by
  rw[←e1];exact zdd K.b hp
 have h1:=zfU (c:=zbv (byC 1)) K.b K.sl K.O hp;have h2:=zgX (c:=zbv (byC 1)) K.b K.O hp;rw[hs,ex]at h1 h2;have hw:=h.w;have hd:=h.d;rw[e];refine⟨?_,by omega⟩
 have h3:2 ^ p.pn*t.weight≤2 ^ x.ne B*t.weight:=dn _ (db (by decide) hn);have h4:2 ^ n*(p.ev B (zbv (byC 1))).weight≤2 ^ n*(2 ^ x.ne B*t.weight):=dY _ (aW h1 h3);rw[←gv,←Nat.pow_add,dW n]at h4;omega
theorem Bk3.gol (K:Bk3 ws B) (h:Wy ws B x):Wy ws B (gol B x)∧L2.src B (L2.gol B x)=L2.gol B x∧(L2.gol B x).ne B=0∧L2.gol B (L2.gol B x)=L2.gol B x:=by
 obtain⟨p,hp,_,rfl,_⟩:=zrm K.b K.O _ x x (au _) h h rfl;have e:L2.gol B (p.ev B (byC 1))=p.ev B (zbv (byC 1)):=zdd K.b hp;have tg:∀x,zbv (byC 1) x≠1:=λx=>by unfold zbv;split<;>omega
 have s:L2.src B (p.ev B (zbv (byC 1)))=p.ev B (zbv (byC 1)):=by
  show(p.ev B (zbv (byC 1))).mk B (λt=>t.2.1)=_;rw[zeA K.b hp];exact zfZ hp λb _ _=>by rw[zgu,if_neg (tg b)]
 have w:Wy ws B (p.ev B (zbv (byC 1))):=K.wy hp;rw[e];refine⟨w,s,?_,?_⟩
 ·have:=(K.src w).2.2.1;rwa [s]at this
 ·have:=(K.src w).2.2.2;rwa [s]at this
end
section
variable {ws:List Str}{B:List Tn}{x y:Tr}{S:Sto}{a:Addr}{r:Nat}{Q:WK}{E:Str→Sto→Prop}
theorem Two.ok_move (h:Two ws B x y) (ha:S a=ae (.lst (B.map zba))) (hr:60≤r) (q:Q (enc (res B x y)) S):zcS (r+1) [.ref a,enc x,enc y] S Q E:=by
 obtain⟨p,c,d,k,hc,hd,rfl,rfl⟩:=h.ex;have m:=(ziZ (c:=c) (d:=d) k.b k.m (zir hc hd) k.o).res;rw[m]at q;exact k.ok_move (zir hc hd) ha hr q
theorem Two.ok_goal (h:Two ws B x y) (ha:S a=ae (.lst (B.map zba))) (hr:60≤r) (q:Q (enc (L2.gol B x)) S):zfK (r+1) [.ref a,enc x] S Q E:=by
 obtain⟨p,c,d,k,hc,hd,rfl,rfl⟩:=h.ex;rw[show L2.gol B (p.ev B c)=_ from zdd k.b k.o]at q;exact k.ok_goal ha hr q
theorem Two.ok_made1 (h:Two ws B x y) (ha:S a=ae (.lst (B.map zba))) (hr:60≤r) (q:Q (enc (L2.src B x)) S):zaM (r+1) [.ref a,enc x, .int 1] S Q E:=by
 obtain⟨p,c,d,k,hc,hd,rfl,rfl⟩:=h.ex;rw[show L2.src B (p.ev B c)=_ from zeA k.b k.o]at q;exact k.ok_made1 ha hr q
theorem Two.ok_made2 (h:Two ws B x y) (ha:S a=ae (.lst (B.map zba))) (hr:60≤r) (q:Q (enc (L2.gol B x)) S):zaM (r+1) [.ref a,enc x, .int 2] S Q E:=by
 obtain⟨p,c,d,k,hc,hd,rfl,rfl⟩:=h.ex;rw[show L2.gol B (p.ev B c)=_ from zdd k.b k.o]at q;exact k.ok_made2 ha hr q
end
noncomputable def zhF (B:List Tn):Tr→List Tr→Tr
 |t,[]=>t
 |_,x::xs=>zhF B (gol B x) xs
noncomputable def Roa (ws:List Str) (B:List Tn):Tr→List Tr→Prop
 |_,[]=>True
 |t,x::xs=>Wy ws B x∧src B x=t∧Roa ws B (gol B x) xs
noncomputable def nR (B:List Tn):List Tr→Nat
 | []=>0
 |x::xs=>x.ne B+nR B xs
noncomputable def zdR (B:List Tn):Tr→List Tr→List Tr
 |x,[]=>[x]
 |x,o::os=>x::zdR B (res B x o) os
noncomputable def zgK (B:List Tn):Tr→List Tr→List Tr
 |_,[]=>[]
 |x,o::os=>res B o x::zgK B (res B x o) os
noncomputable def zhK (B:List Tn):Tr→List Tr→Tr
 |x,[]=>x
 |x,o::os=>zhK B (res B x o) os
noncomputable def zkU (B:List Tn):List Tr→List Tr→List (List Tr)
 | [],_=>[]
 |x::xs,os=>zdR B x os::zkU B xs (zgK B x os)
noncomputable def zkY (B:List Tn):List Tr→List Tr→List (List Tr)
 | [],os=>[os]
 |x::xs,os=>os::zkY B xs (zgK B x os)
noncomputable def zdl (B:List Tn):List Tr→List Tr→List Tr
 | [],_=>[]
 |x::xs,os=>zhK B x os::zdl B xs (zgK B x os)
noncomputable def zeQ (B:List Tn):List Tr→List Tr→List Tr
 | [],os=>os
 |x::xs,os=>zeQ B xs (zgK B x os)
section
variable {ws:List Str}{B:List Tn}
theorem znl:∀(os:List Tr) (x:Tr),(zdR B x os).length=os.length+1
 | [],x=>rfl
 |o::os,x=>by rw[zdR,aR,znl os];rfl
theorem zlA:∀(os:List Tr) (x:Tr),(zgK B x os).length=os.length
 | [],x=>rfl
 |o::os,x=>by rw[zgK,aR,zlA os];rfl
theorem zjR:∀(os:List Tr) (x:Tr),(zdR B x os).getLast? =ae (zhK B x os)
 | [],x=>rfl
 |o::os,x=>by
  rw[zdR,List.getLast?_cons,zjR os,zhK];rfl
theorem zfM:∀(xs os:List Tr),(zdl B xs os).length=xs.length
 | [],os=>rfl
 |x::xs,os=>by rw[zdl,aR,zfM xs];rfl
theorem zix:∀(xs os:List Tr),(zeQ B xs os).length=os.length
 | [],os=>rfl
 |x::xs,os=>by rw[zeQ,zix xs,zlA]
structure RowOk (ws:List Str) (B:List Tn) (t x:Tr) (os:List Tr):Prop where
  row:Roa ws B (gol B x) (zgK B x os)
  nr:nR B (zgK B x os)≤nR B os
  wy:Wy ws B (zhK B x os)
  sr:src B (zhK B x os)=zhF B t os
  ne:(zhK B x os).ne B≤x.ne B
  go:zhF B (gol B x) (zgK B x os)=gol B (zhK B x os)
theorem zqo (K:Bk2 ws B):∀(os:List Tr) {x t:Tr},Wy ws B x→src B x=t→Roa ws B t os→Bd t (x.ne B+nR B os)→RowOk ws B t x os
 | [],x,t,hx,ex,_,_=>⟨trivial,au _,hx,ex,au _,rfl⟩
 |o::os,x,t,hx,ex,⟨ho,eo,hr⟩,hb=>by
  rw[nR]at hb;have h2:Two ws B x o:=K.two hx ho ex eo (hb.mono (by omega));have m:=h2.moved;have m':=h2.symm.moved;have b1:Bd (gol B o) (x.ne B+nR B os):=K.goal ho eo (hb.mono (by omega));have ih:=zqo K os m.wy m.sr hr (b1.mono (by have:=m.ne;omega));refine⟨?_,?_,ih.wy,ih.sr,aW ih.ne m.ne,?_⟩
  ·rw[zgK];refine⟨m'.wy,m'.sr,?_⟩;rw[m'.go];exact ih.row
  ·rw[zgK,nR,nR];have:=m'.ne;have:=ih.nr;omega
  ·rw[zgK,zhF,zhK,m'.go];exact ih.go
structure GridOk (ws:List Str) (B:List Tn) (t:Tr) (xs os:List Tr):Prop where
  down:Roa ws B (zhF B t os) (zdl B xs os)
  over:Roa ws B (zhF B t xs) (zeQ B xs os)
  go:zhF B (zhF B t os) (zdl B xs os)=zhF B (zhF B t xs) (zeQ B xs os)
  nd:nR B (zdl B xs os)≤nR B xs
  no:nR B (zeQ B xs os)≤nR B os
theorem zoo (K:Bk2 ws B):∀(xs os:List Tr) {t:Tr},Roa ws B t xs→Roa ws B t os→Bd t (nR B xs+nR B os)→GridOk ws B t xs os
 | [],os,t,_,ho,_=>⟨trivial,ho,rfl,au _,au _⟩
 |x::xs,os,t,⟨hx,ex,hr⟩,ho,hb=>by
  rw[nR]at hb;have r:=zqo K os hx ex ho (hb.mono (by omega));have b1:Bd (gol B x) (nR B xs+nR B os):=K.goal hx ex (hb.mono (by omega));have ih:=zoo K xs (zgK B x os) hr r.row (b1.mono (by have:=r.nr;omega));have e:=r.go;refine⟨?_,?_,?_,?_,?_⟩
  ·rw[zdl];refine⟨r.wy,r.sr,?_⟩;rw[←e];exact ih.down
  ·rw[zhF,zeQ];exact ih.over
  ·rw[zdl,zhF,zeQ,zhF,←e];exact ih.go
  ·rw[zdl,nR,nR];have:=r.ne;have:=ih.nd;omega
  ·rw[zeQ];have:=ih.no;have:=r.nr;omega
theorem Roa.end_bd (K:Bk2 ws B):∀(xs:List Tr) {t:Tr}{n:Nat},Roa ws B t xs→Bd t (nR B xs+n)→Bd (zhF B t xs) n
 | [],t,n,_,h=>by rw[nR,b5]at h;exact h
 |x::xs,t,n,⟨hx,ex,hr⟩,h=>by
  rw[nR]at h;exact Roa.end_bd K xs hr (K.goal hx ex (h.mono (by omega)))
inductive RowC (ws:List Str) (B:List Tn):Tr→List Tr→Prop
 |nil {x:Tr}:RowC ws B x []
 |cons {x o:Tr}{os:List Tr}:Two ws B x o→(∃y,Two ws B (res B x o) y)→RowC ws B (res B x o) os→RowC ws B x (o::os)
inductive Cells (ws:List Str) (B:List Tn):List Tr→List Tr→Prop
 |nil {os:List Tr}:Cells ws B [] os
 |cons {x:Tr}{xs os:List Tr}:RowC ws B x os→Cells ws B xs (zgK B x os)→Cells ws B (x::xs) os
theorem zku (K:Bk2 ws B):∀(os:List Tr) {x t:Tr},Wy ws B x→src B x=t→Roa ws B t os→Bd t (x.ne B+nR B os)→RowC ws B x os
 | [],x,t,_,_,_,_=> .nil
 |o::os,x,t,hx,ex,⟨ho,eo,hr⟩,hb=>by
  rw[nR]at hb;have h2:Two ws B x o:=K.two hx ho ex eo (hb.mono (by omega));have m:=h2.moved;have b1:Bd (gol B o) (x.ne B+nR B os):=K.goal ho eo (hb.mono (by omega));have b2:Bd (gol B o) ((res B x o).ne B+nR B os):=b1.mono (by have:=m.ne;omega);exact .cons h2 ⟨_,K.ow m.wy m.sr (b2.mono (by omega))⟩ (zku K os m.wy m.sr hr b2)
theorem znq (K:Bk2 ws B):∀(xs os:List Tr) {t:Tr},Roa ws B t xs→Roa ws B t os→Bd t (nR B xs+nR B os)→Cells ws B xs os
 | [],os,t,_,_,_=> .nil
 |x::xs,os,t,⟨hx,ex,hr⟩,ho,hb=>by
  rw[nR]at hb;have r:=zqo K os hx ex ho (hb.mono (by omega));have b1:Bd (gol B x) (nR B xs+nR B os):=K.goal hx ex (hb.mono (by omega));exact .cons (zku K os hx ex ho (hb.mono (by omega))) (znq K xs _ hr r.row (b1.mono (by have:=r.nr;omega)))
end
theorem zfR{α β:Type}{R:α→β→Prop}:∀{xs:List α}{ys:List β}{xs':List α}{ys':List β},aM R xs ys→aM R xs' ys'→aM R (xs++xs') (ys++ys')
 |_,_,_,_, .nil,h=>h
 |_,_,_,_, .cons h1 h2,h=> .cons h1 (zfR h2 h)
theorem zca{α β:Type}{R R':α→β→Prop}(f:∀x y,R x y→R' x y):∀{xs:List α}{ys:List β},aM R xs ys→aM R' xs ys
 |_,_, .nil=> .nil
 |_,_, .cons h1 h2=> .cons (f _ _ h1) (zca f h2)
mutual
theorem zwW:∀(L t:Tr) (ms:List Tr) (p:List Int),L.mt t=ae ms→aM (λ(x:List Int×Tr) m=>∃e,x.1=p++e∧t.at e=ae m) ((L.plt p).filter λx=>x.2.isBl) ms
 | .bl n,t,ms,p,e=>by
  rw[Tr.mt]at e;cases e;rw[Tr.plt];exact .cons ⟨[],by simp,by rw[Tr.at]⟩ .nil
 | .nd s ls, .bl n,ms,p,e=>by rw[Tr.mt]at e;cases e
 | .nd s ls, .nd z us,ms,p,e=>by
  rw[Tr.mt]at e;split at e
  ·rename_i hc;rw[bR,beq_iff_eq,beq_iff_eq]at hc;rw[Tr.plt,i9 (by simp [Tr.isBl])];refine zca ?_ (zsW ls us ms p 0 hc.2 e);rintro x m ⟨j,e,u,h1,h2,h3⟩;refine⟨(j:Int)::e,by rw[h1,b5],?_⟩
   rw[Tr.at,if_neg (by omega),bV,h2];exact h3
  ·cases e
theorem zsW:∀(ls us ms:List Tr) (p:List Int) (i:Nat),ls.length=us.length→mts ls us=ae ms→aM (λ(x:List Int×Tr) m=>∃(j:Nat) (e:List Int) (u:Tr),x.1=p++((i+j:Nat):Int)::e∧us[j]? =ae u∧u.at e=ae m) ((zgT p i ls).filter λx=>x.2.isBl) ms
 | [],us,ms,p,i,hl,e=>by
  rw[mts]at e;cases e;rw[zgT];exact .nil
 |l::ls,[],ms,p,i,hl,e=>by cases hl
 |l::ls,u::us,ms,p,i,hl,e=>by
  rw[mts]at e;cases q1:l.mt u with
  |none=>rw[q1]at e;cases e
  |some xs=>
   rw[q1]at e;cases q2:mts ls us with
   |none=>rw[q2]at e;cases e
   |some zs=>
    rw[q2]at e;cases e;rw[zgT,i6];refine zfR (zca ?_ (zwW l u xs _ q1)) (zca ?_ (zsW ls us zs p (i+1) (by simpa using hl) q2))
    ·rintro x m ⟨e,h1,h2⟩;exact⟨0,e,u,by rw[h1];simp,rfl,h2⟩
    ·rintro x m ⟨j,e,v,h1,h2,h3⟩;exact⟨j+1,e,v,by rw[h1,show i+1+j=i+(j+1) by omega],by rw[eD];exact h2,h3⟩
end
theorem zvN{L t:Tr}{ms:List Tr}(h:L.mt t=ae ms):aM (λq m=>t.at q=ae m) (L.bls.map λx=>x.1) ms:=by
 have:=zwW L t ms [] h;clear h;unfold Tr.bls;generalize (L.plt []).filter (λx=>x.2.isBl)=xs at this⊢
 induction this with
 |nil=>exact .nil
 |cons h1 h2 ih=>
  obtain⟨e,h3,h4⟩:=h1;rw[aA];rw[a8]at h3;exact .cons (by rw[h3];exact h4) ih
noncomputable def cnt (wn:List (List Int)) (p:List Int):Nat:=wn.countP λq=>p.isPrefixOf q
theorem zqc (wn:List (List Int)) (p q:List Int):cnt wn (p++q)≤cnt wn p:=by
 unfold cnt;refine List.countP_mono_left λx _ h=>?_;obtain⟨e,rfl⟩:=dB.mp h;exact dB.mpr ⟨q++e,by simp⟩
theorem ztf:∀(wn:List (List Int)) (p:List Int) (i:Int) (q:List Int),p∈wn→cnt wn (p++i::q)+1≤cnt wn p
 |w::wn,p,i,q,h=>by
  unfold cnt;rw[jm,jm];have hs:=zqc wn p (i::q);unfold cnt at hs;rcases az.mp h with rfl |h
  ·have h1:(p++i::q).isPrefixOf p=false:=by
    rw[Bool.eq_false_iff];intro z;obtain⟨e,z⟩:=dB.mp z;have:=congrArg dA z;simp at this
   have h2:p.isPrefixOf p=true:=dB.mpr ⟨[],by simp⟩
   rw[h1,h2];simp;omega
  ·have ih:=ztf wn p i q h;unfold cnt at ih;have h3:(p++i::q).isPrefixOf w=true→p.isPrefixOf w=true:=λz=>by
    obtain⟨e,rfl⟩:=dB.mp z;exact dB.mpr ⟨i::q++e,by simp⟩
   by_cases z:(p++i::q).isPrefixOf w=true
   ·rw[if_pos z,if_pos (h3 z)];omega
   ·rw[if_neg z];omega
theorem zlj{B:List Tn}:∀{ts:List Tr},(∀t∈ts,t.ar B)→ars B ts
 | [],_=>by rw[ars];trivial
 |t::ts,h=>by rw[ars];exact⟨h t (by simp),zlj λu hu=>h u (aK _ hu)⟩
structure Sh (ws:List Str) (B:List Tn) (t:Tr):Prop where
  wy:Wy ws B t
  q:src B t=t
section
variable {ws:List Str}{B:List Tn}
theorem Sh.cases (K:Bk3 ws B) {t:Tr}(h:Sh ws B t):∃s ts,t= .nd s ts∧s∈ws∧zaY B s=none∧ ∀x∈ts,Sh ws B x:=by
 rcases h.wy.cases K.b with⟨s,ts,rfl,hs,e,k⟩ |⟨u,ts,hu,rfl,e,hl,k⟩
 ·have q:=h.q;rw[show src B (.nd s ts)=_ from zeh e]at q;injection q with _ q;refine⟨s,ts,rfl,hs,e,λx hx=>⟨k x hx,?_⟩⟩;obtain⟨i,hi,rfl⟩:=jo hx;have:=congrArg (λl=>l[i]?) q;simp only[bq,a9 hi]at this;exact aG this
 ·have q:=h.q;rw[show src B (.nd u.1 ts)=_ from zdy e]at q;obtain⟨s0,l0,e0,_⟩:=K.O.inn u hu;have hb:=(K.b.lf u hu).hb;rw[e0,Tr.hb]at hb;rw[e0,Tr.fill]at q;injection q with q _;exact absurd q (zeo hb.1 (K.b.ti u hu))
theorem Sh.parts (K:Bk3 ws B) {t:Tr}(h:Sh ws B t) {u:Tn}(hu:u∈B) {ms:List Tr}(e:u.2.1.mt t=ae ms):t=u.2.1.fill ms∧ms.length=u.2.1.nb∧ ∀x∈ms,Sh ws B x:=by
 obtain⟨h1,h2⟩:=K.O.fm u hu _ _ e;refine⟨h1,h2,λx hx=>⟨zvq _ _ _ e h.wy x hx,?_⟩⟩;have q:=h.q;rw[h1,show src B (u.2.1.fill ms)=_ from zmd K.b hu h2 _]at q;have m1:=K.O.mt u hu ms h2;have m2:=K.O.mt u hu (ms.map (src B)) (by rw[aq,h2]);rw[show u.2.1.fill (ms.map (src B))=_ from q,m1]at m2;have q:=aG m2;obtain⟨i,hi,rfl⟩:=jo hx;have:=congrArg (λl=>l[i]?) q;simp only[bq,a9 hi]at this;exact(aG this).symm
def zvw (B:List Tn) (wn:List (List Int)) (p:List Int) (t:Tr):Prop:=∀q∈wn,∀e v,q=p++e→t.at e=ae v→(zey B v).isSome=true
theorem zxY{s:Str}{ts:List Tr}{i:Nat}{u:Tr}(h:ts[i]? =ae u) (e:List Int):(Tr.nd s ts).at ((i:Int)::e)=u.at e:=by
 rw[Tr.at,if_neg (by omega),bV,h]
theorem zqF{wn:List (List Int)}{n:Nat}{p:List Int}{c:Nat}(ih:∀(t:Tr) (p:List Int),t.depth≤n→Sh ws B t→zvw B wn p t→ ∃u,Wi B wn n p t u∧src B u=t∧Wy ws B u∧u.ne B≤cnt wn p) :
  ∀{qs:List (List Int)}{ts:List Tr},aM (λq t=>t.depth≤n∧Sh ws B t∧zvw B wn (p++q) t∧cnt wn (p++q)≤c) qs ts→ ∃us,Wis B wn n p qs ts us∧us.map (src B)=ts∧(∀u∈us,Wy ws B u)∧nes B us≤c
 |_,_, .nil=>⟨[], .nil,rfl,by simp,by rw[nes];omega⟩
 |_,_, .cons ⟨h1,h2,h3,h4⟩ h=>by
  obtain⟨u,w,e,y,k⟩:=ih _ _ h1 h2 h3;obtain⟨us,ws',es,ys,ks⟩:=zqF ih h;refine⟨u::us, .cons w ws',by rw[aA,e,es],λv hv=>?_,by rw[nes];omega⟩
  rcases az.mp hv with rfl |hv
  ·exact y
  ·exact ys v hv
theorem zub (K:Bk3 ws B) {wn:List (List Int)}:∀(n:Nat) (t:Tr) (p:List Int),t.depth≤n→Sh ws B t→zvw B wn p t→ ∃u,Wi B wn n p t u∧src B u=t∧Wy ws B u∧u.ne B≤cnt wn p
 |0,t,p,hd,h,_=>by
  obtain⟨s,ts,rfl,_⟩:=h.cases K;rw[Tr.depth]at hd;omega
 |n+1,t,p,hd,h,hw=>by
  obtain⟨s,ts,rfl,hs,e,k⟩:=h.cases K;rw[Tr.depth]at hd;by_cases hp:p∈wn
  ·have ho:=hw p hp [] (.nd s ts) (by simp) (by rw[Tr.at]);obtain⟨u,ho⟩:=dr.mp ho;have hu:u∈B:=cK ho;have hm:(u.2.1.mt (.nd s ts)).isSome=true:=by simpa using kr ho
   obtain⟨ms,hm⟩:=dr.mp hm;obtain⟨f1,f2,f3⟩:=h.parts K hu hm;have ba:=zvN hm;have hdm:∀y∈ms,y.depth≤n:=λy hy=>by
    obtain⟨s0,l0,e0,_⟩:=K.O.inn u hu;rw[e0,Tr.mt]at hm;split at hm
    ·have:=zmC _ _ _ hm y hy;omega
    ·cases hm
   have hne:∀q∈u.2.1.bls.map (λx=>x.1),∃i e,q=i::e:=λq hq=>by
    obtain⟨z,hz,rfl⟩:=aI.mp hq;obtain⟨h1,h2,_⟩:=zol hz;cases hq:z.1 with
    |nil=>
     rw[hq,Tr.at]at h1;have h3:u.2.1=z.2:=aG h1;obtain⟨s0,l0,e0,_⟩:=K.O.inn u hu;rw[←h3,e0]at h2;cases h2
    |cons i is=>exact⟨i,is,rfl⟩
   have pr:∀{qs:List (List Int)}{xs:List Tr},(∀q∈qs,∃i e,q=i::e)→(∀x∈xs,x.depth≤n∧Sh ws B x)→aM (λq m=>(Tr.nd s ts).at q=ae m) qs xs→aM (λq t=>t.depth≤n∧Sh ws B t∧zvw B wn (p++q) t∧cnt wn (p++q)≤cnt wn p - 1) qs xs:=by
    intro qs xs h1 h2 h3
    induction h3 with
    |nil=>exact .nil
    | @cons q m qs xs h4 _ ih=>
     obtain⟨i,e,rfl⟩:=h1 q (by simp);obtain⟨g1,g2⟩:=h2 m (by simp);refine .cons ⟨g1,g2,λq' hq' e' v' h5 h6=>hw q' hq' (i::e++e') v' (by rw[h5];simp) (by rw[ztj _ e' h4];exact h6),?_⟩ (ih (λq hq=>h1 q (aK _ hq)) λx hx=>h2 x (aK _ hx));have:=ztf wn p i e hp;omega
   obtain⟨us,wi,es,ys,ks⟩:=zqF (zub K n) (pr hne (λx hx=>⟨hdm x hx,f3 x hx⟩) ba);have et:=zci K.b.nd hu;have lu:us.length=u.2.1.nb:=by rw[←f2,←es,aq]
   refine⟨.nd u.1 us, .yes hp ho hm et wi,?_,⟨?_,?_⟩,?_⟩
   ·rw[show src B (.nd u.1 us)=_ from zdy et,es,f1]
   ·rw[Tr.hd,hds_iff];exact⟨.inr ⟨u,hu,rfl⟩,λx hx=>(ys x hx).hd⟩
   ·rw[Tr.ar];refine⟨λt ht=>?_,zlj λx hx=>(ys x hx).ar⟩;rw[et]at ht;cases ht;exact lu
   ·rw[Tr.ne,et];have h1:1≤cnt wn p:=by
     unfold cnt;exact List.countP_pos_iff.mpr ⟨p,hp,dB.mpr ⟨[],by simp⟩⟩
    show 1+_≤_;omega
  ·have pr:∀(i:Nat) (xs:List Tr),(∀(j:Nat) x,xs[j]? =ae x→ts[i+j]? =ae x)→aM (λq t=>t.depth≤n∧Sh ws B t∧zvw B wn (p++q) t∧cnt wn (p++q)≤cnt wn p) ((List.range' i xs.length).map λ(i:Nat)=>[(i:Int)]) xs:=by
    intro i xs
    induction xs generalizing i with
    |nil=>intro _;exact .nil
    |cons x xs ih=>
     intro hx;have hi:=hx 0 x rfl;rw[eZ]at hi;have hm:x∈ts:=aX hi;have hdx:=zbA hm;rw[aR,List.range'_succ,aA];refine .cons ⟨by omega,k x hm,λq' hq' e' v' h5 h6=>hw q' hq' ((i:Int)::e') v' (by rw[h5];simp) (by rw[zxY hi];exact h6),zqc wn p _⟩ (ih (i+1) λj y hy=>?_);have:=hx (j+1) y (by rw[eD];exact hy);rw[show i+1+j=i+(j+1) by omega]
     exact this
   have pr0:=pr 0 ts λj x h=>by rw[b5];exact h
   rw[←List.range_eq_range']at pr0;obtain⟨us,wi,es,ys,ks⟩:=zqF (zub K n) pr0;refine⟨.nd s us, .no hp e wi,?_,⟨?_,?_⟩,?_⟩
   ·rw[show src B (.nd s us)=_ from zeh e,es]
   ·rw[Tr.hd,hds_iff];exact⟨.inl hs,λx hx=>(ys x hx).hd⟩
   ·rw[Tr.ar];exact⟨λt ht=>(by rw[e]at ht;cases ht),zlj λx hx=>(ys x hx).ar⟩
   ·rw[Tr.ne,e];show 0+_≤_;omega
end
mutual
theorem zgp:∀t:Tr,t.depth≤t.weight
 | .bl _=>by rw[Tr.depth,Tr.weight];exact au _
 | .nd _ ts=>by rw[Tr.depth,Tr.weight];have:=zfi ts;omega
theorem zfi:∀ts:List Tr,dts ts≤wts ts
 | []=>by rw[dts,wts];exact au _
 |t::ts=>by rw[dts,wts];have:=zgp t;have:=zfi ts;omega
end
theorem zpN{B:List Tn}:∀(ps:List Pl),(∀p∈ps,(p.ev B zr).weight≤p.wt+2*p.nt)→wts (ps.map (Pl.ev B zr))≤pwts ps+2*pnts ps
 | [],_=>by simp [wts]
 |p::ps,h=>by
  have h1:=h p a0;have h2:=zpN ps λq hq=>h q (aK _ hq);rw[aA,wts,pwts,pnts];omega
theorem zqx{ws hs:List Str}{B:List Tn}(b:BkOk ws hs B) {p:Pl}(h:PlOk hs B p):(p.ev B zr).weight≤p.wt+2*p.nt:=by
 induction h with
 | @sign b' h ps hh hp ih=>
  have:=zpN ps ih;rw[zaZ,Tr.weight,Pl.wt,Pl.nt,if_pos (by decide)];omega
 | @turn k b' h ps t e hl b0 b1 hp ih=>
  have ht:t∈B:=aX e;have:=zpN ps ih;have:=(b.lf t ht).fw (ps.map (Pl.ev B zr)) (by rw[aq,hl]);rw[zaN e,Pl.wt,Pl.nt,if_neg (by omega)];show(t.2.1.fill _).weight≤_;omega
theorem PlOk.sub{ws hs:List Str}{B:List Tn}(h:∀x∈hs,x∈ws) {p:Pl}(hp:PlOk hs B p):PlOk ws B p:=by
 induction hp with
 |sign h1 _ ih=>exact .sign (h _ h1) ih
 |turn e hl b0 b1 _ ih=>exact .turn e hl b0 b1 ih
section
variable {w0 w1 w2 w3 w4 w5:Str}{tt:List Str}{B:List Tn}{S:Sto}{aw at' ab:Addr}
theorem Pre.bk2 (P:Pre S aw at' ab w0 w1 w2 w3 w4 w5 tt B):Bk2 [w0,w1,w2,w3,w4,w5] B:=P.b.bk2 P.T P.G P.sl
theorem Pre.lft (P:Pre S aw at' ab w0 w1 w2 w3 w4 w5 tt B):Lft B:=⟨λt ht=>(P.bk.lf t ht).dp,λt ht=>by
 have h1:=(P.bk.lf t ht).wt;have h2:=(P.bk.lf t ht).nb;omega⟩
end
section
variable {ws:List Str}{B:List Tn}{a l q:Addr}{r:Nat}{E:WX}{D:WEnds}
theorem zpe{S:Sto}{G:Sto→Prop}(hG:G S) (ha:S a=ae (.lst (B.map zba))) (hr:60≤r):∀(xs:List Tr) (y1 y2:Option W),(∀x∈xs,∃y,Two ws B x y)→(∀z,D.nx [ae (.ref a),y1,z] S)→forL (wGN 2) (zdc (r+1) zaR) E D G (xs.map enc) [ae (.ref a),y1,y2] S
 | [],y1,y2,_,h=>h y2
 |x::xs,y1,y2,hx,h=>by
  rw[aA];refine zbj λN hN=>?_;rw[ziN,zdc];walk_at "wp";obtain⟨y,h2⟩:=hx x (by simp);exact h2.ok_goal ha (by omega) (hN _ _ _ .refl hG (zpe hG ha hr xs y1 _ (λz hz=>hx z (aK _ hz)) h))
theorem zdQ{S:Sto}{xs:List Tr}{Q:WK}{X:Str→Sto→Prop}(ha:S a=ae (.lst (B.map zba))) (hl:S l=ae (.lst (xs.map enc))) (hx:∀x∈xs,∃y,Two ws B x y) (hr:60≤r) (h:Q .non S):zbq (r+2) [.ref a, .ref l] S Q X:=by
 rw[show r+2=r+1+1 from rfl,zbq];walk_at "wp";rw[zaj hl];exact zpe hl ha hr xs _ _ hx λz=>⟨_, .refl,h⟩
theorem zlI{α:Type}(xs:List α) (x:α):atI (xs++[x]) (-1)=ae x:=by
 unfold atI ixN;rw[if_neg (by decide),aS,bK];rw[if_pos (by omega)];show(xs++[x])[_]? =ae x;rw[show((-1+((xs.length+1:Nat):Int)).toNat)=xs.length by omega,List.getElem?_concat_length]
theorem zzk{S:Sto}{T:WS}{x y:Tr}{xs:List W}{y1 y2 y5:Option W}(ha:S a=ae (.lst (B.map zba))) (hq:S q=ae (.lst (xs++[enc x]))) (h2:Two ws B x y) (hr:61≤r) (h:T E D [ae (.ref a),y1,y2,ae (.ref q),ae (enc y),ae (enc (res B x y))] S) :
  zbw r T E D [ae (.ref a),y1,y2,ae (.ref q),ae (enc y),y5] S:=by
 rw[zbw];walk_at "wp";rw[zaj hq,zlI];obtain⟨r,rfl⟩:∃r',r=r'+1:=⟨r - 1,by omega⟩
 exact h2.ok_move ha (by omega) h
theorem zyE{S:Sto}{T:WS}{x:Tr}{y1 y2 y3 y4:Option W}(ha:S a=ae (.lst (B.map zba))) (h2:∃y,Two ws B x y) (hr:62≤r) (h:∀S',Sub S S'→T E D [ae (.ref a),y1,y2,y3,y4,ae (enc x)] S') :
  zbx r T E D [ae (.ref a),y1,y2,y3,y4,ae (enc x)] S:=by
 rw[zbx];walk_at "wp";refine⟨by decide,λt ht=>?_⟩;obtain⟨r,rfl⟩:∃r',r=r'+2:=⟨r - 2,by omega⟩
 exact zdQ (xs:=[x]) (keep ha ht) zag (λz hz=>by rw[bf.mp hz];exact h2) (by omega) (h _ (.put .refl ht))
theorem zzu{S:Sto}{x:Tr}{xs:List W}{y1 y2 y3 y4:Option W}(hq:S q=ae (.lst xs)) (hl:xs.length≤1000) (h:D.nx [y1,y2,y3,ae (.ref q),y4,ae (enc x)] (put S q (.lst (xs++[enc x])))) :
  zbs r E D [y1,y2,y3,ae (.ref q),y4,ae (enc x)] S:=by
 rw[zbs];walk_at "wp";rw[zaj hq,zaj hq];exact⟨trivial,zbO (by omega),h⟩
theorem zow{S0:Sto}{G:Sto→Prop}(ha:S0 a=ae (.lst (B.map zba))) (h0:S0 q=none) (hG:∀S,Sub S0 S→G S) (hr:62≤r):∀(os:List Tr) {x:Tr},RowC ws B x os→ ∀(xs:List W) {S:Sto}{y1 y2 y4 y5:Option W},xs.length+os.length≤900→Sub S0 S→S q=ae (.lst (xs++[enc x]))→
  (∀S' y4 y5,Sub S0 S'→S' q=ae (.lst (xs++(zdR B x os).map enc))→D.nx [ae (.ref a),y1,y2,ae (.ref q),y4,y5] S')→
  forL (wGN 4) (zco r zaR) E D G (os.map enc) [ae (.ref a),y1,y2,ae (.ref q),y4,y5] S
 | [],x,_=>λxs S y1 y2 y4 y5 hl sb hq h=>h S _ _ sb hq
 |o::os,x, .cons h2 h3 hc=>by
  intro xs S y1 y2 y4 y5 hl sb hq h;rw[aA];rw[aR]at hl;refine zbj λN hN=>?_;rw[ziN,zco];refine zzk (sb _ _ ha) hq h2 (by omega) ?_;refine zyE (sb _ _ ha) h3 hr λS1 s1=>?_;refine zzu (s1 _ _ hq) (by rw[aS,bK];omega) ?_;have sb2:Sub S0 (put S1 q (.lst (xs++[enc x]++[enc (res B x o)]))):= .put (sb.trans s1) h0;refine hN _ _ _ .refl (hG _ sb2) (zow ha h0 hG hr os hc (xs++[enc x]) (by rw[aS,bK];omega) sb2 zag λS' z4 z5 s' hq'=>?_);refine h S' z4 z5 s' ?_;rw[hq',zdR,aA];simp
theorem ziA{S:Sto}{x:Tr}{os:List Tr}{Q:WK}{X:Str→Sto→Prop}(ha:S a=ae (.lst (B.map zba))) (hl:S l=ae (.lst (os.map enc))) (hc:RowC ws B x os) (hn:os.length≤800) (hr:62≤r)
  (h:∀S' q,Sub S S'→S q=none→S' q=ae (.lst ((zdR B x os).map enc))→Q (.ref q) S'):zcm (r+1) [.ref a,enc x, .ref l] S Q X:=by
 rw[zcm,zgM];refine⟨rfl,?_⟩;rw[zck];walk_at "wp";refine⟨by decide,λq hq=>?_⟩;rw[zcg];walk_at "wp";rw[zaj (keep hl hq)];refine zow ha hq (λS' sb=>sb _ _ hl) hr os (x:=x) hc [] (by simp;omega) (.put .refl hq) zag λS' y4 y5 sb hq'=>?_;rw[zch];walk_at "wp";exact⟨_, .refl,h S' q sb hq (by rw[hq',a8])⟩
end
theorem zef{S:Sto}{t:Tr}(h:t.depth≤57):eqF S 60 (enc t) (enc t)=ae true:=by
 rw[zso 60 _ _ (by omega),zjV]
structure At (S0 S:Sto) (d o b:Addr) (xs:List Tr):Prop where
  d:b≠d
  o:b≠o
  e:S b=ae (.lst (xs.map enc))
  z:S0 b=none
theorem zfp{S0 S:Sto}{q:Addr}(s:Sub S0 S) (h:S q=none):S0 q=none:=by
 cases e:S0 q with
 |none=>rfl
 |some v=>rw[s _ _ e]at h;cases h
theorem At.sub{S0 S S':Sto}{d o b:Addr}{xs:List Tr}(h:At S0 S d o b xs) (s:Sub S S'):At S0 S' d o b xs:=⟨h.d,h.o,s _ _ h.e,h.z⟩
theorem At.pd{S0 S:Sto}{d o b:Addr}{xs:List Tr}{v:Ob}(h:At S0 S d o b xs):At S0 (put S d v) d o b xs:=⟨h.d,h.o,by rw[zaA h.d];exact h.e,h.z⟩
theorem At.po{S0 S:Sto}{d o b:Addr}{xs:List Tr}{v:Ob}(h:At S0 S d o b xs):At S0 (put S o v) d o b xs:=⟨h.d,h.o,by rw[zaA h.o];exact h.e,h.z⟩
noncomputable abbrev Ats (S0 S:Sto) (d o:Addr) (bs:List Addr) (xss:List (List Tr)):Prop:=aM (At S0 S d o) bs xss
theorem zeI{α β:Type}{R:α→β→Prop}{xs:List α}{ys:List β}{x:α}{y:β}(h:aM R xs ys) (g:R x y):aM R (xs++[x]) (ys++[y]):=zfR h (.cons g .nil)
theorem zrr{t:Tr}{r:Nat}{S:Sto}{Q:WK}{X:Str→Sto→Prop}(hw:t.weight≤400) (hd:t.depth≤40) (h:Q (enc t) S):zbf (r+5) [enc t] S Q X:=by
 rw[show r+5=r+4+1 from rfl,zbf];walk_at "wp";refine zgd (r:=r+3) (by omega) ?_;rw[zin hw hd]
 try walk_at "wp"
 exact⟨_, .refl,h⟩
theorem zkR{α β:Type}(f:α→W) (g:β→W):∀(xs:List α) (ys:List β),pairs (xs.map f) (ys.map g)=(xs.zip ys).map λp=> .tup [f p.1,g p.2]
 | [],ys=>by simp [pairs]
 |x::xs,[]=>by simp [pairs]
 |x::xs,y::ys=>by rw[aA,aA,pairs,zkR f g xs ys];rfl
theorem zpo{B:List Tn}:∀(os:List Tr) (x:Tr),(os.zip (zdR B x os)).map (λp=>res B p.1 p.2)=zgK B x os
 | [],x=>rfl
 |o::os,x=>by rw[zdR,gT,aA,zpo os,zgK]
theorem zni{ws:List Str}{B:List Tn}:∀(os:List Tr) {x:Tr},RowC ws B x os→ ∀p∈os.zip (zdR B x os),Two ws B p.1 p.2
 | [],x,_,p,hp=>by cases hp
 |o::os,x, .cons h2 _ hc,p,hp=>by
  rw[zdR,gT]at hp;rcases az.mp hp with rfl |hp
  ·exact h2.symm
  ·exact zni os hc p hp
section
variable {ws:List Str}{B:List Tn}{a l1 l2 d o ρ:Addr}{r:Nat}{E:WX}{D:WEnds}{T:WS}{t:Tr}{xs os:List Tr}{S:Sto}{y0 y1 y2 y3 y4 y5 y6 y7:Option W}
theorem zAz (hd:t.depth≤57) (h:T E D [y0,ae (.tup [enc t, .ref l1]),ae (.tup [enc t, .ref l2]),y3,y4,y5,y6,y7] S) :
  zfd r T E D [y0,ae (.tup [enc t, .ref l1]),ae (.tup [enc t, .ref l2]),y3,y4,y5,y6,y7] S:=by
 rw[zfd];walk_at "wp";rw[zef hd];exact h
theorem zAq (hw:t.weight≤400) (hd:t.depth≤40) (hr:60≤r) (h:T E D [y0,ae (.tup [enc t, .ref l1]),y2,y3,y4,y5,y6,y7] S) :
  zfb r T E D [y0,ae (.tup [enc t, .ref l1]),y2,y3,y4,y5,y6,y7] S:=by
 rw[zfb];walk_at "wp";obtain⟨r,rfl⟩:∃r',r=r'+5:=⟨r - 5,by omega⟩
 exact zrr hw hd h
theorem zAW (ha:S a=ae (.lst (B.map zba))) (hl:S l1=ae (.lst (xs.map enc))) (hx:∀x∈xs,∃y,Two ws B x y) (hr:62≤r) (h:T E D [ae (.ref a),ae (.tup [enc t, .ref l1]),y2,y3,y4,y5,y6,y7] S) :
  zfe r T E D [ae (.ref a),ae (.tup [enc t, .ref l1]),y2,y3,y4,y5,y6,y7] S:=by
 rw[zfe];walk_at "wp";obtain⟨r,rfl⟩:∃r',r=r'+2:=⟨r - 2,by omega⟩
 exact zdQ ha hl hx (by omega) h
theorem zAO (ha:S a=ae (.lst (B.map zba))) (hl:S l2=ae (.lst (os.map enc))) (hx:∀x∈os,∃y,Two ws B x y) (hr:62≤r) (h:T E D [ae (.ref a),y1,ae (.tup [enc t, .ref l2]),y3,y4,y5,y6,y7] S) :
  zfu r T E D [ae (.ref a),y1,ae (.tup [enc t, .ref l2]),y3,y4,y5,y6,y7] S:=by
 rw[zfu];walk_at "wp";obtain⟨r,rfl⟩:∃r',r=r'+2:=⟨r - 2,by omega⟩
 exact zdQ ha hl hx (by omega) h
theorem zAu (h:∀d,S d=none→T E D [y0,y1,y2,ae (.ref d),y4,y5,y6,y7] (put S d (.lst []))):zfB r T E D [y0,y1,y2,y3,y4,y5,y6,y7] S:=by
 rw[zfB];walk_at "wp";exact⟨aY _,h⟩
theorem zAw{vs:List W}(hl:S l2=ae (.lst vs)) (h:∀ρ,S ρ=none→T E D [y0,y1,ae (.tup [enc t, .ref l2]),y3,ae (.ref ρ),y5,y6,y7] (put S ρ (.lst vs))):zfH r T E D [y0,y1,ae (.tup [enc t, .ref l2]),y3,y4,y5,y6,y7] S:=by
 rw[zfH];walk_at "wp";show zcu S l2 λws=>∀ρ,S ρ=none→T E D [y0,y1,ae (.tup [enc t, .ref l2]),y3,ae (.ref ρ),y5,y6,y7] (put S ρ (.lst ws));rw[zaj hl];exact h
theorem zAR (h:∀o,S o=none→T E D [y0,y1,y2,y3,ae (.ref ρ),ae (.ref o),y6,y7] (put S o (.lst [.ref ρ]))):zfI r T E D [y0,y1,y2,y3,ae (.ref ρ),y5,y6,y7] S:=by
 rw[zfI];walk_at "wp";exact⟨by decide,h⟩
theorem zyg{x:Tr}(ha:S a=ae (.lst (B.map zba))) (hl:S ρ=ae (.lst (os.map enc))) (hc:RowC ws B x os) (hn:os.length≤800) (hr:63≤r)
  (h:∀S' q,Sub S S'→S q=none→S' q=ae (.lst ((zdR B x os).map enc))→T E D [ae (.ref a),y1,y2,y3,ae (.ref ρ),y5,ae (enc x),ae (.ref q)] S') :
  zel r T E D [ae (.ref a),y1,y2,y3,ae (.ref ρ),y5,ae (enc x),y7] S:=by
 rw[zel];walk_at "wp";obtain⟨r,rfl⟩:∃r',r=r'+1:=⟨r - 1,by omega⟩
 exact ziA ha hl hc hn (by omega) h
theorem zzs{x:Tr}{q:Addr}(ha:S a=ae (.lst (B.map zba))) (hl:S ρ=ae (.lst (os.map enc))) (hq:S q=ae (.lst ((zdR B x os).map enc))) (hc:RowC ws B x os) (hn:os.length≤800) (hr:63≤r)
  (h:∀ρ',S ρ'=none→T E D [ae (.ref a),y1,y2,y3,ae (.ref ρ'),y5,y6,ae (.ref q)] (put S ρ' (.lst ((zgK B x os).map enc)))) :
  zee r T E D [ae (.ref a),y1,y2,y3,ae (.ref ρ),y5,y6,ae (.ref q)] S:=by
 rw[zee];walk_at "wp";rw[zaj hl,zaj hq,zkR];refine zaQ (λσ=>∃u v,σ=[u,v,ae (.ref a)]) (λp:Tr×Tr=> .tup [enc p.1,enc p.2]) (λp=>enc (res B p.1 p.2)) ⟨hl,hq⟩ (os.zip (zdR B x os)) [] _ ⟨none,none,rfl⟩ (by rw[List.length_zip,znl];simp;omega) (λp hp σ R hI hR=>?_) ?_
 ·obtain⟨u,v,rfl⟩:=hI;have h2:=zni os hc p hp;rw[zrL];show zaq (wGN 0) (zaq (wGN 1) zbI) [enc p.1,enc p.2] _ S _;rw[zfD];show wGN 0 _ _ _ _;rw[ziN,zfD];show wGN 1 _ _ _ _;rw[ziN,ziq,zlZ];show zap _ _ _ [ae (enc p.1),ae (enc p.2),ae (.ref a)] _ _;walk_at "wp";obtain⟨r,rfl⟩:∃r',r=r'+1:=⟨r - 1,by omega⟩
  exact h2.ok_move ha (by omega) (hR _ _ ⟨_,_,rfl⟩ .refl)
 ·intro ρ' hρ;have:=h ρ' hρ;rw[←zpo,bn]at this;exact this
theorem zyU{q:Addr}{vs:List W}(hd:S d=ae (.lst vs)) (hn:vs.length≤1000) (h:T E D [y0,y1,y2,ae (.ref d),y4,y5,y6,ae (.ref q)] (put S d (.lst (vs++[.ref q])))) :
  zeb r T E D [y0,y1,y2,ae (.ref d),y4,y5,y6,ae (.ref q)] S:=by
 rw[zeb];walk_at "wp";rw[zaj hd,zaj hd];exact⟨trivial,zbO (by omega),h⟩
theorem zyX{vs:List W}(hd:S o=ae (.lst vs)) (hn:vs.length≤1000) (h:D.nx [y0,y1,y2,y3,ae (.ref ρ),ae (.ref o),y6,y7] (put S o (.lst (vs++[.ref ρ])))) :
  zec r E D [y0,y1,y2,y3,ae (.ref ρ),ae (.ref o),y6,y7] S:=by
 rw[zec];walk_at "wp";rw[zaj hd,zaj hd];exact⟨trivial,zbO (by omega),h⟩
theorem zpC{S0:Sto}{G:Sto→Prop}(ha:S0 a=ae (.lst (B.map zba))) (hd0:S0 d=none) (ho0:S0 o=none) (hdo:d≠o) (hG:∀S,Sub S0 S→G S) (hr:64≤r):∀(xs:List Tr) {os:List Tr},Cells ws B xs os→ ∀{S:Sto}{ρ:Addr}{ds rs:List Addr}{Ds Rs:List (List Tr)}{y1 y2 y6 y7:Option W},os.length≤800→ds.length+xs.length≤800→rs.length+xs.length≤800→Sub S0 S→S d=ae (.lst (ds.map W.ref))→S o=ae (.lst (rs.map W.ref++[.ref ρ]))→Ats S0 S d o ds Ds→Ats S0 S d o rs Rs→At S0 S d o ρ os→
  (∀S' ds' rs' y4 y6 y7,Sub S0 S'→S' d=ae (.lst (ds'.map W.ref))→S' o=ae (.lst (rs'.map W.ref))→Ats S0 S' d o ds' (Ds++zkU B xs os)→Ats S0 S' d o rs' (Rs++zkY B xs os)→D.nx [ae (.ref a),y1,y2,ae (.ref d),y4,ae (.ref o),y6,y7] S')→
  forL (wGN 6) (zgD r zaR) E D G (xs.map enc) [ae (.ref a),y1,y2,ae (.ref d),ae (.ref ρ),ae (.ref o),y6,y7] S
 | [],os,hz=>by
  rename_i S ρ ds rs Ds Rs y1 y2 y6 y7;intro _ _ _ sb hd ho AD AR Aρ h;refine h S ds (rs++[ρ]) _ _ _ sb hd ?_ ?_ ?_
  ·rw[ho,bE];rfl
  ·rw[zkU,bJ];exact AD
  ·rw[zkY];exact zeI AR Aρ
 |x::xs,os, .cons hc hcs=>by
  rename_i S ρ ds rs Ds Rs y1 y2 y6 y7;intro n1 n2 n3 sb hd ho AD AR Aρ h;rw[aR]at n2 n3;rw[aA];refine zbj λN hN=>?_;rw[ziN,zgD];refine zyg (sb _ _ ha) Aρ.e hc n1 (by omega) λS1 q s1 hq0 hq=>?_;refine zzs (s1 _ _ (sb _ _ ha)) (s1 _ _ Aρ.e) hq hc n1 (by omega) λρ' hρ=>?_;have s2:Sub S (put S1 ρ' (.lst ((zgK B x os).map enc))):=s1.trans (.put .refl hρ);have qd:q≠d:=by rintro rfl;rw[hd]at hq0;cases hq0
  have qo:q≠o:=by rintro rfl;rw[ho]at hq0;cases hq0
  have ρd:ρ'≠d:=by rintro rfl;rw[s1 _ _ hd]at hρ;cases hρ
  have ρo:ρ'≠o:=by rintro rfl;rw[s1 _ _ ho]at hρ;cases hρ
  have Aq:At S0 (put S1 ρ' (.lst ((zgK B x os).map enc))) d o q (zdR B x os):=⟨qd,qo,keep hq hρ,zfp sb hq0⟩;have Aρ':At S0 (put S1 ρ' (.lst ((zgK B x os).map enc))) d o ρ' (zgK B x os):=⟨ρd,ρo,zag,zfp (sb.trans s1) hρ⟩;have AD':=zca (λ_ _ z=>At.sub z s2) AD;have AR':=zca (λ_ _ z=>At.sub z s2) AR;have A0:=Aρ.sub s2;have hd2:=s2 _ _ hd;have ho2:=s2 _ _ ho;have sb2:=sb.trans s2;generalize put S1 ρ' (.lst ((zgK B x os).map enc))=S2 at Aq Aρ' AD' AR' A0 hd2 ho2 sb2⊢;have ld:(ds.map W.ref).length≤1000:=by rw[aq];omega
  have lo:(rs.map W.ref++[W.ref ρ]).length≤1000:=by rw[aS,aq,bK];omega
  refine zyU hd2 ld ?_;refine zyX (vs:=rs.map W.ref++[.ref ρ]) (by rw[zaA hdo.symm];exact ho2) lo ?_;have sb3:Sub S0 (put (put S2 d (.lst (ds.map W.ref++[.ref q]))) o (.lst (rs.map W.ref++[.ref ρ]++[.ref ρ']))):= .put (.put sb2 hd0) ho0;refine hN _ _ _ .refl (hG _ sb3) (zpC ha hd0 ho0 hdo hG hr xs (ds:=ds++[q]) (rs:=rs++[ρ]) (Ds:=Ds++[zdR B x os]) (Rs:=Rs++[os]) hcs (by rw[zlA];exact n1) (by rw[aS,bK];omega) (by rw[aS,bK];omega) sb3 ?_ ?_ ?_ ?_ Aρ'.pd.po λS' ds' rs' z4 z6 z7 s' h1 h2 h3 h4=>?_)
  ·rw[zaA hdo,zag,bE];rfl
  ·rw[zag,bE];rfl
  ·exact zeI (zca (λ_ _ z=>At.po (At.pd z)) AD') Aq.pd.po
  ·exact zeI (zca (λ_ _ z=>At.po (At.pd z)) AR') A0.pd.po
  ·refine h S' ds' rs' z4 z6 z7 s' h1 h2 ?_ ?_
   ·rw[zkU];rw[cp]at h3;exact h3
   ·rw[zkY];rw[cp]at h4;exact h4
theorem Roa.two (K:Bk2 ws B):∀(xs:List Tr) {t:Tr},Roa ws B t xs→Bd t (nR B xs)→ ∀x∈xs,∃y,Two ws B x y
 | [],t,_,_,x,hx=>by cases hx
 |z::xs,t,⟨hz,ez,hr⟩,hb,x,hx=>by
  rw[nR]at hb;rcases az.mp hx with rfl |hx
  ·exact⟨_,K.ow hz ez (hb.mono (by omega))⟩
  ·exact Roa.two K xs hr (K.goal hz ez hb) x hx
structure Grd (S0 S:Sto) (B:List Tn) (xs os:List Tr) (d o:Addr):Prop where
  sub:Sub S0 S
  d0:S0 d=none
  o0:S0 o=none
  ne:d≠o
  ex:∃ds rs,S d=ae (.lst (ds.map W.ref))∧S o=ae (.lst (rs.map W.ref))∧Ats S0 S d o ds (zkU B xs os)∧Ats S0 S d o rs (zkY B xs os)
theorem zuP{Q:WK}{X:Str→Sto→Prop}(ha:S a=ae (.lst (B.map zba))) (h1:S l1=ae (.lst (xs.map enc))) (h2:S l2=ae (.lst (os.map enc))) (hc:Cells ws B xs os) (tx:∀x∈xs,∃y,Two ws B x y) (to:∀x∈os,∃y,Two ws B x y) (hw:t.weight≤400) (hd:t.depth≤40) (nx:xs.length≤700) (no:os.length≤700) (hr:64≤r)
  (h:∀S' d o,Grd S S' B xs os d o→Q (.tup [.ref d, .ref o]) S'):zkB (r+1) [.ref a, .tup [enc t, .ref l1], .tup [enc t, .ref l2]] S Q X:=by
 rw[zkB,zgM];refine⟨rfl,?_⟩;refine zAz (by omega) (zAq hw (by omega) (by omega) (zAW ha h1 tx (by omega) (zAO ha h2 to (by omega) (zAu λd hd=>zAw (keep h2 hd) λρ hρ=>zAR λo h0=>?_))));have ρd:ρ≠d:=by rintro rfl;rw[zag]at hρ;cases hρ
 have od:o≠d:=by rintro rfl;rw[zaA ρd.symm,zag]at h0;cases h0
 have oρ:o≠ρ:=by rintro rfl;rw[zag]at h0;cases h0
 have oS:S o=none:=by rw[zaA oρ,zaA od]at h0;exact h0
 have sb:Sub S (put (put (put S d (.lst [])) ρ (.lst (os.map enc))) o (.lst [.ref ρ])):=(Sub.put .refl hd).trans ((Sub.put .refl hρ).trans (.put .refl h0));rw[zgF];walk_at "wp";show zcu _ l1 _;rw[zaj (sb _ _ h1)];refine zpC ha hd oS od.symm (λS' s'=>s' _ _ h1) hr xs (ds:=[]) (rs:=[]) (Ds:=[]) (Rs:=[]) hc (by omega) (by simp;omega) (by simp;omega) sb ?_ zag .nil .nil ⟨ρd,oρ.symm,?_,by rw[zaA ρd]at hρ;exact hρ⟩ λS' ds rs y4 y6 y7 s' g1 g2 g3 g4=>?_
 ·rw[zaA od.symm,zaA ρd.symm,zag];rfl
 ·rw[zaA oρ.symm,zag]
 ·rw[zgE];walk_at "wp";exact⟨by decide,_, .refl,h S' d o ⟨s',hd,oS,od.symm,ds,rs,g1,g2,g3,g4⟩⟩
end
noncomputable def opl (B:List Tn) (t:Tr):List (List Int):=(t.op B []).map λx=>x.1
theorem Sh.hdT{ws:List Str}{B:List Tn}{t:Tr}(h:Sh ws B t):t.hd λ_=>True:=zpU (λ_ _=>trivial) _ h.wy.hd
theorem Sh.wn{ws:List Str}{B:List Tn}{t:Tr}(h:Sh ws B t) {wn:List (List Int)}(hw:∀q∈wn,q∈opl B t):zvw B wn [] t:=by
 intro q hq e v he hv;rw[a8]at he;subst he;obtain⟨x,hx,rfl⟩:=aI.mp (hw q hq);rw[←zon B t [] (zeH _ h.hdT)]at hx;obtain⟨y,hy,hx⟩:=iM.mp hx;unfold zxh at hx;obtain⟨u,hu,rfl⟩:=aI.mp hx;have:=(zpv hy).1;rw[this]at hv;cases hv;cases e:zey B y.2 with
 |none=>rw[e]at hu;cases hu
 |some _=>rfl
section
variable {B:List Tn}{t:Tr}{xs:List Tr}
theorem zsJ:∀(xs ys:List Tr),nR B (xs++ys)=nR B xs+nR B ys
 | [],ys=>by rw[a8,nR,b5]
 |x::xs,ys=>by rw[dR,nR,nR,zsJ xs ys,jE]
theorem Bd.small{n:Nat}(h:Bd t n):t.weight≤400∧t.depth≤40:=by
 have h1:=h.w;have h2:=h.d;exact⟨aW (jY _ (zeM _)) h1,by omega⟩
end
theorem zih{α β:Type}{R:α→β→Prop}:∀{xs:List α}{ys:List β},aM R xs ys→ ∃zs:List (α×β),zs.map (λz=>z.1)=xs∧zs.map (λz=>z.2)=ys∧ ∀z∈zs,R z.1 z.2
 |_,_, .nil=>⟨[],rfl,rfl,by simp⟩
 |_,_, .cons h1 h2=>by
  obtain⟨zs,e1,e2,h3⟩:=zih h2;exact⟨(_,_)::zs,by rw[aA,e1],by rw[aA,e2],λz hz=>by
   rcases az.mp hz with rfl |hz
   ·exact h1
   ·exact h3 z hz⟩
theorem zhB{α β γ:Type}{R:α→β→Prop}{R':β→γ→Prop}:∀{xs:List α}{ys:List β}{zs:List γ},aM R xs ys→aM R' ys zs→aM (λx z=>∃y,R x y∧R' y z) xs zs
 |_,_,_, .nil, .nil=> .nil
 |_,_,_, .cons h1 h2, .cons g1 g2=> .cons ⟨_,h1,g1⟩ (zhB h2 g2)
theorem zhc{α β:Type}{R:α→β→Prop}:∀{ys:List β}{xs:List α}{y:β},aM R xs (ys++[y])→ ∃pre x,xs=pre++[x]∧R x y
 | [],_,y, .cons h .nil=>⟨[],_,rfl,h⟩
 |_::ys,_,y, .cons (a:=a) h g=>by
  obtain⟨pre,x,e,h⟩:=zhc g;exact⟨a::pre,x,by rw[e];rfl,h⟩
section
variable {ws:List Str}{B:List Tn}
theorem zpz (os:List Tr) (x:Tr):∃l,zdR B x os=l++[zhK B x os]:=by
 have:=zjR (B:=B) os x;rw[List.getLast?_eq_some_iff]at this;exact this
theorem zkO:∀(xs os:List Tr),aM (λline u=>∃l,line=l++[u]) (zkU B xs os) (zdl B xs os)
 | [],os=> .nil
 |x::xs,os=> .cons (zpz os x) (zkO xs _)
theorem zks:∀(xs os:List Tr),∃l,zkY B xs os=l++[zeQ B xs os]
 | [],os=>⟨[],rfl⟩
 |x::xs,os=>by
  obtain⟨l,e⟩:=zks xs (zgK B x os);exact⟨os::l,by rw[zkY,e,zeQ];rfl⟩
theorem zpS:∀(xs ys:List Tr) (t:Tr),zhF B t (xs++ys)=zhF B (zhF B t xs) ys
 | [],ys,t=>rfl
 |x::xs,ys,t=>zpS xs ys (gol B x)
theorem Roa.app:∀(xs:List Tr) {ys:List Tr}{t:Tr},Roa ws B t xs→Roa ws B (zhF B t xs) ys→Roa ws B t (xs++ys)
 | [],_,_,_,h=>h
 |x::xs,_,_,⟨h1,h2,h3⟩,h=>⟨h1,h2,Roa.app xs h3 h⟩
end
section
variable {ws:List Str}{B:List Tn}{a l d o:Addr}{r:Nat}{t:Tr}{xs os:List Tr}{S:Sto}{Q:WK}{X:Str→Sto→Prop}
theorem zkn{S0:Sto}{ds:List Addr}(hd:S d=ae (.lst (ds.map W.ref))) (hn:xs.length≤700) (AD:Ats S0 S d o ds (zkU B xs os)) (h:∀q,S q=none→Q (.ref q) (put S q (.lst ((zdl B xs os).map enc)))):zcO (r+1) [.tup [.ref d, .ref o]] S Q X:=by
 obtain⟨zs,e1,e2,h3⟩:=zih (zhB AD (zkO xs os));rw[zcO];walk_at "wp";rw[zaj hd];have e3:ds.map W.ref=zs.map λz=>W.ref z.1:=by rw[←e1,bn];rfl
 have hz:zs.length=xs.length:=by rw[←zfM (B:=B) xs os,←e2,aq]
 rw[e3];refine zaQ (λσ=>∃y,σ=[y]) (λz:Addr×Tr=>W.ref z.1) (λz=>enc z.2) (by rw[←e3];exact hd) zs [] _ ⟨none,rfl⟩ (by simp;omega) (λz hz σ R hI hR=>?_) ?_
 ·obtain⟨y,rfl⟩:=hI;obtain⟨line,A,l,rfl⟩:=h3 z hz;rw[zeF];walk_at "wp";have Ae:=A.e;rw[bE]at Ae;rw[zaj Ae,show [z.2].map enc=[enc z.2] from rfl,zlI];exact hR _ _ ⟨_,rfl⟩ .refl
 ·intro q hq;have:=h q hq;rw[←e2,bn]at this;exact⟨_, .refl,this⟩
theorem zoI{E:WX}{D:WEnds}{G:Sto→Prop}(K:Bk2 ws B) (hG:G S) (ha:S a=ae (.lst (B.map zba))) (hr:60≤r):∀(zs:List Tr) {t:Tr}{y1 y3:Option W},Roa ws B t zs→Bd t (nR B zs)→(∀y3,D.nx [ae (.ref a),y1,ae (enc (zhF B t zs)),y3] S)→
  forL (wGN 3) (zcl (r+1) zaR) E D G (zs.map enc) [ae (.ref a),y1,ae (enc t),y3] S
 | [],t,y1,y3,_,_,h=>h y3
 |z::zs,t,y1,y3,⟨hz,ez,hr'⟩,hb,h=>by
  rw[nR]at hb;have h2:=K.ow hz ez (hb.mono (by omega));have hd:=hb.small.2;rw[aA];refine zbj λF hF=>?_;rw[ziN,zcl,zbV];walk_at "wp";refine h2.ok_made1 ha (by omega) ?_;rw[ez,zef (by omega)];show zbu _ _ _ _ _;rw[zbu];walk_at "wp";exact h2.ok_made2 ha (by omega) (hF _ _ _ .refl hG (zoI K hG ha hr zs hr' (K.goal hz ez hb) h))
theorem zkH (K:Bk2 ws B) (ha:S a=ae (.lst (B.map zba))) (hl:S l=ae (.lst (xs.map enc))) (hx:Roa ws B t xs) (ht:t.depth≤50) (hb:Bd t (nR B xs)) (hr:64≤r) (h:Q (enc (zhF B t xs)) S):zbH (r+1) [.ref a, .tup [enc t, .ref l]] S Q X:=by
 rw[zbH,zgM];refine⟨rfl,?_⟩;rw[zcp];walk_at "wp";rw[show atI [enc t,W.ref l] 1=ae (.ref l) from rfl];walk_at "wp";rw[if_neg (by decide),zaj hl,zcn];walk_at "wp";rw[zcq];walk_at "wp";show zcu S l _;rw[zaj hl];obtain⟨r,rfl⟩:∃r',r=r'+1:=⟨r - 1,by omega⟩
 refine zoI K hl ha (by omega) xs hx hb λy3=>?_;rw[zcs];walk_at "wp";exact⟨_, .refl,h⟩
end
structure Rds (S:Sto) (ws:List Str) (B:List Tn) (ab:Addr) (t:Tr) (l1 l2:Addr) (xs os:List Tr):Prop where
  K:Bk2 ws B
  fb:S ab=ae (.lst (B.map zba))
  sh:Sh ws B t
  bd:Bd t 4
  f1:S l1=ae (.lst (xs.map enc))
  f2:S l2=ae (.lst (os.map enc))
  r1:Roa ws B t xs
  r2:Roa ws B t os
  n:nR B xs+nR B os≤4
  x3:xs.length≤3
  o3:os.length≤3
  hB:B.length≤1000
theorem Rds.symm{S:Sto}{ws:List Str}{B:List Tn}{ab:Addr}{t:Tr}{l1 l2:Addr}{xs os:List Tr}(h:Rds S ws B ab t l1 l2 xs os):Rds S ws B ab t l2 l1 os xs:=⟨h.K,h.fb,h.sh,h.bd,h.f2,h.f1,h.r2,h.r1,by have:=h.n;omega,h.o3,h.x3,h.hB⟩
theorem Pre.pb{S:Sto}{aw at' ab:Addr}{w0 w1 w2 w3 w4 w5:Str}{tt:List Str}{B:List Tn}(P:Pre S aw at' ab w0 w1 w2 w3 w4 w5 tt B):PB B:=λt ht x hx=>by
 have h1:=(zol hx).2.2;have h2:=(P.bk.lf t ht).dp;omega
mutual
noncomputable def Tr.wd:Tr→Prop
 | .bl _=>True
 | .nd _ ts=>ts.length≤1000∧wds ts
noncomputable def wds:List Tr→Prop
 | []=>True
 |t::ts=>t.wd∧wds ts
end
noncomputable def stk (x:Tr):List Str→Tr
 | []=>x
 |h::hs=> .nd h [stk x hs]
section
variable {ws:List Str}{B:List Tn}
def zzF (B:List Tn) (wn:List (List Int)) (p:List Int) (t:Tr):Prop:=∀e v,t.at e=ae v→(p++e∈wn↔(zey B v).isSome=true)
theorem Sh.all{t:Tr}(h:Sh ws B t):zzF B (opl B t) [] t:=λe v hv=>by
 have ft:=zeH (m:=0) _ h.hdT;rw[a8];constructor
 ·intro he;exact h.wn (λq hq=>hq) e he e v (by simp) hv
 ·intro ho;obtain⟨u,ho⟩:=dr.mp ho;have m:=zsZ t [] e v hv;rw[a8]at m;unfold opl;rw[←zon B t [] ft];refine aI.mpr ⟨(e,u.1),iM.mpr ⟨(e,v),m,?_⟩,rfl⟩;unfold zxh;rw[ho];simp
structure Ful (ws:List Str) (B:List Tn) (t u:Tr):Prop where
  wi:Wi B (opl B t) t.depth [] t u
  sr:src B u=t
  wy:Wy ws B u
  us:u.us B []=t.op B []
open Classical in
noncomputable def fw (ws:List Str) (B:List Tn) (t:Tr):Tr:=if h:∃u,Ful ws B t u then choose h else t
noncomputable def hh (ws:List Str) (B:List Tn) (t:Tr):Nat→Tr
 |0=>t
 |k+1=>gol B (fw ws B (hh ws B t k))
noncomputable def wys (ws:List Str) (B:List Tn) (t:Tr) (k:Nat):List Tr:=(aU k).map λi=>fw ws B (hh ws B t i)
end
structure WyF (ws:List Str) (B:List Tn) (x u:Tr):Prop where
  f:Ful ws B x u
  wt:u.weight≤400
  dp:u.depth≤40
  ar:u.ar B
  hd:u.hd λ_=>True
  wd:(u.mk B (zaK 2)).wd
section
variable {ws:List Str}{B:List Tn}{x:Tr}
theorem Sh.quiet (K:Bk3 ws B) (h:Sh ws B x):x.quiet=true:=by
 refine zhU x ?_;have:∀(n:Nat) (x:Tr),x.depth≤n→Sh ws B x→x.hd zcN:=by
  intro n
  induction n with
  |zero=>
   intro x hd h;have:=zaS x;omega
  |succ n ih=>
   intro x hd h;obtain⟨s,ts,rfl,hs,_,k⟩:=h.cases K;rw[Tr.depth]at hd;rw[Tr.hd,hds_iff];exact⟨K.b.sg s hs,λu hu=>ih u (by have:=zbA hu;omega) (k u hu)⟩
 exact this _ x (au _) h
end
section
variable {ws:List Str}{B:List Tn}
theorem zwP (b:BkOk ws ws B) (O:Ort B) {t:Tn}(ht:t∈B) {x:Tr}{us:List Tr}(hx:Wy ws B x) (hl:us.length=t.2.1.nb) (h:src B x=t.2.1.fill us) :
  ∃(m:Nat) (vs:List Tr),m≤1∧x=evT t m vs∧vs.map (src B)=us∧(∀y∈vs,Wy ws B y)∧wts vs+1≤x.weight:=by
 rcases hx.cases b with⟨s,as,rfl,hs,es,ka⟩ |⟨u,as,hu,rfl,eu,la,ka⟩
 ·obtain⟨vs,ev,lv,ms,kv,wv⟩:=zeN b O ht es hx hl h;have hm:=O.mt t ht vs lv;rw[←ev]at hm;obtain⟨s0,ls,e0,_⟩:=O.inn t ht;rw[e0,Tr.mt]at hm;split at hm
  ·have:=zfQ _ _ _ hm;exact⟨0,vs,by omega,ev,ms,kv,by rw[zfn];omega⟩
  ·cases hm
 ·rw[show src B (.nd u.1 as)=_ from zdy eu]at h;have m1:=O.mt t ht us hl;have m2:=O.mt u hu (as.map (src B)) (by rw[aq,la]);have:u=t:=O.one u hu t ht _ (by rw[m2];rfl) (by rw[show u.2.1.fill (as.map (src B))=_ from h,m1];rfl)
  subst this;rw[show u.2.1.fill (as.map (src B))=_ from h,m1]at m2;exact⟨1,as,by omega,rfl,(aG m2).symm,ka,by rw[zfn];omega⟩
end
section
variable {ws:List Str}{B:List Tn}
theorem Wy.re{h:Str}{ts us:List Tr}(w:Wy ws B (.nd h ts)) (hl:us.length=ts.length) (hu:∀x∈us,Wy ws B x):Wy ws B (.nd h us):=by
 obtain⟨h1,h2⟩:=w;rw[Tr.hd,hds_iff]at h1;rw[Tr.ar,ars_iff]at h2;refine⟨?_,?_⟩
 ·rw[Tr.hd,hds_iff];exact⟨h1.1,λu hm=>(hu u hm).hd⟩
 ·rw[Tr.ar,ars_iff];exact⟨λt e=>by rw[hl];exact h2.1 t e,λu hm=>(hu u hm).ar⟩
end
structure Pw (w0 w1 w2 w3 w4 w5:Str) (tt:List Str) (B:List Tn) (p:Pl):Prop where
  b:BookOk w0 w1 w2 w3 w4 w5 tt B
  T:Titles tt
  G:Signs w0 w1 w2 w3 w4 w5
  o:PlOk [w2,w3,w4,w5] B p
  w:p.wt≤23
  n:p.nt≤4
section
variable {w0 w1 w2 w3 w4 w5:Str}{tt:List Str}{B:List Tn}{p:Pl}
theorem Pw.k (u:Pw w0 w1 w2 w3 w4 w5 tt B p):BkOk [w0,w1,w2,w3,w4,w5] [w2,w3,w4,w5] B:=u.b.bk u.T u.G
theorem Pw.nd (u:Pw w0 w1 w2 w3 w4 w5 tt B p):(B.map λt=>t.1).Nodup:=u.k.nd
end
section
variable {ws:List Str}{B:List Tn}{x y:Tr}
structure Cel (ws:List Str) (B:List Tn) (x y:Tr):Prop where
  K:Bk3 ws B
  wx:Wy ws B x
  wy:Wy ws B y
  e:src B x=src B y
  sm:(src B y).small=true
theorem Cel.symm (h:Cel ws B x y):Cel ws B y x:=⟨h.K,h.wy,h.wx,h.e.symm,by rw[h.e];exact h.sm⟩
end
section
variable {B:List Tn}
structure Lfs (B:List Tn):Prop where
  op:∀t∈B,∀us:List Tr,us.length=t.2.1.nb→zey B (t.2.1.fill us)=ae t
  lf:∀t∈B,∃n h c d,t.2.1∈leftsL n h c d
end
structure Ms where
  c0:Nat
  c1:Nat
  k:Tn→Nat→Nat
mutual
theorem zhW:∀x:Tr,x.quiet=true→x.hd zcN
 | .bl n,h=>by rw[Tr.quiet]at h;cases h
 | .nd s ts,h=>by
  rw[Tr.quiet,bR]at h;rw[Tr.hd];exact⟨(zfw s).mp h.1,zhy ts h.2⟩
theorem zhy:∀ts:List Tr,zgO ts=true→hds zcN ts
 | [],h=>by rw[hds];trivial
 |t::ts,h=>by
  rw[zgO,bR]at h;rw[hds];exact⟨zhW t h.1,zhy ts h.2⟩
end
theorem zjq:∀(q:List Int) {X v:Tr},X.at q=ae v→X.put q v=X
 | [],X,v,h=>by
  rw[zhx]at h;cases h;exact zdY _ _
 |i::q, .bl n,v,h=>by cases h
 |i::q, .nd s ts,v,h=>by
  obtain⟨w,h0,h1,h2⟩:=zgv h;rw[zgh h1,zjq q h2];congr 1;exact List.ext_getElem? λj=>by
   rw[List.getElem?_set];split
   ·rename_i e;rw[←e,h1];simp [(ca.mp h1).1]
   ·rfl
theorem zur:∀(q:List Int) {X v:Tr},X.at q=ae v→q.length+v.depth≤X.depth
 | [],X,v,h=>by
  rw[zhx]at h;cases h;simp
 |i::q, .bl n,v,h=>by cases h
 |i::q, .nd s ts,v,h=>by
  obtain⟨w,h0,h1,h2⟩:=zgv h;have:=zur q h2;have:=zbA (aX h1);rw[Tr.depth,aR];omega
theorem zmk{u:Tr}:∀(ts:List Tr) (i:Nat),dts (ts.set i u)≤max (dts ts) u.depth
 | [],i=>by simp [dts]
 |t::ts,0=>by rw[fF,dts,dts];omega
 |t::ts,i+1=>by
  have:=zmk (u:=u) ts i;rw[fK,dts,dts];omega
theorem zsT{u:Tr}:∀(q:List Int) {X v:Tr},X.at q=ae v→(X.put q u).depth≤max X.depth (q.length+u.depth)
 | [],X,v,h=>by rw[zdY];simp;omega
 |i::q, .bl n,v,h=>by cases h
 |i::q, .nd s ts,v,h=>by
  obtain⟨w,h0,h1,h2⟩:=zgv h;have h3:=zsT (u:=u) q h2;have h4:=zmk (u:=w.put q u) ts i.toNat;have h5:=zbA (aX h1);rw[zgh h1,Tr.depth,Tr.depth,aR];omega
section
variable {ws:List Str}{B:List Tn}
theorem Sh.sig (K:Bk3 ws B) {X:Tr}(h:Sh ws B X):X.hd zcN:=zhW _ (h.quiet K)
theorem Sh.mkq (K:Bk3 ws B) {X:Tr}(h:Sh ws B X) (g:Tn→Tr):X.mk B g=X:=zmg K.b.ti _ (h.sig K)
theorem zsQ (K:Bk3 ws B) {ts:List Tr}(h:∀t∈ts,Sh ws B t) (g:Tn→Tr):ts.map (Tr.mk B g)=ts:=by
 rw[cF (g:=id) λt ht=>(h t ht).mkq K g,List.map_id]
theorem zqv (K:Bk3 ws B) (g:Tn→Tr) {u:Tr}:∀(q:List Int) {X v:Tr},Sh ws B X→X.at q=ae v→(X.put q u).mk B g=X.put q (u.mk B g)
 | [],X,v,hs,h=>by rw[zdY,zdY]
 |i::q, .bl n,v,hs,h=>by cases h
 |i::q, .nd s ts,v,hs,h=>by
  obtain⟨w,h0,h1,h2⟩:=zgv h;obtain⟨s',ts',e,_,e2,k⟩:=hs.cases K;cases e;rw[zgh h1,zgh h1,zeh e2,List.map_set,zsQ K k,zqv K g q (k w (aX h1)) h2]
theorem zsB{u:Tr}(hu:Wy ws B u):∀(q:List Int) {X v:Tr},Wy ws B X→X.at q=ae v→Wy ws B (X.put q u)
 | [],X,v,hs,h=>by rw[zdY];exact hu
 |i::q, .bl n,v,hs,h=>by cases h
 |i::q, .nd s ts,v,hs,h=>by
  obtain⟨w,h0,h1,h2⟩:=zgv h;rw[zgh h1];refine hs.re (by simp) λz hz=>?_;rcases jJ hz with q' |rfl
  ·exact hs.kids z q'
  ·exact zsB hu q (hs.kids w (aX h1)) h2
end
noncomputable def zeZ (A:List (Int×Tr)):List (Key×W):=A.map λx=>(Sum.inl x.1,enc x.2)
noncomputable def lkA (A:List (Int×Tr)) (n:Int):Option Tr:=(A.find? λx=>decide (x.1=n)).map (·.2)
noncomputable def smA (A:List (Int×Tr)):Nat:=(A.map λx=>x.2.weight).sum
def NdA (A:List (Int×Tr)):Prop:=(A.map (·.1)).Nodup
theorem zhi{x:Int×Tr}{A:List (Int×Tr)}{n:Int}(h:x.1=n):lkA (x::A) n=ae x.2:=by simp [lkA,bG,h]
theorem zgj{x:Int×Tr}{A:List (Int×Tr)}{n:Int}(h:x.1≠n):lkA (x::A) n=lkA A n:=by simp [lkA,bG,h]
theorem zqB{n:Int}:∀A:List (Int×Tr),vlK (zeZ A) (.inl n)=(lkA A n).map enc
 | []=>rfl
 |x::A=>by
  have ih:=zqB (n:=n) A;by_cases h:x.1=n
  ·rw[zhi h];simp [vlK,zeZ,h]
  ·rw[zgj h,←ih];simp [vlK,zeZ,h]
theorem zsR:∀{A:List (Int×Tr)}{x:Int×Tr},NdA A→x∈A→lkA A x.1=ae x.2
 |y::A,x,h,hx=>by
  unfold NdA at h;rw[aA,da]at h;rcases az.mp hx with rfl |hx
  ·exact zhi rfl
  ·rw[zgj (λz=>h.1 (by rw[z];exact aI.mpr ⟨x,hx,rfl⟩))];exact zsR h.2 hx
theorem zrS:∀{A:List (Int×Tr)}{n:Int},lkA A n=none→ ∀x∈A,x.1≠n
 |y::A,n,h,x,hx=>by
  by_cases e:y.1=n
  ·rw[zhi e]at h;cases h
  ·rw[zgj e]at h;rcases az.mp hx with rfl |hx
   ·exact e
   ·exact zrS h x hx
theorem zjo:∀{A:List (Int×Tr)}{n m:Int}{t:Tr},lkA A n=none→lkA (A++[(n,t)]) m=if m=n then ae t else lkA A m
 | [],n,m,t,h=>by
  by_cases e:m=n
  ·subst e;rw[if_pos rfl];exact zhi rfl
  ·rw[if_neg e];exact zgj (λz=>e z.symm)
 |y::A,n,m,t,h=>by
  have hy:=zrS h y a0;rw[zgj hy]at h;rw[dR];by_cases e:y.1=m
  ·rw[zhi e,zhi e,if_neg (by rw[←e];exact hy)]
  ·rw[zgj e,zgj e,zjo h]
theorem zyz{n:Int}{t:Tr}{A:List (Int×Tr)}(h:lkA A n=none):ptK (zeZ A) (.inl n) (enc t)=zeZ (A++[(n,t)]):=by
 unfold ptK;rw[if_neg]
 ·simp [zeZ]
 ·intro z;obtain⟨kv,h1,h2⟩:=jj.mp z;obtain⟨x,hx,rfl⟩:=aI.mp h1;have h3:(Sum.inl x.1:Key)= .inl n:=of_decide_eq_true h2;exact zrS h x hx (gw h3)
theorem zvG{n:Int}{t:Tr}{A:List (Int×Tr)}(hn:NdA A) (h:lkA A n=ae t):ptK (zeZ A) (.inl n) (enc t)=zeZ A:=by
 unfold ptK;have hm:(zeZ A).map (λkv=>if kv.1=Sum.inl n then(kv.1,enc t) else kv)=zeZ A:=by
  unfold zeZ;rw[bn];refine cF λx hx=>?_;simp only[hZ];by_cases e:x.1=n
  ·have:=zsR hn hx;rw[e,h]at this;cases this;rw[if_pos (by rw[e])]
  ·rw[if_neg (λz=>e (gw z))]
 by_cases e:((zeZ A).any λkv=>decide (kv.1=Sum.inl n))=true
 ·rw[if_pos e];exact hm
 ·exfalso;apply e;cases k:A.find? (λx=>decide (x.1=n)) with
  |none=>unfold lkA at h;rw[k]at h;cases h
  |some x=>
   have h1:=cK k;have h2:=kr k;exact jj.mpr ⟨(Sum.inl x.1,enc x.2),aI.mpr ⟨x,h1,rfl⟩,by have:=of_decide_eq_true h2;simp [this]⟩
theorem zxk{n:Int}{t:Tr}{A:List (Int×Tr)}(hn:NdA A) (h:lkA A n=none):NdA (A++[(n,t)]):=by
 unfold NdA at hn⊢;rw[bE,iV];refine⟨hn,by simp,λa ha b hb=>?_⟩
 obtain⟨x,hx,rfl⟩:=aI.mp ha;simp only[aA,cm,bf]at hb;subst hb;exact zrS h x hx
theorem zvJ{n:Int}{t:Tr}{A:List (Int×Tr)}:smA (A++[(n,t)])=smA A+t.weight:=by simp [smA]
structure PaOk (P:Tr→Prop) (A A':List (Int×Tr)) (R u:Tr):Prop where
  ex:∀n t,lkA A n=ae t→lkA A' n=ae t
  fl:∀us:List Tr,(∀n t,lkA A' n=ae t→us.getD n.toNat (.bl n)=t)→R.fill us=u
  ps:∀n t,lkA A' n=ae t→P t
  nd:NdA A'
  sm:smA A'≤smA A+u.weight
  ln:A'.length≤A.length+R.weight
  ky:∀m,R.fits m→(∀n t,lkA A n=ae t→0≤n∧n<(m:Int))→ ∀n t,lkA A' n=ae t→0≤n∧n<(m:Int)
structure PaOks (P:Tr→Prop) (A A':List (Int×Tr)) (Rs us:List Tr):Prop where
  ex:∀n t,lkA A n=ae t→lkA A' n=ae t
  fl:∀vs:List Tr,(∀n t,lkA A' n=ae t→vs.getD n.toNat (.bl n)=t)→fills vs Rs=us
  ps:∀n t,lkA A' n=ae t→P t
  nd:NdA A'
  sm:smA A'≤smA A+wts us
  ln:A'.length≤A.length+wts Rs
  ky:∀m,fitss m Rs→(∀n t,lkA A n=ae t→0≤n∧n<(m:Int))→ ∀n t,lkA A' n=ae t→0≤n∧n<(m:Int)
theorem PaOks.cons{P:Tr→Prop}{A A1 A2:List (Int×Tr)}{R u:Tr}{Rs us:List Tr}(h:PaOk P A A1 R u) (k:PaOks P A1 A2 Rs us):PaOks P A A2 (R::Rs) (u::us) where
  ex n t e:=k.ex n t (h.ex n t e)
  fl vs hv:=by rw[fills,h.fl vs λn t e=>hv n t (k.ex n t e),k.fl vs hv]
  ps:=k.ps
  nd:=k.nd
  sm:=by have h1:=h.sm;have h2:=k.sm;rw[zbi];omega
  ln:=by have h1:=h.ln;have h2:=k.ln;rw[zbi];omega
  ky m hm hA:=by rw[fitss]at hm;exact k.ky m hm.2 (h.ky m hm.1 hA)
theorem PaOks.up{P:Tr→Prop}{A A':List (Int×Tr)}{Rs us:List Tr}{s:Str}(k:PaOks P A A' Rs us):PaOk P A A' (.nd s Rs) (.nd s us) where
  ex:=k.ex
  fl vs hv:=by rw[Tr.fill,k.fl vs hv]
  ps:=k.ps
  nd:=k.nd
  sm:=by have h2:=k.sm;rw[Tr.weight];omega
  ln:=by have h2:=k.ln;rw[Tr.weight];omega
  ky m hm hA:=by rw[Tr.fits]at hm;exact k.ky m hm hA
theorem zge{P:Tr→Prop}{r:Nat}{a:Addr}{E:WX}{D:WEnds}{x0 x1:Option W}:∀(ls us:List Tr)
  (one:∀l∈ls,∀{t:Tr}{S:Sto}{A:List (Int×Tr)}{Q:WK}{E:Str→Sto→Prop},t.fits 0→P t→S a=ae (.dk (zeZ A))→NdA A→(∀n t,lkA A n=ae t→P t)→A.length+l.weight≤1000→(∀A',PaOk P A A' l t→Q (.ref a) (put S a (.dk (zeZ A'))))→(∀A',Q .non (put S a (.dk (zeZ A'))))→zbg r [enc l,enc t, .ref a] S Q E)
  {S:Sto}{A:List (Int×Tr)}{x3 x4:Option W},ls.length=us.length→fitss 0 us→(∀t∈us,P t)→S a=ae (.dk (zeZ A))→NdA A→(∀n t,lkA A n=ae t→P t)→A.length+wts ls≤1000→
  (∀A' x3 x4,PaOks P A A' ls us→D.nx [x0,x1,ae (.ref a),x3,x4] (put S a (.dk (zeZ A'))))→(∀A',D.rt .non (put S a (.dk (zeZ A'))))→
  forL (wGT (zaq (wGN 3) (zaq (wGN 4) zbI))) (zdx r (zbg r)) E D (λ_=>True) (pairs (encs ls) (encs us)) [x0,x1,ae (.ref a),x3,x4] S
 | [],[],one,S,A,x3,x4,hl,hf,hp,ha,hn,hA,hw,h1,h0=>by
  have q:=h1 A x3 x4 ⟨λ_ _ h=>h,λ_ _=>by rw[fills],hA,hn,by rw[ziB];omega,by rw[ziB];omega,λ_ _ h=>h⟩
  rw[zdU ha]at q;simpa [encs,pairs,forL]using q
 | [],u::us,one,S,A,x3,x4,hl,hf,hp,ha,hn,hA,hw,h1,h0=>by simp at hl
 |l::ls,[],one,S,A,x3,x4,hl,hf,hp,ha,hn,hA,hw,h1,h0=>by simp at hl
 |l::ls,u::us,one,S,A,x3,x4,hl,hf,hp,ha,hn,hA,hw,h1,h0=>by
  simp only[fitss]at hf;rw[zbi]at hw;simp only[encs,pairs];refine zbj λN hN=>?_;simp only[zdx];walk_at "wp";refine one l a0 hf.1 (hp u a0) ha hn hA (by omega) (λA1 e=>?_) λA1=>?_
  ·walk_at "wp";have:=e.ln;refine hN _ _ _ .refl trivial (zge ls us (λl' hl'=>one l' (aK _ hl')) (by simpa using hl) hf.2 (λt ht=>hp t (aK _ ht)) zag e.nd e.ps (by omega) (λA2 x3 x4 e2=>?_) λA2=>?_)
   ·rw[zbb];exact h1 _ _ _ (.cons e e2)
   ·rw[zbb];exact h0 _
  ·walk_at "wp";exact h0 A1
theorem zig{P:Tr→Prop}(hc:∀s ts,P (.nd s ts)→ ∀t∈ts,P t) (hd50:∀t,P t→t.depth≤50) {a:Addr}:∀(d:Nat) {l t:Tr}{r:Nat}{S:Sto}{A:List (Int×Tr)}{Q:WK}{E:Str→Sto→Prop},l.depth≤d→d≤r+1→t.fits 0→P t→S a=ae (.dk (zeZ A))→NdA A→(∀n t,lkA A n=ae t→P t)→A.length+l.weight≤1000→
  (∀A',PaOk P A A' l t→Q (.ref a) (put S a (.dk (zeZ A'))))→(∀A',Q .non (put S a (.dk (zeZ A'))))→zbg (r+1) [enc l,enc t, .ref a] S Q E
 |0,l,t,r,S,A,Q,E,hd,hr,hf,hp,ha,hn,hA,hl,h1,h0=>by have:=zaS l;omega
 |d+1, .bl n,t,r,S,A,Q,E,hd,hr,hf,hp,ha,hn,hA,hl,h1,h0=>by
  rw[zbg];simp only[enc];walk_at "wp";simp only[znr];walk_at "wp";simp only[zmw ha,zqH];rw[zqB];have hlen:(zeZ A).length<sizeLine:=by
   have:=zbO (n:=A.length) (by omega);unfold zeZ;rw[aq];exact this
  cases e:lkA A n with
  |none=>
   simp only[Option.map_none,gd];rw[zef (by have:=hd50 t hp;omega)];simp only[zqN];walk_at "wp";simp only[zmw ha,zqH];rw[zyz e];refine⟨hlen,_, .refl,h1 _ ⟨λm u h=>?_,λus hu=>?_,λm u h=>?_,zxk hn e,by rw[zvJ];exact au _,by rw[Tr.weight];simp,λk hk hA' m u h=>?_⟩⟩
   ·rw[zjo e];by_cases em:m=n
    ·subst em;rw[e]at h;cases h
    ·rw[if_neg em];exact h
   ·rw[Tr.fill];exact hu n t (by rw[zjo e,if_pos rfl])
   ·rw[zjo e]at h;by_cases em:m=n
    ·rw[if_pos em]at h;cases h;exact hp
    ·rw[if_neg em]at h;exact hA m u h
   ·rw[zjo e]at h;by_cases em:m=n
    ·rw[Tr.fits]at hk;subst em;exact hk
    ·rw[if_neg em]at h;exact hA' m u h
  |some v=>
   simp only[eF,dt];rw[zso 60 v t (by have:=hd50 v (hA n v e);omega)];dsimp only;cases es:v.same t with
   |false=>
    walk_at "wp";have:=h0 A;rw[zdU ha]at this;exact⟨_, .refl,this⟩
   |true=>
    have ev:=(ziQ v t).mp es;subst ev;simp only[zqN];walk_at "wp";simp only[zmw ha,zqH];rw[zvG hn e];exact⟨hlen,_, .refl,h1 _ ⟨λm u h=>h,λus hu=>by rw[Tr.fill];exact hu n _ e,hA,hn,by omega,by omega,λ_ _ h=>h⟩⟩
 |d+1, .nd s ls, .bl n,r,S,A,Q,E,hd,hr,hf,hp,ha,hn,hA,hl,h1,h0=>by
  simp only[Tr.fits]at hf;omega
 |d+1, .nd s ls, .nd z us,r,S,A,Q,E,hd,hr,hf,hp,ha,hn,hA,hl,h1,h0=>by
  simp only[Tr.fits]at hf;simp only[Tr.depth]at hd;simp only[Tr.weight]at hl;have no:∃S'',Sub S'' S∧Q .non S'':=by
   have:=h0 A;rw[zdU ha]at this;exact⟨_, .refl,this⟩
  rw[zbg];simp only[enc];walk_at "wp";simp only[zaT];by_cases e1:s=z
  ·subst e1;simp only[beq_self_eq_true,jf,dC,if_false];by_cases e2:ls.length=us.length
   ·rw[e2];simp only[beq_self_eq_true,jf,dC,if_false]
    try walk_at "wp"
    have hr1:ls=[]∨ ∃r',r=r'+1:=by
     cases ls with
     |nil=>exact .inl rfl
     |cons l ls=>
      have:=zaS l;rw[zdq]at hd;exact .inr ⟨r - 1,by omega⟩
    refine zge ls us (λl hl' {t S A Q E} f1 f2 f3 f4 f5 f6 f7 f8=>?_) e2 hf (hc _ _ hp) ha hn hA (by omega) (λA' x3 x4 e=>?_) λA'=>?_
    ·rcases hr1 with rfl |⟨r,rfl⟩
     ·cases hl'
     ·exact zig hc hd50 d (by have:=zbA hl';omega) (by omega) f1 f2 f3 f4 f5 f6 f7 f8
    ·walk_at "wp";exact⟨_, .refl,h1 A' e.up⟩
    ·exact⟨_, .refl,h0 A'⟩
   ·have:(((ls.length+1:Nat):Int) == ((us.length+1:Nat):Int))=false:=by simp;omega
    simp only[this,kc,if_true];exact no
  ·have:(s == z)=false:=by simp [e1]
   simp only[this,kc,if_true];exact no
theorem zhR{E:WX}{D:WEnds}{x0:Option W}{r:Nat}:∀(ts:List Tr) (one:∀u∈ts,∀{S:Sto}{Q:WK}{E:Str→Sto→Prop},(∀S' b,Sub S S'→S' b=ae (.lst ((u.pl []).map zbm))→Q (.ref b) S')→zaF r [enc u] S Q E) (i:Nat) {acc:List (List Int)}{f:Addr}{S:Sto}{x2 x3:Option W},S f=ae (.lst (acc.map zbm))→acc.length+wts ts≤100000→dts ts≤1000→
  (∀S' g x2 x3,Sub S S'→S' g=ae (.lst ((acc++pls [] i ts).map zbm))→D.nx [x0,ae (.ref g),x2,x3] S')→forL (wGT (zaq (wGN 2) (zaq (wGN 3) zbI))) (zbX r (zaF r)) E D (λ_=>True) (zgP i (encs ts)) [x0,ae (.ref f),x2,x3] S
 | [],one,i,acc,f,S,x2,x3,hf,hl,hd,h=>by
  have:=h S f x2 x3 .refl (by simpa [pls]using hf);simpa [forL,zgP,encs]using this
 |t::ts,one,i,acc,f,S,x2,x3,hf,hl,hd,h=>by
  simp only[dts]at hd;simp only[wts]at hl;simp only[encs,zgP];refine zbj λN hN=>?_;simp only[zbX];walk_at "wp";refine one t a0 λS1 b sb hb=>?_;dsimp only;rw[zaj hb];have hpl:(t.pl []).length=t.weight:=by rw[←zeP,aq,zgc]
  refine zaQ (λσ=>∃x,σ=[x,ae (.int i)]) zbm (λq=>zbm ((i:Int)::q)) hb (t.pl []) [] _ ⟨none,rfl⟩ (by simp;omega) (λq hq σ R hI hR=>?_) ?_
  ·obtain⟨x,rfl⟩:=hI;have hq2:=zxL hq;simp only[zdh];walk_at "wp";have e1:W.tup [.int (i:Int)]=zbm [(i:Int)]:=rfl;rw[e1,zsK];refine⟨zal (by decide),zal (by simp at hq2⊢;omega),hR _ _ ⟨_,rfl⟩ .refl⟩
  ·rw[a8,zaj (sb _ _ hf)];refine⟨zal (by simp;omega),λa ha=>?_⟩;have e:acc.map zbm++(t.pl []).map (λq=>zbm ((i:Int)::q))=(acc++t.pl [(i:Int)]).map zbm:=by
    have:=ztc [(i:Int)] t [];rw[bJ]at this;rw[bE,this,bn];rfl
   rw[e];have hpl2:(t.pl [(i:Int)]).length=t.weight:=by rw[←zeP,aq,zgc]
   refine hN _ _ _ .refl trivial (zhR ts (λu hu=>one u (aK _ hu)) (i+1) zag (by simp;omega) (by omega) λS' g x2 x3 sb' hg=>?_);exact h S' g x2 x3 ((sb.trans (.new ha)).trans sb') (by rw[pls,←cp];exact hg)
theorem zmM:∀(d:Nat) {t:Tr}{r:Nat}{S:Sto}{Q:WK}{E:Str→Sto→Prop},t.depth≤d→d≤r→t.weight≤1000→t.depth≤1000→t.fits 0→(∀S' b,Sub S S'→S' b=ae (.lst ((t.pl []).map zbm))→Q (.ref b) S')→zaF (r+1) [enc t] S Q E
 |0,t,r,S,Q,E,hd,hr,hw,hz,ht,h=>by have:=zaS t;omega
 |d+1, .bl n,r,S,Q,E,hd,hr,hw,hz,ht,h=>by
  rw[Tr.fits]at ht;omega
 |d+1, .nd s ts,r,S,Q,E,hd,hr,hw,hz,ht,h=>by
  simp only[Tr.depth]at hd hz;simp only[Tr.weight]at hw;rw[Tr.fits]at ht;obtain⟨r,rfl⟩:∃r',r=r'+1:=⟨r - 1,by omega⟩
  rw[zaF];simp only[enc];walk_at "wp";refine⟨zal (by decide),zal (by decide),λa ha=>?_⟩;have en:W.tup (.str s::encs ts)=enc (.nd s ts):=by simp [enc]
  try walk_at "wp"
  refine zhR ts (λu hu {S Q E} q=>zmM d (by have:=zbA hu;omega) (by omega) (by have:=zdf hu;omega) (by have:=zbA hu;omega) (zft ht hu) q) 0 (acc:=[[]]) zag (by simp;omega) (by omega) λS' g x2 x3 sb hg=>?_;walk_at "wp";exact⟨_, .refl,h _ g ((Sub.new ha).trans sb) (by rw[Tr.pl];exact hg)⟩
section
theorem znb{m:Nat}:∀{ts:List Tr},(∀t∈ts,t.fits m)→fitss m ts
 | [],_=>by rw[fitss];trivial
 |t::ts,h=>by rw[fitss];exact⟨h t a0,znb λu hu=>h u (aK _ hu)⟩
mutual
theorem zmZ{us:List Tr}{k:Nat}(hk:1≤k) (hu:∀u∈us,u.depth≤k):∀t:Tr,(t.fill us).depth+1≤t.depth+k
 | .bl n=>by
  rw[Tr.fill,Tr.depth,bo];cases e:us[n.toNat]? with
  |none=>simp only[gd,Tr.depth];omega
  |some v=>have:=hu v (aX e);simp only[dt];omega
 | .nd s ts=>by
  have:=zkp hk hu ts;rw[Tr.fill,Tr.depth,Tr.depth];omega
theorem zkp{us:List Tr}{k:Nat}(hk:1≤k) (hu:∀u∈us,u.depth≤k):∀ts:List Tr,dts (fills us ts)+1≤dts ts+k
 | []=>by rw[fills,zis];omega
 |t::ts=>by
  have h1:=zmZ hk hu t;have h2:=zkp hk hu ts;rw[fills,zdq,zdq];omega
end
theorem Sh.fit (K:Bk3 ws B):∀(n:Nat) {X:Tr},X.depth≤n→Sh ws B X→X.fits 0
 |0,X,hn,h=>by have:=zaS X;omega
 |n+1,X,hn,h=>by
  obtain⟨s,ts,rfl,_,_,k⟩:=h.cases K;rw[Tr.depth]at hn;rw[Tr.fits];exact znb λt ht=>Sh.fit K n (by have:=zbA ht;omega) (k t ht)
theorem Sh.kid (K:Bk3 ws B) {s:Str}{ts:List Tr}(h:Sh ws B (.nd s ts)):∀t∈ts,Sh ws B t:=by
 obtain⟨s',ts',e,_,_,k⟩:=h.cases K;cases e;exact k
theorem Sh.part (K:Bk3 ws B):∀(q:List Int) {X u:Tr},Sh ws B X→X.at q=ae u→Sh ws B u
 | [],X,u,h,e=>by
  rw[zhx]at e;cases e;exact h
 |i::q, .bl n,u,h,e=>by cases e
 |i::q, .nd s ts,u,h,e=>by
  obtain⟨v,h0,h1,h2⟩:=zgv e;exact Sh.part K q (h.kid K v (aX h1)) h2
theorem Sh.ne0 (K:Bk3 ws B) {X:Tr}(h:Sh ws B X):X.ne B=0:=by
 have:=(K.src h.wy).2.2.1;rw[h.q]at this;exact this
theorem zsY (K:Bk3 ws B) {v:Tr}:∀(q:List Int) {X w:Tr},Sh ws B X→X.at q=ae w→(X.put q v).ne B≤v.ne B
 | [],X,w,h,e=>by rw[zdY];exact au _
 |i::q, .bl n,w,h,e=>by cases e
 |i::q, .nd s ts,w,h,e=>by
  obtain⟨u,h0,h1,h2⟩:=zgv e;obtain⟨s',ts',e0,_,et,k⟩:=h.cases K;cases e0;rw[zgh h1,Tr.ne,et];have:nes B (ts.set i.toNat (u.put q v))≤v.ne B:=zgg λx hx=>by
   rcases jJ hx with z |rfl
   ·rw[(k x z).ne0 K];exact aY _
   ·exact zsY K q (k u (aX h1)) h2
  show 0+_≤_;omega
structure Bw (ws:List Str) (B:List Tn) (X x:Tr):Prop where
  wy:Wy ws B x
  go:gol B x=X
  sw:(src B x).weight≤X.weight+6
  sd:(src B x).depth≤X.depth+3
  ne:x.ne B≤1
theorem Bw.quiet (K:Bk3 ws B) {X:Tr}(h:Sh ws B X):Bw ws B X X:=⟨h.wy,h.mkq K _,by rw[h.q];omega,by rw[h.q];omega,by rw[h.ne0 K];omega⟩
noncomputable def zbz (A:List (Int×Tr)) (c:Tr) (m:Nat):List Tr:=(aU m).map λn:Nat=>(lkA A (n:Int)).getD c
theorem zrZ{A:List (Int×Tr)}{c t:Tr}{m:Nat}{n:Int}(h:lkA A n=ae t) (h0:0≤n) (hm:n<m):(zbz A c m).getD n.toNat (.bl n)=t:=by
 unfold zbz;rw[bo,bq,fU (by omega)];simp only[eF,dt];rw[cI h0,h,dt]
theorem zmR:∀(A:List (Int×Tr)) (c:Tr) (m:Nat),c.weight=1→wts (zbz A c m)≤smA A+m
 | [],c,m,hc=>by
  unfold zbz;have:∀l:List Nat,wts (l.map λn:Nat=>(lkA [] (n:Int)).getD c)=l.length:=λl=>by
   induction l with
   |nil=>rfl
   |cons n l ih=>
    rw[aA,zbi,ih];show c.weight+_=_;rw[hc,aR];omega
  rw[this,iA];omega
 |x::A,c,m,hc=>by
  have ih:=zmR A c m hc;have key:∀l:List Nat,l.Nodup→wts (l.map λn:Nat=>(lkA (x::A) (n:Int)).getD c)≤wts (l.map λn:Nat=>(lkA A (n:Int)).getD c)+(if x.1.toNat∈l then x.2.weight else 0):=λl=>by
   induction l with
   |nil=>intro _;simp
   |cons n l il=>
    intro hn;rw[da]at hn;have il:=il hn.2;rw[aA,aA,zbi,zbi];by_cases e:x.1=(n:Int)
    ·rw[zhi e,dt];have e':x.1.toNat=n:=by omega
     rw[e']at il⊢;rw[if_neg hn.1]at il;rw[if_pos a0];omega
    ·rw[zgj e];have:(if x.1.toNat∈l then x.2.weight else 0)≤if x.1.toNat∈n::l then x.2.weight else 0:=by
      by_cases z:x.1.toNat∈l
      ·rw[if_pos z,if_pos (aK _ z)];exact au _
      ·rw[if_neg z];exact aY _
     omega
  have k:=key (aU m) jB;have sm:smA (x::A)=x.2.weight+smA A:=by simp [smA]
  have:(if x.1.toNat∈aU m then x.2.weight else 0)≤x.2.weight:=by split<;>omega
  unfold zbz at ih⊢;omega
theorem ztR (K:Bk3 ws B) {X u c:Tr}{q:List Int}{t:Tn}{A:List (Int×Tr)}(hX:Sh ws B X) (hu:X.at q=ae u) (ht:t∈B) (hc:Sh ws B c) (wc:c.weight=1)
  (h:PaOk (λv=>Sh ws B v∧v.depth≤u.depth) [] A t.2.2 u):Bw ws B X (X.put q (.nd t.1 (zbz A c t.2.1.nb))):=by
 have hl:(zbz A c t.2.1.nb).length=t.2.1.nb:=by simp [zbz]
 have hs:∀v∈zbz A c t.2.1.nb,Sh ws B v∧v.depth≤u.depth:=λv hv=>by
  obtain⟨n,_,rfl⟩:=aI.mp hv;cases e:lkA A (n:Int) with
  |none=>
   have:=zaS u;have:c.depth≤1:=by have:=zcY c;omega
   exact⟨hc,by show c.depth≤_;omega⟩
  |some w=>exact h.ps _ _ e
 have et:=zci K.b.nd ht;have wn:Wy ws B (.nd t.1 (zbz A c t.2.1.nb)):=by
  refine⟨?_,?_⟩
  ·rw[Tr.hd,hds_iff];exact⟨.inr ⟨t,ht,rfl⟩,λu hu=>(hs u hu).1.wy.hd⟩
  ·rw[Tr.ar,ars_iff];refine⟨λt' e=>?_,λu hu=>(hs u hu).1.wy.ar⟩;rw[et]at e;cases e;exact hl
 have ms:∀g:Tn→Tr,(zbz A c t.2.1.nb).map (Tr.mk B g)=zbz A c t.2.1.nb:=λg=>zsQ K (λv hv=>(hs v hv).1) g;have hg:gol B (X.put q (.nd t.1 (zbz A c t.2.1.nb)))=X:=by
  rw[show gol B (X.put q (.nd t.1 (zbz A c t.2.1.nb)))=X.put q (gol B (.nd t.1 (zbz A c t.2.1.nb))) from zqv K _ q hX hu];rw[show gol B (.nd t.1 (zbz A c t.2.1.nb))=_ from zdy et,ms];have e:t.2.2.fill (zbz A c t.2.1.nb)=u:=by
   have ft:=(K.b.ri t ht).fits;refine h.fl _ λn v e=>?_;have:=h.ky _ ft (λ_ _ z=>by cases z) n v e
   exact zrZ e this.1 this.2
  rw[e];exact zjq q hu
 have hsr:src B (X.put q (.nd t.1 (zbz A c t.2.1.nb)))=X.put q (t.2.1.fill (zbz A c t.2.1.nb)):=by
  rw[show src B (X.put q (.nd t.1 (zbz A c t.2.1.nb)))=X.put q (src B (.nd t.1 (zbz A c t.2.1.nb))) from zqv K _ q hX hu];rw[show src B (.nd t.1 (zbz A c t.2.1.nb))=_ from zdy et,ms]
 refine⟨zsB wn q hX.wy hu,hg,?_,?_,?_⟩
 ·rw[hsr];have h1:=zie (u:=t.2.1.fill (zbz A c t.2.1.nb)) q hu;have h2:=(K.b.lf t ht).fw _ hl;have h3:=zmR A c t.2.1.nb wc;have h4:=h.sm;have h5:=(K.b.lf t ht).nb;simp only[smA,cm,List.sum_nil,b5]at h4;unfold smA at h3;omega
 ·rw[hsr];have h1:=zsT (u:=t.2.1.fill (zbz A c t.2.1.nb)) q hu;have h2:=zur q hu;have h3:(t.2.1.fill (zbz A c t.2.1.nb)).depth≤u.depth+3:=by
   have:=zmZ (us:=zbz A c t.2.1.nb) (zaS u) (λv hv=>(hs v hv).2) t.2.1;have:=(K.b.lf t ht).dp;omega
  omega
 ·refine aW (zsY K q hX hu) ?_;have:nes B (zbz A c t.2.1.nb)≤0:=zgg λv hv=>by rw[(hs v hv).1.ne0 K];exact au _
  rw[Tr.ne,et];show 1+_≤1;omega
end
theorem zuR{S:Sto}{a b:Addr}{xs:List W}(ha:S a=ae (.lst xs)) (hb:S b=ae (.lst [])):eqF S 60 (.ref a) (.ref b)=ae xs.isEmpty:=by
 show(match S a with
  |some (.lst xs)=>match S b with
   |some (.lst ys)=>zea (eqF S 59) xs ys
   |_=>none
  |_=>none)=ae xs.isEmpty
 rw[ha,hb];cases xs<;>rfl
section
variable {ws:List Str}{B:List Tn}{S:Sto}{a:Addr}{t:Tr}{r:Nat}{Q:WK}{E:Str→Sto→Prop}{cell:Int}
theorem zuW (K:Bk3 ws B) (L:Lft B) (hP:PB B) (ha:S a=ae (.lst (B.map zba))) (h:Sh ws B t) (hw:t.weight≤400) (hd:t.depth≤40) (hr:120≤r)
  (q:∀u S',Sub S S'→Wy ws B u→src B u=t→u.ne B≤1→Q (enc u) S'):zej (r+1) [.ref a,enc t, .int cell] S Q E:=by
 obtain⟨r,rfl⟩:∃r',r=r'+1:=⟨r - 1,by omega⟩
 have ol:=zne B t [];rw[zej];walk_at "wp";refine zhs L ha (by omega) (by omega) (by omega) h.hdT λm hm=>?_
 try walk_at "wp"
 try rw[zaj zag]
 refine zaQ (λσ=>∃y,σ=[y]) zkz (λx=>zbm x.1) zag (t.op B []) [] _ ⟨none,rfl⟩ (by simp;omega) (λx hx σ R hI hR=>?_) ?_
 ·obtain⟨y,rfl⟩:=hI;simp only[zgQ,zkz];walk_at "wp";exact hR _ _ ⟨_,rfl⟩ .refl
 ·rw[a8];have e0:(t.op B []).map (λx=>zbm x.1)=(opl B t).map zbm:=by unfold opl;rw[bn];rfl
  rw[e0];have sm:Sub S (put S m (.lst ((t.op B []).map zkz))):= .put .refl hm;generalize put S m (.lst ((t.op B []).map zkz))=S1 at sm⊢;intro f hf;have s2:Sub S1 (put S1 f (.lst ((opl B t).map zbm))):= .put .refl hf;have ff:put S1 f (.lst ((opl B t).map zbm)) f=ae (.lst ((opl B t).map zbm)):=zag;generalize put S1 f (.lst ((opl B t).map zbm))=S2 at s2 ff⊢
  try walk_at "wp"
  refine⟨by decide,λz hz=>?_⟩;rw[zuR (keep ff hz) zag]
  try walk_at "wp"
  have sz:Sub S (put S2 z (.lst [])):=(sm.trans s2).trans (.put .refl hz);have fz:=keep (x:=Ob.lst []) ff hz;generalize put S2 z (.lst [])=S3 at sz fz⊢;cases ho:opl B t with
  |nil=>
   simp only[cm,kx,if_true];exact⟨_, .refl,q t _ sz h.wy h.q (by rw[h.ne0 K];omega)⟩
  |cons p0 ps=>
   rw[←ho];have hne:(opl B t).map zbm≠ []:=by rw[ho];simp
   have hie:((opl B t).map zbm).isEmpty=false:=by rw[ho];rfl
   rw[hie];simp only[dC,if_false];rw[zaj fz];obtain⟨j,x,e1,e2⟩:=znp cell hne;have hpos:(0:Int)<(((opl B t).map zbm).length:Int):=by
    have:=eG.mpr hne;omega
   refine⟨hpos,?_⟩;rw[zaj fz,e2];obtain⟨p,hp,rfl⟩:=aI.mp (aX e1);dsimp only;refine⟨by decide,λg hg=>?_⟩;obtain⟨u,hu,e3,e4,e5⟩:=zub K (wn:=[p]) t.depth t [] (au _) h (h.wn λq hq=>by simp only[bf]at hq;subst hq;exact hp)
   have sg:Sub S (put S3 g (.lst [zbm p])):=sz.trans (.put .refl hg);refine zri L hP hu (by omega) (by omega) (sg _ _ ha) zag h.hdT (by omega) (by omega) (by simp) rfl (λx hx=>by simp only[bf]at hx;subst hx;exact hp) ?_
   refine⟨_, .refl,q u _ sg e4 e3 ?_⟩;have:cnt [p] []≤1:=by unfold cnt;simp
   omega
structure Vb (X:Tr) (n k:Nat):Prop where
  w:2 ^ (n+k)*(X.weight+6*k)≤400
  d:X.depth+3*n+6*k≤40
theorem Vb.bd{X:Tr}{n k:Nat}(h:Vb X n k):Bd X (n+k):=by
 have h1:=h.w;have h2:=h.d;have:2 ^ (n+k)*X.weight≤2 ^ (n+k)*(X.weight+6*k):=dY _ (by omega);exact⟨by omega,by omega⟩
theorem Vb.on (K:Bk2 ws B) {X x:Tr}{n k:Nat}(h:Vb X n (k+1)) (hx:Wy ws B x) (ex:src B x=X) (hn:x.ne B≤1):Vb (gol B x) n k:=by
 have h1:=h.w;have h2:=h.d;have sx:=K.src hx;obtain⟨p,hp,e1,e2,hpn,hs⟩:=zpw K.toBk3 hx sx.1 sx.2.1.symm;rw[sx.2.2.1,eZ]at hpn;have e:gol B x=p.ev B (zbv (byC 1)):=by
  rw[←e1];exact zdd K.b hp
 have h3:=zfU (c:=zbv (byC 1)) K.b K.sl K.O hp;have h4:=zgX (c:=zbv (byC 1)) K.b K.O hp;rw[hs,ex]at h3 h4;have h5:2 ^ p.pn*X.weight≤2 ^ 1*X.weight:=dn _ (db (by decide) (by omega));rw[e];refine⟨?_,by omega⟩
 have h6:(p.ev B (zbv (byC 1))).weight+6*k≤2*(X.weight+6*(k+1)):=by omega
 have h7:=dY (2 ^ (n+k)) h6;rw[←gv,←Nat.pow_succ]at h7;exact aW h7 h1
theorem Vb.back{X x:Tr}{n k:Nat}(h:Vb X n (k+1)) (b:Bw ws B X x):Vb (src B x) (n+1) k:=by
 have h1:=h.w;have h2:=h.d;have h3:=b.sw;have h4:=b.sd;refine⟨?_,by omega⟩
 have h6:(src B x).weight+6*k≤X.weight+6*(k+1):=by omega
 have h7:=dY (2 ^ (n+1+k)) h6;rw[show n+1+k=n+(k+1) by omega]at h7⊢
 exact aW h7 h1
noncomputable def zbY (x:Tr×Bool):W:= .tup [enc x.1, .bl x.2]
noncomputable def Stp (ws:List Str) (B:List Tn) (X:Tr):Tr×Bool→Tr→Prop
 | (x,true),Y=>Wy ws B x∧src B x=X∧x.ne B≤1∧gol B x=Y
 | (x,false),Y=>Bw ws B X x∧src B x=Y
noncomputable def Wnd (ws:List Str) (B:List Tn):Tr→List (Tr×Bool)→Tr→Prop
 |X,[],Y=>X=Y
 |X,x::ss,Y=>∃Z,Stp ws B X x Z∧Wnd ws B Z ss Y
theorem Wnd.snoc:∀{ss:List (Tr×Bool)}{X Y Z:Tr}{x:Tr×Bool},Wnd ws B X ss Y→Stp ws B Y x Z→Wnd ws B X (ss++[x]) Z
 | [],X,Y,Z,x,h,k=>by
  cases h;exact⟨Z,k,rfl⟩
 |y::ss,X,Y,Z,x,⟨V,h1,h2⟩,k=>⟨V,h1,h2.snoc k⟩
theorem Stp.sh (K:Bk3 ws B) {X Y:Tr}{x:Tr×Bool}(h:Stp ws B X x Y):Sh ws B Y:=by
 obtain⟨x,b⟩:=x;cases b with
 |true=>
  obtain⟨h1,_,_,rfl⟩:=h;exact⟨(K.gol h1).1,(K.gol h1).2.1⟩
 |false=>
  obtain⟨h1,rfl⟩:=h;exact⟨(K.src h1.wy).1,(K.src h1.wy).2.1⟩
theorem Stp.vb (K:Bk2 ws B) {X Y:Tr}{x:Tr×Bool}{n k:Nat}(h:Stp ws B X x Y) (v:Vb X n (k+1)):∃n',n'≤n+1∧Vb Y n' k:=by
 obtain⟨x,b⟩:=x;cases b with
 |true=>
  obtain⟨h1,h2,h3,rfl⟩:=h;exact⟨n,by omega,v.on K h1 h2 h3⟩
 |false=>
  obtain⟨h1,rfl⟩:=h;exact⟨n+1,au _,v.back h1⟩
theorem zpb{c:Str}(K:Bk3 ws B) (hB:B≠ []) (lB:B.length≤1000) (ha:S a=ae (.lst (B.map zba))) (h:Sh ws B t) (hc:Sh ws B (.nd c [])) (hw:t.weight≤400) (hd:t.depth≤40) (hr:120≤r)
  (q:∀u S',Sub S S'→Bw ws B t u→Q (enc u) S'):zdj (r+1) [.ref a,enc t, .int cell, .str c] S Q E:=by
 obtain⟨r,rfl⟩:∃r',r=r'+1:=⟨r - 1,by omega⟩
 rw[zdj];walk_at "wp";rw[zaj ha];have hBe:B.map zba≠ []:=by simpa using hB
 obtain⟨j,x,e1,e2⟩:=znp cell hBe;have hpos:(0:Int)<((B.map zba).length:Int):=by
  have:=eG.mpr hBe;omega
 refine⟨hpos,?_⟩;rw[zaj ha,e2];obtain⟨u,hu,rfl⟩:=aI.mp (aX e1);have hL:=K.b.lf u hu;have hR:=K.b.ri u hu;simp only[zba]
 try walk_at "wp"
 refine zmM t.depth (au _) (by omega) (by omega) (by omega) (h.fit K _ (au _)) λS1 b s1 fb=>?_
 try walk_at "wp"
 rw[zaj fb];have hpe:(t.pl []).map zbm≠ []:=by
  intro z;have:=congrArg dA z;rw[aq,←zeP,aq,zgc]at this;have:=zen t;simp at *;omega
 obtain⟨j2,x2,e3,e4⟩:=znp (cell / 4) hpe;have hpos2:(0:Int)<(((t.pl []).map zbm).length:Int):=by
  have:=eG.mpr hpe;omega
 refine⟨⟨by decide,by decide⟩,hpos2,?_⟩
 rw[zaj fb,e4];obtain⟨p,hp,rfl⟩:=aI.mp (aX e3);have hp2:∃v,t.at p=ae v∧p.length<t.depth:=by
  rw[←zeP,aI]at hp;obtain⟨⟨p',v⟩,hm,rfl⟩:=hp;have:=zpv hm;exact⟨v,this.1,this.2⟩
 obtain⟨v,hv,hpl⟩:=hp2;have shv:=h.part K p hv;have dv:=zur p hv;dsimp only;refine zvB hv ?_
 try walk_at "wp"
 rw[ztJ];intro d hd';have s2:Sub S1 (put S1 d (.dk [])):= .put .refl hd';have fd:put S1 d (.dk []) d=ae (.dk (zeZ [])):=zag;generalize put S1 d (.dk [])=S2 at s2 fd⊢;have en:∀A:List (Int×Tr),Sub S2 (put S2 d (.dk (zeZ A)))∨True:=λ_=> .inr trivial;refine zig (P:=λw=>Sh ws B w∧w.depth≤v.depth) (λs ts hs w hw=>⟨hs.1.kid K w hw,by have:=hs.2;rw[Tr.depth]at this;have:=zbA hw;omega⟩) (λw hw=>by have:=hw.2;omega) u.2.2.depth (au _) (by have:=hR.dp;omega) (shv.fit K _ (au _)) ⟨shv,au _⟩ fd jX (λ_ _ z=>by cases z) (by have:=hR.wt;simp;omega) (λA hA=>?_) λA=>?_
 ·have nS:S d=none:=by
   cases z:S d with
   |none=>rfl
   |some o=>rw[s1 _ _ z]at hd';cases hd'
  have sA:Sub S (put S2 d (.dk (zeZ A))):=λx o e=>by
   by_cases hx:x=d
   ·subst hx;rw[nS]at e;cases e
   ·rw[zaA hx];exact s2 _ _ (s1 _ _ e)
  have fA:put S2 d (.dk (zeZ A)) d=ae (.dk (zeZ A)):=zag;generalize put S2 d (.dk (zeZ A))=S3 at sA fA⊢
  try walk_at "wp"
  refine zgH u.2.1.depth (au _) (by have:=hL.dp;omega) (by have:=hL.wt;have:=hL.nb;omega) ?_
  try walk_at "wp"
  have hnb:=hL.nb;refine⟨⟨by omega,by omega⟩,?_⟩
  have eup:zkZ 0 u.2.1.nb=(aU u.2.1.nb).map λn:Nat=>W.int (n:Int):=by
   unfold zkZ;refine cF λn _=>?_;simp
  have e6:((u.2.1.nb:Nat):Int).toNat=u.2.1.nb:=by omega
  try rw[e6]
  rw[eup];refine zaQ (λσ=>∃y,σ=[y,ae (.ref d),ae (.str c)]) (λn:Nat=>W.int (n:Int)) (λn=>enc ((lkA A (n:Int)).getD (.nd c []))) trivial (aU u.2.1.nb) [] _ ⟨none,rfl⟩ (by simp;omega) (λn hn σ R hI hR'=>?_) ?_
  ·obtain⟨y,rfl⟩:=hI;rw[zfm];simp only[znr];walk_at "wp";simp only[zmw fA,zqH];refine⟨by decide,?_⟩;rw[zqB];have:=hR' [ae (.int (n:Int)),ae (.ref d),ae (.str c)] S3 ⟨_,rfl⟩ .refl;cases z:lkA A (n:Int) with
   |none=>rw[z]at this;simpa [enc,encs]using this
   |some w=>rw[z]at this;simpa using this
  ·rw[a8];intro g hg;have e7:(aU u.2.1.nb).map (λn=>enc ((lkA A ((n:Nat):Int)).getD (.nd c [])))=encs (zbz A (.nd c []) u.2.1.nb):=by
    unfold zbz;rw[zaw,bn];rfl
   rw[e7];have sg:Sub S (put S3 g (.lst (encs (zbz A (.nd c []) u.2.1.nb)))):=sA.trans (.put .refl hg);have fg:put S3 g (.lst (encs (zbz A (.nd c []) u.2.1.nb))) g=ae (.lst (encs (zbz A (.nd c []) u.2.1.nb))):=zag;generalize put S3 g (.lst (encs (zbz A (.nd c []) u.2.1.nb)))=S4 at sg fg⊢
   try walk_at "wp"
   try rw[zaj fg]
   have lw:(zbz A (.nd c []) u.2.1.nb).length=u.2.1.nb:=by simp [zbz]
   have e8:W.tup (.str u.1::encs (zbz A (.nd c []) u.2.1.nb))=enc (.nd u.1 (zbz A (.nd c []) u.2.1.nb)):=by simp [enc]
   simp only[zaT,lw];refine⟨zal (by decide),zal (by omega),?_⟩;rw[e8];refine zqk p hv (by omega) (by omega) (by omega) ⟨_, .refl,q _ _ sg ?_⟩;exact ztR K h hv hu hc (by simp [Tr.weight,wts]) hA
 ·have nS:S d=none:=by
   cases z:S d with
   |none=>rfl
   |some o=>rw[s1 _ _ z]at hd';cases hd'
  have sA:Sub S (put S2 d (.dk (zeZ A))):=λx o e=>by
   by_cases hx:x=d
   ·subst hx;rw[nS]at e;cases e
   ·rw[zaA hx];exact s2 _ _ (s1 _ _ e)
  try walk_at "wp"
  exact⟨_, .refl,q t _ sA (.quiet K h)⟩
end
section
variable {ws:List Str}{B:List Tn}{S:Sto}{a:Addr}{r:Nat}{Q:WK}{E:Str→Sto→Prop}{c:Str}
theorem Two.mk2 (K:Bk2 ws B) {x X:Tr}(hx:Wy ws B x) (ex:src B x=X) (hn:x.ne B≤1) {n k:Nat}(v:Vb X n (k+1)):Two ws B x X:=K.ow hx ex (v.bd.mono (by omega))
structure Wk46 (ws:List Str) (B:List Tn) (X:Tr) (m:Nat) (ss:List (Tr×Bool)) (Y:Tr):Prop where
  w:Wnd ws B X ss Y
  sh:Sh ws B Y
  l:ss.length≤m
  v:∃n,Vb Y n (m - ss.length)
theorem zlD{EX:WX}{D:WEnds}{l lc:Addr}{X:Tr}{cs0:List Int}(K:Bk2 ws B) (L:Lft B) (hP:PB B) (hB:B≠ []) (lB:B.length≤1000) (fb:S a=ae (.lst (B.map zba))) (hc:Sh ws B (.nd c [])) (f0:S l=none) (flc:S lc=ae (.lst (cs0.map W.int))) (hr:121≤r)
  (hD:∀S' ss Y x7 x8 x9,Sub S S'→S' l=ae (.lst (ss.map zbY))→Wk46 ws B X 3 ss Y→D.nx [ae (.ref a),ae (enc X),ae (.ref lc),ae (.int 3),ae (.str c),ae (.ref l),ae (enc Y),x7,x8,x9] S') :
  ∀(cs:List Int) {S':Sto}{ss:List (Tr×Bool)}{Y:Tr}{x7 x8 x9:Option W},Sub S S'→S' l=ae (.lst (ss.map zbY))→Wk46 ws B X 3 ss Y→
  forL (wGN 7) (zcP (r+1) zaR) EX D (λS'=>S' lc=ae (.lst (cs0.map W.int))) (cs.map W.int) [ae (.ref a),ae (enc X),ae (.ref lc),ae (.int 3),ae (.str c),ae (.ref l),ae (enc Y),x7,x8,x9] S'
 | [],S',ss,Y,x7,x8,x9,sb,fl,k=>hD S' ss Y x7 x8 x9 sb fl k
 |n::cs,S',ss,Y,x7,x8,x9,sb,fl,k=>by
  rw[aA];refine zbj λN hN=>?_;rw[zcP];walk_at "wp";rw[zaj fl,aq];by_cases hl:(ss.length:Int)<3
  ·rw[if_pos (by first |exact hl |simpa using hl)];refine⟨by decide,?_⟩;obtain⟨n0,v⟩:=k.v;rw[show 3 - ss.length=(2 - ss.length)+1 by omega]at v
   have hbd:=v.bd.small;have fin:∀(u Z:Tr) (b:Bool) (S1:Sto),Sub S' S1→Stp ws B Y (u,b) Z→zcu S1 l λxs=>xs.length<sizeLine∧N [ae (.ref a),ae (enc X),ae (.ref lc),ae (.int 3),ae (.str c),ae (.ref l),ae (enc Z),ae (.int n),ae (.bl b),ae (enc u)] (put S1 l (.lst (xs++[.tup [enc u, .bl b]]))):=λu Z b S1 s1 st=>by
    rw[zaj (s1 _ _ fl),aq];obtain⟨n',_,v'⟩:=st.vb K v;have e:ss.map zbY++[W.tup [enc u, .bl b]]=(ss++[(u,b)]).map zbY:=by rw[bE];rfl
    rw[e];have s2:Sub S (put S1 l (.lst ((ss++[(u,b)]).map zbY))):=λx o ex=>by
     by_cases hx:x=l
     ·subst hx;rw[f0]at ex;cases ex
     ·rw[zaA hx];exact s1 _ _ (sb _ _ ex)
    refine⟨zbO (by omega),hN _ _ _ .refl (s2 _ _ flc) (zlD K L hP hB lB fb hc f0 flc hr hD cs s2 zag ⟨k.w.snoc st,st.sh K.toBk3,by simp;omega,n',?_⟩)⟩
    rw[aS,bK,show 3 - (ss.length+1)=2 - ss.length by omega]
    exact v'
   by_cases hp:n % 2=0
   ·have e2:(n % 2 == 0)=true:=by simp [hp]
    rw[e2]
    try simp only[if_true]
    refine⟨⟨by decide,by decide⟩,?_⟩
    refine zuW K.toBk3 L hP (sb _ _ fb) k.sh hbd.1 hbd.2 (by omega) λu S1 s1 w1 w2 w3=>?_
    try walk_at "wp"
    refine(Two.mk2 K w1 w2 w3 v).ok_made2 (s1 _ _ (sb _ _ fb)) (by omega) ?_
    try walk_at "wp"
    have:=fin u (gol B u) true S1 s1 ⟨w1,w2,w3,rfl⟩;exact⟨by rw[zaj (s1 _ _ fl)];trivial,by decide,this⟩
   ·have e2:(n % 2 == 0)=false:=by simp [hp]
    rw[e2]
    try simp only[dC,if_false]
    refine⟨⟨by decide,by decide⟩,?_⟩
    refine zpb K.toBk3 hB lB (sb _ _ fb) k.sh hc hbd.1 hbd.2 (by omega) λu S1 s1 bw=>?_
    try walk_at "wp"
    have vb:=v.back bw;refine(K.ow bw.wy rfl (vb.bd.mono (by have:=bw.ne;omega))).ok_made1 (s1 _ _ (sb _ _ fb)) (by omega) ?_
    try walk_at "wp"
    have:=fin u (src B u) false S1 s1 ⟨bw,rfl⟩;exact⟨by rw[zaj (s1 _ _ fl)];trivial,by decide,this⟩
  ·rw[if_neg (by first |exact hl |simpa using hl)];exact hN _ _ _ .refl (sb _ _ flc) (zlD K L hP hB lB fb hc f0 flc hr hD cs sb fl k)
theorem zjn{lc:Addr}{X:Tr}{cs:List Int}(K:Bk2 ws B) (L:Lft B) (hP:PB B) (hB:B≠ []) (lB:B.length≤1000) (fb:S a=ae (.lst (B.map zba))) (hc:Sh ws B (.nd c [])) (flc:S lc=ae (.lst (cs.map W.int))) (hX:Sh ws B X) (hV:Vb X 0 3) (hr:122≤r)
  (h:∀S' l ss Y,Sub S S'→S' l=ae (.lst (ss.map zbY))→Wk46 ws B X 3 ss Y→Q (.tup [.ref l,enc Y]) S'):zbP (r+1) [.ref a,enc X, .ref lc, .int 3, .str c] S Q E:=by
 obtain⟨r,rfl⟩:∃r',r=r'+1:=⟨r - 1,by omega⟩
 rw[zbP];walk_at "wp";refine⟨by decide,λl hl=>?_⟩;have s1:Sub S (put S l (.lst [])):= .put .refl hl;rw[zaj (s1 _ _ flc)];refine zlD (X:=X) K L hP hB lB fb hc hl flc (by omega) (λS' ss Y x7 x8 x9 sb fl k=>?_) cs s1 (ss:=[]) (Y:=X) zag ⟨rfl,hX,by simp,0,hV⟩
 walk_at "wp";exact⟨by decide,_, .refl,h S' l ss Y sb fl k⟩
end
section
variable {ws:List Str}{B:List Tn}{S:Sto}{a:Addr}{t:Tr}{r:Nat}{Q:WK}{E:Str→Sto→Prop}
theorem Two.ok_srcV{x y:Tr}(h:Two ws B x y) (ha:S a=ae (.lst (B.map zba))) (hr:60≤r) (q:Q (enc (src B x)) S):zdt (r+1) [.ref a,enc x] S Q E:=by
 obtain⟨p,c,d,k,hc,hd,rfl,rfl⟩:=h.ex;rw[show src B (p.ev B c)=_ from zeA k.b k.o]at q;exact k.ok_source ha hr q
structure Va (ws:List Str) (B:List Tn) (X:Tr) (fs:List Tr) (Y:Tr) (os:List Tr) (n:Nat):Prop where
  f:Roa ws B X fs
  o:Roa ws B Y os
  e:zhF B X fs=zhF B Y os
  no:nR B os≤n
  nf:nR B fs≤fs.length
  ol:os.length≤n
theorem Va.on (K:Bk2 ws B) {X Y x:Tr}{fs os:List Tr}{n k:Nat}(h:Va ws B X fs Y os n) (v:Vb Y n (k+1)) (hx:Wy ws B x) (ex:src B x=Y) (hn:x.ne B≤1):Va ws B X (fs++zdl B [x] os) (gol B x) (zeQ B [x] os) n:=by
 have g:=zoo K [x] os (t:=Y) ⟨hx,ex,trivial⟩ h.o (v.bd.mono (by have:=h.no;rw[nR,nR];omega));refine⟨h.f.app fs (by rw[h.e];exact g.down),g.over,?_,aW g.no h.no,?_,by rw[zix];exact h.ol⟩
 ·rw[zpS,h.e];exact g.go
 ·have:=g.nd;have:=h.nf;rw[zsJ,aS,zfM];simp only[nR,bK]at *;omega
theorem Va.back{X Y x:Tr}{fs os:List Tr}{n:Nat}(h:Va ws B X fs Y os n) (b:Bw ws B Y x):Va ws B X fs (src B x) (x::os) (n+1):=by
 refine⟨h.f,⟨b.wy,rfl,by rw[b.go];exact h.o⟩,?_,?_,h.nf,?_⟩
 ·rw[zhF,b.go];exact h.e
 ·have:=h.no;have:=b.ne;rw[nR];omega
 ·have:=h.ol;rw[aR];omega
structure VaS (S S':Sto) (X Y:Tr) (fs os:List Tr) (f o:Addr):Prop where
  sb:Sub S S'
  ff:S' f=ae (.lst (fs.map enc))
  fo:S' o=ae (.lst (os.map enc))
  nf:S f=none
  no:S o=none
  ne:f≠o
theorem zzS{A C:WS}{EX:WX}{D:WEnds}{S':Sto}{x0 x1 x2 x3 x4 x5 x7 x8 x9 x10:Option W}{b:Bool}(h:(if b=true then A else C) EX D [x0,x1,x2,x3,x4,x5,ae (.bl b),x7,x8,x9,x10] S'):zbK (zgt (zae 6)) A C EX D [x0,x1,x2,x3,x4,x5,ae (.bl b),x7,x8,x9,x10] S':=by
 walk_at "wp";cases b with
 |true=>exact h
 |false=>exact h
theorem zsV{T:WS}{EX:WX}{D:WEnds}{X Y x:Tr}{f o l:Addr}{S':Sto}{x7 x8 x9 x10:Option W}{b:Bool}(fb:S' a=ae (.lst (B.map zba))) (hr:66≤r) {y:Tr}(h2:Two ws B x y) (hY:(if b=true then src B x else gol B x)=Y) (hd:Y.depth≤40) (h:T EX D [ae (.ref a),ae (enc X),ae (.ref l),ae (.tup [enc X, .ref f]),ae (.tup [enc Y, .ref o]),ae (enc x),ae (.bl b),ae (enc (src B x)),ae (enc (gol B x)),ae (enc Y),x10] S') :
  zas (wAsg (zap (zdt (r+1)) (zab (zae 0) (zab (zae 5) waNil))) (wGN 7))
  (zas (wAsg (zap (zfK (r+1)) (zab (zae 0) (zab (zae 5) waNil))) (wGN 8))
  (zas (wAsg (wIf (zgt (zae 6)) (zae 7) (zae 8)) (wGN 9))
  (zas (zbK (wTb (wOp (oEq true) (zae 9) (wOp oIx (zae 4) (wC (.int 0))))) (zgU "Apart" (zab (wC (.str "a step does not stand where the winding stands")) waNil)) zaD) T)))
  EX D [ae (.ref a),ae (enc X),ae (.ref l),ae (.tup [enc X, .ref f]),ae (.tup [enc Y, .ref o]),ae (enc x),ae (.bl b),x7,x8,x9,x10] S':=by
 walk_at "wp";refine h2.ok_srcV fb (by omega) ?_;refine h2.ok_goal fb (by omega) ?_;cases b with
 |true=>
  simp only[if_true]at hY
  try walk_at "wp"
  rw[hY]at h⊢;rw[zef (by omega)];exact h
 |false=>
  simp only[dC,if_false]at hY
  try walk_at "wp"
  rw[hY]at h⊢;rw[zef (by omega)];exact h
theorem zxm{EX:WX}{D:WEnds}{GS:Sto→Prop}{rest:List W}{X Y x:Tr}{fs os:List Tr}{f o l:Addr}{S':Sto}{x5 x6 x7 x8 x9 x10:Option W}(fb:S a=ae (.lst (B.map zba))) (hr:66≤r) (h2:Two ws B x Y) (w2:src B x=Y) (hc:Cells ws B [x] os) (ht:∀z∈os,∃y,Two ws B z y) (hbd:Y.weight≤400∧Y.depth≤40) (hol:os.length≤700) (hfl:fs.length≤100) (st:VaS S S' X Y fs os f o) (hG:∀S'',Sub S S''→GS S'')
  (k:∀S'' f' o' x10,VaS S S'' X (gol B x) (fs++zdl B [x] os) (zeQ B [x] os) f' o'→forL (wGT (zaq (wGN 5) (zaq (wGN 6) zbI))) (zcb (r+1) zaR) EX D GS rest [ae (.ref a),ae (enc X),ae (.ref l),ae (.tup [enc X, .ref f']),ae (.tup [enc (gol B x), .ref o']),ae (enc x),ae (.bl true),ae (enc Y),ae (enc (gol B x)),ae (enc Y),x10] S'') :
  forL (wGT (zaq (wGN 5) (zaq (wGN 6) zbI))) (zcb (r+1) zaR) EX D GS (zbY (x,true)::rest) [ae (.ref a),ae (enc X),ae (.ref l),ae (.tup [enc X, .ref f]),ae (.tup [enc Y, .ref o]),x5,x6,x7,x8,x9,x10] S':=by
 have fb':=st.sb _ _ fb;refine zbj λN hN=>?_;simp only[zbY];rw[zrL];show zaq (wGN 5) (zaq (wGN 6) zbI) [enc x, .bl true] _ S' _;simp only[zfD,ziN,ziq,fF,fK];rw[zcb];refine zsV (b:=true) fb' hr h2 w2 hbd.2 (zzS ?_);rw[if_pos rfl,w2];walk_at "wp";refine⟨by decide,λl1 hl1=>?_⟩
 try walk_at "wp"
 have s1:Sub S' (put S' l1 (.lst [enc x])):= .put .refl hl1;have f1:put S' l1 (.lst [enc x]) l1=ae (.lst ([x].map enc)):=zag;generalize put S' l1 (.lst [enc x])=S1 at s1 f1⊢;refine⟨by decide,?_⟩;refine zuP (t:=Y) (xs:=[x]) (os:=os) (s1 _ _ fb') f1 (s1 _ _ st.fo) hc (λz hz=>by simp only[bf]at hz;subst hz;exact⟨_,h2⟩) ht hbd.1 hbd.2 (by simp) (by omega) (by omega) λS2 d ov g=>?_
 obtain⟨ds,rs,g1,g2,g3,g4⟩:=g.ex;obtain⟨pl,el⟩:=zks (B:=B) [x] os;rw[el]at g4;obtain⟨pre,ρ,rfl,Aρ⟩:=zhc g4;rw[bE]at g2;have s2:Sub S' S2:=s1.trans g.sub
 try walk_at "wp"
 rw[show atI [enc X,W.ref f] 1=ae (.ref f) from rfl]
 try walk_at "wp"
 refine zkn (xs:=[x]) (os:=os) g1 (by simp) g3 λq hq=>?_;have s3:Sub S2 (put S2 q (.lst ((zdl B [x] os).map enc))):= .put .refl hq;have fq:put S2 q (.lst ((zdl B [x] os).map enc)) q=ae (.lst ((zdl B [x] os).map enc)):=zag;generalize put S2 q (.lst ((zdl B [x] os).map enc))=S3 at s3 fq⊢
 try walk_at "wp"
 rw[zaj (s3 _ _ (s2 _ _ st.ff)),zaj fq];have ld:=zfM (B:=B) [x] os;refine⟨zal (by simp only[aq,ld,bK];omega),λf' hf'=>?_⟩;rw[←bE];have s4:Sub S3 (put S3 f' (.lst ((fs++zdl B [x] os).map enc))):= .put .refl hf';have ff':put S3 f' (.lst ((fs++zdl B [x] os).map enc)) f'=ae (.lst ((fs++zdl B [x] os).map enc)):=zag;have sS:Sub S S3:=st.sb.trans (s2.trans s3);have nf':S f'=none:=zfp sS hf';have hρ3:S3 ρ=ae (.lst ((zeQ B [x] os).map enc)):=s3 _ _ Aρ.e;have nρ:S ρ=none:=zfp (st.sb.trans s1) Aρ.z;have nef:f'≠ρ:=by rintro rfl;rw[hρ3]at hf';cases hf'
 generalize put S3 f' (.lst ((fs++zdl B [x] os).map enc))=S4 at s4 ff'⊢
 try walk_at "wp"
 rw[show atI [W.ref d,W.ref ov] 1=ae (.ref ov) from rfl]
 try walk_at "wp"
 rw[zaj (s4 _ _ (s3 _ _ g2)),show [ρ].map W.ref=[W.ref ρ] from rfl,zlI]
 try walk_at "wp"
 have sub4:Sub S S4:=sS.trans s4;have cells:VaS S S4 X (gol B x) (fs++zdl B [x] os) (zeQ B [x] os) f' ρ:=⟨sub4,ff',s4 _ _ hρ3,nf',nρ,nef⟩;have go:=k S4 f' ρ (ae (.tup [.ref d, .ref ov])) cells
 first |exact⟨by decide,by decide,hN _ _ _ .refl (hG _ sub4) go⟩ |exact⟨by decide,hN _ _ _ .refl (hG _ sub4) go⟩ |exact hN _ _ _ .refl (hG _ sub4) go
theorem zxT{EX:WX}{D:WEnds}{GS:Sto→Prop}{rest:List W}{X Y x:Tr}{fs os:List Tr}{f o l:Addr}{S':Sto}{x5 x6 x7 x8 x9 x10:Option W}(fb:S a=ae (.lst (B.map zba))) (hr:66≤r) (h2:Two ws B x (src B x)) (w2:gol B x=Y) (hbd:Y.weight≤400∧Y.depth≤40) (hol:os.length≤700) (st:VaS S S' X Y fs os f o) (hG:∀S'',Sub S S''→GS S'')
  (k:∀S'' o',VaS S S'' X (src B x) fs (x::os) f o'→forL (wGT (zaq (wGN 5) (zaq (wGN 6) zbI))) (zcb (r+1) zaR) EX D GS rest [ae (.ref a),ae (enc X),ae (.ref l),ae (.tup [enc X, .ref f]),ae (.tup [enc (src B x), .ref o']),ae (enc x),ae (.bl false),ae (enc (src B x)),ae (enc Y),ae (enc Y),x10] S'') :
  forL (wGT (zaq (wGN 5) (zaq (wGN 6) zbI))) (zcb (r+1) zaR) EX D GS (zbY (x,false)::rest) [ae (.ref a),ae (enc X),ae (.ref l),ae (.tup [enc X, .ref f]),ae (.tup [enc Y, .ref o]),x5,x6,x7,x8,x9,x10] S':=by
 have fb':=st.sb _ _ fb;refine zbj λN hN=>?_;simp only[zbY];rw[zrL];show zaq (wGN 5) (zaq (wGN 6) zbI) [enc x, .bl false] _ S' _;simp only[zfD,ziN,ziq,fF,fK];rw[zcb];refine zsV (b:=false) fb' hr h2 w2 hbd.2 (zzS ?_);rw[if_neg (by decide),w2];walk_at "wp";rw[show atI [enc Y,W.ref o] 1=ae (.ref o) from rfl]
 try walk_at "wp"
 rw[zaj st.fo]
 try simp only[aq]
 refine⟨by decide,zal (by first |omega | (simp only[aR,c5,aq];omega)),λo' ho'=>?_⟩;have s1:Sub S' (put S' o' (.lst ((x::os).map enc))):= .put .refl ho';have fo':put S' o' (.lst ((x::os).map enc)) o'=ae (.lst ((x::os).map enc)):=zag;have no':S o'=none:=zfp st.sb ho';have nef:f≠o':=by rintro rfl;rw[st.ff]at ho';cases ho'
 try rw[show [enc x]++os.map enc=(x::os).map enc from rfl]
 try rw[show enc x::os.map enc=(x::os).map enc from rfl]
 generalize put S' o' (.lst ((x::os).map enc))=S1 at s1 fo'⊢
 try walk_at "wp"
 have sub1:Sub S S1:=st.sb.trans s1;have cells:VaS S S1 X (src B x) fs (x::os) f o':=⟨sub1,s1 _ _ st.ff,fo',st.nf,no',nef⟩;have go:=k S1 o' cells
 first |exact⟨by decide,by decide,hN _ _ _ .refl (hG _ sub1) go⟩ |exact⟨by decide,hN _ _ _ .refl (hG _ sub1) go⟩ |exact hN _ _ _ .refl (hG _ sub1) go
theorem zlv{EX:WX}{D:WEnds}{l:Addr}{X Z:Tr}{ss0:List (Tr×Bool)}(K:Bk2 ws B) (fb:S a=ae (.lst (B.map zba))) (fl:S l=ae (.lst (ss0.map zbY))) (hr:66≤r):∀(ss:List (Tr×Bool)) {S':Sto}{fs os:List Tr}{Y:Tr}{n:Nat}{f o:Addr}{x5 x6 x7 x8 x9 x10:Option W},
  Wnd ws B Y ss Z→Vb Y n ss.length→Va ws B X fs Y os n→VaS S S' X Y fs os f o→fs.length+ss.length≤100→
  (∀S' fs' os' n' f o x5 x6 x7 x8 x9 x10,VaS S S' X Z fs' os' f o→Va ws B X fs' Z os' n'→Vb Z n' 0→fs'.length=fs.length+ss.countP (·.2)→os'.length+ss.countP (·.2)=os.length+ss.length→D.nx [ae (.ref a),ae (enc X),ae (.ref l),ae (.tup [enc X, .ref f]),ae (.tup [enc Z, .ref o]),x5,x6,x7,x8,x9,x10] S')→
  forL (wGT (zaq (wGN 5) (zaq (wGN 6) zbI))) (zcb (r+1) zaR) EX D (λS'=>S' l=ae (.lst (ss0.map zbY))) (ss.map zbY) [ae (.ref a),ae (enc X),ae (.ref l),ae (.tup [enc X, .ref f]),ae (.tup [enc Y, .ref o]),x5,x6,x7,x8,x9,x10] S'
 | [],S',fs,os,Y,n,f,o,x5,x6,x7,x8,x9,x10,hW,v,V,st,hl,hD=>by
  cases hW;exact hD S' fs os n f o x5 x6 x7 x8 x9 x10 st V v rfl rfl
 | (x,true)::ss,S',fs,os,Y,n,f,o,x5,x6,x7,x8,x9,x10,⟨Y',⟨w1,w2,w3,w4⟩,hW⟩,v,V,st,hl,hD=>by
  subst w4;rw[aR]at v hl;have h2:=Two.mk2 K w1 w2 w3 v;have hbd:=v.bd.small;have bY:Bd Y (n+(ss.length+1)):=v.bd;have hn13:n≤13:=by have:=v.d;omega
  have hol:=V.ol;have ld:=zfM (B:=B) [x] os;rw[aA];refine zxm fb hr h2 w2 (znq K [x] os (t:=Y) ⟨w1,w2,trivial⟩ V.o (bY.mono (by have:=V.no;rw[nR,nR];omega))) (Roa.two K os V.o (bY.mono (by have:=V.no;omega))) hbd (by omega) (by omega) st (λS'' s=>s _ _ fl) λS'' f' o' x10' cells=>?_;exact zlv (Z:=Z) K fb fl hr ss hW (v.on K w1 w2 w3) (V.on K v w1 w2 w3) cells (by rw[aS,ld,bK];omega) λS' fs' os' n' f o x5 x6 x7 x8 x9 x10 a1 a2 a3 a4 a5=>hD S' fs' os' n' f o x5 x6 x7 x8 x9 x10 a1 a2 a3 (by rw[a4,aS,ld,bK,jr rfl];omega) (by rw[zix]at a5;rw[jr rfl,aR];omega)
 | (x,false)::ss,S',fs,os,Y,n,f,o,x5,x6,x7,x8,x9,x10,⟨Y',⟨b,w4⟩,hW⟩,v,V,st,hl,hD=>by
  subst w4;rw[aR]at v hl;have vb:=v.back b;have h2:Two ws B x (src B x):=K.ow b.wy rfl (vb.bd.mono (by have:=b.ne;omega));have hbd:=v.bd.small;have hn13:n≤13:=by have:=v.d;omega
  have hol:=V.ol;rw[aA];refine zxT fb hr h2 b.go hbd (by omega) st (λS'' s=>s _ _ fl) λS'' o' cells=>?_;exact zlv (Z:=Z) K fb fl hr ss hW vb (V.back b) cells (by omega) λS' fs' os' n' f o x5 x6 x7 x8 x9 x10 a1 a2 a3 a4 a5=>hD S' fs' os' n' f o x5 x6 x7 x8 x9 x10 a1 a2 a3 (by rw[a4,jg (by simp)]) (by rw[aR]at a5;rw[jg (by simp),aR];omega)
theorem zkd{l:Addr}{X Z:Tr}{ss:List (Tr×Bool)}(K:Bk2 ws B) (fb:S a=ae (.lst (B.map zba))) (fl:S l=ae (.lst (ss.map zbY))) (hW:Wnd ws B X ss Z) (v:Vb X 0 ss.length) (hr:67≤r)
  (h:∀S' fs os n f o,VaS S S' X Z fs os f o→Va ws B X fs Z os n→Vb Z n 0→fs.length=ss.countP (·.2)→os.length+ss.countP (·.2)=ss.length→Q (.tup [.tup [enc X, .ref f], .tup [enc Z, .ref o]]) S'):zeq (r+1) [.ref a,enc X, .ref l] S Q E:=by
 obtain⟨r,rfl⟩:∃r',r=r'+1:=⟨r - 1,by omega⟩
 have h6:ss.length≤6:=by have:=v.d;omega
 rw[zeq];walk_at "wp";refine⟨by decide,λf hf=>⟨by decide,?_⟩⟩
 try walk_at "wp"
 refine⟨by decide,λo ho=>⟨by decide,?_⟩⟩;have hfo:f≠o:=by rintro rfl;rw[zag]at ho;cases ho
 have so:S o=none:=by rw[zaA hfo.symm]at ho;exact ho
 have s1:Sub S (put (put S f (.lst [])) o (.lst [])):=(Sub.put .refl hf).trans (.put .refl ho);have ff:put (put S f (.lst [])) o (.lst []) f=ae (.lst (([]:List Tr).map enc)):=by rw[zaA hfo,zag];rfl
 have fo:put (put S f (.lst [])) o (.lst []) o=ae (.lst (([]:List Tr).map enc)):=zag;generalize put (put S f (.lst [])) o (.lst [])=S1 at s1 ff fo⊢
 try walk_at "wp"
 rw[zaj (s1 _ _ fl)];refine zlv (fs:=[]) (os:=[]) K fb fl (by omega) ss hW v ⟨trivial,trivial,rfl,au _,au _,au _⟩ ⟨s1,ff,fo,hf,so,hfo⟩ (by simp;omega) λS' fs os n f o x5 x6 x7 x8 x9 x10 a1 a2 a3 a4 a5=>?_
 try walk_at "wp"
 exact⟨by decide,_, .refl,h S' fs os n f o a1 a2 a3 (by simpa using a4) (by simpa using a5)⟩
end
section
variable {ws:List Str}{B:List Tn}{x y:Tr}
theorem Two.d1 (h:Two ws B x y):x.depth≤40∧(src B x).depth≤40∧(gol B x).depth≤40:=by
 obtain⟨p,c,d,k,hc,hd,rfl,rfl⟩:=h.ex;refine⟨k.dp,?_,?_⟩
 ·rw[show src B (p.ev B c)=_ from zeA k.b k.o];exact k.dp
 ·rw[show gol B (p.ev B c)=_ from zdd k.b k.o];exact k.dp
end
section
variable {ws:List Str}{B:List Tn}{S:Sto}{a:Addr}{r:Nat}{Q:WK}{E:Str→Sto→Prop}
theorem Stp.dp (K:Bk2 ws B) {X Y:Tr}{x:Tr×Bool}{n k:Nat}(h:Stp ws B X x Y) (v:Vb X n (k+1)):x.1.depth≤40:=by
 obtain⟨x,b⟩:=x;cases b with
 |true=>
  obtain⟨h1,h2,h3,rfl⟩:=h;exact(Two.mk2 K h1 h2 h3 v).d1.1
 |false=>
  obtain⟨h1,rfl⟩:=h;exact(K.ow h1.wy rfl ((v.back h1).bd.mono (by have:=h1.ne;omega))).d1.1
theorem Wnd.dp (K:Bk2 ws B):∀{ss:List (Tr×Bool)}{X Y:Tr}{n k:Nat},Wnd ws B X ss Y→Vb X n k→ss.length≤k→ ∀x∈ss,x.1.depth≤40
 | [],X,Y,n,k,_,_,_,x,hx=>by cases hx
 |y::ss,X,Y,n,0,⟨Z,h1,h2⟩,v,hl,x,hx=>by simp at hl
 |y::ss,X,Y,n,k+1,⟨Z,h1,h2⟩,v,hl,x,hx=>by
  rcases az.mp hx with rfl |hx
  ·exact h1.dp K v
  ·obtain⟨n',_,v'⟩:=h1.vb K v;exact h2.dp K v' (by simpa using hl) x hx
theorem zvg{n:Nat}{x:Tr×Bool}(h:x.1.depth≤n):eqF S (n+2) (zbY x) (zbY x)=ae true:=by
 obtain⟨x,b⟩:=x;show zea (eqF S (n+1)) [enc x, .bl b] [enc x, .bl b]=ae true;have e1:=zso (S:=S) (n+1) x x (by simp only at h;omega);rw[zjV]at e1;have e2:eqF S (n+1) (.bl b) (.bl b)=ae (b == b):=rfl;simp only[zea,e1,e2,beq_self_eq_true];rfl
theorem zlW{n:Nat}:∀{ss:List (Tr×Bool)},(∀x∈ss,x.1.depth≤n)→zea (eqF S (n+2)) (ss.map zbY) (ss.map zbY)=ae true
 | [],_=>rfl
 |x::ss,h=>by
  rw[aA];simp only[zea,zvg (h x a0),zlW λy hy=>h y (aK _ hy)];rfl
theorem zqZ{a b:Addr}{ss:List (Tr×Bool)}(ha:S a=ae (.lst (ss.map zbY))) (hb:S b=ae (.lst (ss.map zbY))) (h:∀x∈ss,x.1.depth≤40):eqF S 60 (.ref a) (.ref b)=ae true:=by
 show(match S a with
  |some (.lst xs)=>match S b with
   |some (.lst ys)=>zea (eqF S 59) xs ys
   |_=>none
  |_=>none)=ae true
 rw[ha,hb];exact zlW (n:=57) λx hx=>by have:=h x hx;omega
theorem ztO{T:Tr}:oIs false (enc T) .non S Q=Q (.bl false) S:=by
 cases T with
 |bl n=>simp only[enc,zqt]
 |nd s ts=>simp only[enc,zoY]
theorem zgZ{l:Addr}{X Z:Tr}{ss:List (Tr×Bool)}{fs os:List Tr}{n:Nat}{f o:Addr}(K:Bk2 ws B) (fb:S a=ae (.lst (B.map zba))) (fl:S l=ae (.lst (ss.map zbY))) (ff:S f=ae (.lst (fs.map enc))) (fo:S o=ae (.lst (os.map enc))) (V:Va ws B X fs Z os n) (v:Vb Z n 0) (vX:Bd X 3) (hl:ss.length≤3) (e1:fs.length=ss.countP (·.2)) (e2:os.length+ss.countP (·.2)=ss.length) (hr:66≤r) (h:Q (.bl true) S):zbJ (r+1) [.ref a,enc X, .ref l,enc Z, .tup [.tup [enc X, .ref f], .tup [enc Z, .ref o]]] S Q E:=by
 obtain⟨r,rfl⟩:∃r',r=r'+1:=⟨r - 1,by omega⟩
 have hc:ss.countP (·.2)≤ss.length:=jA;have bX:Bd X (nR B fs):=vX.mono (by have:=V.nf;omega);have bZ:Bd Z (nR B os):=v.bd.mono (by have:=V.no;omega);have dX:=bX.small;have dZ:=bZ.small;have dE:=(Roa.end_bd K fs (n:=0) V.f (by rw[eZ];exact bX)).small;rw[zbJ];walk_at "wp";rw[show atI [W.tup [enc X, .ref f],W.tup [enc Z, .ref o]] 1=ae (.tup [enc Z, .ref o]) from rfl]
 try walk_at "wp"
 refine zkH K fb ff V.f (by omega) bX (by omega) ?_
 try walk_at "wp"
 rw[ztO]
 try walk_at "wp"
 refine zkH K fb fo V.o (by omega) bZ (by omega) ?_;rw[←V.e,zef (by omega)]
 try walk_at "wp"
 rw[zef (by omega)]
 try walk_at "wp"
 rw[zef (by omega)]
 try walk_at "wp"
 rw[zaj fl];refine zff (λσ=>∃x,σ=[x]) zbY zbY (λx=>x.2) ?_ ss [] _ ⟨none,rfl⟩ (by rw[c5];omega) (λx hx σ R1 R0 hI h1 h0=>?_) ?_
 ·exact fl
 ·obtain⟨y,rfl⟩:=hI;obtain⟨x,b⟩:=x;simp only[zbY,zei];walk_at "wp";rw[show atI [enc x,W.bl b] 1=ae (.bl b) from rfl];cases b with
  |true=>
   try walk_at "wp"
   exact h1 rfl _ _ ⟨_,rfl⟩ .refl
  |false=>
   try walk_at "wp"
   exact h0 rfl _ _ ⟨_,rfl⟩ .refl
 ·intro g hg;rw[a8];have s1:Sub S (put S g (.lst ((ss.filter λx=>x.2).map zbY))):= .put .refl hg
  try walk_at "wp"
  rw[show atI [enc X,W.ref f] 1=ae (.ref f) from rfl]
  try walk_at "wp"
  rw[zaj (s1 _ _ ff)];have ec:((ss.filter λx=>x.2).map zbY).length=ss.countP (·.2):=by rw[aq,List.countP_eq_length_filter]
  have q1:((fs.length:Int) == ((ss.countP (·.2):Nat):Int))=true:=by simp [e1]
  have q2:((os.length:Int) == ((ss.length:Nat):Int) - ((ss.countP (·.2):Nat):Int))=true:=by simp;omega
  simp only[ec,aq,q1];rw[show atI [enc Z,W.ref o] 1=ae (.ref o) from rfl]
  try walk_at "wp"
  simp only[zaj (s1 _ _ fo),zaj (s1 _ _ fl),aq]
  try walk_at "wp"
  simp only[q2];exact⟨_,s1,h⟩
end
section
variable {w0 w1 w2 w3 w4 w5:Str}{tt:List Str}{B:List Tn}{S:Sto}{aw at' ab ac:Addr}{cs:List Int}{Q:WK}{X:Str→Sto→Prop}
theorem Pre.ok_shape46{Y:Str→Sto→Prop}{v8:Int}(h8:v8=8) (P:Pre S aw at' ab w0 w1 w2 w3 w4 w5 tt B) (hc:S ac=ae (.lst (cs.map W.int)))
  (h:∀(t:Tr) (S':Sto),Sub S S'→Sh [w0,w1,w2,w3,w4,w5] B t→Vb t 0 3→Q (enc t) S'):zcy 199 [.ref ac, .ref ab, .ref aw, .int 4] S (λv S1=>zcz 199 [v, .ref ab, .int v8] S1 Q Y) X:=by
 subst h8;refine L2.zrx (r:=189) (m:=4) (by decide) hc P.fb P.fw P.bk P.ne λp v S' sub pa po pw pn=>?_;have K:=P.bk2;have po2:PlOk [w0,w1,w2,w3,w4,w5] B p:=po.sub λx hx=>aK _ (aK _ hx);have hdp:=zmx p;refine L2.zsz (r:=198) (by decide) (sub _ _ P.fb) P.bk 23 (by omega) (by omega) pa po (by omega) ?_;have e:p.ev B (byC 8)=p.ev B zr:=zfZ po λx h0 h1=>(zAk x h0 h1).symm;rw[e];have hw:=zqx P.bk po;have hd:=zgp (p.ev B zr);refine h _ S' sub ⟨K.wy po2,?_⟩ ⟨by simp only[b5];omega,by omega⟩
 show(p.ev B zr).mk B (λt=>t.2.1)=_;rw[zeA K.b po2];rfl
theorem Pre.leaf (P:Pre S aw at' ab w0 w1 w2 w3 w4 w5 tt B):Sh [w0,w1,w2,w3,w4,w5] B (.nd w2 []):=by
 have K:=P.bk2;have e:zaY B w2=none:=zbh K.b.ti (K.b.sg w2 (by simp));refine⟨⟨?_,?_⟩,?_⟩
 ·rw[Tr.hd,hds_iff];exact⟨.inl (by simp),λ_ z=>nomatch z⟩
 ·rw[Tr.ar,ars_iff];exact⟨λt' e'=>(by rw[e]at e';cases e'),λ_ z=>nomatch z⟩
 ·rw[show src B (.nd w2 [])=_ from zeh e];rfl
end
section
variable {w0 w1 w2 w3 w4 w5:Str}{tt:List Str}{B:List Tn}{S:Sto}{aw at' ab l l2 f o q:Addr}{ns:List Int}{X Z:Tr}{ss:List (Tr×Bool)}{fs os:List Tr}{n:Nat}{E:WX}{D:WEnds}{T:WS}{y0 y1 y2 y3 y4 y5 y6 y7 y8 y9:Option W}
theorem zyV (P:Pre S aw at' ab w0 w1 w2 w3 w4 w5 tt B) (h:∀S' X,Pre S' aw at' ab w0 w1 w2 w3 w4 w5 tt B→Sh [w0,w1,w2,w3,w4,w5] B X→Vb X 0 3→T E D [ae (.scr ns),ae (.ref aw),ae (.ref at'),ae (.ref ab),ae (enc X),y5,y6,y7,y8,y9] S') :
  zdI 199 T E D [ae (.scr ns),ae (.ref aw),ae (.ref at'),ae (.ref ab),y4,y5,y6,y7,y8,y9] S:=by
 rw[zdI];walk_at "wp";intro ac hc;exact(P.sub (.put .refl hc)).ok_shape46 rfl zag λt S' sb sh bd=>h S' t (P.sub ((Sub.put .refl hc).trans sb)) sh bd
structure Q46 (S:Sto) (w0 w1 w2 w3 w4 w5:Str) (B:List Tn) (ab l:Addr) (X Z:Tr) (ss:List (Tr×Bool)):Prop where
  K:Bk2 [w0,w1,w2,w3,w4,w5] B
  fb:S ab=ae (.lst (B.map zba))
  fl:S l=ae (.lst (ss.map zbY))
  w:Wnd [w0,w1,w2,w3,w4,w5] B X ss Z
  v:Vb X 0 3
  n:ss.length≤3
theorem Q46.sub{S':Sto}(k:Q46 S w0 w1 w2 w3 w4 w5 B ab l X Z ss) (s:Sub S S'):Q46 S' w0 w1 w2 w3 w4 w5 B ab l X Z ss:=⟨k.K,s _ _ k.fb,s _ _ k.fl,k.w,k.v,k.n⟩
theorem Vb.less{X:Tr}{n k m:Nat}(h:Vb X n k) (hm:m≤k):Vb X n m:=by
 have h1:=h.w;have h2:=h.d;refine⟨aW (Nat.mul_le_mul (db (by decide) (by omega)) (by omega)) h1,by omega⟩
theorem zys (P:Pre S aw at' ab w0 w1 w2 w3 w4 w5 tt B) (hX:Sh [w0,w1,w2,w3,w4,w5] B X) (hV:Vb X 0 3) (h:∀S' l Z ss,Q46 S' w0 w1 w2 w3 w4 w5 B ab l X Z ss→T E D [ae (.scr ns),ae (.ref aw),ae (.ref at'),ae (.ref ab),ae (enc X),ae (.ref l),ae (enc Z),y7,y8,y9] S') :
  zdN 199 T E D [ae (.scr ns),ae (.ref aw),ae (.ref at'),ae (.ref ab),ae (enc X),y5,y6,y7,y8,y9] S:=by
 rw[zdN];walk_at "wp";intro p hp;have s1:Sub S (put S p (.lst ((zeu ns (ae 10) (ae 13)).map W.int))):= .put .refl hp;rw[zaj (s1 _ _ P.fw)];rw[show atI (six w0 w1 w2 w3 w4 w5) 2=ae (.str w2) from rfl];have hB:=P.b.len;refine zjn (r:=198) P.bk2 P.lft P.pb P.ne (by omega) (s1 _ _ P.fb) P.leaf zag hX hV (by omega) λS' l ss Z sb fl k=>?_
 try walk_at "wp"
 exact h S' l Z ss ⟨P.bk2,sb _ _ (s1 _ _ P.fb),fl,k.w,hV,k.l⟩
theorem zym (k:Q46 S w0 w1 w2 w3 w4 w5 B ab l X Z ss) (h:∀S' l2,Q46 S' w0 w1 w2 w3 w4 w5 B ab l X Z ss→S' l2=ae (.lst (ss.map zbY))→T E D [y0,y1,y2,ae (.ref ab),ae (enc X),ae (.ref l),ae (enc Z),ae (.ref l2),y8,y9] S') :
  zdO 199 T E D [y0,y1,y2,ae (.ref ab),ae (enc X),ae (.ref l),ae (enc Z),y7,y8,y9] S:=by
 rw[zdO];walk_at "wp";rw[zaj k.fl];have:=k.n
 first
  |exact⟨zal (by rw[aq];omega),λl2 h2=>h _ l2 (k.sub (.put .refl h2)) zag⟩
  |exact⟨by rw[aq];omega,λl2 h2=>h _ l2 (k.sub (.put .refl h2)) zag⟩
  |exact λl2 h2=>h _ l2 (k.sub (.put .refl h2)) zag
theorem zyC (k:Q46 S w0 w1 w2 w3 w4 w5 B ab l X Z ss) (f2:S l2=ae (.lst (ss.map zbY))) (h:∀S' fs os n f o,Q46 S' w0 w1 w2 w3 w4 w5 B ab l X Z ss→S' l2=ae (.lst (ss.map zbY))→VaS S S' X Z fs os f o→Va [w0,w1,w2,w3,w4,w5] B X fs Z os n→Vb Z n 0→fs.length=ss.countP (·.2)→os.length+ss.countP (·.2)=ss.length→T E D [y0,y1,y2,ae (.ref ab),ae (enc X),ae (.ref l),ae (enc Z),ae (.ref l2),ae (.tup [.tup [enc X, .ref f], .tup [enc Z, .ref o]]),y9] S') :
  zdJ 199 T E D [y0,y1,y2,ae (.ref ab),ae (enc X),ae (.ref l),ae (enc Z),ae (.ref l2),y8,y9] S:=by
 rw[zdJ];walk_at "wp";exact zkd (r:=198) k.K k.fb f2 k.w (k.v.less k.n) (by omega) λS' fs os n f o a1 a2 a3 a4 a5=>h S' fs os n f o (k.sub a1.sb) (a1.sb _ _ f2) a1 a2 a3 a4 a5
theorem zyp (k:Q46 S w0 w1 w2 w3 w4 w5 B ab l X Z ss) (f2:S l2=ae (.lst (ss.map zbY))) (ff:S f=ae (.lst (fs.map enc))) (fo:S o=ae (.lst (os.map enc))) (V:Va [w0,w1,w2,w3,w4,w5] B X fs Z os n) (v:Vb Z n 0) (e1:fs.length=ss.countP (·.2)) (e2:os.length+ss.countP (·.2)=ss.length) (h:T E D [y0,y1,y2,ae (.ref ab),ae (enc X),ae (.ref l),ae (enc Z),ae (.ref l2),ae (.tup [.tup [enc X, .ref f], .tup [enc Z, .ref o]]),y9] S) :
  zdP 199 T E D [y0,y1,y2,ae (.ref ab),ae (enc X),ae (.ref l),ae (enc Z),ae (.ref l2),ae (.tup [.tup [enc X, .ref f], .tup [enc Z, .ref o]]),y9] S:=by
 rw[zdP];walk_at "wp";rw[zqZ f2 k.fl (k.w.dp k.K k.v k.n)]
 try walk_at "wp"
 refine zgZ (r:=198) k.K k.fb k.fl ff fo V v (k.v.bd.mono (by omega)) k.n e1 e2 (by omega) ?_
 try walk_at "wp"
 exact h
theorem zzn (k:Q46 S w0 w1 w2 w3 w4 w5 B ab l X Z ss) (ff:S f=ae (.lst (fs.map enc))) (fo:S o=ae (.lst (os.map enc))) (ol:os.length≤3) (h:∀S' q,Q46 S' w0 w1 w2 w3 w4 w5 B ab l X Z ss→Sub S S'→S q=none→S' q=ae (.lst (os.map enc))→T E D [y0,y1,y2,ae (.ref ab),ae (enc X),ae (.ref l),ae (enc Z),y7,ae (.tup [.tup [enc X, .ref f], .tup [enc Z, .ref o]]),ae (.ref q)] S') :
  zdM 199 T E D [y0,y1,y2,ae (.ref ab),ae (enc X),ae (.ref l),ae (enc Z),y7,ae (.tup [.tup [enc X, .ref f], .tup [enc Z, .ref o]]),y9] S:=by
 rw[zdM];walk_at "wp";rw[show atI [W.tup [enc X, .ref f],W.tup [enc Z, .ref o]] 1=ae (.tup [enc Z, .ref o]) from rfl]
 try walk_at "wp"
 rw[show atI [enc Z,W.ref o] 1=ae (.ref o) from rfl]
 try walk_at "wp"
 rw[zaj fo]
 first
  |exact⟨zal (by rw[aq];omega),λl2 h2=>h _ l2 (k.sub (.put .refl h2)) (.put .refl h2) h2 zag⟩
  |exact⟨by rw[aq];omega,λl2 h2=>h _ l2 (k.sub (.put .refl h2)) (.put .refl h2) h2 zag⟩
  |exact λl2 h2=>h _ l2 (k.sub (.put .refl h2)) (.put .refl h2) h2 zag
theorem zxJ (ff:S f=ae (.lst (fs.map enc))) (fl:fs.length≤3) (h:T E D [y0,y1,y2,y3,ae (enc X),y5,y6,y7,ae (.tup [.tup [enc X, .ref f], .tup [enc Z, .ref o]]),y9] (put S f (.lst (fs.map enc++[enc X])))) :
  zdp 199 T E D [y0,y1,y2,y3,ae (enc X),y5,y6,y7,ae (.tup [.tup [enc X, .ref f], .tup [enc Z, .ref o]]),y9] S:=by
 rw[zdp];walk_at "wp";rw[show atI [enc X,W.ref f] 1=ae (.ref f) from rfl]
 try walk_at "wp"
 rw[zaj ff,zaj ff];exact⟨trivial,zbO (by rw[aq];omega),h⟩
theorem zwo (fo:S o=ae (.lst (os.map enc))) (fq:S q=ae (.lst (os.map enc))) (hd:∀x∈os,x.depth≤40) (h:T E D [y0,y1,y2,y3,y4,y5,y6,y7,ae (.tup [.tup [enc X, .ref f], .tup [enc Z, .ref o]]),ae (.ref q)] S) :
  zdu 199 T E D [y0,y1,y2,y3,y4,y5,y6,y7,ae (.tup [.tup [enc X, .ref f], .tup [enc Z, .ref o]]),ae (.ref q)] S:=by
 rw[zdu];walk_at "wp";rw[show atI [W.tup [enc X, .ref f],W.tup [enc Z, .ref o]] 1=ae (.tup [enc Z, .ref o]) from rfl]
 try walk_at "wp"
 rw[show atI [enc Z,W.ref o] 1=ae (.ref o) from rfl]
 try walk_at "wp"
 have e:eqF S 60 (.ref o) (.ref q)=ae true:=by
  have fo':S o=ae (.lst (encs os)):=by rw[fo,zaw]
  have fq':S q=ae (.lst (encs os)):=by rw[fq,zaw]
  have:=ztZ (n:=59) fo' fq' (show dts os<59 by have:=zhT (k:=40) hd;omega)
  rw[znz]at this;exact this
 rw[e]
 try walk_at "wp"
 exact h
end
theorem zvD (ns:List Int) (hl:ns.length≤63):zdD 200 [.scr ns] (λ_=>none) (λw _=>w= .bl true) (λ_ _=>False):=by
 rw[show(200:Nat)=199+1 from rfl,zdD,zgM];refine⟨rfl,?_⟩;rw[zeU,zeJ,zeL];refine zva λS1 aw at' ab w0 w1 w2 w3 w4 w5 tt B P=>zyV P λS2 X P hX hV=>zys P hX hV λS3 l Z ss k=>zym k λS4 l2 k f2=>zyC k f2 λS5 fs os n f o k' f2' a1 V v e1 e2=>?_;have hn:=k.n;have hc:ss.countP (·.2)≤ss.length:=jA;refine zyp k' f2' a1.ff a1.fo V v e1 e2 (zzn k' a1.ff a1.fo (by omega) λS6 q k6 s6 q0 fq=>zxJ (s6 _ _ a1.ff) (by omega) ?_);have nf6:∀x,S4 x≠none→x≠f:=λx hx z=>hx (by rw[z];exact a1.nf);have sub:Sub S4 (put S6 f (.lst (fs.map enc++[enc X]))):=λx ob e=>by
  rw[zaA (nf6 x (by rw[e];simp))];exact s6 _ _ (a1.sb _ _ e)
 have of:o≠f:=λz=>a1.ne z.symm;have qf:q≠f:=by rintro rfl;rw[a1.ff]at q0;cases q0
 refine zwo (by rw[zaA of];exact s6 _ _ a1.fo) (by rw[zaA qf];exact fq) (λx hx=>?_) ?_
 ·obtain⟨y,h2⟩:=Roa.two k.K os V.o (v.bd.mono (by have:=V.no;omega)) x hx;exact h2.d1.1
 ·have k7:=k.sub sub;rw[zdW];walk_at "wp";refine zkd (r:=198) k7.K k7.fb k7.fl k7.w (k7.v.less k7.n) (by omega) λS' fs os n f o a1 a2 a3 a4 a5=>?_
  try walk_at "wp"
  refine zgZ (r:=198) k7.K (a1.sb _ _ k7.fb) (a1.sb _ _ k7.fl) a1.ff a1.fo a2 a3 (k7.v.bd.mono (by omega)) k7.n a4 a5 (by omega) ?_
  first |exact⟨_, .refl,rfl⟩ |exact⟨_, .refl⟩
end L2
end
end
section
namespace K46
open PySem L2 PyProof.Rows
noncomputable def top (i:Nat):Stmt:=PySem.Challenge.pw_turnweave_k46_valleys.main.body.getD i (.Pass ⟨0,0,0,0⟩)
structure Cal (P:aE) (w:aB) (K:aj) (mg:Str→Option Value) (base:Heap) (nm:Str) (ps:List Str) (c:Nat→WSp) where
  zf:Addr
  zd:bC
  zg:∀r,FnOk P w K mg base (CX1 P w) r zf zd ps (zcX K (c r))
  zb:Binds K zd ps []
  zk:eL K (.ref zf)=true
  zm:mg nm=ae (.ref zf)
noncomputable def mkC {P:aE}{w:aB}{K:aj}{h:Heap}{mg:Str→Option Value}{base:Heap}{nm:Str}{st:Stmt}{ps:List Str}{c:Nat→WSp}{f:Addr}{d:bC}(X:K.In h) (G:h.Ns aL mg) (F:Fun K nm nm st f d) (a:aZ K aL nm=ae (ae (.ref f))) (g:∀r,FnOk P w K mg base (CX1 P w) r f d ps (zcX K (c r))) (b:Binds K d ps []):Cal P w K mg base nm ps c:=⟨f,d,g,b,F.kp,bb X G a⟩
def Dfn (K:aj) (nm:Str) (st:Stmt):Prop:=∃f d,aZ K aL nm=ae (ae (.ref f))∧Fun K nm nm st f d
theorem dfn{K:aj}{x:Str}{st:Stmt}{f:Addr}{oc:Value}{od an:Option Addr}{osl:Array (Option Value)}{kV doc pm cdv ct:Value}(a:aZ K aL x=ae (ae (.ref f))) (l:K.lookup f=ae ⟨oc,od, .func (dG x x (zhE st) (zfV st) (zak st) .none kV doc pm an cdv ct),osl⟩) (c:fW K cdv x=true) (k:eL K (.ref f)=true):Dfn K x st:=⟨f,_,a,zxX l c k⟩
theorem nC{p:List Value→Prop}{k:Nat}(h:∀a us,us.length=k→p (a::us)):∀us,us.length=k+1→p us:=λus e=>by
 cases us with
 |nil=>cases e
 |cons a us=>exact h a us (Nat.succ.inj e)
theorem n0{p:List Value→Prop}(h:p []):∀us,us.length=0→p us:=λus e=>by
 cases us with
 |nil=>exact h
 |cons a us=>cases e
theorem n1{p:List Value→Prop}(h:∀a,p [a]):∀us,us.length=1→p us:=nC λa=>n0 (p:=λus=>p (a::us)) (h a)
theorem n2{p:List Value→Prop}(h:∀a b,p [a,b]):∀us,us.length=2→p us:=nC λa=>n1 (p:=λus=>p (a::us)) (h a)
theorem n3{p:List Value→Prop}(h:∀a b c,p [a,b,c]):∀us,us.length=3→p us:=nC λa=>n2 (p:=λus=>p (a::us)) (h a)
theorem n4{p:List Value→Prop}(h:∀a b c d,p [a,b,c,d]):∀us,us.length=4→p us:=nC λa=>n3 (p:=λus=>p (a::us)) (h a)
theorem n5{p:List Value→Prop}(h:∀a b c d e,p [a,b,c,d,e]):∀us,us.length=5→p us:=nC λa=>n4 (p:=λus=>p (a::us)) (h a)
theorem n6{p:List Value→Prop}(h:∀a b c d e f,p [a,b,c,d,e,f]):∀us,us.length=6→p us:=nC λa=>n5 (p:=λus=>p (a::us)) (h a)
local macro_rules | `(tactic| walk_at "sc") => `(tactic| (refine ⟨rfl, rfl, rfl, ?_, rfl, ?_, ?_⟩ <;> decide +kernel))
noncomputable abbrev Ok (P:aE) (w:aB) (K:aj) (mg:Str→Option Value) (base:Heap) (f:Addr) (d:bC) (ps:List Str) (c:Nat→WSp):Prop:=∀r,FnOk P w K mg base (CX1 P w) r f d ps (zcX K (c r))
theorem zcK{P:aE}{w:aB}{K:aj}{mg:Str→Option Value}{base:Heap}{f:Addr}{d:bC}{ps:List Str}{c:Nat→WSp}(h0:c 0=zaR) (h:∀r,FnOk P w K mg base (CX1 P w) r f d ps (zcX K (c r))→FnOk P w K mg base (CX1 P w) (r+1) f d ps (zcX K (c (r+1)))):Ok P w K mg base f d ps c:=λr=>by
 induction r with
 |zero=>rw[h0];exact zvM
 |succ r ih=>exact h r ih
structure Ncl (mg:Str→Option Value) (x:Str) where
  xC:Addr
  xm:mg x=ae (.ref xC)
theorem zoG:bP "ValueError" =ae (.type "ValueError"):=by first |rfl |decide +kernel | (unfold bP;decide +kernel)
noncomputable abbrev s0:Stmt:=top 9
theorem sc0:FnScope ["t"] ["t"] (zak s0):=by walk_at "sc"
noncomputable abbrev s1:Stmt:=top 10
theorem sc1:FnScope ["things", "found", "thing"] ["things"] (zak s1):=by walk_at "sc"
noncomputable abbrev s2:Stmt:=top 11
theorem sc2:FnScope ["t", "heavy", "deep", "level"] ["t"] (zak s2):=by walk_at "sc"
noncomputable abbrev s3:Stmt:=top 13
theorem sc3:FnScope ["t", "place", "found", "number", "inner"] ["t", "place", "found"] (zak s3):=by walk_at "sc"
noncomputable abbrev s4:Stmt:=top 12
theorem sc4:FnScope ["t", "found"] ["t"] (zak s4):=by walk_at "sc"
noncomputable abbrev s5:Stmt:=top 15
theorem sc5:FnScope ["t", "number", "parts"] ["t", "number"] (zak s5):=by walk_at "sc"
noncomputable abbrev s6:Stmt:=top 14
theorem sc6:FnScope ["t", "place", "thing", "number"] ["t", "place"] (zak s6):=by walk_at "sc"
noncomputable abbrev s7:Stmt:=top 17
theorem sc7:FnScope ["side"] ["side"] (zak s7):=by walk_at "sc"
noncomputable abbrev s8:Stmt:=top 18
theorem sc8:FnScope ["side", "things"] ["side", "things"] (zak s8):=by walk_at "sc"
noncomputable abbrev s9:Stmt:=top 21
theorem sc9:FnScope ["one", "other"] ["one", "other"] (zak s9):=by walk_at "sc"
noncomputable abbrev s10:Stmt:=top 20
theorem sc10:FnScope ["left", "t", "things", "inner", "thing"] ["left", "t", "things"] (zak s10):=by walk_at "sc"
noncomputable abbrev s11:Stmt:=top 19
theorem sc11:FnScope ["left", "t", "things"] ["left", "t"] (zak s11):=by walk_at "sc"
noncomputable abbrev s12:Stmt:=top 25
theorem sc12:FnScope ["book", "title", "turning"] ["book", "title"] (zak s12):=by walk_at "sc"
noncomputable abbrev s13:Stmt:=top 29
theorem zAM:FnScope ["shape"] ["shape"] (zak s13):=by walk_at "sc"
noncomputable abbrev s14:Stmt:=top 30
theorem sc14:FnScope ["book", "way", "side", "parts", "turning"] ["book", "way", "side"] (zak s14):=by walk_at "sc"
noncomputable abbrev s15:Stmt:=top 27
theorem zAi:FnScope ["book", "way"] ["book", "way"] (zak s15):=by walk_at "sc"
noncomputable abbrev s16:Stmt:=top 28
theorem zAl:FnScope ["book", "way"] ["book", "way"] (zak s16):=by walk_at "sc"
noncomputable abbrev s17:Stmt:=top 31
theorem sc17:FnScope ["book", "way", "turning"] ["book", "way"] (zak s17):=by walk_at "sc"
noncomputable abbrev s18:Stmt:=top 35
theorem sc18:FnScope ["book", "shape", "turning"] ["book", "shape"] (zak s18):=by walk_at "sc"
noncomputable abbrev s19:Stmt:=top 34
theorem sc19:FnScope ["book", "shape", "place", "found", "turning", "number", "inner"] ["book", "shape", "place", "found"] (zak s19):=by walk_at "sc"
noncomputable abbrev s20:Stmt:=top 33
theorem sc20:FnScope ["book", "shape", "found"] ["book", "shape"] (zak s20):=by walk_at "sc"
noncomputable abbrev s21:Stmt:=top 36
theorem zAr:FnScope ["pairs"] ["pairs"] (zak s21):=by walk_at "sc"
noncomputable abbrev s22:Stmt:=top 40
theorem sc22:FnScope ["book", "shape", "turning"] ["book", "shape"] (zak s22):=by walk_at "sc"
noncomputable abbrev s23:Stmt:=top 39
theorem sc23:FnScope ["book", "shape", "place", "wanted", "top", "parts", "spot", "inner"] ["book", "shape", "place", "wanted"] (zak s23):=by walk_at "sc"
noncomputable abbrev s24:Stmt:=top 38
theorem zAQ:FnScope ["book", "shape", "places"] ["book", "shape", "places"] (zak s24):=by walk_at "sc"
noncomputable abbrev s25:Stmt:=top 37
theorem sc25:FnScope ["book", "shape", "places", "known", "place"] ["book", "shape", "places"] (zak s25):=by walk_at "sc"
noncomputable abbrev s26:Stmt:=top 42
theorem sc26:FnScope ["book", "way", "other", "first", "second", "mine", "yours", "parts"] ["book", "way", "other"] (zak s26):=by walk_at "sc"
noncomputable abbrev s27:Stmt:=top 46
theorem sc27:FnScope ["book", "ways", "way"] ["book", "ways"] (zak s27):=by walk_at "sc"
noncomputable abbrev s28:Stmt:=top 45
theorem sc28:FnScope ["book", "way", "ways", "line", "over", "way_on"] ["book", "way", "ways"] (zak s28):=by walk_at "sc"
noncomputable abbrev s29:Stmt:=top 44
theorem sc29:FnScope ["book", "road", "other", "downs", "row", "overs", "way", "line"] ["book", "road", "other"] (zak s29):=by walk_at "sc"
noncomputable abbrev s30:Stmt:=top 47
theorem zzX:FnScope ["downs_and_overs"] ["downs_and_overs"] (zak s30):=by walk_at "sc"
noncomputable abbrev s31:Stmt:=top 49
theorem sc31:FnScope ["book", "shape", "steps", "first", "second", "way", "leads_on", "start", "stop", "stands", "downs_and_overs"] ["book", "shape", "steps"] (zak s31):=by walk_at "sc"
noncomputable abbrev s32:Stmt:=top 51
theorem zAU:FnScope ["script", "k"] ["script", "k"] (zak s32):=by walk_at "sc"
noncomputable abbrev s33:Stmt:=top 52
theorem sc33:FnScope ["one", "two", "great", "signs", "rest", "base", "k", "at", "words", "word"] ["one", "two", "great"] (zak s33):=by walk_at "sc"
noncomputable abbrev s34:Stmt:=top 53
theorem zAV:FnScope ["side"] ["side"] (zak s34):=by walk_at "sc"
noncomputable abbrev s35:Stmt:=top 54
theorem zAf:FnScope ["side", "things"] ["side", "things"] (zak s35):=by walk_at "sc"
noncomputable abbrev s36:Stmt:=top 55
theorem zAL:FnScope ["draw", "many", "w"] ["draw", "many", "w"] (zak s36):=by walk_at "sc"
noncomputable abbrev s37:Stmt:=top 56
theorem sc37:FnScope ["draw", "many", "w", "one", "other", "way"] ["draw", "many", "w"] (zak s37):=by walk_at "sc"
noncomputable abbrev s38:Stmt:=top 57
theorem zAy:FnScope ["way", "head", "c", "d"] ["way", "head", "c", "d"] (zak s38):=by walk_at "sc"
noncomputable abbrev s39:Stmt:=top 58
theorem sc39:FnScope ["script", "k", "w", "titles", "book", "j", "lefts", "n", "left", "right"] ["script", "k", "w", "titles"] (zak s39):=by walk_at "sc"
noncomputable abbrev s40:Stmt:=top 59
theorem sc40:FnScope ["cells", "book", "w", "room", "stack", "spent", "cell", "way", "need", "node", "k", "at"] ["cells", "book", "w", "room"] (zak s40):=by walk_at "sc"
noncomputable abbrev s41:Stmt:=top 60
theorem sc41:FnScope ["plan", "book", "by", "k", "bits", "head", "parts", "ways"] ["plan", "book", "by"] (zak s41):=by walk_at "sc"
noncomputable abbrev s42:Stmt:=top 61
theorem sc42:FnScope ["book", "way", "which", "parts", "turning"] ["book", "way", "which"] (zak s42):=by walk_at "sc"
noncomputable abbrev s43:Stmt:=top 62
theorem sc43:FnScope ["side", "shape", "known", "one", "other"] ["side", "shape", "known"] (zak s43):=by walk_at "sc"
noncomputable abbrev s44:Stmt:=top 63
theorem sc44:FnScope ["t", "place", "other", "k"] ["t", "place", "other"] (zak s44):=by walk_at "sc"
noncomputable abbrev s45:Stmt:=top 64
theorem sc45:FnScope ["t", "found", "i", "one"] ["t"] (zak s45):=by walk_at "sc"
noncomputable abbrev s46:Stmt:=top 65
theorem sc46:FnScope ["t", "place", "i"] ["t", "place"] (zak s46):=by walk_at "sc"
noncomputable abbrev s47:Stmt:=top 66
theorem sc47:FnScope ["book", "here", "cell", "c", "title", "left", "right", "some", "place", "parts", "ways"] ["book", "here", "cell", "c"] (zak s47):=by walk_at "sc"
noncomputable abbrev s48:Stmt:=top 67
theorem sc48:FnScope ["book", "here", "cell", "some"] ["book", "here", "cell"] (zak s48):=by walk_at "sc"
noncomputable abbrev s49:Stmt:=top 68
theorem sc49:FnScope ["book", "shape", "cells", "limit", "c", "steps", "here", "cell", "onward", "way"] ["book", "shape", "cells", "limit", "c"] (zak s49):=by walk_at "sc"
noncomputable abbrev s50:Stmt:=top 69
theorem sc50:FnScope ["book", "road", "here", "way"] ["book", "road"] (zak s50):=by walk_at "sc"
noncomputable abbrev s51:Stmt:=top 70
theorem sc51:FnScope ["book", "shape", "steps", "last", "found", "meeting", "onward"] ["book", "shape", "steps", "last", "found"] (zak s51):=by walk_at "sc"
noncomputable abbrev s52:Stmt:=top 71
theorem sc52:FnScope ["script", "w", "titles", "book", "shape", "steps", "last", "handed", "found", "held"] ["script"] (zak s52):=by walk_at "sc"
section
variable (P:aE) (w:aB) (K:aj) (mg:Str→Option Value) (base:Heap)
abbrev C0:=Cal P w K mg base "parts_of" ["t"] zcE
abbrev C1:=Cal P w K mg base "parts_of_all" ["things"] zbT
abbrev C2:=Cal P w K mg base "is_small" ["t"] zdH
abbrev C3:=Cal P w K mg base "gather_places" ["t", "place", "found"] zaO
abbrev C4:=Cal P w K mg base "places" ["t"] zfv
abbrev C5:=Cal P w K mg base "numbered_part" ["t", "number"] zbF
abbrev C6:=Cal P w K mg base "part" ["t", "place"] zkh
abbrev C7:=Cal P w K mg base "blank_places" ["side"] zbR
abbrev C8:=Cal P w K mg base "filled" ["side", "things"] zcU
abbrev C9:=Cal P w K mg base "have_one_top" ["one", "other"] zbQ
abbrev C10:=Cal P w K mg base "gather_matched" ["left", "t", "things"] zaE
abbrev C11:=Cal P w K mg base "matched" ["left", "t"] zbS
abbrev C12:=Cal P w K mg base "turning_of" ["book", "title"] zaW
abbrev C13:=Cal P w K mg base "only_small" ["shape"] zbf
abbrev C14:=Cal P w K mg base "with_sides" ["book", "way", "side"] zbE
abbrev C15:=Cal P w K mg base "source" ["book", "way"] zdt
abbrev C16:=Cal P w K mg base "goal" ["book", "way"] zfK
abbrev C17:=Cal P w K mg base "part_places" ["book", "way"] zbG
abbrev C18:=Cal P w K mg base "open_turning" ["book", "shape"] zby
abbrev C19:=Cal P w K mg base "gather_open" ["book", "shape", "place", "found"] zbp
abbrev C20:=Cal P w K mg base "open_uses" ["book", "shape"] zcx
abbrev C21:=Cal P w K mg base "places_of" ["pairs"] zda
abbrev C22:=Cal P w K mg base "turned_top" ["book", "shape"] zcM
abbrev C23:=Cal P w K mg base "way_within" ["book", "shape", "place", "wanted"] zaV
abbrev C24:=Cal P w K mg base "way_with" ["book", "shape", "places"] zdA
abbrev C25:=Cal P w K mg base "way_of" ["book", "shape", "places"] zfk
abbrev C26:=Cal P w K mg base "moved" ["book", "way", "other"] zcS
abbrev C27:=Cal P w K mg base "check_goals" ["book", "ways"] zbq
abbrev C28:=Cal P w K mg base "moved_along" ["book", "way", "ways"] zcm
abbrev C29:=Cal P w K mg base "grid" ["book", "road", "other"] zkB
abbrev C30:=Cal P w K mg base "last_downs" ["downs_and_overs"] zcO
abbrev C31:=Cal P w K mg base "valley" ["book", "shape", "steps"] zeq
abbrev C32:=Cal P w K mg base "_law_cell" ["script", "k"] zaG
abbrev C33:=Cal P w K mg base "_law_words" ["one", "two", "great"] zbn
abbrev C34:=Cal P w K mg base "_law_count" ["side"] zaB
abbrev C35:=Cal P w K mg base "_law_filled" ["side", "things"] zbd
abbrev C36:=Cal P w K mg base "_law_item" ["draw", "many", "w"] zcG
abbrev C37:=Cal P w K mg base "_law_right" ["draw", "many", "w"] zcL
abbrev C38:=Cal P w K mg base "_law_lefts" ["way", "head", "c", "d"] zcJ
abbrev C39:=Cal P w K mg base "_law_book" ["script", "k", "w", "titles"] zcA
abbrev C40:=Cal P w K mg base "_law_plan" ["cells", "book", "w", "room"] zcy
abbrev C41:=Cal P w K mg base "_law_way" ["plan", "book", "by"] zcz
abbrev C42:=Cal P w K mg base "_law_made" ["book", "way", "which"] zaM
abbrev C43:=Cal P w K mg base "_law_parts" ["side", "shape", "known"] zbg
abbrev C44:=Cal P w K mg base "_law_put" ["t", "place", "other"] zcw
abbrev C45:=Cal P w K mg base "_law_places" ["t"] zaF
abbrev C46:=Cal P w K mg base "_law_at" ["t", "place"] zcr
abbrev C47:=Cal P w K mg base "_law_back" ["book", "here", "cell", "c"] zdj
abbrev C48:=Cal P w K mg base "_law_on" ["book", "here", "cell"] zej
abbrev C49:=Cal P w K mg base "_law_winding" ["book", "shape", "cells", "limit", "c"] zbP
abbrev C50:=Cal P w K mg base "_law_walked" ["book", "road"] zbH
abbrev C51:=Cal P w K mg base "_law_closed" ["book", "shape", "steps", "last", "found"] zbJ
end
section
variable {P:aE}{w:aB}{K:aj}{mg:Str→Option Value}{base:Heap}
variable {f:Addr}{d:bC}
theorem o0 (F:Fun K "parts_of" "parts_of" s0 f d) (n_i:mg "isinstance" =none) (n_n:mg "int" =none):Ok P w K mg base f d ["t"] zcE:=zcK rfl λr ih=>zaP F sc0 rfl rfl λ_ _ _ _ _ _ hr=>(zad (zaI (zbM (zez rfl n_i rfl n_n dg (jv 0) (by decide) (by decide) (zqT _ (by simp)))) (zah (zam (zat zac))) zav)
  (zah (zam (zcT (jv 0) (zaH zaf) zaL))))
theorem o1 (F:Fun K "parts_of_all" "parts_of_all" s1 f d) (x0:C0 P w K mg base):Ok P w K mg base f d ["things"] zbT:=zcK rfl λr ih=>zaP F sc1 rfl rfl λ_ _ _ _ _ _ hr=>(zad (zan (i:=1) sc1.nd rfl (ai rfl) (zaC (zaJ zac)))
  (zad (zbB (zbk (jv 0)) (zao (i:=2) sc1.nd rfl (ai rfl)) (zah (zbc (zqE (jv 1) (zaa (zai (x0.zg r) hr rfl x0.zm x0.zk x0.zb (zaa (jv 2) zac)) zac)))))
  (zah (zam (jv 1)))))
theorem o2 (F:Fun K "is_small" "is_small" s2 f d) (x1:C1 P w K mg base) (n_l:mg "len" =none) {t_MOST_HEAVY:bg}(g_MOST_HEAVY:mg "MOST_HEAVY" =ae (.int 400 t_MOST_HEAVY)) {t_MOST_DEEP:bg}(g_MOST_DEEP:mg "MOST_DEEP" =ae (.int 40 t_MOST_DEEP)):Ok P w K mg base f d ["t"] zdH:=zcK rfl λr ih=>zaP F sc2 rfl rfl λ_ _ _ _ _ _ hr=>(zad (zan (i:=1) sc2.nd rfl (ai rfl) zaf)
  (zad (zan (i:=2) sc2.nd rfl (ai rfl) zaf)
  (zad (zan (i:=3) sc2.nd rfl (ai rfl) (zaC (zaJ (zaa (jv 0) zac))))
  (zad (zmG (zbM (jv 3)) (zad (zsS (i:=1) sc2.nd rfl (ai rfl) (zbr rfl n_l (zaa (jv 3) zac)))
  (zad (zsS (i:=2) sc2.nd rfl (ai rfl) zaf)
  (zad (zaI (JW.jt (zhO (zlx (jv 1) (zdv rfl g_MOST_HEAVY)) (zfE (zlx (jv 2) (zdv rfl g_MOST_DEEP))))) (zah (zam zfF)) zav)
  (zah (zan (i:=3) sc2.nd rfl (ai rfl) (zai (x1.zg r) hr rfl x1.zm x1.zk x1.zb (zaa (jv 3) zac))))))))
  (zah (zam zfF))))))
theorem o3 (F:Fun K "gather_places" "gather_places" s3 f d) (x0:C0 P w K mg base) (b:Binds K d ["t", "place", "found"] []) (m:mg "gather_places" =ae (.ref f)) (n_e:mg "enumerate" =none):Ok P w K mg base f d ["t", "place", "found"] zaO:=zcK rfl λr ih=>zaP F sc3 rfl rfl λ_ _ _ _ _ _ hr=>(zad (zbc (zbt (jv 2) (zaa (jv 1) zac)))
  (zah (zbB (ziR rfl n_e (zai (x0.zg r) hr rfl x0.zm x0.zk x0.zb (zaa (jv 0) zac))) (zdG (zax (zao (i:=3) sc3.nd rfl (ai rfl)) (zax (zao (i:=4) sc3.nd rfl (ai rfl)) zcF)) (glS (glS gl0))) (zah (zbc (zai ih hr rfl m F.kp b (zaa (jv 4) (zaa (zbe (jv 1) (zat (zaa (jv 3) zac))) (zaa (jv 2) zac)))))))))
theorem o4 (F:Fun K "places" "places" s4 f d) (x3:C3 P w K mg base):Ok P w K mg base f d ["t"] zfv:=zcK rfl λr ih=>zaP F sc4 rfl rfl λ_ _ _ _ _ _ hr=>(zad (zan (i:=1) sc4.nd rfl (ai rfl) (zaC (zaJ zac)))
  (zad (zbc (zai (x3.zg r) hr rfl x3.zm x3.zk x3.zb (zaa (jv 0) (zaa (zat zac) (zaa (jv 1) zac)))))
  (zah (zam (jv 1)))))
theorem o5 (F:Fun K "numbered_part" "numbered_part" s5 f d) (x0:C0 P w K mg base) (n_l:mg "len" =none) (y_NoPlace:Ncl mg "NoPlace") (v_NoPlace:XcIn K "NoPlace" y_NoPlace.xC):Ok P w K mg base f d ["t", "number"] zbF:=zcK rfl λr ih=>zaP F sc5 rfl rfl λ_ _ _ _ _ _ hr=>(zad (zan (i:=2) sc5.nd rfl (ai rfl) (zai (x0.zg r) hr rfl x0.zm x0.zk x0.zb (zaa (jv 0) zac)))
  (zad (zaI (JW.jt (zhO (zpx (jv 1) zaf) (zfE (zyr (jv 1) (zbr rfl n_l (zaa (jv 2) zac)))))) (zah (zfC v_NoPlace rfl y_NoPlace.xm (zaa zgf zac))) zav)
  (zah (zam (zar (jv 2) (jv 1))))))
theorem o6 (F:Fun K "part" "part" s6 f d) (x5:C5 P w K mg base):Ok P w K mg base f d ["t", "place"] zkh:=zcK rfl λr ih=>zaP F sc6 rfl rfl λ_ _ _ _ _ _ hr=>(zad (zan (i:=2) sc6.nd rfl (ai rfl) (jv 0))
  (zad (zbB (zbk (jv 1)) (zao (i:=3) sc6.nd rfl (ai rfl)) (zah (zan (i:=2) sc6.nd rfl (ai rfl) (zai (x5.zg r) hr rfl x5.zm x5.zk x5.zb (zaa (jv 2) (zaa (jv 3) zac))))))
  (zah (zam (jv 2)))))
theorem o7 (F:Fun K "blank_places" "blank_places" s7 f d) (x4:C4 P w K mg base) (x6:C6 P w K mg base) (n_i:mg "isinstance" =none) (n_n:mg "int" =none):Ok P w K mg base f d ["side"] zbR:=zcK rfl λr ih=>zaP F sc7 rfl rfl λ_ _ _ _ _ _ hr=>(zah (zam (zaC (zdb (N:=["place", "side"]) (k:=1) (fr:=[0]) ⟨rfl,by decide +kernel,rfl,rfl,rfl,rfl,rfl,rfl,rfl⟩ (zbk (zai (x4.zg r) hr rfl x4.zm x4.zk x4.zb (zaa (jv 0) zac))) (λ_ _ _ _=>(zao (i:=0) (show bp [("place" :Str),("side" :Str)] from by decide +kernel) rfl (ai rfl))) (λ_ _ _ _=>(zpL (zbM (zez rfl n_i rfl n_n dg (zai (x6.zg r) hr rfl x6.zm x6.zk x6.zb (zaa (jv 1) (zaa (jv 0) zac))) (by decide) (by decide) (zqT _ (by simp)))))) (λ_ _ _ _=>(jv 0))))))
theorem o8 (F:Fun K "filled" "filled" s8 f d) (b:Binds K d ["side", "things"] []) (m:mg "filled" =ae (.ref f)) (n_i:mg "isinstance" =none) (n_n:mg "int" =none) (n_t:mg "tuple" =none):Ok P w K mg base f d ["side", "things"] zcU:=zcK rfl λr ih=>zaP F sc8 rfl rfl λ_ _ _ _ _ _ hr=>(zad (zaI (zbM (zez rfl n_i rfl n_n dg (jv 0) (by decide) (by decide) (zqT _ (by simp)))) (zah (zam (zar (jv 1) (jv 0)))) zav)
  (zah (zam (zbe (zat (zaa (zar (jv 0) zaf) zac)) (zke rfl n_t (zdb (N:=["inner", "things"]) (k:=1) (fr:=[1]) ⟨rfl,by decide +kernel,rfl,rfl,rfl,rfl,rfl,rfl,rfl⟩ (zbk (zcT (jv 0) (zaH zaf) zaL)) (λ_ _ _ _=>(zao (i:=0) (show bp [("inner" :Str),("things" :Str)] from by decide +kernel) rfl (ai rfl))) (λ_ _ _ _=>zbN) (λ_ _ _ _=>(zai ih hr rfl m F.kp b (zaa (jv 0) (zaa (jv 1) zac))))))))))
theorem o9 (F:Fun K "have_one_top" "have_one_top" s9 f d) (n_l:mg "len" =none):Ok P w K mg base f d ["one", "other"] zbQ:=zcK rfl λr ih=>zaP F sc9 rfl rfl λ_ _ _ _ _ _ hr=>(zah (zam (ztb (znB hr (zar (jv 0) zaf) (zar (jv 1) zaf)) (zsO (znB hr (zbr rfl n_l (zaa (jv 0) zac)) (zbr rfl n_l (zaa (jv 1) zac)))))))
theorem o10 (F:Fun K "gather_matched" "gather_matched" s10 f d) (x9:C9 P w K mg base) (b:Binds K d ["left", "t", "things"] []) (m:mg "gather_matched" =ae (.ref f)) (n_i:mg "isinstance" =none) (n_n:mg "int" =none) (n_z:mg "zip" =none):Ok P w K mg base f d ["left", "t", "things"] zaE:=zcK rfl λr ih=>zaP F sc10 rfl rfl λ_ _ _ _ _ _ hr=>(zad (zaI (zbM (zez rfl n_i rfl n_n dg (jv 0) (by decide) (by decide) (zqT _ (by simp)))) (zad (zbc (zbt (jv 2) (zaa (jv 1) zac)))
  (zah (zam zfF))) zav)
  (zad (zaI (zgm (zbM (zai (x9.zg r) hr rfl x9.zm x9.zk x9.zb (zaa (jv 0) (zaa (jv 1) zac))))) (zah (zam zfF)) zav)
  (zad (zbB (zjL rfl n_z (zcT (jv 0) (zaH zaf) zaL) (zcT (jv 1) (zaH zaf) zaL)) (zdG (zax (zao (i:=3) sc10.nd rfl (ai rfl)) (zax (zao (i:=4) sc10.nd rfl (ai rfl)) zcF)) (glS (glS gl0))) (zah (zaI (zgm (zbM (zai ih hr rfl m F.kp b (zaa (jv 3) (zaa (jv 4) (zaa (jv 2) zac)))))) (zah (zam zfF)) zav)))
  (zah (zam zfF)))))
theorem o11 (F:Fun K "matched" "matched" s11 f d) (x10:C10 P w K mg base):Ok P w K mg base f d ["left", "t"] zbS:=zcK rfl λr ih=>zaP F sc11 rfl rfl λ_ _ _ _ _ _ hr=>(zad (zan (i:=2) sc11.nd rfl (ai rfl) (zaC (zaJ zac)))
  (zad (zaI (zbM (zai (x10.zg r) hr rfl x10.zm x10.zk x10.zb (zaa (jv 0) (zaa (jv 1) (zaa (jv 2) zac))))) (zah (zam (jv 2))) zav)
  (zah (zam zcc))))
theorem o12 (F:Fun K "turning_of" "turning_of" s12 f d):Ok P w K mg base f d ["book", "title"] zaW:=zcK rfl λr ih=>zaP F sc12 rfl rfl λ_ _ _ _ _ _ hr=>(zad (zbB (zbk (jv 0)) (zao (i:=2) sc12.nd rfl (ai rfl)) (zah (zaI (zdV hr (zar (jv 2) zaf) (jv 1)) (zah (zam (jv 2))) zav)))
  (zah (zam zcc)))
theorem o13 (F:Fun K "only_small" "only_small" s13 f d) (x2:C2 P w K mg base) (yT:Ncl mg "TooGreat") (v_TooGreat:XcIn K "TooGreat" yT.xC):Ok P w K mg base f d ["shape"] zbf:=zcK rfl λr ih=>zaP F zAM rfl rfl λ_ _ _ _ _ _ hr=>(zad (zaI (zgm (zbM (zai (x2.zg r) hr rfl x2.zm x2.zk x2.zb (zaa (jv 0) zac)))) (zah (zfC v_TooGreat rfl yT.xm (zaa zgf zac))) zav)
  (zah (zam (jv 0))))
theorem o14 (F:Fun K "with_sides" "with_sides" s14 f d) (x12:C12 P w K mg base) (x8:C8 P w K mg base) (b:Binds K d ["book", "way", "side"] []) (m:mg "with_sides" =ae (.ref f)) (n_t:mg "tuple" =none):Ok P w K mg base f d ["book", "way", "side"] zbE:=zcK rfl λr ih=>zaP F sc14 rfl rfl λ_ _ _ _ _ _ hr=>(zad (zeS (i:=3) (N:=["inner", "book", "side"]) (k:=1) (fr:=[0,2]) sc14.nd rfl (ai rfl) ⟨rfl,by decide +kernel,rfl,rfl,rfl,rfl,rfl,rfl,rfl⟩ (zbk (zcT (jv 1) (zaH zaf) zaL)) (λ_ _ _ _=>(zao (i:=0) (show bp [("inner" :Str),("book" :Str),("side" :Str)] from by decide +kernel) rfl (ai rfl))) (λ_ _ _ _=>zbN) (λ_ _ _ _=>(zai ih hr rfl m F.kp b (zaa (jv 1) (zaa (jv 0) (zaa (jv 2) zac))))))
  (zad (zan (i:=4) sc14.nd rfl (ai rfl) (zai (x12.zg r) hr rfl x12.zm x12.zk x12.zb (zaa (jv 0) (zaa (zar (jv 1) zaf) zac))))
  (zad (zaI (zkJ (jv 4) zcc) (zah (zam (zbe (zat (zaa (zar (jv 1) zaf) zac)) (zdr rfl n_t (zaa (jv 3) zac))))) zav)
  (zah (zam (zai (x8.zg r) hr rfl x8.zm x8.zk x8.zb (zaa (zar (jv 4) (jv 2)) (zaa (jv 3) zac))))))))
theorem o15 (F:Fun K "source" "source" s15 f d) (x13:C13 P w K mg base) (x14:C14 P w K mg base) {t_LEFT:bg}(g_LEFT:mg "LEFT" =ae (.int 1 t_LEFT)):Ok P w K mg base f d ["book", "way"] zdt:=zcK rfl λr ih=>zaP F zAi rfl rfl λ_ _ _ _ _ _ hr=>(zah (zam (zai (x13.zg r) hr rfl x13.zm x13.zk x13.zb (zaa (zai (x14.zg r) hr rfl x14.zm x14.zk x14.zb (zaa (jv 0) (zaa (jv 1) (zaa (zdv rfl g_LEFT) zac)))) zac))))
theorem o16 (F:Fun K "goal" "goal" s16 f d) (x13:C13 P w K mg base) (x14:C14 P w K mg base) {t_RIGHT:bg}(g_RIGHT:mg "RIGHT" =ae (.int 2 t_RIGHT)):Ok P w K mg base f d ["book", "way"] zfK:=zcK rfl λr ih=>zaP F zAl rfl rfl λ_ _ _ _ _ _ hr=>(zah (zam (zai (x13.zg r) hr rfl x13.zm x13.zk x13.zb (zaa (zai (x14.zg r) hr rfl x14.zm x14.zk x14.zb (zaa (jv 0) (zaa (jv 1) (zaa (zdv rfl g_RIGHT) zac)))) zac))))
theorem o17 (F:Fun K "part_places" "part_places" s17 f d) (x12:C12 P w K mg base) (x7:C7 P w K mg base) (n_r:mg "range" =none) (n_l:mg "len" =none) {t_LEFT:bg}(g_LEFT:mg "LEFT" =ae (.int 1 t_LEFT)):Ok P w K mg base f d ["book", "way"] zbG:=zcK rfl λr ih=>zaP F sc17 rfl rfl λ_ _ _ _ _ _ hr=>(zad (zan (i:=2) sc17.nd rfl (ai rfl) (zai (x12.zg r) hr rfl x12.zm x12.zk x12.zb (zaa (jv 0) (zaa (zar (jv 1) zaf) zac))))
  (zad (zaI (zkJ (jv 2) zcc) (zah (zam (zaC (zdb (N:=["number"]) (k:=1) (fr:=[]) ⟨rfl,by decide +kernel,rfl,rfl,rfl,rfl,rfl,rfl,rfl⟩ (zew rfl n_r (zaa (zkb (zbr rfl n_l (zaa (jv 1) zac)) zaf) zac)) (λ_ _ _ _=>(zao (i:=0) (show bp [("number" :Str)] from by decide +kernel) rfl (ai rfl))) (λ_ _ _ _=>zbN) (λ_ _ _ _=>(zat (zaa (jv 0) zac))))))) zav)
  (zah (zam (zai (x7.zg r) hr rfl x7.zm x7.zk x7.zb (zaa (zar (jv 2) (zdv rfl g_LEFT)) zac))))))
theorem o18 (F:Fun K "open_turning" "open_turning" s18 f d) (x11:C11 P w K mg base) {t_LEFT:bg}(g_LEFT:mg "LEFT" =ae (.int 1 t_LEFT)):Ok P w K mg base f d ["book", "shape"] zby:=zcK rfl λr ih=>zaP F sc18 rfl rfl λ_ _ _ _ _ _ hr=>(zad (zbB (zbk (jv 0)) (zao (i:=2) sc18.nd rfl (ai rfl)) (zah (zaI (zgG (zai (x11.zg r) hr rfl x11.zm x11.zk x11.zb (zaa (zar (jv 2) (zdv rfl g_LEFT)) (zaa (jv 1) zac))) zcc) (zah (zam (jv 2))) zav)))
  (zah (zam zcc)))
theorem o19 (F:Fun K "gather_open" "gather_open" s19 f d) (x18:C18 P w K mg base) (b:Binds K d ["book", "shape", "place", "found"] []) (m:mg "gather_open" =ae (.ref f)) (n_e:mg "enumerate" =none):Ok P w K mg base f d ["book", "shape", "place", "found"] zbp:=zcK rfl λr ih=>zaP F sc19 rfl rfl λ_ _ _ _ _ _ hr=>(zad (zan (i:=4) sc19.nd rfl (ai rfl) (zai (x18.zg r) hr rfl x18.zm x18.zk x18.zb (zaa (jv 0) (zaa (jv 1) zac))))
  (zad (zaI (zgG (jv 4) zcc) (zah (zbc (zbt (jv 3) (zaa (zat (zaa (jv 2) (zaa (zar (jv 4) zaf) zac))) zac)))) zav)
  (zah (zbB (ziR rfl n_e (zcT (jv 1) (zaH zaf) zaL)) (zdG (zax (zao (i:=5) sc19.nd rfl (ai rfl)) (zax (zao (i:=6) sc19.nd rfl (ai rfl)) zcF)) (glS (glS gl0))) (zah (zbc (zai ih hr rfl m F.kp b (zaa (jv 0) (zaa (jv 6) (zaa (zbe (jv 2) (zat (zaa (jv 5) zac))) (zaa (jv 3) zac)))))))))))
theorem o20 (F:Fun K "open_uses" "open_uses" s20 f d) (x19:C19 P w K mg base):Ok P w K mg base f d ["book", "shape"] zcx:=zcK rfl λr ih=>zaP F sc20 rfl rfl λ_ _ _ _ _ _ hr=>(zad (zan (i:=2) sc20.nd rfl (ai rfl) (zaC (zaJ zac)))
  (zad (zbc (zai (x19.zg r) hr rfl x19.zm x19.zk x19.zb (zaa (jv 0) (zaa (jv 1) (zaa (zat zac) (zaa (jv 2) zac))))))
  (zah (zam (jv 2)))))
theorem o21 (F:Fun K "places_of" "places_of" s21 f d):Ok P w K mg base f d ["pairs"] zda:=zcK rfl λr ih=>zaP F zAr rfl rfl λ_ _ _ _ _ _ hr=>(zah (zam (zaC (zdb (N:=["pair"]) (k:=1) (fr:=[]) ⟨rfl,by decide +kernel,rfl,rfl,rfl,rfl,rfl,rfl,rfl⟩ (zbk (jv 0)) (λ_ _ _ _=>(zao (i:=0) (show bp [("pair" :Str)] from by decide +kernel) rfl (ai rfl))) (λ_ _ _ _=>zbN) (λ_ _ _ _=>(zar (jv 0) zaf))))))
theorem o22 (F:Fun K "turned_top" "turned_top" s22 f d) (x18:C18 P w K mg base) (x11:C11 P w K mg base) (n_t:mg "tuple" =none) {t_LEFT:bg}(g_LEFT:mg "LEFT" =ae (.int 1 t_LEFT)):Ok P w K mg base f d ["book", "shape"] zcM:=zcK rfl λr ih=>zaP F sc22 rfl rfl λ_ _ _ _ _ _ hr=>(zad (zan (i:=2) sc22.nd rfl (ai rfl) (zai (x18.zg r) hr rfl x18.zm x18.zk x18.zb (zaa (jv 0) (zaa (jv 1) zac))))
  (zah (zam (zbe (zat (zaa (zar (jv 2) zaf) zac)) (zdr rfl n_t (zaa (zai (x11.zg r) hr rfl x11.zm x11.zk x11.zb (zaa (zar (jv 2) (zdv rfl g_LEFT)) (zaa (jv 1) zac))) zac))))))
theorem o23 (F:Fun K "way_within" "way_within" s23 f d) (x22:C22 P w K mg base) (x17:C17 P w K mg base) (b:Binds K d ["book", "shape", "place", "wanted"] []) (m:mg "way_within" =ae (.ref f)) (n_z:mg "zip" =none) (n_t:mg "tuple" =none):Ok P w K mg base f d ["book", "shape", "place", "wanted"] zaV:=zcK rfl λr ih=>zaP F sc23 rfl rfl λ_ _ _ _ _ _ hr=>(zad (zan (i:=4) sc23.nd rfl (ai rfl) (zxw (zwz hr (jv 2) (jv 3)) (zai (x22.zg r) hr rfl x22.zm x22.zk x22.zb (zaa (jv 0) (zaa (jv 1) zac))) (jv 1)))
  (zad (zan (i:=5) sc23.nd rfl (ai rfl) (zaC (zaJ zac)))
  (zad (zbB (zjL rfl n_z (zai (x17.zg r) hr rfl x17.zm x17.zk x17.zb (zaa (jv 0) (zaa (jv 4) zac))) (zcT (jv 4) (zaH zaf) zaL)) (zdG (zax (zao (i:=6) sc23.nd rfl (ai rfl)) (zax (zao (i:=7) sc23.nd rfl (ai rfl)) zcF)) (glS (glS gl0))) (zah (zbc (zbt (jv 5) (zaa (zai ih hr rfl m F.kp b (zaa (jv 0) (zaa (jv 7) (zaa (zbe (jv 2) (jv 6)) (zaa (jv 3) zac))))) zac)))))
  (zah (zam (zbe (zat (zaa (zar (jv 4) zaf) zac)) (zdr rfl n_t (zaa (jv 5) zac))))))))
theorem o24 (F:Fun K "way_with" "way_with" s24 f d) (x23:C23 P w K mg base) (n_d:mg "dict" =none):Ok P w K mg base f d ["book", "shape", "places"] zdA:=zcK rfl λr ih=>zaP F zAQ rfl rfl λ_ _ _ _ _ _ hr=>(zah (zam (zai (x23.zg r) hr rfl x23.zm x23.zk x23.zb (zaa (jv 0) (zaa (jv 1) (zaa (zat zac) (zaa (zrR hr rfl n_d (zdb (N:=["place"]) (k:=1) (fr:=[]) ⟨rfl,by decide +kernel,rfl,rfl,rfl,rfl,rfl,rfl,rfl⟩ (zbk (jv 2)) (λ_ _ _ _=>(zao (i:=0) (show bp [("place" :Str)] from by decide +kernel) rfl (ai rfl))) (λ_ _ _ _=>zbN) (λ_ _ _ _=>(zat (zaa (jv 0) (zaa zfF zac)))))) zac)))))))
theorem o25 (F:Fun K "way_of" "way_of" s25 f d) (x21:C21 P w K mg base) (x24:C24 P w K mg base) (x20:C20 P w K mg base) (y_NoUse:Ncl mg "NoUse") (v_NoUse:XcIn K "NoUse" y_NoUse.xC):Ok P w K mg base f d ["book", "shape", "places"] zfk:=zcK rfl λr ih=>zaP F sc25 rfl rfl λ_ _ _ _ _ _ hr=>(zad (zan (i:=3) sc25.nd rfl (ai rfl) (zai (x21.zg r) hr rfl x21.zm x21.zk x21.zb (zaa (zai (x20.zg r) hr rfl x20.zm x20.zk x20.zb (zaa (jv 0) (zaa (jv 1) zac))) zac)))
  (zad (zbB (zbk (jv 2)) (zao (i:=4) sc25.nd rfl (ai rfl)) (zah (zaI (zsy hr (jv 4) (jv 3)) (zah (zfC v_NoUse rfl y_NoUse.xm (zaa zgf zac))) zav)))
  (zah (zam (zai (x24.zg r) hr rfl x24.zm x24.zk x24.zb (zaa (jv 0) (zaa (jv 1) (zaa (jv 2) zac))))))))
theorem o26 (F:Fun K "moved" "moved" s26 f d) (x12:C12 P w K mg base) (x8:C8 P w K mg base) (x11:C11 P w K mg base) (b:Binds K d ["book", "way", "other"] []) (m:mg "moved" =ae (.ref f)) (n_z:mg "zip" =none) (n_t:mg "tuple" =none) {t_RIGHT:bg}(g_RIGHT:mg "RIGHT" =ae (.int 2 t_RIGHT)) {t_LEFT:bg}(g_LEFT:mg "LEFT" =ae (.int 1 t_LEFT)):Ok P w K mg base f d ["book", "way", "other"] zcS:=zcK rfl λr ih=>zaP F sc26 rfl rfl λ_ _ _ _ _ _ hr=>(zad (zan (i:=3) sc26.nd rfl (ai rfl) (zai (x12.zg r) hr rfl x12.zm x12.zk x12.zb (zaa (jv 0) (zaa (zar (jv 1) zaf) zac))))
  (zad (zan (i:=4) sc26.nd rfl (ai rfl) (zai (x12.zg r) hr rfl x12.zm x12.zk x12.zb (zaa (jv 0) (zaa (zar (jv 2) zaf) zac))))
  (zad (zan (i:=5) sc26.nd rfl (ai rfl) (zcT (jv 1) (zaH zaf) zaL))
  (zad (zan (i:=6) sc26.nd rfl (ai rfl) (zcT (jv 2) (zaH zaf) zaL))
  (zad (zaI (JW.jt (zkQ (zkJ (jv 3) zcc) (zgR (zgG (jv 4) zcc)))) (zah (zan (i:=5) sc26.nd rfl (ai rfl) (zai (x11.zg r) hr rfl x11.zm x11.zk x11.zb (zaa (zar (jv 4) (zdv rfl g_LEFT)) (zaa (jv 1) zac))))) zav)
  (zad (zaI (JW.jt (zkQ (zgG (jv 3) zcc) (zgR (zkJ (jv 4) zcc)))) (zah (zan (i:=6) sc26.nd rfl (ai rfl) (zai (x11.zg r) hr rfl x11.zm x11.zk x11.zb (zaa (zar (jv 3) (zdv rfl g_LEFT)) (zaa (jv 2) zac))))) zav)
  (zad (zeS (i:=7) (N:=["inner", "outer", "book"]) (k:=2) (fr:=[0]) sc26.nd rfl (ai rfl) ⟨rfl,by decide +kernel,rfl,rfl,rfl,rfl,rfl,rfl,rfl⟩ (zjL rfl n_z (jv 5) (jv 6)) (λ_ _ _ _=>(zdG (zax (zao (i:=0) (show bp [("inner" :Str),("outer" :Str),("book" :Str)] from by decide +kernel) rfl (ai rfl)) (zax (zao (i:=1) (show bp [("inner" :Str),("outer" :Str),("book" :Str)] from by decide +kernel) rfl (ai rfl)) zcF)) (glS (glS gl0)))) (λ_ _ _ _=>zbN) (λ_ _ _ _=>(zai ih hr rfl m F.kp b (zaa (jv 2) (zaa (jv 0) (zaa (jv 1) zac))))))
  (zad (zaI (zkJ (jv 4) zcc) (zah (zam (zbe (zat (zaa (zar (jv 1) zaf) zac)) (zdr rfl n_t (zaa (jv 7) zac))))) zav)
  (zah (zam (zai (x8.zg r) hr rfl x8.zm x8.zk x8.zb (zaa (zar (jv 4) (zdv rfl g_RIGHT)) (zaa (jv 7) zac)))))))))))))
theorem o27 (F:Fun K "check_goals" "check_goals" s27 f d) (x16:C16 P w K mg base):Ok P w K mg base f d ["book", "ways"] zbq:=zcK rfl λr ih=>zaP F sc27 rfl rfl λ_ _ _ _ _ _ hr=>(zah (zbB (zbk (jv 1)) (zao (i:=2) sc27.nd rfl (ai rfl)) (zah (zbc (zai (x16.zg r) hr rfl x16.zm x16.zk x16.zb (zaa (jv 0) (zaa (jv 2) zac)))))))
theorem o28 (F:Fun K "moved_along" "moved_along" s28 f d) (x26:C26 P w K mg base) (x27:C27 P w K mg base):Ok P w K mg base f d ["book", "way", "ways"] zcm:=zcK rfl λr ih=>by
  refine zaP F sc28 rfl rfl λ_ _ _ _ _ _ hr=>?_;delta zch zbs zbx zbw zcg zck;delta zco;delta zch zbs zbx zbw zcg zck;exact(zad (zan (i:=3) sc28.nd rfl (ai rfl) (zaC (zaJ (zaa (jv 1) zac))))
  (zad (zbB (zbk (jv 2)) (zao (i:=4) sc28.nd rfl (ai rfl)) (zad (zan (i:=5) sc28.nd rfl (ai rfl) (zai (x26.zg r) hr rfl x26.zm x26.zk x26.zb (zaa (jv 0) (zaa (zar (jv 3) (zfh zaf)) (zaa (jv 4) zac)))))
  (zad (zbc (zai (x27.zg r) hr rfl x27.zm x27.zk x27.zb (zaa (jv 0) (zaa (zaC (zaJ (zaa (jv 5) zac))) zac))))
  (zah (zbc (zbt (jv 3) (zaa (jv 5) zac)))))))
  (zah (zam (jv 3)))))
theorem o29 (F:Fun K "grid" "grid" s29 f d) (x13:C13 P w K mg base) (x27:C27 P w K mg base) (x28:C28 P w K mg base) (x26:C26 P w K mg base) (n_s:mg "list" =none) (n_z:mg "zip" =none) (y_Apart:Ncl mg "Apart") (v_Apart:XcIn K "Apart" y_Apart.xC):Ok P w K mg base f d ["book", "road", "other"] zkB:=zcK rfl λr ih=>by
  refine zaP F sc29 rfl rfl λ_ _ _ _ _ _ hr=>?_;delta zgE zec zeb zee zel zgF zfI zfH zfB zfu zfe zfb zfd;delta zgD;delta zgE zec zeb zee zel zgF zfI zfH zfB zfu zfe zfb zfd;exact(zad (zaI (zfY hr (zar (jv 1) zaf) (zar (jv 2) zaf)) (zah (zfC v_Apart rfl y_Apart.xm (zaa zgf zac))) zav)
  (zad (zbc (zai (x13.zg r) hr rfl x13.zm x13.zk x13.zb (zaa (zar (jv 1) zaf) zac)))
  (zad (zbc (zai (x27.zg r) hr rfl x27.zm x27.zk x27.zb (zaa (jv 0) (zaa (zar (jv 1) zaf) zac))))
  (zad (zbc (zai (x27.zg r) hr rfl x27.zm x27.zk x27.zb (zaa (jv 0) (zaa (zar (jv 2) zaf) zac))))
  (zad (zan (i:=3) sc29.nd rfl (ai rfl) (zaC (zaJ zac)))
  (zad (zan (i:=4) sc29.nd rfl (ai rfl) (zaC (zkV rfl n_s (zar (jv 2) zaf))))
  (zad (zan (i:=5) sc29.nd rfl (ai rfl) (zaC (zaJ (zaa (jv 4) zac))))
  (zad (zbB (zbk (zar (jv 1) zaf)) (zao (i:=6) sc29.nd rfl (ai rfl)) (zad (zan (i:=7) sc29.nd rfl (ai rfl) (zai (x28.zg r) hr rfl x28.zm x28.zk x28.zb (zaa (jv 0) (zaa (jv 6) (zaa (jv 4) zac)))))
  (zad (zeS (i:=4) (N:=["over", "down", "book"]) (k:=2) (fr:=[0]) sc29.nd rfl (ai rfl) ⟨rfl,by decide +kernel,rfl,rfl,rfl,rfl,rfl,rfl,rfl⟩ (zjL rfl n_z (jv 4) (jv 7)) (λ_ _ _ _=>(zdG (zax (zao (i:=0) (show bp [("over" :Str),("down" :Str),("book" :Str)] from by decide +kernel) rfl (ai rfl)) (zax (zao (i:=1) (show bp [("over" :Str),("down" :Str),("book" :Str)] from by decide +kernel) rfl (ai rfl)) zcF)) (glS (glS gl0)))) (λ_ _ _ _=>zbN) (λ_ _ _ _=>(zai (x26.zg r) hr rfl x26.zm x26.zk x26.zb (zaa (jv 2) (zaa (jv 0) (zaa (jv 1) zac))))))
  (zad (zbc (zbt (jv 3) (zaa (jv 7) zac)))
  (zah (zbc (zbt (jv 5) (zaa (jv 4) zac))))))))
  (zah (zam (zat (zaa (jv 3) (zaa (jv 5) zac)))))))))))))
theorem o30 (F:Fun K "last_downs" "last_downs" s30 f d):Ok P w K mg base f d ["downs_and_overs"] zcO:=zcK rfl λr ih=>zaP F zzX rfl rfl λ_ _ _ _ _ _ hr=>(zah (zam (zaC (zdb (N:=["line"]) (k:=1) (fr:=[]) ⟨rfl,by decide +kernel,rfl,rfl,rfl,rfl,rfl,rfl,rfl⟩ (zbk (zar (jv 0) zaf)) (λ_ _ _ _=>(zao (i:=0) (show bp [("line" :Str)] from by decide +kernel) rfl (ai rfl))) (λ_ _ _ _=>zbN) (λ_ _ _ _=>(zar (jv 0) (zfh zaf)))))))
theorem o31 (F:Fun K "valley" "valley" s31 f d) (x15:C15 P w K mg base) (x16:C16 P w K mg base) (x29:C29 P w K mg base) (x30:C30 P w K mg base) (y_Apart:Ncl mg "Apart") (v_Apart:XcIn K "Apart" y_Apart.xC):Ok P w K mg base f d ["book", "shape", "steps"] zeq:=zcK rfl λr ih=>zaP F sc31 rfl rfl λ_ _ _ _ _ _ hr=>(zad (zan (i:=3) sc31.nd rfl (ai rfl) (zat (zaa (jv 1) (zaa (zaC (zaJ zac)) zac))))
  (zad (zan (i:=4) sc31.nd rfl (ai rfl) (zat (zaa (jv 1) (zaa (zaC (zaJ zac)) zac))))
  (zad (zbB (zbk (jv 2)) (zdG (zax (zao (i:=5) sc31.nd rfl (ai rfl)) (zax (zao (i:=6) sc31.nd rfl (ai rfl)) zcF)) (glS (glS gl0))) (zad (zan (i:=7) sc31.nd rfl (ai rfl) (zai (x15.zg r) hr rfl x15.zm x15.zk x15.zb (zaa (jv 0) (zaa (jv 5) zac))))
  (zad (zan (i:=8) sc31.nd rfl (ai rfl) (zai (x16.zg r) hr rfl x16.zm x16.zk x16.zb (zaa (jv 0) (zaa (jv 5) zac))))
  (zad (zan (i:=9) sc31.nd rfl (ai rfl) (zxw (zbM (jv 6)) (jv 7) (jv 8)))
  (zad (zaI (zfY hr (jv 9) (zar (jv 4) zaf)) (zah (zfC v_Apart rfl y_Apart.xm (zaa zgf zac))) zav)
  (zah (zaI (zbM (jv 6)) (zad (zan (i:=10) sc31.nd rfl (ai rfl) (zai (x29.zg r) hr rfl x29.zm x29.zk x29.zb (zaa (jv 0) (zaa (zat (zaa (jv 7) (zaa (zaC (zaJ (zaa (jv 5) zac))) zac))) (zaa (jv 4) zac)))))
  (zad (zan (i:=3) sc31.nd rfl (ai rfl) (zat (zaa (jv 1) (zaa (zbe (zar (jv 3) zaf) (zai (x30.zg r) hr rfl x30.zm x30.zk x30.zb (zaa (jv 10) zac))) zac))))
  (zah (zan (i:=4) sc31.nd rfl (ai rfl) (zat (zaa (jv 8) (zaa (zar (zar (jv 10) zaf) (zfh zaf)) zac))))))) (zah (zan (i:=4) sc31.nd rfl (ai rfl) (zat (zaa (jv 7) (zaa (zaC (zpc (zaJ (zaa (jv 5) zac)) (zar (jv 4) zaf))) zac))))))))))))
  (zah (zam (zat (zaa (jv 3) (zaa (jv 4) zac))))))))
theorem o32 (F:Fun K "_law_cell" "_law_cell" s32 f d) (n_l:mg "len" =none):Ok P w K mg base f d ["script", "k"] zaG:=zcK rfl λr ih=>zaP F zAU rfl rfl λ_ _ _ _ _ _ hr=>(zad (zaI (zpx (jv 1) (zbr rfl n_l (zaa (jv 0) zac))) (zah (zam (zar (jv 0) (jv 1)))) zav)
  (zah (zam zaf)))
theorem o33 (F:Fun K "_law_words" "_law_words" s33 f d) (n_r:mg "range" =none) (n_l:mg "len" =none) (n_n:mg "int" =none):Ok P w K mg base f d ["one", "two", "great"] zbn:=zcK rfl λr ih=>zaP F sc33 rfl rfl λ_ _ _ _ _ _ hr=>(zad (zan (i:=3) sc33.nd rfl (cx rfl) zgf)
  (zad (zan (i:=4) sc33.nd rfl (ai rfl) (zce (jv 1) (zwQ zaf zaf)))
  (zad (zan (i:=5) sc33.nd rfl (cx rfl) (zaC (zaJ zac)))
  (zad (zbB (zew rfl n_r (zaa (zbe zaf (zce (jv 0) zaf)) zac)) (zao (i:=6) sc33.nd rfl (cx rfl)) (zad (zbc (zbt (jv 5) (zaa (zce (jv 4) zaf) zac)))
  (zah (zan (i:=4) sc33.nd rfl (ai rfl) (zcD (jv 4) zaf)))))
  (zad (zan (i:=7) sc33.nd rfl (cx rfl) (zce (zcD (jv 0) zaf) (zbr rfl n_l (zaa (jv 5) zac))))
  (zad (zan (i:=8) sc33.nd rfl (ai rfl) (zaC (zaJ zac)))
  (zad (zbB (zew rfl n_r (zaa zaf zac)) (zao (i:=6) sc33.nd rfl (cx rfl)) (zad (zan (i:=9) sc33.nd rfl (ai rfl) (zrW zgf (zdb (N:=["j", "signs", "base", "k", "at"]) (k:=1) (fr:=[3,5,6,7]) ⟨rfl,by decide +kernel,rfl,rfl,rfl,rfl,rfl,rfl,rfl⟩ (zew rfl n_r (zaa (zbr rfl n_l (zaa (jv 5) zac)) zac)) (λ_ _ _ _=>(zao (i:=0) (show bp [("j" :Str),("signs" :Str),("base" :Str),("k" :Str),("at" :Str)] from by decide +kernel) rfl (ai rfl))) (λ_ _ _ _=>zbN) (λ_ _ _ _=>(zar (jv 1) (zce (zbe (zar (jv 2) (jv 0)) (zte (jv 3) (zvc rfl n_n (zaa (znB hr (jv 0) (jv 4)) zac)))) zaf))))))
  (zad (zaI (zbM (jv 2)) (zah (zan (i:=9) sc33.nd rfl (ai rfl) (zbe (zrq (zar (jv 9) zaf)) (zcT (jv 9) (zaH zaf) zaL)))) zav)
  (zah (zbc (zbt (jv 8) (zaa (jv 9) zac)))))))
  (zad (zaI (JW.jt (zkQ (zdV hr (zce (zcD (jv 0) zaf) zaf) zaf) (zgR (zgm (zbM (jv 2)))))) (zah (zan (i:=8) sc33.nd rfl (ai rfl) (zaC (zlK (ztT (jv 8) zaL (zaH zaf)) (zaJ (zaa (zar (jv 8) zaf) (zaa (zar (jv 8) zaf) (zaa (zar (jv 8) zaf) zac)))))))) zav)
  (zah (zam (jv 8)))))))))))
theorem o34 (F:Fun K "_law_count" "_law_count" s34 f d) (b:Binds K d ["side"] []) (m:mg "_law_count" =ae (.ref f)) (n_i:mg "isinstance" =none) (n_n:mg "int" =none) (n_u:mg "sum" =none):Ok P w K mg base f d ["side"] zaB:=zcK rfl λr ih=>zaP F zAV rfl rfl λ_ _ _ _ _ _ hr=>(zad (zaI (zbM (zez rfl n_i rfl n_n dg (jv 0) (by decide) (by decide) (zqT _ (by simp)))) (zah (zam zaf)) zav)
  (zah (zam (zuN rfl n_u (zdb (N:=["one"]) (k:=1) (fr:=[]) ⟨rfl,by decide +kernel,rfl,rfl,rfl,rfl,rfl,rfl,rfl⟩ (zbk (zcT (jv 0) (zaH zaf) zaL)) (λ_ _ _ _=>(zao (i:=0) (show bp [("one" :Str)] from by decide +kernel) rfl (ai rfl))) (λ_ _ _ _=>zbN) (λ_ _ _ _=>(zai ih hr rfl m F.kp b (zaa (jv 0) zac))))))))
theorem o35 (F:Fun K "_law_filled" "_law_filled" s35 f d) (b:Binds K d ["side", "things"] []) (m:mg "_law_filled" =ae (.ref f)) (n_i:mg "isinstance" =none) (n_n:mg "int" =none) (n_t:mg "tuple" =none):Ok P w K mg base f d ["side", "things"] zbd:=zcK rfl λr ih=>zaP F zAf rfl rfl λ_ _ _ _ _ _ hr=>(zad (zaI (zbM (zez rfl n_i rfl n_n dg (jv 0) (by decide) (by decide) (zqT _ (by simp)))) (zah (zam (zar (jv 1) (jv 0)))) zav)
  (zah (zam (zbe (zcT (jv 0) zaL (zaH zaf)) (zke rfl n_t (zdb (N:=["one", "things"]) (k:=1) (fr:=[1]) ⟨rfl,by decide +kernel,rfl,rfl,rfl,rfl,rfl,rfl,rfl⟩ (zbk (zcT (jv 0) (zaH zaf) zaL)) (λ_ _ _ _=>(zao (i:=0) (show bp [("one" :Str),("things" :Str)] from by decide +kernel) rfl (ai rfl))) (λ_ _ _ _=>zbN) (λ_ _ _ _=>(zai ih hr rfl m F.kp b (zaa (jv 0) (zaa (jv 1) zac))))))))))
theorem o36 (F:Fun K "_law_item" "_law_item" s36 f d):Ok P w K mg base f d ["draw", "many", "w"] zcG:=zcK rfl λr ih=>zaP F zAL rfl rfl λ_ _ _ _ _ _ hr=>(zad (zaI (JW.jt (zkQ (zlx (jv 1) zaf) (zgR (zlx (zce (jv 0) zaf) zaf)))) (zah (zam (zce (zcD (jv 0) zaf) (jv 1)))) zav)
  (zah (zam (zat (zaa (zar (jv 2) (zmS (zaJ (zaa zaf (zaa zaf zac))) (zce (zcD (jv 0) zaf) zaf))) zac)))))
theorem o37 (F:Fun K "_law_right" "_law_right" s37 f d) (x36:C36 P w K mg base):Ok P w K mg base f d ["draw", "many", "w"] zcL:=zcK rfl λr ih=>zaP F sc37 rfl rfl λ_ _ _ _ _ _ hr=>(zad (zan (i:=3) sc37.nd rfl (ai rfl) (zai (x36.zg r) hr rfl x36.zm x36.zk x36.zb (zaa (zcD (jv 0) zaf) (zaa (jv 1) (zaa (jv 2) zac)))))
  (zad (zan (i:=4) sc37.nd rfl (ai rfl) (zai (x36.zg r) hr rfl x36.zm x36.zk x36.zb (zaa (zcD (jv 0) zaf) (zaa (jv 1) (zaa (jv 2) zac)))))
  (zad (zan (i:=5) sc37.nd rfl (ai rfl) (zce (jv 0) zaf))
  (zad (zaI (zdV hr (jv 5) zaf) (zah (zam (jv 3))) zav)
  (zad (zaI (JW.jt (zhO (zdV hr (jv 5) zaf) (zfE (zdV hr (jv 1) zaf)))) (zah (zam (zat (zaa (zar (jv 2) zaf) (zaa (jv 3) zac))))) zav)
  (zad (zaI (zdV hr (jv 5) zaf) (zah (zam (zat (zaa (zar (jv 2) zaf) (zaa (jv 3) (zaa (jv 4) zac)))))) zav)
  (zad (zaI (zdV hr (jv 5) zaf) (zah (zam (zat (zaa (zar (jv 2) zaf) (zaa (jv 3) (zaa (jv 3) zac)))))) zav)
  (zad (zaI (zdV hr (jv 5) zaf) (zah (zam (zat (zaa (zar (jv 2) zaf) (zaa (zat (zaa (zar (jv 2) zaf) (zaa (jv 3) zac))) (zaa (jv 4) zac)))))) zav)
  (zad (zaI (zdV hr (jv 5) zaf) (zah (zam (zat (zaa (zar (jv 2) zaf) (zaa (jv 3) zac))))) zav)
  (zah (zam (zat (zaa (zar (jv 2) zaf) (zaa (jv 3) (zaa (jv 4) zac)))))))))))))))
theorem o38 (F:Fun K "_law_lefts" "_law_lefts" s38 f d):Ok P w K mg base f d ["way", "head", "c", "d"] zcJ:=zcK rfl λr ih=>zaP F zAy rfl rfl λ_ _ _ _ _ _ hr=>(zad (zaI (zdV hr (jv 0) zaf) (zah (zam (zaC (zaJ (zaa (zat (zaa (jv 1) (zaa zaf zac))) zac))))) zav)
  (zad (zaI (zdV hr (jv 0) zaf) (zah (zam (zaC (zaJ (zaa (zat (zaa (jv 1) (zaa zaf (zaa zaf zac)))) zac))))) zav)
  (zad (zaI (zdV hr (jv 0) zaf) (zah (zam (zaC (zaJ (zaa (zat (zaa (jv 1) (zaa (zat (zaa (jv 2) zac)) zac))) (zaa (zat (zaa (jv 1) (zaa (zat (zaa (jv 3) (zaa zaf zac))) zac))) zac)))))) zav)
  (zad (zaI (zdV hr (jv 0) zaf) (zah (zam (zaC (zaJ (zaa (zat (zaa (jv 1) (zaa (zat (zaa (jv 2) zac)) (zaa zaf zac)))) (zaa (zat (zaa (jv 1) (zaa (zat (zaa (jv 3) (zaa zaf zac))) (zaa zaf zac)))) zac)))))) zav)
  (zad (zaI (zdV hr (jv 0) zaf) (zah (zam (zaC (zaJ (zaa (zat (zaa (jv 1) (zaa (zat (zaa (jv 3) (zaa (zat (zaa (jv 3) (zaa zaf zac))) zac))) (zaa zaf (zaa zaf zac))))) (zaa (zat (zaa (jv 1) (zaa (zat (zaa (jv 3) (zaa (zat (zaa (jv 2) zac)) zac))) (zaa zaf (zaa zaf zac))))) zac)))))) zav)
  (zah (zam (zaC (zaJ (zaa (zat (zaa (jv 1) zac)) zac))))))))))
theorem o39 (F:Fun K "_law_book" "_law_book" s39 f d) (x38:C38 P w K mg base) (x37:C37 P w K mg base) (x32:C32 P w K mg base) (x34:C34 P w K mg base) (n_r:mg "range" =none) (n_e:mg "enumerate" =none) (n_l:mg "len" =none):Ok P w K mg base f d ["script", "k", "w", "titles"] zcA:=zcK rfl λr ih=>zaP F sc39 rfl rfl λ_ _ _ _ _ _ hr=>(zad (zan (i:=4) sc39.nd rfl (ai rfl) (zaC (zaJ zac)))
  (zad (zbB (zew rfl n_r (zaa zaf zac)) (zao (i:=5) sc39.nd rfl (ai rfl)) (zad (zan (i:=6) sc39.nd rfl (ai rfl) (zai (x38.zg r) hr rfl x38.zm x38.zk x38.zb (zaa (zce (zai (x32.zg r) hr rfl x32.zm x32.zk x32.zb (zaa (jv 0) (zaa (zbe (jv 1) (jv 5)) zac))) zaf) (zaa (zar (jv 2) (jv 5)) (zaa (zar (jv 2) zaf) (zaa (zar (jv 2) zaf) zac))))))
  (zah (zbB (ziR rfl n_e (jv 6)) (zdG (zax (zao (i:=7) sc39.nd rfl (ai rfl)) (zax (zao (i:=8) sc39.nd rfl (ai rfl)) zcF)) (glS (glS gl0))) (zad (zan (i:=9) sc39.nd rfl (ai rfl) (zai (x37.zg r) hr rfl x37.zm x37.zk x37.zb (zaa (zai (x32.zg r) hr rfl x32.zm x32.zk x32.zb (zaa (jv 0) (zaa (zbe (zbe (zbe (jv 1) zaf) (zte zaf (jv 5))) (jv 7)) zac))) (zaa (zai (x34.zg r) hr rfl x34.zm x34.zk x34.zb (zaa (jv 8) zac)) (zaa (jv 2) zac)))))
  (zah (zbc (zbt (jv 4) (zaa (zat (zaa (zar (jv 3) (zbr rfl n_l (zaa (jv 4) zac))) (zaa (jv 8) (zaa (jv 9) zac)))) zac)))))))))
  (zah (zam (jv 4)))))
theorem o40 (F:Fun K "_law_plan" "_law_plan" s40 f d) (x34:C34 P w K mg base) (n_l:mg "len" =none) (n_m:mg "min" =none):Ok P w K mg base f d ["cells", "book", "w", "room"] zcy:=zcK rfl λr ih=>zaP F sc40 rfl rfl λ_ _ _ _ _ _ hr=>(zad (zan (i:=4) sc40.nd rfl (ai rfl) (zaC (zaJ zac)))
  (zad (zan (i:=5) sc40.nd rfl (ai rfl) zaf)
  (zad (zbB (zbk (jv 0)) (zao (i:=6) sc40.nd rfl (ai rfl)) (zad (zan (i:=7) sc40.nd rfl (ai rfl) (zce (jv 6) zaf))
  (zad (zan (i:=8) sc40.nd rfl (ai rfl) (zmS (zaJ (zaa zaf (zaa zaf (zaa zaf (zaa zaf zac))))) (zoU rfl n_m (zaa (jv 7) (zaa zaf zac)))))
  (zad (zan (i:=9) sc40.nd rfl (ai rfl) (zat (zaa (zfh zaf) (zaa zaf (zaa (zar (jv 2) (zmS (zaJ (zaa zaf (zaa zaf (zaa zaf (zaa zaf zac))))) (zoU rfl n_m (zaa (jv 7) (zaa zaf zac))))) zac)))))
  (zad (zaI (zlx (jv 7) zaf) (zad (zan (i:=10) sc40.nd rfl (ai rfl) (zce (zcD (jv 6) zaf) (zbr rfl n_l (zaa (jv 1) zac))))
  (zad (zan (i:=8) sc40.nd rfl (ai rfl) (zai (x34.zg r) hr rfl x34.zm x34.zk x34.zb (zaa (zar (zar (jv 1) (jv 10)) zaf) zac)))
  (zad (zan (i:=9) sc40.nd rfl (ai rfl) (zat (zaa (jv 10) (zaa (zce (zcD (jv 6) zaf) zaf) (zaa zgf zac)))))
  (zah (zan (i:=5) sc40.nd rfl (ai rfl) (zbe (jv 5) zaf)))))) zav)
  (zah (zaI (JW.jt (zkQ (zlx (jv 3) zaf) (zgR (zpx (jv 5) zaf)))) (zad (zan (i:=3) sc40.nd rfl (ai rfl) (zkb (jv 3) zaf))
  (zad (zan (i:=4) sc40.nd rfl (ai rfl) (zaC (zpc (zvW (zaJ (zaa (zat (zaa (zfh zaf) (zaa zaf (zaa (zar (jv 2) zaf) (zaa (zaC (zaJ zac)) zac))))) zac)) (zkb (jv 8) (zbr rfl n_l (zaa (jv 4) zac)))) (jv 4))))
  (zad (zan (i:=11) sc40.nd rfl (ai rfl) (zkb (zbr rfl n_l (zaa (jv 4) zac)) (jv 8)))
  (zah (zan (i:=4) sc40.nd rfl (ai rfl) (zaC (zlK (ztT (jv 4) zaL (zaH (jv 11))) (zaJ (zaa (zbe (jv 9) (zat (zaa (zcT (jv 4) (zaH (jv 11)) zaL) zac))) zac))))))))) zav)))))))
  (zad (zmG (zlx (zbr rfl n_l (zaa (jv 4) zac)) zaf) (zah (zan (i:=4) sc40.nd rfl (ai rfl) (zaC (zlK (ztT (jv 4) zaL (zaH (zfh zaf))) (zaJ (zaa (zat (zaa (zfh zaf) (zaa zaf (zaa (zar (jv 2) zaf) (zaa (zcT (jv 4) (zaH (zfh zaf)) zaL) zac))))) zac)))))))
  (zah (zam (zmS (zqa (jv 4) (zaJ (zaa (zat (zaa (zfh zaf) (zaa zaf (zaa (zar (jv 2) zaf) (zaa (zaC (zaJ zac)) zac))))) zac))) zaf)))))))
theorem o41 (F:Fun K "_law_way" "_law_way" s41 f d) (x35:C35 P w K mg base) (b:Binds K d ["plan", "book", "by"] []) (m:mg "_law_way" =ae (.ref f)) (n_t:mg "tuple" =none):Ok P w K mg base f d ["plan", "book", "by"] zcz:=zcK rfl λr ih=>zaP F sc41 rfl rfl λ_ _ _ _ _ _ hr=>(zad (zoT (jv 0) (zdG (zax (zao (i:=3) sc41.nd rfl (ai rfl)) (zax (zao (i:=4) sc41.nd rfl (ai rfl)) (zax (zao (i:=5) sc41.nd rfl (ai rfl)) (zax (zao (i:=6) sc41.nd rfl (ai rfl)) zcF)))) (glS (glS (glS (glS gl0))))))
  (zad (zeS (i:=7) (N:=["one", "book", "by"]) (k:=1) (fr:=[1,2]) sc41.nd rfl (ai rfl) ⟨rfl,by decide +kernel,rfl,rfl,rfl,rfl,rfl,rfl,rfl⟩ (zbk (jv 6)) (λ_ _ _ _=>(zao (i:=0) (show bp [("one" :Str),("book" :Str),("by" :Str)] from by decide +kernel) rfl (ai rfl))) (λ_ _ _ _=>zbN) (λ_ _ _ _=>(zai ih hr rfl m F.kp b (zaa (jv 0) (zaa (jv 1) (zaa (jv 2) zac))))))
  (zad (zaI (zpx (jv 3) zaf) (zah (zam (zbe (zat (zaa (jv 5) zac)) (zdr rfl n_t (zaa (jv 7) zac))))) zav)
  (zad (zaI (zdV hr (zce (zcD (jv 4) (jv 2)) zaf) zaf) (zah (zam (zbe (zat (zaa (zar (zar (jv 1) (jv 3)) zaf) zac)) (zdr rfl n_t (zaa (jv 7) zac))))) zav)
  (zah (zam (zai (x35.zg r) hr rfl x35.zm x35.zk x35.zb (zaa (zar (zar (jv 1) (jv 3)) zaf) (zaa (jv 7) zac)))))))))
theorem o42 (F:Fun K "_law_made" "_law_made" s42 f d) (b:Binds K d ["book", "way", "which"] []) (m:mg "_law_made" =ae (.ref f)) (x35:C35 P w K mg base) (n_t:mg "tuple" =none):Ok P w K mg base f d ["book", "way", "which"] zaM:=zcK rfl λr ih=>zaP F sc42 rfl rfl λ_ _ _ _ _ _ hr=>(zad (zeS (i:=3) (N:=["one", "book", "which"]) (k:=1) (fr:=[0,2]) sc42.nd rfl (ai rfl) ⟨rfl,by decide +kernel,rfl,rfl,rfl,rfl,rfl,rfl,rfl⟩ (zbk (zcT (jv 1) (zaH zaf) zaL)) (λ_ _ _ _=>(zao (i:=0) (show bp [("one" :Str),("book" :Str),("which" :Str)] from by decide +kernel) rfl (ai rfl))) (λ_ _ _ _=>zbN) (λ_ _ _ _=>(zai ih hr rfl m F.kp b (zaa (jv 1) (zaa (jv 0) (zaa (jv 2) zac))))))
  (zad (zbB (zbk (jv 0)) (zao (i:=4) sc42.nd rfl (ai rfl)) (zah (zaI (zdV hr (zar (jv 4) zaf) (zar (jv 1) zaf)) (zah (zam (zai (x35.zg r) hr rfl x35.zm x35.zk x35.zb (zaa (zar (jv 4) (jv 2)) (zaa (jv 3) zac))))) zav)))
  (zah (zam (zbe (zcT (jv 1) zaL (zaH zaf)) (zdr rfl n_t (zaa (jv 3) zac)))))))
theorem o43 (F:Fun K "_law_parts" "_law_parts" s43 f d) (b:Binds K d ["side", "shape", "known"] []) (m:mg "_law_parts" =ae (.ref f)) (n_i:mg "isinstance" =none) (n_n:mg "int" =none) (n_z:mg "zip" =none) (n_l:mg "len" =none):Ok P w K mg base f d ["side", "shape", "known"] zbg:=zcK rfl λr ih=>zaP F sc43 rfl rfl λ_ _ _ _ _ _ hr=>(zad (zaI (zbM (zez rfl n_i rfl n_n dg (jv 0) (by decide) (by decide) (zqT _ (by simp)))) (zad (zaI (zfY hr (znf hr (jv 2) (jv 0) (jv 1)) (jv 1)) (zah (zam zcc)) zav)
  (zad (zvd hr (jv 2) (jv 0) (jv 1))
  (zah (zam (jv 2))))) zav)
  (zad (zaI (JW.jt (zhO (zfY hr (zar (jv 0) zaf) (zar (jv 1) zaf)) (zfE (zfY hr (zbr rfl n_l (zaa (jv 0) zac)) (zbr rfl n_l (zaa (jv 1) zac)))))) (zah (zam zcc)) zav)
  (zad (zbB (zjL rfl n_z (zcT (jv 0) (zaH zaf) zaL) (zcT (jv 1) (zaH zaf) zaL)) (zdG (zax (zao (i:=3) sc43.nd rfl (ai rfl)) (zax (zao (i:=4) sc43.nd rfl (ai rfl)) zcF)) (glS (glS gl0))) (zah (zaI (zkJ (zai ih hr rfl m F.kp b (zaa (jv 3) (zaa (jv 4) (zaa (jv 2) zac)))) zcc) (zah (zam zcc)) zav)))
  (zah (zam (jv 2))))))
theorem o44 (F:Fun K "_law_put" "_law_put" s44 f d) (b:Binds K d ["t", "place", "other"] []) (m:mg "_law_put" =ae (.ref f)):Ok P w K mg base f d ["t", "place", "other"] zcw:=zcK rfl λr ih=>zaP F sc44 rfl rfl λ_ _ _ _ _ _ hr=>(zad (zaI (zdV hr (jv 1) (zat zac)) (zah (zam (jv 2))) zav)
  (zad (zan (i:=3) sc44.nd rfl (ai rfl) (zbe (zar (jv 1) zaf) zaf))
  (zah (zam (zbe (zbe (zcT (jv 0) zaL (zaH (jv 3))) (zat (zaa (zai ih hr rfl m F.kp b (zaa (zar (jv 0) (jv 3)) (zaa (zcT (jv 1) (zaH zaf) zaL) (zaa (jv 2) zac)))) zac))) (zcT (jv 0) (zaH (zbe (jv 3) zaf)) zaL))))))
theorem o45 (F:Fun K "_law_places" "_law_places" s45 f d) (b:Binds K d ["t"] []) (m:mg "_law_places" =ae (.ref f)) (n_e:mg "enumerate" =none):Ok P w K mg base f d ["t"] zaF:=zcK rfl λr ih=>zaP F sc45 rfl rfl λ_ _ _ _ _ _ hr=>(zad (zan (i:=1) sc45.nd rfl (ai rfl) (zaC (zaJ (zaa (zat zac) zac))))
  (zad (zbB (ziR rfl n_e (zcT (jv 0) (zaH zaf) zaL)) (zdG (zax (zao (i:=2) sc45.nd rfl (cx rfl)) (zax (zao (i:=3) sc45.nd rfl (ai rfl)) zcF)) (glS (glS gl0))) (zah (zan (i:=1) sc45.nd rfl (ai rfl) (zaC (zqa (jv 1) (zdb (N:=["place", "i"]) (k:=1) (fr:=[2]) ⟨rfl,by decide +kernel,rfl,rfl,rfl,rfl,rfl,rfl,rfl⟩ (zbk (zai ih hr rfl m F.kp b (zaa (jv 3) zac))) (λ_ _ _ _=>(zao (i:=0) (show bp [("place" :Str),("i" :Str)] from by decide +kernel) rfl (ai rfl))) (λ_ _ _ _=>zbN) (λ_ _ _ _=>(zbe (zat (zaa (jv 1) zac)) (jv 0)))))))))
  (zah (zam (jv 1)))))
theorem o46 (F:Fun K "_law_at" "_law_at" s46 f d):Ok P w K mg base f d ["t", "place"] zcr:=zcK rfl λr ih=>zaP F sc46 rfl rfl λ_ _ _ _ _ _ hr=>(zad (zbB (zbk (jv 1)) (zao (i:=2) sc46.nd rfl (ai rfl)) (zah (zan (i:=0) sc46.nd rfl (ai rfl) (zar (jv 0) (zbe (jv 2) zaf)))))
  (zah (zam (jv 0))))
theorem o47 (F:Fun K "_law_back" "_law_back" s47 f d) (x45:C45 P w K mg base) (x43:C43 P w K mg base) (x44:C44 P w K mg base) (x46:C46 P w K mg base) (x34:C34 P w K mg base) (n_l:mg "len" =none) (n_r:mg "range" =none) (n_t:mg "tuple" =none):Ok P w K mg base f d ["book", "here", "cell", "c"] zdj:=zcK rfl λr ih=>zaP F sc47 rfl rfl λ_ _ _ _ _ _ hr=>(zad (zoT (zar (jv 0) (zce (jv 2) (zbr rfl n_l (zaa (jv 0) zac)))) (zdG (zax (zao (i:=4) sc47.nd rfl (ai rfl)) (zax (zao (i:=5) sc47.nd rfl (ai rfl)) (zax (zao (i:=6) sc47.nd rfl (ai rfl)) zcF))) (glS (glS (glS gl0)))))
  (zad (zan (i:=7) sc47.nd rfl (ai rfl) (zai (x45.zg r) hr rfl x45.zm x45.zk x45.zb (zaa (jv 1) zac)))
  (zad (zan (i:=8) sc47.nd rfl (ai rfl) (zar (jv 7) (zce (zcD (jv 2) zaf) (zbr rfl n_l (zaa (jv 7) zac)))))
  (zad (zan (i:=9) sc47.nd rfl (cx rfl) (zai (x43.zg r) hr rfl x43.zm x43.zk x43.zb (zaa (jv 6) (zaa (zai (x46.zg r) hr rfl x46.zm x46.zk x46.zb (zaa (jv 1) (zaa (jv 8) zac))) (zaa zuj zac)))))
  (zad (zaI (zkJ (jv 9) zcc) (zah (zam (jv 1))) zav)
  (zad (zeS (i:=10) (N:=["n", "parts", "c"]) (k:=1) (fr:=[9,3]) sc47.nd rfl (ai rfl) ⟨rfl,by decide +kernel,rfl,rfl,rfl,rfl,rfl,rfl,rfl⟩ (zew rfl n_r (zaa (zai (x34.zg r) hr rfl x34.zm x34.zk x34.zb (zaa (jv 5) zac)) zac)) (λ_ _ _ _=>(zao (i:=0) (show bp [("n" :Str),("parts" :Str),("c" :Str)] from by decide +kernel) rfl (ai rfl))) (λ_ _ _ _=>zbN) (λ_ _ _ _=>(znf hr (jv 1) (jv 0) (zat (zaa (jv 2) zac)))))
  (zah (zam (zai (x44.zg r) hr rfl x44.zm x44.zk x44.zb (zaa (jv 1) (zaa (jv 8) (zaa (zbe (zat (zaa (jv 4) zac)) (zdr rfl n_t (zaa (jv 10) zac))) zac))))))))))))
theorem o48 (F:Fun K "_law_on" "_law_on" s48 f d) (x25:C25 P w K mg base) (x20:C20 P w K mg base) (n_l:mg "len" =none):Ok P w K mg base f d ["book", "here", "cell"] zej:=zcK rfl λr ih=>zaP F sc48 rfl rfl λ_ _ _ _ _ _ hr=>(zad (zeS (i:=3) (N:=["one"]) (k:=1) (fr:=[]) sc48.nd rfl (ai rfl) ⟨rfl,by decide +kernel,rfl,rfl,rfl,rfl,rfl,rfl,rfl⟩ (zbk (zai (x20.zg r) hr rfl x20.zm x20.zk x20.zb (zaa (jv 0) (zaa (jv 1) zac)))) (λ_ _ _ _=>(zao (i:=0) (show bp [("one" :Str)] from by decide +kernel) rfl (ai rfl))) (λ_ _ _ _=>zbN) (λ_ _ _ _=>(zar (jv 0) zaf)))
  (zad (zaI (zdV hr (jv 3) (zaC (zaJ zac))) (zah (zam (jv 1))) zav)
  (zah (zam (zai (x25.zg r) hr rfl x25.zm x25.zk x25.zb (zaa (jv 0) (zaa (jv 1) (zaa (zaC (zaJ (zaa (zar (jv 3) (zce (jv 2) (zbr rfl n_l (zaa (jv 3) zac)))) zac))) zac))))))))
theorem o49 (F:Fun K "_law_winding" "_law_winding" s49 f d) (x48:C48 P w K mg base) (x42:C42 P w K mg base) (x47:C47 P w K mg base) (n_l:mg "len" =none):Ok P w K mg base f d ["book", "shape", "cells", "limit", "c"] zbP:=zcK rfl λr ih=>zaP F sc49 rfl rfl λ_ _ _ _ _ _ hr=>(zad (zan (i:=5) sc49.nd rfl (ai rfl) (zaC (zaJ zac)))
  (zad (zan (i:=6) sc49.nd rfl (ai rfl) (jv 1))
  (zad (zbB (zbk (jv 2)) (zao (i:=7) sc49.nd rfl (ai rfl)) (zah (zaI (zpx (zbr rfl n_l (zaa (jv 5) zac)) (jv 3)) (zad (zan (i:=8) sc49.nd rfl (ai rfl) (znB hr (zce (jv 7) zaf) zaf))
  (zad (zaI (zbM (jv 8)) (zad (zan (i:=9) sc49.nd rfl (ai rfl) (zai (x48.zg r) hr rfl x48.zm x48.zk x48.zb (zaa (jv 0) (zaa (jv 6) (zaa (zcD (jv 7) zaf) zac)))))
  (zah (zan (i:=6) sc49.nd rfl (ai rfl) (zai (x42.zg r) hr rfl x42.zm x42.zk x42.zb (zaa (jv 0) (zaa (jv 9) (zaa zaf zac))))))) (zad (zan (i:=9) sc49.nd rfl (ai rfl) (zai (x47.zg r) hr rfl x47.zm x47.zk x47.zb (zaa (jv 0) (zaa (jv 6) (zaa (zcD (jv 7) zaf) (zaa (jv 4) zac))))))
  (zah (zan (i:=6) sc49.nd rfl (ai rfl) (zai (x42.zg r) hr rfl x42.zm x42.zk x42.zb (zaa (jv 0) (zaa (jv 9) (zaa zaf zac))))))))
  (zah (zbc (zbt (jv 5) (zaa (zat (zaa (jv 9) (zaa (jv 8) zac))) zac)))))) zav)))
  (zah (zam (zat (zaa (jv 5) (zaa (jv 6) zac))))))))
theorem o50 (F:Fun K "_law_walked" "_law_walked" s50 f d) (x42:C42 P w K mg base) (n_i:mg "isinstance" =none) (n_t:mg "tuple" =none) (n_l:mg "len" =none) (n_s:mg "list" =none):Ok P w K mg base f d ["book", "road"] zbH:=zcK rfl λr ih=>by
  refine zaP F sc50 rfl rfl λ_ _ _ _ _ _ hr=>?_;delta zcs zbu zbV zcq zcn zcp;delta zcl;delta zcs zbu zbV zcq zcn zcp;exact(zad (zaI (JW.jt (zhO (zgm (zbM (zez rfl n_i rfl n_t fB (jv 1) (by decide) (by decide) (zqT _ (by simp))))) (zhO (zfY hr (zbr rfl n_l (zaa (jv 1) zac)) zaf) (zfE (zgm (zbM (zez rfl n_i rfl n_s i3 (zar (jv 1) zaf) (by decide) (by decide) (zqT _ (by simp))))))))) (zah (zam zcc)) zav)
  (zad (zan (i:=2) sc50.nd rfl (ai rfl) (zar (jv 1) zaf))
  (zad (zbB (zbk (zar (jv 1) zaf)) (zao (i:=3) sc50.nd rfl (ai rfl)) (zad (zaI (zfY hr (zai (x42.zg r) hr rfl x42.zm x42.zk x42.zb (zaa (jv 0) (zaa (jv 3) (zaa zaf zac)))) (jv 2)) (zah (zam zcc)) zav)
  (zah (zan (i:=2) sc50.nd rfl (ai rfl) (zai (x42.zg r) hr rfl x42.zm x42.zk x42.zb (zaa (jv 0) (zaa (jv 3) (zaa zaf zac))))))))
  (zah (zam (jv 2))))))
theorem o51 (F:Fun K "_law_closed" "_law_closed" s51 f d) (x50:C50 P w K mg base) (n_l:mg "len" =none) (n_i:mg "isinstance" =none) (n_t:mg "tuple" =none):Ok P w K mg base f d ["book", "shape", "steps", "last", "found"] zbJ:=zcK rfl λr ih=>zaP F sc51 rfl rfl λ_ _ _ _ _ _ hr=>(zad (zaI (JW.jt (zhO (zgm (zbM (zez rfl n_i rfl n_t fB (jv 4) (by decide) (by decide) (zqT _ (by simp))))) (zfE (zfY hr (zbr rfl n_l (zaa (jv 4) zac)) zaf)))) (zah (zam zfF)) zav)
  (zad (zan (i:=5) sc51.nd rfl (ai rfl) (zai (x50.zg r) hr rfl x50.zm x50.zk x50.zb (zaa (jv 0) (zaa (zar (jv 4) zaf) zac))))
  (zad (zaI (JW.jt (zhO (zkJ (jv 5) zcc) (zfE (zfY hr (jv 5) (zai (x50.zg r) hr rfl x50.zm x50.zk x50.zb (zaa (jv 0) (zaa (zar (jv 4) zaf) zac))))))) (zah (zam zfF)) zav)
  (zad (zaI (JW.jt (zhO (zfY hr (zar (zar (jv 4) zaf) zaf) (jv 1)) (zfE (zfY hr (zar (zar (jv 4) zaf) zaf) (jv 3))))) (zah (zam zfF)) zav)
  (zad (zan (i:=6) sc51.nd rfl (ai rfl) (zbr rfl n_l (zaa (zaC (zdb (N:=["step"]) (k:=1) (fr:=[]) ⟨rfl,by decide +kernel,rfl,rfl,rfl,rfl,rfl,rfl,rfl⟩ (zbk (jv 2)) (λ_ _ _ _=>(zao (i:=0) (show bp [("step" :Str)] from by decide +kernel) rfl (ai rfl))) (λ_ _ _ _=>(zpL (zbM (zar (jv 0) zaf)))) (λ_ _ _ _=>(jv 0)))) zac)))
  (zah (zam (ztb (znB hr (zbr rfl n_l (zaa (zar (zar (jv 4) zaf) zaf) zac)) (jv 6)) (zsO (znB hr (zbr rfl n_l (zaa (zar (zar (jv 4) zaf) zaf) zac)) (zkb (zbr rfl n_l (zaa (jv 2) zac)) (jv 6))))))))))))
theorem o52 (F:Fun K "law" "law" s52 f d) (x33:C33 P w K mg base) (x39:C39 P w K mg base) (x41:C41 P w K mg base) (x49:C49 P w K mg base) (x31:C31 P w K mg base) (x51:C51 P w K mg base) (x32:C32 P w K mg base) (x40:C40 P w K mg base) (n_s:mg "list" =none):Ok P w K mg base f d ["script"] zdD:=zcK rfl λr ih=>by
  refine zaP F sc52 rfl rfl λ_ _ _ _ _ _ hr=>?_;delta zdW zdu zdp zdM zdP zdJ zdO zdN zdI zeL zeJ zeU;exact(zad (zan (i:=1) sc52.nd rfl (ai rfl) (zai (x33.zg r) hr rfl x33.zm x33.zk x33.zb (zaa (zai (x32.zg r) hr rfl x32.zm x32.zk x32.zb (zaa (jv 0) (zaa zaf zac))) (zaa (zai (x32.zg r) hr rfl x32.zm x32.zk x32.zb (zaa (jv 0) (zaa zaf zac))) (zaa zfF zac)))))
  (zad (zan (i:=2) sc52.nd rfl (ai rfl) (zai (x33.zg r) hr rfl x33.zm x33.zk x33.zb (zaa (zai (x32.zg r) hr rfl x32.zm x32.zk x32.zb (zaa (jv 0) (zaa zaf zac))) (zaa (zai (x32.zg r) hr rfl x32.zm x32.zk x32.zb (zaa (jv 0) (zaa zaf zac))) (zaa zfF zac)))))
  (zad (zan (i:=3) sc52.nd rfl (ai rfl) (zai (x39.zg r) hr rfl x39.zm x39.zk x39.zb (zaa (jv 0) (zaa zaf (zaa (jv 1) (zaa (jv 2) zac))))))
  (zad (zan (i:=4) sc52.nd rfl (ai rfl) (zai (x41.zg r) hr rfl x41.zm x41.zk x41.zb (zaa (zai (x40.zg r) hr rfl x40.zm x40.zk x40.zb (zaa (zcT (jv 0) (zaH zaf) zaL) (zaa (jv 3) (zaa (jv 1) (zaa zaf zac))))) (zaa (jv 3) (zaa zaf zac)))))
  (zad (zoT (zai (x49.zg r) hr rfl x49.zm x49.zk x49.zb (zaa (jv 3) (zaa (jv 4) (zaa (zcT (jv 0) (zaH zaf) (zaH zaf)) (zaa zaf (zaa (zar (jv 1) zaf) zac)))))) (zdG (zax (zao (i:=5) sc52.nd rfl (ai rfl)) (zax (zao (i:=6) sc52.nd rfl (ai rfl)) zcF)) (glS (glS gl0))))
  (zad (zan (i:=7) sc52.nd rfl (ai rfl) (zaC (zkV rfl n_s (jv 5))))
  (zad (zan (i:=8) sc52.nd rfl (ai rfl) (zai (x31.zg r) hr rfl x31.zm x31.zk x31.zb (zaa (jv 3) (zaa (jv 4) (zaa (jv 7) zac)))))
  (zad (zaI (JW.jt (zhO (zfY hr (jv 7) (jv 5)) (zfE (zgm (zbM (zai (x51.zg r) hr rfl x51.zm x51.zk x51.zb (zaa (jv 3) (zaa (jv 4) (zaa (jv 5) (zaa (jv 6) (zaa (jv 8) zac))))))))))) (zah (zam zfF)) zav)
  (zad (zan (i:=9) sc52.nd rfl (ai rfl) (zaC (zkV rfl n_s (zar (zar (jv 8) zaf) zaf))))
  (zad (zbc (zbt (zar (zar (jv 8) zaf) zaf) (zaa (jv 4) zac)))
  (zad (zaI (zfY hr (zar (zar (jv 8) zaf) zaf) (jv 9)) (zah (zam zfF)) zav)
  (zah (zam (zai (x51.zg r) hr rfl x51.zm x51.zk x51.zb (zaa (jv 3) (zaa (jv 4) (zaa (jv 5) (zaa (jv 6) (zaa (zai (x31.zg r) hr rfl x31.zm x31.zk x31.zb (zaa (jv 3) (zaa (jv 4) (zaa (jv 5) zac)))) zac)))))))))))))))))))
end
theorem all_mk{l:iu}{w:aB}{K:aj}{h:Heap}{mg:Str→Option Value}{fa:Addr}(X:K.In h) (G:h.Ns aL mg) (hfa:mg "law" =ae (.ref fa))
  (D0:Dfn K "parts_of" s0)
  (D1:Dfn K "parts_of_all" s1)
  (D2:Dfn K "is_small" s2)
  (D4:Dfn K "places" s4)
  (D3:Dfn K "gather_places" s3)
  (D6:Dfn K "part" s6)
  (D5:Dfn K "numbered_part" s5)
  (D7:Dfn K "blank_places" s7)
  (D8:Dfn K "filled" s8)
  (D11:Dfn K "matched" s11)
  (D10:Dfn K "gather_matched" s10)
  (D9:Dfn K "have_one_top" s9)
  (D12:Dfn K "turning_of" s12)
  (D15:Dfn K "source" s15)
  (D16:Dfn K "goal" s16)
  (D13:Dfn K "only_small" s13)
  (D14:Dfn K "with_sides" s14)
  (D17:Dfn K "part_places" s17)
  (D20:Dfn K "open_uses" s20)
  (D19:Dfn K "gather_open" s19)
  (D18:Dfn K "open_turning" s18)
  (D21:Dfn K "places_of" s21)
  (D25:Dfn K "way_of" s25)
  (D24:Dfn K "way_with" s24)
  (D23:Dfn K "way_within" s23)
  (D22:Dfn K "turned_top" s22)
  (D26:Dfn K "moved" s26)
  (D29:Dfn K "grid" s29)
  (D28:Dfn K "moved_along" s28)
  (D27:Dfn K "check_goals" s27)
  (D30:Dfn K "last_downs" s30)
  (D31:Dfn K "valley" s31)
  (D32:Dfn K "_law_cell" s32)
  (D33:Dfn K "_law_words" s33)
  (D34:Dfn K "_law_count" s34)
  (D35:Dfn K "_law_filled" s35)
  (D36:Dfn K "_law_item" s36)
  (D37:Dfn K "_law_right" s37)
  (D38:Dfn K "_law_lefts" s38)
  (D39:Dfn K "_law_book" s39)
  (D40:Dfn K "_law_plan" s40)
  (D41:Dfn K "_law_way" s41)
  (D42:Dfn K "_law_made" s42)
  (D43:Dfn K "_law_parts" s43)
  (D44:Dfn K "_law_put" s44)
  (D45:Dfn K "_law_places" s45)
  (D46:Dfn K "_law_at" s46)
  (D47:Dfn K "_law_back" s47)
  (D48:Dfn K "_law_on" s48)
  (D49:Dfn K "_law_winding" s49)
  (D50:Dfn K "_law_walked" s50)
  (D51:Dfn K "_law_closed" s51)
  (D52:Dfn K "law" s52)
  (z_ValueError:aZ K aL "ValueError" =ae none)
  (z_d:aZ K aL "dict" =ae none)
  (z_e:aZ K aL "enumerate" =ae none)
  (z_n:aZ K aL "int" =ae none)
  (z_i:aZ K aL "isinstance" =ae none)
  (z_l:aZ K aL "len" =ae none)
  (z_s:aZ K aL "list" =ae none)
  (z_m:aZ K aL "min" =ae none)
  (z_r:aZ K aL "range" =ae none)
  (z_u:aZ K aL "sum" =ae none)
  (z_t:aZ K aL "tuple" =ae none)
  (z_z:aZ K aL "zip" =ae none)
  {t_MOST_HEAVY:bg}(z_MOST_HEAVY:aZ K aL "MOST_HEAVY" =ae (ae (.int 400 t_MOST_HEAVY)))
  {t_MOST_DEEP:bg}(z_MOST_DEEP:aZ K aL "MOST_DEEP" =ae (ae (.int 40 t_MOST_DEEP)))
  {t_LEFT:bg}(z_LEFT:aZ K aL "LEFT" =ae (ae (.int 1 t_LEFT)))
  {t_RIGHT:bg}(z_RIGHT:aZ K aL "RIGHT" =ae (ae (.int 2 t_RIGHT)))
  {C_Apart:Addr}(z_Apart:aZ K aL "Apart" =ae (ae (.ref C_Apart)))
  {C_NoPlace:Addr}(z_NoPlace:aZ K aL "NoPlace" =ae (ae (.ref C_NoPlace)))
  {C_NoUse:Addr}(z_NoUse:aZ K aL "NoUse" =ae (ae (.ref C_NoUse)))
  {C_TooGreat:Addr}(z_TooGreat:aZ K aL "TooGreat" =ae (ae (.ref C_TooGreat)))
  (za_Apart:eB K C_Apart bmV "ValueError.__new__" =true) (zb_Apart:bO K (.ref C_Apart) "__getattribute__" =ae (ae (.builtin "BaseException.__getattribute__"))) (zc_Apart:bO K (.ref C_Apart) "__getattr__" =ae none) (zd_Apart:bO K (.ref C_Apart) "__class__" =ae (ae (.builtin "object.__class__"))) (ze_Apart:cS K C_Apart (.type "object")=ae true) (zf_Apart:cS K C_Apart (.type "BaseException")=ae true)
  (za_NoPlace:eB K C_NoPlace bmV "ValueError.__new__" =true) (zb_NoPlace:bO K (.ref C_NoPlace) "__getattribute__" =ae (ae (.builtin "BaseException.__getattribute__"))) (zc_NoPlace:bO K (.ref C_NoPlace) "__getattr__" =ae none) (zd_NoPlace:bO K (.ref C_NoPlace) "__class__" =ae (ae (.builtin "object.__class__"))) (ze_NoPlace:cS K C_NoPlace (.type "object")=ae true) (zf_NoPlace:cS K C_NoPlace (.type "BaseException")=ae true)
  (za_NoUse:eB K C_NoUse bmV "ValueError.__new__" =true) (zb_NoUse:bO K (.ref C_NoUse) "__getattribute__" =ae (ae (.builtin "BaseException.__getattribute__"))) (zc_NoUse:bO K (.ref C_NoUse) "__getattr__" =ae none) (zd_NoUse:bO K (.ref C_NoUse) "__class__" =ae (ae (.builtin "object.__class__"))) (ze_NoUse:cS K C_NoUse (.type "object")=ae true) (zf_NoUse:cS K C_NoUse (.type "BaseException")=ae true)
  (za_TooGreat:eB K C_TooGreat bmV "ValueError.__new__" =true) (zb_TooGreat:bO K (.ref C_TooGreat) "__getattribute__" =ae (ae (.builtin "BaseException.__getattribute__"))) (zc_TooGreat:bO K (.ref C_TooGreat) "__getattr__" =ae none) (zd_TooGreat:bO K (.ref C_TooGreat) "__class__" =ae (ae (.builtin "object.__class__"))) (ze_TooGreat:cS K C_TooGreat (.type "object")=ae true) (zf_TooGreat:cS K C_TooGreat (.type "BaseException")=ae true)
  :∃fd:bC,(∀(s:ah) (v:Value),er s fd ⟨[v],[]⟩ [("script",v)])∧ ∀base:Heap,K.In base→base.Ns aL mg→FnOk l.prog w K mg base (CX1 l.prog w) 200 fa fd ["script"] (zcX K (zdD 200)):=by
 obtain⟨f52,d52,a52,F52⟩:=D52;have e:=hfa.symm.trans (bb X G a52);cases e;have n_ValueError:=b4 X G z_ValueError;have n_d:=b4 X G z_d;have n_e:=b4 X G z_e;have n_n:=b4 X G z_n;have n_i:=b4 X G z_i;have n_l:=b4 X G z_l;have n_s:=b4 X G z_s;have n_m:=b4 X G z_m;have n_r:=b4 X G z_r;have n_u:=b4 X G z_u;have n_t:=b4 X G z_t;have n_z:=b4 X G z_z;have g_MOST_HEAVY:=bb X G z_MOST_HEAVY;have g_MOST_DEEP:=bb X G z_MOST_DEEP;have g_LEFT:=bb X G z_LEFT;have g_RIGHT:=bb X G z_RIGHT;refine⟨d52,λs v=>?_,λbase _ _=>?_⟩
 ·obtain⟨oc,od,kV,doc,pm,an,cdv,ct,osl,rfl,lk,hcd⟩:=F52.ex;exact .of_eq rfl
 obtain⟨f,d,a,F⟩:=D0;have x0:=mkC (base:=base) X G F a (o0 (P:=l.prog) (w:=w) F n_i n_n) (F.binds λ_ _ _ _ _ _=>n1 λ_=>rfl);obtain⟨f,d,a,F⟩:=D1;have x1:=mkC (base:=base) X G F a (o1 (P:=l.prog) (w:=w) F x0) (F.binds λ_ _ _ _ _ _=>n1 λ_=>rfl);obtain⟨f,d,a,F⟩:=D2;have x2:=mkC (base:=base) X G F a (o2 (P:=l.prog) (w:=w) F x1 n_l g_MOST_HEAVY g_MOST_DEEP) (F.binds λ_ _ _ _ _ _=>n1 λ_=>rfl);obtain⟨f,d,a,F⟩:=D3;have x3:=mkC (base:=base) X G F a (o3 (P:=l.prog) (w:=w) F x0 (F.binds λ_ _ _ _ _ _=>n3 λ_ _ _=>rfl) (bb X G a) n_e) (F.binds λ_ _ _ _ _ _=>n3 λ_ _ _=>rfl);obtain⟨f,d,a,F⟩:=D4;have x4:=mkC (base:=base) X G F a (o4 (P:=l.prog) (w:=w) F x3) (F.binds λ_ _ _ _ _ _=>n1 λ_=>rfl);obtain⟨f,d,a,F⟩:=D5;have x5:=mkC (base:=base) X G F a (o5 (P:=l.prog) (w:=w) F x0 n_l ⟨C_NoPlace,bb X G z_NoPlace⟩ ⟨z_NoPlace,za_NoPlace,⟨zb_NoPlace,zc_NoPlace,zd_NoPlace,ze_NoPlace,zf_NoPlace⟩⟩) (F.binds λ_ _ _ _ _ _=>n2 λ_ _=>rfl);obtain⟨f,d,a,F⟩:=D6;have x6:=mkC (base:=base) X G F a (o6 (P:=l.prog) (w:=w) F x5) (F.binds λ_ _ _ _ _ _=>n2 λ_ _=>rfl);obtain⟨f,d,a,F⟩:=D7;have x7:=mkC (base:=base) X G F a (o7 (P:=l.prog) (w:=w) F x4 x6 n_i n_n) (F.binds λ_ _ _ _ _ _=>n1 λ_=>rfl);obtain⟨f,d,a,F⟩:=D8;have x8:=mkC (base:=base) X G F a (o8 (P:=l.prog) (w:=w) F (F.binds λ_ _ _ _ _ _=>n2 λ_ _=>rfl) (bb X G a) n_i n_n n_t) (F.binds λ_ _ _ _ _ _=>n2 λ_ _=>rfl);obtain⟨f,d,a,F⟩:=D9;have x9:=mkC (base:=base) X G F a (o9 (P:=l.prog) (w:=w) F n_l) (F.binds λ_ _ _ _ _ _=>n2 λ_ _=>rfl);obtain⟨f,d,a,F⟩:=D10;have x10:=mkC (base:=base) X G F a (o10 (P:=l.prog) (w:=w) F x9 (F.binds λ_ _ _ _ _ _=>n3 λ_ _ _=>rfl) (bb X G a) n_i n_n n_z) (F.binds λ_ _ _ _ _ _=>n3 λ_ _ _=>rfl);obtain⟨f,d,a,F⟩:=D11;have x11:=mkC (base:=base) X G F a (o11 (P:=l.prog) (w:=w) F x10) (F.binds λ_ _ _ _ _ _=>n2 λ_ _=>rfl);obtain⟨f,d,a,F⟩:=D12;have x12:=mkC (base:=base) X G F a (o12 (P:=l.prog) (w:=w) F) (F.binds λ_ _ _ _ _ _=>n2 λ_ _=>rfl);obtain⟨f,d,a,F⟩:=D13;have x13:=mkC (base:=base) X G F a (o13 (P:=l.prog) (w:=w) F x2 ⟨C_TooGreat,bb X G z_TooGreat⟩ ⟨z_TooGreat,za_TooGreat,⟨zb_TooGreat,zc_TooGreat,zd_TooGreat,ze_TooGreat,zf_TooGreat⟩⟩) (F.binds λ_ _ _ _ _ _=>n1 λ_=>rfl);obtain⟨f,d,a,F⟩:=D14;have x14:=mkC (base:=base) X G F a (o14 (P:=l.prog) (w:=w) F x12 x8 (F.binds λ_ _ _ _ _ _=>n3 λ_ _ _=>rfl) (bb X G a) n_t) (F.binds λ_ _ _ _ _ _=>n3 λ_ _ _=>rfl);obtain⟨f,d,a,F⟩:=D15;have x15:=mkC (base:=base) X G F a (o15 (P:=l.prog) (w:=w) F x13 x14 g_LEFT) (F.binds λ_ _ _ _ _ _=>n2 λ_ _=>rfl);obtain⟨f,d,a,F⟩:=D16;have x16:=mkC (base:=base) X G F a (o16 (P:=l.prog) (w:=w) F x13 x14 g_RIGHT) (F.binds λ_ _ _ _ _ _=>n2 λ_ _=>rfl);obtain⟨f,d,a,F⟩:=D17;have x17:=mkC (base:=base) X G F a (o17 (P:=l.prog) (w:=w) F x12 x7 n_r n_l g_LEFT) (F.binds λ_ _ _ _ _ _=>n2 λ_ _=>rfl);obtain⟨f,d,a,F⟩:=D18;have x18:=mkC (base:=base) X G F a (o18 (P:=l.prog) (w:=w) F x11 g_LEFT) (F.binds λ_ _ _ _ _ _=>n2 λ_ _=>rfl);obtain⟨f,d,a,F⟩:=D19;have x19:=mkC (base:=base) X G F a (o19 (P:=l.prog) (w:=w) F x18 (F.binds λ_ _ _ _ _ _=>n4 λ_ _ _ _=>rfl) (bb X G a) n_e) (F.binds λ_ _ _ _ _ _=>n4 λ_ _ _ _=>rfl);obtain⟨f,d,a,F⟩:=D20;have x20:=mkC (base:=base) X G F a (o20 (P:=l.prog) (w:=w) F x19) (F.binds λ_ _ _ _ _ _=>n2 λ_ _=>rfl);obtain⟨f,d,a,F⟩:=D21;have x21:=mkC (base:=base) X G F a (o21 (P:=l.prog) (w:=w) F) (F.binds λ_ _ _ _ _ _=>n1 λ_=>rfl);obtain⟨f,d,a,F⟩:=D22;have x22:=mkC (base:=base) X G F a (o22 (P:=l.prog) (w:=w) F x18 x11 n_t g_LEFT) (F.binds λ_ _ _ _ _ _=>n2 λ_ _=>rfl);obtain⟨f,d,a,F⟩:=D23;have x23:=mkC (base:=base) X G F a (o23 (P:=l.prog) (w:=w) F x22 x17 (F.binds λ_ _ _ _ _ _=>n4 λ_ _ _ _=>rfl) (bb X G a) n_z n_t) (F.binds λ_ _ _ _ _ _=>n4 λ_ _ _ _=>rfl);obtain⟨f,d,a,F⟩:=D24;have x24:=mkC (base:=base) X G F a (o24 (P:=l.prog) (w:=w) F x23 n_d) (F.binds λ_ _ _ _ _ _=>n3 λ_ _ _=>rfl);obtain⟨f,d,a,F⟩:=D25;have x25:=mkC (base:=base) X G F a (o25 (P:=l.prog) (w:=w) F x21 x24 x20 ⟨C_NoUse,bb X G z_NoUse⟩ ⟨z_NoUse,za_NoUse,⟨zb_NoUse,zc_NoUse,zd_NoUse,ze_NoUse,zf_NoUse⟩⟩) (F.binds λ_ _ _ _ _ _=>n3 λ_ _ _=>rfl);obtain⟨f,d,a,F⟩:=D26;have x26:=mkC (base:=base) X G F a (o26 (P:=l.prog) (w:=w) F x12 x8 x11 (F.binds λ_ _ _ _ _ _=>n3 λ_ _ _=>rfl) (bb X G a) n_z n_t g_RIGHT g_LEFT) (F.binds λ_ _ _ _ _ _=>n3 λ_ _ _=>rfl);obtain⟨f,d,a,F⟩:=D27;have x27:=mkC (base:=base) X G F a (o27 (P:=l.prog) (w:=w) F x16) (F.binds λ_ _ _ _ _ _=>n2 λ_ _=>rfl);obtain⟨f,d,a,F⟩:=D28;have x28:=mkC (base:=base) X G F a (o28 (P:=l.prog) (w:=w) F x26 x27) (F.binds λ_ _ _ _ _ _=>n3 λ_ _ _=>rfl);obtain⟨f,d,a,F⟩:=D29;have x29:=mkC (base:=base) X G F a (o29 (P:=l.prog) (w:=w) F x13 x27 x28 x26 n_s n_z ⟨C_Apart,bb X G z_Apart⟩ ⟨z_Apart,za_Apart,⟨zb_Apart,zc_Apart,zd_Apart,ze_Apart,zf_Apart⟩⟩) (F.binds λ_ _ _ _ _ _=>n3 λ_ _ _=>rfl);obtain⟨f,d,a,F⟩:=D30;have x30:=mkC (base:=base) X G F a (o30 (P:=l.prog) (w:=w) F) (F.binds λ_ _ _ _ _ _=>n1 λ_=>rfl);obtain⟨f,d,a,F⟩:=D31;have x31:=mkC (base:=base) X G F a (o31 (P:=l.prog) (w:=w) F x15 x16 x29 x30 ⟨C_Apart,bb X G z_Apart⟩ ⟨z_Apart,za_Apart,⟨zb_Apart,zc_Apart,zd_Apart,ze_Apart,zf_Apart⟩⟩) (F.binds λ_ _ _ _ _ _=>n3 λ_ _ _=>rfl);obtain⟨f,d,a,F⟩:=D32;have x32:=mkC (base:=base) X G F a (o32 (P:=l.prog) (w:=w) F n_l) (F.binds λ_ _ _ _ _ _=>n2 λ_ _=>rfl);obtain⟨f,d,a,F⟩:=D33;have x33:=mkC (base:=base) X G F a (o33 (P:=l.prog) (w:=w) F n_r n_l n_n) (F.binds λ_ _ _ _ _ _=>n3 λ_ _ _=>rfl);obtain⟨f,d,a,F⟩:=D34;have x34:=mkC (base:=base) X G F a (o34 (P:=l.prog) (w:=w) F (F.binds λ_ _ _ _ _ _=>n1 λ_=>rfl) (bb X G a) n_i n_n n_u) (F.binds λ_ _ _ _ _ _=>n1 λ_=>rfl);obtain⟨f,d,a,F⟩:=D35;have x35:=mkC (base:=base) X G F a (o35 (P:=l.prog) (w:=w) F (F.binds λ_ _ _ _ _ _=>n2 λ_ _=>rfl) (bb X G a) n_i n_n n_t) (F.binds λ_ _ _ _ _ _=>n2 λ_ _=>rfl);obtain⟨f,d,a,F⟩:=D36;have x36:=mkC (base:=base) X G F a (o36 (P:=l.prog) (w:=w) F) (F.binds λ_ _ _ _ _ _=>n3 λ_ _ _=>rfl);obtain⟨f,d,a,F⟩:=D37;have x37:=mkC (base:=base) X G F a (o37 (P:=l.prog) (w:=w) F x36) (F.binds λ_ _ _ _ _ _=>n3 λ_ _ _=>rfl);obtain⟨f,d,a,F⟩:=D38;have x38:=mkC (base:=base) X G F a (o38 (P:=l.prog) (w:=w) F) (F.binds λ_ _ _ _ _ _=>n4 λ_ _ _ _=>rfl);obtain⟨f,d,a,F⟩:=D39;have x39:=mkC (base:=base) X G F a (o39 (P:=l.prog) (w:=w) F x38 x37 x32 x34 n_r n_e n_l) (F.binds λ_ _ _ _ _ _=>n4 λ_ _ _ _=>rfl);obtain⟨f,d,a,F⟩:=D40;have x40:=mkC (base:=base) X G F a (o40 (P:=l.prog) (w:=w) F x34 n_l n_m) (F.binds λ_ _ _ _ _ _=>n4 λ_ _ _ _=>rfl);obtain⟨f,d,a,F⟩:=D41;have x41:=mkC (base:=base) X G F a (o41 (P:=l.prog) (w:=w) F x35 (F.binds λ_ _ _ _ _ _=>n3 λ_ _ _=>rfl) (bb X G a) n_t) (F.binds λ_ _ _ _ _ _=>n3 λ_ _ _=>rfl);obtain⟨f,d,a,F⟩:=D42;have x42:=mkC (base:=base) X G F a (o42 (P:=l.prog) (w:=w) F (F.binds λ_ _ _ _ _ _=>n3 λ_ _ _=>rfl) (bb X G a) x35 n_t) (F.binds λ_ _ _ _ _ _=>n3 λ_ _ _=>rfl);obtain⟨f,d,a,F⟩:=D43;have x43:=mkC (base:=base) X G F a (o43 (P:=l.prog) (w:=w) F (F.binds λ_ _ _ _ _ _=>n3 λ_ _ _=>rfl) (bb X G a) n_i n_n n_z n_l) (F.binds λ_ _ _ _ _ _=>n3 λ_ _ _=>rfl);obtain⟨f,d,a,F⟩:=D44;have x44:=mkC (base:=base) X G F a (o44 (P:=l.prog) (w:=w) F (F.binds λ_ _ _ _ _ _=>n3 λ_ _ _=>rfl) (bb X G a)) (F.binds λ_ _ _ _ _ _=>n3 λ_ _ _=>rfl);obtain⟨f,d,a,F⟩:=D45;have x45:=mkC (base:=base) X G F a (o45 (P:=l.prog) (w:=w) F (F.binds λ_ _ _ _ _ _=>n1 λ_=>rfl) (bb X G a) n_e) (F.binds λ_ _ _ _ _ _=>n1 λ_=>rfl);obtain⟨f,d,a,F⟩:=D46;have x46:=mkC (base:=base) X G F a (o46 (P:=l.prog) (w:=w) F) (F.binds λ_ _ _ _ _ _=>n2 λ_ _=>rfl);obtain⟨f,d,a,F⟩:=D47;have x47:=mkC (base:=base) X G F a (o47 (P:=l.prog) (w:=w) F x45 x43 x44 x46 x34 n_l n_r n_t) (F.binds λ_ _ _ _ _ _=>n4 λ_ _ _ _=>rfl);obtain⟨f,d,a,F⟩:=D48;have x48:=mkC (base:=base) X G F a (o48 (P:=l.prog) (w:=w) F x25 x20 n_l) (F.binds λ_ _ _ _ _ _=>n3 λ_ _ _=>rfl);obtain⟨f,d,a,F⟩:=D49;have x49:=mkC (base:=base) X G F a (o49 (P:=l.prog) (w:=w) F x48 x42 x47 n_l) (F.binds λ_ _ _ _ _ _=>n5 λ_ _ _ _ _=>rfl);obtain⟨f,d,a,F⟩:=D50;have x50:=mkC (base:=base) X G F a (o50 (P:=l.prog) (w:=w) F x42 n_i n_t n_l n_s) (F.binds λ_ _ _ _ _ _=>n2 λ_ _=>rfl);obtain⟨f,d,a,F⟩:=D51;have x51:=mkC (base:=base) X G F a (o51 (P:=l.prog) (w:=w) F x50 n_l n_i n_t) (F.binds λ_ _ _ _ _ _=>n5 λ_ _ _ _ _=>rfl);exact o52 F52 x33 x39 x41 x49 x31 x51 x32 x40 n_s 200
theorem walk{l:iu}{q:aE}{loose:List Str}{XP:(Str→Option Value)→Heap→Prop}{YP:aB→Heap→Prop}{d:DefRec}{K:fx→aj}(hn:l.most=ae 63) (hdf:d.params.defaults=[])
  (hY:∀(w:aB) (h:Heap),YP w h→(K w.params).In h)
  (F:∀(w:aB) (mg:Str→Option Value) (fa:Addr) (h:Heap),(K w.params).In h→h.Ns aL mg→mg d.name=ae (.ref fa)→
   ∃fd:bC,(∀(s:ah) (u:Value),er s fd ⟨[u],[]⟩ [("script",u)])∧ ∀base:Heap,(K w.params).In base→base.Ns aL mg→FnOk l.prog w (K w.params) mg base (CX1 l.prog w) 200 fa fd ["script"] (zcX (K w.params) (zdD 200))) :
  kj q loose XP YP l.row.toRowW d [] (λf vs=>gH f vs):=
 L2.zuA (n:=63) (k:=200) (x:= "script") (CX:=λw=>CX1 l.prog w) (sp:=λw=>zcX (K w.params) (zdD 200)) hn (by decide) hdf ⟨rfl,by decide,by decide⟩ hY F (λw H a ns hl hO hS=>zrK hO hS (zvD ns hl)) λ_ _ _ _ _ ⟨_,_,_,_,_,_,_,_,_,z⟩=>z
end K46
namespace PySem.W.Fast
def tw1002920440773863671:=Nat
def tw10056503605682126042:=Nat
def tw1005693271443438331:=Nat
def tw10080746852990014455:=Nat
def tw10083681107922138118:=Nat
def tw10161011268119542737:=Nat
def tw10183217673429534669:=Nat
def tw10347960576129896090:=Nat
def tw10356345617189368668:=Nat
def tw10383146626148742190:=Nat
def tw10409557593071779298:=Nat
def tw10429000437961740152:=Nat
def tw10431176696180972452:=Nat
def tw10440817150379301920:=Nat
def tw10462751388352251102:=Nat
def tw10469256356205247914:=Nat
def tw10492460082377049002:=Nat
def tw10695602599039333217:=Nat
def tw10704344933153859236:=Nat
def tw10730496539744795207:=Nat
def tw10775185913779661439:=Nat
def tw10782285970988568854:=Nat
def tw10831210280700052321:=Nat
def tw1119954052788056552:=Nat
def tw11219444307131099387:=Nat
def tw1122488862371762120:=Nat
def tw11285453521989182606:=Nat
def tw11450637903318232662:=Nat
def tw11607700270405974669:=Nat
def tw11635566291134849255:=Nat
def tw1177049408409066189:=Nat
def tw11777968285624743138:=Nat
def tw11778652715600502540:=Nat
def tw11819674965702566764:=Nat
def tw11858257962125059312:=Nat
def tw11909434038318647124:=Nat
def tw11975515096624518132:=Nat
def tw12187679671745256896:=Nat
def tw12277483254373676656:=Nat
def tw1227989777071185580:=Nat
def tw1230077574349797352:=Nat
def tw12381301757653075912:=Nat
def tw12418326324835372955:=Nat
def tw1247395621974213867:=Nat
def tw12614005810898767641:=Nat
def tw12688073896530262080:=Nat
def tw12753184490401147717:=Nat
def tw12911089710286705518:=Nat
def tw12952827947364542759:=Nat
def tw12954960997971740259:=Nat
def tw12955404181151848083:=Nat
def tw12966022613431503414:=Nat
def tw12985416039233155723:=Nat
def tw12987004689839227483:=Nat
def tw12998882826262869553:=Nat
def tw13051355562875796262:=Nat
def tw13054669067126004392:=Nat
def tw13068997454112084283:=Nat
def tw13340689716098684084:=Nat
def tw1338346819973479810:=Nat
def tw1345798523700730642:=Nat
def tw13465299327246539908:=Nat
def tw13540492115866757419:=Nat
def tw13641052410867304282:=Nat
def tw1366444013657816643:=Nat
def tw13712270637903377941:=Nat
def tw13931514253320398164:=Nat
def tw13969856190692348547:=Nat
def tw13976026729899361941:=Nat
def tw13977810777463139211:=Nat
def tw1411950028156312667:=Nat
def tw14161925992962182854:=Nat
def tw14353918136149093755:=Nat
def tw14528164235972579583:=Nat
def tw1464474370299462850:=Nat
def tw14665612895320966546:=Nat
def tw14746370177138699314:=Nat
def tw14877025025040091522:=Nat
def tw14878160342950910399:=Nat
def tw14939261195029997373:=Nat
def tw15016991957931745750:=Nat
def tw15028907822614027989:=Nat
def tw15038057602651295374:=Nat
def tw15069989434491295298:=Nat
def tw15135956188348990535:=Nat
def tw15140596646017094579:=Nat
def tw15149834969171111540:=Nat
def tw15213020410107736390:=Nat
def tw15248520676899881522:=Nat
def tw1526148759430216445:=Nat
def tw15336780214038411921:=Nat
def tw15412125766141049766:=Nat
def tw15461100224658313819:=Nat
def tw15554602678130062890:=Nat
def tw15566739661232055392:=Nat
def tw15645711668155226766:=Nat
def tw15744548752433141261:=Nat
def tw15775697576402534142:=Nat
def tw15825499097798172744:=Nat
def tw15859822071872614696:=Nat
def tw15981865646811061606:=Nat
def tw16033351867878467419:=Nat
def tw16057847547168938025:=Nat
def tw16107439173798677117:=Nat
def tw16308009005574292198:=Nat
def tw16311145797252138902:=Nat
def tw16316103716322709481:=Nat
def tw16339249896267745396:=Nat
def tw16340803639759695920:=Nat
def tw16371258528253034539:=Nat
def tw16407939626514095834:=Nat
def tw16433434825189875081:=Nat
def tw16444768769520286949:=Nat
def tw16558776979817361752:=Nat
def tw16598622086072486873:=Nat
def tw16693538681408368621:=Nat
def tw16747496620993548628:=Nat
def tw16856645399901720671:=Nat
def tw16895915580802608711:=Nat
def tw16922774084584250625:=Nat
def tw16964855801915573552:=Nat
def tw17044791701433084147:=Nat
def tw17074732801315110084:=Nat
def tw17123725916951126435:=Nat
def tw1715432982949617506:=Nat
def tw17158724351482643923:=Nat
def tw17198422763768436057:=Nat
def tw17244112885145701482:=Nat
def tw17332134454778187683:=Nat
def tw17467700108374097305:=Nat
def tw17476276755013713506:=Nat
def tw17601675639726911373:=Nat
def tw17607446589555656850:=Nat
def tw17636780377730369230:=Nat
def tw17707202847063485789:=Nat
def tw17764624552958781322:=Nat
def tw17812218049133999906:=Nat
def tw17823150300707896627:=Nat
def tw17969821041337686289:=Nat
def tw18070225607766984531:=Nat
def tw18091668153302670914:=Nat
def tw1809376432112181045:=Nat
def tw18120921410542017767:=Nat
def tw18341291173883100666:=Nat
def tw18412440841927049283:=Nat
def tw18439213406781640620:=Nat
def tw18549363857889357:=Nat
def tw1917467230142335245:=Nat
def tw2054232878399110078:=Nat
def tw2057732500942974443:=Nat
def tw2067849139002330659:=Nat
def tw2163840099487775336:=Nat
def tw2234971856970782110:=Nat
def tw2288635529736748608:=Nat
def tw2427145069906945400:=Nat
def tw2465446544681269243:=Nat
def tw2547123351564353127:=Nat
def tw2594770604867662787:=Nat
def tw261632331880919717:=Nat
def tw2619717958886586512:=Nat
def tw2880543391262669979:=Nat
def tw2940610747252494897:=Nat
def tw3197160002856742806:=Nat
def tw3299042088020968373:=Nat
def tw3324419286211850139:=Nat
def tw3480023317327762054:=Nat
def tw3623146556879785029:=Nat
def tw3856786016758362727:=Nat
def tw3872100189516922893:=Nat
def tw400725019308110520:=Nat
def tw4007940864642868808:=Nat
def tw4032560792854978983:=Nat
def tw4051573119547768584:=Nat
def tw4129674203198235599:=Nat
def tw4263115302280524878:=Nat
def tw4295500303212016986:=Nat
def tw4333339086950672029:=Nat
def tw4335461133429143877:=Nat
def tw4340179280769262672:=Nat
def tw4439693407852435835:=Nat
def tw4564967214133701656:=Nat
def tw4635424983590795599:=Nat
def tw4639464760701525123:=Nat
def tw4641707692485192580:=Nat
def tw4657003257794995740:=Nat
def tw4684851013946781481:=Nat
def tw485374131148916812:=Nat
def tw4928520143250837643:=Nat
def tw4974842194851754783:=Nat
def tw5027889393761648743:=Nat
def tw5102717361103706853:=Nat
def tw5233163971953312419:=Nat
def tw5318436594317698729:=Nat
def tw5467569699829084651:=Nat
def tw5643674467297021591:=Nat
def tw5680949909358600057:=Nat
def tw5707738470035016946:=Nat
def tw5909856347172295650:=Nat
def tw6015737350216438159:=Nat
def tw6114801039815140452:=Nat
def tw6156439418372337243:=Nat
def tw6195518166223780238:=Nat
def tw6319816530362069067:=Nat
def tw6341963455676372226:=Nat
def tw644679435231671658:=Nat
def tw6484648168765305056:=Nat
def tw6486801893487893329:=Nat
def tw6544809683454557930:=Nat
def tw655419081166631203:=Nat
def tw6571878055764965052:=Nat
def tw6821629415000649006:=Nat
def tw6987971150569238347:=Nat
def tw7038276439297360333:=Nat
def tw7044423646097687238:=Nat
def tw7103839496696229049:=Nat
def tw7340733716596706802:=Nat
def tw739115946664346366:=Nat
def tw7668100337545822666:=Nat
def tw7719037169350906630:=Nat
def tw783118123808975257:=Nat
def tw7843102372703540448:=Nat
def tw7861917305492940844:=Nat
def tw7890255717297515227:=Nat
def tw7893894704470202747:=Nat
def tw789443461967364441:=Nat
def tw7895154812558550002:=Nat
def tw7954498535415942503:=Nat
def tw8065998193598916225:=Nat
def tw8115036743743522107:=Nat
def tw8262916482473822823:=Nat
def tw8354859480461313573:=Nat
def tw8382774382913754122:=Nat
def tw840073151111018021:=Nat
def tw8462507904717731126:=Nat
def tw847419013829566559:=Nat
def tw8561333153892388436:=Nat
def tw8597958442873844987:=Nat
def tw8751346079422775347:=Nat
def tw878486867025343005:=Nat
def tw8799487803845822033:=Nat
def tw9095300648130125709:=Nat
def tw916073365245762541:=Nat
def tw9166367942821993253:=Nat
def tw9260262008463941229:=Nat
def tw9262923238385344256:=Nat
def tw9298957602966184939:=Nat
def tw9378053111758827898:=Nat
def tw9464395952286914825:=Nat
def tw9481473471215282578:=Nat
def tw9517169358190866344:=Nat
def tw9536361797103088399:=Nat
def tw9637066666553378559:=Nat
def tw9742338313126301563:=Nat
def tw9804092959961801836:=Nat
end PySem.W.Fast
open PySem PySem.W PyProof.Rows
set_option maxRecDepth 100000 in
set_option maxHeartbeats 0 in
theorem PySem.Challenge.cw_turnweave_k46_valleys_holds : PySem.Challenge.rw_turnweave_k46_valleys.Holds := by
 w_on;o_law;k_head;(case hw=>w_witness2)
 k_fill
 refine K46.walk (l:=PySem.Challenge.rw_turnweave_k46_valleys) rfl rfl (λw h Y=>PySem.W.kIn_of Y) ?F
 case F=>
  intro w mg fa h KX G hmg
  refine' K46.all_mk KX G hmg (K46.dfn ?_ ?_ ?_ ?_) (K46.dfn ?_ ?_ ?_ ?_) (K46.dfn ?_ ?_ ?_ ?_) (K46.dfn ?_ ?_ ?_ ?_) (K46.dfn ?_ ?_ ?_ ?_) (K46.dfn ?_ ?_ ?_ ?_) (K46.dfn ?_ ?_ ?_ ?_) (K46.dfn ?_ ?_ ?_ ?_) (K46.dfn ?_ ?_ ?_ ?_) (K46.dfn ?_ ?_ ?_ ?_) (K46.dfn ?_ ?_ ?_ ?_) (K46.dfn ?_ ?_ ?_ ?_) (K46.dfn ?_ ?_ ?_ ?_) (K46.dfn ?_ ?_ ?_ ?_) (K46.dfn ?_ ?_ ?_ ?_) (K46.dfn ?_ ?_ ?_ ?_) (K46.dfn ?_ ?_ ?_ ?_) (K46.dfn ?_ ?_ ?_ ?_) (K46.dfn ?_ ?_ ?_ ?_) (K46.dfn ?_ ?_ ?_ ?_) (K46.dfn ?_ ?_ ?_ ?_) (K46.dfn ?_ ?_ ?_ ?_) (K46.dfn ?_ ?_ ?_ ?_) (K46.dfn ?_ ?_ ?_ ?_) (K46.dfn ?_ ?_ ?_ ?_) (K46.dfn ?_ ?_ ?_ ?_) (K46.dfn ?_ ?_ ?_ ?_) (K46.dfn ?_ ?_ ?_ ?_) (K46.dfn ?_ ?_ ?_ ?_) (K46.dfn ?_ ?_ ?_ ?_) (K46.dfn ?_ ?_ ?_ ?_) (K46.dfn ?_ ?_ ?_ ?_) (K46.dfn ?_ ?_ ?_ ?_) (K46.dfn ?_ ?_ ?_ ?_) (K46.dfn ?_ ?_ ?_ ?_) (K46.dfn ?_ ?_ ?_ ?_) (K46.dfn ?_ ?_ ?_ ?_) (K46.dfn ?_ ?_ ?_ ?_) (K46.dfn ?_ ?_ ?_ ?_) (K46.dfn ?_ ?_ ?_ ?_) (K46.dfn ?_ ?_ ?_ ?_) (K46.dfn ?_ ?_ ?_ ?_) (K46.dfn ?_ ?_ ?_ ?_) (K46.dfn ?_ ?_ ?_ ?_) (K46.dfn ?_ ?_ ?_ ?_) (K46.dfn ?_ ?_ ?_ ?_) (K46.dfn ?_ ?_ ?_ ?_) (K46.dfn ?_ ?_ ?_ ?_) (K46.dfn ?_ ?_ ?_ ?_) (K46.dfn ?_ ?_ ?_ ?_) (K46.dfn ?_ ?_ ?_ ?_) (K46.dfn ?_ ?_ ?_ ?_) (K46.dfn ?_ ?_ ?_ ?_) ?_ ?_ ?_ ?_ ?_ ?_ ?_ ?_ ?_ ?_ ?_ ?_ ?_ ?_ ?_ ?_ ?_ ?_ ?_ ?_ ?_ ?_ ?_ ?_ ?_ ?_ ?_ ?_ ?_ ?_ ?_ ?_ ?_ ?_ ?_ ?_ ?_ ?_ ?_ ?_ ?_ ?_ ?_ ?_<;>first |k_is |kit_is | (dsimp only[List.map];kit_is) |kts_exm | (delta L2.bmV;k_exc) |skip
end
