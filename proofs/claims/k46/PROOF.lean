import PyProof.Rows.All
import Wide.All
import OpenK.AllK
import Wide.FinOn
import Lean
import PyProof.EqAt
import PyProof.EqKinds
import PyProof.TupleCall
import PyProof.FString
import PyProof.Rows.TupIter
import KE.KDictList
import PyProof.ZipIter
import PyProof.ListNew
import PyProof.RulesAssignMore
import PyProof.ReprRoads
import PyProof.FitsInt
import PyProof.Rows.Range3
import KE.KSortKey
import KE.KLam
import PyProof.CallFns
import PyProof.StrWalks
import KE.KIntText
import PyProof.ListStr
import PySem.Challenge.RW_rayround_k46_dots_walked
set_option maxRecDepth 100000
set_option linter.all false
set_option Elab.async false
set_option maxHeartbeats 4000000
local macro_rules|`(⋯)=>`(by lia)
noncomputable section
set_option bootstrap.genMatcherCode false
set_option genSizeOf false
set_option genSizeOfSpec false
set_option compiler.extract_closed false
open And renaming intro→mG
open Array renaming getElem?_toList→bw,length_toList→bD,perm_iff_toList_perm→bV,toList_append→cB,getElem?_eq_getElem→cO,getElem?_eq_some_iff→dg,getElem?_setIfInBounds_self_of_lt→dB,toList_extract→dG,size_push→dK,toList_inj→fC,forIn_toList→fG,toList_push→fY,toList_reverse→gz,getElem?_setIfInBounds_ne→iC,append_assoc→jj,getElem?_extract→kI,getElem?_push→mI
open Array.Perm renaming refl→lw
open Bool renaming false_eq_true→bz,and_eq_true→bE,false_ne_true→cG,not_true→fN,not_eq_true'→fW,not_eq_false'→jw,eq_iff_iff→k9,and_eq_true_iff→mv
open False renaming elim→gn
open Int renaming natAbs_mul→aW,mul_nonneg→bK,natAbs_ediv_le_natAbs→bZ,emod_lt_of_pos→cW,mul_le_mul_of_nonneg_left→dH,emod_nonneg→dL,mul_nonpos_of_nonneg_of_nonpos→ez,toNat_natCast→eN,mul_le_mul_of_nonneg_right→fF,gcd→fZ,emod_eq_of_lt→ge,mul_neg_of_pos_of_neg→gJ,natCast_pos→hU,natAbs_natCast→hZ,mul_pos→ii,natCast_ediv→iL,fmod_eq_emod_of_nonneg→jz,fdiv_eq_ediv_of_nonneg→jA,natAbs_neg→jC,natAbs_sub_le→jM,dvd_mul_of_dvd_right→j5,dvd_mul_of_dvd_left→kh,natCast_dvd_natCast→kj,le_ediv_iff_mul_le→kX,emod_emod_of_dvd→ma,one_mul→mh,neg_mul→mo,toNat_of_nonneg→mM,mul_comm→nB,mul_neg→nR
open List renaming getElem?_eq_getElem→aa,length_map→af,size_toArray→ah,getElem?_eq_some_iff→ar,mem_cons→ay,getD_eq_getElem?_getD→az,getElem?_append_left→aB,mem_cons_of_mem→aF,getElem?_append_right→aH,range→aI,map_cons→aK,getElem?_set_ne→aS,length_append→aT,mem_map→aV,mem_append_right→aX,getElem?_eq_none→a8,Nodup→a9,mem_append→be,getElem?_set_self→bf,getElem?_map→bn,length_cons→bv,replicate→bC,getElem_of_mem→bF,mem_range→bH,length_take→bN,cons_append→bO,not_mem_nil→bQ,mem_cons_self→bT,mem_singleton→bU,length_replicate→bW,map_map→bX,getElem?_eq_none_iff→bY,zipWith→cf,lookup_cons→cg,getElem_mem→cA,take_append_drop→cC,append_nil→cJ,take_of_length_le→cK,drop_eq_getElem_cons→cN,extract_eq_drop_take→cQ,append_assoc→cS,pairwise_map→cT,mem_of_getElem?→c7,getElem?_cons_succ→c8,all_eq_true→c9,reverse_cons→dc,map_append→dj,getElem?_take_of_lt→dD,Pairwise→mO,eq_nil_of_length_eq_zero→dE,filterMap_cons→dN,length_reverse→dO,drop_eq_nil_of_le→dQ,ext_getElem→d6,perm_append_comm→eE,nodup_cons→eI,length_set→eJ,ext_getElem?→eO,take_succ_eq_append_getElem→eS,map_congr_left→fz,length_drop→fA,getElem_map→fE,length_singleton→fR,getElem?_toArray→fU,nodup_append→fV,mem_append_left→gk,getElem_zipWith→gA,mem_of_mem_take→gB,of_mem_zip→gU,length_nil→gW,getElem?_drop→hW,findIdx?_eq_some_iff_getElem→il,length_range→ix,zipWith_cons_cons→iy,max?_eq_some_iff→iE,filter_cons→iI,mem_reverse→iK,mem_of_mem_drop→iV,mem_filter→iW,nil_append→iZ,length_pos_iff→i3,map_eq_nil_iff→i4,map_nil→i5,zip_cons_cons→jg,mem_replicate→ju,pairwise_cons→jy,pairwise_iff_getElem→jD,map_id→jP,getElem?_cons_zero→ke,take_length→kr,mem_flatMap→kz,getElem_cons_zero→kP,getElem_cons_succ→kR,find?_cons→kZ,length_zip→lA,min?_eq_some_iff→lG,getElem?_reverse→lI,singleton_append→lK,max?_eq_none_iff→lM,getElem_toArray→lY,drop_zero→lZ,take_zero→l9,reverse_zipWith→mq,max?→mE,toList_toArray→mJ,take_succ_cons→mL,all_map→nj,Perm→nY,length→nI
open List.Pairwise renaming imp_of_mem→fk,imp→jQ
open List.Perm renaming eq_of_pairwise→j3
open List.cons renaming injEq→gR
open Nat renaming le_refl→aj,lt_of_lt_of_le→am,ne_of_lt→aE,le_trans→aZ,ne_of_gt→bG,pow_le_pow_right→bI,lt_irrefl→b7,pos_of_ne_zero→b8,zero_le→cH,lt_of_le_of_lt→cI,lt_succ_iff_lt_or_eq→cU,lt_succ_self→dz,le_of_lt→dC,mul_le_mul→d9,zero_add→eQ,mul_le_mul_right→eU,sub_self→fI,add_assoc→fM,lt_succ_of_lt→fX,le_succ→gj,not_lt_of_le→gG,dvd_trans→gQ,min_eq_left→gY,div_le_self→hE,lcm→hO,lt_trans→ir,add_zero→iz,pow_succ→iB,dvd_mul_left→iM,gcd→i9,pow_add→jL,gcd_dvd_right→jO,le_of_dvd→j4,add_comm→kG,gcd_comm→kO,mul_ne_zero→lB,two_pow_pos→lE,eq_one_of_dvd_one→lL,min_self→nq,le_of_eq→nv,succ_mul→nD
open Ne renaming symm→cu
open Option renaming isSome_iff_exists→eV,isNone_iff_eq_none→gH,map_eq_some_iff→iq,getD_some→iJ,isSome_some→jt
open Option.some renaming injEq→aq,inj→aM
open Or renaming inl→dw,inr→lQ
open Prod renaming ext→db,fst→ny
open Prod.mk renaming injEq→mP
open PyProof.Rows renaming wpS_bind→au,wpS_pure→aA,Keyed→aJ,seqObj→aQ,SortSt→cx,callWith_type1→b9,wpS_forRange→cw,slot_tuple_getitem→fm,wpS_mono→fB,setPending→gq,wpS_modify→gu,failedOf→gP,get?_update_seq→gZ,IntsAre→io,listItems_at→iA,AllBare→iN,envOfC→iY,wpS_get→i8,assignInOrder_cons→jo,mirror→jX,reverseSlice'→jY,wpS_lift→j9,subscriptTail_builtinR→kE,pairsOf_size→kJ,size_push'→kM,wpS_reverse→l5,getElem?_mirror_all→mK,firstOfTuple'→mQ,setArr→mZ,tuples'→nu
open PyProof.Rows.SortSt renaming mk'→kH
open PySem renaming Value→ae,model→ao,starEach→av,Shared→aC,Builtin→dP,mainGlobals→aR,NameKind→dk,bootBuiltins→bL,cellsFrom→b6,Heap→nX,wpAny_newObj_type→cD,Program→cE,wpAny_field→cF,Around→cV,backTo→cR,wpAny_call_entry→cZ,World→c6,rawInt→da,sizeLine_eq→dh,assignEach→dq,wpAny_typeNameOfWhole_keyiter→dF,wpAny_truthy_bool→dI,codeAmong→dJ,wpAny_setField→d7,wpAny_passesOwn→eG,compareOp→eH,wpAny_typeNameOf_keyiter→fg,codeAny→fH,wpAny_specialOf→fJ,binaryOp→fK,importedModules→fL,swappedStores→fP,PassesOwn→fQ,keywordEach→gp,wpAny_isInstance→gE,TriplesOk→gF,behindInMarks→gM,letOwnedTupleGo→gS,builtinsNs→hV,wpAny_callSpecial?_slot→ib,sliceBounds→ic,tupleKeyHash→im,isSubtype_tuple_tuple→iD,wpAny_isOneOf_keyiter→iF,pyNext→iG,wpAny_forIn_list→iH,swapsWithSole→iO,attributeBase→iQ,FuncData→iS,bindArgs→iT,compTurn→iU,wpAny_execs_nil→iX,Keyword→i6,swapsWith→ja,pushCells→jc,cLine→jd,wpAny_tupleItemsOf→jf,sysModules→jh,Scope→ji,recursionLimit→jp,backToKw→jr,Thread→js,wpAny_fieldsOf→jv,wpAny_pyIter_list→jG,wpAny_pyIter_slot→jH,wpAny_dictEntries→jI,wpAny_attempt→jS,intBits_le_64→jV,wpAny_newList→jZ,denote→kF,wpAny_loadPart'→kY,pushCells_keeps→k7,wpAny_dictEpoch→lf,builtinLookup_eq_fast→lH,wpAny_intField→lN,Params→lR,newFunctionEnv→lX,BindsTo→my,callerA→mz,DictEntry→mA,treeTable→mC,noteFrame→mD,isInstance→mR,IsPart→mU,closureFor→mY,codeAny_mono→m5,wpAny_typeOf→m8,seqIndex_neg→m9,eqIsQuiet→nE,wpAny_throw→nH,seqIndex_of→nJ,unsupported→nM,leaving→nU,getItem→nV,ItemsOf→nW
open PySem.Around renaming frames_deeper→lP
open PySem.Builtin.Dict renaming showsAll→lJ
open PySem.Builtin.Int renaming intBits→gK
open PySem.Builtin.Iterators_pickling renaming intField→dX
open PySem.Builtin.List renaming listExtendWith→dR,listItems→dW,listTooLong→gN,listLengthHint→i7,listSameRef→jW,listUpdate→j8
open PySem.Builtin.Range renaming rangeSize→j7
open PySem.Builtin.Slice renaming slicePlaces→eF,sliceAdjust→gI,sliceApplied→jq
open PySem.Builtin.Tuple renaming tupleHashOf→cM,tupleExact→eY,tupleItemsOf→je
open PySem.Data renaming fields→lO,dict→mB
open PySem.EntryCells renaming newEntry→mH
open PySem.Heap renaming get?_push_size→aG,get?_update_other→aL,SameBut→gD,get?_update_self→dm,size_push→gf,ExtBut→ia,size_update→kc
open PySem.Heap.SameBut renaming update→fw
open PySem.NameKind renaming free→dZ,cell→ff
open PySem.Obj renaming mapSeq→aO,mapFields→dY,data_mapFields→d8,isFreed_of_fields→eD,cls_mapFields→jE
open PySem.SeqAt renaming EqAt→mS
open PySem.Str renaming ofString→bJ,empty→nG
open PySem.Value renaming ref→aU,type→bB,none→bS,builtin→jU,int→j6,str→mw,bool→mT
open PySem.W renaming boot_heap→eK,SharedT→fv,specialIn→ig,findIn→iu,takesIn→jF,stepOk→lS,mroIn→lU,looks_mroIn→lV,boot_drawn→mV,through→nh,stepT→ni,boot_toks→nF,clsIn→nK
open Rat renaming intCast_mul→aN,intCast_natCast→aY,mul_le_mul_of_nonneg_left→a7,normalize→bM,intCast_le_intCast→cL,mul_le_mul_of_nonneg_right→dA,intCast_pos→dM,le_of_mul_le_mul_right→eB,intCast_neg→eL,intCast_add→eM,mul_lt_mul_left→gL,natCast_pos→hG,le_refl→ik,intCast_nonpos→jB,num_normalize→jJ,den_normalize→jK,mul_pos→jN,intCast_eq_zero_iff→kq,intCast_lt_intCast→kW,intCast_sub→lC,intCast_inj→lD,mul_def→nN,neg_num→nO,neg_den→nQ
open Sum renaming inl→kC,inr→kD
open True renaming intro→eZ
open PySem PySem.Spec
theorem Qrf(h:0=0:=by rfl):True:=trivial
theorem Qde(h:0=0:=by decide):True:=trivial
theorem Qin(h:0=0:=by intro _;rfl):True:=trivial
noncomputable abbrev Fg:=PySem.W.Frag
noncomputable abbrev Vp:=ae->aC->Prop
noncomputable abbrev Pn:=List (Addr×Obj)
noncomputable abbrev Wb:=@wpAny_bind
noncomputable abbrev Hq:=@nX.get?_push_of_some
noncomputable abbrev Hz:=@nX.lt_size
noncomputable abbrev Wp:=@wpAny_pure
abbrev Gq:=@aa
namespace DQ
open PyProof.Rows
noncomputable def ZaA(A:cV)(h:Heap):Prop:=A.handled=none\/∃ea oe vs,A.handled=some (.ref ea)/\h.get? ea=some oe/\oe.data=.fields vs/\vs[2]?=some .none
theorem ZaA.keeps(q:ZaA A h)(k:∀b o,h.get? b=some o->h'.get? b=some o):ZaA A h':=by
 rcases q with q|⟨ea,oe,vs,e1,e2,e3,e4⟩
 .exact .inl q
 .exact .inr ⟨ea,oe,vs,e1,k _ _ e2,e3,e4⟩
theorem ZdF:entryFor table "proto.unchain"=some dP.«proto.unchain» :=entryFor_of_fast (by kernel_rfl)
theorem ZcI{Q:α->aC->Prop}(q:ZaA A s.heap)(he:s.heap.get? e=some oe)(hd:oe.data=.fields vs)(hz:2<vs.size)(h:∀h',(∀b o,b≠e->s.heap.get? b=some o->h'.get? b=some o)->(∃o,h'.get? e=some o/\o.cls=oe.cls)->E (.ref e) {s with heap:=h'}):wpAny (ao prog w) A (raiseNew (.ref e):Sem α) Q E s:=by
 have same:E (.ref e) s:=h s.heap (λ_ _ _ x=>x) ⟨oe,he,rfl⟩;unfold raiseNew;refine Wb (wpAny_handled ?_);rcases q with q|⟨ea,oa,ws,q1,q2,q3,q4⟩
 .rw[q];exact Wb (Wp (nH same))
 .rw[q1];dsimp only;by_cases c:(aU ea != aU e)=true
  .rw[if_pos c];refine Wb (wpAny_holding (wpAny_runValue (codeAny_builtin ZdF ?_)));unfold dP.«proto.unchain»;refine Wb (cF q2 q3 q4 ?_);refine Wb (Wp ?_);have sf:wpAny (ao prog w) A (setField (.ref e) 2 (.ref ea)) (λ_ s'=>wpAny (ao prog w) A (throw (aU e):Sem α) Q E s') E s:=by
    refine d7 he hd hz (nH (h _ (λb o hb x=>?_) ⟨_,dm _ he (eD (d8 hd _)),jE _ _⟩));rw[aL _ _ (cu hb)];exact x
   exact Wp (Wb sf)
  .rw[if_neg c];exact nH same
theorem Zea{K:ae->Sem β}{Q:β->aC->Prop}(q:ZaA A s.heap)(hK:∀e s' oe vs,ZaA A s'.heap->s'.heap.get? e=some oe->oe.data=.fields vs->2<vs.size->(∀h',(∀b o,b≠e->s'.heap.get? b=some o->h'.get? b=some o)->(∃o,h'.get? e=some o/\o.cls=oe.cls)->E (.ref e) {s' with heap:=h'})->wpAny (ao prog w) A (K (.ref e)) Q E s')(h:∀h' e,(∀b o,s.heap.get? b=some o->h'.get? b=some o)->(∃o,h'.get? e=some o/\o.cls=.type "StopIteration")->E (.ref e) {s with heap:=h'}):wpAny (ao prog w) A (newExc (.type "StopIteration") [] >>= K) Q E s:=by
 refine Wb ?_;simp only[newExc,newTuple];refine Wb (cD ?_ (by size_fits))
 refine Wb (m:=firstArgMember _ _) (wpAny_of_eq (a:=bS) (by first|rfl|(simp only[firstArgMember];rfl)) ?_)
 refine cD ?_ (by size_fits)
 refine hK _ _ _ _ (q.keeps λb o x=>Hq _ (Hq _ x)) (aG _ rfl) rfl (by rw[Array.size_append];exact am (by decide:2<6) (Nat.le_add_right _ _)) λh' k he=>?_
 exact h h' _ (λb o x=>k b o (aE (am (Hz x) (by rw[gf];exact gj _))) (Hq _ (Hq _ x))) he
theorem Zbm{Q:α->aC->Prop}(q:ZaA A s.heap)(h:∀h' e,(∀b o,s.heap.get? b=some o->h'.get? b=some o)->(∃o,h'.get? e=some o/\o.cls=.type "StopIteration")->E (.ref e) {s with heap:=h'}):wpAny (ao prog w) A (newExc (.type "StopIteration") [] >>= λx=>(raiseNew x:Sem α)) Q E s:=Zea q (λ_ _ _ _ q a b c d=>ZcI q a b c d) h
theorem Zl2(he:∃o,s.heap.get? e=some o/\o.cls=.type "StopIteration")(h:Q true s):wpAny (ao prog w) A (mR (.ref e) (.type "StopIteration")) Q E s:=
 let ⟨o,e1,e2⟩:=he
 gE (T:="StopIteration") (b:=true) ⟨o,e1,e2⟩ isSubtype_stop h
theorem ZaA.in1(q:ZaA A h):ZaA A.in1 h:=q
noncomputable def ZfF(it:Addr)(s:aC)(e:ae)(s':aC):Prop:=∃a,e=.ref a/\(∃o,s'.heap.get? a=some o/\o.cls=.type "StopIteration")/\∃h',ia it s.heap h'/\s'={s with heap:=h'}
theorem Zeb{id:String}(hT:s.TypeIs (.ref it) T)(sl:Slot T (bJ "__next__") id)(hb:entryFor table id=some b)(ha:argsOk id ⟨[.ref it],[]⟩)(h:wpAny (ao prog w) A.in1 (b ⟨[.ref it],[]⟩) (λ_ _=>False) (ZfF it s) s)(hQ:∀h',ia it s.heap h'->Q none {s with heap:=h'}):wpAny (ao prog w) A (iG (.ref it)) Q E s:=by
 unfold iG;refine Wb (jS (ib (name:=bJ "__next__") hT sl (cZ sl hT hb (wpAny_mono h (λ_ _ z=>z.elim) λe s' z=>?_) ha)));obtain⟨a,rfl,ho,h',eb,rfl⟩:=z;exact Wb (Zl2 ho (Wp (hQ h' eb)))
theorem Zg5{step:Int}(q:ZaA A s.heap)(hit:IsRangeIter s.heap it x left step)(hl:left<=0)(hQ:∀h',ia it s.heap h'->Q none {s with heap:=h'}):wpAny (ao prog w) A (iG (.ref it)) Q E s:=by
 refine Zeb ⟨_,hit,rfl⟩ F.slot_range_iterator_next F.entry_range_iterator_next (F.args_range_iterator_next_1 _) ?_ hQ;refine Wb (m:=field (.ref it) 0) (cF hit rfl (x:=da x) rfl ?_);refine Wb (m:=field (.ref it) 1) (cF hit rfl (x:=da left) rfl ?_);refine Wb (m:=field (.ref it) 2) (cF hit rfl (x:=da step) rfl ?_);dsimp only[da];rw[if_pos hl];refine Wb (wpAny_rule (Wb ?_));exact Zbm q.in1 λh' e k ho=>⟨e,rfl,ho,h',λb o _ z=>k b o z,rfl⟩
noncomputable abbrev Zl3(T:String)(h:Heap)(it:Addr)(x left:Int):Prop:=h.get? it=some {cls:=.type T,dict:=none,data:=.fields #[da x,da left,da 1],slots:= #[]}
theorem Zg6(hT:T="range_iterator"\/T="longrange_iterator")(hit:Zl3 T s.heap it x left)(hl:0<left)(hQ:∀h',Zl3 T h' it (x+1) (left-1)->gD it s.heap h'->Q (some (.int x s.toks)) {s with heap:=h',toks:=s.toks+1}):wpAny (ao prog w) A (iG (.ref it)) Q E s:=by
 rcases hT with rfl|rfl
 .exact wpAny_pyNext_range_item hit hl hQ
 .exact wpAny_pyNext_long_item hit hl hQ
theorem Zog(hT:T="range_iterator"\/T="longrange_iterator")(q:ZaA A s.heap)(hit:Zl3 T s.heap it x left)(hl:left<=0)(hQ:∀h',ia it s.heap h'->Q none {s with heap:=h'}):wpAny (ao prog w) A (iG (.ref it)) Q E s:=by
 rcases hT with rfl|rfl
 .exact Zg5 q hit hl hQ
 .refine Zeb ⟨_,hit,rfl⟩ F.slot_longrange_iterator_next F.entry_longrange_iterator_next (F.args_longrange_iterator_next_1 _) ?_ hQ;show wpAny _ _ (bound "longrange_iterator.__next__" ⟨[.ref it],[]⟩ >>= _) _ _ s;rw[bound_longnext];refine Wb (Wp ?_);refine Wb (m:=dX _ (.ref it) 0) (lN hit rfl rfl ?_);refine Wb (m:=dX _ (.ref it) 1) (lN hit rfl rfl ?_);refine Wb (m:=dX _ (.ref it) 2) (lN hit rfl rfl ?_);dsimp only;rw[if_pos hl];refine Wb (wpAny_rule ?_);exact Zea q.in1 (λ_ _ _ _ q a b c d=>Wb (ZcI q a b c d)) λh' e k ho=>⟨e,rfl,ho,h',λb o _ z=>k b o z,rfl⟩
theorem Zoh{i:Nat}(q:ZaA A s.heap)(ho:s.heap.get? it=some o)(hd:o.data=.fields #[.ref l,.int i 0])(hol:s.heap.get? l=some ol)(hdl:ol.data=.seq items n)(hx:items[i]?=none):wpAny (ao prog w) A.in1 (dP.«list_iterator.__next__» ⟨[.ref it],[]⟩) (λ_ _=>False) (ZfF it s) s:=by
 refine Wb (m:=field (.ref it) 0) (cF ho hd (x:=.ref l) rfl ?_);dsimp only;rw[if_neg (show ¬((aU l==bS)=true)from cG)];refine Wb (m:=field (.ref it) 1) (cF ho hd (x:=.int i 0) rfl ?_);refine Wb (m:=seqItems? (.ref l)) (wpAny_seqItems hol hdl ?_);simp only[eN,hx];refine Wb (wpAny_rule (Wb (d7 ho hd (by simp) ?_)))
 have q2:ZaA A.in1 (s.heap.update it (dY (·.setIfInBounds 0 bS))):=by
  rcases q with q|⟨ea,oe,vs,e1,e2,e3,e4⟩
  .exact .inl q
  .refine .inr ⟨ea,oe,vs,e1,?_,e3,e4⟩;rw[aL _ _ (λz=>?_)]
   .exact e2
   .rw[<-z,ho]at e2;cases e2;rw[hd]at e3;cases e3;simp at e4
 refine Zbm q2 λh' e k ho=>⟨e,rfl,ho,h',λb o hb z=>k b o ?_,rfl⟩;rw[aL _ _ (cu hb)];exact z
theorem Zoi{i:Nat}(q:ZaA A s.heap)(ho:s.heap.get? it=some o)(hd:o.data=.fields #[.ref l,.int i 0])(hol:s.heap.get? l=some ol)(hdl:ol.data=.seq items n)(hx:items[i]?=none):wpAny (ao prog w) A.in1 (dP.«tuple_iterator.__next__» ⟨[.ref it],[]⟩) (λ_ _=>False) (ZfF it s) s:=by
 refine Wb (m:=field (.ref it) 0) (cF ho hd (x:=.ref l) rfl ?_);dsimp only;rw[if_neg (show ¬((aU l==bS)=true)from cG)];refine Wb (m:=field (.ref it) 1) (cF ho hd (x:=.int i 0) rfl ?_);refine Wb (m:=seqItems? (.ref l)) (wpAny_seqItems hol hdl ?_);simp only[eN,hx];refine Wb (wpAny_rule (Wb (d7 ho hd (by simp) ?_)))
 have q2:ZaA A.in1 (s.heap.update it (dY (·.setIfInBounds 0 bS))):=by
  rcases q with q|⟨ea,oe,vs,e1,e2,e3,e4⟩
  .exact .inl q
  .refine .inr ⟨ea,oe,vs,e1,?_,e3,e4⟩;rw[aL _ _ (λz=>?_)]
   .exact e2
   .rw[<-z,ho]at e2;cases e2;rw[hd]at e3;cases e3;simp at e4
 refine Zbm q2 λh' e k ho=>⟨e,rfl,ho,h',λb o hb z=>k b o ?_,rfl⟩;rw[aL _ _ (cu hb)];exact z
theorem ZjG{items}(q:ZaA A s.heap)(hit:s.heap.IsListIter it l i)(hl:s.heap.IsList l items)(hx:items[i]?=none)(hQ:∀h',ia it s.heap h'->Q none {s with heap:=h'}):wpAny (ao prog w) A (iG (.ref it)) Q E s:=by
 obtain⟨o,ho,hc,hd⟩:=id hit;obtain⟨ol,hol,_,nl,hdl⟩:=hl;exact Zeb hit.typeIs slot_listiter_next entry_listiter_next (args_listiter_next _) (Zoh q ho hd hol hdl hx) hQ
theorem Zg7{items}(q:ZaA A s.heap)(hit:s.heap.IsTupleIter it l i)(hl:s.heap.IsTuple l items)(hx:items[i]?=none)(hQ:∀h',ia it s.heap h'->Q none {s with heap:=h'}):wpAny (ao prog w) A (iG (.ref it)) Q E s:=by
 obtain⟨o,ho,hc,hd⟩:=id hit;obtain⟨ol,hol,_,nl,hdl⟩:=hl;exact Zeb hit.typeIs F.slot_tuple_iterator_next F.entry_tuple_iterator_next (F.args_tuple_iterator_next_1 _) (Zoi q ho hd hol hdl hx) hQ
end DQ
namespace PySem
namespace NK
variable {prog:cE}{w:c6}{K:Type}[DecidableEq K](knd:KeyKind prog w K)
inductive ItemsT(h:Heap):List (List K)->List ae->Prop where
 |nil:ItemsT h [] []
 |cons {k:List K} {a:Addr} {ks:List (List K)} {vs:List ae}:IsTupleKey knd h k a->ItemsT h ks vs->ItemsT h (k::ks) (.ref a::vs)
noncomputable def Zaq(h:Heap)(ks:List (List K))(a:Addr):Prop:=∃o items n,h.get? a=some o/\o.cls=.type "tuple"/\o.data=.seq items n/\ItemsT knd h ks items.toList
variable {knd}
theorem ItemsT.inj{h:Heap}{x y:List (List K)}{vs:List ae}(hx:ItemsT knd h x vs):ItemsT knd h y vs->x=y:=by
 intro hy
 induction hx generalizing y with
 |nil=>cases hy;rfl
 |cons k1 _ ih=>
  cases hy with
  |cons k2 t=>rw[k1.inj k2,ih t]
theorem Zaq.typeIs{s:aC}{ks:List (List K)}{a:Addr}(x:Zaq knd s.heap ks a):s.TypeIs (.ref a) "tuple":=let ⟨o,_,_,ho,hc,_⟩:=x;⟨o,ho,hc⟩
theorem Zaq.inj{h:Heap}{a:Addr}{x y:List (List K)}(hx:Zaq knd h x a)(hy:Zaq knd h y a):x=y:=by
 obtain⟨o,i1,n1,e1,_,d1,q1⟩:=hx;obtain⟨o2,i2,n2,e2,_,d2,q2⟩:=hy;rw[e1]at e2;cases e2;rw[d1]at d2;cases d2;exact q1.inj q2
theorem ItemsT.keeps{h h':Heap}{ks:List (List K)}{vs:List ae}{d:Addr}{o:Obj}{es ep}(x:ItemsT knd h ks vs)(ho:h.get? d=some o)(hd:o.data=.dict es ep)(hs:gD d h h'):ItemsT knd h' ks vs:=by
 induction x with
 |nil=>exact .nil
 |cons k _ ih=>exact .cons (k.keeps ho hd hs) ih
theorem Zaq.keeps{h h':Heap}{ks:List (List K)}{a d:Addr}{o:Obj}{es ep}(x:Zaq knd h ks a)(ho:h.get? d=some o)(hd:o.data=.dict es ep)(hs:gD d h h'):Zaq knd h' ks a:=by
 obtain⟨o1,items,n,e1,c1,d1,q⟩:=x;have ne:a≠d:=by
  intro z;subst z;rw[e1]at ho;cases ho;rw[d1]at hd;cases hd
 exact⟨o1,items,n,by rw[hs.2 a ne];exact e1,c1,d1,q.keeps ho hd hs⟩
noncomputable def Zl4(knd:KeyKind prog w K)(ks:List (List K)):Int:=reduceHash (cM (ks.map (im knd)))
noncomputable def Zdk(ks:List (List K)):Nat:=(ks.map λk=>k.length+1).sum
variable {A:cV}{E:Vp}{s:aC}
theorem Zg8{ks:List (List K)}{a:Addr}{Q:Int->aC->Prop}(hu:A.units+1<jd)(hk:Zaq knd s.heap ks a)(h:Q (Zl4 knd ks) {s with toks:=s.toks+(Zdk ks+1)}):wpAny (ao prog w) A (pyHash (.ref a)) Q E s:=by
 have hT:=hk.typeIs;obtain⟨o,items,n,ho,_,hd,hi⟩:=hk;unfold pyHash
 first|unfold pyHashByItsType|skip
 first|refine Wb (wpAny_cRoomFor_or (.inr ⋯) ?_)|skip
 refine Wb (fJ hT F.slot_tuple_hash.lookup ?_);show wpAny _ _ (if(some (jU "tuple.__hash__")==some bS)=true then _ else _) Q E s
 rw[if_neg (by rw[beq_builtin_none];exact cG)]
 refine Wb (fJ hT F.slot_tuple_hash.lookup ?_);show wpAny _ _ (callSpecialIfBoundUnlessNone? (.ref a) "__hash__" _ >>= _) Q E s;refine Wb (wpAny_callSpecialIfBoundUnlessNone?_slot hT F.slot_tuple_hash (cZ F.slot_tuple_hash hT F.entry_tuple_hash ?_ (F.args_tuple_hash_1 _)));show wpAny _ _ (je (.ref a) >>= _) _ _ s;refine Wb (jf ho hd ?_);refine Wb ?_;rw[<-fG];refine iH _
  (λZae (b:Array Int) s'=>∃done left,ks=done++left/\ItemsT knd s.heap left Zae/\b.toList=done.map (im knd)/\s'={s with toks:=s.toks+Zdk done})
  _ ?_ ?_ _ _ ⟨[],ks,rfl,hi,rfl,rfl⟩
 .rintro x Zae b s' ⟨done,left,rfl,hl,hb,rfl⟩;cases hl with
  |@cons k a' ks' _ h1 hl'=>
   refine Wb (wpAny_pyHash_tuple (knd:=knd) (ks:=k) (s:={s with toks:=s.toks+Zdk done}) (by exact hu) h1 ?_)
   first
    |exact Wp ⟨done++[k],ks',by simp,hl',by simp[hb],by simp[Zdk,fM]⟩
    |exact Wb (Wp (Wp ⟨done++[k],ks',by simp,hl',by simp[hb],by simp[Zdk,fM]⟩))
 .rintro b s' ⟨done,left,rfl,hl,hb,rfl⟩;cases hl;rw[cJ]at h;show wpAny _ _ (retInt (cM b.toList)) _ _ _;rw[hb];refine wpAny_ret_mkInt ?_;show wpAny _ _ (if(decide (-(2:Int)^63<=cM (done.map (im knd)))&&decide (cM (done.map (im knd))<2^63))=true then _ else _) Q E _
  unfold Zl4 reduceHash at h;by_cases hr:(decide (-(2:Int)^63<=cM (done.map (im knd)))&&decide (cM (done.map (im knd))<2^63))=true
  .rw[if_pos hr];rw[if_pos hr]at h;exact Wp (by simpa [fM]using h)
  .rw[if_neg hr];rw[if_neg hr]at h;exact Wb (wpAny_rule (Wp (by simpa [fM]using h)))
theorem Zl5{x y:List (List K)}{a b:Addr}{P:Fin->aC->Prop}(hu:A.units<jd)(hx:Zaq knd s.heap x a)(hy:Zaq knd s.heap y b)(h:P (.done (.ret (.bool (decide (x=y))))) s):wpAny (ao prog w) A (dP.«tuple.__eq__» ⟨[.ref a,.ref b],[]⟩) P E s:=by
 have hTb:=hy.typeIs;obtain⟨oa,xs,na,hoa,_,hda,hia⟩:=hx;obtain⟨ob,ys,nb,hob,_,hdb,hib⟩:=hy;show wpAny _ _ (mR (.ref b) (.type "tuple") >>= _) _ _ s;refine Wb (gE hTb iD ?_);simp only[fN,bz,if_false];refine Wb (jf hoa hda ?_);refine Wb (jf hob hdb ?_);refine Wb ?_;refine iH _
  (λZae r s'=>r.1=none/\s'=s/\∃x' y' xs' ys',Zae=List.zip xs' ys'/\ItemsT knd s.heap x' xs'/\ItemsT knd s.heap y' ys'/\decide (x'=y')=decide (x=y)/\(xs'.length==ys'.length)=(xs.size==ys.size))
  _ ?_ ?_ _ _ ⟨rfl,rfl,x,y,xs.toList,ys.toList,rfl,hia,hib,rfl,by simp⟩
 .rintro⟨u,v⟩ Zae r s' ⟨hr,rfl,x',y',xs',ys',hz,hx',hy',hdec,hlen⟩;cases hx' with
  |nil=>simp at hz
  |@cons k1 u' x'' xs'' h1 hx''=>
   cases hy' with
   |nil=>simp at hz
   |@cons k2 v' y'' ys'' h2 hy''=>
    simp only[jg,gR,mP]at hz;obtain⟨⟨rfl,rfl⟩,rfl⟩:=hz;refine Wb (wpAny_eqBool_tuple (knd:=knd) (x:=k1) (y:=k2) hu h1 h2 ?_);by_cases hk:k1=k2
    .subst hk;rw[decide_eq_true rfl];simp only[fN,bz,if_false];refine Wp ⟨rfl,rfl,x'',y'',xs'',ys'',rfl,hx'',hy'',?_,by simpa using hlen⟩
     rw[<-hdec];by_cases hxy:x''=y''
     .simp[hxy]
     .simp[hxy]
    .rw[decide_eq_false hk];simp only[Bool.not_false,if_true];have hf:decide (x=y)=false:=by rw[<-hdec];simp[hk]
     rw[hf]at h;exact Wb (Wp (Wp (Wp h)))
 .rintro⟨r1,r2⟩ s' ⟨hr,rfl,x',y',xs',ys',hz,hx',hy',hdec,hlen⟩;simp only at hr;subst hr;refine Wp ?_;have hfin:(xs.size==ys.size)=decide (x=y):=by
   rw[<-hdec,<-hlen];cases hx' with
   |nil=>
    cases hy' with
    |nil=>simp
    |cons _ _=>simp
   |cons _ _=>
    cases hy' with
    |nil=>simp
    |cons _ _=>simp at hz
  show P (.done (.ret (.bool (xs.size==ys.size)))) s';rw[hfin];exact h
theorem Zl6{x y:List (List K)}{a b:Addr}{Q:Bool->aC->Prop}(hu:A.units+1<jd)(hx:Zaq knd s.heap x a)(hy:Zaq knd s.heap y b)(h:Q (decide (x=y)) s):wpAny (ao prog w) A (eqBool (.ref a) (.ref b)) Q E s:=by
 unfold eqBool
 try with_reducible refine wpAny_holding ?_
 show wpAny _ _ (if(aU a==aU b)=true then _ else _) Q E s
 by_cases hab:(aU a==aU b)=true
 .rw[if_pos hab];have e:a=b:=by have:=eq_of_beq hab;injection this
  subst e;obtain rfl:=hx.inj hy;exact Wb (wpAny_rule (Wp (by simpa using h)))
 .rw[if_neg hab];exact Wb (wpAny_richCompare_same_room (op:=.Eq) hx.typeIs hy.typeIs F.slot_tuple_eq
   (cZ F.slot_tuple_eq hx.typeIs F.entry_tuple_eq (Zl5 (by exact hu) hx hy ⟨_,rfl,(λe=>nomatch e),dI h⟩) (F.args_tuple_eq_2 _ _)) ⋯)
theorem Zg9{ks:List K}{a:Addr}{Q:Bool->aC->Prop}(m:Nat)(hk:IsTupleKey knd s.heap ks a)(h:Q true s):wpAny (ao prog w) A (nE (m+1) (.ref a)) Q E s:=by
 have hT:=hk.typeIs;obtain⟨o,items,n,ho,_,hd,hi⟩:=hk;unfold nE;refine Wb (fJ hT F.slot_tuple_eq.lookup ?_);show wpAny _ _ (mR (.ref a) (.type "tuple") >>= _) _ _ s;refine Wb (gE hT iD ?_);simp only[fN,bz,if_false];refine Wb (wpAny_seqItems ho hd ?_);refine Wb ?_;show wpAny _ _ (forIn items _ _) _ _ s;rw[<-fG];refine iH _ (λZae r s'=>r.1=none/\s'=s/\∀v∈Zae,carriedByValue v=true) _ ?_ ?_ _ _ ⟨rfl,rfl,hi.byValue⟩
 .rintro v Zae r s' ⟨hr,rfl,hall⟩;rw[eqIsQuiet_byValue _ (hall v bT)];refine Wb (Wp ?_);simp only[fN,bz,if_false];exact Wp ⟨rfl,rfl,λu hu'=>hall u (aF _ hu')⟩
 .rintro⟨r1,r2⟩ s' ⟨hr,rfl,_⟩;simp only at hr;subst hr;exact Wp h
theorem ZgB{ks:List (List K)}{a:Addr}{Q:Bool->aC->Prop}(hk:Zaq knd s.heap ks a)(h:Q true s):wpAny (ao prog w) A (nE 8 (.ref a)) Q E s:=by
 have hT:=hk.typeIs;obtain⟨o,items,n,ho,_,hd,hi⟩:=hk;unfold nE;refine Wb (fJ hT F.slot_tuple_eq.lookup ?_);show wpAny _ _ (mR (.ref a) (.type "tuple") >>= _) _ _ s;refine Wb (gE hT iD ?_);simp only[fN,bz,if_false];refine Wb (wpAny_seqItems ho hd ?_);refine Wb ?_;show wpAny _ _ (forIn items _ _) _ _ s;rw[<-fG];refine iH _ (λZae r s'=>r.1=none/\s'=s/\∃ks',ItemsT knd s.heap ks' Zae) _ ?_ ?_ _ _ ⟨rfl,rfl,ks,hi⟩
 .rintro v Zae r s' ⟨hr,rfl,ks',hall⟩;cases hall with
  |cons k1 t=>
   refine Wb (Zg9 6 k1 ?_);simp only[fN,bz,if_false];exact Wp ⟨rfl,rfl,_,t⟩
 .rintro⟨r1,r2⟩ s' ⟨hr,rfl,_⟩;simp only at hr;subst hr;exact Wp h
end NK
def Zcy{prog:cE}{w:c6}{K:Type}[DecidableEq K](knd:KeyKind prog w K):HeapKind prog w (List (List K)) where
 is:=NK.Zaq knd
 hash:=NK.Zl4 knd
 draws:=λks=>NK.Zdk ks+1
 room:=λA=>A.units+1<jd
 inj:=λhx hy=>hx.inj hy
 keeps:=λx ho hd hs=>x.keeps ho hd hs
 pyHash:=λhu hk h=>NK.Zg8 hu hk h
 eqBool:=λhu hx hy h=>NK.Zl6 hu hx hy h
 quiet:=λhk h=>NK.ZgB hk h
end PySem
namespace L2
open PyProof.Rows
noncomputable abbrev Key:=Sum Int Str
noncomputable def ZgC:Key->ae->Bool
 |.inl k,v=>ae.isInt k v
 |.inr x,v=>ae.isStrOf x v
noncomputable def Zvh(w:c6):Key->Int
 |.inl k=>hashInt k
 |.inr x=>hashStr w x
theorem ZR:∀{k:Key}{v:ae},ZgC k v=true->(∃i t,k=kC i/\v=j6 i t)\/(∃x t,k=kD x/\v=mw x t)
 |.inl i,v,h=>by
  obtain⟨t,e⟩:=ae.isInt_shape (k:=i) (v:=v) h;exact .inl ⟨i,t,rfl,e⟩
 |.inr x,v,h=>by
  obtain⟨t,e⟩:=ae.isStrOf_shape (x:=x) (v:=v) h;exact .inr ⟨x,t,rfl,e⟩
theorem Zha(i:Int)(t:Tok):ZgC (.inl i) (.int i t)=true:=by simp[ZgC,ae.isInt]
theorem Zhb(x:Str)(t:Tok):ZgC (.inr x) (.str x t)=true:=by simp[ZgC,ae.isStrOf]
theorem Zoj(a b:Int):decide ((kC a:Key)=kC b)=(a==b):=by
 by_cases e:a=b
 .subst e;simp
 .have h:¬(kC a:Key)=kC b:=λq=>e (kC.inj q);rw[decide_eq_false h];exact(beq_eq_false_iff_ne.mpr e).symm
theorem Zok(a b:Str):decide ((kD a:Key)=kD b)=decide (a=b):=by
 by_cases e:a=b
 .subst e;simp
 .have h:¬(kD a:Key)=kD b:=λq=>e (kD.inj q);rw[decide_eq_false h,decide_eq_false e]
theorem Zol(a:Int)(b:Str):decide ((kC a:Key)=kD b)=false:=decide_eq_false (λq=>nomatch q)
theorem Zom(a:Str)(b:Int):decide ((kD a:Key)=kC b)=false:=decide_eq_false (λq=>nomatch q)
def ZaH(prog:cE)(w:c6):PySem.KeyKind prog w Key where
 is:=ZgC
 hash:=Zvh w
 inj:=λv a b ha hb=>by
  rcases ZR ha with⟨i,t,rfl,rfl⟩|⟨x,t,rfl,rfl⟩
  .rcases ZR hb with⟨j,u,rfl,e⟩|⟨y,u,rfl,e⟩
   .injection e with e1 _;rw[e1]
   .exact nomatch e
  .rcases ZR hb with⟨j,u,rfl,e⟩|⟨y,u,rfl,e⟩
   .exact nomatch e
   .injection e with e1 _;rw[e1]
 byValue:=λk v h=>by
  rcases ZR h with⟨i,t,rfl,rfl⟩|⟨x,t,rfl,rfl⟩<;>rfl
 pyHash:=λhv h=>by
  rcases ZR hv with⟨i,t,rfl,rfl⟩|⟨x,t,rfl,rfl⟩
  .exact wpAny_pyHash_int h
  .exact wpAny_pyHash_str h
 eqBool:=λhu hv h=>by
  rcases ZR hu with⟨i,t,rfl,rfl⟩|⟨x,t,rfl,rfl⟩
  .rcases ZR hv with⟨j,u,rfl,rfl⟩|⟨y,u,rfl,rfl⟩
   .rw[Zoj]at h;exact wpAny_eqBool_int h
   .rw[Zol]at h;exact mS.int_str i t y u _ _ _ _ h
  .rcases ZR hv with⟨j,u,rfl,rfl⟩|⟨y,u,rfl,rfl⟩
   .rw[Zom]at h;exact mS.str_int x t j u _ _ _ _ h
   .rw[Zok]at h;exact wpAny_eqBool_str h
 «strs» :=λk x t v h=>by
  rcases ZR h with⟨i,u,rfl,e⟩|⟨y,u,rfl,e⟩
  .exact nomatch e
  .injection e with e1 _;subst e1;cases v<;>rfl
theorem Ze0(prog:cE)(w:c6)(i:Int)(t:Tok):(ZaH prog w).is (.inl i) (.int i t)=true:=Zha i t
theorem Ze1(prog:cE)(w:c6)(x:Str)(t:Tok):(ZaH prog w).is (.inr x) (.str x t)=true:=Zhb x t
inductive V where
 |non|bl (b:Bool)|int (i:Int)|str (x:Str)|byt (b:Array UInt8)|flt (b:UInt64)|ref (a:Addr)|ty (n:String)
 deriving DecidableEq
noncomputable def ZZ:V->ae->Prop
 |.non,u=>u=bS
 |.bl b,u=>u=mT b
 |.int i,u=>∃t,u=j6 i t
 |.str x,u=>∃t,u=mw x t
 |.byt b,u=>∃t,u=ae.bytes b t
 |.flt b,u=>∃t,u=ae.float b t
 |.ref a,u=>u=aU a
 |.ty n,u=>u=bB n
abbrev ZS:List V->List ae->Prop:=Paired ZZ
theorem ZS.length(r:ZS xs us):xs.length=us.length:=Paired.length r
theorem ZS.get:∀{xs:List V}{us:List ae}{i:Nat}{x:V},ZS xs us->xs[i]?=some x->∃u,us[i]?=some u/\ZZ x u
 |_,_,_,_,.nil,e=>by simp at e
 |_,_,0,_,.cons r _,e=>by simp at e;subst e;exact⟨_,rfl,r⟩
 |_,_,i+1,x,.cons _ t,e=>by
  obtain⟨u,h1,h2⟩:=ZS.get (i:=i) (x:=x) t (by simpa using e)
  exact⟨u,by simpa using h1,h2⟩
theorem ZS.set{x:V}{u:ae}(r:ZZ x u):∀{xs:List V}{us:List ae}(i:Nat),ZS xs us->ZS (xs.set i x) (us.set i u)
 |_,_,_,.nil=>.nil
 |_,_,0,.cons _ t=>.cons r t
 |_,_,i+1,.cons q t=>.cons q (ZS.set r i t)
theorem ZS.append:∀{xs ys:List V}{us ws:List ae},ZS xs us->ZS ys ws->ZS (xs++ys) (us++ws)
 |_,_,_,_,.nil,s=>s
 |_,_,_,_,.cons r t,s=>.cons r (ZS.append t s)
theorem ZS.take:∀{xs:List V}{us:List ae}(n:Nat),ZS xs us->ZS (xs.take n) (us.take n)
 |_,_,0,_=>.nil
 |_,_,_+1,.nil=>.nil
 |_,_,n+1,.cons r t=>.cons r (ZS.take n t)
theorem ZS.drop:∀{xs:List V}{us:List ae}(n:Nat),ZS xs us->ZS (xs.drop n) (us.drop n)
 |_,_,0,r=>r
 |_,_,_+1,.nil=>.nil
 |_,_,n+1,.cons _ t=>ZS.drop n t
def ZwA:Option V->Option ae->Prop
 |some v,some u=>ZZ v u
 |none,none=>True
 |_,_=>False
def KV{κ:Type}:List (κ×V)->List (κ×ae)->Prop:=Paired λ(p:κ×V) (q:κ×ae)=>p.1=q.1/\ZZ p.2 q.2
noncomputable def kV:Key->V
 |.inl i=>.int i
 |.inr x=>.str x
inductive HO where
 |lst (xs:List V)
 |tup (xs:List V)
 |dU (kvs:List ((List (List Key))×V))
 |own (x:Addr)
 |frz (o:Obj) (u:HO)
 |tbl (ps:Array ae)
 |ext (φ:Heap->Prop)
noncomputable abbrev Hp:=Addr->Option HO
noncomputable def upd(H:Hp)(a:Addr)(o:HO):Hp:=λb=>if b=a then some o else H b
theorem ZB:upd H a o a=some o:=by unfold upd;rw[if_pos rfl]
theorem ZJ(h:b≠a):upd H a o b=H b:=by unfold upd;rw[if_neg h]
theorem ZrW{H:Hp}(h:H a=some o)(h':H b=some u)(d:o≠u):a≠b:=by
 intro e;subst e;rw[h]at h';exact d (aM h')
theorem ZV{H:Hp}(h:H a=some o)(h':H b=none):a≠b:=by
 intro e;subst e;rw[h]at h';cases h'
def Zar(H:Hp)(ks:List (List Key))(b:Addr):Prop:=∃cs:List Addr,H b=some (.tup (cs.map V.ref))/\Paired (λ(k:List Key) (c:Addr)=>H c=some (.tup (k.map kV))) ks cs
section
variable (P:cE)(w:c6)
def ZaN(H:Hp)(h:Heap)(a:Addr):HO->Prop
 |.lst xs=>xs.length<=sizeLine/\∃(its:List ae) (n:Nat),ZS xs its/\h.get? a=some {cls:=.type "list",data:=.seq its.toArray n}
 |.tup xs=>xs.length<=sizeLine/\∃its:List ae,ZS xs its/\IsTup h a its.toArray
 |.dU kvs=>kvs.length<=sizeLine/\(a==jh)=false/\∃xs:List (List (List Key)×Addr×ae),
   Paired (λ(p:List (List Key)×V) (q:List (List Key)×Addr×ae)=>p.1=q.1/\Zar H p.1 q.2.1/\ZZ p.2 q.2.2) kvs xs/\
   ∃o es ep,h.get? a=some o/\o.ExactDict/\o.data=.dict es ep/\es.toList=xs.map (entryOfKey (Zcy (ZaH P w)))/\(xs.map (·.1)).Nodup
 |.own _=>∃o,h.get? a=some o
 |.frz o u=>h.get? a=some o/\ZaN H h a u
 |.tbl ps=>h.get? a=some {cls:=.none,data:=.fields ps}/\gF ps.toList/\∀pos cv,dJ pos ps.toList=some cv->∃c' o vs q t,cv=.ref c'/\H c'=some (.own a)/\h.get? c'=some o/\o.data=.fields vs/\vs[1]?=some (.str q t)
 |.ext φ=>φ h/\(∃o,h.get? a=some o)/\∀h1 h2:Heap,φ h1->(∀o,h1.get? a=some o->h2.get? a=some o)->φ h2
def HOk(H:Hp)(h:Heap):Prop:=∀a o,H a=some o->ZaN P w H h a o
end
section
variable {a:Addr}
theorem ZaN.lt(x:ZaN P w H h a o):a<h.objs.size:=by
 cases o with
 |lst xs=>obtain⟨_,_,_,_,e⟩:=x;exact Hz e
 |tup xs=>obtain⟨_,_,_,p⟩:=x;exact p.lt
 |dU kvs=>obtain⟨_,_,_,_,o,_,_,e,_⟩:=x;exact Hz e
 |own y=>obtain⟨_,e⟩:=x;exact Hz e
 |frz ob u=>obtain⟨e,_⟩:=x;exact Hz e
 |tbl ps=>exact Hz x.1
 |ext φ=>obtain⟨_,⟨_,e⟩,_⟩:=x;exact Hz e
theorem Paired.mapP{α β:Type}{F G:α->β->Prop}:∀{l₁:List α}{l₂:List β},Paired F l₁ l₂->(∀a b,F a b->G a b)->Paired G l₁ l₂
 |_,_,.nil,_=>.nil
 |_,_,.cons r t,f=>.cons (f _ _ r) (Paired.mapP t f)
theorem ZaN.stay(x:ZaN P w H h a o)(k:∀b u,(b=a\/H b=some (.own a))->h.get? b=some u->h'.get? b=some u)(ho:∀b,H b=some (.own a)->H' b=some (.own a))(ht:∀b xs,H b=some (.tup xs)->H' b=some (.tup xs)):ZaN P w H' h' a o:=by
 induction o with
 |lst xs=>obtain⟨z,its,n,r,e⟩:=x;exact⟨z,its,n,r,k _ _ (.inl rfl) e⟩
 |tup xs=>obtain⟨z,its,r,ob,e,c⟩:=x;exact⟨z,its,r,ob,k _ _ (.inl rfl) e,c⟩
 |dU kvs=>
  obtain⟨z,y,xs,r,ob,es,ep,e,c⟩:=x;exact⟨z,y,xs,Paired.mapP r λp q z=>⟨z.1,let ⟨cs,z1,z2⟩:=z.2.1;⟨cs,ht _ _ z1,Paired.mapP z2 λ_ _ t=>ht _ _ t⟩,z.2.2⟩,ob,es,ep,k _ _ (.inl rfl) e,c⟩
 |own y=>obtain⟨ob,e⟩:=x;exact⟨ob,k _ _ (.inl rfl) e⟩
 |frz ob u ih=>obtain⟨e,q⟩:=x;exact⟨k _ _ (.inl rfl) e,ih q⟩
 |tbl ps=>
  exact⟨k a _ (.inl rfl) x.1,x.2.1,λpos cv e=>let ⟨c',ob,vs,q,t,e1,e2,e3,e4⟩:=x.2.2 pos cv e;⟨c',ob,vs,q,t,e1,ho _ e2,k _ _ (.inr e2) e3,e4⟩⟩
 |ext φ=>obtain⟨p,⟨o,e⟩,st⟩:=x;exact⟨st _ _ p λo q=>k _ _ (.inl rfl) q,⟨o,k _ _ (.inl rfl) e⟩,st⟩
theorem HOk.lt(x:HOk P w H h)(e:H a=some o):a<h.objs.size:=(x a o e).lt
theorem HOk.fresh(x:HOk P w H h)(e:h.objs.size<=a):H a=none:=by
 cases q:H a with
 |none=>rfl
 |some u=>exact absurd (am (x.lt q) e) (b7 _)
theorem HOk.kept(x:HOk P w H h)(k:∀b u,h.get? b=some u->h'.get? b=some u):HOk P w H h':=λa o e=>
 (x a o e).stay (λb u _ q=>k b u q) (λ_ q=>q) λ_ _ q=>q
theorem HOk.laid(x:HOk P w H h)(k:∀b u,h.get? b=some u->h'.get? b=some u)(hp:h.objs.size<=a)(new:ZaN P w (upd H a o) h' a o):HOk P w (upd H a o) h':=λb u e=>by
 have hn:=x.fresh hp;by_cases hb:b=a
 .subst hb;rw[ZB]at e;cases e;exact new
 .rw[ZJ hb]at e;exact(x b u e).stay (λc v _ q=>k c v q) (λc q=>by rw[ZJ (ZV q hn)];exact q) λc xs q=>by rw[ZJ (ZV q hn)];exact q
end
noncomputable def Rd(H:Hp)(a:Addr)(u:HO):Prop:=H a=some u\/∃o,H a=some (.frz o u)
theorem Rd.ok(r:Rd H a u)(x:HOk P w H h):ZaN P w H h a u:=by
 rcases r with r|⟨o,r⟩
 .exact x a u r
 .obtain⟨_,q⟩:=x a _ r;exact q
noncomputable def Mut:Option HO->Prop
 |some (.lst _)=>True
 |some (.dU _)=>True
 |some (.ext _)=>True
 |_=>False
theorem HOk.write(ok:HOk P w H h)(mu:Mut (H x))(he:e=x\/H e=some (.own x))(k:∀b u,b≠e->h.get? b=some u->h'.get? b=some u)(heo:∃u,h'.get? e=some u)(new:ZaN P w (upd H x o') h' x o'):HOk P w (upd H x o') h':=λb u q=>by
 have nown:∀c y,H c=some (.own y)->c≠x:=λc y r z=>by subst z;rw[r]at mu;exact mu
 have ntup:∀c xs,H c=some (.tup xs)->c≠x:=λc xs r z=>by subst z;rw[r]at mu;exact mu
 by_cases hb:b=x
 .subst hb;rw[ZB]at q;cases q;exact new
 .rw[ZJ hb]at q;by_cases hbe:b=e
  .have q':H b=some (.own x):=by
    rcases he with z|z
    .exact absurd (hbe.trans z) hb
    .rw[hbe];exact z
   rw[q]at q';cases q';obtain⟨v,hv⟩:=heo;exact⟨v,by rw[hbe];exact hv⟩
  .refine(ok b u q).stay (λc v hc r=>k c v ?_ r) (λc r=>by rw[ZJ (nown c b r)];exact r) λc xs r=>by rw[ZJ (ntup c xs r)];exact r
   rcases hc with rfl|hc
   .exact hbe
   .rintro rfl;rcases he with z|z
    .exact nown c b hc z
    .rw[hc]at z;cases z;exact hb rfl
structure Un(fs ex:List Addr) (H H':Hp) (h h':Heap):Prop where
 keep:∀b o,h.get? b=some o->H b=none->b∉fs->b∉ex->h'.get? b=some o
 slot:∀b o,h.get? b=some o->H b=none->b∈fs->b∉ex->∃sl,h'.get? b=some {o with slots:=sl}
 free:∀b o,h.get? b=some o->H b=none->b∉ex->H' b=none
 there:∀b o,h.get? b=some o->b∉ex->∃o',h'.get? b=some o'
 tups:∀b xs,H b=some (.tup xs)->H' b=some (.tup xs)
 frzs:∀b o u,H b=some (.frz o u)->H' b=some (.frz o u)
 tbls:∀b ps,H b=some (.tbl ps)->∃more,H' b=some (.tbl (ps++more))
theorem Un.any(u:Un fs ex H H1 h h1)(q:h.get? b=some ob)(n:H b=none)(hx:b∉ex):∃sl,h1.get? b=some {ob with slots:=sl}:=by
 by_cases hb:b∈fs
 .exact u.slot b ob q n hb hx
 .exact⟨ob.slots,u.keep b ob q n hb hx⟩
theorem Un.kept(k:∀b u,h.get? b=some u->h'.get? b=some u):Un fs ex H H h h':=
 ⟨λb ob q _ _ _=>k b ob q,λb ob q _ _ _=>⟨ob.slots,k b ob q⟩,λ_ _ _ n _=>n,λb ob q _=>⟨ob,k b ob q⟩,λ_ _ q=>q,λ_ _ _ q=>q,λ_ ps q=>⟨#[],by rw[q];simp⟩⟩
theorem Un.refl:Un fs ex H H h h:=Un.kept λ_ _ q=>q
theorem Un.laid(k:∀b u,h.get? b=some u->h'.get? b=some u)(hp:h.objs.size<=a)(hn:H a=none):Un fs ex H (upd H a o) h h' where
 keep:=λb u q _ _ _=>k b u q
 slot:=λb u q _ _ _=>⟨u.slots,k b u q⟩
 free:=λb u q n _=>by rw[ZJ (aE (am (Hz q) hp))];exact n
 there:=λb u q _=>⟨u,k b u q⟩
 tups:=λb xs q=>by rw[ZJ (ZV q hn)];exact q
 frzs:=λb u xs q=>by rw[ZJ (ZV q hn)];exact q
 tbls:=λb ps q=>⟨#[],by rw[ZJ (ZV q hn),q];simp⟩
theorem Un.write(mu:Mut (H x))(he:e=x\/H e=some (.own x))(k:∀b u,b≠e->h.get? b=some u->h'.get? b=some u)(heo:∃u,h'.get? e=some u):Un fs ex H (upd H x o) h h':=by
 have hx:∀b,H b=none->b≠x:=λb n z=>by subst z;rw[n]at mu;exact mu
 have hb:∀b,H b=none->b≠e:=λb n z=>by
  subst z;rcases he with r|r
  .exact hx b n r
  .rw[n]at r;cases r
 have hm:∀b u,H b=some u->¬Mut (some u)->b≠x:=λb u q nm z=>by subst z;rw[q]at mu;exact nm mu
 refine⟨λb u q n _ _=>k b u (hb b n) q,λb u q n _ _=>⟨u.slots,k b u (hb b n) q⟩,λb u q n _=>by rw[ZJ (hx b n)];exact n,λb u q _=>?_,
  λb xs q=>by rw[ZJ (hm b _ q λz=>z)];exact q,λb u xs q=>by rw[ZJ (hm b _ q λz=>z)];exact q,λb ps q=>⟨#[],by rw[ZJ (hm b _ q λz=>z),q];simp⟩⟩
 by_cases hbe:b=e
 .subst hbe;exact heo
 .exact⟨u,k b u hbe q⟩
noncomputable def trk(h:Heap)(H:Hp):List Addr:=(aI h.objs.size).filter λa=>(H a).isSome
def Zjz(h:Heap)(H:Hp):Heap:=PySem.W.hideAll h (trk h H)
theorem Zhc(h:Heap)(H:Hp):(Zjz h H).objs.size=h.objs.size:=PySem.W.hideAll_size _ _
theorem ZfG(e:h.get? b=some o)(n:H b=none):(Zjz h H).get? b=some o:=
 PySem.W.hideAll_get _ e λhm=>by
  have q:(H b).isSome=true:=(iW.mp hm).2;rw[n]at q;simp at q
theorem Zhd(e:(Zjz h H).get? b=some o):h.get? b=some o/\H b=none:=by
 have e':h.get? b=some o:=PySem.W.of_hideAll (trk h H) e;refine⟨e',?_⟩;cases q:H b with
 |none=>rfl
 |some x=>
  have hm:b∈trk h H:=iW.mpr ⟨bH.mpr (Hz e'),by simp[q]⟩
  have z:(Zjz h H).get? b=none:=PySem.W.hideAll_none (trk h H) hm;rw[z]at e;cases e
noncomputable def Zl7(g h:Heap)(L:Addr):Pn:=(aI h.objs.size).filterMap λa=>if a=L\/(g.get? a).isSome=true then none else(h.get? a).map λo=>(a,o)
def Zae(g h:Heap)(L d:Addr):Pn:=(Zl7 g h L).filter λp=>decide (p.1≠d)
structure Mod(K:Fg) (mg:Str->Option ae) (base:Heap):Prop where
 kin:K.In base
 glob:base.Ns aR mg
 blt:∃mb,base.Ns hV mb/\∀x:Str,x≠"__name__"->mb x=bL x
 nolimit:base.NoLimit
structure Cx where
 prog:cE
 w:c6
 K:Fg
 mg:Str->Option ae
 base:Heap
 A:cV
 N:List Str
 s₀:aC
 H₀:Hp
 env:Env
 outer:List Env
 stack:List Env
 ex:List Addr
 fn:Str->Bool
 calm:Bool
 pn:Pn
 xe:Vp
 fxs:Option (List Bool×List (Option V))
noncomputable def frs(l:List Env):List Addr:=l.filterMap (·.frame)
abbrev Cx.fs(X:Cx):List Addr:=frs X.outer
noncomputable def Vis(sc:ji)(x:Str):Prop:=sc.names.lookup x=some .local\/sc.names.lookup x=some .cell\/sc.names.lookup x=some .free
noncomputable def Loc(sc:ji)(x:Str):Prop:=sc.names.lookup x=some .local\/sc.names.lookup x=some .cell
noncomputable def Zvi(env:Env)(h:Heap)(m:Str->Option ae)(x:Str)(u:ae):Prop:=
 (env.kindOf x=some .local/\m x=some u)\/((env.kindOf x=some .cell\/env.kindOf x=some .free)/\∃c,env.cells.lookup x=some c/\h.IsCell c (some u))
noncomputable def TbP(K:Fg)(P:Addr):Prop:=∃(c:Addr) (o:Obj) (vs:Array ae),K.lookup c=some o/\o.cls=.type "code"/\o.data=.fields vs/\vs[11]?=some (.ref P)
def Tbs(K:Fg)(H:Hp):Prop:=∀P,TbP K P->∃ps,H P=some (.tbl ps)
theorem Tbs.un{K:Fg}(t:Tbs K H)(u:Un fs ex H H' h h'):Tbs K H':=λP z=>let ⟨ps,e⟩:=t P z;let ⟨m,e'⟩:=u.tbls P ps e;⟨_,e'⟩
structure Cx.Ok(X:Cx):Prop where
 mod:Mod X.K X.mg X.base
 kind:X.env.scope.kind=.function
 glob:X.env.globals=aR
 blt:X.env.builtins=hV
 above:X.s₀.heap.objs.size<=X.env.locals
 inj:∀x y c,X.env.cells.lookup x=some c->X.env.cells.lookup y=some c->x=y
 has:∀x,(X.env.kindOf x=some .cell\/X.env.kindOf x=some .free)->∃c,X.env.cells.lookup x=some c
 cab:∀x c,X.fn x=true->X.env.cells.lookup x=some c->X.s₀.heap.objs.size<=c
 hd:X.calm=true->X.A.handled=none
 frames:X.A.frames=some X.stack
 stk:X.stack=X.outer\/(X.stack=X.env::X.outer/\X.env.frame=some X.env.locals)
 exf:∀b∈X.ex,b≠X.env.locals/\∀x c,X.env.cells.lookup x=some c->c≠b
 bs:∀b o,X.base.get? b=some o->X.s₀.heap.get? b=some o/\X.H₀ b=none
 bsz:X.base.objs.size<=X.s₀.heap.objs.size
 noex:∀b o,X.base.get? b=some o->b∉X.ex
 exfs:∀b∈X.ex,b∉X.fs
 funs:X.s₀.heap.FunFrames X.base X.outer
 frf:∀b∈X.fs,X.H₀ b=none
 tb:Tbs X.K X.H₀
noncomputable def Qd(A:cV)(H:Hp):Prop:=A.handled=none\/∃ea oe u vs,A.handled=some (.ref ea)/\H ea=some (.frz oe u)/\oe.data=.fields vs/\vs[2]?=some .none
theorem Qd.mono(q:Qd A H)(k:∀b o u,H b=some (.frz o u)->H' b=some (.frz o u)):Qd A H':=by
 rcases q with q|⟨ea,oe,u,vs,e1,e2,e3,e4⟩
 .exact .inl q
 .exact .inr ⟨ea,oe,u,vs,e1,k _ _ _ e2,e3,e4⟩
noncomputable def Cx.may(X:Cx)(i:Nat):Bool:=match X.fxs with|none=>true|some (W,_)=>W[i]? == some true
noncomputable def Cx.Fx(X:Cx)(σ:List (Option V)):Prop:=∀W σ0,X.fxs=some (W,σ0)->∀j:Nat,W[j]?=some false->σ[j]?=σ0[j]?
theorem Cx.Fx.free {X:Cx}(h:X.fxs=none):X.Fx σ:=λW σ0 e=>by rw[h]at e;cases e
theorem Cx.Fx.set {X:Cx}(h:X.Fx σ)(m:X.may i=true):X.Fx (σ.set i v):=λW σ0 e j hj=>by
 have ne:i≠j:=λz=>by
  unfold Cx.may at m;rw[e,z]at m;have m':(W[j]? == some true)=true:=m;rw[hj]at m';cases m'
 rw[aS ne];exact h W σ0 e j hj
structure Inv(X:Cx) (pins:Pn) (σ:List (Option V)) (H:Hp) (s:aC):Prop where
 ok:X.Ok
 os:s.os=X.s₀.os
 bare:iN s.gens
 base:Un X.fs X.ex X.H₀ H X.s₀.heap s.heap
 loc:∃m,s.heap.Ns X.env.locals m/\∀(i:Nat)(x:Str)(v:V),X.N[i]?=some x->σ[i]?=some (some v)->Vis X.env.scope x->∃u,ZZ v u/\Zvi X.env s.heap m x u
 cell:∀x c,X.env.cells.lookup x=some c->∃v,s.heap.IsCell c v
 free:H X.env.locals=none
 freeC:∀x c,X.env.cells.lookup x=some c->H c=none
 pin:∀p∈X.pn++pins,s.heap.get? p.1=some p.2/\H p.1=none/\p.1≠X.env.locals/\p.1∉X.fs/\∀v,p.2.data≠ .cell v
 hok:HOk X.prog X.w H s.heap
 len:σ.length=X.N.length
 qd:Qd X.A H
 fx:X.Fx σ
section
variable {X:Cx}
theorem Cx.Ok.nofr (ok:X.Ok)(e:X.base.get? b=some o):b∉X.fs:=λhb=>by
 have:=(ok.funs.mem hb).1
 rw[e]at this;cases this
theorem Inv.bs(I:Inv X pins σ H s):∀b o,X.base.get? b=some o->s.heap.get? b=some o/\H b=none:=λb o e=>
 ⟨I.base.keep b o (I.ok.bs b o e).1 (I.ok.bs b o e).2 (I.ok.nofr e) (I.ok.noex b o e),I.base.free b o (I.ok.bs b o e).1 (I.ok.bs b o e).2 (I.ok.noex b o e)⟩
theorem Inv.qh(I:Inv X pins σ H s):DQ.ZaA X.A s.heap:=by
 rcases I.qd with q|⟨ea,oe,u,vs,e1,e2,e3,e4⟩
 .exact .inl q
 .exact .inr ⟨ea,oe,vs,e1,(I.hok _ _ e2).1,e3,e4⟩
theorem Inv.bk(I:Inv X pins σ H s):∀b o,X.base.get? b=some o->s.heap.get? b=some o:=λb o e=>(I.bs b o e).1
theorem Inv.mod(I:Inv X pins σ H s):Mod X.K X.mg X.base:=I.ok.mod
theorem Inv.kIn(I:Inv X pins σ H s):X.K.In s.heap:=I.ok.mod.kin.keeps I.bk
theorem Inv.nolimit(I:Inv X pins σ H s):s.heap.NoLimit:=I.ok.mod.nolimit.keeps I.bk
theorem Inv.fr(I:Inv X pins σ H s):∃m,Fr X.base X.env.locals s.heap m:=
 let ⟨m,hn,_⟩:=I.loc
 ⟨m,hn,I.bk,aZ I.ok.bsz I.ok.above⟩
theorem Inv.lt(I:Inv X pins σ H s):X.env.locals<s.heap.objs.size:=let ⟨_,hn,_⟩:=I.loc;hn.lt
theorem Inv.sz(I:Inv X pins σ H s):X.s₀.heap.objs.size<=s.heap.objs.size:=aZ I.ok.above (dC I.lt)
theorem Inv.nofs(I:Inv X pins σ H s){a:Addr}(h:s.heap.objs.size<=a):a∉X.fs:=λhb=>by
 obtain⟨_,o,ho,_⟩:=I.ok.funs.mem hb;exact absurd (am (Hz ho) (aZ I.sz h)) (b7 _)
theorem Inv.cne(I:Inv X pins σ H s):∀x c,X.env.cells.lookup x=some c->c≠X.env.locals:=λx c e z=>by
 obtain⟨v,o,ho,hd⟩:=I.cell x c e;obtain⟨m,⟨o',es,ep,ho',hd',_⟩,_⟩:=I.loc;rw[z,ho']at ho;cases ho;rw[hd']at hd;cases hd
theorem Inv.funs(I:Inv X pins σ H s):s.heap.FunFrames X.base X.outer:=by
 have all:∀(l:List Env),(∀b∈frs l,b∈X.fs)->X.s₀.heap.FunFrames X.base l->s.heap.FunFrames X.base l:=by
  intro l
  induction l with
  |nil=>intro _ _;trivial
  |cons env r ih=>
   intro hs hl;obtain⟨hk,⟨L,o,hf,hn,ho,hd⟩,hr⟩:=hl;have hL:L∈X.fs:=hs L (by unfold frs;rw[dN,hf];exact bT)
   obtain⟨sl,e⟩:=I.base.slot L o ho (I.ok.frf L hL) hL λz=>I.ok.exfs L z hL;exact⟨hk,⟨L,_,hf,hn,e,hd⟩,ih (λb hb=>hs b (by unfold frs;rw[dN,hf];exact aF _ hb)) hr⟩
 exact all X.outer (λ_ hb=>hb) I.ok.funs
theorem Inv.stack(I:Inv X pins σ H s):s.heap.FunFrames X.base X.stack:=by
 rcases I.ok.stk with e|⟨e,hf⟩
 .rw[e];exact I.funs
 .rw[e];obtain⟨m,hn,_⟩:=I.loc;refine .cons (by rw[I.ok.kind];decide) hf hn ?_ I.funs
  exact nX.get?_none_of_le (aZ I.ok.bsz I.ok.above)
theorem Inv.stkSub(I:Inv X pins σ H s):∀b∈frs X.stack,b∈X.env.locals::X.fs:=λb hb=>by
 rcases I.ok.stk with e|⟨e,hf⟩
 .rw[e]at hb;exact aF _ hb
 .rw[e]at hb;unfold frs at hb;rw[dN,hf]at hb;exact hb
theorem Inv.stkFree(I:Inv X pins σ H s):∀b∈frs X.stack,H b=none:=λb hb=>by
 rcases ay.mp (I.stkSub b hb)with e|hb
 .rw[e];exact I.free
 .obtain⟨_,o,ho,_⟩:=I.ok.funs.mem hb;exact I.base.free b o ho (I.ok.frf b hb) λz=>I.ok.exfs b z hb
theorem Inv.step{ch:List Addr}(I:Inv X pins σ H s)(hch:∀b∈ch,(b∈X.ex\/X.s₀.heap.objs.size<=b)/\b≠X.env.locals/\(∀x c,X.env.cells.lookup x=some c->c≠b)/\∀p∈X.pn++pins,p.1≠b)(keep:∀b o,b≠X.env.locals->b∉X.fs->b∉ch->s.heap.get? b=some o->H b=none->h'.get? b=some o)(slot:∀b o,b≠X.env.locals->b∈X.fs->b∉ch->s.heap.get? b=some o->H b=none->∃sl,h'.get? b=some {o with slots:=sl})(free:∀b o,b∉ch->s.heap.get? b=some o->H b=none->H' b=none)(there:∀b o,b∉ch->s.heap.get? b=some o->∃o',h'.get? b=some o')(tups:∀b xs,H b=some (.tup xs)->H' b=some (.tup xs))(frzs:∀b o u,H b=some (.frz o u)->H' b=some (.frz o u))(tbls:∀b ps,H b=some (.tbl ps)->∃more,H' b=some (.tbl (ps++more)))(ns:∀m,s.heap.Ns X.env.locals m->h'.Ns X.env.locals m)(hok:HOk X.prog X.w H' h')(hg:iN g'):Inv X pins σ H' {s with heap:=h',gens:=g',drawn:=d',toks:=t'}:=by
 have neL:∀b o,X.s₀.heap.get? b=some o->b≠X.env.locals:=λb o e=>aE (am (Hz e) I.ok.above);have neC:∀b o,X.s₀.heap.get? b=some o->b∉X.ex->b∉ch:=λb o e hx hb=>by
  rcases(hch b hb).1 with z|z
  .exact hx z
  .exact absurd (am (Hz e) z) (b7 _)
 have cellK:∀x c,X.env.cells.lookup x=some c->∀v,s.heap.IsCell c v->h'.IsCell c v:=λx c e v ⟨o,ho,hd⟩=>by
  have nch:c∉ch:=λz=>(hch c z).2.2.1 x c e rfl;by_cases hc:c∈X.fs
  .obtain⟨sl,q⟩:=slot c o (I.cne x c e) hc nch ho (I.freeC x c e);exact⟨_,q,hd⟩
  .exact⟨o,keep c o (I.cne x c e) hc nch ho (I.freeC x c e),hd⟩
 refine⟨I.ok,I.os,hg,⟨λb o e n hb hx=>?_,λb o e n hb hx=>?_,λb o e n hx=>?_,λb o e hx=>?_,λb xs e=>tups b xs (I.base.tups b xs e),λb o xs e=>frzs b o xs (I.base.frzs b o xs e),λb ps e=>?_⟩,?_,λx c e=>?_,?_,λx c e=>?_,λp hp=>?_,hok,I.len,I.qd.mono frzs,I.fx⟩
 .exact keep b o (neL b o e) hb (neC b o e hx) (I.base.keep b o e n hb hx) (I.base.free b o e n hx)
 .obtain⟨sl,e1⟩:=I.base.slot b o e n hb hx;obtain⟨sl',e2⟩:=slot b _ (neL b o e) hb (neC b o e hx) e1 (I.base.free b o e n hx);exact⟨sl',e2⟩
 .obtain⟨o',e1⟩:=I.base.there b o e hx;exact free b o' (neC b o e hx) e1 (I.base.free b o e n hx)
 .obtain⟨o',e1⟩:=I.base.there b o e hx;exact there b o' (neC b o e hx) e1
 .obtain⟨m1,e1⟩:=I.base.tbls b ps e;obtain⟨m2,e2⟩:=tbls b _ e1;exact⟨m1++m2,by rw[e2,jj]⟩
 .obtain⟨m,hn,hl⟩:=I.loc;refine⟨m,ns m hn,λi x v e1 e2 e3=>?_⟩;obtain⟨u,r,l⟩:=hl i x v e1 e2 e3;refine⟨u,r,?_⟩;rcases l with l|⟨k,c,e,z⟩
  .exact .inl l
  .exact .inr ⟨k,c,e,cellK x c e _ z⟩
 .obtain⟨v,z⟩:=I.cell x c e;exact⟨v,cellK x c e v z⟩
 .obtain⟨m,⟨o,_,_,ho,_⟩,_⟩:=I.loc;exact free _ o (λz=>(hch _ z).2.1 rfl) ho I.free
 .obtain⟨v,o,ho,hd⟩:=I.cell x c e;exact free c o (λz=>(hch c z).2.2.1 x c e rfl) ho (I.freeC x c e)
 .obtain⟨e,n,ne,nf,d⟩:=I.pin p hp;have nch:p.1∉ch:=λz=>(hch p.1 z).2.2.2 p hp rfl;exact⟨keep p.1 p.2 ne nf nch e n,free p.1 p.2 nch e n,ne,nf,d⟩
theorem Inv.un(I:Inv X pins σ H s)(u:Un X.fs [] H H' s.heap h')(hok:HOk X.prog X.w H' h'):Inv X pins σ H' {s with heap:=h',toks:=t'}:=by
 obtain⟨m,⟨o,es,ep,ho,r⟩,_⟩:=id I.loc;obtain⟨sl,hL⟩:=u.any ho I.free (by simp)
 exact I.step (g':=s.gens) (d':=s.drawn) (ch:=[]) (λ_ z=>nomatch z) (λb o _ hb _ e n=>u.keep b o e n hb (by simp)) (λb o _ hb _ e n=>u.slot b o e n hb (by simp)) (λb o _ e n=>u.free b o e n (by simp)) (λb o _ e=>u.there b o e (by simp)) u.tups u.frzs u.tbls (λm' hm=>by
  obtain⟨o',es',ep',ho',r'⟩:=hm;rw[ho]at ho';cases ho';exact⟨_,es',ep',hL,r'⟩) hok I.bare
theorem Inv.call(I:Inv X pins σ H s)(u:Un (frs X.stack) ch H H' s.heap h')(hok:HOk X.prog X.w H' h')(hg:iN g')(hch:∀b∈ch,(b∈X.ex\/X.s₀.heap.objs.size<=b)/\b≠X.env.locals/\(∀x c,X.env.cells.lookup x=some c->c≠b)/\∀p∈X.pn++pins,p.1≠b):Inv X pins σ H' {s with heap:=h',gens:=g',drawn:=d',toks:=t'}:=by
 obtain⟨m,⟨o,es,ep,ho,r⟩,_⟩:=id I.loc;obtain⟨sl,hL⟩:=u.any ho I.free λz=>(hch _ z).2.1 rfl;exact I.step (ch:=ch) hch (λb o hL hb hc e n=>u.keep b o e n (λz=>(ay.mp (I.stkSub b z)).elim hL hb) hc) (λb o _ _ hc e n=>u.any e n hc) (λb o hc e n=>u.free b o e n hc) (λb o hc e=>u.there b o e hc) u.tups u.frzs u.tbls (λm' hm=>by
  obtain⟨o',es',ep',ho',r'⟩:=hm;rw[ho]at ho';cases ho';exact⟨_,es',ep',hL,r'⟩) hok hg
theorem Inv.turned(I:Inv X pins σ H s)(k:∀b o,b≠it->s.heap.get? b=some o->h'.get? b=some o)(hn:H it=none)(hL:it≠X.env.locals)(h1:it∈X.ex\/X.s₀.heap.objs.size<=it)(h2:∀x c,X.env.cells.lookup x=some c->c≠it)(h3:∀p∈X.pn++pins,p.1≠it):Inv X pins σ H {s with heap:=h',toks:=t'}:=by
 have nit:∀b u,H b=some u->b≠it:=λb u e z=>by rw[z,hn]at e;cases e
 refine I.step (g':=s.gens) (d':=s.drawn) (ch:=[it]) (λb hb=>?_) (λb o _ _ hc e _=>k b o (λz=>hc (by simp[z])) e) (λb o _ _ hc e _=>⟨o.slots,k b o (λz=>hc (by simp[z])) e⟩) (λ_ _ _ _ n=>n)
  (λb o hc e=>⟨o,k b o (λz=>hc (by simp[z])) e⟩) (λ_ _ e=>e) (λ_ _ _ e=>e) (λb ps e=>⟨#[],by rw[e];simp⟩) (λm hm=>?_) (λb u e=>?_) I.bare
 .have e:b=it:=by simpa using hb
  subst e;exact⟨h1,hL,h2,h3⟩
 .obtain⟨o,es,ep,ho,r⟩:=hm;exact⟨o,es,ep,k _ o (cu hL) ho,r⟩
 .refine(I.hok b u e).stay (λc v hc q=>k c v ?_ q) (λ_ q=>q) λ_ _ q=>q;rcases hc with z|z
  .rw[z];exact nit b u e
  .exact nit c _ z
theorem Inv.tok(I:Inv X pins σ H s)(t:Nat):Inv X pins σ H {s with toks:=t}:=I.un (h':=s.heap) (t':=t) Un.refl I.hok
theorem Inv.kept(I:Inv X pins σ H s)(k:∀b u,s.heap.get? b=some u->h'.get? b=some u):Inv X pins σ H {s with heap:=h',toks:=t'}:=I.un (Un.kept k) (I.hok.kept k)
theorem Inv.laid(I:Inv X pins σ H s)(k:∀b u,s.heap.get? b=some u->h'.get? b=some u)(hp:s.heap.objs.size<=a)(new:ZaN X.prog X.w (upd H a o) h' a o):Inv X pins σ (upd H a o) {s with heap:=h',toks:=t'}:=I.un (Un.laid k hp (I.hok.fresh hp)) (I.hok.laid k hp new)
theorem Inv.write(I:Inv X pins σ H s)(mu:Mut (H x))(he:e=x\/H e=some (.own x))(k:∀b u,b≠e->s.heap.get? b=some u->h'.get? b=some u)(heo:∃u,h'.get? e=some u)(new:ZaN X.prog X.w (upd H x o) h' x o):Inv X pins σ (upd H x o) {s with heap:=h',toks:=t'}:=I.un (Un.write mu he k heo) (I.hok.write mu he k heo new)
theorem Inv.pins_of(I:Inv X pins σ H s)(h:∀p∈pins',s.heap.get? p.1=some p.2/\H p.1=none/\p.1≠X.env.locals/\p.1∉X.fs/\∀v,p.2.data≠ .cell v):Inv X pins' σ H s:=
 ⟨I.ok,I.os,I.bare,I.base,I.loc,I.cell,I.free,I.freeC,λp hp=>(be.mp hp).elim (λz=>I.pin p (gk _ z)) (h p),I.hok,I.len,I.qd,I.fx⟩
theorem ZfH{N:List Str}(hN:N.Nodup){i:Nat}(a:N[i]?=some x)(b:N[j]?=some x):i=j:=by
 obtain⟨h1,e1⟩:=ar.mp a;obtain⟨h2,e2⟩:=ar.mp b;exact(List.getElem_inj hN).mp (e1.trans e2.symm)
theorem Zec(I:Inv X pins σ H s)(hN:X.N.Nodup)(hi:X.N[i]?=some x)(hx:Loc X.env.scope x)(hm:X.may i=true)(r:ZZ v u)(h:∀s',Inv X pins (σ.set i (some v)) H s'->(∃a,gD a s.heap s'.heap/\(a=X.env.locals\/X.env.cells.lookup x=some a))->Q () s')(hf:X.fn x=true\/X.env.scope.names.lookup x=some .local:=by first|exact .inl rfl|exact .inr rfl|assumption):wpAny M A (storeName X.env x u) Q E s:=by
 obtain⟨m,hn,hl⟩:=id I.loc;have hcls:(X.env.scope.kind == .class||(X.env.scope.kind == .module&&X.env.locals != X.env.globals))=false:=by rw[I.ok.kind];rfl
 have hiσ:i<σ.length:=by rw[I.len];exact(ar.mp hi).1
 have cne:=I.cne;have tracked:∀{a:Addr}{h':Heap},(∃o,s.heap.get? a=some o/\H a=none)->gD a s.heap h'->HOk X.prog X.w H h':=λ{a h'} ha hs b ob e=>by
  obtain⟨_,_,hfree⟩:=ha;refine(I.hok b ob e).stay (λc w' hc q=>(hs.2 c ?_).trans q) (λ_ q=>q) λ_ _ q=>q;rintro rfl;rcases hc with rfl|hc
  .rw[hfree]at e;cases e
  .rw[hfree]at hc;cases hc
 rcases hx with hk|hk
 .refine wpAny_storeName_local hk hn (λh' hn' hs=>?_) hcls;obtain⟨oL,_,_,hoL,_⟩:=id hn;refine h _ ⟨I.ok,I.os,I.bare,⟨λb o e n hb hx=>?_,λb o e n hb hx=>?_,I.base.free,λb o e hx=>?_,I.base.tups,I.base.frzs,I.base.tbls⟩,⟨_,hn',λj y v' e1 e2 e3=>?_⟩,λy c e=>?_,I.free,I.freeC,λp hp=>?_,tracked ⟨oL,hoL,I.free⟩ hs,by simpa using I.len,I.qd,I.fx.set hm⟩ ⟨_,hs,.inl rfl⟩
  .exact(hs.2 b (aE (am (Hz e) I.ok.above))).trans (I.base.keep b o e n hb hx)
  .obtain⟨sl,e1⟩:=I.base.slot b o e n hb hx;exact⟨sl,(hs.2 b (aE (am (Hz e) I.ok.above))).trans e1⟩
  .obtain⟨o',e1⟩:=I.base.there b o e hx;exact⟨o',(hs.2 b (aE (am (Hz e) I.ok.above))).trans e1⟩
  .by_cases hj:j=i
   .subst hj;rw[hi]at e1;cases e1;rw[bf hiσ]at e2;cases e2;exact⟨u,r,.inl ⟨hk,by simp⟩⟩
   .rw[aS (cu hj)]at e2;obtain⟨u',r',q⟩:=hl j y v' e1 e2 e3;refine⟨u',r',?_⟩;rcases q with⟨k,e⟩|⟨k,c,e,z⟩
    .refine .inl ⟨k,?_⟩
     have:y≠x:=λe=>hj (ZfH hN e1 (e▸hi))
     simp[this,e]
    .exact .inr ⟨k,c,e,z.sameBut hs (cne y c e)⟩
  .obtain⟨w',z⟩:=I.cell y c e;exact⟨w',z.sameBut hs (cne y c e)⟩
  .obtain⟨e,n,ne,nf,d⟩:=I.pin p hp;exact⟨(hs.2 p.1 ne).trans e,n,ne,nf,d⟩
 .have hfn:X.fn x=true:=by
   rcases hf with z|z
   .exact z
   .rw[z]at hk;cases hk
  obtain⟨c,hc⟩:=I.ok.has x (.inl hk);obtain⟨w',z⟩:=I.cell x c hc;refine wpAny_storeName_cell I.ok.kind hk hc z (λh' hc' hs=>?_);obtain⟨oc,hoc,hocd⟩:=id z;refine h {s with heap:=h'} ⟨I.ok,I.os,I.bare,⟨λb o e n hb hx=>?_,λb o e n hb hx=>?_,I.base.free,λb o e hx=>?_,I.base.tups,I.base.frzs,I.base.tbls⟩,⟨m,hn.sameBut hs (cu (cne x c hc)),λj y v' e1 e2 e3=>?_⟩,λy c' e=>?_,I.free,I.freeC,λp hp=>?_,tracked ⟨oc,hoc,I.freeC x c hc⟩ hs,by simpa using I.len,I.qd,I.fx.set hm⟩ ⟨c,hs,.inr hc⟩
  .exact(hs.2 b (aE (am (Hz e) (I.ok.cab x c hfn hc)))).trans (I.base.keep b o e n hb hx)
  .obtain⟨sl,e1⟩:=I.base.slot b o e n hb hx;exact⟨sl,(hs.2 b (aE (am (Hz e) (I.ok.cab x c hfn hc)))).trans e1⟩
  .obtain⟨o',e1⟩:=I.base.there b o e hx;exact⟨o',(hs.2 b (aE (am (Hz e) (I.ok.cab x c hfn hc)))).trans e1⟩
  .by_cases hj:j=i
   .subst hj;rw[hi]at e1;cases e1;rw[bf hiσ]at e2;cases e2;exact⟨u,r,.inr ⟨.inl hk,c,hc,hc'⟩⟩
   .rw[aS (cu hj)]at e2;obtain⟨u',r',q⟩:=hl j y v' e1 e2 e3;refine⟨u',r',?_⟩;rcases q with q|⟨k,c',e,z'⟩
    .exact .inl q
    .refine .inr ⟨k,c',e,z'.sameBut hs ?_⟩;rintro rfl;exact hj (ZfH hN e1 (I.ok.inj _ _ _ e hc▸hi))
  .by_cases hcc:c'=c
   .subst hcc;exact⟨_,hc'⟩
   .obtain⟨w2,z2⟩:=I.cell y c' e;exact⟨w2,z2.sameBut hs hcc⟩
  .obtain⟨e,n,ne,nf,d⟩:=I.pin p hp;refine⟨(hs.2 p.1 ?_).trans e,n,ne,nf,d⟩;intro q;rw[q,hoc]at e;have q':oc=p.2:=aM e;exact d w' (by rw[<-q'];exact hocd)
theorem Zcz(I:Inv X pins σ H s)(hN:X.N.Nodup)(hi:X.N[i]?=some x)(hx:Loc X.env.scope x)(hm:X.may i=true)(r:ZZ v u)(h:∀s',Inv X pins (σ.set i (some v)) H s'->Q () s')(hf:X.fn x=true\/X.env.scope.names.lookup x=some .local:=by first|exact .inl rfl|exact .inr rfl|assumption):wpAny M A (storeName X.env x u) Q E s:=
 Zec I hN hi hx hm r (λs' I' _=>h s' I') hf
theorem Inv.call'(I:Inv X pins σ H s)(ho:s'.os=s.os)(u:Un (frs X.stack) ch H H' s.heap s'.heap)(hok:HOk X.prog X.w H' s'.heap)(hg:iN s'.gens)(hch:∀b∈ch,(b∈X.ex\/X.s₀.heap.objs.size<=b)/\b≠X.env.locals/\(∀x c,X.env.cells.lookup x=some c->c≠b)/\∀p∈X.pn++pins,p.1≠b):Inv X pins σ H' s':=by
 obtain⟨h',g',d',t',o'⟩:=s';have e:o'=s.os:=ho;subst e;exact I.call (g':=g') (t':=t') (d':=d') u hok hg hch
end
abbrev XK:=ae->Option Addr->Hp->Prop
noncomputable abbrev St:=List (Option V)
abbrev VK:=V->Hp->Prop
abbrev TE:=St->Hp->VK->Prop
abbrev TT:=St->Hp->(Bool->Hp->Prop)->Prop
abbrev TA:=St->Hp->(List V->Hp->Prop)->Prop
structure Ends where
 nx:St->Hp->Prop
 rt:VK
 bk:St->Hp->Prop:=λ_ _=>False
 ct:St->Hp->Prop:=λ_ _=>False
abbrev TS:=Ends->St->Hp->Prop
def EP(X:Cx)(pins:Pn)(σ:St)(Q:VK)(u:ae)(s':aC):Prop:=∃v H',Inv X pins σ H' s'/\ZZ v u/\Q v H'
noncomputable def TP(X:Cx)(pins:Pn)(σ:St)(Q:Bool->Hp->Prop)(b:Bool)(s':aC):Prop:=∃H',Inv X pins σ H' s'/\Q b H'
def AP(X:Cx)(pins:Pn)(σ:St)(Q:List V->Hp->Prop)(us:List ae)(s':aC):Prop:=∃vs H',Inv X pins σ H' s'/\ZS vs us/\Q vs H'
def SP(X:Cx)(pins:Pn)(D:Ends)(f:Flow)(s':aC):Prop:=
 match f with
 |.next=>∃σ' H',Inv X pins σ' H' s'/\D.nx σ' H'
 |.brk=>∃σ' H',Inv X pins σ' H' s'/\D.bk σ' H'
 |.cont=>∃σ' H',Inv X pins σ' H' s'/\D.ct σ' H'
 |.ret u=>∃v σ' H',Inv X pins σ' H' s'/\ZZ v u/\D.rt v H'
def PE(X:Cx)(e:Expr)(t:TE):Prop:=
 ∀(pins:Pn)(s:aC)(σ:St)(H:Hp)(Q:VK),Inv X pins σ H s->t σ H Q->wpAny (ao X.prog X.w) X.A (eval e X.env) (EP X pins σ Q) X.xe s
def PT(X:Cx)(e:Expr)(t:TT):Prop:=
 ∀(pins:Pn)(s:aC)(σ:St)(H:Hp)(Q:Bool->Hp->Prop),Inv X pins σ H s->t σ H Q->wpAny (ao X.prog X.w) X.A (isTrue e X.env (eval e X.env)) (TP X pins σ Q) X.xe s
def PW(X:Cx)(e:Expr)(t:TT):Prop:=
 ∀(whole:Sem ae)(pins:Pn)(s:aC)(σ:St)(H:Hp)(Q:Bool->Hp->Prop),Inv X pins σ H s->t σ H Q->wpAny (ao X.prog X.w) X.A (isTrue e X.env whole) (TP X pins σ Q) X.xe s
theorem PW.pt(h:PW X e t):PT X e t:=h _
def PA(X:Cx)(es:List Expr)(t:TA):Prop:=
 ∀(pos:Pos)(pins:Pn)(s:aC)(σ:St)(H:Hp)(Q:List V->Hp->Prop),Inv X pins σ H s->t σ H Q->wpAny (ao X.prog X.w) X.A (spliced (cR pos (av es X.env))) (AP X pins σ Q) X.xe s
def PS(X:Cx)(st:Stmt)(t:TS):Prop:=
 ∀(pins:Pn)(s:aC)(σ:St)(H:Hp)(D:Ends),Inv X pins σ H s->t D σ H->wpAny (ao X.prog X.w) X.A (exec st X.env) (SP X pins D) X.xe s
def PSs(X:Cx)(st:List Stmt)(t:TS):Prop:=
 ∀(pins:Pn)(s:aC)(σ:St)(H:Hp)(D:Ends),Inv X pins σ H s->t D σ H->wpAny (ao X.prog X.w) X.A (execs st X.env) (SP X pins D) X.xe s
theorem thn{t:Sem α}{Q Q':α->aC->Prop}(h:wpAny M A t Q E s)(hQ:∀a s,Q a s->Q' a s):wpAny M A t Q' E s:=wpAny_mono h hQ λ_ _ x=>x
section
noncomputable def Zuj(i:Nat):TE:=λσ H Q=>∃v,σ[i]?=some (some v)/\Q v H
noncomputable def tC(v:V):TE:=λ_ H Q=>Q v H
theorem ZkZ(hN:X.N[i]?=some x)(hv:Vis X.env.scope x)(hd:autoParam ((x==("__debug__":Str))=false) Qde._auto_1)(hcd:autoParam ((x==("__classdict__":Str))=false) Qde._auto_1):PE X (.Name x pos) (Zuj i):=by
 intro pins s σ H Q I h;obtain⟨v,e,h⟩:=h;obtain⟨m,hn,hl⟩:=I.loc;obtain⟨u,r,l⟩:=hl i x v hN e hv;have fin:EP X pins σ Q u s:=⟨v,H,I,r,h⟩;rcases l with⟨hk,hm⟩|⟨hk,c,hc,hcell⟩
 .exact wpAny_Name (wpAny_loadName_local I.ok.kind hk hn hm fin) hd
 .rcases hk with hk|hk
  .exact wpAny_Name (wpAny_loadName_cell I.ok.kind hk hc hcell fin) hd
  .exact wpAny_Name (wpAny_loadName_free I.ok.kind hk hc hcell fin hcd) hd
theorem Zon{i j pos}:PE X (.Constant (.int i) j pos) (tC (.int i)):=λ_ _ _ H _ I h=>wpAny_Constant_int ⟨.int i,H,I.tok _,⟨_,rfl⟩,h⟩
theorem ZrX{b j pos}:PE X (.Constant (.bool b) j pos) (tC (.bl b)):=λ_ _ _ H _ I h=>Constant_bool ⟨.bl b,H,I,rfl,h⟩
theorem Zoo{j pos}:PE X (.Constant .none j pos) (tC .non):=λ_ _ _ H _ I h=>Constant_none ⟨.non,H,I,rfl,h⟩
theorem Zop{x j pos}:PE X (.Constant (.str x) j pos) (tC (.str x)):=λ_ _ _ H _ I h=>Calls.Constant_str ⟨.str x,H,I.tok _,⟨_,rfl⟩,h⟩
noncomputable def Gl(X:Cx)(x:Str):Prop:=X.env.kindOf x=some .globalImplicit
theorem Zhe(I:Inv X pins σ H s)(hg:Gl X x)(hm:X.mg x=some u)(h:Q u s)(hd:autoParam ((x==("__debug__":Str))=false) Qde._auto_1):wpAny (ao X.prog X.w) X.A (eval (.Name x pos) X.env) Q E s:=
 Calls.Name_function_global I.ok.kind hg (Calls.loadGlobal_global (by rw[I.ok.glob];exact I.mod.glob.keeps I.bk) hm h) hd
theorem Zbw(I:Inv X pins σ H s)(hg:Gl X x)(hm:X.mg x=none)(hv:bL x=some u)(h:Q u s)(hn:autoParam (x≠"__name__") Qde._auto_1)(hd:autoParam ((x==("__debug__":Str))=false) Qde._auto_1):wpAny (ao X.prog X.w) X.A (eval (.Name x pos) X.env) Q E s:=by
 obtain⟨mb,h1,h2⟩:=I.mod.blt;exact Calls.Name_function_global I.ok.kind hg (Calls.loadGlobal_builtin (by rw[I.ok.glob];exact I.mod.glob.keeps I.bk) hm (by rw[I.ok.blt];exact h1.keeps I.bk) ((h2 x hn).trans hv) h) hd
theorem Zl8(hg:Gl X x)(hm:X.mg x=none)(hv:bL x=some u)(r:ZZ v u)(hn:autoParam (x≠"__name__") Qde._auto_1)(hd:autoParam ((x==("__debug__":Str))=false) Qde._auto_1):PE X (.Name x pos) (tC v):=
 λ_ _ _ H _ I h=>Zbw I hg hm hv ⟨v,H,I,r,h⟩ hn hd
variable {a:Expr}{tb:TE}
noncomputable def tB(t:TE):TT:=λσ H Q=>t σ H λx H1=>∃c,x=.bl c/\Q c H1
theorem Zoq(h:PE X e t)(he:autoParam (∀whole,isTrue e X.env whole=(do let v <-whole;standAt e.pos;holding [v] (truthy v))) Qin._auto_1):PT X e (tB t):=by
 intro pins s σ H Q I hw;refine isTrue_plain (thn (h pins s σ H _ I hw) λv s1 hz=>?_) (he _);obtain⟨x,H1,I1,r1,q1⟩:=hz;obtain⟨d,rfl,q⟩:=q1;cases r1;exact dI ⟨H1,I1,q⟩
variable {Zae:List Expr}
noncomputable def Zvj(t u:TT):TT:=λσ H Q=>t σ H λc H1=>if c=true then u σ H1 Q else Q false H1
noncomputable def tOr(t u:TT):TT:=λσ H Q=>t σ H λc H1=>if c=true then Q true H1 else u σ H1 Q
noncomputable def Zvk(t:TT):TT:=λσ H Q=>t σ H λc H1=>Q (!c) H1
theorem pw_and1(ha:PT X a tA):PW X (.BoolOp .And [a] pos) tA:=by
 intro wh pins s σ H Q I h;refine isTrue_and (thn (ha pins s σ H Q I h) λc s1 e=>?_);cases c with
 |true=>exact isTrue_and_nil e
 |false=>exact e
theorem pw_or1(ha:PT X a tA):PW X (.BoolOp .Or [a] pos) tA:=by
 intro wh pins s σ H Q I h;refine isTrue_or (thn (ha pins s σ H Q I h) λc s1 e=>?_);cases c with
 |false=>exact isTrue_or_nil e
 |true=>exact e
theorem pw_and(ha:PT X a tA)(hb:PW X (.BoolOp .And (b::Zae) pos) tB'):PW X (.BoolOp .And (a::b::Zae) pos) (Zvj tA tB'):=by
 intro wh pins s σ H Q I h;refine isTrue_and (thn (ha pins s σ H _ I h) λc s1 hz=>?_);obtain⟨H1,I1,q1⟩:=hz;cases c with
 |true=>exact hb wh pins s1 σ H1 Q I1 q1
 |false=>exact⟨H1,I1,q1⟩
theorem pw_or(ha:PT X a tA)(hb:PW X (.BoolOp .Or (b::Zae) pos) tB'):PW X (.BoolOp .Or (a::b::Zae) pos) (tOr tA tB'):=by
 intro wh pins s σ H Q I h;refine isTrue_or (thn (ha pins s σ H _ I h) λc s1 hz=>?_);obtain⟨H1,I1,q1⟩:=hz;cases c with
 |true=>exact⟨H1,I1,q1⟩
 |false=>exact hb wh pins s1 σ H1 Q I1 q1
theorem Zor(ha:PT X a tA):PT X (.UnaryOp .Not a pos) (Zvk tA):=by
 intro pins s σ H Q I h;exact isTrue_not (ha pins s σ H (λc H1=>Q (!c) H1) I h)
noncomputable def ZrY(ta tb:TE):TE:=λσ H Q=>ta σ H λx H1=>∃c,x=.bl c/\if c=true then tb σ H1 Q else Q (.bl false) H1
noncomputable def ZrZ(ta:TE):TE:=λσ H Q=>ta σ H λx H1=>∃c,x=.bl c/\Q (.bl (!c)) H1
theorem Zos{op}(h:PE X a t):PE X (.BoolOp op [a] pos) t:=λpins s σ H Q I hw=>BoolOp_one (h pins s σ H Q I hw)
theorem Zot(ha:PE X a ta)(hb:PE X (.BoolOp .And (b::Zae) pos) tb):PE X (.BoolOp .And (a::b::Zae) pos) (ZrY ta tb):=by
 intro pins s σ H Q I h;refine BoolOp_and (thn (ha pins s σ H _ I h) λv s1 hz=>?_);obtain⟨x,H1,I1,r1,q1⟩:=hz;obtain⟨c,rfl,q1⟩:=q1;cases r1;refine dI ?_;cases c with
 |true=>exact hb pins s1 σ H1 Q I1 q1
 |false=>exact⟨.bl false,H1,I1,rfl,q1⟩
theorem Zou(ha:PE X a ta):PE X (.UnaryOp .Not a pos) (ZrZ ta):=by
 intro pins s σ H Q I h;refine UnaryOp_ (thn (ha pins s σ H _ I h) λv s1 hz=>?_);obtain⟨x,H1,I1,r1,q1⟩:=hz;obtain⟨c,rfl,q1⟩:=q1;cases r1;exact not_of (dI ⟨.bl (!c),H1,I1,rfl,q1⟩)
end
def SqL(K:Fg)(H:Hp)(a:Addr)(xs:List V):Prop:=
 Rd H a (.lst xs)\/
  ∃(o:Obj) (its:Array ae) (n:Nat),K.lookup a=some o/\o.cls=.type "list"/\o.dict=none/\o.data=.seq its n/\its.size<=sizeLine/\ZS xs its.toList
def SqT(K:Fg)(H:Hp)(a:Addr)(xs:List V):Prop:=
 Rd H a (.tup xs)\/
  ∃(o:Obj) (its:Array ae) (n:Nat),K.lookup a=some o/\o.cls=.type "tuple"/\o.data=.seq its n/\its.size<=sizeLine/\ZS xs its.toList
noncomputable def Zvl:ae->Option V
 |.none=>some .non
 |.bool b=>some (.bl b)
 |.int i _=>some (.int i)
 |.str x _=>some (.str x)
 |.bytes b _=>some (.byt b)
 |.float b _=>some (.flt b)
 |.ref a=>some (.ref a)
 |.type n=>some (.ty n)
 |_=>none
theorem ZZ.abs(r:ZZ x u):Zvl u=some x:=by
 cases x with
 |non=>cases r;rfl
 |bl _=>cases r;rfl
 |int _=>obtain⟨t,rfl⟩:=r;rfl
 |str _=>obtain⟨t,rfl⟩:=r;rfl
 |byt _=>obtain⟨t,rfl⟩:=r;rfl
 |flt _=>obtain⟨t,rfl⟩:=r;rfl
 |ref _=>cases r;rfl
 |ty _=>cases r;rfl
theorem ZZ.inj(r:ZZ x u)(q:ZZ y u):x=y:=aM (r.abs.symm.trans q.abs)
theorem ZS.inj:∀{xs ys:List V}{us:List ae},ZS xs us->ZS ys us->xs=ys:=by
 intro xs ys us h
 induction h generalizing ys with
 |nil=>intro h;cases h;rfl
 |cons r t ih=>intro h;cases h with|cons r2 t2=>rw[r.inj r2,ih t2]
theorem SqL.of{K:Fg}(h:H a=some (.lst xs)):SqL K H a xs:=.inl (.inl h)
theorem SqT.of{K:Fg}(h:H a=some (.tup xs)):SqT K H a xs:=.inl (.inl h)
theorem Inv.list(I:Inv X pins σ H s)(h:SqL X.K H a xs):∃its:List ae,ZS xs its/\PlainL s.heap a its.toArray/\xs.length<=sizeLine:=by
 rcases h with h|⟨o,its,n,hk,hc,hd,hs,hz,r⟩
 .obtain⟨z,its,n,r,e⟩:=h.ok I.hok;exact⟨its,r,⟨_,n,e,rfl,rfl,rfl⟩,z⟩
 .refine⟨its.toList,r,⟨o,n,I.kIn a o hk,hc,hd,by simpa using hs⟩,?_⟩
  have e:=r.length;simp only[bD]at e;lia
theorem Inv.tuple(I:Inv X pins σ H s)(h:SqT X.K H a xs):∃its:List ae,ZS xs its/\IsTup s.heap a its.toArray/\xs.length<=sizeLine:=by
 rcases h with h|⟨o,its,n,hk,hc,hs,hz,r⟩
 .obtain⟨z,its,r,p⟩:=h.ok I.hok;exact⟨its,r,p,z⟩
 .refine⟨its.toList,r,⟨o,I.kIn a o hk,hc,n,by simpa using hs⟩,?_⟩
  have e:=r.length;simp only[bD]at e;lia
theorem Inv.list_inj(I:Inv X pins σ H s)(h:SqL X.K H a xs)(h':SqL X.K H a ys):xs=ys:=by
 obtain⟨its,r,⟨o,n,e,_,_,d⟩,_⟩:=I.list h;obtain⟨its',r',⟨o',n',e',_,_,d'⟩,_⟩:=I.list h';rw[e]at e';cases e';rw[d]at d';injection d' with d1 _
 have:its=its':=by simpa using congrArg Array.toList d1
 subst this;exact r.inj r'
theorem Inv.tuple_inj(I:Inv X pins σ H s)(h:SqT X.K H a xs)(h':SqT X.K H a ys):xs=ys:=by
 obtain⟨its,r,⟨o,e,_,n,d⟩,_⟩:=I.tuple h;obtain⟨its',r',⟨o',e',_,n',d'⟩,_⟩:=I.tuple h';rw[e]at e';cases e';rw[d]at d';injection d' with d1 _
 have:its=its':=by simpa using congrArg Array.toList d1
 subst this;exact r.inj r'
noncomputable abbrev Cx.wish(X:Cx)(E:Vp):Cx:={X with xe:=E}
abbrev Cx.nox(X:Cx):Cx:=X.wish λ_ _=>False
theorem Cx.Ok.wish {X:Cx}(ok:X.Ok)(E:Vp):(X.wish E).Ok:=
 ⟨ok.mod,ok.kind,ok.glob,ok.blt,ok.above,ok.inj,ok.has,ok.cab,ok.hd,ok.frames,ok.stk,ok.exf,ok.bs,ok.bsz,ok.noex,ok.exfs,ok.funs,ok.frf,ok.tb⟩
theorem Cx.Ok.unwish {X:Cx}(ok:(X.wish E).Ok):X.Ok:=
 ⟨ok.mod,ok.kind,ok.glob,ok.blt,ok.above,ok.inj,ok.has,ok.cab,ok.hd,ok.frames,ok.stk,ok.exf,ok.bs,ok.bsz,ok.noex,ok.exfs,ok.funs,ok.frf,ok.tb⟩
theorem Inv.wish(I:Inv X pins σ H s)(E:Vp):Inv (X.wish E) pins σ H s:=⟨I.ok.wish E,I.os,I.bare,I.base,I.loc,I.cell,I.free,I.freeC,I.pin,I.hok,I.len,I.qd,I.fx⟩
theorem Inv.unwish(I:Inv (X.wish E) pins σ H s):Inv X pins σ H s:=⟨I.ok.unwish,I.os,I.bare,I.base,I.loc,I.cell,I.free,I.freeC,I.pin,I.hok,I.len,I.qd,I.fx⟩
theorem SP.unwish(h:SP (X.wish E) pins D f s'):SP X pins D f s':=by
 cases f with
 |next=>obtain⟨σ',H',I,q⟩:=h;exact⟨σ',H',I.unwish,q⟩
 |brk=>obtain⟨σ',H',I,q⟩:=h;exact⟨σ',H',I.unwish,q⟩
 |cont=>obtain⟨σ',H',I,q⟩:=h;exact⟨σ',H',I.unwish,q⟩
 |ret u=>obtain⟨v,σ',H',I,r,q⟩:=h;exact⟨v,σ',H',I.unwish,r,q⟩
theorem PSs.nox{st:List Stmt}(h:PSs X.nox st t):PSs X st t:=λpins s σ H D I hw=>
 wpAny_mono (h pins s σ H D (I.wish _) hw) (λ_ _ q=>q.unwish) λ_ _ z=>gn z
section
variable {X:Cx}{st:Stmt}{Zae:List Stmt}
noncomputable def tNext:TS:=λD σ H=>D.nx σ H
noncomputable def Zvm(t u:TS):TS:=λD σ H=>t {D with nx:=u D} σ H
theorem Zl9:PSs X [] tNext:=λ_ _ σ H _ I h=>iX ⟨σ,H,I,h⟩
theorem ZjH(h1:PS X st t)(h2:PSs X Zae u):PSs X (st::Zae) (Zvm t u):=by
 intro pins s σ H D I h;refine wpAny_execs_cons (thn (h1 pins s σ H {D with nx:=u D} I h) λf s1 q=>?_);cases f with
 |next=>
  obtain⟨σ',H',I',q⟩:=q;exact h2 pins s1 σ' H' D I' q
 |ret v=>exact q
 |brk=>exact q
 |cont=>exact q
theorem Zma(h1:PS X st t):PSs X [st] t:=by
 intro pins s σ H D I h;refine wpAny_execs_cons (thn (h1 pins s σ H D I h) λf s1 q=>?_);cases f with
 |next=>exact iX q
 |ret v=>exact q
 |brk=>exact q
 |cont=>exact q
noncomputable def tBreak:TS:=λD σ H=>D.bk σ H
theorem ZjI:PS X (.Break pos) tBreak:=λ_ _ σ H _ I h=>wpAny_Break ⟨σ,H,I,h⟩
theorem Inv.quiet(I:Inv X pins σ H s):interactive X.env=false:=by simp[interactive,I.ok.kind]
noncomputable def Zr0(te:TE):TS:=λD σ H=>te σ H λ_ H1=>D.nx σ H1
theorem Zmb(he:PE X e te)(hs:autoParam (ja e none pos.line X.env=pure false) Qrf._auto_1):PS X (.Expr e pos) (Zr0 te):=by
 intro pins s σ H D I h;exact wpAny_Expr_any (thn (he pins s σ H _ I h) λv s1 ⟨x,H1,I1,r1,q1⟩=>⟨σ,H1,I1,q1⟩) I.quiet hs
noncomputable def Zvn(te:TE):TS:=λD σ H=>te σ H D.rt
theorem Zov(he:PE X e te):PS X (.Return (some e) pos) (Zvn te):=by
 intro pins s σ H D I h;exact wpAny_Return_some (thn (he pins s σ H _ I h) λv s1 ⟨x,H1,I1,r1,q1⟩=>⟨x,σ,H1,I1,r1,q1⟩)
noncomputable def Zvo(c:TT)(t u:TS):TS:=λD σ H=>c σ H λb H1=>if b=true then t D σ H1 else u D σ H1
theorem Zr1(hc:PT X c tc)(ha:PSs X a t)(hb:PSs X b u):PS X (.If c a b pos) (Zvo tc t u):=by
 intro pins s σ H D I h;refine wpAny_If (thn (hc pins s σ H _ I h) λd s1 hz=>?_);obtain⟨H1,I1,q1⟩:=hz;cases d with
 |true=>exact ha pins s1 σ H1 D I1 q1
 |false=>exact hb pins s1 σ H1 D I1 q1
end
abbrev TG:=V->St->Hp->(St->Hp->Prop)->Prop
abbrev TGs:=List V->St->Hp->(St->Hp->Prop)->Prop
def PG(X:Cx)(target:Expr)(t:TG):Prop:=
 ∀(pins:Pn)(s:aC)(σ:St)(H:Hp)(v:V)(u:ae)(Q:St->Hp->Prop),Inv X pins σ H s->ZZ v u->t v σ H Q->
  wpAny (ao X.prog X.w) X.A (assign target X.env u) (λ_ s'=>∃σ' H',Inv X pins σ' H' s'/\Q σ' H') X.xe s
def PGs(X:Cx)(ts:List Expr)(t:TGs):Prop:=
 ∀(pins:Pn)(s:aC)(σ:St)(H:Hp)(vs:List V)(us:List ae)(Q:St->Hp->Prop),Inv X pins σ H s->ZS vs us->t vs σ H Q->
  wpAny (ao X.prog X.w) X.A (assignInOrder ((dq ts X.env).map (·.2)) us) (λ_ s'=>∃σ' H',Inv X pins σ' H' s'/\Q σ' H') X.xe s
abbrev Zr2:=V->V->V->Hp->(Hp->Prop)->Prop
def Zuk(X:Cx)(t:Zr2):Prop:=
 ∀(pins:Pn)(s:aC)(σ:St)(H:Hp)(o i v:V)(ov iv u:ae)(Q:Hp->Prop),Inv X pins σ H s->ZZ o ov->ZZ i iv->ZZ v u->t o i v H Q->
  wpAny (ao X.prog X.w) X.A (setItem ov iv u) (λ_ s'=>∃H',Inv X pins σ H' s'/\Q H') X.xe s
noncomputable def Zow(i:Nat):TG:=λv σ H Q=>Q (σ.set i (some v)) H
theorem Zmc(hN:X.N.Nodup)(hi:X.N[i]?=some x)(hx:Loc X.env.scope x)(hm:X.may i=true)(hf:X.fn x=true\/X.env.scope.names.lookup x=some .local:=by first|exact .inl rfl|exact .inr rfl|assumption):PG X (.Name x pos) (Zow i):=by
 intro pins s σ H v u Q I r h;exact wpAny_assign_Name (Zcz I hN hi hx hm r (λs' I'=>⟨_,H,I',h⟩) hf)
noncomputable def gNil:TGs:=λvs σ H Q=>vs=[]/\Q σ H
noncomputable def Zr3(t:TG)(u:TGs):TGs:=λvs σ H Q=>∃v r,vs=v::r/\t v σ H λσ' H'=>u r σ' H' Q
theorem Zmd:PGs X [] gNil:=by
 intro pins s σ H vs us Q I r h;obtain⟨e,h⟩:=h;subst e;cases r;exact assignInOrder_nil ⟨σ,H,I,h⟩
theorem ZjJ(h1:PG X e t)(h2:PGs X es u)(hs:autoParam ((dq (e::es) X.env).map (·.2)=assign e X.env::(dq es X.env).map (·.2)) Qrf._auto_1):PGs X (e::es) (Zr3 t u):=by
 intro pins s σ H vs us Q I r h;obtain⟨v,vr,e1,h⟩:=h;subst e1;cases r with
 |cons r rr=>
  rw[hs];refine jo (thn (h1 pins s σ H _ _ _ I r h) λ_ s1 hz=>?_);obtain⟨σ1,H1,I1,q1⟩:=hz;exact h2 pins s1 σ1 H1 _ _ Q I1 rr q1
def Zvp(K:Fg)(n:Nat)(t:TGs):TG:=λv σ H Q=>∃a xs,v=.ref a/\SqT K H a xs/\xs.length=n/\t xs σ H Q
theorem Zox(hc:X.calm=true)(h:PGs X es t)(hn:autoParam ((dq es X.env).length=n) Qrf._auto_1)(hst:autoParam ((dq es X.env).findIdx? (·.1)=none) Qrf._auto_1):PG X (.Tuple es k pos) (Zvp X.K n t):=by
 intro pins s σ H v u Q I r hw;obtain⟨a,xs,e1,hq,hl,hw⟩:=hw;subst e1;cases r;obtain⟨its,rv,ht,hz⟩:=I.tuple hq;refine assign_Tuple_tuple (I.ok.hd hc) ht (by simp[hn,<-hl,rv.length]) hst λh' hx=>?_
 have I1:Inv X pins σ H {s with heap:=h'}:=I.kept (t':=s.toks) λb o e=>hx b o (aE (Hz e)) e;exact h pins _ σ H xs _ Q I1 (by simpa using rv) hw
noncomputable def Zvq(to ti:TE)(t:Zr2):TG:=λv σ H Q=>to σ H λo H1=>ti σ H1 λi H2=>t o i v H2 λH3=>Q σ H3
theorem Zoy(ho:PE X o to)(hi:PE X i ti)(hs:Zuk X t)(ha:∀v,assign (.Subscript o i pos) X.env v=(do
   let ov <-holding [v] (eval o X.env)
   let iv <-holding [v,ov] (eval i X.env)
   standAt pos
   holding [v,ov,iv] (setItem ov iv v)
   release [v,ov,iv] []):=by intro _;rfl):PG X (.Subscript o i pos) (Zvq to ti t):=by
 intro pins s σ H v u Q I r h;rw[ha];refine Wb (wpAny_holding (thn (ho pins s σ H _ I h) λov s1 hz=>?_));obtain⟨x,H1,I1,r1,q1⟩:=hz;refine Wb (wpAny_holding (thn (hi pins s1 σ H1 _ I1 q1) λiv s2 hz=>?_));obtain⟨y,H2,I2,r2,q2⟩:=hz;refine Wb (wpAny_standAt (Wb (wpAny_holding (thn (hs pins s2 σ H2 x y v ov iv u _ I2 r1 r2 r q2) λ_ s3 hz=>?_))));obtain⟨H3,I3,q3⟩:=hz;exact wpAny_release ⟨σ,H3,I3,q3⟩
noncomputable def Zul(te:TE)(g:TG):TS:=λD σ H=>te σ H λx H1=>g x σ H1 D.nx
theorem Zk0(he:PE X e te)(hg:PG X tg g)(hs:autoParam (iO [tg] e pos.line X.env=pure false) Qrf._auto_1)(hw:autoParam (fP [tg] e X.env=pure none) Qrf._auto_1)(h1:autoParam ((dq [tg] X.env).map (·.2)=[assign tg X.env]) Qrf._auto_1):PS X (.Assign [tg] e pos) (Zul te g):=by
 intro pins s σ H D I h;refine wpAny_Assign_stores (thn (he pins s σ H _ I h) λv s1 hz=>?_) hs hw;obtain⟨x,H1,I1,r1,q1⟩:=hz;rw[h1];exact thn (hg pins s1 σ H1 x v _ I1 r1 q1) λ_ s2 q=>q
theorem Zoz(hN:X.N.Nodup)(hi:X.N[i]?=some x)(hx:Loc X.env.scope x)(hm:X.may i=true)(he:PE X e te)(hs:autoParam (ja e (some (.Name x pos')) pos.line X.env=pure false) Qrf._auto_1)(hf:X.fn x=true\/X.env.scope.names.lookup x=some .local:=by first|exact .inl rfl|exact .inr rfl|assumption) :
  PS X (.Assign [.Name x pos'] e pos) (Zul te (Zow i)):=by
 intro pins s σ H D I h;refine wpAny_Assign_Name (thn (he pins s σ H _ I h) λv s1 hz=>?_) hs;obtain⟨y,H1,I1,r1,q1⟩:=hz;exact Zcz I1 hN hi hx hm r1 (λs2 I2=>⟨_,H1,I2,q1⟩) hf
noncomputable def Zvr(i j:Nat)(ta:TA):TS:=λD σ H=>ta σ H λvs H1=>∃v w,vs=[v,w]/\D.nx ((σ.set i (some v)).set j (some w)) H1
theorem ZoA{kt k2 pt2}(hc:X.calm=true)(mi:X.may i=true)(mj:X.may j=true)(hN:X.N.Nodup)(hi:X.N[i]?=some x)(hj:X.N[j]?=some y)(hij:i≠j)(hx:X.env.scope.names.lookup x=some .local)(hy:X.env.scope.names.lookup y=some .local)(ha:PA X [a,b] ta)(hw:fP [.Tuple [.Name x px,.Name y py] kt pt] (.Tuple [a,b] k2 pt2) X.env=pure (some [x,y]))(hs:autoParam (iO [.Tuple [.Name x px,.Name y py] kt pt] (.Tuple [a,b] k2 pt2) pos.line X.env=pure false) Qrf._auto_1) :
  PS X (.Assign [.Tuple [.Name x px,.Name y py] kt pt] (.Tuple [a,b] k2 pt2) pos) (Zvr i j ta):=by
 intro pins s σ H D I h;rw[exec_Assign_arm];refine Wb (wpAny_standAt ?_);rw[hs];refine Wb (Wp ?_);rw[if_neg (by decide)]
 refine Wb (Tuple_ (thn (ha _ pins s σ H _ I h) λus s1 hz=>?_));obtain⟨vs,H1,I1,r1,q1⟩:=hz;obtain⟨v,w,e1,q1⟩:=q1;subst e1;obtain⟨u1,u2,rfl,rv,rw'⟩:∃u1 u2,us=[u1,u2]/\ZZ v u1/\ZZ w u2:=by
  cases r1 with
  |cons p q=>
   cases q with
   |cons p' q'=>
    cases q';exact⟨_,_,rfl,p,p'⟩
 refine cD ?_ (by show 2<=sizeLine;decide)
 have I2:Inv X pins σ H1 {s1 with heap:=s1.heap.push {cls:=.type "tuple",data:=.seq [u1,u2].toArray}}:=I1.kept (t':=s1.toks) λb o e=>Hq _ e;rw[hw];refine Wb (Wp ?_);show wpAny (ao X.prog X.w) X.A (do rule "assign.swapped-stores";let items <-unpackItems (.ref s1.heap.objs.size) 2 none;assignInOrder [λv=>bindName X.env y v,λv=>bindName X.env x v] items.reverse;pure Flow.next) _ _ _
 refine Wb (wpAny_rule (Wb (unpackItems_tuple (items:= #[u1,u2]) (I.ok.hd hc) (IsTup.new s1.heap _) λh' hx'=>?_)));have I3:=I2.kept (h':=h') (t':=s1.toks) λb o e=>hx' b o (aE (Hz e)) e;show wpAny _ _ (assignInOrder [λv=>bindName X.env y v,λv=>bindName X.env x v] [u2,u1] >>= λ_=>pure Flow.next) _ _ _
 refine Wb (jo (wpAny_bindName (Zcz I3 hN hj (.inl hy) mj rw' (λs2 I4=>?_) (.inr hy))));refine jo (wpAny_bindName (Zcz I4 hN hi (.inl hx) mi rv (λs3 I5=>assignInOrder_nil (Wp ?_)) (.inr hx)));rw[List.set_comm _ _ (cu hij)]at I5;exact⟨_,H1,I5,q1⟩
def ZoB(c:TT)(tb:TS):TS:=λD σ H=>∃W:Nat->St->Hp->Prop,(∃m,W m σ H)/\∀m σ H,W m σ H->
 c σ H λb H1=>if b=true then ∃N:St->Hp->Prop,(∀σ' H',N σ' H'->∃m',m'<m/\W m' σ' H')/\tb {D with nx:=N,ct:=N,bk:=D.nx} σ H1 else D.nx σ H1
theorem ZjK(hp:fQ (ao X.prog X.w) X.A X.env X.xe)(hc:PT X c tc)(hb:PSs X body tb):PS X (.While c body [] pos) (ZoB tc tb):=by
 intro pins s σ H D I h;obtain⟨W,⟨m0,w0⟩,turn⟩:=h;refine wpAny_While (codeAny_whileLoop (λn s'=>∃σ' H',Inv X pins σ' H' s'/\W n σ' H') ?_ m0 ⟨σ,H,I,w0⟩);rintro n s1 ⟨σ1,H1,I1,w1⟩;refine eG hp (thn (hc pins s1 σ1 H1 _ I1 (turn n σ1 H1 w1)) λb s2 hz=>?_);obtain⟨H2,I2,q2⟩:=hz;cases b with
 |true=>
  obtain⟨N,hN,q2⟩:=q2;rw[if_pos rfl];refine eG hp (thn (hb pins s2 σ1 H2 _ I2 q2) λf s3 q3=>?_);cases f with
  |next=>
   obtain⟨σ3,H3,I3,n3⟩:=q3;obtain⟨m',hm,w3⟩:=hN σ3 H3 n3;exact⟨m',hm,σ3,H3,I3,w3⟩
  |cont=>
   obtain⟨σ3,H3,I3,n3⟩:=q3;obtain⟨m',hm,w3⟩:=hN σ3 H3 n3;exact⟨m',hm,σ3,H3,I3,w3⟩
  |brk=>exact q3
  |ret v=>exact q3
 |false=>
  rw[if_neg cG];exact iX ⟨σ1,H2,I2,q2⟩
structure It where
 go:Nat->Hp->Prop
 yld:Nat->Hp->V->Hp->Prop
 stop:Nat->Hp->Prop
def ZeZ(X:Cx)(pins:Pn)(H:Hp)(b:Addr):Prop:=
 H b=none/\b≠X.env.locals/\b∉X.fs/\(b∈X.ex\/X.s₀.heap.objs.size<=b)/\(∀x c,X.env.cells.lookup x=some c->c≠b)/\∀p∈X.pn++pins,p.1≠b
theorem Inv.fpOk(I:Inv X pins σ H s)(hb:s.heap.objs.size<=b)(hn:H' b=none):ZeZ X pins H' b:=by
 refine⟨hn,bG (am I.lt hb),I.nofs hb,.inr (aZ I.sz hb),λx c e z=>?_,λp hp z=>?_⟩
 .obtain⟨v,q⟩:=I.cell x c e;exact absurd (am q.lt (by rw[z];exact hb)) (b7 _)
 .exact absurd (am (Hz (I.pin p hp).1) (by rw[z];exact hb)) (b7 _)
structure Turn(P:cE) (w:c6) (K:Fg) (B:cV) (tg:Expr) (J:It) (fp:List Addr) (it:Addr) (tn:Nat->Heap->Prop):Prop where
 mem:it∈fp
 obj:∀i h,tn i h->∀b∈fp,∃o,h.get? b=some o/\∀v,o.data≠ .cell v
 keep:∀i h h',tn i h->(∀b∈fp,∀o,h.get? b=some o->h'.get? b=some o)->tn i h'
 item:∀(X:Cx),X.prog=P->X.w=w->X.K=K->X.A=B->∀(i:Nat)(pins:Pn)(s:aC)(σ:St)(H:Hp)(E:Vp),Inv X pins σ H s->(∀b∈fp,ZeZ X pins H b)->tn i s.heap->J.go i H->
  wpAny (ao P w) X.A (iG (.ref it)) (λr s1=>∃u,r=some u/\ wpAny (ao P w) X.A (gS tg (.ref it) u) (λ_ s2=>∃x H',Inv X pins σ H' s2/\ZZ x u/\J.yld i H x H'/\tn (i+1) s2.heap/\∀b∈fp,H' b=none) E s1) E s
 done:∀(X:Cx),X.prog=P->X.w=w->X.K=K->X.A=B->∀(i:Nat)(pins:Pn)(s:aC)(σ:St)(H:Hp)(E:Vp),Inv X pins σ H s->(∀b∈fp,ZeZ X pins H b)->tn i s.heap->J.stop i H->
  wpAny (ao P w) X.A (iG (.ref it)) (λr s1=>r=none/\Inv X pins σ H s1) E s
 self:∀(A:cV)(i:Nat)(s:aC)(Q:Vp)(E:Vp),tn i s.heap->Q (.ref it) s->wpAny (ao P w) A (pyIter (.ref it)) Q E s
abbrev TI:=St->Hp->(It->Hp->Prop)->Prop
def PIE(X:Cx)(pins:Pn)(σ:St)(tg:Expr)(R:It->Hp->Prop)(itv:ae)(s2:aC):Prop:=
 ∃(it:Addr) (fp:List Addr) (tn:Nat->Heap->Prop) (J:It) (H':Hp),itv=.ref it/\Inv X pins σ H' s2/\Turn X.prog X.w X.K X.A tg J fp it tn/\tn 0 s2.heap/\(∀b∈fp,ZeZ X pins H' b)/\R J H'
def PI(X:Cx)(tg iter:Expr)(wi:TI):Prop:=
 ∀(pins:Pn)(s:aC)(σ:St)(H:Hp)(R:It->Hp->Prop),Inv X pins σ H s->wi σ H R->
  wpAny (ao X.prog X.w) X.A (eval iter X.env) (λv s1=>wpAny (ao X.prog X.w) X.A (pyIter v) (PIE X pins σ tg R) X.xe s1) X.xe s
theorem Zme(ho:s.heap.get? it=some o)(hc:o.cls=.type n)(hd:o.data=.fields vs)(hn:["enumerate","zip","dict_itemiterator","dict_reverseitemiterator","odict_iterator","itertools.zip_longest","itertools.pairwise"].contains n=false)(hQ:Q () s):wpAny M A (gS tg (.ref it) u) Q E s:=by
 unfold gS;cases tg<;>first
  |exact Wp hQ
  | (cases u<;>first
    |exact Wp hQ
    | (refine Wb (wpAny_load ho ?_)
       rw[hc,hd];show wpAny M A (if(["enumerate","zip","dict_itemiterator","dict_reverseitemiterator","odict_iterator","itertools.zip_longest","itertools.pairwise"].contains n&&vs[0]? == some (da _))=true then _ else _) Q E s
       rw[if_neg (by intro h;rw[hn,Bool.false_and]at h;cases h)]
       exact Wp hQ))
def Itl(K:Fg)(a:Addr):It:=
 ⟨λi H=>∃xs x,SqL K H a xs/\xs[i]?=some x,λi H x H'=>H'=H/\∀xs,SqL K H a xs->xs[i]?=some x,λi H=>∃xs,SqL K H a xs/\xs.length<=i⟩
def Itt(K:Fg)(a:Addr):It:=
 ⟨λi H=>∃xs x,SqT K H a xs/\xs[i]?=some x,λi H x H'=>H'=H/\∀xs,SqT K H a xs->xs[i]?=some x,λi H=>∃xs,SqT K H a xs/\xs.length<=i⟩
noncomputable def Itr(lo:Int)(n:Nat):It:=⟨λi _=>i<n,λi H x H'=>H'=H/\x=.int (lo+i),λi _=>n<=i⟩
theorem Zhf{K:Fg}(a it:Addr):Turn P w K B tg (Itl K a) [it] it (λi h=>h.IsListIter it a i) where
 mem:=by simp
 obj:=λi h st b hb=>by
  have e:b=it:=by simpa using hb
  subst e;obtain⟨o,e,c,d⟩:=st;exact⟨o,e,λv z=>by rw[d]at z;cases z⟩
 keep:=λi h h' st k=>st.at λo e=>k it (by simp) o e
 item:=by
  intro X hP hw hK hB i pins s σ H E I hf st hg;subst hP hw hK;obtain⟨xs,x,hq,hx⟩:=hg;obtain⟨its,rv,p,hz⟩:=I.list hq;obtain⟨u,hu,ru⟩:=rv.get hx;obtain⟨f0,f1,f2,f3,f4,f5⟩:=hf it (by simp)
  refine wpAny_pyNext_list_item st p.isList (x:=u) (by simpa using hu) λh' st' sb=>?_
  have I1:Inv X pins σ H {s with heap:=h'}:=I.turned (t':=s.toks) (λb o hb e=>(sb.2 b hb).trans e) f0 f1 f3 f4 f5;obtain⟨o,e,c,d⟩:=id st';exact⟨u,rfl,Zme (s:={s with heap:=h'}) e c d (by decide) ⟨x,H,I1,ru,⟨rfl,λys hy=>by rw[I.list_inj hy hq];exact hx⟩,st',λb hb=>(hf b hb).1⟩⟩
 done:=by
  intro X hP hw hK hB i pins s σ H E I hf st hg;subst hP hw hK;obtain⟨xs,hq,hx⟩:=hg;obtain⟨its,rv,p,hz⟩:=I.list hq;obtain⟨f0,f1,f2,f3,f4,f5⟩:=hf it (by simp)
  have hl:=rv.length;exact DQ.ZjG I.qh st p.isList (by simp;lia) λh' eb=>⟨rfl,I.turned (t':=s.toks) (λb o hb e=>eb b o hb e) f0 f1 f3 f4 f5⟩
 self:=λ_ _ _ _ _ st h=>wpAny_pyIter_listiter st h
theorem ZgD{K:Fg}(a it:Addr):Turn P w K B tg (Itt K a) [it] it (λi h=>h.IsTupleIter it a i) where
 mem:=by simp
 obj:=λi h st b hb=>by
  have e:b=it:=by simpa using hb
  subst e;obtain⟨o,e,c,d⟩:=st;exact⟨o,e,λv z=>by rw[d]at z;cases z⟩
 keep:=λi h h' st k=>st.at λo e=>k it (by simp) o e
 item:=by
  intro X hP hw hK hB i pins s σ H E I hf st hg;subst hP hw hK;obtain⟨xs,x,hq,hx⟩:=hg;obtain⟨its,rv,p,hz⟩:=I.tuple hq;obtain⟨u,hu,ru⟩:=rv.get hx;obtain⟨f0,f1,f2,f3,f4,f5⟩:=hf it (by simp)
  refine wpAny_pyNext_tuple_item st (show s.heap.IsTuple a its.toArray from p) (x:=u) (by simpa using hu) λh' st' sb=>?_
  have I1:Inv X pins σ H {s with heap:=h'}:=I.turned (t':=s.toks) (λb o hb e=>(sb.2 b hb).trans e) f0 f1 f3 f4 f5;obtain⟨o,e,c,d⟩:=id st';exact⟨u,rfl,Zme (s:={s with heap:=h'}) e c d (by decide) ⟨x,H,I1,ru,⟨rfl,λys hy=>by rw[I.tuple_inj hy hq];exact hx⟩,st',λb hb=>(hf b hb).1⟩⟩
 done:=by
  intro X hP hw hK hB i pins s σ H E I hf st hg;subst hP hw hK;obtain⟨xs,hq,hx⟩:=hg;obtain⟨its,rv,p,hz⟩:=I.tuple hq;obtain⟨f0,f1,f2,f3,f4,f5⟩:=hf it (by simp)
  have hl:=rv.length;exact DQ.Zg7 I.qh st (show s.heap.IsTuple a its.toArray from p) (by simp;lia) λh' eb=>⟨rfl,I.turned (t':=s.toks) (λb o hb e=>eb b o hb e) f0 f1 f3 f4 f5⟩
 self:=λ_ _ _ _ _ st h=>wpAny_pyIter_tupleiter st h
open DQ (Zl3 Zg6)
theorem ZgE{K:Fg}(hT:T="range_iterator"\/T="longrange_iterator")(it:Addr)(lo:Int)(n:Nat):Turn P w K B tg (Itr lo n) [it] it (λi h=>Zl3 T h it (lo+(i:Nat)) ((n:Int)-(i:Nat))) where
 mem:=by simp
 obj:=λi h st b hb=>by
  have e:b=it:=by simpa using hb
  subst e;exact⟨_,st,λv z=>by
   have z':lO _=Data.cell v:=z;cases z'⟩
 keep:=λi h h' st k=>k it (by simp) _ st
 item:=by
  intro X hP hw hK hB i pins s σ H E I hf st hg;subst hP hw hK;obtain⟨f0,f1,f2,f3,f4,f5⟩:=hf it (by simp)
  have hlt:i<n:=hg;refine Zg6 hT st ⋯ λh' st' sb=>?_
  have I1:Inv X pins σ H {s with heap:=h',toks:=s.toks+1}:=I.turned (λb o hb e=>(sb.2 b hb).trans e) f0 f1 f3 f4 f5;have st2:Zl3 T h' it (lo+((i+1:Nat):Int)) ((n:Int)-((i+1:Nat):Int)):=by
   rw[show lo+((i+1:Nat):Int)=lo+(i:Nat)+1 by lia,show(n:Int)-((i+1:Nat):Int)=(n:Int)-(i:Nat)-1 by lia]
   exact st'
  exact⟨_,rfl,Zme (s:={s with heap:=h',toks:=s.toks+1}) (n:=T) st2 rfl rfl (by rcases hT with rfl|rfl<;>decide) ⟨.int (lo+i),H,I1,⟨s.toks,rfl⟩,⟨rfl,rfl⟩,st2,λb hb=>(hf b hb).1⟩⟩
 done:=by
  intro X hP hw hK hB i pins s σ H E I hf st hg;subst hP hw hK;obtain⟨f0,f1,f2,f3,f4,f5⟩:=hf it (by simp)
  refine DQ.Zog hT I.qh st (by have:n<=i:=hg;lia) λh' eb=>⟨rfl,I.turned (t':=s.toks) (λb o hb e=>eb b o hb e) f0 f1 f3 f4 f5⟩
 self:=λ_ _ _ _ _ st h=>by
  rcases hT with rfl|rfl
  .exact wpAny_pyIter_rangeiter st h
  .exact wpAny_pyIter_longiter st h
end L2
namespace L2
open PyProof.Rows
theorem ZfI{lo:Int}(I:Inv X pins σ H s)(q:R (Itr lo (hi-lo).toNat) H):wpAny (ao X.prog X.w) X.A (pyIter (.ref s.heap.objs.size)) (PIE X pins σ tg R) E {s with heap:=s.heap.push {cls:=.type "range",data:=.fields #[.int lo t,.int hi u,.int 1 v]},toks:=tk}:=by
 have I1:Inv X pins σ H {s with heap:=s.heap.push {cls:=.type "range",data:=.fields #[.int lo t,.int hi u,.int 1 v]},toks:=tk}:=I.kept λb o e=>Hq _ e;generalize hh:s.heap.push {cls:=.type "range",data:=.fields #[.int lo t,.int hi u,.int 1 v]}=h at *;have hr:IsRange h s.heap.objs.size lo hi 1 t u v:=hh▸IsRange.new ..;have main:∀T:String,(T="range_iterator"\/T="longrange_iterator")->PIE X pins σ tg R (.ref h.objs.size) {s with heap:=h.push {cls:=.type T,data:=.fields #[da lo,da (j7 lo hi 1),da 1]},toks:=tk}:=by
  intro T hT;refine⟨h.objs.size,[h.objs.size],_,_,H,rfl,I1.kept (t':=tk) λb o e=>Hq _ e,ZgE hT _ lo (hi-lo).toNat,?_,λb hb=>?_,q⟩
  .have e1:lo+((0:Nat):Int)=lo:=by simp
   have e2:(((hi-lo).toNat:Nat):Int)-((0:Nat):Int)=j7 lo hi 1:=by rw[rangeSize_one];split<;>lia
   show DQ.Zl3 T _ _ (lo+((0:Nat):Int)) ((((hi-lo).toNat:Nat):Int)-((0:Nat):Int));rw[e1,e2];exact aG _ rfl
  .have e:b=h.objs.size:=by simpa using hb
   subst e;exact I1.fpOk (aj _) (I1.hok.fresh (aj _))
 by_cases c:dP.Range.small lo hi 1=true
 .exact wpAny_pyIter_range hr c (main _ (.inl rfl))
 .exact wpAny_pyIter_longrange hr (by simpa using c) (main _ (.inr rfl))
def Zr4(ta:TA):TI:=λσ H R=>ta σ H λvs H1=>∃j:Int,vs=[.int j]/\R (Itr 0 j.toNat) H1
def Zr5(ta:TA):TI:=λσ H R=>ta σ H λvs H1=>∃i j:Int,vs=[.int i,.int j]/\R (Itr i (j-i).toNat) H1
theorem Zed(hg:Gl X "range")(hm:X.mg "range"=none)(ha:PA X [a] ta)(hs:autoParam (av [a] X.env=[(false,eval a X.env)]) Qrf._auto_1):PI X tg (.Call (.Name "range" p) [a] [] pos) (Zr4 ta):=by
 intro pins s σ H R I h;refine Call_ (Zbw I hg hm boot_range (b9 (thn (ha pos pins s σ H _ I h) λus s1 hz=>?_) hs rfl));obtain⟨vs,H1,I1,r1,q1⟩:=hz;obtain⟨j,e,q⟩:=q1;subst e;cases r1 with
 |cons r rr=>
  cases rr;obtain⟨t,rfl⟩:=r;exact call_range_1 (ZfI I1 (by simpa using q))
theorem Zee(hg:Gl X "range")(hm:X.mg "range"=none)(ha:PA X [a,b] ta)(hs:autoParam (av [a,b] X.env=[(false,eval a X.env),(false,eval b X.env)]) Qrf._auto_1)(hs2:autoParam (av [b] X.env=[(false,eval b X.env)]) Qrf._auto_1) :
  PI X tg (.Call (.Name "range" p) [a,b] [] pos) (Zr5 ta):=by
 intro pins s σ H R I h;refine Call_ (Zbw I hg hm boot_range (b9 (thn (ha pos pins s σ H _ I h) λus s1 hz=>?_) (by rw[hs,hs2]) (by rw[hs2];rfl)))
 obtain⟨vs,H1,I1,r1,q1⟩:=hz;obtain⟨i,j,e,q⟩:=q1;subst e;cases r1 with
 |cons r rr=>
  cases rr with
  |cons r' rr=>
   cases rr;obtain⟨t,rfl⟩:=r;obtain⟨t',rfl⟩:=r';exact call_range_2 (ZfI I1 q)
def Zvs(wi:TI)(g:TG)(tb:TS):TS:=λD σ H=>wi σ H λJ H1=>∃W:Nat->Nat->St->Hp->Prop,(∃m,W 0 m σ H1)/\∀i m σ H,W i m σ H->
 (J.stop i H/\D.nx σ H)\/(J.go i H/\∃N:St->Hp->Prop,(∀σ' H',N σ' H'->∃m',m'<m/\W (i+1) m' σ' H')/\∀x H',J.yld i H x H'->g x σ H' λσ2 H2=>tb {D with nx:=N,ct:=N,bk:=D.nx} σ2 H2)
noncomputable def Zdl(fp:List Addr)(h:Heap):Pn:=fp.filterMap λb=>(h.get? b).map λo=>(b,o)
theorem Zbn(hb:b∈fp)(e:h.get? b=some o):(b,o)∈Zdl fp h:=List.mem_filterMap.mpr ⟨b,hb,by rw[e];rfl⟩
theorem Zhg(hp:p∈Zdl fp h):p.1∈fp/\h.get? p.1=some p.2:=by
 obtain⟨b,hb,e⟩:=List.mem_filterMap.mp hp;cases q:h.get? b with
 |none=>rw[q]at e;cases e
 |some o=>
  rw[q]at e;have e':(b,o)=p:=aM e;subst e';exact⟨hb,q⟩
theorem Inv.pinned(I:Inv X pins σ H s)(hf:∀b∈fp,ZeZ X pins H b)(ho:∀b∈fp,∃o,s.heap.get? b=some o/\∀v,o.data≠ .cell v):Inv X (pins++Zdl fp s.heap) σ H s:=
 I.pins_of λp hp=>(be.mp hp).elim (λz=>I.pin p (aX _ z)) λz=>by
  obtain⟨hb,e⟩:=Zhg z;obtain⟨f0,f1,f2,_⟩:=hf p.1 hb;obtain⟨o,e',d⟩:=ho p.1 hb;rw[e]at e';cases e';exact⟨e,f0,f1,f2,d⟩
theorem Inv.unpinned(I:Inv X (pins++pl) σ H s):Inv X pins σ H s:=I.pins_of λp hp=>I.pin p (aX _ (gk _ hp))
theorem ZfJ(hp:fQ (ao X.prog X.w) X.A X.env X.xe)(hi:PI X tg iter wi)(hg:PG X tg g)(hb:PSs X body tb)(hs:autoParam (∀x,foldedSetIterable iter X.env x=pure x) Qin._auto_1):PS X (.For tg iter body [] pos) (Zvs wi g tb):=by
 intro pins s σ H D I h;refine wpAny_For (thn (hi pins s σ H _ I h) λv s1 h1=>thn h1 λitv s2 h2=>?_) hs;obtain⟨it,fp,tn,J,H2,e,I2,T,st2,f2,W,⟨m0,w0⟩,turn⟩:=h2;subst e;have stat:∀{H':Hp},(∀b∈fp,H' b=none)->∀b∈fp,ZeZ X pins H' b:=λhn b hb=>⟨hn b hb,(f2 b hb).2⟩;refine codeAny_forLoop_any (λn s'=>∃i σ' H',Inv X pins σ' H' s'/\tn i s'.heap/\(∀b∈fp,H' b=none)/\W i n σ' H') ?_ m0 ⟨0,σ,H2,I2,st2,λb hb=>(f2 b hb).1,w0⟩;rintro n s3 ⟨i,σ3,H3,I3,st3,fr3,w3⟩;rcases turn i n σ3 H3 w3 with⟨stop,qn⟩|⟨go,N,hN,step⟩
 .refine eG hp (thn (T.done X rfl rfl rfl rfl i pins s3 σ3 H3 X.xe I3 (stat fr3) st3 stop) λr s4 hz=>?_);obtain⟨hr,I4⟩:=hz;subst hr;exact iX ⟨σ3,H3,I4,qn⟩
 .refine eG hp (thn (T.item X rfl rfl rfl rfl i pins s3 σ3 H3 X.xe I3 (stat fr3) st3 go) λr s4 hz=>?_);obtain⟨u,hr,h4⟩:=hz;subst hr;refine eG hp (thn h4 λ_ s5 hz=>?_);obtain⟨x,H5,I5,r5,y5,st5,fr5⟩:=hz;have I5':=I5.pinned (stat fr5) (T.obj _ _ st5);refine eG hp (thn (hg _ s5 σ3 H5 x u _ I5' r5 (step x H5 y5)) λ_ s6 hz=>?_);obtain⟨σ6,H6,I6,q6⟩:=hz;refine eG hp (thn (hb _ s6 σ6 H6 _ I6 q6) λf s7 q7=>?_);have again:∀{σ7:St}{H7:Hp},Inv X (pins++Zdl fp s5.heap) σ7 H7 s7->N σ7 H7->∃m,m<n/\∃i σ' H',Inv X pins σ' H' s7/\tn i s7.heap/\(∀b∈fp,H' b=none)/\W i m σ' H':=λ{σ7 H7} I7 n7=>by
   obtain⟨m',hm,w7⟩:=hN σ7 H7 n7;refine⟨m',hm,i+1,σ7,H7,I7.unpinned,T.keep _ _ _ st5 λb hb o e=>(I7.pin (b,o) (aX _ (aX _ (Zbn hb e)))).1,λb hb=>?_,w7⟩;obtain⟨o,e,d⟩:=T.obj _ _ st5 b hb;exact(I7.pin (b,o) (aX _ (aX _ (Zbn hb e)))).2.1
  cases f with
  |next=>obtain⟨σ7,H7,I7,n7⟩:=q7;exact again I7 n7
  |cont=>obtain⟨σ7,H7,I7,n7⟩:=q7;exact again I7 n7
  |brk=>obtain⟨σ7,H7,I7,q7⟩:=q7;exact⟨σ7,H7,I7.unpinned,q7⟩
  |ret v=>obtain⟨x7,σ7,H7,I7,r7,q7⟩:=q7;exact⟨x7,σ7,H7,I7.unpinned,r7,q7⟩
theorem ZjL{K:Fg}{g:TG}{tb:TS}{D:Ends}(Pv:Nat->St->Hp->Prop)(h0:Pv 0 σ H)(hl:∀i σ H,i<=xs.length->Pv i σ H->SqL K H a xs)(hs:∀i x σ H,xs[i]?=some x->Pv i σ H->g x σ H λσ2 H2=>tb {D with nx:=Pv (i+1),ct:=Pv (i+1),bk:=D.nx} σ2 H2)(hd:∀σ H,Pv xs.length σ H->D.nx σ H):∃W:Nat->Nat->St->Hp->Prop,(∃m,W 0 m σ H)/\∀i m σ H,W i m σ H->((Itl K a).stop i H/\D.nx σ H)\/((Itl K a).go i H/\∃N:St->Hp->Prop,(∀σ' H',N σ' H'->∃m',m'<m/\W (i+1) m' σ' H')/\∀x H',(Itl K a).yld i H x H'->g x σ H' λσ2 H2=>tb {D with nx:=N,ct:=N,bk:=D.nx} σ2 H2):=by
 refine⟨λi m σ H=>m=xs.length-i/\i<=xs.length/\Pv i σ H,⟨xs.length,by simp,cH _,h0⟩,?_⟩
 rintro i m σ H ⟨rfl,hi,p⟩;have q:=hl i σ H hi p;by_cases hlt:i<xs.length
 .refine .inr ⟨⟨xs,xs[i],q,by simp[hlt]⟩,Pv (i+1),λσ' H' p'=>⟨xs.length-(i+1),⋯,rfl,hlt,p'⟩,λx H' y=>?_⟩
  obtain⟨e,y⟩:=y;subst e;exact hs i x σ _ (y xs q) p
 .have e:i=xs.length:=⋯
  subst e;exact .inl ⟨⟨xs,q,aj _⟩,hd σ H p⟩
theorem Zmf{K:Fg}{g:TG}{tb:TS}{D:Ends}(Pv:Nat->St->Hp->Prop)(h0:Pv 0 σ H)(hl:∀i σ H,i<=xs.length->Pv i σ H->SqT K H a xs)(hs:∀i x σ H,xs[i]?=some x->Pv i σ H->g x σ H λσ2 H2=>tb {D with nx:=Pv (i+1),ct:=Pv (i+1),bk:=D.nx} σ2 H2)(hd:∀σ H,Pv xs.length σ H->D.nx σ H):∃W:Nat->Nat->St->Hp->Prop,(∃m,W 0 m σ H)/\∀i m σ H,W i m σ H->((Itt K a).stop i H/\D.nx σ H)\/((Itt K a).go i H/\∃N:St->Hp->Prop,(∀σ' H',N σ' H'->∃m',m'<m/\W (i+1) m' σ' H')/\∀x H',(Itt K a).yld i H x H'->g x σ H' λσ2 H2=>tb {D with nx:=N,ct:=N,bk:=D.nx} σ2 H2):=by
 refine⟨λi m σ H=>m=xs.length-i/\i<=xs.length/\Pv i σ H,⟨xs.length,by simp,cH _,h0⟩,?_⟩
 rintro i m σ H ⟨rfl,hi,p⟩;have q:=hl i σ H hi p;by_cases hlt:i<xs.length
 .refine .inr ⟨⟨xs,xs[i],q,by simp[hlt]⟩,Pv (i+1),λσ' H' p'=>⟨xs.length-(i+1),⋯,rfl,hlt,p'⟩,λx H' y=>?_⟩
  obtain⟨e,y⟩:=y;subst e;exact hs i x σ _ (y xs q) p
 .have e:i=xs.length:=⋯
  subst e;exact .inl ⟨⟨xs,q,aj _⟩,hd σ H p⟩
theorem Zhh{lo:Int}{g:TG}{tb:TS}{D:Ends}(Pv:Nat->St->Hp->Prop)(h0:Pv 0 σ H)(hs:∀i σ H,i<n->Pv i σ H->g (.int (lo+i)) σ H λσ2 H2=>tb {D with nx:=Pv (i+1),ct:=Pv (i+1),bk:=D.nx} σ2 H2)(hd:∀σ H,Pv n σ H->D.nx σ H):∃W:Nat->Nat->St->Hp->Prop,(∃m,W 0 m σ H)/\∀i m σ H,W i m σ H->((Itr lo n).stop i H/\D.nx σ H)\/((Itr lo n).go i H/\∃N:St->Hp->Prop,(∀σ' H',N σ' H'->∃m',m'<m/\W (i+1) m' σ' H')/\∀x H',(Itr lo n).yld i H x H'->g x σ H' λσ2 H2=>tb {D with nx:=N,ct:=N,bk:=D.nx} σ2 H2):=by
 refine⟨λi m σ H=>m=n-i/\i<=n/\Pv i σ H,⟨n,by simp,cH _,h0⟩,?_⟩
 rintro i m σ H ⟨rfl,hi,p⟩;by_cases hlt:i<n
 .refine .inr ⟨hlt,Pv (i+1),λσ' H' p'=>⟨n-(i+1),⋯,rfl,hlt,p'⟩,λx H' y=>?_⟩
  obtain⟨e,y⟩:=y;subst e y;exact hs i σ _ hlt p
 .have e:i=n:=⋯
  subst e;exact .inl ⟨aj _,hd σ H p⟩
abbrev R2:=V->V->Hp->VK->Prop
def OpR(X:Cx)(f:ae->ae->Sem ae)(r:R2):Prop:=
 ∀(pins:Pn)(s:aC)(σ:St)(H:Hp)(x y:V)(v u:ae)(Q:VK),Inv X pins σ H s->ZZ x v->ZZ y u->r x y H Q->
  wpAny (ao X.prog X.w) X.A (f v u) (EP X pins σ Q) X.xe s
def UnR(X:Cx)(f:ae->Sem ae)(r:V->Hp->VK->Prop):Prop:=
 ∀(pins:Pn)(s:aC)(σ:St)(H:Hp)(x:V)(v:ae)(Q:VK),Inv X pins σ H s->ZZ x v->r x H Q->
  wpAny (ao X.prog X.w) X.A (f v) (EP X pins σ Q) X.xe s
def Zbt(X:Cx)(f:ae)(r:List V->Hp->VK->Prop):Prop:=
 ∀(pins:Pn)(s:aC)(σ:St)(H:Hp)(xs:List V)(us:List ae)(Q:VK),Inv X pins σ H s->ZS xs us->r xs H Q->
  wpAny (ao X.prog X.w) X.A (call f us) (EP X pins σ Q) X.xe s
noncomputable def tOp(r:R2)(ta tb:TE):TE:=λσ H Q=>ta σ H λx H1=>tb σ H1 λy H2=>r x y H2 Q
noncomputable def tUn(r:V->Hp->VK->Prop)(ta:TE):TE:=λσ H Q=>ta σ H λx H1=>r x H1 Q
noncomputable def rI(C:Int->Int->Prop)(g:Int->Int->V):R2:=λx y H Q=>∃i j,x=.int i/\y=.int j/\C i j/\Q (g i j) H
noncomputable def rI0(g:Int->Int->V):R2:=λx y H Q=>∃i j,x=.int i/\y=.int j/\Q (g i j) H
noncomputable def rU(g:Int->V):V->Hp->VK->Prop:=λx H Q=>∃i,x=.int i/\Q (g i) H
theorem Zr6(ha:PE X a ta)(hb:PE X b tb){R:V->V->Hp->Prop}(I:Inv X pins σ H s)(h:ta σ H λx H1=>tb σ H1 λy H2=>R x y H2){f:ae->ae->Sem ae}(hf:∀v u s2 x y H2,Inv X pins σ H2 s2->ZZ x v->ZZ y u->R x y H2->wpAny (ao X.prog X.w) X.A (f v u) Q X.xe s2):wpAny (ao X.prog X.w) X.A (eval a X.env) (λv s₁=>wpAny (ao X.prog X.w) X.A (eval b X.env) (λu s₂=>wpAny (ao X.prog X.w) X.A (f v u) Q X.xe s₂) X.xe s₁) X.xe s:=by
 refine thn (ha pins s σ H _ I h) λv s1 hz=>?_;obtain⟨x,H1,I1,r1,q1⟩:=hz;refine thn (hb pins s1 σ H1 _ I1 q1) λu s2 hz=>?_;obtain⟨y,H2,I2,r2,q2⟩:=hz;exact hf v u s2 x y H2 I2 r1 r2 q2
theorem Zr7(ho:OpR X (fK op) r)(ha:PE X a ta)(hb:PE X b tb):PE X (.BinOp a op b pos) (tOp r ta tb):=by
 intro pins s σ H Q I h;exact wpAny_BinOp (Zr6 ha hb I h λv u s2 x y H2 I2 rx ry q=>ho pins s2 σ H2 x y v u Q I2 rx ry q)
theorem Zr8(ho:UnR X (unaryOp op) r)(ha:PE X a ta):PE X (.UnaryOp op a pos) (tUn r ta):=by
 intro pins s σ H Q I h;exact UnaryOp_ (thn (ha pins s σ H _ I h) λv s1 ⟨x,H1,I1,r1,q1⟩=>ho pins s1 σ H1 x v Q I1 r1 q1)
theorem opI{g:Int->Int->Int}(rule:∀(i j:Int)(t u:Tok)(s:aC)(Q:Vp)(E:Vp),C i j->Q (.int (g i j) s.toks) {s with toks:=s.toks+1}->wpAny (ao X.prog X.w) X.A (f (.int i t) (.int j u)) Q E s):OpR X f (rI C λi j=>.int (g i j)):=by
 intro pins s σ H x y v u Q I rx ry h;obtain⟨i,j,rfl,rfl,hc,q⟩:=h;obtain⟨t,rfl⟩:=rx;obtain⟨t',rfl⟩:=ry;exact rule i j t t' s _ _ hc ⟨.int (g i j),H,I.tok _,⟨_,rfl⟩,q⟩
theorem Zum{g:Int->Int->Int}(rule:∀(i j:Int)(t u:Tok)(s:aC)(Q:Vp)(E:Vp),Q (.int (g i j) s.toks) {s with toks:=s.toks+1}->wpAny (ao X.prog X.w) X.A (f (.int i t) (.int j u)) Q E s):OpR X f (rI0 λi j=>.int (g i j)):=by
 intro pins s σ H x y v u Q I rx ry h;obtain⟨i,j,rfl,rfl,q⟩:=h;obtain⟨t,rfl⟩:=rx;obtain⟨t',rfl⟩:=ry;exact rule i j t t' s _ _ ⟨.int (g i j),H,I.tok _,⟨_,rfl⟩,q⟩
theorem ZrM{g:Int->Int->Bool}(rule:∀(i j:Int)(t u:Tok)(s:aC)(Q:Vp)(E:Vp),Q (.bool (g i j)) s->wpAny (ao X.prog X.w) X.A (f (.int i t) (.int j u)) Q E s):OpR X f (rI0 λi j=>.bl (g i j)):=by
 intro pins s σ H x y v u Q I rx ry h;obtain⟨i,j,rfl,rfl,q⟩:=h;obtain⟨t,rfl⟩:=rx;obtain⟨t',rfl⟩:=ry;exact rule i j t t' s _ _ ⟨.bl (g i j),H,I,rfl,q⟩
noncomputable def Zun(i j:Int):Prop:=0<=j/\j<=1000000/\i.natAbs<2^64
noncomputable def Zuo(i j:Int):Prop:=(-(2^64)<i/\i<2^64)\/(-(2^64)<j/\j<2^64)
theorem Zuo.ok(h:Zuo i j):IntMulOk i j:=by
 rcases h with⟨h1,h2⟩|⟨h1,h2⟩
 .exact .of_left (jV h1 h2)
 .exact .of_right (jV h1 h2)
theorem ZoC:OpR X (fK .Add) (rI0 λi j=>.int (i+j)):=Zum λ_ _ _ _ _ _ _ q=>add_int q
theorem ZoD:OpR X (fK .Sub) (rI0 λi j=>.int (i-j)):=Zum λ_ _ _ _ _ _ _ q=>sub_int q
theorem Zmg:OpR X (fK .Mod) (rI (λ_ j=>j≠0) λi j=>.int (i.fmod j)):=opI λ_ _ _ _ _ _ _ hc q=>mod_int' hc q
theorem ZoE:OpR X (fK .Pow) (rI Zun λi j=>.int (i^j.toNat)):=opI λ_ _ _ _ _ _ _ hc q=>pow_int_small hc.1 hc.2.1 hc.2.2 q
theorem unI{g:Int->Int}(rule:∀(i:Int)(t:Tok)(s:aC)(Q:Vp)(E:Vp),Q (.int (g i) s.toks) {s with toks:=s.toks+1}->wpAny (ao X.prog X.w) X.A (f (.int i t)) Q E s):UnR X f (rU λi=>.int (g i)):=by
 intro pins s σ H x v Q I rx h;obtain⟨i,rfl,q⟩:=h;obtain⟨t,rfl⟩:=rx;exact rule i t s _ _ ⟨.int (g i),H,I.tok _,⟨_,rfl⟩,q⟩
theorem ZoF:UnR X (unaryOp .USub) (rU λi=>.int (-i)):=unI λ_ _ _ _ _ q=>neg_int q
theorem ZbY:OpR X (eH .Lt) (rI0 λi j=>.bl (decide (i<j))):=ZrM λ_ _ _ _ _ _ _ q=>lt_int q
theorem Zr9:OpR X (eH .LtE) (rI0 λi j=>.bl (decide (i<=j))):=ZrM λ_ _ _ _ _ _ _ q=>le_int q
theorem ZcJ:OpR X (eH .Gt) (rI0 λi j=>.bl (decide (j<i))):=ZrM λ_ _ _ _ _ _ _ q=>gt_int q
theorem ZjM:OpR X (eH .GtE) (rI0 λi j=>.bl (decide (j<=i))):=ZrM λ_ _ _ _ _ _ _ q=>ge_int q
theorem OpR.or(h:OpR X f r)(h':OpR X f r'):OpR X f (λx y H Q=>r x y H Q\/r' x y H Q):=by
 intro pins s σ H x y v u Q I rx ry q;rcases q with q|q
 .exact h pins s σ H x y v u Q I rx ry q
 .exact h' pins s σ H x y v u Q I rx ry q
theorem Zk1(b:Expr)(h:autoParam (op≠ .In) Qde._auto_1)(h2:autoParam (op≠ .NotIn) Qde._auto_1):gM op b=false:=by
 have e1:(op==CmpOp.In)=false:=by cases op<;>first|rfl|exact absurd rfl h
 have e2:(op==CmpOp.NotIn)=false:=by cases op<;>first|rfl|exact absurd rfl h2
 cases b<;>simp[gM,e1,e2]
theorem Zmh(ho:OpR X (eH op) r)(ha:PE X a ta)(hb:PE X b tb)(hm:gM op b=false):PE X (.Compare a [op] [b] pos) (tOp r ta tb):=by
 intro pins s σ H Q I h;exact wpAny_Compare1 (Zr6 ha hb I h λv u s2 x y H2 I2 rx ry q=>ho pins s2 σ H2 x y v u Q I2 rx ry q) hm
noncomputable def ZoG(t:TE):TT:=λσ H Q=>t σ H λx H'=>∃k,x=.bl k/\Q k H'
theorem Zmi(ho:OpR X (eH op) r)(ha:PE X a ta)(hb:PE X b tb)(hm:gM op b=false):PT X (.Compare a [op] [b] pos) (ZoG (tOp r ta tb)):=by
 intro pins s σ H Q I h;refine wpAny_isTrue_Compare1 (thn (ha pins s σ H _ I h) λv s1 ⟨x,H1,I1,r1,q1⟩=>thn (hb pins s1 σ H1 _ I1 q1) λu s2 ⟨y,H2,I2,r2,q2⟩=>thn (ho pins s2 σ H2 x y v u _ I2 r1 r2 q2) λc s3 ⟨z,H3,I3,r3,k,e,q3⟩=>?_) hm
 subst e;cases r3;exact dI ⟨H3,I3,q3⟩
theorem ZfK:(sizeLine:Nat)<2^63:=by rw[dh];decide
theorem ZgF:OpR X (fK .Add) (λx y H Q=>∃i j,x=.str i/\y=.str j/\i.length+j.length<=sizeLine/\Q (.str (i++j)) H):=by
 intro pins s σ H x y v u Q I rx ry h;obtain⟨i,j,rfl,rfl,hz,q⟩:=h;obtain⟨t,rfl⟩:=rx;obtain⟨t',rfl⟩:=ry;exact add_str (λt' tk=>⟨.str (i++j),H,I.tok _,⟨_,rfl⟩,q⟩) hz
theorem ZbM(r:ZS [x] us):∃u,us=[u]/\ZZ x u:=by
 cases r with
 |cons r1 r2=>cases r2;exact⟨_,rfl,r1⟩
theorem ZjN(r:ZS [x,y] us):∃u w',us=[u,w']/\ZZ x u/\ZZ y w':=by
 cases r with
 |cons r1 r2=>
  cases r2 with
  |cons r3 r4=>cases r4;exact⟨_,_,rfl,r1,r3⟩
theorem ZaR:Zbt X (.builtin "abs") (λxs H Q=>∃i,xs=[.int i]/\Q (.int (if i<0 then -i else i)) H):=by
 intro pins s σ H xs us Q I r h;obtain⟨i,rfl,q⟩:=h;obtain⟨u,rfl,t,rfl⟩:=ZbM r;exact call_abs_int λu tk=>⟨.int (if i<0 then -i else i),H,I.tok _,⟨_,rfl⟩,q⟩
theorem Zef(hc:X.calm=true):Zbt X (.builtin "max") (λxs H Q=>∃i j,xs=[.int i,.int j]/\Q (.int (if j>i then j else i)) H):=by
 intro pins s σ H xs us Q I r h;obtain⟨i,j,rfl,q⟩:=h;obtain⟨u,w',rfl,⟨t,rfl⟩,⟨t',rfl⟩⟩:=ZjN r;refine max_two_ints (I.ok.hd hc) λh' tk k=>⟨_,H,I.kept k,?_,q⟩;by_cases hj:j>i
 .rw[if_pos hj,if_pos hj];exact⟨_,rfl⟩
 .rw[if_neg hj,if_neg hj];exact⟨_,rfl⟩
theorem Zhi(hc:X.calm=true):Zbt X (.builtin "min") (λxs H Q=>∃i j,xs=[.int i,.int j]/\Q (.int (if j<i then j else i)) H):=by
 intro pins s σ H xs us Q I r h;obtain⟨i,j,rfl,q⟩:=h;obtain⟨u,w',rfl,⟨t,rfl⟩,⟨t',rfl⟩⟩:=ZjN r;refine min_two_ints (I.ok.hd hc) λh' tk k=>⟨_,H,I.kept k,?_,q⟩;by_cases hj:j<i
 .rw[if_pos hj,if_pos hj];exact⟨_,rfl⟩
 .rw[if_neg hj,if_neg hj];exact⟨_,rfl⟩
theorem Zah:Zbt X (.type "int") (λxs H Q=>(∃i,xs=[.int i]/\Q (.int i) H)\/∃k,xs=[.bl k]/\Q (.int (if k then 1 else 0)) H):=by
 intro pins s σ H xs us Q I r h;rcases h with⟨i,rfl,q⟩|⟨k,rfl,q⟩
 .obtain⟨u,rfl,t,rfl⟩:=ZbM r;exact call_int_int ⟨.int i,H,I,⟨_,rfl⟩,q⟩
 .obtain⟨u,rfl,r1⟩:=ZbM r;cases r1;exact call_int_bool ⟨.int (if k then 1 else 0),H,I.tok _,⟨_,rfl⟩,q⟩
structure Room(k:Nat) (A:cV):Prop where
 hd:100<=k->A.handled=none
 gd:A.guards=some []
 dp:A.depth+3*k+5<jp
 un:A.units+16*k+200<jd
theorem Room.mono(r:Room k A)(h:j<=k):Room j A:=⟨λz=>r.hd (aZ z h),r.gd,by have:=r.dp;lia,by have:=r.un;lia⟩
theorem Room.deeper(r:Room (k+1) A)(env:Env):Room k (A.deeper env):=
 ⟨λz=>r.hd (Nat.le_succ_of_le z),r.gd,by have:=r.dp;show A.depth+1+3*k+5<_;lia,by have:=r.un;show A.units+3+16*k+200<_;lia⟩
theorem Room.in1(r:Room (k+1) A):Room k A.in1:=
 ⟨λz=>r.hd (Nat.le_succ_of_le z),r.gd,by have:=r.dp;show A.depth+3*k+5<_;lia,by have:=r.un;show A.units+1+16*k+200<_;lia⟩
theorem Room.depth(r:Room k A):A.depth<jp:=by have:=r.dp;lia
theorem Room.units(r:Room k A):A.units+64<jd:=by have:=r.un;lia
noncomputable def tNil:TA:=λ_ H Q=>Q [] H
noncomputable def Zsa(ta:TE)(tr:TA):TA:=λσ H Q=>ta σ H λx H1=>tr σ H1 λxs H2=>Q (x::xs) H2
theorem Zk2:PA X [] tNil:=λ_ _ _ _ H Q I h=>Calls.spliced_nil ⟨[],H,I,.nil,h⟩
theorem Ze2(ha:PE X e te)(hr:PA X es t)(hs:autoParam (av (e::es) X.env=(false,eval e X.env)::av es X.env) Qrf._auto_1):PA X (e::es) (Zsa te t):=by
 intro pos pins s σ H Q I h;rw[hs];show wpAny _ _ (spliced ((false,eval e X.env)::cR pos (av es X.env))) _ _ s;refine Calls.spliced_cons (thn (ha pins s σ H _ I h) λu s1 hz=>?_);obtain⟨x,H1,I1,r1,q1⟩:=hz;exact thn (hr pos pins s1 σ H1 _ I1 q1) λus s2 ⟨xs,H2,I2,r2,q2⟩=>⟨x::xs,H2,I2,.cons r1 r2,q2⟩
def Zvt(t:TA):TE:=λσ H Q=>t σ H λxs H1=>xs.length<=sizeLine/\∀p,H1 p=none->Q (.ref p) (upd H1 p (.tup xs))
def Zvu(t:TA):TE:=λσ H Q=>t σ H λxs H1=>xs.length<=sizeLine/\∀p,H1 p=none->Q (.ref p) (upd H1 p (.lst xs))
theorem ZoH{x1}(h:PA X es t):PE X (.Tuple es x1 pos) (Zvt t):=by
 intro pins s σ H Q I hq;refine wpAny_Tuple_spliced (thn (h pos pins s σ H _ I hq) λus s1 ⟨xs,H1,I1,r,z,q⟩=>⟨by rw[<-r.length];exact z,?_⟩)
 have hf:H1 s1.heap.objs.size=none:=I1.hok.fresh (aj _);refine⟨.ref s1.heap.objs.size,upd H1 s1.heap.objs.size (.tup xs),I1.laid (t':=s1.toks) (λb u e=>Hq _ e) (aj _) ?_,rfl,q _ hf⟩;exact⟨z,us,r,⟨_,aG _ rfl,rfl,_,rfl⟩⟩
theorem ZoI(h:PA X es t):PE X (.List es pos) (Zvu t):=by
 intro pins s σ H Q I hq;refine wpAny_List_spliced (thn (h pos pins s σ H _ I hq) λus s1 ⟨xs,H1,I1,r,z,q⟩=>⟨by rw[<-r.length];exact z,?_⟩)
 have hf:H1 s1.heap.objs.size=none:=I1.hok.fresh (aj _);refine⟨.ref s1.heap.objs.size,upd H1 s1.heap.objs.size (.lst xs),I1.laid (t':=s1.toks) (λb u e=>Hq _ e) (aj _) ?_,rfl,q _ hf⟩;exact⟨z,us,0,r,aG _ rfl⟩
abbrev Sp:=List V->Hp->VK->XK->Prop
abbrev CXT:=List Env->Hp->aC->XK->ae->aC->Prop
structure Env0(P:cE) (w:c6) (K:Fg) (mg:Str->Option ae) (base:Heap) (A:cV) (outer:List Env) (s:aC) (H:Hp):Prop where
 frames:A.frames=some outer
 mod:Mod K mg base
 bs:∀b o,base.get? b=some o->s.heap.get? b=some o/\H b=none
 bsz:base.objs.size<=s.heap.objs.size
 funs:s.heap.FunFrames base outer
 frf:∀b∈frs outer,H b=none
 hok:HOk P w H s.heap
 bare:iN s.gens
 qd:Qd A H
 tb:Tbs K H
def CE(outer:List Env)(P:cE)(w:c6)(H:Hp)(s:aC)(Q:VK)(u:ae)(s':aC):Prop:=
 ∃v H',s'.os=s.os/\iN s'.gens/\Un (frs outer) [] H H' s.heap s'.heap/\HOk P w H' s'.heap/\ZZ v u/\Q v H'
def CR(CX:CXT)(outer:List Env)(P:cE)(w:c6)(H:Hp)(s:aC)(Q:VK)(E:XK)(r:Result)(s':aC):Prop:=
 match r with
 |.ok (.ret u)=>CE outer P w H s Q u s'
 |.ok _=>False
 |.error e=>CX outer H s E e s'
structure FnOk(P:cE) (w:c6) (K:Fg) (mg:Str->Option ae) (base:Heap) (CX:CXT) (k:Nat) (f:Addr) (fd:iS) (ps:List Str) (sp:Sp):Prop where
 len:∀vs H Q E,sp vs H Q E->vs.length=ps.length
 run:∀(A:cV)(outer:List Env)(s:aC)(H:Hp)(args:Args)(us:List ae)(vs:List V)(Q:VK)(E:XK),Room k A->Env0 P w K mg base A outer s H->my s fd args (ps.zip us)->ZS vs us->sp vs H Q E->
  fH (ao P w) A (.call (.ref f) args) (CR CX outer P w H s Q E) s
theorem Inv.env0(I:Inv X pins σ H s):Env0 X.prog X.w X.K X.mg X.base X.A X.stack s H:=
 ⟨I.ok.frames,I.ok.mod,I.bs,aZ I.ok.bsz I.sz,I.stack,I.stkFree,I.hok,I.bare,I.qd,I.ok.tb.un I.base⟩
theorem Inv.after(I:Inv X pins σ H s)(h:CE X.stack X.prog X.w H s Q u s'):EP X pins σ Q u s':=by
 obtain⟨v,H',os,bare,un,hok,r,q⟩:=h;obtain⟨hh,g,d,t,os'⟩:=s';obtain rfl:os'=s.os:=os;exact⟨v,H',I.call (h':=hh) (g':=g) (d':=d) (t':=t) (ch:=[]) un hok bare (λb z=>absurd z (by simp)),r,q⟩
noncomputable def Zsb(sp:Sp)(dvs:List V)(E:XK)(t:TA):TE:=λσ H Q=>t σ H λvs H1=>sp (vs++dvs) H1 Q E
noncomputable def Ze3(K:Fg)(fd:iS)(ps:List Str)(ds:List ae):Prop:=
 ∀(s:aC)(us:List ae),K.In s.heap->(us++ds).length=ps.length->my s fd ⟨us,[]⟩ (ps.zip (us++ds))
theorem Ze3.all{K:Fg}(h:∀us:List ae,us.length=ps.length->iT fd ⟨us,[]⟩=pure (ps.zip us)):Ze3 K fd ps []:=λs us _ hl=>by
 rw[cJ]at hl ⊢;exact .of_eq (h us hl)
def Zhj(CX:CXT)(X:Cx)(E:XK):Prop:=∀(pins:Pn)(σ:St)(H:Hp)(s:aC)(e:ae)(s':aC),Inv X pins σ H s->CX X.stack H s E e s'->X.xe e s'
theorem ZoJ(F:FnOk X.prog X.w X.K X.mg X.base CX k f fd ps sp)(hr:Room k X.A)(hb:Ze3 X.K fd ps ds)(hd:ZS dvs ds)(hx:Zhj CX X E)(I:Inv X pins σ H s)(r:ZS vs us)(h:sp (vs++dvs) H Q E):wpAny (ao X.prog X.w) X.A (call (.ref f) us) (EP X pins σ Q) X.xe s:=by
 have r2:ZS (vs++dvs) (us++ds):=r.append hd;have hl:(us++ds).length=ps.length:=by rw[<-r2.length];exact F.len _ _ _ _ h
 refine wpAny_call (m5 (F.run X.A X.stack s H ⟨us,[]⟩ (us++ds) (vs++dvs) Q E hr I.env0 (hb s us I.kIn hl) r2 h) λr s' hq=>?_);cases r with
 |error e=>exact hx pins σ H s e s' I hq
 |ok fl=>
  cases fl with
  |ret u=>exact I.after hq
  |next=>exact gn hq
  |brk=>exact gn hq
  |cont=>exact gn hq
theorem Zmj(F:FnOk X.prog X.w X.K X.mg X.base CX k f fd ps sp)(hr:Room k X.A)(hg:Gl X x)(hm:X.mg x=some (.ref f))(hk:PySem.W.keepIn X.K (.ref f)=true)(hb:Ze3 X.K fd ps ds)(hd:ZS dvs ds)(hx:Zhj CX X E)(ha:PA X (e::es) t)(hdb:autoParam ((x==("__debug__":Str))=false) Qde._auto_1)(he:autoParam (av (e::es) X.env=(false,eval e X.env)::av es X.env) Qrf._auto_1)(hpl:autoParam ((cR pos (av es X.env)).any (·.1)=false) Qrf._auto_1):
  PE X (.Call (.Name x p) (e::es) [] pos) (Zsb sp dvs E t):=by
 intro pins s σ H Q I h;refine wpAny_Call_Name_kw (Zhe I hg hm ?_ hdb);refine PySem.W.callWith_K (h₀:=X.base) I.ok.mod.kin hk (thn (ha pos pins s σ H _ I h) λus s1 ⟨vs,H1,I1,r,q⟩=>⟨I1.kIn,?_⟩) he hpl;exact ZoJ F hr hb hd hx I1 r q
structure FnScope(N P:List Str) (sc:ji):Prop where
 kind:sc.kind=.function
 co:sc.isCoroutine=false
 gen:sc.isGenerator=false
 nd:N.Nodup
 pre:N.take P.length=P
 par:∀x∈P,sc.names.lookup x=some .local\/sc.names.lookup x=some .cell
 nofree:∀y∈sc.names,y.2≠ .free
theorem Zeg{kindOf:Str->Option dk}{x:Str}:∀{binds:List (Str×ae)} {m:Str->Option ae},(∀v,(x,v)∉binds)->bindL kindOf binds m x=m x
 |[],_,_=>rfl
 | (n,v)::r,m,h=>by
  unfold bindL;rw[Zeg λw hw=>h w (aF _ hw)];split
  .have:x≠n:=by rintro rfl;exact h v bT
   simp[this]
  .rfl
theorem Zeh{kindOf:Str->Option dk}{x:Str}:∀{binds:List (Str×ae)} {m:Str->Option ae},(∀v,(x,v)∉binds)->bindC kindOf binds m x=m x
 |[],_,_=>rfl
 | (n,v)::r,m,h=>by
  unfold bindC;rw[Zeh λw hw=>h w (aF _ hw)];split
  .rfl
  .have:x≠n:=by rintro rfl;exact h v bT
   simp[this]
theorem Zei{kindOf:Str->Option dk}{x:Str}{v:ae}:∀{P:List Str}{vs:List ae}{i:Nat}{m:Str->Option ae},P.Nodup->P[i]?=some x->vs[i]?=some v->kindOf x=some .local->bindL kindOf (P.zip vs) m x=some v
 |[],_,_,_,_,h,_,_=>by simp at h
 |_::_,[],_,_,_,_,h,_=>by simp at h
 |p::P,w::vs,0,m,nd,h1,h2,hk=>by
  simp at h1 h2;subst h1;subst h2;show bindL kindOf ((p,w)::P.zip vs) m p=_;unfold bindL;rw[Zeg λv hv=>(eI.mp nd).1 (gU hv).1,if_pos hk];simp
 |p::P,w::vs,i+1,m,nd,h1,h2,hk=>by
  show bindL kindOf ((p,w)::P.zip vs) m x=_;unfold bindL;exact Zei (i:=i) (eI.mp nd).2 (by simpa using h1) (by simpa using h2) hk
theorem Zej{kindOf:Str->Option dk}{x:Str}{v:ae}:∀{P:List Str}{vs:List ae}{i:Nat}{m:Str->Option ae},P.Nodup->P[i]?=some x->vs[i]?=some v->kindOf x≠some .local->bindC kindOf (P.zip vs) m x=some v
 |[],_,_,_,_,h,_,_=>by simp at h
 |_::_,[],_,_,_,_,h,_=>by simp at h
 |p::P,w::vs,0,m,nd,h1,h2,hk=>by
  simp at h1 h2;subst h1;subst h2;show bindC kindOf ((p,w)::P.zip vs) m p=_;unfold bindC;rw[Zeh λv hv=>(eI.mp nd).1 (gU hv).1,if_neg hk];simp
 |p::P,w::vs,i+1,m,nd,h1,h2,hk=>by
  show bindC kindOf ((p,w)::P.zip vs) m x=_;unfold bindC;exact Zej (i:=i) (eI.mp nd).2 (by simpa using h1) (by simpa using h2) hk
noncomputable def start(N:List Str)(vs:List V):St:=vs.map some++bC (N.length-vs.length) none
noncomputable def Ze4(CX:CXT)(P:cE)(w:c6)(K:Fg)(mg:Str->Option ae)(base:Heap)(N:List Str)(qual:Str)(scope:ji)(f:Addr)(cd:ae)(A:cV)(outer:List Env)(s:aC)(H:Hp)(E:XK):Cx where
 prog:=P
 w:=w
 K:=K
 mg:=mg
 base:=base
 A:=A.deeper (iY qual scope s.heap.objs.size f cd)
 N:=N
 s₀:=s
 H₀:=H
 env:=iY qual scope s.heap.objs.size f cd
 outer:=outer
 stack:=iY qual scope s.heap.objs.size f cd::outer
 ex:=[]
 calm:=A.handled.isNone
 fxs:=none
 fn:=λ_=>true
 pn:=[]
 xe:=λe s'=>wpAny (ao P w) (A.deeper (iY qual scope s.heap.objs.size f cd)) (nU (iY qual scope s.heap.objs.size f cd) e) (λ_ s''=>CX outer H s E e s'') (λe' s''=>CX outer H s E e' s'') s'
theorem ZfL{sc:ji}(h:sc.names.lookup x=some .cell):∃c,(b6 n sc.names []).lookup x=some c:=by
 have q:=PySem.W.cellsFrom_some sc.names n [] (.inl h);exact eV.mp q
theorem Zhk{K:Fg}(S:FnScope N ps scope)(e0:Env0 P w K mg base A outer s H)(hl:vs.length=ps.length)(r:ZS vs us)(x:InCallC s s.heap.objs.size (bindL (iY qual scope s.heap.objs.size f cd).kindOf (ps.zip us) λ_=>none) (b6 (s.heap.objs.size+1) scope.names []) (bindC (iY qual scope s.heap.objs.size f cd).kindOf (ps.zip us) λ_=>none) s1):Inv (Ze4 CX P w K mg base N qual scope f cd A outer s H E) [] (start N vs) H s1:=by
 have hpl:ps.length<=N.length:=by have:=congrArg nI S.pre;rw[bN]at this;lia
 obtain⟨h1,tk,rfl,hk⟩:=x.done;have noA:∀b:Addr,b∉(Ze4 CX P w K mg base N qual scope f cd A outer s H E).ex:=λb z=>absurd (show b∈([]:List Addr)from z) (by simp)
 refine⟨⟨e0.mod,S.kind,rfl,rfl,aj _,λy z c h1 h2=>?_,λy hy=>?_,λy c _ h=>?_,λz=>gH.mp z,lP e0.frames,.inr ⟨rfl,rfl⟩,λb z=>absurd z (noA b),e0.bs,e0.bsz,λb _ _=>noA b,λb z=>absurd z (noA b),e0.funs,e0.frf,e0.tb⟩,rfl,e0.bare,Un.kept hk,⟨_,x.toInCall.ns,λi y v h1 h2 h3=>?_⟩,λy c h=>⟨_,x.cell y c h⟩,e0.hok.fresh (aj _),λy c h=>?_,λp hp=>absurd (show p∈([]:Pn)from hp) (by simp),e0.hok.kept hk,?_,e0.qd,.free rfl⟩
 .exact name_of_addr x.apart (PySem.mem_of_lookup h1) (PySem.mem_of_lookup h2)
 .have hy:scope.names.lookup y=some .cell\/scope.names.lookup y=some .free:=hy;rcases hy with hy|hy
  .exact ZfL hy
  .exact absurd rfl (S.nofree _ (PySem.mem_of_lookup hy))
 .exact dC (x.above y c (PySem.mem_of_lookup h))
 .have hi:i<vs.length:=by
   unfold start at h2;by_cases hi:i<vs.length
   .exact hi
   .rw[aH (by simpa using hi)]at h2
    rw[List.getElem?_replicate]at h2
    split at h2<;>cases h2
  have ha:vs[i]?=some v:=by
   unfold start at h2;rw[aB (by simpa using hi),bn]at h2
   cases e:vs[i]? with
   |none=>rw[e]at h2;cases h2
   |some a=>rw[e]at h2;cases h2;rfl
  obtain⟨u,hu,rv⟩:=r.get ha;have hp:ps[i]?=some y:=by
   rw[<-S.pre,dD ⋯];exact h1
  have ndP:ps.Nodup:=by rw[<-S.pre];exact S.nd.sublist (List.take_sublist _ _)
  refine⟨u,rv,?_⟩;rcases S.par y (c7 hp)with k|k
  .exact .inl ⟨k,Zei ndP hp hu k⟩
  .obtain⟨c,e⟩:=ZfL (n:=s.heap.objs.size+1) k;refine .inr ⟨.inl k,c,e,?_⟩;have q:=x.cell y c e;rw[Zej ndP hp hu (by show scope.names.lookup y≠_;rw[k];decide)]at q
   exact q
 .exact e0.hok.fresh (dC (x.above y c (PySem.mem_of_lookup h)))
 .unfold start;show _=N.length;rw[aT,af,bW];lia
theorem Zmk{K:Fg}{kV:ae}(lk:K.lookup f=some ⟨oc,od,.func (PySem.W.fnOf name qual params body scope dV kV doc pm an cdv ct),osl⟩)(hcd:PySem.W.codeIn K cdv qual=true)(S:FnScope N ps scope)(len:∀vs H Q E,sp vs H Q E->vs.length=ps.length)(hbody:∀(A:cV)(outer:List Env)(s:aC)(H:Hp)(vs:List V)(Q:VK)(E:XK),Room k (A.deeper (iY qual scope s.heap.objs.size f cdv))->sp vs H Q E->∃t,PSs (Ze4 CX P w K mg base N qual scope f cdv A outer s H E) body t/\t {nx:=λ_ H'=>Q .non H',rt:=Q} (start N vs) H):FnOk P w K mg base CX (k+1) f (PySem.W.fnOf name qual params body scope dV kV doc pm an cdv ct) ps sp:=by
 refine⟨len,λA outer s H args us vs Q E hr e0 hb r hsp=>?_⟩;have hl:=len _ _ _ _ hsp;have KX:K.In s.heap:=e0.mod.kin.keeps λb o e=>(e0.bs b o e).1;have lim:s.heap.NoLimit:=e0.mod.nolimit.keeps λb o e=>(e0.bs b o e).1;have hkind:∀y∈ps.zip us,scope.names.lookup y.1=some .local\/(scope.names.lookup y.1=some .cell/\((b6 (s.heap.objs.size+1) scope.names []).lookup y.1).isSome=true):=λ⟨n,v⟩ hy=>by
  rcases S.par n (gU hy).1 with q|q
  .exact .inl q
  .exact .inr ⟨q,PySem.W.cellsFrom_some _ _ _ (.inl q)⟩
 refine codeAny_call_function hr.depth (KX _ _ lk) rfl S.co S.gen rfl (PySem.W.codeRec_of KX hcd) (hb _ _ _ _ ?_);refine wpAny_newFunctionEnv_cells S.kind hkind λenv he s1 x=>?_;subst he;refine⟨lim.keeps x.toInCall.keep,codeAny_func ?_⟩;obtain⟨t,ht,hq⟩:=hbody A outer s H vs Q E (hr.deeper _) hsp;have I:Inv (Ze4 CX P w K mg base N qual scope f cdv A outer s H E) [] (start N vs) H s1:=Zhk S e0 hl r x;refine wpAny_mono (ht [] s1 (start N vs) H _ I hq) (λfl s' hs=>?_) λe s' hs=>hs;have fin:∀{σ':St}{H':Hp}{v:V}{u:ae},Inv (Ze4 CX P w K mg base N qual scope f cdv A outer s H E) [] σ' H' s'->ZZ v u->Q v H'->CE outer P w H s Q u s':=
  λ{σ' H' v u} J rv q=>⟨v,H',J.os,J.bare,J.base,J.hok,rv,q⟩
 cases fl with
 |ret u=>
  obtain⟨v,σ',H',J,rv,q⟩:=hs;exact fin J rv q
 |next=>
  obtain⟨σ',H',J,q⟩:=hs;exact fin (v:=V.non) (u:=bS) J rfl q
 |brk=>
  obtain⟨_,_,_,q⟩:=hs;exact gn q
 |cont=>
  obtain⟨_,_,_,q⟩:=hs;exact gn q
section
variable {id:String}
noncomputable def tCB(r:List V->Hp->VK->Prop)(t:TA):TE:=λσ H Q=>t σ H λvs H1=>r vs H1 Q
theorem ZfM(hc:Zbt X (.builtin id) r)(hg:Gl X x)(hm:X.mg x=none)(hv:bL x=some (.builtin id))(ha:PA X (e::es) t)(hn:autoParam (x≠"__name__") Qde._auto_1)(hdb:autoParam ((x==("__debug__":Str))=false) Qde._auto_1)
  (he:av (e::es) X.env=(false,eval e X.env)::av es X.env:=by rfl) (hpl:(cR pos (av es X.env)).any (·.1)=false:=by rfl):PE X (.Call (.Name x p) (e::es) [] pos) (tCB r t):=by
 intro pins s σ H Q I h;refine wpAny_Call_Name_kw (Zbw I hg hm hv ?_ hn hdb);exact PyProof.Rows.callWith_builtin1 (thn (ha pos pins s σ H _ I h) λus s1 ⟨vs,H1,I1,r1,q1⟩=>hc pins s1 σ H1 vs us Q I1 r1 q1) he hpl
theorem Zhl(hc:Zbt X (.type T) r)(hg:Gl X x)(hm:X.mg x=none)(hv:bL x=some (.type T))(ha:PA X (e::es) t)(hn:autoParam (x≠"__name__") Qde._auto_1)(hdb:autoParam ((x==("__debug__":Str))=false) Qde._auto_1)
  (he:av (e::es) X.env=(false,eval e X.env)::av es X.env:=by rfl) (hpl:(cR pos (av es X.env)).any (·.1)=false:=by rfl):PE X (.Call (.Name x p) (e::es) [] pos) (tCB r t):=by
 intro pins s σ H Q I h;refine wpAny_Call_Name_kw (Zbw I hg hm hv ?_ hn hdb);exact b9 (thn (ha pos pins s σ H _ I h) λus s1 ⟨vs,H1,I1,r1,q1⟩=>hc pins s1 σ H1 vs us Q I1 r1 q1) he hpl
end
end L2
namespace HT
open PyProof.Rows
noncomputable def ZaO:List Int->List Int->Bool
 |[],[]=>false
 |[],_::_=>true
 |_::_,[]=>false
 |x::xs,y::ys=>if x=y then ZaO xs ys else decide (x<y)
theorem ZW(x y:Int)(xs ys:List Int):ZaO (x::xs) (y::ys)=if x=y then ZaO xs ys else decide (x<y):=rfl
theorem ZjO(A:cV)(s:aC)(a:Int)(t:Tok)(c:Int)(u:Tok):∃e,mS A s (.int a t) (.int c u) e/\(e=true↔a=c):=
 ⟨(a==c),mS.int_int a t c u,by simp⟩
theorem ZjP(A:cV)(s:aC)(a:Int)(t:Tok)(c:Int)(u:Tok)(prog:cE)(w:c6)(E:Vp)(Q:Vp)(h:Q (.bool (decide (a<c))) s):wpAny (ao prog w) A (richCompare .Lt (.int a t) (.int c u)) Q E s:=
 (PyProof.Rows.lt_int h:wpAny (ao prog w) A (eH .Lt (.int a t) (.int c u)) Q E s)
section
open PySem.SeqAt
open PySem.AutoSeq1 (wpAny_loadPart')
open PySem.MeetsSeq PySem.MeetsSeq2 PySem.MeetsSeq3
end
theorem Zml(ht:IsTup s.heap t vs.toArray)(hb:IsTup s.heap b ws.toArray)(hv:vs≠[])(h1:ws=[]->Q (.ref t) s)(h2:ws≠[]->Q (.ref s.heap.objs.size) {s with heap:=s.heap.push {cls:=.type "tuple",data:=.seq (vs++ws).toArray}})(hsz:vs.length+ws.length<=sizeLine):wpAny (ao prog w) A (fK .Add (.ref t) (.ref b)) Q E s:=by
 obtain⟨⟨cls,dd,data,sl⟩,ho,hc,n,hd⟩:=id ht;obtain⟨⟨cls2,dd2,data2,sl2⟩,ho2,hc2,n2,hd2⟩:=id hb;simp only at hc hd hc2 hd2;subst hc hd hc2 hd2;have e:vs.toArray++ws.toArray=(vs++ws).toArray:=by simp
 by_cases hw:ws=[]
 .exact concat_meets ⟨_,ho,rfl⟩ ⟨_,ho2,rfl⟩ noFill_tuple_add seq_tuple_add PySem.F.slot_tuple_add PySem.F.entry_tuple_add (PySem.F.args_tuple_add_2 _ _)
   (tuple_addW1 t b vs.toArray ws.toArray n n2 dd dd2 sl sl2 (by simpa using hv) (by simp[hw])) ⟨ho,ho2,h1 hw⟩
 .refine concat_meets ⟨_,ho,rfl⟩ ⟨_,ho2,rfl⟩ noFill_tuple_add seq_tuple_add PySem.F.slot_tuple_add PySem.F.entry_tuple_add (PySem.F.args_tuple_add_2 _ _)
   (tuple_addW2 t b vs.toArray ws.toArray n n2 dd dd2 sl sl2 (by simpa using hv) (by simpa using hw) (by rw[ah,ah];exact hsz)) ⟨ho,ho2,?_⟩
  rw[e];exact h2 hw
noncomputable def sIx(n d:Nat):Option Int->Nat
 |none=>d
 |some v=>if v<0 then(v+(n:Int)).toNat else min v.toNat n
theorem ZoK(n d:Nat)(hd:d<=n)(o:Option Int):sIx n d o<=n:=by
 cases o with
 |none=>exact hd
 |some v=>
  show(if v<0 then(v+(n:Int)).toNat else min v.toNat n)<=n
  by_cases hv:v<0
  .rw[if_pos hv];lia
  .rw[if_neg hv];exact Nat.min_le_right _ _
theorem Zhm(v:Int)(n d:Nat):(if v<0 then max (v+(n:Int)) 0 else min v (n:Int))=((sIx n d (some v):Nat):Int):=by
 show(if v<0 then max (v+(n:Int)) 0 else min v (n:Int))=(((if v<0 then(v+(n:Int)).toNat else min v.toNat n):Nat):Int)
 by_cases hv:v<0
 .simp only[if_pos hv];lia
 .simp only[if_neg hv];lia
theorem ZgG(lo hi:Option Int)(n:Nat):gI lo hi 1 (n:Int)=(((sIx n 0 lo:Nat):Int),((sIx n n hi:Nat):Int)):=by
 have h1:¬((1:Int)<0):=⋯
 unfold gI;simp only[h1,if_false];refine db ?_ ?_
 .cases lo with
  |none=>rfl
  |some v=>exact Zhm v n 0
 .cases hi with
  |none=>rfl
  |some v=>exact Zhm v n n
theorem ZgH(i j:Nat):eF (i:Int) (j:Int) 1=j-i:=by
 unfold eF;have h1:(1:Int)>0:=⋯
 simp only[h1,if_true,Int.ediv_one]
 split<;>lia
theorem Zdm(p:mU v o)(h:Q o s):wpAny (ao prog w) A (dP.Slice.slicePartIndex v) Q E s:=by
 cases p with
 |none=>exact slicePart_none h
 |int i t=>exact slicePart_int h
theorem Zcp{lo:Option Int}{n:Nat}(hs:s.heap.IsSliceOf sl vl vu .none)(pl:mU vl lo)(pu:mU vu hi)(h:Q (((sIx n 0 lo:Nat):Int),1,sIx n n hi-sIx n 0 lo) s):wpAny (ao prog w) A (jq (.ref sl) (pure (n:Int))) Q E s:=by
 obtain⟨os,hos,hcs,hds⟩:=id hs;unfold jq dP.Slice.sliceFields;refine Wb (Wb (cF hos hds (x:=vl) rfl (Wb (cF hos hds (x:=vu) rfl (Wb (cF hos hds (x:=.none) rfl (Wp ?_)))))));refine Wb (slicePart_none ?_);show wpAny _ _ (if((1:Int)==0)=true then _ else _) _ _ s
 rw[if_neg (by decide)]
 refine Wb (Zdm pl (Wb (Zdm pu (Wb (Wp ?_)))));show wpAny _ _ (match gI lo hi 1 (n:Int)with|(lo,hi)=>pure (lo,(1:Int),eF lo hi 1)) _ _ s
 rw[ZgG lo hi n];show wpAny _ _ (pure (((sIx n 0 lo:Nat):Int),(1:Int),eF ((sIx n 0 lo:Nat):Int) ((sIx n n hi:Nat):Int) 1)) _ _ s;rw[ZgH];exact Wp h
theorem ZjQ(xs:Array ae)(i k:Nat):((aI k).filterMap λ(m:Nat)=>xs[((i:Int)+(m:Int)*1).toNat]?).toArray=((xs.toList.drop i).take k).toArray:=by
 have e:(λ(m:Nat)=>xs[((i:Int)+(m:Int)*1).toNat]?)=λm=>xs[i+m]?:=by
  funext m
  have:((i:Int)+(m:Int)*1).toNat=i+m:=⋯
  rw[this]
 rw[e]
 have:=pick_run xs i k
 rw[List.filterMap_map]at this;have e2:((λx=>xs[x]?)∘λx=>i+x)=λm=>xs[i+m]?:=rfl;rw[e2]at this;rw[this]
theorem ZbZ{lo:Option Int}(ht:IsTup s.heap t items)(hs:s.heap.IsSliceOf sl vl vu .none)(pl:mU vl lo)(pu:mU vu hi)(hw:¬(sIx items.size 0 lo=0/\sIx items.size items.size hi=items.size))(h:Q (.ref s.heap.objs.size) {s with heap:=s.heap.push {cls:=.type "tuple",data:=.seq ((items.toList.drop (sIx items.size 0 lo)).take (sIx items.size items.size hi-sIx items.size 0 lo)).toArray}})(hsz:items.size<=sizeLine):wpAny (ao prog w) A (nV (.ref t) (.ref sl)) Q E s:=by
 have htake:sizeOk (.seq ((items.toList.drop (sIx items.size 0 lo)).take (sIx items.size items.size hi-sIx items.size 0 lo)).toArray):=by
  show((items.toList.drop (sIx items.size 0 lo)).take (sIx items.size items.size hi-sIx items.size 0 lo)).toArray.size<=sizeLine;rw[ah,bN,fA,bD]
  omega
 have hj:sIx items.size items.size hi<=items.size:=ZoK _ _ (aj _) hi;obtain⟨os,hos,hcs,hds⟩:=id hs;have hTs:s.TypeIs (.ref sl) "slice":=⟨os,hos,hcs⟩;unfold nV
 try with_reducible refine wpAny_holding ?_
 first|refine Wb (Wp ?_)|skip
 refine Wb (wpAny_sequenceKey ht.typeIs (by decide) ?_)
 refine Wb (ib (name:=bJ "__getitem__") ht.typeIs fm (cZ fm ht.typeIs entry_tuple_getitem ?_ (args_tuple_getitem _ _)))
 show wpAny _ _ (je (.ref t) >>= _) _ _ s;refine Wb (tupleItemsOf_ ht ?_);refine Wb (m8 hTs ?_);rw[if_pos (by decide)]
 refine Wb (Zcp hs pl pu ?_);have hno:¬((((sIx items.size 0 lo:Nat):Int)==0&&(1:Int)==1&&(sIx items.size items.size hi-sIx items.size 0 lo)==items.size)=true):=by
  intro q;rw[bE,bE]at q;have q1:((sIx items.size 0 lo:Nat):Int)=0:=eq_of_beq q.1.1;have q2:sIx items.size items.size hi-sIx items.size 0 lo=items.size:=eq_of_beq q.2;exact hw ⟨by omega,by omega⟩
 show wpAny _ _ (if(((sIx items.size 0 lo:Nat):Int)==0&&(1:Int)==1&&(sIx items.size items.size hi-sIx items.size 0 lo)==items.size)=true then _ else _) _ _ s
 rw[if_neg hno,ZjQ]
 first
  |exact Wb (m:=eY _) (cD (Wp ⟨_,rfl,Wp h⟩) htake)
  |exact Wb (m:=eY _) (cD (Wb (Wp (Wp ⟨_,rfl,Wp h⟩))) htake)
  |exact Wb (Wb (m:=eY _) (cD (Wp (Wp ⟨_,rfl,Wp h⟩)) htake))
  |exact Wb (Wb (m:=eY _) (cD (Wp ⟨_,rfl,Wp h⟩) htake))
end HT
namespace L2
open PyProof.Rows
abbrev TO:=St->Hp->(Option Int->Hp->Prop)->Prop
def PO(X:Cx)(e:Option Expr)(t:TO):Prop:=
 ∀(pins:Pn)(s:aC)(σ:St)(H:Hp)(Q:Option Int->Hp->Prop),Inv X pins σ H s->t σ H Q->
  wpAny (ao X.prog X.w) X.A (evalPart e X.env) (λu s'=>∃o H',Inv X pins σ H' s'/\mU u o/\Q o H') X.xe s
noncomputable def tNoPart:TO:=λ_ H Q=>Q none H
noncomputable def Zsc(t:TE):TO:=λσ H Q=>t σ H λx H1=>∃i,x=.int i/\Q (some i) H1
theorem ZgI:∀{us:List ae},ZS (ns.map V.int) us->io us ns:=by
 induction ns with
 |nil=>intro us r;rw[i5]at r;cases r;exact .nil
 |cons n ns ih=>
  intro us r;rw[aK]at r;cases r with
  |cons r1 r2=>
   obtain⟨t,e⟩:=r1;subst e;exact .cons n t (ih r2)
section
variable {lo hi:Option Expr}
theorem Zmm:PO X none tNoPart:=by
 intro pins s σ H Q I h;rw[evalPart_none];exact Wp ⟨none,H,I,.none,h⟩
theorem Zmn(h:PE X e te):PO X (some e) (Zsc te):=by
 intro pins s σ H Q I hw;rw[evalPart_some];refine thn (h pins s σ H _ I hw) λu s1 hz=>?_;obtain⟨x,H1,I1,r1,q1⟩:=hz;obtain⟨i,rfl,q⟩:=q1;obtain⟨t,rfl⟩:=r1;exact⟨some i,H1,I1,.int i t,q⟩
def SlR(X:Cx)(r:V->Option Int->Option Int->Hp->VK->Prop):Prop:=
 ∀(pins:Pn)(s:aC)(σ:St)(H:Hp)(x:V)(v vl vu:ae)(lo hi:Option Int)(sl:Addr)(Q:VK),Inv X pins σ H s->ZZ x v->s.heap.IsSliceOf sl vl vu .none->mU vl lo->mU vu hi->r x lo hi H Q->
  ∃T id,typeLookup (.type T) "__getitem__"=pure (some (.builtin id))/\s.TypeIs v T/\wpAny (ao X.prog X.w) X.A (nV v (.ref sl)) (EP X pins σ Q) X.xe s
theorem SlR.or(h:SlR X r)(h':SlR X r'):SlR X (λx lo hi H Q=>r x lo hi H Q\/r' x lo hi H Q):=by
 intro pins s σ H x v vl vu lo hi sl Q I rx hs pl pu q;rcases q with q|q
 .exact h pins s σ H x v vl vu lo hi sl Q I rx hs pl pu q
 .exact h' pins s σ H x v vl vu lo hi sl Q I rx hs pl pu q
noncomputable def tSl(r:V->Option Int->Option Int->Hp->VK->Prop)(te:TE)(tl th:TO):TE:=λσ H Q=>te σ H λx H1=>tl σ H1 λl H2=>th σ H2 λu H3=>r x l u H3 Q
theorem ZjR(hr:SlR X r)(he:PE X e te)(hl:PO X lo tl)(hu:PO X hi th):PE X (.Subscript e (.Slice lo hi none p2) pos) (tSl r te tl th):=by
 intro pins s σ H Q I h;refine Subscript_ (thn (he pins s σ H _ I h) λv s1 hz=>?_);obtain⟨x,H1,I1,r1,q1⟩:=hz;refine wpAny_Slice (thn (hl pins s1 σ H1 _ I1 q1) λvl s2 ⟨l,H2,I2,pl,q2⟩=>thn (hu pins s2 σ H2 _ I2 q2) λvu s3 hz=>?_);obtain⟨u,H3,I3,pu,q3⟩:=hz;rw[evalPart_none];refine Wp ?_;have I4:Inv X pins σ H3 {s3 with heap:=s3.heap.push {cls:=.type "slice",data:=.fields #[vl,vu,.none]}}:=I3.kept (t':=s3.toks) λb ob q=>Hq _ q;obtain⟨T,id,hT,ht,hg⟩:=hr pins {s3 with heap:=s3.heap.push {cls:=.type "slice",data:=.fields #[vl,vu,.none]}} σ H3 x v vl vu l u s3.heap.objs.size Q I4 r1 (nX.IsSliceOf.new ..) pl pu q3;show wpAny (ao X.prog X.w) X.A (subscriptTail e (.Slice lo hi none p2) v (.ref s3.heap.objs.size)) (EP X pins σ Q) X.xe {s3 with heap:=s3.heap.push {cls:=.type "slice",data:=.fields #[vl,vu,.none]}};exact tail_any (ops:=[.ref s3.heap.objs.size,v]) ht hT hg (by with_unfolding_all rfl)
def Zk3(xs:List V)(lo hi:Option Int):List V:=(xs.drop (HT.sIx xs.length 0 lo)).take (HT.sIx xs.length xs.length hi-HT.sIx xs.length 0 lo)
theorem ZcK(xs:List V)(lo hi:Option Int):(Zk3 xs lo hi).length<=xs.length:=by
 unfold Zk3;rw[bN,fA];lia
def Zvv(K:Fg):V->Option Int->Option Int->Hp->VK->Prop:=λx lo hi H Q=>∃a xs,x=.ref a/\SqT K H a xs/\
 ¬(HT.sIx xs.length 0 lo=0/\HT.sIx xs.length xs.length hi=xs.length)/\∀p,H p=none->Q (.ref p) (upd H p (.tup (Zk3 xs lo hi)))
theorem ZoL:SlR X (Zvv X.K):=by
 intro pins s σ H x v vl vu lo hi sl Q I rx hs pl pu h;obtain⟨a,xs,rfl,hx,hw,q⟩:=h;cases rx;obtain⟨its,r,ht,hz⟩:=I.tuple hx;have hlen:its.toArray.size=xs.length:=by rw[ah];exact r.length.symm
 refine⟨"tuple",_,fm.lookup,ht.typeIs,?_⟩;refine HT.ZbZ ht hs pl pu (by rw[hlen];exact hw) ?_ (by rw[hlen];exact hz)
 rw[hlen];refine⟨.ref s.heap.objs.size,_,I.laid (t':=s.toks) (o:=.tup (Zk3 xs lo hi)) (λb ob q=>Hq _ q) (aj _) ?_,rfl,q _ (I.hok.fresh (aj _))⟩;exact⟨aZ (ZcK xs lo hi) hz,_,(r.drop (HT.sIx xs.length 0 lo)).take (HT.sIx xs.length xs.length hi-HT.sIx xs.length 0 lo),IsTup.new _ _⟩
def Zmo(K:Fg):R2:=λx y H Q=>∃a b xs ys,x=.ref a/\y=.ref b/\SqT K H a xs/\SqT K H b ys/\xs≠[]/\xs.length+ys.length<=sizeLine/\
 (ys=[]->Q (.ref a) H)/\(ys≠[]->∀p,H p=none->Q (.ref p) (upd H p (.tup (xs++ys))))
theorem ZS.nil_iff(r:ZS xs us):us=[]↔xs=[]:=by
 cases r with
 |nil=>simp
 |cons _ _=>simp
theorem Zmp:OpR X (fK .Add) (Zmo X.K):=by
 intro pins s σ H x y v u Q I rx ry h;obtain⟨a,b,xs,ys,rfl,rfl,ha,hb,hx,hz,q1,q2⟩:=h;cases rx;cases ry;obtain⟨its,r1,p1,_⟩:=I.tuple ha;obtain⟨its2,r2,p2,_⟩:=I.tuple hb;refine HT.Zml p1 p2 (λz=>hx (r1.nil_iff.mp z)) (λz=>⟨.ref a,H,I,rfl,q1 (r2.nil_iff.mp z)⟩) (λz=>?_) (by rw[<-r1.length,<-r2.length];exact hz)
 refine⟨.ref s.heap.objs.size,_,I.laid (t':=s.toks) (o:=.tup (xs++ys)) (λb ob q=>Hq _ q) (aj _) ?_,rfl,q2 (λw=>z (r2.nil_iff.mpr w)) _ (I.hok.fresh (aj _))⟩;exact⟨by rw[aT];exact hz,_,r1.append r2,IsTup.new _ _⟩
end
noncomputable def ixN(n:Nat)(i:Int):Option Nat:=if 0<=i then(if i<n then some i.toNat else none)else if -(n:Int)<=i then some (i+n).toNat else none
def atI{α:Type}(xs:List α)(i:Int):Option α:=(ixN xs.length i).bind λj=>xs[j]?
theorem Zhn(h:ixN n i=some j):seqIndex? i n=some j/\j<n/\ -(n:Int)<=i/\i<n:=by
 unfold ixN at h;by_cases h0:0<=i
 .rw[if_pos h0]at h;by_cases h1:i<n
  .rw[if_pos h1]at h;have e:i.toNat=j:=aM h;exact⟨by rw[nJ h0 h1,e],⋯,⋯,h1⟩
  .rw[if_neg h1]at h;cases h
 .rw[if_neg h0]at h;by_cases h1: -(n:Int)<=i
  .rw[if_pos h1]at h;have e:(i+n).toNat=j:=aM h;exact⟨by rw[m9 ⋯ h1,e],⋯,h1,⋯⟩
  .rw[if_neg h1]at h;cases h
theorem Zho{xs:List α}{v:α}(h:atI xs i=some v):∃j,seqIndex? i xs.length=some j/\xs[j]?=some v/\j<xs.length/\ -(xs.length:Int)<=i/\i<xs.length:=by
 unfold atI at h;cases e:ixN xs.length i with
 |none=>rw[e]at h;cases h
 |some j=>
  rw[e]at h;obtain⟨h1,h2,h3,h4⟩:=Zhn e;exact⟨j,h1,h,h2,h3,h4⟩
theorem Zmq{xs:List α}{j:Nat}{v:α}(h:xs[j]?=some v):atI xs (j:Int)=some v:=by
 have hj:j<xs.length:=(ar.mp h).1;have e:ixN xs.length (j:Int)=some j:=by
  unfold ixN;rw[if_pos ⋯,if_pos ⋯];simp
 unfold atI;rw[e];exact h
noncomputable def Zhp(b:Expr):Prop:=∀o i,subscripted b false o i=operate [o,i] (nV o i)
def IxR(X:Cx)(r:R2):Prop:=
 ∀(value slice:Expr)(pins:Pn)(s:aC)(σ:St)(H:Hp)(x y:V)(v u:ae)(Q:VK),Inv X pins σ H s->ZZ x v->ZZ y u->r x y H Q->
  subscripted slice false v u=operate [v,u] (nV v u)->wpAny (ao X.prog X.w) X.A (subscriptTail value slice v u) (EP X pins σ Q) X.xe s
def MtR(X:Cx)(id:String)(r:V->List V->Hp->VK->Prop):Prop:=
 ∀(pins:Pn)(s:aC)(σ:St)(H:Hp)(x:V)(xs:List V)(v:ae)(us:List ae)(Q:VK),Inv X pins σ H s->ZZ x v->ZS xs us->r x xs H Q->
  wpAny (ao X.prog X.w) X.A (call (.builtin id) (v::us)) (EP X pins σ Q) X.xe s
section
variable {X:Cx}{a:Expr}
theorem IxR.or(h:IxR X r)(h':IxR X r'):IxR X (λx y H Q=>r x y H Q\/r' x y H Q):=by
 intro value slice pins s σ H x y v u Q I rx ry q hs;rcases q with q|q
 .exact h value slice pins s σ H x y v u Q I rx ry q hs
 .exact h' value slice pins s σ H x y v u Q I rx ry q hs
theorem Zsd(hr:IxR X r)(ha:PE X a ta)(hb:PE X b tb)(hs:Zhp b):PE X (.Subscript a b pos) (tOp r ta tb):=by
 intro pins s σ H Q I h;exact Subscript_ (Zr6 ha hb I h λv u s2 x y H2 I2 rx ry q=>hr a b pins s2 σ H2 x y v u Q I2 rx ry q (hs _ _))
def Zup(K:Fg):R2:=λx y H Q=>∃p xs i v,x=.ref p/\y=.int i/\SqL K H p xs/\atI xs i=some v/\Q v H
def Zuq(K:Fg):R2:=λx y H Q=>∃p xs i v,x=.ref p/\y=.int i/\SqT K H p xs/\atI xs i=some v/\Q v H
theorem Zmr:IxR X (Zup X.K):=by
 intro value slice pins s σ H x y v u Q I rx ry h hs;obtain⟨p,xs,i,z,rfl,rfl,hq,he,q⟩:=h;cases rx;obtain⟨t,rfl⟩:=ry;obtain⟨its,r,pl,hz⟩:=I.list hq;obtain⟨j,h1,h2,h3,h4,h5⟩:=Zho he;obtain⟨w,ew,rw'⟩:=r.get h2;have hl:=r.length;have hn:=ZfK;have fin:EP X pins σ Q w s:=⟨z,H,I,rw',q⟩;by_cases h0:0<=i
 .have hj:i.toNat=j:=by
   rw[nJ h0 h5]at h1;exact aM h1
  exact item_listR pl.isList h0 ⋯ (by rw[hj];simpa using ew) fin hs
 .have hj:(i+(its.toArray.size:Int)).toNat=j:=by
   rw[m9 ⋯ h4]at h1
   rw[ah,<-hl];exact aM h1
  exact kE (x:=w) pl.isList.typeIs slot_list_getitem.lookup
   (wpAny_getItem_list_neg (Q:=λr s'=>r=w/\EP X pins σ Q r s') pl.isList ⋯ (by rw[ah]<;>lia) ⋯ (by rw[hj];simpa using ew) ⟨rfl,fin⟩) hs
theorem ZoM:IxR X (Zuq X.K):=by
 intro value slice pins s σ H x y v u Q I rx ry h hs;obtain⟨p,xs,i,z,rfl,rfl,hq,he,q⟩:=h;cases rx;obtain⟨t,rfl⟩:=ry;obtain⟨its,r,pl,hz⟩:=I.tuple hq;obtain⟨j,h1,h2,h3,h4,h5⟩:=Zho he;obtain⟨w,ew,rw'⟩:=r.get h2;have hl:=r.length;have hn:=ZfK;have fin:EP X pins σ Q w s:=⟨z,H,I,rw',q⟩;exact kE (x:=w) pl.typeIs slot_tuple_getitem.lookup
  (getItem_tuple (j:=j) (Q:=λr s'=>r=w/\EP X pins σ Q r s') pl ⋯ ⋯ (by rw[ah,<-hl];exact h1) (by simpa using ew) ⟨rfl,fin⟩) hs
theorem ZgJ(its:List ae)(n j:Nat)(u:ae):aO (·.setIfInBounds j u) {cls:=.type "list",data:=.seq its.toArray n}={cls:=.type "list",data:=.seq (its.set j u).toArray n}:=by
 simp[aO]
theorem Inv.lst{pins:Pn}{σ:St}{H:Hp}{s:aC}{p:Addr}{xs:List V}(I:Inv X pins σ H s)(h:H p=some (.lst xs)):∃(its:List ae) (n:Nat),ZS xs its/\s.heap.get? p=some {cls:=.type "list",data:=.seq its.toArray n}/\xs.length<=sizeLine:=by
 obtain⟨z,its,n,r,e⟩:=I.hok p _ h;exact⟨its,n,r,e,z⟩
theorem Inv.lstUpd{its:List ae}(I:Inv X pins σ H s)(h:H p=some (.lst xs))(ho:s.heap.get? p=some {cls:=.type "list",data:=.seq its.toArray n})(hf:f {cls:=.type "list",data:=.seq its.toArray n}={cls:=.type "list",data:=.seq its'.toArray n'})(r:ZS ys its')(hz:ys.length<=sizeLine)(t:Nat):Inv X pins σ (upd H p (.lst ys)) {s with heap:=s.heap.update p f,toks:=t}:=by
 have e:(s.heap.update p f).get? p=some {cls:=.type "list",data:=.seq its'.toArray n'}:=by
  rw[dm f ho (by rw[hf]<;>rfl),hf]
 refine I.write (x:=p) (e:=p) (by rw[h];trivial) (.inl rfl) (λb u hb q=>(aL _ _ (cu hb)).trans q) ⟨_,e⟩ ?_
 exact⟨hz,its',n',r,e⟩
def rSetL:V->V->V->Hp->(Hp->Prop)->Prop:=λo i v H Q=>∃p xs k j,o=.ref p/\i=.int k/\H p=some (.lst xs)/\ixN xs.length k=some j/\Q (upd H p (.lst (xs.set j v)))
theorem ZjS:Zuk X rSetL:=by
 intro pins s σ H o i v ov iv u Q I ro ri rv h;obtain⟨p,xs,k,j,rfl,rfl,hp,hj,q⟩:=h;cases ro;obtain⟨t,rfl⟩:=ri;obtain⟨its,n,r,ho,hz⟩:=I.lst hp;obtain⟨h1,h2,h3,h4⟩:=Zhn hj;have hl:=r.length;have hn:=ZfK;have I':Inv X pins σ (upd H p (.lst (xs.set j v))) {s with heap:=s.heap.update p (aO (·.setIfInBounds j u))}:=
  I.lstUpd hp ho (ZgJ its n j u) (r.set rv j) (by rw[eJ];exact hz) s.toks
 by_cases h0:0<=k
 .have hk:k.toNat=j:=by
   rw[nJ h0 h4]at h1;exact aM h1
  exact PySem.W.ki_setAt ho h0 ⋯ (by rw[ah,<-hl];exact h4) (by rw[hk];exact⟨_,I',q⟩)
 .have hk:(k+(its.toArray.size:Int)).toNat=j:=by
   rw[m9 ⋯ h3]at h1
   rw[ah,<-hl];exact aM h1
  exact PySem.W.ki_setBack ho ⋯ (by rw[ah,<-hl];exact h3) ⋯ (by rw[hk];exact⟨_,I',q⟩)
theorem Zek(lo hi:Option Int)(n:Nat):(ic lo hi none n).1=((HT.sIx n 0 lo:Nat):Int)/\(ic lo hi none n).2.1=((HT.sIx n n hi:Nat):Int)/\(ic lo hi none n).2.2=1:=by
 refine⟨?_,?_,rfl⟩
 .cases lo with
  |none=>simp[ic,HT.sIx]
  |some i=>
   simp only[ic,HT.sIx,Option.getD_none,show(1:Int)>0 by decide,if_true]
   by_cases h:i<0
   .simp only[h,if_true]<;>lia
   .simp only[h,if_false]<;>lia
 .cases hi with
  |none=>simp[ic,HT.sIx]
  |some i=>
   simp only[ic,HT.sIx,Option.getD_none,show(1:Int)>0 by decide,if_true]
   by_cases h:i<0
   .simp only[h,if_true]<;>lia
   .simp only[h,if_false]<;>lia
theorem ZdG(its:List ae)(lo hi:Option Int):slicePick its.toArray lo hi none=((its.drop (HT.sIx its.length 0 lo)).take (HT.sIx its.length its.length hi-HT.sIx its.length 0 lo)).toArray:=by
 obtain⟨h1,h2,h3⟩:=Zek lo hi its.toArray.size;unfold slicePick;rw[h1,h2,h3];simp only[sliceRange_one,pick_run,ah]<;>rfl
def Zvw(K:Fg):V->Option Int->Option Int->Hp->VK->Prop:=λx lo hi H Q=>∃a xs,x=.ref a/\SqL K H a xs/\∀p,H p=none->Q (.ref p) (upd H p (.lst (Zk3 xs lo hi)))
theorem Zms:SlR X (Zvw X.K):=by
 intro pins s σ H x v vl vu lo hi sl Q I rx hs pl pu h;obtain⟨a,xs,rfl,hx,q⟩:=h;cases rx;obtain⟨its,r,ht,hz⟩:=I.list hx;have hlen:=r.length;refine⟨"list",_,slot_list_getitem.lookup,ht.isList.typeIs,?_⟩;refine wpAny_getItem_list_slice ht.isList hs pl pu .none (by simp) ?_ (by rw[ah]<;>lia)
 rw[ZdG,<-hlen];refine⟨.ref s.heap.objs.size,_,I.laid (t':=s.toks) (o:=.lst (Zk3 xs lo hi)) (λb ob q=>Hq _ q) (aj _) ?_,rfl,q _ (I.hok.fresh (aj _))⟩;exact⟨aZ (ZcK xs lo hi) hz,_,0,(r.drop (HT.sIx xs.length 0 lo)).take (HT.sIx xs.length xs.length hi-HT.sIx xs.length 0 lo),aG _ rfl⟩
theorem Zz:Zbt X (.builtin "len") (λxs H Q=>∃p ys,xs=[.ref p]/\(SqL X.K H p ys\/SqT X.K H p ys)/\Q (.int ys.length) H):=by
 intro pins s σ H xs us Q I r h;obtain⟨p,ys,rfl,hq,q⟩:=h;obtain⟨u,rfl,rx⟩:=ZbM r;cases rx;have hn:=ZfK;rcases hq with hq|hq
 .obtain⟨its,r',pl,hz⟩:=I.list hq;have hlen:=r'.length;exact Calls.call_len_list pl.isList (by simp only[ah]<;>lia) ⟨.int ys.length,H,I.tok _,⟨s.toks+1,by rw[ah,hlen]⟩,q⟩
 .obtain⟨its,r',pl,hz⟩:=I.tuple hq;have hlen:=r'.length;exact len_tuple pl (by simp only[ah]<;>lia) ⟨.int ys.length,H,I.tok _,⟨s.toks+1,by rw[ah,hlen]⟩,q⟩
theorem Zcd:Zbt X (.type "list") (λxs H Q=>∃p ys,xs=[.ref p]/\(SqL X.K H p ys\/SqT X.K H p ys)/\∀l,H l=none->Q (.ref l) (upd H l (.lst ys))):=by
 intro pins s σ H xs us Q I r h;obtain⟨p,ys,rfl,hq,q⟩:=h;obtain⟨u,rfl,rx⟩:=ZbM r;cases rx;have fin:∀(its:List ae),ZS ys its->ys.length<=sizeLine->∀(h':Heap)(c':Nat),(∀b o',s.heap.get? b=some o'->h'.get? b=some o')->
   h'.get? s.heap.objs.size=some {cls:=.type "list",dict:=none,data:=.seq its.toArray c',slots:= #[]}->EP X pins σ Q (.ref s.heap.objs.size) {s with heap:=h'}:=λits r' hz h' c' kp e=>
  ⟨.ref s.heap.objs.size,_,I.laid (t':=s.toks) kp (aj _) (show ZaN X.prog X.w _ h' _ (.lst ys)from⟨hz,its,c',r',e⟩),rfl,q _ (I.hok.fresh (aj _))⟩
 rcases hq with hq|hq
 .obtain⟨its,r',pl,hz⟩:=I.list hq;have hlen:=r'.length;obtain⟨o,ho,hc,n,hd⟩:=pl.isList;exact call_list_seq p (.inl rfl) ho hc hd (λh' c' kp e=>fin its r' hz h' c' kp e) (by simp only[ah]<;>lia)
 .obtain⟨its,r',pl,hz⟩:=I.tuple hq;have hlen:=r'.length;obtain⟨o,ho,hc,n,hd⟩:=pl;exact call_list_seq p (.inr rfl) ho hc hd (λh' c' kp e=>fin its r' hz h' c' kp e) (by simp only[ah]<;>lia)
def tyV(K:Fg)(T:String)(x:V)(H:Hp):Prop:=match x with
 |.str _=>T="str"
 |.ref p=>(T="list"/\∃xs,SqL K H p xs)\/T="tuple"/\∃o,K.lookup p=some o/\o.cls=.type "tuple"/\o.dict=none
 |_=>False
theorem ZoN(I:Inv X pins σ H s)(r:ZZ x v)(ty:tyV X.K T x H):s.TypeIs v T/\∀a,v=.ref a->∃ob,s.heap.get? a=some ob/\ob.dict=none:=by
 cases x with
 |str z=>
  obtain⟨t,rfl⟩:=r;cases(show T="str" from ty);exact⟨typeIs_str s z t,λ_ e=>nomatch e⟩
 |ref p=>
  cases r;rcases ty with⟨rfl,xs,hq⟩|⟨rfl,o,hk,hc,hd⟩
  .obtain⟨its,_,pl,_⟩:=I.list hq;refine⟨pl.isList.typeIs,λa e=>?_⟩;cases e;obtain⟨o,n,e,c,hd,_⟩:=pl;exact⟨o,e,hd⟩
  .refine⟨⟨o,I.kIn p o hk,hc⟩,λa e=>?_⟩;cases e;exact⟨o,I.kIn _ o hk,hd⟩
 |_=>exact ty.elim
def tBM(K:Fg)(T:String)(r:V->List V->Hp->VK->Prop)(to:TE)(t:TA):TE:=λσ H Q=>to σ H λx H1=>tyV K T x H1/\t σ H1 λxs H2=>r x xs H2 Q
variable {apos:Pos}{id:String}
theorem Zse(pa:PlainAttrs T)(slot:Slot T name id)(hty:typeOf (.builtin id)=pure (.type "method_descriptor"))(hm:MtR X id r)(ho:PE X o to)(ha:PA X (e::es) t)(hbase:autoParam (iQ o name X.env (eval o X.env)=eval o X.env) Qrf._auto_1)
  (hfew:((cR cpos (av (e::es) X.env)).all (λx=> !x.1)&&(jr cpos (gp [] X.env)).all (λx=>x.1.isSome) && decide ((e::es).length+([]:List i6).length+(if([]:List i6).isEmpty then 0 else 1)<30))=true:=by rfl)
  (hline:(apos.endLine==cpos.line)=true:=by rfl) (hs:av (e::es) X.env=(false,eval e X.env)::av es X.env:=by rfl) (hplain:(cR cpos (av es X.env)).any (·.1)=false:=by rfl):
  PE X (.Call (.Attribute o name apos) (e::es) [] cpos) (tBM X.K T r to t):=by
 intro pins s σ H Q I h;refine wpAny_Call_method_late hbase hfew hline rfl (thn (ho pins s σ H _ I h) λv s1 hz=>?_);obtain⟨x,H1,I1,r1,ty,q1⟩:=hz;obtain⟨h1,h2⟩:=ZoN I1 r1 ty;refine⟨T,id,pa,slot,hty,h1,h2,?_⟩;have hA:=ha cpos pins s1 σ H1 _ I1 q1;rw[hs]at hA ⊢;refine Calls.callWith_builtin (by show(false||(cR cpos (av es X.env)).any (·.1))=false;rw[hplain]<;>rfl) (Calls.evalArgs_plain ?_)
 exact thn hA λus s2 ⟨vs,H2,I2,r2,q2⟩=>hm pins s2 σ H2 x vs v us Q I2 r1 r2 q2
end
def MtM(X:Cx)(id:String)(r:V->List V->Hp->VK->Prop):Prop:=
 ∀(pins:Pn)(s:aC)(σ:St)(H:Hp)(x:V)(xs:List V)(v:ae)(us:List ae)(Q:VK),Inv X pins σ H s->ZZ x v->ZS xs us->r x xs H Q->
  wpAny (ao X.prog X.w) X.A (call (.builtin id) (v::us)) (EP X pins σ Q) X.xe s
theorem ZS.one:∀{x:V}{us:List ae},ZS [x] us->∃u,us=[u]/\ZZ x u:=by
 intro _ _ h;cases h with|cons r t=>cases t;exact⟨_,rfl,r⟩
theorem ZS.reverse(h:ZS xs us):ZS xs.reverse us.reverse:=by
 induction h with
 |nil=>exact .nil
 |cons r t ih=>rw[dc,dc];exact ZS.append ih (.cons r .nil)
theorem Inv.lset{its:List ae}(I:Inv X pins σ H s)(hH:H l=some (.lst xs))(e:s.heap.get? l=some {cls:=.type "list",data:=.seq its.toArray n})(hf:f its.toArray=its'.toArray)(hv:ZS ys its')(hz:ys.length<=sizeLine):Inv X pins σ (upd H l (.lst ys)) {s with heap:=s.heap.update l (aO f),toks:=t'}:=by
 have q:=PySem.IsL.update e f;rw[hf]at q;refine I.write (x:=l) (e:=l) (by rw[hH];exact trivial) (.inl rfl) (λb' u hb hu=>(aL s.heap (aO f) (cu hb)).trans hu) ⟨_,q⟩ ?_
 exact⟨hz,its',_,hv,q⟩
theorem Inv.lnew(I:Inv X pins σ H s)(hv:ZS ys its)(hz:ys.length<=sizeLine):Inv X pins σ (upd H s.heap.objs.size (.lst ys)) {s with heap:=s.heap.push {cls:=.type "list",data:=.seq its.toArray},toks:=t'}:=
 I.laid (λ_ _ q=>Hq _ q) (aj _) ⟨hz,its,0,hv,aG _ rfl⟩
theorem Inv.fresh(I:Inv X pins σ H s):H s.heap.objs.size=none:=I.hok.fresh (aj _)
theorem Inv.lstM(I:Inv X pins σ H s)(hH:H l=some (.lst xs)):xs.length<=sizeLine/\∃(its:List ae) (n:Nat),ZS xs its/\xs.length=its.length/\s.heap.get? l=some {cls:=.type "list",data:=.seq its.toArray n}:=by
 obtain⟨z,its,n,r,e⟩:=I.hok l _ hH;exact⟨z,its,n,r,r.length,e⟩
theorem ZjT(h:n<=sizeLine):gN n=false:=by
 unfold gN;exact decide_eq_false ⋯
def rAppend:V->List V->Hp->VK->Prop:=λx vs H Q=>∃l xs y,x=.ref l/\vs=[y]/\H l=some (.lst xs)/\xs.length<sizeLine/\Q .non (upd H l (.lst (xs++[y])))
theorem Zel:MtM X "list.append" rAppend:=by
 intro pins s σ H x vs v us Q I rx rv h;obtain⟨l,xs,y,rfl,rfl,hH,hz,q⟩:=h;cases rx;obtain⟨u,rfl,ru⟩:=rv.one;obtain⟨z,its,n,r,hl,e⟩:=I.lstM hH;refine call_meets F.slot_list_append ⟨_,e,rfl⟩ F.entry_list_append (F.args_list_append_2 _ _) (PySem.list_append l its.toArray n u (by rw[ah];lia)) ⟨e,?_⟩
 refine⟨.non,_,I.lset (its':=its++[u]) hH e (by simp) (r.append (.cons ru .nil)) ?_,rfl,q⟩
 rw[aT,fR];lia
def rExtend:V->List V->Hp->VK->Prop:=λx vs H Q=>∃l b xs zs,x=.ref l/\vs=[.ref b]/\H l=some (.lst xs)/\H b=some (.lst zs)/\xs.length+zs.length<=sizeLine/\Q .non (upd H l (.lst (xs++zs)))
theorem Zhq:MtM X "list.extend" rExtend:=by
 intro pins s σ H x vs v us Q I rx rv h;obtain⟨l,b,xs,zs,rfl,rfl,hH,hB,hz,q⟩:=h;cases rx;obtain⟨u,rfl,ru⟩:=rv.one;cases ru;obtain⟨z,its,n,r,hl,e⟩:=I.lstM hH;obtain⟨z2,its2,n2,r2,hl2,e2⟩:=I.lstM hB;have hsz:its.toArray.size+its2.toArray.size<=sizeLine:=by rw[ah,ah];lia
 have hlong:¬(!its.toArray.isEmpty&&gN (its.toArray.size+its2.toArray.size))=true:=by
  rw[ZjT hsz,Bool.and_false];exact cG
 refine call_meets F.slot_list_extend ⟨_,e,rfl⟩ F.entry_list_extend (F.args_list_extend_2 _ _)
  (AutoSeq1.list_extend_list_list_0 l its.toArray n b its2.toArray n2 hlong (by rw[ah];lia) ⋯) ⟨e,e2,?_⟩
 refine⟨.non,_,I.lset (its':=its++its2) hH e (by simp) (r.append r2) ?_,rfl,q⟩
 rw[aT];lia
def rCat:R2:=λx y H Q=>∃l b xs zs,x=.ref l/\y=.ref b/\H l=some (.lst xs)/\H b=some (.lst zs)/\xs.length+zs.length<=sizeLine/\∀p,H p=none->Q (.ref p) (upd H p (.lst (xs++zs)))
theorem ZoO:OpR X (fK .Add) rCat:=by
 intro pins s σ H x y v u Q I rx ry h;obtain⟨l,b,xs,zs,rfl,rfl,hH,hB,hz,q⟩:=h;cases rx;cases ry;obtain⟨z,its,n,r,hl,e⟩:=I.lstM hH;obtain⟨z2,its2,n2,r2,hl2,e2⟩:=I.lstM hB;refine PySem.P.add_list e e2 ?_ (by rw[ah,ah];lia)
 have ea:its.toArray++its2.toArray=(its++its2).toArray:=by simp
 rw[ea];exact⟨.ref _,_,I.lnew (t':=s.toks) (r.append r2) (by rw[aT];lia),rfl,q _ I.fresh⟩
end L2
namespace Att
open PySem.W PySem.Calls PyProof.Rows
theorem ZcL:∀(ns:List Int)(vs:List ae),WellAll P h vs (ns.map WData.int)->io vs ns:=by
 intro ns
 induction ns with
 |nil=>
  intro vs w;rw[i5]at w;cases w;exact .nil
 |cons n ns ih=>
  intro vs w;rw[aK]at w;cases w with
  |cons a b=>
   cases a;exact .cons _ _ (ih _ b)
theorem Zhr{l:OpenLaw}(hn:l.most=some n)(hpre:l.row.toRowW.claim.pre args=true)(hwl:WellAll P h vals args):∃a vs ns,vals=[aU a]/\args=[WData.list (ns.map WData.int)]/\h.get? a=some {cls:=.type "list",data:=.seq vs.toArray}/\io vs ns/\ns.length<=n:=by
 have hsh:WShape.hasAll [] args [.list .int]=true:=(pre_splitW hpre).1;have hc:l.pre.holds [] {args:=args}=true:=(pre_splitW hpre).2;obtain⟨d,r,rfl,h1,h2⟩:=hasAllW_cons hsh;obtain rfl:=hasAllW_nil h2;obtain⟨xs,rfl,h3⟩:=hasW_list h1;obtain⟨ns,rfl⟩:=items_int h3;have hlen:ns.length<=n:=by
  unfold OpenLaw.pre at hc;have h4:(WTm.not (.lt (.lit (.int (n:Int))) (.len (.arg 0)))).holds [] {args:=[.list (ns.map .int)]}=true:=by
   have h4:=(holds_andW hc).1;rw[hn]at h4;exact h4
  have h5:=condW_of h4 (w_not (w_lt w_lit (w_len_list (w_arg rfl))));rw[af]at h5;refine Nat.le_of_not_lt λq=>?_;have q':(n:Int)<((ns.length:Nat):Int):=⋯
  first
   | (rw[decide_eq_true q']at h5;exact absurd h5 (by decide))
   | (simp at h5;lia)
 cases hwl with
 |cons w1 w2=>
  cases w2;cases w1 with
  |list ho hall=>exact⟨_,_,ns,rfl,rfl,ho,ZcL ns _ hall,hlen⟩
theorem Zhs(l:OpenLaw)(args:List WData):l.row.toRowW.claim.post args (.bool true) args=true:=
 postW_of (r:=l.row.toRowW) (X:=(true==true))
  (show WShape.has [] (.bool true) .bool=true by first|rfl|decide|simp[WShape.has,WShape.arms,WShape.armsAll])
  (show(WTm.eq .res (.lit (.bool true))).value [] {args:=args,res:=some (.bool true),after:=args}=some (.bool (true==true))from w_eq_bool (w_res rfl) w_lit) rfl
theorem Ze5{l:OpenLaw}(hn:l.most=some n)(hdf:d.params.defaults=[])(call:∀(w:c6)(s₀ s₁:aC)(mg mb:Str->Option ae)(fa:Addr)(o:Obj)(pm cd doc:ae)(a:Addr)(vs:List ae)(ns:List Int),Ground q loose [] XP w s₀ mg mb s₁.heap->YP w s₁.heap->s₁.heap.get? fa=some o->o.data=.func (docDef d.name d.params d.body d.scope pm cd doc)->s₁.heap.CodeRec cd d.name->mg d.name=some (.ref fa)->s₁.heap.get? a=some {cls:=.type "list",data:=.seq vs.toArray}->io vs ns->ns.length<=n->s₁.gens= #[]->fH (ao l.prog w) mz (.call (.ref fa) ⟨[.ref a],[]⟩) (λr s'=>r=.ok (.ret (.bool true))/\OldK s₁.heap s'.heap/\s'.os=s₁.os/\iN s'.gens) s₁):WalkO q loose XP YP l.row.toRowW d [] (λf vs=>PySem.call f vs):=by
 intro w s₀ s₁ mg mb G Y fa o pm cd doc dV kV ho hd hcd hD hmg hg args vals as hpre hlay hrd hwl hlo;obtain rfl:dV=.none:=Dflts.none hD hdf;obtain rfl:kV=.none:=Dflts.noKw hD;obtain⟨a,vs,ns,rfl,rfl,hobj,hints,hlen⟩:=Zhr hn hpre hwl;refine enter_call (m5 (call w s₀ s₁ mg mb fa o pm cd doc a vs ns G Y ho (fd_plain hd) hcd hmg hobj hints hlen hg) λr s' hq=>?_);obtain⟨rfl,h2,h3,h4⟩:=hq;exact⟨.inl ⟨.bool true,.bool true,[],rfl,λ_=>rfl,.bool true,Zhs l _,λ_=>⟨mO.nil,λ_ hm=>(nomatch hm)⟩⟩,h2,h3,h4⟩
end Att
namespace L2
open PyProof.Rows
theorem Zem:∀{vs:List ae}{ns:List Int},io vs ns->ZS (ns.map V.int) vs
 |_,_,.nil=>.nil
 |_,_,.cons n t h=>.cons ⟨t,rfl⟩ (Zem h)
noncomputable def Za6(s:Stmt):Arguments:=match s with
 |.FunctionDef _ a _ _ _ _ _ _ _ _=>a
 |_=>{posonlyargs:=[],args:=[],vararg:=none,kwonlyargs:=[],kw_defaults:=[],kwarg:=none,defaults:=[]}
noncomputable def Zac(s:Stmt):List Stmt:=match s with
 |.FunctionDef _ _ b _ _ _ _ _ _ _=>b
 |_=>[]
noncomputable def Zo(s:Stmt):ji:=match s with
 |.FunctionDef _ _ _ _ _ _ sc _ _ _=>sc
 |_=>{kind:=.function,names:=[],isGenerator:=false,isCoroutine:=false}
noncomputable abbrev CX0:CXT:=λ_ _ _ _ _ _=>False
noncomputable abbrev E0:XK:=λ_ _ _=>False
structure Fun(K:Fg) (x qual:Str) (st:Stmt) (f:Addr) (fd:iS):Prop where
 ex:∃(oc:ae) (od:Option Addr) (kV doc pm:ae) (an:Option Addr) (cdv ct:ae) (osl:Array (Option ae)),
  fd=PySem.W.fnOf x qual (Za6 st) (Zac st) (Zo st) .none kV doc pm an cdv ct/\K.lookup f=some ⟨oc,od,.func fd,osl⟩/\PySem.W.codeIn K cdv qual=true
 kp:PySem.W.keepIn K (.ref f)=true
section
variable {K:Fg}{mg:Str->Option ae}
theorem Fun.ok{st:Stmt}(F:Fun K x qual st f fd)(S:FnScope N ps (Zo st))(len:∀vs H Q E,sp vs H Q E->vs.length=ps.length)(hbody:∀(cdv:ae)(A:cV)(outer:List Env)(s:aC)(H:Hp)(vs:List V)(Q:VK)(E:XK),Room k (A.deeper (iY qual (Zo st) s.heap.objs.size f cdv))->sp vs H Q E->∃t,PSs (Ze4 CX0 P w K mg base N qual (Zo st) f cdv A outer s H E).nox (Zac st) t/\t {nx:=λ_ H'=>Q .non H',rt:=Q} (start N vs) H):FnOk P w K mg base CX0 (k+1) f fd ps sp:=by
 obtain⟨oc,od,kV,doc,pm,an,cdv,ct,osl,rfl,lk,hcd⟩:=F.ex;refine Zmk lk hcd S len λA outer s H vs Q E hr hsp=>?_;obtain⟨t,h,q⟩:=hbody cdv A outer s H vs Q E hr hsp;exact⟨t,h.nox,q⟩
theorem Fun.binds{st:Stmt}(F:Fun K x qual st f fd)(h:∀(kV doc pm:ae)(an:Option Addr)(cdv ct:ae)(us:List ae),us.length=ps.length->iT (PySem.W.fnOf x qual (Za6 st) (Zac st) (Zo st) .none kV doc pm an cdv ct) ⟨us,[]⟩=pure (ps.zip us)):Ze3 K fd ps []:=by
 obtain⟨oc,od,kV,doc,pm,an,cdv,ct,osl,rfl,lk,hcd⟩:=F.ex;exact .all (h kV doc pm an cdv ct)
theorem ZoP{st:Stmt}{kV:ae}(l:K.lookup f=some ⟨oc,od,.func (PySem.W.fnOf x qual (Za6 st) (Zac st) (Zo st) .none kV doc pm an cdv ct),osl⟩)(c:PySem.W.codeIn K cdv qual=true)(k:PySem.W.keepIn K (.ref f)=true):Fun K x qual st f (PySem.W.fnOf x qual (Za6 st) (Zac st) (Zo st) .none kV doc pm an cdv ct):=⟨⟨oc,od,kV,doc,pm,an,cdv,ct,osl,rfl,l,c⟩,k⟩
end
theorem Zht(h:n<=1000):n<sizeLine:=cI h (by decide)
theorem pv(i:Nat)(hN:autoParam (X.N[i]?=some x) Qrf._auto_1)(hv:Vis X.env.scope x:=by first|exact dw rfl|exact lQ (dw rfl)|exact lQ (lQ rfl))(hd:autoParam ((x==("__debug__":Str))=false) Qde._auto_1)(hcd:autoParam ((x==("__classdict__":Str))=false) Qde._auto_1):PE X (.Name x pos) (Zuj i):=ZkZ hN hv hd hcd
theorem Zn6{A:Prop}(h:B):if false=true then A else B:=by
 rw[if_neg cG];exact h
theorem Zn7{A:Prop}(h:A):if true=true then A else B:=by
 rw[if_pos rfl];exact h
end L2
namespace DL
open PyProof.Rows L2
structure Rw where
 n:String
 i:Nat
 f:Nat
 m:String
 t:Nat
 u:Nat
 ln:Nat
 na:Nat
 b:Bool
 v:Nat
noncomputable def zz1(P:lR)(s:String)(n:Nat)(v:ae):mA:={hash:=PyData.keyHash P (bJ s),key:=mw (bJ s) n,val:=v}
noncomputable def zz3(s:String)(n:Nat):ae:=mw (bJ s) n
noncomputable def zz4(n:Int):ae:=j6 n 0
noncomputable def zz6(b:Bool)(n:Nat):ae:=if b then .ref n else .none
def Rw.fo(p:Nat->Stmt)(r:Rw):Obj:=⟨.type "function",none,.func (PySem.W.fnOf r.n r.n (Za6 (p r.i)) (Zac (p r.i)) (Zo (p r.i)) .none .none .none (.str r.m r.t) none (.ref (r.f-1)) .none),#[]⟩
def Rw.co(r:Rw):Obj:={cls:=bB "code",data:=lO #[zz3 r.n r.u,zz3 r.n (r.u+1),zz3 "/claim/cut.py" (r.u+2),zz4 r.ln,zz4 r.na,zz4 0,zz4 0,zz4 3,.ref (r.f-(if r.b then 6 else 4)),.bool true,zz4 181,.ref (r.f-(if r.b then 5 else 3)),.none,zz6 r.b (r.f-4),zz6 r.b (r.f-3),.ref (r.f-2),zz4 r.v,zz4 r.ln,zz3 "/claim/cut.py" (r.v+1)]}
def Rw.de(P:lR)(r:Rw):mA:=zz1 P r.n (r.v+2) (.ref r.f)
def Rw.en(p:Nat->Stmt)(r:Rw):Fg:=[(r.f,r.fo p),(r.f-1,r.co)]
structure Cw where
 n:String
 f:Nat
 t:Nat
 ln:Nat
def Cw.cls(r:Cw):Obj:={cls:=bB "type",data:=Data.cls {name:=bJ r.n,bases:=[aU 24],mro:=[aU r.f,aU 24,bB "ValueError",bB "Exception",bB "BaseException",bB "object"],ns:=r.f-1,qualname:=bJ r.n},slots:= #[some (aU (r.f-9)),none,some (zz3 r.n r.t),some (zz3 r.n (r.t+8)),some (jU "ValueError.__new__"),some (mT true)]}
def Cw.ns(P:lR)(r:Cw):Obj:={cls:=bB "dict",data:=mB #[zz1 P "__module__" (r.t+7) (zz3 "rayround.errors" 187),zz1 P "__firstlineno__" (r.t+11) (j6 r.ln (r.t+10)),zz1 P "__static_attributes__" (r.t+12) (aU (r.f-2)),zz1 P "__doc__" (r.t+13) bS] 2}
def Cw.de(P:lR)(r:Cw):mA:=zz1 P r.n (r.t+15) (.ref r.f)
def Cw.en(P:lR)(r:Cw):Fg:=[(r.f,r.cls),(r.f-1,r.ns P)]
end DL
namespace HD
open PySem.W PyProof.Rows
noncomputable def ZrN(thr:js->Bool)(stp:fv->js->Option (fv×js))(n:Nat):fv->js->Option fv:=
 Nat.rec (motive:=λ_=>fv->js->Option fv) (λ_ _=>none) (λ_ ih s t=>Bool.rec (motive:=λ_=>Option fv) (Option.rec (motive:=λ_=>Option fv) none (λr=>ih r.1 r.2) (stp s t)) (some s) (thr t)) n
noncomputable def ZjU(ok:js->Bool)(stp:fv->js->Option (fv×js))(s:fv)(t:js):Option (fv×js):=Bool.rec (motive:=λ_=>Option (fv×js)) none (stp s t) (ok t)
section
variable {tb:String->Option dP}{p:cE}{w:c6}{n₀:Nat}{ann:Option ae}
theorem Zk4:∀{n:Nat}{s s':fv}{t:js},ZrN nh (ZjU (lS n₀ ann) (ni (kF tb) p w)) n s t=some s'->topRun tb p w n₀ ann n s.abs t=some s'.abs
 |0,s,s',t,h=>by cases h
 |n+1,s,s',t,h=>by
  unfold topRun
  change Bool.rec (motive:=λ_=>Option fv) (Option.rec (motive:=λ_=>Option fv) none (λr=>ZrN nh (ZjU (lS n₀ ann) (ni (kF tb) p w)) n r.1 r.2) (ZjU (lS n₀ ann) (ni (kF tb) p w) s t)) (some s) (nh t)=some s' at h
  cases ht:nh t with
  |true=>
   rw[ht]at h;have h':some s=some s':=h;cases h';rfl
  |false=>
   rw[ht]at h;cases hk:lS n₀ ann t with
   |false=>
    have e:ZjU (lS n₀ ann) (ni (kF tb) p w) s t=none:=by unfold ZjU;rw[hk]
    rw[e]at h;cases h
   |true=>
    have e:ZjU (lS n₀ ann) (ni (kF tb) p w) s t=ni (kF tb) p w s t:=by unfold ZjU;rw[hk]
    rw[e]at h;cases hs:ni (kF tb) p w s t with
    |none=>rw[hs]at h;cases h
    |some r=>
     obtain⟨s2,t2⟩:=r;rw[hs]at h
     have:=stepT_spec hs
     rw[this];exact Zk4 (n:=n) h
end
noncomputable def T0(w:c6)(os:OsState):fv:=
 ⟨[boot_o_0,boot_o_1,boot_o_2,boot_o_3,boot_o_4,boot_o_5,boot_o_6,boot_o_7,boot_o_8,boot_o_9,boot_o_10].foldl (λ(r:Nat×BT) o=>(r.1+1,r.2.ins r.1 (o w.params))) (0,.nil) |>.2,11,(eK w.params).life,#[],mV,nF,os⟩
theorem ZoQ(w:c6)(os:OsState):(T0 w os).abs=⟨eK w.params,#[],mV,nF,os⟩:=by kernel_rfl
theorem Zmt:bJ "__annotations__"=⟨#[95,95,97,110,110,111,116,97,116,105,111,110,115,95,95]⟩:=by decide +kernel
theorem Zhu{Yf:aC->α}{Ya:c6->α}(e:opening p=plainProg p.main.scope.names)(hN:Nat.ble 600 N=true)(f:∀s,fenceModules? p s=some s)(le:Nat.ble M N=true)(Zsf:∀(w:c6)(os:OsState),(ZrN nh (ZjU (lS 11 (some (.ref 6))) (ni (kF mC) p w)) M (T0 w os) (topStub p)).map (λs=>((staticsOk (fL p.main.body) (eK w.params) s.abs.heap&&namesBound p s.abs.heap&&gensDone s.abs&&laidKept (eK w.params) s.abs.heap),openSeen q loose (fL p.main.body) Xt true s.abs,Yf s.abs))=some (true,openGood q loose,Ya w)):LeftO p q loose Xt Yf Ya N:=λw=>by
 obtain⟨⟨h,gs,d,k,os⟩,e1,e2⟩:=iq.mp (boot_open e hN f w);obtain⟨rfl,rfl,rfl,rfl⟩:h=eK w.params/\gs=Array.mk []/\d=mV/\k=nF:=by simpa using e2
 obtain⟨s',r1,r2⟩:=iq.mp (Zsf w os);obtain⟨l1,l2,l3⟩:_/\_/\_:=by simpa only[mP]using r2
 have r:=Zk4 r1;rw[ZoQ]at r;have r:=topRun_mono (N-M) _ _ _ _ r;rw[show M+(N-M)=N by have:=Nat.le_of_ble_eq_true le;lia]at r
 have z1:((eK w.params).isNs aR&&(Array.mk []:Array GenState).size==0)=true:=by kernel_rfl
 have z2:(eK w.params).objs.size=11:=rfl;have z3:(eK w.params).nsMap aR "__annotations__"=some (.ref 6):=by
  rw[Zmt]
  kernel_rfl
 have t:topFrom mC p w N ⟨eK w.params,Array.mk [],mV,nF,os⟩=some s'.abs:=by
  unfold topFrom;dsimp only;rw[z1,z2,z3,r];show(match staticsOk (fL p.main.body) (eK w.params) s'.abs.heap&&namesBound p s'.abs.heap&&gensDone s'.abs&&laidKept (eK w.params) s'.abs.heap with|true=>_|false=>_)=_
  rw[l1]
 unfold openEnds;rw[e1];show(topFrom mC p w N _).map _=_;rw[t];exact congrArg some (db l2 l3)
end HD
namespace HD
open PySem.W
theorem Zsg:@lS=@PySem.W.Fast.tw6613529449190102663:=PySem.W.Fast.te6613529449190102663
theorem Zmu:@ni=@PySem.W.Fast.tw10156331382660048174:=PySem.W.Fast.te10156331382660048174
theorem ZoR:@kF=@PySem.W.Fast.tw11892475500146522536:=PySem.W.Fast.te11892475500146522536
theorem ZoS:@mC=@PySem.W.Fast.tw14364793385576792824:=PySem.W.Fast.te14364793385576792824
theorem Zmv:@openSeen=@PySem.W.Fast.tw4187177175401517315:=PySem.W.Fast.te4187177175401517315
theorem ZoT:@fL=@PySem.W.Fast.tw5923862056798008813:=PySem.W.Fast.te5923862056798008813
end HD
namespace K46
open L2 DL
noncomputable def top(i:Nat):Stmt:=PySem.Challenge.pw_rayround_k46_dots_walked.main.body.getD i (.Pass ⟨0,0,0,0⟩)
def dS(i:Nat):List (Str×dk):=(Zo (top i)).names
noncomputable abbrev rw0(n:String)(i f u ln na:Nat)(b:Bool)(v:Nat):Rw:=⟨n,i,f,"rayround.wholes",271,u,ln,na,b,v⟩
noncomputable abbrev rw1(n:String)(i f u ln na:Nat)(b:Bool)(v:Nat):Rw:=⟨n,i,f,"rayround.pairs",290,u,ln,na,b,v⟩
noncomputable abbrev rw2(n:String)(i f u ln na:Nat)(b:Bool)(v:Nat):Rw:=⟨n,i,f,"rayround.rounds",308,u,ln,na,b,v⟩
noncomputable abbrev rw3(n:String)(i f u ln na:Nat)(b:Bool)(v:Nat):Rw:=⟨n,i,f,"rayround.ratios",335,u,ln,na,b,v⟩
noncomputable abbrev rw4(n:String)(i f u ln na:Nat)(b:Bool)(v:Nat):Rw:=⟨n,i,f,"rayround.heights",387,u,ln,na,b,v⟩
noncomputable abbrev rw5(n:String)(i f u ln na:Nat)(b:Bool)(v:Nat):Rw:=⟨n,i,f,"rayround.bodies",411,u,ln,na,b,v⟩
noncomputable abbrev rw6(n:String)(i f u ln na:Nat)(b:Bool)(v:Nat):Rw:=⟨n,i,f,"rayround.dots",436,u,ln,na,b,v⟩
noncomputable abbrev rw7(n:String)(i f u ln na:Nat)(b:Bool)(v:Nat):Rw:=⟨n,i,f,"rayround.walks",489,u,ln,na,b,v⟩
noncomputable abbrev rw8(n:String)(i f u ln na:Nat)(b:Bool)(v:Nat):Rw:=⟨n,i,f,"law_rayround_k46_dots_walked",509,u,ln,na,b,v⟩
def tab:List Rw:=[rw0 "is_whole" 7 82 273 13 1 true 277,rw0 "greatest_divisor" 8 89 280 15 2 true 287,rw1 "crossed" 10 96 292 21 2 true 297,rw1 "product" 11 103 300 23 2 true 305,rw2 "following" 13 110 310 26 2 true 315,rw2 "unspanned" 14 117 318 28 1 true 324,rw2 "ask_smooth" 15 124 327 33 1 true 332,rw3 "ratio" 17 131 337 38 2 true 343,rw3 "minus" 18 138 346 47 2 true 351,rw3 "times" 19 145 354 49 2 true 359,rw3 "less" 20 152 362 51 2 true 367,rw3 "common_bottom" 21 159 370 53 1 true 376,rw3 "stretched" 22 166 379 58 2 true 384,rw4 "ask_height" 24 173 389 61 2 true 394,rw4 "slope_through" 25 180 397 64 2 true 408,rw5 "edge" 27 185 413 69 3 false 416,rw5 "in_order" 28 190 419 86 1 false 422,rw5 "body" 29 197 425 89 2 true 433,rw6 "width" 31 202 438 98 2 false 441,rw6 "lessened" 32 209 444 101 3 true 450,rw6 "least_wide" 33 216 453 103 3 true 464,rw6 "two_ways" 34 223 467 114 1 true 474,rw6 "dots_across" 35 228 477 125 4 false 480,rw6 "dots" 36 233 483 136 2 false 486,rw7 "ask_place" 38 240 491 149 2 true 496,rw7 "put_in" 39 247 499 152 2 true 506,rw8 "_law_purse" 41 254 511 158 2 true 518,rw8 "_law_take" 42 261 521 164 2 true 527,rw8 "_law_short_put" 43 268 530 171 2 true 536,rw8 "_law_base" 44 273 539 174 2 false 542,rw8 "_law_table" 45 278 545 183 1 false 548,rw8 "_law_spun" 46 283 551 196 4 false 554,rw8 "_law_met" 47 290 557 202 2 true 563,rw8 "_law_ratio" 48 297 566 205 2 true 573,rw8 "_law_heights" 49 304 576 210 2 true 586,rw8 "_law_tried" 50 309 589 218 2 false 592,rw8 "_law_wide_good" 51 314 595 227 1 false 598,rw8 "law" 52 319 601 239 1 false 604]
noncomputable def Zur(p:cE)(i:Nat):Stmt:=p.main.body.getD i (.Pass ⟨0,0,0,0⟩)
noncomputable def Zsh:List Cw:=[⟨"NoRatio",37,207,4⟩,⟨"NotSmooth",49,223,6⟩,⟨"NoPlace",61,239,8⟩,⟨"NoHeight",73,255,10⟩]
def Kf(p:cE)(P:lR):Fg:=(3,{cls:=bB "dict",data:=mB ([zz1 P "__name__" 165 (zz3 "law_rayround_k46_dots_walked" 509),zz1 P "__doc__" 166 (bS),zz1 P "__package__" 167 (bS),zz1 P "__loader__" 168 (jU "__main__.__loader__#opaque"),zz1 P "__spec__" 169 (bS),zz1 P "__annotations__" 170 (aU 6),zz1 P "__builtins__" 171 (aU 4),zz1 P "__file__" 173 (zz3 "/claim/cut.py" 172),zz1 P "__cached__" 174 (bS),zz1 P "RayError" 206 (aU 24)]++Zsh.map (·.de P)++tab.map (·.de P)).toArray 52})::tab.flatMap (·.en (Zur p))++Zsh.flatMap (·.en P)++[(4,{cls:=bB "module",dict:=some 0}),
 (23,{cls:=bB "dict",data:=mB #[zz1 P "__module__" 196 (zz3 "rayround.errors" 187),zz1 P "__firstlineno__" 200 (j6 2 199),zz1 P "__static_attributes__" 201 (aU 22),zz1 P "__weakref__" 203 (aU 25),zz1 P "__doc__" 204 (bS)] 3}),
 (24,{cls:=bB "type",data:=Data.cls {name:=bJ "RayError",bases:=[bB "ValueError"],mro:=[aU 24,bB "ValueError",bB "Exception",bB "BaseException",bB "object"],ns:=23,qualname:=bJ "RayError",subclasses:=[aU 37,aU 49,aU 61,aU 73]},slots:= #[some (aU 15),none,some (zz3 "RayError" 189),some (zz3 "RayError" 197),some (jU "ValueError.__new__"),some (mT true)]})]
def asK:List Addr:=3::tab.flatMap (λr=>[r.f,r.f-1])++Zsh.flatMap (λr=>[r.f,r.f-1])++[4,23,24]
def Tf:Fg:=tab.map (λr=>(r.f-(if r.b then 5 else 3),{cls:=.none,data:=.fields #[]}))++[]
def asT:List Addr:=asK++tab.map (λr=>r.f-(if r.b then 5 else 3))++[]
theorem ZoU(p:cE)(P:lR):asT=(Kf p P++Tf).map (·.1):=by kernel_rfl
def qf(p:cE):cE:={p with main:={p.main with body:=[Zur p 52]}}
noncomputable def lo:List Str:=(["__name__","RayError","NoRatio","NotSmooth","NoPlace","NoHeight","is_whole","greatest_divisor","crossed","product","following","unspanned","ask_smooth","ratio","minus","times","less","common_bottom","stretched","ask_height","slope_through","edge","in_order","body","width","lessened","least_wide","two_ways","dots_across","dots","ask_place","put_in","_law_purse","_law_take","_law_short_put","_law_base","_law_table","_law_spun","_law_met","_law_ratio","_law_heights","_law_tried","_law_wide_good"]:List String).map bJ
open PySem.W
noncomputable abbrev pw:=PySem.Challenge.pw_rayround_k46_dots_walked
abbrev Hk:Hook:=kHook (λP=>Kf pw P++Tf) asT (ZoU pw)
set_option maxRecDepth 1000000 in
set_option maxHeartbeats 0 in
theorem Zsf(w:c6)(os:OsState):(HD.ZrN nh (HD.ZjU (lS 11 (some (.ref 6))) (ni (kF mC) PySem.Challenge.pw_rayround_k46_dots_walked w)) 2303 (HD.T0 w os) (topStub PySem.Challenge.pw_rayround_k46_dots_walked)).map (λs=>((staticsOk (fL PySem.Challenge.pw_rayround_k46_dots_walked.main.body) (eK w.params) s.abs.heap&&namesBound PySem.Challenge.pw_rayround_k46_dots_walked s.abs.heap&&gensDone s.abs&&laidKept (eK w.params) s.abs.heap),openSeen (qf PySem.Challenge.pw_rayround_k46_dots_walked) lo (fL PySem.Challenge.pw_rayround_k46_dots_walked.main.body) (λs=>xlAt (qf PySem.Challenge.pw_rayround_k46_dots_walked) [] s&&recOk [] s) true s.abs,asT.map s.abs.heap.get?))=some (true,openGood (qf PySem.Challenge.pw_rayround_k46_dots_walked) lo,(Kf PySem.Challenge.pw_rayround_k46_dots_walked w.params++Tf).map λx=>some x.2):=by
 rw[HD.Zsg,HD.Zmu,HD.ZoR,HD.ZoS,HD.Zmv,HD.ZoT]
 kernel_rfl
set_option maxRecDepth 1000000 in
set_option maxHeartbeats 0 in
theorem Zvx:PySem.W.OpenLaw.wellSaid PySem.Challenge.rw_rayround_k46_dots_walked=true:=by kernel_rfl
end K46
namespace L2
open PyProof.Rows
section
variable (P:cE)(w:c6)
end
section
variable {κ:Type}[DecidableEq κ]
noncomputable def ZjA(kvs:List (κ×V))(k:κ):Option V:=(kvs.find? λkv=>decide (kv.1=k)).map (·.2)
noncomputable def ZjB(kvs:List (κ×V))(k:κ)(v:V):List (κ×V):=
 if(kvs.any λkv=>decide (kv.1=k))=true then kvs.map (λkv=>if kv.1=k then(kv.1,v)else kv)else kvs++[(k,v)]
noncomputable def ZoV(kvs:List (κ×V))(k:κ):List (κ×V):=kvs.filter λkv=>decide (kv.1≠k)
theorem ZfN{p:κ×V}{r:List (κ×V)}{k:κ}(e:p.1=k):ZjA (p::r) k=some p.2:=by simp[ZjA,kZ,e]
theorem ZfO{p:κ×V}{r:List (κ×V)}{k:κ}(e:¬p.1=k):ZjA (p::r) k=ZjA r k:=by simp[ZjA,kZ,e]
theorem ZfP(k:κ):∀kvs:List (κ×V),(kvs.any λkv=>decide (kv.1=k))=(ZjA kvs k).isSome
 |[]=>rfl
 |p::r=>by
  rw[List.any_cons];by_cases e:p.1=k
  .simp only[ZfN e,decide_eq_true e,Bool.true_or,jt]
  .rw[ZfO e,decide_eq_false e,Bool.false_or];exact ZfP k r
theorem Ze6(kvs:List (κ×V))(k:κ)(v:V):(ZjB kvs k v).length<=kvs.length+1:=by
 unfold ZjB;split
 .rw[af];lia
 .rw[aT,bv,gW];lia
theorem KV.drop{kvs:List (κ×V)}{vs:List (κ×ae)}(r:KV kvs vs)(k:κ):KV (ZoV kvs k) (without vs k):=by
 unfold KV at r ⊢;unfold ZoV without
 induction r with
 |nil=>exact .nil
 |@cons p q ps qs h t ih=>
  obtain⟨h1,h2⟩:=h;rw[iI,iI];by_cases e:p.1=k
  .have a:¬decide (p.1≠k)=true:=by simp[e]
   have b:¬decide (q.1≠k)=true:=by simp[h1.symm.trans e]
   rw[if_neg a,if_neg b];exact ih
  .have e':¬q.1=k:=λz=>e (h1.trans z);have a:decide (p.1≠k)=true:=by simp[e]
   have b:decide (q.1≠k)=true:=by simp[e']
   rw[if_pos a,if_pos b];exact .cons ⟨h1,h2⟩ ih
theorem KV.keys{kvs:List (κ×V)}{vs:List (κ×ae)}(r:KV kvs vs):kvs.map (·.1)=vs.map (·.1):=by
 unfold KV at r
 induction r with
 |nil=>rfl
 |cons h t ih=>rw[aK,aK,ih,h.1]
theorem KV.length{kvs:List (κ×V)}{vs:List (κ×ae)}(r:KV kvs vs):kvs.length=vs.length:=Paired.length r
end
theorem Zsi(r:ZZ (kV k) u):(ZaH P w).is k u=true:=by
 cases k with
 |inl i=>obtain⟨t,e⟩:=(show ∃t,u=j6 i t from r);subst e;exact Ze0 P w i t
 |inr x=>obtain⟨t,e⟩:=(show ∃t,u=mw x t from r);subst e;exact Ze1 P w x t
theorem Zen{P:cE}{w:c6}:∀{ks:List Key}{us:List ae},ZS (ks.map kV) us->ItemsAre (ZaH P w) ks us
 |[],_,r=>by rw[i5]at r;cases r;exact .nil
 |k::ks,_,r=>by
  rw[aK]at r;cases r with
  |cons h t=>exact .cons (Zsi h) (Zen t)
theorem ZoW(ok:HOk P w H h)(e:H a=some (.tup (ks.map kV))):(tupleKind (ZaH P w)).is h ks a:=by
 obtain⟨_,its,r,o,h1,h2,n,h3⟩:=(show ZaN P w H h a (.tup (ks.map kV))from ok a _ e);exact⟨o,its.toArray,n,h1,h2,h3,by simpa using Zen r⟩
theorem Inv.big(I:Inv X pins σ H s):jh<s.heap.objs.size:=by
 have h:aR<s.heap.objs.size:=(I.mod.glob.keeps I.bk).lt;exact ir (by decide) h
theorem Zmw(I:Inv X pins σ H s)(mu:Mut (H a))(hs:gD a s.heap h')(he:∃q,h'.get? a=some q)(new:ZaN X.prog X.w (upd H a ob) h' a ob):Inv X pins σ (upd H a ob) {s with heap:=h',toks:=t'}:=
 I.write (x:=a) (e:=a) mu (.inl rfl) (λb q hb z=>(hs.2 b hb).trans z) he new
structure M1(X:Cx) (o:Expr) (m:Str) (apos:Pos) (e:Expr) (cpos:Pos):Prop where
 base:iQ o m X.env (eval o X.env)=eval o X.env
 few:((cR cpos (av [e] X.env)).all (λx=> !x.1)&&(jr cpos (gp [] X.env)).all (λx=>x.1.isSome) && decide (([e]:List Expr).length+([]:List i6).length+(if([]:List i6).isEmpty then 0 else 1)<30))=true
 line:(apos.endLine==cpos.line)=true
 trees:cR cpos (av [e] X.env)=[(false,eval e X.env)]
structure M2(X:Cx) (o:Expr) (m:Str) (apos:Pos) (e f:Expr) (cpos:Pos):Prop where
 base:iQ o m X.env (eval o X.env)=eval o X.env
 few:((cR cpos (av [e,f] X.env)).all (λx=> !x.1)&&(jr cpos (gp [] X.env)).all (λx=>x.1.isSome) && decide (([e,f]:List Expr).length+([]:List i6).length+(if([]:List i6).isEmpty then 0 else 1)<30))=true
 line:(apos.endLine==cpos.line)=true
 trees:cR cpos (av [e,f] X.env)=[(false,eval e X.env),(false,eval f X.env)]
end L2
namespace Att
open PySem.W PySem.Calls PyProof.Rows
end Att
namespace L2
open PyProof.Rows
section
variable {κ:Type}[DecidableEq κ]
end
end L2
namespace DQ
open PyProof.Rows
structure Fly(B:Heap) (l:List Env) (e:Addr) (cls:ae) (dct:Option Addr) (fl:ae) (h:Heap):Prop where
 stay:B.StaysIn h
 new:B.get? e=none
 frames:h.FunFrames B l
 obj:∃oe vs T oT ts,h.get? e=some oe/\oe.cls=cls/\oe.dict=dct/\oe.data=.fields vs/\vs[2]?=some .none/\vs[1]?=some (.ref T)/\B.get? T=none/\T≠e/\h.get? T=some oT/\oT.data=.fields ts/\ts[3]?=some fl
theorem Fly.tail(f:Fly B (env::l) e cls dct fl h):Fly B l e cls dct fl h:=⟨f.stay,f.new,f.frames.2.2,f.obj⟩
section
variable {env:Env}
theorem apart{h:Heap}(hl:h.FunFrames B l)(he:h.get? e=some oe)(hd:oe.data=.fields vs):e∉l.filterMap (·.frame):=λz=>by
 obtain⟨_,o,h1,h2⟩:=hl.mem z;rw[he]at h1;cases h1;exact h2 vs hd
theorem Zeo(hfr:A.frames=some (env::outer))(hl:s.heap.FunFrames B (env::outer))(hf:env.frame=some L)(he:s.heap.get? e=some oe)(hs:B.StaysIn s.heap)(hb:B.get? e=none)(hd:oe.data=.fields vs)(hz:2<vs.size)(h2:vs[2]?=some .none)(h:∀h',Fly B (env::outer) e oe.cls oe.dict (da L) h'->s.heap.UpToSlots h'->Q () {s with heap:=h'}):wpAny M A (frameOf env >>= λa=>entryPlaceOf L hn >>= λpl=>mH head a .none (da L) .none pl >>= λb=>setField (.ref e) 1 b) Q E s:=by
 have ne:=apart hl he hd;refine Wb (wpAny_frameOf_fun hfr hl hf λh1 k1=>Wb (wpAny_entryPlaceOf λpl hpl=>Wb ?_));unfold mH newFields;refine cD ?_ (hpl.sizeOk5 _ _ _ _ _);generalize hT:([head,aU L,bS,da L,bS]++(if pl.isEmpty then bC 6 bS else pl)).toArray=ts;have h3:ts[3]?=some (da L):=by
  rw[<-hT];rcases hpl with rfl|⟨_,_,_,_,_,_,_,rfl⟩<;>simp
 have e1:h1.get? e=some oe:=(k1.2.1 e ne).trans he;have s1:B.StaysIn h1:=λb o hbo=>(k1.2.1 b λz=>by rw[(hl.mem z).1]at hbo;cases hbo).trans (hs b o hbo)
 generalize hoT:({cls:=.type "traceback",dict:=none,data:=.fields ts}:Obj)=oT;have dT:oT.data=.fields ts:=by rw[<-hoT]
 have fT:oT.isFreed=false:=eD dT;have e2:(h1.push oT).get? e=some oe:=Hq _ e1;have nT:h1.objs.size≠e:=bG (Hz e1);refine d7 e2 hd (ir (by decide) hz) (h _ ?_ ?_)
 .have d3:=d8 hd (·.setIfInBounds 1 (aU h1.objs.size));have e3:=dm (dY (·.setIfInBounds 1 (aU h1.objs.size))) e2 (eD d3);have keep:∀b o,b≠e->h1.get? b=some o->((h1.push oT).update e (dY (·.setIfInBounds 1 (aU h1.objs.size)))).get? b=some o:=λb o hbe x=>by
   rw[aL _ _ (cu hbe)];exact Hq _ x
  have gT:(h1.push oT).get? h1.objs.size=some oT:=aG _ fT;refine⟨λb o x=>keep b o (λz=>by rw[z,hb]at x;cases x) (s1 b o x),hb,hl.of_keeps λb o x y=>?_,_,_,h1.objs.size,oT,ts,e3,jE _ _,?_,d3,?_,?_,s1.fresh,nT,?_,dT,h3⟩
  .obtain⟨sl,z⟩:=k1.2.2 b o x;exact⟨_,keep b _ (λw=>y vs (by rw[w,he]at x;cases x;exact hd)) z,rfl⟩
  .obtain⟨c,d,dd,sl⟩:=oe;cases hd;rfl
  .rw[iC (by decide)]
   exact h2
  .rw[dB (ir (by decide) hz)]
  .rw[aL _ _ (cu nT)];exact gT
 .intro b o x y;obtain⟨sl,z⟩:=k1.2.2 b o x;refine⟨sl,?_⟩;rw[aL _ _ (λw=>y vs (by rw[<-w,he]at x;cases x;exact hd))]
  exact Hq _ z
theorem ZfQ(f:Fly B l e cls dct fl s.heap)(h:∀h',Fly B l e cls dct .none h'->s.heap.UpToSlots h'->Q () {s with heap:=h'}):wpAny M A (setFlight (.ref e) none) Q E s:=by
 obtain⟨st,nw,fr,oe,vs,T,oT,ts,g1,g2,g3,g4,g5,g6,g7,g8,g9,g10,g11⟩:=f;have hz:3<ts.size:=(dg.mp g11).1;unfold setFlight;refine Wb (cF g1 g4 g6 ?_);rw[if_pos (by simp)]
 have oth:∀b o,b≠T->s.heap.get? b=some o->(s.heap.update T (dY (·.setIfInBounds 3 bS))).get? b=some o:=λb o hb x=>by
  rw[aL _ _ (cu hb)];exact x
 have nr:∀b o,s.heap.get? b=some o->(∀vs,o.data≠ .fields vs)->b≠T:=λb o x y z=>by
  rw[z,g9]at x;cases x;exact y ts g10
 refine d7 g9 g10 hz (h _ ⟨λb o x=>oth b o (λz=>by rw[z,g7]at x;cases x) (st b o x),nw,fr.of_keeps λb o x y=>⟨o,oth b o (nr b o x y) x,rfl⟩,?_⟩ λb o x y=>⟨o.slots,oth b o (nr b o x y) x⟩)
 exact⟨oe,vs,T,_,_,oth e oe (cu g8) g1,g2,g3,g4,g5,g6,g7,g8,dm _ g9 (eD (d8 g10 _)),d8 g10 _,by rw[dB hz];rfl⟩
theorem ZjV(hfr:A.frames=some (env::outer))(hf:env.frame=some L)(f:Fly B (env::outer) e cls dct .none s.heap)(h:∀h',Fly B (env::outer) e cls dct (da L) h'->s.heap.UpToSlots h'->Q () {s with heap:=h'}):wpAny M A (mD (.ref e) env) Q E s:=by
 obtain⟨st,nw,fr,oe,vs,T,oT,ts,g1,g2,g3,g4,g5,g6,g7,g8,g9,g10,g11⟩:=f;unfold mD;simp only[hf];refine Wb (cF g1 g4 g6 ?_);rw[if_pos (by simp)]
 refine Wb (cF g9 g10 g11 ?_);rw[if_neg (by simp[da])]
 have oth:∀b o,b≠T->s.heap.get? b=some o->(s.heap.update T (dY (·.setIfInBounds 3 bS))).get? b=some o:=λb o hb x=>by
  rw[aL _ _ (cu hb)];exact x
 have nr:∀b o,s.heap.get? b=some o->(∀vs,o.data≠ .fields vs)->b≠T:=λb o x y z=>by
  rw[z,g9]at x;cases x;exact y ts g10
 refine Wb (d7 g9 g10 (dg.mp g11).1 ?_);refine Zeo hfr (fr.of_keeps λb o x y=>⟨o,oth b o (nr b o x y) x,rfl⟩) hf (oth e oe (cu g8) g1) (λb o x=>oth b o (λz=>by rw[z,g7]at x;cases x) (st b o x)) nw g4 (dg.mp g5).1 g5 λh' k1 k2=>h h' (g2▸g3▸k1) ?_
 intro b o x y;exact k2 b o (oth b o (nr b o x y) x) y
theorem Zhv(hfr:A.frames=some (env::outer))(hf:env.frame=some L)(f:Fly B (env::outer) e cls dct .none s.heap)(h:∀h',Fly B outer e cls dct .none h'->s.heap.UpToSlots h'->Q () {s with heap:=h'}):wpAny M A (nU env (.ref e)) Q E s:=by
 unfold nU;refine Wb (ZjV hfr hf f λh1 k1 u1=>?_);exact ZfQ (s:={s with heap:=h1}) k1 λh2 k2 u2=>h h2 k2.tail (u1.trans u2)
theorem Zhw(hfr:A.frames=some (env::outer))(hf:env.frame=some L)(hl:s.heap.FunFrames B (env::outer))(he:s.heap.get? e=some oe)(hs:B.StaysIn s.heap)(hb:B.get? e=none)(hd:oe.data=.fields vs)(h1:vs[1]?=some .none)(h2:vs[2]?=some .none)(h:∀h',Fly B outer e oe.cls oe.dict .none h'->s.heap.UpToSlots h'->Q () {s with heap:=h'}):wpAny M A (nU env (.ref e)) Q E s:=by
 unfold nU mD;simp only[hf];refine Wb (Wb (cF he hd h1 ?_));rw[if_neg (by decide)]
 refine Zeo hfr hl hf he hs hb hd (dg.mp h2).1 h2 λh' k1 u1=>?_;exact ZfQ (s:={s with heap:=h'}) k1 λh2 k2 u2=>h h2 k2.tail (u1.trans u2)
end
open PySem.W (Looks findIn mroIn specialIn takesIn clsIn looks_findIn looks_mroIn looks_find findObj KitX)
structure ExcC(K:Fg) (C:Addr):Prop where
 ga:iu K (.ref C) "__getattribute__"=some (some (.builtin "BaseException.__getattribute__"))
 gt:iu K (.ref C) "__getattr__"=some none
 cl:iu K (.ref C) "__class__"=some (some (.builtin "object.__class__"))
 gs:ig K (.builtin "object.__class__") "__get__"=some (some (.builtin "getset_descriptor.__get__"))
 tk:jF K (.builtin "object.__class__")=some true
 bx:lU K C (.type "BaseException")=some true
 ob:lU K C (.type "object")=some true
 is:(nK K C).isSome=true
end DQ
namespace DL
open PyProof.Rows L2
inductive D where
 |non
 |bl (b:Bool)
 |int (i:Int)
 |str (x:Str)
 |tup (xs:List D)
 |rol (xs:List D)
 |ref (n:Nat)
 |du (n:Nat)
inductive SO where
 |lst (xs:List D)
noncomputable abbrev Sto:=List SO
noncomputable abbrev Ro:=List (Option D)
abbrev W2:=Str->Sto->Prop
abbrev W1:=Ro->Sto->Prop
abbrev W0:=D->Sto->Prop
def SqF(K:Fg)(H:Hp)(a:Addr)(xs:List V):Prop:=
 (∃o,H a=some (.frz o (.lst xs)))\/∃(o:Obj) (its:Array ae) (n:Nat),K.lookup a=some o/\o.cls=.type "list"/\o.dict=none/\o.data=.seq its n/\its.size<=sizeLine/\ZS xs its.toList
theorem SqF.sq{K:Fg}(h:SqF K H a xs):SqL K H a xs:=by
 rcases h with⟨o,h⟩|h
 .exact .inl (.inr ⟨o,h⟩)
 .exact .inr h
def SqK(K:Fg)(a:Addr)(xs:List V):Prop:=∃(o:Obj) (its:Array ae) (n:Nat),K.lookup a=some o/\o.cls=.type "tuple"/\o.data=.seq its n/\its.size<=sizeLine/\ZS xs its.toList/\o.dict=none
theorem SqK.sq{K:Fg}(h:SqK K a xs):SqT K H a xs:=by
 obtain⟨o,its,n,h1,h2,h3,h4,h5,_⟩:=h;exact .inr ⟨o,its,n,h1,h2,h3,h4,h5⟩
noncomputable def ZwB:List Str:=[PySem.Str.ofString "where",PySem.Str.ofString "at"]
noncomputable def kn:HO->Option Nat
 |.lst _=>some 0
 |.dU _=>some 3
 |_=>none
def Kn(H:Hp)(p:Addr):Option Nat:=(H p).bind kn
theorem Zk5:Kn (upd H p u) p=kn u:=by unfold Kn;rw[ZB];rfl
structure RefK(H:Hp) (α:List Addr) (j n:Nat) (p:Addr):Prop where
 at':α[n]?=some p
 kn:Kn H p=some j
theorem Kn.lst{H:Hp}{p:Addr}{xs:List V}(h:H p=some (.lst xs)):Kn H p=some 0:=by unfold Kn;rw[h];rfl
theorem Kn.ne(h:Kn H p=some j)(hq:H q=none):Kn (upd H q o) p=some j:=by
 have:p≠q:=by
  intro z;unfold Kn at h;rw[z,hq]at h;cases h
 unfold Kn;rw[ZJ this];exact h
mutual
inductive Rep(K:Fg) (H:Hp) (α:List Addr):V->D->Prop where
 |non:Rep K H α .non .non
 |bl (b:Bool):Rep K H α (.bl b) (.bl b)
 |int (i:Int):Rep K H α (.int i) (.int i)
 |str (x:Str):Rep K H α (.str x) (.str x)
 |tup {p:Addr} {xs:List V} {ds:List D}:H p=some (.tup xs)->Reps K H α xs ds->Rep K H α (.ref p) (.tup ds)
 |rol {p:Addr} {xs:List V} {ds:List D}:SqF K H p xs->Reps K H α xs ds->Rep K H α (.ref p) (.rol ds)
 |ref {p:Addr} {n:Nat}:RefK H α 0 n p->Rep K H α (.ref p) (.ref n)
 |du {p:Addr} {n:Nat}:RefK H α 3 n p->Rep K H α (.ref p) (.du n)
inductive Reps(K:Fg) (H:Hp) (α:List Addr):List V->List D->Prop where
 |nil:Reps K H α [] []
 |cons {v:V} {d:D} {vs:List V} {ds:List D}:Rep K H α v d->Reps K H α vs ds->Reps K H α (v::vs) (d::ds)
end
noncomputable def stb:HO->Bool
 |.tup _=>true
 |.frz _ _=>true
 |_=>false
structure Ext(K:Fg) (H H':Hp) (α α':List Addr):Prop where
 kp:∀p u,H p=some u->stb u=true->H' p=some u
 kn:∀p j,Kn H p=some j->Kn H' p=some j
 al:∃β,α'=α++β
section
variable {K:Fg}{H H':Hp}{α α1 α':List Addr}
theorem Ext.refl:Ext K H H α α:=⟨λ_ _ h _=>h,λ_ _ h=>h,[],(cJ _).symm⟩
theorem Ext.trans(a:Ext K H H1 α α1)(b:Ext K H1 H2 α1 α2):Ext K H H2 α α2:=by
 obtain⟨b1,e1⟩:=a.al;obtain⟨b2,e2⟩:=b.al;exact⟨λp u h t=>b.kp p u (a.kp p u h t) t,λp j h=>b.kn p j (a.kn p j h),b1++b2,by rw[e2,e1,cS]⟩
theorem Ext.tup(e:Ext K H H' α α')(p:Addr)(xs:List V)(h:H p=some (.tup xs)):H' p=some (.tup xs):=e.kp p _ h rfl
theorem Ext.rol(e:Ext K H H' α α')(p:Addr)(xs:List V)(h:SqF K H p xs):SqF K H' p xs:=by
 rcases h with⟨o,h⟩|h
 .exact .inl ⟨o,e.kp p _ h rfl⟩
 .exact .inr h
theorem Ext.get0(e:Ext K H H' α α'){n:Nat}(h:α[n]?=some p):α'[n]?=some p:=by
 obtain⟨β,e1⟩:=e.al;have hl:n<α.length:=(ar.mp h).1;rw[e1,aB hl];exact h
theorem Ext.get(e:Ext K H H' α α')(h:RefK H α j n p):RefK H' α' j n p:=⟨e.get0 h.at',e.kn _ _ h.kn⟩
theorem Rep.mono(e:Ext K H H' α α')(h:Rep K H α v d):Rep K H' α' v d:=
 Rep.rec (motive_1:=λv d _=>Rep K H' α' v d) (motive_2:=λv d _=>Reps K H' α' v d) (non:=.non) (bl:=.bl) (int:=.int) (str:=.str) (tup:=λh _ r=>.tup (e.tup _ _ h) r) (rol:=λh _ r=>.rol (e.rol _ _ h) r)
  (ref:=λh=>.ref (e.get h))
  (du:=λh=>.du (e.get h))
  (nil:=.nil) (cons:=λ_ _ r t=>.cons r t) h
theorem Reps.mono(e:Ext K H H' α α')(h:Reps K H α v d):Reps K H' α' v d:=by
 induction d generalizing v with
 |nil=>cases h;exact .nil
 |cons _ _ ih=>cases h with|cons r t=>exact .cons (r.mono e) (ih t)
theorem Reps.length:∀{vs:List V}{ds:List D},Reps K H α vs ds->vs.length=ds.length:=by
 intro vs
 induction vs with
 |nil=>intro ds h;cases h;rfl
 |cons v vs ih=>
  intro ds h;cases h with
  |cons _ t=>rw[bv,bv,ih t]
theorem Reps.get:∀{vs:List V}{ds:List D}{i:Nat}{d:D},Reps K H α vs ds->ds[i]?=some d->∃v,vs[i]?=some v/\Rep K H α v d
 |_,_,_,_,.nil,e=>by simp at e
 |_,_,0,_,.cons r _,e=>by simp at e;subst e;exact⟨_,rfl,r⟩
 |_,_,i+1,d,.cons _ t,e=>by
  obtain⟨u,h1,h2⟩:=Reps.get (i:=i) (d:=d) t (by simpa using e)
  exact⟨u,by simpa using h1,h2⟩
theorem Reps.set{v:V}{d:D}(r:Rep K H α v d):∀{vs:List V}{ds:List D}(i:Nat),Reps K H α vs ds->Reps K H α (vs.set i v) (ds.set i d)
 |_,_,_,.nil=>.nil
 |_,_,0,.cons _ t=>.cons r t
 |_,_,i+1,.cons q t=>.cons q (Reps.set r i t)
theorem Reps.append:∀{vs ws:List V}{ds es:List D},Reps K H α vs ds->Reps K H α ws es->Reps K H α (vs++ws) (ds++es):=by
 intro vs
 induction vs with
 |nil=>intro ws ds es h s;cases h;exact s
 |cons v vs ih=>
  intro ws ds es h s;cases h with
  |cons r t=>exact .cons r (ih t s)
theorem Reps.ints:∀(ns:List Int),Reps K H α (ns.map V.int) (ns.map D.int)
 |[]=>.nil
 |n::r=>.cons (.int n) (Reps.ints r)
theorem Ext.new(h:H p=none):Ext K H (upd H p o) α (α++β):=
 ⟨λq u z _=>by rw[ZJ (ZV z h)];exact z,λq j z=>Kn.ne z h,β,rfl⟩
theorem Ext.new0(h:H p=none):Ext K H (upd H p o) α α:=by
 have e:=Ext.new (K:=K) (H:=H) (α:=α) (o:=o) h (β:=[]);rw[cJ]at e;exact e
theorem Ext.wrK(h:Kn H p=some j)(nf:∀ob w,H p≠some (.frz ob w))(h':Kn (upd H p o) p=some j):Ext K H (upd H p o) α α:=by
 refine⟨λq u z t=>?_,λq i z=>?_,[],(cJ _).symm⟩
 .rw[ZJ λc=>?_]
  .exact z
  .subst c;unfold Kn at h;rw[z]at h;cases u with
   |frz ob w=>exact nf _ _ z
   |tup _=>cases h
   |_=>cases t
 .by_cases c:q=p
  .subst c;rw[h]at z;cases z;exact h'
  .unfold Kn;rw[ZJ c];exact z
theorem Ext.wr(h:H p=some (.lst xs)):Ext K H (upd H p (.lst ys)) α α:=Ext.wrK (Kn.lst h) (λob w z=>by rw[h]at z;cases z) (Kn.lst ZB)
noncomputable def Zn8:Key->D
 |.inl i=>.int i
 |.inr x=>.str x
def Ze7(ks:List Key):D:=.tup (ks.map Zn8)
def Zmx(ks:List (List Key)):D:=.tup (ks.map Ze7)
noncomputable def Zce(K:Fg)(H:Hp)(α:List Addr){κ:Type}(key:κ->D)(kvs:List (κ×V))(ds:List D):Prop:=
 ∃es:List D,ds=cf (λkv e=>D.tup [key kv.1,e]) kvs es/\Reps K H α (kvs.map (·.2)) es
theorem Zdn{key:κ->D}{kvs:List (κ×V)}(h:Zce K H α key kvs ds)(e:Ext K H H' α α'):Zce K H' α' key kvs ds:=by
 obtain⟨es,h1,h2⟩:=h;exact⟨es,h1,Reps.mono e h2⟩
inductive Hd(K:Fg) (H:Hp) (α:List Addr):HO->List D->Prop where
 |lst {xs:List V} {ds:List D}:Reps K H α xs ds->Hd K H α (.lst xs) ds
 |dU {kvs:List (List (List Key)×V)} {ds:List D}:Zce K H α Zmx kvs ds->Hd K H α (.dU kvs) ds
theorem Hd.mono(ex:Ext K H H' α α')(h:Hd K H α u ds):Hd K H' α' u ds:=by
 cases h with
 |lst r=>exact .lst (Reps.mono ex r)
 |dU r=>exact .dU (Zdn r ex)
noncomputable def SOk(K:Fg)(H:Hp)(α:List Addr)(p:Addr):SO->Prop
 |.lst ds=>∃u,H p=some u/\Hd K H α u ds
theorem SOk.there(h:SOk K H α p o):∃u,H p=some u:=by
 cases o with
 |lst ds=>obtain⟨u,e,_⟩:=h;exact⟨u,e⟩
theorem SOk.mono(h:SOk K H α p o)(ex:Ext K H H' α α')(e:H' p=H p):SOk K H' α' p o:=by
 cases o with
 |lst ds=>obtain⟨u,h1,h2⟩:=h;exact⟨u,e.trans h1,h2.mono ex⟩
structure HR(K:Fg) (H:Hp) (α:List Addr) (M:Sto):Prop where
 len:α.length=M.length
 nd:α.Nodup
 ob:∀(n:Nat)(p:Addr)(o:SO),α[n]?=some p->M[n]?=some o->SOk K H α p o
theorem HR.nil:HR K H [] []:=⟨rfl,List.nodup_nil,λn p o h=>by simp at h⟩
theorem Kn.at{H:Hp}(k:Kn H p=some j)(e:H p=some u):DL.kn u=some j:=by
 unfold Kn at k;rw[e]at k;exact k
theorem HR.at(h:HR K H α M)(e:RefK H α 0 n p)(m:M[n]?=some (.lst ds)):∃xs,H p=some (.lst xs)/\Reps K H α xs ds:=by
 obtain⟨u,h1,h2⟩:=h.ob n p _ e.at' m;have k:=Kn.at e.kn h1;cases h2 with
 |lst r=>exact⟨_,h1,r⟩
 |_=>cases k
theorem HR.atU(h:HR K H α M)(e:RefK H α 3 n p)(m:M[n]?=some (.lst ds)):∃kvs,H p=some (.dU kvs)/\Zce K H α Zmx kvs ds:=by
 obtain⟨u,h1,h2⟩:=h.ob n p _ e.at' m;have k:=Kn.at e.kn h1;cases h2 with
 |dU r=>exact⟨_,h1,r⟩
 |_=>cases k
theorem RefK.lst{n:Nat}{p:Addr}(e:RefK H α 0 n p):∃xs,H p=some (.lst xs):=by
 cases z:H p with
 |none=>
  have:=e.kn
  unfold Kn at this;rw[z]at this;cases this
 |some u=>
  have k:=Kn.at e.kn z;unfold DL.kn at k
  split at k
  .exact⟨_,rfl⟩
  all_goals cases k
theorem HR.some_at(h:HR K H α M)(e:RefK H α 0 n p):∃xs,H p=some (.lst xs):=e.lst
theorem HR.there(h:HR K H α M){n:Nat}(e:α[n]?=some p):∃u,H p=some u:=by
 have hl:n<α.length:=(ar.mp e).1;have hm:n<M.length:=by rw[<-h.len];exact hl
 exact(h.ob n p M[n] e (Gq hm)).there
theorem HR.tup{M:Sto}{p:Addr}{o:HO}(h:HR K H α M)(hp:H p=none):HR K (upd H p o) α M:=
 ⟨h.len,h.nd,λn q so e m=>by
  obtain⟨u,hu⟩:=h.there e;exact(h.ob n q so e m).mono (Ext.new0 hp) (ZJ (ZV hu hp))⟩
theorem HR.newO(h:HR K H α M)(hp:H p=none)(r:SOk K (upd H p o) (α++[p]) p so):HR K (upd H p o) (α++[p]) (M++[so]):=by
 have ex:Ext K H (upd H p o) α (α++[p]):=Ext.new hp;refine⟨by rw[aT,aT,h.len];rfl,?_,λn q so' e m=>?_⟩
 .refine fV.mpr ⟨h.nd,by simp,λa ha b hb=>?_⟩
  have hb':b=p:=by simpa using hb
  obtain⟨n,hn,e⟩:=bF ha;obtain⟨u,z⟩:=h.there (n:=n) (p:=a) (by rw[aa hn,e])
  rw[hb'];exact ZV z hp
 .by_cases hn:n<α.length
  .rw[aB hn]at e;rw[aB (by rw[<-h.len];exact hn)]at m
   obtain⟨u,hu⟩:=h.there e;exact(h.ob n q so' e m).mono ex (ZJ (ZV hu hp))
  .have en:n=α.length:=by
    have:n<(α++[p]).length:=(ar.mp e).1
    rw[aT,fR]at this;lia
   subst en;rw[aH (aj _),fI]at e;rw[h.len,aH (aj _),fI]at m;cases e;cases m;exact r
theorem HR.new(h:HR K H α M)(hp:H p=none)(r:Reps K H α xs ds):HR K (upd H p (.lst xs)) (α++[p]) (M++[.lst ds]):=
 h.newO hp ⟨_,ZB,.lst (Reps.mono (Ext.new hp) r)⟩
theorem ZjW{n:Nat}(h:α.Nodup)(a:α[n]?=some p)(b:α[m]?=some p):n=m:=by
 obtain⟨h1,e1⟩:=ar.mp a;obtain⟨h2,e2⟩:=ar.mp b;exact(List.getElem_inj h).mp (e1.trans e2.symm)
theorem HR.wrO(h:HR K H α M)(e:α[n]?=some p)(ex:Ext K H (upd H p o) α α)(r:SOk K (upd H p o) α p so):HR K (upd H p o) α (M.set n so):=by
 have hn:n<M.length:=by rw[<-h.len];exact(ar.mp e).1
 refine⟨by rw[eJ];exact h.len,h.nd,λk q so' e' m=>?_⟩
 by_cases hk:k=n
 .subst hk;rw[e]at e';cases e';rw[bf hn]at m;cases m;exact r
 .rw[aS (cu hk)]at m;have hq:q≠p:=λz=>hk (ZjW h.nd (z▸e') e);exact(h.ob k q so' e' m).mono ex (ZJ hq)
theorem HR.wr(h:HR K H α M)(e:RefK H α 0 n p)(hp:H p=some (.lst ys))(r:Reps K H α xs ds):HR K (upd H p (.lst xs)) α (M.set n (.lst ds)):=
 h.wrO e.at' (Ext.wr hp) ⟨_,ZB,.lst (Reps.mono (Ext.wr hp) r)⟩
end
inductive Out(β:Type) where
 |ok (a:β) (M:Sto)
 |exc (c:Str) (M:Sto)
 |bad
abbrev W3:=List D->Sto->Out D
noncomputable def Out.bind(o:Out β)(f:β->Sto->Out γ):Out γ:=match o with
 |.ok a M=>f a M
 |.exc c M=>.exc c M
 |.bad=>.bad
inductive Fl where
 |nx (ρ:Ro) (M:Sto)
 |ret (d:D) (M:Sto)
 |brk (ρ:Ro) (M:Sto)
 |cnt (ρ:Ro) (M:Sto)
 |exc (c:Str) (M:Sto)
 |bad
noncomputable def Zn9(c:Str):Bool:=c==PySem.Str.ofString "NoRound"
inductive XO(K:Fg) (H:Hp) (α:List Addr) (c:Str) (M:Sto) (dct:Option Addr):Prop where
 |no (h:Zn9 c=false) (hr:HR K H α M) (e:dct=none):XO K H α c M dct
noncomputable def OG{β γ:Type}(K:Fg)(R:Hp->List Addr->γ->β->Prop)(H:Hp)(α:List Addr)(ξ:XK)(Q:γ->Hp->Prop):Out β->Prop
 |.ok d M'=>∀v H' α',Ext K H H' α α'->HR K H' α' M'->R H' α' v d->Q v H'
 |.exc c M'=>∀C H' α',PySem.W.nsIn K aR c=some (some (.ref C))->Ext K H H' α α'->∀dct,XO K H' α' c M' dct->ξ (.ref C) dct H'
 |.bad=>False
theorem OG.ext{K:Fg}{R:Hp->List Addr->γ->β->Prop}{Q:γ->Hp->Prop}{o:Out β}(h:OG K R H α ξ Q o)(e:Ext K H H1 α α1):OG K R H1 α1 ξ Q o:=by
 cases o with
 |ok d M'=>exact λv H' α' e'=>h v H' α' (e.trans e')
 |exc c M'=>exact λC H' α' n e'=>h C H' α' n (e.trans e')
 |bad=>exact h
abbrev OP(K:Fg):=OG K (Rep K)
abbrev OT(K:Fg):=OG (β:=Bool) (γ:=Bool) K (λ_ _ v d=>v=d)
abbrev OA(K:Fg):=OG K (Reps K)
noncomputable def SR(K:Fg)(H:Hp)(α:List Addr)(σ:L2.St)(ρ:Ro):Prop:=σ.length=ρ.length/\∀(i:Nat)(d:D),ρ[i]?=some (some d)->∃v,σ[i]?=some (some v)/\Rep K H α v d
theorem SR.mono{K:Fg}(h:SR K H α σ ρ)(e:Ext K H H' α α'):SR K H' α' σ ρ:=
 ⟨h.1,λi d q=>let ⟨v,a,b⟩:=h.2 i d q;⟨v,a,Rep.mono e b⟩⟩
theorem SR.set{K:Fg}(h:SR K H α σ ρ)(i:Nat)(r:Rep K H α v d):SR K H α (σ.set i (some v)) (ρ.set i (some d)):=by
 refine⟨by rw[eJ,eJ];exact h.1,λj e q=>?_⟩
 by_cases hj:j=i
 .subst hj;have hl:j<ρ.length:=by
   have:=(ar.mp q).1
   rw[eJ]at this;exact this
  rw[bf hl]at q;cases q;exact⟨v,by rw[bf (by rw[h.1];exact hl)],r⟩
 .rw[aS (cu hj)]at q;rw[aS (cu hj)];exact h.2 j e q
abbrev Ev:=Ro->Sto->Out D
abbrev Tv:=Ro->Sto->Out Bool
abbrev Av:=Ro->Sto->Out (List D)
abbrev Sv:=Ro->Sto->Fl
def DE(X:Cx)(ξ:XK)(e:Expr)(f:Ev):Prop:=∃t:TE,PE X e t/\∀σ ρ H α M Q,SR X.K H α σ ρ->HR X.K H α M->OP X.K H α ξ Q (f ρ M)->t σ H Q
def DT(X:Cx)(ξ:XK)(e:Expr)(f:Tv):Prop:=∃t:TT,PT X e t/\∀σ ρ H α M Q,SR X.K H α σ ρ->HR X.K H α M->OT X.K H α ξ Q (f ρ M)->t σ H Q
def DW(X:Cx)(ξ:XK)(e:Expr)(f:Tv):Prop:=∃t:TT,PW X e t/\∀σ ρ H α M Q,SR X.K H α σ ρ->HR X.K H α M->OT X.K H α ξ Q (f ρ M)->t σ H Q
def DA(X:Cx)(ξ:XK)(es:List Expr)(f:Av):Prop:=∃t:TA,PA X es t/\∀σ ρ H α M Q,SR X.K H α σ ρ->HR X.K H α M->OA X.K H α ξ Q (f ρ M)->t σ H Q
theorem OG.seq{K:Fg}{R:Hp->List Addr->γ->β->Prop}{R':Hp->List Addr->γ'->β'->Prop}{Q:γ'->Hp->Prop}{Q1:γ->Hp->Prop}{o:Out β}{f:β->Sto->Out β'}(h:OG K R' H α ξ Q (o.bind f))(k:∀d M' v H' α',Ext K H H' α α'->HR K H' α' M'->R H' α' v d->OG K R' H' α' ξ Q (f d M')->Q1 v H'):OG K R H α ξ Q1 o:=by
 cases o with
 |ok d M'=>exact λv H' α' e hr r=>k d M' v H' α' e hr r (OG.ext (o:=f d M') h e)
 |exc c M'=>exact h
 |bad=>exact h
section
variable {X:Cx}{ξ:XK}{fa fb:Ev}
noncomputable def Zf(i:Nat):Ev:=λρ M=>match ρ[i]? with|some (some d)=>.ok d M|_=>.bad
noncomputable def eC(d:D):Ev:=λ_ M=>.ok d M
theorem Zb(i:Nat)(hN:autoParam (X.N[i]?=some x) Qrf._auto_1)(hv:Vis X.env.scope x:=by first|exact dw rfl|exact lQ (dw rfl)|exact lQ (lQ rfl))(hd:autoParam ((x==("__debug__":Str))=false) Qde._auto_1)(hcd:autoParam ((x==("__classdict__":Str))=false) Qde._auto_1):DE X ξ (.Name x pos) (Zf i):=by
 refine⟨_,ZkZ hN hv hd hcd,λσ ρ H α M Q s h q=>?_⟩;unfold Zf at q;cases e:ρ[i]? with
 |none=>rw[e]at q;exact q.elim
 |some o=>
  cases o with
  |none=>rw[e]at q;exact q.elim
  |some d=>
   rw[e]at q;obtain⟨v,h1,h2⟩:=s.2 i d e;exact⟨v,h1,q v H α Ext.refl h h2⟩
theorem Zd{j pos}:DE X ξ (.Constant (.int i) j pos) (eC (.int i)):=⟨_,Zon,λ_ _ H α M _ _ h q=>q _ H α Ext.refl h (.int i)⟩
theorem Zhx{j pos}:DE X ξ (.Constant (.bool i) j pos) (eC (.bl i)):=⟨_,ZrX,λ_ _ H α M _ _ h q=>q _ H α Ext.refl h (.bl i)⟩
theorem Zcf{j pos}:DE X ξ (.Constant .none j pos) (eC .non):=⟨_,Zoo,λ_ _ H α M _ _ h q=>q _ H α Ext.refl h .non⟩
theorem Zcg{j pos}:DE X ξ (.Constant (.str x) j pos) (eC (.str x)):=⟨_,Zop,λ_ _ H α M _ _ h q=>q _ H α Ext.refl h (.str x)⟩
abbrev Bo:=D->D->Sto->Out D
def e2(f:Bo)(fa fb:Ev):Ev:=λρ M=>(fa ρ M).bind λx M1=>(fb ρ M1).bind λy M2=>f x y M2
def BO(X:Cx)(ξ:XK)(r:R2)(f:Bo):Prop:=∀H α M v w x y Q,HR X.K H α M->Rep X.K H α v x->Rep X.K H α w y->OP X.K H α ξ Q (f x y M)->r v w H Q
theorem two{r:R2}{f:Bo}(hb:BO X ξ r f){ta tb:TE}(qa:∀σ ρ H α M Q,SR X.K H α σ ρ->HR X.K H α M->OP X.K H α ξ Q (fa ρ M)->ta σ H Q)(qb:∀σ ρ H α M Q,SR X.K H α σ ρ->HR X.K H α M->OP X.K H α ξ Q (fb ρ M)->tb σ H Q):∀σ ρ H α M Q,SR X.K H α σ ρ->HR X.K H α M->OP X.K H α ξ Q (e2 f fa fb ρ M)->tOp r ta tb σ H Q:=by
 intro σ ρ H α M Q s h q;refine qa σ ρ H α M _ s h (OG.seq q λx M1 v H1 α1 e1 h1 r1 q1=>?_);refine qb σ ρ H1 α1 M1 _ (s.mono e1) h1 (OG.seq q1 λy M2 w H2 α2 e2 h2 r2 q2=>?_);exact hb H2 α2 M2 v w x y Q h2 (Rep.mono e2 r1) r2 q2
theorem ZgK(ho:OpR X (fK op) r)(hf:BO X ξ r f)(ha:DE X ξ a fa)(hb:DE X ξ b fb):DE X ξ (.BinOp a op b pos) (e2 f fa fb):=by
 obtain⟨ta,ha,qa⟩:=ha;obtain⟨tb,hb,qb⟩:=hb;exact⟨_,Zr7 ho ha hb,two hf qa qb⟩
theorem Za7(ho:OpR X (eH op) r)(hf:BO X ξ r f)(ha:DE X ξ a fa)(hb:DE X ξ b fb)(hm:gM op b=false:=by first|exact Zk1 _|with_unfolding_all rfl):DE X ξ (.Compare a [op] [b] pos) (e2 f fa fb):=by
 obtain⟨ta,ha,qa⟩:=ha;obtain⟨tb,hb,qb⟩:=hb;exact⟨_,Zmh ho ha hb hm,two hf qa qb⟩
def tv(f:Ev):Tv:=λρ M=>(f ρ M).bind λx M1=>match x with|.bl k=>.ok k M1|_=>.bad
theorem ZoX{t:TE}{f:Ev}(qa:∀σ ρ H α M Q,SR X.K H α σ ρ->HR X.K H α M->OP X.K H α ξ Q (f ρ M)->t σ H Q):∀σ ρ H α M Q,SR X.K H α σ ρ->HR X.K H α M->OT X.K H α ξ Q (tv f ρ M)->ZoG t σ H Q:=by
 intro σ ρ H α M Q s h q;refine qa σ ρ H α M _ s h (OG.seq q λx M1 v H1 α1 e1 h1 r1 q1=>?_);cases r1 with
 |bl k=>exact⟨k,rfl,q1 k H1 α1 Ext.refl h1 rfl⟩
 |_=>exact q1.elim
theorem ZE(ho:OpR X (eH op) r)(hf:BO X ξ r f)(ha:DE X ξ a fa)(hb:DE X ξ b fb)(hm:gM op b=false:=by first|exact Zk1 _|with_unfolding_all rfl):DT X ξ (.Compare a [op] [b] pos) (tv (e2 f fa fb)):=by
 obtain⟨ta,ha,qa⟩:=ha;obtain⟨tb,hb,qb⟩:=hb;exact⟨_,Zmi ho ha hb hm,ZoX (two hf qa qb)⟩
theorem Zch(h:DE X ξ e fa)(he:autoParam (∀whole,isTrue e X.env whole=(do let v <-whole;standAt e.pos;holding [v] (truthy v))) Qin._auto_1):DT X ξ e (tv fa):=by
 obtain⟨ta,ha,qa⟩:=h;exact⟨_,Zoq ha he,ZoX qa⟩
variable {ga gb:Tv}{Zae:List Expr}
def Zcq(f g:Tv):Tv:=λρ M=>(f ρ M).bind λk M1=>if k=true then g ρ M1 else .ok false M1
def ZgL(f g:Tv):Tv:=λρ M=>(f ρ M).bind λk M1=>if k=true then .ok true M1 else g ρ M1
def ZdH(f:Tv):Tv:=λρ M=>(f ρ M).bind λk M1=>.ok (!k) M1
theorem ZbD(ha:DT X ξ a ga):DW X ξ (.BoolOp .And [a] pos) ga:=let ⟨_,h,q⟩:=ha;⟨_,pw_and1 h,q⟩
theorem ZcM(ha:DT X ξ a ga):DW X ξ (.BoolOp .Or [a] pos) ga:=let ⟨_,h,q⟩:=ha;⟨_,pw_or1 h,q⟩
theorem ZcN(ha:DT X ξ a ga)(hb:DW X ξ (.BoolOp .And (b::Zae) pos) gb):DW X ξ (.BoolOp .And (a::b::Zae) pos) (Zcq ga gb):=by
 obtain⟨ta,ha,qa⟩:=ha;obtain⟨tb,hb,qb⟩:=hb;refine⟨_,pw_and ha hb,λσ ρ H α M Q s h q=>?_⟩;refine qa σ ρ H α M _ s h (OG.seq q λk M1 v H1 α1 e1 h1 r1 q1=>?_);cases r1;cases k with
 |true=>exact Zn7 (qb σ ρ H1 α1 M1 Q (s.mono e1) h1 q1)
 |false=>exact Zn6 (q1 false H1 α1 Ext.refl h1 rfl)
theorem Zep(ha:DT X ξ a ga)(hb:DW X ξ (.BoolOp .Or (b::Zae) pos) gb):DW X ξ (.BoolOp .Or (a::b::Zae) pos) (ZgL ga gb):=by
 obtain⟨ta,ha,qa⟩:=ha;obtain⟨tb,hb,qb⟩:=hb;refine⟨_,pw_or ha hb,λσ ρ H α M Q s h q=>?_⟩;refine qa σ ρ H α M _ s h (OG.seq q λk M1 v H1 α1 e1 h1 r1 q1=>?_);cases r1;cases k with
 |true=>exact Zn7 (q1 true H1 α1 Ext.refl h1 rfl)
 |false=>exact Zn6 (qb σ ρ H1 α1 M1 Q (s.mono e1) h1 q1)
theorem ZfR(h:DW X ξ e ga):DT X ξ e ga:=let ⟨_,h,q⟩:=h;⟨_,h.pt,q⟩
theorem ZfS(ha:DT X ξ a ga):DT X ξ (.UnaryOp .Not a pos) (ZdH ga):=by
 obtain⟨ta,ha,qa⟩:=ha;refine⟨_,Zor ha,λσ ρ H α M Q s h q=>?_⟩;refine qa σ ρ H α M _ s h (OG.seq q λk M1 v H1 α1 e1 h1 r1 q1=>?_);cases r1;exact q1 (!k) H1 α1 Ext.refl h1 rfl
def Zhy(f g:Ev):Ev:=λρ M=>(f ρ M).bind λx M1=>match x with|.bl k=>if k=true then g ρ M1 else .ok (.bl false) M1|_=>.bad
def Zvy(f g:Ev):Ev:=λρ M=>(f ρ M).bind λx M1=>match x with|.bl k=>if k=true then .ok (.bl true) M1 else g ρ M1|_=>.bad
def Zhz(f:Ev):Ev:=λρ M=>(f ρ M).bind λx M1=>match x with|.bl k=>.ok (.bl (!k)) M1|_=>.bad
theorem ZoY{op}(ha:DE X ξ a fa):DE X ξ (.BoolOp op [a] pos) fa:=let ⟨_,h,q⟩:=ha;⟨_,Zos h,q⟩
theorem ZoZ(ha:DE X ξ a fa)(hb:DE X ξ (.BoolOp .And (b::Zae) pos) fb):DE X ξ (.BoolOp .And (a::b::Zae) pos) (Zhy fa fb):=by
 obtain⟨ta,ha,qa⟩:=ha;obtain⟨tb,hb,qb⟩:=hb;refine⟨_,Zot ha hb,λσ ρ H α M Q s h q=>?_⟩;refine qa σ ρ H α M _ s h (OG.seq q λx M1 v H1 α1 e1 h1 r1 q1=>?_);cases r1 with
 |bl k=>
  refine⟨k,rfl,?_⟩;cases k with
  |true=>exact Zn7 (qb σ ρ H1 α1 M1 Q (s.mono e1) h1 q1)
  |false=>exact Zn6 (q1 _ H1 α1 Ext.refl h1 (.bl false))
 |_=>exact q1.elim
theorem Zo0(ha:DE X ξ a fa):DE X ξ (.UnaryOp .Not a pos) (Zhz fa):=by
 obtain⟨ta,ha,qa⟩:=ha;refine⟨_,Zou ha,λσ ρ H α M Q s h q=>?_⟩;refine qa σ ρ H α M _ s h (OG.seq q λx M1 v H1 α1 e1 h1 r1 q1=>?_);cases r1 with
 |bl k=>exact⟨k,rfl,q1 _ H1 α1 Ext.refl h1 (.bl (!k))⟩
 |_=>exact q1.elim
def eIf(c:Tv)(f g:Ev):Ev:=λρ M=>(c ρ M).bind λk M1=>if k=true then f ρ M1 else g ρ M1
noncomputable def aNil:Av:=λ_ M=>.ok [] M
def Zc(f:Ev)(g:Av):Av:=λρ M=>(f ρ M).bind λx M1=>(g ρ M1).bind λxs M2=>.ok (x::xs) M2
theorem Ze:DA X ξ [] aNil:=⟨_,Zk2,λ_ _ H α M _ _ h q=>q _ H α Ext.refl h .nil⟩
theorem Za(ha:DE X ξ e fa)(hr:DA X ξ es fs)(hs:autoParam (av (e::es) X.env=(false,eval e X.env)::av es X.env) Qrf._auto_1):DA X ξ (e::es) (Zc fa fs):=by
 obtain⟨ta,ha,qa⟩:=ha;obtain⟨tb,hb,qb⟩:=hr;refine⟨_,Ze2 ha hb hs,λσ ρ H α M Q s h q=>?_⟩;refine qa σ ρ H α M _ s h (OG.seq q λx M1 v H1 α1 e1 h1 r1 q1=>?_);refine qb σ ρ H1 α1 M1 _ (s.mono e1) h1 (OG.seq q1 λy M2 w H2 α2 e2 h2 r2 q2=>?_);exact q2 _ H2 α2 Ext.refl h2 (.cons (Rep.mono e2 r1) r2)
def ZX(f:Av):Ev:=λρ M=>(f ρ M).bind λxs M1=>if xs.length<=1000 then .ok (.tup xs) M1 else .bad
def Za8(f:Av):Ev:=λρ M=>(f ρ M).bind λxs M1=>if xs.length<=1000 then .ok (.ref M1.length) (M1++[.lst xs])else .bad
theorem small(h:n<=1000):n<=sizeLine:=dC (Zht h)
theorem Zw{x1}(ha:DA X ξ es fs):DE X ξ (.Tuple es x1 pos) (ZX fs):=by
 obtain⟨ta,ha,qa⟩:=ha;refine⟨_,ZoH ha,λσ ρ H α M Q s h q=>?_⟩;refine qa σ ρ H α M _ s h (OG.seq q λxs M1 vs H1 α1 e1 h1 r1 q1=>?_);by_cases hl:xs.length<=1000
 .rw[if_pos hl]at q1;refine⟨by rw[r1.length];exact small hl,λp hp=>q1 _ _ α1 (Ext.new0 hp) (h1.tup hp) (.tup ZB (Reps.mono (Ext.new0 hp) r1))⟩
 .rw[if_neg hl]at q1;exact q1.elim
theorem HR.last{K:Fg}(h:HR K H α M)(p:Addr):(α++[p])[M.length]?=some p:=by
 rw[<-h.len,aH (aj _),fI];rfl
theorem ZN(ha:DA X ξ es fs):DE X ξ (.List es pos) (Za8 fs):=by
 obtain⟨ta,ha,qa⟩:=ha;refine⟨_,ZoI ha,λσ ρ H α M Q s h q=>?_⟩;refine qa σ ρ H α M _ s h (OG.seq q λxs M1 vs H1 α1 e1 h1 r1 q1=>?_);by_cases hl:xs.length<=1000
 .rw[if_pos hl]at q1;refine⟨by rw[r1.length];exact small hl,λp hp=>q1 _ _ (α1++[p]) (Ext.new hp) (h1.new hp r1) (.ref ⟨h1.last p,Kn.lst ZB⟩)⟩
 .rw[if_neg hl]at q1;exact q1.elim
end
end DL
namespace DL
open PyProof.Rows L2
open PySem.SeqAt (EqAt RcAt RcNeAt)
noncomputable def Zp(i j:Int):Prop:=gK i<=64\/gK j<=64\/(gK i<=60000000/\gK j<=60000000)
instance (i j:Int):Decidable (Zp i j):=by unfold Zp;infer_instance
theorem Zp.ok(h:Zp i j):IntMulOk i j:=by
 rcases h with h|h|⟨h1,h2⟩
 .exact .of_left h
 .exact .of_right h
 .exact .of_le h1 h2 (by decide)
theorem Zr(m n:Nat)(h1:i.natAbs<2^m)(h2:j.natAbs<2^n)(hm:autoParam (m<=60000000) Qde._auto_1)(hn:autoParam (n<=60000000) Qde._auto_1):Zp i j:=
 .inr (.inr ⟨aZ (intBits_le_iff.mpr h1) hm,aZ (intBits_le_iff.mpr h2) hn⟩)
noncomputable def ZaI(j:Int):Prop:=j≠0/\j.natAbs.log2<9000
instance (j:Int):Decidable (ZaI j):=by unfold ZaI;infer_instance
theorem Zmy:OpR X (fK .Mult) (rI Zp λi j=>.int (i*j)):=opI λ_ _ _ _ _ _ _ hc q=>mul_int q hc.ok
theorem ZjX:OpR X (fK .FloorDiv) (rI (λ_ j=>ZaI j) λi j=>.int (i.fdiv j)):=opI λ_ _ _ _ _ _ _ hc q=>floordiv_int hc.1 q (.inl (PyProof.noPylong_of_log2 hc.2))
noncomputable def dAdd:Bo:=λx y M=>match x,y with
 |.int i,.int j=>.ok (.int (i+j)) M
 |.str i,.str j=>if i.length+j.length<=100000 then .ok (.str (i++j)) M else .bad
 |.ref n,.ref m=>match M[n]?,M[m]? with
  |some (.lst xs),some (.lst ys)=>if xs.length+ys.length<=10000000 then .ok (.ref M.length) (M++[.lst (xs++ys)])else .bad
  |_,_=>.bad
 |.tup xs,.tup ys=>if xs.length+ys.length<=100000/\xs≠[]then .ok (.tup (xs++ys)) M else .bad
 |_,_=>.bad
noncomputable def dSub:Bo:=λx y M=>match x,y with|.int i,.int j=>.ok (.int (i-j)) M|_,_=>.bad
def dMul:Bo:=λx y M=>match x,y with|.int i,.int j=>if Zp i j then .ok (.int (i*j)) M else .bad|_,_=>.bad
def dDiv:Bo:=λx y M=>match x,y with|.int i,.int j=>if ZaI j then .ok (.int (i.fdiv j)) M else .bad|_,_=>.bad
noncomputable def dMod:Bo:=λx y M=>match x,y with|.int i,.int j=>if j≠0 then .ok (.int (i.fmod j)) M else .bad|_,_=>.bad
noncomputable def dPow:Bo:=λx y M=>match x,y with|.int i,.int j=>if 0<=j/\j<=1000000/\i.natAbs<2^64 then .ok (.int (i^j.toNat)) M else .bad|_,_=>.bad
noncomputable def dLt:Bo:=λx y M=>match x,y with|.int i,.int j=>.ok (.bl (decide (i<j))) M|_,_=>.bad
noncomputable def dLe:Bo:=λx y M=>match x,y with|.int i,.int j=>.ok (.bl (decide (i<=j))) M|_,_=>.bad
noncomputable def dGt:Bo:=λx y M=>match x,y with|.int i,.int j=>.ok (.bl (decide (j<i))) M|_,_=>.bad
noncomputable def dGe:Bo:=λx y M=>match x,y with|.int i,.int j=>.ok (.bl (decide (j<=i))) M|_,_=>.bad
theorem Zo1(h:n<=100000):n<=sizeLine:=aZ h (by decide)
section
variable {X:Cx}{ξ:XK}
theorem ZbN{r:R2}{f:Bo}{C:Int->Int->Prop}[∀i j,Decidable (C i j)]{g:Int->Int->D}{gV:Int->Int->V}(hg:∀H α i j,Rep X.K H α (gV i j) (g i j))(hf:∀x y M,f x y M=match x,y with|.int i,.int j=>if C i j then .ok (g i j) M else .bad|_,_=>.bad)(hr:∀i j H Q,C i j->Q (gV i j) H->r (.int i) (.int j) H Q):BO X ξ r f:=by
 intro H α M v w x y Q h rv rw' q;rw[hf]at q;cases rv<;>first|exact q.elim|skip
 cases rw'<;>first|exact q.elim|skip
 rename_i i j;by_cases c:C i j
 .simp only[if_pos c]at q;exact hr i j H Q c (q _ H α Ext.refl h (hg H α i j))
 .simp only[if_neg c]at q;exact q.elim
theorem Zo2:BO X ξ (rI0 λi j=>.int (i-j)) dSub:=ZbN (C:=λ_ _=>True) (λ_ _ i j=>.int (i-j)) (λx y M=>by cases x<;>cases y<;>simp[dSub]) λi j H Q _ q=>⟨i,j,rfl,rfl,q⟩
theorem Zo3:BO X ξ (rI Zp λi j=>.int (i*j)) dMul:=ZbN (C:=Zp) (λ_ _ i j=>.int (i*j)) (λx y M=>by cases x<;>cases y<;>rfl) λi j H Q c q=>⟨i,j,rfl,rfl,c,q⟩
theorem Zo4:BO X ξ (rI (λ_ j=>ZaI j) λi j=>.int (i.fdiv j)) dDiv:=ZbN (C:=λ_ j=>ZaI j) (λ_ _ i j=>.int (i.fdiv j)) (λx y M=>by cases x<;>cases y<;>rfl) λi j H Q c q=>⟨i,j,rfl,rfl,c,q⟩
theorem Zo5:BO X ξ (rI (λ_ j=>j≠0) λi j=>.int (i.fmod j)) dMod:=ZbN (C:=λ_ j=>j≠0) (λ_ _ i j=>.int (i.fmod j)) (λx y M=>by cases x<;>cases y<;>rfl) λi j H Q c q=>⟨i,j,rfl,rfl,c,q⟩
theorem Zo6:BO X ξ (rI Zun λi j=>.int (i^j.toNat)) dPow:=ZbN (C:=λi j=>0<=j/\j<=1000000/\i.natAbs<2^64) (λ_ _ i j=>.int (i^j.toNat)) (λx y M=>by cases x<;>cases y<;>rfl) λi j H Q c q=>⟨i,j,rfl,rfl,c,q⟩
theorem Zb0:BO X ξ (rI0 λi j=>.bl (decide (i<j))) dLt:=ZbN (C:=λ_ _=>True) (λ_ _ i j=>.bl _) (λx y M=>by cases x<;>cases y<;>simp[dLt]) λi j H Q _ q=>⟨i,j,rfl,rfl,q⟩
theorem Zsj:BO X ξ (rI0 λi j=>.bl (decide (i<=j))) dLe:=ZbN (C:=λ_ _=>True) (λ_ _ i j=>.bl _) (λx y M=>by cases x<;>cases y<;>simp[dLe]) λi j H Q _ q=>⟨i,j,rfl,rfl,q⟩
theorem ZcO:BO X ξ (rI0 λi j=>.bl (decide (j<i))) dGt:=ZbN (C:=λ_ _=>True) (λ_ _ i j=>.bl _) (λx y M=>by cases x<;>cases y<;>simp[dGt]) λi j H Q _ q=>⟨i,j,rfl,rfl,q⟩
theorem ZjY:BO X ξ (rI0 λi j=>.bl (decide (j<=i))) dGe:=ZbN (C:=λ_ _=>True) (λ_ _ i j=>.bl _) (λx y M=>by cases x<;>cases y<;>simp[dGe]) λi j H Q _ q=>⟨i,j,rfl,rfl,q⟩
theorem Zmz:OpR X (fK .Add) (λx y H Q=>(rI0 (λi j=>.int (i+j)) x y H Q\/(∃i j,x=.str i/\y=.str j/\i.length+j.length<=sizeLine/\Q (.str (i++j)) H))\/(rCat x y H Q\/Zmo X.K x y H Q)):=
 OpR.or (OpR.or ZoC ZgF) (OpR.or ZoO Zmp)
theorem Zo7:BO X ξ (λx y H Q=>(rI0 (λi j=>.int (i+j)) x y H Q\/(∃i j,x=.str i/\y=.str j/\i.length+j.length<=sizeLine/\Q (.str (i++j)) H))\/(rCat x y H Q\/Zmo X.K x y H Q)) dAdd:=by
 intro H α M v w x y Q h rv rw' q;unfold dAdd at q
 split at q
 .rename_i i j;cases rv;cases rw';exact .inl (.inl ⟨i,j,rfl,rfl,q _ H α Ext.refl h (.int (i+j))⟩)
 .rename_i i j;cases rv;cases rw'
  split at q
  .rename_i c;exact .inl (.inr ⟨i,j,rfl,rfl,Zo1 c,q _ H α Ext.refl h (.str _)⟩)
  .exact q.elim
 .rename_i n m;cases rv with
  |@ref p _ hp=>
   cases rw' with
   |@ref p2 _ hp2=>
    split at q
    .rename_i ds ds2 e1 e2
     split at q
     .rename_i c;obtain⟨xs,g1,r1⟩:=h.at hp e1;obtain⟨ys,g2,r2⟩:=h.at hp2 e2;refine .inr (.inl ⟨p,p2,xs,ys,rfl,rfl,g1,g2,by rw[r1.length,r2.length];exact aZ c (by decide),λl hl=>?_⟩)
      exact q _ _ (α++[l]) (Ext.new hl) (h.new hl (r1.append r2)) (.ref ⟨h.last l,Kn.lst ZB⟩)
     .exact q.elim
    .exact q.elim
 .rename_i ds ds2;cases rv with
  |@tup p xs _ hp rp=>
   cases rw' with
   |@tup p2 xs2 _ hp2 rp2=>
    split at q
    .rename_i c;have nx:xs≠[]:=λz=>c.2 (by have:=rp.length;rw[z]at this;exact dE this.symm)
     refine .inr (.inr ⟨p,p2,xs,xs2,rfl,rfl,(SqT.of hp),(SqT.of hp2),nx,by rw[rp.length,rp2.length];exact Zo1 c.1,λz=>?_,λ_ l hl=>?_⟩)
     .subst z;cases rp2;rw[cJ]at q;exact q _ H α Ext.refl h (.tup hp rp)
     .exact q _ _ α (Ext.new0 hl) (h.tup hl) (.tup ZB (Reps.mono (Ext.new0 hl) (rp.append rp2)))
    .exact q.elim
 .exact q.elim
theorem ZF(ha:DE X ξ a fa)(hb:DE X ξ b fb):DE X ξ (.BinOp a .Add b pos) (e2 dAdd fa fb):=ZgK Zmz Zo7 ha hb
theorem Z0(ha:DE X ξ a fa)(hb:DE X ξ b fb):DE X ξ (.BinOp a .Sub b pos) (e2 dSub fa fb):=ZgK ZoD Zo2 ha hb
theorem Zt(ha:DE X ξ a fa)(hb:DE X ξ b fb):DE X ξ (.BinOp a .Mult b pos) (e2 dMul fa fb):=ZgK Zmy Zo3 ha hb
theorem Zab(ha:DE X ξ a fa)(hb:DE X ξ b fb):DE X ξ (.BinOp a .FloorDiv b pos) (e2 dDiv fa fb):=ZgK ZjX Zo4 ha hb
theorem Za9(ha:DE X ξ a fa)(hb:DE X ξ b fb):DE X ξ (.BinOp a .Mod b pos) (e2 dMod fa fb):=ZgK Zmg Zo5 ha hb
theorem ZhA(ha:DE X ξ a fa)(hb:DE X ξ b fb):DE X ξ (.BinOp a .Pow b pos) (e2 dPow fa fb):=ZgK ZoE Zo6 ha hb
def Zcr(f:Ev):Ev:=λρ M=>(f ρ M).bind λx M1=>match x with|.int i=>.ok (.int (-i)) M1|_=>.bad
theorem Z8(ha:DE X ξ a fa):DE X ξ (.UnaryOp .USub a pos) (Zcr fa):=by
 obtain⟨ta,ha,qa⟩:=ha;refine⟨_,Zr8 ZoF ha,λσ ρ H α M Q s h q=>?_⟩;refine qa σ ρ H α M _ s h (OG.seq q λx M1 v H1 α1 e1 h1 r1 q1=>?_);cases r1 with
 |int i=>exact⟨i,rfl,q1 _ H1 α1 Ext.refl h1 (.int (-i))⟩
 |_=>exact q1.elim
def atD(xs:List D)(i:Int)(M:Sto):Out D:=match atI xs i with|some d=>.ok d M|none=>.bad
def dIx:Bo:=λx y M=>match x,y with
 |.tup xs,.int i=>atD xs i M
 |.rol xs,.int i=>atD xs i M
 |.ref n,.int i=>match M[n]? with|some (.lst xs)=>atD xs i M|_=>.bad
 |_,_=>.bad
theorem Reps.atI{K:Fg}(r:Reps K H α vs ds)(h:L2.atI ds i=some d):∃v,L2.atI vs i=some v/\Rep K H α v d:=by
 unfold L2.atI at h ⊢;rw[r.length];cases e:ixN ds.length i with
 |none=>rw[e]at h;cases h
 |some j=>
  rw[e]at h;exact r.get h
theorem Zsk:BO X ξ (λx y H Q=>Zup X.K x y H Q\/Zuq X.K x y H Q) dIx:=by
 intro H α M v w x y Q h rv rw' q;have at':∀{ds:List D}{i:Int},OP X.K H α ξ Q (atD ds i M)->∃d,L2.atI ds i=some d/\OP X.K H α ξ Q (.ok d M):=λ{ds i} q=>by
  unfold atD at q;cases e:L2.atI ds i with
  |none=>rw[e]at q;exact q.elim
  |some d=>rw[e]at q;exact⟨d,rfl,q⟩
 unfold dIx at q
 split at q
 .rename_i ds i;cases rw';cases rv with
  |@tup p xs _ hp rp=>
   obtain⟨d,e,q⟩:=at' q;obtain⟨v,h1,h2⟩:=rp.atI e;exact .inr ⟨p,xs,i,v,rfl,rfl,(SqT.of hp),h1,q v H α Ext.refl h h2⟩
 .rename_i ds i;cases rw';cases rv with
  |@rol p xs _ hp rp=>
   obtain⟨d,e,q⟩:=at' q;obtain⟨v,h1,h2⟩:=rp.atI e;exact .inl ⟨p,xs,i,v,rfl,rfl,hp.sq,h1,q v H α Ext.refl h h2⟩
 .rename_i n i;cases rw';cases rv with
  |@ref p _ hp=>
   split at q
   .rename_i ds e1;obtain⟨d,e,q⟩:=at' q;obtain⟨xs,g1,r1⟩:=h.at hp e1;obtain⟨v,h1,h2⟩:=r1.atI e;exact .inl ⟨p,xs,i,v,rfl,rfl,SqL.of g1,h1,q v H α Ext.refl h h2⟩
   .exact q.elim
 .exact q.elim
theorem Zk(ha:DE X ξ a fa)(hb:DE X ξ b fb)(hs:Zhp b:=by exact λ_ _=>rfl):DE X ξ (.Subscript a b pos) (e2 dIx fa fb):=by
 obtain⟨ta,ha,qa⟩:=ha;obtain⟨tb,hb,qb⟩:=hb;exact⟨_,Zsd (IxR.or Zmr ZoM) ha hb hs,two Zsk qa qb⟩
end
inductive Kd where
 |non|bl (b:Bool)|int (i:Int)|str (x:Str)|tup (xs:List D)|lst (xs:List D)
noncomputable def kd(M:Sto):D->Option Kd
 |.non=>some .non
 |.bl b=>some (.bl b)
 |.int i=>some (.int i)
 |.str x=>some (.str x)
 |.tup xs=>some (.tup xs)
 |.rol xs=>some (.lst xs)
 |.ref n=>match M[n]? with|some (.lst xs)=>some (.lst xs)|_=>none
 |.du _=>none
noncomputable def eqL(f:D->D->Option Bool):List D->List D->Option Bool
 |[],[]=>some true
 |x::xs,y::ys=>match f x y with|some a=>(match eqL f xs ys with|some b=>some (a&&b)|none=>none)|none=>none
 |_,_=>some false
def eqK(f:D->D->Option Bool):Kd->Kd->Option Bool
 |.non,.non=>some true
 |.bl a,.bl b=>some (a==b)
 |.bl a,.int b=>some ((if a then 1 else 0)==b)
 |.int a,.bl b=>some (a==(if b then 1 else 0))
 |.int a,.int b=>some (a==b)
 |.str a,.str b=>some (a==b)
 |.tup xs,.tup ys=>eqL f xs ys
 |.lst xs,.lst ys=>if xs.length=ys.length then eqL f xs ys else some false
 |_,_=>some false
def eqF:Nat->Sto->D->D->Option Bool
 |0,_,_,_=>none
 |n+1,M,x,y=>match kd M x,kd M y with|some a,some b=>eqK (eqF n M) a b|_,_=>none
inductive Vw(X:Cx) (H:Hp) (α:List Addr) (s:aC):Kd->ae->Prop where
 |non:Vw X H α s .non .none
 |bl (b:Bool):Vw X H α s (.bl b) (.bool b)
 |int (i:Int) (t:Tok):Vw X H α s (.int i) (.int i t)
 |str (x:Str) (t:Tok):Vw X H α s (.str x) (.str x t)
 |tup {p:Addr} {xs:List V} {ds:List D} {its:List ae}:s.heap.IsTuple p its.toArray->ZS xs its->Reps X.K H α xs ds->Vw X H α s (.tup ds) (.ref p)
 |lst {p:Addr} {xs:List V} {ds:List D} {its:List ae}:s.heap.IsList p its.toArray->ZS xs its->Reps X.K H α xs ds->Vw X H α s (.lst ds) (.ref p)
section
variable {X:Cx}{pins:Pn}{σ:L2.St}{H:Hp}{s:aC}{α:List Addr}{M:Sto}
theorem vw(I:Inv X pins σ H s)(h:HR X.K H α M)(r:Rep X.K H α v x)(ru:ZZ v u)(e:kd M x=some k):Vw X H α s k u:=by
 cases r with
 |non=>cases e;cases ru;exact .non
 |bl b=>cases e;cases ru;exact .bl b
 |int i=>cases e;obtain⟨t,rfl⟩:=ru;exact .int i t
 |str x=>cases e;obtain⟨t,rfl⟩:=ru;exact .str x t
 |du _=>cases e
 |@tup p xs ds hp rp=>
  cases e;cases ru;obtain⟨its,h1,h2,_⟩:=I.tuple (SqT.of hp);exact .tup h2 h1 rp
 |@rol p xs ds hp rp=>
  cases e;cases ru;obtain⟨its,h1,h2,_⟩:=I.list hp.sq;exact .lst h2.isList h1 rp
 |@ref p n hp=>
  cases ru;cases e1:M[n]? with
  |none=>simp only[kd,e1]at e;cases e
  |some o=>
   cases o with
   |lst ds=>
    simp only[kd,e1]at e;cases e;obtain⟨xs,g1,r1⟩:=h.at hp e1;obtain⟨its,h1,h2,_⟩:=I.list (SqL.of g1);exact .lst h2.isList h1 r1
noncomputable def Eq3(A:cV)(s:aC)(u z:ae)(b:Bool):Prop:=EqAt A s u z b/\RcAt A s u z b/\RcNeAt A s u z (!b)
theorem ZhB{f:D->D->Option Bool}:∀{xs ys:List D}{b:Bool},eqL f xs ys=some b->(∀(j:Nat) x y,xs[j]?=some x->ys[j]?=some y->∃c,f x y=some c)/\b=((aI (min xs.length ys.length)).all (λj=>match xs[j]?,ys[j]? with|some x,some y=>(f x y).getD false|_,_=>false)&&xs.length==ys.length)
 |[],[],b,e=>by
  simp only[eqL,aq]at e;subst e;exact⟨λj x y h=>(by simp at h),(by simp)⟩
 |x::xs,[],b,e=>by
  simp only[eqL,aq]at e;subst e;exact⟨λj x y h1 h2=>(by simp at h2),(by simp)⟩
 |[],y::ys,b,e=>by
  simp only[eqL,aq]at e;subst e;exact⟨λj x y h1 h2=>(by simp at h1),(by simp)⟩
 |x::xs,y::ys,b,e=>by
  cases e1:f x y with
  |none=>simp only[eqL,e1]at e;cases e
  |some a=>
   cases e2:eqL f xs ys with
   |none=>simp only[eqL,e1,e2]at e;cases e
   |some c=>
    simp only[eqL,e1,e2,aq]at e;subst e;obtain⟨h1,h2⟩:=ZhB e2;refine⟨λj x' y' g1 g2=>?_,?_⟩
    .cases j with
     |zero=>
      simp at g1 g2;subst g1 g2;exact⟨a,e1⟩
     |succ j=>
      simp at g1 g2;exact h1 j x' y' g1 g2
    .have em:min (x::xs).length (y::ys).length=min xs.length ys.length+1:=by simp only[bv];lia
     rw[em,List.range_succ_eq_map,List.all_cons,nj,h2];simp[e1,Bool.and_assoc,Function.comp_def]
theorem ZjZ(I:Inv X pins σ H s)(h:HR X.K H α M):∀(n:Nat){v:V}{x y:D}{b:Bool},Rep X.K H α v x->Rep X.K H α v y->eqF n M x y=some b->b=true:=by
 intro n
 induction n with
 |zero=>intro v x y b _ _ e;simp only[eqF]at e;cases e
 |succ n ih=>
  have lists:∀(vs:List V)(xs ys:List D)(b:Bool),Reps X.K H α vs xs->Reps X.K H α vs ys->eqL (eqF n M) xs ys=some b->b=true:=by
   intro vs
   induction vs with
   |nil=>
    intro xs ys b r1 r2 e;cases r1;cases r2;simp only[eqL,aq]at e;exact e.symm
   |cons v vs iv=>
    intro xs ys b r1 r2 e;cases r1 with
    |cons p1 t1=>
     cases r2 with
     |cons p2 t2=>
      rename_i d1 ds1 d2 ds2;cases e1:eqF n M d1 d2 with
      |none=>simp only[eqL,e1]at e;cases e
      |some a=>
       cases e2:eqL (eqF n M) ds1 ds2 with
       |none=>simp only[eqL,e1,e2]at e;cases e
       |some c=>
        simp only[eqL,e1,e2,aq]at e;rw[<-e,ih p1 p2 e1,iv _ _ _ t1 t2 e2];rfl
  intro v x y b r1 r2 e;have nl:∀{p:Addr}{xs ys:List V},SqT X.K H p xs->SqL X.K H p ys->False:=λ{p xs ys} a c=>by
   obtain⟨i1,_,⟨o1,g1,c1,_⟩,_⟩:=I.tuple a;obtain⟨i2,_,⟨o2,_,g2,c2,_⟩,_⟩:=I.list c;rw[g1]at g2;cases g2;rw[c1]at c2;exact absurd c2 (by decide)
  have ll:∀{p:Addr}{n:Nat}{ds:List D},RefK H α 0 n p->M[n]?=some (.lst ds)->∃vs,SqL X.K H p vs/\Reps X.K H α vs ds:=λ{p n ds} a c=>by
   obtain⟨xs,g1,r1⟩:=h.at a c;exact⟨xs,SqL.of g1,r1⟩
  cases r1 with
  |non=>cases r2;simp only[eqF,kd,eqK,aq]at e;exact e.symm
  |bl c=>cases r2;simp only[eqF,kd,eqK,aq,beq_self_eq_true]at e;exact e.symm
  |int c=>cases r2;simp only[eqF,kd,eqK,aq,beq_self_eq_true]at e;exact e.symm
  |str c=>cases r2;simp only[eqF,kd,eqK,aq,beq_self_eq_true]at e;exact e.symm
  |du _=>simp[eqF,kd]at e
  |@tup p xs ds hp rp=>
   cases r2 with
   |@tup _ xs2 ds2 hp2 rp2=>
    cases I.tuple_inj (SqT.of hp) (SqT.of hp2);simp only[eqF,kd,eqK]at e;exact lists _ _ _ _ rp rp2 e
   |@rol _ xs2 ds2 hp2 rp2=>exact(nl (SqT.of hp) hp2.sq).elim
   |du _=>simp[eqF,kd]at e
   |@ref _ n2 hp2=>
    obtain⟨ys,g⟩:=h.some_at hp2;exact(nl (SqT.of hp) (SqL.of g)).elim
  |@rol p xs ds hp rp=>
   cases r2 with
   |@tup _ xs2 ds2 hp2 rp2=>exact(nl (SqT.of hp2) hp.sq).elim
   |du _=>simp[eqF,kd]at e
   |@rol _ xs2 ds2 hp2 rp2=>
    cases I.list_inj hp.sq hp2.sq;simp only[eqF,kd,eqK,if_pos (rp.length.symm.trans rp2.length)]at e;exact lists _ _ _ _ rp rp2 e
   |@ref _ n2 hp2=>
    cases e1:M[n2]? with
    |none=>simp only[eqF,kd,e1]at e;cases e
    |some o=>
     cases o with
     |lst ds2=>
      obtain⟨ys,g,r⟩:=ll hp2 e1;cases I.list_inj hp.sq g;simp only[eqF,kd,e1,eqK,if_pos (rp.length.symm.trans r.length)]at e;exact lists _ _ _ _ rp r e
  |@ref p n1 hp=>
   cases e0:M[n1]? with
   |none=>simp only[eqF,kd,e0]at e;cases e
   |some o0=>
    cases o0 with
    |lst ds=>
     obtain⟨xs,g0,rp⟩:=ll hp e0;cases r2 with
     |@tup _ xs2 ds2 hp2 rp2=>exact(nl (SqT.of hp2) g0).elim
     |du _=>simp[eqF,kd,e0]at e
     |@rol _ xs2 ds2 hp2 rp2=>
      cases I.list_inj g0 hp2.sq;simp only[eqF,kd,e0,eqK,if_pos (rp.length.symm.trans rp2.length)]at e;exact lists _ _ _ _ rp rp2 e
     |@ref _ n2 hp2=>
      cases e1:M[n2]? with
      |none=>simp only[eqF,kd,e0,e1]at e;cases e
      |some o=>
       cases o with
       |lst ds2=>
        obtain⟨ys,g,r⟩:=ll hp2 e1;cases I.list_inj g0 g;simp only[eqF,kd,e0,e1,eqK,if_pos (rp.length.symm.trans r.length)]at e;exact lists _ _ _ _ rp r e
end
end DL
namespace DL
open PyProof.Rows L2
open PySem.SeqAt (EqAt RcAt RcNeAt)
section
variable {X:Cx}{pins:Pn}{σ:L2.St}{H:Hp}{s:aC}{α:List Addr}{M:Sto}
theorem ZfT(v1:ZS xs1 i1)(v2:ZS xs2 i2)(r1:Reps X.K H α xs1 ds1)(r2:Reps X.K H α xs2 ds2)(ih:∀(x y:D)(v w:V)(u z:ae)(b:Bool),eqF n M x y=some b->Rep X.K H α v x->Rep X.K H α w y->ZZ v u->ZZ w z->EqAt A s u z b)(e:eqL (eqF n M) ds1 ds2=some b):∃f:Nat->Bool,(∀(j:Nat)(h1:j<i1.toArray.size)(h2:j<i2.toArray.size),EqAt A s i1.toArray[j] i2.toArray[j] (f j))/\b=((aI (min i1.toArray.size i2.toArray.size)).all f&&i1.toArray.size==i2.toArray.size):=by
 obtain⟨g1,g2⟩:=ZhB e;have l1:i1.toArray.size=ds1.length:=by rw[ah,<-v1.length,r1.length]
 have l2:i2.toArray.size=ds2.length:=by rw[ah,<-v2.length,r2.length]
 refine⟨_,λj h1 h2=>?_,by rw[l1,l2];exact g2⟩
 have k1:j<ds1.length:=by rw[<-l1];exact h1
 have k2:j<ds2.length:=by rw[<-l2];exact h2
 obtain⟨c,hc⟩:=g1 j _ _ (Gq k1) (Gq k2);obtain⟨v,a1,a2⟩:=r1.get (Gq k1);obtain⟨w,b1,b2⟩:=r2.get (Gq k2);obtain⟨u,a3,a4⟩:=v1.get a1;obtain⟨z,b3,b4⟩:=v2.get b1;have q:=ih _ _ v w u z c hc a2 b2 a4 b4;simp only[aa k1,aa k2,hc,iJ];have e1:i1.toArray[j]=u:=by
  have:=ar.mp a3
  obtain⟨_,z⟩:=this
  simpa using z
 have e2:i2.toArray[j]=z:=by
  have:=ar.mp b3
  obtain⟨_,z⟩:=this
  simpa using z
 rw[e1,e2];exact q
theorem ZhC(I:Inv X pins σ H s)(h:HR X.K H α M)(e:eqF n M x y=some b)(rx:Rep X.K H α v x)(ry:Rep X.K H α w y)(rv:ZZ v (.ref p))(rw':ZZ w (.ref q))(k:RcAt A s (.ref p) (.ref q) b)(k':RcNeAt A s (.ref p) (.ref q) (!b)):Eq3 A s (.ref p) (.ref q) b:=by
 refine⟨?_,k,k'⟩;by_cases c:p=q
 .subst c;cases ZZ.inj rv rw';rw[ZjZ I h n rx ry e];exact EqAt.same _
 .exact EqAt.of_refs c k
theorem eq3(I:Inv X pins σ H s)(h:HR X.K H α M):∀(n:Nat)(x y:D)(v w:V)(u z:ae)(b:Bool)(A:cV),A.units+n<jd->eqF n M x y=some b->Rep X.K H α v x->Rep X.K H α w y->ZZ v u->ZZ w z->Eq3 A s u z b:=by
 intro n
 induction n with
 |zero=>intro x y v w u z b A _ e;simp only[eqF]at e;cases e
 |succ n ih=>
  intro x y v w u z b A hn e rx ry rv rw';have hu:A.units<jd:=⋯
  have e0:=e;unfold eqF at e;cases ka:kd M x with
  |none=>rw[ka]at e;cases e
  |some ka'=>
   cases kb:kd M y with
   |none=>rw[ka,kb]at e;cases e
   |some kb'=>
    rw[ka,kb]at e;have va:=vw I h rx rv ka;have vb:=vw I h ry rw' kb;have deep:∀(x y:D)(v w:V)(u z:ae)(b:Bool),eqF n M x y=some b->Rep X.K H α v x->Rep X.K H α w y->ZZ v u->ZZ w z->EqAt A.in1 s u z b:=λx y v w u z b e a1 a2 a3 a4=>
     (ih x y v w u z b A.in1 (by rw[cV.in1_units];lia) e a1 a2 a3 a4).1
    cases va with
    |non=>
     cases vb<;>simp only[eqK,aq]at e<;>subst e
     .exact⟨EqAt.same _,.none_none,.none_none⟩
     .exact⟨.none_bool _,.none_bool _,.none_bool _⟩
     .exact⟨.none_int _ _,.none_int _ _,.none_int _ _⟩
     .exact⟨.none_str _ _,.none_str _ _,.none_str _ _⟩
     .rename_i g _ _;exact⟨.none_tuple g hu,.none_tuple g hu,.none_tuple g hu⟩
     .rename_i g _ _;exact⟨.none_list g hu,.none_list g hu,.none_list g hu⟩
    |bl c=>
     cases vb<;>simp only[eqK,aq]at e<;>subst e
     .exact⟨.bool_none _,.bool_none _,.bool_none _⟩
     .exact⟨.bool_bool _ _,.bool_bool _ _,.bool_bool _ _⟩
     .exact⟨.bool_int _ _ _,.bool_int _ _ _,.bool_int _ _ _⟩
     .exact⟨.bool_str _ _ _,.bool_str _ _ _,.bool_str _ _ _⟩
     .rename_i g _ _;exact⟨.bool_tuple _ g hu,.bool_tuple _ g hu,.bool_tuple _ g hu⟩
     .rename_i g _ _;exact⟨.bool_list _ g hu,.bool_list _ g hu,.bool_list _ g hu⟩
    |int c t=>
     cases vb<;>simp only[eqK,aq]at e<;>subst e
     .exact⟨.int_none _ _,.int_none _ _,.int_none _ _⟩
     .exact⟨.int_bool _ _ _,.int_bool _ _ _,.int_bool _ _ _⟩
     .exact⟨.int_int _ _ _ _,.int_int _ _ _ _,.int_int _ _ _ _⟩
     .exact⟨.int_str _ _ _ _,.int_str _ _ _ _,.int_str _ _ _ _⟩
     .rename_i g _ _;exact⟨.int_tuple _ _ g hu,.int_tuple _ _ g hu,.int_tuple _ _ g hu⟩
     .rename_i g _ _;exact⟨.int_list _ _ g hu,.int_list _ _ g hu,.int_list _ _ g hu⟩
    |str c t=>
     cases vb<;>simp only[eqK,aq]at e<;>subst e
     .exact⟨.str_none _ _,.str_none _ _,.str_none _ _⟩
     .exact⟨.str_bool _ _ _,.str_bool _ _ _,.str_bool _ _ _⟩
     .exact⟨.str_int _ _ _ _,.str_int _ _ _ _,.str_int _ _ _ _⟩
     .exact⟨.str_str _ _ _ _,.str_str _ _ _ _,.str_str _ _ _ _⟩
     .rename_i g _ _;exact⟨.str_tuple _ _ g hu,.str_tuple _ _ g hu,.str_tuple _ _ g hu⟩
     .rename_i g _ _;exact⟨.str_list _ _ g hu,.str_list _ _ g hu,.str_list _ _ g hu⟩
    |@tup p xs ds its g1 w1 q1=>
     cases vb with
     |@tup p2 xs2 ds2 its2 g2 w2 q2=>
      simp only[eqK]at e;obtain⟨f,hf,hb⟩:=ZfT w1 w2 q1 q2 deep e;subst hb;exact ZhC I h e0 rx ry rv rw' (.tuples g1 g2 hu hf) (.tuples g1 g2 hu hf)
     |@lst p2 xs2 ds2 its2 g2 w2 q2=>
      simp only[eqK,aq]at e;subst e;exact ZhC I h e0 rx ry rv rw' (.tuple_list g1 g2 hu) (.tuple_list g1 g2 hu)
     |non=>simp only[eqK,aq]at e;subst e;exact⟨.tuple_none g1 hu,.tuple_none g1 hu,.tuple_none g1 hu⟩
     |bl c=>simp only[eqK,aq]at e;subst e;exact⟨.tuple_bool _ g1 hu,.tuple_bool _ g1 hu,.tuple_bool _ g1 hu⟩
     |int c t=>simp only[eqK,aq]at e;subst e;exact⟨.tuple_int _ _ g1 hu,.tuple_int _ _ g1 hu,.tuple_int _ _ g1 hu⟩
     |str c t=>simp only[eqK,aq]at e;subst e;exact⟨.tuple_str _ _ g1 hu,.tuple_str _ _ g1 hu,.tuple_str _ _ g1 hu⟩
    |@lst p xs ds its g1 w1 q1=>
     cases vb with
     |@lst p2 xs2 ds2 its2 g2 w2 q2=>
      simp only[eqK]at e;have l1:its.toArray.size=ds.length:=by rw[ah,<-w1.length,q1.length]
      have l2:its2.toArray.size=ds2.length:=by rw[ah,<-w2.length,q2.length]
      by_cases c:ds.length=ds2.length
      .rw[if_pos c]at e;have hs:its.toArray.size=its2.toArray.size:=by rw[l1,l2,c]
       obtain⟨f,hf,hb⟩:=ZfT w1 w2 q1 q2 deep e;rw[hs,nq,beq_self_eq_true,Bool.and_true,<-hs]at hb;subst hb;exact ZhC I h e0 rx ry rv rw' (.lists g1 g2 hs hu hf) (.lists g1 g2 hs hu hf)
      .rw[if_neg c]at e;have e':false=b:=aM e;subst e';have hs:(its.toArray.size != its2.toArray.size)=true:=by rw[l1,l2];simpa using c
       exact ZhC I h e0 rx ry rv rw' (.lists_lengths g1 g2 hs hu) (.lists_lengths g1 g2 hs hu)
     |@tup p2 xs2 ds2 its2 g2 w2 q2=>
      simp only[eqK,aq]at e;subst e;exact ZhC I h e0 rx ry rv rw' (.list_tuple g1 g2 hu) (.list_tuple g1 g2 hu)
     |non=>simp only[eqK,aq]at e;subst e;exact⟨.list_none g1 hu,.list_none g1 hu,.list_none g1 hu⟩
     |bl c=>simp only[eqK,aq]at e;subst e;exact⟨.list_bool _ g1 hu,.list_bool _ g1 hu,.list_bool _ g1 hu⟩
     |int c t=>simp only[eqK,aq]at e;subst e;exact⟨.list_int _ _ g1 hu,.list_int _ _ g1 hu,.list_int _ _ g1 hu⟩
     |str c t=>simp only[eqK,aq]at e;subst e;exact⟨.list_str _ _ g1 hu,.list_str _ _ g1 hu,.list_str _ _ g1 hu⟩
end
section
def ZrO(X:Cx)(neg:Bool):R2:=λv w H Q=>∃α M x y b,HR X.K H α M/\Rep X.K H α v x/\Rep X.K H α w y/\eqF 12 M x y=some b/\Q (.bl (neg ^^ b)) H
theorem Zba(hu:X.A.units+64<jd):OpR X (eH .Eq) (ZrO X false):=by
 intro pins s σ H v w u z Q I rv rw' hz;obtain⟨α,M,x,y,b,h,rx,ry,e,q⟩:=hz;refine(eq3 I h 12 x y v w u z b X.A ⋯ e rx ry rv rw').2.1 _ _ _ _ ⟨.bl b,H,I,rfl,?_⟩
 simpa using q
theorem Zdo(hu:X.A.units+64<jd):OpR X (eH .NotEq) (ZrO X true):=by
 intro pins s σ H v w u z Q I rv rw' hz;obtain⟨α,M,x,y,b,h,rx,ry,e,q⟩:=hz;refine(eq3 I h 12 x y v w u z b X.A ⋯ e rx ry rv rw').2.2 _ _ _ _ ⟨.bl (!b),H,I,rfl,?_⟩
 simpa using q
def dEq:Bo:=λx y M=>match eqF 12 M x y with|some b=>.ok (.bl b) M|none=>.bad
def dNe:Bo:=λx y M=>match eqF 12 M x y with|some b=>.ok (.bl (!b)) M|none=>.bad
theorem ZcP:BO X ξ (ZrO X false) dEq:=by
 intro H α M v w x y Q h rv rw' q;unfold dEq at q;cases e:eqF 12 M x y with
 |none=>rw[e]at q;exact q.elim
 |some b=>rw[e]at q;exact⟨α,M,x,y,b,h,rv,rw',e,by simpa using q _ H α Ext.refl h (.bl b)⟩
theorem ZgM:BO X ξ (ZrO X true) dNe:=by
 intro H α M v w x y Q h rv rw' q;unfold dNe at q;cases e:eqF 12 M x y with
 |none=>rw[e]at q;exact q.elim
 |some b=>rw[e]at q;exact⟨α,M,x,y,b,h,rv,rw',e,by simpa using q _ H α Ext.refl h (.bl (!b))⟩
noncomputable def ZhD:V->Bool
 |.non=>true
 |.bl _=>true
 |_=>false
def rIs(neg:Bool):R2:=λv w H Q=>ZhD w=true/\Q (.bl (neg ^^ decide (v=w))) H
theorem ZfU(rv:ZZ v u)(rw':ZZ w z)(p:ZhD w=true):plainIs u z=true/\(u==z)=decide (v=w):=by
 cases w with
 |non=>
  cases rw';cases v with
  |non=>cases rv;exact⟨rfl,rfl⟩
  |bl b=>cases rv;exact⟨rfl,by rw[decide_eq_false (λz=>(nomatch z))];rfl⟩
  |int b=>obtain⟨t,rfl⟩:=rv;exact⟨rfl,by rw[decide_eq_false (λz=>(nomatch z))];rfl⟩
  |str b=>obtain⟨t,rfl⟩:=rv;exact⟨rfl,by rw[decide_eq_false (λz=>(nomatch z))];rfl⟩
  |byt b=>obtain⟨t,rfl⟩:=rv;exact⟨rfl,by rw[decide_eq_false (λz=>(nomatch z))];rfl⟩
  |flt b=>obtain⟨t,rfl⟩:=rv;exact⟨rfl,by rw[decide_eq_false (λz=>(nomatch z))];rfl⟩
  |ref b=>cases rv;exact⟨rfl,by rw[decide_eq_false (λz=>(nomatch z))];rfl⟩
  |ty b=>cases rv;exact⟨rfl,by rw[decide_eq_false (λz=>(nomatch z))];rfl⟩
 |bl c=>
  cases rw';cases v with
  |non=>cases rv;exact⟨rfl,by rw[decide_eq_false (λz=>(nomatch z))];rfl⟩
  |bl b=>cases rv;refine⟨rfl,?_⟩;cases b<;>cases c<;>rfl
  |int b=>obtain⟨t,rfl⟩:=rv;exact⟨rfl,by rw[decide_eq_false (λz=>(nomatch z))];rfl⟩
  |str b=>obtain⟨t,rfl⟩:=rv;exact⟨rfl,by rw[decide_eq_false (λz=>(nomatch z))];rfl⟩
  |byt b=>obtain⟨t,rfl⟩:=rv;exact⟨rfl,by rw[decide_eq_false (λz=>(nomatch z))];rfl⟩
  |flt b=>obtain⟨t,rfl⟩:=rv;exact⟨rfl,by rw[decide_eq_false (λz=>(nomatch z))];rfl⟩
  |ref b=>cases rv;exact⟨rfl,by rw[decide_eq_false (λz=>(nomatch z))];rfl⟩
  |ty b=>cases rv;exact⟨rfl,by rw[decide_eq_false (λz=>(nomatch z))];rfl⟩
 |_=>cases p
theorem ZfV:OpR X (eH .Is) (rIs false):=by
 intro pins s σ H v w u z Q I rv rw' hz;obtain⟨p,q⟩:=hz;obtain⟨h1,h2⟩:=ZfU rv rw' p;refine wpAny_is_plain h1 ⟨.bl (u==z),H,I,rfl,?_⟩;rw[h2]
 simpa using q
theorem ZhE:OpR X (eH .IsNot) (rIs true):=by
 intro pins s σ H v w u z Q I rv rw' hz;obtain⟨p,q⟩:=hz;obtain⟨h1,h2⟩:=ZfU rv rw' p;refine wpAny_isNot_plain h1 ⟨.bl (!(u==z)),H,I,rfl,?_⟩;rw[h2]
 simpa using q
noncomputable def isP:D->D->Option Bool
 |.non,.non=>some true
 |.bl a,.bl b=>some (a==b)
 |_,.non=>some false
 |_,.bl _=>some false
 |_,_=>none
def dIs:Bo:=λx y M=>match isP x y with|some b=>.ok (.bl b) M|none=>.bad
def dIsNot:Bo:=λx y M=>match isP x y with|some b=>.ok (.bl (!b)) M|none=>.bad
theorem Zk6{K:Fg}(rv:Rep K H α v x)(rw':Rep K H α w y)(e:isP x y=some b):ZhD w=true/\decide (v=w)=b:=by
 unfold isP at e
 split at e
 .cases rv;cases rw';cases e;exact⟨rfl,rfl⟩
 .rename_i c d;cases rv;cases rw';cases e;refine⟨rfl,?_⟩;cases c<;>cases d<;>rfl
 .rename_i hx;cases rw';cases e;refine⟨rfl,decide_eq_false λz=>?_⟩;subst z;cases rv;exact hx rfl
 .rename_i c hx;cases rw';cases e;refine⟨rfl,decide_eq_false λz=>?_⟩;subst z;cases rv;exact hx _ rfl
 .cases e
theorem Zj0:BO X ξ (rIs false) dIs:=by
 intro H α M v w x y Q h rv rw' q;unfold dIs at q;cases e:isP x y with
 |none=>rw[e]at q;exact q.elim
 |some b=>
  rw[e]at q;obtain⟨p,d⟩:=Zk6 rv rw' e;exact⟨p,by rw[d];simpa using q _ H α Ext.refl h (.bl b)⟩
theorem Zj1:BO X ξ (rIs true) dIsNot:=by
 intro H α M v w x y Q h rv rw' q;unfold dIsNot at q;cases e:isP x y with
 |none=>rw[e]at q;exact q.elim
 |some b=>
  rw[e]at q;obtain⟨p,d⟩:=Zk6 rv rw' e;exact⟨p,by rw[d];simpa using q _ H α Ext.refl h (.bl (!b))⟩
noncomputable def Zo8:D->Bool
 |.non=>true
 |.bl _=>true
 |.int _=>true
 |.str _=>true
 |_=>false
noncomputable def Zvz:D->D->Bool
 |.non,.non=>true
 |.bl a,.bl b=>a==b
 |.bl a,.int b=>(if a then 1 else 0)==b
 |.int a,.bl b=>a==(if b then 1 else 0)
 |.int a,.int b=>a==b
 |.str a,.str b=>a==b
 |_,_=>false
noncomputable def ZgN(M:Sto):D->Option (List D)
 |.tup xs=>some xs
 |.rol xs=>some xs
 |.ref n=>match M[n]? with|some (.lst xs)=>some xs|_=>none
 |_=>none
theorem ZhF{K:Fg}(h:HR K H α M)(r:Rep K H α v x)(e:ZgN M x=some ds):∃p xs,v=.ref p/\(SqL K H p xs\/SqT K H p xs)/\Reps K H α xs ds:=by
 cases r with
 |@tup p xs ds hp rp=>cases e;exact⟨p,xs,rfl,.inr (SqT.of hp),rp⟩
 |@rol p xs ds hp rp=>cases e;exact⟨p,xs,rfl,.inl hp.sq,rp⟩
 |@ref p n hp=>
  cases e1:M[n]? with
  |none=>simp only[ZgN,e1]at e;cases e
  |some o=>
   cases o with
   |lst es=>
    simp only[ZgN,e1]at e;cases e;obtain⟨xs,g1,r1⟩:=h.at hp e1;exact⟨p,xs,rfl,.inl (SqL.of g1),r1⟩
 |_=>cases e
def inD(x y:D)(M:Sto):Option Bool:=match ZgN M y with|some ds=>if Zo8 x=true/\ds.all Zo8=true then some (ds.any λy=>Zvz y x)else none|none=>none
variable {es:List Expr}{x:Str}{id T:String}
def Zj(f:W3)(fs:Av):Ev:=λρ M=>(fs ρ M).bind f
def CO(X:Cx)(ξ:XK)(r:List V->Hp->VK->Prop)(f:W3):Prop:=∀H α M vs ds Q,HR X.K H α M->Reps X.K H α vs ds->OP X.K H α ξ Q (f ds M)->r vs H Q
theorem Zu(hc:Zbt X (.builtin id) r)(hf:CO X ξ r f)(hm:X.mg x=none)(hv:bL x=some (.builtin id))(ha:DA X ξ (e::es) fs)(hg:autoParam (Gl X x) Qrf._auto_1)(hn:autoParam (x≠"__name__") Qde._auto_1)(hdb:autoParam ((x==("__debug__":Str))=false) Qde._auto_1)
  (he:av (e::es) X.env=(false,eval e X.env)::av es X.env:=by rfl) (hpl:(cR pos (av es X.env)).any (·.1)=false:=by rfl):DE X ξ (.Call (.Name x p) (e::es) [] pos) (Zj f fs):=by
 obtain⟨ta,ha,qa⟩:=ha;refine⟨_,ZfM hc hg hm hv ha hn hdb he hpl,λσ ρ H α M Q s h q=>?_⟩;exact qa σ ρ H α M _ s h (OG.seq q λds M1 vs H1 α1 e1 h1 r1 q1=>hf H1 α1 M1 vs ds Q h1 r1 q1)
theorem Z1(hc:Zbt X (.type T) r)(hf:CO X ξ r f)(hm:X.mg x=none)(hv:bL x=some (.type T))(ha:DA X ξ (e::es) fs)(hg:autoParam (Gl X x) Qrf._auto_1)(hn:autoParam (x≠"__name__") Qde._auto_1)(hdb:autoParam ((x==("__debug__":Str))=false) Qde._auto_1)
  (he:av (e::es) X.env=(false,eval e X.env)::av es X.env:=by rfl) (hpl:(cR pos (av es X.env)).any (·.1)=false:=by rfl):DE X ξ (.Call (.Name x p) (e::es) [] pos) (Zj f fs):=by
 obtain⟨ta,ha,qa⟩:=ha;refine⟨_,Zhl hc hg hm hv ha hn hdb he hpl,λσ ρ H α M Q s h q=>?_⟩;exact qa σ ρ H α M _ s h (OG.seq q λds M1 vs H1 α1 e1 h1 r1 q1=>hf H1 α1 M1 vs ds Q h1 r1 q1)
def bLen:W3:=λds M=>match ds with
 |[x]=>match ZgN M x with|some xs=>.ok (.int xs.length) M|none=>.bad
 |_=>.bad
theorem Zam:CO X ξ (λxs H Q=>∃p ys,xs=[.ref p]/\(SqL X.K H p ys\/SqT X.K H p ys)/\Q (.int ys.length) H) bLen:=by
 intro H α M vs ds Q h rs q;unfold bLen at q;cases rs with
 |nil=>exact q.elim
 |@cons v x vs ds r t=>
  cases t with
  |cons _ _=>exact q.elim
  |nil=>
  cases e:ZgN M x with
  |none=>simp only[e]at q;exact q.elim
  |some ys=>
   simp only[e]at q;obtain⟨p,xs,rfl,h2,h3⟩:=ZhF h r e;exact⟨p,xs,rfl,h2,by rw[h3.length];exact q _ H α Ext.refl h (.int _)⟩
noncomputable def bAbs:W3:=λds M=>match ds with|[.int i]=>.ok (.int (if i<0 then -i else i)) M|_=>.bad
theorem ZcQ:CO X ξ (λxs H Q=>∃i,xs=[.int i]/\Q (.int (if i<0 then -i else i)) H) bAbs:=by
 intro H α M vs ds Q h rs q;unfold bAbs at q
 split at q
 .cases rs with
  |cons r t=>
   cases t;cases r;exact⟨_,rfl,q _ H α Ext.refl h (.int _)⟩
 .exact q.elim
noncomputable def bMax:W3:=λds M=>match ds with|[.int i,.int j]=>.ok (.int (if j>i then j else i)) M|_=>.bad
noncomputable def bMin:W3:=λds M=>match ds with|[.int i,.int j]=>.ok (.int (if j<i then j else i)) M|_=>.bad
theorem Zk7{g:Int->Int->Int}(hf:∀ds M,f ds M=match ds with|[.int i,.int j]=>.ok (.int (g i j)) M|_=>.bad):CO X ξ (λxs H Q=>∃i j,xs=[.int i,.int j]/\Q (.int (g i j)) H) f:=by
 intro H α M vs ds Q h rs q;rw[hf]at q
 split at q
 .rename_i i j;cases rs with
  |cons r t=>
   cases t with
   |cons r' t'=>
    cases t';cases r;cases r';exact⟨i,j,rfl,q _ H α Ext.refl h (.int _)⟩
 .exact q.elim
theorem Zk8:CO X ξ (λxs H Q=>∃i j,xs=[.int i,.int j]/\Q (.int (if j>i then j else i)) H) bMax:=Zk7 (g:=λi j=>if j>i then j else i) λds M=>rfl
theorem Zo9:CO X ξ (λxs H Q=>∃i j,xs=[.int i,.int j]/\Q (.int (if j<i then j else i)) H) bMin:=Zk7 (g:=λi j=>if j<i then j else i) λds M=>rfl
noncomputable def bInt:W3:=λds M=>match ds with|[.int i]=>.ok (.int i) M|[.bl k]=>.ok (.int (if k then 1 else 0)) M|_=>.bad
theorem Zci:CO X ξ (λxs H Q=>(∃i,xs=[.int i]/\Q (.int i) H)\/∃k,xs=[.bl k]/\Q (.int (if k then 1 else 0)) H) bInt:=by
 intro H α M vs ds Q h rs q;unfold bInt at q
 split at q
 .cases rs with
  |cons r t=>
   cases t;cases r;exact .inl ⟨_,rfl,q _ H α Ext.refl h (.int _)⟩
 .cases rs with
  |cons r t=>
   cases t;cases r;exact .inr ⟨_,rfl,q _ H α Ext.refl h (.int _)⟩
 .exact q.elim
def bList:W3:=λds M=>match ds with
 |[x]=>match ZgN M x with|some xs=>.ok (.ref M.length) (M++[.lst xs])|none=>.bad
 |_=>.bad
theorem ZhG:CO X ξ (λxs H Q=>∃p ys,xs=[.ref p]/\(SqL X.K H p ys\/SqT X.K H p ys)/\∀l,H l=none->Q (.ref l) (upd H l (.lst ys))) bList:=by
 intro H α M vs ds Q h rs q;unfold bList at q;cases rs with
 |nil=>exact q.elim
 |@cons v x vs ds r t=>
  cases t with
  |cons _ _=>exact q.elim
  |nil=>
  cases e:ZgN M x with
  |none=>simp only[e]at q;exact q.elim
  |some ys=>
   simp only[e]at q;obtain⟨p,xs,rfl,h2,h3⟩:=ZhF h r e;exact⟨p,xs,rfl,h2,λl hl=>q _ _ (α++[l]) (Ext.new hl) (h.new hl h3) (.ref ⟨h.last l,Kn.lst ZB⟩)⟩
def ZaB(M:Sto)(x:D):Option String:=match kd M x with
 |some .non=>some "NoneType"
 |some (.bl _)=>some "bool"
 |some (.int _)=>some "int"
 |some (.str _)=>some "str"
 |some (.tup _)=>some "tuple"
 |some (.lst _)=>some "list"
 |none=>none
noncomputable def Zcs(t T:String):Bool:=t==T||(t=="bool"&&T=="int")
def ZmA(T:String)(f:Ev):Ev:=λρ M=>(f ρ M).bind λx M1=>match ZaB M1 x with|some t=>.ok (.bl (Zcs t T)) M1|none=>.bad
def ZvA(X:Cx)(T:String):List V->Hp->VK->Prop:=λvs H Q=>∃v α M x t,vs=[v,.ty T]/\HR X.K H α M/\Rep X.K H α v x/\ZaB M x=some t/\Q (.bl (Zcs t T)) H
structure Kit(K:Fg) (T:String):Prop where
 non:PySem.W.kitOne K (.type "NoneType") (.type T)=some (Zcs "NoneType" T)
 bl:PySem.W.kitOne K (.type "bool") (.type T)=some (Zcs "bool" T)
 int:PySem.W.kitOne K (.type "int") (.type T)=some (Zcs "int" T)
 str:PySem.W.kitOne K (.type "str") (.type T)=some (Zcs "str" T)
 tup:PySem.W.kitOne K (.type "tuple") (.type T)=some (Zcs "tuple" T)
 lst:PySem.W.kitOne K (.type "list") (.type T)=some (Zcs "list" T)
theorem ZmB{K:Fg}:Kit K "int":=⟨rfl,rfl,rfl,rfl,rfl,rfl⟩
theorem Zj2{K:Fg}:Kit K "bool":=⟨rfl,rfl,rfl,rfl,rfl,rfl⟩
theorem Zj3{K:Fg}:Kit K "list":=⟨rfl,rfl,rfl,rfl,rfl,rfl⟩
theorem Zj4(kt:Kit X.K T):Zbt X (.builtin "isinstance") (ZvA X T):=by
 intro pins s σ H vs us Q I rs hz;obtain⟨v,α,M,x,t,e1,h,rx,et,q⟩:=hz;subst e1;obtain⟨u,w,rfl,ru,rw'⟩:=ZjN rs;cases rw';unfold ZaB at et;cases ek:kd M x with
 |none=>rw[ek]at et;cases et
 |some k=>
  rw[ek]at et;have va:=vw I h rx ru ek;have fin:∀tk,EP X pins σ Q (.bool (Zcs t T)) {s with toks:=tk}:=λtk=>⟨.bl _,H,I.tok tk,rfl,q⟩;cases va with
  |non=>cases et;exact PySem.W.kia_one PySem.W.kitx_none I.kIn eZ kt.non (λz=>nomatch z) fin
  |bl b=>cases et;exact PySem.W.kia_one PySem.W.kitx_bool I.kIn eZ kt.bl (λz=>nomatch z) fin
  |int i t=>cases et;exact PySem.W.kia_one PySem.W.kitx_int I.kIn eZ kt.int (λz=>nomatch z) fin
  |str i t=>cases et;exact PySem.W.kia_one PySem.W.kitx_str I.kIn eZ kt.str (λz=>nomatch z) fin
  |tup g _ _=>cases et;obtain⟨o,h1,h2,_⟩:=g;exact PySem.W.kia_one PySem.W.kitx_tuple I.kIn ⟨o,h1,h2⟩ kt.tup (λz=>nomatch z) fin
  |lst g _ _=>cases et;obtain⟨o,h1,h2,_⟩:=g;exact PySem.W.kia_one PySem.W.kitx_list I.kIn ⟨o,h1,h2⟩ kt.lst (λz=>nomatch z) fin
theorem ZhH(kt:Kit X.K T)(hm:X.mg "isinstance"=none)(hmT:X.mg y=none)(hvT:bL y=some (.type T))(ha:DE X ξ e fa)(hg:autoParam (Gl X "isinstance") Qrf._auto_1)(hgT:autoParam (Gl X y) Qrf._auto_1)(hn:autoParam (y≠"__name__") Qde._auto_1)(hdb:autoParam ((y==("__debug__":Str))=false) Qde._auto_1)(he:autoParam (av [e,.Name y p2] X.env=(false,eval e X.env)::av [.Name y p2] X.env) Qrf._auto_1)(he2:autoParam (av [.Name y p2] X.env=(false,eval (.Name y p2) X.env)::av [] X.env) Qrf._auto_1)(hpl:autoParam ((cR pos (av [.Name y p2] X.env)).any (·.1)=false) Qrf._auto_1):DE X ξ (.Call (.Name "isinstance" p) [e,.Name y p2] [] pos) (ZmA T fa):=by
 obtain⟨ta,ha,qa⟩:=ha;refine⟨_,ZfM (Zj4 kt) hg hm (by with_unfolding_all rfl) (Ze2 ha (Ze2 (Zl8 hgT hmT hvT (v:=.ty T) rfl hn hdb) Zk2 he2) he) (by decide) (by decide) he hpl,λσ ρ H α M Q s h q=>?_⟩
 refine qa σ ρ H α M _ s h (OG.seq q λx M1 v H1 α1 e1 h1 r1 q1=>?_);cases et:ZaB M1 x with
 |none=>simp only[et]at q1;exact q1.elim
 |some t=>
  simp only[et]at q1;exact⟨v,α1,M1,x,t,rfl,h1,r1,et,q1 _ H1 α1 Ext.refl h1 (.bl _)⟩
end
end DL
namespace DL
open PyProof.Rows L2
def CXE(P:cE)(w:c6):CXT:=λouter H s E e s'=>∃(ea C:Addr) (dct:Option Addr) (B:Heap) (H':Hp),e=.ref ea/\s'.os=s.os/\iN s'.gens/\Un (frs outer) [] H H' s.heap s'.heap/\HOk P w H' s'.heap/\
 DQ.Fly B outer ea (.ref C) dct .none s'.heap/\(∀b u,H' b=some u->∃o,B.get? b=some o)/\(∀b o,s.heap.get? b=some o->b∉frs outer->∃o',B.get? b=some o')/\E (.ref C) dct H'
structure Thr(X:Cx) (ξ:XK):Prop where
 own:fQ (ao X.prog X.w) X.A X.env X.xe
 ps:Zhj (CXE X.prog X.w) X ξ
 mak:∀(pins:Pn)(σ:L2.St)(H H':Hp)(s s':aC)(e:Addr)(oe:Obj)(vs:Array ae)(C:Addr),Inv X pins σ H s->s'.os=s.os->iN s'.gens->Un (frs X.stack) [] H H' s.heap s'.heap->HOk X.prog X.w H' s'.heap->s.heap.get? e=none->s'.heap.get? e=some oe->oe.cls=.ref C->
  oe.data=.fields vs->vs[1]?=some .none->vs[2]?=some .none->H' e=none->ξ (.ref C) oe.dict H'->X.xe (.ref e) s'
theorem Zeq{h b1 b2:Heap}:∀{l:List Env},h.FunFrames b1 l->(∀b∈frs l,b2.get? b=none)->h.FunFrames b2 l
 |[],_,_=>trivial
 |env::r,⟨h1,⟨L,o,h2,h3,h4,h5⟩,h6⟩,k=>⟨h1,⟨L,o,h2,k L (by unfold frs;rw[dN,h2];exact bT),h4,h5⟩,Zeq h6 λb hb=>k b (by
   unfold frs;rw[dN,h2];exact aF _ hb)⟩
section
variable {σ:L2.St}{B:Heap}
theorem Zk9(hx:X.ex=[])(I:Inv X pins σ H s)(u:Un (frs X.stack) [] H H' s.heap h1)(hok:HOk X.prog X.w H' h1)(t1:∀b q,H' b=some q->∃o,B.get? b=some o)(t2:∀b o,s.heap.get? b=some o->b∉frs X.stack->∃o',B.get? b=some o')(st1:B.StaysIn h1)(st2:B.StaysIn h2)(up:h1.UpToSlots h2):Un X.fs [] X.H₀ H' X.s₀.heap h2/\HOk X.prog X.w H' h2/\∀b o,X.s₀.heap.get? b=some o->b∉X.fs->∃o',B.get? b=some o':=by
 have kB:∀b ob o,B.get? b=some ob->h1.get? b=some o->h2.get? b=some o:=λb ob o e x=>by
  have z:=st1 b ob e;rw[x]at z;cases z;exact st2 b _ e
 have nx:∀b,b∉X.ex:=λb=>by rw[hx];simp
 have nL:∀b o,X.s₀.heap.get? b=some o->b∉X.fs->b∉frs X.stack:=λb o e n z=>by
  rcases ay.mp (I.stkSub b z)with q|q
  .exact absurd (Hz e) (by rw[q];exact gG I.ok.above)
  .exact n q
 have th:∀b o,X.s₀.heap.get? b=some o->b∉X.fs->∃o',B.get? b=some o':=λb o e n=>by
  obtain⟨o',e'⟩:=I.base.there b o e (nx b);exact t2 b o' e' (nL b o e n)
 have sl:∀b o,X.s₀.heap.get? b=some o->X.H₀ b=none->b∈X.fs->∃sl,h2.get? b=some {o with slots:=sl}:=λb o e n hb=>by
  obtain⟨s1,e1⟩:=I.base.slot b o e n hb (nx b);obtain⟨s2,e2⟩:=u.any e1 (I.base.free b o e n (nx b)) (by simp)
  obtain⟨_,o',g1,g2⟩:=I.ok.funs.mem hb;rw[e]at g1;cases g1;obtain⟨s3,e3⟩:=up b _ e2 g2;exact⟨s3,e3⟩
 refine⟨⟨λb o e n hb _=>?_,λb o e n hb _=>sl b o e n hb,λb o e n _=>?_,λb o e _=>?_,λb xs e=>u.tups b xs (I.base.tups b xs e),λb o xs e=>u.frzs b o xs (I.base.frzs b o xs e),λb ps e=>?_⟩,λa o e=>?_,th⟩
 .obtain⟨ob,g⟩:=th b o e hb;exact kB b ob o g (u.keep b o (I.base.keep b o e n hb (nx b)) (I.base.free b o e n (nx b)) (nL b o e hb) (by simp))
 .obtain⟨o',e'⟩:=I.base.there b o e (nx b);exact u.free b o' e' (I.base.free b o e n (nx b)) (by simp)
 .by_cases hb:b∈X.fs
  .obtain⟨s1,e1⟩:=sl b o e (I.ok.frf b hb) hb;exact⟨_,e1⟩
  .obtain⟨ob,g⟩:=th b o e hb;exact⟨ob,st2 b ob g⟩
 .obtain⟨m1,e1⟩:=I.base.tbls b ps e;obtain⟨m2,e2⟩:=u.tbls b _ e1;exact⟨m1++m2,by rw[e2,jj]⟩
 .refine(hok a o e).stay (λb q hb x=>?_) (λ_ q=>q) λ_ _ q=>q;have tr:∃q,H' b=some q:=by
   rcases hb with z|z
   .exact⟨o,z▸e⟩
   .exact⟨_,z⟩
  obtain⟨q',z⟩:=tr;obtain⟨ob,g⟩:=t1 b q' z;exact kB b ob q g x
end
theorem ZfW(x:ZaN P w H h a o):∃ob,h.get? a=some ob:=by
 cases o with
 |lst xs=>obtain⟨_,_,_,_,e⟩:=x;exact⟨_,e⟩
 |tup xs=>obtain⟨_,_,_,ob,e,_⟩:=x;exact⟨_,e⟩
 |dU kvs=>obtain⟨_,_,_,_,o,_,_,e,_⟩:=x;exact⟨_,e⟩
 |own y=>exact x
 |frz ob u=>obtain⟨e,_⟩:=x;exact⟨_,e⟩
 |tbl ps=>exact⟨_,x.1⟩
 |ext φ=>obtain⟨_,e,_⟩:=x;exact e
def Zj5(h:Heap)(l:List Addr):Heap:=Zjz h λb=>if b∈l then some (.own 0)else none
theorem ZfX(e:h.get? b=some o)(n:b∉l):(Zj5 h l).get? b=some o:=ZfG e (if_neg n)
theorem ZhI(e:(Zj5 h l).get? b=some o):h.get? b=some o/\b∉l:=by
 obtain⟨a,n⟩:=Zhd e;refine⟨a,λz=>?_⟩;simp only[if_pos z]at n;cases n
theorem Zer(n:b∈l):(Zj5 h l).get? b=none:=by
 cases q:(Zj5 h l).get? b with
 |none=>rfl
 |some o=>exact absurd n (ZhI q).2
theorem Zes{h h' b1:Heap}:∀{l:List Env},h.FunFrames b1 l->(∀b o,b∈frs l->h.get? b=some o->∃o',h'.get? b=some o'/\o'.data=o.data)->h'.FunFrames b1 l
 |[],_,_=>trivial
 |env::r,⟨h1,⟨L,o,h2,h3,h4,h5⟩,h6⟩,k=>by
  have m:frs (env::r)=L::frs r:=by unfold frs;rw[dN,h2]
  obtain⟨o',g1,g2⟩:=k L o (by rw[m];exact bT) h4
  exact⟨h1,⟨L,o',h2,h3,g1,λvs=>g2▸h5 vs⟩,Zes h6 λb o hb=>k b o (by rw[m];exact aF _ hb)⟩
theorem ZhJ{s':aC}(I:Inv X pins σ H s)(un:Un (frs X.stack) [] H H' s.heap s'.heap)(hok:HOk X.prog X.w H' s'.heap)(hn:s.heap.get? e=none)(he:s'.heap.get? e=some oe)(hne:H' e=none):(∀b u,H' b=some u->∃o,(Zj5 s'.heap (e::frs X.stack)).get? b=some o)/\(∀b o,s.heap.get? b=some o->b∉frs X.stack->∃o',(Zj5 s'.heap (e::frs X.stack)).get? b=some o')/\(Zj5 s'.heap (e::frs X.stack)).StaysIn s'.heap/\s'.heap.FunFrames (Zj5 s'.heap (e::frs X.stack)) X.stack/\(Zj5 s'.heap (e::frs X.stack)).get? e=none:=by
 have nfr:∀b∈frs X.stack,H' b=none:=λb hb=>by
  obtain⟨_,o',g1,g2⟩:=I.stack.mem hb;exact un.free b o' g1 (I.stkFree b hb) (by simp)
 refine⟨λb u x=>?_,λb o x n=>?_,λb o x=>(ZhI x).1,Zes (Zeq I.stack λb hb=>Zer (aF _ hb)) λb o hb x=>?_,Zer (by simp)⟩
 .obtain⟨o,g⟩:=ZfW (hok b u x);refine⟨o,ZfX g λz=>?_⟩;rcases ay.mp z with z|z
  .rw[z,hne]at x;cases x
  .rw[nfr b z]at x;cases x
 .obtain⟨o',g⟩:=un.there b o x (by simp)
  refine⟨o',ZfX g λz=>?_⟩;rcases ay.mp z with z|z
  .rw[z,hn]at x;cases x
  .exact n z
 .obtain⟨sl,g⟩:=un.any x (I.stkFree b hb) (by simp)
  exact⟨_,g,rfl⟩
theorem Zla{K:Fg}:Thr (Ze4 (CXE P w) P w K mg base N qual scope f cd A outer s H E) E:=by
 refine⟨fQ.leaving,λpins σ H1 s1 e s2 I h=>?_,λpins σ H1 H' s1 s' e oe vs C I os bare un hok hn he hc hd v1 v2 hne q=>?_⟩
 .obtain⟨ea,C,dct,B,H2,rfl,os,bare,un,hok,fl,t1,t2,q⟩:=h;refine DQ.Zhv (outer:=outer) I.ok.frames rfl fl λh3 f3 up=>?_;obtain⟨a1,a2,a3⟩:=Zk9 rfl I un hok t1 t2 fl.stay f3.stay up;exact⟨ea,C,dct,B,H2,rfl,os.trans I.os,bare,a1,a2,f3,t1,a3,q⟩
 .obtain⟨t1,t2,hs,hl,hb⟩:=ZhJ I un hok hn he hne;refine DQ.Zhw (s:=s') (outer:=outer) I.ok.frames rfl hl he hs hb hd v1 v2 λh3 f3 up=>?_;obtain⟨a1,a2,a3⟩:=Zk9 rfl I un hok t1 t2 hs f3.stay up;rw[hc]at f3;exact⟨e,C,oe.dict,_,H',rfl,os.trans I.os,bare,a1,a2,f3,t1,a3,q⟩
def FP(K:Fg)(H:Hp)(α:List Addr)(ξ:XK)(Dn:Ends):Fl->Prop
 |.nx ρ' M'=>∀σ' H' α',Ext K H H' α α'->HR K H' α' M'->SR K H' α' σ' ρ'->Dn.nx σ' H'
 |.brk ρ' M'=>∀σ' H' α',Ext K H H' α α'->HR K H' α' M'->SR K H' α' σ' ρ'->Dn.bk σ' H'
 |.cnt ρ' M'=>∀σ' H' α',Ext K H H' α α'->HR K H' α' M'->SR K H' α' σ' ρ'->Dn.ct σ' H'
 |.ret d M'=>∀v H' α',Ext K H H' α α'->HR K H' α' M'->Rep K H' α' v d->Dn.rt v H'
 |.exc c M'=>∀C H' α',PySem.W.nsIn K aR c=some (some (.ref C))->Ext K H H' α α'->∀dct,XO K H' α' c M' dct->ξ (.ref C) dct H'
 |.bad=>False
theorem FP.ext{K:Fg}(h:FP K H α ξ Dn o)(e:Ext K H H1 α α1):FP K H1 α1 ξ Dn o:=by
 cases o with
 |nx ρ M=>exact λσ' H' α' e'=>h σ' H' α' (e.trans e')
 |brk ρ M=>exact λσ' H' α' e'=>h σ' H' α' (e.trans e')
 |cnt ρ M=>exact λσ' H' α' e'=>h σ' H' α' (e.trans e')
 |ret d M=>exact λv H' α' e'=>h v H' α' (e.trans e')
 |exc c M=>exact λC H' α' n e'=>h C H' α' n (e.trans e')
 |bad=>exact h
def DS(X:Cx)(ξ:XK)(st:Stmt)(g:Sv):Prop:=∃t:TS,PS X st t/\∀σ ρ H α M Dn,SR X.K H α σ ρ->HR X.K H α M->FP X.K H α ξ Dn (g ρ M)->t Dn σ H
def DSs(X:Cx)(ξ:XK)(st:List Stmt)(g:Sv):Prop:=∃t:TS,PSs X st t/\∀σ ρ H α M Dn,SR X.K H α σ ρ->HR X.K H α M->FP X.K H α ξ Dn (g ρ M)->t Dn σ H
noncomputable def Zas(o:Out β)(k:β->Sto->Fl):Fl:=match o with
 |.ok a M=>k a M
 |.exc c M=>.exc c M
 |.bad=>.bad
theorem FP.seq{K:Fg}{R:Hp->List Addr->γ->β->Prop}{Q1:γ->Hp->Prop}{o:Out β}{f:β->Sto->Fl}(h:FP K H α ξ Dn (Zas o f))(k:∀d M' v H' α',Ext K H H' α α'->HR K H' α' M'->R H' α' v d->FP K H' α' ξ Dn (f d M')->Q1 v H'):OG K R H α ξ Q1 o:=by
 cases o with
 |ok d M'=>exact λv H' α' e hr r=>k d M' v H' α' e hr r (FP.ext (o:=f d M') h e)
 |exc c M'=>exact h
 |bad=>exact h
noncomputable def ZD(g h:Sv):Sv:=λρ M=>match g ρ M with
 |.nx ρ1 M1=>h ρ1 M1
 |o=>o
noncomputable def sNil:Sv:=λρ M=>.nx ρ M
def Zai(f:Ev):Sv:=λρ M=>Zas (f ρ M) λd M1=>.ret d M1
noncomputable def Zpa:Sv:=λ_ M=>.ret .non M
def Zct(f:Ev):Sv:=λρ M=>Zas (f ρ M) λ_ M1=>.nx ρ M1
def sIf(c:Tv)(g h:Sv):Sv:=λρ M=>Zas (c ρ M) λk M1=>if k=true then g ρ M1 else h ρ M1
noncomputable def sBrk:Sv:=λρ M=>.brk ρ M
abbrev Tg:=D->Ro->Option Ro
abbrev Tgs:=List D->Ro->Option Ro
noncomputable def gNm(i:Nat):Tg:=λd ρ=>some (ρ.set i (some d))
noncomputable def gNl:Tgs:=λds ρ=>match ds with|[]=>some ρ|_=>none
noncomputable def gCs(g:Tg)(gs:Tgs):Tgs:=λds ρ=>match ds with|d::r=>(match g d ρ with|some ρ1=>gs r ρ1|none=>none)|[]=>none
noncomputable def gTp(gs:Tgs):Tg:=λd ρ=>match d with|.tup ds=>gs ds ρ|_=>none
def ZK(g:Tg)(f:Ev):Sv:=λρ M=>Zas (f ρ M) λd M1=>match g d ρ with|some ρ1=>.nx ρ1 M1|none=>.bad
def Zdi(i j:Nat)(fs:Av):Sv:=λρ M=>Zas (fs ρ M) λds M1=>match ds with|[v,w]=>.nx ((ρ.set i (some v)).set j (some w)) M1|_=>.bad
def ZmC(fo fi fe:Ev):Sv:=λρ M=>Zas (fe ρ M) λd M1=>Zas (fo ρ M1) λo M2=>Zas (fi ρ M2) λi M3=>match o,i with
 |.ref n,.int k=>(match M3[n]? with
  |some (.lst xs)=>(match ixN xs.length k with|some j=>.nx ρ (M3.set n (.lst (xs.set j d)))|none=>.bad)
  |_=>.bad)
 |_,_=>.bad
section
variable {X:Cx}{ξ:XK}{st:Stmt}{g:Sv}{e:Expr}{f:Ev}{c:Expr}
theorem ZI:DSs X ξ [] sNil:=⟨_,Zl9,λσ ρ H α M Dn s h q=>q σ H α Ext.refl h s⟩
theorem Zg(h1:DS X ξ st g)(h2:DSs X ξ sts h):DSs X ξ (st::sts) (ZD g h):=by
 obtain⟨t1,p1,q1⟩:=h1;obtain⟨t2,p2,q2⟩:=h2;refine⟨_,ZjH p1 p2,λσ ρ H α M Dn s hh q=>q1 σ ρ H α M {Dn with nx:=t2 Dn} s hh ?_⟩;unfold ZD at q;cases e:g ρ M with
 |nx ρ1 M1=>rw[e]at q;exact λσ' H' α' ex hr sr=>q2 σ' ρ1 H' α' M1 Dn sr hr (FP.ext q ex)
 |brk ρ1 M1=>rw[e]at q;exact q
 |cnt ρ1 M1=>rw[e]at q;exact q
 |ret d M1=>rw[e]at q;exact q
 |exc c M1=>rw[e]at q;exact q
 |bad=>rw[e]at q;exact q
theorem Zi(h1:DS X ξ st g):DSs X ξ [st] g:=let ⟨_,p,q⟩:=h1;⟨_,Zma p,q⟩
theorem ZC(he:DE X ξ e f):DS X ξ (.Return (some e) pos) (Zai f):=by
 obtain⟨t,p,q⟩:=he;exact⟨_,Zov p,λσ ρ H α M Dn s hh w=>q σ ρ H α M _ s hh (FP.seq w λd M1 v H1 α1 e1 h1 r1 w1=>w1 v H1 α1 Ext.refl h1 r1)⟩
theorem Zbb(he:DE X ξ e f)(hs:autoParam (ja e none pos.line X.env=pure false) Qrf._auto_1):DS X ξ (.Expr e pos) (Zct f):=by
 obtain⟨t,p,q⟩:=he;exact⟨_,Zmb p hs,λσ ρ H α M Dn s hh w=>q σ ρ H α M _ s hh (FP.seq w λd M1 v H1 α1 e1 h1 r1 w1=>w1 σ H1 α1 Ext.refl h1 (s.mono e1))⟩
theorem Z9(hc:DT X ξ c fc)(ha:DSs X ξ a g)(hb:DSs X ξ b h):DS X ξ (.If c a b pos) (sIf fc g h):=by
 obtain⟨tc,pc,qc⟩:=hc;obtain⟨ta,pa,qa⟩:=ha;obtain⟨tb,pb,qb⟩:=hb;refine⟨_,Zr1 pc pa pb,λσ ρ H α M Dn s hh w=>qc σ ρ H α M _ s hh (FP.seq w λk M1 v H1 α1 e1 h1 r1 w1=>?_)⟩;cases r1;cases k with
 |true=>exact Zn7 (qa σ ρ H1 α1 M1 Dn (s.mono e1) h1 w1)
 |false=>exact Zn6 (qb σ ρ H1 α1 M1 Dn (s.mono e1) h1 w1)
theorem Zpb:DS X ξ (.Break pos) sBrk:=⟨_,ZjI,λσ ρ H α M Dn s h q=>q σ H α Ext.refl h s⟩
def DG(X:Cx)(tg:Expr)(g:Tg):Prop:=∃t:TG,PG X tg t/\∀v d σ ρ H α ρ' Q,SR X.K H α σ ρ->Rep X.K H α v d->g d ρ=some ρ'->(∀σ',SR X.K H α σ' ρ'->Q σ' H)->t v σ H Q
def DGs(X:Cx)(tgs:List Expr)(g:Tgs):Prop:=∃t:TGs,PGs X tgs t/\∀vs ds σ ρ H α ρ' Q,SR X.K H α σ ρ->Reps X.K H α vs ds->g ds ρ=some ρ'->(∀σ',SR X.K H α σ' ρ'->Q σ' H)->t vs σ H Q
theorem Zl(i:Nat)(hN:X.N.Nodup)(hi:autoParam (X.N[i]?=some x) Qrf._auto_1)(hx:Loc X.env.scope x:=by first|exact dw rfl|exact lQ rfl)(hm:autoParam (X.may i=true) Qrf._auto_1)(hf:X.fn x=true\/X.env.scope.names.lookup x=some .local:=by first|exact .inl rfl|exact .inr rfl|assumption):DG X (.Name x pos) (gNm i):=by
 refine⟨_,Zmc hN hi hx hm hf,λv d σ ρ H α ρ' Q s r e k=>?_⟩;cases e;exact k _ (s.set i r)
theorem ZO:DGs X [] gNl:=by
 refine⟨_,Zmd,λvs ds σ ρ H α ρ' Q s r e k=>?_⟩;cases r with
 |nil=>cases e;exact⟨rfl,k _ s⟩
 |cons _ _=>cases e
theorem Zm{g:Tg}(h1:DG X e g)(h2:DGs X es gs)(hs:autoParam ((dq (e::es) X.env).map (·.2)=assign e X.env::(dq es X.env).map (·.2)) Qrf._auto_1):DGs X (e::es) (gCs g gs):=by
 obtain⟨t1,p1,q1⟩:=h1;obtain⟨t2,p2,q2⟩:=h2;refine⟨_,ZjJ p1 p2 hs,λvs ds σ ρ H α ρ' Q s r e k=>?_⟩;cases r with
 |nil=>cases e
 |cons r rr=>
  rename_i v d vs ds;cases e1:g d ρ with
  |none=>simp only[gCs,e1]at e;cases e
  |some ρ1=>
   simp only[gCs,e1]at e;exact⟨v,vs,rfl,q1 v d σ ρ H α ρ1 _ s r e1 λσ' s'=>q2 vs ds σ' ρ1 H α ρ' Q s' rr e k⟩
theorem Z5(hc:X.calm=true)(h:DGs X es gs)(hn:autoParam ((dq es X.env).length=n) Qrf._auto_1)(hlen:∀ds ρ ρ',gs ds ρ=some ρ'->ds.length=n)(hst:autoParam ((dq es X.env).findIdx? (·.1)=none) Qrf._auto_1):DG X (.Tuple es k pos) (gTp gs):=by
 obtain⟨t,p,q⟩:=h;refine⟨_,Zox hc p hn hst,λv d σ ρ H α ρ' Q s r e k=>?_⟩;cases r with
 |@tup a xs ds hp rp=>
  have e':gs ds ρ=some ρ':=e;exact⟨a,xs,rfl,(SqT.of hp),by rw[rp.length];exact hlen ds ρ ρ' e',q xs ds σ ρ H α ρ' Q s rp e' k⟩
 |_=>cases e
theorem ZP(h:gNl ds ρ=some ρ'):ds.length=0:=by cases ds with|nil=>rfl|cons _ _=>cases h
theorem Zv{g:Tg}(h:∀ds ρ ρ',gs ds ρ=some ρ'->ds.length=n)(ds:List D)(ρ ρ':Ro)(e:gCs g gs ds ρ=some ρ'):ds.length=n+1:=by
 cases ds with
 |nil=>cases e
 |cons d r=>
  cases e1:g d ρ with
  |none=>simp only[gCs,e1]at e;cases e
  |some ρ1=>simp only[gCs,e1]at e;rw[bv,h r ρ1 ρ' e]
theorem Zn(i:Nat)(hN:X.N.Nodup)(he:DE X ξ e f)(hi:autoParam (X.N[i]?=some x) Qrf._auto_1)(hx:Loc X.env.scope x:=by first|exact dw rfl|exact lQ rfl)(hm:autoParam (X.may i=true) Qrf._auto_1)(hs:autoParam (ja e (some (.Name x pos')) pos.line X.env=pure false) Qrf._auto_1)(hf:X.fn x=true\/X.env.scope.names.lookup x=some .local:=by first|exact .inl rfl|exact .inr rfl|assumption) :
  DS X ξ (.Assign [.Name x pos'] e pos) (ZK (gNm i) f):=by
 obtain⟨t,p,q⟩:=he;exact⟨_,Zoz hN hi hx hm p hs hf,λσ ρ H α M Dn s hh w=>q σ ρ H α M _ s hh (FP.seq w λd M1 v H1 α1 e1 h1 r1 w1=>w1 _ H1 α1 Ext.refl h1 ((s.mono e1).set i r1))⟩
theorem Zdp(he:DE X ξ e f)(hg:DG X tg gt)(hs:autoParam (iO [tg] e pos.line X.env=pure false) Qrf._auto_1)(hw:autoParam (fP [tg] e X.env=pure none) Qrf._auto_1)(h1:autoParam ((dq [tg] X.env).map (·.2)=[assign tg X.env]) Qrf._auto_1):DS X ξ (.Assign [tg] e pos) (ZK gt f):=by
 obtain⟨t,p,q⟩:=he;obtain⟨tt,pt,qt⟩:=hg;refine⟨_,Zk0 p pt hs hw h1,λσ ρ H α M Dn s hh w=>q σ ρ H α M _ s hh (FP.seq w λd M1 v H1 α1 e1 h1 r1 w1=>?_)⟩;cases eg:gt d ρ with
 |none=>simp only[eg]at w1;exact w1.elim
 |some ρ1=>
  simp only[eg]at w1;exact qt v d σ ρ H1 α1 ρ1 _ (s.mono e1) r1 eg λσ' s'=>w1 σ' H1 α1 Ext.refl h1 s'
theorem Zbx(i j:Nat){kt k2 pt2}(hc:X.calm=true)(hN:X.N.Nodup)(ha:DA X ξ [a,b] fs)(hi:autoParam (X.N[i]?=some x) Qrf._auto_1)(hj:autoParam (X.N[j]?=some y) Qrf._auto_1)(mi:autoParam (X.may i=true) Qrf._auto_1)(mj:autoParam (X.may j=true) Qrf._auto_1)(hij:autoParam (i≠j) Qde._auto_1)(hx:autoParam (X.env.scope.names.lookup x=some .local) Qrf._auto_1)(hy:autoParam (X.env.scope.names.lookup y=some .local) Qrf._auto_1)(hw:autoParam (fP [.Tuple [.Name x px,.Name y py] kt pt] (.Tuple [a,b] k2 pt2) X.env=pure (some [x,y])) Qrf._auto_1)(hs:autoParam (iO [.Tuple [.Name x px,.Name y py] kt pt] (.Tuple [a,b] k2 pt2) pos.line X.env=pure false) Qrf._auto_1) :
  DS X ξ (.Assign [.Tuple [.Name x px,.Name y py] kt pt] (.Tuple [a,b] k2 pt2) pos) (Zdi i j fs):=by
 obtain⟨t,p,q⟩:=ha;refine⟨_,ZoA hc mi mj hN hi hj hij hx hy p hw hs,λσ ρ H α M Dn s hh w=>q σ ρ H α M _ s hh (FP.seq w λds M1 vs H1 α1 e1 h1 r1 w1=>?_)⟩;cases r1 with
 |nil=>exact w1.elim
 |cons r t=>
  cases t with
  |nil=>exact w1.elim
  |cons r' t=>
   cases t with
   |cons _ _=>exact w1.elim
   |nil=>exact⟨_,_,rfl,w1 _ H1 α1 Ext.refl h1 (((s.mono e1).set i r).set j r')⟩
theorem Zlb(ho:DE X ξ o fo)(hi:DE X ξ i fi)(he:DE X ξ e f)(ha:∀v,assign (.Subscript o i pos') X.env v=(do
   let ov <-holding [v] (eval o X.env)
   let iv <-holding [v,ov] (eval i X.env)
   standAt pos'
   holding [v,ov,iv] (setItem ov iv v)
   release [v,ov,iv] []):=by intro _;rfl) (hs:iO [.Subscript o i pos'] e pos.line X.env=pure false:=by rfl) (hw:fP [.Subscript o i pos'] e X.env=pure none:=by rfl) (h1:(dq [.Subscript o i pos'] X.env).map (·.2)=[assign (.Subscript o i pos') X.env]:=by rfl):DS X ξ (.Assign [.Subscript o i pos'] e pos) (ZmC fo fi f):=by
 obtain⟨t,p,q⟩:=he;obtain⟨to,po,qo⟩:=ho;obtain⟨ti,pi,qi⟩:=hi;refine⟨_,Zk0 p (Zoy po pi ZjS ha) hs hw h1,λσ ρ H α M Dn s hh w=>q σ ρ H α M _ s hh (FP.seq w λd M1 v H1 α1 e1 h1 r1 w1=>?_)⟩;refine qo σ ρ H1 α1 M1 _ (s.mono e1) h1 (FP.seq w1 λod M2 ov H2 α2 e2 h2 r2 w2=>?_);refine qi σ ρ H2 α2 M2 _ ((s.mono e1).mono e2) h2 (FP.seq w2 λkd M3 kv H3 α3 e3 h3 r3 w3=>?_);cases Rep.mono e3 r2 with
 |@ref p n hp=>
  cases r3 with
  |int k=>
   cases em:M3[n]? with
   |none=>simp only[em]at w3;exact w3.elim
   |some so=>
    cases so with
    |lst ds=>
     cases ej:ixN ds.length k with
     |none=>simp only[em,ej]at w3;exact w3.elim
     |some j=>
      simp only[em,ej]at w3;obtain⟨xs,g1,g2⟩:=h3.at hp em;refine⟨p,xs,k,j,rfl,rfl,g1,by rw[g2.length];exact ej,?_⟩
      exact w3 σ _ α3 (Ext.wr g1) (h3.wr hp g1 (Reps.set (Rep.mono e3 (Rep.mono e2 r1)) j g2)) ((((s.mono e1).mono e2).mono e3).mono (Ext.wr g1))
  |_=>exact w3.elim
 |_=>exact w3.elim
noncomputable def whN(c:Tv)(g:Sv):Nat->Ro->Sto->Option Fl
 |0,_,_=>none
 |n+1,ρ,M=>match c ρ M with
  |.ok true M1=>(match g ρ M1 with
   |.nx ρ2 M2=>whN c g n ρ2 M2
   |.cnt ρ2 M2=>whN c g n ρ2 M2
   |.brk ρ2 M2=>some (.nx ρ2 M2)
   |o=>some o)
  |.ok false M1=>some (.nx ρ M1)
  |.exc e M1=>some (.exc e M1)
  |.bad=>some .bad
theorem ZcA{c:Tv}{g:Sv}:∀{n:Nat}{ρ:Ro}{M:Sto}{o:Fl},whN c g n ρ M=some o->∀k,whN c g (n+k) ρ M=some o
 |0,_,_,_,e,_=>by simp only[whN]at e;cases e
 |n+1,ρ,M,o,e,k=>by
  have ek:n+1+k=(n+k)+1:=⋯
  rw[ek];unfold whN at e ⊢;cases ec:c ρ M with
  |bad=>rw[ec]at e;exact e
  |exc x M1=>rw[ec]at e;exact e
  |ok b M1=>
   rw[ec]at e;cases b with
   |false=>exact e
   |true=>
    cases eg:g ρ M1 with
    |nx ρ2 M2=>simp only[eg]at e ⊢;exact ZcA e k
    |cnt ρ2 M2=>simp only[eg]at e ⊢;exact ZcA e k
    |brk ρ2 M2=>simp only[eg]at e ⊢;exact e
    |ret d M2=>simp only[eg]at e ⊢;exact e
    |exc x M2=>simp only[eg]at e ⊢;exact e
    |bad=>simp only[eg]at e ⊢;exact e
open Classical in
def sWh(c:Tv)(g:Sv):Sv:=λρ M=>if h:∃o n,whN c g n ρ M=some o then Classical.choose h else .bad
theorem Zcj{c:Tv}{g:Sv}(e:whN c g n ρ M=some o):sWh c g ρ M=o:=by
 have hx:∃o n,whN c g n ρ M=some o:=⟨o,n,e⟩;unfold sWh;rw[dif_pos hx];obtain⟨m,em⟩:=Classical.choose_spec hx;have h1:=ZcA em n;have h2:=ZcA e m;rw[kG]at h2;rw[h1]at h2;exact aM h2
theorem ZhK{c:Tv}{g:Sv}(e:sWh c g ρ M≠ .bad):∃n,whN c g n ρ M=some (sWh c g ρ M):=by
 by_cases hx:∃o n,whN c g n ρ M=some o
 .obtain⟨o,n,h⟩:=hx;exact⟨n,by rw[Zcj h];exact h⟩
 .unfold sWh at e;rw[dif_neg hx]at e;exact absurd rfl e
theorem Zet{c:Tv}{g:Sv}{M1:Sto}(h:c ρ M=.ok false M1):sWh c g ρ M=.nx ρ M1:=Zcj (n:=1) (by simp only[whN,h])
theorem ZfY{c:Tv}{g:Sv}{M1 M2:Sto}(h:c ρ M=.ok true M1)(h2:g ρ M1=.nx ρ2 M2)(hb:sWh c g ρ2 M2≠ .bad):sWh c g ρ M=sWh c g ρ2 M2:=by
 obtain⟨n,e⟩:=ZhK hb;exact Zcj (n:=n+1) (by simp only[whN,h,h2];exact e)
theorem ZcB(hp:fQ (ao X.prog X.w) X.A X.env X.xe)(hc:DT X ξ c fc)(hb:DSs X ξ body g):DS X ξ (.While c body [] pos) (sWh fc g):=by
 obtain⟨tc,pc,qc⟩:=hc;obtain⟨tb,pb,qb⟩:=hb;refine⟨_,ZjK hp pc pb,λσ ρ H α M Dn s hh w=>?_⟩;have nb:sWh fc g ρ M≠ .bad:=λz=>by rw[z]at w;exact w
 obtain⟨n,en⟩:=ZhK nb;generalize sWh fc g ρ M=o at w en;refine⟨λm σ' H'=>∃ρ' α' M',Ext X.K H H' α α'/\SR X.K H' α' σ' ρ'/\HR X.K H' α' M'/\whN fc g m ρ' M'=some o,⟨n,ρ,α,M,Ext.refl,s,hh,en⟩,?_⟩;rintro m σ1 H1 ⟨ρ1,α1,M1,e1,s1,h1,en1⟩;cases m with
 |zero=>simp only[whN]at en1;cases en1
 |succ m=>
  refine qc σ1 ρ1 H1 α1 M1 _ s1 h1 ?_;unfold whN at en1;cases ec:fc ρ1 M1 with
  |bad=>rw[ec]at en1;cases en1;exact w.elim
  |exc x M2=>
   rw[ec]at en1;cases en1;exact λC H' α' nn ex hr=>w C H' α' nn (e1.trans ex) hr
  |ok b M2=>
   rw[ec]at en1;intro v H2 α2 e2 h2 ev;cases ev;cases b with
   |false=>
    cases en1;exact Zn6 (w σ1 H2 α2 (e1.trans e2) h2 (s1.mono e2))
   |true=>
    refine Zn7 ⟨λσ' H'=>∃ρ' α' M',Ext X.K H H' α α'/\SR X.K H' α' σ' ρ'/\HR X.K H' α' M'/\whN fc g m ρ' M'=some o,λσ' H' z=>⟨m,dz m,z⟩,?_⟩;refine qb σ1 ρ1 H2 α2 M2 _ (s1.mono e2) h2 ?_;have e12:=e1.trans e2;cases eg:g ρ1 M2 with
    |nx ρ2 M3=>simp only[eg]at en1;exact λσ' H' α' ex hr sr=>⟨ρ2,α',M3,e12.trans ex,sr,hr,en1⟩
    |cnt ρ2 M3=>simp only[eg]at en1;exact λσ' H' α' ex hr sr=>⟨ρ2,α',M3,e12.trans ex,sr,hr,en1⟩
    |brk ρ2 M3=>simp only[eg]at en1;cases en1;exact λσ' H' α' ex hr sr=>w σ' H' α' (e12.trans ex) hr sr
    |ret d M3=>simp only[eg]at en1;cases en1;exact λv H' α' ex hr sr=>w v H' α' (e12.trans ex) hr sr
    |exc x M3=>simp only[eg]at en1;cases en1;exact λC H' α' nn ex hr=>w C H' α' nn (e12.trans ex) hr
    |bad=>simp only[eg]at en1;cases en1;exact w.elim
noncomputable def Zbu(tg:Tg)(g:Sv):List D->Ro->Sto->Fl
 |[],ρ,M=>.nx ρ M
 |d::r,ρ,M=>match tg d ρ with
  |none=>.bad
  |some ρ1=>(match g ρ1 M with
   |.nx ρ2 M2=>Zbu tg g r ρ2 M2
   |.cnt ρ2 M2=>Zbu tg g r ρ2 M2
   |.brk ρ2 M2=>.nx ρ2 M2
   |o=>o)
noncomputable def Zg2(tg:Tg)(g:Sv)(n:Nat):Nat->Nat->Ro->Sto->Fl
 |f,i,ρ,M=>match M[n]? with
  |some (.lst xs)=>(match xs[i]? with
   |none=>.nx ρ M
   |some d=>(match f with
    |0=>.bad
    |f+1=>(match tg d ρ with
     |none=>.bad
     |some ρ1=>(match g ρ1 M with
      |.nx ρ2 M2=>Zg2 tg g n f (i+1) ρ2 M2
      |.cnt ρ2 M2=>Zg2 tg g n f (i+1) ρ2 M2
      |.brk ρ2 M2=>.nx ρ2 M2
      |o=>o))))
  |none=>.bad
def Za5(lo:Int)(n:Nat):List D:=(aI n).map λ(i:Nat)=>D.int (lo+i)
def Zlc(tg:Tg)(g:Sv)(d:D)(ρ:Ro)(M:Sto):Fl:=match d with
 |.tup xs=>Zbu tg g xs ρ M
 |.rol xs=>Zbu tg g xs ρ M
 |.ref n=>(match M[n]? with|some (.lst xs)=>Zg2 tg g n xs.length 0 ρ M|none=>.bad)
 |_=>.bad
def Zpc(tg:Tg)(f:Ev)(g:Sv):Sv:=λρ M=>Zas (f ρ M) λd M1=>Zlc tg g d ρ M1
def Zbc(tg:Tg)(fs:Av)(g:Sv):Sv:=λρ M=>Zas (fs ρ M) λds M1=>match ds with
 |[.int j]=>Zbu tg g (Za5 0 j.toNat) ρ M1
 |_=>.bad
def ZcR(tg:Tg)(fs:Av)(g:Sv):Sv:=λρ M=>Zas (fs ρ M) λds M1=>match ds with
 |[.int i,.int j]=>Zbu tg g (Za5 i (j-i).toNat) ρ M1
 |_=>.bad
theorem ZfZ{lo:Int}(h:i<n):(Za5 lo n)[i]?=some (.int (lo+i)):=by
 unfold Za5;rw[bn,List.getElem?_range h];rfl
theorem ZdI{lo:Int}:(Za5 lo n).length=n:=by unfold Za5;rw[af,ix]
theorem ZhL{lo:Int}(h:i<n):(Za5 lo n).drop i=.int (lo+i)::(Za5 lo n).drop (i+1):=by
 have hl:i<(Za5 lo n).length:=by rw[ZdI];exact h
 have e:=ZfZ (lo:=lo) h;rw[aa hl]at e;rw[cN hl,aM e]
theorem Zj6{tg:Expr}{gt:Tg}{tt:TG}{tb:TS}{k:Ro->Sto->Fl}(w:FP X.K H α ξ Dn o)(qt:∀v d σ ρ H α ρ' Q,SR X.K H α σ ρ->Rep X.K H α v d->gt d ρ=some ρ'->(∀σ',SR X.K H α σ' ρ'->Q σ' H)->tt v σ H Q)(qb:∀σ ρ H α M Dn,SR X.K H α σ ρ->HR X.K H α M->FP X.K H α ξ Dn (g ρ M)->tb Dn σ H){M1:Sto}(e1:Ext X.K H H1 α α1)(s1:SR X.K H1 α1 σ1 ρ1)(h1:HR X.K H1 α1 M1)(r:Rep X.K H1 α1 v d)(en:(match gt d ρ1 with|none=>Fl.bad|some ρ2=>(match g ρ2 M1 with|.nx ρ3 M3=>k ρ3 M3|.cnt ρ3 M3=>k ρ3 M3|.brk ρ3 M3=>.nx ρ3 M3|o=>o))=o)(hN:∀σ' H',(∃ρ' α' M',Ext X.K H H' α α'/\SR X.K H' α' σ' ρ'/\HR X.K H' α' M'/\k ρ' M'=o)->N σ' H'):tt v σ1 H1 λσ2 H2=>tb {Dn with nx:=N,ct:=N,bk:=Dn.nx} σ2 H2:=by
 cases eg:gt d ρ1 with
 |none=>rw[eg]at en;cases en;exact w.elim
 |some ρ2=>
  simp only[eg]at en;refine qt v d σ1 ρ1 H1 α1 ρ2 _ s1 r eg λσ2 s2=>qb σ2 ρ2 H1 α1 M1 _ s2 h1 ?_;cases ex:g ρ2 M1 with
  |nx ρ3 M3=>simp only[ex]at en;exact λσ' H' α' e2 hr sr=>hN _ _ ⟨ρ3,α',M3,e1.trans e2,sr,hr,en⟩
  |cnt ρ3 M3=>simp only[ex]at en;exact λσ' H' α' e2 hr sr=>hN _ _ ⟨ρ3,α',M3,e1.trans e2,sr,hr,en⟩
  |brk ρ3 M3=>simp only[ex]at en;cases en;exact λσ' H' α' e2 hr sr=>w σ' H' α' (e1.trans e2) hr sr
  |ret d M3=>simp only[ex]at en;cases en;exact λv H' α' e2 hr sr=>w v H' α' (e1.trans e2) hr sr
  |exc x M3=>simp only[ex]at en;cases en;exact λC H' α' nn e2 hr=>w C H' α' nn (e1.trans e2) hr
  |bad=>simp only[ex]at en;cases en;exact w.elim
theorem Zld{tg:Expr}{tt:TG}{tb:TS}{lo:Int}(qt:∀v d σ ρ H α ρ' Q,SR X.K H α σ ρ->Rep X.K H α v d->gt d ρ=some ρ'->(∀σ',SR X.K H α σ' ρ'->Q σ' H)->tt v σ H Q)(qb:∀σ ρ H α M Dn,SR X.K H α σ ρ->HR X.K H α M->FP X.K H α ξ Dn (g ρ M)->tb Dn σ H)(s:SR X.K H α σ ρ)(hh:HR X.K H α M)(w:FP X.K H α ξ Dn (Zbu gt g (Za5 lo n) ρ M)):∃W:Nat->Nat->L2.St->Hp->Prop,(∃m,W 0 m σ H)/\∀i m σ H,W i m σ H->((Itr lo n).stop i H/\Dn.nx σ H)\/((Itr lo n).go i H/\∃N:L2.St->Hp->Prop,(∀σ' H',N σ' H'->∃m',m'<m/\W (i+1) m' σ' H')/\∀x H',(Itr lo n).yld i H x H'->tt x σ H' λσ2 H2=>tb {Dn with nx:=N,ct:=N,bk:=Dn.nx} σ2 H2):=by
 generalize ho:Zbu gt g (Za5 lo n) ρ M=o at w;refine Zhh (λi σ' H'=>∃ρ' α' M',Ext X.K H H' α α'/\SR X.K H' α' σ' ρ'/\HR X.K H' α' M'/\Zbu gt g ((Za5 lo n).drop i) ρ' M'=o) ⟨ρ,α,M,Ext.refl,s,hh,ho⟩ ?_ ?_
 .rintro i σ1 H1 hi ⟨ρ1,α1,M1,e1,s1,h1,en⟩;rw[ZhL hi]at en;exact Zj6 (tg:=tg) w qt qb e1 s1 h1 (.int (lo+i)) en (λσ' H' z=>z)
 .rintro σ1 H1 ⟨ρ1,α1,M1,e1,s1,h1,en⟩;rw[dQ (by rw[ZdI];exact aj _)]at en
  cases en;exact w σ1 H1 α1 e1 h1 s1
theorem ZaS(hp:fQ (ao X.prog X.w) X.A X.env X.xe)(hm:X.mg "range"=none)(ha:DA X ξ [a] fs)(hg:DG X tg gt)(hb:DSs X ξ body g)(hgl:autoParam (Gl X "range") Qrf._auto_1)(hs:autoParam (av [a] X.env=[(false,eval a X.env)]) Qrf._auto_1)(hf:autoParam (∀x,foldedSetIterable (.Call (.Name "range" p) [a] [] p2) X.env x=pure x) Qin._auto_1):DS X ξ (.For tg (.Call (.Name "range" p) [a] [] p2) body [] pos) (Zbc gt fs g):=by
 obtain⟨ta,pa,qa⟩:=ha;obtain⟨tt,pt,qt⟩:=hg;obtain⟨tb,pb,qb⟩:=hb;refine⟨_,ZfJ hp (Zed hgl hm pa hs) pt pb hf,λσ ρ H α M Dn s hh w=>qa σ ρ H α M _ s hh (FP.seq w λds M1 vs H1 α1 e1 h1 r1 w1=>?_)⟩;cases r1 with
 |nil=>exact w1.elim
 |cons r tz=>
  cases tz with
  |cons _ _=>cases r<;>exact w1.elim
  |nil=>
   cases r with
   |int j=>exact⟨j,rfl,Zld (tg:=tg) qt qb (s.mono e1) h1 w1⟩
   |_=>exact w1.elim
theorem ZdJ(hp:fQ (ao X.prog X.w) X.A X.env X.xe)(hm:X.mg "range"=none)(ha:DA X ξ [a,b] fs)(hg:DG X tg gt)(hb:DSs X ξ body g)(hgl:autoParam (Gl X "range") Qrf._auto_1)(hs:autoParam (av [a,b] X.env=[(false,eval a X.env),(false,eval b X.env)]) Qrf._auto_1)(hs2:autoParam (av [b] X.env=[(false,eval b X.env)]) Qrf._auto_1)(hf:autoParam (∀x,foldedSetIterable (.Call (.Name "range" p) [a,b] [] p2) X.env x=pure x) Qin._auto_1):DS X ξ (.For tg (.Call (.Name "range" p) [a,b] [] p2) body [] pos) (ZcR gt fs g):=by
 obtain⟨ta,pa,qa⟩:=ha;obtain⟨tt,pt,qt⟩:=hg;obtain⟨tb,pb,qb⟩:=hb;refine⟨_,ZfJ hp (Zee hgl hm pa hs hs2) pt pb hf,λσ ρ H α M Dn s hh w=>qa σ ρ H α M _ s hh (FP.seq w λds M1 vs H1 α1 e1 h1 r1 w1=>?_)⟩
 split at w1
 .rename_i i j;cases r1 with
  |cons r t=>
   cases t with
   |cons r' t=>
    cases t;cases r;cases r';exact⟨i,j,rfl,Zld (tg:=tg) qt qb (s.mono e1) h1 w1⟩
 .exact w1.elim
def ZvB(K:Fg)(tl:TE):TI:=λσ H R=>tl σ H λx H1=>∃a,x=.ref a/\(((∃xs,SqL K H1 a xs)/\R (Itl K a) H1)\/((∃xs,SqT K H1 a xs)/\R (Itt K a) H1))
theorem Zle(hl:PE X l tl):PI X tg l (ZvB X.K tl):=by
 intro pins s σ H R I h;refine thn (hl pins s σ H _ I h) λv s1 hz=>?_;obtain⟨x,H1,I1,r1,q1⟩:=hz;obtain⟨a,e,q⟩:=q1;subst e;cases r1;have fp:∀b∈[s1.heap.objs.size],ZeZ X pins H1 b:=λb hb=>by
  have e:b=s1.heap.objs.size:=by simpa using hb
  subst e;exact I1.fpOk (aj _) (I1.hok.fresh (aj _))
 rcases q with⟨⟨xs,hq⟩,q⟩|⟨⟨xs,hq⟩,q⟩
 .obtain⟨its,rv,p,hz⟩:=I1.list hq;refine jG p.isList ?_;exact⟨s1.heap.objs.size,[s1.heap.objs.size],_,_,H1,rfl,I1.kept (t':=s1.toks) λb o e=>Hq _ e,Zhf a _,⟨_,aG _ rfl,rfl,rfl⟩,fp,q⟩
 .obtain⟨its,rv,p,hz⟩:=I1.tuple hq;refine wpAny_pyIter_tuple (show s1.heap.IsTuple a its.toArray from p) ?_;exact⟨s1.heap.objs.size,[s1.heap.objs.size],_,_,H1,rfl,I1.kept (t':=s1.toks) λb o e=>Hq _ e,ZgD a _,⟨_,aG _ rfl,rfl,rfl⟩,fp,q⟩
theorem Zlf{f:Ev}(hp:fQ (ao X.prog X.w) X.A X.env X.xe)(hl:DE X ξ l f)(hg:DG X tg gt)(hb:DSs X ξ body g)(hf:autoParam (∀x,foldedSetIterable l X.env x=pure x) Qin._auto_1):DS X ξ (.For tg l body [] pos) (Zpc gt f g):=by
 obtain⟨ta,pa,qa⟩:=hl;obtain⟨tt,pt,qt⟩:=hg;obtain⟨tb,pb,qb⟩:=hb;refine⟨_,ZfJ hp (Zle pa) pt pb hf,λσ ρ H α M Dn s hh w=>qa σ ρ H α M _ s hh (FP.seq w λd M1 v H1 α1 e1 h1 r1 w1=>?_)⟩;have s1:=s.mono e1;have pure_:∀(ds:List D)(xs:List V),Reps X.K H1 α1 xs ds->FP X.K H1 α1 ξ Dn (Zbu gt g ds ρ M1)->∀(i:Nat) σ' H',(∃ρ' α' M',Ext X.K H1 H' α1 α'/\SR X.K H' α' σ' ρ'/\HR X.K H' α' M'/\Zbu gt g (ds.drop i) ρ' M'=Zbu gt g ds ρ M1)->
   (∀x,xs[i]?=some x->tt x σ' H' λσ2 H2=>tb {Dn with nx:=λσ H=>∃ρ' α' M',Ext X.K H1 H α1 α'/\SR X.K H α' σ ρ'/\HR X.K H α' M'/\Zbu gt g (ds.drop (i+1)) ρ' M'=Zbu gt g ds ρ M1,ct:=λσ H=>∃ρ' α' M',Ext X.K H1 H α1 α'/\SR X.K H α' σ ρ'/\HR X.K H α' M'/\Zbu gt g (ds.drop (i+1)) ρ' M'=Zbu gt g ds ρ M1,bk:=Dn.nx} σ2 H2)/\
   (i=xs.length->Dn.nx σ' H'):=by
  intro ds xs r w1 i σ' H' hz;obtain⟨ρ',α',M',ex,sr,hr,en⟩:=hz;refine⟨λx hx=>?_,λhi=>?_⟩
  .have hi:i<ds.length:=by rw[<-r.length];exact(ar.mp hx).1
   obtain⟨v,g1,g2⟩:=r.get (Gq hi);rw[hx]at g1;cases g1;rw[cN hi]at en;exact Zj6 (tg:=tg) w1 qt qb ex sr hr (Rep.mono ex g2) en (λσ' H' z=>z)
  .rw[hi,r.length,List.drop_length]at en;have en':Fl.nx ρ' M'=Zbu gt g ds ρ M1:=en;rw[<-en']at w1;exact w1 σ' H' α' ex hr sr
 cases r1 with
 |@tup p xs ds hp rp=>
  have w2:FP X.K H1 α1 ξ Dn (Zbu gt g ds ρ M1):=w1;refine⟨p,rfl,.inr ⟨⟨xs,(SqT.of hp)⟩,Zmf (K:=X.K) (a:=p) (xs:=xs) (λi σ' H'=>∃ρ' α' M',Ext X.K H1 H' α1 α'/\SR X.K H' α' σ' ρ'/\HR X.K H' α' M'/\Zbu gt g (ds.drop i) ρ' M'=Zbu gt g ds ρ M1) ⟨ρ,α1,M1,Ext.refl,s1,h1,rfl⟩ ?_ ?_ ?_⟩⟩
  .rintro i σ' H' _ ⟨ρ',α',M',ex,_⟩;exact SqT.of (ex.tup _ _ hp)
  .intro i x σ' H' hx z;exact(pure_ ds xs rp w2 i σ' H' z).1 x hx
  .intro σ' H' z;exact(pure_ ds xs rp w2 _ σ' H' z).2 rfl
 |@rol p xs ds hp rp=>
  have w2:FP X.K H1 α1 ξ Dn (Zbu gt g ds ρ M1):=w1;refine⟨p,rfl,.inl ⟨⟨xs,hp.sq⟩,ZjL (K:=X.K) (a:=p) (xs:=xs) (λi σ' H'=>∃ρ' α' M',Ext X.K H1 H' α1 α'/\SR X.K H' α' σ' ρ'/\HR X.K H' α' M'/\Zbu gt g (ds.drop i) ρ' M'=Zbu gt g ds ρ M1) ⟨ρ,α1,M1,Ext.refl,s1,h1,rfl⟩ ?_ ?_ ?_⟩⟩
  .rintro i σ' H' _ ⟨ρ',α',M',ex,_⟩;exact(ex.rol _ _ hp).sq
  .intro i x σ' H' hx z;exact(pure_ ds xs rp w2 i σ' H' z).1 x hx
  .intro σ' H' z;exact(pure_ ds xs rp w2 _ σ' H' z).2 rfl
 |@ref p n hp=>
  cases em:M1[n]? with
  |none=>simp only[Zlc,em]at w1;exact w1.elim
  |some so=>
   cases so with
   |lst ds=>
    simp only[Zlc,em]at w1;obtain⟨xs0,g0,r0⟩:=h1.at hp em;generalize eo:Zg2 gt g n ds.length 0 ρ M1=o at w1;refine⟨p,rfl,.inl ⟨⟨xs0,SqL.of g0⟩,λi m σ' H'=>∃ρ' α' M',Ext X.K H1 H' α1 α'/\SR X.K H' α' σ' ρ'/\HR X.K H' α' M'/\Zg2 gt g n m i ρ' M'=o,⟨ds.length,ρ,α1,M1,Ext.refl,s1,h1,eo⟩,?_⟩⟩;rintro i m σ' H' ⟨ρ',α',M',ex,sr,hr,en⟩;unfold Zg2 at en;cases em2:M'[n]? with
    |none=>simp only[em2]at en;cases en;exact w1.elim
    |some so2=>
     cases so2 with
     |lst ds2=>
      simp only[em2]at en;obtain⟨xs,g1,g2⟩:=hr.at (ex.get hp) em2;cases ei:ds2[i]? with
      |none=>
       simp only[ei]at en;cases en;refine .inl ⟨⟨xs,SqL.of g1,?_⟩,w1 σ' H' α' ex hr sr⟩;rw[g2.length];exact bY.mp ei
      |some d=>
       simp only[ei]at en;obtain⟨v,k1,k2⟩:=g2.get ei;cases m with
       |zero=>cases en;exact w1.elim
       |succ m=>
        refine .inr ⟨⟨xs,v,SqL.of g1,k1⟩,λσ2 H2=>∃ρ' α' M',Ext X.K H1 H2 α1 α'/\SR X.K H2 α' σ2 ρ'/\HR X.K H2 α' M'/\Zg2 gt g n m (i+1) ρ' M'=o,λσ2 H2 z=>⟨m,dz m,z⟩,λx H2 y=>?_⟩;obtain⟨ey,y⟩:=y;subst ey;have ev:=y xs (SqL.of g1);rw[k1]at ev;cases ev;exact Zj6 (tg:=tg) w1 qt qb ex sr hr k2 en (λσ' H' z=>z)
 |_=>exact w1.elim
end
noncomputable def fnF(g:Sv)(n k:Nat):W3:=λds M=>if ds.length=n then(match g (ds.map some++bC k none) M with
 |.ret d M'=>.ok d M'
 |.nx _ M'=>.ok .non M'
 |.exc c M'=>.exc c M'
 |_=>.bad)else .bad
def spD(K:Fg)(F:W3):Sp:=λvs H Q E=>∃ds α M,Reps K H α vs ds/\HR K H α M/\OP K H α E Q (F ds M)
theorem Zeu:∀{ds:List D}{k i:Nat}{d:D},(ds.map some++bC k none)[i]?=some (some d)->ds[i]?=some d
 |[],k,i,d,h=>by
  rw[i5,iZ]at h
  have:=c7 h
  rw[ju]at this;cases this.2
 |x::r,k,0,d,h=>by simpa using h
 |x::r,k,i+1,d,h=>by
  rw[aK,bO,c8]at h;rw[c8];exact Zeu h
theorem SR.start{K:Fg}{H:Hp}{α:List Addr}{N:List Str}{vs:List V}{ds:List D}{k:Nat}(r:Reps K H α vs ds)(hk:k=N.length-ds.length):SR K H α (start N vs) (ds.map some++bC k none):=by
 unfold L2.start;refine⟨by simp only[aT,af,bW,r.length,hk],λi d h=>?_⟩
 obtain⟨v,h1,h2⟩:=r.get (Zeu h);refine⟨v,?_,h2⟩;have hl:i<vs.length:=(ar.mp h1).1;rw[aB (by rw[af];exact hl),bn,h1]
 rfl
section
variable {K:Fg}
theorem Zpd{st:Stmt}(F:Fun K x qual st f fd)(S:FnScope N ps (Zo st))(hn:n=ps.length)(hm:m=N.length-n)(hb:∀(cdv:ae)(A:cV)(outer:List Env)(s:aC)(H:Hp)(E:XK),Room k (A.deeper (iY qual (Zo st) s.heap.objs.size f cdv))->Thr (Ze4 (CXE P w) P w K mg base N qual (Zo st) f cdv A outer s H E) E->DSs (Ze4 (CXE P w) P w K mg base N qual (Zo st) f cdv A outer s H E) E (Zac st) g):FnOk P w K mg base (CXE P w) (k+1) f fd ps (spD K (fnF g n m)):=by
 obtain⟨oc,od,kV,doc,pm,an,cdv,ct,osl,rfl,lk,hcd⟩:=F.ex;refine Zmk lk hcd S (λvs H Q E h=>?_) (λA outer s H vs Q E hr h=>?_)
 .obtain⟨ds,α,M,r,_,q⟩:=h;by_cases c:ds.length=n
  .rw[r.length,c,hn]
  .simp only[fnF,if_neg c]at q;exact q.elim
 .obtain⟨ds,α,M,r,hh,q⟩:=h;obtain⟨t,p,w'⟩:=hb cdv A outer s H E hr Zla;by_cases c:ds.length=n
  .simp only[fnF,if_pos c]at q;refine⟨t,p,w' _ _ H α M _ (SR.start (N:=N) r (k:=m) (by rw[hm,c])) hh ?_⟩
   cases e:g (ds.map some++bC m none) M with
   |nx ρ' M'=>simp only[e]at q;exact λσ' H' α' ex hr sr=>q _ H' α' ex hr .non
   |ret d M'=>simp only[e]at q;exact q
   |exc x M'=>simp only[e]at q;exact q
   |brk ρ' M'=>simp only[e]at q;exact q.elim
   |cnt ρ' M'=>simp only[e]at q;exact q.elim
   |bad=>simp only[e]at q;exact q.elim
  .simp only[fnF,if_neg c]at q;exact q.elim
end
theorem ZmD(G:FnOk X.prog X.w X.K X.mg X.base (CXE X.prog X.w) k f fd ps (spD X.K F))(T:Thr X ξ)(hr:Room k X.A)(hm:X.mg x=some (.ref f))(hk:PySem.W.keepIn X.K (.ref f)=true)(hb:Ze3 X.K fd ps [])(ha:DA X ξ (e::es) fs)(hg:autoParam (Gl X x) Qrf._auto_1)
  (hdb:(x==("__debug__":Str))=false:=by decide) (he:av (e::es) X.env=(false,eval e X.env)::av es X.env:=by rfl) (hpl:(cR pos (av es X.env)).any (·.1)=false:=by rfl):DE X ξ (.Call (.Name x p) (e::es) [] pos) (Zj F fs):=by
 obtain⟨t,pa,qa⟩:=ha;refine⟨_,Zmj G hr hg hm hk hb .nil T.ps pa hdb he hpl,λσ ρ H α M Q s hh q=>qa σ ρ H α M _ s hh (OG.seq q λds M1 vs H1 α1 e1 h1 r1 q1=>?_)⟩;rw[cJ];exact⟨ds,α1,M1,r1,h1,q1⟩
theorem ZcS:bL "abs"=some (.builtin "abs"):=by decide +kernel
theorem ZbO:bL "int"=some (.type "int"):=by decide +kernel
theorem ZmE:bL "bool"=some (.type "bool"):=by decide +kernel
theorem ZcT:bL "list"=some (.type "list"):=by decide +kernel
theorem Zdq:bL "max"=some (.builtin "max"):=by decide +kernel
theorem ZhM:bL "min"=some (.builtin "min"):=by decide +kernel
theorem Zpe:bL "all"=some (.builtin "all"):=by decide +kernel
def Cal(P:cE)(w:c6)(K:Fg)(mg:Str->Option ae)(base:Heap)(x:Str)(k n:Nat)(F:W3):Prop:=
 ∃(f:Addr) (fd:iS) (ps:List Str),FnOk P w K mg base (CXE P w) k f fd ps (spD K F)/\mg x=some (.ref f)/\PySem.W.keepIn K (.ref f)=true/\ps.length=n/\Ze3 K fd ps []
theorem Zj7(C:Cal X.prog X.w X.K X.mg X.base x k n F)(T:Thr X ξ)(hr:Room k X.A)(ha:DA X ξ (e::es) fs)(hg:autoParam (Gl X x) Qrf._auto_1)(hdb:autoParam ((x==("__debug__":Str))=false) Qde._auto_1)(he:autoParam (av (e::es) X.env=(false,eval e X.env)::av es X.env) Qrf._auto_1)(hpl:autoParam ((cR pos (av es X.env)).any (·.1)=false) Qrf._auto_1):DE X ξ (.Call (.Name x p) (e::es) [] pos) (Zj F fs):=by
 obtain⟨f,fd,ps,G,hm,hk,_,hb⟩:=C;exact ZmD G T hr hm hk hb ha hg hdb he hpl
noncomputable def bl:List Str:=["ValueError","abs","all","any","bool","dict","enumerate","int","isinstance","len","list","max","min","range","repr","reversed","sorted","str","sum","tuple","zip"]
structure Bs(mg:Str->Option ae):Prop where
 b_ValueError:mg "ValueError"=none
 b_abs:mg "abs"=none
 b_all:mg "all"=none
 b_any:mg "any"=none
 b_bool:mg "bool"=none
 b_dict:mg "dict"=none
 b_enumerate:mg "enumerate"=none
 b_int:mg "int"=none
 b_isinstance:mg "isinstance"=none
 b_len:mg "len"=none
 b_list:mg "list"=none
 b_max:mg "max"=none
 b_min:mg "min"=none
 b_range:mg "range"=none
 b_repr:mg "repr"=none
 b_reversed:mg "reversed"=none
 b_sorted:mg "sorted"=none
 b_str:mg "str"=none
 b_sum:mg "sum"=none
 b_tuple:mg "tuple"=none
 b_zip:mg "zip"=none
theorem Bs.of{K:Fg}(X:K.In h)(G:h.Ns aR mg)(z:bl.map (PySem.W.nsIn K aR)=bl.map λ_=>some none):Bs mg:=by
 have q (x:Str) (m:x∈bl):mg x=none:=PySem.W.mg_none_of X G (List.map_inj_left.mp z x m)
 constructor<;>exact q _ (by decide +kernel)
noncomputable def Df(K:Fg)(x:Str)(st:Stmt):Prop:=∃f fd,PySem.W.nsIn K aR x=some (some (.ref f))/\Fun K x x st f fd
def Dfs(K:Fg)(p:Nat->Stmt)(L:List Rw):Prop:=
 L.map (λr=>(PySem.W.nsIn K aR r.n,K.lookup r.f,PySem.W.codeIn K (.ref (r.f-1)) r.n,PySem.W.keepIn K (.ref r.f)))=L.map λr=>(some (some (.ref r.f)),some (r.fo p),true,true)
theorem Dfs.of{K:Fg}(h:L.map (λr=>(PySem.W.nsIn K aR r.n,K.lookup r.f,PySem.W.codeIn K (.ref (r.f-1)) r.n,PySem.W.keepIn K (.ref r.f)))=L.map λr=>(some (some (.ref r.f)),some (r.fo p),true,true)):Dfs K p L:=h
theorem Dfs.at{K:Fg}(h:Dfs K p L)(j i:Nat)(e:autoParam ((L[j]?).map (λr=>(bJ r.n,r.i))=some (x,i)) Qrf._auto_1):Df K x (p i):=by
 obtain⟨r,m,e⟩:=iq.mp e;have q:=List.map_inj_left.mp h r (c7 m);cases e;simp only[mP]at q;exact⟨_,_,q.1,ZoP q.2.1 q.2.2.1 q.2.2.2⟩
section
variable {P:cE}{K:Fg}{mg:Str->Option ae}
theorem ZvC{α:Type}{P:List α->Prop}(h:P []):∀us:List α,us.length=0->P us
 |[],_=>h
theorem Zus{α:Type}{P:List α->Prop}(h:∀x0,P [x0]):∀us:List α,us.length=1->P us
 |[x0],_=>h x0
theorem Zut{α:Type}{P:List α->Prop}(h:∀x0 x1,P [x0,x1]):∀us:List α,us.length=2->P us
 |[x0,x1],_=>h x0 x1
theorem Zuu{α:Type}{P:List α->Prop}(h:∀x0 x1 x2,P [x0,x1,x2]):∀us:List α,us.length=3->P us
 |[x0,x1,x2],_=>h x0 x1 x2
theorem ZvD{α:Type}{P:List α->Prop}(h:∀x0 x1 x2 x3,P [x0,x1,x2,x3]):∀us:List α,us.length=4->P us
 |[x0,x1,x2,x3],_=>h x0 x1 x2 x3
theorem ZvE{α:Type}{P:List α->Prop}(h:∀x0 x1 x2 x3 x4,P [x0,x1,x2,x3,x4]):∀us:List α,us.length=5->P us
 |[x0,x1,x2,x3,x4],_=>h x0 x1 x2 x3 x4
theorem ZvF{α:Type}{P:List α->Prop}(h:∀x0 x1 x2 x3 x4 x5,P [x0,x1,x2,x3,x4,x5]):∀us:List α,us.length=6->P us
 |[x0,x1,x2,x3,x4,x5],_=>h x0 x1 x2 x3 x4 x5
theorem Z2{st:Stmt}(D:Df K x st)(gl:∀c v,PySem.W.nsIn K aR c=some (some v)->mg c=some v)(hb:∀(cdv:ae)(A:cV)(outer:List Env)(s:aC)(H:Hp)(E:XK)(f:Addr),N.Nodup->Room k (A.deeper (iY x (Zo st) s.heap.objs.size f cdv))->Thr (Ze4 (CXE P w) P w K mg base N x (Zo st) f cdv A outer s H E) E->DSs (Ze4 (CXE P w) P w K mg base N x (Zo st) f cdv A outer s H E) E (Zac st) g)(h1:autoParam ((Zo st).kind=.function) Qrf._auto_1)(h2:autoParam ((Zo st).isCoroutine=false) Qrf._auto_1)(h3:autoParam ((Zo st).isGenerator=false) Qrf._auto_1)(h4:N.Nodup:=by decide +kernel)(h5:autoParam ((N.take n).length=n) Qrf._auto_1)(h6:∀y∈N.take n,(Zo st).names.lookup y=some .local\/(Zo st).names.lookup y=some .cell:=by decide +kernel)(h7:∀y∈(Zo st).names,y.2≠ .free:=by decide +kernel)(hm:autoParam (m=N.length-n) Qrf._auto_1)(bi:∀(kV doc pm:ae)(an:Option Addr)(cdv ct:ae)(us:List ae),us.length=n->iT (PySem.W.fnOf x x (Za6 st) (Zac st) (Zo st) .none kV doc pm an cdv ct) ⟨us,[]⟩=pure ((N.take n).zip us):=by first|exact λ_ _ _ _ _ _=>Zus λ_=>rfl|exact λ_ _ _ _ _ _=>Zut λ_ _=>rfl|exact λ_ _ _ _ _ _=>Zuu λ_ _ _=>rfl|exact λ_ _ _ _ _ _=>ZvD λ_ _ _ _=>rfl|exact λ_ _ _ _ _ _=>ZvE λ_ _ _ _ _=>rfl|exact λ_ _ _ _ _ _=>ZvF λ_ _ _ _ _ _=>rfl|exact λ_ _ _ _ _ _=>ZvC rfl):Cal P w K mg base x (k+1) n (fnF g n m):=by
 obtain⟨f,fd,a,F⟩:=D;have S:FnScope N (N.take n) (Zo st):=⟨h1,h2,h3,h4,by rw[h5],h6,h7⟩
 exact⟨f,fd,N.take n,Zpd F S h5.symm hm (λcdv A outer s H E hr θ=>hb cdv A outer s H E f h4 hr θ),gl _ _ a,F.kp,h5,F.binds (λkV doc pm an cdv ct us hu=>bi kV doc pm an cdv ct us (hu.trans h5))⟩
theorem Zh(C:Cal X.prog X.w X.K X.mg X.base x k n F)(T:Thr X ξ)(hr:Room j X.A)(ha:DA X ξ (e::es) fs)(hj:autoParam (k<=j) Qde._auto_1)(hg:autoParam (Gl X x) Qrf._auto_1)(hdb:autoParam ((x==("__debug__":Str))=false) Qde._auto_1)(he:autoParam (av (e::es) X.env=(false,eval e X.env)::av es X.env) Qrf._auto_1)(hpl:autoParam ((cR pos (av es X.env)).any (·.1)=false) Qrf._auto_1):DE X ξ (.Call (.Name x p) (e::es) [] pos) (Zj F fs):=Zj7 C T (hr.mono hj) ha hg hdb he hpl
theorem Zpf{l:PySem.W.OpenLaw}{st:Stmt}(X:K.In h)(G:h.Ns aR mg)(hfa:mg "law"=some (.ref fa))(D:Df K "law" st)(b:∀(kV doc pm:ae)(an:Option Addr)(cdv ct:ae)(v:ae),iT (PySem.W.fnOf "law" "law" (Za6 st) (Zac st) (Zo st) .none kV doc pm an cdv ct) ⟨[v],[]⟩=pure [(y,v)])(q:∀base fd,Fun K "law" "law" st fa fd->FnOk l.prog w K mg base (CXE l.prog w) k fa fd [y] (spD K F)):∃fd:iS,(∀(s:aC)(v:ae),my s fd ⟨[v],[]⟩ [(y,v)])/\∀base:Heap,K.In base->base.Ns aR mg->FnOk l.prog w K mg base (CXE l.prog w) k fa fd [y] (spD K F):=by
 obtain⟨f,fd,a,F⟩:=D;have e:=hfa.symm.trans (PySem.W.mg_of X G a);cases e;refine⟨fd,?_,λbase _ _=>q base fd F⟩;obtain⟨oc,od,kV,doc,pm,an,cdv,ct,osl,rfl,lk,hcd⟩:=F.ex;exact λs v=>.of_eq (b kV doc pm an cdv ct v)
end
inductive Src where
 |pur (ds:List D)
 |sto (n:Nat)
 |zip (n m:Nat)
 |enu (n:Nat)
 |rev (n l:Nat)
 |zips (ns:List Nat)
 |dct (n:Nat)
 |zipT (n:Nat) (es:List D)
def ZhN(M:Sto)(i:Nat):List Nat->Option (Option (List D))
 |[]=>some (some [])
 |n::ns=>match M[n]? with
  |none=>none
  |some (.lst xs)=>match ZhN M i ns with
   |none=>none
   |some r=>match xs[i]?,r with|some x,some ds=>some (some (x::ds))|_,_=>some none
def nxt(src:Src)(i:Nat)(M:Sto):Option (Option D):=match src with
 |.pur ds=>some ds[i]?
 |.sto n=>match M[n]? with|some (.lst xs)=>some xs[i]?|none=>none
 |.zip n m=>match M[n]?,M[m]? with
  |some (.lst xs),some (.lst ys)=>(match xs[i]?,ys[i]? with|some x,some y=>some (some (.tup [x,y]))|_,_=>some none)
  |_,_=>none
 |.enu n=>match M[n]? with|some (.lst xs)=>(match xs[i]? with|some x=>some (some (.tup [.int i,x]))|none=>some none)|none=>none
 |.zipT n es=>match M[n]? with|some (.lst xs)=>(match xs[i]?,es[i]? with|some x,some y=>some (some (.tup [x,y]))|_,_=>some none)|none=>none
 |.dct n=>match M[n]? with|some (.lst (.non::r))=>(match r[i]? with|some (.tup (k::_))=>some (some k)|some _=>none|none=>some none)|_=>none
 |.zips ns=>match ZhN M i ns with|some (some ds)=>some (some (.tup ds))|some none=>some none|none=>none
 |.rev n l=>match M[n]? with|some (.lst xs)=>if i<l then(match xs[l-1-i]? with|some x=>some (some x)|none=>none)else(if i=l then some none else none)|none=>none
def cnt(src:Src)(M:Sto):Nat:=match src with
 |.pur ds=>ds.length
 |.sto n=>match M[n]? with|some (.lst xs)=>xs.length|none=>0
 |.zip n _=>match M[n]? with|some (.lst xs)=>xs.length|none=>0
 |.enu n=>match M[n]? with|some (.lst xs)=>xs.length|none=>0
 |.rev _ l=>l
 |.zipT n _=>match M[n]? with|some (.lst xs)=>xs.length|none=>0
 |.dct n=>match M[n]? with|some (.lst xs)=>xs.length|none=>0
 |.zips ns=>match ns with|n::_=>(match M[n]? with|some (.lst xs)=>xs.length|none=>0)|[]=>0
def Ats(H:Hp)(α:List Addr):List Nat->List Addr->Prop
 |[],[]=>True
 |n::ns,l::ls=>RefK H α 0 n l/\Ats H α ns ls
 |_,_=>False
def Zpg(K:Fg)(H:Hp)(α:List Addr)(J:It)(src:Src):Prop:=∀(i:Nat) H' α' M',Ext K H H' α α'->HR K H' α' M'->match nxt src i M' with
 |some none=>J.stop i H'
 |some (some d)=>J.go i H'/\∀x H'',J.yld i H' x H''->Ext K H' H'' α' α'/\HR K H'' α' M'/\Rep K H'' α' x d
 |none=>True
def DI(X:Cx)(ξ:XK)(tg iter:Expr)(f:Ro->Sto->Out Src):Prop:=∃wi:TI,PI X tg iter wi/\∀σ ρ H α M R,SR X.K H α σ ρ->HR X.K H α M->OG X.K (Zpg X.K) H α ξ R (f ρ M)->wi σ H R
def iR1(fs:Av):Ro->Sto->Out Src:=λρ M=>(fs ρ M).bind λds M1=>match ds with
 |[.int j]=>.ok (.pur (Za5 0 j.toNat)) M1
 |_=>.bad
theorem Zdr{K:Fg}{lo:Int}:Zpg K H α (Itr lo n) (.pur (Za5 lo n)):=by
 intro i H' α' M' ex hr;show match some (Za5 lo n)[i]? with|some none=>_|some (some d)=>_|none=>True
 by_cases h:i<n
 .rw[ZfZ h];refine⟨h,λx H'' y=>?_⟩;obtain⟨e1,e2⟩:=y;subst e1 e2;exact⟨Ext.refl,hr,.int _⟩
 .rw[a8 (by rw[ZdI];lia)]
  exact Nat.le_of_not_lt h
theorem ZhO(hm:X.mg "range"=none)(ha:DA X ξ [a] fs)(hgl:autoParam (Gl X "range") Qrf._auto_1)(hs:autoParam (av [a] X.env=[(false,eval a X.env)]) Qrf._auto_1):DI X ξ tg (.Call (.Name "range" p) [a] [] pos) (iR1 fs):=by
 obtain⟨ta,pa,qa⟩:=ha;refine⟨_,Zed hgl hm pa hs,λσ ρ H α M R s hh q=>qa σ ρ H α M _ s hh (OG.seq q λds M1 vs H1 α1 e1 h1 r1 w1=>?_)⟩;cases r1 with
 |nil=>exact w1.elim
 |cons r tz=>
  cases tz with
  |cons _ _=>cases r<;>exact w1.elim
  |nil=>
   cases r with
   |int j=>exact⟨j,rfl,w1 _ H1 α1 Ext.refl h1 Zdr⟩
   |_=>exact w1.elim
def iSq(f:Ev):Ro->Sto->Out Src:=λρ M=>(f ρ M).bind λd M1=>match d with
 |.tup ds=>.ok (.pur ds) M1
 |.rol ds=>.ok (.pur ds) M1
 |.ref n=>.ok (.sto n) M1
 |_=>.bad
theorem Zaj(ha:DE X ξ a f):DI X ξ tg a (iSq f):=by
 obtain⟨ta,pa,qa⟩:=ha;refine⟨_,Zle pa,λσ ρ H α M R s hh q=>qa σ ρ H α M _ s hh (OG.seq q λd M1 v H1 α1 e1 h1 r1 w1=>?_)⟩;cases r1 with
 |@tup p xs ds hp rp=>
  refine⟨p,rfl,.inr ⟨⟨xs,(SqT.of hp)⟩,w1 (Itt X.K p) H1 α1 Ext.refl h1 ?_⟩⟩;intro i H' α' M' ex hr;show match some ds[i]? with|some none=>_|some (some d)=>_|none=>True
  cases ei:ds[i]? with
  |none=>exact⟨xs,SqT.of (ex.tup _ _ hp),by rw[rp.length];exact bY.mp ei⟩
  |some d=>
   obtain⟨v,k1,k2⟩:=rp.get ei;refine⟨⟨xs,v,SqT.of (ex.tup _ _ hp),k1⟩,λx H'' y=>?_⟩;obtain⟨ey,y⟩:=y;have z:=y xs (SqT.of (ex.tup _ _ hp));rw[k1]at z;cases z;subst ey;exact⟨Ext.refl,hr,Rep.mono ex k2⟩
 |@rol p xs ds hp rp=>
  refine⟨p,rfl,.inl ⟨⟨xs,hp.sq⟩,w1 (Itl X.K p) H1 α1 Ext.refl h1 ?_⟩⟩;intro i H' α' M' ex hr;show match some ds[i]? with|some none=>_|some (some d)=>_|none=>True
  have hq:=(ex.rol _ _ hp).sq;cases ei:ds[i]? with
  |none=>exact⟨xs,hq,by rw[rp.length];exact bY.mp ei⟩
  |some d=>
   obtain⟨v,k1,k2⟩:=rp.get ei;refine⟨⟨xs,v,hq,k1⟩,λx H'' y=>?_⟩;obtain⟨ey,y⟩:=y;have z:=y xs hq;rw[k1]at z;cases z;subst ey;exact⟨Ext.refl,hr,Rep.mono ex k2⟩
 |@ref p n hp=>
  obtain⟨xs0,g0⟩:=h1.some_at hp;refine⟨p,rfl,.inl ⟨⟨xs0,SqL.of g0⟩,w1 (Itl X.K p) H1 α1 Ext.refl h1 ?_⟩⟩;intro i H' α' M' ex hr;show match(match M'[n]? with|some (.lst xs)=>some xs[i]?|none=>none)with|some none=>_|some (some d)=>_|none=>True
  cases em:M'[n]? with
  |none=>exact eZ
  |some so=>
   cases so with
   |lst ds=>
    obtain⟨xs,g1,g2⟩:=hr.at (ex.get hp) em;show match some ds[i]? with|some none=>_|some (some d)=>_|none=>True
    cases ei:ds[i]? with
    |none=>exact⟨xs,SqL.of g1,by rw[g2.length];exact bY.mp ei⟩
    |some d=>
     obtain⟨v,k1,k2⟩:=g2.get ei;refine⟨⟨xs,v,SqL.of g1,k1⟩,λx H'' y=>?_⟩;obtain⟨ey,y⟩:=y;have z:=y xs (SqL.of g1);rw[k1]at z;cases z;subst ey;exact⟨Ext.refl,hr,k2⟩
 |_=>exact w1.elim
theorem Zak:∀(names:List (Str×dk)) (n:Nat) (acc:List (Str×Addr)),b6 n names acc=b6 n names []++acc
 |[],_,_=>rfl
 | (x,kd)::r,n,acc=>by
  unfold b6;split
  .rw[Zak r (n+1) ((x,n)::acc),Zak r (n+1) [(x,n)]];simp
  .exact Zak r n acc
theorem ZaT:∀(names:List (Str×dk)) (n:Nat) (x:Str) (c:Addr),(x,c)∈b6 n names []->(x,ff)∈names
 |[],_,_,_,h=>by simp[b6]at h
 | (y,kd)::r,n,x,c,h=>by
  unfold b6 at h
  split at h
  .rename_i hk;rw[Zak]at h;rcases be.mp h with h|h
   .exact aF _ (ZaT r (n+1) x c h)
   .have e:=bU.mp h;cases e
    have:kd=.cell:=by simpa using hk
    rw[this];exact bT
  .exact aF _ (ZaT r n x c h)
theorem ZcC{α:Type}:∀{l r:List (Str×α)} {x:Str} {c:α},(l++r).lookup x=some c->l.lookup x=some c\/(l.lookup x=none/\r.lookup x=some c)
 |[],r,x,c,h=>.inr ⟨rfl,h⟩
 | (y,d)::l,r,x,c,h=>by
  rw[bO,cg]at h;rw[cg];cases e:x==y with
  |true=>rw[e]at h;exact .inl h
  |false=>rw[e]at h;exact ZcC h
theorem Zds{α:Type}:∀{l r:List (Str×α)} {x:Str},(∀c,(x,c)∉l)->(l++r).lookup x=r.lookup x
 |[],_,_,_=>rfl
 | (y,d)::l,r,x,h=>by
  rw[bO,cg];cases e:x==y with
  |true=>
   have:x=y:=by simpa using e
   exact absurd (by rw[this];exact bT) (h d)
  |false=>exact Zds λc hc=>h c (aF _ hc)
theorem ZhP(hQ:Q (newEnv scope s.heap.objs.size globals (b6 (s.heap.objs.size+1) scope.names cl) qual none .none (some env) hV) {s with heap:=jc (s.heap.push {cls:=.type "dict",data:=.dict #[]}) scope.names}):wpAny M A (lX scope globals cl [] qual none .none (some env)) Q E s:=by
 simp only[lX,jt,if_true];refine Wb (wpAny_alloc ?_);refine Wb (wpAny_layCells _ (λname kind cells=>by cases hkc:kind==ff<;>simp[hkc]) _ _ _ _ ?_)
 rw[show({s with heap:=s.heap.push {cls:=.type "dict",data:=.dict #[]}}:aC).heap.objs.size=s.heap.objs.size+1 from gf ..];exact Wb (Wp (Wp hQ))
theorem _root_.PySem.W.cellsFrom_mem {x:Str}:∀(names:List (Str×dk)) (n:Nat) (acc:List (Str×Addr)),(x,ff)∈names->((b6 n names acc).lookup x).isSome=true
 |[],_,_,h=>by simp at h
 | (y,kd)::r,n,acc,h=>by
  have acc_some:∀(names:List (Str×dk)) (n:Nat) (acc:List (Str×Addr)),(acc.lookup x).isSome=true->((b6 n names acc).lookup x).isSome=true:=λnames n acc h=>PySem.W.cellsFrom_some names n acc (.inr h);unfold b6;split
  .rcases ay.mp h with e|e
   .cases e;refine acc_some _ _ _ ?_;rw[cg];simp
   .exact PySem.W.cellsFrom_mem r _ _ e
  .rename_i hk;rcases ay.mp h with e|e
   .cases e;simp at hk
   .exact PySem.W.cellsFrom_mem r _ _ e
noncomputable def blk(X:Cx)(scope:ji)(cl:List (Str×Addr))(N:List Str)(C:Addr)(fp:List Addr)(s:aC)(H:Hp):Cx:=
 {X with N:=N,s₀:=s,H₀:=H,env:=compEnvC scope (b6 (C+1) scope.names cl) C X.env,outer:=X.stack,stack:=X.stack,ex:=fp,fn:=λx=>scope.names.any λy=>y.1==x&&y.2 == .cell,pn:=[],xe:=λ_ _=>False,fxs:=none}
theorem Zbd:Thr (blk X scope cl N C fp s H) E0:=
 ⟨fQ.never,λ_ _ _ _ _ _ _ h=>by obtain⟨_,_,_,_,_,_,_,_,_,_,_,_,_,q⟩:=h;exact q,λ_ _ _ _ _ _ _ _ _ _ _ _ _ _ _ _ _ _ _ _ _ _ q=>q⟩
def Zf0(src:Src)(tg:Tg)(c:Tv)(f:Ev)(n:Nat):Nat->Nat->Ro->Sto->Out Unit
 |fuel,i,ρ,M=>match nxt src i M with
  |none=>.bad
  |some none=>.ok () M
  |some (some d)=>(match fuel with
   |0=>.bad
   |fuel+1=>(match tg d ρ with
    |none=>.bad
    |some ρ1=>(match c ρ1 M with
     |.ok true M1=>(match f ρ1 M1 with
      |.ok x M2=>(match M2[n]? with
       |some (.lst xs)=>if xs.length<10000000 then Zf0 src tg c f n fuel (i+1) ρ1 (M2.set n (.lst (xs++[x])))else .bad
       |none=>.bad)
      |_=>.bad)
     |.ok false M1=>Zf0 src tg c f n fuel (i+1) ρ1 M1
     |_=>.bad)))
noncomputable def roB(k:Nat)(fr:List Nat)(ρ:Ro):Ro:=bC k none++fr.map λi=>(ρ[i]?).join
def Zao(fi:Ro->Sto->Out Src)(k:Nat)(fr:List Nat)(tg:Tg)(c:Tv)(f:Ev):Ev:=λρ M=>(fi ρ M).bind λsrc M1=>match Zf0 src tg c f M1.length (cnt src M1) 0 (roB k fr ρ) (M1++[.lst []])with
 |.ok _ M2=>.ok (.ref M1.length) M2
 |_=>.bad
structure Blk(X:Cx) (scope:ji) (cl:List (Str×Addr)) (N:List Str) (k:Nat) (fr:List Nat):Prop where
 clos:mY scope X.env=pure cl
 kind:scope.kind=.function
 names:∀y∈scope.names,y.2=.local->scope.names.lookup y.1=some .local
 sub:∀x c,cl.lookup x=some c->X.env.cells.lookup x=some c
 has:∀n x,((relabel scope X.env).names.lookup x=some .cell\/(relabel scope X.env).names.lookup x=some .free)->∃c,(b6 n scope.names cl).lookup x=some c
 len:N.length=k+fr.length
 at_:∀(j i:Nat),fr[j]?=some i->∃x,N[k+j]?=some x/\X.N[i]?=some x/\X.env.kindOf x=some .cell/\((relabel scope X.env).names.lookup x=some .cell\/(relabel scope X.env).names.lookup x=some .free)/\cl.lookup x=X.env.cells.lookup x/\(x,ff)∉scope.names
noncomputable def ZdK(target iter:Expr)(ifs:List Expr)(it:ae)(env:Env)(body ag:Sem Fin):Sem Fin:=do
 standAt iter.pos
 match <-iG it with
 |none=>pure (.done .next)
 |some v=>
  gS target it v
  assign target env v
  let mut ok:=true
  for c in ifs do
   if ok then ok <-isTrue c env (eval c env)
  if ok then body else ag
noncomputable def ZhQ(e elt:Expr)(d:Nat)(it acc:ae)(env:Env):Sem Fin:=do
 (do let _ <-call (.builtin "list.append") [acc,<-eval elt env])
 again (.compLoop e d it acc env)
theorem Zf1(elt t0 i0:Expr)(f0:List Expr)(sc:ji)(pos:Pos)(it acc:ae)(env:Env):iU (.ListComp elt [⟨t0,i0,f0,0⟩] sc pos) 0 it acc env=ZdK t0 i0 f0 it env (ZhQ (.ListComp elt [⟨t0,i0,f0,0⟩] sc pos) elt 0 it acc env) (again (.compLoop (.ListComp elt [⟨t0,i0,f0,0⟩] sc pos) 0 it acc env)):=by rfl
theorem ZgO(he:iU (.ListComp elt gens scope pos) d it acc env=ZdK target iter ifs it env body (again (.compLoop (.ListComp elt gens scope pos) d it acc env)))(I:Nat->aC->Prop)(turn:∀n s,I n s->wpAny (ao prog w) A (iG it) (λr s₁=>match r with
   |none=>R (.ok .next) s₁
   |some v=>wpAny (ao prog w) A (gS target it v) (λ_ s₁=>wpAny (ao prog w) A (assign target env v) (λ_ s₂=>
     wpAny (ao prog w) A (forIn ifs true λc r=>if r=true then do let ok <-isTrue c env (eval c env);pure (ForInStep.yield ok)else pure (ForInStep.yield r)) (λok s₃=>
      if ok=true then wpAny (ao prog w) A body (λfin s₅=>fin=.again (.compLoop (.ListComp elt gens scope pos) d it acc env)/\∃m,m<n/\I m s₅) (λ_ _=>False) s₃
      else ∃m,m<n/\I m s₃) (λ_ _=>False) s₂) (λ_ _=>False) s₁) (λ_ _=>False) s₁) (λ_ _=>False) s)
  (n:Nat) (h:I n s):
  fH (ao prog w) A (.compLoop (.ListComp elt gens scope pos) d it acc env) R s:=by
 refine codeAny_loop rfl I (λn s hI=>?_) n h;show wpAny _ A ((iU (.ListComp elt gens scope pos) d it acc env).onRaise (λx=>do mD x env;theTreesLotGoes x)) _ _ s
 refine wpAny_noted ?_;rw[he];unfold ZdK;refine Wb (wpAny_standAt (Wb (wpAny_mono (turn n s hI) (λr s₁ h₁=>?_) λ_ _ h'=>h'.elim)));cases r with
 |none=>exact Wp h₁
 |some v=>
  refine Wb (wpAny_mono h₁ (λ_ s₁ h₁=>?_) λ_ _ h'=>h'.elim);refine Wb (wpAny_mono h₁ (λ_ s₂ h₂=>Wb (wpAny_mono h₂ (λok s₃ h₃=>?_) λ_ _ h'=>h'.elim)) λ_ _ h'=>h'.elim);cases ok with
  |false=>exact Wp ⟨rfl,h₃⟩
  |true=>
   refine wpAny_mono h₃ (λfin s₅ h₅=>?_) λ_ _ h'=>h'.elim;obtain⟨rfl,h5⟩:=h₅;exact⟨rfl,h5⟩
def DC(X:Cx)(ifs:List Expr)(c:Tv):Prop:=(ifs=[]/\c=λ_ M=>.ok true M)\/∃e,ifs=[e]/\DT X E0 e c
def ZcD(src:Src)(tg:Tg)(c:Tv)(g:Ro->Sto->Out Ro):Nat->Nat->Ro->Sto->Out Ro
 |fuel,i,ρ,M=>match nxt src i M with
  |none=>.bad
  |some none=>.ok ρ M
  |some (some d)=>(match fuel with
   |0=>.bad
   |fuel+1=>(match tg d ρ with
    |none=>.bad
    |some ρ1=>(match c ρ1 M with
     |.ok true M1=>(match g ρ1 M1 with
      |.ok ρ2 M2=>ZcD src tg c g fuel (i+1) ρ2 M2
      |_=>.bad)
     |.ok false M1=>ZcD src tg c g fuel (i+1) ρ1 M1
     |_=>.bad)))
noncomputable def gEm(f:Ev)(n:Nat):Ro->Sto->Out Ro:=λρ M=>match f ρ M with
 |.ok x M2=>(match M2[n]? with
  |some (.lst xs)=>if xs.length<10000000 then .ok ρ (M2.set n (.lst (xs++[x])))else .bad
  |none=>.bad)
 |_=>.bad
def Zbe(fi:Ro->Sto->Out Src)(k:Nat)(fr:List Nat)(tg:Tg)(c:Tv)(g:Nat->Ro->Sto->Out Ro):Ev:=λρ M=>(fi ρ M).bind λsrc M1=>match ZcD src tg c (g M1.length) (cnt src M1) 0 (roB k fr ρ) (M1++[.lst []])with
 |.ok _ M2=>.ok (.ref M1.length) M2
 |_=>.bad
def Zdt(Y:Cx)(D:Addr)(n0:Nat)(c:Code)(m:Sem Fin)(g:Ro->Sto->Out Ro):Prop:=∀pins s σ ρ H α M ρ' M',Inv Y pins σ H s->SR Y.K H α σ ρ->HR Y.K H α M->RefK H α 0 n0 D->g ρ M=.ok ρ' M'->
 wpAny (ao Y.prog Y.w) Y.A m (λfin s'=>fin=.again c/\∃σ' H' α',Inv Y pins σ' H' s'/\Ext Y.K H H' α α'/\SR Y.K H' α' σ' ρ'/\HR Y.K H' α' M') (λ_ _=>False) s
def CmP(Y:Cx)(pins:Pn)(fp:List Addr)(tn:Nat->Heap->Prop)(H3:Hp)(α3:List Addr)(g:Nat->Nat->Ro->Sto->Prop)(n:Nat)(s':aC):Prop:=
 ∃i σ' ρ' H' α' M',Inv Y pins σ' H' s'/\tn i s'.heap/\(∀b∈fp,H' b=none)/\SR Y.K H' α' σ' ρ'/\HR Y.K H' α' M'/\Ext Y.K H3 H' α3 α'/\g n i ρ' M'
theorem Zev{D:Addr}(hct:iU (.ListComp elt gens scope pos) d0 (.ref it) (.ref D) Y.env=ZdK tg iter ifs (.ref it) Y.env body (again (.compLoop (.ListComp elt gens scope pos) d0 (.ref it) (.ref D) Y.env)))(T:Turn Y.prog Y.w Y.K Y.A tg J fp it tn)(hxe:∀x y,Y.xe x y->False)(fp5:∀{H':Hp},(∀b∈fp,H' b=none)->∀b∈fp,ZeZ Y pins H' b)(hg:DG Y tg gt)(tst:DC Y ifs c)(hb:Zdt Y D n0 (.compLoop (.ListComp elt gens scope pos) d0 (.ref it) (.ref D) Y.env) body g)(sc:Zpg Y.K H3 α3 J src)(aD:RefK H3 α3 0 n0 D)(I4:Inv Y pins σ0 H3 s4)(st4:tn 0 s4.heap)(fr4:∀b∈fp,H3 b=none)(sr:SR Y.K H3 α3 σ0 ρ0)(h3:HR Y.K H3 α3 M3)(er:ZcD src gt c g fuel 0 ρ0 M3=.ok ρ9 M9)(post:∀σ5 H5 α5 s6,Inv Y pins σ5 H5 s6->Ext Y.K H3 H5 α3 α5->SR Y.K H5 α5 σ5 ρ9->HR Y.K H5 α5 M9->R (.ok .next) s6):fH (ao Y.prog Y.w) Y.A (.compLoop (.ListComp elt gens scope pos) d0 (.ref it) (.ref D) Y.env) R s4:=by
 obtain⟨tt,pt,qt⟩:=hg;refine ZgO hct (CmP Y pins fp tn H3 α3 λn i ρ' M'=>ZcD src gt c g n i ρ' M'=.ok ρ9 M9) ?_ fuel ⟨0,σ0,ρ0,H3,α3,M3,I4,st4,fr4,sr,h3,Ext.refl,er⟩;rintro n s5 ⟨i,σ5,ρ5,H5,α5,M5,I5,st5,fr5,sr5,hr5,ex5,en⟩;have src5:=sc i H5 α5 M5 ex5 hr5;rw[ZcD]at en;cases ex:nxt src i M5 with
 |none=>rw[ex]at en;cases en
 |some od=>
  rw[ex]at src5 en;cases od with
  |none=>
   cases en;have fin:=T.done Y rfl rfl rfl rfl i pins s5 σ5 H5 (λ_ _=>False) I5 (fp5 fr5) st5 src5;refine thn fin λr s6 w6=>?_;obtain⟨hr6,I6⟩:=w6;subst hr6;exact post σ5 H5 α5 s6 I6 ex5 sr5 hr5
  |some d=>
   obtain⟨go,yl⟩:=src5;cases n with
   |zero=>cases en
   |succ n=>
    simp only at en;have itm:=T.item Y rfl rfl rfl rfl i pins s5 σ5 H5 (λ_ _=>False) I5 (fp5 fr5) st5 go;refine thn itm λr s6 hz=>?_;obtain⟨u,hr6,w6⟩:=hz;subst hr6;refine thn w6 λ_ s7 hz=>?_;obtain⟨x,H7,I7,r7,y7,st7,fr7⟩:=hz;obtain⟨ex7,hr7,rp7⟩:=yl x H7 y7;have sr5:=sr5.mono ex7;have hr5:=hr7;have ex5:=ex5.trans ex7;have I7':=I7.pinned (fp5 fr7) (T.obj _ _ st7);cases eg:gt d ρ5 with
    |none=>rw[eg]at en;cases en
    |some ρ6=>
     rw[eg]at en;simp only at en;have asg:=pt _ s7 σ5 H7 x u _ I7' r7 (qt x d σ5 ρ5 H7 α5 ρ6 (λσ' H'=>H'=H7/\SR Y.K H7 α5 σ' ρ6) sr5 rp7 eg λσ' s'=>⟨rfl,s'⟩);refine wpAny_mono asg (λ_ s8 hz=>?_) (λx y z=>hxe x y z);obtain⟨σ8,H8,I8,z8,sr8⟩:=hz;subst z8;have again':∀{σ9:L2.St}{H9:Hp}{s9:aC},Inv Y (pins++Zdl fp s7.heap) σ9 H9 s9->Inv Y pins σ9 H9 s9/\tn (i+1) s9.heap/\∀b∈fp,H9 b=none:=λ{σ9 H9 s9} I9=>by
      refine⟨I9.unpinned,T.keep _ _ _ st7 λb hb o e=>(I9.pin (b,o) (aX _ (aX _ (Zbn hb e)))).1,λb hb=>?_⟩;obtain⟨o,e,_⟩:=T.obj _ _ st7 b hb;exact(I9.pin (b,o) (aX _ (aX _ (Zbn hb e)))).2.1
     have after:∀(kk:Bool)(M8:Sto)(H9:Hp)(α9:List Addr)(s9:aC),Inv Y (pins++Zdl fp s7.heap) σ8 H9 s9->Ext Y.K H8 H9 α5 α9->HR Y.K H9 α9 M8->c ρ6 M5=.ok kk M8->
       (if kk=true then wpAny (ao Y.prog Y.w) Y.A body (λfin s₅=>fin=.again (.compLoop (.ListComp elt gens scope pos) d0 (.ref it) (.ref D) Y.env)/\∃m,m<n+1/\CmP Y pins fp tn H3 α3 (λn i ρ' M'=>ZcD src gt c g n i ρ' M'=.ok ρ9 M9) m s₅) (λ_ _=>False) s9 else ∃m,m<n+1/\CmP Y pins fp tn H3 α3 (λn i ρ' M'=>ZcD src gt c g n i ρ' M'=.ok ρ9 M9) m s9):=by
      intro kk M8 H9 α9 s9 I9 ex9 hr9 ec;rw[ec]at en;cases kk with
      |false=>
       obtain⟨a1,a2,a3⟩:=again' I9;exact Zn6 ⟨n,dz n,i+1,σ8,ρ6,H9,α9,M8,a1,a2,a3,sr8.mono ex9,hr9,ex5.trans ex9,en⟩
      |true=>
       simp only at en;refine Zn7 ?_;cases ef:g ρ6 M8 with
       |exc x9 M10=>rw[ef]at en;cases en
       |bad=>rw[ef]at en;cases en
       |ok ρ10 M10=>
        rw[ef]at en;simp only at en;refine thn (hb _ s9 σ8 ρ6 H9 α9 M8 ρ10 M10 I9 (sr8.mono ex9) hr9 (ex9.get (ex5.get aD)) ef) λfin s10 hz=>?_;obtain⟨hf,σ10,H10,α10,I10,ex10,sr10,hr10⟩:=hz;obtain⟨a1,a2,a3⟩:=again' I10;exact⟨hf,n,dz n,i+1,σ10,ρ10,H10,α10,M10,a1,a2,a3,sr10,hr10,(ex5.trans ex9).trans ex10,en⟩
     rcases tst with⟨rfl,ec⟩|⟨e,rfl,tt',ptt,qtt⟩
     .refine wpAny_tests_nil ?_;exact after true M5 H8 α5 s8 I8 Ext.refl hr5 (by rw[ec])
     .refine wpAny_tests_one ?_;cases ec:c ρ6 M5 with
      |exc x9 M10=>rw[ec]at en;cases en
      |bad=>rw[ec]at en;cases en
      |ok kk M8=>
       have tv':=ptt _ s8 σ8 H8 (λb H'=>b=kk/\∃α',Ext Y.K H8 H' α5 α'/\HR Y.K H' α' M8) I8 (qtt σ8 ρ6 H8 α5 M5 _ sr8 hr5 (by
        rw[ec];exact λv H' α' e h r=>⟨r,α',e,h⟩))
       refine wpAny_mono tv' (λb s9 hz=>?_) (λx y z=>hxe x y z);obtain⟨H9,I9,zb,α9,ex9,hr9⟩:=hz;subst zb;exact after b M8 H9 α9 s9 I9 ex9 hr9 ec
theorem ZcU{D:Addr}(hxe:∀x y,Y.xe x y->False)(he:DE Y E0 elt f):Zdt Y D n0 (.compLoop e d0 (.ref it) (.ref D) Y.env) (ZhQ e elt d0 (.ref it) (.ref D) Y.env) (gEm f n0):=by
 obtain⟨te,pe,qe⟩:=he;intro pins s σ ρ H α M ρ' M' I sr hr aD en;unfold gEm at en;cases ef:f ρ M with
 |exc x9 M10=>rw[ef]at en;cases en
 |bad=>rw[ef]at en;cases en
 |ok y M10=>
  rw[ef]at en;simp only at en;have ev:=pe _ s σ H (λv H'=>∃α',Ext Y.K H H' α α'/\HR Y.K H' α' M10/\Rep Y.K H' α' v y) I (qe σ ρ H α M _ sr hr (by
   rw[ef];exact λv H' α' e h r=>⟨α',e,h,r⟩))
  unfold ZhQ;refine Wb (Wb (wpAny_mono ev (λyv s10 hz=>?_) (λx y z=>hxe x y z)));obtain⟨v,H10,I10,r10,α10,ex10,hr10,rp10⟩:=hz;cases em:M10[n0]? with
  |none=>rw[em]at en;cases en
  |some so=>
   cases so with
   |lst ds=>
    rw[em]at en;simp only at en;by_cases cz:ds.length<10000000
    .rw[if_pos cz]at en;cases en;have aD10:=ex10.get aD;obtain⟨xs,g1,g2⟩:=hr10.at aD10 em;have ap:=Zel (X:=Y) _ s10 σ H10 (.ref D) [v] (.ref D) [yv] (λ_ H'=>H'=upd H10 D (.lst (xs++[v]))) I10 rfl (.cons r10 .nil) ⟨D,xs,v,rfl,rfl,g1,by rw[g2.length];exact am cz (by decide),rfl⟩
     refine Wb (wpAny_mono ap (λ_ s11 hz=>?_) (λx y z=>hxe x y z));obtain⟨v11,H11,I11,_,z11⟩:=hz;subst z11;have exw:Ext Y.K H10 (upd H10 D (.lst (xs++[v]))) α10 α10:=Ext.wr g1;exact Wp (Wp ⟨rfl,σ,_,α10,I11,ex10.trans exw,(sr.mono ex10).mono exw,hr10.wr aD10 g1 (g2.append (.cons rp10 .nil))⟩)
    .rw[if_neg cz]at en;cases en
section
variable {tg:Expr}{Zae:List Comprehension}{scope:ji}{g:Nat->Ro->Sto->Out Ro}{bd:ae->ae->Env->Sem Fin}
theorem join_some{α:Type}{o:Option (Option α)}{v:α}(h:o.join=some v):o=some (some v):=by
 cases o with
 |none=>cases h
 |some x=>cases x with
  |none=>cases h
  |some y=>cases h;rfl
theorem ZmF(h:(roB k fr ρ)[i]?=some (some d)):∃j r,i=k+j/\fr[j]?=some r/\ρ[r]?=some (some d):=by
 unfold roB at h;by_cases hi:i<k
 .rw[aB (by rw[bW];exact hi)]at h
  have:=c7 h
  rw[ju]at this;cases this.2
 .rw[aH (by rw[bW];lia),bW,bn]at h
  cases e:fr[i-k]? with
  |none=>rw[e]at h;cases h
  |some r=>
   rw[e]at h;exact⟨i-k,r,⋯,e,join_some (aM h)⟩
noncomputable def stB(k:Nat)(fr:List Nat)(σ:L2.St):L2.St:=bC k none++fr.map λi=>(σ[i]?).join
theorem ZmG(h:(stB k fr σ)[i]?=some (some d)):∃j r,i=k+j/\fr[j]?=some r/\σ[r]?=some (some d):=by
 unfold stB at h;by_cases hi:i<k
 .rw[aB (by rw[bW];exact hi)]at h
  have:=c7 h
  rw[ju]at this;cases this.2
 .rw[aH (by rw[bW];lia),bW,bn]at h
  cases e:fr[i-k]? with
  |none=>rw[e]at h;cases h
  |some r=>
   rw[e]at h;exact⟨i-k,r,⋯,e,join_some (aM h)⟩
theorem SR.blk{K:Fg}(h:SR K H α σ ρ):SR K H α (stB k fr σ) (roB k fr ρ):=by
 refine⟨by simp[stB,roB],λi d e=>?_⟩
 obtain⟨j,r,rfl,e1,e2⟩:=ZmF e;obtain⟨v,e3,e4⟩:=h.2 r d e2;refine⟨v,?_,e4⟩;unfold stB;rw[aH (by rw[bW];lia),bW,bn,Nat.add_sub_cancel_left,e1]
 show some (σ[r]?).join=_;rw[e3];rfl
theorem Zj8(h:Heap):CellsOk (jc (h.push {cls:=.type "dict",data:=.dict #[]}) scope.names) (h.objs.size+1) (b6 (h.objs.size+1) scope.names []):=by
 have:=cellsFrom_ok scope.names (h.push {cls:=.type "dict",data:=.dict #[]}) (h.objs.size+1) [] ⟨λ_ _ hm=>(nomatch hm),mO.nil⟩ (by rw[gf];exact aj _)
 rw[gf]at this;exact this
theorem ZbP(B:Blk X scope cl N k fr){h:Heap}(e:(b6 (h.objs.size+1) scope.names cl).lookup x=some c):(X.env.cells.lookup x=some c)\/((x,c)∈b6 (h.objs.size+1) scope.names []/\h.objs.size+1<=c):=by
 rw[Zak]at e;rcases ZcC e with z|⟨_,z⟩
 .have m:=PySem.mem_of_lookup z;exact .inr ⟨m,((Zj8 h).empty x c m).2⟩
 .exact .inl (B.sub x c z)
theorem Zlg(B:Blk X scope cl N k fr){fp:List Addr}(I:Inv X pins σ H s)(hf:∀b∈fp,ZeZ X pins H b)(hlt:∀b∈fp,b<s.heap.objs.size)(hb:b∈fp)(h:(b6 (s.heap.objs.size+1) scope.names cl).lookup x=some c):c≠b:=by
 rcases ZbP B h with z|⟨_,z⟩
 .exact(hf b hb).2.2.2.2.1 x c z
 .exact bG (ir (hlt b hb) z)
theorem Zlh(B:Blk X scope cl N k fr)(I:Inv X pins σ H s)(hf:∀b∈fp,ZeZ X pins H b)(hlt:∀b∈fp,b<s.heap.objs.size):(blk X scope cl N s.heap.objs.size fp s H).Ok where
 mod:=I.ok.mod
 kind:=B.kind
 glob:=I.ok.glob
 blt:=I.ok.blt
 above:=aj _
 inj:=λx y c h1 h2=>by
  have old:∀{x c},X.env.cells.lookup x=some c->c<s.heap.objs.size:=λ{x c} e=>by
   obtain⟨v,q⟩:=I.cell x c e;exact q.lt
  rcases ZbP B h1 with z|⟨m1,z⟩<;>rcases ZbP B h2 with w|⟨m2,w⟩
  .exact I.ok.inj x y c z w
  .exact absurd (ir (old z) w) (b7 _)
  .exact absurd (ir (old w) z) (b7 _)
  .exact name_of_addr (Zj8 (scope:=scope) s.heap).apart m1 m2
 has:=λx h=>B.has _ x h
 cab:=λx c h e=>by
  obtain⟨y,hy,hz⟩:=List.any_eq_true.mp h;simp only[bE,beq_iff_eq]at hz;have e':(b6 (s.heap.objs.size+1) scope.names []++cl).lookup x=some c:=by rw[<-Zak];exact e
  have hs:=PySem.W.cellsFrom_mem scope.names (s.heap.objs.size+1) [] (x:=x) (by rw[<-hz.1,<-hz.2];exact hy)
  rcases ZcC e' with z|⟨z,_⟩
  .exact dC ((Zj8 (scope:=scope) s.heap).empty x c (PySem.mem_of_lookup z)).2
  .rw[z]at hs;cases hs
 hd:=I.ok.hd
 frames:=I.ok.frames
 stk:=.inl rfl
 exf:=λb hb=>⟨aE (hlt b hb),λx c h=>Zlg B I hf hlt hb h⟩
 bs:=I.bs
 bsz:=aZ I.ok.bsz I.sz
 noex:=λb o e hb=>by
  rcases(hf b hb).2.2.2.1 with z|z
  .exact I.ok.noex b o e z
  .exact absurd (am (Hz (I.ok.bs b o e).1) z) (b7 _)
 exfs:=λb hb z=>by
  rcases ay.mp (I.stkSub b z)with e|e
  .exact(hf b hb).2.1 e
  .exact(hf b hb).2.2.1 e
 funs:=I.stack
 frf:=I.stkFree
 tb:=I.ok.tb.un I.base
theorem ZmH(B:Blk X scope cl N k fr)(I:Inv X pins σ H s)(hf:∀b∈fp,ZeZ X pins H b)(hlt:∀b∈fp,b<s.heap.objs.size):Inv (blk X scope cl N s.heap.objs.size fp s H) [] (stB k fr σ) H {s with heap:=jc (s.heap.push {cls:=.type "dict",data:=.dict #[]}) scope.names}:=by
 have hk:∀b o,s.heap.get? b=some o->(jc (s.heap.push {cls:=.type "dict",data:=.dict #[]}) scope.names).get? b=some o:=λb o e=>k7 _ _ b o (Hq _ e);have hn:(jc (s.heap.push {cls:=.type "dict",data:=.dict #[]}) scope.names).Ns s.heap.objs.size (λ_=>none):=(nX.Ns.new s.heap (.type "dict")).keeps (k7 _ _);have nw:=Zj8 (scope:=scope) s.heap;exact {
  ok:=Zlh B I hf hlt
  os:=rfl
  bare:=I.bare
  base:=Un.kept hk
  loc:=by
   refine⟨_,hn,λi x v e1 e2 e3=>?_⟩;obtain⟨j,r,rfl,g1,g2⟩:=ZmG e2;obtain⟨y,k1,k2,k3,k4,k5,k6⟩:=B.at_ j r g1;have exy:x=y:=aM (e1.symm.trans k1);subst exy;obtain⟨m0,hm0,hl⟩:=I.loc;obtain⟨u,ru,lk⟩:=hl r x v k2 g2 (.inr (.inl k3));refine⟨u,ru,?_⟩;rcases lk with⟨z,_⟩|⟨_,c,z1,⟨o,z2,z3⟩⟩
   .rw[k3]at z;cases z
   .refine .inr ⟨k4,c,?_,⟨o,hk _ _ z2,z3⟩⟩;show(b6 (s.heap.objs.size+1) scope.names cl).lookup x=some c;rw[Zak,Zds λc' hc'=>k6 (ZaT _ _ _ _ hc')];exact k5.trans z1
  cell:=λx c h=>by
   rcases ZbP B h with z|⟨m,_⟩
   .obtain⟨v,o,e1,e2⟩:=I.cell x c z;exact⟨v,o,hk _ _ e1,e2⟩
   .exact⟨none,(nw.empty x c m).1⟩
  free:=I.fresh
  freeC:=λx c h=>by
   rcases ZbP B h with z|⟨_,z⟩
   .exact I.freeC x c z
   .exact I.hok.fresh (dC z)
  pin:=λp hp=>(by simp[blk]at hp)
  hok:=I.hok.kept hk
  len:=by
   show(stB k fr σ).length=N.length;rw[B.len];simp[stB]
  qd:=I.qd
  fx:=.free rfl}
theorem Zj9(B:Blk X scope cl N k fr)(I3:Inv X pins σ H3 s3)(f3:∀b∈fp,ZeZ X pins H3 b)(I6:Inv (blk X scope cl N s3.heap.objs.size fp s3 H3) [] σ5 H5 s6):Inv X pins σ H5 s6/\∀(σ':L2.St)(s8:aC)(h':Heap),Inv X pins σ' H5 s8->(∀b o,b≠s3.heap.objs.size->s8.heap.get? b=some o->h'.get? b=some o)->Inv X pins σ' H5 {s8 with heap:=h',toks:=s8.toks}:=by
 refine⟨I3.call' (s':=s6) (ch:=fp) I6.os I6.base I6.hok I6.bare λb hb=>?_,λσ' s8 h' I8 sb=>?_⟩
 .obtain⟨_,z1,z2,z3,z4,z5⟩:=f3 b hb;exact⟨z3,z1,z4,z5⟩
 .exact I8.turned (it:=s3.heap.objs.size) sb I6.free (bG I3.lt) (.inr I3.sz)
   (λx c h z=>by
    obtain⟨v,o,e,_⟩:=I3.cell x c h;exact absurd (Hz e) (by rw[z];exact b7 _)) (λp hp z=>by
    have:=(I3.pin p hp).1
    exact absurd (Hz this) (by rw[z];exact b7 _))
theorem Zf2(B:Blk X scope cl N k fr)(pi:PI X tg iter wi)(hg:∀C fp s H,DG (blk X scope cl N C fp s H) tg gt)(ht:∀C fp s H,DC (blk X scope cl N C fp s H) ifs c)(hct:∀it acc env,iU (.ListComp elt (⟨tg,iter,ifs,0⟩::Zae) scope pos) 0 it acc env=ZdK tg iter ifs it env (bd it acc env) (again (.compLoop (.ListComp elt (⟨tg,iter,ifs,0⟩::Zae) scope pos) 0 it acc env)))(he:∀C fp s H (D n0:Nat) (it:Addr),Zdt (blk X scope cl N C fp s H) D n0 (.compLoop (.ListComp elt (⟨tg,iter,ifs,0⟩::Zae) scope pos) 0 (.ref it) (.ref D) (blk X scope cl N C fp s H).env) (bd (.ref it) (.ref D) (blk X scope cl N C fp s H).env) (g n0))(hs:∀x,foldedSetIterable iter X.env x=pure x)(sr:SR X.K H α σ ρ)(I:Inv X pins σ H s)(w:wi σ H λJ H2=>∃α2 M2 src ρ9 M9,Ext X.K H H2 α α2/\HR X.K H2 α2 M2/\Zpg X.K H2 α2 J src/\ZcD src gt c (g M2.length) (cnt src M2) 0 (roB k fr ρ) (M2++[.lst []])=.ok ρ9 M9/\∀(D C:Addr) H5 α5 s6 m6,Ext X.K H2 H5 α2 α5->HR X.K H5 α5 M9->RefK H5 α5 0 M2.length D->Inv X pins σ H5 s6->s6.heap.Ns C m6->C≠X.env.locals->(∀x,X.env.cells.lookup x≠some C)->(∀(σ':L2.St)(s8:aC)(h':Heap),Inv X pins σ' H5 s8->(∀b o,b≠C->s8.heap.get? b=some o->h'.get? b=some o)->Inv X pins σ' H5 {s8 with heap:=h',toks:=s8.toks})->compPost (ao X.prog X.w) X.A X.xe use P (.ref D) C (.ok .next) s6):wpAny (ao X.prog X.w) X.A (comprehension (.ListComp elt (⟨tg,iter,ifs,0⟩::Zae) scope pos) scope X.env pos' (newList []) false (eval iter X.env) use) P X.xe s:=by
 refine wpAny_comprehension_free rfl hs B.clos B.kind B.names ?_;refine thn (pi pins s σ H _ I w) λv s1 w1=>thn w1 λitv s2 w2=>?_;obtain⟨it,fp,tn,J,H2,rfl,I2,T,st2,f2,α2,M2,src,ρ9,M9,e2,h2,sc,er,op2⟩:=w2;have srI:=sr.mono e2;refine cD ?_;have I3:Inv X pins σ (upd H2 s2.heap.objs.size (.lst [])) {s2 with heap:=s2.heap.push {cls:=.type "list",data:=.seq ([]:List ae).toArray}}:=I2.lnew (its:=[]) (t':=s2.toks) .nil (cH _);have fD:H2 s2.heap.objs.size=none:=I2.fresh;generalize hD:s2.heap.objs.size=D at I3 fD;generalize hs3:({s2 with heap:=s2.heap.push {cls:=.type "list",data:=.seq ([]:List ae).toArray}}:aC)=s3 at I3;generalize hH3:upd H2 D (.lst [])=H3 at I3;have h3:HR X.K H3 (α2++[D]) (M2++[.lst []]):=by rw[<-hH3];exact h2.new fD .nil
 have e3:Ext X.K H2 H3 α2 (α2++[D]):=by rw[<-hH3];exact Ext.new fD
 have aD:RefK H3 (α2++[D]) 0 M2.length D:=⟨h2.last D,by first|exact Kn.lst ZB|(rw[<-hH3];exact Kn.lst ZB)⟩
 have lt2:∀b∈fp,b<s2.heap.objs.size:=λb hb=>let ⟨o,e,_⟩:=T.obj _ _ st2 b hb;Hz e;have keep3:∀b o,s2.heap.get? b=some o->s3.heap.get? b=some o:=λb o e=>by rw[<-hs3];exact Hq _ e
 have f3:∀b∈fp,ZeZ X pins H3 b:=λb hb=>⟨by rw[<-hH3,ZJ (by rw[<-hD];exact aE (lt2 b hb))];exact(f2 b hb).1,(f2 b hb).2⟩
 have lt3:∀b∈fp,b<s3.heap.objs.size:=λb hb=>let ⟨o,e,_⟩:=T.obj _ _ st2 b hb;Hz (keep3 b o e);have st3:tn 0 s3.heap:=T.keep _ _ _ st2 λb _ o e=>keep3 b o e;refine ZhP ?_;have keep4:∀b o,s3.heap.get? b=some o->(jc (s3.heap.push {cls:=.type "dict",data:=.dict #[]}) scope.names).get? b=some o:=λb o e=>k7 _ _ b o (Hq _ e);have I4:=ZmH B I3 f3 lt3;generalize jc (s3.heap.push {cls:=.type "dict",data:=.dict #[]}) scope.names=h₁ at keep4 I4;have st4:tn 0 h₁:=T.keep _ _ _ st3 λb _ o e=>keep4 b o e;have fp5:∀{H':Hp},(∀b∈fp,H' b=none)->∀b∈fp,ZeZ (blk X scope cl N s3.heap.objs.size fp s3 H3) [] H' b:=λhn b hb=>⟨hn b hb,aE (lt3 b hb),(Zlh B I3 f3 lt3).exfs b hb,.inl hb,λx c h=>Zlg B I3 f3 lt3 hb h,λp hp=>(by simp[blk]at hp)⟩
 have loop:fH (ao X.prog X.w) X.A (.compLoop (.ListComp elt (⟨tg,iter,ifs,0⟩::Zae) scope pos) 0 (.ref it) (.ref D) (compEnvC scope (b6 (s3.heap.objs.size+1) scope.names cl) s3.heap.objs.size X.env)) (compPost (ao X.prog X.w) X.A X.xe use P (.ref D) s3.heap.objs.size) {s3 with heap:=h₁}:=by
  refine Zev (Y:=blk X scope cl N s3.heap.objs.size fp s3 H3) (hct _ _ _) T (λ_ _ z=>z) fp5 (hg _ fp s3 H3) (ht _ fp s3 H3) (he _ fp s3 H3 D M2.length it) (λi H' α' M' ex hr=>sc i H' α' M' (e3.trans ex) hr) aD I4 st4 (λb hb=>(f3 b hb).1) ((srI.blk).mono e3) h3 er ?_;intro σ5 H5 α5 s6 I6 ex5 sr5 hr5;obtain⟨I7,I8⟩:=Zj9 B I3 f3 I6;obtain⟨m6,hm6,_⟩:=id I6.loc;exact op2 D _ H5 α5 s6 m6 (e3.trans ex5) hr5 (ex5.get aD) I7 hm6 (bG I3.lt) (λx h=>by
   obtain⟨v,o,e,_⟩:=I3.cell x _ h;exact absurd (Hz e) (b7 _)) I8
 exact codeAny_compStart_list loop (T.self X.A 0 _ _ _ st4 loop)
theorem Zf3(B:Blk X scope cl N k fr)(hi:DI X ξ tg iter fi)(hg:∀C fp s H,DG (blk X scope cl N C fp s H) tg gt)(ht:∀C fp s H,DC (blk X scope cl N C fp s H) ifs c)(hct:∀it acc env,iU (.ListComp elt (⟨tg,iter,ifs,0⟩::Zae) scope pos) 0 it acc env=ZdK tg iter ifs it env (bd it acc env) (again (.compLoop (.ListComp elt (⟨tg,iter,ifs,0⟩::Zae) scope pos) 0 it acc env)))(he:∀C fp s H (D n0:Nat) (it:Addr),Zdt (blk X scope cl N C fp s H) D n0 (.compLoop (.ListComp elt (⟨tg,iter,ifs,0⟩::Zae) scope pos) 0 (.ref it) (.ref D) (blk X scope cl N C fp s H).env) (bd (.ref it) (.ref D) (blk X scope cl N C fp s H).env) (g n0))(hs:∀x,foldedSetIterable iter X.env x=pure x):DE X ξ (.ListComp elt (⟨tg,iter,ifs,0⟩::Zae) scope pos) (Zbe fi k fr gt c g):=by
 obtain⟨wi,pi,qi⟩:=hi;refine⟨λσ H Q=>∃ρ α M,SR X.K H α σ ρ/\HR X.K H α M/\OP X.K H α ξ Q (Zbe fi k fr gt c g ρ M),?_,λσ ρ H α M Q s h q=>⟨ρ,α,M,s,h,q⟩⟩;rintro pins s σ H Q I ⟨ρ,α,M,sr,hr,op⟩;rw[eval_ListComp];refine Zf2 B pi hg ht hct he hs sr I (qi σ ρ H α M _ sr hr (OG.seq op λsrc M1 J H1 α1 e1 h1 r1 q1=>?_));cases er:ZcD src gt c (g M1.length) (cnt src M1) 0 (roB k fr ρ) (M1++[.lst []])with
 |ok u9 M9=>
  rw[er]at q1;exact⟨α1,M1,src,u9,M9,e1,h1,r1,er,λD C H5 α5 s6 m6 ex5 hr5 aD I7 hm6 _ _ I8=>⟨m6,hm6,λh' sb=>⟨.ref D,H5,I8 σ s6 h' I7 (λb o hb e=>(sb.2 b hb).trans e),rfl,q1 _ H5 α5 ex5 hr5 (.ref aD)⟩⟩⟩
 |_=>rw[er]at q1;exact q1.elim
theorem Zph{tg:Tg}:∀(fuel i:Nat)(ρ:Ro)(M:Sto),Zf0 src tg c f n fuel i ρ M=(ZcD src tg c (gEm f n) fuel i ρ M).bind λ_ M=>.ok () M:=by
 intro fuel
 induction fuel with
 |zero=>
  intro i ρ M;rw[Zf0,ZcD];rcases nxt src i M with _|_|d<;>rfl
 |succ fuel ih=>
  intro i ρ M;rw[Zf0,ZcD];rcases nxt src i M with _|_|d
  .rfl
  .rfl
  .dsimp only;cases tg d ρ with
   |none=>rfl
   |some ρ1=>
    dsimp only;rcases c ρ1 M with⟨_|_,M1⟩|_|_
    .exact ih _ _ _
    .dsimp only[gEm];rcases f ρ1 M1 with⟨x,M2⟩|_|_
     .dsimp only;rcases M2[n]? with _|⟨xs⟩
      .rfl
      .dsimp only;split
       .exact ih _ _ _
       .rfl
     .rfl
     .rfl
    .rfl
    .rfl
theorem Zf4:Zao fi k fr gt c f=Zbe fi k fr gt c (gEm f):=by
 funext ρ M;unfold Zao Zbe;congr 1;funext src M1;rw[Zph];cases ZcD src gt c (gEm f M1.length) (cnt src M1) 0 (roB k fr ρ) (M1++[.lst []])<;>rfl
theorem Zat(B:Blk X scope cl N k fr)(hi:DI X ξ tg iter fi)(h:Blk X scope cl N k fr->∀C fp s H,DG (blk X scope cl N C fp s H) tg gt/\DC (blk X scope cl N C fp s H) ifs c/\DE (blk X scope cl N C fp s H) E0 elt f)(hs:autoParam (∀x,foldedSetIterable iter X.env x=pure x) Qin._auto_1):DE X ξ (.ListComp elt [⟨tg,iter,ifs,0⟩] scope pos) (Zao fi k fr gt c f):=
 Zf4▸Zf3 B hi (λC fp s H=>(h B C fp s H).1) (λC fp s H=>(h B C fp s H).2.1) (Zf1 elt tg iter ifs scope pos) (λC fp s H D n0 it=>ZcU (λ_ _ z=>z) (h B C fp s H).2.2) hs
end
theorem ZrP{names:List (Str×dk)}{env:Env}(h:names.all (λy=>y.2 != .cell&&y.2 != .free)=true):(names.map λ(n,k)=>if(k==dZ&&env.scope.kind == .function&&env.kindOf n==some .cell)then(n,ff)else(n,k))=names:=by
 induction names with
 |nil=>rfl
 |cons y r ih=>
  rw[List.all_cons,bE]at h;obtain⟨n,kd⟩:=y;have hk:(kd==dZ)=false:=by
   have h1:=h.1;rw[bE]at h1;have h2:=h1.2;cases kd<;>first|rfl|simp at h2
  rw[aK,ih h.2];simp[hk]
theorem Ze8{env:Env}:∀(names:List (Str×dk)) (acc:List (Str×Addr)),(∀y∈names,y.2=.free->∃c,env.cells.lookup y.1=some c)->(forIn names acc λ(x:Str×dk) (cs:List (Str×Addr))=>if x.2==dZ then(do let a <-cellOf env x.1;pure (ForInStep.yield ((x.1,a)::cs)))else(pure (ForInStep.yield cs):Sem _))=
   (pure (((names.filter λy=>y.2 == .free).map λy=>(y.1,(env.cells.lookup y.1).getD 0)).reverse++acc):Sem (List (Str×Addr)))
 |[],acc,_=>by simp
 | (n,kd)::r,acc,h=>by
  rw[List.forIn_cons];by_cases hk:(kd==dZ)=true
  .obtain⟨c,hc⟩:=h (n,kd) bT (by simpa using hk)
   have e1:cellOf env n=pure c:=by unfold cellOf;rw[hc]
   have ih:=Ze8 r ((n,c)::acc) λy hy=>h y (aF _ hy);simp only[hk,if_true,e1,pure_bind];refine Eq.trans ih ?_;simp[iI,hk,hc]
  .have ih:=Ze8 r acc λy hy=>h y (aF _ hy);simp only[hk,if_false,pure_bind];refine Eq.trans ih ?_;simp[iI,hk]
noncomputable def clF(scope:ji)(env:Env):List (Str×Addr):=((scope.names.filter λy=>y.2 == .free).map λy=>(y.1,(env.cells.lookup y.1).getD 0)).reverse
theorem Zdu{env:Env}:∀{l:List (Str×dk)} {x:Str} {c:Addr},(l.map λy=>(y.1,(env.cells.lookup y.1).getD 0)).lookup x=some c->c=(env.cells.lookup x).getD 0/\∃y∈l,y.1=x
 |[],x,c,h=>by simp at h
 |y::r,x,c,h=>by
  rw[aK,cg]at h;cases e:x==y.1 with
  |true=>
   rw[e]at h;have ex:x=y.1:=by simpa using e
   cases h;exact⟨by rw[ex],y,bT,ex.symm⟩
  |false=>
   rw[e]at h;obtain⟨h1,z,h2,h3⟩:=Zdu h;exact⟨h1,z,aF _ h2,h3⟩
theorem ZbQ{α:Type}:∀{l:List (Str×α)} {x:Str},(∃y∈l,y.1=x)->∃c,l.lookup x=some c
 |[],x,h=>by obtain⟨y,h1,_⟩:=h;simp at h1
 |z::r,x,h=>by
  rw[cg];cases e:x==z.1 with
  |true=>exact⟨_,rfl⟩
  |false=>
   obtain⟨y,h1,h2⟩:=h;rcases ay.mp h1 with q|q
   .subst q;rw[h2]at e;simp at e
   .exact ZbQ ⟨y,q,h2⟩
theorem Zaf{env:Env}(nc:∀n,env.scope.names.lookup n=env.kindOf n):∀{names:List (Str×dk)} {x:Str} {kd:dk},(names.map λ(n,k)=>if(k==dZ&&env.scope.kind == .function&&env.kindOf n==some .cell)then(n,ff)else(n,k)).lookup x=some kd->names.lookup x=some kd\/(names.lookup x=some .free/\kd=.cell)
 |[],x,kd,h=>by simp at h
 | (n,q)::r,x,kd,h=>by
  rw[aK,cg]at h;rw[cg];dsimp only at h ⊢;by_cases c:(q==dZ&&env.scope.kind == .function&&env.kindOf n==some .cell)=true
  .rw[if_pos c]at h;dsimp only at h;cases e:x==n with
   |true=>
    rw[e]at h;cases h;simp only[bE,beq_iff_eq]at c;exact .inr ⟨by rw[c.1.1],rfl⟩
   |false=>rw[e]at h;exact Zaf nc h
  .rw[if_neg c]at h;dsimp only at h;cases e:x==n with
   |true=>rw[e]at h;exact .inl h
   |false=>rw[e]at h;exact Zaf nc h
theorem ZaC{env:Env}:∀{names:List (Str×dk)} {x:Str},names.lookup x=some .free->(∃kd,(kd=ff\/kd=dZ)/\(names.map λ(n,k)=>if(k==dZ&&env.scope.kind == .function&&env.kindOf n==some .cell)then(n,ff)else(n,k)).lookup x=some kd)
 |[],x,h=>by simp at h
 | (n,q)::r,x,h=>by
  rw[cg]at h;rw[aK,cg];by_cases c:(q==dZ&&env.scope.kind == .function&&env.kindOf n==some .cell)=true
  .dsimp only;rw[if_pos c];cases e:x==n with
   |true=>exact⟨_,.inl rfl,rfl⟩
   |false=>rw[e]at h;exact ZaC h
  .dsimp only;rw[if_neg c];cases e:x==n with
   |true=>rw[e]at h;exact⟨q,.inr (aM h),rfl⟩
   |false=>rw[e]at h;exact ZaC h
noncomputable def Zpi(XN N:List Str)(dn sn:List (Str×dk))(k:Nat)(fr:List Nat):Bool:=
 (sn.all λy=>(y.2 != .free||dn.lookup y.1==some .cell)&&(y.2 != .local||sn.lookup y.1==some .local))&&N.length==k+fr.length &&
  (aI fr.length).all λj=>match fr[j]? with
   |some i=>(match N[k+j]?,XN[i]? with|some x,some y=>x==y&&dn.lookup x==some .cell&&sn.lookup x==some .free&&sn.all (λy=> !(y.1==x&&y.2 == .cell))|_,_=>false)
   |none=>false
theorem ZvG(hN:X.N=XN)(hd:X.env.scope.names=dn)(cel:∀x,dn.lookup x=some .cell->∃c,X.env.cells.lookup x=some c)(hk:scope.kind=.function)(h:Zpi XN N dn scope.names k fr=true):Blk X scope (clF scope X.env) N k fr:=by
 unfold Zpi at h;simp only[bE,c9,bne_iff_ne,ne_eq,Bool.or_eq_true,beq_iff_eq]at h;obtain⟨⟨h1,h2⟩,h3⟩:=h;have kind:∀x,X.env.kindOf x=dn.lookup x:=λx=>by rw[<-hd];rfl
 have frc:∀y∈scope.names,y.2=.free->∃c,X.env.cells.lookup y.1=some c:=λy hy e=>by
  rcases(h1 y hy).1 with z|z
  .exact absurd e z
  .exact cel _ z
 have sub:∀x c,(clF scope X.env).lookup x=some c->X.env.cells.lookup x=some c:=λx c e=>by
  unfold clF at e;rw[<-List.map_reverse]at e;obtain⟨e1,y,e2,e3⟩:=Zdu e;have e4:=iW.mp (iK.mp e2);obtain⟨c',g⟩:=frc y e4.1 (by simpa using e4.2)
  rw[e3]at g;rw[g]at e1 ⊢;rw[e1];rfl
 have has:∀x,scope.names.lookup x=some .free->∃c,(clF scope X.env).lookup x=some c:=λx e=>by
  refine ZbQ ?_;have m:=PySem.mem_of_lookup e;exact⟨(x,(X.env.cells.lookup x).getD 0),iK.mpr (aV.mpr ⟨(x,.free),iW.mpr ⟨m,by simp⟩,rfl⟩),rfl⟩
 refine⟨?_,hk,λy hy e=>?_,sub,λn x z=>?_,h2,λj i e=>?_⟩
 .have:=Ze8 (env:=X.env) scope.names [] frc
  rw[cJ]at this;unfold mY;exact(congrArg (λ(m:Sem (List (Str×Addr)))=>m >>= λcs=>(pure cs:Sem (List (Str×Addr)))) this).trans (pure_bind _ _)
 .rcases(h1 y hy).2 with z|z
  .exact absurd e z
  .exact z
 .have nc:∀m,X.env.scope.names.lookup m=X.env.kindOf m:=λm=>rfl;have own:scope.names.lookup x=some .cell->∃c,(b6 n scope.names (clF scope X.env)).lookup x=some c:=λe=>eV.mp (PySem.W.cellsFrom_some scope.names n _ (.inl e));have oth:scope.names.lookup x=some .free->∃c,(b6 n scope.names (clF scope X.env)).lookup x=some c:=λe=>by
   obtain⟨c,hc⟩:=has x e;exact eV.mp (PySem.W.cellsFrom_some scope.names n _ (.inr (by rw[hc];rfl)))
  rcases z with z|z
  .rcases Zaf nc z with q|q
   .exact own q
   .exact oth q.1
  .rcases Zaf nc z with q|q
   .exact oth q
   .cases q.2
 .have hj:j<fr.length:=(ar.mp e).1;have q:=h3 j (bH.mpr hj);rw[e]at q;dsimp only at q;cases e1:N[k+j]? with
  |none=>rw[e1]at q;cases q
  |some x=>
   cases e2:XN[i]? with
   |none=>rw[e1,e2]at q;cases q
   |some y=>
    rw[e1,e2]at q;simp only[bE,beq_iff_eq]at q;obtain⟨⟨⟨q1,q2⟩,q3⟩,q4⟩:=q;subst q1;obtain⟨kd,r1,r2⟩:=ZaC (env:=X.env) q3;obtain⟨c,r3⟩:=has x q3;refine⟨x,rfl,by rw[hN];exact e2,by rw[kind];exact q2,?_,r3.trans (sub x c r3).symm,λhm=>?_⟩
    .rcases r1 with r1|r1
     .exact .inl (r1▸r2)
     .exact .inr (r1▸r2)
    .have:=c9.mp q4 _ hm
     simp at this
theorem Zdv(XN N:List Str)(dn:List (Str×dk))(k:Nat)(fr:List Nat)(hN:autoParam (X.N=XN) Qrf._auto_1)(hd:autoParam (X.env.scope.names=dn) Qrf._auto_1)(hc:autoParam (X.env.cells=b6 n dn []) Qrf._auto_1)(hk:autoParam (scope.kind=.function) Qrf._auto_1)(h:Zpi XN N dn scope.names k fr=true:=by decide +kernel):Blk X scope (clF scope X.env) N k fr:=
 ZvG hN hd (λx e=>by
  have:=PySem.W.cellsFrom_some dn n [] (.inl e)
  rw[hc];exact eV.mp this) hk h
def Zuv(X:Cx):List V->Hp->VK->Prop:=λvs H Q=>∃(p:Addr) (bs:List Bool),vs=[.ref p]/\SqL X.K H p (bs.map V.bl)/\Q (.bl (bs.all id)) H
theorem Zew:∀{bs:List Bool}{us:List ae}{i:Nat}{u:ae},ZS (bs.map V.bl) us->us[i]?=some u->∃b,bs[i]?=some b/\u=.bool b
 |[],us,i,u,h,e=>by cases h;simp at e
 |b::r,us,i,u,h,e=>by
  cases h with
  |cons h1 h2=>
   cases i with
   |zero=>simp at e;subst e;exact⟨b,rfl,h1⟩
   |succ i=>simp at e;obtain⟨b',g1,g2⟩:=Zew h2 e;exact⟨b',by simpa using g1,g2⟩
theorem ZgP(bs:List Bool):((aI bs.length).all λi=>(bs[i]?).getD true)=bs.all id:=by
 rw[k9,c9,c9];constructor
 .intro h b hb;obtain⟨i,hi,e⟩:=bF hb
  have:=h i (bH.mpr hi)
  simp only[aa hi,iJ,e]at this;exact this
 .intro h i hi;have hi':=bH.mp hi;simp only[aa hi',iJ];exact h _ (cA hi')
theorem Zka(hc:X.calm=true):Zbt X (.builtin "all") (Zuv X):=by
 intro pins s σ H vs us Q I rs hz;obtain⟨p,bs,e,hl,q⟩:=hz;subst e;obtain⟨u,rfl,ru⟩:=ZbM rs;cases ru;obtain⟨its,hv,hp,hz⟩:=I.list hl;have hlt:p<s.heap.objs.size:=by obtain⟨_,e,_⟩:=hp.isList;exact Hz e
 refine call_all_walk (jG hp.isList ?_);refine⟨s.heap.objs.size,[s.heap.objs.size,p],[s.heap.objs.size],its.toArray.size,_,_,λi=>(bs[i]?).getD true,rfl,Walks.list (A:=X.A.in1) (I.ok.hd hc) _ p (aE hlt) its.toArray,⟨⟨_,aG _ rfl,rfl,rfl⟩,hp.isList.push _⟩,λi v s' Q' E' hP hQ=>?_,λh' tk hk=>?_⟩
 .obtain⟨b,e,rfl⟩:=Zew (i:=i) (u:=v) hv (by simpa using hP)
  simp only[e,iJ]at hQ;exact dI hQ
 .have e:((aI its.toArray.size).all λi=>(bs[i]?).getD true)=bs.all id:=by
   rw[ah,<-hv.length,af];exact ZgP bs
  rw[e];exact⟨.bl (bs.all id),H,I.kept λb o e=>hk b o (λhm=>by rw[bU.mp hm]at e;exact b7 _ (Hz e)) (Hq _ e),rfl,q⟩
def Zan:List D->Option (List Bool)
 |[]=>some []
 |.bl b::r=>match Zan r with|some bs=>some (b::bs)|none=>none
 |_::_=>none
theorem ZhR{K:Fg}(h9:Reps K H α vs ds):Zan ds=some bs->vs=bs.map V.bl:=by
 induction ds generalizing vs bs with
 |nil=>intro e;cases h9;cases e;rfl
 |cons d ds ih9=>
  intro e;cases h9 with
  |cons r t=>
   cases r with
   |bl b=>
    cases e1:Zan ds with
    |none=>simp only[Zan,e1]at e;cases e
    |some cs=>
     simp only[Zan,e1,aq]at e;subst e;rw[ih9 t e1];rfl
   |_=>cases e
def bAll:W3:=λds M=>match ds with
 |[.ref n]=>(match M[n]? with|some (.lst xs)=>(match Zan xs with|some bs=>.ok (.bl (bs.all id)) M|none=>.bad)|none=>.bad)
 |_=>.bad
theorem Zpj:CO X ξ (Zuv X) bAll:=by
 intro H α M vs ds Q h rs q;cases rs with
 |nil=>exact q.elim
 |cons r tz=>
  cases tz with
  |cons _ _=>cases r<;>exact q.elim
  |nil=>
   cases r with
   |@ref p n hp=>
    cases e1:M[n]? with
    |none=>simp only[bAll,e1]at q;exact q.elim
    |some so=>
     cases so with
     |lst es=>
      cases e2:Zan es with
      |none=>simp only[bAll,e1,e2]at q;exact q.elim
      |some bs=>
       simp only[bAll,e1,e2]at q;obtain⟨xs,g1,g2⟩:=h.at hp e1
       have:=ZhR g2 e2
       subst this;exact⟨p,bs,rfl,SqL.of g1,q _ H α Ext.refl h (.bl _)⟩
   |_=>exact q.elim
theorem Reps.rev{K:Fg}{H:Hp}{α:List Addr}:∀{vs:List V}{ds:List D},Reps K H α vs ds->Reps K H α vs.reverse ds.reverse
 |_,_,.nil=>.nil
 |_,_,.cons r t=>by
  rw[dc,dc];exact(Reps.rev t).append (.cons r .nil)
open PySem.W (nsIn excIn tailIn nsOkIn mroIn clsIn typeIn findIn specialIn takesIn kitOne Looks)
noncomputable abbrev bmV:List ae:=[.type "ValueError",.type "Exception",.type "BaseException",.type "object"]
noncomputable def Zkb(K:Fg)(c:Str):Option Addr:=match nsIn K aR c with|some (some (.ref C))=>some C|_=>none
theorem Zf5{K:Fg}(h:Zkb K c=some C):nsIn K aR c=some (some (.ref C)):=by
 unfold Zkb at h
 split at h
 .rename_i C' e;cases h;exact e
 .cases h
def ZmI(K:Fg)(c:Str):Bool:=match Zkb K c with
 |some C=>excIn K C bmV "ValueError.__new__"&&iu K (.ref C) "__getattribute__"==some (some (.builtin "BaseException.__getattribute__"))&&iu K (.ref C) "__getattr__"==some none&&iu K (.ref C) "__class__"==some (some (.builtin "object.__class__")) &&
  ig K (.builtin "object.__class__") "__get__"==some (some (.builtin "getset_descriptor.__get__"))&&jF K (.builtin "object.__class__")==some true&&lU K C (.type "BaseException")==some true&&lU K C (.type "object")==some true&&(nK K C).isSome
 |none=>false
def Zpk(K:Fg)(c:Str):Bool:=match Zkb K c with
 |some C=>iu K (.ref C) "__getattribute__"==some (some (.builtin "BaseException.__getattribute__"))&&iu K (.ref C) "__getattr__"==some none&&iu K (.ref C) "__class__"==some (some (.builtin "object.__class__")) &&
  ig K (.builtin "object.__class__") "__get__"==some (some (.builtin "getset_descriptor.__get__"))&&jF K (.builtin "object.__class__")==some true&&lU K C (.type "BaseException")==some true&&lU K C (.type "object")==some true&&(nK K C).isSome
 |none=>false
theorem ZrQ{K:Fg}(h:Zpk K c=true):∃C,nsIn K aR c=some (some (.ref C))/\DQ.ExcC K C:=by
 unfold Zpk at h
 split at h
 .rename_i C e;simp only[bE,beq_iff_eq]at h;obtain⟨⟨⟨⟨⟨⟨⟨h2,h3⟩,h4⟩,h5⟩,h6⟩,h7⟩,h8⟩,h9⟩:=h;exact⟨C,Zf5 e,h2,h3,h4,h5,h6,h7,h8,h9⟩
 .cases h
theorem ZmJ{K:Fg}(h:ZmI K c=true):∃C,nsIn K aR c=some (some (.ref C))/\excIn K C bmV "ValueError.__new__"=true/\DQ.ExcC K C:=by
 unfold ZmI at h
 split at h
 .rename_i C e;simp only[bE,beq_iff_eq]at h;obtain⟨⟨⟨⟨⟨⟨⟨⟨h1,h2⟩,h3⟩,h4⟩,h5⟩,h6⟩,h7⟩,h8⟩,h9⟩:=h;exact⟨C,Zf5 e,h1,h2,h3,h4,h5,h6,h7,h8,h9⟩
 .cases h
theorem ZmK{K:Fg}(X:K.In h)(q:excIn K C bmB newId=true):∃bm N nm q bs hdct sn sub ab col dd k0 k1 k2 k3 k5 mN,h.get? C=some (excClassObj nm q C N bs bm hdct sn sub ab col dd k0 k1 k2 k3 k5 newId)/\h.Ns N mN/\mN "__init__"=none/\OwnTail h bmB bm:=by
 unfold excIn at q
 split at q
 .rename_i dd cd sl ho
  split at q
  .rename_i C' bm k0 k1 k2 k3 n k5 hm hs;simp only[bE,beq_iff_eq,fW]at q;obtain⟨⟨⟨⟨⟨rfl,rfl⟩,hdel⟩,ht⟩,hok⟩,hni⟩:=q;obtain⟨nm,bs,mro,ns,qn,hd,sn,sub,ab,col,del⟩:=cd;dsimp only at hm hdel hok hni;subst hm hdel;obtain⟨l⟩:=sl;simp only at hs;subst hs;exact⟨bm,ns,nm,qn,bs,hd,sn,sub,ab,col,dd,k0,k1,k2,k3,k5,_,X _ _ ho,.of_isNs (PySem.W.isNs_of_in X hok),PySem.W.nsMap_none_of_in X hok hni,PySem.W.tail_of_in X ht⟩
  .cases q
 .cases q
theorem Zpl(k:HOk P w H h)(hn:h.get? e=none):H e=none:=by
 cases z:H e with
 |none=>rfl
 |some u=>obtain⟨o,g⟩:=ZfW (k e u z);rw[hn]at g;cases g
def Zdw(c:Str)(fs:Av):Sv:=λρ M=>Zas (fs ρ M) λds M1=>if ds.length<=1000 then .exc c M1 else .bad
theorem ZbR(T:Thr X ξ)(hx:ZmI X.K x=true)(gl:∀c v,nsIn X.K aR c=some (some v)->X.mg c=some v)(hh:X.A.handled=none)(ha:DA X ξ (a::as) fs)(hg:autoParam (Gl X x) Qrf._auto_1)(hdb:autoParam ((x==("__debug__":Str))=false) Qde._auto_1)(hf:autoParam (Zn9 x=false) Qde._auto_1)(he:autoParam (av (a::as) X.env=(false,eval a X.env)::av as X.env) Qrf._auto_1)(hpl:autoParam ((cR cpos (av as X.env)).any (·.1)=false) Qrf._auto_1):DS X ξ (.Raise (some (.Call (.Name x np) (a::as) [] cpos)) none pos) (Zdw x fs):=by
 obtain⟨ta,pa,qa⟩:=ha;obtain⟨C,hC,hq,_⟩:=ZmJ hx;refine⟨λDn σ H=>ta σ H λvs H1=>vs.length<=sizeLine/\ξ (.ref C) none H1,λpins s σ H Dn I h=>?_,λσ ρ H α M Dn s h q=>?_⟩
 .obtain⟨tl,N,nm,q,bs,hdct,sn,sub,ab,col,dd,k0,k1,k2,k3,k5,mN,gC,hN,hni,TL⟩:=ZmK I.ok.mod.kin hq;refine wpAny_Raise_call_subT (C:=C) (nm:=nm) (q:=q) (N:=N) (bs:=bs) (bm:=tl) (hdct:=hdct) (sn:=sn) (sub:=sub) (ab:=ab) (col:=col) (dd:=dd) (k0:=k0) (k1:=k1) (k2:=k2) (k3:=k3) (k5:=k5) F.excBase_ValueError (mN:=mN)
   (TL.hasType F.excBase_ValueError.hasBase) hh (by rw[he];show(false||(cR cpos (av as X.env)).any (·.1))=false;rw[hpl];rfl) hni (Zhe I hg (gl x _ hC) ⟨rfl,?_⟩ hdb)
  have hs:=pa cpos pins s σ H _ I h;rw[he]at hs ⊢;refine Calls.evalArgs_plain (wpAny_mono hs (λus s2 ⟨vs,H1,I1,r1,z1,z2⟩=>⟨rfl,by rw[<-r1.length];exact z1,I1.bk _ _ gC,hN.keeps I1.bk,TL.keeps I1.bk,λh' e m=>?_⟩) λ_ _ y=>y)
  obtain⟨t,g1,g2,g3⟩:=m.there;exact T.mak pins σ H1 H1 s2 {s2 with heap:=h'} e _ _ C I1 rfl I1.bare (Un.kept m.keeps) (I1.hok.kept m.keeps) m.new g1 rfl rfl rfl rfl (Zpl I1.hok m.new) z2
 .refine qa σ ρ H α M _ s h (FP.seq q λds M1 vs H1 α1 e1 h1 r1 w1=>?_);by_cases hl:ds.length<=1000
  .rw[if_pos hl]at w1;exact⟨by rw[r1.length];exact small hl,w1 C H1 α1 hC Ext.refl none (.no hf h1 rfl)⟩
  .rw[if_neg hl]at w1;exact w1.elim
end DL
namespace DL
open PyProof.Rows L2
open PySem.W (nsIn excIn tailIn nsOkIn mroIn clsIn typeIn findIn specialIn takesIn kitOne Looks looks_mroIn looks_typeIn)
noncomputable def kpR:List Bool->Ro->Ro
 |b::m,x::r=>(bif b then none else x)::kpR m r
 |_,[]=>[]
 |[],_::r=>none::kpR [] r
def fsE(c:Str)(M:Sto):List D:=if Zn9 c=true then(match M.getLast? with|some (.lst xs)=>xs|none=>[])else[]
def stE(c:Str)(M:Sto):Sto:=if Zn9 c=true then M.dropLast else M
theorem Zsl(h:Zn9 c=false):stE c M=M:=by unfold stE;rw[h];rfl
theorem ZvH(h:Zn9 c=true):stE c (M++[.lst ds])=M:=by unfold stE;rw[if_pos h,List.dropLast_concat]
theorem XO.hr{K:Fg}(h:XO K H α c M dct):HR K H α (stE c M):=by
 cases h with
 |no h1 h2 _=>rw[Zsl h1];exact h2
theorem Zx{A:cV}(hr:Room k (A.deeper env))(h:100<=k):A.handled.isNone=true:=by
 have e:A.handled=none:=hr.hd h;rw[e];rfl
end DL
namespace DL
open PyProof.Rows L2
abbrev Me:=D->List D->Sto->Out D
def MO(X:Cx)(ξ:XK)(r:V->List V->Hp->VK->Prop)(g:Me):Prop:=∀H α M v vs x ds Q,HR X.K H α M->Rep X.K H α v x->Reps X.K H α vs ds->OP X.K H α ξ Q (g x ds M)->r v vs H Q
theorem HR.wrE{K:Fg}(h:HR K H α M)(e:RefK H α 0 n p)(hp:H p=some (.lst ys))(r:Reps K H α xs ds):Ext K H (upd H p (.lst xs)) α α/\HR K (upd H p (.lst xs)) α (M.set n (.lst ds)):=
 ⟨Ext.wr hp,h.wr e hp r⟩
section
variable {name:Str}{id:String}{r:V->List V->Hp->VK->Prop}
noncomputable def ZmL(x:D)(M:Sto):Bool:=match x with|.ref n=>M[n]?.isSome|_=>false
def ZhS(g:Me)(fo:Ev)(fs:Av):Ev:=λρ M=>(fo ρ M).bind λx M1=>if ZmL x M1=true then(fs ρ M1).bind λds M2=>g x ds M2 else .bad
theorem ZmM{K:Fg}(h:HR K H α M)(rx:Rep K H α v x)(k:ZmL x M=true):tyV K "list" v H:=by
 cases rx with
 |@ref p n hp=>
  obtain⟨xs,g⟩:=h.some_at hp;exact .inl ⟨rfl,_,SqL.of g⟩
 |_=>cases k
theorem Zkc(slot:Slot "list" name id)(hty:typeOf (.builtin id)=pure (.type "method_descriptor"))(hm:MtR X id r)(hf:MO X ξ r g)(ho:DE X ξ o fo)(ha:DA X ξ (e::es) fs)(hbase:autoParam (iQ o name X.env (eval o X.env)=eval o X.env) Qrf._auto_1)
  (hfew:((cR cpos (av (e::es) X.env)).all (λx=> !x.1)&&(jr cpos (gp [] X.env)).all (λx=>x.1.isSome) && decide ((e::es).length+([]:List i6).length+(if([]:List i6).isEmpty then 0 else 1)<30))=true:=by rfl)
  (hline:(apos.endLine==cpos.line)=true:=by rfl) (hs:av (e::es) X.env=(false,eval e X.env)::av es X.env:=by rfl) (hplain:(cR cpos (av es X.env)).any (·.1)=false:=by rfl):
  DE X ξ (.Call (.Attribute o name apos) (e::es) [] cpos) (ZhS g fo fs):=by
 obtain⟨to,po,qo⟩:=ho;obtain⟨ta,pa,qa⟩:=ha;refine⟨_,Zse PySem.F.plainAttrs_list slot hty hm po pa hbase hfew hline hs hplain,λσ ρ H α M Q s h q=>?_⟩;refine qo σ ρ H α M _ s h (OG.seq q λx M1 v H1 α1 e1 h1 r1 q1=>?_);by_cases k:ZmL x M1=true
 .rw[if_pos k]at q1;exact⟨ZmM h1 r1 k,qa σ ρ H1 α1 M1 _ (s.mono e1) h1 (OG.seq q1 λds M2 vs H2 α2 e2 h2 r2 q2=>hf H2 α2 M2 v vs x ds Q h2 (Rep.mono e2 r1) r2 q2)⟩
 .rw[if_neg k]at q1;exact q1.elim
noncomputable def mApp:Me:=λx ds M=>match x,ds with
 |.ref n,[d]=>(match M[n]? with|some (.lst xs)=>if xs.length<10000000 then .ok .non (M.set n (.lst (xs++[d])))else .bad|none=>.bad)
 |_,_=>.bad
theorem Zpm:MO X ξ rAppend mApp:=by
 intro H α M v vs x ds Q h rx rs q;cases rx with
 |@ref p n hp=>
  cases rs with
  |nil=>exact q.elim
  |@cons u d _ _ ru tz=>
   cases tz with
   |cons _ _=>exact q.elim
   |nil=>
    cases em:M[n]? with
    |none=>simp only[mApp,em]at q;exact q.elim
    |some so=>
     cases so with
     |lst es=>
      obtain⟨xs,g1,g2⟩:=h.at hp em;by_cases c:es.length<10000000
      .simp only[mApp,em,if_pos c]at q;obtain⟨k1,k2⟩:=h.wrE hp g1 (g2.append (.cons ru .nil));exact⟨p,xs,u,rfl,rfl,g1,by rw[g2.length];exact am c (by decide),q _ _ α k1 k2 .non⟩
      .simp only[mApp,em,if_neg c]at q;exact q.elim
 |_=>cases rs<;>exact q.elim
noncomputable def mExt:Me:=λx ds M=>match x,ds with
 |.ref n,[.ref m]=>(match M[n]?,M[m]? with|some (.lst xs),some (.lst ys)=>if xs.length+ys.length<=10000000 then .ok .non (M.set n (.lst (xs++ys)))else .bad|_,_=>.bad)
 |_,_=>.bad
theorem ZhT(h:mExt x l M≠ .bad):∃n m,x=.ref n/\l=[.ref m]:=by
 unfold mExt at h
 split at h
 .rename_i n m;exact⟨n,m,rfl,rfl⟩
 .exact absurd rfl h
theorem Zpn:MO X ξ rExtend mExt:=by
 intro H α M v vs x ds Q h rx rs q;obtain⟨n,m,rfl,rfl⟩:=ZhT (x:=x) (l:=ds) (M:=M) λz=>by rw[z]at q;exact q.elim
 cases rx with
 |@ref p n hp=>
 cases rs with
 |cons ru rs=>
 cases rs;cases ru with
 |@ref p2 m hp2=>
 cases em:M[n]? with
 |none=>simp only[mExt,em]at q;exact q.elim
 |some so=>
 cases em2:M[m]? with
 |none=>cases so;simp only[mExt,em,em2]at q;exact q.elim
 |some so2=>
 cases so with
 |lst es=>
 cases so2 with
 |lst es2=>
 obtain⟨xs,g1,g2⟩:=h.at hp em;obtain⟨ys,g3,g4⟩:=h.at hp2 em2;by_cases c:es.length+es2.length<=10000000
 .simp only[mExt,em,em2,if_pos c]at q;obtain⟨k1,k2⟩:=h.wrE hp g1 (g2.append g4);exact⟨p,p2,xs,ys,rfl,rfl,g1,g3,by rw[g2.length,g4.length];exact aZ c (by decide),q _ _ α k1 k2 .non⟩
 .simp only[mExt,em,em2,if_neg c]at q;exact q.elim
theorem ZcV(ho:DE X ξ o fo)(ha:DE X ξ e fa)(hbase:autoParam (iQ o "append" X.env (eval o X.env)=eval o X.env) Qrf._auto_1)
  (hfew:((cR cpos (av [e] X.env)).all (λx=> !x.1)&&(jr cpos (gp [] X.env)).all (λx=>x.1.isSome) && decide ([e].length+([]:List i6).length+(if([]:List i6).isEmpty then 0 else 1)<30))=true:=by rfl)
  (hline:(apos.endLine==cpos.line)=true:=by rfl) (hs:av [e] X.env=(false,eval e X.env)::av [] X.env:=by rfl) (hplain:(cR cpos (av [] X.env)).any (·.1)=false:=by rfl):
  DE X ξ (.Call (.Attribute o "append" apos) [e] [] cpos) (ZhS mApp fo (Zc fa aNil)):=Zkc PySem.F.slot_list_append PySem.F.type_list_append Zel Zpm ho (Za ha Ze hs) hbase hfew hline hs hplain
def DO(X:Cx)(ξ:XK)(e:Option Expr)(f:Ro->Sto->Out (Option Int)):Prop:=∃t:TO,PO X e t/\∀σ ρ H α M (Q:Option Int->Hp->Prop),SR X.K H α σ ρ->HR X.K H α M->OG X.K (λ_ _ v d=>v=d) H α ξ Q (f ρ M)->t σ H Q
noncomputable def oNo:Ro->Sto->Out (Option Int):=λ_ M=>.ok none M
def oSo(f:Ev):Ro->Sto->Out (Option Int):=λρ M=>(f ρ M).bind λx M1=>match x with|.int i=>.ok (some i) M1|_=>.bad
theorem ZgQ:DO X ξ none oNo:=⟨_,Zmm,λσ ρ H α M Q s h q=>q none H α Ext.refl h rfl⟩
theorem ZgR(ha:DE X ξ e fa):DO X ξ (some e) (oSo fa):=by
 obtain⟨ta,pa,qa⟩:=ha;refine⟨_,Zmn pa,λσ ρ H α M Q s h q=>?_⟩;refine qa σ ρ H α M _ s h (OG.seq q λx M1 v H1 α1 e1 h1 r1 q1=>?_);cases r1 with
 |int i=>exact⟨i,rfl,q1 (some i) H1 α1 Ext.refl h1 rfl⟩
 |_=>exact q1.elim
def Ze9(xs:List D)(lo hi:Option Int):List D:=(xs.drop (HT.sIx xs.length 0 lo)).take (HT.sIx xs.length xs.length hi-HT.sIx xs.length 0 lo)
theorem Reps.drop{K:Fg}{H:Hp}{α:List Addr}:∀(n:Nat){vs:List V}{ds:List D},Reps K H α vs ds->Reps K H α (vs.drop n) (ds.drop n)
 |0,_,_,h=>h
 |_+1,_,_,.nil=>.nil
 |n+1,_,_,.cons _ t=>Reps.drop n t
theorem Reps.take{K:Fg}{H:Hp}{α:List Addr}:∀(n:Nat){vs:List V}{ds:List D},Reps K H α vs ds->Reps K H α (vs.take n) (ds.take n)
 |0,_,_,_=>.nil
 |_+1,_,_,.nil=>.nil
 |n+1,_,_,.cons r t=>.cons r (Reps.take n t)
theorem Reps.cut{K:Fg}(r:Reps K H α vs ds)(lo hi:Option Int):Reps K H α (Zk3 vs lo hi) (Ze9 ds lo hi):=by
 unfold Zk3 Ze9;rw[r.length];exact(r.drop _).take _
def eSl(f:Ev)(lo hi:Ro->Sto->Out (Option Int)):Ev:=λρ M=>(f ρ M).bind λx M1=>(lo ρ M1).bind λl M2=>(hi ρ M2).bind λu M3=>match x with
 |.ref n=>(match M3[n]? with|some (.lst xs)=>.ok (.ref M3.length) (M3++[.lst (Ze9 xs l u)])|none=>.bad)
 |.rol xs=>.ok (.ref M3.length) (M3++[.lst (Ze9 xs l u)])
 |.tup xs=>if HT.sIx xs.length 0 l=0/\HT.sIx xs.length xs.length u=xs.length then .bad else .ok (.tup (Ze9 xs l u)) M3
 |_=>.bad
theorem ZgS{lo:Option Expr}(he:DE X ξ e fa)(hl:DO X ξ lo fl)(hh:DO X ξ hi fh):DE X ξ (.Subscript e (.Slice lo hi none p2) pos) (eSl fa fl fh):=by
 obtain⟨ta,pa,qa⟩:=he;obtain⟨tl,pl,ql⟩:=hl;obtain⟨th,ph,qh⟩:=hh;refine⟨_,ZjR (SlR.or Zms ZoL) pa pl ph,λσ ρ H α M Q s h q=>?_⟩;refine qa σ ρ H α M _ s h (OG.seq q λx M1 v H1 α1 e1 h1 r1 q1=>?_);refine ql σ ρ H1 α1 M1 _ (s.mono e1) h1 (OG.seq q1 λl M2 l' H2 α2 e2 h2 r2 q2=>?_);refine qh σ ρ H2 α2 M2 _ ((s.mono e1).mono e2) h2 (OG.seq q2 λu M3 u' H3 α3 e3 h3 r3 q3=>?_);cases r2;cases r3;cases Rep.mono e3 (Rep.mono e2 r1)with
 |@ref p n hp=>
  cases em:M3[n]? with
  |none=>simp only[em]at q3;exact q3.elim
  |some so=>
   cases so with
   |lst es=>
    simp only[em]at q3;obtain⟨xs,g1,g2⟩:=h3.at hp em;exact .inl ⟨p,xs,rfl,SqL.of g1,λa ha=>q3 _ _ (α3++[a]) (Ext.new ha) (h3.new ha (g2.cut l u)) (.ref ⟨h3.last a,Kn.lst ZB⟩)⟩
 |@rol p xs ds hp rp=>
  have q4:OP X.K H3 α3 ξ Q (.ok (.ref M3.length) (M3++[.lst (Ze9 ds l u)])):=q3;exact .inl ⟨p,xs,rfl,hp.sq,λa ha=>q4 _ _ (α3++[a]) (Ext.new ha) (h3.new ha (rp.cut l u)) (.ref ⟨h3.last a,Kn.lst ZB⟩)⟩
 |@tup p xs ds hp rp=>
  by_cases c:HT.sIx ds.length 0 l=0/\HT.sIx ds.length ds.length u=ds.length
  .simp only[if_pos c]at q3;exact q3.elim
  .simp only[if_neg c]at q3;exact .inr ⟨p,xs,rfl,(SqT.of hp),by rw[rp.length];exact c,λa ha=>q3 _ _ α3 (Ext.new0 ha) (h3.tup ha) (.tup ZB (Reps.mono (Ext.new0 ha) (rp.cut l u)))⟩
 |_=>exact q3.elim
def iR2(fs:Av):Ro->Sto->Out Src:=λρ M=>(fs ρ M).bind λds M1=>match ds with
 |[.int i,.int j]=>.ok (.pur (Za5 i (j-i).toNat)) M1
 |_=>.bad
theorem ZhU(hm:X.mg "range"=none)(ha:DA X ξ [a,b] fs)(hgl:autoParam (Gl X "range") Qrf._auto_1)(hs:autoParam (av [a,b] X.env=[(false,eval a X.env),(false,eval b X.env)]) Qrf._auto_1)(hs2:autoParam (av [b] X.env=[(false,eval b X.env)]) Qrf._auto_1):DI X ξ tg (.Call (.Name "range" p) [a,b] [] pos) (iR2 fs):=by
 obtain⟨ta,pa,qa⟩:=ha;refine⟨_,Zee hgl hm pa hs hs2,λσ ρ H α M R s hh q=>qa σ ρ H α M _ s hh (OG.seq q λds M1 vs H1 α1 e1 h1 r1 w1=>?_)⟩
 split at w1
 .rename_i i j;cases r1 with
  |cons r t=>
   cases t with
   |cons r' t=>
    cases t;cases r;cases r';exact⟨i,j,rfl,w1 _ H1 α1 Ext.refl h1 Zdr⟩
 .exact w1.elim
end
def Zfa(tg:Tg)(g:Sv)(src:Src):Nat->Nat->Ro->Sto->Fl
 |f,i,ρ,M=>match nxt src i M with
  |none=>.bad
  |some none=>.nx ρ M
  |some (some d)=>(match f with
   |0=>.bad
   |f+1=>(match tg d ρ with
    |none=>.bad
    |some ρ1=>(match g ρ1 M with
     |.nx ρ2 M2=>Zfa tg g src f (i+1) ρ2 M2
     |.cnt ρ2 M2=>Zfa tg g src f (i+1) ρ2 M2
     |.brk ρ2 M2=>.nx ρ2 M2
     |o=>o)))
def ZgT(tg:Tg)(fi:Ro->Sto->Out Src)(g:Sv):Sv:=λρ M=>Zas (fi ρ M) λsrc M1=>Zfa tg g src (cnt src M1) 0 ρ M1
theorem Zfb(hp:fQ (ao X.prog X.w) X.A X.env X.xe)(hi:DI X ξ tg iter fi)(hg:DG X tg gt)(hb:DSs X ξ body g)(hf:autoParam (∀x,foldedSetIterable iter X.env x=pure x) Qin._auto_1):DS X ξ (.For tg iter body [] pos) (ZgT gt fi g):=by
 obtain⟨wi,pi,qi⟩:=hi;obtain⟨tt,pt,qt⟩:=hg;obtain⟨tb,pb,qb⟩:=hb;refine⟨_,ZfJ hp pi pt pb hf,λσ ρ H α M Dn s hh w=>qi σ ρ H α M _ s hh (FP.seq w λsrc M1 J H1 α1 e1 h1 sc w1=>?_)⟩;generalize eo:Zfa gt g src (cnt src M1) 0 ρ M1=o at w1;refine⟨λi m σ' H'=>∃ρ' α' M',Ext X.K H1 H' α1 α'/\SR X.K H' α' σ' ρ'/\HR X.K H' α' M'/\Zfa gt g src m i ρ' M'=o,⟨cnt src M1,ρ,α1,M1,Ext.refl,s.mono e1,h1,eo⟩,?_⟩;rintro i m σ' H' ⟨ρ',α',M',ex,sr,hr,en⟩;have s5:=sc i H' α' M' ex hr;unfold Zfa at en;cases en1:nxt src i M' with
 |none=>rw[en1]at en;cases en;exact w1.elim
 |some od=>
  rw[en1]at en s5;cases od with
  |none=>cases en;exact .inl ⟨s5,w1 σ' H' α' ex hr sr⟩
  |some d=>
   obtain⟨go,yl⟩:=s5;cases m with
   |zero=>cases en;exact w1.elim
   |succ m=>
    simp only at en;refine .inr ⟨go,λσ2 H2=>∃ρ' α' M',Ext X.K H1 H2 α1 α'/\SR X.K H2 α' σ2 ρ'/\HR X.K H2 α' M'/\Zfa gt g src m (i+1) ρ' M'=o,λσ2 H2 z=>⟨m,dz m,z⟩,λx H2 y=>?_⟩;obtain⟨ex7,hr7,rp7⟩:=yl x H2 y;exact Zj6 (tg:=tg) w1 qt qb (ex.trans ex7) (sr.mono ex7) hr7 rp7 en (λσ' H' z=>z)
theorem ZhV{ch:List Addr}(I:Inv X pins σ H s)(k:∀b o,b∉ch->s.heap.get? b=some o->h'.get? b=some o)(hf:∀b∈ch,ZeZ X pins H b):Inv X pins σ H {s with heap:=h',toks:=t'}:=by
 have nit:∀b u,H b=some u->b∉ch:=λb u e z=>by rw[(hf b z).1]at e;cases e
 have hL:X.env.locals∉ch:=λz=>(hf _ z).2.1 rfl;refine I.step (g':=s.gens) (d':=s.drawn) (ch:=ch) (λb hb=>?_) (λb o _ _ hc e _=>k b o hc e) (λb o _ _ hc e _=>⟨o.slots,k b o hc e⟩) (λ_ _ _ _ n=>n)
  (λb o hc e=>⟨o,k b o hc e⟩) (λ_ _ e=>e) (λ_ _ _ e=>e) (λb ps e=>⟨#[],by rw[e];simp⟩) (λm hm=>?_) (λb u e=>?_) I.bare
 .obtain⟨_,z1,_,z3,z4,z5⟩:=hf b hb;exact⟨z3,z1,z4,z5⟩
 .obtain⟨o,es,ep,ho,r⟩:=hm;exact⟨o,es,ep,k _ o hL ho,r⟩
 .refine(I.hok b u e).stay (λc v hc q=>k c v ?_ q) (λ_ q=>q) λ_ _ q=>q;rcases hc with z|z
  .rw[z];exact nit b u e
  .exact nit c _ z
theorem Zli{ch:List Addr}(I:Inv X pins σ H s)(hf:∀b∈ch,ZeZ X pins H b)(hlt:∀b∈ch,b<s.heap.objs.size)(rv:ZS vs us)(hz:vs.length<=sizeLine)(k:∀b o,b∉ch->s.heap.get? b=some o->h'.get? b=some o)(ht:h'.get? s.heap.objs.size=some {cls:=.type "tuple",data:=.seq us.toArray}):Inv X pins σ (upd H s.heap.objs.size (.tup vs)) {s with heap:=h',toks:=t'}/\H s.heap.objs.size=none/\∀b∈ch,upd H s.heap.objs.size (.tup vs) b=none:=by
 have fr:H s.heap.objs.size=none:=I.hok.fresh (aj _);have hn:∀b∈ch,upd H s.heap.objs.size (.tup vs) b=none:=λb hb=>by rw[ZJ (aE (hlt b hb))];exact(hf b hb).1
 have I1:Inv X pins σ (upd H s.heap.objs.size (.tup vs)) {s with heap:=s.heap.push {cls:=.type "tuple",data:=.seq us.toArray},toks:=t'}:=
  I.laid (t':=t') (o:=.tup vs) (λ_ _ q=>Hq _ q) (aj _) ⟨hz,us,rv,_,aG _ rfl,rfl,_,rfl⟩
 refine⟨ZhV (s:={s with heap:=s.heap.push {cls:=.type "tuple",data:=.seq us.toArray},toks:=t'}) (t':=t') (ch:=ch) I1 (λb o hb e=>?_) (λb hb=>⟨hn b hb,(hf b hb).2⟩),fr,hn⟩;by_cases c:b=s.heap.objs.size
 .subst c;have e':(s.heap.push {cls:=.type "tuple",data:=.seq us.toArray}).get? s.heap.objs.size=some o:=e;rw[aG _ rfl]at e';cases e';exact ht
 .refine k b o hb ?_;have e':(s.heap.push {cls:=.type "tuple",data:=.seq us.toArray}).get? b=some o:=e;have hl:b<s.heap.objs.size:=by
   have q:b<s.heap.objs.size+1:=by
    have z:=Hz e'
    rwa [gf]at z
   exact Nat.lt_of_le_of_ne (Nat.le_of_lt_succ q) c
  have q:(s.heap.push {cls:=.type "tuple",data:=.seq us.toArray}).get? b=s.heap.get? b:=by
   unfold nX.get? nX.push;simp only[mI];rw[if_neg (aE hl)]
  rwa [q]at e'
def Ite(K:Fg)(a:Addr):It:=
 ⟨λi H=>∃xs x,SqL K H a xs/\xs[i]?=some x,λi H y H'=>∃p,H p=none/\y=.ref p/\∀xs x,SqL K H a xs->xs[i]?=some x->H'=upd H p (.tup [.int i,x]),λi H=>∃xs,SqL K H a xs/\xs.length<=i⟩
def Itz(K:Fg)(a b:Addr):It:=
 ⟨λi H=>∃xs ys x y,SqL K H a xs/\SqL K H b ys/\xs[i]?=some x/\ys[i]?=some y,λi H v H'=>∃p,H p=none/\v=.ref p/\∀xs ys x y,SqL K H a xs->SqL K H b ys->xs[i]?=some x->ys[i]?=some y->H'=upd H p (.tup [x,y]),λi H=>∃xs ys,SqL K H a xs/\SqL K H b ys/\(xs.length<=i\/ys.length<=i)⟩
theorem ZhW{K:Fg}(hB:B.handled=none)(a e it:Addr)(hne:e≠it):Turn P w K B (.Tuple elts k0 tp) (Ite K a) [e,it] e (λi h=>(∃old,IsEnum h e it (i:Int) old)/\h.IsListIter it a i) where
 mem:=by simp
 obj:=λi h st b hb=>by
  obtain⟨⟨old,h1⟩,o,e2,c2,d2⟩:=st;rcases ay.mp hb with z|z
  .subst z;exact⟨_,h1,λv z=>by cases z⟩
  .have z':b=it:=by simpa using z
   subst z';exact⟨o,e2,λv z=>by rw[d2]at z;cases z⟩
 keep:=λi h h' st k=>⟨let ⟨old,z⟩:=st.1;⟨old,k e (by simp) _ z⟩,st.2.at λo z=>k it (by simp) o z⟩
 item:=by
  intro X hP hw hK hA i pins s σ H E I hf st hg;subst hP hw hK hA;obtain⟨⟨old,h1⟩,h2⟩:=st;obtain⟨xs,x,hq,hx⟩:=hg;obtain⟨its,rv,p,hz⟩:=I.list hq;obtain⟨u,hu,ru⟩:=rv.get hx;have lt:∀b∈[e,it],b<s.heap.objs.size:=λb hb=>by
   rcases ay.mp hb with z|z
   .subst z;exact Hz h1
   .have z':b=it:=by simpa using z
    subst z';obtain⟨o,e2,_⟩:=h2;exact Hz e2
  refine wpAny_pyNext_enum_item h1 h2 p.isList (x:=u) (by simpa using hu) hne λh' o1 o2 o3 o4 o5=>⟨_,rfl,?_⟩
  refine wpAny_letOwnedTupleGo_enum (s:={s with heap:=h',toks:=s.toks+1}) o1 λh'' q1 q2=>?_;have pe:s.heap.objs.size≠e:=bG (lt e (by simp))
  have ie:it≠e:=cu hne;obtain⟨J1,J2,J3⟩:=Zli (h':=h'') (t':=s.toks+1) (ch:=[e,it]) (vs:=[.int i,x]) (us:=[.int i s.toks,u]) I hf lt (.cons ⟨_,rfl⟩ (.cons ru .nil)) (by show 2<=sizeLine;decide)
   (λb o hb z=>by
    have n1:b≠e:=λy=>hb (by simp[y])
    have n2:b≠it:=λy=>hb (by simp[y])
    exact(q2.2 b n1).trans (o5 b o n1 n2 z)) ((q2.2 _ pe).trans o3)
  refine⟨.ref s.heap.objs.size,_,J1,rfl,⟨_,J2,rfl,λys y hy hy2=>?_⟩,⟨⟨u,by simpa using q1⟩,o2.at λo z=>(q2.2 it ie).trans z⟩,J3⟩
  rw[I.list_inj hy hq,hx]at hy2;cases hy2;rfl
 done:=by
  intro X hP hw hK hA i pins s σ H E I hf st hg;subst hP hw hK hA;obtain⟨⟨old,h1⟩,h2⟩:=st;obtain⟨xs,hq,hx⟩:=hg;obtain⟨its,rv,p,hz⟩:=I.list hq;obtain⟨f0,f1,f2,f3,f4,f5⟩:=hf it (by simp)
  refine wpAny_pyNext_enum_end hB h1 h2 p.isList (by simp only[fU];exact a8 (by rw[<-rv.length];exact hx)) λh' ext=>⟨rfl,?_⟩
  exact I.turned (t':=s.toks) (it:=it) (λb o hb z=>ext b o hb z) f0 f1 f3 f4 f5
 self:=λA i s Q E st q=>by
  obtain⟨⟨old,h1⟩,_⟩:=st;have hT:s.TypeIs (.ref e) "enumerate":=⟨_,h1,rfl⟩;refine jH hT F.slot_enumerate_iter (cZ F.slot_enumerate_iter hT F.entry_enumerate_iter ?_ (F.args_enumerate_iter_1 _));show wpAny _ _ (ret (.ref e)) _ _ s;exact Wp ⟨_,rfl,"enumerate",_,hT,F.slot_enumerate_next.lookup,q⟩
theorem Zkd{K:Fg}(hB:B.handled=none){TI TO:Addr}(D:ZipApart z TI TO i1 i2 a b):Turn P w K B (.Tuple elts k0 tp) (Itz K a b) [z,TI,TO,i1,i2] z (λi h=>IsZip h z TI TO .none/\IsPair h TI (.ref i1) (.ref i2)/\(∃x y,IsPair h TO x y)/\h.IsListIter i1 a i/\h.IsListIter i2 b i) where
 mem:=by simp
 obj:=λi h st c hc=>by
  obtain⟨h1,h2,⟨x,y,h3⟩,⟨o4,e4,c4,d4⟩,⟨o5,e5,c5,d5⟩⟩:=st;simp only[ay,bQ,or_false]at hc;rcases hc with rfl|rfl|rfl|rfl|rfl
  .exact⟨_,h1,λv q=>by cases q⟩
  .exact⟨_,h2,λv q=>by cases q⟩
  .exact⟨_,h3,λv q=>by cases q⟩
  .exact⟨o4,e4,λv q=>by rw[d4]at q;cases q⟩
  .exact⟨o5,e5,λv q=>by rw[d5]at q;cases q⟩
 keep:=λi h h' st k=>by
  obtain⟨h1,h2,⟨x,y,h3⟩,h4,h5⟩:=st;exact⟨k z (by simp) _ h1,k TI (by simp) _ h2,⟨x,y,k TO (by simp) _ h3⟩,h4.at λo q=>k i1 (by simp) o q,h5.at λo q=>k i2 (by simp) o q⟩
 item:=by
  intro X hP hw hK hA i pins s σ H E I hf st hg;subst hP hw hK hA;obtain⟨h1,h2,⟨x0,y0,h3⟩,h4,h5⟩:=st;obtain⟨xs,ys,x,y,hq,hq2,hx,hy⟩:=hg;obtain⟨its,rv,p,hz⟩:=I.list hq;obtain⟨its2,rv2,p2,hz2⟩:=I.list hq2;obtain⟨u,hu,ru⟩:=rv.get hx;obtain⟨u2,hu2,ru2⟩:=rv2.get hy;have lt:∀c∈[z,TI,TO,i1,i2],c<s.heap.objs.size:=λc hc=>by
   simp only[ay,bQ,or_false]at hc;rcases hc with rfl|rfl|rfl|rfl|rfl
   .exact Hz h1
   .exact Hz h2
   .exact Hz h3
   .obtain⟨o,e2,_⟩:=h4;exact Hz e2
   .obtain⟨o,e2,_⟩:=h5;exact Hz e2
  refine wpAny_pyNext_zip_item D h1 h2 h3 h4 h5 p.isList p2.isList (x:=u) (y:=u2) (by simpa using hu) (by simpa using hu2) λh' o1 o2 o3 o4 o5 o6 o7=>⟨_,rfl,?_⟩
  refine wpAny_letOwnedTupleGo_zip (s:={s with heap:=h'}) o1 λh'' q1 q2=>?_;have pe:s.heap.objs.size≠z:=bG (lt z (by simp))
  obtain⟨J1,J2,J3⟩:=Zli (h':=h'') (t':=s.toks) (ch:=[z,TI,TO,i1,i2]) (vs:=[x,y]) (us:=[u,u2]) I hf lt (.cons ru (.cons ru2 .nil)) (by show 2<=sizeLine;decide)
   (λc o hc q=>by
    simp only[ay,bQ,or_false,not_or]at hc;exact(q2.2 c hc.1).trans (o7 c o hc.1 hc.2.2.1 hc.2.2.2.1 hc.2.2.2.2 q)) ((q2.2 _ pe).trans o5)
  refine⟨.ref s.heap.objs.size,_,J1,rfl,⟨_,J2,rfl,λxs' ys' x' y' hx1 hy1 hx2 hy2=>?_⟩,⟨q1,(q2.2 TI D.TIz).trans (o7 TI _ D.TIz D.TITO D.TIi1 D.TIi2 h2),⟨u,u2,(q2.2 TO D.TOz).trans o2⟩,o3.at λo q=>(q2.2 i1 D.i1z).trans q,o4.at λo q=>(q2.2 i2 D.i2z).trans q⟩,J3⟩;rw[I.list_inj hx1 hq,hx]at hx2;rw[I.list_inj hy1 hq2,hy]at hy2;cases hx2;cases hy2;rfl
 done:=by
  intro X hP hw hK hA i pins s σ H E I hf st hg;subst hP hw hK hA;obtain⟨h1,h2,⟨x0,y0,h3⟩,h4,h5⟩:=st;obtain⟨xs,ys,hq,hq2,hx⟩:=hg;obtain⟨its,rv,p,hz⟩:=I.list hq;obtain⟨its2,rv2,p2,hz2⟩:=I.list hq2;have he:its.toArray[i]?=none\/its2.toArray[i]?=none:=by
   rcases hx with hx|hx
   .exact .inl (by simp only[fU];exact a8 (by rw[<-rv.length];exact hx))
   .exact .inr (by simp only[fU];exact a8 (by rw[<-rv2.length];exact hx))
  refine wpAny_pyNext_zip_end hB D h1 h2 h3 h4 h5 p.isList p2.isList he λh' keep=>⟨rfl,?_⟩;refine ZhV (t':=s.toks) (ch:=[z,TI,TO,i1,i2]) I (λc o hc q=>?_) hf;simp only[ay,bQ,or_false,not_or]at hc;exact keep c o hc.1 hc.2.2.1 hc.2.2.2.1 hc.2.2.2.2 q
 self:=λA i s Q E st q=>wpAny_pyIter_zip st.1 q
theorem Zpo{n:Nat}(h1:a<n)(h2:b<n):ZipApart (n+4) (n+2) (n+3) n (n+1) a b:=⟨aE ⋯,aE ⋯,aE ⋯,aE ⋯,aE ⋯,bG ⋯,bG ⋯,bG ⋯,bG ⋯,aE ⋯,aE ⋯,aE ⋯,aE ⋯,aE ⋯,aE ⋯,aE ⋯,aE ⋯,aE ⋯⟩
theorem Zpp:bL "zip"=some (.type "zip"):=by decide +kernel
theorem Zex:bL "enumerate"=some (.type "enumerate"):=by decide +kernel
def Zsm(K:Fg)(t:TA):TI:=λσ H R=>t σ H λvs H1=>∃l xs,vs=[.ref l]/\SqL K H1 l xs/\R (Ite K l) H1
def ZvI(K:Fg)(t:TA):TI:=λσ H R=>t σ H λvs H1=>∃l l2 xs ys,vs=[.ref l,.ref l2]/\SqL K H1 l xs/\SqL K H1 l2 ys/\R (Itz K l l2) H1
theorem ZmN(hc:X.A.handled=none)(hg:Gl X "enumerate")(hm:X.mg "enumerate"=none)(ha:PA X [a] ta)(hs:autoParam (av [a] X.env=(false,eval a X.env)::av [] X.env) Qrf._auto_1)(hpl:autoParam ((cR pos (av [] X.env)).any (·.1)=false) Qrf._auto_1):
  PI X (.Tuple elts k0 tp) (.Call (.Name "enumerate" p) [a] [] pos) (Zsm X.K ta):=by
 intro pins s σ H R I h;refine wpAny_Call_Name_kw (Zbw I hg hm Zex (b9 (thn (ha pos pins s σ H _ I h) λus s1 hz=>?_) hs hpl) (by decide) (by decide))
 obtain⟨vs,H1,I1,r1,q1⟩:=hz;obtain⟨l,xs,rfl,hq,q⟩:=q1;obtain⟨u,rfl,ru⟩:=ZbM r1;cases ru;obtain⟨its,rv,pl,hz⟩:=I1.list hq;refine call_enumerate_list pl.isList λh' e1 e2 e3 e4=>?_;have T:=ZhW (P:=X.prog) (w:=X.w) (K:=X.K) (B:=X.A) (elts:=elts) (k0:=k0) (tp:=tp) hc l (s1.heap.objs.size+1) s1.heap.objs.size (bG (dz _));have I2:Inv X pins σ H1 {s1 with heap:=h',toks:=s1.toks}:=I1.kept (t':=s1.toks) e4;refine T.self X.A 0 {s1 with heap:=h'} _ _ ⟨⟨_,e1⟩,e2⟩ ⟨_,_,_,_,H1,rfl,I2,T,⟨⟨_,e1⟩,e2⟩,λb hb=>?_,q⟩;have hb':s1.heap.objs.size<=b:=by
  simp only[ay,bQ,or_false]at hb;rcases hb with rfl|rfl<;>lia
 exact I1.fpOk hb' (I1.hok.fresh hb')
theorem Zpq(hc:X.A.handled=none)(hg:Gl X "zip")(hm:X.mg "zip"=none)(ha:PA X [a,b] ta)(hs:autoParam (av [a,b] X.env=(false,eval a X.env)::av [b] X.env) Qrf._auto_1)(hpl:autoParam ((cR pos (av [b] X.env)).any (·.1)=false) Qrf._auto_1):
  PI X (.Tuple elts k0 tp) (.Call (.Name "zip" p) [a,b] [] pos) (ZvI X.K ta):=by
 intro pins s σ H R I h;refine wpAny_Call_Name_kw (Zbw I hg hm Zpp (b9 (thn (ha pos pins s σ H _ I h) λus s1 hz=>?_) hs hpl) (by decide) (by decide))
 obtain⟨vs,H1,I1,r1,q1⟩:=hz;obtain⟨l,l2,xs,ys,rfl,hq,hq2,q⟩:=q1;obtain⟨u,u2,rfl,ru,ru2⟩:=ZjN r1;cases ru;cases ru2;obtain⟨its,rv,pl,hz⟩:=I1.list hq;obtain⟨its2,rv2,pl2,hz2⟩:=I1.list hq2;have lt1:l<s1.heap.objs.size:=by obtain⟨_,e,_⟩:=pl.isList;exact Hz e
 have lt2:l2<s1.heap.objs.size:=by obtain⟨_,e,_⟩:=pl2.isList;exact Hz e
 refine call_zip_2 pl.isList pl2.isList λh' e1 e2 e3 e4 e5 e6 e7=>?_;have D:=Zpo lt1 lt2;have T:=Zkd (P:=X.prog) (w:=X.w) (K:=X.K) (B:=X.A) (elts:=elts) (k0:=k0) (tp:=tp) hc D;have I2:Inv X pins σ H1 {s1 with heap:=h',toks:=s1.toks}:=I1.kept (t':=s1.toks) e7;refine T.self X.A 0 {s1 with heap:=h'} _ _ ⟨e1,e2,⟨_,_,e3⟩,e4,e5⟩ ⟨_,_,_,_,H1,rfl,I2,T,⟨e1,e2,⟨_,_,e3⟩,e4,e5⟩,λc hc=>?_,q⟩;have hb':s1.heap.objs.size<=c:=by
  simp only[ay,bQ,or_false]at hc;rcases hc with rfl|rfl|rfl|rfl|rfl<;>lia
 exact I1.fpOk hb' (I1.hok.fresh hb')
def iEn(fs:Av):Ro->Sto->Out Src:=λρ M=>(fs ρ M).bind λds M1=>match ds with|[.ref n]=>.ok (.enu n) M1|_=>.bad
def iZp(fs:Av):Ro->Sto->Out Src:=λρ M=>(fs ρ M).bind λds M1=>match ds with|[.ref n,.ref m]=>.ok (.zip n m) M1|_=>.bad
theorem ZmO(hc:X.A.handled=none)(hm:X.mg "enumerate"=none)(ha:DA X ξ [a] fs)(hg:autoParam (Gl X "enumerate") Qrf._auto_1)(hs:autoParam (av [a] X.env=(false,eval a X.env)::av [] X.env) Qrf._auto_1)(hpl:autoParam ((cR pos (av [] X.env)).any (·.1)=false) Qrf._auto_1):
  DI X ξ (.Tuple elts k0 tp) (.Call (.Name "enumerate" p) [a] [] pos) (iEn fs):=by
 obtain⟨ta,pa,qa⟩:=ha;refine⟨_,ZmN hc hg hm pa hs hpl,λσ ρ H α M R s hh q=>qa σ ρ H α M _ s hh (OG.seq q λds M1 vs H1 α1 e1 h1 r1 w1=>?_)⟩;cases r1 with
 |nil=>exact w1.elim
 |cons r tz=>
  cases tz with
  |cons _ _=>cases r<;>exact w1.elim
  |nil=>
   cases r with
   |@ref l n hp=>
    obtain⟨xs0,g0⟩:=h1.some_at hp;refine⟨l,xs0,rfl,SqL.of g0,w1 _ H1 α1 Ext.refl h1 λi H' α' M' ex hr=>?_⟩;cases em:M'[n]? with
    |none=>rw[show nxt (.enu n) i M'=none by simp only[nxt,em]];exact eZ
    |some so=>
     cases so with
     |lst es=>
      obtain⟨xs,g1,g2⟩:=hr.at (ex.get hp) em;cases ei:es[i]? with
      |none=>rw[show nxt (.enu n) i M'=some none by simp only[nxt,em,ei]];exact⟨xs,SqL.of g1,by rw[g2.length];exact bY.mp ei⟩
      |some d=>
       obtain⟨v,k1,k2⟩:=g2.get ei;rw[show nxt (.enu n) i M'=some (some (D.tup [D.int i,d]))by simp only[nxt,em,ei]]
       refine⟨⟨xs,v,SqL.of g1,k1⟩,λx H'' y=>?_⟩;obtain⟨pp,y1,rfl,y3⟩:=y;have y4:=y3 xs v (SqL.of g1) k1;subst y4;exact⟨Ext.new0 y1,hr.tup y1,.tup ZB (.cons (.int i) (.cons (Rep.mono (Ext.new0 y1) k2) .nil))⟩
   |_=>exact w1.elim
theorem Zf6(hc:X.A.handled=none)(hm:X.mg "zip"=none)(ha:DA X ξ [a,b] fs)(hg:autoParam (Gl X "zip") Qrf._auto_1)(hs:autoParam (av [a,b] X.env=(false,eval a X.env)::av [b] X.env) Qrf._auto_1)(hpl:autoParam ((cR pos (av [b] X.env)).any (·.1)=false) Qrf._auto_1):
  DI X ξ (.Tuple elts k0 tp) (.Call (.Name "zip" p) [a,b] [] pos) (iZp fs):=by
 obtain⟨ta,pa,qa⟩:=ha;refine⟨_,Zpq hc hg hm pa hs hpl,λσ ρ H α M R s hh q=>qa σ ρ H α M _ s hh (OG.seq q λds M1 vs H1 α1 e1 h1 r1 w1=>?_)⟩
 split at w1
 .rename_i n m;cases r1 with
  |cons r t=>
   cases t with
   |cons r' t=>
    cases t;cases r with
    |ref hp=>
    cases r' with
    |ref hp2=>
    rename_i l l2;obtain⟨xs0,g0⟩:=h1.some_at hp;obtain⟨ys0,g0'⟩:=h1.some_at hp2;refine⟨l,l2,xs0,ys0,rfl,SqL.of g0,SqL.of g0',w1 _ H1 α1 Ext.refl h1 λi H' α' M' ex hr=>?_⟩;cases em:M'[n]? with
    |none=>rw[show nxt (.zip n m) i M'=none by simp only[nxt,em]];exact eZ
    |some so=>
     cases em2:M'[m]? with
     |none=>cases so;rw[show nxt (.zip n m) i M'=none by simp only[nxt,em,em2]];exact eZ
     |some so2=>
      cases so with
      |lst es=>
       cases so2 with
       |lst es2=>
        obtain⟨xs,g1,g2⟩:=hr.at (ex.get hp) em;obtain⟨ys,g3,g4⟩:=hr.at (ex.get hp2) em2;cases ei:es[i]? with
        |none=>rw[show nxt (.zip n m) i M'=some none by simp only[nxt,em,em2,ei]];exact⟨xs,ys,SqL.of g1,SqL.of g3,.inl (by rw[g2.length];exact bY.mp ei)⟩
        |some d=>
         cases ej:es2[i]? with
         |none=>rw[show nxt (.zip n m) i M'=some none by simp only[nxt,em,em2,ei,ej]];exact⟨xs,ys,SqL.of g1,SqL.of g3,.inr (by rw[g4.length];exact bY.mp ej)⟩
         |some d2=>
          obtain⟨v,k1,k2⟩:=g2.get ei;obtain⟨v2,k3,k4⟩:=g4.get ej;rw[show nxt (.zip n m) i M'=some (some (D.tup [d,d2]))by simp only[nxt,em,em2,ei,ej]]
          refine⟨⟨xs,ys,v,v2,SqL.of g1,SqL.of g3,k1,k3⟩,λx H'' y=>?_⟩;obtain⟨pp,y1,rfl,y3⟩:=y;have y4:=y3 xs ys v v2 (SqL.of g1) (SqL.of g3) k1 k3;subst y4;exact⟨Ext.new0 y1,hr.tup y1,.tup ZB (.cons (Rep.mono (Ext.new0 y1) k2) (.cons (Rep.mono (Ext.new0 y1) k4) .nil))⟩
 .exact w1.elim
open PySem.SeqAt (EqAt RcAt RcNeAt)
inductive Ks(X:Cx) (H:Hp) (α:List Addr):Kd->Kd->Prop where
 |non:Ks X H α .non .non
 |bl (b:Bool):Ks X H α (.bl b) (.bl b)
 |int (i:Int):Ks X H α (.int i) (.int i)
 |str (x:Str):Ks X H α (.str x) (.str x)
 |tup {vs:List V} {ds es:List D}:Reps X.K H α vs ds->Reps X.K H α vs es->Ks X H α (.tup ds) (.tup es)
 |lst {vs:List V} {ds es:List D}:Reps X.K H α vs ds->Reps X.K H α vs es->Ks X H α (.lst ds) (.lst es)
section
variable {X:Cx}{pins:Pn}{σ:L2.St}{H:Hp}{s:aC}{α:List Addr}{M:Sto}
theorem Zpr(h:HR X.K H α M){x:D}(r:Rep X.K H α v x)(e:kd M x=some k):(match k with|.tup ds=>∃p vs,v=.ref p/\SqT X.K H p vs/\Reps X.K H α vs ds|.lst ds=>∃p vs,v=.ref p/\SqL X.K H p vs/\Reps X.K H α vs ds|.non=>v=.non|.bl b=>v=.bl b|.int i=>v=.int i|.str x=>v=.str x):=by
 cases r with
 |non=>cases e;rfl
 |bl b=>cases e;rfl
 |int i=>cases e;rfl
 |str x=>cases e;rfl
 |du _=>cases e
 |@tup p xs ds hp rp=>cases e;exact⟨p,xs,rfl,(SqT.of hp),rp⟩
 |@rol p xs ds hp rp=>cases e;exact⟨p,xs,rfl,hp.sq,rp⟩
 |@ref p n hp=>
  cases e1:M[n]? with
  |none=>simp only[kd,e1]at e;cases e
  |some o=>
   cases o with
   |lst ds=>
    simp only[kd,e1]at e;cases e;obtain⟨xs,g1,r1⟩:=h.at hp e1;exact⟨p,xs,rfl,SqL.of g1,r1⟩
theorem ZhX(I:Inv X pins σ H s)(h:HR X.K H α M)(rx:Rep X.K H α v x)(ry:Rep X.K H α v y)(ex:kd M x=some k)(ey:kd M y=some l):Ks X H α k l:=by
 have a:=Zpr h rx ex;have b:=Zpr h ry ey;have nl:∀{p:Addr}{xs ys:List V},SqT X.K H p xs->SqL X.K H p ys->False:=λ{p xs ys} a c=>by
  obtain⟨i1,_,⟨o1,g1,c1,_⟩,_⟩:=I.tuple a;obtain⟨i2,_,⟨o2,_,g2,c2,_⟩,_⟩:=I.list c;rw[g1]at g2;cases g2;rw[c1]at c2;exact absurd c2 (by decide)
 cases k with
 |non=>cases a;cases l<;>first|(cases b;done)|exact .non|(obtain⟨_,_,q,_⟩:=b;cases q)
 |bl c=>cases a;cases l<;>first|(cases b;done)|(cases b;exact .bl c)|(obtain⟨_,_,q,_⟩:=b;cases q)
 |int c=>cases a;cases l<;>first|(cases b;done)|(cases b;exact .int c)|(obtain⟨_,_,q,_⟩:=b;cases q)
 |str c=>cases a;cases l<;>first|(cases b;done)|(cases b;exact .str c)|(obtain⟨_,_,q,_⟩:=b;cases q)
 |tup ds=>
  obtain⟨p,vs,rfl,q1,q2⟩:=a;cases l with
  |tup es=>
   obtain⟨p2,vs2,e2,q3,q4⟩:=b;cases e2;cases I.tuple_inj q1 q3;exact .tup q2 q4
  |lst es=>
   obtain⟨p2,vs2,e2,q3,q4⟩:=b;cases e2;exact(nl q1 q3).elim
  |_=>cases b
 |lst ds=>
  obtain⟨p,vs,rfl,q1,q2⟩:=a;cases l with
  |lst es=>
   obtain⟨p2,vs2,e2,q3,q4⟩:=b;cases e2;cases I.list_inj q1 q3;exact .lst q2 q4
  |tup es=>
   obtain⟨p2,vs2,e2,q3,q4⟩:=b;cases e2;exact(nl q3 q1).elim
  |_=>cases b
theorem Zlj(I:Inv X pins σ H s)(h:HR X.K H α M):∀(n:Nat){v w:V}{x x' y y':D}{b b':Bool},Rep X.K H α v x->Rep X.K H α v x'->Rep X.K H α w y->Rep X.K H α w y'->eqF n M x y=some b->eqF n M x' y'=some b'->b=b':=by
 intro n
 induction n with
 |zero=>intro v w x x' y y' b b' _ _ _ _ e;simp only[eqF]at e;cases e
 |succ n ih=>
  have lists:∀(vs ws:List V)(xs xs' ys ys':List D)(b b':Bool),Reps X.K H α vs xs->Reps X.K H α vs xs'->Reps X.K H α ws ys->Reps X.K H α ws ys'->eqL (eqF n M) xs ys=some b->eqL (eqF n M) xs' ys'=some b'->b=b':=by
   intro vs
   induction vs with
   |nil=>
    intro ws xs xs' ys ys' b b' r1 r2 r3 r4 e e';cases r1;cases r2;cases r3 with
    |nil=>cases r4;simp only[eqL,aq]at e e';rw[<-e,<-e']
    |cons _ _=>cases r4;simp only[eqL,aq]at e e';rw[<-e,<-e']
   |cons v vs iv=>
    intro ws xs xs' ys ys' b b' r1 r2 r3 r4 e e';cases r1 with
    |cons p1 t1=>
     cases r2 with
     |cons p2 t2=>
      cases r3 with
      |nil=>cases r4;simp only[eqL,aq]at e e';rw[<-e,<-e']
      |cons p3 t3=>
       cases r4 with
       |cons p4 t4=>
        rename_i d1 ds1 d2 ds2 w d3 ws ds3 d4 ds4;cases a1:eqF n M d1 d3 with
        |none=>simp only[eqL,a1]at e;cases e
        |some a=>
         cases a2:eqF n M d2 d4 with
         |none=>simp only[eqL,a2]at e';cases e'
         |some a'=>
          cases c1:eqL (eqF n M) ds1 ds3 with
          |none=>simp only[eqL,a1,c1]at e;cases e
          |some c=>
           cases c2:eqL (eqF n M) ds2 ds4 with
           |none=>simp only[eqL,a2,c2]at e';cases e'
           |some c'=>
            simp only[eqL,a1,c1,aq]at e;simp only[eqL,a2,c2,aq]at e';rw[<-e,<-e',ih p1 p2 p3 p4 a1 a2,iv _ _ _ _ _ _ _ t1 t2 t3 t4 c1 c2]
  intro v w x x' y y' b b' rx rx' ry ry' e e';unfold eqF at e e';cases k1:kd M x with
  |none=>rw[k1]at e;cases e
  |some ka=>
   cases k2:kd M y with
   |none=>rw[k1,k2]at e;cases e
   |some kb=>
    cases k3:kd M x' with
    |none=>rw[k3]at e';cases e'
    |some ka'=>
     cases k4:kd M y' with
     |none=>rw[k3,k4]at e';cases e'
     |some kb'=>
      rw[k1,k2]at e;rw[k3,k4]at e';have s1:=ZhX I h rx rx' k1 k3;have s2:=ZhX I h ry ry' k2 k4;cases s1 with
      |tup a1 a2=>
       cases s2 with
       |tup b1 b2=>simp only[eqK]at e e';exact lists _ _ _ _ _ _ _ _ a1 a2 b1 b2 e e'
       |_=>simp only[eqK,aq]at e e';rw[<-e,<-e']
      |lst a1 a2=>
       cases s2 with
       |lst b1 b2=>
        simp only[eqK]at e e';rw[<-a1.length,<-b1.length]at e;rw[<-a2.length,<-b2.length]at e'
        split at e
        .rename_i c;rw[if_pos c]at e';exact lists _ _ _ _ _ _ _ _ a1 a2 b1 b2 e e'
        .rename_i c;rw[if_neg c]at e';cases e;cases e';rfl
       |_=>simp only[eqK,aq]at e e';rw[<-e,<-e']
      |_=>cases s2<;>(simp only[eqK,aq]at e e';rw[<-e,<-e'])
def eqs(M:Sto)(d:D):List D->Option (List Bool)
 |[]=>some []
 |x::r=>match eqF 12 M x d with|some b=>(match eqs M d r with|some bs=>some (b::bs)|none=>none)|none=>none
theorem ZhY:∀{M:Sto}{d:D}{xs:List D}{bs:List Bool},eqs M d xs=some bs->bs.length=xs.length
 |_,_,[],_,e=>by cases e;rfl
 |M,d,x::r,bs,e=>by
  cases e1:eqF 12 M x d with
  |none=>simp only[eqs,e1]at e;cases e
  |some b=>
   cases e2:eqs M d r with
   |none=>simp only[eqs,e1,e2]at e;cases e
   |some cs=>simp only[eqs,e1,e2,aq]at e;subst e;rw[bv,bv,ZhY e2]
theorem ZhZ:∀{M:Sto}{d:D}{xs:List D}{bs:List Bool}{i:Nat}{x:D},eqs M d xs=some bs->xs[i]?=some x->∃b,bs[i]?=some b/\eqF 12 M x d=some b
 |_,_,[],_,i,x,e,hx=>by simp at hx
 |M,d,y::r,bs,i,x,e,hx=>by
  cases e1:eqF 12 M y d with
  |none=>simp only[eqs,e1]at e;cases e
  |some b=>
   cases e2:eqs M d r with
   |none=>simp only[eqs,e1,e2]at e;cases e
   |some cs=>
    simp only[eqs,e1,e2,aq]at e;subst e;cases i with
    |zero=>simp at hx;subst hx;exact⟨b,rfl,e1⟩
    |succ i=>simp at hx;obtain⟨b',q1,q2⟩:=ZhZ e2 hx;exact⟨b',by simpa using q1,q2⟩
open Classical in
theorem ZmP{A:cV}(hu:A.units+64<jd)(I:Inv X pins σ H s)(h:HR X.K H α M)(rv:ZS vs us)(rp:Reps X.K H α vs ds)(ru:ZZ v u)(rd:Rep X.K H α v d)(e:eqs M d ds=some bs):∃f:ae->Bool,(∀y,y∈us.toArray->EqAt A.in1 s y u (f y))/\us.map f=bs:=by
 have ll:us.length=ds.length:=by rw[<-rv.length,rp.length]
 have at_:∀(i:Nat) y,us[i]?=some y->∃w x b,ZZ w y/\Rep X.K H α w x/\bs[i]?=some b/\eqF 12 M x d=some b:=λi y hy=>by
  have hi:i<ds.length:=by rw[<-ll];exact(ar.mp hy).1
  obtain⟨w,a1,a2⟩:=rp.get (Gq hi);obtain⟨y',a3,a4⟩:=rv.get a1;rw[hy]at a3;cases a3;obtain⟨b,a5,a6⟩:=ZhZ e (Gq hi);exact⟨w,_,b,a4,a2,a5,a6⟩
 refine⟨λy=>decide (∃w x,ZZ w y/\Rep X.K H α w x/\eqF 12 M x d=some true),λy hy=>?_,?_⟩
 .obtain⟨i,hi,ey⟩:=bF (by simpa using hy)
  obtain⟨w,x,b,q1,q2,q3,q4⟩:=at_ i y (by rw[aa hi,ey])
  have hb:decide (∃w x,ZZ w y/\Rep X.K H α w x/\eqF 12 M x d=some true)=b:=by
   cases b with
   |true=>exact decide_eq_true ⟨w,x,q1,q2,q4⟩
   |false=>
    refine decide_eq_false λhz=>?_;obtain⟨w',x',z1,z2,z3⟩:=hz;cases ZZ.inj z1 q1
    have:=Zlj I h 12 z2 q2 rd rd z3 q4
    cases this
  show EqAt A.in1 s y u (decide (∃w x,ZZ w y/\Rep X.K H α w x/\eqF 12 M x d=some true));rw[hb];exact(eq3 I h 12 x d w v y u b A.in1 (by rw[cV.in1_units];lia) q4 q2 rd q1 ru).1
 .apply eO;intro i;rw[bn];cases hy:us[i]? with
  |none=>
   have:bs[i]?=none:=a8 (by rw[ZhY e,<-ll];exact bY.mp hy)
   rw[this];rfl
  |some y=>
   obtain⟨w,x,b,q1,q2,q3,q4⟩:=at_ i y hy;rw[q3];show some _=some b;congr 1;cases b with
   |true=>exact decide_eq_true ⟨w,x,q1,q2,q4⟩
   |false=>
    refine decide_eq_false λhz=>?_;obtain⟨w',x',z1,z2,z3⟩:=hz;cases ZZ.inj z1 q1
    have:=Zlj I h 12 z2 q2 rd rd z3 q4
    cases this
end
def inE(x y:D)(M:Sto):Option Bool:=match ZgN M y with|some ds=>(match eqs M x ds with|some bs=>some (bs.any id)|none=>none)|none=>none
def Zps(X:Cx):V->List V->Hp->VK->Prop:=λv vs H Q=>∃α M d ds bs p xs u j,HR X.K H α M/\v=.ref p/\vs=[u]/\Rep X.K H α u d/\SqL X.K H p xs/\Reps X.K H α xs ds/\eqs M d ds=some bs/\bs.findIdx? id=some j/\Q (.int (j:Nat)) H
theorem Zlk(hu:X.A.units+64<jd):MtR X "list.index" (Zps X):=by
 intro pins s σ H x vs v us Q I rx rv hh;obtain⟨α,M,d,ds,bs,p,xs,u,j,h,e1,e2,rd,hq,rp,e,ej,q⟩:=hh;subst e1 e2;cases rx;obtain⟨uv,rfl,ru⟩:=ZbM rv;obtain⟨its,r,pl,hz⟩:=I.list hq;obtain⟨f,f1,f2⟩:=ZmP (A:=X.A) hu I h r rp ru rd e;obtain⟨⟨cls,dd,data,sl⟩,ho,hc,n,hd⟩:=pl.isList;simp only at hc hd;subst hc hd;obtain⟨jl,j1,j2⟩:=il.mp ej;have lb:bs.length=its.length:=by rw[<-f2,af]
 have at_:∀(m:Nat)(hm:m<its.length),bs[m]?=some (f its[m]):=λm hm=>by rw[<-f2,bn,aa hm];rfl
 have hj:j<its.toArray.size:=by rw[ah,<-lb];exact jl
 have hit:f its.toArray[j]=true:=by
  have:=at_ j (by rw[<-lb];exact jl)
  rw[aa jl]at this
  have:=aM this
  simp only[lY];rw[<-this];exact j1
 have hno:∀m (hm:m<its.toArray.size),m<j->f its.toArray[m]=false:=λm hm hmj=>by
  have hm':m<its.length:=by simpa using hm
  have:=at_ m hm'
  rw[aa ⋯]at this
  have:=aM this
  simp only[lY];rw[<-this]
  simpa using j2 m hmj
 have hs:(j:Int)<2^63-1:=by
  have h1:j<its.length:=by rw[<-lb];exact jl
  have h2:its.length<=sizeLine:=by rw[<-r.length];exact hz
  have h3:sizeLine<2^62:=by decide
  lia
 refine call_meets F.slot_list_index ⟨_,ho,rfl⟩ F.entry_list_index (F.args_list_index_2 _ _) (SeqAt.list_indexAt p its.toArray n dd sl uv f j hj hs hit hno) ⟨ho,f1,?_⟩;exact⟨.int (j:Nat),H,I.tok _,⟨_,rfl⟩,q⟩
def mIdx:Me:=λx ds M=>match x,ds with
 |.ref n,[d]=>(match M[n]? with|some (.lst xs)=>(match eqs M d xs with|some bs=>(match bs.findIdx? id with|some j=>.ok (.int (j:Nat)) M|none=>.bad)|none=>.bad)|none=>.bad)
 |_,_=>.bad
theorem Zll:MO X ξ (Zps X) mIdx:=by
 intro H α M v vs x ds Q h rx rs q;cases rx with
 |@ref p n hp=>
  cases rs with
  |nil=>exact q.elim
  |@cons u d _ _ ru tz=>
   cases tz with
   |cons _ _=>exact q.elim
   |nil=>
    cases em:M[n]? with
    |none=>simp only[mIdx,em]at q;exact q.elim
    |some so=>
     cases so with
     |lst es=>
      cases e2:eqs M d es with
      |none=>simp only[mIdx,em,e2]at q;exact q.elim
      |some bs=>
       cases e3:bs.findIdx? id with
       |none=>simp only[mIdx,em,e2,e3]at q;exact q.elim
       |some j=>
        simp only[mIdx,em,e2,e3]at q;obtain⟨xs,g1,g2⟩:=h.at hp em;exact⟨α,M,d,es,bs,p,xs,u,j,h,rfl,rfl,ru,SqL.of g1,g2,e2,e3,q _ H α Ext.refl h (.int _)⟩
 |_=>cases rs<;>exact q.elim
noncomputable def Zbv:List D->Option (List Int)
 |[]=>some []
 |.int b::r=>match Zbv r with|some bs=>some (b::bs)|none=>none
 |_::_=>none
theorem Zke{K:Fg}(h:Reps K H α vs ds)(e:Zbv ds=some bs):vs=bs.map V.int:=by
 induction ds generalizing vs bs with
 |nil=>cases h;cases e;rfl
 |cons d ds ih=>
  cases h with
  |cons r t=>
   cases r with
   |int b=>
    cases e1:Zbv ds with
    |none=>simp only[Zbv,e1]at e;cases e
    |some cs=>
     simp only[Zbv,e1,aq]at e;subst e;rw[ih t e1];rfl
   |_=>cases e
def ZgU(X:Cx)(g:List Int->Option V):List V->Hp->VK->Prop:=λvs H Q=>∃(p:Addr) (ns:List Int) (v:V),vs=[.ref p]/\SqL X.K H p (ns.map V.int)/\g ns=some v/\Q v H
theorem ZbS:∀{ns:List Int}{us:List ae}{i:Nat}{u:ae},ZS (ns.map V.int) us->us[i]?=some u->∃t,u=.int (ns.getD i 0) t
 |[],us,i,u,h,e=>by cases h;simp at e
 |b::r,us,i,u,h,e=>by
  cases h with
  |cons h1 h2=>
   cases i with
   |zero=>simp at e;subst e;exact h1
   |succ i=>simp at e;obtain⟨t,g⟩:=ZbS h2 e;exact⟨t,by simpa using g⟩
theorem Zey(hc:X.calm=true){ns:List Int}(I:Inv X pins σ H s)(hl:SqL X.K H p (ns.map V.int))(q:∀(its:List ae)(it:Addr),ZS (ns.map V.int) its->its.length=ns.length->it=s.heap.objs.size->Walks X.prog X.w X.A.in1 it [it,p] [it] its.toArray.size (λi v=>its.toArray[i]?=some v) (λi h=>h.IsListIter it p i/\h.IsList p its.toArray)->(∀b∈[it,p],b<(s.heap.push {cls:=.type "list_iterator",data:=.fields #[.ref p,.int 0 0]}).objs.size)->((s.heap.push {cls:=.type "list_iterator",data:=.fields #[.ref p,.int 0 0]}).IsListIter it p 0/\(s.heap.push {cls:=.type "list_iterator",data:=.fields #[.ref p,.int 0 0]}).IsList p its.toArray)->(∀h' tk,(∀b o,b∉[it]->(s.heap.push {cls:=.type "list_iterator",data:=.fields #[.ref p,.int 0 0]}).get? b=some o->h'.get? b=some o)->Inv X pins σ H {s with heap:=h',toks:=tk})->Q (.ref it) {s with heap:=s.heap.push {cls:=.type "list_iterator",data:=.fields #[.ref p,.int 0 0]}}):wpAny (ao X.prog X.w) X.A.in1 (pyIter (.ref p)) Q E s:=by
 obtain⟨its,hv,hp,hz⟩:=I.list hl;have hlt:p<s.heap.objs.size:=by obtain⟨_,e,_⟩:=hp.isList;exact Hz e
 refine jG hp.isList ?_;refine q its s.heap.objs.size hv (by rw[<-hv.length,af]) rfl (Walks.list (A:=X.A.in1) (I.ok.hd hc) _ p (aE hlt) its.toArray) (λb hb=>?_) ⟨⟨_,aG _ rfl,rfl,rfl⟩,hp.isList.push _⟩ λh' tk hk=>?_
 .rw[gf];simp only[ay,bQ,or_false]at hb;rcases hb with rfl|rfl
  .exact dz _
  .exact fX hlt
 .exact I.kept λb o e=>hk b o (λhm=>by rw[bU.mp hm]at e;exact b7 _ (Hz e)) (Hq _ e)
theorem Zkf{ns:List Int}(h:0<ns.length):ns.max?=some (ns.getD (argBest (λi j=>decide (ns.getD i 0>ns.getD j 0)) (ns.length-1)) 0):=by
 obtain⟨h1,h2⟩:=argBest_gt (λi=>ns.getD i 0) (ns.length-1);refine iE.mpr ⟨?_,λb hb=>?_⟩
 .have hl:argBest (λi j=>decide (ns.getD i 0>ns.getD j 0)) (ns.length-1)<ns.length:=by omega
  rw[az,aa hl];exact cA hl
 .obtain⟨j,hj,rfl⟩:=bF hb
  have:=h2 j (by omega)
  rwa [show ns.getD j 0=ns[j]by rw[az,aa hj];rfl]at this
theorem Zkg{ns:List Int}(h:0<ns.length):ns.min?=some (ns.getD (argBest (λi j=>decide (ns.getD i 0<ns.getD j 0)) (ns.length-1)) 0):=by
 obtain⟨h1,h2⟩:=argBest_lt (λi=>ns.getD i 0) (ns.length-1);refine lG.mpr ⟨?_,λb hb=>?_⟩
 .have hl:argBest (λi j=>decide (ns.getD i 0<ns.getD j 0)) (ns.length-1)<ns.length:=⋯
  rw[az,aa hl];exact cA hl
 .obtain⟨j,hj,rfl⟩:=bF hb
  have:=h2 j ⋯
  rwa [show ns.getD j 0=ns[j]by rw[az,aa hj];rfl]at this
def ZrR(ns:List Int):Option V:=ns.max?.map V.int
def ZrS(ns:List Int):Option V:=ns.min?.map V.int
theorem ZbT(hc:X.calm=true):Zbt X (.builtin "max") (ZgU X ZrR):=by
 intro pins s σ H vs us Q I rs hh;obtain⟨p,ns,v,e,hl,hg,q⟩:=hh;subst e;obtain⟨u,rfl,ru⟩:=ZbM rs;cases ru;have hn:0<ns.length:=by cases ns with|nil=>cases hg|cons _ _=>simp
 unfold ZrR at hg;rw[Zkf hn]at hg;cases hg;refine call_max_walk (Zey hc I hl λits it hv hlen ei W hfp st back=>?_);refine⟨it,_,_,_,_,_,_,rfl,W,st,hfp,by rw[ah,hlen];exact hn,CmpOf.ints_gt (λi=>ns.getD i 0) (λi v hP=>ZbS hv (by simpa using hP)),λv h' tk hP hk=>⟨_,H,back h' tk hk,?_,q⟩⟩
 rw[ah,hlen]at hP;exact ZbS hv (by simpa using hP)
theorem Zez(hc:X.calm=true):Zbt X (.builtin "min") (ZgU X ZrS):=by
 intro pins s σ H vs us Q I rs hh;obtain⟨p,ns,v,e,hl,hg,q⟩:=hh;subst e;obtain⟨u,rfl,ru⟩:=ZbM rs;cases ru;have hn:0<ns.length:=by cases ns with|nil=>cases hg|cons _ _=>simp
 unfold ZrS at hg;rw[Zkg hn]at hg;cases hg;refine call_min_walk (Zey hc I hl λits it hv hlen ei W hfp st back=>?_);refine⟨it,_,_,_,_,_,_,rfl,W,st,hfp,by rw[ah,hlen];exact hn,CmpOf.ints_lt (λi=>ns.getD i 0) (λi v hP=>ZbS hv (by simpa using hP)),λv h' tk hP hk=>⟨_,H,back h' tk hk,?_,q⟩⟩
 rw[ah,hlen]at hP;exact ZbS hv (by simpa using hP)
def Zcu(g:List Int->Option Int):W3:=λds M=>match ds with
 |[x]=>(match ZgN M x with|some xs=>(match x with|.tup _=>.bad|_=>(match Zbv xs with|some ns=>(match g ns with|some i=>.ok (.int i) M|none=>.bad)|none=>.bad))|none=>.bad)
 |_=>.bad
theorem Zh0(hg:∀ns i,g ns=some i->gV ns=some (.int i)):CO X ξ (ZgU X gV) (Zcu g):=by
 intro H α M vs ds Q h rs q;unfold Zcu at q;cases rs with
 |nil=>exact q.elim
 |@cons _ x _ _ r tz=>
  cases tz with
  |cons _ _=>exact q.elim
  |nil=>
   have fin:∀(p:Addr)(xs:List V)(ys:List D),SqL X.K H p xs->Reps X.K H α xs ys->OP X.K H α ξ Q (match Zbv ys with|some ns=>(match g ns with|some i=>.ok (.int i) M|none=>.bad)|none=>.bad)->ZgU X gV [.ref p] H Q:=λp xs ys k1 k2 q=>by
    cases e1:Zbv ys with
    |none=>rw[e1]at q;exact q.elim
    |some ns=>
     cases e2:g ns with
     |none=>simp only[e1,e2]at q;exact q.elim
     |some i=>
      simp only[e1,e2]at q
      have:=Zke k2 e1
      subst this;exact⟨p,ns,.int i,rfl,k1,hg _ _ e2,q _ H α Ext.refl h (.int i)⟩
   cases r with
   |@rol p xs ds hp rp=>exact fin p xs ds hp.sq rp q
   |@ref p n hp=>
    cases em:M[n]? with
    |none=>simp only[ZgN,em]at q;exact q.elim
    |some so=>
     cases so with
     |lst es=>
      simp only[ZgN,em]at q;obtain⟨xs,g1,g2⟩:=h.at hp em;exact fin p xs es (SqL.of g1) g2 q
   |tup _ _=>exact q.elim
   |_=>exact q.elim
theorem ZdL:CO X ξ (ZgU X ZrR) (Zcu mE):=Zh0 λns i e=>by unfold ZrR;rw[e];rfl
theorem Zh1:CO X ξ (ZgU X ZrS) (Zcu List.min?):=Zh0 λns i e=>by unfold ZrS;rw[e];rfl
end DL
namespace DL
open PyProof.Rows L2
noncomputable def kK:D->Option Key
 |.int i=>some (.inl i)
 |.str x=>some (.inr x)
 |_=>none
def kKs:List D->Option (List Key)
 |[]=>some []
 |d::r=>match kK d,kKs r with|some k,some ks=>some (k::ks)|_,_=>none
def kT:D->Option (List Key)
 |.tup ds=>kKs ds
 |_=>none
theorem Zpt(h:kK d=some k):d=Zn8 k:=by
 cases d<;>first|(cases h;rfl)|cases h
theorem ZmQ(k:Key):kK (Zn8 k)=some k:=by cases k<;>rfl
theorem Zh2:∀{ds:List D}{ks:List Key},kKs ds=some ks->ds=ks.map Zn8
 |[],ks,h=>by cases h;rfl
 |d::r,ks,h=>by
  unfold kKs at h
  split at h
  .rename_i k ks' e1 e2;cases h;rw[aK,<-Zpt e1,<-Zh2 e2]
  .cases h
theorem Zf7:∀(ks:List Key),kKs (ks.map Zn8)=some ks
 |[]=>rfl
 |k::ks=>by rw[aK,kKs,ZmQ,Zf7 ks]
theorem Zpu(h:kT d=some ks):d=Ze7 ks:=by
 cases d with
 |tup ds=>rw[Ze7,<-Zh2 h]
 |_=>cases h
theorem Zkh(ks:List Key):kT (Ze7 ks)=some ks:=Zf7 ks
section
variable {κ:Type}[DecidableEq κ]
noncomputable def Zki(dec:D->Option κ)(k:κ):List D->Option D
 |[]=>none
 |.tup [a,v]::r=>if dec a=some k then some v else Zki dec k r
 |_::r=>Zki dec k r
noncomputable def ZmR(dec:D->Option κ)(k:κ)(v:D)(ds:List D):List D:=ds.map λe=>match e with|.tup [a,w]=>if dec a=some k then .tup [a,v]else e|e=>e
def Zoa(dec:D->Option κ)(k:κ)(kd v:D)(ds:List D):List D:=if(Zki dec k ds).isSome then ZmR dec k v ds else ds++[.tup [kd,v]]
variable {K:Fg}{H:Hp}{α α':List Addr}{key:κ->D}{dec:D->Option κ}
theorem Zh3:Zce K H α key [] []:=⟨[],rfl,.nil⟩
theorem ZeA(hd:∀k,dec (key k)=some k):∀{kvs:List (κ×V)} {es:List D} (k:κ),Reps K H α (kvs.map (·.2)) es->
  match Zki dec k (cf (λkv e=>D.tup [key kv.1,e]) kvs es)with|none=>ZjA kvs k=none|some d=>∃v,ZjA kvs k=some v/\Rep K H α v d
 |[],es,k,h=>by cases h;rfl
 | (k',v)::kvs,_,k,.cons r t=>by
  simp only[iy,Zki,hd,aq];by_cases c:k'=k
  .rw[if_pos c];exact⟨v,ZfN (p:=(k',v)) c,r⟩
  .rw[if_neg c]
   have:=ZeA hd k t
   have e:ZjA ((k',v)::kvs) k=ZjA kvs k:=ZfO (p:=(k',v)) c;rw[e];exact this
theorem ZeB(hd:∀k,dec (key k)=some k){w:V}{d:D}(rw':Rep K H α w d):∀{kvs:List (κ×V)} {es:List D} (k:κ),Reps K H α (kvs.map (·.2)) es->
  ∃es',ZmR dec k d (cf (λkv e=>D.tup [key kv.1,e]) kvs es)=cf (λkv e=>D.tup [key kv.1,e]) (kvs.map λkv=>if kv.1=k then(kv.1,w)else kv) es'/\Reps K H α ((kvs.map λkv=>if kv.1=k then(kv.1,w)else kv).map (·.2)) es'
 |[],es,k,h=>by cases h;exact⟨[],rfl,.nil⟩
 | (k',v)::kvs,_,k,.cons (d:=dv) (ds:=es) r t=>by
  obtain⟨es',h1,h2⟩:=ZeB hd rw' k t;unfold ZmR at h1;by_cases c:k'=k
  .refine⟨d::es',?_,?_⟩
   .simp only[ZmR,iy,aK,hd,aq,if_pos c,h1]
   .simp only[aK,if_pos c];exact .cons rw' h2
  .refine⟨dv::es',?_,?_⟩
   .simp only[ZmR,iy,aK,hd,aq,if_neg c,h1]
   .simp only[aK,if_neg c];exact .cons r h2
theorem Zf8{α' β γ:Type}{f:α'->β->γ}{x:α'}{y:β}:∀{xs:List α'}{ys:List β},xs.length=ys.length->cf f (xs++[x]) (ys++[y])=cf f xs ys++[f x y]
 |[],[],_=>rfl
 |a::xs,b::ys,h=>by simp[Zf8 (xs:=xs) (ys:=ys) (by simpa using h)]
theorem Zh4(hd:∀k,dec (key k)=some k){kvs:List (κ×V)}{ds:List D}{w:V}{d:D}(k:κ)(h:Zce K H α key kvs ds)(r:Rep K H α w d):Zce K H α key (ZjB kvs k w) (Zoa dec k (key k) d ds):=by
 obtain⟨es,rfl,hr⟩:=h;have pv:=ZeA hd k hr;have an:=ZfP k kvs;unfold ZjB Zoa;cases e:Zki dec k (cf (λkv e=>D.tup [key kv.1,e]) kvs es)with
 |none=>
  rw[e]at pv;rw[if_neg (by rw[an,pv];simp),if_neg (by simp)]
  refine⟨es++[d],?_,?_⟩
  .rw[Zf8 (by rw[<-hr.length,af])]
  .rw[dj];exact hr.append (.cons r .nil)
 |some x=>
  rw[e]at pv;obtain⟨v,hv,_⟩:=pv;rw[if_pos (by rw[an,hv];rfl),if_pos (show(some x).isSome=true from rfl)]
  exact ZeB hd r k hr
theorem Zh5{kvs:List (κ×V)}{ds:List D}(h:Zce K H α key kvs ds):kvs.length=ds.length:=by
 obtain⟨es,rfl,hr⟩:=h
 have:=hr.length
 rw[af]at this;simp[this]
end
theorem Zfc:bL "reversed"=some (.type "reversed"):=by decide +kernel
section
variable {e1 e2:Expr}
def eFm(f:Ev):Ev:=λρ M=>(f ρ M).bind λx M1=>match x with
 |.int i=>if i.natAbs.log2<1900 then .ok (.str (bJ (toString i))) M1 else .bad
 |.str y=>if y.length<=100000 then .ok (.str y) M1 else .bad
 |_=>.bad
theorem Zkj(ha:DE X ξ e f):DE X ξ (.FormattedValue e (-1) none pos) (eFm f):=by
 obtain⟨ta,pa,qa⟩:=ha;refine⟨λσ H Q=>ta σ H λx H1=>(∃i,x=.int i/\i.natAbs.log2<1900/\Q (.str (bJ (toString i))) H1)\/∃y,x=.str y/\y.length<=100000/\Q (.str y) H1,λpins s σ H Q I h=>?_,λσ ρ H α M Q s h q=>?_⟩
 .refine wpAny_FormattedValue_plain (wpAny_mono (pa pins s σ H _ I h) (λv s1 hz=>?_) λ_ _ z=>z);obtain⟨x,H1,I1,r1,q1⟩:=hz;rcases q1 with⟨i,rfl,hi,q⟩|⟨y,rfl,hy,q⟩
  .obtain⟨t,rfl⟩:=r1;exact wpAny_formatField_int ⋯ ⟨.str (bJ (toString i)),H1,I1.tok _,⟨_,rfl⟩,q⟩
  .obtain⟨t,rfl⟩:=r1;exact wpAny_formatField_str ⟨.str y,H1,I1,⟨_,rfl⟩,q⟩ ⟨.str y,H1,I1.tok _,⟨_,rfl⟩,q⟩ (aZ hy (by rw[dh];decide))
 .refine qa σ ρ H α M _ s h (OG.seq q λx M1 v H1 α1 e1 h1 r1 q1=>?_);cases r1 with
  |int i=>
   by_cases hi:i.natAbs.log2<1900
   .simp only[hi,if_true]at q1;exact .inl ⟨i,rfl,hi,q1 _ H1 α1 Ext.refl h1 (.str _)⟩
   .simp only[hi,if_false]at q1;exact q1.elim
  |str y=>
   by_cases hi:y.length<=100000
   .simp only[hi,if_true]at q1;exact .inr ⟨y,rfl,hi,q1 _ H1 α1 Ext.refl h1 (.str _)⟩
   .simp only[hi,if_false]at q1;exact q1.elim
  |_=>exact q1.elim
abbrev Jv:=Str->Ro->Sto->Out Str
def PJ(X:Cx)(es:List Expr)(t:L2.St->Hp->Str->(Str->Hp->Prop)->Prop):Prop:=
 ∀(pins:Pn)(s:aC)(σ:L2.St)(H:Hp)(acc:Str)(Q:Str->Hp->Prop),Inv X pins σ H s->t σ H acc Q->Joins (ao X.prog X.w) X.A X.xe (evalEach es X.env) acc (λout s1=>out.length<=100000/\∃H',Inv X pins σ H' s1/\Q out H') s
def DJ(X:Cx)(ξ:XK)(es:List Expr)(g:Jv):Prop:=∃t,PJ X es t/\∀σ ρ H α M acc (Q:Str->Hp->Prop),SR X.K H α σ ρ->HR X.K H α M->OG X.K (λ_ _ v d=>v=d) H α ξ Q (g acc ρ M)->t σ H acc Q
noncomputable def jNil:Jv:=λacc _ M=>if acc.length<=100000 then .ok acc M else .bad
def ZcW(f:Ev)(g:Jv):Jv:=λacc ρ M=>(f ρ M).bind λx M1=>match x with
 |.str y=>if(acc++y).length<=100000 then g (acc++y) ρ M1 else .bad
 |_=>.bad
def eFs(g:Jv):Ev:=λρ M=>(g nG ρ M).bind λx M1=>.ok (.str x) M1
theorem Zh6:DJ X ξ [] jNil:=by
 refine⟨λσ H acc Q=>acc.length<=100000/\Q acc H,λpins s σ H acc Q I h=>⟨h.1,H,I,h.2⟩,λσ ρ H α M acc Q s h q=>?_⟩;unfold jNil at q;by_cases hl:acc.length<=100000
 .rw[if_pos hl]at q;exact⟨hl,q acc H α Ext.refl h rfl⟩
 .rw[if_neg hl]at q;exact q.elim
theorem ZaJ(ha:DE X ξ e f)(hr:DJ X ξ es g):DJ X ξ (e::es) (ZcW f g):=by
 obtain⟨ta,pa,qa⟩:=ha;obtain⟨tr,pr',qr⟩:=hr;refine⟨λσ H acc Q=>ta σ H λx H1=>∃y,x=.str y/\(acc++y).length<=100000/\tr σ H1 (acc++y) Q,λpins s σ H acc Q I h=>?_,λσ ρ H α M acc Q s h q=>?_⟩
 .show wpAny _ _ (eval e X.env) _ _ s;refine wpAny_mono (pa pins s σ H _ I h) (λv s1 hz=>?_) λ_ _ z=>z;obtain⟨x,H1,I1,r1,q1⟩:=hz;obtain⟨y,rfl,hy,q⟩:=q1;obtain⟨t,rfl⟩:=r1;exact⟨y,t,rfl,aZ hy (by rw[dh];decide),pr' pins s1 σ H1 (acc++y) Q I1 q⟩
 .refine qa σ ρ H α M _ s h (OG.seq q λx M1 v H1 α1 e1 h1 r1 q1=>?_);cases r1 with
  |str y=>
   by_cases hi:(acc++y).length<=100000
   .simp only[hi,if_true]at q1;exact⟨y,rfl,hi,qr σ ρ H1 α1 M1 (acc++y) Q (s.mono e1) h1 q1⟩
   .simp only[hi,if_false]at q1;exact q1.elim
  |_=>exact q1.elim
theorem ZmS(h:DJ X ξ (e1::e2::es) g):DE X ξ (.JoinedStr (e1::e2::es) pos) (eFs g):=by
 obtain⟨t,pj,qj⟩:=h;refine⟨λσ H Q=>t σ H nG λx H1=>Q (.str x) H1,λpins s σ H Q I h=>?_,λσ ρ H α M Q s h q=>?_⟩
 .refine wpAny_JoinedStr ?_
  have:=pj pins s σ H nG _ I h
  have mono:∀(ms:List (Sem ae)) (acc:Str) (P R:Str->aC->Prop) (s:aC),(∀o s,P o s->R o s)->Joins (ao X.prog X.w) X.A X.xe ms acc P s->Joins (ao X.prog X.w) X.A X.xe ms acc R s:=by
   intro ms
   induction ms with
   |nil=>intro acc P R s hp hj;exact hp _ _ hj
   |cons m r ih=>
    intro acc P R s hp hj;exact wpAny_mono hj (λv s1 ⟨y,t,e,l,k⟩=>⟨y,t,e,l,ih _ P R s1 hp k⟩) λ_ _ z=>z
  refine mono _ _ _ _ s (λo s1 hz=>?_) this;obtain⟨hl,H',I',q⟩:=hz;exact⟨aZ hl (by rw[dh];decide),.str o,H',I'.tok _,⟨_,rfl⟩,q⟩
 .refine qj σ ρ H α M nG _ s h (OG.seq q λx M1 v H1 α1 e1 h1 r1 q1=>?_);cases r1;exact q1 _ H1 α1 Ext.refl h1 (.str x)
end
theorem ZgV{o:Out β}{f:β->Sto->Out γ}{g:γ->Sto->Fl}:Zas (o.bind f) g=Zas o λx M=>Zas (f x M) g:=by cases o<;>rfl
theorem Zb1(iv:Nat)(hN:X.N.Nodup)(B:Blk X scope cl N k fr)(hi:DI X ξ tg iter fi)(h:Blk X scope cl N k fr->∀C fp s H,DG (blk X scope cl N C fp s H) tg gt/\DC (blk X scope cl N C fp s H) ifs c/\DE (blk X scope cl N C fp s H) E0 elt f)(hiv:autoParam (X.N[iv]?=some x) Qrf._auto_1)(hxl:Loc X.env.scope x:=by first|exact dw rfl|exact lQ rfl)(hm:autoParam (X.may iv=true) Qrf._auto_1)(hsw:autoParam (ja (.ListComp elt [⟨tg,iter,ifs,0⟩] scope pos) (some (.Name x pos')) spos.line X.env=pure true) Qrf._auto_1)(hf:X.fn x=true\/X.env.scope.names.lookup x=some .local:=by first|exact .inl rfl|exact .inr rfl|assumption)(hs:autoParam (∀x,foldedSetIterable iter X.env x=pure x) Qin._auto_1):DS X ξ (.Assign [.Name x pos'] (.ListComp elt [⟨tg,iter,ifs,0⟩] scope pos) spos) (ZK (gNm iv) (Zao fi k fr gt c f)):=by
 rw[Zf4];obtain⟨wi,pi,qi⟩:=hi;refine⟨λDn σ H=>∃ρ α M,SR X.K H α σ ρ/\HR X.K H α M/\FP X.K H α ξ Dn (ZK (gNm iv) (Zbe fi k fr gt c (gEm f)) ρ M),?_,λσ ρ H α M Dn s h q=>⟨ρ,α,M,s,h,q⟩⟩;rintro pins s σ H Dn I ⟨ρ,α,M,sr,hr,op⟩;rw[exec_Assign_Name_used _ _ _ _ hsw];refine Wb (wpAny_standAt (Wb ?_));show wpAny _ X.A (do let _ <-comprehension (.ListComp elt [⟨tg,iter,ifs,0⟩] scope pos) scope X.env _ (newList []) false (eval iter X.env) (some (assign (.Name x pos') X.env))) _ _ s
 unfold ZK Zbe at op;rw[ZgV]at op;refine Wb (wpAny_mono (Zf2 (P:=λ_ s'=>SP X pins Dn .next s') (g:=gEm f) B pi (λC fp s H=>(h B C fp s H).1) (λC fp s H=>(h B C fp s H).2.1) (Zf1 elt tg iter ifs scope pos) (λC fp s H D n0 it=>ZcU (λ_ _ z=>z) (h B C fp s H).2.2) hs sr I (qi σ ρ H α M _ sr hr (FP.seq op λsrc M1 J H1 α1 e1 h1 r1 q1=>?_))) (λ_ s' hq=>Wp (Wp hq)) λ_ _ e=>e)
 cases er:ZcD src gt c (gEm f M1.length) (cnt src M1) 0 (roB k fr ρ) (M1++[.lst []])with
 |ok u9 M9=>
  rw[er]at q1;refine⟨α1,M1,src,u9,M9,e1,h1,r1,er,λD C H5 α5 s6 m6 ex5 hr5 aD I7 hm6 nl nc tu=>?_⟩;refine wpAny_assign_Name (Zec (v:=.ref D) I7 hN hiv hxl hm rfl (λs8 I8 hz=>?_) hf);obtain⟨a,sb8,ha⟩:=hz;have nca:C≠a:=by
   rcases ha with e|e
   .rw[e];exact nl
   .intro z;exact nc x (z▸e)
  exact⟨m6,hm6.sameBut sb8 nca,λh' sb=>⟨_,H5,tu _ s8 h' I8 (λb o hb e=>(sb.2 b hb).trans e),q1 _ H5 α5 ex5 hr5 (((sr.mono e1).mono ex5).set iv (.ref aD))⟩⟩
 |_=>rw[er]at q1;exact q1.elim
end DL
namespace DQ
open PyProof.Rows
end DQ
namespace DL
open PyProof.Rows L2
noncomputable def ZvJ:Bo:=λx y M=>match x,y with
 |.ref n,.int k=>match M[n]? with
  |some (.lst xs)=>if(-9223372036854775808<=k/\k<9223372036854775808)/\xs.length*k.toNat<=100000 then .ok (.ref M.length) (M++[.lst (bC k.toNat xs).flatten])else .bad
  |none=>.bad
 |_,_=>.bad
end DL
namespace DL
open L2
open PySem.W
theorem ZgW:typeLookup (.type "list_reverseiterator") "__len__"=pure none:=by rw[typeLookup_type,lH];kernel_rfl
theorem Zkk:typeLookup (.type "list_reverseiterator") "__length_hint__"=pure (some (.builtin "list_reverseiterator.__length_hint__")):=by rw[typeLookup_type,lH];kernel_rfl
theorem ZmT:isSubtype (.type "list_reverseiterator") (.type "list_reverseiterator")=pure true:=by rw[isSubtype_type];kernel_rfl
theorem Zh7:splitId "list_reverseiterator.__length_hint__"=some ("list_reverseiterator","__length_hint__"):=by decide +kernel
theorem Zkl(hT:s.TypeIs (.ref I) "list_reverseiterator")(h:Q false s):wpAny (ao prog w) A (i7 (.ref I)) Q E s:=by
 unfold i7;refine Wb (fJ hT ZgW ?_);show wpAny _ A (specialOf (aU I) (bJ "__length_hint__") >>= _) _ _ _;refine Wb (fJ hT Zkk ?_);simp only[Zh7];refine Wb (gE hT ZmT ?_);exact Wp h
section
variable {fp:List Addr}{n:Nat}{St:Nat->aC->Prop}
theorem ZgX(W:WalksS prog w A.in1 I fp wr G n P St)(hT:∀i s,St i s->s.TypeIs (.ref I) "list_reverseiterator")(S:Addr)(res:ae)(c₀:Nat)(hst:St 0 s)(hSf:S∉fp)(hI:I∈fp)(hS:s.heap.get? S=some {cls:=.type "list",data:=.seq #[] c₀})(hR:∀s' acc' c',Moved (S::wr) G s s'->s'.heap.get? S=some {cls:=.type "list",dict:=none,data:=.seq acc' c',slots:= #[]}->nW P acc' n->R (.ok (.ret res)) s')(hn:n<=sizeLine):wpAny (ao prog w) A.in1 (dR (.ref S) (.ref I) res) (λfin s'=>match fin with|.done f=>R (.ok f) s'|.again c'=>c'.quiet=true/\fH (ao prog w) A c' R s') (λe s'=>R (.error e) s') s:=by
 have hSI:S≠I:=λe=>hSf (e▸hI);unfold dR;refine Wb (m8 (hT 0 _ hst) ?_);have h1:jW (.ref S) (.ref I)=false:=by simp[jW,hSI]
 have h2:(bB "list_reverseiterator"==bB "list")=false:=by decide
 have h3:(bB "list_reverseiterator"==bB "tuple")=false:=by decide
 simp only[h1,h2,h3,Bool.or_false,bz,if_false];refine Wb (W.self 0 _ _ _ hst ?_);refine Wb (wpAny_holding ?_);refine Zkl (hT 0 _ hst) ?_;refine Wp ⟨plainId_quiet F.plain_extend_loop _,codeAny_extend_loopS W hn _ hSf _ n 0 _ _ _ rfl (cH _) hst hS (nW.nil P) λs' acc' c' hm hS' hacc=>?_⟩;exact hR s' acc' c' hm hS' hacc
theorem ZdM(W:WalksS prog w A.in1 I fp wr G n P St)(hT:∀i s,St i s->s.TypeIs (.ref I) "list_reverseiterator")(S:Addr)(hst:St 0 s)(hSf:S∉fp)(hI:I∈fp)(hS:s.heap.get? S=some {cls:=.type "list",data:=.seq #[]})(hR:∀s' acc' c',Moved (S::wr) G s s'->s'.heap.get? S=some {cls:=.type "list",dict:=none,data:=.seq acc' c',slots:= #[]}->nW P acc' n->R (.ok (.ret .none)) s')(hn:n<=sizeLine):wpAny (ao prog w) A.in1 (dP.«list.__init__» ⟨[.ref S,.ref I],[]⟩) (λfin s'=>match fin with|.done f=>R (.ok f) s'|.again c'=>c'.quiet=true/\fH (ao prog w) A c' R s') (λe s'=>R (.error e) s') s:=by
 show wpAny _ A.in1 (do let old <-dW (.ref S);j8 (.ref S) (λ_=> #[]);letGo old.toList.reverse;dR (.ref S) (.ref I) .none) _ _ s
 refine Wb ?_;unfold dW;refine Wb (wpAny_seqItems hS rfl (Wp ?_));show wpAny _ A.in1 (updateSeq S (λ_=> #[]) >>= λ_=>letGo (#[]:Array ae).toList.reverse >>= λ_=>dR (.ref S) (.ref I) .none) _ _ s;refine Wb (wpAny_updateSeq hS rfl ?_);have hS₂:=dm (aO (λ_=>(#[]:Array ae))) hS rfl;have oth:∀b o,b≠S->s.heap.get? b=some o->(s.heap.update S (aO (λ_=>(#[]:Array ae)))).get? b=some o:=
  λb o hb e=>(aL _ _ (cu hb)).trans e
 refine Wb (wpAny_letGo ?_);refine ZgX W hT S .none _ (W.frame 0 s _ s.toks hst (aj _) λb hb o e=>oth b o (λh=>hSf (h▸hb)) e) hSf hI hS₂ (λs' acc' c' hm hS' hacc=>?_) hn;exact hR s' acc' c' (Moved.trans W.gtrans ((Moved.refl W.grefl).then_heap (aj _) λb o hb e=>oth b o (λh=>hb (h▸bT)) e) hm) hS' hacc
end
section
variable {St:Nat->aC->Prop}
theorem ZdN(W:WalksS prog w A.in1.in1 I fp wr G n P St)(hT:∀i s,St i s->s.TypeIs (.ref I) "list_reverseiterator")(hst:St 0 s)(hfp:∀b∈fp,b<s.heap.objs.size)(hI:I∈fp)(hQ:∀s' acc' c',Moved (s.heap.objs.size::wr) G {s with heap:=s.heap.push {cls:=.type "list",data:=.seq #[]}} s'->s'.heap.get? s.heap.objs.size=some {cls:=.type "list",dict:=none,data:=.seq acc' c',slots:= #[]}->nW P acc' n->Q (.ref s.heap.objs.size) s')(hn:n<=sizeLine):wpAny (ao prog w) A (call (.type "list") [.ref I]) Q E s:=by
 have hSf:s.heap.objs.size∉fp:=λhm=>b7 _ (hfp _ hm);refine callType_codes (Q₁:=λobj s₁=>obj=.ref s.heap.objs.size/\s₁={s with heap:=s.heap.push {cls:=.type "list",data:=.seq #[]}}) F.called_list (F.typeCall_list_1 _) F.entry_list_init
  (code_list_new _ ⟨rfl,rfl⟩) λobj s₁ h₁=>?_
 obtain⟨rfl,rfl⟩:=h₁;have hS:(s.heap.push {cls:=.type "list",data:=.seq #[]}).get? s.heap.objs.size=some {cls:=.type "list",data:=.seq #[]}:=aG _ rfl;refine⟨⟨_,hS,rfl⟩,F.args_list_init_2 _ _,ZdM W hT _ (W.frame 0 s _ s.toks hst (aj _) λb _ o e=>Hq _ e) hSf hI hS (λs' acc' c' hm hS' hacc=>?_) hn⟩;exact⟨rfl,hQ s' acc' c' hm hS' hacc⟩
end
def tLR(K:Fg)(t:TA):TE:=λσ H Q=>t σ H λvs H1=>∃l xs,vs=[.ref l]/\SqL K H1 l xs/\∀p,H1 p=none->Q (.ref p) (upd H1 p (.lst xs.reverse))
theorem Zh8{its:List ae}(h:nW (λi v=>its.toArray[its.toArray.size-1-i]?=some v) acc its.toArray.size):acc=its.reverse.toArray:=by
 obtain⟨hz,hv⟩:=h;apply Array.ext';apply eO;intro i;rw[mJ];by_cases hi:i<acc.size
 .have e:acc.toList[i]?=some acc[i]:=by rw[bw];exact cO hi
  have:=hv i _ (cO hi)
  rw[e,<-this,fU,ah,lI (by rw[hz,ah]at hi;exact hi)]
 .rw[a8 (by rw[bD];lia),a8 (by rw[hz,ah]at hi;rw[dO];lia)]
theorem Zsn(hc:X.A.handled=none)(hgl:Gl X "list")(hml:X.mg "list"=none)(hg:Gl X "reversed")(hm:X.mg "reversed"=none)(ha:PA X [a] ta)(hs:autoParam (av [a] X.env=(false,eval a X.env)::av [] X.env) Qrf._auto_1)(hpl:autoParam ((cR p3 (av [] X.env)).any (·.1)=false) Qrf._auto_1)(hs1:autoParam (av [.Call (.Name "reversed" p2) [a] [] p3] X.env=(false,eval (.Call (.Name "reversed" p2) [a] [] p3) X.env)::av [] X.env) Qrf._auto_1)(hpl1:autoParam ((cR pos (av [] X.env)).any (·.1)=false) Qrf._auto_1):
  PE X (.Call (.Name "list" p1) [.Call (.Name "reversed" p2) [a] [] p3] [] pos) (tLR X.K ta):=by
 intro pins s σ H Q I h;refine wpAny_Call_Name_kw (Zbw I hgl hml ZcT (b9 ?_ hs1 hpl1) (by decide) (by decide))
 rw[hs1];show wpAny _ _ (spliced ((false,eval (.Call (.Name "reversed" p2) [a] [] p3) X.env)::cR pos (av [] X.env))) _ _ s;refine Calls.spliced_cons ?_;refine wpAny_Call_Name_kw (Zbw I hg hm Zfc (b9 (thn (ha p3 pins s σ H _ I h) λus s1 hz=>?_) hs hpl) (by decide) (by decide))
 obtain⟨vs,H1,I1,r1,q1⟩:=hz;obtain⟨l,xs,rfl,hq,q⟩:=q1;obtain⟨u,rfl,ru⟩:=ZbM r1;cases ru;obtain⟨its,rv,pl,hz⟩:=I1.list hq;have hll:l<s1.heap.objs.size:=by
  obtain⟨o,ho,_⟩:=pl.isList;exact Hz ho
 refine call_reversed_list pl.isList (Calls.spliced_nil ?_);have W:=(PySem.Walks.listRev (prog:=X.prog) (w:=X.w) (A:=X.A.in1.in1) hc s1.heap.objs.size l (aE hll) its.toArray).toS;have hsz:its.toArray.size<=sizeLine:=by rw[ah,<-rv.length];exact hz
 refine ZdN W (λi s x=>x.2.1.typeIs) ⟨cH _,⟨_,aG _ rfl,rfl,?_⟩,?_⟩ ?_ (by simp) (λs' acc c hmv hS hit=>?_) hsz
 .show lO #[.ref l,da ((its.toArray.size:Int)-1)]=_;rw[show(its.toArray.size:Int)-1-((0:Nat):Int)=(its.toArray.size:Int)-1 by lia]
 .exact pl.isList.at λo e=>Hq _ e
 .intro b hb
  have:b=s1.heap.objs.size\/b=l:=by simpa using hb
  have hz2:(s1.heap.push (revObj l ((its.toArray.size:Int)-1))).objs.size=s1.heap.objs.size+1:=by simp[nX.push]
  show b<(s1.heap.push (revObj l ((its.toArray.size:Int)-1))).objs.size;rw[hz2];rcases this with rfl|rfl
  .exact dz _
  .exact fX hll
 .have ea:=Zh8 hit;subst ea;have hz2:(s1.heap.push (revObj l ((its.toArray.size:Int)-1))).objs.size=s1.heap.objs.size+1:=by simp[nX.push]
  have K:∀b u,s1.heap.get? b=some u->s'.heap.get? b=some u:=by
   intro b u hb;have hlt:=Hz hb;refine hmv.heap b u ?_ (Hq _ (Hq _ hb));intro hmem
   have:b=s1.heap.objs.size+1\/b=s1.heap.objs.size:=by
    simp only[ay,bQ,or_false]at hmem;rcases hmem with e|e
    .exact .inl (e.trans hz2)
    .exact .inr e
   rcases this with e|e
   .exact absurd (e▸hlt) (Nat.not_lt.mpr (gj _))
   .exact absurd (e▸hlt) (b7 _)
  have es:s'={s1 with heap:=s'.heap,toks:=s'.toks}:=by
   obtain⟨h1,g1,d1,t1,o1⟩:=s1;obtain⟨h2,g2,d2,t2,o2⟩:=s';have e1:g2=g1:=hmv.gens;have e2:d2=d1:=hmv.drawn;have e3:o2=o1:=hmv.os;subst e1 e2 e3;rfl
  have hS':s'.heap.get? (s1.heap.objs.size+1)=some {cls:=.type "list",dict:=none,data:=.seq its.reverse.toArray c,slots:= #[]}:=by
   rw[<-hz2];exact hS
  show EP X pins σ Q (.ref (s1.heap.push (revObj l ((its.toArray.size:Int)-1))).objs.size) s';rw[hz2,es];refine⟨.ref _,_,I1.laid (t':=s'.toks) (o:=.lst xs.reverse) K (gj _) ?_,rfl,q _ (I1.hok.fresh (gj _))⟩;exact⟨by rw[dO];exact hz,its.reverse,c,rv.reverse,hS'⟩
noncomputable def bLR:W3:=λds M1=>match ds with
 |[.ref n]=>(match M1[n]? with|some (.lst xs)=>.ok (.ref M1.length) (M1++[.lst xs.reverse])|none=>.bad)
 |[.rol xs]=>.ok (.ref M1.length) (M1++[.lst xs.reverse])
 |_=>.bad
theorem Zso(hc:X.A.handled=none)(hml:X.mg "list"=none)(hm:X.mg "reversed"=none)(ha:DA X ξ [a] fs)(hgl:autoParam (Gl X "list") Qrf._auto_1)(hg:autoParam (Gl X "reversed") Qrf._auto_1)(hs:autoParam (av [a] X.env=(false,eval a X.env)::av [] X.env) Qrf._auto_1)(hpl:autoParam ((cR p3 (av [] X.env)).any (·.1)=false) Qrf._auto_1)(hs1:autoParam (av [.Call (.Name "reversed" p2) [a] [] p3] X.env=(false,eval (.Call (.Name "reversed" p2) [a] [] p3) X.env)::av [] X.env) Qrf._auto_1)(hpl1:autoParam ((cR pos (av [] X.env)).any (·.1)=false) Qrf._auto_1):
  DE X ξ (.Call (.Name "list" p1) [.Call (.Name "reversed" p2) [a] [] p3] [] pos) (Zj bLR fs):=by
 obtain⟨ta,pa,qa⟩:=ha;refine⟨_,Zsn hc hgl hml hg hm pa hs hpl hs1 hpl1,λσ ρ H α M Q s hh w=>qa σ ρ H α M _ s hh (OG.seq w λds M1 vs H1 α1 e1 h1 r1 w1=>?_)⟩;cases r1 with
 |nil=>exact w1.elim
 |cons r tz=>
  cases tz with
  |cons _ _=>cases r<;>exact w1.elim
  |nil=>
   cases r with
   |@rol a xs ds hp rp=>
    have w2:OP X.K H1 α1 ξ Q (.ok (.ref M1.length) (M1++[.lst ds.reverse])):=w1;exact⟨a,xs,rfl,hp.sq,λl hl=>w2 _ _ (α1++[l]) (Ext.new hl) (h1.new hl rp.rev) (.ref ⟨h1.last l,Kn.lst ZB⟩)⟩
   |@ref a n hp=>
    cases em:M1[n]? with
    |none=>simp only[bLR,em]at w1;exact w1.elim
    |some so=>
     cases so with
     |lst es=>
      simp only[bLR,em]at w1;obtain⟨xs,g1,g2⟩:=h1.at hp em;exact⟨a,xs,rfl,SqL.of g1,λl hl=>w1 _ _ (α1++[l]) (Ext.new hl) (h1.new hl g2.rev) (.ref ⟨h1.last l,Kn.lst ZB⟩)⟩
   |_=>exact w1.elim
end DL
namespace DL3
open PyProof.Rows L2 DL
open PySem.Sem (wp)
end DL3
namespace DL4
open PyProof.Rows L2 DL
open PySem.Sem (wp)
end DL4
namespace DLy2
open PyProof.Rows L2 DL
open PySem.Sem (wp)
end DLy2
namespace PySem.SeqAt
open PySem.AutoSeq1 (wpAny_loadPart')
open MeetsSeq MeetsSeq2 MeetsSeq3 SeqRoads2
end PySem.SeqAt
namespace DL
open PyProof.Rows L2
open PySem.SeqAt
noncomputable def Zdj:List D->Option (List Int)
 |[]=>some []
 |.int i::r=>match Zdj r with|some is=>some (i::is)|none=>none
 |_::_=>none
theorem Zh9{K:Fg}(h9:Reps K H α vs ds):Zdj ds=some a->vs=a.map V.int:=by
 induction ds generalizing vs a with
 |nil=>intro e;cases h9;cases e;rfl
 |cons d ds ih9=>
  intro e;cases h9 with
  |cons r t=>
   cases r with
   |int i=>
    unfold Zdj at e
    split at e
    .rename_i is e1;cases e;rw[ih9 t e1];rfl
    .cases e
   |_=>cases e
section
variable {H:Hp}{α:List Addr}
theorem Zfd:∀{xs:List V}{us:List ae}{j:Nat}{u:ae},ZS xs us->us[j]?=some u->∃x,xs[j]?=some x/\ZZ x u
 |[],us,j,u,h,e=>by cases h;simp at e
 |x::xs,us,j,u,h,e=>by
  cases h with
  |cons h1 h2=>
   cases j with
   |zero=>simp at e;subst e;exact⟨x,rfl,h1⟩
   |succ j=>simp at e;obtain⟨y,g1,g2⟩:=Zfd h2 e;exact⟨y,by simpa using g1,g2⟩
theorem ZdO{K:Fg}:∀{xs:List V}{ds:List D}{j:Nat}{x:V},Reps K H α xs ds->xs[j]?=some x->∃d,ds[j]?=some d/\Rep K H α x d
 |_,_,j,x,.nil,e=>by simp at e
 |_,_,0,x,.cons r _,e=>by simp at e;subst e;exact⟨_,rfl,r⟩
 |_,_,j+1,x,.cons _ t,e=>by
  obtain⟨d,g1,g2⟩:=ZdO (j:=j) t (by simpa using e)
  exact⟨d,by simpa using g1,g2⟩
end
end DL
namespace PySem
open PySem.Sem (wp)
end PySem
namespace DL
open PyProof.Rows L2
open PySem.SeqAt
end DL
namespace HT
open PyProof.Rows
section
open PySem.SeqAt
open PySem.AutoSeq1 (wpAny_loadPart')
open PySem.MeetsSeq PySem.MeetsSeq2 PySem.MeetsSeq3
end
end HT
namespace DL
open PyProof.Rows L2
theorem ZmU(nd:(d==jh)=false)(gd:s.heap.get? d=some od)(cd:od.cls=.type "dict")(ed:od.data=.dict es ep)(q:Q (.ref s.heap.objs.size) {s with heap:=s.heap.push {cls:=.type "dict_keyiterator",data:=.fields #[.ref d,.int 0 0,.int es.size 0,.int ep 0]}}):wpAny (ao prog w) A (pyIter (.ref d)) Q E s:=by
 have ty:s.TypeIs (.ref d) "dict":=⟨od,gd,cd⟩;have nm:¬(d==jh)=true:=by rw[nd];exact cG
 refine jH ty F.slot_dict_iter (cZ F.slot_dict_iter ty F.entry_dict_iter ?_ (F.args_dict_iter_1 _));unfold dP.«dict.__iter__» dP.Dict.dictSlotNone;refine Wb (Wb (wpAny_notOrdered_dict ty (show wpAny (ao prog w) _ (pure (aU d)) _ _ s from Wp ?_)));show wpAny (ao prog w) _ (lJ d >>= _) _ _ s;unfold lJ;rw[if_neg nm];refine Wb (Wp (Wb (jI gd ed (Wb (lf gd ed (Wb (cD (Wp ⟨_,rfl,"dict_keyiterator",_,⟨_,aG _ rfl,rfl⟩,F.slot_dict_keyiterator_next.lookup,?_⟩))))))))
 simpa [da]using q
theorem Zia:dP.Dict_items.ownsTuple "dict_keyiterator"=false:=by decide
theorem Zpv(hi:s.heap.IsKeyIter it d i es.size ep)(gd:s.heap.get? d=some od)(ed:od.data=.dict es ep)(he:es[i]?=some e)(q:∀h',h'.IsKeyIter it d (i+1) es.size ep->gD it s.heap h'->Q (some e.key) {s with heap:=h'}):wpAny (ao prog w) A (iG (.ref it)) Q E s:=by
 obtain⟨oi,gi,ci,di⟩:=id hi;obtain⟨lt,ee⟩:=dg.mp he;have sl:=F.slot_dict_keyiterator_next;have n1:¬((aU d==bS)=true):=cG;have n2:¬((i:Int)<0):=⋯
 unfold iG;refine Wb (jS (ib (name:=bJ "__next__") hi.typeIs sl (cZ sl hi.typeIs F.entry_dict_keyiterator_next ?_ (F.args_dict_keyiterator_next_1 _))));refine Wb (Wp (Wb (Wb ?_)))
 first|refine Wb (dF hi.typeIs (Wp (Wb (jv gi di ?_))))|refine Wb (fg hi.typeIs (Wp (Wb (jv gi di ?_))))
 simp only[Zia,bz,if_false];show wpAny (ao prog w) _ (if(aU d==bS)=true then _ else _) _ _ s
 rw[if_neg n1];refine Wb (Wp (Wb (jI gd ed ?_)));rw[if_neg (by simp)]
 refine Wb (Wp (Wb (lf gd ed ?_)));rw[if_neg (by simp)]
 refine Wp ?_;simp only[n2,if_false,eN,he];refine Wb ?_;have st:(s.heap.update it (dY (·.setIfInBounds 1 (da ((i:Int)+1))))).IsKeyIter it d (i+1) es.size ep:=⟨_,dm _ gi (eD (d8 di _)),(jE ..).trans ci,by rw[d8 di];simp[da]⟩
 first|refine Wb (dF hi.typeIs (Wp (Wb (iF hi.typeIs ?_))))|refine Wb (fg hi.typeIs (Wp (Wb (iF hi.typeIs ?_))))
 show wpAny (ao prog w) _ (setField (.ref it) 1 (da ((i:Int)+1)) >>= _) _ _ s;refine Wb (d7 gi di (by simp) (Wb (wpAny_holding (Wb (iF (s:={s with heap:=s.heap.update it (dY (·.setIfInBounds 1 (da ((i:Int)+1))))}) st.typeIs ?_)))))
 show wpAny (ao prog w) _ (pure e.key) _ _ _;exact Wp (Wp ⟨_,rfl,Wp (q _ st (fw ..))⟩)
theorem Zpw(qq:DQ.ZaA A s.heap)(hi:s.heap.IsKeyIter it d i es.size ep)(gd:s.heap.get? d=some od)(ed:od.data=.dict es ep)(he:es[i]?=none):wpAny (ao prog w) A.in1 (dP.«dict_keyiterator.__next__» ⟨[.ref it],[]⟩) (λ_ _=>False) (DQ.ZfF it s) s:=by
 obtain⟨oi,gi,ci,di⟩:=id hi;have n1:¬((aU d==bS)=true):=cG;have n2:¬((i:Int)<0):=⋯
 refine Wb (Wp (Wb (Wb ?_)))
 first|refine Wb (dF hi.typeIs (Wp (Wb (jv gi di ?_))))|refine Wb (fg hi.typeIs (Wp (Wb (jv gi di ?_))))
 simp only[Zia,bz,if_false];show wpAny (ao prog w) _ (if(aU d==bS)=true then _ else _) _ _ s
 rw[if_neg n1];refine Wb (Wp (Wb (jI gd ed ?_)));rw[if_neg (by simp)]
 refine Wb (Wp (Wb (lf gd ed ?_)));rw[if_neg (by simp)]
 refine Wp ?_;simp only[n2,if_false,eN,he];refine Wb ?_
 first|refine Wb (dF hi.typeIs (Wp ?_))|refine Wb (fg hi.typeIs (Wp ?_))
 show wpAny (ao prog w) _ (setField (.ref it) 0 .none >>= _) _ _ s;refine Wb (d7 gi di (by simp) ?_)
 have q2:DQ.ZaA A.in1 (s.heap.update it (dY (·.setIfInBounds 0 bS))):=by
  rcases qq with qq|⟨ea,oe,vs,e1,e2,e3,e4⟩
  .exact .inl qq
  .refine .inr ⟨ea,oe,vs,e1,?_,e3,e4⟩;rw[aL _ _ (λz=>?_)]
   .exact e2
   .rw[<-z,gi]at e2;cases e2;rw[di]at e3;cases e3;simp at e4
 refine DQ.Zbm q2 λh' e k ho=>⟨e,rfl,ho,h',λb o hb z=>k b o ?_,rfl⟩;rw[aL _ _ (cu hb)];exact z
theorem ZgY(qq:DQ.ZaA A s.heap)(hi:s.heap.IsKeyIter it d i es.size ep)(gd:s.heap.get? d=some od)(ed:od.data=.dict es ep)(he:es[i]?=none)(q:∀h',ia it s.heap h'->Q none {s with heap:=h'}):wpAny (ao prog w) A (iG (.ref it)) Q E s:=
 DQ.Zeb hi.typeIs F.slot_dict_keyiterator_next F.entry_dict_keyiterator_next (F.args_dict_keyiterator_next_1 _) (Zpw qq hi gd ed he) q
end DL
namespace DL
open PyProof.Rows L2 PySem.W
theorem Zkm(lo:(d==jh)=false):KdlSrc prog w "dict" d d es.size (λi v=>∃e:mA,es[i]?=some e/\v=e.key) (λh=>∃o,h.get? d=some o/\o.cls=.type "dict"/\o.data=.dict es ep) where
 type:=λ_ ⟨o,e,c,_⟩=>⟨o,e,c⟩
 there:=λ_ ⟨o,e,_⟩=>⟨Hz e,Hz e⟩
 keep:=λ_ _ ⟨o,e,r⟩ hk=>⟨o,hk d (.inl rfl) o e,r⟩
 notList:=by decide
 notTuple:=by decide
 hint:=λ_ _ _ _ ⟨o,e,c,_⟩ hq=>kdl_hint_dict ⟨o,e,c⟩ hq
 iter:=λA s hh ⟨o,e,c,dd⟩=>⟨_,λi h=>h.IsKeyIter s.heap.objs.size d i es.size ep/\∃o,h.get? d=some o/\o.cls=.type "dict"/\o.data=.dict es ep,λ_ _ hq=>ZmU lo e c dd hq,{
  sub:=λb hb=>by simp at hb;simp[hb]
  frame:=λ_ _ _ st hk=>⟨st.1.at λo e=>hk _ (by simp) o e,let ⟨o,e,r⟩:=st.2;⟨o,hk d (by simp) o e,r⟩⟩
  item:=λi s' Q E hi st hQ=>by
   obtain⟨o',e',c',d'⟩:=st.2;have ne:d≠s.heap.objs.size:=aE (Hz e);refine Zpv st.1 e' d' (cO hi) λh' it' sb=>hQ _ h' s'.toks ⟨_,cO hi,rfl⟩ ⟨it',o',by rw[sb.2 d ne];exact e',c',d'⟩ λb ob hb eb=>?_
   rw[sb.2 b (λz=>hb (by simp[z]))]
   exact eb
  done:=λs' Q E st hQ=>by
   obtain⟨o',e',c',d'⟩:=st.2;exact ZgY (.inl hh) st.1 e' d' (by simp) λh' he'=>hQ h' s'.toks λb ob hb eb=>he' b ob (λz=>hb (by simp[z])) eb
  self:=λ_ _ _ _ st hQ=>wpAny_pyIter_keyiter st.1 hQ},⟨_,aG _ rfl,rfl,rfl⟩,o,Hq _ e,c,dd⟩
def ZjC:List D->Option (List (List Key))
 |[]=>some []
 |d::r=>match kT d,ZjC r with|some k,some ks=>some (k::ks)|_,_=>none
def kyU:D->Option (List (List Key))
 |.tup ds=>ZjC ds
 |_=>none
theorem ZcE:∀{ds:List D}{ks:List (List Key)},ZjC ds=some ks->ds=ks.map Ze7
 |[],ks,h=>by cases h;rfl
 |d::r,ks,h=>by
  unfold ZjC at h
  split at h
  .rename_i k ks' e1 e2;cases h;rw[aK,<-Zpu e1,<-ZcE e2]
  .cases h
theorem ZeC:∀(ks:List (List Key)),ZjC (ks.map Ze7)=some ks
 |[]=>rfl
 |k::ks=>by rw[aK,ZjC,Zkh,ZeC ks]
theorem ZmV(h:kyU d=some ks):d=Zmx ks:=by
 cases d with
 |tup ds=>rw[Zmx,<-ZcE h]
 |_=>cases h
theorem Zkn(ks:List (List Key)):kyU (Zmx ks)=some ks:=ZeC ks
section
variable {K:Fg}{H:Hp}{α:List Addr}
theorem Zib(h9:Reps K H α vs ds):kKs ds=some ks->vs=ks.map kV:=by
 induction ds generalizing vs ks with
 |nil=>intro e;cases h9;cases e;rfl
 |cons d ds ih9=>
  intro e;cases h9 with
  |cons r t=>
   unfold kKs at e
   split at e
   .rename_i k ks' e1 e2;cases e;rw[aK,ih9 t e2];congr 1;cases r with
    |int i=>cases e1;rfl
    |str x=>cases e1;rfl
    |_=>cases e1
   .cases e
theorem Zdx:∀{xs:List V}{ds:List D}{ks:List (List Key)},Reps K H α xs ds->ZjC ds=some ks->∃cs:List Addr,xs=cs.map V.ref/\Paired (λ(k:List Key) (c:Addr)=>H c=some (.tup (k.map kV))) ks cs
 |_,_,ks,.nil,h=>by cases h;exact⟨[],rfl,.nil⟩
 |_,_,ks,.cons (v:=v) (d:=d) (ds:=ds) r t,h=>by
  unfold ZjC at h
  split at h
  .rename_i k ks' e1 e2;cases h;obtain⟨cs,h1,h2⟩:=Zdx t e2;cases r with
   |@tup p xs ds' hb rb=>exact⟨p::cs,by rw[h1];rfl,.cons (by rw[hb,Zib rb e1]) h2⟩
   |_=>cases e1
  .cases h
theorem ZmW(r:Rep K H α (.ref b) d)(e:kyU d=some ks):Zar H ks b:=by
 cases r with
 |@tup p xs ds hb rb=>
  obtain⟨cs,h1,h2⟩:=Zdx rb e;exact⟨cs,by rw[hb,h1],h2⟩
 |_=>cases e
theorem Zfe:∀(ks:List Key),Reps K H α (ks.map kV) (ks.map Zn8)
 |[]=>.nil
 |.inl i::ks=>.cons (.int i) (Zfe ks)
 |.inr x::ks=>.cons (.str x) (Zfe ks)
theorem ZeD:∀{ks:List (List Key)} {cs:List Addr},Paired (λ(k:List Key) (c:Addr)=>H c=some (.tup (k.map kV))) ks cs->Reps K H α (cs.map V.ref) (ks.map Ze7)
 |_,_,.nil=>.nil
 |_,_,.cons h t=>.cons (.tup h (Zfe _)) (ZeD t)
theorem Zko(h:Zar H ks b):Rep K H α (.ref b) (Zmx ks):=by
 obtain⟨cs,h1,h2⟩:=h;exact .tup h1 (ZeD h2)
theorem Zar.up(h:Zar H ks b)(ht:∀b ys,H b=some (.tup ys)->H' b=some (.tup ys)):Zar H' ks b:=by
 obtain⟨cs,h1,h2⟩:=h;exact⟨cs,ht _ _ h1,Paired.mapP h2 λ_ _ z=>ht _ _ z⟩
end
abbrev KU(H:Hp):List (List (List Key)×V)->List (List (List Key)×Addr×ae)->Prop:=Paired λp q=>p.1=q.1/\Zar H p.1 q.2.1/\ZZ p.2 q.2.2
theorem KU.any(r:KU H kvs xs)(k:List (List Key)):(kvs.any λkv=>decide (kv.1=k))=(atKey xs k).isSome:=by
 induction r with
 |nil=>rfl
 |@cons p q ps qs h t ih=>
  unfold atKey at ih ⊢;rw[List.any_cons,ih,kZ,<-h.1];by_cases e:p.1=k
  .simp[e]
  .simp[e]
theorem KU.put(r:KU H kvs xs)(k:List (List Key))(hb:Zar H k b)(ry:ZZ y u):KU H (ZjB kvs k y) (storedH xs k b u):=by
 have e:=r.any k;unfold ZjB storedH;rw[e];by_cases q:(atKey xs k).isSome=true
 .rw[if_pos q,if_pos q];clear e q
  induction r with
  |nil=>exact .nil
  |@cons p q ps qs h t ih=>
   rw[aK,aK];refine .cons ?_ ih;unfold putAt;by_cases c:p.1=k
   .rw[if_pos c,if_pos (h.1.symm.trans c)];exact⟨h.1,h.2.1,ry⟩
   .rw[if_neg c,if_neg (λz=>c (h.1.trans z))];exact h
 .rw[if_neg q,if_neg q];exact Paired.snoc r ⟨rfl,hb,ry⟩
theorem Zic(ok:HOk P w H h)(e:Zar H ks a):(Zcy (ZaH P w)).is h ks a:=by
 obtain⟨cs,h1,h2⟩:=e;obtain⟨_,its,r,o,g1,g2,n,g3⟩:=(show ZaN P w H h a (.tup (cs.map V.ref))from ok a _ h1);refine⟨o,its.toArray,n,g1,g2,g3,?_⟩
 have:∀{ks:List (List Key)} {cs:List Addr} {vs:List ae},Paired (λ(k:List Key) (c:Addr)=>H c=some (.tup (k.map kV))) ks cs->ZS (cs.map V.ref) vs->NK.ItemsT (ZaH P w) h ks vs:=by
  intro ks cs vs q
  induction q generalizing vs with
  |nil=>intro z;cases z;exact .nil
  |cons hk _ ih=>
   intro z;cases z with
   |cons z1 z2=>
    cases z1;exact .cons (ZoW ok hk) (ih z2)
 simpa using this h2 r
theorem Zsp(ok:HOk P w H h)(e:H a=some (.dU kvs)):kvs.length<=sizeLine/\(a==jh)=false/\∃xs,KU H kvs xs/\h.DictOfH (Zcy (ZaH P w)) a xs:=by
 obtain⟨z,y,xs,r,o,es,ep,h1,h2,h3,h4,h5⟩:=(show ZaN P w H h a (.dU kvs)from ok a _ e);refine⟨z,y,xs,r,o,es,ep,h1,h2,h3,h4,λx hx=>?_,h5⟩;clear h4 h5 z e
 induction r with
 |nil=>cases hx
 |@cons p q ps qs hq t ih=>
  rcases ay.mp hx with z|hx
  .subst z
   have:=Zic ok hq.2.1
   rw[hq.1]at this;exact this
  .exact ih hx
section
variable {e:Expr}{tv:TE}
def tDNewU:TE:=λ_ H Q=>∀p,H p=none->Q (.ref p) (upd H p (.dU []))
theorem Zkp:PE X (.Dict [] [] pos) tDNewU:=λpins s σ H Q I h=>
 wpAny_Dict_empty ⟨.ref s.heap.objs.size,_,I.laid (a:=s.heap.objs.size) (o:=.dU []) (t':=s.toks) (λ_ _ q=>Hq _ q) (aj _) ⟨cH _,beq_eq_false_iff_ne.mpr (cu (aE I.big)),[],.nil,_,#[],0,aG _ rfl,⟨rfl,rfl,rfl⟩,rfl,rfl,List.nodup_nil⟩,rfl,h _ (I.hok.fresh (aj _))⟩
noncomputable def eDnU:Ev:=λ_ M=>.ok (.du M.length) (M++[.lst []])
theorem Zpx:DE X ξ (.Dict [] [] pos) eDnU:=by
 refine⟨_,Zkp,λσ ρ H α M Q s h q p hp=>?_⟩;have kn:Kn (upd H p (.dU [])) p=some 3:=Zk5;exact q (.ref p) _ (α++[p]) (Ext.new hp) (h.newO hp ⟨_,ZB,.dU Zh3⟩) (.du ⟨h.last p,kn⟩)
def Zsq(td ty tv:TE):TS:=λD σ H=>tv σ H λv H1=>td σ H1 λx H2=>ty σ H2 λy H3=>∃a kvs k b,x=.ref a/\H3 a=some (.dU kvs)/\y=.ref b/\Zar H3 k b/\kvs.length<sizeLine/\D.nx σ (upd H3 a (.dU (ZjB kvs k v)))
theorem ZmX(hu:X.A.units+2<jd)(ho:PE X o td)(hi:PE X i ty)(hv:PE X e tv)(hs:ja e (some (.Subscript o i pos')) pos.line X.env=pure false):PS X (.Assign [.Subscript o i pos'] e pos) (Zsq td ty tv):=by
 intro pins s σ H D I h;refine wpAny_Assign_Subscript (thn (hv pins s σ H _ I h) λr s1 ⟨v,H1,I1,rv,q1⟩=>thn (ho pins s1 σ H1 _ I1 q1) λu s2 ⟨x,H2,I2,rx,q2⟩=>thn (hi pins s2 σ H2 _ I2 q2) λiv s3 hz=>?_) hs;obtain⟨y,H3,I3,ry,a,kvs,k,b,ex,g1,ey,g2,l,q3⟩:=hz;subst ex ey;obtain rfl:u=aU a:=rx;obtain rfl:iv=aU b:=ry;obtain⟨z,hd,xs,rel,dd⟩:=Zsp I3.hok g1;have hz:xs.length<=sizeLine:=by rw[<-Paired.length rel];exact z
 have hl:(ZjB kvs k v).length<=sizeLine:=by have:=Ze6 kvs k v;lia
 refine wpAny_setItem_heap (hsz:=hz) (knd:=Zcy (ZaH X.prog X.w)) (by first|(show X.A.units+1+1<jd;lia)|(show X.A.units+1<jd;lia)) (Zic I3.hok g2) dd λh' dd' hs=>⟨σ,_,?_,q3⟩
 obtain⟨q,es,ep,hq,h2,h3,h4,_,h5⟩:=dd';refine Zmw I3 (by rw[g1];exact eZ) hs ⟨q,hq⟩ ⟨hl,hd,_,Paired.mapP (rel.put k g2 rv) λp c t=>⟨t.1,Zar.up t.2.1 (λc ys ec=>?_),t.2.2⟩,q,es,ep,hq,h2,h3,h4,h5⟩
 rw[ZJ (ZrW ec g1 (λz=>nomatch z))];exact ec
def Zkq(fo fi f:Ev):Sv:=λρ M=>Zas (f ρ M) λd M1=>Zas (fo ρ M1) λx M2=>Zas (fi ρ M2) λk M3=>match x with
 |.du n=>(match kyU k,M3[n]? with|some kk,some (.lst ds)=>if ds.length<10000000 then .nx ρ (M3.set n (.lst (Zoa kyU kk k d ds)))else .bad|_,_=>.bad)
 |_=>.bad
theorem ZmY(hu:X.A.units+64<jd)(ho:DE X ξ o fo)(hi:DE X ξ i fi)(he:DE X ξ e f)(hs:autoParam (ja e (some (.Subscript o i pos')) pos.line X.env=pure false) Qrf._auto_1):DS X ξ (.Assign [.Subscript o i pos'] e pos) (Zkq fo fi f):=by
 obtain⟨t,p,q⟩:=he;obtain⟨to,po,qo⟩:=ho;obtain⟨ti,pi,qi⟩:=hi;refine⟨_,ZmX ⋯ po pi p hs,λσ ρ H α M Dn s hh w=>q σ ρ H α M _ s hh (FP.seq w λd M1 v H1 α1 e1 h1 r1 w1=>?_)⟩
 refine qo σ ρ H1 α1 M1 _ (s.mono e1) h1 (FP.seq w1 λod M2 ov H2 α2 e2 h2 r2 w2=>?_);refine qi σ ρ H2 α2 M2 _ ((s.mono e1).mono e2) h2 (FP.seq w2 λkd M3 kv H3 α3 e3 h3 r3 w3=>?_);have sr:=((s.mono e1).mono e2).mono e3;have rv:=Rep.mono e3 (Rep.mono e2 r1);cases Rep.mono e3 r2 with
 |@du a n hp=>
  cases e5:kyU kd with
  |none=>simp only[e5]at w3;exact w3.elim
  |some kk=>
   cases em:M3[n]? with
   |none=>simp only[e5,em]at w3;exact w3.elim
   |some so=>
    cases so with
    |lst ds=>
     simp only[e5,em]at w3;by_cases hl:ds.length<10000000
     .simp only[if_pos hl]at w3;obtain⟨kvs,g1,g2⟩:=h3.atU hp em;have kn:Kn (upd H3 a (.dU (ZjB kvs kk v))) a=some 3:=Zk5;have ex:Ext X.K H3 (upd H3 a (.dU (ZjB kvs kk v))) α3 α3:=Ext.wrK hp.kn (λ_ _ z=>by rw[g1]at z;cases z) kn
      have eg:=Zh4 Zkn kk g2 rv;rw[<-ZmV e5]at eg;obtain⟨b,rfl⟩:∃b,kv=.ref b:=by
       cases r3 with
       |@tup b xs ds' hb rb=>exact⟨b,rfl⟩
       |_=>cases e5
      refine⟨a,kvs,kk,b,rfl,g1,rfl,ZmW r3 e5,by rw[Zh5 g2];exact am hl (by decide),?_⟩
      exact w3 σ _ α3 ex (h3.wrO hp.at' ex ⟨_,ZB,.dU (Zdn eg ex)⟩) (sr.mono ex)
     .simp only[if_neg hl]at w3;exact w3.elim
 |_=>exact w3.elim
theorem ZgZ(hc:X.A.handled=none):Zbt X (.type "list") (λxs H Q=>∃d kvs,xs=[.ref d]/\H d=some (.dU kvs)/\∀l (bs:List Addr),H l=none->Paired (λ(p:List (List Key)×V) (b:Addr)=>Zar H p.1 b) kvs bs->Q (.ref l) (upd H l (.lst (bs.map V.ref)))):=by
 intro pins s σ H xs us Q I r h;obtain⟨d,kvs,rfl,g,q⟩:=h;obtain⟨u,rfl,ru⟩:=ZbM r;cases ru;obtain⟨z,y,ys,rel,o,es,ep,h1,h2,h3,h4,h5⟩:=(show ZaN X.prog X.w H s.heap d (.dU kvs)from I.hok d _ g);have hl:es.size=kvs.length:=by rw[<-bD,h4,af,Paired.length rel]
 refine kdl_call (Zkm (es:=es) (ep:=ep) y) hc ⟨o,h1,h2.1,h3⟩ (by rw[hl];exact z) λh' tk acc c keep hS hacc=>?_
 have ea:acc=((ys.map λx=>aU x.2.1):List ae).toArray:=by
  obtain⟨a1,a2⟩:=hacc;apply Array.ext';apply eO;intro j;rw[bw,bn];by_cases hj:j<acc.size
  .obtain⟨en,e1,e2⟩:=a2 j _ (cO hj);rw[cO hj,e2];rw[<-bw,h4,bn]at e1;cases ey:ys[j]? with
   |none=>rw[ey]at e1;cases e1
   |some x=>rw[ey]at e1;cases e1;rfl
  .rw[Array.getElem?_eq_none ⋯,a8 (by rw[<-Paired.length rel,<-hl,<-a1];lia)]
   rfl
 refine⟨.ref s.heap.objs.size,_,I.laid (t':=tk) (o:=.lst ((ys.map (·.2.1)).map V.ref)) keep (aj _) ⟨?_,ys.map λx=>aU x.2.1,c,?_,by rw[ea]at hS;exact hS⟩,rfl,q _ (ys.map (·.2.1)) (I.hok.fresh (aj _)) ?_⟩
 .rw[af,af,<-Paired.length rel];exact z
 .have:∀l:List (List (List Key)×Addr×ae),ZS ((l.map (·.2.1)).map V.ref) (l.map λx=>aU x.2.1):=by
   intro l
   induction l with
   |nil=>exact .nil
   |cons a l ih=>exact .cons rfl ih
  exact this ys
 .have:∀{a:List (List (List Key)×V)} {b:List (List (List Key)×Addr×ae)},KU H a b->Paired (λ(p:List (List Key)×V) (c:Addr)=>Zar H p.1 c) a (b.map (·.2.1)):=by
   intro a b q
   induction q with
   |nil=>exact .nil
   |cons h _ ih=>exact .cons h.2.1 ih
  exact this rel
noncomputable def Zid:D->D|.tup [k,_]=>k|e=>e
def bLisU:W3:=λds M=>match ds with
 |[.du n]=>(match M[n]? with|some (.lst es)=>.ok (.ref M.length) (M++[.lst (es.map Zid)])|none=>.bad)
 |_=>.bad
theorem ZmZ:CO X ξ (λxs H Q=>∃d kvs,xs=[.ref d]/\H d=some (.dU kvs)/\∀l (bs:List Addr),H l=none->Paired (λ(p:List (List Key)×V) (b:Addr)=>Zar H p.1 b) kvs bs->Q (.ref l) (upd H l (.lst (bs.map V.ref)))) bLisU:=by
 intro H α M vs ds Q h rs q;unfold bLisU at q
 split at q
 .rename_i n;cases rs with
  |cons r t=>
   cases t;cases r with
   |@du p _ hp=>
    cases em:M[n]? with
    |none=>rw[em]at q;exact q.elim
    |some so=>
     cases so with
     |lst es=>
      rw[em]at q;obtain⟨kvs,g1,es',rfl,g2⟩:=h.atU hp em;refine⟨p,kvs,rfl,g1,λl bs hl pr=>?_⟩;refine q _ _ (α++[l]) (Ext.new hl) (h.new hl ?_) (.ref ⟨h.last l,Kn.lst ZB⟩)
      have:∀{kvs:List (List (List Key)×V)} {bs:List Addr} {es':List D},kvs.length=es'.length->Paired (λ(p:List (List Key)×V) (b:Addr)=>Zar H p.1 b) kvs bs->Reps X.K H α (bs.map V.ref) ((cf (λkv e=>D.tup [Zmx kv.1,e]) kvs es').map Zid):=by
       intro kvs bs es' hz q
       induction q generalizing es' with
       |nil=>exact .nil
       |cons hq _ ih=>
        cases es' with
        |nil=>cases hz
        |cons e es'=>exact .cons (Zko hq) (ih (by simpa using hz))
      exact this (by have:=g2.length;rw[af]at this;exact this) pr
 .exact q.elim
end
abbrev IsZ(h:Heap)(z TI TO:Addr)(f0:ae)(f1:Bool):Prop:=
 h.get? z=some {cls:=.type "zip",dict:=none,data:=.fields #[f0,.bool f1,.bool false,.ref TI,.ref TO],slots:= #[]}
section
variable {s:aC}
def ZSt(z TI TO i1 i2 l1 l2:Addr)(xs ys:Array ae)(i:Nat)(h:Heap):Prop:=
 ((IsZip h z TI TO .none/\∃a b,IsPair h TO a b)\/∃(T:Addr) (f1:Bool) (oT:Obj),IsZ h z TI TO (da T) f1/\h.get? T=some oT/\T≠z/\T≠i1/\T≠i2/\oT.cls=.type "tuple")/\IsPair h TI (.ref i1) (.ref i2)/\h.IsListIter i1 l1 i/\h.IsListIter i2 l2 i/\h.IsList l1 xs/\h.IsList l2 ys
theorem ZSt.type{TI TO:Addr}(st:ZSt z TI TO i1 i2 l1 l2 xs ys i s.heap):s.TypeIs (.ref z) "zip":=by
 rcases st.1 with⟨hz,_⟩|⟨T,f1,oT,hz,_⟩
 .exact⟨_,hz,rfl⟩
 .exact⟨_,hz,rfl⟩
theorem ZSt.iter{TI TO:Addr}(st:ZSt z TI TO i1 i2 l1 l2 xs ys i s.heap)(h:Q (.ref z) s):wpAny (ao prog w) A (pyIter (.ref z)) Q E s:=by
 have hT:=st.type;refine jH hT F.slot_zip_iter (cZ F.slot_zip_iter hT F.entry_zip_iter ?_ (F.args_zip_iter_1 _));show wpAny _ _ (ret (.ref z)) _ _ s;exact Wp ⟨_,rfl,"zip",_,hT,F.slot_zip_next.lookup,h⟩
end
noncomputable def Zsr(te:TE)(g1 g2:TG):TS:=λD σ H=>te σ H λx H1=>g1 x σ H1 λσ' H2=>g2 x σ' H2 D.nx
theorem Zm0(he:PE X e te)(h1:PG X t1 g1)(h2:PG X t2 g2)(hw:autoParam (fP [t1,t2] e X.env=pure none) Qrf._auto_1)(ha:autoParam ((dq [t1,t2] X.env).map (·.2)=[assign t1 X.env,assign t2 X.env]) Qrf._auto_1):PS X (.Assign [t1,t2] e pos) (Zsr te g1 g2):=by
 intro pins s σ H D I h;refine wpAny_Assign_two (thn (he pins s σ H _ I h) λv s1 hz=>?_) ha hw;obtain⟨x,H1,I1,r1,q1⟩:=hz;exact thn (h1 pins s1 σ H1 x v _ I1 r1 q1) λ_ s2 ⟨σ2,H2,I2,q2⟩=>thn (h2 pins s2 σ2 H2 x v _ I2 r1 q2) λ_ s3 q=>q
noncomputable def Zob(g1 g2:Tg):Tg:=λd ρ=>match g1 d ρ with|some ρ1=>g2 d ρ1|none=>none
theorem Zie(he:DE X ξ e f)(h1:DG X t1 g1)(h2:DG X t2 g2)(hw:autoParam (fP [t1,t2] e X.env=pure none) Qrf._auto_1)(ha:autoParam ((dq [t1,t2] X.env).map (·.2)=[assign t1 X.env,assign t2 X.env]) Qrf._auto_1):DS X ξ (.Assign [t1,t2] e pos) (ZK (Zob g1 g2) f):=by
 obtain⟨t,p,q⟩:=he;obtain⟨tt1,pt1,qt1⟩:=h1;obtain⟨tt2,pt2,qt2⟩:=h2;refine⟨_,Zm0 p pt1 pt2 hw ha,λσ ρ H α M Dn s hh w=>q σ ρ H α M _ s hh (FP.seq w λd M1 v H1 α1 e1 h1 r1 w1=>?_)⟩;unfold Zob at w1;cases eg:g1 d ρ with
 |none=>simp only[eg]at w1;exact w1.elim
 |some ρ1=>
  simp only[eg]at w1;cases eh:g2 d ρ1 with
  |none=>simp only[eh]at w1;exact w1.elim
  |some ρ2=>
   simp only[eh]at w1;exact qt1 v d σ ρ H1 α1 ρ1 _ (s.mono e1) r1 eg λσ' s'=>qt2 v d σ' ρ1 H1 α1 ρ2 _ s' r1 eh λσ2 s2=>w1 σ2 H1 α1 Ext.refl h1 s2
end DL
namespace DL
open PyProof.Rows L2
end DL
namespace DL
open PyProof.Rows L2 PySem.W
noncomputable def Zss(e iter':Expr)(d:Nat)(it acc:ae)(env:Env):Sem Fin:=do
 let x <-eval iter' env
 standAt iter'.pos
 let x <-foldedSetIterable iter' env x
 let _ <-runOwn (.compStart e (d+1) (<-holding [x] (pyIter x)) acc env) env
 again (.compLoop e d it acc env)
theorem Zif(elt t0 i0 t1 i1:Expr)(f0 f1:List Expr)(sc:ji)(pos:Pos)(it acc:ae)(env:Env):iU (.ListComp elt [⟨t0,i0,f0,0⟩,⟨t1,i1,f1,0⟩] sc pos) 0 it acc env=ZdK t0 i0 f0 it env (Zss (.ListComp elt [⟨t0,i0,f0,0⟩,⟨t1,i1,f1,0⟩] sc pos) i1 0 it acc env) (again (.compLoop (.ListComp elt [⟨t0,i0,f0,0⟩,⟨t1,i1,f1,0⟩] sc pos) 0 it acc env)):=by rfl
theorem Zig(elt t0 i0 t1 i1:Expr)(f0 f1:List Expr)(sc:ji)(pos:Pos)(it acc:ae)(env:Env):iU (.ListComp elt [⟨t0,i0,f0,0⟩,⟨t1,i1,f1,0⟩] sc pos) 1 it acc env=ZdK t1 i1 f1 it env (ZhQ (.ListComp elt [⟨t0,i0,f0,0⟩,⟨t1,i1,f1,0⟩] sc pos) elt 1 it acc env) (again (.compLoop (.ListComp elt [⟨t0,i0,f0,0⟩,⟨t1,i1,f1,0⟩] sc pos) 1 it acc env)):=by rfl
theorem Zff(hd:gens[d]?=some ⟨target,iter,ifs,0⟩)(h0:fH (ao prog w) A (.compLoop (.ListComp elt gens scope pos) d it acc env) R s)(h:wpAny (ao prog w) A (pyIter it) (λit' s'=>fH (ao prog w) A (.compLoop (.ListComp elt gens scope pos) d it' acc env) R s') (notedBy (ao prog w) A env λx s'=>R (.error x) s') s):fH (ao prog w) A (.compStart (.ListComp elt gens scope pos) d it acc env) R s:=by
 have hc:(clausesOf (.ListComp elt gens scope pos))[d]?=some ⟨target,iter,ifs,0⟩:=hd;refine codeAny_of_tree ?_;show wpAny _ _ ((compStart (.ListComp elt gens scope pos) d it acc env).onRaise (λx=>do mD x env;standAt theWindowsPlace)) _ _ s
 refine wpAny_notedAt ?_;unfold compStart;rw[hc];show wpAny _ _ (ask >>= _) _ _ s;refine Wb (wpAny_askSetting (wpAny_ite ?_));split
 .first
   |exact Wb (Wp (Wp (mG rfl h0)))
   |exact Wp (mG rfl h0)
 .first
   |exact Wb (wpAny_rule (Wb (wpAny_standAt (Wb (wpAny_mono h (λit' s' h'=>Wp (mG rfl h')) λ_ _ x=>x)))))
   | (refine Wb (wpAny_rule ?_);show wpAny _ _ (standAt iter.pos >>= _) _ _ s;exact Wb (wpAny_standAt (Wb (wpAny_mono h (λit' s' h'=>Wp (mG rfl h')) λ_ _ x=>x))))
def gIn(fi:Ro->Sto->Out Src)(tg:Tg)(c:Tv)(g:Ro->Sto->Out Ro):Ro->Sto->Out Ro:=λρ M=>match fi ρ M with
 |.ok src M1=>ZcD src tg c g (cnt src M1) 0 ρ M1
 |_=>.bad
theorem Zkr{D:Addr}{bd:ae->Sem Fin}(hd:gens[d0+1]?=some ⟨tg,iter,ifs,0⟩)(hct:∀it',iU (.ListComp elt gens scope pos) (d0+1) it' (.ref D) Y.env=ZdK tg iter ifs it' Y.env (bd it') (again (.compLoop (.ListComp elt gens scope pos) (d0+1) it' (.ref D) Y.env)))(hxe:∀x y,Y.xe x y->False)(hi:DI Y E0 tg iter fi)(hg:DG Y tg gt)(tst:DC Y ifs c)(hb:∀it':Addr,Zdt Y D n0 (.compLoop (.ListComp elt gens scope pos) (d0+1) (.ref it') (.ref D) Y.env) (bd (.ref it')) g)(hs:autoParam (∀x,foldedSetIterable iter Y.env x=pure x) Qin._auto_1) :
  Zdt Y D n0 (.compLoop (.ListComp elt gens scope pos) d0 (.ref it) (.ref D) Y.env) (Zss (.ListComp elt gens scope pos) iter d0 (.ref it) (.ref D) Y.env) (gIn fi gt c g):=by
 obtain⟨wi,pi,qi⟩:=hi;intro pins s σ ρ H α M ρ' M' I sr hr aD en;unfold gIn at en;cases ef:fi ρ M with
 |exc x9 M10=>rw[ef]at en;cases en
 |bad=>rw[ef]at en;cases en
 |ok src M1=>
  rw[ef]at en;simp only at en;have pv:=pi pins s σ H (λJ H2=>∃α2,Ext Y.K H H2 α α2/\HR Y.K H2 α2 M1/\Zpg Y.K H2 α2 J src) I (qi σ ρ H α M _ sr hr (by
   rw[ef];exact λJ H2 α2 e h r=>⟨α2,e,h,r⟩))
  unfold Zss;refine Wb (wpAny_mono pv (λx s1 w1=>?_) (λx y z=>hxe x y z));refine Wb (wpAny_standAt (Wb (wpAny_of_eq (hs x) ?_)));refine Wb (wpAny_holding (wpAny_mono w1 (λitv s2 w2=>?_) (λx y z=>hxe x y z)));obtain⟨it',fp,tn,J,H2,rfl,I2,T,st2,f2,α2,e2,h2,sc⟩:=w2;have loop:fH (ao Y.prog Y.w) Y.A (.compLoop (.ListComp elt gens scope pos) (d0+1) (.ref it') (.ref D) Y.env) (λr s'=>match r with|.ok f=>wpAny (ao Y.prog Y.w) Y.A (again (.compLoop (.ListComp elt gens scope pos) d0 (.ref it) (.ref D) Y.env)) (λfin s'=>fin=.again (.compLoop (.ListComp elt gens scope pos) d0 (.ref it) (.ref D) Y.env)/\∃σ' H' α',Inv Y pins σ' H' s'/\Ext Y.K H H' α α'/\SR Y.K H' α' σ' ρ'/\HR Y.K H' α' M') (λ_ _=>False) s'|.error e=>cameBackBy (ao Y.prog Y.w) Y.A Y.env (λ_ _=>False) e s') s2:=by
   refine Zev (hct (.ref it')) T hxe (λ{H'} hn b hb'=>⟨hn b hb',(f2 b hb').2⟩) hg tst (hb it') sc (e2.get aD) I2 st2 (λb hb'=>(f2 b hb').1) (sr.mono e2) h2 en ?_;intro σ5 H5 α5 s6 I6 ex5 sr5 hr5;exact Wp ⟨rfl,σ5,H5,α5,I6,e2.trans ex5,sr5,hr5⟩
  refine Wb (wpAny_runOwn (h:=none) ?_);exact Zff hd loop (T.self Y.A 0 _ _ _ st2 loop)
theorem Zf9(B:Blk X scope cl N k fr)(hi:DI X ξ tg iter fi)(h:Blk X scope cl N k fr->∀C fp s H,DG (blk X scope cl N C fp s H) tg gt/\DC (blk X scope cl N C fp s H) ifs c/\DI (blk X scope cl N C fp s H) E0 tg1 iter1 fi1/\DG (blk X scope cl N C fp s H) tg1 gt1/\DC (blk X scope cl N C fp s H) ifs1 c1/\DE (blk X scope cl N C fp s H) E0 elt f)(hs:autoParam (∀x,foldedSetIterable iter X.env x=pure x) Qin._auto_1)(hs1:∀env x,foldedSetIterable iter1 env x=pure x:=by intro _ _;rfl):
  DE X ξ (.ListComp elt [⟨tg,iter,ifs,0⟩,⟨tg1,iter1,ifs1,0⟩] scope pos) (Zbe fi k fr gt c λn=>gIn fi1 gt1 c1 (gEm f n)):=
 Zf3 B hi (λC fp s H=>(h B C fp s H).1) (λC fp s H=>(h B C fp s H).2.1) (Zif elt tg iter tg1 iter1 ifs ifs1 scope pos) (λC fp s H D n0 it=>let ⟨_,_,h1,h2,h3,h4⟩:=h B C fp s H;Zkr (bd:=λit'=>ZhQ (.ListComp elt [⟨tg,iter,ifs,0⟩,⟨tg1,iter1,ifs1,0⟩] scope pos) elt 1 it' (.ref D) (blk X scope cl N C fp s H).env) rfl (λit'=>Zig elt tg iter tg1 iter1 ifs ifs1 scope pos it' _ _) (λ_ _ z=>z) h1 h2 h3 (λit'=>ZcU (λ_ _ z=>z) h4) (hs1 _)) hs
end DL
namespace DL
open PyProof.Rows L2
end DL
namespace DL
open L2
end DL
namespace DL
open PyProof.Rows L2 PySem.W
end DL
namespace PySem.SeqAt
open MeetsSeq MeetsSeq2 MeetsSeq3 SeqRoads2
end PySem.SeqAt
namespace DL
open PyProof.Rows L2 PySem.W
end DL
namespace ST
open PyProof.Rows
abbrev lt(a b:List Int):Bool:=HT.ZaO a b
def le(a b:List Int):Prop:=lt b a=false
theorem Zih:∀a:List Int,lt a a=false
 |[]=>rfl
 |x::r=>by
  show HT.ZaO (x::r) (x::r)=false;rw[HT.ZW,if_pos rfl];exact Zih r
theorem Zm1:∀{a b c:List Int},lt a b=true->lt b c=true->lt a c=true
 |[],[],_,h,_=>by cases h
 |[],_::_,[],_,h=>by cases h
 |[],_::_,_::_,_,_=>rfl
 |_::_,[],_,h,_=>by cases h
 |_::_,_::_,[],_,h=>by cases h
 |x::a,y::b,z::c,h,g=>by
  show HT.ZaO (x::a) (z::c)=true;have h:HT.ZaO (x::a) (y::b)=true:=h;have g:HT.ZaO (y::b) (z::c)=true:=g;rw[HT.ZW]at h g ⊢;by_cases e1:x=y
  .subst e1;rw[if_pos rfl]at h;by_cases e2:x=z
   .rw[if_pos e2]at g ⊢;exact Zm1 h g
   .rw[if_neg e2]at g ⊢;exact g
  .rw[if_neg e1]at h;have h:=of_decide_eq_true h;by_cases e2:y=z
   .subst e2;rw[if_neg e1];exact decide_eq_true h
   .rw[if_neg e2]at g;have g:=of_decide_eq_true g;rw[if_neg ⋯]
    exact decide_eq_true ⋯
theorem ZeE:∀{a b:List Int},lt a b=false->lt b a=false->a=b
 |[],[],_,_=>rfl
 |[],_::_,h,_=>by cases h
 |_::_,[],_,h=>by cases h
 |x::a,y::b,h,g=>by
  have h:HT.ZaO (x::a) (y::b)=false:=h;have g:HT.ZaO (y::b) (x::a)=false:=g;rw[HT.ZW]at h g;by_cases e:x=y
  .subst e;rw[if_pos rfl]at h g;rw[ZeE h g]
  .rw[if_neg e]at h;rw[if_neg (cu e)]at g
   have:=of_decide_eq_false h
   have:=of_decide_eq_false g
   lia
theorem Zcv(a:List Int):le a a:=Zih a
theorem Zb2(h:lt a b=true):le a b:=by
 unfold le;cases e:lt b a with
 |false=>rfl
 |true=>have:=Zm1 h e;rw[Zih]at this;cases this
theorem Zcw(h:le a b)(g:le b c):le a c:=by
 unfold le at *;cases e:lt c a with
 |false=>rfl
 |true=>
  cases e2:lt b a with
  |true=>rw[e2]at h;cases h
  |false=>
   cases e3:lt a b with
   |true=>rw[Zm1 e e3]at g;cases g
   |false=>
    have:=ZeE e3 e2
    subst this;rw[e]at g;cases g
theorem Zfg(h:lt a b=true)(g:le b c):lt a c=true:=by
 cases e:lt a c with
 |true=>rfl
 |false=>have:=Zcw g e;unfold le at this;rw[h]at this;cases this
variable (kf:aJ->List Int)
noncomputable def ky(xs:Array aJ)(i:Nat):List Int:=match xs[i]? with|some p=>kf p|none=>[]
def Up(xs:Array aJ)(n:Nat):Prop:=∀i j,i<=j->j<n->le (ky kf xs i) (ky kf xs j)
def Dn(xs:Array aJ)(n:Nat):Prop:=∀i j,i<=j->j<n->le (ky kf xs j) (ky kf xs i)
variable {kf}
theorem ZcX{xs ys:Array aJ}{i j:Nat}(h:xs[i]?=ys[j]?):ky kf xs i=ky kf ys j:=by unfold ky;rw[h]
theorem Zii{xs:Array aJ}{i j:Nat}(hj:j<=xs.size)(k:Nat):ky kf (jX xs i j ((j-i)/2)) k=if i<=k/\k<j then ky kf xs (i+j-1-k)else ky kf xs k:=by
 have g:=mK (i:=i) hj k;split
 .rename_i c;rw[if_pos c]at g;exact ZcX g
 .rename_i c;rw[if_neg c]at g;exact ZcX g
theorem Zad{xs:Array aJ}{i j:Nat}(hj:j<=xs.size)(hs:∀k,i<=k->k<j->ky kf xs k=ky kf xs (j-1))(k:Nat):ky kf (jX xs i j ((j-i)/2)) k=ky kf xs k:=by
 rw[Zii hj];split
 .rename_i c;rw[hs k c.1 c.2,hs (i+j-1-k) (by omega) (by omega)]
 .rfl
theorem Zpy{xs:Array aJ}{p d:Nat}(hp:p<xs.size)(hd:d<=p)(k:Nat):ky kf (bubble xs p d) k=if k=p-d then ky kf xs p else if p-d<k/\k<=p then ky kf xs (k-1)else ky kf xs k:=by
 have g:=getElem?_bubble hp d hd k;by_cases c1:k=p-d
 .rw[if_pos c1]at g ⊢;exact ZcX g
 .rw[if_neg c1]at g ⊢;by_cases c2:p-d<k/\k<=p
  .rw[if_pos c2]at g ⊢;exact ZcX g
  .rw[if_neg c2]at g ⊢;exact ZcX g
end ST
namespace ST
open PyProof.Rows
noncomputable abbrev SM:=StateT cx Sem
noncomputable def ZaU:Bool->aJ->Array aJ->Nat->Nat->Nat->SM (Option Nat):=sortPriv% PySem.Builtin.gallop
noncomputable def ZdP:Array aJ->Array aJ->SM (Array aJ):=sortPriv% PySem.Builtin.mergeLo
noncomputable def ZdQ:Array aJ->Array aJ->SM (Array aJ):=sortPriv% PySem.Builtin.mergeHi
noncomputable def ZcY:Nat->SM Unit:=sortPriv% PySem.Builtin.setMinGallop
noncomputable abbrev Zdy(st:cx)(g:Nat):cx:=kH (kindOf st) (arrOf st) (pendingOf st) g (gP st)
theorem Zbo(g:Nat):ZcY g=modify λs=>Zdy s g:=rfl
theorem Zoc(left:Bool)(q:aJ)(xs:Array aJ)(b n p:Nat):ZaU left q xs b n p=(do
  let far (i:Nat):SM (Option Bool):=do
   let y <-elem' xs (b+i)
   if left then lt' y q else return (<-lt' q y).map (!·)
  let mut d:=0
  let mut e:=1
  let mut l:=0
  let mut h:=0
  let some rt <-far p|return none
  if rt then
   let top:=n-p
   for _ in [0:n] do
    if e ≥ top then break
    let some go <-far (p+e)|return none
    if !go then break
    d:=e
    e:=2*e+1
   l:=p+d+1
   h:=p+min e top
  else
   let top:=p+1
   for _ in [0:n] do
    if e ≥ top then break
    let some go <-far (p-e)|return none
    if go then break
    d:=e
    e:=2*e+1
   l:=p+1-min e top
   h:=p-d
  for _ in [0:n] do
   if l ≥ h then break
   let c:=l+(h-l)/2
   let some go <-far c|return none
   if go then l:=c+1 else h:=c
  return some h):=rfl
theorem Zfh(i:Nat):mergeAt' i=(do
  let t <-get
  let (some (a,n,pw),some (b,m,_)):=((pendingOf t)[i]?,(pendingOf t)[i+1]?)|nM "internal:list.sort.pending"
  set (gq t (((pendingOf t).setIfInBounds i (a,n+m,pw)).eraseIdxIfInBounds (i+1)))
  let some k <-ZaU false (<-elem' (arrOf t) b) (arrOf t) a n 0|return false
  let (a,n):=(a+k,n-k)
  if n==0 then return true
  let some m <-ZaU true (<-elem' (arrOf t) (a+n-1)) (arrOf t) b m (m-1)|return false
  if m==0 then return true
  let x:=(arrOf t).extract a b
  let y:=(arrOf t).extract b (b+m)
  let z <-if n<=m then ZdP x y else ZdQ x y
  modify λt=>mZ t (z.toList.zipIdx.foldl (λo (p,j)=>o.setIfInBounds (a+j) p) (arrOf t))
  return (gP (<-get)).isNone):=rfl
theorem Zfi(h:le a b)(g:lt b c=true):lt a c=true:=by
 cases e:lt a c with
 |true=>rfl
 |false=>
  have z:=Zcw (a:=c) (b:=a) (c:=b) e h;unfold le at z;rw[g]at z;cases z
structure Cp(M:Model) (A:cV) (E:Vp) (s:aC) (kf:aJ->List Int) (G:aJ->Prop) (B:cx->Prop):Prop where
 cmp:∀st p q (Q:Option Bool->cx->Prop),B st->G p->G q->Q (some (lt (kf p) (kf q))) st->wpS M A E s (lt' p q) Q st
 gal:∀st g,B st->B (Zdy st g)
 pen:∀st p,B st->B (gq st p)
 put:∀st xs,B st->xs.Perm (arrOf st)->B (mZ st xs)
 good:∀st,B st->∀p∈(arrOf st).toList,G p
 fail:∀st,B st->gP st=none
def frk(left:Bool)(a c:List Int):Bool:=if left then lt c a else !lt a c
theorem Zks(h:le c d)(f:frk left a d=true):frk left a c=true:=by
 unfold frk at *;cases left with
 |true=>exact Zfi h f
 |false=>
  have f:(!lt a d)=true:=f;show(!lt a c)=true;rw[fW]at f ⊢;exact Zcw h f
section
variable {prog:cE}{w:c6}{A:cV}{E:Vp}{s:aC}{kf:aJ->List Int}{G:aJ->Prop}{B:cx->Prop}{st:cx}{xs:Array aJ}
theorem Z3(h:xs[i]?=some p)(q:Q p st):wpS (ao prog w) A E s (elem' xs i) Q st:=by
 rw[elem'_eq,h];exact aA q
noncomputable def Gs(G:aJ->Prop)(xs:Array aJ):Prop:=∀(i:Nat)(p:aJ),xs[i]?=some p->G p
section
variable (left:Bool)(q:aJ)(xs:Array aJ)(b n p:Nat)
noncomputable def Zm2(i:Nat):SM (Option Bool):=do
 let y <-elem' xs (b+i)
 if left then lt' y q else return (<-lt' q y).map (!·)
def gaL(l h:Nat):SM (Option Nat):=do
 let s <-forIn [0:n] ((none,l,h):Option (Option Nat)×Nat×Nat) λ_ s=>
  if s.2.1 ≥ s.2.2 then pure (.done (none,s.2.1,s.2.2))else do
   match <-Zm2 left q xs b (s.2.1+(s.2.2-s.2.1)/2)with
   |some go=>if go then pure (.yield (none,s.2.1+(s.2.2-s.2.1)/2+1,s.2.2))else pure (.yield (none,s.2.1,s.2.1+(s.2.2-s.2.1)/2))
   |_=>pure (.done (some none,s.2.1,s.2.2))
 match s.1 with
 |some r=>pure r
 |none=>pure (some s.2.2)
def gaU:SM (Option Nat):=do
 let s <-forIn [0:n] ((none,0,1):Option (Option Nat)×Nat×Nat) λ_ s=>
  if s.2.2 ≥ n-p then pure (.done (none,s.2.1,s.2.2))else do
   match <-Zm2 left q xs b (p+s.2.2)with
   |some go=>if !go then pure (.done (none,s.2.1,s.2.2))else pure (.yield (none,s.2.2,2*s.2.2+1))
   |_=>pure (.done (some none,s.2.1,s.2.2))
 match s.1 with
 |some r=>pure r
 |none=>gaL left q xs b n (p+s.2.1+1) (p+min s.2.2 (n-p))
def gaD:SM (Option Nat):=do
 let s <-forIn [0:n] ((none,0,1):Option (Option Nat)×Nat×Nat) λ_ s=>
  if s.2.2 ≥ p+1 then pure (.done (none,s.2.1,s.2.2))else do
   match <-Zm2 left q xs b (p-s.2.2)with
   |some go=>if go then pure (.done (none,s.2.1,s.2.2))else pure (.yield (none,s.2.2,2*s.2.2+1))
   |_=>pure (.done (some none,s.2.1,s.2.2))
 match s.1 with
 |some r=>pure r
 |none=>gaL left q xs b n (p+1-min s.2.2 (p+1)) (p-s.2.1)
theorem Zij:ZaU left q xs b n p=(do
  match <-Zm2 left q xs b p with
  |some rt=>if rt then gaU left q xs b n p else gaD left q xs b n p
  |_=>pure none):=by kernel_rfl
end
section
variable {left:Bool}{q:aJ}{b n p:Nat}{f:Nat->Bool}{Q:Option Nat->cx->Prop}
variable (step:∀{i:Nat}{Q:Option Bool->cx->Prop},i<n->Q (some (f i)) st->wpS (ao prog w) A E s (Zm2 left q xs b i) Q st)(dn:∀i j,i<=j->j<n->f j=true->f i=true)(h:∀k,k<=n->(∀i,i<k->f i=true)->(∀i,k<=i->i<n->f i=false)->Q (some k) st)
include step dn h
theorem Zpz{l hh:Nat}(l1:l<=hh)(l2:hh<=n)(a1:∀i,i<l->f i=true)(a2:∀i,hh<=i->i<n->f i=false):wpS (ao prog w) A E s (gaL left q xs b n l hh) Q st:=by
 have up:∀i j,i<=j->j<n->f i=false->f j=false:=λi j ij jn fi=>by
  cases e:f j with
  |false=>rfl
  |true=>rw[dn i j ij jn e]at fi;cases fi
 unfold gaL;refine au (fB (cw (λx c t=>t=st/\∃l hh,c=(none,l,hh)/\(l<=hh/\hh<=n/\hh-l<=n-x)/\(∀i,i<l->f i=true)/\∀i,hh<=i->i<n->f i=false) (Q:=λc t=>t=st/\∃k,c=(none,k,k)/\k<=n/\(∀i,i<k->f i=true)/\∀i,k<=i->i<n->f i=false) (λx c t _ xn hI=>?_) (λc t hI=>?_) ⟨rfl,l,hh,rfl,⋯,a1,a2⟩) λc t hI=>?_)
 .obtain⟨rfl,l,hh,rfl,⟨c1,c2,c3⟩,b1,b2⟩:=hI;dsimp only;by_cases c:l=hh
  .subst c;rw[if_pos (aj _)];exact aA ⟨rfl,l,rfl,c2,b1,b2⟩
  .rw[if_neg ⋯]
   have hm:l<=l+(hh-l)/2/\l+(hh-l)/2<hh:=⋯
   generalize l+(hh-l)/2=m at *;refine au (step ⋯ ?_)
   cases z:f m with
   |true=>exact aA ⟨rfl,_,_,rfl,⋯,λi hi=>dn i m ⋯ ⋯ z,b2⟩
   |false=>exact aA ⟨rfl,_,_,rfl,⋯,b1,λi hi hn=>up m i hi hn z⟩
 .obtain⟨rfl,l,hh,rfl,⟨c1,c2,c3⟩,b1,b2⟩:=hI;obtain rfl:l=hh:=⋯
  exact⟨rfl,l,rfl,c2,b1,b2⟩
 .obtain⟨rfl,k,rfl,c2,b1,b2⟩:=hI;exact aA (h k c2 b1 b2)
variable (hp:p<n)
include hp
theorem Zst(z:f p=true):wpS (ao prog w) A E s (gaU left q xs b n p) Q st:=by
 unfold gaU;refine au (fB (cw (λx c t=>t=st/\∃d e,c=(none,d,e)/\(d<e/\x<e)/\p+d<n/\f (p+d)=true) (Q:=λc t=>t=st/\∃d e,c=(none,d,e)/\d<e/\p+d<n/\f (p+d)=true/\(n-p<=e\/f (p+e)=false)) (λx c t _ xn hI=>?_) (λc t hI=>?_) ⟨rfl,0,1,rfl,⋯,hp,z⟩) λc t hI=>?_)
 .obtain⟨rfl,d,e,rfl,⟨c1,c2⟩,b1,b2⟩:=hI;dsimp only;by_cases c:e ≥ n-p
  .rw[if_pos c];exact aA ⟨rfl,d,e,rfl,c1,b1,b2,.inl c⟩
  .rw[if_neg c];refine au (step ⋯ ?_)
   cases y:f (p+e)with
   |true=>exact aA ⟨rfl,e,2*e+1,rfl,⋯,⋯,y⟩
   |false=>exact aA ⟨rfl,d,e,rfl,c1,b1,b2,.inr y⟩
 .obtain⟨rfl,d,e,rfl,⟨c1,c2⟩,b1,b2⟩:=hI;exact⟨rfl,d,e,rfl,c1,b1,b2,.inl ⋯⟩
 .obtain⟨rfl,d,e,rfl,c1,b1,b2,b3⟩:=hI;dsimp only;refine Zpz step dn h ⋯ ⋯ (λi hi=>dn i (p+d) ⋯ b1 b2) λi hi hn=>?_
  rcases b3 with b3|b3
  .lia
  .cases e':f i with
   |false=>rfl
   |true=>rw[dn (p+e) i ⋯ hn e']at b3;cases b3
theorem Zsu(z:f p=false):wpS (ao prog w) A E s (gaD left q xs b n p) Q st:=by
 unfold gaD;refine au (fB (cw (λx c t=>t=st/\∃d e,c=(none,d,e)/\(d<e/\x<e)/\d<=p/\f (p-d)=false) (Q:=λc t=>t=st/\∃d e,c=(none,d,e)/\d<e/\d<=p/\f (p-d)=false/\(p+1<=e\/f (p-e)=true)) (λx c t _ xn hI=>?_) (λc t hI=>?_) ⟨rfl,0,1,rfl,⋯,⋯,z⟩) λc t hI=>?_)
 .obtain⟨rfl,d,e,rfl,⟨c1,c2⟩,b1,b2⟩:=hI;dsimp only;by_cases c:e ≥ p+1
  .rw[if_pos c];exact aA ⟨rfl,d,e,rfl,c1,b1,b2,.inl c⟩
  .rw[if_neg c];refine au (step ⋯ ?_)
   cases y:f (p-e)with
   |true=>exact aA ⟨rfl,d,e,rfl,c1,b1,b2,.inr y⟩
   |false=>exact aA ⟨rfl,e,2*e+1,rfl,⋯,⋯,y⟩
 .obtain⟨rfl,d,e,rfl,⟨c1,c2⟩,b1,b2⟩:=hI;exact⟨rfl,d,e,rfl,c1,b1,b2,.inl ⋯⟩
 .obtain⟨rfl,d,e,rfl,c1,b1,b2,b3⟩:=hI;dsimp only;refine Zpz step dn h ⋯ ⋯ (λi hi=>?_) λi hi hn=>?_
  .rcases b3 with b3|b3
   .lia
   .exact dn i (p-e) ⋯ ⋯ b3
  .cases e':f i with
   |false=>rfl
   |true=>rw[dn (p-d) i hi hn e']at b2;cases b2
end
theorem Zbp(C:Cp (ao prog w) A E s kf G B)(hB:B st)(hq:G q)(hg:Gs G xs)(hp:p<n)(hx:b+n<=xs.size)(hu:∀i j,i<=j->j<n->le (ky kf xs (b+i)) (ky kf xs (b+j)))(h:∀k,k<=n->(∀i,i<k->frk left (kf q) (ky kf xs (b+i))=true)->(∀i,k<=i->i<n->frk left (kf q) (ky kf xs (b+i))=false)->Q (some k) st):wpS (ao prog w) A E s (ZaU left q xs b n p) Q st:=by
 have dn:∀i j,i<=j->j<n->frk left (kf q) (ky kf xs (b+j))=true->frk left (kf q) (ky kf xs (b+i))=true:=λi j ij jn fj=>Zks (hu i j ij jn) fj;have step:∀{i:Nat}{Q:Option Bool->cx->Prop},i<n->Q (some (frk left (kf q) (ky kf xs (b+i)))) st->wpS (ao prog w) A E s (Zm2 left q xs b i) Q st:=λ{i Q} hi hQ=>by
  have e:xs[b+i]?=some (xs[b+i]'⋯):=getElem?_pos xs (b+i) ⋯
  have ek:ky kf xs (b+i)=kf (xs[b+i]'⋯):=by unfold ky;rw[e]
  rw[ek]at hQ;unfold Zm2;refine au (Z3 e ?_);cases left with
  |true=>exact C.cmp st _ _ _ hB (hg _ _ e) hq hQ
  |false=>exact au (C.cmp st _ _ _ hB hq (hg _ _ e) (aA hQ))
 rw[Zij];refine au (step hp ?_);cases z:frk left (kf q) (ky kf xs (b+p))with
 |true=>exact Zst (f:=λi=>frk left (kf q) (ky kf xs (b+i))) step dn h hp z
 |false=>exact Zsu (f:=λi=>frk left (kf q) (ky kf xs (b+i))) step dn h hp z
end
section
variable {kf:aJ->List Int}{x y z:Array aJ}{u v:Nat}
theorem Zbf{z:Array aJ}:ky kf (z.push p) j=if j=z.size then kf p else ky kf z j:=by
 unfold ky;rw[mI];by_cases c:j=z.size
 .rw[if_pos c,if_pos c]
 .rw[if_neg c,if_neg c]
theorem ZQ{x:Array aJ}(h:i<x.size):ky kf x i=kf x[i]:=by unfold ky;rw[getElem?_pos x i h]
structure MI(kf:aJ->List Int) (x y z:Array aJ) (u v:Nat):Prop where
 p:z.toList.Perm (x.toList.take u++y.toList.take v)
 s:Up kf z z.size
 a:∀i,u<=i->i<x.size->∀j,j<z.size->le (ky kf z j) (ky kf x i)
 b:∀i,v<=i->i<y.size->∀j,j<z.size->le (ky kf z j) (ky kf y i)
 lu:u<=x.size
 lv:v<=y.size
theorem MI.sym(h:MI kf x y z u v):MI kf y x z v u:=⟨h.p.trans eE,h.s,h.b,h.a,h.lv,h.lu⟩
theorem Up.push{z:Array aJ}(h:Up kf z z.size)(hp:∀j,j<z.size->le (ky kf z j) (kf p)):Up kf (z.push p) (z.push p).size:=by
 intro i j ij hj;rw[dK]at hj;rw[Zbf,Zbf];by_cases c:j=z.size
 .rw[if_pos c];by_cases d:i=z.size
  .rw[if_pos d];exact Zcv _
  .rw[if_neg d];exact hp i ⋯
 .rw[if_neg c,if_neg ⋯]
  exact h i j ij ⋯
theorem MI.pushX(h:MI kf x y z u v)(sx:Up kf x x.size)(sy:Up kf y y.size)(hu:u<x.size)(hy:v<y.size->le (ky kf x u) (ky kf y v)):MI kf x y (z.push x[u]) (u+1) v:=by
 refine⟨?_,h.s.push λj hj=>by rw[<-ZQ (kf:=kf) hu];exact h.a u (aj _) hu j hj,λi hi hx j hj=>?_,λi hi hyy j hj=>?_,hu,h.lv⟩
 .rw[fY,List.take_succ,bw,getElem?_pos x u hu];refine(h.p.append_right _).trans ?_;show(x.toList.take u++y.toList.take v++[x[u]]).Perm (x.toList.take u++[x[u]]++y.toList.take v);rw[cS,cS];exact eE.append_left _
 .rw[dK]at hj;rw[Zbf];by_cases c:j=z.size
  .rw[if_pos c,<-ZQ (kf:=kf) hu];exact sx u i ⋯ hx
  .rw[if_neg c];exact h.a i ⋯ hx j ⋯
 .rw[dK]at hj;rw[Zbf];by_cases c:j=z.size
  .rw[if_pos c,<-ZQ (kf:=kf) hu];exact Zcw (hy ⋯) (sy v i hi hyy)
  .rw[if_neg c];exact h.b i hi hyy j ⋯
theorem MI.pushY(h:MI kf x y z u v)(sx:Up kf x x.size)(sy:Up kf y y.size)(hv:v<y.size)(hx:u<x.size->le (ky kf y v) (ky kf x u)):MI kf x y (z.push y[v]) u (v+1):=(h.sym.pushX sy sx hv hx).sym
theorem Zga{x:Array aJ}{u:Nat}(h:u+k<x.size):x.extract u (u+(k+1))=(x.extract u (u+k)).push x[u+k]:=by
 apply fC.mp;rw[fY,dG,dG,cQ,cQ,show u+(k+1)-u=k+1 by lia,show u+k-u=k by lia,List.take_succ,hW,bw,getElem?_pos x (u+k) h]
 rfl
theorem MI.chunkX(sx:Up kf x x.size)(sy:Up kf y y.size)(h:MI kf x y z u v):∀k,u+k<=x.size->(∀i,i<k->v<y.size->le (ky kf x (u+i)) (ky kf y v))->MI kf x y (z++x.extract u (u+k)) (u+k) v
 |0,_,_=>by
  have:x.extract u (u+0)= #[]:=by
   apply fC.mp;rw[dG,cQ];simp
  rw[this,Array.append_empty];exact h
 |k+1,hk,hc=>by
  have ih:=MI.chunkX sx sy h k ⋯ λi hi=>hc i ⋯
  rw[Zga ⋯,Array.append_push]
  exact ih.pushX sx sy ⋯ λhv=>hc k ⋯ hv
theorem MI.chunkY(sx:Up kf x x.size)(sy:Up kf y y.size)(h:MI kf x y z u v)(k:Nat)(hk:v+k<=y.size)(hc:∀i,i<k->u<x.size->le (ky kf y (v+i)) (ky kf x u)):MI kf x y (z++y.extract v (v+k)) u (v+k):=(MI.chunkX sy sx h.sym k hk hc).sym
def Md(kf:aJ->List Int)(x y out:Array aJ):Prop:=out.Perm (x++y)/\Up kf out out.size
theorem MI.md(h:MI kf x y out x.size y.size):Md kf x y out:=by
 refine⟨bV.mpr ?_,h.s⟩
 have:=h.p
 rw[cK (by simp),cK (by simp)]at this
 rw[cB];exact this
theorem MI.fin(sx:Up kf x x.size)(sy:Up kf y y.size)(h:MI kf x y z u v)(he:u=x.size\/v=y.size):Md kf x y (z++x.extract u x.size++y.extract v y.size):=by
 have lu:=h.lu;have lv:=h.lv;have h1:=h.chunkX sx sy (x.size-u) ⋯ λi hi hv=>⋯
 rw[show u+(x.size-u)=x.size by lia]at h1
 have h2:=h1.chunkY sx sy (y.size-v) ⋯ λi hi hu=>⋯
 rw[show v+(y.size-v)=y.size by lia]at h2
 exact h2.md
theorem MI.tail(sx:Up kf x x.size)(sy:Up kf y y.size)(h:MI kf x y z u v)(he:u+1=x.size)(hl:∀i,i<y.size->le (ky kf y i) (ky kf x (x.size-1))):Md kf x y (z++y.extract v y.size++x.extract u x.size):=by
 have lv:=h.lv;have h1:=h.chunkY sx sy (y.size-v) ⋯ λi hi hu=>by
  rw[show u=x.size-1 by lia]
  exact hl _ ⋯
 rw[show v+(y.size-v)=y.size by lia]at h1
 have h2:=h1.chunkX sx sy (x.size-u) ⋯ λi hi hv=>⋯
 rw[show u+(x.size-u)=x.size by lia]at h2
 exact h2.md
end
noncomputable abbrev R7:=Option (Array aJ)×Array aJ×Nat×Nat×Nat×Nat×Nat
noncomputable abbrev R6:=Option (Array aJ)×Array aJ×Nat×Nat×Nat×Nat
noncomputable abbrev R5:=Option (Array aJ)×Array aJ×Nat×Nat×Nat
section
variable (x y:Array aJ)
noncomputable abbrev fi(z:Array aJ)(u v:Nat):=z++x.extract u x.size++y.extract v y.size
noncomputable abbrev tl(z:Array aJ)(u v:Nat):=z++y.extract v y.size++x.extract u x.size
def lo3(z:Array aJ)(u v g c d:Nat):SM (ForInStep R7):=do
 let e <-elem' x u
 if u+1+1==x.size then pure (.done (some (tl x y (z.push e) (u+1) v),z.push e,u+1,v,g,c,d))
 else if decide (c<7)&&decide (d<7)then pure (.done (none,z.push e,u+1,v,g,c,d))else pure (.yield (none,z.push e,u+1,v,g,c,d))
def lo2(z:Array aJ)(u v g c d:Nat):SM (ForInStep R7):=do
 let e <-elem' y v
 if v+1==y.size then pure (.done (some (fi x y (z.push e) u (v+1)),z.push e,u,v+1,g,c,d))
 else do
  let e2 <-elem' x u
  match <-ZaU true e2 y (v+1) (y.size-(v+1)) 0 with
  |some k=>
   if k>0 then
    if v+1+k==y.size then pure (.done (some (fi x y (z.push e++y.extract (v+1) (v+1+k)) u (v+1+k)),z.push e++y.extract (v+1) (v+1+k),u,v+1+k,g,c,k))
    else lo3 x y (z.push e++y.extract (v+1) (v+1+k)) u (v+1+k) g c k
   else lo3 x y (z.push e) u (v+1) g c k
  |_=>pure (.done (some (fi x y (z.push e) u (v+1)),z.push e,u,v+1,g,c,d))
def lo1(z:Array aJ)(u v g c d:Nat):SM (ForInStep R7):=do
 ZcY g
 let e <-elem' y v
 match <-ZaU false e x u (x.size-u) 0 with
 |some k=>
  if k>0 then
   if u+k+1==x.size then pure (.done (some (tl x y (z++x.extract u (u+k)) (u+k) v),z++x.extract u (u+k),u+k,v,g,k,d))
   else if u+k==x.size then pure (.done (some (fi x y (z++x.extract u (u+k)) (u+k) v),z++x.extract u (u+k),u+k,v,g,k,d))
   else lo2 x y (z++x.extract u (u+k)) (u+k) v g k d
  else lo2 x y z u v g k d
 |_=>pure (.done (some (fi x y z u v),z,u,v,g,c,d))
def lo0(g:Nat)(z:Array aJ)(u v c d:Nat):SM (ForInStep R6):=do
 let a <-elem' y v
 let b <-elem' x u
 match <-lt' a b with
 |some w=>
  if w then do
   let e <-elem' y v
   if v+1==y.size then pure (.done (some (fi x y (z.push e) u (v+1)),z.push e,u,v+1,0,d+1))
   else if d+1 ≥ g then pure (.done (none,z.push e,u,v+1,0,d+1))else pure (.yield (none,z.push e,u,v+1,0,d+1))
  else do
   let e <-elem' x u
   if u+1+1==x.size then pure (.done (some (tl x y (z.push e) (u+1) v),z.push e,u+1,v,c+1,0))
   else if c+1 ≥ g then pure (.done (none,z.push e,u+1,v,c+1,0))else pure (.yield (none,z.push e,u+1,v,c+1,0))
 |_=>pure (.done (some (fi x y z u v),z,u,v,c,d))
def loA(z:Array aJ)(u v g:Nat):SM (ForInStep R5):=do
 let s <-forIn [0:x.size+y.size] ((none,z,u,v,0,0):R6) λ_ s=>lo0 x y g s.2.1 s.2.2.1 s.2.2.2.1 s.2.2.2.2.1 s.2.2.2.2.2
 match s.1 with
 |some r=>pure (.done (some r,s.2.1,s.2.2.1,s.2.2.2.1,g))
 |none=>do
  liftM (PySem.rule "list.sort.gallop")
  let t <-forIn [0:x.size+y.size] ((none,s.2.1,s.2.2.1,s.2.2.2.1,g+1,s.2.2.2.2.1,s.2.2.2.2.2):R7) λ_ s=>
   if s.2.2.2.2.1>1 then lo1 x y s.2.1 s.2.2.1 s.2.2.2.1 (s.2.2.2.2.1-1) s.2.2.2.2.2.1 s.2.2.2.2.2.2 else lo1 x y s.2.1 s.2.2.1 s.2.2.2.1 s.2.2.2.2.1 s.2.2.2.2.2.1 s.2.2.2.2.2.2
  match t.1 with
  |some r=>pure (.done (some r,t.2.1,t.2.2.1,t.2.2.2.1,t.2.2.2.2.1))
  |none=>do
   ZcY (t.2.2.2.2.1+1)
   pure (.yield (none,t.2.1,t.2.2.1,t.2.2.2.1,t.2.2.2.2.1+1))
theorem Zsv:ZdP x y=(do
  liftM (PySem.rule "list.sort.merge-lo")
  let e <-elem' y 0
  if 1==y.size then pure (fi x y #[e] 0 1)
  else if 0+1==x.size then pure (tl x y #[e] 0 1)
  else do
   let st <-get
   let s <-forIn [0:x.size+y.size] ((none,#[e],0,1,gallopOf st):R5) λ_ s=>loA x y s.2.1 s.2.2.1 s.2.2.2.1 s.2.2.2.2
   match s.1 with
   |some r=>pure r
   |none=>liftM (nM "internal:list.sort.merge-bound":Sem _)):=by
 kernel_rfl
end
section
variable {prog:cE}{w:c6}{A:cV}{E:Vp}{s:aC}{kf:aJ->List Int}{G:aJ->Prop}{B:cx->Prop}{st:cx}{x y z:Array aJ}{u v g c d:Nat}
def En(R:ForInStep R7->cx->Prop)(st:cx)(kf:aJ->List Int)(x y:Array aJ)(N:Nat):Prop:=
 (∀out r,Md kf x y out->R (.done (some out,r)) st)/\∀z u v g c d,MI kf x y z u v->u+1<x.size->v<y.size->N<=u+v->R (.done (none,z,u,v,g,c,d)) st/\R (.yield (none,z,u,v,g,c,d)) st
section
variable {R:ForInStep R7->cx->Prop}{N:Nat}(q:En R st kf x y N)(sx:Up kf x x.size)(sy:Up kf y y.size)(hl:∀i,i<y.size->le (ky kf y i) (ky kf x (x.size-1)))(hI:MI kf x y z u v)(hu:u+1<x.size)(hv:v<y.size)
include q sx sy hl hI hu hv
theorem ZpA(hle:le (ky kf x u) (ky kf y v))(hN:N<=u+v+1):wpS (ao prog w) A E s (lo3 x y z u v g c d) R st:=by
 have hu':u<x.size:=⋯
 unfold lo3;refine au (Z3 (getElem?_pos x u hu') ?_);have m1:=hI.pushX sx sy hu' λ_=>hle;by_cases c1:u+1+1=x.size
 .rw[if_pos (by simpa using c1)]
  exact aA (q.1 _ _ (m1.tail sx sy c1 hl))
 .rw[if_neg (by simpa using c1)]
  have q:=q.2 _ _ _ g c d m1 ⋯ hv ⋯
  split
  .exact aA q.1
  .exact aA q.2
variable (C:Cp (ao prog w) A E s kf G B)(hB:B st)(gx:Gs G x)(gy:Gs G y)
include C hB gx gy
theorem ZpB(hlt:le (ky kf y v) (ky kf x u))(hN:N<=u+v+2):wpS (ao prog w) A E s (lo2 x y z u v g c d) R st:=by
 have hu':u<x.size:=⋯
 unfold lo2;refine au (Z3 (getElem?_pos y v hv) ?_);have m1:=hI.pushY sx sy hv λ_=>hlt;by_cases c1:v+1=y.size
 .rw[if_pos (by simpa using c1)]
  exact aA (q.1 _ _ (m1.fin sx sy (.inr c1)))
 rw[if_neg (by simpa using c1)]
 refine au (Z3 (getElem?_pos x u hu') (au (Zbp C hB (gx u _ (getElem?_pos x u hu')) gy ⋯ ⋯ (λi j ij jn=>sy _ _ ⋯ ⋯) λk kn a1 a2=>?_)))
 have a2:v+1+k<y.size->le (ky kf x u) (ky kf y (v+1+k)):=λhk=>by
  have:=a2 k (aj _) ⋯
  rw[<-ZQ (kf:=kf) hu']at this;exact this
 dsimp only;by_cases ck:k>0
 .rw[if_pos ck];have m4:=m1.chunkY sx sy k ⋯ λi hi _=>by
   have:=a1 i hi
   rw[<-ZQ (kf:=kf) hu']at this;exact Zb2 this
  by_cases e3:v+1+k=y.size
  .rw[if_pos (by simpa using e3)]
   exact aA (q.1 _ _ (m4.fin sx sy (.inr e3)))
  .rw[if_neg (by simpa using e3)]
   exact ZpA q sx sy hl m4 hu ⋯ (a2 ⋯) ⋯
 .rw[if_neg ck];obtain rfl:k=0:=⋯
  exact ZpA q sx sy hl m1 hu ⋯ (a2 ⋯) ⋯
omit q hB in
theorem Zsw(q:En R (Zdy st g) kf x y N)(hB:B (Zdy st g))(hN:N<=u+v+1):wpS (ao prog w) A E s (lo1 x y z u v g c d) R st:=by
 unfold lo1;rw[Zbo];refine au (gu (au (Z3 (getElem?_pos y v hv) (au (Zbp C hB (gy v _ (getElem?_pos y v hv)) gx ⋯ ⋯ (λi j ij jn=>sx _ _ ⋯ ⋯) λk kn a1 a2=>?_)))))
 have f2:u+k<x.size->le (ky kf y v) (ky kf x (u+k)):=λhn=>by
  have q:=a2 k (aj _) ⋯
  unfold frk at q;rw[if_neg (by simp),jw,<-ZQ (kf:=kf) hv]at q
  exact Zb2 q
 dsimp only;by_cases ck:k>0
 .rw[if_pos ck];have mk:=hI.chunkX sx sy k ⋯ λi hi _=>by
   have q:=a1 i hi;unfold frk at q;rw[if_neg (by simp),fW,<-ZQ (kf:=kf) hv]at q
   exact q
  by_cases e1:u+k+1=x.size
  .rw[if_pos (by simpa using e1)]
   exact aA (q.1 _ _ (mk.tail sx sy e1 hl))
  rw[if_neg (by simpa using e1)]
  by_cases e2:u+k=x.size
  .rw[if_pos (by simpa using e2)]
   exact aA (q.1 _ _ (mk.fin sx sy (.inl e2)))
  rw[if_neg (by simpa using e2)]
  exact ZpB q sx sy hl mk ⋯ hv C hB gx gy (f2 ⋯) ⋯
 .rw[if_neg ck];obtain rfl:k=0:=⋯
  exact ZpB q sx sy hl hI hu hv C hB gx gy (f2 ⋯) ⋯
end
theorem Zsx(C:Cp (ao prog w) A E s kf G B)(hB:B st)(gx:Gs G x)(gy:Gs G y)(sx:Up kf x x.size)(sy:Up kf y y.size)(hl:∀i,i<y.size->le (ky kf y i) (ky kf x (x.size-1)))(hI:MI kf x y z u v)(hu:u+1<x.size)(hv:v<y.size)(q1:∀out r,Md kf x y out->R (.done (some out,r)) st)(q2:∀z' u' v' c d,MI kf x y z' u' v'->u'+1<x.size->v'<y.size->u+v<=u'+v'->R (.done (none,z',u',v',c,d)) st/\R (.yield (none,z',u',v',c,d)) st):wpS (ao prog w) A E s (lo0 x y g z u v c d) R st:=by
 have hu2:u<x.size:=⋯
 have ex:=getElem?_pos x u hu2;have ey:=getElem?_pos y v hv;unfold lo0;refine au (Z3 ey (au (Z3 ex (au (C.cmp st _ _ _ hB (gy v _ ey) (gx u _ ex) ?_)))));rw[<-ZQ (kf:=kf) hu2,<-ZQ (kf:=kf) hv];dsimp only;cases wn:lt (ky kf y v) (ky kf x u)with
 |true=>
  rw[if_pos rfl];refine au (Z3 ey ?_);have m1:=hI.pushY sx sy hv λ_=>Zb2 wn;by_cases c3:v+1=y.size
  .rw[if_pos (by simpa using c3)]
   exact aA (q1 _ _ (m1.fin sx sy (.inr c3)))
  .rw[if_neg (by simpa using c3)]
   have q:=q2 _ _ _ 0 (d+1) m1 hu ⋯ ⋯
   split
   .exact aA q.1
   .exact aA q.2
 |false=>
  rw[if_neg (by simp)]
  refine au (Z3 ex ?_);have m1:=hI.pushX sx sy hu2 λ_=>wn;by_cases c3:u+1+1=x.size
  .rw[if_pos (by simpa using c3)]
   exact aA (q1 _ _ (m1.tail sx sy c3 hl))
  .rw[if_neg (by simpa using c3)]
   have q:=q2 _ _ _ (c+1) 0 m1 ⋯ hv ⋯
   split
   .exact aA q.1
   .exact aA q.2
theorem Zsy(C:Cp (ao prog w) A E s kf G B)(hB:B st)(gx:Gs G x)(gy:Gs G y)(sx:Up kf x x.size)(sy:Up kf y y.size)(hl:∀i,i<y.size->le (ky kf y i) (ky kf x (x.size-1)))(hI:MI kf x y z u v)(hu:u+1<x.size)(hv:v<y.size)(q1:∀out r t,B t->arrOf t=arrOf st->pendingOf t=pendingOf st->Md kf x y out->R (.done (some out,r)) t)(q2:∀z' u' v' g t,B t->arrOf t=arrOf st->pendingOf t=pendingOf st->MI kf x y z' u' v'->u'+1<x.size->v'<y.size->u+v<u'+v'->R (.yield (none,z',u',v',g)) t):wpS (ao prog w) A E s (loA x y z u v g) R st:=by
 unfold loA;refine au (fB (cw (λn r t'=>t'=st/\∃z' u' v' c d,r=(none,z',u',v',c,d)/\(MI kf x y z' u' v'/\u'+1<x.size/\v'<y.size)/\u+v<=u'+v') (Q:=λ(r:R6) t'=>t'=st/\((∃out rr,r=(some out,rr)/\Md kf x y out)\/∃z' u' v' c d,r=(none,z',u',v',c,d)/\(MI kf x y z' u' v'/\u'+1<x.size/\v'<y.size)/\u+v<=u'+v')) (λn r t' _ nn hI=>?_) (λr t' hI=>⟨hI.1,.inr hI.2⟩) ⟨rfl,z,u,v,0,0,rfl,⟨hI,hu,hv⟩,aj _⟩) λr t' hI=>?_)
 .obtain⟨rfl,z',u',v',c,d,rfl,⟨m',hu',hv'⟩,hn'⟩:=hI;dsimp only;exact Zsx C hB gx gy sx sy hl m' hu' hv' (λout r md=>⟨rfl,.inl ⟨out,r,rfl,md⟩⟩) λz' u' v' c d m h1 h2 h3=>⟨⟨rfl,.inr ⟨_,_,_,_,_,rfl,⟨m,h1,h2⟩,⋯⟩⟩,rfl,_,_,_,_,_,rfl,⟨m,h1,h2⟩,⋯⟩
 obtain⟨rfl,hI⟩:=hI;rcases hI with⟨out,rr,rfl,md⟩|⟨z',u',v',c,d,rfl,⟨m',hu',hv'⟩,hn'⟩
 .exact aA (q1 _ _ _ hB rfl rfl md)
 refine au (j9 (wpAny_rule ⟨rfl,au (fB (cw (λn r t=>(B t/\arrOf t=arrOf t'/\pendingOf t=pendingOf t')/\∃z u v g c d,r=(none,z,u,v,g,c,d)/\(MI kf x y z u v/\u+1<x.size/\v<y.size)/\u'+v'+n<=u+v) (Q:=λ(r:R7) t=>(B t/\arrOf t=arrOf t'/\pendingOf t=pendingOf t')/\((∃out rr,r=(some out,rr)/\Md kf x y out)\/∃z u v g c d,r=(none,z,u,v,g,c,d)/\(MI kf x y z u v/\u+1<x.size/\v<y.size)/\u'+v'+1<=u+v)) (λn r t _ nn hI=>?_) (λr t hI=>?_) ⟨⟨hB,rfl,rfl⟩,z',u',v',g+1,c,d,rfl,⟨m',hu',hv'⟩,⋯⟩) λr t hI=>?_)⟩))
 .obtain⟨⟨d1,d2,d3⟩,z,u,v,g,c,d,rfl,⟨m,hu,hv⟩,hn⟩:=hI;dsimp only
  split<;>exact Zsw sx sy hl m hu hv C gx gy (N:=u+v+1) ⟨λout r md=>⟨⟨C.gal t _ d1,d2,d3⟩,.inl ⟨out,r,rfl,md⟩⟩,λz' u' v' g c d m h1 h2 h3=>⟨⟨⟨C.gal t _ d1,d2,d3⟩,.inr ⟨_,_,_,_,_,_,rfl,⟨m,h1,h2⟩,⋯⟩⟩,⟨C.gal t _ d1,d2,d3⟩,_,_,_,_,_,_,rfl,⟨m,h1,h2⟩,⋯⟩⟩ (C.gal t _ d1) (aj _)
 .obtain⟨hs,z,u,v,g,c,d,rfl,iv,hn⟩:=hI;exact⟨hs,.inr ⟨z,u,v,g,c,d,rfl,iv,⋯⟩⟩
 obtain⟨⟨d1,d2,d3⟩,hI⟩:=hI;rcases hI with⟨out,rr,rfl,md⟩|⟨z,u,v,g,c,d,rfl,⟨m,h1,h2⟩,hn2⟩
 .exact aA (q1 _ _ _ d1 d2 d3 md)
 .dsimp only;rw[Zbo];exact au (gu (aA (q2 _ _ _ _ _ (C.gal t _ d1) d2 d3 m h1 h2 ⋯)))
theorem ZvK(C:Cp (ao prog w) A E s kf G B)(hB:B st)(gx:Gs G x)(gy:Gs G y)(sx:Up kf x x.size)(sy:Up kf y y.size)(x1:1<=x.size)(y1:1<=y.size)(h0:le (ky kf y 0) (ky kf x 0))(hl:∀i,i<y.size->le (ky kf y i) (ky kf x (x.size-1)))(h:∀out t,B t->arrOf t=arrOf st->pendingOf t=pendingOf st->Md kf x y out->Q out t):wpS (ao prog w) A E s (ZdP x y) Q st:=by
 rw[Zsv];refine au (j9 (wpAny_rule ⟨rfl,au (Z3 (getElem?_pos y 0 y1) ?_)⟩));have m0:MI kf x y #[y[0]] 0 1:=by
  have e:MI kf x y #[] 0 0:=⟨by simp,λi j ij hj=>by simp at hj,λ_ _ _ j hj=>by simp at hj,λ_ _ _ j hj=>by simp at hj,⋯,⋯⟩
  exact e.pushY sx sy y1 λ_=>h0
 by_cases c1:1=y.size
 .rw[if_pos (by simpa using c1)]
  exact aA (h _ st hB rfl rfl (m0.fin sx sy (.inr c1)))
 rw[if_neg (by simpa using c1)]
 by_cases c2:0+1=x.size
 .rw[if_pos (by simpa using c2)]
  exact aA (h _ st hB rfl rfl (m0.tail sx sy c2 hl))
 rw[if_neg (by simpa using c2)]
 refine au (i8 (au (fB (cw (λn r t=>(B t/\arrOf t=arrOf st/\pendingOf t=pendingOf st)/\∃z u v g,r=(none,z,u,v,g)/\(MI kf x y z u v/\u+1<x.size/\v<y.size)/\n+1<=u+v) (Q:=λ(r:R5) t=>(B t/\arrOf t=arrOf st/\pendingOf t=pendingOf st)/\∃out rr,r=(some out,rr)/\Md kf x y out) (λn r t _ nn hI=>?_) (λr t hI=>?_) ⟨⟨hB,rfl,rfl⟩,_,_,_,_,rfl,⟨m0,⋯,⋯⟩,⋯⟩) λr t hI=>?_)))
 .obtain⟨⟨b1,b2,b3⟩,z,u,v,g,rfl,⟨m,hu,hv⟩,hn⟩:=hI;dsimp only;exact Zsy C b1 gx gy sx sy hl m hu hv (λout r t d1 d2 d3 md=>⟨⟨d1,d2.trans b2,d3.trans b3⟩,out,r,rfl,md⟩) λz' u' v' g t d1 d2 d3 m h1 h2 h3=>⟨⟨d1,d2.trans b2,d3.trans b3⟩,_,_,_,_,rfl,⟨m,h1,h2⟩,⋯⟩
 .obtain⟨_,z,u,v,g,rfl,⟨m,hu,hv⟩,hn⟩:=hI;lia
 .obtain⟨⟨b1,b2,b3⟩,out,rr,rfl,md⟩:=hI;exact aA (h out t b1 b2 b3 md)
end
section
variable {kf:aJ->List Int}{x y z:Array aJ}{u v:Nat}
structure MH(kf:aJ->List Int) (x y z:Array aJ) (u v:Nat):Prop where
 p:z.toList.Perm (x.toList.drop u++y.toList.drop v)
 s:Dn kf z z.size
 a:∀i,i<u->∀j,j<z.size->le (ky kf x i) (ky kf z j)
 b:∀i,i<v->∀j,j<z.size->le (ky kf y i) (ky kf z j)
 lu:u<=x.size
 lv:v<=y.size
theorem MH.sym(h:MH kf x y z u v):MH kf y x z v u:=⟨h.p.trans eE,h.s,h.b,h.a,h.lv,h.lu⟩
theorem Dn.push{z:Array aJ}(h:Dn kf z z.size)(hp:∀j,j<z.size->le (kf p) (ky kf z j)):Dn kf (z.push p) (z.push p).size:=by
 intro i j ij hj;rw[dK]at hj;rw[Zbf,Zbf];by_cases c:j=z.size
 .rw[if_pos c];by_cases d:i=z.size
  .rw[if_pos d];exact Zcv _
  .rw[if_neg d];exact hp i ⋯
 .rw[if_neg c,if_neg ⋯]
  exact h i j ij ⋯
theorem MH.pushX(h:MH kf x y z (u+1) v)(sx:Up kf x x.size)(sy:Up kf y y.size)(hy:0<v->le (ky kf y (v-1)) (ky kf x u)):MH kf x y (z.push (x[u]'(h.lu))) u v:=by
 have hu:u<x.size:=h.lu;have lv:=h.lv;refine⟨?_,h.s.push λj hj=>by rw[<-ZQ (kf:=kf) hu];exact h.a u ⋯ j hj,λi hi j hj=>?_,λi hi j hj=>?_,⋯,h.lv⟩
 .rw[fY,cN (i:=u) (by simpa using hu)]
  refine(h.p.append_right _).trans ?_;show(x.toList.drop (u+1)++y.toList.drop v++[x[u]]).Perm (x[u]::x.toList.drop (u+1)++y.toList.drop v);exact eE
 .rw[dK]at hj;rw[Zbf];by_cases c:j=z.size
  .rw[if_pos c,<-ZQ (kf:=kf) hu];exact sx i u ⋯ hu
  .rw[if_neg c];exact h.a i ⋯ j ⋯
 .rw[dK]at hj;rw[Zbf];by_cases c:j=z.size
  .rw[if_pos c,<-ZQ (kf:=kf) hu];exact Zcw (sy i (v-1) ⋯ ⋯) (hy ⋯)
  .rw[if_neg c];exact h.b i hi j ⋯
theorem MH.pushY(h:MH kf x y z u (v+1))(sx:Up kf x x.size)(sy:Up kf y y.size)(hx:0<u->le (ky kf x (u-1)) (ky kf y v)):MH kf x y (z.push (y[v]'(h.lv))) u v:=(h.sym.pushX sy sx hx).sym
theorem Zm3{x:Array aJ}(h:r+k<x.size):(x.extract r (r+(k+1))).reverse= #[x[r+k]]++(x.extract r (r+k)).reverse:=by
 rw[Zga h];apply fC.mp;rw[gz,fY,List.reverse_append,cB,gz];rfl
theorem MH.chunkX(sx:Up kf x x.size)(sy:Up kf y y.size):∀(k r:Nat)(z:Array aJ),MH kf x y z (r+k) v->(∀i,r<=i->i<r+k->0<v->le (ky kf y (v-1)) (ky kf x i))->MH kf x y (z++(x.extract r (r+k)).reverse) r v
 |0,r,z,h,_=>by
  have:(x.extract r (r+0)).reverse= #[]:=by
   apply fC.mp;rw[gz,dG,cQ];simp
  rw[this,Array.append_empty];exact h
 |k+1,r,z,h,hc=>by
  have lu:=h.lu;have m1:=MH.pushX (u:=r+k) h sx sy λhv=>hc (r+k) ⋯ ⋯ hv
  have ih:=MH.chunkX sx sy k r _ m1 λi a b=>hc i a ⋯
  rw[Zm3 ⋯,<-jj]
  exact ih
theorem MH.cX(sx:Up kf x x.size)(sy:Up kf y y.size)(h:MH kf x y z u v)(hr:r<=u)(hc:∀i,r<=i->i<u->0<v->le (ky kf y (v-1)) (ky kf x i)):MH kf x y (z++(x.extract r u).reverse) r v:=by
 have:=MH.chunkX sx sy (u-r) r z (by rw[show r+(u-r)=u by lia];exact h) λi a b=>hc i a ⋯
 rw[show r+(u-r)=u by lia]at this
 exact this
theorem MH.cY(sx:Up kf x x.size)(sy:Up kf y y.size)(h:MH kf x y z u v)(hr:r<=v)(hc:∀i,r<=i->i<v->0<u->le (ky kf x (u-1)) (ky kf y i)):MH kf x y (z++(y.extract r v).reverse) u r:=(MH.cX sy sx h.sym hr hc).sym
theorem MH.md(h:MH kf x y z 0 0):Md kf x y z.reverse:=by
 refine⟨bV.mpr ?_,λi j ij hj=>?_⟩
 .have:=h.p
  rw[lZ,lZ]at this;rw[cB,gz];exact(List.reverse_perm _).trans this
 .have k:∀i,i<z.size->ky kf z.reverse i=ky kf z (z.size-1-i):=λi hi=>by
   unfold ky;rw[Array.getElem?_reverse hi]
  rw[Array.size_reverse]at hj;rw[k i ⋯,k j hj]
  exact h.s _ _ ⋯ ⋯
theorem MH.fin(sx:Up kf x x.size)(sy:Up kf y y.size)(h:MH kf x y z u v)(he:u=0\/v=0):Md kf x y (x.extract 0 u++y.extract 0 v++z.reverse):=by
 have h1:=h.cY sx sy (cH v) λi a b c=>⋯
 have h2:=(h1.cX sx sy (cH u) λi a b c=>⋯).md
 simpa using h2
theorem MH.tail(sx:Up kf x x.size)(sy:Up kf y y.size)(h:MH kf x y z u v)(he:v=1)(hl:∀i,i<x.size->le (ky kf y 0) (ky kf x i)):Md kf x y (y.extract 0 v++x.extract 0 u++z.reverse):=by
 have lu:=h.lu;have h1:=h.cX sx sy (cH u) λi a b c=>by
  subst he;exact hl i ⋯
 have h2:=(h1.cY sx sy (cH v) λi a b c=>⋯).md
 simpa using h2
end
noncomputable abbrev H7:=Option (Array aJ)×Nat×Nat×Array aJ×Nat×Nat×Nat
noncomputable abbrev H6:=Option (Array aJ)×Nat×Nat×Array aJ×Nat×Nat
noncomputable abbrev H5:=Option (Array aJ)×Nat×Nat×Array aJ×Nat
section
variable (x y:Array aJ)
noncomputable abbrev fh(z:Array aJ)(u v:Nat):=x.extract 0 u++y.extract 0 v++z.reverse
noncomputable abbrev th(z:Array aJ)(u v:Nat):=y.extract 0 v++x.extract 0 u++z.reverse
def hi3(z:Array aJ)(u v g c d:Nat):SM (ForInStep H7):=do
 let e <-elem' x (u-1)
 if u-1==0 then pure (.done (some (fh x y (z.push e) (u-1) v),u-1,v,z.push e,g,c,d))
 else if decide (c<7)&&decide (d<7)then pure (.done (none,u-1,v,z.push e,g,c,d))else pure (.yield (none,u-1,v,z.push e,g,c,d))
def hi2(z:Array aJ)(u v g c d:Nat):SM (ForInStep H7):=do
 let e <-elem' y (v-1)
 if v-1==1 then pure (.done (some (th x y (z.push e) u (v-1)),u,v-1,z.push e,g,c,d))
 else do
  let e2 <-elem' x (u-1)
  match <-ZaU true e2 y 0 (v-1) (v-1-1)with
  |some r=>
   if v-1-r>0 then
    if r==1 then pure (.done (some (th x y (z.push e++(y.extract r (v-1)).reverse) u r),u,r,z.push e++(y.extract r (v-1)).reverse,g,c,v-1-r))
    else if r==0 then pure (.done (some (fh x y (z.push e++(y.extract r (v-1)).reverse) u r),u,r,z.push e++(y.extract r (v-1)).reverse,g,c,v-1-r))
    else hi3 x y (z.push e++(y.extract r (v-1)).reverse) u r g c (v-1-r)
   else hi3 x y (z.push e) u (v-1) g c (v-1-r)
  |_=>pure (.done (some (fh x y (z.push e) u (v-1)),u,v-1,z.push e,g,c,d))
def hi1(z:Array aJ)(u v g c d:Nat):SM (ForInStep H7):=do
 ZcY g
 let e <-elem' y (v-1)
 match <-ZaU false e x 0 u (u-1)with
 |some r=>
  if u-r>0 then
   if r==0 then pure (.done (some (fh x y (z++(x.extract r u).reverse) r v),r,v,z++(x.extract r u).reverse,g,u-r,d))
   else hi2 x y (z++(x.extract r u).reverse) r v g (u-r) d
  else hi2 x y z u v g (u-r) d
 |_=>pure (.done (some (fh x y z u v),u,v,z,g,c,d))
def hi0(g:Nat)(z:Array aJ)(u v c d:Nat):SM (ForInStep H6):=do
 let a <-elem' y (v-1)
 let b <-elem' x (u-1)
 match <-lt' a b with
 |some w=>
  if w then do
   let e <-elem' x (u-1)
   if u-1==0 then pure (.done (some (fh x y (z.push e) (u-1) v),u-1,v,z.push e,c+1,0))
   else if c+1 ≥ g then pure (.done (none,u-1,v,z.push e,c+1,0))else pure (.yield (none,u-1,v,z.push e,c+1,0))
  else do
   let e <-elem' y (v-1)
   if v-1==1 then pure (.done (some (th x y (z.push e) u (v-1)),u,v-1,z.push e,0,d+1))
   else if d+1 ≥ g then pure (.done (none,u,v-1,z.push e,0,d+1))else pure (.yield (none,u,v-1,z.push e,0,d+1))
 |_=>pure (.done (some (fh x y z u v),u,v,z,c,d))
def hiA(z:Array aJ)(u v g:Nat):SM (ForInStep H5):=do
 let s <-forIn [0:x.size+y.size] ((none,u,v,z,0,0):H6) λ_ s=>hi0 x y g s.2.2.2.1 s.2.1 s.2.2.1 s.2.2.2.2.1 s.2.2.2.2.2
 match s.1 with
 |some r=>pure (.done (some r,s.2.1,s.2.2.1,s.2.2.2.1,g))
 |none=>do
  liftM (PySem.rule "list.sort.gallop")
  let t <-forIn [0:x.size+y.size] ((none,s.2.1,s.2.2.1,s.2.2.2.1,g+1,s.2.2.2.2.1,s.2.2.2.2.2):H7) λ_ s=>
   if s.2.2.2.2.1>1 then hi1 x y s.2.2.2.1 s.2.1 s.2.2.1 (s.2.2.2.2.1-1) s.2.2.2.2.2.1 s.2.2.2.2.2.2 else hi1 x y s.2.2.2.1 s.2.1 s.2.2.1 s.2.2.2.2.1 s.2.2.2.2.2.1 s.2.2.2.2.2.2
  match t.1 with
  |some r=>pure (.done (some r,t.2.1,t.2.2.1,t.2.2.2.1,t.2.2.2.2.1))
  |none=>do
   ZcY (t.2.2.2.2.1+1)
   pure (.yield (none,t.2.1,t.2.2.1,t.2.2.2.1,t.2.2.2.2.1+1))
theorem Zsz:ZdQ x y=(do
  liftM (PySem.rule "list.sort.merge-hi")
  let e <-elem' x (x.size-1)
  if x.size-1==0 then pure (fh x y #[e] (x.size-1) y.size)
  else if y.size==1 then pure (th x y #[e] (x.size-1) y.size)
  else do
   let st <-get
   let s <-forIn [0:x.size+y.size] ((none,x.size-1,y.size,#[e],gallopOf st):H5) λ_ s=>hiA x y s.2.2.2.1 s.2.1 s.2.2.1 s.2.2.2.2
   match s.1 with
   |some r=>pure r
   |none=>liftM (nM "internal:list.sort.merge-bound":Sem _)):=by kernel_rfl
end
section
variable {prog:cE}{w:c6}{A:cV}{E:Vp}{s:aC}{kf:aJ->List Int}{G:aJ->Prop}{B:cx->Prop}{st:cx}{x y z:Array aJ}{u v g c d:Nat}
theorem MH.pX(h:MH kf x y z u v)(hu:0<u)(sx:Up kf x x.size)(sy:Up kf y y.size)(hy:0<v->le (ky kf y (v-1)) (ky kf x (u-1))):MH kf x y (z.push (x[u-1]'(by have:=h.lu;lia))) (u-1) v:=by
 obtain⟨k,rfl⟩:∃k,u=k+1:=⟨u-1,⋯⟩
 exact h.pushX sx sy hy
theorem MH.pY(h:MH kf x y z u v)(hv:0<v)(sx:Up kf x x.size)(sy:Up kf y y.size)(hx:0<u->le (ky kf x (u-1)) (ky kf y (v-1))):MH kf x y (z.push (y[v-1]'(by have:=h.lv;lia))) u (v-1):=by
 obtain⟨k,rfl⟩:∃k,v=k+1:=⟨v-1,⋯⟩
 exact h.pushY sx sy hx
def Eh(R:ForInStep H7->cx->Prop)(st:cx)(kf:aJ->List Int)(x y:Array aJ)(N:Nat):Prop:=
 (∀out r,Md kf x y out->R (.done (some out,r)) st)/\∀z u v g c d,MH kf x y z u v->0<u->1<v->u+v<=N->R (.done (none,u,v,z,g,c,d)) st/\R (.yield (none,u,v,z,g,c,d)) st
section
variable {R:ForInStep H7->cx->Prop}{N:Nat}(q:Eh R st kf x y N)(sx:Up kf x x.size)(sy:Up kf y y.size)(hl:∀i,i<x.size->le (ky kf y 0) (ky kf x i))(hI:MH kf x y z u v)(hu:0<u)(hv:1<v)
include q sx sy hI hu hv
theorem ZpC(hle:le (ky kf y (v-1)) (ky kf x (u-1)))(hN:u+v<=N+1):wpS (ao prog w) A E s (hi3 x y z u v g c d) R st:=by
 have hu':u-1<x.size:=by have:=hI.lu;lia
 unfold hi3;refine au (Z3 (getElem?_pos x (u-1) hu') ?_);have m1:=hI.pX hu sx sy λ_=>hle;by_cases c1:u-1=0
 .rw[if_pos (by simpa using c1)]
  exact aA (q.1 _ _ (m1.fin sx sy (.inl c1)))
 .rw[if_neg (by simpa using c1)]
  have q:=q.2 _ _ _ g c d m1 ⋯ hv ⋯
  split
  .exact aA q.1
  .exact aA q.2
variable (C:Cp (ao prog w) A E s kf G B)(hB:B st)(gx:Gs G x)(gy:Gs G y)
include C hB gx gy hl
theorem ZpD(hle:le (ky kf x (u-1)) (ky kf y (v-1)))(hN:u+v<=N+2):wpS (ao prog w) A E s (hi2 x y z u v g c d) R st:=by
 have hu':u-1<x.size:=by have:=hI.lu;lia
 have hv':v-1<y.size:=by have:=hI.lv;lia
 unfold hi2;refine au (Z3 (getElem?_pos y (v-1) hv') ?_);have m1:=hI.pY ⋯ sx sy λ_=>hle
 by_cases c1:v-1=1
 .rw[if_pos (by simpa using c1)]
  exact aA (q.1 _ _ (m1.tail sx sy c1 hl))
 rw[if_neg (by simpa using c1)]
 refine au (Z3 (getElem?_pos x (u-1) hu') (au (Zbp C hB (gx (u-1) _ (getElem?_pos x (u-1) hu')) gy ⋯ ⋯ (λi j ij jn=>sy _ _ ⋯ ⋯) λr kn a1 a2=>?_)))
 have g2:0<r->le (ky kf y (r-1)) (ky kf x (u-1)):=λhk=>by
  have q:=a1 (r-1) ⋯
  unfold frk at q;rw[if_pos rfl,<-ZQ (kf:=kf) hu',eQ]at q;exact Zb2 q
 dsimp only;by_cases ck:v-1-r>0
 .rw[if_pos ck];have m4:=m1.cY sx sy (r:=r) ⋯ λi hi hn _=>by
   have q:=a2 i hi hn;unfold frk at q;rw[if_pos rfl,<-ZQ (kf:=kf) hu',eQ]at q;exact q
  by_cases e3:r=1
  .rw[if_pos (by simpa using e3)]
   exact aA (q.1 _ _ (m4.tail sx sy e3 hl))
  rw[if_neg (by simpa using e3)]
  by_cases e4:r=0
  .rw[if_pos (by simpa using e4)]
   exact aA (q.1 _ _ (m4.fin sx sy (.inr e4)))
  rw[if_neg (by simpa using e4)]
  exact ZpC q sx sy m4 hu ⋯ (g2 ⋯) ⋯
 .rw[if_neg ck];obtain rfl:r=v-1:=⋯
  exact ZpC q sx sy m1 hu ⋯ (g2 ⋯) ⋯
omit q hB in
theorem ZsA(q:Eh R (Zdy st g) kf x y N)(hB:B (Zdy st g))(hN:u+v<=N+1):wpS (ao prog w) A E s (hi1 x y z u v g c d) R st:=by
 have hv1:v-1<y.size:=by have:=hI.lv;lia
 have lu:=hI.lu;unfold hi1;rw[Zbo];refine au (gu (au (Z3 (getElem?_pos y (v-1) hv1) (au (Zbp C hB (gy (v-1) _ (getElem?_pos y (v-1) hv1)) gx ⋯ ⋯ (λi j ij jn=>sx _ _ ⋯ ⋯) λr kn a1 a2=>?_)))))
 have f1:0<r->le (ky kf x (r-1)) (ky kf y (v-1)):=λhi=>by
  have q:=a1 (r-1) ⋯
  unfold frk at q;rw[if_neg (by simp),fW,<-ZQ (kf:=kf) hv1,eQ]at q
  exact q
 dsimp only;by_cases ck:u-r>0
 .rw[if_pos ck];have mk:=hI.cX sx sy (r:=r) ⋯ λi hi hn _=>by
   have q:=a2 i hi ⋯
   unfold frk at q;rw[if_neg (by simp),jw,<-ZQ (kf:=kf) hv1,eQ]at q
   exact Zb2 q
  by_cases e1:r=0
  .rw[if_pos (by simpa using e1)]
   exact aA (q.1 _ _ (mk.fin sx sy (.inl e1)))
  rw[if_neg (by simpa using e1)]
  exact ZpD q sx sy hl mk ⋯ hv C hB gx gy (f1 ⋯) ⋯
 .rw[if_neg ck];obtain rfl:r=u:=⋯
  exact ZpD q sx sy hl hI hu hv C hB gx gy (f1 hu) ⋯
end
theorem ZsB(C:Cp (ao prog w) A E s kf G B)(hB:B st)(gx:Gs G x)(gy:Gs G y)(sx:Up kf x x.size)(sy:Up kf y y.size)(hl:∀i,i<x.size->le (ky kf y 0) (ky kf x i))(hI:MH kf x y z u v)(hu:0<u)(hv:1<v)(q1:∀out r,Md kf x y out->R (.done (some out,r)) st)(q2:∀z' u' v' c d,MH kf x y z' u' v'->0<u'->1<v'->u'+v'<=u+v->R (.done (none,u',v',z',c,d)) st/\R (.yield (none,u',v',z',c,d)) st):wpS (ao prog w) A E s (hi0 x y g z u v c d) R st:=by
 have hu2:u-1<x.size:=by have:=hI.lu;lia
 have hv2:v-1<y.size:=by have:=hI.lv;lia
 have ex:=getElem?_pos x (u-1) hu2;have ey:=getElem?_pos y (v-1) hv2;unfold hi0;refine au (Z3 ey (au (Z3 ex (au (C.cmp st _ _ _ hB (gy _ _ ey) (gx _ _ ex) ?_)))));rw[<-ZQ (kf:=kf) hu2,<-ZQ (kf:=kf) hv2];dsimp only;cases wn:lt (ky kf y (v-1)) (ky kf x (u-1))with
 |true=>
  rw[if_pos rfl];refine au (Z3 ex ?_);have m1:=hI.pX hu sx sy λ_=>Zb2 wn;by_cases c3:u-1=0
  .rw[if_pos (by simpa using c3)]
   exact aA (q1 _ _ (m1.fin sx sy (.inl c3)))
  .rw[if_neg (by simpa using c3)]
   have q:=q2 _ _ _ (c+1) 0 m1 ⋯ hv ⋯
   split
   .exact aA q.1
   .exact aA q.2
 |false=>
  rw[if_neg (by simp)]
  refine au (Z3 ey ?_);have m1:=hI.pY ⋯ sx sy λ_=>wn
  by_cases c3:v-1=1
  .rw[if_pos (by simpa using c3)]
   exact aA (q1 _ _ (m1.tail sx sy c3 hl))
  .rw[if_neg (by simpa using c3)]
   have q:=q2 _ _ _ 0 (d+1) m1 hu ⋯ ⋯
   split
   .exact aA q.1
   .exact aA q.2
theorem ZsC(C:Cp (ao prog w) A E s kf G B)(hB:B st)(gx:Gs G x)(gy:Gs G y)(sx:Up kf x x.size)(sy:Up kf y y.size)(hl:∀i,i<x.size->le (ky kf y 0) (ky kf x i))(hI:MH kf x y z u v)(hu:0<u)(hv:1<v)(q1:∀out r t,B t->arrOf t=arrOf st->pendingOf t=pendingOf st->Md kf x y out->R (.done (some out,r)) t)(q2:∀z' u' v' g t,B t->arrOf t=arrOf st->pendingOf t=pendingOf st->MH kf x y z' u' v'->0<u'->1<v'->u'+v'<u+v->R (.yield (none,u',v',z',g)) t):wpS (ao prog w) A E s (hiA x y z u v g) R st:=by
 unfold hiA;have lu:=hI.lu;have lv:=hI.lv;refine au (fB (cw (λn r t'=>t'=st/\∃z' u' v' c d,r=(none,u',v',z',c,d)/\(MH kf x y z' u' v'/\0<u'/\1<v')/\u'+v'<=u+v) (Q:=λ(r:H6) t'=>t'=st/\((∃out rr,r=(some out,rr)/\Md kf x y out)\/∃z' u' v' c d,r=(none,u',v',z',c,d)/\(MH kf x y z' u' v'/\0<u'/\1<v')/\u'+v'<=u+v)) (λn r t' _ nn hI=>?_) (λr t' hI=>⟨hI.1,.inr hI.2⟩) ⟨rfl,z,u,v,0,0,rfl,⟨hI,hu,hv⟩,aj _⟩) λr t' hI=>?_)
 .obtain⟨rfl,z',u',v',c,d,rfl,⟨m',hu',hv'⟩,hn'⟩:=hI;dsimp only;exact ZsB C hB gx gy sx sy hl m' hu' hv' (λout r md=>⟨rfl,.inl ⟨out,r,rfl,md⟩⟩) λz' u' v' c d m h1 h2 h3=>⟨⟨rfl,.inr ⟨_,_,_,_,_,rfl,⟨m,h1,h2⟩,⋯⟩⟩,rfl,_,_,_,_,_,rfl,⟨m,h1,h2⟩,⋯⟩
 obtain⟨rfl,hI⟩:=hI;rcases hI with⟨out,rr,rfl,md⟩|⟨z',u',v',c,d,rfl,⟨m',hu',hv'⟩,hn'⟩
 .exact aA (q1 _ _ _ hB rfl rfl md)
 refine au (j9 (wpAny_rule ⟨rfl,au (fB (cw (λn r t=>(B t/\arrOf t=arrOf t'/\pendingOf t=pendingOf t')/\∃z u v g c d,r=(none,u,v,z,g,c,d)/\(MH kf x y z u v/\0<u/\1<v)/\u+v+n<=u'+v') (Q:=λ(r:H7) t=>(B t/\arrOf t=arrOf t'/\pendingOf t=pendingOf t')/\((∃out rr,r=(some out,rr)/\Md kf x y out)\/∃z u v g c d,r=(none,u,v,z,g,c,d)/\(MH kf x y z u v/\0<u/\1<v)/\u+v+1<=u'+v')) (λn r t _ nn hI=>?_) (λr t hI=>?_) ⟨⟨hB,rfl,rfl⟩,z',u',v',g+1,c,d,rfl,⟨m',hu',hv'⟩,⋯⟩) λr t hI=>?_)⟩))
 .obtain⟨⟨d1,d2,d3⟩,z,u,v,g,c,d,rfl,⟨m,hu,hv⟩,hn⟩:=hI;dsimp only
  split<;>exact ZsA sx sy hl m hu hv C gx gy (N:=u+v-1) ⟨λout r md=>⟨⟨C.gal t _ d1,d2,d3⟩,.inl ⟨out,r,rfl,md⟩⟩,λz' u' v' g c d m h1 h2 h3=>⟨⟨⟨C.gal t _ d1,d2,d3⟩,.inr ⟨_,_,_,_,_,_,rfl,⟨m,h1,h2⟩,⋯⟩⟩,⟨C.gal t _ d1,d2,d3⟩,_,_,_,_,_,_,rfl,⟨m,h1,h2⟩,⋯⟩⟩ (C.gal t _ d1) ⋯
 .obtain⟨hs,z,u,v,g,c,d,rfl,iv,hn⟩:=hI;exact⟨hs,.inr ⟨z,u,v,g,c,d,rfl,iv,⋯⟩⟩
 obtain⟨⟨d1,d2,d3⟩,hI⟩:=hI;rcases hI with⟨out,rr,rfl,md⟩|⟨z,u,v,g,c,d,rfl,⟨m,h1,h2⟩,hn2⟩
 .exact aA (q1 _ _ _ d1 d2 d3 md)
 .dsimp only;rw[Zbo];exact au (gu (aA (q2 _ _ _ _ _ (C.gal t _ d1) d2 d3 m h1 h2 ⋯)))
theorem ZvL(C:Cp (ao prog w) A E s kf G B)(hB:B st)(gx:Gs G x)(gy:Gs G y)(sx:Up kf x x.size)(sy:Up kf y y.size)(x1:1<=x.size)(y1:1<=y.size)(h0:∀i,i<y.size->le (ky kf y i) (ky kf x (x.size-1)))(hl:∀i,i<x.size->le (ky kf y 0) (ky kf x i))(h:∀out t,B t->arrOf t=arrOf st->pendingOf t=pendingOf st->Md kf x y out->Q out t):wpS (ao prog w) A E s (ZdQ x y) Q st:=by
 rw[Zsz];have x1':x.size-1<x.size:=⋯
 refine au (j9 (wpAny_rule ⟨rfl,au (Z3 (getElem?_pos x (x.size-1) x1') ?_)⟩));have m0:MH kf x y #[x[x.size-1]] (x.size-1) y.size:=by
  have e:MH kf x y #[] x.size y.size:=⟨by simp,λi j ij hj=>by simp at hj,λ_ _ j hj=>by simp at hj,λ_ _ j hj=>by simp at hj,aj _,aj _⟩
  exact e.pX ⋯ sx sy λ_=>h0 _ ⋯
 by_cases c1:x.size-1=0
 .rw[if_pos (by simpa using c1)]
  exact aA (h _ st hB rfl rfl (m0.fin sx sy (.inl c1)))
 rw[if_neg (by simpa using c1)]
 by_cases c2:y.size=1
 .rw[if_pos (by simpa using c2)]
  exact aA (h _ st hB rfl rfl (m0.tail sx sy c2 hl))
 rw[if_neg (by simpa using c2)]
 refine au (i8 (au (fB (cw (λn r t=>(B t/\arrOf t=arrOf st/\pendingOf t=pendingOf st)/\∃z u v g,r=(none,u,v,z,g)/\(MH kf x y z u v/\0<u/\1<v)/\u+v+n+1<=x.size+y.size) (Q:=λ(r:H5) t=>(B t/\arrOf t=arrOf st/\pendingOf t=pendingOf st)/\∃out rr,r=(some out,rr)/\Md kf x y out) (λn r t _ nn hI=>?_) (λr t hI=>?_) ⟨⟨hB,rfl,rfl⟩,#[x[x.size-1]],x.size-1,y.size,_,rfl,⟨m0,⋯,⋯⟩,⋯⟩) λr t hI=>?_)))
 .obtain⟨⟨b1,b2,b3⟩,z,u,v,g,rfl,⟨m,hu,hv⟩,hn⟩:=hI;dsimp only;exact ZsC C b1 gx gy sx sy hl m hu hv (λout r t d1 d2 d3 md=>⟨⟨d1,d2.trans b2,d3.trans b3⟩,out,r,rfl,md⟩) λz' u' v' g t d1 d2 d3 m h1 h2 h3=>⟨⟨d1,d2.trans b2,d3.trans b3⟩,_,_,_,_,rfl,⟨m,h1,h2⟩,⋯⟩
 .obtain⟨_,z,u,v,g,rfl,⟨m,hu,hv⟩,hn⟩:=hI;lia
 .obtain⟨⟨b1,b2,b3⟩,out,rr,rfl,md⟩:=hI;exact aA (h out t b1 b2 b3 md)
end
def ZpE(lo a n:Nat):SM AscSt:=forIn [a:n] ((none,a):AscSt) λ_ r=>do
 let y <-ltAt' (lo+r.2) (lo+r.2-1)
 match y with
 |some b=>if b=true then pure (.done (none,r.2))else pure (.yield (none,r.2+1))
 |_=>pure (.done (some none,r.2))
def Zkt(lo m n:Nat):SM (Option Nat):=do
 jY lo (lo+m)
 let r <-ZpE lo m n
 match r.1 with
 |some q=>pure q
 |none=>pure (some r.2)
def Zku(lo m n:Nat):SM DescSt:=forIn [m:n] ((none,m,0):DescSt) λ_ r=>do
 let y <-ltAt' (lo+r.2.1) (lo+r.2.1-1)
 match y with
 |some b=>
  if b=true then
   if r.2.2>0 then do
    jY (lo+r.2.1-(r.2.2+1)) (lo+r.2.1)
    pure (.yield (none,r.2.1+1,0))
   else pure (.yield (none,r.2.1+1,0))
  else do
   let y <-ltAt' (lo+r.2.1-1) (lo+r.2.1)
   match y with
   |some b=>if b=true then pure (.done (none,r.2.1,r.2.2))else pure (.yield (none,r.2.1+1,r.2.2+1))
   |_=>pure (.done (some none,r.2.1,r.2.2))
 |_=>pure (.done (some none,r.2.1,r.2.2))
def Zkv(lo m n:Nat):SM (Option Nat):=do
 liftM (rule "list.sort.descending-run")
 let r <-Zku lo (m+1) n
 match r.1 with
 |some q=>pure q
 |none=>
  if r.2.2>0 then do
   jY (lo+r.2.1-(r.2.2+1)) (lo+r.2.1)
   Zkt lo r.2.1 n
  else Zkt lo r.2.1 n
theorem Zm4(lo n:Nat):countRun' lo n=(do
  let r <-ZpE lo 1 n
  match r.1 with
  |some q=>pure q
  |none=>
   if(r.2==n)=true then pure (some r.2)
   else if r.2>1 then do
    let y <-ltAt' lo (lo+r.2-1)
    match y with
    |some b=>if b=true then pure (some r.2)else do
      jY lo (lo+r.2)
      Zkv lo r.2 n
    |_=>pure none
   else Zkv lo r.2 n):=by
 rw[countRun'_eq];unfold Zkv Zkt Zku ZpE;dsimp only;congr 1;funext r;obtain⟨r,m⟩:=r;cases r with
 |some r=>rfl
 |none=>
  dsimp only;split
  .rfl
  .split
   .congr 1;funext y;cases y with
    |none=>rfl
    |some b=>
     dsimp only;split
     .rfl
     .congr 1;funext _;congr 1;funext _;congr 1;funext q;obtain⟨q,a,c⟩:=q;cases q with
      |some q=>rfl
      |none=>
       dsimp only;split
       .congr 1;funext _;congr 1;funext _;congr 1;funext z;obtain⟨z,k⟩:=z;cases z<;>rfl
       .congr 1;funext _;congr 1;funext z;obtain⟨z,k⟩:=z;cases z<;>rfl
   .congr 1;funext _;congr 1;funext q;obtain⟨q,a,c⟩:=q;cases q with
    |some q=>rfl
    |none=>
     dsimp only;split
     .congr 1;funext _;congr 1;funext _;congr 1;funext z;obtain⟨z,k⟩:=z;cases z<;>rfl
     .congr 1;funext _;congr 1;funext z;obtain⟨z,k⟩:=z;cases z<;>rfl
variable {kf:aJ->List Int}
def UpL(kf:aJ->List Int)(lo:Nat)(xs:Array aJ)(n:Nat):Prop:=∀i j,i<=j->j<n->le (ky kf xs (lo+i)) (ky kf xs (lo+j))
def DnL(kf:aJ->List Int)(lo:Nat)(xs:Array aJ)(n:Nat):Prop:=∀i j,i<=j->j<n->le (ky kf xs (lo+j)) (ky kf xs (lo+i))
structure Cl(M:Model) (A:cV) (E:Vp) (s:aC) (kf:aJ->List Int) (B:cx->Prop) (lo N:Nat):Prop where
 sz:∀st,B st->(arrOf st).size=N
 put:∀st xs,B st->xs.Perm (arrOf st)->(∀k,k<lo->xs[k]?=(arrOf st)[k]?)->B (mZ st xs)
 cmp:∀st i j (Q:Option Bool->cx->Prop),B st->i<N->j<N->Q (some (lt (ky kf (arrOf st) i) (ky kf (arrOf st) j))) st->wpS M A E s (ltAt' i j) Q st
section
variable {A:cV}{s:aC}{B:cx->Prop}{lo:Nat}
theorem Cl.mir(C:Cl M A E s kf B lo N){st:cx}(hB:B st)(hi:lo<=i)(hj:j<=N):B (mZ st (jX (arrOf st) i j ((j-i)/2))):=
 C.put st _ hB (mirror_perm ..) λk hk=>by
  rw[mK (by rw[C.sz st hB];exact hj),if_neg ⋯]
theorem UpL.more(h:UpL kf lo xs n)(h1:1<=n)(hl:le (ky kf xs (lo+n-1)) (ky kf xs (lo+n))):UpL kf lo xs (n+1):=by
 intro i j ij jn;by_cases c:j<n
 .exact h i j ij c
 .have:j=n:=⋯
  subst this;by_cases c2:i=j
  .subst c2;exact Zcv _
  .rw[show lo+j-1=lo+(j-1)by lia]at hl
   exact Zcw (h i (j-1) ⋯ ⋯) hl
theorem DnL.more(h:DnL kf lo xs n)(h1:1<=n)(hl:le (ky kf xs (lo+n)) (ky kf xs (lo+n-1))):DnL kf lo xs (n+1):=by
 intro i j ij jn;by_cases c:j<n
 .exact h i j ij c
 .have:j=n:=⋯
  subst this;by_cases c2:i=j
  .subst c2;exact Zcv _
  .rw[show lo+j-1=lo+(j-1)by lia]at hl
   exact Zcw hl (h i (j-1) ⋯ ⋯)
theorem Zlm(C:Cl (ao prog w) A E s kf B lo N){st:cx}(hn:lo+n<=N)(ha:1<=a)(an:a<=n)(hB:B st)(hu:UpL kf lo (arrOf st) a)(q:∀m,a<=m->m<=n->UpL kf lo (arrOf st) m->(m=n\/lt (ky kf (arrOf st) (lo+m)) (ky kf (arrOf st) (lo+m-1))=true)->Q (none,m) st):wpS (ao prog w) A E s (ZpE lo a n) Q st:=by
 unfold ZpE;refine cw (λx c t=>t=st/\c=(none,x)/\UpL kf lo (arrOf st) x) (λx c t ax xn hI=>?_) (λc t hI=>?_) ⟨rfl,rfl,hu⟩
 .obtain⟨rfl,rfl,h⟩:=hI;refine au (C.cmp t (lo+x) (lo+x-1) _ hB ⋯ ⋯ ?_)
  cases z:lt (ky kf (arrOf t) (lo+x)) (ky kf (arrOf t) (lo+x-1))with
  |true=>exact aA (q x ax ⋯ h (.inr z))
  |false=>exact aA ⟨rfl,rfl,h.more ⋯ z⟩
 .obtain⟨rfl,rfl,h⟩:=hI;rw[Nat.max_eq_right an]at h ⊢;exact q n an (aj _) h (.inl rfl)
theorem Zik(C:Cl (ao prog w) A E s kf B lo N){st:cx}(hn:lo+n<=N)(h1:1<=m)(mn:m<=n)(hB:B st)(hd:DnL kf lo (arrOf st) m)(q:∀m t,B t->1<=m->m<=n->UpL kf lo (arrOf t) m->Q (some m) t):wpS (ao prog w) A E s (Zkt lo m n) Q st:=by
 have sz:=C.sz st hB;have hB':=C.mir (i:=lo) (j:=lo+m) hB (aj _) ⋯
 refine au (l5 (au (Zlm C hn h1 mn hB' (λi j ij jm=>?_) λk k1 k2 hu _=>aA (q k _ hB' ⋯ k2 hu))))
 show le (ky kf (jX (arrOf st) lo (lo+m) ((lo+m-lo)/2)) (lo+i)) (ky kf (jX (arrOf st) lo (lo+m) ((lo+m-lo)/2)) (lo+j));rw[Zii ⋯,Zii ⋯,if_pos ⟨⋯,⋯⟩,if_pos ⟨⋯,⋯⟩,show lo+(lo+m)-1-(lo+i)=lo+(m-1-i)by lia,show lo+(lo+m)-1-(lo+j)=lo+(m-1-j)by lia]
 exact hd _ _ ⋯ ⋯
def EqL(kf:aJ->List Int)(lo:Nat)(xs:Array aJ)(x e:Nat):Prop:=e+1<=x/\∀i,lo+x-(e+1)<=i->i<lo+x->ky kf xs i=ky kf xs (lo+x-1)
theorem ZsD(h:1<=x):EqL kf lo xs x 0:=⟨⋯,λi a b=>by rw[show i=lo+x-1 by lia]⟩
theorem Zm5(C:Cl (ao prog w) A E s kf B lo N){st:cx}(hn:lo+n<=N)(h1:1<=m)(mn:m<=n)(hB:B st)(hd:DnL kf lo (arrOf st) m)(q:∀x e t,B t->m<=x->x<=n->DnL kf lo (arrOf t) x->EqL kf lo (arrOf t) x e->Q (none,x,e) t):wpS (ao prog w) A E s (Zku lo m n) Q st:=by
 unfold Zku;refine cw (λx c t=>∃e,c=(none,x,e)/\B t/\DnL kf lo (arrOf t) x/\EqL kf lo (arrOf t) x e) (λx c t ax xn hI=>?_) (λc t hI=>?_) ⟨0,rfl,hB,hd,ZsD h1⟩
 .obtain⟨e,rfl,hB,hd,he⟩:=hI;have sz:=C.sz t hB;refine au (C.cmp t (lo+x) (lo+x-1) _ hB ⋯ ⋯ ?_)
  cases z:lt (ky kf (arrOf t) (lo+x)) (ky kf (arrOf t) (lo+x-1))with
  |true=>
   have up1:=hd.more ⋯ (Zb2 z)
   show wpS _ _ _ _ (if e>0 then _ else _) _ _
   by_cases c:e>0
   .rw[if_pos c];refine au (l5 (aA ⟨0,rfl,C.mir (i:=lo+x-(e+1)) (j:=lo+x) hB (by have:=he.1;lia) ⋯,λi j ij jx=>?_,ZsD ⋯⟩))
    show le (ky kf (jX (arrOf t) (lo+x-(e+1)) (lo+x) ((lo+x-(lo+x-(e+1)))/2)) (lo+j)) (ky kf (jX (arrOf t) (lo+x-(e+1)) (lo+x) ((lo+x-(lo+x-(e+1)))/2)) (lo+i));rw[Zad ⋯ he.2,Zad ⋯ he.2]
    exact up1 i j ij jx
   .rw[if_neg c];exact aA ⟨0,rfl,hB,up1,ZsD ⋯⟩
  |false=>
   refine au (C.cmp t (lo+x-1) (lo+x) _ hB ⋯ ⋯ ?_)
   cases z2:lt (ky kf (arrOf t) (lo+x-1)) (ky kf (arrOf t) (lo+x))with
   |true=>exact aA (q x e t hB ax ⋯ hd he)
   |false=>
    have ee:ky kf (arrOf t) (lo+x)=ky kf (arrOf t) (lo+x-1):=ZeE z z2;refine aA ⟨e+1,rfl,hB,hd.more ⋯ z2,by have:=he.1;lia,λi a b=>?_⟩
    rw[show lo+(x+1)-1=lo+x by lia]
    by_cases c:i=lo+x
    .rw[c]
    .rw[ee];exact he.2 i ⋯ ⋯
 .obtain⟨e,rfl,hB,hd,he⟩:=hI;rw[Nat.max_eq_right mn]at hd he ⊢;exact q n e t hB mn (aj _) hd he
theorem Zil(C:Cl (ao prog w) A E s kf B lo N){st:cx}(hn:lo+n<=N)(mn:m+1<=n)(hB:B st)(hd:DnL kf lo (arrOf st) (m+1))(q:∀m t,B t->1<=m->m<=n->UpL kf lo (arrOf t) m->Q (some m) t):wpS (ao prog w) A E s (Zkv lo m n) Q st:=by
 refine au (j9 (wpAny_rule ⟨rfl,au (Zm5 C hn ⋯ mn hB hd λx e t hB hx xn hd he=>?_)⟩))
 have sz:=C.sz t hB;show wpS _ _ _ _ (if e>0 then _ else _) _ _
 by_cases c:e>0
 .rw[if_pos c];refine au (l5 (Zik (m:=x) C hn ⋯ xn (C.mir (i:=lo+x-(e+1)) (j:=lo+x) hB (by have:=he.1;lia) ⋯) (λi j ij jx=>?_) q))
  show le (ky kf (jX (arrOf t) (lo+x-(e+1)) (lo+x) ((lo+x-(lo+x-(e+1)))/2)) (lo+j)) (ky kf (jX (arrOf t) (lo+x-(e+1)) (lo+x) ((lo+x-(lo+x-(e+1)))/2)) (lo+i));rw[Zad ⋯ he.2,Zad ⋯ he.2]
  exact hd i j ij jx
 .rw[if_neg c];exact Zik (m:=x) C hn ⋯ xn hB hd q
theorem ZpF(C:Cl (ao prog w) A E s kf B lo N){st:cx}(hn:lo+n<=N)(h1:1<=n)(hB:B st)(q:∀m t,B t->1<=m->m<=n->UpL kf lo (arrOf t) m->Q (some m) t):wpS (ao prog w) A E s (countRun' lo n) Q st:=by
 have sz:=C.sz st hB;rw[Zm4];refine au (Zlm C hn (aj 1) h1 hB (λi j ij j1=>by rw[show i=j by lia];exact Zcv _) λm m1 m2 hu ho=>?_)
 show wpS _ _ _ _ (if(m==n)=true then _ else _) _ _
 by_cases c:m=n
 .rw[if_pos (by simpa using c)]
  exact aA (q m st hB m1 m2 hu)
 .rw[if_neg (by simpa using c)]
  have hl:=ho.resolve_left c;by_cases c1:m>1
  .rw[if_pos c1];refine au (C.cmp st lo (lo+m-1) _ hB ⋯ ⋯ ?_)
   cases z:lt (ky kf (arrOf st) lo) (ky kf (arrOf st) (lo+m-1))with
   |true=>exact aA (q m st hB m1 m2 hu)
   |false=>
    have al:∀k,lo<=k->k<lo+m->ky kf (arrOf st) k=ky kf (arrOf st) (lo+m-1):=λk k0 km=>by
     obtain⟨i,rfl⟩:∃i,k=lo+i:=⟨k-lo,⋯⟩
     have a1:=hu 0 i ⋯ ⋯
     have a2:=hu i (m-1) ⋯ ⋯
     rw[iz]at a1;rw[show lo+(m-1)=lo+m-1 by lia]at a2
     exact ZeE (Zcw z a1) a2
    refine au (l5 (Zil C hn ⋯ (C.mir hB (aj _) ⋯) (λi j ij jx=>?_) q))
    show le (ky kf (jX (arrOf st) lo (lo+m) ((lo+m-lo)/2)) (lo+j)) (ky kf (jX (arrOf st) lo (lo+m) ((lo+m-lo)/2)) (lo+i));rw[Zad ⋯ al,Zad ⋯ al]
    by_cases d:j<m
    .rw[al (lo+i) ⋯ ⋯,al (lo+j) ⋯ ⋯];exact Zcv _
    .have:j=m:=⋯
     subst this;by_cases d2:i=j
     .rw[d2];exact Zcv _
     .rw[al (lo+i) ⋯ ⋯];exact Zb2 hl
  .rw[if_neg c1]
   have:m=1:=⋯
   subst this;refine Zil C hn ⋯ hB (λi j ij jx=>?_) q
   by_cases d2:i=j
   .rw[d2];exact Zcv _
   .rw[show i=0 by lia,show j=1 by lia];exact Zb2 hl
theorem ZpG{lo:Nat}(hs:lo+k<X.size)(lk:l<=k)(hu:UpL kf lo X k)(lo':∀i,i<l->le (ky kf X (lo+i)) (ky kf X (lo+k)))(hi:∀i,l<=i->i<k->lt (ky kf X (lo+k)) (ky kf X (lo+i))=true):UpL kf lo (bubble X (lo+k) (lo+k-(lo+l))) (k+1):=by
 have hd:lo+k-(lo+l)<=lo+k:=Nat.sub_le _ _;have e:∀i,ky kf (bubble X (lo+k) (lo+k-(lo+l))) (lo+i)=if i=l then ky kf X (lo+k)else if l<i/\i<=k then ky kf X (lo+(i-1))else ky kf X (lo+i):=λi=>by
  rw[Zpy hs hd,show lo+k-(lo+k-(lo+l))=lo+l by lia]
  by_cases c:i=l
  .rw[if_pos ⋯,if_pos c]
  .rw[if_neg ⋯,if_neg c]
   by_cases d:l<i/\i<=k
   .rw[if_pos ⋯,if_pos d,show lo+i-1=lo+(i-1)by lia]
   .rw[if_neg ⋯,if_neg d]
 intro i j ij jk;rw[e,e];clear e hd hs;split
 .split
  .exact Zcv _
  .rw[if_pos ⋯];exact Zb2 (hi _ ⋯ ⋯)
 .split
  .rw[if_neg ⋯,if_pos ⋯];exact hu _ _ ⋯ ⋯
  .split
   .exact lo' _ ⋯
   .split
    .exact hu _ _ ⋯ ⋯
    .exact hu _ _ ⋯ ⋯
theorem ZpH(C:Cl (ao prog w) A E s kf B lo N){st:cx}(hn:lo+n<=N)(hk:ok<=n)(hB:B st)(hu:UpL kf lo (arrOf st) ok)(q:∀t,B t->UpL kf lo (arrOf t) n->Q true t):wpS (ao prog w) A E s (binarySort' lo n ok) Q st:=by
 rw[binarySort'_eq];refine au (fB (cw (λk c t=>c=(none,())/\B t/\UpL kf lo (arrOf t) (min k n)) (Q:=λc t=>c=(none,())/\B t/\UpL kf lo (arrOf t) n) (λk c t ak kn hI=>?_) (λc t hI=>?_) ⟨rfl,hB,λi j ij jn=>?_⟩) λc t hI=>?_)
 .obtain⟨rfl,hB,hu⟩:=hI;rw[gY ⋯]at hu
  have sz:=C.sz t hB;have kN:lo+k<N:=⋯
  refine au (fB (cw (λx c t'=>t'=t/\∃l r,c=(none,l,r)/\(l<=r/\r<=k/\r-l<=k-x)/\(∀i,i<l->le (ky kf (arrOf t) (lo+i)) (ky kf (arrOf t) (lo+k)))/\∀i,r<=i->i<k->lt (ky kf (arrOf t) (lo+k)) (ky kf (arrOf t) (lo+i))=true) (Q:=λc t'=>t'=t/\∃l r,c=(none,l,r)/\l<=k/\(∀i,i<l->le (ky kf (arrOf t) (lo+i)) (ky kf (arrOf t) (lo+k)))/\∀i,l<=i->i<k->lt (ky kf (arrOf t) (lo+k)) (ky kf (arrOf t) (lo+i))=true) (λx c t' _ xk hI=>?_) (λc t' hI=>?_) ⟨rfl,0,k,rfl,⋯,λi hi=>⋯,λi a b=>⋯⟩) λc t' hI=>?_)
  .obtain⟨rfl,l,r,rfl,⟨lr,rk,hm⟩,lo',hi⟩:=hI;show wpS _ _ _ _ (if l ≥ r then _ else _) _ _
   by_cases c:l ≥ r
   .rw[if_pos c]
    have:l=r:=⋯
    subst this;exact aA ⟨rfl,l,l,rfl,rk,lo',hi⟩
   .rw[if_neg c];refine au (C.cmp t' (lo+k) (lo+(l+r)/2) _ hB kN ⋯ ?_)
    cases z:lt (ky kf (arrOf t') (lo+k)) (ky kf (arrOf t') (lo+(l+r)/2))with
    |true=>exact aA ⟨rfl,l,(l+r)/2,rfl,⋯,lo',λi a b=>Zfg z (hu _ _ a b)⟩
    |false=>exact aA ⟨rfl,(l+r)/2+1,r,rfl,⋯,λi a=>Zcw (hu i ((l+r)/2) ⋯ ⋯) z,hi⟩
  .obtain⟨rfl,l,r,rfl,⟨lr,rk,hm⟩,lo',hi⟩:=hI
   have:l=r:=⋯
   subst this;exact⟨rfl,l,l,rfl,rk,lo',hi⟩
  .obtain⟨rfl,l,r,rfl,lk,lo',hi⟩:=hI;show wpS _ _ _ _ (moveDown' (lo+k) (lo+l) >>= λ_=>pure (ForInStep.yield (none,()))) _ _;rw[moveDown'_eq];have hd:lo+k-(lo+l)<=lo+k:=⋯
   refine au (gu (aA ⟨rfl,C.put t' _ hB (bubble_perm ..) (λi hi=>by rw[getElem?_bubble ⋯ _ hd,if_neg ⋯,if_neg ⋯]),?_⟩))
   rw[gY ⋯]
   exact ZpG ⋯ lk hu lo' hi
 .obtain⟨rfl,hB,hu⟩:=hI;rw[show min (max (max ok 1) n) n=n by lia]at hu
  exact⟨rfl,hB,hu⟩
 .by_cases c:ok=0
  .rw[show i=j by lia];exact Zcv _
  .exact hu i j ij ⋯
 .obtain⟨rfl,hB,hu⟩:=hI;exact aA (q t hB hu)
end
end ST
namespace ST
open PyProof.Rows
theorem Zfj(a:Nat):∀(out:List aJ)(n:Nat)(xs:Array aJ)(k:Nat),a+n+out.length<=xs.size->((out.zipIdx n).foldl (λo (q:aJ×Nat)=>o.setIfInBounds (a+q.2) q.1) xs)[k]?=if a+n<=k/\k<a+n+out.length then out[k-(a+n)]? else xs[k]?
 |[],n,xs,k,_=>by
  rw[if_neg (by simp)]
  rfl
 |p::out,n,xs,k,h=>by
  rw[bv]at h;rw[List.zipIdx_cons,List.foldl_cons,Zfj a out (n+1) _ k (by rw[Array.size_setIfInBounds];lia)]
  rw[bv];by_cases c:k=a+n
  .subst c;rw[if_neg ⋯,if_pos ⋯,dB ⋯,fI]
   rfl
  .by_cases d:a+n<=k/\k<a+n+(out.length+1)
   .rw[if_pos ⋯,if_pos d,show k-(a+n)=(k-(a+(n+1)))+1 by lia,c8]
   .rw[if_neg ⋯,if_neg d,iC ⋯]
theorem Zkw{xs:Array aJ}(h:a+out.length<=xs.size):((out.zipIdx).foldl (λo (q:aJ×Nat)=>o.setIfInBounds (a+q.2) q.1) xs).toList=xs.toList.take a++out++xs.toList.drop (a+out.length):=by
 have hl:xs.toList.length=xs.size:=bD;apply eO;intro k;rw[bw,Zfj a out 0 xs k ⋯,iz,cS]
 by_cases c:k<a
 .rw[if_neg ⋯,aB (by rw[bN,hl];lia),List.getElem?_take,if_pos c,bw]
 .rw[aH (by rw[bN,hl];lia),bN,hl,gY ⋯]
  by_cases d:k<a+out.length
  .rw[if_pos ⋯,aB ⋯]
  .rw[if_neg ⋯,aH ⋯,hW,bw]
   congr 1;lia
def Seg(kf:aJ->List Int)(xs:Array aJ)(a b:Nat):Prop:=∀i j,a<=i->i<=j->j<b->le (ky kf xs i) (ky kf xs j)
theorem Zln(hb:b<=xs.size)(hi:i<b-a):ky kf (xs.extract a b) i=ky kf xs (a+i):=by
 unfold ky;rw[kI,if_pos ⋯]
theorem Zlo{xs:Array aJ}(hb:b<=xs.size):(xs.extract a b).size=b-a:=by rw[Array.size_extract];lia
section
variable {st:cx}
theorem Zm6{st:cx}(h:Q ⟨⟩ st'):wpS M A E s (set st':SM PUnit) Q st:=by
 unfold wpS;rw[StateT.run_set];exact Wp ⟨rfl,h⟩
theorem ZdR(s1:Seg kf X a Q)(s2:Seg kf X Q T)(cr:∀i j,a<=i->i<Q->Q<=j->j<T->le (ky kf X i) (ky kf X j)):Seg kf X a T:=λi j ai ij jb=>by
 by_cases d1:j<Q
 .exact s1 i j ai ij d1
 .by_cases d2:i<Q
  .exact cr i j ai d2 ⋯ jb
  .exact s2 i j ⋯ ij jb
theorem Zim(QR:Q<=R)(RT:R<=T)(PQ:P<=Q)(s1:Seg kf X a Q)(s2:Seg kf X Q T)(pre:∀i j,a<=i->i<P->Q<=j->j<T->le (ky kf X i) (ky kf X j))(suf:∀i j,a<=i->i<Q->R<=j->j<T->le (ky kf X i) (ky kf X j))(aP:a<=P)(mem:∀j,P<=j->j<R->∃l,P<=l/\l<R/\ky kf Y j=ky kf X l)(sY:Seg kf Y P R)(ko:∀j,¬(P<=j/\j<R)->ky kf Y j=ky kf X j):Seg kf Y a T:=by
 refine ZdR (Q:=R) (ZdR (Q:=P) (λi j ai ij jb=>?_) sY λi j ai iP Pj jR=>?_) (λi j ai ij jb=>?_) λi j ai iR Rj jT=>?_
 .rw[ko i ⋯,ko j ⋯]
  exact s1 i j ai ij ⋯
 .rw[ko i ⋯]
  obtain⟨l,l1,l2,l3⟩:=mem j Pj jR;rw[l3];by_cases c:l<Q
  .exact s1 i l ai ⋯ c
  .exact pre i l ai iP ⋯ ⋯
 .rw[ko i ⋯,ko j ⋯]
  exact s2 i j ⋯ ij jb
 .rw[ko j ⋯]
  have key:∀l,a<=l->l<R->le (ky kf X l) (ky kf X j):=λl h1 h2=>by
   by_cases c:l<Q
   .exact suf l j h1 c Rj jT
   .exact s2 l j ⋯ ⋯ jT
  by_cases c:i<P
  .rw[ko i ⋯]
   exact key i ai iR
  .obtain⟨l,l1,l2,l3⟩:=mem i ⋯ iR
   rw[l3];exact key l ⋯ l2
theorem ZvM(C:Cp (ao prog w) A E s kf G B)(hB:B st)(h1:(pendingOf st)[i]?=some (a,n,p))(h2:(pendingOf st)[i+1]?=some (b,m,q))(hb:b=a+n)(n1:1<=n)(m1:1<=m)(hs:b+m<=(arrOf st).size)(s1:Seg kf (arrOf st) a b)(s2:Seg kf (arrOf st) b (b+m))(h:∀t,B t->pendingOf t=((pendingOf st).setIfInBounds i (a,n+m,p)).eraseIdxIfInBounds (i+1)->(arrOf t).size=(arrOf st).size->(∀k,¬(a<=k/\k<b+m)->(arrOf t)[k]?=(arrOf st)[k]?)->Seg kf (arrOf t) a (b+m)->Q true t):wpS (ao prog w) A E s (mergeAt' i) Q st:=by
 subst hb;generalize hX:arrOf st=X at hs s1 s2 h;have gX:Gs G X:=λk r hk=>by
  subst hX;exact C.good st hB r (by rw[Array.mem_toList_iff];exact Array.mem_of_getElem? hk)
 rw[Zfh];refine au (i8 ?_);dsimp only;rw[h1,h2];dsimp only;have b2:=C.pen st (((pendingOf st).setIfInBounds i (a,n+m,p)).eraseIdxIfInBounds (i+1)) hB;refine au (Zm6 ?_);rw[hX];have hbX:a+n<X.size:=⋯
 have hcX:a+n-1<X.size:=⋯
 refine au (Z3 (getElem?_pos X (a+n) hbX) (au (Zbp C b2 (gX _ _ (getElem?_pos X (a+n) hbX)) gX ⋯ ⋯ (λi j ij jn=>s1 _ _ ⋯ ⋯ ⋯) λk kn f1 f2=>?_)))
 rw[<-ZQ (kf:=kf) hbX]at f1 f2;have g1:∀j,j<k->le (ky kf X (a+j)) (ky kf X (a+n)):=λj hj=>by
  have z:=f1 j hj;unfold frk at z;rw[if_neg (by simp),fW]at z
  exact z
 have g2:∀j,k<=j->j<n->lt (ky kf X (a+n)) (ky kf X (a+j))=true:=λj hj hn=>by
  have z:=f2 j hj hn;unfold frk at z;rw[if_neg (by simp),jw]at z
  exact z
 have pre:∀i j,a<=i->i<a+k->a+n<=j->j<a+n+m->le (ky kf X i) (ky kf X j):=λi j c d e f=>by
  have:=g1 (i-a) ⋯
  rw[show a+(i-a)=i by lia]at this
  exact Zcw this (s2 _ _ (aj _) e f)
 dsimp only;by_cases c1:n-k=0
 .rw[if_pos (by simpa using c1)]
  exact aA (h _ b2 rfl (by rw[<-hX]) (λ_ _=>by rw[<-hX]) (by
   show Seg kf (arrOf st) a (a+n+m);rw[hX];exact ZdR s1 s2 λi j a b=>pre i j a ⋯))
 rw[if_neg (by simpa using c1),show a+k+(n-k)-1=a+n-1 by lia]
 refine au (Z3 (getElem?_pos X (a+n-1) hcX) (au (Zbp C b2 (gX _ _ (getElem?_pos X (a+n-1) hcX)) gX ⋯ hs (λi j ij jn=>s2 _ _ ⋯ ⋯ ⋯) λr rn e1 e2=>?_)))
 rw[<-ZQ (kf:=kf) hcX]at e1 e2;have k1:∀j,j<r->le (ky kf X (a+n+j)) (ky kf X (a+n-1)):=λj hj=>by
  have z:=e1 j hj;unfold frk at z;rw[if_pos rfl]at z;exact Zb2 z
 have k2:∀j,r<=j->j<m->le (ky kf X (a+n-1)) (ky kf X (a+n+j)):=λj hj hn=>by
  have z:=e2 j hj hn;unfold frk at z;rw[if_pos rfl]at z;exact z
 have suf:∀i j,a<=i->i<a+n->a+n+r<=j->j<a+n+m->le (ky kf X i) (ky kf X j):=λi j c d e f=>by
  have:=k2 (j-(a+n)) ⋯ ⋯
  rw[show a+n+(j-(a+n))=j by lia]at this
  exact Zcw (s1 i (a+n-1) c ⋯ ⋯) this
 dsimp only;by_cases c2:r=0
 .rw[if_pos (by simpa using c2)]
  exact aA (h _ b2 rfl (by rw[<-hX]) (λ_ _=>by rw[<-hX]) (by
   show Seg kf (arrOf st) a (a+n+m);rw[hX];exact ZdR s1 s2 λi j a b c d=>suf i j a b ⋯ d))
 rw[if_neg (by simpa using c2)]
 have zx:(X.extract (a+k) (a+n)).size=n-k:=by rw[Zlo ⋯];lia
 have zy:(X.extract (a+n) (a+n+r)).size=r:=by rw[Zlo ⋯];lia
 have kx:∀j,j<n-k->ky kf (X.extract (a+k) (a+n)) j=ky kf X (a+k+j):=λj hj=>Zln ⋯ ⋯
 have kyy:∀j,j<r->ky kf (X.extract (a+n) (a+n+r)) j=ky kf X (a+n+j):=λj hj=>Zln ⋯ ⋯
 have gsx:∀u v,Gs G (X.extract u v):=λu v j z hj=>by
  rw[kI]at hj
  split at hj
  .exact gX _ _ hj
  .cases hj
 have sx:Up kf (X.extract (a+k) (a+n)) (X.extract (a+k) (a+n)).size:=λi j ij hj=>by
  rw[zx]at hj;rw[kx i ⋯,kx j hj]
  exact s1 _ _ ⋯ ⋯ ⋯
 have sy:Up kf (X.extract (a+n) (a+n+r)) (X.extract (a+n) (a+n+r)).size:=λi j ij hj=>by
  rw[zy]at hj;rw[kyy i ⋯,kyy j hj]
  exact s2 _ _ ⋯ ⋯ ⋯
 have first:∀i,i<n-k->le (ky kf (X.extract (a+n) (a+n+r)) 0) (ky kf (X.extract (a+k) (a+n)) i):=λi hi=>by
  rw[kyy 0 ⋯,kx i hi,iz,fM]
  exact Zb2 (g2 (k+i) ⋯ ⋯)
 have last:∀i,i<r->le (ky kf (X.extract (a+n) (a+n+r)) i) (ky kf (X.extract (a+k) (a+n)) ((X.extract (a+k) (a+n)).size-1)):=λi hi=>by
  rw[zx,kyy i hi,kx (n-k-1) ⋯,show a+k+(n-k-1)=a+n-1 by lia]
  exact k1 i hi
 have go:∀out t,B t->arrOf t=arrOf (gq st (((pendingOf st).setIfInBounds i (a,n+m,p)).eraseIdxIfInBounds (i+1)))->pendingOf t=pendingOf (gq st (((pendingOf st).setIfInBounds i (a,n+m,p)).eraseIdxIfInBounds (i+1)))->Md kf (X.extract (a+k) (a+n)) (X.extract (a+n) (a+n+r)) out->
   Q true (mZ t ((out.toList.zipIdx).foldl (λo (q:aJ×Nat)=>o.setIfInBounds (a+k+q.2) q.1) (arrOf t))):=by
  intro out t bt ea ep md
  replace ea:arrOf t=X:=ea.trans hX
  have zo:out.size=n-k+r:=by rw[md.1.size_eq,Array.size_append,zx,zy]
  have hlen:a+k+out.toList.length<=X.size:=by rw[bD];lia
  rw[ea];generalize hY:(out.toList.zipIdx).foldl (λo (q:aJ×Nat)=>o.setIfInBounds (a+k+q.2) q.1) X=Y;have yg:∀j:Nat,Y[j]?=if a+k<=j/\j<a+n+r then out[j-(a+k)]? else X[j]?:=λj=>by
   rw[<-hY,Zfj (a+k) out.toList 0 X j ⋯,iz,bD,bw,zo]
   by_cases c:a+k<=j/\j<a+n+r
   .rw[if_pos ⋯,if_pos c]
   .rw[if_neg ⋯,if_neg c]
  have xl:X.toList=X.toList.take (a+k)++((X.extract (a+k) (a+n)).toList++(X.extract (a+n) (a+n+r)).toList)++X.toList.drop (a+n+r):=by
   rw[dG,dG,cQ,cQ];have e1:X.toList.drop (a+k)=(X.toList.drop (a+k)).take (a+n-(a+k))++X.toList.drop (a+n):=by
    conv=>lhs;rw[<-cC (a+n-(a+k)) (X.toList.drop (a+k))]
    rw[List.drop_drop,show a+k+(a+n-(a+k))=a+n by lia]
   have e2:X.toList.drop (a+n)=(X.toList.drop (a+n)).take (a+n+r-(a+n))++X.toList.drop (a+n+r):=by
    conv=>lhs;rw[<-cC (a+n+r-(a+n)) (X.toList.drop (a+n))]
    rw[List.drop_drop,show a+n+(a+n+r-(a+n))=a+n+r by lia]
   rw[cS,cS,<-e2,<-e1,cC]
  have pm:Y.Perm X:=bV.mpr (by
   rw[xl,<-hY,Zkw hlen,bD,zo,show a+k+(n-k+r)=a+n+r by lia]
   refine nY.append_right _ (nY.append_left _ ?_);rw[<-cB];exact bV.mp md.1)
  have mem:∀j,j<out.size->∃l,a+k<=l/\l<a+n+r/\ky kf out j=ky kf X l:=λj hj=>by
   have hm:out[j]∈(X.extract (a+k) (a+n)++X.extract (a+n) (a+n+r)).toList:=(bV.mp md.1).mem_iff.mp (by simp)
   rw[cB]at hm;rcases be.mp hm with hm|hm
   .obtain⟨l,hl,el⟩:=bF hm;rw[bD,zx]at hl;refine⟨a+k+l,⋯,⋯,?_⟩
    rw[<-kx l hl,ZQ hj,ZQ ⋯,<-el]
    rfl
   .obtain⟨l,hl,el⟩:=bF hm;rw[bD,zy]at hl;refine⟨a+n+l,⋯,⋯,?_⟩
    rw[<-kyy l hl,ZQ hj,ZQ ⋯,<-el]
    rfl
  have ki:∀j,a+k<=j->j<a+n+r->ky kf Y j=ky kf out (j-(a+k)):=λj c d=>ZcX (by rw[yg,if_pos ⟨c,d⟩])
  have ko:∀j,¬(a+k<=j/\j<a+n+r)->ky kf Y j=ky kf X j:=λj c=>ZcX (by rw[yg,if_neg c])
  refine h _ (C.put t _ bt (by rw[ea];exact pm)) ep pm.size_eq (λj c=>?_) (Zim (Y:=Y) (P:=a+k) (R:=a+n+r) ⋯ ⋯ ⋯ s1 s2 pre suf ⋯ (λj c d=>?_) (λi j c e d=>?_) ko)
  .show Y[j]?=X[j]?;rw[yg,if_neg ⋯]
  .rw[ki j c d];exact mem _ ⋯
  .rw[ki i c ⋯,ki j ⋯ d]
   exact md.2 _ _ ⋯ ⋯
 have fl:∀(out:Array aJ) t,B t->Q true (mZ t ((out.toList.zipIdx).foldl (λo (q:aJ×Nat)=>o.setIfInBounds (a+k+q.2) q.1) (arrOf t)))->wpS (ao prog w) A E s (do
   modify λt=>mZ t ((out.toList.zipIdx).foldl (λo (q:aJ×Nat)=>o.setIfInBounds (a+k+q.2) q.1) (arrOf t))
   return (gP (<-get)).isNone) Q t:=λout t bt hq=>by
  refine au (gu (au (i8 (aA ?_))));rw[show(gP (mZ t ((out.toList.zipIdx).foldl (λo (q:aJ×Nat)=>o.setIfInBounds (a+k+q.2) q.1) (arrOf t)))).isNone=true from by
   show(gP t).isNone=true;rw[C.fail t bt]
   rfl]
  exact hq
 by_cases c3:n-k<=r
 .rw[if_pos c3];exact au (ZvK C b2 (gsx _ _) (gsx _ _) sx sy ⋯ ⋯ (first 0 ⋯) (λi hi=>last i ⋯) λout t bt ea ep md=>fl out t bt (go out t bt ea ep md))
 .rw[if_neg c3];exact au (ZvL C b2 (gsx _ _) (gsx _ _) sx sy ⋯ ⋯ (λi hi=>last i ⋯) (λi hi=>first i ⋯) λout t bt ea ep md=>fl out t bt (go out t bt ea ep md))
end
variable {kf:aJ->List Int}
def Pd(kf:aJ->List Int)(xs:Array aJ):Nat->List (Nat×Nat)->Nat->Prop
 |a,[],b=>a=b
 |a,(c,n)::r,b=>c=a/\1<=n/\Seg kf xs a (a+n)/\Pd kf xs (a+n) r b
theorem Pd.app{xs:Array aJ}{b:Nat}{S:List (Nat×Nat)}:∀{P:List (Nat×Nat)} {a:Nat},Pd kf xs a (P++S) b↔∃c,Pd kf xs a P c/\Pd kf xs c S b
 |[],a=>⟨λh=>⟨a,rfl,h⟩,λ⟨c,h,k⟩=>by cases h;exact k⟩
 | (c,n)::P,a=>by
  constructor
  .rintro⟨h1,h2,h3,h4⟩;obtain⟨d,k1,k2⟩:=Pd.app.mp h4;exact⟨d,⟨h1,h2,h3,k1⟩,k2⟩
  .rintro⟨d,⟨h1,h2,h3,k1⟩,k2⟩;exact⟨h1,h2,h3,Pd.app.mpr ⟨d,k1,k2⟩⟩
theorem Pd.le{xs:Array aJ}{b:Nat}:∀{L:List (Nat×Nat)} {a:Nat},Pd kf xs a L b->a+L.length<=b
 |[],a,h=>by cases h;simp
 | (c,n)::P,a,⟨_,h2,_,h4⟩=>by
  have:=h4.le
  rw[bv];lia
theorem Seg.same(h:Seg kf xs a b)(e:∀k,a<=k->k<b->ys[k]?=xs[k]?):Seg kf ys a b:=λi j ai ij jb=>by
 rw[ZcX (e i ai ⋯),ZcX (e j ⋯ jb)]
 exact h i j ai ij jb
theorem Pd.same{xs ys:Array aJ}{b:Nat}:∀{L:List (Nat×Nat)} {a:Nat},Pd kf xs a L b->(∀k,a<=k->k<b->ys[k]?=xs[k]?)->Pd kf ys a L b
 |[],a,h,_=>h
 | (c,n)::P,a,⟨h1,h2,h3,h4⟩,e=>⟨h1,h2,h3.same λk c d=>e k c (by have:=h4.le;lia),h4.same λk c d=>e k ⋯ d⟩
noncomputable def pl(p:Array (Nat×Nat×Nat)):List (Nat×Nat):=p.toList.map λx=>(x.1,x.2.1)
theorem ZpI{α:Type}{P S:List α}{x y z:α}:((P++x::y::S).set P.length z).eraseIdx (P.length+1)=P++z::S:=by
 induction P with
 |nil=>rfl
 |cons a P ih=>show a::((P++x::y::S).set P.length z).eraseIdx (P.length+1)=_;rw[ih];rfl
section
variable {st:cx}
theorem ZpJ{α:Type}{L:List α}(h:i+1<L.length):∃P x y S,L=P++x::y::S/\P.length=i:=by
 refine⟨L.take i,L[i],L[i+1],L.drop (i+2),?_,by rw[bN];lia⟩
 rw[<-cN h,<-cN ⋯,cC]
theorem Zin(C:Cp (ao prog w) A E s kf G B)(hB:B st){lo:Nat}(hp:Pd kf (arrOf st) 0 (pl (pendingOf st)) lo)(hi:i+1<(pendingOf st).size)(hl:lo<=(arrOf st).size)(h:∀t,B t->Pd kf (arrOf t) 0 (pl (pendingOf t)) lo->(pendingOf t).size+1=(pendingOf st).size->(arrOf t).size=(arrOf st).size->(∀k,lo<=k->(arrOf t)[k]?=(arrOf st)[k]?)->Q true t):wpS (ao prog w) A E s (mergeAt' i) Q st:=by
 obtain⟨P,x,y,S,e,el⟩:=ZpJ (L:=(pendingOf st).toList) (i:=i) (by simpa using hi)
 obtain⟨a,n,p⟩:=x;obtain⟨b,m,q⟩:=y;have hp':=hp;unfold pl at hp';rw[e,dj,Pd.app]at hp';obtain⟨c,p1,p2⟩:=hp';obtain⟨rfl,n1,s1,rfl,m1,s2,p3⟩:=p2;dsimp only at p1 n1 s1 e m1 s2 p3;have lc:=p1.le;have lb:=p3.le;have g1:(pendingOf st)[i]?=some (a,n,p):=by
  rw[<-bw,e,<-el,aH (aj _),fI];rfl
 have g2:(pendingOf st)[i+1]?=some (a+n,m,q):=by
  rw[<-bw,e,<-el,aH ⋯,show P.length+1-P.length=1 by lia]
  rfl
 refine ZvM C hB g1 g2 rfl n1 m1 ⋯ s1 s2 λt bt ept zt ot sg=>?_
 have etl:(pendingOf t).toList=P++(a,n+m,p)::S:=by
  rw[ept]
  have:(((pendingOf st).setIfInBounds i (a,n+m,p)).eraseIdxIfInBounds (i+1)).toList=((pendingOf st).toList.set i (a,n+m,p)).eraseIdx (i+1):=by
   simp[Array.toList_eraseIdxIfInBounds]
  rw[this,e,<-el,ZpI]
 have zz:(pendingOf t).size+1=(pendingOf st).size:=by
  rw[<-bD,<-bD,etl,e];simp;lia
 refine h t bt ?_ zz zt λk hk=>ot k ⋯
 unfold pl;rw[etl,dj,Pd.app];refine⟨a,p1.same λk _ hk=>ot k ⋯,rfl,(by show 1<=n+m;lia),?_,?_⟩
 .show Seg kf (arrOf t) a (a+(n+m));rw[<-fM];exact sg
 .show Pd kf (arrOf t) (a+(n+m)) _ lo;rw[<-fM];exact p3.same λk hk _=>ot k ⋯
theorem Cl.of(C:Cp (ao prog w) A E s kf G B)(hz:∀t,B t->(arrOf t).size=N)(lo:Nat)(p0:Array (Nat×Nat×Nat))(X:Array aJ):Cl (ao prog w) A E s kf (λt=>B t/\pendingOf t=p0/\∀k,k<lo->(arrOf t)[k]?=X[k]?) lo N where
 sz t h:=hz t h.1
 put t xs h hp hk:=⟨C.put t xs h.1 hp,h.2.1,λk kl=>(hk k kl).trans (h.2.2 k kl)⟩
 cmp t i j Q h hi hj q:=by
  have z:=hz t h.1;have e1:(arrOf t)[i]?=some ((arrOf t)[i]'⋯):=getElem?_pos _ i ⋯
  have e2:(arrOf t)[j]?=some ((arrOf t)[j]'⋯):=getElem?_pos _ j ⋯
  rw[ltAt'_eq];refine au (i8 ?_);show wpS _ _ _ _ (elem' (arrOf t) i >>= λx=>elem' (arrOf t) j >>= λy=>lt' x y) Q t;refine au (Z3 e1 (au (Z3 e2 (C.cmp t _ _ _ h.1 (C.good t h.1 _ (by simp)) (C.good t h.1 _ (by simp)) ?_))))
  rw[ZQ ⋯,ZQ ⋯]at q
  exact q
theorem Zm7:pl (p.push x)=pl p++[(x.1,x.2.1)]:=by
 unfold pl;rw[fY,dj];rfl
theorem Zlp:(pl p).length=p.size:=by unfold pl;rw[af,bD]
theorem ZpK:pl (p.modify i λ(a,n,_)=>(a,n,v))=pl p:=by
 unfold pl;apply eO;intro k;rw[bn,bn,bw,bw,Array.getElem?_modify];split
 .cases p[k]?<;>rfl
 .rfl
def ruC(N lo n:Nat):SM (ForInStep (Option Unit×Nat)):=do
 let st <-get
 match(pendingOf st).back? with
 |some (s1,n1,_)=>do
  let s <-forIn [0:N] ((none,()):Option Unit×Unit) λ_ _=>do
   let st <-get
   match if(pendingOf st).size>1 then(pendingOf st)[(pendingOf st).size-2]? else none with
   |some (_,_,older)=>
    if older<=power' N (2*s1+n1) (2*s1+n1+n1+n) N then pure (.done (none,()))else do
     let b <-mergeAt' ((pendingOf st).size-2)
     if !b then pure (.done (some (),()))else pure (.yield (none,()))
   |_=>pure (.done (none,()))
  match s.1 with
  |some r=>pure (.done (some r,lo))
  |none=>do
   modify λs=>gq s ((pendingOf s).modify ((pendingOf s).size-1) λ(st,len,_)=>(st,len,power' N (2*s1+n1) (2*s1+n1+n1+n) N))
   modify λs=>gq s ((pendingOf s).push (lo,n,0))
   pure (.yield (none,lo+n))
 |_=>do
  modify λs=>gq s ((pendingOf s).push (lo,n,0))
  pure (.yield (none,lo+n))
def ruB(N mr lo:Nat):SM (ForInStep (Option Unit×Nat)):=
 if lo ≥ N then pure (.done (none,lo))else do
  match <-countRun' lo (N-lo)with
  |some n=>
   if n<mr then do
    liftM (PySem.rule "list.sort.binary-insertion")
    let b <-binarySort' lo (min (N-lo) mr) n
    if !b then pure (.done (some (),lo))else ruC N lo (min (N-lo) mr)
   else ruC N lo n
  |_=>pure (.done (some (),lo))
theorem Zm8:sortRuns'=(do
  let st <-get
  let s <-forIn [0:(arrOf st).size] ((none,0):Option Unit×Nat) λ_ s=>ruB (arrOf st).size (minRun' (arrOf st).size (arrOf st).size 0) s.2
  match s.1 with
  |some r=>pure r
  |none=>do
   let s <-forIn [0:(arrOf st).size] ((none,()):Option Unit×Unit) λ_ _=>do
    let t <-get
    if(pendingOf t).size<=1 then pure (.done (none,()))else do
     let b <-mergeAt' (if Option.any (λx=>decide (x<(pendingOf t)[(pendingOf t).size-2+1]?.elim 0 λx=>x.2.1)) (if(pendingOf t).size-2>0 then Option.map (λx=>x.2.1) (pendingOf t)[(pendingOf t).size-2-1]? else none)=true then(pendingOf t).size-2-1 else(pendingOf t).size-2)
     if !b then pure (.done (some (),()))else pure (.yield (none,()))
   match s.1 with
   |some r=>pure r
   |none=>pure ()):=by kernel_rfl
theorem ZpL(C:Cp (ao prog w) A E s kf G B)(hz:∀t,B t->(arrOf t).size=N){lo:Nat}(h1:1<=n)(hn:lo+n<=N)(hB:B st)(eX:arrOf st=X)(up:UpL kf lo X n)(pd:Pd kf X 0 (pl (pendingOf st)) lo)(q:∀t,B t->Pd kf (arrOf t) 0 (pl (pendingOf t)) (lo+n)->R (.yield (none,lo+n)) t):wpS (ao prog w) A E s (ruC N lo n) R st:=by
 subst eX;unfold ruC;refine au (i8 ?_);have fin:∀t3,B t3->Pd kf (arrOf t3) 0 (pl (pendingOf t3)) lo->(∀k,lo<=k->(arrOf t3)[k]?=(arrOf st)[k]?)->R (.yield (none,lo+n)) (gq t3 ((pendingOf t3).push (lo,n,0))):=λt3 b3 p3 f3=>by
  refine q _ (C.pen t3 _ b3) ?_;show Pd kf (arrOf t3) 0 (pl ((pendingOf t3).push (lo,n,0))) (lo+n);rw[Zm7,Pd.app];refine⟨lo,p3,rfl,h1,λi j a ij (jb:j<lo+n)=>?_,rfl⟩;rw[ZcX (f3 i a),ZcX (f3 j ⋯)]
  have:=up (i-lo) (j-lo) ⋯ ⋯
  rw[show lo+(i-lo)=i by lia,show lo+(j-lo)=j by lia]at this
  exact this
 cases hbk:(pendingOf st).back? with
 |none=>exact au (gu (aA (fin st hB pd λ_ _=>rfl)))
 |some x=>
  obtain⟨u1,u2,u3⟩:=x;dsimp only;refine au (fB (cw (λn r t=>B t/\r=(none,())/\Pd kf (arrOf t) 0 (pl (pendingOf t)) lo/\∀k,lo<=k->(arrOf t)[k]?=(arrOf st)[k]?) (Q:=λr t=>B t/\r=(none,())/\Pd kf (arrOf t) 0 (pl (pendingOf t)) lo/\∀k,lo<=k->(arrOf t)[k]?=(arrOf st)[k]?) (λn r t _ nn hI=>?_) (λr t hI=>hI) ⟨hB,rfl,pd,λ_ _=>rfl⟩) λr t hI=>?_)
  .obtain⟨bt,rfl,pt,ft⟩:=hI;refine au (i8 ?_);by_cases c:(pendingOf t).size>1
   .rw[if_pos c,getElem?_pos (pendingOf t) ((pendingOf t).size-2) ⋯]
    generalize (pendingOf t)[(pendingOf t).size-2]=y;obtain⟨y1,y2,y3⟩:=y;dsimp only;split
    .exact aA ⟨bt,rfl,pt,ft⟩
    .refine au (Zin C bt pt ⋯ (by rw[hz t bt];lia) λt3 b3 p3 z3 zt ot=>?_)
     rw[if_neg (by simp)]
     exact aA ⟨b3,rfl,p3,λk hk=>(ot k hk).trans (ft k hk)⟩
   .rw[if_neg c];exact aA ⟨bt,rfl,pt,ft⟩
  .obtain⟨bt,rfl,pt,ft⟩:=hI;dsimp only;refine au (gu (au (gu (aA (fin (gq t _) (C.pen t _ bt) ?_ ft)))));show Pd kf (arrOf t) 0 (pl ((pendingOf t).modify _ _)) lo;rw[ZpK];exact pt
theorem Zio(C:Cp (ao prog w) A E s kf G B)(hz:∀t,B t->(arrOf t).size=N)(n1:1<=N)(hB:B st)(hp:pendingOf st= #[])(h:∀t,B t->Up kf (arrOf t) N->Q () t):wpS (ao prog w) A E s sortRuns' Q st:=by
 rw[Zm8];refine au (i8 ?_);rw[hz st hB];generalize minRun' N N 0=mr;refine au (fB (cw (λn r t=>B t/\∃lo,r=(none,lo)/\(n<=lo/\lo<=N)/\Pd kf (arrOf t) 0 (pl (pendingOf t)) lo) (Q:=λr t=>B t/\r=(none,N)/\Pd kf (arrOf t) 0 (pl (pendingOf t)) N) (λn r t _ nn hI=>?_) (λr t hI=>?_) ⟨hB,0,rfl,⋯,by rw[hp];rfl⟩) λr t hI=>?_)
 .obtain⟨bt,lo,rfl,⟨l1,l2⟩,pd⟩:=hI;dsimp only;unfold ruB;by_cases c:lo ≥ N
  .rw[if_pos c]
   have:lo=N:=⋯
   subst this;exact aA ⟨bt,rfl,pd⟩
  rw[if_neg c];have fin:∀n':Nat,1<=n'->lo+n'<=N->∀t,B t->Pd kf (arrOf t) 0 (pl (pendingOf t)) (lo+n')->B t/\∃lo',((none,lo+n'):Option Unit×Nat)=(none,lo')/\(n+1<=lo'/\lo'<=N)/\Pd kf (arrOf t) 0 (pl (pendingOf t)) lo':=λn' a b t bt p=>⟨bt,_,rfl,⋯,p⟩
  refine au (ZpF (Cl.of C hz lo (pendingOf t) (arrOf t)) ⋯ ⋯ ⟨bt,rfl,λ_ _=>rfl⟩ λm t1 b1 m1 m2 up1=>?_)
  have b1':=b1;obtain⟨b1,e1,fr1⟩:=b1;dsimp only;by_cases cm:m<mr
  .rw[if_pos cm];refine au (j9 (wpAny_rule ⟨rfl,au (ZpH (Cl.of C hz lo (pendingOf t) (arrOf t)) ⋯ ⋯ b1' up1 λt2 b2 up2=>?_)⟩))
   obtain⟨b2,hpe,hfr⟩:=b2;rw[if_neg (by simp)]
   exact ZpL C hz ⋯ ⋯ b2 rfl up2 (by rw[hpe];exact pd.same λk _ hk=>hfr k hk) (fin _ ⋯ ⋯)
  .rw[if_neg cm];exact ZpL C hz ⋯ ⋯ b1 rfl up1 (by rw[e1];exact pd.same λk _ hk=>fr1 k hk) (fin _ ⋯ ⋯)
 .obtain⟨bt,lo,rfl,⟨l1,l2⟩,pd⟩:=hI
  have:lo=N:=⋯
  subst this;exact⟨bt,rfl,pd⟩
 .obtain⟨bt,rfl,pd⟩:=hI;dsimp only;refine au (fB (cw (λn r t=>B t/\r=(none,())/\(pendingOf t).size+n<=N/\Pd kf (arrOf t) 0 (pl (pendingOf t)) N) (Q:=λr t=>B t/\r=(none,())/\(pendingOf t).size<=1/\Pd kf (arrOf t) 0 (pl (pendingOf t)) N) (λn r t _ nn hI=>?_) (λr t hI=>?_) ⟨bt,rfl,by have:=pd.le;rw[Zlp]at this;lia,pd⟩) λr t hI=>?_)
  .obtain⟨bt,rfl,zn,pd⟩:=hI;refine au (i8 ?_);by_cases c:(pendingOf t).size<=1
   .rw[if_pos c];exact aA ⟨bt,rfl,c,pd⟩
   rw[if_neg c];have key:∀(c:Bool)(a k:Nat),a+1<k->(if c=true then a-1 else a)+1<k:=λc a k h=>by cases c<;>simp<;>lia
   refine au (Zin C bt pd (key _ _ _ ⋯) (by rw[hz t bt];lia) λt3 b3 p3 z3 zt ot=>?_)
   rw[if_neg (by simp)]
   exact aA ⟨b3,rfl,⋯,p3⟩
  .obtain⟨bt,rfl,zn,pd⟩:=hI;exact⟨bt,rfl,⋯,pd⟩
  .obtain⟨bt,rfl,zn,pd⟩:=hI;refine aA (h t bt ?_);rw[<-Zlp]at zn
   match pl (pendingOf t),zn,pd with
   |[],_,e=>exact λi j ij hj=>by cases e;lia
   |[(a,n)],_,⟨h1,h2,h3,h4⟩=>
    cases h1
    have:0+n=N:=h4
    rw[this]at h3;exact λi j ij hj=>h3 i j ⋯ ij hj
   |_::_::_,z,_=>simp at z
end
end ST
namespace ST
open PyProof.Rows
section
variable {prog:cE}{w:c6}{A:cV}{E:Vp}{s:aC}
theorem Zip(x y:ae):keyLt' (nu true) x y=(do
  let xs <-dW x
  let ys <-dW y
  for ((p,q),i)in (xs.toList.zip ys.toList).zipIdx do
   if !(<-eqBool p q)then return <-oneLt' (true&&i==0) p q
  return decide (xs.size<ys.size)):=rfl
noncomputable def ZpM(x:(ae×ae)×Nat)(_:Option Bool×Unit):Sem (ForInStep (Option Bool×Unit)):=match x with
 | ((p,q),i)=>do
  let b <-eqBool p q
  if(!b)=true then do
   let r <-oneLt' (true&&i==0) p q
   pure (ForInStep.done (some r,()))
  else pure (ForInStep.yield (none,()))
theorem Ziq(h:Q (decide (a<b)) s):wpAny (ao prog w) A (oneLt' f (.int a t) (.int b u)) Q E s:=by
 cases f with
 |true=>exact oneLt_int h
 |false=>
  rw[oneLt'_eq];simp only[bz,if_false];exact Wb (HT.ZjP _ _ _ _ _ _ _ _ _ _ (dI h))
theorem Zkx:∀{us vs:List ae}{ns ms:List Int},io us ns->io vs ms->∀(k:Nat)(Q:Option Bool×Unit->aC->Prop),(∀b,b=HT.ZaO ns ms->Q (some b,()) s)->(HT.ZaO ns ms=decide (us.length<vs.length)->Q (none,()) s)->wpAny (ao prog w) A (forIn ((us.zip vs).zipIdx k) (none,()) ZpM) Q E s:=by
 intro us vs ns ms hu
 induction hu generalizing vs ms with
 |nil=>
  intro hv k Q _ h2;simp only[List.zip_nil_left,List.zipIdx_nil,List.forIn_nil];refine Wp (h2 ?_);cases hv<;>simp[HT.ZaO]
 |@cons n t us ns hu ih=>
  intro hv k Q h1 h2;cases hv with
  |nil=>
   simp only[List.zip_nil_right,List.zipIdx_nil,List.forIn_nil];exact Wp (h2 (by simp[HT.ZaO]))
  |@cons m u vs ms hv=>
   rw[jg,List.zipIdx_cons,List.forIn_cons];obtain⟨e,he,hi⟩:=HT.ZjO A s n t m u;refine Wb (Wb (he prog w _ _ ?_));cases e with
   |true=>
    have:n=m:=hi.mp rfl
    subst this;refine Wp (ih hv (k+1) Q (λb hb=>h1 b ?_) λz=>h2 ?_)
    .rw[HT.ZW,if_pos rfl];exact hb
    .rw[HT.ZW,if_pos rfl,z];simp
   |false=>
    have:n≠m:=λz=>by have:=hi.mpr z;cases this
    refine Wb (Ziq (Wp (Wp (h1 _ ?_))));rw[HT.ZW,if_neg this]
def ZaD(h:Heap)(v:ae)(ns:List Int):Prop:=∃a o its n,v=.ref a/\h.get? a=some o/\o.cls=.type "tuple"/\o.data=.seq its n/\io its.toList ns
theorem Zir:∀{us:List ae}{ns ms:List Int},io us ns->io us ms->ns=ms:=by
 intro us ns ms h
 induction h generalizing ms with
 |nil=>intro g;cases g;rfl
 |cons n t h ih=>
  intro g;cases g with
  |cons _ _ g=>rw[ih g]
theorem ZaD.uniq(a:ZaD h v ns)(b:ZaD h v ms):ns=ms:=by
 obtain⟨p,o,its,n,rfl,e1,e2,e3,e4⟩:=a;obtain⟨p',o',its',n',e5,f1,f2,f3,f4⟩:=b;cases e5;rw[e1]at f1;cases f1;rw[e3]at f3;cases f3;exact Zir e4 f4
theorem ZaD.kept(a:ZaD h v ns)(k:∀p o,h.get? p=some o->o.cls=.type "tuple"->h'.get? p=some o):ZaD h' v ns:=by
 obtain⟨p,o,its,n,e0,e1,e2,e3,e4⟩:=a;exact⟨p,o,its,n,e0,k p o e1 e2,e2,e3,e4⟩
theorem ZsE(hx:ZaD s.heap x ns)(hy:ZaD s.heap y ms)(q:Q (HT.ZaO ns ms) s):wpAny (ao prog w) A (keyLt' (nu true) x y) Q E s:=by
 obtain⟨a,o,its,n,rfl,e1,e2,e3,e4⟩:=hx;obtain⟨b,o',its',n',rfl,f1,f2,f3,f4⟩:=hy;rw[Zip];refine Wb (iA e1 e3 (Wb (iA f1 f3 ?_)));show wpAny _ _ (forIn ((its.toList.zip its'.toList).zipIdx 0) (none,()) ZpM >>= _) _ _ _;refine Wb (Zkx e4 f4 0 _ (λb hb=>?_) λz=>?_)
 .rw[hb];exact Wp q
 .show wpAny _ _ (pure (decide (its.size<its'.size))) _ _ _;rw[show decide (its.size<its'.size)=HT.ZaO ns ms by rw[z];simp]
  exact Wp q
open Classical in
def kfH(h:Heap)(p:aJ):List Int:=if e:∃ns,ZaD h p.1 ns then e.choose else[]
theorem Zgb(e:ZaD h p.1 ns):kfH h p=ns:=by
 unfold kfH;rw[dif_pos ⟨ns,e⟩];exact(Exists.choose_spec (⟨ns,e⟩:∃ns,ZaD h p.1 ns)).uniq e
structure TB(a₀:Array aJ) (st:cx):Prop where
 perm:(arrOf st).Perm a₀
 kind:kindOf st=nu true
 fail:gP st=none
theorem TB.size{st:cx}(h:TB a₀ st):(arrOf st).size=a₀.size:=h.perm.size_eq
theorem ZsF(hk:∀p∈a₀.toList,∃ns,ZaD s.heap p.1 ns):Cp (ao prog w) A E s (kfH s.heap) (λp=>∃ns,ZaD s.heap p.1 ns) (TB a₀) where
 cmp st p q Q h hp hq g:=by
  obtain⟨ns,t1⟩:=hp;obtain⟨ms,t2⟩:=hq;rw[Zgb t1,Zgb t2]at g;rw[lt'_eq];refine au (i8 ?_);rw[h.kind];exact au (j9 (jS (ZsE t1 t2 ⟨rfl,aA g⟩)))
 gal st g h:=⟨h.perm,h.kind,h.fail⟩
 pen st p h:=⟨h.perm,h.kind,h.fail⟩
 put st xs h hp:=⟨hp.trans h.perm,h.kind,h.fail⟩
 good st h p hp:=hk p ((bV.mp h.perm).mem_iff.mp hp)
 fail st h:=h.fail
theorem Zis(hk:∀p∈a₀.toList,∃ns,ZaD s.heap p.1 ns)(n1:1<=a₀.size):wpS (ao prog w) A E s sortRuns' (λ_ t=>TB a₀ t/\Up (kfH s.heap) (arrOf t) a₀.size) (kH (nu true) a₀ #[] 7 none):=
 Zio (B:=TB a₀) (N:=a₀.size) (ZsF hk) (λ_ h=>h.size) n1 ⟨lw _,rfl,rfl⟩ rfl λt h u=>⟨h,u⟩
theorem Zm9(h:ZaD s.heap v (n::ns))(q:∀t,Q (some (.int n t)) s):wpAny (ao prog w) A (mQ v) Q E s:=by
 obtain⟨a,o,its,m,rfl,e1,e2,e3,e4⟩:=h;have e:mQ (.ref a)=(do
  if(<-typeOf (.ref a)) != .type "tuple" then return none
  return (<-dW (.ref a))[0]?):=rfl
 rw[e];refine Wb (m8 ⟨o,e1,e2⟩ ?_);rw[if_neg (by decide)]
 refine Wb (iA e1 e3 (Wp ?_));cases its with
 |mk l=>
  cases e4 with
  |cons n t h=>exact q t
theorem Zgc:∀{vs:List ae},(∀v∈vs,∃n ns,ZaD s.heap v (n::ns))->∀(Q:List (Option ae)->aC->Prop),(∀us ns,io us ns->us.length=vs.length->Q (us.map some) s)->wpAny (ao prog w) A (vs.mapM mQ) Q E s
 |[],_,Q,q=>by
  rw[List.mapM_nil];exact Wp (q [] [] .nil rfl)
 |v::vs,h,Q,q=>by
  obtain⟨n,ns,hv⟩:=h v (by simp)
  rw[List.mapM_cons];refine Wb (Zm9 hv λt=>Wb (Zgc (λx hx=>h x (aF _ hx)) _ λus ms hi hl=>Wp ?_));exact q (.int n t::us) (n::ms) (.cons n t hi) (by simp[hl])
theorem Zlq(h:∀v∈vs,∃n ns,ZaD s.heap v (n::ns))(ne:vs≠[])(q:Q (nu true) s):wpAny (ao prog w) A (keyKind' vs.toArray) Q E s:=by
 rw[keyKind'_eq,List.mapM_toArray];simp only[map_eq_pure_bind,bind_assoc,pure_bind];refine Wb (Zgc h _ λus ns hi hl=>?_);have a1:((us.map some).toArray.all λx=>x.isSome)=true:=by simp
 rw[if_pos a1];refine Wb (wpAny_rule ?_);have a2:(us.map some).toArray.filterMap id=us.toArray:=by simp
 rw[a2,oneTypeOnly'_eq,List.mapM_toArray,mapM_typeOf_ints hi];cases us with
 |nil=>exact absurd (dE hl.symm) ne
 |cons u us=>
  simp only[map_pure,pure_bind];have b0:(List.map (λ_=>bB "int") (u::us)).toArray[0]?=some (bB "int"):=by simp
  have b1:((List.map (λ_=>bB "int") (u::us)).toArray.all λx=>x==bB "int")=true:=by
   rw[List.all_toArray,nj,c9];exact λ_ _=>rfl
  rw[b0];show wpAny _ _ (pure (if((List.map (λ_=>bB "int") (u::us)).toArray.all λx=>x==bB "int")=true then some (bB "int")else none) >>= _) _ _ _
  rw[if_pos b1];exact Wb (Wp (Wp q))
theorem ZpN(ho:s.heap.get? a=some (aQ "list" vs.toArray n))(hk:∀v∈vs,∃k ns,ZaD s.heap v (k::ns))(h64:vs.length<1000000)(q:∀out:List ae,out.Perm vs->(∀i j (hi:i<out.length) (hj:j<out.length),i<=j->∀ns ms,ZaD s.heap out[i] ns->ZaD s.heap out[j] ms->HT.ZaO ms ns=false)->P (.done (.ret .none)) {s with heap:=sortedHeap s.heap a vs out.toArray}):wpAny (ao prog w) A (dP.«list.sort» ⟨[.ref a],[]⟩) P E s:=by
 have al:a<s.heap.objs.size:=Hz ho;obtain⟨e1,o1⟩:∃e1,(s.heap.update a (aO λ_=> #[])).get? a=some (aQ "list" #[] e1):=⟨_,gZ ho (λ_=> #[])⟩;have o2:(((s.heap.update a (aO λ_=> #[])).push (aQ "tuple" vs.toArray 0)).push (aQ "list" #[] 0)).get? a=some (aQ "list" #[] e1):=
  Hq _ (Hq _ o1)
 have kp:∀v ns,ZaD s.heap v ns->ZaD (((s.heap.update a (aO λ_=> #[])).push (aQ "tuple" vs.toArray 0)).push (aQ "list" #[] 0)) v ns:=λv ns ht=>ht.kept λp o ep ec=>by
  have:p≠a:=λz=>by
   subst z;rw[ho]at ep;cases ep
   revert ec
   show ¬(bB "list"=bB "tuple")
   decide
  exact Hq _ (Hq _ ((aL _ _ (cu this)).trans ep))
 rw[list_sort_plain];refine Wb (iA ho rfl (Wb (listUpdate_at ho rfl (Wb (seqEpoch_at o1 rfl (Wb (wpAny_newTuple (Wb (jZ (wpAny_holding ?_))))))))));show wpAny _ _ _ P E {s with heap:=((s.heap.update a (aO λ_=> #[])).push (aQ "tuple" vs.toArray 0)).push (aQ "list" #[] 0)};have vz:vs.toArray.size=vs.length:=by simp
 have fin:∀xs:Array aJ,xs.Perm (pairsOf vs)->(∀i j,i<=j->j<vs.length->le (ky (kfH (((s.heap.update a (aO λ_=> #[])).push (aQ "tuple" vs.toArray 0)).push (aQ "list" #[] 0))) xs i) (ky (kfH (((s.heap.update a (aO λ_=> #[])).push (aQ "tuple" vs.toArray 0)).push (aQ "list" #[] 0))) xs j))->
   P (.done (.ret .none)) {s with heap:=sortedHeap s.heap a vs (xs.map (·.2))}:=by
  intro xs hp hu;have hl:xs.toList.Perm (vs.zip vs):=by rw[<-pairsOf_toList];exact bV.mp hp
  have hm:∀p∈xs.toList,p.1=p.2/\p.1∈vs:=λp hp=>mem_zip_self (hl.mem_iff.mp hp);have e2:(xs.toList.map (·.2)).Perm vs:=by
   have:=hl.map (λp:aJ=>p.2)
   rwa [List.map_snd_zip (aj _)]at this
  have ea:xs.map (·.2)=(xs.toList.map (·.2)).toArray:=by
   apply fC.mp;simp
  rw[ea];refine q _ e2 λi j hi hj ij ns ms t1 t2=>?_;have li:i<xs.size:=by simpa using hi
  have lj:j<xs.size:=by simpa using hj
  have lv:xs.size=vs.length:=by rw[hp.size_eq,kJ]
  have kk:∀k (hk:k<xs.size) (ns:List Int),ZaD s.heap (xs[k]).2 ns->ky (kfH (((s.heap.update a (aO λ_=> #[])).push (aQ "tuple" vs.toArray 0)).push (aQ "list" #[] 0))) xs k=ns:=λk hk ns ht=>by
   unfold ky;rw[getElem?_pos xs k hk];exact Zgb (kp _ _ (by rw[(hm xs[k] (by simp)).1];exact ht))
  have:=hu i j ij ⋯
  rw[kk i li ns (by simpa using t1),kk j lj ms (by simpa using t2)]at this
  exact this
 have Zae:∀st':cx,(arrOf st').Perm (pairsOf vs)->gP st'=none->(∀i j,i<=j->j<vs.length->le (ky (kfH (((s.heap.update a (aO λ_=> #[])).push (aQ "tuple" vs.toArray 0)).push (aQ "list" #[] 0))) (arrOf st') i) (ky (kfH (((s.heap.update a (aO λ_=> #[])).push (aQ "tuple" vs.toArray 0)).push (aQ "list" #[] 0))) (arrOf st') j))->
   wpAny (ao prog w) A (do
    let b <-seqEpoch a
    j8 (.ref a) λ_=>(arrOf st').map (·.2)
    if let some e:=gP st' then rule "list.sort.comparison-raised";throw e
    if(b != e1)=true then rule "list.sort.modified";raiseError "ValueError" "list modified during sort"
    ret .none) P E {s with heap:=((s.heap.update a (aO λ_=> #[])).push (aQ "tuple" vs.toArray 0)).push (aQ "list" #[] 0)}:=by
  intro st' hp hf hu;refine Wb (seqEpoch_at o2 rfl (Wb (listUpdate_at o2 rfl ?_ (hsz2:=?_))))
  .rw[hf];simp only[bne_self_eq_false,bz,if_false];exact Wp (fin _ hp hu)
  .rw[Array.size_map,hp.size_eq,kJ,dh];lia
 by_cases c:vs.toArray.size<2
 .rw[if_pos c,if_pos c];refine Wb (Wp ?_);show wpAny _ _ ((pure ():StateT cx Sem Unit).run (kH general' (vs.toArray.zip vs.toArray) #[] 7 none) >>= _) _ _ _;rw[StateT.run_pure];exact Wb (Wp (Zae (kH general' (vs.toArray.zip vs.toArray) #[] 7 none) (lw _) rfl λi j ij jn=>by rw[show i=j by lia];exact Zcv _))
 .rw[if_neg c,if_neg c];refine Wb (Zlq (λv hv=>?_) (λz=>?_) (Wb (wpAny_mono (Zis (a₀:=pairsOf vs) (λp hp=>?_) (by rw[kJ];lia)) ?_ λ_ _ z=>z)))
  .obtain⟨k,ns,ht⟩:=hk v hv;exact⟨k,ns,kp _ _ ht⟩
  .rw[z]at c;simp at c
  .rw[pairsOf_toList]at hp;obtain⟨k,ns,ht⟩:=hk p.1 (mem_zip_self hp).2;exact⟨_,kp _ _ ht⟩
  .rintro⟨⟨⟩,t'⟩ s' ⟨rfl,tb,hu⟩;rw[kJ]at hu;exact Zae t' tb.perm tb.fail hu
theorem Zky(hl:s.heap.IsList l vs.toArray)(hk:∀v∈vs,∃k ns,ZaD s.heap v (k::ns))(h64:vs.length<1000000)(q:∀out:List ae,out.Perm vs->(∀i j (hi:i<out.length) (hj:j<out.length),i<=j->∀ns ms,ZaD s.heap out[i] ns->ZaD s.heap out[j] ms->HT.ZaO ms ns=false)->Q (.ref (s.heap.objs.size+1)) {s with heap:=sortedAll s.heap vs out.toArray}):wpAny (ao prog w) A (call (.builtin "sorted") [.ref l]) Q E s:=by
 have z1:((s.heap.push (aQ "list" #[] 0)).update s.heap.objs.size (aO (· ++ vs.toArray))).objs.size=s.heap.objs.size+1:=by rw[kc,kM]
 have o1:(((s.heap.push (aQ "list" #[] 0)).update s.heap.objs.size (aO (· ++ vs.toArray))).push (aQ "list" vs.toArray 0)).get? (s.heap.objs.size+1)=some (aQ "list" vs.toArray 0):=by
  rw[<-z1];exact aG _ rfl
 have kp:∀p o,s.heap.get? p=some o->(((s.heap.push (aQ "list" #[] 0)).update s.heap.objs.size (aO (· ++ vs.toArray))).push (aQ "list" vs.toArray 0)).get? p=some o:=λp o ep=>
  Hq _ ((aL _ _ (bG (Hz ep))).trans (Hq _ ep))
 refine Calls.call_function_entry kind_sorted plain_sorted entry_sorted (args_sorted1 _) ?_;unfold dP.«sorted»;refine Wb (m:=checkCount "sorted" 1 1 _) (Wp (Wb (collect_list hl (Wb (jZ ?_)))));show wpAny _ _ _ _ _ {s with heap:=((s.heap.push (aQ "list" #[] 0)).update s.heap.objs.size (aO (· ++ vs.toArray))).push (aQ "list" vs.toArray 0)};rw[z1];refine Wb (wpAny_holding (cZ slot_list_sort ⟨_,o1,rfl⟩ entry_list_sort (ZpN o1 (λv hv=>?_) h64 λout hp hs=>⟨_,rfl,Wp ⟨_,rfl,q out hp λi j hi hj ij ns ms t1 t2=>hs i j hi hj ij ns ms (t1.kept λp o e _=>kp p o e) (t2.kept λp o e _=>kp p o e)⟩⟩) (args_list_sort _)));obtain⟨k,ns,ht⟩:=hk v hv;exact⟨k,ns,ht.kept λp o e _=>kp p o e⟩
end
end ST
namespace ST
def ins(x:List Int):List (List Int)->List (List Int)
 |[]=>[x]
 |y::r=>if lt y x=true then y::ins x r else x::y::r
def srt:List (List Int)->List (List Int)
 |[]=>[]
 |x::r=>ins x (srt r)
theorem ZdS(x:List Int):∀l,(ins x l).Perm (x::l)
 |[]=>.refl _
 |y::r=>by
  unfold ins;split
  .exact((ZdS x r).cons y).trans (.swap x y r)
  .exact .refl _
theorem Zbq:∀l,(srt l).Perm l
 |[]=>.refl _
 |x::r=>(ZdS x (srt r)).trans ((Zbq r).cons x)
theorem Zlr(x:List Int):∀l,l.Pairwise le->(ins x l).Pairwise le
 |[],_=>List.pairwise_singleton _ _
 |y::r,h=>by
  obtain⟨h1,h2⟩:=jy.mp h;unfold ins;split
  .rename_i c;refine jy.mpr ⟨λz hz=>?_,Zlr x r h2⟩;rcases ay.mp ((ZdS x r).mem_iff.mp hz)with rfl|hz
   .exact Zb2 c
   .exact h1 z hz
  .rename_i c;have c:le x y:=by unfold le;simpa using c
   refine jy.mpr ⟨λz hz=>?_,h⟩;rcases ay.mp hz with rfl|hz
   .exact c
   .exact Zcw c (h1 z hz)
theorem Zgd:∀l,(srt l).Pairwise le
 |[]=>.nil
 |x::r=>Zlr x _ (Zgd r)
theorem Zge(hp:a.Perm b)(h:a.Pairwise le):a=srt b:=
 j3 (λx y _ _ h1 h2=>ZeE h2 h1) h (Zgd b) (hp.trans (Zbq b).symm)
end ST
namespace DL
open PyProof.Rows L2 PySem.W
theorem ZbE{F:α->β->Prop}{us us':List β}(hp:us'.Perm us):∀{xs:List α},Paired F xs us->∃xs',xs'.Perm xs/\Paired F xs' us':=by
 induction hp with
 |nil=>intro xs h;exact⟨xs,.refl _,h⟩
 |@cons a l1 l2 h ih=>
  intro xs r;cases r with
  |cons r1 r2=>
   obtain⟨xs',p1,p2⟩:=ih r2;exact⟨_::xs',p1.cons _,.cons r1 p2⟩
 |swap a b l=>
  intro xs r;cases r with
  |cons r1 r2=>
   cases r2 with
   |cons r2 r3=>exact⟨_::_::_,.swap _ _ _,.cons r2 (.cons r1 r3)⟩
 |trans h1 h2 i1 i2=>
  intro xs r;obtain⟨x1,p1,q1⟩:=i2 r;obtain⟨x2,p2,q2⟩:=i1 q1;exact⟨x2,p2.trans p1,q2⟩
theorem Zit{K:Fg}(hp:vs'.Perm vs):∀{ds:List D},Reps K H α vs ds->∃ds',ds'.Perm ds/\Reps K H α vs' ds':=by
 induction hp with
 |nil=>intro xs h;exact⟨xs,.refl _,h⟩
 |@cons a l1 l2 h ih=>
  intro xs r;cases r with
  |cons r1 r2=>
   obtain⟨xs',p1,p2⟩:=ih r2;exact⟨_::xs',p1.cons _,.cons r1 p2⟩
 |swap a b l=>
  intro xs r;cases r with
  |cons r1 r2=>
   cases r2 with
   |cons r2 r3=>exact⟨_::_::_,.swap _ _ _,.cons r2 (.cons r1 r3)⟩
 |trans h1 h2 i1 i2=>
  intro xs r;obtain⟨x1,p1,q1⟩:=i2 r;obtain⟨x2,p2,q2⟩:=i1 q1;exact⟨x2,p2.trans p1,q2⟩
def Zod(K:Fg)(H:Hp)(x:V)(ns:List Int):Prop:=∃q,x=.ref q/\SqT K H q (ns.map V.int)
section
variable {X:Cx}
def ZsG(X:Cx):List V->Hp->VK->Prop:=λvs H Q=>∃p xs,vs=[.ref p]/\SqL X.K H p xs/\xs.length<1000000/\(∀x∈xs,∃k ns,Zod X.K H x (k::ns))/\
 ∀l ys,H l=none->ys.Perm xs->(∀i j (hi:i<ys.length) (hj:j<ys.length),i<=j->∀ns ms,Zod X.K H ys[i] ns->Zod X.K H ys[j] ms->ST.le ns ms)->Q (.ref l) (upd H l (.lst ys))
theorem ZbU(I:Inv X pins σ H s)(h:Zod X.K H x ns)(r:ZZ x u):ST.ZaD s.heap u ns:=by
 obtain⟨q,rfl,hq⟩:=h;cases r;obtain⟨its,r2,⟨o,k1,k2,n,k3⟩,_⟩:=I.tuple hq;exact⟨q,o,its.toArray,n,rfl,k1,k2,k3,by simpa using ZgI r2⟩
theorem ZcZ:Zbt X (.builtin "sorted") (ZsG X):=by
 intro pins s σ H vs us Q I rs hh;obtain⟨p,xs,e,hl,h64,hk,q⟩:=hh;subst e;obtain⟨u,rfl,ru⟩:=ZbM rs;cases ru;obtain⟨its,rv,pl,hz⟩:=I.list hl;refine ST.Zky (vs:=its) pl.isList (λv hv=>?_) (by rw[<-rv.length];exact h64) λout hp hs=>?_
 .obtain⟨i,hi,rfl⟩:=bF hv;obtain⟨x,e1,e2⟩:=Zfd rv (Gq hi);obtain⟨k,ns,hx⟩:=hk x (c7 e1);exact⟨k,ns,ZbU I hx e2⟩
 .obtain⟨ys,p1,p2⟩:=ZbE hp rv;obtain⟨n,hn⟩:=sortedAll_at s.heap its out.toArray;refine⟨.ref _,_,I.laid (t':=s.toks) (o:=.lst ys) (λ_ _ h=>sortedAll_old h) (gj _) ⟨by rw[p1.length_eq];exact hz,out,n,p2,hn⟩,rfl,q _ ys (I.hok.fresh (gj _)) p1 λi j hi hj ij ns ms k1 k2=>?_⟩
  have hl:ys.length=out.length:=ZS.length p2;have a1:∀i (hi:i<ys.length),ZZ ys[i] (out[i]'⋯):=λi hi=>by
   obtain⟨u,e1,e2⟩:=ZS.get p2 (Gq hi);rw[aa ⋯]at e1
   cases e1;exact e2
  exact hs i j ⋯ ⋯ ij ns ms (ZbU I k1 (a1 i hi)) (ZbU I k2 (a1 j hj))
theorem Zc0:bL "sorted"=some (.builtin "sorted"):=by decide +kernel
def kyD:D->Option (List Int)
 |.tup xs=>(match Zdj xs with|some (k::ns)=>some (k::ns)|_=>none)
 |_=>none
def ksD:List D->Option (List (List Int))
 |[]=>some []
 |d::r=>match kyD d,ksD r with|some k,some ks=>some (k::ks)|_,_=>none
def tupD(ns:List Int):D:=.tup (ns.map D.int)
def Ziu(ds:List D)(M:Sto):Out D:=if ds.length<1000000 then(match ksD ds with|some ks=>.ok (.ref M.length) (M++[.lst ((ST.srt ks).map tupD)])|none=>.bad)else .bad
def bSrt:W3:=λds M=>match ds with
 |[.ref n]=>(match M[n]? with|some (.lst xs)=>Ziu xs M|none=>.bad)
 |[.rol xs]=>Ziu xs M
 |_=>.bad
theorem ZeF:∀{xs:List D}{a:List Int},Zdj xs=some a->xs=a.map D.int
 |[],a,e=>by cases e;rfl
 |x::r,a,e=>by
  cases x with
  |int i=>
   unfold Zdj at e
   split at e
   .rename_i is e1;cases e;rw[ZeF e1];rfl
   .cases e
  |_=>cases e
theorem ZbV:∀a:List Int,Zdj (a.map D.int)=some a
 |[]=>rfl
 |i::r=>by rw[aK,Zdj,ZbV r]
theorem ZpO(h:kyD d=some ns):d=tupD ns/\∃k r,ns=k::r:=by
 unfold kyD at h
 split at h
 .rename_i xs
  split at h
  .rename_i k r e;cases h;exact⟨by unfold tupD;rw[<-ZeF e],k,r,rfl⟩
  .cases h
 .cases h
theorem Zls:∀{ds:List D}{ks:List (List Int)},ksD ds=some ks->ds=ks.map tupD/\∀k∈ks,k≠[]
 |[],ks,e=>by cases e;exact⟨rfl,λk hk=>by cases hk⟩
 |d::r,ks,e=>by
  unfold ksD at e
  split at e
  .rename_i k ks' e1 e2;cases e;obtain⟨h1,h2⟩:=Zls e2;obtain⟨h3,k0,r0,h4⟩:=ZpO e1;refine⟨by rw[aK,<-h1,<-h3],λx hx=>?_⟩
   rcases ay.mp hx with rfl|hx
   .rw[h4];exact List.cons_ne_nil _ _
   .exact h2 x hx
  .cases e
theorem Zkz(h:tupD a=tupD b):a=b:=by
 have:Zdj (a.map D.int)=Zdj (b.map D.int):=by unfold tupD at h;rw[D.tup.inj h]
 rw[ZbV,ZbV]at this;exact aM this
theorem ZdT(r:Rep X.K H α v (tupD ns)):Zod X.K H v ns:=by
 cases r with
 |tup hp rp=>
  have:=Zh9 rp (ZbV ns)
  subst this;exact⟨_,rfl,SqT.of hp⟩
theorem ZeG:CO X ξ (ZsG X) bSrt:=by
 intro H α M vs ds Q h rs q;have fin:∀(p:Addr)(xs:List V)(ys:List D),SqL X.K H p xs->Reps X.K H α xs ys->OP X.K H α ξ Q (Ziu ys M)->ZsG X [.ref p] H Q:=λp xs ys k1 k2 q=>by
  unfold Ziu at q
  split at q
  .rename_i c;cases e:ksD ys with
   |none=>simp only[e]at q;exact q.elim
   |some ks=>
    simp only[e]at q;obtain⟨e1,e2⟩:=Zls e;subst e1;refine⟨p,xs,rfl,k1,by rw[k2.length];exact c,λx hx=>?_,λl zs hl hp hs=>?_⟩
    .obtain⟨i,hi,rfl⟩:=bF hx;obtain⟨d,d1,d2⟩:=ZdO k2 (Gq hi);obtain⟨k,hk,rfl⟩:=aV.mp (c7 d1)
     match k,e2 k hk,d2 with
     |a::b,_,d2=>exact⟨a,b,ZdT d2⟩
     |[],z,_=>exact absurd rfl z
    .obtain⟨ds',p1,p2⟩:=Zit hp k2;obtain⟨ks',p3,p4⟩:∃ks':List (List Int),ks'.Perm ks/\ds'=ks'.map tupD:=by
      have:Paired (λ(a:List Int) d=>d=tupD a) ks (ks.map tupD):=by
       clear k2 c e p1 hp e2 q
       induction ks with
       |nil=>exact .nil
       |cons a b ih=>exact .cons rfl ih
      obtain⟨ks',q1,q2⟩:=ZbE p1 this;refine⟨ks',q1,?_⟩;clear q1 p1 p2
      induction q2 with
      |nil=>rfl
      |cons h _ ih=>rw[aK,h,ih]
     subst p4;have hup:ks'.Pairwise ST.le:=by
      refine jD.mpr λi j hi hj ij=>?_;have lz:zs.length=ks'.length:=by rw[p2.length,af]
      have kk:∀i (hi:i<ks'.length),Zod X.K H (zs[i]'⋯) ks'[i]:=λi hi=>by
       obtain⟨d,d1,d2⟩:=ZdO p2 (Gq (show i<zs.length by lia))
       rw[bn,aa hi]at d1;cases d1;exact ZdT d2
      exact hs i j ⋯ ⋯ (dC ij) _ _ (kk i hi) (kk j hj)
     rw[ST.Zge p3 hup]at p2;exact q _ _ (α++[l]) (Ext.new hl) (h.new hl p2) (.ref ⟨h.last l,Kn.lst ZB⟩)
  .exact q.elim
 cases rs with
 |nil=>exact q.elim
 |@cons _ x _ _ r tz=>
  cases tz with
  |cons _ _=>cases r<;>exact q.elim
  |nil=>
   cases r with
   |@rol p xs ds hp rp=>exact fin p xs ds hp.sq rp q
   |@ref p n hp=>
    cases em:M[n]? with
    |none=>simp only[bSrt,em]at q;exact q.elim
    |some so=>
     cases so with
     |lst es=>
      simp only[bSrt,em]at q;obtain⟨xs,g1,g2⟩:=h.at hp em;exact fin p xs es (SqL.of g1) g2 q
   |_=>exact q.elim
end
end DL
namespace ST
open PyProof.Rows
section
variable {E:Vp}{vs:List ae}
theorem Zna{st:cx}(ho:s.heap.get? a=some (aQ "list" #[] e1))(hk:s.heap.get? kS=some (aQ "list" keys e))(hka:kS≠a)(hsz:keys.size=vs.length)(h64:vs.length<1000000)(hp:(arrOf st).Perm (keys.zip vs.toArray))(hfl:gP st=none)(h:∀h' c,(∀b o,b≠a->b≠kS->s.heap.get? b=some o->h'.get? b=some o)->(∃o,h'.get? kS=some o)->h'.get? a=some (aQ "list" ((arrOf st).map (·.2)) c)->P (.done (.ret .none)) {s with heap:=h'}):
  wpAny (ao prog w) A (ksk_tail a false e1 (.ref kS) st) P E s:=by
 have hsz2:(arrOf st).size=vs.length:=by rw[hp.size_eq,Array.size_zip,hsz,ah,nq]
 have s1:=fw s.heap kS (aO λ_=>(#[]:Array ae));have na1:(s.heap.update kS (aO λ_=>(#[]:Array ae))).get? a=some (aQ "list" #[] e1):=(s1.2 a hka.symm).trans ho;obtain⟨ck,hck⟩:∃ck,(s.heap.update kS (aO λ_=>(#[]:Array ae))).get? kS=some (aQ "list" #[] ck):=⟨_,gZ hk λ_=> #[]⟩;have s2:=fw (s.heap.update kS (aO λ_=>(#[]:Array ae))) a (aO λ_=>(arrOf st).map (·.2));obtain⟨c2,hc2⟩:∃c2,((s.heap.update kS (aO λ_=>(#[]:Array ae))).update a (aO λ_=>(arrOf st).map (·.2))).get? a=some (aQ "list" ((arrOf st).map (·.2)) c2):=⟨_,gZ na1 λ_=>(arrOf st).map (·.2)⟩;unfold ksk_tail
 try dsimp only
 refine Wb (listUpdate_at hk rfl ?_ (by rw[hsz,dh];lia) (cH _))
 refine Wb (wpAny_letGo ?_);refine Wb (seqEpoch_at na1 rfl ?_);simp only[bz,if_false];refine Wb (listUpdate_at na1 rfl ?_ (cH _) (by rw[Array.size_map,hsz2,dh];lia))
 rw[hfl];simp only[bne_self_eq_false,bz,if_false];refine Wp (h _ c2 (λb o n1 n2 q=>?_) ⟨_,(s2.2 kS hka).trans hck⟩ hc2);exact(s2.2 b n1).trans ((s1.2 b n2).trans q)
theorem ZpP(ho:s.heap.get? a=some (aQ "list" #[] e1))(hk:s.heap.get? kS=some (aQ "list" keys e))(hka:kS≠a)(hsz:keys.size=vs.length)(h64:vs.length<1000000)(hu:∀u∈keys.toList,∃n ns,ZaD s.heap u (n::ns))(h:∀(out:List (ae×ae)) h' c,out.Perm (keys.toList.zip vs)->(∀i j (hi:i<out.length) (hj:j<out.length),i<=j->∀ns ms,ZaD s.heap out[i].1 ns->ZaD s.heap out[j].1 ms->le ns ms)->(∀b o,b≠a->b≠kS->s.heap.get? b=some o->h'.get? b=some o)->(∃o,h'.get? kS=some o)->h'.get? a=some (aQ "list" (out.map (·.2)).toArray c)->P (.done (.ret .none)) {s with heap:=h'}):
  wpAny (ao prog w) A (ksk_end a false vs.toArray e1 (.ref kS) keys) P E s:=by
 have hzs:(keys.zip vs.toArray).size=vs.length:=by rw[Array.size_zip,hsz,ah,nq]
 have fin:∀st':cx,(arrOf st').Perm (keys.zip vs.toArray)->gP st'=none->(∀i j,i<=j->j<vs.length->le (ky (kfH s.heap) (arrOf st') i) (ky (kfH s.heap) (arrOf st') j))->wpAny (ao prog w) A (ksk_tail a false e1 (.ref kS) st') P E s:=λst' hp hf hs=>by
  refine Zna ho hk hka hsz h64 hp hf λh' c k1 k2 k3=>?_;have hl:(arrOf st').toList.Perm (keys.toList.zip vs):=by
   have:=bV.mp hp
   rwa [ksk_zip]at this
  have lz:(arrOf st').size=vs.length:=by rw[hp.size_eq,hzs]
  refine h (arrOf st').toList h' c hl (λi j hi hj ij ns ms t1 t2=>?_) k1 k2 (by
   have:(arrOf st').map (·.2)=((arrOf st').toList.map (·.2)).toArray:=by apply fC.mp;simp
   rw[<-this];exact k3)
  have hi':i<(arrOf st').size:=by simpa using hi
  have hj':j<(arrOf st').size:=by simpa using hj
  have kk:∀k (hk:k<(arrOf st').size) (ns:List Int),ZaD s.heap ((arrOf st')[k]).1 ns->ky (kfH s.heap) (arrOf st') k=ns:=λk hk ns ht=>by
   unfold ky;rw[getElem?_pos (arrOf st') k hk];exact Zgb ht
  have q:=hs i j ij ⋯
  rw[kk i hi' ns (by simpa using t1),kk j hj' ms (by simpa using t2)]at q
  exact q
 unfold ksk_end;simp only[bz,if_false];by_cases h2:vs.toArray.size<2
 .rw[if_pos h2,if_pos h2];refine Wb (Wp ?_);rw[StateT.run_pure];refine Wb (Wp ?_);rw[ah]at h2;exact fin (kH general' (keys.zip vs.toArray) #[] 7 none) (lw _) rfl λi j ij jn=>by rw[show i=j by lia];exact Zcv _
 .rw[if_neg h2,if_neg h2];rw[ah]at h2;have ek:keys=keys.toList.toArray:=by simp
  have kw:wpAny (ao prog w) A (keyKind' keys) (λk s'=>k=nu true/\s'=s) E s:=by
   rw[ek];exact Zlq hu (λz=>by have:=congrArg nI z;simp at this;rw[this]at hsz;simp at hsz;lia) ⟨rfl,rfl⟩
  refine Wb (wpAny_mono kw (λk s' hk'=>?_) λ_ _ e=>e);obtain⟨rfl,rfl⟩:=hk';refine Wb (wpAny_mono (Zis (a₀:=keys.zip vs.toArray) (λp hp=>?_) (by rw[hzs];lia)) ?_ λ_ _ e=>e)
  .rw[ksk_zip]at hp;obtain⟨x,y⟩:=p;obtain⟨n,ns,ht⟩:=hu x (gU hp).1;exact⟨_,ht⟩
  .rintro⟨⟨⟩,t'⟩ s2 ⟨rfl,tb,hup⟩;rw[hzs]at hup;exact fin t' tb.perm tb.fail hup
theorem Znb(J:List ae->aC->Prop)(ho:s.heap.get? a=some (aQ "list" #[] e1))(hk:s.heap.get? kS=some (aQ "list" #[] 0))(hka:kS≠a)(h64:vs.length<1000000)(hJ:J [] s)(turn:∀i v kL s' na ea nk ek,vs[i]?=some v->kL.length=i->J kL s'->s'.heap.get? a=some (aQ "list" na ea)->s'.heap.get? kS=some (aQ "list" nk ek)->wpAny (ao prog w) A (call f [v]) (λu s''=>J (kL++[u]) s''/\s''.heap.get? a=some (aQ "list" na ea)/\s''.heap.get? kS=some (aQ "list" nk ek)) (λ_ _=>False) s')(upd:∀kL s' h',J kL s'->(∀b o,b≠kS->s'.heap.get? b=some o->h'.get? b=some o)->(∃o,h'.get? kS=some o)->J kL {s' with heap:=h'})(key:∀kL s',J kL s'->∀u∈kL,∃n ns,ZaD s'.heap u (n::ns))(h:∀kL s' (out:List (ae×ae)) h' c,J kL s'->kL.length=vs.length->out.Perm (kL.zip vs)->(∀i j (hi:i<out.length) (hj:j<out.length),i<=j->∀ns ms,ZaD s'.heap out[i].1 ns->ZaD s'.heap out[j].1 ms->le ns ms)->(∀b o,b≠a->b≠kS->s'.heap.get? b=some o->h'.get? b=some o)->(∃o,h'.get? kS=some o)->h'.get? a=some (aQ "list" (out.map (·.2)).toArray c)->P (.done (.ret .none)) {s' with heap:=h'}) :
  wpAny (ao prog w) A (ksk_rest a f false vs.toArray e1 (.ref kS)) P E s:=by
 unfold ksk_rest;refine Wb (wpAny_rule ?_)
 first
  |rw[List.forIn_toArray]
  | (rw[<-fG];simp only[mJ])
  |rw[<-fG]
 refine Wb (ksk_fold (λi s'=>∃kA e,J kA.toList s'/\s'.heap.get? a=some (aQ "list" #[] e1)/\s'.heap.get? kS=some (aQ "list" kA e)/\kA.size=i) vs 0 s ⟨#[],0,hJ,ho,hk,rfl⟩ ?step ?done)
 case step=>
  rintro j x s' hx ⟨kA,e,hJ',ho',hk',hz⟩;rw[eQ]at hz;have hj:j<vs.length:=(ar.mp hx).1;refine Wb (jS (wpAny_mono (turn j x kA.toList s' _ _ _ _ hx (by simpa using hz) hJ' ho' hk') (λu s'' he=>?_) λ_ _ hF=>hF.elim))
  obtain⟨g1,g2,g3⟩:=he
  try dsimp only
  have s1:=fw s''.heap kS (aO (·.push u));obtain⟨c2,hc2⟩:∃c2,(s''.heap.update kS (aO (·.push u))).get? kS=some (aQ "list" (kA.push u) c2):=⟨_,gZ g3 (·.push u)⟩;refine Wb (listUpdate_at g3 rfl ?_ (by rw[hz,dh];lia) (aZ (nv (dK ..)) (by rw[dh];lia)))
  refine Wp ⟨rfl,kA.push u,c2,?_,(s1.2 a hka.symm).trans g2,hc2,by rw[dK,hz];lia⟩
  have ea:(kA.push u).toList=kA.toList++[u]:=by simp
  rw[ea];exact upd _ _ _ g1 (λb o nb q=>(s1.2 b nb).trans q) ⟨_,hc2⟩
 case done=>
  rintro s' ⟨kA,e,hJ',ho',hk',hz⟩;rw[eQ]at hz
  try dsimp only
  refine Wb (iA hk' rfl ?_);exact ZpP ho' hk' hka hz h64 (key _ _ hJ') λout h' c k1 k2 k3 k4 k5=>h kA.toList s' out h' c hJ' (by simpa using hz) k1 k2 k3 k4 k5
theorem Znc(J:Addr->List ae->aC->Prop)(ho:s.heap.get? a=some (aQ "list" vs.toArray n))(h64:vs.length<1000000)(hJ:∀kS h1,s.heap.objs.size<=kS->(∀b o,b≠a->s.heap.get? b=some o->h1.get? b=some o)->(∃o,h1.get? a=some o)->(∃o,h1.get? kS=some o)->J kS [] {s with heap:=h1})(turn:∀kS i v kL s' na ea nk ek,vs[i]?=some v->kL.length=i->J kS kL s'->s'.heap.get? a=some (aQ "list" na ea)->s'.heap.get? kS=some (aQ "list" nk ek)->wpAny (ao prog w) A (call f [v]) (λu s''=>J kS (kL++[u]) s''/\s''.heap.get? a=some (aQ "list" na ea)/\s''.heap.get? kS=some (aQ "list" nk ek)) (λ_ _=>False) s')(upd:∀kS kL s' h',J kS kL s'->(∀b o,b≠kS->s'.heap.get? b=some o->h'.get? b=some o)->(∃o,h'.get? kS=some o)->J kS kL {s' with heap:=h'})(key:∀kS kL s',J kS kL s'->∀u∈kL,∃n ns,ZaD s'.heap u (n::ns))(h:∀kS kL s' (out:List (ae×ae)) h' c,J kS kL s'->kL.length=vs.length->out.Perm (kL.zip vs)->(∀i j (hi:i<out.length) (hj:j<out.length),i<=j->∀ns ms,ZaD s'.heap out[i].1 ns->ZaD s'.heap out[j].1 ms->le ns ms)->(∀b o,b≠a->b≠kS->s'.heap.get? b=some o->h'.get? b=some o)->(∃o,h'.get? kS=some o)->h'.get? a=some (aQ "list" (out.map (·.2)).toArray c)->P (.done (.ret .none)) {s' with heap:=h'}) :
  wpAny (ao prog w) A (ksk_tree a f false) P E s:=by
 have ha:a<s.heap.objs.size:=Hz ho;have s1:=fw s.heap a (aO λ_=>(#[]:Array ae));obtain⟨e1,ho1⟩:∃e1,(s.heap.update a (aO λ_=>(#[]:Array ae))).get? a=some (aQ "list" #[] e1):=⟨_,gZ ho λ_=> #[]⟩;have hkS:((s.heap.update a (aO λ_=>(#[]:Array ae))).push (aQ "tuple" vs.toArray 0)).objs.size=s.heap.objs.size+1:=by rw[kM,kc]
 unfold ksk_tree;refine Wb (iA ho rfl ?_);refine Wb (listUpdate_at ho rfl ?_ (by rw[ah,dh];lia) (cH _))
 refine Wb (seqEpoch_at ho1 rfl ?_);refine Wb (wpAny_newTuple ?_ (by show vs.length<=_;rw[dh];lia))
 refine Wb (jZ ?_ (cH _));refine wpAny_holding ?_;have hn:=aG ((s.heap.update a (aO λ_=>(#[]:Array ae))).push (aQ "tuple" vs.toArray 0)) (o:=aQ "list" #[] 0) rfl;exact Znb (s:={s with heap:=((s.heap.update a (aO λ_=>(#[]:Array ae))).push (aQ "tuple" vs.toArray 0)).push (aQ "list" #[] 0)}) (kS:=((s.heap.update a (aO λ_=>(#[]:Array ae))).push (aQ "tuple" vs.toArray 0)).objs.size) (J _) (Hq _ (Hq _ ho1)) hn (by rw[hkS];exact bG (fX ha)) h64
  (hJ _ _ (by rw[hkS];exact gj _) (λb o nb q=>Hq _ (Hq _ ((s1.2 b nb).trans q))) ⟨_,Hq _ (Hq _ ho1)⟩ ⟨_,hn⟩) (turn _) (upd _) (key _) (h _)
theorem Ziv(J:Addr->Addr->List ae->aC->Prop)(hl:s.heap.IsList l vs.toArray)(h64:vs.length<1000000)(hJ:∀a kS h1,s.heap.objs.size<=a->s.heap.objs.size<=kS->kS≠a->(∀b o,s.heap.get? b=some o->h1.get? b=some o)->(∃o,h1.get? a=some o)->(∃o,h1.get? kS=some o)->J a kS [] {s with heap:=h1})(turn:∀a kS i v kL s' na ea nk ek,vs[i]?=some v->kL.length=i->J a kS kL s'->s'.heap.get? a=some (aQ "list" na ea)->s'.heap.get? kS=some (aQ "list" nk ek)->wpAny (ao prog w) A.in1.in1 (call (.ref fq) [v]) (λu s''=>J a kS (kL++[u]) s''/\s''.heap.get? a=some (aQ "list" na ea)/\s''.heap.get? kS=some (aQ "list" nk ek)) (λ_ _=>False) s')(upd:∀a kS kL s' h',J a kS kL s'->(∀b o,b≠kS->s'.heap.get? b=some o->h'.get? b=some o)->(∃o,h'.get? kS=some o)->J a kS kL {s' with heap:=h'})(key:∀a kS kL s',J a kS kL s'->∀u∈kL,∃n ns,ZaD s'.heap u (n::ns))(h:∀a kS kL s' (out:List (ae×ae)) h' c,J a kS kL s'->kL.length=vs.length->out.Perm (kL.zip vs)->(∀i j (hi:i<out.length) (hj:j<out.length),i<=j->∀ns ms,ZaD s'.heap out[i].1 ns->ZaD s'.heap out[j].1 ms->le ns ms)->(∀b o,b≠a->b≠kS->s'.heap.get? b=some o->h'.get? b=some o)->(∃o,h'.get? kS=some o)->h'.get? a=some (aQ "list" (out.map (·.2)).toArray c)->Q (.ref a) {s' with heap:=h'}) :
  wpAny (ao prog w) A (call (.builtin "sorted") [.ref l] [(bJ "key",.ref fq)]) Q E s:=by
 refine call_function_entry_kw kind_sorted plain_sorted entry_sorted (ksk_s1 _ _) ?_;unfold dP.«sorted»;refine Wb (m:=checkCount "sorted" 1 1 _) (Wp ?_);refine Wb (collect_list hl ?_ (by rw[dh];lia))
 refine Wb (jZ ?_ (by rw[dh];lia))
 have hsz:((s.heap.push (aQ "list" #[] 0)).update s.heap.objs.size (aO (· ++ vs.toArray))).objs.size=s.heap.objs.size+1:=by
  rw[kc,kM]
 have hoL:(((s.heap.push (aQ "list" #[] 0)).update s.heap.objs.size (aO (· ++ vs.toArray))).push (aQ "list" vs.toArray 0)).get? (s.heap.objs.size+1)=some (aQ "list" vs.toArray 0):=by
  rw[<-hsz];exact aG _ rfl
 have keep:∀b o,s.heap.get? b=some o->(((s.heap.push (aQ "list" #[] 0)).update s.heap.objs.size (aO (· ++ vs.toArray))).push (aQ "list" vs.toArray 0)).get? b=some o:=λb o q=>by
  have hlt:b<s.heap.objs.size:=Hz q;rw[nX.get?_push_ne _ _ _ (by rw[hsz];exact aE (fX hlt)),nX.get?_update_ne _ _ _ _ (aE hlt),nX.get?_push_ne _ _ _ (aE hlt)]
  exact q
 show wpAny _ _ _ _ _ {s with heap:=((s.heap.push (aQ "list" #[] 0)).update s.heap.objs.size (aO (· ++ vs.toArray))).push (aQ "list" vs.toArray 0)};rw[hsz];refine Wb (wpAny_holding (wpAny_call_entry_kw slot_list_sort ⟨_,hoL,rfl⟩ entry_list_sort ?body (ksk_l1 _ _)))
 case body=>
  show wpAny (ao prog w) A.in1.in1 (dP.«list.sort» ⟨[.ref (s.heap.objs.size+1)],[(bJ "key",.ref fq)]⟩) _ _ _;rw[ksk_t1];have h2:(((s.heap.push (aQ "list" #[] 0)).update s.heap.objs.size (aO (· ++ vs.toArray))).push (aQ "list" vs.toArray 0)).objs.size=s.heap.objs.size+2:=by rw[kM,hsz]
  refine Znc (J (s.heap.objs.size+1)) (s:={s with heap:=((s.heap.push (aQ "list" #[] 0)).update s.heap.objs.size (aO (· ++ vs.toArray))).push (aQ "list" vs.toArray 0)}) hoL h64
   (λkS h1 k1 k2 k3 k4=>by
    have k1':s.heap.objs.size+2<=kS:=by rw[<-h2];exact k1
    exact hJ _ kS h1 (gj _) (aZ (Nat.le_add_right _ 2) k1') (bG k1') (λb o q=>k2 b o (aE (fX (Hz q))) (keep b o q)) k3 k4) (turn _) (upd _) (key _) λkS kL s' out h' c g1 g2 g3 g4 g5 g6 g7=>⟨_,rfl,?_⟩
  exact Wp ⟨_,rfl,h _ kS kL s' out h' c g1 g2 g3 g4 g5 g6 g7⟩
end
end ST
namespace DL
open PyProof.Rows L2
def Zoe(K:Fg)(v:ae)(c P:Addr):Prop:=v=.ref c/\c≠P/\∃(o:Obj) (vs:Array ae) (file:Str) (tf:Tok) (flags:Int) (tg:Tok) (inF:Bool) (text:Int) (tt:Tok),K.lookup c=some o/\o.cls=.type "code"/\o.data=.fields vs/\vs[11]?=some (.ref P)/\vs.getD 11 .none=.ref P/\vs.getD 18 .none=.str file tf/\vs.getD 7 .none=.int flags tg/\vs.getD 9 .none=.bool inF/\vs.getD 10 .none=.int text tt
def ZsH(K:Fg):Prop:=∃bm o,PySem.W.nsIn K aR "__builtins__"=some (some (.ref bm))/\K.lookup bm=some o/\o.cls=.type "module"/\o.dict=some hV/\o.data=.plain/\bm≠hV/\bm≠aR
noncomputable def ZpQ(c:Addr)(vs:Array ae):Bool:=match(vs[11]? :Option ae)with
 |some (.ref P)=>(match vs.getD 11 .none with
  |.ref P'=>(match vs.getD 18 .none with
   |.str _ _=>(match vs.getD 7 .none with
    |.int _ _=>(match vs.getD 9 .none with
     |.bool _=>(match vs.getD 10 .none with
      |.int _ _=>decide (P=P')&&decide (c≠P)
      |_=>false)
     |_=>false)
    |_=>false)
   |_=>false)
  |_=>false)
 |_=>false
def ZeH(K:Fg)(v:ae):Bool:=match v with
 |.ref c=>(match K.lookup c with
  |some ⟨.type n,_,.fields vs,_⟩=>decide (n="code")&&ZpQ c vs
  |_=>false)
 |_=>false
theorem ZkA{K:Fg}(h:ZeH K v=true):∃c P,Zoe K v c P:=by
 unfold ZeH at h
 split at h
 .rename_i c
  split at h
  .rename_i n od vs sl e;simp only[bE,decide_eq_true_eq]at h;obtain⟨rfl,h⟩:=h;unfold ZpQ at h
   split at h
   .rename_i P e1
    split at h
    .rename_i P' e2
     split at h
     .rename_i f tf e3
      split at h
      .rename_i fl tg e4
       split at h
       .rename_i b e5
        split at h
        .rename_i tx tt e6;simp only[bE,decide_eq_true_eq]at h;obtain⟨rfl,ne⟩:=h;exact⟨c,P,rfl,ne,_,vs,_,_,_,_,_,_,_,e,rfl,rfl,e1,e2,e3,e4,e5,e6⟩
        .cases h
       .cases h
      .cases h
     .cases h
    .cases h
   .cases h
  .cases h
 .cases h
theorem Zoe.tb{K:Fg}(h:Zoe K v c P):TbP K P:=by
 obtain⟨_,_,o,vs,_,_,_,_,_,_,_,e1,e2,e3,e4,_⟩:=h;exact⟨c,o,vs,e1,e2,e3,e4⟩
theorem Zoe.hd{K:Fg}(x:Zoe K v c P)(k:K.In h):PySem.W.CodeHd h c P:=by
 obtain⟨_,ne,o,vs,file,tf,flags,tg,inF,text,tt,e1,e2,e3,e4,e5,e6,e7,e8,e9⟩:=x;exact⟨o,vs,file,tf,flags,tg,inF,text,tt,k _ _ e1,e2,e3,e4,e5,e6,e7,e8,e9,ne⟩
theorem ZcF{P:List ae->Prop}(h0:P [])(h1:∀i t j u x Zae,gF Zae->P Zae->P (.int i t::.int j u::x::Zae)):∀l,gF l->P l
 |[],_=>h0
 |.int i t::.int j u::x::Zae,ht=>h1 i t j u x Zae ht (ZcF h0 h1 Zae ht)
 |[.int _ _],ht=>ht.elim
 |[.int _ _,.int _ _],ht=>ht.elim
theorem Ziw(l:List ae)(ht:gF l):dJ pos (l++r)=some c->dJ pos l=some c\/dJ pos r=some c:=
 ZcF (P:=λl=>dJ pos (l++r)=some c->dJ pos l=some c\/dJ pos r=some c) .inr (λi t j u x Zae _ ih h=>by
  simp only[bO,dJ]at h ⊢;by_cases q:(i == ↑pos.line&&j == ↑pos.col)=true
  .rw[if_pos q]at h ⊢;exact .inl h
  .rw[if_neg q]at h ⊢;exact ih h) l ht
theorem Zix(l:List ae)(ht:gF l):dJ pos l=some c->dJ pos (l++r)=some c:=
 ZcF (P:=λl=>dJ pos l=some c->dJ pos (l++r)=some c) (λh=>by cases h) (λi t j u x Zae _ ih h=>by
  simp only[bO,dJ]at h ⊢;by_cases q:(i == ↑pos.line&&j == ↑pos.col)=true
  .rw[if_pos q]at h ⊢;exact h
  .rw[if_neg q]at h ⊢;exact ih h) l ht
theorem Zfk(l:List ae)(ht:gF l)(hr:gF r):gF (l++r):=ZcF (P:=λl=>gF (l++r)) hr (λ_ _ _ _ _ _ _ ih=>ih) l ht
noncomputable abbrev ZjD(qual:Str)(params:Arguments)(body:Expr)(scope:ji)(cl:List (Str×Addr))(pm:ae)(c':Addr)(ctv:ae):Obj:=PySem.W.kla_obj "<lambda>" qual params body scope cl pm c' ctv
theorem ZsI(hP:H P=some (.tbl ps))(hc:H c'=none)(e:∀b,b≠P->b≠c'->H' b=H b):(∀K α,Ext K H H' α α)/\∀K α M,HR K H α M->HR K H' α M:=by
 have k:∀b u,H b=some u->(∀q,u≠ .tbl q)->H' b=some u:=λb u q nt=>by
  rw[e b (λz=>by subst z;rw[hP]at q;cases q;exact nt _ rfl) (ZV q hc)]
  exact q
 have ex:∀K α,Ext K H H' α α:=λK α=>by
  refine⟨λp u q t=>k p _ q (λ_ z=>by subst z;cases t),λp j q=>?_,[],(cJ _).symm⟩
  have q':=q;cases z:H p with
  |none=>unfold Kn at q;rw[z]at q;cases q
  |some u=>
   have e:=Kn.at q z
   have:∀t,u≠ .tbl t:=λt y=>by subst y;cases e
   unfold Kn;rw[k p u z this,<-z];exact q'
 refine⟨ex,λK α M hr=>⟨hr.len,hr.nd,λn q so e1 m=>?_⟩⟩;have so':=hr.ob n q so e1 m;refine so'.mono (ex K α) ?_;cases so with
 |lst ds=>
  obtain⟨u,z,hd⟩:=so';rw[k q _ z (λ_ y=>by subst y;cases hd)]
  exact z.symm
noncomputable def ZpR(H:Hp)(P c':Addr):Prop:=∃ps pos,H P=some (.tbl ps)/\dJ pos ps.toList=some (.ref c')
theorem ZkB(I:Inv X pins σ H s)(hm:ZsH X.K)(hc:Zoe X.K X.env.code c P)(hcl:mY scope X.env=pure cl)(h:∀f c' pm ctv H' s',s.heap.objs.size<=f->Inv X (pins++[(f,ZjD qual params body scope cl pm c' ctv)]) σ H' s'->ZpR H' P c'->(∀K α,Ext K H H' α α)->(∀K α M,HR K H α M->HR K H' α M)->Q (.ref f) s'):wpAny (ao X.prog X.w) X.A (makeFunction "<lambda>" qual params (.expr body) scope X.env [] [] [] pos fl) Q E s:=by
 obtain⟨ps,hP⟩:=I.ok.tb.un I.base P hc.tb;obtain⟨oP,tP,cP⟩:=I.hok P _ hP;have hg:=I.mod.glob.keeps I.bk;have ng:∀b o,X.base.get? b=some o->b≠P:=λb o e z=>by
  have:=(I.bs b o e).2
  rw[z,hP]at this;cases this
 have hgP:aR≠P:=by
  obtain⟨o,es,ep,e,_⟩:=I.mod.glob;exact ng _ _ e
 have hb:s.heap.BuiltinsAt X.mg P:=by
  obtain⟨bm,o,e1,e2,e3,e4,e5,e6,e7⟩:=hm;exact⟨bm,o,PySem.W.mg_of I.mod.kin I.mod.glob e1,e6,e7,ng _ _ (I.mod.kin _ _ e2),I.kIn _ _ e2,e3,e4,e5⟩
 have pinf:∀{H':Hp}{s':aC}{f:Addr}{o:Obj},Inv X pins σ H' s'->s.heap.objs.size<=f->s'.heap.get? f=some o->H' f=none->(∀v,o.data≠ .cell v)->Inv X (pins++[(f,o)]) σ H' s':=λ{H' s' f o} I' hf e n nc=>I'.pins_of λp hp=>by
  rcases be.mp hp with hp|hp
  .exact I'.pin p (aX _ hp)
  .rw[bU.mp hp];exact⟨e,n,bG (am I.lt hf),I.nofs hf,nc⟩
 cases hn:dJ pos ps.toList with
 |some cv=>
  obtain⟨c',oc,vs,q,t,rfl,own,e1,e2,e3⟩:=cP pos cv hn;refine PySem.W.kla_makeFunctionHit hcl I.ok.glob hg hc.1 (hc.hd I.kIn) oP tP hn hb λctv h' tk hk hz=>?_;have kk:∀b o,s.heap.get? b=some o->(h'.push (ZjD qual params body scope cl ((X.mg "__name__").getD .none) c' ctv)).get? b=some o:=λb o e=>Hq _ (hk b o e);have I':=I.kept (t':=tk) kk;refine h _ c' _ ctv H _ hz (pinf I' hz (aG _ rfl) (I.hok.fresh hz) (λv z=>by cases z)) ⟨ps,pos,hP,hn⟩ (λK α=>Ext.refl) λK α M hr=>hr
 |none=>
  refine PySem.W.kla_makeFunction hcl I.ok.glob hg hc.1 (hc.hd I.kIn) oP tP hn hgP hb λc' ctv h' tk hx hge hlt hrec htb=>?_;obtain⟨c2,oc,vs,t,e2,hoc,hd,hv⟩:=hrec;cases e2;have hc0:H c'=none:=I.hok.fresh hge;have cP':c'≠P:=λz=>by rw[z,hP]at hc0;cases hc0
  let H':Hp:=upd (upd H P (.tbl (ps ++ #[da pos.line,da pos.col,.ref c']))) c' (.own P)
  have e0:∀b,b≠P->b≠c'->H' b=H b:=λb n1 n2=>by show upd (upd H P _) c' _ b=_;rw[ZJ n2,ZJ n1]
  have eP:H' P=some (.tbl (ps ++ #[da pos.line,da pos.col,.ref c'])):=by show upd (upd H P _) c' _ P=_;rw[ZJ (cu cP'),ZB]
  have eC:H' c'=some (.own P):=ZB;have kp:∀b o,b≠P->s.heap.get? b=some o->(h'.push (ZjD qual params body scope cl ((X.mg "__name__").getD .none) c' ctv)).get? b=some o:=λb o n e=>Hq _ (hx b o n e);have nP:∀b,H b=none->b≠P:=λb n z=>by rw[z,hP]at n;cases n
  have nC:∀b o,s.heap.get? b=some o->b≠c':=λb o e=>aE (am (Hz e) hge);have nC':∀b u,H b=some u->b≠c':=λb u e=>aE (am (I.hok.lt e) hge);have same:∀b u,H b=some u->(∀q,u≠ .tbl q)->H' b=some u:=λb u e nt=>by
   rw[e0 b (λz=>by subst z;rw[hP]at e;cases e;exact nt _ rfl) (nC' b u e)]
   exact e
  have tP':gF (ps ++ #[da pos.line,da pos.col,.ref c']).toList:=by
   rw[cB];exact Zfk _ tP eZ
  have hok:HOk X.prog X.w H' (h'.push (ZjD qual params body scope cl ((X.mg "__name__").getD .none) c' ctv)):=λb u e=>by
   by_cases bc:b=c'
   .subst bc;rw[eC]at e;cases e;exact⟨_,Hq _ hoc⟩
   .by_cases bP:b=P
    .subst bP;rw[eP]at e;cases e;refine⟨Hq _ htb,tP',λpos' cv z=>?_⟩;rw[cB]at z;rcases Ziw _ tP z with z|z
     .obtain⟨c1,o1,vs1,q1,t1,r1,r2,r3,r4⟩:=cP pos' cv z;exact⟨c1,o1,vs1,q1,t1,r1,same _ _ r2 (λ_ y=>by cases y),kp _ _ (λy=>by rw[y,hP]at r2;cases r2) r3,r4⟩
     .have z':(if((pos.line:Int) == ↑pos'.line&&(pos.col:Int) == ↑pos'.col)=true then some (aU c')else none)=some cv:=z
      split at z'
      .cases z';exact⟨c',oc,vs,_,t,rfl,eC,Hq _ hoc,hd,hv⟩
      .cases z'
    .rw[e0 b bP bc]at e;refine(I.hok b u e).stay (λx v hx' r=>kp x v ?_ r) (λx r=>same _ _ r (λ_ y=>by cases y)) λx xs r=>same _ _ r (λ_ y=>by cases y)
     rcases hx' with rfl|hx'
     .exact bP
     .exact λy=>by rw[y,hP]at hx';cases hx'
  have I':Inv X pins σ H' {s with heap:=h'.push (ZjD qual params body scope cl ((X.mg "__name__").getD .none) c' ctv),toks:=tk}:=
   I.step (g':=s.gens) (d':=s.drawn) (t':=tk) (ch:=[]) (λ_ z=>nomatch z) (λb o _ _ _ e n=>kp b o (nP b n) e) (λb o _ _ _ e n=>⟨o.slots,kp b o (nP b n) e⟩) (λb o _ e n=>by rw[e0 b (nP b n) (nC b o e)];exact n)
    (λb o _ e=>by
     by_cases bP:b=P
     .subst bP;exact⟨_,Hq _ htb⟩
     .exact⟨o,kp b o bP e⟩)
    (λb xs e=>same _ _ e (λ_ y=>by cases y)) (λb o u e=>same _ _ e (λ_ y=>by cases y))
    (λb q e=>by
     by_cases bP:b=P
     .subst bP;rw[hP]at e;cases e;exact⟨_,eP⟩
     .exact⟨#[],by rw[e0 b bP (nC' b _ e),e];simp⟩)
    (λm hm=>(hm.extBut hx (nP _ I.free)).push _) hok I.bare
  have up:=ZsI (H':=H') hP hc0 e0;have hz:s.heap.objs.size<=h'.objs.size:=dC (cI hge hlt);refine h _ c' _ ctv H' _ hz (pinf I' hz (aG _ rfl) ?_ (λv z=>by cases z)) ⟨_,pos,eP,?_⟩ up.1 up.2
  .have fr:=hok.fresh (a:=h'.objs.size+1) (by rw[kM];exact aj _)
   rw[e0 h'.objs.size (λz=>by have:=Hz htb;rw[<-z]at this;exact b7 _ this) (bG hlt)]
   exact I.hok.fresh hz
  .rw[cB];exact codeAmong_snoc _ tP hn
theorem Zfl(hroom:A.depth<jp)(ho:s.heap.get? a=some o)(hd':o.data=.func fd)(hco:fd.scope.isCoroutine=false)(hgen:fd.scope.isGenerator=false)(hbody:fd.body=.expr body)(hc:fd.code=.ref c)(hoc:s.heap.get? c=some oc)(hdc:oc.data=.fields vs)(hq:vs[1]?=some (.str q tq))(h:wpAny (ao prog w) A.in1 (iT fd args) (λbinds s₁=>wpAny (ao prog w) A.in1 (lX fd.scope fd.globals fd.closure binds (q++".<locals>.") (some a) fd.code none fd.builtins) (λenv s₂=>s₂.heap.NoLimit/\fH (ao prog w) A (.expr body env) R s₂) (λe s'=>R (.error e) s') s₁) (λe s'=>R (.error e) s') s):fH (ao prog w) A (.call (.ref a) args) R s:=by
 refine codeAny_of_tree ?_;show wpAny _ A.in1 (callAny (.ref a) args) _ _ s;simp only[callAny];refine Wb (wpAny_load ho ?_);simp only[hd',callFunction,hco,hgen,hbody,hc];rw[hc]at h;refine Wb (m:=field (.ref c) 1) (cF hoc hdc hq (Wb (Wp ?_)));exact Wb (wpAny_mono h (λbinds s₁ h₁=>Wb (wpAny_mono h₁ (λenv s₂ h₂=>Wb (wpAny_enterFrame h₂.1 hroom (Wp (mG rfl h₂.2)))) λ_ _ h'=>h')) λ_ _ h'=>h')
noncomputable def lam(X:Cx)(A:cV)(q:Str)(scope:ji)(cl:List (Str×Addr))(N:List Str)(f:Addr)(cd:ae)(s:aC)(H:Hp):Cx:=
 {X with A:=A.deeper (PySem.W.envX q scope s.heap.objs.size f cd cl),N:=N,s₀:=s,H₀:=H,env:=PySem.W.envX q scope s.heap.objs.size f cd cl,outer:=X.stack,stack:=PySem.W.envX q scope s.heap.objs.size f cd cl::X.stack,ex:=[],fn:=λ_=>false,pn:=[],xe:=λ_ _=>False,fxs:=none}
theorem Ziy:Thr (lam X A q scope cl N f cd s H) E0:=
 ⟨fQ.never,λ_ _ _ _ _ _ _ h=>by obtain⟨_,_,_,_,_,_,_,_,_,_,_,_,_,q⟩:=h;exact q,λ_ _ _ _ _ _ _ _ _ _ _ _ _ _ _ _ _ _ _ _ _ _ q=>q⟩
structure Lms(X:Cx) (scope:ji) (cl:List (Str×Addr)) (x:Str) (N:List Str) (fr:List Nat):Prop where
 clos:mY scope X.env=pure cl
 kind:scope.kind=.function
 co:scope.isCoroutine=false
 gen:scope.isGenerator=false
 cell:∀y∈scope.names,y.2≠ .cell
 par:scope.names.lookup x=some .local
 sub:∀y c,cl.lookup y=some c->X.env.cells.lookup y=some c
 has:∀y,(scope.names.lookup y=some .cell\/scope.names.lookup y=some .free)->∃c,cl.lookup y=some c
 n0:N[0]?=some x
 len:N.length=1+fr.length
 at_:∀(j i:Nat),fr[j]?=some i->∃y,N[1+j]?=some y/\X.N[i]?=some y/\X.env.kindOf y=some .cell/\scope.names.lookup y=some .free/\cl.lookup y=X.env.cells.lookup y
noncomputable def stL(v:V)(fr:List Nat)(σ:L2.St):L2.St:=some v::fr.map λi=>(σ[i]?).join
noncomputable def roL(d:D)(fr:List Nat)(ρ:Ro):Ro:=some d::fr.map λi=>(ρ[i]?).join
theorem SR.lam{K:Fg}(h:SR K H α σ ρ)(r:Rep K H α v d):SR K H α (stL v fr σ) (roL d fr ρ):=by
 refine⟨by simp[stL,roL],λi d' e=>?_⟩
 cases i with
 |zero=>
  have e':some (some d)=some (some d'):=e;cases e';exact⟨v,rfl,r⟩
 |succ i=>
  have e':(fr.map λi=>(ρ[i]?).join)[i]?=some (some d'):=e;rw[bn]at e';cases z:fr[i]? with
  |none=>rw[z]at e';cases e'
  |some r0=>
   rw[z]at e';obtain⟨v',e3,e4⟩:=h.2 r0 d' (join_some (aM e'));refine⟨v',?_,e4⟩;show(fr.map λi=>(σ[i]?).join)[i]?=some (some v');rw[bn,z];show some (σ[r0]?).join=_;rw[e3];rfl
theorem ZpS(L:Lms X scope cl x N fr)(I:Inv X pins σ H s)(hA:A.frames=some X.stack)(hh:A.handled=X.A.handled):(lam X A q scope cl N f cd s H).Ok where
 mod:=I.ok.mod
 kind:=L.kind
 glob:=rfl
 blt:=rfl
 above:=aj _
 inj:=λy z c h1 h2=>I.ok.inj y z c (L.sub y c h1) (L.sub z c h2)
 has:=λy h=>L.has y h
 cab:=λy c h=>(by cases h)
 hd:=λz=>hh.trans (I.ok.hd z)
 frames:=lP hA
 stk:=.inr ⟨rfl,rfl⟩
 exf:=λb hb=>absurd (show b∈([]:List Addr)from hb) (by simp)
 bs:=I.bs
 bsz:=aZ I.ok.bsz I.sz
 noex:=λb o e hb=>absurd (show b∈([]:List Addr)from hb) (by simp)
 exfs:=λb hb=>absurd (show b∈([]:List Addr)from hb) (by simp)
 funs:=I.stack
 frf:=I.stkFree
 tb:=I.ok.tb.un I.base
theorem Znd(L:Lms X scope cl x N fr)(I:Inv X pins σ H s)(hA:A.frames=some X.stack)(hh:A.handled=X.A.handled)(hn:h1.Ns s.heap.objs.size m)(hm:m x=some u)(ru:ZZ v u)(hk:∀b o,s.heap.get? b=some o->h1.get? b=some o):Inv (lam X A q scope cl N f cd s H) [] (stL v fr σ) H {s with heap:=h1,toks:=tk} where
 ok:=ZpS L I hA hh
 os:=rfl
 bare:=I.bare
 base:=Un.kept hk
 loc:=by
  refine⟨m,hn,λi y v' e1 e2 e3=>?_⟩;cases i with
  |zero=>
   have exy:y=x:=aM (e1.symm.trans L.n0);subst exy;have ev:some (some v)=some (some v'):=e2;cases ev;exact⟨u,ru,.inl ⟨L.par,hm⟩⟩
  |succ i=>
   have e2':(fr.map λi=>(σ[i]?).join)[i]?=some (some v'):=e2;rw[bn]at e2';cases z:fr[i]? with
   |none=>rw[z]at e2';cases e2'
   |some r0=>
    rw[z]at e2';obtain⟨y',k1,k2,k3,k4,k5⟩:=L.at_ i r0 z;have exy:y=y':=by
     have e1':N[i+1]?=some y:=e1;rw[kG]at e1';exact aM (e1'.symm.trans k1)
    subst exy;obtain⟨m0,hm0,hl⟩:=I.loc;obtain⟨u',ru',lk⟩:=hl r0 y v' k2 (join_some (aM e2')) (.inr (.inl k3));refine⟨u',ru',?_⟩;rcases lk with⟨z,_⟩|⟨_,c,z1,⟨o,z2,z3⟩⟩
    .rw[k3]at z;cases z
    .exact .inr ⟨.inr k4,c,k5.trans z1,⟨o,hk _ _ z2,z3⟩⟩
 cell:=λy c h=>by
  obtain⟨v,o,e1,e2⟩:=I.cell y c (L.sub y c h);exact⟨v,o,hk _ _ e1,e2⟩
 free:=I.fresh
 freeC:=λy c h=>I.freeC y c (L.sub y c h)
 pin:=λp hp=>(by simp[lam]at hp)
 hok:=I.hok.kept hk
 len:=by
  show(stL v fr σ).length=N.length;rw[L.len];simp[stL];lia
 qd:=by
  rcases I.qd with z|⟨ea,oe,u,vs,z1,z2⟩
  .exact .inl (hh.trans z)
  .exact .inr ⟨ea,oe,u,vs,hh.trans z1,z2⟩
 fx:=.free rfl
theorem Zne(L:Lms X scope cl x N fr)(I:Inv X pins σ H s)(hA:A.frames=some X.stack)(hh:A.handled=X.A.handled)(hroom:A.depth<jp)(hp:(f,ZjD qual params body scope cl pm c' ctv)∈X.pn++pins)(cd:ZpR H P c')(hbind:iT (PySem.W.kla_fn "<lambda>" qual params body scope cl pm (.ref c') ctv) ⟨[u],[]⟩=pure [(x,u)])(ru:ZZ v u)(hb:∀q,∃t,PE (lam X A q scope cl N f (.ref c') s H) body t/\t (stL v fr σ) H Q):wpAny (ao X.prog X.w) A (call (.ref f) [u]) (λr s'=>∃v H',Inv X pins σ H' s'/\ZZ v r/\Q v H'/\ZpR H' P c') (λ_ _=>False) s:=by
 obtain⟨ps,pos,hP,hcd⟩:=cd;obtain⟨oP,tP,cP⟩:=I.hok P _ hP;obtain⟨c2,oc,vs,q,tq,ec,own,hoc,hdc,hq⟩:=cP pos _ hcd;cases ec;refine wpAny_call (Zfl hroom (I.pin _ hp).1 rfl L.co L.gen rfl rfl hoc hdc hq ?_);rw[hbind];refine Wp (wpAny_newFunctionEnv L.cell (λy hy=>by rw[bU.mp hy];exact L.par) (λh1 hns hsb=>?_) L.kind)
 have hk:∀b o,s.heap.get? b=some o->h1.get? b=some o:=λb o e=>hsb.extBut b o (aE (Hz e)) (Hq _ e);refine⟨I.nolimit.keeps hk,?_⟩;obtain⟨t,pt,qt⟩:=hb q;have J:Inv (lam X A q scope cl N f (.ref c') s H) [] (stL v fr σ) H {s with heap:=h1,toks:=s.toks+1}:=Znd L I hA hh hns (by simp) ru hk
 show fH _ _ (.expr body (PySem.W.envX q scope s.heap.objs.size f (.ref c') cl)) _ _;refine PySem.W.kla_codeExpr (wpAny_mono (pt [] _ _ H Q J qt) (λr s' hs=>?_) λ_ _ z=>z.elim);obtain⟨v',H',J',rv,qv⟩:=hs;have ce:CE X.stack X.prog X.w H s (λv'' H''=>v''=v'/\H''=H') r s':=⟨v',H',J'.os,J'.bare,J'.base,J'.hok,rv,rfl,rfl⟩;obtain⟨v2,H2,I2,r2,rfl,rfl⟩:=I.after ce;obtain⟨more,hm⟩:=J'.base.tbls P ps hP;exact⟨v2,H2,I2,r2,qv,_,pos,hm,by rw[cB];exact Zix _ tP hcd⟩
def Zc1(g:Ev)(fr:List Nat)(ρ:Ro)(M:Sto)(xs:List D)(ks:List (List Int)):Prop:=Paired (λd k=>g (roL d fr ρ) M=.ok (tupD k) M/\k≠[]) xs ks
def ZkC(ks:List (List Int))(xs:List D):List D:=(ST.srt ks).map λk=>((ks.zip xs).lookup k).getD .non
def Ziz(g:Ev)(fr:List Nat)(ρ:Ro)(M:Sto)(xs:List D)(ks:List (List Int)):Prop:=xs.length<1000000/\ks.Nodup/\Zc1 g fr ρ M xs ks
open Classical in
def ZdU(g:Ev)(fr:List Nat)(ρ:Ro)(ds:List D)(M:Sto):Out D:=match ds with
 |[.ref n]=>(match M[n]? with
  |some (.lst xs)=>if h:∃ks,Ziz g fr ρ M xs ks then .ok (.ref M.length) (M++[.lst (ZkC h.choose xs)])else .bad
  |none=>.bad)
 |_=>.bad
def Zg0(fs:Av)(fr:List Nat)(g:Ev):Ev:=λρ M=>(fs ρ M).bind λds M1=>ZdU g fr ρ ds M1
theorem Zc1.uniq{g:Ev}{fr:List Nat}{ρ:Ro}{M:Sto}:∀{xs:List D}{ks ks':List (List Int)},Zc1 g fr ρ M xs ks->Zc1 g fr ρ M xs ks'->ks=ks':=by
 intro xs
 induction xs with
 |nil=>intro ks ks' h h';cases h;cases h';rfl
 |cons x xs ih=>
  intro ks ks' h h';cases h with
  |cons a b=>
   cases h' with
   |cons c d=>
    have e:=a.1.symm.trans c.1;injection e with e1 e2;rw[Zkz e1,ih b d]
theorem ZdV(h:M[n]?=some (.lst xs))(k:Ziz g fr ρ M xs ks):ZdU g fr ρ [.ref n] M=.ok (.ref M.length) (M++[.lst (ZkC ks xs)]):=by
 have hx:∃ks,Ziz g fr ρ M xs ks:=⟨ks,k⟩;simp only[ZdU,h,dif_pos hx];rw[hx.choose_spec.2.2.uniq k.2.2]
theorem Zdz{ks:List (List Int)}:∀{xs:List D}{k:List Int}{d:D},ks.Nodup->(k,d)∈ks.zip xs->(ks.zip xs).lookup k=some d:=by
 induction ks with
 |nil=>intro xs k d _ h;cases h
 |cons a r ih=>
  intro xs k d nd h;cases xs with
  |nil=>cases h
  |cons x xs=>
   rw[jg]at h ⊢;rw[cg];rcases ay.mp h with e|h2
   .cases e;simp
   .have ne:k≠a:=λz=>(eI.mp nd).1 (z▸(gU h2).1)
    have:(k==a)=false:=by simpa using ne
    rw[this];exact ih (eI.mp nd).2 h2
def Zuw(K:Fg)(H:Hp)(α:List Addr)(h:Heap)(t:List Int×D×V)(p:ae×ae):Prop:=ST.ZaD h p.1 t.1/\ZZ t.2.2 p.2/\Rep K H α t.2.2 t.2.1
theorem ZsJ{K:Fg}{H:Hp}{α:List Addr}{h:Heap}:∀{ks:List (List Int)} {xs:List D} {vs:List V} {kL its:List ae},Paired (λk u=>ST.ZaD h u k) ks kL->Reps K H α vs xs->ZS vs its->ks.length=xs.length->∃T:List (List Int×D×V),Paired (Zuw K H α h) T (kL.zip its)/\T.map (λt=>(t.1,t.2.1))=ks.zip xs:=by
 intro ks
 induction ks with
 |nil=>
  intro xs vs kL its hk _ _ e;cases hk
  have:xs=[]:=dE e.symm
  subst this;exact⟨[],.nil,rfl⟩
 |cons k ks ih=>
  intro xs vs kL its hk hr hv e;cases hk with
  |cons a b=>
   cases hr with
   |nil=>cases e
   |cons c d=>
    cases hv with
    |cons p q=>
     obtain⟨T,t1,t2⟩:=ih b d q (Nat.succ.inj e);exact⟨(k,_,_)::T,.cons ⟨a,p,c⟩ t1,by rw[aK,t2];rfl⟩
theorem Zc2{F:α->β->Prop}:∀{xs:List α}{ys:List β},Paired F xs ys->∀(i:Nat)(h:i<xs.length),∃h':i<ys.length,F xs[i] ys[i]:=by
 intro xs ys p
 induction p with
 |nil=>intro i h;exact absurd h (by simp)
 |cons a b ih=>
  intro i h;cases i with
  |zero=>exact⟨by simp,a⟩
  |succ i=>
   obtain⟨h',q⟩:=ih i (by simpa using h)
   exact⟨by simpa using h',by simpa using q⟩
theorem Zb3{F:α->β->Prop}{xs:List α}{ys:List β}(h9:Paired F xs ys):xs.length=ys.length:=by
 induction h9 with
 |nil=>exact rfl
 |cons _ b ih9=>exact congrArg Nat.succ ih9
theorem ZeJ{K:Fg}{out:List (ae×ae)}(nd:ks.Nodup)(hl:ks.length=xs.length)(hT:Paired (Zuw K H α h) T prs)(eT:T.map (λt=>(t.1,t.2.1))=ks.zip xs)(hp:out.Perm prs)(hs:∀i j (hi:i<out.length) (hj:j<out.length),i<=j->∀ns ms,ST.ZaD h out[i].1 ns->ST.ZaD h out[j].1 ms->ST.le ns ms):∃ys:List V,ZS ys (out.map (·.2))/\Reps K H α ys (ZkC ks xs):=by
 obtain⟨T',p1,p2⟩:=ZbE hp hT;have lT:=Zb3 p2;have ek:T.map (·.1)=ks:=by
  have:=congrArg (List.map ny) eT
  rw[bX,List.map_fst_zip (nv hl)]at this;exact this
 have pk:(T'.map (·.1)).Perm ks:=by rw[<-ek];exact p1.map _
 have up:(T'.map (·.1)).Pairwise ST.le:=by
  refine jD.mpr λi j hi hj ij=>?_;rw[af]at hi hj;obtain⟨a1,a2⟩:=Zc2 p2 i hi;obtain⟨b1,b2⟩:=Zc2 p2 j hj;rw[fE,fE];exact hs i j a1 b1 (dC ij) _ _ a2.1 b2.1
 have es:=ST.Zge pk up;refine⟨T'.map (·.2.2),?_,?_⟩
 .clear es up pk p1 hs hp lT
  induction p2 with
  |nil=>exact .nil
  |cons a _ ih=>exact .cons a.2.1 ih
 .unfold ZkC;rw[<-es,bX];have md:∀t∈T',((ks.zip xs).lookup t.1).getD .non=t.2.1:=λt ht=>by
   have m:t∈T:=p1.mem_iff.mp ht;have m2:(t.1,t.2.1)∈ks.zip xs:=by rw[<-eT];exact List.mem_map_of_mem (f:=λt:List Int×D×V=>(t.1,t.2.1)) m
   rw[Zdz nd m2];rfl
  have:T'.map ((λk=>((ks.zip xs).lookup k).getD .non)∘λt=>t.1)=T'.map (·.2.1):=fz λt ht=>md t ht
  rw[this];clear es up pk p1 hs hp lT md this
  induction p2 with
  |nil=>exact .nil
  |cons a _ ih=>exact .cons a.2.2 ih
def JK(X:Cx)(pins:Pn)(σ:L2.St)(P c':Addr)(H2:Hp)(α:List Addr)(M:Sto)(n0:Nat)(ks:List (List Int))(a kS:Addr)(kL:List ae)(s':aC):Prop:=
 n0<=a/\n0<=kS/\kS≠a/\∃H',Inv X pins σ H' s'/\ZpR H' P c'/\H' a=none/\H' kS=none/\(∃o,s'.heap.get? a=some o)/\(∃o,s'.heap.get? kS=some o)/\Ext X.K H2 H' α α/\HR X.K H' α M/\kL.length<=ks.length/\Paired (λk u=>∃kv,ZZ kv u/\Rep X.K H' α kv (tupD k)) (ks.take kL.length) kL
theorem Zfm{F:α->β->Prop}{a:α}{b:β}{xs:List α}{ys:List β}(h9:Paired F xs ys):F a b->Paired F (xs++[a]) (ys++[b]):=by
 induction h9 with
 |nil=>exact λh=>.cons h .nil
 |cons c d ih9=>exact λh=>.cons c (ih9 h)
theorem ZdA{F G:α->β->Prop}(h:∀a b,F a b->G a b){xs:List α}{ys:List β}(h9:Paired F xs ys):Paired G xs ys:=by
 induction h9 with
 |nil=>exact .nil
 |cons c d ih9=>exact .cons (h _ _ c) ih9
theorem ZpT{K:Fg}(e:Ext K H H' α α')(h:HR K H' α' M)(l:α.length=M.length):α'=α:=by
 obtain⟨β,rfl⟩:=e.al
 have:=h.len
 rw[aT,l]at this
 have:β=[]:=dE ⋯
 rw[this,cJ]
theorem ZeK{id:String}(hplain:(args.any (·.1)||kws.any (·.1.isNone))=false)(h:wpAny M A (evalArgs (.builtin id) true args kws) (λa s₁=>wpAny M A (call (.builtin id) a.pos a.kw) Q E s₁) E s):wpAny M A (callWith pos (.builtin id) [] args kws) Q E s:=by
 unfold callWith;refine Wb (wpAny_holding (wpAny_mono h (λa s₁ h₁=>Wb (wpAny_standAt ?_)) λ_ _ x=>x));simp only[hplain];refine Wb (Wp ?_);exact Wb (wpAny_mono h₁ (λr s₂ hr=>Wb (wpAny_holding (wpAny_point (Wp hr)))) λ_ _ x=>x)
theorem ZiA{n:Nat}(hr:Room (k+3) X.A)(L:Lms X scope cl x N fr)(hb:∀q f cd s H,Room k (X.A.in1.in1.deeper (PySem.W.envX q scope s.heap.objs.size f cd cl))->DE (lam X X.A.in1.in1 q scope cl N f cd s H) E0 body g)(hbind:∀(u:ae),iT (PySem.W.kla_fn "<lambda>" qual params body scope cl pm (.ref c') ctv) ⟨[u],[]⟩=pure [(x,u)])(I:Inv X (pins++[(f,ZjD qual params body scope cl pm c' ctv)]) σ H s)(cd:ZpR H P c')(sr:SR X.K H α σ ρ)(h:HR X.K H α M)(hx:M[n]?=some (.lst xs))(hp:H p0=some (.lst ws))(rp:Reps X.K H α ws xs)(l64:xs.length<1000000)(nd:ks.Nodup)(keys:Zc1 g fr ρ M xs ks)(q:∀v H' α',Ext X.K H H' α α'->HR X.K H' α' (M++[.lst (ZkC ks xs)])->Rep X.K H' α' v (.ref M.length)->Q v H'):wpAny (ao X.prog X.w) X.A (call (.builtin "sorted") [.ref p0] [(bJ "key",.ref f)]) (EP X pins σ Q) X.xe s:=by
 have lks:ks.length=xs.length:=(Zb3 keys).symm;obtain⟨its,rv,pl,hz⟩:=I.list (SqL.of hp);have lit:its.length=xs.length:=by rw[<-rv.length,rp.length]
 refine ST.Ziv (JK X (pins++[(f,ZjD qual params body scope cl pm c' ctv)]) σ P c' H α M s.heap.objs.size ks) pl.isList ⋯ ?_ ?_ ?_ ?_ ?_
 .
  intro a kS h1 ha hS ne kk oa ok;exact⟨ha,hS,ne,H,I.kept (t':=s.toks) kk,cd,I.hok.fresh ha,I.hok.fresh hS,oa,ok,Ext.refl,h,cH _,by rw[gW,l9];exact .nil⟩
 .
  rintro a kS i v kL s' na ea nk ek hv hi ⟨ha,hS,ne,H',I',cd',fa,fS,_,_,ex,hr',lk,pk⟩ oa ok;have hil:i<xs.length:=by have:=(ar.mp hv).1;lia
  obtain⟨xv,e1,e2⟩:=Zfd rv hv;obtain⟨d,d1,d2⟩:=ZdO rp e1;have hki:i<ks.length:=⋯
  obtain⟨_,kg⟩:=Zc2 keys i hil;have ed:xs[i]=d:=by
   rw[aa hil]at d1;exact aM d1
  rw[ed]at kg;have d2:=Rep.mono ex d2;have I2:Inv X (pins++[(f,ZjD qual params body scope cl pm c' ctv)]++[(a,aQ "list" na ea),(kS,aQ "list" nk ek)]) σ H' s':=I'.pins_of λp hp=>by
   rcases be.mp hp with hp|hp
   .exact I'.pin p (aX _ hp)
   .rcases ay.mp hp with rfl|hp
    .exact⟨oa,fa,bG (am I.lt ha),I.nofs ha,λv z=>by cases z⟩
    .rw[bU.mp hp];exact⟨ok,fS,bG (am I.lt hS),I.nofs hS,λv z=>by cases z⟩
  have run:=Zne (f:=f) (A:=X.A.in1.in1) (u:=v) (v:=xv) (Q:=λv' H''=>∃α'',Ext X.K H' H'' α α''/\HR X.K H'' α'' M/\Rep X.K H'' α'' v' (tupD ks[i])) L I2 I.ok.frames rfl (by have:=hr.dp;show X.A.depth<_;lia) (aX _ (gk _ (aX _ (bU.mpr rfl)))) cd' (hbind v) e2 λq'=>by
   obtain⟨t,pt,qt⟩:=hb q' f (.ref c') s' H' ((hr.in1.in1).deeper _);exact⟨t,pt,qt _ (roL d fr ρ) H' α M _ (SR.lam (sr.mono ex) d2) hr' (by
    rw[kg.1];exact λv' H'' α'' e'' h'' r''=>⟨α'',e'',h'',r''⟩)⟩
  refine wpAny_mono run (λu s2 hs=>?_) λ_ _ z=>z;obtain⟨v',H2,I3,r3,⟨α2,ex2,hr2,rp2⟩,cd2⟩:=hs;have ea2:=ZpT ex2 hr2 hr'.len;subst ea2;have pa:=I3.pin (a,aQ "list" na ea) (by simp)
  have pS:=I3.pin (kS,aQ "list" nk ek) (by simp)
  refine⟨⟨ha,hS,ne,H2,I3.unpinned,cd2,pa.2.1,pS.2.1,⟨_,pa.1⟩,⟨_,pS.1⟩,ex.trans ex2,hr2,by rw[aT,fR];lia,?_⟩,pa.1,pS.1⟩
  have et:ks.take (kL++[u]).length=ks.take kL.length++[ks[i]]:=by
   rw[aT,fR,hi,List.take_add_one,aa hki];rfl
  rw[et];exact Zfm (ZdA (λk u ⟨kv,z1,z2⟩=>⟨kv,z1,Rep.mono ex2 z2⟩) pk) ⟨v',r3,rp2⟩
 .
  rintro a kS kL s' h' ⟨ha,hS,ne,H',I',cd',fa,fS,⟨oa,ea⟩,_,ex,hr',lk,pk⟩ kk oS;refine⟨ha,hS,ne,H',I'.turned (t':=s'.toks) (it:=kS) kk fS (bG (am I.lt hS)) (.inr (aZ I.sz hS)) (λy c hc z=>?_) (λp hp z=>?_),cd',fa,fS,⟨oa,kk a oa (cu ne) ea⟩,oS,ex,hr',lk,pk⟩
  .obtain⟨v,o,e,_⟩:=I.cell y c hc;exact absurd (Hz e) (by rw[z];exact gG hS)
  .have:=(I.pin p hp).1
   exact absurd (Hz this) (by rw[z];exact gG hS)
 .
  rintro a kS kL s' ⟨_,_,_,H',I',_,_,_,_,_,_,_,lk,pk⟩ u hu;obtain⟨i,hi,rfl⟩:=bF hu;have hi':i<(ks.take kL.length).length:=by rw[Zb3 pk];exact hi
  obtain⟨_,kv,z1,z2⟩:=Zc2 pk i hi';have t:=ZbU I' (ZdT z2) z1;have hik:i<ks.length:=⋯
  obtain⟨_,kg⟩:=Zc2 keys i ⋯
  have e1:(ks.take kL.length)[i]=ks[i]:=List.getElem_take;rw[e1]at t;cases e2:ks[i]with
  |nil=>exact absurd e2 kg.2
  |cons b r=>rw[e2]at t;exact⟨b,r,t⟩
 .
  rintro a kS kL s' out h' c ⟨ha,hS,ne,H',I',cd',fa,fS,_,_,ex,hr',lk,pk⟩ hl po hs kk oS oa;have ek:ks.take kL.length=ks:=cK ⋯
  rw[ek]at pk;obtain⟨T,t1,t2⟩:=ZsJ (K:=X.K) (H:=H') (α:=α) (ZdA (λk u ⟨kv,z1,z2⟩=>ZbU I' (ZdT z2) z1) pk) (Reps.mono ex rp) rv lks;obtain⟨ys,v1,v2⟩:=ZeJ nd lks t1 t2 po hs;have lo:(out.map (·.2)).length=xs.length:=by rw[af,po.length_eq,lA,hl,lit];simp
  have hyz:ys.length<=sizeLine:=by rw[v1.length,lo];exact aZ (dC l64) (by decide)
  have nS:∀b u,H' b=some u->b≠kS:=λb u z y=>by rw[y,fS]at z;cases z
  have nA:∀b u,H' b=some u->b≠a:=λb u z y=>by rw[y,fa]at z;cases z
  have hok:HOk X.prog X.w (upd H' a (.lst ys)) h':=λb u e=>by
   by_cases ba:b=a
   .subst ba;rw[ZB]at e;cases e;exact⟨hyz,out.map (·.2),c,v1,oa⟩
   .rw[ZJ ba]at e;refine(I'.hok b u e).stay (λy v hy r=>kk y v ?_ ?_ r) (λy r=>by rw[ZJ (nA _ _ r)];exact r) λy zs r=>by rw[ZJ (nA _ _ r)];exact r
    .rcases hy with rfl|hy
     .exact ba
     .exact nA _ _ hy
    .rcases hy with rfl|hy
     .exact nS _ _ e
     .exact nS _ _ hy
  have cellN:∀b,s.heap.objs.size<=b->∀y c,X.env.cells.lookup y=some c->c≠b:=λb hb y c hc z=>by
   obtain⟨v,o,e,_⟩:=I.cell y c hc;exact absurd (Hz e) (by rw[z];exact gG hb)
  have pinN:∀b,s.heap.objs.size<=b->∀p∈X.pn++(pins++[(f,ZjD qual params body scope cl pm c' ctv)]),p.1≠b:=λb hb p hp z=>by
   have:=(I.pin p hp).1
   exact absurd (Hz this) (by rw[z];exact gG hb)
  have J:=I'.step (H':=upd H' a (.lst ys)) (h':=h') (g':=s'.gens) (d':=s'.drawn) (t':=s'.toks) (ch:=[a,kS]) (λb hb=>by
    have hb':s.heap.objs.size<=b:=by
     rcases ay.mp hb with rfl|hb
     .exact ha
     .rw[bU.mp hb];exact hS
    exact⟨.inr (aZ I.sz hb'),bG (am I.lt hb'),cellN b hb',pinN b hb'⟩)
   (λb o _ _ hb e _=>kk b o (λz=>hb (by simp[z])) (λz=>hb (by simp[z])) e)
   (λb o _ _ hb e _=>⟨o.slots,kk b o (λz=>hb (by simp[z])) (λz=>hb (by simp[z])) e⟩)
   (λb o hb e n=>by rw[ZJ (λz=>hb (by simp[z]))];exact n)
   (λb o hb e=>⟨o,kk b o (λz=>hb (by simp[z])) (λz=>hb (by simp[z])) e⟩)
   (λb zs e=>by rw[ZJ (nA _ _ e)];exact e) (λb o u e=>by rw[ZJ (nA _ _ e)];exact e)
   (λb zs e=>⟨#[],by rw[ZJ (nA _ _ e),e];simp⟩)
   (λm hm=>by
    obtain⟨o,es,ep,e,r⟩:=hm;exact⟨o,es,ep,kk _ _ (aE (am I.lt ha)) (aE (am I.lt hS)) e,r⟩) hok I'.bare
  exact⟨.ref a,_,J.unpinned,rfl,q _ _ (α++[a]) (ex.trans (Ext.new fa)) (hr'.new fa v2) (.ref ⟨by rw[<-h.len];simp,Kn.lst ZB⟩)⟩
theorem Zgf(hm:ZsH X.K)(hc:ZeH X.K X.env.code=true)(hr:Room (k+3) X.A)(L:Lms X scope cl x N fr)(hmg:X.mg "sorted"=none)(ha:DA X ξ [e] fs)(hb:∀q f cd s H,Room k (X.A.in1.in1.deeper (PySem.W.envX q scope s.heap.objs.size f cd cl))->DE (lam X X.A.in1.in1 q scope cl N f cd s H) E0 body g)(hbind:∀(qual:Str)(pm:ae)(c':Addr)(ctv u:ae),iT (PySem.W.kla_fn "<lambda>" qual params body scope cl pm (.ref c') ctv) ⟨[u],[]⟩=pure [(x,u)]:=by intros;rfl)(hdef:autoParam (defaultsOf params X.env=([],[])) Qrf._auto_1)(hg:autoParam (Gl X "sorted") Qrf._auto_1)(he:autoParam (av [e] X.env=(false,eval e X.env)::av [] X.env) Qrf._auto_1)(hpl:autoParam (((cR pos (av [e] X.env)).any (·.1)||(jr pos (gp [⟨some "key",.Lambda params body scope lpos,kpos⟩] X.env)).any (·.1.isNone))=false) Qrf._auto_1) :
  DE X ξ (.Call (.Name "sorted" p) [e] [⟨some "key",.Lambda params body scope lpos,kpos⟩] pos) (Zg0 fs fr g):=by
 obtain⟨ta,pa,qa⟩:=ha;obtain⟨c,P,lc⟩:=ZkA hc;refine⟨λσ H Q=>∃ρ α M,SR X.K H α σ ρ/\HR X.K H α M/\OP X.K H α ξ Q (Zg0 fs fr g ρ M),?_,λσ ρ H α M Q s h q=>⟨ρ,α,M,s,h,q⟩⟩;rintro pins s σ H Q I ⟨ρ,α,M,sr,hr0,op⟩;refine wpAny_Call_Name_kw (Zbw I hg hmg Zc0 ?_ (by decide) (by decide))
 refine ZeK hpl (evalArgs_kw2 rfl (thn (pa pos pins s σ H (λvs H1=>∃α1 M1 ds,Ext X.K H H1 α α1/\HR X.K H1 α1 M1/\Reps X.K H1 α1 vs ds/\OP X.K H1 α1 ξ Q (ZdU g fr ρ ds M1)) I (qa σ ρ H α M _ sr hr0 (OG.seq op λds M1 vs H1 α1 e1 h1 r1 q1=>⟨α1,M1,ds,e1,h1,r1,q1⟩))) λus s1 hz=>?_) he)
 obtain⟨vs,H1,I1,rv,α1,M1,ds,e1,h1,r1,op1⟩:=hz;have sr1:=sr.mono e1;have key:∀n,ds=[.ref n]->wpAny (ao X.prog X.w) X.A (evalAll ((jr pos (gp [⟨some "key",.Lambda params body scope lpos,kpos⟩] X.env)).map (·.2))) (λks s₂=>wpAny (ao X.prog X.w) X.A (call (.builtin "sorted") us (((jr pos (gp [⟨some "key",.Lambda params body scope lpos,kpos⟩] X.env)).filterMap (·.1)).zip ks)) (EP X pins σ Q) X.xe s₂) X.xe s1:=λn en=>by
  subst en;cases hx:M1[n]? with
  |none=>simp only[ZdU,hx]at op1;exact op1.elim
  |some so=>
   cases so with
   |lst xs=>
    by_cases hk:∃ks,Ziz g fr ρ M1 xs ks
    .obtain⟨ks,sk⟩:=hk;rw[ZdV hx sk]at op1;obtain⟨l64,nd,keys⟩:=sk;cases r1 with
     |cons r1 r0=>
      cases r0;cases r1 with
      |@ref p0 _ hp0=>
       obtain⟨u0,rfl,ru⟩:=ZbM rv;cases ru;obtain⟨ws,g1,g2⟩:=h1.at hp0 hx;show wpAny _ _ (evalAll [(do let v <-eval (.Lambda params body scope lpos) X.env;standAt pos;pure v)]) _ _ s1
       refine wpAny_evalAll_cons (Wb (PySem.W.kla_eval hdef (ZkB I1 hm lc L.clos λf c' pm ctv H2 s2 hf I2 cd2 ex2 hr2=>Wb (wpAny_standAt (Wp (wpAny_evalAll_nil ?_))))));have h2:=hr2 X.K α1 M1 h1;obtain⟨ws2,g3,g4⟩:=h2.at ((ex2 X.K α1).get hp0) hx;exact ZiA hr L hb (λu=>hbind _ pm c' ctv u) I2 cd2 (sr1.mono (ex2 X.K α1)) h2 hx g3 g4 l64 nd keys λv H' α' ex' h' r'=>op1 v H' α' ((ex2 X.K α1).trans ex') h' r'
    .simp only[ZdU,hx,dif_neg hk]at op1;exact op1.elim
 by_cases hd:∃n,ds=[.ref n]
 .obtain⟨n,hd⟩:=hd;exact key n hd
 .have e:ZdU g fr ρ ds M1=.bad:=by
   unfold ZdU;split
   .exact absurd ⟨_,rfl⟩ hd
   .rfl
  rw[e]at op1;exact op1.elim
end DL
namespace L2
open PyProof.Rows
noncomputable def ZsK(o:Option Obj):Bool:=match o with
 |some ⟨.none,none,.fields ⟨[]⟩,⟨[]⟩⟩=>true
 |_=>false
theorem Znf(h:ZsK o=true):o=some {cls:=.none,data:=.fields #[]}:=by
 unfold ZsK at h
 split at h
 .rfl
 .cases h
theorem ZiB{o:Obj}{a:Addr}:∀{l:Pn},l.lookup a=some o->(a,o)∈l
 |[],h=>by cases h
 | (b,u)::r,h=>by
  rw[cg]at h;cases e:a==b with
  |true=>
   rw[e]at h
   have:a=b:=by simpa using e
   cases h;rw[this];exact bT
  |false=>
   rw[e]at h;exact aF _ (ZiB h)
def Zgg(K T:Fg):Bool:=K.all λp=>match p.2 with
 |⟨.type n,_,.fields vs,_⟩=>if n="code" then(match(vs[11]? :Option ae)with
  |some (.ref P)=>(K.lookup P).isNone&&ZsK (T.lookup P)
  |_=>true)else true
 |_=>true
theorem ZiC{K:Fg}(h:Zgg K T=true)(t:TbP K P):K.lookup P=none/\T.lookup P=some {cls:=.none,data:=.fields #[]}:=by
 obtain⟨c,⟨oc,od,dt,sl⟩,vs,e1,e2,e3,e4⟩:=t;have q:=c9.mp h _ (ZiB e1);cases e2;cases e3;dsimp only at q;rw[if_pos rfl,e4]at q;simp only[bE,gH]at q;exact⟨q.1,Znf q.2⟩
theorem ZiD{K:Fg}(KX:K.In s₁.heap)(TX:T.In s₁.heap)(hT:Zgg K T=true)(hns:s₁.heap.Ns aR mg)(hb:s₁.heap.Ns hV mb)(hbb:∀x:Str,x≠"__name__"->mb x=bL x)(hlim:s₁.heap.NoLimit)(hg:s₁.gens= #[])(ha:s₁.heap.get? a=some {cls:=.type "list",data:=.seq vs.toArray})(hi:io vs ns)(hl:ns.length<=sizeLine)(hr:Room k mz)(F:∀base:Heap,K.In base->base.Ns aR mg->FnOk P w K mg base CX k fa fd [x] sp)(hbind:∀(s:aC)(u:ae),my s fd ⟨[u],[]⟩ [(x,u)])(hsp:∀H:Hp,DL.SqF K H a (ns.map V.int)->sp [.ref a] H (λv _=>v=.bl true) λ_ _ _=>False)(hCX:∀H e s',CX [] H s₁ (λ_ _ _=>False) e s'->False):fH (ao P w) mz (.call (.ref fa) ⟨[.ref a],[]⟩) (λr s'=>r=.ok (.ret (.bool true))/\OldK s₁.heap s'.heap/\s'.os=s₁.os/\iN s'.gens) s₁:=by
 have rv:=Zem hi;have lenV:=hi.length;have tb:∀{b:Addr},TbP K b->s₁.heap.get? b=some {cls:=.none,data:=.fields #[]}:=λt=>TX _ _ (ZiC hT t).2;have core:∀H:Hp,DL.SqF K H a (ns.map V.int)->HOk P w H s₁.heap->(∀b u,H b=some u->(b=a/\K.lookup a=none/\∃o xs,u=.frz o (.lst xs))\/(TbP K b/\u=.tbl #[]))->Tbs K H->
   fH (ao P w) mz (.call (.ref fa) ⟨[.ref a],[]⟩) (λr s'=>r=.ok (.ret (.bool true))/\OldK s₁.heap s'.heap/\s'.os=s₁.os/\iN s'.gens) s₁:=by
  intro H hS hok hA hTb;have base_of:∀{b:Addr}{o:Obj},s₁.heap.get? b=some o->H b=none->(Zjz s₁.heap H).get? b=some o:=λe n=>ZfG e n;have noA:∀{b:Addr}{o:Obj}{es:Array mA}{ep:Nat},s₁.heap.get? b=some o->o.data=.dict es ep->H b=none:=λ{b o es ep} e d=>by
   cases q:H b with
   |none=>rfl
   |some u=>
    rcases hA b u q with⟨rfl,_⟩|⟨t,_⟩
    .rw[ha]at e;cases e;have d':Data.seq vs.toArray _=mB es ep:=d;cases d'
    .rw[tb t]at e;cases e;have d':lO _=mB es ep:=d;cases d'
  have nsK:∀{b:Addr}{m:Str->Option ae},s₁.heap.Ns b m->(Zjz s₁.heap H).Ns b m:=λ{b m} ⟨o,es,ep,e,d,r⟩=>⟨o,es,ep,base_of e (noA e d),d,r⟩;have hKb:K.In (Zjz s₁.heap H):=λb o e=>base_of (KX b o e) (by
   cases q:H b with
   |none=>rfl
   |some u=>
    rcases hA b u q with⟨rfl,z,_⟩|⟨t,_⟩
    .rw[z]at e;cases e
    .rw[(ZiC hT t).1]at e;cases e)
  have hM:Mod K mg (Zjz s₁.heap H):=⟨hKb,nsK hns,⟨mb,nsK hb,hbb⟩,let ⟨mc,h1,h2⟩:=hlim;⟨mc,nsK h1,h2⟩⟩;have e0:Env0 P w K mg (Zjz s₁.heap H) mz [] s₁ H:=⟨rfl,hM,λb o e=>Zhd e,nv (Zhc _ _),trivial,λb hb=>absurd (show b∈([]:List Addr)from hb) (by simp),hok,.of_eq hg,.inl rfl,hTb⟩
  refine m5 ((F _ hKb (nsK hns)).run mz [] s₁ H ⟨[.ref a],[]⟩ [.ref a] [.ref a] _ _ hr e0 (hbind s₁ (.ref a)) (.cons rfl .nil) (hsp H hS)) λr s' h=>?_;cases r with
  |error e=>exact(hCX H e s' h).elim
  |ok fl=>
   cases fl with
   |next=>exact gn h
   |brk=>exact gn h
   |cont=>exact gn h
   |ret u=>
    obtain⟨v,H',os,bare,un,hok',r',q⟩:=h;have q':v=.bl true:=q;subst q';obtain rfl:u=mT true:=r';have fin:∀b o,s₁.heap.get? b=some o->asItWas s₁.heap s'.heap b o:=λb o e=>by
     cases q:H b with
     |none=>exact .inl (un.keep b o e q (by intro z;exact absurd (show b∈([]:List Addr)from z) (by simp)) (by simp))
     |some u=>
      rcases hA b u q with⟨_,_,ob,xs,rfl⟩|⟨t,rfl⟩
      .have z2:=un.frzs b ob _ q;obtain⟨e1,_⟩:=hok b _ q;obtain⟨e2,_⟩:=hok' b _ z2;rw[e]at e1;cases e1;exact .inl e2
      .obtain⟨more,z2⟩:=un.tbls b _ q;have e2:=(hok' b _ z2).1;have e1:=tb t;rw[e]at e1;cases e1;obtain⟨c,oc,vs',f1,f2,f3,f4⟩:=t;exact .inr (.inl ⟨⟨c,oc,vs',KX _ _ f1,f2,f3,f4⟩,rfl,#[],more,rfl,e2⟩)
    refine⟨rfl,⟨fin,λb o e=>?_⟩,os,bare⟩;rcases fin b o e with z|⟨_,_,vs',m,_,z⟩|⟨_,_,⟨o',_,_,z,_⟩,_⟩
    .exact⟨_,z⟩
    .exact⟨_,z⟩
    .exact⟨_,z⟩
 have tok:∀H:Hp,∀b,TbP K b->H b=some (.tbl #[])->ZaN P w H s₁.heap b (.tbl #[]):=λH b t _=>⟨tb t,eZ,λpos cv z=>by cases z⟩
 have na:¬TbP K a:=λt=>by
  have:=tb t
  rw[ha]at this;cases this
 cases hk:K.lookup a with
 |some o=>
  have e:=KX a o hk;rw[ha]at e;cases e
  classical
  refine core (λb=>if TbP K b then some (.tbl #[])else none) (.inr ⟨_,vs.toArray,_,hk,rfl,rfl,rfl,by rw[ah,lenV];exact hl,by simpa using rv⟩) (λb u z=>?_) (λb u z=>?_) (λb t=>⟨_,if_pos t⟩)
  .by_cases t:TbP K b
   .have z':=(if_pos t).symm.trans z;cases z';exact tok _ b t (if_pos t)
   .have z':=(if_neg t).symm.trans z;cases z'
  .by_cases t:TbP K b
   .have z':=(if_pos t).symm.trans z;cases z';exact .inr ⟨t,rfl⟩
   .have z':=(if_neg t).symm.trans z;cases z'
 |none=>
  classical
  let H:Hp:=λb=>if b=a then some (.frz {cls:=.type "list",data:=.seq vs.toArray} (.lst (ns.map V.int)))else if TbP K b then some (.tbl #[])else none
  have hHa:H a=some (.frz {cls:=.type "list",data:=.seq vs.toArray} (.lst (ns.map V.int))):=if_pos rfl;have hHt:∀b,TbP K b->H b=some (.tbl #[]):=λb t=>by
   show(if b=a then _ else if TbP K b then _ else _)=_
   have nb:b≠a:=λz=>na (z▸t);rw[if_neg nb,if_pos t]
  have hHn:∀b,b≠a->¬TbP K b->H b=none:=λb n t=>by
   show(if b=a then _ else if TbP K b then _ else _)=_
   rw[if_neg n,if_neg t]
  refine core H (.inl ⟨_,hHa⟩) (λb u z=>?_) (λb u z=>?_) (λb t=>⟨_,hHt b t⟩)
  .by_cases hb:b=a
   .subst hb;rw[hHa]at z;cases z;exact⟨ha,by rw[af];exact hl,vs,_,rv,ha⟩
   .by_cases t:TbP K b
    .rw[hHt b t]at z;cases z;exact tok _ b t (hHt b t)
    .rw[hHn b hb t]at z;cases z
  .by_cases hb:b=a
   .subst hb;rw[hHa]at z;cases z;exact .inl ⟨rfl,hk,_,_,rfl⟩
   .by_cases t:TbP K b
    .rw[hHt b t]at z;cases z;exact .inr ⟨t,rfl⟩
    .rw[hHn b hb t]at z;cases z
theorem ZkD{l:PySem.W.OpenLaw}{K T:lR->Fg}{CX:c6->CXT}{sp:c6->Sp}(hn:l.most=some n)(hn2:n<=sizeLine)(hdf:d.params.defaults=[])(hr:Room k mz)(hY:∀(w:c6)(h:Heap),YP w h->(K w.params).In h/\(T w.params).In h)(hT:∀w:c6,Zgg (K w.params) (T w.params)=true)(F:∀(w:c6)(mg:Str->Option ae)(fa:Addr)(h:Heap),(K w.params).In h->h.Ns aR mg->mg d.name=some (.ref fa)->∃fd:iS,(∀(s:aC)(u:ae),my s fd ⟨[u],[]⟩ [(x,u)])/\∀base:Heap,(K w.params).In base->base.Ns aR mg->FnOk l.prog w (K w.params) mg base (CX w) k fa fd [x] (sp w))(hsp:∀(w:c6)(H:Hp)(a:Addr)(ns:List Int),ns.length<=n->DL.SqF (K w.params) H a (ns.map V.int)->sp w [.ref a] H (λv _=>v=.bl true) λ_ _ _=>False)(hCX:∀(w:c6)(H:Hp)(s:aC)(e:ae)(s':aC),CX w [] H s (λ_ _ _=>False) e s'->False):PySem.W.WalkO q loose XP YP l.row.toRowW d [] (λf vs=>PySem.call f vs):=by
 refine Att.Ze5 hn hdf λw s₀ s₁ mg mb fa o pm cd doc a vs ns G Y ho hd hcd hmg hobj hints hlen hg=>?_;obtain⟨KX,TX⟩:=hY w _ Y;obtain⟨fd,hb,hF⟩:=F w mg fa _ KX G.T.g hmg;exact ZiD KX TX (hT w) G.T.g G.T.b G.T.builtins G.T.nolimit hg hobj hints (aZ hlen hn2) hr hF hb (λH hS=>hsp w H a ns hlen hS) λH e s'=>hCX w H s₁ e s'
end L2
namespace DL
open PyProof.Rows L2
theorem Zng{K:Fg}{ns:List Int}(hF:SqF K H a (ns.map V.int))(h:∃M',F [.rol (ns.map D.int)] []=.ok (.bl true) M'):spD K F [.ref a] H (λv _=>v=.bl true) (λ_ _ _=>False):=by
 obtain⟨M',e⟩:=h;refine⟨[.rol (ns.map D.int)],[],[],.cons (.rol hF (Reps.ints ns)) .nil,HR.nil,?_⟩;rw[e];intro v H' α' _ _ r;cases r;rfl
theorem Znh{K:Fg}(x:PySem.W.Frag.In (K++T) h):K.In h:=λb o e=>x b o (by rw[List.lookup_append,e];rfl)
theorem ZkE{K:Fg}(x:PySem.W.Frag.In (K++T) h)(d:T.all (λp=>(K.lookup p.1).isNone)=true):T.In h:=λb o e=>x b o (by
 have q:=c9.mp d _ (ZiB e);rw[List.lookup_append,gH.mp q];exact e)
def ZrT(K:Fg)(x:Str):Bool:=match PySem.W.nsIn K aR x with
 |some (some (.ref f))=>(match K.lookup f with
  |some ⟨_,_,.func fd,_⟩=>ZeH K fd.code
  |_=>false)
 |_=>false
noncomputable def Zni(K:Fg):Bool:=match PySem.W.nsIn K aR "__builtins__" with
 |some (some (.ref bm))=>(match K.lookup bm with
  |some ⟨.type n,some d,.plain,_⟩=>decide (n="module")&&decide (d=hV)&&decide (bm≠hV)&&decide (bm≠aR)
  |_=>false)
 |_=>false
theorem Zgh{K:Fg}(h:Zni K=true):ZsH K:=by
 unfold Zni at h
 split at h
 .rename_i bm e1
  split at h
  .rename_i n d sl e2;simp only[bE,decide_eq_true_eq]at h;obtain⟨⟨⟨rfl,rfl⟩,h3⟩,h4⟩:=h;exact⟨bm,_,e1,e2,rfl,rfl,rfl,h3,h4⟩
  .cases h
 .cases h
section
variable {w:c6}{K:Fg}
theorem ZpU{st:Stmt}(F:Fun K x qual st f fd)(hl:ZeH K fd.code=true)(S:FnScope N ps (Zo st))(hn:n=ps.length)(hm:m=N.length-n)(hb:∀(cdv:ae)(A:cV)(outer:List Env)(s:aC)(H:Hp)(E:XK),ZeH K cdv=true->Room k (A.deeper (iY qual (Zo st) s.heap.objs.size f cdv))->Thr (Ze4 (CXE P w) P w K mg base N qual (Zo st) f cdv A outer s H E) E->DSs (Ze4 (CXE P w) P w K mg base N qual (Zo st) f cdv A outer s H E) E (Zac st) g):FnOk P w K mg base (CXE P w) (k+1) f fd ps (spD K (fnF g n m)):=by
 obtain⟨oc,od,kV,doc,pm,an,cdv,ct,osl,rfl,lk,hcd⟩:=F.ex;refine Zmk lk hcd S (λvs H Q E h=>?_) (λA outer s H vs Q E hr h=>?_)
 .obtain⟨ds,α,M,r,_,q⟩:=h;by_cases c:ds.length=n
  .rw[r.length,c,hn]
  .simp only[fnF,if_neg c]at q;exact q.elim
 .obtain⟨ds,α,M,r,hh,q⟩:=h;obtain⟨t,p,w'⟩:=hb cdv A outer s H E hl hr Zla;by_cases c:ds.length=n
  .simp only[fnF,if_pos c]at q;refine⟨t,p,w' _ _ H α M _ (SR.start (N:=N) r (k:=m) (by rw[hm,c])) hh ?_⟩
   cases e:g (ds.map some++bC m none) M with
   |nx ρ' M'=>simp only[e]at q;exact λσ' H' α' ex hr sr=>q _ H' α' ex hr .non
   |ret d M'=>simp only[e]at q;exact q
   |exc x M'=>simp only[e]at q;exact q
   |brk ρ' M'=>simp only[e]at q;exact q.elim
   |cnt ρ' M'=>simp only[e]at q;exact q.elim
   |bad=>simp only[e]at q;exact q.elim
  .simp only[fnF,if_neg c]at q;exact q.elim
theorem Zlt{st:Stmt}(D:Df K x st)(hl:ZrT K x=true)(gl:∀c v,PySem.W.nsIn K aR c=some (some v)->mg c=some v)(hb:∀(cdv:ae)(A:cV)(outer:List Env)(s:aC)(H:Hp)(E:XK)(f:Addr),ZeH K cdv=true->N.Nodup->Room k (A.deeper (iY x (Zo st) s.heap.objs.size f cdv))->Thr (Ze4 (CXE P w) P w K mg base N x (Zo st) f cdv A outer s H E) E->DSs (Ze4 (CXE P w) P w K mg base N x (Zo st) f cdv A outer s H E) E (Zac st) g)(h1:autoParam ((Zo st).kind=.function) Qrf._auto_1)(h2:autoParam ((Zo st).isCoroutine=false) Qrf._auto_1)(h3:autoParam ((Zo st).isGenerator=false) Qrf._auto_1)(h4:N.Nodup:=by decide +kernel)(h5:autoParam ((N.take n).length=n) Qrf._auto_1)(h6:∀y∈N.take n,(Zo st).names.lookup y=some .local\/(Zo st).names.lookup y=some .cell:=by decide +kernel)(h7:∀y∈(Zo st).names,y.2≠ .free:=by decide +kernel)(hm:autoParam (m=N.length-n) Qrf._auto_1)(bi:∀(kV doc pm:ae)(an:Option Addr)(cdv ct:ae)(us:List ae),us.length=n->iT (PySem.W.fnOf x x (Za6 st) (Zac st) (Zo st) .none kV doc pm an cdv ct) ⟨us,[]⟩=pure ((N.take n).zip us):=by first|exact λ_ _ _ _ _ _=>Zus λ_=>rfl|exact λ_ _ _ _ _ _=>Zut λ_ _=>rfl|exact λ_ _ _ _ _ _=>Zuu λ_ _ _=>rfl):Cal P w K mg base x (k+1) n (fnF g n m):=by
 obtain⟨f,fd,a,F⟩:=D;have S:FnScope N (N.take n) (Zo st):=⟨h1,h2,h3,h4,by rw[h5],h6,h7⟩
 have hl':ZeH K fd.code=true:=by
  obtain⟨oc,od,kV,doc,pm,an,cdv,ct,osl,e,lk,hcd⟩:=F.ex;unfold ZrT at hl;rw[a]at hl;dsimp only at hl;rw[lk]at hl;exact hl
 exact⟨f,fd,N.take n,ZpU F hl' S h5.symm hm (λcdv A outer s H E hc hr θ=>hb cdv A outer s H E f hc h4 hr θ),gl _ _ a,F.kp,h5,F.binds (λkV doc pm an cdv ct us hu=>bi kV doc pm an cdv ct us (hu.trans h5))⟩
end
theorem Zux(XN N:List Str)(dn:List (Str×dk))(fr:List Nat)(hN:autoParam (X.N=XN) Qrf._auto_1)(hd:autoParam (X.env.scope.names=dn) Qrf._auto_1)(hc:autoParam (X.env.cells=b6 n dn []) Qrf._auto_1)(hk:autoParam (scope.kind=.function) Qrf._auto_1)(h:Zpi XN N dn scope.names 1 fr=true:=by decide +kernel)(hl:scope.names.all (λy=>y.2 != .cell)=true:=by decide +kernel)(co:autoParam (scope.isCoroutine=false) Qrf._auto_1)(gen:autoParam (scope.isGenerator=false) Qrf._auto_1)(hx:scope.names.lookup x=some .local:=by decide +kernel)(n0:autoParam (N[0]?=some x) Qrf._auto_1):Lms X scope (clF scope X.env) x N fr:=by
 have B:=Zdv XN N dn 1 fr hN hd hc hk h;unfold Zpi at h;simp only[bE,c9,bne_iff_ne,ne_eq,Bool.or_eq_true,beq_iff_eq]at h hl;obtain⟨⟨h1,h2⟩,h3⟩:=h;refine⟨B.clos,hk,co,gen,hl,hx,B.sub,λy z=>?_,n0,B.len,λj i e=>?_⟩
 .rcases z with z|z
  .exact absurd rfl (hl _ (PySem.mem_of_lookup z))
  .obtain⟨kd,r1,r2⟩:=ZaC (env:=X.env) z;obtain⟨c,hc⟩:=B.has 0 y (by
    rcases r1 with r1|r1
    .exact .inl (r1▸r2)
    .exact .inr (r1▸r2))
   rw[Zak]at hc;rcases ZcC hc with q|q
   .exact absurd rfl (hl _ (ZaT _ _ _ _ (PySem.mem_of_lookup q)))
   .exact⟨c,q.2⟩
 .obtain⟨y,a1,a2,a3,a4,a5,_⟩:=B.at_ j i e;refine⟨y,a1,a2,a3,?_,a5⟩;have q:=h3 j (bH.mpr (ar.mp e).1);rw[e]at q;dsimp only at q;rw[a1,<-hN,a2]at q;simp only[bE,beq_iff_eq]at q;exact q.1.2
theorem Reps.tk{K:Fg}{H:Hp}{α:List Addr}:∀{vs:List V}{ds:List D}(i:Nat),Reps K H α vs ds->Reps K H α (vs.take i) (ds.take i)
 |_,_,0,_=>.nil
 |_,_,_+1,.nil=>.nil
 |_,_,i+1,.cons r t=>.cons r (Reps.tk i t)
theorem Reps.dp{K:Fg}{H:Hp}{α:List Addr}:∀{vs:List V}{ds:List D}(i:Nat),Reps K H α vs ds->Reps K H α (vs.drop i) (ds.drop i)
 |_,_,0,h=>h
 |_,_,_+1,.nil=>.nil
 |_,_,i+1,.cons _ t=>Reps.dp i t
end DL
namespace DL
open L2
end DL
namespace DQ
open PyProof.Rows
end DQ
namespace DL
open PyProof.Rows L2
end DL
namespace SX
open PySem.Builtin.Str DL
noncomputable def stp(s:Str)(c L:Nat)(b:Array Nat×Nat)(a:Nat):Array Nat×Nat:=if(decide (b.1.size<L)&&decide (b.2<=a)&&decide (a+1<=s.length)&&subAt s ⟨#[c]⟩ a)=true then(b.1.push a,a+1)else(b.1,b.2)
noncomputable def jn(c:Nat):List (List Nat)->List Nat
 |[]=>[]
 |[a]=>a
 |a::r=>a++c::jn c r
end SX
namespace DL
open PyProof.Rows L2 SX
def okT(z:Str)(lo hi:Option Int):Prop:=0<=lo.getD 0/\lo.getD 0<=hi.getD z.cps.toList.length/\lo.getD 0<=z.cps.toList.length
instance (z:Str) (lo hi:Option Int):Decidable (okT z lo hi):=by unfold okT;infer_instance
end DL
namespace DL
open PyProof.Rows L2
end DL
namespace DQ
open PyProof.Rows
open Builtin Builtin.ObjectAttr
open PySem.W (Looks findIn mroIn specialIn takesIn clsIn looks_findIn looks_mroIn looks_find findObj handedIn hasDictIn lookIn)
end DQ
namespace DL
open PyProof.Rows L2
open PySem.W (nsIn excIn tailIn nsOkIn mroIn clsIn typeIn findIn specialIn takesIn hasDictIn readsIn findCls handedIn)
end DL
namespace DL
open PyProof.Rows L2
open PySem.W (nsIn excIn tailIn nsOkIn mroIn clsIn typeIn findIn specialIn takesIn kitOne Looks looks_mroIn looks_typeIn exmAny exm_tup2)
end DL
namespace DL
open PyProof.Rows L2
noncomputable def Bag(n:Nat)(M:Sto):Prop:=∃a b:Int,0<=a/\M[n]?=some (.lst [.int a,.int b])
structure Gr(n:Nat) (M M':Sto):Prop where
 len:M.length<=M'.length
 bag:Bag n M'
 keep:∀k,k≠n->k<M.length->M'[k]?=M[k]?
theorem Znj(hl:ds.length=n)(h:g (ds.map some++bC k none) M=.ret d M'):fnF g n k ds M=.ok d M':=by
 unfold fnF;rw[if_pos hl,h]
theorem ZiE{M1:Sto}(e:g ρ M=.nx ρ1 M1):ZD g h ρ M=h ρ1 M1:=by
 unfold ZD;rw[e]
theorem ZeL(h1: -(2^64)<j)(h2:j<2^64):Zp i j:=.inr (.inl (jV h1 h2))
theorem Zau(h1: -(2^64)<i)(h2:i<2^64):Zp i j:=.inl (jV h1 h2)
theorem at0{x:D}:atI (x::r) 0=some x:=by
 show(ixN (r.length+1) 0).bind _=_;unfold ixN;rw[if_pos (by decide),if_pos ⋯]
 rfl
theorem at1{x:D}:atI (x::y::r) 1=some y:=by
 show(ixN (r.length+2) 1).bind _=_;unfold ixN;rw[if_pos (by decide),if_pos ⋯]
 rfl
theorem ix0:ixN (n+1) 0=some 0:=by
 unfold ixN;rw[if_pos (by decide),if_pos ⋯]
 rfl
theorem ix1:ixN (n+2) 1=some 1:=by
 unfold ixN;rw[if_pos (by decide),if_pos ⋯]
 rfl
theorem Bag.lt(h:Bag n M):n<M.length:=let ⟨_,_,_,e⟩:=h;(ar.mp e).1
theorem Bag.app(h:Bag n M)(L:Sto):Bag n (M++L):=by
 have hl:=h.lt;obtain⟨a,b,h1,h2⟩:=h;exact⟨a,b,h1,by rw[aB hl];exact h2⟩
theorem Gr.trans{M1 M2:Sto}(a:Gr n M M1)(b:Gr n M1 M2):Gr n M M2:=
 ⟨aZ a.len b.len,b.bag,λk h1 h2=>(b.keep k h1 (am h2 a.len)).trans (a.keep k h1 h2)⟩
theorem Gr.app(h:Bag n M)(L:Sto):Gr n M (M++L):=⟨by simp,h.app L,λk _ hk=>by rw[aB hk]⟩
theorem Gr.app2{M1:Sto}(h:Gr n M M1)(L:Sto):Gr n M (M1++L):=h.trans (.app h.bag L)
theorem Gr.new{M1:Sto}(hb:Bag n M)(h:Gr n (M++o::L) M1):M1[M.length]?=some o:=by
 rw[h.keep _ (bG hb.lt) (by simp)]
 simp
theorem ZkF{ns:List Int}(h:k<ns.length):atI (ns.map D.int) (k:Int)=some (.int ns[k]):=Zmq (by rw[bn,aa h];rfl)
theorem Zgi{ρ:Ro}(h:ρ[i]?=some x):ρ.set i x=ρ:=by
 apply eO;intro k;by_cases hk:k=i
 .subst hk;rw[bf (ar.mp h).1,h]
 .rw[aS (cu hk)]
def cEu(i j:Nat):Sv:=Zdi i j (Zc (Zf j) (Zc (e2 dMod (Zf i) (Zf j)) aNil))
theorem ZpV{c:Tv}{i j:Nat}{M:Sto}(hij:i≠j)(hc:∀(ρ:Ro)(b:Nat),ρ[j]?=some (some (.int b))->c ρ M=.ok (decide (b≠0)) M):∀(b a:Nat)(ρ:Ro),ρ[i]?=some (some (.int a))->ρ[j]?=some (some (.int b))->sWh c (cEu i j) ρ M=.nx ((ρ.set i (some (.int (i9 a b:Nat)))).set j (some (.int 0))) M:=by
 intro b
 induction b using Nat.strongRecOn with
 |ind b ih=>
  intro a ρ hi hj;by_cases h0:b=0
  .subst h0;rw[Zet (M1:=M) (by rw[hc ρ 0 hj];rfl),Nat.gcd_zero_right,Zgi hi,Zgi (x:=some (.int 0)) hj]
  .have hl:i<ρ.length:=(ar.mp hi).1;have hl2:j<ρ.length:=(ar.mp hj).1;have ht:c ρ M=.ok true M:=by rw[hc ρ b hj,decide_eq_true h0]
   have hb:cEu i j ρ M=.nx ((ρ.set i (some (.int b))).set j (some (.int (a%b:Nat)))) M:=by
    have hb0:¬(b:Int)=0:=⋯
    have hm:(a:Int).fmod (b:Int)=((a%b:Nat):Int):=by rw[jz _ ⋯];rfl
    simp[cEu,Zdi,Zc,aNil,Zf,e2,dMod,Out.bind,Zas,hi,hj,hb0,hm,h0]
   have g1:((ρ.set i (some (.int b))).set j (some (.int (a%b:Nat))))[i]?=some (some (.int b)):=by
    rw[aS (cu hij),bf hl]
   have g2:((ρ.set i (some (.int b))).set j (some (.int (a%b:Nat))))[j]?=some (some (.int (a%b:Nat))):=by
    rw[bf (by simpa using hl2)]
   have q:=ih (a%b) (Nat.mod_lt _ ⋯) b _ g1 g2
   rw[ZfY ht hb (by rw[q];intro z;cases z),q]
   have eg:i9 b (a%b)=i9 a b:=by rw[kO b,<-Nat.gcd_rec,kO]
   rw[eg,List.set_comm _ _ (cu hij),List.set_set,List.set_set]
theorem ZpW:eqF 12 M (.int a) (.int b)=some (a==b):=rfl
theorem ne0(ρ:Ro)(b:Nat)(h:ρ[j]?=some (some (.int b))):tv (e2 dNe (Zf j) (eC (.int 0))) ρ M=.ok (decide (b≠0)) M:=by
 simp[tv,e2,Zf,eC,h,Out.bind,dNe,ZpW];by_cases c:b=0
 .subst c;rfl
 .have:¬(b:Int)=0:=⋯
  simp[c,this]
theorem ZiF(a:Int):(if a<0 then -a else a)=(a.natAbs:Int):=by split<;>lia
def ZvN:Sv:=(ZD (Zdi 2 3 (Zc (Zj bAbs (Zc (Zf 0) aNil)) (Zc (Zj bAbs (Zc (Zf 1) aNil)) aNil))) (ZD (sWh (tv (e2 dNe (Zf 3) (eC (.int 0)))) (Zdi 2 3 (Zc (Zf 3) (Zc (e2 dMod (Zf 2) (Zf 3)) aNil)))) (Zai (Zf 2))))
def FGcd:W3:=fnF ZvN 2 2
theorem Zlu(a b:Int)(M:Sto):FGcd [.int a,.int b] M=.ok (.int (fZ a b:Nat)) M:=by
 refine Znj rfl ?_;refine(ZiE (ρ1:=[some (.int a),some (.int b),some (.int (a.natAbs:Nat)),some (.int (b.natAbs:Nat))]) (M1:=M) ?_).trans ?_
 .simp[fnF,ZD,sNil,Zai,Zpa,Zct,sIf,ZK,Zdi,ZmC,Zas,gNm,gNl,gCs,gTp,DL.e2,Zf,eC,ZX,Za8,Zj,Zc,aNil,tv,Zcq,ZgL,ZdH,Zhy,Zvy,Zhz,eIf,Zcr,ZmA,Out.bind,dAdd,dSub,dMul,dDiv,dMod,dPow,dLt,dLe,dGt,dGe,dIx,atD,at0,at1,ix0,ix1,bLen,bAbs,bMax,bMin,bInt,bList,ZgN,ZaB,kd,Zcs,dIs,dIsNot,isP,ZiF]
 .have q:=ZpV (c:=tv (e2 dNe (Zf 3) (eC (.int 0)))) (i:=2) (j:=3) (M:=M) (by decide) ne0 b.natAbs a.natAbs [some (.int a),some (.int b),some (.int (a.natAbs:Nat)),some (.int (b.natAbs:Nat))] rfl rfl
  refine(ZiE q).trans ?_;rfl
noncomputable def wO(o:Out β)(Q:β->Sto->Prop)(E:W2):Prop:=match o with
 |.ok a M=>Q a M
 |.exc c M=>E c M
 |.bad=>False
def wS(f:Fl)(N:W1)(R:W0)(B C:W1)(E:W2):Prop:=match f with
 |.nx ρ M=>N ρ M
 |.ret d M=>R d M
 |.brk ρ M=>B ρ M
 |.cnt ρ M=>C ρ M
 |.exc c M=>E c M
 |.bad=>False
noncomputable def Br(k:Bool)(A B:Prop):Prop:=(k=true->A)/\(k=false->B)
noncomputable def wG{β:Type}(o:Option β)(N:β->Prop):Prop:=match o with|some ρ=>N ρ|none=>False
noncomputable def wV(o:Option (Option D))(Q:D->Prop):Prop:=match o with|some (some d)=>Q d|_=>False
noncomputable def wI(x:D)(Q:Int->Prop):Prop:=match x with|.int i=>Q i|_=>False
noncomputable def wR(x:D)(Q:Nat->Prop):Prop:=match x with|.ref i=>Q i|_=>False
noncomputable def w1(x:List D)(Q:D->Prop):Prop:=match x with|[v]=>Q v|_=>False
noncomputable def w2(x:List D)(Q:D->D->Prop):Prop:=match x with|[v,w]=>Q v w|_=>False
noncomputable def wL(o:Option SO)(Q:List D->Prop):Prop:=match o with|some (.lst xs)=>Q xs|none=>False
section
variable {β:Type}{QG:β->Prop}{y:β}
theorem ZvO:w1 [d] Q=Q d:=rfl
theorem ZvP:w2 [d,x] Q2=Q2 d x:=rfl
theorem ZvQ:wV (some (some d)) Q=Q d:=rfl
theorem ZvR:wI (.int i) QI=QI i:=rfl
theorem ZvS:wR (.ref n) QR=QR n:=rfl
theorem ZvT:wL (some (.lst xs)) QL=QL xs:=rfl
theorem ZvU:wG (some y) QG=QG y:=rfl
end
section
variable {β:Type}{Q:β->Sto->Prop}{E:W2}{A A':Prop}
theorem Zq{d:β}:wO (.ok d M) Q E=Q d M:=rfl
theorem ZpX:wO (.exc c M:Out β) Q E=E c M:=rfl
theorem ZrU:Br true A A'=A:=by simp[Br]
theorem Zuy:Br false A A'=A':=by simp[Br]
theorem br(h1:k=true->A)(h2:k=false->A'):Br k A A':=⟨h1,h2⟩
theorem brD{p:Prop}[Decidable p](h1:p->A)(h2:¬p->A'):Br (decide p) A A':=⟨λh=>h1 (of_decide_eq_true h),λh=>h2 (of_decide_eq_false h)⟩
theorem ZdW{o:Out β}{Q':β->Sto->Prop}(h:wO o Q E)(hq:∀d M,Q d M->Q' d M)(he:∀c M,E c M->E' c M):wO o Q' E':=by
 cases o with
 |ok d M=>exact hq d M h
 |exc c M=>exact he c M h
 |bad=>exact h
theorem Zgj{o:Out β}(h:wO o Q (λ_ _=>False)):∃d M',o=.ok d M'/\Q d M':=by
 cases o with
 |ok d M=>exact⟨d,M,rfl,h⟩
 |exc c M=>exact h.elim
 |bad=>exact h.elim
theorem ZG{o:Out γ}{f:γ->Sto->Out β}:wO (o.bind f) Q E=wO o (λx M1=>wO (f x M1) Q E) E:=by cases o<;>rfl
end
section
variable {E:W2}{N B C:W1}{R:W0}{ρ:Ro}{M:Sto}{e f:Ev}
theorem ZsL:wO (e2 op f g ρ M) Q E=wO (f ρ M) (λx M1=>wO (g ρ M1) (λy M2=>wO (op x y M2) Q E) E) E:=by
 unfold e2;rw[ZG];congr 1;funext x M1;rw[ZG]
theorem ZvV:wO (Zf i ρ M) Q E=wV ρ[i]? (λd=>Q d M):=by
 unfold Zf;cases ρ[i]? with
 |none=>rfl
 |some o=>cases o<;>rfl
theorem Znk:wO (Zj F fs ρ M) Q E=wO (fs ρ M) (λds M1=>wO (F ds M1) Q E) E:=ZG
theorem Znl:wO (Zc f fs ρ M) Q E=wO (f ρ M) (λx M1=>wO (fs ρ M1) (λxs M2=>Q (x::xs) M2) E) E:=by
 unfold Zc;rw[ZG];congr 1;funext x M1;rw[ZG];congr 1
theorem ZpY:wO (ZX fs ρ M) Q E=wO (fs ρ M) (λxs M1=>xs.length<=1000/\Q (.tup xs) M1) E:=by
 unfold ZX;rw[ZG];congr 1;funext x M1;by_cases h:x.length<=1000
 .rw[if_pos h];simp[h,wO]
 .rw[if_neg h];simp[h,wO]
theorem ZpZ:wO (Za8 fs ρ M) Q E=wO (fs ρ M) (λxs M1=>xs.length<=1000/\Q (.ref M1.length) (M1++[.lst xs])) E:=by
 unfold Za8;rw[ZG];congr 1;funext x M1;by_cases h:x.length<=1000
 .rw[if_pos h];simp[h,wO]
 .rw[if_neg h];simp[h,wO]
theorem Zp0:wO (ZdH t ρ M) Q E=wO (t ρ M) (λk M1=>Q (!k) M1) E:=by
 unfold ZdH;rw[ZG];congr 1
theorem Zp1:wS (ZD a b ρ M) N R B C E=wS (a ρ M) (λρ1 M1=>wS (b ρ1 M1) N R B C E) R B C E:=by
 unfold ZD;cases a ρ M<;>rfl
theorem Z4{o:Out β}{k:β->Sto->Fl}:wS (Zas o k) N R B C E=wO o (λx M1=>wS (k x M1) N R B C E) E:=by cases o<;>rfl
theorem Zp2:wS (Zai f ρ M) N R B C E=wO (f ρ M) R E:=Z4
theorem Znm:wS (Zct f ρ M) N R B C E=wO (f ρ M) (λ_ M1=>N ρ M1) E:=Z4
theorem Zp3:wS (ZK (gNm i) f ρ M) N R B C E=wO (f ρ M) (λd M1=>N (ρ.set i (some d)) M1) E:=Z4
theorem Znn:wS (ZK (gTp gs) f ρ M) N R B C E=wO (f ρ M) (λd M1=>wG (gTp gs d ρ) (λr=>N r M1)) E:=by
 unfold ZK;rw[Z4];congr 1;funext d M1;cases gTp gs d ρ<;>rfl
theorem Zp4:wS (Zdi i j fs ρ M) N R B C E=wO (fs ρ M) (λds M1=>w2 ds λv w=>N ((ρ.set i (some v)).set j (some w)) M1) E:=by
 unfold Zdi;rw[Z4];congr 1;funext ds M1;rcases ds with _|⟨v,_|⟨w,_|⟨z,r⟩⟩⟩<;>rfl
theorem Zp5:wS (ZmC fo fi f ρ M) N R B C E=wO (f ρ M) (λd M1=>wO (fo ρ M1) (λo M2=>wO (fi ρ M2) (λi M3=>wR o λn=>wI i λk=>wL M3[n]? λxs=>wG (ixN xs.length k) λj=>N ρ (M3.set n (.lst (xs.set j d)))) E) E) E:=by
 unfold ZmC;rw[Z4];congr 1;funext d M1;rw[Z4];congr 1;funext o M2;rw[Z4];congr 1;funext i M3;cases o<;>cases i<;>try rfl
 rename_i n k;cases e:M3[n]? with
 |none=>simp only[e,wR,wI,wL,wS]
 |some s=>
  cases s with
  |lst xs=>
   cases e2:ixN xs.length k<;>simp only[e,e2,wR,wI,wL,wG,wS]
theorem wF(hl:ds.length=n):wO (fnF a n k ds M) Q E=wS (a (ds.map some++bC k none) M) (λ_ M1=>Q .non M1) Q (λ_ _=>False) (λ_ _=>False) E:=by
 unfold fnF;rw[if_pos hl];cases a (ds.map some++bC k none) M<;>rfl
theorem ZiG(h:wS o N R B C E)(hn:∀ρ M,N ρ M->N' ρ M)(hr:∀d M,R d M->R' d M)(hb:∀ρ M,B ρ M->B' ρ M)(hc:∀ρ M,C ρ M->C' ρ M)(he:∀c M,E c M->E' c M):wS o N' R' B' C' E':=by
 cases o with
 |nx ρ M=>exact hn _ _ h
 |ret ρ M=>exact hr _ _ h
 |brk ρ M=>exact hb _ _ h
 |cnt ρ M=>exact hc _ _ h
 |exc ρ M=>exact he _ _ h
 |bad=>exact h
variable {tg:Tg}{bd:Sv}
theorem ZiH(I:Nat->Ro->Sto->Prop):∀(xs:List D)(k:Nat)(ρ:Ro)(M:Sto),I k ρ M->(∀i ρ M (h:i<xs.length),I (k+i) ρ M->wG (tg xs[i] ρ) λr=>wS (bd r M) (I (k+i+1)) R N (I (k+i+1)) E)->(∀ρ M,I (k+xs.length) ρ M->N ρ M)->wS (Zbu tg bd xs ρ M) N R B C E
 |[],k,ρ,M,h,_,hn=>hn ρ M h
 |x::xs,k,ρ,M,h,st,hn=>by
  have s:=st 0 ρ M (by simp) h
  unfold Zbu;simp only[kP,iz]at s;cases e:tg x ρ with
  |none=>rw[e]at s;exact s.elim
  |some ρ1=>
   rw[e]at s;simp only[wG]at s;have rc:∀ρ2 M2,I (k+1) ρ2 M2->wS (Zbu tg bd xs ρ2 M2) N R B C E:=λρ2 M2 h2=>ZiH I xs (k+1) ρ2 M2 h2 (λi ρ M hi hI=>by
    have z:=st (i+1) ρ M (by simp;lia) (by rw[show k+(i+1)=k+1+i by lia];exact hI)
    simp only[kR]at z;rw[show k+(i+1)+1=k+1+i+1 by lia]at z
    exact z) (λρ M hI=>hn ρ M (by rw[show k+(x::xs).length=k+1+xs.length by simp;lia];exact hI))
   cases eg:bd ρ1 M<;>rw[eg]at s<;>simp only[eg]
   .exact rc _ _ s
   .exact s
   .exact s
   .exact rc _ _ s
   .exact s
   .exact s
theorem Zno:wS (Zbc tg fs bd ρ M) N R B C E=wO (fs ρ M) (λds M1=>w1 ds λd=>wI d λj=>wS (Zbu tg bd (Za5 0 j.toNat) ρ M1) N R B C E) E:=by
 unfold Zbc;rw[Z4];congr 1;funext ds M1;rcases ds with _|⟨v,_|⟨w,r⟩⟩
 .rfl
 .cases v<;>rfl
 .cases v<;>rfl
theorem Zby(I:Nat->Ro->Sto->Prop){lo:Int}(h0:I 0 ρ M)(st:∀i ρ M,i<n->I i ρ M->wG (tg (.int (lo+i)) ρ) λr=>wS (bd r M) (I (i+1)) R N (I (i+1)) E)(hn:∀ρ M,I n ρ M->N ρ M):wS (Zbu tg bd (Za5 lo n) ρ M) N R B C E:=by
 have hl:(Za5 lo n).length=n:=by simp[Za5]
 refine ZiH I _ 0 ρ M h0 (λi ρ M h hI=>?_) (λρ M hI=>hn ρ M (by rw[hl,eQ]at hI;exact hI))
 have:(Za5 lo n)[i]=.int (lo+i):=by simp[Za5]
 rw[this];rw[eQ]at *;exact st i ρ M (by rw[hl]at h;exact h) hI
theorem Zp6:wS (Zpc tg f bd ρ M) N R B C E=wO (f ρ M) (λd M1=>wS (Zlc tg bd d ρ M1) N R B C E) E:=Z4
theorem Znp(I:Nat->Ro->Sto->Prop){n:Nat}{xs:List D}:∀(f i:Nat)(ρ:Ro)(M:Sto),i+f=xs.length->I i ρ M->(∀i ρ M,I i ρ M->M[n]?=some (.lst xs))->(∀i ρ M (h:i<xs.length),I i ρ M->wG (tg xs[i] ρ) λr=>wS (bd r M) (I (i+1)) R N (I (i+1)) E)->(∀ρ M,I xs.length ρ M->N ρ M)->wS (Zg2 tg bd n f i ρ M) N R B C E:=by
  intro f
  induction f with
  |zero=>
   intro i ρ M e h hm st hn;have hx:=hm _ _ _ h;unfold Zg2;rw[hx]
   have:xs[i]?=none:=a8 ⋯
   simp only[this];exact hn ρ M (by rw[show xs.length=i by lia];exact h)
  |succ f ih=>
   intro i ρ M e h hm st hn;have hx:=hm _ _ _ h;unfold Zg2;rw[hx];have hi:i<xs.length:=⋯
   have:xs[i]?=some xs[i]:=Gq hi
   simp only[this];have s:=st i ρ M hi h;cases e:tg xs[i] ρ with
   |none=>rw[e]at s;exact s.elim
   |some ρ1=>
    rw[e]at s;simp only[wG]at s;have rc:∀ρ2 M2,I (i+1) ρ2 M2->wS (Zg2 tg bd n f (i+1) ρ2 M2) N R B C E:=λρ2 M2 h2=>ih (i+1) ρ2 M2 ⋯ h2 hm st hn
    cases eg:bd ρ1 M<;>rw[eg]at s<;>simp only[eg]
    .exact rc _ _ s
    .exact s
    .exact s
    .exact rc _ _ s
    .exact s
    .exact s
theorem ZiI(I:Nat->Ro->Sto->Prop)(hM:M[n]?=some (.lst xs))(h0:I 0 ρ M)(hm:∀i ρ M,I i ρ M->M[n]?=some (.lst xs))(st:∀i ρ M (h:i<xs.length),I i ρ M->wG (tg xs[i] ρ) λr=>wS (bd r M) (I (i+1)) R N (I (i+1)) E)(hn:∀ρ M,I xs.length ρ M->N ρ M):wS (Zlc tg bd (.ref n) ρ M) N R B C E:=by
 show wS (match M[n]? with|some (.lst xs)=>Zg2 tg bd n xs.length 0 ρ M|none=>.bad) N R B C E
 rw[hM];exact Znp I xs.length 0 ρ M ⋯ h0 hm st hn
theorem Znq:wS (ZgT tg fi bd ρ M) N R B C E=wO (fi ρ M) (λsrc M1=>wS (Zfa tg bd src (cnt src M1) 0 ρ M1) N R B C E) E:=Z4
theorem Zlv(I:Nat->Ro->Sto->Prop){src:Src}{xs:List D}:∀(f i:Nat)(ρ:Ro)(M:Sto),i<=xs.length->xs.length<=i+f->I i ρ M->(∀i ρ M,i<=xs.length->I i ρ M->nxt src i M=some xs[i]?)->(∀i ρ M (h:i<xs.length),I i ρ M->wG (tg xs[i] ρ) λr=>wS (bd r M) (I (i+1)) R N (I (i+1)) E)->(∀ρ M,I xs.length ρ M->N ρ M)->wS (Zfa tg bd src f i ρ M) N R B C E:=by
  intro f
  induction f with
  |zero=>
   intro i ρ M le e h hm st hn;have hx:=hm _ _ _ le h;unfold Zfa;rw[hx];have hi:¬i<xs.length:=⋯
   have:xs[i]?=none:=a8 ⋯
   simp only[this];exact hn ρ M (by rw[show xs.length=i by lia];exact h)
  |succ f ih=>
   intro i ρ M le e h hm st hn;have hx:=hm _ _ _ le h;unfold Zfa;rw[hx];by_cases hi:i<xs.length
   .have:xs[i]?=some xs[i]:=Gq hi
    simp only[this];have s:=st i ρ M hi h;cases e:tg xs[i] ρ with
    |none=>rw[e]at s;exact s.elim
    |some ρ1=>
     rw[e]at s;simp only[wG]at s;have rc:∀ρ2 M2,I (i+1) ρ2 M2->wS (Zfa tg bd src f (i+1) ρ2 M2) N R B C E:=λρ2 M2 h2=>ih (i+1) ρ2 M2 ⋯ ⋯ h2 hm st hn
     cases eg:bd ρ1 M<;>rw[eg]at s<;>simp only[eg]
     .exact rc _ _ s
     .exact s
     .exact s
     .exact rc _ _ s
     .exact s
     .exact s
   .have:xs[i]?=none:=a8 ⋯
    simp only[this];exact hn ρ M (by rw[show xs.length=i by lia];exact h)
theorem ZkG{c:Tv}(I:Nat->Ro->Sto->Prop)(st:∀n ρ M,I n ρ M->wO (c ρ M) (λk M1=>Br k (wS (bd ρ M1) (λρ2 M2=>∃m,m<n/\I m ρ2 M2) R N (λρ2 M2=>∃m,m<n/\I m ρ2 M2) E) (N ρ M1)) E):∀(n:Nat)(ρ:Ro)(M:Sto),I n ρ M->wS (sWh c bd ρ M) N R B C E:=by
 intro n
 induction n using Nat.strongRecOn with
 |ind n ih=>
  intro ρ M h;have s:=st n ρ M h;cases ec:c ρ M with
  |bad=>rw[ec]at s;exact s.elim
  |exc x M1=>rw[ec]at s;rw[Zcj (n:=1) (o:=.exc x M1) (by simp only[whN,ec])];exact s
  |ok k M1=>
   rw[ec]at s;cases k with
   |false=>
    rw[Zq,Zuy]at s;rw[Zet ec];exact s
   |true=>
    rw[Zq,ZrU]at s;cases eg:bd ρ M1 with
    |nx ρ2 M2=>
     rw[eg]at s;obtain⟨m,hm,hI⟩:=s;have r:=ih m hm ρ2 M2 hI;rw[ZfY ec eg (by intro z;rw[z]at r;exact r)]
     exact r
    |cnt ρ2 M2=>
     rw[eg]at s;obtain⟨m,hm,hI⟩:=s;have r:=ih m hm ρ2 M2 hI;have nb:sWh c bd ρ2 M2≠ .bad:=by intro z;rw[z]at r;exact r
     obtain⟨j,ej⟩:=ZhK nb;rw[Zcj (n:=j+1) (o:=sWh c bd ρ2 M2) (by simp only[whN,ec,eg];exact ej)]
     exact r
    |brk ρ2 M2=>rw[eg]at s;rw[Zcj (n:=1) (o:=.nx ρ2 M2) (by simp only[whN,ec,eg])];exact s
    |ret d M2=>rw[eg]at s;rw[Zcj (n:=1) (o:=.ret d M2) (by simp only[whN,ec,eg])];exact s
    |exc d M2=>rw[eg]at s;rw[Zcj (n:=1) (o:=.exc d M2) (by simp only[whN,ec,eg])];exact s
    |bad=>rw[eg]at s;exact s.elim
theorem Znr:wO (Zao fi k fr tg c f ρ M) Q E=wO (fi ρ M) (λsrc M1=>wO (Zf0 src tg c f M1.length (cnt src M1) 0 (roB k fr ρ) (M1++[.lst []])) (λ_ M2=>Q (.ref M1.length) M2) (λ_ _=>False)) E:=by
 unfold Zao;rw[ZG];congr 1;funext src M1;cases Zf0 src tg c f M1.length (cnt src M1) 0 (roB k fr ρ) (M1++[.lst []])<;>rfl
theorem Zlw(I:Nat->Ro->Sto->Prop){src:Src}{xs:List D}{c:Tv}{m:Nat}{Q:Sto->Prop}:∀(fu i:Nat)(ρ:Ro)(M:Sto),i<=xs.length->xs.length<=i+fu->I i ρ M->(∀i ρ M,i<=xs.length->I i ρ M->nxt src i M=some xs[i]?)->(∀i ρ M (h:i<xs.length),I i ρ M->wG (tg xs[i] ρ) λr=>wO (c r M) (λk M1=>Br k (wO (f r M1) (λy M2=>wL M2[m]? λys=>ys.length<10000000/\I (i+1) r (M2.set m (.lst (ys++[y])))) (λ_ _=>False)) (I (i+1) r M1)) (λ_ _=>False))->(∀ρ M,I xs.length ρ M->Q M)->wO (Zf0 src tg c f m fu i ρ M) (λ_ M2=>Q M2) (λ_ _=>False):=by
  intro fu
  induction fu with
  |zero=>
   intro i ρ M le e h hm st hn;have hx:=hm _ _ _ le h;unfold Zf0;rw[hx];have hi:¬i<xs.length:=⋯
   have:xs[i]?=none:=a8 ⋯
   simp only[this];exact hn ρ M (by rw[show xs.length=i by lia];exact h)
  |succ fu ih=>
   intro i ρ M le e h hm st hn;have hx:=hm _ _ _ le h;unfold Zf0;rw[hx];by_cases hi:i<xs.length
   .have:xs[i]?=some xs[i]:=Gq hi
    simp only[this];have s:=st i ρ M hi h;cases e:tg xs[i] ρ with
    |none=>rw[e]at s;exact s.elim
    |some ρ1=>
     rw[e]at s;simp only[wG]at s;have rc:∀ρ2 M2,I (i+1) ρ2 M2->wO (Zf0 src tg c f m fu (i+1) ρ2 M2) (λ_ M2=>Q M2) (λ_ _=>False):=λρ2 M2 h2=>ih (i+1) ρ2 M2 ⋯ ⋯ h2 hm st hn
     cases ec:c ρ1 M with
     |bad=>rw[ec]at s;exact s.elim
     |exc _ _=>rw[ec]at s;exact s.elim
     |ok k M1=>
      rw[ec]at s;rw[Zq]at s;cases k with
      |false=>
       rw[Zuy]at s;simp only[ec];exact rc _ _ s
      |true=>
       rw[ZrU]at s;simp only[ec];cases ef:f ρ1 M1 with
       |bad=>rw[ef]at s;exact s.elim
       |exc _ _=>rw[ef]at s;exact s.elim
       |ok y M2=>
        rw[ef,Zq]at s;simp only[ef];cases ey:M2[m]? with
        |none=>rw[ey]at s;exact s.elim
        |some o=>
         cases o with
         |lst ys=>
          rw[ey]at s;simp only[wL,ey]at s ⊢;rw[if_pos s.1];exact rc _ _ s.2
   .have:xs[i]?=none:=a8 ⋯
    simp only[this];exact hn ρ M (by rw[show xs.length=i by lia];exact h)
end
section
variable {M:Sto}{n:Nat}{x:D}{lo:Ro->Sto->Out (Option Int)}
theorem ZeM(h: -(18446744073709551616)<i/\i<18446744073709551616):Zp i j:=Zau h.1 h.2
theorem ZdX(h: -(18446744073709551616)<j/\j<18446744073709551616):Zp i j:=ZeL h.1 h.2
theorem ZeN(h:0<j/\j<18446744073709551616):ZaI j:=by
 refine⟨⋯,?_⟩
 have:j.natAbs.log2<64:=(Nat.log2_lt ⋯).mpr ⋯
 lia
theorem ZsM:wO (dAdd (.int i) (.int j) M) Q E=Q (.int (i+j)) M:=rfl
theorem ZsN:wO (dSub (.int i) (.int j) M) Q E=Q (.int (i-j)) M:=rfl
theorem ZA(h:Zp i j):wO (dMul (.int i) (.int j) M) Q E=Q (.int (i*j)) M:=by
 show wO (if Zp i j then _ else _) Q E=_
 rw[if_pos h];rfl
theorem ZsO(h: -(18446744073709551616)<i/\i<18446744073709551616):wO (dMul (.int i) (.int j) M) Q E=Q (.int (i*j)) M:=ZA (ZeM h)
theorem Zp7(h: -(18446744073709551616)<j/\j<18446744073709551616):wO (dMul (.int i) (.int j) M) Q E=Q (.int (i*j)) M:=ZA (ZdX h)
theorem ZsP(h:0<j/\j<18446744073709551616):wO (dDiv (.int i) (.int j) M) Q E=Q (.int (i/j)) M:=by
 show wO (if ZaI j then _ else _) Q E=_
 rw[if_pos (ZeN h),jA _ ⋯];rfl
theorem ZsQ(h:0<j):wO (dMod (.int i) (.int j) M) Q E=Q (.int (i%j)) M:=by
 show wO (if j≠0 then _ else _) Q E=_
 rw[if_pos ⋯,jz _ ⋯];rfl
theorem ZsR(h:0<=j/\j<=1000000/\i.natAbs<18446744073709551616):wO (dPow (.int i) (.int j) M) Q E=Q (.int (i^j.toNat)) M:=by
 show wO (if 0<=j/\j<=1000000/\i.natAbs<2^64 then _ else _) Q E=_
 rw[if_pos ⟨h.1,h.2.1,⋯⟩];rfl
theorem ZvW:wO (dLt (.int i) (.int j) M) Q E=Q (.bl (decide (i<j))) M:=rfl
theorem ZvX:wO (dLe (.int i) (.int j) M) Q E=Q (.bl (decide (i<=j))) M:=rfl
theorem ZvY:wO (dGt (.int i) (.int j) M) Q E=Q (.bl (decide (j<i))) M:=rfl
theorem ZvZ:wO (dGe (.int i) (.int j) M) Q E=Q (.bl (decide (j<=i))) M:=rfl
theorem ZsS:wO (dAdd (.ref n) (.ref m) M) Q E=wL M[n]? λxs=>wL M[m]? λys=>xs.length+ys.length<=10000000/\Q (.ref M.length) (M++[.lst (xs++ys)]):=by
 show wO (match M[n]?,M[m]? with|some (.lst xs),some (.lst ys)=>_|_,_=>_) Q E=_
 cases e1:M[n]? with
 |none=>rfl
 |some o=>
  cases o with
  |lst xs=>
   cases e2:M[m]? with
   |none=>rfl
   |some p=>
    cases p with
    |lst ys=>
     by_cases h:xs.length+ys.length<=10000000
     .simp[wL,h,wO]
     .simp[wL,h,wO]
theorem Zv0:wO (dEq x y M) Q E=wG (eqF 12 M x y) λb=>Q (.bl b) M:=by
 show wO (match eqF 12 M x y with|some b=>_|none=>_) Q E=_
 cases eqF 12 M x y<;>rfl
theorem Zv1:wO (dNe x y M) Q E=wG (eqF 12 M x y) λb=>Q (.bl (!b)) M:=by
 show wO (match eqF 12 M x y with|some b=>_|none=>_) Q E=_
 cases eqF 12 M x y<;>rfl
theorem Zv2:wO (dIs x y M) Q E=wG (isP x y) λb=>Q (.bl b) M:=by
 show wO (match isP x y with|some b=>_|none=>_) Q E=_
 cases isP x y<;>rfl
theorem ZsT:wO (dIsNot x y M) Q E=wG (isP x y) λb=>Q (.bl (!b)) M:=by
 show wO (match isP x y with|some b=>_|none=>_) Q E=_
 cases isP x y<;>rfl
theorem Zns:wO (atD xs i M) Q E=wG (atI xs i) λd=>Q d M:=by
 unfold atD;cases atI xs i<;>rfl
theorem ZsU:wO (dIx (.tup xs) (.int i) M) Q E=wG (atI xs i) λd=>Q d M:=Zns
theorem ZsV:wO (dIx (.rol xs) (.int i) M) Q E=wG (atI xs i) λd=>Q d M:=Zns
theorem ZsW:wO (dIx (.ref n) (.int i) M) Q E=wL M[n]? λxs=>wG (atI xs i) λd=>Q d M:=by
 show wO (match M[n]? with|some (.lst xs)=>atD xs i M|_=>.bad) Q E=_
 cases e1:M[n]? with
 |none=>rfl
 |some o=>cases o with|lst xs=>exact Zns
theorem Zp8:wO (bLen [.ref n] M) Q E=wL M[n]? λxs=>Q (.int xs.length) M:=by
 show wO (match(match M[n]? with|some (.lst xs)=>some xs|_=>none)with|some xs=>_|none=>_) Q E=_
 cases e1:M[n]? with
 |none=>rfl
 |some o=>cases o with|lst xs=>rfl
theorem Zp9:wO (bLen [.tup xs] M) Q E=Q (.int xs.length) M:=rfl
theorem Zqa:wO (bLen [.rol xs] M) Q E=Q (.int xs.length) M:=rfl
theorem ZsX:wO (bAbs [.int i] M) Q E=Q (.int (i.natAbs:Int)) M:=by rw[<-ZiF];rfl
theorem ZsY:wO (bMax [.int i,.int j] M) Q E=Q (.int (max i j)) M:=by
 have:max i j=if j>i then j else i:=by split<;>lia
 rw[this];rfl
theorem ZsZ:wO (bMin [.int i,.int j] M) Q E=Q (.int (min i j)) M:=by
 have:min i j=if j<i then j else i:=by split<;>lia
 rw[this];rfl
theorem Zqb:wO (bInt [.bl k] M) Q E=Q (.int (if k then 1 else 0)) M:=rfl
theorem Zqc:wO (bInt [.int i] M) Q E=Q (.int i) M:=rfl
theorem Znt:wO (bList [.ref n] M) Q E=wL M[n]? λxs=>Q (.ref M.length) (M++[.lst xs]):=by
 show wO (match(match M[n]? with|some (.lst xs)=>some xs|_=>none)with|some xs=>_|none=>_) Q E=_
 cases e1:M[n]? with
 |none=>rfl
 |some o=>cases o with|lst xs=>rfl
theorem Znu:wO (bList [.tup xs] M) Q E=Q (.ref M.length) (M++[.lst xs]):=rfl
theorem Zs0:wO (bAll [.ref n] M) Q E=wL M[n]? λxs=>wG (Zan xs) λbs=>Q (.bl (bs.all id)) M:=by
 show wO (match M[n]? with|some (.lst xs)=>(match Zan xs with|some bs=>Out.ok (.bl (bs.all id)) M|none=>.bad)|none=>.bad) Q E=_
 cases e1:M[n]? with
 |none=>rfl
 |some o=>
  cases o with
  |lst xs=>
   show wO (match Zan xs with|some bs=>Out.ok (.bl (bs.all id)) M|none=>.bad) Q E=wG (Zan xs) _
   cases Zan xs<;>rfl
theorem Zqd:wO (Zcu g [.ref n] M) Q E=wL M[n]? λxs=>wG (Zbv xs) λns=>wG (g ns) λi=>Q (.int i) M:=by
 show wO (match(match M[n]? with|some (.lst xs)=>some xs|_=>none)with|some xs=>(match Zbv xs with|some ns=>(match g ns with|some i=>Out.ok (.int i) M|none=>.bad)|none=>.bad)|none=>.bad) Q E=_
 cases e1:M[n]? with
 |none=>rfl
 |some o=>
  cases o with
  |lst xs=>
   show wO (match Zbv xs with|some ns=>(match g ns with|some i=>Out.ok (.int i) M|none=>.bad)|none=>.bad) Q E=wG (Zbv xs) _
   cases Zbv xs with
   |none=>rfl
   |some ns=>
    show wO (match g ns with|some i=>Out.ok (.int i) M|none=>.bad) Q E=wG (g ns) _
    cases g ns<;>rfl
theorem Zv3:wO (ZhS g fo fs ρ M) Q E=wO (fo ρ M) (λx M1=>ZmL x M1=true/\wO (fs ρ M1) (λds M2=>wO (g x ds M2) Q E) E) E:=by
 unfold ZhS;rw[ZG];congr 1;funext x M1;by_cases h:ZmL x M1=true
 .simp only[h,if_true,true_and];rw[ZG]
 .simp[h,wO]
theorem Zqe:ZmL (.ref n) M=M[n]?.isSome:=rfl
theorem Zs1:wO (mApp (.ref n) [d] M) Q E=wL M[n]? λxs=>xs.length<10000000/\Q .non (M.set n (.lst (xs++[d]))):=by
 show wO (match M[n]? with|some (.lst xs)=>if xs.length<10000000 then _ else _|none=>_) Q E=_
 cases e1:M[n]? with
 |none=>rfl
 |some o=>
  cases o with
  |lst xs=>
   by_cases h:xs.length<10000000
   .simp[wL,h,wO]
   .simp[wL,h,wO]
theorem Zs2:wO (mExt (.ref n) [.ref m] M) Q E=wL M[n]? λxs=>wL M[m]? λys=>xs.length+ys.length<=10000000/\Q .non (M.set n (.lst (xs++ys))):=by
 show wO (match M[n]?,M[m]? with|some (.lst xs),some (.lst ys)=>if xs.length+ys.length<=10000000 then _ else _|_,_=>_) Q E=_
 cases e1:M[n]? with
 |none=>rfl
 |some o=>
  cases o with
  |lst xs=>
   cases e2:M[m]? with
   |none=>rfl
   |some p=>
    cases p with
    |lst ys=>
     by_cases h:xs.length+ys.length<=10000000
     .simp[wL,h,wO]
     .simp[wL,h,wO]
def slR(x:D)(l u:Option Int)(M3:Sto):Out D:=match x with
 |.ref n=>(match M3[n]? with|some (.lst xs)=>.ok (.ref M3.length) (M3++[.lst (Ze9 xs l u)])|none=>.bad)
 |.rol xs=>.ok (.ref M3.length) (M3++[.lst (Ze9 xs l u)])
 |.tup xs=>if HT.sIx xs.length 0 l=0/\HT.sIx xs.length xs.length u=xs.length then .bad else .ok (.tup (Ze9 xs l u)) M3
 |_=>.bad
theorem Zs3:wO (eSl f lo hi ρ M) Q E=wO (f ρ M) (λx M1=>wO (lo ρ M1) (λl M2=>wO (hi ρ M2) (λu M3=>wO (slR x l u M3) Q E) E) E) E:=by
 unfold eSl;rw[ZG];congr 1;funext x M1;rw[ZG];congr 1;funext l M2;rw[ZG];congr 1
theorem Zs4:wO (slR (.ref n) l u M) Q E=wL M[n]? λxs=>Q (.ref M.length) (M++[.lst (Ze9 xs l u)]):=by
 unfold slR;cases e1:M[n]? with
 |none=>simp only[e1];rfl
 |some o=>cases o with|lst xs=>simp only[e1];rfl
theorem Zs5:wO (oSo f ρ M) Q E=wO (f ρ M) (λx M1=>wI x λi=>Q (some i) M1) E:=by
 unfold oSo;rw[ZG];congr 1;funext x M1;cases x<;>rfl
theorem Zqf(h:0<=i):Ze9 xs none (some i)=xs.take i.toNat:=by
 unfold Ze9;simp only[HT.sIx];rw[if_neg ⋯,lZ,Nat.sub_zero]
 by_cases c:i.toNat<=xs.length
 .rw[gY c]
 .rw[Nat.min_eq_right ⋯,cK (aj _),cK ⋯]
theorem ZkH(h:0<=i):Ze9 xs (some i) none=xs.drop i.toNat:=by
 unfold Ze9;simp only[HT.sIx];rw[if_neg ⋯]
 by_cases c:i.toNat<=xs.length
 .rw[gY c,cK (by simp)]
 .rw[Nat.min_eq_right ⋯,dQ (aj _),dQ ⋯,List.take_nil]
theorem ZiJ{L:Sto}:(M++L)[M.length]?=L[0]?:=by rw[aH (aj _),fI]
theorem Zof{L:Sto}:(M++L)[M.length+i]?=L[i]?:=by rw[aH ⋯];congr 1;lia
theorem Zc3{L:Sto}(h:n<M.length):(M++L)[n]?=M[n]?:=aB h
theorem Zlx{L:Sto}:(M++L).set M.length o=M++L.set 0 o:=by rw[List.set_append_right _ _ (aj _),fI]
theorem Zqg(h:k≠n):(M.set n o)[k]?=M[k]?:=aS (cu h)
theorem Zqh(h:n<M.length):(M.set n o)[n]?=some o:=bf h
theorem Zy(h:M[n]?=some o):n<M.length:=(ar.mp h).1
noncomputable abbrev pr(x y:Int):D:=.tup [.int x,.int y]
def prs(rs:List (Int×Int)):List D:=rs.map λp=>pr p.1 p.2
def nts(ns:List Int):List D:=ns.map D.int
theorem ZL:(prs rs).length=rs.length:=af _
theorem ZiK:prs a++prs b=prs (a++b):=(dj).symm
theorem Zgk:(prs a).take n=prs (a.take n):=List.map_take.symm
theorem Zgl:(prs a).drop n=prs (a.drop n):=List.map_drop.symm
theorem ZkI:pr a b::prs r=prs ((a,b)::r):=rfl
noncomputable def cy(rs:List (Int×Int))(i:Int):Int×Int:=rs.getD (i%rs.length).toNat (0,0)
theorem Zly{n:Nat}(h: -(n:Int)<=i/\i<n):ixN n i=some (i%n).toNat:=by
 unfold ixN;by_cases c:0<=i
 .rw[if_pos c,if_pos h.2,ge c h.2]
 .rw[if_neg c,if_pos h.1]
  have:i%n=i+n:=by
   rw[<-Int.add_emod_right,ge ⋯ ⋯]
  rw[this]
theorem ZeO(h: -(rs.length:Int)<=i/\i<rs.length):atI (prs rs) i=some (pr (cy rs i).1 (cy rs i).2):=by
 unfold atI;rw[ZL,Zly h];have hp:(i%rs.length).toNat<rs.length:=by
  have:=cW i (show(0:Int)<rs.length by lia)
  have:=dL i (show(rs.length:Int)≠0 by lia)
  lia
 simp[prs,cy,aa hp]
theorem Zc4:cy rs (i%rs.length)=cy rs i:=by unfold cy;rw[ma _ (Int.dvd_refl _)]
theorem Zqi:cy rs (i+rs.length)=cy rs i:=by unfold cy;rw[Int.add_emod_right]
theorem ZeP:cy rs (i-rs.length)=cy rs i:=by unfold cy;rw[Int.sub_emod_right]
theorem ZaP{rs:List (Int×Int)}(h:k<rs.length):cy rs k=rs[k]:=by
 unfold cy;rw[ge ⋯ ⋯]
 simp[aa h]
theorem Zs6:eqF (n+1) M (.int a) (.int b)=some (decide (a=b)):=rfl
theorem Zv4:eqF (n+1) M (.bl a) (.bl b)=some (a==b):=rfl
theorem Zs7:eqF (n+2) M (pr a b) (pr c d)=some (decide ((a,b)=(c,d))):=by
 show some ((a==c)&&((b==d)&&true))=_;congr 1;rw[k9];simp
theorem ZiL:eqL (eqF (n+2) M) (prs rs) (prs ss)=some (decide (rs=ss)):=by
 induction rs generalizing ss with
 |nil=>cases ss<;>rfl
 |cons r rs ih=>
  cases ss with
  |nil=>rfl
  |cons s ss=>
   show(match eqF (n+2) M (pr r.1 r.2) (pr s.1 s.2)with|some a=>(match eqL _ (prs rs) (prs ss)with|some b=>some (a&&b)|none=>none)|none=>none)=_
   rw[Zs7,ih];simp only[];congr 1;rw[k9];obtain⟨r1,r2⟩:=r;obtain⟨s1,s2⟩:=s;simp
theorem ZkJ(h1:M[n]?=some (.lst xs))(h2:M[m]?=some (.lst ys)):eqF (k+1) M (.ref n) (.ref m)=if xs.length=ys.length then eqL (eqF k M) xs ys else some false:=by
 show(match kd M (.ref n),kd M (.ref m)with|some a,some b=>eqK (eqF k M) a b|_,_=>none)=_
 have e1:kd M (.ref n)=some (.lst xs):=by show(match M[n]? with|some (.lst xs)=>some (Kd.lst xs)|_=>none)=_;rw[h1]
 have e2:kd M (.ref m)=some (.lst ys):=by show(match M[m]? with|some (.lst xs)=>some (Kd.lst xs)|_=>none)=_;rw[h2]
 rw[e1,e2];rfl
theorem ZiM(h1:M[n]?=some (.lst (prs rs)))(h2:M[m]?=some (.lst (prs ss))):eqF 12 M (.ref n) (.ref m)=some (decide (rs=ss)):=by
 rw[ZkJ h1 h2,ZL,ZL];by_cases c:rs.length=ss.length
 .rw[if_pos c,ZiL]
 .rw[if_neg c];congr 1
  symm
  exact decide_eq_false λz=>c (by rw[z])
theorem Zqj:ZaB M (.int i)=some "int":=rfl
theorem Zs8:ZaB M (.bl b)=some "bool":=rfl
theorem Zqk:ZaB M (.tup xs)=some "tuple":=rfl
theorem Zql:ZaB M .non=some "NoneType":=rfl
end
section
variable {xs:List D}
theorem Znv:wS (ZcR tg fs bd ρ M) N R B C E=wO (fs ρ M) (λds M1=>w2 ds λx y=>wI x λi=>wI y λj=>wS (Zbu tg bd (Za5 i (j-i).toNat) ρ M1) N R B C E) E:=by
 unfold ZcR;rw[Z4];congr 1;funext ds M1;rcases ds with _|⟨v,_|⟨w,_|⟨w',r⟩⟩⟩
 .rfl
 .cases v<;>rfl
 .cases v<;>cases w<;>rfl
 .cases v<;>cases w<;>rfl
theorem Zv5:wO (iR1 fs ρ M) QS E=wO (fs ρ M) (λds M1=>w1 ds λd=>wI d λj=>QS (.pur (Za5 0 j.toNat)) M1) E:=by
 unfold iR1;rw[ZG];congr 1;funext ds M1;rcases ds with _|⟨v,_|⟨w,r⟩⟩
 .rfl
 .cases v<;>rfl
 .cases v<;>rfl
theorem Zv6:wO (iR2 fs ρ M) QS E=wO (fs ρ M) (λds M1=>w2 ds λx y=>wI x λi=>wI y λj=>QS (.pur (Za5 i (j-i).toNat)) M1) E:=by
 unfold iR2;rw[ZG];congr 1;funext ds M1;rcases ds with _|⟨v,_|⟨w,_|⟨w',r⟩⟩⟩
 .rfl
 .cases v<;>rfl
 .cases v<;>cases w<;>rfl
 .cases v<;>cases w<;>rfl
theorem Zv7:wO (iEn fs ρ M) QS E=wO (fs ρ M) (λds M1=>w1 ds λd=>wR d λn=>QS (.enu n) M1) E:=by
 unfold iEn;rw[ZG];congr 1;funext ds M1;rcases ds with _|⟨v,_|⟨w,r⟩⟩<;>try rfl
 .cases v<;>rfl
 .cases v<;>rfl
theorem Zv8:wO (iZp fs ρ M) QS E=wO (fs ρ M) (λds M1=>w2 ds λx y=>wR x λn=>wR y λm=>QS (.zip n m) M1) E:=by
 unfold iZp;rw[ZG];congr 1;funext ds M1;rcases ds with _|⟨v,_|⟨w,_|⟨w',r⟩⟩⟩<;>try rfl
 .cases v<;>rfl
 .cases v<;>cases w<;>rfl
 .cases v<;>cases w<;>rfl
noncomputable def Znw(Q:W0)(ρ:Ro)(M:Sto):Prop:=Q .non M
theorem wF1:wO (fnF bd 1 k [x] M) Q E=wS (bd (some x::bC k none) M) (Znw Q) Q (λ_ _=>False) (λ_ _=>False) E:=wF rfl
theorem wF2:wO (fnF bd 2 k [x,y] M) Q E=wS (bd (some x::some y::bC k none) M) (Znw Q) Q (λ_ _=>False) (λ_ _=>False) E:=wF rfl
theorem wF3:wO (fnF bd 3 k [x,y,z] M) Q E=wS (bd (some x::some y::some z::bC k none) M) (Znw Q) Q (λ_ _=>False) (λ_ _=>False) E:=wF rfl
theorem wF4:wO (fnF bd 4 k [x,y,z,d] M) Q E=wS (bd (some x::some y::some z::some d::bC k none) M) (Znw Q) Q (λ_ _=>False) (λ_ _=>False) E:=wF rfl
theorem ZkK:prs a++[pr b c]=prs (a++[(b,c)]):=by simp[prs]
theorem ZkL:D.int b::nts r=nts (b::r):=rfl
theorem Zs9:isP .non .non=some true:=rfl
theorem Zta:isP (.int i) .non=some false:=rfl
theorem Ztb:isP (.tup xs) .non=some false:=rfl
theorem Ztc:isP (.ref n) .non=some false:=rfl
theorem ZiN(h:M[n]?=some (.lst xs)):cnt (.sto n) M=xs.length:=by show(match M[n]? with|some (.lst xs)=>xs.length|none=>0)=_;rw[h]
theorem Znx(h:M[n]?=some (.lst xs)):cnt (.enu n) M=xs.length:=by show(match M[n]? with|some (.lst xs)=>xs.length|none=>0)=_;rw[h]
theorem Zfn(h:M[n]?=some (.lst xs)):cnt (.zip n m) M=xs.length:=by show(match M[n]? with|some (.lst xs)=>xs.length|none=>0)=_;rw[h]
theorem at2{r:List D}:atI (x::y::z::r) 2=some z:=by
 show(ixN (r.length+3) 2).bind _=_;unfold ixN;rw[if_pos (by decide),if_pos ⋯]
 rfl
theorem at3{r:List D}:atI (x::y::z::d::r) 3=some d:=by
 show(ixN (r.length+4) 3).bind _=_;unfold ixN;rw[if_pos (by decide),if_pos ⋯]
 rfl
theorem Zqm:Zcs "int" "int"=true:=rfl
theorem Zqn:Zcs "int" "bool"=false:=rfl
theorem Zqo:Zcs "bool" "int"=true:=rfl
theorem Zqp:Zcs "bool" "bool"=true:=rfl
theorem Zqq:Zcs "tuple" "tuple"=true:=rfl
theorem Zqr:Zcs "list" "list"=true:=rfl
theorem Zqs:Zcs "tuple" "int"=false:=rfl
theorem Zqt:Zcs "tuple" "list"=false:=rfl
theorem Zqu:Zcs "list" "tuple"=false:=rfl
theorem Zqv:Zcs "list" "int"=false:=rfl
theorem Zqw:Zcs "NoneType" "tuple"=false:=rfl
theorem Zqx:Zcs "NoneType" "list"=false:=rfl
theorem Zqy(h:M[n]?=some (.lst xs)):nxt (.enu n) k M=some ((xs[k]?).map λd=>D.tup [.int k,d]):=by
 show(match M[n]? with|some (.lst xs)=>(match xs[k]? with|some x=>some (some (D.tup [.int k,x]))|none=>some none)|none=>none)=_
 rw[h];simp only[];cases xs[k]?<;>rfl
theorem ZiO(h:M[n]?=some (.lst xs)):nxt (.sto n) k M=some xs[k]?:=by
 show(match M[n]? with|some (.lst xs)=>some xs[k]?|none=>none)=_
 rw[h]
theorem Zqz(I:Nat->Ro->Sto->Prop)(hM:M[n]?=some (.lst xs))(h0:I 0 ρ M)(hm:∀i ρ M,I i ρ M->M[n]?=some (.lst xs))(st:∀(i:Nat) ρ M (h:i<xs.length),I i ρ M->wG (tg (.tup [.int i,xs[i]]) ρ) λr=>wS (bd r M) (I (i+1)) R N (I (i+1)) E)(hn:∀ρ M,I xs.length ρ M->N ρ M):wS (Zfa tg bd (.enu n) (cnt (.enu n) M) 0 ρ M) N R B C E:=by
 rw[Znx hM];have hl:(xs.mapIdx λ(k:Nat) d=>D.tup [.int k,d]).length=xs.length:=by simp
 refine Zlv I (xs:=xs.mapIdx λ(k:Nat) d=>D.tup [.int k,d]) _ 0 ρ M (by simp) (by simp) h0 (λi ρ M _ hI=>?_) (λi ρ M h hI=>?_) (λρ M hI=>hn ρ M (by rw[hl]at hI;exact hI))
 .rw[Zqy (hm _ _ _ hI),List.getElem?_mapIdx]
 .rw[List.getElem_mapIdx];exact st i ρ M (by rw[hl]at h;exact h) hI
theorem ZiP(h:M[n]?=some (.lst xs))(h':M[m]?=some (.lst ys)):nxt (.zip n m) k M=some ((cf (λa b=>D.tup [a,b]) xs ys)[k]?):=by
 show(match M[n]?,M[m]? with|some (.lst xs),some (.lst ys)=>(match xs[k]?,ys[k]? with|some x,some y=>some (some (D.tup [x,y]))|_,_=>some none)|_,_=>none)=_
 rw[h,h',List.getElem?_zipWith];simp only[];cases xs[k]?<;>cases ys[k]?<;>rfl
theorem Zlz(I:Nat->Ro->Sto->Prop)(hM:M[n]?=some (.lst xs))(hl:xs.length<=ys.length)(h0:I 0 ρ M)(hm:∀i ρ M,I i ρ M->M[n]?=some (.lst xs)/\M[m]?=some (.lst ys))(st:∀(i:Nat) ρ M (h:i<xs.length),I i ρ M->wG (tg (.tup [xs[i],ys[i]]) ρ) λr=>wS (bd r M) (I (i+1)) R N (I (i+1)) E)(hn:∀ρ M,I xs.length ρ M->N ρ M):wS (Zfa tg bd (.zip n m) (cnt (.zip n m) M) 0 ρ M) N R B C E:=by
 rw[Zfn hM];have hz:(cf (λa b=>D.tup [a,b]) xs ys).length=xs.length:=by simp;lia
 refine Zlv I (xs:=cf (λa b=>D.tup [a,b]) xs ys) _ 0 ρ M (by simp) (by simp;lia) h0 (λi ρ M _ hI=>?_) (λi ρ M h hI=>?_) (λρ M hI=>hn ρ M (by rw[hz]at hI;exact hI))
 .rw[ZiP (hm _ _ _ hI).1 (hm _ _ _ hI).2]
 .rw[gA];exact st i ρ M (by rw[hz]at h;exact h) hI
theorem Zny(Inv:Ro->Prop)(F:Nat->D){Q:Sto->Prop}(hl:xs.length<10000000)(hcnt:xs.length<=cnt src M)(h0:Inv ρ)(hs:∀(L:Sto)(i:Nat),i<=xs.length->nxt src i (M++L)=some xs[i]?)(st:∀(i:Nat)(h:i<xs.length)(ρ:Ro)(L:Sto),Inv ρ->wG (tg xs[i] ρ) λr=>Inv r/\wO (f r (M++L)) (λy M2=>y=F i/\M2=M++L) (λ_ _=>False))(hq:Q (M++[.lst ((aI xs.length).map F)])):wO (Zf0 src tg (λ_ M=>.ok true M) f M.length (cnt src M) 0 ρ (M++[.lst []])) (λ_ M2=>Q M2) (λ_ _=>False):=by
 refine Zlw (λi ρ M'=>Inv ρ/\M'=M++[.lst ((aI i).map F)]) (xs:=xs) _ 0 ρ _ (by simp) ⋯ ⟨h0,rfl⟩ (λi ρ M' hi hI=>by rw[hI.2];exact hs _ i hi) (λi ρ M' h hI=>?_) (λρ M' hI=>by rw[hI.2];exact hq)
 obtain⟨hI,rfl⟩:=hI;have s:=st i h ρ [.lst ((aI i).map F)] hI;cases e:tg xs[i] ρ with
 |none=>rw[e]at s;exact s.elim
 |some r=>
  rw[e]at s;obtain⟨hr,s⟩:=s;show Br true _ _;rw[ZrU];refine ZdW s (λy M2 ⟨h1,h2⟩=>?_) (λ_ _ z=>z);subst h1 h2;rw[ZiJ];refine⟨by simp;lia,hr,?_⟩
  rw[Zlx,List.range_succ,dj];rfl
theorem Zb4{lo:Int}:(Za5 lo n).length=n:=by simp[Za5]
theorem ZiQ{lo:Int}(h:k<(Za5 lo n).length):(Za5 lo n)[k]=.int (lo+k):=by simp[Za5]
theorem Znz:(aI n).map (λi=>D.int (F i))=nts ((aI n).map F):=by simp[nts]
end
section
variable {E:W2}{N B C:W1}{R:W0}{ρ:Ro}{M:Sto}{k:Nat}{xs:List D}{a bd:Sv}
def kU{β:Type}(u:β->Sto->Out γ)(Q:γ->Sto->Prop)(E:W2)(x:β)(M:Sto):Prop:=wO (u x M) Q E
noncomputable def kQ{β γ:Type}(Q:γ->Sto->Prop)(c:β->γ)(M:Sto)(x:β):Prop:=Q (c x) M
def kB2(op:Bo)(x:D)(Q:W0)(E:W2)(y:D)(M:Sto):Prop:=wO (op x y M) Q E
def kB1(op:Bo)(g:Ev)(ρ:Ro)(Q:W0)(E:W2)(x:D)(M:Sto):Prop:=wO (g ρ M) (kB2 op x Q E) E
theorem Zv9:wO (e2 op f g ρ M) Q E=wO (f ρ M) (kB1 op g ρ Q E) E:=ZsL
theorem y_c:wO (eC d ρ M) Q E=Q d M:=rfl
theorem y_v:wO (Zf k ρ M) Q E=wV ρ[k]? (kQ Q id M):=ZvV
theorem ZqA:wO (Zj F fs ρ M) Q E=wO (fs ρ M) (kU F Q E) E:=Znk
noncomputable def kA2(x:D)(Q:List D->Sto->Prop)(xs:List D)(M:Sto):Prop:=Q (x::xs) M
def kA1(fs:Av)(ρ:Ro)(Q:List D->Sto->Prop)(E:W2)(x:D)(M:Sto):Prop:=wO (fs ρ M) (kA2 x Q) E
theorem Ztd:wO (aNil ρ M) QL E=QL [] M:=rfl
theorem ZqB:wO (Zc f fs ρ M) QL E=wO (f ρ M) (kA1 fs ρ QL E) E:=Znl
noncomputable def kTu(Q:W0)(xs:List D)(M:Sto):Prop:=xs.length<=1000/\Q (.tup xs) M
noncomputable def kLs(Q:W0)(xs:List D)(M:Sto):Prop:=xs.length<=1000/\Q (.ref M.length) (M++[.lst xs])
theorem Zte:wO (ZX fs ρ M) Q E=wO (fs ρ M) (kTu Q) E:=ZpY
theorem Ztf:wO (Za8 fs ρ M) Q E=wO (fs ρ M) (kLs Q) E:=ZpZ
noncomputable def Zuz(x:D)(M:Sto):Out D:=match x with|.int i=>.ok (.int (-i)) M|_=>.bad
theorem Ztg:wO (Zcr f ρ M) Q E=wO (f ρ M) (kU Zuz Q E) E:=by unfold Zcr;exact ZG
theorem ZqC:wO (Zuz (.int i) M) Q E=Q (.int (-i)) M:=rfl
def Zth(T:String)(x:D)(M:Sto):Out D:=match ZaB M x with|some t=>.ok (.bl (Zcs t T)) M|none=>.bad
theorem Zti:wO (ZmA T f ρ M) Q E=wO (f ρ M) (kU (Zth T) Q E) E:=by unfold ZmA;exact ZG
def kTy(T:String)(Q:W0)(M:Sto)(t:String):Prop:=Q (.bl (Zcs t T)) M
theorem ZqD:wO (Zth T x M) Q E=wG (ZaB M x) (kTy T Q M):=by unfold Zth;cases ZaB M x<;>rfl
noncomputable def tC(b:Bool):Tv:=λ_ M=>.ok b M
def BrO(k:Bool)(f g:Ro->Sto->Out β)(ρ:Ro)(M:Sto)(Q:β->Sto->Prop)(E:W2):Prop:=wO ((if k=true then f else g) ρ M) Q E
theorem Zwa{fO gO:Ro->Sto->Out β}{QO:β->Sto->Prop}:BrO true fO gO ρ M QO E=wO (fO ρ M) QO E:=rfl
theorem Zwb{fO gO:Ro->Sto->Out β}{QO:β->Sto->Prop}:BrO false fO gO ρ M QO E=wO (gO ρ M) QO E:=rfl
theorem brO{β:Type}{fO gO:Ro->Sto->Out β}{QO:β->Sto->Prop}{p:Prop}[Decidable p](h1:p->wO (fO ρ M) QO E)(h2:¬p->wO (gO ρ M) QO E):BrO (decide p) fO gO ρ M QO E:=by
 by_cases h:p
 .rw[decide_eq_true h];exact h1 h
 .rw[decide_eq_false h];exact h2 h
theorem Zwc{fO gO:Ro->Sto->Out β}{QO:β->Sto->Prop}(P:β->Sto->Prop)(h:BrO b fO gO ρ M P E)(hn:∀x M,P x M->QO x M):BrO b fO gO ρ M QO E:=by
 cases b
 .exact ZdW h hn (λ_ _ z=>z)
 .exact ZdW h hn (λ_ _ z=>z)
def ZuA(g:Ev)(ρ:Ro)(x:D)(M:Sto):Out D:=match x with|.bl k=>if k=true then g ρ M else .ok (.bl false) M|_=>.bad
def ZuB(x:D)(M:Sto):Out D:=match x with|.bl k=>.ok (.bl (!k)) M|_=>.bad
def oTv(x:D)(M:Sto):Out Bool:=match x with|.bl k=>.ok k M|_=>.bad
theorem Ztj:wO (Zhy f g ρ M) Q E=wO (f ρ M) (kU (ZuA g ρ) Q E) E:=by unfold Zhy;exact ZG
theorem Ztk:wO (Zhz f ρ M) Q E=wO (f ρ M) (kU ZuB Q E) E:=by unfold Zhz;exact ZG
theorem ZqE:wO (ZuA g ρ (.bl b) M) Q E=BrO b g (eC (.bl false)) ρ M Q E:=by cases b<;>rfl
theorem ZqF:wO (ZuB (.bl b) M) Q E=Q (.bl (!b)) M:=rfl
theorem Zwd:wO (tv f ρ M) QB E=wO (f ρ M) (kU oTv QB E) E:=by unfold tv;exact ZG
theorem Ztl:wO (oTv (.bl b) M) QB E=QB b M:=rfl
def kTA(u:Tv)(ρ:Ro)(Q:Bool->Sto->Prop)(E:W2)(k:Bool)(M:Sto):Prop:=BrO k u (tC false) ρ M Q E
def kTO(u:Tv)(ρ:Ro)(Q:Bool->Sto->Prop)(E:W2)(k:Bool)(M:Sto):Prop:=BrO k (tC true) u ρ M Q E
noncomputable def kTN(Q:Bool->Sto->Prop)(k:Bool)(M:Sto):Prop:=Q (!k) M
theorem Zwe:wO (tC b ρ M) QB E=QB b M:=rfl
theorem ZqG:wO (Zcq t u ρ M) QB E=wO (t ρ M) (kTA u ρ QB E) E:=by unfold Zcq;rw[ZG];congr 1;funext k M1;cases k<;>rfl
theorem Ztm:wO (ZgL t u ρ M) QB E=wO (t ρ M) (kTO u ρ QB E) E:=by unfold ZgL;rw[ZG];congr 1;funext k M1;cases k<;>rfl
theorem ZqH:wO (ZdH t ρ M) QB E=wO (t ρ M) (kTN QB) E:=Zp0
def kSq(b:Sv)(N:W1)(R:W0)(B C:W1)(E:W2)(ρ:Ro)(M:Sto):Prop:=wS (b ρ M) N R B C E
theorem Ztn:wS (ZD a bd ρ M) N R B C E=wS (a ρ M) (kSq bd N R B C E) R B C E:=Zp1
theorem ZqI:wS (sNil ρ M) N R B C E=N ρ M:=rfl
theorem Zto:wS (sBrk ρ M) N R B C E=B ρ M:=rfl
theorem Ztp:wS (Zai f ρ M) N R B C E=wO (f ρ M) R E:=Zp2
theorem ZqJ:wS (Zpa ρ M) N R B C E=R .non M:=rfl
noncomputable def kDr(ρ:Ro)(N:W1)(d:D)(M:Sto):Prop:=N ρ M
theorem ZqK:wS (Zct f ρ M) N R B C E=wO (f ρ M) (kDr ρ N) E:=Znm
def BrS(k:Bool)(a b:Sv)(ρ:Ro)(M:Sto)(N:W1)(R:W0)(B C:W1)(E:W2):Prop:=wS ((if k=true then a else b) ρ M) N R B C E
theorem Zwf:BrS true a bd ρ M N R B C E=wS (a ρ M) N R B C E:=rfl
theorem Zwg:BrS false a bd ρ M N R B C E=wS (bd ρ M) N R B C E:=rfl
theorem brS{p:Prop}[Decidable p](h1:p->wS (a ρ M) N R B C E)(h2:¬p->wS (bd ρ M) N R B C E):BrS (decide p) a bd ρ M N R B C E:=by
 by_cases h:p
 .rw[decide_eq_true h];exact h1 h
 .rw[decide_eq_false h];exact h2 h
theorem ZuC(h1:b=true->wS (a ρ M) N R B C E)(h2:b=false->wS (bd ρ M) N R B C E):BrS b a bd ρ M N R B C E:=by
 cases b
 .exact h2 rfl
 .exact h1 rfl
theorem Ztq(P:W1)(h:BrS b a bd ρ M P R B C E)(hn:∀ρ M,P ρ M->N ρ M):BrS b a bd ρ M N R B C E:=by
 cases b
 .exact ZiG h hn (λ_ _ z=>z) (λ_ _ z=>z) (λ_ _ z=>z) (λ_ _ z=>z)
 .exact ZiG h hn (λ_ _ z=>z) (λ_ _ z=>z) (λ_ _ z=>z) (λ_ _ z=>z)
def kSi(a b:Sv)(ρ:Ro)(N:W1)(R:W0)(B C:W1)(E:W2)(k:Bool)(M:Sto):Prop:=BrS k a b ρ M N R B C E
theorem Ztr:wS (sIf t a bd ρ M) N R B C E=wO (t ρ M) (kSi a bd ρ N R B C E) E:=by unfold sIf;rw[Z4];congr 1;funext k M1;cases k<;>rfl
noncomputable def kAs(i:Nat)(ρ:Ro)(N:W1)(d:D)(M:Sto):Prop:=N (ρ.set i (some d)) M
theorem Zts:wS (ZK (gNm k) f ρ M) N R B C E=wO (f ρ M) (kAs k ρ N) E:=Zp3
def kAt(gs:Tgs)(ρ:Ro)(N:W1)(d:D)(M:Sto):Prop:=wG (gTp gs d ρ) (kQ N id M)
theorem ZqL:wS (ZK (gTp gs) f ρ M) N R B C E=wO (f ρ M) (kAt gs ρ N) E:=Znn
noncomputable def ZuD(i j:Nat)(ρ:Ro)(N:W1)(M:Sto)(v w:D):Prop:=N ((ρ.set i (some v)).set j (some w)) M
def kPa(i j:Nat)(ρ:Ro)(N:W1)(ds:List D)(M:Sto):Prop:=w2 ds (ZuD i j ρ N M)
theorem Ztt:wS (Zdi k m fs ρ M) N R B C E=wO (fs ρ M) (kPa k m ρ N) E:=Zp4
noncomputable def ZuE(n:Nat)(d:D)(xs:List D)(ρ:Ro)(N:W1)(M:Sto)(j:Nat):Prop:=N ρ (M.set n (.lst (xs.set j d)))
def ZuF(n:Nat)(k:Int)(d:D)(ρ:Ro)(N:W1)(M:Sto)(xs:List D):Prop:=wG (ixN xs.length k) (ZuE n d xs ρ N M)
def ZuG(n:Nat)(d:D)(ρ:Ro)(N:W1)(M:Sto)(k:Int):Prop:=wL M[n]? (ZuF n k d ρ N M)
def ZuH(i:D)(d:D)(ρ:Ro)(N:W1)(M:Sto)(n:Nat):Prop:=wI i (ZuG n d ρ N M)
def ZuI(o:D)(d:D)(ρ:Ro)(N:W1)(i:D)(M:Sto):Prop:=wR o (ZuH i d ρ N M)
def ZuJ(fi:Ev)(d:D)(ρ:Ro)(N:W1)(E:W2)(o:D)(M:Sto):Prop:=wO (fi ρ M) (ZuI o d ρ N) E
def kPu(fo fi:Ev)(ρ:Ro)(N:W1)(E:W2)(d:D)(M:Sto):Prop:=wO (fo ρ M) (ZuJ fi d ρ N E) E
theorem Ztu:wS (ZmC fo fi f ρ M) N R B C E=wO (f ρ M) (kPu fo fi ρ N E) E:=Zp5
def ZuK(tg:Tg)(bd:Sv)(ρ:Ro)(N:W1)(R:W0)(B C:W1)(E:W2)(M:Sto)(j:Int):Prop:=wS (Zbu tg bd (Za5 0 j.toNat) ρ M) N R B C E
def ZuL(tg:Tg)(bd:Sv)(ρ:Ro)(N:W1)(R:W0)(B C:W1)(E:W2)(M:Sto)(d:D):Prop:=wI d (ZuK tg bd ρ N R B C E M)
def kR1(tg:Tg)(bd:Sv)(ρ:Ro)(N:W1)(R:W0)(B C:W1)(E:W2)(ds:List D)(M:Sto):Prop:=w1 ds (ZuL tg bd ρ N R B C E M)
theorem ZqM:wS (Zbc tg fs bd ρ M) N R B C E=wO (fs ρ M) (kR1 tg bd ρ N R B C E) E:=Zno
def ZuM(tg:Tg)(bd:Sv)(ρ:Ro)(N:W1)(R:W0)(B C:W1)(E:W2)(M:Sto)(i:Int)(j:Int):Prop:=wS (Zbu tg bd (Za5 i (j-i).toNat) ρ M) N R B C E
def ZuN(tg:Tg)(bd:Sv)(ρ:Ro)(N:W1)(R:W0)(B C:W1)(E:W2)(M:Sto)(y:D)(i:Int):Prop:=wI y (ZuM tg bd ρ N R B C E M i)
def ZuO(tg:Tg)(bd:Sv)(ρ:Ro)(N:W1)(R:W0)(B C:W1)(E:W2)(M:Sto)(x y:D):Prop:=wI x (ZuN tg bd ρ N R B C E M y)
def kR2(tg:Tg)(bd:Sv)(ρ:Ro)(N:W1)(R:W0)(B C:W1)(E:W2)(ds:List D)(M:Sto):Prop:=w2 ds (ZuO tg bd ρ N R B C E M)
theorem ZqN:wS (ZcR tg fs bd ρ M) N R B C E=wO (fs ρ M) (kR2 tg bd ρ N R B C E) E:=Znv
def kFo(tg:Tg)(bd:Sv)(ρ:Ro)(N:W1)(R:W0)(B C:W1)(E:W2)(d:D)(M:Sto):Prop:=wS (Zlc tg bd d ρ M) N R B C E
theorem Ztv:wS (Zpc tg f bd ρ M) N R B C E=wO (f ρ M) (kFo tg bd ρ N R B C E) E:=Zp6
theorem ZqO:wS (Zlc tg bd (.tup xs) ρ M) N R B C E=wS (Zbu tg bd xs ρ M) N R B C E:=rfl
theorem ZqP:wS (Zlc tg bd (.rol xs) ρ M) N R B C E=wS (Zbu tg bd xs ρ M) N R B C E:=rfl
def kFs(tg:Tg)(bd:Sv)(ρ:Ro)(N:W1)(R:W0)(B C:W1)(E:W2)(src:Src)(M:Sto):Prop:=wS (Zfa tg bd src (cnt src M) 0 ρ M) N R B C E
theorem ZqQ:wS (ZgT tg fi bd ρ M) N R B C E=wO (fi ρ M) (kFs tg bd ρ N R B C E) E:=Znq
noncomputable def Zwh(Q:W0)(M1:Sto)(u:Unit)(M:Sto):Prop:=Q (.ref M1.length) M
def kCo(tg:Tg)(c:Tv)(f:Ev)(k:Nat)(fr:List Nat)(ρ:Ro)(Q:W0)(src:Src)(M:Sto):Prop:=wO (Zf0 src tg c f M.length (cnt src M) 0 (roB k fr ρ) (M++[.lst []])) (Zwh Q M) (λ_ _=>False)
theorem ZqR:wO (Zao fi k fr tg t f ρ M) Q E=wO (fi ρ M) (kCo tg t f k fr ρ Q) E:=Znr
def ZuP(QS:Src->Sto->Prop)(M:Sto)(j:Int):Prop:=QS (.pur (Za5 0 j.toNat)) M
def ZuQ(QS:Src->Sto->Prop)(M:Sto)(d:D):Prop:=wI d (ZuP QS M)
def kS1(QS:Src->Sto->Prop)(ds:List D)(M:Sto):Prop:=w1 ds (ZuQ QS M)
theorem Zwi:wO (iR1 fs ρ M) QS E=wO (fs ρ M) (kS1 QS) E:=Zv5
def ZuR(QS:Src->Sto->Prop)(M:Sto)(i:Int)(j:Int):Prop:=QS (.pur (Za5 i (j-i).toNat)) M
def ZuS(QS:Src->Sto->Prop)(M:Sto)(y:D)(i:Int):Prop:=wI y (ZuR QS M i)
def ZuT(QS:Src->Sto->Prop)(M:Sto)(x y:D):Prop:=wI x (ZuS QS M y)
def kS2(QS:Src->Sto->Prop)(ds:List D)(M:Sto):Prop:=w2 ds (ZuT QS M)
theorem Zwj:wO (iR2 fs ρ M) QS E=wO (fs ρ M) (kS2 QS) E:=Zv6
noncomputable def oSq(d:D)(M:Sto):Out Src:=match d with|.tup ds=>.ok (.pur ds) M|.rol ds=>.ok (.pur ds) M|.ref n=>.ok (.sto n) M|_=>.bad
theorem Zwk:wO (iSq f ρ M) QS E=wO (f ρ M) (kU oSq QS E) E:=by unfold iSq;exact ZG
theorem Ztw:wO (oSq (.tup xs) M) QS E=QS (.pur xs) M:=rfl
theorem Ztx:wO (oSq (.rol xs) M) QS E=QS (.pur xs) M:=rfl
theorem Zty:wO (oSq (.ref n) M) QS E=QS (.sto n) M:=rfl
def ZuU(QS:Src->Sto->Prop)(M:Sto)(d:D):Prop:=wR d (kQ QS .enu M)
def kEn(QS:Src->Sto->Prop)(ds:List D)(M:Sto):Prop:=w1 ds (ZuU QS M)
theorem Zwl:wO (iEn fs ρ M) QS E=wO (fs ρ M) (kEn QS) E:=Zv7
def ZuV(QS:Src->Sto->Prop)(M:Sto)(y:D)(n:Nat):Prop:=wR y (kQ QS (.zip n) M)
def ZuW(QS:Src->Sto->Prop)(M:Sto)(x y:D):Prop:=wR x (ZuV QS M y)
def kZp(QS:Src->Sto->Prop)(ds:List D)(M:Sto):Prop:=w2 ds (ZuW QS M)
theorem Zwm:wO (iZp fs ρ M) QS E=wO (fs ρ M) (kZp QS) E:=Zv8
noncomputable def ZqS(xs:List D)(M:Sto)(Q:W0)(ys:List D):Prop:=xs.length+ys.length<=10000000/\Q (.ref M.length) (M++[.lst (xs++ys)])
def ZuX(m:Nat)(M:Sto)(Q:W0)(xs:List D):Prop:=wL M[m]? (ZqS xs M Q)
theorem Ztz:wO (dAdd (.ref n) (.ref m) M) Q E=wL M[n]? (ZuX m M Q):=ZsS
noncomputable def ZrV(i:Int)(M:Sto)(Q:W0)(xs:List D):Prop:=((-9223372036854775808<=i/\i<9223372036854775808)/\xs.length*i.toNat<=100000)/\Q (.ref M.length) (M++[.lst (bC i.toNat xs).flatten])
theorem ZtA:wO (ZvJ (.ref n) (.int i) M) Q E=wL M[n]? (ZrV i M Q):=by
 show wO (match M[n]? with|some (.lst xs)=>if(-9223372036854775808<=i/\i<9223372036854775808)/\xs.length*i.toNat<=100000 then Out.ok (.ref M.length) (M++[.lst (bC i.toNat xs).flatten])else .bad|none=>.bad) Q E=_
 cases e1:M[n]? with
 |none=>rfl
 |some o=>
  cases o with
  |lst xs=>
   show wO (if(-9223372036854775808<=i/\i<9223372036854775808)/\xs.length*i.toNat<=100000 then Out.ok (.ref M.length) (M++[.lst (bC i.toNat xs).flatten])else .bad) Q E=ZrV i M Q xs
   unfold ZrV;by_cases h:(-9223372036854775808<=i/\i<9223372036854775808)/\xs.length*i.toNat<=100000
   .rw[if_pos h];simp only[eq_true h,true_and];rfl
   .rw[if_neg h];simp only[eq_false h,false_and];rfl
def kEq(Q:W0)(M:Sto)(b:Bool):Prop:=Q (.bl b) M
def kNe(Q:W0)(M:Sto)(b:Bool):Prop:=Q (.bl (!b)) M
theorem Zwn:wO (dEq x y M) Q E=wG (eqF 12 M x y) (kEq Q M):=Zv0
theorem Zwo:wO (dNe x y M) Q E=wG (eqF 12 M x y) (kNe Q M):=Zv1
theorem Zwp:wO (dIs x y M) Q E=wG (isP x y) (kEq Q M):=Zv2
theorem ZtB:wO (dIsNot x y M) Q E=wG (isP x y) (kNe Q M):=ZsT
theorem ZtC:wO (dIx (.tup xs) (.int i) M) Q E=wG (atI xs i) (kQ Q id M):=ZsU
theorem ZtD:wO (dIx (.rol xs) (.int i) M) Q E=wG (atI xs i) (kQ Q id M):=ZsV
def kIx(i:Int)(Q:W0)(M:Sto)(xs:List D):Prop:=wG (atI xs i) (kQ Q id M)
theorem ZtE:wO (dIx (.ref n) (.int i) M) Q E=wL M[n]? (kIx i Q M):=ZsW
noncomputable def ZuY(Q:W0)(M:Sto)(xs:List D):Prop:=Q (.int xs.length) M
theorem ZqT:wO (bLen [.ref n] M) Q E=wL M[n]? (ZuY Q M):=Zp8
noncomputable def kLi(Q:W0)(M:Sto)(xs:List D):Prop:=Q (.ref M.length) (M++[.lst xs])
theorem ZnA:wO (bList [.ref n] M) Q E=wL M[n]? (kLi Q M):=Znt
def ZuZ(Q:W0)(M:Sto)(bs:List Bool):Prop:=Q (.bl (bs.all id)) M
def kAl(Q:W0)(M:Sto)(xs:List D):Prop:=wG (Zan xs) (ZuZ Q M)
theorem ZtF:wO (bAll [.ref n] M) Q E=wL M[n]? (kAl Q M):=Zs0
def Zu0(g:List Int->Option Int)(Q:W0)(M:Sto)(ns:List Int):Prop:=wG (g ns) (kQ Q .int M)
def Zu1(g:List Int->Option Int)(Q:W0)(M:Sto)(xs:List D):Prop:=wG (Zbv xs) (Zu0 g Q M)
theorem ZqU:wO (Zcu gi [.ref n] M) Q E=wL M[n]? (Zu1 gi Q M):=Zqd
def kMt(g:Me)(fs:Av)(ρ:Ro)(Q:W0)(E:W2)(x:D)(M:Sto):Prop:=ZmL x M=true/\wO (fs ρ M) (kU (g x) Q E) E
theorem Zwq:wO (ZhS me fo fs ρ M) Q E=wO (fo ρ M) (kMt me fs ρ Q E) E:=Zv3
noncomputable def Zu2(n:Nat)(d:D)(Q:W0)(M:Sto)(xs:List D):Prop:=xs.length<10000000/\Q .non (M.set n (.lst (xs++[d])))
theorem ZtG:wO (mApp (.ref n) [d] M) Q E=wL M[n]? (Zu2 n d Q M):=Zs1
noncomputable def ZqV(n:Nat)(xs:List D)(Q:W0)(M:Sto)(ys:List D):Prop:=xs.length+ys.length<=10000000/\Q .non (M.set n (.lst (xs++ys)))
def Zu3(n m:Nat)(Q:W0)(M:Sto)(xs:List D):Prop:=wL M[m]? (ZqV n xs Q M)
theorem ZtH:wO (mExt (.ref n) [.ref m] M) Q E=wL M[n]? (Zu3 n m Q M):=Zs2
def ZnB(Q:W0)(M:Sto)(bs:List Bool):Prop:=wG (bs.findIdx? id) (kQ Q (λ(j:Nat)=>.int j) M)
def Zu4(d:D)(Q:W0)(M:Sto)(xs:List D):Prop:=wG (eqs M d xs) (ZnB Q M)
theorem ZtI:wO (mIdx (.ref n) [d] M) Q E=wL M[n]? (Zu4 d Q M):=by
 show wO (match M[n]? with|some (.lst xs)=>(match eqs M d xs with|some bs=>(match bs.findIdx? id with|some j=>Out.ok (.int (j:Nat)) M|none=>.bad)|none=>.bad)|none=>.bad) Q E=_
 cases e1:M[n]? with
 |none=>rfl
 |some o=>
  cases o with
  |lst xs=>
   show wO (match eqs M d xs with|some bs=>(match bs.findIdx? id with|some j=>Out.ok (.int (j:Nat)) M|none=>.bad)|none=>.bad) Q E=wG (eqs M d xs) (ZnB Q M)
   cases eqs M d xs with
   |none=>rfl
   |some bs=>
    show wO (match bs.findIdx? id with|some j=>Out.ok (.int (j:Nat)) M|none=>.bad) Q E=wG (bs.findIdx? id) _
    cases bs.findIdx? id<;>rfl
def Zu5(l u:Option Int)(Q:W0)(M:Sto)(xs:List D):Prop:=Q (.ref M.length) (M++[.lst (Ze9 xs l u)])
def Zu6(x:D)(l:Option Int)(Q:W0)(E:W2)(u:Option Int)(M:Sto):Prop:=wO (slR x l u M) Q E
def Zu7(x:D)(hi:Ro->Sto->Out (Option Int))(ρ:Ro)(Q:W0)(E:W2)(l:Option Int)(M:Sto):Prop:=wO (hi ρ M) (Zu6 x l Q E) E
def Zu8(lo hi:Ro->Sto->Out (Option Int))(ρ:Ro)(Q:W0)(E:W2)(x:D)(M:Sto):Prop:=wO (lo ρ M) (Zu7 x hi ρ Q E) E
theorem Zwr{lo:Ro->Sto->Out (Option Int)}:wO (eSl f lo hi ρ M) Q E=wO (f ρ M) (Zu8 lo hi ρ Q E) E:=Zs3
theorem ZtJ:wO (slR (.ref n) l u' M) Q E=wL M[n]? (Zu5 l u' Q M):=Zs4
theorem ZtK:wO (oNo ρ M) QI E=QI none M:=rfl
def Zu9(Q:Option Int->Sto->Prop)(x:D)(M:Sto):Prop:=wI x (kQ Q some M)
theorem ZtL:wO (oSo f ρ M) QI E=wO (f ρ M) (Zu9 QI) E:=Zs5
noncomputable def Zva(Q:W0)(M:Sto)(xs:List D):Prop:=Q (.ref M.length) (M++[.lst xs.reverse])
def kWh(bd:Sv)(ρ:Ro)(I:W1)(N:W1)(R:W0)(B C:W1)(E:W2)(k:Bool)(M:Sto):Prop:=Br k (wS (bd ρ M) I R N I E) (N ρ M)
theorem ZnC(I:Nat->Ro->Sto->Prop)(st:∀n ρ M,I n ρ M->wO (c ρ M) (kWh bd ρ (λρ2 M2=>∃m,m<n/\I m ρ2 M2) N R B C E) E)(n:Nat)(ρ:Ro)(M:Sto)(h:I n ρ M):wS (sWh c bd ρ M) N R B C E:=ZkG I st n ρ M h
theorem ZnD{I:W1}{p:Prop}[Decidable p](h1:p->wS (bd ρ M) I R N I E)(h2:¬p->N ρ M):kWh bd ρ I N R B C E (decide p) M:=brD h1 h2
theorem ZqW(Inv:Ro->Prop)(F:Nat->D)(hl:xs.length<10000000)(hcnt:xs.length<=cnt src M)(h0:Inv (roB k fr ρ))(hs:∀(L:Sto)(i:Nat),i<=xs.length->nxt src i (M++L)=some xs[i]?)(st:∀(i:Nat)(h:i<xs.length)(ρ:Ro)(L:Sto),Inv ρ->wG (tg xs[i] ρ) λr=>Inv r/\wO (f r (M++L)) (λy M2=>y=F i/\M2=M++L) (λ_ _=>False))(hq:Q (.ref M.length) (M++[.lst ((aI xs.length).map F)])):kCo tg (λ_ M=>.ok true M) f k fr ρ Q src M:=Zny (Q:=λM2=>Q (.ref M.length) M2) Inv F hl hcnt h0 hs st hq
theorem Zws(Inv:Ro->Prop)(F:Nat->D)(hl:n<10000000)(h0:Inv (roB k fr ρ))(st:∀(i:Nat)(h:i<n)(ρ:Ro)(L:Sto),Inv ρ->wG (tg (.int i) ρ) λr=>Inv r/\wO (f r (M++L)) (λy M2=>y=F i/\M2=M++L) (λ_ _=>False))(hq:Q (.ref M.length) (M++[.lst ((aI n).map F)])):kCo tg (λ_ M=>.ok true M) f k fr ρ Q (.pur (Za5 0 n)) M:=by
 refine ZqW (xs:=Za5 0 n) Inv F (by rw[Zb4];exact hl) (by simp[cnt]) h0 (λL i hi=>rfl) (λi hi ρ L hI=>?_) (by rw[Zb4];exact hq)
 rw[ZiQ]
 have:=st i (by rw[Zb4]at hi;exact hi) ρ L hI
 rw[show(0:Int)+(i:Nat)=i by lia]
 exact this
theorem ZkM(Inv:Ro->Prop)(F:Nat->D)(hM:M[n]?=some (.lst xs))(hl:xs.length<10000000)(h0:Inv (roB k fr ρ))(st:∀(i:Nat)(h:i<xs.length)(ρ:Ro)(L:Sto),Inv ρ->wG (tg xs[i] ρ) λr=>Inv r/\wO (f r (M++L)) (λy M2=>y=F i/\M2=M++L) (λ_ _=>False))(hq:Q (.ref M.length) (M++[.lst ((aI xs.length).map F)])):kCo tg (λ_ M=>.ok true M) f k fr ρ Q (.sto n) M:=
 ZqW (xs:=xs) Inv F hl (by rw[ZiN hM];exact aj _) h0 (λL i hi=>by rw[ZiO];rw[aB (Zy hM)];exact hM) st hq
end
end DL
namespace DL
open L2
theorem ZtM:wO (bLR [.ref n] M) Q E=wL M[n]? (Zva Q M):=by
 show wO (match M[n]? with|some (.lst xs)=>Out.ok (.ref M.length) (M++[.lst xs.reverse])|none=>.bad) Q E=_
 cases M[n]? with
 |none=>rfl
 |some o=>cases o with|lst xs=>rfl
noncomputable def ZtN(i j:Nat)(ρ:Ro)(N:W1)(d:D)(M:Sto):Prop:=N ((ρ.set i (some d)).set j (some d)) M
theorem ZlA:wS (ZK (Zob (gNm k) (gNm m)) f ρ M) N R B C E=wO (f ρ M) (ZtN k m ρ N) E:=Z4
section
variable {src:Src}{tg:Tg}{c:Tv}{g:Ro->Sto->Out Ro}{P:Nat->Ro->Sto->Prop}
theorem ZkN(n:Nat)(step:∀i ρ M,i<n->P i ρ M->∃d ρ1 M1,nxt src i M=some (some d)/\tg d ρ=some ρ1/\((c ρ1 M=.ok false M1/\P (i+1) ρ1 M1)\/∃ρ2 M2,c ρ1 M=.ok true M1/\g ρ1 M1=.ok ρ2 M2/\P (i+1) ρ2 M2))(stop:∀ρ M,P n ρ M->nxt src n M=some none):∀(fuel i:Nat)(ρ:Ro)(M:Sto),i<=n->n-i<=fuel->P i ρ M->∃ρ' M',ZcD src tg c g fuel i ρ M=.ok ρ' M'/\P n ρ' M':=by
 intro fuel
 induction fuel with
 |zero=>
  intro i ρ M hi hf h;have e:i=n:=⋯
  subst e;exact⟨ρ,M,by rw[ZcD,stop ρ M h],h⟩
 |succ fuel ih=>
  intro i ρ M hi hf h;by_cases q:i=n
  .subst q;exact⟨ρ,M,by rw[ZcD,stop ρ M h],h⟩
  .obtain⟨d,ρ1,M1,e1,e2,e3⟩:=step i ρ M ⋯ h
   rcases e3 with⟨e3,h3⟩|⟨ρ2,M2,e3,e4,h3⟩
   .obtain⟨ρ',M',z1,z2⟩:=ih (i+1) ρ1 M1 ⋯ ⋯ h3
    exact⟨ρ',M',by rw[ZcD,e1];simp only[e2,e3];exact z1,z2⟩
   .obtain⟨ρ',M',z1,z2⟩:=ih (i+1) ρ2 M2 ⋯ ⋯ h3
    exact⟨ρ',M',by rw[ZcD,e1];simp only[e2,e3,e4];exact z1,z2⟩
def ZtO(tg:Tg)(c:Tv)(g:Nat->Ro->Sto->Out Ro)(k:Nat)(fr:List Nat)(ρ:Ro)(Q:W0)(src:Src)(M1:Sto):Prop:=∃ρ' M',ZcD src tg c (g M1.length) (cnt src M1) 0 (roB k fr ρ) (M1++[.lst []])=.ok ρ' M'/\Q (.ref M1.length) M'
theorem ZiR{g:Nat->Ro->Sto->Out Ro}:wO (Zbe fi k fr tg c g ρ M) Q E=wO (fi ρ M) (ZtO tg c g k fr ρ Q) E:=by
 unfold Zbe;rw[ZG];congr 1;funext src M1;unfold ZtO;cases e:ZcD src tg c (g M1.length) (cnt src M1) 0 (roB k fr ρ) (M1++[.lst []])with
 |ok ρ' M'=>exact propext ⟨λh=>⟨ρ',M',rfl,h⟩,λ⟨_,_,z,h⟩=>by cases z;exact h⟩
 |exc x M'=>exact propext ⟨λh=>h.elim,λ⟨_,_,z,_⟩=>by cases z⟩
 |bad=>exact propext ⟨λh=>h.elim,λ⟨_,_,z,_⟩=>by cases z⟩
end
def Zwt(n:Nat)(d k:D)(kk:List (List Key))(ρ:Ro)(N:W1)(M:Sto)(ds:List D):Prop:=ds.length<10000000/\N ρ (M.set n (.lst (Zoa kyU kk k d ds)))
def Zvb(d x:D)(ρ:Ro)(N:W1)(k:D)(M:Sto):Prop:=∃n kk,x=.du n/\kyU k=some kk/\wL M[n]? (Zwt n d k kk ρ N M)
def ZtP(fi:Ev)(d:D)(ρ:Ro)(N:W1)(E:W2)(x:D)(M:Sto):Prop:=wO (fi ρ M) (Zvb d x ρ N) E
def ZtQ(fo fi:Ev)(ρ:Ro)(N:W1)(E:W2)(d:D)(M:Sto):Prop:=wO (fo ρ M) (ZtP fi d ρ N E) E
theorem ZqX:wS (Zkq fo fi f ρ M) N R B C E=wO (f ρ M) (ZtQ fo fi ρ N E) E:=by
 unfold Zkq;rw[Z4];congr 1;funext d M1;rw[Z4];unfold ZtQ;congr 1;funext x M2;rw[Z4];unfold ZtP;congr 1;funext k M3;unfold Zvb;cases x with
 |du n=>
  cases e:kyU k with
  |none=>exact propext ⟨λh=>h.elim,λ⟨_,_,_,z,_⟩=>by cases z⟩
  |some kk=>
   cases em:M3[n]? with
   |none=>simp only[em];exact propext ⟨λh=>h.elim,λ⟨n',_,z,_,h⟩=>by cases z;rw[em]at h;exact h.elim⟩
   |some o=>
    cases o with
    |lst ds=>
     by_cases c:ds.length<10000000
     .simp only[em,if_pos c];exact propext ⟨λh=>⟨n,kk,rfl,rfl,by rw[em];exact⟨c,h⟩⟩,λ⟨n',kk',z,z',h⟩=>by cases z;cases z';rw[em]at h;exact h.2⟩
     .simp only[em,if_neg c];exact propext ⟨λh=>h.elim,λ⟨n',kk',z,z',h⟩=>by cases z;cases z';rw[em]at h;exact absurd h.1 c⟩
 |_=>exact propext ⟨λh=>h.elim,λ⟨_,_,z,_⟩=>by cases z⟩
def Zvc(Q:W0)(M:Sto)(es:List D):Prop:=Q (.ref M.length) (M++[.lst (es.map Zid)])
theorem ZtR:wO (bLisU [.du n] M) Q E=wL M[n]? (Zvc Q M):=by
 show wO (match M[n]? with|some (.lst es)=>Out.ok (.ref M.length) (M++[.lst (es.map Zid)])|none=>.bad) Q E=_
 cases M[n]? with
 |none=>rfl
 |some o=>cases o with|lst xs=>rfl
theorem ZtS:wO (eDnU ρ M) Q E=Q (.du M.length) (M++[.lst []]):=rfl
end DL
namespace DL
noncomputable abbrev Pt:=Int×Int
noncomputable def X(p q:Pt):Int:=p.1*q.2-p.2*q.1
section
variable {rs:List Pt}{i j:Int}{k:Nat}{p:Pt}
theorem ZbW{α:Type}{l:List α}{d:α}(h:n<l.length):l.getD n d=l[n]:=by simp[aa h]
theorem ZbF(h:0<=i/\i<rs.length):cy rs i=rs.getD i.toNat (0,0):=by
 unfold cy;rw[ge h.1 h.2]
theorem ZaK{m:Nat}(h:m≠0):(i%m).toNat<m/\0<=i%m:=by
 have:=cW i (show(0:Int)<m by lia)
 have:=dL i (show(m:Int)≠0 by lia)
 lia
theorem Zav(h:rs≠[]):cy rs i∈rs:=by
 have hl:rs.length≠0:=by simpa using h
 unfold cy;rw[ZbW (ZaK hl).1];exact cA _
theorem Zgm{f:Pt->Pt}(h:rs≠[]):cy (rs.map f) i=f (cy rs i):=by
 have hl:rs.length≠0:=by simpa using h
 unfold cy;rw[af,ZbW (by rw[af];exact(ZaK hl).1),ZbW (ZaK hl).1,fE]
theorem ZlB(hk:k<=rs.length):cy (rs.drop k++rs.take k) i=cy rs (i+k):=by
 by_cases h:rs.length=0
 .have:rs=[]:=by simpa using h
  subst this;simp[cy]
 have hL:(rs.drop k++rs.take k).length=rs.length:=by simp;lia
 have e1:cy (rs.drop k++rs.take k) i=cy (rs.drop k++rs.take k) (i%rs.length):=by
  conv=>rhs;rw[<-hL,Zc4]
 have e2:cy rs (i+k)=cy rs (i%rs.length+k):=by
  unfold cy;rw[Int.emod_add_emod]
 rw[e1,e2];obtain⟨a,b⟩:=ZaK (i:=i) h;generalize hm:i%(rs.length:Int)=m at *;have hm2:m<rs.length:=⋯
 rw[ZbF (by rw[hL];lia)]
 by_cases c:m+k<rs.length
 .rw[ZbF ⋯]
  rw[az,az,aB (by simp;lia),hW]
  congr 2;lia
 .rw[<-ZeP,ZbF ⋯]
  rw[az,az,aH (by simp;lia),dD (by simp;lia)]
  congr 2;simp;lia
noncomputable def ins(rs:List Pt)(k:Nat)(p:Pt):List Pt:=rs.take (k+1)++p::rs.drop (k+1)
theorem ZdY(hk:k<rs.length):(ins rs k p).length=rs.length+1:=by simp[ins];lia
theorem ZlC(hk:k<rs.length)(h0:0<=j)(h1:j<=rs.length+1):cy (ins rs k p) j=if j<=k then cy rs j else if j=k+1 then p else cy rs (j-1):=by
 have hL:=ZdY (p:=p) hk;by_cases e:j=rs.length+1
 .subst e;rw[if_neg ⋯,if_neg ⋯]
  have e1:cy (ins rs k p) (rs.length+1)=cy (ins rs k p) 0:=by
   have:=ZeP (rs:=ins rs k p) (i:=(rs.length:Int)+1)
   rw[hL]at this;rw[<-this];congr 1;lia
  have e2:cy rs ((rs.length:Int)+1-1)=cy rs 0:=by
   rw[<-ZeP];congr 1;lia
  rw[e1,e2,ZbF (by rw[hL];lia),ZbF ⋯]
  unfold ins;rw[az,az,aB (by simp;lia),dD (by simp)]
 .have hj:j<rs.length+1:=⋯
  rw[ZbF (by rw[hL];lia)]
  unfold ins;rw[az];by_cases c1:j<=k
  .rw[if_pos c1,ZbF ⋯,az,aB (by simp;lia),dD ⋯]
  .rw[if_neg c1,aH (by simp;lia)]
   have hl:(rs.take (k+1)).length=k+1:=by simp;lia
   rw[hl];by_cases c2:j=k+1
   .rw[if_pos c2]
    have:j.toNat-(k+1)=0:=⋯
    rw[this];rfl
   .rw[if_neg c2,ZbF ⋯,az]
    obtain⟨z,hz⟩:∃z,j.toNat-(k+1)=z+1:=⟨j.toNat-(k+1)-1,⋯⟩
    rw[hz,c8,hW];congr 2;lia
theorem ZdZ{P:Pt->Pt->Prop}(hn:rs.length≠0)(h:∀i:Int,0<=i->i<rs.length->P (cy rs i) (cy rs (i+1)))(i:Int):P (cy rs i) (cy rs (i+1)):=by
 have e1:cy rs i=cy rs (i%rs.length):=Zc4.symm;have e2:cy rs (i+1)=cy rs (i%rs.length+1):=by
  unfold cy;rw[Int.emod_add_emod]
 rw[e1,e2];obtain⟨a,b⟩:=ZaK (i:=i) hn;exact h _ b ⋯
noncomputable def cc(f:Pt->Pt->Nat):List Pt->Nat
 |a::b::r=>f a b+cc f (b::r)
 |_=>0
def cyc(f:Pt->Pt->Nat)(rs:List Pt):Nat:=cc f (rs++rs.take 1)
theorem ZdB{f:Pt->Pt->Nat}:∀(L:List Pt)(a:Pt)(R:List Pt),cc f (L++a::R)=cc f (L++[a])+cc f (a::R)
 |[],a,R=>by simp[cc]
 |[b],a,R=>by simp[cc]
 |b::c::L,a,R=>by
  have:=ZdB (f:=f) (c::L) a R
  simp only[bO,cc]at this ⊢;lia
theorem ZlD{f:Pt->Pt->Nat}{g:Pt->Pt}:∀(L:List Pt),cc f (L.map g)=cc (λa b=>f (g a) (g b)) L
 |[]=>rfl
 |[_]=>rfl
 |a::b::L=>by
  have:=ZlD (f:=f) (g:=g) (b::L)
  simp only[aK,cc]at this ⊢;lia
theorem ZlE{f:Pt->Pt->Nat}:∀(L:List Pt),cc f L.reverse=cc (λa b=>f b a) L
 |[]=>rfl
 |[_]=>rfl
 |a::b::L=>by
  have:=ZlE (f:=f) (b::L)
  rw[dc,dc,cS,lK,ZdB];rw[dc]at this;simp only[cc]at this ⊢;lia
theorem Zbr:cyc f (a::r)=cc f (a::(r++[a])):=by simp[cyc]
theorem Zc5(A B:List Pt):cyc f (A++B)=cyc f (B++A):=by
 cases A with
 |nil=>simp
 |cons a A=>
  cases B with
  |nil=>simp
  |cons b B=>
   rw[bO,Zbr,bO,Zbr];have e1:a::(A++b::B++[a])=(a::A)++b::(B++[a]):=by simp
   have e2:b::(B++a::A++[b])=(b::B)++a::(A++[b]):=by simp
   rw[e1,e2,ZdB (a::A) b,ZdB (b::B) a];simp only[bO];lia
theorem Zd0(L:List Pt):cyc f (L.map g)=cyc (λa b=>f (g a) (g b)) L:=by
 unfold cyc;rw[<-List.map_take,<-dj,ZlD]
theorem ZiS(L:List Pt):cyc f L.reverse=cyc (λa b=>f b a) L:=by
 cases L with
 |nil=>rfl
 |cons a L=>
  rw[dc,Zc5,lK,Zbr,Zbr,<-ZlE];congr 1;simp
def in1(w a b:Pt):Nat:=if 0<=X a w/\0<X w b then 1 else 0
def in2(w a b:Pt):Nat:=if 0<X a w/\0<=X w b then 1 else 0
def Fan(rs:List Pt):Prop:=∀w:Pt,w≠(0,0)->cyc (in1 w) rs=1/\cyc (in2 w) rs=1
theorem ZqY:X w (a.1+b.1,a.2+b.2)=X w a+X w b/\X (a.1+b.1,a.2+b.2) w=X a w+X b w:=by unfold X;constructor<;>grind
theorem ZeQ{p:Pt}:X p q=0-X q p:=by unfold X;grind
theorem ZnE:in1 w a b=in1 w a (a.1+b.1,a.2+b.2)+in1 w (a.1+b.1,a.2+b.2) b:=by
 have s:=ZqY (a:=a) (b:=b) (w:=w);have e1:=ZeQ (p:=w) (q:=a);have e2:=ZeQ (p:=b) (q:=w);unfold in1;rw[s.1,s.2,e1,e2];generalize X a w=p;generalize X w b=q
 repeat' split
 all_goals lia
theorem ZnF:in2 w a b=in2 w a (a.1+b.1,a.2+b.2)+in2 w (a.1+b.1,a.2+b.2) b:=by
 have s:=ZqY (a:=a) (b:=b) (w:=w);have e1:=ZeQ (p:=w) (q:=a);have e2:=ZeQ (p:=b) (q:=w);unfold in2;rw[s.1,s.2,e1,e2];generalize X a w=p;generalize X w b=q
 repeat' split
 all_goals lia
theorem ZqZ{L R:List Pt}:cy (L++a::R) L.length=a:=by
 rw[ZbF (by simp;lia)]
 simp
theorem ZtT{L R:List Pt}:cy (L++a::b::R) (L.length+1)=b:=by
 rw[ZbF (by simp;lia)]
 rw[show((L.length:Int)+1).toNat=L.length+1 by lia]
 simp
theorem ZiT{r:List Pt}:cy (a::r) (r.length+1)=a:=by
 have:=ZeP (rs:=a::r) (i:=(r.length:Int)+1)
 rw[<-this,bv,show(r.length:Int)+1-((r.length+1:Nat):Int)=0 by lia,ZbF (by simp)]
 rfl
theorem ZiU(hk:k<rs.length)(hf:f (cy rs k) (cy rs (k+1))=f (cy rs k) p+f p (cy rs (k+1))):cyc f (ins rs k p)=cyc f rs:=by
 obtain⟨L,a,R,e,hl⟩:∃L a R,rs=L++a::R/\L.length=k:=⟨rs.take k,rs[k],rs.drop (k+1),by rw[List.getElem_cons_drop,cC],by simp;lia⟩
 have ei:ins rs k p=L++a::p::R:=by
  unfold ins;rw[e,<-hl,List.take_append,List.drop_append,cK ⋯,dQ ⋯]
  simp
 have ca:cy rs k=a:=by rw[e,<-hl];exact ZqZ
 cases R with
 |cons b R=>
  have cb:cy rs (k+1)=b:=by rw[e,<-hl];exact ZtT
  rw[ca,cb]at hf;rw[ei,e,Zc5,Zc5 L];simp only[bO,Zbr,cc];lia
 |nil=>
  cases L with
  |nil=>
   have cb:cy rs (k+1)=a:=by
    rw[e,<-hl];exact ZiT (r:=[]) (a:=a)
   rw[ca,cb]at hf;rw[ei,e];simp[cyc,cc];lia
  |cons b L=>
   have cb:cy rs (k+1)=b:=by
    rw[e,<-hl]
    have:=ZiT (r:=L++[a]) (a:=b)
    simp only[aT,bv,gW]at this ⊢;exact this
   rw[ca,cb]at hf;rw[ei,e];simp only[bO,Zbr];have e1:b::(L++[a,p]++[b])=(b::L)++a::[p,b]:=by simp
   have e2:b::(L++[a]++[b])=(b::L)++a::[b]:=by simp
   rw[e1,e2,ZdB,ZdB (b::L) a [b]];simp only[cc];lia
theorem Fan.rot(h:Fan rs):Fan (rs.drop k++rs.take k):=λw hw=>by
 rw[Zc5,Zc5 (rs.drop k),cC];exact h w hw
theorem Fan.ins(h:Fan rs)(hk:k<rs.length):Fan (ins rs k ((cy rs k).1+(cy rs (k+1)).1,(cy rs k).2+(cy rs (k+1)).2)):=λw hw=>by
 rw[ZiU hk ZnE,ZiU hk ZnF];exact h w hw
theorem ZlF{f:Pt->Pt}(hs:s=1\/s= -1)(hf:∀p q,X (f p) (f q)=s*X p q)(w:Pt)(hw:w≠(0,0)):∃w':Pt,w'≠(0,0)/\∀a,X (f a) w=s*X a w':=by
 have d:=hf (1,0) (0,1);have d1:X (f (1,0)) (f (0,1))=s:=by rw[d];simp[X]
 have lin:∀a,(f a).1=a.1*(f (1,0)).1+a.2*(f (0,1)).1/\(f a).2=a.1*(f (1,0)).2+a.2*(f (0,1)).2:=by
  intro a;have h1:=hf a (1,0);have h2:=hf a (0,1);generalize f a=u at *;generalize f (1,0)=e1 at *;generalize f (0,1)=e2 at *;unfold X at *;rcases hs with rfl|rfl<;>constructor<;>grind
 refine⟨(X w (f (0,1))*s,X (f (1,0)) w*s),?_,?_⟩
 .intro z;apply hw;have z1:=congrArg ny z;have z2:=congrArg Prod.snd z;simp only at z1 z2;generalize f (1,0)=e1 at *;generalize f (0,1)=e2 at *;unfold X at *;apply db
  .rcases hs with rfl|rfl<;>simp only[]<;>grind
  .rcases hs with rfl|rfl<;>simp only[]<;>grind
 .intro a;obtain⟨l1,l2⟩:=lin a;unfold X;rw[l1,l2];rcases hs with rfl|rfl<;>simp only[]<;>grind
theorem Fan.map(h:Fan rs)(hf:∀p q,X (f p) (f q)=X p q):Fan (rs.map f):=λw hw=>by
 obtain⟨w',hw',e⟩:=ZlF (s:=1) (.inl rfl) (λp q=>by rw[hf,mh]) w hw
 have e2:∀a,X w (f a)=X w' a:=λa=>by rw[ZeQ,e,ZeQ (p:=w')];lia
 have c1:∀a b,in1 w (f a) (f b)=in1 w' a b:=λa b=>by unfold in1;rw[e,e2,mh]
 have c2:∀a b,in2 w (f a) (f b)=in2 w' a b:=λa b=>by unfold in2;rw[e,e2,mh]
 rw[Zd0,Zd0,show(λa b=>in1 w (f a) (f b))=in1 w' from funext λa=>funext λb=>c1 a b,show(λa b=>in2 w (f a) (f b))=in2 w' from funext λa=>funext λb=>c2 a b];exact h w' hw'
theorem Fan.flip(h:Fan rs)(hf:∀p q,X (f p) (f q)= -1*X p q):Fan (rs.map f).reverse:=λw hw=>by
 obtain⟨w',hw',e⟩:=ZlF (s:= -1) (.inr rfl) hf w hw;have e2:∀a,X w (f a)= -1*X w' a:=λa=>by rw[ZeQ,e,ZeQ (p:=w')];lia
 have c1:∀a b,in1 w (f b) (f a)=in2 w' a b:=λa b=>by
  unfold in1 in2;rw[e,e2,ZeQ (p:=b)]
  have:=ZeQ (p:=a) (q:=w')
  simp only[show(0<= -1*(0-X w' b)/\0 < -1*X w' a)=(0<X a w'/\0<=X w' b)from propext ⟨λ_=>⋯,λ_=>⋯⟩]
 have c2:∀a b,in2 w (f b) (f a)=in1 w' a b:=λa b=>by
  unfold in1 in2;rw[e,e2,ZeQ (p:=b)]
  have:=ZeQ (p:=a) (q:=w')
  simp only[show(0 < -1*(0-X w' b)/\0<= -1*X w' a)=(0<=X a w'/\0<X w' b)from propext ⟨λ_=>⋯,λ_=>⋯⟩]
 rw[ZiS,ZiS,Zd0,Zd0,show(λa b=>in1 w (f b) (f a))=in2 w' from funext λa=>funext λb=>c1 a b,show(λa b=>in2 w (f b) (f a))=in1 w' from funext λa=>funext λb=>c2 a b];exact⟨(h w' hw').2,(h w' hw').1⟩
structure Smo(rs:List Pt):Prop where
 len:3<=rs.length
 one:∀i:Int,X (cy rs i) (cy rs (i+1))=1
 fan:Fan rs
noncomputable def Nr(b:Int)(rs:List Pt):Prop:=∀p∈rs,(-b<=p.1/\p.1<=b)/\ -b<=p.2/\p.2<=b
theorem Smo.ne(h:Smo rs):rs≠[]:=by
 intro z
 have:=h.len
 rw[z]at this;simp at this
theorem Nr.cy{b:Int}(h:Nr b rs)(hn:rs≠[])(i:Int):(-b<=(cy rs i).1/\(cy rs i).1<=b)/\ -b<=(cy rs i).2/\(cy rs i).2<=b:=h _ (Zav hn)
theorem Smo.ins(h:Smo rs)(hk:k<rs.length):Smo (ins rs k ((cy rs k).1+(cy rs (k+1)).1,(cy rs k).2+(cy rs (k+1)).2)):=by
 have hL:=ZdY (p:=((cy rs k).1+(cy rs (k+1)).1,(cy rs k).2+(cy rs (k+1)).2)) hk;refine⟨by rw[hL];have:=h.len;lia,?_,h.fan.ins hk⟩
 refine ZdZ (P:=λa b=>X a b=1) ⋯ ?_
 intro i h0 h1;rw[hL]at h1;rw[ZlC hk h0 ⋯,ZlC hk ⋯ ⋯]
 have ok:=h.one k;by_cases c1:i+1<=k
 .rw[if_pos ⋯,if_pos c1];exact h.one i
 .rw[if_neg c1];by_cases c2:i=k
  .subst c2;rw[if_pos ⋯,if_pos rfl]
   unfold X at *;grind
  .rw[if_neg (by lia:¬i<=(k:Int)),if_neg (by lia:¬i+1=(k:Int)+1)]
   by_cases c3:i=k+1
   .subst c3;rw[if_pos rfl]
    have:(k:Int)+1+1-1=k+1:=⋯
    rw[this];unfold X at *;grind
   .rw[if_neg c3]
    have:=h.one (i-1)
    have e:i-1+1=i+1-1:=⋯
    rw[e]at this;exact this
theorem Smo.rot(h:Smo rs)(hk:k<=rs.length):Smo (rs.drop k++rs.take k):=by
 refine⟨by have:=h.len;simp;lia,λi=>?_,h.fan.rot⟩
 rw[ZlB hk,ZlB hk]
 have:=h.one (i+k)
 have e:i+(k:Int)+1=i+1+k:=⋯
 rw[e]at this;exact this
theorem Smo.map(h:Smo rs)(hf:∀p q,X (f p) (f q)=X p q):Smo (rs.map f):=by
 refine⟨by have:=h.len;simp;lia,λi=>?_,h.fan.map hf⟩
 rw[Zgm h.ne,Zgm h.ne,hf];exact h.one i
theorem Nr.ins{b:Int}(h:Nr b rs)(hp:(-b<=p.1/\p.1<=b)/\ -b<=p.2/\p.2<=b):Nr b (ins rs k p):=by
 intro q hq;rcases be.mp hq with hq|hq
 .exact h q (gB hq)
 .rcases ay.mp hq with hq|hq
  .subst hq;exact hp
  .exact h q (iV hq)
end
end DL
namespace CC
open L2 DL
def ZaQ:Sv:=(Zai (e2 dSub (e2 dMul (e2 dIx (Zf 0) (eC (.int 0))) (e2 dIx (Zf 1) (eC (.int 1)))) (e2 dMul (e2 dIx (Zf 0) (eC (.int 1))) (e2 dIx (Zf 1) (eC (.int 0))))))
def F_crossed:W3:=fnF ZaQ 2 0
def ZaV:Sv:=(Zai (e2 dIx (Zf 0) (e2 dMod (e2 dAdd (Zf 1) (eC (.int 1))) (Zj bLen (Zc (Zf 0) aNil)))))
def F_following:W3:=fnF ZaV 2 0
def Zag:Sv:=(sIf (tv (e2 dNe (Zj F_crossed (Zc (Zf 2) (Zc (Zj F_following (Zc (Zf 0) (Zc (Zf 1) aNil))) aNil))) (eC (.int 1)))) (Zai (Zf 1)) sNil)
def ZaW:Sv:=(ZD (ZgT (gTp (gCs (gNm 1) (gCs (gNm 2) gNl))) (iEn (Zc (Zf 0) aNil)) Zag) (Zai (eC .non)))
def F_unspanned:W3:=fnF ZaW 1 2
def ZaE:Sv:=(ZD (ZK (gNm 1) (Zj F_unspanned (Zc (Zf 0) aNil))) (sIf (tv (e2 dIsNot (Zf 1) (eC .non))) (Zdw (PySem.Str.ofString "NotSmooth") (Zc (eFs (ZcW (eC (.str (PySem.Str.ofString "ray "))) (ZcW (eFm (Zf 1)) (ZcW (eC (.str (PySem.Str.ofString " does not cross the next one in 1"))) jNil)))) aNil)) sNil))
def F_ask_smooth:W3:=fnF ZaE 1 1
def ZbG:Sv:=(sIf (ZgL (tv (e2 dLt (Zf 1) (eC (.int 0)))) (tv (e2 dGe (Zf 1) (Zj bLen (Zc (Zf 0) aNil))))) (Zdw (PySem.Str.ofString "NoPlace") (Zc (eFs (ZcW (eC (.str (PySem.Str.ofString "a place is from 0 to "))) (ZcW (eFm (e2 dSub (Zj bLen (Zc (Zf 0) aNil)) (eC (.int 1)))) jNil))) aNil)) sNil)
def F_ask_place:W3:=fnF ZbG 2 0
def Zd1:Sv:=(ZD (Zct (Zj F_ask_smooth (Zc (Zf 0) aNil))) (ZD (Zct (Zj F_ask_place (Zc (Zf 0) (Zc (Zf 1) aNil)))) (ZD (Zdi 2 3 (Zc (e2 dIx (Zf 0) (Zf 1)) (Zc (Zj F_following (Zc (Zf 0) (Zc (Zf 1) aNil))) aNil))) (Zai (e2 dAdd (e2 dAdd (eSl (Zf 0) oNo (oSo (e2 dAdd (Zf 1) (eC (.int 1))))) (Za8 (Zc (ZX (Zc (e2 dAdd (e2 dIx (Zf 2) (eC (.int 0))) (e2 dIx (Zf 3) (eC (.int 0)))) (Zc (e2 dAdd (e2 dIx (Zf 2) (eC (.int 1))) (e2 dIx (Zf 3) (eC (.int 1)))) aNil))) aNil))) (eSl (Zf 0) (oSo (e2 dAdd (Zf 1) (eC (.int 1)))) oNo))))))
def F_put_in:W3:=fnF Zd1 2 2
end CC
open L2 DL
set_option hygiene false
set_option compiler.extract_closed false
local macro_rules|`(tactic|simp! $c:optConfig [$ls,*])=>do let x←("Zv9 y_c y_v ZqA Ztd ZqB Zte Ztf Ztg ZqC Zti ZqD Zwa Zwb Ztj Ztk ZqE ZqF Zwd Ztl Zwe ZqG Ztm ZqH Ztn ZqI Zto Ztp ZqJ ZqK Zwf Zwg Ztr Zts ZqL Ztt Ztu ZqM ZqN Ztv ZqO ZqP ZqQ ZqR Zwi Zwj Zwk Ztw Ztx Zty Zwl Zwm Ztz ZtA Zwn Zwo Zwp ZtB ZtC ZtD ZtE ZqT ZnA ZtF ZqU Zwq ZtG ZtH ZtI Zwr ZtJ ZtK ZtL kU kQ kB2 kB1 kA2 kA1 kTu kLs kTy kTA kTO kTN kSq kDr kSi kAs kAt ZuD kPa ZuE ZuF ZuG ZuH ZuI ZuJ kPu ZuK ZuL kR1 ZuM ZuN ZuO kR2 kFo kFs ZuP ZuQ kS1 ZuR ZuS ZuT kS2 ZuU kEn ZuV ZuW kZp ZqS ZuX ZrV kEq kNe kIx ZuY kLi ZuZ kAl Zu0 Zu1 kMt Zu2 ZqV Zu3 ZnB Zu4 Zu5 Zu6 Zu7 Zu8 Zu9 Zva Zgk Zgl ZiK ZkI ZkK ZkL Znw decide_eq_true decide_eq_false wF1 wF2 wF3 wF4 Zq ZpX ZvQ ZvR ZvS ZvT ZvU ZvO ZvP ZsM ZsN ZsO Zp7 ZsP ZsQ ZsR ZvW ZvX ZvY ZvZ Zp9 Zqa ZsX ZsY ZsZ Zqb Zqc Znu Zqe Zqf ZkH Zs9 Zta Ztb Ztc id roB kpR cond_true cond_false at0 at1 at2 at3 gTp gCs gNl gNm List.set_cons_zero List.set_cons_succ ke c8 bv gW aT af aK i5 bO iZ cS cJ List.replicate_succ List.replicate_zero Option.join_some jt ZiJ Zof Zc3 Zlx Zqg Zqh ZL Zs6 Zv4 Zs7 Zqj Zs8 Zqk Zql Zqm Zqn Zqo Zqp Zqq Zqr Zqs Zqt Zqu Zqv Zqw Zqx true_and and_true fN Bool.not_false decide_true decide_false Nat.reduceAdd Nat.reduceLeDiff Nat.reduceLT iz eQ Int.reducePow Int.reduceToNat Int.reduceNeg Int.reduceMod Int.reduceDiv Int.reduceAdd Int.reduceSub Int.reduceMul Int.cast_ofNat_Int Int.reduceEq Int.reduceLT Int.reduceLE".splitOn " ").toArray.mapM fun s=>`(Lean.Parser.Tactic.simpLemma|$(Lean.mkIdent s.toName):ident);`(tactic|simp $c:optConfig (disch := lia) only [$x,*,$ls,*])
set_option hygiene true
namespace CC
open L2 DL
section
variable {E:W2}
theorem ZeR(ha: -(18446744073709551616)<a/\a<18446744073709551616)(hb: -(18446744073709551616)<b/\b<18446744073709551616):wO (F_crossed [pr a b,pr c d] M) Q E=Q (.int (a*d-b*c)) M:=by
 simp![F_crossed,ZaQ]
theorem ZbH(h:M[n]?=some (.lst (prs rs)))(hi:0<=i/\i<rs.length):wO (F_following [.ref n,.int i] M) Q E=Q (pr (cy rs (i+1)).1 (cy rs (i+1)).2) M:=by
 have e:=ZaK (i:=i+1) (m:=rs.length) ⋯
 simp![F_following,ZaV,h,ZeO,Zc4]
theorem ZbI(h:i<(prs rs).length):(prs rs)[i]=pr (cy rs i).1 (cy rs i).2:=by
 have h':i<rs.length:=by rw[ZL]at h;exact h
 rw[ZaP h'];simp[prs]
theorem Nr.big(h:Nr b rs)(hb:b<=18446744073709551615)(hn:rs≠[])(i:Int):(-(18446744073709551616)<(cy rs i).1/\(cy rs i).1<18446744073709551616)/\(-(18446744073709551616)<(cy rs i).2/\(cy rs i).2<18446744073709551616):=by
 have:=Nr.cy h hn i
 omega
theorem Zfo(h:M[n]?=some (.lst (prs rs)))(hs:Smo rs)(hb:Nr 18446744073709551615 rs)(k:Q .non M):wO (F_unspanned [.ref n] M) Q E:=by
 simp![F_unspanned,ZaW];refine Zqz (λi ρ M'=>M'=M/\∃x y,ρ=[some (.ref n),x,y]) h ⟨rfl,_,_,rfl⟩ (λi ρ M' hI=>by rw[hI.1];exact h) ?_ ?_
 .rintro i ρ M' hi ⟨rfl,x,y,rfl⟩;have b1:=Nr.big hb (by decide) hs.ne i
  have o1:=hs.one i;have hi':i<rs.length:=by rw[ZL]at hi;exact hi
  rw[ZbI];simp![Zag,ZbH h,ZeR];unfold X at o1;rw[o1];simp![Zq];exact⟨_,_,rfl⟩
 .rintro ρ M' ⟨rfl,x,y,rfl⟩;simp![Zq];exact k
theorem Zck(h:M[n]?=some (.lst (prs rs)))(hs:Smo rs)(hb:Nr 18446744073709551615 rs)(k:Q .non M):wO (F_ask_smooth [.ref n] M) Q E:=by
 simp![F_ask_smooth,ZaE];refine Zfo h hs hb ?_;simp![Zq];exact k
noncomputable def tf(w m:Int)(p:Pt):Pt:=if w=0 then(p.1+m*p.2,p.2)else if w=1 then(p.1,p.2+m*p.1)else if w=2 then(0-p.2,p.1)else p
theorem Zc6(h1:X a w=p)(h2:X w b=q):in1 w a b=if 0<=p/\0<q then 1 else 0:=by unfold in1;rw[h1,h2]
theorem Zc7(h1:X a w=p)(h2:X w b=q):in2 w a b=if 0<p/\0<=q then 1 else 0:=by unfold in2;rw[h1,h2]
theorem Zwu:Fan [(1,0),(0,1),(-1,-1)]:=by
 rintro⟨x,y⟩ hw;have hw':¬(x=0/\y=0):=λz=>hw (by rw[z.1,z.2])
 have a1:X (1,0) (x,y)=y:=by simp[X]
 have a2:X (0,1) (x,y)= -x:=by simp[X]
 have a3:X (-1,-1) (x,y)=x-y:=by simp[X];lia
 have b1:X (x,y) (0,1)=x:=by simp[X]
 have b2:X (x,y) (-1,-1)=y-x:=by simp[X];lia
 have b3:X (x,y) (1,0)= -y:=by simp[X]
 simp only[cyc,mL,l9,bO,iZ,cc];rw[Zc6 a1 b1,Zc6 a2 b2,Zc6 a3 b3,Zc7 a1 b1,Zc7 a2 b2,Zc7 a3 b3];clear a1 a2 a3 b1 b2 b3 hw;constructor
 all_goals
  repeat' split
  all_goals lia
theorem Zwv(f:Int):Fan [(1,0),(0,1),(-1,f),(0,-1)]:=by
 rintro⟨x,y⟩ hw;have hw':¬(x=0/\y=0):=λz=>hw (by rw[z.1,z.2])
 have h0:x=0->x*f=0:=λz=>by rw[z,Int.zero_mul]
 have a1:X (1,0) (x,y)=y:=by simp[X]
 have a2:X (0,1) (x,y)= -x:=by simp[X]
 have a3:X (-1,f) (x,y)= -y-x*f:=by unfold X;simp only;grind
 have a4:X (0,-1) (x,y)=x:=by simp[X]
 have b1:X (x,y) (0,1)=x:=by simp[X]
 have b2:X (x,y) (-1,f)=x*f+y:=by unfold X;simp only;grind
 have b3:X (x,y) (0,-1)= -x:=by simp[X]
 have b4:X (x,y) (1,0)= -y:=by simp[X]
 simp only[cyc,mL,l9,bO,iZ,cc];rw[Zc6 a1 b1,Zc6 a2 b2,Zc6 a3 b3,Zc6 a4 b4,Zc7 a1 b1,Zc7 a2 b2,Zc7 a3 b3,Zc7 a4 b4];clear a1 a2 a3 a4 b1 b2 b3 b4 hw;generalize x*f=z at *;constructor
 all_goals
  repeat' split
  all_goals lia
theorem Zww:Smo [(1,0),(0,1),(-1,-1)]:=by
 refine⟨by decide,ZdZ (P:=λa b=>X a b=1) (by decide) ?_,Zwu⟩
 intro i h0 h1
 have:i=0\/i=1\/i=2:=by simp at h1;lia
 rcases this with rfl|rfl|rfl<;>rfl
theorem Zvd(f:Int):Smo [(1,0),(0,1),(-1,f),(0,-1)]:=by
 refine⟨by simp,ZdZ (P:=λa b=>X a b=1) (by simp) ?_,Zwv f⟩
 intro i h0 h1
 have:i=0\/i=1\/i=2\/i=3:=by simp at h1;lia
 rcases this with rfl|rfl|rfl|rfl<;>simp[X,cy]
end
end CC
namespace DL
def T(rs:List Pt)(i:Int):Int:=0-X (cy rs (i-1)) (cy rs (i+1))
end DL
namespace CC
open L2 DL
theorem ZkO(h:M[n]?=some (.lst (prs rs)))(hs:Smo rs)(hb:Nr 18446744073709551615 rs)(hk:k<rs.length)(hl:rs.length<=1000)(q:∀m M',M.length<=m->M'[m]?=some (.lst (prs (ins rs k ((cy rs k).1+(cy rs (k+1)).1,(cy rs k).2+(cy rs (k+1)).2))))->M.length<=M'.length->(∀k,k<M.length->M'[k]?=M[k]?)->Q (.ref m) M'):wO (F_put_in [.ref n,.int k] M) Q E:=by
 have hm:=Zy h;simp![F_put_in,Zd1];refine Zck h hs hb ?_;simp![F_ask_place,ZbG,h];simp![h,ZeO,ZbH h];have le:((k:Int)+1).toNat=k+1:=⋯
 simp![h,le,Zgk,Zgl];refine⟨by rw[bN];lia,by rw[bN,fA];lia,?_⟩
 refine q _ _ ⋯ ?_ (by rw[aT];lia) (λk hk=>by rw[Zc3 hk])
 rw[Zof];unfold ins;rw[<-ZiK];rfl
end CC
namespace DL
theorem Zq0(p q:Pt):X p q=0-X q p:=by unfold X;grind
noncomputable def nm(p:Pt):Int:=p.1*p.1+p.2*p.2
theorem ZiV(h1:0<=X a w)(h2:0<X w b):in1 w a b=1:=by unfold in1;rw[if_pos ⟨h1,h2⟩]
theorem XX(p:Pt):X p p=0:=by unfold X;grind
end DL
namespace CE
open L2 DL
open CC (ZaQ F_crossed ZaV F_following Zag ZaW F_unspanned ZaE F_ask_smooth)
end CE
namespace CE
open L2 DL
end CE
namespace CF
open L2 DL CC
end CF
namespace CF
open L2 DL
end CF
namespace DL
open L2 DL
end DL
namespace CB
open L2 DL
def ZbJ:Sv:=(ZD (ZK (gNm 2) (eC (.int 0))) (ZD (sIf (tv (e2 dLt (Zf 1) (Zj bLen (Zc (Zf 0) aNil)))) (ZK (gNm 2) (e2 dIx (Zf 0) (Zf 1))) sNil) (ZD (ZK (gNm 3) (e2 dMod (Zf 2) (e2 dMul (e2 dPow (eC (.int 10)) (eC (.int 60))) (e2 dPow (eC (.int 10)) (eC (.int 30)))))) (Zai (Za8 (Zc (e2 dMul (Zf 3) (Zj bInt (Zc (e2 dGe (Zf 3) (e2 dPow (eC (.int 10)) (eC (.int 18)))) aNil))) (Zc (e2 dAdd (e2 dAdd (e2 dMod (Zf 2) (eC (.int 2147483647))) (e2 dMul (eC (.int 7919)) (Zf 1))) (eC (.int 1))) aNil)))))))
def F_law_purse:W3:=fnF ZbJ 2 2
def Zb5:Sv:=(ZD (sIf (tv (e2 dGt (e2 dIx (Zf 0) (eC (.int 0))) (eC (.int 0)))) (ZD (ZK (gNm 2) (e2 dMod (e2 dIx (Zf 0) (eC (.int 0))) (Zf 1))) (ZD (ZmC (Zf 0) (eC (.int 0)) (e2 dDiv (e2 dIx (Zf 0) (eC (.int 0))) (Zf 1))) (Zai (Zf 2)))) sNil) (ZD (ZmC (Zf 0) (eC (.int 1)) (e2 dMod (e2 dAdd (e2 dMul (e2 dIx (Zf 0) (eC (.int 1))) (eC (.int 48271))) (eC (.int 12345))) (eC (.int 2147483647)))) (Zai (e2 dMod (e2 dDiv (e2 dMod (e2 dMul (e2 dIx (Zf 0) (eC (.int 1))) (eC (.int 69621))) (eC (.int 2147483629))) (eC (.int 5))) (Zf 1)))))
def F_law_take:W3:=fnF Zb5 2 1
end CB
namespace DL
noncomputable def hj(t b:Int):List Int:=if h:0<b then -((-t)/b)::hj b (-((-t)/b)*b-t)else[]
termination_by b.toNat
decreasing_by
 have h1:=dL (-t) (show b≠0 by lia)
 have h2:=cW (-t) h;have h3:=Int.emod_add_mul_ediv (-t) b;rw[mo,nB];lia
end DL
namespace CB
open L2 DL
section
variable {a:Int}{u v w:Pt}
structure Fb(u v w:Pt):Prop where
 one:X u w=1
 lo:0<=X w v
 hi:X w v<X u v
theorem Fb.uniq{w:Pt}(h:Fb u v w)(k:Fb u v w'):w=w':=by
 obtain⟨h1,a1,a2⟩:=h;obtain⟨h2,b1,b2⟩:=k;have e1:w'.1=X w' w*u.1+w.1/\w'.2=X w' w*u.2+w.2:=by unfold X at *;constructor<;>grind
 have e2:X w' v=X w' w*X u v+X w v:=by
  have:X w' v=X (X w' w*u.1+w.1,X w' w*u.2+w.2) v:=by rw[<-e1.1,<-e1.2]
  rw[this];unfold X;simp only;grind
 generalize X w' w=k at *;have k0:k=0:=by
  apply Classical.byContradiction;intro c;by_cases p:1<=k
  .have:1*X u v<=k*X u v:=fF p ⋯
   lia
  .have:k*X u v<=(-1)*X u v:=fF ⋯ ⋯
   lia
 rw[k0]at e1;apply db<;>lia
noncomputable def btw:Pt->Pt->List Int->List Pt
 |_,_,[]=>[]
 |a,r,k::ks=>r::btw r (k*r.1-a.1,k*r.2-a.2) ks
end
section
variable {a b d:Int}
theorem ZnG{ns:List Int}{k:Nat}(hk:k<1000)(q:∀a b:Int,0<=a->Q (.ref M.length) (M++[.lst [.int a,.int b]])):wO (F_law_purse [.rol (ns.map D.int),.int k] M) Q E:=by
 have big:Zp 1000000000000000000000000000000000000000000000000000000000000 1000000000000000000000000000000:=Zr 300 300 (by decide +kernel) (by decide +kernel) (by decide) (by decide)
 simp![F_law_purse,ZbJ];refine brS (λh1=>?_) (λh1=>?_)
 .have h2:k<ns.length:=by simpa using h1
  simp![ZkF h2,ZA big];obtain⟨l,hl,l0⟩:∃l:Int,ns[k]%1000000000000000000000000000000000000000000000000000000000000000000000000000000000000000000=l/\0<=l:=⟨_,rfl,⋯⟩
  rw[hl];refine q _ _ ?_
  split<;>lia
 .simp![ZA big];exact q _ _ ⋯
theorem ZY(hb:Bag n M)(ht:0<t/\t<18446744073709551616)(q:∀r M',0<=r->r<t->Gr n M M'->Q (.int r) M'):wO (F_law_take [.ref n,.int t] M) Q E:=by
 obtain⟨a,b,ha,e⟩:=hb;have hl:n<M.length:=Zy e;have hs:∀x,(M.set n x)[n]?=some x:=λx=>bf hl;have gr:∀a' b',0<=a'->Gr n M (M.set n (.lst [.int a',.int b'])):=λa' b' h=>⟨by simp,⟨a',b',h,hs _⟩,λk hk _=>by rw[aS (cu hk)]⟩
 have m1:=dL a (show t≠0 by lia)
 have m2:=cW a ht.1;simp![F_law_take,Zb5,e];refine brS (λh1=>?_) (λh1=>?_)
 .simp![e,ix0];exact q _ _ m1 m2 (gr _ _ (Int.ediv_nonneg ha ⋯))
 .simp![e,ix1];exact q _ _ (dL _ ⋯) (cW _ ht.1) (gr _ _ ha)
def Ch:List Pt->Prop
 |a::b::r=>X a b=1/\Ch (b::r)
 |_=>True
noncomputable def Tr(a b d:Pt):Prop:=∃k:Int,2<=k/\a.1+d.1=k*b.1/\a.2+d.2=k*b.2
def Cv:List Pt->Prop
 |a::b::d::r=>Tr a b d/\Cv (b::d::r)
 |_=>True
noncomputable def dt(f p:Pt):Int:=f.1*p.1+f.2*p.2
end
end CB
namespace CA
open L2 DL
structure Tn(B a b c d:Int):Prop where
 fa: -B<=a/\a<=B
 fb: -B<=b/\b<=B
 fc: -B<=c/\c<=B
 fd: -B<=d/\d<=B
 det:a*d-b*c=1\/a*d-b*c= -1
theorem ZlG(hx: -B<=x/\x<=B)(hy: -C<=y/\y<=C): -(B*C)<=x*y/\x*y<=B*C:=by
 have h:(x*y).natAbs<=(B*C).natAbs:=by
  rw[aW,aW];exact d9 ⋯ ⋯
 have:0<=B*C:=bK ⋯ ⋯
 lia
section
variable {i:Int}{rs:List Pt}
theorem ZlH(h:rs≠[])(i:Int):cy rs.reverse i=cy rs (-1-i):=by
 have hl:rs.length≠0:=by simpa using h
 have e1:cy rs.reverse i=cy rs.reverse (i%rs.length):=by
  conv=>rhs;rw[<-dO (as:=rs),Zc4]
 have e2:cy rs (-1-i)=cy rs (-1-i%rs.length):=by
  unfold cy;congr 2;rw[Int.sub_emod,Int.sub_emod (-1) (i%rs.length),ma _ (Int.dvd_refl _)]
 rw[e1,e2];obtain⟨a,b⟩:=ZaK (i:=i) hl;generalize i%(rs.length:Int)=m at *;rw[ZbF (by rw[dO];omega),<-Zqi (rs:=rs),ZbF (by omega)]
 rw[az,az,lI (by omega)]
 congr 2
 omega
theorem ZnH(hl:3<=rs.length)(h:∀i:Int,X (cy rs i) (cy rs (i+1))= -1)(hf:Fan rs.reverse):Smo rs.reverse:=by
 have ne:rs≠[]:=by intro z;rw[z]at hl;simp at hl
 refine⟨by rw[dO];exact hl,λi=>?_,hf⟩
 rw[ZlH ne,ZlH ne,Zq0]
 have:=h (-1-(i+1))
 rw[show -1-(i+1)+1= -1-i by lia]at this
 lia
theorem Gr.up{M1:Sto}(h:M[k]?=some o)(g:Gr n M M1)(hk:k≠n):M1[k]?=some o:=by
 rw[g.keep k hk (Zy h)];exact h
end
end CA
namespace CY
open L2 DL CA
end CY
namespace CY
open L2 DL
theorem Gr.of(hb:Bag n M)(l:M.length<=M'.length)(g:∀k,k<M.length->M'[k]?=M[k]?):Gr n M M':=by
 refine⟨l,?_,λk _ hk=>g k hk⟩;obtain⟨a,b,h,e⟩:=id hb;exact⟨a,b,h,(g n hb.lt).trans e⟩
end CY
namespace CR
open L2 DL
def Zb6:Sv:=(Zai (Zhy (ZmA "int" (Zf 0)) (Zhz (ZmA "bool" (Zf 0)))))
def F_is_whole:W3:=fnF Zb6 1 0
def Zal:Sv:=(Zdi 2 3 (Zc (Zf 3) (Zc (e2 dMod (Zf 2) (Zf 3)) aNil)))
def ZaF:Sv:=(ZD (Zdi 2 3 (Zc (Zj bAbs (Zc (Zf 0) aNil)) (Zc (Zj bAbs (Zc (Zf 1) aNil)) aNil))) (ZD (sWh (tv (e2 dNe (Zf 3) (eC (.int 0)))) Zal) (Zai (Zf 2))))
def F_greatest_divisor:W3:=fnF ZaF 2 2
def Zfp:Sv:=(ZD (sIf (ZgL (ZdH (tv (Zj F_is_whole (Zc (Zf 0) aNil)))) (ZdH (tv (Zj F_is_whole (Zc (Zf 1) aNil))))) (Zdw (PySem.Str.ofString "NoRatio") (Zc (eC (.str (PySem.Str.ofString "a ratio is made of two whole numbers"))) aNil)) sNil) (ZD (sIf (tv (e2 dEq (Zf 1) (eC (.int 0)))) (Zdw (PySem.Str.ofString "NoRatio") (Zc (eC (.str (PySem.Str.ofString "the bottom of a ratio is not 0"))) aNil)) sNil) (ZD (ZK (gNm 2) (Zj F_greatest_divisor (Zc (Zf 0) (Zc (Zf 1) aNil)))) (ZD (sIf (tv (e2 dLt (Zf 1) (eC (.int 0)))) (ZK (gNm 2) (Zcr (Zf 2))) sNil) (Zai (ZX (Zc (e2 dDiv (Zf 0) (Zf 2)) (Zc (e2 dDiv (Zf 1) (Zf 2)) aNil))))))))
def F_ratio:W3:=fnF Zfp 2 1
def ZlI:Sv:=(Zai (Zj F_ratio (Zc (e2 dAdd (e2 dMul (e2 dIx (Zf 0) (eC (.int 0))) (e2 dIx (Zf 1) (eC (.int 1)))) (e2 dMul (e2 dIx (Zf 1) (eC (.int 0))) (e2 dIx (Zf 0) (eC (.int 1))))) (Zc (e2 dMul (e2 dIx (Zf 0) (eC (.int 1))) (e2 dIx (Zf 1) (eC (.int 1)))) aNil))))
def ZiW:W3:=fnF ZlI 2 0
def Zfq:Sv:=(Zai (Zj F_ratio (Zc (e2 dMul (e2 dIx (Zf 0) (eC (.int 0))) (e2 dIx (Zf 1) (eC (.int 0)))) (Zc (e2 dMul (e2 dIx (Zf 0) (eC (.int 1))) (e2 dIx (Zf 1) (eC (.int 1)))) aNil))))
def F_times:W3:=fnF Zfq 2 0
def Zcl:Sv:=(Zdi 2 3 (Zc (Zf 3) (Zc (e2 dMod (Zf 2) (Zf 3)) aNil)))
def ZeS:Sv:=(ZD (Zdi 2 3 (Zc (Zj bAbs (Zc (Zf 0) aNil)) (Zc (Zf 1) aNil))) (ZD (sWh (tv (e2 dGt (Zf 3) (eC (.int 0)))) Zcl) (Zai (ZX (Zc (e2 dDiv (Zf 0) (Zf 2)) (Zc (e2 dDiv (Zf 1) (Zf 2)) aNil))))))
def F_law_low:W3:=fnF ZeS 2 2
abbrev rt(q:Rat):D:=pr q.num (q.den:Int)
noncomputable def Sz(k:Nat)(q:Rat):Prop:=q.num.natAbs<2^k/\q.den<2^k
theorem Zq1:F_greatest_divisor=FGcd:=rfl
theorem Za2(h:0<j)(hk:j.natAbs<2^k)(hk2:k<=8000):wO (dDiv (.int i) (.int j) M) Q E=Q (.int (i/j)) M:=by
 have:ZaI j:=⟨⋯,by
  have:j.natAbs.log2<k:=(Nat.log2_lt ⋯).mpr hk
  lia⟩
 show wO (if ZaI j then _ else _) Q E=_
 rw[if_pos this,jA _ ⋯];rfl
theorem ZiX(hb:b≠0):rt (bM t b hb)=pr (t/(fZ t b:Nat)) ((b:Int)/(fZ t b:Nat)):=by
 unfold rt;rw[jJ,jK,iL];rfl
theorem ZlJ{b:Nat}(hb:b≠0)(h:b<2^k):0<fZ t b/\fZ t b<2^k:=by
 have h1:fZ t b ∣ b:=Int.gcd_dvd_natAbs_right t b;have h2:=j4 ⋯ h1
 have h3:fZ t b≠0:=λz=>by
  rw[z]at h1;exact hb (Nat.eq_zero_of_zero_dvd h1)
 lia
theorem Zd2{b:Nat}(hb:b≠0)(h:b<2^k)(hk:k<=8000):wO (F_ratio [.int t,.int b] M) Q E=Q (rt (bM t b hb)) M:=by
 obtain⟨g0,g1⟩:=ZlJ (t:=t) hb h;have gw:∀{Q:W0},wO (FGcd [.int t,.int b] M) Q E=Q (.int (fZ t b:Nat)) M:=by
  intro Q;rw[Zlu];rfl
 rw[ZiX hb];generalize fZ t b=g at *;simp![F_ratio,Zfp,F_is_whole,Zb6,Zq1,gw];rw[Za2 (k:=k) ⋯ (by simpa using g1) hk]
 simp![Zq];rw[Za2 (k:=k) ⋯ (by simpa using g1) hk]
 simp![Zq]
theorem ZtU{b:Nat}(hb:b≠0)(h:b<2^k)(hk:k<=8000)(q':Q (rt (bM t b hb)) M):wO (F_law_low [.int t,.int b] M) Q E:=by
 obtain⟨g0,g1⟩:=ZlJ (t:=t) hb h;rw[ZiX hb]at q';simp![F_law_low,ZeS];refine ZnC (λj ρ M'=>M'=M/\∃a c:Nat,ρ=[some (.int t),some (.int b),some (.int a),some (.int c)]/\j=c/\i9 a c=fZ t b) ?_ b _ _ ⟨rfl,t.natAbs,b,rfl,rfl,rfl⟩;rintro j ρ M ⟨rfl,a,c,rfl,rfl,g⟩;simp![Zq];refine ZnD (λh'=>?_) (λh'=>?_)
 .simp![Zcl];have hc:0<j:=⋯
  refine⟨a%j,Nat.mod_lt a hc,j,a%j,by rw[Int.natCast_emod],rfl,?_⟩
  rw[<-g,kO j,<-Nat.gcd_rec,kO]
 .have j0:j=0:=⋯
  subst j0;rw[Nat.gcd_zero_right]at g;rw[<-g]at q' g0 g1;simp![Zq];rw[Za2 (k:=k) ⋯ (by simpa using g1) hk]
  simp![Zq];rw[Za2 (k:=k) ⋯ (by simpa using g1) hk]
  simp![Zq];exact q'
theorem Zfr(hb:b≠0)(ht:t.natAbs<2^k)(h:b<2^k):Sz k (bM t b hb):=by
 refine⟨?_,?_⟩
 .rw[jJ];exact cI (bZ _ _) ht
 .rw[jK];exact cI (hE _ _) h
theorem ZU(hx:x<2^k)(hy:y<2^l):x*y<2^(k+l):=by
 rw[jL];exact Nat.mul_lt_mul'' hx hy
theorem Zve(hp:Sz k p)(hq:Sz l q)(hk:k+l<=8000):wO (ZiW [rt p,rt q] M) Q E=Q (rt (p+q)) M:=by
 have nz:p.den*q.den≠0:=lB p.den_nz q.den_nz;have f1:Zp p.num (q.den:Int):=Zr k l hp.1 (by simpa using hq.2) ⋯ ⋯
 have f2:Zp q.num (p.den:Int):=Zr l k hq.1 (by simpa using hp.2) ⋯ ⋯
 have f3:Zp (p.den:Int) (q.den:Int):=Zr k l (by simpa using hp.2) (by simpa using hq.2) ⋯ ⋯
 simp![ZiW,ZlI,ZA f1,ZA f2,ZA f3];rw[show(p.den:Int)*(q.den:Int)=((p.den*q.den:Nat):Int)by simp,Zd2 nz (ZU hp.2 hq.2) hk,<-Rat.add_def]
theorem Zd3(hp:Sz k p)(hq:Sz l q)(hk:k+l<=8000):wO (F_times [rt p,rt q] M) Q E=Q (rt (p*q)) M:=by
 have nz:p.den*q.den≠0:=lB p.den_nz q.den_nz;have f1:Zp p.num q.num:=Zr k l hp.1 hq.1 ⋯ ⋯
 have f3:Zp (p.den:Int) (q.den:Int):=Zr k l (by simpa using hp.2) (by simpa using hq.2) ⋯ ⋯
 simp![F_times,Zfq,ZA f1,ZA f3];rw[show(p.den:Int)*(q.den:Int)=((p.den*q.den:Nat):Int)by simp,Zd2 nz (ZU hp.2 hq.2) hk,<-nN]
theorem Zcm(hp:Sz k p)(hq:Sz l q):Sz (k+l) (p*q):=by
 rw[nN];exact Zfr _ (by rw[aW];exact ZU hp.1 hq.1) (ZU hp.2 hq.2)
end CR
namespace CH
open L2 DL CA CR
end CH
namespace CH
open L2 DL
open CR (rt Sz)
def rts(hs:List Rat):List D:=hs.map rt
theorem ZH:(rts hs).length=hs.length:=af _
theorem ZM:rts hs++[rt q]=rts (hs++[q]):=by simp[rts]
end CH
namespace CS
open L2 DL CC CR
def Zfs:Sv:=(Zai (Zj F_ratio (Zc (e2 dSub (e2 dMul (e2 dIx (Zf 0) (eC (.int 0))) (e2 dIx (Zf 1) (eC (.int 1)))) (e2 dMul (e2 dIx (Zf 1) (eC (.int 0))) (e2 dIx (Zf 0) (eC (.int 1))))) (Zc (e2 dMul (e2 dIx (Zf 0) (eC (.int 1))) (e2 dIx (Zf 1) (eC (.int 1)))) aNil))))
def F_minus:W3:=fnF Zfs 2 0
def Zaw:Sv:=(ZD (ZK (gTp (gCs (gTp (gCs (gNm 2) (gCs (gNm 3) gNl))) (gCs (gTp (gCs (gNm 4) (gCs (gNm 5) gNl))) gNl))) (ZX (Zc (e2 dIx (Zf 0) (eC (.int 0))) (Zc (e2 dIx (Zf 0) (eC (.int 1))) aNil)))) (ZD (Zdi 6 7 (Zc (e2 dIx (Zf 1) (eC (.int 0))) (Zc (e2 dIx (Zf 1) (eC (.int 1))) aNil))) (Zai (ZX (Zc (Zj F_minus (Zc (Zj F_times (Zc (Zf 6) (Zc (ZX (Zc (Zf 5) (Zc (eC (.int 1)) aNil))) aNil))) (Zc (Zj F_times (Zc (Zf 7) (Zc (ZX (Zc (Zf 3) (Zc (eC (.int 1)) aNil))) aNil))) aNil))) (Zc (Zj F_minus (Zc (Zj F_times (Zc (Zf 7) (Zc (ZX (Zc (Zf 2) (Zc (eC (.int 1)) aNil))) aNil))) (Zc (Zj F_times (Zc (Zf 6) (Zc (ZX (Zc (Zf 4) (Zc (eC (.int 1)) aNil))) aNil))) aNil))) aNil))))))
def F_slope_through:W3:=fnF Zaw 2 6
def Zbg:Sv:=(sIf (tv (e2 dNe (Zj bLen (Zc (Zf 1) aNil)) (Zj bLen (Zc (Zf 0) aNil)))) (Zdw (PySem.Str.ofString "NoHeight") (Zc (eFs (ZcW (eC (.str (PySem.Str.ofString "a height of "))) (ZcW (eFm (Zj bLen (Zc (Zf 0) aNil))) (ZcW (eC (.str (PySem.Str.ofString " rays has not "))) (ZcW (eFm (Zj bLen (Zc (Zf 1) aNil))) (ZcW (eC (.str (PySem.Str.ofString " ratios"))) jNil)))))) aNil)) sNil)
def F_ask_height:W3:=fnF Zbg 2 0
end CS
namespace CS
open L2 DL
open CR (rt Sz)
theorem ZlK(z:Int):pr z 1=rt (z:Rat):=by
 unfold rt;rw[Rat.num_intCast,Rat.den_intCast];rfl
theorem ZeT{z:Int}(h:z.natAbs<2^k)(hk:1<=k):Sz k (z:Rat):=by
 refine⟨by rw[Rat.num_intCast];exact h,by rw[Rat.den_intCast];exact Nat.one_lt_two_pow ⋯⟩
theorem ZiY(hp:Sz k p)(hq:Sz l q)(hk:k+l<=8000):wO (F_minus [rt p,rt q] M) Q E=Q (rt (p-q)) M:=by
 have nz:p.den*q.den≠0:=lB p.den_nz q.den_nz;have f1:Zp p.num (q.den:Int):=Zr k l hp.1 (by simpa using hq.2) ⋯ ⋯
 have f2:Zp q.num (p.den:Int):=Zr l k hq.1 (by simpa using hp.2) ⋯ ⋯
 have f3:Zp (p.den:Int) (q.den:Int):=Zr k l (by simpa using hp.2) (by simpa using hq.2) ⋯ ⋯
 simp![F_minus,Zfs,ZA f1,ZA f2,ZA f3];rw[show(p.den:Int)*(q.den:Int)=((p.den*q.den:Nat):Int)by simp,CR.Zd2 nz (CR.ZU hp.2 hq.2) hk,<-Rat.sub_def]
theorem ZlL(hp:Sz k p)(hq:Sz l q):Sz (k+l+1) (p-q):=by
 rw[Rat.sub_def];have h1:=CR.ZU hp.1 hq.2;have h2:=CR.ZU hq.1 hp.2;have h3:=CR.ZU hp.2 hq.2;rw[kG l k]at h2;refine CR.Zfr _ ?_ ?_
 .have e1:(p.num*(q.den:Int)).natAbs=p.num.natAbs*q.den:=by rw[aW];rfl
  have e2:(q.num*(p.den:Int)).natAbs=q.num.natAbs*p.den:=by rw[aW];rfl
  have:=jM (p.num*(q.den:Int)) (q.num*(p.den:Int))
  rw[iB];lia
 .rw[iB];lia
noncomputable def slp(m:Rat×Rat)(r:Pt):Rat:=m.1*(r.1:Rat)+m.2*(r.2:Rat)
end CS
namespace CN
open L2 DL
open CC (F_following)
open CR (ZiW F_times F_law_low)
open CS (F_ask_height)
end CN
namespace CN
open L2 DL
open CR (rt Sz)
open CH (rts ZH ZM)
noncomputable def cq(hs:List Rat)(i:Int):Rat:=hs.getD (i%hs.length).toNat 0
theorem Zgn(h: -(hs.length:Int)<=i/\i<hs.length):atI (rts hs) i=some (rt (cq hs i)):=by
 unfold atI;rw[ZH,Zly h];have hp:(i%hs.length).toNat<hs.length:=by
  have:=cW i (show(0:Int)<hs.length by lia)
  have:=dL i (show(hs.length:Int)≠0 by lia)
  lia
 simp[rts,cq,aa hp]
theorem ZeU{hs:List Rat}(h:k<hs.length):cq hs k=hs[k]:=by
 unfold cq;rw[ge ⋯ ⋯]
 simp[aa h]
theorem Zcx(h:∀x∈hs,Sz k x)(hn:hs.length≠0):Sz k (cq hs i):=by
 unfold cq
 have:=(ZaK (i:=i) hn).1
 rw[az,aa this];exact h _ (cA this)
theorem Zd4(h:i<(rts hs).length):(rts hs)[i]=rt (cq hs i):=by
 rw[ZH]at h;rw[ZeU h];simp[rts]
def dot(xs ys:List Rat):Nat->Rat
 |0=>0
 |n+1=>dot xs ys n+cq xs n*cq ys n
theorem ZeV(h:M[n]?=some (.lst (prs rs)))(h':M[m]?=some (.lst (rts hs)))(e:hs.length=rs.length)(q:Q .non M):wO (CS.F_ask_height [.ref n,.ref m] M) Q E:=by
 simp![CS.F_ask_height,CS.Zbg,h,h',ZH,e];exact q
theorem ZkP(t:Int)(x:Rat):bM (t*x.num) x.den x.den_nz=(t:Rat)*x:=by
 rw[nN];simp
end CN
namespace CU
open L2 DL
open CC (F_ask_smooth)
open CS (F_ask_height F_minus F_slope_through)
open CR (F_law_low)
end CU
namespace CU
open L2 DL
open CR (rt Sz)
open CH (rts ZH ZM)
open CN CS
def thr(rs:List Pt)(hs:List Rat):Rat×Rat:=(cq hs 0*(cy rs 1).2-cq hs 1*(cy rs 0).2,cq hs 1*(cy rs 0).1-cq hs 0*(cy rs 1).1)
abbrev rp(m:Rat×Rat):D:=.tup [rt m.1,rt m.2]
theorem ZiZ(h:rt p=rt q):p=q:=by
 unfold rt pr at h;injection h with h;injection h with h1 h;injection h with h2;injection h1 with h1;injection h2 with h2;exact Rat.ext h1 ⋯
theorem ZnI:rts xs=rts ys↔xs=ys:=by
 refine⟨λh=>?_,λh=>by rw[h]⟩
 induction xs generalizing ys with
 |nil=>cases ys with
  |nil=>rfl
  |cons y ys=>simp[rts]at h
 |cons x xs ih=>
  cases ys with
  |nil=>simp[rts]at h
  |cons y ys=>
   simp only[rts,aK,gR]at h;rw[ZiZ h.1,ih h.2]
theorem Zd5:rts hs=prs (hs.map λq=>(q.num,(q.den:Int))):=by
 simp[rts,prs]
theorem Zq2{xs:List Rat}:xs.map (λq=>(q.num,(q.den:Int)))=ys.map (λq=>(q.num,(q.den:Int)))↔xs=ys:=by
 refine⟨λh=>?_,λh=>by rw[h]⟩
 rw[<-ZnI,Zd5,Zd5,h]
section
variable {rs:List Pt}
theorem ZtV(h1:M[n]?=some (.lst (rts xs)))(h2:M[m]?=some (.lst (rts ys))):eqF (k+3) M (.ref n) (.ref m)=some (decide (xs=ys)):=by
 rw[ZkJ h1 h2,Zd5,Zd5,ZiL];by_cases e:xs=ys
 .subst e;simp
 .rw[decide_eq_false e];split
  .rw[decide_eq_false (λz=>e (Zq2.mp z))]
  .rfl
theorem ZiM(h1:M[n]?=some (.lst (prs rs)))(h2:M[m]?=some (.lst (prs ss))):eqF (k+3) M (.ref n) (.ref m)=some (decide (rs=ss)):=by
 rw[ZkJ h1 h2,ZiL];by_cases e:rs=ss
 .subst e;simp
 .rw[decide_eq_false e]
  split<;>rfl
theorem Zi0(h:M[n]?=some (.lst (prs rs)))(hb:Nr B rs)(h2:2<=rs.length)(h':M[m]?=some (.lst (rts hs)))(e:2<=hs.length)(hz:∀x∈hs,Sz k x)(hk:k<=2000)(hB:B<=1000000:=by first|decide|assumption):wO (F_slope_through [.ref n,.ref m] M) Q E=Q (rp (thr rs hs)) M:=by
 have hn:rs≠[]:=by intro z;rw[z]at h2;simp at h2
 have a:=hb _ (Zav (i:=0) hn);have b:=hb _ (Zav (i:=1) hn);have z0:=Zcx (i:=0) hz ⋯
 have z1:=Zcx (i:=1) hz ⋯
 simp![F_slope_through,Zaw,h,h',ZeO,Zgn];have sz (z:Int) (hz: -B<=z/\z<=B):Sz 20 (z:Rat):=ZeT ⋯ (by decide)
 have re (z:Int):D.tup [D.int z,D.int 1]=rt (z:Rat):=ZlK z;rw[re,CR.Zd3 z0 (sz _ b.2) ⋯]
 simp![Zq];rw[re,CR.Zd3 z1 (sz _ a.2) ⋯]
 simp![Zq];rw[ZiY (CR.Zcm z0 (sz _ b.2)) (CR.Zcm z1 (sz _ a.2)) ⋯]
 simp![Zq];rw[re,CR.Zd3 z1 (sz _ a.1) ⋯]
 simp![Zq];rw[re,CR.Zd3 z0 (sz _ b.1) ⋯]
 simp![Zq];rw[ZiY (CR.Zcm z1 (sz _ a.1)) (CR.Zcm z0 (sz _ b.1)) ⋯]
 simp![Zq];rfl
end
end CU
namespace CV
open L2 DL
open CR (rt Sz)
open CH (rts ZH ZM)
open CN CU CS
noncomputable def Kp(M M':Sto):Prop:=M.length<=M'.length/\∀j<M.length,M'[j]?=M[j]?
section
variable {M M' M1 M2:Sto}{j:Nat}
theorem Kp.get(k:Kp M M')(h:M[j]?=some o):M'[j]?=some o:=(k.2 _ (Zy h)).trans h
theorem Kp.refl:Kp M M:=⟨aj _,λ_ _=>rfl⟩
theorem Kp.trans(a:Kp M M1)(b:Kp M1 M2):Kp M M2:=⟨aZ a.1 b.1,λj h=>(b.2 j (am h a.1)).trans (a.2 j h)⟩
theorem Kp.app:Kp M (M++L):=⟨by simp,λj h=>Zc3 h⟩
theorem Kp.set(a:Kp M M1)(h:M.length<=j):Kp M (M1.set j o):=⟨by rw[eJ];exact a.1,λi hi=>by rw[aS ⋯];exact a.2 i hi⟩
theorem Kp.bag(k:Kp M M')(b:Bag n M):Bag n M':=(CY.Gr.of b k.1 k.2).bag
theorem Kp.gr(k:Kp M M')(b:Bag n M):Gr n M M':=CY.Gr.of b k.1 k.2
end
theorem Zq3(h:Sz a x)(hab:a<=b):Sz b x:=⟨am h.1 (bI (by decide) hab),am h.2 (bI (by decide) hab)⟩
end CV
namespace CW
open L2 DL
open CV
end CW
namespace CB
open L2 DL
theorem mid(h1:0<X a p)(h2:0<X p b)(h:0<X a b):in1 w a b=in1 w a p+in1 w p b/\in2 w a b=in2 w a p+in2 w p b:=by
 have e:X a b*X p w=X p b*X a w-X a p*X w b:=by unfold X;grind
 have s:=ZeQ (p:=w) (q:=p);have k1:0<=X a w->0<=X p b*X a w:=λz=>bK ⋯ z
 have k2:0<X a w->0<X p b*X a w:=λz=>ii h2 z;have k3:X a w<=0->X p b*X a w<=0:=λz=>ez ⋯ z
 have k3':X a w<0->X p b*X a w<0:=λz=>gJ h2 z;have l1:0<=X w b->0<=X a p*X w b:=λz=>bK ⋯ z
 have l2:0<X w b->0<X a p*X w b:=λz=>ii h1 z;have l3:X w b<=0->X a p*X w b<=0:=λz=>ez ⋯ z
 have l3':X w b<0->X a p*X w b<0:=λz=>gJ h1 z;have m1:0<=X p w->0<=X a b*X p w:=λz=>bK ⋯ z
 have m2:0<X p w->0<X a b*X p w:=λz=>ii h z;have m3:X p w<=0->X a b*X p w<=0:=λz=>ez ⋯ z
 have m3':X p w<0->X a b*X p w<0:=λz=>gJ h z;unfold in1 in2;rw[s];generalize X a b*X p w=z at *;generalize X p b*X a w=y at *;generalize X a p*X w b=x at *;generalize X a w=aw at *;generalize X w b=wb at *;generalize X p w=pw at *;constructor
 all_goals
  repeat' split
  all_goals lia
end CB
namespace CL
open L2 DL
open CC (F_following)
end CL
namespace CL
open L2 DL
open CV CB
end CL
namespace TW
open DL
noncomputable def nx(b:Int)(p q:Pt):Pt:=(0-b*q.1-p.1,0-b*q.2-p.2)
noncomputable def ng(p:Pt):Pt:=(0-p.1,0-p.2)
def run(p q:Pt):List Int->Pt×Pt
 |[]=>(p,q)
 |b::bs=>run q (nx b p q) bs
def ew(p q:Pt):Nat:=in1 (1,0) p q+in1 (-1,0) p q
noncomputable def st(a:Pt):Int:=if 0<a.2\/(a.2=0/\a.1<0)then 1 else 0
section
variable {rs:List Pt}
def Zwx(rs:List Pt):Int->Nat->List Int
 |_,0=>[]
 |i,k+1=>T rs (i+1)::Zwx rs (i+1) k
def sf(f:Pt->Pt->Nat)(rs:List Pt):Int->Nat->Nat
 |_,0=>0
 |i,k+1=>f (cy rs i) (cy rs (i+1))+sf f rs (i+1) k
theorem ZtW(hn:rs≠[]):∀(k i:Nat),i+k=rs.length->cc f ((rs++rs.take 1).drop i)=sf f rs i k:=by
 have l0:0<rs.length:=i3.mpr hn;have ga:∀i:Nat,i<=rs.length->(rs++rs.take 1)[i]?=some (cy rs i):=by
  intro i hi;by_cases c:i<rs.length
  .rw[aB c,ZbF ⋯,ZbW ⋯,aa c]
   simp
  .have:i=rs.length:=⋯
   subst this;rw[aH (aj _),fI,<-ZeP,Int.sub_self,ZbF ⋯,ZbW ⋯]
   rw[dD (by decide),aa ⋯]
   simp
 have lch:(rs++rs.take 1).length=rs.length+1:=by simp;lia
 have dr:∀i:Nat,i<=rs.length->(rs++rs.take 1).drop i=cy rs i::(rs++rs.take 1).drop (i+1):=by
  intro i hi;rw[cN ⋯]
  have:=ga i hi
  rw[aa ⋯]at this
  rw[aM this]
 intro k
 induction k with
 |zero=>
  intro i hi;rw[dr i ⋯,dQ ⋯]
  rfl
 |succ k ih=>
  intro i hi
  have:=ih (i+1) ⋯
  rw[dr i ⋯]
  rw[dr (i+1) ⋯]at this ⊢
  rw[cc,this,sf];rfl
theorem Zgo(hn:rs≠[]):cyc f rs=sf f rs 0 rs.length:=by
 have:=ZtW (f:=f) hn rs.length 0 ⋯
 exact this
end
end TW
namespace CT
open L2 DL
open CV TW
section
variable {L:List Int}
def Cl(L:List Int):Prop:=run (1,0) (0,1) L=((1,0),(0,1))
instance (L:List Int):Decidable (Cl L):=by unfold Cl;infer_instance
end
end CT
namespace CT
open L2 DL
open CV
open TW (nx)
end CT
namespace DL
open CB (mid)
section
variable {rs:List Pt}
theorem ZkQ(hl:rs≠[])(h:cyc f rs=0)(i:Int):f (cy rs i) (cy rs (i+1))=0:=by
 have l0:rs.length≠0:=λz=>hl (List.length_eq_zero_iff.mp z);refine ZdZ (P:=λa b=>f a b=0) l0 ?_ i;intro i h0 h1;rw[TW.Zgo hl]at h
 have:∀(k:Nat)(j:Int),TW.sf f rs j k=0->∀m:Nat,m<k->f (cy rs (j+m)) (cy rs (j+m+1))=0:=by
  intro k
  induction k with
  |zero=>intro j _ m hm;lia
  |succ k ih=>
   intro j h m hm;rw[TW.sf]at h;cases m with
   |zero=>
    rw[show j+((0:Nat):Int)=j by lia]
    lia
   |succ m=>
    have:=ih (j+1) ⋯ m ⋯
    rw[show j+((m+1:Nat):Int)=j+1+m by lia]
    exact this
 have:=this rs.length 0 h i.toNat ⋯
 rw[show(0:Int)+(i.toNat:Nat)=i by lia]at this
 exact this
theorem Zft(hl:rs≠[])(h:∀i:Int,f (cy rs i) (cy rs (i+1))=0):cyc f rs=0:=by
 rw[TW.Zgo hl]
 have:∀(k:Nat)(j:Int),TW.sf f rs j k=0:=by
  intro k
  induction k with
  |zero=>intro j;rfl
  |succ k ih=>intro j;rw[TW.sf,h,ih]
 exact this _ _
def nxp(a b:Pt):Nat:=if 0<X a b then 0 else 1
theorem ZtX(h:nxp a b=0):0<X a b:=by
 unfold nxp at h
 split at h
 .assumption
 .lia
theorem Zq4(h:0<X a b):nxp a b=0:=by unfold nxp;rw[if_pos h]
structure Rn(rs:List Pt):Prop where
 len:3<=rs.length
 ps:cyc nxp rs=0
 gc:∀p∈rs,fZ p.1 p.2=1
 fan:Fan rs
theorem Rn.ne(h:Rn rs):rs≠[]:=by
 intro z
 have:=h.len
 rw[z]at this;simp at this
theorem Rn.pos(h:Rn rs)(i:Int):0<X (cy rs i) (cy rs (i+1)):=ZtX (ZkQ h.ne h.ps i)
theorem ZtY(h:X a b=1):fZ a.1 a.2=1/\fZ b.1 b.2=1:=by
 unfold X at h;constructor
 .have d1:((fZ a.1 a.2:Nat):Int) ∣ a.1*b.2-a.2*b.1:=Int.dvd_sub (kh (Int.gcd_dvd_left _ _)) (kh (Int.gcd_dvd_right _ _));rw[h]at d1;exact lL (kj.mp d1)
 .have d1:((fZ b.1 b.2:Nat):Int) ∣ a.1*b.2-a.2*b.1:=Int.dvd_sub (j5 (Int.gcd_dvd_right _ _)) (j5 (Int.gcd_dvd_left _ _));rw[h]at d1;exact lL (kj.mp d1)
theorem Zq5{p:Pt}(h:p∈rs):∃i:Int,p=cy rs i:=by
 obtain⟨L,R,rfl⟩:=List.append_of_mem h;exact⟨L.length,ZqZ.symm⟩
theorem Smo.rn(h:Smo rs):Rn rs:=by
 refine⟨h.len,Zft h.ne λi=>Zq4 (by rw[h.one i];decide),λp hp=>?_,h.fan⟩
 obtain⟨i,rfl⟩:=Zq5 hp;exact(ZtY (h.one i)).1
end
end DL
namespace DL
open TW
open CT (Cl)
section
variable {rs us:List Pt}
theorem Zq6{f:Pt->Pt->Nat}:∀(k:Nat)(j:Int)(m:Nat),m<k->f (cy rs (j+m)) (cy rs (j+m+1))<=sf f rs j k
 |0,_,_,h=>absurd h (Nat.not_lt_zero _)
 |k+1,j,0,_=>by rw[sf];simp
 |k+1,j,m+1,h=>by
  have:=Zq6 (f:=f) k (j+1) m ⋯
  rw[sf,show j+((m+1:Nat):Int)=j+1+m by lia]
  lia
theorem Zi1{f:Pt->Pt->Nat}:∀(k:Nat)(j:Int)(m l:Nat),m<l->l<k->f (cy rs (j+m)) (cy rs (j+m+1))+f (cy rs (j+l)) (cy rs (j+l+1))<=sf f rs j k
 |0,_,_,_,_,h=>absurd h (Nat.not_lt_zero _)
 |k+1,j,0,l+1,_,h=>by
  have:=Zq6 (f:=f) (rs:=rs) k (j+1) l ⋯
  rw[sf,show j+((l+1:Nat):Int)=j+1+l by lia]
  simp;lia
 |k+1,j,m+1,l+1,h1,h=>by
  have:=Zi1 (f:=f) k (j+1) m l ⋯ ⋯
  rw[sf,show j+((m+1:Nat):Int)=j+1+m by lia,show j+((l+1:Nat):Int)=j+1+l by lia]
  lia
theorem ZnJ:(aI us.length).map (λ(j:Nat)=>cy us j)=us:=by
 apply d6
 .simp
 .intro i h1 h2;simp[ZaP h2]
end
end DL
namespace CB
open DL
section
variable {u v w:Pt}
def kl:List Pt->List Int
 |a::b::d::r=>X a d::kl (b::d::r)
 |_=>[]
theorem Xvv(p:Pt):X p p=0:=by unfold X;grind
theorem ZtZ:∀(r:List Pt)(a b:Pt)(v:Pt),Ch (a::b::r)->Cv (a::b::r)->(b::r).getLast (by simp)=v->0<=X b v/\X b v<X a v
 |[],a,b,v,h,_,e=>by
  have:b=v:=e
  subst this;rw[Xvv,h.1];lia
 |c::r,a,b,v,h,k,e=>by
  have ih:=ZtZ r b c v h.2 k.2 (by rw[<-e];simp[List.getLast_cons])
  obtain⟨m,m2,e1,e2⟩:=k.1;have ex:X a v+X c v=m*X b v:=by unfold X;grind
  have:2*X b v<=m*X b v:=fF m2 ⋯
  lia
theorem ZnK(hb:0<b)(h0:0<=c)(h1:c<b)(e:t+c=k*b): -((-t)/b)=k:=by
 have: -t=c+b*(-k):=by grind
 rw[this,Int.add_mul_ediv_left _ _ ⋯,Int.ediv_eq_zero_of_lt h0 h1]
 lia
theorem only:∀(ws:List Pt)(u v w:Pt),Ch (u::(ws++[v]))->Cv (u::(ws++[v]))->Fb u v w->ws=btw u w (hj (X u v) (X w v))/\kl (u::(ws++[v]))=hj (X u v) (X w v)
 |[],u,v,w,h,k,f=>by
  have h1:X u v=1:=h.1;have l:=f.lo;have l2:=f.hi;have w0:X w v=0:=⋯
  rw[w0];unfold hj;rw[dif_neg (by decide)]
  exact⟨rfl,rfl⟩
 |x::ws,u,v,w,h,k,f=>by
  have hl:(x::(ws++[v])).getLast (by simp)=v:=by simp[List.getLast_cons]
  have d:=ZtZ (ws++[v]) u x v h k hl;have fx:Fb u v x:=⟨h.1,d.1,d.2⟩;have ew:=fx.uniq f;subst ew;obtain⟨y,R,eR⟩:∃y R,ws++[v]=y::R:=by
   cases ws with
   |nil=>exact⟨v,[],rfl⟩
   |cons y R=>exact⟨y,R++[v],rfl⟩
  have h':Ch (x::y::R):=by rw[<-eR];exact h.2
  have kk:Cv (u::x::y::R):=by rw[<-eR];exact k
  have hl2:(y::R).getLast (by simp)=v:=by
   have:(ws++[v]).getLast (by simp)=v:=by simp
   simpa [eR]using this
  have d2:=ZtZ R x y v h' kk.2 hl2;obtain⟨m,m2,e1,e2⟩:=kk.1;have ex:X u v+X y v=m*X x v:=by unfold X;grind
  have hc:=ZnK ⋯ d2.1 d2.2 ex
  have ey:(m*x.1-u.1,m*x.2-u.2)=y:=by apply db<;>simp only<;>lia
  have m3:X u y=m:=by
   have:=h.1
   rw[<-ey];unfold X at *;simp only;grind
  have fy:Fb x v y:=⟨h'.1,d2.1,d2.2⟩;have ih:=only ws x v y (by rw[eR];exact h') (by rw[eR];exact kk.2) fy
  have ej:hj (X u v) (X x v)=m::hj (X x v) (X y v):=by
   rw[hj,dif_pos ⋯,hc]
   congr 2;lia
  rw[ej];constructor
  .rw[btw,ey,<-ih.1]
  .show kl (u::x::(ws++[v]))=_;rw[eR,kl,m3,<-eR,ih.2]
end
end CB
namespace CD
open L2 DL
open CB (F_law_take)
open CC (F_ask_smooth)
open CS (F_minus)
def Zax:Sv:=(ZD (ZK (gNm 2) (e2 dIx (Zf 0) (e2 dMod (e2 dAdd (Zf 1) (eC (.int 1))) (Zj bLen (Zc (Zf 0) aNil))))) (Zai (e2 dAdd (e2 dAdd (eSl (Zf 0) oNo (oSo (e2 dAdd (Zf 1) (eC (.int 1))))) (Za8 (Zc (ZX (Zc (e2 dAdd (e2 dIx (e2 dIx (Zf 0) (Zf 1)) (eC (.int 0))) (e2 dIx (Zf 2) (eC (.int 0)))) (Zc (e2 dAdd (e2 dIx (e2 dIx (Zf 0) (Zf 1)) (eC (.int 1))) (e2 dIx (Zf 2) (eC (.int 1)))) aNil))) aNil))) (eSl (Zf 0) (oSo (e2 dAdd (Zf 1) (eC (.int 1)))) oNo))))
def F_law_short_put:W3:=fnF Zax 2 1
def ZaX:Sv:=(ZD (ZK (gNm 6) (Zj F_law_short_put (Zc (Zf 3) (Zc (Zj F_law_take (Zc (Zf 0) (Zc (Zj bLen (Zc (Zf 3) aNil)) aNil))) aNil)))) (sIf (Zcq (tv (e2 dLt (Zj bLen (Zc (Zf 3) aNil)) (Zf 4))) (tv (e2 dLt (Zj (Zcu mE) (Zc (Zao (iSq (Zf 6)) 2 [] (gTp (gCs (gNm 0) (gCs (gNm 1) gNl))) (λ_ M=>.ok true M) (Zj bMax (Zc (Zj bAbs (Zc (Zf 0) aNil)) (Zc (Zj bAbs (Zc (Zf 1) aNil)) aNil)))) aNil)) (eC (.int 8))))) (ZK (gNm 3) (Zf 6)) sNil))
def Zb7:Sv:=(ZD (ZK (gNm 2) (Zj F_law_take (Zc (Zf 0) (Zc (eC (.int 5)) aNil)))) (ZD (ZK (gNm 3) (e2 dIx (Za8 (Zc (Za8 (Zc (ZX (Zc (eC (.int 1)) (Zc (eC (.int 0)) aNil))) (Zc (ZX (Zc (eC (.int 0)) (Zc (eC (.int 1)) aNil))) (Zc (ZX (Zc (Zcr (eC (.int 1))) (Zc (Zcr (eC (.int 1))) aNil))) aNil)))) (Zc (Za8 (Zc (ZX (Zc (eC (.int 1)) (Zc (eC (.int 0)) aNil))) (Zc (ZX (Zc (eC (.int 0)) (Zc (eC (.int 1)) aNil))) (Zc (ZX (Zc (Zcr (eC (.int 1))) (Zc (e2 dSub (Zf 2) (eC (.int 1))) aNil))) (Zc (ZX (Zc (eC (.int 0)) (Zc (Zcr (eC (.int 1))) aNil))) aNil))))) aNil))) (Zj bInt (Zc (e2 dGt (Zf 2) (eC (.int 0))) aNil)))) (ZD (ZK (gNm 4) (e2 dIx (Za8 (Zc (e2 dAdd (eC (.int 3)) (Zj F_law_take (Zc (Zf 0) (Zc (e2 dSub (Zf 1) (eC (.int 2))) aNil)))) (Zc (Zf 1) aNil))) (Zj bInt (Zc (e2 dEq (Zj F_law_take (Zc (Zf 0) (Zc (eC (.int 6)) aNil))) (eC (.int 3))) aNil)))) (ZD (Zbc (gNm 5) (Zc (e2 dMul (eC (.int 4)) (Zf 1)) aNil) ZaX) (Zai (Zf 3))))))
def F_law_base:W3:=fnF Zb7 2 5
def ZaL:Sv:=(ZD (ZK (gNm 3) (e2 dIx (Za8 (Zc (e2 dSub (Zj F_law_take (Zc (Zf 0) (Zc (eC (.int 5)) aNil))) (eC (.int 2))) (Zc (e2 dSub (Zj F_law_take (Zc (Zf 0) (Zc (eC (.int 15)) aNil))) (eC (.int 7))) aNil))) (Zj bInt (Zc (e2 dEq (Zj F_law_take (Zc (Zf 0) (Zc (eC (.int 8)) aNil))) (eC (.int 5))) aNil)))) (sIf (tv (e2 dEq (Zj F_law_take (Zc (Zf 0) (Zc (eC (.int 2)) aNil))) (eC (.int 0)))) (ZK (gNm 1) (Za8 (Zc (e2 dAdd (e2 dIx (Zf 1) (eC (.int 0))) (e2 dMul (Zf 3) (e2 dIx (Zf 1) (eC (.int 2))))) (Zc (e2 dAdd (e2 dIx (Zf 1) (eC (.int 1))) (e2 dMul (Zf 3) (e2 dIx (Zf 1) (eC (.int 3))))) (Zc (e2 dIx (Zf 1) (eC (.int 2))) (Zc (e2 dIx (Zf 1) (eC (.int 3))) aNil)))))) (ZK (gNm 1) (Za8 (Zc (e2 dIx (Zf 1) (eC (.int 0))) (Zc (e2 dIx (Zf 1) (eC (.int 1))) (Zc (e2 dAdd (e2 dIx (Zf 1) (eC (.int 2))) (e2 dMul (Zf 3) (e2 dIx (Zf 1) (eC (.int 0))))) (Zc (e2 dAdd (e2 dIx (Zf 1) (eC (.int 3))) (e2 dMul (Zf 3) (e2 dIx (Zf 1) (eC (.int 1))))) aNil))))))))
def ZbK:Sv:=(ZD (ZK (gNm 1) (Za8 (Zc (eC (.int 1)) (Zc (eC (.int 0)) (Zc (eC (.int 0)) (Zc (eC (.int 1)) aNil)))))) (ZD (Zbc (gNm 2) (Zc (Zj F_law_take (Zc (Zf 0) (Zc (eC (.int 4)) aNil))) aNil) ZaL) (ZD (sIf (tv (e2 dEq (Zj F_law_take (Zc (Zf 0) (Zc (eC (.int 3)) aNil))) (eC (.int 0)))) (ZK (gNm 1) (Za8 (Zc (e2 dIx (Zf 1) (eC (.int 2))) (Zc (e2 dIx (Zf 1) (eC (.int 3))) (Zc (e2 dIx (Zf 1) (eC (.int 0))) (Zc (e2 dIx (Zf 1) (eC (.int 1))) aNil)))))) sNil) (ZD (sIf (tv (e2 dGt (Zj (Zcu mE) (Zc (Zao (iSq (Zf 1)) 1 [] (gNm 0) (λ_ M=>.ok true M) (Zj bAbs (Zc (Zf 0) aNil))) aNil)) (eC (.int 14)))) (Zai (Za8 (Zc (eC (.int 0)) (Zc (eC (.int 1)) (Zc (eC (.int 1)) (Zc (eC (.int 0)) aNil)))))) sNil) (Zai (Zf 1))))))
def F_law_table:W3:=fnF ZbK 1 3
def Zb8:Sv:=(ZD (ZK (gNm 4) (Zao (iZp (Zc (Zf 1) (Zc (Zf 2) aNil))) 3 [0] (gTp (gCs (gTp (gCs (gNm 0) (gCs (gNm 1) gNl))) (gCs (gNm 2) gNl))) (λ_ M=>.ok true M) (ZX (Zc (ZX (Zc (e2 dAdd (e2 dMul (e2 dIx (Zf 3) (eC (.int 0))) (Zf 0)) (e2 dMul (e2 dIx (Zf 3) (eC (.int 1))) (Zf 1))) (Zc (e2 dAdd (e2 dMul (e2 dIx (Zf 3) (eC (.int 2))) (Zf 0)) (e2 dMul (e2 dIx (Zf 3) (eC (.int 3))) (Zf 1))) aNil))) (Zc (Zf 2) aNil))))) (ZD (sIf (tv (e2 dLt (e2 dSub (e2 dMul (e2 dIx (Zf 0) (eC (.int 0))) (e2 dIx (Zf 0) (eC (.int 3)))) (e2 dMul (e2 dIx (Zf 0) (eC (.int 1))) (e2 dIx (Zf 0) (eC (.int 2))))) (eC (.int 0)))) (ZK (gNm 4) (Zj bLR (Zc (Zf 4) aNil))) sNil) (ZD (ZK (gNm 4) (e2 dAdd (eSl (Zf 4) (oSo (Zf 3)) oNo) (eSl (Zf 4) oNo (oSo (Zf 3))))) (Zai (ZX (Zc (Zao (iSq (Zf 4)) 2 [] (gTp (gCs (gNm 0) (gCs (gNm 1) gNl))) (λ_ M=>.ok true M) (Zf 0)) (Zc (Zao (iSq (Zf 4)) 2 [] (gTp (gCs (gNm 0) (gCs (gNm 1) gNl))) (λ_ M=>.ok true M) (Zf 1)) aNil)))))))
def F_law_spun:W3:=fnF Zb8 4 1
def Zi2:Sv:=(Zai (e2 dLt (e2 dMul (e2 dIx (Zf 0) (eC (.int 0))) (e2 dIx (Zf 1) (eC (.int 1)))) (e2 dMul (e2 dIx (Zf 1) (eC (.int 0))) (e2 dIx (Zf 0) (eC (.int 1))))))
def F_less:W3:=fnF Zi2 2 0
end CD
namespace CD
open L2 DL
open CV
open CA (Tn)
open CR (rt Sz)
open CH (rts ZH ZM)
theorem Zfu(h:M[n]?=some (.lst (prs rs)))(hb:Nr 1000 rs)(ha:at'<rs.length)(hl:rs.length<=1000)(q:∀m M',Kp M M'->M.length<=m->M'[m]?=some (.lst (prs (ins rs at' ((cy rs at').1+(cy rs (at'+1)).1,(cy rs at').2+(cy rs (at'+1)).2))))->Q (.ref m) M'):wO (F_law_short_put [.ref n,.int at'] M) Q E:=by
 have hn:=Zy h;have em:=ZaK (i:=(at':Int)+1) (m:=rs.length) ⋯
 have le:((at':Int)+1).toNat=at'+1:=⋯
 simp![F_law_short_put,Zax,h,ZeO,Zc4,le];refine⟨by rw[bN];lia,by rw[bN,fA];lia,q _ _ Kp.app ⋯ ?_⟩
 rw[Zof];simp[ins]
theorem ZlM{L:List Int}(h:L≠[]):∃mx,L.max?=some mx/\∀x∈L,x<=mx:=by
 cases e:L.max? with
 |none=>exact absurd (lM.mp e) h
 |some mx=>exact⟨mx,rfl,λx hx=>(iE.mp e).2 x hx⟩
theorem Zbh:∀{L:List Int},Zbv (nts L)=some L
 |[]=>rfl
 |x::L=>by
  have:=Zbh (L:=L)
  show(match Zbv (nts L)with|some ns=>some (x::ns)|none=>none)=_
  rw[this]
noncomputable def Bq(ss:List Pt):Prop:=(1,0)∈ss/\(0,1)∈ss/\((-1,-1)∈ss\/(0,-1)∈ss/\∃k:Int,0<=k/\k<=3/\(-1,k)∈ss)
theorem Zc8(h:x∈ss):x∈ins ss k p:=by
 unfold ins;rw[<-cC (k+1) ss]at h;rcases be.mp h with h|h
 .exact gk _ h
 .exact aX _ (aF _ h)
theorem Bq.ins{ss:List Pt}{k:Nat}{p:Pt}(b:Bq ss):Bq (ins ss k p):=⟨Zc8 b.1,Zc8 b.2.1,b.2.2.imp Zc8 λ⟨h,k,a,c,d⟩=>⟨Zc8 h,k,a,c,Zc8 d⟩⟩
theorem Zt0{M1:Sto}(f0:0<=f)(f1:f<5):∃p ss,atI [D.ref M1.length,D.ref (M1.length+1)] (if decide (0<f)=true then 1 else 0)=some (.ref p)/\(Smo ss/\Bq ss)/\Nr 7 ss/\ss.length<=4/\(M1++[SO.lst [D.tup [D.int 1,D.int 0],D.tup [D.int 0,D.int 1],D.tup [D.int (-1),D.int (-1)]],SO.lst [D.tup [D.int 1,D.int 0],D.tup [D.int 0,D.int 1],D.tup [D.int (-1),D.int (f-1)],D.tup [D.int 0,D.int (-1)]],SO.lst [D.ref M1.length,D.ref (M1.length+1)]])[p]?=some (.lst (prs ss))/\M1.length<=p:=by
  by_cases z:0<f
  .refine⟨M1.length+1,[(1,0),(0,1),(-1,f-1),(0,-1)],by rw[if_pos (decide_eq_true z)];rfl,⟨CC.Zvd (f-1),by simp,by simp,.inr ⟨by simp,f-1,⋯,⋯,by simp⟩⟩,?_,by simp,by rw[Zof];rfl,⋯⟩
   intro x hx;simp at hx;rcases hx with rfl|rfl|rfl|rfl<;>simp<;>lia
  .refine⟨M1.length,[(1,0),(0,1),(-1,-1)],by rw[if_neg (by simpa using z)];rfl,⟨CC.Zww,by simp,by simp,.inl (by simp)⟩,?_,by simp,by rw[ZiJ];rfl,⋯⟩
   intro x hx;simp at hx;rcases hx with rfl|rfl|rfl<;>simp
theorem Zq7{most:Int}(hm:4<=most/\most<=100)(hb:Bag n M)(q:∀ss m M',Smo ss/\Bq ss->Nr 7 ss->ss.length<=most->M.length<=m->M'[m]?=some (.lst (prs ss))->Gr n M M'->Q (.ref m) M'):wO (F_law_base [.ref n,.int most] M) Q E:=by
 have hn:=hb.lt;simp![F_law_base,Zb7];refine CB.ZY hb (by decide) λf M1 f0 f1 g1=>?_
 have hn1:=g1.bag.lt;have B1:=g1.bag;simp![Zq];obtain⟨p,ss,hp,s1,s2,s3,s4,s5⟩:=Zt0 (M1:=M1) f0 f1;have B2:=B1.app [SO.lst [D.tup [D.int 1,D.int 0],D.tup [D.int 0,D.int 1],D.tup [D.int (-1),D.int (-1)]],SO.lst [D.tup [D.int 1,D.int 0],D.tup [D.int 0,D.int 1],D.tup [D.int (-1),D.int (f-1)],D.tup [D.int 0,D.int (-1)]],SO.lst [D.ref M1.length,D.ref (M1.length+1)]];have G2:Gr n M1 (M1++[SO.lst [D.tup [D.int 1,D.int 0],D.tup [D.int 0,D.int 1],D.tup [D.int (-1),D.int (-1)]],SO.lst [D.tup [D.int 1,D.int 0],D.tup [D.int 0,D.int 1],D.tup [D.int (-1),D.int (f-1)],D.tup [D.int 0,D.int (-1)]],SO.lst [D.ref M1.length,D.ref (M1.length+1)]]):=Gr.app B1 _;generalize M1++[SO.lst [D.tup [D.int 1,D.int 0],D.tup [D.int 0,D.int 1],D.tup [D.int (-1),D.int (-1)]],SO.lst [D.tup [D.int 1,D.int 0],D.tup [D.int 0,D.int 1],D.tup [D.int (-1),D.int (f-1)],D.tup [D.int 0,D.int (-1)]],SO.lst [D.ref M1.length,D.ref (M1.length+1)]]=M2 at *;have gl1:=g1.len;simp![hp];refine CB.ZY B2 ⋯ λt1 M3 t10 t11 g3=>?_
 simp![Zq];refine CB.ZY (g3.bag.app _) (by decide) λt2 M4 t20 t21 g4=>?_
 have k4:=Gr.new g3.bag g4;have r4:=CA.Gr.up (CA.Gr.up s4 g3 ⋯) ((Gr.app g3.bag _).trans g4) ⋯
 have G4:=((g1.trans G2).trans g3).trans ((Gr.app g3.bag _).trans g4);obtain⟨many,hmany,m0⟩:∃many:Int,atI [D.int (3+t1),D.int most] (if decide (t2=3)=true then 1 else 0)=some (.int many)/\many<=most:=by
  by_cases z:t2=3
  .exact⟨most,by rw[if_pos (decide_eq_true z)];rfl,⋯⟩
  .exact⟨3+t1,by rw[if_neg (by simpa using z)];rfl,⋯⟩
 simp![k4,hmany];clear k4 hmany hp;refine Zby (λi ρ M'=>∃ss p x5 x6,ρ=[some (.ref n),some (.int most),some (.int f),some (.ref p),some (.int many),x5,x6]/\(Smo ss/\Bq ss)/\Nr 7 ss/\ss.length<=most/\M.length<=p/\M'[p]?=some (.lst (prs ss))/\Gr n M M') ⟨ss,p,_,_,rfl,s1,s2,⋯,⋯,r4,G4⟩ ?_ ?_
 .rintro i ρ M5 hi ⟨ss,p,x5,x6,rfl,s1,s2,s3,s4,s5,G⟩;have sl:=s1.1.len;simp![ZaX,s5];refine CB.ZY G.bag ⋯ λt M6 t0 t1 g6=>?_
  have s6:=CA.Gr.up s5 g6 ⋯
  have G6:=G.trans g6;obtain⟨at',rfl⟩:∃k:Nat,t=k:=⟨t.toNat,⋯⟩
  simp![Zq];refine Zfu s6 (λx hx=>by have:=s2 x hx;lia) ⋯ ⋯ λm M7 K7 m7 r7=>?_
  have s7:=K7.get s6;have G7:=G6.trans (K7.gr G6.bag);have l7:=Zy s7;have sn:Smo (ins ss at' ((cy ss at').1+(cy ss (at'+1)).1,(cy ss at').2+(cy ss (at'+1)).2))/\Bq (ins ss at' ((cy ss at').1+(cy ss (at'+1)).1,(cy ss at').2+(cy ss (at'+1)).2)):=⟨s1.1.ins (k:=at') ⋯,s1.2.ins⟩
  have ln:=ZdY (rs:=ss) (k:=at') (p:=((cy ss at').1+(cy ss (at'+1)).1,(cy ss at').2+(cy ss (at'+1)).2)) ⋯
  generalize ins ss at' ((cy ss at').1+(cy ss (at'+1)).1,(cy ss at').2+(cy ss (at'+1)).2)=ns at *;simp![s7];refine Zwc (λb M'=>Kp M7 M'/\(b=true->(ss.length:Int)<many/\Nr 7 ns)) ?_ ?_
  .refine brO (λz=>?_) (λz=>?_)
   .simp![Zq];refine ZkM (λρ=>∃x y,ρ=[x,y]) (λ(i:Nat)=>D.int (max (cy ns i).1.natAbs (cy ns i).2.natAbs:Int)) r7 (by rw[ZL];lia) ⟨_,_,rfl⟩ ?_ ?_
    .rintro i hi ρ L ⟨x,y,rfl⟩;rw[CC.ZbI];simp![Zq];exact⟨_,_,rfl⟩
    have ne:ns≠[]:=λz=>by rw[z]at ln;simp at ln
    rw[ZL,Znz];obtain⟨mx,hmx,hle⟩:=ZlM (L:=(aI ns.length).map λ(i:Nat)=>(max (cy ns i).1.natAbs (cy ns i).2.natAbs:Int)) (λz=>by
     have:=congrArg nI z
     rw[af,ix,ln]at this;simp at this)
    simp![Zbh,hmx];refine⟨Kp.app,λu=>⟨z,λx hx=>?_⟩⟩;obtain⟨i,hi,rfl⟩:=bF hx
    have:=hle _ (aV.mpr ⟨i,bH.mpr hi,rfl⟩)
    simp only[ZaP hi]at this
    have:=of_decide_eq_true u
    lia
   .simp![Zq];exact⟨Kp.refl,λu=>by cases u⟩
  rintro b M8 ⟨K8,hb8⟩;simp![Zq];refine ZuC (λz=>?_) (λz=>?_)
  .obtain⟨h1,h2⟩:=hb8 z;simp![Zq];exact⟨ns,m,_,_,rfl,sn,h2,⋯,by have:=G6.len;lia,K8.get r7,G7.trans (K8.gr G7.bag)⟩
  .simp![Zq];exact⟨ss,p,_,_,rfl,s1,s2,s3,s4,K8.get s7,G7.trans (K8.gr G7.bag)⟩
 .rintro ρ M5 ⟨ss,p,x5,x6,rfl,s1,s2,s3,s4,s5,G⟩;simp![Zq];exact q ss p M5 s1 s2 s3 s4 s5 G
noncomputable abbrev tb(a b c d:Int):SO:=.lst [.int a,.int b,.int c,.int d]
theorem Zq8(t:Tn B a b c d)(hm: -7<=mm/\mm<=7):Tn (8*B) (a+mm*c) (b+mm*d) c d/\Tn (8*B) a b (c+mm*a) (d+mm*b):=by
 obtain⟨ta,tb',tc,td,te⟩:=t;have m1:=CA.ZlG (B:=7) hm ta;have m2:=CA.ZlG (B:=7) hm tb';have m3:=CA.ZlG (B:=7) hm tc;have m4:=CA.ZlG (B:=7) hm td;have d1:(a+mm*c)*d-(b+mm*d)*c=a*d-b*c:=by grind
 have d2:a*(d+mm*b)-b*(c+mm*a)=a*d-b*c:=by grind
 exact⟨⟨⋯,⋯,⋯,⋯,by rw[d1];exact te⟩,⟨⋯,⋯,⋯,⋯,by rw[d2];exact te⟩⟩
theorem Zi3(hb:Bag n M)(q:∀a b c d p M',Tn 14 a b c d->M.length<=p->M'[p]?=some (tb a b c d)->Gr n M M'->Q (.ref p) M'):wO (F_law_table [.ref n] M) Q E:=by
 have hn:=hb.lt;simp![F_law_table,ZbK];have B1:=hb.app [tb 1 0 0 1];have G1:Gr n M (M++[tb 1 0 0 1]):=Gr.app hb _;have r1:(M++[tb 1 0 0 1])[M.length]?=some (tb 1 0 0 1):=by simp
 refine CB.ZY B1 (by decide) λr M1 r0 r1' g1=>?_
 have G2:=G1.trans g1;have r2:=CA.Gr.up r1 g1 ⋯
 simp![Zq];refine Zby (λi ρ M'=>∃a b c d p x2 x3,ρ=[some (.ref n),some (.ref p),x2,x3]/\Tn (8^i) a b c d/\M.length<=p/\M'[p]?=some (tb a b c d)/\Gr n M M') ⟨1,0,0,1,_,_,_,rfl,⟨by decide,by decide,by decide,by decide,.inl (by decide)⟩,⋯,r2,G2⟩ ?_ ?_
 .rintro i ρ M2 hi ⟨a,b,c,d,p,x2,x3,rfl,tn,pl,v1,G⟩;simp![ZaL];refine CB.ZY G.bag (by decide) λs M3 s0 s1 g3=>?_
  simp![Zq];refine CB.ZY g3.bag (by decide) λs' M4 s0' s1' g4=>?_
  simp![Zq];refine CB.ZY (g4.bag.app _) (by decide) λt M5 t0 t1 g5=>?_
  have k5:=Gr.new g4.bag g5;obtain⟨mm,hmm,m0⟩:∃mm:Int,atI [D.int (s-2),D.int (s'-7)] (if decide (t=5)=true then 1 else 0)=some (.int mm)/\(-7<=mm/\mm<=7):=by
   by_cases z:t=5
   .exact⟨s'-7,by rw[if_pos (decide_eq_true z)];rfl,⋯⟩
   .exact⟨s-2,by rw[if_neg (by simpa using z)];rfl,⋯⟩
  simp![k5,hmm];refine CB.ZY g5.bag (by decide) λt' M6 t0' t1' g6=>?_
  have G6:=(((G.trans g3).trans g4).trans ((Gr.app g4.bag _).trans g5)).trans g6;have v6:=CA.Gr.up (CA.Gr.up (CA.Gr.up (CA.Gr.up v1 g3 ⋯) g4 ⋯) ((Gr.app g4.bag _).trans g5) ⋯) g6 ⋯
  have hp:=Zy v6;have gl:=G6.len;have p8:(8:Int)^(i+1)=8*8^i:=by rw[Int.pow_succ,nB]
  have ta:=Zq8 tn m0;rw[<-p8]at ta;have fc:=tn.fa;have fb:=tn.fb;have fcc:=tn.fc;have fd:=tn.fd;simp![Zq];refine brS (λz=>?_) (λz=>?_)
  .simp![v6];exact⟨a+mm*c,b+mm*d,c,d,_,_,_,rfl,ta.1,gl,by simp,G6.app2 _⟩
  .simp![v6];exact⟨a,b,c+mm*a,d+mm*b,_,_,_,rfl,ta.2,gl,by simp,G6.app2 _⟩
 .rintro ρ M2 ⟨a,b,c,d,p,x2,x3,rfl,tn,pl,v1,G⟩;simp![Zq];refine CB.ZY G.bag (by decide) λs M3 s0 s1 g3=>?_
  have v3:=CA.Gr.up v1 g3 (by have:=hb.lt;lia)
  have hp:=Zy v3;simp![Zq];refine Ztq (λρ M'=>∃a b c d p,ρ=[some (.ref n),some (.ref p),x2,x3]/\(a*d-b*c=1\/a*d-b*c= -1)/\M.length<=p/\M'[p]?=some (tb a b c d)/\Gr n M M') ?_ ?_
  .refine brS (λz=>?_) (λz=>?_)
   .have dt:c*b-d*a=1\/c*b-d*a= -1:=by
     rcases tn.det with e|e
     .right;grind
     .left;grind
    simp![v3];exact⟨c,d,a,b,_,rfl,dt,by have:=(G.trans g3).len;lia,by simp,(G.trans g3).app2 _⟩
   .simp![Zq];exact⟨a,b,c,d,p,rfl,tn.det,pl,v3,G.trans g3⟩
  .rintro _ M4 ⟨a,b,c,d,p,rfl,t4,l4,v4,G4⟩;have hp4:=Zy v4;simp![Zq];refine ZkM (λρ=>∃x,ρ=[x]) (λ(i:Nat)=>D.int (([a,b,c,d].getD i 0).natAbs:Int)) v4 (by simp) ⟨_,rfl⟩ ?_ ?_
   .rintro i hi ρ L ⟨x,rfl⟩
    have:i=0\/i=1\/i=2\/i=3:=by simp at hi;lia
    rcases this with rfl|rfl|rfl|rfl<;>simp only[kP,kR,List.getD_cons_zero,List.getD_cons_succ]<;>simp![Zq]<;>exact⟨_,rfl⟩
   have mp:((aI [D.int a,D.int b,D.int c,D.int d].length).map λ(i:Nat)=>D.int (([a,b,c,d].getD i 0).natAbs:Int))=nts [(a.natAbs:Int),b.natAbs,c.natAbs,d.natAbs]:=rfl;rw[mp];obtain⟨mx,hmx,hle⟩:=ZlM (L:=[(a.natAbs:Int),b.natAbs,c.natAbs,d.natAbs]) (by simp)
   have h1:=hle a.natAbs (by simp)
   have h2:=hle b.natAbs (by simp)
   have h3:=hle c.natAbs (by simp)
   have h4:=hle d.natAbs (by simp)
   have K5:Kp M4 (M4++[SO.lst (nts [(a.natAbs:Int),b.natAbs,c.natAbs,d.natAbs])]):=Kp.app;have id:=Zbh (L:=[(a.natAbs:Int),b.natAbs,c.natAbs,d.natAbs]);generalize [(a.natAbs:Int),b.natAbs,c.natAbs,d.natAbs]=L4 at *;simp![id,hmx];generalize M4++[SO.lst (nts L4)]=M5 at *;have G5:=G4.trans (K5.gr G4.bag);refine brS (λz=>?_) (λz=>?_)
   .simp![Zq];exact q 0 1 1 0 _ _ ⟨by decide,by decide,by decide,by decide,.inr (by decide)⟩ (by have:=G5.len;lia) (by simp) (G5.app2 _)
   .simp![Zq];exact q a b c d p M5 ⟨⋯,⋯,⋯,⋯,t4⟩ l4 (K5.get v4) G5
noncomputable def gg(a b c d:Int)(p:Pt):Pt:=(a*p.1+b*p.2,c*p.1+d*p.2)
theorem Zt1(u v:Pt):X (gg a b c d u) (gg a b c d v)=(a*d-b*c)*X u v:=by unfold X gg;simp only;grind
noncomputable def sg{α:Type}(neg:Bool)(k:Nat)(L:List α):List α:=(if neg then L.reverse else L).drop k++(if neg then L.reverse else L).take k
theorem Zcn{L:List α}:(sg neg k L).length=L.length:=by
 unfold sg;rw[aT,fA,bN];cases neg<;>simp<;>lia
def zp(us:List Pt)(xs:List D):List D:=cf (λu x=>D.tup [pr u.1 u.2,x]) us xs
theorem Zi4(h:xs.length=us.length):(zp us xs).length=us.length:=by unfold zp;simp[h]
theorem Zi5(h:i<(zp us xs).length)(h1:i<us.length)(h2:i<xs.length):(zp us xs)[i]=D.tup [pr us[i].1 us[i].2,xs[i]]:=gA
theorem Zq9(h:xs.length=us.length):(zp us xs).reverse=zp us.reverse xs.reverse:=by
 unfold zp;rw[mq h.symm]
theorem Zra(h:xs.length=us.length):(zp us xs).drop k++(zp us xs).take k=zp (us.drop k++us.take k) (xs.drop k++xs.take k):=by
 unfold zp;rw[List.zipWith_append (by simp[h]),List.drop_zipWith,List.take_zipWith]
theorem ZlN(hs:Smo rs)(hk:k<=rs.length)(hd:a*d-b*c=1\/a*d-b*c= -1):Smo (sg (decide (a*d-b*c<0)) k (rs.map (gg a b c d))):=by
 unfold sg;have ml:(rs.map (gg a b c d)).length=rs.length:=af _;rcases hd with hd|hd
 .rw[hd,if_neg (by decide)]
  exact(hs.map (f:=gg a b c d) λp q=>by rw[Zt1,hd,mh]).rot (by rw[ml];exact hk)
 .rw[hd,if_pos (by decide)]
  refine Smo.rot (CA.ZnH (by rw[ml];exact hs.len) (λi=>?_) ?_) (by rw[dO,ml];exact hk)
  .rw[Zgm hs.ne,Zgm hs.ne,Zt1,hd,hs.one];rfl
  .exact hs.fan.flip (f:=gg a b c d) λp q=>by rw[Zt1,hd]
theorem Zrb(hr:Nr 7 rs)(t:Tn 14 a b c d):Nr 200 (sg neg k (rs.map (gg a b c d))):=by
 intro p hp
 have:p∈rs.map (gg a b c d):=by
  unfold sg at hp;cases neg
  .simp only[bz,if_false,be]at hp;rcases hp with hp|hp
   .exact iV hp
   .exact gB hp
  .simp only[if_true,be]at hp;rcases hp with hp|hp
   .exact iK.mp (iV hp)
   .exact iK.mp (gB hp)
 obtain⟨x,hx,rfl⟩:=aV.mp this;have h:=hr x hx;have m1:=CA.ZlG t.fa h.1;have m2:=CA.ZlG t.fb h.2;have m3:=CA.ZlG t.fc h.1;have m4:=CA.ZlG t.fd h.2;unfold gg;simp only
 omega
theorem ZlO{st:Int}(h:M[n]?=some (.lst (prs rs)))(hx:M[m]?=some (.lst xs))(lx:xs.length=rs.length)(ht:M[p]?=some (tb a b c d))(t:Tn 14 a b c d)(hr:Nr 1000000 rs)(hl:rs.length<=1000)(hst:0<=st/\st<=rs.length)(q:∀o1 o2 M',Kp M M'->M.length<=o1->M.length<=o2->o1≠o2->M'[o1]?=some (.lst (prs (sg (decide (a*d-b*c<0)) st.toNat (rs.map (gg a b c d)))))->M'[o2]?=some (.lst (sg (decide (a*d-b*c<0)) st.toNat xs))->Q (.tup [.ref o1,.ref o2]) M'):wO (F_law_spun [.ref p,.ref n,.ref m,.int st] M) Q E:=by
 have hn:=Zy h;have hm:=Zy hx;have hp:=Zy ht;obtain⟨ta,tb',tc,td,te⟩:=t;have zl:(cf (λa b=>D.tup [a,b]) (prs rs) xs).length=rs.length:=by simp[ZL,lx]
 simp![F_law_spun,Zb8];refine ZqW (xs:=cf (λa b=>D.tup [a,b]) (prs rs) xs) (λρ=>∃x y z,ρ=[x,y,z,some (.ref p)]) (λ(i:Nat)=>D.tup [pr (gg a b c d (cy rs i)).1 (gg a b c d (cy rs i)).2,xs.getD i .non]) ⋯ (by rw[Zfn h,zl,ZL];lia) ⟨_,_,_,rfl⟩ (λL i hi=>?_) ?_ ?_
 .rw[ZiP (by rw[Zc3 hn];exact h) (by rw[Zc3 hm];exact hx)]
 .rintro i hi ρ L ⟨x,y,z,rfl⟩;rw[zl]at hi;have hp':(M++L)[p]?=some (tb a b c d):=by rw[Zc3 hp];exact ht
  rw[gA,CC.ZbI];simp![hp'];refine⟨⟨_,_,_,rfl⟩,?_⟩;rw[az,aa ⋯]
  rfl
 have en:((aI (cf (λa b=>D.tup [a,b]) (prs rs) xs).length).map λ(i:Nat)=>D.tup [pr (gg a b c d (cy rs i)).1 (gg a b c d (cy rs i)).2,xs.getD i .non])=zp (rs.map (gg a b c d)) xs:=by
  rw[zl];apply d6
  .rw[Zi4 (by rw[af,lx])];simp
  .intro i h1 h2;simp at h1;rw[fE,List.getElem_range,Zi5 h2 (by simp;lia) ⋯,fE,ZaP h1,az,aa ⋯]
   rfl
 rw[en];have K1:Kp M (M++[SO.lst (zp (rs.map (gg a b c d)) xs)]):=Kp.app;have r1:(M++[SO.lst (zp (rs.map (gg a b c d)) xs)])[M.length]?=some (.lst (zp (rs.map (gg a b c d)) xs)):=by simp
 generalize M++[SO.lst (zp (rs.map (gg a b c d)) xs)]=M1 at *;have ht1:=K1.get ht;have hl1:=Zy r1;have hp1:=Zy ht1;generalize hus:rs.map (gg a b c d)=us at *;have lu:xs.length=us.length:=by rw[<-hus,af,lx]
 have lur:us.length=rs.length:=⋯
 clear en zl;simp![ht1];refine Ztq (λρ M'=>∃o us' xs',ρ=[some (.ref p),some (.ref n),some (.ref m),some (.int st),some (.ref o)]/\Kp M M'/\M'[o]?=some (.lst (zp us' xs'))/\us'=(if decide (a*d-b*c<0)then us.reverse else us)/\xs'=(if decide (a*d-b*c<0)then xs.reverse else xs)) ?_ ?_
 .refine brS (λz=>?_) (λz=>?_)
  .simp![ZtM,r1];refine⟨_,us.reverse,xs.reverse,rfl,K1.trans Kp.app,by rw[ZiJ,Zq9 lu];rfl,by simp,by simp⟩
  .simp![Zq];exact⟨_,us,xs,rfl,K1,r1,by simp,by simp⟩
 .rintro _ M2 ⟨o,us',xs',rfl,K2,r2,e1,e2⟩;have l2:=Zy r2;have lu':xs'.length=us'.length:=by
   rw[e1,e2]
   split<;>simp[lu]
  have lur':us'.length=rs.length:=by
   rw[e1]
   split<;>simp[lur]
  have lz:=Zi4 lu';simp![r2];refine⟨by rw[bN,fA];lia,?_⟩
  rw[Zra lu'];have g1:sg (decide (a*d-b*c<0)) st.toNat us=us'.drop st.toNat++us'.take st.toNat:=by rw[e1];rfl
  have g2:sg (decide (a*d-b*c<0)) st.toNat xs=xs'.drop st.toNat++xs'.take st.toNat:=by rw[e2];rfl
  rw[<-g1,<-g2];have lg1:(sg (decide (a*d-b*c<0)) st.toNat us).length=rs.length:=by rw[Zcn,lur]
  have lg2:(sg (decide (a*d-b*c<0)) st.toNat xs).length=rs.length:=by rw[Zcn,lx]
  generalize sg (decide (a*d-b*c<0)) st.toNat us=vs at *;generalize sg (decide (a*d-b*c<0)) st.toNat xs=ys at *;generalize hM3:M2++[SO.lst ((zp us' xs').drop st.toNat),SO.lst ((zp us' xs').take st.toNat),SO.lst (zp vs ys)]=M3;have K3:Kp M M3:=by rw[<-hM3];exact K2.trans Kp.app
  have r3:M3[M2.length+2]?=some (.lst (zp vs ys)):=by rw[<-hM3,Zof];rfl
  have l3:M3.length=M2.length+3:=by rw[<-hM3];simp
  have lz3:=Zi4 (us:=vs) (xs:=ys) ⋯
  have kl:=K2.1;refine ZkM (λρ=>∃x y,ρ=[x,y]) (λ(i:Nat)=>pr (cy vs i).1 (cy vs i).2) r3 ⋯ ⟨_,_,rfl⟩ ?_ ?_
  .rintro i hi ρ L ⟨x,y,rfl⟩;have hi':i<vs.length:=⋯
   have e:(zp vs ys)[i]=D.tup [pr vs[i].1 vs[i].2,ys[i]'⋯]:=Zi5 _ _ _
   rw[e,ZaP hi'];simp![Zq];exact⟨_,_,rfl⟩
  have en:((aI (zp vs ys).length).map λ(i:Nat)=>pr (cy vs i).1 (cy vs i).2)=prs vs:=by
   rw[lz3]
   conv=>rhs;rw[<-ZnJ (us:=vs)]
   unfold prs;rw[bX];rfl
  rw[en];have K4:Kp M3 (M3++[SO.lst (prs vs)]):=Kp.app;have r4:(M3++[SO.lst (prs vs)])[M3.length]?=some (.lst (prs vs)):=by simp
  generalize M3++[SO.lst (prs vs)]=M4 at *;have r34:=K4.get r3;have l4:=Zy r4;simp![Zq];refine ZkM (λρ=>∃x y,ρ=[x,y]) (λ(i:Nat)=>ys.getD i .non) r34 ⋯ ⟨_,_,rfl⟩ ?_ ?_
  .rintro i hi ρ L ⟨x,y,rfl⟩;have hi':i<vs.length:=⋯
   have e:(zp vs ys)[i]=D.tup [pr vs[i].1 vs[i].2,ys[i]'⋯]:=Zi5 _ _ _
   rw[e,az,aa ⋯]
   simp![Zq];exact⟨⟨_,_,rfl⟩,rfl⟩
  have en2:((aI (zp vs ys).length).map λ(i:Nat)=>ys.getD i .non)=ys:=by
   rw[lz3];apply d6
   .simp;lia
   .intro i h1 h2;simp[aa h2]
  rw[en2];simp![Zq];exact q _ _ _ ((K3.trans K4).trans Kp.app) ⋯ ⋯ ⋯ (by rw[Zc3 l4];exact r4) (by simp)
theorem Zrc{st:Int}(h:M[n]?=some (.lst (prs rs)))(hx:M[m]?=some (.lst xs))(lx:xs.length=rs.length)(ht:M[p]?=some (tb a b c d))(t:Tn 14 a b c d)(hr:Nr 7 rs)(hl:rs.length<=1000)(hst:0<=st/\st<=rs.length)(q:∀o1 o2 M',Kp M M'->M.length<=o1->M.length<=o2->o1≠o2->M'[o1]?=some (.lst (prs (sg (decide (a*d-b*c<0)) st.toNat (rs.map (gg a b c d)))))->M'[o2]?=some (.lst (sg (decide (a*d-b*c<0)) st.toNat xs))->Q (.tup [.ref o1,.ref o2]) M'):wO (F_law_spun [.ref p,.ref n,.ref m,.int st] M) Q E:=ZlO h hx lx ht t (λx hx=>by have:=hr x hx;lia) hl hst q
end CD
namespace CD
open L2 DL
open CV CN CU CS
open CR (rt Sz)
open CH (rts ZH ZM)
def pts(ms:List (Rat×Rat)):List D:=ms.map λm=>D.tup [rt m.1,rt m.2]
theorem ZT:(pts ms).length=ms.length:=af _
theorem ZaM(h:i<(pts ms).length):(pts ms)[i]=D.tup [rt (ms[i]'(by rw[ZT]at h;exact h)).1,rt (ms[i]'(by rw[ZT]at h;exact h)).2]:=by simp[pts]
end CD
namespace Rb
open L2 DL
open CN (cq)
open CS (slp)
abbrev RP:=Rat×Rat
def Win(rs:List Pt)(hs:List Rat)(p:RP):Prop:=∀i:Nat,i<rs.length-> -(cq hs i)<=slp p (cy rs i)
def On(rs:List Pt)(hs:List Rat)(p:RP)(i:Nat):Prop:=i<rs.length/\slp p (cy rs i)= -(cq hs i)
def Cor(rs:List Pt)(hs:List Rat)(p:RP):Prop:=Win rs hs p/\∃i j,On rs hs p i/\On rs hs p j/\X (cy rs i) (cy rs j)≠0
theorem Za3(u v:Pt):((X u v:Int):Rat)=(u.1:Rat)*v.2-u.2*v.1:=by
 unfold X;rw[lC,aN,aN]
theorem Zbi(h:X r b=1):slp p o=(X o b:Rat)*slp p r+(X r o:Rat)*slp p b:=by
 have e:(r.1:Rat)*b.2-r.2*b.1=1:=by rw[<-Za3,h];rfl
 rw[Za3,Za3];unfold slp;generalize (r.1:Rat)=r1 at *;generalize (r.2:Rat)=r2 at *;generalize (b.1:Rat)=b1 at *;generalize (b.2:Rat)=b2 at *;generalize (o.1:Rat)=o1 at *;generalize (o.2:Rat)=o2 at *;generalize p.1=p1 at *;generalize p.2=p2 at *;grind
noncomputable def ptE(r b:Pt)(h t:Rat):RP:=((-h)*b.2-t*r.2,t*r.1-(-h)*b.1)
theorem ZnL(e:X r b=1):slp (ptE r b h t) r= -h:=by
 have e:(r.1:Rat)*b.2-r.2*b.1=1:=by rw[<-Za3,e];rfl
 unfold slp ptE;simp only;grind
theorem Zrd(e:X r b=1):slp (ptE r b h t) b=t:=by
 have e:(r.1:Rat)*b.2-r.2*b.1=1:=by rw[<-Za3,e];rfl
 unfold slp ptE;simp only;grind
theorem ZlP{p:RP}(e:X r b=1)(q:slp p r= -h):p=ptE r b h (slp p b):=by
 have e:(r.1:Rat)*b.2-r.2*b.1=1:=by rw[<-Za3,e];rfl
 unfold slp at *;unfold ptE;refine db ?_ ?_
 .simp only;grind
 .simp only;grind
def co(r o:Pt):Rat:=(X r o:Rat)
def as'(b o:Pt)(h g:Rat):Rat:=(X o b:Rat)*h-g
theorem Zi6(e:X r b=1):(-g<=slp (ptE r b h t) o)↔as' b o h g<=co r o*t:=by
 rw[Zbi (o:=o) e,ZnL e,Zrd e];unfold as' co
 constructor<;>intro z<;>grind
theorem Zi7(e:X r b=1):(slp (ptE r b h t) o= -g)↔as' b o h g=co r o*t:=by
 rw[Zbi (o:=o) e,ZnL e,Zrd e];unfold as' co
 constructor<;>intro z<;>grind
theorem Z7{c:Rat}(hc:0<c):c*a<=c*b↔a<=b:=⟨λh=>Rat.le_of_mul_le_mul_left h hc,λh=>a7 h (by grind)⟩
theorem Zgp{c:Rat}(hc:0<c)(h:a<=c*t)(h2:t<=u):a<=c*u:=Rat.le_trans h ((Z7 hc).mpr h2)
theorem Zc9{c:Rat}(hc:c<0)(h:a<=c*t)(h2:u<=t):a<=c*u:=by
 refine Rat.le_trans h ?_
 have:(-c)*u<=(-c)*t:=(Z7 (by grind)).mpr h2
 grind
def LoI(rs:List Pt)(hs:List Rat)(i n:Nat)(t:Rat):Prop:=(∃j<n,0<co (cy rs i) (cy rs j)/\as' (cy rs (i+1)) (cy rs j) (cq hs i) (cq hs j)=co (cy rs i) (cy rs j)*t)/\∀j<n,0<co (cy rs i) (cy rs j)->as' (cy rs (i+1)) (cy rs j) (cq hs i) (cq hs j)<=co (cy rs i) (cy rs j)*t
def HiI(rs:List Pt)(hs:List Rat)(i n:Nat)(t:Rat):Prop:=(∃j<n,co (cy rs i) (cy rs j)<0/\as' (cy rs (i+1)) (cy rs j) (cq hs i) (cq hs j)=co (cy rs i) (cy rs j)*t)/\∀j<n,co (cy rs i) (cy rs j)<0->as' (cy rs (i+1)) (cy rs j) (cq hs i) (cq hs j)<=co (cy rs i) (cy rs j)*t
def ZeI(rs:List Pt)(hs:List Rat)(i n:Nat):Prop:=∀j<n,co (cy rs i) (cy rs j)=0->as' (cy rs (i+1)) (cy rs j) (cq hs i) (cq hs j)<=0
def Zi8(rs:List Pt)(hs:List Rat)(i:Nat)(ps:List RP):Prop:=(∀p∈ps,Cor rs hs p)/\∀p j,Win rs hs p->On rs hs p i->On rs hs p j->X (cy rs i) (cy rs j)≠0->p∈ps
section
variable {rs:List Pt}{hs:List Rat}{i n:Nat}{u:Rat}
theorem LoI.new(ha:as' (cy rs (i+1)) (cy rs n) (cq hs i) (cq hs n)=co (cy rs i) (cy rs n)*u)(hc:0<co (cy rs i) (cy rs n))(h:∀j<n,0<co (cy rs i) (cy rs j)->as' (cy rs (i+1)) (cy rs j) (cq hs i) (cq hs j)<=co (cy rs i) (cy rs j)*u):LoI rs hs i (n+1) u:=by
 refine⟨⟨n,⋯,hc,ha⟩,λj hj c=>?_⟩
 by_cases e:j=n
 .subst e;rw[ha];exact ik
 .exact h j ⋯ c
theorem LoI.keep(h:LoI rs hs i n t)(h2:0<co (cy rs i) (cy rs n)->as' (cy rs (i+1)) (cy rs n) (cq hs i) (cq hs n)<=co (cy rs i) (cy rs n)*t):LoI rs hs i (n+1) t:=by
 obtain⟨⟨j,hj,c⟩,h1⟩:=h;refine⟨⟨j,⋯,c⟩,λj hj c=>?_⟩
 by_cases e:j=n
 .subst e;exact h2 c
 .exact h1 j ⋯ c
theorem HiI.new(ha:as' (cy rs (i+1)) (cy rs n) (cq hs i) (cq hs n)=co (cy rs i) (cy rs n)*u)(hc:co (cy rs i) (cy rs n)<0)(h:∀j<n,co (cy rs i) (cy rs j)<0->as' (cy rs (i+1)) (cy rs j) (cq hs i) (cq hs j)<=co (cy rs i) (cy rs j)*u):HiI rs hs i (n+1) u:=by
 refine⟨⟨n,⋯,hc,ha⟩,λj hj c=>?_⟩
 by_cases e:j=n
 .subst e;rw[ha];exact ik
 .exact h j ⋯ c
theorem HiI.keep(h:HiI rs hs i n t)(h2:co (cy rs i) (cy rs n)<0->as' (cy rs (i+1)) (cy rs n) (cq hs i) (cq hs n)<=co (cy rs i) (cy rs n)*t):HiI rs hs i (n+1) t:=by
 obtain⟨⟨j,hj,c⟩,h1⟩:=h;refine⟨⟨j,⋯,c⟩,λj hj c=>?_⟩
 by_cases e:j=n
 .subst e;exact h2 c
 .exact h1 j ⋯ c
theorem ZeI.keep(h:ZeI rs hs i n)(h2:co (cy rs i) (cy rs n)=0->as' (cy rs (i+1)) (cy rs n) (cq hs i) (cq hs n)<=0):ZeI rs hs i (n+1):=λj hj c=>by
 by_cases e:j=n
 .subst e;exact h2 c
 .exact h j ⋯ c
theorem ZnM:co r o≠0↔X r o≠0:=by
 unfold co;constructor
 .intro h z;rw[z]at h;exact h rfl
 .intro h z;exact h (by have:((X r o:Int):Rat)=((0:Int):Rat):=z;exact lD.mp this)
theorem Zfv(hs':Smo rs):Win rs hs (ptE (cy rs i) (cy rs (i+1)) (cq hs i) t)↔∀j<rs.length,as' (cy rs (i+1)) (cy rs j) (cq hs i) (cq hs j)<=co (cy rs i) (cy rs j)*t:=by
 unfold Win;constructor
 .intro h j hj;exact(Zi6 (hs'.one i)).mp (h j hj)
 .intro h j hj;exact(Zi6 (hs'.one i)).mpr (h j hj)
theorem Zre(hs':Smo rs)(lo:LoI rs hs i rs.length t)(hi:HiI rs hs i rs.length u)(ze:ZeI rs hs i rs.length)(h1:t<=v)(h2:v<=u):Win rs hs (ptE (cy rs i) (cy rs (i+1)) (cq hs i) v):=by
 refine(Zfv hs').mpr λj hj=>?_;by_cases c:0<co (cy rs i) (cy rs j)
 .exact Zgp c (lo.2 j hj c) h1
 .by_cases c2:co (cy rs i) (cy rs j)<0
  .exact Zc9 c2 (hi.2 j hj c2) h2
  .have e:co (cy rs i) (cy rs j)=0:=by grind
   have:=ze j hj e
   rw[e];grind
theorem Zrf(hs':Smo rs)(lo:LoI rs hs i rs.length t)(hi:HiI rs hs i rs.length u)(h:Win rs hs (ptE (cy rs i) (cy rs (i+1)) (cq hs i) v)):t<=v/\v<=u:=by
 have h:=(Zfv hs').mp h;obtain⟨⟨j,hj,c,e⟩,_⟩:=lo;obtain⟨⟨k,hk,d,f⟩,_⟩:=hi;have h1:=h j hj;have h2:=h k hk;rw[e]at h1;rw[f]at h2;refine⟨(Z7 c).mp h1,?_⟩
 have:(-co (cy rs i) (cy rs k))*v<=(-co (cy rs i) (cy rs k))*u:=by grind
 exact(Z7 (by grind)).mp this
theorem ZkR(hs':Smo rs)(hi':i<rs.length)(lo:LoI rs hs i rs.length t)(hi:HiI rs hs i rs.length u)(ze:ZeI rs hs i rs.length)(h:t<=u):Zi8 rs hs i [ptE (cy rs i) (cy rs (i+1)) (cq hs i) t,ptE (cy rs i) (cy rs (i+1)) (cq hs i) u]:=by
 have on (v:Rat):On rs hs (ptE (cy rs i) (cy rs (i+1)) (cq hs i) v) i:=⟨hi',ZnL (hs'.one i)⟩;refine⟨λp hp=>?_,λp j w oi oj ne=>?_⟩
 .obtain⟨⟨j,hj,c,e⟩,_⟩:=id lo;obtain⟨⟨k,hk,d,f⟩,_⟩:=id hi;rcases ay.mp hp with rfl|hp
  .exact⟨Zre hs' lo hi ze ik h,i,j,on _,⟨hj,(Zi7 (hs'.one i)).mpr e⟩,ZnM.mp (by grind)⟩
  .rcases ay.mp hp with rfl|hp
   .exact⟨Zre hs' lo hi ze h ik,i,k,on _,⟨hk,(Zi7 (hs'.one i)).mpr f⟩,ZnM.mp (by grind)⟩
   .cases hp
 .have ep:=ZlP (hs'.one i) oi.2;generalize slp p (cy rs (i+1))=v at ep;subst ep;obtain⟨b1,b2⟩:=Zrf hs' lo hi w;have ea:=(Zi7 (hs'.one i)).mp oj.2;have nz:=ZnM.mpr ne;by_cases c:0<co (cy rs i) (cy rs j)
  .have:=lo.2 j oj.1 c
   rw[ea]at this
   have:=(Z7 c).mp this
   have:v=t:=by grind
   rw[this];simp
  .have c2:co (cy rs i) (cy rs j)<0:=by grind
   have:=hi.2 j oj.1 c2
   rw[ea]at this
   have:(-co (cy rs i) (cy rs j))*u<=(-co (cy rs i) (cy rs j))*v:=by grind
   have:=(Z7 (by grind)).mp this
   have:v=u:=by grind
   rw[this];simp
theorem Zi9(hs':Smo rs)(h:∀v,¬Win rs hs (ptE (cy rs i) (cy rs (i+1)) (cq hs i) v)):Zi8 rs hs i []:=by
 refine⟨λp hp=>(by cases hp),λp j w oi oj ne=>?_⟩
 have ep:=ZlP (hs'.one i) oi.2;rw[ep]at w;exact absurd w (h _)
theorem ZnN(hs':Smo rs)(hj:j<rs.length)(c:co (cy rs i) (cy rs j)=0)(h:0<as' (cy rs (i+1)) (cy rs j) (cq hs i) (cq hs j)):Zi8 rs hs i []:=Zi9 hs' λv w=>by
 have:=(Zfv hs').mp w j hj
 rw[c]at this;grind
theorem ZnO(hs':Smo rs)(lo:LoI rs hs i rs.length t)(hi:HiI rs hs i rs.length u)(h:u<t):Zi8 rs hs i []:=Zi9 hs' λv w=>by
 obtain⟨b1,b2⟩:=Zrf hs' lo hi w;grind
end
end Rb
namespace BD
open L2 DL
open CC (F_crossed F_following F_ask_smooth)
open CR (F_greatest_divisor F_ratio)
open CD (F_less)
open CS (F_slope_through F_ask_height)
def Zaa:Sv:=(ZK (gNm 1) (e2 dMul (Zf 1) (e2 dDiv (e2 dIx (Zf 2) (eC (.int 1))) (Zj F_greatest_divisor (Zc (Zf 1) (Zc (e2 dIx (Zf 2) (eC (.int 1))) aNil))))))
def Zay:Sv:=(ZD (ZK (gNm 1) (eC (.int 1))) (ZD (Zpc (gNm 2) (Zf 0) Zaa) (Zai (Zf 1))))
def F_common_bottom:W3:=fnF Zay 1 2
def ZbL:Sv:=(Zai (e2 dMul (e2 dIx (Zf 0) (eC (.int 0))) (e2 dDiv (Zf 1) (e2 dIx (Zf 0) (eC (.int 1))))))
def F_stretched:W3:=fnF ZbL 2 0
def Zda:Sv:=(ZD (ZK (gNm 10) (Zj F_crossed (Zc (Zf 3) (Zc (Zf 8) aNil)))) (ZD (ZK (gNm 11) (e2 dSub (e2 dMul (e2 dMul (Zj F_crossed (Zc (Zf 8) (Zc (Zf 4) aNil))) (e2 dIx (Zf 5) (eC (.int 0)))) (e2 dIx (Zf 9) (eC (.int 1)))) (e2 dMul (e2 dIx (Zf 9) (eC (.int 0))) (e2 dIx (Zf 5) (eC (.int 1)))))) (ZD (ZK (gNm 12) (e2 dMul (e2 dMul (Zf 10) (e2 dIx (Zf 5) (eC (.int 1)))) (e2 dIx (Zf 9) (eC (.int 1))))) (ZD (sIf (Zcq (tv (e2 dEq (Zf 10) (eC (.int 0)))) (tv (e2 dGt (Zf 11) (eC (.int 0))))) (Zai (Za8 aNil)) sNil) (ZD (sIf (Zcq (tv (e2 dGt (Zf 10) (eC (.int 0)))) (ZgL (tv (e2 dIs (Zf 6) (eC .non))) (tv (Zj F_less (Zc (Zf 6) (Zc (ZX (Zc (Zf 11) (Zc (Zf 12) aNil))) aNil)))))) (ZK (gNm 6) (ZX (Zc (Zf 11) (Zc (Zf 12) aNil)))) sNil) (sIf (Zcq (tv (e2 dLt (Zf 10) (eC (.int 0)))) (ZgL (tv (e2 dIs (Zf 7) (eC .non))) (tv (Zj F_less (Zc (ZX (Zc (Zcr (Zf 11)) (Zc (Zcr (Zf 12)) aNil))) (Zc (Zf 7) aNil)))))) (ZK (gNm 7) (ZX (Zc (Zcr (Zf 11)) (Zc (Zcr (Zf 12)) aNil)))) sNil))))))
def Zja:Sv:=(ZD (ZK (gTp (gCs (gNm 3) (gCs (gNm 4) gNl))) (ZX (Zc (e2 dIx (Zf 0) (Zf 2)) (Zc (Zj F_following (Zc (Zf 0) (Zc (Zf 2) aNil))) aNil)))) (ZD (ZK (gNm 5) (e2 dIx (Zf 1) (Zf 2))) (ZD (ZK (Zob (gNm 6) (gNm 7)) (eC .non)) (ZD (ZgT (gTp (gCs (gNm 8) (gCs (gNm 9) gNl))) (iZp (Zc (Zf 0) (Zc (Zf 1) aNil))) Zda) (ZD (sIf (tv (Zj F_less (Zc (Zf 7) (Zc (Zf 6) aNil)))) (Zai (Za8 aNil)) sNil) (Zai (Zao (iSq (ZX (Zc (Zf 6) (Zc (Zf 7) aNil)))) 1 [3,4,5] (gNm 0) (λ_ M=>.ok true M) (Zj F_slope_through (Zc (Za8 (Zc (Zf 1) (Zc (Zf 2) aNil))) (Zc (Za8 (Zc (ZX (Zc (Zcr (e2 dIx (Zf 3) (eC (.int 0)))) (Zc (e2 dIx (Zf 3) (eC (.int 1))) aNil))) (Zc (Zj F_ratio (Zc (e2 dIx (Zf 0) (eC (.int 0))) (Zc (e2 dIx (Zf 0) (eC (.int 1))) aNil))) aNil))) aNil))))))))))
def F_edge:W3:=fnF Zja 3 10
def Zb9:Sv:=(ZD (ZK (gNm 1) (Zj F_common_bottom (Zc (Zbe (iSq (Zf 0)) 2 [] (gNm 0) (λ_ M=>.ok true M) λn=>(gIn (iSq (Zf 0)) (gNm 1) (λ_ M=>.ok true M) (gEm (Zf 1) n))) aNil))) (Zai (Zg0 (Zc (Zf 0) aNil) [1] (ZX (Zc (Zj F_stretched (Zc (e2 dIx (Zf 0) (eC (.int 0))) (Zc (Zf 1) aNil))) (Zc (Zj F_stretched (Zc (e2 dIx (Zf 0) (eC (.int 1))) (Zc (Zf 1) aNil))) aNil))))))
def F_in_order:W3:=fnF Zb9 1 1
def Zdb:Sv:=(Zkq (Zf 2) (Zf 4) (eC (.bl true)))
def Zdc:Sv:=(Zpc (gNm 4) (Zj F_edge (Zc (Zf 0) (Zc (Zf 1) (Zc (Zf 3) aNil)))) Zdb)
def Zjb:Sv:=(ZD (Zct (Zj F_ask_smooth (Zc (Zf 0) aNil))) (ZD (Zct (Zj F_ask_height (Zc (Zf 0) (Zc (Zf 1) aNil)))) (ZD (ZK (gNm 2) eDnU) (ZD (Zbc (gNm 3) (Zc (Zj bLen (Zc (Zf 0) aNil)) aNil) Zdc) (Zai (Zj F_in_order (Zc (Zj bLisU (Zc (Zf 2) aNil)) aNil)))))))
def F_body:W3:=fnF Zjb 2 3
end BD
namespace BD
open L2 DL
open CV CN CU CS
open CR (rt Sz)
open CH (rts ZH ZM)
open CD (pts ZT ZaM)
open Rb
theorem ZdC(x:Rat):(x.num:Rat)=x*(x.den:Rat):=by
 have h:=ZkP (x.den:Int) x;have h2:=Rat.normalize_mul_left (d:=1) (n:=x.num) (a:=x.den) (by decide) x.den_nz
 have h3:bM x.num 1 (by decide)=(x.num:Rat):=by
  have:=ZlK x.num
  have e:=Rat.normalize_self (x.num:Rat);exact e
 have h4:bM ((x.den:Int)*x.num) x.den x.den_nz=bM ((x.den:Int)*x.num) (x.den*1) (by have:=x.den_nz;lia):=by congr 1;lia
 rw[h4,h2,h3]at h;rw[h,Rat.mul_comm,aY]
theorem Zjc{a:Int}{b:Nat}(hb:b≠0)(h:(a:Rat)=t*(b:Rat)):bM a b hb=t:=by
 obtain⟨d,d0,e1,e2⟩:=Rat.normalize_num_den' a b hb;generalize bM a b hb=x at *
 have:(a:Rat)=x*(b:Rat):=by
  rw[e1,aN,ZdC x,e2,Rat.natCast_mul,aY];grind
 have nz:(b:Rat)≠0:=λz=>hb (Rat.natCast_eq_zero_iff.mp z);grind
def Tp(K:Nat)(t:Rat)(d:D):Prop:=∃a b:Int,d=pr a b/\0<b/\(a:Rat)=t*(b:Rat)/\a.natAbs<2^K/\b.natAbs<2^K
section
variable {rs:List Pt}
theorem Zfw(h:Tp K t d)(h':Tp K u d')(hK:K<=8000):wO (CD.F_less [d,d'] M) Q E=Q (.bl (decide (t<u))) M:=by
 obtain⟨a,b,rfl,b0,e,s1,s2⟩:=h;obtain⟨a',b',rfl,b0',e',s1',s2'⟩:=h';have f1:Zp a b':=Zr K K s1 s2' ⋯ ⋯
 have f2:Zp a' b:=Zr K K s1' s2 ⋯ ⋯
 simp![CD.F_less,CD.Zi2,ZA f1,ZA f2];have p:(0:Rat)<(b:Rat):=dM.mpr b0;have p':(0:Rat)<(b':Rat):=dM.mpr b0';have hlt:a*b'<a'*b↔t<u:=by
  rw[<-kW,aN,aN,e,e'];have e3:t*(b:Rat)*(b':Rat)=((b:Rat)*b')*t:=by grind
  have e4:u*(b':Rat)*(b:Rat)=((b:Rat)*b')*u:=by grind
  rw[e3,e4];exact gL (jN p p')
 rw[show decide (a*b'<a'*b)=decide (t<u)from decide_eq_decide.mpr hlt]
theorem ZkS{a b:Int}(b0:0<b)(e:(a:Rat)=t*(b:Rat))(s2:b.natAbs<2^K)(hK:K<=8000):wO (CR.F_ratio [.int a,.int b] M) Q E=Q (rt t) M:=by
 obtain⟨c,rfl⟩:∃c:Nat,b=c:=⟨b.toNat,⋯⟩
 rw[CR.Zd2 (k:=K) (show c≠0 by lia) (by simpa using s2) hK,Zjc (t:=t) ⋯ (by rw[e,aY])]
theorem Zt2{a b:Int}(b0:0<b)(e:(a:Rat)=t*(b:Rat))(s1:a.natAbs<2^K)(s2:b.natAbs<2^K):Sz K t:=by
 obtain⟨c,rfl⟩:∃c:Nat,b=c:=⟨b.toNat,⋯⟩
 rw[<-Zjc (t:=t) (show c≠0 by lia) (by rw[e,aY])]
 exact CR.Zfr _ s1 (by simpa using s2)
def LoD(rs:List Pt)(hs:List Rat)(i K n:Nat)(d:D):Prop:=(d=.non/\∀j<n,¬0<co (cy rs i) (cy rs j))\/∃t,Tp K t d/\LoI rs hs i n t
def HiD(rs:List Pt)(hs:List Rat)(i K n:Nat)(d:D):Prop:=(d=.non/\∀j<n,¬co (cy rs i) (cy rs j)<0)\/∃t,Tp K t d/\HiI rs hs i n t
theorem Zgq(h:LoD rs hs i K n d)(c:¬0<co (cy rs i) (cy rs n)):LoD rs hs i K (n+1) d:=by
 rcases h with⟨e,h⟩|⟨t,tp,h⟩
 .refine .inl ⟨e,λj hj=>?_⟩;by_cases e:j=n
  .subst e;exact c
  .exact h j ⋯
 .exact .inr ⟨t,tp,h.keep λz=>absurd z c⟩
theorem Zgr(h:HiD rs hs i K n d)(c:¬co (cy rs i) (cy rs n)<0):HiD rs hs i K (n+1) d:=by
 rcases h with⟨e,h⟩|⟨t,tp,h⟩
 .refine .inl ⟨e,λj hj=>?_⟩;by_cases e:j=n
  .subst e;exact c
  .exact h j ⋯
 .exact .inr ⟨t,tp,h.keep λz=>absurd z c⟩
theorem ZkT{r:Pt}:((X o b*x.num*(y.den:Int)-y.num*(x.den:Int):Int):Rat)=as' b o x y*((x.den:Rat)*(y.den:Rat)):=by
 rw[lC,aN,aN,aN,ZdC x,ZdC y,aY,aY];unfold as';generalize ((X o b:Int):Rat)=z;generalize (x.den:Rat)=a;generalize (y.den:Rat)=c;grind
theorem ZkU{x y:Rat}:((X r o*(x.den:Int)*(y.den:Int):Int):Rat)=co r o*((x.den:Rat)*(y.den:Rat)):=by
 rw[aN,aN,aY,aY];unfold co;generalize ((X r o:Int):Rat)=z;grind
theorem Zjd{x y:Rat}:(0:Rat)<(x.den:Rat)*(y.den:Rat):=jN (hG.mpr (b8 x.den_nz)) (hG.mpr (b8 y.den_nz))
theorem ZdD{a:Rat}(h:c≠0):a=c*(a/c):=by
 have:=Rat.div_mul_cancel (a:=a) h
 grind
theorem Zt3{a bt:Int}(ea:(a:Rat)=as' b o x y*((x.den:Rat)*(y.den:Rat)))(eb:(bt:Rat)=co r o*((x.den:Rat)*(y.den:Rat)))(c:0<co r o)(s1:a.natAbs<2^K)(s2:bt.natAbs<2^K):Tp K (as' b o x y/co r o) (pr a bt):=by
 have hd:=Zjd (x:=x) (y:=y);have h:=ZdD (a:=as' b o x y) (c:=co r o) (by grind)
 have hp:(0:Rat)<(bt:Rat):=by rw[eb];exact jN c hd
 refine⟨a,bt,rfl,dM.mp hp,?_,s1,s2⟩;rw[ea,eb];generalize as' b o x y/co r o=u at *;grind
theorem Zt4{a bt:Int}(ea:(a:Rat)=as' b o x y*((x.den:Rat)*(y.den:Rat)))(eb:(bt:Rat)=co r o*((x.den:Rat)*(y.den:Rat)))(c:co r o<0)(s1:a.natAbs<2^K)(s2:bt.natAbs<2^K):Tp K (as' b o x y/co r o) (pr (-a) (-bt)):=by
 have hd:=Zjd (x:=x) (y:=y);have h:=ZdD (a:=as' b o x y) (c:=co r o) (by grind)
 have hp:(0:Rat)<((-bt:Int):Rat):=by
  rw[eL,eb]
  have:=jN (a:= -co r o) (by grind) hd
  grind
 refine⟨-a,-bt,rfl,dM.mp hp,?_,by omega,by omega⟩
 rw[eL,eL,ea,eb];generalize as' b o x y/co r o=u at *;grind
theorem ZnP(hu:(-B<=u.1/\u.1<=B)/\ -B<=u.2/\u.2<=B)(hv:(-B<=v.1/\v.1<=B)/\ -B<=v.2/\v.2<=B)(hB:B<=1000000:=by first|decide|assumption):(X u v).natAbs<2^41:=by
 unfold X;have h1:=aW u.1 v.2;have h2:=aW u.2 v.1;have b1:u.1.natAbs*v.2.natAbs<=1000000*1000000:=d9 (by omega) (by omega)
 have b2:u.2.natAbs*v.1.natAbs<=1000000*1000000:=d9 (by omega) (by omega)
 have:=jM (u.1*v.2) (u.2*v.1)
 omega
theorem ZnQ(hb:Nr B rs)(hn:rs≠[])(hz:∀x∈hs,Sz k x)(hh:hs.length≠0)(hB:B<=1000000:=by first|decide|assumption):Sz (2*k+41) (thr rs hs).1/\Sz (2*k+41) (thr rs hs).2:=by
 have a:=hb _ (Zav (i:=0) hn);have b:=hb _ (Zav (i:=1) hn);have z0:=Zcx (i:=0) hz hh;have z1:=Zcx (i:=1) hz hh;have e:k+20+(k+20)+1=2*k+41:=by omega
 exact⟨e▸ZlL (CR.Zcm z0 (ZeT (k:=20) (by omega) (by decide))) (CR.Zcm z1 (ZeT (k:=20) (by omega) (by decide))),e▸ZlL (CR.Zcm z1 (ZeT (k:=20) (by omega) (by decide))) (CR.Zcm z0 (ZeT (k:=20) (by omega) (by decide)))⟩
theorem Zvf(hu:(-B<=u.1/\u.1<=B)/\ -B<=u.2/\u.2<=B)(hB:B<=1000000:=by first|decide|assumption):wO (CC.F_crossed [pr u.1 u.2,pr v.1 v.2] M) Q E=Q (.int (X u v)) M:=CC.ZeR (by omega) (by omega)
theorem Zje(h:rs≠[]):∃j:Nat,j<rs.length/\cy rs j=cy rs z:=by
 have l:0<rs.length:=i3.mpr h;refine⟨(z%rs.length).toNat,?_,?_⟩
 .have:=cW z (show(0:Int)<rs.length by lia)
  lia
 .have:=dL z (show(rs.length:Int)≠0 by lia)
  rw[mM this,Zc4]
theorem Zt5(I:Ro->Prop)(F:Nat->D)(hl:xs.length<10000000)(h0:I (roB k fr ρ))(st:∀(i:Nat)(h:i<xs.length)(ρ:Ro)(M':Sto),Kp M M'->I ρ->wG (tg xs[i] ρ) λr=>I r/\wO (f r M') (λy M2=>y=F i/\Kp M' M2) (λ_ _=>False))(hq:∀M',Kp M M'->M'[M.length]?=some (.lst ((aI xs.length).map F))->Q (.ref M.length) M'):kCo tg (λ_ M=>.ok true M) f k fr ρ Q (.pur xs) M:=by
 refine Zlw (xs:=xs) (Q:=λM2=>Q (.ref M.length) M2) (λi ρ M'=>I ρ/\Kp M M'/\M'[M.length]?=some (.lst ((aI i).map F))) _ 0 _ _ (by simp) (by simp[cnt]) ⟨h0,Kp.app,by simp⟩ (λi ρ M' hi hI=>rfl) ?_ (λρ M' hI=>hq M' hI.2.1 hI.2.2)
 rintro i ρ M' hi ⟨hI,K,r⟩;have s:=st i hi ρ M' K hI;cases e:tg xs[i] ρ with
 |none=>rw[e]at s;exact s.elim
 |some r'=>
  rw[e]at s;obtain⟨hr,s⟩:=s;show Br true _ _;rw[ZrU];refine ZdW s (λy M2 ⟨h1,h2⟩=>?_) (λ_ _ z=>z);subst h1;rw[h2.get r];have hl2:=Zy (h2.get r);refine⟨by simp;lia,hr,(K.trans h2).set (aj _),?_⟩
  rw[bf hl2,List.range_succ,dj];rfl
theorem Zjf:thr [r,b] [-x,t]=ptE r b x t:=by
 unfold thr ptE;rfl
def EdI(rs:List Pt)(hs:List Rat)(n m i K:Nat)(j:Nat)(ρ:Ro):Prop:=∃lo hi x8 x9 x10 x11 x12,ρ=[some (.ref n),some (.ref m),some (.int i),some (pr (cy rs i).1 (cy rs i).2),some (pr (cy rs (i+1)).1 (cy rs (i+1)).2),some (rt (cq hs i)),some lo,some hi,x8,x9,x10,x11,x12]/\LoD rs hs i K j lo/\HiD rs hs i K j hi/\ZeI rs hs i j
theorem Zrg(h:M[n]?=some (.lst (prs rs)))(hs':Smo rs)(hb:Nr B rs)(hl:rs.length<=1000)(h':M[m]?=some (.lst (rts hs)))(e:hs.length=rs.length)(hz:∀x∈hs,Sz k x)(hk:k<=900)(hi:i<rs.length)(q:∀ps o M',Zi8 rs hs i ps->ps.length<=2->(∀p∈ps,Sz (4*k+127) p.1/\Sz (4*k+127) p.2)->Kp M M'->M.length<=o->M'[o]?=some (.lst (pts ps))->Q (.ref o) M')(hB:B<=1000000:=by first|decide|assumption):wO (F_edge [.ref n,.ref m,.int i] M) Q E:=by
 have hn:=Zy h;have hm:=Zy h';have hne:=hs'.ne;have zi:=Zcx (i:=i) hz ⋯
 have br:=hb _ (Zav (i:=i) hne);have bb:=hb _ (Zav (i:=i+1) hne);simp![F_edge,Zja,h,h',ZeO,Zgn,CC.ZbH h (show 0<=(i:Int)/\(i:Int)<rs.length by lia),ZlA,ZtN]
 refine Zlz (xs:=prs rs) (ys:=rts hs) (λj ρ M'=>M'=M/\EdI rs hs n m i (2*k+43) j ρ) h (by rw[ZL,ZH];lia) ⟨rfl,_,_,_,_,_,_,_,rfl,.inl ⟨rfl,λj hj=>⋯⟩,.inl ⟨rfl,λj hj=>⋯⟩,λj hj=>⋯⟩ (λj ρ M' hI=>hI.1▸⟨h,h'⟩) ?_ ?_
 .rintro j ρ _ hj ⟨rfl,lo,hg,x8,x9,x10,x11,x12,rfl,hlo,hhi,hze⟩;rw[ZL]at hj;rw[CC.ZbI,Zd4];have zj:=Zcx (i:=j) hz ⋯
  have bj:=hb _ (Zav (i:=j) hne);generalize hx:cq hs i=x at *;generalize hy:cq hs j=y at *;generalize hr:cy rs i=r at *;generalize hbb:cy rs (i+1)=b at *;generalize ho:cy rs j=o at *;have sX:=ZnP br bj;have sY:=ZnP bj bb;have dx:((x.den:Int)).natAbs<2^k:=by simpa using zi.2
  have dy:((y.den:Int)).natAbs<2^k:=by simpa using zj.2
  have g1:(X o b*x.num).natAbs<2^(41+k):=by rw[aW];exact CR.ZU sY zi.1
  have g2:(X r o*(x.den:Int)).natAbs<2^(41+k):=by rw[aW];exact CR.ZU sX dx
  have f1:Zp (X o b) x.num:=Zr 41 k sY zi.1 ⋯ ⋯
  have f2:Zp (X o b*x.num) (y.den:Int):=Zr (41+k) k g1 dy ⋯ ⋯
  have f3:Zp y.num (x.den:Int):=Zr k k zj.1 dx ⋯ ⋯
  have f4:Zp (X r o) (x.den:Int):=Zr 41 k sX dx ⋯ ⋯
  have f5:Zp (X r o*(x.den:Int)) (y.den:Int):=Zr (41+k) k g2 dy ⋯ ⋯
  have ea:=ZkT (r:=r) (b:=b) (o:=o) (x:=x) (y:=y);have eb:=ZkU (r:=r) (o:=o) (x:=x) (y:=y);have sa:(X o b*x.num*(y.den:Int)-y.num*(x.den:Int)).natAbs<2^(2*k+43):=by
   have a1:(X o b*x.num*(y.den:Int)).natAbs<2^(41+k+k):=by rw[aW];exact CR.ZU g1 dy
   have a2:(y.num*(x.den:Int)).natAbs<2^(k+k):=by rw[aW];exact CR.ZU zj.1 dx
   have a3:2^(k+k)<=2^(41+k+k):=bI (by decide) ⋯
   have a4:2^(2*k+43)=4*2^(41+k+k):=by rw[show 2*k+43=(41+k+k)+2 by lia,jL];lia
   have:=jM (X o b*x.num*(y.den:Int)) (y.num*(x.den:Int))
   lia
  have sb:(X r o*(x.den:Int)*(y.den:Int)).natAbs<2^(2*k+43):=by
   rw[aW];exact am (CR.ZU g2 dy) (bI (by decide) ⋯)
  simp![Zda,Zvf br,Zvf bj,ZA f1,ZA f2,ZA f3,ZA f4,ZA f5];have ci:(X r o=0↔co r o=0)/\(0<X r o↔0<co r o)/\(X r o<0↔co r o<0):=⟨kq.symm,dM.symm,Rat.intCast_neg_iff.symm⟩;generalize X o b*x.num*(y.den:Int)-y.num*(x.den:Int)=ak at *;generalize X r o*(x.den:Int)*(y.den:Int)=bt at *;generalize X r o=c at *;have ec:co (cy rs i) (cy rs j)=co r o:=by rw[hr,ho]
  have eas:as' (cy rs (i+1)) (cy rs j) (cq hs i) (cq hs j)=as' b o x y:=by rw[hbb,ho,hx,hy]
  have hd:=Zjd (x:=x) (y:=y);have mk:∀{lo hi:D}{x8 x9 x10 x11 x12:Option D},LoD rs hs i (2*k+43) (j+1) lo->HiD rs hs i (2*k+43) (j+1) hi->ZeI rs hs i (j+1)->EdI rs hs n m i (2*k+43) (j+1) [some (.ref n),some (.ref m),some (.int i),some (pr r.1 r.2),some (pr b.1 b.2),some (rt x),some lo,some hi,x8,x9,x10,x11,x12]:=λa b' c'=>by
   rw[<-hr,<-hbb,<-hx];exact⟨_,_,_,_,_,_,_,rfl,a,b',c'⟩
  rcases(show c=0\/0<c\/c<0 by lia)with c0|c0|c0
  .have cz:=ci.1.mp c0;simp![Zq];refine brS (λhp=>?_) (λhp=>?_)
   .simp![Zq];have hp':(0:Rat)<(ak:Rat):=dM.mpr hp;rw[ea]at hp';refine q [] _ _ (ZnN hs' hj (ec▸cz) ?_) (by simp) (λp hp=>by cases hp) Kp.app (aj _) (by simp[pts])
    rw[eas]
    have:as' b o x y*0<as' b o x y*((x.den:Rat)*(y.den:Rat)):=by grind
    by_cases z:0<as' b o x y
    .exact z
    .have:=dA (c:=(x.den:Rat)*(y.den:Rat)) (show as' b o x y<=0 by grind) (by grind)
     grind
   .simp![Zq];refine mk (Zgq hlo (by rw[ec];grind)) (Zgr hhi (by rw[ec];grind)) (hze.keep λ_=>?_)
    rw[eas];have hp':(ak:Rat)<=0:=jB.mpr ⋯
    rw[ea]at hp';by_cases z:0<as' b o x y
    .have:=jN z hd
     grind
    .grind
  .have cz:=ci.2.1.mp c0;have tu:=Zt3 (K:=2*k+43) ea eb cz sa sb;have eu:=ZdD (a:=as' b o x y) (c:=co r o) (by grind)
   generalize as' b o x y/co r o=u at *;have hz':ZeI rs hs i (j+1):=hze.keep λz=>by rw[ec]at z;grind
   have hh':=Zgr hhi (show ¬co (cy rs i) (cy rs j)<0 by rw[ec];grind)
   rcases hlo with⟨rfl,hlo⟩|⟨t,tp,hlo⟩
   .simp![Zq];exact mk (.inr ⟨u,tu,.new (by rw[eas,ec,eu]) (by rw[ec];exact cz) λj' hj' z=>absurd z (hlo j' hj')⟩) hh' hz'
   .have tp':=tp;obtain⟨a',b',rfl,_⟩:=tp';simp![Zfw tp tu ⋯]
    refine brS (λhlt=>?_) (λhlt=>?_)
    .simp![Zq];exact mk (.inr ⟨u,tu,.new (by rw[eas,ec,eu]) (by rw[ec];exact cz) λj' hj' z=>Zgp z (hlo.2 j' hj' z) (by grind)⟩) hh' hz'
    .simp![Zq];exact mk (.inr ⟨t,tp,hlo.keep λz=>by rw[eas,ec,eu];exact(Z7 cz).mpr (by grind)⟩) hh' hz'
  .have cz:=ci.2.2.mp c0;have tu:=Zt4 (K:=2*k+43) ea eb cz sa sb;have eu:=ZdD (a:=as' b o x y) (c:=co r o) (by grind)
   generalize as' b o x y/co r o=u at *;have hz':ZeI rs hs i (j+1):=hze.keep λz=>by rw[ec]at z;grind
   have hh':=Zgq hlo (show ¬0<co (cy rs i) (cy rs j)by rw[ec];grind)
   rcases hhi with⟨rfl,hhi⟩|⟨t,tp,hhi⟩
   .simp![Zq];exact mk hh' (.inr ⟨u,tu,.new (by rw[eas,ec,eu]) (by rw[ec];exact cz) λj' hj' z=>absurd z (hhi j' hj')⟩) hz'
   .have tp':=tp;obtain⟨a',b',rfl,_⟩:=tp';simp![Zfw tu tp ⋯]
    refine brS (λhlt=>?_) (λhlt=>?_)
    .simp![Zq];exact mk hh' (.inr ⟨u,tu,.new (by rw[eas,ec,eu]) (by rw[ec];exact cz) λj' hj' z=>Zc9 z (hhi.2 j' hj' z) (by grind)⟩) hz'
    .simp![Zq];exact mk hh' (.inr ⟨t,tp,hhi.keep λz=>by rw[eas,ec,eu];exact Zc9 cz ik (by grind)⟩) hz'
 .rintro ρ _ ⟨rfl,lo,hg,x8,x9,x10,x11,x12,rfl,hlo,hhi,hze⟩;rw[ZL]at hlo hhi hze;have one:=hs'.one i;have lt':∃t,Tp (2*k+43) t lo/\LoI rs hs i rs.length t:=by
   rcases hlo with⟨_,hlo⟩|hlo
   .obtain⟨j,hj,ej⟩:=Zje (rs:=rs) (z:=i+1) hne;refine absurd ?_ (hlo j hj);unfold co;rw[ej,one]
    decide +kernel
   .exact hlo
  have ht':∃t,Tp (2*k+43) t hg/\HiI rs hs i rs.length t:=by
   rcases hhi with⟨_,hhi⟩|hhi
   .obtain⟨j,hj,ej⟩:=Zje (rs:=rs) (z:=i-1) hne;refine absurd ?_ (hhi j hj);have o2:=hs'.one (i-1);rw[show(i:Int)-1+1=i by lia]at o2
    unfold co;rw[ej,show X (cy rs i) (cy rs (i-1))= -1 by unfold X at *;grind]
    decide +kernel
   .exact hhi
  obtain⟨t,tl,hlo⟩:=lt';obtain⟨u,th,hhi⟩:=ht';simp![Zfw th tl ⋯]
  refine brS (λhlt=>?_) (λhlt=>?_)
  .simp![Zq];exact q [] _ _ (ZnO hs' hlo hhi hlt) (by simp) (λp hp=>by cases hp) Kp.app (aj _) (by simp[pts])
  .simp![Zq];have ed:=ZkR hs' hi hlo hhi hze (by grind)
   have st:∀v,Sz (2*k+43) v->Sz (4*k+127) (ptE (cy rs i) (cy rs (i+1)) (cq hs i) v).1/\Sz (4*k+127) (ptE (cy rs i) (cy rs (i+1)) (cq hs i) v).2:=λv hv=>by
    rw[<-Zjf]
    have:=ZnQ (rs:=[cy rs i,cy rs (i+1)]) (hs:=[-(cq hs i),v]) (k:=2*k+43) (λp hp=>by
     rcases ay.mp hp with rfl|hp
     .exact br
     .rcases ay.mp hp with rfl|hp
      .exact bb
      .cases hp) (by simp) (λp hp=>by
     rcases ay.mp hp with rfl|hp
     .exact⟨by rw[nO,jC];exact am zi.1 (bI (by decide) ⋯),by rw[nQ];exact am zi.2 (bI (by decide) ⋯)⟩
     .rcases ay.mp hp with rfl|hp
      .exact hv
      .cases hp) (by simp)
    exact⟨Zq3 this.1 ⋯,Zq3 this.2 ⋯⟩
   have tsz:∀{v:Rat}{d:D},Tp (2*k+43) v d->Sz (2*k+43) v:=λ⟨a,b,_,b0,e1,s1,s2⟩=>Zt2 b0 e1 s1 s2;refine Zt5 (λρ=>∃x,ρ=[x,some (pr (cy rs i).1 (cy rs i).2),some (pr (cy rs (i+1)).1 (cy rs (i+1)).2),some (rt (cq hs i))]) (λj=>rp (ptE (cy rs i) (cy rs (i+1)) (cq hs i) (if j=0 then t else u))) (by simp) ⟨_,rfl⟩ ?_ ?_
   .rintro j hj ρ M1 K1 ⟨y,rfl⟩;obtain⟨d,v,e1,e2,tv'⟩:∃d v,[lo,hg][j]=d/\(if j=0 then t else u)=v/\Tp (2*k+43) v d:=by
     match j,hj with
     |0,_=>exact⟨_,_,rfl,rfl,tl⟩
     |1,_=>exact⟨_,_,rfl,rfl,th⟩
    rw[e1,e2];have sv:=tsz tv';obtain⟨a,b,rfl,b0,e3,s1,s2⟩:=tv';simp![ZkS b0 e3 s2 ⋯]
    refine⟨⟨_,rfl⟩,?_⟩;have l1:M1.length<(M1++[SO.lst [pr (cy rs i).1 (cy rs i).2,pr (cy rs (i+1)).1 (cy rs (i+1)).2]]).length:=by simp
    rw[Zi0 (k:=2*k+43) (rs:=[cy rs i,cy rs (i+1)]) (hs:=[-(cq hs i),v]) (by simp[prs]) (λp hp=>by
     rcases ay.mp hp with rfl|hp
     .exact br
     .rcases ay.mp hp with rfl|hp
      .exact bb
      .cases hp) (by simp) (by simp[rts,rt,nO,nQ]) (by simp) (λp hp=>by
     rcases ay.mp hp with rfl|hp
     .exact⟨by rw[nO,jC];exact am zi.1 (bI (by decide) ⋯),by rw[nQ];exact am zi.2 (bI (by decide) ⋯)⟩
     .rcases ay.mp hp with rfl|hp
      .exact sv
      .cases hp) ⋯]
    exact⟨by rw[Zjf],Kp.app⟩
   .intro M1 K1 r1;refine q _ _ _ ed (by simp) (λp hp=>?_) K1 (aj _) (by rw[r1];rfl)
    rcases ay.mp hp with rfl|hp
    .exact st _ (tsz tl)
    .rcases ay.mp hp with rfl|hp
     .exact st _ (tsz th)
     .cases hp
end
noncomputable def Zdh(xs:List Rat):Nat:=xs.foldl (λb x=>hO b x.den) 1
theorem ZkV(b d:Nat)(hd:d≠0):b*(d/i9 b d)=hO b d:=by
 unfold hO;rw[Nat.mul_div_assoc _ (jO b d)]
theorem Zjg:Zdh (xs++[x])=hO (Zdh xs) x.den:=by simp[Zdh]
theorem Zd6:∀(xs:List Rat),0<Zdh xs:=by
 have:∀(xs:List Rat)(b:Nat),0<b->0<xs.foldl (λb x=>hO b x.den) b:=by
  intro xs
  induction xs with
  |nil=>intro b h;exact h
  |cons x r ih=>intro b h;exact ih _ (Nat.lcm_pos h (b8 x.den_nz))
 exact λxs=>this xs 1 (by decide)
theorem ZcG(h:x∈xs):x.den ∣ Zdh xs:=by
 have up:∀(xs:List Rat)(b:Nat),b ∣ xs.foldl (λb x=>hO b x.den) b:=by
  intro xs
  induction xs with
  |nil=>intro b;exact Nat.dvd_refl _
  |cons x r ih=>intro b;exact gQ (Nat.dvd_lcm_left _ _) (ih _)
 have:∀(xs:List Rat)(b:Nat),x∈xs->x.den ∣ xs.foldl (λb x=>hO b x.den) b:=by
  intro xs
  induction xs with
  |nil=>intro b h;cases h
  |cons y r ih=>
   intro b h;rcases ay.mp h with rfl|h
   .exact gQ (Nat.dvd_lcm_right _ _) (up _ _)
   .exact ih _ h
 exact this xs 1 h
section
variable {M:Sto}{k l K i:Nat}{rs:List Pt}{hs:List Rat}{d:D}{ms:List RP}{p:RP}
theorem Zjh(hz:∀x∈xs,Sz k x):Zdh xs<2^(xs.length*k+1):=by
 have:∀(xs:List Rat)(b e:Nat),(∀x∈xs,Sz k x)->b<2^e->xs.foldl (λb x=>hO b x.den) b<2^(e+xs.length*k):=by
  intro xs
  induction xs with
  |nil=>intro b e _ h;simpa using h
  |cons x r ih=>
   intro b e hz h;have l1:hO b x.den<=b*x.den:=by
    unfold hO;exact hE _ _
   have l2:=CR.ZU h (hz x (by simp)).2
   have:=ih (hO b x.den) (e+k) (λy hy=>hz y (aF _ hy)) ⋯
   rw[List.foldl_cons,bv,Nat.add_mul,Nat.one_mul,show e+(r.length*k+k)=e+k+r.length*k by lia]
   exact this
 have:=this xs 1 1 hz (by decide)
 rw[kG]at this;exact this
theorem Zgs(h:M[n]?=some (.lst (rts xs)))(hl:xs.length<=1000)(hz:∀x∈xs,Sz k x)(hk:k<=8000):wO (F_common_bottom [.ref n] M) Q E=Q (.int (Zdh xs:Nat)) M:=by
 have main (Q:W0) (E:W2) (q:Q (.int (Zdh xs:Nat)) M):wO (F_common_bottom [.ref n] M) Q E:=by
  have hn:=Zy h;simp![F_common_bottom,Zay];refine ZiI (xs:=rts xs) (λi ρ M'=>M'=M/\∃x,ρ=[some (.ref n),some (.int (Zdh (xs.take i):Nat)),x]) h ⟨rfl,_,rfl⟩ (λi ρ M' hI=>hI.1▸h) ?_ ?_
  .rintro i ρ _ hi ⟨rfl,x,rfl⟩;rw[Zd4];have hi':i<xs.length:=by rw[ZH]at hi;exact hi
   have z:=Zcx (i:=i) hz ⋯
   have b:=Zjh (xs:=xs.take i) (k:=k) (λx hx=>hz x (gB hx));have p0:=Zd6 (xs.take i);have tk:Zdh (xs.take (i+1))=hO (Zdh (xs.take i)) (cq xs i).den:=by rw[eS hi',Zjg,ZeU hi']
   generalize cq xs i=y at *;have gl:(xs.take i).length*k+1<=10000000:=by
    have:(xs.take i).length<=1000:=by simp;lia
    have:=d9 this hk
    lia
   generalize (xs.take i).length*k+1=e at *;generalize Zdh (xs.take i)=c at *;have gw:∀{Q:W0}{E:W2}{M:Sto},wO (CR.F_greatest_divisor [.int (c:Int),.int (y.den:Int)] M) Q E=Q (.int ((i9 c y.den:Nat):Int)) M:=by
    intro Q E M;rw[CR.Zq1,Zlu];rfl
   have g0:0<i9 c y.den:=Nat.gcd_pos_of_pos_left _ p0;have g1:i9 c y.den<=y.den:=j4 (b8 y.den_nz) (jO c y.den);have st:=ZkV c y.den y.den_nz;have dv:y.den/i9 c y.den<=y.den:=hE _ _;have z2:=z.2;generalize i9 c y.den=g at *;simp![Zaa,gw];rw[CR.Za2 (k:=k) ⋯ (by simp;lia) hk]
   have f1:Zp (c:Int) ((y.den:Int)/(g:Int)):=Zr e k (by simpa using b) (by rw[<-iL,hZ];lia) ⋯ ⋯
   simp![ZA f1];refine⟨some (rt y),?_⟩;rw[tk,<-st];simp
  .rintro ρ _ ⟨rfl,x,rfl⟩;rw[ZH,kr];simp![Zq];exact q
 obtain⟨d,M',e,e1,e2⟩:=Zgj (main (λd M'=>d=.int (Zdh xs:Nat)/\M'=M) (λ_ _=>False) ⟨rfl,rfl⟩);rw[e,e1,e2];rfl
noncomputable def stc(B:Nat)(x:Rat):Int:=x.num*((B/x.den:Nat):Int)
theorem Zbs(h:x.den ∣ B):(stc B x:Rat)=x*(B:Rat):=by
 obtain⟨c,rfl⟩:=h;unfold stc;rw[Nat.mul_div_cancel_left _ (b8 x.den_nz),aN,ZdC x,Rat.natCast_mul,aY];grind
theorem ZaY{B:Nat}(hx:Sz k x)(hk:k<=8000)(hB:B<2^l)(hl:l<=50000000):wO (F_stretched [rt x,.int (B:Int)] M) Q E=Q (.int (stc B x)) M:=by
 have dn:=b8 x.den_nz;simp![F_stretched,ZbL];rw[CR.Za2 (k:=k) ⋯ (by simpa using hx.2) hk]
 have:B/x.den<=B:=hE _ _
 have f1:Zp x.num ((B:Int)/(x.den:Int)):=Zr k l hx.1 (by rw[<-iL,hZ];lia) ⋯ ⋯
 simp![ZA f1];unfold stc;rw[iL]
theorem Zdd(h0:0<B)(hx:x.den ∣ B)(hy:y.den ∣ B):stc B x<stc B y↔x<y:=by
 rw[<-kW,Zbs hx,Zbs hy];exact Rat.mul_lt_mul_right (hG.mpr h0)
theorem Zd7(h0:0<B)(hx:x.den ∣ B)(hy:y.den ∣ B)(h:stc B x=stc B y):x=y:=by
 have:=Zdd h0 hx hy
 have:=Zdd h0 hy hx
 grind
noncomputable def pl(p q:RP):Prop:=p.1<q.1\/(p.1=q.1/\p.2<q.2)
def ent(m:RP):D:=.tup [rp m,.bl true]
theorem Zt6(m:RP):∃kk,kyU (rp m)=some kk:=⟨_,rfl⟩
theorem Zrh{a:RP}(h1:kyU (rp a)=some kk)(h2:kyU (rp b)=some kk):a=b:=by
 have e1:=ZcE (show ZjC [rt a.1,rt a.2]=some kk from h1);have e2:=ZcE (show ZjC [rt b.1,rt b.2]=some kk from h2);have e:=e1.trans e2.symm;simp only[gR,and_true]at e;exact db (ZiZ e.1) (ZiZ e.2)
theorem Zri{a:RP}(h2:kyU (rp b)=some kk):kyU (rp a)=some kk↔a=b:=⟨λh=>Zrh h h2,λh=>h▸h2⟩
theorem Zji{kk:List (List Key)}(h:kyU (rp p)=some kk):∀ms:List RP,(Zki kyU kk (ms.map ent)).isSome=decide (p∈ms)
 |[]=>by simp[Zki]
 |a::r=>by
  have ih:=Zji h r;rw[aK,show ent a=.tup [rp a,.bl true]from rfl,Zki];by_cases e:a=p
  .subst e;rw[if_pos h];simp
  .rw[if_neg (λz=>e ((Zri h).mp z)),ih]
   have:p≠a:=λz=>e z.symm
   simp[this]
theorem ZnR(ms:List RP):ZmR kyU kk (.bl true) (ms.map ent)=ms.map ent:=by
 unfold ZmR;rw[bX];refine fz λa _=>?_;simp only[Function.comp,ent];split
 .rfl
 .rfl
theorem ZnS(h:kyU (rp p)=some kk)(ms:List RP):Zoa kyU kk (rp p) (.bl true) (ms.map ent)=(if p∈ms then ms else ms++[p]).map ent:=by
 unfold Zoa;rw[Zji h,ZnR];by_cases e:p∈ms
 .simp[e]
 .simp[e];rfl
def key(B:Nat)(m:RP):List Int:=[stc B m.1,stc B m.2]
noncomputable def Dv(B:Nat)(ms:List RP):Prop:=∀m∈ms,m.1.den ∣ B/\m.2.den ∣ B
theorem Zjj(h0:0<B)(h:Dv B ms)(ha:a∈ms)(hb:b∈ms)(e:key B a=key B b):a=b:=by
 unfold key at e;simp only[gR,and_true]at e;exact db (Zd7 h0 (h a ha).1 (h b hb).1 e.1) (Zd7 h0 (h a ha).2 (h b hb).2 e.2)
theorem Zrj(h0:0<B)(h:Dv B ms)(ha:a∈ms)(hb:b∈ms)(ne:a≠b)(e:ST.le (key B a) (key B b)):pl a b:=by
 have e:HT.ZaO (key B b) (key B a)=false:=e;unfold key at e;rw[HT.ZW]at e;have l1:=Zdd h0 (h a ha).1 (h b hb).1;by_cases c:stc B b.1=stc B a.1
 .rw[if_pos c,HT.ZW]at e;have c1:=Zd7 h0 (h b hb).1 (h a ha).1 c;have l2:=Zdd h0 (h a ha).2 (h b hb).2;by_cases d:stc B b.2=stc B a.2
  .exact absurd (db c1 (Zd7 h0 (h b hb).2 (h a ha).2 d)).symm ne
  .rw[if_neg d]at e;refine .inr ⟨c1.symm,l2.mp ?_⟩
   have:=of_decide_eq_false e
   lia
 .rw[if_neg c]at e;refine .inl (l1.mp ?_)
  have:=of_decide_eq_false e
  lia
theorem ZnT(h0:0<B)(h:Dv B ms)(nd:ms.Nodup):(ms.map (key B)).Nodup:=by
 refine cT.mpr ?_;refine fk (λha hb ne e=>ne (Zjj h0 h ha hb e)) nd
theorem Zgt{α:Type}(d0:α){f:α->List Int}{g:α->D}{ms:List α}(inj:∀a∈ms,∀b∈ms,f a=f b->a=b)(nd:ms.Nodup):∃ms':List α,ms'.Perm ms/\ms'.Pairwise (λa b=>f a≠f b/\ST.le (f a) (f b))/\ZkC (ms.map f) (ms.map g)=ms'.map g:=by
 have kn:(ms.map f).Nodup:=cT.mpr (fk (λha hb ne e=>ne (inj _ ha _ hb e)) nd)
 let inv (k:List Int):α:=(ms.find? (λm=>decide (f m=k))).getD d0
 have hinv:∀a∈ms,inv (f a)=a:=by
  intro a ha;show(ms.find? (λm=>decide (f m=f a))).getD d0=a;cases e:ms.find? (λm=>decide (f m=f a))with
  |none=>
   have:=List.find?_eq_none.mp e a ha
   simp at this
  |some b=>
   have h1:=List.find?_some e;have h2:=List.mem_of_find?_eq_some e;exact inj b h2 a ha (of_decide_eq_true h1)
 have hk:∀k∈ST.srt (ms.map f),∃a∈ms,f a=k:=λk hk=>by
  have:=(ST.Zbq _).mem_iff.mp hk
  obtain⟨a,ha,e⟩:=aV.mp this;exact⟨a,ha,e⟩
 refine⟨(ST.srt (ms.map f)).map inv,?_,?_,?_⟩
 .refine((ST.Zbq _).map inv).trans ?_;rw[bX]
  have:ms.map (inv∘f)=ms:=by
   conv=>rhs;rw[<-jP ms]
   exact fz λa ha=>hinv a ha
  rw[this]
 .refine cT.mpr ?_;have nd2:(ST.srt (ms.map f)).Nodup:=(ST.Zbq _).nodup_iff.mpr kn;have both:=mO.and nd2 (ST.Zgd (ms.map f));refine fk (λ{x y} hx hy hb=>?_) both;obtain⟨a,ha,rfl⟩:=hk x hx;obtain⟨b,hb',rfl⟩:=hk y hy;rw[hinv a ha,hinv b hb'];exact hb
 .unfold ZkC;rw[bX];refine fz λk hk'=>?_;obtain⟨a,ha,rfl⟩:=hk k hk';rw[Zdz (d:=g a) kn (by
   rw[List.zip_map'];exact aV.mpr ⟨a,ha,rfl⟩)]
  simp only[Function.comp,hinv a ha];rfl
theorem ZnU(h0:0<B)(h:Dv B ms)(nd:ms.Nodup):∃ms',ms'.Perm ms/\ms'.Pairwise pl/\ZkC (ms.map (key B)) (pts ms)=pts ms':=by
 obtain⟨ms',pm,pw,e⟩:=Zgt (g:=rp) (0,0) (λa ha b hb=>Zjj h0 h ha hb) nd;exact⟨ms',pm,fk (λ{x y} hx hy hb=>Zrj h0 h (pm.mem_iff.mp hx) (pm.mem_iff.mp hy) (λz=>hb.1 (by rw[z])) hb.2) pw,e⟩
theorem ZlQ:wO (Zg0 fs fr g ρ M) Q E=wO (fs ρ M) (kU (ZdU g fr ρ) Q E) E:=by unfold Zg0;exact ZG
noncomputable def Zbz(ms:List RP):List Rat:=ms.flatMap λm=>[m.1,m.2]
theorem Zjk:Zbz (ms++[m])=Zbz ms++[m.1,m.2]:=by simp[Zbz]
theorem ZcH:(Zbz ms).length=2*ms.length:=by
 induction ms with
 |nil=>rfl
 |cons a r ih=>simp[Zbz]at ih ⊢;lia
theorem ZaZ:x∈Zbz ms↔∃m∈ms,x=m.1\/x=m.2:=by simp[Zbz]
theorem ZlR(h:M[n]?=some (.lst (pts ms)))(hl:ms.length<=1000)(q:Q (.ref M.length) (M++[.lst (rts (Zbz ms))])):ZtO (gNm 0) (λ_ M=>.ok true M) (λn=>gIn (iSq (Zf 0)) (gNm 1) (λ_ M=>.ok true M) (gEm (Zf 1) n)) 2 [] ρ Q (.sto n) M:=by
 have hn:=Zy h;obtain⟨ρ',M',e,x,y,e1,e2⟩:=ZkN (src:=.sto n) (tg:=gNm 0) (c:=λ_ M=>.ok true M) (g:=gIn (iSq (Zf 0)) (gNm 1) (λ_ M=>.ok true M) (gEm (Zf 1) M.length)) (P:=λi ρ M'=>∃x y,ρ=[x,y]/\M'=M++[.lst (rts (Zbz (ms.take i)))]) ms.length (by
  rintro i ρ M' hi ⟨x,y,rfl,rfl⟩;have tk:ms.take (i+1)=ms.take i++[ms[i]]:=eS hi;refine⟨rp ms[i],[some (rp ms[i]),y],_,?_,rfl,.inr ⟨[some (rp ms[i]),some (rt ms[i].2)],M++[.lst (rts (Zbz (ms.take (i+1))))],rfl,?_,_,_,rfl,rfl⟩⟩
  .rw[ZiO (xs:=pts ms) (by rw[aB hn];exact h),aa (by rw[ZT];exact hi),ZaM]
  .have ln:((Zbz (ms.take i)).map rt).length<9999999:=by rw[af,ZcH,bN];lia
   rw[tk,Zjk];simp only[gIn,iSq,Out.bind,Zf,ke,ZcD,nxt,cnt,gNm,gEm,List.set_cons_zero,List.set_cons_succ,c8,bv,gW];rw[af]at ln;simp[rts];rw[if_pos ⋯]
   simp;rw[if_pos ⋯]) (by
  rintro ρ M' ⟨x,y,rfl,rfl⟩;rw[ZiO (xs:=pts ms) (by rw[aB hn];exact h),a8 (by rw[ZT];exact aj _)]) (cnt (.sto n) M) 0 (roB 2 [] ρ) (M++[.lst []]) ⋯ (by rw[ZiN h,ZT];lia) ⟨_,_,rfl,by simp[Zbz,rts]⟩
 refine⟨ρ',M',e,?_⟩;rw[e2,kr];exact q
theorem ZlS{ρ:Ro}{B:Nat}(hρ:ρ[1]?=some (some (.int (B:Int))))(hB:B<2^l)(hl:l<=50000000)(hk:k<=8000):∀ms:List RP,(∀p∈ms,Sz k p.1/\Sz k p.2)->Zc1 (ZX (Zc (Zj F_stretched (Zc (e2 dIx (Zf 0) (eC (.int 0))) (Zc (Zf 1) aNil))) (Zc (Zj F_stretched (Zc (e2 dIx (Zf 0) (eC (.int 1))) (Zc (Zf 1) aNil))) aNil))) [1] ρ M (pts ms) (ms.map (key B))
 |[],_=>.nil
 |a::r,hz=>by
  have ih:=ZlS hρ hB hl hk r (λp hp=>hz p (aF _ hp));have za:=hz a (by simp)
  refine .cons ⟨?_,by simp[key]⟩ ih
  have e:roL (rp a) [1] ρ=[some (rp a),some (.int (B:Int))]:=by simp[roL,hρ]
  show(ZX _ (roL (rp a) [1] ρ) M)=_;rw[e]
  have:wO (ZX (Zc (Zj F_stretched (Zc (e2 dIx (Zf 0) (eC (.int 0))) (Zc (Zf 1) aNil))) (Zc (Zj F_stretched (Zc (e2 dIx (Zf 0) (eC (.int 1))) (Zc (Zf 1) aNil))) aNil)) [some (rp a),some (.int (B:Int))] M) (λd M'=>d=tupD (key B a)/\M'=M) (λ_ _=>False):=by
   simp![ZaY za.1 hk hB hl,ZaY za.2 hk hB hl];rfl
  obtain⟨d,M',e,e1,e2⟩:=Zgj this;rw[e,e1,e2]
theorem Zg1(h:M[n]?=some (.lst (pts ms)))(nd:ms.Nodup)(hl:ms.length<64)(hz:∀p∈ms,Sz k p.1/\Sz k p.2)(hk:k<=8000)(q:∀ms' M',ms'.Perm ms->ms'.Pairwise pl->Kp M M'->M.length<M'.length->M'[M'.length-1]?=some (.lst (pts ms'))->Q (.ref (M'.length-1)) M'):wO (F_in_order [.ref n] M) Q E:=by
 have hn:=Zy h;simp![F_in_order,Zb9,ZiR];refine ZlR h ⋯ ?_
 have zf:∀x∈Zbz ms,Sz k x:=λx hx=>by
  obtain⟨m,hm,e|e⟩:=ZaZ.mp hx
  .rw[e];exact(hz m hm).1
  .rw[e];exact(hz m hm).2
 simp![Zgs (M:=M++[SO.lst (rts (Zbz ms))]) (n:=M.length) (xs:=Zbz ms) (k:=k) (by simp) (by rw[ZcH];lia) zf hk,ZlQ]
 have h0:=Zd6 (Zbz ms);have dv:Dv (Zdh (Zbz ms)) ms:=λm hm=>⟨ZcG (ZaZ.mpr ⟨m,hm,.inl rfl⟩),ZcG (ZaZ.mpr ⟨m,hm,.inr rfl⟩)⟩;have lb:=Zjh zf;rw[ZcH]at lb;have bl:2*ms.length*k+1<=50000000:=by
  have:=d9 (show 2*ms.length<=128 by lia) hk
  lia
 obtain⟨ms',pm,pw,es⟩:=ZnU h0 dv nd;have ok:Ziz (ZX (Zc (Zj F_stretched (Zc (e2 dIx (Zf 0) (eC (.int 0))) (Zc (Zf 1) aNil))) (Zc (Zj F_stretched (Zc (e2 dIx (Zf 0) (eC (.int 1))) (Zc (Zf 1) aNil))) aNil))) [1] [some (.ref n),some (.int (Zdh (Zbz ms):Nat))] (M++[SO.lst (rts (Zbz ms))]) (pts ms) (ms.map (key (Zdh (Zbz ms)))):=⟨by rw[ZT];lia,ZnT h0 dv nd,ZlS rfl lb bl hk ms hz⟩
 rw[ZdV (by rw[aB hn];exact h) ok,es]
 refine(?_:Q _ _)
 have:=q ms' (M++[SO.lst (rts (Zbz ms))]++[SO.lst (pts ms')]) pm pw (by rw[cS];exact Kp.app) (by simp) (by simp)
 simpa using this
def Bod(rs:List Pt)(hs:List Rat)(ms:List RP):Prop:=(∀p,p∈ms↔Cor rs hs p)/\ms.Pairwise pl
structure Met(rs:List Pt) (hs:List Rat) (K i:Nat) (ms:List RP):Prop where
 nd:ms.Nodup
 sz:∀p∈ms,Sz K p.1/\Sz K p.2
 cor:∀p∈ms,Cor rs hs p
 all:∀p i' j,i'<i->Win rs hs p->On rs hs p i'->On rs hs p j->X (cy rs i') (cy rs j)≠0->p∈ms
 len:ms.length<=2*i
theorem Zrk(h:M[n]?=some (.lst (prs rs)))(hs':Smo rs)(hb:Nr B rs)(hl:rs.length<=31)(h':M[m]?=some (.lst (rts hs)))(e:hs.length=rs.length)(hz:∀x∈hs,Sz k x)(hk:k<=900)(q:∀ms o M',Bod rs hs ms->(∀p∈ms,Sz (4*k+127) p.1/\Sz (4*k+127) p.2)->ms.length<=2*rs.length->Kp M M'->M.length<=o->M'[o]?=some (.lst (pts ms))->Q (.ref o) M')(hB:B<=1000000:=by first|decide|assumption):wO (F_body [.ref n,.ref m] M) Q E:=by
 have hn:=Zy h;have hm:=Zy h';simp![F_body,Zjb];refine CC.Zck h hs' (λx hx=>by have:=hb x hx;lia) ?_
 simp![Zq];refine ZeV h h' e ?_;have r0:(M++[SO.lst []])[M.length]?=some (.lst (([]:List RP).map ent)):=by simp
 simp![ZtS,h];rw[eN];refine Zby (n:=rs.length) (lo:=0) (λi ρ M'=>Kp M M'/\∃ms x3 x4,ρ=[some (.ref n),some (.ref m),some (.du M.length),x3,x4]/\M'[M.length]?=some (.lst (ms.map ent))/\Met rs hs (4*k+127) i ms) ⟨Kp.app,[],_,_,rfl,r0,⟨.nil,λp hp=>(by cases hp),λp hp=>(by cases hp),λp i' j hi=>(by lia),by simp⟩⟩ ?_ ?_
 .rintro i ρ M1 hi ⟨K1,ms,x3,x4,rfl,r1,me⟩;rw[show(0:Int)+(i:Nat)=i by lia]
  simp![Zdc];refine Zrg (K1.get h) hs' hb ⋯ (K1.get h') e hz hk hi λps o M2 ed lp zp K2 lo r2=>?_
  have hd:=Zy r1;have hne:o≠M.length:=⋯
  refine ZiI (xs:=pts ps) (λj ρ M'=>Kp M M'/\M'[o]?=some (.lst (pts ps))/\∃ms' x4,ρ=[some (.ref n),some (.ref m),some (.du M.length),some (.int i),x4]/\M'[M.length]?=some (.lst (ms'.map ent))/\ms'.Nodup/\(∀p,p∈ms'↔p∈ms\/p∈ps.take j)/\ms'.length<=ms.length+j) r2 ⟨K1.trans K2,r2,ms,_,rfl,K2.get r1,me.nd,λp=>by simp,⋯⟩ (λj ρ M' hI=>hI.2.1) ?_ ?_
  .rintro j ρ M3 hj ⟨K3,r3,ms',x4',rfl,rd,nd',mem',len'⟩;have hj':j<ps.length:=by rw[ZT]at hj;exact hj
   rw[ZaM];have tk:ps.take (j+1)=ps.take j++[ps[j]]:=eS hj';generalize ps[j]=p at *;obtain⟨kk,ek⟩:=Zt6 p;have hl3:=Zy rd;have lm:=me.len;simp![Zdb,ZqX,ZtQ,ZtP];refine⟨_,kk,rfl,ek,?_⟩;rw[rd];refine⟨by rw[af];lia,K3.set (aj _),by rw[aS ⋯];exact r3,(if p∈ms' then ms' else ms'++[p]),_,rfl,by rw[bf hl3,ZnS ek],?_,λp'=>?_,?_⟩
   .split
    .exact nd'
    .rename_i c;exact fV.mpr ⟨nd',by simp,λa ha b hb=>by simp at hb;subst hb;exact λz=>c (z▸ha)⟩
   .rw[tk];by_cases c:p∈ms'
    .rw[if_pos c,mem'];have c':=(mem' p).mp c;simp only[be,ay,bQ,or_false];constructor
     .rintro(z|z)
      .exact .inl z
      .exact .inr (.inl z)
     .rintro(z|z|z)
      .exact .inl z
      .exact .inr z
      .rw[z];exact c'
    .rw[if_neg c];simp only[be,mem',ay,bQ,or_false,or_assoc]
   .split
    .lia
    .simp;lia
  .rintro ρ M3 ⟨K3,r3,ms',x4',rfl,rd,nd',mem',len'⟩;rw[ZT,kr]at mem';rw[ZT]at len';have lm:=me.len;refine⟨K3,ms',_,_,rfl,rd,⟨nd',λp hp=>?_,λp hp=>?_,λp i' j hi' w o1 o2 ne=>?_,⋯⟩⟩
   .rcases(mem' p).mp hp with z|z
    .exact me.sz p z
    .exact zp p z
   .rcases(mem' p).mp hp with z|z
    .exact me.cor p z
    .exact ed.1 p z
   .by_cases z:i'=i
    .subst z;exact(mem' p).mpr (.inr (ed.2 p j w o1 o2 ne))
    .exact(mem' p).mpr (.inl (me.all p i' j ⋯ w o1 o2 ne))
 .rintro ρ M1 ⟨K1,ms,x3,x4,rfl,r1,me⟩;have hd:=Zy r1;have lm:=me.len;simp![ZtR,Zvc,r1];have em:(ms.map ent).map Zid=pts ms:=by rw[bX];rfl
  rw[em];refine Zg1 (k:=4*k+127) (ms:=ms) (M:=M1++[SO.lst (pts ms)]) (by simp) me.nd ⋯ me.sz ⋯ λms' M' pm pw K' l' r'=>?_
  refine q ms' _ M' ⟨λp=>⟨λhp=>me.cor p (pm.mem_iff.mp hp),λ⟨w,i,j,o1,o2,ne⟩=>pm.mem_iff.mpr (me.all p i j o1.1 w o1 o2 ne)⟩,pw⟩ (λp hp=>me.sz p (pm.mem_iff.mp hp)) (by rw[pm.length_eq];lia) (K1.trans (Kp.app.trans K')) ?_ r'
  have:=K1.1
  have:=K'.1
  simp at this;lia
end
end BD
namespace BL
open L2 DL
def ZbA:Sv:=(Zdi 2 3 (Zc (Zf 3) (Zc (e2 dMod (Zf 2) (Zf 3)) aNil)))
open CV CN CU CS
open CR (rt Sz)
open CH (rts ZH ZM)
open CD (pts ZT ZaM)
open Rb BD
def crn(r s:Pt)(x y:Rat):RP:=(((r.2:Rat)*y-s.2*x)/(X r s:Rat),((s.1:Rat)*x-r.1*y)/(X r s:Rat))
theorem ZnV(ne:X r s≠0):p=crn r s x y↔slp p r= -x/\slp p s= -y:=by
 have nz:((X r s:Int):Rat)≠0:=λz=>ne (kq.mp z);have e1:=ZdD (a:=(r.2:Rat)*y-s.2*x) nz;have e2:=ZdD (a:=(s.1:Rat)*x-r.1*y) nz;have ex:=Za3 r s;unfold crn slp;generalize ((r.2:Rat)*y-s.2*x)/(X r s:Rat)=a at *;generalize ((s.1:Rat)*x-r.1*y)/(X r s:Rat)=b at *;generalize ((X r s:Int):Rat)=c at *;constructor
 .rintro rfl;constructor
  .simp only
   have:c*(a*r.1+b*r.2)=c*(-x):=by grind
   grind
  .simp only
   have:c*(a*s.1+b*s.2)=c*(-y):=by grind
   grind
 .rintro⟨h1,h2⟩;refine db ?_ ?_
  .simp only
   have:c*p.1=c*a:=by grind
   grind
  .simp only
   have:c*p.2=c*b:=by grind
   grind
end BL
namespace Rb
open L2 DL
open CN (cq)
open CS (slp)
open TW
theorem Zt7(h:Smo rs)(hi:i<rs.length)(hj:j<rs.length)(ne:i≠j)(h1:0<=X (cy rs i) (cy rs j))(h2:0<X (cy rs j) (cy rs (i+1))):False:=by
 have hr:=h.rn;have p2:=hr.pos j;have w0:cy rs j≠(0,0):=by
  intro z;rw[z]at p2;unfold X at p2;simp at p2
 have c:=(hr.fan (cy rs j) w0).1;rw[Zgo hr.ne]at c;have a1:=ZiV (w:=cy rs j) (a:=cy rs i) (b:=cy rs (i+1)) ⋯ h2
 have a2:=ZiV (w:=cy rs j) (a:=cy rs j) (b:=cy rs (j+1)) (by rw[XX];lia) p2
 rcases(show i<j\/j<i by lia)with z|z
 .have g:=Zi1 (f:=in1 (cy rs j)) (rs:=rs) rs.length 0 i j z hj;rw[show(0:Int)+i=i by lia,show(0:Int)+j=j by lia,a1,a2]at g
  lia
 .have g:=Zi1 (f:=in1 (cy rs j)) (rs:=rs) rs.length 0 j i z hi;rw[show(0:Int)+i=i by lia,show(0:Int)+j=j by lia,a1,a2]at g
  lia
theorem free(h:Smo rs)(hi:i<rs.length)(hj:j<rs.length)(h1:0<X (cy rs i) (cy rs j))(h2:0<X (cy rs j) (cy rs (i+1))):False:=Zt7 h hi hj (λz=>by subst z;rw[XX]at h1;lia) ⋯ h2
theorem Zg3(p:RP)(s t v:Pt):(X s t:Rat)*slp p v=(X v t:Rat)*slp p s+(X s v:Rat)*slp p t:=by
 rw[Za3,Za3,Za3];unfold slp;grind
structure Cn(s t r b:Pt):Prop where
 st:0<X s t
 sr:0<=X s r
 rt:0<=X r t
 sb:0<=X s b
 bt:0<=X b t
def vl(s t w:Pt)(x y:Rat):Rat:= -((X w t:Rat)*x+(X s w:Rat)*y)
theorem ge0{a:Int}(h:0<=a):(0:Rat)<=(a:Rat):=Rat.intCast_nonneg.mpr h
theorem gt0{a:Int}(h:0<a):(0:Rat)<(a:Rat):=dM.mpr h
theorem Zvg{α:Type}(P:α->Prop)(f:α->Rat):∀L:List α,(∃x∈L,P x)->∃x∈L,P x/\∀y∈L,P y->f y<=f x
 |[],⟨x,hx,_⟩=>by cases hx
 |a::L,h=>by
  classical
  by_cases hL:∃x∈L,P x
  .obtain⟨x,hx,px,mx⟩:=Zvg P f L hL;by_cases c:P a/\f x<f a
   .refine⟨a,by simp,c.1,λy hy py=>?_⟩
    rcases ay.mp hy with rfl|hy
    .exact ik
    .have:=mx y hy py
     grind
   .refine⟨x,aF _ hx,px,λy hy py=>?_⟩;rcases ay.mp hy with rfl|hy
    .by_cases z:f y<=f x
     .exact z
     .exact absurd ⟨py,by grind⟩ c
    .exact mx y hy py
  .obtain⟨x,hx,px⟩:=h;rcases ay.mp hx with rfl|hx
   .refine⟨x,by simp,px,λy hy py=>?_⟩
    rcases ay.mp hy with rfl|hy
    .exact ik
    .exact absurd ⟨y,hy,py⟩ hL
   .exact absurd ⟨x,hx,px⟩ hL
theorem plk(r u s t:Pt):X r u*X s t=X r t*X s u-X s r*X u t:=by unfold X;grind
theorem swap(c:Cn s t r b)(rb:X r b=1)(fr:¬(0<X r u/\0<X u b))(no:¬(X u t<=0/\X s u<=0)):Cn s u r b\/Cn u t r b:=by
 obtain⟨st,sr,rt,sb,bt⟩:=c;have e1:=plk r u s t;have e2:=plk b u s t;have e3:=plk r b s t;rw[rb]at e3;have sw:∀p q:Pt,X p q= -(X q p):=λp q=>by unfold X;grind
 have u1:=sw u r;have u2:=sw u b;generalize g1:X r u=ru at *;generalize g2:X b u=bu at *;generalize g3:X r t=r1 at *;generalize g4:X s r=r2 at *;generalize hb1:X b t=b1 at *;generalize g5:X s b=b2 at *;generalize ha:X u t=a at *;generalize hc:X s u=c at *;generalize g6:X s t=k at *;have r1p:0<r1:=by
  rcases(show r1=0\/0<r1 by lia)with z|z
  .rw[z]at e3
   have:=bK sr bt
   lia
  .exact z
 have b2p:0<b2:=by
  rcases(show b2=0\/0<b2 by lia)with z|z
  .rw[z]at e3
   have:=bK sr bt
   simp at e3;lia
  .exact z
 have pos:∀{x:Int},0<=x*k->0<=x:=λ{x} h=>by
  by_cases z:0<=x
  .exact z
  .have:=ii (show 0 < -x by lia) st
   rw[mo]at this;lia
 have npos:∀{x:Int},x*k<=0->x<=0:=λ{x} h=>by
  by_cases z:x<=0
  .exact z
  .have:=ii (show 0<x by lia) st
   lia
 by_cases hc0:0<c
 .by_cases ha0:0<a
  .by_cases f:0<ru
   .
    have f2:¬0<X u b:=λz=>fr ⟨f,z⟩;have bu0:0<=bu:=⋯
    exact .inl ⟨⋯,⋯,⋯,⋯,⋯⟩
   .have ur:0<=X u r:=⋯
    refine .inr ⟨⋯,ur,⋯,?_,⋯⟩
    have h1:ru*k<=0:=by
     have:=bK (show 0<= -ru by lia) (show 0<=k by lia)
     rw[mo]at this;lia
    have m1:r1*(b1*c-b2*a)<=0:=by
     have q1:=bK (show 0<=r2*a-r1*c by lia) bt
     have q2:=bK (show 0<=r1*b2-r2*b1 by lia) (show 0<=a by lia)
     have:r1*(b1*c-b2*a)= -((r2*a-r1*c)*b1)-(r1*b2-r2*b1)*a:=by grind
     lia
    have m2:b1*c-b2*a<=0:=by
     by_cases z:b1*c-b2*a<=0
     .exact z
     .have:=ii r1p (show 0<b1*c-b2*a by lia)
      lia
    have:=npos (x:=bu) ⋯
    lia
  .refine .inl ⟨⋯,⋯,?_,⋯,?_⟩
   .have q1:=bK (show 0<=r1 by lia) (show 0<=c by lia)
    have q2:=bK sr (show 0<= -a by lia)
    rw[nR]at q2
    have:=pos (x:=ru) ⋯
    lia
   .have q1:=bK bt (show 0<=c by lia)
    have q2:=bK sb (show 0<= -a by lia)
    rw[nR]at q2
    have:=pos (x:=bu) ⋯
    lia
 .have ha0:0<a:=⋯
  have q1:=bK (show 0<=r1 by lia) (show 0<= -c by lia)
  have q2:=bK sr (show 0<=a by lia)
  have q3:=bK bt (show 0<= -c by lia)
  have q4:=bK sb (show 0<=a by lia)
  rw[nR]at q1 q3;have z1:=npos (x:=ru) ⋯
  have z2:=npos (x:=bu) ⋯
  exact .inr ⟨⋯,⋯,⋯,⋯,⋯⟩
theorem Zjl{a:Rat}(hc:0<c)(h:a<b):c*a<c*b:=(gL hc).mpr h
theorem more(c:Cn s u r b)(rb:X r b=1)(sb:0<X s r+X s b)(ps:slp p s= -x)(ps':slp p' s= -x)(pu:slp p u < -y)(pu':slp p' u= -y):slp p r+slp p b<slp p' r+slp p' b:=by
 have t1:=Zg3 p s u r;have t2:=Zg3 p s u b;have t3:=Zg3 p' s u r;have t4:=Zg3 p' s u b;have k:=gt0 c.st;have q:(0:Rat)<(X s r:Rat)+(X s b:Rat):=by rw[<-eM];exact gt0 sb
 have:=Zjl q pu
 rw[ps]at t1 t2;rw[ps',pu']at t3 t4;generalize slp p r=a1 at *;generalize slp p b=a2 at *;generalize slp p' r=a3 at *;generalize slp p' b=a4 at *;generalize slp p u=z at *;have e:(X s u:Rat)*(a1+a2)<(X s u:Rat)*(a3+a4):=by grind
 exact(gL k).mp e
theorem Zt8(c:Cn u t r b)(rb:X r b=1)(sb:0<X r t+X b t)(ps:slp p t= -x)(ps':slp p' t= -x)(pu:slp p u < -y)(pu':slp p' u= -y):slp p r+slp p b<slp p' r+slp p' b:=by
 have t1:=Zg3 p u t r;have t2:=Zg3 p u t b;have t3:=Zg3 p' u t r;have t4:=Zg3 p' u t b;have k:=gt0 c.st;have q:(0:Rat)<(X r t:Rat)+(X b t:Rat):=by rw[<-eM];exact gt0 sb
 have:=Zjl q pu
 rw[ps]at t1 t2;rw[ps',pu']at t3 t4;generalize slp p r=a1 at *;generalize slp p b=a2 at *;generalize slp p' r=a3 at *;generalize slp p' b=a4 at *;generalize slp p u=z at *;have e:(X u t:Rat)*(a1+a2)<(X u t:Rat)*(a3+a4):=by grind
 exact(gL k).mp e
theorem ZlT(c:Cn s t r b)(rb:X r b=1):0<X s r+X s b/\0<X r t+X b t:=by
 have e3:=plk r b s t;rw[rb]at e3;obtain⟨st,sr,rt,sb,bt⟩:=c;generalize X r t=r1 at *;generalize X s r=r2 at *;generalize X b t=b1 at *;generalize X s b=b2 at *;constructor
 .by_cases z:0<r2+b2
  .exact z
  .have e1:r2=0:=⋯
   have e2:b2=0:=⋯
   rw[e1,e2]at e3;simp at e3;lia
 .by_cases z:0<r1+b1
  .exact z
  .have e1:r1=0:=⋯
   have e2:b1=0:=⋯
   rw[e1,e2]at e3;simp at e3;lia
theorem wed(h:Smo rs)(hi:i<rs.length)(hq:Win rs hs q):∃p s t,Win rs hs p/\On rs hs p s/\On rs hs p t/\Cn (cy rs s) (cy rs t) (cy rs i) (cy rs (i+1)):=by
 have rb:=h.one i;obtain⟨j,hj,ej⟩:=BD.Zje (rs:=rs) (z:=(i:Int)+1) h.ne
 let L:List (Nat×Nat):=(aI rs.length).flatMap λa=>(aI rs.length).map λb=>(a,b)
 have mem:∀a b,a<rs.length->b<rs.length->(a,b)∈L:=λa b ha hb=>kz.mpr ⟨a,bH.mpr ha,aV.mpr ⟨b,bH.mpr hb,rfl⟩⟩;have mem':∀x∈L,x.1<rs.length/\x.2<rs.length:=λx hx=>by
  obtain⟨a,ha,hb⟩:=kz.mp hx;obtain⟨b,hb2,rfl⟩:=aV.mp hb;exact⟨bH.mp ha,bH.mp hb2⟩
 let pt (x:Nat×Nat):RP:=BL.crn (cy rs x.1) (cy rs x.2) (cq hs x.1) (cq hs x.2)
 have xx:∀p:Pt,X p p=0:=λp=>by unfold X;grind
 obtain⟨⟨s,t⟩,hst,cn,mx⟩:=Zvg (λx:Nat×Nat=>Cn (cy rs x.1) (cy rs x.2) (cy rs i) (cy rs (i+1))) (λx=>slp (pt x) (cy rs i)+slp (pt x) (cy rs (i+1))) L ⟨(i,j),mem i j hi hj,by
  simp only[ej];exact⟨⋯,by rw[xx];lia,⋯,⋯,by rw[xx];lia⟩⟩
 obtain⟨hs0,ht0⟩:=mem' _ hst;simp only at cn hs0 ht0;have on:∀a b:Nat,X (cy rs a) (cy rs b)≠0->slp (pt (a,b)) (cy rs a)= -(cq hs a)/\slp (pt (a,b)) (cy rs b)= -(cq hs b):=λa b ne=>(BL.ZnV ne).mp rfl;obtain⟨o1,o2⟩:=on s t (by have:=cn.st;lia)
 have w:Win rs hs (pt (s,t)):=by
  intro u hu;by_cases z: -(cq hs u)<=slp (pt (s,t)) (cy rs u)
  .exact z
  .exfalso;have z:slp (pt (s,t)) (cy rs u) < -(cq hs u):=by grind
   by_cases no:X (cy rs u) (cy rs t)<=0/\X (cy rs s) (cy rs u)<=0
   .have t1:=Zg3 q (cy rs s) (cy rs t) (cy rs u);have t2:=Zg3 (pt (s,t)) (cy rs s) (cy rs t) (cy rs u);have a1:=hq s hs0;have a2:=hq t ht0;have a3:=hq u hu;have k:=gt0 cn.st;have n1:(X (cy rs u) (cy rs t):Rat)<=0:=jB.mpr no.1;have n2:(X (cy rs s) (cy rs u):Rat)<=0:=jB.mpr no.2;rw[o1,o2]at t2;have b1:=a7 a1 (show 0<= -(X (cy rs u) (cy rs t):Rat)by grind)
    have b2:=a7 a2 (show 0<= -(X (cy rs s) (cy rs u):Rat)by grind)
    have b3:=a7 a3 (show 0<=(X (cy rs s) (cy rs t):Rat)by grind)
    have b4:=Zjl k z;grind
   .rcases swap cn rb (λf=>free h hi hu f.1 f.2) no with c|c
    .obtain⟨o3,o4⟩:=on s u (by have:=c.st;lia)
     have:=more c rb (ZlT c rb).1 o1 o3 z o4
     have:=mx (s,u) (mem s u hs0 hu) c
     grind
    .obtain⟨o3,o4⟩:=on u t (by have:=c.st;lia)
     have:=Zt8 c rb (ZlT c rb).2 o2 o4 z o3
     have:=mx (u,t) (mem u t hu ht0) c
     grind
 exact⟨pt (s,t),s,t,w,⟨hs0,o1⟩,⟨ht0,o2⟩,cn⟩
theorem Zrl(os:On rs hs p s)(ot:On rs hs p t)(st:0<X (cy rs s) (cy rs t))(h1:0<=X v (cy rs t))(h2:0<=X (cy rs s) v)(hq:Win rs hs q):slp p v<=slp q v:=by
 have a1:=hq s os.1;have a2:=hq t ot.1;rw[<-os.2]at a1;rw[<-ot.2]at a2;have k:=gt0 st;have t1:=Zg3 q (cy rs s) (cy rs t) v;have t2:=Zg3 p (cy rs s) (cy rs t) v;have b1:=a7 a1 (ge0 h1);have b2:=a7 a2 (ge0 h2);refine(Z7 k).mp ?_;rw[t1,t2];grind
theorem Zt9(h:Smo rs)(hi:i<rs.length)(hq:Win rs hs q):∃p,Cor rs hs p/\∀q,Win rs hs q->slp p (cy rs i)<=slp q (cy rs i)/\slp p (cy rs (i+1))<=slp q (cy rs (i+1)):=by
 obtain⟨p,s,t,w,os,ot,cn⟩:=wed h hi hq;exact⟨p,⟨w,s,t,os,ot,by have:=cn.st;lia⟩,λq hq=>⟨Zrl os ot cn.st cn.rt cn.sr hq,Zrl os ot cn.st cn.bt cn.sb hq⟩⟩
end Rb
namespace Ri
open L2 DL
noncomputable def pd(p r:Pt):Int:=p.1*r.1+p.2*r.2
def gv(P:List Pt)(r:Pt):List Int:=P.map λp=>pd p r
def mx(P:List Pt)(r:Pt):Int:=(gv P r).max?.getD 0
def mn(P:List Pt)(r:Pt):Int:=(gv P r).min?.getD 0
def wd(P:List Pt)(r:Pt):Int:=mx P r-mn P r
noncomputable def lss(w:Pt)(m:Int)(n:Pt):Pt:=(w.1-m*n.1,w.2-m*n.2)
noncomputable def sm(S:Nat)(r:Pt):Prop:=r.1.natAbs<=S/\r.2.natAbs<=S
noncomputable def df(p q:Pt):Pt:=(p.1-q.1,p.2-q.2)
section
variable {P:List Pt}{n w:Pt}{C:Nat}
theorem Zfx(h:P≠[]):(gv P r).max?=some (mx P r)/\(∃p∈P,mx P r=pd p r)/\∀p∈P,pd p r<=mx P r:=by
 cases e:(gv P r).max? with
 |none=>exact absurd (i4.mp (lM.mp e)) h
 |some m=>
  obtain⟨h1,h2⟩:=iE.mp e;have t:mx P r=m:=by unfold mx;rw[e];rfl
  rw[t];obtain⟨u,hu,eu⟩:=aV.mp h1;exact⟨rfl,⟨u,hu,eu.symm⟩,λv hv=>h2 _ (aV.mpr ⟨v,hv,rfl⟩)⟩
theorem Zfy(h:P≠[]):(gv P r).min?=some (mn P r)/\(∃p∈P,mn P r=pd p r)/\∀p∈P,mn P r<=pd p r:=by
 cases e:(gv P r).min? with
 |none=>exact absurd (i4.mp (List.min?_eq_none_iff.mp e)) h
 |some m=>
  obtain⟨h1,h2⟩:=lG.mp e;have t:mn P r=m:=by unfold mn;rw[e];rfl
  rw[t];obtain⟨u,hu,eu⟩:=aV.mp h1;exact⟨rfl,⟨u,hu,eu.symm⟩,λv hv=>h2 _ (aV.mpr ⟨v,hv,rfl⟩)⟩
theorem Zua(h:P≠[]):0<=wd P r:=by
 obtain⟨_,⟨p,hp,e⟩,_⟩:=Zfx (r:=r) h
 have:=(Zfy (r:=r) h).2.2 p hp
 unfold wd;lia
theorem Zub(hp:p∈P)(hq:q∈P):(pd (df p q) r).natAbs<=wd P r:=by
 have hne:P≠[]:=λz=>by rw[z]at hp;cases hp
 have a1:=(Zfx (r:=r) hne).2.2 p hp;have a2:=(Zfx (r:=r) hne).2.2 q hq;have b1:=(Zfy (r:=r) hne).2.2 p hp;have b2:=(Zfy (r:=r) hne).2.2 q hq;have e:pd (df p q) r=pd p r-pd q r:=by unfold pd df;grind
 rw[e];unfold wd;lia
theorem ZnW(h:P≠[]):∃p∈P,∃q∈P,wd P r=pd (df p q) r:=by
 obtain⟨_,⟨p,hp,e⟩,_⟩:=Zfx (r:=r) h;obtain⟨_,⟨q,hq,e'⟩,_⟩:=Zfy (r:=r) h;refine⟨p,hp,q,hq,?_⟩;unfold wd;rw[e,e'];unfold pd df;grind
theorem Zco{a:Int}(h1:a.natAbs<=x)(h2:b.natAbs<=y):(a*b).natAbs<=x*y:=by
 rw[aW];exact d9 h1 h2
theorem ZnX(hc:∀p∈P,sm C p)(hp:p∈P)(hq:q∈P):sm (2*C) (df p q):=by
 have h1:=hc p hp;have h2:=hc q hq;unfold sm df at *;dsimp only
 omega
theorem Zuc(h:P≠[])(hc:∀p∈P,sm C p):wd P (1,0)<=(2*C:Nat)/\wd P (0,1)<=(2*C:Nat):=by
 constructor
 .obtain⟨p,hp,q,hq,e⟩:=ZnW (r:=(1,0)) h;have hd:=ZnX hc hp hq;rw[e];unfold pd sm at *;lia
 .obtain⟨p,hp,q,hq,e⟩:=ZnW (r:=(0,1)) h;have hd:=ZnX hc hp hq;rw[e];unfold pd sm at *;lia
theorem Zrm:X n (lss w m n)=X n w:=by unfold X lss;grind
theorem ZeQ:X w n= -X n w:=by unfold X;grind
theorem Zjm{D:Nat}(h:b*x<=D+a*y)(ab:a<b):x<=D+y:=by
 have h1:a*y<=b*y:=eU _ ⋯
 have h2:D<=b*D:=Nat.le_mul_of_pos_left _ ⋯
 have h3:b*x<=b*(D+y):=by rw[Nat.mul_add];lia
 exact Nat.le_of_mul_le_mul_left h3 ⋯
noncomputable def Sc(C:Nat):Nat:=1+2*C*(2*C)
structure Tw(P:List Pt) (C:Nat) (n w:Pt) (k:Nat):Prop where
 kk:k=(wd P n).toNat
 x:X n w=1\/X n w= -1
 le:wd P n<=wd P w
 c:wd P w<=(2*C:Nat)
 sn:sm (1+(2*C-k)*(2*C)) n
 sw:sm (1+(2*C-k)*(2*C)) w
theorem Tw.bd(t:Tw P C n w k):sm (Sc C) n/\sm (Sc C) w:=by
 have:(2*C-k)*(2*C)<=2*C*(2*C):=eU _ ⋯
 have h1:=t.sn;have h2:=t.sw;unfold sm Sc at *;lia
theorem Tw.new(h:P≠[])(hc:∀p∈P,sm C p)(hn:n=(1,0)/\w=(0,1)\/n=(0,1)/\w=(1,0))(le:wd P n<=wd P w):Tw P C n w (wd P n).toNat:=by
 have w10:=Zuc h hc;have s1:sm 1 n/\sm 1 w:=by
  rcases hn with⟨rfl,rfl⟩|⟨rfl,rfl⟩<;>simp[sm]
 have cc:wd P w<=(2*C:Nat):=by rcases hn with⟨_,rfl⟩|⟨_,rfl⟩<;>first|exact w10.2|exact w10.1
 refine⟨rfl,?_,le,cc,?_,?_⟩
 .rcases hn with⟨rfl,rfl⟩|⟨rfl,rfl⟩<;>simp[X]
 all_goals
  unfold sm at *;lia
theorem Tw.turn(t:Tw P C n w k)(h:P≠[])(hc:∀p∈P,sm C p)(h0:0<wd P n)(lt:wd P (lss w m n)<wd P n):∃k'<k,Tw P C (lss w m n) n k':=by
 have nn:=Zua (r:=lss w m n) h;have tk:=t.kk;have tc:=t.c;have tle:=t.le;have hx:X (lss w m n) n=1\/X (lss w m n) n= -1:=by
  rw[ZeQ,Zrm];rcases t.x with z|z<;>rw[z]<;>simp
 obtain⟨p,hp,q,hq,e⟩:=ZnW (r:=n) h;have hd:=ZnX hc hp hq;have g:=Zub (r:=lss w m n) hp hq;have sn:=t.sn;generalize lss w m n=v at *;have k2:(2*C-k)*(2*C)+2*C<=(2*C-(wd P v).toNat)*(2*C):=by
  have:=eU (2*C) (show 2*C-k+1<=2*C-(wd P v).toNat by omega)
  rwa [Nat.add_mul,Nat.one_mul]at this
 have e1:pd (df p q) n*v.1-pd (df p q) v*n.1=(df p q).2*X v n:=by unfold pd X;grind
 have e2:pd (df p q) n*v.2-pd (df p q) v*n.2= -((df p q).1*X v n):=by unfold pd X;grind
 have ab:(pd (df p q) v).natAbs<(pd (df p q) n).natAbs:=by omega
 have l1:(pd (df p q) n).natAbs*v.1.natAbs<=2*C+(pd (df p q) v).natAbs*n.1.natAbs:=by
  rw[<-aW,<-aW]
  have:=hd.2
  rcases hx with z|z<;>rw[z]at e1<;>omega
 have l2:(pd (df p q) n).natAbs*v.2.natAbs<=2*C+(pd (df p q) v).natAbs*n.2.natAbs:=by
  rw[<-aW,<-aW]
  have:=hd.1
  rcases hx with z|z<;>rw[z]at e2<;>omega
 have n1:=Zjm l1 ab;have n2:=Zjm l2 ab;refine⟨(wd P v).toNat,by omega,⟨rfl,hx,by omega,by omega,?_,?_⟩⟩
 all_goals
  unfold sm at *
  omega
theorem Tw.end_(t:Tw P C n w k)(hm:m.natAbs<=4*C+1):sm ((4*C+2)*Sc C) (lss w m n):=by
 have h1:=t.bd.1;have h2:=t.bd.2;have m1:=Zco hm h1.1;have m2:=Zco hm h1.2;have e:(4*C+2)*Sc C=(4*C+1)*Sc C+Sc C:=by grind
 unfold sm lss at *;dsimp only
 omega
end
open CN (cq)
open CS (slp)
open TW Rb
section
variable {rs:List Pt}
theorem Zjn{f:Pt->Pt->Nat}:∀(n:Nat)(a:Int),(∀c:Nat,c<n->f (cy rs (a+c)) (cy rs (a+c+1))=0)->sf f rs a n=0
 |0,a,_=>rfl
 |n+1,a,h=>by
  have h0:=h 0 ⋯
  have ih:=Zjn n (a+1) λc hc=>by
   have:=h (c+1) ⋯
   rw[show a+((c+1:Nat):Int)=a+1+c by lia]at this
   exact this
  unfold sf;simp at h0;lia
theorem Zrn(h:Smo rs)(hv:v≠(0,0)):∃i:Nat,i<rs.length/\0<=X (cy rs i) v/\0<X v (cy rs (i+1)):=by
 apply Classical.byContradiction;intro no;have c:=(h.rn.fan v hv).1;rw[Zgo h.ne]at c;have z:=Zjn (f:=in1 v) (rs:=rs) rs.length 0 λc hc=>by
  unfold in1;rw[if_neg];intro q;refine no ⟨c,hc,?_⟩
  simpa using q
 lia
theorem ZeW(h:Smo rs)(hv:v≠(0,0))(hq:Win rs hs q):∃p,Cor rs hs p/\∀q,Win rs hs q->slp p v<=slp q v:=by
 obtain⟨i,hi,a,b⟩:=Zrn h hv;obtain⟨p,cp,le⟩:=Zt9 h hi hq;refine⟨p,cp,λq hq=>?_⟩;obtain⟨l1,l2⟩:=le q hq;have one:=h.one i;rw[Zbi one,Zbi (p:=q) one];have m1:=a7 l1 (ge0 (show 0<=X v (cy rs (i+1))by lia))
 have m2:=a7 l2 (ge0 a);grind
theorem both(h:Smo rs)(hv:v≠(0,0)):(∃i<rs.length,0<X v (cy rs i))/\∃i<rs.length,X v (cy rs i)<0:=by
 have key:∀v:Pt,v≠(0,0)->∃i<rs.length,0<X v (cy rs i):=by
  intro v hv;obtain⟨i,hi,a,b⟩:=Zrn h hv;have hl:=h.len;refine⟨(i+1)%rs.length,Nat.mod_lt _ ⋯,?_⟩
  rw[show(((i+1)%rs.length:Nat):Int)=((i:Int)+1)%(rs.length:Int)by rw[Int.natCast_emod,Int.natCast_add];rfl,Zc4]
  exact b
 refine⟨key v hv,?_⟩;obtain⟨i,hi,z⟩:=key (-v.1,-v.2) (λz=>hv (by
  have z1:=congrArg ny z;have z2:=congrArg Prod.snd z;simp at z1 z2;exact db z1 z2))
 refine⟨i,hi,?_⟩;unfold X at *;grind
noncomputable def ip(m:Pt):RP:=((m.1:Rat),(m.2:Rat))
theorem Zbj(m r:Pt):slp (ip m) r=((pd m r:Int):Rat):=by
 unfold slp ip pd;rw[eM,aN,aN]
noncomputable def qt(u v:Pt)(g o:Int):Pt:=(g*v.2-o*u.2,o*u.1-g*v.1)
theorem Zjo(h:X u v=1)(g o:Int)(r:Pt):pd (qt u v g o) r=X r v*g+X u r*o:=by
 unfold pd qt X at *;grind
theorem Zud(h:X u v=1)(m:Pt):qt u v (pd m u) (pd m v)=m:=by
 unfold qt pd X at *;exact db (by simp only;grind) (by simp only;grind)
theorem Zgu(x:Rat)(a:Int): -x<=(a:Rat)↔0<=x.num+a*(x.den:Int):=by
 have hd:(0:Rat)<((x.den:Int):Rat):=dM.mpr (hU.mpr (b8 x.den_nz));have e:(x.num:Rat)=x*((x.den:Int):Rat):=by rw[BD.ZdC x];rfl
 rw[<-Rat.intCast_nonneg,eM,aN,e];constructor
 .intro h
  have:=dA h (show(0:Rat)<=((x.den:Int):Rat)by grind)
  grind
 .intro h
  have:0*((x.den:Int):Rat)<=(x+a)*((x.den:Int):Rat):=by grind
  have:=eB this hd
  grind
theorem ZnY(h:X u v=1){g:Int}(hp:Win rs hs p)(hq:Win rs hs q)(h1:slp p u<=(g:Rat))(h2:(g:Rat)<=slp q u)(o:Int):Win rs hs (ip (qt u v g o))↔∀j:Nat,j<rs.length->X u (cy rs j)*((cq hs j).den:Int)≠0->0<=X u (cy rs j)*((cq hs j).den:Int)*o+((cq hs j).num+X (cy rs j) v*g*((cq hs j).den:Int)):=by
 have each:∀j:Nat,(-(cq hs j)<=slp (ip (qt u v g o)) (cy rs j))↔0<=X u (cy rs j)*((cq hs j).den:Int)*o+((cq hs j).num+X (cy rs j) v*g*((cq hs j).den:Int)):=by
  intro j;rw[Zbj,Zjo h,Zgu,show(cq hs j).num+(X (cy rs j) v*g+X u (cy rs j)*o)*((cq hs j).den:Int)=X u (cy rs j)*((cq hs j).den:Int)*o+((cq hs j).num+X (cy rs j) v*g*((cq hs j).den:Int))by grind]
 constructor
 .intro w j hj _;exact(each j).mp (w j hj)
 .intro w j hj;by_cases c:X u (cy rs j)*((cq hs j).den:Int)=0
  .have hd:((cq hs j).den:Int)≠0:=by have:=(cq hs j).den_nz;lia
   have c0:X u (cy rs j)=0:=(Int.mul_eq_zero.mp c).resolve_right hd;have wp:=hp j hj;have wq:=hq j hj;rw[Zbi h,c0]at wp wq;rw[Zbj,Zjo h,c0,eM,aN];rcases(show 0<=X (cy rs j) v\/X (cy rs j) v<=0 by lia)with s|s
   .have:=a7 h1 (ge0 s)
    grind
   .have s':(0:Rat)<= -((X (cy rs j) v:Int):Rat):=by
     have:=ge0 (show 0<= -X (cy rs j) v by lia)
     rw[eL]at this;exact this
    have:=a7 h2 s'
    grind
  .exact(each j).mpr (w j hj c)
theorem Zjp(h:Smo rs)(hu:u≠(0,0))(hm:Win rs hs (ip m)):∃p q,Cor rs hs p/\Cor rs hs q/\slp p u<=((pd m u:Int):Rat)/\((pd m u:Int):Rat)<=slp q u:=by
 obtain⟨p,cp,lp⟩:=ZeW h hu hm;obtain⟨q,cq',lq⟩:=ZeW (v:=(-u.1,-u.2)) h (λz=>hu (by
  have z1:=congrArg ny z;have z2:=congrArg Prod.snd z;simp at z1 z2;exact db z1 z2)) hm
 refine⟨p,q,cp,cq',?_,?_⟩
 .rw[<-Zbj];exact lp _ hm
 .have:=lq _ hm
  rw[<-Zbj];unfold slp at *;simp only[eL]at this;grind
end
end Ri
namespace PT
open L2 DL
open CC (F_crossed)
open CS (F_minus)
open BD (F_common_bottom F_stretched F_body)
end PT
namespace PT
open L2 DL
open CV CN CU CS
open CR (rt Sz)
open CH (rts ZH ZM)
open CD (pts ZT ZaM)
open Rb BD
noncomputable def tri(i j k:Nat):D:=.tup [.int i,.int j,.int k]
def t3(n i j:Nat)(m:Nat):List D:=(aI m).map λc=>tri i j (j+1+c)
def t2(n i:Nat)(m:Nat):List D:=(aI m).flatMap λb=>t3 n i (i+1+b) (n-(i+1+b+1))
def t1(n m:Nat):List D:=(aI m).flatMap λa=>t2 n a (n-(a+1))
end PT
namespace DT
open L2 DL
open CC (F_crossed)
open BD (F_common_bottom F_stretched F_body)
def Zde:Sv:=(Zai (e2 dAdd (e2 dMul (e2 dIx (Zf 0) (eC (.int 0))) (e2 dIx (Zf 1) (eC (.int 0)))) (e2 dMul (e2 dIx (Zf 0) (eC (.int 1))) (e2 dIx (Zf 1) (eC (.int 1))))))
def F_product:W3:=fnF Zde 2 0
def Zfz:Sv:=(ZD (ZK (gNm 2) (Zao (iSq (Zf 0)) 1 [1] (gNm 0) (λ_ M=>.ok true M) (Zj F_product (Zc (Zf 0) (Zc (Zf 1) aNil))))) (Zai (e2 dSub (Zj (Zcu mE) (Zc (Zf 2) aNil)) (Zj (Zcu List.min?) (Zc (Zf 2) aNil)))))
def F_width:W3:=fnF Zfz 2 1
def Zca:Sv:=(Zai (ZX (Zc (e2 dSub (e2 dIx (Zf 0) (eC (.int 0))) (e2 dMul (Zf 1) (e2 dIx (Zf 2) (eC (.int 0))))) (Zc (e2 dSub (e2 dIx (Zf 0) (eC (.int 1))) (e2 dMul (Zf 1) (e2 dIx (Zf 2) (eC (.int 1))))) aNil))))
def F_lessened:W3:=fnF Zca 3 0
def Zaz:Sv:=(ZD (ZK (gNm 5) (e2 dDiv (e2 dAdd (Zf 4) (Zf 3)) (eC (.int 2)))) (ZD (Zdi 6 7 (Zc (Zj F_lessened (Zc (Zf 1) (Zc (Zf 5) (Zc (Zf 2) aNil)))) (Zc (Zj F_lessened (Zc (Zf 1) (Zc (e2 dAdd (Zf 5) (eC (.int 1))) (Zc (Zf 2) aNil)))) aNil))) (sIf (tv (e2 dLe (Zj F_width (Zc (Zf 0) (Zc (Zf 6) aNil))) (Zj F_width (Zc (Zf 0) (Zc (Zf 7) aNil))))) (ZK (gNm 3) (Zf 5)) (ZK (gNm 4) (e2 dAdd (Zf 5) (eC (.int 1)))))))
def Zbk:Sv:=(ZD (ZK (gNm 3) (e2 dAdd (e2 dDiv (e2 dMul (eC (.int 2)) (Zj F_width (Zc (Zf 0) (Zc (Zf 1) aNil)))) (Zj F_width (Zc (Zf 0) (Zc (Zf 2) aNil)))) (eC (.int 1)))) (ZD (ZK (gNm 4) (Zcr (Zf 3))) (ZD (sWh (tv (e2 dLt (Zf 4) (Zf 3))) Zaz) (Zai (Zj F_lessened (Zc (Zf 1) (Zc (Zf 4) (Zc (Zf 2) aNil))))))))
def F_least_wide:W3:=fnF Zbk 3 5
def Zap:Sv:=(ZD (ZK (gNm 2) (Zj F_least_wide (Zc (Zf 0) (Zc (Zf 2) (Zc (Zf 1) aNil))))) (ZD (sIf (tv (e2 dGe (Zj F_width (Zc (Zf 0) (Zc (Zf 2) aNil))) (Zj F_width (Zc (Zf 0) (Zc (Zf 1) aNil))))) sBrk sNil) (Zdi 1 2 (Zc (Zf 2) (Zc (Zf 1) aNil)))))
def Zcb:Sv:=(ZD (ZK (gTp (gCs (gNm 1) (gCs (gNm 2) gNl))) (ZX (Zc (ZX (Zc (eC (.int 1)) (Zc (eC (.int 0)) aNil))) (Zc (ZX (Zc (eC (.int 0)) (Zc (eC (.int 1)) aNil))) aNil)))) (ZD (sIf (tv (e2 dLt (Zj F_width (Zc (Zf 0) (Zc (Zf 2) aNil))) (Zj F_width (Zc (Zf 0) (Zc (Zf 1) aNil))))) (Zdi 1 2 (Zc (Zf 2) (Zc (Zf 1) aNil))) sNil) (ZD (sWh (tv (e2 dGt (Zj F_width (Zc (Zf 0) (Zc (Zf 1) aNil))) (eC (.int 0)))) Zap) (ZD (ZK (gNm 3) (Zj F_crossed (Zc (Zf 1) (Zc (Zf 2) aNil)))) (Zai (ZX (Zc (Zf 1) (Zc (ZX (Zc (e2 dMul (Zf 3) (e2 dIx (Zf 2) (eC (.int 0)))) (Zc (e2 dMul (Zf 3) (e2 dIx (Zf 2) (eC (.int 1)))) aNil))) aNil))))))))
def F_two_ways:W3:=fnF Zcb 1 3
def Z6:Sv:=(ZD (ZK (gNm 10) (e2 dMul (Zj F_crossed (Zc (Zf 4) (Zc (Zf 8) aNil))) (e2 dIx (Zf 9) (eC (.int 1))))) (ZD (ZK (gNm 11) (e2 dAdd (e2 dIx (Zf 9) (eC (.int 0))) (e2 dMul (e2 dMul (Zj F_crossed (Zc (Zf 8) (Zc (Zf 5) aNil))) (Zf 3)) (e2 dIx (Zf 9) (eC (.int 1)))))) (ZD (sIf (Zcq (tv (e2 dGt (Zf 10) (eC (.int 0)))) (ZgL (tv (e2 dIs (Zf 6) (eC .non))) (tv (e2 dGt (Zcr (e2 dDiv (Zf 11) (Zf 10))) (Zf 6))))) (ZK (gNm 6) (Zcr (e2 dDiv (Zf 11) (Zf 10)))) sNil) (sIf (Zcq (tv (e2 dLt (Zf 10) (eC (.int 0)))) (ZgL (tv (e2 dIs (Zf 7) (eC .non))) (tv (e2 dLt (e2 dDiv (Zf 11) (Zcr (Zf 10))) (Zf 7))))) (ZK (gNm 7) (e2 dDiv (Zf 11) (Zcr (Zf 10)))) sNil))))
def Za0:Sv:=(ZD (ZK (gTp (gCs (gNm 4) (gCs (gNm 5) gNl))) (Zf 2)) (ZD (ZK (Zob (gNm 6) (gNm 7)) (eC .non)) (ZD (ZgT (gTp (gCs (gNm 8) (gCs (gNm 9) gNl))) (iZp (Zc (Zf 0) (Zc (Zf 1) aNil))) Z6) (Zai (Zao (iR2 (Zc (Zf 6) (Zc (e2 dAdd (Zf 7) (eC (.int 1))) aNil))) 1 [3,4,5] (gNm 0) (λ_ M=>.ok true M) (ZX (Zc (e2 dSub (e2 dMul (Zf 1) (e2 dIx (Zf 3) (eC (.int 1)))) (e2 dMul (Zf 0) (e2 dIx (Zf 2) (eC (.int 1))))) (Zc (e2 dSub (e2 dMul (Zf 0) (e2 dIx (Zf 2) (eC (.int 0)))) (e2 dMul (Zf 1) (e2 dIx (Zf 3) (eC (.int 0))))) aNil))))))))
def F_dots_across:W3:=fnF Za0 4 8
def Zdf:Sv:=(Zct (ZhS mExt (Zf 7) (Zc (Zj F_dots_across (Zc (Zf 0) (Zc (Zf 1) (Zc (Zf 5) (Zc (Zf 8) aNil))))) aNil)))
def Zjq:Sv:=(ZD (ZK (gNm 2) (Zj F_body (Zc (Zf 0) (Zc (Zf 1) aNil)))) (ZD (ZK (gNm 3) (Zj F_common_bottom (Zc (Zbe (iSq (Zf 2)) 2 [] (gNm 0) (λ_ M=>.ok true M) λn=>(gIn (iSq (Zf 0)) (gNm 1) (λ_ M=>.ok true M) (gEm (Zf 1) n))) aNil))) (ZD (ZK (gNm 4) (Zao (iSq (Zf 2)) 2 [3] (gTp (gCs (gNm 0) (gCs (gNm 1) gNl))) (λ_ M=>.ok true M) (ZX (Zc (Zj F_stretched (Zc (Zf 0) (Zc (Zf 2) aNil))) (Zc (Zj F_stretched (Zc (Zf 1) (Zc (Zf 2) aNil))) aNil))))) (ZD (sIf (tv (e2 dEq (Zf 4) (Za8 aNil))) (Zai (Za8 aNil)) sNil) (ZD (ZK (gNm 5) (Zj F_two_ways (Zc (Zf 4) aNil))) (ZD (ZK (gNm 6) (Zao (iSq (Zf 4)) 1 [5] (gNm 0) (λ_ M=>.ok true M) (Zj F_product (Zc (Zf 0) (Zc (e2 dIx (Zf 1) (eC (.int 0))) aNil))))) (ZD (ZK (gNm 7) (Za8 aNil)) (ZD (ZcR (gNm 8) (Zc (Zcr (e2 dDiv (Zcr (Zj (Zcu List.min?) (Zc (Zf 6) aNil))) (Zf 3))) (Zc (e2 dAdd (e2 dDiv (Zj (Zcu mE) (Zc (Zf 6) aNil)) (Zf 3)) (eC (.int 1))) aNil)) Zdf) (Zai (Zg0 (Zc (Zf 7) aNil) [] (ZX (Zc (e2 dIx (Zf 0) (eC (.int 1))) (Zc (e2 dIx (Zf 0) (eC (.int 0))) aNil)))))))))))))
def F_dots:W3:=fnF Zjq 2 7
end DT
namespace DT
open L2 DL
open CV CN CU CS
open CR (rt Sz)
open CH (rts ZH ZM)
open CD (pts ZT ZaM)
open Rb BD Ri
section
variable {P:List Pt}
theorem ZjE(h1:a.natAbs<=C)(hC:C<2^e)(he:e<=60000000)(h2:b.natAbs<=S)(hS:S<2^f)(hf:f<=60000000):Zp a b:=Zr e f ⋯ ⋯ he hf
theorem ZeX(hp:sm C p)(hC:C<2^e)(he:e<=60000000)(hr:sm S r)(hS:S<2^f)(hf:f<=60000000):wO (F_product [pr p.1 p.2,pr r.1 r.2] M) Q E=Q (.int (pd p r)) M:=by
 have f1:=ZjE hp.1 hC he hr.1 hS hf;have f2:=ZjE hp.2 hC he hr.2 hS hf;simp![F_product,Zde,ZA f1,ZA f2];rfl
theorem Zjr(hi:i<(prs P).length):∃hi':i<P.length,(prs P)[i]=pr P[i].1 P[i].2:=by
 have:i<P.length:=by unfold prs at hi;rwa [af]at hi
 exact⟨this,by simp[prs]⟩
theorem Zgv:(aI (prs P).length).map (λi=>D.int (pd (P.getD i (0,0)) r))=nts (gv P r):=by
 unfold nts gv prs;rw[bX,af];refine d6 (by simp) λi h1 h2=>?_
 simp at h1 h2;simp[h2]
theorem ZnZ(h:M[n]?=some (.lst (prs P)))(hl:P.length<1000)(hp:∀p∈P,sm C p)(hC:C<2^e)(he:e<=60000000)(hr:sm S r)(hS:S<2^f)(hf:f<=60000000)(hρ:roB 1 [k] ρ=[none,some (pr r.1 r.2)])(q:Q (.ref M.length) (M++[.lst (nts (gv P r))])):kCo (gNm 0) (λ_ M=>.ok true M) (Zj F_product (Zc (Zf 0) (Zc (Zf 1) aNil))) 1 [k] ρ Q (.sto n) M:=by
 refine ZkM (xs:=prs P) (λρ=>∃x,ρ=[x,some (pr r.1 r.2)]) (λi=>.int (pd (P.getD i (0,0)) r)) h (by simp[prs];lia) ⟨_,hρ⟩ ?_ (by rw[Zgv];exact q)
 rintro i hi ρ L ⟨x,rfl⟩;obtain⟨hi',ei⟩:=Zjr hi;rw[ei];have eg:P.getD i (0,0)=P[i]:=by simp[hi']
 rw[eg];have hp':=hp P[i] (cA hi');generalize P[i]=p at *;simp![ZeX hp' hC he hr hS hf];exact⟨_,rfl⟩
theorem Za1(h:M[n]?=some (.lst (prs P)))(hne:P≠[])(hl:P.length<1000)(hp:∀p∈P,sm C p)(hC:C<2^e)(he:e<=60000000)(hr:sm S r)(hS:S<2^f)(hf:f<=60000000)(q:∀M',Kp M M'->Q (.int (wd P r)) M'):wO (F_width [.ref n,pr r.1 r.2] M) Q E:=by
 have hn:=Zy h;simp![F_width,Zfz];refine ZnZ h hl hp hC he hr hS hf rfl ?_;have e1:(M++[SO.lst (nts (gv P r))])[M.length]?=some (.lst (nts (gv P r))):=by simp
 simp![e1,CD.Zbh,(Zfx (r:=r) hne).1,(Zfy (r:=r) hne).1];exact q _ Kp.app
theorem Zcc(hw:sm C w)(hm:a.natAbs<=K)(hK:K<2^e)(he:e<=60000000)(hr:sm S r)(hS:S<2^f)(hf:f<=60000000):wO (F_lessened [pr w.1 w.2,.int a,pr r.1 r.2] M) Q E=Q (pr (lss w a r).1 (lss w a r).2) M:=by
 have f1:=ZjE hm hK he hr.1 hS hf;have f2:=ZjE hm hK he hr.2 hS hf;simp![F_lessened,Zca,ZA f1,ZA f2];rfl
theorem ZlU(hw:sm S w)(hr:sm S r)(ha:a.natAbs<=4*C+1):sm ((4*C+2)*S) (lss w a r):=by
 have m1:=Zco ha hr.1;have m2:=Zco ha hr.2;have e:(4*C+2)*S=(4*C+1)*S+S:=by grind
 unfold Ri.sm lss at *;dsimp only
 omega
theorem Zgw(hC:C<2^e)(hS:S<2^f):(4*C+2)*S<2^(e+2+f):=by
 have:4*C+2<2^(e+2):=by rw[jL];lia
 exact CR.ZU this hS
theorem Zn0(h:M[n]?=some (.lst (prs P)))(hne:P≠[])(hl:P.length<1000)(hp:∀p∈P,sm C p)(hC:C<2^e)(he:e<=7000)(hw:sm S w)(hr:sm S r)(hS:S<2^f)(hf:f<=50000)(h0:0<wd P r)(le:wd P r<=wd P w)(c:wd P w<=(2*C:Nat))(q:∀a M',a.natAbs<=4*C+1->Kp M M'->Q (pr (lss w a r).1 (lss w a r).2) M'):wO (F_least_wide [.ref n,pr w.1 w.2,pr r.1 r.2] M) Q E:=by
 have hn:=Zy h;simp![F_least_wide,Zbk];refine Za1 h hne hl hp hC (by omega) hw hS (by omega) λM1 K1=>?_
 simp![Zq];refine Za1 (K1.get h) hne hl hp hC (by omega) hr hS (by omega) λM2 K2=>?_
 have K2:=K1.trans K2;have c1:(4*C+1)<2^(e+2):=by rw[jL];omega
 have d0:0<=2*wd P w/wd P r:=Int.ediv_nonneg (by omega) (by omega)
 have d1:2*wd P w/wd P r<=2*wd P w:=Int.ediv_le_self _ (by omega)
 simp![CR.Za2 (k:=e+1) h0 (by rw[iB];omega) (by omega)]
 generalize hH:2*wd P w/wd P r+1=H at *;have hH1:1<=H/\H<=4*C+1:=by omega
 refine ZnC (λj ρ M'=>Kp M M'/\∃hi lo x5 x6 x7,ρ=[some (.ref n),some (pr w.1 w.2),some (pr r.1 r.2),some (.int hi),some (.int lo),x5,x6,x7]/\ -H<=lo/\lo<=hi/\hi<=H/\j=(hi-lo).toNat) ?_ (H - -H).toNat _ _ ⟨K2,H,-H,_,_,_,rfl,by omega,by omega,by omega,rfl⟩
 rintro j _ M3 ⟨K3,hi,lo,x5,x6,x7,rfl,l1,l2,l3,rfl⟩;simp![Zq];refine ZnD (λhlt=>?_) (λhlt=>?_)
 .have md:lo<=(lo+hi)/2/\(lo+hi)/2<hi:=by omega
  simp![Zaz];generalize (lo+hi)/2=mid at *;simp![Zcc (C:=S) (K:=4*C+1) (a:=mid) (w:=w) (r:=r) (S:=S) hw (by omega) c1 (by omega) hr hS (by omega),Zcc (C:=S) (K:=4*C+1) (a:=mid+1) (w:=w) (r:=r) (S:=S) hw (by omega) c1 (by omega) hr hS (by omega)]
  refine Za1 (r:=lss w mid r) (K3.get h) hne hl hp hC (by omega) (ZlU hw hr (by omega)) (Zgw hC hS) (by omega) λM4 K4=>?_
  simp![Zq];refine Za1 (r:=lss w (mid+1) r) ((K3.trans K4).get h) hne hl hp hC (by omega) (ZlU hw hr (by omega)) (Zgw hC hS) (by omega) λM5 K5=>?_
  have K5:=(K3.trans K4).trans K5;simp![Zq];refine brS (λ_=>?_) (λ_=>?_)
  .simp![Zq];exact⟨_,by omega,K5,mid,lo,_,_,_,rfl,by omega,by omega,by omega,rfl⟩
  .simp![Zq];exact⟨_,by omega,K5,hi,mid+1,_,_,_,rfl,by omega,by omega,by omega,rfl⟩
 .simp![Zcc (C:=S) (K:=4*C+1) (a:=lo) (w:=w) (r:=r) (S:=S) hw (by omega) c1 (by omega) hr hS (by omega)]
  exact q lo _ (by omega) K3
theorem Zro(hC:C<2^e):Sc C<2^(e+e+4):=by
 have h1:=CR.ZU hC hC;have e1:2*C*(2*C)=4*(C*C):=by grind
 have h2:=lE (e+e);unfold Sc;rw[jL 2 (e+e) 4];lia
theorem Zue(h:M[n]?=some (.lst (prs P)))(hne:P≠[])(hl:P.length<1000)(hp:∀p∈P,sm C p)(hC:C<2^e)(he:e<=7000)(q:∀(u v:Pt) M',X u v=1->sm (Sc C) u->sm ((4*C+2)*Sc C) v->Kp M M'->Q (.tup [pr u.1 u.2,pr v.1 v.2]) M'):wO (F_two_ways [.ref n] M) Q E:=by
 have hn:=Zy h;have s10:∀z:Pt,z=(1,0)\/z=(0,1)->sm 1 z:=by rintro z (rfl|rfl)<;>simp[Ri.sm]
 have one:1<2^1:=by decide
 have sc:=Zro hC;have bg:=Zgw hC sc;have up:∀{z:Pt},sm (Sc C) z->sm ((4*C+2)*Sc C) z:=λ{z} hz=>by
  have:1*Sc C<=(4*C+2)*Sc C:=eU _ ⋯
  unfold Ri.sm at *;lia
 have fin:∀(u v:Pt) x M',Kp M M'->(X u v=1\/X u v= -1)->sm (Sc C) u->sm ((4*C+2)*Sc C) v->kSq (ZD (ZK (gNm 3) (Zj CC.F_crossed (Zc (Zf 1) (Zc (Zf 2) aNil)))) (Zai (ZX (Zc (Zf 1) (Zc (ZX (Zc (e2 dMul (Zf 3) (e2 dIx (Zf 2) (eC (.int 0)))) (Zc (e2 dMul (Zf 3) (e2 dIx (Zf 2) (eC (.int 1)))) aNil))) aNil))))) (Znw Q) Q (λ_ _=>False) (λ_ _=>False) E [some (.ref n),some (pr u.1 u.2),some (pr v.1 v.2),x] M':=by
  intro u v x M' K' hx su sv;have f1:=ZjE su.1 sc ⋯ sv.2 bg ⋯
  have f2:=ZjE su.2 sc ⋯ sv.1 bg ⋯
  simp![CC.F_crossed,CC.ZaQ,ZA f1,ZA f2];have ex:u.1*v.2-u.2*v.1=X u v:=rfl;rw[ex];rcases hx with z|z
  .rw[z];simp![Zq]
   have:=q u v M' z su sv K'
   simpa using this
  .rw[z];simp![Zq]
   have:=q u (-v.1,-v.2) M' (by unfold X at *;simp only;grind) su (by unfold Ri.sm at *;simpa using sv) K'
   simpa using this
 simp![F_two_ways,Zcb];refine Za1 (r:=(0,1)) h hne hl hp hC ⋯ (s10 _ (.inr rfl)) one ⋯ λM1 K1=>?_
 simp![Zq];refine Za1 (r:=(1,0)) (K1.get h) hne hl hp hC ⋯ (s10 _ (.inl rfl)) one ⋯ λM2 K2=>?_
 have K2:=K1.trans K2;simp![Zq];have main:∀(u v:Pt),Tw P C u v (wd P u).toNat->wS (sWh (tv (e2 dGt (Zj F_width (Zc (Zf 0) (Zc (Zf 1) aNil))) (eC (.int 0)))) Zap [some (.ref n),some (pr u.1 u.2),some (pr v.1 v.2),none] M2) (kSq (ZD (ZK (gNm 3) (Zj CC.F_crossed (Zc (Zf 1) (Zc (Zf 2) aNil)))) (Zai (ZX (Zc (Zf 1) (Zc (ZX (Zc (e2 dMul (Zf 3) (e2 dIx (Zf 2) (eC (.int 0)))) (Zc (e2 dMul (Zf 3) (e2 dIx (Zf 2) (eC (.int 1)))) aNil))) aNil))))) (Znw Q) Q (λ_ _=>False) (λ_ _=>False) E) Q (λ_ _=>False) (λ_ _=>False) E:=by
  intro u v tw;refine ZnC (λj ρ M'=>Kp M M'/\∃(u v:Pt) (x:Option D),ρ=[some (.ref n),some (pr u.1 u.2),some (pr v.1 v.2),x]/\Tw P C u v j) ?_ (wd P u).toNat _ _ ⟨K2,u,v,_,rfl,tw⟩;clear u v tw;rintro j _ M3 ⟨K3,u,v,x,rfl,tw⟩;simp![Zq];refine Za1 (r:=u) (K3.get h) hne hl hp hC ⋯ tw.bd.1 sc ⋯ λM4 K4=>?_
  have K4:=K3.trans K4;simp![Zq];refine ZnD (λh0=>?_) (λ_=>fin u v x M4 K4 tw.x tw.bd.1 (up tw.bd.2));simp![Zap];refine Zn0 (K4.get h) hne hl hp hC he tw.bd.2 tw.bd.1 sc ⋯ ⋯ tw.le tw.c λa M5 ha K5=>?_
  have K5:=K4.trans K5;have sl:=tw.end_ ha;simp![Zq];refine Za1 (r:=lss v a u) (K5.get h) hne hl hp hC ⋯ sl bg ⋯ λM6 K6=>?_
  have K6:=K5.trans K6;simp![Zq];refine Za1 (r:=u) (K6.get h) hne hl hp hC ⋯ tw.bd.1 sc ⋯ λM7 K7=>?_
  have K7:=K6.trans K7;simp![Zq];refine brS (λ_=>?_) (λlt=>?_)
  .exact fin u (lss v a u) x M7 K7 (by rw[Zrm];exact tw.x) tw.bd.1 sl
  .simp![Zq];obtain⟨k',hk,tw'⟩:=tw.turn (m:=a) hne hp ⋯ ⋯
   exact⟨k',hk,K7,lss v a u,u,x,rfl,tw'⟩
 refine brS (λlt=>?_) (λlt=>?_)
 .simp![Zq];exact main (0,1) (1,0) (Tw.new hne hp (.inr ⟨rfl,rfl⟩) ⋯)
 .simp![Zq];exact main (1,0) (0,1) (Tw.new hne hp (.inl ⟨rfl,rfl⟩) ⋯)
end
def ac(rs:List Pt)(hs:List Rat)(u:Pt)(i:Nat):Int:=X u (cy rs i)*((cq hs i).den:Int)
def re(rs:List Pt)(hs:List Rat)(v:Pt)(g:Int)(i:Nat):Int:=(cq hs i).num+X (cy rs i) v*g*((cq hs i).den:Int)
noncomputable def oD:Option Int->D|none=>.non|some l=>.int l
def LoA(A R:Nat->Int)(i:Nat)(lo:Option Int):Prop:=(lo=none/\∀j<i,¬0<A j)\/∃l,lo=some l/\(∀j<i,0<A j-> -(R j/A j)<=l)/\∃j<i,0<A j/\l= -(R j/A j)
noncomputable def HiA(A R:Nat->Int)(i:Nat)(hi:Option Int):Prop:=(hi=none/\∀j<i,¬A j<0)\/∃l,hi=some l/\(∀j<i,A j<0->l<=R j / -A j)/\∃j<i,A j<0/\l=R j / -A j
theorem LoA.keep(h:LoA A R i lo)(c:0<A i->∃l,lo=some l/\ -(R i/A i)<=l):LoA A R (i+1) lo:=by
 rcases h with⟨e,h⟩|⟨l,e,h,j,hj,h2⟩
 .refine .inl ⟨e,λj hj=>?_⟩;rcases cU.mp hj with z|z
  .exact h j z
  .intro q;rw[z]at q;obtain⟨l,z,_⟩:=c q;rw[e]at z;cases z
 .refine .inr ⟨l,e,λj hj p=>?_,j,⋯,h2⟩
  rcases cU.mp hj with z|z
  .exact h j z p
  .subst z;obtain⟨l',z,q⟩:=c p;rw[e]at z;cases z;exact q
theorem LoA.new(h:LoA A R i lo)(p:0<A i)(c:∀l,lo=some l->l<= -(R i/A i)):LoA A R (i+1) (some (-(R i/A i))):=by
 refine .inr ⟨_,rfl,λj hj q=>?_,i,⋯,p,rfl⟩
 rcases cU.mp hj with z|z
 .rcases h with⟨e,h⟩|⟨l,e,h,_⟩
  .exact absurd q (h j z)
  .have:=c l e
   have:=h j z q
   lia
 .subst z;lia
theorem HiA.keep(h:HiA A R i hi)(c:A i<0->∃l,hi=some l/\l<=R i / -A i):HiA A R (i+1) hi:=by
 rcases h with⟨e,h⟩|⟨l,e,h,j,hj,h2⟩
 .refine .inl ⟨e,λj hj=>?_⟩;rcases cU.mp hj with z|z
  .exact h j z
  .intro q;rw[z]at q;obtain⟨l,z,_⟩:=c q;rw[e]at z;cases z
 .refine .inr ⟨l,e,λj hj p=>?_,j,⋯,h2⟩
  rcases cU.mp hj with z|z
  .exact h j z p
  .subst z;obtain⟨l',z,q⟩:=c p;rw[e]at z;cases z;exact q
theorem HiA.new(h:HiA A R i hi)(p:A i<0)(c:∀l,hi=some l->R i / -A i<=l):HiA A R (i+1) (some (R i / -A i)):=by
 refine .inr ⟨_,rfl,λj hj q=>?_,i,⋯,p,rfl⟩
 rcases cU.mp hj with z|z
 .rcases h with⟨e,h⟩|⟨l,e,h,_⟩
  .exact absurd q (h j z)
  .have:=c l e
   have:=h j z q
   lia
 .subst z;lia
theorem Zgx(h:0<a): -(r/a)<=o↔0<=a*o+r:=by
 have h1:=Int.mul_ediv_self_le (x:=r) (k:=a) ⋯
 have h2:=Int.lt_mul_ediv_self_add (x:=r) h;constructor
 .intro q
  have:=dH (show -(r/a)<=o from q) (show 0<=a by lia)
  grind
 .intro q;apply Classical.byContradiction;intro z
  have:=dH (show o<= -(r/a)-1 by lia) (show 0<=a by lia)
  grind
theorem ZlV(h:a<0):o<=r / -a↔0<=a*o+r:=by
 have:=Zgx (a:= -a) (r:=r) (o:= -o) ⋯
 rw[show -a * -o=a*o by grind]at this
 rw[<-this];lia
theorem Zwy(hl:LoA A R n (some l))(hh:HiA A R n (some h))(o:Int):l<=o/\o<=h↔∀j<n,A j≠0->0<=A j*o+R j:=by
 rcases hl with⟨z,_⟩|⟨l',z,l1,j1,hj1,p1,e1⟩
 .cases z
 cases z;rcases hh with⟨z,_⟩|⟨h',z,h1,j2,hj2,p2,e2⟩
 .cases z
 cases z;constructor
 .rintro⟨a,b⟩ j hj ne;rcases(show 0<A j\/A j<0 by lia)with c|c
  .have:=l1 j hj c
   exact(Zgx c).mp ⋯
  .have:=h1 j hj c
   exact(ZlV c).mp ⋯
 .intro q;have q1:=(Zgx p1).mpr (q j1 hj1 ⋯)
  have q2:=(ZlV p2).mpr (q j2 hj2 ⋯)
  lia
noncomputable def qt(u v:Pt)(g o:Int):Pt:=(g*v.2-o*u.2,o*u.1-g*v.1)
def ZjF(u v:Pt)(g l h:Int):List Pt:=(aI (h+1-l).toNat).map λ(c:Nat)=>qt u v g (l+(c:Int))
theorem Zuf(hu:sm S u)(hr:p.1.natAbs<=1000000/\p.2.natAbs<=1000000):(X u p).natAbs<=S*2000000:=by
 have m1:=Zco hu.1 hr.2;have m2:=Zco hu.2 hr.1;unfold X
 omega
theorem Zrp(su:sm C u)(hC:C<2^e)(sv:sm S v)(hS:S<2^f)(hf:f<=30000)(hp:p.1.natAbs<=1000000/\p.2.natAbs<=1000000)(hx:Sz k x)(hk:e+21+k<=8000)(hg:g.natAbs<2^f)(eA:A i=X u p*(x.den:Int))(eR:R i=x.num+X p v*g*(x.den:Int))(hl:LoA A R i lo)(hh:HiA A R i hi)(q:∀lo hi y10 y11,LoA A R (i+1) lo->HiA A R (i+1) hi->N [some (.ref n),some (.ref m),some (.tup [pr u.1 u.2,pr v.1 v.2]),some (.int g),some (pr u.1 u.2),some (pr v.1 v.2),some (oD lo),some (oD hi),some (pr p.1 p.2),some (rt x),y10,y11] M):wS (Z6 [some (.ref n),some (.ref m),some (.tup [pr u.1 u.2,pr v.1 v.2]),some (.int g),some (pr u.1 u.2),some (pr v.1 v.2),some (oD lo),some (oD hi),some (pr p.1 p.2),some (rt x),x10,x11] M) N Q B C' E:=by
 have b1:=Zuf su hp;have b2:(X p v).natAbs<=S*2000000:=by have:=Zuf sv hp;rw[Ri.ZeQ]at this;rwa [jC]at this
 have e0:C*2000000<2^(e+21):=CR.ZU hC (by decide +kernel)
 have e1:S*2000000<2^(f+21):=CR.ZU hS (by decide +kernel)
 have f1:=ZjE su.1 hC ⋯ hp.2 (show 1000000<2^20 by decide +kernel) ⋯
 have f2:=ZjE su.2 hC ⋯ hp.1 (show 1000000<2^20 by decide +kernel) ⋯
 have f3:=ZjE hp.1 (show 1000000<2^20 by decide +kernel) ⋯ sv.2 hS ⋯
 have f4:=ZjE hp.2 (show 1000000<2^20 by decide +kernel) ⋯ sv.1 hS ⋯
 have f5:Zp (X u p) (x.den:Int):=Zr (e+21) k ⋯ (by simpa using hx.2) ⋯ ⋯
 have f6:Zp (X p v) g:=Zr (f+21) f ⋯ hg ⋯ ⋯
 have b3:(X p v*g).natAbs<2^(f+21+f):=by rw[aW];exact CR.ZU ⋯ hg
 have f7:Zp (X p v*g) (x.den:Int):=Zr (f+21+f) k b3 (by simpa using hx.2) ⋯ ⋯
 have bA:(A i).natAbs<2^(e+21+k):=by rw[eA,aW];exact CR.ZU ⋯ (by simpa using hx.2)
 have ex1:u.1*p.2-u.2*p.1=X u p:=rfl;have ex2:p.1*v.2-p.2*v.1=X p v:=rfl;simp![Z6,CC.F_crossed,CC.ZaQ,ZA f1,ZA f2,ZA f3,ZA f4,ex1,ex2,ZA f5,ZA f6,ZA f7];rw[<-eA,<-eR];have second:∀lo,LoA A R (i+1) lo->kSq (sIf (Zcq (tv (e2 dLt (Zf 10) (eC (D.int 0)))) (ZgL (tv (e2 dIs (Zf 7) (eC D.non))) (tv (e2 dLt (e2 dDiv (Zf 11) (Zcr (Zf 10))) (Zf 7))))) (ZK (gNm 7) (e2 dDiv (Zf 11) (Zcr (Zf 10)))) sNil) N Q B C' E [some (.ref n),some (.ref m),some (.tup [pr u.1 u.2,pr v.1 v.2]),some (.int g),some (pr u.1 u.2),some (pr v.1 v.2),some (oD lo),some (oD hi),some (pr p.1 p.2),some (rt x),some (.int (A i)),some (.int (R i))] M:=by
  intro lo hlo;simp![Zq];refine brO (λc=>?_) (λc=>?_)
  .have dv:∀{Q:W0}{E:W2}{M:Sto},wO (dDiv (.int (R i)) (.int (-A i)) M) Q E=Q (.int (R i / -A i)) M:=λ{Q E M}=>CR.Za2 (k:=e+21+k) ⋯ ⋯ ⋯
   cases hi with
   |none=>
    simp![oD,dv];exact q lo (some _) _ _ hlo (hh.new c λl z=>by cases z)
   |some l=>
    simp![oD,dv];refine brS (λd=>?_) (λd=>?_)
    .simp![dv];exact q lo (some _) _ _ hlo (hh.new c λl' z=>by cases z;lia)
    .simp![Zq];exact q lo (some l) _ _ hlo (hh.keep λ_=>⟨l,rfl,⋯⟩)
  .simp![Zq];exact q lo hi _ _ hlo (hh.keep λz=>absurd z c)
 refine brO (λc=>?_) (λc=>?_)
 .have dv:∀{Q:W0}{E:W2}{M:Sto},wO (dDiv (.int (R i)) (.int (A i)) M) Q E=Q (.int (R i/A i)) M:=λ{Q E M}=>CR.Za2 (k:=e+21+k) c bA ⋯
  cases lo with
  |none=>
   simp![oD,dv];exact q (some _) hi _ _ (hl.new c λl z=>by cases z) (hh.keep λz=>⋯)
  |some l=>
   simp![oD,dv];refine brS (λd=>?_) (λd=>?_)
   .simp![dv];exact q (some _) hi _ _ (hl.new c λl' z=>by cases z;lia) (hh.keep λz=>⋯)
   .simp![Zq];exact q (some l) hi _ _ (hl.keep λ_=>⟨l,rfl,⋯⟩) (hh.keep λz=>⋯)
 .exact second lo (hl.keep λz=>absurd z c)
theorem ZkW(h:M[n]?=some (.lst (prs rs)))(h':M[m]?=some (.lst (rts hs)))(e:hs.length=rs.length)(hne:rs≠[])(hb:Nr 1000000 rs)(hl:rs.length<=1000)(hz:∀x∈hs,Sz k x)(hk:K+21+k<=8000)(su:sm C u)(hC:C<2^K)(sv:sm S v)(hS:S<2^f)(hf:f<=30000)(hg:g.natAbs<2^f)(hp:∃i<rs.length,0<X u (cy rs i))(hn:∃i<rs.length,X u (cy rs i)<0)(hR:∀l h:Int,(∀o,l<=o/\o<=h↔∀j<rs.length,ac rs hs u j≠0->0<=ac rs hs u j*o+re rs hs v g j)->(h+1-l).toNat<10000000)(q:∀l h:Int,(∀o,l<=o/\o<=h↔∀j<rs.length,ac rs hs u j≠0->0<=ac rs hs u j*o+re rs hs v g j)->Q (.ref M.length) (M++[.lst (prs (ZjF u v g l h))])):wO (F_dots_across [.ref n,.ref m,.tup [pr u.1 u.2,pr v.1 v.2],.int g] M) Q E:=by
 have hn':=Zy h;have hm':=Zy h';have l0:0<rs.length:=i3.mpr hne;simp![F_dots_across,Za0,ZlA,Zob,ZtN];refine Zlz (n:=n) (m:=m) (xs:=prs rs) (ys:=rts hs) (λi ρ M'=>M'=M/\∃lo hi x8 x9 x10 x11,ρ=[some (.ref n),some (.ref m),some (.tup [pr u.1 u.2,pr v.1 v.2]),some (.int g),some (pr u.1 u.2),some (pr v.1 v.2),some (oD lo),some (oD hi),x8,x9,x10,x11]/\LoA (ac rs hs u) (re rs hs v g) i lo/\HiA (ac rs hs u) (re rs hs v g) i hi) h (by rw[ZL,ZH];lia) ⟨rfl,none,none,_,_,_,_,rfl,.inl ⟨rfl,λj hj=>⋯⟩,.inl ⟨rfl,λj hj=>⋯⟩⟩ (λi ρ M' hI=>hI.1▸⟨h,h'⟩) ?_ ?_
 .rintro i ρ _ hi ⟨rfl,lo,hi',x8,x9,x10,x11,rfl,h1,h2⟩;have hi1:i<rs.length:=by rw[ZL]at hi;exact hi
  obtain⟨_,ei⟩:=Zjr hi;have ec:rs[i]=cy rs i:=by rw[ZaP hi1]
  rw[ei,ec,Zd4];have bp:=hb _ (Zav (i:=(i:Int)) hne);have zx:=Zcx (i:=(i:Int)) hz ⋯
  simp![Zq];refine Zrp (i:=i) su hC sv hS hf ⋯ zx hk hg rfl rfl h1 h2 λlo hi y10 y11 h3 h4=>?_
  exact⟨rfl,lo,hi,_,_,_,_,rfl,h3,h4⟩
 .rintro ρ _ ⟨rfl,lo,hi',x8,x9,x10,x11,rfl,h1,h2⟩;rw[ZL]at h1 h2;have dp:∀j,0<((cq hs j).den:Int):=λj=>hU.mpr (b8 (cq hs j).den_nz);cases lo with
  |none=>
   obtain⟨j,hj,z⟩:=hp;rcases h1 with⟨_,h1⟩|⟨_,z',_⟩
   .exact absurd (ii z (dp j)) (h1 j hj)
   .cases z'
  |some l=>
   cases hi' with
   |none=>
    obtain⟨j,hj,z⟩:=hn;rcases h2 with⟨_,h2⟩|⟨_,z',_⟩
    .exact absurd (Int.mul_neg_of_neg_of_pos z (dp j)) (h2 j hj)
    .cases z'
   |some h9=>
    have en:=Zwy h1 h2;have ll:=hR l h9 en;have bR:∀j,(re rs hs v g j).natAbs<2^(f+21+f+k+1):=λj=>by
     have bp:=hb _ (Zav (i:=(j:Int)) hne);have zx:=Zcx (i:=(j:Int)) hz ⋯
     have b2:(X (cy rs j) v).natAbs<=S*2000000:=by have:=Zuf (p:=cy rs j) sv ⋯;rw[Ri.ZeQ]at this;rwa [jC]at this
     have b3:(X (cy rs j) v*g).natAbs<2^(f+21+f):=by rw[aW];exact CR.ZU (cI b2 (CR.ZU hS (by decide +kernel))) hg
     have b4:(X (cy rs j) v*g*((cq hs j).den:Int)).natAbs<2^(f+21+f+k):=by rw[aW];exact CR.ZU b3 (by simpa using zx.2)
     have b5:2^k<=2^(f+21+f+k):=bI (by decide) ⋯
     have:=zx.1
     unfold re;rw[iB];lia
    have bl:l.natAbs<=2^(f+21+f+k+1):=by
     rcases h1 with⟨z,_⟩|⟨_,z,_,j,_,p,e⟩
     .cases z
     cases z
     have:=bR j
     have:=bZ (re rs hs v g j) (ac rs hs u j)
     lia
    have bh:h9.natAbs<=2^(f+21+f+k+1):=by
     rcases h2 with⟨z,_⟩|⟨_,z,_,j,_,p,e⟩
     .cases z
     cases z
     have:=bR j
     have:=bZ (re rs hs v g j) (-ac rs hs u j)
     lia
    clear bR h1 h2;simp![oD];refine ZqW (xs:=Za5 l (h9+1-l).toNat) (λρ=>∃x,ρ=[x,some (.int g),some (pr u.1 u.2),some (pr v.1 v.2)]) (λc=>pr (qt u v g (l+(c:Int))).1 (qt u v g (l+(c:Int))).2) (by rw[Zb4];lia) (by simp[cnt]) ⟨_,rfl⟩ (λL c hc=>rfl) ?_ ?_
    .rintro c hc ρ L ⟨x,rfl⟩;rw[ZiQ];rw[Zb4]at hc;have bo:(l+(c:Int)).natAbs<2^(f+21+f+k+2):=by have:=lE (f+21+f+k+1);rw[iB];generalize 2^(f+21+f+k+1)=Z at *;lia
     generalize l+(c:Int)=o9 at *;have f1:Zp g v.2:=Zr f f hg (by have:=sv.2;lia) ⋯ ⋯
     have f2:Zp g v.1:=Zr f f hg (by have:=sv.1;lia) ⋯ ⋯
     have f3:Zp o9 u.2:=Zr (f+21+f+k+2) K bo (by have:=su.2;lia) ⋯ ⋯
     have f4:Zp o9 u.1:=Zr (f+21+f+k+2) K bo (by have:=su.1;lia) ⋯ ⋯
     simp![ZA f1,ZA f2,ZA f3,ZA f4];exact⟨⟨_,rfl⟩,rfl⟩
    .rw[Zb4]
     have:=q l h9 en
     unfold prs ZjF at this;rw[bX]at this;exact this
noncomputable def yl(a b:Pt):Prop:=a.2<b.2\/(a.2=b.2/\a.1<b.1)
noncomputable def kd(m:Pt):List Int:=[m.2,m.1]
def wP(B:Nat)(ms:List RP):List Pt:=ms.map λp=>(stc B p.1,stc B p.2)
section
variable {M:Sto}{m e:Nat}{ds:List Pt}{ms:List RP}{p r:Pt}{a:Int}
theorem ZfA(h:∀x∈xs,x.den ∣ Bt):Zdh xs ∣ Bt:=by
 have:∀(xs:List Rat)(b:Nat),b ∣ Bt->(∀x∈xs,x.den ∣ Bt)->xs.foldl (λb x=>hO b x.den) b ∣ Bt:=by
  intro xs
  induction xs with
  |nil=>intro b h _;exact h
  |cons x r ih=>intro b h hx;exact ih _ (Nat.lcm_dvd h (hx x (by simp))) λy hy=>hx y (aF _ hy)
 exact this xs 1 (Nat.one_dvd _) h
theorem Zdd(h1:x.num.natAbs<2^K)(h2:L<2^N):(stc L x).natAbs<2^(K+N):=by
 unfold stc;rw[aW,hZ];exact CR.ZU h1 (cI (hE _ _) h2)
theorem ZlW{D z:Int}(hD:D≠0)(e:x*(D:Rat)=(z:Rat)):x.den ∣ D.natAbs:=by
 have d0:((x.den:Int):Rat)≠0:=λh=>x.den_nz (by have:=lD.mp (h.trans (show(0:Rat)=((0:Int):Rat)from rfl));lia)
 have en:(x.num:Rat)=x*((x.den:Int):Rat):=by rw[aY];exact BD.ZdC _
 have e2:x.num*D=z*x.den:=by
  apply lD.mp;rw[aN,aN,en];grind
 have e3:x.num.natAbs*D.natAbs=z.natAbs*x.den:=by
  have:=congrArg Int.natAbs e2
  simpa [aW]using this
 exact(Nat.Coprime.symm x.reduced).dvd_of_dvd_mul_left ⟨z.natAbs,by rw[e3,Nat.mul_comm]⟩
theorem ZlX(hn:hs.length≠0):cq hs i∈hs:=by
 unfold cq
 have:=(ZaK (i:=i) hn).1
 rw[az,aa this];exact cA this
theorem Zn1{p:RP}(hX:∀i j:Nat,(X (cy rs i) (cy rs j)).natAbs<=N)(hl:hs.length≠0)(hd:∀x∈hs,x.den ∣ Bt)(b0:0<Bt)(w:Cor rs hs p):∃t:Nat,0<t/\t<=N/\p.1.den ∣ t*Bt/\p.2.den ∣ t*Bt:=by
 obtain⟨_,i,j,⟨_,oi⟩,⟨_,oj⟩,ne⟩:=w;have ci:=Zbs (hd _ (ZlX (i:=(i:Int)) hl));have cj:=Zbs (hd _ (ZlX (i:=(j:Int)) hl));have xl:=hX i j;have e:(((X (cy rs i) (cy rs j))*(Bt:Int):Int):Rat)=((X (cy rs i) (cy rs j):Int):Rat)*(Bt:Rat):=by rw[aN,aY]
 have k1:p.1*(((X (cy rs i) (cy rs j))*(Bt:Int):Int):Rat)=((-(stc Bt (cq hs i))*(cy rs j).2+stc Bt (cq hs j)*(cy rs i).2:Int):Rat):=by
  rw[e,Za3];unfold slp at oi oj;simp only[eM,aN,eL,ci,cj];grind
 have k2:p.2*(((X (cy rs i) (cy rs j))*(Bt:Int):Int):Rat)=((stc Bt (cq hs i)*(cy rs j).1-stc Bt (cq hs j)*(cy rs i).1:Int):Rat):=by
  rw[e,Za3];unfold slp at oi oj;simp only[lC,aN,ci,cj];grind
 have nz:X (cy rs i) (cy rs j)*(Bt:Int)≠0:=λz=>by
  rcases Int.mul_eq_zero.mp z with z|z
  .exact ne z
  .lia
 have d1:=ZlW nz k1;have d2:=ZlW nz k2;rw[aW,hZ]at d1 d2;exact⟨_,Int.natAbs_pos.mpr ne,xl,d1,d2⟩
theorem Zjs{N Bt:Nat}:∀ms:List RP,(∀p∈ms,∃t:Nat,0<t/\t<=N/\p.1.den ∣ t*Bt/\p.2.den ∣ t*Bt)->∃T:Nat,0<T/\T<=N^ms.length/\∀p∈ms,p.1.den ∣ T*Bt/\p.2.den ∣ T*Bt
 |[],_=>⟨1,by decide,by simp,λp hp=>(by cases hp)⟩
 |m::ms,h=>by
  obtain⟨T,t0,t1,t2⟩:=Zjs ms λp hp=>h p (aF _ hp);obtain⟨t,a0,a1,a2,a3⟩:=h m (by simp)
  refine⟨t*T,Nat.mul_pos a0 t0,?_,λp hp=>?_⟩
  .rw[bv,iB,Nat.mul_comm];exact d9 t1 a1
  .rcases ay.mp hp with rfl|hp
   .rw[show t*T*Bt=T*(t*Bt)by grind]
    exact⟨gQ a2 (iM _ _),gQ a3 (iM _ _)⟩
   .obtain⟨d1,d2⟩:=t2 p hp;rw[Nat.mul_assoc];exact⟨gQ d1 (iM _ _),gQ d2 (iM _ _)⟩
theorem Zrq{ms:List RP}(hX:∀i j:Nat,(X (cy rs i) (cy rs j)).natAbs<=2^b)(hl:hs.length≠0)(hd:∀x∈hs,x.den ∣ Bt)(b0:0<Bt)(b1:Bt<2^d)(w:∀p∈ms,Cor rs hs p)(hN:b*ms.length+1+d<=N):Zdh (Zbz ms)<2^N:=by
 obtain⟨T,t0,t1,t2⟩:=Zjs ms λp hp=>Zn1 hX hl hd b0 (w p hp);have ld:Zdh (Zbz ms) ∣ T*Bt:=ZfA λx hx=>by
  obtain⟨m,hm,e|e⟩:=ZaZ.mp hx
  .rw[e];exact(t2 m hm).1
  .rw[e];exact(t2 m hm).2
 have h1:=j4 (Nat.mul_pos t0 b0) ld;rw[<-Nat.pow_mul]at t1;have h2:2^(b*ms.length)<2^(b*ms.length+1):=Nat.pow_lt_pow_right (by decide) ⋯
 exact am (cI h1 (CR.ZU (cI t1 h2) b1)) (bI (by decide) hN)
theorem Zd8{p:RP}(h1:p.1.den ∣ B)(h2:p.2.den ∣ B)(r:Pt):((pd (stc B p.1,stc B p.2) r:Int):Rat)=slp p r*(B:Rat):=by
 unfold pd slp;simp only[eM,aN,Zbs h1,Zbs h2];grind
theorem Zjt(e:kd p=kd r):p=r:=by
 unfold kd at e;simp only[gR,and_true]at e;exact db e.2 e.1
theorem Zrr(ne:kd p≠kd r)(e:ST.le (kd p) (kd r)):yl p r:=by
 have e:HT.ZaO (kd r) (kd p)=false:=e;unfold kd at e ne;rw[HT.ZW]at e;by_cases c:r.2=p.2
 .rw[if_pos c,HT.ZW]at e;by_cases d:r.1=p.1
  .exact absurd (by rw[c,d]) ne
  .rw[if_neg d]at e
   have:=of_decide_eq_false e
   exact .inr ⟨c.symm,⋯⟩
 .rw[if_neg c]at e
  have:=of_decide_eq_false e
  exact .inl ⋯
theorem Zrs{ρ:Ro}:∀ds:List Pt,Zc1 (ZX (Zc (e2 dIx (Zf 0) (eC (.int 1))) (Zc (e2 dIx (Zf 0) (eC (.int 0))) aNil))) [] ρ M (prs ds) (ds.map kd)
 |[]=>.nil
 |a::r=>by
  have ih:=Zrs (ρ:=ρ) r;refine .cons ⟨?_,by simp[kd]⟩ ih
  have:wO (ZX (Zc (e2 dIx (Zf 0) (eC (.int 1))) (Zc (e2 dIx (Zf 0) (eC (.int 0))) aNil)) [some (pr a.1 a.2)] M) (λd M'=>d=tupD (kd a)/\M'=M) (λ_ _=>False):=by
   simp![Zq];rfl
  obtain⟨d,M',e,e1,e2⟩:=Zgj this;show(ZX _ [some (pr a.1 a.2)] M)=_;rw[e,e1,e2]
theorem Zn2(hx:X u v=1)(hw:∀o,l<=o/\o<=h↔Win rs hs (ip (Ri.qt u v g o)))(m:Pt):m∈ZjF u v g l h↔Win rs hs (ip m)/\pd m u=g:=by
 unfold ZjF;rw[aV];constructor
 .rintro⟨c,hc,rfl⟩;have hc:=bH.mp hc;refine⟨(hw _).mp ⟨⋯,⋯⟩,?_⟩
  have:=Zjo hx g (l+(c:Int)) u
  rw[XX,hx]at this;show pd (Ri.qt u v g (l+(c:Int))) u=g;rw[this];lia
 .rintro⟨w,e⟩;have q:=Zud hx m;rw[e]at q;have b:=(hw (pd m v)).mpr (by rw[q];exact w)
  refine⟨(pd m v-l).toNat,bH.mpr ⋯,?_⟩
  rw[show l+((pd m v-l).toNat:Int)=pd m v by lia]
  exact q
theorem Zrt(hx:X u v=1):(ZjF u v g l h).Nodup:=by
 unfold ZjF;refine cT.mpr (jQ (λ{a b} ne z=>ne ?_) List.nodup_range);have z:pd (Ri.qt u v g (l+(a:Int))) v=pd (Ri.qt u v g (l+(b:Int))) v:=congrArg (λm=>pd m v) z;rw[Zjo hx,Zjo hx,hx]at z;lia
theorem Zru(h:M[n]?=some (.lst (prs rs)))(hS:Smo rs)(hb:Nr B rs)(hl:rs.length<=31)(h':M[m]?=some (.lst (rts hs)))(e:hs.length=rs.length)(hz:∀x∈hs,Sz k x)(hk:k<=900)(hL:∀ms,(∀p∈ms,Cor rs hs p)->ms.length<=2*rs.length->Zdh (Zbz ms)<2^NL)(hk2:2*(4*k+127+NL)+25+k<=8000)(hN:∀ds:List Pt,ds.Nodup->(∀m∈ds,Win rs hs (ip m))->ds.length<1000000)(q:∀ds o M',ds.Pairwise yl->(∀m,m∈ds↔Win rs hs (ip m))->Kp M M'->M.length<=o->M'[o]?=some (.lst (prs ds))->Q (.ref o) M')(hB:B<=1000000:=by first|decide|assumption):wO (F_dots [.ref n,.ref m] M) Q E:=by
 have hn:=Zy h;have hm:=Zy h';simp![F_dots,Zjq];refine Zrk h hS hb hl h' e hz ⋯ λms o M1 bo sz ln K1 lo r1=>?_
 have ho:=Zy r1;simp![ZiR];refine ZlR r1 ⋯ ?_
 have zf:∀x∈Zbz ms,Sz (4*k+127) x:=λx hx=>by
  obtain⟨m,hm,e|e⟩:=ZaZ.mp hx
  .rw[e];exact(sz m hm).1
  .rw[e];exact(sz m hm).2
 simp![Zgs (M:=M1++[SO.lst (rts (Zbz ms))]) (n:=M1.length) (xs:=Zbz ms) (k:=4*k+127) (by simp) (by rw[ZcH];lia) zf ⋯]
 have dv:Dv (Zdh (Zbz ms)) ms:=λm hm=>⟨ZcG (ZaZ.mpr ⟨m,hm,.inl rfl⟩),ZcG (ZaZ.mpr ⟨m,hm,.inr rfl⟩)⟩;have l0:=Zd6 (Zbz ms);have Lb:=hL ms (λp hp=>(bo.1 p).mp hp) ln;generalize Zdh (Zbz ms)=L at *;have K2:Kp M1 (M1++[SO.lst (rts (Zbz ms))]):=Kp.app;have r2:=K2.get r1;have K2:=K1.trans K2;generalize M1++[SO.lst (rts (Zbz ms))]=M2 at *;refine ZkM (xs:=pts ms) (λρ=>∃x y,ρ=[x,y,some (.int (L:Int))]) (λi=>pr ((wP L ms).getD i (0,0)).1 ((wP L ms).getD i (0,0)).2) r2 (by rw[ZT];lia) ⟨_,_,rfl⟩ ?_ ?_
 .rintro i hi ρ L' ⟨x,y,rfl⟩;have hi':i<ms.length:=by rw[ZT]at hi;exact hi
  rw[ZaM];have eg:(wP L ms).getD i (0,0)=(stc L ms[i].1,stc L ms[i].2):=by simp[wP,hi']
  rw[eg];have z:=sz ms[i] (cA hi');generalize ms[i]=p at *;simp![rp,ZaY z.1 ⋯ Lb ⋯,ZaY z.2 ⋯ Lb ⋯]
  exact⟨_,_,rfl⟩
 have ew:(aI (pts ms).length).map (λi=>pr ((wP L ms).getD i (0,0)).1 ((wP L ms).getD i (0,0)).2)=prs (wP L ms):=by
  unfold prs;refine d6 (by simp[wP,ZT]) λi h1 h2=>?_
  have:i<(wP L ms).length:=by simpa using h2
  simp[this]
 rw[ew];have r3:(M2++[SO.lst (prs (wP L ms))])[M2.length]?=some (.lst (prs (wP L ms))):=by simp
 have K3:Kp M (M2++[SO.lst (prs (wP L ms))]):=K2.trans Kp.app;have e3:(M2++[SO.lst (prs (wP L ms))]).length=M2.length+1:=by simp
 have k2:=K2.1;generalize hM3:M2++[SO.lst (prs (wP L ms))]=M3 at *;have eq0:eqF 12 (M3++[SO.lst []]) (.ref M2.length) (.ref M3.length)=some (decide (ms=[])):=by
  have a1:=(Kp.app (L:=[SO.lst []])).get r3;rw[ZkJ a1 (show(M3++[SO.lst []])[M3.length]?=some (.lst [])by simp)]
  cases ms with
  |nil=>rfl
  |cons a r=>rfl
 simp![eq0];have K4:Kp M (M3++[SO.lst []]):=K3.trans Kp.app;have r4:=(Kp.app (L:=[SO.lst []])).get r3;have k4:=K4.1;have e4:(M3++[SO.lst []]).length=M2.length+2:=by simp[e3]
 generalize M3++[SO.lst []]=M4 at *;refine brS (λz=>?_) (λhne=>?_)
 .simp![Zq];refine q [] M4.length _ .nil (λm=>⟨λz=>(by cases z),λw=>?_⟩) (K4.trans Kp.app) ⋯ (by simp[prs])
  obtain⟨p,_,cp,_⟩:=Zjp hS (u:=(1,0)) (by decide) w
  have:=(bo.1 p).mpr cp
  rw[z]at this;cases this
 .have wne:wP L ms≠[]:=λz=>hne (i4.mp z);have wl:(wP L ms).length<1000:=by simp[wP];lia
  obtain⟨ee,he⟩:∃ee,ee=4*k+127+NL:=⟨_,rfl⟩;have wsm:∀p∈wP L ms,sm (2^ee-1) p:=λp hp=>by
   obtain⟨m,hm,rfl⟩:=aV.mp hp;have z:=sz m hm;have h1:=Zdd z.1.1 Lb;have h2:=Zdd z.2.1 Lb;rw[<-he]at h1 h2;unfold Ri.sm;dsimp only;lia
  have Ce:2^ee-1<2^ee:=by have:=lE ee;lia
  generalize 2^ee-1=C at *;have Sl:=Zro Ce;have Vl:=Zgw Ce Sl;simp![Zq];refine Zue r4 wne wl wsm Ce ⋯ λu v M5 hx su sv K5=>?_
  have r5:=K5.get r4;have K5:=K4.trans K5;have k5:=K5.1;simp![Zq];refine ZkM (xs:=prs (wP L ms)) (λρ=>∃x,ρ=[x,some (.tup [pr u.1 u.2,pr v.1 v.2])]) (λi=>.int (pd ((wP L ms).getD i (0,0)) u)) r5 (by simp[prs];lia) ⟨_,rfl⟩ ?_ ?_
  .rintro i hi ρ L' ⟨x,rfl⟩;obtain⟨hi',ei⟩:=Zjr hi;rw[ei];have eg:(wP L ms).getD i (0,0)=(wP L ms)[i]:=by simp[hi']
   rw[eg];have hp':=wsm (wP L ms)[i] (cA hi');generalize (wP L ms)[i]=p at *;simp![ZeX hp' Ce ⋯ su Sl ⋯]
   exact⟨_,rfl⟩
  rw[Zgv];have r6:(M5++[SO.lst (nts (gv (wP L ms) u))])[M5.length]?=some (.lst (nts (gv (wP L ms) u))):=by simp
  have K6:Kp M (M5++[SO.lst (nts (gv (wP L ms) u))]):=K5.trans Kp.app;have e6:(M5++[SO.lst (nts (gv (wP L ms) u))]).length=M5.length+1:=by simp
  generalize M5++[SO.lst (nts (gv (wP L ms) u))]=M6 at *;have r7:(M6++[SO.lst []])[M5.length]?=some (.lst (nts (gv (wP L ms) u))):=(Kp.app (L:=[SO.lst []])).get r6;have f7:(M6++[SO.lst []])[M6.length]?=some (.lst (prs [])):=by simp[prs]
  have K7:Kp M (M6++[SO.lst []]):=K6.trans Kp.app;have k6:=K6.1;simp![r7,CD.Zbh,(Zfx (r:=u) wne).1,(Zfy (r:=u) wne).1,CR.Za2 (j:=(L:Int)) (k:=NL) ⋯ (by simpa using Lb) ⋯]
  generalize M6++[SO.lst []]=M7 at *;obtain⟨_,⟨pm,hpm,epm⟩,lmx⟩:=Zfx (r:=u) wne;obtain⟨_,⟨pn,hpn,epn⟩,lmn⟩:=Zfy (r:=u) wne;have sp:∀p∈wP L ms,(pd p u).natAbs<2^(ee+2+(ee+ee+4)):=λp hp=>by
   have s1:=Zco (wsm p hp).1 su.1;have s2:=Zco (wsm p hp).2 su.2
   have:(4*C+2)*Sc C=C*Sc C+C*Sc C+(2*C+2)*Sc C:=by grind
   unfold pd;lia
  have s1:=sp pm hpm;have s2:=sp pn hpn;rw[<-epm]at s1;rw[<-epn]at s2;generalize mx (wP L ms) u=mX at *;generalize mn (wP L ms) u=mN at *;have Lp:(0:Int)<(L:Int):=⋯
  have d1:∀g:Int,g<=mX/(L:Int)↔g*(L:Int)<=mX:=λg=>kX Lp;have d2:∀g:Int,-(-mN/(L:Int))<=g↔mN<=(L:Int)*g:=λg=>by
   rw[Zgx Lp];lia
  have b1:(mX/(L:Int)).natAbs<2^(ee+2+(ee+ee+4)):=cI (bZ _ _) s1;have b2:(-(-mN/(L:Int))).natAbs<2^(ee+2+(ee+ee+4)):=by
   have:=bZ (-mN) (L:Int)
   lia
  generalize mX/(L:Int)=gh at *;generalize -(-mN/(L:Int))=gl at *;have inr:∀m,Win rs hs (ip m)->gl<=pd m u/\pd m u<=gh:=by
   intro m w;have une:u≠(0,0):=λz=>by rw[z]at hx;simp[X]at hx
   obtain⟨p1,p2,c1,c2,q1,q2⟩:=Zjp hS une w;have m1:=(bo.1 p1).mpr c1;have m2:=(bo.1 p2).mpr c2;have w1:=lmn _ (aV.mpr ⟨p1,m1,rfl⟩);have w2:=lmx _ (aV.mpr ⟨p2,m2,rfl⟩);have t1:=Zd8 (dv p1 m1).1 (dv p1 m1).2 u;have t2:=Zd8 (dv p2 m2).1 (dv p2 m2).2 u;have L0:(0:Rat)<=(L:Rat):=Rat.natCast_nonneg;have y1:=dA q1 L0;have y2:=dA q2 L0;rw[<-t1,<-aY,<-aN]at y1;rw[<-t2,<-aY,<-aN]at y2;have y1:=cL.mp y1;have y2:=cL.mp y2;refine⟨(d2 _).mpr ?_,(d1 _).mpr ?_⟩
   .rw[nB];exact Int.le_trans w1 y1
   .exact Int.le_trans y2 w2
  have rowp:∀g,gl<=g->g<=gh->∃p q,Win rs hs p/\Win rs hs q/\slp p u<=(g:Rat)/\(g:Rat)<=slp q u:=by
   intro g g1 g2;obtain⟨p1,m1,e1⟩:=aV.mp hpn;obtain⟨p2,m2,e2⟩:=aV.mp hpm;have t1:=Zd8 (dv p1 m1).1 (dv p1 m1).2 u;have t2:=Zd8 (dv p2 m2).1 (dv p2 m2).2 u;rw[e1,<-epn]at t1;rw[e2,<-epm]at t2;have y1:=cL.mpr ((d2 g).mp g1);have y2:=cL.mpr ((d1 g).mp g2);rw[t1,aN,aY,Rat.mul_comm (L:Rat)]at y1;rw[t2,aN,aY]at y2;have L0:(0:Rat)<(L:Rat):=hG.mpr l0;exact⟨p1,p2,((bo.1 p1).mp m1).1,((bo.1 p2).mp m2).1,eB y1 L0,eB y2 L0⟩
  have une:u≠(0,0):=λz=>by rw[z]at hx;simp[X]at hx
  have bt:=both hS une;refine Zby (I:=λi ρ M'=>Kp M M'/\∃F x8,ρ=[some (.ref n),some (.ref m),some (.ref o),some (.int (L:Int)),some (.ref M2.length),some (.tup [pr u.1 u.2,pr v.1 v.2]),some (.ref M5.length),some (.ref M6.length),x8]/\M'[M6.length]?=some (.lst (prs F))/\F.Nodup/\∀m,m∈F↔Win rs hs (ip m)/\pd m u<gl+(i:Int)) ⟨K7,[],_,rfl,f7,.nil,λm=>⟨λz=>(by cases z),λz=>by have:=(inr m z.1).1;have:=z.2;lia⟩⟩ ?_ ?_
  .rintro i ρ M8 hi ⟨K8,F,x8,rfl,f8,nd,mem⟩;have hg:gl<=gl+(i:Int)/\gl+(i:Int)<=gh:=⋯
   obtain⟨p,q',wp,wq,q1,q2⟩:=rowp (gl+(i:Int)) hg.1 hg.2;have mem':∀m,m∈F↔Win rs hs (ip m)/\pd m u<gl+(i:Int):=mem;have gb:(gl+(i:Int)).natAbs<2^(ee+2+(ee+ee+4)):=⋯
   have nx:gl+((i+1:Nat):Int)=gl+(i:Int)+1:=⋯
   simp only[nx];generalize gl+(i:Int)=g at *;simp![Zdf,f8];have key:∀l h9:Int,(∀o,l<=o/\o<=h9↔∀j<rs.length,ac rs hs u j≠0->0<=ac rs hs u j*o+re rs hs v g j)->(∀m,m∈ZjF u v g l h9↔Win rs hs (ip m)/\pd m u=g)/\(ZjF u v g l h9).Nodup:=λl h9 hw=>⟨Zn2 hx λo=>(hw o).trans (ZnY hx wp wq q1 q2 o).symm,Zrt hx⟩;refine ZkW (K8.get h) (K8.get h') e hS.ne (λx hx=>by have:=hb x hx;lia) ⋯ hz ⋯ su Sl sv Vl ⋯ gb bt.1 bt.2 (λl h9 hw=>?_) λl h9 hw=>?_
   .have:=hN _ (key l h9 hw).2 λm hm=>(((key l h9 hw).1 m).mp hm).1
    unfold ZjF at this;rw[af,ix]at this;lia
   .obtain⟨rm,rn⟩:=key l h9 hw;clear key;generalize ZjF u v g l h9=N at *;have k8:=K8.1;have l8:=Zy f8;have f9:=(Kp.app (L:=[SO.lst (prs N)])).get f8;have n9:(M8++[SO.lst (prs N)])[M8.length]?=some (.lst (prs N)):=by simp
    have nd2:(F++N).Nodup:=fV.mpr ⟨nd,rn,λa ha b hb z=>by
     subst z
     have:=((mem' a).mp ha).2
     have:=((rm a).mp hb).2
     lia⟩
    have ln2:=hN (F++N) nd2 λm hm=>by
     rcases be.mp hm with z|z
     .exact((mem' m).mp z).1
     .exact((rm m).mp z).1
    rw[aT]at ln2;simp![f9,n9];refine⟨⋯,(K8.trans Kp.app).set ⋯,F++N,_,rfl,by rw[bf (by simp;lia)],nd2,λm=>?_⟩
    rw[be,mem',rm];constructor
    .rintro(⟨w,z⟩|⟨w,z⟩)
     .exact⟨w,⋯⟩
     .exact⟨w,⋯⟩
    .rintro⟨w,z⟩;by_cases y:pd m u<g
     .exact .inl ⟨w,y⟩
     .exact .inr ⟨w,⋯⟩
  .rintro ρ M8 ⟨K8,F,x8,rfl,f8,nd,mem⟩;have mem':∀m,m∈F↔Win rs hs (ip m):=λm=>(mem m).trans ⟨λz=>z.1,λw=>⟨w,by have:=inr m w;lia⟩⟩
   have ln:=hN F nd λm hm=>(mem' m).mp hm;simp![ZlQ];obtain⟨ds,pm',pw,es⟩:=Zgt (f:=kd) (g:=λ(m:Pt)=>pr m.1 m.2) (0,0) (λa _ b _ z=>Zjt z) nd;have kn:(F.map kd).Nodup:=cT.mpr (jQ (λne e=>ne (Zjt e)) nd);rw[ZdV f8 ⟨by rw[ZL];exact ln,kn,Zrs F⟩,show ZkC (F.map kd) (prs F)=prs ds from es]
   refine(?_:Q _ _);have k8:=K8.1;exact q ds M8.length _ (pw.imp λz=>Zrr z.1 z.2) (λm=>(pm'.mem_iff).trans (mem' m)) (K8.trans Kp.app) k8 (by simp)
end
end DT
namespace K46
open CR (Zb6 F_is_whole Zal ZaF F_greatest_divisor Zfp F_ratio Zfq F_times)
open CC (ZaQ F_crossed ZaV F_following Zag ZaW F_unspanned ZaE F_ask_smooth ZbG F_ask_place Zd1 F_put_in)
open DT (Zde F_product Zfz F_width Zca F_lessened Zaz Zbk F_least_wide Zap Zcb F_two_ways Z6 Za0 F_dots_across Zdf Zjq F_dots)
open CS (Zfs F_minus Zbg F_ask_height Zaw F_slope_through)
open CD (Zi2 F_less Zax F_law_short_put ZaX Zb7 F_law_base ZaL ZbK F_law_table Zb8 F_law_spun)
open BD (Zaa Zay F_common_bottom ZbL F_stretched Zda Zja F_edge Zb9 F_in_order Zdb Zdc Zjb F_body)
open CB (ZbJ F_law_purse Zb5 F_law_take)
open BL (ZbA)
open L2 DL
structure Txt(K:Fg) (mg:Str->Option ae):Prop extends Bs mg where
 gl:∀c v,PySem.W.nsIn K aR c=some (some v)->mg c=some v
 d:Dfs K top tab
 ex_NotSmooth:ZmI K "NotSmooth"=true
 ex_NoRatio:ZmI K "NoRatio"=true
 ex_NoHeight:ZmI K "NoHeight"=true
 lm_m:Zni K=true
 lb_in_order:ZrT K "in_order"=true
 lb_dots:ZrT K "dots"=true
 ex_NoPlace:ZmI K "NoPlace"=true
section
variable {P:cE}{w:c6}{K:Fg}{mg:Str->Option ae}{base:Heap}
def ZeY:Sv:=(ZD (ZK (gNm 2) (e2 dSub (e2 dMul (e2 dIx (Zf 0) (eC (.int 0))) (e2 dIx (Zf 0) (eC (.int 3)))) (e2 dMul (e2 dIx (Zf 0) (eC (.int 1))) (e2 dIx (Zf 0) (eC (.int 2)))))) (Zai (ZX (Zc (e2 dMul (Zf 2) (e2 dSub (e2 dMul (e2 dIx (Zf 0) (eC (.int 3))) (e2 dIx (Zf 1) (eC (.int 0)))) (e2 dMul (e2 dIx (Zf 0) (eC (.int 2))) (e2 dIx (Zf 1) (eC (.int 1)))))) (Zc (e2 dMul (Zf 2) (e2 dSub (e2 dMul (e2 dIx (Zf 0) (eC (.int 0))) (e2 dIx (Zf 1) (eC (.int 1)))) (e2 dMul (e2 dIx (Zf 0) (eC (.int 1))) (e2 dIx (Zf 1) (eC (.int 0)))))) aNil)))))
def F_law_met:W3:=fnF ZeY 2 1
def ZfB:Sv:=(ZD (Zdi 2 3 (Zc (Zj bAbs (Zc (Zf 0) aNil)) (Zc (Zf 1) aNil))) (ZD (sWh (tv (e2 dGt (Zf 3) (eC (.int 0)))) ZbA) (Zai (ZX (Zc (e2 dDiv (Zf 0) (Zf 2)) (Zc (e2 dDiv (Zf 1) (Zf 2)) aNil))))))
def F_law_ratio:W3:=fnF ZfB 2 2
def Za4:Sv:=(ZD (ZK (gNm 6) (e2 dAdd (e2 dMul (Zf 3) (e2 dSub (Zj F_law_take (Zc (Zf 0) (Zc (Zf 2) aNil))) (eC (.int 2)))) (Zj F_law_take (Zc (Zf 0) (Zc (Zf 3) aNil))))) (Zct (ZhS mApp (Zf 4) (Zc (Zj F_law_ratio (Zc (e2 dIx (Za8 (Zc (Zf 6) (Zc (e2 dMod (Zf 6) (Zf 3)) aNil))) (Zj bInt (Zc (e2 dGt (Zj bAbs (Zc (Zf 6) aNil)) (eC (.int 9999))) aNil))) (Zc (Zf 3) aNil))) aNil))))
def ZbX:Sv:=(ZD (ZK (gNm 2) (e2 dIx (Za8 (Zc (eC (.int 9)) (Zc (eC (.int 23)) aNil))) (Zj bInt (Zc (e2 dEq (Zj F_law_take (Zc (Zf 0) (Zc (eC (.int 8)) aNil))) (eC (.int 5))) aNil)))) (ZD (ZK (gNm 3) (e2 dIx (Za8 (Zc (eC (.int 1)) (Zc (eC (.int 1)) (Zc (eC (.int 1)) (Zc (eC (.int 1)) (Zc (eC (.int 2)) (Zc (eC (.int 3)) (Zc (e2 dAdd (eC (.int 4)) (Zj F_law_take (Zc (Zf 0) (Zc (eC (.int 9996)) aNil)))) aNil)))))))) (Zj F_law_take (Zc (Zf 0) (Zc (eC (.int 7)) aNil))))) (ZD (ZK (gNm 4) (Za8 aNil)) (ZD (Zbc (gNm 5) (Zc (Zf 1) aNil) Za4) (Zai (Zf 4))))))
def F_law_heights:W3:=fnF ZbX 2 5
def ZbB:Sv:=(sIf (tv (Zj bAll (Zc (Zao (iZp (Zc (Zf 0) (Zc (Zf 1) aNil))) 2 [6,7] (gTp (gCs (gNm 0) (gCs (gNm 1) gNl))) (λ_ M=>.ok true M) (e2 dGe (e2 dMul (e2 dAdd (e2 dMul (Zf 3) (e2 dIx (Zf 0) (eC (.int 0)))) (e2 dMul (Zf 2) (e2 dIx (Zf 0) (eC (.int 1))))) (e2 dIx (Zf 1) (eC (.int 1)))) (e2 dSub (eC (.int 0)) (e2 dIx (Zf 1) (eC (.int 0)))))) aNil))) (Zct (ZhS mApp (Zf 5) (Zc (ZX (Zc (Zf 7) (Zc (Zf 6) aNil))) aNil))) sNil)
def ZbC:Sv:=(ZcR (gNm 7) (Zc (e2 dIx (Zf 4) (eC (.int 0))) (Zc (e2 dIx (Zf 4) (eC (.int 2))) aNil)) ZbB)
def Zdg:Sv:=(ZD (Zdi 2 3 (Zc (e2 dIx (Zf 1) (ZhS mIdx (Zf 0) (Zc (ZX (Zc (eC (.int 1)) (Zc (eC (.int 0)) aNil))) aNil))) (Zc (e2 dIx (Zf 1) (ZhS mIdx (Zf 0) (Zc (ZX (Zc (eC (.int 0)) (Zc (eC (.int 1)) aNil))) aNil))) aNil))) (ZD (ZK (gNm 4) (Za8 (Zc (e2 dSub (eC (.int 0)) (e2 dDiv (e2 dIx (Zf 2) (eC (.int 0))) (e2 dIx (Zf 2) (eC (.int 1))))) (Zc (e2 dSub (eC (.int 0)) (e2 dDiv (e2 dIx (Zf 3) (eC (.int 0))) (e2 dIx (Zf 3) (eC (.int 1))))) (Zc (eC (.int 130)) aNil))))) (ZD (ZK (gNm 5) (Za8 aNil)) (ZD (ZcR (gNm 6) (Zc (e2 dIx (Zf 4) (eC (.int 1))) (Zc (eC (.int 50)) aNil)) ZbC) (Zai (Zf 5))))))
def F_law_tried:W3:=fnF Zdg 2 6
def ZaG:Sv:=(ZK (gNm 9) (e2 dAdd (Zf 9) (Zao (iR1 (Zc (e2 dAdd (Zf 2) (eC (.int 1))) aNil)) 1 [3,6,10] (gNm 0) (λ_ M=>.ok true M) (Zj F_law_met (Zc (Zf 2) (Zc (ZX (Zc (e2 dSub (Zf 0) (Zf 1)) (Zc (Zf 3) aNil))) aNil))))))
def Zbl:Sv:=(ZD (ZK (gNm 1) (Za8 (Zc (ZX (Zc (eC (.int 1)) (Zc (eC (.int 0)) aNil))) (Zc (ZX (Zc (eC (.int 0)) (Zc (eC (.int 1)) aNil))) (Zc (ZX (Zc (Zcr (eC (.int 1))) (Zc (eC (.int 0)) aNil))) (Zc (ZX (Zc (eC (.int 0)) (Zc (Zcr (eC (.int 1))) aNil))) aNil)))))) (ZD (ZK (gNm 2) (Zj F_law_take (Zc (Zf 0) (Zc (eC (.int 1501)) aNil)))) (ZD (ZK (gNm 3) (Zj F_law_take (Zc (Zf 0) (Zc (e2 dAdd (Zf 2) (eC (.int 1))) aNil)))) (ZD (ZK (gNm 4) (e2 dMul (Zj F_law_take (Zc (Zf 0) (Zc (eC (.int 2)) aNil))) (Zj bInt (Zc (e2 dLt (Zf 2) (eC (.int 900))) aNil)))) (ZD (ZK (gNm 5) (Za8 (Zc (ZX (Zc (Zf 3) (Zc (eC (.int 1)) aNil))) (Zc (ZX (Zc (eC (.int 0)) (Zc (eC (.int 1)) aNil))) (Zc (ZX (Zc (e2 dSub (Zf 2) (Zf 3)) (Zc (eC (.int 1)) aNil))) (Zc (ZX (Zc (Zf 4) (Zc (eC (.int 1)) aNil))) aNil)))))) (ZD (ZK (gNm 6) (Zj F_law_table (Zc (Zf 0) aNil))) (ZD (ZK (gTp (gCs (gNm 7) (gCs (gNm 8) gNl))) (Zj F_law_spun (Zc (Zf 6) (Zc (Zf 1) (Zc (Zf 5) (Zc (Zj F_law_take (Zc (Zf 0) (Zc (eC (.int 4)) aNil))) aNil)))))) (ZD (ZK (gNm 9) (Za8 aNil)) (ZD (Zbc (gNm 10) (Zc (e2 dAdd (Zf 4) (eC (.int 1))) aNil) ZaG) (Zai (e2 dEq (Zj F_dots (Zc (Zf 7) (Zc (Zf 8) aNil))) (Zao (iSq (Zj bSrt (Zc (Zao (iSq (Zf 9)) 2 [] (gTp (gCs (gNm 0) (gCs (gNm 1) gNl))) (λ_ M=>.ok true M) (ZX (Zc (Zf 1) (Zc (Zf 0) aNil)))) aNil))) 2 [] (gTp (gCs (gNm 0) (gCs (gNm 1) gNl))) (λ_ M=>.ok true M) (ZX (Zc (Zf 1) (Zc (Zf 0) aNil)))))))))))))))
def F_law_wide_good:W3:=fnF Zbl 1 10
def Zgy:Sv:=(ZK (gNm 3) (Zj F_put_in (Zc (Zf 3) (Zc (Zj F_law_take (Zc (Zf 2) (Zc (Zj bLen (Zc (Zf 3) aNil)) aNil))) aNil))))
def Zd9:Sv:=(ZD (ZK (gNm 2) (Zj F_law_purse (Zc (Zf 0) (Zc (Zf 1) aNil)))) (ZD (ZK (gNm 3) (Zj F_law_base (Zc (Zf 2) (Zc (eC (.int 14)) aNil)))) (ZD (ZK (gNm 4) (e2 dMul (Zj F_law_take (Zc (Zf 2) (Zc (eC (.int 17)) aNil))) (Zj bInt (Zc (e2 dEq (Zj F_law_take (Zc (Zf 2) (Zc (eC (.int 8)) aNil))) (eC (.int 5))) aNil)))) (ZD (Zbc (gNm 5) (Zc (Zf 4) aNil) Zgy) (ZD (ZK (gNm 6) (Zj F_law_heights (Zc (Zf 2) (Zc (Zj bLen (Zc (Zf 3) aNil)) aNil)))) (ZD (ZK (gNm 7) (Zj F_law_table (Zc (Zf 2) aNil))) (ZD (sIf (tv (e2 dGt (Zf 4) (eC (.int 0)))) (ZK (gNm 7) (Za8 (Zc (eC (.int 1)) (Zc (eC (.int 0)) (Zc (eC (.int 0)) (Zc (eC (.int 1)) aNil)))))) sNil) (ZD (ZK (gTp (gCs (gNm 8) (gCs (gNm 9) gNl))) (Zj F_law_spun (Zc (Zf 7) (Zc (Zf 3) (Zc (Zf 6) (Zc (Zj F_law_take (Zc (Zf 2) (Zc (Zj bLen (Zc (Zf 3) aNil)) aNil))) aNil)))))) (ZD (ZK (gNm 10) (Zao (iSq (Zj F_law_tried (Zc (Zf 3) (Zc (Zf 6) aNil)))) 1 [7] (gNm 0) (λ_ M=>.ok true M) (Zj F_law_met (Zc (Zf 1) (Zc (Zf 0) aNil))))) (ZD (ZK (gNm 11) (Zao (iSq (Zj bSrt (Zc (Zao (iSq (Zf 10)) 2 [] (gTp (gCs (gNm 0) (gCs (gNm 1) gNl))) (λ_ M=>.ok true M) (ZX (Zc (Zf 1) (Zc (Zf 0) aNil)))) aNil))) 2 [] (gTp (gCs (gNm 0) (gCs (gNm 1) gNl))) (λ_ M=>.ok true M) (ZX (Zc (Zf 1) (Zc (Zf 0) aNil))))) (ZD (ZK (gNm 12) (ZX (Zc (Zj bList (Zc (Zf 8) aNil)) (Zc (Zj bList (Zc (Zf 9) aNil)) aNil)))) (ZD (ZK (gNm 13) (Zj F_dots (Zc (e2 dIx (Zf 12) (eC (.int 0))) (Zc (e2 dIx (Zf 12) (eC (.int 1))) aNil)))) (ZD (sIf (ZgL (ZdH (tv (ZmA "list" (Zf 13)))) (ZgL (tv (e2 dNe (Zf 13) (Zf 11))) (tv (e2 dNe (Zf 12) (ZX (Zc (Zf 8) (Zc (Zf 9) aNil))))))) (Zai (eC (.bl false))) sNil) (ZD (Zct (ZhS mApp (Zf 13) (Zc (ZX (Zc (eC (.int 0)) (Zc (eC (.int 0)) aNil))) aNil))) (ZD (sIf (tv (e2 dNe (Zj F_dots (Zc (e2 dIx (Zf 12) (eC (.int 0))) (Zc (e2 dIx (Zf 12) (eC (.int 1))) aNil))) (Zf 11))) (Zai (eC (.bl false))) sNil) (sIf (Zcq (tv (e2 dEq (Zj F_law_take (Zc (Zf 2) (Zc (eC (.int 16)) aNil))) (eC (.int 11)))) (ZdH (tv (Zj F_law_wide_good (Zc (Zf 2) aNil))))) (Zai (eC (.bl false))) sNil))))))))))))))))
def Zrv:Sv:=(ZD (Zbc (gNm 1) (Zc (Zj bMax (Zc (eC (.int 1)) (Zc (Zj bMin (Zc (eC (.int 2)) (Zc (Zj bLen (Zc (Zf 0) aNil)) aNil))) aNil))) aNil) Zd9) (Zai (eC (.bl true))))
def ZfC:W3:=fnF Zrv 1 13
variable (T:Txt K mg)
include T
theorem C1:Cal P w K mg base "is_whole" 1 1 F_is_whole:=Z2 (N:=["thing"]) (T.d.at 0 7) T.gl λ_ _ _ _ _ _ _ nd hr θ=>(Zi (ZC (ZoZ (ZhH ZmB T.b_isinstance T.b_int ZbO (Zb 0)) (ZoY (Zo0 (ZhH Zj2 T.b_isinstance T.b_bool ZmE (Zb 0)))))))
theorem C2:Cal P w K mg base "greatest_divisor" 101 2 F_greatest_divisor:=Z2 (N:=["one","other","high","low"]) (T.d.at 1 8) T.gl λ_ _ _ _ _ _ _ nd hr θ=>(Zg (Zbx 2 3 (Zx hr (by decide)) nd (Za (Zu ZaR ZcQ T.b_abs ZcS (Za (Zb 0) Ze)) (Za (Zu ZaR ZcQ T.b_abs ZcS (Za (Zb 1) Ze)) Ze)))
  (Zg (ZcB θ.own (ZE (Zdo hr.units) ZgM (Zb 3) Zd) (Zi (Zbx 2 3 (Zx hr (by decide)) nd (Za (Zb 3) (Za (Za9 (Zb 2) (Zb 3)) Ze)))))
  (Zi (ZC (Zb 2)))))
theorem C3:Cal P w K mg base "crossed" 1 2 F_crossed:=Z2 (N:=["one","other"]) (T.d.at 2 10) T.gl λ_ _ _ _ _ _ _ nd hr θ=>(Zi (ZC (Z0 (Zt (Zk (Zb 0) Zd) (Zk (Zb 1) Zd)) (Zt (Zk (Zb 0) Zd) (Zk (Zb 1) Zd)))))
theorem C4:Cal P w K mg base "product" 1 2 F_product:=Z2 (N:=["one","other"]) (T.d.at 3 11) T.gl λ_ _ _ _ _ _ _ nd hr θ=>(Zi (ZC (ZF (Zt (Zk (Zb 0) Zd) (Zk (Zb 1) Zd)) (Zt (Zk (Zb 0) Zd) (Zk (Zb 1) Zd)))))
theorem C5:Cal P w K mg base "following" 1 2 F_following:=Z2 (N:=["things","at"]) (T.d.at 4 13) T.gl λ_ _ _ _ _ _ _ nd hr θ=>(Zi (ZC (Zk (Zb 0) (Za9 (ZF (Zb 1) Zd) (Zu Zz Zam T.b_len PySem.boot_len (Za (Zb 0) Ze))))))
theorem C6:Cal P w K mg base "unspanned" 101 1 F_unspanned:=Z2 (N:=["rays","at","ray"]) (T.d.at 5 14) T.gl λ_ _ _ _ _ _ _ nd hr θ=>(Zg (Zfb θ.own (ZmO (hr.hd (by decide)) T.b_enumerate (Za (Zb 0) Ze)) (Z5 (Zx hr (by decide)) (Zm (Zl 1 nd) (Zm (Zl 2 nd) ZO)) (hlen:=(Zv (Zv (λ_ _ _ h=>ZP h))))) (Zi (Z9 (ZE (Zdo hr.units) ZgM (Zh (C3 T) θ hr (Za (Zb 2) (Za (Zh (C5 T) θ hr (Za (Zb 0) (Za (Zb 1) Ze))) Ze))) Zd) (Zi (ZC (Zb 1))) ZI)))
  (Zi (ZC Zcf)))
theorem C7:Cal P w K mg base "ask_smooth" 102 1 F_ask_smooth:=Z2 (N:=["rays","at"]) (T.d.at 6 15) T.gl λ_ _ _ _ _ _ _ nd hr θ=>(Zg (Zn 1 nd (Zh (C6 T) θ hr (Za (Zb 0) Ze))) (Zi (Z9 (ZE ZhE Zj1 (Zb 1) Zcf) (Zi (ZbR θ T.ex_NotSmooth T.gl (hr.hd (by decide)) (Za (ZmS (ZaJ Zcg (ZaJ (Zkj (Zb 1)) (ZaJ Zcg Zh6)))) Ze))) ZI)))
theorem C8:Cal P w K mg base "ratio" 102 2 F_ratio:=Z2 (N:=["top","bottom","part"]) (T.d.at 7 17) T.gl λ_ _ _ _ _ _ _ nd hr θ=>(Zg (Z9 (ZfR (Zep (ZfS (Zch (Zh (C1 T) θ hr (Za (Zb 0) Ze)))) (ZcM (ZfS (Zch (Zh (C1 T) θ hr (Za (Zb 1) Ze))))))) (Zi (ZbR θ T.ex_NoRatio T.gl (hr.hd (by decide)) (Za Zcg Ze))) ZI)
  (Zg (Z9 (ZE (Zba hr.units) ZcP (Zb 1) Zd) (Zi (ZbR θ T.ex_NoRatio T.gl (hr.hd (by decide)) (Za Zcg Ze))) ZI)
  (Zg (Zn 2 nd (Zh (C2 T) θ hr (Za (Zb 0) (Za (Zb 1) Ze)))) (Zg (Z9 (ZE ZbY Zb0 (Zb 1) Zd) (Zi (Zn 2 nd (Z8 (Zb 2)))) ZI) (Zi (ZC (Zw (Za (Zab (Zb 0) (Zb 2)) (Za (Zab (Zb 1) (Zb 2)) Ze)))))))))
theorem C9:Cal P w K mg base "minus" 103 2 F_minus:=Z2 (N:=["one","other"]) (T.d.at 8 18) T.gl λ_ _ _ _ _ _ _ nd hr θ=>(Zi (ZC (Zh (C8 T) θ hr (Za (Z0 (Zt (Zk (Zb 0) Zd) (Zk (Zb 1) Zd)) (Zt (Zk (Zb 1) Zd) (Zk (Zb 0) Zd))) (Za (Zt (Zk (Zb 0) Zd) (Zk (Zb 1) Zd)) Ze)))))
theorem C10:Cal P w K mg base "times" 103 2 F_times:=Z2 (N:=["one","other"]) (T.d.at 9 19) T.gl λ_ _ _ _ _ _ _ nd hr θ=>(Zi (ZC (Zh (C8 T) θ hr (Za (Zt (Zk (Zb 0) Zd) (Zk (Zb 1) Zd)) (Za (Zt (Zk (Zb 0) Zd) (Zk (Zb 1) Zd)) Ze)))))
theorem C11:Cal P w K mg base "less" 1 2 F_less:=Z2 (N:=["one","other"]) (T.d.at 10 20) T.gl λ_ _ _ _ _ _ _ nd hr θ=>(Zi (ZC (Za7 ZbY Zb0 (Zt (Zk (Zb 0) Zd) (Zk (Zb 1) Zd)) (Zt (Zk (Zb 1) Zd) (Zk (Zb 0) Zd)))))
theorem C12:Cal P w K mg base "common_bottom" 102 1 F_common_bottom:=Z2 (N:=["ones","bottom","one"]) (T.d.at 11 21) T.gl λ_ _ _ _ _ _ _ nd hr θ=>(Zg (Zn 1 nd Zd) (Zg (Zlf θ.own (Zb 0) (Zl 2 nd) (Zi (Zn 1 nd (Zt (Zb 1) (Zab (Zk (Zb 2) Zd) (Zh (C2 T) θ hr (Za (Zb 1) (Za (Zk (Zb 2) Zd) Ze)))))))) (Zi (ZC (Zb 1)))))
theorem C13:Cal P w K mg base "stretched" 1 2 F_stretched:=Z2 (N:=["one","bottom"]) (T.d.at 12 22) T.gl λ_ _ _ _ _ _ _ nd hr θ=>(Zi (ZC (Zt (Zk (Zb 0) Zd) (Zab (Zb 1) (Zk (Zb 0) Zd)))))
theorem C14:Cal P w K mg base "ask_height" 101 2 F_ask_height:=Z2 (N:=["rays","height"]) (T.d.at 13 24) T.gl λ_ _ _ _ _ _ _ nd hr θ=>(Zi (Z9 (ZE (Zdo hr.units) ZgM (Zu Zz Zam T.b_len PySem.boot_len (Za (Zb 1) Ze)) (Zu Zz Zam T.b_len PySem.boot_len (Za (Zb 0) Ze))) (Zi (ZbR θ T.ex_NoHeight T.gl (hr.hd (by decide)) (Za (ZmS (ZaJ Zcg (ZaJ (Zkj (Zu Zz Zam T.b_len PySem.boot_len (Za (Zb 0) Ze))) (ZaJ Zcg (ZaJ (Zkj (Zu Zz Zam T.b_len PySem.boot_len (Za (Zb 1) Ze))) (ZaJ Zcg Zh6)))))) Ze))) ZI))
theorem C15:Cal P w K mg base "slope_through" 104 2 F_slope_through:=Z2 (N:=["rays","height","a","b","c","d","first","second"]) (T.d.at 14 25) T.gl λ_ _ _ _ _ _ _ nd hr θ=>(Zg (Zdp (Zw (Za (Zk (Zb 0) Zd) (Za (Zk (Zb 0) Zd) Ze))) (Z5 (Zx hr (by decide)) (Zm (Z5 (Zx hr (by decide)) (Zm (Zl 2 nd) (Zm (Zl 3 nd) ZO)) (hlen:=(Zv (Zv (λ_ _ _ h=>ZP h))))) (Zm (Z5 (Zx hr (by decide)) (Zm (Zl 4 nd) (Zm (Zl 5 nd) ZO)) (hlen:=(Zv (Zv (λ_ _ _ h=>ZP h))))) ZO)) (hlen:=(Zv (Zv (λ_ _ _ h=>ZP h))))))
  (Zg (Zbx 6 7 (Zx hr (by decide)) nd (Za (Zk (Zb 1) Zd) (Za (Zk (Zb 1) Zd) Ze)))
  (Zi (ZC (Zw (Za (Zh (C9 T) θ hr (Za (Zh (C10 T) θ hr (Za (Zb 6) (Za (Zw (Za (Zb 5) (Za Zd Ze))) Ze))) (Za (Zh (C10 T) θ hr (Za (Zb 7) (Za (Zw (Za (Zb 3) (Za Zd Ze))) Ze))) Ze))) (Za (Zh (C9 T) θ hr (Za (Zh (C10 T) θ hr (Za (Zb 7) (Za (Zw (Za (Zb 2) (Za Zd Ze))) Ze))) (Za (Zh (C10 T) θ hr (Za (Zb 6) (Za (Zw (Za (Zb 4) (Za Zd Ze))) Ze))) Ze))) Ze)))))))
theorem C16:Cal P w K mg base "edge" 105 3 F_edge:=Z2 (N:=["rays","height","at","ray","behind","own","low","high","other","its","across","asked","bottom"]) (T.d.at 15 27) T.gl λ_ _ _ _ _ _ _ nd hr θ=>(Zg (Zdp (Zw (Za (Zk (Zb 0) (Zb 2)) (Za (Zh (C5 T) θ hr (Za (Zb 0) (Za (Zb 2) Ze))) Ze))) (Z5 (Zx hr (by decide)) (Zm (Zl 3 nd) (Zm (Zl 4 nd) ZO)) (hlen:=(Zv (Zv (λ_ _ _ h=>ZP h))))))
  (Zg (Zn 5 nd (Zk (Zb 1) (Zb 2))) (Zg (Zie Zcf (Zl 6 nd) (Zl 7 nd)) (Zg (Zfb θ.own (Zf6 (hr.hd (by decide)) T.b_zip (Za (Zb 0) (Za (Zb 1) Ze))) (Z5 (Zx hr (by decide)) (Zm (Zl 8 nd) (Zm (Zl 9 nd) ZO)) (hlen:=(Zv (Zv (λ_ _ _ h=>ZP h))))) (Zg (Zn 10 nd (Zh (C3 T) θ hr (Za (Zb 3) (Za (Zb 8) Ze))))
  (Zg (Zn 11 nd (Z0 (Zt (Zt (Zh (C3 T) θ hr (Za (Zb 8) (Za (Zb 4) Ze))) (Zk (Zb 5) Zd)) (Zk (Zb 9) Zd)) (Zt (Zk (Zb 9) Zd) (Zk (Zb 5) Zd)))) (Zg (Zn 12 nd (Zt (Zt (Zb 10) (Zk (Zb 5) Zd)) (Zk (Zb 9) Zd))) (Zg (Z9 (ZfR (ZcN (ZE (Zba hr.units) ZcP (Zb 10) Zd) (ZbD (ZE ZcJ ZcO (Zb 11) Zd)))) (Zi (ZC (ZN Ze))) ZI) (Zg (Z9 (ZfR (ZcN (ZE ZcJ ZcO (Zb 10) Zd) (ZbD (ZfR (Zep (ZE ZfV Zj0 (Zb 6) Zcf) (ZcM (Zch (Zh (C11 T) θ hr (Za (Zb 6) (Za (Zw (Za (Zb 11) (Za (Zb 12) Ze))) Ze)))))))))) (Zi (Zn 6 nd (Zw (Za (Zb 11) (Za (Zb 12) Ze))))) ZI) (Zi (Z9 (ZfR (ZcN (ZE ZbY Zb0 (Zb 10) Zd) (ZbD (ZfR (Zep (ZE ZfV Zj0 (Zb 7) Zcf) (ZcM (Zch (Zh (C11 T) θ hr (Za (Zw (Za (Z8 (Zb 11)) (Za (Z8 (Zb 12)) Ze))) (Za (Zb 7) Ze)))))))))) (Zi (Zn 7 nd (Zw (Za (Z8 (Zb 11)) (Za (Z8 (Zb 12)) Ze))))) ZI))))))))
  (Zg (Z9 (Zch (Zh (C11 T) θ hr (Za (Zb 7) (Za (Zb 6) Ze)))) (Zi (ZC (ZN Ze))) ZI) (Zi (ZC (Zat (Zdv ["rays","height","at","ray","behind","own","low","high","other","its","across","asked","bottom"] ["end","ray","behind","own"] (dS 27) 1 [3,4,5]) (Zaj (Zw (Za (Zb 6) (Za (Zb 7) Ze)))) λ_ _ _ _ _=>⟨(Zl 0 (show a9 (["end","ray","behind","own"]:List Str)by decide +kernel)),(dw ⟨rfl,rfl⟩),(Zh (C15 T) Zbd hr (Za (ZN (Za (Zb 1) (Za (Zb 2) Ze))) (Za (ZN (Za (Zw (Za (Z8 (Zk (Zb 3) Zd)) (Za (Zk (Zb 3) Zd) Ze))) (Za (Zh (C8 T) Zbd hr (Za (Zk (Zb 0) Zd) (Za (Zk (Zb 0) Zd) Ze))) Ze))) Ze)))⟩))))))))
theorem C17:Cal P w K mg base "in_order" 106 1 F_in_order:=Zlt (N:=["points","bottom"]) (T.d.at 16 28) T.lb_in_order T.gl λ_ _ _ _ _ _ _ hc nd hr θ=>(Zg (Zn 1 nd (Zh (C12 T) θ hr (Za (Zf9 (Zdv ["points","bottom"] ["point","part"] (dS 28) 2 []) (Zaj (Zb 0)) λ_ _ _ _ _=>⟨(Zl 0 (show a9 (["point","part"]:List Str)by decide +kernel)),(dw ⟨rfl,rfl⟩),(Zaj (Zb 0)),(Zl 1 (show a9 (["point","part"]:List Str)by decide +kernel)),(dw ⟨rfl,rfl⟩),(Zb 1)⟩) Ze)))
  (Zi (ZC (Zgf (k:=102) (Zgh T.lm_m) hc (hr.mono (by decide)) (Zux (x:="point") ["points","bottom"] ["point","bottom"] (dS 28) [1]) T.b_sorted (Za (Zb 0) Ze) (λ_ _ _ _ _ hr=>(Zw (Za (Zh (C13 T) Ziy hr (Za (Zk (Zb 0) Zd) (Za (Zb 1) Ze))) (Za (Zh (C13 T) Ziy hr (Za (Zk (Zb 0) Zd) (Za (Zb 1) Ze))) Ze))))))))
theorem C18:Cal P w K mg base "body" 107 2 F_body:=Z2 (N:=["rays","height","met","at","point"]) (T.d.at 17 29) T.gl λ_ _ _ _ _ _ _ nd hr θ=>(Zg (Zbb (Zh (C7 T) θ hr (Za (Zb 0) Ze))) (Zg (Zbb (Zh (C14 T) θ hr (Za (Zb 0) (Za (Zb 1) Ze)))) (Zg (Zn 2 nd Zpx) (Zg (ZaS θ.own T.b_range (Za (Zu Zz Zam T.b_len PySem.boot_len (Za (Zb 0) Ze)) Ze) (Zl 3 nd) (Zi (Zlf θ.own (Zh (C16 T) θ hr (Za (Zb 0) (Za (Zb 1) (Za (Zb 3) Ze)))) (Zl 4 nd) (Zi (ZmY hr.units (Zb 2) (Zb 4) Zhx))))) (Zi (ZC (Zh (C17 T) θ hr (Za (Z1 (ZgZ (hr.hd (by decide))) ZmZ T.b_list ZcT (Za (Zb 2) Ze)) Ze))))))))
theorem C19:Cal P w K mg base "width" 101 2 F_width:=Z2 (N:=["points","ray","given"]) (T.d.at 18 31) T.gl λ_ _ _ _ _ _ _ nd hr θ=>(Zg (Zb1 2 nd (Zdv ["points","ray","given"] ["point","ray"] (dS 31) 1 [1]) (Zaj (Zb 0)) λ_ _ _ _ _=>⟨(Zl 0 (show a9 (["point","ray"]:List Str)by decide +kernel)),(dw ⟨rfl,rfl⟩),(Zh (C4 T) Zbd hr (Za (Zb 0) (Za (Zb 1) Ze)))⟩)
  (Zi (ZC (Z0 (Zu (ZbT (Zx hr (by decide))) ZdL T.b_max Zdq (Za (Zb 2) Ze)) (Zu (Zez (Zx hr (by decide))) Zh1 T.b_min ZhM (Za (Zb 2) Ze))))))
theorem C20:Cal P w K mg base "lessened" 1 3 F_lessened:=Z2 (N:=["wide","many","narrow"]) (T.d.at 19 32) T.gl λ_ _ _ _ _ _ _ nd hr θ=>(Zi (ZC (Zw (Za (Z0 (Zk (Zb 0) Zd) (Zt (Zb 1) (Zk (Zb 2) Zd))) (Za (Z0 (Zk (Zb 0) Zd) (Zt (Zb 1) (Zk (Zb 2) Zd))) Ze)))))
theorem C21:Cal P w K mg base "least_wide" 102 3 F_least_wide:=Z2 (N:=["points","wide","narrow","high","low","middle","here","onward"]) (T.d.at 20 33) T.gl λ_ _ _ _ _ _ _ nd hr θ=>(Zg (Zn 3 nd (ZF (Zab (Zt Zd (Zh (C19 T) θ hr (Za (Zb 0) (Za (Zb 1) Ze)))) (Zh (C19 T) θ hr (Za (Zb 0) (Za (Zb 2) Ze)))) Zd)) (Zg (Zn 4 nd (Z8 (Zb 3))) (Zg (ZcB θ.own (ZE ZbY Zb0 (Zb 4) (Zb 3)) (Zg (Zn 5 nd (Zab (ZF (Zb 4) (Zb 3)) Zd)) (Zg (Zbx 6 7 (Zx hr (by decide)) nd (Za (Zh (C20 T) θ hr (Za (Zb 1) (Za (Zb 5) (Za (Zb 2) Ze)))) (Za (Zh (C20 T) θ hr (Za (Zb 1) (Za (ZF (Zb 5) Zd) (Za (Zb 2) Ze)))) Ze)))
  (Zi (Z9 (ZE Zr9 Zsj (Zh (C19 T) θ hr (Za (Zb 0) (Za (Zb 6) Ze))) (Zh (C19 T) θ hr (Za (Zb 0) (Za (Zb 7) Ze)))) (Zi (Zn 3 nd (Zb 5))) (Zi (Zn 4 nd (ZF (Zb 5) Zd))))))))
  (Zi (ZC (Zh (C20 T) θ hr (Za (Zb 1) (Za (Zb 4) (Za (Zb 2) Ze)))))))))
theorem C22:Cal P w K mg base "two_ways" 103 1 F_two_ways:=Z2 (N:=["points","narrow","wide","sign"]) (T.d.at 21 34) T.gl λ_ _ _ _ _ _ _ nd hr θ=>(Zg (Zdp (Zw (Za (Zw (Za Zd (Za Zd Ze))) (Za (Zw (Za Zd (Za Zd Ze))) Ze))) (Z5 (Zx hr (by decide)) (Zm (Zl 1 nd) (Zm (Zl 2 nd) ZO)) (hlen:=(Zv (Zv (λ_ _ _ h=>ZP h))))))
  (Zg (Z9 (ZE ZbY Zb0 (Zh (C19 T) θ hr (Za (Zb 0) (Za (Zb 2) Ze))) (Zh (C19 T) θ hr (Za (Zb 0) (Za (Zb 1) Ze)))) (Zi (Zbx 1 2 (Zx hr (by decide)) nd (Za (Zb 2) (Za (Zb 1) Ze)))) ZI)
  (Zg (ZcB θ.own (ZE ZcJ ZcO (Zh (C19 T) θ hr (Za (Zb 0) (Za (Zb 1) Ze))) Zd) (Zg (Zn 2 nd (Zh (C21 T) θ hr (Za (Zb 0) (Za (Zb 2) (Za (Zb 1) Ze))))) (Zg (Z9 (ZE ZjM ZjY (Zh (C19 T) θ hr (Za (Zb 0) (Za (Zb 2) Ze))) (Zh (C19 T) θ hr (Za (Zb 0) (Za (Zb 1) Ze)))) (Zi Zpb) ZI) (Zi (Zbx 1 2 (Zx hr (by decide)) nd (Za (Zb 2) (Za (Zb 1) Ze)))))))
  (Zg (Zn 3 nd (Zh (C3 T) θ hr (Za (Zb 1) (Za (Zb 2) Ze)))) (Zi (ZC (Zw (Za (Zb 1) (Za (Zw (Za (Zt (Zb 3) (Zk (Zb 2) Zd)) (Za (Zt (Zb 3) (Zk (Zb 2) Zd)) Ze))) Ze)))))))))
theorem C23:Cal P w K mg base "dots_across" 101 4 F_dots_across:=Z2 (N:=["rays","height","ways","given","narrow","wide","low","high","ray","own","across","reach"]) (T.d.at 22 35) T.gl λ_ _ _ _ _ _ _ nd hr θ=>(Zg (Zdp (Zb 2) (Z5 (Zx hr (by decide)) (Zm (Zl 4 nd) (Zm (Zl 5 nd) ZO)) (hlen:=(Zv (Zv (λ_ _ _ h=>ZP h))))))
  (Zg (Zie Zcf (Zl 6 nd) (Zl 7 nd)) (Zg (Zfb θ.own (Zf6 (hr.hd (by decide)) T.b_zip (Za (Zb 0) (Za (Zb 1) Ze))) (Z5 (Zx hr (by decide)) (Zm (Zl 8 nd) (Zm (Zl 9 nd) ZO)) (hlen:=(Zv (Zv (λ_ _ _ h=>ZP h))))) (Zg (Zn 10 nd (Zt (Zh (C3 T) θ hr (Za (Zb 4) (Za (Zb 8) Ze))) (Zk (Zb 9) Zd)))
  (Zg (Zn 11 nd (ZF (Zk (Zb 9) Zd) (Zt (Zt (Zh (C3 T) θ hr (Za (Zb 8) (Za (Zb 5) Ze))) (Zb 3)) (Zk (Zb 9) Zd)))) (Zg (Z9 (ZfR (ZcN (ZE ZcJ ZcO (Zb 10) Zd) (ZbD (ZfR (Zep (ZE ZfV Zj0 (Zb 6) Zcf) (ZcM (ZE ZcJ ZcO (Z8 (Zab (Zb 11) (Zb 10))) (Zb 6)))))))) (Zi (Zn 6 nd (Z8 (Zab (Zb 11) (Zb 10))))) ZI) (Zi (Z9 (ZfR (ZcN (ZE ZbY Zb0 (Zb 10) Zd) (ZbD (ZfR (Zep (ZE ZfV Zj0 (Zb 7) Zcf) (ZcM (ZE ZbY Zb0 (Zab (Zb 11) (Z8 (Zb 10))) (Zb 7)))))))) (Zi (Zn 7 nd (Zab (Zb 11) (Z8 (Zb 10))))) ZI))))))
  (Zi (ZC (Zat (Zdv ["rays","height","ways","given","narrow","wide","low","high","ray","own","across","reach"] ["other","given","narrow","wide"] (dS 35) 1 [3,4,5]) (ZhU T.b_range (Za (Zb 6) (Za (ZF (Zb 7) Zd) Ze))) λ_ _ _ _ _=>⟨(Zl 0 (show a9 (["other","given","narrow","wide"]:List Str)by decide +kernel)),(dw ⟨rfl,rfl⟩),(Zw (Za (Z0 (Zt (Zb 1) (Zk (Zb 3) Zd)) (Zt (Zb 0) (Zk (Zb 2) Zd))) (Za (Z0 (Zt (Zb 0) (Zk (Zb 2) Zd)) (Zt (Zb 1) (Zk (Zb 3) Zd))) Ze)))⟩))))))
theorem C24:Cal P w K mg base "dots" 111 2 F_dots:=Zlt (N:=["rays","height","points","bottom","wholes","ways","given","found","row"]) (T.d.at 23 36) T.lb_dots T.gl λ_ _ _ _ _ _ _ hc nd hr θ=>(Zg (Zn 2 nd (Zh (C18 T) θ hr (Za (Zb 0) (Za (Zb 1) Ze)))) (Zg (Zn 3 nd (Zh (C12 T) θ hr (Za (Zf9 (Zdv ["rays","height","points","bottom","wholes","ways","given","found","row"] ["point","part"] (dS 36) 2 []) (Zaj (Zb 2)) λ_ _ _ _ _=>⟨(Zl 0 (show a9 (["point","part"]:List Str)by decide +kernel)),(dw ⟨rfl,rfl⟩),(Zaj (Zb 0)),(Zl 1 (show a9 (["point","part"]:List Str)by decide +kernel)),(dw ⟨rfl,rfl⟩),(Zb 1)⟩) Ze)))
  (Zg (Zb1 4 nd (Zdv ["rays","height","points","bottom","wholes","ways","given","found","row"] ["x","y","bottom"] (dS 36) 2 [3]) (Zaj (Zb 2)) λ_ _ _ _ _=>⟨(Z5 (Zx hr (by decide)) (Zm (Zl 0 (show a9 (["x","y","bottom"]:List Str)by decide +kernel)) (Zm (Zl 1 (show a9 (["x","y","bottom"]:List Str)by decide +kernel)) ZO)) (hlen:=(Zv (Zv (λ_ _ _ h=>ZP h))))),(dw ⟨rfl,rfl⟩),(Zw (Za (Zh (C13 T) Zbd hr (Za (Zb 0) (Za (Zb 2) Ze))) (Za (Zh (C13 T) Zbd hr (Za (Zb 1) (Za (Zb 2) Ze))) Ze)))⟩)
  (Zg (Z9 (ZE (Zba hr.units) ZcP (Zb 4) (ZN Ze)) (Zi (ZC (ZN Ze))) ZI) (Zg (Zn 5 nd (Zh (C22 T) θ hr (Za (Zb 4) Ze))) (Zg (Zb1 6 nd (Zdv ["rays","height","points","bottom","wholes","ways","given","found","row"] ["point","ways"] (dS 36) 1 [5]) (Zaj (Zb 4)) λ_ _ _ _ _=>⟨(Zl 0 (show a9 (["point","ways"]:List Str)by decide +kernel)),(dw ⟨rfl,rfl⟩),(Zh (C4 T) Zbd hr (Za (Zb 0) (Za (Zk (Zb 1) Zd) Ze)))⟩)
  (Zg (Zn 7 nd (ZN Ze)) (Zg (ZdJ θ.own T.b_range (Za (Z8 (Zab (Z8 (Zu (Zez (Zx hr (by decide))) Zh1 T.b_min ZhM (Za (Zb 6) Ze))) (Zb 3))) (Za (ZF (Zab (Zu (ZbT (Zx hr (by decide))) ZdL T.b_max Zdq (Za (Zb 6) Ze)) (Zb 3)) Zd) Ze)) (Zl 8 nd) (Zi (Zbb (Zkc PySem.F.slot_list_extend PySem.F.type_list_extend Zhq Zpn (Zb 7) (Za (Zh (C23 T) θ hr (Za (Zb 0) (Za (Zb 1) (Za (Zb 5) (Za (Zb 8) Ze))))) Ze)))))
  (Zi (ZC (Zgf (k:=107) (Zgh T.lm_m) hc (hr.mono (by decide)) (Zux (x:="dot") ["rays","height","points","bottom","wholes","ways","given","found","row"] ["dot"] (dS 36) []) T.b_sorted (Za (Zb 7) Ze) (λ_ _ _ _ _ hr=>(Zw (Za (Zk (Zb 0) Zd) (Za (Zk (Zb 0) Zd) Ze)))))))))))))))
theorem C25:Cal P w K mg base "ask_place" 101 2 F_ask_place:=Z2 (N:=["rays","at"]) (T.d.at 24 38) T.gl λ_ _ _ _ _ _ _ nd hr θ=>(Zi (Z9 (ZfR (Zep (ZE ZbY Zb0 (Zb 1) Zd) (ZcM (ZE ZjM ZjY (Zb 1) (Zu Zz Zam T.b_len PySem.boot_len (Za (Zb 0) Ze)))))) (Zi (ZbR θ T.ex_NoPlace T.gl (hr.hd (by decide)) (Za (ZmS (ZaJ Zcg (ZaJ (Zkj (Z0 (Zu Zz Zam T.b_len PySem.boot_len (Za (Zb 0) Ze)) Zd)) Zh6))) Ze))) ZI))
theorem C26:Cal P w K mg base "put_in" 103 2 F_put_in:=Z2 (N:=["rays","at","ray","behind"]) (T.d.at 25 39) T.gl λ_ _ _ _ _ _ _ nd hr θ=>(Zg (Zbb (Zh (C7 T) θ hr (Za (Zb 0) Ze))) (Zg (Zbb (Zh (C25 T) θ hr (Za (Zb 0) (Za (Zb 1) Ze)))) (Zg (Zbx 2 3 (Zx hr (by decide)) nd (Za (Zk (Zb 0) (Zb 1)) (Za (Zh (C5 T) θ hr (Za (Zb 0) (Za (Zb 1) Ze))) Ze)))
  (Zi (ZC (ZF (ZF (ZgS (Zb 0) ZgQ (ZgR (ZF (Zb 1) Zd))) (ZN (Za (Zw (Za (ZF (Zk (Zb 2) Zd) (Zk (Zb 3) Zd)) (Za (ZF (Zk (Zb 2) Zd) (Zk (Zb 3) Zd)) Ze))) Ze))) (ZgS (Zb 0) (ZgR (ZF (Zb 1) Zd)) ZgQ)))))))
theorem C27:Cal P w K mg base "_law_purse" 1 2 F_law_purse:=Z2 (N:=["_law_script","_law_k","_law_cell","_law_large"]) (T.d.at 26 41) T.gl λ_ _ _ _ _ _ _ nd hr θ=>(Zg (Zn 2 nd Zd) (Zg (Z9 (ZE ZbY Zb0 (Zb 1) (Zu Zz Zam T.b_len PySem.boot_len (Za (Zb 0) Ze))) (Zi (Zn 2 nd (Zk (Zb 0) (Zb 1)))) ZI) (Zg (Zn 3 nd (Za9 (Zb 2) (Zt (ZhA Zd Zd) (ZhA Zd Zd)))) (Zi (ZC (ZN (Za (Zt (Zb 3) (Z1 Zah Zci T.b_int ZbO (Za (Za7 ZjM ZjY (Zb 3) (ZhA Zd Zd)) Ze))) (Za (ZF (ZF (Za9 (Zb 2) Zd) (Zt Zd (Zb 1))) Zd) Ze))))))))
theorem C28:Cal P w K mg base "_law_take" 1 2 F_law_take:=Z2 (N:=["_law_purse_here","_law_many","_law_digit"]) (T.d.at 27 42) T.gl λ_ _ _ _ _ _ _ nd hr θ=>(Zg (Z9 (ZE ZcJ ZcO (Zk (Zb 0) Zd) Zd) (Zg (Zn 2 nd (Za9 (Zk (Zb 0) Zd) (Zb 1))) (Zg (Zlb (Zb 0) Zd (Zab (Zk (Zb 0) Zd) (Zb 1))) (Zi (ZC (Zb 2))))) ZI) (Zg (Zlb (Zb 0) Zd (Za9 (ZF (Zt (Zk (Zb 0) Zd) Zd) Zd) Zd)) (Zi (ZC (Za9 (Zab (Za9 (Zt (Zk (Zb 0) Zd) Zd) Zd) Zd) (Zb 1))))))
theorem C29:Cal P w K mg base "_law_short_put" 1 2 F_law_short_put:=Z2 (N:=["_law_rays","_law_at","_law_after"]) (T.d.at 28 43) T.gl λ_ _ _ _ _ _ _ nd hr θ=>(Zg (Zn 2 nd (Zk (Zb 0) (Za9 (ZF (Zb 1) Zd) (Zu Zz Zam T.b_len PySem.boot_len (Za (Zb 0) Ze))))) (Zi (ZC (ZF (ZF (ZgS (Zb 0) ZgQ (ZgR (ZF (Zb 1) Zd))) (ZN (Za (Zw (Za (ZF (Zk (Zk (Zb 0) (Zb 1)) Zd) (Zk (Zb 2) Zd)) (Za (ZF (Zk (Zk (Zb 0) (Zb 1)) Zd) (Zk (Zb 2) Zd)) Ze))) Ze))) (ZgS (Zb 0) (ZgR (ZF (Zb 1) Zd)) ZgQ)))))
theorem C30:Cal P w K mg base "_law_base" 101 2 F_law_base:=Z2 (N:=["_law_purse_here","_law_most","_law_lean","_law_rays","_law_many","_law_turn","_law_longer"]) (T.d.at 29 44) T.gl λ_ _ _ _ _ _ _ nd hr θ=>(Zg (Zn 2 nd (Zh (C28 T) θ hr (Za (Zb 0) (Za Zd Ze)))) (Zg (Zn 3 nd (Zk (ZN (Za (ZN (Za (Zw (Za Zd (Za Zd Ze))) (Za (Zw (Za Zd (Za Zd Ze))) (Za (Zw (Za (Z8 Zd) (Za (Z8 Zd) Ze))) Ze)))) (Za (ZN (Za (Zw (Za Zd (Za Zd Ze))) (Za (Zw (Za Zd (Za Zd Ze))) (Za (Zw (Za (Z8 Zd) (Za (Z0 (Zb 2) Zd) Ze))) (Za (Zw (Za Zd (Za (Z8 Zd) Ze))) Ze))))) Ze))) (Z1 Zah Zci T.b_int ZbO (Za (Za7 ZcJ ZcO (Zb 2) Zd) Ze)))) (Zg (Zn 4 nd (Zk (ZN (Za (ZF Zd (Zh (C28 T) θ hr (Za (Zb 0) (Za (Z0 (Zb 1) Zd) Ze)))) (Za (Zb 1) Ze))) (Z1 Zah Zci T.b_int ZbO (Za (Za7 (Zba hr.units) ZcP (Zh (C28 T) θ hr (Za (Zb 0) (Za Zd Ze))) Zd) Ze)))) (Zg (ZaS θ.own T.b_range (Za (Zt Zd (Zb 1)) Ze) (Zl 5 nd) (Zg (Zn 6 nd (Zh (C29 T) θ hr (Za (Zb 3) (Za (Zh (C28 T) θ hr (Za (Zb 0) (Za (Zu Zz Zam T.b_len PySem.boot_len (Za (Zb 3) Ze)) Ze))) Ze)))) (Zi (Z9 (ZfR (ZcN (ZE ZbY Zb0 (Zu Zz Zam T.b_len PySem.boot_len (Za (Zb 3) Ze)) (Zb 4)) (ZbD (ZE ZbY Zb0 (Zu (ZbT (Zx hr (by decide))) ZdL T.b_max Zdq (Za (Zat (Zdv (n:=0) ["_law_purse_here","_law_most","_law_lean","_law_rays","_law_many","_law_turn","_law_longer"] ["_law_x","_law_y"] (dS 44) 2 []) (Zaj (Zb 6)) λ_ _ _ _ _=>⟨(Z5 (Zx hr (by decide)) (Zm (Zl 0 (show a9 (["_law_x","_law_y"]:List Str)by decide +kernel)) (Zm (Zl 1 (show a9 (["_law_x","_law_y"]:List Str)by decide +kernel)) ZO)) (hlen:=(Zv (Zv (λ_ _ _ h=>ZP h))))),(dw ⟨rfl,rfl⟩),(Zu (Zef (Zx hr (by decide))) Zk8 T.b_max Zdq (Za (Zu ZaR ZcQ T.b_abs ZcS (Za (Zb 0) Ze)) (Za (Zu ZaR ZcQ T.b_abs ZcS (Za (Zb 1) Ze)) Ze)))⟩) Ze)) Zd)))) (Zi (Zn 3 nd (Zb 6))) ZI))))
  (Zi (ZC (Zb 3)))))))
theorem C31:Cal P w K mg base "_law_table" 101 1 F_law_table:=Z2 (N:=["_law_purse_here","_law_table_here","_law_turn","_law_many"]) (T.d.at 30 45) T.gl λ_ _ _ _ _ _ _ nd hr θ=>(Zg (Zn 1 nd (ZN (Za Zd (Za Zd (Za Zd (Za Zd Ze)))))) (Zg (ZaS θ.own T.b_range (Za (Zh (C28 T) θ hr (Za (Zb 0) (Za Zd Ze))) Ze) (Zl 2 nd) (Zg (Zn 3 nd (Zk (ZN (Za (Z0 (Zh (C28 T) θ hr (Za (Zb 0) (Za Zd Ze))) Zd) (Za (Z0 (Zh (C28 T) θ hr (Za (Zb 0) (Za Zd Ze))) Zd) Ze))) (Z1 Zah Zci T.b_int ZbO (Za (Za7 (Zba hr.units) ZcP (Zh (C28 T) θ hr (Za (Zb 0) (Za Zd Ze))) Zd) Ze)))) (Zi (Z9 (ZE (Zba hr.units) ZcP (Zh (C28 T) θ hr (Za (Zb 0) (Za Zd Ze))) Zd) (Zi (Zn 1 nd (ZN (Za (ZF (Zk (Zb 1) Zd) (Zt (Zb 3) (Zk (Zb 1) Zd))) (Za (ZF (Zk (Zb 1) Zd) (Zt (Zb 3) (Zk (Zb 1) Zd))) (Za (Zk (Zb 1) Zd) (Za (Zk (Zb 1) Zd) Ze))))))) (Zi (Zn 1 nd (ZN (Za (Zk (Zb 1) Zd) (Za (Zk (Zb 1) Zd) (Za (ZF (Zk (Zb 1) Zd) (Zt (Zb 3) (Zk (Zb 1) Zd))) (Za (ZF (Zk (Zb 1) Zd) (Zt (Zb 3) (Zk (Zb 1) Zd))) Ze))))))))))) (Zg (Z9 (ZE (Zba hr.units) ZcP (Zh (C28 T) θ hr (Za (Zb 0) (Za Zd Ze))) Zd) (Zi (Zn 1 nd (ZN (Za (Zk (Zb 1) Zd) (Za (Zk (Zb 1) Zd) (Za (Zk (Zb 1) Zd) (Za (Zk (Zb 1) Zd) Ze))))))) ZI) (Zg (Z9 (ZE ZcJ ZcO (Zu (ZbT (Zx hr (by decide))) ZdL T.b_max Zdq (Za (Zat (Zdv (n:=0) ["_law_purse_here","_law_table_here","_law_turn","_law_many"] ["_law_number"] (dS 45) 1 []) (Zaj (Zb 1)) λ_ _ _ _ _=>⟨(Zl 0 (show a9 (["_law_number"]:List Str)by decide +kernel)),(dw ⟨rfl,rfl⟩),(Zu ZaR ZcQ T.b_abs ZcS (Za (Zb 0) Ze))⟩) Ze)) Zd) (Zi (ZC (ZN (Za Zd (Za Zd (Za Zd (Za Zd Ze))))))) ZI)
  (Zi (ZC (Zb 1)))))))
theorem C32:Cal P w K mg base "_law_spun" 101 4 F_law_spun:=Z2 (N:=["_law_table_here","_law_rays","_law_some","_law_at","_law_pairs"]) (T.d.at 31 46) T.gl λ_ _ _ _ _ _ _ nd hr θ=>(Zg (Zb1 4 nd (Zdv ["_law_table_here","_law_rays","_law_some","_law_at","_law_pairs"] ["_law_x","_law_y","_law_one","_law_table_here"] (dS 46) 3 [0]) (Zf6 (hr.hd (by decide)) T.b_zip (Za (Zb 1) (Za (Zb 2) Ze))) λ_ _ _ _ _=>⟨(Z5 (Zx hr (by decide)) (Zm (Z5 (Zx hr (by decide)) (Zm (Zl 0 (show a9 (["_law_x","_law_y","_law_one","_law_table_here"]:List Str)by decide +kernel)) (Zm (Zl 1 (show a9 (["_law_x","_law_y","_law_one","_law_table_here"]:List Str)by decide +kernel)) ZO)) (hlen:=(Zv (Zv (λ_ _ _ h=>ZP h))))) (Zm (Zl 2 (show a9 (["_law_x","_law_y","_law_one","_law_table_here"]:List Str)by decide +kernel)) ZO)) (hlen:=(Zv (Zv (λ_ _ _ h=>ZP h))))),(dw ⟨rfl,rfl⟩),(Zw (Za (Zw (Za (ZF (Zt (Zk (Zb 3) Zd) (Zb 0)) (Zt (Zk (Zb 3) Zd) (Zb 1))) (Za (ZF (Zt (Zk (Zb 3) Zd) (Zb 0)) (Zt (Zk (Zb 3) Zd) (Zb 1))) Ze))) (Za (Zb 2) Ze)))⟩)
  (Zg (Z9 (ZE ZbY Zb0 (Z0 (Zt (Zk (Zb 0) Zd) (Zk (Zb 0) Zd)) (Zt (Zk (Zb 0) Zd) (Zk (Zb 0) Zd))) Zd) (Zi (Zn 4 nd (Zso (hr.hd (by decide)) T.b_list T.b_reversed (Za (Zb 4) Ze)))) ZI)
  (Zg (Zn 4 nd (ZF (ZgS (Zb 4) (ZgR (Zb 3)) ZgQ) (ZgS (Zb 4) ZgQ (ZgR (Zb 3))))) (Zi (ZC (Zw (Za (Zat (Zdv ["_law_table_here","_law_rays","_law_some","_law_at","_law_pairs"] ["_law_ray","_law_one"] (dS 46) 2 []) (Zaj (Zb 4)) λ_ _ _ _ _=>⟨(Z5 (Zx hr (by decide)) (Zm (Zl 0 (show a9 (["_law_ray","_law_one"]:List Str)by decide +kernel)) (Zm (Zl 1 (show a9 (["_law_ray","_law_one"]:List Str)by decide +kernel)) ZO)) (hlen:=(Zv (Zv (λ_ _ _ h=>ZP h))))),(dw ⟨rfl,rfl⟩),(Zb 0)⟩) (Za (Zat (Zdv ["_law_table_here","_law_rays","_law_some","_law_at","_law_pairs"] ["_law_ray","_law_one"] (dS 46) 2 []) (Zaj (Zb 4)) λ_ _ _ _ _=>⟨(Z5 (Zx hr (by decide)) (Zm (Zl 0 (show a9 (["_law_ray","_law_one"]:List Str)by decide +kernel)) (Zm (Zl 1 (show a9 (["_law_ray","_law_one"]:List Str)by decide +kernel)) ZO)) (hlen:=(Zv (Zv (λ_ _ _ h=>ZP h))))),(dw ⟨rfl,rfl⟩),(Zb 1)⟩) Ze))))))))
theorem C33:Cal P w K mg base "_law_met" 1 2 F_law_met:=Z2 (N:=["_law_table_here","_law_dot","_law_sign"]) (T.d.at 32 47) T.gl λ_ _ _ _ _ _ _ nd hr θ=>(Zg (Zn 2 nd (Z0 (Zt (Zk (Zb 0) Zd) (Zk (Zb 0) Zd)) (Zt (Zk (Zb 0) Zd) (Zk (Zb 0) Zd)))) (Zi (ZC (Zw (Za (Zt (Zb 2) (Z0 (Zt (Zk (Zb 0) Zd) (Zk (Zb 1) Zd)) (Zt (Zk (Zb 0) Zd) (Zk (Zb 1) Zd)))) (Za (Zt (Zb 2) (Z0 (Zt (Zk (Zb 0) Zd) (Zk (Zb 1) Zd)) (Zt (Zk (Zb 0) Zd) (Zk (Zb 1) Zd)))) Ze))))))
theorem C34:Cal P w K mg base "_law_ratio" 101 2 F_law_ratio:=Z2 (N:=["_law_top","_law_bottom","_law_one","_law_other"]) (T.d.at 33 48) T.gl λ_ _ _ _ _ _ _ nd hr θ=>(Zg (Zbx 2 3 (Zx hr (by decide)) nd (Za (Zu ZaR ZcQ T.b_abs ZcS (Za (Zb 0) Ze)) (Za (Zb 1) Ze)))
  (Zg (ZcB θ.own (ZE ZcJ ZcO (Zb 3) Zd) (Zi (Zbx 2 3 (Zx hr (by decide)) nd (Za (Zb 3) (Za (Za9 (Zb 2) (Zb 3)) Ze)))))
  (Zi (ZC (Zw (Za (Zab (Zb 0) (Zb 2)) (Za (Zab (Zb 1) (Zb 2)) Ze)))))))
theorem C35:Cal P w K mg base "_law_heights" 102 2 F_law_heights:=Z2 (N:=["_law_purse_here","_law_many","_law_most","_law_parts","_law_found","_law_turn","_law_own"]) (T.d.at 34 49) T.gl λ_ _ _ _ _ _ _ nd hr θ=>(Zg (Zn 2 nd (Zk (ZN (Za Zd (Za Zd Ze))) (Z1 Zah Zci T.b_int ZbO (Za (Za7 (Zba hr.units) ZcP (Zh (C28 T) θ hr (Za (Zb 0) (Za Zd Ze))) Zd) Ze)))) (Zg (Zn 3 nd (Zk (ZN (Za Zd (Za Zd (Za Zd (Za Zd (Za Zd (Za Zd (Za (ZF Zd (Zh (C28 T) θ hr (Za (Zb 0) (Za Zd Ze)))) Ze)))))))) (Zh (C28 T) θ hr (Za (Zb 0) (Za Zd Ze))))) (Zg (Zn 4 nd (ZN Ze)) (Zg (ZaS θ.own T.b_range (Za (Zb 1) Ze) (Zl 5 nd) (Zg (Zn 6 nd (ZF (Zt (Zb 3) (Z0 (Zh (C28 T) θ hr (Za (Zb 0) (Za (Zb 2) Ze))) Zd)) (Zh (C28 T) θ hr (Za (Zb 0) (Za (Zb 3) Ze))))) (Zi (Zbb (ZcV (Zb 4) (Zh (C34 T) θ hr (Za (Zk (ZN (Za (Zb 6) (Za (Za9 (Zb 6) (Zb 3)) Ze))) (Z1 Zah Zci T.b_int ZbO (Za (Za7 ZcJ ZcO (Zu ZaR ZcQ T.b_abs ZcS (Za (Zb 6) Ze)) Zd) Ze))) (Za (Zb 3) Ze)))))))) (Zi (ZC (Zb 4)))))))
theorem C36:Cal P w K mg base "_law_tried" 101 2 F_law_tried:=Z2 (N:=["_law_rays","_law_heights_here","_law_left","_law_low","_law_limits","_law_found","_law_y","_law_x"]) (T.d.at 35 50) T.gl λ_ _ _ _ _ _ _ nd hr θ=>(Zg (Zbx 2 3 (Zx hr (by decide)) nd (Za (Zk (Zb 1) (Zkc PySem.F.slot_list_index PySem.F.type_list_index (Zlk hr.units) Zll (Zb 0) (Za (Zw (Za Zd (Za Zd Ze))) Ze))) (Za (Zk (Zb 1) (Zkc PySem.F.slot_list_index PySem.F.type_list_index (Zlk hr.units) Zll (Zb 0) (Za (Zw (Za Zd (Za Zd Ze))) Ze))) Ze)))
  (Zg (Zn 4 nd (ZN (Za (Z0 Zd (Zab (Zk (Zb 2) Zd) (Zk (Zb 2) Zd))) (Za (Z0 Zd (Zab (Zk (Zb 3) Zd) (Zk (Zb 3) Zd))) (Za Zd Ze))))) (Zg (Zn 5 nd (ZN Ze)) (Zg (ZdJ θ.own T.b_range (Za (Zk (Zb 4) Zd) (Za Zd Ze)) (Zl 6 nd) (Zi (ZdJ θ.own T.b_range (Za (Zk (Zb 4) Zd) (Za (Zk (Zb 4) Zd) Ze)) (Zl 7 nd) (Zi (Z9 (Zch (Zu (Zka (Zx hr (by decide))) Zpj T.b_all Zpe (Za (Zat (Zdv ["_law_rays","_law_heights_here","_law_left","_law_low","_law_limits","_law_found","_law_y","_law_x"] ["_law_ray","_law_own","_law_y","_law_x"] (dS 50) 2 [6,7]) (Zf6 (hr.hd (by decide)) T.b_zip (Za (Zb 0) (Za (Zb 1) Ze))) λ_ _ _ _ _=>⟨(Z5 (Zx hr (by decide)) (Zm (Zl 0 (show a9 (["_law_ray","_law_own","_law_y","_law_x"]:List Str)by decide +kernel)) (Zm (Zl 1 (show a9 (["_law_ray","_law_own","_law_y","_law_x"]:List Str)by decide +kernel)) ZO)) (hlen:=(Zv (Zv (λ_ _ _ h=>ZP h))))),(dw ⟨rfl,rfl⟩),(Za7 ZjM ZjY (Zt (ZF (Zt (Zb 3) (Zk (Zb 0) Zd)) (Zt (Zb 2) (Zk (Zb 0) Zd))) (Zk (Zb 1) Zd)) (Z0 Zd (Zk (Zb 1) Zd)))⟩) Ze))) (Zi (Zbb (ZcV (Zb 5) (Zw (Za (Zb 7) (Za (Zb 6) Ze)))))) ZI)))))
  (Zi (ZC (Zb 5)))))))
theorem C37:Cal P w K mg base "_law_wide_good" 112 1 F_law_wide_good:=Z2 (N:=["_law_purse_here","_law_rays","_law_wide","_law_left","_law_high","_law_heights_here","_law_table_here","_law_led","_law_owns","_law_met_here","_law_second"]) (T.d.at 36 51) T.gl λ_ _ _ _ _ _ _ nd hr θ=>(Zg (Zn 1 nd (ZN (Za (Zw (Za Zd (Za Zd Ze))) (Za (Zw (Za Zd (Za Zd Ze))) (Za (Zw (Za (Z8 Zd) (Za Zd Ze))) (Za (Zw (Za Zd (Za (Z8 Zd) Ze))) Ze)))))) (Zg (Zn 2 nd (Zh (C28 T) θ hr (Za (Zb 0) (Za Zd Ze)))) (Zg (Zn 3 nd (Zh (C28 T) θ hr (Za (Zb 0) (Za (ZF (Zb 2) Zd) Ze)))) (Zg (Zn 4 nd (Zt (Zh (C28 T) θ hr (Za (Zb 0) (Za Zd Ze))) (Z1 Zah Zci T.b_int ZbO (Za (Za7 ZbY Zb0 (Zb 2) Zd) Ze)))) (Zg (Zn 5 nd (ZN (Za (Zw (Za (Zb 3) (Za Zd Ze))) (Za (Zw (Za Zd (Za Zd Ze))) (Za (Zw (Za (Z0 (Zb 2) (Zb 3)) (Za Zd Ze))) (Za (Zw (Za (Zb 4) (Za Zd Ze))) Ze)))))) (Zg (Zn 6 nd (Zh (C31 T) θ hr (Za (Zb 0) Ze))) (Zg (Zdp (Zh (C32 T) θ hr (Za (Zb 6) (Za (Zb 1) (Za (Zb 5) (Za (Zh (C28 T) θ hr (Za (Zb 0) (Za Zd Ze))) Ze))))) (Z5 (Zx hr (by decide)) (Zm (Zl 7 nd) (Zm (Zl 8 nd) ZO)) (hlen:=(Zv (Zv (λ_ _ _ h=>ZP h))))))
  (Zg (Zn 9 nd (ZN Ze)) (Zg (ZaS θ.own T.b_range (Za (ZF (Zb 4) Zd) Ze) (Zl 10 nd) (Zi (Zn 9 nd (ZF (Zb 9) (Zat (Zdv ["_law_purse_here","_law_rays","_law_wide","_law_left","_law_high","_law_heights_here","_law_table_here","_law_led","_law_owns","_law_met_here","_law_second"] ["_law_first","_law_left","_law_table_here","_law_second"] (dS 51) 1 [3,6,10]) (ZhO T.b_range (Za (ZF (Zb 2) Zd) Ze)) λ_ _ _ _ _=>⟨(Zl 0 (show a9 (["_law_first","_law_left","_law_table_here","_law_second"]:List Str)by decide +kernel)),(dw ⟨rfl,rfl⟩),(Zh (C33 T) Zbd hr (Za (Zb 2) (Za (Zw (Za (Z0 (Zb 0) (Zb 1)) (Za (Zb 3) Ze))) Ze)))⟩)))))
  (Zi (ZC (Za7 (Zba hr.units) ZcP (Zh (C24 T) θ hr (Za (Zb 7) (Za (Zb 8) Ze))) (Zat (Zdv ["_law_purse_here","_law_rays","_law_wide","_law_left","_law_high","_law_heights_here","_law_table_here","_law_led","_law_owns","_law_met_here","_law_second"] ["_law_y","_law_x"] (dS 51) 2 []) (Zaj (Zu ZcZ ZeG T.b_sorted Zc0 (Za (Zat (Zdv ["_law_purse_here","_law_rays","_law_wide","_law_left","_law_high","_law_heights_here","_law_table_here","_law_led","_law_owns","_law_met_here","_law_second"] ["_law_x","_law_y"] (dS 51) 2 []) (Zaj (Zb 9)) λ_ _ _ _ _=>⟨(Z5 (Zx hr (by decide)) (Zm (Zl 0 (show a9 (["_law_x","_law_y"]:List Str)by decide +kernel)) (Zm (Zl 1 (show a9 (["_law_x","_law_y"]:List Str)by decide +kernel)) ZO)) (hlen:=(Zv (Zv (λ_ _ _ h=>ZP h))))),(dw ⟨rfl,rfl⟩),(Zw (Za (Zb 1) (Za (Zb 0) Ze)))⟩) Ze))) λ_ _ _ _ _=>⟨(Z5 (Zx hr (by decide)) (Zm (Zl 0 (show a9 (["_law_y","_law_x"]:List Str)by decide +kernel)) (Zm (Zl 1 (show a9 (["_law_y","_law_x"]:List Str)by decide +kernel)) ZO)) (hlen:=(Zv (Zv (λ_ _ _ h=>ZP h))))),(dw ⟨rfl,rfl⟩),(Zw (Za (Zb 1) (Za (Zb 0) Ze)))⟩)))))))))))))
theorem Zrw{f:Addr}{fd:iS}(F:Fun K "law" "law" (top 52) f fd):FnOk P w K mg base (CXE P w) 113 f fd ["_law_script"] (spD K ZfC):=
 have nd:a9 (["_law_script","_law_k","_law_purse_here","_law_rays","_law_more","_law_turn","_law_heights_here","_law_table_here","_law_led","_law_owns","_law_met_here","_law_due","_law_handed","_law_found"]:List Str):=by decide +kernel
 Zpd (N:=["_law_script","_law_k","_law_purse_here","_law_rays","_law_more","_law_turn","_law_heights_here","_law_table_here","_law_led","_law_owns","_law_met_here","_law_due","_law_handed","_law_found"]) F ⟨rfl,rfl,rfl,nd,rfl,by decide +kernel,by decide +kernel⟩ rfl rfl λ_ _ _ _ _ _ hr θ=>(Zg (ZaS θ.own T.b_range (Za (Zu (Zef (Zx hr (by decide))) Zk8 T.b_max Zdq (Za Zd (Za (Zu (Zhi (Zx hr (by decide))) Zo9 T.b_min ZhM (Za Zd (Za (Zu Zz Zam T.b_len PySem.boot_len (Za (Zb 0) Ze)) Ze))) Ze))) Ze) (Zl 1 nd) (Zg (Zn 2 nd (Zh (C27 T) θ hr (Za (Zb 0) (Za (Zb 1) Ze))))
  (Zg (Zn 3 nd (Zh (C30 T) θ hr (Za (Zb 2) (Za Zd Ze)))) (Zg (Zn 4 nd (Zt (Zh (C28 T) θ hr (Za (Zb 2) (Za Zd Ze))) (Z1 Zah Zci T.b_int ZbO (Za (Za7 (Zba hr.units) ZcP (Zh (C28 T) θ hr (Za (Zb 2) (Za Zd Ze))) Zd) Ze)))) (Zg (ZaS θ.own T.b_range (Za (Zb 4) Ze) (Zl 5 nd) (Zi (Zn 3 nd (Zh (C26 T) θ hr (Za (Zb 3) (Za (Zh (C28 T) θ hr (Za (Zb 2) (Za (Zu Zz Zam T.b_len PySem.boot_len (Za (Zb 3) Ze)) Ze))) Ze)))))) (Zg (Zn 6 nd (Zh (C35 T) θ hr (Za (Zb 2) (Za (Zu Zz Zam T.b_len PySem.boot_len (Za (Zb 3) Ze)) Ze)))) (Zg (Zn 7 nd (Zh (C31 T) θ hr (Za (Zb 2) Ze))) (Zg (Z9 (ZE ZcJ ZcO (Zb 4) Zd) (Zi (Zn 7 nd (ZN (Za Zd (Za Zd (Za Zd (Za Zd Ze))))))) ZI) (Zg (Zdp (Zh (C32 T) θ hr (Za (Zb 7) (Za (Zb 3) (Za (Zb 6) (Za (Zh (C28 T) θ hr (Za (Zb 2) (Za (Zu Zz Zam T.b_len PySem.boot_len (Za (Zb 3) Ze)) Ze))) Ze))))) (Z5 (Zx hr (by decide)) (Zm (Zl 8 nd) (Zm (Zl 9 nd) ZO)) (hlen:=(Zv (Zv (λ_ _ _ h=>ZP h))))))
  (Zg (Zb1 10 nd (Zdv ["_law_script","_law_k","_law_purse_here","_law_rays","_law_more","_law_turn","_law_heights_here","_law_table_here","_law_led","_law_owns","_law_met_here","_law_due","_law_handed","_law_found"] ["_law_dot","_law_table_here"] (dS 52) 1 [7]) (Zaj (Zh (C36 T) θ hr (Za (Zb 3) (Za (Zb 6) Ze)))) λ_ _ _ _ _=>⟨(Zl 0 (show a9 (["_law_dot","_law_table_here"]:List Str)by decide +kernel)),(dw ⟨rfl,rfl⟩),(Zh (C33 T) Zbd hr (Za (Zb 1) (Za (Zb 0) Ze)))⟩)
  (Zg (Zb1 11 nd (Zdv ["_law_script","_law_k","_law_purse_here","_law_rays","_law_more","_law_turn","_law_heights_here","_law_table_here","_law_led","_law_owns","_law_met_here","_law_due","_law_handed","_law_found"] ["_law_y","_law_x"] (dS 52) 2 []) (Zaj (Zu ZcZ ZeG T.b_sorted Zc0 (Za (Zat (Zdv ["_law_script","_law_k","_law_purse_here","_law_rays","_law_more","_law_turn","_law_heights_here","_law_table_here","_law_led","_law_owns","_law_met_here","_law_due","_law_handed","_law_found"] ["_law_x","_law_y"] (dS 52) 2 []) (Zaj (Zb 10)) λ_ _ _ _ _=>⟨(Z5 (Zx hr (by decide)) (Zm (Zl 0 (show a9 (["_law_x","_law_y"]:List Str)by decide +kernel)) (Zm (Zl 1 (show a9 (["_law_x","_law_y"]:List Str)by decide +kernel)) ZO)) (hlen:=(Zv (Zv (λ_ _ _ h=>ZP h))))),(dw ⟨rfl,rfl⟩),(Zw (Za (Zb 1) (Za (Zb 0) Ze)))⟩) Ze))) λ_ _ _ _ _=>⟨(Z5 (Zx hr (by decide)) (Zm (Zl 0 (show a9 (["_law_y","_law_x"]:List Str)by decide +kernel)) (Zm (Zl 1 (show a9 (["_law_y","_law_x"]:List Str)by decide +kernel)) ZO)) (hlen:=(Zv (Zv (λ_ _ _ h=>ZP h))))),(dw ⟨rfl,rfl⟩),(Zw (Za (Zb 1) (Za (Zb 0) Ze)))⟩)
  (Zg (Zn 12 nd (Zw (Za (Z1 Zcd ZhG T.b_list ZcT (Za (Zb 8) Ze)) (Za (Z1 Zcd ZhG T.b_list ZcT (Za (Zb 9) Ze)) Ze)))) (Zg (Zn 13 nd (Zh (C24 T) θ hr (Za (Zk (Zb 12) Zd) (Za (Zk (Zb 12) Zd) Ze)))) (Zg (Z9 (ZfR (Zep (ZfS (Zch (ZhH Zj3 T.b_isinstance T.b_list ZcT (Zb 13)))) (Zep (ZE (Zdo hr.units) ZgM (Zb 13) (Zb 11)) (ZcM (ZE (Zdo hr.units) ZgM (Zb 12) (Zw (Za (Zb 8) (Za (Zb 9) Ze)))))))) (Zi (ZC Zhx)) ZI) (Zg (Zbb (ZcV (Zb 13) (Zw (Za Zd (Za Zd Ze))))) (Zg (Z9 (ZE (Zdo hr.units) ZgM (Zh (C24 T) θ hr (Za (Zk (Zb 12) Zd) (Za (Zk (Zb 12) Zd) Ze))) (Zb 11)) (Zi (ZC Zhx)) ZI) (Zi (Z9 (ZfR (ZcN (ZE (Zba hr.units) ZcP (Zh (C28 T) θ hr (Za (Zb 2) (Za Zd Ze))) Zd) (ZbD (ZfS (Zch (Zh (C37 T) θ hr (Za (Zb 2) Ze))))))) (Zi (ZC Zhx)) ZI))))))))))))))))))
  (Zi (ZC Zhx)))
end
theorem fin{l:PySem.W.OpenLaw}(X:K.In h)(G:h.Ns aR mg)(hfa:mg "law"=some (.ref fa))(T:Txt K mg):∃fd:iS,(∀(s:aC)(v:ae),my s fd ⟨[v],[]⟩ [("_law_script",v)])/\∀base:Heap,K.In base->base.Ns aR mg->FnOk l.prog w K mg base (CXE l.prog w) 113 fa fd ["_law_script"] (spD K ZfC):=
 Zpf (l:=l) (w:=w) X G hfa (T.d.at 37 52) (λ_ _ _ _ _ _ _=>rfl) λbase fd F=>Zrw (base:=base) T F
end K46
namespace K46
open L2 DL
open CV CN CU CS CD
open CA (Tn)
open CR (rt Sz)
open CH (rts ZH ZM)
open Rb BD Ri DT
theorem Zug:F_law_ratio=CR.F_law_low:=rfl
section
variable {M:Sto}{m:Nat}{rs F:List Pt}{hs:List Rat}{a b:Int}{u:Pt}
theorem Zrx{M:Sto}(g:Gr n M M')(hj:M.length<=j)(hn:j≠n):Gr n M (M'.set j o):=by
 obtain⟨l,⟨x,y,z,hx⟩,kp⟩:=g;exact⟨by rw[eJ];exact l,⟨x,y,z,by rw[aS hn];exact hx⟩,λk hk hkl=>by rw[aS ⋯];exact kp k hk hkl⟩
def Hg(hs:List Rat):Prop:=∃Bt:Nat,(0<Bt/\Bt<2^14)/\∀x∈hs,x.den ∣ Bt/\Sz 14 x/\x<=21
theorem Zry{t:Int}{B:Nat}(b0:B≠0)(b1:B<10000)(t1:t.natAbs<=9999)(t2:t<=21*B):(bM t B b0).den ∣ B/\Sz 14 (bM t B b0)/\bM t B b0<=21:=by
 have hd:(bM t B b0).den ∣ B:=by
  rw[jK];exact Nat.div_dvd_of_dvd (jO _ _)
 have hn:(bM t B b0).num.natAbs<=t.natAbs:=by
  rw[jJ];exact bZ _ _
 refine⟨hd,⟨by show _<16384;lia,by have:=j4 ⋯ hd;show _<16384;lia⟩,?_⟩
 have e:bM t B b0=(t:Rat)/(B:Rat):=by rw[Rat.normalize_eq_mkRat,Rat.mkRat_eq_div]
 have bp:(0:Rat)<(B:Rat):=hG.mpr ⋯
 have h2:=cL.mpr t2;rw[aN,aY]at h2;have h3:bM t B b0*(B:Rat)=(t:Rat):=by rw[e];exact Rat.div_mul_cancel (by grind)
 rw[<-h3]at h2;exact eB h2 bp
theorem Zju{many:Nat}(hm:many<=1000)(hb:Bag n M)(q:∀hs o M',hs.length=many->Hg hs->M.length<=o->M'[o]?=some (.lst (rts hs))->Gr n M M'->Q (.ref o) M'):wO (F_law_heights [.ref n,.int many] M) Q E:=by
 have hn:=hb.lt;simp![F_law_heights,ZbX];have G0:Gr n M (M++[SO.lst [D.int 9,D.int 23]]):=Gr.app hb _;refine CB.ZY G0.bag (by decide) λt1 M1 t10 t11 g1=>?_
 have k1:M1[M.length]?=some (.lst [D.int 9,D.int 23]):=CA.Gr.up (by simp) g1 ⋯
 obtain⟨most,hmost,m0⟩:∃most:Int,atI [D.int 9,D.int 23] (if decide (t1=5)=true then 1 else 0)=some (.int most)/\(most=9\/most=23):=by
  by_cases z:t1=5
  .exact⟨23,by rw[if_pos (decide_eq_true z)];rfl,.inr rfl⟩
  .exact⟨9,by rw[if_neg (by simpa using z)];rfl,.inl rfl⟩
 simp![k1,hmost];refine CB.ZY g1.bag (by decide) λs M2 s0 s1 g2=>?_
 simp![Zq];refine CB.ZY (g2.bag.app _) (by decide) λt M3 t0 t1' g3=>?_
 have k3:=Gr.new g2.bag g3;have G3:Gr n M M3:=((G0.trans g1).trans g2).trans ((Gr.app g2.bag _).trans g3);obtain⟨B,hB,B0,B1⟩:∃B:Nat,atI [D.int 1,D.int 1,D.int 1,D.int 1,D.int 2,D.int 3,D.int (4+s)] t=some (.int (B:Int))/\B≠0/\B<10000:=by
  have:t=0\/t=1\/t=2\/t=3\/t=4\/t=5\/t=6:=⋯
  rcases this with rfl|rfl|rfl|rfl|rfl|rfl|rfl
  .exact⟨1,rfl,by decide,by decide⟩
  .exact⟨1,rfl,by decide,by decide⟩
  .exact⟨1,rfl,by decide,by decide⟩
  .exact⟨1,rfl,by decide,by decide⟩
  .exact⟨2,rfl,by decide,by decide⟩
  .exact⟨3,rfl,by decide,by decide⟩
  .exact⟨(4+s).toNat,by rw[mM ⋯];rfl,⋯,⋯⟩
 simp! -implicitDefEqProofs [k3,hB];clear k3 hB k1 hmost;have l3:=G3.len;have r4:(M3++[SO.lst []])[M3.length]?=some (.lst (rts [])):=by simp[rts]
 have G4:=G3.app2 [SO.lst []];generalize M3++[SO.lst []]=M4 at *;generalize hmf:M3.length=mf at *;have mne:mf≠n:=⋯
 clear hmf G3 g3 g2 g1 G0;rw[show((many:Int)).toNat=many by lia]
 refine Zby (λi ρ M'=>∃hs x5 x6,ρ=[some (.ref n),some (.int many),some (.int most),some (.int (B:Int)),some (.ref mf),x5,x6]/\hs.length=i/\(∀x∈hs,x.den ∣ B/\Sz 14 x/\x<=21)/\M'[mf]?=some (.lst (rts hs))/\Gr n M M') ⟨[],_,_,rfl,rfl,λx hx=>(by cases hx),r4,G4⟩ ?_ ?_
 .rintro i ρ M5 hi ⟨hs,x5,x6,rfl,hl,hz,r5,G5⟩;simp! -implicitDefEqProofs [Za4];refine CB.ZY G5.bag ⋯ λt1 M6 u0 u1 g6=>?_
  have r6:=CA.Gr.up r5 g6 mne;have f1:Zp (B:Int) (t1-2):=Zau ⋯ ⋯
  simp! -implicitDefEqProofs [ZA f1];refine CB.ZY g6.bag ⋯ λt2 M7 w0 w1 g7=>?_
  have r7:=CA.Gr.up r6 g7 mne;have G7:=(G5.trans g6).trans g7;have l7:=Zy r7;have ow:((B:Int)*(t1-2)+t2).natAbs<=10000000/\(B:Int)*(t1-2)+t2<=21*B:=by
   have m1:=dH (show t1-2<=20 by lia) (show 0<=(B:Int)by lia)
   have m2:=dH (show -2<=t1-2 by lia) (show 0<=(B:Int)by lia)
   lia
  have ht:∀own:Int,own<=21*B->∃top:Int,atI [D.int own,D.int (own%(B:Int))] (if decide (9999<(own.natAbs:Int))=true then 1 else 0)=some (.int top)/\top.natAbs<=9999/\top<=21*B:=by
   intro own ho;have e1:=dL own (show(B:Int)≠0 by lia)
   have e2:=cW own (show(0:Int)<B by lia)
   by_cases z:9999<(own.natAbs:Int)
   .exact⟨own%B,by rw[if_pos (decide_eq_true z)];rfl,⋯,⋯⟩
   .exact⟨own,by rw[if_neg (by simpa using z)];rfl,⋯,⋯⟩
  obtain⟨top,htop,hb1,hb2⟩:=ht _ ow.2;obtain⟨nd,ns,nm⟩:=Zry B0 B1 hb1 hb2;simp! -implicitDefEqProofs [r7,htop,Zug];refine CR.ZtU (k:=14) B0 ⋯ (by decide) ?_
  have r8:=(Kp.app (L:=[SO.lst [D.int ((B:Int)*(t1-2)+t2),D.int (((B:Int)*(t1-2)+t2)%(B:Int))]])).get r7;have G8:=G7.app2 [SO.lst [D.int ((B:Int)*(t1-2)+t2),D.int (((B:Int)*(t1-2)+t2)%(B:Int))]];generalize M7++[SO.lst [D.int ((B:Int)*(t1-2)+t2),D.int (((B:Int)*(t1-2)+t2)%(B:Int))]]=M8 at *;have l8:=Zy r8;simp! -implicitDefEqProofs [r8];refine⟨by rw[ZH];lia,hs++[bM top B B0],_,_,rfl,by simp[hl],λx hx=>?_,by rw[ZM],Zrx G8 ⋯ mne⟩
  rcases be.mp hx with h|h
  .exact hz x h
  .rw[bU.mp h];exact⟨nd,ns,nm⟩
 .rintro ρ M5 ⟨hs,x5,x6,rfl,hl,hz,r5,G5⟩;simp![Zq];exact q hs mf M5 hl ⟨B,⋯,hz⟩ ⋯ r5 G5
noncomputable def gm(a b c d:Int)(m:Pt):Pt:=((a*d-b*c)*(d*m.1-c*m.2),(a*d-b*c)*(a*m.2-b*m.1))
theorem Zrz(h:a*d-b*c=1\/a*d-b*c= -1)(m r:Pt):pd (gm a b c d m) (gg a b c d r)=pd m r:=by
 have e:pd (gm a b c d m) (gg a b c d r)=(a*d-b*c)*(a*d-b*c)*pd m r:=by unfold pd gm gg;grind
 rw[e];rcases h with h|h<;>rw[h]<;>lia
theorem ZrA(h:a*d-b*c=1\/a*d-b*c= -1)(m:Pt):gm a b c d (a*m.1+c*m.2,b*m.1+d*m.2)=m:=by
 have e1:(gm a b c d (a*m.1+c*m.2,b*m.1+d*m.2)).1=(a*d-b*c)*(a*d-b*c)*m.1:=by unfold gm;grind
 have e2:(gm a b c d (a*m.1+c*m.2,b*m.1+d*m.2)).2=(a*d-b*c)*(a*d-b*c)*m.2:=by unfold gm;grind
 refine db ?_ ?_
 .rw[e1];rcases h with h|h<;>rw[h]<;>lia
 .rw[e2];rcases h with h|h<;>rw[h]<;>lia
theorem ZrB(h:a*d-b*c=1\/a*d-b*c= -1)(m:Pt):(a*(gm a b c d m).1+c*(gm a b c d m).2,b*(gm a b c d m).1+d*(gm a b c d m).2)=m:=by
 have e1:a*(gm a b c d m).1+c*(gm a b c d m).2=(a*d-b*c)*(a*d-b*c)*m.1:=by unfold gm;grind
 have e2:b*(gm a b c d m).1+d*(gm a b c d m).2=(a*d-b*c)*(a*d-b*c)*m.2:=by unfold gm;grind
 refine db ?_ ?_
 .show a*(gm a b c d m).1+c*(gm a b c d m).2=m.1;rw[e1];rcases h with h|h<;>rw[h]<;>lia
 .show b*(gm a b c d m).1+d*(gm a b c d m).2=m.2;rw[e2];rcases h with h|h<;>rw[h]<;>lia
theorem Zgz(h:a*d-b*c=1\/a*d-b*c= -1){m:Pt}(e:gm a b c d m=gm a b c d m'):m=m':=by rw[<-ZrB h m,e,ZrB h m']
theorem ZrC{m:Pt}(ht:M[p]?=some (tb a b c d))(t:Tn 14 a b c d)(hm:m.1.natAbs<=1000000/\m.2.natAbs<=1000000):wO (F_law_met [.ref p,pr m.1 m.2] M) Q E=Q (pr (gm a b c d m).1 (gm a b c d m).2) M:=by
 obtain⟨ta,tb',tc,td,te⟩:=t;have w:∀{i j:Int},i.natAbs<=14->Zp i j:=λh=>Zau ⋯ ⋯
 have d1:Zp (a*d-b*c) (d*m.1-c*m.2):=by rcases te with z|z<;>rw[z]<;>exact Zau (by decide) (by decide)
 have d2:Zp (a*d-b*c) (a*m.2-b*m.1):=by rcases te with z|z<;>rw[z]<;>exact Zau (by decide) (by decide)
 simp![F_law_met,ZeY,ht,ZA (w (i:=a) (j:=d) ⋯),ZA (w (i:=b) (j:=c) ⋯),ZA (w (i:=d) (j:=m.1) ⋯),ZA (w (i:=c) (j:=m.2) ⋯),ZA (w (i:=a) (j:=m.2) ⋯),ZA (w (i:=b) (j:=m.1) ⋯),ZA d1,ZA d2]
 rfl
theorem ZfD{m:Pt}(e:hs.length=rs.length):Win rs hs (ip m)↔∀x∈rs.zip hs,-x.2<=((pd m x.1:Int):Rat):=by
 unfold Win;constructor
 .intro w x hx;obtain⟨i,hi,rfl⟩:=bF hx;have hi':i<rs.length:=by rw[lA]at hi;lia
  have:=w i hi'
  rw[Zbj,ZeU ⋯,ZaP hi']at this
  simpa using this
 .intro w i hi
  have:=w (rs[i],hs[i]) (by rw[List.mem_iff_getElem];exact⟨i,by rw[lA];lia,by simp⟩)
  rw[Zbj,ZeU ⋯,ZaP hi]
  exact this
theorem ZrD{us:List Pt}(e:hs.length=us.length):(sg neg k us).zip (sg neg k hs)=sg neg k (us.zip hs):=by
 have rot:∀{u:List Pt}{h:List Rat},h.length=u.length->(u.drop k++u.take k).zip (h.drop k++h.take k)=(u.zip h).drop k++(u.zip h).take k:=λ{u h} z=>by
  rw[List.zip_append (by simp[z]),List.zip,List.drop_zipWith,List.take_zipWith]
 unfold sg;cases neg
 .exact rot e
 .show(us.reverse.drop k++us.reverse.take k).zip (hs.reverse.drop k++hs.reverse.take k)=_;rw[rot (by simp[e]),if_pos rfl]
  have:us.reverse.zip hs.reverse=(us.zip hs).reverse:=(mq (by simp[e])).symm
  rw[this]
theorem ZdE{L:List α}{x:α}:x∈sg neg k L↔x∈L:=by
 unfold sg;rw[be]
 have:∀l:List α,(x∈l.drop k\/x∈l.take k)↔x∈l:=λl=>by
  rw[<-be,<-(eE (l₁:=l.take k)).mem_iff,cC]
 rw[this];cases neg<;>simp
theorem Zjv{m:Pt}(h:a*d-b*c=1\/a*d-b*c= -1)(e:hs.length=rs.length):Win (sg neg k (rs.map (gg a b c d))) (sg neg k hs) (ip (gm a b c d m))↔Win rs hs (ip m):=by
 have e':hs.length=(rs.map (gg a b c d)).length:=by rw[af,e]
 rw[ZfD (by rw[Zcn,Zcn,e']),ZrD e',ZfD e]
 simp only[ZdE];rw[List.zip_map_left];constructor
 .intro w x hx
  have:=w (gg a b c d x.1,x.2) (aV.mpr ⟨x,hx,rfl⟩)
  rw[Zrz h]at this;exact this
 .intro w x hx;obtain⟨y,hy,rfl⟩:=aV.mp hx;show -y.2<=((pd (gm a b c d m) (gg a b c d y.1):Int):Rat);rw[Zrz h];exact w y hy
theorem ZkX:Zan ((aI N).map λi=>D.bl (f i))=some ((aI N).map f):=by
 have:∀L:List Nat,Zan (L.map λi=>D.bl (f i))=some (L.map f):=by
  intro L
  induction L with
  |nil=>rfl
  |cons x r ih=>rw[aK,Zan,ih];rfl
 exact this _
theorem ZfE{r:Pt}:∀rs:List Pt,eqs M (pr r.1 r.2) (prs rs)=some (rs.map λx=>decide (x=r))
 |[]=>rfl
 |x::xs=>by
  have e:eqF 12 M (pr x.1 x.2) (pr r.1 r.2)=some (decide (x=r)):=Zs7;show(match eqF 12 M (pr x.1 x.2) (pr r.1 r.2)with|some b=>(match eqs M (pr r.1 r.2) (prs xs)with|some bs=>some (b::bs)|none=>none)|none=>none)=_
  rw[e,ZfE xs];rfl
theorem Zjw(h:r∈rs):∃i:Nat,i<rs.length/\(rs.map λx=>decide (x=r)).findIdx? id=some i/\cy rs i=r:=by
 cases e:(rs.map λx=>decide (x=r)).findIdx? id with
 |none=>
  rw[List.findIdx?_eq_none_iff]at e
  have:=e true (aV.mpr ⟨r,h,by simp⟩)
  cases this
 |some i=>
  obtain⟨hi,z,_⟩:=il.mp e;rw[af]at hi;refine⟨i,hi,rfl,?_⟩;rw[fE]at z;rw[ZaP hi];exact of_decide_eq_true z
theorem ZlY{g:Int}: -x<=(g:Rat)↔0-x.num/(x.den:Int)<=g:=by
 have d0:(0:Int)<x.den:=hU.mpr (b8 x.den_nz);rw[Ri.Zgu];have h:=kX (a:= -g) (b:=x.num) d0;rw[mo]at h;constructor
 .intro z
  have:=h.mpr ⋯
  lia
 .intro z
  have:=h.mp ⋯
  lia
theorem ZrE:∀{a b:List Pt},a.Nodup->(∀m∈a,m∈b)->a.length<=b.length:=by
 intro a
 induction a with
 |nil=>intro b _ _;simp
 |cons x a ih=>
  intro b nd h;rw[eI]at nd;have hx:=h x (by simp)
  have:=ih (b:=b.erase x) nd.2 λm hm=>(List.mem_erase_of_ne (λ(z:m=x)=>nd.1 (by rw[<-z];exact hm))).mpr (h m (aF _ hm))
  rw[List.length_erase_of_mem hx]at this
  have:=List.length_pos_of_mem hx
  simp only[bv];lia
theorem ZlZ(A B:Nat)(nd:F.Nodup)(h:∀m∈F,(u.1<=m.1/\m.1<u.1+A)/\u.2<=m.2/\m.2<u.2+B):F.length<=A*B:=by
 have le:=ZrE (b:=(aI A).flatMap λ(x:Nat)=>(aI B).map λ(y:Nat)=>(u.1+(x:Int),u.2+(y:Int))) nd λm hm=>by
  have:=h m hm
  rw[kz];exact⟨(m.1-u.1).toNat,bH.mpr ⋯,aV.mpr ⟨(m.2-u.2).toNat,bH.mpr ⋯,db (by show u.1+((m.1-u.1).toNat:Int)=m.1;lia) (by show u.2+((m.2-u.2).toNat:Int)=m.2;lia)⟩⟩
 have sm:∀L:List Nat,(L.map λ_=>B).sum=L.length*B:=λL=>by
  induction L with
  |nil=>simp
  |cons x r ih=>simp only[aK,List.sum_cons,ih,bv,nD];lia
 simpa [List.length_flatMap,sm]using le
theorem Zn3(h:M[n]?=some (.lst (prs rs)))(hb:Nr 1000000 rs)(hl:rs.length<=31)(h':M[m]?=some (.lst (rts hs)))(e:hs.length=rs.length)(hz:∀x∈hs,Sz 14 x)(x1:(1,0)∈rs)(y1:(0,1)∈rs)(bx:∀m,Win rs hs (ip m)->(-22<=m.1/\m.1<130)/\ -22<=m.2/\m.2<50)(q:∀F o M',F.Nodup->(∀m,m∈F↔Win rs hs (ip m))->Kp M M'->M.length<=o->M'[o]?=some (.lst (prs F))->Q (.ref o) M'):wO (F_law_tried [.ref n,.ref m] M) Q E:=by
 have hn:=Zy h;have hm:=Zy h';obtain⟨i1,l1,f1,c1⟩:=Zjw x1;obtain⟨i2,l2,f2,c2⟩:=Zjw y1;have z1:=Zcx (i:=(i1:Int)) hz ⋯
 have z2:=Zcx (i:=(i2:Int)) hz ⋯
 have q1:eqs M (D.tup [D.int 1,D.int 0]) (prs rs)=some (rs.map λx=>decide (x=(1,0))):=ZfE (r:=(1,0)) rs;have q2:eqs M (D.tup [D.int 0,D.int 1]) (prs rs)=some (rs.map λx=>decide (x=(0,1))):=ZfE (r:=(0,1)) rs;have a1:atI (rts hs) (i1:Int)=some (rt (cq hs i1)):=Zgn ⋯
 have a2:atI (rts hs) (i2:Int)=some (rt (cq hs i2)):=Zgn ⋯
 have p1:(0:Int)<(cq hs i1).den:=hU.mpr (b8 (cq hs i1).den_nz);have p2:(0:Int)<(cq hs i2).den:=hU.mpr (b8 (cq hs i2).den_nz);simp! -implicitDefEqProofs [F_law_tried,Zdg,h,q1,q2,f1,f2,h',a1,a2,CR.Za2 (k:=14) p1 (by simpa using z1.2) (by decide),CR.Za2 (k:=14) p2 (by simpa using z2.2) (by decide)]
 have lx:∀{m:Pt},Win rs hs (ip m)->0-(cq hs i1).num/((cq hs i1).den:Int)<=m.1:=λ{m} w=>by
  have:=w i1 l1
  rw[Zbj,c1,show pd m (1,0)=m.1 by unfold pd;lia]at this
  exact ZlY.mp this
 have ly:∀{m:Pt},Win rs hs (ip m)->0-(cq hs i2).num/((cq hs i2).den:Int)<=m.2:=λ{m} w=>by
  have:=w i2 l2
  rw[Zbj,c2,show pd m (0,1)=m.2 by unfold pd;lia]at this
  exact ZlY.mp this
 have b1:=bZ (cq hs i1).num ((cq hs i1).den:Int);have b2:=bZ (cq hs i2).num ((cq hs i2).den:Int);have b3:(cq hs i1).num.natAbs<16384:=z1.1;have b4:(cq hs i2).num.natAbs<16384:=z2.1;have ra:∀{F:List Pt},F.Nodup->(∀m∈F,Win rs hs (ip m))->F.length<1000000:=λ{F} nd z=>by
  have:=ZlZ (u:=(-22,-22)) 152 72 nd λm hm=>by
   have:=bx m (z m hm)
   show(-22<=m.1/\m.1 < -22+152)/\ -22<=m.2/\m.2 < -22+72;lia
  lia
 have gb:(0-(cq hs i1).num/((cq hs i1).den:Int)).natAbs<=16384/\(0-(cq hs i2).num/((cq hs i2).den:Int)).natAbs<=16384:=⋯
 generalize (0-(cq hs i1).num/((cq hs i1).den:Int))=gx at *;generalize (0-(cq hs i2).num/((cq hs i2).den:Int))=gy at *;generalize rt (cq hs i1)=d1 at *;generalize rt (cq hs i2)=d2 at *;have K1:Kp M (M++[SO.lst [D.int gx,D.int gy,D.int 130],SO.lst []]):=Kp.app;have r1:(M++[SO.lst [D.int gx,D.int gy,D.int 130],SO.lst []])[M.length]?=some (.lst [D.int gx,D.int gy,D.int 130]):=by simp
 have f1:(M++[SO.lst [D.int gx,D.int gy,D.int 130],SO.lst []])[M.length+1]?=some (.lst (prs [])):=by simp[prs]
 generalize M++[SO.lst [D.int gx,D.int gy,D.int 130],SO.lst []]=M1 at *;have k1:=K1.1;obtain⟨o,ho⟩:∃o,o=M.length+1:=⟨_,rfl⟩;have lo:=Zy f1;rw[<-ho]at f1 lo ⊢;clear b1 b2 b3 b4 z1 z2 q1 q2 a1 a2 p1 p2;refine Zby (λi ρ M'=>Kp M M'/\M'[M.length]?=some (.lst [D.int gx,D.int gy,D.int 130])/\∃F x7 x8,ρ=[some (.ref n),some (.ref m),some d1,some d2,some (.ref M.length),some (.ref o),x7,x8]/\M'[o]?=some (.lst (prs F))/\F.Nodup/\∀m,m∈F↔Win rs hs (ip m)/\m.2<gy+(i:Int)) ⟨K1,r1,[],_,_,rfl,f1,.nil,λm=>⟨λz=>(by cases z),λz=>by have:=ly z.1;have:=z.2;lia⟩⟩ ?_ ?_
 .rintro i ρ M2 hi ⟨K2,r2,F,x7,x8,rfl,f2,nd,mem⟩;simp![ZbC,r2];have mem':∀m,m∈F↔Win rs hs (ip m)/\m.2<gy+(i:Int):=mem;have yb:(gy+(i:Int)).natAbs<=16384:=⋯
  have nx:gy+((i+1:Nat):Int)=gy+(i:Int)+1:=⋯
  simp only[nx];generalize gy+(i:Int)=y at *;refine Zby (λj ρ M'=>Kp M M'/\M'[M.length]?=some (.lst [D.int gx,D.int gy,D.int 130])/\∃F x8,ρ=[some (.ref n),some (.ref m),some d1,some d2,some (.ref M.length),some (.ref o),some (.int y),x8]/\M'[o]?=some (.lst (prs F))/\F.Nodup/\∀m,m∈F↔Win rs hs (ip m)/\(m.2<y\/m.2=y/\m.1<gx+(j:Int))) ⟨K2,r2,F,_,rfl,f2,nd,λm=>(mem' m).trans ⟨λz=>⟨z.1,.inl z.2⟩,λz=>⟨z.1,by rcases z.2 with w|w;exact w;have:=lx z.1;lia⟩⟩⟩ ?_ ?_
  .clear mem mem' nd f2 F;rintro j ρ M3 hj ⟨K3,r3,F,x8,rfl,f3,nd,mem⟩;have mem':∀m,m∈F↔Win rs hs (ip m)/\(m.2<y\/m.2=y/\m.1<gx+(j:Int)):=mem;have xb:(gx+(j:Int)).natAbs<=16384:=⋯
   have nx:gx+((j+1:Nat):Int)=gx+(j:Int)+1:=⋯
   simp only[nx];generalize gx+(j:Int)=x at *;have h3:=K3.get h;have h3':=K3.get h';have hn3:=Zy h3;have hm3:=Zy h3';have zl:(cf (λa b=>D.tup [a,b]) (prs rs) (rts hs)).length=rs.length:=by simp[ZL,ZH,e]
   simp![ZbB];refine ZqW (xs:=cf (λa b=>D.tup [a,b]) (prs rs) (rts hs)) (λρ=>∃u v,ρ=[u,v,some (.int y),some (.int x)]) (λ(i:Nat)=>D.bl (decide (0-(cq hs i).num<=pd (x,y) (cy rs i)*((cq hs i).den:Int)))) ⋯ (by rw[Zfn h3,zl,ZL];lia) ⟨_,_,rfl⟩ (λL i hi=>?_) ?_ ?_
   .rw[ZiP (by rw[Zc3 hn3];exact h3) (by rw[Zc3 hm3];exact h3')]
   .rintro i hi ρ L ⟨u,v,rfl⟩;rw[zl]at hi;rw[gA,CC.ZbI,Zd4];have br:=hb _ (Zav (i:=(i:Int)) (λz=>by rw[z]at hi;cases hi))
    have zz:=(Zcx (i:=(i:Int)) hz ⋯).2
    generalize cy rs (i:Int)=r at *;have g1:Zp x r.1:=Zau ⋯ ⋯
    have g2:Zp y r.2:=Zau ⋯ ⋯
    have g3:Zp (x*r.1+y*r.2) ((cq hs i).den:Int):=ZeL ⋯ (by have:(cq hs i).den<16384:=zz;lia)
    simp![ZA g1,ZA g2,ZA g3];exact⟨⟨_,_,rfl⟩,rfl⟩
   rw[zl];have ea:((aI rs.length).map λ(i:Nat)=>decide (0-(cq hs i).num<=pd (x,y) (cy rs i)*((cq hs i).den:Int))).all id=true↔Win rs hs (ip (x,y)):=by
    rw[nj,c9];unfold Win;constructor
    .intro z i hi
     have:=z i (bH.mpr hi)
     rw[Zbj,Ri.Zgu]
     have:=of_decide_eq_true this
     lia
    .intro z i hi
     have:=z i (bH.mp hi)
     rw[Zbj,Ri.Zgu]at this;exact decide_eq_true ⋯
   have f4:=(Kp.app (L:=[SO.lst ((aI rs.length).map λ(i:Nat)=>D.bl (decide (0-(cq hs i).num<=pd (x,y) (cy rs i)*((cq hs i).den:Int))))])).get f3;have r4:=(Kp.app (L:=[SO.lst ((aI rs.length).map λ(i:Nat)=>D.bl (decide (0-(cq hs i).num<=pd (x,y) (cy rs i)*((cq hs i).den:Int))))])).get r3;have K4:=K3.trans (Kp.app (L:=[SO.lst ((aI rs.length).map λ(i:Nat)=>D.bl (decide (0-(cq hs i).num<=pd (x,y) (cy rs i)*((cq hs i).den:Int))))]));simp![ZkX];generalize M3++[SO.lst ((aI rs.length).map λ(i:Nat)=>D.bl (decide (0-(cq hs i).num<=pd (x,y) (cy rs i)*((cq hs i).den:Int))))]=M4 at *;refine ZuC (λz=>?_) (λz=>?_)
   .have w:=ea.mp z;have nd2:(F++[(x,y)]).Nodup:=fV.mpr ⟨nd,by simp,λa ha b hb z=>by
     rw[bU.mp hb]at z;subst z
     have:=((mem' _).mp ha).2
     simp only at this
     lia⟩
    have ln:=ra nd2 λm hm=>by
     rcases be.mp hm with z|z
     .exact((mem' m).mp z).1
     .rw[bU.mp z];exact w
    rw[aT]at ln;have l4:=Zy f4;simp![f4];refine⟨⋯,K4.set ⋯,r4,F++[(x,y)],_,rfl,by simp[prs],nd2,λm=>?_⟩
    rw[be,mem',bU];constructor
    .rintro(⟨w,z⟩|rfl)
     .exact⟨w,⋯⟩
     .exact⟨w,.inr ⟨rfl,by show x<x+1;lia⟩⟩
    .rintro⟨w,z⟩;by_cases c:m=(x,y)
     .exact .inr c
     .refine .inl ⟨w,?_⟩
      have:¬(m.1=x/\m.2=y):=λ⟨a,b⟩=>c (db a b)
      lia
   .simp![Zq];refine⟨K4,r4,F,_,rfl,f4,nd,λm=>(mem' m).trans ⟨λ⟨w,z⟩=>⟨w,⋯⟩,λ⟨w,z'⟩=>⟨w,?_⟩⟩⟩
    have:¬(m.1=x/\m.2=y):=λ⟨a,b⟩=>by
     have:m=(x,y):=db a b
     rw[this]at w;rw[ea.mpr w]at z;cases z
    lia
  .rintro ρ M3 ⟨K3,r3,F,x8,rfl,f3,nd,mem⟩;refine⟨K3,r3,F,_,_,rfl,f3,nd,λm=>(mem m).trans ⟨λ⟨w,z⟩=>⟨w,⋯⟩,λ⟨w,z⟩=>⟨w,?_⟩⟩⟩
   have:=bx m w
   lia
 .rintro ρ M2 ⟨K2,r2,F,x7,x8,rfl,f2,nd,mem⟩;simp![Zq];exact q F o M2 nd (λm=>(mem m).trans ⟨λz=>z.1,λw=>⟨w,by have:=bx m w;lia⟩⟩) K2 ⋯ f2
end
section
variable {n m:Nat}{W F P:List Pt}
noncomputable def sw(p:Pt):Pt:=(p.2,p.1)
noncomputable def ku(l:List Int):Pt:=(l.getD 1 0,l.getD 0 0)
theorem ZrF(h:W.Pairwise yl):W.Nodup:=h.imp λ{a b} (z:yl a b)=>(λe=>by rw[e]at z;unfold DT.yl at z;lia:a≠b)
theorem Zn4{a:List Pt}(ha:a.Pairwise yl)(hb:b.Pairwise yl)(h:∀m,m∈a↔m∈b):a=b:=
 j3 (λx y _ _ h1 h2=>by unfold DT.yl at h1 h2;lia) ha hb ((List.perm_ext_iff_of_nodup (ZrF ha) (ZrF hb)).mpr h)
theorem Zl0(nd:F.Nodup):∃W:List Pt,ST.srt (F.map DT.kd)=W.map DT.kd/\W.Pairwise yl/\(∀m,m∈W↔m∈F)/\W.length=F.length:=by
 have pm:=ST.Zbq (F.map DT.kd);have e:((ST.srt (F.map DT.kd)).map ku).map DT.kd=ST.srt (F.map DT.kd):=by
  rw[bX]
  conv=>rhs;rw[<-jP (ST.srt (F.map DT.kd))]
  refine fz λl hl=>?_;obtain⟨m,_,rfl⟩:=aV.mp (pm.mem_iff.mp hl);rfl
 have pf:((ST.srt (F.map DT.kd)).map ku).Perm F:=by
  have:=pm.map ku
  rw[bX,show(ku∘DT.kd)=id from rfl,jP]at this;exact this
 refine⟨_,e.symm,?_,λm=>pf.mem_iff,pf.length_eq⟩;have up:=ST.Zgd (F.map DT.kd);rw[<-e]at up;have up:=cT.mp up;have nd':=pf.nodup_iff.mpr nd;exact(nd'.and up).imp λ{x y} z=>Zrr (λh=>z.1 (Zjt h)) z.2
theorem Zjx:∀P:List Pt,ksD (prs (P.map sw))=some (P.map DT.kd)
 |[]=>rfl
 |x::r=>by
  have:=Zjx r
  show ksD (pr x.2 x.1::prs (r.map sw))=_;rw[ksD,this];rfl
theorem ZrG(h:M[n]?=some (.lst (prs (P.map sw))))(hl:P.length<1000000)(e:ST.srt (P.map DT.kd)=W.map DT.kd):wO (bSrt [.ref n] M) Q E=Q (.ref M.length) (M++[.lst (prs (W.map sw))]):=by
 have:bSrt [.ref n] M=.ok (.ref M.length) (M++[.lst (prs (W.map sw))]):=by
  have e2:(W.map DT.kd).map tupD=prs (W.map sw):=by unfold prs;rw[bX,bX];rfl
  simp only[bSrt,h,Ziu,ZL,af,Zjx,if_pos hl,e,e2]
 rw[this];rfl
theorem ZrH(h:M[o]?=some (.lst (prs P)))(hl:P.length<1000000)(hρ:roB k fr ρ=none::R)(hg:∀p∈P,∀L,wO (g (some (pr p.1 p.2)::R) (M++L)) (λy M2=>y=pr (f p).1 (f p).2/\M2=M++L) (λ_ _=>False))(q:Q (.ref M.length) (M++[.lst (prs (P.map f))])):kCo (gNm 0) (λ_ M=>.ok true M) g k fr ρ Q (.sto o) M:=by
 refine ZkM (xs:=prs P) (λρ=>∃x,ρ=x::R) (λ(i:Nat)=>pr (f (cy P i)).1 (f (cy P i)).2) h (by rw[ZL];lia) ⟨_,hρ⟩ ?_ ?_
 .rintro i hi ρ L ⟨x,rfl⟩;rw[CC.ZbI]
  have:=hg (cy P i) (by rw[ZaP (by rw[ZL]at hi;exact hi)];exact cA _) L
  simp![Zq];exact⟨⟨_,rfl⟩,this⟩
 .have:(aI (prs P).length).map (λ(i:Nat)=>pr (f (cy P i)).1 (f (cy P i)).2)=prs (P.map f):=by
   unfold prs;rw[bX,af];refine d6 (by simp) λi h1 h2=>?_
   simp at h1 h2;simp[ZaP h2]
  rw[this];exact q
theorem ZgA(h:M[o]?=some (.lst (prs P)))(hl:P.length<1000000)(hρ:roB 2 [] ρ=[none,none])(q:Q (.ref M.length) (M++[.lst (prs (P.map sw))])):kCo (gTp (gCs (gNm 0) (gCs (gNm 1) gNl))) (λ_ M=>.ok true M) (ZX (Zc (Zf 1) (Zc (Zf 0) aNil))) 2 [] ρ Q (.sto o) M:=by
 refine ZkM (xs:=prs P) (λρ=>∃x y,ρ=[x,y]) (λ(i:Nat)=>pr (sw (cy P i)).1 (sw (cy P i)).2) h (by rw[ZL];lia) ⟨_,_,hρ⟩ ?_ ?_
 .rintro i hi ρ L ⟨x,y,rfl⟩;rw[CC.ZbI];simp![Zq];exact⟨⟨_,_,rfl⟩,rfl⟩
 .have:(aI (prs P).length).map (λ(i:Nat)=>pr (sw (cy P i)).1 (sw (cy P i)).2)=prs (P.map sw):=by
   unfold prs;rw[bX,af];refine d6 (by simp) λi h1 h2=>?_
   simp at h1 h2;simp[ZaP h2]
  rw[this];exact q
theorem Zuh(hb:Nr 1000000 ls)(hn:ls≠[])(i j:Nat):(X (cy ls i) (cy ls j)).natAbs<=2^41:=dC (ZnP (hb _ (Zav hn)) (hb _ (Zav hn)))
theorem Zjy(h:M[n]?=some (.lst (prs ls)))(hS:Smo ls)(hb:Nr 1000000 ls)(hl:ls.length<=31)(h':M[m]?=some (.lst (rts ms)))(e:ms.length=ls.length)(hg:∃Bt:Nat,(0<Bt/\Bt<2^14)/\∀x∈ms,x.den ∣ Bt/\Sz 14 x)(pw:W.Pairwise yl)(mW:∀m,m∈W↔Win ls ms (ip m))(lW:W.length<1000000)(q:∀o M',Kp M M'->M.length<=o->M'[o]?=some (.lst (prs W))->Q (.ref o) M'):wO (F_dots [.ref n,.ref m] M) Q E:=by
 obtain⟨Bt,⟨b0,b1⟩,hx⟩:=hg;refine Zru (k:=14) (NL:=2557) h hS hb hl h' e (λx hm=>(hx x hm).2) (by decide) (λus hu lu=>Zrq (b:=41) (Zuh hb hS.ne) (by have:=hS.len;lia) (λx hm=>(hx x hm).1) b0 b1 hu ⋯) (by decide) (λds nd hw=>?_) λds o M' pw' mem K lo r=>?_
 .have:=ZrE nd λm hm=>(mW m).mpr (hw m hm)
  lia
 .rw[Zn4 pw' pw λm=>(mem m).trans (mW m).symm]at r;exact q o M' K lo r
theorem Zl1:sg neg k (rts hs)=rts (sg neg k hs):=by
 unfold sg rts;cases neg<;>simp
noncomputable def Zg4(l w i:Nat):List Pt:=(aI (w+1)).map λ(x:Nat)=>((x:Int)-l,(i:Int))
structure Zs(l w i:Nat) (Z:List Pt):Prop where
 nd:Z.Nodup
 mem:∀m,m∈Z↔(-(l:Int)<=m.1/\m.1<=(w:Int)-l)/\0<=m.2/\m.2<i
 len:Z.length=i*(w+1)
theorem Zs.next(z:Zs l w i Z):Zs l w (i+1) (Z++Zg4 l w i):=by
 refine⟨fV.mpr ⟨z.nd,cT.mpr (jQ (λ{a b} ne e=>ne (by have:=congrArg ny e;simp only at this;lia)) List.nodup_range),λa ha b hb e=>?_⟩,λm=>?_,?_⟩
 .subst e;obtain⟨x,_,rfl⟩:=aV.mp hb
  have:=((z.mem _).mp ha).2.2
  simp only at this;lia
 .rw[be,z.mem,Zg4,aV];constructor
  .rintro(h|⟨x,hx,rfl⟩)
   .lia
   .have:=bH.mp hx
    simp only;lia
  .rintro⟨h1,h2⟩;by_cases c:m.2<i
   .exact .inl ⟨h1,h2.1,c⟩
   .exact .inr ⟨(m.1+l).toNat,bH.mpr ⋯,db (by show(((m.1+l).toNat:Nat):Int)-l=m.1;lia) (by show(i:Int)=m.2;lia)⟩
 .rw[aT,z.len,Zg4,af,ix,nD]
noncomputable def wr:List Pt:=[(1,0),(0,1),(-1,0),(0,-1)]
noncomputable def wh(l w g:Nat):List Rat:=[((l:Int):Rat),((0:Int):Rat),(((w:Int)-l:Int):Rat),((g:Int):Rat)]
theorem ZrI(h1:l<=w)(h2:w<=1500)(h3:g<=1)(h:x∈wh l w g):x.den ∣ 1/\Sz 14 x:=by
 have:∃z:Int,x=(z:Rat)/\z.natAbs<=1500:=by
  simp only[wh,ay,bQ,or_false]at h;rcases h with h|h|h|h
  .exact⟨_,h,⋯⟩
  .exact⟨_,h,by decide⟩
  .exact⟨_,h,⋯⟩
  .exact⟨_,h,⋯⟩
 obtain⟨z,rfl,hz⟩:=this;exact⟨Nat.dvd_refl _,by show z.natAbs<2^14;lia,by show 1<2^14;decide⟩
theorem ZkY{m:Pt}:Win wr (wh l w g) (ip m)↔(-(l:Int)<=m.1/\m.1<=(w:Int)-l)/\0<=m.2/\m.2<(g+1:Nat):=by
 rw[ZfD rfl];have e:wr.zip (wh l w g)=[((1,0),((l:Int):Rat)),((0,1),((0:Int):Rat)),((-1,0),(((w:Int)-l:Int):Rat)),((0,-1),((g:Int):Rat))]:=rfl;rw[e];have c:∀(z:Int)(r:Pt),-((z:Int):Rat)<=((pd m r:Int):Rat) ↔ -z<=pd m r:=λz r=>by rw[<-eL];exact cL
 simp only[List.forall_mem_cons,bQ,false_imp_iff,implies_true,and_true,c];unfold pd;lia
theorem ZrJ(hb:Bag n M)(q:∀M',Gr n M M'->Q (.bl true) M'):wO (F_law_wide_good [.ref n] M) Q E:=by
 have hn:=hb.lt;simp![F_law_wide_good,Zbl];have r0:(M++[SO.lst [D.tup [D.int 1,D.int 0],D.tup [D.int 0,D.int 1],D.tup [D.int (-1),D.int 0],D.tup [D.int 0,D.int (-1)]]])[M.length]?=some (.lst (prs wr)):=by simp[prs,wr]
 have G0:=Gr.app hb [SO.lst [D.tup [D.int 1,D.int 0],D.tup [D.int 0,D.int 1],D.tup [D.int (-1),D.int 0],D.tup [D.int 0,D.int (-1)]]];generalize M++[SO.lst [D.tup [D.int 1,D.int 0],D.tup [D.int 0,D.int 1],D.tup [D.int (-1),D.int 0],D.tup [D.int 0,D.int (-1)]]]=M0 at *;have n0:M.length≠n:=⋯
 generalize M.length=o at *;refine CB.ZY G0.bag (by decide) λw M1 w0 w1 g1=>?_
 obtain⟨w,rfl⟩:∃k:Nat,w=k:=⟨w.toNat,⋯⟩
 simp! -implicitDefEqProofs [];refine CB.ZY g1.bag ⋯ λl M2 l0 l1 g2=>?_
 obtain⟨l,rfl⟩:∃k:Nat,l=k:=⟨l.toNat,⋯⟩
 simp! -implicitDefEqProofs [];refine CB.ZY g2.bag (by decide) λt M3 t0 t1 g3=>?_
 simp! -implicitDefEqProofs [];obtain⟨g,hg,hg1,hgw⟩:∃g:Nat,(t*if decide ((w:Int)<900)=true then 1 else 0)=(g:Int)/\g<=1/\(g+1)*(w+1)<10000:=by
  by_cases z:(w:Int)<900
  .refine⟨t.toNat,by rw[if_pos (decide_eq_true z)];lia,⋯,?_⟩
   have:=d9 (show t.toNat+1<=2 by lia) (show w+1<=900 by lia)
   lia
  .refine⟨0,by rw[if_neg (by simpa using z)];lia,⋯,⋯⟩
 simp only[hg];have eh:SO.lst [D.tup [D.int l,D.int 1],D.tup [D.int 0,D.int 1],D.tup [D.int ((w:Int)-l),D.int 1],D.tup [D.int g,D.int 1]]=.lst (rts (wh l w g)):=rfl;rw[eh];have u3:(M3++[SO.lst (rts (wh l w g))])[M3.length]?=some (.lst (rts (wh l w g))):=by simp
 have r3:=(Kp.app (L:=[SO.lst (rts (wh l w g))])).get (CA.Gr.up (CA.Gr.up (CA.Gr.up r0 g1 n0) g2 n0) g3 n0);have G3:=(((G0.trans g1).trans g2).trans g3).app2 [SO.lst (rts (wh l w g))];have n3:M3.length≠n:=by have:=g3.bag.lt;lia
 generalize M3++[SO.lst (rts (wh l w g))]=M4 at *;generalize M3.length=o3 at *;clear eh hg r0 g1 g2 g3 G0;refine CD.Zi3 G3.bag λa b c d p M5 tn pl v5 g5=>?_;have hpn:p≠n:=by have:=G3.bag.lt;lia
 have r5:=CA.Gr.up r3 g5 n0;have u5:=CA.Gr.up u3 g5 n3;simp! -implicitDefEqProofs [];refine CB.ZY g5.bag (by decide) λst M6 st0 st1 g6=>?_
 have r6:=CA.Gr.up r5 g6 n0;have u6:=CA.Gr.up u5 g6 n3;have v6:=CA.Gr.up v5 g6 hpn;have G6:=(G3.trans g5).trans g6;clear r3 u3 r5 u5 v5 g5 g6 G3;simp! -implicitDefEqProofs [];refine CD.Zrc r6 u6 rfl v6 tn (λx hx=>by
  simp only[wr,ay,bQ,or_false]at hx;rcases hx with rfl|rfl|rfl|rfl<;>decide) (by decide) (by show 0<=st/\st<=4;lia) λo1 o2 M7 K7 ol1 ol2 on r7 u7=>?_
 have v7:=K7.get v6;have G7:=G6.trans (K7.gr G6.bag);rw[Zl1]at u7;simp! -implicitDefEqProofs [];have S:=CD.ZlN (k:=st.toNat) (CC.Zvd 0) (show st.toNat<=4 by lia) tn.det
 have NrL:Nr 1000000 (sg (decide (a*d-b*c<0)) st.toNat (wr.map (gg a b c d))):=λx hx=>by
  have:=CD.Zrb (neg:=decide (a*d-b*c<0)) (k:=st.toNat) (rs:=wr) (λx hx=>by
   simp only[wr,ay,bQ,or_false]at hx;rcases hx with rfl|rfl|rfl|rfl<;>decide) tn x hx
  lia
 have ll:(sg (decide (a*d-b*c<0)) st.toNat (wr.map (gg a b c d))).length=4:=by rw[Zcn];rfl
 have lh:(sg (decide (a*d-b*c<0)) st.toNat (wh l w g)).length=4:=by rw[Zcn];rfl
 have iw:∀{m:Pt},Win (sg (decide (a*d-b*c<0)) st.toNat (wr.map (gg a b c d))) (sg (decide (a*d-b*c<0)) st.toNat (wh l w g)) (ip (gm a b c d m))↔Win wr (wh l w g) (ip m):=λ{m}=>Zjv tn.det rfl;have hw:∀x∈sg (decide (a*d-b*c<0)) st.toNat (wh l w g),x.den ∣ 1/\Sz 14 x:=λx hx=>ZrI ⋯ ⋯ hg1 (ZdE.mp hx)
 change Smo (sg (decide (a*d-b*c<0)) st.toNat (wr.map (gg a b c d)))at S
 generalize sg (decide (a*d-b*c<0)) st.toNat (wr.map (gg a b c d))=ls at *;generalize sg (decide (a*d-b*c<0)) st.toNat (wh l w g)=ms at *;have f8:(M7++[SO.lst []])[M7.length]?=some (.lst (prs (([]:List Pt).map (gm a b c d)))):=by simp[prs]
 have K8:Kp M7 (M7++[SO.lst []]):=Kp.app;generalize M7++[SO.lst []]=M8 at *;generalize M7.length=of at *;rw[show((g:Int)+1).toNat=g+1 by lia]
 refine Zby (λi ρ M'=>Kp M7 M'/\∃Z f x10,ρ=[some (.ref n),some (.ref o),some (.int w),some (.int l),some (.int g),some (.ref o3),some (.ref p),some (.ref o1),some (.ref o2),some (.ref f),x10]/\Zs l w i Z/\M'[f]?=some (.lst (prs (Z.map (gm a b c d))))) ⟨K8,[],of,_,rfl,⟨.nil,λm=>⟨λz=>(by cases z),λz=>by have:=z.2;lia⟩,by simp⟩,f8⟩ ?_ ?_
 .rintro i ρ M9 hi ⟨K9,Z,f,x10,rfl,zs,f9⟩;have v9:=K9.get v7;have hp9:=Zy v9;have zl:=zs.len;have zb:i*(w+1)+(w+1)<=(g+1)*(w+1):=by rw[<-nD];exact eU _ ⋯
  simp! -implicitDefEqProofs [ZaG];rw[show((w:Int)+1).toNat=w+1 by lia]
  refine Zws (λρ=>∃x,ρ=[x,some (.int l),some (.ref p),some (.int (0+(i:Int)))]) (λ(x:Nat)=>pr (gm a b c d ((x:Int)-l,(i:Int))).1 (gm a b c d ((x:Int)-l,(i:Int))).2) ⋯ ⟨_,rfl⟩ ?_ ?_
  .rintro x hx ρ L ⟨y,rfl⟩;have v10:(M9++L)[p]?=some (tb a b c d):=by rw[Zc3 hp9];exact v9
   have:=ZrC (m:=((x:Int)-l,0+(i:Int))) (Q:=λy M2=>y=pr (gm a b c d ((x:Int)-l,(i:Int))).1 (gm a b c d ((x:Int)-l,(i:Int))).2/\M2=M9++L) (E:=λ_ _=>False) v10 tn ⟨by show((x:Int)-l).natAbs<=1000000;lia,by show(0+(i:Int)).natAbs<=1000000;lia⟩
   simp! -implicitDefEqProofs [];refine⟨⟨_,rfl⟩,?_⟩;rw[this,Int.zero_add];exact⟨rfl,rfl⟩
  have er:(aI (w+1)).map (λ(x:Nat)=>pr (gm a b c d ((x:Int)-l,(i:Int))).1 (gm a b c d ((x:Int)-l,(i:Int))).2)=prs ((Zg4 l w i).map (gm a b c d)):=by
   unfold prs Zg4;rw[bX,bX];rfl
  rw[er];have f10:=(Kp.app (L:=[SO.lst (prs ((Zg4 l w i).map (gm a b c d)))])).get f9;have e10:(M9++[SO.lst (prs ((Zg4 l w i).map (gm a b c d)))])[M9.length]?=some (.lst (prs ((Zg4 l w i).map (gm a b c d)))):=by simp
  have K10:=K9.trans (Kp.app (L:=[SO.lst (prs ((Zg4 l w i).map (gm a b c d)))]));generalize M9++[SO.lst (prs ((Zg4 l w i).map (gm a b c d)))]=M10 at *;have ln:(Zg4 l w i).length=w+1:=by simp[Zg4]
  simp! -implicitDefEqProofs [f10,e10,ZL,af,ln,zl];refine⟨⋯,K10.trans Kp.app,_,_,_,rfl,zs.next,?_⟩
  rw[dj];simp
 .rintro ρ M9 ⟨K9,Z,f,x10,rfl,zs,f9⟩;have zl:=zs.len;have nz:(Z.map (gm a b c d)).Nodup:=cT.mpr (zs.nd.imp λne e=>ne (Zgz tn.det e));obtain⟨W,eW,pw,mW,lW⟩:=Zl0 nz;rw[af]at lW;have mem:∀m,m∈W↔Win ls ms (ip m):=λm=>by
   rw[mW,aV,<-ZrA tn.det m,iw,ZkY,<-zs.mem];constructor
   .rintro⟨z,hz,e⟩;rw[<-Zgz tn.det e];exact hz
   .intro h;exact⟨_,h,rfl⟩
  simp! -implicitDefEqProofs [];refine Zjy (K9.get r7) S NrL ⋯ (K9.get u7) ⋯ ⟨1,by decide,hw⟩ pw mem ⋯ λod M10 K10 lo f10=>?_
  have f9:=K10.get f9;have G10:=(G7.trans (K9.gr G7.bag)).trans (K10.gr (G7.trans (K9.gr G7.bag)).bag);simp! -implicitDefEqProofs [];refine ZgA f9 (by rw[af];lia) rfl ?_
  have f11:=(Kp.app (L:=[SO.lst (prs ((Z.map (gm a b c d)).map sw))])).get f10;have e11:(M10++[SO.lst (prs ((Z.map (gm a b c d)).map sw))])[M10.length]?=some (.lst (prs ((Z.map (gm a b c d)).map sw))):=by simp
  have G11:=G10.app2 [SO.lst (prs ((Z.map (gm a b c d)).map sw))];generalize M10++[SO.lst (prs ((Z.map (gm a b c d)).map sw))]=M11 at *;simp! -implicitDefEqProofs [ZrG e11 (by rw[af];lia) eW]
  have f12:=(Kp.app (L:=[SO.lst (prs (W.map sw))])).get f11;have e12:(M11++[SO.lst (prs (W.map sw))])[M11.length]?=some (.lst (prs (W.map sw))):=by simp
  have G12:=G11.app2 [SO.lst (prs (W.map sw))];generalize M11++[SO.lst (prs (W.map sw))]=M12 at *;refine ZgA e12 (by rw[af];lia) rfl ?_
  have ss:(W.map sw).map sw=W:=by rw[bX,show sw∘sw=id from rfl,jP]
  rw[ss];have q1:eqF 12 (M12++[SO.lst (prs W)]) (.ref od) (.ref M12.length)=some (decide (W=W)):=DL.ZiM ((Kp.app (L:=[SO.lst (prs W)])).get f12) (by simp)
  simp! -implicitDefEqProofs [q1];exact q _ (G12.app2 _)
end
theorem ZrK(hb:Nr B rs)(hB:0<=B)(hn:rs≠[]):Nr (2*B) (ins rs k ((cy rs k).1+(cy rs (k+1)).1,(cy rs k).2+(cy rs (k+1)).2)):=by
 have h1:=hb _ (Zav (i:=(k:Int)) hn);have h2:=hb _ (Zav (i:=(k:Int)+1) hn);refine Nr.ins (λp hp=>?_) (by simp only;lia)
 have:=hb p hp
 lia
theorem Zui(h1:M[x]?=some (.lst (prs rs)))(h2:M[y]?=some (.lst (rts hs)))(h3:M[z]?=some (.lst (prs rs)))(h4:M[w]?=some (.lst (rts hs))):eqF 12 M (.tup [.ref x,.ref y]) (.tup [.ref z,.ref w])=some true:=by
 show eqL (eqF 11 M) [.ref x,.ref y] [.ref z,.ref w]=some true;simp only[eqL,CU.ZiM (k:=8) h1 h3,CU.ZtV (k:=8) h2 h4];simp
theorem ZrL(bq:Bq rs)(e:hs.length=rs.length)(hz:∀x∈hs,x<=21)(m:Pt)(w:Win rs hs (ip m)):(-22<=m.1/\m.1<130)/\ -22<=m.2/\m.2<50:=by
 have key:∀r∈rs,-21<=pd m r:=λr hr=>by
  obtain⟨i,hi,rfl⟩:=bF hr
  have:=w i hi
  rw[Zbj,ZeU ⋯,ZaP hi]at this
  have h2:=hz _ (cA (by lia:i<hs.length))
  have c:((-21:Int):Rat)= -21:=rfl;exact cL.mp (by rw[c];grind)
 obtain⟨b1,b2,b3⟩:=bq;have k1:=key _ b1;have k2:=key _ b2;unfold pd at *;rcases b3 with b3|⟨b3,k,k0,k3,b4⟩
 .have k3:=key _ b3;unfold pd at k3;simp only at *;lia
 .have k4:=key _ b3;have k5:=key _ b4;unfold pd at k4 k5;simp only at *
  have:k=0\/k=1\/k=2\/k=3:=⋯
  rcases this with rfl|rfl|rfl|rfl<;>lia
theorem Zn5{ns:List Int}{i:Nat}(hi0:i<1000)(hN:∀x2 x3 x4 x5 x6 x7 x8 x9 x10 x11 x12 x13 M',N [some (.rol (ns.map D.int)),some (.int i),x2,x3,x4,x5,x6,x7,x8,x9,x10,x11,x12,x13] M'):wS (Zd9 [some (.rol (ns.map D.int)),some (.int i),x2,x3,x4,x5,x6,x7,x8,x9,x10,x11,x12,x13] M) N R B C E:=by
 simp![Zd9];refine CB.ZnG hi0 λa b ha=>?_;have B0:Bag M.length (M++[.lst [.int a,.int b]]):=⟨a,b,ha,by simp⟩
 generalize M++[SO.lst [.int a,.int b]]=M0 at *;generalize M.length=n at *;simp![Zq];refine CD.Zq7 (by decide) B0 λss o M1 sb s2 s3 s4 s5 g1=>?_
 obtain⟨s1,bq⟩:=sb;have hno:o≠n:=by have:=B0.lt;lia
 simp! -implicitDefEqProofs [];refine CB.ZY g1.bag (by decide) λt M2 t0 t1 g2=>?_
 simp! -implicitDefEqProofs [];refine CB.ZY g2.bag (by decide) λt' M3 t0' t1' g3=>?_
 have s6:=CA.Gr.up (CA.Gr.up s5 g2 hno) g3 hno;obtain⟨more,hm,hm1⟩:∃more:Nat,(t*if decide (t'=5)=true then 1 else 0)=(more:Int)/\more<=16:=by
  by_cases z:t'=5
  .exact⟨t.toNat,by rw[if_pos (decide_eq_true z)];lia,⋯⟩
  .exact⟨0,by rw[if_neg (by simpa using z)];lia,⋯⟩
 simp! -implicitDefEqProofs [hm];rw[eN];have B3:=g3.bag;clear s5 g1 g2 g3;refine Zby (λj ρ M'=>∃rs o x5,ρ=[some (.rol (ns.map D.int)),some (.int i),some (.ref n),some (.ref o),some (.int more),x5,x6,x7,x8,x9,x10,x11,x12,x13]/\(Smo rs/\Bq rs)/\Nr (7*2^j) rs/\rs.length<=14+j/\o≠n/\M'[o]?=some (.lst (prs rs))/\Bag n M') ⟨ss,o,_,rfl,⟨s1,bq⟩,by simpa using s2,⋯,hno,s6,B3⟩ ?_ ?_
 .clear s6 s1 bq s2 s3 s4 hno B3;rintro j ρ M4 hj ⟨rs,o,x5,rfl,⟨s1,bq⟩,nr,ln,hno,r4,B4⟩;have sl:=s1.len;have p2:(2:Int)^j<=2^16:=by exact_mod_cast bI (by decide:1<=2) (by lia:j<=16)
  have p0:(0:Int)<2^j:=Int.pow_pos (by decide)
  simp! -implicitDefEqProofs [Zgy,r4];refine CB.ZY B4 ⋯ λk M5 k0 k1 g5=>?_
  have r5:=CA.Gr.up r4 g5 hno;obtain⟨k,rfl⟩:∃z:Nat,k=z:=⟨k.toNat,⋯⟩
  simp! -implicitDefEqProofs [];refine CC.ZkO r5 s1 (λx hx=>by have:=nr x hx;lia) ⋯ ⋯ λm M6 m6 r6 l6 k6=>?_
  have K6:Kp M5 M6:=⟨l6,k6⟩;have hm:m≠n:=by have:=g5.bag.lt;lia
  simp! -implicitDefEqProofs [];exact⟨_,m,_,rfl,⟨s1.ins ⋯,bq.ins⟩,by rw[Int.pow_succ,show(7:Int)*(2^j*2)=2*(7*2^j)by grind];exact ZrK nr ⋯ s1.ne,by rw[ZdY ⋯];lia,hm,r6,K6.bag g5.bag⟩
 clear s6 s1 bq s2 s3 s4 hno B3 hm;rintro ρ M4 ⟨rs,o,x5,rfl,⟨s1,bq⟩,nr,ln,hno,r4,B4⟩;have sl:=s1.len;simp! -implicitDefEqProofs [r4];refine Zju ⋯ B4 λhs oh M5 hl hg ho r5h g5=>?_
 have r5:=CA.Gr.up r4 g5 hno;have hoh:oh≠n:=by have:=B4.lt;lia
 simp! -implicitDefEqProofs [];refine CD.Zi3 g5.bag λa b c d p M6 tn pl v6 g6=>?_;have r6:=CA.Gr.up r5 g6 hno;have h6:=CA.Gr.up r5h g6 hoh;have hpn:p≠n:=by have:=g5.bag.lt;lia
 have B6:=g6.bag;clear r4 r5 r5h g5 g6 B4;simp! -implicitDefEqProofs [];refine Ztq (λρ M'=>∃a b c d p,ρ=[some (.rol (ns.map D.int)),some (.int i),some (.ref n),some (.ref o),some (.int more),x5,some (.ref oh),some (.ref p),x8,x9,x10,x11,x12,x13]/\Tn 14 a b c d/\(Nr 1000000 rs/\∀x∈rs,(-1000000<=(gg a b c d x).1/\(gg a b c d x).1<=1000000)/\ -1000000<=(gg a b c d x).2/\(gg a b c d x).2<=1000000)/\p≠n/\M'[p]?=some (tb a b c d)/\Kp M6 M') ?_ ?_
 .have p2:(2:Int)^more<=2^16:=by exact_mod_cast bI (by decide:1<=2) hm1
  have p0:(0:Int)<2^more:=Int.pow_pos (by decide)
  have n6:Nr 1000000 rs:=λx hx=>by have:=nr x hx;lia
  refine brS (λz=>?_) (λz=>?_)
  .simp! -implicitDefEqProofs [];refine⟨1,0,0,1,_,rfl,⟨by decide,by decide,by decide,by decide,.inl rfl⟩,⟨n6,λx hx=>?_⟩,by have:=B6.lt;lia,by simp[tb],Kp.app⟩
   have:=n6 x hx
   unfold gg;simp only;lia
  .simp! -implicitDefEqProofs [];have m0:more=0:=⋯
   subst m0;refine⟨a,b,c,d,p,rfl,tn,⟨n6,λx hx=>?_⟩,hpn,v6,Kp.refl⟩;have h7:Nr 7 rs:=λy hy=>by have:=nr y hy;lia
   have:=CD.Zrb (neg:=false) (k:=0) h7 tn (gg a b c d x) (ZdE.mpr (aV.mpr ⟨x,hx,rfl⟩))
   lia
 clear v6 pl hpn tn a b c d p;rintro ρ M7 ⟨a,b,c,d,p,rfl,tn,⟨n6,n7⟩,hpn,v7,K7⟩;have r7:=K7.get r6;have h7:=K7.get h6;have B7:=K7.bag B6;clear r6 h6 K7 B6 nr;simp! -implicitDefEqProofs [r7];refine CB.ZY B7 ⋯ λst M8 st0 st1 g8=>?_
 have r8:=CA.Gr.up r7 g8 hno;have h8:=CA.Gr.up h7 g8 hoh;have v8:=CA.Gr.up v7 g8 hpn;simp! -implicitDefEqProofs [];refine CD.ZlO r8 h8 (by rw[ZH];exact hl) v8 tn n6 ⋯ ⋯ λo1 o2 M9 K9 ol1 ol2 on r9 u9=>?_
 rw[Zl1]at u9;have S:=CD.ZlN (k:=st.toNat) s1 ⋯ tn.det
 have NrL:Nr 1000000 (sg (decide (a*d-b*c<0)) st.toNat (rs.map (gg a b c d))):=λx hx=>by
  obtain⟨y,hy,rfl⟩:=aV.mp (ZdE.mp hx);exact n7 y hy
 have ll:(sg (decide (a*d-b*c<0)) st.toNat (rs.map (gg a b c d))).length=rs.length:=by rw[Zcn,af]
 have lh:(sg (decide (a*d-b*c<0)) st.toNat hs).length=rs.length:=by rw[Zcn,hl]
 have iw:∀{m:Pt},Win (sg (decide (a*d-b*c<0)) st.toNat (rs.map (gg a b c d))) (sg (decide (a*d-b*c<0)) st.toNat hs) (ip (gm a b c d m))↔Win rs hs (ip m):=λ{m}=>Zjv tn.det hl;have hz:∀x∈hs,Sz 14 x/\x<=21:=by obtain⟨_,_,h⟩:=hg;exact λx hx=>(h x hx).2
 have bxm:=ZrL bq hl λx hx=>(hz x hx).2;have hgl:∃Bt:Nat,(0<Bt/\Bt<2^14)/\∀x∈sg (decide (a*d-b*c<0)) st.toNat hs,x.den ∣ Bt/\Sz 14 x:=by
  obtain⟨Bt,hb,hx⟩:=hg;exact⟨Bt,hb,λx hm=>⟨(hx x (ZdE.mp hm)).1,(hx x (ZdE.mp hm)).2.1⟩⟩
 generalize sg (decide (a*d-b*c<0)) st.toNat (rs.map (gg a b c d))=ls at *;generalize sg (decide (a*d-b*c<0)) st.toNat hs=ms at *;have r9o:=K9.get r8;have h9o:=K9.get h8;have v9:=K9.get v8;have B9:=K9.bag g8.bag;have n1:o1≠n/\o2≠n:=by have:=g8.bag.lt;lia
 clear r7 h7 v7 r8 h8 v8 K9 g8 B7 B0 ol1 ol2 on;simp! -implicitDefEqProofs [];refine Zn3 r9o n6 ⋯ h9o hl (λx hx=>(hz x hx).1) bq.1 bq.2.1 bxm λF of M10 ndF mF K10 lo f10=>?_
 have v10:=K10.get v9;have r10:=K10.get r9;have u10:=K10.get u9;have B10:=K10.bag B9;have lF:=ZlZ (u:=(-22,-22)) 152 72 ndF λm hm=>by
  have:=bxm m ((mF m).mp hm)
  show(-22<=m.1/\m.1 < -22+152)/\ -22<=m.2/\m.2 < -22+72;lia
 clear r9o h9o r9 u9 v9 B9 K10 lo;simp! -implicitDefEqProofs [];have hp10:=Zy v10;refine ZrH (f:=gm a b c d) (R:=[some (.ref p)]) f10 ⋯ rfl (λx hx L=>?_) ?_
 .have:=bxm x ((mF x).mp hx)
  have v11:(M10++L)[p]?=some (tb a b c d):=by rw[Zc3 hp10];exact v10
  simp! -implicitDefEqProofs [ZrC v11 tn (m:=x) ⋯]
 have nz:(F.map (gm a b c d)).Nodup:=cT.mpr (ndF.imp λne e=>ne (Zgz tn.det e));obtain⟨W,eW,pw,mW,lW⟩:=Zl0 nz;rw[af]at lW;have mem:∀m,m∈W↔Win ls ms (ip m):=λm=>by
  rw[mW,aV,<-ZrA tn.det m,iw,<-mF];constructor
  .rintro⟨z,hz,e⟩;rw[<-Zgz tn.det e];exact hz
  .intro h;exact⟨_,h,rfl⟩
 have e11:(M10++[SO.lst (prs (F.map (gm a b c d)))])[M10.length]?=some (.lst (prs (F.map (gm a b c d)))):=by simp
 have r11:=(Kp.app (L:=[SO.lst (prs (F.map (gm a b c d)))])).get r10;have u11:=(Kp.app (L:=[SO.lst (prs (F.map (gm a b c d)))])).get u10;have B11:=B10.app [SO.lst (prs (F.map (gm a b c d)))];generalize M10++[SO.lst (prs (F.map (gm a b c d)))]=M11 at *;generalize M10.length=om at *;simp! -implicitDefEqProofs [];refine ZgA e11 (by rw[af];lia) rfl ?_
 have e12:(M11++[SO.lst (prs ((F.map (gm a b c d)).map sw))])[M11.length]?=some (.lst (prs ((F.map (gm a b c d)).map sw))):=by simp
 have r12:=(Kp.app (L:=[SO.lst (prs ((F.map (gm a b c d)).map sw))])).get r11;have u12:=(Kp.app (L:=[SO.lst (prs ((F.map (gm a b c d)).map sw))])).get u11;have B12:=B11.app [SO.lst (prs ((F.map (gm a b c d)).map sw))];generalize M11++[SO.lst (prs ((F.map (gm a b c d)).map sw))]=M12 at *;generalize M11.length=os at *;simp! -implicitDefEqProofs [ZrG e12 (by rw[af];lia) eW]
 have e13:(M12++[SO.lst (prs (W.map sw))])[M12.length]?=some (.lst (prs (W.map sw))):=by simp
 have r13:=(Kp.app (L:=[SO.lst (prs (W.map sw))])).get r12;have u13:=(Kp.app (L:=[SO.lst (prs (W.map sw))])).get u12;have B13:=B12.app [SO.lst (prs (W.map sw))];generalize M12++[SO.lst (prs (W.map sw))]=M13 at *;refine ZgA e13 (by rw[af];lia) rfl ?_
 have ss:(W.map sw).map sw=W:=by rw[bX,show sw∘sw=id from rfl,jP]
 rw[ss];have d14:(M13++[SO.lst (prs W)])[M13.length]?=some (.lst (prs W)):=by simp
 have r14:=(Kp.app (L:=[SO.lst (prs W)])).get r13;have u14:=(Kp.app (L:=[SO.lst (prs W)])).get u13;have B14:=B13.app [SO.lst (prs W)];generalize M13++[SO.lst (prs W)]=M14 at *;generalize M13.length=od at *;clear e11 r10 u10 e12 r11 u11 e13 r12 u12 r13 u13 B10 B11 B12 B13 f10 v10 hp10;have u15:=(Kp.app (L:=[SO.lst (prs ls)])).get u14;simp! -implicitDefEqProofs [r14,u15];have ls1:=Zy r14;have l2:=Zy u14;have ld:=Zy d14;have a16:(M14++[SO.lst (prs ls),SO.lst (rts ms)])[M14.length]?=some (.lst (prs ls)):=by rw[ZiJ];rfl
 have b16:(M14++[SO.lst (prs ls),SO.lst (rts ms)])[M14.length+1]?=some (.lst (rts ms)):=by rw[Zof];rfl
 have r16:=(Kp.app (L:=[SO.lst (prs ls),SO.lst (rts ms)])).get r14;have u16:=(Kp.app (L:=[SO.lst (prs ls),SO.lst (rts ms)])).get u14;have d16:=(Kp.app (L:=[SO.lst (prs ls),SO.lst (rts ms)])).get d14;have B16:=B14.app [SO.lst (prs ls),SO.lst (rts ms)];generalize M14++[SO.lst (prs ls),SO.lst (rts ms)]=M16 at *;generalize M14.length=oa at *;clear r14 u14 d14 u15 B14;refine Zjy a16 S NrL ⋯ b16 ⋯ hgl pw mem ⋯ λog M17 K17 lo r17=>?_
 have d17:=K17.get d16;have q1:eqF 12 M17 (.ref og) (.ref od)=some (decide (W=W)):=DL.ZiM r17 d17;have q2:=Zui (K17.get a16) (K17.get b16) (K17.get r16) (K17.get u16);have a17:=K17.get a16;have b17:=K17.get b16;have B17:=K17.bag B16;have lb:=B16.lt;have l16:=Zy d16;have la:=Zy b16;clear r16 u16 K17 B16;have ty:ZaB M17 (.ref og)=some "list":=by simp only[ZaB,DL.kd,r17]
 have i0:Zcs "list" "list"=true:=by decide
 simp! -implicitDefEqProofs [q1,q2,r17,ty,i0];have lg:=Zy r17;refine⟨⋯,?_⟩
 have d18:(M17.set og (.lst (prs (W++[(0,0)]))))[od]?=some (.lst (prs W)):=by rw[aS ⋯];exact d17
 have a18:(M17.set og (.lst (prs (W++[(0,0)]))))[oa]?=some (.lst (prs ls)):=by rw[aS ⋯];exact a17
 have b18:(M17.set og (.lst (prs (W++[(0,0)]))))[oa+1]?=some (.lst (rts ms)):=by rw[aS ⋯];exact b17
 have B18:Bag n (M17.set og (.lst (prs (W++[(0,0)])))):=by
  obtain⟨x,y,z,h⟩:=B17;exact⟨x,y,z,by rw[aS ⋯];exact h⟩
 generalize M17.set og (.lst (prs (W++[(0,0)])))=M18 at *;refine Zjy a18 S NrL ⋯ b18 ⋯ hgl pw mem ⋯ λoe M19 K19 lo2 r19=>?_
 have q3:eqF 12 M19 (.ref oe) (.ref od)=some (decide (W=W)):=DL.ZiM r19 (K19.get d18);simp! -implicitDefEqProofs [q3];refine CB.ZY (K19.bag B18) (by decide) λy M20 y0 y1 g20=>?_
 simp! -implicitDefEqProofs [];refine brO (λz=>?_) (λz=>?_)
 .simp! -implicitDefEqProofs [];refine ZrJ g20.bag λM21 g21=>?_;simp! -implicitDefEqProofs [];exact hN _ _ _ _ _ _ _ _ _ _ _ _ _
 .simp! -implicitDefEqProofs [];exact hN _ _ _ _ _ _ _ _ _ _ _ _ _
theorem law_true(ns:List Int)(h:ns.length<=63):∃M',ZfC [.rol (ns.map D.int)] []=.ok (.bl true) M':=by
 have w:wO (ZfC [.rol (ns.map D.int)] []) (λd _=>d=.bl true) (λ_ _=>False):=by
  simp![ZfC,Zrv];refine Zby (λ_ ρ _=>∃x1 x2 x3 x4 x5 x6 x7 x8 x9 x10 x11 x12 x13,ρ=[some (.rol (ns.map D.int)),x1,x2,x3,x4,x5,x6,x7,x8,x9,x10,x11,x12,x13]) ⟨_,_,_,_,_,_,_,_,_,_,_,_,_,rfl⟩ ?_ ?_
  .rintro i ρ M hi ⟨x1,x2,x3,x4,x5,x6,x7,x8,x9,x10,x11,x12,x13,rfl⟩;rw[show(0:Int)+(i:Int)=i by lia]
   exact Zn5 ⋯ λ_ _ _ _ _ _ _ _ _ _ _ _ _=>⟨_,_,_,_,_,_,_,_,_,_,_,_,_,rfl⟩
  .rintro ρ M ⟨x1,x2,x3,x4,x5,x6,x7,x8,x9,x10,x11,x12,x13,rfl⟩;simp![Zq]
 obtain⟨d,M',e,e1⟩:=Zgj w;exact⟨M',by rw[e,e1]⟩
end K46
namespace K46
open L2 DL
theorem Zwz{l:PySem.W.OpenLaw}{K:lR->Fg}{T:Fg}(hn:l.most=some 63)(hdf:d.params.defaults=[])(hY:∀(w:c6)(h:Heap),YP w h->(K w.params).In h/\T.In h)(hT:∀w:c6,Zgg (K w.params) T=true)(F:∀(w:c6)(mg:Str->Option ae)(fa:Addr)(h:Heap),(K w.params).In h->h.Ns aR mg->mg d.name=some (.ref fa)->∃fd:iS,(∀(s:aC)(u:ae),my s fd ⟨[u],[]⟩ [("_law_script",u)])/\∀base:Heap,(K w.params).In base->base.Ns aR mg->FnOk l.prog w (K w.params) mg base (CXE l.prog w) 113 fa fd ["_law_script"] (spD (K w.params) ZfC)):PySem.W.WalkO q loose XP YP l.row.toRowW d [] (λf vs=>PySem.call f vs):=
 L2.ZkD (T:=λ_=>T) (n:=63) (k:=113) (x:="_law_script") (CX:=λw=>CXE l.prog w) (sp:=λw=>spD (K w.params) ZfC) hn (by decide) hdf ⟨λ_=>rfl,rfl,by decide,by decide⟩ hY hT F (λ_ _ a ns hl hS=>DL.Zng hS (law_true ns hl)) λ_ _ _ _ _ h=>by obtain⟨_,_,_,_,_,_,_,_,_,_,_,_,_,q⟩:=h;exact q
end K46
open PySem.W PyProof.Rows
set_option maxRecDepth 1000000 in
set_option maxHeartbeats 0 in
theorem PySem.Challenge.cw_rayround_k46_dots_walked_holds : PySem.Challenge.rw_rayround_k46_dots_walked.Holds := by
 w_on
 refine holds_law K46.Zvx λ_=>?_;refine holds_open (q:=K46.qf PySem.Challenge.pw_rayround_k46_dots_walked) (loose:=K46.lo) (Xt:=λs=>xlAt (K46.qf PySem.Challenge.pw_rayround_k46_dots_walked) [] s&&recOk [] s) (XP:=XL (K46.qf PySem.Challenge.pw_rayround_k46_dots_walked) []) (Yf:=Hook.obs K46.Hk) (Ya:=Hook.val K46.Hk) (YP:=Hook.says K46.Hk) (N:=2903) ?hl (Hook.of K46.Hk) (Hook.keeps K46.Hk) (λs e=>xl_of s (mv.mp e).1) XL.keeps (by rfl) (by rfl) (by rfl) (λs e=>recFacts_of (mv.mp e).2) (by rfl) (by first|assumption|decide +kernel) (by decide +kernel) ⟨rfl,rfl,rfl,rfl,rfl,by decide +kernel⟩ ?hw ?hc
 case hl=>exact HD.Zhu rfl (by decide) (λs=>rfl) (by decide) K46.Zsf
 case hw=>w_witness2
 case hc=>
  refine K46.Zwz (l:=PySem.Challenge.rw_rayround_k46_dots_walked) (K:=K46.Kf PySem.Challenge.pw_rayround_k46_dots_walked) (T:=K46.Tf) rfl rfl (λw h Y=>⟨DL.Znh (PySem.W.kIn_of Y),DL.ZkE (PySem.W.kIn_of Y) (by kernel_rfl)⟩) (λw=>by kernel_rfl) ?F
  intro w mg fa h KX G hmg;refine K46.fin KX G hmg ⟨DL.Bs.of KX G ?_,λc v e=>PySem.W.mg_of KX G e,DL.Dfs.of ?_,?_,?_,?_,?_,?_,?_,?_⟩
  all_goals kernel_rfl
